import PyProof.Rows.All
import Wide.All
import KE.KNestM
import OpenK.KOwn
import OpenK.KRaise
import KE.KIsAll
import KE.KTypeName
import Wide.FinOn
import Lean
import PyProof.EqAt
import PyProof.EqKinds
import PyProof.TupleCall
import PyProof.Draws
import PyProof.EnumMake
import KE.KLam
import KE.KMinKey
import PyProof.StrCalls2
import PyProof.Rows.StrIndexOr
import PyProof.CollectIter
import PyProof.ListStr
import KE.KDictLaws
import PyProof.P3Eq
import KE.KSortTup
import KE.KDictList
import PyProof.ZipIter
import PyProof.Rows.ZipGen
import PyProof.SliceStr2
import PyProof.StrBlockI
import PyProof.StrCalls3
import PyProof.StrCalls6
import PyProof.StrCalls5
import KE.KRevIter
import PyProof.FactsAll.range_2
import PySem.Challenge.RW_glowrow_k39_whole_any_packing_read
set_option Elab.async false
set_option linter.all false
set_option maxRecDepth 100000
set_option maxHeartbeats 4000000
namespace L2
open PySem PySem.Spec PyProof.Rows List
abbrev j8:=Sum Int Str
def xG:j8→Value→Bool
 | .inl k,v=>Value.isInt k v
 | .inr x,v=>Value.isStrOf x v
def EB (w:World):j8→Int
 | .inl k=>hashInt k
 | .inr x=>hashStr w x
theorem bC:∀{k:j8} {v:Value},xG k v=true→(∃i t,k=Sum.inl i∧v=Value.int i t)∨(∃x t,k=Sum.inr x∧v=Value.str x t)
 | .inl i,v,h=>by
  obtain⟨t,e⟩:=Value.isInt_shape (k:=i) (v:=v) h;exact .inl ⟨i,t,rfl,e⟩
 | .inr x,v,h=>by
  obtain⟨t,e⟩:=Value.isStrOf_shape (x:=x) (v:=v) h;exact .inr ⟨x,t,rfl,e⟩
theorem Ak (a b:Int):decide ((Sum.inl a:j8)=Sum.inl b)=(a==b):=by
 by_cases e:a=b
 ·subst e;simp
 ·have h:¬(Sum.inl a:j8)=Sum.inl b:=fun q=>e (Sum.inl.inj q)
  rw[decide_eq_false h];exact(beq_eq_false_iff_ne.mpr e).symm
theorem As (a b:Str):decide ((Sum.inr a:j8)=Sum.inr b)=decide (a=b):=by
 by_cases e:a=b
 ·subst e;simp
 ·have h:¬(Sum.inr a:j8)=Sum.inr b:=fun q=>e (Sum.inr.inj q)
  rw[decide_eq_false h,decide_eq_false e]
theorem yw (a:Int)(b:Str):decide ((Sum.inl a:j8)=Sum.inr b)=false:=decide_eq_false (fun q=>nomatch q)
theorem yB (a:Str)(b:Int):decide ((Sum.inr a:j8)=Sum.inl b)=false:=decide_eq_false (fun q=>nomatch q)
def lF (prog:Program)(w:World):PySem.KeyKind prog w j8 where
 is:=xG
 hash:=EB w
 inj:=fun v a b ha hb=>by
  rcases bC ha with⟨i,t,rfl,rfl⟩|⟨x,t,rfl,rfl⟩
  ·rcases bC hb with⟨j,u,rfl,e⟩|⟨y,u,rfl,e⟩
   ·injection e with e1 _;rw[e1]
   ·exact nomatch e
  ·rcases bC hb with⟨j,u,rfl,e⟩|⟨y,u,rfl,e⟩
   ·exact nomatch e
   ·injection e with e1 _;rw[e1]
 byValue:=fun k v h=>by
  rcases bC h with⟨i,t,rfl,rfl⟩|⟨x,t,rfl,rfl⟩ <;> rfl
 pyHash:=fun hv h=>by
  rcases bC hv with⟨i,t,rfl,rfl⟩|⟨x,t,rfl,rfl⟩
  ·exact wpAny_pyHash_int h
  ·exact wpAny_pyHash_str h
 eqBool:=fun hu hv h=>by
  rcases bC hu with⟨i,t,rfl,rfl⟩|⟨x,t,rfl,rfl⟩
  ·rcases bC hv with⟨j,u,rfl,rfl⟩|⟨y,u,rfl,rfl⟩
   ·rw[Ak] at h;exact wpAny_eqBool_int h
   ·rw[yw] at h;exact SeqAt.EqAt.int_str i t y u _ _ _ _ h
  ·rcases bC hv with⟨j,u,rfl,rfl⟩|⟨y,u,rfl,rfl⟩
   ·rw[yB] at h;exact SeqAt.EqAt.str_int x t j u _ _ _ _ h
   ·rw[As] at h;exact wpAny_eqBool_str h
 «strs»:=fun k x t v h=>by
  rcases bC h with⟨i,u,rfl,e⟩|⟨y,u,rfl,e⟩
  ·exact nomatch e
  ·injection e with e1 _
   subst e1;cases v <;> rfl
inductive V where
 | non|bl (b:Bool)|int (i:Int)|str (x:Str)|byt (b:Array UInt8)|flt (b:UInt64)|ref (a:Addr)|ty (n:String)
 deriving DecidableEq
def aW:V→Value→Prop
 | .non,u=>u=Value.none
 | .bl b,u=>u=Value.bool b
 | .int i,u=>∃t,u=Value.int i t
 | .str x,u=>∃t,u=Value.str x t
 | .byt b,u=>∃t,u=Value.bytes b t
 | .flt b,u=>∃t,u=Value.float b t
 | .ref a,u=>u=Value.ref a
 | .ty n,u=>u=Value.type n
abbrev aM:List V→List Value→Prop:=Paired aW
theorem aM.length {xs:List V}{us:List Value}(r:aM xs us):xs.length=us.length:=Paired.length r
theorem aM.get:∀{xs:List V} {us:List Value} {i:Nat} {x:V},aM xs us→xs[i]?=some x→∃u,us[i]?=some u∧aW x u
 | _,_,_,_,.nil,e=>by simp at e
 | _,_,0,_,.cons r _,e=>by simp at e;subst e;exact⟨_,rfl,r⟩
 | _,_,i+1,x,.cons _ t,e=>by
  obtain⟨u,h1,h2⟩:=aM.get (i:=i) (x:=x) t (by simpa using e);exact⟨u,by simpa using h1,h2⟩
theorem aM.set {x:V}{u:Value}(r:aW x u):∀{xs:List V} {us:List Value} (i:Nat),aM xs us→aM (xs.set i x) (us.set i u)
 | _,_,_,.nil=>.nil
 | _,_,0,.cons _ t=>.cons r t
 | _,_,i+1,.cons q t=>.cons q (aM.set r i t)
theorem aM.append:∀{xs ys:List V} {us ws:List Value},aM xs us→aM ys ws→aM (xs++ys) (us++ws)
 | _,_,_,_,.nil,s=>s
 | _,_,_,_,.cons r t,s=>.cons r (aM.append t s)
theorem aM.take:∀{xs:List V} {us:List Value} (n:Nat),aM xs us→aM (xs.take n) (us.take n)
 | _,_,0,_=>.nil
 | _,_,_+1,.nil=>.nil
 | _,_,n+1,.cons r t=>.cons r (aM.take n t)
theorem aM.drop:∀{xs:List V} {us:List Value} (n:Nat),aM xs us→aM (xs.drop n) (us.drop n)
 | _,_,0,r=>r
 | _,_,_+1,.nil=>.nil
 | _,_,n+1,.cons _ t=>aM.drop n t
def CV:Option V→Option Value→Prop
 | some v,some u=>aW v u
 | none,none=>True
 | _,_=>False
def KV {κ:Type}:List (κ×V)→List (κ×Value)→Prop:=Paired fun(p:κ×V) (q:κ×Value)=>p.1=q.1∧aW p.2 q.2
def kV:j8→V
 | .inl i=>.int i
 | .inr x=>.str x
inductive HO where
 | lst (xs:List V)
 | tup (xs:List V)
 | dK (kvs:List (j8×V))|dT (kvs:List (List j8×V))
 | set (S:Int→Bool) (n:Nat)
 | ins (C dx:Addr) (fs:List (Str×V))
 | own (x:Addr)
 | xd (fs:List (Str×V))
 | met (f x:Addr)
 | rng (lo hi:Int)
 | frz (o:Obj) (u:HO)
 | tbl (ps:Array Value)
 | ext (φ:Heap→Prop)
abbrev Hp:=Addr→Option HO
def cK (H:Hp)(a:Addr)(o:HO):Hp:=fun b=>if b=a then some o else H b
theorem dZ {H:Hp}{a:Addr}{o:HO}:cK H a o a=some o:=by unfold cK;rw[if_pos rfl]
theorem aL {H:Hp}{a b:Addr}{o:HO}(h:b≠a):cK H a o b=H b:=by unfold cK;rw[if_neg h]
theorem oM {H:Hp}{a b:Addr}{o u:HO}(h:H a=some o)(h':H b=some u)(d:o≠u):a≠b:=by
 intro e;subst e;rw[h] at h';exact d (Option.some.inj h')
theorem bh {H:Hp}{a b:Addr}{o:HO}(h:H a=some o)(h':H b=none):a≠b:=by
 intro e;subst e;rw[h] at h';cases h'
section
variable (P:Program)(w:World)
def dr (H:Hp)(h:Heap)(a:Addr):HO→Prop
 | .lst xs=>xs.length≤sizeLine∧∃(its:List Value) (n:Nat),aM xs its∧h.get? a=some {cls:=.type "list",data:=.seq its.toArray n}
 | .tup xs=>xs.length≤sizeLine∧∃its:List Value,aM xs its∧IsTup h a its.toArray
 | .dK kvs=>kvs.length≤sizeLine∧(a==sysModules)=false∧∃vs,KV kvs vs∧h.DictOf (lF P w) a vs
 | .dT kvs=>kvs.length≤sizeLine∧(a==sysModules)=false∧∃xs:List (List j8×Addr×Value),
   Paired (fun(p:List j8×V) (q:List j8×Addr×Value)=>p.1=q.1∧H q.2.1=some (.tup (p.1.map kV))∧aW p.2 q.2.2) kvs xs∧
   ∃o es ep,h.get? a=some o∧o.ExactDict∧o.data=.dict es ep∧es.toList=xs.map (entryOfKey (tupleKind (lF P w)))∧(xs.map (·.1)).Nodup
 | .set S n=>h.SetOf (intKind P w) a S n
 | .ins C dx fs=>H dx=some (.own a)∧fs.length≤1000∧dx≠a∧h.get? a=some (W.instObj C dx)∧
   ∃mA,h.Ns1 dx mA∧(∀f,CV (fs.lookup f) (mA f))∧PySem.Within mA (fs.map (·.1))
 | .own _=>∃o,h.get? a=some o
 | .xd fs=>∃mA,h.Ns1 a mA∧∀f,CV (fs.lookup f) (mA f)
 | .rng lo hi=>∃t u v,h.get? a=some {cls:=.type "range",data:=.fields #[.int lo t,.int hi u,.int 1 v]}
 | .frz o u=>h.get? a=some o∧dr H h a u
 | .tbl ps=>h.get? a=some {cls:=.none,data:=.fields ps}
 | .met f x=>h.get? a=some (W.methodObj (.ref f) (.ref x))
 | .ext φ=>φ h∧(∃o,h.get? a=some o)∧∀h1 h2:Heap,φ h1→(∀o,h1.get? a=some o→h2.get? a=some o)→φ h2
def i8 (H:Hp)(h:Heap):Prop:=∀a o,H a=some o→dr P w H h a o
end
section
variable {P:Program}{w:World}{H H':Hp}{h h':Heap}{a:Addr}{o:HO}
theorem dr.lt (x:dr P w H h a o):a<h.objs.size:=by
 cases o with
 | lst xs=>obtain⟨_,_,_,_,e⟩:=x;exact Heap.lt_size e
 | tup xs=>obtain⟨_,_,_,p⟩:=x;exact p.lt
 | dK kvs=>obtain⟨_,_,_,_,o,_,_,e,_⟩:=x;exact Heap.lt_size e
 | dT kvs=>obtain⟨_,_,_,_,o,_,_,e,_⟩:=x;exact Heap.lt_size e
 | set S n=>obtain⟨o,_,_,_,e,_⟩:=x;exact Heap.lt_size e
 | ins C dx fs=>obtain⟨_,_,_,e,_⟩:=x;exact Heap.lt_size e
 | own y=>obtain⟨_,e⟩:=x;exact Heap.lt_size e
 | xd fs=>obtain⟨_,⟨_,_,_,e,_⟩,_⟩:=x;exact Heap.lt_size e
 | rng lo hi=>obtain⟨_,_,_,e⟩:=x;exact Heap.lt_size e
 | frz ob u=>obtain⟨e,_⟩:=x;exact Heap.lt_size e
 | tbl ps=>exact Heap.lt_size (show h.get? a=some _ from x)
 | met f y=>exact Heap.lt_size (show h.get? a=some _ from x)
 | ext φ=>obtain⟨_,⟨_,e⟩,_⟩:=x;exact Heap.lt_size e
theorem Paired.mapP {α β:Type}{F G:α→β→Prop}:∀{l₁:List α} {l₂:List β},Paired F l₁ l₂→(∀a b,F a b→G a b)→Paired G l₁ l₂
 | _,_,.nil,_=>.nil
 | _,_,.cons r t,f=>.cons (f _ _ r) (Paired.mapP t f)
theorem dr.stay (x:dr P w H h a o)(k:∀b u,(b=a∨H b=some (.own a))→h.get? b=some u→h'.get? b=some u)
  (ho:∀b,H b=some (.own a)→H' b=some (.own a)) (ht:∀b xs,H b=some (.tup xs)→H' b=some (.tup xs)):dr P w H' h' a o:=by
 induction o with
 | lst xs=>obtain⟨z,its,n,r,e⟩:=x;exact⟨z,its,n,r,k _ _ (.inl rfl) e⟩
 | tup xs=>obtain⟨z,its,r,ob,e,c⟩:=x;exact⟨z,its,r,ob,k _ _ (.inl rfl) e,c⟩
 | dK kvs=>obtain⟨z,y,vs,r,ob,es,ep,e,c⟩:=x;exact⟨z,y,vs,r,ob,es,ep,k _ _ (.inl rfl) e,c⟩
 | dT kvs=>
  obtain⟨z,y,xs,r,ob,es,ep,e,c⟩:=x;exact⟨z,y,xs,Paired.mapP r fun p q z=>⟨z.1,ht _ _ z.2.1,z.2.2⟩,ob,es,ep,k _ _ (.inl rfl) e,c⟩
 | set S n=>obtain⟨ob,es,ep,t,e,c⟩:=x;exact⟨ob,es,ep,t,k _ _ (.inl rfl) e,c⟩
 | ins C dx fs=>
  obtain⟨d,z,ne,e,mA,⟨od,es,ep,e2,c⟩,r⟩:=x;exact⟨ho _ d,z,ne,k _ _ (.inl rfl) e,mA,⟨od,es,ep,k _ _ (.inr d) e2,c⟩,r⟩
 | own y=>obtain⟨ob,e⟩:=x;exact⟨ob,k _ _ (.inl rfl) e⟩
 | xd fs=>obtain⟨mA,⟨od,es,ep,e,c⟩,r⟩:=x;exact⟨mA,⟨od,es,ep,k _ _ (.inl rfl) e,c⟩,r⟩
 | rng lo hi=>obtain⟨t,u,v,e⟩:=x;exact⟨t,u,v,k _ _ (.inl rfl) e⟩
 | frz ob u ih=>obtain⟨e,q⟩:=x;exact⟨k _ _ (.inl rfl) e,ih q⟩
 | tbl ps=>
  have e:h.get? a=some {cls:=.none,data:=.fields ps}:=x;show h'.get? a=some {cls:=.none,data:=.fields ps};exact k a _ (.inl rfl) e
 | met f y=>
  have e:h.get? a=some (W.methodObj (.ref f) (.ref y)):=x;show h'.get? a=some (W.methodObj (.ref f) (.ref y));exact k a _ (.inl rfl) e
 | ext φ=>obtain⟨p,⟨o,e⟩,st⟩:=x;exact⟨st _ _ p fun o q=>k _ _ (.inl rfl) q,⟨o,k _ _ (.inl rfl) e⟩,st⟩
theorem i8.lt (x:i8 P w H h)(e:H a=some o):a<h.objs.size:=(x a o e).lt
theorem i8.fresh (x:i8 P w H h)(e:h.objs.size≤a):H a=none:=by
 cases q:H a with
 | none=>rfl
 | some u=>exact absurd (Nat.lt_of_lt_of_le (x.lt q) e) (Nat.lt_irrefl _)
theorem i8.kept (x:i8 P w H h)(k:∀b u,h.get? b=some u→h'.get? b=some u):i8 P w H h':=fun a o e=>
 (x a o e).stay (fun b u _ q=>k b u q) (fun _ q=>q) fun _ _ q=>q
theorem i8.laid (x:i8 P w H h)(k:∀b u,h.get? b=some u→h'.get? b=some u)(hp:h.objs.size≤a)(new:dr P w (cK H a o) h' a o):i8 P w (cK H a o) h':=fun b u e=>by
 have hn:=x.fresh hp
 by_cases hb:b=a
 ·subst hb;rw[dZ] at e;cases e;exact new
 ·rw[aL hb] at e;exact(x b u e).stay (fun c v _ q=>k c v q) (fun c q=>by rw[aL (bh q hn)];exact q) fun c xs q=>by rw[aL (bh q hn)];exact q
end
def Rd (H:Hp)(a:Addr)(u:HO):Prop:=H a=some u∨∃o,H a=some (.frz o u)
theorem Rd.ok {P:Program}{w:World}{H:Hp}{h:Heap}{a:Addr}{u:HO}(r:Rd H a u)(x:i8 P w H h):dr P w H h a u:=by
 rcases r with r|⟨o,r⟩
 ·exact x a u r
 ·obtain⟨_,q⟩:=x a _ r;exact q
def C8:Option HO→Prop
 | some (.lst _)=>True
 | some (.dK _)=>True
 | some (.dT _)=>True
 | some (.set _ _)=>True
 | some (.ins _ _ _)=>True
 | some (.ext _)=>True
 | _=>False
section
variable {P:Program}{w:World}{H:Hp}{h h':Heap}{x e:Addr}{o':HO}
theorem i8.write (ok:i8 P w H h)(mu:C8 (H x))(he:e=x∨H e=some (.own x))(k:∀b u,b≠e→h.get? b=some u→h'.get? b=some u)(heo:∃u,h'.get? e=some u)
  (new:dr P w (cK H x o') h' x o'):i8 P w (cK H x o') h':=fun b u q=>by
 have nown:∀c y,H c=some (.own y)→c≠x:=fun c y r z=>by subst z;rw[r] at mu;exact mu
 have ntup:∀c xs,H c=some (.tup xs)→c≠x:=fun c xs r z=>by subst z;rw[r] at mu;exact mu
 by_cases hb:b=x
 ·subst hb;rw[dZ] at q;cases q;exact new
 ·rw[aL hb] at q
  by_cases hbe:b=e
  ·have q':H b=some (.own x):=by
    rcases he with z|z
    ·exact absurd (hbe.trans z) hb
    ·rw[hbe];exact z
   rw[q] at q';cases q';obtain⟨v,hv⟩:=heo;exact⟨v,by rw[hbe];exact hv⟩
  ·refine(ok b u q).stay (fun c v hc r=>k c v ?_ r) (fun c r=>by rw[aL (nown c b r)];exact r) fun c xs r=>by rw[aL (ntup c xs r)];exact r
   rcases hc with rfl|hc
   ·exact hbe
   ·rintro rfl;rcases he with z|z
    ·exact nown c b hc z
    ·rw[hc] at z;cases z;exact hb rfl
end
structure Un (fs ex:List Addr)(H H':Hp)(h h':Heap):Prop where
 keep:∀b o,h.get? b=some o→H b=none→b∉fs→b∉ex→h'.get? b=some o
 slot:∀b o,h.get? b=some o→H b=none→b∈fs→b∉ex→∃sl,h'.get? b=some {o with slots:=sl}
 free:∀b o,h.get? b=some o→H b=none→b∉ex→H' b=none
 there:∀b o,h.get? b=some o→b∉ex→∃o',h'.get? b=some o'
 tups:∀b xs,H b=some (.tup xs)→H' b=some (.tup xs)
 frzs:∀b o u,H b=some (.frz o u)→H' b=some (.frz o u)
 tbls:∀b ps,H b=some (.tbl ps)→∃more,H' b=some (.tbl (ps++more))
section
variable {fs fs' ex ex':List Addr}{H H1 H2:Hp}{h h1 h2 h':Heap}{a x e:Addr}{o:HO}
theorem Un.any (u:Un fs ex H H1 h h1){b:Addr}{ob:Obj}(q:h.get? b=some ob)(n:H b=none)(hx:b∉ex):∃sl,h1.get? b=some {ob with slots:=sl}:=by
 by_cases hb:b∈fs
 ·exact u.slot b ob q n hb hx
 ·exact⟨ob.slots,u.keep b ob q n hb hx⟩
theorem Un.kept (k:∀b u,h.get? b=some u→h'.get? b=some u):Un fs ex H H h h':=
 ⟨fun b ob q _ _ _=>k b ob q,fun b ob q _ _ _=>⟨ob.slots,k b ob q⟩,fun _ _ _ n _=>n,fun b ob q _=>⟨ob,k b ob q⟩,fun _ _ q=>q,fun _ _ _ q=>q,fun _ ps q=>⟨#[],by rw[q];simp⟩⟩
theorem Un.refl:Un fs ex H H h h:=Un.kept fun _ _ q=>q
theorem Un.laid (k:∀b u,h.get? b=some u→h'.get? b=some u)(hp:h.objs.size≤a)(hn:H a=none):Un fs ex H (cK H a o) h h' where
 keep:=fun b u q _ _ _=>k b u q
 slot:=fun b u q _ _ _=>⟨u.slots,k b u q⟩
 free:=fun b u q n _=>by rw[aL (Nat.ne_of_lt (Nat.lt_of_lt_of_le (Heap.lt_size q) hp))];exact n
 there:=fun b u q _=>⟨u,k b u q⟩
 tups:=fun b xs q=>by rw[aL (bh q hn)];exact q
 frzs:=fun b u xs q=>by rw[aL (bh q hn)];exact q
 tbls:=fun b ps q=>⟨#[],by rw[aL (bh q hn),q];simp⟩
theorem Un.write (mu:C8 (H x))(he:e=x∨H e=some (.own x))(k:∀b u,b≠e→h.get? b=some u→h'.get? b=some u)(heo:∃u,h'.get? e=some u):Un fs ex H (cK H x o) h h':=by
 have hx:∀b,H b=none→b≠x:=fun b n z=>by subst z;rw[n] at mu;exact mu
 have hb:∀b,H b=none→b≠e:=fun b n z=>by
  subst z;rcases he with r|r
  ·exact hx b n r
  ·rw[n] at r;cases r
 have hm:∀b u,H b=some u→¬C8 (some u)→b≠x:=fun b u q nm z=>by subst z;rw[q] at mu;exact nm mu
 refine⟨fun b u q n _ _=>k b u (hb b n) q,fun b u q n _ _=>⟨u.slots,k b u (hb b n) q⟩,fun b u q n _=>by rw[aL (hx b n)];exact n,fun b u q _=>?_,
  fun b xs q=>by rw[aL (hm b _ q fun z=>z)];exact q,fun b u xs q=>by rw[aL (hm b _ q fun z=>z)];exact q,fun b ps q=>⟨#[],by rw[aL (hm b _ q fun z=>z),q];simp⟩⟩
 by_cases hbe:b=e
 ·subst hbe;exact heo
 ·exact⟨u,k b u hbe q⟩
end
def trk (h:Heap)(H:Hp):List Addr:=(List.range h.objs.size).filter fun a=>(H a).isSome
def lD (h:Heap)(H:Hp):Heap:=W.hideAll h (trk h H)
theorem pW (h:Heap)(H:Hp):(lD h H).objs.size=h.objs.size:=W.hideAll_size _ _
theorem tj {h:Heap}{H:Hp}{b:Addr}{o:Obj}(e:h.get? b=some o)(n:H b=none):(lD h H).get? b=some o:=
 W.hideAll_get _ e fun hm=>by
  have q:(H b).isSome=true:=(mem_filter.mp hm).2;rw[n] at q;simp at q
theorem xm {h:Heap}{H:Hp}{b:Addr}{o:Obj}(e:(lD h H).get? b=some o):h.get? b=some o∧H b=none:=by
 have e':h.get? b=some o:=W.of_hideAll (trk h H) e;refine⟨e',?_⟩;cases q:H b with
 | none=>rfl
 | some x=>
  have hm:b∈trk h H:=mem_filter.mpr ⟨mem_range.mpr (Heap.lt_size e'),by simp[q]⟩;have z:(lD h H).get? b=none:=W.hideAll_none (trk h H) hm;rw[z] at e;cases e
def wC (g h:Heap)(L:Addr):List (Addr×Obj):=(List.range h.objs.size).filterMap fun a=>if a=L∨(g.get? a).isSome=true then none else(h.get? a).map fun o=>(a,o)
def rest (g h:Heap)(L d:Addr):List (Addr×Obj):=(wC g h L).filter fun p=>decide (p.1≠d)
structure Mod (K:W.Frag)(mg:Str→Option Value)(base:Heap):Prop where
 kin:K.In base
 glob:base.Ns mainGlobals mg
 blt:∃mb,base.Ns builtinsNs mb∧∀x:Str,x≠"__name__"→mb x=bootBuiltins x
 nolimit:base.NoLimit
structure Cx where
 prog:Program
 w:World
 K:W.Frag
 mg:Str→Option Value
 base:Heap
 A:Around
 N:List Str
 s₀:Shared
 H₀:Hp
 env:Env
 outer:List Env
 stack:List Env
 ex:List Addr
 fn:Str→Bool
 calm:Bool
 pn:List (Addr×Obj)
 xe:Value→Shared→Prop
def kf (l:List Env):List Addr:=l.filterMap (·.frame)
abbrev Cx.fs (X:Cx):List Addr:=kf X.outer
def AJ (sc:Scope)(x:Str):Prop:=sc.names.lookup x=some .local∨sc.names.lookup x=some .cell∨sc.names.lookup x=some .free
def ny (sc:Scope)(x:Str):Prop:=sc.names.lookup x=some .local∨sc.names.lookup x=some .cell
def DT (env:Env)(h:Heap)(m:Str→Option Value)(x:Str)(u:Value):Prop:=
 (env.kindOf x=some .local∧m x=some u)∨((env.kindOf x=some .cell∨env.kindOf x=some .free)∧∃c,env.cells.lookup x=some c∧h.IsCell c (some u))
structure Cx.Ok (X:Cx):Prop where
 mod:Mod X.K X.mg X.base
 kind:X.env.scope.kind=.function
 glob:X.env.globals=mainGlobals
 blt:X.env.builtins=builtinsNs
 above:X.s₀.heap.objs.size≤X.env.locals
 inj:∀x y c,X.env.cells.lookup x=some c→X.env.cells.lookup y=some c→x=y
 has:∀x,(X.env.kindOf x=some .cell∨X.env.kindOf x=some .free)→∃c,X.env.cells.lookup x=some c
 cab:∀x c,X.fn x=true→X.env.cells.lookup x=some c→X.s₀.heap.objs.size≤c
 hd:X.calm=true→X.A.handled=none
 frames:X.A.frames=some X.stack
 stk:X.stack=X.outer∨(X.stack=X.env::X.outer∧X.env.frame=some X.env.locals)
 exf:∀b∈X.ex,b≠X.env.locals∧∀x c,X.env.cells.lookup x=some c→c≠b
 bs:∀b o,X.base.get? b=some o→X.s₀.heap.get? b=some o∧X.H₀ b=none
 bsz:X.base.objs.size≤X.s₀.heap.objs.size
 noex:∀b o,X.base.get? b=some o→b∉X.ex
 exfs:∀b∈X.ex,b∉X.fs
 funs:X.s₀.heap.FunFrames X.base X.outer
 frf:∀b∈X.fs,X.H₀ b=none
structure Inv (X:Cx)(ae:List (Addr×Obj))(σ:List (Option V))(H:Hp)(s:Shared):Prop where
 ok:X.Ok
 os:s.os=X.s₀.os
 bare:AllBare s.gens
 base:Un X.fs X.ex X.H₀ H X.s₀.heap s.heap
 loc:∃m,s.heap.Ns X.env.locals m∧∀(i:Nat) (x:Str) (v:V),X.N[i]?=some x→σ[i]?=some (some v)→AJ X.env.scope x→∃u,aW v u∧DT X.env s.heap m x u
 cell:∀x c,X.env.cells.lookup x=some c→∃v,s.heap.IsCell c v
 free:H X.env.locals=none
 freeC:∀x c,X.env.cells.lookup x=some c→H c=none
 pin:∀p∈X.pn++ae,s.heap.get? p.1=some p.2∧H p.1=none∧p.1≠X.env.locals∧p.1∉X.fs∧∀v,p.2.data≠.cell v
 hok:i8 X.prog X.w H s.heap
 len:σ.length=X.N.length
section
variable {X:Cx}{ae:List (Addr×Obj)}{σ:List (Option V)}{H H':Hp}{s:Shared}{h':Heap}
theorem Cx.Ok.nofr (ok:X.Ok){b:Addr}{o:Obj}(e:X.base.get? b=some o):b∉X.fs:=fun hb=>by
 have:=(ok.funs.mem hb).1;rw[e] at this;cases this
theorem Inv.bs (I:Inv X ae σ H s):∀b o,X.base.get? b=some o→s.heap.get? b=some o∧H b=none:=fun b o e=>
 ⟨I.base.keep b o (I.ok.bs b o e).1 (I.ok.bs b o e).2 (I.ok.nofr e) (I.ok.noex b o e),I.base.free b o (I.ok.bs b o e).1 (I.ok.bs b o e).2 (I.ok.noex b o e)⟩
theorem Inv.bk (I:Inv X ae σ H s):∀b o,X.base.get? b=some o→s.heap.get? b=some o:=fun b o e=>(I.bs b o e).1
theorem Inv.mod (I:Inv X ae σ H s):Mod X.K X.mg X.base:=I.ok.mod
theorem Inv.kIn (I:Inv X ae σ H s):X.K.In s.heap:=I.ok.mod.kin.keeps I.bk
theorem Inv.lt (I:Inv X ae σ H s):X.env.locals<s.heap.objs.size:=let ⟨_,hn,_⟩:=I.loc;hn.lt
theorem Inv.sz (I:Inv X ae σ H s):X.s₀.heap.objs.size≤s.heap.objs.size:=Nat.le_trans I.ok.above (Nat.le_of_lt I.lt)
theorem Inv.nofs (I:Inv X ae σ H s){a:Addr}(h:s.heap.objs.size≤a):a∉X.fs:=fun hb=>by
 obtain⟨_,o,ho,_⟩:=I.ok.funs.mem hb;exact absurd (Nat.lt_of_lt_of_le (Heap.lt_size ho) (Nat.le_trans I.sz h)) (Nat.lt_irrefl _)
theorem Inv.cne (I:Inv X ae σ H s):∀x c,X.env.cells.lookup x=some c→c≠X.env.locals:=fun x c e z=>by
 obtain⟨v,o,ho,hd⟩:=I.cell x c e;obtain⟨m,⟨o',es,ep,ho',hd',_⟩,_⟩:=I.loc;rw[z,ho'] at ho;cases ho;rw[hd'] at hd;cases hd
theorem Inv.funs (I:Inv X ae σ H s):s.heap.FunFrames X.base X.outer:=by
 have all:∀(l:List Env),(∀b∈kf l,b∈X.fs)→X.s₀.heap.FunFrames X.base l→s.heap.FunFrames X.base l:=by
  intro l
  induction l with
  | nil=>intro _ _;trivial
  | cons env r ih=>
   intro hs hl;obtain⟨hk,⟨L,o,hf,hn,ho,hd⟩,hr⟩:=hl;have hL:L∈X.fs:=hs L (by unfold kf;rw[filterMap_cons,hf];exact mem_cons_self);obtain⟨sl,e⟩:=I.base.slot L o ho (I.ok.frf L hL) hL fun z=>I.ok.exfs L z hL
   exact⟨hk,⟨L,_,hf,hn,e,hd⟩,ih (fun b hb=>hs b (by unfold kf;rw[filterMap_cons,hf];exact mem_cons_of_mem _ hb)) hr⟩
 exact all X.outer (fun _ hb=>hb) I.ok.funs
theorem Inv.stack (I:Inv X ae σ H s):s.heap.FunFrames X.base X.stack:=by
 rcases I.ok.stk with e|⟨e,hf⟩
 ·rw[e];exact I.funs
 ·rw[e];obtain⟨m,hn,_⟩:=I.loc;refine .cons (by rw[I.ok.kind];decide) hf hn ?_ I.funs;exact Heap.get?_none_of_le (Nat.le_trans I.ok.bsz I.ok.above)
theorem Inv.stkSub (I:Inv X ae σ H s):∀b∈kf X.stack,b∈X.env.locals::X.fs:=fun b hb=>by
 rcases I.ok.stk with e|⟨e,hf⟩
 ·rw[e] at hb;exact mem_cons_of_mem _ hb
 ·rw[e] at hb;unfold kf at hb;rw[filterMap_cons,hf] at hb;exact hb
theorem Inv.stkFree (I:Inv X ae σ H s):∀b∈kf X.stack,H b=none:=fun b hb=>by
 rcases mem_cons.mp (I.stkSub b hb) with e|hb
 ·rw[e];exact I.free
 ·obtain⟨_,o,ho,_⟩:=I.ok.funs.mem hb;exact I.base.free b o ho (I.ok.frf b hb) fun z=>I.ok.exfs b z hb
theorem Inv.step {g':Array GenState}{t':Nat}{d':Drawn}{ch:List Addr}(I:Inv X ae σ H s)
  (hch:∀b∈ch,(b∈X.ex∨X.s₀.heap.objs.size≤b)∧b≠X.env.locals∧(∀x c,X.env.cells.lookup x=some c→c≠b)∧∀p∈X.pn++ae,p.1≠b)
  (keep:∀b o,b≠X.env.locals→b∉X.fs→b∉ch→s.heap.get? b=some o→H b=none→h'.get? b=some o)
  (slot:∀b o,b≠X.env.locals→b∈X.fs→b∉ch→s.heap.get? b=some o→H b=none→∃sl,h'.get? b=some {o with slots:=sl}) (free:∀b o,b∉ch→s.heap.get? b=some o→H b=none→H' b=none)
  (there:∀b o,b∉ch→s.heap.get? b=some o→∃o',h'.get? b=some o')
  (tups:∀b xs,H b=some (.tup xs)→H' b=some (.tup xs)) (frzs:∀b o u,H b=some (.frz o u)→H' b=some (.frz o u)) (tbls:∀b ps,H b=some (.tbl ps)→∃more,H' b=some (.tbl (ps++more)))
  (ns:∀m,s.heap.Ns X.env.locals m→h'.Ns X.env.locals m) (hok:i8 X.prog X.w H' h') (hg:AllBare g') :
  Inv X ae σ H' {s with heap:=h',gens:=g',drawn:=d',toks:=t'}:=by
 have neL:∀b o,X.s₀.heap.get? b=some o→b≠X.env.locals:=fun b o e=>Nat.ne_of_lt (Nat.lt_of_lt_of_le (Heap.lt_size e) I.ok.above)
 have neC:∀b o,X.s₀.heap.get? b=some o→b∉X.ex→b∉ch:=fun b o e hx hb=>by
  rcases(hch b hb).1 with z|z
  ·exact hx z
  ·exact absurd (Nat.lt_of_lt_of_le (Heap.lt_size e) z) (Nat.lt_irrefl _)
 have cellK:∀x c,X.env.cells.lookup x=some c→∀v,s.heap.IsCell c v→h'.IsCell c v:=fun x c e v hxx=>by
  obtain⟨o,ho,hd⟩:=hxx;have nch:c∉ch:=fun z=>(hch c z).2.2.1 x c e rfl
  by_cases hc:c∈X.fs
  ·obtain⟨sl,q⟩:=slot c o (I.cne x c e) hc nch ho (I.freeC x c e);exact⟨_,q,hd⟩
  ·exact⟨o,keep c o (I.cne x c e) hc nch ho (I.freeC x c e),hd⟩
 refine⟨I.ok,I.os,hg,⟨fun b o e n hb hx=>?_,fun b o e n hb hx=>?_,fun b o e n hx=>?_,fun b o e hx=>?_,fun b xs e=>tups b xs (I.base.tups b xs e),fun b o xs e=>frzs b o xs (I.base.frzs b o xs e),fun b ps e=>?_⟩,?_,fun x c e=>?_,?_,fun x c e=>?_,fun p hp=>?_,hok,I.len⟩
 ·exact keep b o (neL b o e) hb (neC b o e hx) (I.base.keep b o e n hb hx) (I.base.free b o e n hx)
 ·obtain⟨sl,e1⟩:=I.base.slot b o e n hb hx;obtain⟨sl',e2⟩:=slot b _ (neL b o e) hb (neC b o e hx) e1 (I.base.free b o e n hx);exact⟨sl',e2⟩
 ·obtain⟨o',e1⟩:=I.base.there b o e hx;exact free b o' (neC b o e hx) e1 (I.base.free b o e n hx)
 ·obtain⟨o',e1⟩:=I.base.there b o e hx;exact there b o' (neC b o e hx) e1
 ·obtain⟨m1,e1⟩:=I.base.tbls b ps e;obtain⟨m2,e2⟩:=tbls b _ e1;exact⟨m1++m2,by rw[e2,Array.append_assoc]⟩
 ·obtain⟨m,hn,hl⟩:=I.loc;refine⟨m,ns m hn,fun i x v e1 e2 e3=>?_⟩;obtain⟨u,r,l⟩:=hl i x v e1 e2 e3;refine⟨u,r,?_⟩;rcases l with l|⟨k,c,e,z⟩
  ·exact .inl l
  ·exact .inr ⟨k,c,e,cellK x c e _ z⟩
 ·obtain⟨v,z⟩:=I.cell x c e;exact⟨v,cellK x c e v z⟩
 ·obtain⟨m,⟨o,_,_,ho,_⟩,_⟩:=I.loc;exact free _ o (fun z=>(hch _ z).2.1 rfl) ho I.free
 ·obtain⟨v,o,ho,hd⟩:=I.cell x c e;exact free c o (fun z=>(hch c z).2.2.1 x c e rfl) ho (I.freeC x c e)
 ·obtain⟨e,n,ne,nf,d⟩:=I.pin p hp;have nch:p.1∉ch:=fun z=>(hch p.1 z).2.2.2 p hp rfl
  exact⟨keep p.1 p.2 ne nf nch e n,free p.1 p.2 nch e n,ne,nf,d⟩
theorem Inv.un {t':Nat}(I:Inv X ae σ H s)(u:Un X.fs [] H H' s.heap h')(hok:i8 X.prog X.w H' h'):Inv X ae σ H' {s with heap:=h',toks:=t'}:=by
 obtain⟨m,⟨o,es,ep,ho,r⟩,_⟩:=id I.loc;obtain⟨sl,hL⟩:=u.any ho I.free (by simp);exact I.step (g':=s.gens) (d':=s.drawn) (ch:=[]) (fun _ z=>nomatch z) (fun b o _ hb _ e n=>u.keep b o e n hb (by simp)) (fun b o _ hb _ e n=>u.slot b o e n hb (by simp)) (fun b o _ e n=>u.free b o e n (by simp)) (fun b o _ e=>u.there b o e (by simp)) u.tups u.frzs u.tbls (fun m' hm=>by
  obtain⟨o',es',ep',ho',r'⟩:=hm;rw[ho] at ho';cases ho';exact⟨_,es',ep',hL,r'⟩) hok I.bare
theorem Inv.call {g':Array GenState}{t':Nat}{d':Drawn}{ch:List Addr}(I:Inv X ae σ H s)(u:Un (kf X.stack) ch H H' s.heap h')(hok:i8 X.prog X.w H' h')(hg:AllBare g')
  (hch:∀b∈ch,(b∈X.ex∨X.s₀.heap.objs.size≤b)∧b≠X.env.locals∧(∀x c,X.env.cells.lookup x=some c→c≠b)∧∀p∈X.pn++ae,p.1≠b) :
  Inv X ae σ H' {s with heap:=h',gens:=g',drawn:=d',toks:=t'}:=by
 obtain⟨m,⟨o,es,ep,ho,r⟩,_⟩:=id I.loc;obtain⟨sl,hL⟩:=u.any ho I.free fun z=>(hch _ z).2.1 rfl
 exact I.step (ch:=ch) hch (fun b o hL hb hc e n=>u.keep b o e n (fun z=>(mem_cons.mp (I.stkSub b z)).elim hL hb) hc) (fun b o _ _ hc e n=>u.any e n hc) (fun b o hc e n=>u.free b o e n hc) (fun b o hc e=>u.there b o e hc) u.tups u.frzs u.tbls (fun m' hm=>by
  obtain⟨o',es',ep',ho',r'⟩:=hm;rw[ho] at ho';cases ho';exact⟨_,es',ep',hL,r'⟩) hok hg
theorem Inv.turned {t':Nat}{it:Addr}(I:Inv X ae σ H s)(k:∀b o,b≠it→s.heap.get? b=some o→h'.get? b=some o)(hn:H it=none)(hL:it≠X.env.locals)
  (h1:it∈X.ex∨X.s₀.heap.objs.size≤it) (h2:∀x c,X.env.cells.lookup x=some c→c≠it) (h3:∀p∈X.pn++ae,p.1≠it):Inv X ae σ H {s with heap:=h',toks:=t'}:=by
 have nit:∀b u,H b=some u→b≠it:=fun b u e z=>by rw[z,hn] at e;cases e
 refine I.step (g':=s.gens) (d':=s.drawn) (ch:=[it]) (fun b hb=>?_) (fun b o _ _ hc e _=>k b o (fun z=>hc (by simp[z])) e) (fun b o _ _ hc e _=>⟨o.slots,k b o (fun z=>hc (by simp[z])) e⟩) (fun _ _ _ _ n=>n)
  (fun b o hc e=>⟨o,k b o (fun z=>hc (by simp[z])) e⟩) (fun _ _ e=>e) (fun _ _ _ e=>e) (fun b ps e=>⟨#[],by rw[e];simp⟩) (fun m hm=>?_) (fun b u e=>?_) I.bare
 ·have e:b=it:=by simpa using hb
  subst e;exact⟨h1,hL,h2,h3⟩
 ·obtain⟨o,es,ep,ho,r⟩:=hm;exact⟨o,es,ep,k _ o (Ne.symm hL) ho,r⟩
 ·refine(I.hok b u e).stay (fun c v hc q=>k c v ?_ q) (fun _ q=>q) fun _ _ q=>q
  rcases hc with z|z
  ·rw[z];exact nit b u e
  ·exact nit c _ z
theorem Inv.tok (I:Inv X ae σ H s)(t:Nat):Inv X ae σ H {s with toks:=t}:=I.un (h':=s.heap) (t':=t) Un.refl I.hok
theorem Inv.kept {t':Nat}(I:Inv X ae σ H s)(k:∀b u,s.heap.get? b=some u→h'.get? b=some u):Inv X ae σ H {s with heap:=h',toks:=t'}:=I.un (Un.kept k) (I.hok.kept k)
theorem Inv.laid {a:Addr}{o:HO}{t':Nat}(I:Inv X ae σ H s)(k:∀b u,s.heap.get? b=some u→h'.get? b=some u)(hp:s.heap.objs.size≤a)(new:dr X.prog X.w (cK H a o) h' a o) :
  Inv X ae σ (cK H a o) {s with heap:=h',toks:=t'}:=I.un (Un.laid k hp (I.hok.fresh hp)) (I.hok.laid k hp new)
theorem Inv.write {x e:Addr}{o:HO}{t':Nat}(I:Inv X ae σ H s)(mu:C8 (H x))(he:e=x∨H e=some (.own x))(k:∀b u,b≠e→s.heap.get? b=some u→h'.get? b=some u)(heo:∃u,h'.get? e=some u)
  (new:dr X.prog X.w (cK H x o) h' x o):Inv X ae σ (cK H x o) {s with heap:=h',toks:=t'}:=I.un (Un.write mu he k heo) (I.hok.write mu he k heo new)
theorem Inv.pins_of {pins':List (Addr×Obj)}(I:Inv X ae σ H s)(h:∀p∈pins',s.heap.get? p.1=some p.2∧H p.1=none∧p.1≠X.env.locals∧p.1∉X.fs∧∀v,p.2.data≠.cell v):Inv X pins' σ H s:=
 ⟨I.ok,I.os,I.bare,I.base,I.loc,I.cell,I.free,I.freeC,fun p hp=>(mem_append.mp hp).elim (fun z=>I.pin p (mem_append_left _ z)) (h p),I.hok,I.len⟩
theorem mh {N:List Str}(hN:N.Nodup){i j:Nat}{x:Str}(a:N[i]?=some x)(b:N[j]?=some x):i=j:=by
 obtain⟨h1,e1⟩:=List.getElem?_eq_some_iff.mp a;obtain⟨h2,e2⟩:=List.getElem?_eq_some_iff.mp b;exact(getElem_inj hN).mp (e1.trans e2.symm)
theorem kQ {M:Model}{A:Around}{E:Value→Shared→Prop}{i:Nat}{x:Str}{v:V}{u:Value}{Q:Unit→Shared→Prop}(I:Inv X ae σ H s)(hN:X.N.Nodup)(hi:X.N[i]?=some x)(hx:ny X.env.scope x)(r:aW v u)
  (h:∀s',Inv X ae (σ.set i (some v)) H s'→(∃a,Heap.SameBut a s.heap s'.heap∧(a=X.env.locals∨X.env.cells.lookup x=some a))→Q () s') (hf:X.fn x=true∨X.env.scope.names.lookup x=some .local:=by first|exact .inl rfl|exact .inr rfl|assumption):wpAny M A (storeName X.env x u) Q E s:=by
 obtain⟨m,hn,hl⟩:=id I.loc;have hcls:(X.env.scope.kind==.class||(X.env.scope.kind==.module&&X.env.locals != X.env.globals))=false:=by rw[I.ok.kind];rfl
 have hiσ:i<σ.length:=by rw[I.len];exact(List.getElem?_eq_some_iff.mp hi).1
 have cne:=I.cne;have tracked:∀{a:Addr} {h':Heap},(∃o,s.heap.get? a=some o∧H a=none)→Heap.SameBut a s.heap h'→i8 X.prog X.w H h':=fun {a h'} ha hs b ob e=>by
  obtain⟨_,_,hfree⟩:=ha;refine(I.hok b ob e).stay (fun c w' hc q=>(hs.2 c ?_).trans q) (fun _ q=>q) fun _ _ q=>q
  rintro rfl;rcases hc with rfl|hc
  ·rw[hfree] at e;cases e
  ·rw[hfree] at hc;cases hc
 rcases hx with hk|hk
 ·refine wpAny_storeName_local hk hn (fun h' hn' hs=>?_) hcls;obtain⟨oL,_,_,hoL,_⟩:=id hn;refine h _ ⟨I.ok,I.os,I.bare,⟨fun b o e n hb hx=>?_,fun b o e n hb hx=>?_,I.base.free,fun b o e hx=>?_,I.base.tups,I.base.frzs,I.base.tbls⟩,⟨_,hn',fun j y v' e1 e2 e3=>?_⟩,fun y c e=>?_,I.free,I.freeC,fun p hp=>?_,tracked ⟨oL,hoL,I.free⟩ hs,by simpa using I.len⟩ ⟨_,hs,.inl rfl⟩
  ·exact(hs.2 b (Nat.ne_of_lt (Nat.lt_of_lt_of_le (Heap.lt_size e) I.ok.above))).trans (I.base.keep b o e n hb hx)
  ·obtain⟨sl,e1⟩:=I.base.slot b o e n hb hx;exact⟨sl,(hs.2 b (Nat.ne_of_lt (Nat.lt_of_lt_of_le (Heap.lt_size e) I.ok.above))).trans e1⟩
  ·obtain⟨o',e1⟩:=I.base.there b o e hx;exact⟨o',(hs.2 b (Nat.ne_of_lt (Nat.lt_of_lt_of_le (Heap.lt_size e) I.ok.above))).trans e1⟩
  ·by_cases hj:j=i
   ·subst hj;rw[hi] at e1;cases e1;rw[getElem?_set_self hiσ] at e2;cases e2;exact⟨u,r,.inl ⟨hk,by simp⟩⟩
   ·rw[getElem?_set_ne (Ne.symm hj)] at e2;obtain⟨u',r',q⟩:=hl j y v' e1 e2 e3;refine⟨u',r',?_⟩;rcases q with⟨k,e⟩|⟨k,c,e,z⟩
    ·refine .inl ⟨k,?_⟩;have:y≠x:=fun e=>hj (mh hN e1 (e▸hi))
     simp[this,e]
    ·exact .inr ⟨k,c,e,z.sameBut hs (cne y c e)⟩
  ·obtain⟨w',z⟩:=I.cell y c e;exact⟨w',z.sameBut hs (cne y c e)⟩
  ·obtain⟨e,n,ne,nf,d⟩:=I.pin p hp;exact⟨(hs.2 p.1 ne).trans e,n,ne,nf,d⟩
 ·have hfn:X.fn x=true:=by
   rcases hf with z|z
   ·exact z
   ·rw[z] at hk;cases hk
  obtain⟨c,hc⟩:=I.ok.has x (.inl hk);obtain⟨w',z⟩:=I.cell x c hc;refine wpAny_storeName_cell I.ok.kind hk hc z (fun h' hc' hs=>?_);obtain⟨oc,hoc,hocd⟩:=id z;refine h {s with heap:=h'} ⟨I.ok,I.os,I.bare,⟨fun b o e n hb hx=>?_,fun b o e n hb hx=>?_,I.base.free,fun b o e hx=>?_,I.base.tups,I.base.frzs,I.base.tbls⟩,⟨m,hn.sameBut hs (Ne.symm (cne x c hc)),fun j y v' e1 e2 e3=>?_⟩,fun y c' e=>?_,I.free,I.freeC,fun p hp=>?_,tracked ⟨oc,hoc,I.freeC x c hc⟩ hs,by simpa using I.len⟩ ⟨c,hs,.inr hc⟩
  ·exact(hs.2 b (Nat.ne_of_lt (Nat.lt_of_lt_of_le (Heap.lt_size e) (I.ok.cab x c hfn hc)))).trans (I.base.keep b o e n hb hx)
  ·obtain⟨sl,e1⟩:=I.base.slot b o e n hb hx;exact⟨sl,(hs.2 b (Nat.ne_of_lt (Nat.lt_of_lt_of_le (Heap.lt_size e) (I.ok.cab x c hfn hc)))).trans e1⟩
  ·obtain⟨o',e1⟩:=I.base.there b o e hx;exact⟨o',(hs.2 b (Nat.ne_of_lt (Nat.lt_of_lt_of_le (Heap.lt_size e) (I.ok.cab x c hfn hc)))).trans e1⟩
  ·by_cases hj:j=i
   ·subst hj;rw[hi] at e1;cases e1;rw[getElem?_set_self hiσ] at e2;cases e2;exact⟨u,r,.inr ⟨.inl hk,c,hc,hc'⟩⟩
   ·rw[getElem?_set_ne (Ne.symm hj)] at e2;obtain⟨u',r',q⟩:=hl j y v' e1 e2 e3;refine⟨u',r',?_⟩;rcases q with q|⟨k,c',e,z'⟩
    ·exact .inl q
    ·refine .inr ⟨k,c',e,z'.sameBut hs ?_⟩;rintro rfl;exact hj (mh hN e1 (I.ok.inj _ _ _ e hc▸hi))
  ·by_cases hcc:c'=c
   ·subst hcc;exact⟨_,hc'⟩
   ·obtain⟨w2,z2⟩:=I.cell y c' e;exact⟨w2,z2.sameBut hs hcc⟩
  ·obtain⟨e,n,ne,nf,d⟩:=I.pin p hp;refine⟨(hs.2 p.1 ?_).trans e,n,ne,nf,d⟩;intro q;rw[q,hoc] at e;have q':oc=p.2:=Option.some.inj e;exact d w' (by rw[←q'];exact hocd)
theorem ie {M:Model}{A:Around}{E:Value→Shared→Prop}{i:Nat}{x:Str}{v:V}{u:Value}{Q:Unit→Shared→Prop}(I:Inv X ae σ H s)(hN:X.N.Nodup)(hi:X.N[i]?=some x)(hx:ny X.env.scope x)(r:aW v u)
  (h:∀s',Inv X ae (σ.set i (some v)) H s'→Q () s') (hf:X.fn x=true∨X.env.scope.names.lookup x=some .local:=by first|exact .inl rfl|exact .inr rfl|assumption):wpAny M A (storeName X.env x u) Q E s:=
 kQ I hN hi hx r (fun s' I' _=>h s' I') hf
theorem Inv.call' {s':Shared}{ch:List Addr}(I:Inv X ae σ H s)(ho:s'.os=s.os)(u:Un (kf X.stack) ch H H' s.heap s'.heap)(hok:i8 X.prog X.w H' s'.heap)(hg:AllBare s'.gens)
  (hch:∀b∈ch,(b∈X.ex∨X.s₀.heap.objs.size≤b)∧b≠X.env.locals∧(∀x c,X.env.cells.lookup x=some c→c≠b)∧∀p∈X.pn++ae,p.1≠b):Inv X ae σ H' s':=by
 obtain⟨h',g',d',t',o'⟩:=s';have e:o'=s.os:=ho;subst e;exact I.call (g':=g') (t':=t') (d':=d') u hok hg hch
end
abbrev XK:=Value→Option Addr→Hp→Prop
abbrev St:=List (Option V)
abbrev VK:=V→Hp→Prop
abbrev TE:=St→Hp→VK→Prop
abbrev TT:=St→Hp→(Bool→Hp→Prop)→Prop
abbrev TA:=St→Hp→(List V→Hp→Prop)→Prop
structure lH where
 nx:St→Hp→Prop
 rt:VK
 bk:St→Hp→Prop:=fun _ _=>False
 ct:St→Hp→Prop:=fun _ _=>False
abbrev TS:=lH→St→Hp→Prop
def EP (X:Cx)(ae:List (Addr×Obj))(σ:St)(Q:VK)(u:Value)(s':Shared):Prop:=∃v H',Inv X ae σ H' s'∧aW v u∧Q v H'
def TP (X:Cx)(ae:List (Addr×Obj))(σ:St)(Q:Bool→Hp→Prop)(b:Bool)(s':Shared):Prop:=∃H',Inv X ae σ H' s'∧Q b H'
def AP (X:Cx)(ae:List (Addr×Obj))(σ:St)(Q:List V→Hp→Prop)(us:List Value)(s':Shared):Prop:=∃vs H',Inv X ae σ H' s'∧aM vs us∧Q vs H'
def SP (X:Cx)(ae:List (Addr×Obj))(D:lH)(f:Flow)(s':Shared):Prop:=
 match f with
 | .next=>∃σ' H',Inv X ae σ' H' s'∧D.nx σ' H'
 | .brk=>∃σ' H',Inv X ae σ' H' s'∧D.bk σ' H'
 | .cont=>∃σ' H',Inv X ae σ' H' s'∧D.ct σ' H'
 | .ret u=>∃v σ' H',Inv X ae σ' H' s'∧aW v u∧D.rt v H'
def PE (X:Cx)(e:Expr)(t:TE):Prop:=
 ∀(ae:List (Addr×Obj)) (s:Shared) (σ:St) (H:Hp) (Q:VK),Inv X ae σ H s→t σ H Q→wpAny (model X.prog X.w) X.A (eval e X.env) (EP X ae σ Q) X.xe s
def PT (X:Cx)(e:Expr)(t:TT):Prop:=
 ∀(ae:List (Addr×Obj)) (s:Shared) (σ:St) (H:Hp) (Q:Bool→Hp→Prop),Inv X ae σ H s→t σ H Q→wpAny (model X.prog X.w) X.A (isTrue e X.env (eval e X.env)) (TP X ae σ Q) X.xe s
def PW (X:Cx)(e:Expr)(t:TT):Prop:=
 ∀(whole:Sem Value) (ae:List (Addr×Obj)) (s:Shared) (σ:St) (H:Hp) (Q:Bool→Hp→Prop),Inv X ae σ H s→t σ H Q→wpAny (model X.prog X.w) X.A (isTrue e X.env whole) (TP X ae σ Q) X.xe s
theorem PW.pt {X:Cx}{e:Expr}{t:TT}(h:PW X e t):PT X e t:=h _
def PA (X:Cx)(es:List Expr)(t:TA):Prop:=
 ∀(pos:Pos) (ae:List (Addr×Obj)) (s:Shared) (σ:St) (H:Hp) (Q:List V→Hp→Prop),Inv X ae σ H s→t σ H Q→wpAny (model X.prog X.w) X.A (spliced (backTo pos (starEach es X.env))) (AP X ae σ Q) X.xe s
def PS (X:Cx)(st:Stmt)(t:TS):Prop:=
 ∀(ae:List (Addr×Obj)) (s:Shared) (σ:St) (H:Hp) (D:lH),Inv X ae σ H s→t D σ H→wpAny (model X.prog X.w) X.A (exec st X.env) (SP X ae D) X.xe s
def PSs (X:Cx)(st:List Stmt)(t:TS):Prop:=
 ∀(ae:List (Addr×Obj)) (s:Shared) (σ:St) (H:Hp) (D:lH),Inv X ae σ H s→t D σ H→wpAny (model X.prog X.w) X.A (execs st X.env) (SP X ae D) X.xe s
theorem cj {α:Type}{t:Sem α}{Q Q':α→Shared→Prop}{M:Model}{A:Around}{E:Value→Shared→Prop}{s:Shared}(h:wpAny M A t Q E s)(hQ:∀a s,Q a s→Q' a s):wpAny M A t Q' E s:=wpAny_mono h hQ fun _ _ x=>x
section
variable {X:Cx}
def CF (i:Nat):TE:=fun σ H Q=>∃v,σ[i]?=some (some v)∧Q v H
def tC (v:V):TE:=fun _ H Q=>Q v H
theorem yU {i:Nat}{x:Str}{pos:Pos}(hN:X.N[i]?=some x)(hv:AJ X.env.scope x)(hd:(x==("__debug__":Str))=false:=by decide)(hcd:(x==("__classdict__":Str))=false:=by decide):PE X (.Name x pos) (CF i):=by
 intro ae s σ H Q I h;obtain⟨v,e,h⟩:=h;obtain⟨m,hn,hl⟩:=I.loc;obtain⟨u,r,l⟩:=hl i x v hN e hv;have fin:EP X ae σ Q u s:=⟨v,H,I,r,h⟩;rcases l with⟨hk,hm⟩|⟨hk,c,hc,hcell⟩
 ·exact wpAny_Name (wpAny_loadName_local I.ok.kind hk hn hm fin) hd
 ·rcases hk with hk|hk
  ·exact wpAny_Name (wpAny_loadName_cell I.ok.kind hk hc hcell fin) hd
  ·exact wpAny_Name (wpAny_loadName_free I.ok.kind hk hc hcell fin hcd) hd
theorem Au {i j pos}:PE X (.Constant (.int i) j pos) (tC (.int i)):=fun _ _ _ H _ I h=>wpAny_Constant_int ⟨.int i,H,I.tok _,⟨_,rfl⟩,h⟩
theorem Cc {b j pos}:PE X (.Constant (.bool b) j pos) (tC (.bl b)):=fun _ _ _ H _ I h=>Constant_bool ⟨.bl b,H,I,rfl,h⟩
theorem zn {x j pos}:PE X (.Constant (.str x) j pos) (tC (.str x)):=fun _ _ _ H _ I h=>Calls.Constant_str ⟨.str x,H,I.tok _,⟨_,rfl⟩,h⟩
def Gl (X:Cx)(x:Str):Prop:=X.env.kindOf x=some .globalImplicit
theorem lV {E:Value→Shared→Prop}{ae:List (Addr×Obj)}{s:Shared}{σ:St}{H:Hp}{x:Str}{u:Value}{pos:Pos}{Q:Value→Shared→Prop}(I:Inv X ae σ H s)(hg:Gl X x)(hm:X.mg x=some u)(h:Q u s)
  (hd:(x==("__debug__":Str))=false:=by decide):wpAny (model X.prog X.w) X.A (eval (.Name x pos) X.env) Q E s:=
 Calls.Name_function_global I.ok.kind hg (Calls.loadGlobal_global (by rw[I.ok.glob];exact I.mod.glob.keeps I.bk) hm h) hd
theorem gL {E:Value→Shared→Prop}{ae:List (Addr×Obj)}{s:Shared}{σ:St}{H:Hp}{x:Str}{u:Value}{pos:Pos}{Q:Value→Shared→Prop}(I:Inv X ae σ H s)(hg:Gl X x)(hm:X.mg x=none)(hv:bootBuiltins x=some u)(h:Q u s)
  (hn:x≠"__name__":=by decide) (hd:(x==("__debug__":Str))=false:=by decide):wpAny (model X.prog X.w) X.A (eval (.Name x pos) X.env) Q E s:=by
 obtain⟨mb,h1,h2⟩:=I.mod.blt;exact Calls.Name_function_global I.ok.kind hg (Calls.loadGlobal_builtin (by rw[I.ok.glob];exact I.mod.glob.keeps I.bk) hm (by rw[I.ok.blt];exact h1.keeps I.bk) ((h2 x hn).trans hv) h) hd
theorem pj {x:Str}{v:V}{u:Value}{pos:Pos}(hg:Gl X x)(hm:X.mg x=some u)(r:aW v u)(hd:(x==("__debug__":Str))=false:=by decide):PE X (.Name x pos) (tC v):=
 fun _ _ _ H _ I h=>lV I hg hm ⟨v,H,I,r,h⟩ hd
theorem v8 {x:Str}{v:V}{u:Value}{pos:Pos}(hg:Gl X x)(hm:X.mg x=none)(hv:bootBuiltins x=some u)(r:aW v u)(hn:x≠"__name__":=by decide)(hd:(x==("__debug__":Str))=false:=by decide):PE X (.Name x pos) (tC v):=
 fun _ _ _ H _ I h=>gL I hg hm hv ⟨v,H,I,r,h⟩ hn hd
variable {a b:Expr}{ta tb:TE}{pos:Pos}
variable {tA tB':TT}{rest:List Expr}
def Do (t u:TT):TT:=fun σ H Q=>t σ H fun c H1=>if c=true then u σ H1 Q else Q false H1
def EW (t u:TT):TT:=fun σ H Q=>t σ H fun c H1=>if c=true then Q true H1 else u σ H1 Q
def Et (t:TT):TT:=fun σ H Q=>t σ H fun c H1=>Q (!c) H1
theorem wx (ha:PT X a tA):PW X (.BoolOp .And [a] pos) tA:=by
 intro wh ae s σ H Q I h;refine isTrue_and (cj (ha ae s σ H Q I h) fun c s1 e=>?_);cases c with
 | true=>exact isTrue_and_nil e
 | false=>exact e
theorem zi (ha:PT X a tA):PW X (.BoolOp .Or [a] pos) tA:=by
 intro wh ae s σ H Q I h;refine isTrue_or (cj (ha ae s σ H Q I h) fun c s1 e=>?_);cases c with
 | false=>exact isTrue_or_nil e
 | true=>exact e
theorem ze (ha:PT X a tA)(hb:PW X (.BoolOp .And (b::rest) pos) tB'):PW X (.BoolOp .And (a::b::rest) pos) (Do tA tB'):=by
 intro wh ae s σ H Q I h;refine isTrue_and (cj (ha ae s σ H _ I h) fun c s1 hxx=>?_);obtain⟨H1,I1,q1⟩:=hxx;cases c with
 | true=>exact hb wh ae s1 σ H1 Q I1 q1
 | false=>exact⟨H1,I1,q1⟩
theorem Cd (ha:PT X a tA)(hb:PW X (.BoolOp .Or (b::rest) pos) tB'):PW X (.BoolOp .Or (a::b::rest) pos) (EW tA tB'):=by
 intro wh ae s σ H Q I h;refine isTrue_or (cj (ha ae s σ H _ I h) fun c s1 hxx=>?_);obtain⟨H1,I1,q1⟩:=hxx;cases c with
 | true=>exact⟨H1,I1,q1⟩
 | false=>exact hb wh ae s1 σ H1 Q I1 q1
theorem yr (ha:PT X a tA):PT X (.UnaryOp .Not a pos) (Et tA):=by
 intro ae s σ H Q I h;exact isTrue_not (ha ae s σ H (fun c H1=>Q (!c) H1) I h)
end
def iZ (K:W.Frag)(H:Hp)(a:Addr)(xs:List V):Prop:=
 Rd H a (.lst xs)∨
  ∃(o:Obj) (its:Array Value) (n:Nat),K.lookup a=some o∧o.cls=.type "list"∧o.dict=none∧o.data=.seq its n∧its.size≤sizeLine∧aM xs its.toList
def lX (K:W.Frag)(H:Hp)(a:Addr)(xs:List V):Prop:=
 Rd H a (.tup xs)∨
  ∃(o:Obj) (its:Array Value) (n:Nat),K.lookup a=some o∧o.cls=.type "tuple"∧o.data=.seq its n∧its.size≤sizeLine∧aM xs its.toList
def EH:Value→Option V
 | .none=>some .non
 | .bool b=>some (.bl b)
 | .int i _=>some (.int i)
 | .str x _=>some (.str x)
 | .bytes b _=>some (.byt b)
 | .float b _=>some (.flt b)
 | .ref a=>some (.ref a)
 | .type n=>some (.ty n)
 | _=>none
theorem aW.abs {x:V}{u:Value}(r:aW x u):EH u=some x:=by
 cases x with
 | non=>cases r;rfl
 | bl _=>cases r;rfl
 | int _=>obtain⟨t,rfl⟩:=r;rfl
 | str _=>obtain⟨t,rfl⟩:=r;rfl
 | byt _=>obtain⟨t,rfl⟩:=r;rfl
 | flt _=>obtain⟨t,rfl⟩:=r;rfl
 | ref _=>cases r;rfl
 | ty _=>cases r;rfl
theorem aW.inj {x y:V}{u:Value}(r:aW x u)(q:aW y u):x=y:=Option.some.inj (r.abs.symm.trans q.abs)
theorem aM.inj:∀{xs ys:List V} {us:List Value},aM xs us→aM ys us→xs=ys
 | _,_,_,.nil,.nil=>rfl
 | _,_,_,.cons r t,.cons r' t'=>by rw[r.inj r',aM.inj t t']
section
variable {X:Cx}{ae:List (Addr×Obj)}{σ:St}{H:Hp}{s:Shared}{a:Addr}{xs ys:List V}
theorem Inv.list (I:Inv X ae σ H s)(h:iZ X.K H a xs):∃its:List Value,aM xs its∧PlainL s.heap a its.toArray∧xs.length≤sizeLine:=by
 rcases h with h|⟨o,its,n,hk,hc,hd,hs,hz,r⟩
 ·obtain⟨z,its,n,r,e⟩:=h.ok I.hok;exact⟨its,r,⟨_,n,e,rfl,rfl,rfl⟩,z⟩
 ·refine⟨its.toList,r,⟨o,n,I.kIn a o hk,hc,hd,by simpa using hs⟩,?_⟩;have e:=r.length;simp only[Array.length_toList] at e;omega
theorem Inv.tuple (I:Inv X ae σ H s)(h:lX X.K H a xs):∃its:List Value,aM xs its∧IsTup s.heap a its.toArray∧xs.length≤sizeLine:=by
 rcases h with h|⟨o,its,n,hk,hc,hs,hz,r⟩
 ·obtain⟨z,its,r,p⟩:=h.ok I.hok;exact⟨its,r,p,z⟩
 ·refine⟨its.toList,r,⟨o,I.kIn a o hk,hc,n,by simpa using hs⟩,?_⟩;have e:=r.length;simp only[Array.length_toList] at e;omega
theorem Inv.list_inj (I:Inv X ae σ H s)(h:iZ X.K H a xs)(h':iZ X.K H a ys):xs=ys:=by
 obtain⟨its,r,⟨o,n,e,_,_,d⟩,_⟩:=I.list h;obtain⟨its',r',⟨o',n',e',_,_,d'⟩,_⟩:=I.list h';rw[e] at e';cases e';rw[d] at d';injection d' with d1 _
 have:its=its':=by simpa using congrArg Array.toList d1
 subst this;exact r.inj r'
theorem Inv.tuple_inj (I:Inv X ae σ H s)(h:lX X.K H a xs)(h':lX X.K H a ys):xs=ys:=by
 obtain⟨its,r,⟨o,e,_,n,d⟩,_⟩:=I.tuple h;obtain⟨its',r',⟨o',e',_,n',d'⟩,_⟩:=I.tuple h';rw[e] at e';cases e';rw[d] at d';injection d' with d1 _
 have:its=its':=by simpa using congrArg Array.toList d1
 subst this;exact r.inj r'
end
section
variable {X:Cx}{st:Stmt}{rest:List Stmt}{t u:TS}{e:Expr}{te:TE}{pos:Pos}
def BD:TS:=fun D σ H=>D.nx σ H
def yq (t u:TS):TS:=fun D σ H=>t {D with nx:=u D} σ H
theorem vp:PSs X [] BD:=fun _ _ σ H _ I h=>wpAny_execs_nil ⟨σ,H,I,h⟩
theorem rS (h1:PS X st t)(h2:PSs X rest u):PSs X (st::rest) (yq t u):=by
 intro ae s σ H D I h;refine wpAny_execs_cons (cj (h1 ae s σ H {D with nx:=u D} I h) fun f s1 q=>?_);cases f with
 | next=>
  obtain⟨σ',H',I',q⟩:=q;exact h2 ae s1 σ' H' D I' q
 | ret v=>exact q
 | brk=>exact q
 | cont=>exact q
theorem vn (h1:PS X st t):PSs X [st] t:=by
 intro ae s σ H D I h;refine wpAny_execs_cons (cj (h1 ae s σ H D I h) fun f s1 q=>?_);cases f with
 | next=>exact wpAny_execs_nil q
 | ret v=>exact q
 | brk=>exact q
 | cont=>exact q
theorem Inv.quiet {ae:List (Addr×Obj)}{σ:St}{H:Hp}{s:Shared}(I:Inv X ae σ H s):interactive X.env=false:=by simp[interactive,I.ok.kind]
def B5 (te:TE):TS:=fun D σ H=>te σ H fun _ H1=>D.nx σ H1
theorem wt (he:PE X e te)(hs:swapsWith e none pos.line X.env=pure false:=by rfl):PS X (.Expr e pos) (B5 te):=by
 intro ae s σ H D I h;exact wpAny_Expr_any (cj (he ae s σ H _ I h) fun v s1 ⟨x,H1,I1,r1,q1⟩=>⟨σ,H1,I1,q1⟩) I.quiet hs
def DU (te:TE):TS:=fun D σ H=>te σ H D.rt
theorem yt (he:PE X e te):PS X (.Return (some e) pos) (DU te):=by
 intro ae s σ H D I h;exact wpAny_Return_some (cj (he ae s σ H _ I h) fun v s1 ⟨x,H1,I1,r1,q1⟩=>⟨x,σ,H1,I1,r1,q1⟩)
def Ey (c:TT)(t u:TS):TS:=fun D σ H=>c σ H fun b H1=>if b=true then t D σ H1 else u D σ H1
theorem CJ {c:Expr}{a b:List Stmt}{tc:TT}(hc:PT X c tc)(ha:PSs X a t)(hb:PSs X b u):PS X (.If c a b pos) (Ey tc t u):=by
 intro ae s σ H D I h;refine wpAny_If (cj (hc ae s σ H _ I h) fun d s1 hxx=>?_);obtain⟨H1,I1,q1⟩:=hxx;cases d with
 | true=>exact ha ae s1 σ H1 D I1 q1
 | false=>exact hb ae s1 σ H1 D I1 q1
end
abbrev TG:=V→St→Hp→(St→Hp→Prop)→Prop
abbrev xH:=List V→St→Hp→(St→Hp→Prop)→Prop
def PG (X:Cx)(target:Expr)(t:TG):Prop:=
 ∀(ae:List (Addr×Obj)) (s:Shared) (σ:St) (H:Hp) (v:V) (u:Value) (Q:St→Hp→Prop),Inv X ae σ H s→aW v u→t v σ H Q→
  wpAny (model X.prog X.w) X.A (assign target X.env u) (fun _ s'=>∃σ' H',Inv X ae σ' H' s'∧Q σ' H') X.xe s
def vq (X:Cx)(ts:List Expr)(t:xH):Prop:=
 ∀(ae:List (Addr×Obj)) (s:Shared) (σ:St) (H:Hp) (vs:List V) (us:List Value) (Q:St→Hp→Prop),Inv X ae σ H s→aM vs us→t vs σ H Q→
  wpAny (model X.prog X.w) X.A (assignInOrder ((assignEach ts X.env).map (·.2)) us) (fun _ s'=>∃σ' H',Inv X ae σ' H' s'∧Q σ' H') X.xe s
abbrev zU:=V→V→V→Hp→(Hp→Prop)→Prop
def Cr (X:Cx)(t:zU):Prop:=
 ∀(ae:List (Addr×Obj)) (s:Shared) (σ:St) (H:Hp) (o i v:V) (ov iv u:Value) (Q:Hp→Prop),Inv X ae σ H s→aW o ov→aW i iv→aW v u→t o i v H Q→
  wpAny (model X.prog X.w) X.A (setItem ov iv u) (fun _ s'=>∃H',Inv X ae σ H' s'∧Q H') X.xe s
abbrev CY:=V→V→Hp→VK→Prop
def Dd (X:Cx)(op:Operator)(t:CY):Prop:=
 ∀(ae:List (Addr×Obj)) (s:Shared) (σ:St) (H:Hp) (x y:V) (v u:Value) (Q:VK),Inv X ae σ H s→aW x v→aW y u→t x y H Q→
  wpAny (model X.prog X.w) X.A (inplaceOp op v u) (EP X ae σ Q) X.xe s
section
variable {X:Cx}{pos:Pos}
def xp (i:Nat):TG:=fun v σ H Q=>Q (σ.set i (some v)) H
theorem xj {i:Nat}{x:Str}(hN:X.N.Nodup)(hi:X.N[i]?=some x)(hx:ny X.env.scope x)(hf:X.fn x=true∨X.env.scope.names.lookup x=some .local:=by first|exact .inl rfl|exact .inr rfl|assumption):PG X (.Name x pos) (xp i):=by
 intro ae s σ H v u Q I r h;exact wpAny_assign_Name (ie I hN hi hx r (fun s' I'=>⟨_,H,I',h⟩) hf)
def DI:xH:=fun vs σ H Q=>vs=[]∧Q σ H
def BX (t:TG)(u:xH):xH:=fun vs σ H Q=>∃v r,vs=v::r∧t v σ H fun σ' H'=>u r σ' H' Q
theorem wI:vq X [] DI:=by
 intro ae s σ H vs us Q I r h;obtain⟨e,h⟩:=h;subst e;cases r;exact assignInOrder_nil ⟨σ,H,I,h⟩
theorem uI {e:Expr}{es:List Expr}{t:TG}{u:xH}(h1:PG X e t)(h2:vq X es u)
  (hs:(assignEach (e::es) X.env).map (·.2)=assign e X.env::(assignEach es X.env).map (·.2):=by rfl):vq X (e::es) (BX t u):=by
 intro ae s σ H vs us Q I r h;obtain⟨v,vr,e1,h⟩:=h;subst e1;cases r with
 | cons r rr=>
  rw[hs];refine assignInOrder_cons (cj (h1 ae s σ H _ _ _ I r h) fun _ s1 hxx=>?_);obtain⟨σ1,H1,I1,q1⟩:=hxx;exact h2 ae s1 σ1 H1 _ _ Q I1 rr q1
def Ed (K:W.Frag)(n:Nat)(t:xH):TG:=fun v σ H Q=>∃a xs,v=.ref a∧lX K H a xs∧xs.length=n∧t xs σ H Q
theorem z4 {es:List Expr}{k:Nat}{t:xH}{n:Nat}(hc:X.calm=true)(h:vq X es t)
  (hn:(assignEach es X.env).length=n:=by rfl) (hst:(assignEach es X.env).findIdx? (·.1)=none:=by rfl):PG X (.Tuple es k pos) (Ed X.K n t):=by
 intro ae s σ H v u Q I r hw;obtain⟨a,xs,e1,hq,hl,hw⟩:=hw;subst e1;cases r;obtain⟨its,rv,ht,hz⟩:=I.tuple hq;refine assign_Tuple_tuple (I.ok.hd hc) ht (by simp[hn,←hl,rv.length]) hst fun h' hx=>?_
 have I1:Inv X ae σ H {s with heap:=h'}:=I.kept (t':=s.toks) fun b o e=>hx b o (Nat.ne_of_lt (Heap.lt_size e)) e
 exact h ae _ σ H xs _ Q I1 (by simpa using rv) hw
def En (to ti:TE)(t:zU):TG:=fun v σ H Q=>to σ H fun o H1=>ti σ H1 fun i H2=>t o i v H2 fun H3=>Q σ H3
theorem xK {o i:Expr}{to ti:TE}{t:zU}(ho:PE X o to)(hi:PE X i ti)(hs:Cr X t)
  (ha:∀v,assign (.Subscript o i pos) X.env v=(do
   let ov ←holding [v] (eval o X.env)
   let iv ←holding [v,ov] (eval i X.env)
   standAt pos
   holding [v,ov,iv] (setItem ov iv v)
   release [v,ov,iv] []):=by intro _;rfl):PG X (.Subscript o i pos) (En to ti t):=by
 intro ae s σ H v u Q I r h;rw[ha];refine wpAny_bind (wpAny_holding (cj (ho ae s σ H _ I h) fun ov s1 hxx=>?_));obtain⟨x,H1,I1,r1,q1⟩:=hxx;refine wpAny_bind (wpAny_holding (cj (hi ae s1 σ H1 _ I1 q1) fun iv s2 hxx=>?_));obtain⟨y,H2,I2,r2,q2⟩:=hxx;refine wpAny_bind (wpAny_standAt (wpAny_bind (wpAny_holding (cj (hs ae s2 σ H2 x y v ov iv u _ I2 r1 r2 r q2) fun _ s3 hxx=>?_))));obtain⟨H3,I3,q3⟩:=hxx;exact wpAny_release ⟨σ,H3,I3,q3⟩
def Bj (te:TE)(g:TG):TS:=fun D σ H=>te σ H fun x H1=>g x σ H1 D.nx
theorem s9 {tg e:Expr}{te:TE}{g:TG}(he:PE X e te)(hg:PG X tg g)(hs:swapsWithSole [tg] e pos.line X.env=pure false:=by rfl)(hw:swappedStores [tg] e X.env=pure none:=by rfl)
  (h1:(assignEach [tg] X.env).map (·.2)=[assign tg X.env]:=by rfl):PS X (.Assign [tg] e pos) (Bj te g):=by
 intro ae s σ H D I h;refine wpAny_Assign_stores (cj (he ae s σ H _ I h) fun v s1 hxx=>?_) hs hw;obtain⟨x,H1,I1,r1,q1⟩:=hxx;rw[h1];exact cj (hg ae s1 σ H1 x v _ I1 r1 q1) fun _ s2 q=>q
theorem Aq {i:Nat}{x:Str}{e:Expr}{te:TE}{pos':Pos}(hN:X.N.Nodup)(hi:X.N[i]?=some x)(hx:ny X.env.scope x)(he:PE X e te)(hs:swapsWith e (some (.Name x pos')) pos.line X.env=pure false:=by rfl)(hf:X.fn x=true∨X.env.scope.names.lookup x=some .local:=by first|exact .inl rfl|exact .inr rfl|assumption) :
  PS X (.Assign [.Name x pos'] e pos) (Bj te (xp i)):=by
 intro ae s σ H D I h;refine wpAny_Assign_Name (cj (he ae s σ H _ I h) fun v s1 hxx=>?_) hs;obtain⟨y,H1,I1,r1,q1⟩:=hxx;exact ie I1 hN hi hx r1 (fun s2 I2=>⟨_,H1,I2,q1⟩) hf
def EG (i:Nat)(te:TE)(ti:CY):TS:=fun D σ H=>∃x,σ[i]?=some (some x)∧te σ H fun y H1=>ti x y H1 fun z H2=>D.nx (σ.set i (some z)) H2
theorem uO {i:Nat}{x:Str}{e:Expr}{te:TE}{op:Operator}{ti:CY}{pos':Pos}(hN:X.N.Nodup)(hi:X.N[i]?=some x)(hx:ny X.env.scope x)(he:PE X e te)(ho:Dd X op ti)(hf:X.fn x=true∨X.env.scope.names.lookup x=some .local:=by first|exact .inl rfl|exact .inr rfl|assumption) :
  PS X (.AugAssign (.Name x pos') op e pos) (EG i te ti):=by
 intro ae s σ H D I h;obtain⟨v,e1,h⟩:=h;obtain⟨m,hn,hl⟩:=I.loc;have vis:AJ X.env.scope x:=by rcases hx with k|k;exact .inl k;exact .inr (.inl k)
 obtain⟨u,r,l⟩:=hl i x v hi e1 vis;refine wpAny_AugAssign_Name ?_;have go:wpAny (model X.prog X.w) X.A (eval e X.env) (fun w s₂=>wpAny (model X.prog X.w) X.A (inplaceOp op u w) (fun r s₃=>wpAny (model X.prog X.w) X.A (storeName X.env x r) (fun _=>SP X ae D .next) X.xe s₃) X.xe s₂) X.xe s:=by
  refine cj (he ae s σ H _ I h) fun w s1 hxx=>?_
  obtain⟨y,H1,I1,r1,q1⟩:=hxx;refine cj (ho ae s1 σ H1 v y u w _ I1 r r1 q1) fun z s2 hxx=>?_
  obtain⟨zv,H2,I2,r2,q2⟩:=hxx;exact ie I2 hN hi hx r2 (fun s3 I3=>⟨_,H2,I3,q2⟩) hf
 rcases l with⟨hk,hm⟩|⟨hk,c,hc,hcell⟩
 ·exact wpAny_loadName_local I.ok.kind hk hn hm go
 ·rcases hk with hk|hk
  ·exact wpAny_loadName_cell I.ok.kind hk hc hcell go
  ·rcases hx with k|k
   ·have:X.env.scope.names.lookup x=some .free:=hk;rw[k] at this;cases this
   ·have:X.env.scope.names.lookup x=some .free:=hk;rw[k] at this;cases this
def Dw (f:Int→Int→Int):CY:=fun x y H Q=>∃i j,x=.int i∧y=.int j∧Q (.int (f i j)) H
theorem Ao:Dd X .Add (Dw fun i j=>i+j):=by
 intro ae s σ H x y v u Q I r1 r2 h;obtain⟨i,j,e1,e2,q⟩:=h;subst e1;subst e2;obtain⟨t,rfl⟩:=r1;obtain⟨t',rfl⟩:=r2;exact iadd_int ⟨.int _,H,I.tok _,⟨_,rfl⟩,q⟩
theorem yi:Dd X .Sub (Dw fun i j=>i-j):=by
 intro ae s σ H x y v u Q I r1 r2 h;obtain⟨i,j,e1,e2,q⟩:=h;subst e1;subst e2;obtain⟨t,rfl⟩:=r1;obtain⟨t',rfl⟩:=r2;exact isub_int ⟨.int _,H,I.tok _,⟨_,rfl⟩,q⟩
end
section
variable {X:Cx}{pos:Pos}
def yz (c:TT)(tb:TS):TS:=fun D σ H=>∃W:Nat→St→Hp→Prop,(∃m,W m σ H)∧∀m σ H,W m σ H→
 c σ H fun b H1=>if b=true then∃N:St→Hp→Prop,(∀σ' H',N σ' H'→∃m',m'<m∧W m' σ' H')∧tb {D with nx:=N,ct:=N,bk:=D.nx} σ H1 else D.nx σ H1
theorem um {c:Expr}{body:List Stmt}{tc:TT}{tb:TS}(hp:PassesOwn (model X.prog X.w) X.A X.env X.xe)(hc:PT X c tc)(hb:PSs X body tb):PS X (.While c body [] pos) (yz tc tb):=by
 intro ae s σ H D I h;obtain⟨W,⟨m0,w0⟩,turn⟩:=h;refine wpAny_While (codeAny_whileLoop (fun n s'=>∃σ' H',Inv X ae σ' H' s'∧W n σ' H') ?_ m0 ⟨σ,H,I,w0⟩);rintro n s1 ⟨σ1,H1,I1,w1⟩;refine wpAny_passesOwn hp (cj (hc ae s1 σ1 H1 _ I1 (turn n σ1 H1 w1)) fun b s2 hxx=>?_);obtain⟨H2,I2,q2⟩:=hxx;cases b with
 | true=>
  obtain⟨N,hN,q2⟩:=q2;rw[if_pos rfl];refine wpAny_passesOwn hp (cj (hb ae s2 σ1 H2 _ I2 q2) fun f s3 q3=>?_);cases f with
  | next=>
   obtain⟨σ3,H3,I3,n3⟩:=q3;obtain⟨m',hm,w3⟩:=hN σ3 H3 n3;exact⟨m',hm,σ3,H3,I3,w3⟩
  | cont=>
   obtain⟨σ3,H3,I3,n3⟩:=q3;obtain⟨m',hm,w3⟩:=hN σ3 H3 n3;exact⟨m',hm,σ3,H3,I3,w3⟩
  | brk=>exact q3
  | ret v=>exact q3
 | false=>
  rw[if_neg Bool.false_ne_true];exact wpAny_execs_nil ⟨σ1,H2,I2,q2⟩
end
structure It where
 go:Nat→Hp→Prop
 yld:Nat→Hp→V→Hp→Prop
 stop:Nat→Hp→Prop
def gO (X:Cx)(ae:List (Addr×Obj))(H:Hp)(b:Addr):Prop:=
 H b=none∧b≠X.env.locals∧b∉X.fs∧(b∈X.ex∨X.s₀.heap.objs.size≤b)∧(∀x c,X.env.cells.lookup x=some c→c≠b)∧∀p∈X.pn++ae,p.1≠b
theorem Inv.fpOk {X:Cx}{ae:List (Addr×Obj)}{σ:St}{H H':Hp}{s:Shared}{b:Addr}(I:Inv X ae σ H s)(hb:s.heap.objs.size≤b)(hn:H' b=none):gO X ae H' b:=by
 refine⟨hn,Nat.ne_of_gt (Nat.lt_of_lt_of_le I.lt hb),I.nofs hb,.inr (Nat.le_trans I.sz hb),fun x c e z=>?_,fun p hp z=>?_⟩
 ·obtain⟨v,q⟩:=I.cell x c e;exact absurd (Nat.lt_of_lt_of_le q.lt (by rw[z];exact hb)) (Nat.lt_irrefl _)
 ·exact absurd (Nat.lt_of_lt_of_le (Heap.lt_size (I.pin p hp).1) (by rw[z];exact hb)) (Nat.lt_irrefl _)
structure nU (P:Program)(w:World)(K:W.Frag)(tg:Expr)(J:It)(fp:List Addr)(it:Addr)(tn:Nat→Heap→Prop):Prop where
 mem:it∈fp
 obj:∀i h,tn i h→∀b∈fp,∃o,h.get? b=some o∧∀v,o.data≠.cell v
 keep:∀i h h',tn i h→(∀b∈fp,∀o,h.get? b=some o→h'.get? b=some o)→tn i h'
 item:∀(X:Cx),X.prog=P→X.w=w→X.K=K→X.calm=true→∀(i:Nat) (ae:List (Addr×Obj)) (s:Shared) (σ:St) (H:Hp) (E:Value→Shared→Prop),Inv X ae σ H s→(∀b∈fp,gO X ae H b)→tn i s.heap→J.go i H→
  wpAny (model P w) X.A (pyNext (.ref it)) (fun r s1=>∃u,r=some u∧
   wpAny (model P w) X.A (letOwnedTupleGo tg (.ref it) u) (fun _ s2=>∃x H',Inv X ae σ H' s2∧aW x u∧J.yld i H x H'∧tn (i+1) s2.heap∧∀b∈fp,H' b=none) E s1) E s
 done:∀(X:Cx),X.prog=P→X.w=w→X.K=K→X.calm=true→∀(i:Nat) (ae:List (Addr×Obj)) (s:Shared) (σ:St) (H:Hp) (E:Value→Shared→Prop),Inv X ae σ H s→(∀b∈fp,gO X ae H b)→tn i s.heap→J.stop i H→
  wpAny (model P w) X.A (pyNext (.ref it)) (fun r s1=>r=none∧Inv X ae σ H s1) E s
 self:∀(A:Around) (i:Nat) (s:Shared) (Q:Value→Shared→Prop) (E:Value→Shared→Prop),tn i s.heap→Q (.ref it) s→wpAny (model P w) A (pyIter (.ref it)) Q E s
abbrev TI:=St→Hp→(It→Hp→Prop)→Prop
def DA (X:Cx)(ae:List (Addr×Obj))(σ:St)(tg:Expr)(R:It→Hp→Prop)(itv:Value)(s2:Shared):Prop:=
 ∃(it:Addr) (fp:List Addr) (tn:Nat→Heap→Prop) (J:It) (H':Hp),itv=.ref it∧Inv X ae σ H' s2∧nU X.prog X.w X.K tg J fp it tn∧tn 0 s2.heap∧(∀b∈fp,gO X ae H' b)∧R J H'
def PI (X:Cx)(tg iter:Expr)(wi:TI):Prop:=
 ∀(ae:List (Addr×Obj)) (s:Shared) (σ:St) (H:Hp) (R:It→Hp→Prop),Inv X ae σ H s→wi σ H R→
  wpAny (model X.prog X.w) X.A (eval iter X.env) (fun v s1=>wpAny (model X.prog X.w) X.A (pyIter v) (DA X ae σ tg R) X.xe s1) X.xe s
theorem l9 {M:Model}{A:Around}{E:Value→Shared→Prop}{s:Shared}{tg:Expr}{it:Addr}{u:Value}{o:Obj}{n:String}{vs:Array Value}{Q:Unit→Shared→Prop}(ho:s.heap.get? it=some o)(hc:o.cls=.type n)(hd:o.data=.fields vs)
  (hn:["enumerate","zip","dict_itemiterator","dict_reverseitemiterator","odict_iterator","itertools.zip_longest","itertools.pairwise"].contains n=false) (hQ:Q () s):wpAny M A (letOwnedTupleGo tg (.ref it) u) Q E s:=by
 unfold letOwnedTupleGo;cases tg <;> first
  | exact wpAny_pure hQ
  | (cases u <;> first
    | exact wpAny_pure hQ
    | (refine wpAny_bind (wpAny_load ho ?_)
       rw[hc,hd];show wpAny M A (if(["enumerate","zip","dict_itemiterator","dict_reverseitemiterator","odict_iterator","itertools.zip_longest","itertools.pairwise"].contains n&&vs[0]?==some (rawInt _))=true then _ else _) Q E s;rw[if_neg (by intro h;rw[hn,Bool.false_and] at h;cases h)];exact wpAny_pure hQ))
def C1 (K:W.Frag)(a:Addr):It:=
 ⟨fun i H=>∃xs x,iZ K H a xs∧xs[i]?=some x,fun i H x H'=>H'=H∧∀xs,iZ K H a xs→xs[i]?=some x,fun i H=>∃xs,iZ K H a xs∧xs.length≤i⟩
def D6 (K:W.Frag)(a:Addr):It:=
 ⟨fun i H=>∃xs x,lX K H a xs∧xs[i]?=some x,fun i H x H'=>H'=H∧∀xs,lX K H a xs→xs[i]?=some x,fun i H=>∃xs,lX K H a xs∧xs.length≤i⟩
def B4 (lo:Int)(n:Nat):It:=⟨fun i _=>i<n,fun i H x H'=>H'=H∧x=.int (lo+i),fun i _=>n≤i⟩
theorem qL {P:Program}{w:World}{K:W.Frag}{tg:Expr}(a it:Addr):nU P w K tg (C1 K a) [it] it (fun i h=>h.IsListIter it a i) where
 mem:=by simp
 obj:=fun i h st b hb=>by
  have e:b=it:=by simpa using hb
  subst e;obtain⟨o,e,c,d⟩:=st;exact⟨o,e,fun v z=>by rw[d] at z;cases z⟩
 keep:=fun i h h' st k=>st.at fun o e=>k it (by simp) o e
 item:=by
  intro X hP hw hK hc i ae s σ H E I hf st hg;subst hP hw hK;obtain⟨xs,x,hq,hx⟩:=hg;obtain⟨its,rv,p,hz⟩:=I.list hq;obtain⟨u,hu,ru⟩:=rv.get hx;obtain⟨f0,f1,f2,f3,f4,f5⟩:=hf it (by simp);refine wpAny_pyNext_list_item st p.isList (x:=u) (by simpa using hu) fun h' st' sb=>?_
  have I1:Inv X ae σ H {s with heap:=h'}:=I.turned (t':=s.toks) (fun b o hb e=>(sb.2 b hb).trans e) f0 f1 f3 f4 f5;obtain⟨o,e,c,d⟩:=id st';exact⟨u,rfl,l9 (s:={s with heap:=h'}) e c d (by decide) ⟨x,H,I1,ru,⟨rfl,fun ys hy=>by rw[I.list_inj hy hq];exact hx⟩,st',fun b hb=>(hf b hb).1⟩⟩
 done:=by
  intro X hP hw hK hc i ae s σ H E I hf st hg;subst hP hw hK;obtain⟨xs,hq,hx⟩:=hg;obtain⟨its,rv,p,hz⟩:=I.list hq;obtain⟨f0,f1,f2,f3,f4,f5⟩:=hf it (by simp);have hl:=rv.length;exact wpAny_pyNext_list_end (I.ok.hd hc) st p.isList (by simp;omega) fun h' eb=>⟨rfl,I.turned (t':=s.toks) (fun b o hb e=>eb b o hb e) f0 f1 f3 f4 f5⟩
 self:=fun _ _ _ _ _ st h=>wpAny_pyIter_listiter st h
theorem oq {P:Program}{w:World}{K:W.Frag}{tg:Expr}(a it:Addr):nU P w K tg (D6 K a) [it] it (fun i h=>h.IsTupleIter it a i) where
 mem:=by simp
 obj:=fun i h st b hb=>by
  have e:b=it:=by simpa using hb
  subst e;obtain⟨o,e,c,d⟩:=st;exact⟨o,e,fun v z=>by rw[d] at z;cases z⟩
 keep:=fun i h h' st k=>st.at fun o e=>k it (by simp) o e
 item:=by
  intro X hP hw hK hc i ae s σ H E I hf st hg;subst hP hw hK;obtain⟨xs,x,hq,hx⟩:=hg;obtain⟨its,rv,p,hz⟩:=I.tuple hq;obtain⟨u,hu,ru⟩:=rv.get hx;obtain⟨f0,f1,f2,f3,f4,f5⟩:=hf it (by simp);refine wpAny_pyNext_tuple_item st (show s.heap.IsTuple a its.toArray from p) (x:=u) (by simpa using hu) fun h' st' sb=>?_
  have I1:Inv X ae σ H {s with heap:=h'}:=I.turned (t':=s.toks) (fun b o hb e=>(sb.2 b hb).trans e) f0 f1 f3 f4 f5;obtain⟨o,e,c,d⟩:=id st';exact⟨u,rfl,l9 (s:={s with heap:=h'}) e c d (by decide) ⟨x,H,I1,ru,⟨rfl,fun ys hy=>by rw[I.tuple_inj hy hq];exact hx⟩,st',fun b hb=>(hf b hb).1⟩⟩
 done:=by
  intro X hP hw hK hc i ae s σ H E I hf st hg;subst hP hw hK;obtain⟨xs,hq,hx⟩:=hg;obtain⟨its,rv,p,hz⟩:=I.tuple hq;obtain⟨f0,f1,f2,f3,f4,f5⟩:=hf it (by simp);have hl:=rv.length;exact wpAny_pyNext_tuple_end (I.ok.hd hc) st (show s.heap.IsTuple a its.toArray from p) (by simp;omega) fun h' eb=>⟨rfl,I.turned (t':=s.toks) (fun b o hb e=>eb b o hb e) f0 f1 f3 f4 f5⟩
 self:=fun _ _ _ _ _ st h=>wpAny_pyIter_tupleiter st h
theorem nV {P:Program}{w:World}{K:W.Frag}{tg:Expr}(it:Addr)(lo:Int)(n:Nat):nU P w K tg (B4 lo n) [it] it (fun i h=>IsRangeIter h it (lo+(i:Nat)*1) ((n:Int)-(i:Nat)) 1) where
 mem:=by simp
 obj:=fun i h st b hb=>by
  have e:b=it:=by simpa using hb
  subst e;exact⟨_,st,fun v z=>by
   have z':Data.fields _=Data.cell v:=z;cases z'⟩
 keep:=fun i h h' st k=>k it (by simp) _ st
 item:=by
  intro X hP hw hK hc i ae s σ H E I hf st hg;subst hP hw hK;obtain⟨f0,f1,f2,f3,f4,f5⟩:=hf it (by simp);have W:=Walks.range (prog:=X.prog) (w:=X.w) (I.ok.hd hc) it lo 1 n;refine W.item i s _ _ hg st fun v h' tk hv st' kk=>?_
  obtain⟨t,rfl⟩:=hv;have I1:Inv X ae σ H {s with heap:=h',toks:=tk}:=I.turned (fun b o hb e=>kk b o (by simpa using hb) e) f0 f1 f3 f4 f5;refine⟨_,rfl,l9 (s:={s with heap:=h',toks:=tk}) (n:="range_iterator") st' rfl rfl (by decide) ⟨.int (lo+i),H,I1,⟨t,?_⟩,⟨rfl,rfl⟩,st',fun b hb=>(hf b hb).1⟩⟩;rw[Int.mul_one]
 done:=by
  intro X hP hw hK hc i ae s σ H E I hf st hg;subst hP hw hK;obtain⟨f0,f1,f2,f3,f4,f5⟩:=hf it (by simp);exact wpAny_pyNext_range_end (I.ok.hd hc) st (by have:n≤i:=hg;omega) fun h' eb=>⟨rfl,I.turned (t':=s.toks) (fun b o hb e=>eb b o hb e) f0 f1 f3 f4 f5⟩
 self:=fun _ _ _ _ _ st h=>wpAny_pyIter_rangeiter st h
section
variable {X:Cx}{tg:Expr}
theorem l5 {ae:List (Addr×Obj)}{σ:St}{H:Hp}{s:Shared}{R:It→Hp→Prop}{E:Value→Shared→Prop}{lo hi:Int}{t u v:Tok}{tk:Nat}(I:Inv X ae σ H s)(h1:-(2 ^ 62)≤lo)(h2:lo<2 ^ 62)(h3:-(2 ^ 62)≤hi)(h4:hi<2 ^ 62)
  (q:R (B4 lo (hi-lo).toNat) H):wpAny (model X.prog X.w) X.A (pyIter (.ref s.heap.objs.size)) (DA X ae σ tg R) E {s with heap:=s.heap.push {cls:=.type "range",data:=.fields #[.int lo t,.int hi u,.int 1 v]},toks:=tk}:=by
 refine wpAny_pyIter_range (IsRange.new ..) (small_one h1 h2 h3 h4) ?_;have I1:Inv X ae σ H {s with heap:=s.heap.push {cls:=.type "range",data:=.fields #[.int lo t,.int hi u,.int 1 v]},toks:=tk}:=I.kept fun b o e=>Heap.get?_push_of_some _ e
 refine⟨(s.heap.push {cls:=.type "range",data:=.fields #[.int lo t,.int hi u,.int 1 v]}).objs.size,[(s.heap.push {cls:=.type "range",data:=.fields #[.int lo t,.int hi u,.int 1 v]}).objs.size],_,_,H,rfl,
  I1.kept (t':=tk) fun b o e=>Heap.get?_push_of_some _ e,nV _ lo (hi-lo).toNat,?_,fun b hb=>?_,q⟩
 ·have e1:lo+((0:Nat):Int)*1=lo:=by simp
  have e2:(((hi-lo).toNat:Nat):Int)-((0:Nat):Int)=Builtin.Range.rangeSize lo hi 1:=by rw[rangeSize_one];split <;> omega
  show IsRangeIter _ _ (lo+((0:Nat):Int)*1) ((((hi-lo).toNat:Nat):Int)-((0:Nat):Int)) 1;rw[e1,e2];exact Heap.get?_push_size _ rfl
 ·have e:b=(s.heap.push {cls:=.type "range",data:=.fields #[.int lo t,.int hi u,.int 1 v]}).objs.size:=by simpa using hb
  subst e;exact I1.fpOk (Nat.le_refl _) (I1.hok.fresh (Nat.le_refl _))
def A7 (ta:TA):TI:=fun σ H R=>ta σ H fun vs H1=>∃j:Int,vs=[.int j]∧-(2 ^ 62)≤j∧j<2 ^ 62∧R (B4 0 j.toNat) H1
def BQ (ta:TA):TI:=fun σ H R=>ta σ H fun vs H1=>∃i j:Int,vs=[.int i,.int j]∧(-(2 ^ 62)≤i∧i<2 ^ 62∧-(2 ^ 62)≤j∧j<2 ^ 62)∧R (B4 i (j-i).toNat) H1
theorem rG {a:Expr}{ta:TA}{p pos:Pos}(hg:Gl X "range")(hm:X.mg "range"=none)(ha:PA X [a] ta)(hs:starEach [a] X.env=[(false,eval a X.env)]:=by rfl):PI X tg (.Call (.Name "range" p) [a] [] pos) (A7 ta):=by
 intro ae s σ H R I h;refine Call_ (gL I hg hm boot_range (PyProof.Rows.callWith_type1 (cj (ha pos ae s σ H _ I h) fun us s1 hxx=>?_) hs rfl));obtain⟨vs,H1,I1,r1,q1⟩:=hxx;obtain⟨j,e,q1,q2,q⟩:=q1;subst e;cases r1 with
 | cons r rr=>
  cases rr;obtain⟨t,rfl⟩:=r;exact call_range_1 (l5 I1 (by omega) (by omega) q1 q2 (by simpa using q))
theorem qy {a b:Expr}{ta:TA}{p pos:Pos}(hg:Gl X "range")(hm:X.mg "range"=none)(ha:PA X [a,b] ta)(hs:starEach [a,b] X.env=[(false,eval a X.env),(false,eval b X.env)]:=by rfl)(hs2:starEach [b] X.env=[(false,eval b X.env)]:=by rfl) :
  PI X tg (.Call (.Name "range" p) [a,b] [] pos) (BQ ta):=by
 intro ae s σ H R I h;refine Call_ (gL I hg hm boot_range (PyProof.Rows.callWith_type1 (cj (ha pos ae s σ H _ I h) fun us s1 hxx=>?_) (by rw[hs,hs2]) (by rw[hs2];rfl)));obtain⟨vs,H1,I1,r1,q1⟩:=hxx;obtain⟨i,j,e,⟨q1,q2,q3,q4⟩,q⟩:=q1;subst e;cases r1 with
 | cons r rr=>
  cases rr with
  | cons r' rr=>
   cases rr;obtain⟨t,rfl⟩:=r;obtain⟨t',rfl⟩:=r';exact call_range_2 (l5 I1 q1 q2 q3 q4 q)
def Ei (wi:TI)(g:TG)(tb:TS):TS:=fun D σ H=>wi σ H fun J H1=>∃W:Nat→Nat→St→Hp→Prop,(∃m,W 0 m σ H1)∧∀i m σ H,W i m σ H→
 (J.stop i H∧D.nx σ H)∨(J.go i H∧∃N:St→Hp→Prop,(∀σ' H',N σ' H'→∃m',m'<m∧W (i+1) m' σ' H')∧∀x H',J.yld i H x H'→g x σ H' fun σ2 H2=>tb {D with nx:=N,ct:=N,bk:=D.nx} σ2 H2)
def jN (fp:List Addr)(h:Heap):List (Addr×Obj):=fp.filterMap fun b=>(h.get? b).map fun o=>(b,o)
theorem fw {fp:List Addr}{h:Heap}{b:Addr}{o:Obj}(hb:b∈fp)(e:h.get? b=some o):(b,o)∈jN fp h:=mem_filterMap.mpr ⟨b,hb,by rw[e];rfl⟩
theorem qF {fp:List Addr}{h:Heap}{p:Addr×Obj}(hp:p∈jN fp h):p.1∈fp∧h.get? p.1=some p.2:=by
 obtain⟨b,hb,e⟩:=mem_filterMap.mp hp;cases q:h.get? b with
 | none=>rw[q] at e;cases e
 | some o=>
  rw[q] at e;have e':(b,o)=p:=Option.some.inj e;subst e';exact⟨hb,q⟩
theorem Inv.pinned {ae:List (Addr×Obj)}{σ:St}{H:Hp}{s:Shared}{fp:List Addr}(I:Inv X ae σ H s)(hf:∀b∈fp,gO X ae H b)(ho:∀b∈fp,∃o,s.heap.get? b=some o∧∀v,o.data≠.cell v):Inv X (ae++jN fp s.heap) σ H s:=
 I.pins_of fun p hp=>(mem_append.mp hp).elim (fun z=>I.pin p (mem_append_right _ z)) fun z=>by
  obtain⟨hb,e⟩:=qF z;obtain⟨f0,f1,f2,_⟩:=hf p.1 hb;obtain⟨o,e',d⟩:=ho p.1 hb;rw[e] at e';cases e';exact⟨e,f0,f1,f2,d⟩
theorem Inv.unpinned {ae pl:List (Addr×Obj)}{σ:St}{H:Hp}{s:Shared}(I:Inv X (ae++pl) σ H s):Inv X ae σ H s:=I.pins_of fun p hp=>I.pin p (mem_append_right _ (mem_append_left _ hp))
theorem zz {iter:Expr}{body:List Stmt}{wi:TI}{g:TG}{tb:TS}{pos:Pos}(hp:PassesOwn (model X.prog X.w) X.A X.env X.xe)(hc:X.calm=true)(hi:PI X tg iter wi)(hg:PG X tg g)(hb:PSs X body tb)
  (hs:∀x,foldedSetIterable iter X.env x=pure x:=by intro _;rfl):PS X (.For tg iter body [] pos) (Ei wi g tb):=by
 intro ae s σ H D I h;refine wpAny_For (cj (hi ae s σ H _ I h) fun v s1 h1=>cj h1 fun itv s2 h2=>?_) hs;obtain⟨it,fp,tn,J,H2,e,I2,T,st2,f2,W,⟨m0,w0⟩,turn⟩:=h2;subst e;have stat:∀{H':Hp},(∀b∈fp,H' b=none)→∀b∈fp,gO X ae H' b:=fun hn b hb=>⟨hn b hb,(f2 b hb).2⟩
 refine codeAny_forLoop_any (fun n s'=>∃i σ' H',Inv X ae σ' H' s'∧tn i s'.heap∧(∀b∈fp,H' b=none)∧W i n σ' H') ?_ m0 ⟨0,σ,H2,I2,st2,fun b hb=>(f2 b hb).1,w0⟩;rintro n s3 ⟨i,σ3,H3,I3,st3,fr3,w3⟩;rcases turn i n σ3 H3 w3 with⟨stop,qn⟩|⟨go,N,hN,step⟩
 ·refine wpAny_passesOwn hp (cj (T.done X rfl rfl rfl hc i ae s3 σ3 H3 X.xe I3 (stat fr3) st3 stop) fun r s4 hxx=>?_);obtain⟨hr,I4⟩:=hxx;subst hr;exact wpAny_execs_nil ⟨σ3,H3,I4,qn⟩
 ·refine wpAny_passesOwn hp (cj (T.item X rfl rfl rfl hc i ae s3 σ3 H3 X.xe I3 (stat fr3) st3 go) fun r s4 hxx=>?_);obtain⟨u,hr,h4⟩:=hxx;subst hr;refine wpAny_passesOwn hp (cj h4 fun _ s5 hxx=>?_);obtain⟨x,H5,I5,r5,y5,st5,fr5⟩:=hxx;have I5':=I5.pinned (stat fr5) (T.obj _ _ st5);refine wpAny_passesOwn hp (cj (hg _ s5 σ3 H5 x u _ I5' r5 (step x H5 y5)) fun _ s6 hxx=>?_);obtain⟨σ6,H6,I6,q6⟩:=hxx;refine wpAny_passesOwn hp (cj (hb _ s6 σ6 H6 _ I6 q6) fun f s7 q7=>?_);have again:∀{σ7:St} {H7:Hp},Inv X (ae++jN fp s5.heap) σ7 H7 s7→N σ7 H7→∃m,m<n∧∃i σ' H',Inv X ae σ' H' s7∧tn i s7.heap∧(∀b∈fp,H' b=none)∧W i m σ' H':=fun {σ7 H7} I7 n7=>by
   obtain⟨m',hm,w7⟩:=hN σ7 H7 n7;refine⟨m',hm,i+1,σ7,H7,I7.unpinned,T.keep _ _ _ st5 fun b hb o e=>(I7.pin (b,o) (mem_append_right _ (mem_append_right _ (fw hb e)))).1,fun b hb=>?_,w7⟩;obtain⟨o,e,d⟩:=T.obj _ _ st5 b hb;exact(I7.pin (b,o) (mem_append_right _ (mem_append_right _ (fw hb e)))).2.1
  cases f with
  | next=>obtain⟨σ7,H7,I7,n7⟩:=q7;exact again I7 n7
  | cont=>obtain⟨σ7,H7,I7,n7⟩:=q7;exact again I7 n7
  | brk=>obtain⟨σ7,H7,I7,q7⟩:=q7;exact⟨σ7,H7,I7.unpinned,q7⟩
  | ret v=>obtain⟨x7,σ7,H7,I7,r7,q7⟩:=q7;exact⟨x7,σ7,H7,I7.unpinned,r7,q7⟩
end
abbrev R2:=V→V→Hp→VK→Prop
def ej (X:Cx)(f:Value→Value→Sem Value)(r:R2):Prop:=
 ∀(ae:List (Addr×Obj)) (s:Shared) (σ:St) (H:Hp) (x y:V) (v u:Value) (Q:VK),Inv X ae σ H s→aW x v→aW y u→r x y H Q→
  wpAny (model X.prog X.w) X.A (f v u) (EP X ae σ Q) X.xe s
def EE (X:Cx)(f:Value→Sem Value)(r:V→Hp→VK→Prop):Prop:=
 ∀(ae:List (Addr×Obj)) (s:Shared) (σ:St) (H:Hp) (x:V) (v:Value) (Q:VK),Inv X ae σ H s→aW x v→r x H Q→
  wpAny (model X.prog X.w) X.A (f v) (EP X ae σ Q) X.xe s
def cL (X:Cx)(f:Value)(r:List V→Hp→VK→Prop):Prop:=
 ∀(ae:List (Addr×Obj)) (s:Shared) (σ:St) (H:Hp) (xs:List V) (us:List Value) (Q:VK),Inv X ae σ H s→aM xs us→r xs H Q→
  wpAny (model X.prog X.w) X.A (call f us) (EP X ae σ Q) X.xe s
def Ex (X:Cx)(r:V→Hp→(Bool→Hp→Prop)→Prop):Prop:=
 ∀(ae:List (Addr×Obj)) (s:Shared) (σ:St) (H:Hp) (x:V) (v:Value) (Q:Bool→Hp→Prop),Inv X ae σ H s→aW x v→r x H Q→
  wpAny (model X.prog X.w) X.A (truthy v) (TP X ae σ Q) X.xe s
def C0 (r:R2)(ta tb:TE):TE:=fun σ H Q=>ta σ H fun x H1=>tb σ H1 fun y H2=>r x y H2 Q
def E9 (r:V→Hp→VK→Prop)(ta:TE):TE:=fun σ H Q=>ta σ H fun x H1=>r x H1 Q
def rI (C:Int→Int→Prop)(g:Int→Int→V):R2:=fun x y H Q=>∃i j,x=.int i∧y=.int j∧C i j∧Q (g i j) H
def xq (g:Int→Int→V):R2:=fun x y H Q=>∃i j,x=.int i∧y=.int j∧Q (g i j) H
def rU (g:Int→V):V→Hp→VK→Prop:=fun x H Q=>∃i,x=.int i∧Q (g i) H
section
variable {X:Cx}{a b c:Expr}{ta tb tc:TE}{pos:Pos}
theorem CH (ha:PE X a ta)(hb:PE X b tb){ae:List (Addr×Obj)}{s:Shared}{σ:St}{H:Hp}{R:V→V→Hp→Prop}(I:Inv X ae σ H s)
  (h:ta σ H fun x H1=>tb σ H1 fun y H2=>R x y H2) {Q:Value→Shared→Prop} {f:Value→Value→Sem Value}
  (hf:∀v u s2 x y H2,Inv X ae σ H2 s2→aW x v→aW y u→R x y H2→wpAny (model X.prog X.w) X.A (f v u) Q X.xe s2) :
  wpAny (model X.prog X.w) X.A (eval a X.env) (fun v s₁=>wpAny (model X.prog X.w) X.A (eval b X.env) (fun u s₂=>wpAny (model X.prog X.w) X.A (f v u) Q X.xe s₂) X.xe s₁) X.xe s:=by
 refine cj (ha ae s σ H _ I h) fun v s1 hxx=>?_
 obtain⟨x,H1,I1,r1,q1⟩:=hxx;refine cj (hb ae s1 σ H1 _ I1 q1) fun u s2 hxx=>?_
 obtain⟨y,H2,I2,r2,q2⟩:=hxx;exact hf v u s2 x y H2 I2 r1 r2 q2
theorem AX {op:Operator}{r:R2}(ho:ej X (binaryOp op) r)(ha:PE X a ta)(hb:PE X b tb):PE X (.BinOp a op b pos) (C0 r ta tb):=by
 intro ae s σ H Q I h;exact wpAny_BinOp (CH ha hb I h fun v u s2 x y H2 I2 rx ry q=>ho ae s2 σ H2 x y v u Q I2 rx ry q)
theorem Cv {op:UnaryOp}{r:V→Hp→VK→Prop}(ho:EE X (unaryOp op) r)(ha:PE X a ta):PE X (.UnaryOp op a pos) (E9 r ta):=by
 intro ae s σ H Q I h;exact UnaryOp_ (cj (ha ae s σ H _ I h) fun v s1 ⟨x,H1,I1,r1,q1⟩=>ho ae s1 σ H1 x v Q I1 r1 q1)
theorem D7 {f:Value→Value→Sem Value}{C:Int→Int→Prop}{g:Int→Int→Int}
  (rule:∀(i j:Int) (t u:Tok) (s:Shared) (Q:Value→Shared→Prop) (E:Value→Shared→Prop),C i j→Q (.int (g i j) s.toks) {s with toks:=s.toks+1}→wpAny (model X.prog X.w) X.A (f (.int i t) (.int j u)) Q E s) :
  ej X f (rI C fun i j=>.int (g i j)):=by
 intro ae s σ H x y v u Q I rx ry h;obtain⟨i,j,rfl,rfl,hc,q⟩:=h;obtain⟨t,rfl⟩:=rx;obtain⟨t',rfl⟩:=ry;exact rule i j t t' s _ _ hc ⟨.int (g i j),H,I.tok _,⟨_,rfl⟩,q⟩
theorem B1 {f:Value→Value→Sem Value}{g:Int→Int→Int}
  (rule:∀(i j:Int) (t u:Tok) (s:Shared) (Q:Value→Shared→Prop) (E:Value→Shared→Prop),Q (.int (g i j) s.toks) {s with toks:=s.toks+1}→wpAny (model X.prog X.w) X.A (f (.int i t) (.int j u)) Q E s) :
  ej X f (xq fun i j=>.int (g i j)):=by
 intro ae s σ H x y v u Q I rx ry h;obtain⟨i,j,rfl,rfl,q⟩:=h;obtain⟨t,rfl⟩:=rx;obtain⟨t',rfl⟩:=ry;exact rule i j t t' s _ _ ⟨.int (g i j),H,I.tok _,⟨_,rfl⟩,q⟩
theorem xn {f:Value→Value→Sem Value}{g:Int→Int→Bool}
  (rule:∀(i j:Int) (t u:Tok) (s:Shared) (Q:Value→Shared→Prop) (E:Value→Shared→Prop),Q (.bool (g i j)) s→wpAny (model X.prog X.w) X.A (f (.int i t) (.int j u)) Q E s) :
  ej X f (xq fun i j=>.bl (g i j)):=by
 intro ae s σ H x y v u Q I rx ry h;obtain⟨i,j,rfl,rfl,q⟩:=h;obtain⟨t,rfl⟩:=rx;obtain⟨t',rfl⟩:=ry;exact rule i j t t' s _ _ ⟨.bl (g i j),H,I,rfl,q⟩
def DJ (i j:Int):Prop:=0≤j∧j≤1000000∧i.natAbs<2 ^ 64
def zR (i j:Int):Prop:=(-(2 ^ 64)<i∧i<2 ^ 64)∨(-(2 ^ 64)<j∧j<2 ^ 64)
theorem zR.ok {i j:Int}(h:zR i j):IntMulOk i j:=by
 rcases h with⟨h1,h2⟩|⟨h1,h2⟩
 ·exact .of_left (intBits_le_64 h1 h2)
 ·exact .of_right (intBits_le_64 h1 h2)
theorem zq:ej X (binaryOp .Add) (xq fun i j=>.int (i+j)):=B1 fun _ _ _ _ _ _ _ q=>add_int q
theorem x8:ej X (binaryOp .Sub) (xq fun i j=>.int (i-j)):=B1 fun _ _ _ _ _ _ _ q=>sub_int q
theorem xQ:ej X (binaryOp .Mult) (rI zR fun i j=>.int (i*j)):=D7 fun _ _ _ _ _ _ _ hc q=>mul_int q hc.ok
theorem ye:ej X (binaryOp .Mod) (rI (fun _ j=>0<j) fun i j=>.int (i % j)):=D7 fun i j _ _ _ _ _ hc q=>by
 have h1:(0:Int)<j:=hc;exact mod_int' (by omega) (by rw[Int.fmod_eq_emod_of_nonneg i (by omega)];exact q)
theorem Aa:ej X (binaryOp .Pow) (rI DJ fun i j=>.int (i ^ j.toNat)):=D7 fun _ _ _ _ _ _ _ hc q=>pow_int_small hc.1 hc.2.1 hc.2.2 q
theorem EV {f:Value→Sem Value}{g:Int→Int}
  (rule:∀(i:Int) (t:Tok) (s:Shared) (Q:Value→Shared→Prop) (E:Value→Shared→Prop),Q (.int (g i) s.toks) {s with toks:=s.toks+1}→wpAny (model X.prog X.w) X.A (f (.int i t)) Q E s) :
  EE X f (rU fun i=>.int (g i)):=by
 intro ae s σ H x v Q I rx h;obtain⟨i,rfl,q⟩:=h;obtain⟨t,rfl⟩:=rx;exact rule i t s _ _ ⟨.int (g i),H,I.tok _,⟨_,rfl⟩,q⟩
theorem yN:EE X (unaryOp .USub) (rU fun i=>.int (-i)):=EV fun _ _ _ _ _ q=>neg_int q
end
section
variable {X:Cx}{a b c:Expr}{ta tb tc:TE}{pos:Pos}
theorem sP {ae:List (Addr×Obj)}{σ:St}{H:Hp}{s:Shared}{Q:VK}{k k':Bool}(I:Inv X ae σ H s)(q:Q (.bl k) H)(e:k=k'):EP X ae σ Q (.bool k') s:=by
 subst e;exact⟨.bl k,H,I,rfl,q⟩
theorem Cw:ej X (compareOp .Lt) (xq fun i j=>.bl (decide (i<j))):=xn fun _ _ _ _ _ _ _ q=>lt_int q
theorem AY:ej X (compareOp .LtE) (xq fun i j=>.bl (decide (i≤j))):=xn fun _ _ _ _ _ _ _ q=>le_int q
theorem BK:ej X (compareOp .Gt) (xq fun i j=>.bl (decide (j<i))):=xn fun _ _ _ _ _ _ _ q=>gt_int q
theorem BZ:ej X (compareOp .GtE) (xq fun i j=>.bl (decide (j≤i))):=xn fun _ _ _ _ _ _ _ q=>ge_int q
theorem rk:ej X (compareOp .Lt) (fun x y H Q=>∃i j,x=.str i∧y=.str j∧Q (.bl (decide (i.cps.toList<j.cps.toList))) H):=by
 intro ae s σ H x y v u Q I rx ry h;obtain⟨i,j,rfl,rfl,q⟩:=h;obtain⟨t,rfl⟩:=rx;obtain⟨t',rfl⟩:=ry;exact lt_str (sP I q rfl)
theorem qg:ej X (compareOp .In) (fun x y H Q=>∃i j,x=.str i∧y=.str j∧Q (.bl (!(Builtin.Str.occurrences j i 0 j.length 1).isEmpty)) H):=by
 intro ae s σ H x y v u Q I rx ry h;obtain⟨i,j,rfl,rfl,q⟩:=h;obtain⟨t,rfl⟩:=rx;obtain⟨t',rfl⟩:=ry;exact in_str (sP I q rfl)
def CW:HO→Bool
 | .lst _=>true
 | .ins _ _ _=>true
 | _=>false
theorem AI {ae:List (Addr×Obj)}{s:Shared}{σ:St}{H:Hp}{a:Addr}{o:HO}(I:Inv X ae σ H s)(h:H a=some o)(p:CW o=true):∃ob,s.heap.get? a=some ob∧ob.cls≠.type "tuple":=by
 cases o with
 | lst xs=>
  obtain⟨_,its,n,_,e⟩:xs.length≤sizeLine∧∃(its:List Value) (n:Nat),aM xs its∧s.heap.get? a=some {cls:=.type "list",data:=.seq its.toArray n}:=I.hok a _ h;exact⟨_,e,(by show Value.type "list"≠.type "tuple";decide +kernel)⟩
 | ins C dx fs=>
  have x:=I.hok a _ h;obtain⟨_,_,_,e,_⟩:=x;exact⟨_,e,(by show Value.ref C≠.type "tuple";exact fun z=>by cases z)⟩
 | _=>exact absurd (show false=true from p) Bool.false_ne_true
theorem Ah (b:Expr){op:CmpOp}(h:op≠.In:=by decide)(h2:op≠.NotIn:=by decide):behindInMarks op b=false:=by
 have e1:(op==CmpOp.In)=false:=by cases op <;> first|rfl|exact absurd rfl h
 have e2:(op==CmpOp.NotIn)=false:=by cases op <;> first|rfl|exact absurd rfl h2
 cases b <;> simp[behindInMarks,e1,e2]
def BR (t:TE):TT:=fun σ H Q=>t σ H fun x H'=>∃k,x=.bl k∧Q k H'
theorem vT {op:CmpOp}{r:R2}(ho:ej X (compareOp op) r)(ha:PE X a ta)(hb:PE X b tb)(hm:behindInMarks op b=false):PT X (.Compare a [op] [b] pos) (BR (C0 r ta tb)):=by
 intro ae s σ H Q I h;refine wpAny_isTrue_Compare1 (cj (ha ae s σ H _ I h) fun v s1 ⟨x,H1,I1,r1,q1⟩=>cj (hb ae s1 σ H1 _ I1 q1) fun u s2 ⟨y,H2,I2,r2,q2⟩=>
  cj (ho ae s2 σ H2 x y v u _ I2 r1 r2 q2) fun c s3 hxx=>?_) hm
 obtain⟨z,H3,I3,r3,k,e,q3⟩:=hxx;subst e;cases r3;exact wpAny_truthy_bool ⟨H3,I3,q3⟩
def sB (r r':R2)(ta tb tc:TE):TE:=fun σ H Q=>ta σ H fun x H1=>tb σ H1 fun y H2=>r x y H2 fun z H3=>∃k,z=.bl k∧
 (if k=true then tc σ H3 fun w' H4=>r' y w' H4 Q else Q (.bl false) H3)
theorem tM {op op':CmpOp}{r r':R2}(ho:ej X (compareOp op) r)(ho':ej X (compareOp op') r')(ha:PE X a ta)(hb:PE X b tb)(hc:PE X c tc)
  (hm:lastMarks [op,op'] [b,c]=false:=by with_unfolding_all rfl):PE X (.Compare a [op,op'] [b,c] pos) (sB r r' ta tb tc):=by
 intro ae s σ H Q I h;refine Compare_chain (cj (ha ae s σ H _ I h) fun v s1 ⟨x,H1,I1,r1,q1⟩=>chain_link (cj (hb ae s1 σ H1 _ I1 q1) fun u s2 ⟨y,H2,I2,r2,q2⟩=>
  cj (ho ae s2 σ H2 x y v u _ I2 r1 r2 q2) fun d s3 hxx=>?_)) hm
 obtain⟨z,H3,I3,r3,k,e,q3⟩:=hxx;subst e;cases r3;refine wpAny_truthy_bool ?_;cases k with
 | false=>exact ite_ff ⟨.bl false,H3,I3,rfl,q3⟩
 | true=>exact ite_tt (chain_last (cj (hc ae s3 σ H3 _ I3 q3) fun w' s4 ⟨z',H4,I4,r4,q4⟩=>ho' ae s4 σ H4 y z' u w' Q I4 r2 r4 q4))
def Cy (K:W.Frag)(x:V)(H:Hp)(k:Bool):Prop:=
 match x with
 | .non=>k=false
 | .bl b=>k=b
 | .int i=>k=(i != 0)
 | .str y=>y.length≤sizeLine∧k=((y.length:Int) != 0)
 | .byt y=>y.size≤sizeLine∧k=((y.size:Int) != 0)
 | .ref p=>(∃xs,iZ K H p xs∧k=!xs.isEmpty)∨(∃xs,lX K H p xs∧k=!xs.isEmpty)∨∃kvs,H p=some (.dK kvs)∧k=!kvs.isEmpty
 | _=>False
theorem oo {κ:Type}{kvs:List (κ×V)}{vs:List (κ×Value)}(r:KV kvs vs):(!vs.isEmpty)=!kvs.isEmpty:=by
 cases r <;> rfl
theorem jg {xs:List V}{its:List Value}(r:aM xs its):(!its.toArray.isEmpty)=!xs.isEmpty:=by
 cases r <;> simp
theorem gE:(sizeLine:Nat)<2 ^ 63:=by rw[sizeLine_eq];decide
theorem yO:Ex X (fun x H Q=>∃k,Cy X.K x H k∧Q k H):=by
 intro ae s σ H x v Q I rx h;obtain⟨k,e,q⟩:=h;have hl:=gE;have hs:sizeLine=16777216:=sizeLine_eq;cases x with
 | non=>
  cases rx;have e':k=false:=e;subst e';exact truthy_none ⟨H,I,q⟩
 | bl b=>
  cases rx;have e':k=b:=e;subst e';exact wpAny_truthy_bool ⟨H,I,q⟩
 | int i=>
  obtain⟨t,rfl⟩:=rx;have e':k=(i != 0):=e;subst e';exact PySem.P.truthy_int ⟨H,I,q⟩
 | str y=>
  obtain⟨t,rfl⟩:=rx;obtain⟨hy,e'⟩:y.length≤sizeLine∧k=((y.length:Int) != 0):=e;subst e';exact PySem.P.truthy_str (by omega) ⟨H,I.tok _,q⟩
 | byt y=>
  obtain⟨t,rfl⟩:=rx;obtain⟨hy,e'⟩:y.size≤sizeLine∧k=((y.size:Int) != 0):=e;subst e';exact W.truthy_bytes (by omega) ⟨H,I.tok _,q⟩
 | ref p=>
  cases rx;have e':(∃xs,iZ X.K H p xs∧k=!xs.isEmpty)∨(∃xs,lX X.K H p xs∧k=!xs.isEmpty)∨∃kvs,H p=some (.dK kvs)∧k=!kvs.isEmpty:=e;rcases e' with⟨xs,hx,e'⟩|⟨xs,hx,e'⟩|⟨kvs,hx,e'⟩
  ·subst e';obtain⟨its,r,pl,hz⟩:=I.list hx;have hlen:=r.length;exact wpAny_truthy_list pl.isList (by simp only[size_toArray];omega) ⟨H,I.tok _,by rw[jg r];exact q⟩
  ·subst e';obtain⟨its,r,pl,hz⟩:=I.tuple hx;have hlen:=r.length;exact truthy_tuple pl (by simp only[size_toArray];omega) ⟨H,I.tok _,by rw[jg r];exact q⟩
  ·subst e';obtain⟨hz,hS,vs,r,m⟩:kvs.length≤sizeLine∧(p==sysModules)=false∧∃vs,KV kvs vs∧s.heap.DictOf (lF X.prog X.w) p vs:=I.hok p _ hx;have hlen:kvs.length=vs.length:=Paired.length r;exact wpAny_truthy_dict hS m (by omega) ⟨H,I.tok _,by rw[oo r];exact q⟩
 | _=>exact(show False from e).elim
theorem sR (ha:PE X a ta)(he:∀whole,isTrue a X.env whole=(do let v ←whole;standAt a.pos;holding [v] (truthy v))) :
  PT X a (fun σ H Q=>ta σ H fun x H'=>∃k,Cy X.K x H' k∧Q k H'):=by
 intro ae s σ H Q I h;exact isTrue_plain (cj (ha ae s σ H _ I h) fun v s1 ⟨x,H1,I1,r1,q1⟩=>yO ae s1 σ H1 x v Q I1 r1 q1) (he _)
theorem nR:ej X (binaryOp .Add) (fun x y H Q=>∃i j,x=.str i∧y=.str j∧i.length+j.length≤sizeLine∧Q (.str (i++j)) H):=by
 intro ae s σ H x y v u Q I rx ry h;obtain⟨i,j,rfl,rfl,hz,q⟩:=h;obtain⟨t,rfl⟩:=rx;obtain⟨t',rfl⟩:=ry;exact add_str (fun t' tk=>⟨.str (i++j),H,I.tok _,⟨_,rfl⟩,q⟩) hz
theorem kF {x:V}{us:List Value}(r:aM [x] us):∃u,us=[u]∧aW x u:=by
 cases r with
 | cons r1 r2=>cases r2;exact⟨_,rfl,r1⟩
theorem xr {x y:V}{us:List Value}(r:aM [x,y] us):∃u w',us=[u,w']∧aW x u∧aW y w':=by
 cases r with
 | cons r1 r2=>
  cases r2 with
  | cons r3 r4=>cases r4;exact⟨_,_,rfl,r1,r3⟩
theorem p6 (hc:X.calm=true):cL X (.builtin "min") (fun xs H Q=>∃i j,xs=[.int i,.int j]∧Q (.int (if j<i then j else i)) H):=by
 intro ae s σ H xs us Q I r h;obtain⟨i,j,rfl,q⟩:=h;obtain⟨u,w',rfl,⟨t,rfl⟩,⟨t',rfl⟩⟩:=xr r;refine min_two_ints (I.ok.hd hc) fun h' tk k=>⟨_,H,I.kept k,?_,q⟩
 by_cases hj:j<i
 ·rw[if_pos hj,if_pos hj];exact⟨_,rfl⟩
 ·rw[if_neg hj,if_neg hj];exact⟨_,rfl⟩
end
structure E6 (K:W.Frag)(C:Addr):Prop where
 pg:W.plainGet K C Str.empty=true
 hd:W.hasDictIn K C=true
 po:W.plainOver K C=true
 sa:W.findIn K (.ref C) "__setattr__"=some (some (.builtin "object.__setattr__"))
def Aw (K:W.Frag)(C:Addr)(f:Str):Prop:=W.findIn K (.ref C) f=some none
structure Dt (K:W.Frag)(C:Addr)(m:Str)(f:Addr):Prop where
 at_:W.findIn K (.ref C) m=some (some (.ref f))
 fn:W.isFn K (.ref f)=true
 kp:W.keepIn K (.ref f)=true
def yA (X:Cx)(op:Operator)(rd:V→V→Hp→VK→Prop):Prop:=
 ∀(ae:List (Addr×Obj)) (s:Shared) (σ:St) (H:Hp) (x y:V) (u v:Value) (Q:VK),Inv X ae σ H s→aW x u→aW y v→rd x y H Q→wpAny (model X.prog X.w) X.A (inplaceOp op u v) (EP X ae σ Q) X.xe s
section
variable {X:Cx}{o e value:Expr}{f:Str}{pos pos' tpos:Pos}{ta tv:TE}
def DY:V→V→Hp→VK→Prop:=fun x y H Q=>∃i j,x=.int i∧y=.int j∧Q (.int (i+j)) H
theorem yf:yA X .Add DY:=by
 rintro ae s σ H x y u v Q I rx ry ⟨i,j,rfl,rfl,q⟩;obtain⟨t,rfl⟩:=(show∃t,u=Value.int i t from rx);obtain⟨t',rfl⟩:=(show∃t',v=Value.int j t' from ry);exact PyProof.Rows.iadd_int ⟨.int (i+j),H,I.tok _,⟨_,rfl⟩,q⟩
end
structure ck (k:Nat)(A:Around):Prop where
 hd:A.handled=none
 dp:A.depth+3*k+5<recursionLimit
 un:A.units+16*k+200<cLine
theorem ck.mono {j k:Nat}{A:Around}(r:ck k A)(h:j≤k):ck j A:=⟨r.hd,by have:=r.dp;omega,by have:=r.un;omega⟩
theorem ck.deeper {k:Nat}{A:Around}(r:ck (k+1) A)(env:Env):ck k (A.deeper env):=
 ⟨r.hd,by have:=r.dp;show A.depth+1+3*k+5<_;omega,by have:=r.un;show A.units+3+16*k+200<_;omega⟩
theorem ck.in1 {k:Nat}{A:Around}(r:ck (k+1) A):ck k A.in1:=
 ⟨r.hd,by have:=r.dp;show A.depth+3*k+5<_;omega,by have:=r.un;show A.units+1+16*k+200<_;omega⟩
theorem ck.depth {k:Nat}{A:Around}(r:ck k A):A.depth<recursionLimit:=by have:=r.dp;omega
theorem ck.units {k:Nat}{A:Around}(r:ck k A):A.units+64<cLine:=by have:=r.un;omega
def BB:TA:=fun _ H Q=>Q [] H
def xv (ta:TE)(tr:TA):TA:=fun σ H Q=>ta σ H fun x H1=>tr σ H1 fun xs H2=>Q (x::xs) H2
section
variable {X:Cx}{e:Expr}{es:List Expr}{te:TE}{t:TA}{pos:Pos}
theorem gF:PA X [] BB:=fun _ _ _ _ H Q I h=>Calls.spliced_nil ⟨[],H,I,.nil,h⟩
theorem eE (ha:PE X e te)(hr:PA X es t)(hs:starEach (e::es) X.env=(false,eval e X.env)::starEach es X.env:=by rfl):PA X (e::es) (xv te t):=by
 intro pos ae s σ H Q I h;rw[hs];show wpAny _ _ (spliced ((false,eval e X.env)::backTo pos (starEach es X.env))) _ _ s;refine Calls.spliced_cons (cj (ha ae s σ H _ I h) fun u s1 hxx=>?_);obtain⟨x,H1,I1,r1,q1⟩:=hxx;exact cj (hr pos ae s1 σ H1 _ I1 q1) fun us s2 ⟨xs,H2,I2,r2,q2⟩=>⟨x::xs,H2,I2,.cons r1 r2,q2⟩
def DW (t:TA):TE:=fun σ H Q=>t σ H fun xs H1=>xs.length≤sizeLine∧∀p,H1 p=none→Q (.ref p) (cK H1 p (.tup xs))
def Dy (t:TA):TE:=fun σ H Q=>t σ H fun xs H1=>xs.length≤sizeLine∧∀p,H1 p=none→Q (.ref p) (cK H1 p (.lst xs))
theorem yp {x1}(h:PA X es t):PE X (.Tuple es x1 pos) (DW t):=by
 intro ae s σ H Q I hq;refine wpAny_Tuple_spliced (cj (h pos ae s σ H _ I hq) fun us s1 ⟨xs,H1,I1,r,z,q⟩=>⟨by rw[←r.length];exact z,?_⟩);have hf:H1 s1.heap.objs.size=none:=I1.hok.fresh (Nat.le_refl _);refine⟨.ref s1.heap.objs.size,cK H1 s1.heap.objs.size (.tup xs),I1.laid (t':=s1.toks) (fun b u e=>Heap.get?_push_of_some _ e) (Nat.le_refl _) ?_,rfl,q _ hf⟩;exact⟨z,us,r,⟨_,Heap.get?_push_size _ rfl,rfl,_,rfl⟩⟩
theorem uq (h:PA X es t):PE X (.List es pos) (Dy t):=by
 intro ae s σ H Q I hq;refine wpAny_List_spliced (cj (h pos ae s σ H _ I hq) fun us s1 ⟨xs,H1,I1,r,z,q⟩=>⟨by rw[←r.length];exact z,?_⟩);have hf:H1 s1.heap.objs.size=none:=I1.hok.fresh (Nat.le_refl _);refine⟨.ref s1.heap.objs.size,cK H1 s1.heap.objs.size (.lst xs),I1.laid (t':=s1.toks) (fun b u e=>Heap.get?_push_of_some _ e) (Nat.le_refl _) ?_,rfl,q _ hf⟩;exact⟨z,us,0,r,Heap.get?_push_size _ rfl⟩
end
abbrev Sp:=List V→Hp→VK→XK→Prop
abbrev rM:=List Env→Hp→Shared→XK→Value→Shared→Prop
structure vS (P:Program)(w:World)(K:W.Frag)(mg:Str→Option Value)(base:Heap)(A:Around)(outer:List Env)(s:Shared)(H:Hp):Prop where
 frames:A.frames=some outer
 mod:Mod K mg base
 bs:∀b o,base.get? b=some o→s.heap.get? b=some o∧H b=none
 bsz:base.objs.size≤s.heap.objs.size
 funs:s.heap.FunFrames base outer
 frf:∀b∈kf outer,H b=none
 hok:i8 P w H s.heap
 bare:AllBare s.gens
def CE (outer:List Env)(P:Program)(w:World)(H:Hp)(s:Shared)(Q:VK)(u:Value)(s':Shared):Prop:=
 ∃v H',s'.os=s.os∧AllBare s'.gens∧Un (kf outer) [] H H' s.heap s'.heap∧i8 P w H' s'.heap∧aW v u∧Q v H'
def CR (CX:rM)(outer:List Env)(P:Program)(w:World)(H:Hp)(s:Shared)(Q:VK)(E:XK)(r:Result)(s':Shared):Prop:=
 match r with
 | .ok (.ret u)=>CE outer P w H s Q u s'
 | .ok _=>False
 | .error e=>CX outer H s E e s'
structure eW (P:Program)(w:World)(K:W.Frag)(mg:Str→Option Value)(base:Heap)(CX:rM)(k:Nat)(f:Addr)(fd:FuncData)(ps:List Str)(sp:Sp):Prop where
 len:∀vs H Q E,sp vs H Q E→vs.length=ps.length
 run:∀(A:Around) (outer:List Env) (s:Shared) (H:Hp) (args:Args) (us:List Value) (vs:List V) (Q:VK) (E:XK),ck k A→vS P w K mg base A outer s H→BindsTo s fd args (ps.zip us)→aM vs us→sp vs H Q E→
  codeAny (model P w) A (.call (.ref f) args) (CR CX outer P w H s Q E) s
theorem eW.imp {P:Program}{w:World}{K:W.Frag}{mg:Str→Option Value}{base:Heap}{CX:rM}{k:Nat}{f:Addr}{fd:FuncData}{ps:List Str}{sp sp':Sp}(F:eW P w K mg base CX k f fd ps sp)
  (h:∀vs H Q E,sp' vs H Q E→sp vs H Q E):eW P w K mg base CX k f fd ps sp':=
 ⟨fun vs H Q E q=>F.len vs H Q E (h _ _ _ _ q),fun A outer s H args us vs Q E hr he hb hv hs=>F.run A outer s H args us vs Q E hr he hb hv (h _ _ _ _ hs)⟩
section
variable {X:Cx}{ae:List (Addr×Obj)}{σ:St}{H:Hp}{s s':Shared}
theorem Inv.env0 (I:Inv X ae σ H s):vS X.prog X.w X.K X.mg X.base X.A X.stack s H:=
 ⟨I.ok.frames,I.ok.mod,I.bs,Nat.le_trans I.ok.bsz I.sz,I.stack,I.stkFree,I.hok,I.bare⟩
theorem Inv.after {Q:VK}{u:Value}(I:Inv X ae σ H s)(h:CE X.stack X.prog X.w H s Q u s'):EP X ae σ Q u s':=by
 obtain⟨v,H',os,bare,un,hok,r,q⟩:=h;obtain⟨hh,g,d,t,os'⟩:=s';obtain rfl:os'=s.os:=os;exact⟨v,H',I.call (h':=hh) (g':=g) (d':=d) (t':=t) (ch:=[]) un hok bare (fun b z=>absurd z (by simp)),r,q⟩
end
def Bq (sp:Sp)(dvs:List V)(E:XK)(t:TA):TE:=fun σ H Q=>t σ H fun vs H1=>sp (vs++dvs) H1 Q E
def fV (K:W.Frag)(fd:FuncData)(ps:List Str)(ds:List Value):Prop:=
 ∀(s:Shared) (us:List Value),K.In s.heap→(us++ds).length=ps.length→BindsTo s fd ⟨us,[]⟩ (ps.zip (us++ds))
theorem fV.all {K:W.Frag}{fd:FuncData}{ps:List Str}(h:∀us:List Value,us.length=ps.length→bindArgs fd ⟨us,[]⟩=pure (ps.zip us)):fV K fd ps []:=fun s us _ hl=>by
 rw[append_nil] at hl ⊢;exact .of_eq (h us hl)
def n6 (CX:rM)(X:Cx)(E:XK):Prop:=∀(ae:List (Addr×Obj)) (σ:St) (H:Hp) (s:Shared) (e:Value) (s':Shared),Inv X ae σ H s→CX X.stack H s E e s'→X.xe e s'
section
variable {X:Cx}{CX:rM}{k:Nat}{f C:Addr}{fd:FuncData}{ps:List Str}{sp:Sp}{dvs:List V}{ds:List Value}{E:XK}{x m:Str}{p pos apos:Pos}{e o:Expr}{es:List Expr}{ta:TE}{t:TA}
theorem AF {ae:List (Addr×Obj)}{σ:St}{H:Hp}{s:Shared}{Q:VK}{us:List Value}{vs:List V}(F:eW X.prog X.w X.K X.mg X.base CX k f fd ps sp)(hr:ck k X.A)(hb:fV X.K fd ps ds)(hd:aM dvs ds)(hx:n6 CX X E)
  (I:Inv X ae σ H s) (r:aM vs us) (h:sp (vs++dvs) H Q E):wpAny (model X.prog X.w) X.A (call (.ref f) us) (EP X ae σ Q) X.xe s:=by
 have r2:aM (vs++dvs) (us++ds):=r.append hd;have hl:(us++ds).length=ps.length:=by rw[←r2.length];exact F.len _ _ _ _ h
 refine wpAny_call (codeAny_mono (F.run X.A X.stack s H ⟨us,[]⟩ (us++ds) (vs++dvs) Q E hr I.env0 (hb s us I.kIn hl) r2 h) fun r s' hq=>?_);cases r with
 | error e=>exact hx ae σ H s e s' I hq
 | ok fl=>
  cases fl with
  | ret u=>exact I.after hq
  | next=>exact False.elim hq
  | brk=>exact False.elim hq
  | cont=>exact False.elim hq
theorem vM (F:eW X.prog X.w X.K X.mg X.base CX k f fd ps sp)(hr:ck k X.A)(hg:Gl X x)(hm:X.mg x=some (.ref f))(hk:W.keepIn X.K (.ref f)=true)(hb:fV X.K fd ps ds)(hd:aM dvs ds)(hx:n6 CX X E)
  (ha:PA X (e::es) t) (hdb:(x==("__debug__":Str))=false:=by decide) (he:starEach (e::es) X.env=(false,eval e X.env)::starEach es X.env:=by rfl) (hpl:(backTo pos (starEach es X.env)).any (·.1)=false:=by rfl) :
  PE X (.Call (.Name x p) (e::es) [] pos) (Bq sp dvs E t):=by
 intro ae s σ H Q I h;refine wpAny_Call_Name_kw (lV I hg hm ?_ hdb);refine W.callWith_K (h₀:=X.base) I.ok.mod.kin hk (cj (ha pos ae s σ H _ I h) fun us s1 ⟨vs,H1,I1,r,q⟩=>⟨I1.kIn,?_⟩) he hpl;exact AF F hr hb hd hx I1 r q
end
structure gf (N P:List Str)(sc:Scope):Prop where
 kind:sc.kind=.function
 co:sc.isCoroutine=false
 gen:sc.isGenerator=false
 nd:N.Nodup
 pre:N.take P.length=P
 par:∀x∈P,sc.names.lookup x=some .local∨sc.names.lookup x=some .cell
 nofree:∀y∈sc.names,y.2≠.free
theorem kI {kindOf:Str→Option NameKind}{x:Str}:∀{binds:List (Str×Value)} {m:Str→Option Value},(∀v,(x,v)∉binds)→bindL kindOf binds m x=m x
 | [],_,_=>rfl
 | (n,v)::r,m,h=>by
  unfold bindL;rw[kI fun w hw=>h w (mem_cons_of_mem _ hw)];split
  ·have:x≠n:=by rintro rfl;exact h v mem_cons_self
   simp[this]
  ·rfl
theorem kZ {kindOf:Str→Option NameKind}{x:Str}:∀{binds:List (Str×Value)} {m:Str→Option Value},(∀v,(x,v)∉binds)→bindC kindOf binds m x=m x
 | [],_,_=>rfl
 | (n,v)::r,m,h=>by
  unfold bindC;rw[kZ fun w hw=>h w (mem_cons_of_mem _ hw)];split
  ·rfl
  ·have:x≠n:=by rintro rfl;exact h v mem_cons_self
   simp[this]
theorem kA {kindOf:Str→Option NameKind}{x:Str}{v:Value}:∀{P:List Str} {vs:List Value} {i:Nat} {m:Str→Option Value},P.Nodup→P[i]?=some x→vs[i]?=some v→kindOf x=some .local→
  bindL kindOf (P.zip vs) m x=some v
 | [],_,_,_,_,h,_,_=>by simp at h
 | _::_,[],_,_,_,_,h,_=>by simp at h
 | p::P,w::vs,0,m,nd,h1,h2,hk=>by
  simp at h1 h2;subst h1;subst h2;show bindL kindOf ((p,w)::P.zip vs) m p=_;unfold bindL;rw[kI fun v hv=>(nodup_cons.mp nd).1 (of_mem_zip hv).1,if_pos hk];simp
 | p::P,w::vs,i+1,m,nd,h1,h2,hk=>by
  show bindL kindOf ((p,w)::P.zip vs) m x=_;unfold bindL;exact kA (i:=i) (nodup_cons.mp nd).2 (by simpa using h1) (by simpa using h2) hk
theorem kX {kindOf:Str→Option NameKind}{x:Str}{v:Value}:∀{P:List Str} {vs:List Value} {i:Nat} {m:Str→Option Value},P.Nodup→P[i]?=some x→vs[i]?=some v→kindOf x≠some .local→
  bindC kindOf (P.zip vs) m x=some v
 | [],_,_,_,_,h,_,_=>by simp at h
 | _::_,[],_,_,_,_,h,_=>by simp at h
 | p::P,w::vs,0,m,nd,h1,h2,hk=>by
  simp at h1 h2;subst h1;subst h2;show bindC kindOf ((p,w)::P.zip vs) m p=_;unfold bindC;rw[kZ fun v hv=>(nodup_cons.mp nd).1 (of_mem_zip hv).1,if_neg hk];simp
 | p::P,w::vs,i+1,m,nd,h1,h2,hk=>by
  show bindC kindOf ((p,w)::P.zip vs) m x=_;unfold bindC;exact kX (i:=i) (nodup_cons.mp nd).2 (by simpa using h1) (by simpa using h2) hk
def start (N:List Str)(vs:List V):St:=vs.map some++List.replicate (N.length-vs.length) none
def hZ (CX:rM)(P:Program)(w:World)(K:W.Frag)(mg:Str→Option Value)(base:Heap)(N:List Str)(qual:Str)(scope:Scope)(f:Addr)(cd:Value)(A:Around)(outer:List Env)(s:Shared)(H:Hp)(E:XK):Cx where
 prog:=P
 w:=w
 K:=K
 mg:=mg
 base:=base
 A:=A.deeper (envOfC qual scope s.heap.objs.size f cd)
 N:=N
 s₀:=s
 H₀:=H
 env:=envOfC qual scope s.heap.objs.size f cd
 outer:=outer
 stack:=envOfC qual scope s.heap.objs.size f cd::outer
 ex:=[]
 calm:=true
 fn:=fun _=>true
 pn:=[]
 xe:=fun e s'=>wpAny (model P w) (A.deeper (envOfC qual scope s.heap.objs.size f cd)) (leaving (envOfC qual scope s.heap.objs.size f cd) e) (fun _ s''=>CX outer H s E e s'') (fun e' s''=>CX outer H s E e' s'') s'
theorem mq {sc:Scope}{n:Nat}{x:Str}(h:sc.names.lookup x=some .cell):∃c,(cellsFrom n sc.names []).lookup x=some c:=by
 have q:=W.cellsFrom_some sc.names n [] (.inl h);exact Option.isSome_iff_exists.mp q
theorem qH {CX:rM}{P:Program}{w:World}{K:W.Frag}{mg:Str→Option Value}{base:Heap}{N ps:List Str}{qual:Str}{scope:Scope}{f:Addr}{cd:Value}{A:Around}{outer:List Env}{s s1:Shared}{H:Hp}{E:XK}{us:List Value}{vs:List V}
  (S:gf N ps scope) (hd:A.handled=none) (e0:vS P w K mg base A outer s H) (hl:vs.length=ps.length) (r:aM vs us)
  (x:InCallC s s.heap.objs.size (bindL (envOfC qual scope s.heap.objs.size f cd).kindOf (ps.zip us) fun _=>none) (cellsFrom (s.heap.objs.size+1) scope.names []) (bindC (envOfC qual scope s.heap.objs.size f cd).kindOf (ps.zip us) fun _=>none) s1) :
  Inv (hZ CX P w K mg base N qual scope f cd A outer s H E) [] (start N vs) H s1:=by
 have hpl:ps.length≤N.length:=by have:=congrArg List.length S.pre;rw[length_take] at this;omega
 obtain⟨h1,tk,rfl,hk⟩:=x.done;have noA:∀b:Addr,b∉(hZ CX P w K mg base N qual scope f cd A outer s H E).ex:=fun b z=>absurd (show b∈([]:List Addr) from z) (by simp)
 refine⟨⟨e0.mod,S.kind,rfl,rfl,Nat.le_refl _,fun y z c h1 h2=>?_,fun y hy=>?_,fun y c _ h=>?_,fun _=>hd,Around.frames_deeper e0.frames,.inr ⟨rfl,rfl⟩,fun b z=>absurd z (noA b),e0.bs,e0.bsz,fun b _ _=>noA b,fun b z=>absurd z (noA b),e0.funs,e0.frf⟩,
  rfl,e0.bare,Un.kept hk,⟨_,x.toInCall.ns,fun i y v h1 h2 h3=>?_⟩,fun y c h=>⟨_,x.cell y c h⟩,e0.hok.fresh (Nat.le_refl _),fun y c h=>?_,fun p hp=>absurd (show p∈([]:List (Addr×Obj)) from hp) (by simp),e0.hok.kept hk,?_⟩
 ·exact name_of_addr x.apart (PySem.mem_of_lookup h1) (PySem.mem_of_lookup h2)
 ·have hy:scope.names.lookup y=some .cell∨scope.names.lookup y=some .free:=hy;rcases hy with hy|hy
  ·exact mq hy
  ·exact absurd rfl (S.nofree _ (PySem.mem_of_lookup hy))
 ·exact Nat.le_of_lt (x.above y c (PySem.mem_of_lookup h))
 ·have hi:i<vs.length:=by
   unfold start at h2
   by_cases hi:i<vs.length
   ·exact hi
   ·rw[getElem?_append_right (by simpa using hi)] at h2;rw[getElem?_replicate] at h2;split at h2 <;> cases h2
  have ha:vs[i]?=some v:=by
   unfold start at h2;rw[getElem?_append_left (by simpa using hi),getElem?_map] at h2;cases e:vs[i]? with
   | none=>rw[e] at h2;cases h2
   | some a=>rw[e] at h2;cases h2;rfl
  obtain⟨u,hu,rv⟩:=r.get ha;have hp:ps[i]?=some y:=by
   rw[←S.pre,getElem?_take_of_lt (by omega)];exact h1
  have ndP:ps.Nodup:=by rw[←S.pre];exact S.nd.sublist (take_sublist _ _)
  refine⟨u,rv,?_⟩;rcases S.par y (mem_of_getElem? hp) with k|k
  ·exact .inl ⟨k,kA ndP hp hu k⟩
  ·obtain⟨c,e⟩:=mq (n:=s.heap.objs.size+1) k;refine .inr ⟨.inl k,c,e,?_⟩;have q:=x.cell y c e;rw[kX ndP hp hu (by show scope.names.lookup y≠_;rw[k];decide)] at q;exact q
 ·exact e0.hok.fresh (Nat.le_of_lt (x.above y c (PySem.mem_of_lookup h)))
 ·unfold start;show _=N.length;rw[length_append,length_map,length_replicate];omega
theorem AZ {CX:rM}{P:Program}{w:World}{K:W.Frag}{mg:Str→Option Value}{base:Heap}{k:Nat}{f:Addr}{name qual:Str}{params:Arguments}{body:List Stmt}{scope:Scope}{dV kV doc pm cdv ct oc:Value}{an od:Option Addr}
  {osl:Array (Option Value)} {N ps:List Str} {sp:Sp} (lk:K.lookup f=some ⟨oc,od,.func (W.fnOf name qual params body scope dV kV doc pm an cdv ct),osl⟩) (hcd:W.codeIn K cdv qual=true) (S:gf N ps scope)
  (len:∀vs H Q E,sp vs H Q E→vs.length=ps.length)
  (hbody:∀(A:Around) (outer:List Env) (s:Shared) (H:Hp) (vs:List V) (Q:VK) (E:XK),ck k (A.deeper (envOfC qual scope s.heap.objs.size f cdv))→sp vs H Q E→
   ∃t,PSs (hZ CX P w K mg base N qual scope f cdv A outer s H E) body t∧t {nx:=fun _ H'=>Q .non H',rt:=Q} (start N vs) H) :
  eW P w K mg base CX (k+1) f (W.fnOf name qual params body scope dV kV doc pm an cdv ct) ps sp:=by
 refine⟨len,fun A outer s H args us vs Q E hr e0 hb r hsp=>?_⟩;have hl:=len _ _ _ _ hsp;have KX:K.In s.heap:=e0.mod.kin.keeps fun b o e=>(e0.bs b o e).1
 have lim:s.heap.NoLimit:=e0.mod.nolimit.keeps fun b o e=>(e0.bs b o e).1
 have hkind:∀y∈ps.zip us,scope.names.lookup y.1=some .local∨(scope.names.lookup y.1=some .cell∧((cellsFrom (s.heap.objs.size+1) scope.names []).lookup y.1).isSome=true):=fun⟨n,v⟩ hy=>by
  rcases S.par n (of_mem_zip hy).1 with q|q
  ·exact .inl q
  ·exact .inr ⟨q,W.cellsFrom_some _ _ _ (.inl q)⟩
 refine codeAny_call_function hr.depth (KX _ _ lk) rfl S.co S.gen rfl (W.codeRec_of KX hcd) (hb _ _ _ _ ?_);refine wpAny_newFunctionEnv_cells S.kind hkind fun env he s1 x=>?_
 subst he;refine⟨lim.keeps x.toInCall.keep,codeAny_func ?_⟩;obtain⟨t,ht,hq⟩:=hbody A outer s H vs Q E (hr.deeper _) hsp;have I:Inv (hZ CX P w K mg base N qual scope f cdv A outer s H E) [] (start N vs) H s1:=qH S hr.hd e0 hl r x;refine wpAny_mono (ht [] s1 (start N vs) H _ I hq) (fun fl s' hs=>?_) fun e s' hs=>hs
 have fin:∀{σ':St} {H':Hp} {v:V} {u:Value},Inv (hZ CX P w K mg base N qual scope f cdv A outer s H E) [] σ' H' s'→aW v u→Q v H'→CE outer P w H s Q u s':=
  fun {σ' H' v u} J rv q=>⟨v,H',J.os,J.bare,J.base,J.hok,rv,q⟩
 cases fl with
 | ret u=>
  obtain⟨v,σ',H',J,rv,q⟩:=hs;exact fin J rv q
 | next=>
  obtain⟨σ',H',J,q⟩:=hs;exact fin (v:=V.non) (u:=Value.none) J rfl q
 | brk=>
  obtain⟨_,_,_,q⟩:=hs;exact False.elim q
 | cont=>
  obtain⟨_,_,_,q⟩:=hs;exact False.elim q
section
variable {X:Cx}{x:Str}{p pos:Pos}{e:Expr}{es:List Expr}{t:TA}{id T:String}{r:List V→Hp→VK→Prop}
def Eg (r:List V→Hp→VK→Prop)(t:TA):TE:=fun σ H Q=>t σ H fun vs H1=>r vs H1 Q
theorem ni (hc:cL X (.builtin id) r)(hg:Gl X x)(hm:X.mg x=none)(hv:bootBuiltins x=some (.builtin id))(ha:PA X (e::es) t)(hn:x≠"__name__":=by decide)(hdb:(x==("__debug__":Str))=false:=by decide)
  (he:starEach (e::es) X.env=(false,eval e X.env)::starEach es X.env:=by rfl) (hpl:(backTo pos (starEach es X.env)).any (·.1)=false:=by rfl):PE X (.Call (.Name x p) (e::es) [] pos) (Eg r t):=by
 intro ae s σ H Q I h;refine wpAny_Call_Name_kw (gL I hg hm hv ?_ hn hdb);exact PyProof.Rows.callWith_builtin1 (cj (ha pos ae s σ H _ I h) fun us s1 ⟨vs,H1,I1,r1,q1⟩=>hc ae s1 σ H1 vs us Q I1 r1 q1) he hpl
theorem qY (hc:cL X (.type T) r)(hg:Gl X x)(hm:X.mg x=none)(hv:bootBuiltins x=some (.type T))(ha:PA X (e::es) t)(hn:x≠"__name__":=by decide)(hdb:(x==("__debug__":Str))=false:=by decide)
  (he:starEach (e::es) X.env=(false,eval e X.env)::starEach es X.env:=by rfl) (hpl:(backTo pos (starEach es X.env)).any (·.1)=false:=by rfl):PE X (.Call (.Name x p) (e::es) [] pos) (Eg r t):=by
 intro ae s σ H Q I h;refine wpAny_Call_Name_kw (gL I hg hm hv ?_ hn hdb);exact PyProof.Rows.callWith_type1 (cj (ha pos ae s σ H _ I h) fun us s1 ⟨vs,H1,I1,r1,q1⟩=>hc ae s1 σ H1 vs us Q I1 r1 q1) he hpl
end
end L2
namespace HT
open PySem PyProof.Rows
theorem rcLt_int (A:Around)(s:Shared)(a:Int)(t:Tok)(c:Int)(u:Tok)(prog:Program)(w:World)(E:Value→Shared→Prop)(Q:Value→Shared→Prop)(h:Q (.bool (decide (a<c))) s) :
  wpAny (model prog w) A (richCompare .Lt (.int a t) (.int c u)) Q E s:=
 (PyProof.Rows.lt_int h:wpAny (model prog w) A (compareOp .Lt (.int a t) (.int c u)) Q E s)
section
open PySem.SeqAt
open PySem.AutoSeq1 (wpAny_loadPart')
open PySem.MeetsSeq PySem.MeetsSeq2 PySem.MeetsSeq3
end
section
variable {prog:Program}{w:World}{A:Around}{E:Value→Shared→Prop}{s:Shared}
theorem cat_tup {t b:Addr}{vs ws:List Value}{Q:Value→Shared→Prop}(ht:IsTup s.heap t vs.toArray)(hb:IsTup s.heap b ws.toArray)(hv:vs≠[])
  (h1:ws=[]→Q (.ref t) s) (h2:ws≠[]→Q (.ref s.heap.objs.size) {s with heap:=s.heap.push {cls:=.type "tuple",data:=.seq (vs++ws).toArray}})
  (hsz:vs.length+ws.length≤sizeLine):wpAny (model prog w) A (binaryOp .Add (.ref t) (.ref b)) Q E s:=by
 obtain⟨⟨cls,dd,data,sl⟩,ho,hc,n,hd⟩:=id ht;obtain⟨⟨cls2,dd2,data2,sl2⟩,ho2,hc2,n2,hd2⟩:=id hb;simp only at hc hd hc2 hd2;subst hc hd hc2 hd2;have e:vs.toArray++ws.toArray=(vs++ws).toArray:=by simp
 by_cases hw:ws=[]
 ·exact concat_meets ⟨_,ho,rfl⟩ ⟨_,ho2,rfl⟩ noFill_tuple_add seq_tuple_add PySem.F.slot_tuple_add PySem.F.entry_tuple_add (PySem.F.args_tuple_add_2 _ _)
   (tuple_addW1 t b vs.toArray ws.toArray n n2 dd dd2 sl sl2 (by simpa using hv) (by simp[hw])) ⟨ho,ho2,h1 hw⟩
 ·refine concat_meets ⟨_,ho,rfl⟩ ⟨_,ho2,rfl⟩ noFill_tuple_add seq_tuple_add PySem.F.slot_tuple_add PySem.F.entry_tuple_add (PySem.F.args_tuple_add_2 _ _)
   (tuple_addW2 t b vs.toArray ws.toArray n n2 dd dd2 sl sl2 (by simpa using hv) (by simpa using hw) (by rw[List.size_toArray,List.size_toArray];exact hsz)) ⟨ho,ho2,?_⟩
  rw[e];exact h2 hw
def sIx (n d:Nat):Option Int→Nat
 | none=>d
 | some v=>if v<0 then(v+(n:Int)).toNat else min v.toNat n
theorem sIx_none (n d:Nat):sIx n d none=d:=rfl
theorem sIx_nat (n d k:Nat):sIx n d (some (k:Int))=min k n:=by
 show(if(k:Int)<0 then((k:Int)+(n:Int)).toNat else min (k:Int).toNat n)=min k n;rw[if_neg (by omega),Int.toNat_natCast]
theorem sIx_le (n d:Nat)(hd:d≤n)(o:Option Int):sIx n d o≤n:=by
 cases o with
 | none=>exact hd
 | some v=>
  show(if v<0 then(v+(n:Int)).toNat else min v.toNat n)≤n
  by_cases hv:v<0
  ·rw[if_pos hv];omega
  ·rw[if_neg hv];exact Nat.min_le_right _ _
theorem oO (v:Int)(n d:Nat):(if v<0 then max (v+(n:Int)) 0 else min v (n:Int))=((sIx n d (some v):Nat):Int):=by
 show(if v<0 then max (v+(n:Int)) 0 else min v (n:Int))=(((if v<0 then(v+(n:Int)).toNat else min v.toNat n):Nat):Int)
 by_cases hv:v<0
 ·simp only[if_pos hv];omega
 ·simp only[if_neg hv];omega
theorem nS (lo hi:Option Int)(n:Nat):Builtin.Slice.sliceAdjust lo hi 1 (n:Int)=(((sIx n 0 lo:Nat):Int),((sIx n n hi:Nat):Int)):=by
 have h1:¬((1:Int)<0):=by omega
 unfold Builtin.Slice.sliceAdjust;simp only[h1,if_false];refine Prod.ext ?_ ?_
 ·cases lo with
  | none=>rfl
  | some v=>exact oO v n 0
 ·cases hi with
  | none=>rfl
  | some v=>exact oO v n n
theorem n9 (i j:Nat):Builtin.Slice.slicePlaces (i:Int) (j:Int) 1=j-i:=by
 unfold Builtin.Slice.slicePlaces;have h1:(1:Int)>0:=by omega
 simp only[h1,if_true,Int.ediv_one];split <;> omega
theorem jU {v:Value}{o:Option Int}{Q:Option Int→Shared→Prop}(p:IsPart v o)(h:Q o s):wpAny (model prog w) A (Builtin.Slice.slicePartIndex v) Q E s:=by
 cases p with
 | none=>exact slicePart_none h
 | int i t=>exact slicePart_int h
theorem sliceApplied_gen {sl:Addr}{vl vu:Value}{lo hi:Option Int}{n:Nat}{Q:Int×Int×Nat→Shared→Prop}(hs:s.heap.IsSliceOf sl vl vu .none)(pl:IsPart vl lo)(pu:IsPart vu hi)
  (h:Q (((sIx n 0 lo:Nat):Int),1,sIx n n hi-sIx n 0 lo) s):wpAny (model prog w) A (Builtin.Slice.sliceApplied (.ref sl) (pure (n:Int))) Q E s:=by
 obtain⟨os,hos,hcs,hds⟩:=id hs;unfold Builtin.Slice.sliceApplied Builtin.Slice.sliceFields;refine wpAny_bind (wpAny_bind (wpAny_field hos hds (x:=vl) rfl (wpAny_bind (wpAny_field hos hds (x:=vu) rfl (wpAny_bind (wpAny_field hos hds (x:=.none) rfl (wpAny_pure ?_)))))));refine wpAny_bind (slicePart_none ?_);show wpAny _ _ (if((1:Int)==0)=true then _ else _) _ _ s;rw[if_neg (by decide)];refine wpAny_bind (jU pl (wpAny_bind (jU pu (wpAny_bind (wpAny_pure ?_)))));show wpAny _ _ (match Builtin.Slice.sliceAdjust lo hi 1 (n:Int) with|(lo,hi)=>pure (lo,(1:Int),Builtin.Slice.slicePlaces lo hi 1)) _ _ s;rw[nS lo hi n];show wpAny _ _ (pure (((sIx n 0 lo:Nat):Int),(1:Int),Builtin.Slice.slicePlaces ((sIx n 0 lo:Nat):Int) ((sIx n n hi:Nat):Int) 1)) _ _ s;rw[n9];exact wpAny_pure h
theorem tJ (xs:Array Value)(i k:Nat):((List.range k).filterMap fun(m:Nat)=>xs[((i:Int)+(m:Int)*1).toNat]?).toArray=((xs.toList.drop i).take k).toArray:=by
 have e:(fun(m:Nat)=>xs[((i:Int)+(m:Int)*1).toNat]?)=fun m=>xs[i+m]?:=by
  funext m;have:((i:Int)+(m:Int)*1).toNat=i+m:=by omega
  rw[this]
 rw[e];have:=pick_run xs i k;rw[List.filterMap_map] at this;have e2:((fun x=>xs[x]?) ∘ fun x=>i+x)=fun m=>xs[i+m]?:=rfl
 rw[e2] at this;rw[this]
theorem getItem_tuple_cut {t sl:Addr}{items:Array Value}{vl vu:Value}{lo hi:Option Int}{Q:Value→Shared→Prop}(ht:IsTup s.heap t items)(hs:s.heap.IsSliceOf sl vl vu .none)(pl:IsPart vl lo)(pu:IsPart vu hi)
  (hw:¬(sIx items.size 0 lo=0∧sIx items.size items.size hi=items.size))
  (h:Q (.ref s.heap.objs.size) {s with heap:=s.heap.push {cls:=.type "tuple",data:=.seq ((items.toList.drop (sIx items.size 0 lo)).take (sIx items.size items.size hi-sIx items.size 0 lo)).toArray}})
  (hsz:items.size≤sizeLine):wpAny (model prog w) A (getItem (.ref t) (.ref sl)) Q E s:=by
 have htake:sizeOk (.seq ((items.toList.drop (sIx items.size 0 lo)).take (sIx items.size items.size hi-sIx items.size 0 lo)).toArray):=by
  show((items.toList.drop (sIx items.size 0 lo)).take (sIx items.size items.size hi-sIx items.size 0 lo)).toArray.size≤sizeLine;rw[List.size_toArray,List.length_take,List.length_drop,Array.length_toList];omega
 have hj:sIx items.size items.size hi≤items.size:=sIx_le _ _ (Nat.le_refl _) hi;obtain⟨os,hos,hcs,hds⟩:=id hs;have hTs:s.TypeIs (.ref sl) "slice":=⟨os,hos,hcs⟩;unfold getItem
 try with_reducible refine wpAny_holding ?_
 first|refine wpAny_bind (wpAny_pure ?_)|skip
 refine wpAny_bind (wpAny_sequenceKey ht.typeIs (by decide) ?_);refine wpAny_bind (wpAny_callSpecial?_slot (name:=Str.ofString "__getitem__") ht.typeIs PyProof.Rows.slot_tuple_getitem
  (wpAny_call_entry PyProof.Rows.slot_tuple_getitem ht.typeIs entry_tuple_getitem ?_ (args_tuple_getitem _ _)))
 show wpAny _ _ (Builtin.Tuple.tupleItemsOf (.ref t) >>= _) _ _ s;refine wpAny_bind (tupleItemsOf_ ht ?_);refine wpAny_bind (wpAny_typeOf hTs ?_);rw[if_pos (by decide)];refine wpAny_bind (sliceApplied_gen hs pl pu ?_);have hno:¬((((sIx items.size 0 lo:Nat):Int)==0&&(1:Int)==1&&(sIx items.size items.size hi-sIx items.size 0 lo)==items.size)=true):=by
  intro q;rw[Bool.and_eq_true,Bool.and_eq_true] at q;have q1:((sIx items.size 0 lo:Nat):Int)=0:=eq_of_beq q.1.1;have q2:sIx items.size items.size hi-sIx items.size 0 lo=items.size:=eq_of_beq q.2;exact hw ⟨by omega,by omega⟩
 show wpAny _ _ (if(((sIx items.size 0 lo:Nat):Int)==0&&(1:Int)==1&&(sIx items.size items.size hi-sIx items.size 0 lo)==items.size)=true then _ else _) _ _ s;rw[if_neg hno,tJ]
 first
  | exact wpAny_bind (m:=Builtin.Tuple.tupleExact _) (wpAny_newObj_type (wpAny_pure ⟨_,rfl,wpAny_pure h⟩) htake)
  | exact wpAny_bind (m:=Builtin.Tuple.tupleExact _) (wpAny_newObj_type (wpAny_bind (wpAny_pure (wpAny_pure ⟨_,rfl,wpAny_pure h⟩))) htake)
  | exact wpAny_bind (wpAny_bind (m:=Builtin.Tuple.tupleExact _) (wpAny_newObj_type (wpAny_pure (wpAny_pure ⟨_,rfl,wpAny_pure h⟩)) htake))
  | exact wpAny_bind (wpAny_bind (m:=Builtin.Tuple.tupleExact _) (wpAny_newObj_type (wpAny_pure ⟨_,rfl,wpAny_pure h⟩) htake))
end
end HT
namespace L2
open PySem PySem.Spec PyProof.Rows List
abbrev TO:=St→Hp→(Option Int→Hp→Prop)→Prop
def PO (X:Cx)(e:Option Expr)(t:TO):Prop:=
 ∀(ae:List (Addr×Obj)) (s:Shared) (σ:St) (H:Hp) (Q:Option Int→Hp→Prop),Inv X ae σ H s→t σ H Q→
  wpAny (model X.prog X.w) X.A (evalPart e X.env) (fun u s'=>∃o H',Inv X ae σ H' s'∧IsPart u o∧Q o H') X.xe s
def wU:TO:=fun _ H Q=>Q none H
def Bu (t:TE):TO:=fun σ H Q=>t σ H fun x H1=>∃i,x=.int i∧Q (some i) H1
section
variable {X:Cx}{e:Expr}{te:TE}{lo hi:Option Expr}{tl th:TO}{pos p2:Pos}
theorem v3:PO X none wU:=by
 intro ae s σ H Q I h;rw[evalPart_none];exact wpAny_pure ⟨none,H,I,.none,h⟩
theorem ww (h:PE X e te):PO X (some e) (Bu te):=by
 intro ae s σ H Q I hw;rw[evalPart_some];refine cj (h ae s σ H _ I hw) fun u s1 hxx=>?_
 obtain⟨x,H1,I1,r1,q1⟩:=hxx;obtain⟨i,rfl,q⟩:=q1;obtain⟨t,rfl⟩:=r1;exact⟨some i,H1,I1,.int i t,q⟩
def BN (X:Cx)(r:V→Option Int→Option Int→Hp→VK→Prop):Prop:=
 ∀(ae:List (Addr×Obj)) (s:Shared) (σ:St) (H:Hp) (x:V) (v vl vu:Value) (lo hi:Option Int) (sl:Addr) (Q:VK),Inv X ae σ H s→aW x v→s.heap.IsSliceOf sl vl vu .none→IsPart vl lo→IsPart vu hi→r x lo hi H Q→
  ∃T id,typeLookup (.type T) "__getitem__"=pure (some (.builtin id))∧s.TypeIs v T∧wpAny (model X.prog X.w) X.A (getItem v (.ref sl)) (EP X ae σ Q) X.xe s
def E8 (r:V→Option Int→Option Int→Hp→VK→Prop)(te:TE)(tl th:TO):TE:=fun σ H Q=>te σ H fun x H1=>tl σ H1 fun l H2=>th σ H2 fun u H3=>r x l u H3 Q
theorem tw {r:V→Option Int→Option Int→Hp→VK→Prop}(hr:BN X r)(he:PE X e te)(hl:PO X lo tl)(hu:PO X hi th):PE X (.Subscript e (.Slice lo hi none p2) pos) (E8 r te tl th):=by
 intro ae s σ H Q I h;refine Subscript_ (cj (he ae s σ H _ I h) fun v s1 hxx=>?_);obtain⟨x,H1,I1,r1,q1⟩:=hxx;refine wpAny_Slice (cj (hl ae s1 σ H1 _ I1 q1) fun vl s2 ⟨l,H2,I2,pl,q2⟩=>cj (hu ae s2 σ H2 _ I2 q2) fun vu s3 hxx=>?_);obtain⟨u,H3,I3,pu,q3⟩:=hxx;rw[evalPart_none];refine wpAny_pure ?_;have I4:Inv X ae σ H3 {s3 with heap:=s3.heap.push {cls:=.type "slice",data:=.fields #[vl,vu,.none]}}:=I3.kept (t':=s3.toks) fun b ob q=>Heap.get?_push_of_some _ q
 obtain⟨T,id,hT,ht,hg⟩:=hr ae {s3 with heap:=s3.heap.push {cls:=.type "slice",data:=.fields #[vl,vu,.none]}} σ H3 x v vl vu l u s3.heap.objs.size Q I4 r1 (Heap.IsSliceOf.new ..) pl pu q3;show wpAny (model X.prog X.w) X.A (subscriptTail e (.Slice lo hi none p2) v (.ref s3.heap.objs.size)) (EP X ae σ Q) X.xe {s3 with heap:=s3.heap.push {cls:=.type "slice",data:=.fields #[vl,vu,.none]}};exact tail_any (ops:=[.ref s3.heap.objs.size,v]) ht hT hg (by with_unfolding_all rfl)
def mv (xs:List V)(lo hi:Option Int):List V:=(xs.drop (HT.sIx xs.length 0 lo)).take (HT.sIx xs.length xs.length hi-HT.sIx xs.length 0 lo)
theorem iQ (xs:List V)(lo hi:Option Int):(mv xs lo hi).length≤xs.length:=by
 unfold mv;rw[length_take,length_drop];omega
def Ea (K:W.Frag):V→Option Int→Option Int→Hp→VK→Prop:=fun x lo hi H Q=>∃a xs,x=.ref a∧lX K H a xs∧
 ¬(HT.sIx xs.length 0 lo=0∧HT.sIx xs.length xs.length hi=xs.length)∧∀p,H p=none→Q (.ref p) (cK H p (.tup (mv xs lo hi)))
theorem yP:BN X (Ea X.K):=by
 intro ae s σ H x v vl vu lo hi sl Q I rx hs pl pu h;obtain⟨a,xs,rfl,hx,hw,q⟩:=h;cases rx;obtain⟨its,r,ht,hz⟩:=I.tuple hx;have hlen:its.toArray.size=xs.length:=by rw[size_toArray];exact r.length.symm
 refine⟨"tuple",_,PyProof.Rows.slot_tuple_getitem.lookup,ht.typeIs,?_⟩;refine HT.getItem_tuple_cut ht hs pl pu (by rw[hlen];exact hw) ?_ (by rw[hlen];exact hz);rw[hlen];refine⟨.ref s.heap.objs.size,_,I.laid (t':=s.toks) (o:=.tup (mv xs lo hi)) (fun b ob q=>Heap.get?_push_of_some _ q) (Nat.le_refl _) ?_,rfl,q _ (I.hok.fresh (Nat.le_refl _))⟩;exact⟨Nat.le_trans (iQ xs lo hi) hz,_,(r.drop (HT.sIx xs.length 0 lo)).take (HT.sIx xs.length xs.length hi-HT.sIx xs.length 0 lo),IsTup.new _ _⟩
def Bx (K:W.Frag):R2:=fun x y H Q=>∃a b xs ys,x=.ref a∧y=.ref b∧lX K H a xs∧lX K H b ys∧xs≠[]∧xs.length+ys.length≤sizeLine∧
 (ys=[]→Q (.ref a) H)∧(ys≠[]→∀p,H p=none→Q (.ref p) (cK H p (.tup (xs++ys))))
theorem aM.nil_iff {xs:List V}{us:List Value}(r:aM xs us):us=[]↔xs=[]:=by
 cases r with
 | nil=>simp
 | cons _ _=>simp
theorem vR:ej X (binaryOp .Add) (Bx X.K):=by
 intro ae s σ H x y v u Q I rx ry h;obtain⟨a,b,xs,ys,rfl,rfl,ha,hb,hx,hz,q1,q2⟩:=h;cases rx;cases ry;obtain⟨its,r1,p1,_⟩:=I.tuple ha;obtain⟨its2,r2,p2,_⟩:=I.tuple hb;refine HT.cat_tup p1 p2 (fun z=>hx (r1.nil_iff.mp z)) (fun z=>⟨.ref a,H,I,rfl,q1 (r2.nil_iff.mp z)⟩) (fun z=>?_) (by rw[←r1.length,←r2.length];exact hz);refine⟨.ref s.heap.objs.size,_,I.laid (t':=s.toks) (o:=.tup (xs++ys)) (fun b ob q=>Heap.get?_push_of_some _ q) (Nat.le_refl _) ?_,rfl,q2 (fun w=>z (r2.nil_iff.mpr w)) _ (I.hok.fresh (Nat.le_refl _))⟩;exact⟨by rw[length_append];exact hz,_,r1.append r2,IsTup.new _ _⟩
end
def nW (n:Nat)(i:Int):Option Nat:=if 0≤i then(if i<n then some i.toNat else none) else if -(n:Int)≤i then some (i+n).toNat else none
def j6 {α:Type}(xs:List α)(i:Int):Option α:=(nW xs.length i).bind fun j=>xs[j]?
theorem oZ {n:Nat}{i:Int}{j:Nat}(h:nW n i=some j):seqIndex? i n=some j∧j<n∧-(n:Int)≤i∧i<n:=by
 unfold nW at h
 by_cases h0:0≤i
 ·rw[if_pos h0] at h
  by_cases h1:i<n
  ·rw[if_pos h1] at h;have e:i.toNat=j:=Option.some.inj h;exact⟨by rw[seqIndex_of h0 h1,e],by omega,by omega,h1⟩
  ·rw[if_neg h1] at h;cases h
 ·rw[if_neg h0] at h
  by_cases h1:-(n:Int)≤i
  ·rw[if_pos h1] at h;have e:(i+n).toNat=j:=Option.some.inj h;exact⟨by rw[seqIndex_neg (by omega) h1,e],by omega,h1,by omega⟩
  ·rw[if_neg h1] at h;cases h
theorem li {α:Type}{xs:List α}{i:Int}{v:α}(h:j6 xs i=some v):∃j,seqIndex? i xs.length=some j∧xs[j]?=some v∧j<xs.length∧-(xs.length:Int)≤i∧i<xs.length:=by
 unfold j6 at h;cases e:nW xs.length i with
 | none=>rw[e] at h;cases h
 | some j=>
  rw[e] at h;obtain⟨h1,h2,h3,h4⟩:=oZ e;exact⟨j,h1,h,h2,h3,h4⟩
theorem gd {α:Type}{xs:List α}{j:Nat}{v:α}(h:xs[j]?=some v):j6 xs (j:Int)=some v:=by
 have hj:j<xs.length:=(List.getElem?_eq_some_iff.mp h).1;have e:nW xs.length (j:Int)=some j:=by
  unfold nW;rw[if_pos (by omega),if_pos (by omega)];simp
 unfold j6;rw[e];exact h
def lJ (b:Expr):Prop:=∀o i,subscripted b false o i=operate [o,i] (getItem o i)
def AG (X:Cx)(r:R2):Prop:=
 ∀(value slice:Expr) (ae:List (Addr×Obj)) (s:Shared) (σ:St) (H:Hp) (x y:V) (v u:Value) (Q:VK),Inv X ae σ H s→aW x v→aW y u→r x y H Q→
  subscripted slice false v u=operate [v,u] (getItem v u)→wpAny (model X.prog X.w) X.A (subscriptTail value slice v u) (EP X ae σ Q) X.xe s
def Dl (X:Cx)(id:String)(r:V→List V→Hp→VK→Prop):Prop:=
 ∀(ae:List (Addr×Obj)) (s:Shared) (σ:St) (H:Hp) (x:V) (xs:List V) (v:Value) (us:List Value) (Q:VK),Inv X ae σ H s→aW x v→aM xs us→r x xs H Q→
  wpAny (model X.prog X.w) X.A (call (.builtin id) (v::us)) (EP X ae σ Q) X.xe s
section
variable {X:Cx}{a b:Expr}{ta tb:TE}{pos:Pos}
theorem BM {r:R2}(hr:AG X r)(ha:PE X a ta)(hb:PE X b tb)(hs:lJ b):PE X (.Subscript a b pos) (C0 r ta tb):=by
 intro ae s σ H Q I h;exact Subscript_ (CH ha hb I h fun v u s2 x y H2 I2 rx ry q=>hr a b ae s2 σ H2 x y v u Q I2 rx ry q (hs _ _))
def D3 (K:W.Frag):R2:=fun x y H Q=>∃p xs i v,x=.ref p∧y=.int i∧iZ K H p xs∧j6 xs i=some v∧Q v H
def Dp (K:W.Frag):R2:=fun x y H Q=>∃p xs i v,x=.ref p∧y=.int i∧lX K H p xs∧j6 xs i=some v∧Q v H
def Dx:R2:=fun x y H Q=>∃z i c,x=.str z∧y=.int i∧z.length≤sizeLine∧j6 z.cps.toList i=some c∧Q (.str ⟨#[c]⟩) H
theorem v7:AG X (D3 X.K):=by
 intro value slice ae s σ H x y v u Q I rx ry h hs;obtain⟨p,xs,i,z,rfl,rfl,hq,he,q⟩:=h;cases rx;obtain⟨t,rfl⟩:=ry;obtain⟨its,r,pl,hz⟩:=I.list hq;obtain⟨j,h1,h2,h3,h4,h5⟩:=li he;obtain⟨w,ew,rw'⟩:=r.get h2;have hl:=r.length;have hn:=gE;have fin:EP X ae σ Q w s:=⟨z,H,I,rw',q⟩
 by_cases h0:0≤i
 ·have hj:i.toNat=j:=by
   rw[seqIndex_of h0 h5] at h1;exact Option.some.inj h1
  exact item_listR pl.isList h0 (by omega) (by rw[hj];simpa using ew) fin hs
 ·have hj:(i+(its.toArray.size:Int)).toNat=j:=by
   rw[seqIndex_neg (by omega) h4] at h1;rw[size_toArray,←hl];exact Option.some.inj h1
  exact subscriptTail_builtinR (x:=w) pl.isList.typeIs slot_list_getitem.lookup
   (wpAny_getItem_list_neg (Q:=fun r s'=>r=w∧EP X ae σ Q r s') pl.isList (by omega) (by rw[size_toArray] <;> omega) (by omega) (by rw[hj];simpa using ew) ⟨rfl,fin⟩) hs
theorem zM:AG X (Dp X.K):=by
 intro value slice ae s σ H x y v u Q I rx ry h hs;obtain⟨p,xs,i,z,rfl,rfl,hq,he,q⟩:=h;cases rx;obtain⟨t,rfl⟩:=ry;obtain⟨its,r,pl,hz⟩:=I.tuple hq;obtain⟨j,h1,h2,h3,h4,h5⟩:=li he;obtain⟨w,ew,rw'⟩:=r.get h2;have hl:=r.length;have hn:=gE;have fin:EP X ae σ Q w s:=⟨z,H,I,rw',q⟩;exact subscriptTail_builtinR (x:=w) pl.typeIs slot_tuple_getitem.lookup
  (getItem_tuple (j:=j) (Q:=fun r s'=>r=w∧EP X ae σ Q r s') pl (by omega) (by omega) (by rw[size_toArray,←hl];exact h1) (by simpa using ew) ⟨rfl,fin⟩) hs
theorem zp:AG X Dx:=by
 intro value slice ae s σ H x y v u Q I rx ry h hs;obtain⟨z,i,c,rfl,rfl,hz,he,q⟩:=h;obtain⟨t,rfl⟩:=rx;obtain⟨t',rfl⟩:=ry;obtain⟨j,h1,h2,h3,h4,h5⟩:=li he;have hl:z.cps.toList.length=z.length:=by simp[Str.length]
 rw[hl] at h1 h4 h5;have hn:=gE;exact tail_any (typeIs_str s z t) slot_str_getitem.lookup (getItem_str (c:=c) (by
  have e1:decide (i < -(2 ^ 63:Int))=false:=decide_eq_false (by omega);have e2:decide (i≥2 ^ 63)=false:=decide_eq_false (by omega);rw[e1,e2,Bool.or_false]) (by rw[h1];simpa using h2) ⟨.str ⟨#[c]⟩,H,I.tok _,⟨_,rfl⟩,q⟩) hs
theorem nP (its:List Value)(n j:Nat)(u:Value):Obj.mapSeq (·.setIfInBounds j u) {cls:=.type "list",data:=.seq its.toArray n}={cls:=.type "list",data:=.seq (its.set j u).toArray n}:=by
 simp[Obj.mapSeq]
theorem Inv.lst {ae:List (Addr×Obj)}{σ:St}{H:Hp}{s:Shared}{p:Addr}{xs:List V}(I:Inv X ae σ H s)(h:H p=some (.lst xs)) :
  ∃(its:List Value) (n:Nat),aM xs its∧s.heap.get? p=some {cls:=.type "list",data:=.seq its.toArray n}∧xs.length≤sizeLine:=by
 obtain⟨z,its,n,r,e⟩:=I.hok p _ h;exact⟨its,n,r,e,z⟩
theorem Inv.lstUpd {ae:List (Addr×Obj)}{σ:St}{H:Hp}{s:Shared}{p:Addr}{xs ys:List V}{its its':List Value}{n n':Nat}{f:Obj→Obj}(I:Inv X ae σ H s)(h:H p=some (.lst xs))
  (ho:s.heap.get? p=some {cls:=.type "list",data:=.seq its.toArray n}) (hf:f {cls:=.type "list",data:=.seq its.toArray n}={cls:=.type "list",data:=.seq its'.toArray n'}) (r:aM ys its') (hz:ys.length≤sizeLine) (t:Nat) :
  Inv X ae σ (cK H p (.lst ys)) {s with heap:=s.heap.update p f,toks:=t}:=by
 have e:(s.heap.update p f).get? p=some {cls:=.type "list",data:=.seq its'.toArray n'}:=by
  rw[Heap.get?_update_self f ho (by rw[hf] <;> rfl),hf]
 refine I.write (x:=p) (e:=p) (by rw[h];trivial) (.inl rfl) (fun b u hb q=>(Heap.get?_update_other _ _ (Ne.symm hb)).trans q) ⟨_,e⟩ ?_;exact⟨hz,its',n',r,e⟩
def Bb:V→V→V→Hp→(Hp→Prop)→Prop:=fun o i v H Q=>∃p xs k j,o=.ref p∧i=.int k∧H p=some (.lst xs)∧nW xs.length k=some j∧Q (cK H p (.lst (xs.set j v)))
theorem ux:Cr X Bb:=by
 intro ae s σ H o i v ov iv u Q I ro ri rv h;obtain⟨p,xs,k,j,rfl,rfl,hp,hj,q⟩:=h;cases ro;obtain⟨t,rfl⟩:=ri;obtain⟨its,n,r,ho,hz⟩:=I.lst hp;obtain⟨h1,h2,h3,h4⟩:=oZ hj;have hl:=r.length;have hn:=gE;have I':Inv X ae σ (cK H p (.lst (xs.set j v))) {s with heap:=s.heap.update p (Obj.mapSeq (·.setIfInBounds j u))}:=
  I.lstUpd hp ho (nP its n j u) (r.set rv j) (by rw[length_set];exact hz) s.toks
 by_cases h0:0≤k
 ·have hk:k.toNat=j:=by
   rw[seqIndex_of h0 h4] at h1;exact Option.some.inj h1
  exact W.ki_setAt ho h0 (by omega) (by rw[size_toArray,←hl];exact h4) (by rw[hk];exact⟨_,I',q⟩)
 ·have hk:(k+(its.toArray.size:Int)).toNat=j:=by
   rw[seqIndex_neg (by omega) h3] at h1;rw[size_toArray,←hl];exact Option.some.inj h1
  exact W.ki_setBack ho (by omega) (by rw[size_toArray,←hl];exact h3) (by omega) (by rw[hk];exact⟨_,I',q⟩)
theorem lK (lo hi:Option Int)(n:Nat):(sliceBounds lo hi none n).1=((HT.sIx n 0 lo:Nat):Int)∧(sliceBounds lo hi none n).2.1=((HT.sIx n n hi:Nat):Int)∧(sliceBounds lo hi none n).2.2=1:=by
 refine⟨?_,?_,rfl⟩
 ·cases lo with
  | none=>simp[sliceBounds,HT.sIx]
  | some i=>
   simp only[sliceBounds,HT.sIx,Option.getD_none,show(1:Int)>0 by decide,if_true]
   by_cases h:i<0
   ·simp only[h,if_true] <;> omega
   ·simp only[h,if_false] <;> omega
 ·cases hi with
  | none=>simp[sliceBounds,HT.sIx]
  | some i=>
   simp only[sliceBounds,HT.sIx,Option.getD_none,show(1:Int)>0 by decide,if_true]
   by_cases h:i<0
   ·simp only[h,if_true] <;> omega
   ·simp only[h,if_false] <;> omega
theorem ke (its:List Value)(lo hi:Option Int):slicePick its.toArray lo hi none=((its.drop (HT.sIx its.length 0 lo)).take (HT.sIx its.length its.length hi-HT.sIx its.length 0 lo)).toArray:=by
 obtain⟨h1,h2,h3⟩:=lK lo hi its.toArray.size;unfold slicePick;rw[h1,h2,h3];simp only[sliceRange_one,pick_run,size_toArray] <;> rfl
def DN (K:W.Frag):V→Option Int→Option Int→Hp→VK→Prop:=fun x lo hi H Q=>∃a xs,x=.ref a∧iZ K H a xs∧∀p,H p=none→Q (.ref p) (cK H p (.lst (mv xs lo hi)))
theorem lc:BN X (DN X.K):=by
 intro ae s σ H x v vl vu lo hi sl Q I rx hs pl pu h;obtain⟨a,xs,rfl,hx,q⟩:=h;cases rx;obtain⟨its,r,ht,hz⟩:=I.list hx;have hlen:=r.length;refine⟨"list",_,slot_list_getitem.lookup,ht.isList.typeIs,?_⟩;refine wpAny_getItem_list_slice ht.isList hs pl pu .none (by simp) ?_ (by rw[size_toArray] <;> omega);rw[ke,←hlen];refine⟨.ref s.heap.objs.size,_,I.laid (t':=s.toks) (o:=.lst (mv xs lo hi)) (fun b ob q=>Heap.get?_push_of_some _ q) (Nat.le_refl _) ?_,rfl,q _ (I.hok.fresh (Nat.le_refl _))⟩;exact⟨Nat.le_trans (iQ xs lo hi) hz,_,0,(r.drop (HT.sIx xs.length 0 lo)).take (HT.sIx xs.length xs.length hi-HT.sIx xs.length 0 lo),Heap.get?_push_size _ rfl⟩
def gx:V→Bool
 | .non=>true
 | .bl _=>true
 | .int _=>true
 | .str _=>true
 | _=>false
def vH:V→V→Bool
 | .non,.non=>true
 | .bl a,.bl b=>a==b
 | .bl a,.int b=>(if a then 1 else 0)==b
 | .int a,.bl b=>a==(if b then 1 else 0)
 | .int a,.int b=>a==b
 | .str a,.str b=>a==b
 | _,_=>false
theorem y7 {A:Around}{s:Shared}{y x:V}{u v:Value}(ry:aW y u)(rx:aW x v)(fy:gx y=true)(fx:gx x=true):SeqAt.EqAt A s u v (vH y x):=by
 cases y with
 | non=>
  cases ry;cases x with
  | non=>cases rx;exact SeqAt.EqAt.same _
  | bl b=>cases rx;exact SeqAt.EqAt.none_bool b
  | int b=>obtain⟨t,rfl⟩:=rx;exact SeqAt.EqAt.none_int b t
  | str b=>obtain⟨t,rfl⟩:=rx;exact SeqAt.EqAt.none_str b t
  | _=>exact absurd (show false=true from fx) Bool.false_ne_true
 | bl a=>
  cases ry;cases x with
  | non=>cases rx;exact SeqAt.EqAt.bool_none a
  | bl b=>cases rx;exact SeqAt.EqAt.bool_bool a b
  | int b=>obtain⟨t,rfl⟩:=rx;exact SeqAt.EqAt.bool_int a b t
  | str b=>obtain⟨t,rfl⟩:=rx;exact SeqAt.EqAt.bool_str a b t
  | _=>exact absurd (show false=true from fx) Bool.false_ne_true
 | int a=>
  obtain⟨t',rfl⟩:=ry;cases x with
  | non=>cases rx;exact SeqAt.EqAt.int_none a t'
  | bl b=>cases rx;exact SeqAt.EqAt.int_bool a t' b
  | int b=>obtain⟨t,rfl⟩:=rx;exact SeqAt.EqAt.int_int a t' b t
  | str b=>obtain⟨t,rfl⟩:=rx;exact SeqAt.EqAt.int_str a t' b t
  | _=>exact absurd (show false=true from fx) Bool.false_ne_true
 | str a=>
  obtain⟨t',rfl⟩:=ry;cases x with
  | non=>cases rx;exact SeqAt.EqAt.str_none a t'
  | bl b=>cases rx;exact SeqAt.EqAt.str_bool a t' b
  | int b=>obtain⟨t,rfl⟩:=rx;exact SeqAt.EqAt.str_int a t' b t
  | str b=>obtain⟨t,rfl⟩:=rx;exact SeqAt.EqAt.str_str a t' b t
  | _=>exact absurd (show false=true from fx) Bool.false_ne_true
 | _=>exact absurd (show false=true from fy) Bool.false_ne_true
def wJ (x:V)(u:Value):Bool:=match u with
 | .none=>vH .non x
 | .bool b=>vH (.bl b) x
 | .int i _=>vH (.int i) x
 | .str z _=>vH (.str z) x
 | _=>false
theorem sK {x y:V}{u:Value}(r:aW y u)(f:gx y=true):wJ x u=vH y x:=by
 cases y with
 | non=>cases r;rfl
 | bl b=>cases r;rfl
 | int i=>obtain⟨t,rfl⟩:=r;rfl
 | str z=>obtain⟨t,rfl⟩:=r;rfl
 | _=>exact absurd (show false=true from f) Bool.false_ne_true
theorem lG {x:V}:∀{xs:List V} {us:List Value},aM xs us→xs.all gx=true→us.any (wJ x)=xs.any fun y=>vH y x
 | _,_,.nil,_=>rfl
 | y::xs,u::us,.cons r t,f=>by
  rw[all_cons,Bool.and_eq_true] at f;rw[any_cons,any_cons,sK r f.1,lG t f.2]
theorem jl {A:Around}{s:Shared}{x:V}{v:Value}(rx:aW x v)(fx:gx x=true):∀{xs:List V} {us:List Value},aM xs us→xs.all gx=true→∀u∈us,SeqAt.EqAt A s u v (wJ x u)
 | _,_,.nil,_=>fun u hu=>by cases hu
 | y::xs,u::us,.cons r t,f=>fun u' hu=>by
  rw[all_cons,Bool.and_eq_true] at f;rcases mem_cons.mp hu with rfl|hu
  ·rw[sK r f.1];exact y7 r rx f.1 fx
  ·exact jl rx fx t f.2 u' hu
def C9 (x:V)(xs:List V):Bool:=xs.any fun y=>vH y x
def E4 (K:W.Frag)(neg:Bool):R2:=fun x y H Q=>∃p xs,y=.ref p∧(iZ K H p xs∨lX K H p xs)∧gx x=true∧xs.all gx=true∧Q (.bl (if neg then !C9 x xs else C9 x xs)) H
theorem rg:ej X (compareOp .In) (E4 X.K false):=by
 intro ae s σ H x y v u Q I rx ry h;obtain⟨p,xs,rfl,hq,fx,fs,q⟩:=h;cases ry;rcases hq with hq|hq
 ·obtain⟨its,r,pl,hz⟩:=I.list hq;refine SeqAt.in_listAt (wJ x) pl.isList (fun w hw=>jl rx fx r fs w (by simpa using hw)) ⟨.bl _,H,I,rfl,?_⟩;rw[show its.toArray.any (wJ x)=its.any (wJ x) by simp,lG r fs];exact q
 ·obtain⟨its,r,pl,hz⟩:=I.tuple hq;refine SeqAt.in_tupleAt (wJ x) pl (fun w hw=>jl rx fx r fs w (by simpa using hw)) ⟨.bl _,H,I,rfl,?_⟩;rw[show its.toArray.any (wJ x)=its.any (wJ x) by simp,lG r fs];exact q
theorem lw:cL X (.builtin "len") (fun xs H Q=>∃p ys,xs=[.ref p]∧(iZ X.K H p ys∨lX X.K H p ys)∧Q (.int ys.length) H):=by
 intro ae s σ H xs us Q I r h;obtain⟨p,ys,rfl,hq,q⟩:=h;obtain⟨u,rfl,rx⟩:=kF r;cases rx;have hn:=gE;rcases hq with hq|hq
 ·obtain⟨its,r',pl,hz⟩:=I.list hq;have hlen:=r'.length;exact Calls.call_len_list pl.isList (by simp only[size_toArray] <;> omega) ⟨.int ys.length,H,I.tok _,⟨s.toks+1,by rw[size_toArray,hlen]⟩,q⟩
 ·obtain⟨its,r',pl,hz⟩:=I.tuple hq;have hlen:=r'.length;exact len_tuple pl (by simp only[size_toArray] <;> omega) ⟨.int ys.length,H,I.tok _,⟨s.toks+1,by rw[size_toArray,hlen]⟩,q⟩
theorem lx:cL X (.builtin "len") (fun xs H Q=>∃z,xs=[.str z]∧z.length≤sizeLine∧Q (.int z.length) H):=by
 intro ae s σ H xs us Q I r h;obtain⟨z,rfl,hz,q⟩:=h;obtain⟨u,rfl,t,rfl⟩:=kF r;have hn:=gE;exact len_str (by omega) ⟨.int z.length,H,I.tok _,⟨_,rfl⟩,q⟩
theorem lU:cL X (.type "list") (fun xs H Q=>∃p ys,xs=[.ref p]∧(iZ X.K H p ys∨lX X.K H p ys)∧∀l,H l=none→Q (.ref l) (cK H l (.lst ys))):=by
 intro ae s σ H xs us Q I r h;obtain⟨p,ys,rfl,hq,q⟩:=h;obtain⟨u,rfl,rx⟩:=kF r;cases rx;have fin:∀(its:List Value),aM ys its→ys.length≤sizeLine→∀(h':Heap) (c':Nat),(∀b o',s.heap.get? b=some o'→h'.get? b=some o')→
   h'.get? s.heap.objs.size=some {cls:=.type "list",dict:=none,data:=.seq its.toArray c',slots:=#[]}→EP X ae σ Q (.ref s.heap.objs.size) {s with heap:=h'}:=fun its r' hz h' c' kp e=>
  ⟨.ref s.heap.objs.size,_,I.laid (t':=s.toks) kp (Nat.le_refl _) (show dr X.prog X.w _ h' _ (.lst ys) from⟨hz,its,c',r',e⟩),rfl,q _ (I.hok.fresh (Nat.le_refl _))⟩
 rcases hq with hq|hq
 ·obtain⟨its,r',pl,hz⟩:=I.list hq;have hlen:=r'.length;obtain⟨o,ho,hc,n,hd⟩:=pl.isList;exact call_list_seq p (.inl rfl) ho hc hd (fun h' c' kp e=>fin its r' hz h' c' kp e) (by simp only[size_toArray] <;> omega)
 ·obtain⟨its,r',pl,hz⟩:=I.tuple hq;have hlen:=r'.length;obtain⟨o,ho,hc,n,hd⟩:=pl;exact call_list_seq p (.inr rfl) ho hc hd (fun h' c' kp e=>fin its r' hz h' c' kp e) (by simp only[size_toArray] <;> omega)
def ET (K:W.Frag)(T:String)(x:V)(H:Hp):Prop:=match x with
 | .str _=>T="str"
 | .int _=>T="int"
 | .ref p=>(T="list"∧∃xs,iZ K H p xs)∨(T="tuple"∧∃o,K.lookup p=some o∧o.cls=.type "tuple"∧o.dict=none)∨
   (T="dict"∧((∃kvs,H p=some (.dK kvs))∨∃kvs,H p=some (.dT kvs)))∨(T="set"∧∃S n,H p=some (.set S n))
 | _=>False
theorem yD {ae:List (Addr×Obj)}{σ:St}{H:Hp}{s:Shared}{T:String}{x:V}{v:Value}(I:Inv X ae σ H s)(r:aW x v)(ty:ET X.K T x H) :
  s.TypeIs v T∧∀a,v=.ref a→∃ob,s.heap.get? a=some ob∧ob.dict=none:=by
 cases x with
 | str z=>
  obtain⟨t,rfl⟩:=r;cases (show T="str" from ty);exact⟨typeIs_str s z t,fun _ e=>nomatch e⟩
 | int i=>
  obtain⟨t,rfl⟩:=r;cases (show T="int" from ty);exact⟨typeIs_int s i t,fun _ e=>nomatch e⟩
 | ref p=>
  cases r;rcases ty with⟨rfl,xs,hq⟩|⟨rfl,o,hk,hc,hd⟩|⟨rfl,hk⟩|⟨rfl,S,n,hk⟩
  ·obtain⟨its,_,pl,_⟩:=I.list hq;refine⟨pl.isList.typeIs,fun a e=>?_⟩;cases e;obtain⟨o,n,e,c,hd,_⟩:=pl;exact⟨o,e,hd⟩
  ·refine⟨⟨o,I.kIn p o hk,hc⟩,fun a e=>?_⟩;cases e;exact⟨o,I.kIn _ o hk,hd⟩
  ·have z:∃o,s.heap.get? p=some o∧o.ExactDict:=by
    rcases hk with⟨kvs,hk⟩|⟨kvs,hk⟩
    ·obtain⟨_,_,_,_,o,_,_,e,ex,_⟩:=I.hok p _ hk;exact⟨o,e,ex⟩
    ·obtain⟨_,_,_,_,o,_,_,e,ex,_⟩:=I.hok p _ hk;exact⟨o,e,ex⟩
   obtain⟨o,e,ex⟩:=z;refine⟨⟨o,e,ex.1⟩,fun a e2=>?_⟩;cases e2;exact⟨o,e,ex.2.1⟩
  ·obtain⟨o,_,_,_,e,ex,_⟩:=I.hok p _ hk;refine⟨⟨o,e,ex.1⟩,fun a e2=>?_⟩;cases e2;exact⟨o,e,ex.2.1⟩
 | _=>exact False.elim ty
def DF (K:W.Frag)(T:String)(r:V→List V→Hp→VK→Prop)(to:TE)(t:TA):TE:=fun σ H Q=>to σ H fun x H1=>ET K T x H1∧t σ H1 fun xs H2=>r x xs H2 Q
variable {o e:Expr}{es:List Expr}{to:TE}{t:TA}{name:Str}{apos cpos:Pos}{T id:String}{r:V→List V→Hp→VK→Prop}
theorem nb (pa:PlainAttrs T)(slot:Slot T name id)(hty:typeOf (.builtin id)=pure (.type "method_descriptor"))(hm:Dl X id r)(ho:PE X o to)(ha:PA X (e::es) t)
  (hbase:attributeBase o name X.env (eval o X.env)=eval o X.env:=by rfl)
  (hfew:((backTo cpos (starEach (e::es) X.env)).all (fun x=>!x.1)&&(backToKw cpos (keywordEach [] X.env)).all (fun x=>x.1.isSome)
   && decide ((e::es).length+([]:List Keyword).length+(if([]:List Keyword).isEmpty then 0 else 1)<30))=true:=by rfl)
  (hline:(apos.endLine==cpos.line)=true:=by rfl) (hs:starEach (e::es) X.env=(false,eval e X.env)::starEach es X.env:=by rfl) (hplain:(backTo cpos (starEach es X.env)).any (·.1)=false:=by rfl) :
  PE X (.Call (.Attribute o name apos) (e::es) [] cpos) (DF X.K T r to t):=by
 intro ae s σ H Q I h;refine wpAny_Call_method_late hbase hfew hline rfl (cj (ho ae s σ H _ I h) fun v s1 hxx=>?_);obtain⟨x,H1,I1,r1,ty,q1⟩:=hxx;obtain⟨h1,h2⟩:=yD I1 r1 ty;refine⟨T,id,pa,slot,hty,h1,h2,?_⟩;have hA:=ha cpos ae s1 σ H1 _ I1 q1;rw[hs] at hA ⊢;refine Calls.callWith_builtin (by show(false||(backTo cpos (starEach es X.env)).any (·.1))=false;rw[hplain] <;> rfl) (Calls.evalArgs_plain ?_);exact cj hA fun us s2 ⟨vs,H2,I2,r2,q2⟩=>hm ae s2 σ H2 x vs v us Q I2 r1 r2 q2
end
def EU (X:Cx)(id:String)(r:V→List V→Hp→VK→Prop):Prop:=
 ∀(ae:List (Addr×Obj)) (s:Shared) (σ:St) (H:Hp) (x:V) (xs:List V) (v:Value) (us:List Value) (Q:VK),Inv X ae σ H s→aW x v→aM xs us→r x xs H Q→
  wpAny (model X.prog X.w) X.A (call (.builtin id) (v::us)) (EP X ae σ Q) X.xe s
theorem aM.one:∀{x:V} {us:List Value},aM [x] us→∃u,us=[u]∧aW x u
 | _,_,.cons r .nil=>⟨_,rfl,r⟩
theorem aM.rep {xs:List V}{us:List Value}(h:aM xs us):∀k:Nat,aM (List.replicate k xs).flatten (List.replicate k us).flatten
 | 0=>.nil
 | k+1=>by
  rw[replicate_succ,replicate_succ,flatten_cons,flatten_cons];exact aM.append h (aM.rep h k)
theorem kK (its:List Value):∀(k:Nat) (acc:List Value),
  List.foldl (fun x1 x2=>x1++x2) acc.toArray (List.replicate k its.toArray)=(acc++(List.replicate k its).flatten).toArray
 | 0,acc=>by simp
 | k+1,acc=>by
  have e:acc.toArray++its.toArray=(acc++its).toArray:=by simp
  have e2:(acc++its)++(List.replicate k its).flatten=acc++(List.replicate (k+1) its).flatten:=by
   rw[replicate_succ,flatten_cons,append_assoc]
  rw[←e2,←kK its k (acc++its),←e,replicate_succ,foldl_cons]
section
variable {X:Cx}{ae:List (Addr×Obj)}{σ:St}{H:Hp}{s:Shared}{l b:Addr}{xs ys zs:List V}
theorem Inv.lset {its its':List Value}{n:Nat}{f:Array Value→Array Value}{t':Nat}(I:Inv X ae σ H s)(hH:H l=some (.lst xs))
  (e:s.heap.get? l=some {cls:=.type "list",data:=.seq its.toArray n}) (hf:f its.toArray=its'.toArray) (hv:aM ys its') (hz:ys.length≤sizeLine) :
  Inv X ae σ (cK H l (.lst ys)) {s with heap:=s.heap.update l (Obj.mapSeq f),toks:=t'}:=by
 have q:=PySem.IsL.update e f;rw[hf] at q;refine I.write (x:=l) (e:=l) (by rw[hH];exact trivial) (.inl rfl) (fun b' u hb hu=>(Heap.get?_update_other s.heap (Obj.mapSeq f) (Ne.symm hb)).trans hu) ⟨_,q⟩ ?_;exact⟨hz,its',_,hv,q⟩
theorem Inv.lnew {its:List Value}{t':Nat}(I:Inv X ae σ H s)(hv:aM ys its)(hz:ys.length≤sizeLine) :
  Inv X ae σ (cK H s.heap.objs.size (.lst ys)) {s with heap:=s.heap.push {cls:=.type "list",data:=.seq its.toArray},toks:=t'}:=
 I.laid (fun _ _ q=>Heap.get?_push_of_some _ q) (Nat.le_refl _) ⟨hz,its,0,hv,Heap.get?_push_size _ rfl⟩
theorem Inv.fresh (I:Inv X ae σ H s):H s.heap.objs.size=none:=I.hok.fresh (Nat.le_refl _)
theorem Inv.lstM (I:Inv X ae σ H s)(hH:H l=some (.lst xs)):xs.length≤sizeLine∧∃(its:List Value) (n:Nat),aM xs its∧xs.length=its.length∧s.heap.get? l=some {cls:=.type "list",data:=.seq its.toArray n}:=by
 obtain⟨z,its,n,r,e⟩:=I.hok l _ hH;exact⟨z,its,n,r,r.length,e⟩
theorem m6 {n:Nat}(h:n≤sizeLine):Builtin.List.listTooLong n=false:=by
 unfold Builtin.List.listTooLong;exact decide_eq_false (by omega)
end
section
variable {X:Cx}
def wo:V→List V→Hp→VK→Prop:=fun x vs H Q=>∃l xs y,x=.ref l∧vs=[y]∧H l=some (.lst xs)∧xs.length<sizeLine∧Q .non (cK H l (.lst (xs++[y])))
theorem qN:EU X "list.append" wo:=by
 intro ae s σ H x vs v us Q I rx rv h;obtain⟨l,xs,y,rfl,rfl,hH,hz,q⟩:=h;cases rx;obtain⟨u,rfl,ru⟩:=rv.one;obtain⟨z,its,n,r,hl,e⟩:=I.lstM hH;refine call_meets F.slot_list_append ⟨_,e,rfl⟩ F.entry_list_append (F.args_list_append_2 _ _) (PySem.list_append l its.toArray n u (by rw[size_toArray];omega)) ⟨e,?_⟩;refine⟨.non,_,I.lset (its':=its++[u]) hH e (by simp) (r.append (.cons ru .nil)) ?_,rfl,q⟩;rw[length_append,length_singleton];omega
def pU:V→List V→Hp→VK→Prop:=fun x vs H Q=>∃l b xs zs,x=.ref l∧vs=[.ref b]∧H l=some (.lst xs)∧H b=some (.lst zs)∧xs.length+zs.length≤sizeLine∧Q .non (cK H l (.lst (xs++zs)))
theorem qj:EU X "list.extend" pU:=by
 intro ae s σ H x vs v us Q I rx rv h;obtain⟨l,b,xs,zs,rfl,rfl,hH,hB,hz,q⟩:=h;cases rx;obtain⟨u,rfl,ru⟩:=rv.one;cases ru;obtain⟨z,its,n,r,hl,e⟩:=I.lstM hH;obtain⟨z2,its2,n2,r2,hl2,e2⟩:=I.lstM hB;have hsz:its.toArray.size+its2.toArray.size≤sizeLine:=by rw[size_toArray,size_toArray];omega
 have hlong:¬(!its.toArray.isEmpty&&Builtin.List.listTooLong (its.toArray.size+its2.toArray.size))=true:=by
  rw[m6 hsz,Bool.and_false];exact Bool.false_ne_true
 refine call_meets F.slot_list_extend ⟨_,e,rfl⟩ F.entry_list_extend (F.args_list_extend_2 _ _)
  (AutoSeq1.list_extend_list_list_0 l its.toArray n b its2.toArray n2 hlong (by rw[size_toArray];omega) (by omega)) ⟨e,e2,?_⟩
 refine⟨.non,_,I.lset (its':=its++its2) hH e (by simp) (r.append r2) ?_,rfl,q⟩;rw[length_append];omega
def Eb:R2:=fun x y H Q=>∃l b xs zs,x=.ref l∧y=.ref b∧H l=some (.lst xs)∧H b=some (.lst zs)∧xs.length+zs.length≤sizeLine∧∀p,H p=none→Q (.ref p) (cK H p (.lst (xs++zs)))
theorem zm:ej X (binaryOp .Add) Eb:=by
 intro ae s σ H x y v u Q I rx ry h;obtain⟨l,b,xs,zs,rfl,rfl,hH,hB,hz,q⟩:=h;cases rx;cases ry;obtain⟨z,its,n,r,hl,e⟩:=I.lstM hH;obtain⟨z2,its2,n2,r2,hl2,e2⟩:=I.lstM hB;refine PySem.P.add_list e e2 ?_ (by rw[size_toArray,size_toArray];omega);have ea:its.toArray++its2.toArray=(its++its2).toArray:=by simp
 rw[ea];exact⟨.ref _,_,I.lnew (t':=s.toks) (r.append r2) (by rw[length_append];omega),rfl,q _ I.fresh⟩
theorem o7 {α:Type}(xs:List α)(k:Nat):(List.replicate k xs).flatten.length=k*xs.length:=by
 induction k with
 | zero=>simp
 | succ k ih=>rw[replicate_succ,flatten_cons,length_append,ih,Nat.succ_mul,Nat.add_comm]
end
end L2
namespace Att
open PySem PySem.W PySem.Calls PyProof.Rows
theorem jb {P:Params}{h:Heap}:∀(ns:List Int) (vs:List Value),WellAll P h vs (ns.map WData.int)→IntsAre vs ns:=by
 intro ns
 induction ns with
 | nil=>
  intro vs w;rw[List.map_nil] at w;cases w;exact .nil
 | cons n ns ih=>
  intro vs w;rw[List.map_cons] at w;cases w with
  | cons a b=>
   cases a;exact .cons _ _ (ih _ b)
theorem rB {l:OpenLaw}{n:Nat}(hn:l.most=some n){P:Params}{h:Heap}{args:List WData}{vals:List Value}
  (hpre:l.row.toRowW.claim.pre args=true) (hwl:WellAll P h vals args) :
  ∃a vs ns,vals=[Value.ref a]∧args=[WData.list (ns.map WData.int)]∧h.get? a=some {cls:=.type "list",data:=.seq vs.toArray}∧IntsAre vs ns∧ns.length≤n:=by
 have hsh:WShape.hasAll [] args [.list .int]=true:=(pre_splitW hpre).1;have hc:l.pre.holds [] {args:=args}=true:=(pre_splitW hpre).2;obtain⟨d,r,rfl,h1,h2⟩:=hasAllW_cons hsh;obtain rfl:=hasAllW_nil h2;obtain⟨xs,rfl,h3⟩:=hasW_list h1;obtain⟨ns,rfl⟩:=items_int h3;have hlen:ns.length≤n:=by
  unfold OpenLaw.pre at hc;have h4:(WTm.not (.lt (.lit (.int (n:Int))) (.len (.arg 0)))).holds [] {args:=[.list (ns.map .int)]}=true:=by
   have h4:=(holds_andW hc).1;rw[hn] at h4;exact h4
  have h5:=condW_of h4 (w_not (w_lt w_lit (w_len_list (w_arg rfl))));rw[List.length_map] at h5;refine Nat.le_of_not_lt fun q=>?_
  have q':(n:Int)<((ns.length:Nat):Int):=by omega
  first
   | (rw[decide_eq_true q'] at h5;exact absurd h5 (by decide))
   | (simp at h5;omega)
 cases hwl with
 | cons w1 w2=>
  cases w2;cases w1 with
  | list ho hall=>exact⟨_,_,ns,rfl,rfl,ho,jb ns _ hall,hlen⟩
theorem qO (l:OpenLaw)(args:List WData):l.row.toRowW.claim.post args (.bool true) args=true:=
 postW_of (r:=l.row.toRowW) (X:=(true==true))
  (show WShape.has [] (.bool true) .bool=true by first|rfl|decide|simp[WShape.has,WShape.arms,WShape.armsAll])
  (show(WTm.eq .res (.lit (.bool true))).value [] {args:=args,res:=some (.bool true),after:=args}=some (.bool (true==true)) from w_eq_bool (w_res rfl) w_lit) rfl
theorem attach_call {l:OpenLaw}{n:Nat}{q:Program}{loose:List Str}{XP:(Str→Option Value)→Heap→Prop}{YP:World→Heap→Prop}{d:DefRec}
  (hn:l.most=some n) (hdf:d.params.defaults=[])
  (call:∀(w:World) (s₀ s₁:Shared) (mg mb:Str→Option Value) (fa:Addr) (o:Obj) (pm cd doc:Value) (a:Addr) (vs:List Value) (ns:List Int),
   Ground q loose [] XP w s₀ mg mb s₁.heap→YP w s₁.heap→
   s₁.heap.get? fa=some o→o.data=.func (docDef d.name d.params d.body d.scope pm cd doc)→s₁.heap.CodeRec cd d.name→mg d.name=some (.ref fa)→
   s₁.heap.get? a=some {cls:=.type "list",data:=.seq vs.toArray}→IntsAre vs ns→ns.length≤n→s₁.gens=#[]→
   codeAny (model l.prog w) callerA (.call (.ref fa) ⟨[.ref a],[]⟩) (fun r s'=>r=.ok (.ret (.bool true))∧OldK s₁.heap s'.heap∧s'.os=s₁.os∧AllBare s'.gens) s₁) :
  WalkO q loose XP YP l.row.toRowW d [] (fun f vs=>PySem.call f vs):=by
 intro w s₀ s₁ mg mb G Y fa o pm cd doc dV kV ho hd hcd hD hmg hg args vals as hpre hlay hrd hwl hlo;obtain rfl:dV=.none:=Dflts.none hD hdf;obtain rfl:kV=.none:=Dflts.noKw hD;obtain⟨a,vs,ns,rfl,rfl,hobj,hints,hlen⟩:=rB hn hpre hwl;refine enter_call (codeAny_mono (call w s₀ s₁ mg mb fa o pm cd doc a vs ns G Y ho (fd_plain hd) hcd hmg hobj hints hlen hg) fun r s' hq=>?_);obtain⟨rfl,h2,h3,h4⟩:=hq;exact⟨.inl ⟨.bool true,.bool true,[],rfl,fun _=>rfl,.bool true,qO l _,fun _=>⟨List.Pairwise.nil,fun _ hm=>(nomatch hm)⟩⟩,h2,h3,h4⟩
end Att
namespace L2
open PySem PySem.Spec PyProof.Rows List
theorem kt:∀{vs:List Value} {ns:List Int},IntsAre vs ns→aM (ns.map V.int) vs
 | _,_,.nil=>.nil
 | _,_,.cons n t h=>.cons ⟨t,rfl⟩ (kt h)
def z8 (H:Hp):Prop:=∀b,H b=none∨∃o xs,H b=some (.frz o (.lst xs))
theorem tB {P:Program}{w:World}{K:W.Frag}{mg mb:Str→Option Value}{CX:rM}{k:Nat}{fa a:Addr}{fd:FuncData}{x:Str}{sp:Sp}{s₁:Shared}{vs:List Value}{ns:List Int}
  (KX:K.In s₁.heap) (hns:s₁.heap.Ns mainGlobals mg) (hb:s₁.heap.Ns builtinsNs mb) (hbb:∀x:Str,x≠"__name__"→mb x=bootBuiltins x) (hlim:s₁.heap.NoLimit) (hg:s₁.gens=#[])
  (ha:s₁.heap.get? a=some {cls:=.type "list",data:=.seq vs.toArray}) (hi:IntsAre vs ns) (hl:ns.length≤sizeLine) (hr:ck k callerA)
  (F:∀base:Heap,K.In base→base.Ns mainGlobals mg→eW P w K mg base CX k fa fd [x] sp) (hbind:∀(s:Shared) (u:Value),BindsTo s fd ⟨[u],[]⟩ [(x,u)])
  (hsp:∀H:Hp,z8 H→iZ K H a (ns.map V.int)→sp [.ref a] H (fun v _=>v=.bl true) fun _ _ _=>False)
  (hCX:∀H e s',CX [] H s₁ (fun _ _ _=>False) e s'→False) :
  codeAny (model P w) callerA (.call (.ref fa) ⟨[.ref a],[]⟩) (fun r s'=>r=.ok (.ret (.bool true))∧OldK s₁.heap s'.heap∧s'.os=s₁.os∧AllBare s'.gens) s₁:=by
 have rv:=kt hi;have lenV:=hi.length;have core:∀H:Hp,z8 H→iZ K H a (ns.map V.int)→i8 P w H s₁.heap→(∀b,H b≠none→b=a)→(H a≠none→K.lookup a=none)→
   codeAny (model P w) callerA (.call (.ref fa) ⟨[.ref a],[]⟩) (fun r s'=>r=.ok (.ret (.bool true))∧OldK s₁.heap s'.heap∧s'.os=s₁.os∧AllBare s'.gens) s₁:=by
  intro H hO hS hok hA hK;have base_of:∀{b:Addr} {o:Obj},s₁.heap.get? b=some o→H b=none→(lD s₁.heap H).get? b=some o:=fun e n=>tj e n
  have noA:∀{b:Addr} {o:Obj} {es:Array DictEntry} {ep:Nat},s₁.heap.get? b=some o→o.data=.dict es ep→H b=none:=fun {b o es ep} e d=>by
   cases q:H b with
   | none=>rfl
   | some u=>
    have e':b=a:=hA b (by rw[q];simp);subst e';rw[ha] at e;cases e;have d':Data.seq vs.toArray _=Data.dict es ep:=d;cases d'
  have nsK:∀{b:Addr} {m:Str→Option Value},s₁.heap.Ns b m→(lD s₁.heap H).Ns b m:=fun {b m} ⟨o,es,ep,e,d,r⟩=>⟨o,es,ep,base_of e (noA e d),d,r⟩
  have hKb:K.In (lD s₁.heap H):=fun b o e=>base_of (KX b o e) (by
   cases q:H b with
   | none=>rfl
   | some u=>
    have e':b=a:=hA b (by rw[q];simp);subst e';rw[hK (by rw[q];simp)] at e;cases e)
  have hM:Mod K mg (lD s₁.heap H):=⟨hKb,nsK hns,⟨mb,nsK hb,hbb⟩,let ⟨mc,h1,h2⟩:=hlim;⟨mc,nsK h1,h2⟩⟩;have e0:vS P w K mg (lD s₁.heap H) callerA [] s₁ H:=⟨rfl,hM,fun b o e=>xm e,Nat.le_of_eq (pW _ _),trivial,fun b hb=>absurd (show b∈([]:List Addr) from hb) (by simp),hok,.of_eq hg⟩;refine codeAny_mono ((F _ hKb (nsK hns)).run callerA [] s₁ H ⟨[.ref a],[]⟩ [.ref a] [.ref a] _ _ hr e0 (hbind s₁ (.ref a)) (.cons rfl .nil) (hsp H hO hS)) fun r s' h=>?_
  cases r with
  | error e=>exact(hCX H e s' h).elim
  | ok fl=>
   cases fl with
   | next=>exact False.elim h
   | brk=>exact False.elim h
   | cont=>exact False.elim h
   | ret u=>
    obtain⟨v,H',os,bare,un,hok',r',q⟩:=h;have q':v=.bl true:=q;subst q';obtain rfl:u=Value.bool true:=r';refine⟨rfl,OldK.of_keep fun b o e=>?_,os,bare⟩;cases q:H b with
    | none=>exact un.keep b o e q (by intro z;exact absurd (show b∈([]:List Addr) from z) (by simp)) (by simp)
    | some u=>
     rcases hO b with z|⟨ob,xs,z⟩
     ·rw[q] at z;cases z
     ·have z2:=un.frzs b ob _ z;obtain⟨e1,_⟩:=hok b _ z;obtain⟨e2,_⟩:=hok' b _ z2;rw[e] at e1;cases e1;exact e2
 cases hk:K.lookup a with
 | some o=>
  have e:=KX a o hk;rw[ha] at e;cases e;refine core (fun _=>none) (fun _=>.inl rfl) (.inr ⟨_,vs.toArray,_,hk,rfl,rfl,rfl,by rw[size_toArray,lenV];exact hl,by simpa using rv⟩) (fun b u z=>by have z':(none:Option HO)=some u:=z;cases z') (fun b z=>absurd rfl z) fun z=>absurd rfl z
 | none=>
  refine core (fun b=>if b=a then some (.frz {cls:=.type "list",data:=.seq vs.toArray} (.lst (ns.map V.int))) else none) (fun b=>?_) (.inl (.inr ⟨{cls:=.type "list",data:=.seq vs.toArray},if_pos rfl⟩)) (fun b u z=>?_) (fun b z=>?_) fun _=>hk
  ·by_cases hb:b=a
   ·exact .inr ⟨_,_,if_pos hb⟩
   ·exact .inl (if_neg hb)
  ·by_cases hb:b=a
   ·have z':=(if_pos hb).symm.trans z;cases z';subst hb;exact⟨ha,by rw[length_map];exact hl,vs,_,rv,ha⟩
   ·have z':=(if_neg hb).symm.trans z;cases z'
  ·by_cases hb:b=a
   ·exact hb
   ·exact absurd (if_neg hb) z
theorem walk_of {l:W.OpenLaw}{n k:Nat}{q:Program}{loose:List Str}{XP:(Str→Option Value)→Heap→Prop}{YP:World→Heap→Prop}{d:DefRec}{K:Params→W.Frag}{CX:World→rM}{sp:World→Sp}{x:Str}
  (hn:l.most=some n) (hn2:n≤sizeLine) (hdf:d.params.defaults=[]) (hr:ck k callerA)
  (hY:∀(w:World) (h:Heap),YP w h→(K w.params).In h)
  (F:∀(w:World) (mg:Str→Option Value) (fa:Addr) (h:Heap),(K w.params).In h→h.Ns mainGlobals mg→mg d.name=some (.ref fa)→
   ∃fd:FuncData,(∀(s:Shared) (u:Value),BindsTo s fd ⟨[u],[]⟩ [(x,u)])∧
    ∀base:Heap,(K w.params).In base→base.Ns mainGlobals mg→eW l.prog w (K w.params) mg base (CX w) k fa fd [x] (sp w))
  (hsp:∀(w:World) (H:Hp) (a:Addr) (ns:List Int),ns.length≤n→z8 H→iZ (K w.params) H a (ns.map V.int)→sp w [.ref a] H (fun v _=>v=.bl true) fun _ _ _=>False)
  (hCX:∀(w:World) (H:Hp) (s:Shared) (e:Value) (s':Shared),CX w [] H s (fun _ _ _=>False) e s'→False) :
  W.WalkO q loose XP YP l.row.toRowW d [] (fun f vs=>PySem.call f vs):=by
 refine Att.attach_call hn hdf fun w s₀ s₁ mg mb fa o pm cd doc a vs ns G Y ho hd hcd hmg hobj hints hlen hg=>?_
 have KX:=hY w _ Y;obtain⟨fd,hb,hF⟩:=F w mg fa _ KX G.T.g hmg;exact tB KX G.T.g G.T.b G.T.builtins G.T.nolimit hg hobj hints (Nat.le_trans hlen hn2) hr hF hb (fun H hO hS=>hsp w H a ns hlen hO hS) fun H e s'=>hCX w H s₁ e s'
def ft (s:Stmt):Arguments:=match s with
 | .FunctionDef _ a _ _ _ _ _ _ _ _=>a
 | _=>{posonlyargs:=[],args:=[],vararg:=none,kwonlyargs:=[],kw_defaults:=[],kwarg:=none,defaults:=[]}
def dg (s:Stmt):List Stmt:=match s with
 | .FunctionDef _ _ b _ _ _ _ _ _ _=>b
 | _=>[]
def bc (s:Stmt):Scope:=match s with
 | .FunctionDef _ _ _ _ _ _ sc _ _ _=>sc
 | _=>{kind:=.function,names:=[],isGenerator:=false,isCoroutine:=false}
structure yL (K:W.Frag)(x qual:Str)(st:Stmt)(f:Addr)(fd:FuncData):Prop where
 ex:∃(oc:Value) (od:Option Addr) (kV doc pm:Value) (an:Option Addr) (cdv ct:Value) (osl:Array (Option Value)),
  fd=W.fnOf x qual (ft st) (dg st) (bc st) .none kV doc pm an cdv ct∧K.lookup f=some ⟨oc,od,.func fd,osl⟩∧W.codeIn K cdv qual=true
 kp:W.keepIn K (.ref f)=true
section
variable {P:Program}{w:World}{K:W.Frag}{mg:Str→Option Value}{base:Heap}
theorem yL.binds {x qual:Str}{st:Stmt}{f:Addr}{fd:FuncData}{ps:List Str}(F:yL K x qual st f fd)
  (h:∀(kV doc pm:Value) (an:Option Addr) (cdv ct:Value) (us:List Value),us.length=ps.length→bindArgs (W.fnOf x qual (ft st) (dg st) (bc st) .none kV doc pm an cdv ct) ⟨us,[]⟩=pure (ps.zip us)):fV K fd ps []:=by
 obtain⟨oc,od,kV,doc,pm,an,cdv,ct,osl,rfl,lk,hcd⟩:=F.ex;exact .all (h kV doc pm an cdv ct)
theorem uc {x qual:Str}{st:Stmt}{f:Addr}{oc:Value}{od an:Option Addr}{osl:Array (Option Value)}{kV doc pm cdv ct:Value}(l:K.lookup f=some ⟨oc,od,.func (W.fnOf x qual (ft st) (dg st) (bc st) .none kV doc pm an cdv ct),osl⟩)
  (c:W.codeIn K cdv qual=true) (k:W.keepIn K (.ref f)=true):yL K x qual st f (W.fnOf x qual (ft st) (dg st) (bc st) .none kV doc pm an cdv ct):=⟨⟨oc,od,kV,doc,pm,an,cdv,ct,osl,rfl,l,c⟩,k⟩
end
abbrev KT (H:Hp):List (List j8×V)→List (List j8×Addr×Value)→Prop:=Paired fun p q=>p.1=q.1∧H q.2.1=some (.tup (p.1.map kV))∧aW p.2 q.2.2
abbrev VV:List (V×V)→List (Value×Value)→Prop:=Paired fun p q=>aW p.1 q.1∧aW p.2 q.2
structure M1 (X:Cx)(o:Expr)(m:Str)(apos:Pos)(e:Expr)(cpos:Pos):Prop where
 base:attributeBase o m X.env (eval o X.env)=eval o X.env
 few:((backTo cpos (starEach [e] X.env)).all (fun x=>!x.1)&&(backToKw cpos (keywordEach [] X.env)).all (fun x=>x.1.isSome)
  && decide (([e]:List Expr).length+([]:List Keyword).length+(if([]:List Keyword).isEmpty then 0 else 1)<30))=true
 line:(apos.endLine==cpos.line)=true
 trees:backTo cpos (starEach [e] X.env)=[(false,eval e X.env)]
structure M2 (X:Cx)(o:Expr)(m:Str)(apos:Pos)(e f:Expr)(cpos:Pos):Prop where
 base:attributeBase o m X.env (eval o X.env)=eval o X.env
 few:((backTo cpos (starEach [e,f] X.env)).all (fun x=>!x.1)&&(backToKw cpos (keywordEach [] X.env)).all (fun x=>x.1.isSome)
  && decide (([e,f]:List Expr).length+([]:List Keyword).length+(if([]:List Keyword).isEmpty then 0 else 1)<30))=true
 line:(apos.endLine==cpos.line)=true
 trees:backTo cpos (starEach [e,f] X.env)=[(false,eval e X.env),(false,eval f X.env)]
end L2
namespace Att
open PySem PySem.W PySem.Calls PyProof.Rows
end Att
namespace L2
open PySem PySem.Spec PyProof.Rows List
end L2
namespace DL
open PySem PySem.Spec PyProof.Rows L2 List
structure By (X:Cx)(ae:List (Addr×Obj))(H:Hp)(B:Heap):Prop where
 trk:∀b o,H b=some o→∃o',B.get? b=some o'
 pin:∀p∈X.pn++ae,∃o',B.get? p.1=some o'
 old:∀b o,X.s₀.heap.get? b=some o→b∉X.ex→b∉kf X.stack→∃o',B.get? b=some o'
def DV (X:Cx)(H:Hp)(a C:Addr)(s:Shared):Prop:=∃ae σ,
 (∃h vs,L2.Inv X ae σ H {s with heap:=h}∧Heap.MadeExcOf h s.heap a (.ref C) vs)∨
 (L2.Inv X ae σ H s∧H a=none∧∃B a0,Heap.FlyingW B X.stack a (.ref C) a0 s.heap∧By X ae H B)∨
 (L2.Inv X ae σ H s∧H a=none∧∃B a0 L,X.env.frame=some L∧Heap.HeldW B X.stack a (.ref C) a0 L s.heap∧By X ae H B)
def jx (K:W.Frag)(c:Str)(C:Addr):Prop:=W.nsIn K mainGlobals c=some (some (.ref C))
theorem jW {P:Program}{w:World}{H:Hp}{h:Heap}{a:Addr}{o:HO}(x:dr P w H h a o):∃u,h.get? a=some u:=by
 cases o with
 | lst xs=>obtain⟨_,_,_,_,e⟩:=x;exact⟨_,e⟩
 | tup xs=>obtain⟨_,_,_,o,e,_⟩:=x;exact⟨_,e⟩
 | dK kvs=>obtain⟨_,_,_,_,o,_,_,e,_⟩:=x;exact⟨_,e⟩
 | dT kvs=>obtain⟨_,_,_,_,o,_,_,e,_⟩:=x;exact⟨_,e⟩
 | set S n=>obtain⟨o,_,_,_,e,_⟩:=x;exact⟨_,e⟩
 | ins C dx fs=>obtain⟨_,_,_,e,_⟩:=x;exact⟨_,e⟩
 | own y=>obtain⟨_,e⟩:=x;exact⟨_,e⟩
 | xd fs=>obtain⟨_,⟨_,_,_,e,_⟩,_⟩:=x;exact⟨_,e⟩
 | rng lo hi=>obtain⟨_,_,_,e⟩:=x;exact⟨_,e⟩
 | frz ob u=>obtain⟨e,_⟩:=x;exact⟨_,e⟩
 | tbl ps=>exact⟨_,show h.get? a=some _ from x⟩
 | met f y=>exact⟨_,show h.get? a=some _ from x⟩
 | ext φ=>obtain⟨_,⟨_,e⟩,_⟩:=x;exact⟨_,e⟩
section
variable {X:Cx}{ae:List (Addr×Obj)}{σ:List (Option V)}{H:Hp}{s:Shared}{B h':Heap}{a C:Addr}
theorem k8 (I:L2.Inv X ae σ H s){b:Addr}{o:Obj}(e:X.s₀.heap.get? b=some o)(n:b∉X.fs):b∉kf X.stack:=fun z=>by
 rcases mem_cons.mp (I.stkSub b z) with q|q
 ·have h1:=Heap.lt_size e;rw[q] at h1;exact absurd (Nat.lt_of_lt_of_le h1 I.ok.above) (Nat.lt_irrefl _)
 ·exact n q
theorem pN {h h':Heap}{c:Addr}{v:Option Value}(u:h.UpToSlots h')(x:h.IsCell c v):h'.IsCell c v:=by
 obtain⟨o,e,d⟩:=x;obtain⟨sl,e'⟩:=u c o e fun vs q=>by rw[d] at q;cases q
 exact⟨_,e',d⟩
theorem rR (I:L2.Inv X ae σ H s)(cov:By X ae H B)(hB:B.StaysIn s.heap)(hB':B.StaysIn h')(up:s.heap.UpToSlots h'):L2.Inv X ae σ H {s with heap:=h'}:=by
 have keepB:∀b o o',B.get? b=some o'→s.heap.get? b=some o→h'.get? b=some o:=fun b o o' e1 e2=>by
  have:=hB b o' e1;rw[e2] at this;cases this;exact hB' b _ e1
 refine⟨I.ok,I.os,I.bare,⟨fun b o e n nf nx=>?_,fun b o e n hf nx=>?_,fun b o e n nx=>I.base.free b o e n nx,fun b o e nx=>?_,I.base.tups,I.base.frzs,I.base.tbls⟩,?_,fun x c e=>?_,I.free,I.freeC,fun p hp=>?_,fun b o e=>?_,I.len⟩
 ·obtain⟨o',e'⟩:=cov.old b o e nx (k8 I e nf);exact keepB b o o' e' (I.base.keep b o e n nf nx)
 ·obtain⟨sl,e1⟩:=I.base.slot b o e n hf nx;obtain⟨_,ob,e2,nf⟩:=I.funs.mem hf;rw[e1] at e2;cases e2;obtain⟨sl',e3⟩:=up b _ e1 nf;exact⟨sl',e3⟩
 ·by_cases hf:b∈X.fs
  ·obtain⟨_,ob,e2,nf⟩:=I.funs.mem hf;obtain⟨sl',e3⟩:=up b _ e2 nf;exact⟨_,e3⟩
  ·obtain⟨o',e'⟩:=cov.old b o e nx (k8 I e hf);exact⟨o',hB' b o' e'⟩
 ·obtain⟨m,hn,hl⟩:=I.loc;refine⟨m,up.ns hn,fun i x v e1 e2 e3=>?_⟩;obtain⟨u,r,lk⟩:=hl i x v e1 e2 e3;refine⟨u,r,?_⟩;rcases lk with lk|⟨k,c,ec,ic⟩
  ·exact .inl lk
  ·exact .inr ⟨k,c,ec,pN up ic⟩
 ·obtain⟨v,ic⟩:=I.cell x c e;exact⟨v,pN up ic⟩
 ·obtain⟨e,n,ne,nf,d⟩:=I.pin p hp;obtain⟨o',e'⟩:=cov.pin p hp;exact⟨keepB p.1 p.2 o' e' e,n,ne,nf,d⟩
 ·refine(I.hok b o e).stay (fun c u hc q=>?_) (fun _ q=>q) fun _ _ q=>q
  have:∃o,H c=some o:=by
   rcases hc with z|z
   ·exact⟨o,by rw[z];exact e⟩
   ·exact⟨_,z⟩
  obtain⟨oc,ec⟩:=this;obtain⟨o',e'⟩:=cov.trk c oc ec;exact keepB c u o' e' q
theorem s0 (I:L2.Inv X ae σ H s):By X ae H (W.hideAll s.heap (kf X.stack)):=by
 refine⟨fun b o e=>?_,fun p hp=>?_,fun b o e nx nf=>?_⟩
 ·obtain⟨u,q⟩:=jW (I.hok b o e);exact⟨u,W.hideAll_get _ q fun z=>by rw[I.stkFree b z] at e;cases e⟩
 ·obtain⟨e,n,ne,nf,d⟩:=I.pin p hp;exact⟨p.2,W.hideAll_get _ e fun z=>by
   rcases mem_cons.mp (I.stkSub _ z) with q|q
   ·exact ne q
   ·exact nf q⟩
 ·obtain⟨o',e'⟩:=I.base.there b o e nx;exact⟨o',W.hideAll_get _ e' nf⟩
theorem my (I:L2.Inv X ae σ H s):s.heap.FunFrames (W.hideAll s.heap (kf X.stack)) X.stack:=
 W.funFrames_hide I.stack fun env he b hb=>mem_filterMap.mpr ⟨env,he,hb⟩
theorem qB {vs:List Value}{h:Heap}(I:L2.Inv X ae σ H {s with heap:=h})(m:Heap.MadeExcOf h s.heap a (.ref C) vs):H a=none:=by
 cases q:H a with
 | none=>rfl
 | some o=>
  obtain⟨u,e⟩:=jW (I.hok a o q);have e:h.get? a=some u:=e;rw[m.new] at e;cases e
end
def iX (P:Program)(w:World):rM:=fun outer H s E e s'=>∃a C H' B a0,e=.ref a∧s'.os=s.os∧AllBare s'.gens∧Un (kf outer) [] H H' s.heap s'.heap∧i8 P w H' s'.heap∧H' a=none∧
 Heap.FlyingW B outer a (.ref C) a0 s'.heap∧(∀b o,H' b=some o→∃o',B.get? b=some o')∧(∀b o,s.heap.get? b=some o→b∉kf outer→∃o',B.get? b=some o')∧E (.ref C) (some a) H'
theorem oe {P:Program}{w:World}{K:W.Frag}{mg:Str→Option Value}{base:Heap}{N:List Str}{qual:Str}{scope:Scope}{f:Addr}{cdv:Value}{A:Around}{outer:List Env}{s s':Shared}{H H':Hp}{E:XK}{a C:Addr}
  (fl:DV (hZ (iX P w) P w K mg base N qual scope f cdv A outer s H E) H' a C s') (hE:E (.ref C) (some a) H'):(hZ (iX P w) P w K mg base N qual scope f cdv A outer s H E).xe (.ref a) s':=by
 show wpAny (model P w) (A.deeper (envOfC qual scope s.heap.objs.size f cdv)) (leaving (envOfC qual scope s.heap.objs.size f cdv) (.ref a)) (fun _ s''=>iX P w outer H s E (.ref a) s'') (fun e' s''=>iX P w outer H s E e' s'') s';obtain⟨ae,σ,fl⟩:=fl;have key:∀(B:Heap) (a0:Value) (h':Heap) (I:L2.Inv (hZ (iX P w) P w K mg base N qual scope f cdv A outer s H E) ae σ H' s'),B.StaysIn s'.heap→By (hZ (iX P w) P w K mg base N qual scope f cdv A outer s H E) ae H' B→H' a=none→
   Heap.FlyingW B outer a (.ref C) a0 h'→s'.heap.UpToSlots h'→iX P w outer H s E (.ref a) {s' with heap:=h'}:=fun B a0 h' I hB cov hn fl' up=>by
  have I':=rR I cov hB fl'.1 up;refine⟨a,C,H',B,a0,rfl,I'.os,I'.bare,I'.base,I'.hok,hn,fl',cov.trk,fun b o e nf=>?_,hE⟩;exact cov.old b o e (by show b∉([]:List Addr);simp) (k8 I e nf)
 rcases fl with⟨h,vs,I,m⟩|⟨I,hn,B,a0,fl,cov⟩|⟨I,hn,B,a0,L,hL,held,cov⟩
 ·have cov:=s0 I;have hid:∀b o,(W.hideAll h (kf (hZ (iX P w) P w K mg base N qual scope f cdv A outer s H E).stack)).get? b=some o→h.get? b=some o:=fun b o q=>W.of_hideAll _ q
  refine wpAny_leaves_madeW (env:=envOfC qual scope s.heap.objs.size f cdv) (outer:=outer) I.ok.frames rfl hid (my I) m fun h' t x1 x2 x3 x4=>?_
  exact key _ _ h' (I.kept (t':=s'.toks) (h':=s'.heap) m.keeps) (fun b o q=>m.keeps b o (hid b o q)) cov (qB I m) x1 x4
 ·refine wpAny_leaves_onW (env:=envOfC qual scope s.heap.objs.size f cdv) (outer:=outer) I.ok.frames rfl fl fun h' x1 x2=>?_
  exact key B a0 h' I fl.1 cov hn x1 x2
 ·unfold leaving;refine wpAny_bind (wpAny_noteFrame_againW hL held.2.2.2 ?_);refine wpAny_landsW held fun h' x1 x2=>?_
  obtain⟨k1,k2,⟨_,_,k3⟩,k4⟩:=x1;exact key B a0 h' I held.1 cov hn ⟨k1,k2,k3,k4⟩ x2
theorem p7 {X:Cx}{ae:List (Addr×Obj)}{σ:L2.St}{H:Hp}{s:Shared}{e:Value}{s':Shared}{E:XK}(I:L2.Inv X ae σ H s)(h:iX X.prog X.w X.stack H s E e s'):∃a C H',e=.ref a∧DV X H' a C s'∧E (.ref C) (some a) H':=by
 obtain⟨a,C,H',B,a0,rfl,os,bare,un,hok,hn,fl,trk,old,hE⟩:=h;refine⟨a,C,H',rfl,⟨ae,σ,.inr (.inl ⟨I.call' os un hok bare (fun b z=>absurd z (by simp)),hn,B,a0,fl,trk,fun p hp=>?_,fun b o eb nx nf=>?_⟩)⟩,hE⟩
 ·obtain⟨eb,n,ne,nf,d⟩:=I.pin p hp;exact old p.1 p.2 eb fun z=>by
   rcases mem_cons.mp (I.stkSub _ z) with q|q
   ·exact ne q
   ·exact nf q
 ·obtain⟨o',e'⟩:=I.base.there b o eb nx;exact old b o' e' nf
inductive D where
 | non|bl (b:Bool)|int (i:Int)|str (x:Str)|tup (xs:List D)|lst (xs:List D)|ro (xs:List D)|mr (i:Nat)|exc (c:Str)|any
instance:Inhabited D:=⟨.non⟩
inductive MO where
 | lst (xs:List D)|obj (c:Str) (fs:List (Str×D))|dK (kvs:List (j8×D))|dT (kvs:List (List j8×D))
instance:Inhabited MO:=⟨.lst []⟩
abbrev ax:=List MO
abbrev aZ:=List (Option D)
inductive aF (α:Type) where
 | ok (a:α) (M:ax)
 | err (c:Str) (M:ax)
 | bad
def aF.bind {α β:Type}(o:aF α)(f:α→ax→aF β):aF β:=
 match o with
 | .ok a M=>f a M
 | .err c M=>.err c M
 | .bad=>.bad
@[simp] theorem ah {α β:Type} (a:α) (M:ax) (f:α→ax→aF β):(aF.ok a M).bind f=f a M:=by rw[aF.bind]
@[simp] theorem BI {α β:Type} (c:Str) (M:ax) (f:α→ax→aF β):(aF.err c M:aF α).bind f=.err c M:=by rw[aF.bind]
@[simp] theorem BU {α β:Type} (f:α→ax→aF β):(aF.bad:aF α).bind f=.bad:=by rw[aF.bind]
def Fh (K:W.Frag)(a:Addr)(xs:List V):Prop:=∃(o:Obj) (its:Array Value) (n:Nat),K.lookup a=some o∧o.cls=.type "tuple"∧o.data=.seq its n∧its.size≤sizeLine∧aM xs its.toList
def KL (K:W.Frag)(a:Addr)(xs:List V):Prop:=∃(o:Obj) (its:Array Value) (n:Nat),K.lookup a=some o∧o.cls=.type "list"∧o.dict=none∧o.data=.seq its n∧its.size≤sizeLine∧aM xs its.toList
def jh (K:W.Frag)(θ:List Addr)(H:Hp)(a:Addr)(xs:List V):Prop:=H a=some (.tup xs)∧a∉θ
def kB (θ:List Addr)(H:Hp)(a:Addr)(xs:List V):Prop:=H a=some (.lst xs)∧a∉θ
def ly (K:W.Frag)(θ:List Addr)(H:Hp)(a:Addr)(xs:List V):Prop:=(Rd H a (.lst xs)∧a∉θ)∨KL K a xs
theorem jh.sq {K:W.Frag}{θ:List Addr}{H:Hp}{a:Addr}{xs:List V}(h:jh K θ H a xs):lX K H a xs:=.inl (.inl h.1)
theorem kB.sq {K:W.Frag}{θ:List Addr}{H:Hp}{a:Addr}{xs:List V}(h:kB θ H a xs):iZ K H a xs:=.inl (.inl h.1)
theorem ly.sq {K:W.Frag}{θ:List Addr}{H:Hp}{a:Addr}{xs:List V}(h:ly K θ H a xs):iZ K H a xs:=by
 rcases h with⟨h,_⟩|h
 ·exact .inl h
 ·exact .inr h
def DM (a C:Addr):HO:=.ext fun h=>∃o,h.get? a=some o∧o.cls=.ref C
mutual
def cX (K:W.Frag)(θ:List Addr)(H:Hp):D→V→Prop
 | .non,v=>v=.non
 | .bl b,v=>v=.bl b
 | .int i,v=>v=.int i
 | .str x,v=>v=.str x
 | .tup ds,v=>∃a vs,v=.ref a∧jh K θ H a vs∧aR K θ H ds vs
 | .lst ds,v=>∃a vs,v=.ref a∧kB θ H a vs∧aR K θ H ds vs
 | .ro ds,v=>∃a vs,v=.ref a∧ly K θ H a vs∧aR K θ H ds vs
 | .mr i,v=>∃a,v=.ref a∧θ[i]?=some a
 | .exc c,v=>∃a C,v=.ref a∧jx K c C∧H a=some (DM a C)∧a∉θ
 | .any,_=>True
def aR (K:W.Frag)(θ:List Addr)(H:Hp):List D→List V→Prop
 | [],vs=>vs=[]
 | d::ds,vs=>∃v r,vs=v::r∧cX K θ H d v∧aR K θ H ds r
end
def qX (K:W.Frag)(θ:List Addr)(H:Hp):List (Str×D)→List (Str×V)→Prop
 | [],vs=>vs=[]
 | (f,d)::fs,vs=>∃v r,vs=(f,v)::r∧cX K θ H d v∧qX K θ H fs r
def nI {κ:Type}(K:W.Frag)(θ:List Addr)(H:Hp):List (κ×D)→List (κ×V)→Prop
 | [],vs=>vs=[]
 | (k,d)::fs,vs=>∃v r,vs=(k,v)::r∧cX K θ H d v∧nI K θ H fs r
def kj (K:W.Frag)(θ:List Addr)(H:Hp):MO→Addr→Prop
 | .lst ds,a=>∃vs,H a=some (.lst vs)∧aR K θ H ds vs
 | .obj c fs,a=>∃C dx vs,jx K c C∧H a=some (.ins C dx vs)∧qX K θ H fs vs
 | .dK kvs,a=>∃vs,H a=some (.dK vs)∧nI K θ H kvs vs
 | .dT kvs,a=>∃vs,H a=some (.dT vs)∧nI K θ H kvs vs
def dP:List Str:=["ink_shown","table_within","slots_given","cast_on_slots"]
def vg (x:Str):Str:=x++(".<locals>.<lambda>":Str)
def Cq (c:Addr)(q:Str):HO:=.ext fun h=>h.CodeRec (.ref c) q
def EL (ob:Obj):HO:=.frz ob (.ext fun _=>True)
structure iq (K:W.Frag)(H:Hp):Prop where
 tab:∀x,x∈dP→∀c P,W.tabIn K x=some (c,P)→∃ps,H P=some (.tbl ps)∧TriplesOk ps.toList∧∀pos cv,codeAmong pos ps.toList=some cv→∃c',cv=.ref c'∧H c'=some (Cq c' (vg x))
 bm:∀x,x∈dP→∀c P,W.tabIn K x=some (c,P)→∃bm ob,W.nsIn K mainGlobals "__builtins__"=some (some (.ref bm))∧H bm=some (EL ob)∧ob.cls=.type "module"∧ob.dict=some builtinsNs∧ob.data=.plain∧bm≠builtinsNs∧bm≠mainGlobals
theorem iq.of {K:W.Frag}{H H':Hp}(t:iq K H)(k1:∀b ps,H b=some (.tbl ps)→H' b=some (.tbl ps))(k2:∀b φ,H b=some (.ext φ)→H' b=some (.ext φ))(k3:∀b o u,H b=some (.frz o u)→H' b=some (.frz o u)):iq K H':=
 ⟨fun x hx c P e=>by
  obtain⟨ps,h1,h2,h3⟩:=t.tab x hx c P e;refine⟨ps,k1 _ _ h1,h2,fun pos cv q=>?_⟩;obtain⟨c',e1,e2⟩:=h3 pos cv q;exact⟨c',e1,k2 _ _ e2⟩,fun x hx c P e=>by
  obtain⟨bm,ob,e1,e2,r⟩:=t.bm x hx c P e;exact⟨bm,ob,e1,k3 _ _ _ e2,r⟩⟩
theorem iq.new {K:W.Frag}{H:Hp}{p:Addr}{o:HO}(t:iq K H)(hp:H p=none):iq K (cK H p o):=
 t.of (fun b ps e=>by rw[aL (bh e hp)];exact e) (fun b φ e=>by rw[aL (bh e hp)];exact e) fun b o u e=>by rw[aL (bh e hp)];exact e
def nH:HO→Bool
 | .tbl _=>false
 | .ext _=>false
 | .frz _ _=>false
 | _=>true
theorem iq.at_ {K:W.Frag}{H:Hp}{a:Addr}{o u:HO}(t:iq K H)(ha:H a=some u)(hu:nH u=true):iq K (cK H a o):=
 t.of (fun b ps e=>by rw[aL (oM e ha (by intro z;subst z;cases hu))];exact e) (fun b φ e=>by rw[aL (oM e ha (by intro z;subst z;cases hu))];exact e) fun b o u e=>by rw[aL (oM e ha (by intro z;subst z;cases hu))];exact e
theorem iq.no {K:W.Frag}{H:Hp}(h:∀x,x∈dP→W.nsIn K mainGlobals x=some none):iq K H:=by
 have no:∀x,x∈dP→∀c P,W.tabIn K x≠some (c,P):=fun x hx c P e=>by
  unfold W.tabIn at e;rw[h x hx] at e;cases e
 exact⟨fun x hx c P e=>absurd e (no x hx c P),fun x hx c P e=>absurd e (no x hx c P)⟩
structure Wr (K:W.Frag)(θ:List Addr)(H:Hp)(M:ax):Prop where
 len:θ.length=M.length
 nd:θ.Nodup
 at_:∀(i:Nat) a m,θ[i]?=some a→M[i]?=some m→kj K θ H m a
 tb:iq K H
structure fO (K:W.Frag)(θ:List Addr)(H:Hp)(σ:L2.St)(ρ:aZ):Prop where
 len:ρ.length=σ.length
 at_:∀(i:Nat) d,ρ[i]?=some (some d)→∃v,σ[i]?=some (some v)∧cX K θ H d v
structure Grow (θ:List Addr)(H:Hp)(θ':List Addr)(H':Hp):Prop where
 ext:∃more,θ'=θ++more∧∀a∈more,H a=none
 keep:∀b o,H b=some o→b∉θ→(∀ps,o≠.tbl ps)→H' b=some o
 tkeep:∀b ps,H b=some (.tbl ps)→∃ps',H' b=some (.tbl ps')
structure Go (K:W.Frag)(θ:List Addr)(H:Hp)(θ':List Addr)(H':Hp)(M':ax):Prop extends Grow θ H θ' H' where
 wr:Wr K θ' H' M'
section
variable {K:W.Frag}{θ θ' θ1 θ2:List Addr}{H H' H1 H2:Hp}{M M' M1 M2:ax}{a p:Addr}{σ:L2.St}{ρ:aZ}
theorem Wr.tracked (w:Wr K θ H M)(h:a∈θ):H a≠none:=by
 obtain⟨i,hi,e⟩:=mem_iff_getElem.mp h;have h1:θ[i]?=some a:=by rw[getElem?_eq_getElem hi,e]
 have h2:i<M.length:=by rw[←w.len];exact hi
 have h3:=w.at_ i a _ h1 (getElem?_eq_getElem h2);cases q:M[i] with
 | lst ds=>
  rw[q] at h3;obtain⟨vs,e,_⟩:=h3;rw[e];simp
 | obj c fs=>
  rw[q] at h3;obtain⟨C,dx,vs,_,e,_⟩:=h3;rw[e];simp
 | dK kvs=>
  rw[q] at h3;obtain⟨vs,e,_⟩:=h3;rw[e];simp
 | dT kvs=>
  rw[q] at h3;obtain⟨vs,e,_⟩:=h3;rw[e];simp
theorem kj.plain {m:MO}(h:kj K θ H m a):∃o,H a=some o∧nH o=true:=by
 cases m with
 | lst ds=>obtain⟨vs,e,_⟩:=h;exact⟨_,e,rfl⟩
 | obj c fs=>obtain⟨C,dx,vs,_,e,_⟩:=h;exact⟨_,e,rfl⟩
 | dK kvs=>obtain⟨vs,e,_⟩:=h;exact⟨_,e,rfl⟩
 | dT kvs=>obtain⟨vs,e,_⟩:=h;exact⟨_,e,rfl⟩
theorem Wr.plain (w:Wr K θ H M){i:Nat}(h:θ[i]?=some a):∃o,H a=some o∧nH o=true:=by
 have h2:i<M.length:=by rw[←w.len];exact(List.getElem?_eq_some_iff.mp h).1
 exact(w.at_ i a _ h (getElem?_eq_getElem h2)).plain
theorem Wr.fresh (w:Wr K θ H M)(h:H p=none):p∉θ:=fun z=>w.tracked z h
theorem Grow.refl (θ:List Addr)(H:Hp):Grow θ H θ H:=⟨⟨[],by simp,fun _ z=>by cases z⟩,fun _ _ h _ _=>h,fun b ps e=>⟨ps,e⟩⟩
theorem Go.refl (w:Wr K θ H M):Go K θ H θ H M:=⟨.refl θ H,w⟩
theorem Go.trans (a:Go K θ H θ1 H1 M1)(b:Go K θ1 H1 θ2 H2 M2):Go K θ H θ2 H2 M2:=by
 obtain⟨m1,e1,f1⟩:=a.ext;obtain⟨m2,e2,f2⟩:=b.ext;refine⟨⟨⟨m1++m2,by rw[e2,e1,append_assoc],fun x hx=>?_⟩,fun x o hx nx nt=>?_,fun x ps e=>?_⟩,b.wr⟩
 ·rcases mem_append.mp hx with z|z
  ·exact f1 x z
  ·cases q:H x with
   | none=>rfl
   | some o=>
    have nx:x∉θ:=by
     intro y;have nd:=b.wr.nd;rw[e2] at nd;have y1:x∈θ1:=by rw[e1];exact mem_append_left _ y
     exact(nodup_append.mp nd).2.2 x y1 x z rfl
    exfalso
    by_cases nt:∃ps,o=.tbl ps
    ·obtain⟨ps,rfl⟩:=nt;obtain⟨ps',e'⟩:=a.tkeep x ps q;rw[f2 x z] at e';cases e'
    ·have:=a.keep x o q nx fun ps e'=>nt ⟨ps,e'⟩
     rw[f2 x z] at this;cases this
 ·have h1:=a.keep x o hx nx nt;refine b.keep x o h1 ?_ nt;rw[e1];intro z;rcases mem_append.mp z with z|z
  ·exact nx z
  ·rw[f1 x z] at hx;cases hx
 ·obtain⟨ps',e'⟩:=a.tkeep x ps e;exact b.tkeep x ps' e'
theorem Grow.notin (g:Grow θ H θ' H'){o:HO}(h:H a=some o)(n:a∉θ):a∉θ':=by
 obtain⟨m,e,f⟩:=g.ext;rw[e];intro z;rcases mem_append.mp z with z|z
 ·exact n z
 ·rw[f a z] at h;cases h
theorem jh.grow {xs:List V}(g:Grow θ H θ' H')(h:jh K θ H a xs):jh K θ' H' a xs:=⟨g.keep _ _ h.1 h.2 (by intro _ z;cases z),g.notin h.1 h.2⟩
theorem kB.grow {xs:List V}(g:Grow θ H θ' H')(h:kB θ H a xs):kB θ' H' a xs:=⟨g.keep _ _ h.1 h.2 (by intro _ z;cases z),g.notin h.1 h.2⟩
theorem ly.grow {xs:List V}(g:Grow θ H θ' H')(h:ly K θ H a xs):ly K θ' H' a xs:=by
 rcases h with⟨h|⟨o,h⟩,n⟩|h
 ·exact .inl ⟨.inl (g.keep _ _ h n (by intro _ z;cases z)),g.notin h n⟩
 ·exact .inl ⟨.inr ⟨o,g.keep _ _ h n (by intro _ z;cases z)⟩,g.notin h n⟩
 ·exact .inr h
mutual
theorem gQ (g:Grow θ H θ' H'):∀(d:D) (v:V),cX K θ H d v→cX K θ' H' d v
 | .non,v,h=>h
 | .bl b,v,h=>h
 | .int i,v,h=>h
 | .str x,v,h=>h
 | .tup ds,v,h=>by
  obtain⟨a,vs,e,t,r⟩:=h;exact⟨a,vs,e,t.grow g,bZ g ds vs r⟩
 | .lst ds,v,h=>by
  obtain⟨a,vs,e,t,r⟩:=h;exact⟨a,vs,e,t.grow g,bZ g ds vs r⟩
 | .ro ds,v,h=>by
  obtain⟨a,vs,e,t,r⟩:=h;exact⟨a,vs,e,t.grow g,bZ g ds vs r⟩
 | .mr i,v,h=>by
  obtain⟨a,e,t⟩:=h;obtain⟨m,em,_⟩:=g.ext;refine⟨a,e,?_⟩;rw[em,getElem?_append_left (List.getElem?_eq_some_iff.mp t).1];exact t
 | .exc c,v,h=>by
  obtain⟨a,C,e,k,t,n⟩:=h;exact⟨a,C,e,k,g.keep _ _ t n (by intro _ z;cases z),g.notin t n⟩
 | .any,v,h=>h
theorem bZ (g:Grow θ H θ' H'):∀(ds:List D) (vs:List V),aR K θ H ds vs→aR K θ' H' ds vs
 | [],vs,h=>h
 | d::ds,vs,h=>by
  obtain⟨v,r,e,h1,h2⟩:=h;exact⟨v,r,e,gQ g d v h1,bZ g ds r h2⟩
end
theorem cX.go {d:D}{v:V}(h:cX K θ H d v)(g:Go K θ H θ' H' M'):cX K θ' H' d v:=gQ g.toGrow d v h
theorem aR.go {ds:List D}{vs:List V}(h:aR K θ H ds vs)(g:Go K θ H θ' H' M'):aR K θ' H' ds vs:=bZ g.toGrow ds vs h
theorem fO.go (h:fO K θ H σ ρ)(g:Go K θ H θ' H' M'):fO K θ' H' σ ρ:=⟨h.len,fun i d e=>let ⟨v,e1,e2⟩:=h.at_ i d e;⟨v,e1,e2.go g⟩⟩
theorem ar:∀{ds:List D} {vs:List V},aR K θ H ds vs→ds.length=vs.length
 | [],vs,h=>by cases (show vs=[] from h);rfl
 | d::ds,vs,h=>by
  obtain⟨v,r,e,_,h2⟩:=h;subst e;rw[length_cons,length_cons,ar h2]
theorem bM:∀{ds es:List D} {vs us:List V},aR K θ H ds vs→aR K θ H es us→aR K θ H (ds++es) (vs++us)
 | [],es,vs,us,h,k=>by cases (show vs=[] from h);exact k
 | d::ds,es,vs,us,h,k=>by
  obtain⟨v,r,e,h1,h2⟩:=h;subst e;exact⟨v,r++us,rfl,h1,bM h2 k⟩
theorem dm:∀{ds:List D} {vs:List V} {i:Nat} {d:D},aR K θ H ds vs→ds[i]?=some d→∃v,vs[i]?=some v∧cX K θ H d v
 | [],vs,i,d,h,e=>by simp at e
 | x::ds,vs,0,d,h,e=>by
  obtain⟨v,r,e1,h1,h2⟩:=h;subst e1;simp at e;subst e;exact⟨v,rfl,h1⟩
 | x::ds,vs,i+1,d,h,e=>by
  obtain⟨v,r,e1,h1,h2⟩:=h;subst e1;obtain⟨u,e2,h3⟩:=dm (i:=i) h2 (by simpa using e);exact⟨u,by simpa using e2,h3⟩
theorem ky:∀{ds:List D} {vs:List V} (n:Nat),aR K θ H ds vs→aR K θ H (ds.take n) (vs.take n)
 | ds,vs,0,h=>by rw[take_zero,take_zero];exact rfl
 | [],vs,n+1,h=>by cases (show vs=[] from h);exact rfl
 | d::ds,vs,n+1,h=>by
  obtain⟨v,r,e,h1,h2⟩:=h;subst e;exact⟨v,r.take n,rfl,h1,ky n h2⟩
theorem kz:∀{ds:List D} {vs:List V} (n:Nat),aR K θ H ds vs→aR K θ H (ds.drop n) (vs.drop n)
 | ds,vs,0,h=>h
 | [],vs,n+1,h=>by cases (show vs=[] from h);exact rfl
 | d::ds,vs,n+1,h=>by
  obtain⟨v,r,e,h1,h2⟩:=h;subst e;exact kz n h2
theorem mL {d:D}{v:V}(hd:cX K θ H d v):∀{ds:List D} {vs:List V} (i:Nat),aR K θ H ds vs→aR K θ H (ds.set i d) (vs.set i v)
 | [],vs,i,h=>by cases (show vs=[] from h);exact rfl
 | x::ds,vs,0,h=>by
  obtain⟨u,r,e,h1,h2⟩:=h;subst e;exact⟨v,r,rfl,hd,h2⟩
 | x::ds,vs,i+1,h=>by
  obtain⟨u,r,e,h1,h2⟩:=h;subst e;exact⟨u,r.set i v,rfl,h1,mL hd i h2⟩
theorem hG {o:HO}(w:Wr K θ H M)(hp:H p=none):Grow θ H θ (cK H p o):=
 ⟨⟨[],by simp,fun _ z=>by cases z⟩,fun b u h _ _=>by rw[aL (bh h hp)];exact h,fun b ps h=>⟨ps,by rw[aL (bh h hp)];exact h⟩⟩
theorem kH (g:Grow θ H θ' H'):∀{fs:List (Str×D)} {vs:List (Str×V)},qX K θ H fs vs→qX K θ' H' fs vs
 | [],vs,h=>h
 | (f,d)::fs,vs,h=>by
  obtain⟨v,r,e,h1,h2⟩:=h;exact⟨v,r,e,gQ g d v h1,kH g h2⟩
theorem iJ {κ:Type}(g:Grow θ H θ' H'):∀{fs:List (κ×D)} {vs:List (κ×V)},nI K θ H fs vs→nI K θ' H' fs vs
 | [],vs,h=>h
 | (f,d)::fs,vs,h=>by
  obtain⟨v,r,e,h1,h2⟩:=h;exact⟨v,r,e,gQ g d v h1,iJ g h2⟩
theorem kj.grow {m:MO}(g:Grow θ H θ' H')(hs:H' a=H a)(h:kj K θ H m a):kj K θ' H' m a:=by
 cases m with
 | lst ds=>
  obtain⟨vs,e,r⟩:=h;exact⟨vs,by rw[hs];exact e,bZ g ds vs r⟩
 | obj c fs=>
  obtain⟨C,dx,vs,k,e,r⟩:=h;exact⟨C,dx,vs,k,by rw[hs];exact e,kH g r⟩
 | dK kvs=>
  obtain⟨vs,e,r⟩:=h;exact⟨vs,by rw[hs];exact e,iJ g r⟩
 | dT kvs=>
  obtain⟨vs,e,r⟩:=h;exact⟨vs,by rw[hs];exact e,iJ g r⟩
theorem dO {o:HO}(w:Wr K θ H M)(hp:H p=none):Go K θ H θ (cK H p o) M:=
 ⟨hG w hp,w.len,w.nd,fun i a m h1 h2=>by
  have ha:a≠p:=fun e=>w.fresh hp (by rw[←e];exact mem_of_getElem? h1)
  exact(w.at_ i a m h1 h2).grow (hG w hp) (aL ha),w.tb.new hp⟩
theorem lC {ds:List D}{vs:List V}(w:Wr K θ H M)(hp:H p=none)(r:aR K θ H ds vs):cX K θ (cK H p (.tup vs)) (.tup ds) (.ref p):=
 ⟨p,vs,rfl,⟨dZ,w.fresh hp⟩,bZ (hG w hp) ds vs r⟩
theorem eC {ds:List D}{vs:List V}(w:Wr K θ H M)(hp:H p=none)(r:aR K θ H ds vs):cX K θ (cK H p (.lst vs)) (.lst ds) (.ref p):=
 ⟨p,vs,rfl,⟨dZ,w.fresh hp⟩,bZ (hG w hp) ds vs r⟩
theorem kM {o:HO}(hp:H p=none):Grow θ H (θ++[p]) (cK H p o):=
 ⟨⟨[p],rfl,fun a ha=>by rw[mem_singleton.mp ha];exact hp⟩,fun b u h _ _=>by rw[aL (bh h hp)];exact h,fun b ps h=>⟨ps,by rw[aL (bh h hp)];exact h⟩⟩
theorem u9 {m:MO}{o:HO}(w:Wr K θ H M)(hp:H p=none)(hm:kj K (θ++[p]) (cK H p o) m p):Go K θ H (θ++[p]) (cK H p o) (M++[m]):=by
 have np:=w.fresh hp;have g:Grow θ H (θ++[p]) (cK H p o):=kM hp;refine⟨g,by rw[length_append,length_append,w.len];rfl,?_,fun i a m' h1 h2=>?_,w.tb.new hp⟩
 ·rw[nodup_append];exact⟨w.nd,by simp,fun x hx y hy e=>np (by rw[mem_singleton.mp hy] at e;rw[←e];exact hx)⟩
 ·by_cases hi:i<θ.length
  ·rw[getElem?_append_left hi] at h1;rw[getElem?_append_left (by rw[←w.len];exact hi)] at h2;have ha:a≠p:=fun e=>np (by rw[←e];exact mem_of_getElem? h1)
   exact(w.at_ i a m' h1 h2).grow g (aL ha)
  ·have hi':i=θ.length:=by
    have:=(List.getElem?_eq_some_iff.mp h1).1;rw[length_append,length_singleton] at this;omega
   subst hi';rw[getElem?_append_right (Nat.le_refl _)] at h1;rw[getElem?_append_right (by rw[w.len];exact Nat.le_refl _)] at h2;simp only[Nat.sub_self,w.len,getElem?_cons_zero,Option.some.injEq] at h1 h2;subst h1;subst h2;exact hm
theorem uD {ds:List D}{vs:List V}(w:Wr K θ H M)(hp:H p=none)(r:aR K θ H ds vs):Go K θ H (θ++[p]) (cK H p (.lst vs)) (M++[.lst ds]):=
 u9 w hp ⟨vs,dZ,bZ (kM hp) ds vs r⟩
theorem pR {i:Nat}{o:HO}(w:Wr K θ H M)(hi:θ[i]?=some a):Grow θ H θ (cK H a o):=by
 have ha:a∈θ:=mem_of_getElem? hi;obtain⟨u,hu,pu⟩:=w.plain hi;exact⟨⟨[],by simp,fun _ z=>by cases z⟩,fun b u h n _=>by rw[aL (fun e=>n (by rw[e];exact ha))];exact h,fun b ps h=>⟨ps,by rw[aL (oM h hu (by intro z;subst z;cases pu))];exact h⟩⟩
theorem v5 {i:Nat}{m:MO}{o:HO}(w:Wr K θ H M)(hi:θ[i]?=some a)(hm:kj K θ (cK H a o) m a):Go K θ H θ (cK H a o) (M.set i m):=by
 have g:Grow θ H θ (cK H a o):=pR w hi;obtain⟨u,hu,pu⟩:=w.plain hi;refine⟨g,by rw[length_set];exact w.len,w.nd,fun j b m' h1 h2=>?_,w.tb.at_ hu pu⟩
 by_cases hj:j=i
 ·subst hj;rw[hi] at h1;cases h1;have hl:j<M.length:=by rw[←w.len];exact(List.getElem?_eq_some_iff.mp hi).1
  rw[getElem?_set_self hl] at h2;cases h2;exact hm
 ·rw[getElem?_set_ne (Ne.symm hj)] at h2;have hb:b≠a:=fun e=>by
   subst e;obtain⟨h3,e3⟩:=List.getElem?_eq_some_iff.mp h1;obtain⟨h4,e4⟩:=List.getElem?_eq_some_iff.mp hi;exact hj ((getElem_inj w.nd).mp (e3.trans e4.symm))
  exact(w.at_ j b m' h1 h2).grow g (aL hb)
theorem lS {i:Nat}{ds ds':List D}{vs':List V}(w:Wr K θ H M)(hi:θ[i]?=some a)(r:aR K θ H ds' vs'):Go K θ H θ (cK H a (.lst vs')) (M.set i (.lst ds')):=
 v5 w hi ⟨vs',dZ,bZ (pR w hi) ds' vs' r⟩
end
abbrev GE:=aZ→ax→aF D
abbrev GT:=aZ→ax→aF Bool
abbrev GA:=aZ→ax→aF (List D)
inductive Fl where
 | nx (ρ:aZ)|rt (d:D)|bk (ρ:aZ)|ct (ρ:aZ)
abbrev GS:=aZ→ax→aF Fl
def cx (X:Cx)(θ:List Addr)(H:Hp)(c:Str)(M:ax):Prop:=∀C θ' H' a s',jx X.K c C→Go X.K θ H θ' H' M→DV X H' a C s'→X.xe (.ref a) s'
def aH (X:Cx)(θ:List Addr)(H:Hp)(Q:VK):aF D→Prop
 | .ok d M'=>∀v θ' H',Go X.K θ H θ' H' M'→cX X.K θ' H' d v→Q v H'
 | .err c M'=>cx X θ H c M'
 | .bad=>False
def iw (X:Cx)(θ:List Addr)(H:Hp)(Q:Bool→Hp→Prop):aF Bool→Prop
 | .ok b M'=>∀θ' H',Go X.K θ H θ' H' M'→Q b H'
 | .err c M'=>cx X θ H c M'
 | .bad=>False
def qZ (X:Cx)(θ:List Addr)(H:Hp)(Q:List V→Hp→Prop):aF (List D)→Prop
 | .ok ds M'=>∀vs θ' H',Go X.K θ H θ' H' M'→aR X.K θ' H' ds vs→Q vs H'
 | .err c M'=>cx X θ H c M'
 | .bad=>False
def bB (X:Cx)(θ:List Addr)(H:Hp)(D:lH):aF Fl→Prop
 | .ok (.nx ρ) M'=>∀σ θ' H',Go X.K θ H θ' H' M'→fO X.K θ' H' σ ρ→D.nx σ H'
 | .ok (.bk ρ) M'=>∀σ θ' H',Go X.K θ H θ' H' M'→fO X.K θ' H' σ ρ→D.bk σ H'
 | .ok (.ct ρ) M'=>∀σ θ' H',Go X.K θ H θ' H' M'→fO X.K θ' H' σ ρ→D.ct σ H'
 | .ok (.rt d) M'=>∀v θ' H',Go X.K θ H θ' H' M'→cX X.K θ' H' d v→D.rt v H'
 | .err c M'=>cx X θ H c M'
 | .bad=>False
def tE (X:Cx)(g:GE):TE:=fun σ H Q=>∃ρ θ M,fO X.K θ H σ ρ∧Wr X.K θ H M∧aH X θ H Q (g ρ M)
def tT (X:Cx)(g:GT):TT:=fun σ H Q=>∃ρ θ M,fO X.K θ H σ ρ∧Wr X.K θ H M∧iw X θ H Q (g ρ M)
def tA (X:Cx)(g:GA):TA:=fun σ H Q=>∃ρ θ M,fO X.K θ H σ ρ∧Wr X.K θ H M∧qZ X θ H Q (g ρ M)
def tS (X:Cx)(g:GS):TS:=fun D σ H=>∃ρ θ M,fO X.K θ H σ ρ∧Wr X.K θ H M∧bB X θ H D (g ρ M)
section
variable {X:Cx}{θ θ':List Addr}{H H':Hp}{M':ax}
theorem cx.go {c:Str}{M:ax}(g:Go X.K θ H θ' H' M')(h:cx X θ H c M):cx X θ' H' c M:=fun C θ2 H2 a s' k g2 fl=>h C θ2 H2 a s' k (g.trans g2) fl
theorem aH.go {Q:VK}{o:aF D}(g:Go X.K θ H θ' H' M')(h:aH X θ H Q o):aH X θ' H' Q o:=by
 cases o with
 | ok d M=>exact fun v θ2 H2 g2=>h v θ2 H2 (g.trans g2)
 | err c M=>exact cx.go (c:=c) (M:=M) g h
 | bad=>exact h
theorem iw.go {Q:Bool→Hp→Prop}{o:aF Bool}(g:Go X.K θ H θ' H' M')(h:iw X θ H Q o):iw X θ' H' Q o:=by
 cases o with
 | ok d M=>exact fun θ2 H2 g2=>h θ2 H2 (g.trans g2)
 | err c M=>exact cx.go (c:=c) (M:=M) g h
 | bad=>exact h
theorem qZ.go {Q:List V→Hp→Prop}{o:aF (List D)}(g:Go X.K θ H θ' H' M')(h:qZ X θ H Q o):qZ X θ' H' Q o:=by
 cases o with
 | ok d M=>exact fun v θ2 H2 g2=>h v θ2 H2 (g.trans g2)
 | err c M=>exact cx.go (c:=c) (M:=M) g h
 | bad=>exact h
theorem bB.go {D:lH}{o:aF Fl}(g:Go X.K θ H θ' H' M')(h:bB X θ H D o):bB X θ' H' D o:=by
 cases o with
 | ok f M=>cases f <;> exact fun v θ2 H2 g2=>h v θ2 H2 (g.trans g2)
 | err c M=>exact cx.go (c:=c) (M:=M) g h
 | bad=>exact h
end
section
variable {X:Cx}{e:Expr}
theorem _root_.L2.PE.of {t t':TE}(h:PE X e t)(w:∀σ H Q,t' σ H Q→t σ H Q):PE X e t':=fun ae s σ H Q I q=>h ae s σ H Q I (w σ H Q q)
theorem _root_.L2.PT.of {t t':TT}(h:PT X e t)(w:∀σ H Q,t' σ H Q→t σ H Q):PT X e t':=fun ae s σ H Q I q=>h ae s σ H Q I (w σ H Q q)
theorem _root_.L2.PW.of {t t':TT}(h:PW X e t)(w:∀σ H Q,t' σ H Q→t σ H Q):PW X e t':=fun wh ae s σ H Q I q=>h wh ae s σ H Q I (w σ H Q q)
theorem _root_.L2.PA.of {es:List Expr}{t t':TA}(h:PA X es t)(w:∀σ H Q,t' σ H Q→t σ H Q):PA X es t':=fun pos ae s σ H Q I q=>h pos ae s σ H Q I (w σ H Q q)
theorem _root_.L2.PS.of {st:Stmt}{t t':TS}(h:PS X st t)(w:∀D σ H,t' D σ H→t D σ H):PS X st t':=fun ae s σ H D I q=>h ae s σ H D I (w D σ H q)
theorem _root_.L2.PSs.of {st:List Stmt}{t t':TS}(h:PSs X st t)(w:∀D σ H,t' D σ H→t D σ H):PSs X st t':=fun ae s σ H D I q=>h ae s σ H D I (w D σ H q)
theorem bE {g:GE}{σ:L2.St}{H:Hp}{Q:VK}{α:Type}{ρ:aZ}{θ:List Addr}{M:ax}(hd:fO X.K θ H σ ρ)(hw:Wr X.K θ H M)(F:aF α→Prop)(Fe:∀c M',F (.err c M')→cx X θ H c M')(Fb:F .bad→False)
  {f:D→ax→aF α} (h:F ((g ρ M).bind f))
  (k:∀d M1 v θ1 H1,Go X.K θ H θ1 H1 M1→cX X.K θ1 H1 d v→F (f d M1)→Q v H1):tE X g σ H Q:=by
 refine⟨ρ,θ,M,hd,hw,?_⟩;cases q:g ρ M with
 | ok d M1=>
  rw[q] at h;exact fun v θ1 H1 g1 r1=>k d M1 v θ1 H1 g1 r1 h
 | err c M1=>rw[q] at h;exact Fe c M1 h
 | bad=>rw[q] at h;exact(Fb h).elim
def af (i:Nat):GE:=fun ρ M=>match ρ[i]? with
 | some (some d)=>.ok d M
 | _=>.bad
def gC (d:D):GE:=fun _ M=>.ok d M
theorem AE {i:Nat}(h:PE X e (CF i)):PE X e (tE X (af i)):=h.of fun σ H Q hxx=>by
 obtain⟨ρ,θ,M,hd,hw,f⟩:=hxx;unfold af at f;split at f
 ·rename_i d q;obtain⟨v,e1,r⟩:=hd.at_ i d q;exact⟨v,e1,f v θ H (.refl hw) r⟩
 ·exact f.elim
theorem ym {i j pos}:PE X (.Constant (.int i) j pos) (tE X (gC (.int i))):=Au.of fun σ H Q ⟨ρ,θ,M,hd,hw,f⟩=>f _ θ H (.refl hw) rfl
theorem BY {b j pos}:PE X (.Constant (.bool b) j pos) (tE X (gC (.bl b))):=Cc.of fun σ H Q ⟨ρ,θ,M,hd,hw,f⟩=>f _ θ H (.refl hw) rfl
theorem Ab {x j pos}:PE X (.Constant (.str x) j pos) (tE X (gC (.str x))):=zn.of fun σ H Q ⟨ρ,θ,M,hd,hw,f⟩=>f _ θ H (.refl hw) rfl
abbrev F2:=D→D→ax→aF D
def g2 (f:F2)(ga gb:GE):GE:=fun ρ M=>(ga ρ M).bind fun x M1=>(gb ρ M1).bind fun y M2=>f x y M2
def rD (X:Cx)(f:F2):R2:=fun x y H Q=>∃θ M dx dy,Wr X.K θ H M∧cX X.K θ H dx x∧cX X.K θ H dy y∧aH X θ H Q (f dx dy M)
theorem tX {f:F2}{ga gb:GE}{σ:L2.St}{H:Hp}{Q:VK}(h:tE X (g2 f ga gb) σ H Q):C0 (rD X f) (tE X ga) (tE X gb) σ H Q:=by
 obtain⟨ρ,θ,M,hd,hw,h⟩:=h;refine bE hd hw (aH X θ H Q) (fun c M' h=>h) (fun h=>h) h fun dx M1 x θ1 H1 g1 r1 h1=>?_
 refine bE (hd.go g1) g1.wr (aH X θ1 H1 Q) (fun c M' h=>h) (fun h=>h) (h1.go g1) fun dy M2 y θ2 H2 g2 r2 h2=>?_
 exact⟨θ2,M2,dx,dy,g2.wr,r1.go g2,r2,h2.go g2⟩
theorem BW {a b:Expr}{op:Operator}{pos:Pos}{f:F2}{ga gb:GE}(ho:ej X (binaryOp op) (rD X f))(ha:PE X a (tE X ga))(hb:PE X b (tE X gb)):PE X (.BinOp a op b pos) (tE X (g2 f ga gb)):=
 (AX ho ha hb).of fun _ _ _ h=>tX h
def AT:D→ax→aF Bool
 | .bl b,M=>.ok b M
 | _,_=>.bad
def aJ (g:GE):GT:=fun ρ M=>(g ρ M).bind AT
theorem si {θ:List Addr}{H:Hp}{Q:Bool→Hp→Prop}{o:aF D}(h:iw X θ H Q (o.bind AT)):aH X θ H (fun x H'=>∃k,x=.bl k∧Q k H') o:=by
 cases o with
 | ok d M=>
  cases d with
  | bl b=>exact fun v θ1 H1 g1 r1=>⟨b,r1,h θ1 H1 g1⟩
  | _=>exact h.elim
 | err c M=>exact h
 | bad=>exact h
theorem z0 {g:GE}{σ:L2.St}{H:Hp}{Q:Bool→Hp→Prop}(h:tT X (aJ g) σ H Q):tE X g σ H fun x H'=>∃k,x=.bl k∧Q k H':=by
 obtain⟨ρ,θ,M,hd,hw,h⟩:=h;exact⟨ρ,θ,M,hd,hw,si h⟩
theorem sA {a b:Expr}{op:CmpOp}{pos:Pos}{f:F2}{ga gb:GE}(ho:ej X (compareOp op) (rD X f))(ha:PE X a (tE X ga))(hb:PE X b (tE X gb))(hm:behindInMarks op b=false):PT X (.Compare a [op] [b] pos) (tT X (aJ (g2 f ga gb))):=
 (vT ho ha hb hm).of fun σ H Q h=>tX (z0 h)
def uQ (f f':F2)(ga gb gc:GE):GE:=fun ρ M=>(ga ρ M).bind fun x M1=>(gb ρ M1).bind fun y M2=>(f x y M2).bind fun z M3=>match z with
 | .bl true=>(gc ρ M3).bind fun w M4=>f' y w M4
 | .bl false=>.ok (.bl false) M3
 | _=>.bad
theorem Bc {f f':F2}{ga gb gc:GE}{σ:L2.St}{H:Hp}{Q:VK}(h:tE X (uQ f f' ga gb gc) σ H Q):sB (rD X f) (rD X f') (tE X ga) (tE X gb) (tE X gc) σ H Q:=by
 obtain⟨ρ,θ,M,hd,hw,h⟩:=h;refine bE hd hw (aH X θ H Q) (fun c M' h=>h) (fun h=>h) h fun dx M1 x θ1 H1 g1 r1 h1=>?_
 refine bE (hd.go g1) g1.wr (aH X θ1 H1 Q) (fun c M' h=>h) (fun h=>h) (h1.go g1) fun dy M2 y θ2 H2 g2 r2 h2=>?_
 refine⟨θ2,M2,dx,dy,g2.wr,r1.go g2,r2,?_⟩;have h3:=h2.go g2;cases q:f dx dy M2 with
 | ok z M3=>
  rw[q] at h3;intro v θ3 H3 g3 r3;cases z with
  | bl k=>
   refine⟨k,r3,?_⟩;cases k with
   | true=>
    rw[if_pos rfl];refine bE ((hd.go g1).go (g2.trans g3)) g3.wr (aH X θ3 H3 Q) (fun c M' h=>h) (fun h=>h) (h3.go g3) fun dw M4 w θ4 H4 g4 r4 h4=>?_
    exact⟨θ4,M4,dy,dw,g4.wr,r2.go (g3.trans g4),r4,h4.go g4⟩
   | false=>
    rw[if_neg Bool.false_ne_true];exact h3 _ θ3 H3 g3 rfl
  | _=>exact h3.elim
 | err c M3=>rw[q] at h3;exact h3
 | bad=>rw[q] at h3;exact h3
theorem uy {a b c:Expr}{op op':CmpOp}{pos:Pos}{f f':F2}{ga gb gc:GE}(ho:ej X (compareOp op) (rD X f))(ho':ej X (compareOp op') (rD X f'))(ha:PE X a (tE X ga))(hb:PE X b (tE X gb))(hc:PE X c (tE X gc))
  (hm:lastMarks [op,op'] [b,c]=false:=by with_unfolding_all rfl):PE X (.Compare a [op,op'] [b,c] pos) (tE X (uQ f f' ga gb gc)):=(tM ho ho' ha hb hc hm).of fun _ _ _ h=>Bc h
def cq (a b:GT):GT:=fun ρ M=>(a ρ M).bind fun c M1=>if c then b ρ M1 else .ok false M1
def fF (a b:GT):GT:=fun ρ M=>(a ρ M).bind fun c M1=>if c then .ok true M1 else b ρ M1
def eR (a:GT):GT:=fun ρ M=>(a ρ M).bind fun c M1=>.ok (!c) M1
theorem m7 {g:GT}{σ:L2.St}{H:Hp}{Q:Bool→Hp→Prop}{α:Type}{ρ:aZ}{θ:List Addr}{M:ax}(hd:fO X.K θ H σ ρ)(hw:Wr X.K θ H M)(F:aF α→Prop)(Fe:∀c M',F (.err c M')→cx X θ H c M')(Fb:F .bad→False)
  {f:Bool→ax→aF α} (h:F ((g ρ M).bind f)) (k:∀d M1 θ1 H1,Go X.K θ H θ1 H1 M1→F (f d M1)→Q d H1):tT X g σ H Q:=by
 refine⟨ρ,θ,M,hd,hw,?_⟩;cases q:g ρ M with
 | ok d M1=>
  rw[q] at h;exact fun θ1 H1 g1=>k d M1 θ1 H1 g1 h
 | err c M1=>rw[q] at h;exact Fe c M1 h
 | bad=>rw[q] at h;exact(Fb h).elim
variable {a b:Expr}{pos:Pos}{rest:List Expr}{ta tb:GT}{ga gb:GE}
theorem u4 (ha:PT X a (tT X ta)):PW X (.BoolOp .And [a] pos) (tT X ta):=wx ha
theorem yd (ha:PT X a (tT X ta)):PW X (.BoolOp .Or [a] pos) (tT X ta):=zi ha
theorem yW (ha:PT X a (tT X ta))(hb:PW X (.BoolOp .And (b::rest) pos) (tT X tb)):PW X (.BoolOp .And (a::b::rest) pos) (tT X (cq ta tb)):=(ze ha hb).of fun σ H Q hxx=>by
 obtain⟨ρ,θ,M,hd,hw,h⟩:=hxx;refine m7 hd hw (iw X θ H Q) (fun c M' h=>h) (fun h=>h) h fun c M1 θ1 H1 g1 h1=>?_
 cases c with
 | true=>exact⟨ρ,θ1,M1,hd.go g1,g1.wr,iw.go g1 h1⟩
 | false=>exact h1 θ1 H1 g1
theorem Bf (ha:PT X a (tT X ta))(hb:PW X (.BoolOp .Or (b::rest) pos) (tT X tb)):PW X (.BoolOp .Or (a::b::rest) pos) (tT X (fF ta tb)):=(Cd ha hb).of fun σ H Q hxx=>by
 obtain⟨ρ,θ,M,hd,hw,h⟩:=hxx;refine m7 hd hw (iw X θ H Q) (fun c M' h=>h) (fun h=>h) h fun c M1 θ1 H1 g1 h1=>?_
 cases c with
 | true=>exact h1 θ1 H1 g1
 | false=>exact⟨ρ,θ1,M1,hd.go g1,g1.wr,iw.go g1 h1⟩
theorem yn (ha:PT X a (tT X ta)):PT X (.UnaryOp .Not a pos) (tT X (eR ta)):=(yr ha).of fun σ H Q hxx=>by
 obtain⟨ρ,θ,M,hd,hw,h⟩:=hxx;exact m7 hd hw (iw X θ H Q) (fun c M' h=>h) (fun h=>h) h fun c M1 θ1 H1 g1 h1=>h1 θ1 H1 g1
def ag:GA:=fun _ M=>.ok [] M
def aa (g:GE)(r:GA):GA:=fun ρ M=>(g ρ M).bind fun d M1=>(r ρ M1).bind fun ds M2=>.ok (d::ds) M2
theorem gq {g:GA}{σ:L2.St}{H:Hp}{Q:List V→Hp→Prop}{α:Type}{ρ:aZ}{θ:List Addr}{M:ax}(hd:fO X.K θ H σ ρ)(hw:Wr X.K θ H M)(F:aF α→Prop)(Fe:∀c M',F (.err c M')→cx X θ H c M')(Fb:F .bad→False)
  {f:List D→ax→aF α} (h:F ((g ρ M).bind f)) (k:∀ds M1 vs θ1 H1,Go X.K θ H θ1 H1 M1→aR X.K θ1 H1 ds vs→F (f ds M1)→Q vs H1):tA X g σ H Q:=by
 refine⟨ρ,θ,M,hd,hw,?_⟩;cases q:g ρ M with
 | ok d M1=>
  rw[q] at h;exact fun v θ1 H1 g1 r1=>k d M1 v θ1 H1 g1 r1 h
 | err c M1=>rw[q] at h;exact Fe c M1 h
 | bad=>rw[q] at h;exact(Fb h).elim
theorem zA:PA X [] (tA X ag):=gF.of fun σ H Q ⟨ρ,θ,M,hd,hw,f⟩=>f [] θ H (.refl hw) rfl
theorem wf {es:List Expr}{gr:GA}(ha:PE X e (tE X ga))(hr:PA X es (tA X gr))(hs:starEach (e::es) X.env=(false,eval e X.env)::starEach es X.env:=by rfl):PA X (e::es) (tA X (aa ga gr)):=
 (eE ha hr hs).of fun σ H Q hxx=>by
  obtain⟨ρ,θ,M,hd,hw,h⟩:=hxx;refine bE hd hw (qZ X θ H Q) (fun c M' h=>h) (fun h=>h) h fun d M1 v θ1 H1 g1 r1 h1=>?_
  refine gq (hd.go g1) g1.wr (qZ X θ1 H1 Q) (fun c M' h=>h) (fun h=>h) (h1.go g1) fun ds M2 vs θ2 H2 g2 r2 h2=>?_
  exact h2 (v::vs) θ2 H2 g2 ⟨v,vs,rfl,r1.go g2,r2⟩
def jr (ds:List D)(M:ax):aF D:=if ds.length≤sizeLine then .ok (.tup ds) M else .bad
def aC (ds:List D)(M:ax):aF D:=if ds.length≤sizeLine then .ok (.lst ds) M else .bad
def b0 (ds:List D)(M:ax):aF D:=if ds.length≤sizeLine then .ok (.mr M.length) (M++[.lst ds]) else .bad
def fT (g:GA):GE:=fun ρ M=>(g ρ M).bind jr
def cY (g:GA):GE:=fun ρ M=>(g ρ M).bind aC
def jc (g:GA):GE:=fun ρ M=>(g ρ M).bind b0
theorem aH.tup {θ:List Addr}{H:Hp}{Q:VK}{ds:List D}{M:ax}{vs:List V}(h:aH X θ H Q (jr ds M))(hw:Wr X.K θ H M)(r:aR X.K θ H ds vs):vs.length≤sizeLine∧∀p,H p=none→Q (.ref p) (cK H p (.tup vs)):=by
 unfold jr at h
 by_cases hl:ds.length≤sizeLine
 ·rw[if_pos hl] at h;exact⟨by rw[←ar r];exact hl,fun p hp=>h _ θ _ (dO hw hp) (lC hw hp r)⟩
 ·rw[if_neg hl] at h;exact h.elim
theorem aH.lst {θ:List Addr}{H:Hp}{Q:VK}{ds:List D}{M:ax}{vs:List V}(h:aH X θ H Q (aC ds M))(hw:Wr X.K θ H M)(r:aR X.K θ H ds vs):vs.length≤sizeLine∧∀p,H p=none→Q (.ref p) (cK H p (.lst vs)):=by
 unfold aC at h
 by_cases hl:ds.length≤sizeLine
 ·rw[if_pos hl] at h;exact⟨by rw[←ar r];exact hl,fun p hp=>h _ θ _ (dO hw hp) (eC hw hp r)⟩
 ·rw[if_neg hl] at h;exact h.elim
theorem aH.mut {θ:List Addr}{H:Hp}{Q:VK}{ds:List D}{M:ax}{vs:List V}(h:aH X θ H Q (b0 ds M))(hw:Wr X.K θ H M)(r:aR X.K θ H ds vs):vs.length≤sizeLine∧∀p,H p=none→Q (.ref p) (cK H p (.lst vs)):=by
 unfold b0 at h
 by_cases hl:ds.length≤sizeLine
 ·rw[if_pos hl] at h;refine⟨by rw[←ar r];exact hl,fun p hp=>h _ (θ++[p]) _ (uD hw hp r) ⟨p,rfl,?_⟩⟩;rw[←hw.len,getElem?_append_right (Nat.le_refl _)];simp
 ·rw[if_neg hl] at h;exact h.elim
theorem yv {es:List Expr}{x1}{g:GA}(h:PA X es (tA X g)):PE X (.Tuple es x1 pos) (tE X (fT g)):=(yp h).of fun σ H Q ⟨ρ,θ,M,hd,hw,h⟩=>
 gq hd hw (aH X θ H Q) (fun c M' h=>h) (fun h=>h) h fun ds M1 vs θ1 H1 g1 r1 h1=>aH.tup (aH.go g1 h1) g1.wr r1
theorem zW {es:List Expr}{g:GA}(h:PA X es (tA X g)):PE X (.List es pos) (tE X (cY g)):=(uq h).of fun σ H Q ⟨ρ,θ,M,hd,hw,h⟩=>
 gq hd hw (aH X θ H Q) (fun c M' h=>h) (fun h=>h) h fun ds M1 vs θ1 H1 g1 r1 h1=>aH.lst (aH.go g1 h1) g1.wr r1
theorem zY {es:List Expr}{g:GA}(h:PA X es (tA X g)):PE X (.List es pos) (tE X (jc g)):=(uq h).of fun σ H Q ⟨ρ,θ,M,hd,hw,h⟩=>
 gq hd hw (aH X θ H Q) (fun c M' h=>h) (fun h=>h) h fun ds M1 vs θ1 H1 g1 r1 h1=>aH.mut (aH.go g1 h1) g1.wr r1
end
section
variable {K:W.Frag}{θ:List Addr}{H:Hp}{σ:L2.St}{ρ:aZ}
theorem fO.set {d:D}{v:V}(h:fO K θ H σ ρ)(r:cX K θ H d v)(i:Nat):fO K θ H (σ.set i (some v)) (ρ.set i (some d)):=by
 refine⟨by rw[length_set,length_set];exact h.len,fun j d' e=>?_⟩
 by_cases hj:j=i
 ·subst hj;have hl:j<ρ.length:=by
   have:=(List.getElem?_eq_some_iff.mp e).1;rw[length_set] at this;exact this
  rw[getElem?_set_self hl] at e;have e':d=d':=by simpa using e
  subst e';exact⟨v,getElem?_set_self (by rw[←h.len];exact hl),r⟩
 ·rw[getElem?_set_ne (Ne.symm hj)] at e;obtain⟨u,e1,r1⟩:=h.at_ j d' e;exact⟨u,by rw[getElem?_set_ne (Ne.symm hj)];exact e1,r1⟩
end
def a9:GS:=fun ρ M=>.ok (.nx ρ) M
def aj (a b:GS):GS:=fun ρ M=>(a ρ M).bind fun f M1=>match f with
 | .nx ρ1=>b ρ1 M1
 | .rt d=>.ok (.rt d) M1
 | .bk ρ1=>.ok (.bk ρ1) M1
 | .ct ρ1=>.ok (.ct ρ1) M1
def aw (i:Nat)(g:GE):GS:=fun ρ M=>(g ρ M).bind fun d M1=>.ok (.nx (ρ.set i (some d))) M1
def bF (g:GE):GS:=fun ρ M=>(g ρ M).bind fun d M1=>.ok (.rt d) M1
def dj (g:GE):GS:=fun ρ M=>(g ρ M).bind fun _ M1=>.ok (.nx ρ) M1
def fc (t:GT)(a b:GS):GS:=fun ρ M=>(t ρ M).bind fun c M1=>if c then a ρ M1 else b ρ M1
section
variable {X:Cx}{st:Stmt}{rest:List Stmt}{e:Expr}{g:GE}{t u:GS}{pos:Pos}
theorem yg:PSs X [] (tS X a9):=vp.of fun D σ H ⟨ρ,θ,M,hd,hw,f⟩=>f σ θ H (.refl hw) hd
theorem wL (h1:PS X st (tS X t))(h2:PSs X rest (tS X u)):PSs X (st::rest) (tS X (aj t u)):=(rS h1 h2).of fun D σ H hxx=>by
 obtain⟨ρ,θ,M,hd,hw,h⟩:=hxx;refine⟨ρ,θ,M,hd,hw,?_⟩;unfold aj at h;cases q:t ρ M with
 | ok f M1=>
  rw[q] at h;cases f with
  | nx ρ1=>exact fun σ1 θ1 H1 g1 d1=>⟨ρ1,θ1,M1,d1,g1.wr,bB.go g1 h⟩
  | rt d=>exact h
  | bk ρ1=>exact h
  | ct ρ1=>exact h
 | err c M1=>rw[q] at h;exact h
 | bad=>rw[q] at h;exact h
theorem yj (h1:PS X st (tS X t)):PSs X [st] (tS X t):=vn h1
theorem yo {i:Nat}{x:Str}{pos':Pos}(hN:X.N.Nodup)(hi:X.N[i]?=some x)(hx:ny X.env.scope x)(he:PE X e (tE X g))(hs:swapsWith e (some (.Name x pos')) pos.line X.env=pure false:=by rfl)(hf:X.fn x=true∨X.env.scope.names.lookup x=some .local:=by first|exact .inl rfl|exact .inr rfl|assumption) :
  PS X (.Assign [.Name x pos'] e pos) (tS X (aw i g)):=(Aq hN hi hx he hs hf).of fun D σ H ⟨ρ,θ,M,hd,hw,h⟩=>
 bE hd hw (bB X θ H D) (fun c M' h=>h) (fun h=>h) h fun d M1 v θ1 H1 g1 r1 h1=>h1 _ θ1 H1 g1 ((hd.go g1).set r1 i)
theorem z7 (he:PE X e (tE X g)):PS X (.Return (some e) pos) (tS X (bF g)):=(yt he).of fun D σ H ⟨ρ,θ,M,hd,hw,h⟩=>
 bE hd hw (bB X θ H D) (fun c M' h=>h) (fun h=>h) h fun d M1 v θ1 H1 g1 r1 h1=>h1 v θ1 H1 g1 r1
theorem ve (he:PE X e (tE X g))(hs:swapsWith e none pos.line X.env=pure false:=by rfl):PS X (.Expr e pos) (tS X (dj g)):=(wt he hs).of fun D σ H ⟨ρ,θ,M,hd,hw,h⟩=>
 bE hd hw (bB X θ H D) (fun c M' h=>h) (fun h=>h) h fun d M1 v θ1 H1 g1 r1 h1=>h1 σ θ1 H1 g1 (hd.go g1)
theorem B8 {c:Expr}{a b:List Stmt}{tc:GT}(hc:PT X c (tT X tc))(ha:PSs X a (tS X t))(hb:PSs X b (tS X u)):PS X (.If c a b pos) (tS X (fc tc t u)):=(CJ hc ha hb).of fun D σ H hxx=>by
 obtain⟨ρ,θ,M,hd,hw,h⟩:=hxx;refine m7 hd hw (bB X θ H D) (fun c M' h=>h) (fun h=>h) h fun c M1 θ1 H1 g1 h1=>?_
 cases c with
 | true=>rw[if_pos rfl];exact⟨ρ,θ1,M1,hd.go g1,g1.wr,bB.go g1 h1⟩
 | false=>rw[if_neg Bool.false_ne_true];exact⟨ρ,θ1,M1,hd.go g1,g1.wr,bB.go g1 h1⟩
abbrev GG:=D→aZ→Option aZ
def tG (X:Cx)(s:GG):TG:=fun v σ H Q=>∃ρ θ M d,fO X.K θ H σ ρ∧Wr X.K θ H M∧cX X.K θ H d v∧∃ρ',s d ρ=some ρ'∧∀σ',fO X.K θ H σ' ρ'→Q σ' H
def cw (i:Nat):GG:=fun d ρ=>some (ρ.set i (some d))
def fW:List Nat→List D→aZ→Option aZ
 | [],[],ρ=>some ρ
 | i::is,d::ds,ρ=>fW is ds (ρ.set i (some d))
 | _,_,_=>none
def jY (is:List Nat):GG:=fun d ρ=>match d with
 | .tup ds=>fW is ds ρ
 | _=>none
theorem lL {i:Nat}{x:Str}(hN:X.N.Nodup)(hi:X.N[i]?=some x)(hx:ny X.env.scope x)(hf:X.fn x=true∨X.env.scope.names.lookup x=some .local:=by first|exact .inl rfl|exact .inr rfl|assumption):PG X (.Name x pos) (tG X (cw i)):=by
 intro ae s σ H v u Q I r h;obtain⟨ρ,θ,M,d,hd,hw,rd,ρ',e,h⟩:=h;cases e;exact xj hN hi hx hf ae s σ H v u Q I r (h _ (hd.set rd i))
def CA (X:Cx)(is:List Nat):xH:=fun vs σ H Q=>∃ρ θ M ds,fO X.K θ H σ ρ∧Wr X.K θ H M∧aR X.K θ H ds vs∧∃ρ',fW is ds ρ=some ρ'∧∀σ',fO X.K θ H σ' ρ'→Q σ' H
theorem wn:vq X [] (CA X []):=by
 intro ae s σ H vs us Q I r h;obtain⟨ρ,θ,M,ds,hd,hw,rd,ρ',e,h⟩:=h;cases ds with
 | cons d ds=>cases e
 | nil=>
  have e2:vs=[]:=rd;subst e2;cases e;exact wI ae s σ H [] us Q I r ⟨rfl,h σ hd⟩
theorem sI {i:Nat}{is:List Nat}{es:List Expr}(h1:PG X e (tG X (cw i)))(h2:vq X es (CA X is))
  (hs:(assignEach (e::es) X.env).map (·.2)=assign e X.env::(assignEach es X.env).map (·.2):=by rfl):vq X (e::es) (CA X (i::is)):=by
 intro ae s σ H vs us Q I r h;obtain⟨ρ,θ,M,ds,hd,hw,rd,ρ',e1,h⟩:=h;cases ds with
 | nil=>cases e1
 | cons d ds=>
  obtain⟨v,vr,e2,rv,rr⟩:=rd;subst e2;refine uI h1 h2 hs ae s σ H _ us Q I r ⟨v,vr,rfl,ρ,θ,M,d,hd,hw,rv,_,rfl,fun σ1 d1=>?_⟩;exact⟨_,θ,M,ds,d1,hw,rr,ρ',e1,h⟩
theorem zJ {is:List Nat}{es:List Expr}{k:Nat}{n:Nat}(hc:X.calm=true)(h:vq X es (CA X is))(hl:is.length=n:=by rfl)
  (hn:(assignEach es X.env).length=n:=by rfl) (hst:(assignEach es X.env).findIdx? (·.1)=none:=by rfl):PG X (.Tuple es k pos) (tG X (jY is)):=by
 intro ae s σ H v u Q I r hw;obtain⟨ρ,θ,M,d,hd,hwr,rd,ρ',e1,hw⟩:=hw;cases d with
 | tup ds=>
  obtain⟨a,vs,e2,ta,rs⟩:=rd;have hlen:ds.length=is.length:=by
   have e1:fW is ds ρ=some ρ':=e1;clear hw hd hwr rs hn hst h hl
   induction is generalizing ds ρ with
   | nil=>
    cases ds with
    | nil=>rfl
    | cons _ _=>cases e1
   | cons i is ih=>
    cases ds with
    | nil=>cases e1
    | cons d ds=>rw[length_cons,length_cons,ih _ ds e1 e1]
  refine z4 (n:=n) hc h hn hst ae s σ H v u Q I r ⟨a,vs,e2,ta.sq,by rw[←ar rs,hlen,hl],?_⟩;exact⟨ρ,θ,M,ds,hd,hwr,rs,ρ',e1,hw⟩
 | _=>cases e1
def oF:List GG→List D→aZ→Option aZ
 | [],[],ρ=>some ρ
 | s::ss,d::ds,ρ=>match s d ρ with
  | some ρ1=>oF ss ds ρ1
  | none=>none
 | _,_,_=>none
def jL (s:GG)(g:GE):GS:=fun ρ M=>(g ρ M).bind fun d M1=>match s d ρ with
 | some ρ1=>.ok (.nx ρ1) M1
 | none=>.bad
theorem yG {tg:Expr}{s:GG}(he:PE X e (tE X g))(hg:PG X tg (tG X s))(hs:swapsWithSole [tg] e pos.line X.env=pure false:=by rfl)(hw:swappedStores [tg] e X.env=pure none:=by rfl)
  (h1:(assignEach [tg] X.env).map (·.2)=[assign tg X.env]:=by rfl):PS X (.Assign [tg] e pos) (tS X (jL s g)):=(s9 he hg hs hw h1).of fun D σ H hxx=>by
 obtain⟨ρ,θ,M,hd,hwr,h⟩:=hxx;refine bE hd hwr (bB X θ H D) (fun c M' h=>h) (fun h=>h) h fun d M1 v θ1 H1 g1 r1 h1=>?_
 cases q:s d ρ with
 | some ρ1=>
  rw[q] at h1;exact⟨ρ,θ1,M1,d,hd.go g1,g1.wr,r1,ρ1,q,fun σ' d'=>h1 σ' θ1 H1 g1 d'⟩
 | none=>rw[q] at h1;exact h1.elim
def rK (o i x:D)(M:ax):aF Unit:=match o,i with
 | .mr k,.int j=>match M[k]? with
  | some (.lst xs)=>match nW xs.length j with
   | some n=>.ok () (M.set k (.lst (xs.set n x)))
   | none=>.bad
  | _=>.bad
 | _,_=>.bad
def i9 (go gi g:GE):GS:=fun ρ M=>(g ρ M).bind fun x M1=>(go ρ M1).bind fun o M2=>(gi ρ M2).bind fun i M3=>(rK o i x M3).bind fun _ M4=>.ok (.nx ρ) M4
theorem Af {o i:Expr}{ip:Pos}{go gi:GE}(he:PE X e (tE X g))(ho:PE X o (tE X go))(hi:PE X i (tE X gi))
  (ha:∀v,assign (.Subscript o i ip) X.env v=(do
   let ov ←holding [v] (eval o X.env)
   let iv ←holding [v,ov] (eval i X.env)
   standAt ip
   holding [v,ov,iv] (setItem ov iv v)
   release [v,ov,iv] []):=by intro _;rfl)
  (hs:swapsWithSole [.Subscript o i ip] e pos.line X.env=pure false:=by rfl) (hw:swappedStores [.Subscript o i ip] e X.env=pure none:=by rfl)
  (h1:(assignEach [.Subscript o i ip] X.env).map (·.2)=[assign (.Subscript o i ip) X.env]:=by rfl):PS X (.Assign [.Subscript o i ip] e pos) (tS X (i9 go gi g)):=
 (s9 he (xK ho hi ux ha) hs hw h1).of fun D σ H hxx=>by
  obtain⟨ρ,θ,M,hd,hwr,h⟩:=hxx;refine bE hd hwr (bB X θ H D) (fun c M' h=>h) (fun h=>h) h fun dx M1 vx θ1 H1 g1 r1 h1=>?_
  refine bE (hd.go g1) g1.wr (bB X θ1 H1 D) (fun c M' h=>h) (fun h=>h) (h1.go g1) fun dob M2 vo θ2 H2 g2 r2 h2=>?_
  refine bE ((hd.go g1).go g2) g2.wr (bB X θ2 H2 D) (fun c M' h=>h) (fun h=>h) (h2.go g2) fun di M3 vi θ3 H3 g3 r3 h3=>?_
  have h4:=h3.go g3;unfold rK at h4;split at h4
  ·rename_i k j;split at h4
   ·rename_i xs q;split at h4
    ·rename_i n hn;obtain⟨a,ea,ta⟩:=r2.go g3;obtain⟨vs,ev,rv⟩:=g3.wr.at_ k a _ ta q;have ei:vi=.int j:=r3;refine⟨a,vs,j,n,ea,ei,ev,by rw[←ar rv];exact hn,?_⟩;have gs:=lS (ds:=xs) g3.wr ta (mL (r1.go (g2.trans g3)) n rv);exact h4 σ θ3 _ gs ((((hd.go g1).go g2).go g3).go gs)
    ·exact h4.elim
   ·exact h4.elim
  ·exact h4.elim
end
mutual
def yQ:D→D→Bool
 | .non,.non=>true
 | .bl a,.bl b=>a==b
 | .int a,.int b=>a==b
 | .str a,.str b=>a==b
 | .tup a,.tup b=>iS a b
 | .lst a,.lst b=>iS a b
 | .ro a,.ro b=>iS a b
 | .mr a,.mr b=>a==b
 | .exc a,.exc b=>a==b
 | .any,.any=>true
 | _,_=>false
def iS:List D→List D→Bool
 | [],[]=>true
 | a::as,b::bs=>yQ a b&&iS as bs
 | _,_=>false
end
theorem ff {P:Prop}(h:false=true):P:=absurd h Bool.false_ne_true
mutual
theorem wq:∀(a b:D),yQ a b=true→a=b
 | .non,b,h=>by
  cases b with
  | non=>rfl
  | _=>exact ff h
 | .bl x,b,h=>by
  cases b with
  | bl y=>rw[eq_of_beq (show(x==y)=true from h)]
  | _=>exact ff h
 | .int x,b,h=>by
  cases b with
  | int y=>rw[eq_of_beq (show(x==y)=true from h)]
  | _=>exact ff h
 | .str x,b,h=>by
  cases b with
  | str y=>rw[eq_of_beq (show(x==y)=true from h)]
  | _=>exact ff h
 | .tup x,b,h=>by
  cases b with
  | tup y=>rw[fN x y h]
  | _=>exact ff h
 | .lst x,b,h=>by
  cases b with
  | lst y=>rw[fN x y h]
  | _=>exact ff h
 | .ro x,b,h=>by
  cases b with
  | ro y=>rw[fN x y h]
  | _=>exact ff h
 | .mr x,b,h=>by
  cases b with
  | mr y=>rw[eq_of_beq (show(x==y)=true from h)]
  | _=>exact ff h
 | .exc x,b,h=>by
  cases b with
  | exc y=>rw[eq_of_beq (show(x==y)=true from h)]
  | _=>exact ff h
 | .any,b,h=>by
  cases b with
  | any=>rfl
  | _=>exact ff h
theorem fN:∀(a b:List D),iS a b=true→a=b
 | [],b,h=>by
  cases b with
  | nil=>rfl
  | cons _ _=>exact ff h
 | x::xs,b,h=>by
  cases b with
  | nil=>exact ff h
  | cons y ys=>
   have h:=Bool.and_eq_true_iff.mp (show(yQ x y&&iS xs ys)=true from h);rw[wq x y h.1,fN xs ys h.2]
end
structure j9 where
 ds:List D
 m:Option Nat
def j9.ok (t:j9)(M:ax):Bool:=match t.m with
 | none=>true
 | some i=>match M[i]? with
  | some (.lst xs)=>iS xs t.ds
  | _=>false
abbrev GI:=aZ→ax→aF j9
def uR (K:W.Frag)(J:It)(θ:List Addr)(H:Hp)(t:j9):Prop:=∀θ1 H1 M1,Go K θ H θ1 H1 M1→t.ok M1=true→∀i:Nat,
 (∀d,t.ds[i]?=some d→J.go i H1∧∀x H2,J.yld i H1 x H2→Go K θ1 H1 θ1 H2 M1∧cX K θ1 H2 d x)∧(t.ds.length≤i→J.stop i H1)
def qD (X:Cx)(θ:List Addr)(H:Hp)(R:It→Hp→Prop):aF j9→Prop
 | .ok t M'=>∀J θ' H',Go X.K θ H θ' H' M'→uR X.K J θ' H' t→R J H'
 | .err c M'=>cx X θ H c M'
 | .bad=>False
def tI (X:Cx)(g:GI):TI:=fun σ H R=>∃ρ θ M,fO X.K θ H σ ρ∧Wr X.K θ H M∧qD X θ H R (g ρ M)
def kP (d:D)(M:ax):aF j9:=match d with
 | .lst ds=>.ok ⟨ds,none⟩ M
 | .ro ds=>.ok ⟨ds,none⟩ M
 | .tup ds=>.ok ⟨ds,none⟩ M
 | .mr k=>match M[k]? with
  | some (.lst ds)=>.ok ⟨ds,some k⟩ M
  | _=>.bad
 | _=>.bad
section
variable {X:Cx}{tg:Expr}
theorem oN {K:W.Frag}{θ:List Addr}{H:Hp}{a:Addr}{ds:List D}{vs:List V}(ta:ly K θ H a vs)(r:aR K θ H ds vs):uR K (C1 K a) θ H ⟨ds,none⟩:=by
 intro θ1 H1 M1 g _ i;have t1:=(ta.grow g.toGrow).sq;have r1:=r.go g;refine⟨fun d e=>?_,fun hl=>⟨vs,t1,by rw[←ar r1];exact hl⟩⟩;obtain⟨v,e1,rv⟩:=dm r1 e;refine⟨⟨vs,v,t1,e1⟩,fun x H2 y=>?_⟩;obtain⟨eH,y⟩:=y;subst eH;have e2:=y vs t1;rw[e1] at e2;cases e2;exact⟨.refl g.wr,rv⟩
theorem vc {K:W.Frag}{θ:List Addr}{H:Hp}{a:Addr}{ds:List D}{vs:List V}(ta:jh K θ H a vs)(r:aR K θ H ds vs):uR K (D6 K a) θ H ⟨ds,none⟩:=by
 intro θ1 H1 M1 g _ i;have t1:=(ta.grow g.toGrow).sq;have r1:=r.go g;refine⟨fun d e=>?_,fun hl=>⟨vs,t1,by rw[←ar r1];exact hl⟩⟩;obtain⟨v,e1,rv⟩:=dm r1 e;refine⟨⟨vs,v,t1,e1⟩,fun x H2 y=>?_⟩;obtain⟨eH,y⟩:=y;subst eH;have e2:=y vs t1;rw[e1] at e2;cases e2;exact⟨.refl g.wr,rv⟩
theorem vY {K:W.Frag}{θ:List Addr}{H:Hp}{a:Addr}{ds:List D}{k:Nat}(ta:θ[k]?=some a):uR K (C1 K a) θ H ⟨ds,some k⟩:=by
 intro θ1 H1 M1 g hok i;have t1:θ1[k]?=some a:=by
  obtain⟨m,em,_⟩:=g.ext;rw[em,getElem?_append_left (List.getElem?_eq_some_iff.mp ta).1];exact ta
 have hok':(match M1[k]? with|some (.lst xs)=>iS xs ds|_=>false)=true:=hok;cases q:M1[k]? with
 | none=>rw[q] at hok';cases hok'
 | some m=>
  cases m with
  | lst xs=>
   rw[q] at hok';have e:xs=ds:=fN xs ds hok';subst e;obtain⟨vs,hv,r1⟩:=g.wr.at_ k a _ t1 q;have s1:iZ K H1 a vs:=.inl (.inl hv);refine⟨fun d e=>?_,fun hl=>⟨vs,s1,by rw[←ar r1];exact hl⟩⟩;obtain⟨v,e1,rv⟩:=dm r1 e;refine⟨⟨vs,v,s1,e1⟩,fun x H2 y=>?_⟩;obtain⟨eH,y⟩:=y;subst eH;have e2:=y vs s1;rw[e1] at e2;cases e2;exact⟨.refl g.wr,rv⟩
  | _=>rw[q] at hok';cases hok'
def aN (lo:Int)(n:Nat):List D:=(List.range n).map fun(k:Nat)=>D.int (lo+(k:Int))
theorem pw {K:W.Frag}{θ:List Addr}{H:Hp}(lo:Int)(n:Nat):uR K (B4 lo n) θ H ⟨aN lo n,none⟩:=by
 intro θ1 H1 M1 g _ i;refine⟨fun d e=>?_,fun hl=>?_⟩
 ·have hi:i<n:=by
   have:=(List.getElem?_eq_some_iff.mp e).1;simpa[aN] using this
  refine⟨hi,fun x H2 y=>?_⟩;obtain⟨eH,y⟩:=y;subst eH;refine⟨.refl g.wr,?_⟩;have e':D.int (lo+(i:Int))=d:=by
   have:(aN lo n)[i]?=some (D.int (lo+(i:Int))):=by simp[aN,hi]
   rw[this] at e;exact Option.some.inj e
  subst e';exact y
 ·have h2:(aN lo n).length≤i:=hl;have h3:n≤i:=by simpa[aN] using h2
  exact h3
def sH (ds:List D)(M:ax):aF j9:=match ds with
 | [.int j]=>if -(2 ^ 62)≤j∧j<2 ^ 62 then .ok ⟨aN 0 j.toNat,none⟩ M else .bad
 | _=>.bad
def xc (ds:List D)(M:ax):aF j9:=match ds with
 | [.int i,.int j]=>if -(2 ^ 62)≤i∧i<2 ^ 62∧-(2 ^ 62)≤j∧j<2 ^ 62 then .ok ⟨aN i (j-i).toNat,none⟩ M else .bad
 | _=>.bad
def cQ (g:GA):GI:=fun ρ M=>(g ρ M).bind sH
def dR (g:GA):GI:=fun ρ M=>(g ρ M).bind xc
theorem p8 {a:Expr}{g:GA}{p pos:Pos}(hg:Gl X "range")(hm:X.mg "range"=none)(ha:PA X [a] (tA X g))(hs:starEach [a] X.env=[(false,eval a X.env)]:=by rfl):PI X tg (.Call (.Name "range" p) [a] [] pos) (tI X (cQ g)):=by
 intro ae s σ H R I h;refine rG hg hm ha hs ae s σ H R I ?_;obtain⟨ρ,θ,M,hd,hw,h⟩:=h;refine gq hd hw (qD X θ H R) (fun c M' h=>h) (fun h=>h) h fun ds M1 vs θ1 H1 g1 r1 h1=>?_
 unfold sH at h1;split at h1
 ·rename_i j;obtain⟨v,r,e,rv,rr⟩:=r1;have e2:r=[]:=rr;have e3:v=.int j:=rv;subst e2;subst e3;split at h1
  ·rename_i hj;exact⟨j,e,hj.1,hj.2,h1 _ θ1 H1 g1 (pw 0 j.toNat)⟩
  ·exact h1.elim
 ·exact h1.elim
theorem qI {a b:Expr}{g:GA}{p pos:Pos}(hg:Gl X "range")(hm:X.mg "range"=none)(ha:PA X [a,b] (tA X g))(hs:starEach [a,b] X.env=[(false,eval a X.env),(false,eval b X.env)]:=by rfl)(hs2:starEach [b] X.env=[(false,eval b X.env)]:=by rfl):PI X tg (.Call (.Name "range" p) [a,b] [] pos) (tI X (dR g)):=by
 intro ae s σ H R I h;refine qy hg hm ha hs hs2 ae s σ H R I ?_;obtain⟨ρ,θ,M,hd,hw,h⟩:=h;refine gq hd hw (qD X θ H R) (fun c M' h=>h) (fun h=>h) h fun ds M1 vs θ1 H1 g1 r1 h1=>?_
 unfold xc at h1;split at h1
 ·rename_i i j;obtain⟨v,r,e,rv,v2,r2,e4,rv2,rr⟩:=r1;have e2:r2=[]:=rr;have e3:v=.int i:=rv;have e5:v2=.int j:=rv2;subst e2;subst e3;subst e5;subst e4;split at h1
  ·rename_i hj;exact⟨i,j,e,hj,h1 _ θ1 H1 g1 (pw i (j-i).toNat)⟩
  ·exact h1.elim
 ·exact h1.elim
def b8 (t:j9)(s:GG)(body:GS):List D→aZ→ax→aF Fl
 | [],ρ,M=>if t.ok M then .ok (.nx ρ) M else .bad
 | d::r,ρ,M=>if t.ok M then
   match s d ρ with
   | none=>.bad
   | some ρ1=>(body ρ1 M).bind fun f M1=>match f with
    | .nx ρ2=>b8 t s body r ρ2 M1
    | .ct ρ2=>b8 t s body r ρ2 M1
    | .bk ρ2=>.ok (.nx ρ2) M1
    | .rt d=>.ok (.rt d) M1
  else .bad
def ij (gi:GI)(s:GG)(body:GS):GS:=fun ρ M=>(gi ρ M).bind fun t M1=>b8 t s body t.ds ρ M1
theorem yV {iter:Expr}{body:List Stmt}{gi:GI}{sg:GG}{gb:GS}{pos:Pos}(hp:PassesOwn (model X.prog X.w) X.A X.env X.xe)(hc:X.calm=true)(hi:PI X tg iter (tI X gi))(hg:PG X tg (tG X sg))(hb:PSs X body (tS X gb))
  (hs:∀x,foldedSetIterable iter X.env x=pure x:=by intro _;rfl):PS X (.For tg iter body [] pos) (tS X (ij gi sg gb)):=(zz hp hc hi hg hb hs).of fun D σ H hxx=>by
 obtain⟨ρ,θ,M,hd,hw,h⟩:=hxx;refine⟨ρ,θ,M,hd,hw,?_⟩;unfold ij at h;cases q:gi ρ M with
 | err c M1=>rw[q] at h;exact h
 | bad=>rw[q] at h;exact h
 | ok t M1=>
  rw[q] at h;intro J θ1 H1 g1 hJ;have h:bB X θ H D (b8 t sg gb t.ds ρ M1):=h;refine⟨fun i m σ' H'=>m=t.ds.length-i∧i≤t.ds.length∧∃ρ' θ' M',Go X.K θ1 H1 θ' H' M'∧fO X.K θ' H' σ' ρ'∧bB X θ' H' D (b8 t sg gb (t.ds.drop i) ρ' M'),
   ⟨t.ds.length,by simp,Nat.zero_le _,ρ,θ1,M1,.refl g1.wr,hd.go g1,bB.go g1 h⟩,?_⟩
  rintro i m σ' H' ⟨rfl,hil,ρ',θ',M',g',hd',h'⟩
  by_cases hok:t.ok M'=true
  ·obtain⟨hy,hst⟩:=hJ θ' H' M' g' hok i
   by_cases hlt:i<t.ds.length
   ·refine .inr ?_;have e1:t.ds[i]?=some t.ds[i]:=getElem?_eq_getElem hlt;obtain⟨hgo,hyl⟩:=hy _ e1;rw[drop_eq_getElem_cons hlt,b8,if_pos hok] at h';refine⟨hgo,fun σ2 H2=>∃ρ2 θ2 M2,Go X.K θ' H' θ2 H2 M2∧fO X.K θ2 H2 σ2 ρ2∧bB X θ2 H2 D (b8 t sg gb (t.ds.drop (i+1)) ρ2 M2),fun σ2 H2 ⟨ρ2,θ2,M2,g2,d2,h2⟩=>?_,fun x H2 y=>?_⟩
    ·exact⟨t.ds.length-(i+1),by omega,rfl,hlt,ρ2,θ2,M2,g'.trans g2,d2,h2⟩
    ·obtain⟨gy,rx⟩:=hyl x H2 y;cases qs:sg t.ds[i] ρ' with
     | none=>rw[qs] at h';exact h'.elim
     | some ρ1=>
      rw[qs] at h';refine⟨ρ',θ',M',_,hd'.go gy,gy.wr,rx,ρ1,qs,fun σ1 d1=>⟨ρ1,θ',M',d1,gy.wr,?_⟩⟩;have h':bB X θ' H2 D ((gb ρ1 M').bind _):=bB.go gy h';cases qb:gb ρ1 M' with
      | err c M2=>rw[qb] at h';exact h'
      | bad=>rw[qb] at h';exact h'
      | ok f M2=>
       rw[qb] at h';cases f with
       | nx ρ2=>exact fun σ2 θ2 H3 g2 d2=>⟨ρ2,θ2,M2,gy.trans g2,d2,bB.go g2 h'⟩
       | ct ρ2=>exact fun σ2 θ2 H3 g2 d2=>⟨ρ2,θ2,M2,gy.trans g2,d2,bB.go g2 h'⟩
       | bk ρ2=>exact h'
       | rt d=>exact h'
   ·have e:i=t.ds.length:=by omega
    subst e;rw[drop_length,b8,if_pos hok] at h';exact .inl ⟨hst (Nat.le_refl _),h' σ' θ' H' (.refl g'.wr) hd'⟩
  ·have hz:bB X θ' H' D .bad:=by
    cases hdr:t.ds.drop i with
    | nil=>rw[hdr,b8,if_neg hok] at h';exact h'
    | cons d r=>rw[hdr,b8,if_neg hok] at h';exact h'
   exact hz.elim
end
def z9 (K:W.Frag)(θ:List Addr)(H:Hp)(E:XK)(c:Str)(M:ax):Prop:=∀C θ' H' a,jx K c C→Go K θ H θ' H' M→E (.ref C) (some a) H'
def sT (K:W.Frag)(θ:List Addr)(H:Hp)(Q:VK)(E:XK):aF D→Prop
 | .ok d M'=>∀v θ' H',Go K θ H θ' H' M'→cX K θ' H' d v→Q v H'
 | .err c M'=>z9 K θ H E c M'
 | .bad=>False
abbrev FD:=List D→ax→aF D
def oA (K:W.Frag)(n:Nat)(F:FD):Sp:=fun vs H Q E=>∃θ M ds,ds.length=n∧aR K θ H ds vs∧Wr K θ H M∧sT K θ H Q E (F ds M)
theorem vF {K:W.Frag}{n:Nat}{F:FD}{ps:List Str}(hn:ps.length=n):∀vs H Q E,oA K n F vs H Q E→vs.length=ps.length:=fun vs H Q E ⟨θ,M,ds,hl,r,_⟩=>by rw[hn,←hl,ar r]
def iI (k:Nat)(ds:List D):aZ:=ds.map some++List.replicate k none
def aT (o:aF Fl):aF D:=o.bind fun f M=>match f with
 | .rt d=>.ok d M
 | .nx _=>.ok .non M
 | _=>.bad
def cH (k:Nat)(g:GS):FD:=fun ds M=>aT (g (iI k ds) M)
theorem Eh {K:W.Frag}{θ:List Addr}{H:Hp}{ds:List D}{vs:List V}(r:aR K θ H ds vs)(N:List Str):fO K θ H (L2.start N vs) (iI (N.length-vs.length) ds):=by
 have hl:=ar r;refine⟨by simp[L2.start,iI,hl],fun i d e=>?_⟩;unfold iI at e
 by_cases hi:i<ds.length
 ·rw[getElem?_append_left (by simpa using hi),getElem?_map] at e;cases q:ds[i]? with
  | none=>rw[q] at e;cases e
  | some d'=>
   rw[q] at e;have e':d'=d:=by simpa using e
   subst e';obtain⟨v,e1,rv⟩:=dm r q;refine⟨v,?_,rv⟩;unfold L2.start;rw[getElem?_append_left (by rw[length_map,←hl];exact hi),getElem?_map,e1];rfl
 ·rw[getElem?_append_right (by simpa using hi),getElem?_replicate] at e;split at e <;> cases e
section
variable {P:Program}{w:World}{K:W.Frag}{mg:Str→Option Value}{base:Heap}
theorem Ee {x qual:Str}{st:Stmt}{f:Addr}{fd:FuncData}{N ps:List Str}{k n:Nat}{g:GS}(F:yL K x qual st f fd)(S:gf N ps (bc st))(hn:ps.length=n)
  (hbody:∀(cdv:Value) (A:Around) (outer:List Env) (s:Shared) (H:Hp) (E:XK),ck k (A.deeper (envOfC qual (bc st) s.heap.objs.size f cdv))→
   PSs (hZ (iX P w) P w K mg base N qual (bc st) f cdv A outer s H E) (dg st) (tS (hZ (iX P w) P w K mg base N qual (bc st) f cdv A outer s H E) g)) :
  eW P w K mg base (iX P w) (k+1) f fd ps (oA K n (cH (N.length-n) g)):=by
 obtain⟨oc,od,kV,doc,pm,an,cdv,ct,osl,rfl,lk,hcd⟩:=F.ex;refine AZ lk hcd S (vF hn) fun A outer s H vs Q E hr h=>⟨_,hbody cdv A outer s H E hr,?_⟩
 obtain⟨θ,M,ds,hl,r,hw,h⟩:=h;have hv:vs.length=n:=by rw[←ar r];exact hl
 refine⟨iI (N.length-n) ds,θ,M,by rw[←hv];exact Eh r N,hw,?_⟩;have h:sT K θ H Q E (aT (g (iI (N.length-n) ds) M)):=h;unfold aT at h;cases q:g (iI (N.length-n) ds) M with
 | bad=>rw[q] at h;exact h
 | err c M1=>
  rw[q] at h;have h:z9 K θ H E c M1:=h;exact fun C θ' H' a s' kC g1 fl=>oe fl (h C θ' H' a kC g1)
 | ok fl M1=>
  rw[q] at h;cases fl with
  | rt d=>exact h
  | nx ρ1=>exact fun σ1 θ1 H1 g1 _=>h .non θ1 H1 g1 rfl
  | bk ρ1=>exact h.elim
  | ct ρ1=>exact h.elim
end
section
variable {X:Cx}{e:Expr}{es:List Expr}{x:Str}{p pos:Pos}{k n:Nat}{f:Addr}{fd:FuncData}{ps:List Str}{F:FD}{ga:GA}
def av (n:Nat)(F:FD)(ga:GA):GE:=fun ρ M=>(ga ρ M).bind fun ds M1=>if ds.length=n then F ds M1 else .bad
def CB (X:Cx):XK:=fun cls oa H'=>∃a C c θ M,oa=some a∧cls=.ref C∧jx X.K c C∧Wr X.K θ H' M∧cx X θ H' c M
theorem mY:n6 (iX X.prog X.w) X (CB X):=fun ae σ H s e s' I h=>by
 obtain⟨a,C,H',rfl,fl,a',C',c,θ,M,e1,e2,kC,hw,ok⟩:=p7 I h;cases e1;cases e2;exact ok C θ H' a s' kC (.refl hw) fl
theorem xa {θ:List Addr}{H:Hp}{c:Str}{M:ax}(h:cx X θ H c M):z9 X.K θ H (CB X) c M:=fun C θ' H' a kC g=>⟨a,C,c,θ',M,rfl,rfl,kC,g.wr,h.go g⟩
theorem wR (Fn:eW X.prog X.w X.K X.mg X.base (iX X.prog X.w) k f fd ps (oA X.K n F))(hr:ck k X.A)(hg:Gl X x)(hm:X.mg x=some (.ref f))(hk:W.keepIn X.K (.ref f)=true)(hb:fV X.K fd ps [])
  (ha:PA X (e::es) (tA X ga)) (hdb:(x==("__debug__":Str))=false:=by decide) (he:starEach (e::es) X.env=(false,eval e X.env)::starEach es X.env:=by rfl) (hpl:(backTo pos (starEach es X.env)).any (·.1)=false:=by rfl) :
  PE X (.Call (.Name x p) (e::es) [] pos) (tE X (av n F ga)):=(vM Fn hr hg hm hk hb .nil mY ha hdb he hpl).of fun σ H Q hxx=>by
 obtain⟨ρ,θ,M,hd,hw,h⟩:=hxx;refine gq hd hw (aH X θ H Q) (fun c M' h=>h) (fun h=>h) h fun ds M1 vs θ1 H1 g1 r1 h1=>?_
 by_cases hl:ds.length=n
 ·rw[if_pos hl] at h1;refine⟨θ1,M1,ds,hl,by rw[append_nil];exact r1,g1.wr,?_⟩;have h2:=aH.go g1 h1;cases q:F ds M1 with
  | ok d M2=>rw[q] at h2;exact h2
  | err c M2=>rw[q] at h2;exact xa h2
  | bad=>rw[q] at h2;exact h2
 ·rw[if_neg hl] at h1;exact h1.elim
def rC (X:Cx)(F:FD):List V→Hp→VK→Prop:=fun xs H Q=>∃θ M ds,Wr X.K θ H M∧aR X.K θ H ds xs∧aH X θ H Q (F ds M)
def aG (F:FD)(ga:GA):GE:=fun ρ M=>(ga ρ M).bind F
theorem tm {σ:L2.St}{H:Hp}{Q:VK}(h:tE X (aG F ga) σ H Q):Eg (rC X F) (tA X ga) σ H Q:=by
 obtain⟨ρ,θ,M,hd,hw,h⟩:=h;exact gq hd hw (aH X θ H Q) (fun c M' h=>h) (fun h=>h) h fun ds M1 vs θ1 H1 g1 r1 h1=>⟨θ1,M1,ds,g1.wr,r1,aH.go g1 h1⟩
theorem ue {id:String}(hc:cL X (.builtin id) (rC X F))(hg:Gl X x)(hm:X.mg x=none)(hv:bootBuiltins x=some (.builtin id))(ha:PA X (e::es) (tA X ga))(hn:x≠"__name__":=by decide)(hdb:(x==("__debug__":Str))=false:=by decide)
  (he:starEach (e::es) X.env=(false,eval e X.env)::starEach es X.env:=by rfl) (hpl:(backTo pos (starEach es X.env)).any (·.1)=false:=by rfl):PE X (.Call (.Name x p) (e::es) [] pos) (tE X (aG F ga)):=
 (ni hc hg hm hv ha hn hdb he hpl).of fun σ H Q h=>tm h
theorem qi {T:String}(hc:cL X (.type T) (rC X F))(hg:Gl X x)(hm:X.mg x=none)(hv:bootBuiltins x=some (.type T))(ha:PA X (e::es) (tA X ga))(hn:x≠"__name__":=by decide)(hdb:(x==("__debug__":Str))=false:=by decide)
  (he:starEach (e::es) X.env=(false,eval e X.env)::starEach es X.env:=by rfl) (hpl:(backTo pos (starEach es X.env)).any (·.1)=false:=by rfl):PE X (.Call (.Name x p) (e::es) [] pos) (tE X (aG F ga)):=
 (qY hc hg hm hv ha hn hdb he hpl).of fun σ H Q h=>tm h
end
section
variable {prog:Program}{w:World}{A:Around}{E:Value→Shared→Prop}{s:Shared}
theorem uH {t b:Addr}{ws:List Value}{Q:Value→Shared→Prop}(ht:IsTup s.heap t #[])(hb:IsTup s.heap b ws.toArray)
  (h:Q (.ref b) s):wpAny (model prog w) A (binaryOp .Add (.ref t) (.ref b)) Q E s:=by
 obtain⟨⟨cls,dd,data,sl⟩,ho,hc,n,hd⟩:=id ht;obtain⟨⟨cls2,dd2,data2,sl2⟩,ho2,hc2,n2,hd2⟩:=id hb;simp only at hc hd hc2 hd2;subst hc hd hc2 hd2;exact concat_meets ⟨_,ho,rfl⟩ ⟨_,ho2,rfl⟩ noFill_tuple_add seq_tuple_add PySem.F.slot_tuple_add PySem.F.entry_tuple_add (PySem.F.args_tuple_add_2 _ _)
   (tuple_addW0 t b #[] ws.toArray n n2 dd dd2 sl sl2 (by simp)) ⟨ho,ho2,h⟩
theorem gp {t sl:Addr}{items:Array Value}{vl vu:Value}{lo hi:Option Int}{Q:Value→Shared→Prop}(ht:IsTup s.heap t items)(hs:s.heap.IsSliceOf sl vl vu .none)(pl:IsPart vl lo)(pu:IsPart vu hi)
  (hw:HT.sIx items.size 0 lo=0∧HT.sIx items.size items.size hi=items.size) (h:Q (.ref t) s):wpAny (model prog w) A (getItem (.ref t) (.ref sl)) Q E s:=by
 obtain⟨os,hos,hcs,hds⟩:=id hs;have hTs:s.TypeIs (.ref sl) "slice":=⟨os,hos,hcs⟩;unfold getItem
 try with_reducible refine wpAny_holding ?_
 first|refine wpAny_bind (wpAny_pure ?_)|skip
 refine wpAny_bind (wpAny_sequenceKey ht.typeIs (by decide) ?_);refine wpAny_bind (wpAny_callSpecial?_slot (name:=Str.ofString "__getitem__") ht.typeIs PyProof.Rows.slot_tuple_getitem
  (wpAny_call_entry PyProof.Rows.slot_tuple_getitem ht.typeIs entry_tuple_getitem ?_ (args_tuple_getitem _ _)))
 show wpAny _ _ (Builtin.Tuple.tupleItemsOf (.ref t) >>= _) _ _ s;refine wpAny_bind (tupleItemsOf_ ht ?_);refine wpAny_bind (wpAny_typeOf hTs ?_);rw[if_pos (by decide)];refine wpAny_bind (HT.sliceApplied_gen hs pl pu ?_);have hyes:(((HT.sIx items.size 0 lo:Nat):Int)==0&&(1:Int)==1&&(HT.sIx items.size items.size hi-HT.sIx items.size 0 lo)==items.size)=true:=by
  rw[hw.1,hw.2];simp
 show wpAny _ _ (if(((HT.sIx items.size 0 lo:Nat):Int)==0&&(1:Int)==1&&(HT.sIx items.size items.size hi-HT.sIx items.size 0 lo)==items.size)=true then _ else _) _ _ s;rw[if_pos hyes];unfold Builtin.Tuple.tupleIsExact;refine wpAny_bind (wpAny_bind (wpAny_typeOf ht.typeIs (wpAny_pure ?_)));rw[if_pos (by decide)]
 first
  | exact wpAny_bind (wpAny_rule (wpAny_bind (wpAny_pure ⟨_,rfl,wpAny_pure h⟩)))
  | exact wpAny_bind (wpAny_rule (wpAny_pure ⟨_,rfl,wpAny_pure h⟩))
  | exact wpAny_bind (wpAny_rule (wpAny_bind (wpAny_pure (wpAny_pure ⟨_,rfl,wpAny_pure h⟩))))
end
def ja (d:D)(M:ax):Option (List D):=match d with
 | .lst xs=>some xs
 | .mr k=>match M[k]? with
  | some (.lst xs)=>some xs
  | _=>none
 | _=>none
def aA:F2:=fun x y M=>match x,y with
 | .int i,.int j=>.ok (.int (i+j)) M
 | .str a,.str b=>if a.length+b.length≤sizeLine then .ok (.str (a++b)) M else .bad
 | .tup a,.tup b=>if a.length+b.length≤sizeLine then .ok (.tup (a++b)) M else .bad
 | .bl a,.int j=>.ok (.int ((if a=true then 1 else 0)+j)) M
 | x,y=>match ja x M,ja y M with
  | some a,some b=>if a.length+b.length≤sizeLine then .ok (.lst (a++b)) M else .bad
  | _,_=>.bad
theorem mF {K:W.Frag}{θ:List Addr}{H:Hp}{M:ax}{d:D}{xs:List D}{v:V}(hw:Wr K θ H M)(r:cX K θ H d v)(e:ja d M=some xs):∃a vs,v=.ref a∧H a=some (.lst vs)∧aR K θ H xs vs:=by
 cases d with
 | lst ys=>cases e;obtain⟨a,vs,ea,ta,ra⟩:=r;exact⟨a,vs,ea,ta.1,ra⟩
 | mr k=>
  obtain⟨a,ea,ta⟩:=r;have e:(match M[k]? with|some (.lst xs)=>some xs|_=>none)=some xs:=e;cases q:M[k]? with
  | none=>rw[q] at e;cases e
  | some m=>
   cases m with
   | lst ys=>
    rw[q] at e;cases e;obtain⟨vs,hv,ra⟩:=hw.at_ k a _ ta q;exact⟨a,vs,ea,hv,ra⟩
   | _=>rw[q] at e;cases e
 | _=>cases e
def ek:F2:=fun x y M=>match x,y with
 | .int i,.int j=>.ok (.int (i-j)) M
 | _,_=>.bad
def fD:F2:=fun x y M=>match x,y with
 | .int i,.int j=>if(-(2 ^ 64)<i∧i<2 ^ 64)∨(-(2 ^ 64)<j∧j<2 ^ 64) then .ok (.int (i*j)) M else .bad
 | _,_=>.bad
def jH:F2:=fun x y M=>match x,y with
 | .int i,.int j=>if 0<j∧j.natAbs.log2<9000 then .ok (.int (i / j)) M else .bad
 | _,_=>.bad
def jk:F2:=fun x y M=>match x,y with
 | .int i,.int j=>if 0<j then .ok (.int (i % j)) M else .bad
 | _,_=>.bad
def nB:F2:=fun x y M=>match x,y with
 | .int i,.int j=>if 0≤j∧j≤1000000∧i.natAbs<2 ^ 64 then .ok (.int (i ^ j.toNat)) M else .bad
 | _,_=>.bad
section
variable {X:Cx}
theorem yI:ej X (binaryOp .Add) (rD X aA):=by
 intro ae s σ H x y v u Q I rx ry h;obtain⟨θ,M,dx,dy,hw,r1,r2,h⟩:=h;unfold aA at h;split at h
 ·rename_i i j;exact zq ae s σ H x y v u Q I rx ry ⟨i,j,r1,r2,h _ θ H (.refl hw) rfl⟩
 ·rename_i a b;split at h
  ·rename_i hl;exact nR ae s σ H x y v u Q I rx ry ⟨a,b,r1,r2,hl,h _ θ H (.refl hw) rfl⟩
  ·exact h.elim
 ·rename_i as bs;split at h
  ·rename_i hl;obtain⟨a,vs,ea,ta,ra⟩:=r1;obtain⟨b,us,eb,tb,rb⟩:=r2
   by_cases hv:vs=[]
   ·subst hv;have e0:as=[]:=length_eq_zero_iff.mp (ar ra);subst e0;subst ea;subst eb;cases rx;cases ry;obtain⟨its,q1,p1,_⟩:=I.tuple ta.sq;obtain⟨its2,q2,p2,_⟩:=I.tuple tb.sq;cases q1;exact uH p1 p2 ⟨.ref b,H,I,rfl,h _ θ H (.refl hw) ⟨b,us,rfl,tb,rb⟩⟩
   ·refine vR ae s σ H x y v u Q I rx ry ⟨a,b,vs,us,ea,eb,ta.sq,tb.sq,hv,by rw[←ar ra,←ar rb];exact hl,fun hu=>?_,fun _ p hp=>h _ θ _ (dO hw hp) (lC hw hp (bM ra rb))⟩;subst hu;have e0:bs=[]:=length_eq_zero_iff.mp (ar rb);subst e0;exact h _ θ H (.refl hw) ⟨a,vs,rfl,ta,by rw[append_nil];exact ra⟩
  ·exact h.elim
 ·rename_i a j;have e1:x=.bl a:=r1;have e2:y=.int j:=r2;subst e1;subst e2;cases rx;obtain⟨t',rfl⟩:=ry;exact IntBool.add_bool_int ⟨.int _,H,I.tok _,⟨_,rfl⟩,h _ θ H (.refl hw) rfl⟩
 ·split at h
  ·rename_i as bs q1 q2;split at h
   ·rename_i hl;obtain⟨a,vs,ea,ta,ra⟩:=mF hw r1 q1;obtain⟨b,us,eb,tb,rb⟩:=mF hw r2 q2;exact zm ae s σ H x y v u Q I rx ry ⟨a,b,vs,us,ea,eb,ta,tb,by rw[←ar ra,←ar rb];exact hl,fun p hp=>h _ θ _ (dO hw hp) (eC hw hp (bM ra rb))⟩
   ·exact h.elim
  ·exact h.elim
theorem sY {K:W.Frag}{θ:List Addr}{H H':Hp}{M:ax}{p:Addr}(hw:Wr K θ H M):cX K (θ++[p]) H' (.mr M.length) (.ref p):=by
 refine⟨p,rfl,?_⟩;rw[←hw.len,getElem?_append_right (Nat.le_refl _)];simp
theorem zo:ej X (binaryOp .Sub) (rD X ek):=by
 intro ae s σ H x y v u Q I rx ry h;obtain⟨θ,M,dx,dy,hw,r1,r2,h⟩:=h;unfold ek at h;split at h
 ·rename_i i j;exact x8 ae s σ H x y v u Q I rx ry ⟨i,j,r1,r2,h _ θ H (.refl hw) rfl⟩
 ·exact h.elim
theorem Ag:ej X (binaryOp .Mult) (rD X fD):=by
 intro ae s σ H x y v u Q I rx ry h;obtain⟨θ,M,dx,dy,hw,r1,r2,h⟩:=h;unfold fD at h;split at h
 ·rename_i i j;split at h
  ·rename_i hc;exact xQ ae s σ H x y v u Q I rx ry ⟨i,j,r1,r2,hc,h _ θ H (.refl hw) rfl⟩
  ·exact h.elim
 ·exact h.elim
theorem uZ:ej X (binaryOp .FloorDiv) (rD X jH):=by
 intro ae s σ H x y v u Q I rx ry h;obtain⟨θ,M,dx,dy,hw,r1,r2,h⟩:=h;unfold jH at h;split at h
 ·rename_i i j;split at h
  ·rename_i hc;have e1:x=.int i:=r1;have e2:y=.int j:=r2;subst e1;subst e2;obtain⟨t,rfl⟩:=rx;obtain⟨t',rfl⟩:=ry;have h1:(0:Int)<j:=hc.1;exact floordiv_int (by omega) (by rw[Int.fdiv_eq_ediv_of_nonneg i (by omega)];exact⟨.int (i / j),H,I.tok _,⟨_,rfl⟩,h _ θ H (.refl hw) rfl⟩) (.inl (PyProof.noPylong_of_log2 hc.2))
  ·exact h.elim
 ·exact h.elim
theorem yl:ej X (binaryOp .Mod) (rD X jk):=by
 intro ae s σ H x y v u Q I rx ry h;obtain⟨θ,M,dx,dy,hw,r1,r2,h⟩:=h;unfold jk at h;split at h
 ·rename_i i j;split at h
  ·rename_i hc;exact ye ae s σ H x y v u Q I rx ry ⟨i,j,r1,r2,hc,h _ θ H (.refl hw) rfl⟩
  ·exact h.elim
 ·exact h.elim
theorem xT:ej X (binaryOp .Pow) (rD X nB):=by
 intro ae s σ H x y v u Q I rx ry h;obtain⟨θ,M,dx,dy,hw,r1,r2,h⟩:=h;unfold nB at h;split at h
 ·rename_i i j;split at h
  ·rename_i hc;exact Aa ae s σ H x y v u Q I rx ry ⟨i,j,r1,r2,hc,h _ θ H (.refl hw) rfl⟩
  ·exact h.elim
 ·exact h.elim
def kb (g:GE):GE:=fun ρ M=>(g ρ M).bind fun x M1=>match x with
 | .int i=>.ok (.int (-i)) M1
 | _=>.bad
theorem Al {a:Expr}{pos:Pos}{g:GE}(ha:PE X a (tE X g)):PE X (.UnaryOp .USub a pos) (tE X (kb g)):=(Cv yN ha).of fun σ H Q hxx=>by
 obtain⟨ρ,θ,M,hd,hw,h⟩:=hxx;refine bE hd hw (aH X θ H Q) (fun c M' h=>h) (fun h=>h) h fun d M1 v θ1 H1 g1 r1 h1=>?_
 split at h1
 ·rename_i i;exact⟨i,r1,h1 _ θ1 H1 g1 rfl⟩
 ·exact h1.elim
def i5:F2:=fun x y M=>match x,y with
 | .int i,.int j=>.ok (.bl (decide (i<j))) M
 | _,_=>.bad
def vW:F2:=fun x y M=>match x,y with
 | .int i,.int j=>.ok (.bl (decide (i≤j))) M
 | _,_=>.bad
def uT:F2:=fun x y M=>match x,y with
 | .int i,.int j=>.ok (.bl (decide (j<i))) M
 | _,_=>.bad
def vD:F2:=fun x y M=>match x,y with
 | .int i,.int j=>.ok (.bl (decide (j≤i))) M
 | _,_=>.bad
theorem CC:ej X (compareOp .Lt) (rD X i5):=by
 intro ae s σ H x y v u Q I rx ry h;obtain⟨θ,M,dx,dy,hw,r1,r2,h⟩:=h;unfold i5 at h;split at h
 ·rename_i i j;exact Cw ae s σ H x y v u Q I rx ry ⟨i,j,r1,r2,h _ θ H (.refl hw) rfl⟩
 ·exact h.elim
theorem B3:ej X (compareOp .LtE) (rD X vW):=by
 intro ae s σ H x y v u Q I rx ry h;obtain⟨θ,M,dx,dy,hw,r1,r2,h⟩:=h;unfold vW at h;split at h
 ·rename_i i j;exact AY ae s σ H x y v u Q I rx ry ⟨i,j,r1,r2,h _ θ H (.refl hw) rfl⟩
 ·exact h.elim
theorem Bz:ej X (compareOp .Gt) (rD X uT):=by
 intro ae s σ H x y v u Q I rx ry h;obtain⟨θ,M,dx,dy,hw,r1,r2,h⟩:=h;unfold uT at h;split at h
 ·rename_i i j;exact BK ae s σ H x y v u Q I rx ry ⟨i,j,r1,r2,h _ θ H (.refl hw) rfl⟩
 ·exact h.elim
theorem CI:ej X (compareOp .GtE) (rD X vD):=by
 intro ae s σ H x y v u Q I rx ry h;obtain⟨θ,M,dx,dy,hw,r1,r2,h⟩:=h;unfold vD at h;split at h
 ·rename_i i j;exact BZ ae s σ H x y v u Q I rx ry ⟨i,j,r1,r2,h _ θ H (.refl hw) rfl⟩
 ·exact h.elim
theorem fn {α:Type}{b:α}{P:Prop}(h:none=some b):P:=nomatch h
mutual
def j7:D→PyData
 | .non=>.none
 | .bl b=>.bool b
 | .int i=>.int i
 | .str x=>.str x
 | .tup ds=>.tuple (iH ds)
 | .lst ds=>.list (iH ds)
 | .ro ds=>.list (iH ds)
 | .mr _=>.dict []
 | .exc _=>.dict []
 | .any=>.dict []
def iH:List D→List PyData
 | []=>[]
 | d::ds=>j7 d::iH ds
end
mutual
def ce:Nat→D→Bool
 | _,.non=>true
 | _,.bl _=>true
 | _,.int _=>true
 | _,.str x=>PyData.strOk x
 | n+1,.tup ds=>aU n ds
 | n+1,.lst ds=>aU n ds
 | n+1,.ro ds=>aU n ds
 | _,_=>false
def aU:Nat→List D→Bool
 | _,[]=>true
 | n,d::ds=>ce n d&&aU n ds
end
mutual
def kR:D→D→Bool
 | .non,.non=>true
 | .bl a,.bl b=>a==b
 | .bl a,.int j=>(if a then 1 else 0)==j
 | .int i,.bl b=>i==(if b then 1 else 0)
 | .int i,.int j=>i==j
 | .str x,.str y=>x==y
 | .lst xs,.lst ys=>eN xs ys
 | .lst xs,.ro ys=>eN xs ys
 | .ro xs,.lst ys=>eN xs ys
 | .ro xs,.ro ys=>eN xs ys
 | .tup xs,.tup ys=>eN xs ys
 | _,_=>false
def eN:List D→List D→Bool
 | [],[]=>true
 | x::xs,y::ys=>kR x y&&eN xs ys
 | _,_=>false
end
mutual
theorem lT:∀(x y:D) (n m:Nat),ce n x=true→ce m y=true→PyData.eqv (j7 x) (j7 y)=kR x y
 | .non,y,n,m,hx,hy=>by cases y <;> rfl
 | .bl a,y,n,m,hx,hy=>by cases y <;> rfl
 | .int a,y,n,m,hx,hy=>by cases y <;> rfl
 | .str a,y,n,m,hx,hy=>by cases y <;> rfl
 | .tup xs,y,n,m,hx,hy=>by
  cases n with
  | zero=>exact ff hx
  | succ n=>
   cases y with
   | tup ys=>
    cases m with
    | zero=>exact ff hy
    | succ m=>
     exact eZ xs ys n m hx hy
   | _=>rfl
 | .lst xs,y,n,m,hx,hy=>by
  cases n with
  | zero=>exact ff hx
  | succ n=>
   cases y with
   | lst ys=>
    cases m with
    | zero=>exact ff hy
    | succ m=>
     exact eZ xs ys n m hx hy
   | ro ys=>
    cases m with
    | zero=>exact ff hy
    | succ m=>
     exact eZ xs ys n m hx hy
   | _=>rfl
 | .ro xs,y,n,m,hx,hy=>by
  cases n with
  | zero=>exact ff hx
  | succ n=>
   cases y with
   | lst ys=>
    cases m with
    | zero=>exact ff hy
    | succ m=>
     exact eZ xs ys n m hx hy
   | ro ys=>
    cases m with
    | zero=>exact ff hy
    | succ m=>
     exact eZ xs ys n m hx hy
   | _=>rfl
 | .mr a,y,n,m,hx,hy=>by cases n <;> exact ff hx
 | .exc a,y,n,m,hx,hy=>by cases n <;> exact ff hx
 | .any,y,n,m,hx,hy=>by cases n <;> exact ff hx
theorem eZ:∀(x y:List D) (n m:Nat),aU n x=true→aU m y=true→PyData.eqvAll (iH x) (iH y)=eN x y
 | [],y,n,m,hx,hy=>by cases y <;> rfl
 | x::xs,y,n,m,hx,hy=>by
  cases y with
  | nil=>rfl
  | cons y ys=>
   have hx:=Bool.and_eq_true_iff.mp (show(ce n x&&aU n xs)=true from hx);have hy:=Bool.and_eq_true_iff.mp (show(ce m y&&aU m ys)=true from hy);show(PyData.eqv (j7 x) (j7 y)&&PyData.eqvAll (iH xs) (iH ys))=(kR x y&&eN xs ys);rw[lT x y n m hx.1 hy.1,eZ xs ys n m hx.2 hy.2]
end
mutual
theorem ii:∀(d:D) (n:Nat),ce n d=true→(j7 d).canLay0=true∧(j7 d).depth≤n
 | .non,n,h=>by simp[j7,PyData.canLay0,PyData.depth]
 | .bl a,n,h=>by simp[j7,PyData.canLay0,PyData.depth]
 | .int a,n,h=>by simp[j7,PyData.canLay0,PyData.depth]
 | .str a,n,h=>by
  have:PyData.strOk a=true:=by cases n <;> exact h
  simp[j7,PyData.canLay0,PyData.depth,this]
 | .tup xs,n,h=>by
  cases n with
  | zero=>exact ff h
  | succ n=>
   have:=gP xs n h;simp only[j7,PyData.canLay0,PyData.depth];exact⟨this.1,by omega⟩
 | .lst xs,n,h=>by
  cases n with
  | zero=>exact ff h
  | succ n=>
   have:=gP xs n h;simp only[j7,PyData.canLay0,PyData.depth];exact⟨this.1,by omega⟩
 | .ro xs,n,h=>by
  cases n with
  | zero=>exact ff h
  | succ n=>
   have:=gP xs n h;simp only[j7,PyData.canLay0,PyData.depth];exact⟨this.1,by omega⟩
 | .mr a,n,h=>by cases n <;> exact ff h
 | .exc a,n,h=>by cases n <;> exact ff h
 | .any,n,h=>by cases n <;> exact ff h
theorem gP:∀(ds:List D) (n:Nat),aU n ds=true→PyData.canLayAll0 (iH ds)=true∧PyData.depthAll (iH ds)≤n
 | [],n,h=>by simp[iH,PyData.canLayAll0,PyData.depthAll]
 | d::ds,n,h=>by
  have h:=Bool.and_eq_true_iff.mp (show(ce n d&&aU n ds)=true from h);have h1:=ii d n h.1;have h2:=gP ds n h.2;simp only[iH,PyData.canLayAll0,PyData.depthAll,Bool.and_eq_true];exact⟨⟨h1.1,h2.1⟩,by omega⟩
end
mutual
theorem mx {ae:List (Addr×Obj)}{s:Shared}{σ:L2.St}{H:Hp}{θ:List Addr}(I:Inv X ae σ H s):∀(d:D) (n:Nat) (v:V) (u:Value),ce n d=true→cX X.K θ H d v→aW v u→∃as,Reads s.heap u (j7 d) as
 | .non,n,v,u,h,r,q=>by have e:v=.non:=r;subst e;cases q;exact⟨_,.none⟩
 | .bl a,n,v,u,h,r,q=>by have e:v=.bl a:=r;subst e;cases q;exact⟨_,.bool a⟩
 | .int a,n,v,u,h,r,q=>by have e:v=.int a:=r;subst e;obtain⟨t,rfl⟩:=q;exact⟨_,.int a t⟩
 | .str a,n,v,u,h,r,q=>by have e:v=.str a:=r;subst e;obtain⟨t,rfl⟩:=q;exact⟨_,.str a t⟩
 | .tup xs,n,v,u,h,r,q=>by
  cases n with
  | zero=>exact ff h
  | succ n=>
   obtain⟨a,vs,e,ta,ra⟩:=r;subst e;cases q;obtain⟨its,rv,⟨o,h1,h2,m,h3⟩,_⟩:=I.tuple ta.sq;obtain⟨as,R⟩:=eU I xs n vs its h ra rv;exact⟨_,.tuple h1 h2 h3 (by simpa using R)⟩
 | .lst xs,n,v,u,h,r,q=>by
  cases n with
  | zero=>exact ff h
  | succ n=>
   obtain⟨a,vs,e,ta,ra⟩:=r;subst e;cases q;obtain⟨its,rv,⟨o,m,h1,h2,_,h3⟩,_⟩:=I.list (ta.sq (K:=X.K));obtain⟨as,R⟩:=eU I xs n vs its h ra rv;exact⟨_,.list h1 h2 h3 (by simpa using R)⟩
 | .ro xs,n,v,u,h,r,q=>by
  cases n with
  | zero=>exact ff h
  | succ n=>
   obtain⟨a,vs,e,ta,ra⟩:=r;subst e;cases q;obtain⟨its,rv,⟨o,m,h1,h2,_,h3⟩,_⟩:=I.list ta.sq;obtain⟨as,R⟩:=eU I xs n vs its h ra rv;exact⟨_,.list h1 h2 h3 (by simpa using R)⟩
 | .mr a,n,v,u,h,r,q=>by cases n <;> exact ff h
 | .exc a,n,v,u,h,r,q=>by cases n <;> exact ff h
 | .any,n,v,u,h,r,q=>by cases n <;> exact ff h
theorem eU {ae:List (Addr×Obj)}{s:Shared}{σ:L2.St}{H:Hp}{θ:List Addr}(I:Inv X ae σ H s):∀(ds:List D) (n:Nat) (vs:List V) (us:List Value),aU n ds=true→aR X.K θ H ds vs→aM vs us→∃as,ReadsAll s.heap us (iH ds) as
 | [],n,vs,us,h,r,q=>by have e:vs=[]:=r;subst e;cases q;exact⟨_,.nil⟩
 | d::ds,n,vs,us,h,r,q=>by
  have h:=Bool.and_eq_true_iff.mp (show(ce n d&&aU n ds)=true from h);obtain⟨v,rr,e,r1,r2⟩:=r;subst e;cases q with
  | cons q1 q2=>
   obtain⟨as,R1⟩:=mx I d n v _ h.1 r1 q1;obtain⟨bs,R2⟩:=eU I ds n rr _ h.2 r2 q2;exact⟨_,.cons R1 R2⟩
end
def io (d:D)(M:ax):D:=match d with
 | .mr k=>match M[k]? with
  | some (.lst xs)=>.lst xs
  | _=>.mr k
 | d=>d
def a8 (neg:Bool):F2:=fun x y M=>if ce 40 (io x M)&&ce 40 (io y M) then .ok (.bl (kR (io x M) (io y M) != neg)) M else .bad
theorem fX {ae:List (Addr×Obj)}{s:Shared}{σ:L2.St}{H:Hp}{θ:List Addr}{M:ax}(I:Inv X ae σ H s)(hw:Wr X.K θ H M){d:D}{n:Nat}{v:V}{u:Value}(h:ce n (io d M)=true)(r:cX X.K θ H d v)(q:aW v u):∃as,Reads s.heap u (j7 (io d M)) as:=by
 cases d with
 | mr k=>
  obtain⟨a,e,ta⟩:=r;subst e;cases q;cases qm:M[k]? with
  | none=>
   have e:io (.mr k) M=.mr k:=by simp[io,qm]
   rw[e] at h;cases n <;> exact ff h
  | some m=>
   cases m with
   | lst xs=>
    have e:io (.mr k) M=.lst xs:=by simp[io,qm]
    rw[e] at h ⊢;cases n with
    | zero=>exact ff h
    | succ n=>
     obtain⟨vs,hv,ra⟩:=hw.at_ k a _ ta qm;obtain⟨its,rv,⟨o,m,h1,h2,_,h3⟩,_⟩:=I.list (X:=X) (xs:=vs) (.inl (.inl hv));obtain⟨as,R⟩:=eU I xs n vs its h ra rv;exact⟨_,.list h1 h2 h3 (by simpa using R)⟩
   | _=>
    have e:io (.mr k) M=.mr k:=by simp[io,qm]
    rw[e] at h;cases n <;> exact ff h
 | _=>exact mx I _ n v u h r q
theorem Cb (hu:X.A.units+64<cLine):ej X (compareOp .Eq) (rD X (a8 false)):=by
 intro ae s σ H x y v u Q I rx ry h;obtain⟨θ,M,dx,dy,hw,r1,r2,h⟩:=h;unfold a8 at h;split at h
 ·rename_i hc;rw[Bool.and_eq_true] at hc;obtain⟨as,R1⟩:=fX I hw hc.1 r1 rx;obtain⟨bs,R2⟩:=fX I hw hc.2 r2 ry;have l1:=ii _ _ hc.1;have l2:=ii _ _ hc.2;refine SeqAt.compareEq_reads R1 R2 l1.1 l2.1 (by have:=l1.2;have:min (j7 (io dx M)).depth (j7 (io dy M)).depth≤(j7 (io dx M)).depth:=Nat.min_le_left _ _;omega) ?_;rw[lT _ _ _ _ hc.1 hc.2];refine⟨.bl _,H,I,rfl,?_⟩;have:=h _ θ H (.refl hw) rfl;rw[Bool.bne_false] at this;exact this
 ·exact h.elim
theorem BF (hu:X.A.units+64<cLine):ej X (compareOp .NotEq) (rD X (a8 true)):=by
 intro ae s σ H x y v u Q I rx ry h;obtain⟨θ,M,dx,dy,hw,r1,r2,h⟩:=h;unfold a8 at h;split at h
 ·rename_i hc;rw[Bool.and_eq_true] at hc;obtain⟨as,R1⟩:=fX I hw hc.1 r1 rx;obtain⟨bs,R2⟩:=fX I hw hc.2 r2 ry;have l1:=ii _ _ hc.1;have l2:=ii _ _ hc.2;refine SeqAt.compareNe_reads R1 R2 l1.1 l2.1 (by have:=l1.2;have:min (j7 (io dx M)).depth (j7 (io dy M)).depth≤(j7 (io dx M)).depth:=Nat.min_le_left _ _;omega) ?_;rw[lT _ _ _ _ hc.1 hc.2];refine⟨.bl _,H,I,rfl,?_⟩;have:=h _ θ H (.refl hw) rfl;rw[Bool.bne_true] at this;exact this
 ·exact h.elim
def bH (d:D)(M:ax):Option (List D):=match d with
 | .tup xs=>some xs
 | .lst xs=>some xs
 | .ro xs=>some xs
 | .mr k=>match M[k]? with
  | some (.lst xs)=>some xs
  | _=>none
 | _=>none
def ot:F2:=fun x y M=>match bH x M,y with
 | some xs,.int i=>match j6 xs i with
  | some d=>.ok d M
  | none=>.bad
 | _,_=>.bad
theorem sJ {K:W.Frag}{θ:List Addr}{H:Hp}{ds:List D}{vs:List V}{i:Int}{d:D}(r:aR K θ H ds vs)(e:j6 ds i=some d):∃v,j6 vs i=some v∧cX K θ H d v:=by
 unfold j6 at e ⊢;rw[←ar r];cases q:nW ds.length i with
 | none=>rw[q] at e;cases e
 | some j=>
  rw[q] at e;exact dm r e
theorem jD {K:W.Frag}{θ:List Addr}{H:Hp}{M:ax}{d:D}{xs:List D}{v:V}(hw:Wr K θ H M)(r:cX K θ H d v)(e:bH d M=some xs):∃a vs,v=.ref a∧(iZ K H a vs∨lX K H a vs)∧aR K θ H xs vs:=by
 cases d with
 | tup ds=>obtain⟨a,vs,e1,ta,ra⟩:=r;cases e;exact⟨a,vs,e1,.inr ta.sq,ra⟩
 | lst ds=>obtain⟨a,vs,e1,ta,ra⟩:=r;cases e;exact⟨a,vs,e1,.inl ta.sq,ra⟩
 | ro ds=>obtain⟨a,vs,e1,ta,ra⟩:=r;cases e;exact⟨a,vs,e1,.inl ta.sq,ra⟩
 | mr k=>
  obtain⟨a,e1,ta⟩:=r;have e:(match M[k]? with|some (.lst xs)=>some xs|_=>none)=some xs:=e;cases qm:M[k]? with
  | none=>rw[qm] at e;cases e
  | some m=>
   cases m with
   | lst ys=>
    rw[qm] at e;cases e;obtain⟨vs,hv,ra⟩:=hw.at_ k a _ ta qm;exact⟨a,vs,e1,.inl (.inl (.inl hv)),ra⟩
   | _=>rw[qm] at e;cases e
 | _=>cases e
theorem Bs:AG X (rD X ot):=by
 intro value slice ae s σ H x y v u Q I rx ry h hs;obtain⟨θ,M,dx,dy,hw,r1,r2,h⟩:=h;unfold ot at h;split at h
 ·rename_i xs i q;split at h
  ·rename_i d qd;obtain⟨a,vs,ea,sq,ra⟩:=jD hw r1 q;obtain⟨z,ez,rz⟩:=sJ ra qd;have hq:=h z θ H (.refl hw) rz;rcases sq with sq|sq
   ·exact v7 value slice ae s σ H x y v u Q I rx ry ⟨a,vs,i,z,ea,r2,sq,ez,hq⟩ hs
   ·exact zM value slice ae s σ H x y v u Q I rx ry ⟨a,vs,i,z,ea,r2,sq,ez,hq⟩ hs
  ·exact h.elim
 ·exact h.elim
def fE (xs:List D)(lo hi:Option Int):List D:=(xs.drop (HT.sIx xs.length 0 lo)).take (HT.sIx xs.length xs.length hi-HT.sIx xs.length 0 lo)
def iK (x:D)(lo hi:Option Int)(M:ax):aF D:=match x with
 | .tup xs=>.ok (.tup (fE xs lo hi)) M
 | .lst xs=>.ok (.lst (fE xs lo hi)) M
 | .ro xs=>.ok (.lst (fE xs lo hi)) M
 | .mr k=>match M[k]? with
  | some (.lst xs)=>.ok (.lst (fE xs lo hi)) M
  | _=>.bad
 | _=>.bad
abbrev GO:=aZ→ax→aF (Option Int)
def bT:GO:=fun _ M=>.ok none M
def aD (g:GE):GO:=fun ρ M=>(g ρ M).bind fun d M1=>match d with
 | .int i=>.ok (some i) M1
 | _=>.bad
def CU (X:Cx)(θ:List Addr)(H:Hp)(Q:Option Int→Hp→Prop):aF (Option Int)→Prop
 | .ok b M'=>∀θ' H',Go X.K θ H θ' H' M'→Q b H'
 | .err c M'=>cx X θ H c M'
 | .bad=>False
def tO (X:Cx)(g:GO):TO:=fun σ H Q=>∃ρ θ M,fO X.K θ H σ ρ∧Wr X.K θ H M∧CU X θ H Q (g ρ M)
theorem _root_.L2.PO.of {e:Option Expr}{t t':TO}(h:PO X e t)(w:∀σ H Q,t' σ H Q→t σ H Q):PO X e t':=fun ae s σ H Q I q=>h ae s σ H Q I (w σ H Q q)
theorem wg:PO X none (tO X bT):=v3.of fun σ H Q ⟨ρ,θ,M,hd,hw,f⟩=>f θ H (.refl hw)
theorem vf {e:Expr}{g:GE}(h:PE X e (tE X g)):PO X (some e) (tO X (aD g)):=(ww h).of fun σ H Q hxx=>by
 obtain⟨ρ,θ,M,hd,hw,h⟩:=hxx;refine bE hd hw (CU X θ H Q) (fun c M' h=>h) (fun h=>h) h fun d M1 v θ1 H1 g1 r1 h1=>?_
 split at h1
 ·rename_i i;exact⟨i,r1,h1 θ1 H1 g1⟩
 ·exact h1.elim
theorem xA {g:GO}{σ:L2.St}{H:Hp}{Q:Option Int→Hp→Prop}{α:Type}{ρ:aZ}{θ:List Addr}{M:ax}(hd:fO X.K θ H σ ρ)(hw:Wr X.K θ H M)(F:aF α→Prop)(Fe:∀c M',F (.err c M')→cx X θ H c M')(Fb:F .bad→False)
  {f:Option Int→ax→aF α} (h:F ((g ρ M).bind f)) (k:∀d M1 θ1 H1,Go X.K θ H θ1 H1 M1→F (f d M1)→Q d H1):tO X g σ H Q:=by
 refine⟨ρ,θ,M,hd,hw,?_⟩;cases q:g ρ M with
 | ok d M1=>
  rw[q] at h;exact fun θ1 H1 g1=>k d M1 θ1 H1 g1 h
 | err c M1=>rw[q] at h;exact Fe c M1 h
 | bad=>rw[q] at h;exact(Fb h).elim
def E7 (X:Cx):V→Option Int→Option Int→Hp→VK→Prop:=fun x lo hi H Q=>∃θ M d,Wr X.K θ H M∧cX X.K θ H d x∧aH X θ H Q (iK d lo hi M)
theorem gZ {K:W.Frag}{θ:List Addr}{H:Hp}{ds:List D}{vs:List V}(r:aR K θ H ds vs)(lo hi:Option Int):aR K θ H (fE ds lo hi) (mv vs lo hi):=by
 unfold fE mv;rw[←ar r];exact ky _ (kz _ r)
theorem Dr:BN X (E7 X):=by
 intro ae s σ H x v vl vu lo hi sl Q I rx hs pl pu h;obtain⟨θ,M,d,hw,r,h⟩:=h;cases d with
 | tup ds=>
  obtain⟨a,vs,e,ta,ra⟩:=r
  by_cases hc:HT.sIx vs.length 0 lo=0∧HT.sIx vs.length vs.length hi=vs.length
  ·subst e;cases rx;obtain⟨its,rv,ht,hz⟩:=I.tuple ta.sq;have hlen:its.toArray.size=vs.length:=by rw[size_toArray];exact rv.length.symm
   refine⟨"tuple",_,PyProof.Rows.slot_tuple_getitem.lookup,ht.typeIs,?_⟩;refine gp ht hs pl pu (by rw[hlen];exact hc) ⟨.ref a,H,I,rfl,h _ θ H (.refl hw) ⟨a,vs,rfl,ta,?_⟩⟩;have e:fE ds lo hi=ds:=by
    unfold fE;rw[ar ra,hc.1,hc.2,drop_zero,Nat.sub_zero,←ar ra,take_length]
   rw[e];exact ra
  ·exact yP ae s σ H x v vl vu lo hi sl Q I rx hs pl pu ⟨a,vs,e,ta.sq,hc,fun p hp=>h _ θ _ (dO hw hp) (lC hw hp (gZ ra lo hi))⟩
 | lst ds=>
  obtain⟨a,vs,e,ta,ra⟩:=r;exact lc ae s σ H x v vl vu lo hi sl Q I rx hs pl pu ⟨a,vs,e,ta.sq,fun p hp=>h _ θ _ (dO hw hp) (eC hw hp (gZ ra lo hi))⟩
 | ro ds=>
  obtain⟨a,vs,e,ta,ra⟩:=r;exact lc ae s σ H x v vl vu lo hi sl Q I rx hs pl pu ⟨a,vs,e,ta.sq,fun p hp=>h _ θ _ (dO hw hp) (eC hw hp (gZ ra lo hi))⟩
 | mr k=>
  obtain⟨a,e,ta⟩:=r;have h:aH X θ H Q (match M[k]? with|some (.lst xs)=>.ok (.lst (fE xs lo hi)) M|_=>.bad):=h;cases qm:M[k]? with
  | none=>rw[qm] at h;exact h.elim
  | some m=>
   cases m with
   | lst ys=>
    rw[qm] at h;obtain⟨vs,hv,ra⟩:=hw.at_ k a _ ta qm;exact lc ae s σ H x v vl vu lo hi sl Q I rx hs pl pu ⟨a,vs,e,.inl (.inl hv),fun p hp=>h _ θ _ (dO hw hp) (eC hw hp (gZ ra lo hi))⟩
   | _=>rw[qm] at h;exact h.elim
 | _=>exact h.elim
def wB (d:D)(M:ax):aF Bool:=match d with
 | .non=>.ok false M
 | .bl b=>.ok b M
 | .int i=>.ok (i != 0) M
 | .str x=>if x.length≤sizeLine then .ok ((x.length:Int) != 0) M else .bad
 | .tup xs=>.ok (!xs.isEmpty) M
 | .lst xs=>.ok (!xs.isEmpty) M
 | .ro xs=>.ok (!xs.isEmpty) M
 | .mr k=>match M[k]? with
  | some (.lst xs)=>.ok (!xs.isEmpty) M
  | _=>.bad
 | .exc _=>.bad
 | .any=>.bad
def ir (g:GE):GT:=fun ρ M=>(g ρ M).bind wB
theorem fq {K:W.Frag}{θ:List Addr}{H:Hp}{ds:List D}{vs:List V}(r:aR K θ H ds vs):(!vs.isEmpty)=!ds.isEmpty:=by
 have:=ar r;cases ds <;> cases vs <;> simp_all
theorem zZ {a:Expr}{g:GE}(ha:PE X a (tE X g))(he:∀whole,isTrue a X.env whole=(do let v ←whole;standAt a.pos;holding [v] (truthy v)):=by intro _;rfl):PT X a (tT X (ir g)):=
 (sR ha he).of fun σ H Q hxx=>by
  obtain⟨ρ,θ,M,hd,hw,h⟩:=hxx;refine bE hd hw (iw X θ H Q) (fun c M' h=>h) (fun h=>h) h fun d M1 v θ1 H1 g1 r1 h1=>?_
  cases d with
  | non=>have e:v=.non:=r1;subst e;exact⟨false,rfl,h1 θ1 H1 g1⟩
  | bl b=>have e:v=.bl b:=r1;subst e;exact⟨b,rfl,h1 θ1 H1 g1⟩
  | int i=>have e:v=.int i:=r1;subst e;exact⟨i != 0,rfl,h1 θ1 H1 g1⟩
  | str x=>
   have e:v=.str x:=r1;subst e;have h1:iw X θ H Q (if x.length≤sizeLine then .ok ((x.length:Int) != 0) M1 else .bad):=h1;split at h1
   ·rename_i hl;exact⟨_,⟨hl,rfl⟩,h1 θ1 H1 g1⟩
   ·exact h1.elim
  | tup xs=>
   obtain⟨a,vs,e,ta,ra⟩:=r1;subst e;exact⟨_,.inr (.inl ⟨vs,ta.sq,(fq ra).symm⟩),h1 θ1 H1 g1⟩
  | lst xs=>
   obtain⟨a,vs,e,ta,ra⟩:=r1;subst e;exact⟨_,.inl ⟨vs,ta.sq,(fq ra).symm⟩,h1 θ1 H1 g1⟩
  | ro xs=>
   obtain⟨a,vs,e,ta,ra⟩:=r1;subst e;exact⟨_,.inl ⟨vs,ta.sq,(fq ra).symm⟩,h1 θ1 H1 g1⟩
  | mr k=>
   obtain⟨a,e,ta⟩:=r1;subst e;have h1:iw X θ H Q (match M1[k]? with|some (.lst xs)=>.ok (!xs.isEmpty) M1|_=>.bad):=h1;cases qm:M1[k]? with
   | none=>rw[qm] at h1;exact h1.elim
   | some m=>
    cases m with
    | lst ys=>
     rw[qm] at h1;obtain⟨vs,hv,ra⟩:=g1.wr.at_ k a _ ta qm;exact⟨_,.inl ⟨vs,.inl (.inl hv),(fq ra).symm⟩,h1 θ1 H1 g1⟩
    | _=>rw[qm] at h1;exact h1.elim
  | exc c=>exact h1.elim
  | any=>exact h1.elim
def aY:FD:=fun ds M=>match ds with
 | [.str x]=>if x.length≤sizeLine then .ok (.int x.length) M else .bad
 | [d]=>match bH d M with
  | some xs=>.ok (.int xs.length) M
  | none=>.bad
 | _=>.bad
def jn:FD:=fun ds M=>match ds with
 | [.int i,.int j]=>.ok (.int (if j<i then j else i)) M
 | _=>.bad
def j4:FD:=fun ds M=>match ds with
 | [d]=>match bH d M with
  | some xs=>.ok (.lst xs) M
  | none=>.bad
 | _=>.bad
theorem iG {K:W.Frag}{θ:List Addr}{H:Hp}{d:D}{xs:List V}(r:aR K θ H [d] xs):∃v,xs=[v]∧cX K θ H d v:=by
 obtain⟨v,rr,e,h1,h2⟩:=r;have e2:rr=[]:=h2;subst e2;exact⟨v,e,h1⟩
theorem zB {K:W.Frag}{θ:List Addr}{H:Hp}{d d':D}{xs:List V}(r:aR K θ H [d,d'] xs):∃v v',xs=[v,v']∧cX K θ H d v∧cX K θ H d' v':=by
 obtain⟨v,rr,e,h1,h2⟩:=r;obtain⟨v',e2,h3⟩:=iG h2;subst e2;exact⟨v,v',e,h1,h3⟩
theorem An:cL X (.builtin "len") (rC X aY):=by
 intro ae s σ H xs us Q I r h;obtain⟨θ,M,ds,hw,rd,h⟩:=h;unfold aY at h;split at h
 ·rename_i x;split at h
  ·rename_i hl;obtain⟨v,e,rv⟩:=iG rd;exact lx ae s σ H xs us Q I r ⟨x,by rw[e,show v=.str x from rv],hl,h _ θ H (.refl hw) rfl⟩
  ·exact h.elim
 ·rename_i d _;split at h
  ·rename_i ys q;obtain⟨v,e,rv⟩:=iG rd;obtain⟨a,vs,ea,sq,ra⟩:=jD hw rv q;refine lw ae s σ H xs us Q I r ⟨a,vs,by rw[e,ea],sq,?_⟩;rw[←ar ra];exact h _ θ H (.refl hw) rfl
  ·exact h.elim
 ·exact h.elim
theorem xU (hc:X.calm=true):cL X (.builtin "min") (rC X jn):=by
 intro ae s σ H xs us Q I r h;obtain⟨θ,M,ds,hw,rd,h⟩:=h;unfold jn at h;split at h
 ·rename_i i j;obtain⟨v,v',e,rv,rv'⟩:=zB rd;exact p6 hc ae s σ H xs us Q I r ⟨i,j,by rw[e,show v=.int i from rv,show v'=.int j from rv'],h _ θ H (.refl hw) rfl⟩
 ·exact h.elim
theorem wz:cL X (.type "list") (rC X j4):=by
 intro ae s σ H xs us Q I r h;obtain⟨θ,M,ds,hw,rd,h⟩:=h;unfold j4 at h;split at h
 ·rename_i d;split at h
  ·rename_i ys q;obtain⟨v,e,rv⟩:=iG rd;obtain⟨a,vs,ea,sq,ra⟩:=jD hw rv q;exact lU ae s σ H xs us Q I r ⟨a,vs,by rw[e,ea],sq,fun l hl=>h _ θ _ (dO hw hl) (eC hw hl ra)⟩
  ·exact h.elim
 ·exact h.elim
end
def cu (cells:List (Str×Addr)):List (Str×NameKind)→List (Str×Addr)→List (Str×Addr)
 | [],acc=>acc
 | (n,k)::r,acc=>if k==.free then cu cells r ((n,(cells.lookup n).getD 0)::acc) else cu cells r acc
theorem jp {env:Env}:∀(l:List (Str×NameKind)) (cs:List (Str×Addr)),(∀p∈l,p.2=.free→∃c,env.cells.lookup p.1=some c)→
  (forIn (m:=Sem) l cs fun x r=>match x with
   | (name,kind)=>if(kind==NameKind.free)=true then do let __do_lift ←cellOf env name;pure (ForInStep.yield ((name,__do_lift)::r)) else pure (ForInStep.yield r))=pure (cu env.cells l cs)
 | [],cs,h=>rfl
 | (n,k)::r,cs,h=>by
  have ih:=fun cs=>jp (env:=env) r cs fun p hp=>h p (mem_cons_of_mem _ hp)
  rw[forIn_cons]
  by_cases hk:(k==NameKind.free)=true
  ·obtain⟨c,hc⟩:=h (n,k) mem_cons_self (by simpa using hk);have e:cellOf env n=pure c:=by unfold cellOf;rw[show List.lookup n env.cells=some c from hc]
   simp only[hk,if_true,cu,e,pure_bind];rw[ih,show List.lookup n env.cells=some c from hc];rfl
  ·simp only[hk,if_false,cu,pure_bind,Bool.false_eq_true];exact ih cs
theorem il {env:Env}{scope:Scope}(h:∀p∈scope.names,p.2=.free→∃c,env.cells.lookup p.1=some c):closureFor scope env=pure (cu env.cells scope.names []):=by
 have:=jp (env:=env) scope.names [] h;unfold closureFor;simp only[bind_pure_comp] at this ⊢
 first
  | (rw[this];rfl)
  | (simp[this])
  | exact this
theorem jT {cells:List (Str×Addr)}:∀(l:List (Str×NameKind)) (acc:List (Str×Addr)),(∀p∈acc,cells.lookup p.1=some p.2)→(∀p∈l,p.2=.free→∃c,cells.lookup p.1=some c)→
  ∀p∈cu cells l acc,cells.lookup p.1=some p.2
 | [],acc,ha,h=>ha
 | (n,k)::r,acc,ha,h=>by
  have hr:∀p∈r,p.2=.free→∃c,cells.lookup p.1=some c:=fun p hp=>h p (mem_cons_of_mem _ hp)
  unfold cu
  by_cases hk:(k==NameKind.free)=true
  ·rw[if_pos hk];refine jT r _ (fun p hp=>?_) hr;rcases mem_cons.mp hp with e|hp
   ·subst e;obtain⟨c,hc⟩:=h (n,k) mem_cons_self (by simpa using hk);have hc':cells.lookup n=some c:=hc;show cells.lookup n=some ((cells.lookup n).getD 0);rw[hc'];rfl
   ·exact ha p hp
  ·rw[if_neg hk];exact jT r acc ha hr
theorem jI {cells:List (Str×Addr)}:∀(l:List (Str×NameKind)) (acc:List (Str×Addr)),∀p∈acc,p∈cu cells l acc
 | [],acc,p,h=>h
 | (n,k)::r,acc,p,h=>by
  unfold cu
  by_cases hk:(k==NameKind.free)=true
  ·rw[if_pos hk];exact jI r _ p (mem_cons_of_mem _ h)
  ·rw[if_neg hk];exact jI r acc p h
theorem jO {cells:List (Str×Addr)}:∀(l:List (Str×NameKind)) (acc:List (Str×Addr)) (n:Str),(n,NameKind.free)∈l→∃c,(n,c)∈cu cells l acc
 | [],acc,n,h=>by cases h
 | (m,k)::r,acc,n,h=>by
  unfold cu;rcases mem_cons.mp h with e|h
  ·cases e;rw[if_pos (by rfl)];exact⟨_,jI r _ _ mem_cons_self⟩
  ·by_cases hk:(k==NameKind.free)=true
   ·rw[if_pos hk];exact jO r _ n h
   ·rw[if_neg hk];exact jO r acc n h
theorem gM {l:List (Str×Addr)}{n:Str}{c:Addr}(h:(n,c)∈l):∃c',l.lookup n=some c':=by
 induction l with
 | nil=>cases h
 | cons p r ih=>
  obtain⟨m,d⟩:=p
  by_cases e:(n==m)=true
  ·exact⟨d,by simp[List.lookup,e]⟩
  ·have e':(n==m)=false:=by simpa using e
   rcases mem_cons.mp h with q|q
   ·cases q;simp at e
   ·obtain⟨c',hc⟩:=ih q;exact⟨c',by simp only[List.lookup,e'];exact hc⟩
theorem dS {env:Env}:∀{names:List (Str×NameKind)} {x:Str} {k:NameKind},
  (names.map fun(n,k)=>if(k==NameKind.free&&env.scope.kind==.function&&env.kindOf n==some .cell) then(n,NameKind.cell) else(n,k)).lookup x=some k→
   names.lookup x=some k∨(k=.cell∧names.lookup x=some .free)
 | [],_,_,h=>by simp at h
 | (n,k')::r,x,k,h=>by
  have ih:=@dS env r x k;have h:List.lookup x ((if(k'==NameKind.free&&env.scope.kind==.function&&env.kindOf n==some .cell)=true then(n,NameKind.cell) else(n,k'))::_)=some k:=h
  by_cases hc:(k'==NameKind.free&&env.scope.kind==.function&&env.kindOf n==some .cell)=true
  ·rw[if_pos hc] at h;cases hx:x==n with
   | true=>
    simp only[lookup_cons,hx] at h ⊢;cases h;have:k'=.free:=by
     rw[Bool.and_eq_true,Bool.and_eq_true] at hc;simpa using hc.1.1
    subst this;exact .inr ⟨rfl,rfl⟩
   | false=>
    simp only[lookup_cons,hx] at h ⊢;exact ih h
  ·rw[if_neg hc] at h;cases hx:x==n with
   | true=>
    simp only[lookup_cons,hx] at h ⊢;exact .inl h
   | false=>
    simp only[lookup_cons,hx] at h ⊢;exact ih h
def bP (sc:Scope)(fk:Str→Option NameKind)(xs:List Str)(R N:List Str):Bool:=
 decide (sc.kind=.function)&&xs.all (fun x=>sc.names.lookup x==some .local) &&
 sc.names.all (fun p=>match p.2 with
  | .cell=>false
  | .local=>(xs.contains p.1||p.1==(".0":Str))&&sc.names.lookup p.1==some .local
  | .free=>fk p.1==some .cell||fk p.1==some .free
  | _=>true) &&
 decide ((xs++R).Nodup)&&!(R.contains (".0":Str))&&R.length==N.length &&
 (R.zip N).all (fun p=>p.1==p.2||sc.names.lookup p.1 != some .free)
structure bv (sc:Scope)(fk:Str→Option NameKind)(xs:List Str)(R N:List Str):Prop where
 kind:sc.kind=.function
 own:∀x∈xs,sc.names.lookup x=some .local
 nocell:∀p∈sc.names,p.2≠.cell
 locs:∀p∈sc.names,p.2=.local→p.1∈xs∨p.1=(".0":Str)
 lnames:∀p∈sc.names,p.2=.local→sc.names.lookup p.1=some .local
 free:∀p∈sc.names,p.2=.free→fk p.1=some .cell∨fk p.1=some .free
 nd:(xs++R).Nodup
 no0:(".0":Str)∉R
 len:R.length=N.length
 same:∀(i:Nat) y,R[i]?=some y→sc.names.lookup y=some .free→N[i]?=some y
theorem bv.of {sc:Scope}{fk:Str→Option NameKind}{xs:List Str}{R N:List Str}(h:bP sc fk xs R N=true):bv sc fk xs R N:=by
 unfold bP at h;simp only[Bool.and_eq_true,decide_eq_true_eq,all_eq_true,Bool.not_eq_true',beq_iff_eq] at h;obtain⟨⟨⟨⟨⟨⟨h1,h2⟩,h3⟩,h4⟩,h5⟩,h6⟩,h7⟩:=h;refine⟨h1,h2,fun p hp e=>?_,fun p hp e=>?_,fun p hp e=>?_,fun p hp e=>?_,h4,?_,h6,fun i y hy hf=>?_⟩
 ·have:=h3 p hp;rw[e] at this;simp at this
 ·have:=h3 p hp;rw[e] at this;simp at this;exact this.1
 ·have:=h3 p hp;rw[e] at this;simp at this;exact this.2
 ·have:=h3 p hp;rw[e] at this;simp at this;exact this
 ·intro hm;have:R.contains (".0":Str)=true:=by simpa using hm
  rw[this] at h5;cases h5
 ·obtain⟨hi,e⟩:=List.getElem?_eq_some_iff.mp hy;have hn:i<N.length:=by rw[←h6];exact hi
  have hz:(R[i],N[i])∈R.zip N:=by
   rw[mem_iff_getElem];exact⟨i,by simp;omega,by simp⟩
  have:=h7 _ hz;simp only[Bool.or_eq_true,beq_iff_eq,bne_iff_ne,ne_eq] at this;rcases this with q|q
  ·rw[getElem?_eq_getElem hn,←q,e]
  ·rw[e] at q;exact absurd hf q
def ay (X:Cx)(scope:Scope)(xs:List Str)(R:List Str)(fp:List Addr)(s:Shared)(H:Hp)(C:Addr):Cx where
 prog:=X.prog
 w:=X.w
 K:=X.K
 mg:=X.mg
 base:=X.base
 A:=X.A
 N:=xs++R
 s₀:=s
 H₀:=H
 env:=compEnvC scope (cu X.env.cells scope.names []) C X.env
 outer:=X.stack
 stack:=X.stack
 ex:=fp
 fn:=fun _=>false
 calm:=X.calm
 pn:=[]
 xe:=fun _ _=>False
section
variable {X:Cx}{ae:List (Addr×Obj)}{σ:L2.St}{H:Hp}{s:Shared}{scope:Scope}{xs:List Str}{R:List Str}{fp:List Addr}{C:Addr}
theorem bv.cells (S:bv scope X.env.kindOf xs R X.N)(I:L2.Inv X ae σ H s):∀p∈scope.names,p.2=.free→∃c,X.env.cells.lookup p.1=some c:=fun p hp e=>I.ok.has p.1 (S.free p hp e)
theorem bN (S:bv scope X.env.kindOf xs R X.N)(I:L2.Inv X ae σ H s){y:Str}{c:Addr}(h:(cu X.env.cells scope.names []).lookup y=some c):X.env.cells.lookup y=some c:=
 jT scope.names [] (fun _ z=>by cases z) (S.cells I) (y,c) (PySem.mem_of_lookup h)
theorem rY {h4:Heap}{m:Str→Option Value}{tk:Nat}(S:bv scope X.env.kindOf xs R X.N)(I:L2.Inv X ae σ H s)(hC:s.heap.objs.size≤C)(k:∀b o,s.heap.get? b=some o→h4.get? b=some o)(hn:h4.Ns C m)
  (hf:∀b∈fp,gO X ae H b) (hfl:∀b∈fp,b<s.heap.objs.size):L2.Inv (ay X scope xs R fp s H C) [] (List.replicate xs.length none++σ) H {s with heap:=h4,toks:=tk}:=by
 have hkn:∀y kk,(relabel scope X.env).names.lookup y=some kk→(kk=.cell∨kk=.free)→scope.names.lookup y=some .free:=fun y kk e hk=>by
  rcases dS e with q|q
  ·rcases hk with z|z
   ·subst z;exact absurd rfl (S.nocell _ (PySem.mem_of_lookup q))
   ·subst z;exact q
  ·exact q.2
 have hasc:∀y,scope.names.lookup y=some .free→∃c,(cu X.env.cells scope.names []).lookup y=some c:=fun y e=>by
  obtain⟨c,hc⟩:=jO (cells:=X.env.cells) scope.names [] y (PySem.mem_of_lookup e);exact gM hc
 refine⟨⟨I.ok.mod,S.kind,I.ok.glob,I.ok.blt,hC,fun y z c h1 h2=>I.ok.inj y z c (bN S I h1) (bN S I h2),fun y hy=>?_,fun y c z=>absurd (show false=true from z) Bool.false_ne_true,I.ok.hd,I.ok.frames,.inl rfl,fun b hb=>⟨?_,fun y c e=>?_⟩,I.bs,Nat.le_trans I.ok.bsz I.sz,fun b o e hb=>?_,fun b hb z=>?_,I.stack,I.stkFree⟩,
  rfl,I.bare,Un.kept k,⟨m,hn,fun i y v h1 h2 h3=>?_⟩,fun y c e=>?_,I.hok.fresh hC,fun y c e=>I.freeC y c (bN S I e),fun p hp=>absurd (show p∈([]:List (Addr×Obj)) from hp) (by simp),I.hok.kept k,?_⟩
 ·rcases hy with e|e
  ·exact hasc y (hkn y _ e (.inl rfl))
  ·exact hasc y (hkn y _ e (.inr rfl))
 ·exact Nat.ne_of_lt (Nat.lt_of_lt_of_le (hfl b hb) hC)
 ·exact(hf b hb).2.2.2.2.1 y c (bN S I e)
 ·rcases(hf b hb).2.2.2.1 with z|z
  ·exact I.ok.noex b o e z
  ·exact absurd (Nat.lt_of_lt_of_le (Heap.lt_size e) (Nat.le_trans I.ok.bsz z)) (Nat.lt_irrefl _)
 ·rcases mem_cons.mp (I.stkSub b z) with e|e
  ·exact(hf b hb).2.1 e
  ·exact(hf b hb).2.2.1 e
 ·by_cases hi:i<xs.length
  ·exfalso;rw[getElem?_append_left (by rw[length_replicate];exact hi),getElem?_replicate,if_pos hi] at h2;cases h2
  ·obtain⟨i,rfl⟩:∃j,i=xs.length+j:=⟨i-xs.length,by omega⟩;have h1:R[i]?=some y:=by
    have h1:(xs++R)[xs.length+i]?=some y:=h1;rw[getElem?_append_right (by omega)] at h1;simpa using h1
   have h2:σ[i]?=some (some v):=by
    rw[getElem?_append_right (by rw[length_replicate];omega)] at h2;simpa using h2
   have hyR:y∈R:=mem_of_getElem? h1;have hf':scope.names.lookup y=some .free∧((relabel scope X.env).names.lookup y=some .cell∨(relabel scope X.env).names.lookup y=some .free):=by
    have h3:(relabel scope X.env).names.lookup y=some .local∨(relabel scope X.env).names.lookup y=some .cell∨(relabel scope X.env).names.lookup y=some .free:=h3;rcases h3 with e|e|e
    ·rcases dS e with q|q
     ·exfalso;rcases S.locs _ (PySem.mem_of_lookup q) rfl with z|z
      ·exact(nodup_append.mp S.nd).2.2 y z y hyR rfl
      ·have z:y=(".0":Str):=z;rw[z] at hyR;exact S.no0 hyR
     ·exact absurd q.1 (by intro z;cases z)
    ·exact⟨hkn y _ e (.inl rfl),.inl e⟩
    ·exact⟨hkn y _ e (.inr rfl),.inr e⟩
   have hN:=S.same i y h1 hf'.1;have hk:=S.free (y,.free) (PySem.mem_of_lookup hf'.1) rfl;obtain⟨mX,hnX,hl⟩:=I.loc;have vis:AJ X.env.scope y:=by
    rcases hk with z|z
    ·exact .inr (.inl z)
    ·exact .inr (.inr z)
   obtain⟨u,r,l⟩:=hl i y v hN h2 vis;refine⟨u,r,.inr ⟨hf'.2,?_⟩⟩;rcases l with⟨z,_⟩|⟨_,c,hc,o,ho,hod⟩
   ·exfalso;rcases hk with q|q
    ·have q:X.env.kindOf y=some .cell:=q;rw[z] at q;cases q
    ·have q:X.env.kindOf y=some .free:=q;rw[z] at q;cases q
   ·obtain⟨c',hc'⟩:=hasc y hf'.1;have:c'=c:=by
     have:=bN S I hc';rw[hc] at this;exact(Option.some.inj this).symm
    subst this;exact⟨c',hc',o,k _ _ ho,hod⟩
 ·obtain⟨v,o,ho,hd⟩:=I.cell y c (bN S I e);exact⟨v,o,k _ _ ho,hd⟩
 ·show(List.replicate xs.length none++σ).length=(xs++R).length;rw[length_append,length_append,length_replicate,I.len,S.len]
end
def cM (t:j9)(gc:GT)(ge:GE):List D→aZ→ax→aF (List D)
 | [],ρ,M=>if t.ok M then .ok [] M else .bad
 | d::r,ρ,M=>if t.ok M then
   match gc (some d::ρ) M with
   | .ok true M1=>match ge (some d::ρ) M1 with
    | .ok e M2=>(cM t gc ge r ρ M2).bind fun es M3=>.ok (e::es) M3
    | _=>.bad
   | .ok false M1=>cM t gc ge r ρ M1
   | _=>.bad
  else .bad
def bD:GT:=fun _ M=>.ok true M
def aI (t:j9)(n:Nat)(sg:GG)(gc:GT)(ge:GE):List D→aZ→ax→aF (List D)
 | [],ρ,M=>if t.ok M then .ok [] M else .bad
 | d::r,ρ,M=>if t.ok M then
   match sg d (List.replicate n none++ρ) with
   | none=>.bad
   | some ρ1=>match gc ρ1 M with
    | .ok true M1=>match ge ρ1 M1 with
     | .ok e M2=>(aI t n sg gc ge r ρ M2).bind fun es M3=>.ok (e::es) M3
     | _=>.bad
    | .ok false M1=>aI t n sg gc ge r ρ M1
    | _=>.bad
  else .bad
def bI (gi:GI)(n:Nat)(sg:GG)(gc:GT)(ge:GE)(mk:List D→ax→aF D):GE:=fun ρ M=>(gi ρ M).bind fun t M1=>(aI t n sg gc ge t.ds ρ M1).bind mk
theorem mi (t:j9)(gc:GT)(ge:GE):∀(ds:List D) (ρ:aZ) (M:ax),cM t gc ge ds ρ M=aI t 1 (cw 0) gc ge ds ρ M
 | [],ρ,M=>rfl
 | d::r,ρ,M=>by
  have ih:=mi t gc ge r;unfold cM aI;show _=(if t.ok M=true then(match gc (some d::ρ) M with
    | .ok true M1=>match ge (some d::ρ) M1 with
     | .ok e M2=>(aI t 1 (cw 0) gc ge r ρ M2).bind fun es M3=>.ok (e::es) M3
     | _=>.bad
    | .ok false M1=>aI t 1 (cw 0) gc ge r ρ M1
    | _=>.bad) else .bad)
  simp only[ih]
def l6 (n:Nat)(sg:GG):Prop:=∀d ρ ρ',sg d ρ=some ρ'→ρ'.length=ρ.length∧∀i:Nat,n≤i→ρ'[i]?=ρ[i]?
theorem oY {n i:Nat}(h:i<n):l6 n (cw i):=fun d ρ ρ' e=>by
 have e:some (ρ.set i (some d))=some ρ':=e;cases e;exact⟨by rw[length_set],fun j hj=>by rw[getElem?_set_ne (by omega)]⟩
theorem mO {n:Nat}:∀{is:List Nat} {ds:List D} {ρ ρ':aZ},is.all (fun i=>decide (i<n))=true→fW is ds ρ=some ρ'→ρ'.length=ρ.length∧∀i:Nat,n≤i→ρ'[i]?=ρ[i]?
 | [],[],ρ,ρ',_,e=>by cases e;exact⟨rfl,fun _ _=>rfl⟩
 | [],_::_,_,_,_,e=>by cases e
 | _::_,[],_,_,_,e=>by cases e
 | i::is,d::ds,ρ,ρ',h,e=>by
  rw[all_cons,Bool.and_eq_true] at h;have hi:i<n:=by simpa using h.1
  obtain⟨a,b⟩:=mO h.2 (show fW is ds (ρ.set i (some d))=some ρ' from e);exact⟨by rw[a,length_set],fun j hj=>by rw[b j hj,getElem?_set_ne (by omega)]⟩
theorem vd {n:Nat}{is:List Nat}(h:is.all (fun i=>decide (i<n))=true):l6 n (jY is):=fun d ρ ρ' e=>by
 cases d with
 | tup ds=>exact mO h e
 | _=>cases e
theorem l6.back {n:Nat}{sg:GG}{K:W.Frag}{θ:List Addr}{H:Hp}{τ:L2.St}{ρ ρ1:aZ}{d:D}(o:l6 n sg)(e:sg d (List.replicate n none++ρ)=some ρ1)(h:fO K θ H τ ρ1):fO K θ H τ (List.replicate n none++ρ):=by
 obtain⟨a,b⟩:=o _ _ _ e;refine⟨by rw[←a];exact h.len,fun i d' q=>?_⟩
 by_cases hi:i<n
 ·rw[getElem?_append_left (by rw[length_replicate];exact hi),getElem?_replicate,if_pos hi] at q;cases q
 ·rw[←b i (by omega)] at q;exact h.at_ i d' q
def aQ (gi:GI)(gc:GT)(ge:GE)(mk:List D→ax→aF D):GE:=fun ρ M=>(gi ρ M).bind fun t M1=>(cM t gc ge t.ds ρ M1).bind mk
theorem mS (elt target iter:Expr)(ifs:List Expr)(scope:Scope)(pos:Pos)(it acc:Value)(env:Env)(cond:Sem Bool)
  (hc:(forIn (m:=Sem) ifs true fun c r=>if r=true then do let ok ←isTrue c env (eval c env);pure (ForInStep.yield ok) else pure (ForInStep.yield r))=cond) :
  compTurn (.ListComp elt [⟨target,iter,ifs,0⟩] scope pos) 0 it acc env=(standAt iter.pos >>= fun _=>pyNext it >>= fun r=>match r with
   | none=>pure (.done .next)
   | some v=>letOwnedTupleGo target it v >>= fun _=>assign target env v >>= fun _=>cond >>= fun ok=>
    if ok=true then((eval elt env >>= fun x=>call (.builtin "list.append") [acc,x] >>= fun _=>pure ()) >>= fun _=>
     again (.compLoop (.ListComp elt [⟨target,iter,ifs,0⟩] scope pos) 0 it acc env)) else again (.compLoop (.ListComp elt [⟨target,iter,ifs,0⟩] scope pos) 0 it acc env)):=by
 subst hc;rfl
section
variable {prog:Program}{w:World}{A:Around}{R:Result→Shared→Prop}{s:Shared}
theorem fQ {elt target iter:Expr}{ifs:List Expr}{scope:Scope}{pos:Pos}{it acc:Value}{env:Env}{cond:Sem Bool}
  (hc:(forIn (m:=Sem) ifs true fun c r=>if r=true then do let ok ←isTrue c env (eval c env);pure (ForInStep.yield ok) else pure (ForInStep.yield r))=cond) (I:Nat→Shared→Prop)
  (turn:∀n s,I n s→wpAny (model prog w) A (pyNext it) (fun r s₁=>match r with
   | none=>R (.ok .next) s₁
   | some v=>wpAny (model prog w) A (letOwnedTupleGo target it v) (fun _ s₂=>wpAny (model prog w) A (assign target env v) (fun _ s₃=>wpAny (model prog w) A cond (fun ok s₄=>if ok=true then
     wpAny (model prog w) A (eval elt env) (fun x s₅=>wpAny (model prog w) A (call (.builtin "list.append") [acc,x]) (fun _ s₆=>∃m,m<n∧I m s₆) (fun _ _=>False) s₅) (fun _ _=>False) s₄
     else∃m,m<n∧I m s₄) (fun _ _=>False) s₃) (fun _ _=>False) s₂) (fun _ _=>False) s₁) (fun _ _=>False) s)
  (n:Nat) (h:I n s):codeAny (model prog w) A (.compLoop (.ListComp elt [⟨target,iter,ifs,0⟩] scope pos) 0 it acc env) R s:=by
 refine codeAny_loop rfl I (fun n s hI=>?_) n h;show wpAny _ _ ((compTurn (.ListComp elt [⟨target,iter,ifs,0⟩] scope pos) 0 it acc env).onRaise (fun x=>do noteFrame x env;theTreesLotGoes x)) _ _ s;refine wpAny_noted ?_;rw[mS _ _ _ _ _ _ _ _ _ _ hc];refine wpAny_bind (wpAny_standAt (wpAny_bind (wpAny_mono (turn n s hI) (fun r s₁ h₁=>?_) fun _ _ z=>z.elim)));cases r with
 | none=>exact wpAny_pure h₁
 | some v=>
  refine wpAny_bind (wpAny_mono h₁ (fun _ s₂ h₂=>?_) fun _ _ z=>z.elim);refine wpAny_bind (wpAny_mono h₂ (fun _ s₃ h₃=>?_) fun _ _ z=>z.elim);refine wpAny_bind (wpAny_mono h₃ (fun ok s₄ h₄=>?_) fun _ _ z=>z.elim);cases ok with
  | true=>
   rw[if_pos rfl] at h₄;rw[if_pos rfl];exact wpAny_bind (wpAny_bind (wpAny_mono h₄ (fun x s₅ h₅=>wpAny_bind (wpAny_mono h₅ (fun _ s₆ h₆=>wpAny_pure (wpAny_pure ⟨rfl,h₆⟩)) fun _ _ z=>z.elim)) fun _ _ z=>z.elim))
  | false=>
   rw[if_neg Bool.false_ne_true] at h₄;rw[if_neg Bool.false_ne_true];exact wpAny_pure ⟨rfl,h₄⟩
theorem nZ {env:Env}:(forIn (m:=Sem) ([]:List Expr) true fun c r=>if r=true then do let ok ←isTrue c env (eval c env);pure (ForInStep.yield ok) else pure (ForInStep.yield r))=pure true:=rfl
theorem pX {env:Env}{c:Expr}:(forIn (m:=Sem) [c] true fun c r=>if r=true then do let ok ←isTrue c env (eval c env);pure (ForInStep.yield ok) else pure (ForInStep.yield r))=isTrue c env (eval c env):=by
 rw[forIn_cons];simp
end
theorem wX {b a c:Nat}(h:b<a)(e:c=a+1):b≠c:=by omega
theorem tQ {b a c:Nat}(h:b<c)(e:c=a):a≠b:=by omega
theorem lB {b a c:Nat}(h:b<c)(e:c=a):b≠a:=by omega
abbrev dW (its:List Value)(n:Nat):Obj:={cls:=.type "list",data:=.seq its.toArray n}
section
variable {X:Cx}{ae:List (Addr×Obj)}{σ:L2.St}{s:Shared}{scope:Scope}{xs:List Str}{tg:Expr}{sg:GG}{R:List Str}{elt iter:Expr}{ifs:List Expr}{pos:Pos}{E:Value→Shared→Prop}
theorem vG {K:W.Frag}{θ:List Addr}{H:Hp}{σ:L2.St}{ρ:aZ}{n:Nat}(h:fO K θ H σ ρ):fO K θ H (List.replicate n none++σ) (List.replicate n none++ρ):=by
 refine⟨by rw[length_append,length_append,length_replicate,length_replicate,h.len],fun i d e=>?_⟩
 by_cases hi:i<n
 ·rw[getElem?_append_left (by rw[length_replicate];exact hi),getElem?_replicate,if_pos hi] at e;cases e
 ·rw[getElem?_append_right (by rw[length_replicate];omega),length_replicate] at e ⊢;exact h.at_ _ d e
inductive Fg (X0:Cx) (fp:List Addr) (tn:Nat→Heap→Prop) (K:W.Frag) (acc:Addr) (t:j9) (ρ0:aZ) (θ1:List Addr) (H2:Hp) (es:List D) (go:List D→ax→aF (List D)) (Mend:ax) (n:Nat) (s':Shared):Prop
 | mk (i:Nat) (τ:L2.St) (H':Hp) (θ':List Addr) (M':ax) (ds rest:List D) (vs:List V) (its:List Value) (na:Nat) (e1:n=t.ds.length-i) (e2:i≤t.ds.length)
   (e3:L2.Inv X0 [(acc,dW its na)] τ H' s') (e4:fO K θ' H' τ ρ0) (e5:tn i s'.heap) (e6:∀b∈fp,H' b=none) (e7:Go K θ1 H2 θ' H' M') (e8:aR K θ' H' ds vs) (e9:aM vs its) (e10:go (t.ds.drop i) M'=.ok rest Mend) (e11:ds++rest=es)
theorem jy {fp:List Addr}{it:Addr}{tn:Nat→Heap→Prop}{J:It}{H2:Hp}{s2:Shared}{t:j9}{M1:ax}{θ1:List Addr}{ρ:aZ}{gc:GT}{ge:GE}{es:List D}{Mend:ax}{RR:Value→Addr→Result→Shared→Prop}
  (S:bv scope X.env.kindOf xs R X.N) (hc:X.calm=true) (I2:L2.Inv X ae σ H2 s2) (T:nU X.prog X.w X.K tg J fp it tn) (st2:tn 0 s2.heap) (f2:∀b∈fp,gO X ae H2 b)
  (hw1:Wr X.K θ1 H2 M1) (hd1:fO X.K θ1 H2 σ ρ) (hJ:uR X.K J θ1 H2 t) (hgo:aI t xs.length sg gc ge t.ds ρ M1=.ok es Mend) (hlen:es.length≤sizeLine)
  (hcd:∀C,∃cond,(forIn (m:=Sem) ifs true fun c r=>if r=true then do let ok ←isTrue c (ay X scope xs R fp s2 H2 C).env (eval c (ay X scope xs R fp s2 H2 C).env);pure (ForInStep.yield ok) else pure (ForInStep.yield r))=cond∧
   ∀(ae:List (Addr×Obj)) (s:Shared) (σ:L2.St) (H:Hp) (Q:Bool→Hp→Prop),L2.Inv (ay X scope xs R fp s2 H2 C) ae σ H s→tT (ay X scope xs R fp s2 H2 C) gc σ H Q→wpAny (model X.prog X.w) X.A cond (TP (ay X scope xs R fp s2 H2 C) ae σ Q) (fun _ _=>False) s)
  (own:l6 xs.length sg) (hg:∀C,PG (ay X scope xs R fp s2 H2 C) tg (tG (ay X scope xs R fp s2 H2 C) sg))
  (he:∀C,PE (ay X scope xs R fp s2 H2 C) elt (tE (ay X scope xs R fp s2 H2 C) ge))
  (fin:∀(acc C:Addr) (s':Shared) (H':Hp) (θ':List Addr) (vs:List V) (m:Str→Option Value),L2.Inv X ae σ (cK H' acc (.lst vs)) s'→s'.heap.Ns C m→gO X ae (cK H' acc (.lst vs)) C→Go X.K θ1 H2 θ' H' Mend→H' acc=none→aR X.K θ' H' es vs→RR (.ref acc) C (.ok .next) s') :
  wpAny (model X.prog X.w) X.A (newList []) (fun acc s₃=>wpAny (model X.prog X.w) X.A (newFunctionEnv scope X.env.globals (cu X.env.cells scope.names []) [] X.env.qual none .none (some X.env)) (fun cenv s₄=>
   codeAny (model X.prog X.w) X.A (.compStart (.ListComp elt [⟨tg,iter,ifs,0⟩] scope pos) 0 (.ref it) acc {cenv with scope:=relabel scope X.env}) (RR acc cenv.locals) s₄) E s₃) E s2:=by
 refine wpAny_newObj_type (wpAny_newFunctionEnv S.nocell (by intro y hy;simp at hy) (fun h₁ hns₁ hsb₁=>?_) S.kind);dsimp only at hns₁ hsb₁ ⊢;generalize hHp:s2.heap.push {cls:=.type "list",dict:=none,data:=.seq ([]:List Value).toArray}=Hp2 at hns₁ hsb₁ ⊢;have hCe:Hp2.objs.size=s2.heap.objs.size+1:=by rw[←hHp,Heap.size_push]
 generalize hCd:Hp2.objs.size=C at hns₁ hsb₁ hCe ⊢;generalize hAd:s2.heap.objs.size=acc at hCe ⊢;have hDC:acc≠C:=by rw[hCe];exact Nat.ne_of_lt (Nat.lt_succ_self _)
 have old:∀b o,s2.heap.get? b=some o→h₁.get? b=some o:=fun b o e=>by
  have hb:b<acc:=by rw[←hAd];exact Heap.lt_size e
  refine hsb₁.extBut b o (wX hb hCe) (Heap.get?_push_of_some _ ?_);rw[←hHp];exact Heap.get?_push_of_some _ e
 have hacc0:h₁.get? acc=some (dW [] 0):=by
  refine hsb₁.extBut acc _ hDC (Heap.get?_push_of_some _ ?_);rw[←hHp,←hAd];exact Heap.get?_push_size _ rfl
 have hfl:∀b∈fp,b<s2.heap.objs.size:=fun b hb=>by
  obtain⟨o,e,_⟩:=T.obj 0 _ st2 b hb;exact Heap.lt_size e
 have hCs:s2.heap.objs.size≤C:=by omega
 have IY0:L2.Inv (ay X scope xs R fp s2 H2 C) [] (List.replicate xs.length none++σ) H2 {s2 with heap:=h₁,toks:=s2.toks+([]:List (Str×Value)).length}:=rY S I2 hCs old hns₁ f2 hfl;obtain⟨cond,hcond,hct⟩:=hcd C;have fpY:∀{H':Hp} {p:Obj},(∀b∈fp,H' b=none)→∀b∈fp,gO (ay X scope xs R fp s2 H2 C) [(acc,p)] H' b:=fun {H' p} hn b hb=>by
  refine⟨hn b hb,?_,fun z=>?_,.inl hb,fun y c e=>?_,fun q hq=>?_⟩
  ·exact Nat.ne_of_lt (Nat.lt_of_lt_of_le (hfl b hb) hCs)
  ·rcases mem_cons.mp (I2.stkSub b z) with e|e
   ·exact(f2 b hb).2.1 e
   ·exact(f2 b hb).2.2.1 e
  ·exact(f2 b hb).2.2.2.2.1 y c (bN S I2 e)
  ·have hq:q∈([]:List (Addr×Obj))++[(acc,p)]:=hq;have e:q=(acc,p):=by simpa using hq
   rw[e];exact tQ (hfl b hb) hAd
 have accF:∀b∈kf X.stack,acc≠b:=fun b hb e=>by
  have:acc∉X.env.locals::X.fs:=by
   intro z;rcases mem_cons.mp z with z|z
   ·exact tQ I2.lt hAd z
   ·exact I2.nofs (Nat.le_of_eq hAd) z
  exact this (e▸I2.stkSub b hb)
 have loop:∀s₃:Shared,s₃={s2 with heap:=h₁,toks:=s2.toks+([]:List (Str×Value)).length}→
   codeAny (model X.prog X.w) X.A (.compLoop (.ListComp elt [⟨tg,iter,ifs,0⟩] scope pos) 0 (.ref it) (.ref acc) (ay X scope xs R fp s2 H2 C).env) (RR (.ref acc) C) s₃:=by
  rintro s₃ rfl;have pin0:∀{σ':L2.St} {H':Hp} {s':Shared} {its:List Value} {n:Nat},L2.Inv (ay X scope xs R fp s2 H2 C) [] σ' H' s'→s'.heap.get? acc=some (dW its n)→H' acc=none→L2.Inv (ay X scope xs R fp s2 H2 C) [(acc,dW its n)] σ' H' s':=fun {σ' H' s' its n} I' e hn=>
   I'.pins_of fun p hp=>by
    have ep:p=(acc,dW its n):=by simpa using hp
    subst ep;exact⟨e,hn,hDC,fun z=>accF acc z rfl,fun v z=>by cases z⟩
  refine fQ hcond (Fg (ay X scope xs R fp s2 H2 C) fp tn X.K acc t (List.replicate xs.length none++ρ) θ1 H2 es (fun l N=>aI t xs.length sg gc ge l ρ N) Mend) ?_ t.ds.length
   ⟨0,_,H2,θ1,M1,[],es,[],[],0,rfl,Nat.zero_le _,pin0 IY0 hacc0 (I2.hok.fresh (Nat.le_of_eq hAd)),vG hd1,T.keep 0 _ _ st2 (fun b hb o e=>old b o e),fun b hb=>(f2 b hb).1,.refl hw1,rfl,.nil,hgo,rfl⟩
  rintro n s' ⟨i,τ,H',θ',M',ds,rest,vs,its,na,rfl,hil,I',dn',st',fr',g',rd',rv',hrest,hes⟩;have hok:t.ok M'=true:=by
   cases hq:t.ok M' with
   | true=>rfl
   | false=>
    exfalso;cases hdr:t.ds.drop i with
    | nil=>rw[hdr,aI,if_neg (by rw[hq];exact Bool.false_ne_true)] at hrest;cases hrest
    | cons d r=>rw[hdr,aI,if_neg (by rw[hq];exact Bool.false_ne_true)] at hrest;cases hrest
  obtain⟨hy,hst⟩:=hJ θ' H' M' g' hok i
  by_cases hlt:i<t.ds.length
  ·have e1:t.ds[i]?=some t.ds[i]:=getElem?_eq_getElem hlt;obtain⟨hgo',hyl⟩:=hy _ e1;rw[drop_eq_getElem_cons hlt,aI,if_pos hok] at hrest;refine cj (T.item (ay X scope xs R fp s2 H2 C) rfl rfl rfl hc i _ s' _ H' _ I' (fpY fr') st' hgo') fun r s4 hxx=>?_
   obtain⟨u,hr,h4⟩:=hxx;subst hr;refine cj h4 fun _ s5 hxx=>?_
   obtain⟨v,H5,I5,r5,y5,st5,fr5⟩:=hxx;obtain⟨gy,rx⟩:=hyl v H5 y5;have I5':=I5.pinned (fpY fr5) (T.obj _ _ st5);cases qs:sg t.ds[i] (List.replicate xs.length none++ρ) with
   | none=>rw[qs] at hrest;cases hrest
   | some ρ1=>
   rw[qs] at hrest;dsimp only at hrest;refine cj (hg C _ s5 _ H5 v u (fun σ6 H6=>fO X.K θ' H6 σ6 ρ1∧H6=H5) I5' r5 ⟨_,θ',M',t.ds[i],dn'.go gy,gy.wr,rx,ρ1,qs,fun σ6 d6=>⟨d6,rfl⟩⟩) fun _ s6 hxx=>?_
   obtain⟨σ6,H6,I6,hdY,eH6⟩:=hxx;subst eH6;cases qc:gc ρ1 M' with
   | bad=>rw[qc] at hrest;cases hrest
   | err c Mx=>rw[qc] at hrest;cases hrest
   | ok b Mb=>
    refine cj (hct _ s6 _ H6 (fun b' H7=>b'=b∧∃θ7,Go X.K θ' H6 θ7 H7 Mb) I6 ⟨_,θ',M',hdY,gy.wr,?_⟩) fun ok s7 ⟨H7,I7,eb,θ7,g7⟩=>?_
    ·rw[qc];exact fun θ7 H7 g7=>⟨rfl,θ7,g7⟩
    subst eb;have fpk:∀{s8:Shared} {σ8:L2.St} {H8:Hp},L2.Inv (ay X scope xs R fp s2 H2 C) ([(acc,dW its na)]++jN fp s5.heap) σ8 H8 s8→(∀b∈fp,H8 b=none)∧(∀b∈fp,∀o,s5.heap.get? b=some o→s8.heap.get? b=some o)∧s8.heap.get? acc=some (dW its na)∧H8 acc=none:=fun {s8 σ8 H8} I8=>by
     have pa:=I8.pin (acc,dW its na) (mem_append_right _ (mem_append_left _ (by simp)));refine⟨fun b hb=>?_,fun b hb o e=>(I8.pin (b,o) (mem_append_right _ (mem_append_right _ (fw hb e)))).1,pa.1,pa.2.1⟩;obtain⟨o,e,d⟩:=T.obj _ _ st5 b hb;exact(I8.pin (b,o) (mem_append_right _ (mem_append_right _ (fw hb e)))).2.1
    cases ok with
    | false=>
     rw[if_neg Bool.false_ne_true];rw[qc] at hrest;obtain⟨k1,k2,k3,k4⟩:=fpk I7;exact⟨t.ds.length-(i+1),by omega,i+1,σ6,H7,θ7,Mb,ds,rest,vs,its,na,rfl,hlt,I7.unpinned,own.back qs (hdY.go g7),T.keep _ _ _ st5 k2,k1,g'.trans (gy.trans g7),rd'.go (gy.trans g7),rv',hrest,hes⟩
    | true=>
     rw[if_pos rfl];rw[qc] at hrest;have hrest:(match ge ρ1 Mb with
      | .ok e M2=>(aI t xs.length sg gc ge (t.ds.drop (i+1)) ρ M2).bind fun es M3=>.ok (e::es) M3
      | _=>.bad)=aF.ok rest Mend:=hrest
     cases qe:ge ρ1 Mb with
     | bad=>rw[qe] at hrest;cases hrest
     | err c Mx=>rw[qe] at hrest;cases hrest
     | ok dv Mv=>
      rw[qe] at hrest;have hrest:((aI t xs.length sg gc ge (t.ds.drop (i+1)) ρ Mv).bind fun es M3=>aF.ok (dv::es) M3)=aF.ok rest Mend:=hrest;refine cj (he C _ s7 _ H7 (fun w H8=>∃θ8,Go X.K θ7 H7 θ8 H8 Mv∧cX X.K θ8 H8 dv w) I7 ⟨_,θ7,Mb,hdY.go g7,g7.wr,?_⟩) fun uv s8 ⟨w,H8,I8,rw8,θ8,g8,rd8⟩=>?_
      ·rw[qe];exact fun w θ8 H8 g8 rd8=>⟨θ8,g8,rd8⟩
      obtain⟨k1,k2,k3,k4⟩:=fpk I8;cases qr:aI t xs.length sg gc ge (t.ds.drop (i+1)) ρ Mv with
      | bad=>rw[qr] at hrest;cases hrest
      | err c Mx=>rw[qr] at hrest;cases hrest
      | ok rest' Mr=>
       rw[qr] at hrest;have hrest:aF.ok (dv::rest') Mr=aF.ok rest Mend:=hrest;cases hrest;have hsz:its.length<sizeLine:=by
        have e2:(ds++dv::rest').length≤sizeLine:=by rw[hes];exact hlen
        rw[length_append,length_cons,ar rd',rv'.length] at e2;omega
       refine call_meets F.slot_list_append ⟨_,k3,rfl⟩ F.entry_list_append (F.args_list_append_2 _ _) (PySem.list_append acc its.toArray na uv (by rw[size_toArray];omega)) ⟨k3,?_⟩;have qup:=PySem.IsL.update k3 (fun a=>a.push uv);have eup:(its.toArray.push uv)=(its++[uv]).toArray:=by simp
       have keepb:∀b o,b≠acc→s8.heap.get? b=some o→(s8.heap.update acc (Obj.mapSeq fun a=>a.push uv)).get? b=some o:=fun b o hb e=>(Heap.get?_update_other s8.heap _ (Ne.symm hb)).trans e
       have I9:L2.Inv (ay X scope xs R fp s2 H2 C) [] σ6 H8 {s8 with heap:=s8.heap.update acc (Obj.mapSeq fun a=>a.push uv),toks:=s8.toks}:=by
        refine Inv.turned (it:=acc) (I8.pins_of (pins':=[]) fun p hp=>absurd hp (by simp)) keepb k4 hDC (.inr (Nat.le_of_eq hAd)) (fun y c e z=>?_) fun p hp=>absurd (show p∈([]:List (Addr×Obj)) from hp) (by simp)
        obtain⟨v',o,ho,hdd⟩:=I2.cell y c (bN S I2 e);exact lB (Heap.lt_size ho) hAd z
       obtain⟨n',eq'⟩:∃n',(s8.heap.update acc (Obj.mapSeq fun a=>a.push uv)).get? acc=some (dW (its++[uv]) n'):=by
        have q2:=qup;rw[eup] at q2;exact⟨_,q2⟩
       exact⟨t.ds.length-(i+1),by omega,i+1,σ6,H8,θ8,Mv,ds++[dv],rest',vs++[w],its++[uv],n',rfl,hlt,pin0 I9 eq' k4,own.back qs (hdY.go (g7.trans g8)),T.keep _ _ _ st5 (fun b hb o e=>keepb b o (lB (hfl b hb) hAd) (k2 b hb o e)),k1,g'.trans (gy.trans (g7.trans g8)),bM (rd'.go (gy.trans (g7.trans g8))) ⟨w,[],rfl,rd8,rfl⟩,rv'.append (.cons rw8 .nil),qr,by rw[←hes];simp⟩
  ·have e:i=t.ds.length:=by omega
   subst e;rw[drop_length,aI,if_pos hok] at hrest;cases hrest;have hes:ds=es:=by rw[←hes];simp
   subst hes;refine cj (T.done (ay X scope xs R fp s2 H2 C) rfl rfl rfl hc _ _ s' _ H' _ I' (fpY fr') st' (hst (Nat.le_refl _))) fun r s4 hxx=>?_
   obtain⟨hr,I4⟩:=hxx;subst hr;have pa:=I4.pin (acc,dW its na) (mem_append_right _ (by simp));have e4:s4.heap.get? acc=some (dW its na):=pa.1;have n4:H' acc=none:=pa.2.1;have lv:vs.length≤sizeLine:=by rw[←ar rd'];exact hlen
   obtain⟨mC,hnC,_⟩:=I4.loc;have hHC:H' C=none:=I4.free;have t8:Un (kf X.stack) fp H2 H' s2.heap s4.heap:=I4.base;have neA:∀{b:Addr} {o:Obj},s2.heap.get? b=some o→b≠acc:=fun {b o} e=>lB (Heap.lt_size e) hAd
   have neH:∀{b:Addr} {u:HO},H' b=some u→b≠acc:=fun {b u} e z=>by rw[z,n4] at e;cases e
   have un4:Un (kf X.stack) fp H2 (cK H' acc (.lst vs)) s2.heap s4.heap:=by
    refine⟨t8.keep,t8.slot,fun b o e n hx=>?_,t8.there,fun b xs e=>?_,fun b o u e=>?_,fun b ps e=>?_⟩
    ·rw[aL (neA e)];exact t8.free b o e n hx
    ·have z:=t8.tups b xs e;rw[aL (neH z)];exact z
    ·have z:=t8.frzs b o u e;rw[aL (neH z)];exact z
    ·obtain⟨more,z⟩:=t8.tbls b ps e;exact⟨more,by rw[aL (neH z)];exact z⟩
   have hok4:i8 X.prog X.w (cK H' acc (.lst vs)) s4.heap:=fun b u e=>by
    by_cases hb:b=acc
    ·subst hb;rw[dZ] at e;cases e;exact⟨lv,its,na,rv',e4⟩
    ·rw[aL hb] at e;exact(I4.hok b u e).stay (fun c v _ q=>q) (fun c q=>by rw[aL (neH q)];exact q) fun c xs q=>by rw[aL (neH q)];exact q
   have IX:L2.Inv X ae σ (cK H' acc (.lst vs)) s4:=I2.call' (ch:=fp) I4.os un4 hok4 I4.bare fun b hb=>⟨(f2 b hb).2.2.2.1,(f2 b hb).2.1,(f2 b hb).2.2.2.2.1,(f2 b hb).2.2.2.2.2⟩
   refine fin acc C s4 H' θ' vs mC IX hnC (I2.fpOk hCs ?_) g' n4 rd';rw[aL (Ne.symm hDC)];exact hHC
 exact codeAny_compStart_list (loop _ rfl) (T.self _ 0 _ _ _ (T.keep 0 _ _ st2 fun b hb o e=>old b o e) (loop _ rfl))
end
section
variable {X:Cx}{scope:Scope}{xs:List Str}{tg:Expr}{sg:GG}{x:Str}{px:Pos}{R:List Str}{elt iter:Expr}{ifs:List Expr}{pos:Pos}{gi:GI}{gc:GT}{ge:GE}
def Ar (mk:List D→ax→aF D):Prop:=∀(X:Cx) (θ:List Addr) (H:Hp) (Q:VK) (ds:List D) (M:ax) (vs:List V),aH X θ H Q (mk ds M)→Wr X.K θ H M→aR X.K θ H ds vs→vs.length≤sizeLine∧∀p,H p=none→Q (.ref p) (cK H p (.lst vs))
theorem tD:Ar aC:=fun X θ H Q ds M vs h hw r=>aH.lst h hw r
theorem ui:Ar b0:=fun X θ H Q ds M vs h hw r=>aH.mut h hw r
theorem uz {mk:List D→ax→aF D}(hm:mk=aC∨mk=b0){X:Cx}{θ:List Addr}{H:Hp}{Q:VK}{ds:List D}{M:ax}(h:aH X θ H Q (mk ds M)):ds.length≤sizeLine:=by
 rcases hm with e|e <;> subst e
 ·unfold aC at h;split at h
  ·assumption
  ·exact h.elim
 ·unfold b0 at h;split at h
  ·assumption
  ·exact h.elim
theorem xI {mk:List D→ax→aF D}(hm:mk=aC∨mk=b0):Ar mk:=by
 rcases hm with e|e <;> subst e
 ·exact tD
 ·exact ui
def fg (X:Cx)(scope:Scope)(xs:List Str)(R:List Str)(ifs:List Expr)(gc:GT):Prop:=∀fp s2 H2 C,∃cond,(forIn (m:=Sem) ifs true fun c r=>if r=true then do let ok ←isTrue c (ay X scope xs R fp s2 H2 C).env (eval c (ay X scope xs R fp s2 H2 C).env);pure (ForInStep.yield ok) else pure (ForInStep.yield r))=cond∧
   ∀(ae:List (Addr×Obj)) (s:Shared) (σ:L2.St) (H:Hp) (Q:Bool→Hp→Prop),L2.Inv (ay X scope xs R fp s2 H2 C) ae σ H s→tT (ay X scope xs R fp s2 H2 C) gc σ H Q→wpAny (model X.prog X.w) X.A cond (TP (ay X scope xs R fp s2 H2 C) ae σ Q) (fun _ _=>False) s
theorem sN:fg X scope xs R [] bD:=fun fp s2 H2 C=>⟨_,nZ,fun ae s σ H Q I ⟨ρ,θ,M,hd,hw,h⟩=>wpAny_pure ⟨H,I,h θ H (.refl hw)⟩⟩
theorem uL {c:Expr}(h:∀fp s2 H2 C,PT (ay X scope xs R fp s2 H2 C) c (tT (ay X scope xs R fp s2 H2 C) gc)):fg X scope xs R [c] gc:=fun fp s2 H2 C=>⟨_,pX,fun ae s σ H Q I q=>h fp s2 H2 C ae s σ H Q I q⟩
theorem fj {t:j9}{n:Nat}{sg:GG}{gc:GT}{ge:GE}{ρ:aZ}{c:Str}{M':ax}:∀(ds:List D) (M:ax),aI t n sg gc ge ds ρ M=.err c M'→False
 | [],M,h=>by
  unfold aI at h;split at h <;> cases h
 | d::r,M,h=>by
  unfold aI at h;split at h
  ·split at h
   ·cases h
   ·split at h
    ·rename_i M1 q1;split at h
     ·rename_i e M2 q2;cases q:aI t n sg gc ge r ρ M2 with
      | ok es M3=>rw[q] at h;cases h
      | err c2 M3=>exact fj r M2 q
      | bad=>rw[q] at h;cases h
     ·cases h
    ·rename_i M1 q1;exact fj r M1 h
    ·cases h
  ·cases h
theorem mn {mk:List D→ax→aF D}(hS:bP scope X.env.kindOf xs R X.N=true)(hc:X.calm=true)(hm:mk=aC∨mk=b0)(hi:PI X tg iter (tI X gi))(own:l6 xs.length sg)(hg:∀fp s H C,PG (ay X scope xs R fp s H C) tg (tG (ay X scope xs R fp s H C) sg))(hts:fg X scope xs R ifs gc)
  (he:∀fp s H C,PE (ay X scope xs R fp s H C) elt (tE (ay X scope xs R fp s H C) ge))
  (hs:∀x,foldedSetIterable iter X.env x=pure x:=by intro _;rfl):PE X (.ListComp elt [⟨tg,iter,ifs,0⟩] scope pos) (tE X (bI gi xs.length sg gc ge mk)):=by
 have S:=bv.of hS;intro ae s σ H Q I h;obtain⟨ρ,θ,M,hd,hw,h⟩:=h;rw[eval_ListComp];refine wpAny_comprehension_free (use:=none) rfl hs (il (S.cells I)) S.kind S.lnames ?_;refine cj (hi ae s σ H (fun J H2=>∃t M1 θ1,gi ρ M=.ok t M1∧Go X.K θ H θ1 H2 M1∧uR X.K J θ1 H2 t) I ⟨ρ,θ,M,hd,hw,?_⟩) fun v s1 h1=>cj h1 fun itv s2 h2=>?_
 ·cases q:gi ρ M with
  | ok t M1=>exact fun J θ1 H1 g1 hJ=>⟨t,M1,θ1,rfl,g1,hJ⟩
  | err c M1=>unfold bI at h;rw[q] at h;exact h
  | bad=>unfold bI at h;rw[q] at h;exact h
 obtain⟨it,fp,tn,J,H2,rfl,I2,T,st2,f2,t,M1,θ1,eg,g1,hJ⟩:=h2;unfold bI at h;rw[eg] at h;have h:aH X θ H Q ((aI t xs.length sg gc ge t.ds ρ M1).bind mk):=h;cases q:aI t xs.length sg gc ge t.ds ρ M1 with
 | bad=>rw[q] at h;exact h.elim
 | err c Mx=>exact(fj _ _ q).elim
 | ok es Mend=>
  rw[q] at h;have h:aH X θ H Q (mk es Mend):=h;refine jy (RR:=fun acc C=>compPost (model X.prog X.w) X.A X.xe none (EP X ae σ Q) acc C) S hc I2 T st2 f2 g1.wr (hd.go g1) hJ q (uz hm h) (fun C=>hts fp s2 H2 C) own (fun C=>hg fp s2 H2 C) (fun C=>he fp s2 H2 C) ?_;intro acc C s' H' θ' vs m IX hnC fC g' na rd;refine⟨m,hnC,fun h' sb=>?_⟩;have I3:L2.Inv X ae σ (cK H' acc (.lst vs)) {s' with heap:=h',toks:=s'.toks}:=IX.turned (it:=C) (fun b o hb e=>(sb.2 b hb).trans e) fC.1 fC.2.1 fC.2.2.2.1 fC.2.2.2.2.1 fC.2.2.2.2.2;exact⟨.ref acc,_,I3,rfl,(xI hm X θ' H' Q es Mend vs (aH.go (g1.trans g') h) g'.wr rd).2 acc na⟩
theorem mQ {mk:List D→ax→aF D}{j:Nat}{y:Str}{py spos:Pos}(hS:bP scope X.env.kindOf xs R X.N=true)(hc:X.calm=true)(hm:mk=aC∨mk=b0)(hi:PI X tg iter (tI X gi))(own:l6 xs.length sg)(hg:∀fp s H C,PG (ay X scope xs R fp s H C) tg (tG (ay X scope xs R fp s H C) sg))(hts:fg X scope xs R ifs gc)
  (he:∀fp s H C,PE (ay X scope xs R fp s H C) elt (tE (ay X scope xs R fp s H C) ge))
  (hN:X.N.Nodup) (hj:X.N[j]?=some y) (hy:X.env.scope.names.lookup y=some .local)
  (hsw:swapsWith (.ListComp elt [⟨tg,iter,ifs,0⟩] scope pos) (some (.Name y py)) spos.line X.env=pure true)
  (hs:∀x,foldedSetIterable iter X.env x=pure x:=by intro _;rfl):PS X (.Assign [.Name y py] (.ListComp elt [⟨tg,iter,ifs,0⟩] scope pos) spos) (tS X (aw j (bI gi xs.length sg gc ge mk))):=by
 have S:=bv.of hS;intro ae s σ H Q I h;obtain⟨ρ,θ,M,hd,hw,h⟩:=h;rw[exec_Assign_Name_used _ _ _ _ hsw];refine wpAny_bind (wpAny_standAt (wpAny_bind ?_));show wpAny _ X.A (do let _ ←comprehension (.ListComp elt [⟨tg,iter,ifs,0⟩] scope pos) scope X.env _ (newList []) false (eval iter X.env) (some (assign (.Name y py) X.env))) _ _ s;refine wpAny_bind (wpAny_mono (wpAny_comprehension_free (use:=some (assign (.Name y py) X.env)) (Q:=fun _ s'=>SP X ae Q .next s') rfl hs (il (S.cells I)) S.kind S.lnames ?_) (fun _ s' hq=>wpAny_pure (wpAny_pure hq)) fun _ _ e=>e);refine cj (hi ae s σ H (fun J H2=>∃t M1 θ1,gi ρ M=.ok t M1∧Go X.K θ H θ1 H2 M1∧uR X.K J θ1 H2 t) I ⟨ρ,θ,M,hd,hw,?_⟩) fun v s1 h1=>cj h1 fun itv s2 h2=>?_
 ·cases q:gi ρ M with
  | ok t M1=>exact fun J θ1 H1 g1 hJ=>⟨t,M1,θ1,rfl,g1,hJ⟩
  | err c M1=>unfold aw bI at h;rw[q] at h;exact h
  | bad=>unfold aw bI at h;rw[q] at h;exact h
 obtain⟨it,fp,tn,J,H2,rfl,I2,T,st2,f2,t,M1,θ1,eg,g1,hJ⟩:=h2;unfold aw bI at h;rw[eg] at h;have h:bB X θ H Q (((aI t xs.length sg gc ge t.ds ρ M1).bind mk).bind fun d M2=>.ok (.nx (ρ.set j (some d))) M2):=h;cases q:aI t xs.length sg gc ge t.ds ρ M1 with
 | bad=>rw[q] at h;exact h.elim
 | err c Mx=>exact(fj _ _ q).elim
 | ok es Mend=>
  rw[q] at h;have h:bB X θ H Q ((mk es Mend).bind fun d M2=>.ok (.nx (ρ.set j (some d))) M2):=h;have hE:aH X θ H (fun v H'=>∃θ' M',Go X.K θ H θ' H' M'∧∃d,mk es Mend=.ok d M'∧cX X.K θ' H' d v) (mk es Mend):=by
   cases qm:mk es Mend with
   | ok d M2=>exact fun v θ' H' g' r=>⟨θ',M2,g',d,rfl,r⟩
   | err c M2=>rw[qm] at h;exact h
   | bad=>rw[qm] at h;exact h
  refine jy (RR:=fun acc C=>compPost (model X.prog X.w) X.A X.xe (some (assign (.Name y py) X.env)) (fun _ s'=>SP X ae Q .next s') acc C) S hc I2 T st2 f2 g1.wr (hd.go g1) hJ q (uz hm hE) (fun C=>hts fp s2 H2 C) own (fun C=>hg fp s2 H2 C) (fun C=>he fp s2 H2 C) ?_;intro acc C s' H' θ' vs m IX hnC fC g' na rd;obtain⟨θe,Me,ge',d,ed,rde⟩:=(xI hm X θ' H' _ es Mend vs (aH.go (g1.trans g') hE) g'.wr rd).2 acc na;show wpAny _ X.A (assign (.Name y py) X.env (.ref acc)) _ _ s';refine wpAny_assign_Name (kQ IX hN hj (.inl hy) (v:=.ref acc) rfl (fun s3 I3 hxx=>?_) (.inr hy));obtain⟨a,sa,ha⟩:=hxx;have hCa:C≠a:=by
   rcases ha with e|e
   ·rw[e];exact fC.2.1
   ·exact fun z=>fC.2.2.2.2.1 y a e z.symm
  refine⟨m,hnC.sameBut sa hCa,fun h' sb=>?_⟩;have I4:L2.Inv X ae (σ.set j (some (.ref acc))) (cK H' acc (.lst vs)) {s3 with heap:=h',toks:=s3.toks}:=I3.turned (it:=C) (fun b o hb e=>(sb.2 b hb).trans e) fC.1 fC.2.1 fC.2.2.2.1 fC.2.2.2.2.1 fC.2.2.2.2.2;rw[ed] at h;exact⟨_,_,I4,h _ θe _ ge' ((hd.go ge').set rde j)⟩
theorem pS {px:Pos}(hS:bP scope X.env.kindOf [x] R X.N=true)(fp:List Addr)(s:Shared)(H:Hp)(C:Addr):PG (ay X scope [x] R fp s H C) (.Name x px) (tG (ay X scope [x] R fp s H C) (cw 0)):=
 have S:=bv.of hS
 lL (X:=ay X scope [x] R fp s H C) S.nd rfl (.inl (lookup_relabel_local (S.own x (by simp)))) (.inr (lookup_relabel_local (S.own x (by simp))))
theorem oV (mk:List D→ax→aF D):aQ gi gc ge mk=bI gi 1 (cw 0) gc ge mk:=by
 funext ρ M;unfold aQ bI;simp only[mi]
theorem wG {mk:List D→ax→aF D}(hS:bP scope X.env.kindOf [x] R X.N=true)(hc:X.calm=true)(hm:mk=aC∨mk=b0)(hi:PI X (.Name x px) iter (tI X gi))(hts:fg X scope [x] R ifs gc)
  (he:∀fp s H C,PE (ay X scope [x] R fp s H C) elt (tE (ay X scope [x] R fp s H C) ge))
  (hs:∀x,foldedSetIterable iter X.env x=pure x:=by intro _;rfl):PE X (.ListComp elt [⟨.Name x px,iter,ifs,0⟩] scope pos) (tE X (aQ gi gc ge mk)):=by
 rw[oV];exact mn (xs:=[x]) hS hc hm hi (oY (Nat.zero_lt_one)) (pS hS) hts he hs
theorem nO {mk:List D→ax→aF D}{j:Nat}{y:Str}{py spos:Pos}(hS:bP scope X.env.kindOf [x] R X.N=true)(hc:X.calm=true)(hm:mk=aC∨mk=b0)(hi:PI X (.Name x px) iter (tI X gi))(hts:fg X scope [x] R ifs gc)
  (he:∀fp s H C,PE (ay X scope [x] R fp s H C) elt (tE (ay X scope [x] R fp s H C) ge))
  (hN:X.N.Nodup) (hj:X.N[j]?=some y) (hy:X.env.scope.names.lookup y=some .local)
  (hsw:swapsWith (.ListComp elt [⟨.Name x px,iter,ifs,0⟩] scope pos) (some (.Name y py)) spos.line X.env=pure true)
  (hs:∀x,foldedSetIterable iter X.env x=pure x:=by intro _;rfl):PS X (.Assign [.Name y py] (.ListComp elt [⟨.Name x px,iter,ifs,0⟩] scope pos) spos) (tS X (aw j (aQ gi gc ge mk))):=by
 rw[oV];exact mQ (xs:=[x]) hS hc hm hi (oY (Nat.zero_lt_one)) (pS hS) hts he hN hj hy hsw hs
end
def cB:List D→Option (List Bool)
 | []=>some []
 | .bl b::r=>(cB r).map (b::·)
 | _=>none
def kg:FD:=fun ds M=>match ds with
 | [d]=>match bH d M with
  | some xs=>match cB xs with
   | some bs=>.ok (.bl (bs.all id)) M
   | none=>.bad
  | none=>.bad
 | _=>.bad
theorem gz {K:W.Frag}{θ:List Addr}{H:Hp}:∀{ds:List D} {vs:List V} {us:List Value} {bs:List Bool},aR K θ H ds vs→aM vs us→cB ds=some bs→us=bs.map Value.bool
 | [],vs,us,bs,r,q,e=>by
  have e1:vs=[]:=r;subst e1;cases q;cases e;rfl
 | d::ds,vs,us,bs,r,q,e=>by
  obtain⟨v,rr,e1,h1,h2⟩:=r;subst e1;cases d with
  | bl b=>
   cases qb:cB ds with
   | none=>simp[cB,qb] at e
   | some bs'=>
    simp[cB,qb] at e;subst e;have e2:v=.bl b:=h1;subst e2;cases q with
    | cons q1 q2=>
     cases q1;rw[map_cons,gz h2 q2 qb]
  | _=>simp[cB] at e
theorem rm (bs:List Bool):(List.range bs.length).all (fun i=>bs.getD i false)=bs.all id:=by
 rw[Bool.eq_iff_iff];simp only[all_eq_true,mem_range,id];constructor
 ·intro h b hb;obtain⟨i,hi,e⟩:=mem_iff_getElem.mp hb;have:=h i hi;rw[getD_eq_getElem?_getD,getElem?_eq_getElem hi] at this;rw[←e];exact this
 ·intro h i hi;rw[getD_eq_getElem?_getD,getElem?_eq_getElem hi];exact h _ (getElem_mem hi)
section
variable {X:Cx}
theorem iR {prog:Program}{w:World}{A:Around}(bs:List Bool):TruthOf prog w A (fun i v=>((bs.map Value.bool).toArray)[i]?=some v) (fun i=>bs.getD i false):=fun i v s Q E hP hQ=>by
 have hP:(bs.map Value.bool)[i]?=some v:=by simpa using hP
 rw[getElem?_map] at hP;cases q:bs[i]? with
 | none=>rw[q] at hP;cases hP
 | some b=>
  rw[q] at hP;cases hP;have e:bs.getD i false=b:=by rw[getD_eq_getElem?_getD,q];rfl
  dsimp only at hQ;rw[e] at hQ;exact wpAny_truthy_bool hQ
theorem nA {ae:List (Addr×Obj)}{σ:L2.St}{H:Hp}{s:Shared}{d:D}{θ:List Addr}{M:ax}{xs:List D}{bs:List Bool}{v:V}{u:Value}(hc:X.calm=true)(I:L2.Inv X ae σ H s)(hw:Wr X.K θ H M)(rv:cX X.K θ H d v)(ru:aW v u)(q:bH d M=some xs)(qb:cB xs=some bs){Q:Bool→Hp→Prop}{f:(Nat→Bool)→Nat→Bool}{E:Value→Shared→Prop}
  (h:∀h' tk,L2.Inv X ae σ H {s with heap:=h',toks:=tk}→Q (f (fun i=>bs.getD i false) bs.length) H) :
  wpAny (model X.prog X.w) X.A.in1 (pyIter u) (fun it s₂=>∃I fp wr n P St tr,it=.ref I∧Walks X.prog X.w X.A.in1 I fp wr n P St∧St 0 s₂.heap∧TruthOf X.prog X.w X.A.in1 P tr∧
   ∀h' tk,(∀b o,b∉wr→s₂.heap.get? b=some o→h'.get? b=some o)→EP X ae σ (fun v H=>∃b,v=.bl b∧Q b H) (.bool (f tr n)) {s₂ with heap:=h',toks:=tk}) E s:=by
 have hh:X.A.in1.handled=none:=I.ok.hd hc;obtain⟨a,vs,ea,sq,ra⟩:=jD hw rv q;subst ea;cases ru;rcases sq with sq|sq
 ·obtain⟨its,r1,p,hz⟩:=I.list sq;have e:=gz ra r1 qb;subst e;have hlt:a<s.heap.objs.size:=by obtain⟨o,n,e,_⟩:=p;exact Heap.lt_size e
  refine wpAny_pyIter_list p.isList ⟨s.heap.objs.size,_,_,_,_,_,_,rfl,Walks.list hh s.heap.objs.size a (Nat.ne_of_lt hlt) _,⟨⟨_,Heap.get?_push_size _ rfl,rfl,rfl⟩,p.isList.push _⟩,iR bs,fun h' tk k=>?_⟩;have I':L2.Inv X ae σ H {s with heap:=h',toks:=tk}:=I.kept fun b o e=>k b o (by have:=Heap.lt_size e;simp;exact Nat.ne_of_lt this) (Heap.get?_push_of_some _ e)
  refine⟨.bl _,H,I',rfl,_,rfl,?_⟩;have:=h h' tk I';simpa using this
 ·obtain⟨its,r1,p,hz⟩:=I.tuple sq;have e:=gz ra r1 qb;subst e;have hlt:a<s.heap.objs.size:=by obtain⟨o,e,_⟩:=p;exact Heap.lt_size e
  have pt:s.heap.IsTuple a (bs.map Value.bool).toArray:=p;refine wpAny_pyIter_tuple pt ⟨s.heap.objs.size,_,_,_,_,_,_,rfl,Walks.tuple hh s.heap.objs.size a (Nat.ne_of_lt hlt) _,⟨⟨_,Heap.get?_push_size _ rfl,rfl,rfl⟩,?_⟩,iR bs,fun h' tk k=>?_⟩
  ·obtain⟨o,e,r⟩:=p;exact⟨o,Heap.get?_push_of_some _ e,r⟩
  have I':L2.Inv X ae σ H {s with heap:=h',toks:=tk}:=I.kept fun b o e=>k b o (by have:=Heap.lt_size e;simp;exact Nat.ne_of_lt this) (Heap.get?_push_of_some _ e)
  refine⟨.bl _,H,I',rfl,_,rfl,?_⟩;have:=h h' tk I';simpa using this
theorem yC (hc:X.calm=true):cL X (.builtin "all") (rC X kg):=by
 intro ae s σ H xs us Q I r h;obtain⟨θ,M,ds,hw,rd,h⟩:=h;unfold kg at h;split at h
 ·rename_i d;obtain⟨v,e,rv⟩:=iG rd;subst e;obtain⟨u,rfl,ru⟩:=kF r;split at h
  ·rename_i ys q;split at h
   ·rename_i bs qb;refine cj (call_all_walk (nA hc I hw rv ru q qb (Q:=fun b H=>Q (.bl b) H) (f:=fun tr n=>(List.range n).all tr) (fun h' tk I'=>?_))) fun u' s' ⟨v',H',I',r',b,eb,q'⟩=>⟨v',H',I',r',by rw[eb];exact q'⟩
    rw[rm];exact h _ θ H (.refl hw) rfl
   ·exact h.elim
  ·exact h.elim
 ·exact h.elim
def Dj:D→Option String
 | .non=>some "NoneType"
 | .bl _=>some "bool"
 | .int _=>some "int"
 | .str _=>some "str"
 | .tup _=>some "tuple"
 | .lst _=>some "list"
 | .ro _=>some "list"
 | _=>none
def wF (d:D)(M:ax):Option String:=match d with
 | .mr k=>match M[k]? with
  | some (.lst _)=>some "list"
  | _=>none
 | d=>Dj d
def n5 (t T:String):Bool:=t==T||(t=="bool"&&T=="int")
def k7 (T:String)(g:GE):GE:=fun ρ M=>(g ρ M).bind fun d M1=>match wF d M1 with
 | some t=>.ok (.bl (n5 t T)) M1
 | none=>.bad
def ib (T:String):Prop:=T="int"∨T="bool"∨T="str"∨T="tuple"∨T="list"
theorem cG (K:W.Frag){T:String}(hT:ib T):∀t∈["NoneType","bool","int","str","tuple","list"],W.kitOne K (.type t) (.type T)=some (n5 t T):=by
 intro t ht;simp only[mem_cons,mem_nil_iff,or_false] at ht;rcases hT with rfl|rfl|rfl|rfl|rfl <;> rcases ht with rfl|rfl|rfl|rfl|rfl|rfl <;> rfl
theorem zN {T:String}(hT:ib T):cL X (.builtin "isinstance") (fun xs H Q=>∃θ M d v,Wr X.K θ H M∧cX X.K θ H d v∧xs=[v,.ty T]∧aH X θ H Q (match wF d M with|some t=>.ok (.bl (n5 t T)) M|none=>.bad)):=by
 intro ae s σ H xs us Q I r h;obtain⟨θ,M,d,v,hw,rv,e,h⟩:=h;subst e;obtain⟨u,c,rfl,ru,rc⟩:=xr r;cases rc;have fin:∀t tk,wF d M=some t→EP X ae σ Q (.bool (n5 t T)) {s with toks:=tk}:=fun t tk e=>by
  rw[e] at h;exact⟨.bl _,H,I.tok _,rfl,h _ θ H (.refl hw) rfl⟩
 cases d with
 | non=>have e:v=.non:=rv;subst e;cases ru;exact W.kia_one W.kitx_none I.kIn True.intro (cG X.K hT "NoneType" (by simp)) (fun z=>nomatch z) fun tk=>fin _ tk rfl
 | bl b=>have e:v=.bl b:=rv;subst e;cases ru;exact W.kia_one W.kitx_bool I.kIn True.intro (cG X.K hT "bool" (by simp)) (fun z=>nomatch z) fun tk=>fin _ tk rfl
 | int i=>have e:v=.int i:=rv;subst e;obtain⟨t,rfl⟩:=ru;exact W.kia_one W.kitx_int I.kIn True.intro (cG X.K hT "int" (by simp)) (fun z=>nomatch z) fun tk=>fin _ tk rfl
 | str i=>have e:v=.str i:=rv;subst e;obtain⟨t,rfl⟩:=ru;exact W.kia_one W.kitx_str I.kIn True.intro (cG X.K hT "str" (by simp)) (fun z=>nomatch z) fun tk=>fin _ tk rfl
 | tup ds=>
  obtain⟨a,vs,e,ta,ra⟩:=rv;subst e;cases ru;obtain⟨its,_,⟨o,h1,h2,_⟩,_⟩:=I.tuple ta.sq;exact W.kia_one W.kitx_tuple I.kIn ⟨o,h1,h2⟩ (cG X.K hT "tuple" (by simp)) (fun z=>nomatch z) fun tk=>fin _ tk rfl
 | lst ds=>
  obtain⟨a,vs,e,ta,ra⟩:=rv;subst e;cases ru;obtain⟨its,_,⟨o,n,h1,h2,_⟩,_⟩:=I.list (ta.sq (K:=X.K));exact W.kia_one W.kitx_list I.kIn ⟨o,h1,h2⟩ (cG X.K hT "list" (by simp)) (fun z=>nomatch z) fun tk=>fin _ tk rfl
 | ro ds=>
  obtain⟨a,vs,e,ta,ra⟩:=rv;subst e;cases ru;obtain⟨its,_,⟨o,n,h1,h2,_⟩,_⟩:=I.list ta.sq;exact W.kia_one W.kitx_list I.kIn ⟨o,h1,h2⟩ (cG X.K hT "list" (by simp)) (fun z=>nomatch z) fun tk=>fin _ tk rfl
 | mr k=>
  obtain⟨a,e,ta⟩:=rv;subst e;cases ru;cases qm:M[k]? with
  | none=>simp only[wF,qm] at h;exact h.elim
  | some m=>
   cases m with
   | lst ys=>
    obtain⟨vs,hv,_⟩:=hw.at_ k a _ ta qm;obtain⟨its,_,⟨o,n,h1,h2,_⟩,_⟩:=I.list (X:=X) (xs:=vs) (.inl (.inl hv));exact W.kia_one W.kitx_list I.kIn ⟨o,h1,h2⟩ (cG X.K hT "list" (by simp)) (fun z=>nomatch z) fun tk=>fin _ tk (by simp only[wF,qm])
   | _=>simp only[wF,qm] at h;exact h.elim
 | exc c=>exact h.elim
 | any=>exact h.elim
theorem yb {T:String}{x:Str}{e:Expr}{p p2 pos:Pos}{g:GE}(hT:ib T)(hv:bootBuiltins x=some (.type T))(hg:Gl X x)(hm:X.mg x=none)(hgi:Gl X "isinstance")(hmi:X.mg "isinstance"=none)(he:PE X e (tE X g))
  (hn:x≠"__name__":=by decide) (hd:(x==("__debug__":Str))=false:=by decide) (hbi:bootBuiltins "isinstance"=some (.builtin "isinstance"):=by kernel_rfl) (hs:starEach [e,.Name x p2] X.env=(false,eval e X.env)::starEach [.Name x p2] X.env:=by rfl)
  (hs2:starEach [.Name x p2] X.env=(false,eval (.Name x p2) X.env)::starEach [] X.env:=by rfl) (hpl:(backTo pos (starEach [.Name x p2] X.env)).any (·.1)=false:=by rfl) :
  PE X (.Call (.Name "isinstance" p) [e,.Name x p2] [] pos) (tE X (k7 T g)):=
 (ni (zN hT) hgi hmi hbi (eE he (eE (v8 hg hm hv (v:=.ty T) rfl hn hd) gF hs2) hs) (by decide) (by decide) hs hpl).of fun σ H Q hxx=>by
  obtain⟨ρ,θ,M,hd,hw,h⟩:=hxx;refine bE hd hw (aH X θ H Q) (fun c M' h=>h) (fun h=>h) h fun d M1 v θ1 H1 g1 r1 h1=>?_
  exact⟨θ1,M1,d,v,g1.wr,r1,rfl,aH.go g1 h1⟩
end
def dU:D→Bool
 | .non=>true
 | .bl _=>true
 | .int _=>true
 | .str _=>true
 | _=>false
def AK:D→V
 | .non=>.non
 | .bl b=>.bl b
 | .int i=>.int i
 | .str x=>.str x
 | _=>.non
theorem o5 {K:W.Frag}{θ:List Addr}{H:Hp}{d:D}{v:V}(r:cX K θ H d v)(f:dU d=true):v=AK d∧gx v=true:=by
 cases d with
 | non=>have e:v=.non:=r;subst e;exact⟨rfl,rfl⟩
 | bl b=>have e:v=.bl b:=r;subst e;exact⟨rfl,rfl⟩
 | int b=>have e:v=.int b:=r;subst e;exact⟨rfl,rfl⟩
 | str b=>have e:v=.str b:=r;subst e;exact⟨rfl,rfl⟩
 | _=>cases f
theorem mM {K:W.Frag}{θ:List Addr}{H:Hp}:∀{ds:List D} {vs:List V},aR K θ H ds vs→ds.all dU=true→vs=ds.map AK∧vs.all gx=true
 | [],vs,r,f=>by have e:vs=[]:=r;subst e;exact⟨rfl,rfl⟩
 | d::ds,vs,r,f=>by
  obtain⟨v,rr,e,h1,h2⟩:=r;subst e;rw[all_cons,Bool.and_eq_true] at f;obtain⟨e1,f1⟩:=o5 h1 f.1;obtain⟨e2,f2⟩:=mM h2 f.2;exact⟨by rw[map_cons,←e1,←e2],by rw[all_cons,f1,f2];rfl⟩
theorem wk {x y:D}(fx:dU x=true)(fy:dU y=true):vH (AK x) (AK y)=kR x y:=by
 cases x <;> first|exact ff fx|(cases y <;> first|exact ff fy|rfl)
theorem pL {x:D}:∀{ds:List D},dU x=true→ds.all dU=true→C9 (AK x) (ds.map AK)=ds.any fun y=>kR y x
 | [],fx,fs=>rfl
 | d::ds,fx,fs=>by
  rw[all_cons,Bool.and_eq_true] at fs;have ih:=pL (x:=x) (ds:=ds) fx fs.2;unfold C9 at ih ⊢;rw[map_cons,any_cons,any_cons,ih,wk fs.1 fx]
def mR (neg:Bool):F2:=fun x y M=>match bH y M with
 | some xs=>if dU x&&xs.all dU then .ok (.bl ((xs.any fun y=>kR y x) != neg)) M else .bad
 | none=>.bad
section
variable {X:Cx}
theorem CT:ej X (compareOp .In) (rD X (mR false)):=by
 intro ae s σ H x y v u Q I rx ry h;obtain⟨θ,M,dx,dy,hw,r1,r2,h⟩:=h;unfold mR at h;split at h
 ·rename_i xs q;split at h
  ·rename_i hc;rw[Bool.and_eq_true] at hc;obtain⟨a,vs,ea,sq,ra⟩:=jD hw r2 q;obtain⟨e1,f1⟩:=o5 r1 hc.1;obtain⟨e2,f2⟩:=mM ra hc.2;refine rg ae s σ H x y v u Q I rx ry ⟨a,vs,ea,sq,f1,f2,?_⟩;have:=h _ θ H (.refl hw) rfl;rw[Bool.bne_false] at this;rw[if_neg (by decide),e1,e2,pL hc.1 hc.2];exact this
  ·exact h.elim
 ·exact h.elim
end
section
variable {X:Cx}
def qf (k:Nat)(x:D)(M:ax):aF D:=match M[k]? with
 | some (.lst xs)=>if xs.length<sizeLine then .ok .non (M.set k (.lst (xs++[x]))) else .bad
 | _=>.bad
def iY (go ge:GE):GE:=fun ρ M=>(go ρ M).bind fun o M1=>match o with
 | .mr k=>match M1[k]? with
  | some (.lst _)=>(ge ρ M1).bind (qf k)
  | _=>.bad
 | _=>.bad
theorem qx {o e:Expr}{go ge:GE}{apos cpos:Pos}(ho:PE X o (tE X go))(he:PE X e (tE X ge))
  (hbase:attributeBase o "append" X.env (eval o X.env)=eval o X.env:=by rfl)
  (hfew:((backTo cpos (starEach [e] X.env)).all (fun x=>!x.1)&&(backToKw cpos (keywordEach [] X.env)).all (fun x=>x.1.isSome)
   && decide ([e].length+([]:List Keyword).length+(if([]:List Keyword).isEmpty then 0 else 1)<30))=true:=by rfl)
  (hline:(apos.endLine==cpos.line)=true:=by rfl) (hs:starEach [e] X.env=(false,eval e X.env)::starEach [] X.env:=by rfl) (hplain:(backTo cpos (starEach [] X.env)).any (·.1)=false:=by rfl) :
  PE X (.Call (.Attribute o "append" apos) [e] [] cpos) (tE X (iY go ge)):=
 (nb PySem.F.plainAttrs_list PySem.F.slot_list_append PySem.F.type_list_append qN ho (eE he gF hs) hbase hfew hline hs hplain).of fun σ H Q hxx=>by
  obtain⟨ρ,θ,M,hd,hw,h⟩:=hxx;refine bE hd hw (aH X θ H Q) (fun c M' h=>h) (fun h=>h) h fun d M1 v θ1 H1 g1 r1 h1=>?_
  have h2:=aH.go g1 h1;cases d with
  | mr k=>
   have h2:aH X θ1 H1 Q (match M1[k]? with|some (.lst _)=>(ge ρ M1).bind (qf k)|_=>.bad):=h2;cases qm1:M1[k]? with
   | none=>rw[qm1] at h2;exact h2.elim
   | some m1=>
    cases m1 with
    | obj _ _=>rw[qm1] at h2;exact h2.elim
    | dK _=>rw[qm1] at h2;exact h2.elim
    | dT _=>rw[qm1] at h2;exact h2.elim
    | lst ys1=>
     rw[qm1] at h2;obtain⟨a1,ea1,ta1⟩:=id r1;obtain⟨vs1,hv1,_⟩:=g1.wr.at_ k a1 _ ta1 qm1;refine⟨by rw[ea1];exact .inl ⟨rfl,vs1,.inl (.inl hv1)⟩,?_⟩;refine bE (hd.go g1) g1.wr (aH X θ1 H1 Q) (fun c M' h=>h) (fun h=>h) h2 fun dx M2 vx θ2 H2 g2 r2 h3=>?_
     have h3:aH X θ1 H1 Q (match M2[k]? with|some (.lst xs)=>if xs.length<sizeLine then .ok .non (M2.set k (.lst (xs++[dx]))) else .bad|_=>.bad):=h3;obtain⟨a,ea,ta⟩:=r1.go g2;cases qm:M2[k]? with
     | none=>rw[qm] at h3;exact h3.elim
     | some m=>
      cases m with
      | obj _ _=>rw[qm] at h3;exact h3.elim
      | dK _=>rw[qm] at h3;exact h3.elim
      | dT _=>rw[qm] at h3;exact h3.elim
      | lst ys=>
       rw[qm] at h3;obtain⟨vs,hv,ra⟩:=g2.wr.at_ k a _ ta qm;have h3:aH X θ1 H1 Q (if ys.length<sizeLine then .ok .non (M2.set k (.lst (ys++[dx]))) else .bad):=h3;split at h3
       ·rename_i hl;have gs:=lS (ds:=ys) g2.wr ta (bM ra (show aR X.K θ2 H2 [dx] [vx] from⟨vx,[],rfl,r2,rfl⟩));exact⟨a,vs,vx,ea,rfl,hv,by rw[←ar ra];exact hl,h3 _ θ2 _ (g2.trans gs) rfl⟩
       ·exact h3.elim
  | _=>exact h2.elim
end
def bf (f:D→Option D):List D→Option (List D)
 | []=>some []
 | d::ds=>match f d,bf f ds with
  | some x,some xs=>some (x::xs)
  | _,_=>none
def frz (n:Nat)(M:ax):Nat→D→Option D
 | 0,_=>none
 | f+1,d=>match d with
  | .mr k=>if k<n then some (.mr k) else match M[k]? with
   | some (.lst xs)=>(bf (frz n M f) xs).map .lst
   | _=>none
  | .tup xs=>(bf (frz n M f) xs).map .tup
  | .lst xs=>(bf (frz n M f) xs).map .lst
  | .ro xs=>(bf (frz n M f) xs).map .ro
  | d=>some d
def m8 (f:D→Option D):List (Str×D)→Option (List (Str×D))
 | []=>some []
 | (x,d)::r=>match f d,m8 f r with
  | some e,some r'=>some ((x,e)::r')
  | _,_=>none
def kn {κ:Type}(f:D→Option D):List (κ×D)→Option (List (κ×D))
 | []=>some []
 | (x,d)::r=>match f d,kn f r with
  | some e,some r'=>some ((x,e)::r')
  | _,_=>none
def dH (n:Nat)(M:ax):List MO→Option (List MO)
 | []=>some []
 | .lst xs::r=>match bf (frz n M 30) xs,dH n M r with
  | some ys,some r'=>some (.lst ys::r')
  | _,_=>none
 | .obj c fs::r=>match m8 (frz n M 30) fs,dH n M r with
  | some gs,some r'=>some (.obj c gs::r')
  | _,_=>none
 | .dK fs::r=>match kn (frz n M 30) fs,dH n M r with
  | some gs,some r'=>some (.dK gs::r')
  | _,_=>none
 | .dT fs::r=>match kn (frz n M 30) fs,dH n M r with
  | some gs,some r'=>some (.dT gs::r')
  | _,_=>none
def eX (n:Nat)(o:aF D):aF D:=match o with
 | .ok d M=>if M.length=n then .ok d M else match frz n M 30 d,dH n M (M.take n) with
  | some d',some M'=>.ok d' M'
  | _,_=>.bad
 | .err c M=>if M.length=n then .err c M else match dH n M (M.take n) with
  | some M'=>.err c M'
  | none=>.bad
 | .bad=>.bad
section
variable {K:W.Frag}{θ more:List Addr}{H:Hp}{M:ax}{n:Nat}
theorem dL {f:D→Option D}{θ':List Addr}:∀{ds es:List D} {vs:List V},bf f ds=some es→aR K θ' H ds vs→(∀d∈ds,∀e v,f d=some e→cX K θ' H d v→cX K θ H e v)→aR K θ H es vs
 | [],es,vs,h,r,k=>by cases h;exact r
 | d::ds,es,vs,h,r,k=>by
  obtain⟨v,rr,e,h1,h2⟩:=r;unfold bf at h;cases q1:f d with
  | none=>rw[q1] at h;cases h
  | some x=>
   cases q2:bf f ds with
   | none=>rw[q1,q2] at h;cases h
   | some xs=>
    rw[q1,q2] at h;cases h;exact⟨v,rr,e,k d mem_cons_self x v q1 h1,dL q2 h2 fun d' hd=>k d' (mem_cons_of_mem _ hd)⟩
theorem iO (hw:Wr K (θ++more) H M)(hn:θ.length=n):∀(f:Nat) (d e:D) (v:V),frz n M f d=some e→cX K (θ++more) H d v→cX K θ H e v
 | 0,d,e,v,h,r=>by cases h
 | f+1,d,e,v,h,r=>by
  have ih:=iO hw hn f;have sub:∀{a:Addr},a∉θ++more→a∉θ:=fun {a} z y=>z (mem_append_left _ y)
  cases d with
  | mr k=>
   obtain⟨a,ea,ta⟩:=r
   by_cases hk:k<n
   ·have h:(if k<n then some (D.mr k) else _)=some e:=h;rw[if_pos hk] at h;cases h;exact⟨a,ea,by rw[getElem?_append_left (by rw[hn];exact hk)] at ta;exact ta⟩
   ·have h:(if k<n then some (D.mr k) else match M[k]? with|some (.lst xs)=>(bf (frz n M f) xs).map .lst|_=>none)=some e:=h;rw[if_neg hk] at h;cases qm:M[k]? with
    | none=>rw[qm] at h;cases h
    | some m=>
     cases m with
     | lst xs=>
      rw[qm] at h;have h:(bf (frz n M f) xs).map D.lst=some e:=h;obtain⟨vs,hv,ra⟩:=hw.at_ k a _ ta qm;cases qo:bf (frz n M f) xs with
      | none=>rw[qo] at h;cases h
      | some ys=>
       rw[qo] at h;cases h;refine⟨a,vs,ea,⟨hv,fun z=>?_⟩,dL qo ra fun d _ e v=>ih d e v⟩;rw[getElem?_append_right (by omega)] at ta;have hm:=mem_of_getElem? ta;exact(nodup_append.mp hw.nd).2.2 a z a hm rfl
     | _=>rw[qm] at h;cases h
  | tup xs=>
   have h:(bf (frz n M f) xs).map D.tup=some e:=h;cases qo:bf (frz n M f) xs with
   | none=>rw[qo] at h;cases h
   | some ys=>
    rw[qo] at h;cases h;obtain⟨a,vs,ea,ta,ra⟩:=r;exact⟨a,vs,ea,⟨ta.1,sub ta.2⟩,dL qo ra fun d _ e v=>ih d e v⟩
  | lst xs=>
   have h:(bf (frz n M f) xs).map D.lst=some e:=h;cases qo:bf (frz n M f) xs with
   | none=>rw[qo] at h;cases h
   | some ys=>
    rw[qo] at h;cases h;obtain⟨a,vs,ea,ta,ra⟩:=r;exact⟨a,vs,ea,⟨ta.1,sub ta.2⟩,dL qo ra fun d _ e v=>ih d e v⟩
  | ro xs=>
   have h:(bf (frz n M f) xs).map D.ro=some e:=h;cases qo:bf (frz n M f) xs with
   | none=>rw[qo] at h;cases h
   | some ys=>
    rw[qo] at h;cases h;obtain⟨a,vs,ea,ta,ra⟩:=r;refine⟨a,vs,ea,?_,dL qo ra fun d _ e v=>ih d e v⟩;rcases ta with⟨t1,t2⟩|t
    ·exact .inl ⟨t1,sub t2⟩
    ·exact .inr t
  | non=>cases h;exact r
  | bl b=>cases h;exact r
  | int b=>cases h;exact r
  | str b=>cases h;exact r
  | exc c=>
   cases h;obtain⟨a,C,ea,kc,t1,t2⟩:=r;exact⟨a,C,ea,kc,t1,sub t2⟩
  | any=>cases h;exact r
theorem pK {f:D→Option D}{θ':List Addr}:∀{fs gs:List (Str×D)} {vs:List (Str×V)},m8 f fs=some gs→qX K θ' H fs vs→(∀d e v,f d=some e→cX K θ' H d v→cX K θ H e v)→qX K θ H gs vs
 | [],gs,vs,h,r,k=>by cases h;exact r
 | (x,d)::fs,gs,vs,h,r,k=>by
  obtain⟨v,rr,e,h1,h2⟩:=r;unfold m8 at h;cases q1:f d with
  | none=>rw[q1] at h;cases h
  | some y=>
   cases q2:m8 f fs with
   | none=>rw[q1,q2] at h;cases h
   | some ys=>
    rw[q1,q2] at h;cases h;exact⟨v,rr,e,k d y v q1 h1,pK q2 h2 k⟩
theorem la {κ:Type}{f:D→Option D}{θ':List Addr}:∀{fs gs:List (κ×D)} {vs:List (κ×V)},kn f fs=some gs→nI K θ' H fs vs→(∀d e v,f d=some e→cX K θ' H d v→cX K θ H e v)→nI K θ H gs vs
 | [],gs,vs,h,r,k=>by cases h;exact r
 | (x,d)::fs,gs,vs,h,r,k=>by
  obtain⟨v,rr,e,h1,h2⟩:=r;unfold kn at h;cases q1:f d with
  | none=>rw[q1] at h;cases h
  | some y=>
   cases q2:kn f fs with
   | none=>rw[q1,q2] at h;cases h
   | some ys=>
    rw[q1,q2] at h;cases h;exact⟨v,rr,e,k d y v q1 h1,la q2 h2 k⟩
theorem ik (hw:Wr K (θ++more) H M)(hn:θ.length=n):∀(l l':List MO),dH n M l=some l'→l'.length=l.length∧∀(i:Nat) m m' a,l[i]?=some m→l'[i]?=some m'→kj K (θ++more) H m a→kj K θ H m' a
 | [],l',h=>by cases h;exact⟨rfl,fun i m m' a e=>by simp at e⟩
 | .lst xs::r,l',h=>by
  unfold dH at h;cases q1:bf (frz n M 30) xs with
  | none=>rw[q1] at h;cases h
  | some ys=>
   cases q2:dH n M r with
   | none=>rw[q1,q2] at h;cases h
   | some r'=>
    rw[q1,q2] at h;cases h;obtain⟨hl,hr⟩:=ik hw hn r r' q2;refine⟨by rw[length_cons,length_cons,hl],fun i m m' a e1 e2 ok=>?_⟩;cases i with
    | zero=>
     have e1:some (MO.lst xs)=some m:=e1;have e2:some (MO.lst ys)=some m':=e2;cases e1;cases e2;obtain⟨vs,hv,ra⟩:=ok;exact⟨vs,hv,dL q1 ra fun d _ e v=>iO hw hn 30 d e v⟩
    | succ i=>exact hr i m m' a e1 e2 ok
 | .obj c fs::r,l',h=>by
  unfold dH at h;cases q1:m8 (frz n M 30) fs with
  | none=>rw[q1] at h;cases h
  | some gs=>
   cases q2:dH n M r with
   | none=>rw[q1,q2] at h;cases h
   | some r'=>
    rw[q1,q2] at h;cases h;obtain⟨hl,hr⟩:=ik hw hn r r' q2;refine⟨by rw[length_cons,length_cons,hl],fun i m m' a e1 e2 ok=>?_⟩;cases i with
    | zero=>
     have e1:some (MO.obj c fs)=some m:=e1;have e2:some (MO.obj c gs)=some m':=e2;cases e1;cases e2;obtain⟨C,dx,vs,kC,hv,ra⟩:=ok;exact⟨C,dx,vs,kC,hv,pK q1 ra fun d e v=>iO hw hn 30 d e v⟩
    | succ i=>exact hr i m m' a e1 e2 ok
 | .dK fs::r,l',h=>by
  unfold dH at h;cases q1:kn (frz n M 30) fs with
  | none=>rw[q1] at h;cases h
  | some gs=>
   cases q2:dH n M r with
   | none=>rw[q1,q2] at h;cases h
   | some r'=>
    rw[q1,q2] at h;cases h;obtain⟨hl,hr⟩:=ik hw hn r r' q2;refine⟨by rw[length_cons,length_cons,hl],fun i m m' a e1 e2 ok=>?_⟩;cases i with
    | zero=>
     have e1:some (MO.dK fs)=some m:=e1;have e2:some (MO.dK gs)=some m':=e2;cases e1;cases e2;obtain⟨vs,hv,ra⟩:=ok;exact⟨vs,hv,la q1 ra fun d e v=>iO hw hn 30 d e v⟩
    | succ i=>exact hr i m m' a e1 e2 ok
 | .dT fs::r,l',h=>by
  unfold dH at h;cases q1:kn (frz n M 30) fs with
  | none=>rw[q1] at h;cases h
  | some gs=>
   cases q2:dH n M r with
   | none=>rw[q1,q2] at h;cases h
   | some r'=>
    rw[q1,q2] at h;cases h;obtain⟨hl,hr⟩:=ik hw hn r r' q2;refine⟨by rw[length_cons,length_cons,hl],fun i m m' a e1 e2 ok=>?_⟩;cases i with
    | zero=>
     have e1:some (MO.dT fs)=some m:=e1;have e2:some (MO.dT gs)=some m':=e2;cases e1;cases e2;obtain⟨vs,hv,ra⟩:=ok;exact⟨vs,hv,la q1 ra fun d e v=>iO hw hn 30 d e v⟩
    | succ i=>exact hr i m m' a e1 e2 ok
theorem uB {θ0:List Addr}{H0:Hp}{θ':List Addr}{H':Hp}{M' M2:ax}{n:Nat}(hn:θ0.length=n)(g:Go K θ0 H0 θ' H' M')(h:dH n M' (M'.take n)=some M2):Go K θ0 H0 θ0 H' M2:=by
 obtain⟨m,em,hm⟩:=g.ext;have hw:=g.wr;rw[em] at hw;obtain⟨hl,hr⟩:=ik hw hn _ _ h;have hlen:n≤M'.length:=by rw[←g.wr.len,em,length_append];omega
 refine⟨⟨⟨[],by simp,fun _ z=>by cases z⟩,g.keep,g.tkeep⟩,by rw[hl,length_take];omega,(nodup_append.mp hw.nd).1,fun i a mo e1 e2=>?_,g.wr.tb⟩;have hi:i<n:=by rw[←hn];exact(List.getElem?_eq_some_iff.mp e1).1
 have hiM:i<M'.length:=by omega
 refine hr i M'[i] mo a (by rw[getElem?_take_of_lt hi];exact getElem?_eq_getElem hiM) e2 (hw.at_ i a _ ?_ (getElem?_eq_getElem hiM));rw[getElem?_append_left (by rw[hn];exact hi)];exact e1
end
theorem zT {P:Program}{w:World}{K:W.Frag}{mg:Str→Option Value}{base:Heap}{k n:Nat}{f:Addr}{fd:FuncData}{ps:List Str}{F:FD}{CX:rM}(h:eW P w K mg base CX k f fd ps (oA K n F)) :
  eW P w K mg base CX k f fd ps (oA K n fun ds M=>eX M.length (F ds M)):=h.imp fun vs H Q E hxx=>by
 obtain⟨θ,M,ds,hl,r,hw,q⟩:=hxx;refine⟨θ,M,ds,hl,r,hw,?_⟩;have q:sT K θ H Q E (eX M.length (F ds M)):=q;cases e:F ds M with
 | bad=>rw[e] at q;exact q
 | err c M1=>
  rw[e] at q;have q:sT K θ H Q E (if M1.length=M.length then .err c M1 else match dH M.length M1 (M1.take M.length) with|some M'=>.err c M'|none=>.bad):=q;split at q
  ·exact q
  ·split at q
   ·rename_i M2 e2;exact fun C θ' H' a kC g=>q C θ H' a kC (uB hw.len g e2)
   ·exact q.elim
 | ok d M1=>
  rw[e] at q;have q:sT K θ H Q E (if M1.length=M.length then .ok d M1 else match frz M.length M1 30 d,dH M.length M1 (M1.take M.length) with|some d',some M'=>.ok d' M'|_,_=>.bad):=q;split at q
  ·exact q
  ·split at q
   ·rename_i d' M2 e1 e2;intro v θ' H' g rd;refine q v θ H' (uB hw.len g e2) ?_;obtain⟨m,em,_⟩:=g.ext;have hw':=g.wr;rw[em] at hw' rd;exact iO hw' hw.len 30 d d' v e1 rd
   ·exact q.elim
structure Fn (K:W.Frag)(mg:Str→Option Value)(x:Str)(st:Stmt)(f:Addr)(fd:FuncData)(ps:List Str):Prop where
 F:yL K x x st f fd
 m:mg x=some (.ref f)
 b:fV K fd ps []
section
variable {X:Cx}
theorem vv (i:Nat){x:Str}{pos:Pos}(hN:X.N[i]?=some x:=by rfl)(hv:AJ X.env.scope x:=by first|exact Or.inl rfl|exact Or.inr (Or.inl rfl)|exact Or.inr (Or.inr rfl))(hd:(x==("__debug__":Str))=false:=by decide)
  (hcd:(x==("__classdict__":Str))=false:=by decide):PE X (.Name x pos) (tE X (af i)):=AE (yU hN hv hd hcd)
theorem ss (i:Nat){x:Str}{pos pos':Pos}{e:Expr}{g:GE}(hN:X.N.Nodup)(he:PE X e (tE X g))(hi:X.N[i]?=some x:=by rfl)(hx:ny X.env.scope x:=by first|exact Or.inl rfl|exact Or.inr rfl)
  (hs:swapsWith e (some (.Name x pos')) pos.line X.env=pure false:=by rfl) (hf:X.fn x=true∨X.env.scope.names.lookup x=some .local:=by first|exact .inl rfl|exact .inr rfl) :
  PS X (.Assign [.Name x pos'] e pos) (tS X (aw i g)):=yo hN hi hx he hs hf
theorem gg (i:Nat){x:Str}{pos:Pos}(hN:X.N.Nodup)(hi:X.N[i]?=some x:=by rfl)(hx:ny X.env.scope x:=by first|exact Or.inl rfl|exact Or.inr rfl)(hf:X.fn x=true∨X.env.scope.names.lookup x=some .local:=by first|exact .inl rfl|exact .inr rfl):PG X (.Name x pos) (tG X (cw i)):=lL hN hi hx hf
end
theorem y9 {K:W.Frag}{F:FD}{H:Hp}{a:Addr}{ns:List Int}(tb:iq K H)(hS:iZ K H a (ns.map V.int))(h:∃M',F [.ro (ns.map D.int)] []=.ok (.bl true) M'){E:XK}:oA K 1 F [.ref a] H (fun v _=>v=.bl true) E:=by
 obtain⟨M',e⟩:=h;refine⟨[],[],[.ro (ns.map D.int)],rfl,⟨_,[],rfl,⟨a,ns.map V.int,rfl,?_,?_⟩,rfl⟩,⟨rfl,nodup_nil,fun i a m e=>by simp at e,tb⟩,?_⟩
 ·rcases hS with h|h
  ·exact .inl ⟨h,by simp⟩
  ·exact .inr h
 ·clear e
  induction ns with
  | nil=>exact rfl
  | cons n ns ih=>
   refine⟨.int n,ns.map V.int,rfl,rfl,?_⟩;have gen:∀l:List Int,aR K [] H (l.map D.int) (l.map V.int):=by
    intro l
    induction l with
    | nil=>exact rfl
    | cons m l ih=>exact⟨_,_,rfl,rfl,ih⟩
   exact gen ns
 ·rw[e];exact fun v θ' H' g r=>r
def bq (t:GT)(b:GS):Nat→aZ→ax→aF Fl
 | 0,_,_=>.bad
 | n+1,ρ,M=>(t ρ M).bind fun c M1=>if c then(b ρ M1).bind fun f M2=>match f with
   | .nx ρ2=>bq t b n ρ2 M2
   | .ct ρ2=>bq t b n ρ2 M2
   | .bk ρ2=>.ok (.nx ρ2) M2
   | .rt d=>.ok (.rt d) M2
  else .ok (.nx ρ) M1
def cg (n:Nat)(t:GT)(b:GS):GS:=bq t b n
theorem tq {X:Cx}{c:Expr}{body:List Stmt}{tc:GT}{gb:GS}{pos:Pos}{n:Nat}(hp:PassesOwn (model X.prog X.w) X.A X.env X.xe)(hc:PT X c (tT X tc))(hb:PSs X body (tS X gb)):PS X (.While c body [] pos) (tS X (cg n tc gb)):=
 (um hp hc hb).of fun D σ H hxx=>by
  obtain⟨ρ,θ,M,hd,hw,h⟩:=hxx;refine⟨fun m σ' H'=>∃ρ' θ' M',fO X.K θ' H' σ' ρ'∧Wr X.K θ' H' M'∧bB X θ' H' D (bq tc gb m ρ' M'),⟨n,ρ,θ,M,hd,hw,h⟩,?_⟩;rintro m σ' H' ⟨ρ',θ',M',hd',hw',h'⟩;cases m with
  | zero=>exact h'.elim
  | succ m=>
   have h':bB X θ' H' D ((tc ρ' M').bind _):=h';refine m7 hd' hw' (bB X θ' H' D) (fun c M' h=>h) (fun h=>h) h' fun c M1 θ1 H1 g1 h1=>?_
   cases c with
   | false=>
    rw[if_neg Bool.false_ne_true];exact h1 σ' θ1 H1 g1 (hd'.go g1)
   | true=>
    rw[if_pos rfl];refine⟨fun σ2 H2=>∃ρ2 θ2 M2,fO X.K θ2 H2 σ2 ρ2∧Wr X.K θ2 H2 M2∧bB X θ2 H2 D (bq tc gb m ρ2 M2),fun σ2 H2 q=>⟨m,Nat.lt_succ_self _,q⟩,ρ',θ1,M1,hd'.go g1,g1.wr,?_⟩;have h2:=bB.go g1 h1;have h2:bB X θ1 H1 D ((gb ρ' M1).bind _):=h2;cases q:gb ρ' M1 with
    | bad=>rw[q] at h2;exact h2
    | err c M2=>rw[q] at h2;exact h2
    | ok f M2=>
     rw[q] at h2;cases f with
     | nx ρ2=>exact fun σ2 θ2 H2 g2 d2=>⟨ρ2,θ2,M2,d2,g2.wr,bB.go g2 h2⟩
     | ct ρ2=>exact fun σ2 θ2 H2 g2 d2=>⟨ρ2,θ2,M2,d2,g2.wr,bB.go g2 h2⟩
     | bk ρ2=>exact h2
     | rt d=>exact h2
def aP:Expr→Bool
 | .Starred _ _=>false
 | _=>true
def cR (es:List Expr):Bool:=es.all aP
theorem sE {e:Expr}{es:List Expr}{env:Env}(h:aP e=true):starEach (e::es) env=(false,eval e env)::starEach es env:=by
 cases e <;> first|rfl|(simp[aP] at h)
theorem sS {pos:Pos}{env:Env}:∀{es:List Expr},cR es=true→(backTo pos (starEach es env)).any (·.1)=false
 | [],_=>rfl
 | e::es,h=>by
  unfold cR at h;rw[all_cons,Bool.and_eq_true] at h;have ih:=sS (pos:=pos) (env:=env) (es:=es) h.2;rw[sE h.1];unfold backTo at ih ⊢;rw[map_cons,any_cons,ih];rfl
section
variable {X:Cx}{e:Expr}{es:List Expr}{x:Str}{p pos:Pos}{k n:Nat}{f:Addr}{fd:FuncData}{ps:List Str}{F:FD}{ga:GA}{g:GE}{tg:Expr}
theorem Dm {gr:GA}(ha:PE X e (tE X g))(hr:PA X es (tA X gr))(h:aP e=true:=by rfl):PA X (e::es) (tA X (aa g gr)):=wf ha hr (sE h)
theorem B6 (Fn:eW X.prog X.w X.K X.mg X.base (iX X.prog X.w) k f fd ps (oA X.K n F))(hr:ck k X.A)(hg:Gl X x)(hm:X.mg x=some (.ref f))(hk:W.keepIn X.K (.ref f)=true)(hb:fV X.K fd ps [])
  (ha:PA X (e::es) (tA X ga)) (hdb:(x==("__debug__":Str))=false:=by decide) (h1:aP e=true:=by rfl) (h2:cR es=true:=by rfl) :
  PE X (.Call (.Name x p) (e::es) [] pos) (tE X (av n F ga)):=wR Fn hr hg hm hk hb ha hdb (sE h1) (sS h2)
theorem Bm {id:String}(hc:cL X (.builtin id) (rC X F))(hg:Gl X x)(hm:X.mg x=none)(hv:bootBuiltins x=some (.builtin id))(ha:PA X (e::es) (tA X ga))(hn:x≠"__name__":=by decide)(hdb:(x==("__debug__":Str))=false:=by decide)
  (h1:aP e=true:=by rfl) (h2:cR es=true:=by rfl):PE X (.Call (.Name x p) (e::es) [] pos) (tE X (aG F ga)):=ue hc hg hm hv ha hn hdb (sE h1) (sS h2)
theorem CP {T:String}(hc:cL X (.type T) (rC X F))(hg:Gl X x)(hm:X.mg x=none)(hv:bootBuiltins x=some (.type T))(ha:PA X (e::es) (tA X ga))(hn:x≠"__name__":=by decide)(hdb:(x==("__debug__":Str))=false:=by decide)
  (h1:aP e=true:=by rfl) (h2:cR es=true:=by rfl):PE X (.Call (.Name x p) (e::es) [] pos) (tE X (aG F ga)):=qi hc hg hm hv ha hn hdb (sE h1) (sS h2)
theorem A2 {T:String}{p2:Pos}(hT:ib T)(hv:bootBuiltins x=some (.type T))(hg:Gl X x)(hm:X.mg x=none)(hgi:Gl X "isinstance")(hmi:X.mg "isinstance"=none)(he:PE X e (tE X g))
  (h1:aP e=true:=by rfl) (hn:x≠"__name__":=by decide) (hd:(x==("__debug__":Str))=false:=by decide):PE X (.Call (.Name "isinstance" p) [e,.Name x p2] [] pos) (tE X (k7 T g)):=
 yb hT hv hg hm hgi hmi he hn hd boot_isinstance (sE h1) (sE rfl) (sS rfl)
theorem Bg {a:Expr}(hg:Gl X "range")(hm:X.mg "range"=none)(ha:PA X [a] (tA X ga))(h1:aP a=true:=by rfl):PI X tg (.Call (.Name "range" p) [a] [] pos) (tI X (cQ ga)):=p8 hg hm ha (sE h1)
theorem B0 {a b:Expr}(hg:Gl X "range")(hm:X.mg "range"=none)(ha:PA X [a,b] (tA X ga))(h1:aP a=true:=by rfl)(h2:aP b=true:=by rfl):PI X tg (.Call (.Name "range" p) [a,b] [] pos) (tI X (dR ga)):=qI hg hm ha (by rw[sE h1,sE h2];rfl) (sE h2)
end
end DL
namespace DL
open PySem L2
theorem wV {j:Int}(h:-(2 ^ 62)≤j∧j<2 ^ 62)(M:ax):sH [.int j] M=.ok ⟨aN 0 j.toNat,none⟩ M:=by
 unfold sH;exact if_pos h
theorem uA {n:Nat}(h:n≤1000000)(M:ax):sH [.int (n:Int)] M=.ok ⟨aN 0 n,none⟩ M:=by
 have:=wV (j:=(n:Int)) (by omega) M;rw[this];rfl
theorem v9 {i j:Int}(h:-(2 ^ 62)≤i∧i<2 ^ 62∧-(2 ^ 62)≤j∧j<2 ^ 62)(M:ax):xc [.int i,.int j] M=.ok ⟨aN i (j-i).toNat,none⟩ M:=by
 unfold xc;exact if_pos h
theorem fP {ds:List D}{M:ax}:j9.ok ⟨ds,none⟩ M=true:=rfl
theorem md {ds0:List D}{ge:GE}{ρ:aZ}{P:ax→Prop}{Q:D→Prop}:∀(ds:List D),(∀d∈ds,∀M,P M→∃e M',P M'∧Q e∧ge (some d::ρ) M=.ok e M')→∀M,P M→
  ∃es M',P M'∧es.length=ds.length∧(∀e∈es,Q e)∧cM ⟨ds0,none⟩ bD ge ds ρ M=.ok es M'
 | [],h,M,hM=>⟨[],M,hM,rfl,(fun e he=>by cases he),rfl⟩
 | d::ds,h,M,hM=>by
  obtain⟨e,M1,h1,q1,e1⟩:=h d List.mem_cons_self M hM;obtain⟨es,M2,h2,l2,q2,e2⟩:=md (ds0:=ds0) ds (fun d' hd=>h d' (List.mem_cons_of_mem _ hd)) M1 h1;refine⟨e::es,M2,h2,by simp[l2],fun x hx=>?_,?_⟩
  ·rcases List.mem_cons.mp hx with z|z
   ·subst z;exact q1
   ·exact q2 x z
  ·simp[cM,fP,bD,e1,e2]
theorem fM {ds0:List D}{ge:GE}{ρ:aZ}{f:D→D}{M:ax}:∀(ds:List D),(∀d∈ds,ge (some d::ρ) M=.ok (f d) M)→cM ⟨ds0,none⟩ bD ge ds ρ M=.ok (ds.map f) M
 | [],h=>rfl
 | d::ds,h=>by
  have e1:=h d List.mem_cons_self;have e2:=fM (ds0:=ds0) ds fun d' hd=>h d' (List.mem_cons_of_mem _ hd)
  simp[cM,fP,bD,e1,e2]
theorem lg {ds:List D}{Q:Int→Prop}(h:∀d∈ds,∃k,d=.int k∧Q k):∃ks:List Int,ds=ks.map D.int∧∀k∈ks,Q k:=by
 induction ds with
 | nil=>exact⟨[],rfl,fun k hk=>by cases hk⟩
 | cons d ds ih=>
  obtain⟨k,e,q⟩:=h d List.mem_cons_self;obtain⟨ks,e2,q2⟩:=ih fun d' hd=>h d' (List.mem_cons_of_mem _ hd)
  refine⟨k::ks,by rw[e,e2];rfl,fun x hx=>?_⟩;rcases List.mem_cons.mp hx with z|z
  ·subst z;exact q
  ·exact q2 x z
theorem ba {n:Nat}(h:n≤1000000):n≤sizeLine:=Nat.le_trans h (by rw[sizeLine_eq];decide)
end DL
namespace DL
@[simp] theorem ED (i j:Int):kR (.int i) (.int j)=(i==j):=rfl
@[simp] theorem DQ (i j:Bool):kR (.bl i) (.bl j)=(i==j):=rfl
@[simp] theorem EF (i j:PySem.Str):kR (.str i) (.str j)=(i==j):=rfl
@[simp] theorem DD:kR .non .non=true:=rfl
@[simp] theorem Ef (i:Int):kR (.int i) .non=false:=rfl
@[simp] theorem Du (i:Int):kR .non (.int i)=false:=rfl
@[simp] theorem Dz (xs ys:List D):kR (.tup xs) (.tup ys)=eN xs ys:=rfl
@[simp] theorem Ez (xs ys:List D):kR (.lst xs) (.lst ys)=eN xs ys:=rfl
@[simp] theorem BV:eN [] []=true:=rfl
@[simp] theorem Di (y:D) (ys:List D):eN [] (y::ys)=false:=rfl
@[simp] theorem C5 (y:D) (ys:List D):eN (y::ys) []=false:=rfl
@[simp] theorem C4 (x y:D) (xs ys:List D):eN (x::xs) (y::ys)=(kR x y&&eN xs ys):=rfl
@[simp] theorem AO (n:Nat) (i:Int):ce n (.int i)=true:=by cases n <;> rfl
@[simp] theorem B9 (n:Nat) (i:Bool):ce n (.bl i)=true:=by cases n <;> rfl
@[simp] theorem AU (n:Nat):ce n .non=true:=by cases n <;> rfl
@[simp] theorem AQ (n:Nat) (x:PySem.Str):ce n (.str x)=PySem.PyData.strOk x:=by cases n <;> rfl
@[simp] theorem rl (n:Nat) (xs:List D):ce (n+1) (.tup xs)=aU n xs:=rfl
@[simp] theorem qR (n:Nat) (xs:List D):ce (n+1) (.lst xs)=aU n xs:=rfl
@[simp] theorem xD (xs:List D):ce 40 (.tup xs)=aU 39 xs:=rl 39 xs
@[simp] theorem xE (xs:List D):ce 40 (.lst xs)=aU 39 xs:=qR 39 xs
@[simp] theorem zj (n:Nat):aU n []=true:=by cases n <;> rfl
@[simp] theorem xt (n:Nat) (x:D) (xs:List D):aU n (x::xs)=(ce n x&&aU n xs):=by cases n <;> rfl
@[simp] theorem Dk (i:Int) (M:ax):io (.int i) M=.int i:=rfl
@[simp] theorem DP (i:Bool) (M:ax):io (.bl i) M=.bl i:=rfl
@[simp] theorem Dc (M:ax):io .non M=.non:=rfl
@[simp] theorem CZ (x:PySem.Str) (M:ax):io (.str x) M=.str x:=rfl
@[simp] theorem Dg (xs:List D) (M:ax):io (.tup xs) M=.tup xs:=rfl
@[simp] theorem Dh (xs:List D) (M:ax):io (.lst xs) M=.lst xs:=rfl
end DL
namespace DL
open PySem PySem.Spec PyProof.Rows L2 PySem.W PySem.Builtin PySem.Builtin.ObjectAttr PySem.Builtin.Getset_descriptor List
structure D0 (K:Frag)(C:Addr):Prop where
 cl:(clsIn K C).isSome=true
 ca:findIn K (.ref C) "__class__"=some (some (.builtin "object.__class__"))
 sp:specialIn K (.builtin "object.__class__") "__get__"=some (some (.builtin "getset_descriptor.__get__"))
 tk:takesIn K (.builtin "object.__class__")=some true
 ob:mroIn K C (.type "object")=some true
 ga:findIn K (.ref C) "__getattribute__"=some (some (.builtin "BaseException.__getattribute__"))
 gh:findIn K (.ref C) "__getattr__"=some none
 be:mroIn K C (.type "BaseException")=some true
end DL
namespace DL
open PySem PySem.Spec PyProof.Rows L2 List
abbrev Bw:List Value:=[.type "ValueError",.type "Exception",.type "BaseException",.type "object"]
structure Ec (K:W.Frag)(mg:Str→Option Value)(c:Str)(C:Addr):Prop where
 at_:jx K c C
 m:mg c=some (.ref C)
 k:D0 K C
 ex:W.excIn K C Bw "ValueError.__new__"=true
 ty:W.typeIn K (.ref C)=some (.type "type")
 sf:W.mroIn K C (.ref C)=some true
theorem xM {K:W.Frag}{h:Heap}{C:Addr}{bmB:List Value}{newId:String}(X:K.In h)(q:W.excIn K C bmB newId=true) :
  ∃bm N nm qn bs hdct sn sub ab col dd k0 k1 k2 k3 k5 mN,h.get? C=some (excClassObj nm qn C N bs bm hdct sn sub ab col dd k0 k1 k2 k3 k5 newId)∧h.Ns N mN∧mN "__init__"=none∧OwnTail h bmB bm:=by
 unfold W.excIn at q;split at q
 ·rename_i d1 cd s1 at1;split at q
  ·rename_i C2 rest j0 j1 j2 j3 nn j5 e1 e2;simp only[Bool.and_eq_true,beq_iff_eq,Bool.not_eq_true'] at q;obtain⟨⟨⟨⟨⟨r1,r2⟩,r3⟩,r4⟩,r5⟩,r6⟩:=q;subst r1;subst r2;cases cd with
   | mk c1 c2 c3 c4 c5 c6 c7 c8 c9 c10 c11=>
    dsimp only at e1 r3 r5 r6;subst e1;subst r3;have e3:s1=#[j0,j1,j2,j3,some (.builtin nn),j5]:=by
     cases s1 with
     | mk l=>
      have e4:l=_:=e2;rw[e4]
    subst e3;refine⟨rest,c4,c1,c5,c2,c6,c7,c8,c9,c10,d1,j0,j1,j2,j3,j5,h.nsMap c4,X _ _ at1,?_,W.nsMap_none_of_in X r5 r6,W.tail_of_in X r4⟩;exact Heap.Ns.of_isNs (W.isNs_of_in X r5)
  ·cases q
 ·cases q
def cr (c:Str)(g:GE):GS:=fun ρ M=>(g ρ M).bind fun _ M1=>.err c M1
theorem tK {X:Cx}{c:Str}{C:Addr}{e:Expr}{g:GE}{np cpos pos:Pos}(k:Ec X.K X.mg c C)(hc:X.calm=true)(hg:Gl X c)(he:PE X e (tE X g))(h1:aP e=true:=by rfl)(hd:(c==("__debug__":Str))=false:=by decide) :
  PS X (.Raise (some (.Call (.Name c np) [e] [] cpos)) none pos) (tS X (cr c g)):=by
 intro ae s σ H D I h;obtain⟨ρ,θ,M,hdn,hw,h⟩:=h;obtain⟨bm,N,nm,qn,bs,hdct,sn,sub,ab,col,dd,k0,k1,k2,k3,k5,mN,hC,hN,hni,T⟩:=xM I.ok.mod.kin k.ex;have hs:starEach [e] X.env=(false,eval e X.env)::starEach [] X.env:=sE h1;have hplain:(backTo cpos (starEach [e] X.env)).any (·.1)=false:=sS (by unfold cR;simp[h1]);refine wpAny_Raise_call_subT (C:=C) (nm:=nm) (q:=qn) (N:=N) (bs:=bs) (bm:=bm) (hdct:=hdct) (sn:=sn) (sub:=sub) (ab:=ab) (col:=col) (dd:=dd) (k0:=k0) (k1:=k1) (k2:=k2) (k3:=k3) (k5:=k5)
  PySem.F.excBase_ValueError (mN:=mN) (T.hasType PySem.F.excBase_ValueError.hasBase) (I.ok.hd hc) hplain hni (lV I hg k.m ⟨rfl,?_⟩ hd)
 have hv:=eE he gF hs cpos ae s σ H (fun vs H1=>vs.length=1∧∃θ1 M1,Go X.K θ H θ1 H1 M1∧cx X θ1 H1 c M1) I (by
  refine bE hdn hw (bB X θ H D) (fun c M' h=>h) (fun h=>h) h fun d M1 v θ1 H1 g1 r1 h2=>?_
  exact⟨rfl,θ1,M1,g1,cx.go g1 h2⟩)
 rw[hs] at hv ⊢;refine Calls.evalArgs_plain (wpAny_mono hv (fun us s2 hq=>⟨rfl,?_⟩) fun _ _ y=>y);obtain⟨vs,H1,I1,rv,hl,θ1,M1,g1,ok⟩:=hq;refine⟨by show us.length≤sizeLine;rw[←rv.length,hl];exact Nat.le_trans (by decide:1≤1000000) (by rw[sizeLine_eq];decide),I1.bk _ _ hC,hN.keeps I1.bk,T.keeps I1.bk,fun h' e' hm=>?_⟩;exact ok C θ1 H1 e' _ k.at_ (.refl g1.wr) ⟨ae,σ,.inl ⟨s2.heap,us,I1,hm⟩⟩
def t8 (i:Nat):Fl→Fl
 | .nx ρ=>.nx (ρ.set i none)
 | .bk ρ=>.bk (ρ.set i none)
 | .ct ρ=>.ct (ρ.set i none)
 | .rt d=>.rt d
section
variable {X:Cx}
def iW (d:D)(M:ax):Option (List D):=match d with
 | .lst xs=>some xs
 | .ro xs=>some xs
 | .mr k=>match M[k]? with
  | some (.lst xs)=>some xs
  | _=>none
 | _=>none
theorem zD {K:W.Frag}{θ:List Addr}{H:Hp}{M:ax}{d:D}{xs:List D}{v:V}(hw:Wr K θ H M)(r:cX K θ H d v)(e:iW d M=some xs):∃a vs,v=.ref a∧iZ K H a vs∧aR K θ H xs vs:=by
 cases d with
 | lst ys=>cases e;obtain⟨a,vs,ea,ta,ra⟩:=r;exact⟨a,vs,ea,ta.sq,ra⟩
 | ro ys=>cases e;obtain⟨a,vs,ea,ta,ra⟩:=r;exact⟨a,vs,ea,ta.sq,ra⟩
 | mr k=>
  obtain⟨a,ea,ta⟩:=r;have e:(match M[k]? with|some (.lst xs)=>some xs|_=>none)=some xs:=e;cases q:M[k]? with
  | none=>rw[q] at e;cases e
  | some m=>
   cases m with
   | lst ys=>
    rw[q] at e;cases e;obtain⟨vs,hv,ra⟩:=hw.at_ k a _ ta q;exact⟨a,vs,ea,.inl (.inl hv),ra⟩
   | _=>rw[q] at e;cases e
 | _=>cases e
section
variable {o e:Expr}{go ge:GE}{apos cpos:Pos}
theorem jX {env:Env}(h:aP e=true):((backTo cpos (starEach [e] env)).all (fun x=>!x.1)&&(backToKw cpos (keywordEach [] env)).all (fun x=>x.1.isSome)
   && decide ([e].length+([]:List Keyword).length+(if([]:List Keyword).isEmpty then 0 else 1)<30))=true:=by
 rw[sE h];rfl
end
end
end DL
namespace DL
open PySem L2
theorem CG {P:Program}{w:World}{H:Hp}{s:Shared}{e:Value}{s':Shared}(z:iX P w [] H s (fun _ _ _=>False) e s'):False:=by
 obtain⟨_,_,_,_,_,_,_,_,_,_,_,_,_,_,h⟩:=z;exact h
end DL
namespace DL
open PySem PySem.Spec PyProof.Rows L2 List
structure Kc (K:W.Frag)(mg:Str→Option Value)(c:Str)(C:Addr):Prop where
 at_:jx K c C
 m:mg c=some (.ref C)
 cl:E6 K C
section
variable {X:Cx}{c f:Str}{C:Addr}{o e value:Expr}{g go gv:GE}{pos pos' apos p:Pos}
def tW (add:Bool)(x y:D)(M:ax):aF D:=match x,y with
 | .int i,.int j=>.ok (.int (if add then i+j else i-j)) M
 | _,_=>.bad
def nc (i:Nat)(add:Bool)(g:GE):GS:=fun ρ M=>(af i ρ M).bind fun x M0=>(g ρ M0).bind fun y M1=>(tW add x y M1).bind fun z M2=>.ok (.nx (ρ.set i (some z))) M2
theorem z5 {i:Nat}{x:Str}{add:Bool}{op:Operator}(hop:op=if add then .Add else .Sub)(hN:X.N.Nodup)(hi:X.N[i]?=some x)(hx:ny X.env.scope x)(he:PE X e (tE X g))(hf:X.fn x=true∨X.env.scope.names.lookup x=some .local:=by first|exact .inl rfl|exact .inr rfl|assumption) :
  PS X (.AugAssign (.Name x pos') op e pos) (tS X (nc i add g)):=by
 have ip:Dd X op (Dw fun i j=>if add then i+j else i-j):=by
  subst hop;cases add with
  | true=>exact Ao
  | false=>exact yi
 refine(uO hN hi hx he ip hf).of fun D σ H hxx=>?_
 obtain⟨ρ,θ,M,hd,hw,h⟩:=hxx;unfold nc af at h;split at h
 ·rename_i d q;obtain⟨v,e1,r⟩:=hd.at_ i d q;refine⟨v,e1,?_⟩;have h:bB X θ H D ((g ρ M).bind fun y M1=>(tW add d y M1).bind fun z M2=>.ok (.nx (ρ.set i (some z))) M2):=h;refine bE hd hw (bB X θ H D) (fun c M' h=>h) (fun h=>h) h fun y M1 vy θ1 H1 g1 r1 h1=>?_
  cases d with
  | int a=>
   cases y with
   | int b=>exact⟨a,b,r,r1,h1 _ θ1 H1 g1 ((hd.go g1).set (d:=.int (if add then a+b else a-b)) rfl i)⟩
   | _=>exact h1.elim
  | _=>exact h1.elim
 ·exact h.elim
end
end DL
namespace DL
open PySem PySem.Spec PyProof.Rows L2 List
open AutoSeq1 (wpAny_loadPart')
end DL
namespace DL
open PySem PySem.Spec PyProof.Rows L2 List
def H0 (K:W.Frag)(a:Addr)(so:Obj)(xs:List V)(ts:List Addr)(bm:Addr)(ob:Obj):Hp:=fun b=>
 if b=a then(if K.lookup a=none then some (.frz so (.lst xs)) else none) else if b∈ts then some (.tbl #[]) else if b=bm then some (EL ob) else none
structure D5 (K:W.Frag)(x:Str)(c P:Addr):Prop where
 mem:x∈dP
 tab:W.tabIn K x=some (c,P)
 uniq:∀y,y∈dP→y≠x→∀c2,W.tabIn K y≠some (c2,P)
 hd:∃o vs file tf flags tg inF text tt,K.lookup c=some o∧o.cls=.type "code"∧o.data=.fields vs∧vs[11]?=some (.ref P)∧vs.getD 11 .none=.ref P∧vs.getD 18 .none=.str file tf∧
  vs.getD 7 .none=.int flags tg∧vs.getD 9 .none=.bool inF∧vs.getD 10 .none=.int text tt∧c≠P
end DL
namespace DL
open PySem PySem.Spec PyProof.Rows L2 List
section
open PySem.SeqAt
open PySem.AutoSeq1 (wpAny_loadPart')
open PySem.MeetsSeq PySem.MeetsSeq2 PySem.MeetsSeq3
end
end DL
namespace DL
open PySem PySem.Spec PyProof.Rows L2 List
section
variable {X:Cx}{o e:Expr}{go ge:GE}{apos cpos:Pos}
def bJ:F2:=fun x y M=>match x,y with
 | .str z,.int i=>if z.length≤sizeLine then(match j6 z.cps.toList i with
  | some c=>.ok (.str ⟨#[c]⟩) M
  | none=>.bad) else .bad
 | x,y=>ot x y M
theorem y8:AG X (rD X bJ):=by
 intro value slice ae s σ H x y v u Q I rx ry h hs;obtain⟨θ,M,dx,dy,hw,r1,r2,h⟩:=h;have rest:aH X θ H Q (ot dx dy M)→_:=fun h=>Bs value slice ae s σ H x y v u Q I rx ry ⟨θ,M,dx,dy,hw,r1,r2,h⟩ hs
 cases dx with
 | str z=>
  cases dy with
  | int i=>
   have h:aH X θ H Q (if z.length≤sizeLine then(match j6 z.cps.toList i with|some c=>.ok (.str ⟨#[c]⟩) M|none=>.bad) else .bad):=h;split at h
   ·rename_i hz;cases q:j6 z.cps.toList i with
    | none=>rw[q] at h;exact h.elim
    | some c=>
     rw[q] at h;exact zp value slice ae s σ H x y v u Q I rx ry ⟨z,i,c,r1,r2,hz,q,h _ θ H (.refl hw) rfl⟩ hs
   ·exact h.elim
  | _=>exact rest h
 | _=>exact rest h
theorem xV {a b:Expr}{pos:Pos}{ga gb:GE}(ha:PE X a (tE X ga))(hb:PE X b (tE X gb))(hs:lJ b:=by intro _ _;rfl):PE X (.Subscript a b pos) (tE X (g2 bJ ga gb)):=
 (BM y8 ha hb hs).of fun _ _ _ h=>tX h
def Eu (j i:Str):Bool:=!(Builtin.Str.occurrences j i 0 j.length 1).isEmpty
def xJ:F2:=fun x y M=>match x,y with
 | .str i,.str j=>.ok (.bl (Eu j i)) M
 | x,y=>mR false x y M
theorem yR:ej X (compareOp .In) (rD X xJ):=by
 intro ae s σ H x y v u Q I rx ry h;obtain⟨θ,M,dx,dy,hw,r1,r2,h⟩:=h;have rest:aH X θ H Q (mR false dx dy M)→_:=fun h=>CT ae s σ H x y v u Q I rx ry ⟨θ,M,dx,dy,hw,r1,r2,h⟩
 cases dx with
 | str i=>
  cases dy with
  | str j=>exact qg ae s σ H x y v u Q I rx ry ⟨i,j,r1,r2,h _ θ H (.refl hw) rfl⟩
  | _=>exact rest h
 | _=>exact rest h
def bu (F:Str→D→ax→aF D)(go ge:GE):GE:=fun ρ M=>(go ρ M).bind fun o M1=>match o with
 | .str x=>(ge ρ M1).bind fun d M2=>F x d M2
 | _=>.bad
theorem jC {F:Str→D→ax→aF D}{rr:V→List V→Hp→VK→Prop}{σ:L2.St}{H:Hp}{Q:VK}
  (hF:∀θ H M x d y Q,Wr X.K θ H M→cX X.K θ H d y→aH X θ H Q (F x d M)→rr (.str x) [y] H Q) (h:tE X (bu F go ge) σ H Q):DF X.K "str" rr (tE X go) (xv (tE X ge) BB) σ H Q:=by
 obtain⟨ρ,θ,M,hd,hw,h⟩:=h;refine bE hd hw (aH X θ H Q) (fun c M' h=>h) (fun h=>h) h fun d M1 v θ1 H1 g1 r1 h1=>?_
 have h2:=aH.go g1 h1;cases d with
 | str x=>
  have ev:v=.str x:=r1;subst ev;refine⟨rfl,?_⟩;refine bE (hd.go g1) g1.wr (aH X θ1 H1 Q) (fun c M' h=>h) (fun h=>h) h2 fun dx M2 vx θ2 H2 g2 r2 h3=>?_
  exact hF θ2 H2 M2 x dx vx Q g2.wr r2 (aH.go g2 h3)
 | _=>exact h2.elim
def jm (x:Str)(d:D)(M:ax):aF D:=match d with
 | .str y=>.ok (.int (Txt.find x y)) M
 | _=>.bad
def sZ:V→List V→Hp→VK→Prop:=fun x vs H Q=>∃a b,x=.str a∧vs=[.str b]∧Q (.int (Txt.find a b)) H
theorem xb:Dl X "str.find" sZ:=by
 intro ae s σ H x vs v us Q I rx rv h;obtain⟨a,b,rfl,rfl,q⟩:=h;obtain⟨t,rfl⟩:=rx;obtain⟨u,rfl,ru⟩:=rv.one;obtain⟨t',rfl⟩:=ru;exact SC.find ⟨.int _,H,I.tok _,⟨s.toks,rfl⟩,q⟩
theorem wc {θ:List Addr}{H:Hp}{M:ax}{x:Str}{d:D}{y:V}{Q:VK}(hw:Wr X.K θ H M)(ry:cX X.K θ H d y)(h:aH X θ H Q (jm x d M)):sZ (.str x) [y] H Q:=by
 cases d with
 | str z=>
  have ev:y=.str z:=ry;subst ev;exact⟨x,z,rfl,rfl,h _ θ H (.refl hw) rfl⟩
 | _=>exact h.elim
theorem u6 (ho:PE X o (tE X go))(he:PE X e (tE X ge))(h1:aP e=true:=by rfl)(hbase:attributeBase o "find" X.env (eval o X.env)=eval o X.env:=by rfl)(hline:(apos.endLine==cpos.line)=true:=by rfl) :
  PE X (.Call (.Attribute o "find" apos) [e] [] cpos) (tE X (bu jm go ge)):=
 (nb PySem.F.plainAttrs_str PySem.F.slot_str_find PySem.F.type_str_find xb ho (eE he gF (sE h1)) hbase (jX h1) hline (sE h1) rfl).of fun σ H Q h=>jC (fun θ H M x d y Q=>wc) h
theorem Av {x z:Str}{tk:Tok}{pos:Pos}(hg:Gl X x)(hm:X.mg x=some (.str z tk))(hd:(x==("__debug__":Str))=false:=by decide):PE X (.Name x pos) (tE X (gC (.str z))):=
 (pj hg hm (v:=.str z) ⟨tk,rfl⟩ hd).of fun σ H Q h=>by
  obtain⟨ρ,θ,M,_,hw,h⟩:=h;exact h _ θ H (.refl hw) rfl
end
end DL
namespace DL
open PySem PySem.Spec PyProof.Rows L2 List
def dq (x:Str):List D:=x.cps.toList.map fun c=>D.str ⟨#[c]⟩
def C7 (x:Str):It:=⟨fun i _=>i<x.cps.size,fun i H v H'=>H'=H∧∃c,x.cps[i]?=some c∧v=.str ⟨#[c]⟩,fun i _=>x.cps.size≤i⟩
theorem ma {P:Program}{w:World}{K:W.Frag}{tg:Expr}{T:String}{x:Str}{t:Tok}(it:Addr)(hn:["enumerate","zip","dict_itemiterator","dict_reverseitemiterator","odict_iterator","itertools.zip_longest","itertools.pairwise"].contains T=false)
  (W:∀A:Around,A.handled=none→Walks P w A it [it] [it] x.cps.size (fun i v=>∃c u,x.cps[i]?=some c∧v=.str ⟨#[c]⟩ u) fun i h=>h.IsStrIter it T x t i)
  (hs:∀(A:Around) (i:Nat) (s:Shared) (Q:Value→Shared→Prop) (E:Value→Shared→Prop),s.heap.IsStrIter it T x t i→Q (.ref it) s→wpAny (model P w) A (pyIter (.ref it)) Q E s) :
  nU P w K tg (C7 x) [it] it (fun i h=>h.IsStrIter it T x t i∧i≤x.cps.size) where
 mem:=by simp
 obj:=fun i h st b hb=>by
  have e:b=it:=by simpa using hb
  subst e;obtain⟨⟨o,e,c,d⟩,_⟩:=st;exact⟨o,e,fun v z=>by rw[d] at z;cases z⟩
 keep:=fun i h h' st k=>by
  obtain⟨⟨o,e,c,d⟩,hi⟩:=st;exact⟨⟨o,k it (by simp) o e,c,d⟩,hi⟩
 item:=by
  intro X hP hw hK hc i ae s σ H E I hf st hg;subst hP hw hK;obtain⟨f0,f1,f2,f3,f4,f5⟩:=hf it (by simp);have hg:i<x.cps.size:=hg;refine(W X.A (I.ok.hd hc)).item i s _ _ hg st.1 fun v h' tk hv st' kk=>?_
  obtain⟨c,u,ec,rfl⟩:=hv;have I1:Inv X ae σ H {s with heap:=h',toks:=tk}:=I.turned (fun b o hb e=>kk b o (by simpa using hb) e) f0 f1 f3 f4 f5;obtain⟨o,e,oc,od⟩:=id st';exact⟨_,rfl,l9 (s:={s with heap:=h',toks:=tk}) e oc od hn ⟨.str ⟨#[c]⟩,H,I1,⟨u,rfl⟩,⟨rfl,c,ec,rfl⟩,⟨st',hg⟩,fun b hb=>(hf b hb).1⟩⟩
 done:=by
  intro X hP hw hK hc i ae s σ H E I hf st hg;subst hP hw hK;obtain⟨f0,f1,f2,f3,f4,f5⟩:=hf it (by simp);have hg:x.cps.size≤i:=hg;have e:i=x.cps.size:=Nat.le_antisymm st.2 hg;subst e;exact(W X.A (I.ok.hd hc)).done s _ _ st.1 fun h' tk kk=>⟨rfl,I.turned (fun b o hb e=>kk b o (by simpa using hb) e) f0 f1 f3 f4 f5⟩
 self:=fun A i s Q E st h=>hs A i s Q E st.1 h
theorem vQ {K:W.Frag}{θ:List Addr}{H:Hp}(x:Str):uR K (C7 x) θ H ⟨dq x,none⟩:=by
 intro θ1 H1 M1 g _ i;refine⟨fun d e=>?_,fun hl=>?_⟩
 ·have hi:i<x.cps.size:=by
   have:=(List.getElem?_eq_some_iff.mp e).1;simpa[dq] using this
  refine⟨hi,fun v H2 y=>?_⟩;obtain⟨eH,c,ec,rfl⟩:=y;subst eH;refine⟨.refl g.wr,?_⟩;have e':D.str ⟨#[c]⟩=d:=by
   have:(dq x)[i]?=some (D.str ⟨#[c]⟩):=by simp[dq,ec]
   rw[this] at e;exact Option.some.inj e
  subst e';rfl
 ·have h2:(dq x).length≤i:=hl;have h3:x.cps.size≤i:=by simpa[dq] using h2
  exact h3
def oB (d:D)(M:ax):aF j9:=match d with
 | .str x=>.ok ⟨dq x,none⟩ M
 | d=>kP d M
def bt (g:GE):GI:=fun ρ M=>(g ρ M).bind oB
section
variable {X:Cx}{tg:Expr}
theorem sh {ae:List (Addr×Obj)}{s:Shared}{σ:L2.St}{H:Hp}{R:It→Hp→Prop}{x:Str}{t:Tok}(I:L2.Inv X ae σ H s)(h:R (C7 x) H):wpAny (model X.prog X.w) X.A (pyIter (.str x t)) (DA X ae σ tg R) X.xe s:=by
 have fp:∀b∈[s.heap.objs.size],gO X ae H b:=fun b hb=>by
  have e:b=s.heap.objs.size:=by simpa using hb
  subst e;exact I.fpOk (Nat.le_refl _) (I.hok.fresh (Nat.le_refl _))
 cases ha:x.cps.all (·<128) with
 | true=>
  refine wpAny_pyIter_ascii ha ?_;refine⟨s.heap.objs.size,[s.heap.objs.size],_,_,H,rfl,I.kept (t':=s.toks) fun b o e=>Heap.get?_push_of_some _ e,ma (T:="str_ascii_iterator") (x:=x) (t:=t) _ (by decide) (fun A hA=>Walks.strAscii hA _ x t) (fun A i s Q E st hQ=>?_),⟨⟨_,Heap.get?_push_size _ rfl,rfl,rfl⟩,Nat.zero_le _⟩,fp,h⟩;exact wpAny_pyIter_striter_ascii st hQ
 | false=>
  refine wpAny_pyIter_wide ha ?_;refine⟨s.heap.objs.size,[s.heap.objs.size],_,_,H,rfl,I.kept (t':=s.toks) fun b o e=>Heap.get?_push_of_some _ e,ma (T:="str_iterator") (x:=x) (t:=t) _ (by decide) (fun A hA=>Walks.strWide hA _ x t) (fun A i s Q E st hQ=>?_),⟨⟨_,Heap.get?_push_size _ rfl,rfl,rfl⟩,Nat.zero_le _⟩,fp,h⟩;exact wpAny_pyIter_striter_wide st hQ
theorem AA {l:Expr}{tl:TE}(hl:PE X l tl):PI X tg l (fun σ H R=>tl σ H fun x H1=>(∃z,x=.str z∧R (C7 z) H1)∨∃a,x=.ref a∧(((∃xs,iZ X.K H1 a xs)∧R (C1 X.K a) H1)∨((∃xs,lX X.K H1 a xs)∧R (D6 X.K a) H1))):=by
 intro ae s σ H R I h;refine cj (hl ae s σ H _ I h) fun v s1 hxx=>?_
 obtain⟨x,H1,I1,r1,q1⟩:=hxx;rcases q1 with⟨z,e,q1⟩|⟨a,e,q1⟩
 ·subst e;obtain⟨t,rfl⟩:=r1;exact sh I1 q1
 subst e;cases r1;rcases q1 with⟨⟨xs,hq⟩,q⟩|⟨⟨xs,hq⟩,q⟩
 ·obtain⟨its,rv,p,hz⟩:=I1.list hq;refine wpAny_pyIter_list p.isList ?_;refine⟨s1.heap.objs.size,[s1.heap.objs.size],_,_,H1,rfl,I1.kept (t':=s1.toks) fun b o e=>Heap.get?_push_of_some _ e,qL a _,⟨_,Heap.get?_push_size _ rfl,rfl,rfl⟩,fun b hb=>?_,q⟩;have e:b=s1.heap.objs.size:=by simpa using hb
  subst e;exact I1.fpOk (Nat.le_refl _) (I1.hok.fresh (Nat.le_refl _))
 ·obtain⟨its,rv,p,hz⟩:=I1.tuple hq;refine wpAny_pyIter_tuple (show s1.heap.IsTuple a its.toArray from p) ?_;refine⟨s1.heap.objs.size,[s1.heap.objs.size],_,_,H1,rfl,I1.kept (t':=s1.toks) fun b o e=>Heap.get?_push_of_some _ e,oq a _,⟨_,Heap.get?_push_size _ rfl,rfl,rfl⟩,fun b hb=>?_,q⟩;have e:b=s1.heap.objs.size:=by simpa using hb
  subst e;exact I1.fpOk (Nat.le_refl _) (I1.hok.fresh (Nat.le_refl _))
theorem vP {l:Expr}{g:GE}(hl:PE X l (tE X g)):PI X tg l (tI X (bt g)):=by
 intro ae s σ H R I h;refine AA hl ae s σ H R I ?_;obtain⟨ρ,θ,M,hd,hw,h⟩:=h;refine bE hd hw (qD X θ H R) (fun c M' h=>h) (fun h=>h) h fun d M1 v θ1 H1 g1 r1 h1=>?_
 cases d with
 | str z=>exact .inl ⟨z,r1,h1 _ θ1 H1 g1 (vQ z)⟩
 | lst ds=>
  obtain⟨a,vs,e,ta,r⟩:=r1;exact .inr ⟨a,e,.inl ⟨⟨vs,ta.sq⟩,h1 _ θ1 H1 g1 (oN (.inl ⟨.inl ta.1,ta.2⟩) r)⟩⟩
 | ro ds=>
  obtain⟨a,vs,e,ta,r⟩:=r1;exact .inr ⟨a,e,.inl ⟨⟨vs,ta.sq⟩,h1 _ θ1 H1 g1 (oN ta r)⟩⟩
 | tup ds=>
  obtain⟨a,vs,e,ta,r⟩:=r1;exact .inr ⟨a,e,.inr ⟨⟨vs,ta.sq⟩,h1 _ θ1 H1 g1 (vc ta r)⟩⟩
 | mr k=>
  obtain⟨a,e,ta⟩:=r1;have h2:qD X θ H R (match M1[k]? with|some (.lst ds)=>.ok ⟨ds,some k⟩ M1|_=>.bad):=h1;cases q:M1[k]? with
  | none=>rw[q] at h2;exact h2.elim
  | some m=>
   cases m with
   | lst ds=>
    rw[q] at h2;obtain⟨vs,hv,r⟩:=g1.wr.at_ k a _ ta q;exact .inr ⟨a,e,.inl ⟨⟨vs,.inl (.inl hv)⟩,h2 _ θ1 H1 g1 (vY ta)⟩⟩
   | _=>rw[q] at h2;exact h2.elim
 | _=>exact h1.elim
end
theorem kJ:∀{ys:List Str} {us:List Value},aM (ys.map V.str) us→∃l:List (Str×Tok),us=strValues l∧l.map (·.1)=ys
 | [],us,h=>by cases h;exact⟨[],rfl,rfl⟩
 | y::ys,us,h=>by
  cases h with
  | cons h1 h2=>
   obtain⟨t,rfl⟩:=h1;obtain⟨l,rfl,e⟩:=kJ h2;exact⟨(y,t)::l,rfl,by rw[map_cons,e]⟩
def fH:List D→Option (List Str)
 | []=>some []
 | .str x::r=>(fH r).map (x::·)
 | _=>none
theorem m3 {K:W.Frag}{θ:List Addr}{H:Hp}:∀{ds:List D} {ys:List Str} {vs:List V},fH ds=some ys→aR K θ H ds vs→vs=ys.map V.str
 | [],ys,vs,h,r=>by cases h;exact r
 | d::ds,ys,vs,h,r=>by
  obtain⟨v,rr,e,h1,h2⟩:=r;cases d with
  | str x=>
   cases q:fH ds with
   | none=>simp[fH,q] at h
   | some ks=>
    simp only[fH,q,Option.map_some,Option.some.injEq] at h;subst h;have e1:v=.str x:=h1;subst e1;rw[e,m3 q h2];rfl
  | _=>cases h
section
open Builtin Builtin.Str
end
section
variable {X:Cx}{o e:Expr}{go ge:GE}{apos cpos:Pos}
def dt (x:Str)(d:D)(M:ax):aF D:=match iW d M with
 | some ds=>match fH ds with
  | some ys=>if JoinOk x ys then .ok (.str (Txt.join x ys)) M else .bad
  | none=>.bad
 | none=>.bad
def xw (K:W.Frag):V→List V→Hp→VK→Prop:=fun x vs H Q=>∃a p ys,x=.str a∧vs=[.ref p]∧iZ K H p (ys.map V.str)∧JoinOk a ys=true∧Q (.str (Txt.join a ys)) H
theorem vB:Dl X "str.join" (xw X.K):=by
 intro ae s σ H x vs v us Q I rx rv h;obtain⟨a,p,ys,rfl,rfl,hq,ok,q⟩:=h;obtain⟨t,rfl⟩:=rx;obtain⟨u,rfl,ru⟩:=rv.one;cases ru;obtain⟨its,r,pl,hz⟩:=I.list hq;obtain⟨l,rfl,el⟩:=kJ r;exact SC.join pl.isList el ok fun t' k=>⟨.str _,H,I.tok k,⟨t',rfl⟩,q⟩
theorem u5 {θ:List Addr}{H:Hp}{M:ax}{x:Str}{d:D}{y:V}{Q:VK}(hw:Wr X.K θ H M)(ry:cX X.K θ H d y)(h:aH X θ H Q (dt x d M)):xw X.K (.str x) [y] H Q:=by
 unfold dt at h;cases ql:iW d M with
 | none=>rw[ql] at h;exact h.elim
 | some ds=>
  rw[ql] at h;dsimp only at h;obtain⟨a,vs,ea,sq,ra⟩:=zD hw ry ql;cases qs:fH ds with
  | none=>rw[qs] at h;exact h.elim
  | some ys=>
   rw[qs] at h;dsimp only at h;split at h
   ·rename_i hk;rw[m3 qs ra] at sq;exact⟨x,a,ys,rfl,by rw[ea],sq,hk,h _ θ H (.refl hw) rfl⟩
   ·exact h.elim
theorem vC (ho:PE X o (tE X go))(he:PE X e (tE X ge))(h1:aP e=true:=by rfl)(hbase:attributeBase o "join" X.env (eval o X.env)=eval o X.env:=by rfl)(hline:(apos.endLine==cpos.line)=true:=by rfl) :
  PE X (.Call (.Attribute o "join" apos) [e] [] cpos) (tE X (bu dt go ge)):=
 (nb PySem.F.plainAttrs_str PySem.F.slot_str_join PySem.F.type_str_join vB ho (eE he gF (sE h1)) hbase (jX h1) hline (sE h1) rfl).of fun σ H Q h=>jC (fun θ H M x d y Q=>u5) h
end
end DL
namespace DL
open PySem PySem.Spec PyProof.Rows L2 List
section
variable {X:Cx}
theorem nY {x:Str}{acc:Array Value}(h:ItemsOf (SignAt x) acc x.cps.size):aM (x.cps.toList.map fun c=>V.str ⟨#[c]⟩) acc.toList:=by
 obtain⟨h1,h2⟩:=h;have go:∀(cs:List Nat) (us:List Value),cs.length=us.length→(∀(j:Nat) (u:Value),us[j]?=some u→∃c t,cs[j]?=some c∧u=Value.str ⟨#[c]⟩ t)→aM (cs.map fun c=>V.str ⟨#[c]⟩) us:=by
  intro cs
  induction cs with
  | nil=>
   intro us hl _;cases us with
   | nil=>exact .nil
   | cons _ _=>cases hl
  | cons c cs ih=>
   intro us hl hu;cases us with
   | nil=>cases hl
   | cons u us=>
    obtain⟨c',t,ec,eu⟩:=hu 0 u rfl;cases ec;exact .cons ⟨t,eu⟩ (ih us (by simpa using hl) fun j v hj=>hu (j+1) v hj)
 refine go _ _ (by simp[h1]) fun j u hj=>?_
 obtain⟨c,t,ec,eu⟩:=h2 j u (by simpa using hj);exact⟨c,t,by simpa using ec,eu⟩
theorem jQ {K:W.Frag}{θ:List Addr}{H:Hp}:∀cs:List Nat,aR K θ H (cs.map fun c=>D.str ⟨#[c]⟩) (cs.map fun c=>V.str ⟨#[c]⟩)
 | []=>rfl
 | c::cs=>⟨_,_,rfl,rfl,jQ cs⟩
def fU:FD:=fun ds M=>match ds with
 | [.str x]=>if x.cps.size≤sizeLine then .ok (.lst (dq x)) M else .bad
 | ds=>j4 ds M
theorem ko (hc:X.calm=true):cL X (.type "list") (fun xs H Q=>∃x,xs=[.str x]∧x.cps.size≤sizeLine∧∀l,H l=none→Q (.ref l) (cK H l (.lst (x.cps.toList.map fun c=>V.str ⟨#[c]⟩)))):=by
 intro ae s σ H xs us Q I r h;obtain⟨x,rfl,hz,q⟩:=h;obtain⟨u,rfl,rx⟩:=kF r;obtain⟨t,rfl⟩:=rx;refine call_list_str (I.ok.hd hc) x t (fun h' tk acc c' kp e it=>?_) hz;exact⟨.ref s.heap.objs.size,_,I.laid (t':=tk) kp (Nat.le_refl _) (show dr X.prog X.w _ h' _ (.lst (x.cps.toList.map fun c=>V.str ⟨#[c]⟩)) from⟨by simpa using hz,acc.toList,c',nY it,by simpa using e⟩),rfl,q _ (I.hok.fresh (Nat.le_refl _))⟩
theorem tx (hc:X.calm=true):cL X (.type "list") (rC X fU):=by
 intro ae s σ H xs us Q I r h;obtain⟨θ,M,ds,hw,rd,h⟩:=h;have rest:aH X θ H Q (j4 ds M)→_:=fun h=>wz ae s σ H xs us Q I r ⟨θ,M,ds,hw,rd,h⟩
 unfold fU at h;split at h
 ·rename_i x;split at h
  ·rename_i hz;obtain⟨v,e,rv⟩:=iG rd;have ev:v=.str x:=rv;subst ev;exact ko hc ae s σ H xs us Q I r ⟨x,e,hz,fun l hl=>h _ θ _ (dO hw hl) (eC hw hl (jQ _))⟩
  ·exact h.elim
 ·exact rest h
def nF (M:ax)(k:Nat):Option (List D):=match M[k]? with
 | some (.lst xs)=>some xs
 | _=>none
theorem oi {M:ax}{k:Nat}{xs:List D}(h:nF M k=some xs):M[k]?=some (.lst xs):=by
 unfold nF at h;split at h
 ·rename_i ys e;cases h;exact e
 ·cases h
def nM (F:List D→List D→Option (D×List D))(go:GE)(ga:GA):GE:=fun ρ M=>(go ρ M).bind fun o M1=>match o with
 | .mr k=>match nF M1 k with
  | some _=>(ga ρ M1).bind fun ds M2=>match nF M2 k with
   | some xs=>match F xs ds with
    | some r=>.ok r.1 (M2.set k (.lst r.2))
    | none=>.bad
   | none=>.bad
  | none=>.bad
 | _=>.bad
theorem BG {F:List D→List D→Option (D×List D)}{rr:V→List V→Hp→VK→Prop}{σ:L2.St}{H:Hp}{Q:VK}{go:GE}{ga:GA}
  (hF:∀θ H M a (k:Nat) xs vs ds us r Q,Wr X.K θ H M→θ[k]?=some a→M[k]?=some (.lst xs)→H a=some (.lst vs)→aR X.K θ H xs vs→aR X.K θ H ds us→F xs ds=some r→aH X θ H Q (.ok r.1 (M.set k (.lst r.2)))→rr (.ref a) us H Q)
  (h:tE X (nM F go ga) σ H Q):DF X.K "list" rr (tE X go) (tA X ga) σ H Q:=by
 obtain⟨ρ,θ,M,hd,hw,h⟩:=h;refine bE hd hw (aH X θ H Q) (fun c M' h=>h) (fun h=>h) h fun d M1 v θ1 H1 g1 r1 h1=>?_
 have h2:=aH.go g1 h1;cases d with
 | mr k=>
  have h2:aH X θ1 H1 Q (match nF M1 k with
   | some _=>(ga ρ M1).bind fun ds M2=>match nF M2 k with
    | some xs=>match F xs ds with
     | some r=>.ok r.1 (M2.set k (.lst r.2))
     | none=>.bad
    | none=>.bad
   | none=>.bad):=h2
  cases q1:nF M1 k with
  | none=>rw[q1] at h2;exact h2.elim
  | some ys=>
   rw[q1] at h2;obtain⟨a,ea,ta⟩:=id r1;obtain⟨vs1,hv1,_⟩:=g1.wr.at_ k a _ ta (oi q1);refine⟨by rw[ea];exact .inl ⟨rfl,vs1,.inl (.inl hv1)⟩,?_⟩;refine gq (hd.go g1) g1.wr (aH X θ1 H1 Q) (fun c M' h=>h) (fun h=>h) h2 fun ds M2 us θ2 H2 g2 r2 h3=>?_
   have h4:=aH.go g2 h3;cases q2:nF M2 k with
   | none=>rw[q2] at h4;exact h4.elim
   | some xs=>
    rw[q2] at h4;dsimp only at h4;cases q3:F xs ds with
    | none=>rw[q3] at h4;exact h4.elim
    | some r=>
     rw[q3] at h4;obtain⟨a2,ea2,ta2⟩:=r1.go g2;rw[ea] at ea2;cases ea2;obtain⟨vs,hv,ra⟩:=g2.wr.at_ k a _ ta2 (oi q2);rw[ea];exact hF θ2 H2 M2 a k xs vs ds us r Q g2.wr ta2 (oi q2) hv ra r2 q3 h4
 | _=>exact h2.elim
variable {o e e2:Expr}{go:GE}{ga:GA}{apos cpos:Pos}
end
structure QE (X:Cx)(e:Expr)(g:GE):Prop where
 h:PE X e (tE X g)
structure QT (X:Cx)(e:Expr)(g:GT):Prop where
 h:PT X e (tT X g)
structure QW (X:Cx)(e:Expr)(g:GT):Prop where
 h:PW X e (tT X g)
structure QA (X:Cx)(es:List Expr)(g:GA):Prop where
 h:PA X es (tA X g)
structure QS (X:Cx)(st:Stmt)(g:GS):Prop where
 h:PS X st (tS X g)
structure QB (X:Cx)(st:List Stmt)(g:GS):Prop where
 h:PSs X st (tS X g)
structure QI (X:Cx)(tg e:Expr)(g:GI):Prop where
 h:PI X tg e (tI X g)
structure QG (X:Cx)(tg:Expr)(s:GG):Prop where
 h:PG X tg (tG X s)
structure AS (X:Cx)(tgs:List Expr)(is:List Nat):Prop where
 h:vq X tgs (CA X is)
structure QP (X:Cx)(e:Option Expr)(g:GO):Prop where
 h:PO X e (tO X g)
structure Q2 (X:Cx)(f:Value→Value→Sem Value)(F:F2):Prop where
 h:ej X f (rD X F)
structure QC (X:Cx)(f:Value)(F:FD):Prop where
 h:cL X f (rC X F)
structure vX (X:Cx)(scope:Scope)(xs:List Str)(R:List Str)(ifs:List Expr)(gc:GT):Prop where
 h:fg X scope xs R ifs gc
structure QO (n:Nat)(sg:GG):Prop where
 h:l6 n sg
section
variable {X:Cx}{e a b c o i:Expr}{es rest:List Expr}{x:Str}{p p2 pos pos':Pos}{g ga gb gc go gi ge:GE}{ta tb:GT}{gA:GA}
theorem Cj:Q2 X (binaryOp .Add) aA:=⟨yI⟩
theorem Bt:Q2 X (binaryOp .Sub) ek:=⟨zo⟩
theorem Cz:Q2 X (binaryOp .Mult) fD:=⟨Ag⟩
theorem zH:Q2 X (binaryOp .FloorDiv) jH:=⟨uZ⟩
theorem Cp:Q2 X (binaryOp .Mod) jk:=⟨yl⟩
theorem A5:Q2 X (binaryOp .Pow) nB:=⟨xT⟩
theorem D1:Q2 X (compareOp .Lt) i5:=⟨CC⟩
theorem EC:Q2 X (compareOp .LtE) vW:=⟨B3⟩
theorem D4:Q2 X (compareOp .Gt) uT:=⟨Bz⟩
theorem Eo:Q2 X (compareOp .GtE) vD:=⟨CI⟩
theorem EA {k:Nat}(hr:ck k X.A):Q2 X (compareOp .Eq) (a8 false):=⟨Cb hr.units⟩
theorem DB {k:Nat}(hr:ck k X.A):Q2 X (compareOp .NotEq) (a8 true):=⟨BF hr.units⟩
theorem Bh:QC X (.builtin "len") aY:=⟨An⟩
theorem BE (hc:X.calm=true:=by rfl):QC X (.builtin "min") jn:=⟨xU hc⟩
theorem CS (hc:X.calm=true:=by rfl):QC X (.builtin "all") kg:=⟨yC hc⟩
theorem qv (i:Nat){x:Str}{pos:Pos}(hN:X.N[i]?=some x:=by rfl)(hv:AJ X.env.scope x:=by first|exact Or.inl rfl|exact Or.inr (Or.inl rfl)|exact Or.inr (Or.inr rfl))(hd:(x==("__debug__":Str))=false:=by decide)
  (hcd:(x==("__classdict__":Str))=false:=by decide):QE X (.Name x pos) (af i):=⟨vv i hN hv hd hcd⟩
theorem yS {i:Int}{j pos}:QE X (.Constant (.int i) j pos) (gC (.int i)):=⟨ym⟩
theorem Ck {b j pos}:QE X (.Constant (.bool b) j pos) (gC (.bl b)):=⟨BY⟩
theorem zF {x j pos}:QE X (.Constant (.str x) j pos) (gC (.str x)):=⟨Ab⟩
theorem xO (h:QE X a g):QE X (.UnaryOp .USub a pos) (kb g):=⟨Al h.h⟩
theorem Bk {op:Operator}{f:F2}(ho:Q2 X (binaryOp op) f)(ha:QE X a ga)(hb:QE X b gb):QE X (.BinOp a op b pos) (g2 f ga gb):=⟨BW ho.h ha.h hb.h⟩
def A4:CmpOp→Bool
 | .In=>false
 | .NotIn=>false
 | _=>true
theorem rA {op:CmpOp}{b:Expr}(h:A4 op=true):behindInMarks op b=false:=by
 cases op <;> first|exact Ah _|(cases h)
theorem yx {op:CmpOp}{f:F2}(ho:Q2 X (compareOp op) f)(ha:QE X a ga)(hb:QE X b gb)(hm:A4 op=true:=by rfl):QT X (.Compare a [op] [b] pos) (aJ (g2 f ga gb)):=⟨sA ho.h ha.h hb.h (rA hm)⟩
theorem xh {op:CmpOp}{f:F2}(ho:Q2 X (compareOp op) f)(ha:QE X a ga)(hb:QE X b gb)(hm:behindInMarks op b=false:=by with_unfolding_all rfl):QT X (.Compare a [op] [b] pos) (aJ (g2 f ga gb)):=⟨sA ho.h ha.h hb.h hm⟩
theorem uF {op op':CmpOp}{f f':F2}(ho:Q2 X (compareOp op) f)(ho':Q2 X (compareOp op') f')(ha:QE X a ga)(hb:QE X b gb)(hc:QE X c gc)(hm:lastMarks [op,op'] [b,c]=false:=by with_unfolding_all rfl):QE X (.Compare a [op,op'] [b,c] pos) (uQ f f' ga gb gc):=⟨uy ho.h ho'.h ha.h hb.h hc.h hm⟩
theorem wb (ha:QT X a ta):QW X (.BoolOp .And [a] pos) ta:=⟨u4 ha.h⟩
theorem yh (ha:QT X a ta):QW X (.BoolOp .Or [a] pos) ta:=⟨yd ha.h⟩
theorem Ad (ha:QT X a ta)(hb:QW X (.BoolOp .And (b::rest) pos) tb):QW X (.BoolOp .And (a::b::rest) pos) (cq ta tb):=⟨yW ha.h hb.h⟩
theorem BO (ha:QT X a ta)(hb:QW X (.BoolOp .Or (b::rest) pos) tb):QW X (.BoolOp .Or (a::b::rest) pos) (fF ta tb):=⟨Bf ha.h hb.h⟩
theorem BS (h:QW X a ta):QT X a ta:=⟨PW.pt h.h⟩
theorem Ai (h:QT X a ta):QT X (.UnaryOp .Not a pos) (eR ta):=⟨yn h.h⟩
theorem zf (h:QE X a g)(he:∀whole,isTrue a X.env whole=(do let v ←whole;standAt a.pos;holding [v] (truthy v)):=by intro _;rfl):QT X a (ir g):=⟨zZ h.h he⟩
theorem AB:QA X [] ag:=⟨zA⟩
theorem D9 {gr:GA}(ha:QE X e g)(hr:QA X es gr)(h:aP e=true:=by rfl):QA X (e::es) (aa g gr):=⟨Dm ha.h hr.h h⟩
theorem zL {x1}(h:QA X es gA):QE X (.Tuple es x1 pos) (fT gA):=⟨yv h.h⟩
theorem zg (h:QA X es gA):QE X (.List es pos) (cY gA):=⟨zW h.h⟩
theorem xW (h:QA X es gA):QE X (.List es pos) (jc gA):=⟨zY h.h⟩
theorem xf:QP X none bT:=⟨wg⟩
theorem vJ (h:QE X e g):QP X (some e) (aD g):=⟨vf h.h⟩
section
variable {apos cpos:Pos}{k n:Nat}{f:Addr}{fd:FuncData}{ps:List Str}{F:FD}{T:String}{id:String}
theorem rH (ho:QE X o go)(he:QE X e ge)(h1:aP e=true:=by rfl)(hbase:attributeBase o "append" X.env (eval o X.env)=eval o X.env:=by rfl)(hline:(apos.endLine==cpos.line)=true:=by rfl):QE X (.Call (.Attribute o "append" apos) [e] [] cpos) (iY go ge):=⟨qx ho.h he.h hbase (jX h1) hline (sE h1) rfl⟩
theorem Bo (Fn:eW X.prog X.w X.K X.mg X.base (iX X.prog X.w) k f fd ps (oA X.K n F))(hr:ck k X.A)(hg:Gl X x)(hm:X.mg x=some (.ref f))(hk:W.keepIn X.K (.ref f)=true)(hb:fV X.K fd ps [])(ha:QA X (e::es) gA)
  (hdb:(x==("__debug__":Str))=false:=by decide) (h1:aP e=true:=by rfl) (h2:cR es=true:=by rfl):QE X (.Call (.Name x p) (e::es) [] pos) (av n F gA):=⟨B6 Fn hr hg hm hk hb ha.h hdb h1 h2⟩
theorem xC (hc:QC X (.builtin id) F)(hg:Gl X x)(hm:X.mg x=none)(hv:bootBuiltins x=some (.builtin id))(ha:QA X (e::es) gA)(hn:x≠"__name__":=by decide)(hdb:(x==("__debug__":Str))=false:=by decide)
  (h1:aP e=true:=by rfl) (h2:cR es=true:=by rfl):QE X (.Call (.Name x p) (e::es) [] pos) (aG F gA):=⟨Bm hc.h hg hm hv ha.h hn hdb h1 h2⟩
theorem Ci (hc:QC X (.type T) F)(hg:Gl X x)(hm:X.mg x=none)(hv:bootBuiltins x=some (.type T))(ha:QA X (e::es) gA)(hn:x≠"__name__":=by decide)(hdb:(x==("__debug__":Str))=false:=by decide)
  (h1:aP e=true:=by rfl) (h2:cR es=true:=by rfl):QE X (.Call (.Name x p) (e::es) [] pos) (aG F gA):=⟨CP hc.h hg hm hv ha.h hn hdb h1 h2⟩
theorem A0 (hT:ib T)(hv:bootBuiltins x=some (.type T))(hg:Gl X x)(hm:X.mg x=none)(hgi:Gl X "isinstance")(hmi:X.mg "isinstance"=none)(he:QE X e g)
  (h1:aP e=true:=by rfl) (hn:x≠"__name__":=by decide) (hd:(x==("__debug__":Str))=false:=by decide):QE X (.Call (.Name "isinstance" p) [e,.Name x p2] [] pos) (k7 T g):=⟨A2 hT hv hg hm hgi hmi he.h h1 hn hd⟩
end
theorem Ce {tg:Expr}(hg:Gl X "range")(hm:X.mg "range"=none)(ha:QA X [a] gA)(h1:aP a=true:=by rfl):QI X tg (.Call (.Name "range" p) [a] [] pos) (cQ gA):=⟨Bg hg hm ha.h h1⟩
theorem Ba {tg:Expr}(hg:Gl X "range")(hm:X.mg "range"=none)(ha:QA X [a,b] gA)(h1:aP a=true:=by rfl)(h2:aP b=true:=by rfl):QI X tg (.Call (.Name "range" p) [a,b] [] pos) (dR gA):=⟨B0 hg hm ha.h h1 h2⟩
section
variable {scope:Scope}{R:List Str}{iter elt:Expr}{ifs:List Expr}{gI:GI}{gC:GT}{px:Pos}{mk:List D→ax→aF D}
theorem qM {xs:List Str}:vX X scope xs R [] bD:=⟨sN⟩
theorem rh {xs:List Str}(h:∀fp s2 H2 C,QT (ay X scope xs R fp s2 H2 C) c ta):vX X scope xs R [c] ta:=⟨uL fun fp s2 H2 C=>(h fp s2 H2 C).h⟩
theorem vh (hS:bP scope X.env.kindOf [x] R X.N=true)(hm:mk=aC∨mk=b0)(hi:QI X (.Name x px) iter gI)(hts:vX X scope [x] R ifs gC)(he:∀fp s H C,QE (ay X scope [x] R fp s H C) elt ge)
  (hc:X.calm=true:=by rfl) (hs:∀x,foldedSetIterable iter X.env x=pure x:=by intro _;rfl):QE X (.ListComp elt [⟨.Name x px,iter,ifs,0⟩] scope pos) (aQ gI gC ge mk):=⟨wG hS hc hm hi.h hts.h (fun fp s H C=>(he fp s H C).h) hs⟩
theorem oD {j:Nat}{y:Str}{py spos:Pos}(hS:bP scope X.env.kindOf [x] R X.N=true)(hm:mk=aC∨mk=b0)(hN:X.N.Nodup)(hi:QI X (.Name x px) iter gI)(hts:vX X scope [x] R ifs gC)(he:∀fp s H C,QE (ay X scope [x] R fp s H C) elt ge)
  (hc:X.calm=true:=by rfl) (hj:X.N[j]?=some y:=by rfl) (hy:X.env.scope.names.lookup y=some .local:=by rfl) (hsw:swapsWith (.ListComp elt [⟨.Name x px,iter,ifs,0⟩] scope pos) (some (.Name y py)) spos.line X.env=pure true:=by rfl)
  (hs:∀x,foldedSetIterable iter X.env x=pure x:=by intro _;rfl):QS X (.Assign [.Name y py] (.ListComp elt [⟨.Name x px,iter,ifs,0⟩] scope pos) spos) (aw j (aQ gI gC ge mk)):=⟨nO hS hc hm hi.h hts.h (fun fp s H C=>(he fp s H C).h) hN hj hy hsw hs⟩
theorem xS (n:Nat){is:List Nat}(h:is.all (fun i=>decide (i<n))=true:=by rfl):QO n (jY is):=⟨vd h⟩
theorem kG {xs:List Str}{fp:List Addr}{s:Shared}{H:Hp}{C:Addr}{y:Str}(hS:bP scope X.env.kindOf xs R X.N=true)(h:y∈xs):(ay X scope xs R fp s H C).env.scope.names.lookup y=some .local:=lookup_relabel_local ((bv.of hS).own y h)
theorem EZ {xs:List Str}{fp:List Addr}{s:Shared}{H:Hp}{C:Addr}{y:Str}(i:Nat)(hS:bP scope X.env.kindOf xs R X.N=true)(hi:(xs++R)[i]?=some y:=by rfl)(hx:y∈xs:=by simp):QG (ay X scope xs R fp s H C) (.Name y pos) (cw i):=
 ⟨lL (X:=ay X scope xs R fp s H C) (bv.of hS).nd hi (.inl (kG hS hx)) (.inr (kG hS hx))⟩
theorem sv {tg:Expr}{sg:GG}(xs:List Str)(hS:bP scope X.env.kindOf xs R X.N=true)(hm:mk=aC∨mk=b0)(own:QO xs.length sg)(hi:QI X tg iter gI)(hg:∀fp s H C,QG (ay X scope xs R fp s H C) tg sg)(hts:vX X scope xs R ifs gC)(he:∀fp s H C,QE (ay X scope xs R fp s H C) elt ge)
  (hc:X.calm=true:=by rfl) (hs:∀x,foldedSetIterable iter X.env x=pure x:=by intro _;rfl):QE X (.ListComp elt [⟨tg,iter,ifs,0⟩] scope pos) (bI gI xs.length sg gC ge mk):=⟨mn hS hc hm hi.h own.h (fun fp s H C=>(hg fp s H C).h) hts.h (fun fp s H C=>(he fp s H C).h) hs⟩
end
def gY:Expr→Bool
 | .ListComp ..=>false
 | .SetComp ..=>false
 | .DictComp ..=>false
 | _=>true
theorem gR {t:Option Expr}{l:Nat}{env:Env}(h:gY e=true):swapsWith e t l env=pure false:=by
 cases e <;> first|rfl|exact ff h
section
variable {st:Stmt}{stmts:List Stmt}{t u:GS}
theorem za:QB X [] a9:=⟨yg⟩
theorem v6 (h1:QS X st t)(h2:QB X stmts u):QB X (st::stmts) (aj t u):=⟨wL h1.h h2.h⟩
theorem zI (h1:QS X st t):QB X [st] t:=⟨yj h1.h⟩
theorem z6 (i:Nat){x:Str}(hN:X.N.Nodup)(he:QE X e g)(hi:X.N[i]?=some x:=by rfl)(hx:ny X.env.scope x:=by first|exact Or.inl rfl|exact Or.inr rfl)(hs:gY e=true:=by rfl)(hf:X.fn x=true∨X.env.scope.names.lookup x=some .local:=by first|exact .inl rfl|exact .inr rfl) :
  QS X (.Assign [.Name x pos'] e pos) (aw i g):=⟨ss i hN he.h hi hx (gR hs) hf⟩
theorem zV (he:QE X e g):QS X (.Return (some e) pos) (bF g):=⟨z7 he.h⟩
theorem vm (he:QE X e g)(hs:gY e=true:=by rfl):QS X (.Expr e pos) (dj g):=⟨ve he.h (gR hs)⟩
theorem Br {a b:List Stmt}{tc:GT}(hc:QT X c tc)(ha:QB X a t)(hb:QB X b u):QS X (.If c a b pos) (fc tc t u):=⟨B8 hc.h ha.h hb.h⟩
theorem qn (i:Nat){x:Str}(hN:X.N.Nodup)(hi:X.N[i]?=some x:=by rfl)(hx:ny X.env.scope x:=by first|exact Or.inl rfl|exact Or.inr rfl)(hf:X.fn x=true∨X.env.scope.names.lookup x=some .local:=by first|exact .inl rfl|exact .inr rfl):QG X (.Name x pos) (cw i):=⟨gg i hN hi hx hf⟩
theorem vU:AS X [] []:=⟨wn⟩
theorem B2 {i:Nat}{is:List Nat}(h1:QG X e (cw i))(h2:AS X es is)(hs:(assignEach (e::es) X.env).map (·.2)=assign e X.env::(assignEach es X.env).map (·.2):=by rfl):AS X (e::es) (i::is):=⟨sI h1.h h2.h hs⟩
theorem xL {is:List Nat}{k n:Nat}(h:AS X es is)(hc:X.calm=true:=by rfl)(hl:is.length=n:=by rfl)(hn:(assignEach es X.env).length=n:=by rfl)(hst:(assignEach es X.env).findIdx? (·.1)=none:=by rfl):QG X (.Tuple es k pos) (jY is):=⟨zJ hc h.h hl hn hst⟩
theorem yc {tg:Expr}{s:GG}(he:QE X e g)(hg:QG X tg s)(hs:gY e=true:=by rfl)(hw:swappedStores [tg] e X.env=pure none:=by rfl)(h1:(assignEach [tg] X.env).map (·.2)=[assign tg X.env]:=by rfl):QS X (.Assign [tg] e pos) (jL s g):=⟨yG he.h hg.h (gR hs) hw h1⟩
theorem zE {ip:Pos}(he:QE X e g)(ho:QE X o go)(hi:QE X i gi)
  (ha:∀v,assign (.Subscript o i ip) X.env v=(do
   let ov ←holding [v] (eval o X.env)
   let iv ←holding [v,ov] (eval i X.env)
   standAt ip
   holding [v,ov,iv] (setItem ov iv v)
   release [v,ov,iv] []):=by intro _;rfl)
  (hs:gY e=true:=by rfl) (hw:swappedStores [.Subscript o i ip] e X.env=pure none:=by rfl):QS X (.Assign [.Subscript o i ip] e pos) (i9 go gi g):=⟨Af he.h ho.h hi.h ha (by unfold swapsWithSole;exact gR hs) hw rfl⟩
theorem yJ {tg iter:Expr}{body:List Stmt}{gI:GI}{sg:GG}{gB:GS}(hp:PassesOwn (model X.prog X.w) X.A X.env X.xe)(hi:QI X tg iter gI)(hg:QG X tg sg)(hb:QB X body gB)(hc:X.calm=true:=by rfl)(hs:∀x,foldedSetIterable iter X.env x=pure x:=by intro _;rfl) :
  QS X (.For tg iter body [] pos) (ij gI sg gB):=⟨yV hp hc hi.h hg.h hb.h hs⟩
theorem tR {body:List Stmt}{tc:GT}{gB:GS}{n:Nat}(hp:PassesOwn (model X.prog X.w) X.A X.env X.xe)(hc:QT X c tc)(hb:QB X body gB):QS X (.While c body [] pos) (cg n tc gB):=⟨tq hp hc.h hb.h⟩
theorem sD {x:Str}{C:Addr}{np cpos:Pos}(k:Ec X.K X.mg x C)(hg:Gl X x)(he:QE X e g)(hc:X.calm=true:=by rfl)(h1:aP e=true:=by rfl)(hd:(x==("__debug__":Str))=false:=by decide):QS X (.Raise (some (.Call (.Name x np) [e] [] cpos)) none pos) (cr x g):=⟨tK k hc hg he.h h1 hd⟩
end
end
section
variable {X:Cx}{c f m:Str}{C:Addr}{o e value:Expr}{es:List Expr}{g go gv:GE}{gA:GA}{pos pos' apos p:Pos}{k n:Nat}{fa:Addr}{fd:FuncData}{ps:List Str}{F:FD}{pl:Sem Bool}
theorem Ap {x:Str}{add:Bool}{op:Operator}(i:Nat)(hN:X.N.Nodup)(hop:op=if add then .Add else .Sub)(he:QE X e g)(hi:X.N[i]?=some x:=by rfl)(hx:ny X.env.scope x:=by first|exact Or.inl rfl|exact Or.inr rfl)(hf:X.fn x=true∨X.env.scope.names.lookup x=some .local:=by first|exact .inl rfl|exact .inr rfl) :
  QS X (.AugAssign (.Name x pos') op e pos) (nc i add g):=⟨z5 hop hN hi hx he.h hf⟩
end
structure Mf (K:W.Frag)(C:Addr)(x qual:Str)(st:Stmt)(f:Addr)(fd:FuncData)(ps:List Str):Prop where
 F:yL K x qual st f fd
 me:Dt K C x f
 b:fV K fd ps []
theorem BA {P:Program}{w:World}{K:W.Frag}{mg:Str→Option Value}{base:Heap}{x qual:Str}{st:Stmt}{f:Addr}{fd:FuncData}{N ps:List Str}{k n:Nat}{g:GS}(F:yL K x qual st f fd)(S:gf N ps (bc st))(hn:ps.length=n)
  (hbody:∀(cdv:Value) (A:Around) (outer:List Env) (s:Shared) (H:Hp) (E:XK),ck k (A.deeper (envOfC qual (bc st) s.heap.objs.size f cdv))→QB (hZ (iX P w) P w K mg base N qual (bc st) f cdv A outer s H E) (dg st) g) :
  eW P w K mg base (iX P w) (k+1) f fd ps (oA K n (cH (N.length-n) g)):=Ee F S hn fun cdv A outer s H E hr=>(hbody cdv A outer s H E hr).h
theorem ya {l:W.OpenLaw}{n k:Nat}{q:Program}{loose:List Str}{XP:(Str→Option Value)→Heap→Prop}{YP:World→Heap→Prop}{d:DefRec}{K:Params→W.Frag}{x:Str}{F:FD}
  (hn:l.most=some n) (hn2:n≤sizeLine) (hdf:d.params.defaults=[]) (hr:ck k callerA) (hY:∀(w:World) (h:Heap),YP w h→(K w.params).In h)
  (hF:∀(w:World) (mg:Str→Option Value) (fa:Addr) (h:Heap),(K w.params).In h→h.Ns mainGlobals mg→mg d.name=some (.ref fa)→
   ∃fd:FuncData,(∀(s:Shared) (u:Value),BindsTo s fd ⟨[u],[]⟩ [(x,u)])∧∀base:Heap,(K w.params).In base→base.Ns mainGlobals mg→eW l.prog w (K w.params) mg base (iX l.prog w) k fa fd [x] (oA (K w.params) 1 F))
  (h1:∀w:World,W.nsIn (K w.params) mainGlobals "ink_shown"=some none) (h2:∀w:World,W.nsIn (K w.params) mainGlobals "table_within"=some none)
  (h3:∀w:World,W.nsIn (K w.params) mainGlobals "slots_given"=some none) (h4:∀w:World,W.nsIn (K w.params) mainGlobals "cast_on_slots"=some none)
  (ht:∀ns:List Int,ns.length≤n→∃M',F [.ro (ns.map D.int)] []=.ok (.bl true) M') :
  W.WalkO q loose XP YP l.row.toRowW d [] (fun f vs=>PySem.call f vs):=
 L2.walk_of (CX:=fun w=>iX l.prog w) (sp:=fun w=>oA (K w.params) 1 F) hn hn2 hdf hr hY hF (fun w H a ns hl _ hS=>y9 (.no fun y hy=>by
  simp only[dP,mem_cons,not_mem_nil,or_false] at hy;rcases hy with rfl|rfl|rfl|rfl
  ·exact h1 w
  ·exact h2 w
  ·exact h3 w
  ·exact h4 w) hS (ht ns hl)) fun w H s e s' z=>CG z
section
variable {X:Cx}{e a b o:Expr}{x z:Str}{p pos apos cpos:Pos}{g ga gb go ge:GE}{gA:GA}
theorem Ac (ha:QE X a ga)(hb:QE X b gb)(hs:lJ b:=by intro _ _;rfl):QE X (.Subscript a b pos) (g2 bJ ga gb):=⟨xV ha.h hb.h hs⟩
theorem CO:Q2 X (compareOp .In) xJ:=⟨yR⟩
theorem xi {tg:Expr}(h:QE X e g):QI X tg e (bt g):=⟨vP h.h⟩
theorem wA (hc:X.calm=true:=by rfl):QC X (.type "list") fU:=⟨tx hc⟩
theorem vL (ho:QE X o go)(he:QE X e ge)(h1:aP e=true:=by rfl)(hbase:attributeBase o "find" X.env (eval o X.env)=eval o X.env:=by rfl)(hline:(apos.endLine==cpos.line)=true:=by rfl):QE X (.Call (.Attribute o "find" apos) [e] [] cpos) (bu jm go ge):=⟨u6 ho.h he.h h1 hbase hline⟩
theorem vj (ho:QE X o go)(he:QE X e ge)(h1:aP e=true:=by rfl)(hbase:attributeBase o "join" X.env (eval o X.env)=eval o X.env:=by rfl)(hline:(apos.endLine==cpos.line)=true:=by rfl):QE X (.Call (.Attribute o "join" apos) [e] [] cpos) (bu dt go ge):=⟨vC ho.h he.h h1 hbase hline⟩
theorem AD (hm:∃tk,X.mg x=some (.str z tk))(hg:Gl X x:=by rfl)(hd:(x==("__debug__":Str))=false:=by decide):QE X (.Name x pos) (gC (.str z)):=by
 obtain⟨tk,hm⟩:=hm;exact⟨Av hg hm hd⟩
end
section
variable {X:Cx}{x:Str}{z:Int}{pos:Pos}
theorem wM {tk:Tok}(hg:Gl X x)(hm:X.mg x=some (.int z tk))(hd:(x==("__debug__":Str))=false:=by decide):PE X (.Name x pos) (tE X (gC (.int z))):=
 (pj hg hm (v:=.int z) ⟨tk,rfl⟩ hd).of fun σ H Q h=>by
  obtain⟨ρ,θ,M,_,hw,h⟩:=h;exact h _ θ H (.refl hw) rfl
theorem vI (hm:∃tk,X.mg x=some (.int z tk))(hg:Gl X x:=by rfl)(hd:(x==("__debug__":Str))=false:=by decide):QE X (.Name x pos) (gC (.int z)):=by
 obtain⟨tk,hm⟩:=hm;exact⟨wM hg hm hd⟩
end
end DL
namespace PySem
end PySem
namespace L2
open PySem PySem.Spec PyProof.Rows List
def Co (ns:List Int):List Int:=ns.mergeSort fun a b=>decide (a≤b)
end L2
namespace DL
open PySem PySem.Spec PyProof.Rows L2 List
def CQ:D→Option j8
 | .int i=>some (.inl i)
 | .str x=>some (.inr x)
 | _=>none
def DG:List D→Option (List j8)
 | []=>some []
 | d::ds=>match CQ d,DG ds with
  | some k,some ks=>some (k::ks)
  | _,_=>none
section
variable {X:Cx}{pos apos cpos:Pos}{o e f:Expr}
def Cu:List D→Option (List Int)
 | []=>some []
 | .int i::ds=>(Cu ds).map (i::·)
 | _::_=>none
def EO:FD:=fun ds M=>match ds with
 | [d]=>match ja d M with
  | some xs=>match Cu xs with
   | some ns=>if ns.length<64 then .ok (.lst ((Co ns).map D.int)) M else .bad
   | none=>.bad
  | none=>.bad
 | _=>.bad
end
end DL
namespace L2
open PySem PySem.Spec PyProof.Rows List
theorem kd:seqSlot? (.type "list") (dunderI "add")=pure (some (.builtin "list.__iadd__")):=PySem.seqSlot_of PySem.F.slot_list_iadd.lookup (by decide +kernel)
theorem iC:fillsInplaceSlot (.type "list") "add" (Operator.Add==.Add)=pure false:=by
 unfold fillsInplaceSlot;show(typeLookup (.type "list") (dunderI "add") >>= fun fi=>pure (fi.isSome&&!isSeqSlot fi))=pure false;have e:isSeqSlot (some (Value.builtin "list.__iadd__"))=true:=by decide +kernel
 rw[PySem.F.slot_list_iadd.lookup,pure_bind,e];rfl
section
variable {X:Cx}
theorem lI {M:Model}{A:Around}{E:Value→Shared→Prop}{s:Shared}{a b:Value}{Q:Value→Shared→Prop}(ha:s.TypeIs a "list")(hb:s.TypeIs b "list")
  (hc:wpAny M A (call (.builtin "list.__iadd__") [a,b]) Q E s):wpAny M A (inplaceOp .Add a b) Q E s:=by
 unfold inplaceOp;refine wpAny_holding ?_;refine wpAny_bind (wpAny_typeOf ha (wpAny_bind (wpAny_of_eq iC ?_)));show wpAny M A (if false=true then _ else _) Q E s;rw[if_neg Bool.false_ne_true];refine wpAny_bind (wpAny_binaryOp1_none (nm:="add") ha hb PySem.noFill_list_add ?_);refine wpAny_bind (wpAny_of_eq kd ?_);exact wpAny_bind (wpAny_rule hc)
def Cf:V→V→Hp→VK→Prop:=fun x y H Q=>(∃i j,x=.int i∧y=.int j∧Q (.int (i+j)) H)∨
 ∃l b xs zs,x=.ref l∧y=.ref b∧H l=some (.lst xs)∧H b=some (.lst zs)∧xs.length+zs.length≤sizeLine∧Q (.ref l) (cK H l (.lst (xs++zs)))
theorem oG:yA X .Add Cf:=by
 intro ae s σ H x y u v Q I rx ry h;rcases h with⟨i,j,e1,e2,q⟩|⟨l,b,xs,zs,rfl,rfl,hH,hB,hz,q⟩
 ·exact yf ae s σ H x y u v Q I rx ry ⟨i,j,e1,e2,q⟩
 ·cases rx;cases ry;obtain⟨z,its,n,r,hl,e⟩:=I.lstM hH;obtain⟨z2,its2,n2,r2,hl2,e2⟩:=I.lstM hB;have hsz:its.toArray.size+its2.toArray.size≤sizeLine:=by rw[size_toArray,size_toArray];omega
  have hlong:¬(!its.toArray.isEmpty&&Builtin.List.listTooLong (its.toArray.size+its2.toArray.size))=true:=by
   rw[m6 hsz,Bool.and_false];exact Bool.false_ne_true
  refine lI ⟨_,e,rfl⟩ ⟨_,e2,rfl⟩ (call_meets PySem.F.slot_list_iadd ⟨_,e,rfl⟩ PySem.F.entry_list_iadd (PySem.F.args_list_iadd_2 _ _)
   (AutoSeq1.list___iadd___list_list_0 l its.toArray n b its2.toArray n2 hlong (by rw[size_toArray];omega) (by omega)) ⟨e,e2,?_⟩)
  refine⟨.ref l,_,I.lset (its':=its++its2) hH e (by simp) (r.append r2) ?_,rfl,q⟩;rw[length_append];omega
end
end L2
namespace DL
open PySem PySem.Spec PyProof.Rows L2 List
section
variable {X:Cx}{c f:Str}{C:Addr}{o value:Expr}{go gv:GE}{pos pos' tpos:Pos}
def ow (x y:D)(M:ax):aF D:=match x with
 | .int i=>match y with
  | .int j=>.ok (.int (i+j)) M
  | _=>.bad
 | .mr k=>match M[k]? with
  | some (.lst xs)=>match ja y M with
   | some ys=>if xs.length+ys.length≤sizeLine then .ok (.mr k) (M.set k (.lst (xs++ys))) else .bad
   | none=>.bad
  | _=>.bad
 | _=>.bad
def Ep (X:Cx):V→V→Hp→VK→Prop:=fun x y H Q=>∃θ M dx dy,Wr X.K θ H M∧cX X.K θ H dx x∧cX X.K θ H dy y∧aH X θ H Q (ow dx dy M)
theorem yu:yA X .Add (Ep X):=by
 intro ae s σ H x y u v Q I rx ry ⟨θ,M,dx,dy,hw,r1,r2,h⟩;unfold ow at h;cases dx with
 | int i=>
  cases dy with
  | int j=>exact oG ae s σ H x y u v Q I rx ry (.inl ⟨i,j,r1,r2,h _ θ H (.refl hw) rfl⟩)
  | _=>exact h.elim
 | mr k=>
  dsimp only at h;cases q:M[k]? with
  | none=>rw[q] at h;exact h.elim
  | some m=>
   cases m with
   | obj _ _=>rw[q] at h;exact h.elim
   | dK _=>rw[q] at h;exact h.elim
   | dT _=>rw[q] at h;exact h.elim
   | lst xs=>
    rw[q] at h;dsimp only at h;cases q2:ja dy M with
    | none=>rw[q2] at h;exact h.elim
    | some ys=>
     rw[q2] at h;dsimp only at h;split at h
     ·rename_i hl;obtain⟨a,ea,ta⟩:=r1;obtain⟨vs,hv,ra⟩:=hw.at_ k a _ ta q;obtain⟨b,ws,eb,tb,rb⟩:=mF hw r2 q2;have gs:=lS (ds:=xs) hw ta (bM ra rb);exact oG ae s σ H x y u v Q I rx ry (.inr ⟨a,b,vs,ws,ea,eb,hv,tb,by rw[←ar ra,←ar rb];exact hl,h _ _ _ gs ⟨a,rfl,ta⟩⟩)
     ·exact h.elim
 | _=>exact h.elim
end
end DL
namespace L2
open PySem PySem.Spec PyProof.Rows List
end L2
namespace DL
open PySem PySem.Spec PyProof.Rows L2 List
section
variable {X:Cx}
theorem jV {K:W.Frag}{θ:List Addr}{H:Hp}{ds:List D}{vs:List V}(h:aR K θ H ds vs):∀k:Nat,aR K θ H (List.replicate k ds).flatten (List.replicate k vs).flatten
 | 0=>rfl
 | k+1=>by
  rw[replicate_succ,replicate_succ,flatten_cons,flatten_cons];exact bM h (jV h k)
end
theorem dk {N ps:List Str}{sc:Scope}(h1:sc.kind=.function:=by rfl)(h2:sc.isCoroutine=false:=by rfl)(h3:sc.isGenerator=false:=by rfl)(h4:N.Nodup:=by decide +kernel)(h5:N.take ps.length=ps:=by rfl)
  (h6:∀x∈ps,sc.names.lookup x=some .local∨sc.names.lookup x=some .cell:=by decide +kernel) (h7:∀y∈sc.names,y.2≠.free:=by decide +kernel):gf N ps sc:=⟨h1,h2,h3,h4,h5,h6,h7⟩
section
variable {X:Cx}{e:Expr}{es:List Expr}{x:Str}{p pos:Pos}{gA:GA}{k k' n:Nat}{f:Addr}{fd:FuncData}{ps:List Str}{F:FD}{st:Stmt}{id:String}{T:String}
theorem Be (hc:QC X (.builtin id) F)(hm:X.mg x=none)(hv:bootBuiltins x=some (.builtin id))(ha:QA X (e::es) gA)(hg:Gl X x:=by rfl)(hn:x≠"__name__":=by decide)(hdb:(x==("__debug__":Str))=false:=by decide)
  (h1:aP e=true:=by rfl) (h2:cR es=true:=by rfl):QE X (.Call (.Name x p) (e::es) [] pos) (aG F gA):=xC hc hg hm hv ha hn hdb h1 h2
end
def FF (K:W.Frag)(mg:Str→Option Value)(x:Str)(st:Stmt)(ps:List Str):Prop:=∃f fd,Fn K mg x st f fd ps
def KC (K:W.Frag)(mg:Str→Option Value)(c:Str)(C:Addr):Prop:=Kc K mg c C∧W.makesIn K C=true∧W.keepIn K (.ref C)=true
def MF (K:W.Frag)(mg:Str→Option Value)(c m q:Str)(st:Stmt)(ps:List Str):Prop:=∃C f fd,KC K mg c C∧Mf K C m q st f fd ps
def LF (K:W.Frag)(mg:Str→Option Value)(x:Str)(st:Stmt)(ps:List Str):Prop:=∃f fd c P,Fn K mg x st f fd ps∧W.nsIn K mainGlobals x=some (some (.ref f))∧D5 K x c P
def NA (K:W.Frag)(mg:Str→Option Value)(c f:Str):Prop:=∃C,KC K mg c C∧Aw K C f
def EX (K:W.Frag)(mg:Str→Option Value)(x:Str):Prop:=∃C,Ec K mg x C
def IX (K:W.Frag)(mg:Str→Option Value)(x:Str)(tab:List (Str×Bool)):Prop:=∃G,Ec K mg x G∧∀p∈tab,∃C,Ec K mg p.1 C∧W.mroIn K C (.ref G)=some p.2
def IB (K:W.Frag)(mg:Str→Option Value)(x:String)(tab:List (Str×Bool)):Prop:=∀p∈tab,∃C,Ec K mg p.1 C∧W.mroIn K C (.type x)=some p.2
def Ls {α:Type}(P:α→Prop)(l:List α):Prop:=∀t∈l,P t
section
variable {α β γ:Type}{P:α→Prop}{l:List α}{a:α}
theorem Ls.nil:Ls P []:=fun _ h=>by cases h
theorem Ls.cons (h:P a)(t:Ls P l):Ls P (a::l):=fun x hx=>by
 rcases mem_cons.mp hx with e|e
 ·rw[e];exact h
 ·exact t x e
end
structure RN (l c:Nat)(xs R:List Str):Prop
theorem rn (l c:Nat)(xs R:List Str):RN l c xs R:=⟨⟩
def Ok (P:Program)(w:World)(K:W.Frag)(mg:Str→Option Value)(base:Heap)(x:Str)(k n:Nat)(F:FD):Prop:=
 ∃f fd ps,eW P w K mg base (iX P w) k f fd ps (oA K n F)∧mg x=some (.ref f)∧W.keepIn K (.ref f)=true∧fV K fd ps []
section
variable {P:Program}{w:World}{K:W.Frag}{mg:Str→Option Value}{base:Heap}{x c m q:Str}{st:Stmt}{N ps:List Str}{k n:Nat}{g:GS}{F:FD}
theorem k9 (h:Ok P w K mg base x k n F):Ok P w K mg base x k n fun ds M=>eX M.length (F ds M):=by
 obtain⟨f,fd,ps,h1,h2,h3,h4⟩:=h;exact⟨f,fd,ps,zT h1,h2,h3,h4⟩
theorem gn (T:FF K mg x st ps)(N:List Str)(S:gf N ps (bc st))(hn:ps.length=n)
  (hb:∀(f:Addr) (cdv:Value) (A:Around) (outer:List Env) (s:Shared) (H:Hp) (E:XK),N.Nodup→ck k (A.deeper (envOfC x (bc st) s.heap.objs.size f cdv))→QB (hZ (iX P w) P w K mg base N x (bc st) f cdv A outer s H E) (dg st) g) :
  Ok P w K mg base x (k+1) n (cH (N.length-n) g):=by
 obtain⟨f,fd,T⟩:=T;exact⟨f,fd,ps,BA T.F S hn fun cdv A outer s H E hr=>hb f cdv A outer s H E S.nd hr,T.m,T.F.kp,T.b⟩
end
section
variable {X:Cx}{e a o value:Expr}{es:List Expr}{x c m f:Str}{p p2 pos apos pos':Pos}{gA:GA}{g go gv:GE}{k k' n:Nat}{F:FD}{tab:List (Str×Bool)}{bs:List Str}
theorem A3 (h:Ok X.prog X.w X.K X.mg X.base x k n F)(hr:ck k' X.A)(ha:QA X (e::es) gA)(hk:k≤k':=by first|decide|omega)(hg:Gl X x:=by rfl)
  (hdb:(x==("__debug__":Str))=false:=by decide) (h1:aP e=true:=by rfl) (h2:cR es=true:=by rfl):QE X (.Call (.Name x p) (e::es) [] pos) (av n F gA):=by
 obtain⟨f,fd,ps,h1',h2',h3,h4⟩:=h;exact Bo h1' (hr.mono hk) hg h2' h3 h4 ha hdb h1 h2
theorem qq {np cpos:Pos}(h:EX X.K X.mg x)(he:QE X e g)(hg:Gl X x:=by rfl)(hc:X.calm=true:=by rfl)(h1:aP e=true:=by rfl)(hd:(x==("__debug__":Str))=false:=by decide):QS X (.Raise (some (.Call (.Name x np) [e] [] cpos)) none pos) (cr x g):=by
 obtain⟨C,h⟩:=h;exact sD h hg he hc h1 hd
end
section
variable {X:Cx}{x:Str}{pos px:Pos}{ge:GE}{scope:Scope}{xs R:List Str}{iter elt tg:Expr}{ifs:List Expr}{gI:GI}{gC:GT}{sg:GG}{mk:List D→ax→aF D}{j:Nat}{y:Str}{py spos:Pos}{n:Nat}
theorem ut (hS:bP scope X.env.kindOf [x] X.N X.N=true)(hm:mk=aC∨mk=b0)(hi:QI X (.Name x px) iter gI)(hts:vX X scope [x] X.N ifs gC)(he:∀fp s H C,QE (ay X scope [x] X.N fp s H C) elt ge)
  (hc:X.calm=true:=by rfl) (hs:∀x,foldedSetIterable iter X.env x=pure x:=by intro _;rfl):QE X (.ListComp elt [⟨.Name x px,iter,ifs,0⟩] scope pos) (aQ gI gC ge mk):=vh hS hm hi hts he hc hs
theorem nq (hS:bP scope X.env.kindOf [x] X.N X.N=true)(hm:mk=aC∨mk=b0)(hN:X.N.Nodup)(hi:QI X (.Name x px) iter gI)(hts:vX X scope [x] X.N ifs gC)(he:∀fp s H C,QE (ay X scope [x] X.N fp s H C) elt ge)
  (hc:X.calm=true:=by rfl) (hj:X.N[j]?=some y:=by rfl) (hy:X.env.scope.names.lookup y=some .local:=by rfl) (hsw:swapsWith (.ListComp elt [⟨.Name x px,iter,ifs,0⟩] scope pos) (some (.Name y py)) spos.line X.env=pure true:=by rfl)
  (hs:∀x,foldedSetIterable iter X.env x=pure x:=by intro _;rfl):QS X (.Assign [.Name y py] (.ListComp elt [⟨.Name x px,iter,ifs,0⟩] scope pos) spos) (aw j (aQ gI gC ge mk)):=oD hS hm hN hi hts he hc hj hy hsw hs
theorem qV (_:RN pos.line pos.col xs R)(hS:bP scope X.env.kindOf xs R X.N=true)(hm:mk=aC∨mk=b0)(own:QO xs.length sg)(hi:QI X tg iter gI)(hg:∀fp s H C,QG (ay X scope xs R fp s H C) tg sg)(hts:vX X scope xs R ifs gC)(he:∀fp s H C,QE (ay X scope xs R fp s H C) elt ge)
  (hn:xs.length=n:=by rfl) (hc:X.calm=true:=by rfl) (hs:∀x,foldedSetIterable iter X.env x=pure x:=by intro _;rfl):QE X (.ListComp elt [⟨tg,iter,ifs,0⟩] scope pos) (bI gI n sg gC ge mk):=hn▸sv xs hS hm own hi hg hts he hc hs
end
structure Tx (tab:List (Str×Stmt×List Str))(mtab:List (Str×Str×Str×Stmt×List Str))(ls:List (Str×Stmt×List Str))(zs es:List Str)(rs:List (Str×List (Str×Bool)))(vt:List (Str×Bool))(nas:List (Str×Str))(cs:List (Str×Str))(ci:List (Str×Int))
  (P:Program) (w:World) (K:W.Frag) (mg:Str→Option Value) (base:Heap):Prop where
 f:Ls (fun t=>FF K mg t.1 t.2.1 t.2.2) tab
 m:Ls (fun t=>MF K mg t.1 t.2.1 t.2.2.1 t.2.2.2.1 t.2.2.2.2) mtab
 l:Ls (fun t=>LF K mg t.1 t.2.1 t.2.2) ls
 z:∀x∈zs,mg x=none
 e:∀x∈es,EX K mg x
 r:Ls (fun t=>IX K mg t.1 t.2) rs
 b:IB K mg "ValueError" vt
 a:∀t∈nas,NA K mg t.1 t.2
 s:Ls (fun t=>∃tk,mg t.1=some (.str t.2 tk)) cs
 i:Ls (fun t=>∃tk,mg t.1=some (.int t.2 tk)) ci
section
variable {K:W.Frag}{mg:Str→Option Value}{x c m q:Str}{st:Stmt}{ps:List Str}{l:List (Str×Stmt×List Str)}{l':List (Str×Str×Str×Stmt×List Str)}
theorem gk (h:Ls (fun t=>FF K mg t.1 t.2.1 t.2.2) l)(i:Nat)(e:l[i]?=some (x,st,ps):=by rfl):FF K mg x st ps:=h _ (mem_of_getElem? e)
theorem E0 {l:List (Str×Str)}{z:Str}(h:Ls (fun t=>∃tk,mg t.1=some (.str t.2 tk)) l)(i:Nat)(e:l[i]?=some (x,z):=by rfl):∃tk,mg x=some (.str z tk):=h _ (mem_of_getElem? e)
theorem Fa {l:List (Str×Int)}{z:Int}(h:Ls (fun t=>∃tk,mg t.1=some (.int t.2 tk)) l)(i:Nat)(e:l[i]?=some (x,z):=by rfl):∃tk,mg x=some (.int z tk):=h _ (mem_of_getElem? e)
end
section
variable {K:W.Frag}{h:Heap}{mg:Str→Option Value}{x c m q f':Str}{st:Stmt}{ps:List Str}{f C G:Addr}{oc kV dc pm cd ct:Value}{od an:Option Addr}{sl:Array (Option Value)}
theorem BC (X:K.In h)(Gm:h.Ns mainGlobals mg)(a:W.nsIn K mainGlobals x=some (some (.ref f)))(l:K.lookup f=some ⟨oc,od,.func (W.fnOf x x (ft st) (dg st) (bc st) .none kV dc pm an cd ct),sl⟩)(c:W.codeIn K cd x=true)(k:W.keepIn K (.ref f)=true)
  (b:∀(kV doc pm:Value) (an:Option Addr) (cdv ct:Value) (us:List Value),us.length=ps.length→bindArgs (W.fnOf x x (ft st) (dg st) (bc st) .none kV doc pm an cdv ct) ⟨us,[]⟩=pure (ps.zip us)):FF K mg x st ps:=
 ⟨f,_,uc (st:=st) l c k,W.mg_of X Gm a,(uc (st:=st) l c k).binds b⟩
theorem Cg (kC:KC K mg c C)(a:W.findIn K (.ref C) f'=some none):NA K mg c f':=⟨C,kC,a⟩
theorem Bd (X:K.In h)(Gm:h.Ns mainGlobals mg)(q:W.nsIn K mainGlobals x=some (some (.ref C)))(cl:W.isClsIn K C=true)(ca:W.findIn K (.ref C) "__class__"=some (some (.builtin "object.__class__")))(sp:W.specialIn K (.builtin "object.__class__") "__get__"=some (some (.builtin "getset_descriptor.__get__")))(tk:W.takesIn K (.builtin "object.__class__")=some true)
  (ob:W.mroIn K C (.type "object")=some true) (ga:W.findIn K (.ref C) "__getattribute__"=some (some (.builtin "BaseException.__getattribute__"))) (gh:W.findIn K (.ref C) "__getattr__"=some none) (be:W.mroIn K C (.type "BaseException")=some true)
  (ex:W.excIn K C Bw "ValueError.__new__"=true) (ty:W.typeIn K (.ref C)=some (.type "type")) (sf:W.mroIn K C (.ref C)=some true):Ec K mg x C:=⟨q,W.mg_of X Gm q,⟨cl,ca,sp,tk,ob,ga,gh,be⟩,ex,ty,sf⟩
theorem Ca (h:Ec K mg x C):EX K mg x:=⟨C,h⟩
theorem A1 {tab:List (Str×Bool)}(h:Ec K mg x G)(t:Ls (fun p=>∃C,Ec K mg p.1 C∧W.mroIn K C (.ref G)=some p.2) tab):IX K mg x tab:=⟨G,h,t⟩
theorem Er (X:K.In h)(Gm:h.Ns mainGlobals mg)(e:W.nsIn K mainGlobals x=some none):mg x=none:=W.mg_none_of X Gm e
theorem BP {u:Tok→Value}{tk:Tok}(X:K.In h)(Gm:h.Ns mainGlobals mg)(e:W.nsIn K mainGlobals x=some (some (u tk))):∃tk,mg x=some (u tk):=⟨tk,W.mg_of X Gm e⟩
end
theorem zO {l:W.OpenLaw}{w:World}{K:W.Frag}{mg:Str→Option Value}{fa:Addr}{st:Stmt}{k:Nat}{F:FD}(hfa:mg "law"=some (.ref fa))(L:FF K mg "law" st ["script"])
  (h:∀(base:Heap) (f:Addr) (fd:FuncData),Fn K mg "law" st f fd ["script"]→eW l.prog w K mg base (iX l.prog w) k f fd ["script"] (oA K 1 F))
  (hb:∀(kV doc pm:Value) (an:Option Addr) (cdv ct:Value) (v:Value),bindArgs (W.fnOf "law" "law" (ft st) (dg st) (bc st) .none kV doc pm an cdv ct) ⟨[v],[]⟩=pure [(("script":Str),v)]) :
  ∃fd:FuncData,(∀(s:Shared) (v:Value),BindsTo s fd ⟨[v],[]⟩ [("script",v)])∧∀base:Heap,K.In base→base.Ns mainGlobals mg→eW l.prog w K mg base (iX l.prog w) k fa fd ["script"] (oA K 1 F):=by
 obtain⟨f,fd,L⟩:=L;have e:=hfa.symm.trans L.m;cases e;refine⟨fd,fun s v=>?_,fun base _ _=>h base _ fd L⟩;obtain⟨oc,od,kV,doc,pm,an,cdv,ct,osl,rfl,lk,hcd⟩:=L.F.ex;exact .of_eq (hb kV doc pm an cdv ct v)
section
variable {X:Cx}{e:Expr}{g:GE}{pos pos':Pos}
def iT (i:Nat)(g:GE):GS:=fun ρ M=>(af i ρ M).bind fun x M0=>(g ρ M0).bind fun y M1=>(ow x y M1).bind fun z M2=>.ok (.nx (ρ.set i (some z))) M2
theorem vZ {i:Nat}{x:Str}(hN:X.N.Nodup)(hi:X.N[i]?=some x)(hx:ny X.env.scope x)(he:PE X e (tE X g))(hf:X.fn x=true∨X.env.scope.names.lookup x=some .local) :
  PS X (.AugAssign (.Name x pos') .Add e pos) (tS X (iT i g)):=
 (uO hN hi hx he yu hf).of fun D σ H hxx=>by
  obtain⟨ρ,θ,M,hd,hw,h⟩:=hxx;unfold iT af at h;split at h
  ·rename_i d q;obtain⟨v,e1,r⟩:=hd.at_ i d q;refine⟨v,e1,?_⟩;have h:bB X θ H D ((g ρ M).bind fun y M1=>(ow d y M1).bind fun z M2=>.ok (.nx (ρ.set i (some z))) M2):=h;refine bE hd hw (bB X θ H D) (fun c M' h=>h) (fun h=>h) h fun y M1 vy θ1 H1 g1 r1 h1=>?_
   have h1:=bB.go g1 h1;refine⟨θ1,M1,d,y,g1.wr,r.go g1,r1,?_⟩;cases qa:ow d y M1 with
   | bad=>rw[qa] at h1;exact h1.elim
   | err c2 M3=>rw[qa] at h1;exact h1
   | ok z M3=>
    rw[qa,ah] at h1;intro vz θ3 H3 g3 rz;exact h1 _ θ3 H3 g3 (((hd.go g1).go g3).set rz i)
  ·exact h.elim
theorem wW {x:Str}(i:Nat)(hN:X.N.Nodup)(he:QE X e g)(hi:X.N[i]?=some x:=by rfl)(hx:ny X.env.scope x:=by first|exact Or.inl rfl|exact Or.inr rfl)(hf:X.fn x=true∨X.env.scope.names.lookup x=some .local:=by first|exact .inl rfl|exact .inr rfl) :
  QS X (.AugAssign (.Name x pos') .Add e pos) (iT i g):=⟨vZ hN hi hx he.h hf⟩
end
end DL
namespace DL
open PySem PySem.Spec PyProof.Rows PySem.W L2 List
section
variable {key:Nat→Int}{N:Nat}{s:Shared}{cmp:Nat→Nat→(Bool→Shared→Prop)→Shared→Prop}
def kp (key:Nat→Int)(p:Array Nat)(k:Nat):Int:=key (p.getD k 0)
def qP (N:Nat)(p:Array Nat):Prop:=∀k,p.getD k 0<N
def up (key:Nat→Int)(p:Array Nat)(n:Nat):Prop:=∀k,k+1<n→kp key p k≤kp key p (k+1)
def tY (key:Nat→Int)(p:Array Nat)(n:Nat):Prop:=∀k,k+1<n→kp key p (k+1)≤kp key p k
def mz (key:Nat→Int)(N:Nat)(s:Shared)(cmp:Nat→Nat→(Bool→Shared→Prop)→Shared→Prop):Prop:=∀i j C,i<N→j<N→C (decide (key i<key j)) s→cmp i j C s
theorem sL {p q:Array Nat}{i j:Nat}(h:p[i]?=q[j]?):kp key p i=kp key q j:=by
 unfold kp;rw[Array.getD_eq_getD_getElem?,Array.getD_eq_getD_getElem?,h]
theorem Ae {p q:Array Nat}(h:∀k:Nat,∃j:Nat,p[k]?=q[j]?)(i:qP N q):qP N p:=fun k=>by
 obtain⟨j,e⟩:=h k;have:=i j;rw[Array.getD_eq_getD_getElem?] at this ⊢;rw[e];exact this
theorem xu {p:Array Nat}{n:Nat}(h:up key p n):∀(d i:Nat),i+d<n→kp key p i≤kp key p (i+d)
 | 0,i,_=>Int.le_refl _
 | d+1,i,q=>Int.le_trans (xu h d i (by omega)) (h (i+d) (by omega))
theorem sw {p:Array Nat}{n i j:Nat}(h:up key p n)(hij:i≤j)(hj:j<n):kp key p i≤kp key p j:=by
 have:=xu h (j-i) i (by omega);rwa [show i+(j-i)=j by omega] at this
theorem n8 {p:Array Nat}{i j:Nat}(hj:j≤p.size)(k:Nat):(kas_rev p i j)[k]?=if i≤k∧k<j then p[i+j-1-k]? else p[k]?:=getElem?_mirror_all hj k
theorem ju {p:Array Nat}{i j:Nat}(hj:j≤p.size)(h:qP N p):qP N (kas_rev p i j):=Ae (fun k=>by
 rw[n8 hj k];split
 ·exact⟨_,rfl⟩
 ·exact⟨_,rfl⟩) h
theorem jK {p:Array Nat}{i j:Nat}(hj:j≤p.size)(e:∀k,i≤k→k<j→kp key p k=kp key p (j-1))(k:Nat):kp key (kas_rev p i j) k=kp key p k:=by
 have h:=n8 (i:=i) hj k
 by_cases q:i≤k∧k<j
 ·rw[if_pos q] at h;rw[sL h,e _ (by omega) (by omega),e k q.1 q.2]
 ·rw[if_neg q] at h;exact sL h
theorem nC (hc:mz key N s cmp){p:Array Nat}(hp:qP N p){Q:Nat→Shared→Prop}:∀(f n:Nat),1≤n→up key p n→(∀m,n≤m→m≤n+f→up key p m→(m<n+f→kp key p m<kp key p (m-1))→Q m s)→(kas_asc p f n).kasWp cmp Q s
 | 0,n,h1,u,h=>h n (Nat.le_refl _) (Nat.le_refl _) u (fun z=>absurd z (by omega))
 | f+1,n,h1,u,h=>by
  refine hc _ _ _ (hp _) (hp _) ?_
  by_cases q:kp key p n<kp key p (n-1)
  ·rw[decide_eq_true (show key (p.getD n 0)<key (p.getD (n-1) 0) from q)];exact h n (Nat.le_refl _) (by omega) u fun _=>q
  ·rw[decide_eq_false (show¬key (p.getD n 0)<key (p.getD (n-1) 0) from q)];refine nC hc hp f (n+1) (by omega) (fun k hk=>?_) fun m a b c d=>h m (by omega) (by omega) c fun z=>d (by omega)
   by_cases e:k+1<n
   ·exact u k e
   ·have:k=n-1:=by omega
    subst this;rw[show n-1+1=n by omega];omega
theorem je (hc:mz key N s cmp){Q:Array Nat×Nat×Nat→Shared→Prop}:∀(f:Nat) (p:Array Nat) (n q:Nat),qP N p→n+f≤p.size→q+1≤n→tY key p n→(∀k,n-(q+1)≤k→k<n→kp key p k=kp key p (n-1))→
  (∀p' n' q',p'.size=p.size→p'.Perm p→qP N p'→n≤n'→n'≤n+f→q'+1≤n'→tY key p' n'→(∀k,n'-(q'+1)≤k→k<n'→kp key p' k=kp key p' (n'-1))→Q (p',n',q') s)→(kas_desc f p n q).kasWp cmp Q s
 | 0,p,n,q,hp,hz,hq,hd,he,h=>h p n q rfl (Array.Perm.refl _) hp (Nat.le_refl _) (Nat.le_refl _) hq hd he
 | f+1,p,n,q,hp,hz,hq,hd,he,h=>by
  refine hc _ _ _ (hp _) (hp _) ?_
  by_cases c:kp key p n<kp key p (n-1)
  ·rw[decide_eq_true (show key (p.getD n 0)<key (p.getD (n-1) 0) from c)];dsimp only;rw[if_pos rfl];have hd':tY key p (n+1):=fun k hk=>by
    by_cases e:k+1<n
    ·exact hd k e
    ·have:k=n-1:=by omega
     subst this;rw[show n-1+1=n by omega];omega
   by_cases z:q>0
   ·rw[if_pos z];have sm:=jK (key:=key) (p:=p) (i:=n-(q+1)) (j:=n) (by omega) he;refine je hc f (kas_rev p (n-(q+1)) n) (n+1) 0 (ju (by omega) hp) (by rw[kas_rev_size];omega) (by omega) (fun k hk=>by rw[sm,sm];exact hd' k hk) (fun k a b=>by rw[show k=n by omega];rfl) fun p' n' q' a b c1 d e g i j=>h p' n' q' (a.trans (kas_rev_size ..)) (b.trans (mirror_perm ..)) c1 (by omega) (by omega) g i j
   ·rw[if_neg z];exact je hc f p (n+1) 0 hp (by omega) (by omega) hd' (fun k a b=>by rw[show k=n by omega];rfl) fun p' n' q' a b c1 d e g i j=>h p' n' q' a b c1 (by omega) (by omega) g i j
  ·rw[decide_eq_false (show¬key (p.getD n 0)<key (p.getD (n-1) 0) from c)];dsimp only;rw[if_neg (by simp)];refine hc _ _ _ (hp _) (hp _) ?_
   by_cases c2:kp key p (n-1)<kp key p n
   ·rw[decide_eq_true (show key (p.getD (n-1) 0)<key (p.getD n 0) from c2)];dsimp only;rw[if_pos rfl];exact h p n q rfl (Array.Perm.refl _) hp (Nat.le_refl _) (by omega) hq hd he
   ·rw[decide_eq_false (show¬key (p.getD (n-1) 0)<key (p.getD n 0) from c2)];dsimp only;rw[if_neg (by simp)];have eq:kp key p n=kp key p (n-1):=by omega
    refine je hc f p (n+1) (q+1) hp (by omega) (by omega) (fun k hk=>?_) (fun k a b=>?_) fun p' n' q' a b c1 d e g i j=>h p' n' q' a b c1 (by omega) (by omega) g i j
    ·by_cases e:k+1<n
     ·exact hd k e
     ·have:k=n-1:=by omega
      subst this;rw[show n-1+1=n by omega];omega
    ·show _=kp key p n
     by_cases e:k<n
     ·rw[he k (by omega) e];omega
     ·rw[show k=n by omega]
theorem l8 (hc:mz key N s cmp){p:Array Nat}{n m:Nat}(hp:qP N p)(h1:1≤n)(hn:n≤m)(hz:m≤p.size)(hd:tY key p n){Q:Nat×Array Nat→Shared→Prop}
  (h:∀k p',p'.size=p.size→p'.Perm p→qP N p'→1≤k→k≤m→up key p' k→Q (k,p') s):(kas_tail3 n m p).kasWp cmp Q s:=by
 unfold kas_tail3;rw[KasT.kasWp_bind];have at':∀k,k<n→kp key (kas_rev p 0 n) k=kp key p (n-1-k):=fun k hk=>by
  have e:=n8 (i:=0) (j:=n) (p:=p) (by omega) k;rw[if_pos ⟨by omega,hk⟩] at e;rw[sL e,show 0+n-1-k=n-1-k by omega]
 refine nC hc (ju (by omega) hp) _ n h1 (fun k hk=>?_) fun k a b c _=>h k _ (kas_rev_size ..) (mirror_perm ..) (ju (by omega) hp) (by omega) (by omega) c
 rw[at' k (by omega),at' (k+1) hk];have:=hd (n-1-(k+1)) (by omega);rwa [show n-1-(k+1)+1=n-1-k by omega] at this
theorem iU (hc:mz key N s cmp){p:Array Nat}{n m:Nat}(hp:qP N p)(hn:n+1≤m)(hz:m≤p.size)(hd:tY key p (n+1)){Q:Nat×Array Nat→Shared→Prop}
  (h:∀k p',p'.size=p.size→p'.Perm p→qP N p'→1≤k→k≤m→up key p' k→Q (k,p') s):(kas_descPart n m p).kasWp cmp Q s:=by
 unfold kas_descPart;rw[KasT.kasWp_bind];refine je hc _ p (n+1) 0 hp (by omega) (by omega) hd (fun k a b=>by rw[show k=n by omega];rfl) fun p' n' q' a b c d e g i j=>?_
 dsimp only;split
 ·have sm:=jK (key:=key) (p:=p') (i:=n'-(q'+1)) (j:=n') (by omega) j;exact l8 hc (ju (by omega) c) (by omega) (by omega) (by rw[kas_rev_size];omega) (fun k hk=>by rw[sm,sm];exact i k hk) fun k p2 a2 b2 c2 d2 e2 g2=>h k p2 (a2.trans ((kas_rev_size ..).trans a)) (b2.trans ((mirror_perm ..).trans b)) c2 d2 e2 g2
 ·exact l8 hc c (by omega) (by omega) (by omega) i fun k p2 a2 b2 c2 d2 e2 g2=>h k p2 (a2.trans a) (b2.trans b) c2 d2 e2 g2
theorem ng (hc:mz key N s cmp){p:Array Nat}{m:Nat}(hp:qP N p)(h1:1≤m)(hz:m≤p.size){Q:Nat×Array Nat→Shared→Prop}
  (h:∀k p',p'.size=p.size→p'.Perm p→qP N p'→1≤k→k≤m→up key p' k→Q (k,p') s):(kas_count m p).kasWp cmp Q s:=by
 unfold kas_count;rw[KasT.kasWp_bind];refine nC hc hp _ 1 (Nat.le_refl _) (fun k hk=>absurd hk (by omega)) fun n a b c d=>?_
 by_cases e:n=m
 ·rw[if_pos (by simp[e])];exact h n p rfl (Array.Perm.refl _) hp a (by omega) c
 ·rw[if_neg (by simp[e])];have lt:=d (by omega)
  by_cases z:n>1
  ·rw[if_pos z];refine hc _ _ _ (hp _) (hp _) ?_
   by_cases t:kp key p 0<kp key p (n-1)
   ·rw[decide_eq_true (show key (p.getD 0 0)<key (p.getD (n-1) 0) from t)];dsimp only;rw[if_pos rfl];exact h n p rfl (Array.Perm.refl _) hp a (by omega) c
   ·rw[decide_eq_false (show¬key (p.getD 0 0)<key (p.getD (n-1) 0) from t)];dsimp only;rw[if_neg (by simp)];have al:∀k,0≤k→k<n→kp key p k=kp key p (n-1):=fun k _ hk=>by
     have x:=sw c (show 0≤k by omega) hk;have y:=sw c (show k≤n-1 by omega) (by omega);omega
    have sm:=jK (key:=key) (p:=p) (i:=0) (j:=n) (by omega) al;refine iU hc (ju (by omega) hp) (by omega) (by rw[kas_rev_size];omega) (fun k hk=>?_) fun k p2 a2 b2 c2 d2 e2 g2=>h k p2 (a2.trans (kas_rev_size ..)) (b2.trans (mirror_perm ..)) c2 d2 e2 g2
    rw[sm,sm]
    by_cases w:k+1<n
    ·rw[al k (by omega) (by omega),al (k+1) (by omega) w];exact Int.le_refl _
    ·have:k=n-1:=by omega
     subst this;rw[show n-1+1=n by omega];omega
  ·rw[if_neg z];have e1:n=1:=by omega
   subst e1;refine iU hc hp (by omega) hz (fun k hk=>?_) h;have:k=0:=by omega
   subst this;exact Int.le_of_lt lt
end
end DL
namespace DL
open PySem PySem.Spec PyProof.Rows L2 List
end DL
namespace DL
open PySem PySem.Spec PyProof.Rows PySem.W L2 List
end DL
namespace DL
open PySem PySem.Spec PyProof.Rows L2 List
section
variable {X:Cx}
def Cs:V→V→Hp→VK→Prop:=fun x y H Q=>∃l k xs,x=.ref l∧y=.int k∧H l=some (.lst xs)∧0≤k∧k≤100000∧xs.length*k.toNat≤100000∧∀p,H p=none→Q (.ref p) (cK H p (.lst (List.replicate k.toNat xs).flatten))
theorem m4 {α:Type}:∀k:Nat,(List.replicate k ([]:List α)).flatten=[]
 | 0=>rfl
 | k+1=>by rw[replicate_succ,flatten_cons,m4 k];rfl
theorem oQ:ej X (binaryOp .Mult) Cs:=by
 intro ae s σ H x y v u Q I rx ry h;obtain⟨l,k,xs,rfl,rfl,hH,h1,h2,hz,q⟩:=h;cases rx;obtain⟨t,rfl⟩:=ry;obtain⟨its,r,pl,z⟩:=I.list (.inl (.inl hH));have hl:=r.length;obtain⟨n,e⟩:∃n,s.heap.get? l=some {cls:=.type "list",dict:=none,data:=.seq its.toArray n,slots:=#[]}:=by
  have:=I.hok l _ hH;obtain⟨_,its',n,r',e⟩:=this;have:its=its':=by
   obtain⟨o,e1,_,m,e2⟩:=pl.isList;rw[e] at e1;cases e1;cases e2;rfl
  subst this;exact⟨n,e⟩
 have hnew:List.foldl (fun x1 x2=>x1++x2) #[] (List.replicate (if its.toArray.isEmpty=true then 0 else k.toNat) its.toArray)=(List.replicate k.toNat its).flatten.toArray:=by
  cases its with
  | nil=>
   rw[m4];rfl
  | cons a b=>
   have:=kK (a::b) k.toNat [];rw[nil_append] at this;exact this
 have fl:(List.replicate k.toNat its).flatten.length≤100000:=by rw[o7,←hl,Nat.mul_comm];exact hz
 have hsz:its.toArray.size*k.toNat≤100000:=by rw[size_toArray,←hl];exact hz
 refine wpAny_binaryOp_repeat_ref (T:="list") (U:="int") (by decide) ⟨_,e,rfl⟩ (fun s'=>typeIs_int s' k t) PySem.noFill_list_mul PySem.F.fills_int_mul PySem.F.slot_int_rmul PySem.repeat_list PySem.F.slot_int_index.lookup
  (call_meets PySem.F.slot_int_rmul (typeIs_int s k t) PySem.F.entry_int_rmul (PySem.F.args_int_rmul_2 _ _) (PySem.int___rmul___int_list k t l its.toArray n)
   ⟨e,rfl,⟨_,e,rfl⟩,call_meets PySem.F.slot_list_mul ⟨_,e,rfl⟩ PySem.F.entry_list_mul (PySem.F.args_list_mul_2 _ _) (AutoListH.list___mul___list_int_3 l its.toArray n k t
    (by unfold Builtin.List.listFitsIndex;simp;omega) (by omega) (by intro hh;unfold Builtin.List.listTooLong at hh;have hh:=of_decide_eq_true hh;rw[sizeLine_eq] at hh;omega)) ⟨e,?_⟩⟩)
 rw[hnew];refine⟨.ref _,_,I.laid (t':=s.toks) (fun _ _ q=>Heap.get?_push_of_some _ q) (Nat.le_refl _) (show dr X.prog X.w _ _ _ (.lst (List.replicate k.toNat xs).flatten) from ?_),rfl,q _ I.fresh⟩;exact⟨by rw[o7,Nat.mul_comm];exact ba (by omega),_,0,r.rep k.toNat,Heap.get?_push_size _ rfl⟩
def ka:F2:=fun x y M=>match ja x M,y with
 | some xs,.int k=>if 0≤k∧k≤100000∧xs.length*k.toNat≤100000 then .ok (.lst (List.replicate k.toNat xs).flatten) M else .bad
 | _,_=>.bad
def sV:F2:=fun x y M=>match ja x M,y with
 | some xs,.int k=>if 0≤k∧k≤100000∧xs.length*k.toNat≤100000 then .ok (.mr M.length) (M++[.lst (List.replicate k.toNat xs).flatten]) else .bad
 | _,_=>.bad
theorem wY:ej X (binaryOp .Mult) (rD X ka):=by
 intro ae s σ H x y v u Q I rx ry h;obtain⟨θ,M,dx,dy,hw,r1,r2,h⟩:=h;unfold ka at h;split at h
 ·rename_i xs k q1;split at h
  ·rename_i hc;obtain⟨a,vs,ea,ta,ra⟩:=mF hw r1 q1;have hl:=ar ra;exact oQ ae s σ H x y v u Q I rx ry ⟨a,k,vs,ea,r2,ta,hc.1,hc.2.1,by rw[←hl];exact hc.2.2,fun p hp=>h _ θ _ (dO hw hp) (eC hw hp (jV ra _))⟩
  ·exact h.elim
 ·exact h.elim
theorem wj:ej X (binaryOp .Mult) (rD X sV):=by
 intro ae s σ H x y v u Q I rx ry h;obtain⟨θ,M,dx,dy,hw,r1,r2,h⟩:=h;unfold sV at h;split at h
 ·rename_i xs k q1;split at h
  ·rename_i hc;obtain⟨a,vs,ea,ta,ra⟩:=mF hw r1 q1;have hl:=ar ra;exact oQ ae s σ H x y v u Q I rx ry ⟨a,k,vs,ea,r2,ta,hc.1,hc.2.1,by rw[←hl];exact hc.2.2,fun p hp=>h _ _ _ (uD hw hp (jV ra _)) (sY hw)⟩
  ·exact h.elim
 ·exact h.elim
theorem xR:Q2 X (binaryOp .Mult) ka:=⟨wY⟩
theorem zd:Q2 X (binaryOp .Mult) sV:=⟨wj⟩
end
def A9:D→D→Option Bool
 | .int a,.int b=>some (decide (a<b))
 | .str a,.str b=>some (decide (a.cps.toList<b.cps.toList))
 | _,_=>none
def cf:List D→D→Option D
 | [],b=>some b
 | a::r,b=>match A9 a b with
  | some true=>cf r a
  | some false=>cf r b
  | none=>none
def xF:List D→Option D
 | a::r=>cf r a
 | _=>none
theorem zX {K:W.Frag}{θ:List Addr}{H:Hp}{a b:D}{va vb:V}{ua ub:Value}{r:Bool}{A:Around}{s:Shared}{prog:Program}{w:World}{E:Value→Shared→Prop}{Q:Value→Shared→Prop}
  (h:A9 a b=some r) (ra:cX K θ H a va) (rb:cX K θ H b vb) (rua:aW va ua) (rub:aW vb ub) (q:Q (.bool r) s):wpAny (model prog w) A (richCompare .Lt ua ub) Q E s:=by
 cases a with
 | int x=>
  cases b with
  | int y=>
   cases h;have e1:va=.int x:=ra;have e2:vb=.int y:=rb;subst e1 e2;obtain⟨t,rfl⟩:=rua;obtain⟨t',rfl⟩:=rub;exact HT.rcLt_int _ _ _ _ _ _ _ _ _ _ q
  | _=>cases h
 | str x=>
  cases b with
  | str y=>
   cases h;have e1:va=.str x:=ra;have e2:vb=.str y:=rb;subst e1 e2;obtain⟨t,rfl⟩:=rua;obtain⟨t',rfl⟩:=rub;exact(PyProof.Rows.lt_str q:wpAny (model prog w) A (compareOp .Lt (.str x t) (.str y t')) Q E s)
  | _=>cases h
 | _=>cases h
theorem qJ (a:Value):argsOk "min" ⟨[a],[]⟩:=by unfold argsOk;kernel_rfl
section
variable {X:Cx}{ae:List (Addr×Obj)}{σ:L2.St}
theorem qG {l it S:Addr}{ds0:List D}{vs:List V}{Q:VK}{R:Result→Shared→Prop}{H:Hp}{θ:List Addr}{M:ax}{db:D}{k:Nat}
  (hr:ck (k+1) X.A) (hcalm:X.calm=true) (hw:Wr X.K θ H M) (ta:ly X.K θ H l vs) (r:aR X.K θ H ds0 vs)
  (hnI:S≠it) (hR:∀u s',EP X ae σ Q u s'→R (.ok (.ret u)) s') (fi:gO X ae H it) (fS:gO X ae H S) (hQ:∀v,cX X.K θ H db v→Q v H) :
  ∀(rest:List D) (j:Nat) (s:Shared) (b:D) (vb:V) (ub:Value) (n:Nat),ds0.drop j=rest→L2.Inv X ae σ H s→s.heap.IsListIter it l j→s.heap.get? S=some (seqObj "list" #[ub,ub] n)→
   cX X.K θ H b vb→aW vb ub→cf rest b=some db→
   codeAny (model X.prog X.w) X.A (.builtin "min.loop" ⟨[.ref it,.none,.ref S],[]⟩) R s:=by
 have hname:(toString "min"++toString ".loop":String)="min.loop":=by decide
 have hr1:ck k X.A.in1:=hr.in1;intro rest
 induction rest with
 | nil=>
  intro j s b vb ub n hd I st eS rb rvb h;refine codeAny_builtin PySem.F.entry_min_loop ?_;rw[Around.under_plainId PySem.F.plain_min_loop _];show wpAny _ X.A.in1 (seqItems? (.ref S) >>= _) _ _ _;refine wpAny_bind (wpAny_seqItems eS rfl ?_);obtain⟨its,rv,p,hz⟩:=I.list ta.sq;have hlen:vs.length≤j:=by rw[←ar r];exact drop_eq_nil_iff.mp hd
  have hl:=rv.length;show wpAny _ X.A.in1 (tryCatch (pyNext (.ref it)) _ >>= _) _ _ _;refine wpAny_bind (wpAny_tryCatch (wpAny_pyNext_list_end (show X.A.in1.handled=none from I.ok.hd hcalm) st p.isList (by simp;omega) fun h' eb=>?_));have I1:L2.Inv X ae σ H {s with heap:=h'}:=I.turned (t':=s.toks) (fun b o hb e=>eb b o hb e) fi.1 fi.2.1 fi.2.2.2.1 fi.2.2.2.2.1 fi.2.2.2.2.2;have eS':h'.get? S=some (seqObj "list" #[ub,ub] n):=eb S _ hnI eS;show wpAny _ X.A.in1 (updateSeq S (fun _=>#[]) >>= _) _ _ _;refine wpAny_bind (wpAny_updateSeq eS' rfl (wpAny_bind (wpAny_letGo (wpAny_pure ?_))));have I2:L2.Inv X ae σ H {s with heap:=h'.update S (Obj.mapSeq fun _=>#[])}:=I1.turned (t':=s.toks) (fun b o hb e=>(Heap.get?_update_other h' _ (Ne.symm hb)).trans e) fS.1 fS.2.1 fS.2.2.2.1 fS.2.2.2.2.1 fS.2.2.2.2.2;have h:some b=some db:=h;cases h;exact hR ub _ ⟨vb,H,I2,rvb,hQ vb rb⟩
 | cons d rest ih=>
  intro j s b vb ub n hd I st eS rb rvb h;have hj:ds0[j]?=some d:=by
   have:=congrArg (·[0]?) hd;simpa using this
  have hd':ds0.drop (j+1)=rest:=by
   rw[←drop_drop,hd];rfl
  obtain⟨v,ev,rdv⟩:=dm r hj;refine codeAny_builtin PySem.F.entry_min_loop ?_;rw[Around.under_plainId PySem.F.plain_min_loop _];show wpAny _ X.A.in1 (seqItems? (.ref S) >>= _) _ _ _;refine wpAny_bind (wpAny_seqItems eS rfl ?_);obtain⟨its,rv,p,hz⟩:=I.list ta.sq;obtain⟨u,eu,ru⟩:=rv.get ev;show wpAny _ X.A.in1 (tryCatch (pyNext (.ref it)) _ >>= _) _ _ _;refine wpAny_bind (wpAny_tryCatch (wpAny_pyNext_list_item st p.isList (x:=u) (by simpa using eu) fun h' st' sb=>?_));have I1:L2.Inv X ae σ H {s with heap:=h'}:=I.turned (t':=s.toks) (fun b o hb e=>(sb.2 b hb).trans e) fi.1 fi.2.1 fi.2.2.2.1 fi.2.2.2.2.1 fi.2.2.2.2.2;have eS1:h'.get? S=some (seqObj "list" #[ub,ub] n):=(sb.2 S hnI).trans eS;have h:(match A9 d b with|some true=>cf rest d|some false=>cf rest b|none=>none)=some db:=h;cases q:A9 d b with
  | none=>rw[q] at h;cases h
  | some r0=>
   rw[q] at h;refine wpAny_bind (wpAny_pure ?_);show wpAny _ X.A.in1 (tryCatch (holding [u,u] (richCompare .Lt u ub >>= _)) _ >>= _) _ _ _;refine wpAny_bind (wpAny_tryCatch (wpAny_holding (wpAny_bind (zX q rdv rb ru rvb ?_))));refine wpAny_bind (wpAny_holding (wpAny_truthy_bool ?_));refine wpAny_bind (wpAny_letGo (wpAny_pure ?_));cases r0 with
   | true=>
    simp only[if_true];refine wpAny_bind (wpAny_updateSeq eS1 rfl (wpAny_bind (wpAny_letGo ?_)));rw[hname];obtain⟨n3,eS3⟩:∃n3,(h'.update S (Obj.mapSeq fun _=>#[u,u])).get? S=some (seqObj "list" #[u,u] n3):=⟨_,get?_update_seq eS1 fun _=>#[u,u]⟩;have kp:∀b o,b≠S→h'.get? b=some o→(h'.update S (Obj.mapSeq fun _=>#[u,u])).get? b=some o:=fun b o hb e=>(Heap.get?_update_other h' _ (Ne.symm hb)).trans e
    have I3:L2.Inv X ae σ H {s with heap:=h'.update S (Obj.mapSeq fun _=>#[u,u])}:=I1.turned (t':=s.toks) kp fS.1 fS.2.1 fS.2.2.2.1 fS.2.2.2.2.1 fS.2.2.2.2.2;obtain⟨oI,hoI,cI,dI⟩:=id st';exact wpAny_pure ⟨plainId_quiet PySem.F.plain_min_loop _,ih (j+1) _ d _ u n3 hd' I3 ⟨oI,kp it oI (Ne.symm hnI) hoI,cI,dI⟩ eS3 rdv ru h⟩
   | false=>
    simp only[Bool.false_eq_true,if_false];refine wpAny_bind (wpAny_letGo ?_);rw[hname];exact wpAny_pure ⟨plainId_quiet PySem.F.plain_min_loop _,ih (j+1) _ b _ ub n hd' I1 st' eS1 rb rvb h⟩
theorem rL {l:Addr}{ds0:List D}{vs:List V}{Q:VK}{H:Hp}{θ:List Addr}{M:ax}{db:D}{k:Nat}{s:Shared}
  (hr:ck (k+1) X.A) (hcalm:X.calm=true) (I:L2.Inv X ae σ H s) (hw:Wr X.K θ H M) (ta:ly X.K θ H l vs) (r:aR X.K θ H ds0 vs) (h:xF ds0=some db) (hQ:∀v,cX X.K θ H db v→Q v H) :
  wpAny (model X.prog X.w) X.A (call (.builtin "min") [.ref l] []) (EP X ae σ Q) X.xe s:=by
 have hname:(toString "min"++toString ".loop":String)="min.loop":=by decide
 cases ds0 with
 | nil=>cases h
 | cons d rest=>
   have h:cf rest d=some db:=h;obtain⟨v,ev,rdv⟩:=dm (i:=0) r rfl;obtain⟨its,rv,p,hz⟩:=I.list ta.sq;refine kmk_tree PySem.F.kind_min PySem.F.plain_min PySem.F.entry_min (qJ _) ?_;show wpAny _ X.A.in1 (Builtin.Builtins.bindParams "min" ["key","default"] 0 ⟨[],[]⟩ >>= _) _ _ s;refine wpAny_bind (wpAny_of_eq (show Builtin.Builtins.bindParams "min" ["key","default"] 0 ⟨[],[]⟩=pure [none,none] from rfl) ?_);refine wpAny_bind (wpAny_pure ?_);refine wpAny_bind (wpAny_pyIter_list p.isList ?_);refine wpAny_bind (wpAny_newList ?_ (Nat.zero_le _));rw[hname];have hS:(s.heap.push {cls:=.type "list_iterator",data:=.fields #[.ref l,.int 0 0]}).objs.size=s.heap.objs.size+1:=size_push' ..;have fi:gO X ae H s.heap.objs.size:=I.fpOk (Nat.le_refl _) (I.hok.fresh (Nat.le_refl _));have leS:s.heap.objs.size≤(s.heap.push {cls:=.type "list_iterator",data:=.fields #[.ref l,.int 0 0]}).objs.size:=by rw[hS];exact Nat.le_succ _
   have fS:gO X ae H (s.heap.push {cls:=.type "list_iterator",data:=.fields #[.ref l,.int 0 0]}).objs.size:=I.fpOk leS (I.hok.fresh leS);have hnI:(s.heap.push {cls:=.type "list_iterator",data:=.fields #[.ref l,.int 0 0]}).objs.size≠s.heap.objs.size:=by rw[hS];exact Nat.ne_of_gt (Nat.lt_succ_self _)
   have gI:((s.heap.push {cls:=.type "list_iterator",data:=.fields #[.ref l,.int 0 0]}).push (seqObj "list" #[] 0)).get? s.heap.objs.size=some {cls:=.type "list_iterator",data:=.fields #[.ref l,.int 0 0]}:=Heap.get?_push_of_some _ (Heap.get?_push_size _ rfl);have gS:((s.heap.push {cls:=.type "list_iterator",data:=.fields #[.ref l,.int 0 0]}).push (seqObj "list" #[] 0)).get? (s.heap.push {cls:=.type "list_iterator",data:=.fields #[.ref l,.int 0 0]}).objs.size=some (seqObj "list" #[] 0):=Heap.get?_push_size _ rfl;have I0:L2.Inv X ae σ H {s with heap:=(s.heap.push {cls:=.type "list_iterator",data:=.fields #[.ref l,.int 0 0]}).push (seqObj "list" #[] 0)}:=I.kept (t':=s.toks) fun b o e=>Heap.get?_push_of_some _ (Heap.get?_push_of_some _ e)
   generalize (s.heap.push {cls:=.type "list_iterator",data:=.fields #[.ref l,.int 0 0]}).objs.size=S at *;generalize hit:s.heap.objs.size=it at *;refine wpAny_pure ⟨plainId_quiet PySem.F.plain_min_loop _,?_⟩;refine codeAny_builtin PySem.F.entry_min_loop ?_;rw[Around.under_plainId PySem.F.plain_min_loop _];show wpAny _ X.A.in1 (seqItems? (.ref S) >>= _) _ _ _;refine wpAny_bind (wpAny_seqItems gS rfl ?_);obtain⟨its',rv',p',hz'⟩:=I0.list ta.sq;obtain⟨u',eu',ru'⟩:=rv'.get ev;show wpAny _ X.A.in1 (tryCatch (pyNext (.ref it)) _ >>= _) _ _ _;refine wpAny_bind (wpAny_tryCatch (wpAny_pyNext_list_item (i:=0) ⟨_,gI,rfl,rfl⟩ p'.isList (x:=u') (by simpa using eu') fun h' st' sb=>?_));have I1:L2.Inv X ae σ H {s with heap:=h'}:=I0.turned (t':=s.toks) (fun b o hb e=>(sb.2 b hb).trans e) fi.1 fi.2.1 fi.2.2.2.1 fi.2.2.2.2.1 fi.2.2.2.2.2;have eS1:h'.get? S=some (seqObj "list" #[] 0):=(sb.2 S hnI).trans gS;obtain⟨oI,hoI,cI,dI⟩:=id st';refine wpAny_bind (wpAny_pure ?_);refine wpAny_bind ?_;show wpAny _ X.A.in1 (updateSeq S (fun _=>#[u',u'])) _ _ _;refine wpAny_updateSeq eS1 rfl ?_;rw[hname];obtain⟨n3,eS3⟩:∃n3,(h'.update S (Obj.mapSeq fun _=>#[u',u'])).get? S=some (seqObj "list" #[u',u'] n3):=⟨_,get?_update_seq eS1 fun _=>#[u',u']⟩;have kp:∀b o,b≠S→h'.get? b=some o→(h'.update S (Obj.mapSeq fun _=>#[u',u'])).get? b=some o:=fun b o hb e=>(Heap.get?_update_other h' _ (Ne.symm hb)).trans e
   have I3:L2.Inv X ae σ H {s with heap:=h'.update S (Obj.mapSeq fun _=>#[u',u'])}:=I1.turned (t':=s.toks) kp fS.1 fS.2.1 fS.2.2.2.1 fS.2.2.2.2.1 fS.2.2.2.2.2;exact wpAny_pure ⟨plainId_quiet PySem.F.plain_min_loop _,qG hr hcalm hw ta r hnI (fun u s' e=>e) fi fS hQ rest 1 _ d v u' n3 rfl I3 ⟨oI,kp it oI (Ne.symm hnI) hoI,cI,dI⟩ eS3 rdv ru' h⟩
def gX:FD:=fun ds M=>match ds with
 | [.lst xs]=>match xF xs with
  | some d=>.ok d M
  | none=>.bad
 | _=>.bad
theorem wa {k:Nat}(hr:ck (k+1) X.A)(hc:X.calm=true):cL X (.builtin "min") (rC X gX):=by
 intro ae s σ H xs us Q I r h;obtain⟨θ,M,ds,hw,rd,h⟩:=h;unfold gX at h;split at h
 ·rename_i ys;split at h
  ·rename_i d q;obtain⟨v,rr,e,⟨a,vs,ea,ta,rs⟩,er⟩:=rd;have er:rr=[]:=er;subst er e ea;obtain⟨u,rfl,ru⟩:=kF r;have ru:u=.ref a:=ru;subst ru;exact rL hr hc I hw (.inl ⟨.inl ta.1,ta.2⟩) rs q fun v rv=>h v θ H (.refl hw) rv
  ·exact h.elim
 ·exact h.elim
theorem zb {k:Nat}(hr:ck (k+1) X.A)(hc:X.calm=true:=by rfl):QC X (.builtin "min") gX:=⟨wa hr hc⟩
end
section
variable {X:Cx}
def cJ (z:Str)(lo hi:Option Int):Str:=⟨((z.cps.toList.drop (HT.sIx z.length 0 lo)).take (HT.sIx z.length z.length hi-HT.sIx z.length 0 lo)).toArray⟩
theorem og (lo hi:Option Int)(n:Nat):Builtin.Str.strSliceIndices lo hi 1 n=(List.range (HT.sIx n n hi-HT.sIx n 0 lo)).map (HT.sIx n 0 lo+·):=by
 rw[←sliceRange_one];unfold Builtin.Str.strSliceIndices;have key:∀(o:Option Int) (d:Nat),(match o with|none=>(d:Int)|some i=>max 0 (min (if i<0 then i+(n:Int) else i) (n:Int)))=((HT.sIx n d o:Nat):Int):=by
  intro o d;cases o with
  | none=>rfl
  | some v=>
   show max 0 (min (if v<0 then v+(n:Int) else v) (n:Int))=(((if v<0 then(v+(n:Int)).toNat else min v.toNat n):Nat):Int)
   by_cases hv:v<0
   ·simp only[if_pos hv];omega
   ·simp only[if_neg hv];omega
 have h1:=key lo 0;have h2:=key hi n;simp only[show(1:Int)>0 by decide,if_true];rw[←h1,←h2];cases lo <;> cases hi <;> rfl
theorem kq (z:Str)(lo hi:Option Int):Txt.slice z lo hi=cJ z lo hi:=by
 unfold Txt.slice cJ;rw[og,pick_run];split
 ·rename_i h;have h:(HT.sIx z.length z.length hi-HT.sIx z.length 0 lo==z.length)=true:=by simpa using h
  have h:=eq_of_beq h;have l1:=HT.sIx_le z.length z.length (Nat.le_refl _) hi
  by_cases h0:z.length=0
  ·have:z.cps.toList=[]:=length_eq_zero_iff.mp (by simpa[Str.length] using h0);cases z with
   | mk c=>simp only at this;simp[this];exact Array.toList_eq_nil_iff.mp this
  ·have e:HT.sIx z.length 0 lo=0:=by omega
   rw[e,Nat.sub_zero];have:HT.sIx z.length z.length hi=z.length:=by omega
   rw[this,drop_zero,take_of_length_le (by simp[Str.length])]
 ·rfl
def fG (d:D)(lo hi:Option Int)(M:ax):aF D:=match d with
 | .str z=>if z.length≤sizeLine then .ok (.str (cJ z lo hi)) M else .bad
 | d=>iK d lo hi M
def cy (g:GE)(gl gh:GO):GE:=fun ρ M=>(g ρ M).bind fun x M1=>(gl ρ M1).bind fun lo M2=>(gh ρ M2).bind fun hi M3=>fG x lo hi M3
def DR (X:Cx):V→Option Int→Option Int→Hp→VK→Prop:=fun x lo hi H Q=>∃θ M d,Wr X.K θ H M∧cX X.K θ H d x∧aH X θ H Q (fG d lo hi M)
theorem oP {v:Value}{o:Option Int}(p:IsPart v o):∃q:Option (Int×Tok),v=partValue q∧q.map (·.1)=o:=by
 cases p with
 | none=>exact⟨none,rfl,rfl⟩
 | int i t=>exact⟨some (i,t),rfl,rfl⟩
theorem CK:BN X (DR X):=by
 intro ae s σ H x v vl vu lo hi sl Q I rx hs pl pu h;obtain⟨θ,M,d,hw,r,h⟩:=h;have rest:aH X θ H Q (iK d lo hi M)→_:=fun h=>Dr ae s σ H x v vl vu lo hi sl Q I rx hs pl pu ⟨θ,M,d,hw,r,h⟩
 cases d with
 | str z=>
  have h:aH X θ H Q (if z.length≤sizeLine then .ok (.str (cJ z lo hi)) M else .bad):=h;split at h
  ·rename_i hz;have ev:x=.str z:=r;subst ev;obtain⟨t,rfl⟩:=rx;obtain⟨ql,rfl,el⟩:=oP pl;obtain⟨qu,rfl,eu⟩:=oP pu;subst el eu;refine⟨"str",_,PySem.F.slot_str_getitem.lookup,typeIs_str _ _ _,wpAny_getItem_str_slice (l:=ql) (u:=qu) (st:=none) hs rfl ?_⟩;refine post_val_or_str (y:=z) (z:=⟨((slicePicked z ql qu none).filterMap (z.cps[·]?)).toArray⟩) (c:=((1:Int)==1&&(slicePicked z ql qu none).length==z.length)=true) ?_;have e:(if((1:Int)==1&&(slicePicked z ql qu none).length==z.length)=true then z else⟨((slicePicked z ql qu none).filterMap (z.cps[·]?)).toArray⟩)=cJ z (ql.map (·.1)) (qu.map (·.1)):=kq z _ _;rw[e];refine⟨Nat.le_trans (by rw[←kq];exact Txt.slice_le z _ _) hz,fun t' k=>⟨.str (cJ z (ql.map (Prod.fst:Int×Tok→Int)) (qu.map (Prod.fst:Int×Tok→Int))),H,I.tok k,⟨t',rfl⟩,h _ θ H (.refl hw) rfl⟩⟩
  ·exact h.elim
 | _=>exact rest h
theorem zk {e:Expr}{g:GE}{p2 pos:Pos}{lo hi:Option Expr}{gl gh:GO}(he:QE X e g)(hl:QP X lo gl)(hh:QP X hi gh):QE X (.Subscript e (.Slice lo hi none p2) pos) (cy g gl gh):=
 ⟨(tw CK he.h hl.h hh.h).of fun σ H Q hxx=>by
  obtain⟨ρ,θ,M,hd,hw,h⟩:=hxx;refine bE hd hw (aH X θ H Q) (fun c M' h=>h) (fun h=>h) h fun d M1 v θ1 H1 g1 r1 h1=>?_
  refine xA (hd.go g1) g1.wr (aH X θ1 H1 Q) (fun c M' h=>h) (fun h=>h) (h1.go g1) fun l M2 θ2 H2 g2 h2=>?_
  refine xA ((hd.go g1).go g2) g2.wr (aH X θ2 H2 Q) (fun c M' h=>h) (fun h=>h) (h2.go g2) fun u M3 θ3 H3 g3 h3=>?_
  exact⟨θ3,M3,d,g3.wr,r1.go (g2.trans g3),h3.go g3⟩⟩
def fo (x:Str)(d:D)(M:ax):aF D:=match d with
 | .str y=>if x.length≤sizeLine then .ok (.str (Txt.lstripChars x y)) M else .bad
 | _=>.bad
def oJ:V→List V→Hp→VK→Prop:=fun x vs H Q=>∃a b,x=.str a∧vs=[.str b]∧a.length≤sizeLine∧Q (.str (Txt.lstripChars a b)) H
theorem qK:Dl X "str.lstrip" oJ:=by
 intro ae s σ H x vs v us Q I rx rv h;obtain⟨a,b,rfl,rfl,hz,q⟩:=h;obtain⟨t,rfl⟩:=rx;obtain⟨u,rfl,ru⟩:=rv.one;obtain⟨t',rfl⟩:=ru;exact SC.lstripChars (fun t' k=>⟨.str _,H,I.tok k,⟨t',rfl⟩,q⟩) hz
theorem rj {θ:List Addr}{H:Hp}{M:ax}{x:Str}{d:D}{y:V}{Q:VK}(hw:Wr X.K θ H M)(ry:cX X.K θ H d y)(h:aH X θ H Q (fo x d M)):oJ (.str x) [y] H Q:=by
 cases d with
 | str z=>
  have ev:y=.str z:=ry;subst ev;have h:aH X θ H Q (if x.length≤sizeLine then .ok (.str (Txt.lstripChars x z)) M else .bad):=h;split at h
  ·rename_i hz;exact⟨x,z,rfl,rfl,hz,h _ θ H (.refl hw) rfl⟩
  ·exact h.elim
 | _=>exact h.elim
variable {o e:Expr}{go ge:GE}{gA:GA}{apos cpos:Pos}
theorem qz (ho:QE X o go)(he:QE X e ge)(h1:aP e=true:=by rfl)(hbase:attributeBase o "lstrip" X.env (eval o X.env)=eval o X.env:=by rfl)(hline:(apos.endLine==cpos.line)=true:=by rfl) :
  QE X (.Call (.Attribute o "lstrip" apos) [e] [] cpos) (bu fo go ge):=
 ⟨(nb PySem.F.plainAttrs_str PySem.F.slot_str_lstrip PySem.F.type_str_lstrip qK ho.h (eE he.h gF (sE h1)) hbase (jX h1) hline (sE h1) rfl).of fun σ H Q h=>jC (fun θ H M x d y Q=>rj) h⟩
def iL (xs ds:List D):Option (D×List D):=match ds with
 | [.lst ys]=>if xs.length+ys.length≤sizeLine then some (.non,xs++ys) else none
 | _=>none
theorem yk {θ:List Addr}{H:Hp}{M:ax}{a:Addr}{k:Nat}{xs:List D}{vs:List V}{ds:List D}{us:List V}{r:D×List D}{Q:VK}(hw:Wr X.K θ H M)(ta:θ[k]?=some a)(em:M[k]?=some (.lst xs))(hv:H a=some (.lst vs))(ra:aR X.K θ H xs vs)(ru:aR X.K θ H ds us)
  (hF:iL xs ds=some r) (h:aH X θ H Q (.ok r.1 (M.set k (.lst r.2)))):pU (.ref a) us H Q:=by
 unfold iL at hF;split at hF
 ·rename_i ys;split at hF
  ·rename_i hi;cases hF;obtain⟨v1,r1,e1,⟨b,ws,eb,tb,rb⟩,q2⟩:=ru;have e3:r1=[]:=q2;subst e3 e1 eb;have gs:=lS (ds:=xs) hw ta (bM ra rb);exact⟨a,b,vs,ws,rfl,rfl,hv,tb.1,by rw[←ar ra,←ar rb];exact hi,h _ θ _ gs rfl⟩
  ·cases hF
 ·cases hF
theorem qQ (ho:QE X o go)(ha:QA X [e] gA)(h1:aP e=true:=by rfl)(hbase:attributeBase o "extend" X.env (eval o X.env)=eval o X.env:=by rfl)(hline:(apos.endLine==cpos.line)=true:=by rfl) :
  QE X (.Call (.Attribute o "extend" apos) [e] [] cpos) (nM iL go gA):=
 ⟨(nb PySem.F.plainAttrs_list PySem.F.slot_list_extend PySem.F.type_list_extend qj ho.h ha.h hbase (jX h1) hline (sE h1) rfl).of fun σ H Q h=>BG (fun θ H M a k xs vs ds us r Q=>yk) h⟩
end
section
theorem i3:isSubtype (.type "range_iterator") (.type "reversed")=pure false:=by rw[isSubtype_type];kernel_rfl
theorem kh:bootBuiltins "reversed"=some (.type "reversed"):=by decide +kernel
variable {prog:Program}{w:World}{A:Around}{E:Value→Shared→Prop}{s:Shared}
theorem jJ {r:Addr}{n:Int}{t u v:Tok}{Q:Value→Shared→Prop}(hr:IsRange s.heap r 0 n 1 t u v)(h0:0≤n)(h1:n≤100000)
  (h:Q (.ref s.heap.objs.size) {s with heap:=s.heap.push {cls:=.type "range_iterator",data:=.fields #[rawInt (n-1),rawInt n,rawInt (-1)]}}):wpAny (model prog w) A (call (.builtin "range.__reversed__") [.ref r]) Q E s:=by
 have hT:s.TypeIs (.ref r) "range":=⟨_,hr,rfl⟩;refine wpAny_call_entry PySem.F.slot_range_reversed hT PySem.F.entry_range_reversed ?_ (PySem.F.args_range_reversed_1 _);unfold Builtin.«range.__reversed__»;refine wpAny_bind (wpAny_of_eq (a:=Value.ref r) rfl ?_);unfold Builtin.Range.rangeFields;refine wpAny_bind ?_;refine wpAny_bind (wpAny_field hr rfl (x:=.int 0 t) rfl ?_);refine wpAny_bind (wpAny_of_eq (a:=some 0) rfl ?_);refine wpAny_bind (wpAny_field hr rfl (x:=.int n u) rfl ?_);refine wpAny_bind (wpAny_of_eq (a:=some n) rfl ?_);refine wpAny_bind (wpAny_field hr rfl (x:=.int 1 v) rfl ?_);refine wpAny_bind (wpAny_of_eq (a:=some 1) rfl ?_);refine wpAny_pure ?_;have e:Builtin.Range.rangeSize 0 n 1=n:=by rw[rangeSize_one];split <;> omega
 dsimp only;rw[e];have small:(Builtin.Range.rangeFitsLong 0&&Builtin.Range.rangeFitsLong n&&Builtin.Range.rangeFitsLong 1&&Builtin.Range.rangeFitsLong (-1)&&Builtin.Range.rangeFitsLong (0-1)&&Builtin.Range.rangeFitsLong n)=true:=by
  simp only[Builtin.Range.rangeFitsLong,Bool.and_eq_true,decide_eq_true_eq];omega
 rw[small];have e2:0+(n-1)*1=n-1:=by omega
 rw[e2];exact wpAny_bind (wpAny_newObj_type (wpAny_pure ⟨_,rfl,h⟩))
theorem hV {r:Addr}{n:Int}{t u v:Tok}{Q₁:Value→Shared→Prop}(hr:IsRange s.heap r 0 n 1 t u v)(h0:0≤n)(h1:n≤100000)
  (h:Q₁ (.ref s.heap.objs.size) {s with heap:=s.heap.push {cls:=.type "range_iterator",data:=.fields #[rawInt (n-1),rawInt n,rawInt (-1)]}}) :
  codeAny (model prog w) A (.call (.builtin "reversed.__new__") ⟨[.type "reversed",.ref r],[]⟩) (wants Q₁ E) s:=by
 have hT:s.TypeIs (.ref r) "range":=⟨_,hr,rfl⟩;refine codeAny_of_tree ?_;show wpAny _ A.in1 (do checkBuiltinCall "reversed.__new__" ⟨[.type "reversed",.ref r],[]⟩;again (.builtin "reversed.__new__" ⟨[.type "reversed",.ref r],[]⟩)) _ _ s;refine wpAny_bind (wpAny_of_eq (PySem.F.newCall_reversed_1 _) (wpAny_pure ⟨plainId_quiet PySem.F.plain_reversed_new _,codeAny_builtin PySem.F.entry_reversed_new ?_⟩));rw[Around.under_plainId PySem.F.plain_reversed_new _];unfold Builtin.«reversed.__new__»;refine wpAny_bind (wpAny_of_eq (newClass_reversed _) ?_)
 try dsimp only
 refine wpAny_bind (wpAny_of_eq (a:=()) (by first|rfl|kernel_rfl) ?_);refine wpAny_bind (wpAny_of_eq (a:=()) (by first|rfl|kernel_rfl) ?_)
 try dsimp only
 refine wpAny_bind (wpAny_specialOf hT PySem.F.slot_range_reversed.lookup ?_)
 try dsimp only
 refine wpAny_bind (wpAny_of_eq (PySem.F.slot_range_reversed.bind _) ?_)
 try dsimp only
 first
 | rw[if_neg (show¬((Value.builtin "range.__reversed__"==Value.none)=true) from Bool.false_ne_true)]
 | (show wpAny _ _ (if(Value.builtin "range.__reversed__"==Value.none)=true then _ else _) _ _ _;rw[if_neg (show¬((Value.builtin "range.__reversed__"==Value.none)=true) from Bool.false_ne_true)])
 refine wpAny_bind (wpAny_rule ?_);refine wpAny_bind (m:=runValue (.call (.builtin "range.__reversed__") ⟨[.ref r],[]⟩)) (show wpAny _ _ (call (.builtin "range.__reversed__") [.ref r]) _ _ _ from jJ hr h0 h1 ?_)
 first
 | exact wpAny_pure h
 | exact wpAny_bind (wpAny_pure (wpAny_pure h))
theorem gU {r:Addr}{n:Int}{t u v:Tok}{Q:Value→Shared→Prop}(hr:IsRange s.heap r 0 n 1 t u v)(h0:0≤n)(h1:n≤100000)
  (h:Q (.ref s.heap.objs.size) {s with heap:=s.heap.push {cls:=.type "range_iterator",data:=.fields #[rawInt (n-1),rawInt n,rawInt (-1)]}}):wpAny (model prog w) A (call (.type "reversed") [.ref r]) Q E s:=by
 refine callType_other (U:="range_iterator") (Q₁:=fun obj s₁=>obj=.ref s.heap.objs.size∧s₁={s with heap:=s.heap.push {cls:=.type "range_iterator",data:=.fields #[rawInt (n-1),rawInt n,rawInt (-1)]}}) (by decide +kernel) PySem.F.create_reversed ⟨_,_,PySem.F.mro_reversed⟩ PySem.F.made_reversed i3 (PySem.F.typeCall_reversed_1 _) (hV hr h0 h1 ⟨rfl,rfl⟩) ?_;rintro obj s₁ ⟨rfl,rfl⟩;exact⟨⟨_,Heap.get?_push_size _ rfl,rfl⟩,h⟩
end
section
variable {X:Cx}{tg:Expr}
def Ew (lo c:Int)(n:Nat):It:=⟨fun i _=>i<n,fun i H x H'=>H'=H∧x=.int (lo+(i:Int)*c),fun i _=>n≤i⟩
theorem nj {P:Program}{w:World}{K:W.Frag}{tg:Expr}(it:Addr)(lo c:Int)(n:Nat):nU P w K tg (Ew lo c n) [it] it (fun i h=>IsRangeIter h it (lo+(i:Nat)*c) ((n:Int)-(i:Nat)) c) where
 mem:=by simp
 obj:=fun i h st b hb=>by
  have e:b=it:=by simpa using hb
  subst e;exact⟨_,st,fun v z=>by
   have z':Data.fields _=Data.cell v:=z;cases z'⟩
 keep:=fun i h h' st k=>k it (by simp) _ st
 item:=by
  intro X hP hw hK hc i ae s σ H E I hf st hg;subst hP hw hK;obtain⟨f0,f1,f2,f3,f4,f5⟩:=hf it (by simp);have W:=Walks.range (prog:=X.prog) (w:=X.w) (I.ok.hd hc) it lo c n;refine W.item i s _ _ hg st fun v h' tk hv st' kk=>?_
  obtain⟨t,rfl⟩:=hv;have I1:L2.Inv X ae σ H {s with heap:=h',toks:=tk}:=I.turned (fun b o hb e=>kk b o (by simpa using hb) e) f0 f1 f3 f4 f5;exact⟨_,rfl,l9 (s:={s with heap:=h',toks:=tk}) (n:="range_iterator") st' rfl rfl (by decide) ⟨.int (lo+i*c),H,I1,⟨t,rfl⟩,⟨rfl,rfl⟩,st',fun b hb=>(hf b hb).1⟩⟩
 done:=by
  intro X hP hw hK hc i ae s σ H E I hf st hg;subst hP hw hK;obtain⟨f0,f1,f2,f3,f4,f5⟩:=hf it (by simp);exact wpAny_pyNext_range_end (I.ok.hd hc) st (by have:n≤i:=hg;omega) fun h' eb=>⟨rfl,I.turned (t':=s.toks) (fun b o hb e=>eb b o hb e) f0 f1 f3 f4 f5⟩
 self:=fun _ _ _ _ _ st h=>wpAny_pyIter_rangeiter st h
def D8 (ta:TA):TI:=fun σ H R=>ta σ H fun vs H1=>∃j:Int,vs=[.int j]∧0≤j∧j≤100000∧R (Ew (j-1) (-1) j.toNat) H1
theorem xP {a:Expr}{ta:TA}{p p2 pos pos2:Pos}(hg:Gl X "reversed")(hm:X.mg "reversed"=none)(hg2:Gl X "range")(hm2:X.mg "range"=none)(ha:PA X [a] ta)
  (hs0:starEach [.Call (.Name "range" p2) [a] [] pos2] X.env=[(false,eval (.Call (.Name "range" p2) [a] [] pos2) X.env)]:=by rfl) (hs:starEach [a] X.env=[(false,eval a X.env)]:=by rfl) :
  PI X tg (.Call (.Name "reversed" p) [.Call (.Name "range" p2) [a] [] pos2] [] pos) (D8 ta):=by
 intro ae s σ H R I h;refine Call_ (gL I hg hm kh (PyProof.Rows.callWith_type1 ?_ hs0 rfl));rw[hs0];show wpAny _ _ (spliced ((false,eval (.Call (.Name "range" p2) [a] [] pos2) X.env)::backTo pos [])) _ _ s;refine Calls.spliced_cons (Call_ (gL I hg2 hm2 boot_range (PyProof.Rows.callWith_type1 (cj (ha pos2 ae s σ H _ I h) fun us s1 hxx=>?_) hs rfl)));obtain⟨vs,H1,I1,r1,q1⟩:=hxx;obtain⟨j,e,q1,q2,q⟩:=q1;subst e;cases r1 with
 | cons r rr=>
  cases rr;obtain⟨t,rfl⟩:=r;refine call_range_1 (Calls.spliced_nil ?_);refine gU (IsRange.new ..) q1 q2 ?_;have I2:L2.Inv X ae σ H1 {s1 with heap:=s1.heap.push {cls:=.type "range",data:=.fields #[.int 0 s1.toks,.int j t,.int 1 (s1.toks+1)]},toks:=s1.toks+1+1}:=I1.kept fun b o e=>Heap.get?_push_of_some _ e
  generalize s1.heap.push {cls:=.type "range",data:=.fields #[.int 0 s1.toks,.int j t,.int 1 (s1.toks+1)]}=hh at I2 ⊢;have st0:IsRangeIter (hh.push {cls:=.type "range_iterator",data:=.fields #[rawInt (j-1),rawInt j,rawInt (-1)]}) hh.objs.size (j-1+((0:Nat):Int)*(-1)) (((j.toNat:Nat):Int)-((0:Nat):Int)) (-1):=by
   have e1:j-1+((0:Nat):Int)*(-1)=j-1:=by omega
   have e2:((j.toNat:Nat):Int)-((0:Nat):Int)=j:=by omega
   rw[e1,e2];exact Heap.get?_push_size _ rfl
  refine wpAny_pyIter_rangeiter (x:=j-1+((0:Nat):Int)*(-1)) (left:=((j.toNat:Nat):Int)-((0:Nat):Int)) (step:=-1) st0 ?_;refine⟨hh.objs.size,[hh.objs.size],_,_,H1,rfl,I2.kept (t':=s1.toks+1+1) fun b o e=>Heap.get?_push_of_some _ e,nj _ (j-1) (-1) j.toNat,st0,fun b hb=>?_,q⟩;have e:b=hh.objs.size:=by simpa using hb
  subst e;exact I2.fpOk (Nat.le_refl _) (I2.hok.fresh (Nat.le_refl _))
def jv (lo c:Int)(n:Nat):List D:=(List.range n).map fun(i:Nat)=>D.int (lo+(i:Int)*c)
theorem rV {K:W.Frag}{θ:List Addr}{H:Hp}(lo c:Int)(n:Nat):uR K (Ew lo c n) θ H ⟨jv lo c n,none⟩:=by
 intro θ1 H1 M1 g _ i;refine⟨fun d e=>?_,fun hl=>?_⟩
 ·have hi:i<n:=by
   have:=(List.getElem?_eq_some_iff.mp e).1;simpa[jv] using this
  refine⟨hi,fun x H2 y=>?_⟩;obtain⟨eH,y⟩:=y;subst eH;refine⟨.refl g.wr,?_⟩;have e:((List.range n).map fun(i:Nat)=>D.int (lo+(i:Int)*c))[i]?=some d:=e;simp[hi] at e;subst e;exact y
 ·have hl:(jv lo c n).length≤i:=hl;have:n≤i:=by simpa[jv] using hl
  exact this
def Bv (ds:List D)(M:ax):aF j9:=match ds with
 | [.int j]=>if 0≤j∧j≤100000 then .ok ⟨jv (j-1) (-1) j.toNat,none⟩ M else .bad
 | _=>.bad
def mG (g:GA):GI:=fun ρ M=>(g ρ M).bind Bv
theorem xZ {a:Expr}{g:GA}{p p2 pos pos2:Pos}(hg:Gl X "reversed")(hm:X.mg "reversed"=none)(hg2:Gl X "range")(hm2:X.mg "range"=none)(ha:QA X [a] g)(h1:aP a=true:=by rfl) :
  QI X tg (.Call (.Name "reversed" p) [.Call (.Name "range" p2) [a] [] pos2] [] pos) (mG g):=by
 refine⟨?_⟩;intro ae s σ H R I h;refine xP hg hm hg2 hm2 ha.h rfl (by rw[sE h1];rfl) ae s σ H R I ?_;obtain⟨ρ,θ,M,hd,hw,h⟩:=h;refine gq hd hw (qD X θ H R) (fun c M' h=>h) (fun h=>h) h fun ds M1 vs θ1 H1 g1 r1 h1=>?_
 unfold Bv at h1;split at h1
 ·rename_i j;obtain⟨v,r,e,rv,rr⟩:=r1;have rr:r=[]:=rr;have rv:v=.int j:=rv;subst rr rv;split at h1
  ·rename_i hj;exact⟨j,e,hj.1,hj.2,h1 _ θ1 H1 g1 (rV (j-1) (-1) j.toNat)⟩
  ·exact h1.elim
 ·exact h1.elim
end
section
variable {prog:Program}{w:World}{A:Around}{E:Value→Shared→Prop}{s:Shared}
theorem kY {it l:Addr}{items:Array Value}(hne:l≠it):∀(n i:Nat) (s:Shared) (Q:List Value→Shared→Prop),s.heap.IsListIter it l i→s.heap.IsList l items→i+n≤items.size→
  (∀h',h'.IsListIter it l (i+n)→Heap.SameBut it s.heap h'→Q ((items.toList.drop i).take n) {s with heap:=h'})→wpAny (model prog w) A (draw (.ref it) n) Q E s
 | 0,i,s,Q,hit,_,_,hQ=>by
  show wpAny _ _ (pure []) Q E s;exact wpAny_pure (by simpa using hQ s.heap hit (Heap.SameBut.refl ..))
 | n+1,i,s,Q,hit,ht,hle,hQ=>by
  have hlt:i<items.size:=by omega
  show wpAny _ _ (pyNext (.ref it) >>= _) Q E s;refine wpAny_bind (wpAny_pyNext_list_item hit ht (x:=items[i]) (by simp[hlt]) fun h₁ hit₁ hs₁=>?_);have ht₁:h₁.IsList l items:=by obtain⟨o,ho,r⟩:=ht;exact⟨o,(hs₁.2 l hne).trans ho,r⟩
  refine wpAny_bind (wpAny_holding (kY hne n (i+1) _ _ hit₁ ht₁ (by omega) fun h₂ hit₂ hs₂=>wpAny_pure ?_));have hd:items.toList.drop i=items[i]::items.toList.drop (i+1):=by simp[drop_eq_getElem_cons,hlt]
  have:=hQ h₂ (by rw[show i+(n+1)=i+1+n by omega];exact hit₂) (hs₁.trans hs₂);rw[hd,take_succ_cons] at this;exact this
theorem m9 {l:Addr}{items:Array Value}{elts:List Expr}{x1}{pos:Pos}{env:Env}{Q:Unit→Shared→Prop}(hh:A.handled=none)(ht:s.heap.IsList l items)
  (hn:(assignEach elts env).length=items.size) (hstar:(assignEach elts env).findIdx? (·.1)=none)
  (h:∀h',Heap.ExtBut s.heap.objs.size s.heap h'→wpAny (model prog w) A (assignInOrder ((assignEach elts env).map (·.2)) items.toList) Q E {s with heap:=h'}) :
  wpAny (model prog w) A (assign (.Tuple elts x1 pos) env (.ref l)) Q E s:=by
 rw[assign_Tuple];refine wpAny_bind (wpAny_standAt ?_);unfold unpack;rw[hn,hstar];refine wpAny_bind (wpAny_holding ?_);have hlt:l≠s.heap.objs.size:=by obtain⟨o,ho,_⟩:=ht;exact Nat.ne_of_lt (Heap.lt_size ho)
 unfold unpackItems;refine wpAny_bind ?_
 ·unfold notIterableAtAll;refine wpAny_bind (wpAny_specialOf ht.typeIs PySem.F.slot_list_iter.lookup ?_);refine wpAny_pure ?_;simp only[Bool.false_eq_true,if_false];refine wpAny_bind (wpAny_holding (wpAny_pyIter_list ht ?_));have htp:(s.heap.push {cls:=.type "list_iterator",data:=.fields #[.ref l,.int 0 0]}).IsList l items:=by obtain⟨o,ho,r⟩:=ht;exact⟨o,Heap.get?_push_of_some _ ho,r⟩
  refine wpAny_bind (wpAny_holding (kY hlt items.size 0 _ _ ⟨_,Heap.get?_push_size _ rfl,rfl,rfl⟩ htp (by omega) fun h₁ hit₁ hs₁=>?_));have hall:List.take items.size (List.drop 0 items.toList)=items.toList:=by
   rw[drop_zero];exact take_of_length_le (by simp)
  rw[hall];rw[if_neg (by simp)];have ht₁:h₁.IsList l items:=by obtain⟨o,ho,r⟩:=htp;exact⟨o,(hs₁.2 l hlt).trans ho,r⟩
  refine wpAny_bind (wpAny_holding (wpAny_pyNext_list_end hh hit₁ ht₁ (by simp) fun h₂ he₂=>?_));simp only[Option.isSome_none,Bool.false_eq_true,if_false];refine wpAny_pure (h h₂ fun b o hb e=>he₂ b o hb (hs₁.extBut b o hb (Heap.get?_push_of_some _ e)))
end
section
variable {X:Cx}
def uh (is:List Nat):GG:=fun d ρ=>match d with
 | .lst ds=>fW is ds ρ
 | _=>none
theorem yK {es:List Expr}{is:List Nat}{k n:Nat}{pos:Pos}(h:AS X es is)(hc:X.calm=true:=by rfl)(hl:is.length=n:=by rfl)(hn:(assignEach es X.env).length=n:=by rfl)(hst:(assignEach es X.env).findIdx? (·.1)=none:=by rfl):QG X (.Tuple es k pos) (uh is):=by
 refine⟨?_⟩;intro ae s σ H v u Q I r hw;obtain⟨ρ,θ,M,d,hd,hwr,rd,ρ',e1,hw⟩:=hw;cases d with
 | lst ds=>
  obtain⟨a,vs,e2,ta,rs⟩:=rd;have hlen:ds.length=is.length:=by
   have e1:fW is ds ρ=some ρ':=e1;clear hw hd hwr rs hn hst h hl
   induction is generalizing ds ρ with
   | nil=>
    cases ds with
    | nil=>rfl
    | cons _ _=>cases e1
   | cons i is ih=>
    cases ds with
    | nil=>cases e1
    | cons d ds=>rw[length_cons,length_cons,ih _ ds e1 e1]
  subst e2;cases r;obtain⟨its,rv,p,hz⟩:=I.list ta.sq;refine m9 (I.ok.hd hc) p.isList (by rw[hn,size_toArray,←rv.length,←ar rs,hlen,hl]) hst fun h' hx=>?_
  have I1:L2.Inv X ae σ H {s with heap:=h'}:=I.kept (t':=s.toks) fun b o e=>hx b o (Nat.ne_of_lt (Heap.lt_size e)) e
  exact h.h ae _ σ H vs _ Q I1 (by simpa using rv) ⟨ρ,θ,M,ds,hd,hwr,rs,ρ',e1,hw⟩
 | _=>cases e1
end
section
variable {M:Model}
theorem iy {Γ:PySem.Ctx}{p:Pos}{t:Sem Fin}{fs:List Frame}{s:Shared}{e:End}{s':Shared}(h:Runs M Γ p t fs s e s'):s.toks≤s'.toks:=by
 induction h <;> first|exact Nat.le_refl _|assumption|(simp only[Shared.setGen] at *;omega)|omega
theorem ol {Γ:PySem.Ctx}{p:Pos}{g:Nat}{r:Resume}{s:Shared}{res:GenResult}{s':Shared}(h:Wakes M Γ p g r s res s'):s.toks≤s'.toks:=by
 unfold Wakes at h;split at h
 ·exact h.elim
 ·split at h
  ·obtain⟨e1,s1,hr,_,_,rfl⟩:=h;have q:=iy hr;exact q
  ·rw[h.2];exact Nat.le_refl _
  ·rw[h.2];exact Nat.le_refl _
 ·obtain⟨e1,s1,hr,_,_,rfl⟩:=h;have q:=iy hr;exact q
 ·rw[h.2];exact Nat.le_refl _
 ·rw[h.2];exact Nat.le_refl _
theorem lu {α:Type}{Γ:PySem.Ctx}{n:Nat}{E:Value→Pos→Shared→Prop}{Q:α→Pos→Shared→Prop}(t:Sem α):∀{p:Pos} {s:Shared},n≤s.toks→Sem.wp M Γ t Q E p s→Sem.wp M Γ t (fun a p' s'=>Q a p' s'∧n≤s'.toks) E p s:=by
 induction t <;> intro p s hn h <;> simp only[Sem.wp] at h ⊢
 all_goals first|exact h|exact⟨h,hn⟩|skip
 all_goals rename_i ih
 all_goals first
  | exact ih _ hn h
  | exact ih _ (Nat.le_succ_of_le hn) h
  | exact⟨h.1,ih _ hn h.2⟩
  | (obtain⟨o,e,h⟩:=h;exact⟨o,e,ih _ hn h⟩)
  | (obtain⟨r,s1,hr,h⟩:=h;exact⟨r,s1,hr,ih _ (Nat.le_trans hn (iy hr)) h⟩)
  | (obtain⟨r,s1,hr,h⟩:=h;exact⟨r,s1,hr,ih _ (Nat.le_trans hn (ol hr)) h⟩)
theorem nD {α:Type}{A:Around}{t:Sem α}{Q:α→Shared→Prop}{E:Value→Shared→Prop}{s:Shared}(hp:0<s.toks)(h:wpAny M A t Q E s):wpAny M A t (fun a s'=>Q a s'∧0<s'.toks) E s:=
 fun Γ p hΓ=>lu t hp (h Γ p hΓ)
def Bp (M:Model){α:Type}(t:Sem α):Prop:=∀(Γ:PySem.Ctx) (Q:α→Pos→Shared→Prop) (E:Value→Pos→Shared→Prop) (p:Pos) (s:Shared),Sem.wp M Γ t Q E p s→Sem.wp M Γ t (fun a p' s'=>Q a p' s'∧0<s'.toks) E p s
theorem sU {α β:Type}{m:Sem α}{f:α→Sem β}(h:Bp M m):Bp M (m >>= f):=fun Γ Q E p s hw=>by
 rw[Sem.wp_bind'] at hw ⊢;exact Sem.wp_mono M Γ _ (fun a p' s' q=>lu (f a) q.2 q.1) (fun _ _ _ q=>q) _ _ (h Γ _ _ _ _ hw)
theorem yF {α β:Type}{m:Sem α}{f:α→Sem β}(h:∀a,Bp M (f a)):Bp M (m >>= f):=fun Γ Q E p s hw=>by
 rw[Sem.wp_bind'] at hw ⊢;exact Sem.wp_mono M Γ _ (fun a p' s' q=>h a Γ _ _ _ _ q) (fun _ _ _ q=>q) _ _ hw
theorem pq {α:Type}{vs:List Value}{m:Sem α}(h:Bp M m):Bp M (holding vs m):=fun Γ Q E p s hw=>by
 rw[Sem.wp_holding] at hw ⊢;exact h Γ _ _ _ _ hw
theorem uM {α:Type}{k:Tok→Sem α}:Bp M (.fresh k):=fun Γ Q E p s hw=>by
 simp only[Sem.wp] at hw ⊢;exact lu _ (Nat.succ_le_succ (Nat.zero_le _)) hw
theorem yZ {i:Int}{k:Nat}{pos:Pos}{env:Env}:Bp M (eval (.Constant (.int i) k pos) env):=uM
theorem x9 {v:Expr}{i:Int}{k:Nat}{p pos:Pos}{env:Env}:Bp M (eval (.Subscript v (.Constant (.int i) k p) pos) env):=by
 rw[arm_eval_Subscript];exact yF fun o=>sU (pq yZ)
theorem uP {x:Str}{e:Expr}{p pos:Pos}{env:Env}(h:Bp M (eval e env))(hs:starEach [e] env=[(false,eval e env)]:=by rfl):Bp M (eval (.Call (.Name x p) [e] [] pos) env):=by
 show Bp M (eval (.Name x p) env >>= fun f=>callWith pos f [] (backTo pos (starEach [e] env)) []);refine yF fun f=>?_
 rw[hs];refine sU (pq ?_);unfold evalArgs;refine sU ?_;show Bp M (eval e env >>= _);exact sU h
end
section
variable {X:Cx}{o:Expr}{go:GE}{apos cpos pos p1 p2 pos':Pos}{y z:Str}
structure EN (X:Cx)(st:Stmt)(g:GS):Prop where
 h:∀(ae:List (Addr×Obj)) (s:Shared) (σ:L2.St) (H:Hp) (D:lH),L2.Inv X ae σ H s→0<s.toks→tS X g D σ H→wpAny (model X.prog X.w) X.A (exec st X.env) (SP X ae D) X.xe s
structure EM (X:Cx)(st:Stmt):Prop where
 h:Bp (model X.prog X.w) (exec st X.env)
theorem vk {x:Str}{e:Expr}(h:Bp (model X.prog X.w) (eval e X.env))(hs:swapsWith e (some (.Name x pos')) pos.line X.env=pure false:=by rfl):EM X (.Assign [.Name x pos'] e pos):=⟨by
 rw[exec_Assign_Name (env:=X.env) x pos' e pos hs];exact yF fun _=>sU h⟩
def rW (y z:Str)(go:GE):GE:=fun ρ M=>(go ρ M).bind fun d M1=>match d with
 | .str x=>if x.length≤100000 then .ok (.str (Txt.replace x y z)) M1 else .bad
 | _=>.bad
theorem uV {i:Nat}{x:Str}{k1 k2}(hN:X.N.Nodup)(ho:QE X o go)(hi:X.N[i]?=some x:=by rfl)(hx:ny X.env.scope x:=by first|exact Or.inl rfl|exact Or.inr rfl)(hf:X.fn x=true∨X.env.scope.names.lookup x=some .local:=by first|exact .inl rfl|exact .inr rfl)
  (hyz:(y==z)=false:=by rfl) (hz:z.length≤14:=by decide)
  (hbase:attributeBase o "replace" X.env (eval o X.env)=eval o X.env:=by rfl) (hline:(apos.endLine==cpos.line)=true:=by rfl)
  (hs:swapsWith (.Call (.Attribute o "replace" apos) [.Constant (.str y) k1 p1,.Constant (.str z) k2 p2] [] cpos) (some (.Name x pos')) pos.line X.env=pure false:=by rfl) :
  EN X (.Assign [.Name x pos'] (.Call (.Attribute o "replace" apos) [.Constant (.str y) k1 p1,.Constant (.str z) k2 p2] [] cpos) pos) (aw i (rW y z go)):=by
 refine⟨?_⟩;intro ae s σ H Dn I hp h;refine wpAny_Assign_Name ?_ hs;refine wpAny_Call_method_late hbase rfl hline rfl ?_;obtain⟨ρ,θ,M,hd,hw,h⟩:=h;have h:bB X θ H Dn (((go ρ M).bind fun d M1=>match d with | .str x=>if x.length≤100000 then aF.ok (.str (Txt.replace x y z)) M1 else .bad|_=>.bad).bind fun d M1=>.ok (.nx (ρ.set i (some d))) M1):=h;have hE:tE X go σ H (fun v H1=>∃x0,v=.str x0∧x0.length≤100000∧Dn.nx (σ.set i (some (.str (Txt.replace x0 y z)))) H1):=by
  refine bE hd hw (bB X θ H Dn) (fun c M' h=>h) (fun h=>h) (g:=go) (f:=fun d M1=>(match d with | .str x=>if x.length≤100000 then aF.ok (.str (Txt.replace x y z)) M1 else .bad|_=>.bad:aF D).bind fun d M1=>.ok (.nx (ρ.set i (some d))) M1) ?_ fun d M1 v θ1 H1 g1 r1 h1=>?_
  ·cases q:go ρ M with
   | ok d M1=>rw[q] at h;exact h
   | err c M1=>rw[q] at h;exact h
   | bad=>rw[q] at h;exact h
  ·cases d with
   | str x0=>
    have h1:bB X θ H Dn ((if x0.length≤100000 then aF.ok (.str (Txt.replace x0 y z)) M1 else .bad:aF D).bind fun d M1=>.ok (.nx (ρ.set i (some d))) M1):=h1;have ev:v=.str x0:=r1;split at h1
    ·rename_i hl;exact⟨x0,ev,hl,h1 _ θ1 H1 g1 ((hd.go g1).set (d:=.str (Txt.replace x0 y z)) rfl i)⟩
    ·exact h1.elim
   | _=>exact h1.elim
 refine cj (nD hp (ho.h ae s σ H _ I hE)) fun v s1 hxx=>?_
 obtain⟨⟨x1,H1,I1,r1,x0,rfl,hl,q⟩,hp1⟩:=hxx;obtain⟨t,rfl⟩:=r1;refine⟨"str",_,PySem.F.plainAttrs_str,PySem.F.slot_str_replace,PySem.F.type_str_replace,typeIs_str _ _ _,(fun _ e=>nomatch e),?_⟩;refine Calls.callWith_builtin rfl (Calls.evalArgs_plain ?_);show wpAny _ _ (spliced [(false,eval (.Constant (.str y) k1 p1) X.env),(false,eval (.Constant (.str z) k2 p2) X.env)]) _ _ s1;refine Calls.spliced_cons (Calls.Constant_str (Calls.spliced_cons (Calls.Constant_str (Calls.spliced_nil ?_))));refine SC.replaceW (Nat.ne_of_gt hp1) (Nat.succ_ne_zero _) (Nat.ne_of_lt (Nat.lt_succ_self _)) hyz (by omega) hz fun t' k=>?_
 exact ie (I1.tok k) hN hi hx (v:=.str (Txt.replace x0 y z)) ⟨t',rfl⟩ (fun s2 I2=>⟨_,H1,I2,q⟩) hf
theorem ku {t u:GS}{D:lH}{σ:L2.St}{H:Hp}(h:tS X (aj t u) D σ H):yq (tS X t) (tS X u) D σ H:=by
 obtain⟨ρ,θ,M,hd,hw,h⟩:=h;refine⟨ρ,θ,M,hd,hw,?_⟩;unfold aj at h;cases q:t ρ M with
 | ok f M1=>
  rw[q] at h;cases f with
  | nx ρ1=>exact fun σ1 θ1 H1 g1 d1=>⟨ρ1,θ1,M1,d1,g1.wr,bB.go g1 h⟩
  | rt d=>exact h
  | bk ρ1=>exact h
  | ct ρ1=>exact h
 | err c M1=>rw[q] at h;exact h
 | bad=>rw[q] at h;exact h
theorem yY {st1 st2:Stmt}{rest:List Stmt}{g1 g2 gr:GS}(h1:QS X st1 g1)(hb:EM X st1)(h2:EN X st2 g2)(hr:QB X rest gr):QB X (st1::st2::rest) (aj g1 (aj g2 gr)):=by
 have hs2:∀(ae:List (Addr×Obj)) (s:Shared) (σ:L2.St) (H:Hp) (D:lH),L2.Inv X ae σ H s→0<s.toks→yq (tS X g2) (tS X gr) D σ H→wpAny (model X.prog X.w) X.A (execs (st2::rest) X.env) (SP X ae D) X.xe s:=by
  intro ae s σ H D I hp h;refine wpAny_execs_cons (cj (h2.h ae s σ H {D with nx:=tS X gr D} I hp h) fun f s1 q=>?_);cases f with
  | next=>
   obtain⟨σ',H',I',q⟩:=q;exact hr.h ae s1 σ' H' D I' q
  | ret v=>exact q
  | brk=>exact q
  | cont=>exact q
 refine⟨?_⟩;intro ae s σ H D I h;have h':=ku h;have hw:wpAny (model X.prog X.w) X.A (exec st1 X.env) (fun f s1=>SP X ae {D with nx:=fun σ H=>tS X (aj g2 gr) D σ H} f s1∧0<s1.toks) X.xe s:=
  fun Γ p hΓ=>hb.h Γ (fun f _ s1=>SP X ae {D with nx:=fun σ H=>tS X (aj g2 gr) D σ H} f s1) _ p s (h1.h ae s σ H {D with nx:=fun σ H=>tS X (aj g2 gr) D σ H} I h' Γ p hΓ)
 refine wpAny_execs_cons (cj hw fun f s1 q=>?_);obtain⟨q,hp⟩:=q;cases f with
 | next=>
  obtain⟨σ',H',I',q⟩:=q;exact hs2 ae s1 σ' H' D I' hp (ku q)
 | ret v=>exact q
 | brk=>exact q
 | cont=>exact q
end
section
variable {X:Cx}
def CL:F2:=fun x y M=>match x,y with
 | .str a,.str b=>.ok (.bl (decide (a.cps.toList<b.cps.toList))) M
 | _,_=>.bad
theorem Am:ej X (compareOp .Lt) (rD X CL):=by
 intro ae s σ H x y v u Q I rx ry h;obtain⟨θ,M,dx,dy,hw,r1,r2,h⟩:=h;unfold CL at h;split at h
 ·rename_i i j;exact rk ae s σ H x y v u Q I rx ry ⟨i,j,r1,r2,h _ θ H (.refl hw) rfl⟩
 ·exact h.elim
theorem CN:Q2 X (compareOp .Lt) CL:=⟨Am⟩
end
end DL
namespace DL
open PySem L2
def bn:Nat→D→Bool
 | 0,_=>false
 | f+1,d=>match d with
  | .mr _=>false
  | .tup xs=>xs.all (bn f)
  | .lst xs=>xs.all (bn f)
  | .ro xs=>xs.all (bn f)
  | _=>true
theorem cF {f:D→Option D}:∀{xs:List D},(∀x∈xs,f x=some x)→bf f xs=some xs
 | [],_=>rfl
 | x::xs,h=>by
  unfold bf;rw[h x List.mem_cons_self,cF fun y hy=>h y (List.mem_cons_of_mem _ hy)]
theorem cO {n:Nat}{M:ax}:∀(f:Nat) (d:D),bn f d=true→frz n M f d=some d
 | 0,d,h=>by cases h
 | f+1,d,h=>by
  cases d with
  | mr k=>cases h
  | tup xs=>
   have h:xs.all (bn f)=true:=h;show(bf (frz n M f) xs).map D.tup=_;rw[cF fun x hx=>cO f x (List.all_eq_true.mp h x hx)];rfl
  | lst xs=>
   have h:xs.all (bn f)=true:=h;show(bf (frz n M f) xs).map D.lst=_;rw[cF fun x hx=>cO f x (List.all_eq_true.mp h x hx)];rfl
  | ro xs=>
   have h:xs.all (bn f)=true:=h;show(bf (frz n M f) xs).map D.ro=_;rw[cF fun x hx=>cO f x (List.all_eq_true.mp h x hx)];rfl
  | _=>rfl
def cS:MO→Bool
 | .lst xs=>xs.all (bn 30)
 | .obj _ fs=>fs.all fun p=>bn 30 p.2
 | .dK fs=>fs.all fun p=>bn 30 p.2
 | .dT fs=>fs.all fun p=>bn 30 p.2
theorem iM {κ:Type}{f:D→Option D}:∀{fs:List (κ×D)},(∀p∈fs,f p.2=some p.2)→kn f fs=some fs
 | [],_=>rfl
 | (x,d)::fs,h=>by
  unfold kn;rw[h (x,d) List.mem_cons_self,iM fun y hy=>h y (List.mem_cons_of_mem _ hy)]
theorem kW {f:D→Option D}:∀{fs:List (Str×D)},(∀p∈fs,f p.2=some p.2)→m8 f fs=some fs
 | [],_=>rfl
 | (x,d)::fs,h=>by
  unfold m8;rw[h (x,d) List.mem_cons_self,kW fun y hy=>h y (List.mem_cons_of_mem _ hy)]
theorem c0 {n:Nat}{M:ax}:∀{l:List MO},l.all cS=true→dH n M l=some l
 | [],_=>rfl
 | .lst xs::r,h=>by
  rw[List.all_cons,Bool.and_eq_true] at h;unfold dH;rw[c0 h.2];have h1:xs.all (bn 30)=true:=h.1;rw[cF fun x hx=>cO 30 x (List.all_eq_true.mp h1 x hx)]
 | .obj c fs::r,h=>by
  rw[List.all_cons,Bool.and_eq_true] at h;unfold dH;rw[c0 h.2];have h1:(fs.all fun p=>bn 30 p.2)=true:=h.1;rw[kW fun p hp=>cO 30 p.2 (List.all_eq_true.mp h1 p hp)]
 | .dK fs::r,h=>by
  rw[List.all_cons,Bool.and_eq_true] at h;unfold dH;rw[c0 h.2];have h1:(fs.all fun p=>bn 30 p.2)=true:=h.1;rw[iM fun p hp=>cO 30 p.2 (List.all_eq_true.mp h1 p hp)]
 | .dT fs::r,h=>by
  rw[List.all_cons,Bool.and_eq_true] at h;unfold dH;rw[c0 h.2];have h1:(fs.all fun p=>bn 30 p.2)=true:=h.1;rw[iM fun p hp=>cO 30 p.2 (List.all_eq_true.mp h1 p hp)]
theorem kr {d:D}{M E:ax}(hd:bn 30 d=true)(hM:M.all cS=true):eX M.length (.ok d (M++E))=.ok d M:=by
 unfold eX
 by_cases h:(M++E).length=M.length
 ·have:E=[]:=by
   rw[List.length_append] at h;exact List.length_eq_zero_iff.mp (by omega)
  subst this;simp
 ·simp only[if_neg h];rw[List.take_left,cO 30 d hd,c0 hM]
@[simp] theorem AV (f:Nat) (i:Int):bn (f+1) (.int i)=true:=rfl
@[simp] theorem B7 (f:Nat) (i:Bool):bn (f+1) (.bl i)=true:=rfl
@[simp] theorem AM (f:Nat):bn (f+1) .non=true:=rfl
@[simp] theorem AL (f:Nat) (x:Str):bn (f+1) (.str x)=true:=rfl
theorem AW (f:Nat)(xs:List D):bn (f+1) (.tup xs)=xs.all (bn f):=rfl
theorem iA (f:Nat)(xs:List D):bn (f+1) (.lst xs)=xs.all (bn f):=rfl
theorem kx (f:Nat)(l:List Int):(l.map D.int).all (bn (f+1))=true:=by
 rw[List.all_map];exact List.all_eq_true.mpr fun x _=>rfl
theorem fR {t:GT}{b:GS}{n:Nat}{ρ ρ2:aZ}{M M1 M2:ax}(h1:t ρ M=.ok true M1)(h2:b ρ M1=.ok (.nx ρ2) M2):bq t b (n+1) ρ M=bq t b n ρ2 M2:=by
 rw[bq,h1,ah,if_pos rfl,h2,ah]
theorem bQ {t:GT}{b:GS}{n:Nat}{ρ:aZ}{M M1:ax}(h1:t ρ M=.ok false M1):bq t b (n+1) ρ M=.ok (.nx ρ) M1:=by
 rw[bq,h1,ah,if_neg Bool.false_ne_true]
theorem oR {M:ax}{xs:List D}(hx:xs.all (bn 29)=true)(hM:M.all cS=true):eX M.length (.ok (.mr M.length) (M++[.lst xs]))=.ok (.lst xs) M:=by
 have f1:=c0 (n:=M.length) (M:=M++[.lst xs]) hM;have f2:frz M.length (M++[.lst xs]) 30 (.mr M.length)=some (.lst xs):=by
  have o:bf (frz M.length (M++[.lst xs]) 29) xs=some xs:=cF fun x h=>cO 29 x (List.all_eq_true.mp hx x h)
  show(if M.length<M.length then some (D.mr M.length) else match (M++[MO.lst xs])[M.length]? with|some (MO.lst ys)=>(bf (frz M.length (M++[MO.lst xs]) 29) ys).map D.lst|_=>none)=_;rw[if_neg (Nat.lt_irrefl _)];simp;rw[o]
 show(if(M++[MO.lst xs]).length=M.length then aF.ok (D.mr M.length) (M++[MO.lst xs]) else match frz M.length (M++[MO.lst xs]) 30 (.mr M.length),dH M.length (M++[MO.lst xs]) ((M++[MO.lst xs]).take M.length) with|some d',some M'=>.ok d' M'|_,_=>.bad)=_;rw[if_neg (by simp),List.take_left,f1,f2]
end DL
namespace DL
open PySem L2
theorem az {a b:GS}{ρ ρ1:aZ}{M M1:ax}(h:a ρ M=.ok (.nx ρ1) M1):aj a b ρ M=b ρ1 M1:=by
 unfold aj;rw[h];rfl
theorem BL {a b:GS}{ρ:aZ}{d:D}{M M1:ax}(h:a ρ M=.ok (.rt d) M1):aj a b ρ M=.ok (.rt d) M1:=by
 unfold aj;rw[h];rfl
theorem eT {a b:GS}{ρ:aZ}{c:Str}{M M1:ax}(h:a ρ M=.err c M1):aj a b ρ M=.err c M1:=by
 unfold aj;rw[h];rfl
theorem iD {t:GT}{a b:GS}{ρ:aZ}{M M1:ax}(h:t ρ M=.ok true M1):fc t a b ρ M=a ρ M1:=by
 unfold fc;rw[h,ah,if_pos rfl]
theorem gJ {t:GT}{a b:GS}{ρ:aZ}{M M1:ax}(h:t ρ M=.ok false M1):fc t a b ρ M=b ρ M1:=by
 unfold fc;rw[h,ah,if_neg Bool.false_ne_true]
theorem aB {i:Nat}{g:GE}{ρ:aZ}{M M1:ax}{d:D}(h:g ρ M=.ok d M1):aw i g ρ M=.ok (.nx (ρ.set i (some d))) M1:=by
 unfold aw;rw[h,ah]
theorem jf {g:GE}{ρ:aZ}{M M1:ax}{d:D}(h:g ρ M=.ok d M1):dj g ρ M=.ok (.nx ρ) M1:=by
 unfold dj;rw[h,ah]
theorem gN {g:GE}{ρ:aZ}{M M1:ax}{d:D}(h:g ρ M=.ok d M1):bF g ρ M=.ok (.rt d) M1:=by
 unfold bF;rw[h,ah]
theorem b5 {a b:GT}{ρ:aZ}{M:ax}{x y:Bool}(ha:a ρ M=.ok x M)(hb:x=true→b ρ M=.ok y M):cq a b ρ M=.ok (x&&y) M:=by
 unfold cq;rw[ha,ah];cases x with
 | true=>exact hb rfl
 | false=>rfl
theorem iu {a b:GT}{ρ:aZ}{M:ax}{x y:Bool}(ha:a ρ M=.ok x M)(hb:x=false→b ρ M=.ok y M):fF a b ρ M=.ok (x||y) M:=by
 unfold fF;rw[ha,ah];cases x with
 | true=>rfl
 | false=>exact hb rfl
theorem o4 {a:GT}{ρ:aZ}{M:ax}{x:Bool}(ha:a ρ M=.ok x M):eR a ρ M=.ok (!x) M:=by
 unfold eR;rw[ha,ah]
theorem sj {a:GE}{ρ:aZ}{M M1:ax}{x:Bool}(ha:a ρ M=.ok (.bl x) M1):ir a ρ M=.ok x M1:=by
 unfold ir;rw[ha,ah];rfl
theorem aS {a:GE}{ρ:aZ}{M M1:ax}{x:Bool}(ha:a ρ M=.ok (.bl x) M1):aJ a ρ M=.ok x M1:=by
 unfold aJ;rw[ha,ah];rfl
theorem aq {f:F2}{a b:GE}{ρ:aZ}{M M1 M2:ax}{x y:D}{o:aF D}(ha:a ρ M=.ok x M1)(hb:b ρ M1=.ok y M2)(h:f x y M2=o):g2 f a b ρ M=o:=by
 unfold g2;rw[ha,ah,hb,ah,h]
theorem de {F:FD}{a:GE}{ρ:aZ}{M M1:ax}{x:D}{o:aF D}(ha:a ρ M=.ok x M1)(h:F [x] M1=o):aG F (aa a ag) ρ M=o:=by
 unfold aG aa ag;rw[ha,ah,ah,ah,h]
theorem fB {F:FD}{a:GE}{ρ:aZ}{M M1:ax}{x:D}{o:aF D}(ha:a ρ M=.ok x M1)(h:F [x] M1=o):av 1 F (aa a ag) ρ M=o:=by
 unfold av aa ag;rw[ha,ah,ah,ah,if_pos (show [x].length=1 from rfl),h]
theorem cN {F:FD}{a b:GE}{ρ:aZ}{M M1 M2:ax}{x y:D}{o:aF D}(ha:a ρ M=.ok x M1)(hb:b ρ M1=.ok y M2)(h:F [x,y] M2=o):av 2 F (aa a (aa b ag)) ρ M=o:=by
 unfold av aa ag;rw[ha,ah,hb,ah,ah,ah,ah,if_pos (show [x,y].length=2 from rfl),h]
theorem tP {F:FD}{a b c:GE}{ρ:aZ}{M M1 M2 M3:ax}{x y z:D}{o:aF D}(ha:a ρ M=.ok x M1)(hb:b ρ M1=.ok y M2)(hc:c ρ M2=.ok z M3)(h:F [x,y,z] M3=o):av 3 F (aa a (aa b (aa c ag))) ρ M=o:=by
 unfold av aa ag;rw[ha,ah,hb,ah,hc,ah,ah,ah,ah,ah,if_pos (show [x,y,z].length=3 from rfl),h]
theorem xx {F:FD}{a b c d:GE}{ρ:aZ}{M M1 M2 M3 M4:ax}{x y z u:D}{o:aF D}(ha:a ρ M=.ok x M1)(hb:b ρ M1=.ok y M2)(hc:c ρ M2=.ok z M3)(hd:d ρ M3=.ok u M4)(h:F [x,y,z,u] M4=o):av 4 F (aa a (aa b (aa c (aa d ag)))) ρ M=o:=by
 unfold av aa ag;rw[ha,ah,hb,ah,hc,ah,hd,ah,ah,ah,ah,ah,ah,if_pos (show [x,y,z,u].length=4 from rfl),h]
theorem uN {p:D→Bool}:∀xs:List D,cB (xs.map fun d=>D.bl (p d))=some (xs.map p)
 | []=>rfl
 | x::xs=>by
  show(cB (xs.map fun d=>D.bl (p d))).map (p x::·)=_;rw[uN xs];rfl
theorem xX {gi:GI}{ge:GE}{ρ:aZ}{M:ax}{xs:List D}{p:D→Bool}(hi:gi ρ M=.ok ⟨xs,none⟩ M)(hl:xs.length≤100000)(h:∀x∈xs,ge (some x::ρ) M=.ok (.bl (p x)) M) :
  aG kg (aa (aQ gi bD ge aC) ag) ρ M=.ok (.bl (xs.all p)) M:=by
 have c:=fM (ds0:=xs) (ge:=ge) (ρ:=ρ) (f:=fun d=>D.bl (p d)) (M:=M) xs h;have l1:(xs.map fun d=>D.bl (p d)).length≤sizeLine:=by rw[List.length_map];exact ba (by omega)
 refine de (x:=.lst (xs.map fun d=>D.bl (p d))) (M1:=M) ?_ ?_
 ·unfold aQ;rw[hi,ah];dsimp only;rw[c,ah];unfold aC;rw[if_pos l1]
 ·show(match bH (.lst (xs.map fun d=>D.bl (p d))) M with|some xs=>(match cB xs with|some bs=>aF.ok (D.bl (bs.all id)) M|none=>.bad)|none=>.bad)=_;show(match cB (xs.map fun d=>D.bl (p d)) with|some bs=>aF.ok (D.bl (bs.all id)) M|none=>.bad)=_;rw[uN];dsimp only;rw[List.all_map];rfl
theorem gW (a b:Int)(M:ax):a8 false (.int a) (.int b) M=.ok (.bl (decide (a=b))) M:=by
 show aF.ok (D.bl ((a==b) != false)) M=_
 by_cases q:a=b <;> simp[q]
theorem pO (a b:Int)(M:ax):a8 true (.int a) (.int b) M=.ok (.bl (!decide (a=b))) M:=by
 show aF.ok (D.bl ((a==b) != true)) M=_
 by_cases q:a=b <;> simp[q]
theorem k6 (M:ax)(E:List D):(M++[MO.lst E])[M.length]?=some (.lst E):=by simp
theorem lq (M:ax)(E E':List D):(M++[MO.lst E]).set M.length (.lst E')=M++[MO.lst E']:=by simp
theorem gD {xs:List D}{k:Nat}{d:D}{M:ax}(h:xs[k]?=some d):ot (.lst xs) (.int k) M=.ok d M:=by
 have a:=gd (xs:=xs) (j:=k) h;unfold ot bH;dsimp only;rw[a]
theorem De {xs:List D}{k:Nat}{d:D}{M:ax}(h:xs[k]?=some d):ot (.tup xs) (.int k) M=.ok d M:=by
 have a:=gd (xs:=xs) (j:=k) h;unfold ot bH;dsimp only;rw[a]
theorem oK {ρ:aZ}{M:ax}:jc ag ρ M=.ok (.mr M.length) (M++[.lst []]):=by
 show(if([]:List D).length≤sizeLine then aF.ok (D.mr M.length) (M++[.lst []]) else .bad)=_;rw[if_pos (show([]:List D).length≤sizeLine from Nat.zero_le _)]
theorem oz {ga:GA}{ρ:aZ}{M M1:ax}{ds:List D}(h:ga ρ M=.ok ds M1)(hl:ds.length≤100000:=by exact Nat.le_of_ble_eq_true rfl):fT ga ρ M=.ok (.tup ds) M1:=by
 have:ds.length≤sizeLine:=ba (by omega);unfold fT;rw[h,ah];unfold jr;rw[if_pos this]
theorem eO {ga:GA}{ρ:aZ}{M M1:ax}{ds:List D}(h:ga ρ M=.ok ds M1)(hl:ds.length≤100000:=by exact Nat.le_of_ble_eq_true rfl):cY ga ρ M=.ok (.lst ds) M1:=by
 have:ds.length≤sizeLine:=ba (by omega);unfold cY;rw[h,ah];unfold aC;rw[if_pos this]
theorem aV {g:GE}{r:GA}{ρ:aZ}{M M1 M2:ax}{d:D}{ds:List D}(h:g ρ M=.ok d M1)(hr:r ρ M1=.ok ds M2):aa g r ρ M=.ok (d::ds) M2:=by
 unfold aa;rw[h,ah,hr,ah]
theorem uJ {go ge:GE}{ρ:aZ}{M M1:ax}{k:Nat}{E E1:List D}{d:D}(h1:go ρ M=.ok (.mr k) M)(h2:M[k]?=some (.lst E))(h3:ge ρ M=.ok d M1)(h4:M1[k]?=some (.lst E1))(h:E1.length<1000000) :
  iY go ge ρ M=.ok .non (M1.set k (.lst (E1++[d]))):=by
 have l:E1.length<sizeLine:=Nat.lt_of_lt_of_le h (by rw[sizeLine_eq];decide);unfold iY;rw[h1,ah];dsimp only;rw[h2];dsimp only;rw[h3,ah];unfold qf;rw[h4];dsimp only;rw[if_pos l]
theorem f6 {ga:GA}{ρ:aZ}{M M1:ax}{n:Nat}(h:ga ρ M=.ok [.int (n:Int)] M1)(hn:n≤1000000):cQ ga ρ M=.ok ⟨aN 0 n,none⟩ M1:=by
 unfold cQ;rw[h,ah,uA hn]
theorem iB {gi:GI}{sg:GG}{b:GS}{ρ:aZ}{M M1:ax}{t:j9}{o:aF Fl}(h:gi ρ M=.ok t M1)(e:b8 t sg b t.ds ρ M1=o):ij gi sg b ρ M=o:=by
 unfold ij;rw[h,ah,e]
theorem nQ {i j:Int}(h0:-1000000≤i)(h1:i≤1000000)(M:ax):fD (.int i) (.int j) M=.ok (.int (i*j)) M:=by
 have a:-(2 ^ 64:Int)<i:=Int.lt_of_lt_of_le (by decide) h0;have b:i<(2 ^ 64:Int):=Int.lt_of_le_of_lt h1 (by decide);unfold fD;dsimp only;rw[if_pos (.inl ⟨a,b⟩)]
theorem vw {d:D}(h:ce 40 d=true)(hs:kR d d=true)(hm:∀M,io d M=d)(M:ax):a8 true d d M=.ok (.bl false) M:=by
 unfold a8;rw[hm,h,hs];rfl
end DL
namespace DL
open PySem L2
end DL
namespace Hd
open PySem PySem.W PySem.Calls PyProof.Rows
def topRunT (tb:String→Option Builtin)(p:Program)(w:World)(n0:Nat)(ann:Option Value):Nat→SharedT→Thread→Option SharedT
 | 0,_,_=>none
 | n+1,s,t=>match through t with
  | true=>some s
  | false=>match stepOk n0 ann t with
   | false=>none
   | true=>match stepT (denote tb) p w s t with
    | some (s',t')=>topRunT tb p w n0 ann n s' t'
    | none=>none
theorem kD {tb:String→Option Builtin}{p:Program}{w:World}{n0:Nat}{ann:Option Value}:∀{n:Nat} {s s':SharedT} {t:Thread},topRunT tb p w n0 ann n s t=some s'→topRun tb p w n0 ann n s.abs t=some s'.abs
 | 0,_,_,_,h=>by cases h
 | n+1,s,s',t,h=>by
  unfold topRunT at h;unfold topRun;cases he:through t with
  | true=>rw[he] at h;cases h;rfl
  | false=>
   rw[he] at h;cases hk:stepOk n0 ann t with
   | false=>rw[hk] at h;cases h
   | true=>
    rw[hk] at h;cases hs:stepT (denote tb) p w s t with
    | none=>rw[hs] at h;cases h
    | some r=>obtain⟨s2,t2⟩:=r;rw[hs] at h;rw[stepT_spec hs];exact kD h
def grow:List Obj→BT→Nat→BT
 | [],t,_=>t
 | o::r,t,n=>grow r (t.ins n o) (n+1)
def xB:List Obj→BT→Nat→Bool
 | [],_,_=>true
 | o::r,t,n=>((t.ins n o).get n).isSome&&xB r (t.ins n o) (n+1)
theorem nw (life:Life):∀(l:List Obj) (t:BT) (n:Nat),xB l t n=true→absHeap (grow l t n) (n+l.length) life=⟨(absHeap t n life).objs++l.toArray,life⟩
 | [],t,n,_=>by simp[grow,absHeap]
 | o::r,t,n,h=>by
  obtain⟨h1,h2⟩:=Bool.and_eq_true_iff.mp h;have e:=nw life r (t.ins n o) (n+1) h2;have e2:absHeap (t.ins n o) (n+1) life=(absHeap t n life).push o:=absHeap_ins h1;show absHeap (grow r (t.ins n o) (n+1)) (n+(r.length+1)) life=_;rw[show n+(r.length+1)=n+1+r.length by omega,e,e2];simp[Heap.push]
theorem oC {p q:Program}{loose:List Str}{Xt:Shared→Bool}{A:Type}{Yf:Shared→A}{Ya:World→A}{N:Nat}{g0:Bool}{H:Params→Heap}{gs:Array GenState}{d:Drawn}{k:Nat}{m:Nat}{ann:Option Value}{T:Params→BT}{lf:Life}
  (open_:∀w:World,(fencedOpening treeTable p w N).map (fun s=>(s.heap,s.gens,s.drawn,s.toks))=some (H w.params,gs,d,k))
  (size:∀w:World,((H w.params).isNs mainGlobals&&gs.size==0,(H w.params).objs.size,(H w.params).nsMap mainGlobals "__annotations__")=(true,m,ann))
  (tree:∀P,H P=absHeap (T P) m lf)
  (run:∀(w:World) (os:OsState),(topRunT treeTable p w m ann N ⟨T w.params,m,lf,gs,d,k,os⟩ (topStub p)).map (fun s=>
    ((staticsOk (importedModules p.main.body) (H w.params) s.abs.heap&&namesBound p s.abs.heap&&gensDone s.abs&&laidKept (H w.params) s.abs.heap),
    openSeen q loose (importedModules p.main.body) Xt g0 s.abs,Yf s.abs))=some (true,openGood q loose,Ya w)):LeftO p q loose Xt Yf Ya N g0:=fun w=>by
 obtain⟨⟨h,gs',d',k',os⟩,e,e'⟩:=Option.map_eq_some_iff.mp (open_ w);obtain⟨rfl,rfl,rfl,rfl⟩:h=H w.params∧gs'=gs∧d'=d∧k'=k:=by simpa using e'
 obtain⟨z1,z2,z3⟩:_∧_∧_:=by simpa only[Prod.mk.injEq] using size w
 obtain⟨s,r1,r2⟩:=Option.map_eq_some_iff.mp (run w os);obtain⟨l1,l2,l3⟩:_∧_∧_:=by simpa only[Prod.mk.injEq] using r2
 have r:=kD r1;have ea:SharedT.abs ⟨T w.params,m,lf,gs',d',k',os⟩=⟨H w.params,gs',d',k',os⟩:=by rw[tree];rfl
 rw[ea] at r;have t:topFrom treeTable p w N ⟨H w.params,gs',d',k',os⟩=some s.abs:=by
  unfold topFrom;dsimp only;rw[z1,z2,z3,r];show(match staticsOk (importedModules p.main.body) (H w.params) s.abs.heap&&namesBound p s.abs.heap&&gensDone s.abs&&laidKept (H w.params) s.abs.heap with|true=>_|false=>_)=_;rw[l1]
 unfold openEnds;rw[e];show(topFrom treeTable p w N _).map _=_;rw[t];exact congrArg some (Prod.ext l2 l3)
noncomputable def bootT (P:Params):BT:=grow (boot_heap P).objs.toList .nil 0
lay_quick Hd.topRunT W.topStub
theorem qW (P:Params):boot_heap P=absHeap (bootT P) 11 {}:=by
 have h:=nw {} (boot_heap P).objs.toList .nil 0 (by kernel_rfl);exact h.symm
noncomputable def RT (p:Program) (w:World) (N:Nat) (os:OsState):Option SharedT:=topRunT treeTable p w 11 (some (Value.ref 6)) N ⟨bootT w.params,11,{},Array.mk [],boot_drawn,boot_toks,os⟩ (topStub p)
noncomputable def pA (p:Program) (P:Params) (s:Shared):Bool:=staticsOk (importedModules p.main.body) (boot_heap P) s.heap&&namesBound p s.heap&&gensDone s&&laidKept (boot_heap P) s.heap
def pB (q:Program)(mods:List Str)(Xt:Shared→Bool)(s:Shared):Bool:=(s.heap.keysOk (looseW q []) ((recsOf q).map (·.name)) ((litsOf q).map (·.1)) ((clssOf q (looseW q [])).map (·.name))&&s.heap.accountedOkI mods&&s.heap.isNs mainGlobals&&s.heap.isNs builtinsNs&&tablesOk q s.heap&&Xt s&&(if true then s.gens.size==0 else !leftWithCleanup s.gens))&&tabsOk q s
def pC (q:Program)(s:Shared):=(seen ((recsOf q).map (·.name)) (ownsOf q) [] {s with gens:=#[]},s.heap.bltView,wideSeen q s)
def pD (q:Program)(s:Shared):=(pinSeenD q (drecsOf q) s,plainSeenE q (looseW q []) s,plainSeenD q [] s,clsSeenW q [] s)
lay_quick Hd.pB
lay_quick Hd.pC
lay_quick Hd.pD
theorem lR {α A B:Type}{x:Option α}{f:α→A}{g:α→B}{a:A}{b:B}(h1:x.map f=some a)(h2:x.map g=some b):x.map (fun s=>(f s,g s))=some (a,b):=by
 cases x with
 | none=>cases h1
 | some s=>exact congrArg some (Prod.ext (Option.some.inj h1) (Option.some.inj h2))
theorem om {p q:Program}{Xt:Shared→Bool}{A:Type}{Yf:Shared→A}{Ya:World→A}{N:Nat}
  (open_:∀w:World,(fencedOpening treeTable p w N).map (fun s=>(s.heap,s.gens,s.drawn,s.toks))=some (boot_heap w.params,Array.mk [],boot_drawn,boot_toks))
  (size:∀w:World,((boot_heap w.params).isNs mainGlobals&&(Array.mk ([]:List GenState)).size==0,(boot_heap w.params).objs.size,(boot_heap w.params).nsMap mainGlobals "__annotations__")=(true,11,some (Value.ref 6)))
  (r1:∀(w:World) (os:OsState),(RT p w N os).map (fun s=>pA p w.params s.abs&&pB q (importedModules p.main.body) Xt s.abs)=some true)
  (r2:∀(w:World) (os:OsState),(RT p w N os).map (fun s=>pC q s.abs)=some (expectedOf q,bltViewBooted,wideGood q))
  (r3:∀(w:World) (os:OsState),(RT p w N os).map (fun s=>pD q s.abs)=some (pinGoodD (drecsOf q),plainGoodE q (looseW q []),plainGoodD q [],clsGoodW q []))
  (r4:∀(w:World) (os:OsState),(RT p w N os).map (fun s=>Yf s.abs)=some (Ya w)):LeftO p q [] Xt Yf Ya N true:=
 oC open_ size qW fun w os=>by
  show(RT p w N os).map _=_;have h:=lR (lR (r1 w os) (r2 w os)) (lR (r3 w os) (r4 w os));cases e:RT p w N os with
  | none=>rw[e] at h;cases h
  | some s=>
   rw[e] at h;obtain⟨h1,h2⟩:=Prod.mk.inj (Option.some.inj h);obtain⟨h1,h3⟩:=Prod.mk.inj h1;obtain⟨h4,h5⟩:=Prod.mk.inj h2;obtain⟨a,b⟩:=Bool.and_eq_true_iff.mp h1;obtain⟨b,c⟩:=Bool.and_eq_true_iff.mp b;obtain⟨c1,c2⟩:=Prod.mk.inj h3;obtain⟨c2,c3⟩:=Prod.mk.inj c2;obtain⟨d1,d2⟩:=Prod.mk.inj h4;obtain⟨d2,d3⟩:=Prod.mk.inj d2;obtain⟨d3,d4⟩:=Prod.mk.inj d3;exact congrArg some (Prod.ext a (Prod.ext (Prod.ext c1 (Prod.ext c2 (Prod.ext b (Prod.ext c (Prod.ext d1 (Prod.ext d2 (Prod.ext d3 (Prod.ext c3 d4)))))))) h5))
def lk (s:SharedT)(a:Nat):Option Obj:=match Nat.blt a s.n with
 | true=>(match s.tree.get a with
  | some o=>alive o
  | none=>none)
 | false=>none
theorem CD {s:SharedT}{a:Nat}{o:Obj}(h:lk s a=some o):s.abs.heap.get? a=some o:=by
 unfold lk at h;cases b:Nat.blt a s.n with
 | false=>rw[b] at h;cases h
 | true=>
  rw[b] at h;cases g:s.tree.get a with
  | none=>rw[g] at h;cases h
  | some x=>rw[g] at h;exact(abs_get (Nat.blt_eq.mp b) g).trans h
theorem uu {s:SharedT}{β:Type}{f:β→Obj}:∀{as:List Nat} {l:List β},as.map (lk s)=l.map (fun p=>some (f p))→as.map s.abs.heap.get?=l.map (fun p=>some (f p))
 | [],[],_=>rfl
 | [],_::_,h=>by cases h
 | _::_,[],h=>by cases h
 | a::as,p::l,h=>by
  obtain⟨x,y⟩:=List.cons.inj h;show s.abs.heap.get? a::as.map s.abs.heap.get?=_;rw[CD x,uu y];rfl
theorem left_k {p q:Program}{Xt:Shared→Bool}{N:Nat}{K:Params→Frag}{as:List Addr}{e:∀P,as=(K P).map (·.1)}
  (open_:∀w:World,(fencedOpening treeTable p w N).map (fun s=>(s.heap,s.gens,s.drawn,s.toks))=some (boot_heap w.params,Array.mk [],boot_drawn,boot_toks))
  (size:∀w:World,((boot_heap w.params).isNs mainGlobals&&(Array.mk ([]:List GenState)).size==0,(boot_heap w.params).objs.size,(boot_heap w.params).nsMap mainGlobals "__annotations__")=(true,11,some (Value.ref 6)))
  (r1:∀(w:World) (os:OsState),(RT p w N os).map (fun s=>pA p w.params s.abs&&pB q (importedModules p.main.body) Xt s.abs)=some true)
  (r2:∀(w:World) (os:OsState),(RT p w N os).map (fun s=>pC q s.abs)=some (expectedOf q,bltViewBooted,wideGood q))
  (r3:∀(w:World) (os:OsState),(RT p w N os).map (fun s=>pD q s.abs)=some (pinGoodD (drecsOf q),plainGoodE q (looseW q []),plainGoodD q [],clsGoodW q []))
  (r4:∀(w:World) (os:OsState),(RT p w N os).map (fun s=>as.map (lk s))=some ((K w.params).map (fun p=>some p.2))) :
  LeftO p q [] Xt (kHook K as e).obs (kHook K as e).val N true:=
 om open_ size r1 r2 r3 fun w os=>by
  obtain⟨s,h1,h2⟩:=Option.map_eq_some_iff.mp (r4 w os);rw[h1];exact congrArg some (uu h2)
end Hd
namespace K39
open PySem PySem.Spec PyProof.Rows L2 DL List
noncomputable def top (i:Nat):Stmt:=PySem.Challenge.pw_glowrow_k39_whole_any_packing_read.main.body.getD i (.Pass ⟨0,0,0,0⟩)
noncomputable abbrev xo:Stmt:=top 24
noncomputable abbrev TX:=Tx (("_law_draw",top 21,["tape","many"])::("_law_picture",top 22,["tape","most"])::("best_tail",top 11,["parts","tails","at"])::("signs_of",top 5,["numbers"])::("picture_text",top 7,["picture"])::("many_alike",top 13,["spots","at"])::("many_as_above",top 14,["spots","wide","at"])::("parts_at",top 12,["spots","wide","at"])::("packed",top 10,["picture"])::("_law_packing",top 23,["tape","picture"])::("read_signs",top 6,["text"])::("read_size",top 16,["text"])::("exactly",top 19,["numbers","many"])::("read_count",top 18,["text"])::("read_part",top 17,["text","at","wide","hues"])::("unpacked",top 15,["text"])::[])
 ([])
 []
 ("all"::"isinstance"::"len"::"list"::"min"::"range"::"reversed"::"str"::[]) ["NoText"]
 ([]) []
 ([]) [("SIGNS","0123456789abcdefghijklmnopqrstuvwxyzABCDEFGHIJKLMNOPQRSTUVWXYZ+-")] [("MOST_COUNT",63)]
set_option hygiene false
local macro_rules | `(tactic| walk_at "o") => `(tactic| first | with_reducible exact Cj | with_reducible exact q_addM | with_reducible exact Bt | with_reducible exact Cz | with_reducible exact zH | with_reducible exact Cp | with_reducible exact A5 | with_reducible exact D1 | with_reducible exact EC | with_reducible exact D4 | with_reducible exact Eo | with_reducible exact q_is | with_reducible exact q_isnot | with_reducible exact q_in | with_reducible exact q_notin | with_reducible exact q_mulT | with_reducible exact CO | with_reducible exact xR | with_reducible exact zd | with_reducible exact q_ninA | with_reducible exact CN | ((with_reducible show Q2 _ _ (dIn _)); first | exact q_din hr | exact q_dnotin hr) | ((with_reducible show Q2 _ (compareOp .Eq) _); exact EA hr) | exact DB hr)
local macro_rules | `(tactic| walk_at "c") => `(tactic| first | ((with_reducible refine CS ?_); rfl) | ((with_reducible refine q_lenT)) | ((with_reducible refine Bh)) | ((with_reducible refine q_listT ?_); rfl) | ((with_reducible refine q_listMA ?_); rfl) | ((with_reducible refine wA ?_); rfl) | ((with_reducible refine q_listM)) | ((with_reducible refine q_list)) | ((with_reducible refine BE ?_); rfl))
local macro_rules | `(tactic| walk_at "b") => `(tactic| with_reducible first | exact Boot.«all» | exact Boot.«isinstance» | exact Boot.«len» | exact Boot.«list» | exact Boot.«min» | exact Boot.«range» | exact Boot.«reversed» | exact Boot.«str»)
local macro_rules | `(tactic| walk_at "E") => `(tactic| first
  | ((with_reducible show QE _ _ (af _));exact qv _)
  | ((with_reducible show QE _ _ (gC _));first|exact yS|exact zF|exact qe_non|exact Ck|exact AD (E0 T.s 0)|exact vI (Fa T.i 0))
  | ((with_reducible show QE _ _ (g2 dGet _ _));refine qe_dget hr ?_ ?_)
  | ((with_reducible show QE _ _ (g2 bJ _ _));refine Ac ?_ ?_)
  | ((with_reducible show QE _ _ (g2 _ _ _));first|refine Bk (by walk_at "o") ?_ ?_|refine qe_cmp (by walk_at "o") ?_ ?_|refine qe_cmpI (by walk_at "o") ?_ ?_)
  | ((with_reducible show QE _ _ (av _ _ _));refine A3 (by assumption) hr ?_)
  | ((with_reducible show QE _ _ (fT _));refine zL ?_)
  | ((with_reducible show QE _ _ (k7 _ _));refine A0 (by first|exact .inl rfl|exact .inr (.inl rfl)|exact .inr (.inr (.inl rfl))|exact .inr (.inr (.inr (.inl rfl)))|exact .inr (.inr (.inr (.inr rfl)))) (by walk_at "b") (by rfl) (T.z _ (by decide +kernel)) (by rfl) (T.z _ (by decide +kernel)) ?_)
  | ((with_reducible show QE _ _ (aG gX _));refine xC (zb (k:=0) (hr.mono (by decide))) (by rfl) (T.z _ (by decide +kernel)) (by walk_at "b") ?_)
  | ((with_reducible show QE _ _ (cy _ _ _));refine zk ?_ ?_ ?_)
  | ((with_reducible show QE _ _ (bu fo _ _));refine qz ?_ ?_)
  | ((with_reducible show QE _ _ (nM iL _ _));refine qQ ?_ ?_)
  | ((with_reducible show QE _ _ (aG _ _));first|refine Be (by walk_at "c") (T.z _ (by decide +kernel)) (by walk_at "b") ?_|refine Ci (by walk_at "c") (by rfl) (T.z _ (by decide +kernel)) (by walk_at "b") ?_)
  | ((with_reducible show QE _ _ (cY _));refine zg ?_)
  | ((with_reducible show QE _ _ (jc _));refine xW ?_)
  | ((with_reducible show QE _ _ (kb _));refine xO ?_)
  | ((with_reducible show QE _ _ (uQ _ _ _ _ _));refine uF (by walk_at "o") (by walk_at "o") ?_ ?_ ?_)
  | ((with_reducible show QE _ _ (aQ _ _ _ _));first|refine qe_compR (by assumption) (by kernel_rfl) (by first|exact .inl rfl|exact .inr rfl) ?_ ?_ ?_|refine ut (by kernel_rfl) (by first|exact .inl rfl|exact .inr rfl) ?_ ?_ ?_)
  | ((with_reducible show QE _ _ (bI _ _ _ _ _ _));refine qV (by assumption) (by kernel_rfl) (by first|exact .inl rfl|exact .inr rfl) ?_ ?_ ?_ ?_ ?_)
  | ((with_reducible show QE _ _ (iY _ _));refine rH ?_ ?_)
  | ((with_reducible show QE _ _ (bu _ _ _));first|refine vL ?_ ?_|refine qe_indexS ?_ ?_|refine qe_splitM ?_ ?_|refine qe_split ?_ ?_|refine vj ?_ ?_)
  | ((with_reducible show QE _ _ (nM _ _ _));first|refine qe_popAt ?_ ?_|refine qe_insert ?_ ?_))
local macro_rules | `(tactic| walk_at "S") => `(tactic| first
  | ((with_reducible show QS _ _ (bF _));refine zV ?_)
  | ((with_reducible show QS _ _ (fc _ _ _));refine Br ?_ ?_ ?_)
  | ((with_reducible show QS _ _ (aw _ (aQ _ _ _ _)));first|refine qs_setCompR (by assumption) (by kernel_rfl) (by first|exact .inl rfl|exact .inr rfl) nd ?_ ?_ ?_|refine nq (by kernel_rfl) (by first|exact .inl rfl|exact .inr rfl) nd ?_ ?_ ?_|refine qs_setC _ nd ?_)
  | ((with_reducible show QS _ _ (aw _ (bI _ _ _ _ _ _)));first|refine qs_setCompTR (by assumption) (by kernel_rfl) (by first|exact .inl rfl|exact .inr rfl) ?_ nd ?_ ?_ ?_ ?_|refine qs_setC _ nd ?_)
  | ((with_reducible show QS _ _ (aw _ _));refine z6 _ nd ?_)
  | ((with_reducible show QS _ _ (jL _ _));refine yc ?_ ?_)
  | ((with_reducible show QS _ _ (ij _ _ _));refine yJ PassesOwn.leaving ?_ ?_ ?_)
  | ((with_reducible show QS _ _ (dj _));refine vm ?_)
  | ((with_reducible show QS _ _ (i9 _ _ _));refine zE ?_ ?_ ?_)
  | ((with_reducible show QS _ _ (a9));first|exact qs_pass|exact qs_doc)
  | ((with_reducible show QS _ _ (cg _ _ _));refine tR PassesOwn.leaving ?_ ?_)
  | ((with_reducible show QS _ _ (cr _ _));refine qq (T.e _ (by decide +kernel)) ?_)
  | ((with_reducible show QS _ _ (nc _ _ _));refine Ap _ nd rfl ?_)
  | ((with_reducible show QS _ _ (iT _ _));refine wW _ nd ?_))
local macro_rules | `(tactic| walk_at "Q") => `(tactic| first
  | ((with_reducible show QE _ _ _);first|walk_at "E"|refine qe_one ?_|refine qe_and ?_ ?_|refine qe_or ?_ ?_|refine qe_fstr1 ?_)
  | ((with_reducible show QA _ _ _);first|exact AB|refine D9 ?_ ?_)
  | ((with_reducible show QT _ _ _);first
  | ((with_reducible show QT _ _ (aJ (uQ _ _ _ _ _)));refine qt_chain (by walk_at "o") (by walk_at "o") ?_ ?_ ?_)
  | ((with_reducible show QT _ _ (aJ _));first|refine yx (by walk_at "o") ?_ ?_|refine xh (by walk_at "o") ?_ ?_)
  | ((with_reducible show QT _ _ (eR _));refine Ai ?_)
  | ((with_reducible show QT _ _ (ir _));refine zf ?_)
  | ((with_reducible show QT _ _ (cq _ _));refine BS ?_)
  | ((with_reducible show QT _ _ (fF _ _));refine BS ?_))
  | ((with_reducible show QB _ _ _);first|((with_reducible show QB _ _ (aj _ (aj (aw _ (rW _ _ _)) _)));refine yY ?_ (vk (uP x9)) (uV nd ?_) ?_)|exact za|refine zI ?_|refine v6 ?_ ?_)
  | ((with_reducible show QS _ _ _);walk_at "S")
  | ((with_reducible show QW _ _ _);first|refine Ad ?_ ?_|refine BO ?_ ?_|refine wb ?_|refine yh ?_)
  | ((with_reducible show QI _ _ _ _);first|((with_reducible show QI _ _ _ (cQ _));refine Ce (by rfl) (T.z _ (by decide +kernel)) ?_)|((with_reducible show QI _ _ _ (dR _));refine Ba (by rfl) (T.z _ (by decide +kernel)) ?_)|((with_reducible show QI _ _ _ (gEnum _));refine qi_enum (by rfl) (T.z _ (by decide +kernel)) (by walk_at "b") ?_)|((with_reducible show QI _ _ _ (mG _));refine xZ (by rfl) (T.z _ (by decide +kernel)) (by rfl) (T.z _ (by decide +kernel)) ?_)|refine qi_seq ?_|refine xi ?_)
  | ((with_reducible show QG _ _ _);first|exact qn _ nd|exact EZ _ (by kernel_rfl) |((with_reducible show QG _ _ (uh _));refine yK ?_)|refine xL ?_|refine qg_tupG ?_)
  | ((with_reducible show AS _ _ _);first|exact vU|refine B2 ?_ ?_)
  | ((with_reducible show QGG _ _ _);first|exact qgg_nil|refine qgg_c ?_ ?_)
  | ((with_reducible show QP _ _ _);first|exact xf|refine vJ ?_)
  | ((with_reducible show vX _ _ _ _ _ _);first|exact qM|refine rh ?_)
  | ((with_reducible show QO _ _);first|exact qo_one _ _|exact xS _|refine qo_tupG ?_)
  | ((with_reducible show QOs _ _);first|exact qos_nil|refine qos_c ?_ ?_)
  | ((with_reducible show QF _ _ _);first|exact qf_nil|refine qf_c ?_ ?_)
  | ((with_reducible show QD _ _ _ _ _);first|exact qd_nil|refine qd_c ?_)
  | ((with_reducible show QDV _ _ _ _ _);first|exact qdv_nil|refine qdv_c ?_|refine qdv_v _ ?_)
  | intro _)
section
variable {P:Program}{w:World}{K:W.Frag}{mg:Str→Option Value}{base:Heap}
noncomputable def cE:GS:=(aj (aw 2 (gC (.int 2305843009213693951))) (aj (fc (aJ (g2 i5 (g2 bJ (af 0) (gC (.int 2))) (af 1))) (aj (aw 3 (gC (.int 0))) (aj (fc (aJ (g2 uT (aG aY (aa (g2 bJ (af 0) (gC (.int 0))) ag)) (gC (.int 0)))) (aw 3 (g2 bJ (g2 bJ (af 0) (gC (.int 0))) (g2 jk (g2 bJ (af 0) (gC (.int 1))) (aG aY (aa (g2 bJ (af 0) (gC (.int 0))) ag))))) a9) (aj (fc (fF (aJ (g2 vD (g2 bJ (af 0) (gC (.int 1))) (aG aY (aa (g2 bJ (af 0) (gC (.int 0))) ag)))) (aJ (g2 i5 (af 3) (g2 nB (gC (.int 10)) (gC (.int 18)))))) (aj (aw 3 (g2 jk (g2 aA (af 3) (g2 fD (gC (.int 1000003)) (g2 bJ (af 0) (gC (.int 1))))) (af 2))) (aj (aw 3 (g2 jk (g2 aA (g2 aA (g2 fD (af 3) (af 3)) (g2 fD (gC (.int 1181783497276652981)) (af 3))) (gC (.int 2049848353892358983))) (af 2))) (aw 3 (g2 jk (g2 aA (g2 fD (af 3) (af 3)) (gC (.int 1442695040888963407))) (af 2))))) a9) (aj (i9 (af 0) (gC (.int 1)) (g2 aA (g2 bJ (af 0) (gC (.int 1))) (gC (.int 1)))) (i9 (af 0) (gC (.int 2)) (af 3)))))) a9) (aj (aw 4 (g2 jk (g2 bJ (af 0) (gC (.int 2))) (af 1))) (aj (i9 (af 0) (gC (.int 2)) (g2 jH (g2 bJ (af 0) (gC (.int 2))) (af 1))) (bF (af 4))))))
noncomputable def ao:FD:=cH 3 cE
theorem h8 (T:TX P w K mg base):Ok P w K mg base "_law_draw" 1 2 ao:=gn (gk T.f 0 rfl) ["tape","many","prime","cell","found"] dk rfl fun f _ A _ s H E nd hr=>by delta cE;repeat' walk_at "Q"
noncomputable def bU:GE:=(g2 aA (af 6) (av 2 ao (aa (af 1) (aa (af 5) ag))))
noncomputable def bg:GS:=(aj (aw 8 (av 2 ao (aa (af 0) (aa (gC (.int 4)) ag)))) (aj (aw 9 (aQ (cQ (aa (af 2) ag)) bD bU aC)) (aj (fc (cq (aJ (g2 i5 (af 8) (gC (.int 2)))) (aJ (g2 (a8 true) (af 6) (cY ag)))) (aw 9 (aG fU (aa (g2 bJ (af 6) (av 2 ao (aa (af 0) (aa (aG aY (aa (af 6) ag)) ag)))) ag))) a9) (aj (fc (fF (aJ (g2 (a8 false) (af 8) (gC (.int 1)))) (aJ (g2 (a8 false) (af 8) (gC (.int 2))))) (aj (aw 10 (av 2 ao (aa (af 0) (aa (af 2) ag)))) (aj (aw 11 (g2 aA (af 10) (av 2 ao (aa (af 0) (aa (g2 ek (g2 aA (af 2) (gC (.int 1))) (af 10)) ag))))) (aw 9 (g2 aA (g2 aA (cy (af 9) bT (aD (af 10))) (g2 ka (cY (aa (g2 aA (af 5) (av 2 ao (aa (af 0) (aa (af 4) ag)))) ag)) (g2 ek (af 11) (af 10)))) (cy (af 9) (aD (af 11)) bT))))) a9) (dj (iY (af 6) (af 9)))))))
noncomputable def bK:GS:=(aj (aw 2 (g2 aA (gC (.int 1)) (av 2 ao (aa (af 0) (aa (af 1) ag))))) (aj (aw 3 (g2 aA (gC (.int 1)) (av 2 ao (aa (af 0) (aa (af 1) ag))))) (aj (aw 4 (g2 bJ (cY (aa (gC (.int 2)) (aa (gC (.int 3)) (aa (gC (.int 64)) ag)))) (av 2 ao (aa (af 0) (aa (gC (.int 3)) ag))))) (aj (aw 5 (av 2 ao (aa (af 0) (aa (g2 ek (gC (.int 65)) (af 4)) ag)))) (aj (aw 6 (jc ag)) (aj (ij (cQ (aa (af 3) ag)) (cw 7) bg) (bF (af 6))))))))
noncomputable def cU:FD:=fun ds M=>eX M.length (cH 10 bK ds M)
theorem jd (T:TX P w K mg base):Ok P w K mg base "_law_picture" 2 2 cU:=k9 (F:=cH 10 bK) <| gn (gk T.f 1 rfl) ["tape","most","wide","high","hues","first","rows","k","way","row","begin","end"] dk rfl fun f _ A _ s H E nd hr=>by have:=h8 T;delta bK bU bg;repeat' walk_at "Q"
noncomputable def dF:GE:=(g2 aA (aG aY (aa (af 0) ag)) (aG aY (aa (g2 bJ (af 3) (g2 aA (af 4) (af 1))) ag)))
noncomputable def dB:GE:=(g2 aA (af 0) (g2 bJ (af 3) (g2 aA (af 4) (af 1))))
noncomputable def dD:GT:=(aJ (g2 (a8 false) (g2 aA (aG aY (aa (af 0) ag)) (aG aY (aa (g2 bJ (af 3) (g2 aA (af 4) (af 1))) ag))) (af 5)))
noncomputable def eD:GS:=(aj (aw 3 (aG gX (aa (bI (bt (af 0)) 2 (jY [0,1]) bD dF aC) ag))) (bF (aG gX (aa (bI (bt (af 0)) 2 (jY [0,1]) dD dB aC) ag))))
noncomputable def eA:FD:=cH 1 eD
theorem lW (T:TX P w K mg base):Ok P w K mg base "best_tail" 2 3 eA:=gn (gk T.f 2 rfl) ["parts","tails","at","fewest"] dk rfl fun f _ A _ s H E nd hr=>by have:=rn 27 17 ["text","many"] ["parts","tails","at","fewest"];have:=rn 28 15 ["text","many"] ["parts","tails","at","fewest"];delta eD dF dB dD;repeat' walk_at "Q"
noncomputable def fL:GE:=(g2 bJ (gC (.str "0123456789abcdefghijklmnopqrstuvwxyzABCDEFGHIJKLMNOPQRSTUVWXYZ+-")) (af 0))
noncomputable def gH:GS:=(bF (bu dt (gC (.str "")) (aQ (bt (af 0)) bD fL aC)))
noncomputable def cD:FD:=cH 0 gH
theorem iV (T:TX P w K mg base):Ok P w K mg base "signs_of" 1 1 cD:=gn (gk T.f 3 rfl) ["numbers"] dk rfl fun f _ A _ s H E nd hr=>by delta gH fL;repeat' walk_at "Q"
noncomputable def dn:GE:=(av 1 cD (aa (af 0) ag))
noncomputable def dM:GS:=(bF (bu dt (gC (.str "\n")) (aQ (bt (af 0)) bD dn aC)))
noncomputable def b9:FD:=cH 0 dM
theorem i7 (T:TX P w K mg base):Ok P w K mg base "picture_text" 2 1 b9:=gn (gk T.f 4 rfl) ["picture"] dk rfl fun f _ A _ s H E nd hr=>by have:=iV T;delta dM dn;repeat' walk_at "Q"
noncomputable def dA:GS:=(aj (aw 2 (cy (af 0) (aD (af 1)) (aD (g2 aA (af 1) (gC (.int 63)))))) (bF (g2 ek (aG aY (aa (af 2) ag)) (aG aY (aa (bu fo (af 2) (g2 bJ (af 0) (af 1))) ag)))))
noncomputable def dC:FD:=cH 1 dA
theorem ki (T:TX P w K mg base):Ok P w K mg base "many_alike" 1 2 dC:=gn (gk T.f 5 rfl) ["spots","at","rest"] dk rfl fun f _ A _ s H E nd hr=>by delta dA;repeat' walk_at "Q"
noncomputable def bL:GS:=(nc 3 true (gC (.int 1)))
noncomputable def bo:GT:=(cq (aJ (g2 i5 (af 3) (gC (.int 63)))) (cq (aJ (g2 i5 (g2 aA (af 2) (af 3)) (aG aY (aa (af 0) ag)))) (aJ (g2 (a8 false) (g2 bJ (af 0) (g2 aA (af 2) (af 3))) (g2 bJ (af 0) (g2 ek (g2 aA (af 2) (af 3)) (af 1)))))))
noncomputable def cC:GS:=(aj (fc (aJ (g2 i5 (af 2) (af 1))) (bF (gC (.int 0))) a9) (aj (aw 3 (gC (.int 0))) (aj (cg 5000 bo bL) (bF (af 3)))))
noncomputable def cz:FD:=cH 1 cC
theorem iE (T:TX P w K mg base):Ok P w K mg base "many_as_above" 1 3 cz:=gn (gk T.f 6 rfl) ["spots","wide","at","many"] dk rfl fun f _ A _ s H E nd hr=>by delta cC bL bo;repeat' walk_at "Q"
noncomputable def eL:GE:=(fT (aa (g2 aA (g2 aA (gC (.str "!")) (g2 bJ (gC (.str "0123456789abcdefghijklmnopqrstuvwxyzABCDEFGHIJKLMNOPQRSTUVWXYZ+-")) (af 0))) (cy (af 1) (aD (af 3)) (aD (g2 aA (af 3) (af 0))))) (aa (af 0) ag)))
noncomputable def en:GE:=(fT (aa (g2 aA (g2 aA (gC (.str "*")) (g2 bJ (gC (.str "0123456789abcdefghijklmnopqrstuvwxyzABCDEFGHIJKLMNOPQRSTUVWXYZ+-")) (af 0))) (g2 bJ (af 1) (af 3))) (aa (af 0) ag)))
noncomputable def eJ:GE:=(fT (aa (g2 aA (gC (.str "^")) (g2 bJ (gC (.str "0123456789abcdefghijklmnopqrstuvwxyzABCDEFGHIJKLMNOPQRSTUVWXYZ+-")) (af 0))) (aa (af 0) ag)))
noncomputable def dN:GS:=(aj (aw 3 (aQ (dR (aa (gC (.int 1)) (aa (g2 aA (aG jn (aa (gC (.int 63)) (aa (g2 ek (aG aY (aa (af 0) ag)) (af 2)) ag))) (gC (.int 1))) ag))) bD eL b0)) (aj (iT 3 (aQ (dR (aa (gC (.int 1)) (aa (g2 aA (av 2 dC (aa (af 0) (aa (af 2) ag))) (gC (.int 1))) ag))) bD en aC)) (aj (iT 3 (aQ (dR (aa (gC (.int 1)) (aa (g2 aA (av 3 cz (aa (af 0) (aa (af 1) (aa (af 2) ag)))) (gC (.int 1))) ag))) bD eJ aC)) (bF (af 3)))))
noncomputable def fm:FD:=fun ds M=>eX M.length (cH 1 dN ds M)
theorem mB (T:TX P w K mg base):Ok P w K mg base "parts_at" 2 3 fm:=k9 (F:=cH 1 dN) <| gn (gk T.f 7 rfl) ["spots","wide","at","told"] dk rfl fun f _ A _ s H E nd hr=>by have:=ki T;have:=iE T;delta dN eL en eJ;repeat' walk_at "Q"
noncomputable def dJ:GS:=(i9 (af 3) (af 4) (av 3 eA (aa (av 3 fm (aa (af 2) (aa (af 1) (aa (af 4) ag)))) (aa (af 3) (aa (af 4) ag)))))
noncomputable def eY:GS:=(aj (aw 1 (aG aY (aa (g2 bJ (af 0) (gC (.int 0))) ag))) (aj (aw 2 (rW "\n" "" (av 1 b9 (aa (af 0) ag)))) (aj (aw 3 (g2 sV (cY (aa (gC (.str "")) ag)) (g2 aA (aG aY (aa (af 2) ag)) (gC (.int 1))))) (aj (ij (mG (aa (aG aY (aa (af 2) ag)) ag)) (cw 4) dJ) (bF (g2 aA (av 1 cD (aa (cY (aa (af 1) (aa (aG aY (aa (af 0) ag)) ag))) ag)) (g2 bJ (af 3) (gC (.int 0)))))))))
noncomputable def g5:FD:=fun ds M=>eX M.length (cH 4 eY ds M)
theorem qT (T:TX P w K mg base):Ok P w K mg base "packed" 3 1 g5:=k9 (F:=cH 4 eY) <| gn (gk T.f 8 rfl) ["picture","wide","spots","tails","at"] dk rfl fun f _ A _ s H E nd hr=>by have:=lW T;have:=iV T;have:=i7 T;have:=mB T;delta eY dJ;repeat' walk_at "Q"
noncomputable def bi:GS:=(aw 4 (g2 aA (af 4) (af 5)))
noncomputable def bV:GS:=(aw 10 (g2 aA (af 10) (gC (.int 1))))
noncomputable def bw:GT:=(cq (aJ (g2 i5 (af 10) (af 9))) (aJ (g2 (a8 false) (g2 bJ (af 4) (g2 aA (af 8) (af 10))) (g2 bJ (af 4) (af 8)))))
noncomputable def bW:GS:=(aw 11 (g2 aA (af 11) (gC (.int 1))))
noncomputable def bA:GT:=(cq (aJ (g2 vD (af 8) (af 3))) (cq (aJ (g2 i5 (af 11) (af 9))) (aJ (g2 (a8 false) (g2 bJ (af 4) (g2 aA (af 8) (af 11))) (g2 bJ (af 4) (g2 ek (g2 aA (af 8) (af 11)) (af 3)))))))
noncomputable def bx:GE:=(g2 bJ (af 3) (af 0))
noncomputable def bz:GS:=(aj (aw 9 (aG jn (aa (gC (.int 63)) (aa (g2 ek (aG aY (aa (af 4) ag)) (af 8)) ag)))) (aj (aw 10 (gC (.int 1))) (aj (cg 5000 bw bV) (aj (aw 11 (gC (.int 0))) (aj (cg 5000 bA bW) (aj (aw 12 (g2 bJ (cY (aa (av 2 ao (aa (af 0) (aa (gC (.int 3)) ag))) (aa (gC (.int 1)) (aa (gC (.int 2)) ag)))) (af 6))) (aj (aw 13 (g2 bJ (cY (aa (g2 aA (gC (.int 1)) (av 2 ao (aa (af 0) (aa (af 9) ag)))) (aa (af 10) (aa (af 11) ag)))) (af 12))) (aj (fc (cq (aJ (g2 uT (af 13) (gC (.int 1)))) (aJ (g2 (a8 false) (av 2 ao (aa (af 0) (aa (gC (.int 2)) ag))) (gC (.int 0))))) (aw 13 (g2 aA (gC (.int 1)) (av 2 ao (aa (af 0) (aa (af 13) ag))))) a9) (aj (fc (aJ (g2 (a8 false) (af 13) (gC (.int 0)))) (aj (aw 12 (gC (.int 1))) (aw 13 (af 10))) a9) (aj (aw 14 (g2 bJ (cY (aa (cy (af 4) (aD (af 8)) (aD (g2 aA (af 8) (af 13)))) (aa (cy (af 4) (aD (af 8)) (aD (g2 aA (af 8) (gC (.int 1))))) (aa (cY ag) ag)))) (af 12))) (aj (aw 7 (g2 aA (g2 aA (g2 aA (af 7) (g2 bJ (gC (.str "!*^")) (af 12))) (g2 bJ (af 2) (af 13))) (bu dt (gC (.str "")) (aQ (bt (af 14)) bD bx aC)))) (aw 8 (g2 aA (af 8) (af 13))))))))))))))
noncomputable def bX:GT:=(aJ (g2 i5 (af 8) (aG aY (aa (af 4) ag))))
noncomputable def cW:GS:=(aj (aw 2 (gC (.str "0123456789abcdefghijklmnopqrstuvwxyzABCDEFGHIJKLMNOPQRSTUVWXYZ+-"))) (aj (aw 3 (aG aY (aa (g2 bJ (af 1) (gC (.int 0))) ag))) (aj (aw 4 (cY ag)) (aj (ij (bt (af 1)) (cw 5) bi) (aj (aw 6 (av 2 ao (aa (af 0) (aa (gC (.int 3)) ag)))) (aj (aw 7 (g2 aA (g2 bJ (af 2) (af 3)) (g2 bJ (af 2) (aG aY (aa (af 1) ag))))) (aj (aw 8 (gC (.int 0))) (aj (cg 5000 bX bz) (bF (af 7))))))))))
noncomputable def cT:FD:=cH 13 cW
theorem i4 (T:TX P w K mg base):Ok P w K mg base "_law_packing" 2 2 cT:=gn (gk T.f 9 rfl) ["tape","picture","signs","wide","spots","row","lean","text","at","left","alike","above","way","many","told"] dk rfl fun f _ A _ s H E nd hr=>by have:=h8 T;delta cW bi bV bw bW bA bx bz bX;repeat' walk_at "Q"
noncomputable def eQ:GE:=(bu jm (gC (.str "0123456789abcdefghijklmnopqrstuvwxyzABCDEFGHIJKLMNOPQRSTUVWXYZ+-")) (af 0))
noncomputable def fh:GS:=(aj (aw 1 (aQ (bt (af 0)) bD eQ aC)) (aj (fc (aJ (g2 xJ (kb (gC (.int 1))) (af 1))) (cr "NoText" (gC (.str "there is a sign that writes no number"))) a9) (bF (af 1))))
noncomputable def aO:FD:=cH 1 fh
theorem eP (T:TX P w K mg base):Ok P w K mg base "read_signs" 1 1 aO:=gn (gk T.f 10 rfl) ["text","numbers"] dk rfl fun f _ A _ s H E nd hr=>by delta fh eQ;repeat' walk_at "Q"
noncomputable def bO:GE:=(uQ vW vW (gC (.int 1)) (af 0) (gC (.int 40)))
noncomputable def ey:GS:=(aj (aw 1 (av 1 aO (aa (af 0) ag))) (aj (fc (fF (aJ (g2 (a8 true) (aG aY (aa (af 1) ag)) (gC (.int 2)))) (eR (ir (aG kg (aa (aQ (bt (af 1)) bD bO aC) ag))))) (cr "NoText" (gC (.str "a picture has 1 to 40 rows of 1 to 40 spots"))) a9) (bF (af 1))))
noncomputable def dh:FD:=cH 1 ey
theorem lP (T:TX P w K mg base):Ok P w K mg base "read_size" 2 1 dh:=gn (gk T.f 11 rfl) ["text","numbers"] dk rfl fun f _ A _ s H E nd hr=>by have:=eP T;delta ey bO;repeat' walk_at "Q"
noncomputable def gj:GS:=(aj (fc (aJ (g2 (a8 true) (aG aY (aa (af 0) ag)) (af 1))) (cr "NoText" (gC (.str "the text ends amid a part"))) a9) (bF (af 0)))
noncomputable def bY:FD:=cH 0 gj
theorem jz (T:TX P w K mg base):Ok P w K mg base "exactly" 1 2 bY:=gn (gk T.f 12 rfl) ["numbers","many"] dk rfl fun f _ A _ s H E nd hr=>by delta gj;repeat' walk_at "Q"
noncomputable def dG:GS:=(aj (aw 1 (g2 bJ (av 2 bY (aa (av 1 aO (aa (af 0) ag)) (aa (gC (.int 1)) ag))) (gC (.int 0)))) (aj (fc (aJ (g2 (a8 false) (af 1) (gC (.int 0)))) (cr "NoText" (gC (.str "a count is 1 or more"))) a9) (bF (af 1))))
noncomputable def dz:FD:=cH 1 dG
theorem km (T:TX P w K mg base):Ok P w K mg base "read_count" 2 1 dz:=gn (gk T.f 13 rfl) ["text","number"] dk rfl fun f _ A _ s H E nd hr=>by have:=eP T;have:=jz T;delta dG;repeat' walk_at "Q"
noncomputable def cn:GS:=(dj (iY (af 3) (g2 bJ (af 3) (kb (af 2)))))
noncomputable def eG:GS:=(aj (aw 4 (g2 bJ (af 0) (af 1))) (aj (aw 5 (av 1 dz (aa (cy (af 0) (aD (g2 aA (af 1) (gC (.int 1)))) (aD (g2 aA (af 1) (gC (.int 2))))) ag))) (aj (aw 6 (g2 aA (af 1) (gC (.int 2)))) (aj (fc (aJ (g2 (a8 false) (af 4) (gC (.str "!")))) (aj (dj (nM iL (af 3) (aa (av 2 bY (aa (av 1 aO (aa (cy (af 0) (aD (af 6)) (aD (g2 aA (af 6) (af 5)))) ag)) (aa (af 5) ag))) ag))) (bF (g2 aA (af 6) (af 5)))) a9) (aj (fc (aJ (g2 (a8 false) (af 4) (gC (.str "*")))) (aj (dj (nM iL (af 3) (aa (g2 ka (av 2 bY (aa (av 1 aO (aa (cy (af 0) (aD (af 6)) (aD (g2 aA (af 6) (gC (.int 1))))) ag)) (aa (gC (.int 1)) ag))) (af 5)) ag))) (bF (g2 aA (af 6) (gC (.int 1))))) a9) (aj (fc (fF (aJ (g2 (a8 true) (af 4) (gC (.str "^")))) (aJ (g2 i5 (aG aY (aa (af 3) ag)) (af 2)))) (cr "NoText" (gC (.str "there is no such part, or nothing above its spots"))) a9) (aj (ij (cQ (aa (af 5) ag)) (cw 7) cn) (bF (af 6)))))))))
noncomputable def eI:FD:=cH 4 eG
theorem lO (T:TX P w K mg base):Ok P w K mg base "read_part" 3 4 eI:=gn (gk T.f 14 rfl) ["text","at","wide","hues","word","many","begin","step"] dk rfl fun f _ A _ s H E nd hr=>by have:=eP T;have:=jz T;have:=km T;delta eG cn;repeat' walk_at "Q"
noncomputable def b7:GS:=(aw 4 (av 4 eI (aa (af 0) (aa (af 4) (aa (af 1) (aa (af 3) ag))))))
noncomputable def cb:GT:=(aJ (g2 i5 (af 4) (aG aY (aa (af 0) ag))))
noncomputable def eo:GE:=(cy (af 4) (aD (g2 fD (af 0) (af 2))) (aD (g2 fD (g2 aA (af 0) (gC (.int 1))) (af 2))))
noncomputable def dY:GS:=(aj (fc (eR (ir (k7 "str" (af 0)))) (cr "NoText" (gC (.str "that is no text"))) a9) (aj (jL (uh [1,2]) (av 1 dh (aa (cy (af 0) bT (aD (gC (.int 2)))) ag))) (aj (aw 3 (jc ag)) (aj (aw 4 (gC (.int 2))) (aj (cg 5000 cb b7) (aj (fc (aJ (g2 (a8 true) (aG aY (aa (af 3) ag)) (g2 fD (af 1) (af 2)))) (cr "NoText" (gC (.str "the parts lay more or fewer spots than there are"))) a9) (bF (aQ (cQ (aa (af 2) ag)) bD eo aC))))))))
noncomputable def gG:FD:=fun ds M=>eX M.length (cH 4 dY ds M)
theorem m5 (T:TX P w K mg base):Ok P w K mg base "unpacked" 4 1 gG:=k9 (F:=cH 4 dY) <| gn (gk T.f 15 rfl) ["text","wide","high","hues","at"] dk rfl fun f _ A _ s H E nd hr=>by have:=lP T;have:=lO T;delta dY b7 cb eo;repeat' walk_at "Q"
noncomputable def lz:GE:=(aG fU (aa (af 0) ag))
noncomputable def jM:GS:=(aj (aw 6 (av 2 cT (aa (af 1) (aa (af 3) ag)))) (fc (fF (aJ (g2 (a8 true) (av 1 gG (aa (af 6) ag)) (af 3))) (fF (aJ (g2 i5 (aG aY (aa (af 6) ag)) (aG aY (aa (af 4) ag)))) (cq (aJ (g2 (a8 false) (aG aY (aa (af 6) ag)) (aG aY (aa (af 4) ag)))) (aJ (g2 CL (af 6) (af 4)))))) (bF (gC (.bl false))) a9))
noncomputable def jZ:GS:=(aj (aw 3 (av 2 cU (aa (af 1) (aa (gC (.int 10)) ag)))) (aj (aw 4 (av 1 g5 (aa (aQ (bt (af 3)) bD lz aC) ag))) (ij (cQ (aa (gC (.int 6)) ag)) (cw 5) jM)))
noncomputable def oS:GS:=(aj (aw 1 (jc (aa (aG fU (aa (af 0) ag)) (aa (gC (.int 0)) (aa (gC (.int 0)) ag))))) (aj (ij (cQ (aa (gC (.int 3)) ag)) (cw 2) jZ) (bF (gC (.bl true)))))
noncomputable def pc:FD:=cH 6 oS
theorem yy (T:TX P w K mg base){f:Addr}{fd:FuncData}(F:Fn K mg "law" xo f fd ["script"]):eW P w K mg base (iX P w) 5 f fd ["script"] (oA K 1 pc):=BA F.F (N:=["script","tape","turn","picture","least","k","text"]) dk rfl fun _ A _ s H E hr=>by
 have nd:(["script","tape","turn","picture","least","k","text"]:List Str).Nodup:=by decide +kernel
 have:=jd T;have:=qT T;have:=i4 T;have:=m5 T;delta oS lz jM jZ;repeat' walk_at "Q"
end
end K39
section
open PySem PySem.W PyProof.Rows
noncomputable abbrev K39.VV:Program:=(view PySem.Challenge.pw_glowrow_k39_whole_any_packing_read [1,2,4,5,6,7,9,10,11,12,13,14,15,16,17,18,19,21,22,23,24])
set_option maxHeartbeats 0 in
theorem K39.h1:∀(w:World) (os:OsState),(Hd.RT (OpenLaw.row PySem.Challenge.rw_glowrow_k39_whole_any_packing_read).prog w 2002 os).map (fun s=>Hd.pA (OpenLaw.row PySem.Challenge.rw_glowrow_k39_whole_any_packing_read).prog w.params s.abs&&Hd.pB K39.VV (importedModules (OpenLaw.row PySem.Challenge.rw_glowrow_k39_whole_any_packing_read).prog.main.body) (fun s=>xlAt K39.VV [] s&&recOk (RowW.records (OpenRow.toRowW (OpenLaw.row PySem.Challenge.rw_glowrow_k39_whole_any_packing_read))) s) s.abs)=some true:=by
 intro w os;unfold Hd.RT;rw[W.Fast.te15732481512506401174,W.Fast.te2530740449226627131,W.Fast.te13930993214811372802];kernel_rfl
set_option maxHeartbeats 0 in
theorem K39.h2:∀(w:World) (os:OsState),(Hd.RT (OpenLaw.row PySem.Challenge.rw_glowrow_k39_whole_any_packing_read).prog w 2002 os).map (fun s=>Hd.pC K39.VV s.abs)=some (expectedOf K39.VV,bltViewBooted,wideGood K39.VV):=by
 intro w os;unfold Hd.RT;rw[W.Fast.te15732481512506401174,W.Fast.te2530740449226627131,W.Fast.te7338995916957470747];kernel_rfl
set_option maxHeartbeats 0 in
theorem K39.h3:∀(w:World) (os:OsState),(Hd.RT (OpenLaw.row PySem.Challenge.rw_glowrow_k39_whole_any_packing_read).prog w 2002 os).map (fun s=>Hd.pD K39.VV s.abs)=some (pinGoodD (drecsOf K39.VV),plainGoodE K39.VV (looseW K39.VV []),plainGoodD K39.VV [],clsGoodW K39.VV []):=by
 intro w os;unfold Hd.RT;rw[W.Fast.te15732481512506401174,W.Fast.te2530740449226627131,W.Fast.te4913325751328045840];kernel_rfl
local macro_rules | `(tactic| o_head $H) => `(tactic| (
 refine holds_open (q:=K39.VV) (loose:=[]) (Xt:=(fun s=>xlAt K39.VV [] s&&recOk (RowW.records (OpenRow.toRowW (OpenLaw.row PySem.Challenge.rw_glowrow_k39_whole_any_packing_read))) s)) (XP:=XL K39.VV []) (Yf:=Hook.obs $H) (Ya:=Hook.val $H) (YP:=Hook.says $H) (N:=2002) ?hl (Hook.of $H) (Hook.keeps $H) (fun s e=>xl_of s (Bool.and_eq_true_iff.mp e).1) XL.keeps (by rfl) (by rfl) (by rfl) (fun s e=>recFacts_of (Bool.and_eq_true_iff.mp e).2) (by rfl) (by first|assumption|decide +kernel) (by decide +kernel) ⟨rfl,rfl,rfl,rfl,rfl,by decide +kernel⟩ ?hw ?hc;
 (case hl=>
  refine Hd.left_k (boot_open (by kernel_rfl) rfl (fun s=>by kernel_rfl)) (fun w=>by kernel_rfl) K39.h1 K39.h2 K39.h3 ?_;intro w os;unfold Hd.RT;rw[W.Fast.te15732481512506401174,W.Fast.te2530740449226627131];kernel_rfl)))
set_option hygiene false
local macro_rules | `(tactic| walk_at "us") => `(tactic| first | rfl | (exfalso; simp at hl; done) | (cases us with | nil => (first | rfl | cases hl) | cons _ us => walk_at "us"))
local macro_rules | `(tactic| walk_at "kc") => `(tactic| refine' DL.kc_mk KX G ?y0 ?y1 ?y2 ?y3 ?y4 ?y5 ?y6; (case y0 => k_is); (case y1 => k_is); (case y2 => k_is); (case y3 => k_is); (case y4 => k_is); (case y5 => k_is); (case y6 => k_is))
local macro_rules | `(tactic| walk_at "ec") => `(tactic| refine' DL.Bd KX G ?w0 ?w1 ?w2 ?w3 ?w4 ?w5 ?w6 ?w7 ?w8 ?w9 ?w10 ?w11; (case w0 => k_is); (case w1 => k_is); (case w2 => k_is); (case w3 => k_is); (case w4 => k_is); (case w5 => k_is); (case w6 => k_is); (case w7 => k_is); (case w8 => k_is); (case w9 => k_exc); (case w10 => k_is); (case w11 => k_is))
local macro_rules | `(tactic| walk_at "ff") => `(tactic| (refine' DL.BC KX G ?x0 ?x1 ?x2 ?x3 ?x4; (case x0 => k_is); (case x1 => k_is); (case x2 => k_is); (case x3 => k_is); (case x4 => (intro _ _ _ _ _ _ us hl; walk_at "us"))))
local macro_rules | `(tactic| walk_at "mf") => `(tactic| (refine' DL.mf_mk ?x0 ?x1 ?x2 ?x3 ?x4 ?x5 ?x6; (case x0 => walk_at "kc"); (case x1 => k_is); (case x2 => k_is); (case x3 => k_is); (case x4 => k_is); (case x5 => k_is); (case x6 => (intro _ _ _ _ _ _ us hl; walk_at "us"))))
local macro_rules | `(tactic| walk_at "im") => `(tactic| (refine' DL.im_mk ?v0 ?v1; (case v0 => walk_at "ec"); (case v1 => k_is)))
set_option maxRecDepth 100000 in
set_option maxHeartbeats 0 in
theorem K39.pre (ht:∀ns:List Int,ns.length≤63→∃M',K39.pc [.ro (ns.map DL.D.int)] []=.ok (.bl true) M'):PySem.Challenge.rw_glowrow_k39_whole_any_packing_read.Holds:=by
 w_on;o_law;k_head;(case hw=>w_witness2)
 k_fill
 refine DL.ya (l:=PySem.Challenge.rw_glowrow_k39_whole_any_packing_read) (n:=63) (k:=5) (x:="script") (F:=K39.pc) rfl (by decide) rfl ⟨rfl,by decide,by decide⟩ (fun w h Y=>W.kIn_of Y) ?F ?t1 ?t2 ?t3 ?t4 ht
 case F=>
  intro w mg fa h KX G hmg;refine DL.zO (st:=K39.xo) hmg ?L (fun base f fd L=>K39.yy ?TT L) (fun _ _ _ _ _ _ _=>rfl)
  (case TT=>
   refine DL.Tx.mk ?q0 ?q1 ?q2 ?q3 ?q4 ?q5 ?q6 ?q7 ?q8 ?q9
   (case q0=>((repeat (refine' DL.Ls.cons ?x ?_;(case x=>(walk_at "ff"))));exact DL.Ls.nil))
   (case q1=>((repeat (refine' DL.Ls.cons ?x ?_;(case x=>(walk_at "mf"))));exact DL.Ls.nil))
   (case q2=>((repeat (refine' DL.Ls.cons ?x ?_;(case x=>(walk_at "lf"))));exact DL.Ls.nil))
   (case q3=>((repeat (refine' DL.Ls.cons ?x ?_;(case x=>(refine' DL.Er KX G ?x0;(case x0=>k_is)))));exact DL.Ls.nil))
   (case q4=>((repeat (refine' DL.Ls.cons ?x ?_;(case x=>(refine' DL.Ca ?x0;(case x0=>walk_at "ec")))));exact DL.Ls.nil))
   (case q5=>((repeat (refine' DL.Ls.cons ?x ?_;(case x=>(refine' DL.A1 ?u0 ?u1;(case u0=>walk_at "ec");(case u1=>((repeat (refine' DL.Ls.cons ?u2 ?_;(case u2=>walk_at "im")));exact DL.Ls.nil))))));exact DL.Ls.nil))
   (case q6=>((repeat (refine' DL.Ls.cons ?x ?_;(case x=>(walk_at "im"))));exact DL.Ls.nil))
   (case q7=>((repeat (refine' DL.Ls.cons ?x ?_;(case x=>(refine' DL.Cg ?x0 ?x1;(case x0=>walk_at "kc");(case x1=>k_is)))));exact DL.Ls.nil))
   (case q8=>((repeat (refine' DL.Ls.cons ?x ?_;(case x=>(refine' DL.BP (u:=PySem.Value.str _) KX G ?x0;(case x0=>k_is)))));exact DL.Ls.nil))
   (case q9=>((repeat (refine' DL.Ls.cons ?x ?_;(case x=>(refine' DL.BP (u:=PySem.Value.int _) KX G ?x0;(case x0=>k_is)))));exact DL.Ls.nil)))
  (case L=>walk_at "ff")
 case t1=>(intro w;k_is)
 case t2=>(intro w;k_is)
 case t3=>(intro w;k_is)
 case t4=>(intro w;k_is)
end
namespace K39
open PySem PySem.Spec PyProof.Rows L2 DL List
local macro_rules | `(tactic| simp_arith [$args,*] $[$loc]?) => `(tactic| first | (dsimp only [aF.bind, aj, aw, fc, bF, i9, dj, a9, jL, af, gC, DL.g2, av, aG, aa, ag, aJ, AT, ir, wB, fF, cq, eR, fT, cY, jc, jr, aC, b0, kb, uQ, k7, Dj, n5, aT, cH, iI, rK, aA, ek, fD, jH, jk, nB, i5, vW, uT, vD, ot, bH, aY, jn, j4, kg, kP, cQ, dR, cw, jY, fW, aD, bT, iK, mR, dU, bD, cr, iW, qf, iY, t8, wF, ja, nc, tW, oF, bu, jm, dt, bJ, xJ, bt, oB, fU, nM, nF] $[$loc]?; simp [aj, aw, fc, bF, i9, dj, a9, jL, af, gC, DL.g2, av, aG, aa, ag, aJ, AT, ir, wB, fF, cq, eR, fT, cY, jc, jr, aC, b0, kb, uQ, k7, Dj, n5, aT, cH, iI, rK, aA, ek, fD, jH, jk, nB, i5, vW, uT, vD, ot, bH, aY, jn, j4, kg, kP, cQ, dR, cw, jY, fW, aD, bT, iK, mR, dU, bD, cr, iW, qf, iY, t8, wF, ja, nc, tW, oF, bu, jm, dt, bJ, xJ, bt, oB, fU, nM, nF, $args,*] $[$loc]?) | simp [aj, aw, fc, bF, i9, dj, a9, jL, af, gC, DL.g2, av, aG, aa, ag, aJ, AT, ir, wB, fF, cq, eR, fT, cY, jc, jr, aC, b0, kb, uQ, k7, Dj, n5, aT, cH, iI, rK, aA, ek, fD, jH, jk, nB, i5, vW, uT, vD, ot, bH, aY, jn, j4, kg, kP, cQ, dR, cw, jY, fW, aD, bT, iK, mR, dU, bD, cr, iW, qf, iY, t8, wF, ja, nc, tW, oF, bu, jm, dt, bJ, xJ, bt, oB, fU, nM, nF, $args,*] $[$loc]?)
noncomputable def tp (l:List Int)(i c:Int):MO:=.lst [.lst (l.map D.int),.int i,.int c]
noncomputable def bG (l:List Int)(rest:ax)(M:ax):Prop:=∃i c,0≤i∧M=tp l i c::rest
noncomputable def mU (v i:Int):Int:=
 ((((v+1000003*i) % 2305843009213693951*((v+1000003*i) % 2305843009213693951)+1181783497276652981*((v+1000003*i) % 2305843009213693951)+2049848353892358983) % 2305843009213693951) *
  (((v+1000003*i) % 2305843009213693951*((v+1000003*i) % 2305843009213693951)+1181783497276652981*((v+1000003*i) % 2305843009213693951)+2049848353892358983) % 2305843009213693951)+1442695040888963407) % 2305843009213693951
theorem se {l:List Int}{k:Int}(h0:0≤k)(h1:k<l.length):∃v,j6 (l.map D.int) k=some (.int v):=by
 obtain⟨n,rfl⟩:=Int.eq_ofNat_of_zero_le h0;have hn:n<l.length:=by omega
 exact⟨l[n],gd (by simp[hn])⟩
set_option maxRecDepth 100000 in
theorem bR {l:List Int}{rest M:ax}{many:Int}(hm:0<many)(hlog:many.natAbs.log2<9000)(h:bG l rest M) :
  ∃f M',0≤f∧f<many∧bG l rest M'∧ao [.mr 0,.int many] M=.ok (.int f) M':=by
 obtain⟨i,c,hi,rfl⟩:=h;have hp:(0:Int)<2305843009213693951:=by decide
 have fin:∀c' i',0≤i'→∃f M',0≤f∧f<many∧bG l rest M'∧(aF.ok (D.int (c' % many)) (tp l i' (c' / many)::rest):aF D)=.ok (.int f) M':=fun c' i' hi'=>
  ⟨c' % many,_,Int.emod_nonneg _ (by omega),Int.emod_lt_of_pos _ hm,⟨i',c' / many,hi',rfl⟩,rfl⟩
 have i0:nW 3 0=some 0:=by decide
 have i1:nW 3 1=some 1:=by decide
 have i2:nW 3 2=some 2:=by decide
 have a0:∀x y z:D,j6 [x,y,z] 0=some x:=fun _ _ _=>rfl
 have a1:∀x y z:D,j6 [x,y,z] 1=some y:=fun _ _ _=>rfl
 have a2:∀x y z:D,j6 [x,y,z] 2=some z:=fun _ _ _=>rfl
 have b1:∀x:Int,-18446744073709551616<x % 2305843009213693951∧x % 2305843009213693951<18446744073709551616:=fun x=>by
  have h0:=Int.emod_nonneg x (show(2305843009213693951:Int)≠0 by decide);have h1:=Int.emod_lt_of_pos x hp;omega
 by_cases h1:c<many
 ·by_cases hl:l=[]
  ·subst hl;have e:ao [.mr 0,.int many] (tp [] i c::rest)=.ok (.int (mU 0 i % many)) (tp [] (i+1) (mU 0 i / many)::rest):=by
    unfold ao cE;simp_arith [mU,tp,a0,a1,a2,i0,i1,i2,h1,hm,hlog,hi,b1]
   rw[e];exact fin _ _ (by omega)
  ·have hl0:0<l.length:=length_pos_iff.mpr hl;obtain⟨v,hv⟩:=se (l:=l) (k:=i % l.length) (Int.emod_nonneg _ (by omega)) (Int.emod_lt_of_pos _ (by omega))
   by_cases h2:(l.length:Int)≤i∨v<1000000000000000000
   ·have e:ao [.mr 0,.int many] (tp l i c::rest)=.ok (.int (mU v i % many)) (tp l (i+1) (mU v i / many)::rest):=by
     unfold ao cE;rcases h2 with h2|h2
     ·simp_arith [mU,tp,a0,a1,a2,i0,i1,i2,h1,h2,hm,hlog,hi,b1,hl0,hv]
     ·by_cases h3:(l.length:Int)≤i
      ·simp_arith [mU,tp,a0,a1,a2,i0,i1,i2,h1,h2,h3,hm,hlog,hi,b1,hl0,hv]
      ·simp_arith [mU,tp,a0,a1,a2,i0,i1,i2,h1,h2,h3,hm,hlog,hi,b1,hl0,hv]
    rw[e];exact fin _ _ (by omega)
   ·have h3:¬(l.length:Int)≤i:=fun z=>h2 (.inl z)
    have h4:¬v<1000000000000000000:=fun z=>h2 (.inr z)
    have e:ao [.mr 0,.int many] (tp l i c::rest)=.ok (.int (v % many)) (tp l (i+1) (v / many)::rest):=by
     unfold ao cE;simp_arith [tp,a0,a1,a2,i0,i1,i2,h1,h3,h4,hm,hlog,hi,b1,hl0,hv]
    rw[e];exact fin _ _ (by omega)
 ·have e:ao [.mr 0,.int many] (tp l i c::rest)=.ok (.int (c % many)) (tp l i (c / many)::rest):=by
   unfold ao cE;simp_arith [tp,a0,a1,a2,i0,i1,i2,h1,hm,hlog]
  rw[e];exact fin _ _ hi
noncomputable def df:Str:="0123456789abcdefghijklmnopqrstuvwxyzABCDEFGHIJKLMNOPQRSTUVWXYZ+-"
theorem oT:df.cps.toList.length=64:=by decide +kernel
noncomputable def eh (k:Int):Str:=⟨#[df.cps.toList.getD k.toNat 0]⟩
theorem yH {k:Int}(h0:0≤k)(h1:k<64):j6 df.cps.toList k=some (df.cps.toList.getD k.toNat 0):=by
 obtain⟨n,rfl⟩:=Int.eq_ofNat_of_zero_le h0;have hn:n<df.cps.toList.length:=by rw[oT];omega
 refine gd ?_;rw[Int.toNat_natCast,List.getD,getElem?_eq_getElem hn];rfl
theorem qw:df.length≤sizeLine:=by
 have:df.length=64:=by decide +kernel
 rw[this];exact ba (by decide)
theorem f7 {α:Type}(f:α→Str):∀xs:List α,fH (xs.map fun x=>D.str (f x))=some (xs.map f)
 | []=>rfl
 | x::xs=>by
  show(fH (xs.map fun x=>D.str (f x))).map (f x::·)=_;rw[f7 f xs];rfl
theorem mZ {sep:Str}{ys:List Str}{n:Nat}(hy:∀y∈ys,y.length≤n)(h:ys.length*n+ys.length*sep.length≤16777216):JoinOk sep ys=true:=by
 unfold JoinOk;rw[StrLaws.joinFits hy h];rfl
noncomputable def ai (ks:List Int):Str:=Txt.join "" (ks.map eh)
theorem ia (k:Int):(eh k).length=1:=rfl
theorem fY {k:Int}{M:ax}(h0:0≤k)(h1:k<64):bJ (.str df) (.int k) M=.ok (.str (eh k)) M:=by
 have e:=yH h0 h1;unfold bJ;dsimp only;rw[if_pos qw,e];rfl
theorem jF {ks:List Int}(hk:∀k∈ks,0≤k∧k<64)(hl:ks.length≤1000):JoinOk "" (ks.map eh)=true:=by
 refine mZ (n:=1) (fun y hy=>?_) ?_
 ·obtain⟨k,_,rfl⟩:=mem_map.mp hy;exact Nat.le_of_eq (ia k)
 ·have:("":Str).length=0:=by decide +kernel
  rw[this,length_map];omega
theorem kL {ks:List Int}{M:ax}(hk:∀k∈ks,0≤k∧k<64)(hl:ks.length≤1000):cD [.lst (ks.map D.int)] M=.ok (.str (ai ks)) M:=by
 have c:=fM (ds0:=ks.map D.int) (ge:=fL) (ρ:=[some (.lst (ks.map D.int))]) (f:=fun d=>match d with | .int k=>.str (eh k)|d=>d) (M:=M) (ks.map D.int) fun d hd=>by
  obtain⟨k,hk',rfl⟩:=mem_map.mp hd;have e:=fY (M:=M) (hk k hk').1 (hk k hk').2;unfold df at e;show g2 bJ _ _ _ _=_;unfold DL.g2 gC af;exact e
 rw[map_map] at c;have ec:(List.map ((fun d=>match d with | .int k=>D.str (eh k)|d=>d) ∘ D.int) ks)=ks.map fun k=>D.str (eh k):=map_congr_left fun _ _=>rfl
 rw[ec] at c;have l1:ks.length≤sizeLine:=ba (by omega);have s1:=f7 eh ks;have j1:=jF hk hl;unfold cD gH ai;simp[aQ,c,l1,s1,j1,bF,bu,dt,gC,bt,oB,kP,af,cH,iI,aT,aC,iW,ah]
noncomputable def au (c:Nat):Int:=Txt.find df ⟨#[c]⟩
noncomputable def bj (x:Str):List Int:=x.cps.toList.map au
theorem xg (ks:List Int):((ks.map D.int).any fun y=>kR y (.int (-1)))=ks.any (·==-1):=by
 rw[any_map];rfl
theorem kS:∀ks:List Int,(ks.map D.int).all dU=true
 | []=>rfl
 | k::ks=>by rw[map_cons,all_cons,kS ks];rfl
theorem uK {x:Str}{M:ax}(hx:x.cps.size≤100000) :
  aO [.str x] M=if(bj x).any (·==-1) then .err "NoText" M else .ok (.lst ((bj x).map D.int)) M:=by
 have c:=fM (ds0:=dq x) (ge:=eQ) (ρ:=[some (.str x),none]) (f:=fun d=>match d with | .str ⟨cs⟩=>.int (Txt.find df ⟨cs⟩)|d=>d) (M:=M) (dq x) fun d hd=>by
  obtain⟨n,_,rfl⟩:=mem_map.mp hd;rfl
 have ec:(dq x).map (fun d=>match d with | .str ⟨cs⟩=>.int (Txt.find df ⟨cs⟩)|d=>d)=(bj x).map D.int:=by
  unfold dq bj;rw[map_map,map_map];exact map_congr_left fun _ _=>rfl
 rw[ec] at c;have l0:(bj x).length=x.cps.size:=by simp[bj]
 have l1:(bj x).length≤sizeLine:=by rw[l0];exact ba (by omega)
 have f1:=kS (bj x);have a1:=xg (bj x);have i1:xJ (.int (-1)) (.lst ((bj x).map D.int)) M=.ok (.bl ((bj x).any (·==-1))) M:=by
  unfold xJ;dsimp only;unfold mR;show(if dU (.int (-1))&&((bj x).map D.int).all dU then aF.ok (D.bl ((((bj x).map D.int).any fun y=>kR y (.int (-1))) != false)) M else .bad)=_;rw[f1,a1];simp[dU]
 generalize (bj x).any (·==-1)=b at i1 ⊢;unfold aO fh;cases b <;> simp[aQ,c,l1,i1,aj,aw,fc,bF,a9,cr,aJ,AT,DL.g2,kb,gC,bt,oB,af,cH,iI,aT,aC,ah]
theorem nu:∀ks:List Int,((ks.map eh).map (·.length)).sum=ks.length
 | []=>rfl
 | k::ks=>by
  rw[map_cons,map_cons,sum_cons,nu ks,ia,length_cons];omega
theorem mI (ks:List Int):(ai ks).length≤ks.length:=by
 have h:=StrLaws.join_length_le "" (ks.map eh);have z:("":Str).length=0:=by decide +kernel
 rw[z,Nat.mul_zero,Nat.add_zero,nu] at h;unfold ai Txt.join;rw[StrLaws.glued_eq_join];exact h
noncomputable def eK (rs:List (List Int)):Str:=Txt.join "\n" (rs.map ai)
noncomputable def am (rs:List (List Int)):List D:=rs.map fun r=>D.lst (r.map D.int)
theorem nG {rs:List (List Int)}{M:ax}(hr:∀r∈rs,r.length≤40∧∀k∈r,0≤k∧k<64)(hl:rs.length≤40):b9 [.lst (am rs)] M=.ok (.str (eK rs)) M:=by
 have c:=fM (ds0:=am rs) (ge:=dn) (ρ:=[some (.lst (am rs))]) (f:=fun d=>match d with | .lst xs=>.str (ai (xs.map fun d=>match d with | .int k=>k|_=>0))|d=>d) (M:=M) (am rs) fun d hd=>by
  obtain⟨r,hr',rfl⟩:=mem_map.mp hd;have e:=kL (M:=M) (hr r hr').2 (by have:=(hr r hr').1;omega);have er:(r.map D.int).map (fun d=>match d with | .int k=>k|_=>(0:Int))=r:=by rw[map_map];exact map_id' _ |>.symm▸rfl
  show cD [.lst (r.map D.int)] M=.ok (.str (ai ((r.map D.int).map fun d=>match d with | .int k=>k|_=>0))) M;rw[er,e]
 have em:(am rs).map (fun d=>match d with | .lst xs=>D.str (ai (xs.map fun d=>match d with | .int k=>k|_=>0))|d=>d)=rs.map fun r=>D.str (ai r):=by
  unfold am;rw[map_map];refine map_congr_left fun r _=>?_
  show D.str (ai ((r.map D.int).map fun d=>match d with | .int k=>k|_=>0))=_;rw[map_map];congr 2;exact map_id'' (fun _=>rfl) r
 rw[em] at c;have l0:(am rs).length=rs.length:=length_map ..;have s1:=f7 ai rs;have j1:JoinOk "\n" (rs.map ai)=true:=by
  refine mZ (n:=40) (fun y hy=>?_) ?_
  ·obtain⟨r,hr',rfl⟩:=mem_map.mp hy;exact Nat.le_trans (mI r) (hr r hr').1
  ·have:("\n":Str).length=1:=by decide +kernel
   rw[this,length_map];omega
 have lb:(rs.map fun r=>D.str (ai r)).length≤sizeLine:=by rw[length_map];exact ba (by omega)
 generalize rs.map (fun r=>D.str (ai r))=bd at *;generalize am rs=rd at *;unfold b9 dM eK;simp[aQ,c,lb,s1,j1,bF,bu,dt,gC,bt,oB,kP,af,cH,iI,aT,aC,iW,ah]
theorem td {x y:Str}(h:Builtin.Str.occurrences x y 0 x.length 1=[]):Txt.find x y=-1:=by simp[Txt.find,h]
theorem qA {x y:Str}{i:Nat}{r:List Nat}(h:Builtin.Str.occurrences x y 0 x.length 1=i::r):Txt.find x y=(i:Int):=by simp[Txt.find,h]
noncomputable def fb (x:Str):Prop:=∀c∈x.cps.toList,c<0x110000
theorem g6 {x:Str}(h:fb x):PyData.strOk x=true:=by
 unfold PyData.strOk;rw[←Array.all_toList,all_eq_true];intro c hc;exact decide_eq_true (h c hc)
theorem cA {a b:Str}(h:a.cps.toList=b.cps.toList):a=b:=Str.ext' (Array.toList_inj.mp h)
theorem lZ (sep:Str)(ps:List Str):Txt.join sep ps=Str.join sep ps:=StrLaws.glued_eq_join sep ps
theorem mj:∀ps:List Str,(Txt.join "" ps).cps.toList=(ps.map fun p=>p.cps.toList).flatten:=by
 intro ps;rw[lZ]
 induction ps with
 | nil=>rfl
 | cons p r ih=>
  cases r with
  | nil=>simp[Str.join]
  | cons q r=>
   show(p++""++Str.join "" (q::r)).cps.toList=_;simp only[Str.cps_append,Array.toList_append];rw[ih];simp only[map_cons,flatten_cons];have:(("":Str).cps.toList:List Nat)=[]:=by decide +kernel
   rw[this,append_nil]
theorem aK (x:Str):x.cps.toList.length=x.cps.size:=Array.length_toList
theorem fK {x:Str}{n c:Nat}(h:x.cps.toList[n]?=some c)(hx:x.cps.size≤90000)(M:ax):bJ (.str x) (.int n) M=.ok (.str ⟨#[c]⟩) M:=by
 have e:=gd (xs:=x.cps.toList) (j:=n) h;have hl:x.length≤sizeLine:=ba (show x.cps.size≤1000000 by omega);show(if x.length≤sizeLine then(match j6 x.cps.toList (n:Int) with|some c=>aF.ok (D.str ⟨#[c]⟩) M|none=>.bad) else .bad)=_;rw[if_pos hl,e]
theorem gV {c:Nat}(h:c<0x110000):fb ⟨#[c]⟩:=fun d hd=>by
 have hd:d∈[c]:=hd;rw[mem_singleton] at hd;rw[hd];exact h
theorem dQ {x:Str}(hx:x.cps.size≤90000)(M:ax):aY [.str x] M=.ok (.int x.cps.size) M:=by
 have hl:x.length≤sizeLine:=ba (show x.cps.size≤1000000 by omega);show(if x.length≤sizeLine then aF.ok (D.int x.length) M else .bad)=_;rw[if_pos hl];rfl
theorem E2 {a b:Str}(ha:fb a)(hb:fb b)(M:ax):a8 true (.str a) (.str b) M=.ok (.bl (!decide (a=b))) M:=by
 have h1:=g6 ha;have h2:=g6 hb;show(if(PyData.strOk a&&PyData.strOk b)=true then aF.ok (D.bl ((a==b) != true)) M else .bad)=_;rw[h1,h2]
 by_cases q:a=b <;> simp[q]
theorem E3 {a b:Str}(ha:fb a)(hb:fb b)(M:ax):a8 false (.str a) (.str b) M=.ok (.bl (decide (a=b))) M:=by
 have h1:=g6 ha;have h2:=g6 hb;show(if(PyData.strOk a&&PyData.strOk b)=true then aF.ok (D.bl ((a==b) != false)) M else .bad)=_;rw[h1,h2]
 by_cases q:a=b <;> simp[q]
theorem mV {x:Str}(h:(x.cps.toList.all fun c=>decide (c<0x110000))=true):fb x:=fun c hc=>of_decide_eq_true (all_eq_true.mp h c hc)
theorem uW {n k:Nat}(h:k<n):nW n (k:Int)=some k:=by
 unfold nW;rw[if_pos (by omega)];simp[h]
theorem k6 (M:ax)(E:List D):(M++[MO.lst E])[M.length]?=some (.lst E):=by simp
theorem lq (M:ax)(E E':List D):(M++[MO.lst E]).set M.length (.lst E')=M++[MO.lst E']:=by simp
theorem uf {F:List D→List D→Option (D×List D)}{go:GE}{ga:GA}{ρ:aZ}{M:ax}{k:Nat}{xs ds:List D}{r:D×List D}(h1:go ρ M=.ok (.mr k) M)(h2:nF M k=some xs)(h3:ga ρ M=.ok ds M)(h4:F xs ds=some r):nM F go ga ρ M=.ok r.1 (M.set k (.lst r.2)):=by
 unfold nM;rw[h1,ah];dsimp only;rw[h2];dsimp only;rw[h3,ah,h2];dsimp only;rw[h4]
theorem a7 {x:Int}(h0:0<x)(h1:x≤1000000):x.natAbs.log2<9000:=by
 have h2:x.natAbs<2 ^ 20:=by omega
 have h3:x.natAbs≠0:=by omega
 have:=(Nat.log2_lt h3).mpr h2;omega
theorem ml {l:List Int}{rest M:ax}(h:bG l rest M):M.length=rest.length+1:=by obtain⟨i,c,_,rfl⟩:=h;rfl
theorem uw {l:List Int}{rest M:ax}(h:bG l rest M)(E:ax):bG l (rest++E) (M++E):=by obtain⟨i,c,hi,rfl⟩:=h;exact⟨i,c,hi,rfl⟩
theorem yM:fb "":=mV (by decide +kernel)
theorem eV {gi:GI}{gc:GT}{ge:GE}{ρ:aZ}{ds es:List D}{M M1 M2:ax}(hi:gi ρ M=.ok ⟨ds,none⟩ M1)(he:cM ⟨ds,none⟩ gc ge ds ρ M1=.ok es M2)(hl:es.length≤1000000):aQ gi gc ge aC ρ M=.ok (.lst es) M2:=by
 unfold aQ;rw[hi,ah];dsimp only;rw[he,ah];unfold aC;rw[if_pos (ba hl)]
noncomputable def kT (k:Int):Prop:=0≤k∧k<64
noncomputable def nL (w:Nat)(r:List Int):Prop:=r.length=w∧∀k∈r,kT k
theorem lg {P:Int→Prop}:∀{es:List D},(∀e∈es,∃k,e=.int k∧P k)→∃r:List Int,es=r.map D.int∧∀k∈r,P k
 | [],_=>⟨[],rfl,fun _ h=>by cases h⟩
 | e::es,h=>by
  obtain⟨k,rfl,hk⟩:=h e mem_cons_self;obtain⟨r,rfl,hr⟩:=lg fun e' h'=>h e' (mem_cons_of_mem _ h')
  refine⟨k::r,rfl,fun x hx=>?_⟩;rcases mem_cons.mp hx with rfl|hx
  ·exact hk
  ·exact hr x hx
noncomputable abbrev pE (most wide high hues first:Int)(k:Nat)(a b c d e:Option D):aZ:=[some (.mr 0),some (.int most),some (.int wide),some (.int high),some (.int hues),some (.int first),some (.mr k),a,b,c,d,e]
section
variable {l:List Int}{rest M:ax}{most high hues first:Int}{w k:Nat}{a b c d e:Option D}
theorem rJ {ρ:aZ}(h1:ρ[0]?=some (some (.mr 0)))(h2:ρ[4]?=some (some (.int hues)))(h3:ρ[5]?=some (some (.int first)))(f0:0≤first)(u0:1≤hues)(fu:first+hues≤64)(hM:bG l rest M) :
  ∃v M',kT v∧bG l rest M'∧g2 aA (af 5) (av 2 ao (aa (af 0) (aa (af 4) ag))) ρ M=.ok (.int v) M':=by
 obtain⟨f,M1,a1,b1,t1,e1⟩:=bR (many:=hues) (by omega) (a7 (by omega) (by omega)) hM;refine⟨first+f,M1,⟨by omega,by omega⟩,t1,?_⟩;refine aq (x:=.int first) (M1:=M) ?_ (cN (x:=.mr 0) (M1:=M) ?_ (y:=.int hues) (M2:=M) ?_ e1) rfl
 ·unfold af;rw[h3]
 ·unfold af;rw[h1]
 ·unfold af;rw[h2]
theorem pY (f0:0≤first)(u0:1≤hues)(fu:first+hues≤64)(hw:w≤1000)(hM:bG l rest M) :
  ∃r M',nL w r∧bG l rest M'∧aQ (cQ (aa (af 2) ag)) bD bU aC (pE most w high hues first k a b c d e) M=.ok (.lst (r.map D.int)) M':=by
 obtain⟨es,M1,t1,l1,q1,e1⟩:=md (ds0:=aN 0 w) (ge:=bU) (ρ:=pE most w high hues first k a b c d e) (P:=bG l rest) (Q:=fun e=>∃k,e=.int k∧kT k) (aN 0 w) (fun d' _ M hM=>by
  obtain⟨f,M1,a1,b1,t1,e1⟩:=bR (many:=hues) (by omega) (a7 (by omega) (by omega)) hM;exact⟨.int (first+f),M1,t1,⟨first+f,rfl,by omega,by omega⟩,aq (x:=.int first) (M1:=M) rfl (cN (x:=.mr 0) (M1:=M) rfl (y:=.int hues) (M2:=M) rfl e1) rfl⟩) M hM
 obtain⟨r,rfl,hr⟩:=lg q1;have lr:r.length=w:=by
  rw[length_map] at l1;rw[l1];simp[aN]
 refine⟨r,M1,⟨lr,hr⟩,t1,eV (f6 (n:=w) (aV (d:=.int w) (M1:=M) rfl rfl) (by omega)) e1 (by rw[length_map,lr];omega)⟩
noncomputable def eF (w:Nat)(rs:List (List Int)):Prop:=∀r∈rs,nL w r
theorem mT:∀(n:Nat) (r:List Int),aU n (r.map D.int)=true
 | _,[]=>by rw[map_nil];unfold aU;rfl
 | n,k::r=>by
  rw[map_cons];unfold aU;rw[mT n r];unfold ce;rfl
theorem jP:∀(n:Nat) (rs:List (List Int)),aU (n+1) (am rs)=true
 | _,[]=>by unfold am;rw[map_nil];unfold aU;rfl
 | n,r::rs=>by
  have ih:=jP n rs;have c:=mT n r;show aU (n+1) (D.lst (r.map D.int)::am rs)=true;unfold aU;rw[ih];show(aU n (r.map D.int)&&true)=true;rw[c];rfl
theorem Ax {rs:List (List Int)}(hm:M[k]?=some (.lst (am rs))):a8 true (.mr k) (.lst []) M=.ok (.bl (!rs.isEmpty)) M:=by
 have e:io (.mr k) M=.lst (am rs):=by simp[io,hm]
 unfold a8;rw[e];show(if(aU 39 (am rs)&&aU 39 [])=true then aF.ok (D.bl (kR (.lst (am rs)) (.lst []) != true)) M else .bad)=_;rw[jP 38 rs];cases rs with
 | nil=>rfl
 | cons r rs=>rfl
theorem jR {xs:List D}(hm:M[k]?=some (.lst xs)):bH (.mr k) M=some xs:=by simp[bH,hm]
theorem oj {xs:List D}(hm:M[k]?=some (.lst xs)):aY [.mr k] M=.ok (.int xs.length) M:=by
 show(match bH (.mr k) M with|some xs=>aF.ok (D.int xs.length) M|none=>.bad)=_;rw[jR hm]
theorem tL {xs:List D}{n:Nat}{x:D}(hm:M[k]?=some (.lst xs))(h:xs[n]?=some x):bJ (.mr k) (.int n) M=.ok x M:=by
 have a:=gd (xs:=xs) (j:=n) h;show ot (.mr k) (.int n) M=_;unfold ot;rw[jR hm];dsimp only;rw[a]
theorem g9 {xs:List D}(h:bG l (rest++[.lst xs]) M):M[rest.length+1]?=some (.lst xs):=by
 obtain⟨i,c,_,rfl⟩:=h;simp
theorem sF {xs ys:List D}(h:bG l (rest++[.lst xs]) M):bG l (rest++[.lst ys]) (M.set (rest.length+1) (.lst ys)):=by
 obtain⟨i,c,hi,rfl⟩:=h;refine⟨i,c,hi,?_⟩;rw[set_cons_succ,set_append_right _ _ (Nat.le_refl _),Nat.sub_self];rfl
noncomputable def DE:GT:=(cq (aJ (g2 i5 (af 8) (gC (.int 2)))) (aJ (g2 (a8 true) (af 6) (cY ag))))
noncomputable def ES:GE:=(aG fU (aa (g2 bJ (af 6) (av 2 ao (aa (af 0) (aa (aG aY (aa (af 6) ag)) ag)))) ag))
theorem rP {rs:List (List Int)}{r:List Int}{way:Int}(hrs:eF w rs)(hl:rs.length≤1000)(hr:nL w r)(hM:bG l (rest++[.lst (am rs)]) M) :
  ∃r' M',nL w r'∧bG l (rest++[.lst (am rs)]) M'∧fc DE (aw 9 ES) a9 (pE most w high hues first (rest.length+1) a (some (.int way)) (some (.lst (r.map D.int))) d e) M=.ok (.nx (pE most w high hues first (rest.length+1) a (some (.int way)) (some (.lst (r'.map D.int))) d e)) M':=by
 have hc:DE (pE most w high hues first (rest.length+1) a (some (.int way)) (some (.lst (r.map D.int))) d e) M=.ok (decide (way<2)&&!rs.isEmpty) M:=
  b5 (aS (aq (x:=.int way) (M1:=M) rfl (y:=.int 2) (M2:=M) rfl rfl)) fun _=>aS (aq (x:=.mr (rest.length+1)) (M1:=M) rfl (y:=.lst []) (M2:=M) (eO rfl) (Ax (g9 hM)))
 by_cases h:way<2∧rs≠[]
 ·have h0:0<rs.length:=length_pos_iff.mpr h.2;obtain⟨f,M1,a1,b1,t1,e1⟩:=bR (many:=(rs.length:Int)) (by omega) (a7 (by omega) (by omega)) hM;obtain⟨n,rfl⟩:=Int.eq_ofNat_of_zero_le a1;have hn:n<rs.length:=by omega
  refine⟨rs[n],M1,hrs _ (getElem_mem hn),t1,?_⟩;have he:rs.isEmpty=false:=by cases rs with|nil=>exact absurd rfl h.2|cons _ _=>rfl
  rw[iD (hc.trans (by rw[decide_eq_true h.1,he];rfl))];have l1:=oj (g9 hM);rw[show(am rs).length=rs.length from length_map ..] at l1;have i1:=tL (n:=n) (x:=.lst (rs[n].map D.int)) (g9 t1) (by unfold am;rw[getElem?_map,getElem?_eq_getElem hn];rfl);exact aB (i:=9) (de (aq (x:=.mr (rest.length+1)) (M1:=M) rfl (cN (x:=.mr 0) (M1:=M) rfl (de (x:=.mr (rest.length+1)) (M1:=M) rfl l1) e1) i1) rfl)
 ·refine⟨r,M,hr,hM,?_⟩;rw[gJ (hc.trans (by
   by_cases q:way<2
   ·have:rs=[]:=Classical.byContradiction fun z=>h ⟨q,z⟩
    rw[this,decide_eq_true q];rfl
   ·rw[decide_eq_false q];rfl))]
  rfl
noncomputable def DK:GT:=(fF (aJ (g2 (a8 false) (af 8) (gC (.int 1)))) (aJ (g2 (a8 false) (af 8) (gC (.int 2)))))
noncomputable def DH:GE:=(av 2 ao (aa (af 0) (aa (af 2) ag)))
noncomputable def C3:GE:=(g2 aA (af 10) (av 2 ao (aa (af 0) (aa (g2 ek (g2 aA (af 2) (gC (.int 1))) (af 10)) ag))))
noncomputable def Bl:GE:=(g2 aA (g2 aA (cy (af 9) bT (aD (af 10))) (g2 ka (cY (aa (g2 aA (af 5) (av 2 ao (aa (af 0) (aa (af 4) ag)))) ag)) (g2 ek (af 11) (af 10)))) (cy (af 9) (aD (af 11)) bT))
theorem rO {xs:List D}{n:Nat}(h:n≤xs.length)(M:ax):fG (.lst xs) none (some (n:Int)) M=.ok (.lst (xs.take n)) M:=by
 show aF.ok (D.lst (fE xs none (some (n:Int)))) M=_;unfold fE;rw[HT.sIx_none,HT.sIx_nat,drop_zero,Nat.sub_zero,Nat.min_eq_left h]
theorem ug {xs:List D}{n:Nat}(h:n≤xs.length)(M:ax):fG (.lst xs) (some (n:Int)) none M=.ok (.lst (xs.drop n)) M:=by
 show aF.ok (D.lst (fE xs (some (n:Int)) none)) M=_;unfold fE;rw[HT.sIx_none,HT.sIx_nat,Nat.min_eq_left h,take_of_length_le (by rw[length_drop];exact Nat.le_refl _)]
theorem dX {g:GE}{gl gh:GO}{ρ:aZ}{M M1 M2 M3:ax}{x:D}{lo hi:Option Int}{o:aF D}(h1:g ρ M=.ok x M1)(h2:gl ρ M1=.ok lo M2)(h3:gh ρ M2=.ok hi M3)(h:fG x lo hi M3=o):cy g gl gh ρ M=o:=by
 unfold cy;rw[h1,ah,h2,ah,h3,ah,h]
theorem pQ (v:Int)(n:Nat):(List.replicate n [D.int v]).flatten=(List.replicate n v).map D.int:=by
 induction n with
 | zero=>rfl
 | succ n ih=>rw[replicate_succ,flatten_cons,ih];rfl
theorem wN {r:List Int}{way:Int}(f0:0≤first)(u0:1≤hues)(fu:first+hues≤64)(hw0:0<w)(hw:w≤1000)(hr:nL w r)(hM:bG l rest M) :
  ∃r' M' d' e',nL w r'∧bG l rest M'∧fc DK (aj (aw 10 DH) (aj (aw 11 C3) (aw 9 Bl))) a9 (pE most w high hues first k a (some (.int way)) (some (.lst (r.map D.int))) d e) M=.ok (.nx (pE most w high hues first k a (some (.int way)) (some (.lst (r'.map D.int))) d' e')) M':=by
 have hc:DK (pE most w high hues first k a (some (.int way)) (some (.lst (r.map D.int))) d e) M=.ok (decide (way=1)||decide (way=2)) M:=
  iu (aS (aq (x:=.int way) (M1:=M) rfl (y:=.int 1) (M2:=M) rfl (gW _ _ M))) fun _=>aS (aq (x:=.int way) (M1:=M) rfl (y:=.int 2) (M2:=M) rfl (gW _ _ M))
 by_cases h:(decide (way=1)||decide (way=2))=true
 ·obtain⟨f1,M1,a1,b1,t1,e1⟩:=bR (many:=(w:Int)) (by omega) (a7 (by omega) (by omega)) hM;obtain⟨f2,M2,a2,b2,t2,e2⟩:=bR (many:=(w:Int)+1-f1) (by omega) (a7 (by omega) (by omega)) t1;obtain⟨v,M3,hv,t3,e3⟩:=rJ (ρ:=pE most w high hues first k a (some (.int way)) (some (.lst (r.map D.int))) (some (.int f1)) (some (.int (f1+f2)))) rfl rfl rfl f0 u0 fu t2;obtain⟨n,rfl⟩:=Int.eq_ofNat_of_zero_le a1;obtain⟨m,rfl⟩:=Int.eq_ofNat_of_zero_le a2;have hl:=hr.1;refine⟨r.take n++List.replicate m v++r.drop (n+m),M3,some (.int n),some (.int ((n:Int)+m)),⟨?_,fun x hx=>?_⟩,t3,?_⟩
  ·rw[length_append,length_append,length_take,length_replicate,length_drop];omega
  ·rw[mem_append,mem_append] at hx;rcases hx with(hx|hx)|hx
   ·exact hr.2 x (mem_of_mem_take hx)
   ·rw[(mem_replicate.mp hx).2];exact hv
   ·exact hr.2 x (mem_of_mem_drop hx)
  ·rw[iD (hc.trans (by rw[h]))];have q1:DH (pE most w high hues first k a (some (.int way)) (some (.lst (r.map D.int))) d e) M=.ok (.int n) M1:=cN (x:=.mr 0) (M1:=M) rfl (y:=.int w) (M2:=M) rfl e1;rw[az (aB q1)];show aj (aw 11 C3) (aw 9 Bl) (pE most w high hues first k a (some (.int way)) (some (.lst (r.map D.int))) (some (.int n)) e) M1=_;have q2:C3 (pE most w high hues first k a (some (.int way)) (some (.lst (r.map D.int))) (some (.int n)) e) M1=.ok (.int ((n:Int)+m)) M2:=
    aq (x:=.int n) (M1:=M1) rfl (cN (x:=.mr 0) (M1:=M1) rfl (aq (aq (x:=.int w) (M1:=M1) rfl (y:=.int 1) (M2:=M1) rfl rfl) (y:=.int n) (M2:=M1) rfl rfl) e2) rfl
   rw[az (aB q2)];show aw 9 Bl (pE most w high hues first k a (some (.int way)) (some (.lst (r.map D.int))) (some (.int n)) (some (.int ((n:Int)+m)))) M2=_;have lr:(r.map D.int).length=w:=by rw[length_map,hl]
   have c1:=rO (xs:=r.map D.int) (n:=n) (by rw[lr];omega) M2;have c2:=ug (xs:=r.map D.int) (n:=n+m) (by rw[lr];omega) M3;have mu:ka (.lst [.int v]) (.int m) M3=.ok (.lst ((List.replicate m v).map D.int)) M3:=by
    show(if 0≤(m:Int)∧(m:Int)≤100000∧[D.int v].length*(m:Int).toNat≤100000 then aF.ok (D.lst (List.replicate (m:Int).toNat [D.int v]).flatten) M3 else .bad)=_;rw[if_pos ⟨by omega,by omega,by rw[length_singleton,Int.toNat_natCast];omega⟩,Int.toNat_natCast,pQ]
   have ad:∀(x y:List D) (N:ax),x.length+y.length≤1000000→aA (.lst x) (.lst y) N=.ok (.lst (x++y)) N:=fun x y N h=>by
    show(if x.length+y.length≤sizeLine then aF.ok (D.lst (x++y)) N else .bad)=_;rw[if_pos (ba h)]
   have g1:cy (af 9) bT (aD (af 10)) (pE most w high hues first k a (some (.int way)) (some (.lst (r.map D.int))) (some (.int n)) (some (.int ((n:Int)+m)))) M2=.ok (.lst ((r.map D.int).take n)) M2:=dX (x:=.lst (r.map D.int)) (M1:=M2) rfl (lo:=none) (M2:=M2) rfl (hi:=some (n:Int)) (M3:=M2) rfl c1;have g3:cy (af 9) (aD (af 11)) bT (pE most w high hues first k a (some (.int way)) (some (.lst (r.map D.int))) (some (.int n)) (some (.int ((n:Int)+m)))) M3=.ok (.lst ((r.map D.int).drop (n+m))) M3:=dX (x:=.lst (r.map D.int)) (M1:=M3) rfl (lo:=some ((n:Int)+m)) (M2:=M3) rfl (hi:=none) (M3:=M3) rfl c2;have g2':g2 ka (cY (aa (g2 aA (af 5) (av 2 ao (aa (af 0) (aa (af 4) ag)))) ag)) (g2 ek (af 11) (af 10)) (pE most w high hues first k a (some (.int way)) (some (.lst (r.map D.int))) (some (.int n)) (some (.int ((n:Int)+m)))) M2=.ok (.lst ((List.replicate m v).map D.int)) M3:=by
    refine aq (eO (aV e3 rfl)) (aq (x:=.int ((n:Int)+m)) (M1:=M3) rfl (y:=.int n) (M2:=M3) rfl (o:=.ok (.int m) M3) ?_) mu;show aF.ok (D.int ((n:Int)+m-n)) M3=_;rw[show(n:Int)+m-n=m by omega]
   have s1:=ad ((r.map D.int).take n) ((List.replicate m v).map D.int) M3 (by simp only[length_take,length_map,length_replicate];omega);have s2:=ad ((r.map D.int).take n++(List.replicate m v).map D.int) ((r.map D.int).drop (n+m)) M3 (by simp only[length_append,length_take,length_map,length_replicate,length_drop];omega);have q3:Bl (pE most w high hues first k a (some (.int way)) (some (.lst (r.map D.int))) (some (.int n)) (some (.int ((n:Int)+m)))) M2=.ok (.lst ((r.take n++List.replicate m v++r.drop (n+m)).map D.int)) M3:=by
    refine aq (aq g1 g2' s1) g3 (s2.trans ?_);rw[map_append,map_append,map_take,map_drop]
   exact aB (i:=9) q3
 ·refine⟨r,M,d,e,hr,hM,?_⟩;rw[gJ (hc.trans (by rw[Bool.eq_false_iff.mpr h]))];rfl
end
section
variable {l:List Int}{rest M:ax}{most high hues first:Int}{w:Nat}
theorem Bi (ρ:aZ)(M:ax):bg ρ M=aj (aw 8 (av 2 ao (aa (af 0) (aa (gC (.int 4)) ag)))) (aj (aw 9 (aQ (cQ (aa (af 2) ag)) bD bU aC)) (aj (fc DE (aw 9 ES) a9) (aj (fc DK (aj (aw 10 DH) (aj (aw 11 C3) (aw 9 Bl))) a9) (dj (iY (af 6) (af 9)))))) ρ M:=rfl
theorem sr {rs:List (List Int)}{a b c d e:Option D}(f0:0≤first)(u0:1≤hues)(fu:first+hues≤64)(hw0:0<w)(hw:w≤1000)(hrs:eF w rs)(hl:rs.length≤1000)(hM:bG l (rest++[.lst (am rs)]) M) :
  ∃r M' b' c' d' e',nL w r∧bG l (rest++[.lst (am (rs++[r]))]) M'∧bg (pE most w high hues first (rest.length+1) a b c d e) M=.ok (.nx (pE most w high hues first (rest.length+1) a b' c' d' e')) M':=by
 obtain⟨f1,M1,a1,b1,t1,e1⟩:=bR (many:=4) (by decide) (a7 (by decide) (by decide)) hM;obtain⟨r1,M2,hr1,t2,e2⟩:=pY (most:=most) (high:=high) (k:=rest.length+1) (a:=a) (b:=some (.int f1)) (c:=c) (d:=d) (e:=e) f0 u0 fu hw t1;obtain⟨r2,M3,hr2,t3,e3⟩:=rP (most:=most) (high:=high) (hues:=hues) (first:=first) (a:=a) (d:=d) (e:=e) (way:=f1) hrs hl hr1 t2;obtain⟨r3,M4,d',e',hr3,t4,e4⟩:=wN (most:=most) (high:=high) (k:=rest.length+1) (a:=a) (d:=d) (e:=e) (way:=f1) f0 u0 fu hw0 hw hr2 t3;refine⟨r3,M4.set (rest.length+1) (.lst (am rs++[.lst (r3.map D.int)])),some (.int f1),some (.lst (r3.map D.int)),d',e',hr3,?_,?_⟩
 ·have:=sF (ys:=am (rs++[r3])) t4;have e:am (rs++[r3])=am rs++[.lst (r3.map D.int)]:=by unfold am;rw[map_append];rfl
  rw[e] at this ⊢;exact this
 ·rw[Bi,az (aB (i:=8) (d:=.int f1) (cN (x:=.mr 0) (M1:=M) rfl (y:=.int 4) (M2:=M) rfl e1))];show aj _ _ (pE most w high hues first (rest.length+1) a (some (.int f1)) c d e) M1=_;rw[az (aB (i:=9) e2)];show aj _ _ (pE most w high hues first (rest.length+1) a (some (.int f1)) (some (.lst (r1.map D.int))) d e) M2=_;rw[az e3,az e4];have hl2:(am rs).length<1000000:=by rw[show(am rs).length=rs.length from length_map ..];omega
  exact jf (uJ (k:=rest.length+1) rfl (g9 t4) rfl (g9 t4) hl2)
theorem kN {ds0:List D}(f0:0≤first)(u0:1≤hues)(fu:first+hues≤64)(hw0:0<w)(hw:w≤1000):∀(ds:List D) (rs:List (List Int)) (a b c d e:Option D) (M:ax),eF w rs→rs.length+ds.length≤1000→bG l (rest++[.lst (am rs)]) M→
  ∃rs' M' a' b' c' d' e',eF w rs'∧rs'.length=rs.length+ds.length∧bG l (rest++[.lst (am rs')]) M'∧b8 ⟨ds0,none⟩ (cw 7) bg ds (pE most w high hues first (rest.length+1) a b c d e) M=.ok (.nx (pE most w high hues first (rest.length+1) a' b' c' d' e')) M'
 | [],rs,a,b,c,d,e,M,h1,h2,h3=>⟨rs,M,a,b,c,d,e,h1,rfl,h3,rfl⟩
 | x::ds,rs,a,b,c,d,e,M,h1,h2,h3=>by
  rw[length_cons] at h2;obtain⟨r,M1,b1,c1,d1,e1,hr,t1,q1⟩:=sr (most:=most) (high:=high) (a:=some x) (b:=b) (c:=c) (d:=d) (e:=e) f0 u0 fu hw0 hw h1 (by omega) h3;obtain⟨rs',M2,a2,b2,c2,d2,e2,hr2,l2,t2,q2⟩:=kN (ds0:=ds0) f0 u0 fu hw0 hw ds (rs++[r]) (some x) b1 c1 d1 e1 M1 (fun y hy=>by
   rcases mem_append.mp hy with h|h
   ·exact h1 y h
   ·rw[mem_singleton.mp h];exact hr) (by rw[length_append,length_singleton];omega) t1
  refine⟨rs',M2,a2,b2,c2,d2,e2,hr2,by rw[l2,length_append,length_singleton,length_cons];omega,t2,?_⟩;rw[b8,if_pos fP];show(bg (pE most w high hues first (rest.length+1) (some x) b c d e) M).bind _=_;rw[q1,ah];exact q2
theorem kU:∀rs:List (List Int),(am rs).all (bn 29)=true:=fun rs=>by
 unfold am;rw[all_map];exact all_eq_true.mpr fun r _=>by
  show bn 29 (.lst (r.map D.int))=true;rw[iA];exact kx 27 r
theorem lj {l:List Int}{i c:Int}{rest:ax}(hr:rest.all cS=true):(tp l i c::rest).all cS=true:=by
 have h:cS (tp l i c)=true:=by
  show(D.lst (l.map D.int)::[D.int i,D.int c]).all (bn 30)=true;have:=kx 28 l;simp[iA,this,bn]
 rw[all_cons,h,hr];rfl
theorem we {f:Int}(h0:0≤f)(h1:f<3):∃u,1≤u∧u≤64∧∀M,bJ (.lst [.int 2,.int 3,.int 64]) (.int f) M=.ok (.int u) M:=by
 have:f=0∨f=1∨f=2:=by omega
 rcases this with rfl|rfl|rfl
 ·exact⟨2,by decide,by decide,fun _=>rfl⟩
 ·exact⟨3,by decide,by decide,fun _=>rfl⟩
 ·exact⟨64,by decide,by decide,fun _=>rfl⟩
theorem uU {most:Int}(h0:1≤most)(h1:most≤40)(hp:rest.all cS=true)(hM:bG l rest M) :
  ∃(rs:List (List Int)) (w:Nat) (M':ax),1≤w∧(w:Int)≤most∧1≤rs.length∧(rs.length:Int)≤most∧eF w rs∧bG l rest M'∧cU [.mr 0,.int most] M=.ok (.lst (am rs)) M':=by
 obtain⟨f1,M1,a1,b1,t1,e1⟩:=bR (many:=most) (by omega) (a7 (by omega) (by omega)) hM;obtain⟨f2,M2,a2,b2,t2,e2⟩:=bR (many:=most) (by omega) (a7 (by omega) (by omega)) t1;obtain⟨f3,M3,a3,b3,t3,e3⟩:=bR (many:=3) (by decide) (a7 (by decide) (by decide)) t2;obtain⟨u,u1,u2,k3⟩:=we a3 b3;obtain⟨f4,M4,a4,b4,t4,e4⟩:=bR (many:=65-u) (by omega) (a7 (by omega) (by omega)) t3;obtain⟨n1,rfl⟩:=Int.eq_ofNat_of_zero_le a1;obtain⟨n2,rfl⟩:=Int.eq_ofNat_of_zero_le a2;have t5:bG l (rest++[.lst (am [])]) (M4++[.lst []]):=uw t4 _;obtain⟨rs,M6,a6,b6,c6,d6,e6,hrs,lrs,t6,q6⟩:=kN (most:=most) (high:=((n2+1:Nat):Int)) (ds0:=aN 0 (n2+1)) (first:=f4) (hues:=u) (w:=n1+1) a4 u1 (by omega) (by omega) (by omega) (aN 0 (n2+1)) [] none none none none none (M4++[.lst []]) (fun _ h=>by cases h) (by simp[aN];omega) t5;have lr:rs.length=n2+1:=by rw[lrs];simp[aN]
 obtain⟨i6,c6',h6,rfl⟩:=t6;refine⟨rs,n1+1,tp l i6 c6'::rest,by omega,by omega,by omega,by omega,hrs,⟨i6,c6',h6,rfl⟩,?_⟩;have lM:M.length=(tp l i6 c6'::rest).length:=by rw[ml hM];rfl
 have l4:M4.length=rest.length+1:=ml t4;show eX M.length (aT (bK [some (.mr 0),some (.int most),none,none,none,none,none,none,none,none,none,none] M))=_;have q:bK [some (.mr 0),some (.int most),none,none,none,none,none,none,none,none,none,none] M=.ok (.rt (.mr (rest.length+1))) (tp l i6 c6'::(rest++[.lst (am rs)])):=by
  unfold bK;have n1e:(1:Int)+n1=((n1+1:Nat):Int):=by omega
  have n2e:(1:Int)+n2=((n2+1:Nat):Int):=by omega
  rw[az (aB (d:=.int ((n1+1:Nat):Int)) (aq (x:=.int 1) (M1:=M) rfl (cN (x:=.mr 0) (M1:=M) rfl (y:=.int most) (M2:=M) rfl e1) (by show aF.ok (D.int (1+(n1:Int))) M1=_;rw[n1e])))];show aj _ _ [some (.mr 0),some (.int most),some (.int ((n1+1:Nat):Int)),none,none,none,none,none,none,none,none,none] M1=_;rw[az (aB (d:=.int ((n2+1:Nat):Int)) (aq (x:=.int 1) (M1:=M1) rfl (cN (x:=.mr 0) (M1:=M1) rfl (y:=.int most) (M2:=M1) rfl e2) (by show aF.ok (D.int (1+(n2:Int))) M2=_;rw[n2e])))];show aj _ _ [some (.mr 0),some (.int most),some (.int ((n1+1:Nat):Int)),some (.int ((n2+1:Nat):Int)),none,none,none,none,none,none,none,none] M2=_;rw[az (aB (d:=.int u) (aq (x:=.lst [.int 2,.int 3,.int 64]) (M1:=M2) (eO rfl) (cN (x:=.mr 0) (M1:=M2) rfl (y:=.int 3) (M2:=M2) rfl e3) (k3 M3)))];show aj _ _ [some (.mr 0),some (.int most),some (.int ((n1+1:Nat):Int)),some (.int ((n2+1:Nat):Int)),some (.int u),none,none,none,none,none,none,none] M3=_;rw[az (aB (d:=.int f4) (cN (x:=.mr 0) (M1:=M3) rfl (aq (x:=.int 65) (M1:=M3) rfl (y:=.int u) (M2:=M3) rfl rfl) e4))];show aj _ _ [some (.mr 0),some (.int most),some (.int ((n1+1:Nat):Int)),some (.int ((n2+1:Nat):Int)),some (.int u),some (.int f4),none,none,none,none,none,none] M4=_;have qm:∀ρ,jc ag ρ M4=.ok (.mr (rest.length+1)) (M4++[.lst []]):=fun ρ=>by rw[←l4];exact oK
  rw[az (aB (qm _))];have hE:([some (D.mr 0),some (D.int most),some (D.int ((n1+1:Nat):Int)),some (D.int ((n2+1:Nat):Int)),some (D.int u),some (D.int f4),none,none,none,none,none,none]:aZ).set 6 (some (D.mr (rest.length+1)))=pE most ((n1+1:Nat):Int) ((n2+1:Nat):Int) u f4 (rest.length+1) none none none none none:=rfl;rw[hE];have hF:=iB (b:=bg) (sg:=cw 7) (f6 (n:=n2+1) (aV (d:=.int ((n2+1:Nat):Int)) (g:=af 3) (r:=ag) (ρ:=pE most ((n1+1:Nat):Int) ((n2+1:Nat):Int) u f4 (rest.length+1) none none none none none) (M1:=M4++[MO.lst []]) rfl rfl) (by omega)) q6;rw[az hF];exact gN (d:=.mr (rest.length+1)) rfl
 rw[q,lM];exact oR (M:=tp l i6 c6'::rest) (kU rs) (lj hp)
end
theorem f9 {x:Str}{i j:Nat}(hij:i≤j):(cJ x (some (i:Int)) (some (j:Int))).cps.toList=(x.cps.toList.drop i).take (j-i):=by
 unfold cJ;rw[HT.sIx_nat,HT.sIx_nat];show((x.cps.toList.drop (min i x.length)).take (min j x.length-min i x.length)).toArray.toList=_;rw[toList_toArray];have hl:x.cps.toList.length=x.length:=aK x
 by_cases h:i≤x.length
 ·rw[Nat.min_eq_left h]
  by_cases h2:j≤x.length
  ·rw[Nat.min_eq_left h2]
  ·rw[Nat.min_eq_right (by omega),take_of_length_le (by rw[length_drop,hl];exact Nat.le_refl _),take_of_length_le (by rw[length_drop,hl];omega)]
 ·rw[Nat.min_eq_right (show x.length≤i by omega),drop_of_length_le (i:=x.length) (by rw[hl];exact Nat.le_refl _),drop_of_length_le (i:=i) (by rw[hl];omega)];simp
theorem lh {x:Str}{i j:Nat}(hij:i≤j):cJ x (some (i:Int)) (some (j:Int))=⟨((x.cps.toList.drop i).take (j-i)).toArray⟩:=cA (by rw[f9 hij])
theorem iP {x:Str}{lo hi:Option Int}:(cJ x lo hi).cps.size≤x.cps.size:=by
 unfold cJ;simp only[size_toArray,length_take,length_drop,aK];omega
theorem wQ {x:Str}{lo hi:Option Int}(h:fb x):fb (cJ x lo hi):=fun c hc=>by
 unfold cJ at hc;rw[toList_toArray] at hc;exact h c (mem_of_mem_drop (mem_of_mem_take hc))
theorem fZ {x:Str}{lo hi:Option Int}(hx:x.cps.size≤90000)(M:ax):fG (.str x) lo hi M=.ok (.str (cJ x lo hi)) M:=by
 have hl:x.length≤sizeLine:=ba (show x.cps.size≤1000000 by omega);show(if x.length≤sizeLine then aF.ok (D.str (cJ x lo hi)) M else .bad)=_;rw[if_pos hl]
theorem nK (z:Str)(c:Nat):(Txt.lstripChars z ⟨#[c]⟩).cps.size+(z.cps.toList.takeWhile (·==c)).length=z.cps.size:=by
 have e:(fun d=>(#[c]:Array Nat).contains d)=(·==c):=by
  funext d
  by_cases q:d=c
  ·subst q;simp
  ·have q2:¬c=d:=fun z=>q z.symm
   simp[q,q2]
 have hl:(z.cps.toList.takeWhile (·==c)).length≤z.cps.size:=by rw[←aK];exact(takeWhile_sublist _).length_le
 unfold Txt.lstripChars Txt.stripBy;show(if stripSame (fun d=>(#[c]:Array Nat).contains d) true false z then z else stripped (fun d=>(#[c]:Array Nat).contains d) true false z).cps.size+_=_;rw[e];split
 ·rename_i h;simp only[stripSame,Bool.and_eq_true,beq_iff_eq] at h;have h1:(z.cps.toList.takeWhile (·==c)).length=0:=h.1;rw[h1];rfl
 ·show(Builtin.Str.strSub z (z.cps.toList.takeWhile (·==c)).length z.length).cps.size+_=_;rw[←aK,StrLaws.strSub_toList,length_take,length_drop,aK];show min (z.cps.size-_) (z.cps.size-_)+_=_;omega
noncomputable def da (cs:List Nat)(at_:Nat):Nat:=(((cs.drop at_).take 63).takeWhile (·==cs.getD at_ 0)).length
theorem fJ (cs:List Nat)(at_:Nat):da cs at_≤min 63 (cs.length-at_):=by
 unfold da;have:=(takeWhile_sublist (l:=(cs.drop at_).take 63) (·==cs.getD at_ 0)).length_le;rw[length_take,length_drop] at this;exact this
theorem tz {x:Str}{at_:Nat}{M:ax}(hx:x.cps.size≤5000)(ha:at_<x.cps.size):dC [.str x,.int at_] M=.ok (.int (da x.cps.toList at_)) M:=by
 have hl:at_<x.cps.toList.length:=by rw[aK];exact ha
 have eg:x.cps.toList[at_]?=some (x.cps.toList.getD at_ 0):=by rw[List.getD,getElem?_eq_getElem hl];rfl
 have c1:=lh (x:=x) (i:=at_) (j:=at_+63) (by omega);rw[show at_+63-at_=63 by omega] at c1;have zl:=iP (x:=x) (lo:=some (at_:Int)) (hi:=some ((at_+63:Nat):Int));rw[c1] at zl;generalize hz:(⟨((x.cps.toList.drop at_).take 63).toArray⟩:Str)=z at *;have zc:z.cps.toList=(x.cps.toList.drop at_).take 63:=by rw[←hz]
 have s1:fG (.str x) (some (at_:Int)) (some ((at_:Int)+63)) M=.ok (.str z) M:=by
  rw[fZ (by omega),show((at_:Int)+63)=((at_+63:Nat):Int) by omega,c1]
 have ls:=nK z (x.cps.toList.getD at_ 0);have an:da x.cps.toList at_=(z.cps.toList.takeWhile (·==x.cps.toList.getD at_ 0)).length:=by unfold da;rw[zc]
 rw[←an] at ls;have hz2:z.length≤sizeLine:=ba (show z.cps.size≤1000000 by omega);have lf:fo z (.str ⟨#[x.cps.toList.getD at_ 0]⟩) M=.ok (.str (Txt.lstripChars z ⟨#[x.cps.toList.getD at_ 0]⟩)) M:=by
  show(if z.length≤sizeLine then aF.ok (D.str _) M else .bad)=_;rw[if_pos hz2]
 show aT (dA [some (.str x),some (.int at_),none] M)=_;unfold dA;rw[az (aB (dX (x:=.str x) (M1:=M) rfl (lo:=some (at_:Int)) (M2:=M) rfl (hi:=some ((at_:Int)+63)) (M3:=M) rfl s1))];show aT (bF _ [some (.str x),some (.int at_),some (.str z)] M)=_;have q:(g2 ek (aG aY (aa (af 2) ag)) (aG aY (aa (bu fo (af 2) (g2 bJ (af 0) (af 1))) ag))) [some (.str x),some (.int at_),some (.str z)] M=.ok (.int (da x.cps.toList at_)) M:=by
  refine aq (de (x:=.str z) (M1:=M) rfl (dQ (by omega) M)) (de (x:=.str (Txt.lstripChars z ⟨#[x.cps.toList.getD at_ 0]⟩)) (M1:=M) ?_ (dQ (by omega) M)) ?_
  ·unfold bu;show((aF.ok (D.str z) M).bind fun o M1=>match o with | .str x'=>(g2 bJ (af 0) (af 1) [some (.str x),some (.int at_),some (.str z)] M1).bind fun d M2=>fo x' d M2|_=>.bad)=_;rw[ah];dsimp only;rw[aq (x:=.str x) (M1:=M) rfl (y:=.int at_) (M2:=M) rfl (fK eg (by omega) M),ah,lf]
  ·show aF.ok (D.int ((z.cps.size:Int)-((Txt.lstripChars z ⟨#[x.cps.toList.getD at_ 0]⟩).cps.size:Int))) M=_;rw[show(z.cps.size:Int)-((Txt.lstripChars z ⟨#[x.cps.toList.getD at_ 0]⟩).cps.size:Int)=(da x.cps.toList at_:Int) by omega]
 rw[gN q];rfl
noncomputable def gK (cs:List Nat)(w at_:Nat):Nat→Nat→Nat
 | 0,k=>k
 | f+1,k=>if cs.getD (at_+k) 0=cs.getD (at_+k-w) 0 then gK cs w at_ f (k+1) else k
noncomputable def cV (w:Nat)(cs:List Nat)(at_:Nat):Nat:=if at_<w then 0 else gK cs w at_ (min 63 (cs.length-at_)) 0
theorem o1 (cs:List Nat)(w at_:Nat):∀f k,gK cs w at_ f k≤k+f
 | 0,k=>Nat.le_refl _
 | f+1,k=>by
  unfold gK;split
  ·have:=o1 cs w at_ f (k+1);omega
  ·omega
theorem im (w:Nat)(cs:List Nat)(at_:Nat):cV w cs at_≤min 63 (cs.length-at_):=by
 unfold cV;split
 ·exact Nat.zero_le _
 ·have:=o1 cs w at_ (min 63 (cs.length-at_)) 0;omega
theorem jE {x:Str}{n:Nat}(h:n<x.cps.size):x.cps.toList[n]?=some (x.cps.toList.getD n 0):=by
 have hl:n<x.cps.toList.length:=by rw[aK];exact h
 rw[List.getD,getElem?_eq_getElem hl];rfl
theorem pI {x:Str}(h:fb x){n:Nat}(hn:n<x.cps.size):x.cps.toList.getD n 0<0x110000:=by
 have hl:n<x.cps.toList.length:=by rw[aK];exact hn
 have:x.cps.toList.getD n 0=x.cps.toList[n]:=by rw[List.getD,getElem?_eq_getElem hl];rfl
 rw[this];exact h _ (getElem_mem hl)
theorem pF {a b:Nat}:((⟨#[a]⟩:Str)=⟨#[b]⟩)↔a=b:=by
 constructor
 ·intro h;have:=congrArg (fun s:Str=>s.cps.toList) h;simpa using this
 ·intro h;rw[h]
theorem sO {a b:Nat}(ha:a<0x110000)(hb:b<0x110000)(M:ax):a8 false (.str ⟨#[a]⟩) (.str ⟨#[b]⟩) M=.ok (.bl (decide (a=b))) M:=by
 rw[E3 (gV ha) (gV hb)];congr 2;exact decide_eq_decide.mpr pF
section
variable {x:Str}{w at_:Nat}{M:ax}
noncomputable abbrev aE (x:Str)(w at_ k:Nat):aZ:=[some (.str x),some (.int w),some (.int at_),some (.int k)]
theorem pP {k:Nat}(ho:fb x)(hx:x.cps.size≤5000)(hw:w≤at_)(hk:k≤63):bo (aE x w at_ k) M=.ok (decide (k<63∧at_+k<x.cps.size∧x.cps.toList.getD (at_+k) 0=x.cps.toList.getD (at_+k-w) 0)) M:=by
 have t1:(aJ (g2 i5 (af 3) (gC (.int 63)))) (aE x w at_ k) M=.ok (decide ((k:Int)<63)) M:=aS (aq (x:=.int k) (M1:=M) rfl (y:=.int 63) (M2:=M) rfl rfl);have t2:(aJ (g2 i5 (g2 aA (af 2) (af 3)) (aG aY (aa (af 0) ag)))) (aE x w at_ k) M=.ok (decide (((at_:Int)+k)<(x.cps.size:Int))) M:=
  aS (aq (aq (x:=.int at_) (M1:=M) rfl (y:=.int k) (M2:=M) rfl rfl) (de (x:=.str x) (M1:=M) rfl (dQ (by omega) M)) rfl)
 by_cases h1:k<63
 ·by_cases h2:at_+k<x.cps.size
  ·have i1:=fK (jE h2) (show x.cps.size≤90000 by omega) M;have i2:=fK (jE (show at_+k-w<x.cps.size by omega)) (show x.cps.size≤90000 by omega) M;have t3:(aJ (g2 (a8 false) (g2 bJ (af 0) (g2 aA (af 2) (af 3))) (g2 bJ (af 0) (g2 ek (g2 aA (af 2) (af 3)) (af 1))))) (aE x w at_ k) M=.ok (decide (x.cps.toList.getD (at_+k) 0=x.cps.toList.getD (at_+k-w) 0)) M:=by
    refine aS (aq (aq (x:=.str x) (M1:=M) rfl (aq (x:=.int at_) (M1:=M) rfl (y:=.int k) (M2:=M) rfl (o:=.ok (.int ((at_+k:Nat):Int)) M) rfl) i1) (aq (x:=.str x) (M1:=M) rfl (aq (aq (x:=.int at_) (M1:=M) rfl (y:=.int k) (M2:=M) rfl rfl) (y:=.int w) (M2:=M) rfl (o:=.ok (.int ((at_+k-w:Nat):Int)) M) ?_) i2) (sO (pI ho h2) (pI ho (by omega)) M));show aF.ok (D.int ((at_:Int)+k-w)) M=_;rw[show((at_:Int)+k-w)=((at_+k-w:Nat):Int) by omega]
   refine(b5 t1 fun _=>b5 t2 fun _=>t3).trans ?_;congr 1;rw[decide_eq_true (show(k:Int)<63 by omega),decide_eq_true (show((at_:Int)+k)<(x.cps.size:Int) by omega),Bool.true_and,Bool.true_and];exact decide_eq_decide.mpr ⟨fun z=>⟨h1,h2,z⟩,fun z=>z.2.2⟩
  ·refine(b5 t1 fun _=>b5 (y:=false) t2 fun z=>?_).trans ?_
   ·exact absurd (of_decide_eq_true z) (by omega)
   ·congr 1;rw[decide_eq_false (show¬((at_:Int)+k)<(x.cps.size:Int) by omega),Bool.false_and,Bool.and_false];exact(decide_eq_false fun z=>h2 z.2.1).symm
 ·refine(b5 (y:=false) t1 fun z=>absurd (of_decide_eq_true z) (by omega)).trans ?_;congr 1;rw[Bool.and_false];exact(decide_eq_false fun z=>h1 z.1).symm
theorem pT (ho:fb x)(hx:x.cps.size≤5000)(hw:w≤at_)(ha:at_<x.cps.size):∀(f k n:Nat),k+f=min 63 (x.cps.size-at_)→f<n→bq bo bL n (aE x w at_ k) M=.ok (.nx (aE x w at_ (gK x.cps.toList w at_ f k))) M
 | 0,k,n+1,h,_=>by
  rw[bQ (M1:=M) ((pP ho hx hw (by omega)).trans (by rw[decide_eq_false];omega))];rfl
 | f+1,k,n+1,h,hn=>by
  have t:=pP (M:=M) (k:=k) ho hx hw (by omega);unfold gK
  by_cases q:x.cps.toList.getD (at_+k) 0=x.cps.toList.getD (at_+k-w) 0
  ·rw[if_pos q,fR (ρ2:=aE x w at_ (k+1)) (M1:=M) (M2:=M) (t.trans (by rw[decide_eq_true];exact⟨by omega,by omega,q⟩)) rfl];exact pT ho hx hw ha f (k+1) n (by omega) (by omega)
  ·rw[if_neg q,bQ (M1:=M) (t.trans (by rw[decide_eq_false];exact fun z=>q z.2.2))]
theorem sG (ho:fb x)(hx:x.cps.size≤5000)(ha:at_<x.cps.size):cz [.str x,.int w,.int at_] M=.ok (.int (cV w x.cps.toList at_)) M:=by
 show aT (cC [some (.str x),some (.int w),some (.int at_),none] M)=_;unfold cC;have t1:(aJ (g2 i5 (af 2) (af 1))) [some (.str x),some (.int w),some (.int at_),none] M=.ok (decide ((at_:Int)<w)) M:=aS (aq (x:=.int at_) (M1:=M) rfl (y:=.int w) (M2:=M) rfl rfl)
 by_cases h:at_<w
 ·have e:cV w x.cps.toList at_=0:=by unfold cV;rw[if_pos h]
  rw[BL (d:=.int 0) (M1:=M) ((iD (t1.trans (by rw[decide_eq_true];omega))).trans rfl),e];rfl
 ·rw[az (ρ1:=[some (.str x),some (.int w),some (.int at_),none]) (M1:=M) ((gJ (t1.trans (by rw[decide_eq_false];omega))).trans rfl)];rw[az (aB (d:=.int 0) (M1:=M) rfl)];have lp:=pT (M:=M) ho hx (show w≤at_ by omega) ha (min 63 (x.cps.size-at_)) 0 5000 (by omega) (by omega);have e:cV w x.cps.toList at_=gK x.cps.toList w at_ (min 63 (x.cps.size-at_)) 0:=by unfold cV;rw[if_neg h,aK]
  rw[←e] at lp;show aT (aj (cg 5000 bo bL) (bF (af 3)) (aE x w at_ 0) M)=_;rw[az (a:=cg 5000 bo bL) lp];rfl
end
theorem oW {g:GE}{ρ:aZ}{M:ax}{E zs:List D}{i:Nat}(hi:ρ[i]?=some (some (.mr M.length)))(hg:g ρ (M++[.lst E])=.ok (.lst zs) (M++[.lst E]))(hl:E.length+zs.length≤1000000) :
  iT i g ρ (M++[.lst E])=.ok (.nx (ρ.set i (some (.mr M.length)))) (M++[.lst (E++zs)]):=by
 have v:af i ρ (M++[.lst E])=.ok (.mr M.length) (M++[.lst E]):=by
  unfold af;rw[hi]
 have a:ow (.mr M.length) (.lst zs) (M++[.lst E])=.ok (.mr M.length) (M++[.lst (E++zs)]):=by
  unfold ow;dsimp only;rw[k6];dsimp only;have e:ja (.lst zs) (M++[MO.lst E])=some zs:=rfl;rw[e];dsimp only;rw[if_pos (ba hl),lq]
 unfold iT;rw[v,ah,hg,ah,a,ah]
theorem fz {α:Type}{ds0:List D}{ge:GE}{ρ:aZ}{M:ax}{g h:α→D}:∀l:List α,(∀a∈l,ge (some (g a)::ρ) M=.ok (h a) M)→cM ⟨ds0,none⟩ bD ge (l.map g) ρ M=.ok (l.map h) M
 | [],_=>rfl
 | a::l,k=>by
  have ih:=fz (ds0:=ds0) (ge:=ge) (ρ:=ρ) (M:=M) (g:=g) (h:=h) l fun x hx=>k x (mem_cons_of_mem _ hx)
  show cM ⟨ds0,none⟩ bD ge (g a::l.map g) ρ M=_;unfold cM;rw[show j9.ok ⟨ds0,none⟩ M=true from rfl,if_pos rfl,show bD (some (g a)::ρ) M=.ok true M from rfl];dsimp only;rw[k a mem_cons_self];dsimp only;rw[ih];rfl
theorem mH {α:Type}{ds0:List D}{n:Nat}{sg:GG}{ge:GE}{ρ:aZ}{M:ax}{g h:α→D}:∀l:List α,(∀a∈l,∃ρ1,sg (g a) (List.replicate n none++ρ)=some ρ1∧ge ρ1 M=.ok (h a) M)→aI ⟨ds0,none⟩ n sg bD ge (l.map g) ρ M=.ok (l.map h) M
 | [],_=>rfl
 | a::l,k=>by
  obtain⟨ρ1,e1,e2⟩:=k a mem_cons_self;have ih:=mH (ds0:=ds0) (n:=n) (sg:=sg) (ge:=ge) (ρ:=ρ) (M:=M) (g:=g) (h:=h) l fun x hx=>k x (mem_cons_of_mem _ hx)
  show aI ⟨ds0,none⟩ n sg bD ge (g a::l.map g) ρ M=_;unfold aI;rw[show j9.ok ⟨ds0,none⟩ M=true from rfl,if_pos rfl,e1];dsimp only;rw[show bD ρ1 M=.ok true M from rfl];dsimp only;rw[e2];dsimp only;rw[ih];rfl
noncomputable def AR (x:Str)(at_:Nat):Str:=⟨#[x.cps.toList.getD at_ 0]⟩
noncomputable def rq (x:Str)(at_ m:Nat):Str:=("!":Str)++eh m++cJ x (some (at_:Int)) (some ((at_:Int)+m))
noncomputable def qU (x:Str)(at_ m:Nat):Str:=("*":Str)++eh m++AR x at_
noncomputable def pZ (m:Nat):Str:=("^":Str)++eh m
noncomputable def a5 (x:Str)(w at_:Nat):List (Str×Nat):=((List.range (min 63 (x.cps.size-at_))).map fun i=>(rq x at_ (i+1),i+1))++((List.range (da x.cps.toList at_)).map fun i=>(qU x at_ (i+1),i+1))++((List.range (cV w x.cps.toList at_)).map fun i=>(pZ (i+1),i+1))
noncomputable def fA (p:Str×Nat):D:=.tup [.str p.1,.int p.2]
theorem cP {a b:Str}(ha:a.length≤90000)(hb:b.length≤90000)(M:ax):aA (.str a) (.str b) M=.ok (.str (a++b)) M:=by
 show(if a.length+b.length≤sizeLine then aF.ok (D.str (a++b)) M else .bad)=_;rw[if_pos (ba (by omega))]
theorem aX (a b:Str):(a++b).cps.size=a.cps.size+b.cps.size:=by
 show(a++b).length=_;rw[strLen_append];rfl
section
variable {x:Str}{w at_:Nat}{M:ax}{d:Option D}
noncomputable abbrev qE (x:Str)(w at_:Nat)(d:Option D):aZ:=[some (.str x),some (.int w),some (.int at_),d]
theorem rT {m:Nat}(h:m<64)(ρ:aZ)(hm:ρ[0]?=some (some (.int m))):g2 bJ (gC (.str "0123456789abcdefghijklmnopqrstuvwxyzABCDEFGHIJKLMNOPQRSTUVWXYZ+-")) (af 0) ρ M=.ok (.str (eh m)) M:=by
 have e:=fY (M:=M) (k:=(m:Int)) (by omega) (by omega);refine aq (x:=.str df) (M1:=M) rfl (y:=.int m) (M2:=M) ?_ e;unfold af;rw[hm]
theorem Ff {m:Nat}(hx:x.cps.size≤5000)(h:m<64):eL (some (.int m)::qE x w at_ d) M=.ok (fA (rq x at_ m,m)) M:=by
 have z:=iP (x:=x) (lo:=some (at_:Int)) (hi:=some ((at_:Int)+m));have c1:=cP (a:="!") (b:=eh m) (by decide +kernel) (by rw[ia];decide) M;have c2:=cP (a:="!"++eh m) (b:=cJ x (some (at_:Int)) (some ((at_:Int)+m))) (show(("!":Str)++eh m).cps.size≤90000 by rw[aX];exact Nat.le_trans (show 1+1≤2 by decide) (by decide)) (show(cJ x (some (at_:Int)) (some ((at_:Int)+m))).cps.size≤90000 by omega) M;refine oz (aV (aq (aq (x:=.str "!") (M1:=M) rfl (rT h _ rfl) c1) (dX (x:=.str x) (M1:=M) rfl (lo:=some (at_:Int)) (M2:=M) rfl (hi:=some ((at_:Int)+m)) (M3:=M) rfl (fZ (by omega) M)) c2) (aV (d:=.int m) (M1:=M) rfl rfl))
theorem E5 {m:Nat}(hx:x.cps.size≤5000)(ha:at_<x.cps.size)(h:m<64):en (some (.int m)::qE x w at_ d) M=.ok (fA (qU x at_ m,m)) M:=by
 have c1:=cP (a:="*") (b:=eh m) (by decide +kernel) (by rw[ia];decide) M;have c2:=cP (a:="*"++eh m) (b:=AR x at_) (show(("*":Str)++eh m).cps.size≤90000 by rw[aX];exact Nat.le_trans (show 1+1≤2 by decide) (by decide)) (show(AR x at_).cps.size≤90000 from(by decide:1≤90000)) M;exact oz (aV (aq (aq (x:=.str "*") (M1:=M) rfl (rT h _ rfl) c1) (aq (x:=.str x) (M1:=M) rfl (y:=.int at_) (M2:=M) rfl (fK (jE ha) (by omega) M)) c2) (aV (d:=.int m) (M1:=M) rfl rfl))
theorem Fd {m:Nat}(h:m<64):eJ (some (.int m)::qE x w at_ d) M=.ok (fA (pZ m,m)) M:=by
 have c1:=cP (a:="^") (b:=eh m) (by decide +kernel) (by rw[ia];decide) M;exact oz (aV (aq (x:=.str "^") (M1:=M) rfl (rT h _ rfl) c1) (aV (d:=.int m) (M1:=M) rfl rfl))
theorem Ct {F:FD}{a b:GE}{ρ:aZ}{M M1 M2:ax}{x y:D}{o:aF D}(ha:a ρ M=.ok x M1)(hb:b ρ M1=.ok y M2)(h:F [x,y] M2=o):aG F (aa a (aa b ag)) ρ M=o:=by
 unfold aG aa ag;rw[ha,ah,hb,ah,ah,ah,ah,h]
theorem lE {ga:GA}{ρ:aZ}{M M1:ax}{n:Nat}(h:ga ρ M=.ok [.int 1,.int ((n:Int)+1)] M1)(hn:n≤1000):dR ga ρ M=.ok ⟨aN 1 n,none⟩ M1:=by
 unfold dR;rw[h,ah,v9 ⟨by omega,by omega,by omega,by omega⟩];rw[show((n:Int)+1-1).toNat=n by omega]
theorem iF (n:Nat):aN 1 n=(List.range n).map fun i=>D.int ((i+1:Nat):Int):=by
 unfold aN;refine map_congr_left fun i _=>?_
 rw[show(1:Int)+(i:Int)=((i+1:Nat):Int) by omega]
theorem sC {gi:GI}{gc:GT}{ge:GE}{ρ:aZ}{ds es:List D}{M M1 M2:ax}(hi:gi ρ M=.ok ⟨ds,none⟩ M1)(he:cM ⟨ds,none⟩ gc ge ds ρ M1=.ok es M2)(hl:es.length≤1000000):aQ gi gc ge b0 ρ M=.ok (.mr M2.length) (M2++[.lst es]):=by
 unfold aQ;rw[hi,ah];dsimp only;rw[he,ah];unfold b0;rw[if_pos (ba hl)]
theorem nT (l:List (Str×Nat)):(l.map fA).all (bn 29)=true:=by
 rw[all_map];exact all_eq_true.mpr fun p _=>rfl
theorem uC (ho:fb x)(hx:x.cps.size≤5000)(ha:at_<x.cps.size)(hM:M.all cS=true):fm [.str x,.int w,.int at_] M=.ok (.lst ((a5 x w at_).map fA)) M:=by
 have k1:min 63 (x.cps.size-at_)≤63:=Nat.min_le_left _ _;have k2:=fJ x.cps.toList at_;have k3:=im w x.cps.toList at_;rw[aK] at k2 k3;have ak:=fun N=>tz (M:=N) hx ha
 have ab:=fun N=>sG (w:=w) (M:=N) ho hx ha
 unfold a5;generalize hk:min 63 (x.cps.size-at_)=n1 at *;generalize da x.cps.toList at_=n2 at *;generalize cV w x.cps.toList at_=n3 at *;have c1:aQ (dR (aa (gC (.int 1)) (aa (g2 aA (aG jn (aa (gC (.int 63)) (aa (g2 ek (aG aY (aa (af 0) ag)) (af 2)) ag))) (gC (.int 1))) ag))) bD eL b0 (qE x w at_ none) M=.ok (.mr M.length) (M++[.lst (((List.range n1).map fun i=>(rq x at_ (i+1),i+1)).map fA)]):=by
  refine sC (lE (n:=n1) (aV (d:=.int 1) (M1:=M) rfl (aV (aq (x:=.int n1) (M1:=M) ?_ (y:=.int 1) (M2:=M) rfl rfl) rfl)) (by omega)) ?_ (by simp;omega)
  ·refine Ct (x:=.int 63) (M1:=M) rfl (aq (de (x:=.str x) (M1:=M) rfl (dQ (by omega) M)) (y:=.int at_) (M2:=M) rfl rfl) ?_;show aF.ok (D.int (if(x.cps.size:Int)-at_<63 then(x.cps.size:Int)-at_ else 63)) M=_;rw[show(if(x.cps.size:Int)-at_<63 then(x.cps.size:Int)-at_ else 63)=(n1:Int) by split <;> omega]
  ·rw[iF,map_map];exact fz _ fun i hi=>Ff hx (by have:=mem_range.mp hi;omega)
 have c2:∀(E:List D),aQ (dR (aa (gC (.int 1)) (aa (g2 aA (av 2 dC (aa (af 0) (aa (af 2) ag))) (gC (.int 1))) ag))) bD en aC (qE x w at_ (some (.mr M.length))) (M++[.lst E])=.ok (.lst (((List.range n2).map fun i=>(qU x at_ (i+1),i+1)).map fA)) (M++[.lst E]):=fun E=>by
  refine eV (lE (n:=n2) (aV (d:=.int 1) (M1:=M++[.lst E]) rfl (aV (aq (cN (x:=.str x) (M1:=M++[.lst E]) rfl (y:=.int at_) (M2:=M++[.lst E]) rfl (ak _)) (y:=.int 1) (M2:=M++[.lst E]) rfl rfl) rfl)) (by omega)) ?_ (by simp;omega);rw[iF,map_map];exact fz _ fun i hi=>E5 hx ha (by have:=mem_range.mp hi;omega)
 have c3:∀(E:List D),aQ (dR (aa (gC (.int 1)) (aa (g2 aA (av 3 cz (aa (af 0) (aa (af 1) (aa (af 2) ag)))) (gC (.int 1))) ag))) bD eJ aC (qE x w at_ (some (.mr M.length))) (M++[.lst E])=.ok (.lst (((List.range n3).map fun i=>(pZ (i+1),i+1)).map fA)) (M++[.lst E]):=fun E=>by
  refine eV (lE (n:=n3) (aV (d:=.int 1) (M1:=M++[.lst E]) rfl (aV (aq (tP (x:=.str x) (M1:=M++[.lst E]) rfl (y:=.int w) (M2:=M++[.lst E]) rfl (z:=.int at_) (M3:=M++[.lst E]) rfl (ab _)) (y:=.int 1) (M2:=M++[.lst E]) rfl rfl) rfl)) (by omega)) ?_ (by simp;omega);rw[iF,map_map];exact fz _ fun i hi=>Fd (by have:=mem_range.mp hi;omega)
 show eX M.length (aT (dN (qE x w at_ none) M))=_;unfold dN;rw[az (aB c1)];show eX M.length (aT (aj _ _ (qE x w at_ (some (.mr M.length))) _))=_;rw[az (oW (i:=3) rfl (c2 _) (by simp;omega))];show eX M.length (aT (aj _ _ (qE x w at_ (some (.mr M.length))) _))=_;rw[az (oW (i:=3) rfl (c3 _) (by simp;omega))];rw[←map_append,←map_append];exact oR (nT _) hM
end
theorem nh {α:Type}{f g:α→D}{b:α→Bool}{n:Nat}{sg:GG}{gc:GT}{ge:GE}{ρ:aZ}{M:ax}{ds0:List D}:∀l:List α,(∀a∈l,∃ρ1,sg (f a) (List.replicate n none++ρ)=some ρ1∧gc ρ1 M=.ok (b a) M∧(b a=true→ge ρ1 M=.ok (g a) M))→aI ⟨ds0,none⟩ n sg gc ge (l.map f) ρ M=.ok ((l.filter b).map g) M
 | [],_=>rfl
 | a::l,h=>by
  obtain⟨ρ1,h0,h1,h2⟩:=h a mem_cons_self;have ih:=nh (ds0:=ds0) l fun b hb=>h b (mem_cons_of_mem _ hb)
  rw[map_cons,aI,if_pos fP,h0];dsimp only;rw[h1];cases q:b a with
  | true=>
   rw[filter_cons_of_pos q,map_cons];show(match ge ρ1 M with | .ok e M2=>(aI ⟨ds0,none⟩ n sg gc ge (l.map f) ρ M2).bind fun es M3=>.ok (e::es) M3|_=>.bad)=_;rw[h2 q];dsimp only;rw[ih,ah]
  | false=>
   rw[filter_cons_of_neg (by rw[q];exact Bool.false_ne_true)];exact ih
theorem mP {gi:GI}{n:Nat}{sg:GG}{gc:GT}{ge:GE}{ρ:aZ}{ds es:List D}{M M1 M2:ax}(hi:gi ρ M=.ok ⟨ds,none⟩ M1)(he:aI ⟨ds,none⟩ n sg gc ge ds ρ M1=.ok es M2)(hl:es.length≤1000000):bI gi n sg gc ge aC ρ M=.ok (.lst es) M2:=by
 unfold bI;rw[hi,ah];dsimp only;rw[he,ah];unfold aC;rw[if_pos (ba hl)]
theorem jj:∀(l:List Int) (b:Int),∃v,cf (l.map D.int) (.int b)=some (.int v)∧(v=b∨v∈l)∧v≤b∧∀x∈l,v≤x
 | [],b=>⟨b,rfl,.inl rfl,Int.le_refl _,fun _ h=>by cases h⟩
 | a::l,b=>by
  show∃v,(match A9 (.int a) (.int b) with|some true=>cf (l.map D.int) (.int a)|some false=>cf (l.map D.int) (.int b)|none=>none)=some (.int v)∧_;show∃v,(match some (decide (a<b)) with|some true=>cf (l.map D.int) (.int a)|some false=>cf (l.map D.int) (.int b)|none=>none)=some (.int v)∧_
  by_cases h:a<b
  ·obtain⟨v,e,m,h1,h2⟩:=jj l a;rw[decide_eq_true h];refine⟨v,e,.inr ?_,by omega,fun x hx=>?_⟩
   ·rcases m with rfl|m
    ·exact mem_cons_self
    ·exact mem_cons_of_mem _ m
   ·rcases mem_cons.mp hx with rfl|hx
    ·exact h1
    ·exact h2 x hx
  ·obtain⟨v,e,m,h1,h2⟩:=jj l b;rw[decide_eq_false h];refine⟨v,e,?_,h1,fun x hx=>?_⟩
   ·rcases m with m|m
    ·exact .inl m
    ·exact .inr (mem_cons_of_mem _ m)
   ·rcases mem_cons.mp hx with rfl|hx
    ·omega
    ·exact h2 x hx
theorem jA:∀(l:List Str) (b:Str),∃v,cf (l.map D.str) (.str b)=some (.str v)∧(v=b∨v∈l)∧v.cps.toList≤b.cps.toList∧∀x∈l,v.cps.toList≤x.cps.toList
 | [],b=>⟨b,rfl,.inl rfl,List.le_refl _,fun _ h=>by cases h⟩
 | a::l,b=>by
  show∃v,(match some (decide (a.cps.toList<b.cps.toList)) with|some true=>cf (l.map D.str) (.str a)|some false=>cf (l.map D.str) (.str b)|none=>none)=some (.str v)∧_
  by_cases h:a.cps.toList<b.cps.toList
  ·obtain⟨v,e,m,h1,h2⟩:=jA l a;rw[decide_eq_true h];refine⟨v,e,.inr ?_,List.le_trans h1 (List.le_of_lt h),fun x hx=>?_⟩
   ·rcases m with rfl|m
    ·exact mem_cons_self
    ·exact mem_cons_of_mem _ m
   ·rcases mem_cons.mp hx with rfl|hx
    ·exact h1
    ·exact h2 x hx
  ·obtain⟨v,e,m,h1,h2⟩:=jA l b;rw[decide_eq_false h];refine⟨v,e,?_,h1,fun x hx=>?_⟩
   ·rcases m with m|m
    ·exact .inl m
    ·exact .inr (mem_cons_of_mem _ m)
   ·rcases mem_cons.mp hx with rfl|hx
    ·exact List.le_trans h1 (List.not_lt.mp h)
    ·exact h2 x hx
noncomputable def du (T:List Str)(at_:Nat)(p:Str×Nat):Str:=p.1++T.getD (at_+p.2) ""
noncomputable def lN (a b:Str):Prop:=a.cps.size≤b.cps.size∧(a.cps.size=b.cps.size→a.cps.toList≤b.cps.toList)
section
variable {P:List (Str×Nat)}{T:List Str}{k at_:Nat}{M:ax}
noncomputable abbrev uE (P:List (Str×Nat))(k at_:Nat)(d:Option D):aZ:=[some (.lst (P.map fA)),some (.mr k),some (.int at_),d]
theorem lA (hm:M[k]?=some (.lst (T.map D.str))){n:Nat}(h:n<T.length):bJ (.mr k) (.int n) M=.ok (.str (T.getD n "")) M:=by
 refine tL hm ?_;rw[getElem?_map,getElem?_eq_getElem h,List.getD,getElem?_eq_getElem h];rfl
theorem o8 (p:Str×Nat):(du T at_ p).cps.size=p.1.cps.size+(T.getD (at_+p.2) "").cps.size:=aX _ _
theorem tu {p:Str×Nat}{d:Option D}(hm:M[k]?=some (.lst (T.map D.str)))(h:at_+p.2<T.length)(h1:p.1.cps.size≤40000)(h2:(T.getD (at_+p.2) "").cps.size≤40000) :
  dF (some (.str p.1)::some (.int p.2)::uE P k at_ d) M=.ok (.int (du T at_ p).cps.size) M:=by
 refine aq (de (x:=.str p.1) (M1:=M) rfl (dQ (by omega) M)) (de (aq (x:=.mr k) (M1:=M) rfl (aq (x:=.int at_) (M1:=M) rfl (y:=.int p.2) (M2:=M) rfl (o:=.ok (.int ((at_+p.2:Nat):Int)) M) rfl) (lA hm h)) (dQ (by omega) M)) ?_;rw[o8];rfl
theorem yT {p:Str×Nat}{d:Option D}(hm:M[k]?=some (.lst (T.map D.str)))(h:at_+p.2<T.length)(h1:p.1.cps.size≤40000)(h2:(T.getD (at_+p.2) "").cps.size≤40000) :
  dB (some (.str p.1)::some (.int p.2)::uE P k at_ d) M=.ok (.str (du T at_ p)) M:=
 aq (x:=.str p.1) (M1:=M) rfl (aq (x:=.mr k) (M1:=M) rfl (aq (x:=.int at_) (M1:=M) rfl (y:=.int p.2) (M2:=M) rfl (o:=.ok (.int ((at_+p.2:Nat):Int)) M) rfl) (lA hm h)) (cP (Nat.le_trans h1 (by decide)) (Nat.le_trans h2 (by decide)) M)
theorem wK (hm:M[k]?=some (.lst (T.map D.str)))(hP:P≠[])(hPl:P.length≤1000)(h:∀p∈P,at_+p.2<T.length∧p.1.cps.size≤40000∧(T.getD (at_+p.2) "").cps.size≤40000) :
  ∃p∈P,(∀q∈P,lN (du T at_ p) (du T at_ q))∧eA [.lst (P.map fA),.mr k,.int at_] M=.ok (.str (du T at_ p)) M:=by
 have ic:∀d,bt (af 0) (uE P k at_ d) M=.ok ⟨P.map fA,none⟩ M:=fun d=>rfl
 have c1:bI (bt (af 0)) 2 (jY [0,1]) bD dF aC (uE P k at_ none) M=.ok (.lst (P.map fun p=>D.int (du T at_ p).cps.size)) M:=
  mP (ic _) (mH _ fun p hp=>⟨some (.str p.1)::some (.int p.2)::uE P k at_ none,rfl,tu hm (h p hp).1 (h p hp).2.1 (h p hp).2.2⟩) (by simp;omega)
 obtain⟨few,mf,hf⟩:∃few:Int,gX [.lst (P.map fun p=>D.int (du T at_ p).cps.size)] M=.ok (.int few) M∧(∃p∈P,few=((du T at_ p).cps.size:Int))∧∀p∈P,few≤((du T at_ p).cps.size:Int):=by
  cases P with
  | nil=>exact absurd rfl hP
  | cons p0 P=>
   obtain⟨v,e,m,h1,h2⟩:=jj (P.map fun p=>((du T at_ p).cps.size:Int)) ((du T at_ p0).cps.size:Int);rw[map_map] at e;refine⟨v,?_,?_,fun p hp=>?_⟩
   ·show(match cf (P.map fun p=>D.int (du T at_ p).cps.size) (D.int (du T at_ p0).cps.size) with|some d=>aF.ok d M|none=>.bad)=_;rw[show(P.map fun p=>D.int (du T at_ p).cps.size)=P.map (D.int ∘ fun p=>((du T at_ p).cps.size:Int)) from rfl,e]
   ·rcases m with m|m
    ·exact⟨p0,mem_cons_self,m⟩
    ·obtain⟨p,hp,e⟩:=mem_map.mp m;exact⟨p,mem_cons_of_mem _ hp,e.symm⟩
   ·rcases mem_cons.mp hp with rfl|hp
    ·exact h1
    ·exact h2 _ (mem_map.mpr ⟨p,hp,rfl⟩)
 obtain⟨⟨p1,hp1,ep1⟩,hmin⟩:=hf;have tst:∀p∈P,dD (some (.str p.1)::some (.int p.2)::uE P k at_ (some (.int few))) M=.ok (decide (((du T at_ p).cps.size:Int)=few)) M:=fun p hp=>
  aS (aq (tu hm (h p hp).1 (h p hp).2.1 (h p hp).2.2) (y:=.int few) (M2:=M) rfl (gW _ _ M))
 have c2:bI (bt (af 0)) 2 (jY [0,1]) dD dB aC (uE P k at_ (some (.int few))) M=.ok (.lst ((P.filter fun p=>decide (((du T at_ p).cps.size:Int)=few)).map fun p=>D.str (du T at_ p))) M:=
  mP (ic _) (nh P fun p hp=>⟨some (.str p.1)::some (.int p.2)::uE P k at_ (some (.int few)),rfl,tst p hp,fun _=>yT hm (h p hp).1 (h p hp).2.1 (h p hp).2.2⟩) (by rw[length_map];have:=length_filter_le (fun p=>decide (((du T at_ p).cps.size:Int)=few)) P;omega)
 have memF:∀p,p∈P.filter (fun p=>decide (((du T at_ p).cps.size:Int)=few))↔p∈P∧((du T at_ p).cps.size:Int)=few:=fun p=>by rw[mem_filter,decide_eq_true_eq]
 generalize hF:P.filter (fun p=>decide (((du T at_ p).cps.size:Int)=few))=Fl at *;have hne:Fl≠[]:=fun z=>by
  have:=(memF p1).mpr ⟨hp1,ep1.symm⟩;rw[z] at this;cases this
 obtain⟨p2,hp2,e2,m2⟩:∃p∈Fl,gX [.lst (Fl.map fun p=>D.str (du T at_ p))] M=.ok (.str (du T at_ p)) M∧∀q∈Fl,(du T at_ p).cps.toList≤(du T at_ q).cps.toList:=by
  cases Fl with
  | nil=>exact absurd rfl hne
  | cons p0 Fl=>
   obtain⟨v,e,m,h1,h2⟩:=jA (Fl.map fun p=>du T at_ p) (du T at_ p0);rw[map_map] at e;have ee:gX [.lst ((p0::Fl).map fun p=>D.str (du T at_ p))] M=.ok (.str v) M:=by
    show(match cf (Fl.map fun p=>D.str (du T at_ p)) (D.str (du T at_ p0)) with|some d=>aF.ok d M|none=>.bad)=_;rw[show(Fl.map fun p=>D.str (du T at_ p))=Fl.map (D.str ∘ fun p=>du T at_ p) from rfl,e]
   have all:∀q∈p0::Fl,v.cps.toList≤(du T at_ q).cps.toList:=fun q hq=>by
    rcases mem_cons.mp hq with rfl|hq
    ·exact h1
    ·exact h2 _ (mem_map.mpr ⟨q,hq,rfl⟩)
   rcases m with m|m
   ·subst m;exact⟨p0,mem_cons_self,ee,all⟩
   ·obtain⟨p,hp,e⟩:=mem_map.mp m;subst e;exact⟨p,mem_cons_of_mem _ hp,ee,all⟩
 obtain⟨hpP,epf⟩:=(memF p2).mp hp2;refine⟨p2,hpP,fun q hq=>⟨?_,fun e=>m2 q ((memF q).mpr ⟨hq,by omega⟩)⟩,?_⟩
 ·have:=hmin q hq;omega
 ·show aT (eD (uE P k at_ none) M)=_;unfold eD;rw[az (aB (de c1 mf))];show aT (bF _ (uE P k at_ (some (.int few))) M)=_;rw[gN (de c2 e2)];rfl
end
theorem ms {c:Nat}:∀{a b A B:List Nat},c∉a→c∉b→a++c::A=b++c::B→a=b∧A=B
 | [],[],A,B,_,_,h=>⟨rfl,(List.cons.inj h).2⟩
 | [],y::b,A,B,_,hb,h=>absurd (by rw[(List.cons.inj h).1];exact mem_cons_self ..) hb
 | x::a,[],A,B,ha,_,h=>absurd (by rw[←(List.cons.inj h).1];exact mem_cons_self ..) ha
 | x::a,y::b,A,B,ha,hb,h=>by
  obtain⟨h1,h2⟩:=List.cons.inj h;obtain⟨h3,h4⟩:=ms (fun z=>ha (mem_cons_of_mem _ z)) (fun z=>hb (mem_cons_of_mem _ z)) h2;exact⟨by rw[h1,h3],h4⟩
theorem gT (c:Nat)(p q:Str)(r:List Str):(Str.join ⟨#[c]⟩ (p::q::r)).cps.toList=p.cps.toList++c::(Str.join ⟨#[c]⟩ (q::r)).cps.toList:=by
 show(p++⟨#[c]⟩++Str.join ⟨#[c]⟩ (q::r)).cps.toList=_;simp only[Str.cps_append,Array.toList_append];simp
theorem mm {c:Nat}:∀{ps qs:List Str},ps≠[]→qs≠[]→(∀p∈ps,c∉p.cps.toList)→(∀p∈qs,c∉p.cps.toList)→(Str.join ⟨#[c]⟩ ps).cps.toList=(Str.join ⟨#[c]⟩ qs).cps.toList→ps=qs
 | [],_,h,_,_,_,_=>absurd rfl h
 | _,[],_,h,_,_,_=>absurd rfl h
 | [p],[q],_,_,_,_,h=>by rw[cA (a:=p) (b:=q) h]
 | [p],q::q2::r,_,_,hp,_,h=>by
  rw[gT] at h;have:c∈p.cps.toList:=by
   show c∈(Str.join ⟨#[c]⟩ [p]).cps.toList;rw[h];simp
  exact absurd this (hp p (mem_cons_self ..))
 | p::p2::r,[q],_,_,_,hq,h=>by
  rw[gT] at h;have:c∈q.cps.toList:=by
   show c∈(Str.join ⟨#[c]⟩ [q]).cps.toList;rw[←h];simp
  exact absurd this (hq q (mem_cons_self ..))
 | p::p2::r,q::q2::r2,_,_,hp,hq,h=>by
  rw[gT,gT] at h;obtain⟨h1,h2⟩:=ms (hp p (mem_cons_self ..)) (hq q (mem_cons_self ..)) h;rw[cA h1,mm (by simp) (by simp) (fun x hx=>hp x (mem_cons_of_mem _ hx)) (fun x hx=>hq x (mem_cons_of_mem _ hx)) h2]
theorem rX (x y:Str):Txt.split x y≠[]:=fun h=>by
 have:=split_pos x y;rw[h] at this;simp at this
theorem nN {c:Nat}{ps:List Str}(hne:ps≠[])(hf:∀p∈ps,c∉p.cps.toList):Txt.split (Str.join ⟨#[c]⟩ ps) ⟨#[c]⟩=ps:=
 mm (rX _ _) hne (StrLaws.split_free _ c) hf (by rw[StrLaws.join_split])
theorem xk:(df.cps.toList.all fun c=>decide (c<128)&&decide (c≠10))=true:=by decide +kernel
theorem uX {k:Nat}(h:k<64):df.cps.toList.getD k 0∈df.cps.toList:=by
 have hl:k<df.cps.toList.length:=by rw[oT];exact h
 rw[List.getD,getElem?_eq_getElem hl];exact getElem_mem hl
theorem iz {k:Nat}(h:k<64):df.cps.toList.getD k 0<128∧df.cps.toList.getD k 0≠10:=by
 have:=all_eq_true.mp xk _ (uX h);rw[Bool.and_eq_true,decide_eq_true_eq,decide_eq_true_eq] at this;exact this
noncomputable def p9 (k:Int):Nat:=df.cps.toList.getD k.toNat 0
theorem bS (ks:List Int):(ai ks).cps.toList=ks.map p9:=by
 unfold ai;rw[mj,map_map]
 induction ks with
 | nil=>rfl
 | cons k ks ih=>rw[map_cons,flatten_cons,ih];rfl
theorem jB {ks:List Int}(h:∀k∈ks,kT k):fb (ai ks):=fun c hc=>by
 rw[bS] at hc;obtain⟨k,hk,rfl⟩:=mem_map.mp hc;have:=(iz (k:=k.toNat) (by have:=h k hk;unfold kT at this;omega)).1;exact Nat.lt_trans this (by decide)
theorem zP {ks:List Int}(h:∀k∈ks,kT k):10∉(ai ks).cps.toList:=fun hc=>by
 rw[bS] at hc;obtain⟨k,hk,e⟩:=mem_map.mp hc;exact(iz (k:=k.toNat) (by have:=h k hk;unfold kT at this;omega)).2 e
theorem A6:("\n":Str)=⟨#[10]⟩:=by decide +kernel
theorem wD (x:Str):decide (Builtin.Str.strKind x<Builtin.Str.strKind ("\n":Str))=false:=by
 have e:Builtin.Str.strKind ("\n":Str)=1:=by decide +kernel
 rw[e];refine decide_eq_false ?_;unfold Builtin.Str.strKind;split
 ·decide
 ·split <;> decide
theorem qk (x:Str):Txt.replace x "\n" ""=Str.join "" (Txt.split x "\n"):=by
 unfold Txt.replace Txt.split;have k:=wD x;have l1:("\n":Str).length=1:=by decide +kernel
 have l0:("":Str).length=0:=by decide +kernel
 rw[k,Bool.or_false]
 by_cases h0:x.length<1
 ·have hx:x=⟨#[]⟩:=cA (length_eq_zero_iff.mp (by rw[aK];show x.length=0;omega));subst hx;decide +kernel
 ·have e1:decide (x.length<("\n":Str).length)=false:=decide_eq_false (by rw[l1];exact h0);have e2:(("\n":Str).length==0&&("":Str).length==0)=false:=by rw[l1];rfl
  rw[e1,e2,Bool.or_false];cases q:(Builtin.Str.occurrences x "\n" 0 x.length (x.length+1)).isEmpty with
  | true=>rfl
  | false=>simp only[Bool.false_eq_true,if_false];exact lZ "" _
theorem sM {ps:List Str}(h0:ps≠[])(h:∀p∈ps,10∉p.cps.toList):Txt.replace (Txt.join "\n" ps) "\n" ""=Txt.join "" ps:=by
 rw[qk,lZ,lZ,A6,nN h0 h]
noncomputable def br (rs:List (List Int)):Str:=ai rs.flatten
theorem rZ {rs:List (List Int)}(h0:rs≠[])(h:∀r∈rs,∀k∈r,kT k):Txt.replace (eK rs) "\n" ""=br rs:=by
 unfold eK;rw[sM (fun z=>h0 (map_eq_nil_iff.mp z)) fun p hp=>by obtain⟨r,hr,rfl⟩:=mem_map.mp hp;exact zP (h r hr)];refine cA ?_;unfold br;rw[mj,bS,map_map,map_flatten];congr 1;exact map_congr_left fun r _=>bS r
theorem zC {go gi g:GE}{ρ:aZ}{M:ax}{k i:Nat}{xs:List D}{x:D}(hg:g ρ M=.ok x M)(ho:go ρ M=.ok (.mr k) M)(hi:gi ρ M=.ok (.int i) M)(hk:M[k]?=some (.lst xs))(hl:i<xs.length):i9 go gi g ρ M=.ok (.nx ρ) (M.set k (.lst (xs.set i x))):=by
 unfold i9;rw[hg,ah,ho,ah,hi,ah];unfold rK;dsimp only;rw[hk];dsimp only;rw[uW hl];rfl
noncomputable def zS (x:Str)(w:Nat)(T:List Str)(i:Nat):Prop:=∃p∈a5 x w i,T.getD i ""=du T i p∧∀q∈a5 x w i,lN (du T i p) (du T i q)
structure eM (x:Str)(w:Nat)(T:List Str)(j:Nat):Prop where
 len:T.length=x.cps.size+1
 last:T.getD x.cps.size ""=""
 best:∀i,j≤i→i<x.cps.size→zS x w T i
 size:∀i,j≤i→i≤x.cps.size→(T.getD i "").cps.size≤3*(x.cps.size-i)
 ok:∀i,j≤i→i≤x.cps.size→fb (T.getD i "")
theorem fe {x:Str}{w at_:Nat}{p:Str×Nat}(ho:fb x)(ha:at_<x.cps.size)(hp:p∈a5 x w at_):1≤p.2∧p.2≤63∧at_+p.2≤x.cps.size∧p.1.cps.size≤2+p.2∧fb p.1:=by
 have k2:=fJ x.cps.toList at_;have k3:=im w x.cps.toList at_;rw[aK] at k2 k3;have okm:∀(c:Str) (m:Nat),fb c→m<64→fb (c++eh m):=fun c m hc hm d hd=>by
  rw[Str.cps_append,Array.toList_append,mem_append] at hd;rcases hd with hd|hd
  ·exact hc d hd
  ·have hd:d∈[df.cps.toList.getD (m:Int).toNat 0]:=hd;rw[mem_singleton.mp hd,Int.toNat_natCast];exact Nat.lt_trans (iz hm).1 (by decide)
 have oka:∀a b:Str,fb a→fb b→fb (a++b):=fun a b h1 h2 d hd=>by
  rw[Str.cps_append,Array.toList_append,mem_append] at hd;rcases hd with hd|hd
  ·exact h1 d hd
  ·exact h2 d hd
 unfold a5 at hp;rw[mem_append,mem_append,mem_map,mem_map,mem_map] at hp;rcases hp with(⟨i,hi,rfl⟩|⟨i,hi,rfl⟩)|⟨i,hi,rfl⟩
 ·have hi:=mem_range.mp hi;refine⟨by show 1≤i+1;omega,by show i+1≤63;omega,by show at_+(i+1)≤_;omega,?_,?_⟩
  ·show(rq x at_ (i+1)).cps.size≤2+(i+1);unfold rq;rw[aX,aX];have:=lh (x:=x) (i:=at_) (j:=at_+(i+1)) (by omega);rw[show((at_:Int)+((i+1:Nat):Int))=((at_+(i+1):Nat):Int) by omega,this];have e1:("!":Str).cps.size=1:=by decide +kernel
   have e2:(eh ((i+1:Nat):Int)).cps.size=1:=rfl;rw[e1,e2,size_toArray,length_take];omega
  ·exact oka _ _ (okm _ _ (mV (by decide +kernel)) (by omega)) (wQ ho)
 ·have hi:=mem_range.mp hi;refine⟨by show 1≤i+1;omega,by show i+1≤63;omega,by show at_+(i+1)≤_;omega,?_,?_⟩
  ·show(qU x at_ (i+1)).cps.size≤2+(i+1);unfold qU;rw[aX,aX];have e1:("*":Str).cps.size=1:=by decide +kernel
   have e2:(eh ((i+1:Nat):Int)).cps.size=1:=rfl;have e3:(AR x at_).cps.size=1:=rfl;rw[e1,e2,e3];omega
  ·exact oka _ _ (okm _ _ (mV (by decide +kernel)) (by omega)) (gV (pI ho ha))
 ·have hi:=mem_range.mp hi;refine⟨by show 1≤i+1;omega,by show i+1≤63;omega,by show at_+(i+1)≤_;omega,?_,?_⟩
  ·show(pZ (i+1)).cps.size≤2+(i+1);unfold pZ;rw[aX];have e1:("^":Str).cps.size=1:=by decide +kernel
   have e2:(eh ((i+1:Nat):Int)).cps.size=1:=rfl;rw[e1,e2];omega
  ·exact okm _ _ (mV (by decide +kernel)) (by omega)
theorem t9 {x:Str}{w at_:Nat}(ha:at_<x.cps.size):a5 x w at_≠[]:=fun z=>by
 unfold a5 at z;rw[append_assoc,append_eq_nil_iff,map_eq_nil_iff] at z;have:=congrArg List.length z.1;rw[length_range] at this;simp at this;omega
theorem re {x:Str}{w at_:Nat}:(a5 x w at_).length≤189:=by
 have k2:=fJ x.cps.toList at_;have k3:=im w x.cps.toList at_;unfold a5;simp only[length_append,length_map,length_range];omega
theorem mE {T:List Str}{j i:Nat}{y:Str}:(T.set j y).getD i ""=if i=j∧j<T.length then y else T.getD i "":=by
 rw[List.getD,List.getD,getElem?_set]
 by_cases h:j=i
 ·subst h
  by_cases h2:j<T.length
  ·simp[h2]
  ·simp[h2]
 ·have h':¬i=j:=fun z=>h z.symm
  simp[h,h']
theorem su {x:Str}{w j:Nat}{T:List Str}{p:Str×Nat}(ho:fb x)(hj:j<x.cps.size)(h:eM x w T (j+1))(hp:p∈a5 x w j)(hb:∀q∈a5 x w j,lN (du T j p) (du T j q)):eM x w (T.set j (du T j p)) j:=by
 have hl:=h.len;have gt:∀i,j<i→(T.set j (du T j p)).getD i ""=T.getD i "":=fun i hi=>by rw[mE,if_neg (by omega)]
 have ge:(T.set j (du T j p)).getD j ""=du T j p:=by rw[mE,if_pos ⟨rfl,by omega⟩]
 have tt:∀i (q:Str×Nat),j≤i→i<x.cps.size→q∈a5 x w i→du (T.set j (du T j p)) i q=du T i q:=fun i q h1 h2 hq=>by
  have:=(fe ho h2 hq).1;show q.1++(T.set j (du T j p)).getD (i+q.2) ""=q.1++T.getD (i+q.2) "";rw[gt _ (by omega)]
 obtain⟨p1,p2,p3,p4,p5⟩:=fe ho hj hp;refine⟨by rw[length_set,hl],by rw[gt _ hj];exact h.last,fun i h1 h2=>?_,fun i h1 h2=>?_,fun i h1 h2=>?_⟩
 ·by_cases hij:i=j
  ·subst hij;exact⟨p,hp,by rw[ge,tt _ _ (Nat.le_refl _) h2 hp],fun q hq=>by rw[tt _ _ (Nat.le_refl _) h2 hp,tt _ _ (Nat.le_refl _) h2 hq];exact hb q hq⟩
  ·obtain⟨r,hr,e,hs⟩:=h.best i (by omega) h2;exact⟨r,hr,by rw[gt _ (by omega),tt _ _ h1 h2 hr];exact e,fun q hq=>by rw[tt _ _ h1 h2 hr,tt _ _ h1 h2 hq];exact hs q hq⟩
 ·by_cases hij:i=j
  ·subst hij;have:=h.size (i+p.2) (by omega) p3;rw[ge,o8];omega
  ·rw[gt _ (by omega)];exact h.size i (by omega) h2
 ·by_cases hij:i=j
  ·subst hij;rw[ge];intro d hd;unfold du at hd;rw[Str.cps_append,Array.toList_append,mem_append] at hd;rcases hd with hd|hd
   ·exact p5 d hd
   ·exact h.ok (i+p.2) (by omega) p3 d hd
  ·rw[gt _ (by omega)];exact h.ok i (by omega) h2
noncomputable def jS:Nat→List D
 | 0=>[]
 | j+1=>.int (j:Nat)::jS j
theorem pe:∀n:Nat,jv ((n:Int)-1) (-1) n=jS n
 | 0=>rfl
 | n+1=>by
  show(List.range (n+1)).map (fun(i:Nat)=>D.int ((((n+1:Nat):Int)-1)+(i:Int)*(-1)))=.int (n:Nat)::jS n;rw[←pe n,range_succ_eq_map,map_cons,map_map];have e0:(((n+1:Nat):Int)-1)+((0:Nat):Int)*(-1)=(n:Int):=by omega
  rw[e0];congr 1;refine map_congr_left fun i _=>?_
  show D.int ((((n+1:Nat):Int)-1)+((i+1:Nat):Int)*(-1))=D.int (((n:Int)-1)+(i:Int)*(-1));congr 1;omega
section
variable {x:Str}{w:Nat}{M:ax}{a0:Option D}
noncomputable abbrev vE (a0:Option D)(w:Nat)(x:Str)(k:Nat)(d:Option D):aZ:=[a0,some (.int w),some (.str x),some (.mr k),d]
theorem qt (T:List Str):cS (.lst (T.map D.str))=true:=by
 show(T.map D.str).all (bn 30)=true;rw[all_map];exact all_eq_true.mpr fun _ _=>rfl
theorem wO {T:List Str}{j:Nat}(ho:fb x)(hx:x.cps.size≤5000)(hj:j<x.cps.size)(hM:M.all cS=true)(h:eM x w T (j+1)) :
  ∃T',eM x w T' j∧dJ (vE a0 w x M.length (some (.int j))) (M++[MO.lst (T.map D.str)])=.ok (.nx (vE a0 w x M.length (some (.int j)))) (M++[MO.lst (T'.map D.str)]):=by
 have hN:(M++[MO.lst (T.map D.str)]).all cS=true:=by rw[all_append,hM,all_cons,qt];rfl
 have hm:=k6 M (T.map D.str);have hs:∀T':List Str,(M++[MO.lst (T.map D.str)]).set M.length (.lst (T'.map D.str))=M++[MO.lst (T'.map D.str)]:=fun T'=>lq M _ _
 generalize M++[MO.lst (T.map D.str)]=N at *;have pk:=uC (w:=w) ho hx hj hN;obtain⟨p,hp,hb,e⟩:=wK (P:=a5 x w j) (at_:=j) hm (t9 hj) (Nat.le_trans re (by decide)) fun p hp=>by
  obtain⟨p1,p2,p3,p4,_⟩:=fe ho hj hp;have:=h.size (j+p.2) (by omega) p3;have:=h.len;exact⟨by omega,by omega,by omega⟩
 refine⟨_,su ho hj h hp hb,?_⟩;generalize (a5 x w j).map fA=PD at *;have g:av 3 eA (aa (av 3 fm (aa (af 2) (aa (af 1) (aa (af 4) ag)))) (aa (af 3) (aa (af 4) ag))) (vE a0 w x M.length (some (.int j))) N=.ok (.str (du T j p)) N:=
  tP (tP (x:=.str x) (M1:=N) rfl (y:=.int w) (M2:=N) rfl (z:=.int j) (M3:=N) rfl pk) (y:=.mr M.length) (M2:=N) rfl (z:=.int j) (M3:=N) rfl e
 have s:=zC (go:=af 3) (gi:=af 4) (i:=j) g rfl rfl hm (by rw[length_map,h.len];omega);rw[←map_set,hs] at s;exact s
theorem o6 {ds0:List D}(ho:fb x)(hx:x.cps.size≤5000)(hM:M.all cS=true):∀(j:Nat) (T:List Str) (d:Option D),j≤x.cps.size→eM x w T j→
  ∃T' d',eM x w T' 0∧b8 ⟨ds0,none⟩ (cw 4) dJ (jS j) (vE a0 w x M.length d) (M++[MO.lst (T.map D.str)])=.ok (.nx (vE a0 w x M.length d')) (M++[MO.lst (T'.map D.str)])
 | 0,T,d,_,h=>⟨T,d,h,rfl⟩
 | j+1,T,d,hj,h=>by
  obtain⟨T1,h1,e1⟩:=wO (a0:=a0) ho hx (show j<x.cps.size by omega) hM h;obtain⟨T2,d2,h2,e2⟩:=o6 (ds0:=ds0) ho hx hM j T1 (some (.int j)) (by omega) h1;refine⟨T2,d2,h2,?_⟩;show b8 ⟨ds0,none⟩ (cw 4) dJ (.int (j:Nat)::jS j) _ _=_;rw[b8,if_pos fP];show(dJ (vE a0 w x M.length (some (.int j))) _).bind _=_;rw[e1,ah];exact e2
end
theorem fI {w:Nat}:∀{rs:List (List Int)},eF w rs→rs.flatten.length=w*rs.length
 | [],_=>by simp
 | r::rs,h=>by
  rw[flatten_cons,length_append,fI (rs:=rs) fun y hy=>h y (mem_cons_of_mem _ hy),(h r mem_cons_self).1,length_cons,Nat.mul_succ];omega
theorem h9 {w:Nat}{rs:List (List Int)}(h:eF w rs):∀k∈rs.flatten,kT k:=fun k hk=>by
 obtain⟨r,hr,hk⟩:=mem_flatten.mp hk;exact(h r hr).2 k hk
theorem bp (ks:List Int):(ai ks).cps.size=ks.length:=by rw[←aK,bS,length_map]
theorem uG {rs:List (List Int)}{w:Nat}(h:eF w rs)(hw:w≤40)(hl:rs.length≤40):(eK rs).length≤100000:=by
 unfold eK;rw[lZ];have h1:=StrLaws.join_length_le "\n" (rs.map ai);have h2:((rs.map ai).map (·.length)).sum≤(rs.map ai).length*40:=StrLaws.sumLen_le _ fun y hy=>by
  obtain⟨r,hr,rfl⟩:=mem_map.mp hy;show(ai r).cps.size≤40;rw[bp,(h r hr).1];exact hw
 have l1:("\n":Str).length=1:=by decide +kernel
 rw[l1,length_map] at h1;rw[length_map] at h2;omega
theorem wu (n:Nat):(List.replicate n [D.str ""]).flatten=(List.replicate n ("":Str)).map D.str:=by
 induction n with
 | zero=>rfl
 | succ n ih=>rw[replicate_succ,flatten_cons,ih];rfl
theorem qC (x:Str)(w:Nat):eM x w (List.replicate (x.cps.size+1) "") x.cps.size:=by
 have g:∀i,(List.replicate (x.cps.size+1) ("":Str)).getD i ""="":=fun i=>by
  rw[List.getD,getElem?_replicate];split <;> rfl
 have z:("":Str).cps.size=0:=by decide +kernel
 refine⟨length_replicate,g _,fun i h1 h2=>absurd h1 (by omega),fun i h1 h2=>?_,fun i h1 h2=>?_⟩
 ·rw[g,z];exact Nat.zero_le _
 ·rw[g];exact yM
theorem qS {rs:List (List Int)}{w:Nat}{M:ax}(hrs:eF w rs)(h0:rs≠[])(hw:w≤40)(hl:rs.length≤40)(hM:M.all cS=true) :
  ∃T,eM (br rs) w T 0∧g5 [.lst (am rs)] M=.ok (.str (ai [(w:Int),(rs.length:Int)]++T.getD 0 "")) M:=by
 have hx0:(br rs).cps.size=w*rs.length:=by unfold br;rw[bp,fI hrs]
 have hx:(br rs).cps.size≤1600:=by rw[hx0];exact Nat.mul_le_mul hw hl
 have ho:fb (br rs):=jB (h9 hrs);obtain⟨T,d',hT,lp⟩:=o6 (w:=w) (M:=M) (a0:=some (.lst (am rs))) (ds0:=jS (br rs).cps.size) ho (by omega) hM (br rs).cps.size _ none (Nat.le_refl _) (qC (br rs) w);refine⟨T,hT,?_⟩;have ts:=hT.size 0 (Nat.le_refl _) (Nat.zero_le _);have tl:=hT.len;have lr:(am rs).length=rs.length:=length_map ..;have q1:aG aY (aa (g2 bJ (af 0) (gC (.int 0))) ag) [some (.lst (am rs)),none,none,none,none] M=.ok (.int w) M:=by
  cases rs with
  | nil=>exact absurd rfl h0
  | cons r rs=>
   refine de (aq (x:=.lst (am (r::rs))) (M1:=M) rfl (y:=.int 0) (M2:=M) rfl (o:=.ok (.lst (r.map D.int)) M) (gD (xs:=am (r::rs)) (k:=0) rfl)) ?_;show aF.ok (D.int ((r.map D.int).length:Int)) M=_;rw[length_map,(hrs r mem_cons_self).1]
 have q2:∀(a b c:Option D),rW "\n" "" (av 1 b9 (aa (af 0) ag)) [some (.lst (am rs)),some (.int w),a,b,c] M=.ok (.str (br rs)) M:=fun a b c=>by
  unfold rW;rw[fB (x:=.lst (am rs)) (M1:=M) rfl (nG (fun r hr=>⟨by rw[(hrs r hr).1];exact hw,(hrs r hr).2⟩) hl),ah];show(if(eK rs).length≤100000 then aF.ok (D.str (Txt.replace (eK rs) "\n" "")) M else .bad)=_;rw[if_pos (uG hrs hw hl),rZ h0 fun r hr=>(hrs r hr).2]
 have q5:∀(N:ax) (k:Nat) (d:Option D),av 1 cD (aa (cY (aa (af 1) (aa (aG aY (aa (af 0) ag)) ag))) ag) (vE (some (.lst (am rs))) w (br rs) k d) N=.ok (.str (ai [(w:Int),(rs.length:Int)])) N:=fun N k d=>by
  refine fB (eO (aV (d:=.int w) (M1:=N) rfl (aV (d:=.int rs.length) (M1:=N) (de (x:=.lst (am rs)) (M1:=N) rfl ?_) rfl))) (kL (ks:=[(w:Int),(rs.length:Int)]) (fun k hk=>?_) (show 2≤1000 by decide))
  ·show aF.ok (D.int ((am rs).length:Int)) N=_;rw[lr]
  ·rcases mem_cons.mp hk with rfl|hk
   ·exact⟨by omega,by omega⟩
   ·rw[mem_singleton.mp hk];exact⟨by omega,by omega⟩
 have t0:∀N:ax,N[M.length]?=some (.lst (T.map D.str))→bJ (.mr M.length) (.int 0) N=.ok (.str (T.getD 0 "")) N:=fun N hN=>lA (n:=0) hN (by omega)
 generalize br rs=x at *;generalize hn:x.cps.size=n at *;have q3:g2 sV (cY (aa (gC (.str "")) ag)) (g2 aA (aG aY (aa (af 2) ag)) (gC (.int 1))) [some (.lst (am rs)),some (.int w),some (.str x),none,none] M=.ok (.mr M.length) (M++[MO.lst ((List.replicate (n+1) ("":Str)).map D.str)]):=by
  refine aq (eO (ds:=[.str ""]) rfl) (aq (de (x:=.str x) (M1:=M) rfl (dQ (by omega) M)) (y:=.int 1) (M2:=M) rfl rfl) ?_;show(if 0≤((x.cps.size:Int)+1)∧((x.cps.size:Int)+1)≤100000∧[D.str ""].length*((x.cps.size:Int)+1).toNat≤100000 then aF.ok (D.mr M.length) (M++[MO.lst (List.replicate ((x.cps.size:Int)+1).toNat [D.str ""]).flatten]) else .bad)=_;rw[hn,show((n:Int)+1).toNat=n+1 by omega,if_pos ⟨by omega,by omega,by rw[length_singleton];omega⟩,wu]
 have q4:∀N:ax,mG (aa (aG aY (aa (af 2) ag)) ag) (vE (some (.lst (am rs))) w x M.length none) N=.ok ⟨jS n,none⟩ N:=fun N=>by
  unfold mG;rw[aV (de (x:=.str x) (M1:=N) rfl (dQ (by omega) N)) (ds:=[]) (M2:=N) rfl,ah];show(if 0≤(x.cps.size:Int)∧(x.cps.size:Int)≤100000 then aF.ok (⟨jv ((x.cps.size:Int)-1) (-1) (x.cps.size:Int).toNat,none⟩:j9) N else .bad)=_;rw[hn,if_pos ⟨by omega,by omega⟩,Int.toNat_natCast,pe]
 have q:eY [some (.lst (am rs)),none,none,none,none] M=.ok (.rt (.str (ai [(w:Int),(rs.length:Int)]++T.getD 0 ""))) (M++[MO.lst (T.map D.str)]):=by
  unfold eY;rw[az (aB q1)];show aj _ _ [some (.lst (am rs)),some (.int w),none,none,none] M=_;rw[az (aB (q2 _ _ _))];show aj _ _ [some (.lst (am rs)),some (.int w),some (.str x),none,none] M=_;rw[az (aB q3)];show aj _ _ (vE (some (.lst (am rs))) w x M.length none) _=_;rw[az (iB (q4 _) lp)];have hm:=k6 M (T.map D.str);generalize M++[MO.lst (T.map D.str)]=N at *;refine gN (aq (q5 N M.length d') (aq (x:=.mr M.length) (M1:=N) rfl (y:=.int 0) (M2:=N) rfl (t0 N hm)) (cP ?_ ?_ N))
  ·show(ai [(w:Int),(rs.length:Int)]).cps.size≤90000;rw[bp];exact(show 2≤90000 by decide)
  ·show(T.getD 0 "").cps.size≤90000;omega
 show eX M.length (aT (eY [some (.lst (am rs)),none,none,none,none] M))=_;rw[q];exact kr (d:=.str _) (E:=[MO.lst (T.map D.str)]) rfl hM
theorem nk (c:Nat):au c=-1∨0≤au c∧au c<64:=by
 unfold au;rcases StrLaws.occ_head df ⟨#[c]⟩ 1 (Nat.le_refl _) with⟨h,_⟩|⟨i,r,h,ha,_⟩
 ·exact .inl (td h)
 ·right;rw[qA h];have h1:=ha.1;have l1:(⟨#[c]⟩:Str).length=1:=rfl;have l2:df.length=64:=by decide +kernel
  rw[l1,l2] at h1;omega
noncomputable def gw (t:List Nat):Bool:=t.all fun c=>au c != -1
theorem wd (x:Str):((bj x).any (·==-1))=!gw x.cps.toList:=by
 unfold bj gw;rw[any_map]
 induction x.cps.toList with
 | nil=>rfl
 | cons c t ih=>
  rw[any_cons,all_cons,Bool.not_and,ih];show((au c==-1)||_)=((!(au c != -1))||_);rw[show(au c != -1)=!(au c==-1) from rfl,Bool.not_not]
noncomputable def eB (t:List Nat):D:=.lst ((t.map au).map D.int)
theorem xy {x:Str}{M:ax}(hx:x.cps.size≤100000):aO [.str x] M=if gw x.cps.toList then .ok (eB x.cps.toList) M else .err "NoText" M:=by
 rw[uK hx,wd];cases gw x.cps.toList with
 | true=>rfl
 | false=>rfl
theorem tF {xs:List D}{m:Nat}{M:ax}:bY [.lst xs,.int m] M=if xs.length=m then .ok (.lst xs) M else .err "NoText" M:=by
 have t:(aJ (g2 (a8 true) (aG aY (aa (af 0) ag)) (af 1))) [some (.lst xs),some (.int m)] M=.ok (!decide ((xs.length:Int)=m)) M:=aS (aq (de (x:=.lst xs) (M1:=M) rfl rfl) (y:=.int m) (M2:=M) rfl (pO _ _ M));show aT (gj [some (.lst xs),some (.int m)] M)=_;unfold gj
 by_cases h:xs.length=m
 ·rw[az (ρ1:=[some (.lst xs),some (.int m)]) (M1:=M) ((gJ (t.trans (by rw[decide_eq_true (show(xs.length:Int)=m by omega)];rfl))).trans rfl),if_pos h];rfl
 ·rw[eT (c:="NoText") (M1:=M) ((iD (t.trans (by rw[decide_eq_false (show¬(xs.length:Int)=m by omega)];rfl))).trans rfl),if_neg h];rfl
theorem uY {n:Nat}{F:FD}{a:GE}{r:GA}{ρ:aZ}{M M1:ax}{c:Str}(h:a ρ M=.err c M1):av n F (aa a r) ρ M=.err c M1:=by
 unfold av;have e:aa a r ρ M=.err c M1:=by
  unfold aa;rw[h];rfl
 rw[e];rfl
theorem uo {x:Str}{m:Nat}{M:ax}{ρ:aZ}{g gm:GE}(hx:x.cps.size≤100000)(h1:g ρ M=.ok (.str x) M)(h2:gm ρ M=.ok (.int m) M) :
  av 2 bY (aa (av 1 aO (aa g ag)) (aa gm ag)) ρ M=if gw x.cps.toList∧x.cps.size=m then .ok (eB x.cps.toList) M else .err "NoText" M:=by
 have r:=xy (M:=M) hx;cases q:gw x.cps.toList with
 | true=>
  rw[q,if_pos rfl] at r;refine(cN (fB h1 r) h2 (o:=if x.cps.size=m then .ok (eB x.cps.toList) M else .err "NoText" M) ?_).trans ?_
  ·unfold eB;rw[tF,length_map,length_map,aK]
  ·simp
 | false=>
  rw[q,if_neg Bool.false_ne_true] at r;have c:=fB h1 r;rw[if_neg (fun z=>by cases z.1)];exact uY c
noncomputable def lY (t:List Nat):Option Nat:=if gw t∧t.length=1∧au (t.getD 0 0)≠0 then some (au (t.getD 0 0)).toNat else none
theorem sW {t:List Nat}{m:Nat}(h:lY t=some m):1≤m∧m<64∧gw t=true∧t.length=1∧au (t.getD 0 0)=m:=by
 unfold lY at h;split at h
 ·rename_i hc;cases h
  match t,hc with
  | [c],hc=>
   have:=nk c;have h2:(au c != -1)=true:=by have:=hc.1;unfold gw at this;simpa using this
   have h3:au c≠-1:=by simpa using h2
   have h4:au c≠0:=hc.2.2;refine⟨?_,?_,hc.1,rfl,?_⟩
   ·show 1≤(au c).toNat;omega
   ·show(au c).toNat<64;omega
   ·show au c=((au c).toNat:Int);omega
 ·cases h
theorem ng {z:Str}{M:ax}(hz:z.cps.size≤100000):dz [.str z] M=match lY z.cps.toList with|some m=>.ok (.int (m:Nat)) M|none=>.err "NoText" M:=by
 have r:=uo (M:=M) (m:=1) (ρ:=[some (.str z),none]) (g:=af 0) (gm:=gC (.int 1)) hz rfl rfl;show aT (dG [some (.str z),none] M)=_;unfold dG lY
 by_cases h:gw z.cps.toList=true∧z.cps.size=1
 ·rw[if_pos h] at r;have h2:z.cps.toList.length=1:=by rw[aK];exact h.2
  generalize z.cps.toList=t at *
  match t,h2 with
  | [c],_=>
   have ix:bJ (eB [c]) (.int 0) M=.ok (.int (au c)) M:=gD (xs:=[.int (au c)]) (k:=0) rfl;rw[az (aB (aq r (y:=.int 0) (M2:=M) rfl ix))];show aT (aj _ _ [some (.str z),some (.int (au c))] M)=_;have tt:(aJ (g2 (a8 false) (af 1) (gC (.int 0)))) [some (.str z),some (.int (au c))] M=.ok (decide (au c=0)) M:=aS (aq (x:=.int (au c)) (M1:=M) rfl (y:=.int 0) (M2:=M) rfl (gW _ _ M))
   by_cases hc:au c=0
   ·rw[eT (c:="NoText") (M1:=M) ((iD (tt.trans (by rw[decide_eq_true hc]))).trans rfl),if_neg (fun z=>z.2.2 hc)];rfl
   ·have f:=nk c;have h3:au c≠-1:=by have:=h.1;unfold gw at this;simpa using this
    rw[az (ρ1:=[some (.str z),some (.int (au c))]) (M1:=M) ((gJ (tt.trans (by rw[decide_eq_false hc]))).trans rfl),if_pos ⟨h.1,rfl,hc⟩];show aF.ok (D.int (au c)) M=.ok (.int (((au c).toNat:Nat):Int)) M;rw[show(((au c).toNat:Nat):Int)=au c by omega]
 ·rw[if_neg h] at r;have e:g2 bJ (av 2 bY (aa (av 1 aO (aa (af 0) ag)) (aa (gC (.int 1)) ag))) (gC (.int 0)) [some (.str z),none] M=.err "NoText" M:=by
   unfold DL.g2;rw[r];rfl
  have e2:aw 1 (g2 bJ (av 2 bY (aa (av 1 aO (aa (af 0) ag)) (aa (gC (.int 1)) ag))) (gC (.int 0))) [some (.str z),none] M=.err "NoText" M:=by
   unfold aw;rw[e];rfl
  rw[eT e2,if_neg (fun q=>h ⟨q.1,by rw[←aK];exact q.2.1⟩)];rfl
noncomputable def u7 (w:Nat):Nat→List Int→List Int
 | 0,hs=>hs
 | m+1,hs=>u7 w m (hs++[hs.getD (hs.length-w) 0])
noncomputable def gu (x:Str)(w at_:Nat)(hs:List Int):Option (Nat×List Int):=
 match lY ((x.cps.toList.drop (at_+1)).take 1) with
 | none=>none
 | some m=>
  if x.cps.toList.getD at_ 0=33 then(if gw ((x.cps.toList.drop (at_+2)).take m)∧((x.cps.toList.drop (at_+2)).take m).length=m then some (at_+2+m,hs++((x.cps.toList.drop (at_+2)).take m).map au) else none)
  else if x.cps.toList.getD at_ 0=42 then(if gw ((x.cps.toList.drop (at_+2)).take 1)∧((x.cps.toList.drop (at_+2)).take 1).length=1 then some (at_+3,hs++List.replicate m (au (((x.cps.toList.drop (at_+2)).take 1).getD 0 0))) else none)
  else if x.cps.toList.getD at_ 0=94∧w≤hs.length then some (at_+2,u7 w m hs) else none
theorem ph (w:Nat):∀(m:Nat) (hs:List Int),(u7 w m hs).length=hs.length+m
 | 0,hs=>rfl
 | m+1,hs=>by
  show(u7 w m (hs++[hs.getD (hs.length-w) 0])).length=_;rw[ph w m,length_append,length_singleton];omega
theorem uj {F:List D→List D→Option (D×List D)}{go:GE}{ga:GA}{ρ:aZ}{M M1:ax}{k:Nat}{xs:List D}{c:Str}(h1:go ρ M=.ok (.mr k) M)(h2:nF M k=some xs)(h3:ga ρ M=.err c M1):nM F go ga ρ M=.err c M1:=by
 unfold nM;rw[h1,ah];dsimp only;rw[h2];dsimp only;rw[h3];rfl
theorem pG {g:GE}{r:GA}{ρ:aZ}{M M1:ax}{c:Str}(h:g ρ M=.err c M1):aa g r ρ M=.err c M1:=by
 unfold aa;rw[h];rfl
theorem pr {g:GE}{ρ:aZ}{M M1:ax}{c:Str}(h:g ρ M=.err c M1):dj g ρ M=.err c M1:=by
 unfold dj;rw[h];rfl
theorem nX {i:Nat}{g:GE}{ρ:aZ}{M M1:ax}{c:Str}(h:g ρ M=.err c M1):aw i g ρ M=.err c M1:=by
 unfold aw;rw[h];rfl
theorem zh {f:F2}{a b:GE}{ρ:aZ}{M M1:ax}{c:Str}(h:a ρ M=.err c M1):g2 f a b ρ M=.err c M1:=by
 unfold DL.g2;rw[h];rfl
theorem ud {xs ys:List D}(h:xs.length+ys.length≤1000000):iL xs [.lst ys]=some (.non,xs++ys):=by
 show(if xs.length+ys.length≤sizeLine then some (D.non,xs++ys) else none)=_;rw[if_pos (ba h)]
theorem o9 {M:ax}{k:Nat}{xs:List D}(h:M[k]?=some (.lst xs)):nF M k=some xs:=by simp[nF,h]
theorem xY {xs:List D}{w:Nat}{d:D}{M:ax}{k:Nat}(hm:M[k]?=some (.lst xs))(h1:1≤w)(h2:w≤xs.length)(h:xs[xs.length-w]?=some d):bJ (.mr k) (.int (-(w:Int))) M=.ok d M:=by
 have a:j6 xs (-(w:Int))=some d:=by
  unfold j6 nW;rw[if_neg (by omega),if_pos (by omega)];show xs[(-(w:Int)+(xs.length:Int)).toNat]?=some d;rw[show(-(w:Int)+(xs.length:Int)).toNat=xs.length-w by omega];exact h
 show ot (.mr k) (.int (-(w:Int))) M=_;unfold ot;rw[jR hm];dsimp only;rw[a]
section
variable {x:Str}{w at_ k:Nat}{M:ax}{hs:List Int}
noncomputable abbrev rE (x:Str)(w at_ k:Nat)(a b c d:Option D):aZ:=[some (.str x),some (.int at_),some (.int w),some (.mr k),a,b,c,d]
theorem tU {ds0:List D}{a b c:Option D}(h1:1≤w):∀(ds:List D) (hs:List Int) (d:Option D) (M:ax),w≤hs.length→hs.length+ds.length≤900000→M[k]?=some (.lst (hs.map D.int))→
  ∃d',b8 ⟨ds0,none⟩ (cw 7) cn ds (rE x w at_ k a b c d) M=.ok (.nx (rE x w at_ k a b c d')) (M.set k (.lst ((u7 w ds.length hs).map D.int)))
 | [],hs,d,M,h2,h3,hm=>⟨d,by
   have:M.set k (.lst (hs.map D.int))=M:=by
    apply ext_getElem?;intro i;rw[getElem?_set];split
    ·rename_i e;subst e;split
     ·exact hm.symm
     ·rename_i hl;rw[getElem?_eq_none (by omega)]
    ·rfl
   show aF.ok _ M=_;show aF.ok _ M=.ok _ (M.set k (.lst (hs.map D.int)));rw[this]⟩
 | e::ds,hs,d,M,h2,h3,hm=>by
  rw[length_cons] at h3;have hn:hs.length-w<hs.length:=by omega
  have v:bJ (.mr k) (.int (-(w:Int))) M=.ok (.int (hs.getD (hs.length-w) 0)) M:=xY hm h1 (by rw[length_map];exact h2) (by rw[length_map,getElem?_map,getElem?_eq_getElem hn,List.getD,getElem?_eq_getElem hn];rfl);have ap:iY (af 3) (g2 bJ (af 3) (kb (af 2))) (rE x w at_ k a b c (some e)) M=.ok .non (M.set k (.lst (hs.map D.int++[.int (hs.getD (hs.length-w) 0)]))):=
   uJ (k:=k) rfl hm (aq (x:=.mr k) (M1:=M) rfl (y:=.int (-(w:Int))) (M2:=M) rfl v) hm (by rw[length_map];omega)
  have kl:k<M.length:=(List.getElem?_eq_some_iff.mp hm).1;obtain⟨d',q⟩:=tU (ds0:=ds0) (a:=a) (b:=b) (c:=c) h1 ds (hs++[hs.getD (hs.length-w) 0]) (some e) (M.set k (.lst ((hs++[hs.getD (hs.length-w) 0]).map D.int))) (by rw[length_append];omega) (by rw[length_append,length_singleton];omega) (by rw[getElem?_set,if_pos rfl,if_pos kl]);refine⟨d',?_⟩;rw[b8,if_pos fP];show(cn (rE x w at_ k a b c (some e)) M).bind _=_;have bb:cn (rE x w at_ k a b c (some e)) M=.ok (.nx (rE x w at_ k a b c (some e))) (M.set k (.lst ((hs++[hs.getD (hs.length-w) 0]).map D.int))):=by
   rw[map_append];exact jf ap
  rw[bb,ah];rw[set_set] at q;exact q
end
section
variable {x:Str}{w at_ k:Nat}{M:ax}{hs:List Int}
theorem EJ:("!":Str)=⟨#[33]⟩:=by decide +kernel
theorem EK:("*":Str)=⟨#[42]⟩:=by decide +kernel
theorem EI:("^":Str)=⟨#[94]⟩:=by decide +kernel
theorem uk {c n:Nat}{v:Str}{ρ:aZ}(hv:v=⟨#[n]⟩)(hn:n<0x110000)(hc:c<0x110000)(h:ρ[4]?=some (some (.str ⟨#[c]⟩))):(aJ (g2 (a8 false) (af 4) (gC (.str v)))) ρ M=.ok (decide (c=n)) M:=by
 subst hv;exact aS (aq (x:=.str ⟨#[c]⟩) (M1:=M) (by unfold af;rw[h]) (y:=.str ⟨#[n]⟩) (M2:=M) rfl (sO hc hn M))
theorem xN {c n:Nat}{v:Str}{ρ:aZ}(hv:v=⟨#[n]⟩)(hn:n<0x110000)(hc:c<0x110000)(h:ρ[4]?=some (some (.str ⟨#[c]⟩))):(aJ (g2 (a8 true) (af 4) (gC (.str v)))) ρ M=.ok (!decide (c=n)) M:=by
 subst hv;refine aS (aq (x:=.str ⟨#[c]⟩) (M1:=M) (by unfold af;rw[h]) (y:=.str ⟨#[n]⟩) (M2:=M) rfl ?_);rw[E2 (gV hc) (gV hn)];congr 2;congr 1;exact decide_eq_decide.mpr pF
noncomputable def AH:GS:=(aj (dj (nM iL (af 3) (aa (av 2 bY (aa (av 1 aO (aa (cy (af 0) (aD (af 6)) (aD (g2 aA (af 6) (af 5)))) ag)) (aa (af 5) ag))) ag))) (bF (g2 aA (af 6) (af 5))))
noncomputable def AN:GS:=(aj (dj (nM iL (af 3) (aa (g2 ka (av 2 bY (aa (av 1 aO (aa (cy (af 0) (aD (af 6)) (aD (g2 aA (af 6) (gC (.int 1))))) ag)) (aa (gC (.int 1)) ag))) (af 5)) ag))) (bF (g2 aA (af 6) (gC (.int 1)))))
noncomputable def EQ:GT:=(fF (aJ (g2 (a8 true) (af 4) (gC (.str "^")))) (aJ (g2 i5 (aG aY (aa (af 3) ag)) (af 2))))
noncomputable def DZ:GS:=(aj (fc EQ (cr "NoText" (gC (.str "there is no such part, or nothing above its spots"))) a9) (aj (ij (cQ (aa (af 5) ag)) (cw 7) cn) (bF (af 6))))
theorem CM (ρ:aZ)(M:ax):eG ρ M=aj (aw 4 (g2 bJ (af 0) (af 1))) (aj (aw 5 (av 1 dz (aa (cy (af 0) (aD (g2 aA (af 1) (gC (.int 1)))) (aD (g2 aA (af 1) (gC (.int 2))))) ag))) (aj (aw 6 (g2 aA (af 1) (gC (.int 2)))) (aj (fc (aJ (g2 (a8 false) (af 4) (gC (.str "!")))) AH a9) (aj (fc (aJ (g2 (a8 false) (af 4) (gC (.str "*")))) AN a9) DZ)))) ρ M:=rfl
noncomputable abbrev rF (x:Str)(w at_ k c m:Nat):aZ:=rE x w at_ k (some (.str ⟨#[c]⟩)) (some (.int m)) (some (.int ((at_+2:Nat):Int))) none
noncomputable def wZ (M:ax)(k:Nat):Option (Nat×List Int)→aF D
 | some (a,hs)=>.ok (.int (a:Nat)) (M.set k (.lst (hs.map D.int)))
 | none=>.err "NoText" M
theorem Em {c m:Nat}(hx:x.cps.size≤5000)(hm:m<64)(hh:hs.length≤500000)(hM:M[k]?=some (.lst (hs.map D.int))) :
  aT (AH (rF x w at_ k c m) M)=wZ M k (if gw ((x.cps.toList.drop (at_+2)).take m)∧((x.cps.toList.drop (at_+2)).take m).length=m then some (at_+2+m,hs++((x.cps.toList.drop (at_+2)).take m).map au) else none):=by
 have cs:=lh (x:=x) (i:=at_+2) (j:=at_+2+m) (by omega);have cc:=f9 (x:=x) (i:=at_+2) (j:=at_+2+m) (by omega);rw[show at_+2+m-(at_+2)=m by omega] at cc;have sl:cy (af 0) (aD (af 6)) (aD (g2 aA (af 6) (af 5))) (rF x w at_ k c m) M=.ok (.str (cJ x (some ((at_+2:Nat):Int)) (some ((at_+2+m:Nat):Int)))) M:=
  dX (x:=.str x) (M1:=M) rfl (lo:=some ((at_+2:Nat):Int)) (M2:=M) rfl (hi:=some ((at_+2+m:Nat):Int)) (M3:=M) rfl (fZ (by omega) M)
 have z:=iP (x:=x) (lo:=some ((at_+2:Nat):Int)) (hi:=some ((at_+2+m:Nat):Int));have r:=uo (m:=m) (gm:=af 5) (by omega) sl rfl;have ll:=aK (cJ x (some ((at_+2:Nat):Int)) (some ((at_+2+m:Nat):Int)));rw[←ll,cc] at r;generalize ht:(x.cps.toList.drop (at_+2)).take m=t at *;unfold AH
 by_cases q:gw t=true∧t.length=m
 ·rw[if_pos q] at r ⊢;have g:=uf (F:=iL) (go:=af 3) (ρ:=rF x w at_ k c m) (ds:=[eB t]) rfl (o9 hM) (aV (r:=ag) r rfl) (ud (ys:=(t.map au).map D.int) (by rw[length_map,length_map,length_map,q.2];omega));rw[az (jf g)];show aT (bF _ (rF x w at_ k c m) _)=_;show aF.ok (D.int ((at_+2+m:Nat):Int)) (M.set k (.lst (hs.map D.int++(t.map au).map D.int)))=_;rw[←map_append];rfl
 ·rw[if_neg q] at r ⊢;rw[eT (pr (uj (F:=iL) (go:=af 3) rfl (o9 hM) (pG r)))];rfl
theorem Dq {c m:Nat}(hx:x.cps.size≤5000)(hm:m<64)(hh:hs.length≤500000)(hM:M[k]?=some (.lst (hs.map D.int))) :
  aT (AN (rF x w at_ k c m) M)=wZ M k (if gw ((x.cps.toList.drop (at_+2)).take 1)∧((x.cps.toList.drop (at_+2)).take 1).length=1 then some (at_+3,hs++List.replicate m (au (((x.cps.toList.drop (at_+2)).take 1).getD 0 0))) else none):=by
 have cc:=f9 (x:=x) (i:=at_+2) (j:=at_+3) (by omega);rw[show at_+3-(at_+2)=1 by omega] at cc;have sl:cy (af 0) (aD (af 6)) (aD (g2 aA (af 6) (gC (.int 1)))) (rF x w at_ k c m) M=.ok (.str (cJ x (some ((at_+2:Nat):Int)) (some ((at_+3:Nat):Int)))) M:=
  dX (x:=.str x) (M1:=M) rfl (lo:=some ((at_+2:Nat):Int)) (M2:=M) rfl (hi:=some ((at_+3:Nat):Int)) (M3:=M) rfl (fZ (by omega) M)
 have z:=iP (x:=x) (lo:=some ((at_+2:Nat):Int)) (hi:=some ((at_+3:Nat):Int));have r:=uo (m:=1) (gm:=gC (.int 1)) (by omega) sl rfl;have ll:=aK (cJ x (some ((at_+2:Nat):Int)) (some ((at_+3:Nat):Int)));rw[←ll,cc] at r;generalize ht:(x.cps.toList.drop (at_+2)).take 1=t at *;unfold AN
 by_cases q:gw t=true∧t.length=1
 ·rw[if_pos q] at r ⊢
  match t,q.2 with
  | [v],_=>
   have mu:ka (eB [v]) (.int m) M=.ok (.lst ((List.replicate m (au v)).map D.int)) M:=by
    show(if 0≤(m:Int)∧(m:Int)≤100000∧[D.int (au v)].length*(m:Int).toNat≤100000 then aF.ok (D.lst (List.replicate (m:Int).toNat [D.int (au v)]).flatten) M else .bad)=_;rw[if_pos ⟨by omega,by omega,by rw[length_singleton,Int.toNat_natCast];omega⟩,Int.toNat_natCast,pQ]
   have g:=uf (F:=iL) (go:=af 3) (ρ:=rF x w at_ k c m) (ds:=[.lst ((List.replicate m (au v)).map D.int)]) rfl (o9 hM) (aV (r:=ag) (aq r (b:=af 5) (y:=.int m) (M2:=M) rfl mu) rfl) (ud (ys:=(List.replicate m (au v)).map D.int) (by rw[length_map,length_map,length_replicate];omega));rw[az (jf g)];show aF.ok (D.int ((at_+3:Nat):Int)) (M.set k (.lst (hs.map D.int++(List.replicate m (au v)).map D.int)))=_;rw[←map_append];rfl
 ·rw[if_neg q] at r ⊢;rw[eT (pr (uj (F:=iL) (go:=af 3) rfl (o9 hM) (pG (zh r))))];rfl
theorem Ej {c m:Nat}(h1:1≤w)(hc:c<0x110000)(hm:m<64)(hh:hs.length≤500000)(hM:M[k]?=some (.lst (hs.map D.int))) :
  aT (DZ (rF x w at_ k c m) M)=wZ M k (if c=94∧w≤hs.length then some (at_+2,u7 w m hs) else none):=by
 have t:EQ (rF x w at_ k c m) M=.ok (!decide (c=94)||decide ((hs.length:Int)<w)) M:=by
  refine iu (xN EI (by decide) hc rfl) fun _=>aS (aq (de (x:=.mr k) (M1:=M) rfl (oj hM)) (y:=.int w) (M2:=M) rfl ?_)
  rw[length_map];rfl
 unfold DZ
 by_cases q:c=94∧w≤hs.length
 ·rw[if_pos q,az (ρ1:=rF x w at_ k c m) (M1:=M) ((gJ (t.trans (by rw[decide_eq_true q.1,decide_eq_false (show¬(hs.length:Int)<w by omega)];rfl))).trans rfl)];obtain⟨d',f⟩:=tU (x:=x) (at_:=at_) (k:=k) (ds0:=aN 0 m) (a:=some (.str ⟨#[c]⟩)) (b:=some (.int m)) (c:=some (.int ((at_+2:Nat):Int))) h1 (aN 0 m) hs none M q.2 (by simp[aN];omega) hM;have lm:(aN 0 m).length=m:=by simp[aN]
  rw[lm] at f;rw[az (iB (f6 (n:=m) (aV (d:=.int m) (M1:=M) rfl rfl) (by omega)) f)];rfl
 ·rw[if_neg q,eT (c:="NoText") (M1:=M) ((iD (t.trans (by
   by_cases q2:c=94
   ·rw[decide_eq_true q2,decide_eq_true (show(hs.length:Int)<w by have:¬w≤hs.length:=fun z=>q ⟨q2,z⟩;omega)];rfl
   ·rw[decide_eq_false q2];rfl))).trans rfl)]
  rfl
noncomputable def vN (o:aF Fl):Prop:=∀ρ M,o≠.ok (.nx ρ) M
theorem o0 {a b:GS}{ρ:aZ}{M:ax}(h:vN (a ρ M)):aT (aj a b ρ M)=aT (a ρ M):=by
 unfold aj;cases q:a ρ M with
 | err c M1=>rfl
 | bad=>rfl
 | ok f M1=>
  cases f with
  | nx ρ1=>exact absurd q (h ρ1 M1)
  | rt d=>rfl
  | bk ρ1=>rfl
  | ct ρ1=>rfl
theorem mD {a:GS}{g:GE}{ρ:aZ}{M:ax}:vN (aj a (bF g) ρ M):=fun ρ' M' h=>by
 unfold aj at h;cases q:a ρ M with
 | err c M1=>rw[q] at h;cases h
 | bad=>rw[q] at h;cases h
 | ok f M1=>
  rw[q] at h;cases f with
  | nx ρ1=>
   have h:bF g ρ1 M1=.ok (.nx ρ') M':=h;unfold bF at h;cases q2:g ρ1 M1 with
   | ok d M2=>rw[q2] at h;cases h
   | err c M2=>rw[q2] at h;cases h
   | bad=>rw[q2] at h;cases h
  | rt d=>cases h
  | bk ρ1=>cases h
  | ct ρ1=>cases h
theorem vK {ρ:aZ}{M:ax}:vN (AH ρ M):=mD
theorem wl {ρ:aZ}{M:ax}:vN (AN ρ M):=mD
theorem wH (ho:fb x)(hx:x.cps.size≤5000)(ha:at_<x.cps.size)(h1:1≤w)(hh:hs.length≤500000)(hM:M[k]?=some (.lst (hs.map D.int))) :
  eI [.str x,.int at_,.int w,.mr k] M=wZ M k (gu x w at_ hs):=by
 have hc:=pI ho ha;have cc:=f9 (x:=x) (i:=at_+1) (j:=at_+2) (by omega);rw[show at_+2-(at_+1)=1 by omega] at cc;have z:=iP (x:=x) (lo:=some ((at_+1:Nat):Int)) (hi:=some ((at_+2:Nat):Int));have ct:=ng (M:=M) (z:=cJ x (some ((at_+1:Nat):Int)) (some ((at_+2:Nat):Int))) (by omega);rw[cc] at ct;have sl:∀a b c d,cy (af 0) (aD (g2 aA (af 1) (gC (.int 1)))) (aD (g2 aA (af 1) (gC (.int 2)))) (rE x w at_ k a b c d) M=.ok (.str (cJ x (some ((at_+1:Nat):Int)) (some ((at_+2:Nat):Int)))) M:=fun a b c d=>
  dX (x:=.str x) (M1:=M) rfl (lo:=some ((at_+1:Nat):Int)) (M2:=M) rfl (hi:=some ((at_+2:Nat):Int)) (M3:=M) rfl (fZ (by omega) M)
 show aT (eG (rE x w at_ k none none none none) M)=_;have i0:=fK (jE ha) (show x.cps.size≤90000 by omega) M;unfold gu;rw[CM,az (aB (aq (x:=.str x) (M1:=M) rfl (y:=.int at_) (M2:=M) rfl i0))];show aT (aj _ _ (rE x w at_ k (some (.str ⟨#[x.cps.toList.getD at_ 0]⟩)) none none none) M)=_;generalize x.cps.toList.getD at_ 0=c at *;cases q:lY ((x.cps.toList.drop (at_+1)).take 1) with
 | none=>
  rw[q] at ct;rw[eT (nX (fB (sl _ _ _ _) ct))];rfl
 | some m=>
  rw[q] at ct;have hm:=(sW q).2.1;rw[az (aB (fB (sl _ _ _ _) ct))];show aT (aj _ _ (rE x w at_ k (some (.str ⟨#[c]⟩)) (some (.int m)) none none) M)=_;rw[az (aB (d:=.int ((at_+2:Nat):Int)) (M1:=M) rfl)];show aT (aj _ _ (rF x w at_ k c m) M)=_;have t1:=uk (M:=M) (c:=c) (ρ:=rF x w at_ k c m) EJ (by decide) hc rfl;have t2:=uk (M:=M) (c:=c) (ρ:=rF x w at_ k c m) EK (by decide) hc rfl;dsimp only
  by_cases q1:c=33
  ·rw[if_pos q1];have e:=Em (x:=x) (w:=w) (at_:=at_) (c:=c) hx hm hh hM;have s:fc (aJ (g2 (a8 false) (af 4) (gC (.str "!")))) AH a9 (rF x w at_ k c m) M=AH (rF x w at_ k c m) M:=iD (t1.trans (by rw[decide_eq_true q1]));rw[←e,←s];exact o0 (by rw[s];exact vK)
  ·rw[if_neg q1,az (ρ1:=rF x w at_ k c m) (M1:=M) ((gJ (t1.trans (by rw[decide_eq_false q1]))).trans rfl)]
   by_cases q2:c=42
   ·rw[if_pos q2];have e:=Dq (x:=x) (w:=w) (at_:=at_) (c:=c) hx hm hh hM;have s:fc (aJ (g2 (a8 false) (af 4) (gC (.str "*")))) AN a9 (rF x w at_ k c m) M=AN (rF x w at_ k c m) M:=iD (t2.trans (by rw[decide_eq_true q2]));rw[←e,←s];exact o0 (by rw[s];exact wl)
   ·rw[if_neg q2,az (ρ1:=rF x w at_ k c m) (M1:=M) ((gJ (t2.trans (by rw[decide_eq_false q2]))).trans rfl)];exact Ej h1 hc hm hh hM
end
noncomputable def iN (x:Str)(w:Nat):Nat→Nat→List Int→Option (List Int)
 | 0,_,_=>none
 | f+1,a,hs=>if a<x.cps.size then(match gu x w a hs with|some (b,hs')=>iN x w f b hs'|none=>none) else some hs
theorem pV {x:Str}{w a b:Nat}{hs hs':List Int}(h:gu x w a hs=some (b,hs')):a+2≤b∧hs'.length≤hs.length+63∧hs.length≤hs'.length:=by
 unfold gu at h;split at h
 ·cases h
 ·rename_i m q;have hm:=(sW q).2.1;split at h
  ·split at h
   ·rename_i hc;cases h;refine⟨by omega,?_,?_⟩ <;> rw[length_append,length_map,hc.2] <;> omega
   ·cases h
  ·split at h
   ·split at h
    ·cases h;refine⟨by omega,?_,?_⟩ <;> rw[length_append,length_replicate] <;> omega
    ·cases h
   ·split at h
    ·cases h;refine⟨by omega,?_,?_⟩ <;> rw[ph] <;> omega
    ·cases h
theorem jq {c:Str}{M E:ax}(hM:M.all cS=true):eX M.length (.err c (M++E))=.err c M:=by
 unfold eX
 by_cases h:(M++E).length=M.length
 ·have:E=[]:=by
   rw[length_append] at h;exact length_eq_zero_iff.mp (by omega)
  subst this;simp
 ·simp only[if_neg h];rw[take_left,c0 hM]
section
variable {x:Str}{w:Nat}{M:ax}
noncomputable abbrev nE (x:Str)(w h k a:Nat):aZ:=[some (.str x),some (.int w),some (.int h),some (.mr k),some (.int a)]
theorem sy {t:GT}{b:GS}{n:Nat}{ρ:aZ}{M M1 M2:ax}{c:Str}(h1:t ρ M=.ok true M1)(h2:b ρ M1=.err c M2):bq t b (n+1) ρ M=.err c M2:=by
 rw[bq,h1,ah,if_pos rfl,h2];rfl
theorem pJ {h:Nat}(ho:fb x)(hx:x.cps.size≤5000)(h1:1≤w):∀(f a:Nat) (hs:List Int) (n:Nat),x.cps.size<a+f→1≤f→hs.length≤63*a→f<n→
  (∃hs' a',iN x w f a hs=some hs'∧bq cb b7 n (nE x w h M.length a) (M++[MO.lst (hs.map D.int)])=.ok (.nx (nE x w h M.length a')) (M++[MO.lst (hs'.map D.int)]))∨
  (∃E,iN x w f a hs=none∧bq cb b7 n (nE x w h M.length a) (M++[MO.lst (hs.map D.int)])=.err "NoText" (M++E))
 | f,a,hs,0,hf,hf1,hl,hn=>absurd hn (Nat.not_lt_zero _)
 | f,a,hs,n+1,hf,hf1,hl,hn=>by
  have t:∀N,cb (nE x w h M.length a) N=.ok (decide ((a:Int)<x.cps.size)) N:=fun N=>aS (aq (x:=.int a) (M1:=N) rfl (de (x:=.str x) (M1:=N) rfl (dQ (by omega) N)) rfl)
  have hm:=k6 M (hs.map D.int)
  by_cases ha:a<x.cps.size
  ·cases f with
   | zero=>omega
   | succ f=>
    have p:=wH (M:=M++[MO.lst (hs.map D.int)]) (k:=M.length) (w:=w) ho hx ha h1 (by omega) hm;have hr:iN x w (f+1) a hs=match gu x w a hs with|some (b,hs')=>iN x w f b hs'|none=>none:=by rw[iN,if_pos ha]
    have tt:=(t (M++[MO.lst (hs.map D.int)])).trans (by rw[decide_eq_true (show(a:Int)<x.cps.size by omega)]);cases q:gu x w a hs with
    | none=>
     rw[q] at p hr;refine .inr ⟨[MO.lst (hs.map D.int)],hr,?_⟩;refine sy tt ?_;exact nX (xx (x:=.str x) (M1:=M++[MO.lst (hs.map D.int)]) rfl (y:=.int a) (M2:=M++[MO.lst (hs.map D.int)]) rfl (z:=.int w) (M3:=M++[MO.lst (hs.map D.int)]) rfl (u:=.mr M.length) (M4:=M++[MO.lst (hs.map D.int)]) rfl p)
    | some r=>
     obtain⟨b,hs'⟩:=r;rw[q] at p hr;obtain⟨s1,s2,_⟩:=pV q;have p:eI [.str x,.int a,.int w,.mr M.length] (M++[MO.lst (hs.map D.int)])=.ok (.int (b:Nat)) ((M++[MO.lst (hs.map D.int)]).set M.length (.lst (hs'.map D.int))):=p;rw[lq] at p;have bb:b7 (nE x w h M.length a) (M++[MO.lst (hs.map D.int)])=.ok (.nx (nE x w h M.length b)) (M++[MO.lst (hs'.map D.int)]):=aB (i:=4) (xx (x:=.str x) (M1:=M++[MO.lst (hs.map D.int)]) rfl (y:=.int a) (M2:=M++[MO.lst (hs.map D.int)]) rfl (z:=.int w) (M3:=M++[MO.lst (hs.map D.int)]) rfl (u:=.mr M.length) (M4:=M++[MO.lst (hs.map D.int)]) rfl p);rw[fR tt bb,hr];exact pJ ho hx h1 f b hs' n (by omega) (by omega) (by omega) (by omega)
  ·refine .inl ⟨hs,a,?_,bQ ((t _).trans (by rw[decide_eq_false (show¬(a:Int)<x.cps.size by omega)]))⟩;cases f with
   | zero=>omega
   | succ f=>rw[iN,if_neg ha]
end
noncomputable def nJ (w h:Nat)(hs:List Int):List (List Int):=(List.range h).map fun i=>(hs.drop (i*w)).take w
noncomputable def pv (x:Str):Option (List (List Int)):=
 if gw (x.cps.toList.take 2)∧(x.cps.toList.take 2).length=2∧(1≤au (x.cps.toList.getD 0 0)∧au (x.cps.toList.getD 0 0)≤40)∧(1≤au (x.cps.toList.getD 1 0)∧au (x.cps.toList.getD 1 0)≤40) then
  match iN x (au (x.cps.toList.getD 0 0)).toNat (x.cps.size+1) 2 [] with
  | some hs=>if hs.length=(au (x.cps.toList.getD 0 0)).toNat*(au (x.cps.toList.getD 1 0)).toNat then some (nJ (au (x.cps.toList.getD 0 0)).toNat (au (x.cps.toList.getD 1 0)).toNat hs) else none
  | none=>none
 else none
theorem vO (x:Str):(cJ x none (some 2)).cps.toList=x.cps.toList.take 2:=by
 unfold cJ;rw[HT.sIx_none,show(2:Int)=((2:Nat):Int) from rfl,HT.sIx_nat,drop_zero,Nat.sub_zero,toList_toArray]
 by_cases h:2≤x.length
 ·rw[Nat.min_eq_left h]
 ·have hl:x.cps.toList.length=x.length:=aK x;rw[Nat.min_eq_right (by omega),take_of_length_le (by omega),take_of_length_le (by omega)]
theorem Bn {k:Int}{ρ:aZ}{M:ax}:bO (some (.int k)::ρ) M=.ok (.bl (decide (1≤k)&&decide (k≤40))) M:=by
 unfold bO uQ
 by_cases h:1≤k <;> simp[gC,af,vW,ah,h]
theorem wv {x:Str}{M:ax}(hx:x.cps.size≤5000) :
  dh [.str (cJ x none (some 2))] M=if gw (x.cps.toList.take 2)∧(x.cps.toList.take 2).length=2∧(1≤au (x.cps.toList.getD 0 0)∧au (x.cps.toList.getD 0 0)≤40)∧(1≤au (x.cps.toList.getD 1 0)∧au (x.cps.toList.getD 1 0)≤40) then .ok (.lst [.int (au (x.cps.toList.getD 0 0)),.int (au (x.cps.toList.getD 1 0))]) M else .err "NoText" M:=by
 have z:=iP (x:=x) (lo:=none) (hi:=some 2);have r:=xy (M:=M) (x:=cJ x none (some 2)) (by omega);have c2:=vO x;rw[c2] at r;generalize cJ x none (some 2)=y at *;show aT (ey [some (.str y),none] M)=_;unfold ey;cases q:gw (x.cps.toList.take 2) with
 | false=>
  rw[q,if_neg Bool.false_ne_true] at r;rw[eT (nX (fB (x:=.str y) (M1:=M) rfl r)),if_neg (fun q=>by cases q.1)];rfl
 | true=>
  rw[q,if_pos rfl] at r;rw[az (aB (fB (x:=.str y) (M1:=M) rfl r))];show aT (aj _ _ [some (.str y),some (eB (x.cps.toList.take 2))] M)=_
  by_cases hl:(x.cps.toList.take 2).length=2
  ·have hl2:2≤x.cps.toList.length:=by rw[length_take] at hl;omega
   have et:x.cps.toList.take 2=[x.cps.toList.getD 0 0,x.cps.toList.getD 1 0]:=by
    match x.cps.toList,hl2 with
    | a::b::r,_=>rfl
   rw[et];generalize x.cps.toList.getD 0 0=a at *;generalize x.cps.toList.getD 1 0=b at *;have al:=xX (gi:=bt (af 1)) (ge:=bO) (ρ:=[some (.str y),some (eB [a,b])]) (M:=M) (xs:=[.int (au a),.int (au b)]) (p:=fun d=>match d with | .int k=>decide (1≤k)&&decide (k≤40)|_=>false) rfl (show 2≤100000 by decide) (fun d hd=>by
    rcases mem_cons.mp hd with rfl|hd
    ·exact Bn
    ·rw[mem_singleton.mp hd];exact Bn)
   have tt:(fF (aJ (g2 (a8 true) (aG aY (aa (af 1) ag)) (gC (.int 2)))) (eR (ir (aG kg (aa (aQ (bt (af 1)) bD bO aC) ag))))) [some (.str y),some (eB [a,b])] M=.ok (!decide ((1≤au a∧au a≤40)∧(1≤au b∧au b≤40))) M:=by
    refine(iu (x:=false) (aS (aq (de (x:=eB [a,b]) (M1:=M) rfl rfl) (y:=.int 2) (M2:=M) rfl (pO _ _ M))) fun _=>o4 (sj al)).trans ?_;congr 1;rw[Bool.false_or];congr 1
    by_cases p1:1≤au a <;> by_cases p2:au a≤40 <;> by_cases p3:1≤au b <;> by_cases p4:au b≤40 <;> simp[p1,p2,p3,p4]
   by_cases hc:(1≤au a∧au a≤40)∧(1≤au b∧au b≤40)
   ·rw[az (ρ1:=[some (.str y),some (eB [a,b])]) (M1:=M) ((gJ (tt.trans (by rw[decide_eq_true hc];rfl))).trans rfl),if_pos ⟨rfl,rfl,hc.1,hc.2⟩];rfl
   ·rw[eT (c:="NoText") (M1:=M) ((iD (tt.trans (by rw[decide_eq_false hc];rfl))).trans rfl),if_neg (fun q=>hc ⟨q.2.2.1,q.2.2.2⟩)];rfl
  ·have tt:(fF (aJ (g2 (a8 true) (aG aY (aa (af 1) ag)) (gC (.int 2)))) (eR (ir (aG kg (aa (aQ (bt (af 1)) bD bO aC) ag))))) [some (.str y),some (eB (x.cps.toList.take 2))] M=.ok true M:=by
    refine(iu (y:=true) (aS (aq (de (x:=eB (x.cps.toList.take 2)) (M1:=M) rfl (o:=.ok (.int (x.cps.toList.take 2).length) M) ?_) (y:=.int 2) (M2:=M) rfl (pO _ _ M))) fun z=>?_).trans ?_
    ·show aF.ok (D.int (((x.cps.toList.take 2).map au).map D.int).length) M=_;rw[length_map,length_map]
    ·exact absurd (show((x.cps.toList.take 2).length:Int)=2 from of_decide_eq_true (by simpa using z)) (by omega)
    ·rw[decide_eq_false (show¬((x.cps.toList.take 2).length:Int)=2 by omega)];rfl
   rw[eT (c:="NoText") (M1:=M) ((iD tt).trans rfl),if_neg (fun q=>hl q.2.1)];rfl
section
variable {x:Str}{M:ax}
theorem js {hs:List Int}{i j:Nat}(hij:i≤j):fE (hs.map D.int) (some (i:Int)) (some (j:Int))=((hs.drop i).take (j-i)).map D.int:=by
 unfold fE;rw[HT.sIx_nat,HT.sIx_nat,length_map,map_take,map_drop];have hl:(hs.map D.int).length=hs.length:=length_map ..
 by_cases h:i≤hs.length
 ·rw[Nat.min_eq_left h]
  by_cases h2:j≤hs.length
  ·rw[Nat.min_eq_left h2]
  ·rw[Nat.min_eq_right (by omega),take_of_length_le (by rw[length_drop,hl];exact Nat.le_refl _),take_of_length_le (by rw[length_drop,hl];omega)]
 ·rw[Nat.min_eq_right (show hs.length≤i by omega),drop_of_length_le (i:=hs.length) (by rw[hl];exact Nat.le_refl _),drop_of_length_le (i:=i) (by rw[hl];omega)];simp
theorem Aj {hs:List Int}{k:Nat}{i j:Nat}(hij:i≤j)(hm:M[k]?=some (.lst (hs.map D.int))):fG (.mr k) (some (i:Int)) (some (j:Int)) M=.ok (.lst (((hs.drop i).take (j-i)).map D.int)) M:=by
 show(match M[k]? with|some (.lst xs)=>aF.ok (D.lst (fE xs (some (i:Int)) (some (j:Int)))) M|_=>.bad)=_;rw[hm];dsimp only;rw[js hij]
theorem zQ {hs:List Int}{w h k a i:Nat}(hw:w≤40)(hi:i<40)(hm:M[k]?=some (.lst (hs.map D.int))):eo (some (.int i)::nE x w h k a) M=.ok (.lst (((hs.drop (i*w)).take w).map D.int)) M:=by
 have m1:=nQ (i:=(i:Int)) (j:=(w:Int)) (by omega) (by omega) M;have m2:=nQ (i:=(i:Int)+1) (j:=(w:Int)) (by omega) (by omega) M;have e1:(i:Int)*w=((i*w:Nat):Int):=by rw[Int.natCast_mul]
 have e2:((i:Int)+1)*w=(((i+1)*w:Nat):Int):=by rw[Int.natCast_mul];rfl
 rw[e1] at m1;rw[e2] at m2;have le:i*w≤(i+1)*w:=Nat.mul_le_mul_right _ (by omega);have s:=Aj (M:=M) le hm;rw[show(i+1)*w-i*w=w by rw[Nat.succ_mul];omega] at s;have p1:aD (g2 fD (af 0) (af 2)) (some (.int i)::nE x w h k a) M=.ok (some ((i*w:Nat):Int)) M:=by
  unfold aD;rw[aq (x:=.int i) (M1:=M) rfl (y:=.int w) (M2:=M) rfl m1];rfl
 have p2:aD (g2 fD (g2 aA (af 0) (gC (.int 1))) (af 2)) (some (.int i)::nE x w h k a) M=.ok (some (((i+1)*w:Nat):Int)) M:=by
  unfold aD;rw[aq (aq (x:=.int i) (M1:=M) rfl (y:=.int 1) (M2:=M) rfl rfl) (y:=.int w) (M2:=M) rfl m2];rfl
 exact dX (x:=.mr k) (M1:=M) rfl p1 p2 s
theorem yX (ho:fb x)(hx:x.cps.size≤4000)(hM:M.all cS=true):gG [.str x] M=match pv x with|some rs=>.ok (.lst (am rs)) M|none=>.err "NoText" M:=by
 have sz:=wv (x:=x) (M:=M) (by omega);have sl:cy (af 0) bT (aD (gC (.int 2))) [some (.str x),none,none,none,none] M=.ok (.str (cJ x none (some 2))) M:=dX (x:=.str x) (M1:=M) rfl (lo:=none) (M2:=M) rfl (hi:=some 2) (M3:=M) rfl (fZ (by omega) M);show eX M.length (aT (dY [some (.str x),none,none,none,none] M))=_;unfold pv dY;have t0:(eR (ir (k7 "str" (af 0)))) [some (.str x),none,none,none,none] M=.ok false M:=o4 (x:=true) (sj rfl);rw[az (ρ1:=[some (.str x),none,none,none,none]) (M1:=M) ((gJ t0).trans rfl)]
 by_cases hc:gw (x.cps.toList.take 2)∧(x.cps.toList.take 2).length=2∧(1≤au (x.cps.toList.getD 0 0)∧au (x.cps.toList.getD 0 0)≤40)∧(1≤au (x.cps.toList.getD 1 0)∧au (x.cps.toList.getD 1 0)≤40)
 ·rw[if_pos hc] at sz ⊢;obtain⟨_,_,hw,hh⟩:=hc;generalize au (x.cps.toList.getD 0 0)=wi at *;generalize au (x.cps.toList.getD 1 0)=hi at *;obtain⟨w,rfl⟩:=Int.eq_ofNat_of_zero_le (show 0≤wi by omega);obtain⟨h,rfl⟩:=Int.eq_ofNat_of_zero_le (show 0≤hi by omega);rw[Int.toNat_natCast,Int.toNat_natCast];have as:jL (uh [1,2]) (av 1 dh (aa (cy (af 0) bT (aD (gC (.int 2)))) ag)) [some (.str x),none,none,none,none] M=.ok (.nx [some (.str x),some (.int w),some (.int h),none,none]) M:=by
   unfold jL;rw[fB sl sz];rfl
  rw[az as,az (aB oK)];show eX M.length (aT (aj _ _ [some (.str x),some (.int w),some (.int h),some (.mr M.length),none] (M++[MO.lst []])))=_;rw[az (aB (d:=.int 2) (M1:=M++[MO.lst []]) rfl)];show eX M.length (aT (aj _ _ (nE x w h M.length 2) (M++[MO.lst (([]:List Int).map D.int)])))=_;rcases pJ (x:=x) (w:=w) (M:=M) (h:=h) ho (by omega) (by omega) (x.cps.size+1) 2 [] 5000 (by omega) (by omega) (Nat.zero_le _) (by omega) with⟨hs,a',er,ew⟩|⟨E,er,ew⟩
  ·rw[er,az (a:=cg 5000 cb b7) ew];dsimp only;have hm:=k6 M (hs.map D.int);have mw:=nQ (i:=(w:Int)) (j:=(h:Int)) (by omega) (by omega) (M++[MO.lst (hs.map D.int)]);have tt:(aJ (g2 (a8 true) (aG aY (aa (af 3) ag)) (g2 fD (af 1) (af 2)))) (nE x w h M.length a') (M++[MO.lst (hs.map D.int)])=.ok (!decide ((hs.length:Int)=(w:Int)*h)) (M++[MO.lst (hs.map D.int)]):=by
    refine aS (aq (de (x:=.mr M.length) (M1:=M++[MO.lst (hs.map D.int)]) rfl (oj hm)) (aq (x:=.int w) (M1:=M++[MO.lst (hs.map D.int)]) rfl (y:=.int h) (M2:=M++[MO.lst (hs.map D.int)]) rfl mw) ?_);rw[pO,length_map]
   by_cases hl:hs.length=w*h
   ·rw[if_pos hl,az (ρ1:=nE x w h M.length a') (M1:=M++[MO.lst (hs.map D.int)]) ((gJ (tt.trans (by rw[decide_eq_true (show(hs.length:Int)=(w:Int)*h by rw[hl,Int.natCast_mul])];rfl))).trans rfl)];have cm:aQ (cQ (aa (af 2) ag)) bD eo aC (nE x w h M.length a') (M++[MO.lst (hs.map D.int)])=.ok (.lst (am (nJ w h hs))) (M++[MO.lst (hs.map D.int)]):=by
     refine eV (f6 (n:=h) (aV (d:=.int h) (M1:=M++[MO.lst (hs.map D.int)]) rfl rfl) (by omega)) ?_ (by unfold am nJ;simp;omega);have er:aN 0 h=(List.range h).map fun(i:Nat)=>D.int (i:Int):=by
      unfold aN;refine map_congr_left fun i _=>?_
      rw[show(0:Int)+(i:Int)=(i:Int) by omega]
     unfold am nJ;rw[er,map_map];exact fz _ fun i hi=>zQ (by omega) (by have:=mem_range.mp hi;omega) hm
    rw[gN cm];exact kr (d:=.lst (am (nJ w h hs))) (E:=[MO.lst (hs.map D.int)]) (by rw[iA];exact kU _) hM
   ·have hl2:¬(hs.length:Int)=(w:Int)*h:=fun z=>hl (by rw[←Int.natCast_mul] at z;omega)
    rw[if_neg hl,eT (c:="NoText") (M1:=M++[MO.lst (hs.map D.int)]) ((iD (tt.trans (by rw[decide_eq_false hl2];rfl))).trans rfl)];exact jq hM
  ·rw[er,eT (a:=cg 5000 cb b7) ew];exact jq hM
 ·rw[if_neg hc] at sz ⊢;have as:jL (uh [1,2]) (av 1 dh (aa (cy (af 0) bT (aD (gC (.int 2)))) ag)) [some (.str x),none,none,none,none] M=.err "NoText" M:=by
   unfold jL;rw[fB sl sz];rfl
  rw[eT as];have:=jq (c:="NoText") (M:=M) (E:=[]) hM;rw[append_nil] at this;exact this
end
inductive uS (x:Str) (w:Nat):Nat→Str→Prop
 | nil:uS x w 0 ""
 | snoc {a:Nat} {t:Str} {p:Str×Nat} (h:uS x w a t) (ha:a<x.cps.size) (hp:p∈a5 x w a):uS x w (a+p.2) (t++p.1)
theorem ji (a b c:Str):a++b++c=a++(b++c):=cA (by simp only[Str.cps_append,Array.toList_append,append_assoc])
theorem cZ (a b:Str):(a++b).cps.toList=a.cps.toList++b.cps.toList:=by rw[Str.cps_append,Array.toList_append]
theorem tH (a:Str):a++""=a:=cA (by rw[cZ];rw[show(("":Str).cps.toList)=[] by decide +kernel,append_nil])
theorem BJ (a:Str):""++a=a:=cA (by rw[cZ];rw[show(("":Str).cps.toList)=[] by decide +kernel,nil_append])
theorem oh {a b c:Str}(h1:lN a b)(h2:lN b c):lN a c:=by
 refine⟨Nat.le_trans h1.1 h2.1,fun e=>?_⟩;have e1:a.cps.size=b.cps.size:=Nat.le_antisymm h1.1 (by have:=h2.1;omega);exact List.le_trans (h1.2 e1) (h2.2 (by omega))
theorem mJ {t a b:Str}(h:lN a b):lN (t++a) (t++b):=by
 refine⟨by rw[aX,aX];have:=h.1;omega,fun e=>?_⟩;rw[aX,aX] at e;rw[cZ,cZ];exact List.append_left_le (h.2 (by omega))
theorem tZ {x:Str}{w:Nat}{T:List Str}(ho:fb x)(hT:eM x w T 0):∀{a:Nat} {t:Str},uS x w a t→a≤x.cps.size∧lN (T.getD 0 "") (t++T.getD a "")
 | _,_,.nil=>⟨Nat.zero_le _,by rw[BJ];exact⟨Nat.le_refl _,fun _=>List.le_refl _⟩⟩
 | _,_,.snoc (a:=a) (t:=t) (p:=p) h ha hp=>by
  obtain⟨h1,h2⟩:=tZ ho hT h;obtain⟨_,_,k,_,_⟩:=fe ho ha hp;obtain⟨q,hq,e,b⟩:=hT.best a (Nat.zero_le _) ha;refine⟨k,oh h2 ?_⟩;rw[ji];exact mJ (by rw[e];exact b p hp)
theorem lQ {k:Nat}(h:k<64):au (df.cps.toList.getD k 0)=k:=by
 have:∀k:Fin 64,au (df.cps.toList.getD k.1 0)=k.1:=by decide +kernel
 exact this ⟨k,h⟩
theorem zr {m:Nat}(h1:1≤m)(h2:m<64):lY [df.cps.toList.getD m 0]=some m:=by
 unfold lY gw;rw[List.getD_cons_zero,lQ h2,if_pos]
 ·rw[Int.toNat_natCast]
 ·refine⟨?_,rfl,by omega⟩;rw[all_cons,List.all_nil,Bool.and_true,lQ h2];simp
theorem jt {X:Str}{w A c m:Nat}{u:List Nat}{hs:List Int}(d0:X.cps.toList.drop A=c::df.cps.toList.getD m 0::u)(h1:1≤m)(h2:m<64) :
  gu X w A hs=if c=33 then(if gw (u.take m)∧(u.take m).length=m then some (A+2+m,hs++(u.take m).map au) else none)
   else if c=42 then(if gw (u.take 1)∧(u.take 1).length=1 then some (A+3,hs++List.replicate m (au ((u.take 1).getD 0 0))) else none)
   else if c=94∧w≤hs.length then some (A+2,u7 w m hs) else none:=by
 have g0:X.cps.toList.getD A 0=c:=by
  have:=congrArg (·[0]?) d0;rw[List.getElem?_drop] at this;rw[List.getD,show A=A+0 from rfl,this];rfl
 have d1:X.cps.toList.drop (A+1)=df.cps.toList.getD m 0::u:=by rw[←drop_drop,d0];rfl
 have d2:X.cps.toList.drop (A+2)=u:=by rw[←drop_drop,d0];rfl
 unfold gu;rw[g0,d1,d2,take_succ_cons,take_zero,zr h1 h2]
noncomputable def dE (x:Str):List Int:=x.cps.toList.map au
theorem jG (x:Str):(dE x).length=x.cps.size:=by unfold dE;rw[length_map,aK]
theorem o3 {t u:List Nat}(h:gw t=true)(hs:∀c∈u,c∈t):gw u=true:=all_eq_true.mpr fun c hc=>all_eq_true.mp h c (hs c hc)
theorem rQ {p:Nat→Bool}:∀{l:List Nat} {m:Nat},m≤(l.takeWhile p).length→∀c∈l.take m,p c=true
 | [],_,_,c,hc=>by simp at hc
 | a::l,0,_,c,hc=>by simp at hc
 | a::l,m+1,h,c,hc=>by
  cases q:p a with
  | false=>rw[List.takeWhile_cons_of_neg (by rw[q];exact Bool.false_ne_true)] at h;simp at h
  | true=>
   rw[List.takeWhile_cons_of_pos q,length_cons] at h;rw[take_succ_cons] at hc;rcases mem_cons.mp hc with rfl|hc
   ·exact q
   ·exact rQ (Nat.le_of_succ_le_succ h) c hc
theorem qp {cs:List Nat}{a m:Nat}(h:m≤da cs a):(cs.drop a).take m=List.replicate m (cs.getD a 0):=by
 have hl:=fJ cs a;refine List.eq_replicate_iff.mpr ⟨by rw[length_take,length_drop];omega,fun c hc=>?_⟩;have:c∈(((cs.drop a).take 63).take m):=by rw[List.take_take,Nat.min_eq_left (by omega)];exact hc
 exact eq_of_beq (rQ (p:=(·==cs.getD a 0)) h c this)
theorem pd {cs:List Nat}{w a:Nat}:∀(f k j:Nat),k≤j→j<gK cs w a f k→cs.getD (a+j) 0=cs.getD (a+j-w) 0
 | 0,k,j,h1,h2=>by unfold gK at h2;omega
 | f+1,k,j,h1,h2=>by
  unfold gK at h2
  by_cases q:cs.getD (a+k) 0=cs.getD (a+k-w) 0
  ·rw[if_pos q] at h2
   by_cases e:j=k
   ·subst e;exact q
   ·exact pd f (k+1) j (by omega) h2
  ·rw[if_neg q] at h2;omega
theorem qh {l:List Int}{n:Nat}(h:n<l.length):l.take (n+1)=l.take n++[l.getD n 0]:=by
 rw[List.take_add_one,getElem?_eq_getElem h,List.getD,getElem?_eq_getElem h];rfl
theorem l7 {l:List Int}{w:Nat}(hw:1≤w):∀(m n:Nat),w≤n→n+m≤l.length→(∀j,j<m→l.getD (n+j) 0=l.getD (n+j-w) 0)→u7 w m (l.take n)=l.take (n+m)
 | 0,n,_,_,_=>rfl
 | m+1,n,h1,h2,h=>by
  have e:(l.take n).getD ((l.take n).length-w) 0=l.getD n 0:=by
   have:=h 0 (by omega);rw[Nat.add_zero] at this;rw[this,length_take,Nat.min_eq_left (by omega),List.getD,List.getD,List.getElem?_take,if_pos (by omega)]
  show u7 w m (l.take n++[(l.take n).getD ((l.take n).length-w) 0])=_;rw[e,←qh (by omega),l7 hw m (n+1) (by omega) (by omega) fun j hj=>?_,show n+1+m=n+(m+1) by omega];have:=h (j+1) (by omega);rw[show n+(j+1)=n+1+j by omega] at this;exact this
theorem zG (m:Nat):(eh (m:Int)).cps.toList=[df.cps.toList.getD m 0]:=by
 unfold eh;rw[Int.toNat_natCast]
theorem rf {X x:Str}{w a A:Nat}{p:Str×Nat}{r:List Nat}(hv:gw x.cps.toList=true)(h1:1≤w)(ha:a<x.cps.size)(hp:p∈a5 x w a)(hX:X.cps.toList.drop A=p.1.cps.toList++r) :
  gu X w A ((dE x).take a)=some (A+p.1.cps.size,(dE x).take (a+p.2)):=by
 have k2:=fJ x.cps.toList a;have k3:=im w x.cps.toList a;rw[aK] at k2 k3;unfold a5 at hp;rw[mem_append,mem_append,mem_map,mem_map,mem_map] at hp;have nl:=jG x;rcases hp with(⟨i,hi,rfl⟩|⟨i,hi,rfl⟩)|⟨i,hi,rfl⟩
 ·have hi:=mem_range.mp hi;have e:(rq x a (i+1)).cps.toList=33::df.cps.toList.getD (i+1) 0::(x.cps.toList.drop a).take (i+1):=by
   unfold rq;have e1:("!":Str).cps.toList=[33]:=by decide +kernel
   rw[cZ,cZ,e1,zG,show((a:Int)+((i+1:Nat):Int))=((a+(i+1):Nat):Int) by omega,f9 (by omega),show a+(i+1)-a=i+1 by omega];rfl
  have ul:((x.cps.toList.drop a).take (i+1)).length=i+1:=by rw[length_take,length_drop,aK];omega
  have sz:(rq x a (i+1)).cps.size=2+(i+1):=by rw[←aK,e,length_cons,length_cons,ul];omega
  have sz':((rq x a (i+1),i+1):Str×Nat).1.cps.size=2+(i+1):=sz;rw[sz'];have hX:X.cps.toList.drop A=(rq x a (i+1)).cps.toList++r:=hX;rw[e,List.cons_append,List.cons_append] at hX;rw[jt hX (by omega) (by omega),if_pos rfl,List.take_left' ul,if_pos ⟨o3 hv fun c hc=>mem_of_mem_drop (mem_of_mem_take hc),ul⟩];show some (A+2+(i+1),_)=some (A+(2+(i+1)),(dE x).take (a+(i+1)));rw[show(dE x).take (a+(i+1))=(dE x).take a++((dE x).drop a).take (i+1) from List.take_add ..,Nat.add_assoc];unfold dE;rw[map_take,map_drop]
 ·have hi:=mem_range.mp hi;have e:(qU x a (i+1)).cps.toList=[42,df.cps.toList.getD (i+1) 0,x.cps.toList.getD a 0]:=by
   unfold qU AR;have e1:("*":Str).cps.toList=[42]:=by decide +kernel
   rw[cZ,cZ,e1,zG];rfl
  have sz:((qU x a (i+1),i+1):Str×Nat).1.cps.size=3:=by
   show(qU x a (i+1)).cps.size=3;rw[←aK,e];rfl
  rw[sz];have hX:X.cps.toList.drop A=(qU x a (i+1)).cps.toList++r:=hX;rw[e,List.cons_append,List.cons_append] at hX;have ok1:gw [x.cps.toList.getD a 0]=true:=o3 hv fun c hc=>by
   rw[mem_singleton.mp hc];exact mem_of_getElem? (jE ha)
  have rp:=qp (cs:=x.cps.toList) (a:=a) (m:=i+1) (by omega);rw[jt hX (by omega) (by omega),if_neg (by decide),if_pos rfl,List.cons_append,take_succ_cons,take_zero,if_pos ⟨ok1,rfl⟩];show some (A+3,_)=some (A+3,(dE x).take (a+(i+1)));rw[show(dE x).take (a+(i+1))=(dE x).take a++((dE x).drop a).take (i+1) from List.take_add ..];have rn:((dE x).drop a).take (i+1)=List.replicate (i+1) (au (x.cps.toList.getD a 0)):=by
   unfold dE;rw[←map_drop,←map_take,rp,List.map_replicate]
  rw[rn];rfl
 ·have hi:=mem_range.mp hi;have e:(pZ (i+1)).cps.toList=[94,df.cps.toList.getD (i+1) 0]:=by
   unfold pZ;have e1:("^":Str).cps.toList=[94]:=by decide +kernel
   rw[cZ,e1,zG];rfl
  have sz:((pZ (i+1),i+1):Str×Nat).1.cps.size=2:=by
   show(pZ (i+1)).cps.size=2;rw[←aK,e];rfl
  rw[sz];have hX:X.cps.toList.drop A=(pZ (i+1)).cps.toList++r:=hX;rw[e,List.cons_append,List.cons_append,nil_append] at hX;have hw:w≤a:=by
   by_cases q:a<w
   ·unfold cV at hi;rw[if_pos q] at hi;omega
   ·omega
  have tl:((dE x).take a).length=a:=by rw[length_take,nl];omega
  rw[jt hX (by omega) (by omega),if_neg (by decide),if_neg (by decide),if_pos ⟨rfl,by rw[tl];exact hw⟩];show some (A+2,_)=some (A+2,(dE x).take (a+(i+1)));rw[l7 h1 (i+1) a hw (by rw[nl];omega) fun j hj=>?_];have ga:∀n,(dE x).getD n (au 0)=au (x.cps.toList.getD n 0):=fun n=>by
   unfold dE;rw[List.getD,List.getD,getElem?_map];cases x.cps.toList[n]? <;> rfl
  have hab:x.cps.toList.getD (a+j) 0=x.cps.toList.getD (a+j-w) 0:=by
   unfold cV at hi;rw[if_neg (by omega)] at hi;exact pd (min 63 (x.cps.toList.length-a)) 0 j (Nat.zero_le _) (by omega)
  have gb:∀n,n<x.cps.size→(dE x).getD n 0=au (x.cps.toList.getD n 0):=fun n hn=>by
   rw[←ga];rw[List.getD,List.getD,getElem?_eq_getElem (by rw[nl];exact hn)];rfl
  rw[gb _ (by omega),gb _ (by omega),hab]
theorem pH {X x:Str}{w:Nat}(ho:fb x)(hv:gw x.cps.toList=true)(h1:1≤w):∀{a:Nat} {t:Str},uS x w a t→∀r:List Nat,X.cps.toList.drop 2=t.cps.toList++r→
  a≤x.cps.size∧∃n,2*n≤t.cps.size∧∀f,iN X w (f+n) 2 []=iN X w f (2+t.cps.size) ((dE x).take a)
 | _,_,.nil,r,hX=>⟨Nat.zero_le _,0,Nat.zero_le _,fun f=>rfl⟩
 | _,_,.snoc (a:=a) (t:=t) (p:=p) h ha hp,r,hX=>by
  rw[cZ,append_assoc] at hX;obtain⟨_,n,hn,e⟩:=pH ho hv h1 h _ hX;obtain⟨_,_,k,_,_⟩:=fe ho ha hp;have d:X.cps.toList.drop (2+t.cps.size)=p.1.cps.toList++r:=by
   rw[←drop_drop,hX,←aK,List.drop_left]
  have s:=rf hv h1 ha hp d;have pz:2≤p.1.cps.size:=by
   have:=(pV s).1;omega
  have xl:2+t.cps.size<X.cps.size:=by
   have:=congrArg List.length d;rw[length_drop,length_append,aK,aK] at this;omega
  refine⟨k,n+1,by rw[aX];omega,fun f=>?_⟩;rw[show f+(n+1)=(f+1)+n by omega,e (f+1),iN,if_pos xl,s,aX,Nat.add_assoc]
theorem ig {k:Int}(h:kT k):au (p9 k)=k:=by
 unfold p9;obtain⟨n,rfl⟩:=Int.eq_ofNat_of_zero_le h.1;rw[Int.toNat_natCast,lQ (by have:=h.2;omega)]
theorem sk {ks:List Int}(h:∀k∈ks,kT k):dE (ai ks)=ks:=by
 unfold dE;rw[bS,map_map];refine(map_congr_left fun k hk=>?_).trans (List.map_id ks);exact ig (h k hk)
theorem oX {ks:List Int}(h:∀k∈ks,kT k):gw (ai ks).cps.toList=true:=by
 rw[bS];refine all_eq_true.mpr fun c hc=>?_
 obtain⟨k,hk,rfl⟩:=mem_map.mp hc;rw[ig (h k hk)];have:=(h k hk).1;simp;omega
theorem oE {w:Nat}:∀{rs:List (List Int)},eF w rs→∀i,i<rs.length→(rs.flatten.drop (i*w)).take w=rs.getD i []
 | [],_,i,hi=>by cases hi
 | r::rs,h,i,hi=>by
  have hr:=(h r mem_cons_self).1;cases i with
  | zero=>
   rw[Nat.zero_mul,drop_zero,flatten_cons,List.take_left' hr];rfl
  | succ i=>
   rw[flatten_cons,Nat.succ_mul,Nat.add_comm (i*w) w,←drop_drop,List.drop_left' hr,oE (fun r' h'=>h r' (mem_cons_of_mem _ h')) i (by simpa using hi)];rfl
theorem vV {w:Nat}{rs:List (List Int)}(h:eF w rs):nJ w rs.length rs.flatten=rs:=by
 unfold nJ;refine List.ext_getElem (by rw[length_map,length_range]) fun i h1 h2=>?_
 rw[List.getElem_map,getElem_range,oE h i h2,List.getD,getElem?_eq_getElem h2];rfl
theorem ox {x:Str}{w:Nat}(ho:fb x):∀{a:Nat} {t:Str},uS x w a t→fb t∧t.cps.size≤3*a
 | _,_,.nil=>⟨mV (by decide +kernel),by decide +kernel⟩
 | _,_,.snoc (a:=a) (t:=t) (p:=p) h ha hp=>by
  obtain⟨h1,h2⟩:=ox ho h;obtain⟨k1,_,_,k4,k5⟩:=fe ho ha hp;refine⟨fun d hd=>?_,by rw[aX];omega⟩;rw[cZ] at hd;rcases mem_append.mp hd with hd|hd
  ·exact h1 d hd
  ·exact k5 d hd
theorem ur {rs:List (List Int)}{w:Nat}{t:Str}(hrs:eF w rs)(r1:1≤rs.length)(r2:rs.length≤40)(w1:1≤w)(w2:w≤40)(hP:uS (br rs) w (br rs).cps.size t):pv (ai [(w:Int),(rs.length:Int)]++t)=some rs:=by
 have hh:=h9 hrs;have ho:fb (br rs):=jB hh;have hv:gw (br rs).cps.toList=true:=oX hh;have nx:dE (br rs)=rs.flatten:=sk hh;have sx:(br rs).cps.size=w*rs.length:=by unfold br;rw[bp,fI hrs]
 have hw:kT (w:Int):=⟨by omega,by omega⟩;have hl:kT (rs.length:Int):=⟨by omega,by omega⟩;have e:(ai [(w:Int),(rs.length:Int)]++t).cps.toList=p9 w::p9 rs.length::t.cps.toList:=by rw[cZ,bS];rfl
 have d2:(ai [(w:Int),(rs.length:Int)]++t).cps.toList.drop 2=t.cps.toList++[]:=by rw[e,append_nil];rfl
 obtain⟨_,n,hn,er⟩:=pH ho hv w1 hP [] d2;have sX:(ai [(w:Int),(rs.length:Int)]++t).cps.size=2+t.cps.size:=by rw[aX,bp];rfl
 have e0:(ai [(w:Int),(rs.length:Int)]++t).cps.toList.getD 0 0=p9 w:=by rw[e];rfl
 have e1:(ai [(w:Int),(rs.length:Int)]++t).cps.toList.getD 1 0=p9 rs.length:=by rw[e];rfl
 have e2:(ai [(w:Int),(rs.length:Int)]++t).cps.toList.take 2=[p9 w,p9 rs.length]:=by rw[e];rfl
 have f0:=ig hw;have f1:=ig hl;have o2:gw [p9 w,p9 rs.length]=true:=by
  have:=oX (ks:=[(w:Int),(rs.length:Int)]) (fun k hk=>by
   rcases mem_cons.mp hk with rfl|hk
   ·exact hw
   ·rw[mem_singleton.mp hk];exact hl)
  rw[bS] at this;exact this
 have run:iN (ai [(w:Int),(rs.length:Int)]++t) w ((ai [(w:Int),(rs.length:Int)]++t).cps.size+1) 2 []=some rs.flatten:=by
  have:=er (2+t.cps.size-n);rw[sX,show 2+t.cps.size+1=(2+t.cps.size-n+n)+1 by omega];have e3:=er (2+t.cps.size-n+1);rw[show 2+t.cps.size-n+1+n=2+t.cps.size-n+n+1 by omega] at e3;rw[e3,iN,if_neg (by rw[sX];exact Nat.lt_irrefl _),take_of_length_le (by rw[jG];exact Nat.le_refl _),nx]
 unfold pv;rw[e2,e0,e1,f0,f1,if_pos ⟨o2,rfl,⟨by omega,by omega⟩,by omega,by omega⟩,Int.toNat_natCast,Int.toNat_natCast,run];dsimp only;rw[if_pos (by rw[←nx,jG,sx]),vV hrs]
section
variable {hs:List Int}{w a:Nat}{X:Str}{M:ax}{R:D}{d5:Option D}{ln:Nat}
noncomputable abbrev kE (R:D)(w:Nat)(hs:List Int)(d5:Option D)(ln:Nat)(X:Str)(a:Nat)(d9 d10 d11 d12 d13 d14:Option D):aZ:=[some (.mr 0),some R,some (.str df),some (.int w),some (.lst (hs.map D.int)),d5,some (.int ln),some (.str X),some (.int a),d9,d10,d11,d12,d13,d14]
noncomputable def u3 (hs:List Int)(a m:Nat):Prop:=m≤min 63 (hs.length-a)∧∀j,j<m→hs.getD (a+j) 0=hs.getD a 0
noncomputable def vA (hs:List Int)(w a m:Nat):Prop:=m≤min 63 (hs.length-a)∧(1≤m→w≤a)∧∀j,j<m→hs.getD (a+j) 0=hs.getD (a+j-w) 0
theorem pb {n:Nat}(h:n<hs.length)(M:ax):bJ (.lst (hs.map D.int)) (.int n) M=.ok (.int (hs.getD n 0)) M:=
 gD (by rw[getElem?_map,getElem?_eq_getElem h,List.getD,getElem?_eq_getElem h];rfl)
theorem nr {L:Nat}{d11 d12 d13 d14:Option D}(hL:L=min 63 (hs.length-a))(ha:a<hs.length):∀(n k:Nat),u3 hs a k→1≤k→L<k+n→
  ∃m,1≤m∧u3 hs a m∧bq bw bV n (kE R w hs d5 ln X a (some (.int L)) (some (.int k)) d11 d12 d13 d14) M=.ok (.nx (kE R w hs d5 ln X a (some (.int L)) (some (.int m)) d11 d12 d13 d14)) M
 | 0,k,hk,_,hn=>by have:=hk.1;omega
 | n+1,k,hk,k1,hn=>by
  by_cases h1:k<L
  ·have i1:=pb (hs:=hs) (n:=a+k) (by omega) M;have i2:=pb (hs:=hs) (n:=a) ha M;have t:bw (kE R w hs d5 ln X a (some (.int L)) (some (.int k)) d11 d12 d13 d14) M=.ok (decide (hs.getD (a+k) 0=hs.getD a 0)) M:=by
    refine(b5 (aS (aq (x:=.int k) (M1:=M) rfl (y:=.int L) (M2:=M) rfl rfl)) fun _=>aS (aq (aq (x:=.lst (hs.map D.int)) (M1:=M) rfl (aq (x:=.int a) (M1:=M) rfl (y:=.int k) (M2:=M) rfl (o:=.ok (.int ((a+k:Nat):Int)) M) rfl) i1) (aq (x:=.lst (hs.map D.int)) (M1:=M) rfl (y:=.int a) (M2:=M) rfl i2) (gW _ _ M))).trans ?_;rw[decide_eq_true (show(k:Int)<L by omega),Bool.true_and]
   by_cases h2:hs.getD (a+k) 0=hs.getD a 0
   ·obtain⟨m,m1,m2,e⟩:=nr (d11:=d11) (d12:=d12) (d13:=d13) (d14:=d14) hL ha n (k+1) ⟨by omega,fun j hj=>by
     by_cases q:j=k
     ·rw[q];exact h2
     ·exact hk.2 j (by omega)⟩ (by omega) (by omega)
    refine⟨m,m1,m2,?_⟩;rw[fR (ρ2:=kE R w hs d5 ln X a (some (.int L)) (some (.int ((k+1:Nat):Int))) d11 d12 d13 d14) (M1:=M) (M2:=M) (t.trans (by rw[decide_eq_true h2])) rfl];exact e
   ·exact⟨k,k1,hk,bQ (M1:=M) (t.trans (by rw[decide_eq_false h2]))⟩
  ·refine⟨k,k1,hk,bQ (M1:=M) ?_⟩;refine(b5 (y:=false) (aS (aq (x:=.int k) (M1:=M) rfl (y:=.int L) (M2:=M) rfl rfl)) fun z=>absurd (of_decide_eq_true z) (by omega)).trans ?_;rw[Bool.and_false]
theorem mK {L:Nat}{d10 d12 d13 d14:Option D}(hL:L=min 63 (hs.length-a))(ha:a<hs.length)(hw:1≤w):∀(n k:Nat),vA hs w a k→L<k+n→
  ∃m,vA hs w a m∧bq bA bW n (kE R w hs d5 ln X a (some (.int L)) d10 (some (.int k)) d12 d13 d14) M=.ok (.nx (kE R w hs d5 ln X a (some (.int L)) d10 (some (.int m)) d12 d13 d14)) M
 | 0,k,hk,hn=>by have:=hk.1;omega
 | n+1,k,hk,hn=>by
  have t1:(aJ (g2 vD (af 8) (af 3))) (kE R w hs d5 ln X a (some (.int L)) d10 (some (.int k)) d12 d13 d14) M=.ok (decide ((w:Int)≤a)) M:=aS (aq (x:=.int a) (M1:=M) rfl (y:=.int w) (M2:=M) rfl rfl)
  by_cases h0:w≤a
  ·have t2:(aJ (g2 i5 (af 11) (af 9))) (kE R w hs d5 ln X a (some (.int L)) d10 (some (.int k)) d12 d13 d14) M=.ok (decide ((k:Int)<L)) M:=aS (aq (x:=.int k) (M1:=M) rfl (y:=.int L) (M2:=M) rfl rfl)
   by_cases h1:k<L
   ·have i1:=pb (hs:=hs) (n:=a+k) (by omega) M;have i2:=pb (hs:=hs) (n:=a+k-w) (by omega) M;have t:bA (kE R w hs d5 ln X a (some (.int L)) d10 (some (.int k)) d12 d13 d14) M=.ok (decide (hs.getD (a+k) 0=hs.getD (a+k-w) 0)) M:=by
     refine(b5 t1 fun _=>b5 t2 fun _=>aS (aq (aq (x:=.lst (hs.map D.int)) (M1:=M) rfl (aq (x:=.int a) (M1:=M) rfl (y:=.int k) (M2:=M) rfl (o:=.ok (.int ((a+k:Nat):Int)) M) rfl) i1) (aq (x:=.lst (hs.map D.int)) (M1:=M) rfl (aq (aq (x:=.int a) (M1:=M) rfl (y:=.int k) (M2:=M) rfl rfl) (y:=.int w) (M2:=M) rfl (o:=.ok (.int ((a+k-w:Nat):Int)) M) ?_) i2) (gW _ _ M))).trans ?_
     ·show aF.ok (D.int ((a:Int)+k-w)) M=_;rw[show((a:Int)+k-w)=((a+k-w:Nat):Int) by omega]
     ·rw[decide_eq_true (show(w:Int)≤a by omega),decide_eq_true (show(k:Int)<L by omega),Bool.true_and,Bool.true_and]
    by_cases h2:hs.getD (a+k) 0=hs.getD (a+k-w) 0
    ·obtain⟨m,m2,e⟩:=mK (d10:=d10) (d12:=d12) (d13:=d13) (d14:=d14) hL ha hw n (k+1) ⟨by omega,fun _=>h0,fun j hj=>by
      by_cases q:j=k
      ·rw[q];exact h2
      ·exact hk.2.2 j (by omega)⟩ (by omega)
     refine⟨m,m2,?_⟩;rw[fR (ρ2:=kE R w hs d5 ln X a (some (.int L)) d10 (some (.int ((k+1:Nat):Int))) d12 d13 d14) (M1:=M) (M2:=M) (t.trans (by rw[decide_eq_true h2])) rfl];exact e
    ·exact⟨k,hk,bQ (M1:=M) (t.trans (by rw[decide_eq_false h2]))⟩
   ·refine⟨k,hk,bQ (M1:=M) ?_⟩;refine(b5 t1 fun _=>b5 (y:=false) t2 fun z=>absurd (of_decide_eq_true z) (by omega)).trans ?_;rw[Bool.and_false,Bool.and_false]
  ·refine⟨k,hk,bQ (M1:=M) ?_⟩;refine(b5 (y:=false) t1 fun z=>absurd (of_decide_eq_true z) (by omega)).trans ?_;rw[Bool.and_false]
end
theorem jw {hs:List Int}{n:Nat}(h:n<hs.length):(ai hs).cps.toList.getD n 0=p9 (hs.getD n 0):=by
 rw[bS,List.getD,List.getD,getElem?_map,getElem?_eq_getElem h];rfl
theorem sQ {p:Nat→Bool}:∀{l:List Nat} {m:Nat},m≤l.length→(∀c∈l.take m,p c=true)→m≤(l.takeWhile p).length
 | _,0,_,_=>Nat.zero_le _
 | [],m+1,h,_=>by simp at h
 | a::l,m+1,h,hp=>by
  rw[List.takeWhile_cons_of_pos (hp a (by rw[take_succ_cons];exact mem_cons_self)),length_cons];have:=sQ (p:=p) (l:=l) (m:=m) (by simpa using h) fun c hc=>hp c (by rw[take_succ_cons];exact mem_cons_of_mem _ hc)
  omega
theorem AC {hs:List Int}{a m:Nat}(h:u3 hs a m):m≤da (ai hs).cps.toList a:=by
 have hl:(ai hs).cps.toList.length=hs.length:=by rw[aK,bp]
 have h1:=h.1;unfold da;refine sQ (by rw[length_take,length_drop,hl];omega) fun c hc=>?_
 rw[List.take_take,Nat.min_eq_left (by omega)] at hc;obtain⟨j,hj,rfl⟩:=List.getElem_of_mem hc;rw[length_take,length_drop,hl] at hj;rw[List.getElem_take,List.getElem_drop];have e:(ai hs).cps.toList[a+j]'(by rw[hl];omega)=(ai hs).cps.toList.getD (a+j) 0:=by rw[List.getD,getElem?_eq_getElem (by rw[hl];omega)];rfl
 rw[e,jw (by omega),jw (by omega),h.2 j (by omega)];exact beq_self_eq_true _
theorem oU {cs:List Nat}{w a m:Nat}:∀(f k:Nat),m≤k+f→(∀j,k≤j→j<m→cs.getD (a+j) 0=cs.getD (a+j-w) 0)→k≤m→m≤gK cs w a f k
 | 0,k,h,_,hk=>by unfold gK;omega
 | f+1,k,h,hj,hk=>by
  unfold gK
  by_cases e:k=m
  ·split
   ·have:=abGo_ge cs w a f (k+1);omega
   ·omega
  ·rw[if_pos (hj k (Nat.le_refl _) (by omega))];exact oU f (k+1) (by omega) (fun j h1 h2=>hj j (by omega) h2) (by omega)
where
 abGo_ge (cs:List Nat) (w a:Nat):∀f k,k≤gK cs w a f k
  | 0,k=>Nat.le_refl _
  | f+1,k=>by
   unfold gK;split
   ·have:=abGo_ge cs w a f (k+1);omega
   ·omega
theorem zw {hs:List Int}{w a m:Nat}(h:vA hs w a m)(h1:1≤m):m≤cV w (ai hs).cps.toList a:=by
 have hl:(ai hs).cps.toList.length=hs.length:=by rw[aK,bp]
 have h2:=h.1;have h3:=h.2.1 h1;unfold cV;rw[if_neg (by omega),hl];refine oU _ 0 (by omega) (fun j _ hj=>?_) (Nat.zero_le _);rw[jw (by omega),jw (by omega),h.2.2 j hj]
theorem in1 {x:Str}{w a m:Nat}(h1:1≤m)(h2:m≤min 63 (x.cps.size-a)):(rq x a m,m)∈a5 x w a:=by
 obtain⟨i,rfl⟩:∃i,m=i+1:=⟨m-1,by omega⟩;unfold a5;exact mem_append_left _ (mem_append_left _ (mem_map.mpr ⟨i,mem_range.mpr (by omega),rfl⟩))
theorem Fc {x:Str}{w a m:Nat}(h1:1≤m)(h2:m≤da x.cps.toList a):(qU x a m,m)∈a5 x w a:=by
 obtain⟨i,rfl⟩:∃i,m=i+1:=⟨m-1,by omega⟩;unfold a5;exact mem_append_left _ (mem_append_right _ (mem_map.mpr ⟨i,mem_range.mpr (by omega),rfl⟩))
theorem EY {x:Str}{w a m:Nat}(h1:1≤m)(h2:m≤cV w x.cps.toList a):(pZ m,m)∈a5 x w a:=by
 obtain⟨i,rfl⟩:∃i,m=i+1:=⟨m-1,by omega⟩;unfold a5;exact mem_append_right _ (mem_map.mpr ⟨i,mem_range.mpr (by omega),rfl⟩)
theorem zK {a b:GT}{ρ:aZ}{M M1:ax}(ha:a ρ M=.ok true M1):cq a b ρ M=b ρ M1:=by
 unfold cq;rw[ha,ah];rfl
theorem Ay {a b:GT}{ρ:aZ}{M M1:ax}(ha:a ρ M=.ok false M1):cq a b ρ M=.ok false M1:=by
 unfold cq;rw[ha,ah];rfl
theorem Ek {x y z:D}{n:Nat}(h:n<3)(M:ax):bJ (.lst [x,y,z]) (.int n) M=.ok ([x,y,z].getD n .non) M:=by
 match n,h with
 | 0,_=>exact gD (xs:=[x,y,z]) (k:=0) rfl
 | 1,_=>exact gD (xs:=[x,y,z]) (k:=1) rfl
 | 2,_=>exact gD (xs:=[x,y,z]) (k:=2) rfl
noncomputable def Ds:GE:=(g2 bJ (cY (aa (av 2 ao (aa (af 0) (aa (gC (.int 3)) ag))) (aa (gC (.int 1)) (aa (gC (.int 2)) ag)))) (af 6))
noncomputable def El:GE:=(g2 bJ (cY (aa (g2 aA (gC (.int 1)) (av 2 ao (aa (af 0) (aa (af 9) ag)))) (aa (af 10) (aa (af 11) ag)))) (af 12))
noncomputable def C6:GS:=(fc (cq (aJ (g2 uT (af 13) (gC (.int 1)))) (aJ (g2 (a8 false) (av 2 ao (aa (af 0) (aa (gC (.int 2)) ag))) (gC (.int 0))))) (aw 13 (g2 aA (gC (.int 1)) (av 2 ao (aa (af 0) (aa (af 13) ag))))) a9)
noncomputable def Df:GS:=(fc (aJ (g2 (a8 false) (af 13) (gC (.int 0)))) (aj (aw 12 (gC (.int 1))) (aw 13 (af 10))) a9)
noncomputable def DO:GE:=(g2 bJ (cY (aa (cy (af 4) (aD (af 8)) (aD (g2 aA (af 8) (af 13)))) (aa (cy (af 4) (aD (af 8)) (aD (g2 aA (af 8) (gC (.int 1))))) (aa (cY ag) ag)))) (af 12))
noncomputable def ER:GE:=(g2 aA (g2 aA (g2 aA (af 7) (g2 bJ (gC (.str "!*^")) (af 12))) (g2 bJ (af 2) (af 13))) (bu dt (gC (.str "")) (aQ (bt (af 14)) bD bx aC)))
theorem A8 (ρ:aZ)(M:ax):bz ρ M=aj (aw 9 (aG jn (aa (gC (.int 63)) (aa (g2 ek (aG aY (aa (af 4) ag)) (af 8)) ag)))) (aj (aw 10 (gC (.int 1))) (aj (cg 5000 bw bV) (aj (aw 11 (gC (.int 0))) (aj (cg 5000 bA bW) (aj (aw 12 Ds) (aj (aw 13 El) (aj C6 (aj Df (aj (aw 14 DO) (aj (aw 7 ER) (aw 8 (g2 aA (af 8) (af 13))))))))))))) ρ M:=rfl
section
variable {hs:List Int}{w a:Nat}{X:Str}{R:D}{d5:Option D}{ln:Nat}{l:List Int}{rest M:ax}
theorem DX {m:Nat}{d9 d10 d11 d12 d14:Option D}(hm:m≤1000)(t:bG l rest M):∃m' M',m'≤m∧(1≤m→1≤m')∧bG l rest M'∧C6 (kE R w hs d5 ln X a d9 d10 d11 d12 (some (.int m)) d14) M=.ok (.nx (kE R w hs d5 ln X a d9 d10 d11 d12 (some (.int m')) d14)) M':=by
 have t1:(aJ (g2 uT (af 13) (gC (.int 1)))) (kE R w hs d5 ln X a d9 d10 d11 d12 (some (.int m)) d14) M=.ok (decide ((1:Int)<m)) M:=aS (aq (x:=.int m) (M1:=M) rfl (y:=.int 1) (M2:=M) rfl rfl);unfold C6
 by_cases h:1<m
 ·obtain⟨f,M1,a1,b1,t2,e1⟩:=bR (many:=2) (by decide) (a7 (by decide) (by decide)) t;have q:(aJ (g2 (a8 false) (av 2 ao (aa (af 0) (aa (gC (.int 2)) ag))) (gC (.int 0)))) (kE R w hs d5 ln X a d9 d10 d11 d12 (some (.int m)) d14) M=.ok (decide (f=0)) M1:=aS (aq (cN (x:=.mr 0) (M1:=M) rfl (y:=.int 2) (M2:=M) rfl e1) (y:=.int 0) (M2:=M1) rfl (gW f 0 M1));have tt:=(zK (t1.trans (by rw[decide_eq_true (show(1:Int)<m by omega)]))).trans q
  by_cases hf:f=0
  ·obtain⟨g,M2,a2,b2,t3,e2⟩:=bR (many:=(m:Int)) (by omega) (a7 (by omega) (by omega)) t2;obtain⟨n,rfl⟩:=Int.eq_ofNat_of_zero_le a2;refine⟨n+1,M2,by omega,fun _=>by omega,t3,?_⟩;rw[iD (tt.trans (by rw[decide_eq_true hf]))];refine aB (i:=13) (aq (x:=.int 1) (M1:=M1) rfl (cN (x:=.mr 0) (M1:=M1) rfl (y:=.int m) (M2:=M1) rfl e2) ?_);show aF.ok (D.int (1+(n:Int))) M2=_;rw[show(1+(n:Int))=((n+1:Nat):Int) by omega]
  ·exact⟨m,M1,Nat.le_refl _,fun h=>h,t2,(gJ (tt.trans (by rw[decide_eq_false hf]))).trans rfl⟩
 ·exact⟨m,M,Nat.le_refl _,fun h=>h,t,(gJ (Ay (t1.trans (by rw[decide_eq_false (show¬(1:Int)<m by omega)])))).trans rfl⟩
theorem DS {m wy al:Nat}{d9 d11 d14:Option D}:∃wy' m',((1≤m∧wy'=wy∧m'=m)∨(wy'=1∧m'=al))∧Df (kE R w hs d5 ln X a d9 (some (.int al)) d11 (some (.int wy)) (some (.int m)) d14) M=.ok (.nx (kE R w hs d5 ln X a d9 (some (.int al)) d11 (some (.int (wy':Nat))) (some (.int (m':Nat))) d14)) M:=by
 have t1:(aJ (g2 (a8 false) (af 13) (gC (.int 0)))) (kE R w hs d5 ln X a d9 (some (.int al)) d11 (some (.int wy)) (some (.int m)) d14) M=.ok (decide ((m:Int)=0)) M:=aS (aq (x:=.int m) (M1:=M) rfl (y:=.int 0) (M2:=M) rfl (gW _ _ M));unfold Df
 by_cases h:m=0
 ·exact⟨1,al,.inr ⟨rfl,rfl⟩,(iD (t1.trans (by rw[decide_eq_true (show(m:Int)=0 by omega)]))).trans rfl⟩
 ·exact⟨wy,m,.inl ⟨by omega,rfl,rfl⟩,(gJ (t1.trans (by rw[decide_eq_false (show¬(m:Int)=0 by omega)]))).trans rfl⟩
theorem D2 {L al ab:Nat}{d12 d13 d14:Option D}(hln:ln<3)(hL:1≤L)(hL2:L≤63)(ha:1≤al)(ha2:al≤63)(hb:ab≤63)(t:bG l rest M) :
  ∃(wy m:Nat) (M':ax),wy<3∧1≤m∧(wy=0→m≤L)∧(wy=1→m≤al)∧(wy=2→m≤ab)∧bG l rest M'∧∀b:GS,aj (aw 12 Ds) (aj (aw 13 El) (aj C6 (aj Df b))) (kE R w hs d5 ln X a (some (.int L)) (some (.int al)) (some (.int ab)) d12 d13 d14) M=b (kE R w hs d5 ln X a (some (.int L)) (some (.int al)) (some (.int ab)) (some (.int wy)) (some (.int m)) d14) M':=by
 obtain⟨f,M1,a1,b1,t1,e1⟩:=bR (many:=3) (by decide) (a7 (by decide) (by decide)) t;obtain⟨n,rfl⟩:=Int.eq_ofNat_of_zero_le a1;obtain⟨wy,hw3,hwy⟩:∃wy:Nat,wy<3∧[D.int (n:Int),.int 1,.int 2].getD ln .non=.int wy:=by
  match ln,hln with
  | 0,_=>exact⟨n,by omega,rfl⟩
  | 1,_=>exact⟨1,by decide,rfl⟩
  | 2,_=>exact⟨2,by decide,rfl⟩
 have s1:∀b:GS,aj (aw 12 Ds) b (kE R w hs d5 ln X a (some (.int L)) (some (.int al)) (some (.int ab)) d12 d13 d14) M=b (kE R w hs d5 ln X a (some (.int L)) (some (.int al)) (some (.int ab)) (some (.int wy)) d13 d14) M1:=fun b=>
  az (aB (aq (eO (ds:=[.int (n:Int),.int 1,.int 2]) (aV (cN (x:=.mr 0) (M1:=M) rfl (y:=.int 3) (M2:=M) rfl e1) rfl)) (y:=.int ln) (M2:=M1) rfl (hwy▸Ek hln M1)))
 obtain⟨g,M2,a2,b2,t2,e2⟩:=bR (many:=(L:Int)) (by omega) (a7 (by omega) (by omega)) t1;obtain⟨k,rfl⟩:=Int.eq_ofNat_of_zero_le a2;obtain⟨m0,hm0,p0,p1,p2⟩:∃m0:Nat,[D.int ((k+1:Nat):Int),.int al,.int ab].getD wy .non=.int m0∧(wy=0→1≤m0∧m0≤L)∧(wy=1→m0=al)∧(wy=2→m0=ab):=by
  match wy,hw3 with
  | 0,_=>exact⟨k+1,rfl,fun _=>⟨by omega,by omega⟩,fun h=>by omega,fun h=>by omega⟩
  | 1,_=>exact⟨al,rfl,fun h=>by omega,fun _=>rfl,fun h=>by omega⟩
  | 2,_=>exact⟨ab,rfl,fun h=>by omega,fun h=>by omega,fun _=>rfl⟩
 have m63:m0≤1000:=by
  match wy,hw3 with
  | 0,_=>have:=p0 rfl;omega
  | 1,_=>have:=p1 rfl;omega
  | 2,_=>have:=p2 rfl;omega
 have s2:∀b:GS,aj (aw 13 El) b (kE R w hs d5 ln X a (some (.int L)) (some (.int al)) (some (.int ab)) (some (.int wy)) d13 d14) M1=b (kE R w hs d5 ln X a (some (.int L)) (some (.int al)) (some (.int ab)) (some (.int wy)) (some (.int m0)) d14) M2:=fun b=>by
  refine az (aB (aq (eO (ds:=[.int ((k+1:Nat):Int),.int al,.int ab]) (aV (aq (x:=.int 1) (M1:=M1) rfl (cN (x:=.mr 0) (M1:=M1) rfl (y:=.int L) (M2:=M1) rfl e2) ?_) rfl)) (y:=.int wy) (M2:=M2) rfl (hm0▸Ek hw3 M2)));show aF.ok (D.int (1+(k:Int))) M2=_;rw[show(1+(k:Int))=((k+1:Nat):Int) by omega]
 obtain⟨m1,M3,q1,q2,t3,e3⟩:=DX (R:=R) (w:=w) (hs:=hs) (d5:=d5) (ln:=ln) (X:=X) (a:=a) (d9:=some (.int L)) (d10:=some (.int al)) (d11:=some (.int ab)) (d12:=some (.int wy)) (d14:=d14) m63 t2;obtain⟨wy',m',hz,e4⟩:=DS (R:=R) (w:=w) (hs:=hs) (d5:=d5) (ln:=ln) (X:=X) (a:=a) (M:=M3) (m:=m1) (wy:=wy) (al:=al) (d9:=some (.int L)) (d11:=some (.int ab)) (d14:=d14);refine⟨wy',m',M3,?_,?_,?_,?_,?_,t3,fun b=>?_⟩
 ·rcases hz with⟨_,h,_⟩|⟨h,_⟩ <;> omega
 ·rcases hz with⟨h,_,h2⟩|⟨_,h⟩ <;> omega
 ·intro h;rcases hz with⟨_,h1,h2⟩|⟨h1,_⟩
  ·have:=(p0 (by omega)).2;omega
  ·omega
 ·intro h;rcases hz with⟨_,h1,h2⟩|⟨_,h2⟩
  ·have:=p1 (by omega);omega
  ·omega
 ·intro h;rcases hz with⟨_,h1,h2⟩|⟨h1,_⟩
  ·have:=p2 (by omega);omega
  ·omega
 ·rw[s1,s2,az e3,az e4]
end
section
variable {hs:List Int}{w a:Nat}{X:Str}{R:D}{d5:Option D}{ln:Nat}{l:List Int}{rest M:ax}
noncomputable def fv (hs:List Int)(a m wy:Nat):List Int:=[(hs.drop a).take m,(hs.drop a).take 1,[]].getD wy []
noncomputable def rN (wy:Nat):Str:=[("!":Str),"*","^"].getD wy ""
theorem Es {m wy:Nat}{d9 d10 d11 d14:Option D}(hw:wy<3)(hm:m≤1000):DO (kE R w hs d5 ln X a d9 d10 d11 (some (.int wy)) (some (.int m)) d14) M=.ok (.lst ((fv hs a m wy).map D.int)) M:=by
 have s1:cy (af 4) (aD (af 8)) (aD (g2 aA (af 8) (af 13))) (kE R w hs d5 ln X a d9 d10 d11 (some (.int wy)) (some (.int m)) d14) M=.ok (.lst (((hs.drop a).take m).map D.int)) M:=by
  refine dX (x:=.lst (hs.map D.int)) (M1:=M) rfl (lo:=some (a:Int)) (M2:=M) rfl (hi:=some ((a+m:Nat):Int)) (M3:=M) rfl ?_;show aF.ok (D.lst (fE (hs.map D.int) (some (a:Int)) (some ((a+m:Nat):Int)))) M=_;rw[js (by omega),show a+m-a=m by omega]
 have s2:cy (af 4) (aD (af 8)) (aD (g2 aA (af 8) (gC (.int 1)))) (kE R w hs d5 ln X a d9 d10 d11 (some (.int wy)) (some (.int m)) d14) M=.ok (.lst (((hs.drop a).take 1).map D.int)) M:=by
  refine dX (x:=.lst (hs.map D.int)) (M1:=M) rfl (lo:=some (a:Int)) (M2:=M) rfl (hi:=some ((a+1:Nat):Int)) (M3:=M) rfl ?_;show aF.ok (D.lst (fE (hs.map D.int) (some (a:Int)) (some ((a+1:Nat):Int)))) M=_;rw[js (by omega),show a+1-a=1 by omega]
 refine aq (eO (ds:=[.lst (((hs.drop a).take m).map D.int),.lst (((hs.drop a).take 1).map D.int),.lst []]) (aV s1 (aV s2 (aV (eO rfl) rfl)))) (y:=.int wy) (M2:=M) rfl ((Ek hw M).trans ?_)
 match wy,hw with
 | 0,_=>rfl
 | 1,_=>rfl
 | 2,_=>rfl
theorem BH {wy:Nat}(hw:wy<3)(M:ax):bJ (.str "!*^") (.int wy) M=.ok (.str (rN wy)) M:=by
 have e:("!*^":Str).cps.toList=[33,42,94]:=by decide +kernel
 have z:("!*^":Str).cps.size≤90000:=by decide +kernel
 match wy,hw with
 | 0,_=>exact(fK (n:=0) (c:=33) (by rw[e];rfl) z M).trans (by rw[←EJ];rfl)
 | 1,_=>exact(fK (n:=1) (c:=42) (by rw[e];rfl) z M).trans (by rw[←EK];rfl)
 | 2,_=>exact(fK (n:=2) (c:=94) (by rw[e];rfl) z M).trans (by rw[←EI];rfl)
theorem Cm {wy:Nat}(hw:wy<3):(rN wy).cps.size=1:=by
 match wy,hw with
 | 0,_=>decide +kernel
 | 1,_=>decide +kernel
 | 2,_=>decide +kernel
theorem tV {U:List Int}{d7:Str}{d8 d9 d10 d11 d12 d13:Option D}{a:Nat}(hU:∀k∈U,kT k)(hl:U.length≤1000) :
  bu dt (gC (.str "")) (aQ (bt (af 14)) bD bx aC) (kE R w hs d5 ln d7 a d9 d10 d11 d12 d13 (some (.lst (U.map D.int)))) M=.ok (.str (ai U)) M:=by
 have cm:aQ (bt (af 14)) bD bx aC (kE R w hs d5 ln d7 a d9 d10 d11 d12 d13 (some (.lst (U.map D.int)))) M=.ok (.lst (U.map fun k=>D.str (eh k))) M:=by
  refine eV (ds:=U.map D.int) (M1:=M) ?_ (fz _ fun k hk=>aq (x:=.str df) (M1:=M) rfl (y:=.int k) (M2:=M) rfl (fY (hU k hk).1 (hU k hk).2)) (by rw[length_map];omega);rfl
 have so:fH (U.map fun k=>D.str (eh k))=some (U.map eh):=f7 eh U;have jo:=jF hU hl;show((aQ (bt (af 14)) bD bx aC) (kE R w hs d5 ln d7 a d9 d10 d11 d12 d13 (some (.lst (U.map D.int)))) M).bind (fun d M2=>dt "" d M2)=_;rw[cm,ah];unfold dt;show(match some (U.map fun k=>D.str (eh k)) with|some xs=>(match fH xs with|some ys=>if JoinOk "" ys=true then aF.ok (D.str (Txt.join "" ys)) M else .bad|none=>.bad)|none=>.bad)=_;dsimp only;rw[so];dsimp only;rw[if_pos jo];rfl
theorem Az {m wy:Nat}:∀k∈fv hs a m wy,k∈hs:=fun k hk=>by
 unfold fv at hk
 match wy with
 | 0=>exact mem_of_mem_drop (mem_of_mem_take hk)
 | 1=>exact mem_of_mem_drop (mem_of_mem_take hk)
 | 2=>cases hk
 | _+3=>cases hk
theorem pf {m wy:Nat}(h1:1≤m):(fv hs a m wy).length≤m:=by
 unfold fv
 match wy with
 | 0=>exact length_take_le ..
 | 1=>exact Nat.le_trans (length_take_le ..) h1
 | 2=>exact Nat.zero_le _
 | _+3=>exact Nat.zero_le _
theorem DC {m wy:Nat}{d9 d10 d11:Option D}(hh:∀k∈hs,kT k)(hw:wy<3)(m1:1≤m)(hm:m<64)(hX:X.cps.size≤10000) :
  ER (kE R w hs d5 ln X a d9 d10 d11 (some (.int wy)) (some (.int m)) (some (.lst ((fv hs a m wy).map D.int)))) M=.ok (.str (X++(rN wy++eh m++ai (fv hs a m wy)))) M:=by
 have j:=tV (R:=R) (w:=w) (hs:=hs) (d5:=d5) (ln:=ln) (M:=M) (a:=a) (d7:=X) (d8:=none) (d9:=d9) (d10:=d10) (d11:=d11) (d12:=some (.int wy)) (d13:=some (.int m)) (U:=fv hs a m wy) (fun k hk=>hh k (Az k hk)) (by have:=pf (hs:=hs) (a:=a) (wy:=wy) m1;omega);have z1:=Cm hw;have z2:(eh (m:Int)).cps.size=1:=rfl;have z3:(ai (fv hs a m wy)).cps.size≤64:=by rw[bp];have:=pf (hs:=hs) (a:=a) (wy:=wy) m1;omega
 have e:X++(rN wy++eh m++ai (fv hs a m wy))=X++rN wy++eh m++ai (fv hs a m wy):=by rw[ji,ji,ji]
 rw[e];generalize ai (fv hs a m wy)=nt at *;refine aq (aq (aq (x:=.str X) (M1:=M) rfl (aq (x:=.str "!*^") (M1:=M) rfl (y:=.int wy) (M2:=M) rfl (BH hw M)) (cP (show X.cps.size≤90000 by omega) (show(rN wy).cps.size≤90000 by omega) M)) (aq (x:=.str df) (M1:=M) rfl (y:=.int m) (M2:=M) rfl (fY (k:=(m:Int)) (by omega) (by omega))) (cP (show(X++rN wy).cps.size≤90000 by rw[aX];omega) (show(eh (m:Int)).cps.size≤90000 by omega) M)) j (cP (show(X++rN wy++eh m).cps.size≤90000 by rw[aX,aX];omega) (show nt.cps.size≤90000 by omega) M)
theorem Dv {m wy al ab:Nat}(hw:wy<3)(m1:1≤m)(h0:wy=0→m≤min 63 (hs.length-a))(h1:wy=1→m≤al)(h2:wy=2→m≤ab)(hal:u3 hs a al)(hab:vA hs w a ab)(ha:a<hs.length) :
  (rN wy++eh m++ai (fv hs a m wy),m)∈a5 (ai hs) w a:=by
 have sz:=bp hs
 match wy,hw with
 | 0,_=>
  have e:rN 0++eh m++ai (fv hs a m 0)=rq (ai hs) a m:=by
   unfold rq;refine cA ?_;rw[cZ,cZ (_++_),show((a:Int)+(m:Int))=((a+m:Nat):Int) by omega,f9 (by omega),bS,bS,show a+m-a=m by omega,←map_drop,←map_take];rfl
  rw[e];exact in1 m1 (by rw[sz];exact h0 rfl)
 | 1,_=>
  have e:rN 1++eh m++ai (fv hs a m 1)=qU (ai hs) a m:=by
   unfold qU AR;refine cA ?_;rw[cZ,cZ (_++_),bS,jw ha];show _++((hs.drop a).take 1).map p9=_;rw[drop_eq_getElem_cons ha,take_succ_cons,take_zero,List.getD,getElem?_eq_getElem ha];rfl
  rw[e];exact Fc m1 (Nat.le_trans (h1 rfl) (AC hal))
 | 2,_=>
  have e:rN 2++eh m++ai (fv hs a m 2)=pZ m:=by
   unfold pZ;have:ai (fv hs a m 2)="":=cA (by rw[bS];show([]:List Nat)=_;decide +kernel);rw[this,tH];rfl
  rw[e];exact EY m1 (Nat.le_trans (h2 rfl) (zw hab (Nat.le_trans m1 (h2 rfl))))
theorem wm {d9 d10 d11 d12 d13 d14:Option D}(hh:∀k∈hs,kT k)(hl:hs.length≤1600)(hw:1≤w)(hln:ln<3)(ha:a<hs.length)(hX:X.cps.size≤10000)(t:bG l rest M) :
  ∃p M' e9 e10 e11 e12 e13 e14,p∈a5 (ai hs) w a∧bG l rest M'∧bz (kE R w hs d5 ln X a d9 d10 d11 d12 d13 d14) M=.ok (.nx (kE R w hs d5 ln (X++p.1) (a+p.2) e9 e10 e11 e12 e13 e14)) M':=by
 have s1:∀b:GS,aj (aw 9 (aG jn (aa (gC (.int 63)) (aa (g2 ek (aG aY (aa (af 4) ag)) (af 8)) ag)))) b (kE R w hs d5 ln X a d9 d10 d11 d12 d13 d14) M=b (kE R w hs d5 ln X a (some (.int ((min 63 (hs.length-a):Nat):Int))) d10 d11 d12 d13 d14) M:=fun b=>by
  refine az (aB (Ct (x:=.int 63) (M1:=M) rfl (aq (de (x:=.lst (hs.map D.int)) (M1:=M) rfl rfl) (y:=.int a) (M2:=M) rfl rfl) ?_));show aF.ok (D.int (if(((hs.map D.int).length:Int)-(a:Int))<63 then(((hs.map D.int).length:Int)-(a:Int)) else 63)) M=_;rw[length_map,show(if((hs.length:Int)-(a:Int))<63 then((hs.length:Int)-(a:Int)) else 63)=((min 63 (hs.length-a):Nat):Int) by split <;> omega]
 obtain⟨al,al1,alP,e1⟩:=nr (X:=X) (M:=M) (R:=R) (w:=w) (d5:=d5) (ln:=ln) (d11:=d11) (d12:=d12) (d13:=d13) (d14:=d14) rfl ha 5000 1 ⟨by omega,fun j hj=>by rw[show j=0 by omega];rfl⟩ (Nat.le_refl _) (by omega);obtain⟨ab,abP,e2⟩:=mK (X:=X) (M:=M) (R:=R) (d5:=d5) (ln:=ln) (d10:=some (.int al)) (d12:=d12) (d13:=d13) (d14:=d14) rfl ha hw 5000 0 ⟨Nat.zero_le _,fun z=>by omega,fun j hj=>by omega⟩ (by omega);have a63:=alP.1;have b63:=abP.1;obtain⟨wy,m,M',hw3,m1,p0,p1,p2,t2,e3⟩:=D2 (R:=R) (w:=w) (hs:=hs) (d5:=d5) (ln:=ln) (X:=X) (a:=a) (L:=min 63 (hs.length-a)) (al:=al) (ab:=ab) (d12:=d12) (d13:=d13) (d14:=d14) hln (by omega) (by omega) al1 (by omega) (by omega) t;have m63:m<64:=by
  match wy,hw3 with
  | 0,_=>have:=p0 rfl;omega
  | 1,_=>have:=p1 rfl;omega
  | 2,_=>have:=p2 rfl;omega
 have pp:=Dv (hs:=hs) (w:=w) (a:=a) hw3 m1 p0 p1 p2 alP abP ha;refine⟨_,M',some (.int ((min 63 (hs.length-a):Nat):Int)),some (.int al),some (.int ab),some (.int wy),some (.int m),some (.lst ((fv hs a m wy).map D.int)),pp,t2,?_⟩;have s10:∀b:GS,aj (aw 10 (gC (.int 1))) b (kE R w hs d5 ln X a (some (.int ((min 63 (hs.length-a):Nat):Int))) d10 d11 d12 d13 d14) M=b (kE R w hs d5 ln X a (some (.int ((min 63 (hs.length-a):Nat):Int))) (some (.int ((1:Nat):Int))) d11 d12 d13 d14) M:=fun b=>az (aB rfl)
 have s11:∀b:GS,aj (aw 11 (gC (.int 0))) b (kE R w hs d5 ln X a (some (.int ((min 63 (hs.length-a):Nat):Int))) (some (.int al)) d11 d12 d13 d14) M=b (kE R w hs d5 ln X a (some (.int ((min 63 (hs.length-a):Nat):Int))) (some (.int al)) (some (.int ((0:Nat):Int))) d12 d13 d14) M:=fun b=>az (aB rfl)
 have s14:∀b:GS,aj (aw 14 DO) b (kE R w hs d5 ln X a (some (.int ((min 63 (hs.length-a):Nat):Int))) (some (.int al)) (some (.int ab)) (some (.int wy)) (some (.int m)) d14) M'=b (kE R w hs d5 ln X a (some (.int ((min 63 (hs.length-a):Nat):Int))) (some (.int al)) (some (.int ab)) (some (.int wy)) (some (.int m)) (some (.lst ((fv hs a m wy).map D.int)))) M':=fun b=>az (aB (Es hw3 (by omega)))
 rw[A8,s1,s10,az (a:=cg 5000 bw bV) e1,s11,az (a:=cg 5000 bA bW) e2,e3,s14,az (aB (DC hh hw3 m1 m63 hX))];rfl
theorem oH {x:Str}(hx:x=ai hs)(ho:fb x)(hh:∀k∈hs,kT k)(hl:hs.length≤1600)(hw:1≤w)(hln:ln<3)(H0:Str)(hH:H0.cps.size=2):∀(n a:Nat) (u:Str) (d9 d10 d11 d12 d13 d14:Option D) (M:ax),uS x w a u→a≤hs.length→hs.length<a+n→bG l rest M→
  ∃u' M' ρ',uS x w hs.length u'∧bG l rest M'∧ρ'[7]?=some (some (.str (H0++u')))∧bq bX bz n (kE R w hs d5 ln (H0++u) a d9 d10 d11 d12 d13 d14) M=.ok (.nx ρ') M'
 | 0,a,u,d9,d10,d11,d12,d13,d14,M,hP,ha,hn,t=>by omega
 | n+1,a,u,d9,d10,d11,d12,d13,d14,M,hP,ha,hn,t=>by
  have tt:bX (kE R w hs d5 ln (H0++u) a d9 d10 d11 d12 d13 d14) M=.ok (decide ((a:Int)<hs.length)) M:=by
   refine aS (aq (x:=.int a) (M1:=M) rfl (de (x:=.lst (hs.map D.int)) (M1:=M) rfl rfl) ?_);rw[length_map];rfl
  by_cases h:a<hs.length
  ·have us:=(ox ho hP).2;obtain⟨p,M1,e9,e10,e11,e12,e13,e14,hp,t1,e⟩:=wm (R:=R) (w:=w) (d5:=d5) (X:=H0++u) (d9:=d9) (d10:=d10) (d11:=d11) (d12:=d12) (d13:=d13) (d14:=d14) hh hl hw hln h (by rw[aX];omega) t;have sx:x.cps.size=hs.length:=by rw[hx,bp]
   have hp':p∈a5 x w a:=by rw[hx];exact hp
   obtain⟨k1,_,k3,_,_⟩:=fe ho (by omega) hp';rw[ji] at e;obtain⟨u',M',ρ',hP',t',hρ,e'⟩:=oH hx ho hh hl hw hln H0 hH n (a+p.2) (u++p.1) e9 e10 e11 e12 e13 e14 M1 (.snoc hP (by omega) hp') (by omega) (by omega) t1;refine⟨u',M',ρ',hP',t',hρ,?_⟩;rw[fR (tt.trans (by rw[decide_eq_true (show(a:Int)<hs.length by omega)])) e];exact e'
  ·have e:a=hs.length:=by omega
   subst e;exact⟨u,M,_,hP,t,rfl,bQ (tt.trans (by rw[decide_eq_false (show¬(hs.length:Int)<hs.length by omega)]))⟩
end
theorem oy {ds0:List D}{s:GG}{body:GS}{W:Nat→aZ→ax→Prop}:∀(ds:List D) (i:Nat),(∀j d,ds[j]?=some d→∀ρ M,W (i+j) ρ M→∃ρ1 ρ2 M2,s d ρ=some ρ1∧body ρ1 M=.ok (.nx ρ2) M2∧W (i+j+1) ρ2 M2)→∀ρ M,W i ρ M→
  ∃ρ' M',W (i+ds.length) ρ' M'∧b8 ⟨ds0,none⟩ s body ds ρ M=.ok (.nx ρ') M'
 | [],i,h,ρ,M,hW=>⟨ρ,M,hW,rfl⟩
 | d::ds,i,h,ρ,M,hW=>by
  obtain⟨ρ1,ρ2,M2,e1,e2,h2⟩:=h 0 d rfl ρ M hW;obtain⟨ρ',M',h3,e3⟩:=oy (ds0:=ds0) (s:=s) (body:=body) (W:=W) ds (i+1) (fun j d' hd ρ M hW=>by
   have e:i+1+j=i+(j+1):=by omega
   rw[e] at hW ⊢;exact h (j+1) d' hd ρ M hW) ρ2 M2 h2
  refine⟨ρ',M',?_,by simp[b8,fP,e1,e2,e3]⟩;have e:i+(d::ds).length=i+1+ds.length:=by simp;omega
  rw[e];exact h3
section
variable {l:List Int}{rest M:ax}
theorem kO {ds0:List D}{tail:aZ}{w:Nat}{R:D}:∀(rs:List (List Int)) (acc:List Int) (d5:Option D),acc.length+rs.flatten.length≤100000→
  ∃d',b8 ⟨ds0,none⟩ (cw 5) bi (am rs) (some (.mr 0)::some R::some (.str df)::some (.int w)::some (.lst (acc.map D.int))::d5::tail) M=.ok (.nx (some (.mr 0)::some R::some (.str df)::some (.int w)::some (.lst ((acc++rs.flatten).map D.int))::d'::tail)) M
 | [],acc,d5,_=>⟨d5,by rw[List.flatten_nil,append_nil];rfl⟩
 | r::rs,acc,d5,h=>by
  rw[flatten_cons,length_append] at h;obtain⟨d',e⟩:=kO (ds0:=ds0) (tail:=tail) (w:=w) (R:=R) rs (acc++r) (some (.lst (r.map D.int))) (by rw[length_append];omega);refine⟨d',?_⟩;show b8 ⟨ds0,none⟩ (cw 5) bi (D.lst (r.map D.int)::am rs) _ M=_;rw[b8,if_pos fP];have bb:bi (some (.mr 0)::some R::some (.str df)::some (.int w)::some (.lst (acc.map D.int))::some (.lst (r.map D.int))::tail) M=.ok (.nx (some (.mr 0)::some R::some (.str df)::some (.int w)::some (.lst ((acc++r).map D.int))::some (.lst (r.map D.int))::tail)) M:=by
   refine aB (i:=4) (aq (x:=.lst (acc.map D.int)) (M1:=M) rfl (y:=.lst (r.map D.int)) (M2:=M) rfl ?_);show(if(acc.map D.int).length+(r.map D.int).length≤sizeLine then aF.ok (D.lst (acc.map D.int++r.map D.int)) M else .bad)=_;rw[if_pos (ba (by rw[length_map,length_map];omega)),←map_append]
  show(bi (some (.mr 0)::some R::some (.str df)::some (.int w)::some (.lst (acc.map D.int))::some (.lst (r.map D.int))::tail) M).bind _=_;rw[bb,ah,flatten_cons,←append_assoc];exact e
theorem nz {rs:List (List Int)}{w:Nat}(hrs:eF w rs)(r1:1≤rs.length)(r2:rs.length≤40)(w1:1≤w)(w2:w≤40)(t:bG l rest M) :
  ∃u M',uS (br rs) w (br rs).cps.size u∧bG l rest M'∧cT [.mr 0,.lst (am rs)] M=.ok (.str (ai [(w:Int),(rs.length:Int)]++u)) M':=by
 have hh:=h9 hrs;have ho:fb (br rs):=jB hh;have fl:=fI hrs;have f16:rs.flatten.length≤1600:=by rw[fl];exact Nat.mul_le_mul w2 r2
 have sx:(br rs).cps.size=rs.flatten.length:=by unfold br;rw[bp]
 obtain⟨d5,ef⟩:=kO (M:=M) (ds0:=am rs) (tail:=[none,none,none,none,none,none,none,none,none]) (w:=w) (R:=.lst (am rs)) rs [] none (by rw[length_nil];omega);rw[nil_append] at ef;obtain⟨f,M1,a1,b1,t1,e1⟩:=bR (many:=3) (by decide) (a7 (by decide) (by decide)) t;obtain⟨ln,rfl⟩:=Int.eq_ofNat_of_zero_le a1;have hH:(ai [(w:Int),(rs.length:Int)]).cps.size=2:=by rw[bp];rfl
 obtain⟨u,M',ρ',hP,t',hρ,e2⟩:=oH (R:=.lst (am rs)) (d5:=d5) (ln:=ln) (l:=l) (rest:=rest) (w:=w) rfl ho hh f16 w1 (by omega) (ai [(w:Int),(rs.length:Int)]) hH 5000 0 "" none none none none none none M1 .nil (Nat.zero_le _) (by omega) t1;rw[tH] at e2;refine⟨u,M',by rw[sx];exact hP,t',?_⟩;show aT (cW [some (.mr 0),some (.lst (am rs)),none,none,none,none,none,none,none,none,none,none,none,none,none] M)=_;have s2:∀b:GS,aj (aw 2 (gC (.str "0123456789abcdefghijklmnopqrstuvwxyzABCDEFGHIJKLMNOPQRSTUVWXYZ+-"))) b [some (.mr 0),some (.lst (am rs)),none,none,none,none,none,none,none,none,none,none,none,none,none] M=b [some (.mr 0),some (.lst (am rs)),some (.str df),none,none,none,none,none,none,none,none,none,none,none,none] M:=fun b=>az (aB rfl)
 have s3:∀b:GS,aj (aw 3 (aG aY (aa (g2 bJ (af 1) (gC (.int 0))) ag))) b [some (.mr 0),some (.lst (am rs)),some (.str df),none,none,none,none,none,none,none,none,none,none,none,none] M=b [some (.mr 0),some (.lst (am rs)),some (.str df),some (.int w),none,none,none,none,none,none,none,none,none,none,none] M:=fun b=>by
  cases rs with
  | nil=>cases r1
  | cons r rs=>
   refine az (aB (d:=.int w) (M1:=M) (de (aq (x:=.lst (am (r::rs))) (M1:=M) rfl (y:=.int 0) (M2:=M) rfl (o:=.ok (.lst (r.map D.int)) M) (gD (xs:=am (r::rs)) (k:=0) rfl)) ?_));show aF.ok (D.int ((r.map D.int).length:Int)) M=_;rw[length_map,(hrs r mem_cons_self).1]
 have s4:∀b:GS,aj (aw 4 (cY ag)) b [some (.mr 0),some (.lst (am rs)),some (.str df),some (.int w),none,none,none,none,none,none,none,none,none,none,none] M=b [some (.mr 0),some (.lst (am rs)),some (.str df),some (.int w),some (.lst (([]:List Int).map D.int)),none,none,none,none,none,none,none,none,none,none] M:=fun b=>az (aB (eO rfl))
 have s5:∀b:GS,aj (ij (bt (af 1)) (cw 5) bi) b [some (.mr 0),some (.lst (am rs)),some (.str df),some (.int w),some (.lst (([]:List Int).map D.int)),none,none,none,none,none,none,none,none,none,none] M=b [some (.mr 0),some (.lst (am rs)),some (.str df),some (.int w),some (.lst (rs.flatten.map D.int)),d5,none,none,none,none,none,none,none,none,none] M:=fun b=>az (iB (t:=⟨am rs,none⟩) rfl ef)
 have s6:∀b:GS,aj (aw 6 (av 2 ao (aa (af 0) (aa (gC (.int 3)) ag)))) b [some (.mr 0),some (.lst (am rs)),some (.str df),some (.int w),some (.lst (rs.flatten.map D.int)),d5,none,none,none,none,none,none,none,none,none] M=b [some (.mr 0),some (.lst (am rs)),some (.str df),some (.int w),some (.lst (rs.flatten.map D.int)),d5,some (.int ln),none,none,none,none,none,none,none,none] M1:=fun b=>az (aB (cN (x:=.mr 0) (M1:=M) rfl (y:=.int 3) (M2:=M) rfl e1))
 have nt:eh (w:Int)++eh (rs.length:Int)=ai [(w:Int),(rs.length:Int)]:=cA (by rw[cZ,bS];rfl);have s7:∀b:GS,aj (aw 7 (g2 aA (g2 bJ (af 2) (af 3)) (g2 bJ (af 2) (aG aY (aa (af 1) ag))))) b [some (.mr 0),some (.lst (am rs)),some (.str df),some (.int w),some (.lst (rs.flatten.map D.int)),d5,some (.int ln),none,none,none,none,none,none,none,none] M1=b [some (.mr 0),some (.lst (am rs)),some (.str df),some (.int w),some (.lst (rs.flatten.map D.int)),d5,some (.int ln),some (.str (ai [(w:Int),(rs.length:Int)])),none,none,none,none,none,none,none] M1:=fun b=>by
  have ll:aY [.lst (am rs)] M1=.ok (.int (rs.length:Int)) M1:=by
   show aF.ok (D.int ((am rs).length:Int)) M1=_;unfold am;rw[length_map]
  rw[←nt];exact az (aB (aq (aq (x:=.str df) (M1:=M1) rfl (y:=.int w) (M2:=M1) rfl (fY (k:=(w:Int)) (by omega) (by omega))) (aq (x:=.str df) (M1:=M1) rfl (de (x:=.lst (am rs)) (M1:=M1) rfl ll) (fY (k:=(rs.length:Int)) (by omega) (by omega))) (cP (show(eh (w:Int)).cps.size≤90000 from(by decide:1≤90000)) (show(eh (rs.length:Int)).cps.size≤90000 from(by decide:1≤90000)) M1)))
 have s8:∀b:GS,aj (aw 8 (gC (.int 0))) b [some (.mr 0),some (.lst (am rs)),some (.str df),some (.int w),some (.lst (rs.flatten.map D.int)),d5,some (.int ln),some (.str (ai [(w:Int),(rs.length:Int)])),none,none,none,none,none,none,none] M1=b (kE (.lst (am rs)) w rs.flatten d5 ln (ai [(w:Int),(rs.length:Int)]) 0 none none none none none none) M1:=fun b=>az (aB rfl)
 unfold cW;rw[s2,s3,s4,s5,s6,s7,s8,az (a:=cg 5000 bX bz) e2];have:af 7 ρ' M'=.ok (.str (ai [(w:Int),(rs.length:Int)]++u)) M':=by unfold af;rw[hρ]
 rw[gN this];rfl
theorem nv:∀r:List Int,eN (r.map D.int) (r.map D.int)=true
 | []=>rfl
 | k::r=>by
  show((k==k)&&eN (r.map D.int) (r.map D.int))=true;rw[nv r,beq_self_eq_true];rfl
theorem mW:∀rs:List (List Int),eN (am rs) (am rs)=true
 | []=>rfl
 | r::rs=>by
  show(eN (r.map D.int) (r.map D.int)&&eN (am rs) (am rs))=true;rw[nv r,mW rs];rfl
theorem v4 (rs:List (List Int))(M:ax):a8 true (.lst (am rs)) (.lst (am rs)) M=.ok (.bl false) M:=by
 refine vw (d:=.lst (am rs)) ?_ ?_ (fun _=>rfl) M
 ·show aU 39 (am rs)=true;exact jP 38 rs
 ·show eN (am rs) (am rs)=true;exact mW rs
noncomputable abbrev yE (sc d2 d3 d4 d5 d6:Option D):aZ:=[sc,some (.mr 0),d2,d3,d4,d5,d6]
theorem sd {rs:List (List Int)}{w:Nat}{T:List Str}{sc d2 d5 d6:Option D}(hrs:eF w rs)(r1:1≤rs.length)(r2:rs.length≤40)(w1:1≤w)(w2:w≤40)(hT:eM (br rs) w T 0)(hs:(br rs).cps.size≤1000)(hp:rest.all cS=true)(t:bG l rest M) :
  ∃d6' M',bG l rest M'∧jM (yE sc d2 (some (.lst (am rs))) (some (.str (ai [(w:Int),(rs.length:Int)]++T.getD 0 ""))) d5 d6) M=.ok (.nx (yE sc d2 (some (.lst (am rs))) (some (.str (ai [(w:Int),(rs.length:Int)]++T.getD 0 ""))) d5 d6')) M':=by
 obtain⟨u,M',hP,t',e⟩:=nz hrs r1 r2 w1 w2 t;have ho:fb (br rs):=jB (h9 hrs);obtain⟨ou,zu⟩:=ox ho hP;obtain⟨_,le⟩:=tZ ho hT hP;have zt:=hT.size 0 (Nat.le_refl _) (Nat.zero_le _);rw[hT.last,tH] at le;have rd:=ur hrs r1 r2 w1 w2 hP;have le2:=mJ (t:=ai [(w:Int),(rs.length:Int)]) le;have hw:kT (w:Int):=⟨by omega,by omega⟩;have hl:kT (rs.length:Int):=⟨by omega,by omega⟩;have okx:fb (ai [(w:Int),(rs.length:Int)]++u):=fun c hc=>by
  rw[cZ] at hc;rcases mem_append.mp hc with hc|hc
  ·refine jB (fun k hk=>?_) c hc;rcases mem_cons.mp hk with rfl|hk
   ·exact hw
   ·rw[mem_singleton.mp hk];exact hl
  ·exact ou c hc
 have zx:(ai [(w:Int),(rs.length:Int)]++u).cps.size≤4000:=by
  rw[aX,bp];show 2+_≤_;omega
 have zy:(ai [(w:Int),(rs.length:Int)]++T.getD 0 "").cps.size≤4000:=by
  rw[aX,bp];show 2+_≤_;omega
 have pM:M'.all cS=true:=by
  obtain⟨i,c,_,rfl⟩:=t';exact lj hp
 have un:=yX (M:=M') okx zx pM;rw[rd] at un;generalize ai [(w:Int),(rs.length:Int)]++u=x at *;generalize ai [(w:Int),(rs.length:Int)]++T.getD 0 ""=y at *;refine⟨some (.str x),M',t',?_⟩;unfold jM;have s1:∀b:GS,aj (aw 6 (av 2 cT (aa (af 1) (aa (af 3) ag)))) b (yE sc d2 (some (.lst (am rs))) (some (.str y)) d5 d6) M=b (yE sc d2 (some (.lst (am rs))) (some (.str y)) d5 (some (.str x))) M':=fun b=>az (aB (cN (x:=.mr 0) (M1:=M) rfl (y:=.lst (am rs)) (M2:=M) rfl e))
 rw[s1];have l1:=de (a:=af 6) (ρ:=yE sc d2 (some (.lst (am rs))) (some (.str y)) d5 (some (.str x))) (x:=.str x) (M:=M') (M1:=M') rfl (dQ (by omega) M');have l2:=de (a:=af 4) (ρ:=yE sc d2 (some (.lst (am rs))) (some (.str y)) d5 (some (.str x))) (x:=.str y) (M:=M') (M1:=M') rfl (dQ (by omega) M');have tt:=iu (x:=false) (y:=false) (aS (aq (fB (a:=af 6) (ρ:=yE sc d2 (some (.lst (am rs))) (some (.str y)) d5 (some (.str x))) (x:=.str x) (M1:=M') rfl un) (b:=af 3) (y:=.lst (am rs)) (M2:=M') rfl (v4 rs M'))) fun _=>(iu (aS (aq (f:=i5) l1 l2 rfl)) fun _=>b5 (aS (aq (f:=a8 false) l1 l2 (gW _ _ M'))) fun _=>aS (aq (f:=CL) (a:=af 6) (b:=af 4) (x:=.str x) (M1:=M') rfl (y:=.str y) (M2:=M') rfl rfl)).trans (by
  have:=le2.1;rw[decide_eq_false (show¬(x.cps.size:Int)<y.cps.size by omega),Bool.false_or]
  by_cases q:y.cps.size=x.cps.size
  ·rw[decide_eq_false (show¬x.cps.toList<y.cps.toList from List.not_lt.mpr (le2.2 q)),Bool.and_false]
  ·rw[decide_eq_false (show¬(x.cps.size:Int)=y.cps.size by omega),Bool.false_and])
 exact(gJ tt).trans rfl
theorem t7 {sc d2 d3 d4 d5 d6:Option D}(hp:rest.all cS=true)(t:bG l rest M):∃d3' d4' d5' d6' M',bG l rest M'∧jZ (yE sc d2 d3 d4 d5 d6) M=.ok (.nx (yE sc d2 d3' d4' d5' d6')) M':=by
 obtain⟨rs,w,M1,w1,w2,r1,r2,hrs,t1,e1⟩:=uU (most:=10) (by decide) (by decide) hp t;have p1:M1.all cS=true:=by
  obtain⟨i,c,_,rfl⟩:=t1;exact lj hp
 obtain⟨T,hT,e2⟩:=qS (M:=M1) hrs (fun z=>by rw[z] at r1;cases r1) (by omega) (by omega) p1;have sx:(br rs).cps.size≤100:=by
  unfold br;rw[bp,fI hrs];exact Nat.mul_le_mul (show w≤10 by omega) (show rs.length≤10 by omega)
 obtain⟨ρ',M',⟨d5',d6',rfl,t'⟩,ef⟩:=oy (ds0:=aN 0 6) (s:=cw 5) (body:=jM) (W:=fun _ ρ N=>∃d5 d6,ρ=yE sc d2 (some (.lst (am rs))) (some (.str (ai [(w:Int),(rs.length:Int)]++T.getD 0 ""))) d5 d6∧bG l rest N) (aN 0 6) 0 (fun j dd hd ρ N hW=>by
  obtain⟨d5,d6,rfl,tN⟩:=hW;obtain⟨d6',N',tN',e⟩:=sd (sc:=sc) (d2:=d2) (d5:=some dd) (d6:=d6) hrs r1 (by omega) w1 (by omega) hT (by omega) hp tN;exact⟨_,_,N',rfl,e,some dd,d6',rfl,tN'⟩) (yE sc d2 (some (.lst (am rs))) (some (.str (ai [(w:Int),(rs.length:Int)]++T.getD 0 ""))) d5 d6) M1 ⟨d5,d6,rfl,t1⟩
 refine⟨some (.lst (am rs)),some (.str (ai [(w:Int),(rs.length:Int)]++T.getD 0 "")),d5',d6',M',t',?_⟩;unfold jZ;have s1:∀b:GS,aj (aw 3 (av 2 cU (aa (af 1) (aa (gC (.int 10)) ag)))) b (yE sc d2 d3 d4 d5 d6) M=b (yE sc d2 (some (.lst (am rs))) d4 d5 d6) M1:=fun b=>az (aB (cN (x:=.mr 0) (M1:=M) rfl (y:=.int 10) (M2:=M) rfl e1))
 have cp:aQ (bt (af 3)) bD lz aC (yE sc d2 (some (.lst (am rs))) d4 d5 d6) M1=.ok (.lst (am rs)) M1:=by
  refine eV (ds:=am rs) (M1:=M1) rfl ?_ (by unfold am;rw[length_map];omega);unfold am;exact fz _ fun r hr=>rfl
 have s2:∀b:GS,aj (aw 4 (av 1 g5 (aa (aQ (bt (af 3)) bD lz aC) ag))) b (yE sc d2 (some (.lst (am rs))) d4 d5 d6) M1=b (yE sc d2 (some (.lst (am rs))) (some (.str (ai [(w:Int),(rs.length:Int)]++T.getD 0 ""))) d5 d6) M1:=fun b=>az (aB (fB cp e2))
 rw[s1,s2];exact iB (t:=⟨aN 0 6,none⟩) (f6 (n:=6) (aV rfl rfl) (by decide)) ef
end
theorem law_true (ns:List Int)(hl:ns.length≤63):∃M',pc [.ro (ns.map D.int)] []=.ok (.bl true) M':=by
 generalize hsc:D.ro (ns.map D.int)=sc;have l3:(3:Nat)≤sizeLine:=ba (by decide);have t0:bG ns [] [tp ns 0 0]:=⟨0,0,by decide,rfl⟩;have s1:∀b:GS,aj (aw 1 (jc (aa (aG fU (aa (af 0) ag)) (aa (gC (.int 0)) (aa (gC (.int 0)) ag))))) b [some sc,none,none,none,none,none,none] []=b (yE (some sc) none none none none none) [tp ns 0 0]:=fun b=>by
  subst hsc;refine az (aB (d:=.mr 0) (M1:=[tp ns 0 0]) ?_);show(if [D.lst (ns.map D.int),.int 0,.int 0].length≤sizeLine then aF.ok (D.mr 0) [MO.lst [D.lst (ns.map D.int),.int 0,.int 0]] else .bad)=_;rw[if_pos (show [D.lst (ns.map D.int),.int 0,.int 0].length≤sizeLine from l3)];rfl
 obtain⟨ρ',N,_,ef⟩:=oy (ds0:=aN 0 3) (s:=cw 2) (body:=jZ) (W:=fun _ ρ N=>∃(d2 d3 d4 d5 d6:Option D),ρ=yE (some sc) d2 d3 d4 d5 d6∧bG ns [] N) (aN 0 3) 0 (fun j dd hd ρ N hW=>by
  obtain⟨d2,d3,d4,d5,d6,rfl,t⟩:=hW;obtain⟨d3',d4',d5',d6',N',t',e⟩:=t7 (sc:=some sc) (d2:=some dd) (d3:=d3) (d4:=d4) (d5:=d5) (d6:=d6) rfl t;exact⟨_,_,N',rfl,e,some dd,d3',d4',d5',d6',rfl,t'⟩) (yE (some sc) none none none none none) [tp ns 0 0] ⟨none,none,none,none,none,rfl,t0⟩
 refine⟨N,?_⟩;show aT (oS [some sc,none,none,none,none,none,none] [])=_;unfold oS;rw[s1];exact congrArg aT ((az (iB (t:=⟨aN 0 3,none⟩) (f6 (n:=3) (aV rfl rfl) (by decide)) ef)).trans (gN rfl))
end K39
theorem PySem.Challenge.cw_glowrow_k39_whole_any_packing_read_holds : PySem.Challenge.rw_glowrow_k39_whole_any_packing_read.Holds :=
 K39.pre K39.law_true
