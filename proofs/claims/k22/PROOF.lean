import PyProof.Rows.All
import Wide.All
import KE.KNestM
import OpenK.KOwn
import OpenK.KRaise
import KE.KIsAll
import KE.KTypeName
import Wide.FinOn
import Lean
import PyProof.EqAt
import PyProof.EqKinds
import PyProof.TupleCall
import PyProof.Draws
import PyProof.EnumMake
import KE.KLam
import KE.KMinKey
import PyProof.StrCalls2
import PyProof.Rows.StrIndexOr
import PyProof.CollectIter
import PyProof.ListStr
import KE.KDictLaws
import PyProof.P3Eq
import KE.KSortTup
import KE.KDictList
import PyProof.ZipIter
import PyProof.Rows.ZipGen
import PyProof.SliceStr2
import PyProof.StrBlockI
import PyProof.StrCalls3
import PyProof.StrCalls6
import PyProof.StrCalls5
import KE.KRevIter
import PyProof.FactsAll.range_2
import PyProof.DictItems
import PyProof.CallStr
import KE.KIntText
import PySem.Challenge.RW_glowrow_k22_whole_plans_there_and_back
set_option Elab.async false
set_option linter.all false
set_option maxRecDepth 100000
set_option maxHeartbeats 4000000
namespace L2
open PySem PySem.Spec PyProof.Rows List
abbrev gV:=Sum Int Str
def o8:gV→Value→Bool
 | .inl k,v=>Value.isInt k v
 | .inr x,v=>Value.isStrOf x v
def LX (w:World):gV→Int
 | .inl k=>hashInt k
 | .inr x=>hashStr w x
theorem b9:∀{k:gV} {v:Value},o8 k v=true→(∃i t,k=Sum.inl i∧v=Value.int i t)∨(∃x t,k=Sum.inr x∧v=Value.str x t)
 | .inl i,v,h=>by
  obtain⟨t,e⟩:=Value.isInt_shape (k:=i) (v:=v) h;exact .inl ⟨i,t,rfl,e⟩
 | .inr x,v,h=>by
  obtain⟨t,e⟩:=Value.isStrOf_shape (x:=x) (v:=v) h;exact .inr ⟨x,t,rfl,e⟩
theorem yI (i:Int)(t:Tok):o8 (.inl i) (.int i t)=true:=by simp[o8,Value.isInt]
theorem zC (x:Str)(t:Tok):o8 (.inr x) (.str x t)=true:=by simp[o8,Value.isStrOf]
theorem Hs (a b:Int):decide ((Sum.inl a:gV)=Sum.inl b)=(a==b):=by
 by_cases e:a=b
 ·subst e;simp
 ·have h:¬(Sum.inl a:gV)=Sum.inl b:=fun q=>e (Sum.inl.inj q)
  rw[decide_eq_false h];exact(beq_eq_false_iff_ne.mpr e).symm
theorem HA (a b:Str):decide ((Sum.inr a:gV)=Sum.inr b)=decide (a=b):=by
 by_cases e:a=b
 ·subst e;simp
 ·have h:¬(Sum.inr a:gV)=Sum.inr b:=fun q=>e (Sum.inr.inj q)
  rw[decide_eq_false h,decide_eq_false e]
theorem FI (a:Int)(b:Str):decide ((Sum.inl a:gV)=Sum.inr b)=false:=decide_eq_false (fun q=>nomatch q)
theorem FQ (a:Str)(b:Int):decide ((Sum.inr a:gV)=Sum.inl b)=false:=decide_eq_false (fun q=>nomatch q)
def cM (prog:Program)(w:World):PySem.KeyKind prog w gV where
 is:=o8
 hash:=LX w
 inj:=fun v a b ha hb=>by
  rcases b9 ha with⟨i,t,rfl,rfl⟩|⟨x,t,rfl,rfl⟩
  ·rcases b9 hb with⟨j,u,rfl,e⟩|⟨y,u,rfl,e⟩
   ·injection e with e1 _;rw[e1]
   ·exact nomatch e
  ·rcases b9 hb with⟨j,u,rfl,e⟩|⟨y,u,rfl,e⟩
   ·exact nomatch e
   ·injection e with e1 _;rw[e1]
 byValue:=fun k v h=>by
  rcases b9 h with⟨i,t,rfl,rfl⟩|⟨x,t,rfl,rfl⟩ <;> rfl
 pyHash:=fun hv h=>by
  rcases b9 hv with⟨i,t,rfl,rfl⟩|⟨x,t,rfl,rfl⟩
  ·exact wpAny_pyHash_int h
  ·exact wpAny_pyHash_str h
 eqBool:=fun hu hv h=>by
  rcases b9 hu with⟨i,t,rfl,rfl⟩|⟨x,t,rfl,rfl⟩
  ·rcases b9 hv with⟨j,u,rfl,rfl⟩|⟨y,u,rfl,rfl⟩
   ·rw[Hs] at h;exact wpAny_eqBool_int h
   ·rw[FI] at h;exact SeqAt.EqAt.int_str i t y u _ _ _ _ h
  ·rcases b9 hv with⟨j,u,rfl,rfl⟩|⟨y,u,rfl,rfl⟩
   ·rw[FQ] at h;exact SeqAt.EqAt.str_int x t j u _ _ _ _ h
   ·rw[HA] at h;exact wpAny_eqBool_str h
 «strs»:=fun k x t v h=>by
  rcases b9 h with⟨i,u,rfl,e⟩|⟨y,u,rfl,e⟩
  ·exact nomatch e
  ·injection e with e1 _
   subst e1;cases v <;> rfl
theorem uL (prog:Program)(w:World)(i:Int)(t:Tok):(cM prog w).is (.inl i) (.int i t)=true:=yI i t
theorem vh (prog:Program)(w:World)(x:Str)(t:Tok):(cM prog w).is (.inr x) (.str x t)=true:=zC x t
inductive V where
 | non|bl (b:Bool)|int (i:Int)|str (x:Str)|byt (b:Array UInt8)|flt (b:UInt64)|ref (a:Addr)|ty (n:String)
 deriving DecidableEq
def aY:V→Value→Prop
 | .non,u=>u=Value.none
 | .bl b,u=>u=Value.bool b
 | .int i,u=>∃t,u=Value.int i t
 | .str x,u=>∃t,u=Value.str x t
 | .byt b,u=>∃t,u=Value.bytes b t
 | .flt b,u=>∃t,u=Value.float b t
 | .ref a,u=>u=Value.ref a
 | .ty n,u=>u=Value.type n
abbrev aR:List V→List Value→Prop:=Paired aY
variable{xs:List V}{us:List Value}
theorem aR.length (r:aR xs us):xs.length=us.length:=Paired.length r
theorem aR.get:∀{xs:List V} {us:List Value} {i:Nat} {x:V},aR xs us→xs[i]?=some x→∃u,us[i]?=some u∧aY x u
 | _,_,_,_,.nil,e=>by simp at e
 | _,_,0,_,.cons r _,e=>by simp at e;subst e;exact⟨_,rfl,r⟩
 | _,_,i+1,x,.cons _ t,e=>by
  obtain⟨u,h1,h2⟩:=aR.get (i:=i) (x:=x) t (by simpa using e);exact⟨u,by simpa using h1,h2⟩
variable{u:Value}
theorem aR.set {x:V}(r:aY x u):∀{xs:List V} {us:List Value} (i:Nat),aR xs us→aR (xs.set i x) (us.set i u)
 | _,_,_,.nil=>.nil
 | _,_,0,.cons _ t=>.cons r t
 | _,_,i+1,.cons q t=>.cons q (aR.set r i t)
theorem aR.append:∀{xs ys:List V} {us ws:List Value},aR xs us→aR ys ws→aR (xs++ys) (us++ws)
 | _,_,_,_,.nil,s=>s
 | _,_,_,_,.cons r t,s=>.cons r (aR.append t s)
theorem aR.take:∀{xs:List V} {us:List Value} (n:Nat),aR xs us→aR (xs.take n) (us.take n)
 | _,_,0,_=>.nil
 | _,_,_+1,.nil=>.nil
 | _,_,n+1,.cons r t=>.cons r (aR.take n t)
theorem aR.drop:∀{xs:List V} {us:List Value} (n:Nat),aR xs us→aR (xs.drop n) (us.drop n)
 | _,_,0,r=>r
 | _,_,_+1,.nil=>.nil
 | _,_,n+1,.cons _ t=>aR.drop n t
def qC:Option V→Option Value→Prop
 | some v,some u=>aY v u
 | none,none=>True
 | _,_=>False
def KV {κ:Type}:List (κ×V)→List (κ×Value)→Prop:=Paired fun(p:κ×V) (q:κ×Value)=>p.1=q.1∧aY p.2 q.2
def kV:gV→V
 | .inl i=>.int i
 | .inr x=>.str x
inductive HO where
 | lst (xs:List V)
 | tup (xs:List V)
 | dK (kvs:List (gV×V))|dT (kvs:List (List gV×V))
 | set (S:Int→Bool) (n:Nat)
 | ins (C dx:Addr) (fs:List (Str×V))
 | own (x:Addr)
 | xd (fs:List (Str×V))
 | met (f x:Addr)
 | rng (lo hi:Int)
 | frz (o:Obj) (u:HO)
 | tbl (ps:Array Value)
 | ext (φ:Heap→Prop)
abbrev Hp:=Addr→Option HO
def cA (H:Hp)(a:Addr)(o:HO):Hp:=fun b=>if b=a then some o else H b
variable{H:Hp}{a:Addr}{o:HO}
theorem dL :cA H a o a=some o:=by unfold cA;rw[if_pos rfl]
variable{b:Addr}
theorem aK (h:b≠a):cA H a o b=H b:=by unfold cA;rw[if_neg h]
theorem xI {u:HO}(h:H a=some o)(h':H b=some u)(d:o≠u):a≠b:=by
 intro e;subst e;rw[h] at h';exact d (Option.some.inj h')
theorem bQ (h:H a=some o)(h':H b=none):a≠b:=by
 intro e;subst e;rw[h] at h';cases h'
section
variable (P:Program)(w:World)
def cO (H:Hp)(h:Heap)(a:Addr):HO→Prop
 | .lst xs=>xs.length≤sizeLine∧∃(its:List Value) (n:Nat),aR xs its∧h.get? a=some {cls:=.type "list",data:=.seq its.toArray n}
 | .tup xs=>xs.length≤sizeLine∧∃its:List Value,aR xs its∧IsTup h a its.toArray
 | .dK kvs=>kvs.length≤sizeLine∧(a==sysModules)=false∧∃vs,KV kvs vs∧h.DictOf (cM P w) a vs
 | .dT kvs=>kvs.length≤sizeLine∧(a==sysModules)=false∧∃xs:List (List gV×Addr×Value),
   Paired (fun(p:List gV×V) (q:List gV×Addr×Value)=>p.1=q.1∧H q.2.1=some (.tup (p.1.map kV))∧aY p.2 q.2.2) kvs xs∧
   ∃o es ep,h.get? a=some o∧o.ExactDict∧o.data=.dict es ep∧es.toList=xs.map (entryOfKey (tupleKind (cM P w)))∧(xs.map (·.1)).Nodup
 | .set S n=>h.SetOf (intKind P w) a S n
 | .ins C dx fs=>H dx=some (.own a)∧fs.length≤1000∧dx≠a∧h.get? a=some (W.instObj C dx)∧
   ∃mA,h.Ns1 dx mA∧(∀f,qC (fs.lookup f) (mA f))∧PySem.Within mA (fs.map (·.1))
 | .own _=>∃o,h.get? a=some o
 | .xd fs=>∃mA,h.Ns1 a mA∧∀f,qC (fs.lookup f) (mA f)
 | .rng lo hi=>∃t u v,h.get? a=some {cls:=.type "range",data:=.fields #[.int lo t,.int hi u,.int 1 v]}
 | .frz o u=>h.get? a=some o∧cO H h a u
 | .tbl ps=>h.get? a=some {cls:=.none,data:=.fields ps}
 | .met f x=>h.get? a=some (W.methodObj (.ref f) (.ref x))
 | .ext φ=>φ h∧(∃o,h.get? a=some o)∧∀h1 h2:Heap,φ h1→(∀o,h1.get? a=some o→h2.get? a=some o)→φ h2
def lu (H:Hp)(h:Heap):Prop:=∀a o,H a=some o→cO P w H h a o
end
section
variable {P:Program}{w:World}{H H':Hp}{h h':Heap}{a:Addr}{o:HO}
theorem cO.lt (x:cO P w H h a o):a<h.objs.size:=by
 cases o with
 | lst xs=>obtain⟨_,_,_,_,e⟩:=x;exact Heap.lt_size e
 | tup xs=>obtain⟨_,_,_,p⟩:=x;exact p.lt
 | dK kvs=>obtain⟨_,_,_,_,o,_,_,e,_⟩:=x;exact Heap.lt_size e
 | dT kvs=>obtain⟨_,_,_,_,o,_,_,e,_⟩:=x;exact Heap.lt_size e
 | set S n=>obtain⟨o,_,_,_,e,_⟩:=x;exact Heap.lt_size e
 | ins C dx fs=>obtain⟨_,_,_,e,_⟩:=x;exact Heap.lt_size e
 | own y=>obtain⟨_,e⟩:=x;exact Heap.lt_size e
 | xd fs=>obtain⟨_,⟨_,_,_,e,_⟩,_⟩:=x;exact Heap.lt_size e
 | rng lo hi=>obtain⟨_,_,_,e⟩:=x;exact Heap.lt_size e
 | frz ob u=>obtain⟨e,_⟩:=x;exact Heap.lt_size e
 | tbl ps=>exact Heap.lt_size (show h.get? a=some _ from x)
 | met f y=>exact Heap.lt_size (show h.get? a=some _ from x)
 | ext φ=>obtain⟨_,⟨_,e⟩,_⟩:=x;exact Heap.lt_size e
theorem Paired.mapP {α β:Type}{F G:α→β→Prop}:∀{l₁:List α} {l₂:List β},Paired F l₁ l₂→(∀a b,F a b→G a b)→Paired G l₁ l₂
 | _,_,.nil,_=>.nil
 | _,_,.cons r t,f=>.cons (f _ _ r) (Paired.mapP t f)
theorem cO.stay (x:cO P w H h a o)(k:∀b u,(b=a∨H b=some (.own a))→h.get? b=some u→h'.get? b=some u)
  (ho:∀b,H b=some (.own a)→H' b=some (.own a)) (ht:∀b xs,H b=some (.tup xs)→H' b=some (.tup xs)):cO P w H' h' a o:=by
 induction o with
 | lst xs=>obtain⟨z,its,n,r,e⟩:=x;exact⟨z,its,n,r,k _ _ (.inl rfl) e⟩
 | tup xs=>obtain⟨z,its,r,ob,e,c⟩:=x;exact⟨z,its,r,ob,k _ _ (.inl rfl) e,c⟩
 | dK kvs=>obtain⟨z,y,vs,r,ob,es,ep,e,c⟩:=x;exact⟨z,y,vs,r,ob,es,ep,k _ _ (.inl rfl) e,c⟩
 | dT kvs=>
  obtain⟨z,y,xs,r,ob,es,ep,e,c⟩:=x;exact⟨z,y,xs,Paired.mapP r fun p q z=>⟨z.1,ht _ _ z.2.1,z.2.2⟩,ob,es,ep,k _ _ (.inl rfl) e,c⟩
 | set S n=>obtain⟨ob,es,ep,t,e,c⟩:=x;exact⟨ob,es,ep,t,k _ _ (.inl rfl) e,c⟩
 | ins C dx fs=>
  obtain⟨d,z,ne,e,mA,⟨od,es,ep,e2,c⟩,r⟩:=x;exact⟨ho _ d,z,ne,k _ _ (.inl rfl) e,mA,⟨od,es,ep,k _ _ (.inr d) e2,c⟩,r⟩
 | own y=>obtain⟨ob,e⟩:=x;exact⟨ob,k _ _ (.inl rfl) e⟩
 | xd fs=>obtain⟨mA,⟨od,es,ep,e,c⟩,r⟩:=x;exact⟨mA,⟨od,es,ep,k _ _ (.inl rfl) e,c⟩,r⟩
 | rng lo hi=>obtain⟨t,u,v,e⟩:=x;exact⟨t,u,v,k _ _ (.inl rfl) e⟩
 | frz ob u ih=>obtain⟨e,q⟩:=x;exact⟨k _ _ (.inl rfl) e,ih q⟩
 | tbl ps=>
  have e:h.get? a=some {cls:=.none,data:=.fields ps}:=x;show h'.get? a=some {cls:=.none,data:=.fields ps};exact k a _ (.inl rfl) e
 | met f y=>
  have e:h.get? a=some (W.methodObj (.ref f) (.ref y)):=x;show h'.get? a=some (W.methodObj (.ref f) (.ref y));exact k a _ (.inl rfl) e
 | ext φ=>obtain⟨p,⟨o,e⟩,st⟩:=x;exact⟨st _ _ p fun o q=>k _ _ (.inl rfl) q,⟨o,k _ _ (.inl rfl) e⟩,st⟩
theorem lu.lt (x:lu P w H h)(e:H a=some o):a<h.objs.size:=(x a o e).lt
theorem lu.fresh (x:lu P w H h)(e:h.objs.size≤a):H a=none:=by
 cases q:H a with
 | none=>rfl
 | some u=>exact absurd (Nat.lt_of_lt_of_le (x.lt q) e) (Nat.lt_irrefl _)
theorem lu.kept (x:lu P w H h)(k:∀b u,h.get? b=some u→h'.get? b=some u):lu P w H h':=fun a o e=>
 (x a o e).stay (fun b u _ q=>k b u q) (fun _ q=>q) fun _ _ q=>q
theorem lu.laid (x:lu P w H h)(k:∀b u,h.get? b=some u→h'.get? b=some u)(hp:h.objs.size≤a)(new:cO P w (cA H a o) h' a o):lu P w (cA H a o) h':=fun b u e=>by
 have hn:=x.fresh hp
 by_cases hb:b=a
 ·subst hb;rw[dL] at e;cases e;exact new
 ·rw[aK hb] at e;exact(x b u e).stay (fun c v _ q=>k c v q) (fun c q=>by rw[aK (bQ q hn)];exact q) fun c xs q=>by rw[aK (bQ q hn)];exact q
end
def Rd (H:Hp)(a:Addr)(u:HO):Prop:=H a=some u∨∃o,H a=some (.frz o u)
variable{P:Program}{w:World}{h:Heap}
theorem Rd.ok {u:HO}(r:Rd H a u)(x:lu P w H h):cO P w H h a u:=by
 rcases r with r|⟨o,r⟩
 ·exact x a u r
 ·obtain⟨_,q⟩:=x a _ r;exact q
def Jg:Option HO→Prop
 | some (.lst _)=>True
 | some (.dK _)=>True
 | some (.dT _)=>True
 | some (.set _ _)=>True
 | some (.ins _ _ _)=>True
 | some (.ext _)=>True
 | _=>False
section
variable {P:Program}{w:World}{H:Hp}{h h':Heap}{x e:Addr}{o':HO}
theorem lu.write (ok:lu P w H h)(mu:Jg (H x))(he:e=x∨H e=some (.own x))(k:∀b u,b≠e→h.get? b=some u→h'.get? b=some u)(heo:∃u,h'.get? e=some u)
  (new:cO P w (cA H x o') h' x o'):lu P w (cA H x o') h':=fun b u q=>by
 have nown:∀c y,H c=some (.own y)→c≠x:=fun c y r z=>by subst z;rw[r] at mu;exact mu
 have ntup:∀c xs,H c=some (.tup xs)→c≠x:=fun c xs r z=>by subst z;rw[r] at mu;exact mu
 by_cases hb:b=x
 ·subst hb;rw[dL] at q;cases q;exact new
 ·rw[aK hb] at q
  by_cases hbe:b=e
  ·have q':H b=some (.own x):=by
    rcases he with z|z
    ·exact absurd (hbe.trans z) hb
    ·rw[hbe];exact z
   rw[q] at q';cases q';obtain⟨v,hv⟩:=heo;exact⟨v,by rw[hbe];exact hv⟩
  ·refine(ok b u q).stay (fun c v hc r=>k c v ?_ r) (fun c r=>by rw[aK (nown c b r)];exact r) fun c xs r=>by rw[aK (ntup c xs r)];exact r
   rcases hc with rfl|hc
   ·exact hbe
   ·rintro rfl;rcases he with z|z
    ·exact nown c b hc z
    ·rw[hc] at z;cases z;exact hb rfl
end
structure Un (fs ex:List Addr)(H H':Hp)(h h':Heap):Prop where
 keep:∀b o,h.get? b=some o→H b=none→b∉fs→b∉ex→h'.get? b=some o
 slot:∀b o,h.get? b=some o→H b=none→b∈fs→b∉ex→∃sl,h'.get? b=some {o with slots:=sl}
 free:∀b o,h.get? b=some o→H b=none→b∉ex→H' b=none
 there:∀b o,h.get? b=some o→b∉ex→∃o',h'.get? b=some o'
 tups:∀b xs,H b=some (.tup xs)→H' b=some (.tup xs)
 frzs:∀b o u,H b=some (.frz o u)→H' b=some (.frz o u)
 tbls:∀b ps,H b=some (.tbl ps)→∃more,H' b=some (.tbl (ps++more))
section
variable {fs fs' ex ex':List Addr}{H H1 H2:Hp}{h h1 h2 h':Heap}{a x e:Addr}{o:HO}
theorem Un.any (u:Un fs ex H H1 h h1){ob:Obj}(q:h.get? b=some ob)(n:H b=none)(hx:b∉ex):∃sl,h1.get? b=some {ob with slots:=sl}:=by
 by_cases hb:b∈fs
 ·exact u.slot b ob q n hb hx
 ·exact⟨ob.slots,u.keep b ob q n hb hx⟩
theorem Un.kept (k:∀b u,h.get? b=some u→h'.get? b=some u):Un fs ex H H h h':=
 ⟨fun b ob q _ _ _=>k b ob q,fun b ob q _ _ _=>⟨ob.slots,k b ob q⟩,fun _ _ _ n _=>n,fun b ob q _=>⟨ob,k b ob q⟩,fun _ _ q=>q,fun _ _ _ q=>q,fun _ ps q=>⟨#[],by rw[q];simp⟩⟩
theorem Un.refl:Un fs ex H H h h:=Un.kept fun _ _ q=>q
theorem Un.laid (k:∀b u,h.get? b=some u→h'.get? b=some u)(hp:h.objs.size≤a)(hn:H a=none):Un fs ex H (cA H a o) h h' where
 keep:=fun b u q _ _ _=>k b u q
 slot:=fun b u q _ _ _=>⟨u.slots,k b u q⟩
 free:=fun b u q n _=>by rw[aK (Nat.ne_of_lt (Nat.lt_of_lt_of_le (Heap.lt_size q) hp))];exact n
 there:=fun b u q _=>⟨u,k b u q⟩
 tups:=fun b xs q=>by rw[aK (bQ q hn)];exact q
 frzs:=fun b u xs q=>by rw[aK (bQ q hn)];exact q
 tbls:=fun b ps q=>⟨#[],by rw[aK (bQ q hn),q];simp⟩
theorem Un.write (mu:Jg (H x))(he:e=x∨H e=some (.own x))(k:∀b u,b≠e→h.get? b=some u→h'.get? b=some u)(heo:∃u,h'.get? e=some u):Un fs ex H (cA H x o) h h':=by
 have hx:∀b,H b=none→b≠x:=fun b n z=>by subst z;rw[n] at mu;exact mu
 have hb:∀b,H b=none→b≠e:=fun b n z=>by
  subst z;rcases he with r|r
  ·exact hx b n r
  ·rw[n] at r;cases r
 have hm:∀b u,H b=some u→¬Jg (some u)→b≠x:=fun b u q nm z=>by subst z;rw[q] at mu;exact nm mu
 refine⟨fun b u q n _ _=>k b u (hb b n) q,fun b u q n _ _=>⟨u.slots,k b u (hb b n) q⟩,fun b u q n _=>by rw[aK (hx b n)];exact n,fun b u q _=>?_,
  fun b xs q=>by rw[aK (hm b _ q fun z=>z)];exact q,fun b u xs q=>by rw[aK (hm b _ q fun z=>z)];exact q,fun b ps q=>⟨#[],by rw[aK (hm b _ q fun z=>z),q];simp⟩⟩
 by_cases hbe:b=e
 ·subst hbe;exact heo
 ·exact⟨u,k b u hbe q⟩
end
def trk (h:Heap)(H:Hp):List Addr:=(List.range h.objs.size).filter fun a=>(H a).isSome
def tz (h:Heap)(H:Hp):Heap:=W.hideAll h (trk h H)
theorem yC (h:Heap)(H:Hp):(tz h H).objs.size=h.objs.size:=W.hideAll_size _ _
theorem A6 {o:Obj}(e:h.get? b=some o)(n:H b=none):(tz h H).get? b=some o:=
 W.hideAll_get _ e fun hm=>by
  have q:(H b).isSome=true:=(mem_filter.mp hm).2;rw[n] at q;simp at q
theorem Eh {o:Obj}(e:(tz h H).get? b=some o):h.get? b=some o∧H b=none:=by
 have e':h.get? b=some o:=W.of_hideAll (trk h H) e;refine⟨e',?_⟩;cases q:H b with
 | none=>rfl
 | some x=>
  have hm:b∈trk h H:=mem_filter.mpr ⟨mem_range.mpr (Heap.lt_size e'),by simp[q]⟩;have z:(tz h H).get? b=none:=W.hideAll_none (trk h H) hm;rw[z] at e;cases e
def DM (g h:Heap)(L:Addr):List (Addr×Obj):=(List.range h.objs.size).filterMap fun a=>if a=L∨(g.get? a).isSome=true then none else(h.get? a).map fun o=>(a,o)
def ap (g h:Heap)(L d:Addr):List (Addr×Obj):=(DM g h L).filter fun p=>decide (p.1≠d)
structure Mod (K:W.Frag)(mg:Str→Option Value)(base:Heap):Prop where
 kin:K.In base
 glob:base.Ns mainGlobals mg
 blt:∃mb,base.Ns builtinsNs mb∧∀x:Str,x≠"__name__"→mb x=bootBuiltins x
 nolimit:base.NoLimit
structure Cx where
 prog:Program
 w:World
 K:W.Frag
 mg:Str→Option Value
 base:Heap
 A:Around
 N:List Str
 s₀:Shared
 H₀:Hp
 env:Env
 outer:List Env
 stack:List Env
 ex:List Addr
 fn:Str→Bool
 calm:Bool
 pn:List (Addr×Obj)
 xe:Value→Shared→Prop
def lY (l:List Env):List Addr:=l.filterMap (·.frame)
abbrev Cx.fs (X:Cx):List Addr:=lY X.outer
def Fh (sc:Scope)(x:Str):Prop:=sc.names.lookup x=some .local∨sc.names.lookup x=some .cell∨sc.names.lookup x=some .free
def xU (sc:Scope)(x:Str):Prop:=sc.names.lookup x=some .local∨sc.names.lookup x=some .cell
def Lj (env:Env)(h:Heap)(m:Str→Option Value)(x:Str)(u:Value):Prop:=
 (env.kindOf x=some .local∧m x=some u)∨((env.kindOf x=some .cell∨env.kindOf x=some .free)∧∃c,env.cells.lookup x=some c∧h.IsCell c (some u))
structure Cx.Ok (X:Cx):Prop where
 mod:Mod X.K X.mg X.base
 kind:X.env.scope.kind=.function
 glob:X.env.globals=mainGlobals
 blt:X.env.builtins=builtinsNs
 above:X.s₀.heap.objs.size≤X.env.locals
 inj:∀x y c,X.env.cells.lookup x=some c→X.env.cells.lookup y=some c→x=y
 has:∀x,(X.env.kindOf x=some .cell∨X.env.kindOf x=some .free)→∃c,X.env.cells.lookup x=some c
 cab:∀x c,X.fn x=true→X.env.cells.lookup x=some c→X.s₀.heap.objs.size≤c
 hd:X.calm=true→X.A.handled=none
 frames:X.A.frames=some X.stack
 stk:X.stack=X.outer∨(X.stack=X.env::X.outer∧X.env.frame=some X.env.locals)
 exf:∀b∈X.ex,b≠X.env.locals∧∀x c,X.env.cells.lookup x=some c→c≠b
 bs:∀b o,X.base.get? b=some o→X.s₀.heap.get? b=some o∧X.H₀ b=none
 bsz:X.base.objs.size≤X.s₀.heap.objs.size
 noex:∀b o,X.base.get? b=some o→b∉X.ex
 exfs:∀b∈X.ex,b∉X.fs
 funs:X.s₀.heap.FunFrames X.base X.outer
 frf:∀b∈X.fs,X.H₀ b=none
structure Inv (X:Cx)(ae:List (Addr×Obj))(σ:List (Option V))(H:Hp)(s:Shared):Prop where
 ok:X.Ok
 os:s.os=X.s₀.os
 bare:AllBare s.gens
 base:Un X.fs X.ex X.H₀ H X.s₀.heap s.heap
 loc:∃m,s.heap.Ns X.env.locals m∧∀(i:Nat) (x:Str) (v:V),X.N[i]?=some x→σ[i]?=some (some v)→Fh X.env.scope x→∃u,aY v u∧Lj X.env s.heap m x u
 cell:∀x c,X.env.cells.lookup x=some c→∃v,s.heap.IsCell c v
 free:H X.env.locals=none
 freeC:∀x c,X.env.cells.lookup x=some c→H c=none
 pin:∀p∈X.pn++ae,s.heap.get? p.1=some p.2∧H p.1=none∧p.1≠X.env.locals∧p.1∉X.fs∧∀v,p.2.data≠.cell v
 hok:lu X.prog X.w H s.heap
 len:σ.length=X.N.length
variable{x:Str}{ch:List Addr}{i:Nat}{v:V}
section
variable {X:Cx}{ae:List (Addr×Obj)}{σ:List (Option V)}{H H':Hp}{s:Shared}{h':Heap}
theorem Cx.Ok.nofr (ok:X.Ok){o:Obj}(e:X.base.get? b=some o):b∉X.fs:=fun hb=>by
 have:=(ok.funs.mem hb).1;rw[e] at this;cases this
theorem Inv.bs (I:Inv X ae σ H s):∀b o,X.base.get? b=some o→s.heap.get? b=some o∧H b=none:=fun b o e=>
 ⟨I.base.keep b o (I.ok.bs b o e).1 (I.ok.bs b o e).2 (I.ok.nofr e) (I.ok.noex b o e),I.base.free b o (I.ok.bs b o e).1 (I.ok.bs b o e).2 (I.ok.noex b o e)⟩
theorem Inv.bk (I:Inv X ae σ H s):∀b o,X.base.get? b=some o→s.heap.get? b=some o:=fun b o e=>(I.bs b o e).1
theorem Inv.mod (I:Inv X ae σ H s):Mod X.K X.mg X.base:=I.ok.mod
theorem Inv.kIn (I:Inv X ae σ H s):X.K.In s.heap:=I.ok.mod.kin.keeps I.bk
theorem Inv.lt (I:Inv X ae σ H s):X.env.locals<s.heap.objs.size:=let ⟨_,hn,_⟩:=I.loc;hn.lt
theorem Inv.sz (I:Inv X ae σ H s):X.s₀.heap.objs.size≤s.heap.objs.size:=Nat.le_trans I.ok.above (Nat.le_of_lt I.lt)
theorem Inv.nofs (I:Inv X ae σ H s)(h:s.heap.objs.size≤a):a∉X.fs:=fun hb=>by
 obtain⟨_,o,ho,_⟩:=I.ok.funs.mem hb;exact absurd (Nat.lt_of_lt_of_le (Heap.lt_size ho) (Nat.le_trans I.sz h)) (Nat.lt_irrefl _)
theorem Inv.cne (I:Inv X ae σ H s):∀x c,X.env.cells.lookup x=some c→c≠X.env.locals:=fun x c e z=>by
 obtain⟨v,o,ho,hd⟩:=I.cell x c e;obtain⟨m,⟨o',es,ep,ho',hd',_⟩,_⟩:=I.loc;rw[z,ho'] at ho;cases ho;rw[hd'] at hd;cases hd
theorem Inv.funs (I:Inv X ae σ H s):s.heap.FunFrames X.base X.outer:=by
 have all:∀(l:List Env),(∀b∈lY l,b∈X.fs)→X.s₀.heap.FunFrames X.base l→s.heap.FunFrames X.base l:=by
  intro l
  induction l with
  | nil=>intro _ _;trivial
  | cons env r ih=>
   intro hs hl;obtain⟨hk,⟨L,o,hf,hn,ho,hd⟩,hr⟩:=hl;have hL:L∈X.fs:=hs L (by unfold lY;rw[filterMap_cons,hf];exact mem_cons_self);obtain⟨sl,e⟩:=I.base.slot L o ho (I.ok.frf L hL) hL fun z=>I.ok.exfs L z hL
   exact⟨hk,⟨L,_,hf,hn,e,hd⟩,ih (fun b hb=>hs b (by unfold lY;rw[filterMap_cons,hf];exact mem_cons_of_mem _ hb)) hr⟩
 exact all X.outer (fun _ hb=>hb) I.ok.funs
theorem Inv.stack (I:Inv X ae σ H s):s.heap.FunFrames X.base X.stack:=by
 rcases I.ok.stk with e|⟨e,hf⟩
 ·rw[e];exact I.funs
 ·rw[e];obtain⟨m,hn,_⟩:=I.loc;refine .cons (by rw[I.ok.kind];decide) hf hn ?_ I.funs;exact Heap.get?_none_of_le (Nat.le_trans I.ok.bsz I.ok.above)
theorem Inv.stkSub (I:Inv X ae σ H s):∀b∈lY X.stack,b∈X.env.locals::X.fs:=fun b hb=>by
 rcases I.ok.stk with e|⟨e,hf⟩
 ·rw[e] at hb;exact mem_cons_of_mem _ hb
 ·rw[e] at hb;unfold lY at hb;rw[filterMap_cons,hf] at hb;exact hb
theorem Inv.stkFree (I:Inv X ae σ H s):∀b∈lY X.stack,H b=none:=fun b hb=>by
 rcases mem_cons.mp (I.stkSub b hb) with e|hb
 ·rw[e];exact I.free
 ·obtain⟨_,o,ho,_⟩:=I.ok.funs.mem hb;exact I.base.free b o ho (I.ok.frf b hb) fun z=>I.ok.exfs b z hb
theorem Inv.step {g':Array GenState}{t':Nat}{d':Drawn}(I:Inv X ae σ H s)
  (hch:∀b∈ch,(b∈X.ex∨X.s₀.heap.objs.size≤b)∧b≠X.env.locals∧(∀x c,X.env.cells.lookup x=some c→c≠b)∧∀p∈X.pn++ae,p.1≠b)
  (keep:∀b o,b≠X.env.locals→b∉X.fs→b∉ch→s.heap.get? b=some o→H b=none→h'.get? b=some o)
  (slot:∀b o,b≠X.env.locals→b∈X.fs→b∉ch→s.heap.get? b=some o→H b=none→∃sl,h'.get? b=some {o with slots:=sl}) (free:∀b o,b∉ch→s.heap.get? b=some o→H b=none→H' b=none)
  (there:∀b o,b∉ch→s.heap.get? b=some o→∃o',h'.get? b=some o')
  (tups:∀b xs,H b=some (.tup xs)→H' b=some (.tup xs)) (frzs:∀b o u,H b=some (.frz o u)→H' b=some (.frz o u)) (tbls:∀b ps,H b=some (.tbl ps)→∃more,H' b=some (.tbl (ps++more)))
  (ns:∀m,s.heap.Ns X.env.locals m→h'.Ns X.env.locals m) (hok:lu X.prog X.w H' h') (hg:AllBare g') :
  Inv X ae σ H' {s with heap:=h',gens:=g',drawn:=d',toks:=t'}:=by
 have neL:∀b o,X.s₀.heap.get? b=some o→b≠X.env.locals:=fun b o e=>Nat.ne_of_lt (Nat.lt_of_lt_of_le (Heap.lt_size e) I.ok.above)
 have neC:∀b o,X.s₀.heap.get? b=some o→b∉X.ex→b∉ch:=fun b o e hx hb=>by
  rcases(hch b hb).1 with z|z
  ·exact hx z
  ·exact absurd (Nat.lt_of_lt_of_le (Heap.lt_size e) z) (Nat.lt_irrefl _)
 have cellK:∀x c,X.env.cells.lookup x=some c→∀v,s.heap.IsCell c v→h'.IsCell c v:=fun x c e v hxx=>by
  obtain⟨o,ho,hd⟩:=hxx;have nch:c∉ch:=fun z=>(hch c z).2.2.1 x c e rfl
  by_cases hc:c∈X.fs
  ·obtain⟨sl,q⟩:=slot c o (I.cne x c e) hc nch ho (I.freeC x c e);exact⟨_,q,hd⟩
  ·exact⟨o,keep c o (I.cne x c e) hc nch ho (I.freeC x c e),hd⟩
 refine⟨I.ok,I.os,hg,⟨fun b o e n hb hx=>?_,fun b o e n hb hx=>?_,fun b o e n hx=>?_,fun b o e hx=>?_,fun b xs e=>tups b xs (I.base.tups b xs e),fun b o xs e=>frzs b o xs (I.base.frzs b o xs e),fun b ps e=>?_⟩,?_,fun x c e=>?_,?_,fun x c e=>?_,fun p hp=>?_,hok,I.len⟩
 ·exact keep b o (neL b o e) hb (neC b o e hx) (I.base.keep b o e n hb hx) (I.base.free b o e n hx)
 ·obtain⟨sl,e1⟩:=I.base.slot b o e n hb hx;obtain⟨sl',e2⟩:=slot b _ (neL b o e) hb (neC b o e hx) e1 (I.base.free b o e n hx);exact⟨sl',e2⟩
 ·obtain⟨o',e1⟩:=I.base.there b o e hx;exact free b o' (neC b o e hx) e1 (I.base.free b o e n hx)
 ·obtain⟨o',e1⟩:=I.base.there b o e hx;exact there b o' (neC b o e hx) e1
 ·obtain⟨m1,e1⟩:=I.base.tbls b ps e;obtain⟨m2,e2⟩:=tbls b _ e1;exact⟨m1++m2,by rw[e2,Array.append_assoc]⟩
 ·obtain⟨m,hn,hl⟩:=I.loc;refine⟨m,ns m hn,fun i x v e1 e2 e3=>?_⟩;obtain⟨u,r,l⟩:=hl i x v e1 e2 e3;refine⟨u,r,?_⟩;rcases l with l|⟨k,c,e,z⟩
  ·exact .inl l
  ·exact .inr ⟨k,c,e,cellK x c e _ z⟩
 ·obtain⟨v,z⟩:=I.cell x c e;exact⟨v,cellK x c e v z⟩
 ·obtain⟨m,⟨o,_,_,ho,_⟩,_⟩:=I.loc;exact free _ o (fun z=>(hch _ z).2.1 rfl) ho I.free
 ·obtain⟨v,o,ho,hd⟩:=I.cell x c e;exact free c o (fun z=>(hch c z).2.2.1 x c e rfl) ho (I.freeC x c e)
 ·obtain⟨e,n,ne,nf,d⟩:=I.pin p hp;have nch:p.1∉ch:=fun z=>(hch p.1 z).2.2.2 p hp rfl
  exact⟨keep p.1 p.2 ne nf nch e n,free p.1 p.2 nch e n,ne,nf,d⟩
theorem Inv.un {t':Nat}(I:Inv X ae σ H s)(u:Un X.fs [] H H' s.heap h')(hok:lu X.prog X.w H' h'):Inv X ae σ H' {s with heap:=h',toks:=t'}:=by
 obtain⟨m,⟨o,es,ep,ho,r⟩,_⟩:=id I.loc;obtain⟨sl,hL⟩:=u.any ho I.free (by simp);exact I.step (g':=s.gens) (d':=s.drawn) (ch:=[]) (fun _ z=>nomatch z) (fun b o _ hb _ e n=>u.keep b o e n hb (by simp)) (fun b o _ hb _ e n=>u.slot b o e n hb (by simp)) (fun b o _ e n=>u.free b o e n (by simp)) (fun b o _ e=>u.there b o e (by simp)) u.tups u.frzs u.tbls (fun m' hm=>by
  obtain⟨o',es',ep',ho',r'⟩:=hm;rw[ho] at ho';cases ho';exact⟨_,es',ep',hL,r'⟩) hok I.bare
theorem Inv.call {g':Array GenState}{t':Nat}{d':Drawn}(I:Inv X ae σ H s)(u:Un (lY X.stack) ch H H' s.heap h')(hok:lu X.prog X.w H' h')(hg:AllBare g')
  (hch:∀b∈ch,(b∈X.ex∨X.s₀.heap.objs.size≤b)∧b≠X.env.locals∧(∀x c,X.env.cells.lookup x=some c→c≠b)∧∀p∈X.pn++ae,p.1≠b) :
  Inv X ae σ H' {s with heap:=h',gens:=g',drawn:=d',toks:=t'}:=by
 obtain⟨m,⟨o,es,ep,ho,r⟩,_⟩:=id I.loc;obtain⟨sl,hL⟩:=u.any ho I.free fun z=>(hch _ z).2.1 rfl
 exact I.step (ch:=ch) hch (fun b o hL hb hc e n=>u.keep b o e n (fun z=>(mem_cons.mp (I.stkSub b z)).elim hL hb) hc) (fun b o _ _ hc e n=>u.any e n hc) (fun b o hc e n=>u.free b o e n hc) (fun b o hc e=>u.there b o e hc) u.tups u.frzs u.tbls (fun m' hm=>by
  obtain⟨o',es',ep',ho',r'⟩:=hm;rw[ho] at ho';cases ho';exact⟨_,es',ep',hL,r'⟩) hok hg
theorem Inv.turned {t':Nat}{it:Addr}(I:Inv X ae σ H s)(k:∀b o,b≠it→s.heap.get? b=some o→h'.get? b=some o)(hn:H it=none)(hL:it≠X.env.locals)
  (h1:it∈X.ex∨X.s₀.heap.objs.size≤it) (h2:∀x c,X.env.cells.lookup x=some c→c≠it) (h3:∀p∈X.pn++ae,p.1≠it):Inv X ae σ H {s with heap:=h',toks:=t'}:=by
 have nit:∀b u,H b=some u→b≠it:=fun b u e z=>by rw[z,hn] at e;cases e
 refine I.step (g':=s.gens) (d':=s.drawn) (ch:=[it]) (fun b hb=>?_) (fun b o _ _ hc e _=>k b o (fun z=>hc (by simp[z])) e) (fun b o _ _ hc e _=>⟨o.slots,k b o (fun z=>hc (by simp[z])) e⟩) (fun _ _ _ _ n=>n)
  (fun b o hc e=>⟨o,k b o (fun z=>hc (by simp[z])) e⟩) (fun _ _ e=>e) (fun _ _ _ e=>e) (fun b ps e=>⟨#[],by rw[e];simp⟩) (fun m hm=>?_) (fun b u e=>?_) I.bare
 ·have e:b=it:=by simpa using hb
  subst e;exact⟨h1,hL,h2,h3⟩
 ·obtain⟨o,es,ep,ho,r⟩:=hm;exact⟨o,es,ep,k _ o (Ne.symm hL) ho,r⟩
 ·refine(I.hok b u e).stay (fun c v hc q=>k c v ?_ q) (fun _ q=>q) fun _ _ q=>q
  rcases hc with z|z
  ·rw[z];exact nit b u e
  ·exact nit c _ z
theorem Inv.tok (I:Inv X ae σ H s)(t:Nat):Inv X ae σ H {s with toks:=t}:=I.un (h':=s.heap) (t':=t) Un.refl I.hok
theorem Inv.kept {t':Nat}(I:Inv X ae σ H s)(k:∀b u,s.heap.get? b=some u→h'.get? b=some u):Inv X ae σ H {s with heap:=h',toks:=t'}:=I.un (Un.kept k) (I.hok.kept k)
theorem Inv.laid {t':Nat}(I:Inv X ae σ H s)(k:∀b u,s.heap.get? b=some u→h'.get? b=some u)(hp:s.heap.objs.size≤a)(new:cO X.prog X.w (cA H a o) h' a o) :
  Inv X ae σ (cA H a o) {s with heap:=h',toks:=t'}:=I.un (Un.laid k hp (I.hok.fresh hp)) (I.hok.laid k hp new)
theorem Inv.write {x e:Addr}{t':Nat}(I:Inv X ae σ H s)(mu:Jg (H x))(he:e=x∨H e=some (.own x))(k:∀b u,b≠e→s.heap.get? b=some u→h'.get? b=some u)(heo:∃u,h'.get? e=some u)
  (new:cO X.prog X.w (cA H x o) h' x o):Inv X ae σ (cA H x o) {s with heap:=h',toks:=t'}:=I.un (Un.write mu he k heo) (I.hok.write mu he k heo new)
theorem Inv.pins_of {pins':List (Addr×Obj)}(I:Inv X ae σ H s)(h:∀p∈pins',s.heap.get? p.1=some p.2∧H p.1=none∧p.1≠X.env.locals∧p.1∉X.fs∧∀v,p.2.data≠.cell v):Inv X pins' σ H s:=
 ⟨I.ok,I.os,I.bare,I.base,I.loc,I.cell,I.free,I.freeC,fun p hp=>(mem_append.mp hp).elim (fun z=>I.pin p (mem_append_left _ z)) (h p),I.hok,I.len⟩
theorem uT {N:List Str}(hN:N.Nodup){j:Nat}(a:N[i]?=some x)(b:N[j]?=some x):i=j:=by
 obtain⟨h1,e1⟩:=List.getElem?_eq_some_iff.mp a;obtain⟨h2,e2⟩:=List.getElem?_eq_some_iff.mp b;exact(getElem_inj hN).mp (e1.trans e2.symm)
theorem kH {M:Model}{A:Around}{E:Value→Shared→Prop}{Q:Unit→Shared→Prop}(I:Inv X ae σ H s)(hN:X.N.Nodup)(hi:X.N[i]?=some x)(hx:xU X.env.scope x)(r:aY v u)
  (h:∀s',Inv X ae (σ.set i (some v)) H s'→(∃a,Heap.SameBut a s.heap s'.heap∧(a=X.env.locals∨X.env.cells.lookup x=some a))→Q () s') (hf:X.fn x=true∨X.env.scope.names.lookup x=some .local:=by first|exact .inl rfl|exact .inr rfl|assumption):wpAny M A (storeName X.env x u) Q E s:=by
 obtain⟨m,hn,hl⟩:=id I.loc;have hcls:(X.env.scope.kind==.class||(X.env.scope.kind==.module&&X.env.locals != X.env.globals))=false:=by rw[I.ok.kind];rfl
 have hiσ:i<σ.length:=by rw[I.len];exact(List.getElem?_eq_some_iff.mp hi).1
 have cne:=I.cne;have tracked:∀{a:Addr} {h':Heap},(∃o,s.heap.get? a=some o∧H a=none)→Heap.SameBut a s.heap h'→lu X.prog X.w H h':=fun {a h'} ha hs b ob e=>by
  obtain⟨_,_,hfree⟩:=ha;refine(I.hok b ob e).stay (fun c w' hc q=>(hs.2 c ?_).trans q) (fun _ q=>q) fun _ _ q=>q
  rintro rfl;rcases hc with rfl|hc
  ·rw[hfree] at e;cases e
  ·rw[hfree] at hc;cases hc
 rcases hx with hk|hk
 ·refine wpAny_storeName_local hk hn (fun h' hn' hs=>?_) hcls;obtain⟨oL,_,_,hoL,_⟩:=id hn;refine h _ ⟨I.ok,I.os,I.bare,⟨fun b o e n hb hx=>?_,fun b o e n hb hx=>?_,I.base.free,fun b o e hx=>?_,I.base.tups,I.base.frzs,I.base.tbls⟩,⟨_,hn',fun j y v' e1 e2 e3=>?_⟩,fun y c e=>?_,I.free,I.freeC,fun p hp=>?_,tracked ⟨oL,hoL,I.free⟩ hs,by simpa using I.len⟩ ⟨_,hs,.inl rfl⟩
  ·exact(hs.2 b (Nat.ne_of_lt (Nat.lt_of_lt_of_le (Heap.lt_size e) I.ok.above))).trans (I.base.keep b o e n hb hx)
  ·obtain⟨sl,e1⟩:=I.base.slot b o e n hb hx;exact⟨sl,(hs.2 b (Nat.ne_of_lt (Nat.lt_of_lt_of_le (Heap.lt_size e) I.ok.above))).trans e1⟩
  ·obtain⟨o',e1⟩:=I.base.there b o e hx;exact⟨o',(hs.2 b (Nat.ne_of_lt (Nat.lt_of_lt_of_le (Heap.lt_size e) I.ok.above))).trans e1⟩
  ·by_cases hj:j=i
   ·subst hj;rw[hi] at e1;cases e1;rw[getElem?_set_self hiσ] at e2;cases e2;exact⟨u,r,.inl ⟨hk,by simp⟩⟩
   ·rw[getElem?_set_ne (Ne.symm hj)] at e2;obtain⟨u',r',q⟩:=hl j y v' e1 e2 e3;refine⟨u',r',?_⟩;rcases q with⟨k,e⟩|⟨k,c,e,z⟩
    ·refine .inl ⟨k,?_⟩;have:y≠x:=fun e=>hj (uT hN e1 (e▸hi))
     simp[this,e]
    ·exact .inr ⟨k,c,e,z.sameBut hs (cne y c e)⟩
  ·obtain⟨w',z⟩:=I.cell y c e;exact⟨w',z.sameBut hs (cne y c e)⟩
  ·obtain⟨e,n,ne,nf,d⟩:=I.pin p hp;exact⟨(hs.2 p.1 ne).trans e,n,ne,nf,d⟩
 ·have hfn:X.fn x=true:=by
   rcases hf with z|z
   ·exact z
   ·rw[z] at hk;cases hk
  obtain⟨c,hc⟩:=I.ok.has x (.inl hk);obtain⟨w',z⟩:=I.cell x c hc;refine wpAny_storeName_cell I.ok.kind hk hc z (fun h' hc' hs=>?_);obtain⟨oc,hoc,hocd⟩:=id z;refine h {s with heap:=h'} ⟨I.ok,I.os,I.bare,⟨fun b o e n hb hx=>?_,fun b o e n hb hx=>?_,I.base.free,fun b o e hx=>?_,I.base.tups,I.base.frzs,I.base.tbls⟩,⟨m,hn.sameBut hs (Ne.symm (cne x c hc)),fun j y v' e1 e2 e3=>?_⟩,fun y c' e=>?_,I.free,I.freeC,fun p hp=>?_,tracked ⟨oc,hoc,I.freeC x c hc⟩ hs,by simpa using I.len⟩ ⟨c,hs,.inr hc⟩
  ·exact(hs.2 b (Nat.ne_of_lt (Nat.lt_of_lt_of_le (Heap.lt_size e) (I.ok.cab x c hfn hc)))).trans (I.base.keep b o e n hb hx)
  ·obtain⟨sl,e1⟩:=I.base.slot b o e n hb hx;exact⟨sl,(hs.2 b (Nat.ne_of_lt (Nat.lt_of_lt_of_le (Heap.lt_size e) (I.ok.cab x c hfn hc)))).trans e1⟩
  ·obtain⟨o',e1⟩:=I.base.there b o e hx;exact⟨o',(hs.2 b (Nat.ne_of_lt (Nat.lt_of_lt_of_le (Heap.lt_size e) (I.ok.cab x c hfn hc)))).trans e1⟩
  ·by_cases hj:j=i
   ·subst hj;rw[hi] at e1;cases e1;rw[getElem?_set_self hiσ] at e2;cases e2;exact⟨u,r,.inr ⟨.inl hk,c,hc,hc'⟩⟩
   ·rw[getElem?_set_ne (Ne.symm hj)] at e2;obtain⟨u',r',q⟩:=hl j y v' e1 e2 e3;refine⟨u',r',?_⟩;rcases q with q|⟨k,c',e,z'⟩
    ·exact .inl q
    ·refine .inr ⟨k,c',e,z'.sameBut hs ?_⟩;rintro rfl;exact hj (uT hN e1 (I.ok.inj _ _ _ e hc▸hi))
  ·by_cases hcc:c'=c
   ·subst hcc;exact⟨_,hc'⟩
   ·obtain⟨w2,z2⟩:=I.cell y c' e;exact⟨w2,z2.sameBut hs hcc⟩
  ·obtain⟨e,n,ne,nf,d⟩:=I.pin p hp;refine⟨(hs.2 p.1 ?_).trans e,n,ne,nf,d⟩;intro q;rw[q,hoc] at e;have q':oc=p.2:=Option.some.inj e;exact d w' (by rw[←q'];exact hocd)
theorem j7 {M:Model}{A:Around}{E:Value→Shared→Prop}{Q:Unit→Shared→Prop}(I:Inv X ae σ H s)(hN:X.N.Nodup)(hi:X.N[i]?=some x)(hx:xU X.env.scope x)(r:aY v u)
  (h:∀s',Inv X ae (σ.set i (some v)) H s'→Q () s') (hf:X.fn x=true∨X.env.scope.names.lookup x=some .local:=by first|exact .inl rfl|exact .inr rfl|assumption):wpAny M A (storeName X.env x u) Q E s:=
 kH I hN hi hx r (fun s' I' _=>h s' I') hf
theorem Inv.call' {s':Shared}(I:Inv X ae σ H s)(ho:s'.os=s.os)(u:Un (lY X.stack) ch H H' s.heap s'.heap)(hok:lu X.prog X.w H' s'.heap)(hg:AllBare s'.gens)
  (hch:∀b∈ch,(b∈X.ex∨X.s₀.heap.objs.size≤b)∧b≠X.env.locals∧(∀x c,X.env.cells.lookup x=some c→c≠b)∧∀p∈X.pn++ae,p.1≠b):Inv X ae σ H' s':=by
 obtain⟨h',g',d',t',o'⟩:=s';have e:o'=s.os:=ho;subst e;exact I.call (g':=g') (t':=t') (d':=d') u hok hg hch
end
abbrev XK:=Value→Option Addr→Hp→Prop
abbrev St:=List (Option V)
abbrev VK:=V→Hp→Prop
abbrev TE:=St→Hp→VK→Prop
abbrev TT:=St→Hp→(Bool→Hp→Prop)→Prop
abbrev TA:=St→Hp→(List V→Hp→Prop)→Prop
structure zn where
 nx:St→Hp→Prop
 rt:VK
 bk:St→Hp→Prop:=fun _ _=>False
 ct:St→Hp→Prop:=fun _ _=>False
abbrev TS:=zn→St→Hp→Prop
def EP (X:Cx)(ae:List (Addr×Obj))(σ:St)(Q:VK)(u:Value)(s':Shared):Prop:=∃v H',Inv X ae σ H' s'∧aY v u∧Q v H'
def TP (X:Cx)(ae:List (Addr×Obj))(σ:St)(Q:Bool→Hp→Prop)(b:Bool)(s':Shared):Prop:=∃H',Inv X ae σ H' s'∧Q b H'
def AP (X:Cx)(ae:List (Addr×Obj))(σ:St)(Q:List V→Hp→Prop)(us:List Value)(s':Shared):Prop:=∃vs H',Inv X ae σ H' s'∧aR vs us∧Q vs H'
def SP (X:Cx)(ae:List (Addr×Obj))(D:zn)(f:Flow)(s':Shared):Prop:=
 match f with
 | .next=>∃σ' H',Inv X ae σ' H' s'∧D.nx σ' H'
 | .brk=>∃σ' H',Inv X ae σ' H' s'∧D.bk σ' H'
 | .cont=>∃σ' H',Inv X ae σ' H' s'∧D.ct σ' H'
 | .ret u=>∃v σ' H',Inv X ae σ' H' s'∧aY v u∧D.rt v H'
def PE (X:Cx)(e:Expr)(t:TE):Prop:=
 ∀(ae:List (Addr×Obj)) (s:Shared) (σ:St) (H:Hp) (Q:VK),Inv X ae σ H s→t σ H Q→wpAny (model X.prog X.w) X.A (eval e X.env) (EP X ae σ Q) X.xe s
def PT (X:Cx)(e:Expr)(t:TT):Prop:=
 ∀(ae:List (Addr×Obj)) (s:Shared) (σ:St) (H:Hp) (Q:Bool→Hp→Prop),Inv X ae σ H s→t σ H Q→wpAny (model X.prog X.w) X.A (isTrue e X.env (eval e X.env)) (TP X ae σ Q) X.xe s
def PW (X:Cx)(e:Expr)(t:TT):Prop:=
 ∀(whole:Sem Value) (ae:List (Addr×Obj)) (s:Shared) (σ:St) (H:Hp) (Q:Bool→Hp→Prop),Inv X ae σ H s→t σ H Q→wpAny (model X.prog X.w) X.A (isTrue e X.env whole) (TP X ae σ Q) X.xe s
variable{X:Cx}{e:Expr}
theorem PW.pt {t:TT}(h:PW X e t):PT X e t:=h _
def PA (X:Cx)(es:List Expr)(t:TA):Prop:=
 ∀(pos:Pos) (ae:List (Addr×Obj)) (s:Shared) (σ:St) (H:Hp) (Q:List V→Hp→Prop),Inv X ae σ H s→t σ H Q→wpAny (model X.prog X.w) X.A (spliced (backTo pos (starEach es X.env))) (AP X ae σ Q) X.xe s
def PS (X:Cx)(st:Stmt)(t:TS):Prop:=
 ∀(ae:List (Addr×Obj)) (s:Shared) (σ:St) (H:Hp) (D:zn),Inv X ae σ H s→t D σ H→wpAny (model X.prog X.w) X.A (exec st X.env) (SP X ae D) X.xe s
def PSs (X:Cx)(st:List Stmt)(t:TS):Prop:=
 ∀(ae:List (Addr×Obj)) (s:Shared) (σ:St) (H:Hp) (D:zn),Inv X ae σ H s→t D σ H→wpAny (model X.prog X.w) X.A (execs st X.env) (SP X ae D) X.xe s
variable{A:Around}{E:Value→Shared→Prop}{s:Shared}
theorem cb {α:Type}{t:Sem α}{Q Q':α→Shared→Prop}{M:Model}(h:wpAny M A t Q E s)(hQ:∀a s,Q a s→Q' a s):wpAny M A t Q' E s:=wpAny_mono h hQ fun _ _ x=>x
variable{Q:Value→Shared→Prop}{ae:List (Addr×Obj)}{σ:St}
section
variable {X:Cx}
def Hj (i:Nat):TE:=fun σ H Q=>∃v,σ[i]?=some (some v)∧Q v H
def tC (v:V):TE:=fun _ H Q=>Q v H
theorem AX {pos:Pos}(hN:X.N[i]?=some x)(hv:Fh X.env.scope x)(hd:(x==("__debug__":Str))=false:=by decide)(hcd:(x==("__classdict__":Str))=false:=by decide):PE X (.Name x pos) (Hj i):=by
 intro ae s σ H Q I h;obtain⟨v,e,h⟩:=h;obtain⟨m,hn,hl⟩:=I.loc;obtain⟨u,r,l⟩:=hl i x v hN e hv;have fin:EP X ae σ Q u s:=⟨v,H,I,r,h⟩;rcases l with⟨hk,hm⟩|⟨hk,c,hc,hcell⟩
 ·exact wpAny_Name (wpAny_loadName_local I.ok.kind hk hn hm fin) hd
 ·rcases hk with hk|hk
  ·exact wpAny_Name (wpAny_loadName_cell I.ok.kind hk hc hcell fin) hd
  ·exact wpAny_Name (wpAny_loadName_free I.ok.kind hk hc hcell fin hcd) hd
theorem HB {i j pos}:PE X (.Constant (.int i) j pos) (tC (.int i)):=fun _ _ _ H _ I h=>wpAny_Constant_int ⟨.int i,H,I.tok _,⟨_,rfl⟩,h⟩
theorem JO {b j pos}:PE X (.Constant (.bool b) j pos) (tC (.bl b)):=fun _ _ _ H _ I h=>Constant_bool ⟨.bl b,H,I,rfl,h⟩
theorem GQ {j pos}:PE X (.Constant .none j pos) (tC .non):=fun _ _ _ H _ I h=>Constant_none ⟨.non,H,I,rfl,h⟩
theorem Gn {x j pos}:PE X (.Constant (.str x) j pos) (tC (.str x)):=fun _ _ _ H _ I h=>Calls.Constant_str ⟨.str x,H,I.tok _,⟨_,rfl⟩,h⟩
def Gl (X:Cx)(x:Str):Prop:=X.env.kindOf x=some .globalImplicit
theorem uG {E:Value→Shared→Prop}{pos:Pos}(I:Inv X ae σ H s)(hg:Gl X x)(hm:X.mg x=some u)(h:Q u s)
  (hd:(x==("__debug__":Str))=false:=by decide):wpAny (model X.prog X.w) X.A (eval (.Name x pos) X.env) Q E s:=
 Calls.Name_function_global I.ok.kind hg (Calls.loadGlobal_global (by rw[I.ok.glob];exact I.mod.glob.keeps I.bk) hm h) hd
theorem um {E:Value→Shared→Prop}{pos:Pos}(I:Inv X ae σ H s)(hg:Gl X x)(hm:X.mg x=none)(hv:bootBuiltins x=some u)(h:Q u s)
  (hn:x≠"__name__":=by decide) (hd:(x==("__debug__":Str))=false:=by decide):wpAny (model X.prog X.w) X.A (eval (.Name x pos) X.env) Q E s:=by
 obtain⟨mb,h1,h2⟩:=I.mod.blt;exact Calls.Name_function_global I.ok.kind hg (Calls.loadGlobal_builtin (by rw[I.ok.glob];exact I.mod.glob.keeps I.bk) hm (by rw[I.ok.blt];exact h1.keeps I.bk) ((h2 x hn).trans hv) h) hd
theorem yi {pos:Pos}(hg:Gl X x)(hm:X.mg x=some u)(r:aY v u)(hd:(x==("__debug__":Str))=false:=by decide):PE X (.Name x pos) (tC v):=
 fun _ _ _ H _ I h=>uG I hg hm ⟨v,H,I,r,h⟩ hd
theorem Dm {pos:Pos}(hg:Gl X x)(hm:X.mg x=none)(hv:bootBuiltins x=some u)(r:aY v u)(hn:x≠"__name__":=by decide)(hd:(x==("__debug__":Str))=false:=by decide):PE X (.Name x pos) (tC v):=
 fun _ _ _ H _ I h=>um I hg hm hv ⟨v,H,I,r,h⟩ hn hd
variable {a b:Expr}{ta tb:TE}{pos:Pos}
variable {tA tB':TT}{ap:List Expr}
def KN (t u:TT):TT:=fun σ H Q=>t σ H fun c H1=>if c=true then u σ H1 Q else Q false H1
def Mn (t u:TT):TT:=fun σ H Q=>t σ H fun c H1=>if c=true then Q true H1 else u σ H1 Q
def LP (t:TT):TT:=fun σ H Q=>t σ H fun c H1=>Q (!c) H1
theorem DG (ha:PT X a tA):PW X (.BoolOp .And [a] pos) tA:=by
 intro wh ae s σ H Q I h;refine isTrue_and (cb (ha ae s σ H Q I h) fun c s1 e=>?_);cases c with
 | true=>exact isTrue_and_nil e
 | false=>exact e
theorem Gg (ha:PT X a tA):PW X (.BoolOp .Or [a] pos) tA:=by
 intro wh ae s σ H Q I h;refine isTrue_or (cb (ha ae s σ H Q I h) fun c s1 e=>?_);cases c with
 | false=>exact isTrue_or_nil e
 | true=>exact e
theorem Gd (ha:PT X a tA)(hb:PW X (.BoolOp .And (b::ap) pos) tB'):PW X (.BoolOp .And (a::b::ap) pos) (KN tA tB'):=by
 intro wh ae s σ H Q I h;refine isTrue_and (cb (ha ae s σ H _ I h) fun c s1 hxx=>?_);obtain⟨H1,I1,q1⟩:=hxx;cases c with
 | true=>exact hb wh ae s1 σ H1 Q I1 q1
 | false=>exact⟨H1,I1,q1⟩
theorem JP (ha:PT X a tA)(hb:PW X (.BoolOp .Or (b::ap) pos) tB'):PW X (.BoolOp .Or (a::b::ap) pos) (Mn tA tB'):=by
 intro wh ae s σ H Q I h;refine isTrue_or (cb (ha ae s σ H _ I h) fun c s1 hxx=>?_);obtain⟨H1,I1,q1⟩:=hxx;cases c with
 | true=>exact⟨H1,I1,q1⟩
 | false=>exact hb wh ae s1 σ H1 Q I1 q1
theorem FA (ha:PT X a tA):PT X (.UnaryOp .Not a pos) (LP tA):=by
 intro ae s σ H Q I h;exact isTrue_not (ha ae s σ H (fun c H1=>Q (!c) H1) I h)
def IK (ta tb:TE):TE:=fun σ H Q=>ta σ H fun x H1=>∃c,x=.bl c∧if c=true then tb σ H1 Q else Q (.bl false) H1
def Lv (ta tb:TE):TE:=fun σ H Q=>ta σ H fun x H1=>∃c,x=.bl c∧if c=true then Q (.bl true) H1 else tb σ H1 Q
def Jx (ta:TE):TE:=fun σ H Q=>ta σ H fun x H1=>∃c,x=.bl c∧Q (.bl (!c)) H1
theorem FY {op}{t:TE}(h:PE X a t):PE X (.BoolOp op [a] pos) t:=fun ae s σ H Q I hw=>BoolOp_one (h ae s σ H Q I hw)
theorem ER (ha:PE X a ta)(hb:PE X (.BoolOp .And (b::ap) pos) tb):PE X (.BoolOp .And (a::b::ap) pos) (IK ta tb):=by
 intro ae s σ H Q I h;refine BoolOp_and (cb (ha ae s σ H _ I h) fun v s1 hxx=>?_);obtain⟨x,H1,I1,r1,q1⟩:=hxx;obtain⟨c,rfl,q1⟩:=q1;cases r1;refine wpAny_truthy_bool ?_;cases c with
 | true=>exact hb ae s1 σ H1 Q I1 q1
 | false=>exact⟨.bl false,H1,I1,rfl,q1⟩
theorem JR (ha:PE X a ta)(hb:PE X (.BoolOp .Or (b::ap) pos) tb):PE X (.BoolOp .Or (a::b::ap) pos) (Lv ta tb):=by
 intro ae s σ H Q I h;refine BoolOp_or (cb (ha ae s σ H _ I h) fun v s1 hxx=>?_);obtain⟨x,H1,I1,r1,q1⟩:=hxx;obtain⟨c,rfl,q1⟩:=q1;cases r1;refine wpAny_truthy_bool ?_;cases c with
 | false=>exact hb ae s1 σ H1 Q I1 q1
 | true=>exact⟨.bl true,H1,I1,rfl,q1⟩
theorem Hg (ha:PE X a ta):PE X (.UnaryOp .Not a pos) (Jx ta):=by
 intro ae s σ H Q I h;refine UnaryOp_ (cb (ha ae s σ H _ I h) fun v s1 hxx=>?_);obtain⟨x,H1,I1,r1,q1⟩:=hxx;obtain⟨c,rfl,q1⟩:=q1;cases r1;exact not_of (wpAny_truthy_bool ⟨.bl (!c),H1,I1,rfl,q1⟩)
def Mw (t:TT)(ta tb:TE):TE:=fun σ H Q=>t σ H fun c H1=>if c=true then ta σ H1 Q else tb σ H1 Q
theorem A4 {c:Expr}(hc:PT X c tA)(ha:PE X a ta)(hb:PE X b tb):PE X (.IfExp c a b pos) (Mw tA ta tb):=by
 intro ae s σ H Q I h;refine wpAny_IfExp (cb (hc ae s σ H _ I h) fun d s1 hxx=>?_);obtain⟨H1,I1,q1⟩:=hxx;cases d with
 | true=>exact ha ae s1 σ H1 Q I1 q1
 | false=>exact hb ae s1 σ H1 Q I1 q1
end
def m3 (K:W.Frag)(H:Hp)(a:Addr)(xs:List V):Prop:=
 Rd H a (.lst xs)∨
  ∃(o:Obj) (its:Array Value) (n:Nat),K.lookup a=some o∧o.cls=.type "list"∧o.dict=none∧o.data=.seq its n∧its.size≤sizeLine∧aR xs its.toList
def pP (K:W.Frag)(H:Hp)(a:Addr)(xs:List V):Prop:=
 Rd H a (.tup xs)∨
  ∃(o:Obj) (its:Array Value) (n:Nat),K.lookup a=some o∧o.cls=.type "tuple"∧o.data=.seq its n∧its.size≤sizeLine∧aR xs its.toList
def L6:Value→Option V
 | .none=>some .non
 | .bool b=>some (.bl b)
 | .int i _=>some (.int i)
 | .str x _=>some (.str x)
 | .bytes b _=>some (.byt b)
 | .float b _=>some (.flt b)
 | .ref a=>some (.ref a)
 | .type n=>some (.ty n)
 | _=>none
theorem aY.abs {x:V}(r:aY x u):L6 u=some x:=by
 cases x with
 | non=>cases r;rfl
 | bl _=>cases r;rfl
 | int _=>obtain⟨t,rfl⟩:=r;rfl
 | str _=>obtain⟨t,rfl⟩:=r;rfl
 | byt _=>obtain⟨t,rfl⟩:=r;rfl
 | flt _=>obtain⟨t,rfl⟩:=r;rfl
 | ref _=>cases r;rfl
 | ty _=>cases r;rfl
theorem aY.inj {x y:V}(r:aY x u)(q:aY y u):x=y:=Option.some.inj (r.abs.symm.trans q.abs)
theorem aR.inj:∀{xs ys:List V} {us:List Value},aR xs us→aR ys us→xs=ys
 | _,_,_,.nil,.nil=>rfl
 | _,_,_,.cons r t,.cons r' t'=>by rw[r.inj r',aR.inj t t']
section
variable {X:Cx}{ae:List (Addr×Obj)}{σ:St}{H:Hp}{s:Shared}{a:Addr}{xs ys:List V}
theorem Inv.list (I:Inv X ae σ H s)(h:m3 X.K H a xs):∃its:List Value,aR xs its∧PlainL s.heap a its.toArray∧xs.length≤sizeLine:=by
 rcases h with h|⟨o,its,n,hk,hc,hd,hs,hz,r⟩
 ·obtain⟨z,its,n,r,e⟩:=h.ok I.hok;exact⟨its,r,⟨_,n,e,rfl,rfl,rfl⟩,z⟩
 ·refine⟨its.toList,r,⟨o,n,I.kIn a o hk,hc,hd,by simpa using hs⟩,?_⟩;have e:=r.length;simp only[Array.length_toList] at e;omega
theorem Inv.tuple (I:Inv X ae σ H s)(h:pP X.K H a xs):∃its:List Value,aR xs its∧IsTup s.heap a its.toArray∧xs.length≤sizeLine:=by
 rcases h with h|⟨o,its,n,hk,hc,hs,hz,r⟩
 ·obtain⟨z,its,r,p⟩:=h.ok I.hok;exact⟨its,r,p,z⟩
 ·refine⟨its.toList,r,⟨o,I.kIn a o hk,hc,n,by simpa using hs⟩,?_⟩;have e:=r.length;simp only[Array.length_toList] at e;omega
theorem Inv.list_inj (I:Inv X ae σ H s)(h:m3 X.K H a xs)(h':m3 X.K H a ys):xs=ys:=by
 obtain⟨its,r,⟨o,n,e,_,_,d⟩,_⟩:=I.list h;obtain⟨its',r',⟨o',n',e',_,_,d'⟩,_⟩:=I.list h';rw[e] at e';cases e';rw[d] at d';injection d' with d1 _
 have:its=its':=by simpa using congrArg Array.toList d1
 subst this;exact r.inj r'
theorem Inv.tuple_inj (I:Inv X ae σ H s)(h:pP X.K H a xs)(h':pP X.K H a ys):xs=ys:=by
 obtain⟨its,r,⟨o,e,_,n,d⟩,_⟩:=I.tuple h;obtain⟨its',r',⟨o',e',_,n',d'⟩,_⟩:=I.tuple h';rw[e] at e';cases e';rw[d] at d';injection d' with d1 _
 have:its=its':=by simpa using congrArg Array.toList d1
 subst this;exact r.inj r'
end
section
variable {X:Cx}{st:Stmt}{ap:List Stmt}{t u:TS}{e:Expr}{te:TE}{pos:Pos}
def Jc:TS:=fun D σ H=>D.nx σ H
def K2 (t u:TS):TS:=fun D σ H=>t {D with nx:=u D} σ H
theorem CI:PSs X [] Jc:=fun _ _ σ H _ I h=>wpAny_execs_nil ⟨σ,H,I,h⟩
theorem Ad (h1:PS X st t)(h2:PSs X ap u):PSs X (st::ap) (K2 t u):=by
 intro ae s σ H D I h;refine wpAny_execs_cons (cb (h1 ae s σ H {D with nx:=u D} I h) fun f s1 q=>?_);cases f with
 | next=>
  obtain⟨σ',H',I',q⟩:=q;exact h2 ae s1 σ' H' D I' q
 | ret v=>exact q
 | brk=>exact q
 | cont=>exact q
theorem CG (h1:PS X st t):PSs X [st] t:=by
 intro ae s σ H D I h;refine wpAny_execs_cons (cb (h1 ae s σ H D I h) fun f s1 q=>?_);cases f with
 | next=>exact wpAny_execs_nil q
 | ret v=>exact q
 | brk=>exact q
 | cont=>exact q
theorem Inv.quiet (I:Inv X ae σ H s):interactive X.env=false:=by simp[interactive,I.ok.kind]
def JF (te:TE):TS:=fun D σ H=>te σ H fun _ H1=>D.nx σ H1
theorem DC (he:PE X e te)(hs:swapsWith e none pos.line X.env=pure false:=by rfl):PS X (.Expr e pos) (JF te):=by
 intro ae s σ H D I h;exact wpAny_Expr_any (cb (he ae s σ H _ I h) fun v s1 ⟨x,H1,I1,r1,q1⟩=>⟨σ,H1,I1,q1⟩) I.quiet hs
def Lk (te:TE):TS:=fun D σ H=>te σ H D.rt
theorem FE (he:PE X e te):PS X (.Return (some e) pos) (Lk te):=by
 intro ae s σ H D I h;exact wpAny_Return_some (cb (he ae s σ H _ I h) fun v s1 ⟨x,H1,I1,r1,q1⟩=>⟨x,σ,H1,I1,r1,q1⟩)
def LS (c:TT)(t u:TS):TS:=fun D σ H=>c σ H fun b H1=>if b=true then t D σ H1 else u D σ H1
theorem Kk {c:Expr}{a b:List Stmt}{tc:TT}(hc:PT X c tc)(ha:PSs X a t)(hb:PSs X b u):PS X (.If c a b pos) (LS tc t u):=by
 intro ae s σ H D I h;refine wpAny_If (cb (hc ae s σ H _ I h) fun d s1 hxx=>?_);obtain⟨H1,I1,q1⟩:=hxx;cases d with
 | true=>exact ha ae s1 σ H1 D I1 q1
 | false=>exact hb ae s1 σ H1 D I1 q1
end
abbrev TG:=V→St→Hp→(St→Hp→Prop)→Prop
abbrev EH:=List V→St→Hp→(St→Hp→Prop)→Prop
def PG (X:Cx)(target:Expr)(t:TG):Prop:=
 ∀(ae:List (Addr×Obj)) (s:Shared) (σ:St) (H:Hp) (v:V) (u:Value) (Q:St→Hp→Prop),Inv X ae σ H s→aY v u→t v σ H Q→
  wpAny (model X.prog X.w) X.A (assign target X.env u) (fun _ s'=>∃σ' H',Inv X ae σ' H' s'∧Q σ' H') X.xe s
def CJ (X:Cx)(ts:List Expr)(t:EH):Prop:=
 ∀(ae:List (Addr×Obj)) (s:Shared) (σ:St) (H:Hp) (vs:List V) (us:List Value) (Q:St→Hp→Prop),Inv X ae σ H s→aR vs us→t vs σ H Q→
  wpAny (model X.prog X.w) X.A (assignInOrder ((assignEach ts X.env).map (·.2)) us) (fun _ s'=>∃σ' H',Inv X ae σ' H' s'∧Q σ' H') X.xe s
abbrev GW:=V→V→V→Hp→(Hp→Prop)→Prop
def J3 (X:Cx)(t:GW):Prop:=
 ∀(ae:List (Addr×Obj)) (s:Shared) (σ:St) (H:Hp) (o i v:V) (ov iv u:Value) (Q:Hp→Prop),Inv X ae σ H s→aY o ov→aY i iv→aY v u→t o i v H Q→
  wpAny (model X.prog X.w) X.A (setItem ov iv u) (fun _ s'=>∃H',Inv X ae σ H' s'∧Q H') X.xe s
abbrev KU:=V→V→Hp→VK→Prop
def Mz (X:Cx)(op:Operator)(t:KU):Prop:=
 ∀(ae:List (Addr×Obj)) (s:Shared) (σ:St) (H:Hp) (x y:V) (v u:Value) (Q:VK),Inv X ae σ H s→aY x v→aY y u→t x y H Q→
  wpAny (model X.prog X.w) X.A (inplaceOp op v u) (EP X ae σ Q) X.xe s
variable{es:List Expr}{tg:Expr}{te:TE}
section
variable {X:Cx}{pos:Pos}
def Em (i:Nat):TG:=fun v σ H Q=>Q (σ.set i (some v)) H
theorem Eg (hN:X.N.Nodup)(hi:X.N[i]?=some x)(hx:xU X.env.scope x)(hf:X.fn x=true∨X.env.scope.names.lookup x=some .local:=by first|exact .inl rfl|exact .inr rfl|assumption):PG X (.Name x pos) (Em i):=by
 intro ae s σ H v u Q I r h;exact wpAny_assign_Name (j7 I hN hi hx r (fun s' I'=>⟨_,H,I',h⟩) hf)
def K9:EH:=fun vs σ H Q=>vs=[]∧Q σ H
def Ju (t:TG)(u:EH):EH:=fun vs σ H Q=>∃v r,vs=v::r∧t v σ H fun σ' H'=>u r σ' H' Q
theorem DO:CJ X [] K9:=by
 intro ae s σ H vs us Q I r h;obtain⟨e,h⟩:=h;subst e;cases r;exact assignInOrder_nil ⟨σ,H,I,h⟩
theorem B8 {t:TG}{u:EH}(h1:PG X e t)(h2:CJ X es u)
  (hs:(assignEach (e::es) X.env).map (·.2)=assign e X.env::(assignEach es X.env).map (·.2):=by rfl):CJ X (e::es) (Ju t u):=by
 intro ae s σ H vs us Q I r h;obtain⟨v,vr,e1,h⟩:=h;subst e1;cases r with
 | cons r rr=>
  rw[hs];refine assignInOrder_cons (cb (h1 ae s σ H _ _ _ I r h) fun _ s1 hxx=>?_);obtain⟨σ1,H1,I1,q1⟩:=hxx;exact h2 ae s1 σ1 H1 _ _ Q I1 rr q1
def LA (K:W.Frag)(n:Nat)(t:EH):TG:=fun v σ H Q=>∃a xs,v=.ref a∧pP K H a xs∧xs.length=n∧t xs σ H Q
theorem G3 {k:Nat}{t:EH}{n:Nat}(hc:X.calm=true)(h:CJ X es t)
  (hn:(assignEach es X.env).length=n:=by rfl) (hst:(assignEach es X.env).findIdx? (·.1)=none:=by rfl):PG X (.Tuple es k pos) (LA X.K n t):=by
 intro ae s σ H v u Q I r hw;obtain⟨a,xs,e1,hq,hl,hw⟩:=hw;subst e1;cases r;obtain⟨its,rv,ht,hz⟩:=I.tuple hq;refine assign_Tuple_tuple (I.ok.hd hc) ht (by simp[hn,←hl,rv.length]) hst fun h' hx=>?_
 have I1:Inv X ae σ H {s with heap:=h'}:=I.kept (t':=s.toks) fun b o e=>hx b o (Nat.ne_of_lt (Heap.lt_size e)) e
 exact h ae _ σ H xs _ Q I1 (by simpa using rv) hw
def LL (to ti:TE)(t:GW):TG:=fun v σ H Q=>to σ H fun o H1=>ti σ H1 fun i H2=>t o i v H2 fun H3=>Q σ H3
theorem EM {o i:Expr}{to ti:TE}{t:GW}(ho:PE X o to)(hi:PE X i ti)(hs:J3 X t)
  (ha:∀v,assign (.Subscript o i pos) X.env v=(do
   let ov ←holding [v] (eval o X.env)
   let iv ←holding [v,ov] (eval i X.env)
   standAt pos
   holding [v,ov,iv] (setItem ov iv v)
   release [v,ov,iv] []):=by intro _;rfl):PG X (.Subscript o i pos) (LL to ti t):=by
 intro ae s σ H v u Q I r h;rw[ha];refine wpAny_bind (wpAny_holding (cb (ho ae s σ H _ I h) fun ov s1 hxx=>?_));obtain⟨x,H1,I1,r1,q1⟩:=hxx;refine wpAny_bind (wpAny_holding (cb (hi ae s1 σ H1 _ I1 q1) fun iv s2 hxx=>?_));obtain⟨y,H2,I2,r2,q2⟩:=hxx;refine wpAny_bind (wpAny_standAt (wpAny_bind (wpAny_holding (cb (hs ae s2 σ H2 x y v ov iv u _ I2 r1 r2 r q2) fun _ s3 hxx=>?_))));obtain⟨H3,I3,q3⟩:=hxx;exact wpAny_release ⟨σ,H3,I3,q3⟩
def IJ (te:TE)(g:TG):TS:=fun D σ H=>te σ H fun x H1=>g x σ H1 D.nx
theorem A3 {g:TG}(he:PE X e te)(hg:PG X tg g)(hs:swapsWithSole [tg] e pos.line X.env=pure false:=by rfl)(hw:swappedStores [tg] e X.env=pure none:=by rfl)
  (h1:(assignEach [tg] X.env).map (·.2)=[assign tg X.env]:=by rfl):PS X (.Assign [tg] e pos) (IJ te g):=by
 intro ae s σ H D I h;refine wpAny_Assign_stores (cb (he ae s σ H _ I h) fun v s1 hxx=>?_) hs hw;obtain⟨x,H1,I1,r1,q1⟩:=hxx;rw[h1];exact cb (hg ae s1 σ H1 x v _ I1 r1 q1) fun _ s2 q=>q
theorem Hx {pos':Pos}(hN:X.N.Nodup)(hi:X.N[i]?=some x)(hx:xU X.env.scope x)(he:PE X e te)(hs:swapsWith e (some (.Name x pos')) pos.line X.env=pure false:=by rfl)(hf:X.fn x=true∨X.env.scope.names.lookup x=some .local:=by first|exact .inl rfl|exact .inr rfl|assumption) :
  PS X (.Assign [.Name x pos'] e pos) (IJ te (Em i)):=by
 intro ae s σ H D I h;refine wpAny_Assign_Name (cb (he ae s σ H _ I h) fun v s1 hxx=>?_) hs;obtain⟨y,H1,I1,r1,q1⟩:=hxx;exact j7 I1 hN hi hx r1 (fun s2 I2=>⟨_,H1,I2,q1⟩) hf
def K3 (i j:Nat)(ta:TA):TS:=fun D σ H=>ta σ H fun vs H1=>∃v w,vs=[v,w]∧D.nx ((σ.set i (some v)).set j (some w)) H1
theorem Gj {j:Nat}{y:Str}{a b:Expr}{ta:TA}{px py pt:Pos}{kt k2 pt2}(hc:X.calm=true)(hN:X.N.Nodup)(hi:X.N[i]?=some x)(hj:X.N[j]?=some y)(hij:i≠j)
  (hx:X.env.scope.names.lookup x=some .local) (hy:X.env.scope.names.lookup y=some .local) (ha:PA X [a,b] ta)
  (hw:swappedStores [.Tuple [.Name x px,.Name y py] kt pt] (.Tuple [a,b] k2 pt2) X.env=pure (some [x,y]))
  (hs:swapsWithSole [.Tuple [.Name x px,.Name y py] kt pt] (.Tuple [a,b] k2 pt2) pos.line X.env=pure false:=by rfl) :
  PS X (.Assign [.Tuple [.Name x px,.Name y py] kt pt] (.Tuple [a,b] k2 pt2) pos) (K3 i j ta):=by
 intro ae s σ H D I h;rw[exec_Assign_arm];refine wpAny_bind (wpAny_standAt ?_);rw[hs];refine wpAny_bind (wpAny_pure ?_);rw[if_neg (by decide)];refine wpAny_bind (Tuple_ (cb (ha _ ae s σ H _ I h) fun us s1 hxx=>?_));obtain⟨vs,H1,I1,r1,q1⟩:=hxx;obtain⟨v,w,e1,q1⟩:=q1;subst e1;obtain⟨u1,u2,rfl,rv,rw'⟩:∃u1 u2,us=[u1,u2]∧aY v u1∧aY w u2:=by
  cases r1 with
  | cons p q=>
   cases q with
   | cons p' q'=>
    cases q';exact⟨_,_,rfl,p,p'⟩
 refine wpAny_newObj_type ?_ (by show 2≤sizeLine;decide);have I2:Inv X ae σ H1 {s1 with heap:=s1.heap.push {cls:=.type "tuple",data:=.seq [u1,u2].toArray}}:=I1.kept (t':=s1.toks) fun b o e=>Heap.get?_push_of_some _ e
 rw[hw];refine wpAny_bind (wpAny_pure ?_);show wpAny (model X.prog X.w) X.A (do rule "assign.swapped-stores";let items ←unpackItems (.ref s1.heap.objs.size) 2 none;assignInOrder [fun v=>bindName X.env y v,fun v=>bindName X.env x v] items.reverse;pure Flow.next) _ _ _;refine wpAny_bind (wpAny_rule (wpAny_bind (unpackItems_tuple (items:=#[u1,u2]) (I.ok.hd hc) (IsTup.new s1.heap _) fun h' hx'=>?_)));have I3:=I2.kept (h':=h') (t':=s1.toks) fun b o e=>hx' b o (Nat.ne_of_lt (Heap.lt_size e)) e
 show wpAny _ _ (assignInOrder [fun v=>bindName X.env y v,fun v=>bindName X.env x v] [u2,u1] >>= fun _=>pure Flow.next) _ _ _;refine wpAny_bind (assignInOrder_cons (wpAny_bindName (j7 I3 hN hj (.inl hy) rw' (fun s2 I4=>?_) (.inr hy))));refine assignInOrder_cons (wpAny_bindName (j7 I4 hN hi (.inl hx) rv (fun s3 I5=>assignInOrder_nil (wpAny_pure ?_)) (.inr hx)));rw[set_comm _ _ (Ne.symm hij)] at I5;exact⟨_,H1,I5,q1⟩
def L5 (i:Nat)(te:TE)(ti:KU):TS:=fun D σ H=>∃x,σ[i]?=some (some x)∧te σ H fun y H1=>ti x y H1 fun z H2=>D.nx (σ.set i (some z)) H2
theorem HP {op:Operator}{ti:KU}{pos':Pos}(hN:X.N.Nodup)(hi:X.N[i]?=some x)(hx:xU X.env.scope x)(he:PE X e te)(ho:Mz X op ti)(hf:X.fn x=true∨X.env.scope.names.lookup x=some .local:=by first|exact .inl rfl|exact .inr rfl|assumption) :
  PS X (.AugAssign (.Name x pos') op e pos) (L5 i te ti):=by
 intro ae s σ H D I h;obtain⟨v,e1,h⟩:=h;obtain⟨m,hn,hl⟩:=I.loc;have vis:Fh X.env.scope x:=by rcases hx with k|k;exact .inl k;exact .inr (.inl k)
 obtain⟨u,r,l⟩:=hl i x v hi e1 vis;refine wpAny_AugAssign_Name ?_;have go:wpAny (model X.prog X.w) X.A (eval e X.env) (fun w s₂=>wpAny (model X.prog X.w) X.A (inplaceOp op u w) (fun r s₃=>wpAny (model X.prog X.w) X.A (storeName X.env x r) (fun _=>SP X ae D .next) X.xe s₃) X.xe s₂) X.xe s:=by
  refine cb (he ae s σ H _ I h) fun w s1 hxx=>?_
  obtain⟨y,H1,I1,r1,q1⟩:=hxx;refine cb (ho ae s1 σ H1 v y u w _ I1 r r1 q1) fun z s2 hxx=>?_
  obtain⟨zv,H2,I2,r2,q2⟩:=hxx;exact j7 I2 hN hi hx r2 (fun s3 I3=>⟨_,H2,I3,q2⟩) hf
 rcases l with⟨hk,hm⟩|⟨hk,c,hc,hcell⟩
 ·exact wpAny_loadName_local I.ok.kind hk hn hm go
 ·rcases hk with hk|hk
  ·exact wpAny_loadName_cell I.ok.kind hk hc hcell go
  ·rcases hx with k|k
   ·have:X.env.scope.names.lookup x=some .free:=hk;rw[k] at this;cases this
   ·have:X.env.scope.names.lookup x=some .free:=hk;rw[k] at this;cases this
end
structure It where
 go:Nat→Hp→Prop
 yld:Nat→Hp→V→Hp→Prop
 stop:Nat→Hp→Prop
def ig (X:Cx)(ae:List (Addr×Obj))(H:Hp)(b:Addr):Prop:=
 H b=none∧b≠X.env.locals∧b∉X.fs∧(b∈X.ex∨X.s₀.heap.objs.size≤b)∧(∀x c,X.env.cells.lookup x=some c→c≠b)∧∀p∈X.pn++ae,p.1≠b
theorem Inv.fpOk {H':Hp}(I:Inv X ae σ H s)(hb:s.heap.objs.size≤b)(hn:H' b=none):ig X ae H' b:=by
 refine⟨hn,Nat.ne_of_gt (Nat.lt_of_lt_of_le I.lt hb),I.nofs hb,.inr (Nat.le_trans I.sz hb),fun x c e z=>?_,fun p hp z=>?_⟩
 ·obtain⟨v,q⟩:=I.cell x c e;exact absurd (Nat.lt_of_lt_of_le q.lt (by rw[z];exact hb)) (Nat.lt_irrefl _)
 ·exact absurd (Nat.lt_of_lt_of_le (Heap.lt_size (I.pin p hp).1) (by rw[z];exact hb)) (Nat.lt_irrefl _)
structure TurnF (P:Program)(w:World)(K:W.Frag)(tg:Expr)(J:It)(fp:List Addr)(it:Addr)(tn:Nat→Heap→Prop):Prop where
 mem:it∈fp
 obj:∀i h,tn i h→∀b∈fp,∃o,h.get? b=some o∧∀v,o.data≠.cell v
 keep:∀i h h',tn i h→(∀b∈fp,∀o,h.get? b=some o→h'.get? b=some o)→tn i h'
 item:∀(X:Cx),X.prog=P→X.w=w→X.K=K→X.calm=true→∀(i:Nat) (ae:List (Addr×Obj)) (s:Shared) (σ:St) (H:Hp) (E:Value→Shared→Prop),Inv X ae σ H s→(∀b∈fp,ig X ae H b)→tn i s.heap→J.go i H→
  wpAny (model P w) X.A (pyNext (.ref it)) (fun r s1=>∃u,r=some u∧
   wpAny (model P w) X.A (letOwnedTupleGo tg (.ref it) u) (fun _ s2=>∃x H',Inv X ae σ H' s2∧aY x u∧J.yld i H x H'∧tn (i+1) s2.heap∧∀b∈fp,H' b=none) E s1) E s
 done:∀(X:Cx),X.prog=P→X.w=w→X.K=K→X.calm=true→∀(i:Nat) (ae:List (Addr×Obj)) (s:Shared) (σ:St) (H:Hp) (E:Value→Shared→Prop),Inv X ae σ H s→(∀b∈fp,ig X ae H b)→tn i s.heap→J.stop i H→
  wpAny (model P w) X.A (pyNext (.ref it)) (fun r s1=>r=none∧Inv X ae σ H s1) E s
structure vm (P:Program)(w:World)(K:W.Frag)(tg:Expr)(J:It)(fp:List Addr)(it:Addr)(tn:Nat→Heap→Prop):Prop extends TurnF P w K tg J fp it tn where
 self:∀(A:Around) (i:Nat) (s:Shared) (Q:Value→Shared→Prop) (E:Value→Shared→Prop),tn i s.heap→Q (.ref it) s→wpAny (model P w) A (pyIter (.ref it)) Q E s
abbrev TI:=St→Hp→(It→Hp→Prop)→Prop
def KY (X:Cx)(ae:List (Addr×Obj))(σ:St)(tg:Expr)(R:It→Hp→Prop)(itv:Value)(s2:Shared):Prop:=
 ∃(it:Addr) (fp:List Addr) (tn:Nat→Heap→Prop) (J:It) (H':Hp),itv=.ref it∧Inv X ae σ H' s2∧vm X.prog X.w X.K tg J fp it tn∧tn 0 s2.heap∧(∀b∈fp,ig X ae H' b)∧R J H'
def PI (X:Cx)(tg iter:Expr)(wi:TI):Prop:=
 ∀(ae:List (Addr×Obj)) (s:Shared) (σ:St) (H:Hp) (R:It→Hp→Prop),Inv X ae σ H s→wi σ H R→
  wpAny (model X.prog X.w) X.A (eval iter X.env) (fun v s1=>wpAny (model X.prog X.w) X.A (pyIter v) (KY X ae σ tg R) X.xe s1) X.xe s
def Lx (X:Cx)(ae:List (Addr×Obj))(σ:St)(tg:Expr)(R:It→Hp→Prop)(itv:Value)(s2:Shared):Prop:=
 ∃(it:Addr) (fp:List Addr) (tn:Nat→Heap→Prop) (J:It) (H':Hp),itv=.ref it∧Inv X ae σ H' s2∧TurnF X.prog X.w X.K tg J fp it tn∧tn 0 s2.heap∧(∀b∈fp,ig X ae H' b)∧R J H'
def K6 (X:Cx)(tg iter:Expr)(wi:TI):Prop:=
 ∀(ae:List (Addr×Obj)) (s:Shared) (σ:St) (H:Hp) (R:It→Hp→Prop),Inv X ae σ H s→wi σ H R→
  wpAny (model X.prog X.w) X.A (eval iter X.env) (fun v s1=>wpAny (model X.prog X.w) X.A (pyIter v) (Lx X ae σ tg R) X.xe s1) X.xe s
theorem PI.toF {iter:Expr}{wi:TI}(h:PI X tg iter wi):K6 X tg iter wi:=fun ae s σ H R I q=>cb (h ae s σ H R I q) fun v s1 h1=>cb h1 fun itv s2 h2=>by
 obtain⟨it,fp,tn,J,H2,e,I2,T,r⟩:=h2;exact⟨it,fp,tn,J,H2,e,I2,T.toTurnF,r⟩
theorem xJ {M:Model}{it:Addr}{o:Obj}{n:String}{vs:Array Value}{Q:Unit→Shared→Prop}(ho:s.heap.get? it=some o)(hc:o.cls=.type n)(hd:o.data=.fields vs)
  (hn:["enumerate","zip","dict_itemiterator","dict_reverseitemiterator","odict_iterator","itertools.zip_longest","itertools.pairwise"].contains n=false) (hQ:Q () s):wpAny M A (letOwnedTupleGo tg (.ref it) u) Q E s:=by
 unfold letOwnedTupleGo;cases tg <;> first
  | exact wpAny_pure hQ
  | (cases u <;> first
    | exact wpAny_pure hQ
    | (refine wpAny_bind (wpAny_load ho ?_)
       rw[hc,hd];show wpAny M A (if(["enumerate","zip","dict_itemiterator","dict_reverseitemiterator","odict_iterator","itertools.zip_longest","itertools.pairwise"].contains n&&vs[0]?==some (rawInt _))=true then _ else _) Q E s;rw[if_neg (by intro h;rw[hn,Bool.false_and] at h;cases h)];exact wpAny_pure hQ))
def IG (K:W.Frag)(a:Addr):It:=
 ⟨fun i H=>∃xs x,m3 K H a xs∧xs[i]?=some x,fun i H x H'=>H'=H∧∀xs,m3 K H a xs→xs[i]?=some x,fun i H=>∃xs,m3 K H a xs∧xs.length≤i⟩
def JY (K:W.Frag)(a:Addr):It:=
 ⟨fun i H=>∃xs x,pP K H a xs∧xs[i]?=some x,fun i H x H'=>H'=H∧∀xs,pP K H a xs→xs[i]?=some x,fun i H=>∃xs,pP K H a xs∧xs.length≤i⟩
def Kz (lo:Int)(n:Nat):It:=⟨fun i _=>i<n,fun i H x H'=>H'=H∧x=.int (lo+i),fun i _=>n≤i⟩
variable{K:W.Frag}
theorem rK (a it:Addr):vm P w K tg (IG K a) [it] it (fun i h=>h.IsListIter it a i) where
 mem:=by simp
 obj:=fun i h st b hb=>by
  have e:b=it:=by simpa using hb
  subst e;obtain⟨o,e,c,d⟩:=st;exact⟨o,e,fun v z=>by rw[d] at z;cases z⟩
 keep:=fun i h h' st k=>st.at fun o e=>k it (by simp) o e
 item:=by
  intro X hP hw hK hc i ae s σ H E I hf st hg;subst hP hw hK;obtain⟨xs,x,hq,hx⟩:=hg;obtain⟨its,rv,p,hz⟩:=I.list hq;obtain⟨u,hu,ru⟩:=rv.get hx;obtain⟨f0,f1,f2,f3,f4,f5⟩:=hf it (by simp);refine wpAny_pyNext_list_item st p.isList (x:=u) (by simpa using hu) fun h' st' sb=>?_
  have I1:Inv X ae σ H {s with heap:=h'}:=I.turned (t':=s.toks) (fun b o hb e=>(sb.2 b hb).trans e) f0 f1 f3 f4 f5;obtain⟨o,e,c,d⟩:=id st';exact⟨u,rfl,xJ (s:={s with heap:=h'}) e c d (by decide) ⟨x,H,I1,ru,⟨rfl,fun ys hy=>by rw[I.list_inj hy hq];exact hx⟩,st',fun b hb=>(hf b hb).1⟩⟩
 done:=by
  intro X hP hw hK hc i ae s σ H E I hf st hg;subst hP hw hK;obtain⟨xs,hq,hx⟩:=hg;obtain⟨its,rv,p,hz⟩:=I.list hq;obtain⟨f0,f1,f2,f3,f4,f5⟩:=hf it (by simp);have hl:=rv.length;exact wpAny_pyNext_list_end (I.ok.hd hc) st p.isList (by simp;omega) fun h' eb=>⟨rfl,I.turned (t':=s.toks) (fun b o hb e=>eb b o hb e) f0 f1 f3 f4 f5⟩
 self:=fun _ _ _ _ _ st h=>wpAny_pyIter_listiter st h
theorem pr (a it:Addr):vm P w K tg (JY K a) [it] it (fun i h=>h.IsTupleIter it a i) where
 mem:=by simp
 obj:=fun i h st b hb=>by
  have e:b=it:=by simpa using hb
  subst e;obtain⟨o,e,c,d⟩:=st;exact⟨o,e,fun v z=>by rw[d] at z;cases z⟩
 keep:=fun i h h' st k=>st.at fun o e=>k it (by simp) o e
 item:=by
  intro X hP hw hK hc i ae s σ H E I hf st hg;subst hP hw hK;obtain⟨xs,x,hq,hx⟩:=hg;obtain⟨its,rv,p,hz⟩:=I.tuple hq;obtain⟨u,hu,ru⟩:=rv.get hx;obtain⟨f0,f1,f2,f3,f4,f5⟩:=hf it (by simp);refine wpAny_pyNext_tuple_item st (show s.heap.IsTuple a its.toArray from p) (x:=u) (by simpa using hu) fun h' st' sb=>?_
  have I1:Inv X ae σ H {s with heap:=h'}:=I.turned (t':=s.toks) (fun b o hb e=>(sb.2 b hb).trans e) f0 f1 f3 f4 f5;obtain⟨o,e,c,d⟩:=id st';exact⟨u,rfl,xJ (s:={s with heap:=h'}) e c d (by decide) ⟨x,H,I1,ru,⟨rfl,fun ys hy=>by rw[I.tuple_inj hy hq];exact hx⟩,st',fun b hb=>(hf b hb).1⟩⟩
 done:=by
  intro X hP hw hK hc i ae s σ H E I hf st hg;subst hP hw hK;obtain⟨xs,hq,hx⟩:=hg;obtain⟨its,rv,p,hz⟩:=I.tuple hq;obtain⟨f0,f1,f2,f3,f4,f5⟩:=hf it (by simp);have hl:=rv.length;exact wpAny_pyNext_tuple_end (I.ok.hd hc) st (show s.heap.IsTuple a its.toArray from p) (by simp;omega) fun h' eb=>⟨rfl,I.turned (t':=s.toks) (fun b o hb e=>eb b o hb e) f0 f1 f3 f4 f5⟩
 self:=fun _ _ _ _ _ st h=>wpAny_pyIter_tupleiter st h
theorem wM (it:Addr)(lo:Int)(n:Nat):vm P w K tg (Kz lo n) [it] it (fun i h=>IsRangeIter h it (lo+(i:Nat)*1) ((n:Int)-(i:Nat)) 1) where
 mem:=by simp
 obj:=fun i h st b hb=>by
  have e:b=it:=by simpa using hb
  subst e;exact⟨_,st,fun v z=>by
   have z':Data.fields _=Data.cell v:=z;cases z'⟩
 keep:=fun i h h' st k=>k it (by simp) _ st
 item:=by
  intro X hP hw hK hc i ae s σ H E I hf st hg;subst hP hw hK;obtain⟨f0,f1,f2,f3,f4,f5⟩:=hf it (by simp);have W:=Walks.range (prog:=X.prog) (w:=X.w) (I.ok.hd hc) it lo 1 n;refine W.item i s _ _ hg st fun v h' tk hv st' kk=>?_
  obtain⟨t,rfl⟩:=hv;have I1:Inv X ae σ H {s with heap:=h',toks:=tk}:=I.turned (fun b o hb e=>kk b o (by simpa using hb) e) f0 f1 f3 f4 f5;refine⟨_,rfl,xJ (s:={s with heap:=h',toks:=tk}) (n:="range_iterator") st' rfl rfl (by decide) ⟨.int (lo+i),H,I1,⟨t,?_⟩,⟨rfl,rfl⟩,st',fun b hb=>(hf b hb).1⟩⟩;rw[Int.mul_one]
 done:=by
  intro X hP hw hK hc i ae s σ H E I hf st hg;subst hP hw hK;obtain⟨f0,f1,f2,f3,f4,f5⟩:=hf it (by simp);exact wpAny_pyNext_range_end (I.ok.hd hc) st (by have:n≤i:=hg;omega) fun h' eb=>⟨rfl,I.turned (t':=s.toks) (fun b o hb e=>eb b o hb e) f0 f1 f3 f4 f5⟩
 self:=fun _ _ _ _ _ st h=>wpAny_pyIter_rangeiter st h
variable{fp:List Addr}{body:List Stmt}
section
variable {X:Cx}{tg:Expr}
theorem Ae {R:It→Hp→Prop}{lo hi:Int}{t u v:Tok}{tk:Nat}(I:Inv X ae σ H s)(h1:-(2 ^ 62)≤lo)(h2:lo<2 ^ 62)(h3:-(2 ^ 62)≤hi)(h4:hi<2 ^ 62)
  (q:R (Kz lo (hi-lo).toNat) H):wpAny (model X.prog X.w) X.A (pyIter (.ref s.heap.objs.size)) (KY X ae σ tg R) E {s with heap:=s.heap.push {cls:=.type "range",data:=.fields #[.int lo t,.int hi u,.int 1 v]},toks:=tk}:=by
 refine wpAny_pyIter_range (IsRange.new ..) (small_one h1 h2 h3 h4) ?_;have I1:Inv X ae σ H {s with heap:=s.heap.push {cls:=.type "range",data:=.fields #[.int lo t,.int hi u,.int 1 v]},toks:=tk}:=I.kept fun b o e=>Heap.get?_push_of_some _ e
 refine⟨(s.heap.push {cls:=.type "range",data:=.fields #[.int lo t,.int hi u,.int 1 v]}).objs.size,[(s.heap.push {cls:=.type "range",data:=.fields #[.int lo t,.int hi u,.int 1 v]}).objs.size],_,_,H,rfl,
  I1.kept (t':=tk) fun b o e=>Heap.get?_push_of_some _ e,wM _ lo (hi-lo).toNat,?_,fun b hb=>?_,q⟩
 ·have e1:lo+((0:Nat):Int)*1=lo:=by simp
  have e2:(((hi-lo).toNat:Nat):Int)-((0:Nat):Int)=Builtin.Range.rangeSize lo hi 1:=by rw[rangeSize_one];split <;> omega
  show IsRangeIter _ _ (lo+((0:Nat):Int)*1) ((((hi-lo).toNat:Nat):Int)-((0:Nat):Int)) 1;rw[e1,e2];exact Heap.get?_push_size _ rfl
 ·have e:b=(s.heap.push {cls:=.type "range",data:=.fields #[.int lo t,.int hi u,.int 1 v]}).objs.size:=by simpa using hb
  subst e;exact I1.fpOk (Nat.le_refl _) (I1.hok.fresh (Nat.le_refl _))
def Iw (ta:TA):TI:=fun σ H R=>ta σ H fun vs H1=>∃j:Int,vs=[.int j]∧-(2 ^ 62)≤j∧j<2 ^ 62∧R (Kz 0 j.toNat) H1
theorem zQ {a:Expr}{ta:TA}{p pos:Pos}(hg:Gl X "range")(hm:X.mg "range"=none)(ha:PA X [a] ta)(hs:starEach [a] X.env=[(false,eval a X.env)]:=by rfl):PI X tg (.Call (.Name "range" p) [a] [] pos) (Iw ta):=by
 intro ae s σ H R I h;refine Call_ (um I hg hm boot_range (PyProof.Rows.callWith_type1 (cb (ha pos ae s σ H _ I h) fun us s1 hxx=>?_) hs rfl));obtain⟨vs,H1,I1,r1,q1⟩:=hxx;obtain⟨j,e,q1,q2,q⟩:=q1;subst e;cases r1 with
 | cons r rr=>
  cases rr;obtain⟨t,rfl⟩:=r;exact call_range_1 (Ae I1 (by omega) (by omega) q1 q2 (by simpa using q))
def LJ (wi:TI)(g:TG)(tb:TS):TS:=fun D σ H=>wi σ H fun J H1=>∃W:Nat→Nat→St→Hp→Prop,(∃m,W 0 m σ H1)∧∀i m σ H,W i m σ H→
 (J.stop i H∧D.nx σ H)∨(J.go i H∧∃N:St→Hp→Prop,(∀σ' H',N σ' H'→∃m',m'<m∧W (i+1) m' σ' H')∧∀x H',J.yld i H x H'→g x σ H' fun σ2 H2=>tb {D with nx:=N,ct:=N,bk:=D.nx} σ2 H2)
def nr (fp:List Addr)(h:Heap):List (Addr×Obj):=fp.filterMap fun b=>(h.get? b).map fun o=>(b,o)
theorem dR {o:Obj}(hb:b∈fp)(e:h.get? b=some o):(b,o)∈nr fp h:=mem_filterMap.mpr ⟨b,hb,by rw[e];rfl⟩
theorem zh {p:Addr×Obj}(hp:p∈nr fp h):p.1∈fp∧h.get? p.1=some p.2:=by
 obtain⟨b,hb,e⟩:=mem_filterMap.mp hp;cases q:h.get? b with
 | none=>rw[q] at e;cases e
 | some o=>
  rw[q] at e;have e':(b,o)=p:=Option.some.inj e;subst e';exact⟨hb,q⟩
theorem Inv.pinned (I:Inv X ae σ H s)(hf:∀b∈fp,ig X ae H b)(ho:∀b∈fp,∃o,s.heap.get? b=some o∧∀v,o.data≠.cell v):Inv X (ae++nr fp s.heap) σ H s:=
 I.pins_of fun p hp=>(mem_append.mp hp).elim (fun z=>I.pin p (mem_append_right _ z)) fun z=>by
  obtain⟨hb,e⟩:=zh z;obtain⟨f0,f1,f2,_⟩:=hf p.1 hb;obtain⟨o,e',d⟩:=ho p.1 hb;rw[e] at e';cases e';exact⟨e,f0,f1,f2,d⟩
theorem Inv.unpinned {pl:List (Addr×Obj)}(I:Inv X (ae++pl) σ H s):Inv X ae σ H s:=I.pins_of fun p hp=>I.pin p (mem_append_right _ (mem_append_left _ hp))
theorem Gu {iter:Expr}{wi:TI}{g:TG}{tb:TS}{pos:Pos}(hp:PassesOwn (model X.prog X.w) X.A X.env X.xe)(hc:X.calm=true)(hi:K6 X tg iter wi)(hg:PG X tg g)(hb:PSs X body tb)
  (hs:∀x,foldedSetIterable iter X.env x=pure x:=by intro _;rfl):PS X (.For tg iter body [] pos) (LJ wi g tb):=by
 intro ae s σ H D I h;refine wpAny_For (cb (hi ae s σ H _ I h) fun v s1 h1=>cb h1 fun itv s2 h2=>?_) hs;obtain⟨it,fp,tn,J,H2,e,I2,T,st2,f2,W,⟨m0,w0⟩,turn⟩:=h2;subst e;have stat:∀{H':Hp},(∀b∈fp,H' b=none)→∀b∈fp,ig X ae H' b:=fun hn b hb=>⟨hn b hb,(f2 b hb).2⟩
 refine codeAny_forLoop_any (fun n s'=>∃i σ' H',Inv X ae σ' H' s'∧tn i s'.heap∧(∀b∈fp,H' b=none)∧W i n σ' H') ?_ m0 ⟨0,σ,H2,I2,st2,fun b hb=>(f2 b hb).1,w0⟩;rintro n s3 ⟨i,σ3,H3,I3,st3,fr3,w3⟩;rcases turn i n σ3 H3 w3 with⟨stop,qn⟩|⟨go,N,hN,step⟩
 ·refine wpAny_passesOwn hp (cb (T.done X rfl rfl rfl hc i ae s3 σ3 H3 X.xe I3 (stat fr3) st3 stop) fun r s4 hxx=>?_);obtain⟨hr,I4⟩:=hxx;subst hr;exact wpAny_execs_nil ⟨σ3,H3,I4,qn⟩
 ·refine wpAny_passesOwn hp (cb (T.item X rfl rfl rfl hc i ae s3 σ3 H3 X.xe I3 (stat fr3) st3 go) fun r s4 hxx=>?_);obtain⟨u,hr,h4⟩:=hxx;subst hr;refine wpAny_passesOwn hp (cb h4 fun _ s5 hxx=>?_);obtain⟨x,H5,I5,r5,y5,st5,fr5⟩:=hxx;have I5':=I5.pinned (stat fr5) (T.obj _ _ st5);refine wpAny_passesOwn hp (cb (hg _ s5 σ3 H5 x u _ I5' r5 (step x H5 y5)) fun _ s6 hxx=>?_);obtain⟨σ6,H6,I6,q6⟩:=hxx;refine wpAny_passesOwn hp (cb (hb _ s6 σ6 H6 _ I6 q6) fun f s7 q7=>?_);have again:∀{σ7:St} {H7:Hp},Inv X (ae++nr fp s5.heap) σ7 H7 s7→N σ7 H7→∃m,m<n∧∃i σ' H',Inv X ae σ' H' s7∧tn i s7.heap∧(∀b∈fp,H' b=none)∧W i m σ' H':=fun {σ7 H7} I7 n7=>by
   obtain⟨m',hm,w7⟩:=hN σ7 H7 n7;refine⟨m',hm,i+1,σ7,H7,I7.unpinned,T.keep _ _ _ st5 fun b hb o e=>(I7.pin (b,o) (mem_append_right _ (mem_append_right _ (dR hb e)))).1,fun b hb=>?_,w7⟩;obtain⟨o,e,d⟩:=T.obj _ _ st5 b hb;exact(I7.pin (b,o) (mem_append_right _ (mem_append_right _ (dR hb e)))).2.1
  cases f with
  | next=>obtain⟨σ7,H7,I7,n7⟩:=q7;exact again I7 n7
  | cont=>obtain⟨σ7,H7,I7,n7⟩:=q7;exact again I7 n7
  | brk=>obtain⟨σ7,H7,I7,q7⟩:=q7;exact⟨σ7,H7,I7.unpinned,q7⟩
  | ret v=>obtain⟨x7,σ7,H7,I7,r7,q7⟩:=q7;exact⟨x7,σ7,H7,I7.unpinned,r7,q7⟩
end
abbrev R2:=V→V→Hp→VK→Prop
def fo (X:Cx)(f:Value→Value→Sem Value)(r:R2):Prop:=
 ∀(ae:List (Addr×Obj)) (s:Shared) (σ:St) (H:Hp) (x y:V) (v u:Value) (Q:VK),Inv X ae σ H s→aY x v→aY y u→r x y H Q→
  wpAny (model X.prog X.w) X.A (f v u) (EP X ae σ Q) X.xe s
def L1 (X:Cx)(f:Value→Sem Value)(r:V→Hp→VK→Prop):Prop:=
 ∀(ae:List (Addr×Obj)) (s:Shared) (σ:St) (H:Hp) (x:V) (v:Value) (Q:VK),Inv X ae σ H s→aY x v→r x H Q→
  wpAny (model X.prog X.w) X.A (f v) (EP X ae σ Q) X.xe s
def cV (X:Cx)(f:Value)(r:List V→Hp→VK→Prop):Prop:=
 ∀(ae:List (Addr×Obj)) (s:Shared) (σ:St) (H:Hp) (xs:List V) (us:List Value) (Q:VK),Inv X ae σ H s→aR xs us→r xs H Q→
  wpAny (model X.prog X.w) X.A (call f us) (EP X ae σ Q) X.xe s
def LR (X:Cx)(r:V→Hp→(Bool→Hp→Prop)→Prop):Prop:=
 ∀(ae:List (Addr×Obj)) (s:Shared) (σ:St) (H:Hp) (x:V) (v:Value) (Q:Bool→Hp→Prop),Inv X ae σ H s→aY x v→r x H Q→
  wpAny (model X.prog X.w) X.A (truthy v) (TP X ae σ Q) X.xe s
def IE (r:R2)(ta tb:TE):TE:=fun σ H Q=>ta σ H fun x H1=>tb σ H1 fun y H2=>r x y H2 Q
def MC (r:V→Hp→VK→Prop)(ta:TE):TE:=fun σ H Q=>ta σ H fun x H1=>r x H1 Q
def rI (C:Int→Int→Prop)(g:Int→Int→V):R2:=fun x y H Q=>∃i j,x=.int i∧y=.int j∧C i j∧Q (g i j) H
def En (g:Int→Int→V):R2:=fun x y H Q=>∃i j,x=.int i∧y=.int j∧Q (g i j) H
def rU (g:Int→V):V→Hp→VK→Prop:=fun x H Q=>∃i,x=.int i∧Q (g i) H
variable{f:Value→Value→Sem Value}{r:R2}{g:Int→Int→Int}
section
variable {X:Cx}{a b c:Expr}{ta tb tc:TE}{pos:Pos}
theorem Hl (ha:PE X a ta)(hb:PE X b tb){R:V→V→Hp→Prop}(I:Inv X ae σ H s)
  (h:ta σ H fun x H1=>tb σ H1 fun y H2=>R x y H2)  
  (hf:∀v u s2 x y H2,Inv X ae σ H2 s2→aY x v→aY y u→R x y H2→wpAny (model X.prog X.w) X.A (f v u) Q X.xe s2) :
  wpAny (model X.prog X.w) X.A (eval a X.env) (fun v s₁=>wpAny (model X.prog X.w) X.A (eval b X.env) (fun u s₂=>wpAny (model X.prog X.w) X.A (f v u) Q X.xe s₂) X.xe s₁) X.xe s:=by
 refine cb (ha ae s σ H _ I h) fun v s1 hxx=>?_
 obtain⟨x,H1,I1,r1,q1⟩:=hxx;refine cb (hb ae s1 σ H1 _ I1 q1) fun u s2 hxx=>?_
 obtain⟨y,H2,I2,r2,q2⟩:=hxx;exact hf v u s2 x y H2 I2 r1 r2 q2
theorem Ii {op:Operator}(ho:fo X (binaryOp op) r)(ha:PE X a ta)(hb:PE X b tb):PE X (.BinOp a op b pos) (IE r ta tb):=by
 intro ae s σ H Q I h;exact wpAny_BinOp (Hl ha hb I h fun v u s2 x y H2 I2 rx ry q=>ho ae s2 σ H2 x y v u Q I2 rx ry q)
theorem J5 {op:UnaryOp}{r:V→Hp→VK→Prop}(ho:L1 X (unaryOp op) r)(ha:PE X a ta):PE X (.UnaryOp op a pos) (MC r ta):=by
 intro ae s σ H Q I h;exact UnaryOp_ (cb (ha ae s σ H _ I h) fun v s1 ⟨x,H1,I1,r1,q1⟩=>ho ae s1 σ H1 x v Q I1 r1 q1)
theorem Lu {f:Value→Value→Sem Value}{C:Int→Int→Prop}
  (rule:∀(i j:Int) (t u:Tok) (s:Shared) (Q:Value→Shared→Prop) (E:Value→Shared→Prop),C i j→Q (.int (g i j) s.toks) {s with toks:=s.toks+1}→wpAny (model X.prog X.w) X.A (f (.int i t) (.int j u)) Q E s) :
  fo X f (rI C fun i j=>.int (g i j)):=by
 intro ae s σ H x y v u Q I rx ry h;obtain⟨i,j,rfl,rfl,hc,q⟩:=h;obtain⟨t,rfl⟩:=rx;obtain⟨t',rfl⟩:=ry;exact rule i j t t' s _ _ hc ⟨.int (g i j),H,I.tok _,⟨_,rfl⟩,q⟩
theorem Jy {f:Value→Value→Sem Value}
  (rule:∀(i j:Int) (t u:Tok) (s:Shared) (Q:Value→Shared→Prop) (E:Value→Shared→Prop),Q (.int (g i j) s.toks) {s with toks:=s.toks+1}→wpAny (model X.prog X.w) X.A (f (.int i t) (.int j u)) Q E s) :
  fo X f (En fun i j=>.int (g i j)):=by
 intro ae s σ H x y v u Q I rx ry h;obtain⟨i,j,rfl,rfl,q⟩:=h;obtain⟨t,rfl⟩:=rx;obtain⟨t',rfl⟩:=ry;exact rule i j t t' s _ _ ⟨.int (g i j),H,I.tok _,⟨_,rfl⟩,q⟩
theorem Ei {g:Int→Int→Bool}
  (rule:∀(i j:Int) (t u:Tok) (s:Shared) (Q:Value→Shared→Prop) (E:Value→Shared→Prop),Q (.bool (g i j)) s→wpAny (model X.prog X.w) X.A (f (.int i t) (.int j u)) Q E s) :
  fo X f (En fun i j=>.bl (g i j)):=by
 intro ae s σ H x y v u Q I rx ry h;obtain⟨i,j,rfl,rfl,q⟩:=h;obtain⟨t,rfl⟩:=rx;obtain⟨t',rfl⟩:=ry;exact rule i j t t' s _ _ ⟨.bl (g i j),H,I,rfl,q⟩
def La (i j:Int):Prop:=0≤j∧j≤1000000∧i.natAbs<2 ^ 64
def GR (i j:Int):Prop:=(-(2 ^ 64)<i∧i<2 ^ 64)∨(-(2 ^ 64)<j∧j<2 ^ 64)
theorem GR.ok {i j:Int}(h:GR i j):IntMulOk i j:=by
 rcases h with⟨h1,h2⟩|⟨h1,h2⟩
 ·exact .of_left (intBits_le_64 h1 h2)
 ·exact .of_right (intBits_le_64 h1 h2)
theorem Gr:fo X (binaryOp .Add) (En fun i j=>.int (i+j)):=Jy fun _ _ _ _ _ _ _ q=>add_int q
theorem E6:fo X (binaryOp .Sub) (En fun i j=>.int (i-j)):=Jy fun _ _ _ _ _ _ _ q=>sub_int q
theorem ES:fo X (binaryOp .Mult) (rI GR fun i j=>.int (i*j)):=Lu fun _ _ _ _ _ _ _ hc q=>mul_int q hc.ok
theorem Fk:fo X (binaryOp .Mod) (rI (fun _ j=>0<j) fun i j=>.int (i % j)):=Lu fun i j _ _ _ _ _ hc q=>by
 have h1:(0:Int)<j:=hc;exact mod_int' (by omega) (by rw[Int.fmod_eq_emod_of_nonneg i (by omega)];exact q)
theorem Hb:fo X (binaryOp .Pow) (rI La fun i j=>.int (i ^ j.toNat)):=Lu fun _ _ _ _ _ _ _ hc q=>pow_int_small hc.1 hc.2.1 hc.2.2 q
theorem Mm {f:Value→Sem Value}{g:Int→Int}
  (rule:∀(i:Int) (t:Tok) (s:Shared) (Q:Value→Shared→Prop) (E:Value→Shared→Prop),Q (.int (g i) s.toks) {s with toks:=s.toks+1}→wpAny (model X.prog X.w) X.A (f (.int i t)) Q E s) :
  L1 X f (rU fun i=>.int (g i)):=by
 intro ae s σ H x v Q I rx h;obtain⟨i,rfl,q⟩:=h;obtain⟨t,rfl⟩:=rx;exact rule i t s _ _ ⟨.int (g i),H,I.tok _,⟨_,rfl⟩,q⟩
theorem FZ:L1 X (unaryOp .USub) (rU fun i=>.int (-i)):=Mm fun _ _ _ _ _ q=>neg_int q
end
variable{op:CmpOp}
section
variable {X:Cx}{a b c:Expr}{ta tb tc:TE}{pos:Pos}
theorem AO {Q:VK}{k k':Bool}(I:Inv X ae σ H s)(q:Q (.bl k) H)(e:k=k'):EP X ae σ Q (.bool k') s:=by
 subst e;exact⟨.bl k,H,I,rfl,q⟩
theorem J6:fo X (compareOp .Lt) (En fun i j=>.bl (decide (i<j))):=Ei fun _ _ _ _ _ _ _ q=>lt_int q
theorem Ik:fo X (compareOp .LtE) (En fun i j=>.bl (decide (i≤j))):=Ei fun _ _ _ _ _ _ _ q=>le_int q
theorem Ji:fo X (compareOp .Gt) (En fun i j=>.bl (decide (j<i))):=Ei fun _ _ _ _ _ _ _ q=>gt_int q
theorem Jw:fo X (compareOp .GtE) (En fun i j=>.bl (decide (j≤i))):=Ei fun _ _ _ _ _ _ _ q=>ge_int q
theorem yR:fo X (compareOp .In) (fun x y H Q=>∃i j,x=.str i∧y=.str j∧Q (.bl (!(Builtin.Str.occurrences j i 0 j.length 1).isEmpty)) H):=by
 intro ae s σ H x y v u Q I rx ry h;obtain⟨i,j,rfl,rfl,q⟩:=h;obtain⟨t,rfl⟩:=rx;obtain⟨t',rfl⟩:=ry;exact in_str (AO I q rfl)
theorem uw:fo X (compareOp .NotIn) (fun x y H Q=>∃i j,x=.str i∧y=.str j∧Q (.bl (!(!(Builtin.Str.occurrences j i 0 j.length 1).isEmpty))) H):=by
 intro ae s σ H x y v u Q I rx ry h;obtain⟨i,j,rfl,rfl,q⟩:=h;obtain⟨t,rfl⟩:=rx;obtain⟨t',rfl⟩:=ry;exact notIn_str (AO I q rfl)
def Ks:HO→Bool
 | .lst _=>true
 | .ins _ _ _=>true
 | _=>false
theorem HS {a:Addr}(I:Inv X ae σ H s)(h:H a=some o)(p:Ks o=true):∃ob,s.heap.get? a=some ob∧ob.cls≠.type "tuple":=by
 cases o with
 | lst xs=>
  obtain⟨_,its,n,_,e⟩:xs.length≤sizeLine∧∃(its:List Value) (n:Nat),aR xs its∧s.heap.get? a=some {cls:=.type "list",data:=.seq its.toArray n}:=I.hok a _ h;exact⟨_,e,(by show Value.type "list"≠.type "tuple";decide +kernel)⟩
 | ins C dx fs=>
  have x:=I.hok a _ h;obtain⟨_,_,_,e,_⟩:=x;exact⟨_,e,(by show Value.ref C≠.type "tuple";exact fun z=>by cases z)⟩
 | _=>exact absurd (show false=true from p) Bool.false_ne_true
theorem Hq (b:Expr)(h:op≠.In:=by decide)(h2:op≠.NotIn:=by decide):behindInMarks op b=false:=by
 have e1:(op==CmpOp.In)=false:=by cases op <;> first|rfl|exact absurd rfl h
 have e2:(op==CmpOp.NotIn)=false:=by cases op <;> first|rfl|exact absurd rfl h2
 cases b <;> simp[behindInMarks,e1,e2]
theorem DQ (ho:fo X (compareOp op) r)(ha:PE X a ta)(hb:PE X b tb)(hm:behindInMarks op b=false):PE X (.Compare a [op] [b] pos) (IE r ta tb):=by
 intro ae s σ H Q I h;exact wpAny_Compare1 (Hl ha hb I h fun v u s2 x y H2 I2 rx ry q=>ho ae s2 σ H2 x y v u Q I2 rx ry q) hm
def EA (t:TE):TT:=fun σ H Q=>t σ H fun x H'=>∃k,x=.bl k∧Q k H'
theorem C9 (ho:fo X (compareOp op) r)(ha:PE X a ta)(hb:PE X b tb)(hm:behindInMarks op b=false):PT X (.Compare a [op] [b] pos) (EA (IE r ta tb)):=by
 intro ae s σ H Q I h;refine wpAny_isTrue_Compare1 (cb (ha ae s σ H _ I h) fun v s1 ⟨x,H1,I1,r1,q1⟩=>cb (hb ae s1 σ H1 _ I1 q1) fun u s2 ⟨y,H2,I2,r2,q2⟩=>
  cb (ho ae s2 σ H2 x y v u _ I2 r1 r2 q2) fun c s3 hxx=>?_) hm
 obtain⟨z,H3,I3,r3,k,e,q3⟩:=hxx;subst e;cases r3;exact wpAny_truthy_bool ⟨H3,I3,q3⟩
def wD (r r':R2)(ta tb tc:TE):TE:=fun σ H Q=>ta σ H fun x H1=>tb σ H1 fun y H2=>r x y H2 fun z H3=>∃k,z=.bl k∧
 (if k=true then tc σ H3 fun w' H4=>r' y w' H4 Q else Q (.bl false) H3)
theorem Bq {op':CmpOp}{r':R2}(ho:fo X (compareOp op) r)(ho':fo X (compareOp op') r')(ha:PE X a ta)(hb:PE X b tb)(hc:PE X c tc)
  (hm:lastMarks [op,op'] [b,c]=false:=by with_unfolding_all rfl):PE X (.Compare a [op,op'] [b,c] pos) (wD r r' ta tb tc):=by
 intro ae s σ H Q I h;refine Compare_chain (cb (ha ae s σ H _ I h) fun v s1 ⟨x,H1,I1,r1,q1⟩=>chain_link (cb (hb ae s1 σ H1 _ I1 q1) fun u s2 ⟨y,H2,I2,r2,q2⟩=>
  cb (ho ae s2 σ H2 x y v u _ I2 r1 r2 q2) fun d s3 hxx=>?_)) hm
 obtain⟨z,H3,I3,r3,k,e,q3⟩:=hxx;subst e;cases r3;refine wpAny_truthy_bool ?_;cases k with
 | false=>exact ite_ff ⟨.bl false,H3,I3,rfl,q3⟩
 | true=>exact ite_tt (chain_last (cb (hc ae s3 σ H3 _ I3 q3) fun w' s4 ⟨z',H4,I4,r4,q4⟩=>ho' ae s4 σ H4 y z' u w' Q I4 r2 r4 q4))
theorem Bv {op':CmpOp}{r':R2}(ho:fo X (compareOp op) r)(ho':fo X (compareOp op') r')(ha:PE X a ta)(hb:PE X b tb)(hc:PE X c tc)
  (hm:lastMarks [op,op'] [b,c]=false:=by with_unfolding_all rfl):PT X (.Compare a [op,op'] [b,c] pos) (EA (wD r r' ta tb tc)):=by
 intro ae s σ H Q I h;refine isTrue_chain (cb (ha ae s σ H _ I h) fun v s1 ⟨x,H1,I1,r1,q1⟩=>test_link (cb (hb ae s1 σ H1 _ I1 q1) fun u s2 ⟨y,H2,I2,r2,q2⟩=>
  cb (ho ae s2 σ H2 x y v u _ I2 r1 r2 q2) fun d s3 hxx=>?_)) hm
 obtain⟨z,H3,I3,r3,k,e,q3⟩:=hxx;subst e;cases r3;refine wpAny_truthy_bool ?_;cases k with
 | false=>
  obtain⟨k',e',q'⟩:=q3;cases e';exact ite_ff ⟨H3,I3,q'⟩
 | true=>
  refine ite_tt (test_last (cb (hc ae s3 σ H3 _ I3 q3) fun w' s4 ⟨z',H4,I4,r4,q4⟩=>cb (ho' ae s4 σ H4 y z' u w' _ I4 r2 r4 q4) fun d' s5 hxx=>?_));obtain⟨z2,H5,I5,r5,k2,e2,q5⟩:=hxx;subst e2;cases r5;exact wpAny_truthy_bool ⟨H5,I5,q5⟩
def J7 (K:W.Frag)(x:V)(H:Hp)(k:Bool):Prop:=
 match x with
 | .non=>k=false
 | .bl b=>k=b
 | .int i=>k=(i != 0)
 | .str y=>y.length≤sizeLine∧k=((y.length:Int) != 0)
 | .byt y=>y.size≤sizeLine∧k=((y.size:Int) != 0)
 | .ref p=>(∃xs,m3 K H p xs∧k=!xs.isEmpty)∨(∃xs,pP K H p xs∧k=!xs.isEmpty)∨∃kvs,H p=some (.dK kvs)∧k=!kvs.isEmpty
 | _=>False
theorem xp {κ:Type}{kvs:List (κ×V)}{vs:List (κ×Value)}(r:KV kvs vs):(!vs.isEmpty)=!kvs.isEmpty:=by
 cases r <;> rfl
theorem oB {its:List Value}(r:aR xs its):(!its.toArray.isEmpty)=!xs.isEmpty:=by
 cases r <;> simp
theorem lh:(sizeLine:Nat)<2 ^ 63:=by rw[sizeLine_eq];decide
theorem F0:LR X (fun x H Q=>∃k,J7 X.K x H k∧Q k H):=by
 intro ae s σ H x v Q I rx h;obtain⟨k,e,q⟩:=h;have hl:=lh;have hs:sizeLine=16777216:=sizeLine_eq;cases x with
 | non=>
  cases rx;have e':k=false:=e;subst e';exact truthy_none ⟨H,I,q⟩
 | bl b=>
  cases rx;have e':k=b:=e;subst e';exact wpAny_truthy_bool ⟨H,I,q⟩
 | int i=>
  obtain⟨t,rfl⟩:=rx;have e':k=(i != 0):=e;subst e';exact PySem.P.truthy_int ⟨H,I,q⟩
 | str y=>
  obtain⟨t,rfl⟩:=rx;obtain⟨hy,e'⟩:y.length≤sizeLine∧k=((y.length:Int) != 0):=e;subst e';exact PySem.P.truthy_str (by omega) ⟨H,I.tok _,q⟩
 | byt y=>
  obtain⟨t,rfl⟩:=rx;obtain⟨hy,e'⟩:y.size≤sizeLine∧k=((y.size:Int) != 0):=e;subst e';exact W.truthy_bytes (by omega) ⟨H,I.tok _,q⟩
 | ref p=>
  cases rx;have e':(∃xs,m3 X.K H p xs∧k=!xs.isEmpty)∨(∃xs,pP X.K H p xs∧k=!xs.isEmpty)∨∃kvs,H p=some (.dK kvs)∧k=!kvs.isEmpty:=e;rcases e' with⟨xs,hx,e'⟩|⟨xs,hx,e'⟩|⟨kvs,hx,e'⟩
  ·subst e';obtain⟨its,r,pl,hz⟩:=I.list hx;have hlen:=r.length;exact wpAny_truthy_list pl.isList (by simp only[size_toArray];omega) ⟨H,I.tok _,by rw[oB r];exact q⟩
  ·subst e';obtain⟨its,r,pl,hz⟩:=I.tuple hx;have hlen:=r.length;exact truthy_tuple pl (by simp only[size_toArray];omega) ⟨H,I.tok _,by rw[oB r];exact q⟩
  ·subst e';obtain⟨hz,hS,vs,r,m⟩:kvs.length≤sizeLine∧(p==sysModules)=false∧∃vs,KV kvs vs∧s.heap.DictOf (cM X.prog X.w) p vs:=I.hok p _ hx;have hlen:kvs.length=vs.length:=Paired.length r;exact wpAny_truthy_dict hS m (by omega) ⟨H,I.tok _,by rw[xp r];exact q⟩
 | _=>exact(show False from e).elim
theorem AU (ha:PE X a ta)(he:∀whole,isTrue a X.env whole=(do let v ←whole;standAt a.pos;holding [v] (truthy v))) :
  PT X a (fun σ H Q=>ta σ H fun x H'=>∃k,J7 X.K x H' k∧Q k H'):=by
 intro ae s σ H Q I h;exact isTrue_plain (cb (ha ae s σ H _ I h) fun v s1 ⟨x,H1,I1,r1,q1⟩=>F0 ae s1 σ H1 x v Q I1 r1 q1) (he _)
theorem wI:fo X (binaryOp .Add) (fun x y H Q=>∃i j,x=.str i∧y=.str j∧i.length+j.length≤sizeLine∧Q (.str (i++j)) H):=by
 intro ae s σ H x y v u Q I rx ry h;obtain⟨i,j,rfl,rfl,hz,q⟩:=h;obtain⟨t,rfl⟩:=rx;obtain⟨t',rfl⟩:=ry;exact add_str (fun t' tk=>⟨.str (i++j),H,I.tok _,⟨_,rfl⟩,q⟩) hz
theorem iA {x:V}(r:aR [x] us):∃u,us=[u]∧aY x u:=by
 cases r with
 | cons r1 r2=>cases r2;exact⟨_,rfl,r1⟩
theorem Es {x y:V}(r:aR [x,y] us):∃u w',us=[u,w']∧aY x u∧aY y w':=by
 cases r with
 | cons r1 r2=>
  cases r2 with
  | cons r3 r4=>cases r4;exact⟨_,_,rfl,r1,r3⟩
theorem yH (hc:X.calm=true):cV X (.builtin "min") (fun xs H Q=>∃i j,xs=[.int i,.int j]∧Q (.int (if j<i then j else i)) H):=by
 intro ae s σ H xs us Q I r h;obtain⟨i,j,rfl,q⟩:=h;obtain⟨u,w',rfl,⟨t,rfl⟩,⟨t',rfl⟩⟩:=Es r;refine min_two_ints (I.ok.hd hc) fun h' tk k=>⟨_,H,I.kept k,?_,q⟩
 by_cases hj:j<i
 ·rw[if_pos hj,if_pos hj];exact⟨_,rfl⟩
 ·rw[if_neg hj,if_neg hj];exact⟨_,rfl⟩
theorem rO:cV X (.type "int") (fun xs H Q=>(∃i,xs=[.int i]∧Q (.int i) H)∨∃k,xs=[.bl k]∧Q (.int (if k then 1 else 0)) H):=by
 intro ae s σ H xs us Q I r h;rcases h with⟨i,rfl,q⟩|⟨k,rfl,q⟩
 ·obtain⟨u,rfl,t,rfl⟩:=iA r;exact call_int_int ⟨.int i,H,I,⟨_,rfl⟩,q⟩
 ·obtain⟨u,rfl,r1⟩:=iA r;cases r1;exact call_int_bool ⟨.int (if k then 1 else 0),H,I.tok _,⟨_,rfl⟩,q⟩
end
theorem qC.some_of {o:Option Value}(r:qC (some v) o):∃u,o=some u∧aY v u:=by
 cases o with
 | none=>exact(show False from r).elim
 | some u=>exact⟨u,rfl,r⟩
structure My (K:W.Frag)(C:Addr):Prop where
 pg:W.plainGet K C Str.empty=true
 hd:W.hasDictIn K C=true
 po:W.plainOver K C=true
 sa:W.findIn K (.ref C) "__setattr__"=some (some (.builtin "object.__setattr__"))
def HD (K:W.Frag)(C:Addr)(f:Str):Prop:=W.findIn K (.ref C) f=some none
structure KP (K:W.Frag)(C:Addr)(m:Str)(f:Addr):Prop where
 at_:W.findIn K (.ref C) m=some (some (.ref f))
 fn:W.isFn K (.ref f)=true
 kp:W.keepIn K (.ref f)=true
def FP (X:Cx)(op:Operator)(rd:V→V→Hp→VK→Prop):Prop:=
 ∀(ae:List (Addr×Obj)) (s:Shared) (σ:St) (H:Hp) (x y:V) (u v:Value) (Q:VK),Inv X ae σ H s→aY x u→aY y v→rd x y H Q→wpAny (model X.prog X.w) X.A (inplaceOp op u v) (EP X ae σ Q) X.xe s
section
variable {X:Cx}{o e value:Expr}{f:Str}{pos pos' tpos:Pos}{ta tv:TE}
def Lm:V→V→Hp→VK→Prop:=fun x y H Q=>∃i j,x=.int i∧y=.int j∧Q (.int (i+j)) H
theorem Fm:FP X .Add Lm:=by
 rintro ae s σ H x y u v Q I rx ry ⟨i,j,rfl,rfl,q⟩;obtain⟨t,rfl⟩:=(show∃t,u=Value.int i t from rx);obtain⟨t',rfl⟩:=(show∃t',v=Value.int j t' from ry);exact PyProof.Rows.iadd_int ⟨.int (i+j),H,I.tok _,⟨_,rfl⟩,q⟩
end
structure d7 (k:Nat)(A:Around):Prop where
 hd:A.handled=none
 dp:A.depth+3*k+5<recursionLimit
 un:A.units+16*k+200<cLine
variable{k:Nat}
theorem d7.mono {j:Nat}(r:d7 k A)(h:j≤k):d7 j A:=⟨r.hd,by have:=r.dp;omega,by have:=r.un;omega⟩
theorem d7.deeper (r:d7 (k+1) A)(env:Env):d7 k (A.deeper env):=
 ⟨r.hd,by have:=r.dp;show A.depth+1+3*k+5<_;omega,by have:=r.un;show A.units+3+16*k+200<_;omega⟩
theorem d7.depth (r:d7 k A):A.depth<recursionLimit:=by have:=r.dp;omega
theorem d7.units (r:d7 k A):A.units+64<cLine:=by have:=r.un;omega
def I0:TA:=fun _ H Q=>Q [] H
def Ex (ta:TE)(tr:TA):TA:=fun σ H Q=>ta σ H fun x H1=>tr σ H1 fun xs H2=>Q (x::xs) H2
section
variable {X:Cx}{e:Expr}{es:List Expr}{te:TE}{t:TA}{pos:Pos}
theorem jZ:PA X [] I0:=fun _ _ _ _ H Q I h=>Calls.spliced_nil ⟨[],H,I,.nil,h⟩
theorem f6 (ha:PE X e te)(hr:PA X es t)(hs:starEach (e::es) X.env=(false,eval e X.env)::starEach es X.env:=by rfl):PA X (e::es) (Ex te t):=by
 intro pos ae s σ H Q I h;rw[hs];show wpAny _ _ (spliced ((false,eval e X.env)::backTo pos (starEach es X.env))) _ _ s;refine Calls.spliced_cons (cb (ha ae s σ H _ I h) fun u s1 hxx=>?_);obtain⟨x,H1,I1,r1,q1⟩:=hxx;exact cb (hr pos ae s1 σ H1 _ I1 q1) fun us s2 ⟨xs,H2,I2,r2,q2⟩=>⟨x::xs,H2,I2,.cons r1 r2,q2⟩
def Ll (t:TA):TE:=fun σ H Q=>t σ H fun xs H1=>xs.length≤sizeLine∧∀p,H1 p=none→Q (.ref p) (cA H1 p (.tup xs))
def KS (t:TA):TE:=fun σ H Q=>t σ H fun xs H1=>xs.length≤sizeLine∧∀p,H1 p=none→Q (.ref p) (cA H1 p (.lst xs))
theorem Fy {x1}(h:PA X es t):PE X (.Tuple es x1 pos) (Ll t):=by
 intro ae s σ H Q I hq;refine wpAny_Tuple_spliced (cb (h pos ae s σ H _ I hq) fun us s1 ⟨xs,H1,I1,r,z,q⟩=>⟨by rw[←r.length];exact z,?_⟩);have hf:H1 s1.heap.objs.size=none:=I1.hok.fresh (Nat.le_refl _);refine⟨.ref s1.heap.objs.size,cA H1 s1.heap.objs.size (.tup xs),I1.laid (t':=s1.toks) (fun b u e=>Heap.get?_push_of_some _ e) (Nat.le_refl _) ?_,rfl,q _ hf⟩;exact⟨z,us,r,⟨_,Heap.get?_push_size _ rfl,rfl,_,rfl⟩⟩
theorem BV (h:PA X es t):PE X (.List es pos) (KS t):=by
 intro ae s σ H Q I hq;refine wpAny_List_spliced (cb (h pos ae s σ H _ I hq) fun us s1 ⟨xs,H1,I1,r,z,q⟩=>⟨by rw[←r.length];exact z,?_⟩);have hf:H1 s1.heap.objs.size=none:=I1.hok.fresh (Nat.le_refl _);refine⟨.ref s1.heap.objs.size,cA H1 s1.heap.objs.size (.lst xs),I1.laid (t':=s1.toks) (fun b u e=>Heap.get?_push_of_some _ e) (Nat.le_refl _) ?_,rfl,q _ hf⟩;exact⟨z,us,0,r,Heap.get?_push_size _ rfl⟩
end
abbrev Sp:=List V→Hp→VK→XK→Prop
abbrev zV:=List Env→Hp→Shared→XK→Value→Shared→Prop
structure C7 (P:Program)(w:World)(K:W.Frag)(mg:Str→Option Value)(base:Heap)(A:Around)(outer:List Env)(s:Shared)(H:Hp):Prop where
 frames:A.frames=some outer
 mod:Mod K mg base
 bs:∀b o,base.get? b=some o→s.heap.get? b=some o∧H b=none
 bsz:base.objs.size≤s.heap.objs.size
 funs:s.heap.FunFrames base outer
 frf:∀b∈lY outer,H b=none
 hok:lu P w H s.heap
 bare:AllBare s.gens
def CE (outer:List Env)(P:Program)(w:World)(H:Hp)(s:Shared)(Q:VK)(u:Value)(s':Shared):Prop:=
 ∃v H',s'.os=s.os∧AllBare s'.gens∧Un (lY outer) [] H H' s.heap s'.heap∧lu P w H' s'.heap∧aY v u∧Q v H'
def CR (CX:zV)(outer:List Env)(P:Program)(w:World)(H:Hp)(s:Shared)(Q:VK)(E:XK)(r:Result)(s':Shared):Prop:=
 match r with
 | .ok (.ret u)=>CE outer P w H s Q u s'
 | .ok _=>False
 | .error e=>CX outer H s E e s'
structure iT (P:Program)(w:World)(K:W.Frag)(mg:Str→Option Value)(base:Heap)(CX:zV)(k:Nat)(f:Addr)(fd:FuncData)(ps:List Str)(sp:Sp):Prop where
 len:∀vs H Q E,sp vs H Q E→vs.length=ps.length
 run:∀(A:Around) (outer:List Env) (s:Shared) (H:Hp) (args:Args) (us:List Value) (vs:List V) (Q:VK) (E:XK),d7 k A→C7 P w K mg base A outer s H→BindsTo s fd args (ps.zip us)→aR vs us→sp vs H Q E→
  codeAny (model P w) A (.call (.ref f) args) (CR CX outer P w H s Q E) s
variable{mg:Str→Option Value}{base:Heap}{CX:zV}{fd:FuncData}{ps:List Str}
theorem iT.imp {f:Addr}{sp sp':Sp}(F:iT P w K mg base CX k f fd ps sp)
  (h:∀vs H Q E,sp' vs H Q E→sp vs H Q E):iT P w K mg base CX k f fd ps sp':=
 ⟨fun vs H Q E q=>F.len vs H Q E (h _ _ _ _ q),fun A outer s H args us vs Q E hr he hb hv hs=>F.run A outer s H args us vs Q E hr he hb hv (h _ _ _ _ hs)⟩
section
variable {X:Cx}{ae:List (Addr×Obj)}{σ:St}{H:Hp}{s s':Shared}
theorem Inv.env0 (I:Inv X ae σ H s):C7 X.prog X.w X.K X.mg X.base X.A X.stack s H:=
 ⟨I.ok.frames,I.ok.mod,I.bs,Nat.le_trans I.ok.bsz I.sz,I.stack,I.stkFree,I.hok,I.bare⟩
theorem Inv.after {Q:VK}(I:Inv X ae σ H s)(h:CE X.stack X.prog X.w H s Q u s'):EP X ae σ Q u s':=by
 obtain⟨v,H',os,bare,un,hok,r,q⟩:=h;obtain⟨hh,g,d,t,os'⟩:=s';obtain rfl:os'=s.os:=os;exact⟨v,H',I.call (h':=hh) (g':=g) (d':=d) (t':=t) (ch:=[]) un hok bare (fun b z=>absurd z (by simp)),r,q⟩
end
def IP (sp:Sp)(dvs:List V)(E:XK)(t:TA):TE:=fun σ H Q=>t σ H fun vs H1=>sp (vs++dvs) H1 Q E
def ke (K:W.Frag)(fd:FuncData)(ps:List Str)(ds:List Value):Prop:=
 ∀(s:Shared) (us:List Value),K.In s.heap→(us++ds).length=ps.length→BindsTo s fd ⟨us,[]⟩ (ps.zip (us++ds))
theorem ke.all (h:∀us:List Value,us.length=ps.length→bindArgs fd ⟨us,[]⟩=pure (ps.zip us)):ke K fd ps []:=fun s us _ hl=>by
 rw[append_nil] at hl ⊢;exact .of_eq (h us hl)
def wY (CX:zV)(X:Cx)(E:XK):Prop:=∀(ae:List (Addr×Obj)) (σ:St) (H:Hp) (s:Shared) (e:Value) (s':Shared),Inv X ae σ H s→CX X.stack H s E e s'→X.xe e s'
variable{vs:List V}
section
variable {X:Cx}{CX:zV}{k:Nat}{f C:Addr}{fd:FuncData}{ps:List Str}{sp:Sp}{dvs:List V}{ds:List Value}{E:XK}{x m:Str}{p pos apos:Pos}{e o:Expr}{es:List Expr}{ta:TE}{t:TA}
theorem HN {Q:VK}(F:iT X.prog X.w X.K X.mg X.base CX k f fd ps sp)(hr:d7 k X.A)(hb:ke X.K fd ps ds)(hd:aR dvs ds)(hx:wY CX X E)
  (I:Inv X ae σ H s) (r:aR vs us) (h:sp (vs++dvs) H Q E):wpAny (model X.prog X.w) X.A (call (.ref f) us) (EP X ae σ Q) X.xe s:=by
 have r2:aR (vs++dvs) (us++ds):=r.append hd;have hl:(us++ds).length=ps.length:=by rw[←r2.length];exact F.len _ _ _ _ h
 refine wpAny_call (codeAny_mono (F.run X.A X.stack s H ⟨us,[]⟩ (us++ds) (vs++dvs) Q E hr I.env0 (hb s us I.kIn hl) r2 h) fun r s' hq=>?_);cases r with
 | error e=>exact hx ae σ H s e s' I hq
 | ok fl=>
  cases fl with
  | ret u=>exact I.after hq
  | next=>exact False.elim hq
  | brk=>exact False.elim hq
  | cont=>exact False.elim hq
theorem CZ (F:iT X.prog X.w X.K X.mg X.base CX k f fd ps sp)(hr:d7 k X.A)(hg:Gl X x)(hm:X.mg x=some (.ref f))(hk:W.keepIn X.K (.ref f)=true)(hb:ke X.K fd ps ds)(hd:aR dvs ds)(hx:wY CX X E)
  (ha:PA X (e::es) t) (hdb:(x==("__debug__":Str))=false:=by decide) (he:starEach (e::es) X.env=(false,eval e X.env)::starEach es X.env:=by rfl) (hpl:(backTo pos (starEach es X.env)).any (·.1)=false:=by rfl) :
  PE X (.Call (.Name x p) (e::es) [] pos) (IP sp dvs E t):=by
 intro ae s σ H Q I h;refine wpAny_Call_Name_kw (uG I hg hm ?_ hdb);refine W.callWith_K (h₀:=X.base) I.ok.mod.kin hk (cb (ha pos ae s σ H _ I h) fun us s1 ⟨vs,H1,I1,r,q⟩=>⟨I1.kIn,?_⟩) he hpl;exact HN F hr hb hd hx I1 r q
structure Mk (K:W.Frag)(C f:Addr):Prop where
 makes:W.makesIn K C=true
 init:W.findIn K (.ref C) "__init__"=some (some (.ref f))
 fn:W.isFn K (.ref f)=true
 kp:W.keepIn K (.ref C)=true
end
structure kI (N P:List Str)(sc:Scope):Prop where
 kind:sc.kind=.function
 co:sc.isCoroutine=false
 gen:sc.isGenerator=false
 nd:N.Nodup
 pre:N.take P.length=P
 par:∀x∈P,sc.names.lookup x=some .local∨sc.names.lookup x=some .cell
 nofree:∀y∈sc.names,y.2≠.free
theorem rN {kindOf:Str→Option NameKind}{x:Str}:∀{binds:List (Str×Value)} {m:Str→Option Value},(∀v,(x,v)∉binds)→bindL kindOf binds m x=m x
 | [],_,_=>rfl
 | (n,v)::r,m,h=>by
  unfold bindL;rw[rN fun w hw=>h w (mem_cons_of_mem _ hw)];split
  ·have:x≠n:=by rintro rfl;exact h v mem_cons_self
   simp[this]
  ·rfl
theorem sh {kindOf:Str→Option NameKind}{x:Str}:∀{binds:List (Str×Value)} {m:Str→Option Value},(∀v,(x,v)∉binds)→bindC kindOf binds m x=m x
 | [],_,_=>rfl
 | (n,v)::r,m,h=>by
  unfold bindC;rw[sh fun w hw=>h w (mem_cons_of_mem _ hw)];split
  ·rfl
  ·have:x≠n:=by rintro rfl;exact h v mem_cons_self
   simp[this]
theorem qU {kindOf:Str→Option NameKind}{x:Str}{v:Value}:∀{P:List Str} {vs:List Value} {i:Nat} {m:Str→Option Value},P.Nodup→P[i]?=some x→vs[i]?=some v→kindOf x=some .local→
  bindL kindOf (P.zip vs) m x=some v
 | [],_,_,_,_,h,_,_=>by simp at h
 | _::_,[],_,_,_,_,h,_=>by simp at h
 | p::P,w::vs,0,m,nd,h1,h2,hk=>by
  simp at h1 h2;subst h1;subst h2;show bindL kindOf ((p,w)::P.zip vs) m p=_;unfold bindL;rw[rN fun v hv=>(nodup_cons.mp nd).1 (of_mem_zip hv).1,if_pos hk];simp
 | p::P,w::vs,i+1,m,nd,h1,h2,hk=>by
  show bindL kindOf ((p,w)::P.zip vs) m x=_;unfold bindL;exact qU (i:=i) (nodup_cons.mp nd).2 (by simpa using h1) (by simpa using h2) hk
theorem sd {kindOf:Str→Option NameKind}{x:Str}{v:Value}:∀{P:List Str} {vs:List Value} {i:Nat} {m:Str→Option Value},P.Nodup→P[i]?=some x→vs[i]?=some v→kindOf x≠some .local→
  bindC kindOf (P.zip vs) m x=some v
 | [],_,_,_,_,h,_,_=>by simp at h
 | _::_,[],_,_,_,_,h,_=>by simp at h
 | p::P,w::vs,0,m,nd,h1,h2,hk=>by
  simp at h1 h2;subst h1;subst h2;show bindC kindOf ((p,w)::P.zip vs) m p=_;unfold bindC;rw[sh fun v hv=>(nodup_cons.mp nd).1 (of_mem_zip hv).1,if_neg hk];simp
 | p::P,w::vs,i+1,m,nd,h1,h2,hk=>by
  show bindC kindOf ((p,w)::P.zip vs) m x=_;unfold bindC;exact sd (i:=i) (nodup_cons.mp nd).2 (by simpa using h1) (by simpa using h2) hk
def start (N:List Str)(vs:List V):St:=vs.map some++List.replicate (N.length-vs.length) none
def mv (CX:zV)(P:Program)(w:World)(K:W.Frag)(mg:Str→Option Value)(base:Heap)(N:List Str)(qual:Str)(scope:Scope)(f:Addr)(cd:Value)(A:Around)(outer:List Env)(s:Shared)(H:Hp)(E:XK):Cx where
 prog:=P
 w:=w
 K:=K
 mg:=mg
 base:=base
 A:=A.deeper (envOfC qual scope s.heap.objs.size f cd)
 N:=N
 s₀:=s
 H₀:=H
 env:=envOfC qual scope s.heap.objs.size f cd
 outer:=outer
 stack:=envOfC qual scope s.heap.objs.size f cd::outer
 ex:=[]
 calm:=true
 fn:=fun _=>true
 pn:=[]
 xe:=fun e s'=>wpAny (model P w) (A.deeper (envOfC qual scope s.heap.objs.size f cd)) (leaving (envOfC qual scope s.heap.objs.size f cd) e) (fun _ s''=>CX outer H s E e s'') (fun e' s''=>CX outer H s E e' s'') s'
theorem u4 {sc:Scope}{n:Nat}(h:sc.names.lookup x=some .cell):∃c,(cellsFrom n sc.names []).lookup x=some c:=by
 have q:=W.cellsFrom_some sc.names n [] (.inl h);exact Option.isSome_iff_exists.mp q
variable{scope:Scope}
theorem zi {N:List Str}{qual:Str}{f:Addr}{cd:Value}{outer:List Env}{s1:Shared}{E:XK}
  (S:kI N ps scope) (hd:A.handled=none) (e0:C7 P w K mg base A outer s H) (hl:vs.length=ps.length) (r:aR vs us)
  (x:InCallC s s.heap.objs.size (bindL (envOfC qual scope s.heap.objs.size f cd).kindOf (ps.zip us) fun _=>none) (cellsFrom (s.heap.objs.size+1) scope.names []) (bindC (envOfC qual scope s.heap.objs.size f cd).kindOf (ps.zip us) fun _=>none) s1) :
  Inv (mv CX P w K mg base N qual scope f cd A outer s H E) [] (start N vs) H s1:=by
 have hpl:ps.length≤N.length:=by have:=congrArg List.length S.pre;rw[length_take] at this;omega
 obtain⟨h1,tk,rfl,hk⟩:=x.done;have noA:∀b:Addr,b∉(mv CX P w K mg base N qual scope f cd A outer s H E).ex:=fun b z=>absurd (show b∈([]:List Addr) from z) (by simp)
 refine⟨⟨e0.mod,S.kind,rfl,rfl,Nat.le_refl _,fun y z c h1 h2=>?_,fun y hy=>?_,fun y c _ h=>?_,fun _=>hd,Around.frames_deeper e0.frames,.inr ⟨rfl,rfl⟩,fun b z=>absurd z (noA b),e0.bs,e0.bsz,fun b _ _=>noA b,fun b z=>absurd z (noA b),e0.funs,e0.frf⟩,
  rfl,e0.bare,Un.kept hk,⟨_,x.toInCall.ns,fun i y v h1 h2 h3=>?_⟩,fun y c h=>⟨_,x.cell y c h⟩,e0.hok.fresh (Nat.le_refl _),fun y c h=>?_,fun p hp=>absurd (show p∈([]:List (Addr×Obj)) from hp) (by simp),e0.hok.kept hk,?_⟩
 ·exact name_of_addr x.apart (PySem.mem_of_lookup h1) (PySem.mem_of_lookup h2)
 ·have hy:scope.names.lookup y=some .cell∨scope.names.lookup y=some .free:=hy;rcases hy with hy|hy
  ·exact u4 hy
  ·exact absurd rfl (S.nofree _ (PySem.mem_of_lookup hy))
 ·exact Nat.le_of_lt (x.above y c (PySem.mem_of_lookup h))
 ·have hi:i<vs.length:=by
   unfold start at h2
   by_cases hi:i<vs.length
   ·exact hi
   ·rw[getElem?_append_right (by simpa using hi)] at h2;rw[getElem?_replicate] at h2;split at h2 <;> cases h2
  have ha:vs[i]?=some v:=by
   unfold start at h2;rw[getElem?_append_left (by simpa using hi),getElem?_map] at h2;cases e:vs[i]? with
   | none=>rw[e] at h2;cases h2
   | some a=>rw[e] at h2;cases h2;rfl
  obtain⟨u,hu,rv⟩:=r.get ha;have hp:ps[i]?=some y:=by
   rw[←S.pre,getElem?_take_of_lt (by omega)];exact h1
  have ndP:ps.Nodup:=by rw[←S.pre];exact S.nd.sublist (take_sublist _ _)
  refine⟨u,rv,?_⟩;rcases S.par y (mem_of_getElem? hp) with k|k
  ·exact .inl ⟨k,qU ndP hp hu k⟩
  ·obtain⟨c,e⟩:=u4 (n:=s.heap.objs.size+1) k;refine .inr ⟨.inl k,c,e,?_⟩;have q:=x.cell y c e;rw[sd ndP hp hu (by show scope.names.lookup y≠_;rw[k];decide)] at q;exact q
 ·exact e0.hok.fresh (Nat.le_of_lt (x.above y c (PySem.mem_of_lookup h)))
 ·unfold start;show _=N.length;rw[length_append,length_map,length_replicate];omega
theorem Il {f:Addr}{name qual:Str}{params:Arguments}{dV kV doc pm cdv ct oc:Value}{an od:Option Addr}
  {osl:Array (Option Value)} {N:List Str} {sp:Sp} (lk:K.lookup f=some ⟨oc,od,.func (W.fnOf name qual params body scope dV kV doc pm an cdv ct),osl⟩) (hcd:W.codeIn K cdv qual=true) (S:kI N ps scope)
  (len:∀vs H Q E,sp vs H Q E→vs.length=ps.length)
  (hbody:∀(A:Around) (outer:List Env) (s:Shared) (H:Hp) (vs:List V) (Q:VK) (E:XK),d7 k (A.deeper (envOfC qual scope s.heap.objs.size f cdv))→sp vs H Q E→
   ∃t,PSs (mv CX P w K mg base N qual scope f cdv A outer s H E) body t∧t {nx:=fun _ H'=>Q .non H',rt:=Q} (start N vs) H) :
  iT P w K mg base CX (k+1) f (W.fnOf name qual params body scope dV kV doc pm an cdv ct) ps sp:=by
 refine⟨len,fun A outer s H args us vs Q E hr e0 hb r hsp=>?_⟩;have hl:=len _ _ _ _ hsp;have KX:K.In s.heap:=e0.mod.kin.keeps fun b o e=>(e0.bs b o e).1
 have lim:s.heap.NoLimit:=e0.mod.nolimit.keeps fun b o e=>(e0.bs b o e).1
 have hkind:∀y∈ps.zip us,scope.names.lookup y.1=some .local∨(scope.names.lookup y.1=some .cell∧((cellsFrom (s.heap.objs.size+1) scope.names []).lookup y.1).isSome=true):=fun⟨n,v⟩ hy=>by
  rcases S.par n (of_mem_zip hy).1 with q|q
  ·exact .inl q
  ·exact .inr ⟨q,W.cellsFrom_some _ _ _ (.inl q)⟩
 refine codeAny_call_function hr.depth (KX _ _ lk) rfl S.co S.gen rfl (W.codeRec_of KX hcd) (hb _ _ _ _ ?_);refine wpAny_newFunctionEnv_cells S.kind hkind fun env he s1 x=>?_
 subst he;refine⟨lim.keeps x.toInCall.keep,codeAny_func ?_⟩;obtain⟨t,ht,hq⟩:=hbody A outer s H vs Q E (hr.deeper _) hsp;have I:Inv (mv CX P w K mg base N qual scope f cdv A outer s H E) [] (start N vs) H s1:=zi S hr.hd e0 hl r x;refine wpAny_mono (ht [] s1 (start N vs) H _ I hq) (fun fl s' hs=>?_) fun e s' hs=>hs
 have fin:∀{σ':St} {H':Hp} {v:V} {u:Value},Inv (mv CX P w K mg base N qual scope f cdv A outer s H E) [] σ' H' s'→aY v u→Q v H'→CE outer P w H s Q u s':=
  fun {σ' H' v u} J rv q=>⟨v,H',J.os,J.bare,J.base,J.hok,rv,q⟩
 cases fl with
 | ret u=>
  obtain⟨v,σ',H',J,rv,q⟩:=hs;exact fin J rv q
 | next=>
  obtain⟨σ',H',J,q⟩:=hs;exact fin (v:=V.non) (u:=Value.none) J rfl q
 | brk=>
  obtain⟨_,_,_,q⟩:=hs;exact False.elim q
 | cont=>
  obtain⟨_,_,_,q⟩:=hs;exact False.elim q
section
variable {X:Cx}{x:Str}{p pos:Pos}{e:Expr}{es:List Expr}{t:TA}{id T:String}{r:List V→Hp→VK→Prop}
def LG (r:List V→Hp→VK→Prop)(t:TA):TE:=fun σ H Q=>t σ H fun vs H1=>r vs H1 Q
theorem wd (hc:cV X (.builtin id) r)(hg:Gl X x)(hm:X.mg x=none)(hv:bootBuiltins x=some (.builtin id))(ha:PA X (e::es) t)(hn:x≠"__name__":=by decide)(hdb:(x==("__debug__":Str))=false:=by decide)
  (he:starEach (e::es) X.env=(false,eval e X.env)::starEach es X.env:=by rfl) (hpl:(backTo pos (starEach es X.env)).any (·.1)=false:=by rfl):PE X (.Call (.Name x p) (e::es) [] pos) (LG r t):=by
 intro ae s σ H Q I h;refine wpAny_Call_Name_kw (um I hg hm hv ?_ hn hdb);exact PyProof.Rows.callWith_builtin1 (cb (ha pos ae s σ H _ I h) fun us s1 ⟨vs,H1,I1,r1,q1⟩=>hc ae s1 σ H1 vs us Q I1 r1 q1) he hpl
theorem zG (hc:cV X (.type T) r)(hg:Gl X x)(hm:X.mg x=none)(hv:bootBuiltins x=some (.type T))(ha:PA X (e::es) t)(hn:x≠"__name__":=by decide)(hdb:(x==("__debug__":Str))=false:=by decide)
  (he:starEach (e::es) X.env=(false,eval e X.env)::starEach es X.env:=by rfl) (hpl:(backTo pos (starEach es X.env)).any (·.1)=false:=by rfl):PE X (.Call (.Name x p) (e::es) [] pos) (LG r t):=by
 intro ae s σ H Q I h;refine wpAny_Call_Name_kw (um I hg hm hv ?_ hn hdb);exact PyProof.Rows.callWith_type1 (cb (ha pos ae s σ H _ I h) fun us s1 ⟨vs,H1,I1,r1,q1⟩=>hc ae s1 σ H1 vs us Q I1 r1 q1) he hpl
end
end L2
namespace HT
open PySem PyProof.Rows
def lexLt:List Int→List Int→Bool
 | [],[]=>false
 | [],_::_=>true
 | _::_,[]=>false
 | x::xs,y::ys=>if x=y then lexLt xs ys else decide (x<y)
theorem lexLt_cons (x y:Int)(xs ys:List Int):lexLt (x::xs) (y::ys)=if x=y then lexLt xs ys else decide (x<y):=rfl
section
open PySem.SeqAt
open PySem.AutoSeq1 (wpAny_loadPart')
open PySem.MeetsSeq PySem.MeetsSeq2 PySem.MeetsSeq3
end
variable{Q:Value→Shared→Prop}
section
variable {prog:Program}{w:World}{A:Around}{E:Value→Shared→Prop}{s:Shared}
theorem cat_tup {t b:Addr}{vs ws:List Value}(ht:IsTup s.heap t vs.toArray)(hb:IsTup s.heap b ws.toArray)(hv:vs≠[])
  (h1:ws=[]→Q (.ref t) s) (h2:ws≠[]→Q (.ref s.heap.objs.size) {s with heap:=s.heap.push {cls:=.type "tuple",data:=.seq (vs++ws).toArray}})
  (hsz:vs.length+ws.length≤sizeLine):wpAny (model prog w) A (binaryOp .Add (.ref t) (.ref b)) Q E s:=by
 obtain⟨⟨cls,dd,data,sl⟩,ho,hc,n,hd⟩:=id ht;obtain⟨⟨cls2,dd2,data2,sl2⟩,ho2,hc2,n2,hd2⟩:=id hb;simp only at hc hd hc2 hd2;subst hc hd hc2 hd2;have e:vs.toArray++ws.toArray=(vs++ws).toArray:=by simp
 by_cases hw:ws=[]
 ·exact concat_meets ⟨_,ho,rfl⟩ ⟨_,ho2,rfl⟩ noFill_tuple_add seq_tuple_add PySem.F.slot_tuple_add PySem.F.entry_tuple_add (PySem.F.args_tuple_add_2 _ _)
   (tuple_addW1 t b vs.toArray ws.toArray n n2 dd dd2 sl sl2 (by simpa using hv) (by simp[hw])) ⟨ho,ho2,h1 hw⟩
 ·refine concat_meets ⟨_,ho,rfl⟩ ⟨_,ho2,rfl⟩ noFill_tuple_add seq_tuple_add PySem.F.slot_tuple_add PySem.F.entry_tuple_add (PySem.F.args_tuple_add_2 _ _)
   (tuple_addW2 t b vs.toArray ws.toArray n n2 dd dd2 sl sl2 (by simpa using hv) (by simpa using hw) (by rw[List.size_toArray,List.size_toArray];exact hsz)) ⟨ho,ho2,?_⟩
  rw[e];exact h2 hw
def sIx (n d:Nat):Option Int→Nat
 | none=>d
 | some v=>if v<0 then(v+(n:Int)).toNat else min v.toNat n
theorem sIx_none (n d:Nat):sIx n d none=d:=rfl
theorem sIx_nat (n d k:Nat):sIx n d (some (k:Int))=min k n:=by
 show(if(k:Int)<0 then((k:Int)+(n:Int)).toNat else min (k:Int).toNat n)=min k n;rw[if_neg (by omega),Int.toNat_natCast]
theorem sIx_le (n d:Nat)(hd:d≤n)(o:Option Int):sIx n d o≤n:=by
 cases o with
 | none=>exact hd
 | some v=>
  show(if v<0 then(v+(n:Int)).toNat else min v.toNat n)≤n
  by_cases hv:v<0
  ·rw[if_pos hv];omega
  ·rw[if_neg hv];exact Nat.min_le_right _ _
theorem xN (v:Int)(n d:Nat):(if v<0 then max (v+(n:Int)) 0 else min v (n:Int))=((sIx n d (some v):Nat):Int):=by
 show(if v<0 then max (v+(n:Int)) 0 else min v (n:Int))=(((if v<0 then(v+(n:Int)).toNat else min v.toNat n):Nat):Int)
 by_cases hv:v<0
 ·simp only[if_pos hv];omega
 ·simp only[if_neg hv];omega
theorem wK (lo hi:Option Int)(n:Nat):Builtin.Slice.sliceAdjust lo hi 1 (n:Int)=(((sIx n 0 lo:Nat):Int),((sIx n n hi:Nat):Int)):=by
 have h1:¬((1:Int)<0):=by omega
 unfold Builtin.Slice.sliceAdjust;simp only[h1,if_false];refine Prod.ext ?_ ?_
 ·cases lo with
  | none=>rfl
  | some v=>exact xN v n 0
 ·cases hi with
  | none=>rfl
  | some v=>exact xN v n n
theorem xg (i j:Nat):Builtin.Slice.slicePlaces (i:Int) (j:Int) 1=j-i:=by
 unfold Builtin.Slice.slicePlaces;have h1:(1:Int)>0:=by omega
 simp only[h1,if_true,Int.ediv_one];split <;> omega
theorem pI {v:Value}{o:Option Int}{Q:Option Int→Shared→Prop}(p:IsPart v o)(h:Q o s):wpAny (model prog w) A (Builtin.Slice.slicePartIndex v) Q E s:=by
 cases p with
 | none=>exact slicePart_none h
 | int i t=>exact slicePart_int h
theorem sliceApplied_gen {sl:Addr}{vl vu:Value}{lo hi:Option Int}{n:Nat}{Q:Int×Int×Nat→Shared→Prop}(hs:s.heap.IsSliceOf sl vl vu .none)(pl:IsPart vl lo)(pu:IsPart vu hi)
  (h:Q (((sIx n 0 lo:Nat):Int),1,sIx n n hi-sIx n 0 lo) s):wpAny (model prog w) A (Builtin.Slice.sliceApplied (.ref sl) (pure (n:Int))) Q E s:=by
 obtain⟨os,hos,hcs,hds⟩:=id hs;unfold Builtin.Slice.sliceApplied Builtin.Slice.sliceFields;refine wpAny_bind (wpAny_bind (wpAny_field hos hds (x:=vl) rfl (wpAny_bind (wpAny_field hos hds (x:=vu) rfl (wpAny_bind (wpAny_field hos hds (x:=.none) rfl (wpAny_pure ?_)))))));refine wpAny_bind (slicePart_none ?_);show wpAny _ _ (if((1:Int)==0)=true then _ else _) _ _ s;rw[if_neg (by decide)];refine wpAny_bind (pI pl (wpAny_bind (pI pu (wpAny_bind (wpAny_pure ?_)))));show wpAny _ _ (match Builtin.Slice.sliceAdjust lo hi 1 (n:Int) with|(lo,hi)=>pure (lo,(1:Int),Builtin.Slice.slicePlaces lo hi 1)) _ _ s;rw[wK lo hi n];show wpAny _ _ (pure (((sIx n 0 lo:Nat):Int),(1:Int),Builtin.Slice.slicePlaces ((sIx n 0 lo:Nat):Int) ((sIx n n hi:Nat):Int) 1)) _ _ s;rw[xg];exact wpAny_pure h
theorem Bn (xs:Array Value)(i k:Nat):((List.range k).filterMap fun(m:Nat)=>xs[((i:Int)+(m:Int)*1).toNat]?).toArray=((xs.toList.drop i).take k).toArray:=by
 have e:(fun(m:Nat)=>xs[((i:Int)+(m:Int)*1).toNat]?)=fun m=>xs[i+m]?:=by
  funext m;have:((i:Int)+(m:Int)*1).toNat=i+m:=by omega
  rw[this]
 rw[e];have:=pick_run xs i k;rw[List.filterMap_map] at this;have e2:((fun x=>xs[x]?) ∘ fun x=>i+x)=fun m=>xs[i+m]?:=rfl
 rw[e2] at this;rw[this]
theorem getItem_tuple_cut {t sl:Addr}{items:Array Value}{vl vu:Value}{lo hi:Option Int}(ht:IsTup s.heap t items)(hs:s.heap.IsSliceOf sl vl vu .none)(pl:IsPart vl lo)(pu:IsPart vu hi)
  (hw:¬(sIx items.size 0 lo=0∧sIx items.size items.size hi=items.size))
  (h:Q (.ref s.heap.objs.size) {s with heap:=s.heap.push {cls:=.type "tuple",data:=.seq ((items.toList.drop (sIx items.size 0 lo)).take (sIx items.size items.size hi-sIx items.size 0 lo)).toArray}})
  (hsz:items.size≤sizeLine):wpAny (model prog w) A (getItem (.ref t) (.ref sl)) Q E s:=by
 have htake:sizeOk (.seq ((items.toList.drop (sIx items.size 0 lo)).take (sIx items.size items.size hi-sIx items.size 0 lo)).toArray):=by
  show((items.toList.drop (sIx items.size 0 lo)).take (sIx items.size items.size hi-sIx items.size 0 lo)).toArray.size≤sizeLine;rw[List.size_toArray,List.length_take,List.length_drop,Array.length_toList];omega
 have hj:sIx items.size items.size hi≤items.size:=sIx_le _ _ (Nat.le_refl _) hi;obtain⟨os,hos,hcs,hds⟩:=id hs;have hTs:s.TypeIs (.ref sl) "slice":=⟨os,hos,hcs⟩;unfold getItem
 try with_reducible refine wpAny_holding ?_
 first|refine wpAny_bind (wpAny_pure ?_)|skip
 refine wpAny_bind (wpAny_sequenceKey ht.typeIs (by decide) ?_);refine wpAny_bind (wpAny_callSpecial?_slot (name:=Str.ofString "__getitem__") ht.typeIs PyProof.Rows.slot_tuple_getitem
  (wpAny_call_entry PyProof.Rows.slot_tuple_getitem ht.typeIs entry_tuple_getitem ?_ (args_tuple_getitem _ _)))
 show wpAny _ _ (Builtin.Tuple.tupleItemsOf (.ref t) >>= _) _ _ s;refine wpAny_bind (tupleItemsOf_ ht ?_);refine wpAny_bind (wpAny_typeOf hTs ?_);rw[if_pos (by decide)];refine wpAny_bind (sliceApplied_gen hs pl pu ?_);have hno:¬((((sIx items.size 0 lo:Nat):Int)==0&&(1:Int)==1&&(sIx items.size items.size hi-sIx items.size 0 lo)==items.size)=true):=by
  intro q;rw[Bool.and_eq_true,Bool.and_eq_true] at q;have q1:((sIx items.size 0 lo:Nat):Int)=0:=eq_of_beq q.1.1;have q2:sIx items.size items.size hi-sIx items.size 0 lo=items.size:=eq_of_beq q.2;exact hw ⟨by omega,by omega⟩
 show wpAny _ _ (if(((sIx items.size 0 lo:Nat):Int)==0&&(1:Int)==1&&(sIx items.size items.size hi-sIx items.size 0 lo)==items.size)=true then _ else _) _ _ s;rw[if_neg hno,Bn]
 first
  | exact wpAny_bind (m:=Builtin.Tuple.tupleExact _) (wpAny_newObj_type (wpAny_pure ⟨_,rfl,wpAny_pure h⟩) htake)
  | exact wpAny_bind (m:=Builtin.Tuple.tupleExact _) (wpAny_newObj_type (wpAny_bind (wpAny_pure (wpAny_pure ⟨_,rfl,wpAny_pure h⟩))) htake)
  | exact wpAny_bind (wpAny_bind (m:=Builtin.Tuple.tupleExact _) (wpAny_newObj_type (wpAny_pure (wpAny_pure ⟨_,rfl,wpAny_pure h⟩)) htake))
  | exact wpAny_bind (wpAny_bind (m:=Builtin.Tuple.tupleExact _) (wpAny_newObj_type (wpAny_pure ⟨_,rfl,wpAny_pure h⟩) htake))
end
end HT
namespace L2
open PySem PySem.Spec PyProof.Rows List
abbrev TO:=St→Hp→(Option Int→Hp→Prop)→Prop
def PO (X:Cx)(e:Option Expr)(t:TO):Prop:=
 ∀(ae:List (Addr×Obj)) (s:Shared) (σ:St) (H:Hp) (Q:Option Int→Hp→Prop),Inv X ae σ H s→t σ H Q→
  wpAny (model X.prog X.w) X.A (evalPart e X.env) (fun u s'=>∃o H',Inv X ae σ H' s'∧IsPart u o∧Q o H') X.xe s
def DU:TO:=fun _ H Q=>Q none H
def IT (t:TE):TO:=fun σ H Q=>t σ H fun x H1=>∃i,x=.int i∧Q (some i) H1
theorem xt {ns:List Int}:∀{us:List Value},aR (ns.map V.int) us→IntsAre us ns:=by
 induction ns with
 | nil=>intro us r;rw[map_nil] at r;cases r;exact .nil
 | cons n ns ih=>
  intro us r;rw[map_cons] at r;cases r with
  | cons r1 r2=>
   obtain⟨t,e⟩:=r1;subst e;exact .cons n t (ih r2)
variable{xs:List V}
section
variable {X:Cx}{e:Expr}{te:TE}{lo hi:Option Expr}{tl th:TO}{pos p2:Pos}
theorem Dh:PO X none DU:=by
 intro ae s σ H Q I h;rw[evalPart_none];exact wpAny_pure ⟨none,H,I,.none,h⟩
theorem DF (h:PE X e te):PO X (some e) (IT te):=by
 intro ae s σ H Q I hw;rw[evalPart_some];refine cb (h ae s σ H _ I hw) fun u s1 hxx=>?_
 obtain⟨x,H1,I1,r1,q1⟩:=hxx;obtain⟨i,rfl,q⟩:=q1;obtain⟨t,rfl⟩:=r1;exact⟨some i,H1,I1,.int i t,q⟩
def Jl (X:Cx)(r:V→Option Int→Option Int→Hp→VK→Prop):Prop:=
 ∀(ae:List (Addr×Obj)) (s:Shared) (σ:St) (H:Hp) (x:V) (v vl vu:Value) (lo hi:Option Int) (sl:Addr) (Q:VK),Inv X ae σ H s→aY x v→s.heap.IsSliceOf sl vl vu .none→IsPart vl lo→IsPart vu hi→r x lo hi H Q→
  ∃T id,typeLookup (.type T) "__getitem__"=pure (some (.builtin id))∧s.TypeIs v T∧wpAny (model X.prog X.w) X.A (getItem v (.ref sl)) (EP X ae σ Q) X.xe s
def MB (r:V→Option Int→Option Int→Hp→VK→Prop)(te:TE)(tl th:TO):TE:=fun σ H Q=>te σ H fun x H1=>tl σ H1 fun l H2=>th σ H2 fun u H3=>r x l u H3 Q
theorem vG {r:V→Option Int→Option Int→Hp→VK→Prop}(hr:Jl X r)(he:PE X e te)(hl:PO X lo tl)(hu:PO X hi th):PE X (.Subscript e (.Slice lo hi none p2) pos) (MB r te tl th):=by
 intro ae s σ H Q I h;refine Subscript_ (cb (he ae s σ H _ I h) fun v s1 hxx=>?_);obtain⟨x,H1,I1,r1,q1⟩:=hxx;refine wpAny_Slice (cb (hl ae s1 σ H1 _ I1 q1) fun vl s2 ⟨l,H2,I2,pl,q2⟩=>cb (hu ae s2 σ H2 _ I2 q2) fun vu s3 hxx=>?_);obtain⟨u,H3,I3,pu,q3⟩:=hxx;rw[evalPart_none];refine wpAny_pure ?_;have I4:Inv X ae σ H3 {s3 with heap:=s3.heap.push {cls:=.type "slice",data:=.fields #[vl,vu,.none]}}:=I3.kept (t':=s3.toks) fun b ob q=>Heap.get?_push_of_some _ q
 obtain⟨T,id,hT,ht,hg⟩:=hr ae {s3 with heap:=s3.heap.push {cls:=.type "slice",data:=.fields #[vl,vu,.none]}} σ H3 x v vl vu l u s3.heap.objs.size Q I4 r1 (Heap.IsSliceOf.new ..) pl pu q3;show wpAny (model X.prog X.w) X.A (subscriptTail e (.Slice lo hi none p2) v (.ref s3.heap.objs.size)) (EP X ae σ Q) X.xe {s3 with heap:=s3.heap.push {cls:=.type "slice",data:=.fields #[vl,vu,.none]}};exact tail_any (ops:=[.ref s3.heap.objs.size,v]) ht hT hg (by with_unfolding_all rfl)
def u7 (xs:List V)(lo hi:Option Int):List V:=(xs.drop (HT.sIx xs.length 0 lo)).take (HT.sIx xs.length xs.length hi-HT.sIx xs.length 0 lo)
theorem nA (xs:List V)(lo hi:Option Int):(u7 xs lo hi).length≤xs.length:=by
 unfold u7;rw[length_take,length_drop];omega
def Ly (K:W.Frag):V→Option Int→Option Int→Hp→VK→Prop:=fun x lo hi H Q=>∃a xs,x=.ref a∧pP K H a xs∧
 ¬(HT.sIx xs.length 0 lo=0∧HT.sIx xs.length xs.length hi=xs.length)∧∀p,H p=none→Q (.ref p) (cA H p (.tup (u7 xs lo hi)))
theorem F1:Jl X (Ly X.K):=by
 intro ae s σ H x v vl vu lo hi sl Q I rx hs pl pu h;obtain⟨a,xs,rfl,hx,hw,q⟩:=h;cases rx;obtain⟨its,r,ht,hz⟩:=I.tuple hx;have hlen:its.toArray.size=xs.length:=by rw[size_toArray];exact r.length.symm
 refine⟨"tuple",_,PyProof.Rows.slot_tuple_getitem.lookup,ht.typeIs,?_⟩;refine HT.getItem_tuple_cut ht hs pl pu (by rw[hlen];exact hw) ?_ (by rw[hlen];exact hz);rw[hlen];refine⟨.ref s.heap.objs.size,_,I.laid (t':=s.toks) (o:=.tup (u7 xs lo hi)) (fun b ob q=>Heap.get?_push_of_some _ q) (Nat.le_refl _) ?_,rfl,q _ (I.hok.fresh (Nat.le_refl _))⟩;exact⟨Nat.le_trans (nA xs lo hi) hz,_,(r.drop (HT.sIx xs.length 0 lo)).take (HT.sIx xs.length xs.length hi-HT.sIx xs.length 0 lo),IsTup.new _ _⟩
def IW (K:W.Frag):R2:=fun x y H Q=>∃a b xs ys,x=.ref a∧y=.ref b∧pP K H a xs∧pP K H b ys∧xs≠[]∧xs.length+ys.length≤sizeLine∧
 (ys=[]→Q (.ref a) H)∧(ys≠[]→∀p,H p=none→Q (.ref p) (cA H p (.tup (xs++ys))))
theorem aR.nil_iff {us:List Value}(r:aR xs us):us=[]↔xs=[]:=by
 cases r with
 | nil=>simp
 | cons _ _=>simp
theorem C6:fo X (binaryOp .Add) (IW X.K):=by
 intro ae s σ H x y v u Q I rx ry h;obtain⟨a,b,xs,ys,rfl,rfl,ha,hb,hx,hz,q1,q2⟩:=h;cases rx;cases ry;obtain⟨its,r1,p1,_⟩:=I.tuple ha;obtain⟨its2,r2,p2,_⟩:=I.tuple hb;refine HT.cat_tup p1 p2 (fun z=>hx (r1.nil_iff.mp z)) (fun z=>⟨.ref a,H,I,rfl,q1 (r2.nil_iff.mp z)⟩) (fun z=>?_) (by rw[←r1.length,←r2.length];exact hz);refine⟨.ref s.heap.objs.size,_,I.laid (t':=s.toks) (o:=.tup (xs++ys)) (fun b ob q=>Heap.get?_push_of_some _ q) (Nat.le_refl _) ?_,rfl,q2 (fun w=>z (r2.nil_iff.mpr w)) _ (I.hok.fresh (Nat.le_refl _))⟩;exact⟨by rw[length_append];exact hz,_,r1.append r2,IsTup.new _ _⟩
end
def Dj (n:Nat)(i:Int):Option Nat:=if 0≤i then(if i<n then some i.toNat else none) else if -(n:Int)≤i then some (i+n).toNat else none
def oj {α:Type}(xs:List α)(i:Int):Option α:=(Dj xs.length i).bind fun j=>xs[j]?
theorem xV {n:Nat}{i:Int}{j:Nat}(h:Dj n i=some j):seqIndex? i n=some j∧j<n∧-(n:Int)≤i∧i<n:=by
 unfold Dj at h
 by_cases h0:0≤i
 ·rw[if_pos h0] at h
  by_cases h1:i<n
  ·rw[if_pos h1] at h;have e:i.toNat=j:=Option.some.inj h;exact⟨by rw[seqIndex_of h0 h1,e],by omega,by omega,h1⟩
  ·rw[if_neg h1] at h;cases h
 ·rw[if_neg h0] at h
  by_cases h1:-(n:Int)≤i
  ·rw[if_pos h1] at h;have e:(i+n).toNat=j:=Option.some.inj h;exact⟨by rw[seqIndex_neg (by omega) h1,e],by omega,h1,by omega⟩
  ·rw[if_neg h1] at h;cases h
theorem sJ {α:Type}{xs:List α}{i:Int}{v:α}(h:oj xs i=some v):∃j,seqIndex? i xs.length=some j∧xs[j]?=some v∧j<xs.length∧-(xs.length:Int)≤i∧i<xs.length:=by
 unfold oj at h;cases e:Dj xs.length i with
 | none=>rw[e] at h;cases h
 | some j=>
  rw[e] at h;obtain⟨h1,h2,h3,h4⟩:=xV e;exact⟨j,h1,h,h2,h3,h4⟩
theorem ot {α:Type}{xs:List α}{j:Nat}{v:α}(h:xs[j]?=some v):oj xs (j:Int)=some v:=by
 have hj:j<xs.length:=(List.getElem?_eq_some_iff.mp h).1;have e:Dj xs.length (j:Int)=some j:=by
  unfold Dj;rw[if_pos (by omega),if_pos (by omega)];simp
 unfold oj;rw[e];exact h
def mD (b:Expr):Prop:=∀o i,subscripted b false o i=operate [o,i] (getItem o i)
def HR (X:Cx)(r:R2):Prop:=
 ∀(value slice:Expr) (ae:List (Addr×Obj)) (s:Shared) (σ:St) (H:Hp) (x y:V) (v u:Value) (Q:VK),Inv X ae σ H s→aY x v→aY y u→r x y H Q→
  subscripted slice false v u=operate [v,u] (getItem v u)→wpAny (model X.prog X.w) X.A (subscriptTail value slice v u) (EP X ae σ Q) X.xe s
def Ig (X:Cx)(id:String)(r:V→List V→Hp→VK→Prop):Prop:=
 ∀(ae:List (Addr×Obj)) (s:Shared) (σ:St) (H:Hp) (x:V) (xs:List V) (v:Value) (us:List Value) (Q:VK),Inv X ae σ H s→aY x v→aR xs us→r x xs H Q→
  wpAny (model X.prog X.w) X.A (call (.builtin id) (v::us)) (EP X ae σ Q) X.xe s
variable{ae:List (Addr×Obj)}{σ:St}{H:Hp}{s:Shared}
section
variable {X:Cx}{a b:Expr}{ta tb:TE}{pos:Pos}
theorem Ez {r:R2}(hr:HR X r)(ha:PE X a ta)(hb:PE X b tb)(hs:mD b):PE X (.Subscript a b pos) (IE r ta tb):=by
 intro ae s σ H Q I h;exact Subscript_ (Hl ha hb I h fun v u s2 x y H2 I2 rx ry q=>hr a b ae s2 σ H2 x y v u Q I2 rx ry q (hs _ _))
def Lp (K:W.Frag):R2:=fun x y H Q=>∃p xs i v,x=.ref p∧y=.int i∧m3 K H p xs∧oj xs i=some v∧Q v H
def KO (K:W.Frag):R2:=fun x y H Q=>∃p xs i v,x=.ref p∧y=.int i∧pP K H p xs∧oj xs i=some v∧Q v H
def KR:R2:=fun x y H Q=>∃z i c,x=.str z∧y=.int i∧z.length≤sizeLine∧oj z.cps.toList i=some c∧Q (.str ⟨#[c]⟩) H
theorem Dk:HR X (Lp X.K):=by
 intro value slice ae s σ H x y v u Q I rx ry h hs;obtain⟨p,xs,i,z,rfl,rfl,hq,he,q⟩:=h;cases rx;obtain⟨t,rfl⟩:=ry;obtain⟨its,r,pl,hz⟩:=I.list hq;obtain⟨j,h1,h2,h3,h4,h5⟩:=sJ he;obtain⟨w,ew,rw'⟩:=r.get h2;have hl:=r.length;have hn:=lh;have fin:EP X ae σ Q w s:=⟨z,H,I,rw',q⟩
 by_cases h0:0≤i
 ·have hj:i.toNat=j:=by
   rw[seqIndex_of h0 h5] at h1;exact Option.some.inj h1
  exact item_listR pl.isList h0 (by omega) (by rw[hj];simpa using ew) fin hs
 ·have hj:(i+(its.toArray.size:Int)).toNat=j:=by
   rw[seqIndex_neg (by omega) h4] at h1;rw[size_toArray,←hl];exact Option.some.inj h1
  exact subscriptTail_builtinR (x:=w) pl.isList.typeIs slot_list_getitem.lookup
   (wpAny_getItem_list_neg (Q:=fun r s'=>r=w∧EP X ae σ Q r s') pl.isList (by omega) (by rw[size_toArray] <;> omega) (by omega) (by rw[hj];simpa using ew) ⟨rfl,fin⟩) hs
theorem GJ:HR X (KO X.K):=by
 intro value slice ae s σ H x y v u Q I rx ry h hs;obtain⟨p,xs,i,z,rfl,rfl,hq,he,q⟩:=h;cases rx;obtain⟨t,rfl⟩:=ry;obtain⟨its,r,pl,hz⟩:=I.tuple hq;obtain⟨j,h1,h2,h3,h4,h5⟩:=sJ he;obtain⟨w,ew,rw'⟩:=r.get h2;have hl:=r.length;have hn:=lh;have fin:EP X ae σ Q w s:=⟨z,H,I,rw',q⟩;exact subscriptTail_builtinR (x:=w) pl.typeIs slot_tuple_getitem.lookup
  (getItem_tuple (j:=j) (Q:=fun r s'=>r=w∧EP X ae σ Q r s') pl (by omega) (by omega) (by rw[size_toArray,←hl];exact h1) (by simpa using ew) ⟨rfl,fin⟩) hs
theorem Gq:HR X KR:=by
 intro value slice ae s σ H x y v u Q I rx ry h hs;obtain⟨z,i,c,rfl,rfl,hz,he,q⟩:=h;obtain⟨t,rfl⟩:=rx;obtain⟨t',rfl⟩:=ry;obtain⟨j,h1,h2,h3,h4,h5⟩:=sJ he;have hl:z.cps.toList.length=z.length:=by simp[Str.length]
 rw[hl] at h1 h4 h5;have hn:=lh;exact tail_any (typeIs_str s z t) slot_str_getitem.lookup (getItem_str (c:=c) (by
  have e1:decide (i < -(2 ^ 63:Int))=false:=decide_eq_false (by omega);have e2:decide (i≥2 ^ 63)=false:=decide_eq_false (by omega);rw[e1,e2,Bool.or_false]) (by rw[h1];simpa using h2) ⟨.str ⟨#[c]⟩,H,I.tok _,⟨_,rfl⟩,q⟩) hs
theorem wG (its:List Value)(n j:Nat)(u:Value):Obj.mapSeq (·.setIfInBounds j u) {cls:=.type "list",data:=.seq its.toArray n}={cls:=.type "list",data:=.seq (its.set j u).toArray n}:=by
 simp[Obj.mapSeq]
theorem Inv.lst {p:Addr}(I:Inv X ae σ H s)(h:H p=some (.lst xs)) :
  ∃(its:List Value) (n:Nat),aR xs its∧s.heap.get? p=some {cls:=.type "list",data:=.seq its.toArray n}∧xs.length≤sizeLine:=by
 obtain⟨z,its,n,r,e⟩:=I.hok p _ h;exact⟨its,n,r,e,z⟩
theorem Inv.lstUpd {p:Addr}{ys:List V}{its its':List Value}{n n':Nat}{f:Obj→Obj}(I:Inv X ae σ H s)(h:H p=some (.lst xs))
  (ho:s.heap.get? p=some {cls:=.type "list",data:=.seq its.toArray n}) (hf:f {cls:=.type "list",data:=.seq its.toArray n}={cls:=.type "list",data:=.seq its'.toArray n'}) (r:aR ys its') (hz:ys.length≤sizeLine) (t:Nat) :
  Inv X ae σ (cA H p (.lst ys)) {s with heap:=s.heap.update p f,toks:=t}:=by
 have e:(s.heap.update p f).get? p=some {cls:=.type "list",data:=.seq its'.toArray n'}:=by
  rw[Heap.get?_update_self f ho (by rw[hf] <;> rfl),hf]
 refine I.write (x:=p) (e:=p) (by rw[h];trivial) (.inl rfl) (fun b u hb q=>(Heap.get?_update_other _ _ (Ne.symm hb)).trans q) ⟨_,e⟩ ?_;exact⟨hz,its',n',r,e⟩
def IA:V→V→V→Hp→(Hp→Prop)→Prop:=fun o i v H Q=>∃p xs k j,o=.ref p∧i=.int k∧H p=some (.lst xs)∧Dj xs.length k=some j∧Q (cA H p (.lst (xs.set j v)))
theorem B0:J3 X IA:=by
 intro ae s σ H o i v ov iv u Q I ro ri rv h;obtain⟨p,xs,k,j,rfl,rfl,hp,hj,q⟩:=h;cases ro;obtain⟨t,rfl⟩:=ri;obtain⟨its,n,r,ho,hz⟩:=I.lst hp;obtain⟨h1,h2,h3,h4⟩:=xV hj;have hl:=r.length;have hn:=lh;have I':Inv X ae σ (cA H p (.lst (xs.set j v))) {s with heap:=s.heap.update p (Obj.mapSeq (·.setIfInBounds j u))}:=
  I.lstUpd hp ho (wG its n j u) (r.set rv j) (by rw[length_set];exact hz) s.toks
 by_cases h0:0≤k
 ·have hk:k.toNat=j:=by
   rw[seqIndex_of h0 h4] at h1;exact Option.some.inj h1
  exact W.ki_setAt ho h0 (by omega) (by rw[size_toArray,←hl];exact h4) (by rw[hk];exact⟨_,I',q⟩)
 ·have hk:(k+(its.toArray.size:Int)).toNat=j:=by
   rw[seqIndex_neg (by omega) h3] at h1;rw[size_toArray,←hl];exact Option.some.inj h1
  exact W.ki_setBack ho (by omega) (by rw[size_toArray,←hl];exact h3) (by omega) (by rw[hk];exact⟨_,I',q⟩)
theorem tP (lo hi:Option Int)(n:Nat):(sliceBounds lo hi none n).1=((HT.sIx n 0 lo:Nat):Int)∧(sliceBounds lo hi none n).2.1=((HT.sIx n n hi:Nat):Int)∧(sliceBounds lo hi none n).2.2=1:=by
 refine⟨?_,?_,rfl⟩
 ·cases lo with
  | none=>simp[sliceBounds,HT.sIx]
  | some i=>
   simp only[sliceBounds,HT.sIx,Option.getD_none,show(1:Int)>0 by decide,if_true]
   by_cases h:i<0
   ·simp only[h,if_true] <;> omega
   ·simp only[h,if_false] <;> omega
 ·cases hi with
  | none=>simp[sliceBounds,HT.sIx]
  | some i=>
   simp only[sliceBounds,HT.sIx,Option.getD_none,show(1:Int)>0 by decide,if_true]
   by_cases h:i<0
   ·simp only[h,if_true] <;> omega
   ·simp only[h,if_false] <;> omega
theorem pX (its:List Value)(lo hi:Option Int):slicePick its.toArray lo hi none=((its.drop (HT.sIx its.length 0 lo)).take (HT.sIx its.length its.length hi-HT.sIx its.length 0 lo)).toArray:=by
 obtain⟨h1,h2,h3⟩:=tP lo hi its.toArray.size;unfold slicePick;rw[h1,h2,h3];simp only[sliceRange_one,pick_run,size_toArray] <;> rfl
def Ld (K:W.Frag):V→Option Int→Option Int→Hp→VK→Prop:=fun x lo hi H Q=>∃a xs,x=.ref a∧m3 K H a xs∧∀p,H p=none→Q (.ref p) (cA H p (.lst (u7 xs lo hi)))
theorem sG:Jl X (Ld X.K):=by
 intro ae s σ H x v vl vu lo hi sl Q I rx hs pl pu h;obtain⟨a,xs,rfl,hx,q⟩:=h;cases rx;obtain⟨its,r,ht,hz⟩:=I.list hx;have hlen:=r.length;refine⟨"list",_,slot_list_getitem.lookup,ht.isList.typeIs,?_⟩;refine wpAny_getItem_list_slice ht.isList hs pl pu .none (by simp) ?_ (by rw[size_toArray] <;> omega);rw[pX,←hlen];refine⟨.ref s.heap.objs.size,_,I.laid (t':=s.toks) (o:=.lst (u7 xs lo hi)) (fun b ob q=>Heap.get?_push_of_some _ q) (Nat.le_refl _) ?_,rfl,q _ (I.hok.fresh (Nat.le_refl _))⟩;exact⟨Nat.le_trans (nA xs lo hi) hz,_,0,(r.drop (HT.sIx xs.length 0 lo)).take (HT.sIx xs.length xs.length hi-HT.sIx xs.length 0 lo),Heap.get?_push_size _ rfl⟩
def kT:V→Bool
 | .non=>true
 | .bl _=>true
 | .int _=>true
 | .str _=>true
 | _=>false
def CU:V→V→Bool
 | .non,.non=>true
 | .bl a,.bl b=>a==b
 | .bl a,.int b=>(if a then 1 else 0)==b
 | .int a,.bl b=>a==(if b then 1 else 0)
 | .int a,.int b=>a==b
 | .str a,.str b=>a==b
 | _,_=>false
theorem F8 {A:Around}{y x:V}{u v:Value}(ry:aY y u)(rx:aY x v)(fy:kT y=true)(fx:kT x=true):SeqAt.EqAt A s u v (CU y x):=by
 cases y with
 | non=>
  cases ry;cases x with
  | non=>cases rx;exact SeqAt.EqAt.same _
  | bl b=>cases rx;exact SeqAt.EqAt.none_bool b
  | int b=>obtain⟨t,rfl⟩:=rx;exact SeqAt.EqAt.none_int b t
  | str b=>obtain⟨t,rfl⟩:=rx;exact SeqAt.EqAt.none_str b t
  | _=>exact absurd (show false=true from fx) Bool.false_ne_true
 | bl a=>
  cases ry;cases x with
  | non=>cases rx;exact SeqAt.EqAt.bool_none a
  | bl b=>cases rx;exact SeqAt.EqAt.bool_bool a b
  | int b=>obtain⟨t,rfl⟩:=rx;exact SeqAt.EqAt.bool_int a b t
  | str b=>obtain⟨t,rfl⟩:=rx;exact SeqAt.EqAt.bool_str a b t
  | _=>exact absurd (show false=true from fx) Bool.false_ne_true
 | int a=>
  obtain⟨t',rfl⟩:=ry;cases x with
  | non=>cases rx;exact SeqAt.EqAt.int_none a t'
  | bl b=>cases rx;exact SeqAt.EqAt.int_bool a t' b
  | int b=>obtain⟨t,rfl⟩:=rx;exact SeqAt.EqAt.int_int a t' b t
  | str b=>obtain⟨t,rfl⟩:=rx;exact SeqAt.EqAt.int_str a t' b t
  | _=>exact absurd (show false=true from fx) Bool.false_ne_true
 | str a=>
  obtain⟨t',rfl⟩:=ry;cases x with
  | non=>cases rx;exact SeqAt.EqAt.str_none a t'
  | bl b=>cases rx;exact SeqAt.EqAt.str_bool a t' b
  | int b=>obtain⟨t,rfl⟩:=rx;exact SeqAt.EqAt.str_int a t' b t
  | str b=>obtain⟨t,rfl⟩:=rx;exact SeqAt.EqAt.str_str a t' b t
  | _=>exact absurd (show false=true from fx) Bool.false_ne_true
 | _=>exact absurd (show false=true from fy) Bool.false_ne_true
def xl (x:V)(u:Value):Bool:=match u with
 | .none=>CU .non x
 | .bool b=>CU (.bl b) x
 | .int i _=>CU (.int i) x
 | .str z _=>CU (.str z) x
 | _=>false
theorem AH {x y:V}{u:Value}(r:aY y u)(f:kT y=true):xl x u=CU y x:=by
 cases y with
 | non=>cases r;rfl
 | bl b=>cases r;rfl
 | int i=>obtain⟨t,rfl⟩:=r;rfl
 | str z=>obtain⟨t,rfl⟩:=r;rfl
 | _=>exact absurd (show false=true from f) Bool.false_ne_true
theorem mx {x:V}:∀{xs:List V} {us:List Value},aR xs us→xs.all kT=true→us.any (xl x)=xs.any fun y=>CU y x
 | _,_,.nil,_=>rfl
 | y::xs,u::us,.cons r t,f=>by
  rw[all_cons,Bool.and_eq_true] at f;rw[any_cons,any_cons,AH r f.1,mx t f.2]
theorem jQ {A:Around}{s:Shared}{x:V}{v:Value}(rx:aY x v)(fx:kT x=true):∀{xs:List V} {us:List Value},aR xs us→xs.all kT=true→∀u∈us,SeqAt.EqAt A s u v (xl x u)
 | _,_,.nil,_=>fun u hu=>by cases hu
 | y::xs,u::us,.cons r t,f=>fun u' hu=>by
  rw[all_cons,Bool.and_eq_true] at f;rcases mem_cons.mp hu with rfl|hu
  ·rw[AH r f.1];exact F8 r rx f.1 fx
  ·exact jQ rx fx t f.2 u' hu
def Kx (x:V)(xs:List V):Bool:=xs.any fun y=>CU y x
def Md (K:W.Frag)(neg:Bool):R2:=fun x y H Q=>∃p xs,y=.ref p∧(m3 K H p xs∨pP K H p xs)∧kT x=true∧xs.all kT=true∧Q (.bl (if neg then !Kx x xs else Kx x xs)) H
theorem zK:fo X (compareOp .In) (Md X.K false):=by
 intro ae s σ H x y v u Q I rx ry h;obtain⟨p,xs,rfl,hq,fx,fs,q⟩:=h;cases ry;rcases hq with hq|hq
 ·obtain⟨its,r,pl,hz⟩:=I.list hq;refine SeqAt.in_listAt (xl x) pl.isList (fun w hw=>jQ rx fx r fs w (by simpa using hw)) ⟨.bl _,H,I,rfl,?_⟩;rw[show its.toArray.any (xl x)=its.any (xl x) by simp,mx r fs];exact q
 ·obtain⟨its,r,pl,hz⟩:=I.tuple hq;refine SeqAt.in_tupleAt (xl x) pl (fun w hw=>jQ rx fx r fs w (by simpa using hw)) ⟨.bl _,H,I,rfl,?_⟩;rw[show its.toArray.any (xl x)=its.any (xl x) by simp,mx r fs];exact q
theorem sw:fo X (compareOp .NotIn) (Md X.K true):=by
 intro ae s σ H x y v u Q I rx ry h;obtain⟨p,xs,rfl,hq,fx,fs,q⟩:=h;cases ry;rcases hq with hq|hq
 ·obtain⟨its,r,pl,hz⟩:=I.list hq;refine SeqAt.notIn_listAt (xl x) pl.isList (fun w hw=>jQ rx fx r fs w (by simpa using hw)) ⟨.bl _,H,I,rfl,?_⟩;rw[show its.toArray.any (xl x)=its.any (xl x) by simp,mx r fs];exact q
 ·obtain⟨its,r,pl,hz⟩:=I.tuple hq;refine SeqAt.notIn_tupleAt (xl x) pl (fun w hw=>jQ rx fx r fs w (by simpa using hw)) ⟨.bl _,H,I,rfl,?_⟩;rw[show its.toArray.any (xl x)=its.any (xl x) by simp,mx r fs];exact q
theorem sU:cV X (.builtin "len") (fun xs H Q=>∃p ys,xs=[.ref p]∧(m3 X.K H p ys∨pP X.K H p ys)∧Q (.int ys.length) H):=by
 intro ae s σ H xs us Q I r h;obtain⟨p,ys,rfl,hq,q⟩:=h;obtain⟨u,rfl,rx⟩:=iA r;cases rx;have hn:=lh;rcases hq with hq|hq
 ·obtain⟨its,r',pl,hz⟩:=I.list hq;have hlen:=r'.length;exact Calls.call_len_list pl.isList (by simp only[size_toArray] <;> omega) ⟨.int ys.length,H,I.tok _,⟨s.toks+1,by rw[size_toArray,hlen]⟩,q⟩
 ·obtain⟨its,r',pl,hz⟩:=I.tuple hq;have hlen:=r'.length;exact len_tuple pl (by simp only[size_toArray] <;> omega) ⟨.int ys.length,H,I.tok _,⟨s.toks+1,by rw[size_toArray,hlen]⟩,q⟩
theorem sW:cV X (.builtin "len") (fun xs H Q=>∃z,xs=[.str z]∧z.length≤sizeLine∧Q (.int z.length) H):=by
 intro ae s σ H xs us Q I r h;obtain⟨z,rfl,hz,q⟩:=h;obtain⟨u,rfl,t,rfl⟩:=iA r;have hn:=lh;exact len_str (by omega) ⟨.int z.length,H,I.tok _,⟨_,rfl⟩,q⟩
theorem uF:cV X (.type "list") (fun xs H Q=>∃p ys,xs=[.ref p]∧(m3 X.K H p ys∨pP X.K H p ys)∧∀l,H l=none→Q (.ref l) (cA H l (.lst ys))):=by
 intro ae s σ H xs us Q I r h;obtain⟨p,ys,rfl,hq,q⟩:=h;obtain⟨u,rfl,rx⟩:=iA r;cases rx;have fin:∀(its:List Value),aR ys its→ys.length≤sizeLine→∀(h':Heap) (c':Nat),(∀b o',s.heap.get? b=some o'→h'.get? b=some o')→
   h'.get? s.heap.objs.size=some {cls:=.type "list",dict:=none,data:=.seq its.toArray c',slots:=#[]}→EP X ae σ Q (.ref s.heap.objs.size) {s with heap:=h'}:=fun its r' hz h' c' kp e=>
  ⟨.ref s.heap.objs.size,_,I.laid (t':=s.toks) kp (Nat.le_refl _) (show cO X.prog X.w _ h' _ (.lst ys) from⟨hz,its,c',r',e⟩),rfl,q _ (I.hok.fresh (Nat.le_refl _))⟩
 rcases hq with hq|hq
 ·obtain⟨its,r',pl,hz⟩:=I.list hq;have hlen:=r'.length;obtain⟨o,ho,hc,n,hd⟩:=pl.isList;exact call_list_seq p (.inl rfl) ho hc hd (fun h' c' kp e=>fin its r' hz h' c' kp e) (by simp only[size_toArray] <;> omega)
 ·obtain⟨its,r',pl,hz⟩:=I.tuple hq;have hlen:=r'.length;obtain⟨o,ho,hc,n,hd⟩:=pl;exact call_list_seq p (.inr rfl) ho hc hd (fun h' c' kp e=>fin its r' hz h' c' kp e) (by simp only[size_toArray] <;> omega)
theorem fD:cV X (.type "tuple") (fun xs H Q=>∃p ys,xs=[.ref p]∧((m3 X.K H p ys∧∀l,H l=none→Q (.ref l) (cA H l (.tup ys)))∨(pP X.K H p ys∧Q (.ref p) H))):=by
 intro ae s σ H xs us Q I r h;obtain⟨p,ys,rfl,h⟩:=h;obtain⟨u,rfl,rx⟩:=iA r;cases rx;rcases h with⟨hq,q⟩|⟨hq,q⟩
 ·obtain⟨its,r',pl,hz⟩:=I.list hq;have hlen:=r'.length;refine call_tuple_list pl.isList (fun h' kp=>?_) (by simp only[size_toArray] <;> omega);have I1:Inv X ae σ H {s with heap:=h'}:=I.kept (t':=s.toks) kp;have I2:Inv X ae σ (cA H h'.objs.size (.tup ys)) {s with heap:=h'.push {cls:=.type "tuple",data:=.seq its.toArray}}:=
   I1.laid (t':=s.toks) (fun b o e=>Heap.get?_push_of_some _ e) (Nat.le_refl _) (show cO X.prog X.w _ _ _ (.tup ys) from⟨hz,its,r',IsTup.new _ _⟩)
  exact⟨.ref h'.objs.size,_,I2,rfl,q _ (I1.hok.fresh (Nat.le_refl _))⟩
 ·obtain⟨its,r',pl,hz⟩:=I.tuple hq;exact call_tuple_same pl ⟨.ref p,H,I,rfl,q⟩
def LW (K:W.Frag)(T:String)(x:V)(H:Hp):Prop:=match x with
 | .str _=>T="str"
 | .int _=>T="int"
 | .ref p=>(T="list"∧∃xs,m3 K H p xs)∨(T="tuple"∧∃o,K.lookup p=some o∧o.cls=.type "tuple"∧o.dict=none)∨
   (T="dict"∧((∃kvs,H p=some (.dK kvs))∨∃kvs,H p=some (.dT kvs)))∨(T="set"∧∃S n,H p=some (.set S n))
 | _=>False
theorem AK {T:String}{x:V}{v:Value}(I:Inv X ae σ H s)(r:aY x v)(ty:LW X.K T x H) :
  s.TypeIs v T∧∀a,v=.ref a→∃ob,s.heap.get? a=some ob∧ob.dict=none:=by
 cases x with
 | str z=>
  obtain⟨t,rfl⟩:=r;cases (show T="str" from ty);exact⟨typeIs_str s z t,fun _ e=>nomatch e⟩
 | int i=>
  obtain⟨t,rfl⟩:=r;cases (show T="int" from ty);exact⟨typeIs_int s i t,fun _ e=>nomatch e⟩
 | ref p=>
  cases r;rcases ty with⟨rfl,xs,hq⟩|⟨rfl,o,hk,hc,hd⟩|⟨rfl,hk⟩|⟨rfl,S,n,hk⟩
  ·obtain⟨its,_,pl,_⟩:=I.list hq;refine⟨pl.isList.typeIs,fun a e=>?_⟩;cases e;obtain⟨o,n,e,c,hd,_⟩:=pl;exact⟨o,e,hd⟩
  ·refine⟨⟨o,I.kIn p o hk,hc⟩,fun a e=>?_⟩;cases e;exact⟨o,I.kIn _ o hk,hd⟩
  ·have z:∃o,s.heap.get? p=some o∧o.ExactDict:=by
    rcases hk with⟨kvs,hk⟩|⟨kvs,hk⟩
    ·obtain⟨_,_,_,_,o,_,_,e,ex,_⟩:=I.hok p _ hk;exact⟨o,e,ex⟩
    ·obtain⟨_,_,_,_,o,_,_,e,ex,_⟩:=I.hok p _ hk;exact⟨o,e,ex⟩
   obtain⟨o,e,ex⟩:=z;refine⟨⟨o,e,ex.1⟩,fun a e2=>?_⟩;cases e2;exact⟨o,e,ex.2.1⟩
  ·obtain⟨o,_,_,_,e,ex,_⟩:=I.hok p _ hk;refine⟨⟨o,e,ex.1⟩,fun a e2=>?_⟩;cases e2;exact⟨o,e,ex.2.1⟩
 | _=>exact False.elim ty
def LC (K:W.Frag)(T:String)(r:V→List V→Hp→VK→Prop)(to:TE):TE:=fun σ H Q=>to σ H fun x H1=>LW K T x H1∧r x [] H1 Q
def Mc (K:W.Frag)(T:String)(r:V→List V→Hp→VK→Prop)(to:TE)(t:TA):TE:=fun σ H Q=>to σ H fun x H1=>LW K T x H1∧t σ H1 fun xs H2=>r x xs H2 Q
variable {o e:Expr}{es:List Expr}{to:TE}{t:TA}{name:Str}{apos cpos:Pos}{T id:String}{r:V→List V→Hp→VK→Prop}
theorem FO (pa:PlainAttrs T)(slot:Slot T name id)(hty:typeOf (.builtin id)=pure (.type "method_descriptor"))(hm:Ig X id r)(ho:PE X o to)
  (hbase:attributeBase o name X.env (eval o X.env)=eval o X.env:=by rfl) (hline:(apos.endLine==cpos.line)=true:=by rfl):PE X (.Call (.Attribute o name apos) [] [] cpos) (LC X.K T r to):=by
 intro ae s σ H Q I h;refine wpAny_Call_method0_late hbase hline (cb (ho ae s σ H _ I h) fun v s1 hxx=>?_);obtain⟨x,H1,I1,r1,ty,q1⟩:=hxx;obtain⟨h1,h2⟩:=AK I1 r1 ty;exact⟨T,id,pa,slot,hty,h1,h2,Calls.callWith_builtin rfl (PySem.evalArgs_none (hm ae s1 σ H1 x [] v [] Q I1 r1 .nil q1))⟩
theorem wa (pa:PlainAttrs T)(slot:Slot T name id)(hty:typeOf (.builtin id)=pure (.type "method_descriptor"))(hm:Ig X id r)(ho:PE X o to)(ha:PA X (e::es) t)
  (hbase:attributeBase o name X.env (eval o X.env)=eval o X.env:=by rfl)
  (hfew:((backTo cpos (starEach (e::es) X.env)).all (fun x=>!x.1)&&(backToKw cpos (keywordEach [] X.env)).all (fun x=>x.1.isSome)
   && decide ((e::es).length+([]:List Keyword).length+(if([]:List Keyword).isEmpty then 0 else 1)<30))=true:=by rfl)
  (hline:(apos.endLine==cpos.line)=true:=by rfl) (hs:starEach (e::es) X.env=(false,eval e X.env)::starEach es X.env:=by rfl) (hplain:(backTo cpos (starEach es X.env)).any (·.1)=false:=by rfl) :
  PE X (.Call (.Attribute o name apos) (e::es) [] cpos) (Mc X.K T r to t):=by
 intro ae s σ H Q I h;refine wpAny_Call_method_late hbase hfew hline rfl (cb (ho ae s σ H _ I h) fun v s1 hxx=>?_);obtain⟨x,H1,I1,r1,ty,q1⟩:=hxx;obtain⟨h1,h2⟩:=AK I1 r1 ty;refine⟨T,id,pa,slot,hty,h1,h2,?_⟩;have hA:=ha cpos ae s1 σ H1 _ I1 q1;rw[hs] at hA ⊢;refine Calls.callWith_builtin (by show(false||(backTo cpos (starEach es X.env)).any (·.1))=false;rw[hplain] <;> rfl) (Calls.evalArgs_plain ?_);exact cb hA fun us s2 ⟨vs,H2,I2,r2,q2⟩=>hm ae s2 σ H2 x vs v us Q I2 r1 r2 q2
end
def Ml (X:Cx)(id:String)(r:V→List V→Hp→VK→Prop):Prop:=
 ∀(ae:List (Addr×Obj)) (s:Shared) (σ:St) (H:Hp) (x:V) (xs:List V) (v:Value) (us:List Value) (Q:VK),Inv X ae σ H s→aY x v→aR xs us→r x xs H Q→
  wpAny (model X.prog X.w) X.A (call (.builtin id) (v::us)) (EP X ae σ Q) X.xe s
theorem aR.one:∀{x:V} {us:List Value},aR [x] us→∃u,us=[u]∧aY x u
 | _,_,.cons r .nil=>⟨_,rfl,r⟩
theorem aR.zero:∀{us:List Value},aR [] us→us=[]
 | _,.nil=>rfl
section
variable {X:Cx}{ae:List (Addr×Obj)}{σ:St}{H:Hp}{s:Shared}{l b:Addr}{xs ys zs:List V}
theorem Inv.lset {its its':List Value}{n:Nat}{f:Array Value→Array Value}{t':Nat}(I:Inv X ae σ H s)(hH:H l=some (.lst xs))
  (e:s.heap.get? l=some {cls:=.type "list",data:=.seq its.toArray n}) (hf:f its.toArray=its'.toArray) (hv:aR ys its') (hz:ys.length≤sizeLine) :
  Inv X ae σ (cA H l (.lst ys)) {s with heap:=s.heap.update l (Obj.mapSeq f),toks:=t'}:=by
 have q:=PySem.IsL.update e f;rw[hf] at q;refine I.write (x:=l) (e:=l) (by rw[hH];exact trivial) (.inl rfl) (fun b' u hb hu=>(Heap.get?_update_other s.heap (Obj.mapSeq f) (Ne.symm hb)).trans hu) ⟨_,q⟩ ?_;exact⟨hz,its',_,hv,q⟩
theorem Inv.lnew {its:List Value}{t':Nat}(I:Inv X ae σ H s)(hv:aR ys its)(hz:ys.length≤sizeLine) :
  Inv X ae σ (cA H s.heap.objs.size (.lst ys)) {s with heap:=s.heap.push {cls:=.type "list",data:=.seq its.toArray},toks:=t'}:=
 I.laid (fun _ _ q=>Heap.get?_push_of_some _ q) (Nat.le_refl _) ⟨hz,its,0,hv,Heap.get?_push_size _ rfl⟩
theorem Inv.fresh (I:Inv X ae σ H s):H s.heap.objs.size=none:=I.hok.fresh (Nat.le_refl _)
theorem Inv.lstM (I:Inv X ae σ H s)(hH:H l=some (.lst xs)):xs.length≤sizeLine∧∃(its:List Value) (n:Nat),aR xs its∧xs.length=its.length∧s.heap.get? l=some {cls:=.type "list",data:=.seq its.toArray n}:=by
 obtain⟨z,its,n,r,e⟩:=I.hok l _ hH;exact⟨z,its,n,r,r.length,e⟩
theorem BG {n:Nat}(h:n≤sizeLine):Builtin.List.listTooLong n=false:=by
 unfold Builtin.List.listTooLong;exact decide_eq_false (by omega)
end
section
variable {X:Cx}
def DA:V→List V→Hp→VK→Prop:=fun x vs H Q=>∃l xs y,x=.ref l∧vs=[y]∧H l=some (.lst xs)∧xs.length<sizeLine∧Q .non (cA H l (.lst (xs++[y])))
theorem zu:Ml X "list.append" DA:=by
 intro ae s σ H x vs v us Q I rx rv h;obtain⟨l,xs,y,rfl,rfl,hH,hz,q⟩:=h;cases rx;obtain⟨u,rfl,ru⟩:=rv.one;obtain⟨z,its,n,r,hl,e⟩:=I.lstM hH;refine call_meets F.slot_list_append ⟨_,e,rfl⟩ F.entry_list_append (F.args_list_append_2 _ _) (PySem.list_append l its.toArray n u (by rw[size_toArray];omega)) ⟨e,?_⟩;refine⟨.non,_,I.lset (its':=its++[u]) hH e (by simp) (r.append (.cons ru .nil)) ?_,rfl,q⟩;rw[length_append,length_singleton];omega
def GU:V→List V→Hp→VK→Prop:=fun x vs H Q=>∃l xs,x=.ref l∧vs=[]∧H l=some (.lst xs)∧Q .non (cA H l (.lst []))
theorem Ac:Ml X "list.clear" GU:=by
 intro ae s σ H x vs v us Q I rx rv h;obtain⟨l,xs,rfl,rfl,hH,q⟩:=h;cases rx;have hus:=rv.zero;subst hus;obtain⟨z,its,n,r,hl,e⟩:=I.lstM hH;refine call_meets F.slot_list_clear ⟨_,e,rfl⟩ F.entry_list_clear (F.args_list_clear_1 _) (AutoSeq1.list_clear_list_0 l its.toArray n (by rw[size_toArray];omega)) ⟨e,?_⟩;exact⟨.non,_,I.lset (its':=[]) (ys:=[]) hH e rfl .nil (Nat.zero_le _),rfl,q⟩
def Lz:R2:=fun x y H Q=>∃l b xs zs,x=.ref l∧y=.ref b∧H l=some (.lst xs)∧H b=some (.lst zs)∧xs.length+zs.length≤sizeLine∧∀p,H p=none→Q (.ref p) (cA H p (.lst (xs++zs)))
theorem Ba:fo X (binaryOp .Add) Lz:=by
 intro ae s σ H x y v u Q I rx ry h;obtain⟨l,b,xs,zs,rfl,rfl,hH,hB,hz,q⟩:=h;cases rx;cases ry;obtain⟨z,its,n,r,hl,e⟩:=I.lstM hH;obtain⟨z2,its2,n2,r2,hl2,e2⟩:=I.lstM hB;refine PySem.P.add_list e e2 ?_ (by rw[size_toArray,size_toArray];omega);have ea:its.toArray++its2.toArray=(its++its2).toArray:=by simp
 rw[ea];exact⟨.ref _,_,I.lnew (t':=s.toks) (r.append r2) (by rw[length_append];omega),rfl,q _ I.fresh⟩
end
end L2
namespace Att
open PySem PySem.W PySem.Calls PyProof.Rows
variable{P:Params}
theorem nZ {h:Heap}:∀(ns:List Int) (vs:List Value),WellAll P h vs (ns.map WData.int)→IntsAre vs ns:=by
 intro ns
 induction ns with
 | nil=>
  intro vs w;rw[List.map_nil] at w;cases w;exact .nil
 | cons n ns ih=>
  intro vs w;rw[List.map_cons] at w;cases w with
  | cons a b=>
   cases a;exact .cons _ _ (ih _ b)
variable{l:OpenLaw}
theorem zP {n:Nat}(hn:l.most=some n){h:Heap}{args:List WData}{vals:List Value}
  (hpre:l.row.toRowW.claim.pre args=true) (hwl:WellAll P h vals args) :
  ∃a vs ns,vals=[Value.ref a]∧args=[WData.list (ns.map WData.int)]∧h.get? a=some {cls:=.type "list",data:=.seq vs.toArray}∧IntsAre vs ns∧ns.length≤n:=by
 have hsh:WShape.hasAll [] args [.list .int]=true:=(pre_splitW hpre).1;have hc:l.pre.holds [] {args:=args}=true:=(pre_splitW hpre).2;obtain⟨d,r,rfl,h1,h2⟩:=hasAllW_cons hsh;obtain rfl:=hasAllW_nil h2;obtain⟨xs,rfl,h3⟩:=hasW_list h1;obtain⟨ns,rfl⟩:=items_int h3;have hlen:ns.length≤n:=by
  unfold OpenLaw.pre at hc;have h4:(WTm.not (.lt (.lit (.int (n:Int))) (.len (.arg 0)))).holds [] {args:=[.list (ns.map .int)]}=true:=by
   have h4:=(holds_andW hc).1;rw[hn] at h4;exact h4
  have h5:=condW_of h4 (w_not (w_lt w_lit (w_len_list (w_arg rfl))));rw[List.length_map] at h5;refine Nat.le_of_not_lt fun q=>?_
  have q':(n:Int)<((ns.length:Nat):Int):=by omega
  first
   | (rw[decide_eq_true q'] at h5;exact absurd h5 (by decide))
   | (simp at h5;omega)
 cases hwl with
 | cons w1 w2=>
  cases w2;cases w1 with
  | list ho hall=>exact⟨_,_,ns,rfl,rfl,ho,nZ ns _ hall,hlen⟩
theorem zw (l:OpenLaw)(args:List WData):l.row.toRowW.claim.post args (.bool true) args=true:=
 postW_of (r:=l.row.toRowW) (X:=(true==true))
  (show WShape.has [] (.bool true) .bool=true by first|rfl|decide|simp[WShape.has,WShape.arms,WShape.armsAll])
  (show(WTm.eq .res (.lit (.bool true))).value [] {args:=args,res:=some (.bool true),after:=args}=some (.bool (true==true)) from w_eq_bool (w_res rfl) w_lit) rfl
theorem attach_call {n:Nat}{q:Program}{loose:List Str}{XP:(Str→Option Value)→Heap→Prop}{YP:World→Heap→Prop}{d:DefRec}
  (hn:l.most=some n) (hdf:d.params.defaults=[])
  (call:∀(w:World) (s₀ s₁:Shared) (mg mb:Str→Option Value) (fa:Addr) (o:Obj) (pm cd doc:Value) (a:Addr) (vs:List Value) (ns:List Int),
   Ground q loose [] XP w s₀ mg mb s₁.heap→YP w s₁.heap→
   s₁.heap.get? fa=some o→o.data=.func (docDef d.name d.params d.body d.scope pm cd doc)→s₁.heap.CodeRec cd d.name→mg d.name=some (.ref fa)→
   s₁.heap.get? a=some {cls:=.type "list",data:=.seq vs.toArray}→IntsAre vs ns→ns.length≤n→s₁.gens=#[]→
   codeAny (model l.prog w) callerA (.call (.ref fa) ⟨[.ref a],[]⟩) (fun r s'=>r=.ok (.ret (.bool true))∧OldK s₁.heap s'.heap∧s'.os=s₁.os∧AllBare s'.gens) s₁) :
  WalkO q loose XP YP l.row.toRowW d [] (fun f vs=>PySem.call f vs):=by
 intro w s₀ s₁ mg mb G Y fa o pm cd doc dV kV ho hd hcd hD hmg hg args vals as hpre hlay hrd hwl hlo;obtain rfl:dV=.none:=Dflts.none hD hdf;obtain rfl:kV=.none:=Dflts.noKw hD;obtain⟨a,vs,ns,rfl,rfl,hobj,hints,hlen⟩:=zP hn hpre hwl;refine enter_call (codeAny_mono (call w s₀ s₁ mg mb fa o pm cd doc a vs ns G Y ho (fd_plain hd) hcd hmg hobj hints hlen hg) fun r s' hq=>?_);obtain⟨rfl,h2,h3,h4⟩:=hq;exact⟨.inl ⟨.bool true,.bool true,[],rfl,fun _=>rfl,.bool true,zw l _,fun _=>⟨List.Pairwise.nil,fun _ hm=>(nomatch hm)⟩⟩,h2,h3,h4⟩
end Att
namespace L2
open PySem PySem.Spec PyProof.Rows List
theorem qJ:∀{vs:List Value} {ns:List Int},IntsAre vs ns→aR (ns.map V.int) vs
 | _,_,.nil=>.nil
 | _,_,.cons n t h=>.cons ⟨t,rfl⟩ (qJ h)
def G9 (H:Hp):Prop:=∀b,H b=none∨∃o xs,H b=some (.frz o (.lst xs))
variable{x:Str}
theorem Bi {P:Program}{w:World}{K:W.Frag}{mg mb:Str→Option Value}{CX:zV}{k:Nat}{fa a:Addr}{fd:FuncData}{sp:Sp}{s₁:Shared}{vs:List Value}{ns:List Int}
  (KX:K.In s₁.heap) (hns:s₁.heap.Ns mainGlobals mg) (hb:s₁.heap.Ns builtinsNs mb) (hbb:∀x:Str,x≠"__name__"→mb x=bootBuiltins x) (hlim:s₁.heap.NoLimit) (hg:s₁.gens=#[])
  (ha:s₁.heap.get? a=some {cls:=.type "list",data:=.seq vs.toArray}) (hi:IntsAre vs ns) (hl:ns.length≤sizeLine) (hr:d7 k callerA)
  (F:∀base:Heap,K.In base→base.Ns mainGlobals mg→iT P w K mg base CX k fa fd [x] sp) (hbind:∀(s:Shared) (u:Value),BindsTo s fd ⟨[u],[]⟩ [(x,u)])
  (hsp:∀H:Hp,G9 H→m3 K H a (ns.map V.int)→sp [.ref a] H (fun v _=>v=.bl true) fun _ _ _=>False)
  (hCX:∀H e s',CX [] H s₁ (fun _ _ _=>False) e s'→False) :
  codeAny (model P w) callerA (.call (.ref fa) ⟨[.ref a],[]⟩) (fun r s'=>r=.ok (.ret (.bool true))∧OldK s₁.heap s'.heap∧s'.os=s₁.os∧AllBare s'.gens) s₁:=by
 have rv:=qJ hi;have lenV:=hi.length;have core:∀H:Hp,G9 H→m3 K H a (ns.map V.int)→lu P w H s₁.heap→(∀b,H b≠none→b=a)→(H a≠none→K.lookup a=none)→
   codeAny (model P w) callerA (.call (.ref fa) ⟨[.ref a],[]⟩) (fun r s'=>r=.ok (.ret (.bool true))∧OldK s₁.heap s'.heap∧s'.os=s₁.os∧AllBare s'.gens) s₁:=by
  intro H hO hS hok hA hK;have base_of:∀{b:Addr} {o:Obj},s₁.heap.get? b=some o→H b=none→(tz s₁.heap H).get? b=some o:=fun e n=>A6 e n
  have noA:∀{b:Addr} {o:Obj} {es:Array DictEntry} {ep:Nat},s₁.heap.get? b=some o→o.data=.dict es ep→H b=none:=fun {b o es ep} e d=>by
   cases q:H b with
   | none=>rfl
   | some u=>
    have e':b=a:=hA b (by rw[q];simp);subst e';rw[ha] at e;cases e;have d':Data.seq vs.toArray _=Data.dict es ep:=d;cases d'
  have nsK:∀{b:Addr} {m:Str→Option Value},s₁.heap.Ns b m→(tz s₁.heap H).Ns b m:=fun {b m} ⟨o,es,ep,e,d,r⟩=>⟨o,es,ep,base_of e (noA e d),d,r⟩
  have hKb:K.In (tz s₁.heap H):=fun b o e=>base_of (KX b o e) (by
   cases q:H b with
   | none=>rfl
   | some u=>
    have e':b=a:=hA b (by rw[q];simp);subst e';rw[hK (by rw[q];simp)] at e;cases e)
  have hM:Mod K mg (tz s₁.heap H):=⟨hKb,nsK hns,⟨mb,nsK hb,hbb⟩,let ⟨mc,h1,h2⟩:=hlim;⟨mc,nsK h1,h2⟩⟩;have e0:C7 P w K mg (tz s₁.heap H) callerA [] s₁ H:=⟨rfl,hM,fun b o e=>Eh e,Nat.le_of_eq (yC _ _),trivial,fun b hb=>absurd (show b∈([]:List Addr) from hb) (by simp),hok,.of_eq hg⟩;refine codeAny_mono ((F _ hKb (nsK hns)).run callerA [] s₁ H ⟨[.ref a],[]⟩ [.ref a] [.ref a] _ _ hr e0 (hbind s₁ (.ref a)) (.cons rfl .nil) (hsp H hO hS)) fun r s' h=>?_
  cases r with
  | error e=>exact(hCX H e s' h).elim
  | ok fl=>
   cases fl with
   | next=>exact False.elim h
   | brk=>exact False.elim h
   | cont=>exact False.elim h
   | ret u=>
    obtain⟨v,H',os,bare,un,hok',r',q⟩:=h;have q':v=.bl true:=q;subst q';obtain rfl:u=Value.bool true:=r';refine⟨rfl,OldK.of_keep fun b o e=>?_,os,bare⟩;cases q:H b with
    | none=>exact un.keep b o e q (by intro z;exact absurd (show b∈([]:List Addr) from z) (by simp)) (by simp)
    | some u=>
     rcases hO b with z|⟨ob,xs,z⟩
     ·rw[q] at z;cases z
     ·have z2:=un.frzs b ob _ z;obtain⟨e1,_⟩:=hok b _ z;obtain⟨e2,_⟩:=hok' b _ z2;rw[e] at e1;cases e1;exact e2
 cases hk:K.lookup a with
 | some o=>
  have e:=KX a o hk;rw[ha] at e;cases e;refine core (fun _=>none) (fun _=>.inl rfl) (.inr ⟨_,vs.toArray,_,hk,rfl,rfl,rfl,by rw[size_toArray,lenV];exact hl,by simpa using rv⟩) (fun b u z=>by have z':(none:Option HO)=some u:=z;cases z') (fun b z=>absurd rfl z) fun z=>absurd rfl z
 | none=>
  refine core (fun b=>if b=a then some (.frz {cls:=.type "list",data:=.seq vs.toArray} (.lst (ns.map V.int))) else none) (fun b=>?_) (.inl (.inr ⟨{cls:=.type "list",data:=.seq vs.toArray},if_pos rfl⟩)) (fun b u z=>?_) (fun b z=>?_) fun _=>hk
  ·by_cases hb:b=a
   ·exact .inr ⟨_,_,if_pos hb⟩
   ·exact .inl (if_neg hb)
  ·by_cases hb:b=a
   ·have z':=(if_pos hb).symm.trans z;cases z';subst hb;exact⟨ha,by rw[length_map];exact hl,vs,_,rv,ha⟩
   ·have z':=(if_neg hb).symm.trans z;cases z'
  ·by_cases hb:b=a
   ·exact hb
   ·exact absurd (if_neg hb) z
theorem walk_of {l:W.OpenLaw}{n k:Nat}{q:Program}{loose:List Str}{XP:(Str→Option Value)→Heap→Prop}{YP:World→Heap→Prop}{d:DefRec}{K:Params→W.Frag}{CX:World→zV}{sp:World→Sp}
  (hn:l.most=some n) (hn2:n≤sizeLine) (hdf:d.params.defaults=[]) (hr:d7 k callerA)
  (hY:∀(w:World) (h:Heap),YP w h→(K w.params).In h)
  (F:∀(w:World) (mg:Str→Option Value) (fa:Addr) (h:Heap),(K w.params).In h→h.Ns mainGlobals mg→mg d.name=some (.ref fa)→
   ∃fd:FuncData,(∀(s:Shared) (u:Value),BindsTo s fd ⟨[u],[]⟩ [(x,u)])∧
    ∀base:Heap,(K w.params).In base→base.Ns mainGlobals mg→iT l.prog w (K w.params) mg base (CX w) k fa fd [x] (sp w))
  (hsp:∀(w:World) (H:Hp) (a:Addr) (ns:List Int),ns.length≤n→G9 H→m3 (K w.params) H a (ns.map V.int)→sp w [.ref a] H (fun v _=>v=.bl true) fun _ _ _=>False)
  (hCX:∀(w:World) (H:Hp) (s:Shared) (e:Value) (s':Shared),CX w [] H s (fun _ _ _=>False) e s'→False) :
  W.WalkO q loose XP YP l.row.toRowW d [] (fun f vs=>PySem.call f vs):=by
 refine Att.attach_call hn hdf fun w s₀ s₁ mg mb fa o pm cd doc a vs ns G Y ho hd hcd hmg hobj hints hlen hg=>?_
 have KX:=hY w _ Y;obtain⟨fd,hb,hF⟩:=F w mg fa _ KX G.T.g hmg;exact Bi KX G.T.g G.T.b G.T.builtins G.T.nolimit hg hobj hints (Nat.le_trans hlen hn2) hr hF hb (fun H hO hS=>hsp w H a ns hlen hO hS) fun H e s'=>hCX w H s₁ e s'
def jo (s:Stmt):Arguments:=match s with
 | .FunctionDef _ a _ _ _ _ _ _ _ _=>a
 | _=>{posonlyargs:=[],args:=[],vararg:=none,kwonlyargs:=[],kw_defaults:=[],kwarg:=none,defaults:=[]}
def fE (s:Stmt):List Stmt:=match s with
 | .FunctionDef _ _ b _ _ _ _ _ _ _=>b
 | _=>[]
def bJ (s:Stmt):Scope:=match s with
 | .FunctionDef _ _ _ _ _ _ sc _ _ _=>sc
 | _=>{kind:=.function,names:=[],isGenerator:=false,isCoroutine:=false}
abbrev E0:XK:=fun _ _ _=>False
structure FX (K:W.Frag)(x qual:Str)(st:Stmt)(f:Addr)(fd:FuncData):Prop where
 ex:∃(oc:Value) (od:Option Addr) (kV doc pm:Value) (an:Option Addr) (cdv ct:Value) (osl:Array (Option Value)),
  fd=W.fnOf x qual (jo st) (fE st) (bJ st) .none kV doc pm an cdv ct∧K.lookup f=some ⟨oc,od,.func fd,osl⟩∧W.codeIn K cdv qual=true
 kp:W.keepIn K (.ref f)=true
section
variable {P:Program}{w:World}{K:W.Frag}{mg:Str→Option Value}{base:Heap}
theorem FX.binds {qual:Str}{st:Stmt}{f:Addr}{fd:FuncData}{ps:List Str}(F:FX K x qual st f fd)
  (h:∀(kV doc pm:Value) (an:Option Addr) (cdv ct:Value) (us:List Value),us.length=ps.length→bindArgs (W.fnOf x qual (jo st) (fE st) (bJ st) .none kV doc pm an cdv ct) ⟨us,[]⟩=pure (ps.zip us)):ke K fd ps []:=by
 obtain⟨oc,od,kV,doc,pm,an,cdv,ct,osl,rfl,lk,hcd⟩:=F.ex;exact .all (h kV doc pm an cdv ct)
theorem BF {qual:Str}{st:Stmt}{f:Addr}{oc:Value}{od an:Option Addr}{osl:Array (Option Value)}{kV doc pm cdv ct:Value}(l:K.lookup f=some ⟨oc,od,.func (W.fnOf x qual (jo st) (fE st) (bJ st) .none kV doc pm an cdv ct),osl⟩)
  (c:W.codeIn K cdv qual=true) (k:W.keepIn K (.ref f)=true):FX K x qual st f (W.fnOf x qual (jo st) (fE st) (bJ st) .none kV doc pm an cdv ct):=⟨⟨oc,od,kV,doc,pm,an,cdv,ct,osl,rfl,l,c⟩,k⟩
end
variable{A:Around}
theorem EB {k:Nat}(hr:d7 k A):A.units+1<cLine:=Nat.lt_of_le_of_lt (Nat.add_le_add_left (by decide:1≤64) _) hr.units
section
variable {X:Cx}
theorem pv (i:Nat){pos:Pos}(hN:X.N[i]?=some x:=by rfl)(hv:Fh X.env.scope x:=by first|exact Or.inl rfl|exact Or.inr (Or.inl rfl)|exact Or.inr (Or.inr rfl))(hd:(x==("__debug__":Str))=false:=by decide)
  (hcd:(x==("__classdict__":Str))=false:=by decide):PE X (.Name x pos) (Hj i):=AX hN hv hd hcd
end
variable{o:Option V}{y:V}{u:Value}
section
variable {κ:Type}[DecidableEq κ]
def iJ (kvs:List (κ×V))(k:κ):Option V:=(kvs.find? fun kv=>decide (kv.1=k)).map (·.2)
def uy (kvs:List (κ×V))(k:κ)(v:V):List (κ×V):=
 if(kvs.any fun kv=>decide (kv.1=k))=true then kvs.map (fun kv=>if kv.1=k then(kv.1,v) else kv) else kvs++[(k,v)]
theorem mJ {p:κ×V}{r:List (κ×V)}{k:κ}(e:p.1=k):iJ (p::r) k=some p.2:=by simp[iJ,find?_cons,e]
theorem mn {p:κ×V}{r:List (κ×V)}{k:κ}(e:¬p.1=k):iJ (p::r) k=iJ r k:=by simp[iJ,find?_cons,e]
theorem vc (k:κ):∀kvs:List (κ×V),(kvs.any fun kv=>decide (kv.1=k))=(iJ kvs k).isSome
 | []=>rfl
 | p::r=>by
  rw[any_cons]
  by_cases e:p.1=k
  ·simp only[mJ e,decide_eq_true e,Bool.true_or,Option.isSome_some]
  ·rw[mn e,decide_eq_false e,Bool.false_or];exact vc k r
theorem wj (kvs:List (κ×V))(k:κ)(v:V):(uy kvs k v).length≤kvs.length+1:=by
 unfold uy;split
 ·rw[length_map];omega
 ·rw[length_append,length_cons,length_nil];omega
theorem AA {kvs:List (κ×V)}{k:κ}(v:V)(h:iJ kvs k=none):uy kvs k v=kvs++[(k,v)]:=by
 unfold uy;rw[vc,h];exact if_neg (by decide)
theorem qC.isSome_eq {u:Option Value}(r:qC o u):o.isSome=u.isSome:=by
 cases o with
 | none=>cases u with
  | none=>rfl
  | some _=>exact(show False from r).elim
 | some _=>cases u with
  | none=>exact(show False from r).elim
  | some _=>rfl
theorem KV.val {kvs:List (κ×V)}{vs:List (κ×Value)}(r:KV kvs vs)(k:κ):qC (iJ kvs k) (valueAt vs k):=by
 unfold KV at r
 induction r with
 | nil=>exact True.intro
 | @cons p q ps qs h t ih=>
  obtain⟨h1,h2⟩:=h
  by_cases e:p.1=k
  ·have e':q.1=k:=h1.symm.trans e;have b:valueAt (q::qs) k=some q.2:=by simp[valueAt,find?_cons,e']
   rw[mJ e,b];exact h2
  ·have e':¬q.1=k:=fun z=>e (h1.trans z)
   have b:valueAt (q::qs) k=valueAt qs k:=by simp[valueAt,find?_cons,e']
   rw[mn e,b];exact ih
theorem KV.any {kvs:List (κ×V)}{vs:List (κ×Value)}(r:KV kvs vs)(k:κ):(kvs.any fun kv=>decide (kv.1=k))=vs.any fun kv=>decide (kv.1=k):=by
 unfold KV at r
 induction r with
 | nil=>rfl
 | cons h t ih=>rw[any_cons,any_cons,ih,h.1]
theorem KV.repl {kvs:List (κ×V)}{vs:List (κ×Value)}(r:KV kvs vs)(k:κ)(ry:aY y u) :
  KV (kvs.map fun kv=>if kv.1=k then(kv.1,y) else kv) (vs.map fun kv=>if kv.1=k then(kv.1,u) else kv):=by
 unfold KV at r ⊢
 induction r with
 | nil=>exact .nil
 | @cons p q ps qs h t ih=>
  rw[map_cons,map_cons];refine .cons ?_ ih;obtain⟨h1,h2⟩:=h
  by_cases e:p.1=k
  ·rw[if_pos e,if_pos (h1.symm.trans e)];exact⟨h1,ry⟩
  ·rw[if_neg e,if_neg (fun z=>e (h1.trans z))];exact⟨h1,h2⟩
theorem KV.put {kvs:List (κ×V)}{vs:List (κ×Value)}(r:KV kvs vs)(k:κ)(ry:aY y u):KV (uy kvs k y) (stored vs k u):=by
 unfold uy stored;rw[r.any k]
 by_cases e:(vs.any fun kv=>decide (kv.1=k))=true
 ·rw[if_pos e,if_pos e];exact r.repl k ry
 ·rw[if_neg e,if_neg e];exact Paired.snoc r ⟨rfl,ry⟩
theorem KV.keys {kvs:List (κ×V)}{vs:List (κ×Value)}(r:KV kvs vs):kvs.map (·.1)=vs.map (·.1):=by
 unfold KV at r
 induction r with
 | nil=>rfl
 | cons h t ih=>rw[map_cons,map_cons,ih,h.1]
theorem KV.length {kvs:List (κ×V)}{vs:List (κ×Value)}(r:KV kvs vs):kvs.length=vs.length:=Paired.length r
end
variable{P:Program}{w:World}
theorem yy {k:gV}(r:aY (kV k) u):(cM P w).is k u=true:=by
 cases k with
 | inl i=>obtain⟨t,e⟩:=(show∃t,u=Value.int i t from r);subst e;exact uL P w i t
 | inr x=>obtain⟨t,e⟩:=(show∃t,u=Value.str x t from r);subst e;exact vh P w x t
theorem qT {P:Program}{w:World}:∀{ks:List gV} {us:List Value},aR (ks.map kV) us→ItemsAre (cM P w) ks us
 | [],_,r=>by rw[map_nil] at r;cases r;exact .nil
 | k::ks,_,r=>by
  rw[map_cons] at r;cases r with
  | cons h t=>exact .cons (yy h) (qT t)
abbrev KT (H:Hp):List (List gV×V)→List (List gV×Addr×Value)→Prop:=Paired fun p q=>p.1=q.1∧H q.2.1=some (.tup (p.1.map kV))∧aY p.2 q.2.2
variable{H:Hp}
theorem KT.val {kvs:List (List gV×V)}{xs:List (List gV×Addr×Value)}(r:KT H kvs xs)(k:List gV):qC (iJ kvs k) ((atKey xs k).map (·.2)):=by
 induction r with
 | nil=>exact True.intro
 | @cons p q ps qs h t ih=>
  obtain⟨h1,_,h2⟩:=h
  by_cases e:p.1=k
  ·have e':q.1=k:=h1.symm.trans e;have b:atKey (q::qs) k=some q.2:=by simp[atKey,find?_cons,e']
   rw[mJ e,b];exact h2
  ·have e':¬q.1=k:=fun z=>e (h1.trans z)
   have b:atKey (q::qs) k=atKey qs k:=by simp[atKey,find?_cons,e']
   rw[mn e,b];exact ih
variable{kvs:List (gV×V)}
section
variable {P:Program}{w:World}{H:Hp}{h:Heap}{a:Addr}
theorem EJ {u:HO}(ok:lu P w H h)(e:Rd H a u):cO P w H h a u:=e.ok ok
theorem yz (ok:lu P w H h)(e:Rd H a (.dK kvs)):kvs.length≤sizeLine∧(a==sysModules)=false∧∃vs,KV kvs vs∧h.DictOf (cM P w) a vs:=
 show cO P w H h a (.dK kvs) from EJ ok e
theorem JU (ok:lu P w H h)(e:H a=some (.dK kvs)):kvs.length≤sizeLine∧(a==sysModules)=false∧∃vs,KV kvs vs∧h.DictOf (cM P w) a vs:=yz ok (.inl e)
theorem xk {ks:List gV}(ok:lu P w H h)(e:H a=some (.tup (ks.map kV))):(tupleKind (cM P w)).is h ks a:=by
 obtain⟨_,its,r,o,h1,h2,n,h3⟩:=(show cO P w H h a (.tup (ks.map kV)) from ok a _ e);exact⟨o,its.toArray,n,h1,h2,h3,by simpa using qT r⟩
theorem BQ {kvs:List (List gV×V)}(ok:lu P w H h)(e:Rd H a (.dT kvs)):kvs.length≤sizeLine∧(a==sysModules)=false∧
  ∃xs,KT H kvs xs∧h.DictOfH (tupleKind (cM P w)) a xs:=by
 obtain⟨z,y,xs,r,o,es,ep,h1,h2,h3,h4,h5⟩:=(show cO P w H h a (.dT kvs) from EJ ok e);refine⟨z,y,xs,r,o,es,ep,h1,h2,h3,h4,fun x hx=>?_,h5⟩;have all:∀{l:List (List gV×V)} {m:List (List gV×Addr×Value)},KT H l m→∀x∈m,(tupleKind (cM P w)).is h x.1 x.2.1:=by
  intro l m q
  induction q with
  | nil=>intro x hx;exact nomatch hx
  | @cons p q ps qs hq t ih=>
   intro x hx;rcases mem_cons.mp hx with e|hx
   ·subst e;exact xk ok (by rw[←hq.1];exact hq.2.1)
   ·exact ih x hx
 exact all r x hx
end
def vb (H:Hp)(a:Addr)(y:V)(r:Option V):Prop:=
 (∃kvs k,Rd H a (.dK kvs)∧y=kV k∧r=iJ kvs k)∨∃kvs k b,Rd H a (.dT kvs)∧y=.ref b∧H b=some (.tup (k.map kV))∧r=iJ kvs k
theorem vb.k {H:Hp}{a:Addr}{kvs:List (gV×V)}{k:gV}(e:H a=some (.dK kvs)):vb H a (kV k) (iJ kvs k):=.inl ⟨kvs,k,.inl e,rfl,rfl⟩
variable{Q:Value→Shared→Prop}
section
variable {X:Cx}{ae:List (Addr×Obj)}{σ:St}{H:Hp}{s:Shared}{a:Addr}{y v:V}{u r:Value}{o:Option V}{A:Around}{E:Value→Shared→Prop}
theorem Inv.big (I:Inv X ae σ H s):sysModules<s.heap.objs.size:=by
 have h:mainGlobals<s.heap.objs.size:=(I.mod.glob.keeps I.bk).lt;exact Nat.lt_trans (by decide) h
theorem zj (hu:A.units+1<cLine)(I:Inv X ae σ H s)(g:vb H a y (some v))(ry:aY y u)(h:∀w' s',Inv X ae σ H s'→aY v w'→Q w' s') :
  wpAny (model X.prog X.w) A (getItem (.ref a) u) Q E s:=by
 rcases g with⟨kvs,k,e,ey,l⟩|⟨kvs,k,b,e,ey,eb,l⟩
 ·subst ey;obtain⟨z,hd,vs,rel,dd⟩:=yz I.hok e;obtain⟨w',hw,rw'⟩:=qC.some_of (v:=v) (o:=valueAt vs k) (by rw[l];exact rel.val k);exact wpAny_getItem_of (yy ry) dd.mapOf hw (h w' _ (I.tok _) rw')
 ·subst ey;cases (show u=Value.ref b from ry);obtain⟨z,hd,xs,rel,dd⟩:=BQ I.hok e;obtain⟨w',hw,rw'⟩:=qC.some_of (v:=v) (o:=(atKey xs k).map (·.2)) (by rw[l];exact rel.val k);obtain⟨p,hp,hp2⟩:=Option.map_eq_some_iff.mp hw;refine wpAny_getItem_heap (tupleKind_room_in1 hu) (xk I.hok eb) dd hp ?_;rw[hp2];exact h w' _ (I.tok _) rw'
theorem DR (hu:A.units+1<cLine)(I:Inv X ae σ H s)(g:vb H a y o)(ry:aY y u)(h:∀s',Inv X ae σ H s'→Q (.bool (!o.isSome)) s') :
  wpAny (model X.prog X.w) A (compareOp .NotIn u (.ref a)) Q E s:=by
 rcases g with⟨kvs,k,e,ey,l⟩|⟨kvs,k,b,e,ey,eb,l⟩
 ·subst ey;obtain⟨z,hd,vs,rel,dd⟩:=yz I.hok e;refine wpAny_notIn_of (yy ry) hd dd.mapOf ?_;rw[←(rel.val k).isSome_eq,←l];exact h _ (I.tok _)
 ·subst ey;cases (show u=Value.ref b from ry);obtain⟨z,hd,xs,rel,dd⟩:=BQ I.hok e;refine wpAny_notIn_heap (tupleKind_room_in1 hu) (xk I.hok eb) hd dd ?_;have q:=(rel.val k).isSome_eq;rw[Option.isSome_map] at q;rw[←q,←l];exact h _ (I.tok _)
theorem CA {h':Heap}{t':Nat}{ob:HO}(I:Inv X ae σ H s)(mu:Jg (H a))(hs:Heap.SameBut a s.heap h')(he:∃q,h'.get? a=some q)(new:cO X.prog X.w (cA H a ob) h' a ob) :
  Inv X ae σ (cA H a ob) {s with heap:=h',toks:=t'}:=
 I.write (x:=a) (e:=a) mu (.inl rfl) (fun b q hb z=>(hs.2 b hb).trans z) he new
theorem Ff {H':Hp}{h':Heap}{vs:List (gV×Value)}(z:kvs.length≤sizeLine)(hd:(a==sysModules)=false)(rel:KV kvs vs)(dd:h'.DictOf (cM P w) a vs) :
  cO P w H' h' a (.dK kvs):=⟨z,hd,vs,rel,dd⟩
end
def Dx (i:Expr):Prop:=∀ov iv,subscripted i false ov iv=operate [ov,iv] (getItem ov iv)
variable{s:Shared}
theorem D0 {prog:Program}{E:Value→Shared→Prop}{env:Env}{value slice:Expr}{pos:Pos}{T id:String}
  (hl:typeLookup (.type T) "__getitem__"=pure (some (.builtin id))) (hs:Dx slice)
  (h:wpAny (model prog w) A (eval value env) (fun o s₁=>wpAny (model prog w) A (eval slice env) (fun i s₂=>s₂.TypeIs o T∧wpAny (model prog w) A (getItem o i) Q E s₂) E s₁) E s) :
  wpAny (model prog w) A (eval (.Subscript value slice pos) env) Q E s:=by
 refine Subscript_ (wpAny_mono h (fun o s₁ h₁=>wpAny_mono h₁ (fun i s₂ h₂=>?_) fun _ _ x=>x) fun _ _ x=>x);obtain⟨hT,h₂⟩:=h₂;unfold subscriptTail;refine wpAny_bind ?_;rw[getitemInPython_of_ne hT.not_modules];refine wpAny_bind (wpAny_specialOf hT hl ?_);have fin:wpAny (model prog w) A (subscripted slice false o i) (fun r s₃=>wpAny (model prog w) A (letTemporaryGo value o r >>= fun _=>pure r) Q E s₃) E s₂:=by
  rw[hs o i];exact wpAny_operating (wpAny_mono h₂ (fun r s₃ h₃=>wpAny_bind (wpAny_letTemporaryGo (wpAny_pure h₃))) fun _ _ x=>x)
 first
  | exact wpAny_pure (wpAny_bind fin)
  | exact wpAny_bind (wpAny_pure (wpAny_bind fin))
  | exact wpAny_bind fin
theorem vD {X:Cx}{ae:List (Addr×Obj)}{σ:St}{a:Addr}(I:Inv X ae σ H s)(g:vb H a y o):s.TypeIs (.ref a) "dict":=by
 rcases g with⟨kvs,k,e,_,_⟩|⟨kvs,k,b,e,_,_,_⟩
 ·obtain⟨_,_,vs,_,dd⟩:=yz I.hok e;exact dd.typeIs
 ·obtain⟨_,_,xs,_,dd⟩:=BQ I.hok e;exact dd.typeIs
def IR (td ty:TE):TE:=fun σ H Q=>td σ H fun x H1=>ty σ H1 fun y H2=>∃a v,x=.ref a∧vb H2 a y (some v)∧Q v H2
section
variable {X:Cx}{o i e value:Expr}{pos pos' tpos:Pos}{td ty tv:TE}
theorem Ci (hu:X.A.units+1<cLine)(ho:PE X o td)(hi:PE X i ty)(hs:Dx i):PE X (.Subscript o i pos) (IR td ty):=by
 intro ae s σ H Q I h;refine D0 PySem.F.slot_dict_getitem.lookup hs (cb (ho ae s σ H _ I h) fun u s1 ⟨x,H1,I1,rx,q1⟩=>cb (hi ae s1 σ H1 _ I1 q1) fun iv s2 hxx=>?_);obtain⟨y,H2,I2,ry,a,v,ex,g,q2⟩:=hxx;subst ex;obtain rfl:u=Value.ref a:=rx;exact⟨vD I2 g,zj hu I2 g ry fun w' s3 I3 rw'=>⟨v,H2,I3,rw',q2⟩⟩
end
theorem AT (h:Heap)(hb:sysModules<h.objs.size):cO P w H (h.push {cls:=.type "dict",data:=.dict #[]}) h.objs.size (.dK []):=
 ⟨Nat.zero_le _,beq_eq_false_iff_ne.mpr (Ne.symm (Nat.ne_of_lt hb)),[],.nil,Heap.DictOf.new h⟩
abbrev VV:List (V×V)→List (Value×Value)→Prop:=Paired fun p q=>aY p.1 q.1∧aY p.2 q.2
structure M1 (X:Cx)(o:Expr)(m:Str)(apos:Pos)(e:Expr)(cpos:Pos):Prop where
 base:attributeBase o m X.env (eval o X.env)=eval o X.env
 few:((backTo cpos (starEach [e] X.env)).all (fun x=>!x.1)&&(backToKw cpos (keywordEach [] X.env)).all (fun x=>x.1.isSome)
  && decide (([e]:List Expr).length+([]:List Keyword).length+(if([]:List Keyword).isEmpty then 0 else 1)<30))=true
 line:(apos.endLine==cpos.line)=true
 trees:backTo cpos (starEach [e] X.env)=[(false,eval e X.env)]
structure M2 (X:Cx)(o:Expr)(m:Str)(apos:Pos)(e f:Expr)(cpos:Pos):Prop where
 base:attributeBase o m X.env (eval o X.env)=eval o X.env
 few:((backTo cpos (starEach [e,f] X.env)).all (fun x=>!x.1)&&(backToKw cpos (keywordEach [] X.env)).all (fun x=>x.1.isSome)
  && decide (([e,f]:List Expr).length+([]:List Keyword).length+(if([]:List Keyword).isEmpty then 0 else 1)<30))=true
 line:(apos.endLine==cpos.line)=true
 trees:backTo cpos (starEach [e,f] X.env)=[(false,eval e X.env),(false,eval f X.env)]
end L2
namespace Att
open PySem PySem.W PySem.Calls PyProof.Rows
end Att
namespace L2
open PySem PySem.Spec PyProof.Rows List
end L2
namespace DL
open PySem PySem.Spec PyProof.Rows L2 List
structure FS (X:Cx)(ae:List (Addr×Obj))(H:Hp)(B:Heap):Prop where
 trk:∀b o,H b=some o→∃o',B.get? b=some o'
 pin:∀p∈X.pn++ae,∃o',B.get? p.1=some o'
 old:∀b o,X.s₀.heap.get? b=some o→b∉X.ex→b∉lY X.stack→∃o',B.get? b=some o'
def EC (X:Cx)(H:Hp)(a C:Addr)(s:Shared):Prop:=∃ae σ,
 (∃h vs,L2.Inv X ae σ H {s with heap:=h}∧Heap.MadeExcOf h s.heap a (.ref C) vs)∨
 (L2.Inv X ae σ H s∧H a=none∧∃B a0,Heap.FlyingW B X.stack a (.ref C) a0 s.heap∧FS X ae H B)∨
 (L2.Inv X ae σ H s∧H a=none∧∃B a0 L,X.env.frame=some L∧Heap.HeldW B X.stack a (.ref C) a0 L s.heap∧FS X ae H B)
def nD (K:W.Frag)(c:Str)(C:Addr):Prop:=W.nsIn K mainGlobals c=some (some (.ref C))
variable{P:Program}{w:World}{H:Hp}{a:Addr}{o:HO}
theorem pK {h:Heap}(x:cO P w H h a o):∃u,h.get? a=some u:=by
 cases o with
 | lst xs=>obtain⟨_,_,_,_,e⟩:=x;exact⟨_,e⟩
 | tup xs=>obtain⟨_,_,_,o,e,_⟩:=x;exact⟨_,e⟩
 | dK kvs=>obtain⟨_,_,_,_,o,_,_,e,_⟩:=x;exact⟨_,e⟩
 | dT kvs=>obtain⟨_,_,_,_,o,_,_,e,_⟩:=x;exact⟨_,e⟩
 | set S n=>obtain⟨o,_,_,_,e,_⟩:=x;exact⟨_,e⟩
 | ins C dx fs=>obtain⟨_,_,_,e,_⟩:=x;exact⟨_,e⟩
 | own y=>obtain⟨_,e⟩:=x;exact⟨_,e⟩
 | xd fs=>obtain⟨_,⟨_,_,_,e,_⟩,_⟩:=x;exact⟨_,e⟩
 | rng lo hi=>obtain⟨_,_,_,e⟩:=x;exact⟨_,e⟩
 | frz ob u=>obtain⟨e,_⟩:=x;exact⟨_,e⟩
 | tbl ps=>exact⟨_,show h.get? a=some _ from x⟩
 | met f y=>exact⟨_,show h.get? a=some _ from x⟩
 | ext φ=>obtain⟨_,⟨_,e⟩,_⟩:=x;exact⟨_,e⟩
variable{c:Addr}
section
variable {X:Cx}{ae:List (Addr×Obj)}{σ:List (Option V)}{H:Hp}{s:Shared}{B h':Heap}{a C:Addr}
theorem sA (I:L2.Inv X ae σ H s){b:Addr}{o:Obj}(e:X.s₀.heap.get? b=some o)(n:b∉X.fs):b∉lY X.stack:=fun z=>by
 rcases mem_cons.mp (I.stkSub b z) with q|q
 ·have h1:=Heap.lt_size e;rw[q] at h1;exact absurd (Nat.lt_of_lt_of_le h1 I.ok.above) (Nat.lt_irrefl _)
 ·exact n q
theorem yq {h h':Heap}{v:Option Value}(u:h.UpToSlots h')(x:h.IsCell c v):h'.IsCell c v:=by
 obtain⟨o,e,d⟩:=x;obtain⟨sl,e'⟩:=u c o e fun vs q=>by rw[d] at q;cases q
 exact⟨_,e',d⟩
theorem lM (I:L2.Inv X ae σ H s)(cov:FS X ae H B)(hB:B.StaysIn s.heap)(hB':B.StaysIn h')(up:s.heap.UpToSlots h'):L2.Inv X ae σ H {s with heap:=h'}:=by
 have keepB:∀b o o',B.get? b=some o'→s.heap.get? b=some o→h'.get? b=some o:=fun b o o' e1 e2=>by
  have:=hB b o' e1;rw[e2] at this;cases this;exact hB' b _ e1
 refine⟨I.ok,I.os,I.bare,⟨fun b o e n nf nx=>?_,fun b o e n hf nx=>?_,fun b o e n nx=>I.base.free b o e n nx,fun b o e nx=>?_,I.base.tups,I.base.frzs,I.base.tbls⟩,?_,fun x c e=>?_,I.free,I.freeC,fun p hp=>?_,fun b o e=>?_,I.len⟩
 ·obtain⟨o',e'⟩:=cov.old b o e nx (sA I e nf);exact keepB b o o' e' (I.base.keep b o e n nf nx)
 ·obtain⟨sl,e1⟩:=I.base.slot b o e n hf nx;obtain⟨_,ob,e2,nf⟩:=I.funs.mem hf;rw[e1] at e2;cases e2;obtain⟨sl',e3⟩:=up b _ e1 nf;exact⟨sl',e3⟩
 ·by_cases hf:b∈X.fs
  ·obtain⟨_,ob,e2,nf⟩:=I.funs.mem hf;obtain⟨sl',e3⟩:=up b _ e2 nf;exact⟨_,e3⟩
  ·obtain⟨o',e'⟩:=cov.old b o e nx (sA I e hf);exact⟨o',hB' b o' e'⟩
 ·obtain⟨m,hn,hl⟩:=I.loc;refine⟨m,up.ns hn,fun i x v e1 e2 e3=>?_⟩;obtain⟨u,r,lk⟩:=hl i x v e1 e2 e3;refine⟨u,r,?_⟩;rcases lk with lk|⟨k,c,ec,ic⟩
  ·exact .inl lk
  ·exact .inr ⟨k,c,ec,yq up ic⟩
 ·obtain⟨v,ic⟩:=I.cell x c e;exact⟨v,yq up ic⟩
 ·obtain⟨e,n,ne,nf,d⟩:=I.pin p hp;obtain⟨o',e'⟩:=cov.pin p hp;exact⟨keepB p.1 p.2 o' e' e,n,ne,nf,d⟩
 ·refine(I.hok b o e).stay (fun c u hc q=>?_) (fun _ q=>q) fun _ _ q=>q
  have:∃o,H c=some o:=by
   rcases hc with z|z
   ·exact⟨o,by rw[z];exact e⟩
   ·exact⟨_,z⟩
  obtain⟨oc,ec⟩:=this;obtain⟨o',e'⟩:=cov.trk c oc ec;exact keepB c u o' e' q
theorem vA (I:L2.Inv X ae σ H s):FS X ae H (W.hideAll s.heap (lY X.stack)):=by
 refine⟨fun b o e=>?_,fun p hp=>?_,fun b o e nx nf=>?_⟩
 ·obtain⟨u,q⟩:=pK (I.hok b o e);exact⟨u,W.hideAll_get _ q fun z=>by rw[I.stkFree b z] at e;cases e⟩
 ·obtain⟨e,n,ne,nf,d⟩:=I.pin p hp;exact⟨p.2,W.hideAll_get _ e fun z=>by
   rcases mem_cons.mp (I.stkSub _ z) with q|q
   ·exact ne q
   ·exact nf q⟩
 ·obtain⟨o',e'⟩:=I.base.there b o e nx;exact⟨o',W.hideAll_get _ e' nf⟩
theorem nE (I:L2.Inv X ae σ H s):s.heap.FunFrames (W.hideAll s.heap (lY X.stack)) X.stack:=
 W.funFrames_hide I.stack fun env he b hb=>mem_filterMap.mpr ⟨env,he,hb⟩
theorem rk {vs:List Value}{h:Heap}(I:L2.Inv X ae σ H {s with heap:=h})(m:Heap.MadeExcOf h s.heap a (.ref C) vs):H a=none:=by
 cases q:H a with
 | none=>rfl
 | some o=>
  obtain⟨u,e⟩:=pK (I.hok a o q);have e:h.get? a=some u:=e;rw[m.new] at e;cases e
end
def nQ (P:Program)(w:World):zV:=fun outer H s E e s'=>∃a C H' B a0,e=.ref a∧s'.os=s.os∧AllBare s'.gens∧Un (lY outer) [] H H' s.heap s'.heap∧lu P w H' s'.heap∧H' a=none∧
 Heap.FlyingW B outer a (.ref C) a0 s'.heap∧(∀b o,H' b=some o→∃o',B.get? b=some o')∧(∀b o,s.heap.get? b=some o→b∉lY outer→∃o',B.get? b=some o')∧E (.ref C) (some a) H'
variable{K:W.Frag}{mg:Str→Option Value}{base:Heap}{scope:Scope}{f:Addr}{A:Around}{s:Shared}{E:XK}
theorem xh {N:List Str}{qual:Str}{cdv:Value}{outer:List Env}{s':Shared}{H':Hp}{C:Addr}
  (fl:EC (mv (nQ P w) P w K mg base N qual scope f cdv A outer s H E) H' a C s') (hE:E (.ref C) (some a) H'):(mv (nQ P w) P w K mg base N qual scope f cdv A outer s H E).xe (.ref a) s':=by
 show wpAny (model P w) (A.deeper (envOfC qual scope s.heap.objs.size f cdv)) (leaving (envOfC qual scope s.heap.objs.size f cdv) (.ref a)) (fun _ s''=>nQ P w outer H s E (.ref a) s'') (fun e' s''=>nQ P w outer H s E e' s'') s';obtain⟨ae,σ,fl⟩:=fl;have key:∀(B:Heap) (a0:Value) (h':Heap) (I:L2.Inv (mv (nQ P w) P w K mg base N qual scope f cdv A outer s H E) ae σ H' s'),B.StaysIn s'.heap→FS (mv (nQ P w) P w K mg base N qual scope f cdv A outer s H E) ae H' B→H' a=none→
   Heap.FlyingW B outer a (.ref C) a0 h'→s'.heap.UpToSlots h'→nQ P w outer H s E (.ref a) {s' with heap:=h'}:=fun B a0 h' I hB cov hn fl' up=>by
  have I':=lM I cov hB fl'.1 up;refine⟨a,C,H',B,a0,rfl,I'.os,I'.bare,I'.base,I'.hok,hn,fl',cov.trk,fun b o e nf=>?_,hE⟩;exact cov.old b o e (by show b∉([]:List Addr);simp) (sA I e nf)
 rcases fl with⟨h,vs,I,m⟩|⟨I,hn,B,a0,fl,cov⟩|⟨I,hn,B,a0,L,hL,held,cov⟩
 ·have cov:=vA I;have hid:∀b o,(W.hideAll h (lY (mv (nQ P w) P w K mg base N qual scope f cdv A outer s H E).stack)).get? b=some o→h.get? b=some o:=fun b o q=>W.of_hideAll _ q
  refine wpAny_leaves_madeW (env:=envOfC qual scope s.heap.objs.size f cdv) (outer:=outer) I.ok.frames rfl hid (nE I) m fun h' t x1 x2 x3 x4=>?_
  exact key _ _ h' (I.kept (t':=s'.toks) (h':=s'.heap) m.keeps) (fun b o q=>m.keeps b o (hid b o q)) cov (rk I m) x1 x4
 ·refine wpAny_leaves_onW (env:=envOfC qual scope s.heap.objs.size f cdv) (outer:=outer) I.ok.frames rfl fl fun h' x1 x2=>?_
  exact key B a0 h' I fl.1 cov hn x1 x2
 ·unfold leaving;refine wpAny_bind (wpAny_noteFrame_againW hL held.2.2.2 ?_);refine wpAny_landsW held fun h' x1 x2=>?_
  obtain⟨k1,k2,⟨_,_,k3⟩,k4⟩:=x1;exact key B a0 h' I held.1 cov hn ⟨k1,k2,k3,k4⟩ x2
variable{ae:List (Addr×Obj)}{σ:L2.St}
theorem yJ {X:Cx}{e:Value}{s':Shared}(I:L2.Inv X ae σ H s)(h:nQ X.prog X.w X.stack H s E e s'):∃a C H',e=.ref a∧EC X H' a C s'∧E (.ref C) (some a) H':=by
 obtain⟨a,C,H',B,a0,rfl,os,bare,un,hok,hn,fl,trk,old,hE⟩:=h;refine⟨a,C,H',rfl,⟨ae,σ,.inr (.inl ⟨I.call' os un hok bare (fun b z=>absurd z (by simp)),hn,B,a0,fl,trk,fun p hp=>?_,fun b o eb nx nf=>?_⟩)⟩,hE⟩
 ·obtain⟨eb,n,ne,nf,d⟩:=I.pin p hp;exact old p.1 p.2 eb fun z=>by
   rcases mem_cons.mp (I.stkSub _ z) with q|q
   ·exact ne q
   ·exact nf q
 ·obtain⟨o',e'⟩:=I.base.there b o eb nx;exact old b o' e' nf
inductive D where
 | non|bl (b:Bool)|int (i:Int)|str (x:Str)|tup (xs:List D)|lst (xs:List D)|ro (xs:List D)|mr (i:Nat)|exc (c:Str)|any
instance:Inhabited D:=⟨.non⟩
inductive MO where
 | lst (xs:List D)|obj (c:Str) (fs:List (Str×D))|dK (kvs:List (gV×D))|dT (kvs:List (List gV×D))
instance:Inhabited MO:=⟨.lst []⟩
abbrev au:=List MO
abbrev bI:=List (Option D)
inductive aO (α:Type) where
 | ok (a:α) (M:au)
 | err (c:Str) (M:au)
 | bad
def aO.bind {α β:Type}(o:aO α)(f:α→au→aO β):aO β:=
 match o with
 | .ok a M=>f a M
 | .err c M=>.err c M
 | .bad=>.bad
@[simp] theorem ak {α β:Type} (a:α) (M:au) (f:α→au→aO β):(aO.ok a M).bind f=f a M:=by rw[aO.bind]
@[simp] theorem Jh {α β:Type} (c:Str) (M:au) (f:α→au→aO β):(aO.err c M:aO α).bind f=.err c M:=by rw[aO.bind]
@[simp] theorem Jr {α β:Type} (f:α→au→aO β):(aO.bad:aO α).bind f=.bad:=by rw[aO.bind]
def MG (K:W.Frag)(a:Addr)(xs:List V):Prop:=∃(o:Obj) (its:Array Value) (n:Nat),K.lookup a=some o∧o.cls=.type "tuple"∧o.data=.seq its n∧its.size≤sizeLine∧aR xs its.toList
def KL (K:W.Frag)(a:Addr)(xs:List V):Prop:=∃(o:Obj) (its:Array Value) (n:Nat),K.lookup a=some o∧o.cls=.type "list"∧o.dict=none∧o.data=.seq its n∧its.size≤sizeLine∧aR xs its.toList
def nz (K:W.Frag)(θ:List Addr)(H:Hp)(a:Addr)(xs:List V):Prop:=H a=some (.tup xs)∧a∉θ
def qY (θ:List Addr)(H:Hp)(a:Addr)(xs:List V):Prop:=H a=some (.lst xs)∧a∉θ
def wL (K:W.Frag)(θ:List Addr)(H:Hp)(a:Addr)(xs:List V):Prop:=(Rd H a (.lst xs)∧a∉θ)∨KL K a xs
variable{θ:List Addr}{xs:List V}
theorem nz.sq (h:nz K θ H a xs):pP K H a xs:=.inl (.inl h.1)
theorem qY.sq (h:qY θ H a xs):m3 K H a xs:=.inl (.inl h.1)
theorem wL.sq (h:wL K θ H a xs):m3 K H a xs:=by
 rcases h with⟨h,_⟩|h
 ·exact .inl h
 ·exact .inr h
def Lb (a C:Addr):HO:=.ext fun h=>∃o,h.get? a=some o∧o.cls=.ref C
mutual
def cP (K:W.Frag)(θ:List Addr)(H:Hp):D→V→Prop
 | .non,v=>v=.non
 | .bl b,v=>v=.bl b
 | .int i,v=>v=.int i
 | .str x,v=>v=.str x
 | .tup ds,v=>∃a vs,v=.ref a∧nz K θ H a vs∧ba K θ H ds vs
 | .lst ds,v=>∃a vs,v=.ref a∧qY θ H a vs∧ba K θ H ds vs
 | .ro ds,v=>∃a vs,v=.ref a∧wL K θ H a vs∧ba K θ H ds vs
 | .mr i,v=>∃a,v=.ref a∧θ[i]?=some a
 | .exc c,v=>∃a C,v=.ref a∧nD K c C∧H a=some (Lb a C)∧a∉θ
 | .any,_=>True
def ba (K:W.Frag)(θ:List Addr)(H:Hp):List D→List V→Prop
 | [],vs=>vs=[]
 | d::ds,vs=>∃v r,vs=v::r∧cP K θ H d v∧ba K θ H ds r
end
def zF (K:W.Frag)(θ:List Addr)(H:Hp):List (Str×D)→List (Str×V)→Prop
 | [],vs=>vs=[]
 | (f,d)::fs,vs=>∃v r,vs=(f,v)::r∧cP K θ H d v∧zF K θ H fs r
def nR {κ:Type}(K:W.Frag)(θ:List Addr)(H:Hp):List (κ×D)→List (κ×V)→Prop
 | [],vs=>vs=[]
 | (k,d)::fs,vs=>∃v r,vs=(k,v)::r∧cP K θ H d v∧nR K θ H fs r
def qi (K:W.Frag)(θ:List Addr)(H:Hp):MO→Addr→Prop
 | .lst ds,a=>∃vs,H a=some (.lst vs)∧ba K θ H ds vs
 | .obj c fs,a=>∃C dx vs,nD K c C∧H a=some (.ins C dx vs)∧zF K θ H fs vs
 | .dK kvs,a=>∃vs,H a=some (.dK vs)∧nR K θ H kvs vs
 | .dT kvs,a=>∃vs,H a=some (.dT vs)∧nR K θ H kvs vs
def gO:List Str:=["ink_shown","table_within","slots_given","cast_on_slots"]
def Cz (x:Str):Str:=x++(".<locals>.<lambda>":Str)
def J2 (c:Addr)(q:Str):HO:=.ext fun h=>h.CodeRec (.ref c) q
def Mh (ob:Obj):HO:=.frz ob (.ext fun _=>True)
structure m6 (K:W.Frag)(H:Hp):Prop where
 tab:∀x,x∈gO→∀c P,W.tabIn K x=some (c,P)→∃ps,H P=some (.tbl ps)∧TriplesOk ps.toList∧∀pos cv,codeAmong pos ps.toList=some cv→∃c',cv=.ref c'∧H c'=some (J2 c' (Cz x))
 bm:∀x,x∈gO→∀c P,W.tabIn K x=some (c,P)→∃bm ob,W.nsIn K mainGlobals "__builtins__"=some (some (.ref bm))∧H bm=some (Mh ob)∧ob.cls=.type "module"∧ob.dict=some builtinsNs∧ob.data=.plain∧bm≠builtinsNs∧bm≠mainGlobals
theorem m6.of {H':Hp}(t:m6 K H)(k1:∀b ps,H b=some (.tbl ps)→H' b=some (.tbl ps))(k2:∀b φ,H b=some (.ext φ)→H' b=some (.ext φ))(k3:∀b o u,H b=some (.frz o u)→H' b=some (.frz o u)):m6 K H':=
 ⟨fun x hx c P e=>by
  obtain⟨ps,h1,h2,h3⟩:=t.tab x hx c P e;refine⟨ps,k1 _ _ h1,h2,fun pos cv q=>?_⟩;obtain⟨c',e1,e2⟩:=h3 pos cv q;exact⟨c',e1,k2 _ _ e2⟩,fun x hx c P e=>by
  obtain⟨bm,ob,e1,e2,r⟩:=t.bm x hx c P e;exact⟨bm,ob,e1,k3 _ _ _ e2,r⟩⟩
theorem m6.new {p:Addr}(t:m6 K H)(hp:H p=none):m6 K (cA H p o):=
 t.of (fun b ps e=>by rw[aK (bQ e hp)];exact e) (fun b φ e=>by rw[aK (bQ e hp)];exact e) fun b o u e=>by rw[aK (bQ e hp)];exact e
def wA:HO→Bool
 | .tbl _=>false
 | .ext _=>false
 | .frz _ _=>false
 | _=>true
theorem m6.at_ {u:HO}(t:m6 K H)(ha:H a=some u)(hu:wA u=true):m6 K (cA H a o):=
 t.of (fun b ps e=>by rw[aK (xI e ha (by intro z;subst z;cases hu))];exact e) (fun b φ e=>by rw[aK (xI e ha (by intro z;subst z;cases hu))];exact e) fun b o u e=>by rw[aK (xI e ha (by intro z;subst z;cases hu))];exact e
theorem m6.no {K:W.Frag}{H:Hp}(h:∀x,x∈gO→W.nsIn K mainGlobals x=some none):m6 K H:=by
 have no:∀x,x∈gO→∀c P,W.tabIn K x≠some (c,P):=fun x hx c P e=>by
  unfold W.tabIn at e;rw[h x hx] at e;cases e
 exact⟨fun x hx c P e=>absurd e (no x hx c P),fun x hx c P e=>absurd e (no x hx c P)⟩
structure Wr (K:W.Frag)(θ:List Addr)(H:Hp)(M:au):Prop where
 len:θ.length=M.length
 nd:θ.Nodup
 at_:∀(i:Nat) a m,θ[i]?=some a→M[i]?=some m→qi K θ H m a
 tb:m6 K H
structure jp (K:W.Frag)(θ:List Addr)(H:Hp)(σ:L2.St)(ρ:bI):Prop where
 len:ρ.length=σ.length
 at_:∀(i:Nat) d,ρ[i]?=some (some d)→∃v,σ[i]?=some (some v)∧cP K θ H d v
structure Grow (θ:List Addr)(H:Hp)(θ':List Addr)(H':Hp):Prop where
 ext:∃more,θ'=θ++more∧∀a∈more,H a=none
 keep:∀b o,H b=some o→b∉θ→(∀ps,o≠.tbl ps)→H' b=some o
 tkeep:∀b ps,H b=some (.tbl ps)→∃ps',H' b=some (.tbl ps')
structure Go (K:W.Frag)(θ:List Addr)(H:Hp)(θ':List Addr)(H':Hp)(M':au):Prop extends Grow θ H θ' H' where
 wr:Wr K θ' H' M'
variable{m:MO}{i:Nat}{d:D}{v:V}{ds:List D}{vs:List V}
section
variable {K:W.Frag}{θ θ' θ1 θ2:List Addr}{H H' H1 H2:Hp}{M M' M1 M2:au}{a p:Addr}{σ:L2.St}{ρ:bI}
theorem Wr.tracked (w:Wr K θ H M)(h:a∈θ):H a≠none:=by
 obtain⟨i,hi,e⟩:=mem_iff_getElem.mp h;have h1:θ[i]?=some a:=by rw[getElem?_eq_getElem hi,e]
 have h2:i<M.length:=by rw[←w.len];exact hi
 have h3:=w.at_ i a _ h1 (getElem?_eq_getElem h2);cases q:M[i] with
 | lst ds=>
  rw[q] at h3;obtain⟨vs,e,_⟩:=h3;rw[e];simp
 | obj c fs=>
  rw[q] at h3;obtain⟨C,dx,vs,_,e,_⟩:=h3;rw[e];simp
 | dK kvs=>
  rw[q] at h3;obtain⟨vs,e,_⟩:=h3;rw[e];simp
 | dT kvs=>
  rw[q] at h3;obtain⟨vs,e,_⟩:=h3;rw[e];simp
theorem qi.plain (h:qi K θ H m a):∃o,H a=some o∧wA o=true:=by
 cases m with
 | lst ds=>obtain⟨vs,e,_⟩:=h;exact⟨_,e,rfl⟩
 | obj c fs=>obtain⟨C,dx,vs,_,e,_⟩:=h;exact⟨_,e,rfl⟩
 | dK kvs=>obtain⟨vs,e,_⟩:=h;exact⟨_,e,rfl⟩
 | dT kvs=>obtain⟨vs,e,_⟩:=h;exact⟨_,e,rfl⟩
theorem Wr.plain (w:Wr K θ H M)(h:θ[i]?=some a):∃o,H a=some o∧wA o=true:=by
 have h2:i<M.length:=by rw[←w.len];exact(List.getElem?_eq_some_iff.mp h).1
 exact(w.at_ i a _ h (getElem?_eq_getElem h2)).plain
theorem Wr.fresh (w:Wr K θ H M)(h:H p=none):p∉θ:=fun z=>w.tracked z h
theorem Grow.refl (θ:List Addr)(H:Hp):Grow θ H θ H:=⟨⟨[],by simp,fun _ z=>by cases z⟩,fun _ _ h _ _=>h,fun b ps e=>⟨ps,e⟩⟩
theorem Go.refl (w:Wr K θ H M):Go K θ H θ H M:=⟨.refl θ H,w⟩
theorem Go.trans (a:Go K θ H θ1 H1 M1)(b:Go K θ1 H1 θ2 H2 M2):Go K θ H θ2 H2 M2:=by
 obtain⟨m1,e1,f1⟩:=a.ext;obtain⟨m2,e2,f2⟩:=b.ext;refine⟨⟨⟨m1++m2,by rw[e2,e1,append_assoc],fun x hx=>?_⟩,fun x o hx nx nt=>?_,fun x ps e=>?_⟩,b.wr⟩
 ·rcases mem_append.mp hx with z|z
  ·exact f1 x z
  ·cases q:H x with
   | none=>rfl
   | some o=>
    have nx:x∉θ:=by
     intro y;have nd:=b.wr.nd;rw[e2] at nd;have y1:x∈θ1:=by rw[e1];exact mem_append_left _ y
     exact(nodup_append.mp nd).2.2 x y1 x z rfl
    exfalso
    by_cases nt:∃ps,o=.tbl ps
    ·obtain⟨ps,rfl⟩:=nt;obtain⟨ps',e'⟩:=a.tkeep x ps q;rw[f2 x z] at e';cases e'
    ·have:=a.keep x o q nx fun ps e'=>nt ⟨ps,e'⟩
     rw[f2 x z] at this;cases this
 ·have h1:=a.keep x o hx nx nt;refine b.keep x o h1 ?_ nt;rw[e1];intro z;rcases mem_append.mp z with z|z
  ·exact nx z
  ·rw[f1 x z] at hx;cases hx
 ·obtain⟨ps',e'⟩:=a.tkeep x ps e;exact b.tkeep x ps' e'
theorem Grow.notin (g:Grow θ H θ' H')(h:H a=some o)(n:a∉θ):a∉θ':=by
 obtain⟨m,e,f⟩:=g.ext;rw[e];intro z;rcases mem_append.mp z with z|z
 ·exact n z
 ·rw[f a z] at h;cases h
theorem nz.grow (g:Grow θ H θ' H')(h:nz K θ H a xs):nz K θ' H' a xs:=⟨g.keep _ _ h.1 h.2 (by intro _ z;cases z),g.notin h.1 h.2⟩
theorem qY.grow (g:Grow θ H θ' H')(h:qY θ H a xs):qY θ' H' a xs:=⟨g.keep _ _ h.1 h.2 (by intro _ z;cases z),g.notin h.1 h.2⟩
theorem wL.grow (g:Grow θ H θ' H')(h:wL K θ H a xs):wL K θ' H' a xs:=by
 rcases h with⟨h|⟨o,h⟩,n⟩|h
 ·exact .inl ⟨.inl (g.keep _ _ h n (by intro _ z;cases z)),g.notin h n⟩
 ·exact .inl ⟨.inr ⟨o,g.keep _ _ h n (by intro _ z;cases z)⟩,g.notin h n⟩
 ·exact .inr h
mutual
theorem lQ (g:Grow θ H θ' H'):∀(d:D) (v:V),cP K θ H d v→cP K θ' H' d v
 | .non,v,h=>h
 | .bl b,v,h=>h
 | .int i,v,h=>h
 | .str x,v,h=>h
 | .tup ds,v,h=>by
  obtain⟨a,vs,e,t,r⟩:=h;exact⟨a,vs,e,t.grow g,cS g ds vs r⟩
 | .lst ds,v,h=>by
  obtain⟨a,vs,e,t,r⟩:=h;exact⟨a,vs,e,t.grow g,cS g ds vs r⟩
 | .ro ds,v,h=>by
  obtain⟨a,vs,e,t,r⟩:=h;exact⟨a,vs,e,t.grow g,cS g ds vs r⟩
 | .mr i,v,h=>by
  obtain⟨a,e,t⟩:=h;obtain⟨m,em,_⟩:=g.ext;refine⟨a,e,?_⟩;rw[em,getElem?_append_left (List.getElem?_eq_some_iff.mp t).1];exact t
 | .exc c,v,h=>by
  obtain⟨a,C,e,k,t,n⟩:=h;exact⟨a,C,e,k,g.keep _ _ t n (by intro _ z;cases z),g.notin t n⟩
 | .any,v,h=>h
theorem cS (g:Grow θ H θ' H'):∀(ds:List D) (vs:List V),ba K θ H ds vs→ba K θ' H' ds vs
 | [],vs,h=>h
 | d::ds,vs,h=>by
  obtain⟨v,r,e,h1,h2⟩:=h;exact⟨v,r,e,lQ g d v h1,cS g ds r h2⟩
end
theorem cP.go (h:cP K θ H d v)(g:Go K θ H θ' H' M'):cP K θ' H' d v:=lQ g.toGrow d v h
theorem ba.go (h:ba K θ H ds vs)(g:Go K θ H θ' H' M'):ba K θ' H' ds vs:=cS g.toGrow ds vs h
theorem jp.go (h:jp K θ H σ ρ)(g:Go K θ H θ' H' M'):jp K θ' H' σ ρ:=⟨h.len,fun i d e=>let ⟨v,e1,e2⟩:=h.at_ i d e;⟨v,e1,e2.go g⟩⟩
theorem ay:∀{ds:List D} {vs:List V},ba K θ H ds vs→ds.length=vs.length
 | [],vs,h=>by cases (show vs=[] from h);rfl
 | d::ds,vs,h=>by
  obtain⟨v,r,e,_,h2⟩:=h;subst e;rw[length_cons,length_cons,ay h2]
theorem cG:∀{ds es:List D} {vs us:List V},ba K θ H ds vs→ba K θ H es us→ba K θ H (ds++es) (vs++us)
 | [],es,vs,us,h,k=>by cases (show vs=[] from h);exact k
 | d::ds,es,vs,us,h,k=>by
  obtain⟨v,r,e,h1,h2⟩:=h;subst e;exact⟨v,r++us,rfl,h1,cG h2 k⟩
theorem g9:∀{ds:List D} {vs:List V} {i:Nat} {d:D},ba K θ H ds vs→ds[i]?=some d→∃v,vs[i]?=some v∧cP K θ H d v
 | [],vs,i,d,h,e=>by simp at e
 | x::ds,vs,0,d,h,e=>by
  obtain⟨v,r,e1,h1,h2⟩:=h;subst e1;simp at e;subst e;exact⟨v,rfl,h1⟩
 | x::ds,vs,i+1,d,h,e=>by
  obtain⟨v,r,e1,h1,h2⟩:=h;subst e1;obtain⟨u,e2,h3⟩:=g9 (i:=i) h2 (by simpa using e);exact⟨u,by simpa using e2,h3⟩
theorem qP:∀{ds:List D} {vs:List V} (n:Nat),ba K θ H ds vs→ba K θ H (ds.take n) (vs.take n)
 | ds,vs,0,h=>by rw[take_zero,take_zero];exact rfl
 | [],vs,n+1,h=>by cases (show vs=[] from h);exact rfl
 | d::ds,vs,n+1,h=>by
  obtain⟨v,r,e,h1,h2⟩:=h;subst e;exact⟨v,r.take n,rfl,h1,qP n h2⟩
theorem qS:∀{ds:List D} {vs:List V} (n:Nat),ba K θ H ds vs→ba K θ H (ds.drop n) (vs.drop n)
 | ds,vs,0,h=>h
 | [],vs,n+1,h=>by cases (show vs=[] from h);exact rfl
 | d::ds,vs,n+1,h=>by
  obtain⟨v,r,e,h1,h2⟩:=h;subst e;exact qS n h2
theorem vI {d:D}{v:V}(hd:cP K θ H d v):∀{ds:List D} {vs:List V} (i:Nat),ba K θ H ds vs→ba K θ H (ds.set i d) (vs.set i v)
 | [],vs,i,h=>by cases (show vs=[] from h);exact rfl
 | x::ds,vs,0,h=>by
  obtain⟨u,r,e,h1,h2⟩:=h;subst e;exact⟨v,r,rfl,hd,h2⟩
 | x::ds,vs,i+1,h=>by
  obtain⟨u,r,e,h1,h2⟩:=h;subst e;exact⟨u,r.set i v,rfl,h1,vI hd i h2⟩
theorem mj (w:Wr K θ H M)(hp:H p=none):Grow θ H θ (cA H p o):=
 ⟨⟨[],by simp,fun _ z=>by cases z⟩,fun b u h _ _=>by rw[aK (bQ h hp)];exact h,fun b ps h=>⟨ps,by rw[aK (bQ h hp)];exact h⟩⟩
theorem rL (g:Grow θ H θ' H'):∀{fs:List (Str×D)} {vs:List (Str×V)},zF K θ H fs vs→zF K θ' H' fs vs
 | [],vs,h=>h
 | (f,d)::fs,vs,h=>by
  obtain⟨v,r,e,h1,h2⟩:=h;exact⟨v,r,e,lQ g d v h1,rL g h2⟩
theorem kJ {κ:Type}(g:Grow θ H θ' H'):∀{fs:List (κ×D)} {vs:List (κ×V)},nR K θ H fs vs→nR K θ' H' fs vs
 | [],vs,h=>h
 | (f,d)::fs,vs,h=>by
  obtain⟨v,r,e,h1,h2⟩:=h;exact⟨v,r,e,lQ g d v h1,kJ g h2⟩
theorem qi.grow (g:Grow θ H θ' H')(hs:H' a=H a)(h:qi K θ H m a):qi K θ' H' m a:=by
 cases m with
 | lst ds=>
  obtain⟨vs,e,r⟩:=h;exact⟨vs,by rw[hs];exact e,cS g ds vs r⟩
 | obj c fs=>
  obtain⟨C,dx,vs,k,e,r⟩:=h;exact⟨C,dx,vs,k,by rw[hs];exact e,rL g r⟩
 | dK kvs=>
  obtain⟨vs,e,r⟩:=h;exact⟨vs,by rw[hs];exact e,kJ g r⟩
 | dT kvs=>
  obtain⟨vs,e,r⟩:=h;exact⟨vs,by rw[hs];exact e,kJ g r⟩
theorem eD (w:Wr K θ H M)(hp:H p=none):Go K θ H θ (cA H p o) M:=
 ⟨mj w hp,w.len,w.nd,fun i a m h1 h2=>by
  have ha:a≠p:=fun e=>w.fresh hp (by rw[←e];exact mem_of_getElem? h1)
  exact(w.at_ i a m h1 h2).grow (mj w hp) (aK ha),w.tb.new hp⟩
theorem kD (w:Wr K θ H M)(hp:H p=none)(r:ba K θ H ds vs):cP K θ (cA H p (.tup vs)) (.tup ds) (.ref p):=
 ⟨p,vs,rfl,⟨dL,w.fresh hp⟩,cS (mj w hp) ds vs r⟩
theorem iu (w:Wr K θ H M)(hp:H p=none)(r:ba K θ H ds vs):cP K θ (cA H p (.lst vs)) (.lst ds) (.ref p):=
 ⟨p,vs,rfl,⟨dL,w.fresh hp⟩,cS (mj w hp) ds vs r⟩
theorem rQ (hp:H p=none):Grow θ H (θ++[p]) (cA H p o):=
 ⟨⟨[p],rfl,fun a ha=>by rw[mem_singleton.mp ha];exact hp⟩,fun b u h _ _=>by rw[aK (bQ h hp)];exact h,fun b ps h=>⟨ps,by rw[aK (bQ h hp)];exact h⟩⟩
theorem xG (w:Wr K θ H M)(hp:H p=none)(hm:qi K (θ++[p]) (cA H p o) m p):Go K θ H (θ++[p]) (cA H p o) (M++[m]):=by
 have np:=w.fresh hp;have g:Grow θ H (θ++[p]) (cA H p o):=rQ hp;refine⟨g,by rw[length_append,length_append,w.len];rfl,?_,fun i a m' h1 h2=>?_,w.tb.new hp⟩
 ·rw[nodup_append];exact⟨w.nd,by simp,fun x hx y hy e=>np (by rw[mem_singleton.mp hy] at e;rw[←e];exact hx)⟩
 ·by_cases hi:i<θ.length
  ·rw[getElem?_append_left hi] at h1;rw[getElem?_append_left (by rw[←w.len];exact hi)] at h2;have ha:a≠p:=fun e=>np (by rw[←e];exact mem_of_getElem? h1)
   exact(w.at_ i a m' h1 h2).grow g (aK ha)
  ·have hi':i=θ.length:=by
    have:=(List.getElem?_eq_some_iff.mp h1).1;rw[length_append,length_singleton] at this;omega
   subst hi';rw[getElem?_append_right (Nat.le_refl _)] at h1;rw[getElem?_append_right (by rw[w.len];exact Nat.le_refl _)] at h2;simp only[Nat.sub_self,w.len,getElem?_cons_zero,Option.some.injEq] at h1 h2;subst h1;subst h2;exact hm
theorem B5 (w:Wr K θ H M)(hp:H p=none)(r:ba K θ H ds vs):Go K θ H (θ++[p]) (cA H p (.lst vs)) (M++[.lst ds]):=
 xG w hp ⟨vs,dL,cS (rQ hp) ds vs r⟩
theorem uE (w:Wr K θ H M)(hi:θ[i]?=some a):Grow θ H θ (cA H a o):=by
 have ha:a∈θ:=mem_of_getElem? hi;obtain⟨u,hu,pu⟩:=w.plain hi;exact⟨⟨[],by simp,fun _ z=>by cases z⟩,fun b u h n _=>by rw[aK (fun e=>n (by rw[e];exact ha))];exact h,fun b ps h=>⟨ps,by rw[aK (xI h hu (by intro z;subst z;cases pu))];exact h⟩⟩
theorem ya (w:Wr K θ H M)(hi:θ[i]?=some a)(hm:qi K θ (cA H a o) m a):Go K θ H θ (cA H a o) (M.set i m):=by
 have g:Grow θ H θ (cA H a o):=uE w hi;obtain⟨u,hu,pu⟩:=w.plain hi;refine⟨g,by rw[length_set];exact w.len,w.nd,fun j b m' h1 h2=>?_,w.tb.at_ hu pu⟩
 by_cases hj:j=i
 ·subst hj;rw[hi] at h1;cases h1;have hl:j<M.length:=by rw[←w.len];exact(List.getElem?_eq_some_iff.mp hi).1
  rw[getElem?_set_self hl] at h2;cases h2;exact hm
 ·rw[getElem?_set_ne (Ne.symm hj)] at h2;have hb:b≠a:=fun e=>by
   subst e;obtain⟨h3,e3⟩:=List.getElem?_eq_some_iff.mp h1;obtain⟨h4,e4⟩:=List.getElem?_eq_some_iff.mp hi;exact hj ((getElem_inj w.nd).mp (e3.trans e4.symm))
  exact(w.at_ j b m' h1 h2).grow g (aK hb)
theorem ur {ds ds':List D}{vs':List V}(w:Wr K θ H M)(hi:θ[i]?=some a)(r:ba K θ H ds' vs'):Go K θ H θ (cA H a (.lst vs')) (M.set i (.lst ds')):=
 ya w hi ⟨vs',dL,cS (uE w hi) ds' vs' r⟩
end
abbrev GE:=bI→au→aO D
abbrev GT:=bI→au→aO Bool
abbrev GA:=bI→au→aO (List D)
inductive Fl where
 | nx (ρ:bI)|rt (d:D)|bk (ρ:bI)|ct (ρ:bI)
abbrev GS:=bI→au→aO Fl
def cj (X:Cx)(θ:List Addr)(H:Hp)(c:Str)(M:au):Prop:=∀C θ' H' a s',nD X.K c C→Go X.K θ H θ' H' M→EC X H' a C s'→X.xe (.ref a) s'
def aE (X:Cx)(θ:List Addr)(H:Hp)(Q:VK):aO D→Prop
 | .ok d M'=>∀v θ' H',Go X.K θ H θ' H' M'→cP X.K θ' H' d v→Q v H'
 | .err c M'=>cj X θ H c M'
 | .bad=>False
def m8 (X:Cx)(θ:List Addr)(H:Hp)(Q:Bool→Hp→Prop):aO Bool→Prop
 | .ok b M'=>∀θ' H',Go X.K θ H θ' H' M'→Q b H'
 | .err c M'=>cj X θ H c M'
 | .bad=>False
def zH (X:Cx)(θ:List Addr)(H:Hp)(Q:List V→Hp→Prop):aO (List D)→Prop
 | .ok ds M'=>∀vs θ' H',Go X.K θ H θ' H' M'→ba X.K θ' H' ds vs→Q vs H'
 | .err c M'=>cj X θ H c M'
 | .bad=>False
def dm (X:Cx)(θ:List Addr)(H:Hp)(D:zn):aO Fl→Prop
 | .ok (.nx ρ) M'=>∀σ θ' H',Go X.K θ H θ' H' M'→jp X.K θ' H' σ ρ→D.nx σ H'
 | .ok (.bk ρ) M'=>∀σ θ' H',Go X.K θ H θ' H' M'→jp X.K θ' H' σ ρ→D.bk σ H'
 | .ok (.ct ρ) M'=>∀σ θ' H',Go X.K θ H θ' H' M'→jp X.K θ' H' σ ρ→D.ct σ H'
 | .ok (.rt d) M'=>∀v θ' H',Go X.K θ H θ' H' M'→cP X.K θ' H' d v→D.rt v H'
 | .err c M'=>cj X θ H c M'
 | .bad=>False
def tE (X:Cx)(g:GE):TE:=fun σ H Q=>∃ρ θ M,jp X.K θ H σ ρ∧Wr X.K θ H M∧aE X θ H Q (g ρ M)
def tT (X:Cx)(g:GT):TT:=fun σ H Q=>∃ρ θ M,jp X.K θ H σ ρ∧Wr X.K θ H M∧m8 X θ H Q (g ρ M)
def tA (X:Cx)(g:GA):TA:=fun σ H Q=>∃ρ θ M,jp X.K θ H σ ρ∧Wr X.K θ H M∧zH X θ H Q (g ρ M)
def tS (X:Cx)(g:GS):TS:=fun D σ H=>∃ρ θ M,jp X.K θ H σ ρ∧Wr X.K θ H M∧dm X θ H D (g ρ M)
variable{M:au}{Q:Bool→Hp→Prop}
section
variable {X:Cx}{θ θ':List Addr}{H H':Hp}{M':au}
theorem cj.go {c:Str}(g:Go X.K θ H θ' H' M')(h:cj X θ H c M):cj X θ' H' c M:=fun C θ2 H2 a s' k g2 fl=>h C θ2 H2 a s' k (g.trans g2) fl
theorem aE.go {Q:VK}{o:aO D}(g:Go X.K θ H θ' H' M')(h:aE X θ H Q o):aE X θ' H' Q o:=by
 cases o with
 | ok d M=>exact fun v θ2 H2 g2=>h v θ2 H2 (g.trans g2)
 | err c M=>exact cj.go (c:=c) (M:=M) g h
 | bad=>exact h
theorem m8.go {o:aO Bool}(g:Go X.K θ H θ' H' M')(h:m8 X θ H Q o):m8 X θ' H' Q o:=by
 cases o with
 | ok d M=>exact fun θ2 H2 g2=>h θ2 H2 (g.trans g2)
 | err c M=>exact cj.go (c:=c) (M:=M) g h
 | bad=>exact h
theorem zH.go {Q:List V→Hp→Prop}{o:aO (List D)}(g:Go X.K θ H θ' H' M')(h:zH X θ H Q o):zH X θ' H' Q o:=by
 cases o with
 | ok d M=>exact fun v θ2 H2 g2=>h v θ2 H2 (g.trans g2)
 | err c M=>exact cj.go (c:=c) (M:=M) g h
 | bad=>exact h
theorem dm.go {D:zn}{o:aO Fl}(g:Go X.K θ H θ' H' M')(h:dm X θ H D o):dm X θ' H' D o:=by
 cases o with
 | ok f M=>cases f <;> exact fun v θ2 H2 g2=>h v θ2 H2 (g.trans g2)
 | err c M=>exact cj.go (c:=c) (M:=M) g h
 | bad=>exact h
end
variable{es:List Expr}{g ga gb:GE}{ρ:bI}{pos:Pos}{op:CmpOp}
section
variable {X:Cx}{e:Expr}
theorem _root_.L2.PE.of {t t':TE}(h:PE X e t)(w:∀σ H Q,t' σ H Q→t σ H Q):PE X e t':=fun ae s σ H Q I q=>h ae s σ H Q I (w σ H Q q)
theorem _root_.L2.PT.of {t t':TT}(h:PT X e t)(w:∀σ H Q,t' σ H Q→t σ H Q):PT X e t':=fun ae s σ H Q I q=>h ae s σ H Q I (w σ H Q q)
theorem _root_.L2.PW.of {t t':TT}(h:PW X e t)(w:∀σ H Q,t' σ H Q→t σ H Q):PW X e t':=fun wh ae s σ H Q I q=>h wh ae s σ H Q I (w σ H Q q)
theorem _root_.L2.PA.of {t t':TA}(h:PA X es t)(w:∀σ H Q,t' σ H Q→t σ H Q):PA X es t':=fun pos ae s σ H Q I q=>h pos ae s σ H Q I (w σ H Q q)
theorem _root_.L2.PS.of {st:Stmt}{t t':TS}(h:PS X st t)(w:∀D σ H,t' D σ H→t D σ H):PS X st t':=fun ae s σ H D I q=>h ae s σ H D I (w D σ H q)
theorem _root_.L2.PSs.of {st:List Stmt}{t t':TS}(h:PSs X st t)(w:∀D σ H,t' D σ H→t D σ H):PSs X st t':=fun ae s σ H D I q=>h ae s σ H D I (w D σ H q)
theorem b7 {Q:VK}{α:Type}(hd:jp X.K θ H σ ρ)(hw:Wr X.K θ H M)(F:aO α→Prop)(Fe:∀c M',F (.err c M')→cj X θ H c M')(Fb:F .bad→False)
  {f:D→au→aO α} (h:F ((g ρ M).bind f))
  (k:∀d M1 v θ1 H1,Go X.K θ H θ1 H1 M1→cP X.K θ1 H1 d v→F (f d M1)→Q v H1):tE X g σ H Q:=by
 refine⟨ρ,θ,M,hd,hw,?_⟩;cases q:g ρ M with
 | ok d M1=>
  rw[q] at h;exact fun v θ1 H1 g1 r1=>k d M1 v θ1 H1 g1 r1 h
 | err c M1=>rw[q] at h;exact Fe c M1 h
 | bad=>rw[q] at h;exact(Fb h).elim
def af (i:Nat):GE:=fun ρ M=>match ρ[i]? with
 | some (some d)=>.ok d M
 | _=>.bad
def gC (d:D):GE:=fun _ M=>.ok d M
theorem HM (h:PE X e (Hj i)):PE X e (tE X (af i)):=h.of fun σ H Q hxx=>by
 obtain⟨ρ,θ,M,hd,hw,f⟩:=hxx;unfold af at f;split at f
 ·rename_i d q;obtain⟨v,e1,r⟩:=hd.at_ i d q;exact⟨v,e1,f v θ H (.refl hw) r⟩
 ·exact f.elim
theorem Fu {i j pos}:PE X (.Constant (.int i) j pos) (tE X (gC (.int i))):=HB.of fun σ H Q ⟨ρ,θ,M,hd,hw,f⟩=>f _ θ H (.refl hw) rfl
theorem Jv {b j pos}:PE X (.Constant (.bool b) j pos) (tE X (gC (.bl b))):=JO.of fun σ H Q ⟨ρ,θ,M,hd,hw,f⟩=>f _ θ H (.refl hw) rfl
theorem EU {j pos}:PE X (.Constant .none j pos) (tE X (gC .non)):=GQ.of fun σ H Q ⟨ρ,θ,M,hd,hw,f⟩=>f _ θ H (.refl hw) rfl
theorem Hh {x j pos}:PE X (.Constant (.str x) j pos) (tE X (gC (.str x))):=Gn.of fun σ H Q ⟨ρ,θ,M,hd,hw,f⟩=>f _ θ H (.refl hw) rfl
abbrev F2:=D→D→au→aO D
def g2 (f:F2)(ga gb:GE):GE:=fun ρ M=>(ga ρ M).bind fun x M1=>(gb ρ M1).bind fun y M2=>f x y M2
def rD (X:Cx)(f:F2):R2:=fun x y H Q=>∃θ M dx dy,Wr X.K θ H M∧cP X.K θ H dx x∧cP X.K θ H dy y∧aE X θ H Q (f dx dy M)
theorem vW {f:F2}{Q:VK}(h:tE X (g2 f ga gb) σ H Q):IE (rD X f) (tE X ga) (tE X gb) σ H Q:=by
 obtain⟨ρ,θ,M,hd,hw,h⟩:=h;refine b7 hd hw (aE X θ H Q) (fun c M' h=>h) (fun h=>h) h fun dx M1 x θ1 H1 g1 r1 h1=>?_
 refine b7 (hd.go g1) g1.wr (aE X θ1 H1 Q) (fun c M' h=>h) (fun h=>h) (h1.go g1) fun dy M2 y θ2 H2 g2 r2 h2=>?_
 exact⟨θ2,M2,dx,dy,g2.wr,r1.go g2,r2,h2.go g2⟩
theorem Jt {a b:Expr}{op:Operator}{f:F2}(ho:fo X (binaryOp op) (rD X f))(ha:PE X a (tE X ga))(hb:PE X b (tE X gb)):PE X (.BinOp a op b pos) (tE X (g2 f ga gb)):=
 (Ii ho ha hb).of fun _ _ _ h=>vW h
theorem BN {a b:Expr}{f:F2}(ho:fo X (compareOp op) (rD X f))(ha:PE X a (tE X ga))(hb:PE X b (tE X gb))(hm:behindInMarks op b=false):PE X (.Compare a [op] [b] pos) (tE X (g2 f ga gb)):=
 (DQ ho ha hb hm).of fun _ _ _ h=>vW h
def HZ:D→au→aO Bool
 | .bl b,M=>.ok b M
 | _,_=>.bad
def aZ (g:GE):GT:=fun ρ M=>(g ρ M).bind HZ
theorem Aq {o:aO D}(h:m8 X θ H Q (o.bind HZ)):aE X θ H (fun x H'=>∃k,x=.bl k∧Q k H') o:=by
 cases o with
 | ok d M=>
  cases d with
  | bl b=>exact fun v θ1 H1 g1 r1=>⟨b,r1,h θ1 H1 g1⟩
  | _=>exact h.elim
 | err c M=>exact h
 | bad=>exact h
theorem BC (h:tT X (aZ g) σ H Q):tE X g σ H fun x H'=>∃k,x=.bl k∧Q k H':=by
 obtain⟨ρ,θ,M,hd,hw,h⟩:=h;exact⟨ρ,θ,M,hd,hw,Aq h⟩
theorem Aw {a b:Expr}{f:F2}(ho:fo X (compareOp op) (rD X f))(ha:PE X a (tE X ga))(hb:PE X b (tE X gb))(hm:behindInMarks op b=false):PT X (.Compare a [op] [b] pos) (tT X (aZ (g2 f ga gb))):=
 (C9 ho ha hb hm).of fun σ H Q h=>vW (BC h)
def oQ (f f':F2)(ga gb gc:GE):GE:=fun ρ M=>(ga ρ M).bind fun x M1=>(gb ρ M1).bind fun y M2=>(f x y M2).bind fun z M3=>match z with
 | .bl true=>(gc ρ M3).bind fun w M4=>f' y w M4
 | .bl false=>.ok (.bl false) M3
 | _=>.bad
theorem Ep {f f':F2}{gc:GE}{Q:VK}(h:tE X (oQ f f' ga gb gc) σ H Q):wD (rD X f) (rD X f') (tE X ga) (tE X gb) (tE X gc) σ H Q:=by
 obtain⟨ρ,θ,M,hd,hw,h⟩:=h;refine b7 hd hw (aE X θ H Q) (fun c M' h=>h) (fun h=>h) h fun dx M1 x θ1 H1 g1 r1 h1=>?_
 refine b7 (hd.go g1) g1.wr (aE X θ1 H1 Q) (fun c M' h=>h) (fun h=>h) (h1.go g1) fun dy M2 y θ2 H2 g2 r2 h2=>?_
 refine⟨θ2,M2,dx,dy,g2.wr,r1.go g2,r2,?_⟩;have h3:=h2.go g2;cases q:f dx dy M2 with
 | ok z M3=>
  rw[q] at h3;intro v θ3 H3 g3 r3;cases z with
  | bl k=>
   refine⟨k,r3,?_⟩;cases k with
   | true=>
    rw[if_pos rfl];refine b7 ((hd.go g1).go (g2.trans g3)) g3.wr (aE X θ3 H3 Q) (fun c M' h=>h) (fun h=>h) (h3.go g3) fun dw M4 w θ4 H4 g4 r4 h4=>?_
    exact⟨θ4,M4,dy,dw,g4.wr,r2.go (g3.trans g4),r4,h4.go g4⟩
   | false=>
    rw[if_neg Bool.false_ne_true];exact h3 _ θ3 H3 g3 rfl
  | _=>exact h3.elim
 | err c M3=>rw[q] at h3;exact h3
 | bad=>rw[q] at h3;exact h3
theorem B2 {a b c:Expr}{op':CmpOp}{pos:Pos}{f f':F2}{gc:GE}(ho:fo X (compareOp op) (rD X f))(ho':fo X (compareOp op') (rD X f'))(ha:PE X a (tE X ga))(hb:PE X b (tE X gb))(hc:PE X c (tE X gc))
  (hm:lastMarks [op,op'] [b,c]=false:=by with_unfolding_all rfl):PE X (.Compare a [op,op'] [b,c] pos) (tE X (oQ f f' ga gb gc)):=(Bq ho ho' ha hb hc hm).of fun _ _ _ h=>Ep h
theorem Ax {a b c:Expr}{op':CmpOp}{pos:Pos}{f f':F2}{gc:GE}(ho:fo X (compareOp op) (rD X f))(ho':fo X (compareOp op') (rD X f'))(ha:PE X a (tE X ga))(hb:PE X b (tE X gb))(hc:PE X c (tE X gc))
  (hm:lastMarks [op,op'] [b,c]=false:=by with_unfolding_all rfl):PT X (.Compare a [op,op'] [b,c] pos) (tT X (aZ (oQ f f' ga gb gc))):=(Bv ho ho' ha hb hc hm).of fun σ H Q h=>Ep (BC h)
def fH (a b:GT):GT:=fun ρ M=>(a ρ M).bind fun c M1=>if c then b ρ M1 else .ok false M1
def hW (a b:GT):GT:=fun ρ M=>(a ρ M).bind fun c M1=>if c then .ok true M1 else b ρ M1
def cH (a:GT):GT:=fun ρ M=>(a ρ M).bind fun c M1=>.ok (!c) M1
theorem v7 {g:GT}{α:Type}(hd:jp X.K θ H σ ρ)(hw:Wr X.K θ H M)(F:aO α→Prop)(Fe:∀c M',F (.err c M')→cj X θ H c M')(Fb:F .bad→False)
  {f:Bool→au→aO α} (h:F ((g ρ M).bind f)) (k:∀d M1 θ1 H1,Go X.K θ H θ1 H1 M1→F (f d M1)→Q d H1):tT X g σ H Q:=by
 refine⟨ρ,θ,M,hd,hw,?_⟩;cases q:g ρ M with
 | ok d M1=>
  rw[q] at h;exact fun θ1 H1 g1=>k d M1 θ1 H1 g1 h
 | err c M1=>rw[q] at h;exact Fe c M1 h
 | bad=>rw[q] at h;exact(Fb h).elim
variable {a b:Expr}{pos:Pos}{ap:List Expr}{ta tb:GT}{ga gb:GE}
theorem Cp (ha:PT X a (tT X ta)):PW X (.BoolOp .And [a] pos) (tT X ta):=DG ha
theorem Fj (ha:PT X a (tT X ta)):PW X (.BoolOp .Or [a] pos) (tT X ta):=Gg ha
theorem F7 (ha:PT X a (tT X ta))(hb:PW X (.BoolOp .And (b::ap) pos) (tT X tb)):PW X (.BoolOp .And (a::b::ap) pos) (tT X (fH ta tb)):=(Gd ha hb).of fun σ H Q hxx=>by
 obtain⟨ρ,θ,M,hd,hw,h⟩:=hxx;refine v7 hd hw (m8 X θ H Q) (fun c M' h=>h) (fun h=>h) h fun c M1 θ1 H1 g1 h1=>?_
 cases c with
 | true=>exact⟨ρ,θ1,M1,hd.go g1,g1.wr,m8.go g1 h1⟩
 | false=>exact h1 θ1 H1 g1
theorem IF (ha:PT X a (tT X ta))(hb:PW X (.BoolOp .Or (b::ap) pos) (tT X tb)):PW X (.BoolOp .Or (a::b::ap) pos) (tT X (hW ta tb)):=(JP ha hb).of fun σ H Q hxx=>by
 obtain⟨ρ,θ,M,hd,hw,h⟩:=hxx;refine v7 hd hw (m8 X θ H Q) (fun c M' h=>h) (fun h=>h) h fun c M1 θ1 H1 g1 h1=>?_
 cases c with
 | true=>exact h1 θ1 H1 g1
 | false=>exact⟨ρ,θ1,M1,hd.go g1,g1.wr,m8.go g1 h1⟩
theorem Fw (ha:PT X a (tT X ta)):PT X (.UnaryOp .Not a pos) (tT X (cH ta)):=(FA ha).of fun σ H Q hxx=>by
 obtain⟨ρ,θ,M,hd,hw,h⟩:=hxx;exact v7 hd hw (m8 X θ H Q) (fun c M' h=>h) (fun h=>h) h fun c M1 θ1 H1 g1 h1=>h1 θ1 H1 g1
def dz (a b:GE):GE:=fun ρ M=>(a ρ M).bind fun x M1=>match x with
 | .bl true=>b ρ M1
 | .bl false=>.ok (.bl false) M1
 | _=>.bad
def EG (a b:GE):GE:=fun ρ M=>(a ρ M).bind fun x M1=>match x with
 | .bl true=>.ok (.bl true) M1
 | .bl false=>b ρ M1
 | _=>.bad
def vR (a:GT):GE:=fun ρ M=>(a ρ M).bind fun c M1=>.ok (.bl (!c)) M1
theorem ET {op}(h:PE X a (tE X g)):PE X (.BoolOp op [a] pos) (tE X g):=FY h
theorem G0 (ha:PE X a (tE X ga))(hb:PE X (.BoolOp .And (b::ap) pos) (tE X gb)):PE X (.BoolOp .And (a::b::ap) pos) (tE X (dz ga gb)):=(ER ha hb).of fun σ H Q hxx=>by
 obtain⟨ρ,θ,M,hd,hw,h⟩:=hxx;refine b7 hd hw (aE X θ H Q) (fun c M' h=>h) (fun h=>h) h fun d M1 v θ1 H1 g1 r1 h1=>?_
 cases d with
 | bl c=>
  refine⟨c,r1,?_⟩;cases c with
  | true=>rw[if_pos rfl];exact⟨ρ,θ1,M1,hd.go g1,g1.wr,aE.go g1 h1⟩
  | false=>rw[if_neg Bool.false_ne_true];exact h1 _ θ1 H1 g1 rfl
 | _=>exact h1.elim
theorem JB (ha:PE X a (tE X ga))(hb:PE X (.BoolOp .Or (b::ap) pos) (tE X gb)):PE X (.BoolOp .Or (a::b::ap) pos) (tE X (EG ga gb)):=(JR ha hb).of fun σ H Q hxx=>by
 obtain⟨ρ,θ,M,hd,hw,h⟩:=hxx;refine b7 hd hw (aE X θ H Q) (fun c M' h=>h) (fun h=>h) h fun d M1 v θ1 H1 g1 r1 h1=>?_
 cases d with
 | bl c=>
  refine⟨c,r1,?_⟩;cases c with
  | true=>rw[if_pos rfl];exact h1 _ θ1 H1 g1 rfl
  | false=>rw[if_neg Bool.false_ne_true];exact⟨ρ,θ1,M1,hd.go g1,g1.wr,aE.go g1 h1⟩
 | _=>exact h1.elim
def nS (t:GT)(a b:GE):GE:=fun ρ M=>(t ρ M).bind fun c M1=>if c then a ρ M1 else b ρ M1
theorem Kp {c:Expr}(hc:PT X c (tT X ta))(ha:PE X a (tE X ga))(hb:PE X b (tE X gb)):PE X (.IfExp c a b pos) (tE X (nS ta ga gb)):=(A4 hc ha hb).of fun σ H Q hxx=>by
 obtain⟨ρ,θ,M,hd,hw,h⟩:=hxx;refine v7 hd hw (aE X θ H Q) (fun c M' h=>h) (fun h=>h) h fun c M1 θ1 H1 g1 h1=>?_
 cases c with
 | true=>rw[if_pos rfl];exact⟨ρ,θ1,M1,hd.go g1,g1.wr,aE.go g1 h1⟩
 | false=>rw[if_neg Bool.false_ne_true];exact⟨ρ,θ1,M1,hd.go g1,g1.wr,aE.go g1 h1⟩
def ai:GA:=fun _ M=>.ok [] M
def aa (g:GE)(r:GA):GA:=fun ρ M=>(g ρ M).bind fun d M1=>(r ρ M1).bind fun ds M2=>.ok (d::ds) M2
theorem nL {g:GA}{Q:List V→Hp→Prop}{α:Type}(hd:jp X.K θ H σ ρ)(hw:Wr X.K θ H M)(F:aO α→Prop)(Fe:∀c M',F (.err c M')→cj X θ H c M')(Fb:F .bad→False)
  {f:List D→au→aO α} (h:F ((g ρ M).bind f)) (k:∀ds M1 vs θ1 H1,Go X.K θ H θ1 H1 M1→ba X.K θ1 H1 ds vs→F (f ds M1)→Q vs H1):tA X g σ H Q:=by
 refine⟨ρ,θ,M,hd,hw,?_⟩;cases q:g ρ M with
 | ok d M1=>
  rw[q] at h;exact fun v θ1 H1 g1 r1=>k d M1 v θ1 H1 g1 r1 h
 | err c M1=>rw[q] at h;exact Fe c M1 h
 | bad=>rw[q] at h;exact(Fb h).elim
theorem Gv:PA X [] (tA X ai):=jZ.of fun σ H Q ⟨ρ,θ,M,hd,hw,f⟩=>f [] θ H (.refl hw) rfl
theorem Ds {gr:GA}(ha:PE X e (tE X ga))(hr:PA X es (tA X gr))(hs:starEach (e::es) X.env=(false,eval e X.env)::starEach es X.env:=by rfl):PA X (e::es) (tA X (aa ga gr)):=
 (f6 ha hr hs).of fun σ H Q hxx=>by
  obtain⟨ρ,θ,M,hd,hw,h⟩:=hxx;refine b7 hd hw (zH X θ H Q) (fun c M' h=>h) (fun h=>h) h fun d M1 v θ1 H1 g1 r1 h1=>?_
  refine nL (hd.go g1) g1.wr (zH X θ1 H1 Q) (fun c M' h=>h) (fun h=>h) (h1.go g1) fun ds M2 vs θ2 H2 g2 r2 h2=>?_
  exact h2 (v::vs) θ2 H2 g2 ⟨v,vs,rfl,r1.go g2,r2⟩
def oM (ds:List D)(M:au):aO D:=if ds.length≤sizeLine then .ok (.tup ds) M else .bad
def aA (ds:List D)(M:au):aO D:=if ds.length≤sizeLine then .ok (.lst ds) M else .bad
def b0 (ds:List D)(M:au):aO D:=if ds.length≤sizeLine then .ok (.mr M.length) (M++[.lst ds]) else .bad
def bT (g:GA):GE:=fun ρ M=>(g ρ M).bind oM
def eB (g:GA):GE:=fun ρ M=>(g ρ M).bind aA
def i6 (g:GA):GE:=fun ρ M=>(g ρ M).bind b0
theorem aE.tup {Q:VK}(h:aE X θ H Q (oM ds M))(hw:Wr X.K θ H M)(r:ba X.K θ H ds vs):vs.length≤sizeLine∧∀p,H p=none→Q (.ref p) (cA H p (.tup vs)):=by
 unfold oM at h
 by_cases hl:ds.length≤sizeLine
 ·rw[if_pos hl] at h;exact⟨by rw[←ay r];exact hl,fun p hp=>h _ θ _ (eD hw hp) (kD hw hp r)⟩
 ·rw[if_neg hl] at h;exact h.elim
theorem aE.lst {Q:VK}(h:aE X θ H Q (aA ds M))(hw:Wr X.K θ H M)(r:ba X.K θ H ds vs):vs.length≤sizeLine∧∀p,H p=none→Q (.ref p) (cA H p (.lst vs)):=by
 unfold aA at h
 by_cases hl:ds.length≤sizeLine
 ·rw[if_pos hl] at h;exact⟨by rw[←ay r];exact hl,fun p hp=>h _ θ _ (eD hw hp) (iu hw hp r)⟩
 ·rw[if_neg hl] at h;exact h.elim
theorem aE.mut {Q:VK}(h:aE X θ H Q (b0 ds M))(hw:Wr X.K θ H M)(r:ba X.K θ H ds vs):vs.length≤sizeLine∧∀p,H p=none→Q (.ref p) (cA H p (.lst vs)):=by
 unfold b0 at h
 by_cases hl:ds.length≤sizeLine
 ·rw[if_pos hl] at h;refine⟨by rw[←ay r];exact hl,fun p hp=>h _ (θ++[p]) _ (B5 hw hp r) ⟨p,rfl,?_⟩⟩;rw[←hw.len,getElem?_append_right (Nat.le_refl _)];simp
 ·rw[if_neg hl] at h;exact h.elim
theorem FH {x1}{g:GA}(h:PA X es (tA X g)):PE X (.Tuple es x1 pos) (tE X (bT g)):=(Fy h).of fun σ H Q ⟨ρ,θ,M,hd,hw,h⟩=>
 nL hd hw (aE X θ H Q) (fun c M' h=>h) (fun h=>h) h fun ds M1 vs θ1 H1 g1 r1 h1=>aE.tup (aE.go g1 h1) g1.wr r1
theorem GZ {g:GA}(h:PA X es (tA X g)):PE X (.List es pos) (tE X (eB g)):=(BV h).of fun σ H Q ⟨ρ,θ,M,hd,hw,h⟩=>
 nL hd hw (aE X θ H Q) (fun c M' h=>h) (fun h=>h) h fun ds M1 vs θ1 H1 g1 r1 h1=>aE.lst (aE.go g1 h1) g1.wr r1
theorem G1 {g:GA}(h:PA X es (tA X g)):PE X (.List es pos) (tE X (i6 g)):=(BV h).of fun σ H Q ⟨ρ,θ,M,hd,hw,h⟩=>
 nL hd hw (aE X θ H Q) (fun c M' h=>h) (fun h=>h) h fun ds M1 vs θ1 H1 g1 r1 h1=>aE.mut (aE.go g1 h1) g1.wr r1
end
section
variable {K:W.Frag}{θ:List Addr}{H:Hp}{σ:L2.St}{ρ:bI}
theorem jp.set (h:jp K θ H σ ρ)(r:cP K θ H d v)(i:Nat):jp K θ H (σ.set i (some v)) (ρ.set i (some d)):=by
 refine⟨by rw[length_set,length_set];exact h.len,fun j d' e=>?_⟩
 by_cases hj:j=i
 ·subst hj;have hl:j<ρ.length:=by
   have:=(List.getElem?_eq_some_iff.mp e).1;rw[length_set] at this;exact this
  rw[getElem?_set_self hl] at e;have e':d=d':=by simpa using e
  subst e';exact⟨v,getElem?_set_self (by rw[←h.len];exact hl),r⟩
 ·rw[getElem?_set_ne (Ne.symm hj)] at e;obtain⟨u,e1,r1⟩:=h.at_ j d' e;exact⟨u,by rw[getElem?_set_ne (Ne.symm hj)];exact e1,r1⟩
end
def aX:GS:=fun ρ M=>.ok (.nx ρ) M
def ax (a b:GS):GS:=fun ρ M=>(a ρ M).bind fun f M1=>match f with
 | .nx ρ1=>b ρ1 M1
 | .rt d=>.ok (.rt d) M1
 | .bk ρ1=>.ok (.bk ρ1) M1
 | .ct ρ1=>.ok (.ct ρ1) M1
def aF (i:Nat)(g:GE):GS:=fun ρ M=>(g ρ M).bind fun d M1=>.ok (.nx (ρ.set i (some d))) M1
def aH (g:GE):GS:=fun ρ M=>(g ρ M).bind fun d M1=>.ok (.rt d) M1
def gP (g:GE):GS:=fun ρ M=>(g ρ M).bind fun _ M1=>.ok (.nx ρ) M1
def fJ (t:GT)(a b:GS):GS:=fun ρ M=>(t ρ M).bind fun c M1=>if c then a ρ M1 else b ρ M1
variable{x:Str}{is:List Nat}{n:Nat}
section
variable {X:Cx}{st:Stmt}{ap:List Stmt}{e:Expr}{g:GE}{t u:GS}{pos:Pos}
theorem Fo:PSs X [] (tS X aX):=CI.of fun D σ H ⟨ρ,θ,M,hd,hw,f⟩=>f σ θ H (.refl hw) hd
theorem DP (h1:PS X st (tS X t))(h2:PSs X ap (tS X u)):PSs X (st::ap) (tS X (ax t u)):=(Ad h1 h2).of fun D σ H hxx=>by
 obtain⟨ρ,θ,M,hd,hw,h⟩:=hxx;refine⟨ρ,θ,M,hd,hw,?_⟩;unfold ax at h;cases q:t ρ M with
 | ok f M1=>
  rw[q] at h;cases f with
  | nx ρ1=>exact fun σ1 θ1 H1 g1 d1=>⟨ρ1,θ1,M1,d1,g1.wr,dm.go g1 h⟩
  | rt d=>exact h
  | bk ρ1=>exact h
  | ct ρ1=>exact h
 | err c M1=>rw[q] at h;exact h
 | bad=>rw[q] at h;exact h
theorem Fs (h1:PS X st (tS X t)):PSs X [st] (tS X t):=CG h1
theorem Fx {pos':Pos}(hN:X.N.Nodup)(hi:X.N[i]?=some x)(hx:xU X.env.scope x)(he:PE X e (tE X g))(hs:swapsWith e (some (.Name x pos')) pos.line X.env=pure false:=by rfl)(hf:X.fn x=true∨X.env.scope.names.lookup x=some .local:=by first|exact .inl rfl|exact .inr rfl|assumption) :
  PS X (.Assign [.Name x pos'] e pos) (tS X (aF i g)):=(Hx hN hi hx he hs hf).of fun D σ H ⟨ρ,θ,M,hd,hw,h⟩=>
 b7 hd hw (dm X θ H D) (fun c M' h=>h) (fun h=>h) h fun d M1 v θ1 H1 g1 r1 h1=>h1 _ θ1 H1 g1 ((hd.go g1).set r1 i)
theorem G7 (he:PE X e (tE X g)):PS X (.Return (some e) pos) (tS X (aH g)):=(FE he).of fun D σ H ⟨ρ,θ,M,hd,hw,h⟩=>
 b7 hd hw (dm X θ H D) (fun c M' h=>h) (fun h=>h) h fun d M1 v θ1 H1 g1 r1 h1=>h1 v θ1 H1 g1 r1
theorem Cw (he:PE X e (tE X g))(hs:swapsWith e none pos.line X.env=pure false:=by rfl):PS X (.Expr e pos) (tS X (gP g)):=(DC he hs).of fun D σ H ⟨ρ,θ,M,hd,hw,h⟩=>
 b7 hd hw (dm X θ H D) (fun c M' h=>h) (fun h=>h) h fun d M1 v θ1 H1 g1 r1 h1=>h1 σ θ1 H1 g1 (hd.go g1)
theorem JJ {c:Expr}{a b:List Stmt}{tc:GT}(hc:PT X c (tT X tc))(ha:PSs X a (tS X t))(hb:PSs X b (tS X u)):PS X (.If c a b pos) (tS X (fJ tc t u)):=(Kk hc ha hb).of fun D σ H hxx=>by
 obtain⟨ρ,θ,M,hd,hw,h⟩:=hxx;refine v7 hd hw (dm X θ H D) (fun c M' h=>h) (fun h=>h) h fun c M1 θ1 H1 g1 h1=>?_
 cases c with
 | true=>rw[if_pos rfl];exact⟨ρ,θ1,M1,hd.go g1,g1.wr,dm.go g1 h1⟩
 | false=>rw[if_neg Bool.false_ne_true];exact⟨ρ,θ1,M1,hd.go g1,g1.wr,dm.go g1 h1⟩
abbrev GG:=D→bI→Option bI
def tG (X:Cx)(s:GG):TG:=fun v σ H Q=>∃ρ θ M d,jp X.K θ H σ ρ∧Wr X.K θ H M∧cP X.K θ H d v∧∃ρ',s d ρ=some ρ'∧∀σ',jp X.K θ H σ' ρ'→Q σ' H
def cn (i:Nat):GG:=fun d ρ=>some (ρ.set i (some d))
def mU:List Nat→List D→bI→Option bI
 | [],[],ρ=>some ρ
 | i::is,d::ds,ρ=>mU is ds (ρ.set i (some d))
 | _,_,_=>none
def dU (is:List Nat):GG:=fun d ρ=>match d with
 | .tup ds=>mU is ds ρ
 | _=>none
theorem tX (hN:X.N.Nodup)(hi:X.N[i]?=some x)(hx:xU X.env.scope x)(hf:X.fn x=true∨X.env.scope.names.lookup x=some .local:=by first|exact .inl rfl|exact .inr rfl|assumption):PG X (.Name x pos) (tG X (cn i)):=by
 intro ae s σ H v u Q I r h;obtain⟨ρ,θ,M,d,hd,hw,rd,ρ',e,h⟩:=h;cases e;exact Eg hN hi hx hf ae s σ H v u Q I r (h _ (hd.set rd i))
def Ka (X:Cx)(is:List Nat):EH:=fun vs σ H Q=>∃ρ θ M ds,jp X.K θ H σ ρ∧Wr X.K θ H M∧ba X.K θ H ds vs∧∃ρ',mU is ds ρ=some ρ'∧∀σ',jp X.K θ H σ' ρ'→Q σ' H
theorem Dz:CJ X [] (Ka X []):=by
 intro ae s σ H vs us Q I r h;obtain⟨ρ,θ,M,ds,hd,hw,rd,ρ',e,h⟩:=h;cases ds with
 | cons d ds=>cases e
 | nil=>
  have e2:vs=[]:=rd;subst e2;cases e;exact DO ae s σ H [] us Q I r ⟨rfl,h σ hd⟩
theorem AF (h1:PG X e (tG X (cn i)))(h2:CJ X es (Ka X is))
  (hs:(assignEach (e::es) X.env).map (·.2)=assign e X.env::(assignEach es X.env).map (·.2):=by rfl):CJ X (e::es) (Ka X (i::is)):=by
 intro ae s σ H vs us Q I r h;obtain⟨ρ,θ,M,ds,hd,hw,rd,ρ',e1,h⟩:=h;cases ds with
 | nil=>cases e1
 | cons d ds=>
  obtain⟨v,vr,e2,rv,rr⟩:=rd;subst e2;refine B8 h1 h2 hs ae s σ H _ us Q I r ⟨v,vr,rfl,ρ,θ,M,d,hd,hw,rv,_,rfl,fun σ1 d1=>?_⟩;exact⟨_,θ,M,ds,d1,hw,rr,ρ',e1,h⟩
theorem GD {k:Nat}(hc:X.calm=true)(h:CJ X es (Ka X is))(hl:is.length=n:=by rfl)
  (hn:(assignEach es X.env).length=n:=by rfl) (hst:(assignEach es X.env).findIdx? (·.1)=none:=by rfl):PG X (.Tuple es k pos) (tG X (dU is)):=by
 intro ae s σ H v u Q I r hw;obtain⟨ρ,θ,M,d,hd,hwr,rd,ρ',e1,hw⟩:=hw;cases d with
 | tup ds=>
  obtain⟨a,vs,e2,ta,rs⟩:=rd;have hlen:ds.length=is.length:=by
   have e1:mU is ds ρ=some ρ':=e1;clear hw hd hwr rs hn hst h hl
   induction is generalizing ds ρ with
   | nil=>
    cases ds with
    | nil=>rfl
    | cons _ _=>cases e1
   | cons i is ih=>
    cases ds with
    | nil=>cases e1
    | cons d ds=>rw[length_cons,length_cons,ih _ ds e1 e1]
  refine G3 (n:=n) hc h hn hst ae s σ H v u Q I r ⟨a,vs,e2,ta.sq,by rw[←ay rs,hlen,hl],?_⟩;exact⟨ρ,θ,M,ds,hd,hwr,rs,ρ',e1,hw⟩
 | _=>cases e1
def xD:List GG→List D→bI→Option bI
 | [],[],ρ=>some ρ
 | s::ss,d::ds,ρ=>match s d ρ with
  | some ρ1=>xD ss ds ρ1
  | none=>none
 | _,_,_=>none
def i3 (s:GG)(g:GE):GS:=fun ρ M=>(g ρ M).bind fun d M1=>match s d ρ with
 | some ρ1=>.ok (.nx ρ1) M1
 | none=>.bad
theorem FT {tg:Expr}{s:GG}(he:PE X e (tE X g))(hg:PG X tg (tG X s))(hs:swapsWithSole [tg] e pos.line X.env=pure false:=by rfl)(hw:swappedStores [tg] e X.env=pure none:=by rfl)
  (h1:(assignEach [tg] X.env).map (·.2)=[assign tg X.env]:=by rfl):PS X (.Assign [tg] e pos) (tS X (i3 s g)):=(A3 he hg hs hw h1).of fun D σ H hxx=>by
 obtain⟨ρ,θ,M,hd,hwr,h⟩:=hxx;refine b7 hd hwr (dm X θ H D) (fun c M' h=>h) (fun h=>h) h fun d M1 v θ1 H1 g1 r1 h1=>?_
 cases q:s d ρ with
 | some ρ1=>
  rw[q] at h1;exact⟨ρ,θ1,M1,d,hd.go g1,g1.wr,r1,ρ1,q,fun σ' d'=>h1 σ' θ1 H1 g1 d'⟩
 | none=>rw[q] at h1;exact h1.elim
def zT (o i x:D)(M:au):aO Unit:=match o,i with
 | .mr k,.int j=>match M[k]? with
  | some (.lst xs)=>match Dj xs.length j with
   | some n=>.ok () (M.set k (.lst (xs.set n x)))
   | none=>.bad
  | _=>.bad
 | _,_=>.bad
def kM (go gi g:GE):GS:=fun ρ M=>(g ρ M).bind fun x M1=>(go ρ M1).bind fun o M2=>(gi ρ M2).bind fun i M3=>(zT o i x M3).bind fun _ M4=>.ok (.nx ρ) M4
theorem Hn {o i:Expr}{ip:Pos}{go gi:GE}(he:PE X e (tE X g))(ho:PE X o (tE X go))(hi:PE X i (tE X gi))
  (ha:∀v,assign (.Subscript o i ip) X.env v=(do
   let ov ←holding [v] (eval o X.env)
   let iv ←holding [v,ov] (eval i X.env)
   standAt ip
   holding [v,ov,iv] (setItem ov iv v)
   release [v,ov,iv] []):=by intro _;rfl)
  (hs:swapsWithSole [.Subscript o i ip] e pos.line X.env=pure false:=by rfl) (hw:swappedStores [.Subscript o i ip] e X.env=pure none:=by rfl)
  (h1:(assignEach [.Subscript o i ip] X.env).map (·.2)=[assign (.Subscript o i ip) X.env]:=by rfl):PS X (.Assign [.Subscript o i ip] e pos) (tS X (kM go gi g)):=
 (A3 he (EM ho hi B0 ha) hs hw h1).of fun D σ H hxx=>by
  obtain⟨ρ,θ,M,hd,hwr,h⟩:=hxx;refine b7 hd hwr (dm X θ H D) (fun c M' h=>h) (fun h=>h) h fun dx M1 vx θ1 H1 g1 r1 h1=>?_
  refine b7 (hd.go g1) g1.wr (dm X θ1 H1 D) (fun c M' h=>h) (fun h=>h) (h1.go g1) fun dob M2 vo θ2 H2 g2 r2 h2=>?_
  refine b7 ((hd.go g1).go g2) g2.wr (dm X θ2 H2 D) (fun c M' h=>h) (fun h=>h) (h2.go g2) fun di M3 vi θ3 H3 g3 r3 h3=>?_
  have h4:=h3.go g3;unfold zT at h4;split at h4
  ·rename_i k j;split at h4
   ·rename_i xs q;split at h4
    ·rename_i n hn;obtain⟨a,ea,ta⟩:=r2.go g3;obtain⟨vs,ev,rv⟩:=g3.wr.at_ k a _ ta q;have ei:vi=.int j:=r3;refine⟨a,vs,j,n,ea,ei,ev,by rw[←ay rv];exact hn,?_⟩;have gs:=ur (ds:=xs) g3.wr ta (vI (r1.go (g2.trans g3)) n rv);exact h4 σ θ3 _ gs ((((hd.go g1).go g2).go g3).go gs)
    ·exact h4.elim
   ·exact h4.elim
  ·exact h4.elim
end
mutual
def C8:D→D→Bool
 | .non,.non=>true
 | .bl a,.bl b=>a==b
 | .int a,.int b=>a==b
 | .str a,.str b=>a==b
 | .tup a,.tup b=>kQ a b
 | .lst a,.lst b=>kQ a b
 | .ro a,.ro b=>kQ a b
 | .mr a,.mr b=>a==b
 | .exc a,.exc b=>a==b
 | .any,.any=>true
 | _,_=>false
def kQ:List D→List D→Bool
 | [],[]=>true
 | a::as,b::bs=>C8 a b&&kQ as bs
 | _,_=>false
end
theorem ff {P:Prop}(h:false=true):P:=absurd h Bool.false_ne_true
mutual
theorem DB:∀(a b:D),C8 a b=true→a=b
 | .non,b,h=>by
  cases b with
  | non=>rfl
  | _=>exact ff h
 | .bl x,b,h=>by
  cases b with
  | bl y=>rw[eq_of_beq (show(x==y)=true from h)]
  | _=>exact ff h
 | .int x,b,h=>by
  cases b with
  | int y=>rw[eq_of_beq (show(x==y)=true from h)]
  | _=>exact ff h
 | .str x,b,h=>by
  cases b with
  | str y=>rw[eq_of_beq (show(x==y)=true from h)]
  | _=>exact ff h
 | .tup x,b,h=>by
  cases b with
  | tup y=>rw[jU x y h]
  | _=>exact ff h
 | .lst x,b,h=>by
  cases b with
  | lst y=>rw[jU x y h]
  | _=>exact ff h
 | .ro x,b,h=>by
  cases b with
  | ro y=>rw[jU x y h]
  | _=>exact ff h
 | .mr x,b,h=>by
  cases b with
  | mr y=>rw[eq_of_beq (show(x==y)=true from h)]
  | _=>exact ff h
 | .exc x,b,h=>by
  cases b with
  | exc y=>rw[eq_of_beq (show(x==y)=true from h)]
  | _=>exact ff h
 | .any,b,h=>by
  cases b with
  | any=>rfl
  | _=>exact ff h
theorem jU:∀(a b:List D),kQ a b=true→a=b
 | [],b,h=>by
  cases b with
  | nil=>rfl
  | cons _ _=>exact ff h
 | x::xs,b,h=>by
  cases b with
  | nil=>exact ff h
  | cons y ys=>
   have h:=Bool.and_eq_true_iff.mp (show(C8 x y&&kQ xs ys)=true from h);rw[DB x y h.1,jU xs ys h.2]
end
mutual
theorem yT:∀(a:D),C8 a a=true
 | .non=>rfl
 | .bl x=>beq_self_eq_true x
 | .int x=>beq_self_eq_true x
 | .str x=>beq_self_eq_true x
 | .tup x=>gZ x
 | .lst x=>gZ x
 | .ro x=>gZ x
 | .mr x=>beq_self_eq_true x
 | .exc x=>beq_self_eq_true x
 | .any=>rfl
theorem gZ:∀(a:List D),kQ a a=true
 | []=>rfl
 | x::xs=>Bool.and_eq_true_iff.mpr ⟨yT x,gZ xs⟩
end
structure iM where
 ds:List D
 m:Option Nat
def iM.ok (t:iM)(M:au):Bool:=match t.m with
 | none=>true
 | some i=>match M[i]? with
  | some (.lst xs)=>kQ xs t.ds
  | _=>false
abbrev GI:=bI→au→aO iM
def wQ (K:W.Frag)(J:It)(θ:List Addr)(H:Hp)(t:iM):Prop:=∀θ1 H1 M1,Go K θ H θ1 H1 M1→t.ok M1=true→∀i:Nat,
 (∀d,t.ds[i]?=some d→J.go i H1∧∀x H2,J.yld i H1 x H2→Go K θ1 H1 θ1 H2 M1∧cP K θ1 H2 d x)∧(t.ds.length≤i→J.stop i H1)
def zg (X:Cx)(θ:List Addr)(H:Hp)(R:It→Hp→Prop):aO iM→Prop
 | .ok t M'=>∀J θ' H',Go X.K θ H θ' H' M'→wQ X.K J θ' H' t→R J H'
 | .err c M'=>cj X θ H c M'
 | .bad=>False
def tI (X:Cx)(g:GI):TI:=fun σ H R=>∃ρ θ M,jp X.K θ H σ ρ∧Wr X.K θ H M∧zg X θ H R (g ρ M)
def mM (d:D)(M:au):aO iM:=match d with
 | .lst ds=>.ok ⟨ds,none⟩ M
 | .ro ds=>.ok ⟨ds,none⟩ M
 | .tup ds=>.ok ⟨ds,none⟩ M
 | .mr k=>match M[k]? with
  | some (.lst ds)=>.ok ⟨ds,some k⟩ M
  | _=>.bad
 | _=>.bad
def bq (g:GE):GI:=fun ρ M=>(g ρ M).bind mM
variable{iter:Expr}{body:List Stmt}{sg:GG}
section
variable {X:Cx}{tg:Expr}
theorem Et {l:Expr}{tl:TE}(hl:PE X l tl):PI X tg l (fun σ H R=>tl σ H fun x H1=>∃a,x=.ref a∧(((∃xs,m3 X.K H1 a xs)∧R (IG X.K a) H1)∨((∃xs,pP X.K H1 a xs)∧R (JY X.K a) H1))):=by
 intro ae s σ H R I h;refine cb (hl ae s σ H _ I h) fun v s1 hxx=>?_
 obtain⟨x,H1,I1,r1,q1⟩:=hxx;obtain⟨a,e,q1⟩:=q1;subst e;cases r1;rcases q1 with⟨⟨xs,hq⟩,q⟩|⟨⟨xs,hq⟩,q⟩
 ·obtain⟨its,rv,p,hz⟩:=I1.list hq;refine wpAny_pyIter_list p.isList ?_;refine⟨s1.heap.objs.size,[s1.heap.objs.size],_,_,H1,rfl,I1.kept (t':=s1.toks) fun b o e=>Heap.get?_push_of_some _ e,rK a _,⟨_,Heap.get?_push_size _ rfl,rfl,rfl⟩,fun b hb=>?_,q⟩;have e:b=s1.heap.objs.size:=by simpa using hb
  subst e;exact I1.fpOk (Nat.le_refl _) (I1.hok.fresh (Nat.le_refl _))
 ·obtain⟨its,rv,p,hz⟩:=I1.tuple hq;refine wpAny_pyIter_tuple (show s1.heap.IsTuple a its.toArray from p) ?_;refine⟨s1.heap.objs.size,[s1.heap.objs.size],_,_,H1,rfl,I1.kept (t':=s1.toks) fun b o e=>Heap.get?_push_of_some _ e,pr a _,⟨_,Heap.get?_push_size _ rfl,rfl,rfl⟩,fun b hb=>?_,q⟩;have e:b=s1.heap.objs.size:=by simpa using hb
  subst e;exact I1.fpOk (Nat.le_refl _) (I1.hok.fresh (Nat.le_refl _))
theorem og (ta:wL K θ H a vs)(r:ba K θ H ds vs):wQ K (IG K a) θ H ⟨ds,none⟩:=by
 intro θ1 H1 M1 g _ i;have t1:=(ta.grow g.toGrow).sq;have r1:=r.go g;refine⟨fun d e=>?_,fun hl=>⟨vs,t1,by rw[←ay r1];exact hl⟩⟩;obtain⟨v,e1,rv⟩:=g9 r1 e;refine⟨⟨vs,v,t1,e1⟩,fun x H2 y=>?_⟩;obtain⟨eH,y⟩:=y;subst eH;have e2:=y vs t1;rw[e1] at e2;cases e2;exact⟨.refl g.wr,rv⟩
theorem xH (ta:nz K θ H a vs)(r:ba K θ H ds vs):wQ K (JY K a) θ H ⟨ds,none⟩:=by
 intro θ1 H1 M1 g _ i;have t1:=(ta.grow g.toGrow).sq;have r1:=r.go g;refine⟨fun d e=>?_,fun hl=>⟨vs,t1,by rw[←ay r1];exact hl⟩⟩;obtain⟨v,e1,rv⟩:=g9 r1 e;refine⟨⟨vs,v,t1,e1⟩,fun x H2 y=>?_⟩;obtain⟨eH,y⟩:=y;subst eH;have e2:=y vs t1;rw[e1] at e2;cases e2;exact⟨.refl g.wr,rv⟩
theorem xZ {k:Nat}(ta:θ[k]?=some a):wQ K (IG K a) θ H ⟨ds,some k⟩:=by
 intro θ1 H1 M1 g hok i;have t1:θ1[k]?=some a:=by
  obtain⟨m,em,_⟩:=g.ext;rw[em,getElem?_append_left (List.getElem?_eq_some_iff.mp ta).1];exact ta
 have hok':(match M1[k]? with|some (.lst xs)=>kQ xs ds|_=>false)=true:=hok;cases q:M1[k]? with
 | none=>rw[q] at hok';cases hok'
 | some m=>
  cases m with
  | lst xs=>
   rw[q] at hok';have e:xs=ds:=jU xs ds hok';subst e;obtain⟨vs,hv,r1⟩:=g.wr.at_ k a _ t1 q;have s1:m3 K H1 a vs:=.inl (.inl hv);refine⟨fun d e=>?_,fun hl=>⟨vs,s1,by rw[←ay r1];exact hl⟩⟩;obtain⟨v,e1,rv⟩:=g9 r1 e;refine⟨⟨vs,v,s1,e1⟩,fun x H2 y=>?_⟩;obtain⟨eH,y⟩:=y;subst eH;have e2:=y vs s1;rw[e1] at e2;cases e2;exact⟨.refl g.wr,rv⟩
  | _=>rw[q] at hok';cases hok'
theorem HE {l:Expr}(hl:PE X l (tE X g)):PI X tg l (tI X (bq g)):=by
 intro ae s σ H R I h;refine Et hl ae s σ H R I ?_;obtain⟨ρ,θ,M,hd,hw,h⟩:=h;refine b7 hd hw (zg X θ H R) (fun c M' h=>h) (fun h=>h) h fun d M1 v θ1 H1 g1 r1 h1=>?_
 cases d with
 | lst ds=>
  obtain⟨a,vs,e,ta,r⟩:=r1;exact⟨a,e,.inl ⟨⟨vs,ta.sq⟩,h1 _ θ1 H1 g1 (og (.inl ⟨.inl ta.1,ta.2⟩) r)⟩⟩
 | ro ds=>
  obtain⟨a,vs,e,ta,r⟩:=r1;exact⟨a,e,.inl ⟨⟨vs,ta.sq⟩,h1 _ θ1 H1 g1 (og ta r)⟩⟩
 | tup ds=>
  obtain⟨a,vs,e,ta,r⟩:=r1;exact⟨a,e,.inr ⟨⟨vs,ta.sq⟩,h1 _ θ1 H1 g1 (xH ta r)⟩⟩
 | mr k=>
  obtain⟨a,e,ta⟩:=r1;have h2:zg X θ H R (match M1[k]? with|some (.lst ds)=>.ok ⟨ds,some k⟩ M1|_=>.bad):=h1;cases q:M1[k]? with
  | none=>rw[q] at h2;exact h2.elim
  | some m=>
   cases m with
   | lst ds=>
    rw[q] at h2;obtain⟨vs,hv,r⟩:=g1.wr.at_ k a _ ta q;exact⟨a,e,.inl ⟨⟨vs,.inl (.inl hv)⟩,h2 _ θ1 H1 g1 (xZ ta)⟩⟩
   | _=>rw[q] at h2;exact h2.elim
 | _=>exact h1.elim
def a9 (lo:Int)(n:Nat):List D:=(List.range n).map fun(k:Nat)=>D.int (lo+(k:Int))
theorem DS (lo:Int)(n:Nat):wQ K (Kz lo n) θ H ⟨a9 lo n,none⟩:=by
 intro θ1 H1 M1 g _ i;refine⟨fun d e=>?_,fun hl=>?_⟩
 ·have hi:i<n:=by
   have:=(List.getElem?_eq_some_iff.mp e).1;simpa[a9] using this
  refine⟨hi,fun x H2 y=>?_⟩;obtain⟨eH,y⟩:=y;subst eH;refine⟨.refl g.wr,?_⟩;have e':D.int (lo+(i:Int))=d:=by
   have:(a9 lo n)[i]?=some (D.int (lo+(i:Int))):=by simp[a9,hi]
   rw[this] at e;exact Option.some.inj e
  subst e';exact y
 ·have h2:(a9 lo n).length≤i:=hl;have h3:n≤i:=by simpa[a9] using h2
  exact h3
def AE (ds:List D)(M:au):aO iM:=match ds with
 | [.int j]=>if -(2 ^ 62)≤j∧j<2 ^ 62 then .ok ⟨a9 0 j.toNat,none⟩ M else .bad
 | _=>.bad
def dX (g:GA):GI:=fun ρ M=>(g ρ M).bind AE
theorem yO {a:Expr}{g:GA}{p pos:Pos}(hg:Gl X "range")(hm:X.mg "range"=none)(ha:PA X [a] (tA X g))(hs:starEach [a] X.env=[(false,eval a X.env)]:=by rfl):PI X tg (.Call (.Name "range" p) [a] [] pos) (tI X (dX g)):=by
 intro ae s σ H R I h;refine zQ hg hm ha hs ae s σ H R I ?_;obtain⟨ρ,θ,M,hd,hw,h⟩:=h;refine nL hd hw (zg X θ H R) (fun c M' h=>h) (fun h=>h) h fun ds M1 vs θ1 H1 g1 r1 h1=>?_
 unfold AE at h1;split at h1
 ·rename_i j;obtain⟨v,r,e,rv,rr⟩:=r1;have e2:r=[]:=rr;have e3:v=.int j:=rv;subst e2;subst e3;split at h1
  ·rename_i hj;exact⟨j,e,hj.1,hj.2,h1 _ θ1 H1 g1 (DS 0 j.toNat)⟩
  ·exact h1.elim
 ·exact h1.elim
def dj (t:iM)(s:GG)(body:GS):List D→bI→au→aO Fl
 | [],ρ,M=>if t.ok M then .ok (.nx ρ) M else .bad
 | d::r,ρ,M=>if t.ok M then
   match s d ρ with
   | none=>.bad
   | some ρ1=>(body ρ1 M).bind fun f M1=>match f with
    | .nx ρ2=>dj t s body r ρ2 M1
    | .ct ρ2=>dj t s body r ρ2 M1
    | .bk ρ2=>.ok (.nx ρ2) M1
    | .rt d=>.ok (.rt d) M1
  else .bad
def nq (gi:GI)(s:GG)(body:GS):GS:=fun ρ M=>(gi ρ M).bind fun t M1=>dj t s body t.ds ρ M1
theorem Dr {gi:GI}{gb:GS}{pos:Pos}(hp:PassesOwn (model X.prog X.w) X.A X.env X.xe)(hc:X.calm=true)(hi:K6 X tg iter (tI X gi))(hg:PG X tg (tG X sg))(hb:PSs X body (tS X gb))
  (hs:∀x,foldedSetIterable iter X.env x=pure x:=by intro _;rfl):PS X (.For tg iter body [] pos) (tS X (nq gi sg gb)):=(Gu hp hc hi hg hb hs).of fun D σ H hxx=>by
 obtain⟨ρ,θ,M,hd,hw,h⟩:=hxx;refine⟨ρ,θ,M,hd,hw,?_⟩;unfold nq at h;cases q:gi ρ M with
 | err c M1=>rw[q] at h;exact h
 | bad=>rw[q] at h;exact h
 | ok t M1=>
  rw[q] at h;intro J θ1 H1 g1 hJ;have h:dm X θ H D (dj t sg gb t.ds ρ M1):=h;refine⟨fun i m σ' H'=>m=t.ds.length-i∧i≤t.ds.length∧∃ρ' θ' M',Go X.K θ1 H1 θ' H' M'∧jp X.K θ' H' σ' ρ'∧dm X θ' H' D (dj t sg gb (t.ds.drop i) ρ' M'),
   ⟨t.ds.length,by simp,Nat.zero_le _,ρ,θ1,M1,.refl g1.wr,hd.go g1,dm.go g1 h⟩,?_⟩
  rintro i m σ' H' ⟨rfl,hil,ρ',θ',M',g',hd',h'⟩
  by_cases hok:t.ok M'=true
  ·obtain⟨hy,hst⟩:=hJ θ' H' M' g' hok i
   by_cases hlt:i<t.ds.length
   ·refine .inr ?_;have e1:t.ds[i]?=some t.ds[i]:=getElem?_eq_getElem hlt;obtain⟨hgo,hyl⟩:=hy _ e1;rw[drop_eq_getElem_cons hlt,dj,if_pos hok] at h';refine⟨hgo,fun σ2 H2=>∃ρ2 θ2 M2,Go X.K θ' H' θ2 H2 M2∧jp X.K θ2 H2 σ2 ρ2∧dm X θ2 H2 D (dj t sg gb (t.ds.drop (i+1)) ρ2 M2),fun σ2 H2 ⟨ρ2,θ2,M2,g2,d2,h2⟩=>?_,fun x H2 y=>?_⟩
    ·exact⟨t.ds.length-(i+1),by omega,rfl,hlt,ρ2,θ2,M2,g'.trans g2,d2,h2⟩
    ·obtain⟨gy,rx⟩:=hyl x H2 y;cases qs:sg t.ds[i] ρ' with
     | none=>rw[qs] at h';exact h'.elim
     | some ρ1=>
      rw[qs] at h';refine⟨ρ',θ',M',_,hd'.go gy,gy.wr,rx,ρ1,qs,fun σ1 d1=>⟨ρ1,θ',M',d1,gy.wr,?_⟩⟩;have h':dm X θ' H2 D ((gb ρ1 M').bind _):=dm.go gy h';cases qb:gb ρ1 M' with
      | err c M2=>rw[qb] at h';exact h'
      | bad=>rw[qb] at h';exact h'
      | ok f M2=>
       rw[qb] at h';cases f with
       | nx ρ2=>exact fun σ2 θ2 H3 g2 d2=>⟨ρ2,θ2,M2,gy.trans g2,d2,dm.go g2 h'⟩
       | ct ρ2=>exact fun σ2 θ2 H3 g2 d2=>⟨ρ2,θ2,M2,gy.trans g2,d2,dm.go g2 h'⟩
       | bk ρ2=>exact h'
       | rt d=>exact h'
   ·have e:i=t.ds.length:=by omega
    subst e;rw[drop_length,dj,if_pos hok] at h';exact .inl ⟨hst (Nat.le_refl _),h' σ' θ' H' (.refl g'.wr) hd'⟩
  ·have hz:dm X θ' H' D .bad:=by
    cases hdr:t.ds.drop i with
    | nil=>rw[hdr,dj,if_neg hok] at h';exact h'
    | cons d r=>rw[hdr,dj,if_neg hok] at h';exact h'
   exact hz.elim
theorem F6 {gi:GI}{gb:GS}{pos:Pos}(hp:PassesOwn (model X.prog X.w) X.A X.env X.xe)(hc:X.calm=true)(hi:PI X tg iter (tI X gi))(hg:PG X tg (tG X sg))(hb:PSs X body (tS X gb))
  (hs:∀x,foldedSetIterable iter X.env x=pure x:=by intro _;rfl):PS X (.For tg iter body [] pos) (tS X (nq gi sg gb)):=Dr hp hc hi.toF hg hb hs
end
def Ha (K:W.Frag)(θ:List Addr)(H:Hp)(E:XK)(c:Str)(M:au):Prop:=∀C θ' H' a,nD K c C→Go K θ H θ' H' M→E (.ref C) (some a) H'
def AW (K:W.Frag)(θ:List Addr)(H:Hp)(Q:VK)(E:XK):aO D→Prop
 | .ok d M'=>∀v θ' H',Go K θ H θ' H' M'→cP K θ' H' d v→Q v H'
 | .err c M'=>Ha K θ H E c M'
 | .bad=>False
abbrev FD:=List D→au→aO D
def xw (K:W.Frag)(n:Nat)(F:FD):Sp:=fun vs H Q E=>∃θ M ds,ds.length=n∧ba K θ H ds vs∧Wr K θ H M∧AW K θ H Q E (F ds M)
variable{F:FD}{ps:List Str}
theorem CT (hn:ps.length=n):∀vs H Q E,xw K n F vs H Q E→vs.length=ps.length:=fun vs H Q E ⟨θ,M,ds,hl,r,_⟩=>by rw[hn,←hl,ay r]
def pq (k:Nat)(ds:List D):bI:=ds.map some++List.replicate k none
def az (o:aO Fl):aO D:=o.bind fun f M=>match f with
 | .rt d=>.ok d M
 | .nx _=>.ok .non M
 | _=>.bad
def bv (k:Nat)(g:GS):FD:=fun ds M=>az (g (pq k ds) M)
theorem LH (r:ba K θ H ds vs)(N:List Str):jp K θ H (L2.start N vs) (pq (N.length-vs.length) ds):=by
 have hl:=ay r;refine⟨by simp[L2.start,pq,hl],fun i d e=>?_⟩;unfold pq at e
 by_cases hi:i<ds.length
 ·rw[getElem?_append_left (by simpa using hi),getElem?_map] at e;cases q:ds[i]? with
  | none=>rw[q] at e;cases e
  | some d'=>
   rw[q] at e;have e':d'=d:=by simpa using e
   subst e';obtain⟨v,e1,rv⟩:=g9 r q;refine⟨v,?_,rv⟩;unfold L2.start;rw[getElem?_append_left (by rw[length_map,←hl];exact hi),getElem?_map,e1];rfl
 ·rw[getElem?_append_right (by simpa using hi),getElem?_replicate] at e;split at e <;> cases e
variable{fd:FuncData}
section
variable {P:Program}{w:World}{K:W.Frag}{mg:Str→Option Value}{base:Heap}
theorem LB {qual:Str}{st:Stmt}{N:List Str}{k:Nat}{g:GS}(F:FX K x qual st f fd)(S:kI N ps (bJ st))(hn:ps.length=n)
  (hbody:∀(cdv:Value) (A:Around) (outer:List Env) (s:Shared) (H:Hp) (E:XK),d7 k (A.deeper (envOfC qual (bJ st) s.heap.objs.size f cdv))→
   PSs (mv (nQ P w) P w K mg base N qual (bJ st) f cdv A outer s H E) (fE st) (tS (mv (nQ P w) P w K mg base N qual (bJ st) f cdv A outer s H E) g)) :
  iT P w K mg base (nQ P w) (k+1) f fd ps (xw K n (bv (N.length-n) g)):=by
 obtain⟨oc,od,kV,doc,pm,an,cdv,ct,osl,rfl,lk,hcd⟩:=F.ex;refine Il lk hcd S (CT hn) fun A outer s H vs Q E hr h=>⟨_,hbody cdv A outer s H E hr,?_⟩
 obtain⟨θ,M,ds,hl,r,hw,h⟩:=h;have hv:vs.length=n:=by rw[←ay r];exact hl
 refine⟨pq (N.length-n) ds,θ,M,by rw[←hv];exact LH r N,hw,?_⟩;have h:AW K θ H Q E (az (g (pq (N.length-n) ds) M)):=h;unfold az at h;cases q:g (pq (N.length-n) ds) M with
 | bad=>rw[q] at h;exact h
 | err c M1=>
  rw[q] at h;have h:Ha K θ H E c M1:=h;exact fun C θ' H' a s' kC g1 fl=>xh fl (h C θ' H' a kC g1)
 | ok fl M1=>
  rw[q] at h;cases fl with
  | rt d=>exact h
  | nx ρ1=>exact fun σ1 θ1 H1 g1 _=>h .non θ1 H1 g1 rfl
  | bk ρ1=>exact h.elim
  | ct ρ1=>exact h.elim
end
variable{T:String}
section
variable {X:Cx}{e:Expr}{es:List Expr}{x:Str}{p pos:Pos}{k n:Nat}{f:Addr}{fd:FuncData}{ps:List Str}{F:FD}{ga:GA}
def aj (n:Nat)(F:FD)(ga:GA):GE:=fun ρ M=>(ga ρ M).bind fun ds M1=>if ds.length=n then F ds M1 else .bad
def Kb (X:Cx):XK:=fun cls oa H'=>∃a C c θ M,oa=some a∧cls=.ref C∧nD X.K c C∧Wr X.K θ H' M∧cj X θ H' c M
theorem vU:wY (nQ X.prog X.w) X (Kb X):=fun ae σ H s e s' I h=>by
 obtain⟨a,C,H',rfl,fl,a',C',c,θ,M,e1,e2,kC,hw,ok⟩:=yJ I h;cases e1;cases e2;exact ok C θ H' a s' kC (.refl hw) fl
theorem D4 {c:Str}(h:cj X θ H c M):Ha X.K θ H (Kb X) c M:=fun C θ' H' a kC g=>⟨a,C,c,θ',M,rfl,rfl,kC,g.wr,h.go g⟩
theorem DT (Fn:iT X.prog X.w X.K X.mg X.base (nQ X.prog X.w) k f fd ps (xw X.K n F))(hr:d7 k X.A)(hg:Gl X x)(hm:X.mg x=some (.ref f))(hk:W.keepIn X.K (.ref f)=true)(hb:ke X.K fd ps [])
  (ha:PA X (e::es) (tA X ga)) (hdb:(x==("__debug__":Str))=false:=by decide) (he:starEach (e::es) X.env=(false,eval e X.env)::starEach es X.env:=by rfl) (hpl:(backTo pos (starEach es X.env)).any (·.1)=false:=by rfl) :
  PE X (.Call (.Name x p) (e::es) [] pos) (tE X (aj n F ga)):=(CZ Fn hr hg hm hk hb .nil vU ha hdb he hpl).of fun σ H Q hxx=>by
 obtain⟨ρ,θ,M,hd,hw,h⟩:=hxx;refine nL hd hw (aE X θ H Q) (fun c M' h=>h) (fun h=>h) h fun ds M1 vs θ1 H1 g1 r1 h1=>?_
 by_cases hl:ds.length=n
 ·rw[if_pos hl] at h1;refine⟨θ1,M1,ds,hl,by rw[append_nil];exact r1,g1.wr,?_⟩;have h2:=aE.go g1 h1;cases q:F ds M1 with
  | ok d M2=>rw[q] at h2;exact h2
  | err c M2=>rw[q] at h2;exact D4 h2
  | bad=>rw[q] at h2;exact h2
 ·rw[if_neg hl] at h1;exact h1.elim
def rC (X:Cx)(F:FD):List V→Hp→VK→Prop:=fun xs H Q=>∃θ M ds,Wr X.K θ H M∧ba X.K θ H ds xs∧aE X θ H Q (F ds M)
def aC (F:FD)(ga:GA):GE:=fun ρ M=>(ga ρ M).bind F
theorem A8 {Q:VK}(h:tE X (aC F ga) σ H Q):LG (rC X F) (tA X ga) σ H Q:=by
 obtain⟨ρ,θ,M,hd,hw,h⟩:=h;exact nL hd hw (aE X θ H Q) (fun c M' h=>h) (fun h=>h) h fun ds M1 vs θ1 H1 g1 r1 h1=>⟨θ1,M1,ds,g1.wr,r1,aE.go g1 h1⟩
theorem BH {id:String}(hc:cV X (.builtin id) (rC X F))(hg:Gl X x)(hm:X.mg x=none)(hv:bootBuiltins x=some (.builtin id))(ha:PA X (e::es) (tA X ga))(hn:x≠"__name__":=by decide)(hdb:(x==("__debug__":Str))=false:=by decide)
  (he:starEach (e::es) X.env=(false,eval e X.env)::starEach es X.env:=by rfl) (hpl:(backTo pos (starEach es X.env)).any (·.1)=false:=by rfl):PE X (.Call (.Name x p) (e::es) [] pos) (tE X (aC F ga)):=
 (wd hc hg hm hv ha hn hdb he hpl).of fun σ H Q h=>A8 h
theorem yV (hc:cV X (.type T) (rC X F))(hg:Gl X x)(hm:X.mg x=none)(hv:bootBuiltins x=some (.type T))(ha:PA X (e::es) (tA X ga))(hn:x≠"__name__":=by decide)(hdb:(x==("__debug__":Str))=false:=by decide)
  (he:starEach (e::es) X.env=(false,eval e X.env)::starEach es X.env:=by rfl) (hpl:(backTo pos (starEach es X.env)).any (·.1)=false:=by rfl):PE X (.Call (.Name x p) (e::es) [] pos) (tE X (aC F ga)):=
 (zG hc hg hm hv ha hn hdb he hpl).of fun σ H Q h=>A8 h
end
section
variable {prog:Program}{w:World}{A:Around}{E:Value→Shared→Prop}{s:Shared}
theorem B7 {t b:Addr}{ws:List Value}{Q:Value→Shared→Prop}(ht:IsTup s.heap t #[])(hb:IsTup s.heap b ws.toArray)
  (h:Q (.ref b) s):wpAny (model prog w) A (binaryOp .Add (.ref t) (.ref b)) Q E s:=by
 obtain⟨⟨cls,dd,data,sl⟩,ho,hc,n,hd⟩:=id ht;obtain⟨⟨cls2,dd2,data2,sl2⟩,ho2,hc2,n2,hd2⟩:=id hb;simp only at hc hd hc2 hd2;subst hc hd hc2 hd2;exact concat_meets ⟨_,ho,rfl⟩ ⟨_,ho2,rfl⟩ noFill_tuple_add seq_tuple_add PySem.F.slot_tuple_add PySem.F.entry_tuple_add (PySem.F.args_tuple_add_2 _ _)
   (tuple_addW0 t b #[] ws.toArray n n2 dd dd2 sl sl2 (by simp)) ⟨ho,ho2,h⟩
theorem kO {t sl:Addr}{items:Array Value}{vl vu:Value}{lo hi:Option Int}{Q:Value→Shared→Prop}(ht:IsTup s.heap t items)(hs:s.heap.IsSliceOf sl vl vu .none)(pl:IsPart vl lo)(pu:IsPart vu hi)
  (hw:HT.sIx items.size 0 lo=0∧HT.sIx items.size items.size hi=items.size) (h:Q (.ref t) s):wpAny (model prog w) A (getItem (.ref t) (.ref sl)) Q E s:=by
 obtain⟨os,hos,hcs,hds⟩:=id hs;have hTs:s.TypeIs (.ref sl) "slice":=⟨os,hos,hcs⟩;unfold getItem
 try with_reducible refine wpAny_holding ?_
 first|refine wpAny_bind (wpAny_pure ?_)|skip
 refine wpAny_bind (wpAny_sequenceKey ht.typeIs (by decide) ?_);refine wpAny_bind (wpAny_callSpecial?_slot (name:=Str.ofString "__getitem__") ht.typeIs PyProof.Rows.slot_tuple_getitem
  (wpAny_call_entry PyProof.Rows.slot_tuple_getitem ht.typeIs entry_tuple_getitem ?_ (args_tuple_getitem _ _)))
 show wpAny _ _ (Builtin.Tuple.tupleItemsOf (.ref t) >>= _) _ _ s;refine wpAny_bind (tupleItemsOf_ ht ?_);refine wpAny_bind (wpAny_typeOf hTs ?_);rw[if_pos (by decide)];refine wpAny_bind (HT.sliceApplied_gen hs pl pu ?_);have hyes:(((HT.sIx items.size 0 lo:Nat):Int)==0&&(1:Int)==1&&(HT.sIx items.size items.size hi-HT.sIx items.size 0 lo)==items.size)=true:=by
  rw[hw.1,hw.2];simp
 show wpAny _ _ (if(((HT.sIx items.size 0 lo:Nat):Int)==0&&(1:Int)==1&&(HT.sIx items.size items.size hi-HT.sIx items.size 0 lo)==items.size)=true then _ else _) _ _ s;rw[if_pos hyes];unfold Builtin.Tuple.tupleIsExact;refine wpAny_bind (wpAny_bind (wpAny_typeOf ht.typeIs (wpAny_pure ?_)));rw[if_pos (by decide)]
 first
  | exact wpAny_bind (wpAny_rule (wpAny_bind (wpAny_pure ⟨_,rfl,wpAny_pure h⟩)))
  | exact wpAny_bind (wpAny_rule (wpAny_pure ⟨_,rfl,wpAny_pure h⟩))
  | exact wpAny_bind (wpAny_rule (wpAny_bind (wpAny_pure (wpAny_pure ⟨_,rfl,wpAny_pure h⟩))))
end
def mO (d:D)(M:au):Option (List D):=match d with
 | .lst xs=>some xs
 | .mr k=>match M[k]? with
  | some (.lst xs)=>some xs
  | _=>none
 | _=>none
def bh:F2:=fun x y M=>match x,y with
 | .int i,.int j=>.ok (.int (i+j)) M
 | .str a,.str b=>if a.length+b.length≤sizeLine then .ok (.str (a++b)) M else .bad
 | .tup a,.tup b=>if a.length+b.length≤sizeLine then .ok (.tup (a++b)) M else .bad
 | .bl a,.int j=>.ok (.int ((if a=true then 1 else 0)+j)) M
 | x,y=>match mO x M,mO y M with
  | some a,some b=>if a.length+b.length≤sizeLine then .ok (.lst (a++b)) M else .bad
  | _,_=>.bad
def p6:F2:=fun x y M=>match mO x M,mO y M with
 | some a,some b=>if a.length+b.length≤sizeLine then .ok (.mr M.length) (M++[.lst (a++b)]) else .bad
 | _,_=>.bad
theorem vq {xs:List D}(hw:Wr K θ H M)(r:cP K θ H d v)(e:mO d M=some xs):∃a vs,v=.ref a∧H a=some (.lst vs)∧ba K θ H xs vs:=by
 cases d with
 | lst ys=>cases e;obtain⟨a,vs,ea,ta,ra⟩:=r;exact⟨a,vs,ea,ta.1,ra⟩
 | mr k=>
  obtain⟨a,ea,ta⟩:=r;have e:(match M[k]? with|some (.lst xs)=>some xs|_=>none)=some xs:=e;cases q:M[k]? with
  | none=>rw[q] at e;cases e
  | some m=>
   cases m with
   | lst ys=>
    rw[q] at e;cases e;obtain⟨vs,hv,ra⟩:=hw.at_ k a _ ta q;exact⟨a,vs,ea,hv,ra⟩
   | _=>rw[q] at e;cases e
 | _=>cases e
def nu:F2:=fun x y M=>match x,y with
 | .int i,.int j=>.ok (.int (i-j)) M
 | _,_=>.bad
def d9:F2:=fun x y M=>match x,y with
 | .int i,.int j=>if(-(2 ^ 64)<i∧i<2 ^ 64)∨(-(2 ^ 64)<j∧j<2 ^ 64) then .ok (.int (i*j)) M else .bad
 | _,_=>.bad
def fN:F2:=fun x y M=>match x,y with
 | .int i,.int j=>if 0<j∧j.natAbs.log2<9000 then .ok (.int (i / j)) M else .bad
 | _,_=>.bad
def ie:F2:=fun x y M=>match x,y with
 | .int i,.int j=>if 0<j then .ok (.int (i % j)) M else .bad
 | _,_=>.bad
def pV:F2:=fun x y M=>match x,y with
 | .int i,.int j=>if 0≤j∧j≤1000000∧i.natAbs<2 ^ 64 then .ok (.int (i ^ j.toNat)) M else .bad
 | _,_=>.bad
variable{u:Value}{b:Bool}{e:Expr}
section
variable {X:Cx}
theorem FV:fo X (binaryOp .Add) (rD X bh):=by
 intro ae s σ H x y v u Q I rx ry h;obtain⟨θ,M,dx,dy,hw,r1,r2,h⟩:=h;unfold bh at h;split at h
 ·rename_i i j;exact Gr ae s σ H x y v u Q I rx ry ⟨i,j,r1,r2,h _ θ H (.refl hw) rfl⟩
 ·rename_i a b;split at h
  ·rename_i hl;exact wI ae s σ H x y v u Q I rx ry ⟨a,b,r1,r2,hl,h _ θ H (.refl hw) rfl⟩
  ·exact h.elim
 ·rename_i as bs;split at h
  ·rename_i hl;obtain⟨a,vs,ea,ta,ra⟩:=r1;obtain⟨b,us,eb,tb,rb⟩:=r2
   by_cases hv:vs=[]
   ·subst hv;have e0:as=[]:=length_eq_zero_iff.mp (ay ra);subst e0;subst ea;subst eb;cases rx;cases ry;obtain⟨its,q1,p1,_⟩:=I.tuple ta.sq;obtain⟨its2,q2,p2,_⟩:=I.tuple tb.sq;cases q1;exact B7 p1 p2 ⟨.ref b,H,I,rfl,h _ θ H (.refl hw) ⟨b,us,rfl,tb,rb⟩⟩
   ·refine C6 ae s σ H x y v u Q I rx ry ⟨a,b,vs,us,ea,eb,ta.sq,tb.sq,hv,by rw[←ay ra,←ay rb];exact hl,fun hu=>?_,fun _ p hp=>h _ θ _ (eD hw hp) (kD hw hp (cG ra rb))⟩;subst hu;have e0:bs=[]:=length_eq_zero_iff.mp (ay rb);subst e0;exact h _ θ H (.refl hw) ⟨a,vs,rfl,ta,by rw[append_nil];exact ra⟩
  ·exact h.elim
 ·rename_i a j;have e1:x=.bl a:=r1;have e2:y=.int j:=r2;subst e1;subst e2;cases rx;obtain⟨t',rfl⟩:=ry;exact IntBool.add_bool_int ⟨.int _,H,I.tok _,⟨_,rfl⟩,h _ θ H (.refl hw) rfl⟩
 ·split at h
  ·rename_i as bs q1 q2;split at h
   ·rename_i hl;obtain⟨a,vs,ea,ta,ra⟩:=vq hw r1 q1;obtain⟨b,us,eb,tb,rb⟩:=vq hw r2 q2;exact Ba ae s σ H x y v u Q I rx ry ⟨a,b,vs,us,ea,eb,ta,tb,by rw[←ay ra,←ay rb];exact hl,fun p hp=>h _ θ _ (eD hw hp) (iu hw hp (cG ra rb))⟩
   ·exact h.elim
  ·exact h.elim
theorem AZ {H':Hp}{p:Addr}(hw:Wr K θ H M):cP K (θ++[p]) H' (.mr M.length) (.ref p):=by
 refine⟨p,rfl,?_⟩;rw[←hw.len,getElem?_append_right (Nat.le_refl _)];simp
theorem Dn:fo X (binaryOp .Add) (rD X p6):=by
 intro ae s σ H x y v u Q I rx ry h;obtain⟨θ,M,dx,dy,hw,r1,r2,h⟩:=h;unfold p6 at h;split at h
 ·rename_i as bs q1 q2;split at h
  ·rename_i hl;obtain⟨a,vs,ea,ta,ra⟩:=vq hw r1 q1;obtain⟨b,us,eb,tb,rb⟩:=vq hw r2 q2;exact Ba ae s σ H x y v u Q I rx ry ⟨a,b,vs,us,ea,eb,ta,tb,by rw[←ay ra,←ay rb];exact hl,fun p hp=>h _ _ _ (B5 hw hp (cG ra rb)) (AZ hw)⟩
  ·exact h.elim
 ·exact h.elim
theorem Gp:fo X (binaryOp .Sub) (rD X nu):=by
 intro ae s σ H x y v u Q I rx ry h;obtain⟨θ,M,dx,dy,hw,r1,r2,h⟩:=h;unfold nu at h;split at h
 ·rename_i i j;exact E6 ae s σ H x y v u Q I rx ry ⟨i,j,r1,r2,h _ θ H (.refl hw) rfl⟩
 ·exact h.elim
theorem Ho:fo X (binaryOp .Mult) (rD X d9):=by
 intro ae s σ H x y v u Q I rx ry h;obtain⟨θ,M,dx,dy,hw,r1,r2,h⟩:=h;unfold d9 at h;split at h
 ·rename_i i j;split at h
  ·rename_i hc;exact ES ae s σ H x y v u Q I rx ry ⟨i,j,r1,r2,hc,h _ θ H (.refl hw) rfl⟩
  ·exact h.elim
 ·exact h.elim
theorem Cm:fo X (binaryOp .FloorDiv) (rD X fN):=by
 intro ae s σ H x y v u Q I rx ry h;obtain⟨θ,M,dx,dy,hw,r1,r2,h⟩:=h;unfold fN at h;split at h
 ·rename_i i j;split at h
  ·rename_i hc;have e1:x=.int i:=r1;have e2:y=.int j:=r2;subst e1;subst e2;obtain⟨t,rfl⟩:=rx;obtain⟨t',rfl⟩:=ry;have h1:(0:Int)<j:=hc.1;exact floordiv_int (by omega) (by rw[Int.fdiv_eq_ediv_of_nonneg i (by omega)];exact⟨.int (i / j),H,I.tok _,⟨_,rfl⟩,h _ θ H (.refl hw) rfl⟩) (.inl (PyProof.noPylong_of_log2 hc.2))
  ·exact h.elim
 ·exact h.elim
theorem Ft:fo X (binaryOp .Mod) (rD X ie):=by
 intro ae s σ H x y v u Q I rx ry h;obtain⟨θ,M,dx,dy,hw,r1,r2,h⟩:=h;unfold ie at h;split at h
 ·rename_i i j;split at h
  ·rename_i hc;exact Fk ae s σ H x y v u Q I rx ry ⟨i,j,r1,r2,hc,h _ θ H (.refl hw) rfl⟩
  ·exact h.elim
 ·exact h.elim
theorem EW:fo X (binaryOp .Pow) (rD X pV):=by
 intro ae s σ H x y v u Q I rx ry h;obtain⟨θ,M,dx,dy,hw,r1,r2,h⟩:=h;unfold pV at h;split at h
 ·rename_i i j;split at h
  ·rename_i hc;exact Hb ae s σ H x y v u Q I rx ry ⟨i,j,r1,r2,hc,h _ θ H (.refl hw) rfl⟩
  ·exact h.elim
 ·exact h.elim
def sv (g:GE):GE:=fun ρ M=>(g ρ M).bind fun x M1=>match x with
 | .int i=>.ok (.int (-i)) M1
 | _=>.bad
theorem Ht {a:Expr}(ha:PE X a (tE X g)):PE X (.UnaryOp .USub a pos) (tE X (sv g)):=(J5 FZ ha).of fun σ H Q hxx=>by
 obtain⟨ρ,θ,M,hd,hw,h⟩:=hxx;refine b7 hd hw (aE X θ H Q) (fun c M' h=>h) (fun h=>h) h fun d M1 v θ1 H1 g1 r1 h1=>?_
 split at h1
 ·rename_i i;exact⟨i,r1,h1 _ θ1 H1 g1 rfl⟩
 ·exact h1.elim
theorem G5 {a:Expr}(ha:PE X a (tE X g)):PE X (.UnaryOp .Not a pos) (tE X (vR (aZ g))):=(Hg ha).of fun σ H Q hxx=>by
 obtain⟨ρ,θ,M,hd,hw,h⟩:=hxx;refine⟨ρ,θ,M,hd,hw,?_⟩;unfold vR aZ at h;cases q:g ρ M with
 | ok d M1=>
  rw[q] at h;cases d with
  | bl b=>exact fun v θ1 H1 g1 r1=>⟨b,r1,h _ θ1 H1 g1 rfl⟩
  | _=>exact h.elim
 | err c M1=>rw[q] at h;exact h
 | bad=>rw[q] at h;exact h
def p0:F2:=fun x y M=>match x,y with
 | .int i,.int j=>.ok (.bl (decide (i<j))) M
 | _,_=>.bad
def lL:F2:=fun x y M=>match x,y with
 | .int i,.int j=>.ok (.bl (decide (i≤j))) M
 | _,_=>.bad
def yj:F2:=fun x y M=>match x,y with
 | .int i,.int j=>.ok (.bl (decide (j<i))) M
 | _,_=>.bad
def CS:F2:=fun x y M=>match x,y with
 | .int i,.int j=>.ok (.bl (decide (j≤i))) M
 | _,_=>.bad
theorem Ke:fo X (compareOp .Lt) (rD X p0):=by
 intro ae s σ H x y v u Q I rx ry h;obtain⟨θ,M,dx,dy,hw,r1,r2,h⟩:=h;unfold p0 at h;split at h
 ·rename_i i j;exact J6 ae s σ H x y v u Q I rx ry ⟨i,j,r1,r2,h _ θ H (.refl hw) rfl⟩
 ·exact h.elim
theorem JE:fo X (compareOp .LtE) (rD X lL):=by
 intro ae s σ H x y v u Q I rx ry h;obtain⟨θ,M,dx,dy,hw,r1,r2,h⟩:=h;unfold lL at h;split at h
 ·rename_i i j;exact Ik ae s σ H x y v u Q I rx ry ⟨i,j,r1,r2,h _ θ H (.refl hw) rfl⟩
 ·exact h.elim
theorem IY:fo X (compareOp .Gt) (rD X yj):=by
 intro ae s σ H x y v u Q I rx ry h;obtain⟨θ,M,dx,dy,hw,r1,r2,h⟩:=h;unfold yj at h;split at h
 ·rename_i i j;exact Ji ae s σ H x y v u Q I rx ry ⟨i,j,r1,r2,h _ θ H (.refl hw) rfl⟩
 ·exact h.elim
theorem Kj:fo X (compareOp .GtE) (rD X CS):=by
 intro ae s σ H x y v u Q I rx ry h;obtain⟨θ,M,dx,dy,hw,r1,r2,h⟩:=h;unfold CS at h;split at h
 ·rename_i i j;exact Jw ae s σ H x y v u Q I rx ry ⟨i,j,r1,r2,h _ θ H (.refl hw) rfl⟩
 ·exact h.elim
def Ie (d c:D):Option Bool:=match c,d with
 | .non,.non=>some true
 | .non,.any=>none
 | .non,_=>some false
 | .bl b,.bl b'=>some (b'==b)
 | .bl _,.non=>some false
 | .bl _,.int _=>some false
 | .bl _,.str _=>some false
 | .bl _,.tup _=>some false
 | .bl _,.lst _=>some false
 | .bl _,.ro _=>some false
 | .bl _,.mr _=>some false
 | _,_=>none
def sL (neg:Bool):F2:=fun x y M=>match Ie x y with
 | some b=>.ok (.bl (b != neg)) M
 | none=>.bad
def VS:D→Value→Prop
 | .non,v=>v=.none
 | .bl b,v=>v=.bool b
 | .int i,v=>∃t,v=.int i t
 | .str i,v=>∃t,v=.str i t
 | .any,_=>True
 | _,v=>∃a,v=.ref a
theorem Ej {x:V}{v:Value}(r:cP K θ H d x)(q:aY x v):VS d v:=by
 cases d with
 | non=>have e:x=.non:=r;rw[e] at q;exact q
 | bl b=>have e:x=.bl b:=r;rw[e] at q;exact q
 | int i=>have e:x=.int i:=r;rw[e] at q;exact q
 | str i=>have e:x=.str i:=r;rw[e] at q;exact q
 | any=>trivial
 | tup ds=>obtain⟨a,_,e,_⟩:=r;rw[e] at q;exact⟨a,q⟩
 | lst ds=>obtain⟨a,_,e,_⟩:=r;rw[e] at q;exact⟨a,q⟩
 | ro ds=>obtain⟨a,_,e,_⟩:=r;rw[e] at q;exact⟨a,q⟩
 | mr k=>obtain⟨a,e,_⟩:=r;rw[e] at q;exact⟨a,q⟩
 | exc c=>obtain⟨a,_,e,_⟩:=r;rw[e] at q;exact⟨a,q⟩
theorem fn {α:Type}{b:α}{P:Prop}(h:none=some b):P:=nomatch h
theorem ym {v:Value}(h:some false=some b)(k:plainIs v u=true∧(v==u)=false):plainIs v u=true∧(v==u)=b:=Option.some.inj h▸k
theorem Jp {dx dy:D}{v:Value}(p:VS dx v)(q:VS dy u)(h:Ie dx dy=some b):plainIs v u=true∧(v==u)=b:=by
 cases dy with
 | non=>
  rw[show u=.none from q];cases dx with
  | non=>rw[show v=.none from p];exact Option.some.inj (show some true=some b from h)▸⟨rfl,rfl⟩
  | bl b=>rw[show v=.bool b from p];exact ym h ⟨rfl,rfl⟩
  | any=>exact fn h
  | _=>obtain⟨t,e⟩:=p;rw[e];exact ym h ⟨rfl,rfl⟩
 | bl c=>
  rw[show u=.bool c from q];cases dx with
  | non=>rw[show v=.none from p];exact ym h ⟨rfl,rfl⟩
  | bl b=>
   rw[show v=.bool b from p,←Option.some.inj h];refine⟨rfl,?_⟩;cases b <;> cases c <;> rfl
  | any=>exact fn h
  | exc _=>exact fn h
  | _=>obtain⟨t,e⟩:=p;rw[e];exact ym h ⟨rfl,rfl⟩
 | _=>exact fn h
theorem HQ {dx dy:D}{x y:V}{v:Value}(r1:cP K θ H dx x)(r2:cP K θ H dy y)(rx:aY x v)(ry:aY y u)(h:Ie dx dy=some b) :
  plainIs v u=true∧(v==u)=b:=Jp (Ej r1 rx) (Ej r2 ry) h
theorem Jk:fo X (compareOp .Is) (rD X (sL false)):=by
 intro ae s σ H x y v u Q I rx ry h;obtain⟨θ,M,dx,dy,hw,r1,r2,h⟩:=h;unfold sL at h;split at h
 ·rename_i b q;obtain⟨hp,e⟩:=HQ r1 r2 rx ry q;refine wpAny_is_plain hp ?_;rw[e];refine⟨.bl b,H,I,rfl,?_⟩;have:=h (.bl (b != false)) θ H (.refl hw) rfl;rw[Bool.bne_false] at this;exact this
 ·exact h.elim
mutual
def nJ:D→PyData
 | .non=>.none
 | .bl b=>.bool b
 | .int i=>.int i
 | .str x=>.str x
 | .tup ds=>.tuple (mQ ds)
 | .lst ds=>.list (mQ ds)
 | .ro ds=>.list (mQ ds)
 | .mr _=>.dict []
 | .exc _=>.dict []
 | .any=>.dict []
def mQ:List D→List PyData
 | []=>[]
 | d::ds=>nJ d::mQ ds
end
mutual
def bw:Nat→D→Bool
 | _,.non=>true
 | _,.bl _=>true
 | _,.int _=>true
 | _,.str x=>PyData.strOk x
 | n+1,.tup ds=>bH n ds
 | n+1,.lst ds=>bH n ds
 | n+1,.ro ds=>bH n ds
 | _,_=>false
def bH:Nat→List D→Bool
 | _,[]=>true
 | n,d::ds=>bw n d&&bH n ds
end
mutual
def nY:D→D→Bool
 | .non,.non=>true
 | .bl a,.bl b=>a==b
 | .bl a,.int j=>(if a then 1 else 0)==j
 | .int i,.bl b=>i==(if b then 1 else 0)
 | .int i,.int j=>i==j
 | .str x,.str y=>x==y
 | .lst xs,.lst ys=>kN xs ys
 | .lst xs,.ro ys=>kN xs ys
 | .ro xs,.lst ys=>kN xs ys
 | .ro xs,.ro ys=>kN xs ys
 | .tup xs,.tup ys=>kN xs ys
 | _,_=>false
def kN:List D→List D→Bool
 | [],[]=>true
 | x::xs,y::ys=>nY x y&&kN xs ys
 | _,_=>false
end
mutual
theorem oz:∀(x y:D) (n m:Nat),bw n x=true→bw m y=true→PyData.eqv (nJ x) (nJ y)=nY x y
 | .non,y,n,m,hx,hy=>by cases y <;> rfl
 | .bl a,y,n,m,hx,hy=>by cases y <;> rfl
 | .int a,y,n,m,hx,hy=>by cases y <;> rfl
 | .str a,y,n,m,hx,hy=>by cases y <;> rfl
 | .tup xs,y,n,m,hx,hy=>by
  cases n with
  | zero=>exact ff hx
  | succ n=>
   cases y with
   | tup ys=>
    cases m with
    | zero=>exact ff hy
    | succ m=>
     exact i4 xs ys n m hx hy
   | _=>rfl
 | .lst xs,y,n,m,hx,hy=>by
  cases n with
  | zero=>exact ff hx
  | succ n=>
   cases y with
   | lst ys=>
    cases m with
    | zero=>exact ff hy
    | succ m=>
     exact i4 xs ys n m hx hy
   | ro ys=>
    cases m with
    | zero=>exact ff hy
    | succ m=>
     exact i4 xs ys n m hx hy
   | _=>rfl
 | .ro xs,y,n,m,hx,hy=>by
  cases n with
  | zero=>exact ff hx
  | succ n=>
   cases y with
   | lst ys=>
    cases m with
    | zero=>exact ff hy
    | succ m=>
     exact i4 xs ys n m hx hy
   | ro ys=>
    cases m with
    | zero=>exact ff hy
    | succ m=>
     exact i4 xs ys n m hx hy
   | _=>rfl
 | .mr a,y,n,m,hx,hy=>by cases n <;> exact ff hx
 | .exc a,y,n,m,hx,hy=>by cases n <;> exact ff hx
 | .any,y,n,m,hx,hy=>by cases n <;> exact ff hx
theorem i4:∀(x y:List D) (n m:Nat),bH n x=true→bH m y=true→PyData.eqvAll (mQ x) (mQ y)=kN x y
 | [],y,n,m,hx,hy=>by cases y <;> rfl
 | x::xs,y,n,m,hx,hy=>by
  cases y with
  | nil=>rfl
  | cons y ys=>
   have hx:=Bool.and_eq_true_iff.mp (show(bw n x&&bH n xs)=true from hx);have hy:=Bool.and_eq_true_iff.mp (show(bw m y&&bH m ys)=true from hy);show(PyData.eqv (nJ x) (nJ y)&&PyData.eqvAll (mQ xs) (mQ ys))=(nY x y&&kN xs ys);rw[oz x y n m hx.1 hy.1,i4 xs ys n m hx.2 hy.2]
end
mutual
theorem jw:∀(d:D) (n:Nat),bw n d=true→(nJ d).canLay0=true∧(nJ d).depth≤n
 | .non,n,h=>by simp[nJ,PyData.canLay0,PyData.depth]
 | .bl a,n,h=>by simp[nJ,PyData.canLay0,PyData.depth]
 | .int a,n,h=>by simp[nJ,PyData.canLay0,PyData.depth]
 | .str a,n,h=>by
  have:PyData.strOk a=true:=by cases n <;> exact h
  simp[nJ,PyData.canLay0,PyData.depth,this]
 | .tup xs,n,h=>by
  cases n with
  | zero=>exact ff h
  | succ n=>
   have:=lN xs n h;simp only[nJ,PyData.canLay0,PyData.depth];exact⟨this.1,by omega⟩
 | .lst xs,n,h=>by
  cases n with
  | zero=>exact ff h
  | succ n=>
   have:=lN xs n h;simp only[nJ,PyData.canLay0,PyData.depth];exact⟨this.1,by omega⟩
 | .ro xs,n,h=>by
  cases n with
  | zero=>exact ff h
  | succ n=>
   have:=lN xs n h;simp only[nJ,PyData.canLay0,PyData.depth];exact⟨this.1,by omega⟩
 | .mr a,n,h=>by cases n <;> exact ff h
 | .exc a,n,h=>by cases n <;> exact ff h
 | .any,n,h=>by cases n <;> exact ff h
theorem lN:∀(ds:List D) (n:Nat),bH n ds=true→PyData.canLayAll0 (mQ ds)=true∧PyData.depthAll (mQ ds)≤n
 | [],n,h=>by simp[mQ,PyData.canLayAll0,PyData.depthAll]
 | d::ds,n,h=>by
  have h:=Bool.and_eq_true_iff.mp (show(bw n d&&bH n ds)=true from h);have h1:=jw d n h.1;have h2:=lN ds n h.2;simp only[mQ,PyData.canLayAll0,PyData.depthAll,Bool.and_eq_true];exact⟨⟨h1.1,h2.1⟩,by omega⟩
end
mutual
theorem vk {ae:List (Addr×Obj)}{s:Shared}{σ:L2.St}{H:Hp}{θ:List Addr}(I:Inv X ae σ H s):∀(d:D) (n:Nat) (v:V) (u:Value),bw n d=true→cP X.K θ H d v→aY v u→∃as,Reads s.heap u (nJ d) as
 | .non,n,v,u,h,r,q=>by have e:v=.non:=r;subst e;cases q;exact⟨_,.none⟩
 | .bl a,n,v,u,h,r,q=>by have e:v=.bl a:=r;subst e;cases q;exact⟨_,.bool a⟩
 | .int a,n,v,u,h,r,q=>by have e:v=.int a:=r;subst e;obtain⟨t,rfl⟩:=q;exact⟨_,.int a t⟩
 | .str a,n,v,u,h,r,q=>by have e:v=.str a:=r;subst e;obtain⟨t,rfl⟩:=q;exact⟨_,.str a t⟩
 | .tup xs,n,v,u,h,r,q=>by
  cases n with
  | zero=>exact ff h
  | succ n=>
   obtain⟨a,vs,e,ta,ra⟩:=r;subst e;cases q;obtain⟨its,rv,⟨o,h1,h2,m,h3⟩,_⟩:=I.tuple ta.sq;obtain⟨as,R⟩:=iQ I xs n vs its h ra rv;exact⟨_,.tuple h1 h2 h3 (by simpa using R)⟩
 | .lst xs,n,v,u,h,r,q=>by
  cases n with
  | zero=>exact ff h
  | succ n=>
   obtain⟨a,vs,e,ta,ra⟩:=r;subst e;cases q;obtain⟨its,rv,⟨o,m,h1,h2,_,h3⟩,_⟩:=I.list (ta.sq (K:=X.K));obtain⟨as,R⟩:=iQ I xs n vs its h ra rv;exact⟨_,.list h1 h2 h3 (by simpa using R)⟩
 | .ro xs,n,v,u,h,r,q=>by
  cases n with
  | zero=>exact ff h
  | succ n=>
   obtain⟨a,vs,e,ta,ra⟩:=r;subst e;cases q;obtain⟨its,rv,⟨o,m,h1,h2,_,h3⟩,_⟩:=I.list ta.sq;obtain⟨as,R⟩:=iQ I xs n vs its h ra rv;exact⟨_,.list h1 h2 h3 (by simpa using R)⟩
 | .mr a,n,v,u,h,r,q=>by cases n <;> exact ff h
 | .exc a,n,v,u,h,r,q=>by cases n <;> exact ff h
 | .any,n,v,u,h,r,q=>by cases n <;> exact ff h
theorem iQ {ae:List (Addr×Obj)}{s:Shared}{σ:L2.St}{H:Hp}{θ:List Addr}(I:Inv X ae σ H s):∀(ds:List D) (n:Nat) (vs:List V) (us:List Value),bH n ds=true→ba X.K θ H ds vs→aR vs us→∃as,ReadsAll s.heap us (mQ ds) as
 | [],n,vs,us,h,r,q=>by have e:vs=[]:=r;subst e;cases q;exact⟨_,.nil⟩
 | d::ds,n,vs,us,h,r,q=>by
  have h:=Bool.and_eq_true_iff.mp (show(bw n d&&bH n ds)=true from h);obtain⟨v,rr,e,r1,r2⟩:=r;subst e;cases q with
  | cons q1 q2=>
   obtain⟨as,R1⟩:=vk I d n v _ h.1 r1 q1;obtain⟨bs,R2⟩:=iQ I ds n rr _ h.2 r2 q2;exact⟨_,.cons R1 R2⟩
end
def now (d:D)(M:au):D:=match d with
 | .mr k=>match M[k]? with
  | some (.lst xs)=>.lst xs
  | _=>.mr k
 | d=>d
def bj (neg:Bool):F2:=fun x y M=>if bw 40 (now x M)&&bw 40 (now y M) then .ok (.bl (nY (now x M) (now y M) != neg)) M else .bad
theorem gJ (I:Inv X ae σ H s)(hw:Wr X.K θ H M)(h:bw n (now d M)=true)(r:cP X.K θ H d v)(q:aY v u):∃as,Reads s.heap u (nJ (now d M)) as:=by
 cases d with
 | mr k=>
  obtain⟨a,e,ta⟩:=r;subst e;cases q;cases qm:M[k]? with
  | none=>
   have e:now (.mr k) M=.mr k:=by simp[now,qm]
   rw[e] at h;cases n <;> exact ff h
  | some m=>
   cases m with
   | lst xs=>
    have e:now (.mr k) M=.lst xs:=by simp[now,qm]
    rw[e] at h ⊢;cases n with
    | zero=>exact ff h
    | succ n=>
     obtain⟨vs,hv,ra⟩:=hw.at_ k a _ ta qm;obtain⟨its,rv,⟨o,m,h1,h2,_,h3⟩,_⟩:=I.list (X:=X) (xs:=vs) (.inl (.inl hv));obtain⟨as,R⟩:=iQ I xs n vs its h ra rv;exact⟨_,.list h1 h2 h3 (by simpa using R)⟩
   | _=>
    have e:now (.mr k) M=.mr k:=by simp[now,qm]
    rw[e] at h;cases n <;> exact ff h
 | _=>exact vk I _ n v u h r q
theorem JN (hu:X.A.units+64<cLine):fo X (compareOp .Eq) (rD X (bj false)):=by
 intro ae s σ H x y v u Q I rx ry h;obtain⟨θ,M,dx,dy,hw,r1,r2,h⟩:=h;unfold bj at h;split at h
 ·rename_i hc;rw[Bool.and_eq_true] at hc;obtain⟨as,R1⟩:=gJ I hw hc.1 r1 rx;obtain⟨bs,R2⟩:=gJ I hw hc.2 r2 ry;have l1:=jw _ _ hc.1;have l2:=jw _ _ hc.2;refine SeqAt.compareEq_reads R1 R2 l1.1 l2.1 (by have:=l1.2;have:min (nJ (now dx M)).depth (nJ (now dy M)).depth≤(nJ (now dx M)).depth:=Nat.min_le_left _ _;omega) ?_;rw[oz _ _ _ _ hc.1 hc.2];refine⟨.bl _,H,I,rfl,?_⟩;have:=h _ θ H (.refl hw) rfl;rw[Bool.bne_false] at this;exact this
 ·exact h.elim
theorem Je (hu:X.A.units+64<cLine):fo X (compareOp .NotEq) (rD X (bj true)):=by
 intro ae s σ H x y v u Q I rx ry h;obtain⟨θ,M,dx,dy,hw,r1,r2,h⟩:=h;unfold bj at h;split at h
 ·rename_i hc;rw[Bool.and_eq_true] at hc;obtain⟨as,R1⟩:=gJ I hw hc.1 r1 rx;obtain⟨bs,R2⟩:=gJ I hw hc.2 r2 ry;have l1:=jw _ _ hc.1;have l2:=jw _ _ hc.2;refine SeqAt.compareNe_reads R1 R2 l1.1 l2.1 (by have:=l1.2;have:min (nJ (now dx M)).depth (nJ (now dy M)).depth≤(nJ (now dx M)).depth:=Nat.min_le_left _ _;omega) ?_;rw[oz _ _ _ _ hc.1 hc.2];refine⟨.bl _,H,I,rfl,?_⟩;have:=h _ θ H (.refl hw) rfl;rw[Bool.bne_true] at this;exact this
 ·exact h.elim
def bE (d:D)(M:au):Option (List D):=match d with
 | .tup xs=>some xs
 | .lst xs=>some xs
 | .ro xs=>some xs
 | .mr k=>match M[k]? with
  | some (.lst xs)=>some xs
  | _=>none
 | _=>none
def bt:F2:=fun x y M=>match bE x M,y with
 | some xs,.int i=>match oj xs i with
  | some d=>.ok d M
  | none=>.bad
 | _,_=>.bad
theorem AG {i:Int}(r:ba K θ H ds vs)(e:oj ds i=some d):∃v,oj vs i=some v∧cP K θ H d v:=by
 unfold oj at e ⊢;rw[←ay r];cases q:Dj ds.length i with
 | none=>rw[q] at e;cases e
 | some j=>
  rw[q] at e;exact g9 r e
theorem ni {xs:List D}(hw:Wr K θ H M)(r:cP K θ H d v)(e:bE d M=some xs):∃a vs,v=.ref a∧(m3 K H a vs∨pP K H a vs)∧ba K θ H xs vs:=by
 cases d with
 | tup ds=>obtain⟨a,vs,e1,ta,ra⟩:=r;cases e;exact⟨a,vs,e1,.inr ta.sq,ra⟩
 | lst ds=>obtain⟨a,vs,e1,ta,ra⟩:=r;cases e;exact⟨a,vs,e1,.inl ta.sq,ra⟩
 | ro ds=>obtain⟨a,vs,e1,ta,ra⟩:=r;cases e;exact⟨a,vs,e1,.inl ta.sq,ra⟩
 | mr k=>
  obtain⟨a,e1,ta⟩:=r;have e:(match M[k]? with|some (.lst xs)=>some xs|_=>none)=some xs:=e;cases qm:M[k]? with
  | none=>rw[qm] at e;cases e
  | some m=>
   cases m with
   | lst ys=>
    rw[qm] at e;cases e;obtain⟨vs,hv,ra⟩:=hw.at_ k a _ ta qm;exact⟨a,vs,e1,.inl (.inl (.inl hv)),ra⟩
   | _=>rw[qm] at e;cases e
 | _=>cases e
theorem Ew:HR X (rD X bt):=by
 intro value slice ae s σ H x y v u Q I rx ry h hs;obtain⟨θ,M,dx,dy,hw,r1,r2,h⟩:=h;unfold bt at h;split at h
 ·rename_i xs i q;split at h
  ·rename_i d qd;obtain⟨a,vs,ea,sq,ra⟩:=ni hw r1 q;obtain⟨z,ez,rz⟩:=AG ra qd;have hq:=h z θ H (.refl hw) rz;rcases sq with sq|sq
   ·exact Dk value slice ae s σ H x y v u Q I rx ry ⟨a,vs,i,z,ea,r2,sq,ez,hq⟩ hs
   ·exact GJ value slice ae s σ H x y v u Q I rx ry ⟨a,vs,i,z,ea,r2,sq,ez,hq⟩ hs
  ·exact h.elim
 ·exact h.elim
theorem Iz {a b:Expr}{pos:Pos}(ha:PE X a (tE X ga))(hb:PE X b (tE X gb))(hs:mD b:=by intro _ _;rfl):PE X (.Subscript a b pos) (tE X (g2 bt ga gb)):=
 (Ez Ew ha hb hs).of fun _ _ _ h=>vW h
def lH (xs:List D)(lo hi:Option Int):List D:=(xs.drop (HT.sIx xs.length 0 lo)).take (HT.sIx xs.length xs.length hi-HT.sIx xs.length 0 lo)
def lJ (x:D)(lo hi:Option Int)(M:au):aO D:=match x with
 | .tup xs=>.ok (.tup (lH xs lo hi)) M
 | .lst xs=>.ok (.lst (lH xs lo hi)) M
 | .ro xs=>.ok (.lst (lH xs lo hi)) M
 | .mr k=>match M[k]? with
  | some (.lst xs)=>.ok (.lst (lH xs lo hi)) M
  | _=>.bad
 | _=>.bad
abbrev GO:=bI→au→aO (Option Int)
def df:GO:=fun _ M=>.ok none M
def iq (g:GE):GO:=fun ρ M=>(g ρ M).bind fun d M1=>match d with
 | .int i=>.ok (some i) M1
 | _=>.bad
def Kr (X:Cx)(θ:List Addr)(H:Hp)(Q:Option Int→Hp→Prop):aO (Option Int)→Prop
 | .ok b M'=>∀θ' H',Go X.K θ H θ' H' M'→Q b H'
 | .err c M'=>cj X θ H c M'
 | .bad=>False
def tO (X:Cx)(g:GO):TO:=fun σ H Q=>∃ρ θ M,jp X.K θ H σ ρ∧Wr X.K θ H M∧Kr X θ H Q (g ρ M)
theorem _root_.L2.PO.of {e:Option Expr}{t t':TO}(h:PO X e t)(w:∀σ H Q,t' σ H Q→t σ H Q):PO X e t':=fun ae s σ H Q I q=>h ae s σ H Q I (w σ H Q q)
theorem Du:PO X none (tO X df):=Dh.of fun σ H Q ⟨ρ,θ,M,hd,hw,f⟩=>f θ H (.refl hw)
theorem Cy (h:PE X e (tE X g)):PO X (some e) (tO X (iq g)):=(DF h).of fun σ H Q hxx=>by
 obtain⟨ρ,θ,M,hd,hw,h⟩:=hxx;refine b7 hd hw (Kr X θ H Q) (fun c M' h=>h) (fun h=>h) h fun d M1 v θ1 H1 g1 r1 h1=>?_
 split at h1
 ·rename_i i;exact⟨i,r1,h1 θ1 H1 g1⟩
 ·exact h1.elim
theorem ye {g:GO}{Q:Option Int→Hp→Prop}{α:Type}(hd:jp X.K θ H σ ρ)(hw:Wr X.K θ H M)(F:aO α→Prop)(Fe:∀c M',F (.err c M')→cj X θ H c M')(Fb:F .bad→False)
  {f:Option Int→au→aO α} (h:F ((g ρ M).bind f)) (k:∀d M1 θ1 H1,Go X.K θ H θ1 H1 M1→F (f d M1)→Q d H1):tO X g σ H Q:=by
 refine⟨ρ,θ,M,hd,hw,?_⟩;cases q:g ρ M with
 | ok d M1=>
  rw[q] at h;exact fun θ1 H1 g1=>k d M1 θ1 H1 g1 h
 | err c M1=>rw[q] at h;exact Fe c M1 h
 | bad=>rw[q] at h;exact(Fb h).elim
def zJ (g:GE)(gl gh:GO):GE:=fun ρ M=>(g ρ M).bind fun x M1=>(gl ρ M1).bind fun lo M2=>(gh ρ M2).bind fun hi M3=>lJ x lo hi M3
def MA (X:Cx):V→Option Int→Option Int→Hp→VK→Prop:=fun x lo hi H Q=>∃θ M d,Wr X.K θ H M∧cP X.K θ H d x∧aE X θ H Q (lJ d lo hi M)
theorem mh (r:ba K θ H ds vs)(lo hi:Option Int):ba K θ H (lH ds lo hi) (u7 vs lo hi):=by
 unfold lH u7;rw[←ay r];exact qP _ (qS _ r)
theorem Iq:Jl X (MA X):=by
 intro ae s σ H x v vl vu lo hi sl Q I rx hs pl pu h;obtain⟨θ,M,d,hw,r,h⟩:=h;cases d with
 | tup ds=>
  obtain⟨a,vs,e,ta,ra⟩:=r
  by_cases hc:HT.sIx vs.length 0 lo=0∧HT.sIx vs.length vs.length hi=vs.length
  ·subst e;cases rx;obtain⟨its,rv,ht,hz⟩:=I.tuple ta.sq;have hlen:its.toArray.size=vs.length:=by rw[size_toArray];exact rv.length.symm
   refine⟨"tuple",_,PyProof.Rows.slot_tuple_getitem.lookup,ht.typeIs,?_⟩;refine kO ht hs pl pu (by rw[hlen];exact hc) ⟨.ref a,H,I,rfl,h _ θ H (.refl hw) ⟨a,vs,rfl,ta,?_⟩⟩;have e:lH ds lo hi=ds:=by
    unfold lH;rw[ay ra,hc.1,hc.2,drop_zero,Nat.sub_zero,←ay ra,take_length]
   rw[e];exact ra
  ·exact F1 ae s σ H x v vl vu lo hi sl Q I rx hs pl pu ⟨a,vs,e,ta.sq,hc,fun p hp=>h _ θ _ (eD hw hp) (kD hw hp (mh ra lo hi))⟩
 | lst ds=>
  obtain⟨a,vs,e,ta,ra⟩:=r;exact sG ae s σ H x v vl vu lo hi sl Q I rx hs pl pu ⟨a,vs,e,ta.sq,fun p hp=>h _ θ _ (eD hw hp) (iu hw hp (mh ra lo hi))⟩
 | ro ds=>
  obtain⟨a,vs,e,ta,ra⟩:=r;exact sG ae s σ H x v vl vu lo hi sl Q I rx hs pl pu ⟨a,vs,e,ta.sq,fun p hp=>h _ θ _ (eD hw hp) (iu hw hp (mh ra lo hi))⟩
 | mr k=>
  obtain⟨a,e,ta⟩:=r;have h:aE X θ H Q (match M[k]? with|some (.lst xs)=>.ok (.lst (lH xs lo hi)) M|_=>.bad):=h;cases qm:M[k]? with
  | none=>rw[qm] at h;exact h.elim
  | some m=>
   cases m with
   | lst ys=>
    rw[qm] at h;obtain⟨vs,hv,ra⟩:=hw.at_ k a _ ta qm;exact sG ae s σ H x v vl vu lo hi sl Q I rx hs pl pu ⟨a,vs,e,.inl (.inl hv),fun p hp=>h _ θ _ (eD hw hp) (iu hw hp (mh ra lo hi))⟩
   | _=>rw[qm] at h;exact h.elim
 | _=>exact h.elim
theorem BJ {lo hi:Option Expr}{gl gh:GO}{p2:Pos}(he:PE X e (tE X g))(hl:PO X lo (tO X gl))(hh:PO X hi (tO X gh)):PE X (.Subscript e (.Slice lo hi none p2) pos) (tE X (zJ g gl gh)):=
 (vG Iq he hl hh).of fun σ H Q hxx=>by
  obtain⟨ρ,θ,M,hd,hw,h⟩:=hxx;refine b7 hd hw (aE X θ H Q) (fun c M' h=>h) (fun h=>h) h fun d M1 v θ1 H1 g1 r1 h1=>?_
  refine ye (hd.go g1) g1.wr (aE X θ1 H1 Q) (fun c M' h=>h) (fun h=>h) (h1.go g1) fun l M2 θ2 H2 g2 h2=>?_
  refine ye ((hd.go g1).go g2) g2.wr (aE X θ2 H2 Q) (fun c M' h=>h) (fun h=>h) (h2.go g2) fun u M3 θ3 H3 g3 h3=>?_
  exact⟨θ3,M3,d,g3.wr,r1.go (g2.trans g3),h3.go g3⟩
def DJ (d:D)(M:au):aO Bool:=match d with
 | .non=>.ok false M
 | .bl b=>.ok b M
 | .int i=>.ok (i != 0) M
 | .str x=>if x.length≤sizeLine then .ok ((x.length:Int) != 0) M else .bad
 | .tup xs=>.ok (!xs.isEmpty) M
 | .lst xs=>.ok (!xs.isEmpty) M
 | .ro xs=>.ok (!xs.isEmpty) M
 | .mr k=>match M[k]? with
  | some (.lst xs)=>.ok (!xs.isEmpty) M
  | _=>.bad
 | .exc _=>.bad
 | .any=>.bad
def dG (g:GE):GT:=fun ρ M=>(g ρ M).bind DJ
theorem jn (r:ba K θ H ds vs):(!vs.isEmpty)=!ds.isEmpty:=by
 have:=ay r;cases ds <;> cases vs <;> simp_all
theorem G2 {a:Expr}(ha:PE X a (tE X g))(he:∀whole,isTrue a X.env whole=(do let v ←whole;standAt a.pos;holding [v] (truthy v)):=by intro _;rfl):PT X a (tT X (dG g)):=
 (AU ha he).of fun σ H Q hxx=>by
  obtain⟨ρ,θ,M,hd,hw,h⟩:=hxx;refine b7 hd hw (m8 X θ H Q) (fun c M' h=>h) (fun h=>h) h fun d M1 v θ1 H1 g1 r1 h1=>?_
  cases d with
  | non=>have e:v=.non:=r1;subst e;exact⟨false,rfl,h1 θ1 H1 g1⟩
  | bl b=>have e:v=.bl b:=r1;subst e;exact⟨b,rfl,h1 θ1 H1 g1⟩
  | int i=>have e:v=.int i:=r1;subst e;exact⟨i != 0,rfl,h1 θ1 H1 g1⟩
  | str x=>
   have e:v=.str x:=r1;subst e;have h1:m8 X θ H Q (if x.length≤sizeLine then .ok ((x.length:Int) != 0) M1 else .bad):=h1;split at h1
   ·rename_i hl;exact⟨_,⟨hl,rfl⟩,h1 θ1 H1 g1⟩
   ·exact h1.elim
  | tup xs=>
   obtain⟨a,vs,e,ta,ra⟩:=r1;subst e;exact⟨_,.inr (.inl ⟨vs,ta.sq,(jn ra).symm⟩),h1 θ1 H1 g1⟩
  | lst xs=>
   obtain⟨a,vs,e,ta,ra⟩:=r1;subst e;exact⟨_,.inl ⟨vs,ta.sq,(jn ra).symm⟩,h1 θ1 H1 g1⟩
  | ro xs=>
   obtain⟨a,vs,e,ta,ra⟩:=r1;subst e;exact⟨_,.inl ⟨vs,ta.sq,(jn ra).symm⟩,h1 θ1 H1 g1⟩
  | mr k=>
   obtain⟨a,e,ta⟩:=r1;subst e;have h1:m8 X θ H Q (match M1[k]? with|some (.lst xs)=>.ok (!xs.isEmpty) M1|_=>.bad):=h1;cases qm:M1[k]? with
   | none=>rw[qm] at h1;exact h1.elim
   | some m=>
    cases m with
    | lst ys=>
     rw[qm] at h1;obtain⟨vs,hv,ra⟩:=g1.wr.at_ k a _ ta qm;exact⟨_,.inl ⟨vs,.inl (.inl hv),(jn ra).symm⟩,h1 θ1 H1 g1⟩
    | _=>rw[qm] at h1;exact h1.elim
  | exc c=>exact h1.elim
  | any=>exact h1.elim
def bx:FD:=fun ds M=>match ds with
 | [.str x]=>if x.length≤sizeLine then .ok (.int x.length) M else .bad
 | [d]=>match bE d M with
  | some xs=>.ok (.int xs.length) M
  | none=>.bad
 | _=>.bad
def wz:FD:=fun ds M=>match ds with
 | [.int i,.int j]=>.ok (.int (if j<i then j else i)) M
 | _=>.bad
def pU:FD:=fun ds M=>match ds with
 | [.int i]=>.ok (.int i) M
 | [.bl b]=>.ok (.int (if b then 1 else 0)) M
 | _=>.bad
def mZ:FD:=fun ds M=>match ds with
 | [d]=>match bE d M with
  | some xs=>.ok (.lst xs) M
  | none=>.bad
 | _=>.bad
def bL:FD:=fun ds M=>match ds with
 | [d]=>match bE d M with
  | some xs=>.ok (.tup xs) M
  | none=>.bad
 | _=>.bad
theorem dS (r:ba K θ H [d] xs):∃v,xs=[v]∧cP K θ H d v:=by
 obtain⟨v,rr,e,h1,h2⟩:=r;have e2:rr=[]:=h2;subst e2;exact⟨v,e,h1⟩
theorem Gw {d':D}(r:ba K θ H [d,d'] xs):∃v v',xs=[v,v']∧cP K θ H d v∧cP K θ H d' v':=by
 obtain⟨v,rr,e,h1,h2⟩:=r;obtain⟨v',e2,h3⟩:=dS h2;subst e2;exact⟨v,v',e,h1,h3⟩
theorem Hu:cV X (.builtin "len") (rC X bx):=by
 intro ae s σ H xs us Q I r h;obtain⟨θ,M,ds,hw,rd,h⟩:=h;unfold bx at h;split at h
 ·rename_i x;split at h
  ·rename_i hl;obtain⟨v,e,rv⟩:=dS rd;exact sW ae s σ H xs us Q I r ⟨x,by rw[e,show v=.str x from rv],hl,h _ θ H (.refl hw) rfl⟩
  ·exact h.elim
 ·rename_i d _;split at h
  ·rename_i ys q;obtain⟨v,e,rv⟩:=dS rd;obtain⟨a,vs,ea,sq,ra⟩:=ni hw rv q;refine sU ae s σ H xs us Q I r ⟨a,vs,by rw[e,ea],sq,?_⟩;rw[←ay ra];exact h _ θ H (.refl hw) rfl
  ·exact h.elim
 ·exact h.elim
theorem EY (hc:X.calm=true):cV X (.builtin "min") (rC X wz):=by
 intro ae s σ H xs us Q I r h;obtain⟨θ,M,ds,hw,rd,h⟩:=h;unfold wz at h;split at h
 ·rename_i i j;obtain⟨v,v',e,rv,rv'⟩:=Gw rd;exact yH hc ae s σ H xs us Q I r ⟨i,j,by rw[e,show v=.int i from rv,show v'=.int j from rv'],h _ θ H (.refl hw) rfl⟩
 ·exact h.elim
theorem Bf:cV X (.type "int") (rC X pU):=by
 intro ae s σ H xs us Q I r h;obtain⟨θ,M,ds,hw,rd,h⟩:=h;unfold pU at h;split at h
 ·rename_i i;obtain⟨v,e,rv⟩:=dS rd;exact rO ae s σ H xs us Q I r (.inl ⟨i,by rw[e,show v=.int i from rv],h _ θ H (.refl hw) rfl⟩)
 ·rename_i b;obtain⟨v,e,rv⟩:=dS rd;exact rO ae s σ H xs us Q I r (.inr ⟨b,by rw[e,show v=.bl b from rv],h _ θ H (.refl hw) rfl⟩)
 ·exact h.elim
theorem DH:cV X (.type "list") (rC X mZ):=by
 intro ae s σ H xs us Q I r h;obtain⟨θ,M,ds,hw,rd,h⟩:=h;unfold mZ at h;split at h
 ·rename_i d;split at h
  ·rename_i ys q;obtain⟨v,e,rv⟩:=dS rd;obtain⟨a,vs,ea,sq,ra⟩:=ni hw rv q;exact uF ae s σ H xs us Q I r ⟨a,vs,by rw[e,ea],sq,fun l hl=>h _ θ _ (eD hw hl) (iu hw hl ra)⟩
  ·exact h.elim
 ·exact h.elim
theorem Bz:cV X (.type "tuple") (rC X bL):=by
 intro ae s σ H xs us Q I r h;obtain⟨θ,M,ds,hw,rd,h⟩:=h;unfold bL at h;split at h
 ·rename_i d;obtain⟨v,e,rv⟩:=dS rd;cases d with
  | tup ys=>
   obtain⟨a,vs,ea,ta,ra⟩:=rv;exact fD ae s σ H xs us Q I r ⟨a,vs,by rw[e,ea],.inr ⟨ta.sq,h _ θ H (.refl hw) ⟨a,vs,rfl,ta,ra⟩⟩⟩
  | lst ys=>
   obtain⟨a,vs,ea,ta,ra⟩:=rv;exact fD ae s σ H xs us Q I r ⟨a,vs,by rw[e,ea],.inl ⟨ta.sq,fun l hl=>h _ θ _ (eD hw hl) (kD hw hl ra)⟩⟩
  | ro ys=>
   obtain⟨a,vs,ea,ta,ra⟩:=rv;exact fD ae s σ H xs us Q I r ⟨a,vs,by rw[e,ea],.inl ⟨ta.sq,fun l hl=>h _ θ _ (eD hw hl) (kD hw hl ra)⟩⟩
  | mr k=>
   obtain⟨a,ea,ta⟩:=rv;cases qm:M[k]? with
   | none=>simp[bE,qm] at h;exact h.elim
   | some m=>
    cases m with
    | lst ys=>
     simp only[bE,qm] at h;obtain⟨vs,hv,ra⟩:=hw.at_ k a _ ta qm;exact fD ae s σ H xs us Q I r ⟨a,vs,by rw[e,ea],.inl ⟨.inl (.inl hv),fun l hl=>h _ θ _ (eD hw hl) (kD hw hl ra)⟩⟩
    | _=>simp[bE,qm] at h;exact h.elim
  | _=>exact h.elim
 ·exact h.elim
end
def cU (cells:List (Str×Addr)):List (Str×NameKind)→List (Str×Addr)→List (Str×Addr)
 | [],acc=>acc
 | (n,k)::r,acc=>if k==.free then cU cells r ((n,(cells.lookup n).getD 0)::acc) else cU cells r acc
theorem oK {env:Env}:∀(l:List (Str×NameKind)) (cs:List (Str×Addr)),(∀p∈l,p.2=.free→∃c,env.cells.lookup p.1=some c)→
  (forIn (m:=Sem) l cs fun x r=>match x with
   | (name,kind)=>if(kind==NameKind.free)=true then do let __do_lift ←cellOf env name;pure (ForInStep.yield ((name,__do_lift)::r)) else pure (ForInStep.yield r))=pure (cU env.cells l cs)
 | [],cs,h=>rfl
 | (n,k)::r,cs,h=>by
  have ih:=fun cs=>oK (env:=env) r cs fun p hp=>h p (mem_cons_of_mem _ hp)
  rw[forIn_cons]
  by_cases hk:(k==NameKind.free)=true
  ·obtain⟨c,hc⟩:=h (n,k) mem_cons_self (by simpa using hk);have e:cellOf env n=pure c:=by unfold cellOf;rw[show List.lookup n env.cells=some c from hc]
   simp only[hk,if_true,cU,e,pure_bind];rw[ih,show List.lookup n env.cells=some c from hc];rfl
  ·simp only[hk,if_false,cU,pure_bind,Bool.false_eq_true];exact ih cs
theorem eP {env:Env}(h:∀p∈scope.names,p.2=.free→∃c,env.cells.lookup p.1=some c):closureFor scope env=pure (cU env.cells scope.names []):=by
 have:=oK (env:=env) scope.names [] h;unfold closureFor;simp only[bind_pure_comp] at this ⊢
 first
  | (rw[this];rfl)
  | (simp[this])
  | exact this
theorem pG {cells:List (Str×Addr)}:∀(l:List (Str×NameKind)) (acc:List (Str×Addr)),(∀p∈acc,cells.lookup p.1=some p.2)→(∀p∈l,p.2=.free→∃c,cells.lookup p.1=some c)→
  ∀p∈cU cells l acc,cells.lookup p.1=some p.2
 | [],acc,ha,h=>ha
 | (n,k)::r,acc,ha,h=>by
  have hr:∀p∈r,p.2=.free→∃c,cells.lookup p.1=some c:=fun p hp=>h p (mem_cons_of_mem _ hp)
  unfold cU
  by_cases hk:(k==NameKind.free)=true
  ·rw[if_pos hk];refine pG r _ (fun p hp=>?_) hr;rcases mem_cons.mp hp with e|hp
   ·subst e;obtain⟨c,hc⟩:=h (n,k) mem_cons_self (by simpa using hk);have hc':cells.lookup n=some c:=hc;show cells.lookup n=some ((cells.lookup n).getD 0);rw[hc'];rfl
   ·exact ha p hp
  ·rw[if_neg hk];exact pG r acc ha hr
theorem o7 {cells:List (Str×Addr)}:∀(l:List (Str×NameKind)) (acc:List (Str×Addr)),∀p∈acc,p∈cU cells l acc
 | [],acc,p,h=>h
 | (n,k)::r,acc,p,h=>by
  unfold cU
  by_cases hk:(k==NameKind.free)=true
  ·rw[if_pos hk];exact o7 r _ p (mem_cons_of_mem _ h)
  ·rw[if_neg hk];exact o7 r acc p h
theorem pk {cells:List (Str×Addr)}:∀(l:List (Str×NameKind)) (acc:List (Str×Addr)) (n:Str),(n,NameKind.free)∈l→∃c,(n,c)∈cU cells l acc
 | [],acc,n,h=>by cases h
 | (m,k)::r,acc,n,h=>by
  unfold cU;rcases mem_cons.mp h with e|h
  ·cases e;rw[if_pos (by rfl)];exact⟨_,o7 r _ _ mem_cons_self⟩
  ·by_cases hk:(k==NameKind.free)=true
   ·rw[if_pos hk];exact pk r _ n h
   ·rw[if_neg hk];exact pk r acc n h
theorem lG {l:List (Str×Addr)}{n:Str}(h:(n,c)∈l):∃c',l.lookup n=some c':=by
 induction l with
 | nil=>cases h
 | cons p r ih=>
  obtain⟨m,d⟩:=p
  by_cases e:(n==m)=true
  ·exact⟨d,by simp[List.lookup,e]⟩
  ·have e':(n==m)=false:=by simpa using e
   rcases mem_cons.mp h with q|q
   ·cases q;simp at e
   ·obtain⟨c',hc⟩:=ih q;exact⟨c',by simp only[List.lookup,e'];exact hc⟩
theorem gT {env:Env}:∀{names:List (Str×NameKind)} {x:Str} {k:NameKind},
  (names.map fun(n,k)=>if(k==NameKind.free&&env.scope.kind==.function&&env.kindOf n==some .cell) then(n,NameKind.cell) else(n,k)).lookup x=some k→
   names.lookup x=some k∨(k=.cell∧names.lookup x=some .free)
 | [],_,_,h=>by simp at h
 | (n,k')::r,x,k,h=>by
  have ih:=@gT env r x k;have h:List.lookup x ((if(k'==NameKind.free&&env.scope.kind==.function&&env.kindOf n==some .cell)=true then(n,NameKind.cell) else(n,k'))::_)=some k:=h
  by_cases hc:(k'==NameKind.free&&env.scope.kind==.function&&env.kindOf n==some .cell)=true
  ·rw[if_pos hc] at h;cases hx:x==n with
   | true=>
    simp only[lookup_cons,hx] at h ⊢;cases h;have:k'=.free:=by
     rw[Bool.and_eq_true,Bool.and_eq_true] at hc;simpa using hc.1.1
    subst this;exact .inr ⟨rfl,rfl⟩
   | false=>
    simp only[lookup_cons,hx] at h ⊢;exact ih h
  ·rw[if_neg hc] at h;cases hx:x==n with
   | true=>
    simp only[lookup_cons,hx] at h ⊢;exact .inl h
   | false=>
    simp only[lookup_cons,hx] at h ⊢;exact ih h
def bi (sc:Scope)(fk:Str→Option NameKind)(xs:List Str)(R N:List Str):Bool:=
 decide (sc.kind=.function)&&xs.all (fun x=>sc.names.lookup x==some .local) &&
 sc.names.all (fun p=>match p.2 with
  | .cell=>false
  | .local=>(xs.contains p.1||p.1==(".0":Str))&&sc.names.lookup p.1==some .local
  | .free=>fk p.1==some .cell||fk p.1==some .free
  | _=>true) &&
 decide ((xs++R).Nodup)&&!(R.contains (".0":Str))&&R.length==N.length &&
 (R.zip N).all (fun p=>p.1==p.2||sc.names.lookup p.1 != some .free)
structure bo (sc:Scope)(fk:Str→Option NameKind)(xs:List Str)(R N:List Str):Prop where
 kind:sc.kind=.function
 own:∀x∈xs,sc.names.lookup x=some .local
 nocell:∀p∈sc.names,p.2≠.cell
 locs:∀p∈sc.names,p.2=.local→p.1∈xs∨p.1=(".0":Str)
 lnames:∀p∈sc.names,p.2=.local→sc.names.lookup p.1=some .local
 free:∀p∈sc.names,p.2=.free→fk p.1=some .cell∨fk p.1=some .free
 nd:(xs++R).Nodup
 no0:(".0":Str)∉R
 len:R.length=N.length
 same:∀(i:Nat) y,R[i]?=some y→sc.names.lookup y=some .free→N[i]?=some y
theorem bo.of {sc:Scope}{fk:Str→Option NameKind}{xs:List Str}{R N:List Str}(h:bi sc fk xs R N=true):bo sc fk xs R N:=by
 unfold bi at h;simp only[Bool.and_eq_true,decide_eq_true_eq,all_eq_true,Bool.not_eq_true',beq_iff_eq] at h;obtain⟨⟨⟨⟨⟨⟨h1,h2⟩,h3⟩,h4⟩,h5⟩,h6⟩,h7⟩:=h;refine⟨h1,h2,fun p hp e=>?_,fun p hp e=>?_,fun p hp e=>?_,fun p hp e=>?_,h4,?_,h6,fun i y hy hf=>?_⟩
 ·have:=h3 p hp;rw[e] at this;simp at this
 ·have:=h3 p hp;rw[e] at this;simp at this;exact this.1
 ·have:=h3 p hp;rw[e] at this;simp at this;exact this.2
 ·have:=h3 p hp;rw[e] at this;simp at this;exact this
 ·intro hm;have:R.contains (".0":Str)=true:=by simpa using hm
  rw[this] at h5;cases h5
 ·obtain⟨hi,e⟩:=List.getElem?_eq_some_iff.mp hy;have hn:i<N.length:=by rw[←h6];exact hi
  have hz:(R[i],N[i])∈R.zip N:=by
   rw[mem_iff_getElem];exact⟨i,by simp;omega,by simp⟩
  have:=h7 _ hz;simp only[Bool.or_eq_true,beq_iff_eq,bne_iff_ne,ne_eq] at this;rcases this with q|q
  ·rw[getElem?_eq_getElem hn,←q,e]
  ·rw[e] at q;exact absurd hf q
def ao (X:Cx)(scope:Scope)(xs:List Str)(R:List Str)(fp:List Addr)(s:Shared)(H:Hp)(C:Addr):Cx where
 prog:=X.prog
 w:=X.w
 K:=X.K
 mg:=X.mg
 base:=X.base
 A:=X.A
 N:=xs++R
 s₀:=s
 H₀:=H
 env:=compEnvC scope (cU X.env.cells scope.names []) C X.env
 outer:=X.stack
 stack:=X.stack
 ex:=fp
 fn:=fun _=>false
 calm:=X.calm
 pn:=[]
 xe:=fun _ _=>False
variable{y:Str}
section
variable {X:Cx}{ae:List (Addr×Obj)}{σ:L2.St}{H:Hp}{s:Shared}{scope:Scope}{xs:List Str}{R:List Str}{fp:List Addr}{C:Addr}
theorem bo.cells (S:bo scope X.env.kindOf xs R X.N)(I:L2.Inv X ae σ H s):∀p∈scope.names,p.2=.free→∃c,X.env.cells.lookup p.1=some c:=fun p hp e=>I.ok.has p.1 (S.free p hp e)
theorem bK (S:bo scope X.env.kindOf xs R X.N)(I:L2.Inv X ae σ H s)(h:(cU X.env.cells scope.names []).lookup y=some c):X.env.cells.lookup y=some c:=
 pG scope.names [] (fun _ z=>by cases z) (S.cells I) (y,c) (PySem.mem_of_lookup h)
theorem oH {h4:Heap}{m:Str→Option Value}{tk:Nat}(S:bo scope X.env.kindOf xs R X.N)(I:L2.Inv X ae σ H s)(hC:s.heap.objs.size≤C)(k:∀b o,s.heap.get? b=some o→h4.get? b=some o)(hn:h4.Ns C m)
  (hf:∀b∈fp,ig X ae H b) (hfl:∀b∈fp,b<s.heap.objs.size):L2.Inv (ao X scope xs R fp s H C) [] (List.replicate xs.length none++σ) H {s with heap:=h4,toks:=tk}:=by
 have hkn:∀y kk,(relabel scope X.env).names.lookup y=some kk→(kk=.cell∨kk=.free)→scope.names.lookup y=some .free:=fun y kk e hk=>by
  rcases gT e with q|q
  ·rcases hk with z|z
   ·subst z;exact absurd rfl (S.nocell _ (PySem.mem_of_lookup q))
   ·subst z;exact q
  ·exact q.2
 have hasc:∀y,scope.names.lookup y=some .free→∃c,(cU X.env.cells scope.names []).lookup y=some c:=fun y e=>by
  obtain⟨c,hc⟩:=pk (cells:=X.env.cells) scope.names [] y (PySem.mem_of_lookup e);exact lG hc
 refine⟨⟨I.ok.mod,S.kind,I.ok.glob,I.ok.blt,hC,fun y z c h1 h2=>I.ok.inj y z c (bK S I h1) (bK S I h2),fun y hy=>?_,fun y c z=>absurd (show false=true from z) Bool.false_ne_true,I.ok.hd,I.ok.frames,.inl rfl,fun b hb=>⟨?_,fun y c e=>?_⟩,I.bs,Nat.le_trans I.ok.bsz I.sz,fun b o e hb=>?_,fun b hb z=>?_,I.stack,I.stkFree⟩,
  rfl,I.bare,Un.kept k,⟨m,hn,fun i y v h1 h2 h3=>?_⟩,fun y c e=>?_,I.hok.fresh hC,fun y c e=>I.freeC y c (bK S I e),fun p hp=>absurd (show p∈([]:List (Addr×Obj)) from hp) (by simp),I.hok.kept k,?_⟩
 ·rcases hy with e|e
  ·exact hasc y (hkn y _ e (.inl rfl))
  ·exact hasc y (hkn y _ e (.inr rfl))
 ·exact Nat.ne_of_lt (Nat.lt_of_lt_of_le (hfl b hb) hC)
 ·exact(hf b hb).2.2.2.2.1 y c (bK S I e)
 ·rcases(hf b hb).2.2.2.1 with z|z
  ·exact I.ok.noex b o e z
  ·exact absurd (Nat.lt_of_lt_of_le (Heap.lt_size e) (Nat.le_trans I.ok.bsz z)) (Nat.lt_irrefl _)
 ·rcases mem_cons.mp (I.stkSub b z) with e|e
  ·exact(hf b hb).2.1 e
  ·exact(hf b hb).2.2.1 e
 ·by_cases hi:i<xs.length
  ·exfalso;rw[getElem?_append_left (by rw[length_replicate];exact hi),getElem?_replicate,if_pos hi] at h2;cases h2
  ·obtain⟨i,rfl⟩:∃j,i=xs.length+j:=⟨i-xs.length,by omega⟩;have h1:R[i]?=some y:=by
    have h1:(xs++R)[xs.length+i]?=some y:=h1;rw[getElem?_append_right (by omega)] at h1;simpa using h1
   have h2:σ[i]?=some (some v):=by
    rw[getElem?_append_right (by rw[length_replicate];omega)] at h2;simpa using h2
   have hyR:y∈R:=mem_of_getElem? h1;have hf':scope.names.lookup y=some .free∧((relabel scope X.env).names.lookup y=some .cell∨(relabel scope X.env).names.lookup y=some .free):=by
    have h3:(relabel scope X.env).names.lookup y=some .local∨(relabel scope X.env).names.lookup y=some .cell∨(relabel scope X.env).names.lookup y=some .free:=h3;rcases h3 with e|e|e
    ·rcases gT e with q|q
     ·exfalso;rcases S.locs _ (PySem.mem_of_lookup q) rfl with z|z
      ·exact(nodup_append.mp S.nd).2.2 y z y hyR rfl
      ·have z:y=(".0":Str):=z;rw[z] at hyR;exact S.no0 hyR
     ·exact absurd q.1 (by intro z;cases z)
    ·exact⟨hkn y _ e (.inl rfl),.inl e⟩
    ·exact⟨hkn y _ e (.inr rfl),.inr e⟩
   have hN:=S.same i y h1 hf'.1;have hk:=S.free (y,.free) (PySem.mem_of_lookup hf'.1) rfl;obtain⟨mX,hnX,hl⟩:=I.loc;have vis:Fh X.env.scope y:=by
    rcases hk with z|z
    ·exact .inr (.inl z)
    ·exact .inr (.inr z)
   obtain⟨u,r,l⟩:=hl i y v hN h2 vis;refine⟨u,r,.inr ⟨hf'.2,?_⟩⟩;rcases l with⟨z,_⟩|⟨_,c,hc,o,ho,hod⟩
   ·exfalso;rcases hk with q|q
    ·have q:X.env.kindOf y=some .cell:=q;rw[z] at q;cases q
    ·have q:X.env.kindOf y=some .free:=q;rw[z] at q;cases q
   ·obtain⟨c',hc'⟩:=hasc y hf'.1;have:c'=c:=by
     have:=bK S I hc';rw[hc] at this;exact(Option.some.inj this).symm
    subst this;exact⟨c',hc',o,k _ _ ho,hod⟩
 ·obtain⟨v,o,ho,hd⟩:=I.cell y c (bK S I e);exact⟨v,o,k _ _ ho,hd⟩
 ·show(List.replicate xs.length none++σ).length=(xs++R).length;rw[length_append,length_append,length_replicate,I.len,S.len]
end
def eS (t:iM)(gc:GT)(ge:GE):List D→bI→au→aO (List D)
 | [],ρ,M=>if t.ok M then .ok [] M else .bad
 | d::r,ρ,M=>if t.ok M then
   match gc (some d::ρ) M with
   | .ok true M1=>match ge (some d::ρ) M1 with
    | .ok e M2=>(eS t gc ge r ρ M2).bind fun es M3=>.ok (e::es) M3
    | _=>.bad
   | .ok false M1=>eS t gc ge r ρ M1
   | _=>.bad
  else .bad
def aU:GT:=fun _ M=>.ok true M
def bb (t:iM)(n:Nat)(sg:GG)(gc:GT)(ge:GE):List D→bI→au→aO (List D)
 | [],ρ,M=>if t.ok M then .ok [] M else .bad
 | d::r,ρ,M=>if t.ok M then
   match sg d (List.replicate n none++ρ) with
   | none=>.bad
   | some ρ1=>match gc ρ1 M with
    | .ok true M1=>match ge ρ1 M1 with
     | .ok e M2=>(bb t n sg gc ge r ρ M2).bind fun es M3=>.ok (e::es) M3
     | _=>.bad
    | .ok false M1=>bb t n sg gc ge r ρ M1
    | _=>.bad
  else .bad
def bU (gi:GI)(n:Nat)(sg:GG)(gc:GT)(ge:GE)(mk:List D→au→aO D):GE:=fun ρ M=>(gi ρ M).bind fun t M1=>(bb t n sg gc ge t.ds ρ M1).bind mk
theorem uV (t:iM)(gc:GT)(ge:GE):∀(ds:List D) (ρ:bI) (M:au),eS t gc ge ds ρ M=bb t 1 (cn 0) gc ge ds ρ M
 | [],ρ,M=>rfl
 | d::r,ρ,M=>by
  have ih:=uV t gc ge r;unfold eS bb;show _=(if t.ok M=true then(match gc (some d::ρ) M with
    | .ok true M1=>match ge (some d::ρ) M1 with
     | .ok e M2=>(bb t 1 (cn 0) gc ge r ρ M2).bind fun es M3=>.ok (e::es) M3
     | _=>.bad
    | .ok false M1=>bb t 1 (cn 0) gc ge r ρ M1
    | _=>.bad) else .bad)
  simp only[ih]
def m5 (n:Nat)(sg:GG):Prop:=∀d ρ ρ',sg d ρ=some ρ'→ρ'.length=ρ.length∧∀i:Nat,n≤i→ρ'[i]?=ρ[i]?
theorem sR (h:i<n):m5 n (cn i):=fun d ρ ρ' e=>by
 have e:some (ρ.set i (some d))=some ρ':=e;cases e;exact⟨by rw[length_set],fun j hj=>by rw[getElem?_set_ne (by omega)]⟩
theorem vO {n:Nat}:∀{is:List Nat} {ds:List D} {ρ ρ':bI},is.all (fun i=>decide (i<n))=true→mU is ds ρ=some ρ'→ρ'.length=ρ.length∧∀i:Nat,n≤i→ρ'[i]?=ρ[i]?
 | [],[],ρ,ρ',_,e=>by cases e;exact⟨rfl,fun _ _=>rfl⟩
 | [],_::_,_,_,_,e=>by cases e
 | _::_,[],_,_,_,e=>by cases e
 | i::is,d::ds,ρ,ρ',h,e=>by
  rw[all_cons,Bool.and_eq_true] at h;have hi:i<n:=by simpa using h.1
  obtain⟨a,b⟩:=vO h.2 (show mU is ds (ρ.set i (some d))=some ρ' from e);exact⟨by rw[a,length_set],fun j hj=>by rw[b j hj,getElem?_set_ne (by omega)]⟩
theorem Cv (h:is.all (fun i=>decide (i<n))=true):m5 n (dU is):=fun d ρ ρ' e=>by
 cases d with
 | tup ds=>exact vO h e
 | _=>cases e
theorem m5.back {τ:L2.St}{ρ1:bI}(o:m5 n sg)(e:sg d (List.replicate n none++ρ)=some ρ1)(h:jp K θ H τ ρ1):jp K θ H τ (List.replicate n none++ρ):=by
 obtain⟨a,b⟩:=o _ _ _ e;refine⟨by rw[←a];exact h.len,fun i d' q=>?_⟩
 by_cases hi:i<n
 ·rw[getElem?_append_left (by rw[length_replicate];exact hi),getElem?_replicate,if_pos hi] at q;cases q
 ·rw[←b i (by omega)] at q;exact h.at_ i d' q
def aM (gi:GI)(gc:GT)(ge:GE)(mk:List D→au→aO D):GE:=fun ρ M=>(gi ρ M).bind fun t M1=>(eS t gc ge t.ds ρ M1).bind mk
theorem nK (elt target iter:Expr)(ifs:List Expr)(scope:Scope)(pos:Pos)(it acc:Value)(env:Env)(cond:Sem Bool)
  (hc:(forIn (m:=Sem) ifs true fun c r=>if r=true then do let ok ←isTrue c env (eval c env);pure (ForInStep.yield ok) else pure (ForInStep.yield r))=cond) :
  compTurn (.ListComp elt [⟨target,iter,ifs,0⟩] scope pos) 0 it acc env=(standAt iter.pos >>= fun _=>pyNext it >>= fun r=>match r with
   | none=>pure (.done .next)
   | some v=>letOwnedTupleGo target it v >>= fun _=>assign target env v >>= fun _=>cond >>= fun ok=>
    if ok=true then((eval elt env >>= fun x=>call (.builtin "list.append") [acc,x] >>= fun _=>pure ()) >>= fun _=>
     again (.compLoop (.ListComp elt [⟨target,iter,ifs,0⟩] scope pos) 0 it acc env)) else again (.compLoop (.ListComp elt [⟨target,iter,ifs,0⟩] scope pos) 0 it acc env)):=by
 subst hc;rfl
section
variable {prog:Program}{w:World}{A:Around}{R:Result→Shared→Prop}{s:Shared}
theorem j4 {elt target iter:Expr}{ifs:List Expr}{scope:Scope}{pos:Pos}{it acc:Value}{env:Env}{cond:Sem Bool}
  (hc:(forIn (m:=Sem) ifs true fun c r=>if r=true then do let ok ←isTrue c env (eval c env);pure (ForInStep.yield ok) else pure (ForInStep.yield r))=cond) (I:Nat→Shared→Prop)
  (turn:∀n s,I n s→wpAny (model prog w) A (pyNext it) (fun r s₁=>match r with
   | none=>R (.ok .next) s₁
   | some v=>wpAny (model prog w) A (letOwnedTupleGo target it v) (fun _ s₂=>wpAny (model prog w) A (assign target env v) (fun _ s₃=>wpAny (model prog w) A cond (fun ok s₄=>if ok=true then
     wpAny (model prog w) A (eval elt env) (fun x s₅=>wpAny (model prog w) A (call (.builtin "list.append") [acc,x]) (fun _ s₆=>∃m,m<n∧I m s₆) (fun _ _=>False) s₅) (fun _ _=>False) s₄
     else∃m,m<n∧I m s₄) (fun _ _=>False) s₃) (fun _ _=>False) s₂) (fun _ _=>False) s₁) (fun _ _=>False) s)
  (n:Nat) (h:I n s):codeAny (model prog w) A (.compLoop (.ListComp elt [⟨target,iter,ifs,0⟩] scope pos) 0 it acc env) R s:=by
 refine codeAny_loop rfl I (fun n s hI=>?_) n h;show wpAny _ _ ((compTurn (.ListComp elt [⟨target,iter,ifs,0⟩] scope pos) 0 it acc env).onRaise (fun x=>do noteFrame x env;theTreesLotGoes x)) _ _ s;refine wpAny_noted ?_;rw[nK _ _ _ _ _ _ _ _ _ _ hc];refine wpAny_bind (wpAny_standAt (wpAny_bind (wpAny_mono (turn n s hI) (fun r s₁ h₁=>?_) fun _ _ z=>z.elim)));cases r with
 | none=>exact wpAny_pure h₁
 | some v=>
  refine wpAny_bind (wpAny_mono h₁ (fun _ s₂ h₂=>?_) fun _ _ z=>z.elim);refine wpAny_bind (wpAny_mono h₂ (fun _ s₃ h₃=>?_) fun _ _ z=>z.elim);refine wpAny_bind (wpAny_mono h₃ (fun ok s₄ h₄=>?_) fun _ _ z=>z.elim);cases ok with
  | true=>
   rw[if_pos rfl] at h₄;rw[if_pos rfl];exact wpAny_bind (wpAny_bind (wpAny_mono h₄ (fun x s₅ h₅=>wpAny_bind (wpAny_mono h₅ (fun _ s₆ h₆=>wpAny_pure (wpAny_pure ⟨rfl,h₆⟩)) fun _ _ z=>z.elim)) fun _ _ z=>z.elim))
  | false=>
   rw[if_neg Bool.false_ne_true] at h₄;rw[if_neg Bool.false_ne_true];exact wpAny_pure ⟨rfl,h₄⟩
theorem wU {env:Env}:(forIn (m:=Sem) ([]:List Expr) true fun c r=>if r=true then do let ok ←isTrue c env (eval c env);pure (ForInStep.yield ok) else pure (ForInStep.yield r))=pure true:=rfl
end
theorem yo {b a c:Nat}(h:b<a)(e:c=a+1):b≠c:=by omega
theorem tU {b a c:Nat}(h:b<c)(e:c=a):a≠b:=by omega
theorem kB {b a c:Nat}(h:b<c)(e:c=a):b≠a:=by omega
abbrev cp (its:List Value)(n:Nat):Obj:={cls:=.type "list",data:=.seq its.toArray n}
section
variable {X:Cx}{ae:List (Addr×Obj)}{σ:L2.St}{s:Shared}{scope:Scope}{xs:List Str}{tg:Expr}{sg:GG}{R:List Str}{elt iter:Expr}{ifs:List Expr}{pos:Pos}{E:Value→Shared→Prop}
theorem sQ {σ:L2.St}(h:jp K θ H σ ρ):jp K θ H (List.replicate n none++σ) (List.replicate n none++ρ):=by
 refine⟨by rw[length_append,length_append,length_replicate,length_replicate,h.len],fun i d e=>?_⟩
 by_cases hi:i<n
 ·rw[getElem?_append_left (by rw[length_replicate];exact hi),getElem?_replicate,if_pos hi] at e;cases e
 ·rw[getElem?_append_right (by rw[length_replicate];omega),length_replicate] at e ⊢;exact h.at_ _ d e
inductive ME (X0:Cx) (fp:List Addr) (tn:Nat→Heap→Prop) (K:W.Frag) (acc:Addr) (t:iM) (ρ0:bI) (θ1:List Addr) (H2:Hp) (es:List D) (go:List D→au→aO (List D)) (Mend:au) (n:Nat) (s':Shared):Prop
 | mk (i:Nat) (τ:L2.St) (H':Hp) (θ':List Addr) (M':au) (ds ap:List D) (vs:List V) (its:List Value) (na:Nat) (e1:n=t.ds.length-i) (e2:i≤t.ds.length)
   (e3:L2.Inv X0 [(acc,cp its na)] τ H' s') (e4:jp K θ' H' τ ρ0) (e5:tn i s'.heap) (e6:∀b∈fp,H' b=none) (e7:Go K θ1 H2 θ' H' M') (e8:ba K θ' H' ds vs) (e9:aR vs its) (e10:go (t.ds.drop i) M'=.ok ap Mend) (e11:ds++ap=es)
theorem oV {fp:List Addr}{it:Addr}{tn:Nat→Heap→Prop}{J:It}{H2:Hp}{s2:Shared}{t:iM}{M1:au}{θ1:List Addr}{gc:GT}{ge:GE}{es:List D}{Mend:au}{RR:Value→Addr→Result→Shared→Prop}
  (S:bo scope X.env.kindOf xs R X.N) (hc:X.calm=true) (I2:L2.Inv X ae σ H2 s2) (T:vm X.prog X.w X.K tg J fp it tn) (st2:tn 0 s2.heap) (f2:∀b∈fp,ig X ae H2 b)
  (hw1:Wr X.K θ1 H2 M1) (hd1:jp X.K θ1 H2 σ ρ) (hJ:wQ X.K J θ1 H2 t) (hgo:bb t xs.length sg gc ge t.ds ρ M1=.ok es Mend) (hlen:es.length≤sizeLine)
  (hcd:∀C,∃cond,(forIn (m:=Sem) ifs true fun c r=>if r=true then do let ok ←isTrue c (ao X scope xs R fp s2 H2 C).env (eval c (ao X scope xs R fp s2 H2 C).env);pure (ForInStep.yield ok) else pure (ForInStep.yield r))=cond∧
   ∀(ae:List (Addr×Obj)) (s:Shared) (σ:L2.St) (H:Hp) (Q:Bool→Hp→Prop),L2.Inv (ao X scope xs R fp s2 H2 C) ae σ H s→tT (ao X scope xs R fp s2 H2 C) gc σ H Q→wpAny (model X.prog X.w) X.A cond (TP (ao X scope xs R fp s2 H2 C) ae σ Q) (fun _ _=>False) s)
  (own:m5 xs.length sg) (hg:∀C,PG (ao X scope xs R fp s2 H2 C) tg (tG (ao X scope xs R fp s2 H2 C) sg))
  (he:∀C,PE (ao X scope xs R fp s2 H2 C) elt (tE (ao X scope xs R fp s2 H2 C) ge))
  (fin:∀(acc C:Addr) (s':Shared) (H':Hp) (θ':List Addr) (vs:List V) (m:Str→Option Value),L2.Inv X ae σ (cA H' acc (.lst vs)) s'→s'.heap.Ns C m→ig X ae (cA H' acc (.lst vs)) C→Go X.K θ1 H2 θ' H' Mend→H' acc=none→ba X.K θ' H' es vs→RR (.ref acc) C (.ok .next) s') :
  wpAny (model X.prog X.w) X.A (newList []) (fun acc s₃=>wpAny (model X.prog X.w) X.A (newFunctionEnv scope X.env.globals (cU X.env.cells scope.names []) [] X.env.qual none .none (some X.env)) (fun cenv s₄=>
   codeAny (model X.prog X.w) X.A (.compStart (.ListComp elt [⟨tg,iter,ifs,0⟩] scope pos) 0 (.ref it) acc {cenv with scope:=relabel scope X.env}) (RR acc cenv.locals) s₄) E s₃) E s2:=by
 refine wpAny_newObj_type (wpAny_newFunctionEnv S.nocell (by intro y hy;simp at hy) (fun h₁ hns₁ hsb₁=>?_) S.kind);dsimp only at hns₁ hsb₁ ⊢;generalize hHp:s2.heap.push {cls:=.type "list",dict:=none,data:=.seq ([]:List Value).toArray}=Hp2 at hns₁ hsb₁ ⊢;have hCe:Hp2.objs.size=s2.heap.objs.size+1:=by rw[←hHp,Heap.size_push]
 generalize hCd:Hp2.objs.size=C at hns₁ hsb₁ hCe ⊢;generalize hAd:s2.heap.objs.size=acc at hCe ⊢;have hDC:acc≠C:=by rw[hCe];exact Nat.ne_of_lt (Nat.lt_succ_self _)
 have old:∀b o,s2.heap.get? b=some o→h₁.get? b=some o:=fun b o e=>by
  have hb:b<acc:=by rw[←hAd];exact Heap.lt_size e
  refine hsb₁.extBut b o (yo hb hCe) (Heap.get?_push_of_some _ ?_);rw[←hHp];exact Heap.get?_push_of_some _ e
 have hacc0:h₁.get? acc=some (cp [] 0):=by
  refine hsb₁.extBut acc _ hDC (Heap.get?_push_of_some _ ?_);rw[←hHp,←hAd];exact Heap.get?_push_size _ rfl
 have hfl:∀b∈fp,b<s2.heap.objs.size:=fun b hb=>by
  obtain⟨o,e,_⟩:=T.obj 0 _ st2 b hb;exact Heap.lt_size e
 have hCs:s2.heap.objs.size≤C:=by omega
 have IY0:L2.Inv (ao X scope xs R fp s2 H2 C) [] (List.replicate xs.length none++σ) H2 {s2 with heap:=h₁,toks:=s2.toks+([]:List (Str×Value)).length}:=oH S I2 hCs old hns₁ f2 hfl;obtain⟨cond,hcond,hct⟩:=hcd C;have fpY:∀{H':Hp} {p:Obj},(∀b∈fp,H' b=none)→∀b∈fp,ig (ao X scope xs R fp s2 H2 C) [(acc,p)] H' b:=fun {H' p} hn b hb=>by
  refine⟨hn b hb,?_,fun z=>?_,.inl hb,fun y c e=>?_,fun q hq=>?_⟩
  ·exact Nat.ne_of_lt (Nat.lt_of_lt_of_le (hfl b hb) hCs)
  ·rcases mem_cons.mp (I2.stkSub b z) with e|e
   ·exact(f2 b hb).2.1 e
   ·exact(f2 b hb).2.2.1 e
  ·exact(f2 b hb).2.2.2.2.1 y c (bK S I2 e)
  ·have hq:q∈([]:List (Addr×Obj))++[(acc,p)]:=hq;have e:q=(acc,p):=by simpa using hq
   rw[e];exact tU (hfl b hb) hAd
 have accF:∀b∈lY X.stack,acc≠b:=fun b hb e=>by
  have:acc∉X.env.locals::X.fs:=by
   intro z;rcases mem_cons.mp z with z|z
   ·exact tU I2.lt hAd z
   ·exact I2.nofs (Nat.le_of_eq hAd) z
  exact this (e▸I2.stkSub b hb)
 have loop:∀s₃:Shared,s₃={s2 with heap:=h₁,toks:=s2.toks+([]:List (Str×Value)).length}→
   codeAny (model X.prog X.w) X.A (.compLoop (.ListComp elt [⟨tg,iter,ifs,0⟩] scope pos) 0 (.ref it) (.ref acc) (ao X scope xs R fp s2 H2 C).env) (RR (.ref acc) C) s₃:=by
  rintro s₃ rfl;have pin0:∀{σ':L2.St} {H':Hp} {s':Shared} {its:List Value} {n:Nat},L2.Inv (ao X scope xs R fp s2 H2 C) [] σ' H' s'→s'.heap.get? acc=some (cp its n)→H' acc=none→L2.Inv (ao X scope xs R fp s2 H2 C) [(acc,cp its n)] σ' H' s':=fun {σ' H' s' its n} I' e hn=>
   I'.pins_of fun p hp=>by
    have ep:p=(acc,cp its n):=by simpa using hp
    subst ep;exact⟨e,hn,hDC,fun z=>accF acc z rfl,fun v z=>by cases z⟩
  refine j4 hcond (ME (ao X scope xs R fp s2 H2 C) fp tn X.K acc t (List.replicate xs.length none++ρ) θ1 H2 es (fun l N=>bb t xs.length sg gc ge l ρ N) Mend) ?_ t.ds.length
   ⟨0,_,H2,θ1,M1,[],es,[],[],0,rfl,Nat.zero_le _,pin0 IY0 hacc0 (I2.hok.fresh (Nat.le_of_eq hAd)),sQ hd1,T.keep 0 _ _ st2 (fun b hb o e=>old b o e),fun b hb=>(f2 b hb).1,.refl hw1,rfl,.nil,hgo,rfl⟩
  rintro n s' ⟨i,τ,H',θ',M',ds,ap,vs,its,na,rfl,hil,I',dn',st',fr',g',rd',rv',hrest,hes⟩;have hok:t.ok M'=true:=by
   cases hq:t.ok M' with
   | true=>rfl
   | false=>
    exfalso;cases hdr:t.ds.drop i with
    | nil=>rw[hdr,bb,if_neg (by rw[hq];exact Bool.false_ne_true)] at hrest;cases hrest
    | cons d r=>rw[hdr,bb,if_neg (by rw[hq];exact Bool.false_ne_true)] at hrest;cases hrest
  obtain⟨hy,hst⟩:=hJ θ' H' M' g' hok i
  by_cases hlt:i<t.ds.length
  ·have e1:t.ds[i]?=some t.ds[i]:=getElem?_eq_getElem hlt;obtain⟨hgo',hyl⟩:=hy _ e1;rw[drop_eq_getElem_cons hlt,bb,if_pos hok] at hrest;refine cb (T.item (ao X scope xs R fp s2 H2 C) rfl rfl rfl hc i _ s' _ H' _ I' (fpY fr') st' hgo') fun r s4 hxx=>?_
   obtain⟨u,hr,h4⟩:=hxx;subst hr;refine cb h4 fun _ s5 hxx=>?_
   obtain⟨v,H5,I5,r5,y5,st5,fr5⟩:=hxx;obtain⟨gy,rx⟩:=hyl v H5 y5;have I5':=I5.pinned (fpY fr5) (T.obj _ _ st5);cases qs:sg t.ds[i] (List.replicate xs.length none++ρ) with
   | none=>rw[qs] at hrest;cases hrest
   | some ρ1=>
   rw[qs] at hrest;dsimp only at hrest;refine cb (hg C _ s5 _ H5 v u (fun σ6 H6=>jp X.K θ' H6 σ6 ρ1∧H6=H5) I5' r5 ⟨_,θ',M',t.ds[i],dn'.go gy,gy.wr,rx,ρ1,qs,fun σ6 d6=>⟨d6,rfl⟩⟩) fun _ s6 hxx=>?_
   obtain⟨σ6,H6,I6,hdY,eH6⟩:=hxx;subst eH6;cases qc:gc ρ1 M' with
   | bad=>rw[qc] at hrest;cases hrest
   | err c Mx=>rw[qc] at hrest;cases hrest
   | ok b Mb=>
    refine cb (hct _ s6 _ H6 (fun b' H7=>b'=b∧∃θ7,Go X.K θ' H6 θ7 H7 Mb) I6 ⟨_,θ',M',hdY,gy.wr,?_⟩) fun ok s7 ⟨H7,I7,eb,θ7,g7⟩=>?_
    ·rw[qc];exact fun θ7 H7 g7=>⟨rfl,θ7,g7⟩
    subst eb;have fpk:∀{s8:Shared} {σ8:L2.St} {H8:Hp},L2.Inv (ao X scope xs R fp s2 H2 C) ([(acc,cp its na)]++nr fp s5.heap) σ8 H8 s8→(∀b∈fp,H8 b=none)∧(∀b∈fp,∀o,s5.heap.get? b=some o→s8.heap.get? b=some o)∧s8.heap.get? acc=some (cp its na)∧H8 acc=none:=fun {s8 σ8 H8} I8=>by
     have pa:=I8.pin (acc,cp its na) (mem_append_right _ (mem_append_left _ (by simp)));refine⟨fun b hb=>?_,fun b hb o e=>(I8.pin (b,o) (mem_append_right _ (mem_append_right _ (dR hb e)))).1,pa.1,pa.2.1⟩;obtain⟨o,e,d⟩:=T.obj _ _ st5 b hb;exact(I8.pin (b,o) (mem_append_right _ (mem_append_right _ (dR hb e)))).2.1
    cases ok with
    | false=>
     rw[if_neg Bool.false_ne_true];rw[qc] at hrest;obtain⟨k1,k2,k3,k4⟩:=fpk I7;exact⟨t.ds.length-(i+1),by omega,i+1,σ6,H7,θ7,Mb,ds,ap,vs,its,na,rfl,hlt,I7.unpinned,own.back qs (hdY.go g7),T.keep _ _ _ st5 k2,k1,g'.trans (gy.trans g7),rd'.go (gy.trans g7),rv',hrest,hes⟩
    | true=>
     rw[if_pos rfl];rw[qc] at hrest;have hrest:(match ge ρ1 Mb with
      | .ok e M2=>(bb t xs.length sg gc ge (t.ds.drop (i+1)) ρ M2).bind fun es M3=>.ok (e::es) M3
      | _=>.bad)=aO.ok ap Mend:=hrest
     cases qe:ge ρ1 Mb with
     | bad=>rw[qe] at hrest;cases hrest
     | err c Mx=>rw[qe] at hrest;cases hrest
     | ok dv Mv=>
      rw[qe] at hrest;have hrest:((bb t xs.length sg gc ge (t.ds.drop (i+1)) ρ Mv).bind fun es M3=>aO.ok (dv::es) M3)=aO.ok ap Mend:=hrest;refine cb (he C _ s7 _ H7 (fun w H8=>∃θ8,Go X.K θ7 H7 θ8 H8 Mv∧cP X.K θ8 H8 dv w) I7 ⟨_,θ7,Mb,hdY.go g7,g7.wr,?_⟩) fun uv s8 ⟨w,H8,I8,rw8,θ8,g8,rd8⟩=>?_
      ·rw[qe];exact fun w θ8 H8 g8 rd8=>⟨θ8,g8,rd8⟩
      obtain⟨k1,k2,k3,k4⟩:=fpk I8;cases qr:bb t xs.length sg gc ge (t.ds.drop (i+1)) ρ Mv with
      | bad=>rw[qr] at hrest;cases hrest
      | err c Mx=>rw[qr] at hrest;cases hrest
      | ok rest' Mr=>
       rw[qr] at hrest;have hrest:aO.ok (dv::rest') Mr=aO.ok ap Mend:=hrest;cases hrest;have hsz:its.length<sizeLine:=by
        have e2:(ds++dv::rest').length≤sizeLine:=by rw[hes];exact hlen
        rw[length_append,length_cons,ay rd',rv'.length] at e2;omega
       refine call_meets F.slot_list_append ⟨_,k3,rfl⟩ F.entry_list_append (F.args_list_append_2 _ _) (PySem.list_append acc its.toArray na uv (by rw[size_toArray];omega)) ⟨k3,?_⟩;have qup:=PySem.IsL.update k3 (fun a=>a.push uv);have eup:(its.toArray.push uv)=(its++[uv]).toArray:=by simp
       have keepb:∀b o,b≠acc→s8.heap.get? b=some o→(s8.heap.update acc (Obj.mapSeq fun a=>a.push uv)).get? b=some o:=fun b o hb e=>(Heap.get?_update_other s8.heap _ (Ne.symm hb)).trans e
       have I9:L2.Inv (ao X scope xs R fp s2 H2 C) [] σ6 H8 {s8 with heap:=s8.heap.update acc (Obj.mapSeq fun a=>a.push uv),toks:=s8.toks}:=by
        refine Inv.turned (it:=acc) (I8.pins_of (pins':=[]) fun p hp=>absurd hp (by simp)) keepb k4 hDC (.inr (Nat.le_of_eq hAd)) (fun y c e z=>?_) fun p hp=>absurd (show p∈([]:List (Addr×Obj)) from hp) (by simp)
        obtain⟨v',o,ho,hdd⟩:=I2.cell y c (bK S I2 e);exact kB (Heap.lt_size ho) hAd z
       obtain⟨n',eq'⟩:∃n',(s8.heap.update acc (Obj.mapSeq fun a=>a.push uv)).get? acc=some (cp (its++[uv]) n'):=by
        have q2:=qup;rw[eup] at q2;exact⟨_,q2⟩
       exact⟨t.ds.length-(i+1),by omega,i+1,σ6,H8,θ8,Mv,ds++[dv],rest',vs++[w],its++[uv],n',rfl,hlt,pin0 I9 eq' k4,own.back qs (hdY.go (g7.trans g8)),T.keep _ _ _ st5 (fun b hb o e=>keepb b o (kB (hfl b hb) hAd) (k2 b hb o e)),k1,g'.trans (gy.trans (g7.trans g8)),cG (rd'.go (gy.trans (g7.trans g8))) ⟨w,[],rfl,rd8,rfl⟩,rv'.append (.cons rw8 .nil),qr,by rw[←hes];simp⟩
  ·have e:i=t.ds.length:=by omega
   subst e;rw[drop_length,bb,if_pos hok] at hrest;cases hrest;have hes:ds=es:=by rw[←hes];simp
   subst hes;refine cb (T.done (ao X scope xs R fp s2 H2 C) rfl rfl rfl hc _ _ s' _ H' _ I' (fpY fr') st' (hst (Nat.le_refl _))) fun r s4 hxx=>?_
   obtain⟨hr,I4⟩:=hxx;subst hr;have pa:=I4.pin (acc,cp its na) (mem_append_right _ (by simp));have e4:s4.heap.get? acc=some (cp its na):=pa.1;have n4:H' acc=none:=pa.2.1;have lv:vs.length≤sizeLine:=by rw[←ay rd'];exact hlen
   obtain⟨mC,hnC,_⟩:=I4.loc;have hHC:H' C=none:=I4.free;have ue:Un (lY X.stack) fp H2 H' s2.heap s4.heap:=I4.base;have neA:∀{b:Addr} {o:Obj},s2.heap.get? b=some o→b≠acc:=fun {b o} e=>kB (Heap.lt_size e) hAd
   have neH:∀{b:Addr} {u:HO},H' b=some u→b≠acc:=fun {b u} e z=>by rw[z,n4] at e;cases e
   have un4:Un (lY X.stack) fp H2 (cA H' acc (.lst vs)) s2.heap s4.heap:=by
    refine⟨ue.keep,ue.slot,fun b o e n hx=>?_,ue.there,fun b xs e=>?_,fun b o u e=>?_,fun b ps e=>?_⟩
    ·rw[aK (neA e)];exact ue.free b o e n hx
    ·have z:=ue.tups b xs e;rw[aK (neH z)];exact z
    ·have z:=ue.frzs b o u e;rw[aK (neH z)];exact z
    ·obtain⟨more,z⟩:=ue.tbls b ps e;exact⟨more,by rw[aK (neH z)];exact z⟩
   have hok4:lu X.prog X.w (cA H' acc (.lst vs)) s4.heap:=fun b u e=>by
    by_cases hb:b=acc
    ·subst hb;rw[dL] at e;cases e;exact⟨lv,its,na,rv',e4⟩
    ·rw[aK hb] at e;exact(I4.hok b u e).stay (fun c v _ q=>q) (fun c q=>by rw[aK (neH q)];exact q) fun c xs q=>by rw[aK (neH q)];exact q
   have IX:L2.Inv X ae σ (cA H' acc (.lst vs)) s4:=I2.call' (ch:=fp) I4.os un4 hok4 I4.bare fun b hb=>⟨(f2 b hb).2.2.2.1,(f2 b hb).2.1,(f2 b hb).2.2.2.2.1,(f2 b hb).2.2.2.2.2⟩
   refine fin acc C s4 H' θ' vs mC IX hnC (I2.fpOk hCs ?_) g' n4 rd';rw[aK (Ne.symm hDC)];exact hHC
 exact codeAny_compStart_list (loop _ rfl) (T.self _ 0 _ _ _ (T.keep 0 _ _ st2 fun b hb o e=>old b o e) (loop _ rfl))
end
variable{mk:List D→au→aO D}
section
variable {X:Cx}{scope:Scope}{xs:List Str}{tg:Expr}{sg:GG}{x:Str}{px:Pos}{R:List Str}{elt iter:Expr}{ifs:List Expr}{pos:Pos}{gi:GI}{gc:GT}{ge:GE}
def Hz (mk:List D→au→aO D):Prop:=∀(X:Cx) (θ:List Addr) (H:Hp) (Q:VK) (ds:List D) (M:au) (vs:List V),aE X θ H Q (mk ds M)→Wr X.K θ H M→ba X.K θ H ds vs→vs.length≤sizeLine∧∀p,H p=none→Q (.ref p) (cA H p (.lst vs))
theorem Bj:Hz aA:=fun X θ H Q ds M vs h hw r=>aE.lst h hw r
theorem BO:Hz b0:=fun X θ H Q ds M vs h hw r=>aE.mut h hw r
theorem uB (hm:mk=aA∨mk=b0){X:Cx}{Q:VK}(h:aE X θ H Q (mk ds M)):ds.length≤sizeLine:=by
 rcases hm with e|e <;> subst e
 ·unfold aA at h;split at h
  ·assumption
  ·exact h.elim
 ·unfold b0 at h;split at h
  ·assumption
  ·exact h.elim
theorem yk (hm:mk=aA∨mk=b0):Hz mk:=by
 rcases hm with e|e <;> subst e
 ·exact Bj
 ·exact BO
def ik (X:Cx)(scope:Scope)(xs:List Str)(R:List Str)(ifs:List Expr)(gc:GT):Prop:=∀fp s2 H2 C,∃cond,(forIn (m:=Sem) ifs true fun c r=>if r=true then do let ok ←isTrue c (ao X scope xs R fp s2 H2 C).env (eval c (ao X scope xs R fp s2 H2 C).env);pure (ForInStep.yield ok) else pure (ForInStep.yield r))=cond∧
   ∀(ae:List (Addr×Obj)) (s:Shared) (σ:L2.St) (H:Hp) (Q:Bool→Hp→Prop),L2.Inv (ao X scope xs R fp s2 H2 C) ae σ H s→tT (ao X scope xs R fp s2 H2 C) gc σ H Q→wpAny (model X.prog X.w) X.A cond (TP (ao X scope xs R fp s2 H2 C) ae σ Q) (fun _ _=>False) s
theorem AJ:ik X scope xs R [] aU:=fun fp s2 H2 C=>⟨_,wU,fun ae s σ H Q I ⟨ρ,θ,M,hd,hw,h⟩=>wpAny_pure ⟨H,I,h θ H (.refl hw)⟩⟩
theorem jc {t:iM}{n:Nat}{sg:GG}{gc:GT}{ge:GE}{ρ:bI}{c:Str}{M':au}:∀(ds:List D) (M:au),bb t n sg gc ge ds ρ M=.err c M'→False
 | [],M,h=>by
  unfold bb at h;split at h <;> cases h
 | d::r,M,h=>by
  unfold bb at h;split at h
  ·split at h
   ·cases h
   ·split at h
    ·rename_i M1 q1;split at h
     ·rename_i e M2 q2;cases q:bb t n sg gc ge r ρ M2 with
      | ok es M3=>rw[q] at h;cases h
      | err c2 M3=>exact jc r M2 q
      | bad=>rw[q] at h;cases h
     ·cases h
    ·rename_i M1 q1;exact jc r M1 h
    ·cases h
  ·cases h
theorem uY (hS:bi scope X.env.kindOf xs R X.N=true)(hc:X.calm=true)(hm:mk=aA∨mk=b0)(hi:PI X tg iter (tI X gi))(own:m5 xs.length sg)(hg:∀fp s H C,PG (ao X scope xs R fp s H C) tg (tG (ao X scope xs R fp s H C) sg))(hts:ik X scope xs R ifs gc)
  (he:∀fp s H C,PE (ao X scope xs R fp s H C) elt (tE (ao X scope xs R fp s H C) ge))
  (hs:∀x,foldedSetIterable iter X.env x=pure x:=by intro _;rfl):PE X (.ListComp elt [⟨tg,iter,ifs,0⟩] scope pos) (tE X (bU gi xs.length sg gc ge mk)):=by
 have S:=bo.of hS;intro ae s σ H Q I h;obtain⟨ρ,θ,M,hd,hw,h⟩:=h;rw[eval_ListComp];refine wpAny_comprehension_free (use:=none) rfl hs (eP (S.cells I)) S.kind S.lnames ?_;refine cb (hi ae s σ H (fun J H2=>∃t M1 θ1,gi ρ M=.ok t M1∧Go X.K θ H θ1 H2 M1∧wQ X.K J θ1 H2 t) I ⟨ρ,θ,M,hd,hw,?_⟩) fun v s1 h1=>cb h1 fun itv s2 h2=>?_
 ·cases q:gi ρ M with
  | ok t M1=>exact fun J θ1 H1 g1 hJ=>⟨t,M1,θ1,rfl,g1,hJ⟩
  | err c M1=>unfold bU at h;rw[q] at h;exact h
  | bad=>unfold bU at h;rw[q] at h;exact h
 obtain⟨it,fp,tn,J,H2,rfl,I2,T,st2,f2,t,M1,θ1,eg,g1,hJ⟩:=h2;unfold bU at h;rw[eg] at h;have h:aE X θ H Q ((bb t xs.length sg gc ge t.ds ρ M1).bind mk):=h;cases q:bb t xs.length sg gc ge t.ds ρ M1 with
 | bad=>rw[q] at h;exact h.elim
 | err c Mx=>exact(jc _ _ q).elim
 | ok es Mend=>
  rw[q] at h;have h:aE X θ H Q (mk es Mend):=h;refine oV (RR:=fun acc C=>compPost (model X.prog X.w) X.A X.xe none (EP X ae σ Q) acc C) S hc I2 T st2 f2 g1.wr (hd.go g1) hJ q (uB hm h) (fun C=>hts fp s2 H2 C) own (fun C=>hg fp s2 H2 C) (fun C=>he fp s2 H2 C) ?_;intro acc C s' H' θ' vs m IX hnC fC g' na rd;refine⟨m,hnC,fun h' sb=>?_⟩;have I3:L2.Inv X ae σ (cA H' acc (.lst vs)) {s' with heap:=h',toks:=s'.toks}:=IX.turned (it:=C) (fun b o hb e=>(sb.2 b hb).trans e) fC.1 fC.2.1 fC.2.2.2.1 fC.2.2.2.2.1 fC.2.2.2.2.2;exact⟨.ref acc,_,I3,rfl,(yk hm X θ' H' Q es Mend vs (aE.go (g1.trans g') h) g'.wr rd).2 acc na⟩
theorem nI {j:Nat}{py spos:Pos}(hS:bi scope X.env.kindOf xs R X.N=true)(hc:X.calm=true)(hm:mk=aA∨mk=b0)(hi:PI X tg iter (tI X gi))(own:m5 xs.length sg)(hg:∀fp s H C,PG (ao X scope xs R fp s H C) tg (tG (ao X scope xs R fp s H C) sg))(hts:ik X scope xs R ifs gc)
  (he:∀fp s H C,PE (ao X scope xs R fp s H C) elt (tE (ao X scope xs R fp s H C) ge))
  (hN:X.N.Nodup) (hj:X.N[j]?=some y) (hy:X.env.scope.names.lookup y=some .local)
  (hsw:swapsWith (.ListComp elt [⟨tg,iter,ifs,0⟩] scope pos) (some (.Name y py)) spos.line X.env=pure true)
  (hs:∀x,foldedSetIterable iter X.env x=pure x:=by intro _;rfl):PS X (.Assign [.Name y py] (.ListComp elt [⟨tg,iter,ifs,0⟩] scope pos) spos) (tS X (aF j (bU gi xs.length sg gc ge mk))):=by
 have S:=bo.of hS;intro ae s σ H Q I h;obtain⟨ρ,θ,M,hd,hw,h⟩:=h;rw[exec_Assign_Name_used _ _ _ _ hsw];refine wpAny_bind (wpAny_standAt (wpAny_bind ?_));show wpAny _ X.A (do let _ ←comprehension (.ListComp elt [⟨tg,iter,ifs,0⟩] scope pos) scope X.env _ (newList []) false (eval iter X.env) (some (assign (.Name y py) X.env))) _ _ s;refine wpAny_bind (wpAny_mono (wpAny_comprehension_free (use:=some (assign (.Name y py) X.env)) (Q:=fun _ s'=>SP X ae Q .next s') rfl hs (eP (S.cells I)) S.kind S.lnames ?_) (fun _ s' hq=>wpAny_pure (wpAny_pure hq)) fun _ _ e=>e);refine cb (hi ae s σ H (fun J H2=>∃t M1 θ1,gi ρ M=.ok t M1∧Go X.K θ H θ1 H2 M1∧wQ X.K J θ1 H2 t) I ⟨ρ,θ,M,hd,hw,?_⟩) fun v s1 h1=>cb h1 fun itv s2 h2=>?_
 ·cases q:gi ρ M with
  | ok t M1=>exact fun J θ1 H1 g1 hJ=>⟨t,M1,θ1,rfl,g1,hJ⟩
  | err c M1=>unfold aF bU at h;rw[q] at h;exact h
  | bad=>unfold aF bU at h;rw[q] at h;exact h
 obtain⟨it,fp,tn,J,H2,rfl,I2,T,st2,f2,t,M1,θ1,eg,g1,hJ⟩:=h2;unfold aF bU at h;rw[eg] at h;have h:dm X θ H Q (((bb t xs.length sg gc ge t.ds ρ M1).bind mk).bind fun d M2=>.ok (.nx (ρ.set j (some d))) M2):=h;cases q:bb t xs.length sg gc ge t.ds ρ M1 with
 | bad=>rw[q] at h;exact h.elim
 | err c Mx=>exact(jc _ _ q).elim
 | ok es Mend=>
  rw[q] at h;have h:dm X θ H Q ((mk es Mend).bind fun d M2=>.ok (.nx (ρ.set j (some d))) M2):=h;have hE:aE X θ H (fun v H'=>∃θ' M',Go X.K θ H θ' H' M'∧∃d,mk es Mend=.ok d M'∧cP X.K θ' H' d v) (mk es Mend):=by
   cases qm:mk es Mend with
   | ok d M2=>exact fun v θ' H' g' r=>⟨θ',M2,g',d,rfl,r⟩
   | err c M2=>rw[qm] at h;exact h
   | bad=>rw[qm] at h;exact h
  refine oV (RR:=fun acc C=>compPost (model X.prog X.w) X.A X.xe (some (assign (.Name y py) X.env)) (fun _ s'=>SP X ae Q .next s') acc C) S hc I2 T st2 f2 g1.wr (hd.go g1) hJ q (uB hm hE) (fun C=>hts fp s2 H2 C) own (fun C=>hg fp s2 H2 C) (fun C=>he fp s2 H2 C) ?_;intro acc C s' H' θ' vs m IX hnC fC g' na rd;obtain⟨θe,Me,ge',d,ed,rde⟩:=(yk hm X θ' H' _ es Mend vs (aE.go (g1.trans g') hE) g'.wr rd).2 acc na;show wpAny _ X.A (assign (.Name y py) X.env (.ref acc)) _ _ s';refine wpAny_assign_Name (kH IX hN hj (.inl hy) (v:=.ref acc) rfl (fun s3 I3 hxx=>?_) (.inr hy));obtain⟨a,sa,ha⟩:=hxx;have hCa:C≠a:=by
   rcases ha with e|e
   ·rw[e];exact fC.2.1
   ·exact fun z=>fC.2.2.2.2.1 y a e z.symm
  refine⟨m,hnC.sameBut sa hCa,fun h' sb=>?_⟩;have I4:L2.Inv X ae (σ.set j (some (.ref acc))) (cA H' acc (.lst vs)) {s3 with heap:=h',toks:=s3.toks}:=I3.turned (it:=C) (fun b o hb e=>(sb.2 b hb).trans e) fC.1 fC.2.1 fC.2.2.2.1 fC.2.2.2.2.1 fC.2.2.2.2.2;rw[ed] at h;exact⟨_,_,I4,h _ θe _ ge' ((hd.go ge').set rde j)⟩
theorem yx {px:Pos}(hS:bi scope X.env.kindOf [x] R X.N=true)(fp:List Addr)(s:Shared)(H:Hp)(C:Addr):PG (ao X scope [x] R fp s H C) (.Name x px) (tG (ao X scope [x] R fp s H C) (cn 0)):=
 have S:=bo.of hS
 tX (X:=ao X scope [x] R fp s H C) S.nd rfl (.inl (lookup_relabel_local (S.own x (by simp)))) (.inr (lookup_relabel_local (S.own x (by simp))))
theorem xS (mk:List D→au→aO D):aM gi gc ge mk=bU gi 1 (cn 0) gc ge mk:=by
 funext ρ M;unfold aM bU;simp only[uV]
theorem DN (hS:bi scope X.env.kindOf [x] R X.N=true)(hc:X.calm=true)(hm:mk=aA∨mk=b0)(hi:PI X (.Name x px) iter (tI X gi))(hts:ik X scope [x] R ifs gc)
  (he:∀fp s H C,PE (ao X scope [x] R fp s H C) elt (tE (ao X scope [x] R fp s H C) ge))
  (hs:∀x,foldedSetIterable iter X.env x=pure x:=by intro _;rfl):PE X (.ListComp elt [⟨.Name x px,iter,ifs,0⟩] scope pos) (tE X (aM gi gc ge mk)):=by
 rw[xS];exact uY (xs:=[x]) hS hc hm hi (sR (Nat.zero_lt_one)) (yx hS) hts he hs
theorem wF {j:Nat}{py spos:Pos}(hS:bi scope X.env.kindOf [x] R X.N=true)(hc:X.calm=true)(hm:mk=aA∨mk=b0)(hi:PI X (.Name x px) iter (tI X gi))(hts:ik X scope [x] R ifs gc)
  (he:∀fp s H C,PE (ao X scope [x] R fp s H C) elt (tE (ao X scope [x] R fp s H C) ge))
  (hN:X.N.Nodup) (hj:X.N[j]?=some y) (hy:X.env.scope.names.lookup y=some .local)
  (hsw:swapsWith (.ListComp elt [⟨.Name x px,iter,ifs,0⟩] scope pos) (some (.Name y py)) spos.line X.env=pure true)
  (hs:∀x,foldedSetIterable iter X.env x=pure x:=by intro _;rfl):PS X (.Assign [.Name y py] (.ListComp elt [⟨.Name x px,iter,ifs,0⟩] scope pos) spos) (tS X (aF j (aM gi gc ge mk))):=by
 rw[xS];exact nI (xs:=[x]) hS hc hm hi (sR (Nat.zero_lt_one)) (yx hS) hts he hN hj hy hsw hs
end
def bZ:List D→Option (List Bool)
 | []=>some []
 | .bl b::r=>(bZ r).map (b::·)
 | _=>none
def jG:FD:=fun ds M=>match ds with
 | [d]=>match bE d M with
  | some xs=>match bZ xs with
   | some bs=>.ok (.bl (bs.all id)) M
   | none=>.bad
  | none=>.bad
 | _=>.bad
def zM:FD:=fun ds M=>match ds with
 | [d]=>match bE d M with
  | some xs=>match bZ xs with
   | some bs=>.ok (.bl (bs.any id)) M
   | none=>.bad
  | none=>.bad
 | _=>.bad
theorem kY {K:W.Frag}{θ:List Addr}{H:Hp}:∀{ds:List D} {vs:List V} {us:List Value} {bs:List Bool},ba K θ H ds vs→aR vs us→bZ ds=some bs→us=bs.map Value.bool
 | [],vs,us,bs,r,q,e=>by
  have e1:vs=[]:=r;subst e1;cases q;cases e;rfl
 | d::ds,vs,us,bs,r,q,e=>by
  obtain⟨v,rr,e1,h1,h2⟩:=r;subst e1;cases d with
  | bl b=>
   cases qb:bZ ds with
   | none=>simp[bZ,qb] at e
   | some bs'=>
    simp[bZ,qb] at e;subst e;have e2:v=.bl b:=h1;subst e2;cases q with
    | cons q1 q2=>
     cases q1;rw[map_cons,kY h2 q2 qb]
  | _=>simp[bZ] at e
theorem zO (bs:List Bool):(List.range bs.length).all (fun i=>bs.getD i false)=bs.all id:=by
 rw[Bool.eq_iff_iff];simp only[all_eq_true,mem_range,id];constructor
 ·intro h b hb;obtain⟨i,hi,e⟩:=mem_iff_getElem.mp hb;have:=h i hi;rw[getD_eq_getElem?_getD,getElem?_eq_getElem hi] at this;rw[←e];exact this
 ·intro h i hi;rw[getD_eq_getElem?_getD,getElem?_eq_getElem hi];exact h _ (getElem_mem hi)
theorem zS (bs:List Bool):(List.range bs.length).any (fun i=>bs.getD i false)=bs.any id:=by
 rw[Bool.eq_iff_iff];simp only[any_eq_true,mem_range,id];constructor
 ·rintro ⟨i,hi,h⟩;rw[getD_eq_getElem?_getD,getElem?_eq_getElem hi] at h;exact⟨_,getElem_mem hi,h⟩
 ·rintro ⟨b,hb,h⟩;obtain⟨i,hi,e⟩:=mem_iff_getElem.mp hb;refine⟨i,hi,?_⟩;rw[getD_eq_getElem?_getD,getElem?_eq_getElem hi];rw[←e] at h;exact h
section
variable {X:Cx}
theorem nB {prog:Program}(bs:List Bool):TruthOf prog w A (fun i v=>((bs.map Value.bool).toArray)[i]?=some v) (fun i=>bs.getD i false):=fun i v s Q E hP hQ=>by
 have hP:(bs.map Value.bool)[i]?=some v:=by simpa using hP
 rw[getElem?_map] at hP;cases q:bs[i]? with
 | none=>rw[q] at hP;cases hP
 | some b=>
  rw[q] at hP;cases hP;have e:bs.getD i false=b:=by rw[getD_eq_getElem?_getD,q];rfl
  dsimp only at hQ;rw[e] at hQ;exact wpAny_truthy_bool hQ
theorem oG {xs:List D}{bs:List Bool}(hc:X.calm=true)(I:L2.Inv X ae σ H s)(hw:Wr X.K θ H M)(rv:cP X.K θ H d v)(ru:aY v u)(q:bE d M=some xs)(qb:bZ xs=some bs){Q:Bool→Hp→Prop}{f:(Nat→Bool)→Nat→Bool}{E:Value→Shared→Prop}
  (h:∀h' tk,L2.Inv X ae σ H {s with heap:=h',toks:=tk}→Q (f (fun i=>bs.getD i false) bs.length) H) :
  wpAny (model X.prog X.w) X.A.in1 (pyIter u) (fun it s₂=>∃I fp wr n P St tr,it=.ref I∧Walks X.prog X.w X.A.in1 I fp wr n P St∧St 0 s₂.heap∧TruthOf X.prog X.w X.A.in1 P tr∧
   ∀h' tk,(∀b o,b∉wr→s₂.heap.get? b=some o→h'.get? b=some o)→EP X ae σ (fun v H=>∃b,v=.bl b∧Q b H) (.bool (f tr n)) {s₂ with heap:=h',toks:=tk}) E s:=by
 have hh:X.A.in1.handled=none:=I.ok.hd hc;obtain⟨a,vs,ea,sq,ra⟩:=ni hw rv q;subst ea;cases ru;rcases sq with sq|sq
 ·obtain⟨its,r1,p,hz⟩:=I.list sq;have e:=kY ra r1 qb;subst e;have hlt:a<s.heap.objs.size:=by obtain⟨o,n,e,_⟩:=p;exact Heap.lt_size e
  refine wpAny_pyIter_list p.isList ⟨s.heap.objs.size,_,_,_,_,_,_,rfl,Walks.list hh s.heap.objs.size a (Nat.ne_of_lt hlt) _,⟨⟨_,Heap.get?_push_size _ rfl,rfl,rfl⟩,p.isList.push _⟩,nB bs,fun h' tk k=>?_⟩;have I':L2.Inv X ae σ H {s with heap:=h',toks:=tk}:=I.kept fun b o e=>k b o (by have:=Heap.lt_size e;simp;exact Nat.ne_of_lt this) (Heap.get?_push_of_some _ e)
  refine⟨.bl _,H,I',rfl,_,rfl,?_⟩;have:=h h' tk I';simpa using this
 ·obtain⟨its,r1,p,hz⟩:=I.tuple sq;have e:=kY ra r1 qb;subst e;have hlt:a<s.heap.objs.size:=by obtain⟨o,e,_⟩:=p;exact Heap.lt_size e
  have pt:s.heap.IsTuple a (bs.map Value.bool).toArray:=p;refine wpAny_pyIter_tuple pt ⟨s.heap.objs.size,_,_,_,_,_,_,rfl,Walks.tuple hh s.heap.objs.size a (Nat.ne_of_lt hlt) _,⟨⟨_,Heap.get?_push_size _ rfl,rfl,rfl⟩,?_⟩,nB bs,fun h' tk k=>?_⟩
  ·obtain⟨o,e,r⟩:=p;exact⟨o,Heap.get?_push_of_some _ e,r⟩
  have I':L2.Inv X ae σ H {s with heap:=h',toks:=tk}:=I.kept fun b o e=>k b o (by have:=Heap.lt_size e;simp;exact Nat.ne_of_lt this) (Heap.get?_push_of_some _ e)
  refine⟨.bl _,H,I',rfl,_,rfl,?_⟩;have:=h h' tk I';simpa using this
theorem FR (hc:X.calm=true):cV X (.builtin "all") (rC X jG):=by
 intro ae s σ H xs us Q I r h;obtain⟨θ,M,ds,hw,rd,h⟩:=h;unfold jG at h;split at h
 ·rename_i d;obtain⟨v,e,rv⟩:=dS rd;subst e;obtain⟨u,rfl,ru⟩:=iA r;split at h
  ·rename_i ys q;split at h
   ·rename_i bs qb;refine cb (call_all_walk (oG hc I hw rv ru q qb (Q:=fun b H=>Q (.bl b) H) (f:=fun tr n=>(List.range n).all tr) (fun h' tk I'=>?_))) fun u' s' ⟨v',H',I',r',b,eb,q'⟩=>⟨v',H',I',r',by rw[eb];exact q'⟩
    rw[zO];exact h _ θ H (.refl hw) rfl
   ·exact h.elim
  ·exact h.elim
 ·exact h.elim
theorem G4 (hc:X.calm=true):cV X (.builtin "any") (rC X zM):=by
 intro ae s σ H xs us Q I r h;obtain⟨θ,M,ds,hw,rd,h⟩:=h;unfold zM at h;split at h
 ·rename_i d;obtain⟨v,e,rv⟩:=dS rd;subst e;obtain⟨u,rfl,ru⟩:=iA r;split at h
  ·rename_i ys q;split at h
   ·rename_i bs qb;refine cb (call_any_walk (oG hc I hw rv ru q qb (Q:=fun b H=>Q (.bl b) H) (f:=fun tr n=>(List.range n).any tr) (fun h' tk I'=>?_))) fun u' s' ⟨v',H',I',r',b,eb,q'⟩=>⟨v',H',I',r',by rw[eb];exact q'⟩
    rw[zS];exact h _ θ H (.refl hw) rfl
   ·exact h.elim
  ·exact h.elim
 ·exact h.elim
def Ic:D→Option String
 | .non=>some "NoneType"
 | .bl _=>some "bool"
 | .int _=>some "int"
 | .str _=>some "str"
 | .tup _=>some "tuple"
 | .lst _=>some "list"
 | .ro _=>some "list"
 | _=>none
def Bw (d:D)(M:au):Option String:=match d with
 | .mr k=>match M[k]? with
  | some (.lst _)=>some "list"
  | _=>none
 | d=>Ic d
def vL (t T:String):Bool:=t==T||(t=="bool"&&T=="int")
def eQ (T:String)(g:GE):GE:=fun ρ M=>(g ρ M).bind fun d M1=>match Bw d M1 with
 | some t=>.ok (.bl (vL t T)) M1
 | none=>.bad
def mE (T:String):Prop:=T="int"∨T="bool"∨T="str"∨T="tuple"∨T="list"
theorem dZ (K:W.Frag)(hT:mE T):∀t∈["NoneType","bool","int","str","tuple","list"],W.kitOne K (.type t) (.type T)=some (vL t T):=by
 intro t ht;simp only[mem_cons,mem_nil_iff,or_false] at ht;rcases hT with rfl|rfl|rfl|rfl|rfl <;> rcases ht with rfl|rfl|rfl|rfl|rfl|rfl <;> rfl
theorem GL (hT:mE T):cV X (.builtin "isinstance") (fun xs H Q=>∃θ M d v,Wr X.K θ H M∧cP X.K θ H d v∧xs=[v,.ty T]∧aE X θ H Q (match Bw d M with|some t=>.ok (.bl (vL t T)) M|none=>.bad)):=by
 intro ae s σ H xs us Q I r h;obtain⟨θ,M,d,v,hw,rv,e,h⟩:=h;subst e;obtain⟨u,c,rfl,ru,rc⟩:=Es r;cases rc;have fin:∀t tk,Bw d M=some t→EP X ae σ Q (.bool (vL t T)) {s with toks:=tk}:=fun t tk e=>by
  rw[e] at h;exact⟨.bl _,H,I.tok _,rfl,h _ θ H (.refl hw) rfl⟩
 cases d with
 | non=>have e:v=.non:=rv;subst e;cases ru;exact W.kia_one W.kitx_none I.kIn True.intro (dZ X.K hT "NoneType" (by simp)) (fun z=>nomatch z) fun tk=>fin _ tk rfl
 | bl b=>have e:v=.bl b:=rv;subst e;cases ru;exact W.kia_one W.kitx_bool I.kIn True.intro (dZ X.K hT "bool" (by simp)) (fun z=>nomatch z) fun tk=>fin _ tk rfl
 | int i=>have e:v=.int i:=rv;subst e;obtain⟨t,rfl⟩:=ru;exact W.kia_one W.kitx_int I.kIn True.intro (dZ X.K hT "int" (by simp)) (fun z=>nomatch z) fun tk=>fin _ tk rfl
 | str i=>have e:v=.str i:=rv;subst e;obtain⟨t,rfl⟩:=ru;exact W.kia_one W.kitx_str I.kIn True.intro (dZ X.K hT "str" (by simp)) (fun z=>nomatch z) fun tk=>fin _ tk rfl
 | tup ds=>
  obtain⟨a,vs,e,ta,ra⟩:=rv;subst e;cases ru;obtain⟨its,_,⟨o,h1,h2,_⟩,_⟩:=I.tuple ta.sq;exact W.kia_one W.kitx_tuple I.kIn ⟨o,h1,h2⟩ (dZ X.K hT "tuple" (by simp)) (fun z=>nomatch z) fun tk=>fin _ tk rfl
 | lst ds=>
  obtain⟨a,vs,e,ta,ra⟩:=rv;subst e;cases ru;obtain⟨its,_,⟨o,n,h1,h2,_⟩,_⟩:=I.list (ta.sq (K:=X.K));exact W.kia_one W.kitx_list I.kIn ⟨o,h1,h2⟩ (dZ X.K hT "list" (by simp)) (fun z=>nomatch z) fun tk=>fin _ tk rfl
 | ro ds=>
  obtain⟨a,vs,e,ta,ra⟩:=rv;subst e;cases ru;obtain⟨its,_,⟨o,n,h1,h2,_⟩,_⟩:=I.list ta.sq;exact W.kia_one W.kitx_list I.kIn ⟨o,h1,h2⟩ (dZ X.K hT "list" (by simp)) (fun z=>nomatch z) fun tk=>fin _ tk rfl
 | mr k=>
  obtain⟨a,e,ta⟩:=rv;subst e;cases ru;cases qm:M[k]? with
  | none=>simp only[Bw,qm] at h;exact h.elim
  | some m=>
   cases m with
   | lst ys=>
    obtain⟨vs,hv,_⟩:=hw.at_ k a _ ta qm;obtain⟨its,_,⟨o,n,h1,h2,_⟩,_⟩:=I.list (X:=X) (xs:=vs) (.inl (.inl hv));exact W.kia_one W.kitx_list I.kIn ⟨o,h1,h2⟩ (dZ X.K hT "list" (by simp)) (fun z=>nomatch z) fun tk=>fin _ tk (by simp only[Bw,qm])
   | _=>simp only[Bw,qm] at h;exact h.elim
 | exc c=>exact h.elim
 | any=>exact h.elim
theorem E8 {p p2 pos:Pos}(hT:mE T)(hv:bootBuiltins x=some (.type T))(hg:Gl X x)(hm:X.mg x=none)(hgi:Gl X "isinstance")(hmi:X.mg "isinstance"=none)(he:PE X e (tE X g))
  (hn:x≠"__name__":=by decide) (hd:(x==("__debug__":Str))=false:=by decide) (hbi:bootBuiltins "isinstance"=some (.builtin "isinstance"):=by kernel_rfl) (hs:starEach [e,.Name x p2] X.env=(false,eval e X.env)::starEach [.Name x p2] X.env:=by rfl)
  (hs2:starEach [.Name x p2] X.env=(false,eval (.Name x p2) X.env)::starEach [] X.env:=by rfl) (hpl:(backTo pos (starEach [.Name x p2] X.env)).any (·.1)=false:=by rfl) :
  PE X (.Call (.Name "isinstance" p) [e,.Name x p2] [] pos) (tE X (eQ T g)):=
 (wd (GL hT) hgi hmi hbi (f6 he (f6 (Dm hg hm hv (v:=.ty T) rfl hn hd) jZ hs2) hs) (by decide) (by decide) hs hpl).of fun σ H Q hxx=>by
  obtain⟨ρ,θ,M,hd,hw,h⟩:=hxx;refine b7 hd hw (aE X θ H Q) (fun c M' h=>h) (fun h=>h) h fun d M1 v θ1 H1 g1 r1 h1=>?_
  exact⟨θ1,M1,d,v,g1.wr,r1,rfl,aE.go g1 h1⟩
end
def gU:D→Bool
 | .non=>true
 | .bl _=>true
 | .int _=>true
 | .str _=>true
 | _=>false
def HU:D→V
 | .non=>.non
 | .bl b=>.bl b
 | .int i=>.int i
 | .str x=>.str x
 | _=>.non
theorem tB (r:cP K θ H d v)(f:gU d=true):v=HU d∧kT v=true:=by
 cases d with
 | non=>have e:v=.non:=r;subst e;exact⟨rfl,rfl⟩
 | bl b=>have e:v=.bl b:=r;subst e;exact⟨rfl,rfl⟩
 | int b=>have e:v=.int b:=r;subst e;exact⟨rfl,rfl⟩
 | str b=>have e:v=.str b:=r;subst e;exact⟨rfl,rfl⟩
 | _=>cases f
theorem o0 {K:W.Frag}{θ:List Addr}{H:Hp}:∀{ds:List D} {vs:List V},ba K θ H ds vs→ds.all gU=true→vs=ds.map HU∧vs.all kT=true
 | [],vs,r,f=>by have e:vs=[]:=r;subst e;exact⟨rfl,rfl⟩
 | d::ds,vs,r,f=>by
  obtain⟨v,rr,e,h1,h2⟩:=r;subst e;rw[all_cons,Bool.and_eq_true] at f;obtain⟨e1,f1⟩:=tB h1 f.1;obtain⟨e2,f2⟩:=o0 h2 f.2;exact⟨by rw[map_cons,←e1,←e2],by rw[all_cons,f1,f2];rfl⟩
theorem Dv {x y:D}(fx:gU x=true)(fy:gU y=true):CU (HU x) (HU y)=nY x y:=by
 cases x <;> first|exact ff fx|(cases y <;> first|exact ff fy|rfl)
theorem uz {x:D}:∀{ds:List D},gU x=true→ds.all gU=true→Kx (HU x) (ds.map HU)=ds.any fun y=>nY y x
 | [],fx,fs=>rfl
 | d::ds,fx,fs=>by
  rw[all_cons,Bool.and_eq_true] at fs;have ih:=uz (x:=x) (ds:=ds) fx fs.2;unfold Kx at ih ⊢;rw[map_cons,any_cons,any_cons,ih,Dv fs.1 fx]
def nU (neg:Bool):F2:=fun x y M=>match bE y M with
 | some xs=>if gU x&&xs.all gU then .ok (.bl ((xs.any fun y=>nY y x) != neg)) M else .bad
 | none=>.bad
section
variable {X:Cx}
theorem Kq:fo X (compareOp .In) (rD X (nU false)):=by
 intro ae s σ H x y v u Q I rx ry h;obtain⟨θ,M,dx,dy,hw,r1,r2,h⟩:=h;unfold nU at h;split at h
 ·rename_i xs q;split at h
  ·rename_i hc;rw[Bool.and_eq_true] at hc;obtain⟨a,vs,ea,sq,ra⟩:=ni hw r2 q;obtain⟨e1,f1⟩:=tB r1 hc.1;obtain⟨e2,f2⟩:=o0 ra hc.2;refine zK ae s σ H x y v u Q I rx ry ⟨a,vs,ea,sq,f1,f2,?_⟩;have:=h _ θ H (.refl hw) rfl;rw[Bool.bne_false] at this;rw[if_neg (by decide),e1,e2,uz hc.1 hc.2];exact this
  ·exact h.elim
 ·exact h.elim
theorem Bh:fo X (compareOp .NotIn) (rD X (nU true)):=by
 intro ae s σ H x y v u Q I rx ry h;obtain⟨θ,M,dx,dy,hw,r1,r2,h⟩:=h;unfold nU at h;split at h
 ·rename_i xs q;split at h
  ·rename_i hc;rw[Bool.and_eq_true] at hc;obtain⟨a,vs,ea,sq,ra⟩:=ni hw r2 q;obtain⟨e1,f1⟩:=tB r1 hc.1;obtain⟨e2,f2⟩:=o0 ra hc.2;refine sw ae s σ H x y v u Q I rx ry ⟨a,vs,ea,sq,f1,f2,?_⟩;have:=h _ θ H (.refl hw) rfl;rw[Bool.bne_true] at this;rw[if_pos rfl,e1,e2,uz hc.1 hc.2];exact this
  ·exact h.elim
 ·exact h.elim
end
section
variable {X:Cx}
def uX (k:Nat)(x:D)(M:au):aO D:=match M[k]? with
 | some (.lst xs)=>if xs.length<sizeLine then .ok .non (M.set k (.lst (xs++[x]))) else .bad
 | _=>.bad
def kL (go ge:GE):GE:=fun ρ M=>(go ρ M).bind fun o M1=>match o with
 | .mr k=>match M1[k]? with
  | some (.lst _)=>(ge ρ M1).bind (uX k)
  | _=>.bad
 | _=>.bad
theorem zc {o:Expr}{go ge:GE}{apos cpos:Pos}(ho:PE X o (tE X go))(he:PE X e (tE X ge))
  (hbase:attributeBase o "append" X.env (eval o X.env)=eval o X.env:=by rfl)
  (hfew:((backTo cpos (starEach [e] X.env)).all (fun x=>!x.1)&&(backToKw cpos (keywordEach [] X.env)).all (fun x=>x.1.isSome)
   && decide ([e].length+([]:List Keyword).length+(if([]:List Keyword).isEmpty then 0 else 1)<30))=true:=by rfl)
  (hline:(apos.endLine==cpos.line)=true:=by rfl) (hs:starEach [e] X.env=(false,eval e X.env)::starEach [] X.env:=by rfl) (hplain:(backTo cpos (starEach [] X.env)).any (·.1)=false:=by rfl) :
  PE X (.Call (.Attribute o "append" apos) [e] [] cpos) (tE X (kL go ge)):=
 (wa PySem.F.plainAttrs_list PySem.F.slot_list_append PySem.F.type_list_append zu ho (f6 he jZ hs) hbase hfew hline hs hplain).of fun σ H Q hxx=>by
  obtain⟨ρ,θ,M,hd,hw,h⟩:=hxx;refine b7 hd hw (aE X θ H Q) (fun c M' h=>h) (fun h=>h) h fun d M1 v θ1 H1 g1 r1 h1=>?_
  have h2:=aE.go g1 h1;cases d with
  | mr k=>
   have h2:aE X θ1 H1 Q (match M1[k]? with|some (.lst _)=>(ge ρ M1).bind (uX k)|_=>.bad):=h2;cases qm1:M1[k]? with
   | none=>rw[qm1] at h2;exact h2.elim
   | some m1=>
    cases m1 with
    | obj _ _=>rw[qm1] at h2;exact h2.elim
    | dK _=>rw[qm1] at h2;exact h2.elim
    | dT _=>rw[qm1] at h2;exact h2.elim
    | lst ys1=>
     rw[qm1] at h2;obtain⟨a1,ea1,ta1⟩:=id r1;obtain⟨vs1,hv1,_⟩:=g1.wr.at_ k a1 _ ta1 qm1;refine⟨by rw[ea1];exact .inl ⟨rfl,vs1,.inl (.inl hv1)⟩,?_⟩;refine b7 (hd.go g1) g1.wr (aE X θ1 H1 Q) (fun c M' h=>h) (fun h=>h) h2 fun dx M2 vx θ2 H2 g2 r2 h3=>?_
     have h3:aE X θ1 H1 Q (match M2[k]? with|some (.lst xs)=>if xs.length<sizeLine then .ok .non (M2.set k (.lst (xs++[dx]))) else .bad|_=>.bad):=h3;obtain⟨a,ea,ta⟩:=r1.go g2;cases qm:M2[k]? with
     | none=>rw[qm] at h3;exact h3.elim
     | some m=>
      cases m with
      | obj _ _=>rw[qm] at h3;exact h3.elim
      | dK _=>rw[qm] at h3;exact h3.elim
      | dT _=>rw[qm] at h3;exact h3.elim
      | lst ys=>
       rw[qm] at h3;obtain⟨vs,hv,ra⟩:=g2.wr.at_ k a _ ta qm;have h3:aE X θ1 H1 Q (if ys.length<sizeLine then .ok .non (M2.set k (.lst (ys++[dx]))) else .bad):=h3;split at h3
       ·rename_i hl;have gs:=ur (ds:=ys) g2.wr ta (cG ra (show ba X.K θ2 H2 [dx] [vx] from⟨vx,[],rfl,r2,rfl⟩));exact⟨a,vs,vx,ea,rfl,hv,by rw[←ay ra];exact hl,h3 _ θ2 _ (g2.trans gs) rfl⟩
       ·exact h3.elim
  | _=>exact h2.elim
end
def bF (f:D→Option D):List D→Option (List D)
 | []=>some []
 | d::ds=>match f d,bF f ds with
  | some x,some xs=>some (x::xs)
  | _,_=>none
def frz (n:Nat)(M:au):Nat→D→Option D
 | 0,_=>none
 | f+1,d=>match d with
  | .mr k=>if k<n then some (.mr k) else match M[k]? with
   | some (.lst xs)=>(bF (frz n M f) xs).map .lst
   | _=>none
  | .tup xs=>(bF (frz n M f) xs).map .tup
  | .lst xs=>(bF (frz n M f) xs).map .lst
  | .ro xs=>(bF (frz n M f) xs).map .ro
  | d=>some d
def v8 (f:D→Option D):List (Str×D)→Option (List (Str×D))
 | []=>some []
 | (x,d)::r=>match f d,v8 f r with
  | some e,some r'=>some ((x,e)::r')
  | _,_=>none
def qt {κ:Type}(f:D→Option D):List (κ×D)→Option (List (κ×D))
 | []=>some []
 | (x,d)::r=>match f d,qt f r with
  | some e,some r'=>some ((x,e)::r')
  | _,_=>none
def hZ (n:Nat)(M:au):List MO→Option (List MO)
 | []=>some []
 | .lst xs::r=>match bF (frz n M 30) xs,hZ n M r with
  | some ys,some r'=>some (.lst ys::r')
  | _,_=>none
 | .obj c fs::r=>match v8 (frz n M 30) fs,hZ n M r with
  | some gs,some r'=>some (.obj c gs::r')
  | _,_=>none
 | .dK fs::r=>match qt (frz n M 30) fs,hZ n M r with
  | some gs,some r'=>some (.dK gs::r')
  | _,_=>none
 | .dT fs::r=>match qt (frz n M 30) fs,hZ n M r with
  | some gs,some r'=>some (.dT gs::r')
  | _,_=>none
def lq (n:Nat)(o:aO D):aO D:=match o with
 | .ok d M=>if M.length=n then .ok d M else match frz n M 30 d,hZ n M (M.take n) with
  | some d',some M'=>.ok d' M'
  | _,_=>.bad
 | .err c M=>if M.length=n then .err c M else match hZ n M (M.take n) with
  | some M'=>.err c M'
  | none=>.bad
 | .bad=>.bad
section
variable {K:W.Frag}{θ more:List Addr}{H:Hp}{M:au}{n:Nat}
theorem gK {f:D→Option D}{θ':List Addr}:∀{ds es:List D} {vs:List V},bF f ds=some es→ba K θ' H ds vs→(∀d∈ds,∀e v,f d=some e→cP K θ' H d v→cP K θ H e v)→ba K θ H es vs
 | [],es,vs,h,r,k=>by cases h;exact r
 | d::ds,es,vs,h,r,k=>by
  obtain⟨v,rr,e,h1,h2⟩:=r;unfold bF at h;cases q1:f d with
  | none=>rw[q1] at h;cases h
  | some x=>
   cases q2:bF f ds with
   | none=>rw[q1,q2] at h;cases h
   | some xs=>
    rw[q1,q2] at h;cases h;exact⟨v,rr,e,k d mem_cons_self x v q1 h1,gK q2 h2 fun d' hd=>k d' (mem_cons_of_mem _ hd)⟩
theorem ny (hw:Wr K (θ++more) H M)(hn:θ.length=n):∀(f:Nat) (d e:D) (v:V),frz n M f d=some e→cP K (θ++more) H d v→cP K θ H e v
 | 0,d,e,v,h,r=>by cases h
 | f+1,d,e,v,h,r=>by
  have ih:=ny hw hn f;have sub:∀{a:Addr},a∉θ++more→a∉θ:=fun {a} z y=>z (mem_append_left _ y)
  cases d with
  | mr k=>
   obtain⟨a,ea,ta⟩:=r
   by_cases hk:k<n
   ·have h:(if k<n then some (D.mr k) else _)=some e:=h;rw[if_pos hk] at h;cases h;exact⟨a,ea,by rw[getElem?_append_left (by rw[hn];exact hk)] at ta;exact ta⟩
   ·have h:(if k<n then some (D.mr k) else match M[k]? with|some (.lst xs)=>(bF (frz n M f) xs).map .lst|_=>none)=some e:=h;rw[if_neg hk] at h;cases qm:M[k]? with
    | none=>rw[qm] at h;cases h
    | some m=>
     cases m with
     | lst xs=>
      rw[qm] at h;have h:(bF (frz n M f) xs).map D.lst=some e:=h;obtain⟨vs,hv,ra⟩:=hw.at_ k a _ ta qm;cases qo:bF (frz n M f) xs with
      | none=>rw[qo] at h;cases h
      | some ys=>
       rw[qo] at h;cases h;refine⟨a,vs,ea,⟨hv,fun z=>?_⟩,gK qo ra fun d _ e v=>ih d e v⟩;rw[getElem?_append_right (by omega)] at ta;have hm:=mem_of_getElem? ta;exact(nodup_append.mp hw.nd).2.2 a z a hm rfl
     | _=>rw[qm] at h;cases h
  | tup xs=>
   have h:(bF (frz n M f) xs).map D.tup=some e:=h;cases qo:bF (frz n M f) xs with
   | none=>rw[qo] at h;cases h
   | some ys=>
    rw[qo] at h;cases h;obtain⟨a,vs,ea,ta,ra⟩:=r;exact⟨a,vs,ea,⟨ta.1,sub ta.2⟩,gK qo ra fun d _ e v=>ih d e v⟩
  | lst xs=>
   have h:(bF (frz n M f) xs).map D.lst=some e:=h;cases qo:bF (frz n M f) xs with
   | none=>rw[qo] at h;cases h
   | some ys=>
    rw[qo] at h;cases h;obtain⟨a,vs,ea,ta,ra⟩:=r;exact⟨a,vs,ea,⟨ta.1,sub ta.2⟩,gK qo ra fun d _ e v=>ih d e v⟩
  | ro xs=>
   have h:(bF (frz n M f) xs).map D.ro=some e:=h;cases qo:bF (frz n M f) xs with
   | none=>rw[qo] at h;cases h
   | some ys=>
    rw[qo] at h;cases h;obtain⟨a,vs,ea,ta,ra⟩:=r;refine⟨a,vs,ea,?_,gK qo ra fun d _ e v=>ih d e v⟩;rcases ta with⟨t1,t2⟩|t
    ·exact .inl ⟨t1,sub t2⟩
    ·exact .inr t
  | non=>cases h;exact r
  | bl b=>cases h;exact r
  | int b=>cases h;exact r
  | str b=>cases h;exact r
  | exc c=>
   cases h;obtain⟨a,C,ea,kc,t1,t2⟩:=r;exact⟨a,C,ea,kc,t1,sub t2⟩
  | any=>cases h;exact r
theorem yp {f:D→Option D}{θ':List Addr}:∀{fs gs:List (Str×D)} {vs:List (Str×V)},v8 f fs=some gs→zF K θ' H fs vs→(∀d e v,f d=some e→cP K θ' H d v→cP K θ H e v)→zF K θ H gs vs
 | [],gs,vs,h,r,k=>by cases h;exact r
 | (x,d)::fs,gs,vs,h,r,k=>by
  obtain⟨v,rr,e,h1,h2⟩:=r;unfold v8 at h;cases q1:f d with
  | none=>rw[q1] at h;cases h
  | some y=>
   cases q2:v8 f fs with
   | none=>rw[q1,q2] at h;cases h
   | some ys=>
    rw[q1,q2] at h;cases h;exact⟨v,rr,e,k d y v q1 h1,yp q2 h2 k⟩
theorem sC {κ:Type}{f:D→Option D}{θ':List Addr}:∀{fs gs:List (κ×D)} {vs:List (κ×V)},qt f fs=some gs→nR K θ' H fs vs→(∀d e v,f d=some e→cP K θ' H d v→cP K θ H e v)→nR K θ H gs vs
 | [],gs,vs,h,r,k=>by cases h;exact r
 | (x,d)::fs,gs,vs,h,r,k=>by
  obtain⟨v,rr,e,h1,h2⟩:=r;unfold qt at h;cases q1:f d with
  | none=>rw[q1] at h;cases h
  | some y=>
   cases q2:qt f fs with
   | none=>rw[q1,q2] at h;cases h
   | some ys=>
    rw[q1,q2] at h;cases h;exact⟨v,rr,e,k d y v q1 h1,sC q2 h2 k⟩
theorem mS (hw:Wr K (θ++more) H M)(hn:θ.length=n):∀(l l':List MO),hZ n M l=some l'→l'.length=l.length∧∀(i:Nat) m m' a,l[i]?=some m→l'[i]?=some m'→qi K (θ++more) H m a→qi K θ H m' a
 | [],l',h=>by cases h;exact⟨rfl,fun i m m' a e=>by simp at e⟩
 | .lst xs::r,l',h=>by
  unfold hZ at h;cases q1:bF (frz n M 30) xs with
  | none=>rw[q1] at h;cases h
  | some ys=>
   cases q2:hZ n M r with
   | none=>rw[q1,q2] at h;cases h
   | some r'=>
    rw[q1,q2] at h;cases h;obtain⟨hl,hr⟩:=mS hw hn r r' q2;refine⟨by rw[length_cons,length_cons,hl],fun i m m' a e1 e2 ok=>?_⟩;cases i with
    | zero=>
     have e1:some (MO.lst xs)=some m:=e1;have e2:some (MO.lst ys)=some m':=e2;cases e1;cases e2;obtain⟨vs,hv,ra⟩:=ok;exact⟨vs,hv,gK q1 ra fun d _ e v=>ny hw hn 30 d e v⟩
    | succ i=>exact hr i m m' a e1 e2 ok
 | .obj c fs::r,l',h=>by
  unfold hZ at h;cases q1:v8 (frz n M 30) fs with
  | none=>rw[q1] at h;cases h
  | some gs=>
   cases q2:hZ n M r with
   | none=>rw[q1,q2] at h;cases h
   | some r'=>
    rw[q1,q2] at h;cases h;obtain⟨hl,hr⟩:=mS hw hn r r' q2;refine⟨by rw[length_cons,length_cons,hl],fun i m m' a e1 e2 ok=>?_⟩;cases i with
    | zero=>
     have e1:some (MO.obj c fs)=some m:=e1;have e2:some (MO.obj c gs)=some m':=e2;cases e1;cases e2;obtain⟨C,dx,vs,kC,hv,ra⟩:=ok;exact⟨C,dx,vs,kC,hv,yp q1 ra fun d e v=>ny hw hn 30 d e v⟩
    | succ i=>exact hr i m m' a e1 e2 ok
 | .dK fs::r,l',h=>by
  unfold hZ at h;cases q1:qt (frz n M 30) fs with
  | none=>rw[q1] at h;cases h
  | some gs=>
   cases q2:hZ n M r with
   | none=>rw[q1,q2] at h;cases h
   | some r'=>
    rw[q1,q2] at h;cases h;obtain⟨hl,hr⟩:=mS hw hn r r' q2;refine⟨by rw[length_cons,length_cons,hl],fun i m m' a e1 e2 ok=>?_⟩;cases i with
    | zero=>
     have e1:some (MO.dK fs)=some m:=e1;have e2:some (MO.dK gs)=some m':=e2;cases e1;cases e2;obtain⟨vs,hv,ra⟩:=ok;exact⟨vs,hv,sC q1 ra fun d e v=>ny hw hn 30 d e v⟩
    | succ i=>exact hr i m m' a e1 e2 ok
 | .dT fs::r,l',h=>by
  unfold hZ at h;cases q1:qt (frz n M 30) fs with
  | none=>rw[q1] at h;cases h
  | some gs=>
   cases q2:hZ n M r with
   | none=>rw[q1,q2] at h;cases h
   | some r'=>
    rw[q1,q2] at h;cases h;obtain⟨hl,hr⟩:=mS hw hn r r' q2;refine⟨by rw[length_cons,length_cons,hl],fun i m m' a e1 e2 ok=>?_⟩;cases i with
    | zero=>
     have e1:some (MO.dT fs)=some m:=e1;have e2:some (MO.dT gs)=some m':=e2;cases e1;cases e2;obtain⟨vs,hv,ra⟩:=ok;exact⟨vs,hv,sC q1 ra fun d e v=>ny hw hn 30 d e v⟩
    | succ i=>exact hr i m m' a e1 e2 ok
theorem B4 {θ0:List Addr}{H0:Hp}{θ':List Addr}{H':Hp}{M' M2:au}{n:Nat}(hn:θ0.length=n)(g:Go K θ0 H0 θ' H' M')(h:hZ n M' (M'.take n)=some M2):Go K θ0 H0 θ0 H' M2:=by
 obtain⟨m,em,hm⟩:=g.ext;have hw:=g.wr;rw[em] at hw;obtain⟨hl,hr⟩:=mS hw hn _ _ h;have hlen:n≤M'.length:=by rw[←g.wr.len,em,length_append];omega
 refine⟨⟨⟨[],by simp,fun _ z=>by cases z⟩,g.keep,g.tkeep⟩,by rw[hl,length_take];omega,(nodup_append.mp hw.nd).1,fun i a mo e1 e2=>?_,g.wr.tb⟩;have hi:i<n:=by rw[←hn];exact(List.getElem?_eq_some_iff.mp e1).1
 have hiM:i<M'.length:=by omega
 refine hr i M'[i] mo a (by rw[getElem?_take_of_lt hi];exact getElem?_eq_getElem hiM) e2 (hw.at_ i a _ ?_ (getElem?_eq_getElem hiM));rw[getElem?_append_left (by rw[hn];exact hi)];exact e1
end
theorem GV {k:Nat}{CX:zV}(h:iT P w K mg base CX k f fd ps (xw K n F)) :
  iT P w K mg base CX k f fd ps (xw K n fun ds M=>lq M.length (F ds M)):=h.imp fun vs H Q E hxx=>by
 obtain⟨θ,M,ds,hl,r,hw,q⟩:=hxx;refine⟨θ,M,ds,hl,r,hw,?_⟩;have q:AW K θ H Q E (lq M.length (F ds M)):=q;cases e:F ds M with
 | bad=>rw[e] at q;exact q
 | err c M1=>
  rw[e] at q;have q:AW K θ H Q E (if M1.length=M.length then .err c M1 else match hZ M.length M1 (M1.take M.length) with|some M'=>.err c M'|none=>.bad):=q;split at q
  ·exact q
  ·split at q
   ·rename_i M2 e2;exact fun C θ' H' a kC g=>q C θ H' a kC (B4 hw.len g e2)
   ·exact q.elim
 | ok d M1=>
  rw[e] at q;have q:AW K θ H Q E (if M1.length=M.length then .ok d M1 else match frz M.length M1 30 d,hZ M.length M1 (M1.take M.length) with|some d',some M'=>.ok d' M'|_,_=>.bad):=q;split at q
  ·exact q
  ·split at q
   ·rename_i d' M2 e1 e2;intro v θ' H' g rd;refine q v θ H' (B4 hw.len g e2) ?_;obtain⟨m,em,_⟩:=g.ext;have hw':=g.wr;rw[em] at hw' rd;exact ny hw' hw.len 30 d d' v e1 rd
   ·exact q.elim
structure Fn (K:W.Frag)(mg:Str→Option Value)(x:Str)(st:Stmt)(f:Addr)(fd:FuncData)(ps:List Str):Prop where
 F:FX K x x st f fd
 m:mg x=some (.ref f)
 b:ke K fd ps []
section
variable {X:Cx}
theorem vv (i:Nat){pos:Pos}(hN:X.N[i]?=some x:=by rfl)(hv:Fh X.env.scope x:=by first|exact Or.inl rfl|exact Or.inr (Or.inl rfl)|exact Or.inr (Or.inr rfl))(hd:(x==("__debug__":Str))=false:=by decide)
  (hcd:(x==("__classdict__":Str))=false:=by decide):PE X (.Name x pos) (tE X (af i)):=HM (AX hN hv hd hcd)
theorem ss (i:Nat){pos pos':Pos}(hN:X.N.Nodup)(he:PE X e (tE X g))(hi:X.N[i]?=some x:=by rfl)(hx:xU X.env.scope x:=by first|exact Or.inl rfl|exact Or.inr rfl)
  (hs:swapsWith e (some (.Name x pos')) pos.line X.env=pure false:=by rfl) (hf:X.fn x=true∨X.env.scope.names.lookup x=some .local:=by first|exact .inl rfl|exact .inr rfl) :
  PS X (.Assign [.Name x pos'] e pos) (tS X (aF i g)):=Fx hN hi hx he hs hf
theorem gg (i:Nat){pos:Pos}(hN:X.N.Nodup)(hi:X.N[i]?=some x:=by rfl)(hx:xU X.env.scope x:=by first|exact Or.inl rfl|exact Or.inr rfl)(hf:X.fn x=true∨X.env.scope.names.lookup x=some .local:=by first|exact .inl rfl|exact .inr rfl):PG X (.Name x pos) (tG X (cn i)):=tX hN hi hx hf
end
theorem Gb {ns:List Int}(tb:m6 K H)(hS:m3 K H a (ns.map V.int))(h:∃M',F [.ro (ns.map D.int)] []=.ok (.bl true) M'):xw K 1 F [.ref a] H (fun v _=>v=.bl true) E:=by
 obtain⟨M',e⟩:=h;refine⟨[],[],[.ro (ns.map D.int)],rfl,⟨_,[],rfl,⟨a,ns.map V.int,rfl,?_,?_⟩,rfl⟩,⟨rfl,nodup_nil,fun i a m e=>by simp at e,tb⟩,?_⟩
 ·rcases hS with h|h
  ·exact .inl ⟨h,by simp⟩
  ·exact .inr h
 ·clear e
  induction ns with
  | nil=>exact rfl
  | cons n ns ih=>
   refine⟨.int n,ns.map V.int,rfl,rfl,?_⟩;have gen:∀l:List Int,ba K [] H (l.map D.int) (l.map V.int):=by
    intro l
    induction l with
    | nil=>exact rfl
    | cons m l ih=>exact⟨_,_,rfl,rfl,ih⟩
   exact gen ns
 ·rw[e];exact fun v θ' H' g r=>r
def bB:Expr→Bool
 | .Starred _ _=>false
 | _=>true
def eG (es:List Expr):Bool:=es.all bB
theorem sE {env:Env}(h:bB e=true):starEach (e::es) env=(false,eval e env)::starEach es env:=by
 cases e <;> first|rfl|(simp[bB] at h)
theorem sS {pos:Pos}{env:Env}:∀{es:List Expr},eG es=true→(backTo pos (starEach es env)).any (·.1)=false
 | [],_=>rfl
 | e::es,h=>by
  unfold eG at h;rw[all_cons,Bool.and_eq_true] at h;have ih:=sS (pos:=pos) (env:=env) (es:=es) h.2;rw[sE h.1];unfold backTo at ih ⊢;rw[map_cons,any_cons,ih];rfl
section
variable {X:Cx}{e:Expr}{es:List Expr}{x:Str}{p pos:Pos}{k n:Nat}{f:Addr}{fd:FuncData}{ps:List Str}{F:FD}{ga:GA}{g:GE}{tg:Expr}
theorem KJ {gr:GA}(ha:PE X e (tE X g))(hr:PA X es (tA X gr))(h:bB e=true:=by rfl):PA X (e::es) (tA X (aa g gr)):=Ds ha hr (sE h)
theorem JG (Fn:iT X.prog X.w X.K X.mg X.base (nQ X.prog X.w) k f fd ps (xw X.K n F))(hr:d7 k X.A)(hg:Gl X x)(hm:X.mg x=some (.ref f))(hk:W.keepIn X.K (.ref f)=true)(hb:ke X.K fd ps [])
  (ha:PA X (e::es) (tA X ga)) (hdb:(x==("__debug__":Str))=false:=by decide) (h1:bB e=true:=by rfl) (h2:eG es=true:=by rfl) :
  PE X (.Call (.Name x p) (e::es) [] pos) (tE X (aj n F ga)):=DT Fn hr hg hm hk hb ha hdb (sE h1) (sS h2)
theorem IM {id:String}(hc:cV X (.builtin id) (rC X F))(hg:Gl X x)(hm:X.mg x=none)(hv:bootBuiltins x=some (.builtin id))(ha:PA X (e::es) (tA X ga))(hn:x≠"__name__":=by decide)(hdb:(x==("__debug__":Str))=false:=by decide)
  (h1:bB e=true:=by rfl) (h2:eG es=true:=by rfl):PE X (.Call (.Name x p) (e::es) [] pos) (tE X (aC F ga)):=BH hc hg hm hv ha hn hdb (sE h1) (sS h2)
theorem Kn (hc:cV X (.type T) (rC X F))(hg:Gl X x)(hm:X.mg x=none)(hv:bootBuiltins x=some (.type T))(ha:PA X (e::es) (tA X ga))(hn:x≠"__name__":=by decide)(hdb:(x==("__debug__":Str))=false:=by decide)
  (h1:bB e=true:=by rfl) (h2:eG es=true:=by rfl):PE X (.Call (.Name x p) (e::es) [] pos) (tE X (aC F ga)):=yV hc hg hm hv ha hn hdb (sE h1) (sS h2)
theorem Ir {p2:Pos}(hT:mE T)(hv:bootBuiltins x=some (.type T))(hg:Gl X x)(hm:X.mg x=none)(hgi:Gl X "isinstance")(hmi:X.mg "isinstance"=none)(he:PE X e (tE X g))
  (h1:bB e=true:=by rfl) (hn:x≠"__name__":=by decide) (hd:(x==("__debug__":Str))=false:=by decide):PE X (.Call (.Name "isinstance" p) [e,.Name x p2] [] pos) (tE X (eQ T g)):=
 E8 hT hv hg hm hgi hmi he hn hd boot_isinstance (sE h1) (sE rfl) (sS rfl)
theorem IH {a:Expr}(hg:Gl X "range")(hm:X.mg "range"=none)(ha:PA X [a] (tA X ga))(h1:bB a=true:=by rfl):PI X tg (.Call (.Name "range" p) [a] [] pos) (tI X (dX ga)):=yO hg hm ha (sE h1)
end
end DL
namespace DL
open PySem L2
theorem uq {j:Int}(h:-(2 ^ 62)≤j∧j<2 ^ 62)(M:au):AE [.int j] M=.ok ⟨a9 0 j.toNat,none⟩ M:=by
 unfold AE;exact if_pos h
theorem B3 {n:Nat}(h:n≤1000000)(M:au):AE [.int (n:Int)] M=.ok ⟨a9 0 n,none⟩ M:=by
 have:=uq (j:=(n:Int)) (by omega) M;rw[this];rfl
variable{ds:List D}
theorem A7 {M:au}:iM.ok ⟨ds,none⟩ M=true:=rfl
theorem gM {ds0:List D}{ge:GE}{ρ:bI}{P:au→Prop}{Q:D→Prop}:∀(ds:List D),(∀d∈ds,∀M,P M→∃e M',P M'∧Q e∧ge (some d::ρ) M=.ok e M')→∀M,P M→
  ∃es M',P M'∧es.length=ds.length∧(∀e∈es,Q e)∧eS ⟨ds0,none⟩ aU ge ds ρ M=.ok es M'
 | [],h,M,hM=>⟨[],M,hM,rfl,(fun e he=>by cases he),rfl⟩
 | d::ds,h,M,hM=>by
  obtain⟨e,M1,h1,q1,e1⟩:=h d List.mem_cons_self M hM;obtain⟨es,M2,h2,l2,q2,e2⟩:=gM (ds0:=ds0) ds (fun d' hd=>h d' (List.mem_cons_of_mem _ hd)) M1 h1;refine⟨e::es,M2,h2,by simp[l2],fun x hx=>?_,?_⟩
  ·rcases List.mem_cons.mp hx with z|z
   ·subst z;exact q1
   ·exact q2 x z
  ·simp[eS,A7,aU,e1,e2]
theorem oP {ds0:List D}{ge:GE}{ρ:bI}{f:D→D}{M:au}:∀(ds:List D),(∀d∈ds,ge (some d::ρ) M=.ok (f d) M)→eS ⟨ds0,none⟩ aU ge ds ρ M=.ok (ds.map f) M
 | [],h=>rfl
 | d::ds,h=>by
  have e1:=h d List.mem_cons_self;have e2:=oP (ds0:=ds0) ds fun d' hd=>h d' (List.mem_cons_of_mem _ hd)
  simp[eS,A7,aU,e1,e2]
theorem bu (lo:Int)(n:Nat):(a9 lo n).length=n:=by simp[a9]
theorem CD {Q:Int→Prop}(h:∀d∈ds,∃k,d=.int k∧Q k):∃ks:List Int,ds=ks.map D.int∧∀k∈ks,Q k:=by
 induction ds with
 | nil=>exact⟨[],rfl,fun k hk=>by cases hk⟩
 | cons d ds ih=>
  obtain⟨k,e,q⟩:=h d List.mem_cons_self;obtain⟨ks,e2,q2⟩:=ih fun d' hd=>h d' (List.mem_cons_of_mem _ hd)
  refine⟨k::ks,by rw[e,e2];rfl,fun x hx=>?_⟩;rcases List.mem_cons.mp hx with z|z
  ·subst z;exact q
  ·exact q2 x z
theorem Eb {Q:List Int→Prop}(h:∀d∈ds,∃ks:List Int,d=.tup (ks.map D.int)∧Q ks):∃rs:List (List Int),ds=rs.map (fun r=>D.tup (r.map D.int))∧∀r∈rs,Q r:=by
 induction ds with
 | nil=>exact⟨[],rfl,fun k hk=>by cases hk⟩
 | cons d ds ih=>
  obtain⟨k,e,q⟩:=h d List.mem_cons_self;obtain⟨ks,e2,q2⟩:=ih fun d' hd=>h d' (List.mem_cons_of_mem _ hd)
  refine⟨k::ks,by rw[e,e2];rfl,fun x hx=>?_⟩;rcases List.mem_cons.mp hx with z|z
  ·subst z;exact q
  ·exact q2 x z
theorem aQ {n:Nat}(h:n≤1000000):n≤sizeLine:=Nat.le_trans h (by rw[sizeLine_eq];decide)
end DL
namespace DL
@[simp] theorem LZ (i j:Int):nY (.int i) (.int j)=(i==j):=rfl
@[simp] theorem Lg (i j:Bool):nY (.bl i) (.bl j)=(i==j):=rfl
@[simp] theorem L4 (i j:PySem.Str):nY (.str i) (.str j)=(i==j):=rfl
@[simp] theorem K1:nY .non .non=true:=rfl
@[simp] theorem LD (i:Int):nY (.int i) .non=false:=rfl
@[simp] theorem KQ (i:Int):nY .non (.int i)=false:=rfl
@[simp] theorem KW (xs ys:List D):nY (.tup xs) (.tup ys)=kN xs ys:=rfl
@[simp] theorem LU (xs ys:List D):nY (.lst xs) (.lst ys)=kN xs ys:=rfl
@[simp] theorem Js:kN [] []=true:=rfl
@[simp] theorem KG (y:D) (ys:List D):kN [] (y::ys)=false:=rfl
@[simp] theorem Kv (y:D) (ys:List D):kN (y::ys) []=false:=rfl
@[simp] theorem Ku (x y:D) (xs ys:List D):kN (x::xs) (y::ys)=(nY x y&&kN xs ys):=rfl
@[simp] theorem HX (n:Nat) (i:Int):bw n (.int i)=true:=by cases n <;> rfl
@[simp] theorem JK (n:Nat) (i:Bool):bw n (.bl i)=true:=by cases n <;> rfl
@[simp] theorem H9 (n:Nat):bw n .non=true:=by cases n <;> rfl
@[simp] theorem HY (n:Nat) (x:PySem.Str):bw n (.str x)=PySem.PyData.strOk x:=by cases n <;> rfl
@[simp] theorem zN (n:Nat) (xs:List D):bw (n+1) (.tup xs)=bH n xs:=rfl
@[simp] theorem zz (n:Nat) (xs:List D):bw (n+1) (.lst xs)=bH n xs:=rfl
@[simp] theorem EE (xs:List D):bw 40 (.tup xs)=bH 39 xs:=zN 39 xs
@[simp] theorem EF (xs:List D):bw 40 (.lst xs)=bH 39 xs:=zz 39 xs
@[simp] theorem Gh (n:Nat):bH n []=true:=by cases n <;> rfl
@[simp] theorem Eu (n:Nat) (x:D) (xs:List D):bH n (x::xs)=(bw n x&&bH n xs):=by cases n <;> rfl
@[simp] theorem KI (i:Int) (M:au):now (.int i) M=.int i:=rfl
@[simp] theorem Le (i:Bool) (M:au):now (.bl i) M=.bl i:=rfl
@[simp] theorem Ky (M:au):now .non M=.non:=rfl
@[simp] theorem Kt (x:PySem.Str) (M:au):now (.str x) M=.str x:=rfl
@[simp] theorem KA (xs:List D) (M:au):now (.tup xs) M=.tup xs:=rfl
@[simp] theorem KD (xs:List D) (M:au):now (.lst xs) M=.lst xs:=rfl
end DL
namespace DL
open PySem PySem.Spec PyProof.Rows L2 PySem.W PySem.Builtin PySem.Builtin.ObjectAttr PySem.Builtin.Getset_descriptor List
structure Ln (K:Frag)(C:Addr):Prop where
 cl:(clsIn K C).isSome=true
 ca:findIn K (.ref C) "__class__"=some (some (.builtin "object.__class__"))
 sp:specialIn K (.builtin "object.__class__") "__get__"=some (some (.builtin "getset_descriptor.__get__"))
 tk:takesIn K (.builtin "object.__class__")=some true
 ob:mroIn K C (.type "object")=some true
 ga:findIn K (.ref C) "__getattribute__"=some (some (.builtin "BaseException.__getattribute__"))
 gh:findIn K (.ref C) "__getattr__"=some none
 be:mroIn K C (.type "BaseException")=some true
end DL
namespace DL
open PySem PySem.Spec PyProof.Rows L2 List
abbrev IV:List Value:=[.type "ValueError",.type "Exception",.type "BaseException",.type "object"]
structure Ec (K:W.Frag)(mg:Str→Option Value)(c:Str)(C:Addr):Prop where
 at_:nD K c C
 m:mg c=some (.ref C)
 k:Ln K C
 ex:W.excIn K C IV "ValueError.__new__"=true
 ty:W.typeIn K (.ref C)=some (.type "type")
 sf:W.mroIn K C (.ref C)=some true
variable{K:W.Frag}
theorem EO {h:Heap}{C:Addr}{bmB:List Value}{newId:String}(X:K.In h)(q:W.excIn K C bmB newId=true) :
  ∃bm N nm qn bs hdct sn sub ab col dd k0 k1 k2 k3 k5 mN,h.get? C=some (excClassObj nm qn C N bs bm hdct sn sub ab col dd k0 k1 k2 k3 k5 newId)∧h.Ns N mN∧mN "__init__"=none∧OwnTail h bmB bm:=by
 unfold W.excIn at q;split at q
 ·rename_i d1 cd s1 at1;split at q
  ·rename_i C2 ap j0 j1 j2 j3 nn j5 e1 e2;simp only[Bool.and_eq_true,beq_iff_eq,Bool.not_eq_true'] at q;obtain⟨⟨⟨⟨⟨r1,r2⟩,r3⟩,r4⟩,r5⟩,r6⟩:=q;subst r1;subst r2;cases cd with
   | mk c1 c2 c3 c4 c5 c6 c7 c8 c9 c10 c11=>
    dsimp only at e1 r3 r5 r6;subst e1;subst r3;have e3:s1=#[j0,j1,j2,j3,some (.builtin nn),j5]:=by
     cases s1 with
     | mk l=>
      have e4:l=_:=e2;rw[e4]
    subst e3;refine⟨ap,c4,c1,c5,c2,c6,c7,c8,c9,c10,d1,j0,j1,j2,j3,j5,h.nsMap c4,X _ _ at1,?_,W.nsMap_none_of_in X r5 r6,W.tail_of_in X r4⟩;exact Heap.Ns.of_isNs (W.isNs_of_in X r5)
  ·cases q
 ·cases q
def cT (c:Str)(g:GE):GS:=fun ρ M=>(g ρ M).bind fun _ M1=>.err c M1
theorem Bo {X:Cx}{c:Str}{C:Addr}{e:Expr}{g:GE}{np cpos pos:Pos}(k:Ec X.K X.mg c C)(hc:X.calm=true)(hg:Gl X c)(he:PE X e (tE X g))(h1:bB e=true:=by rfl)(hd:(c==("__debug__":Str))=false:=by decide) :
  PS X (.Raise (some (.Call (.Name c np) [e] [] cpos)) none pos) (tS X (cT c g)):=by
 intro ae s σ H D I h;obtain⟨ρ,θ,M,hdn,hw,h⟩:=h;obtain⟨bm,N,nm,qn,bs,hdct,sn,sub,ab,col,dd,k0,k1,k2,k3,k5,mN,hC,hN,hni,T⟩:=EO I.ok.mod.kin k.ex;have hs:starEach [e] X.env=(false,eval e X.env)::starEach [] X.env:=sE h1;have hplain:(backTo cpos (starEach [e] X.env)).any (·.1)=false:=sS (by unfold eG;simp[h1]);refine wpAny_Raise_call_subT (C:=C) (nm:=nm) (q:=qn) (N:=N) (bs:=bs) (bm:=bm) (hdct:=hdct) (sn:=sn) (sub:=sub) (ab:=ab) (col:=col) (dd:=dd) (k0:=k0) (k1:=k1) (k2:=k2) (k3:=k3) (k5:=k5)
  PySem.F.excBase_ValueError (mN:=mN) (T.hasType PySem.F.excBase_ValueError.hasBase) (I.ok.hd hc) hplain hni (uG I hg k.m ⟨rfl,?_⟩ hd)
 have hv:=f6 he jZ hs cpos ae s σ H (fun vs H1=>vs.length=1∧∃θ1 M1,Go X.K θ H θ1 H1 M1∧cj X θ1 H1 c M1) I (by
  refine b7 hdn hw (dm X θ H D) (fun c M' h=>h) (fun h=>h) h fun d M1 v θ1 H1 g1 r1 h2=>?_
  exact⟨rfl,θ1,M1,g1,cj.go g1 h2⟩)
 rw[hs] at hv ⊢;refine Calls.evalArgs_plain (wpAny_mono hv (fun us s2 hq=>⟨rfl,?_⟩) fun _ _ y=>y);obtain⟨vs,H1,I1,rv,hl,θ1,M1,g1,ok⟩:=hq;refine⟨by show us.length≤sizeLine;rw[←rv.length,hl];exact Nat.le_trans (by decide:1≤1000000) (by rw[sizeLine_eq];decide),I1.bk _ _ hC,hN.keeps I1.bk,T.keeps I1.bk,fun h' e' hm=>?_⟩;exact ok C θ1 H1 e' _ k.at_ (.refl g1.wr) ⟨ae,σ,.inl ⟨s2.heap,us,I1,hm⟩⟩
section
variable {X:Cx}{ae:List (Addr×Obj)}{σ:L2.St}{H:Hp}{s:Shared}{B:Heap}{a C:Addr}{a0:Value}
theorem wX {M:Model}{A:Around}{E:Value→Shared→Prop}{env:Env}{outer:List Env}{L:Addr}{base h:Heap}{vs:List Value}{Q:Unit→Shared→Prop}
  (hfr:A.frames=some (env::outer)) (hf:env.frame=some L) (hkb:base.StaysIn h) (hl:h.FunFrames base (env::outer)) (m:Heap.MadeExcOf h s.heap a (.ref C) vs)
  (hQ:∀h' t,Heap.HeldW base (env::outer) a (.ref C) (.ref t) L h'→s.heap.UpToSlots h'→Q () {s with heap:=h'}):wpAny M A (noteFrame (.ref a) env) Q E s:=by
 obtain⟨t,he,htn,ht⟩:=m.there;have fresh:base.get? a=none:=by
  cases hq:base.get? a with
  | none=>rfl
  | some o'=>have z:=hkb a o' hq;rw[m.new] at z;cases z
 unfold noteFrame;simp only[hf];refine wpAny_bind (wpAny_field he rfl (x:=.none) rfl ?_);rw[if_neg (by decide)];refine wpAny_entryW (a0:=.ref t) hfr (hl.of_keeps fun b o hb _=>⟨o,m.keeps b o hb,rfl⟩) hf he (fun b o hb=>m.keeps b o (hkb b o hb)) fresh rfl (by show 1<6;decide) rfl fun h' hN=>?_
 obtain⟨x1,x2,x3,x4⟩:=hN;exact hQ h' t ⟨x1,fresh,x2,x3⟩ x4
end
def ue (i:Nat):Fl→Fl
 | .nx ρ=>.nx (ρ.set i none)
 | .bk ρ=>.bk (ρ.set i none)
 | .ct ρ=>.ct (ρ.set i none)
 | .rt d=>.rt d
section
variable {X:Cx}
def mT (d:D)(M:au):Option (List D):=match d with
 | .lst xs=>some xs
 | .ro xs=>some xs
 | .mr k=>match M[k]? with
  | some (.lst xs)=>some xs
  | _=>none
 | _=>none
theorem Gx {θ:List Addr}{H:Hp}{M:au}{d:D}{xs:List D}{v:V}(hw:Wr K θ H M)(r:cP K θ H d v)(e:mT d M=some xs):∃a vs,v=.ref a∧m3 K H a vs∧ba K θ H xs vs:=by
 cases d with
 | lst ys=>cases e;obtain⟨a,vs,ea,ta,ra⟩:=r;exact⟨a,vs,ea,ta.sq,ra⟩
 | ro ys=>cases e;obtain⟨a,vs,ea,ta,ra⟩:=r;exact⟨a,vs,ea,ta.sq,ra⟩
 | mr k=>
  obtain⟨a,ea,ta⟩:=r;have e:(match M[k]? with|some (.lst xs)=>some xs|_=>none)=some xs:=e;cases q:M[k]? with
  | none=>rw[q] at e;cases e
  | some m=>
   cases m with
   | lst ys=>
    rw[q] at e;cases e;obtain⟨vs,hv,ra⟩:=hw.at_ k a _ ta q;exact⟨a,vs,ea,.inl (.inl hv),ra⟩
   | _=>rw[q] at e;cases e
 | _=>cases e
section
variable {o e:Expr}{go ge:GE}{apos cpos:Pos}
theorem pL {env:Env}(h:bB e=true):((backTo cpos (starEach [e] env)).all (fun x=>!x.1)&&(backToKw cpos (keywordEach [] env)).all (fun x=>x.1.isSome)
   && decide ([e].length+([]:List Keyword).length+(if([]:List Keyword).isEmpty then 0 else 1)<30))=true:=by
 rw[sE h];rfl
end
end
end DL
namespace DL
open PySem L2
theorem Kg {P:Program}{w:World}{H:Hp}{s:Shared}{e:Value}{s':Shared}(z:nQ P w [] H s (fun _ _ _=>False) e s'):False:=by
 obtain⟨_,_,_,_,_,_,_,_,_,_,_,_,_,_,h⟩:=z;exact h
end DL
namespace DL
open PySem PySem.Spec PyProof.Rows L2 List
structure Kc (K:W.Frag)(mg:Str→Option Value)(c:Str)(C:Addr):Prop where
 at_:nD K c C
 m:mg c=some (.ref C)
 cl:My K C
section
variable {X:Cx}
def uO (go:GE):GE:=fun ρ M=>(go ρ M).bind fun o M1=>match o with
 | .mr k=>match M1[k]? with
  | some (.lst _)=>.ok .non (M1.set k (.lst []))
  | _=>.bad
 | _=>.bad
theorem AI {o:Expr}{go:GE}{apos cpos:Pos}(ho:PE X o (tE X go))
  (hbase:attributeBase o "clear" X.env (eval o X.env)=eval o X.env:=by rfl) (hline:(apos.endLine==cpos.line)=true:=by rfl) :
  PE X (.Call (.Attribute o "clear" apos) [] [] cpos) (tE X (uO go)):=
 (FO PySem.F.plainAttrs_list PySem.F.slot_list_clear PySem.F.type_list_clear Ac ho hbase hline).of fun σ H Q hxx=>by
  obtain⟨ρ,θ,M,hd,hw,h⟩:=hxx;refine b7 hd hw (aE X θ H Q) (fun c M' h=>h) (fun h=>h) h fun d M1 v θ1 H1 g1 r1 h1=>?_
  have h2:=aE.go g1 h1;cases d with
  | mr k=>
   have h2:aE X θ1 H1 Q (match M1[k]? with|some (.lst _)=>.ok .non (M1.set k (.lst []))|_=>.bad):=h2;cases qm1:M1[k]? with
   | none=>rw[qm1] at h2;exact h2.elim
   | some m1=>
    cases m1 with
    | obj _ _=>rw[qm1] at h2;exact h2.elim
    | dK _=>rw[qm1] at h2;exact h2.elim
    | dT _=>rw[qm1] at h2;exact h2.elim
    | lst ys=>
     rw[qm1] at h2;obtain⟨a,ea,ta⟩:=id r1;obtain⟨vs,hv,ra⟩:=g1.wr.at_ k a _ ta qm1;refine⟨by rw[ea];exact .inl ⟨rfl,vs,.inl (.inl hv)⟩,?_⟩;have gs:=ur (ds:=ys) (ds':=[]) (vs':=[]) g1.wr ta (show ba X.K θ1 H1 [] [] from rfl);exact⟨a,vs,ea,rfl,hv,h2 _ θ1 _ gs rfl⟩
  | _=>exact h2.elim
end
end DL
namespace DL
open PySem PySem.Spec PyProof.Rows L2 List
open AutoSeq1 (wpAny_loadPart')
end DL
namespace DL
open PySem PySem.Spec PyProof.Rows L2 List
section
variable {X:Cx}{e o lo hi:Expr}{g go gl gh:GE}{pos ip sp:Pos}
def xu (i j:Nat)(ga:GA):GS:=fun ρ M=>(ga ρ M).bind fun ds M1=>match ds with
 | [d,e]=>.ok (.nx ((ρ.set i (some d)).set j (some e))) M1
 | _=>.bad
theorem E9 {i j:Nat}{x y:Str}{a b:Expr}{ga:GA}{px py pt:Pos}{kt k2 pt2}(hc:X.calm=true)(hN:X.N.Nodup)(hi:X.N[i]?=some x)(hj:X.N[j]?=some y)(hij:i≠j)
  (hx:X.env.scope.names.lookup x=some .local) (hy:X.env.scope.names.lookup y=some .local) (ha:PA X [a,b] (tA X ga))
  (hw:swappedStores [.Tuple [.Name x px,.Name y py] kt pt] (.Tuple [a,b] k2 pt2) X.env=pure (some [x,y]))
  (hs:swapsWithSole [.Tuple [.Name x px,.Name y py] kt pt] (.Tuple [a,b] k2 pt2) pos.line X.env=pure false:=by rfl) :
  PS X (.Assign [.Tuple [.Name x px,.Name y py] kt pt] (.Tuple [a,b] k2 pt2) pos) (tS X (xu i j ga)):=(Gj hc hN hi hj hij hx hy ha hw hs).of fun D σ H hxx=>by
 obtain⟨ρ,θ,M,hd,hwr,h⟩:=hxx;refine nL hd hwr (dm X θ H D) (fun c M' h=>h) (fun h=>h) h fun ds M1 vs θ1 H1 g1 r1 h1=>?_
 match ds,r1,h1 with
 | [d,e],⟨v,r,e1,rv,v2,r2,e2,rv2,e3⟩,h1=>
  have e3:r2=[]:=e3;subst e3 e2;exact⟨v,v2,e1,h1 _ θ1 H1 g1 (((hd.go g1).set rv i).set rv2 j)⟩
 | [],_,h1=>exact False.elim h1
 | [_],_,h1=>exact False.elim h1
 | _::_::_::_,_,h1=>exact False.elim h1
end
def H0 (K:W.Frag)(a:Addr)(so:Obj)(xs:List V)(ts:List Addr)(bm:Addr)(ob:Obj):Hp:=fun b=>
 if b=a then(if K.lookup a=none then some (.frz so (.lst xs)) else none) else if b∈ts then some (.tbl #[]) else if b=bm then some (Mh ob) else none
structure Lr (K:W.Frag)(x:Str)(c P:Addr):Prop where
 mem:x∈gO
 tab:W.tabIn K x=some (c,P)
 uniq:∀y,y∈gO→y≠x→∀c2,W.tabIn K y≠some (c2,P)
 hd:∃o vs file tf flags tg inF text tt,K.lookup c=some o∧o.cls=.type "code"∧o.data=.fields vs∧vs[11]?=some (.ref P)∧vs.getD 11 .none=.ref P∧vs.getD 18 .none=.str file tf∧
  vs.getD 7 .none=.int flags tg∧vs.getD 9 .none=.bool inF∧vs.getD 10 .none=.int text tt∧c≠P
def oE:List D→Option (List Int)
 | []=>some []
 | .int i::r=>(oE r).map (i::·)
 | _=>none
def BB:D→Option (List Int)
 | .tup ds=>oE ds
 | _=>none
theorem u9 {K:W.Frag}{θ:List Addr}{H:Hp}:∀{ds:List D} {ks:List Int} {vs:List V},oE ds=some ks→ba K θ H ds vs→vs=ks.map V.int
 | [],ks,vs,h,r=>by cases h;exact r
 | d::ds,ks,vs,h,r=>by
  obtain⟨v,rr,e,h1,h2⟩:=r;cases d with
  | int i=>
   cases q:oE ds with
   | none=>simp[oE,q] at h
   | some l=>
    simp[oE,q] at h;subst h;have h1:v=.int i:=h1;rw[e,h1,u9 q h2];rfl
  | _=>cases h
theorem Bk {K:W.Frag}{θ:List Addr}{H:Hp}{d:D}{ks:List Int}{v:V}(h:BB d=some ks)(r:cP K θ H d v):∃a,v=.ref a∧nz K θ H a (ks.map V.int):=by
 cases d with
 | tup ds=>
  obtain⟨a,vs,e,t,rs⟩:=r;have:=u9 (show oE ds=some ks from h) rs;subst this;exact⟨a,e,t⟩
 | _=>cases h
end DL
namespace DL
open PySem PySem.Spec PyProof.Rows L2 List
section
open PySem.SeqAt
open PySem.AutoSeq1 (wpAny_loadPart')
open PySem.MeetsSeq PySem.MeetsSeq2 PySem.MeetsSeq3
end
end DL
namespace DL
open PySem PySem.Spec PyProof.Rows L2 List
section
variable {X:Cx}{o e:Expr}{go ge:GE}{apos cpos:Pos}
def yP:F2:=fun x y M=>match x,y with
 | .str z,.int i=>if z.length≤sizeLine then(match oj z.cps.toList i with
  | some c=>.ok (.str ⟨#[c]⟩) M
  | none=>.bad) else .bad
 | x,y=>bt x y M
theorem F9:HR X (rD X yP):=by
 intro value slice ae s σ H x y v u Q I rx ry h hs;obtain⟨θ,M,dx,dy,hw,r1,r2,h⟩:=h;have ap:aE X θ H Q (bt dx dy M)→_:=fun h=>Ew value slice ae s σ H x y v u Q I rx ry ⟨θ,M,dx,dy,hw,r1,r2,h⟩ hs
 cases dx with
 | str z=>
  cases dy with
  | int i=>
   have h:aE X θ H Q (if z.length≤sizeLine then(match oj z.cps.toList i with|some c=>.ok (.str ⟨#[c]⟩) M|none=>.bad) else .bad):=h;split at h
   ·rename_i hz;cases q:oj z.cps.toList i with
    | none=>rw[q] at h;exact h.elim
    | some c=>
     rw[q] at h;exact Gq value slice ae s σ H x y v u Q I rx ry ⟨z,i,c,r1,r2,hz,q,h _ θ H (.refl hw) rfl⟩ hs
   ·exact h.elim
  | _=>exact ap h
 | _=>exact ap h
theorem E4 {a b:Expr}{pos:Pos}{ga gb:GE}(ha:PE X a (tE X ga))(hb:PE X b (tE X gb))(hs:mD b:=by intro _ _;rfl):PE X (.Subscript a b pos) (tE X (g2 yP ga gb)):=
 (Ez F9 ha hb hs).of fun _ _ _ h=>vW h
def DZ (j i:Str):Bool:=!(Builtin.Str.occurrences j i 0 j.length 1).isEmpty
def EI:F2:=fun x y M=>match x,y with
 | .str i,.str j=>.ok (.bl (DZ j i)) M
 | x,y=>nU false x y M
theorem F3:fo X (compareOp .In) (rD X EI):=by
 intro ae s σ H x y v u Q I rx ry h;obtain⟨θ,M,dx,dy,hw,r1,r2,h⟩:=h;have ap:aE X θ H Q (nU false dx dy M)→_:=fun h=>Kq ae s σ H x y v u Q I rx ry ⟨θ,M,dx,dy,hw,r1,r2,h⟩
 cases dx with
 | str i=>
  cases dy with
  | str j=>exact yR ae s σ H x y v u Q I rx ry ⟨i,j,r1,r2,h _ θ H (.refl hw) rfl⟩
  | _=>exact ap h
 | _=>exact ap h
def aP (F:Str→D→au→aO D)(go ge:GE):GE:=fun ρ M=>(go ρ M).bind fun o M1=>match o with
 | .str x=>(ge ρ M1).bind fun d M2=>F x d M2
 | _=>.bad
theorem mB {F:Str→D→au→aO D}{rr:V→List V→Hp→VK→Prop}{σ:L2.St}{H:Hp}{Q:VK}
  (hF:∀θ H M x d y Q,Wr X.K θ H M→cP X.K θ H d y→aE X θ H Q (F x d M)→rr (.str x) [y] H Q) (h:tE X (aP F go ge) σ H Q):Mc X.K "str" rr (tE X go) (Ex (tE X ge) I0) σ H Q:=by
 obtain⟨ρ,θ,M,hd,hw,h⟩:=h;refine b7 hd hw (aE X θ H Q) (fun c M' h=>h) (fun h=>h) h fun d M1 v θ1 H1 g1 r1 h1=>?_
 have h2:=aE.go g1 h1;cases d with
 | str x=>
  have ev:v=.str x:=r1;subst ev;refine⟨rfl,?_⟩;refine b7 (hd.go g1) g1.wr (aE X θ1 H1 Q) (fun c M' h=>h) (fun h=>h) h2 fun dx M2 vx θ2 H2 g2 r2 h3=>?_
  exact hF θ2 H2 M2 x dx vx Q g2.wr r2 (aE.go g2 h3)
 | _=>exact h2.elim
def oJ (x:Str)(d:D)(M:au):aO D:=match d with
 | .str y=>.ok (.int (Txt.find x y)) M
 | _=>.bad
def A1:V→List V→Hp→VK→Prop:=fun x vs H Q=>∃a b,x=.str a∧vs=[.str b]∧Q (.int (Txt.find a b)) H
theorem D6:Ig X "str.find" A1:=by
 intro ae s σ H x vs v us Q I rx rv h;obtain⟨a,b,rfl,rfl,q⟩:=h;obtain⟨t,rfl⟩:=rx;obtain⟨u,rfl,ru⟩:=rv.one;obtain⟨t',rfl⟩:=ru;exact SC.find ⟨.int _,H,I.tok _,⟨s.toks,rfl⟩,q⟩
theorem Dq {θ:List Addr}{H:Hp}{M:au}{x:Str}{d:D}{y:V}{Q:VK}(hw:Wr X.K θ H M)(ry:cP X.K θ H d y)(h:aE X θ H Q (oJ x d M)):A1 (.str x) [y] H Q:=by
 cases d with
 | str z=>
  have ev:y=.str z:=ry;subst ev;exact⟨x,z,rfl,rfl,h _ θ H (.refl hw) rfl⟩
 | _=>exact h.elim
theorem Cs (ho:PE X o (tE X go))(he:PE X e (tE X ge))(h1:bB e=true:=by rfl)(hbase:attributeBase o "find" X.env (eval o X.env)=eval o X.env:=by rfl)(hline:(apos.endLine==cpos.line)=true:=by rfl) :
  PE X (.Call (.Attribute o "find" apos) [e] [] cpos) (tE X (aP oJ go ge)):=
 (wa PySem.F.plainAttrs_str PySem.F.slot_str_find PySem.F.type_str_find D6 ho (f6 he jZ (sE h1)) hbase (pL h1) hline (sE h1) rfl).of fun σ H Q h=>mB (fun θ H M x d y Q=>Dq) h
theorem HC {x z:Str}{tk:Tok}{pos:Pos}(hg:Gl X x)(hm:X.mg x=some (.str z tk))(hd:(x==("__debug__":Str))=false:=by decide):PE X (.Name x pos) (tE X (gC (.str z))):=
 (yi hg hm (v:=.str z) ⟨tk,rfl⟩ hd).of fun σ H Q h=>by
  obtain⟨ρ,θ,M,_,hw,h⟩:=h;exact h _ θ H (.refl hw) rfl
end
end DL
namespace DL
open PySem PySem.Spec PyProof.Rows L2 List
def gX (x:Str):List D:=x.cps.toList.map fun c=>D.str ⟨#[c]⟩
def Kw (x:Str):It:=⟨fun i _=>i<x.cps.size,fun i H v H'=>H'=H∧∃c,x.cps[i]?=some c∧v=.str ⟨#[c]⟩,fun i _=>x.cps.size≤i⟩
variable{x:Str}
theorem uQ {P:Program}{w:World}{K:W.Frag}{tg:Expr}{T:String}{t:Tok}(it:Addr)(hn:["enumerate","zip","dict_itemiterator","dict_reverseitemiterator","odict_iterator","itertools.zip_longest","itertools.pairwise"].contains T=false)
  (W:∀A:Around,A.handled=none→Walks P w A it [it] [it] x.cps.size (fun i v=>∃c u,x.cps[i]?=some c∧v=.str ⟨#[c]⟩ u) fun i h=>h.IsStrIter it T x t i)
  (hs:∀(A:Around) (i:Nat) (s:Shared) (Q:Value→Shared→Prop) (E:Value→Shared→Prop),s.heap.IsStrIter it T x t i→Q (.ref it) s→wpAny (model P w) A (pyIter (.ref it)) Q E s) :
  vm P w K tg (Kw x) [it] it (fun i h=>h.IsStrIter it T x t i∧i≤x.cps.size) where
 mem:=by simp
 obj:=fun i h st b hb=>by
  have e:b=it:=by simpa using hb
  subst e;obtain⟨⟨o,e,c,d⟩,_⟩:=st;exact⟨o,e,fun v z=>by rw[d] at z;cases z⟩
 keep:=fun i h h' st k=>by
  obtain⟨⟨o,e,c,d⟩,hi⟩:=st;exact⟨⟨o,k it (by simp) o e,c,d⟩,hi⟩
 item:=by
  intro X hP hw hK hc i ae s σ H E I hf st hg;subst hP hw hK;obtain⟨f0,f1,f2,f3,f4,f5⟩:=hf it (by simp);have hg:i<x.cps.size:=hg;refine(W X.A (I.ok.hd hc)).item i s _ _ hg st.1 fun v h' tk hv st' kk=>?_
  obtain⟨c,u,ec,rfl⟩:=hv;have I1:Inv X ae σ H {s with heap:=h',toks:=tk}:=I.turned (fun b o hb e=>kk b o (by simpa using hb) e) f0 f1 f3 f4 f5;obtain⟨o,e,oc,od⟩:=id st';exact⟨_,rfl,xJ (s:={s with heap:=h',toks:=tk}) e oc od hn ⟨.str ⟨#[c]⟩,H,I1,⟨u,rfl⟩,⟨rfl,c,ec,rfl⟩,⟨st',hg⟩,fun b hb=>(hf b hb).1⟩⟩
 done:=by
  intro X hP hw hK hc i ae s σ H E I hf st hg;subst hP hw hK;obtain⟨f0,f1,f2,f3,f4,f5⟩:=hf it (by simp);have hg:x.cps.size≤i:=hg;have e:i=x.cps.size:=Nat.le_antisymm st.2 hg;subst e;exact(W X.A (I.ok.hd hc)).done s _ _ st.1 fun h' tk kk=>⟨rfl,I.turned (fun b o hb e=>kk b o (by simpa using hb) e) f0 f1 f3 f4 f5⟩
 self:=fun A i s Q E st h=>hs A i s Q E st.1 h
variable{θ:List Addr}{H:Hp}
theorem C3 {K:W.Frag}(x:Str):wQ K (Kw x) θ H ⟨gX x,none⟩:=by
 intro θ1 H1 M1 g _ i;refine⟨fun d e=>?_,fun hl=>?_⟩
 ·have hi:i<x.cps.size:=by
   have:=(List.getElem?_eq_some_iff.mp e).1;simpa[gX] using this
  refine⟨hi,fun v H2 y=>?_⟩;obtain⟨eH,c,ec,rfl⟩:=y;subst eH;refine⟨.refl g.wr,?_⟩;have e':D.str ⟨#[c]⟩=d:=by
   have:(gX x)[i]?=some (D.str ⟨#[c]⟩):=by simp[gX,ec]
   rw[this] at e;exact Option.some.inj e
  subst e';rfl
 ·have h2:(gX x).length≤i:=hl;have h3:x.cps.size≤i:=by simpa[gX] using h2
  exact h3
def xy (d:D)(M:au):aO iM:=match d with
 | .str x=>.ok ⟨gX x,none⟩ M
 | d=>mM d M
def iX (g:GE):GI:=fun ρ M=>(g ρ M).bind xy
variable{s:Shared}
section
variable {X:Cx}{tg:Expr}
theorem Ap {ae:List (Addr×Obj)}{σ:L2.St}{R:It→Hp→Prop}{t:Tok}(I:L2.Inv X ae σ H s)(h:R (Kw x) H):wpAny (model X.prog X.w) X.A (pyIter (.str x t)) (KY X ae σ tg R) X.xe s:=by
 have fp:∀b∈[s.heap.objs.size],ig X ae H b:=fun b hb=>by
  have e:b=s.heap.objs.size:=by simpa using hb
  subst e;exact I.fpOk (Nat.le_refl _) (I.hok.fresh (Nat.le_refl _))
 cases ha:x.cps.all (·<128) with
 | true=>
  refine wpAny_pyIter_ascii ha ?_;refine⟨s.heap.objs.size,[s.heap.objs.size],_,_,H,rfl,I.kept (t':=s.toks) fun b o e=>Heap.get?_push_of_some _ e,uQ (T:="str_ascii_iterator") (x:=x) (t:=t) _ (by decide) (fun A hA=>Walks.strAscii hA _ x t) (fun A i s Q E st hQ=>?_),⟨⟨_,Heap.get?_push_size _ rfl,rfl,rfl⟩,Nat.zero_le _⟩,fp,h⟩;exact wpAny_pyIter_striter_ascii st hQ
 | false=>
  refine wpAny_pyIter_wide ha ?_;refine⟨s.heap.objs.size,[s.heap.objs.size],_,_,H,rfl,I.kept (t':=s.toks) fun b o e=>Heap.get?_push_of_some _ e,uQ (T:="str_iterator") (x:=x) (t:=t) _ (by decide) (fun A hA=>Walks.strWide hA _ x t) (fun A i s Q E st hQ=>?_),⟨⟨_,Heap.get?_push_size _ rfl,rfl,rfl⟩,Nat.zero_le _⟩,fp,h⟩;exact wpAny_pyIter_striter_wide st hQ
theorem HK {l:Expr}{tl:TE}(hl:PE X l tl):PI X tg l (fun σ H R=>tl σ H fun x H1=>(∃z,x=.str z∧R (Kw z) H1)∨∃a,x=.ref a∧(((∃xs,m3 X.K H1 a xs)∧R (IG X.K a) H1)∨((∃xs,pP X.K H1 a xs)∧R (JY X.K a) H1))):=by
 intro ae s σ H R I h;refine cb (hl ae s σ H _ I h) fun v s1 hxx=>?_
 obtain⟨x,H1,I1,r1,q1⟩:=hxx;rcases q1 with⟨z,e,q1⟩|⟨a,e,q1⟩
 ·subst e;obtain⟨t,rfl⟩:=r1;exact Ap I1 q1
 subst e;cases r1;rcases q1 with⟨⟨xs,hq⟩,q⟩|⟨⟨xs,hq⟩,q⟩
 ·obtain⟨its,rv,p,hz⟩:=I1.list hq;refine wpAny_pyIter_list p.isList ?_;refine⟨s1.heap.objs.size,[s1.heap.objs.size],_,_,H1,rfl,I1.kept (t':=s1.toks) fun b o e=>Heap.get?_push_of_some _ e,rK a _,⟨_,Heap.get?_push_size _ rfl,rfl,rfl⟩,fun b hb=>?_,q⟩;have e:b=s1.heap.objs.size:=by simpa using hb
  subst e;exact I1.fpOk (Nat.le_refl _) (I1.hok.fresh (Nat.le_refl _))
 ·obtain⟨its,rv,p,hz⟩:=I1.tuple hq;refine wpAny_pyIter_tuple (show s1.heap.IsTuple a its.toArray from p) ?_;refine⟨s1.heap.objs.size,[s1.heap.objs.size],_,_,H1,rfl,I1.kept (t':=s1.toks) fun b o e=>Heap.get?_push_of_some _ e,pr a _,⟨_,Heap.get?_push_size _ rfl,rfl,rfl⟩,fun b hb=>?_,q⟩;have e:b=s1.heap.objs.size:=by simpa using hb
  subst e;exact I1.fpOk (Nat.le_refl _) (I1.hok.fresh (Nat.le_refl _))
theorem C1 {l:Expr}{g:GE}(hl:PE X l (tE X g)):PI X tg l (tI X (iX g)):=by
 intro ae s σ H R I h;refine HK hl ae s σ H R I ?_;obtain⟨ρ,θ,M,hd,hw,h⟩:=h;refine b7 hd hw (zg X θ H R) (fun c M' h=>h) (fun h=>h) h fun d M1 v θ1 H1 g1 r1 h1=>?_
 cases d with
 | str z=>exact .inl ⟨z,r1,h1 _ θ1 H1 g1 (C3 z)⟩
 | lst ds=>
  obtain⟨a,vs,e,ta,r⟩:=r1;exact .inr ⟨a,e,.inl ⟨⟨vs,ta.sq⟩,h1 _ θ1 H1 g1 (og (.inl ⟨.inl ta.1,ta.2⟩) r)⟩⟩
 | ro ds=>
  obtain⟨a,vs,e,ta,r⟩:=r1;exact .inr ⟨a,e,.inl ⟨⟨vs,ta.sq⟩,h1 _ θ1 H1 g1 (og ta r)⟩⟩
 | tup ds=>
  obtain⟨a,vs,e,ta,r⟩:=r1;exact .inr ⟨a,e,.inr ⟨⟨vs,ta.sq⟩,h1 _ θ1 H1 g1 (xH ta r)⟩⟩
 | mr k=>
  obtain⟨a,e,ta⟩:=r1;have h2:zg X θ H R (match M1[k]? with|some (.lst ds)=>.ok ⟨ds,some k⟩ M1|_=>.bad):=h1;cases q:M1[k]? with
  | none=>rw[q] at h2;exact h2.elim
  | some m=>
   cases m with
   | lst ds=>
    rw[q] at h2;obtain⟨vs,hv,r⟩:=g1.wr.at_ k a _ ta q;exact .inr ⟨a,e,.inl ⟨⟨vs,.inl (.inl hv)⟩,h2 _ θ1 H1 g1 (xZ ta)⟩⟩
   | _=>rw[q] at h2;exact h2.elim
 | _=>exact h1.elim
end
theorem qG:∀l:List (Str×Tok),aR (l.map fun p=>V.str p.1) (strValues l)
 | []=>.nil
 | p::l=>.cons ⟨p.2,rfl⟩ (qG l)
theorem rP:∀{ys:List Str} {us:List Value},aR (ys.map V.str) us→∃l:List (Str×Tok),us=strValues l∧l.map (·.1)=ys
 | [],us,h=>by cases h;exact⟨[],rfl,rfl⟩
 | y::ys,us,h=>by
  cases h with
  | cons h1 h2=>
   obtain⟨t,rfl⟩:=h1;obtain⟨l,rfl,e⟩:=rP h2;exact⟨(y,t)::l,rfl,by rw[map_cons,e]⟩
theorem qM {K:W.Frag}{θ:List Addr}{H:Hp}:∀ys:List Str,ba K θ H (ys.map D.str) (ys.map V.str)
 | []=>rfl
 | y::ys=>⟨_,_,rfl,rfl,qM ys⟩
def kP:List D→Option (List Str)
 | []=>some []
 | .str x::r=>(kP r).map (x::·)
 | _=>none
theorem vV {K:W.Frag}{θ:List Addr}{H:Hp}:∀{ds:List D} {ys:List Str} {vs:List V},kP ds=some ys→ba K θ H ds vs→vs=ys.map V.str
 | [],ys,vs,h,r=>by cases h;exact r
 | d::ds,ys,vs,h,r=>by
  obtain⟨v,rr,e,h1,h2⟩:=r;cases d with
  | str x=>
   cases q:kP ds with
   | none=>simp[kP,q] at h
   | some ks=>
    simp only[kP,q,Option.map_some,Option.some.injEq] at h;subst h;have e1:v=.str x:=h1;subst e1;rw[e,vV q h2];rfl
  | _=>cases h
section
open Builtin Builtin.Str
theorem BA {P:Program}{W:World}{A:Around}{E:Value→Shared→Prop}{txt sep:Str}{k1 k2:Tok}{Q:Value→Shared→Prop}(some_:(sep.length==0)=false)
  (fin:∀(ps:List (Str×Tok)) (k:Tok),ps.map (·.1)=Txt.split txt sep→Q (.ref s.heap.objs.size) {s with toks:=k,heap:=s.heap.push {cls:=.type "list",data:=.seq (strValues ps).toArray}})
  (z1:txt.length≤sizeLine) (z2:(partsBetween txt (occurrences txt sep 0 txt.length (txt.length+1)) sep.length).length≤sizeLine) :
  wpAny (model P W) A (call (.builtin "str.split") [.str txt k1,.str sep k2]) Q E s:=by
 by_cases far:(decide (txt.length<sep.length)||decide (strKind txt<strKind sep))=true
 ·have whole:[txt]=Txt.split txt sep:=(if_pos far).symm;exact call_meets F.slot_str_split (typeIs_str s txt k1) F.entry_str_split (F.args_str_split_2 _ _) (meets_str_split_cannot_occur txt sep k1 k2 far) (fin [(txt,k1)] s.toks whole)
 ·have near:=Bool.eq_false_iff.mpr far
  by_cases none_:(occurrences txt sep 0 txt.length (txt.length+1)).isEmpty=true
  ·have whole:[txt]=Txt.split txt sep:=((if_neg far).trans (if_pos none_)).symm;exact call_meets F.slot_str_split (typeIs_str s txt k1) F.entry_str_split (F.args_str_split_2 _ _) (meets_str_split_not_found txt sep k1 k2 near some_ none_) (fin [(txt,k1)] s.toks whole)
  ·have found:=Bool.eq_false_iff.mpr none_;have parts:∀k:Tok,(numbered k (partsBetween txt (occurrences txt sep 0 txt.length (txt.length+1)) sep.length)).map (·.1)=Txt.split txt sep:=fun k=>
    (numbered_texts k _).trans ((if_neg far).trans (if_neg none_)).symm
   refine call_meets F.slot_str_split (typeIs_str s txt k1) F.entry_str_split (F.args_str_split_2 _ _) (meets_str_split_sep txt sep k1 k2 near some_ found z1 z2) ?_;have said:=fin (numbered s.toks (partsBetween txt (occurrences txt sep 0 txt.length (txt.length+1)) sep.length));rw[←strsFrom_eq] at said;exact said _ (parts s.toks)
end
section
variable {X:Cx}{o e:Expr}{go ge:GE}{apos cpos:Pos}
def ku (x y:Str):Bool:=!(y.length==0)&&decide (x.length≤sizeLine)&&decide ((Builtin.Str.partsBetween x (Builtin.Str.occurrences x y 0 x.length (x.length+1)) y.length).length≤sizeLine)&&decide ((Txt.split x y).length≤sizeLine)
def dE (x:Str)(d:D)(M:au):aO D:=match d with
 | .str y=>if ku x y then .ok (.lst ((Txt.split x y).map D.str)) M else .bad
 | _=>.bad
def BE:V→List V→Hp→VK→Prop:=fun x vs H Q=>∃a b,x=.str a∧vs=[.str b]∧ku a b=true∧∀l,H l=none→Q (.ref l) (cA H l (.lst ((Txt.split a b).map V.str)))
theorem BU:Ig X "str.split" BE:=by
 intro ae s σ H x vs v us Q I rx rv h;obtain⟨a,b,rfl,rfl,ok,q⟩:=h;obtain⟨t,rfl⟩:=rx;obtain⟨u,rfl,ru⟩:=rv.one;obtain⟨t',rfl⟩:=ru;unfold ku at ok;rw[Bool.and_eq_true,Bool.and_eq_true,Bool.and_eq_true,decide_eq_true_eq,decide_eq_true_eq,decide_eq_true_eq,Bool.not_eq_true'] at ok;obtain⟨⟨⟨o1,o2⟩,o3⟩,o4⟩:=ok;refine BA o1 (fun l k el=>?_) o2 o3;have rl:=qG l;have em:(l.map fun p=>V.str p.1)=(Txt.split a b).map V.str:=by rw[←el,map_map];rfl
 rw[em] at rl;exact⟨.ref s.heap.objs.size,_,I.laid (t':=k) (fun b o e=>Heap.get?_push_of_some _ e) (Nat.le_refl _) (show cO X.prog X.w _ _ _ (.lst ((Txt.split a b).map V.str)) from⟨by rw[length_map];exact o4,strValues l,_,rl,Heap.get?_push_size _ rfl⟩),rfl,q _ (I.hok.fresh (Nat.le_refl _))⟩
theorem BR {M:au}{d:D}{y:V}{Q:VK}(hw:Wr X.K θ H M)(ry:cP X.K θ H d y)(h:aE X θ H Q (dE x d M)):BE (.str x) [y] H Q:=by
 cases d with
 | str z=>
  have ev:y=.str z:=ry;subst ev;have h:aE X θ H Q (if ku x z then .ok (.lst ((Txt.split x z).map D.str)) M else .bad):=h;split at h
  ·rename_i hk;exact⟨x,z,rfl,rfl,hk,fun l hl=>h _ θ _ (eD hw hl) (iu hw hl (qM _))⟩
  ·exact h.elim
 | _=>exact h.elim
theorem A0 (ho:PE X o (tE X go))(he:PE X e (tE X ge))(h1:bB e=true:=by rfl)(hbase:attributeBase o "split" X.env (eval o X.env)=eval o X.env:=by rfl)(hline:(apos.endLine==cpos.line)=true:=by rfl) :
  PE X (.Call (.Attribute o "split" apos) [e] [] cpos) (tE X (aP dE go ge)):=
 (wa PySem.F.plainAttrs_str PySem.F.slot_str_split PySem.F.type_str_split BU ho (f6 he jZ (sE h1)) hbase (pL h1) hline (sE h1) rfl).of fun σ H Q h=>mB (fun θ H M x d y Q=>BR) h
def cI (x:Str)(d:D)(M:au):aO D:=match mT d M with
 | some ds=>match kP ds with
  | some ys=>if JoinOk x ys then .ok (.str (Txt.join x ys)) M else .bad
  | none=>.bad
 | none=>.bad
def Ey (K:W.Frag):V→List V→Hp→VK→Prop:=fun x vs H Q=>∃a p ys,x=.str a∧vs=[.ref p]∧m3 K H p (ys.map V.str)∧JoinOk a ys=true∧Q (.str (Txt.join a ys)) H
theorem CP:Ig X "str.join" (Ey X.K):=by
 intro ae s σ H x vs v us Q I rx rv h;obtain⟨a,p,ys,rfl,rfl,hq,ok,q⟩:=h;obtain⟨t,rfl⟩:=rx;obtain⟨u,rfl,ru⟩:=rv.one;cases ru;obtain⟨its,r,pl,hz⟩:=I.list hq;obtain⟨l,rfl,el⟩:=rP r;exact SC.join pl.isList el ok fun t' k=>⟨.str _,H,I.tok k,⟨t',rfl⟩,q⟩
theorem Cq {M:au}{d:D}{y:V}{Q:VK}(hw:Wr X.K θ H M)(ry:cP X.K θ H d y)(h:aE X θ H Q (cI x d M)):Ey X.K (.str x) [y] H Q:=by
 unfold cI at h;cases ql:mT d M with
 | none=>rw[ql] at h;exact h.elim
 | some ds=>
  rw[ql] at h;dsimp only at h;obtain⟨a,vs,ea,sq,ra⟩:=Gx hw ry ql;cases qs:kP ds with
  | none=>rw[qs] at h;exact h.elim
  | some ys=>
   rw[qs] at h;dsimp only at h;split at h
   ·rename_i hk;rw[vV qs ra] at sq;exact⟨x,a,ys,rfl,by rw[ea],sq,hk,h _ θ H (.refl hw) rfl⟩
   ·exact h.elim
theorem CQ (ho:PE X o (tE X go))(he:PE X e (tE X ge))(h1:bB e=true:=by rfl)(hbase:attributeBase o "join" X.env (eval o X.env)=eval o X.env:=by rfl)(hline:(apos.endLine==cpos.line)=true:=by rfl) :
  PE X (.Call (.Attribute o "join" apos) [e] [] cpos) (tE X (aP cI go ge)):=
 (wa PySem.F.plainAttrs_str PySem.F.slot_str_join PySem.F.type_str_join CP ho (f6 he jZ (sE h1)) hbase (pL h1) hline (sE h1) rfl).of fun σ H Q h=>mB (fun θ H M x d y Q=>Cq) h
end
end DL
namespace DL
open PySem PySem.Spec PyProof.Rows L2 List
section
variable {prog:Program}{w:World}{A:Around}{R:Result→Shared→Prop}{s:Shared}
theorem jH {E0:Value→Shared→Prop}{elt target iter:Expr}{ifs:List Expr}{scope:Scope}{pos:Pos}{it acc:Value}{env:Env}{cond:Sem Bool}
  (hE:∀e s',E0 e s'→notedBy (model prog w) A env (fun x s''=>R (.error x) s'') e s') (hc:(forIn (m:=Sem) ifs true fun c r=>if r=true then do let ok ←isTrue c env (eval c env);pure (ForInStep.yield ok) else pure (ForInStep.yield r))=cond) (I:Nat→Shared→Prop)
  (turn:∀n s,I n s→wpAny (model prog w) A (pyNext it) (fun r s₁=>match r with
   | none=>R (.ok .next) s₁
   | some v=>wpAny (model prog w) A (letOwnedTupleGo target it v) (fun _ s₂=>wpAny (model prog w) A (assign target env v) (fun _ s₃=>wpAny (model prog w) A cond (fun ok s₄=>if ok=true then
     wpAny (model prog w) A (eval elt env) (fun x s₅=>wpAny (model prog w) A (call (.builtin "list.append") [acc,x]) (fun _ s₆=>∃m,m<n∧I m s₆) (fun _ _=>False) s₅) E0 s₄
     else∃m,m<n∧I m s₄) (fun _ _=>False) s₃) (fun _ _=>False) s₂) (fun _ _=>False) s₁) (fun _ _=>False) s)
  (n:Nat) (h:I n s):codeAny (model prog w) A (.compLoop (.ListComp elt [⟨target,iter,ifs,0⟩] scope pos) 0 it acc env) R s:=by
 refine codeAny_loop rfl I (fun n s hI=>?_) n h;show wpAny _ _ ((compTurn (.ListComp elt [⟨target,iter,ifs,0⟩] scope pos) 0 it acc env).onRaise (fun x=>do noteFrame x env;theTreesLotGoes x)) _ _ s;refine wpAny_noted ?_;rw[nK _ _ _ _ _ _ _ _ _ _ hc];refine wpAny_bind (wpAny_standAt (wpAny_bind (wpAny_mono (turn n s hI) (fun r s₁ h₁=>?_) fun _ _ z=>z.elim)));cases r with
 | none=>exact wpAny_pure h₁
 | some v=>
  refine wpAny_bind (wpAny_mono h₁ (fun _ s₂ h₂=>?_) fun _ _ z=>z.elim);refine wpAny_bind (wpAny_mono h₂ (fun _ s₃ h₃=>?_) fun _ _ z=>z.elim);refine wpAny_bind (wpAny_mono h₃ (fun ok s₄ h₄=>?_) fun _ _ z=>z.elim);cases ok with
  | true=>
   rw[if_pos rfl] at h₄;rw[if_pos rfl];exact wpAny_bind (wpAny_bind (wpAny_mono h₄ (fun x s₅ h₅=>wpAny_bind (wpAny_mono h₅ (fun _ s₆ h₆=>wpAny_pure (wpAny_pure ⟨rfl,h₆⟩)) fun _ _ z=>z.elim)) fun e s' z=>hE e s' z))
  | false=>
   rw[if_neg Bool.false_ne_true] at h₄;rw[if_neg Bool.false_ne_true];exact wpAny_pure ⟨rfl,h₄⟩
end
section
variable {M:Model}{A:Around}{E:Value→Shared→Prop}{s:Shared}{env:Env}
def pc (M:Model)(A:Around)(E:Value→Shared→Prop)(use:Option (Value→Sem Unit))(Q:Value→Shared→Prop)(acc:Value)(ce:Env)(r:Result)(s':Shared):Prop:=
 match r with
 | .ok f=>compPost M A E use Q acc ce.locals (.ok f) s'
 | .error x=>∃m,s'.heap.Ns ce.locals m∧∀h',Heap.SameBut ce.locals s'.heap h'→wpAny M A (passOn "comprehension.variables-let-go" x ce:Sem Value) (fun _ _=>False) E {s' with heap:=h'}
theorem kU {e:Expr}{scope:Scope}{pos:Pos}{mk fst:Sem Value}{c0:Comprehension}{cs:List Comprehension}{cl:List (Str×Addr)}{use:Option (Value→Sem Unit)}{Q:Value→Shared→Prop}
  (k1:clausesOf e=c0::cs) (k2:∀x,foldedSetIterable c0.iter env x=pure x) (k3:closureFor scope env=pure cl) (k4:scope.kind=.function) (k5:∀x∈scope.names,x.2=.local→scope.names.lookup x.1=some .local)
  (go:wpAny M A fst (fun x s1=>wpAny M A (pyIter x) (fun it s2=>wpAny M A mk (fun acc s3=>wpAny M A (newFunctionEnv scope env.globals cl [] env.qual none .none (some env)) (fun ce s4=>
   codeAny M A (.compStart e 0 it acc {ce with scope:=relabel scope env}) (pc M A E use Q acc {ce with scope:=relabel scope env}) s4) E s3) E s2) E s1) E s) :
  wpAny M A (comprehension e scope env pos mk false fst use) Q E s:=by
 unfold comprehension;rw[k3,k1];refine wpAny_bind (wpAny_mono go (fun x s1 g1=>?_) fun _ _ z=>z);refine wpAny_bind (wpAny_standAt (wpAny_bind (wpAny_of_eq (k2 x) (wpAny_bind (wpAny_holding (wpAny_mono g1 (fun it s2 g2=>?_) fun _ _ z=>z))))));refine wpAny_standIf (wpAny_bind (wpAny_mono g2 (fun acc s3 g3=>?_) fun _ _ z=>z));refine wpAny_bind (wpAny_pure (wpAny_bind (wpAny_mono g3 (fun ce s4 g4=>?_) fun _ _ z=>z)));dsimp only;have loc:∀y∈(scope.names.filter fun y=>(y.2==.local||y.2==.cell)&&y.1 != (".0":Str)).reverse,y.2=.local→Env.kindOf {ce with scope:=relabel scope env} y.1=some .local:=
  fun y hy hl=>lookup_relabel_local (k5 y (mem_filter.mp (mem_reverse.mp hy)).1 hl)
 have loc2:∀y∈(scope.names.filter fun y=>(y.2==.local||y.2==.cell)&&y.1 != (".0":Str)).reverse.drop 1++(scope.names.filter fun y=>(y.2==.local||y.2==.cell)&&y.1 != (".0":Str)).reverse.take 1,
   y.2=.local→Env.kindOf {ce with scope:=relabel scope env} y.1=some .local:=fun y hy hl=>by
  rcases mem_append.mp hy with z|z
  ·exact loc y (mem_of_mem_drop z) hl
  ·exact loc y (mem_of_mem_take z) hl
 refine wpAny_holding (wpAny_bind (wpAny_attempt (wpAny_holding (wpAny_run (codeAny_mono g4 fun r s5 g5=>?_)))));cases r with
 | ok f=>
  cases use with
  | none=>
   obtain⟨m,hn,g6⟩:=g5;exact wpAny_bind (wpAny_holding (wpAny_comp_letGo (cenv:={ce with scope:=relabel scope env}) k4 _ s5 m loc hn fun h' m' _ sb=>wpAny_pure (g6 h' sb)))
  | some u=>
   refine wpAny_bind (wpAny_rule (wpAny_bind (wpAny_holding (wpAny_mono g5 (fun _ s6 g6=>?_) fun _ _ z=>z))));obtain⟨m,hn,g7⟩:=g6;exact wpAny_bind (wpAny_comp_letGo (cenv:={ce with scope:=relabel scope env}) k4 _ s6 m loc2 hn fun h' m' _ sb=>wpAny_pure (g7 h' sb))
 | error x=>
  obtain⟨m,hn,g6⟩:=g5;exact wpAny_bind (wpAny_holding (wpAny_comp_letGo (cenv:={ce with scope:=relabel scope env}) k4 _ s5 m loc hn fun h' m' _ sb=>wpAny_mono (g6 h' sb) (fun _ _ z=>z.elim) fun _ _ z=>z))
end
section
variable {M:Model}{A:Around}{E:Value→Shared→Prop}{s:Shared}
theorem yM {e:Value}{v1 v2:Env}(h:v1.frame=v2.frame):noteFrame e v1=noteFrame e v2:=by
 unfold noteFrame PySem.frameOf;rw[h]
theorem zy {α:Type}{B:Heap}{l:List Env}{a L:Addr}{cls a0:Value}{what:String}{ce:Env}{Q:α→Shared→Prop}(hf:ce.frame=some L)(held:Heap.HeldW B l a cls a0 L s.heap)
  (fin:∀h',Heap.HeldW B l a cls a0 L h'→s.heap.UpToSlots h'→E (.ref a) {s with heap:=h'}):wpAny M A (passOn what (.ref a) ce:Sem α) Q E s:=by
 obtain⟨f1,f2,f3,oe,vs,T,oT,ts,e1,cl,d1,v1,nT,Ta,e2,d2,v3⟩:=held;have z3:3<ts.size:=(Array.getElem?_eq_some_iff.mp v3).1;have off:∀b,b≠T→(s.heap.update T (Obj.mapFields (·.setIfInBounds 3 (rawInt L)))).get? b=s.heap.get? b:=fun b hb=>Heap.get?_update_other _ _ (Ne.symm hb)
 have rec_:∀b o,s.heap.get? b=some o→(∀us,o.data≠.fields us)→b≠T:=fun b o hb n z=>by
  rw[z,e2] at hb;cases hb;exact n ts d2
 have here:Heap.HeldW B l a cls a0 L (s.heap.update T (Obj.mapFields (·.setIfInBounds 3 (rawInt L)))):=
  ⟨fun b o q=>(off b fun z=>by rw[z,nT] at q;cases q).trans (f1 b o q),f2,f3.of_keeps fun b o q n=>⟨o,(off b (rec_ b o q n)).trans q,rfl⟩,
   oe,vs,T,_,_,(off a (Ne.symm Ta)).trans e1,cl,d1,v1,nT,Ta,Heap.get?_update_self _ e2 (Obj.isFreed_of_fields (Obj.data_mapFields d2 _)),Obj.data_mapFields d2 _,by simp[z3]⟩
 unfold PySem.passOn;refine wpAny_bind (wpAny_field e1 d1 v1 ?_);rw[if_neg (by simp)];refine wpAny_bind ?_;unfold setFlight;refine wpAny_bind (wpAny_field e1 d1 v1 ?_);rw[if_pos (by simp),hf];refine wpAny_setField e2 d2 z3 (wpAny_throw ?_);exact fin _ here fun b o q n=>⟨o.slots,(off b (rec_ b o q n)).trans q⟩
end
variable{s1:Shared}{use:Option (Value→Sem Unit)}{Q:Value→Shared→Prop}{acc:Value}
section
variable {X:Cx}{ae:List (Addr×Obj)}{σ:L2.St}{scope:Scope}{xs R:List Str}{fp:List Addr}{s2:Shared}{H2:Hp}{C:Addr}
theorem oF {h h' B:Heap}{C:Addr}(sb:Heap.SameBut C h h'):∀{l:List Env},(∀b∈lY l,b≠C)→h.FunFrames B l→h'.FunFrames (W.hideAll B [C]) l
 | [],_,_=>trivial
 | env::r,n,k=>by
  obtain⟨k1,⟨L,o,hf,hb,ho,hd⟩,k3⟩:=k;have mL:L∈lY (env::r):=mem_filterMap.mpr ⟨env,mem_cons_self ..,hf⟩;refine⟨k1,⟨L,o,hf,?_,(sb.2 L (n L mL)).trans ho,hd⟩,oF sb (fun b hb=>?_) k3⟩
  ·cases q:(W.hideAll B [C]).get? L with
   | none=>rfl
   | some o=>rw[W.of_hideAll _ q] at hb;cases hb
  ·obtain⟨e,he,hf⟩:=mem_filterMap.mp hb;exact n b (mem_filterMap.mpr ⟨e,mem_cons_of_mem _ he,hf⟩)
theorem yS {H':Hp}{a Cc L:Addr}(I2:L2.Inv X ae σ H2 s2)(f2:∀b∈fp,ig X ae H2 b)(hfl:∀b∈fp,b<s2.heap.objs.size)(hC:s2.heap.objs.size≤C)
  (hst:X.stack=X.env::X.outer) (hf:X.env.frame=some L) (fl:EC (ao X scope xs R fp s2 H2 C) H' a Cc s1) (hx:∀s4,EC X H' a Cc s4→X.xe (.ref a) s4) :
  notedBy (model X.prog X.w) X.A (ao X scope xs R fp s2 H2 C).env (fun x s'=>pc (model X.prog X.w) X.A X.xe use Q acc (ao X scope xs R fp s2 H2 C).env (.error x) s') (.ref a) s1:=by
 obtain⟨pins',σ',fl⟩:=fl;have hfr:X.A.frames=some (X.env::X.outer):=by rw[←hst];exact I2.ok.frames
 have out:∀(B:Heap) (a0:Value) (h4:Heap),L2.Inv (ao X scope xs R fp s2 H2 C) pins' σ' H' {s1 with heap:=h4}→H' a=none→Heap.HeldW B X.stack a (.ref Cc) a0 L h4→FS (ao X scope xs R fp s2 H2 C) pins' H' B→
   pc (model X.prog X.w) X.A X.xe use Q acc (ao X scope xs R fp s2 H2 C).env (.error (.ref a)) {s1 with heap:=h4}:=fun B a0 h4 I4 hn held cov=>by
  obtain⟨m,hnC,_⟩:=I4.loc;refine⟨m,hnC,fun h5 sb=>?_⟩;have hnC:h4.Ns C m:=hnC;have fC:ig X ae H' C:=I2.fpOk hC I4.free;have IX4:L2.Inv X ae σ H' {s1 with heap:=h4}:=I2.call' (ch:=fp) I4.os I4.base I4.hok I4.bare fun b hb=>⟨(f2 b hb).2.2.2.1,(f2 b hb).2.1,(f2 b hb).2.2.2.2.1,(f2 b hb).2.2.2.2.2⟩
  have IX5:L2.Inv X ae σ H' {s1 with heap:=h5}:=IX4.turned (t':=s1.toks) (fun b o hb e=>(sb.2 b hb).trans e) fC.1 fC.2.1 fC.2.2.2.1 fC.2.2.2.2.1 fC.2.2.2.2.2;have neC:∀b o us,h4.get? b=some o→o.data=.fields us→b≠C:=fun b o us e d z=>by
   obtain⟨o',es,ep,e1,e2,_⟩:=hnC;rw[z,e1] at e;cases e;rw[e2] at d;cases d
  have inB:∀b o,B.get? b=some o→b≠C→(W.hideAll B [C]).get? b=some o:=fun b o e n=>W.hideAll_get [C] e fun z=>n (by simpa using z)
  have old:∀b o,s2.heap.get? b=some o→b∉fp→b∉lY X.stack→∃o',(W.hideAll B [C]).get? b=some o':=fun b o e n1 n2=>by
   obtain⟨o',e'⟩:=cov.old b o e n1 n2;exact⟨o',inB b o' e' (Nat.ne_of_lt (Nat.lt_of_lt_of_le (Heap.lt_size e) hC))⟩
  have covX:FS X ae H' (W.hideAll B [C]):=by
   refine⟨fun b o e=>?_,fun p hp=>?_,fun b o e n1 n2=>?_⟩
   ·obtain⟨o',e'⟩:=cov.trk b o e;exact⟨o',inB b o' e' fun z=>by rw[z,fC.1] at e;cases e⟩
   ·obtain⟨e,n,ne,nf,d⟩:=I2.pin p hp;refine old p.1 p.2 e (fun z=>(f2 p.1 z).2.2.2.2.2 p hp rfl) fun z=>?_
    rcases mem_cons.mp (I2.stkSub _ z) with q|q
    ·exact ne q
    ·exact nf q
   ·obtain⟨o',e'⟩:=I2.base.there b o e n1;refine old b o' e' (fun z=>?_) n2;rcases(f2 b z).2.2.2.1 with q|q
    ·exact n1 q
    ·exact absurd (Heap.lt_size e) (Nat.not_lt.mpr q)
  obtain⟨g1,g2,g3,oe,vs,T,oT,ts,e1,cl,d1,v1,nT,Ta,e2,d2,v3⟩:=held;have hid:∀b,B.get? b=none→(W.hideAll B [C]).get? b=none:=fun b e=>by
   cases q:(W.hideAll B [C]).get? b with
   | none=>rfl
   | some o=>rw[W.of_hideAll _ q] at e;cases e
  have held5:Heap.HeldW (W.hideAll B [C]) X.stack a (.ref Cc) a0 L h5:=by
   refine⟨fun b o q=>?_,hid a g2,?_,oe,vs,T,oT,ts,(sb.2 a (neC a oe vs e1 d1)).trans e1,cl,d1,v1,hid T nT,Ta,(sb.2 T (neC T oT ts e2 d2)).trans e2,d2,v3⟩
   ·have hb:b≠C:=fun z=>by
     rw[z,W.hideAll_none [C] (by simp)] at q;cases q
    exact(sb.2 b hb).trans (g1 b o (W.of_hideAll _ q))
   ·exact oF sb (fun b hb z=>by
     rcases mem_cons.mp (I2.stkSub b hb) with q|q
     ·exact absurd I2.lt (Nat.not_lt.mpr (by rw[←q,z];exact hC))
     ·exact I2.nofs hC (by have z:b=C:=z;rw[←z];exact q)) g3
  refine zy (s:={s1 with heap:=h5}) (L:=L) hf held5 fun h6 held6 up6=>?_
  exact hx _ ⟨ae,σ,.inr (.inr ⟨lM IX5 covX held5.1 held6.1 up6,hn,_,a0,L,hf,held6,covX⟩)⟩
 unfold notedBy;rw[yM (v1:=(ao X scope xs R fp s2 H2 C).env) (v2:=X.env) rfl];rcases fl with⟨h,vs,I,m⟩|⟨I,hn,B,a0,fl,cov⟩|⟨I,hn,B,a0,L',hL,held,cov⟩
 ·have cov:=vA I;have hid:∀b o,(W.hideAll h (lY X.stack)).get? b=some o→h.get? b=some o:=fun b o q=>W.of_hideAll _ q
  have ff:h.FunFrames (W.hideAll h (lY X.stack)) (X.env::X.outer):=by rw[←hst];exact nE I
  refine wX hfr hf hid ff m fun h4 t held4 up4=>?_
  rw[←hst] at held4;exact out _ _ h4 (lM (s:=s1) (I.kept (t':=s1.toks) (h':=s1.heap) m.keeps) cov (fun b o q=>m.keeps b o (hid b o q)) held4.1 up4) (rk I m) held4 cov
 ·have fl':Heap.FlyingW B (X.env::X.outer) a (.ref Cc) a0 s1.heap:=by rw[←hst];exact fl
  refine wpAny_looks_onW hfr hf fl' fun h4 held4 up4=>?_
  rw[←hst] at held4;exact out B a0 h4 (lM I cov fl.1 held4.1 up4) hn held4 cov
 ·have hL':X.env.frame=some L':=hL;have e:L'=L:=by rw[hf] at hL';cases hL';rfl
  subst e;exact wpAny_noteFrame_againW hf held.2.2.2 (out B a0 _ I hn held cov)
end
def bO (t:iM)(n:Nat)(sg:GG)(gc:GT)(ge:GE):List D→bI→au→aO (List D)
 | [],ρ,M=>if t.ok M then .ok [] M else .bad
 | d::r,ρ,M=>if t.ok M then
   match sg d (List.replicate n none++ρ) with
   | none=>.bad
   | some ρ1=>match gc ρ1 M with
    | .ok true M1=>match ge ρ1 M1 with
     | .ok e M2=>(bO t n sg gc ge r ρ M2).bind fun es M3=>.ok (e::es) M3
     | .err c M2=>.err c M2
     | .bad=>.bad
    | .ok false M1=>bO t n sg gc ge r ρ M1
    | _=>.bad
  else .bad
def cB (X:Cx)(scope:Scope)(xs:List Str)(R:List Str)(fp:List Addr)(s:Shared)(H:Hp)(C:Addr):Cx:=
 {ao X scope xs R fp s H C with xe:=fun e s'=>∃a Cc c θ' H' M',e=.ref a∧nD X.K c Cc∧Wr X.K θ' H' M'∧cj X θ' H' c M'∧EC (ao X scope xs R fp s H C) H' a Cc s'}
variable{fp:List Addr}{s2:Shared}{H2 H:Hp}{C:Addr}{pins':List (Addr×Obj)}{σ':L2.St}
section
variable {X:Cx}{ae:List (Addr×Obj)}{σ:L2.St}{s:Shared}{scope:Scope}{xs:List Str}{tg:Expr}{sg:GG}{R:List Str}{elt iter:Expr}{ifs:List Expr}{pos:Pos}{E:Value→Shared→Prop}
theorem EK (I:L2.Inv (ao X scope xs R fp s2 H2 C) pins' σ' H s):L2.Inv (cB X scope xs R fp s2 H2 C) pins' σ' H s:=
 have k:=I.ok
 ⟨⟨k.mod,k.kind,k.glob,k.blt,k.above,k.inj,k.has,k.cab,k.hd,k.frames,k.stk,k.exf,k.bs,k.bsz,k.noex,k.exfs,k.funs,k.frf⟩,I.os,I.bare,I.base,I.loc,I.cell,I.free,I.freeC,I.pin,I.hok,I.len⟩
theorem n6 (I:L2.Inv (cB X scope xs R fp s2 H2 C) pins' σ' H s):L2.Inv (ao X scope xs R fp s2 H2 C) pins' σ' H s:=
 have k:=I.ok
 ⟨⟨k.mod,k.kind,k.glob,k.blt,k.above,k.inj,k.has,k.cab,k.hd,k.frames,k.stk,k.exf,k.bs,k.bsz,k.noex,k.exfs,k.funs,k.frf⟩,I.os,I.bare,I.base,I.loc,I.cell,I.free,I.freeC,I.pin,I.hok,I.len⟩
theorem Cj {a Cc:Addr}(fl:EC (cB X scope xs R fp s2 H2 C) H a Cc s):EC (ao X scope xs R fp s2 H2 C) H a Cc s:=by
 obtain⟨p,q,fl⟩:=fl;refine⟨p,q,?_⟩;rcases fl with⟨h,vs,I,m⟩|⟨I,hn,B,a0,fl,cov⟩|⟨I,hn,B,a0,L,hL,held,cov⟩
 ·exact .inl ⟨h,vs,n6 I,m⟩
 ·exact .inr (.inl ⟨n6 I,hn,B,a0,fl,cov.trk,cov.pin,cov.old⟩)
 ·exact .inr (.inr ⟨n6 I,hn,B,a0,L,hL,held,cov.trk,cov.pin,cov.old⟩)
theorem yL {θ:List Addr}{c:Str}{M:au}(h:cj X θ H c M):cj (cB X scope xs R fp s2 H2 C) θ H c M:=
 fun Cc θ' H' a s' kC g fl=>⟨a,Cc,c,θ',H',M,rfl,kC,g.wr,cj.go g h,Cj fl⟩
theorem vZ {L:Addr}{e:Value}(I2:L2.Inv X ae σ H2 s2)(f2:∀b∈fp,ig X ae H2 b)(hfl:∀b∈fp,b<s2.heap.objs.size)(hC:s2.heap.objs.size≤C)
  (hst:X.stack=X.env::X.outer) (hf:X.env.frame=some L) (h:(cB X scope xs R fp s2 H2 C).xe e s1) :
  notedBy (model X.prog X.w) X.A (ao X scope xs R fp s2 H2 C).env (fun x s'=>pc (model X.prog X.w) X.A X.xe use Q acc (ao X scope xs R fp s2 H2 C).env (.error x) s') e s1:=by
 obtain⟨a,Cc,c,θ',H',M',rfl,kC,hw,ok,fl⟩:=h;exact yS I2 f2 hfl hC hst hf fl fun s4 f4=>ok Cc θ' H' a s4 kC (.refl hw) f4
theorem im {it:Addr}{tn:Nat→Heap→Prop}{J:It}{t:iM}{M1:au}{θ1:List Addr}{ρ:bI}{gc:GT}{ge:GE}{o:aO (List D)}{use:Option (Value→Sem Unit)}{QQ:Value→Shared→Prop}{Lf:Addr}
  (S:bo scope X.env.kindOf xs R X.N) (hc:X.calm=true) (I2:L2.Inv X ae σ H2 s2) (T:vm X.prog X.w X.K tg J fp it tn) (st2:tn 0 s2.heap) (f2:∀b∈fp,ig X ae H2 b)
  (hw1:Wr X.K θ1 H2 M1) (hd1:jp X.K θ1 H2 σ ρ) (hJ:wQ X.K J θ1 H2 t) (hst:X.stack=X.env::X.outer) (hfr:X.env.frame=some Lf) (hgo:bO t xs.length sg gc ge t.ds ρ M1=o) (hbad:o≠.bad) (hroom:t.ds.length≤sizeLine) (hlen:∀es Mend,o=.ok es Mend→es.length≤sizeLine) (herr:∀c Mend,o=.err c Mend→cj X θ1 H2 c Mend)
  (hcd:∀C,∃cond,(forIn (m:=Sem) ifs true fun c r=>if r=true then do let ok ←isTrue c (ao X scope xs R fp s2 H2 C).env (eval c (ao X scope xs R fp s2 H2 C).env);pure (ForInStep.yield ok) else pure (ForInStep.yield r))=cond∧
   ∀(ae:List (Addr×Obj)) (s:Shared) (σ:L2.St) (H:Hp) (Q:Bool→Hp→Prop),L2.Inv (ao X scope xs R fp s2 H2 C) ae σ H s→tT (ao X scope xs R fp s2 H2 C) gc σ H Q→wpAny (model X.prog X.w) X.A cond (TP (ao X scope xs R fp s2 H2 C) ae σ Q) (fun _ _=>False) s)
  (own:m5 xs.length sg) (hg:∀C,PG (ao X scope xs R fp s2 H2 C) tg (tG (ao X scope xs R fp s2 H2 C) sg))
  (he:∀C,PE (cB X scope xs R fp s2 H2 C) elt (tE (cB X scope xs R fp s2 H2 C) ge))
  (fin:∀(es:List D) (Mend:au),o=.ok es Mend→∀(acc C:Addr) (s':Shared) (H':Hp) (θ':List Addr) (vs:List V) (m:Str→Option Value),L2.Inv X ae σ (cA H' acc (.lst vs)) s'→s'.heap.Ns C m→ig X ae (cA H' acc (.lst vs)) C→Go X.K θ1 H2 θ' H' Mend→H' acc=none→ba X.K θ' H' es vs→compPost (model X.prog X.w) X.A X.xe use QQ (.ref acc) C (.ok .next) s') :
  wpAny (model X.prog X.w) X.A (newList []) (fun acc s₃=>wpAny (model X.prog X.w) X.A (newFunctionEnv scope X.env.globals (cU X.env.cells scope.names []) [] X.env.qual none .none (some X.env)) (fun cenv s₄=>
   codeAny (model X.prog X.w) X.A (.compStart (.ListComp elt [⟨tg,iter,ifs,0⟩] scope pos) 0 (.ref it) acc {cenv with scope:=relabel scope X.env}) (pc (model X.prog X.w) X.A X.xe use QQ acc {cenv with scope:=relabel scope X.env}) s₄) E s₃) E s2:=by
 refine wpAny_newObj_type (wpAny_newFunctionEnv S.nocell (by intro y hy;simp at hy) (fun h₁ hns₁ hsb₁=>?_) S.kind);dsimp only at hns₁ hsb₁ ⊢;generalize hHp:s2.heap.push {cls:=.type "list",dict:=none,data:=.seq ([]:List Value).toArray}=Hp2 at hns₁ hsb₁ ⊢;have hCe:Hp2.objs.size=s2.heap.objs.size+1:=by rw[←hHp,Heap.size_push]
 generalize hCd:Hp2.objs.size=C at hns₁ hsb₁ hCe ⊢;generalize hAd:s2.heap.objs.size=acc at hCe ⊢;have hDC:acc≠C:=by rw[hCe];exact Nat.ne_of_lt (Nat.lt_succ_self _)
 have old:∀b o,s2.heap.get? b=some o→h₁.get? b=some o:=fun b o e=>by
  have hb:b<acc:=by rw[←hAd];exact Heap.lt_size e
  refine hsb₁.extBut b o (yo hb hCe) (Heap.get?_push_of_some _ ?_);rw[←hHp];exact Heap.get?_push_of_some _ e
 have hacc0:h₁.get? acc=some (cp [] 0):=by
  refine hsb₁.extBut acc _ hDC (Heap.get?_push_of_some _ ?_);rw[←hHp,←hAd];exact Heap.get?_push_size _ rfl
 have hfl:∀b∈fp,b<s2.heap.objs.size:=fun b hb=>by
  obtain⟨o,e,_⟩:=T.obj 0 _ st2 b hb;exact Heap.lt_size e
 have hCs:s2.heap.objs.size≤C:=by omega
 have IY0:L2.Inv (ao X scope xs R fp s2 H2 C) [] (List.replicate xs.length none++σ) H2 {s2 with heap:=h₁,toks:=s2.toks+([]:List (Str×Value)).length}:=oH S I2 hCs old hns₁ f2 hfl;obtain⟨cond,hcond,hct⟩:=hcd C;have fpY:∀{H':Hp} {p:Obj},(∀b∈fp,H' b=none)→∀b∈fp,ig (ao X scope xs R fp s2 H2 C) [(acc,p)] H' b:=fun {H' p} hn b hb=>by
  refine⟨hn b hb,?_,fun z=>?_,.inl hb,fun y c e=>?_,fun q hq=>?_⟩
  ·exact Nat.ne_of_lt (Nat.lt_of_lt_of_le (hfl b hb) hCs)
  ·rcases mem_cons.mp (I2.stkSub b z) with e|e
   ·exact(f2 b hb).2.1 e
   ·exact(f2 b hb).2.2.1 e
  ·exact(f2 b hb).2.2.2.2.1 y c (bK S I2 e)
  ·have hq:q∈([]:List (Addr×Obj))++[(acc,p)]:=hq;have e:q=(acc,p):=by simpa using hq
   rw[e];exact tU (hfl b hb) hAd
 have accF:∀b∈lY X.stack,acc≠b:=fun b hb e=>by
  have:acc∉X.env.locals::X.fs:=by
   intro z;rcases mem_cons.mp z with z|z
   ·exact tU I2.lt hAd z
   ·exact I2.nofs (Nat.le_of_eq hAd) z
  exact this (e▸I2.stkSub b hb)
 have loop:∀s₃:Shared,s₃={s2 with heap:=h₁,toks:=s2.toks+([]:List (Str×Value)).length}→
   codeAny (model X.prog X.w) X.A (.compLoop (.ListComp elt [⟨tg,iter,ifs,0⟩] scope pos) 0 (.ref it) (.ref acc) (ao X scope xs R fp s2 H2 C).env) (pc (model X.prog X.w) X.A X.xe use QQ (.ref acc) (ao X scope xs R fp s2 H2 C).env) s₃:=by
  rintro s₃ rfl;have pin0:∀{σ':L2.St} {H':Hp} {s':Shared} {its:List Value} {n:Nat},L2.Inv (ao X scope xs R fp s2 H2 C) [] σ' H' s'→s'.heap.get? acc=some (cp its n)→H' acc=none→L2.Inv (ao X scope xs R fp s2 H2 C) [(acc,cp its n)] σ' H' s':=fun {σ' H' s' its n} I' e hn=>
   I'.pins_of fun p hp=>by
    have ep:p=(acc,cp its n):=by simpa using hp
    subst ep;exact⟨e,hn,hDC,fun z=>accF acc z rfl,fun v z=>by cases z⟩
  refine jH (E0:=(cB X scope xs R fp s2 H2 C).xe) (fun e s' he'=>vZ I2 f2 hfl hCs hst hfr he') hcond (fun n s'=>∃(i:Nat) (τ:L2.St) (H':Hp) (θ':List Addr) (M':au) (ds:List D) (vs:List V) (its:List Value) (na:Nat),n=t.ds.length-i∧i≤t.ds.length∧
   L2.Inv (ao X scope xs R fp s2 H2 C) [(acc,cp its na)] τ H' s'∧jp X.K θ' H' τ (List.replicate xs.length none++ρ)∧tn i s'.heap∧(∀b∈fp,H' b=none)∧Go X.K θ1 H2 θ' H' M'∧ba X.K θ' H' ds vs∧aR vs its∧
   (bO t xs.length sg gc ge (t.ds.drop i) ρ M').bind (fun ap M3=>.ok (ds++ap) M3)=o∧ds.length≤i) ?_ t.ds.length
   ⟨0,_,H2,θ1,M1,[],[],[],0,rfl,Nat.zero_le _,pin0 IY0 hacc0 (I2.hok.fresh (Nat.le_of_eq hAd)),sQ hd1,T.keep 0 _ _ st2 (fun b hb o e=>old b o e),fun b hb=>(f2 b hb).1,.refl hw1,rfl,.nil,by rw[drop_zero,hgo];cases o <;> rfl,Nat.le_refl _⟩
  rintro n s' ⟨i,τ,H',θ',M',ds,vs,its,na,rfl,hil,I',dn',st',fr',g',rd',rv',hrest,hdl⟩;have hok:t.ok M'=true:=by
   cases hq:t.ok M' with
   | true=>rfl
   | false=>
    exfalso;cases hdr:t.ds.drop i with
    | nil=>rw[hdr,bO,if_neg (by rw[hq];exact Bool.false_ne_true)] at hrest;exact hbad hrest.symm
    | cons d r=>rw[hdr,bO,if_neg (by rw[hq];exact Bool.false_ne_true)] at hrest;exact hbad hrest.symm
  obtain⟨hy,hstop⟩:=hJ θ' H' M' g' hok i
  by_cases hlt:i<t.ds.length
  ·have e1:t.ds[i]?=some t.ds[i]:=getElem?_eq_getElem hlt;obtain⟨hgo',hyl⟩:=hy _ e1;rw[drop_eq_getElem_cons hlt,bO,if_pos hok] at hrest;refine cb (T.item (ao X scope xs R fp s2 H2 C) rfl rfl rfl hc i _ s' _ H' _ I' (fpY fr') st' hgo') fun r s4 hxx=>?_
   obtain⟨u,hr,h4⟩:=hxx;subst hr;refine cb h4 fun _ s5 hxx=>?_
   obtain⟨v,H5,I5,r5,y5,st5,fr5⟩:=hxx;obtain⟨gy,rx⟩:=hyl v H5 y5;have I5':=I5.pinned (fpY fr5) (T.obj _ _ st5);cases qs:sg t.ds[i] (List.replicate xs.length none++ρ) with
   | none=>rw[qs] at hrest;exact absurd hrest.symm hbad
   | some ρ1=>
   rw[qs] at hrest;dsimp only at hrest;refine cb (hg C _ s5 _ H5 v u (fun σ6 H6=>jp X.K θ' H6 σ6 ρ1∧H6=H5) I5' r5 ⟨_,θ',M',t.ds[i],dn'.go gy,gy.wr,rx,ρ1,qs,fun σ6 d6=>⟨d6,rfl⟩⟩) fun _ s6 hxx=>?_
   obtain⟨σ6,H6,I6,hdY,eH6⟩:=hxx;subst eH6;cases qc:gc ρ1 M' with
   | bad=>rw[qc] at hrest;exact absurd hrest.symm hbad
   | err c Mx=>rw[qc] at hrest;exact absurd hrest.symm hbad
   | ok b Mb=>
    refine cb (hct _ s6 _ H6 (fun b' H7=>b'=b∧∃θ7,Go X.K θ' H6 θ7 H7 Mb) I6 ⟨_,θ',M',hdY,gy.wr,?_⟩) fun ok s7 ⟨H7,I7,eb,θ7,g7⟩=>?_
    ·rw[qc];exact fun θ7 H7 g7=>⟨rfl,θ7,g7⟩
    subst eb;have fpk:∀{s8:Shared} {σ8:L2.St} {H8:Hp},L2.Inv (ao X scope xs R fp s2 H2 C) ([(acc,cp its na)]++nr fp s5.heap) σ8 H8 s8→(∀b∈fp,H8 b=none)∧(∀b∈fp,∀o,s5.heap.get? b=some o→s8.heap.get? b=some o)∧s8.heap.get? acc=some (cp its na)∧H8 acc=none:=fun {s8 σ8 H8} I8=>by
     have pa:=I8.pin (acc,cp its na) (mem_append_right _ (mem_append_left _ (by simp)));refine⟨fun b hb=>?_,fun b hb o e=>(I8.pin (b,o) (mem_append_right _ (mem_append_right _ (dR hb e)))).1,pa.1,pa.2.1⟩;obtain⟨o,e,d⟩:=T.obj _ _ st5 b hb;exact(I8.pin (b,o) (mem_append_right _ (mem_append_right _ (dR hb e)))).2.1
    cases ok with
    | false=>
     rw[if_neg Bool.false_ne_true];rw[qc] at hrest;obtain⟨k1,k2,k3,k4⟩:=fpk I7;exact⟨t.ds.length-(i+1),by omega,i+1,σ6,H7,θ7,Mb,ds,vs,its,na,rfl,hlt,I7.unpinned,own.back qs (hdY.go g7),T.keep _ _ _ st5 k2,k1,g'.trans (gy.trans g7),rd'.go (gy.trans g7),rv',hrest,Nat.le_succ_of_le hdl⟩
    | true=>
     rw[if_pos rfl];rw[qc] at hrest;have hrest:(match ge ρ1 Mb with
      | .ok e M2=>(bO t xs.length sg gc ge (t.ds.drop (i+1)) ρ M2).bind fun es M3=>.ok (e::es) M3
      | .err c M2=>.err c M2
      | .bad=>.bad:aO (List D)).bind (fun ap M3=>aO.ok (ds++ap) M3)=o:=hrest
     cases qe:ge ρ1 Mb with
     | bad=>rw[qe] at hrest;exact absurd hrest.symm hbad
     | err c Mx=>
      rw[qe] at hrest;have eo:o=.err c Mx:=hrest.symm;refine wpAny_mono (he C _ s7 _ H7 (fun _ _=>False) (EK I7) ⟨_,θ7,Mb,hdY.go g7,g7.wr,?_⟩) (fun _ _ z=>by obtain⟨_,_,_,_,z⟩:=z;exact z.elim) fun _ _ z=>z
      rw[qe];exact yL (cj.go (g'.trans (gy.trans g7)) (herr c Mx eo))
     | ok dv Mv=>
      rw[qe] at hrest;have hrest:(((bO t xs.length sg gc ge (t.ds.drop (i+1)) ρ Mv).bind fun es M3=>aO.ok (dv::es) M3):aO (List D)).bind (fun ap M3=>aO.ok (ds++ap) M3)=o:=hrest;have hrest:(bO t xs.length sg gc ge (t.ds.drop (i+1)) ρ Mv).bind (fun ap M3=>aO.ok ((ds++[dv])++ap) M3)=o:=by
       rw[←hrest];cases bO t xs.length sg gc ge (t.ds.drop (i+1)) ρ Mv with
       | ok r M3=>show aO.ok ((ds++[dv])++r) M3=aO.ok (ds++(dv::r)) M3;rw[append_assoc];rfl
       | err c M3=>rfl
       | bad=>rfl
      refine cb (he C _ s7 _ H7 (fun w H8=>∃θ8,Go X.K θ7 H7 θ8 H8 Mv∧cP X.K θ8 H8 dv w) (EK I7) ⟨_,θ7,Mb,hdY.go g7,g7.wr,?_⟩) fun uv s8 ⟨w,H8,I8E,rw8,θ8,g8,rd8⟩=>?_
      ·rw[qe];exact fun w θ8 H8 g8 rd8=>⟨θ8,g8,rd8⟩
      have I8:=n6 I8E;obtain⟨k1,k2,k3,k4⟩:=fpk I8;have hsz:its.length<sizeLine:=by
       have e2:ds.length=its.length:=by rw[ay rd',rv'.length]
       omega
      refine call_meets F.slot_list_append ⟨_,k3,rfl⟩ F.entry_list_append (F.args_list_append_2 _ _) (PySem.list_append acc its.toArray na uv (by rw[size_toArray];omega)) ⟨k3,?_⟩;have qup:=PySem.IsL.update k3 (fun a=>a.push uv);have eup:(its.toArray.push uv)=(its++[uv]).toArray:=by simp
      have keepb:∀b o,b≠acc→s8.heap.get? b=some o→(s8.heap.update acc (Obj.mapSeq fun a=>a.push uv)).get? b=some o:=fun b o hb e=>(Heap.get?_update_other s8.heap _ (Ne.symm hb)).trans e
      have I9:L2.Inv (ao X scope xs R fp s2 H2 C) [] σ6 H8 {s8 with heap:=s8.heap.update acc (Obj.mapSeq fun a=>a.push uv),toks:=s8.toks}:=by
       refine Inv.turned (it:=acc) (I8.pins_of (pins':=[]) fun p hp=>absurd hp (by simp)) keepb k4 hDC (.inr (Nat.le_of_eq hAd)) (fun y c e z=>?_) fun p hp=>absurd (show p∈([]:List (Addr×Obj)) from hp) (by simp)
       obtain⟨v',o,ho,hdd⟩:=I2.cell y c (bK S I2 e);exact kB (Heap.lt_size ho) hAd z
      obtain⟨n',eq'⟩:∃n',(s8.heap.update acc (Obj.mapSeq fun a=>a.push uv)).get? acc=some (cp (its++[uv]) n'):=by
       have q2:=qup;rw[eup] at q2;exact⟨_,q2⟩
      exact⟨t.ds.length-(i+1),by omega,i+1,σ6,H8,θ8,Mv,ds++[dv],vs++[w],its++[uv],n',rfl,hlt,pin0 I9 eq' k4,own.back qs (hdY.go (g7.trans g8)),T.keep _ _ _ st5 (fun b hb o e=>keepb b o (kB (hfl b hb) hAd) (k2 b hb o e)),k1,g'.trans (gy.trans (g7.trans g8)),cG (rd'.go (gy.trans (g7.trans g8))) ⟨w,[],rfl,rd8,rfl⟩,rv'.append (.cons rw8 .nil),hrest,by rw[length_append,length_singleton];omega⟩
  ·have e:i=t.ds.length:=by omega
   subst e;rw[drop_length,bO,if_pos hok] at hrest;have eo:o=.ok ds M':=by rw[←hrest];show aO.ok (ds++[]) M'=_;rw[append_nil]
   refine cb (T.done (ao X scope xs R fp s2 H2 C) rfl rfl rfl hc _ _ s' _ H' _ I' (fpY fr') st' (hstop (Nat.le_refl _))) fun r s4 hxx=>?_
   obtain⟨hr,I4⟩:=hxx;subst hr;have pa:=I4.pin (acc,cp its na) (mem_append_right _ (by simp));have e4:s4.heap.get? acc=some (cp its na):=pa.1;have n4:H' acc=none:=pa.2.1;have lv:vs.length≤sizeLine:=by rw[←ay rd'];exact hlen ds M' eo
   obtain⟨mC,hnC,_⟩:=I4.loc;have hHC:H' C=none:=I4.free;have ue:Un (lY X.stack) fp H2 H' s2.heap s4.heap:=I4.base;have neA:∀{b:Addr} {o:Obj},s2.heap.get? b=some o→b≠acc:=fun {b o} e=>kB (Heap.lt_size e) hAd
   have neH:∀{b:Addr} {u:HO},H' b=some u→b≠acc:=fun {b u} e z=>by rw[z,n4] at e;cases e
   have un4:Un (lY X.stack) fp H2 (cA H' acc (.lst vs)) s2.heap s4.heap:=by
    refine⟨ue.keep,ue.slot,fun b o e n hx=>?_,ue.there,fun b xs e=>?_,fun b o u e=>?_,fun b ps e=>?_⟩
    ·rw[aK (neA e)];exact ue.free b o e n hx
    ·have z:=ue.tups b xs e;rw[aK (neH z)];exact z
    ·have z:=ue.frzs b o u e;rw[aK (neH z)];exact z
    ·obtain⟨more,z⟩:=ue.tbls b ps e;exact⟨more,by rw[aK (neH z)];exact z⟩
   have hok4:lu X.prog X.w (cA H' acc (.lst vs)) s4.heap:=fun b u e=>by
    by_cases hb:b=acc
    ·subst hb;rw[dL] at e;cases e;exact⟨lv,its,na,rv',e4⟩
    ·rw[aK hb] at e;exact(I4.hok b u e).stay (fun c v _ q=>q) (fun c q=>by rw[aK (neH q)];exact q) fun c xs q=>by rw[aK (neH q)];exact q
   have IX:L2.Inv X ae σ (cA H' acc (.lst vs)) s4:=I2.call' (ch:=fp) I4.os un4 hok4 I4.bare fun b hb=>⟨(f2 b hb).2.2.2.1,(f2 b hb).2.1,(f2 b hb).2.2.2.2.1,(f2 b hb).2.2.2.2.2⟩
   refine fin ds M' eo acc C s4 H' θ' vs mC IX hnC (I2.fpOk hCs ?_) g' n4 rd';rw[aK (Ne.symm hDC)];exact hHC
 exact codeAny_compStart_list (loop _ rfl) (T.self _ 0 _ _ _ (T.keep 0 _ _ st2 fun b hb o e=>old b o e) (loop _ rfl))
end
def bM (gi:GI)(n:Nat)(sg:GG)(gc:GT)(ge:GE)(mk:List D→au→aO D):GE:=fun ρ M=>(gi ρ M).bind fun t M1=>if t.ds.length≤sizeLine then(bO t n sg gc ge t.ds ρ M1).bind mk else .bad
variable{mk:List D→au→aO D}{y:Str}
section
variable {X:Cx}{scope:Scope}{xs:List Str}{tg:Expr}{sg:GG}{x:Str}{px:Pos}{R:List Str}{elt iter:Expr}{ifs:List Expr}{pos:Pos}{gi:GI}{gc:GT}{ge:GE}
theorem Bt (hS:bi scope X.env.kindOf xs R X.N=true)(hst:X.stack=X.env::X.outer)(hfr:X.env.frame=some X.env.locals)(hc:X.calm=true)(hm:mk=aA∨mk=b0)(hi:PI X tg iter (tI X gi))(own:m5 xs.length sg)(hg:∀fp s H C,PG (ao X scope xs R fp s H C) tg (tG (ao X scope xs R fp s H C) sg))(hts:ik X scope xs R ifs gc)
  (he:∀fp s H C,PE (cB X scope xs R fp s H C) elt (tE (cB X scope xs R fp s H C) ge))
  (hs:∀x,foldedSetIterable iter X.env x=pure x:=by intro _;rfl):PE X (.ListComp elt [⟨tg,iter,ifs,0⟩] scope pos) (tE X (bM gi xs.length sg gc ge mk)):=by
 have S:=bo.of hS;intro ae s σ H Q I h;obtain⟨ρ,θ,M,hd,hw,h⟩:=h;rw[eval_ListComp];refine kU (use:=none) rfl hs (eP (S.cells I)) S.kind S.lnames ?_;refine cb (hi ae s σ H (fun J H2=>∃t M1 θ1,gi ρ M=.ok t M1∧Go X.K θ H θ1 H2 M1∧wQ X.K J θ1 H2 t) I ⟨ρ,θ,M,hd,hw,?_⟩) fun v s1 h1=>cb h1 fun itv s2 h2=>?_
 ·cases q:gi ρ M with
  | ok t M1=>exact fun J θ1 H1 g1 hJ=>⟨t,M1,θ1,rfl,g1,hJ⟩
  | err c M1=>unfold bM at h;rw[q] at h;exact h
  | bad=>unfold bM at h;rw[q] at h;exact h
 obtain⟨it,fp,tn,J,H2,rfl,I2,T,st2,f2,t,M1,θ1,eg,g1,hJ⟩:=h2;unfold bM at h;rw[eg] at h;have h:aE X θ H Q (if t.ds.length≤sizeLine then(bO t xs.length sg gc ge t.ds ρ M1).bind mk else .bad):=h
 by_cases hroom:t.ds.length≤sizeLine
 case neg=>rw[if_neg hroom] at h;exact h.elim
 rw[if_pos hroom] at h;cases q:bO t xs.length sg gc ge t.ds ρ M1 with
 | bad=>rw[q] at h;exact h.elim
 | err c Mx=>
  rw[q] at h;have h:cj X θ H c Mx:=h;exact im (use:=none) (QQ:=EP X ae σ Q) S hc I2 T st2 f2 g1.wr (hd.go g1) hJ hst hfr q (fun z=>by cases z) hroom (fun _ _ z=>by cases z) (fun c' M' z=>by cases z;exact cj.go g1 h) (fun C=>hts fp s2 H2 C) own (fun C=>hg fp s2 H2 C) (fun C=>he fp s2 H2 C) fun _ _ z=>by cases z
 | ok es Mend=>
  rw[q] at h;have h:aE X θ H Q (mk es Mend):=h;refine im (use:=none) (QQ:=EP X ae σ Q) S hc I2 T st2 f2 g1.wr (hd.go g1) hJ hst hfr q (fun z=>by cases z) hroom (fun _ _ z=>by cases z;exact uB hm h) (fun _ _ z=>by cases z) (fun C=>hts fp s2 H2 C) own (fun C=>hg fp s2 H2 C) (fun C=>he fp s2 H2 C) ?_;intro es' Mend' eo;cases eo;intro acc C s' H' θ' vs m IX hnC fC g' na rd;refine⟨m,hnC,fun h' sb=>?_⟩;have I3:L2.Inv X ae σ (cA H' acc (.lst vs)) {s' with heap:=h',toks:=s'.toks}:=IX.turned (it:=C) (fun b o hb e=>(sb.2 b hb).trans e) fC.1 fC.2.1 fC.2.2.2.1 fC.2.2.2.2.1 fC.2.2.2.2.2;exact⟨.ref acc,_,I3,rfl,(yk hm X θ' H' Q es Mend vs (aE.go (g1.trans g') h) g'.wr rd).2 acc na⟩
theorem uU {j:Nat}{py spos:Pos}(hS:bi scope X.env.kindOf xs R X.N=true)(hst:X.stack=X.env::X.outer)(hfr:X.env.frame=some X.env.locals)(hc:X.calm=true)(hm:mk=aA∨mk=b0)(hi:PI X tg iter (tI X gi))(own:m5 xs.length sg)(hg:∀fp s H C,PG (ao X scope xs R fp s H C) tg (tG (ao X scope xs R fp s H C) sg))(hts:ik X scope xs R ifs gc)
  (he:∀fp s H C,PE (cB X scope xs R fp s H C) elt (tE (cB X scope xs R fp s H C) ge))
  (hN:X.N.Nodup) (hj:X.N[j]?=some y) (hy:X.env.scope.names.lookup y=some .local)
  (hsw:swapsWith (.ListComp elt [⟨tg,iter,ifs,0⟩] scope pos) (some (.Name y py)) spos.line X.env=pure true)
  (hs:∀x,foldedSetIterable iter X.env x=pure x:=by intro _;rfl):PS X (.Assign [.Name y py] (.ListComp elt [⟨tg,iter,ifs,0⟩] scope pos) spos) (tS X (aF j (bM gi xs.length sg gc ge mk))):=by
 have S:=bo.of hS;intro ae s σ H Q I h;obtain⟨ρ,θ,M,hd,hw,h⟩:=h;rw[exec_Assign_Name_used _ _ _ _ hsw];refine wpAny_bind (wpAny_standAt (wpAny_bind ?_));show wpAny _ X.A (do let _ ←comprehension (.ListComp elt [⟨tg,iter,ifs,0⟩] scope pos) scope X.env _ (newList []) false (eval iter X.env) (some (assign (.Name y py) X.env))) _ _ s;refine wpAny_bind (wpAny_mono (kU (use:=some (assign (.Name y py) X.env)) (Q:=fun _ s'=>SP X ae Q .next s') rfl hs (eP (S.cells I)) S.kind S.lnames ?_) (fun _ s' hq=>wpAny_pure (wpAny_pure hq)) fun _ _ e=>e);refine cb (hi ae s σ H (fun J H2=>∃t M1 θ1,gi ρ M=.ok t M1∧Go X.K θ H θ1 H2 M1∧wQ X.K J θ1 H2 t) I ⟨ρ,θ,M,hd,hw,?_⟩) fun v s1 h1=>cb h1 fun itv s2 h2=>?_
 ·cases q:gi ρ M with
  | ok t M1=>exact fun J θ1 H1 g1 hJ=>⟨t,M1,θ1,rfl,g1,hJ⟩
  | err c M1=>unfold aF bM at h;rw[q] at h;exact h
  | bad=>unfold aF bM at h;rw[q] at h;exact h
 obtain⟨it,fp,tn,J,H2,rfl,I2,T,st2,f2,t,M1,θ1,eg,g1,hJ⟩:=h2;unfold aF bM at h;rw[eg] at h;have h:dm X θ H Q ((if t.ds.length≤sizeLine then(bO t xs.length sg gc ge t.ds ρ M1).bind mk else .bad).bind fun d M2=>.ok (.nx (ρ.set j (some d))) M2):=h
 by_cases hroom:t.ds.length≤sizeLine
 case neg=>rw[if_neg hroom] at h;exact h.elim
 rw[if_pos hroom] at h;cases q:bO t xs.length sg gc ge t.ds ρ M1 with
 | bad=>rw[q] at h;exact h.elim
 | err c Mx=>
  rw[q] at h;have h:cj X θ H c Mx:=h;exact im (use:=some (assign (.Name y py) X.env)) (QQ:=fun _ s'=>SP X ae Q .next s') S hc I2 T st2 f2 g1.wr (hd.go g1) hJ hst hfr q (fun z=>by cases z) hroom (fun _ _ z=>by cases z) (fun c' M' z=>by cases z;exact cj.go g1 h) (fun C=>hts fp s2 H2 C) own (fun C=>hg fp s2 H2 C) (fun C=>he fp s2 H2 C) fun _ _ z=>by cases z
 | ok es Mend=>
  rw[q] at h;have h:dm X θ H Q ((mk es Mend).bind fun d M2=>.ok (.nx (ρ.set j (some d))) M2):=h;have hE:aE X θ H (fun v H'=>∃θ' M',Go X.K θ H θ' H' M'∧∃d,mk es Mend=.ok d M'∧cP X.K θ' H' d v) (mk es Mend):=by
   cases qm:mk es Mend with
   | ok d M2=>exact fun v θ' H' g' r=>⟨θ',M2,g',d,rfl,r⟩
   | err c M2=>rw[qm] at h;exact h
   | bad=>rw[qm] at h;exact h
  refine im (use:=some (assign (.Name y py) X.env)) (QQ:=fun _ s'=>SP X ae Q .next s') S hc I2 T st2 f2 g1.wr (hd.go g1) hJ hst hfr q (fun z=>by cases z) hroom (fun _ _ z=>by cases z;exact uB hm hE) (fun _ _ z=>by cases z) (fun C=>hts fp s2 H2 C) own (fun C=>hg fp s2 H2 C) (fun C=>he fp s2 H2 C) ?_;intro es' Mend' eo;cases eo;intro acc C s' H' θ' vs m IX hnC fC g' na rd;obtain⟨θe,Me,ge',d,ed,rde⟩:=(yk hm X θ' H' _ es Mend vs (aE.go (g1.trans g') hE) g'.wr rd).2 acc na;show wpAny _ X.A (assign (.Name y py) X.env (.ref acc)) _ _ s';refine wpAny_assign_Name (kH IX hN hj (.inl hy) (v:=.ref acc) rfl (fun s3 I3 hxx=>?_) (.inr hy));obtain⟨a,sa,ha⟩:=hxx;have hCa:C≠a:=by
   rcases ha with e|e
   ·rw[e];exact fC.2.1
   ·exact fun z=>fC.2.2.2.2.1 y a e z.symm
  refine⟨m,hnC.sameBut sa hCa,fun h' sb=>?_⟩;have I4:L2.Inv X ae (σ.set j (some (.ref acc))) (cA H' acc (.lst vs)) {s3 with heap:=h',toks:=s3.toks}:=I3.turned (it:=C) (fun b o hb e=>(sb.2 b hb).trans e) fC.1 fC.2.1 fC.2.2.2.1 fC.2.2.2.2.1 fC.2.2.2.2.2;rw[ed] at h;exact⟨_,_,I4,h _ θe _ ge' ((hd.go ge').set rde j)⟩
end
structure QE (X:Cx)(e:Expr)(g:GE):Prop where
 h:PE X e (tE X g)
structure QT (X:Cx)(e:Expr)(g:GT):Prop where
 h:PT X e (tT X g)
structure QW (X:Cx)(e:Expr)(g:GT):Prop where
 h:PW X e (tT X g)
structure QA (X:Cx)(es:List Expr)(g:GA):Prop where
 h:PA X es (tA X g)
structure QS (X:Cx)(st:Stmt)(g:GS):Prop where
 h:PS X st (tS X g)
structure QB (X:Cx)(st:List Stmt)(g:GS):Prop where
 h:PSs X st (tS X g)
structure QI (X:Cx)(tg e:Expr)(g:GI):Prop where
 h:PI X tg e (tI X g)
structure QG (X:Cx)(tg:Expr)(s:GG):Prop where
 h:PG X tg (tG X s)
structure J0 (X:Cx)(tgs:List Expr)(is:List Nat):Prop where
 h:CJ X tgs (Ka X is)
structure QP (X:Cx)(e:Option Expr)(g:GO):Prop where
 h:PO X e (tO X g)
structure Q2 (X:Cx)(f:Value→Value→Sem Value)(F:F2):Prop where
 h:fo X f (rD X F)
structure QC (X:Cx)(f:Value)(F:FD):Prop where
 h:cV X f (rC X F)
structure xY (X:Cx)(scope:Scope)(xs:List Str)(R:List Str)(ifs:List Expr)(gc:GT):Prop where
 h:ik X scope xs R ifs gc
structure QO (n:Nat)(sg:GG):Prop where
 h:m5 n sg
variable{k:Nat}{f:F2}{op:CmpOp}{tg:Expr}{xs:List Str}{is:List Nat}{sg:GG}
section
variable {X:Cx}{e a b c o i:Expr}{es ap:List Expr}{x:Str}{p p2 pos pos':Pos}{g ga gb gc go gi ge:GE}{ta tb:GT}{gA:GA}
theorem JW:Q2 X (binaryOp .Add) bh:=⟨FV⟩
theorem Hy:Q2 X (binaryOp .Add) p6:=⟨Dn⟩
theorem IS:Q2 X (binaryOp .Sub) nu:=⟨Gp⟩
theorem J8:Q2 X (binaryOp .Mult) d9:=⟨Ho⟩
theorem GB:Q2 X (binaryOp .FloorDiv) fN:=⟨Cm⟩
theorem J1:Q2 X (binaryOp .Mod) ie:=⟨Ft⟩
theorem Iv:Q2 X (binaryOp .Pow) pV:=⟨EW⟩
theorem Lo:Q2 X (compareOp .Lt) p0:=⟨Ke⟩
theorem LY:Q2 X (compareOp .LtE) lL:=⟨JE⟩
theorem Lq:Q2 X (compareOp .Gt) yj:=⟨IY⟩
theorem LM:Q2 X (compareOp .GtE) CS:=⟨Kj⟩
theorem LV (hr:d7 k X.A):Q2 X (compareOp .Eq) (bj false):=⟨JN hr.units⟩
theorem KZ (hr:d7 k X.A):Q2 X (compareOp .NotEq) (bj true):=⟨Je hr.units⟩
theorem Lc:Q2 X (compareOp .Is) (sL false):=⟨Jk⟩
theorem II:QC X (.builtin "len") bx:=⟨Hu⟩
theorem Jd (hc:X.calm=true:=by rfl):QC X (.builtin "min") wz:=⟨EY hc⟩
theorem Ko (hc:X.calm=true:=by rfl):QC X (.builtin "all") jG:=⟨FR hc⟩
theorem JL (hc:X.calm=true:=by rfl):QC X (.builtin "any") zM:=⟨G4 hc⟩
theorem Ij:QC X (.type "int") pU:=⟨Bf⟩
theorem GK:QC X (.type "list") mZ:=⟨DH⟩
theorem CO:QC X (.type "tuple") bL:=⟨Bz⟩
theorem qv (i:Nat){x:Str}{pos:Pos}(hN:X.N[i]?=some x:=by rfl)(hv:Fh X.env.scope x:=by first|exact Or.inl rfl|exact Or.inr (Or.inl rfl)|exact Or.inr (Or.inr rfl))(hd:(x==("__debug__":Str))=false:=by decide)
  (hcd:(x==("__classdict__":Str))=false:=by decide):QE X (.Name x pos) (af i):=⟨vv i hN hv hd hcd⟩
theorem F4 {i:Int}{j pos}:QE X (.Constant (.int i) j pos) (gC (.int i)):=⟨Fu⟩
theorem JX {b j pos}:QE X (.Constant (.bool b) j pos) (gC (.bl b)):=⟨Jv⟩
theorem HG {j pos}:QE X (.Constant .none j pos) (gC .non):=⟨EU⟩
theorem Gz {x j pos}:QE X (.Constant (.str x) j pos) (gC (.str x)):=⟨Hh⟩
theorem EQ (h:QE X a g):QE X (.UnaryOp .USub a pos) (sv g):=⟨Ht h.h⟩
theorem Hv (h:QE X a g):QE X (.UnaryOp .Not a pos) (vR (aZ g)):=⟨G5 h.h⟩
theorem IL {op:Operator}(ho:Q2 X (binaryOp op) f)(ha:QE X a ga)(hb:QE X b gb):QE X (.BinOp a op b pos) (g2 f ga gb):=⟨Jt ho.h ha.h hb.h⟩
def EZ:CmpOp→Bool
 | .In=>false
 | .NotIn=>false
 | _=>true
theorem rZ {b:Expr}(h:EZ op=true):behindInMarks op b=false:=by
 cases op <;> first|exact Hq _|(cases h)
theorem Fi (ho:Q2 X (compareOp op) f)(ha:QE X a ga)(hb:QE X b gb)(hm:EZ op=true:=by rfl):QE X (.Compare a [op] [b] pos) (g2 f ga gb):=⟨BN ho.h ha.h hb.h (rZ hm)⟩
theorem FJ (ho:Q2 X (compareOp op) f)(ha:QE X a ga)(hb:QE X b gb)(hm:EZ op=true:=by rfl):QT X (.Compare a [op] [b] pos) (aZ (g2 f ga gb)):=⟨Aw ho.h ha.h hb.h (rZ hm)⟩
theorem C0 (ho:Q2 X (compareOp op) f)(ha:QE X a ga)(hb:QE X b gb)(hm:behindInMarks op b=false:=by with_unfolding_all rfl):QE X (.Compare a [op] [b] pos) (g2 f ga gb):=⟨BN ho.h ha.h hb.h hm⟩
theorem Ee (ho:Q2 X (compareOp op) f)(ha:QE X a ga)(hb:QE X b gb)(hm:behindInMarks op b=false:=by with_unfolding_all rfl):QT X (.Compare a [op] [b] pos) (aZ (g2 f ga gb)):=⟨Aw ho.h ha.h hb.h hm⟩
theorem B6 {op':CmpOp}{f':F2}(ho:Q2 X (compareOp op) f)(ho':Q2 X (compareOp op') f')(ha:QE X a ga)(hb:QE X b gb)(hc:QE X c gc)(hm:lastMarks [op,op'] [b,c]=false:=by with_unfolding_all rfl):QE X (.Compare a [op,op'] [b,c] pos) (oQ f f' ga gb gc):=⟨B2 ho.h ho'.h ha.h hb.h hc.h hm⟩
theorem Am {op':CmpOp}{f':F2}(ho:Q2 X (compareOp op) f)(ho':Q2 X (compareOp op') f')(ha:QE X a ga)(hb:QE X b gb)(hc:QE X c gc)(hm:lastMarks [op,op'] [b,c]=false:=by with_unfolding_all rfl):QT X (.Compare a [op,op'] [b,c] pos) (aZ (oQ f f' ga gb gc)):=⟨Ax ho.h ho'.h ha.h hb.h hc.h hm⟩
theorem He {op}(h:QE X a g):QE X (.BoolOp op [a] pos) g:=⟨ET h.h⟩
theorem Fd (ha:QE X a ga)(hb:QE X (.BoolOp .And (b::ap) pos) gb):QE X (.BoolOp .And (a::b::ap) pos) (dz ga gb):=⟨G0 ha.h hb.h⟩
theorem JT (ha:QE X a ga)(hb:QE X (.BoolOp .Or (b::ap) pos) gb):QE X (.BoolOp .Or (a::b::ap) pos) (EG ga gb):=⟨JB ha.h hb.h⟩
theorem Jf (hc:QT X c ta)(ha:QE X a ga)(hb:QE X b gb):QE X (.IfExp c a b pos) (nS ta ga gb):=⟨Kp hc.h ha.h hb.h⟩
theorem Dp (ha:QT X a ta):QW X (.BoolOp .And [a] pos) ta:=⟨Cp ha.h⟩
theorem Fq (ha:QT X a ta):QW X (.BoolOp .Or [a] pos) ta:=⟨Fj ha.h⟩
theorem Hm (ha:QT X a ta)(hb:QW X (.BoolOp .And (b::ap) pos) tb):QW X (.BoolOp .And (a::b::ap) pos) (fH ta tb):=⟨F7 ha.h hb.h⟩
theorem Jn (ha:QT X a ta)(hb:QW X (.BoolOp .Or (b::ap) pos) tb):QW X (.BoolOp .Or (a::b::ap) pos) (hW ta tb):=⟨IF ha.h hb.h⟩
theorem Jq (h:QW X a ta):QT X a ta:=⟨PW.pt h.h⟩
theorem Hr (h:QT X a ta):QT X (.UnaryOp .Not a pos) (cH ta):=⟨Fw h.h⟩
theorem Ge (h:QE X a g)(he:∀whole,isTrue a X.env whole=(do let v ←whole;standAt a.pos;holding [v] (truthy v)):=by intro _;rfl):QT X a (dG g):=⟨G2 h.h he⟩
theorem HL:QA X [] ai:=⟨Gv⟩
theorem Lw {gr:GA}(ha:QE X e g)(hr:QA X es gr)(h:bB e=true:=by rfl):QA X (e::es) (aa g gr):=⟨KJ ha.h hr.h h⟩
theorem GH {x1}(h:QA X es gA):QE X (.Tuple es x1 pos) (bT gA):=⟨FH h.h⟩
theorem Gf (h:QA X es gA):QE X (.List es pos) (eB gA):=⟨GZ h.h⟩
theorem E5 (h:QA X es gA):QE X (.List es pos) (i6 gA):=⟨G1 h.h⟩
theorem D8:QP X none df:=⟨Du⟩
theorem CV (h:QE X e g):QP X (some e) (iq g):=⟨Cy h.h⟩
theorem BW {lo hi:Option Expr}{gl gh:GO}(he:QE X e g)(hl:QP X lo gl)(hh:QP X hi gh):QE X (.Subscript e (.Slice lo hi none p2) pos) (zJ g gl gh):=⟨BJ he.h hl.h hh.h⟩
theorem Jm (ha:QE X a ga)(hb:QE X b gb)(hs:mD b:=by intro _ _;rfl):QE X (.Subscript a b pos) (g2 bt ga gb):=⟨Iz ha.h hb.h hs⟩
section
variable {apos cpos:Pos}{k n:Nat}{f:Addr}{fd:FuncData}{ps:List Str}{F:FD}{T:String}{id:String}
theorem zl (ho:QE X o go)(hbase:attributeBase o "clear" X.env (eval o X.env)=eval o X.env:=by rfl)(hline:(apos.endLine==cpos.line)=true:=by rfl):QE X (.Call (.Attribute o "clear" apos) [] [] cpos) (uO go):=⟨AI ho.h hbase hline⟩
theorem zR (ho:QE X o go)(he:QE X e ge)(h1:bB e=true:=by rfl)(hbase:attributeBase o "append" X.env (eval o X.env)=eval o X.env:=by rfl)(hline:(apos.endLine==cpos.line)=true:=by rfl):QE X (.Call (.Attribute o "append" apos) [e] [] cpos) (kL go ge):=⟨zc ho.h he.h hbase (pL h1) hline (sE h1) rfl⟩
theorem IN (Fn:iT X.prog X.w X.K X.mg X.base (nQ X.prog X.w) k f fd ps (xw X.K n F))(hr:d7 k X.A)(hg:Gl X x)(hm:X.mg x=some (.ref f))(hk:W.keepIn X.K (.ref f)=true)(hb:ke X.K fd ps [])(ha:QA X (e::es) gA)
  (hdb:(x==("__debug__":Str))=false:=by decide) (h1:bB e=true:=by rfl) (h2:eG es=true:=by rfl):QE X (.Call (.Name x p) (e::es) [] pos) (aj n F gA):=⟨JG Fn hr hg hm hk hb ha.h hdb h1 h2⟩
theorem JC (hc:QC X (.builtin id) F)(hg:Gl X x)(hm:X.mg x=none)(hv:bootBuiltins x=some (.builtin id))(ha:QA X (e::es) gA)(hn:x≠"__name__":=by decide)(hdb:(x==("__debug__":Str))=false:=by decide)
  (h1:bB e=true:=by rfl) (h2:eG es=true:=by rfl):QE X (.Call (.Name x p) (e::es) [] pos) (aC F gA):=⟨IM hc.h hg hm hv ha.h hn hdb h1 h2⟩
theorem Bs (hc:QC X (.type T) F)(hg:Gl X x)(hm:X.mg x=none)(hv:bootBuiltins x=some (.type T))(ha:QA X (e::es) gA)(hn:x≠"__name__":=by decide)(hdb:(x==("__debug__":Str))=false:=by decide)
  (h1:bB e=true:=by rfl) (h2:eG es=true:=by rfl):QE X (.Call (.Name x p) (e::es) [] pos) (aC F gA):=⟨Kn hc.h hg hm hv ha.h hn hdb h1 h2⟩
theorem Io (hT:mE T)(hv:bootBuiltins x=some (.type T))(hg:Gl X x)(hm:X.mg x=none)(hgi:Gl X "isinstance")(hmi:X.mg "isinstance"=none)(he:QE X e g)
  (h1:bB e=true:=by rfl) (hn:x≠"__name__":=by decide) (hd:(x==("__debug__":Str))=false:=by decide):QE X (.Call (.Name "isinstance" p) [e,.Name x p2] [] pos) (eQ T g):=⟨Ir hT hv hg hm hgi hmi he.h h1 hn hd⟩
end
theorem JQ {tg:Expr}(hg:Gl X "range")(hm:X.mg "range"=none)(ha:QA X [a] gA)(h1:bB a=true:=by rfl):QI X tg (.Call (.Name "range" p) [a] [] pos) (dX gA):=⟨IH hg hm ha.h h1⟩
theorem FN (h:QE X e g):QI X tg e (bq g):=⟨HE h.h⟩
section
variable {scope:Scope}{R:List Str}{iter elt:Expr}{ifs:List Expr}{gI:GI}{gC:GT}{px:Pos}{mk:List D→au→aO D}
theorem zq :xY X scope xs R [] aU:=⟨AJ⟩
theorem CB (hS:bi scope X.env.kindOf [x] R X.N=true)(hm:mk=aA∨mk=b0)(hi:QI X (.Name x px) iter gI)(hts:xY X scope [x] R ifs gC)(he:∀fp s H C,QE (ao X scope [x] R fp s H C) elt ge)
  (hc:X.calm=true:=by rfl) (hs:∀x,foldedSetIterable iter X.env x=pure x:=by intro _;rfl):QE X (.ListComp elt [⟨.Name x px,iter,ifs,0⟩] scope pos) (aM gI gC ge mk):=⟨DN hS hc hm hi.h hts.h (fun fp s H C=>(he fp s H C).h) hs⟩
theorem xB {j:Nat}{y:Str}{py spos:Pos}(hS:bi scope X.env.kindOf [x] R X.N=true)(hm:mk=aA∨mk=b0)(hN:X.N.Nodup)(hi:QI X (.Name x px) iter gI)(hts:xY X scope [x] R ifs gC)(he:∀fp s H C,QE (ao X scope [x] R fp s H C) elt ge)
  (hc:X.calm=true:=by rfl) (hj:X.N[j]?=some y:=by rfl) (hy:X.env.scope.names.lookup y=some .local:=by rfl) (hsw:swapsWith (.ListComp elt [⟨.Name x px,iter,ifs,0⟩] scope pos) (some (.Name y py)) spos.line X.env=pure true:=by rfl)
  (hs:∀x,foldedSetIterable iter X.env x=pure x:=by intro _;rfl):QS X (.Assign [.Name y py] (.ListComp elt [⟨.Name x px,iter,ifs,0⟩] scope pos) spos) (aF j (aM gI gC ge mk)):=⟨wF hS hc hm hi.h hts.h (fun fp s H C=>(he fp s H C).h) hN hj hy hsw hs⟩
theorem GP (n i:Nat)(h:i<n:=by decide):QO n (cn i):=⟨sR h⟩
theorem EV (n:Nat)(h:is.all (fun i=>decide (i<n))=true:=by rfl):QO n (dU is):=⟨Cv h⟩
theorem rE {s:Shared}(hS:bi scope X.env.kindOf xs R X.N=true)(h:y∈xs):(ao X scope xs R fp s H C).env.scope.names.lookup y=some .local:=lookup_relabel_local ((bo.of hS).own y h)
theorem Mo {fp:List Addr}{s:Shared}{H:Hp}{C:Addr}(i:Nat)(hS:bi scope X.env.kindOf xs R X.N=true)(hi:(xs++R)[i]?=some y:=by rfl)(hx:y∈xs:=by simp):QG (ao X scope xs R fp s H C) (.Name y pos) (cn i):=
 ⟨tX (X:=ao X scope xs R fp s H C) (bo.of hS).nd hi (.inl (rE hS hx)) (.inr (rE hS hx))⟩
theorem Ar (xs:List Str)(hS:bi scope X.env.kindOf xs R X.N=true)(hm:mk=aA∨mk=b0)(own:QO xs.length sg)(hi:QI X tg iter gI)(hg:∀fp s H C,QG (ao X scope xs R fp s H C) tg sg)(hts:xY X scope xs R ifs gC)(he:∀fp s H C,QE (ao X scope xs R fp s H C) elt ge)
  (hc:X.calm=true:=by rfl) (hs:∀x,foldedSetIterable iter X.env x=pure x:=by intro _;rfl):QE X (.ListComp elt [⟨tg,iter,ifs,0⟩] scope pos) (bU gI xs.length sg gC ge mk):=⟨uY hS hc hm hi.h own.h (fun fp s H C=>(hg fp s H C).h) hts.h (fun fp s H C=>(he fp s H C).h) hs⟩
theorem vP (xs:List Str){j:Nat}{y:Str}{py spos:Pos}(hS:bi scope X.env.kindOf xs R X.N=true)(hm:mk=aA∨mk=b0)(own:QO xs.length sg)(hN:X.N.Nodup)(hi:QI X tg iter gI)(hg:∀fp s H C,QG (ao X scope xs R fp s H C) tg sg)(hts:xY X scope xs R ifs gC)(he:∀fp s H C,QE (ao X scope xs R fp s H C) elt ge)
  (hc:X.calm=true:=by rfl) (hj:X.N[j]?=some y:=by rfl) (hy:X.env.scope.names.lookup y=some .local:=by rfl) (hsw:swapsWith (.ListComp elt [⟨tg,iter,ifs,0⟩] scope pos) (some (.Name y py)) spos.line X.env=pure true:=by rfl)
  (hs:∀x,foldedSetIterable iter X.env x=pure x:=by intro _;rfl):QS X (.Assign [.Name y py] (.ListComp elt [⟨tg,iter,ifs,0⟩] scope pos) spos) (aF j (bU gI xs.length sg gC ge mk)):=⟨nI hS hc hm hi.h own.h (fun fp s H C=>(hg fp s H C).h) hts.h (fun fp s H C=>(he fp s H C).h) hN hj hy hsw hs⟩
theorem AS (xs:List Str)(hS:bi scope X.env.kindOf xs R X.N=true)(hm:mk=aA∨mk=b0)(own:QO xs.length sg)(hi:QI X tg iter gI)(hg:∀fp s H C,QG (ao X scope xs R fp s H C) tg sg)(hts:xY X scope xs R ifs gC)(he:∀fp s H C,QE (cB X scope xs R fp s H C) elt ge)
  (hst:X.stack=X.env::X.outer:=by rfl) (hfr:X.env.frame=some X.env.locals:=by rfl) (hc:X.calm=true:=by rfl) (hs:∀x,foldedSetIterable iter X.env x=pure x:=by intro _;rfl):QE X (.ListComp elt [⟨tg,iter,ifs,0⟩] scope pos) (bM gI xs.length sg gC ge mk):=⟨Bt hS hst hfr hc hm hi.h own.h (fun fp s H C=>(hg fp s H C).h) hts.h (fun fp s H C=>(he fp s H C).h) hs⟩
theorem vw (xs:List Str){j:Nat}{y:Str}{py spos:Pos}(hS:bi scope X.env.kindOf xs R X.N=true)(hm:mk=aA∨mk=b0)(own:QO xs.length sg)(hN:X.N.Nodup)(hi:QI X tg iter gI)(hg:∀fp s H C,QG (ao X scope xs R fp s H C) tg sg)(hts:xY X scope xs R ifs gC)(he:∀fp s H C,QE (cB X scope xs R fp s H C) elt ge)
  (hst:X.stack=X.env::X.outer:=by rfl) (hfr:X.env.frame=some X.env.locals:=by rfl) (hc:X.calm=true:=by rfl) (hj:X.N[j]?=some y:=by rfl) (hy:X.env.scope.names.lookup y=some .local:=by rfl) (hsw:swapsWith (.ListComp elt [⟨tg,iter,ifs,0⟩] scope pos) (some (.Name y py)) spos.line X.env=pure true:=by rfl)
  (hs:∀x,foldedSetIterable iter X.env x=pure x:=by intro _;rfl):QS X (.Assign [.Name y py] (.ListComp elt [⟨tg,iter,ifs,0⟩] scope pos) spos) (aF j (bM gI xs.length sg gC ge mk)):=⟨uU hS hst hfr hc hm hi.h own.h (fun fp s H C=>(hg fp s H C).h) hts.h (fun fp s H C=>(he fp s H C).h) hN hj hy hsw hs⟩
end
def ma:Expr→Bool
 | .ListComp ..=>false
 | .SetComp ..=>false
 | .DictComp ..=>false
 | _=>true
theorem lS {t:Option Expr}{l:Nat}{env:Env}(h:ma e=true):swapsWith e t l env=pure false:=by
 cases e <;> first|rfl|exact ff h
section
variable {st:Stmt}{stmts:List Stmt}{t u:GS}
theorem Gc:QB X [] aX:=⟨Fo⟩
theorem Di (h1:QS X st t)(h2:QB X stmts u):QB X (st::stmts) (ax t u):=⟨DP h1.h h2.h⟩
theorem GC (h1:QS X st t):QB X [st] t:=⟨Fs h1.h⟩
theorem G6 (i:Nat){x:Str}(hN:X.N.Nodup)(he:QE X e g)(hi:X.N[i]?=some x:=by rfl)(hx:xU X.env.scope x:=by first|exact Or.inl rfl|exact Or.inr rfl)(hs:ma e=true:=by rfl)(hf:X.fn x=true∨X.env.scope.names.lookup x=some .local:=by first|exact .inl rfl|exact .inr rfl) :
  QS X (.Assign [.Name x pos'] e pos) (aF i g):=⟨ss i hN he.h hi hx (lS hs) hf⟩
theorem sH (i:Nat){x:Str}(hN:X.N.Nodup)(he:QE X e g)(hi:X.N[i]?=some x:=by rfl)(hx:xU X.env.scope x:=by first|exact Or.inl rfl|exact Or.inr rfl)(hs:swapsWith e (some (.Name x pos')) pos.line X.env=pure false:=by rfl)(hf:X.fn x=true∨X.env.scope.names.lookup x=some .local:=by first|exact .inl rfl|exact .inr rfl) :
  QS X (.Assign [.Name x pos'] e pos) (aF i g):=⟨ss i hN he.h hi hx hs hf⟩
theorem GX (he:QE X e g):QS X (.Return (some e) pos) (aH g):=⟨G7 he.h⟩
theorem CF (he:QE X e g)(hs:ma e=true:=by rfl):QS X (.Expr e pos) (gP g):=⟨Cw he.h (lS hs)⟩
theorem IQ {a b:List Stmt}{tc:GT}(hc:QT X c tc)(ha:QB X a t)(hb:QB X b u):QS X (.If c a b pos) (fJ tc t u):=⟨JJ hc.h ha.h hb.h⟩
theorem qn (i:Nat){x:Str}(hN:X.N.Nodup)(hi:X.N[i]?=some x:=by rfl)(hx:xU X.env.scope x:=by first|exact Or.inl rfl|exact Or.inr rfl)(hf:X.fn x=true∨X.env.scope.names.lookup x=some .local:=by first|exact .inl rfl|exact .inr rfl):QG X (.Name x pos) (cn i):=⟨gg i hN hi hx hf⟩
theorem Dc:J0 X [] []:=⟨Dz⟩
theorem JA {i:Nat}(h1:QG X e (cn i))(h2:J0 X es is)(hs:(assignEach (e::es) X.env).map (·.2)=assign e X.env::(assignEach es X.env).map (·.2):=by rfl):J0 X (e::es) (i::is):=⟨AF h1.h h2.h hs⟩
theorem EN {k n:Nat}(h:J0 X es is)(hc:X.calm=true:=by rfl)(hl:is.length=n:=by rfl)(hn:(assignEach es X.env).length=n:=by rfl)(hst:(assignEach es X.env).findIdx? (·.1)=none:=by rfl):QG X (.Tuple es k pos) (dU is):=⟨GD hc h.h hl hn hst⟩
theorem Fc {s:GG}(he:QE X e g)(hg:QG X tg s)(hs:ma e=true:=by rfl)(hw:swappedStores [tg] e X.env=pure none:=by rfl)(h1:(assignEach [tg] X.env).map (·.2)=[assign tg X.env]:=by rfl):QS X (.Assign [tg] e pos) (i3 s g):=⟨FT he.h hg.h (lS hs) hw h1⟩
theorem Gy {ip:Pos}(he:QE X e g)(ho:QE X o go)(hi:QE X i gi)
  (ha:∀v,assign (.Subscript o i ip) X.env v=(do
   let ov ←holding [v] (eval o X.env)
   let iv ←holding [v,ov] (eval i X.env)
   standAt ip
   holding [v,ov,iv] (setItem ov iv v)
   release [v,ov,iv] []):=by intro _;rfl)
  (hs:ma e=true:=by rfl) (hw:swappedStores [.Subscript o i ip] e X.env=pure none:=by rfl):QS X (.Assign [.Subscript o i ip] e pos) (kM go gi g):=⟨Hn he.h ho.h hi.h ha (by unfold swapsWithSole;exact lS hs) hw rfl⟩
theorem FW {iter:Expr}{body:List Stmt}{gI:GI}{gB:GS}(hp:PassesOwn (model X.prog X.w) X.A X.env X.xe)(hi:QI X tg iter gI)(hg:QG X tg sg)(hb:QB X body gB)(hc:X.calm=true:=by rfl)(hs:∀x,foldedSetIterable iter X.env x=pure x:=by intro _;rfl) :
  QS X (.For tg iter body [] pos) (nq gI sg gB):=⟨F6 hp hc hi.h hg.h hb.h hs⟩
theorem Ay {x:Str}{np cpos:Pos}(k:Ec X.K X.mg x C)(hg:Gl X x)(he:QE X e g)(hc:X.calm=true:=by rfl)(h1:bB e=true:=by rfl)(hd:(x==("__debug__":Str))=false:=by decide):QS X (.Raise (some (.Call (.Name x np) [e] [] cpos)) none pos) (cT x g):=⟨Bo k hc hg he.h h1 hd⟩
end
end
section
variable {X:Cx}{e o lo hi i:Expr}{g go gl gh:GE}{pos ip sp dpos p1 p2:Pos}{keys:List (Option Expr)}{values:List Expr}{tab:List (Str×Int)}
theorem Fa {i j:Nat}{x y:Str}{a b:Expr}{ga:GA}{px py pt:Pos}{kt k2 pt2}(hN:X.N.Nodup)(ha:QA X [a,b] ga)(hc:X.calm=true:=by rfl)(hi:X.N[i]?=some x:=by rfl)(hj:X.N[j]?=some y:=by rfl)(hij:i≠j:=by decide)
  (hx:X.env.scope.names.lookup x=some .local:=by rfl) (hy:X.env.scope.names.lookup y=some .local:=by rfl)
  (hw:swappedStores [.Tuple [.Name x px,.Name y py] kt pt] (.Tuple [a,b] k2 pt2) X.env=pure (some [x,y]):=by rfl) :
  QS X (.Assign [.Tuple [.Name x px,.Name y py] kt pt] (.Tuple [a,b] k2 pt2) pos) (xu i j ga):=⟨E9 hc hN hi hj hij hx hy ha.h hw rfl⟩
end
structure Mf (K:W.Frag)(C:Addr)(x qual:Str)(st:Stmt)(f:Addr)(fd:FuncData)(ps:List Str):Prop where
 F:FX K x qual st f fd
 me:KP K C x f
 b:ke K fd ps []
theorem IZ {P:Program}{w:World}{K:W.Frag}{mg:Str→Option Value}{base:Heap}{x qual:Str}{st:Stmt}{f:Addr}{fd:FuncData}{N ps:List Str}{n:Nat}{g:GS}(F:FX K x qual st f fd)(S:kI N ps (bJ st))(hn:ps.length=n)
  (hbody:∀(cdv:Value) (A:Around) (outer:List Env) (s:Shared) (H:Hp) (E:XK),d7 k (A.deeper (envOfC qual (bJ st) s.heap.objs.size f cdv))→QB (mv (nQ P w) P w K mg base N qual (bJ st) f cdv A outer s H E) (fE st) g) :
  iT P w K mg base (nQ P w) (k+1) f fd ps (xw K n (bv (N.length-n) g)):=LB F S hn fun cdv A outer s H E hr=>(hbody cdv A outer s H E hr).h
theorem E7 {l:W.OpenLaw}{n:Nat}{q:Program}{loose:List Str}{XP:(Str→Option Value)→Heap→Prop}{YP:World→Heap→Prop}{d:DefRec}{K:Params→W.Frag}{x:Str}{F:FD}
  (hn:l.most=some n) (hn2:n≤sizeLine) (hdf:d.params.defaults=[]) (hr:d7 k callerA) (hY:∀(w:World) (h:Heap),YP w h→(K w.params).In h)
  (hF:∀(w:World) (mg:Str→Option Value) (fa:Addr) (h:Heap),(K w.params).In h→h.Ns mainGlobals mg→mg d.name=some (.ref fa)→
   ∃fd:FuncData,(∀(s:Shared) (u:Value),BindsTo s fd ⟨[u],[]⟩ [(x,u)])∧∀base:Heap,(K w.params).In base→base.Ns mainGlobals mg→iT l.prog w (K w.params) mg base (nQ l.prog w) k fa fd [x] (xw (K w.params) 1 F))
  (h1:∀w:World,W.nsIn (K w.params) mainGlobals "ink_shown"=some none) (h2:∀w:World,W.nsIn (K w.params) mainGlobals "table_within"=some none)
  (h3:∀w:World,W.nsIn (K w.params) mainGlobals "slots_given"=some none) (h4:∀w:World,W.nsIn (K w.params) mainGlobals "cast_on_slots"=some none)
  (ht:∀ns:List Int,ns.length≤n→∃M',F [.ro (ns.map D.int)] []=.ok (.bl true) M') :
  W.WalkO q loose XP YP l.row.toRowW d [] (fun f vs=>PySem.call f vs):=
 L2.walk_of (CX:=fun w=>nQ l.prog w) (sp:=fun w=>xw (K w.params) 1 F) hn hn2 hdf hr hY hF (fun w H a ns hl _ hS=>Gb (.no fun y hy=>by
  simp only[gO,mem_cons,not_mem_nil,or_false] at hy;rcases hy with rfl|rfl|rfl|rfl
  ·exact h1 w
  ·exact h2 w
  ·exact h3 w
  ·exact h4 w) hS (ht ns hl)) fun w H s e s' z=>Kg z
section
variable {X:Cx}{e a b o:Expr}{x z:Str}{p pos apos cpos:Pos}{g ga gb go ge:GE}{gA:GA}
theorem Hi (ha:QE X a ga)(hb:QE X b gb)(hs:mD b:=by intro _ _;rfl):QE X (.Subscript a b pos) (g2 yP ga gb):=⟨E4 ha.h hb.h hs⟩
theorem Km:Q2 X (compareOp .In) EI:=⟨F3⟩
theorem Ef (h:QE X e g):QI X tg e (iX g):=⟨C1 h.h⟩
theorem CW (ho:QE X o go)(he:QE X e ge)(h1:bB e=true:=by rfl)(hbase:attributeBase o "find" X.env (eval o X.env)=eval o X.env:=by rfl)(hline:(apos.endLine==cpos.line)=true:=by rfl):QE X (.Call (.Attribute o "find" apos) [e] [] cpos) (aP oJ go ge):=⟨Cs ho.h he.h h1 hbase hline⟩
theorem A5 (ho:QE X o go)(he:QE X e ge)(h1:bB e=true:=by rfl)(hbase:attributeBase o "split" X.env (eval o X.env)=eval o X.env:=by rfl)(hline:(apos.endLine==cpos.line)=true:=by rfl):QE X (.Call (.Attribute o "split" apos) [e] [] cpos) (aP dE go ge):=⟨A0 ho.h he.h h1 hbase hline⟩
theorem CC (ho:QE X o go)(he:QE X e ge)(h1:bB e=true:=by rfl)(hbase:attributeBase o "join" X.env (eval o X.env)=eval o X.env:=by rfl)(hline:(apos.endLine==cpos.line)=true:=by rfl):QE X (.Call (.Attribute o "join" apos) [e] [] cpos) (aP cI go ge):=⟨CQ ho.h he.h h1 hbase hline⟩
theorem Cd (hm:∃tk,X.mg x=some (.str z tk))(hg:Gl X x:=by rfl)(hd:(x==("__debug__":Str))=false:=by decide):QE X (.Name x pos) (gC (.str z)):=by
 obtain⟨tk,hm⟩:=hm;exact⟨HC hg hm hd⟩
end
end DL
namespace PySem
end PySem
namespace L2
open PySem PySem.Spec PyProof.Rows List
def JZ (ns:List Int):List Int:=ns.mergeSort fun a b=>decide (a≤b)
end L2
namespace DL
open PySem PySem.Spec PyProof.Rows L2 List
def jE:D→Option gV
 | .int i=>some (.inl i)
 | .str x=>some (.inr x)
 | _=>none
def K5:List D→Option (List gV)
 | []=>some []
 | d::ds=>match jE d,K5 ds with
  | some k,some ks=>some (k::ks)
  | _,_=>none
def jI {κ:Type}[DecidableEq κ](kvs:List (κ×D))(k:κ):Option D:=(kvs.find? fun kv=>decide (kv.1=k)).map (·.2)
section
variable {K:W.Frag}{θ:List Addr}{H:Hp}
theorem AB {d:D}{k:gV}{v:V}(e:jE d=some k)(r:cP K θ H d v):v=kV k:=by
 cases d <;> simp only[jE,Option.some.injEq,reduceCtorEq] at e
 ·subst e;exact r
 ·subst e;exact r
section
variable {κ:Type}[DecidableEq κ]
theorem zW {p:κ×D}{r:List (κ×D)}{k:κ}(e:p.1=k):jI (p::r) k=some p.2:=by simp[jI,find?_cons,e]
theorem Ab {p:κ×D}{r:List (κ×D)}{k:κ}(e:¬p.1=k):jI (p::r) k=jI r k:=by simp[jI,find?_cons,e]
theorem mV:∀{fs:List (κ×D)} {vs:List (κ×V)} (k:κ),nR K θ H fs vs→(∀d,jI fs k=some d→∃v,iJ vs k=some v∧cP K θ H d v)∧(jI fs k=none→iJ vs k=none)
 | [],vs,k,r=>by
  have e:vs=[]:=r;subst e;exact⟨fun d h=>(by cases h),fun _=>rfl⟩
 | p::fs,vs,k,r=>by
  obtain⟨k0,d0⟩:=p;obtain⟨v,us,e,h1,h2⟩:=r;subst e
  by_cases q:k0=k
  ·rw[zW (p:=(k0,d0)) q,mJ (p:=(k0,v)) q];exact⟨fun d h=>(by cases h;exact⟨v,rfl,h1⟩),fun h=>(by cases h)⟩
  ·rw[Ab (p:=(k0,d0)) q,mn (p:=(k0,v)) q];exact mV k h2
theorem qI {k:κ}{d:D}{v:V}(h:cP K θ H d v):∀{fs:List (κ×D)} {vs:List (κ×V)},nR K θ H fs vs→nR K θ H (fs++[(k,d)]) (vs++[(k,v)])
 | [],vs,r=>by
  have e:vs=[]:=r;subst e;exact⟨v,[],rfl,h,rfl⟩
 | (k0,d0)::fs,vs,r=>by
  obtain⟨u,us,e,h1,h2⟩:=r;subst e;exact⟨u,us++[(k,v)],rfl,h1,qI h h2⟩
theorem nC:∀{fs:List (κ×D)} {vs:List (κ×V)},nR K θ H fs vs→fs.length=vs.length
 | [],vs,r=>by
  have e:vs=[]:=r;subst e;rfl
 | (k0,d0)::fs,vs,r=>by
  obtain⟨u,us,e,h1,h2⟩:=r;subst e;rw[length_cons,length_cons,nC h2]
end
end
section
variable {X:Cx}{pos apos cpos:Pos}{o e f:Expr}
def nX:List D→Option (List Int)
 | []=>some []
 | .int i::ds=>(nX ds).map (i::·)
 | _::_=>none
theorem AC {K:W.Frag}{θ:List Addr}{H:Hp}:∀{ds:List D} {ns:List Int} {vs:List V},nX ds=some ns→ba K θ H ds vs→vs=ns.map V.int
 | [],ns,vs,e,r=>by
  simp only[nX,Option.some.injEq] at e;subst e;exact r
 | d::ds,ns,vs,e,r=>by
  obtain⟨v,us,e1,r1,r2⟩:=r;cases d with
  | int i=>
   simp only[nX] at e;obtain⟨ms,e2,e3⟩:=Option.map_eq_some_iff.mp e;subst e3;rw[e1,AC e2 r2,show v=V.int i from r1];rfl
  | _=>cases e
theorem kx {K:W.Frag}{θ:List Addr}{H:Hp}:∀ns:List Int,ba K θ H (ns.map D.int) (ns.map V.int)
 | []=>rfl
 | n::ns=>⟨_,_,rfl,rfl,kx ns⟩
def Mj:FD:=fun ds M=>match ds with
 | [d]=>match mO d M with
  | some xs=>match nX xs with
   | some ns=>if ns.length<64 then .ok (.lst ((JZ ns).map D.int)) M else .bad
   | none=>.bad
  | none=>.bad
 | _=>.bad
end
end DL
namespace L2
open PySem PySem.Spec PyProof.Rows List
theorem pW:seqSlot? (.type "list") (dunderI "add")=pure (some (.builtin "list.__iadd__")):=PySem.seqSlot_of PySem.F.slot_list_iadd.lookup (by decide +kernel)
theorem nh:fillsInplaceSlot (.type "list") "add" (Operator.Add==.Add)=pure false:=by
 unfold fillsInplaceSlot;show(typeLookup (.type "list") (dunderI "add") >>= fun fi=>pure (fi.isSome&&!isSeqSlot fi))=pure false;have e:isSeqSlot (some (Value.builtin "list.__iadd__"))=true:=by decide +kernel
 rw[PySem.F.slot_list_iadd.lookup,pure_bind,e];rfl
section
variable {X:Cx}
theorem tM {M:Model}{A:Around}{E:Value→Shared→Prop}{s:Shared}{a b:Value}{Q:Value→Shared→Prop}(ha:s.TypeIs a "list")(hb:s.TypeIs b "list")
  (hc:wpAny M A (call (.builtin "list.__iadd__") [a,b]) Q E s):wpAny M A (inplaceOp .Add a b) Q E s:=by
 unfold inplaceOp;refine wpAny_holding ?_;refine wpAny_bind (wpAny_typeOf ha (wpAny_bind (wpAny_of_eq nh ?_)));show wpAny M A (if false=true then _ else _) Q E s;rw[if_neg Bool.false_ne_true];refine wpAny_bind (wpAny_binaryOp1_none (nm:="add") ha hb PySem.noFill_list_add ?_);refine wpAny_bind (wpAny_of_eq pW ?_);exact wpAny_bind (wpAny_rule hc)
def JS:V→V→Hp→VK→Prop:=fun x y H Q=>(∃i j,x=.int i∧y=.int j∧Q (.int (i+j)) H)∨
 ∃l b xs zs,x=.ref l∧y=.ref b∧H l=some (.lst xs)∧H b=some (.lst zs)∧xs.length+zs.length≤sizeLine∧Q (.ref l) (cA H l (.lst (xs++zs)))
theorem xE:FP X .Add JS:=by
 intro ae s σ H x y u v Q I rx ry h;rcases h with⟨i,j,e1,e2,q⟩|⟨l,b,xs,zs,rfl,rfl,hH,hB,hz,q⟩
 ·exact Fm ae s σ H x y u v Q I rx ry ⟨i,j,e1,e2,q⟩
 ·cases rx;cases ry;obtain⟨z,its,n,r,hl,e⟩:=I.lstM hH;obtain⟨z2,its2,n2,r2,hl2,e2⟩:=I.lstM hB;have hsz:its.toArray.size+its2.toArray.size≤sizeLine:=by rw[size_toArray,size_toArray];omega
  have hlong:¬(!its.toArray.isEmpty&&Builtin.List.listTooLong (its.toArray.size+its2.toArray.size))=true:=by
   rw[BG hsz,Bool.and_false];exact Bool.false_ne_true
  refine tM ⟨_,e,rfl⟩ ⟨_,e2,rfl⟩ (call_meets PySem.F.slot_list_iadd ⟨_,e,rfl⟩ PySem.F.entry_list_iadd (PySem.F.args_list_iadd_2 _ _)
   (AutoSeq1.list___iadd___list_list_0 l its.toArray n b its2.toArray n2 hlong (by rw[size_toArray];omega) (by omega)) ⟨e,e2,?_⟩)
  refine⟨.ref l,_,I.lset (its':=its++its2) hH e (by simp) (r.append r2) ?_,rfl,q⟩;rw[length_append];omega
end
end L2
namespace DL
open PySem PySem.Spec PyProof.Rows L2 List
section
variable {X:Cx}{c f:Str}{C:Addr}{o value:Expr}{go gv:GE}{pos pos' tpos:Pos}
def xr (x y:D)(M:au):aO D:=match x with
 | .int i=>match y with
  | .int j=>.ok (.int (i+j)) M
  | _=>.bad
 | .mr k=>match M[k]? with
  | some (.lst xs)=>match mO y M with
   | some ys=>if xs.length+ys.length≤sizeLine then .ok (.mr k) (M.set k (.lst (xs++ys))) else .bad
   | none=>.bad
  | _=>.bad
 | _=>.bad
def LN (X:Cx):V→V→Hp→VK→Prop:=fun x y H Q=>∃θ M dx dy,Wr X.K θ H M∧cP X.K θ H dx x∧cP X.K θ H dy y∧aE X θ H Q (xr dx dy M)
theorem FG:FP X .Add (LN X):=by
 intro ae s σ H x y u v Q I rx ry ⟨θ,M,dx,dy,hw,r1,r2,h⟩;unfold xr at h;cases dx with
 | int i=>
  cases dy with
  | int j=>exact xE ae s σ H x y u v Q I rx ry (.inl ⟨i,j,r1,r2,h _ θ H (.refl hw) rfl⟩)
  | _=>exact h.elim
 | mr k=>
  dsimp only at h;cases q:M[k]? with
  | none=>rw[q] at h;exact h.elim
  | some m=>
   cases m with
   | obj _ _=>rw[q] at h;exact h.elim
   | dK _=>rw[q] at h;exact h.elim
   | dT _=>rw[q] at h;exact h.elim
   | lst xs=>
    rw[q] at h;dsimp only at h;cases q2:mO dy M with
    | none=>rw[q2] at h;exact h.elim
    | some ys=>
     rw[q2] at h;dsimp only at h;split at h
     ·rename_i hl;obtain⟨a,ea,ta⟩:=r1;obtain⟨vs,hv,ra⟩:=hw.at_ k a _ ta q;obtain⟨b,ws,eb,tb,rb⟩:=vq hw r2 q2;have gs:=ur (ds:=xs) hw ta (cG ra rb);exact xE ae s σ H x y u v Q I rx ry (.inr ⟨a,b,vs,ws,ea,eb,hv,tb,by rw[←ay ra,←ay rb];exact hl,h _ _ _ gs ⟨a,rfl,ta⟩⟩)
     ·exact h.elim
 | _=>exact h.elim
end
end DL
namespace L2
open PySem PySem.Spec PyProof.Rows List
end L2
namespace DL
open PySem PySem.Spec PyProof.Rows L2 List
theorem aW {N ps:List Str}{sc:Scope}(h1:sc.kind=.function:=by rfl)(h2:sc.isCoroutine=false:=by rfl)(h3:sc.isGenerator=false:=by rfl)(h4:N.Nodup:=by decide +kernel)(h5:N.take ps.length=ps:=by rfl)
  (h6:∀x∈ps,sc.names.lookup x=some .local∨sc.names.lookup x=some .cell:=by decide +kernel) (h7:∀y∈sc.names,y.2≠.free:=by decide +kernel):kI N ps sc:=⟨h1,h2,h3,h4,h5,h6,h7⟩
section
variable {X:Cx}{e:Expr}{es:List Expr}{x:Str}{p pos:Pos}{gA:GA}{k k' n:Nat}{f:Addr}{fd:FuncData}{ps:List Str}{F:FD}{st:Stmt}{id:String}{T:String}
theorem Er (hc:QC X (.builtin id) F)(hm:X.mg x=none)(hv:bootBuiltins x=some (.builtin id))(ha:QA X (e::es) gA)(hg:Gl X x:=by rfl)(hn:x≠"__name__":=by decide)(hdb:(x==("__debug__":Str))=false:=by decide)
  (h1:bB e=true:=by rfl) (h2:eG es=true:=by rfl):QE X (.Call (.Name x p) (e::es) [] pos) (aC F gA):=JC hc hg hm hv ha hn hdb h1 h2
end
def FF (K:W.Frag)(mg:Str→Option Value)(x:Str)(st:Stmt)(ps:List Str):Prop:=∃f fd,Fn K mg x st f fd ps
def KC (K:W.Frag)(mg:Str→Option Value)(c:Str)(C:Addr):Prop:=Kc K mg c C∧W.makesIn K C=true∧W.keepIn K (.ref C)=true
def MF (K:W.Frag)(mg:Str→Option Value)(c m q:Str)(st:Stmt)(ps:List Str):Prop:=∃C f fd,KC K mg c C∧Mf K C m q st f fd ps
def LF (K:W.Frag)(mg:Str→Option Value)(x:Str)(st:Stmt)(ps:List Str):Prop:=∃f fd c P,Fn K mg x st f fd ps∧W.nsIn K mainGlobals x=some (some (.ref f))∧Lr K x c P
def NA (K:W.Frag)(mg:Str→Option Value)(c f:Str):Prop:=∃C,KC K mg c C∧HD K C f
def EX (K:W.Frag)(mg:Str→Option Value)(x:Str):Prop:=∃C,Ec K mg x C
def IX (K:W.Frag)(mg:Str→Option Value)(x:Str)(tab:List (Str×Bool)):Prop:=∃G,Ec K mg x G∧∀p∈tab,∃C,Ec K mg p.1 C∧W.mroIn K C (.ref G)=some p.2
def IB (K:W.Frag)(mg:Str→Option Value)(x:String)(tab:List (Str×Bool)):Prop:=∀p∈tab,∃C,Ec K mg p.1 C∧W.mroIn K C (.type x)=some p.2
def Ls {α:Type}(P:α→Prop)(l:List α):Prop:=∀t∈l,P t
section
variable {α β γ:Type}{P:α→Prop}{l:List α}{a:α}
theorem Ls.nil:Ls P []:=fun _ h=>by cases h
theorem Ls.cons (h:P a)(t:Ls P l):Ls P (a::l):=fun x hx=>by
 rcases mem_cons.mp hx with e|e
 ·rw[e];exact h
 ·exact t x e
end
structure RN (l c:Nat)(xs R:List Str):Prop
theorem rn (l c:Nat)(xs R:List Str):RN l c xs R:=⟨⟩
def Ok (P:Program)(w:World)(K:W.Frag)(mg:Str→Option Value)(base:Heap)(x:Str)(k n:Nat)(F:FD):Prop:=
 ∃f fd ps,iT P w K mg base (nQ P w) k f fd ps (xw K n F)∧mg x=some (.ref f)∧W.keepIn K (.ref f)=true∧ke K fd ps []
section
variable {P:Program}{w:World}{K:W.Frag}{mg:Str→Option Value}{base:Heap}{x c m q:Str}{st:Stmt}{N ps:List Str}{k n:Nat}{g:GS}{F:FD}
theorem Ag (h:Ok P w K mg base x k n F):Ok P w K mg base x k n fun ds M=>lq M.length (F ds M):=by
 obtain⟨f,fd,ps,h1,h2,h3,h4⟩:=h;exact⟨f,fd,ps,GV h1,h2,h3,h4⟩
theorem bX (T:FF K mg x st ps)(N:List Str)(S:kI N ps (bJ st))(hn:ps.length=n)
  (hb:∀(f:Addr) (cdv:Value) (A:Around) (outer:List Env) (s:Shared) (H:Hp) (E:XK),N.Nodup→d7 k (A.deeper (envOfC x (bJ st) s.heap.objs.size f cdv))→QB (mv (nQ P w) P w K mg base N x (bJ st) f cdv A outer s H E) (fE st) g) :
  Ok P w K mg base x (k+1) n (bv (N.length-n) g):=by
 obtain⟨f,fd,T⟩:=T;exact⟨f,fd,ps,IZ T.F S hn fun cdv A outer s H E hr=>hb f cdv A outer s H E S.nd hr,T.m,T.F.kp,T.b⟩
end
section
variable {X:Cx}{e a o value:Expr}{es:List Expr}{x c m f:Str}{p p2 pos apos pos':Pos}{gA:GA}{g go gv:GE}{k k' n:Nat}{F:FD}{tab:List (Str×Bool)}{bs:List Str}
theorem Iu (h:Ok X.prog X.w X.K X.mg X.base x k n F)(hr:d7 k' X.A)(ha:QA X (e::es) gA)(hk:k≤k':=by first|decide|omega)(hg:Gl X x:=by rfl)
  (hdb:(x==("__debug__":Str))=false:=by decide) (h1:bB e=true:=by rfl) (h2:eG es=true:=by rfl):QE X (.Call (.Name x p) (e::es) [] pos) (aj n F gA):=by
 obtain⟨f,fd,ps,h1',h2',h3,h4⟩:=h;exact IN h1' (hr.mono hk) hg h2' h3 h4 ha hdb h1 h2
theorem yY {np cpos:Pos}(h:EX X.K X.mg x)(he:QE X e g)(hg:Gl X x:=by rfl)(hc:X.calm=true:=by rfl)(h1:bB e=true:=by rfl)(hd:(x==("__debug__":Str))=false:=by decide):QS X (.Raise (some (.Call (.Name x np) [e] [] cpos)) none pos) (cT x g):=by
 obtain⟨C,h⟩:=h;exact Ay h hg he hc h1 hd
end
section
variable {X:Cx}{x:Str}{pos px:Pos}{ge:GE}{scope:Scope}{xs R:List Str}{iter elt tg:Expr}{ifs:List Expr}{gI:GI}{gC:GT}{sg:GG}{mk:List D→au→aO D}{j:Nat}{y:Str}{py spos:Pos}{n:Nat}
theorem BX (hS:bi scope X.env.kindOf [x] X.N X.N=true)(hm:mk=aA∨mk=b0)(hi:QI X (.Name x px) iter gI)(hts:xY X scope [x] X.N ifs gC)(he:∀fp s H C,QE (ao X scope [x] X.N fp s H C) elt ge)
  (hc:X.calm=true:=by rfl) (hs:∀x,foldedSetIterable iter X.env x=pure x:=by intro _;rfl):QE X (.ListComp elt [⟨.Name x px,iter,ifs,0⟩] scope pos) (aM gI gC ge mk):=CB hS hm hi hts he hc hs
theorem wm (hS:bi scope X.env.kindOf [x] X.N X.N=true)(hm:mk=aA∨mk=b0)(hN:X.N.Nodup)(hi:QI X (.Name x px) iter gI)(hts:xY X scope [x] X.N ifs gC)(he:∀fp s H C,QE (ao X scope [x] X.N fp s H C) elt ge)
  (hc:X.calm=true:=by rfl) (hj:X.N[j]?=some y:=by rfl) (hy:X.env.scope.names.lookup y=some .local:=by rfl) (hsw:swapsWith (.ListComp elt [⟨.Name x px,iter,ifs,0⟩] scope pos) (some (.Name y py)) spos.line X.env=pure true:=by rfl)
  (hs:∀x,foldedSetIterable iter X.env x=pure x:=by intro _;rfl):QS X (.Assign [.Name y py] (.ListComp elt [⟨.Name x px,iter,ifs,0⟩] scope pos) spos) (aF j (aM gI gC ge mk)):=xB hS hm hN hi hts he hc hj hy hsw hs
theorem zD (_:RN pos.line pos.col xs R)(hS:bi scope X.env.kindOf xs R X.N=true)(hm:mk=aA∨mk=b0)(own:QO xs.length sg)(hi:QI X tg iter gI)(hg:∀fp s H C,QG (ao X scope xs R fp s H C) tg sg)(hts:xY X scope xs R ifs gC)(he:∀fp s H C,QE (ao X scope xs R fp s H C) elt ge)
  (hn:xs.length=n:=by rfl) (hc:X.calm=true:=by rfl) (hs:∀x,foldedSetIterable iter X.env x=pure x:=by intro _;rfl):QE X (.ListComp elt [⟨tg,iter,ifs,0⟩] scope pos) (bU gI n sg gC ge mk):=hn▸Ar xs hS hm own hi hg hts he hc hs
theorem uf (_:RN pos.line pos.col xs R)(hS:bi scope X.env.kindOf xs R X.N=true)(hm:mk=aA∨mk=b0)(own:QO xs.length sg)(hN:X.N.Nodup)(hi:QI X tg iter gI)(hg:∀fp s H C,QG (ao X scope xs R fp s H C) tg sg)(hts:xY X scope xs R ifs gC)(he:∀fp s H C,QE (ao X scope xs R fp s H C) elt ge)
  (hn:xs.length=n:=by rfl) (hc:X.calm=true:=by rfl) (hj:X.N[j]?=some y:=by rfl) (hy:X.env.scope.names.lookup y=some .local:=by rfl) (hsw:swapsWith (.ListComp elt [⟨tg,iter,ifs,0⟩] scope pos) (some (.Name y py)) spos.line X.env=pure true:=by rfl)
  (hs:∀x,foldedSetIterable iter X.env x=pure x:=by intro _;rfl):QS X (.Assign [.Name y py] (.ListComp elt [⟨tg,iter,ifs,0⟩] scope pos) spos) (aF j (bU gI n sg gC ge mk)):=hn▸vP xs hS hm own hN hi hg hts he hc hj hy hsw hs
theorem zf (_:RN pos.line pos.col xs R)(hS:bi scope X.env.kindOf xs R X.N=true)(hm:mk=aA∨mk=b0)(own:QO xs.length sg)(hi:QI X tg iter gI)(hg:∀fp s H C,QG (ao X scope xs R fp s H C) tg sg)(hts:xY X scope xs R ifs gC)(he:∀fp s H C,QE (cB X scope xs R fp s H C) elt ge)
  (hn:xs.length=n:=by rfl) (hst:X.stack=X.env::X.outer:=by rfl) (hfr:X.env.frame=some X.env.locals:=by rfl) (hc:X.calm=true:=by rfl) (hs:∀x,foldedSetIterable iter X.env x=pure x:=by intro _;rfl):QE X (.ListComp elt [⟨tg,iter,ifs,0⟩] scope pos) (bM gI n sg gC ge mk):=hn▸AS xs hS hm own hi hg hts he hst hfr hc hs
theorem uo (_:RN pos.line pos.col xs R)(hS:bi scope X.env.kindOf xs R X.N=true)(hm:mk=aA∨mk=b0)(own:QO xs.length sg)(hN:X.N.Nodup)(hi:QI X tg iter gI)(hg:∀fp s H C,QG (ao X scope xs R fp s H C) tg sg)(hts:xY X scope xs R ifs gC)(he:∀fp s H C,QE (cB X scope xs R fp s H C) elt ge)
  (hn:xs.length=n:=by rfl) (hst:X.stack=X.env::X.outer:=by rfl) (hfr:X.env.frame=some X.env.locals:=by rfl) (hc:X.calm=true:=by rfl) (hj:X.N[j]?=some y:=by rfl) (hy:X.env.scope.names.lookup y=some .local:=by rfl) (hsw:swapsWith (.ListComp elt [⟨tg,iter,ifs,0⟩] scope pos) (some (.Name y py)) spos.line X.env=pure true:=by rfl)
  (hs:∀x,foldedSetIterable iter X.env x=pure x:=by intro _;rfl):QS X (.Assign [.Name y py] (.ListComp elt [⟨tg,iter,ifs,0⟩] scope pos) spos) (aF j (bM gI n sg gC ge mk)):=hn▸vw xs hS hm own hN hi hg hts he hst hfr hc hj hy hsw hs
end
structure Tx (tab:List (Str×Stmt×List Str))(mtab:List (Str×Str×Str×Stmt×List Str))(ls:List (Str×Stmt×List Str))(zs es:List Str)(rs:List (Str×List (Str×Bool)))(vt:List (Str×Bool))(nas:List (Str×Str))(cs:List (Str×Str))(ci:List (Str×Int))
  (P:Program) (w:World) (K:W.Frag) (mg:Str→Option Value) (base:Heap):Prop where
 f:Ls (fun t=>FF K mg t.1 t.2.1 t.2.2) tab
 m:Ls (fun t=>MF K mg t.1 t.2.1 t.2.2.1 t.2.2.2.1 t.2.2.2.2) mtab
 l:Ls (fun t=>LF K mg t.1 t.2.1 t.2.2) ls
 z:∀x∈zs,mg x=none
 e:∀x∈es,EX K mg x
 r:Ls (fun t=>IX K mg t.1 t.2) rs
 b:IB K mg "ValueError" vt
 a:∀t∈nas,NA K mg t.1 t.2
 s:Ls (fun t=>∃tk,mg t.1=some (.str t.2 tk)) cs
 i:Ls (fun t=>∃tk,mg t.1=some (.int t.2 tk)) ci
variable{K:W.Frag}{mg:Str→Option Value}{x:Str}
theorem xC {l:List (Str×List (Str×Bool))}{t:List (Str×Bool)}(h:Ls (fun t=>IX K mg t.1 t.2) l)(e:l.lookup x=some t):IX K mg x t:=by
 refine h (x,t) ?_
 induction l with
 | nil=>cases e
 | cons p l ih=>
  obtain⟨y,u⟩:=p;rw[lookup_cons] at e;split at e
  ·rename_i q;cases e;rw[eq_of_beq q];exact .head _
  ·exact .tail _ (ih (fun t ht=>h t (.tail _ ht)) e)
section
variable {K:W.Frag}{mg:Str→Option Value}{x c m q:Str}{st:Stmt}{ps:List Str}{l:List (Str×Stmt×List Str)}{l':List (Str×Str×Str×Stmt×List Str)}
theorem bW (h:Ls (fun t=>FF K mg t.1 t.2.1 t.2.2) l)(i:Nat)(e:l[i]?=some (x,st,ps):=by rfl):FF K mg x st ps:=h _ (mem_of_getElem? e)
theorem Ma {l:List (Str×Str)}{z:Str}(h:Ls (fun t=>∃tk,mg t.1=some (.str t.2 tk)) l)(i:Nat)(e:l[i]?=some (x,z):=by rfl):∃tk,mg x=some (.str z tk):=h _ (mem_of_getElem? e)
end
section
variable {K:W.Frag}{h:Heap}{mg:Str→Option Value}{x c m q f':Str}{st:Stmt}{ps:List Str}{f C G:Addr}{oc kV dc pm cd ct:Value}{od an:Option Addr}{sl:Array (Option Value)}
theorem Jb (X:K.In h)(Gm:h.Ns mainGlobals mg)(a:W.nsIn K mainGlobals x=some (some (.ref f)))(l:K.lookup f=some ⟨oc,od,.func (W.fnOf x x (jo st) (fE st) (bJ st) .none kV dc pm an cd ct),sl⟩)(c:W.codeIn K cd x=true)(k:W.keepIn K (.ref f)=true)
  (b:∀(kV doc pm:Value) (an:Option Addr) (cdv ct:Value) (us:List Value),us.length=ps.length→bindArgs (W.fnOf x x (jo st) (fE st) (bJ st) .none kV doc pm an cdv ct) ⟨us,[]⟩=pure (ps.zip us)):FF K mg x st ps:=
 ⟨f,_,BF (st:=st) l c k,W.mg_of X Gm a,(BF (st:=st) l c k).binds b⟩
theorem JV (kC:KC K mg c C)(a:W.findIn K (.ref C) f'=some none):NA K mg c f':=⟨C,kC,a⟩
theorem IC (X:K.In h)(Gm:h.Ns mainGlobals mg)(q:W.nsIn K mainGlobals x=some (some (.ref C)))(cl:W.isClsIn K C=true)(ca:W.findIn K (.ref C) "__class__"=some (some (.builtin "object.__class__")))(sp:W.specialIn K (.builtin "object.__class__") "__get__"=some (some (.builtin "getset_descriptor.__get__")))(tk:W.takesIn K (.builtin "object.__class__")=some true)
  (ob:W.mroIn K C (.type "object")=some true) (ga:W.findIn K (.ref C) "__getattribute__"=some (some (.builtin "BaseException.__getattribute__"))) (gh:W.findIn K (.ref C) "__getattr__"=some none) (be:W.mroIn K C (.type "BaseException")=some true)
  (ex:W.excIn K C IV "ValueError.__new__"=true) (ty:W.typeIn K (.ref C)=some (.type "type")) (sf:W.mroIn K C (.ref C)=some true):Ec K mg x C:=⟨q,W.mg_of X Gm q,⟨cl,ca,sp,tk,ob,ga,gh,be⟩,ex,ty,sf⟩
theorem JM (h:Ec K mg x C):EX K mg x:=⟨C,h⟩
theorem Ip {tab:List (Str×Bool)}(h:Ec K mg x G)(t:Ls (fun p=>∃C,Ec K mg p.1 C∧W.mroIn K C (.ref G)=some p.2) tab):IX K mg x tab:=⟨G,h,t⟩
theorem LO (X:K.In h)(Gm:h.Ns mainGlobals mg)(e:W.nsIn K mainGlobals x=some none):mg x=none:=W.mg_none_of X Gm e
theorem Jo {u:Tok→Value}{tk:Tok}(X:K.In h)(Gm:h.Ns mainGlobals mg)(e:W.nsIn K mainGlobals x=some (some (u tk))):∃tk,mg x=some (u tk):=⟨tk,W.mg_of X Gm e⟩
end
theorem GN {l:W.OpenLaw}{w:World}{fa:Addr}{st:Stmt}{k:Nat}{F:FD}(hfa:mg "law"=some (.ref fa))(L:FF K mg "law" st ["script"])
  (h:∀(base:Heap) (f:Addr) (fd:FuncData),Fn K mg "law" st f fd ["script"]→iT l.prog w K mg base (nQ l.prog w) k f fd ["script"] (xw K 1 F))
  (hb:∀(kV doc pm:Value) (an:Option Addr) (cdv ct:Value) (v:Value),bindArgs (W.fnOf "law" "law" (jo st) (fE st) (bJ st) .none kV doc pm an cdv ct) ⟨[v],[]⟩=pure [(("script":Str),v)]) :
  ∃fd:FuncData,(∀(s:Shared) (v:Value),BindsTo s fd ⟨[v],[]⟩ [("script",v)])∧∀base:Heap,K.In base→base.Ns mainGlobals mg→iT l.prog w K mg base (nQ l.prog w) k fa fd ["script"] (xw K 1 F):=by
 obtain⟨f,fd,L⟩:=L;have e:=hfa.symm.trans L.m;cases e;refine⟨fd,fun s v=>?_,fun base _ _=>h base _ fd L⟩;obtain⟨oc,od,kV,doc,pm,an,cdv,ct,osl,rfl,lk,hcd⟩:=L.F.ex;exact .of_eq (hb kV doc pm an cdv ct v)
section
variable {X:Cx}{e:Expr}{g:GE}{pos pos':Pos}
def mw (i:Nat)(g:GE):GS:=fun ρ M=>(af i ρ M).bind fun x M0=>(g ρ M0).bind fun y M1=>(xr x y M1).bind fun z M2=>.ok (.nx (ρ.set i (some z))) M2
theorem Dg {i:Nat}(hN:X.N.Nodup)(hi:X.N[i]?=some x)(hx:xU X.env.scope x)(he:PE X e (tE X g))(hf:X.fn x=true∨X.env.scope.names.lookup x=some .local) :
  PS X (.AugAssign (.Name x pos') .Add e pos) (tS X (mw i g)):=
 (HP hN hi hx he FG hf).of fun D σ H hxx=>by
  obtain⟨ρ,θ,M,hd,hw,h⟩:=hxx;unfold mw af at h;split at h
  ·rename_i d q;obtain⟨v,e1,r⟩:=hd.at_ i d q;refine⟨v,e1,?_⟩;have h:dm X θ H D ((g ρ M).bind fun y M1=>(xr d y M1).bind fun z M2=>.ok (.nx (ρ.set i (some z))) M2):=h;refine b7 hd hw (dm X θ H D) (fun c M' h=>h) (fun h=>h) h fun y M1 vy θ1 H1 g1 r1 h1=>?_
   have h1:=dm.go g1 h1;refine⟨θ1,M1,d,y,g1.wr,r.go g1,r1,?_⟩;cases qa:xr d y M1 with
   | bad=>rw[qa] at h1;exact h1.elim
   | err c2 M3=>rw[qa] at h1;exact h1
   | ok z M3=>
    rw[qa,ak] at h1;intro vz θ3 H3 g3 rz;exact h1 _ θ3 H3 g3 (((hd.go g1).go g3).set rz i)
  ·exact h.elim
theorem DV (i:Nat)(hN:X.N.Nodup)(he:QE X e g)(hi:X.N[i]?=some x:=by rfl)(hx:xU X.env.scope x:=by first|exact Or.inl rfl|exact Or.inr rfl)(hf:X.fn x=true∨X.env.scope.names.lookup x=some .local:=by first|exact .inl rfl|exact .inr rfl) :
  QS X (.AugAssign (.Name x pos') .Add e pos) (mw i g):=⟨Dg hN hi hx he.h hf⟩
end
end DL
namespace DL
open PySem PySem.Spec PyProof.Rows PySem.W L2 List
section
variable {key:Nat→Int}{N:Nat}{s:Shared}{cmp:Nat→Nat→(Bool→Shared→Prop)→Shared→Prop}
def kp (key:Nat→Int)(p:Array Nat)(k:Nat):Int:=key (p.getD k 0)
def up (key:Nat→Int)(p:Array Nat)(n:Nat):Prop:=∀k,k+1<n→kp key p k≤kp key p (k+1)
def down (key:Nat→Int)(p:Array Nat)(n:Nat):Prop:=∀k,k+1<n→kp key p (k+1)≤kp key p k
end
section
theorem lX:∀a:List Int,HT.lexLt a a=false
 | []=>rfl
 | x::a=>by rw[HT.lexLt_cons,if_pos rfl];exact lX a
theorem oi:∀a b:List Int,HT.lexLt a b=false→HT.lexLt b a=false→a=b
 | [],[],_,_=>rfl
 | [],_::_,h,_=>by cases h
 | _::_,[],_,h=>by cases h
 | x::a,y::b,h1,h2=>by
  rw[HT.lexLt_cons] at h1 h2
  by_cases e:x=y
  ·subst e;rw[if_pos rfl] at h1 h2;rw[oi a b h1 h2]
  ·rw[if_neg e,decide_eq_false_iff_not] at h1;rw[if_neg (fun z=>e z.symm),decide_eq_false_iff_not] at h2;omega
theorem i5:∀a b c:List Int,HT.lexLt a b=true→HT.lexLt b c=true→HT.lexLt a c=true
 | [],[],_,h,_=>by cases h
 | [],_::_,[],_,h=>by cases h
 | [],_::_,_::_,_,_=>rfl
 | _::_,[],_,h,_=>by cases h
 | _::_,_::_,[],_,h=>by cases h
 | x::a,y::b,z::c,h1,h2=>by
  rw[HT.lexLt_cons] at h1 h2 ⊢
  by_cases e:x=y
  ·subst e;rw[if_pos rfl] at h1
   by_cases e2:x=z
   ·subst e2;rw[if_pos rfl] at h2 ⊢;exact i5 a b c h1 h2
   ·rw[if_neg e2] at h2 ⊢;exact h2
  ·rw[if_neg e,decide_eq_true_iff] at h1
   by_cases e2:y=z
   ·subst e2;rw[if_neg e,decide_eq_true_iff];exact h1
   ·rw[if_neg e2,decide_eq_true_iff] at h2;rw[if_neg (by omega),decide_eq_true_iff];omega
def rank (zs:List (List Int))(z:List Int):Int:=(zs.countP fun y=>HT.lexLt y z:Nat)
theorem yv {α:Type}{p q:α→Bool}:∀{l:List α} {x:α},(∀y,p y=true→q y=true)→x∈l→p x=false→q x=true→l.countP p<l.countP q
 | a::l,x,hs,hx,h1,h2=>by
  rw[countP_cons,countP_cons];rcases mem_cons.mp hx with e|e
  ·subst e;have:=countP_mono_left (l:=l) (fun y _=>hs y);rw[if_neg (by simp[h1]),if_pos h2];omega
  ·have:=yv hs e h1 h2;have h3:=hs a;cases q1:p a with
   | true=>rw[h3 q1];simp only[if_true];omega
   | false=>cases q a <;> simp <;> omega
theorem BD {zs:List (List Int)}{a b:List Int}(ha:a∈zs):HT.lexLt a b=decide (rank zs a<rank zs b):=by
 cases h:HT.lexLt a b with
 | true=>
  have:=yv (l:=zs) (x:=a) (p:=fun y=>HT.lexLt y a) (q:=fun y=>HT.lexLt y b) (fun y q=>i5 y a b q h) ha (lX a) h;exact(decide_eq_true (by unfold rank;omega)).symm
 | false=>
  have:zs.countP (fun y=>HT.lexLt y b)≤zs.countP (fun y=>HT.lexLt y a):=countP_mono_left (l:=zs) (p:=fun y=>HT.lexLt y b) (q:=fun y=>HT.lexLt y a) fun y _ q=>by
   have q:HT.lexLt y b=true:=q;show HT.lexLt y a=true;cases h2:HT.lexLt b a with
   | true=>exact i5 y b a q h2
   | false=>rw[oi a b h h2];exact q
  exact(decide_eq_false (by unfold rank;omega)).symm
def da (zs:List (List Int)):List (List Int):=zs.mergeSort fun a b=>!HT.lexLt b a
theorem eU (zs:List (List Int)):(da zs).Perm zs:=mergeSort_perm zs _
theorem l8 (zs:List (List Int)):(da zs).Pairwise fun a b=>HT.lexLt b a=false:=by
 have h:(da zs).Pairwise (fun a b=>(!HT.lexLt b a)=true):=pairwise_mergeSort (le:=fun a b=>!HT.lexLt b a) (fun a b c h1 h2=>by
  simp only[Bool.not_eq_true'] at h1 h2 ⊢;cases q:HT.lexLt c a with
  | false=>rfl
  | true=>
   cases q2:HT.lexLt a b with
   | true=>rw[i5 c a b q q2] at h2;cases h2
   | false=>have:=oi a b q2 h1;subst this;rw[q] at h2;cases h2) (fun a b=>by
  cases q:HT.lexLt b a with
  | false=>rfl
  | true=>
   cases q2:HT.lexLt a b with
   | false=>rfl
   | true=>have:=i5 a b a q2 q;rw[lX] at this;cases this) zs
 exact h.imp fun h=>by simpa using h
theorem jx:∀{a b:List (List Int)},a.Perm b→a.Pairwise (fun x y=>HT.lexLt y x=false)→b.Pairwise (fun x y=>HT.lexLt y x=false)→a=b
 | [],b,p,_,_=>(List.Perm.nil_eq p)
 | x::a,[],p,_,_=>absurd p.symm.nil_eq (by simp)
 | x::a,y::b,p,ha,hb=>by
  have h1:HT.lexLt y x=false:=by
   rcases mem_cons.mp (p.symm.subset (mem_cons_self ..):y∈x::a) with e|e
   ·rw[e];exact lX x
   ·exact(pairwise_cons.mp ha).1 y e
  have h2:HT.lexLt x y=false:=by
   rcases mem_cons.mp (p.subset (mem_cons_self ..):x∈y::b) with e|e
   ·rw[e];exact lX y
   ·exact(pairwise_cons.mp hb).1 x e
  have e:=oi x y h2 h1;subst e;rw[jx (perm_cons x |>.mp p) (pairwise_cons.mp ha).2 (pairwise_cons.mp hb).2]
end
section
variable {prog:Program}{w:World}{A:Around}{E:Value→Shared→Prop}{s:Shared}
theorem vT {b fin:Bool}{Q:Bool→Shared→Prop}:∀{vs ws:List Value} {ns ms:List Int} (i:Nat),IntsAre vs ns→IntsAre ws ms→fin=decide (ns.length<ms.length)→Q (HT.lexLt ns ms) s→KatLex prog w A b fin Q (vs.zip ws) i s
 | _,_,_,_,i,.nil,.nil,e,h=>by
  rw[zip_nil_left];refine kat_nil ?_;rw[e];exact h
 | _,_,_,_,i,.nil,.cons _ _ _,e,h=>by
  rw[zip_nil_left];refine kat_nil ?_;rw[e,decide_eq_true (by simp)];exact h
 | _,_,_,_,i,.cons _ _ _,.nil,e,h=>by
  rw[zip_nil_right];refine kat_nil ?_;rw[e,decide_eq_false (by simp)];exact h
 | _,_,_,_,i,.cons (ns:=ns) x t r1,.cons (ns:=ms) y u r2,e,h=>by
  rw[zip_cons_cons];refine kat_cons (wpAny_eqBool_int ?_);rw[HT.lexLt_cons] at h
  by_cases q:x=y
  ·rw[if_pos q] at h;rw[show(x==y)=true by simp[q]];exact kat_yes (vT (i+1) r1 r2 (by rw[e];simp) h)
  ·rw[if_neg q] at h;rw[show(x==y)=false by simp[q]];refine kat_no ?_;cases (b&&i==0) with
   | true=>exact oneLt_int h
   | false=>exact kat_one _ _ (PyProof.Rows.lt_int (show W.BoolBack _ (.bool _) _ from h))
def nc (h:Heap):List Value→List (List Int)→Prop
 | [],[]=>True
 | v::vs,z::zs=>(∃b o xs k,v=.ref b∧h.get? b=some o∧o.cls=.type "tuple"∧o.data=.seq xs k∧IntsAre xs.toList z∧z≠[])∧nc h vs zs
 | _,_=>False
theorem nc.keep {h h':Heap}(k:∀b o,h.get? b=some o→h'.get? b=some o):∀{vs:List Value} {zs:List (List Int)},nc h vs zs→nc h' vs zs
 | [],[],_=>trivial
 | [],_::_,t=>t.elim
 | _::_,[],t=>t.elim
 | _::_,_::_,⟨⟨b,o,xs,n,e,g,r⟩,t⟩=>⟨⟨b,o,xs,n,e,k _ _ g,r⟩,t.keep k⟩
theorem nc.firsts {h:Heap}:∀{vs:List Value} {zs:List (List Int)},nc h vs zs→∃fs,KatTups h vs fs∧fs.length=vs.length∧∀v∈fs,∃n t,v=Value.int n t
 | [],[],_=>⟨[],.nil,rfl,fun v hv=>by cases hv⟩
 | [],_::_,t=>t.elim
 | _::_,[],t=>t.elim
 | _::_,z::_,⟨⟨b,o,xs,n,e,g,c,d,r,z0⟩,t⟩=>by
  obtain⟨fs,k,l,f⟩:=t.firsts;subst e;cases r':xs.toList with
  | nil=>rw[r'] at r;cases r;exact absurd rfl z0
  | cons x ys=>
   rw[r'] at r;cases r with
   | cons m tk r2=>
    refine⟨Value.int m tk::fs,.cons g c d (by rw[←Array.getElem?_toList,r'];rfl) k,by rw[length_cons,length_cons,l],fun v hv=>?_⟩;rcases mem_cons.mp hv with e|e
    ·exact⟨m,tk,e⟩
    ·exact f v e
end
def iU (z:List Int):D:=.tup (z.map D.int)
def mH:List D→Option (List (List Int))
 | []=>some []
 | d::ds=>match BB d,mH ds with
  | some (i::z),some zs=>some ((i::z)::zs)
  | _,_=>none
theorem qH {K:W.Frag}{θ:List Addr}{H:Hp}{f:Nat→D}{g:Nat→V}:∀l:List Nat,(∀i∈l,cP K θ H (f i) (g i))→ba K θ H (l.map f) (l.map g)
 | [],_=>rfl
 | i::l,h=>⟨_,_,rfl,h i (.head _),qH l fun j hj=>h j (.tail _ hj)⟩
theorem kr {g:Nat→V}{u:Nat→Value}:∀l:List Nat,(∀i∈l,aY (g i) (u i))→aR (l.map g) (l.map u)
 | [],_=>.nil
 | i::l,h=>.cons (h i (.head _)) (kr l fun j hj=>h j (.tail _ hj))
section
variable {X:Cx}{ae:List (Addr×Obj)}{σ:L2.St}{H:Hp}{s:Shared}{θ:List Addr}
theorem u3 (I:L2.Inv X ae σ H s):∀{xs:List D} {zs:List (List Int)} {vs:List V} {us:List Value},mH xs=some zs→ba X.K θ H xs vs→aR vs us→
  nc s.heap us zs∧us.length=zs.length∧∀i,i<zs.length→cP X.K θ H (iU (zs.getD i [])) (vs.getD i .non)∧aY (vs.getD i .non) (us.getD i Value.none)
 | [],zs,vs,us,e,r,v=>by
  simp only[mH,Option.some.injEq] at e;subst e;have:vs=[]:=r;subst this;cases v;exact⟨trivial,rfl,fun i h=>absurd h (by simp)⟩
 | d::xs,zs,vs,us,e,r,v=>by
  simp only[mH] at e;split at e
  ·rename_i i z zs' q1 q2;cases e;obtain⟨v1,vr,e1,r1,r2⟩:=r;subst e1;cases v with
   | cons h1 h2=>
    obtain⟨t,l,f⟩:=u3 I q2 r2 h2;obtain⟨b,eb,tb⟩:=Bk q1 r1;subst eb;have eu:_=Value.ref b:=h1;subst eu;obtain⟨its,rr,⟨o,ho,hc,n,hd⟩,_⟩:=I.tuple tb.sq;refine⟨⟨⟨b,o,its.toArray,n,rfl,ho,hc,hd,xt rr,by simp⟩,t⟩,by rw[length_cons,length_cons,l],fun k hk=>?_⟩;cases k with
    | zero=>exact⟨⟨b,_,rfl,tb,kx _⟩,rfl⟩
    | succ k=>exact f k (by simpa using hk)
  ·cases e
end
end DL
namespace DL
open PySem PySem.Spec PyProof.Rows L2 List
end DL
namespace DL
open PySem PySem.Spec PyProof.Rows PySem.W L2 List
def oC (h:Heap)(d:Addr)(es:Array DictEntry)(ep:Nat):Prop:=∃o,h.get? d=some o∧o.ExactDict∧o.data=.dict es ep
variable{Q:Option Value→Shared→Prop}
section
variable {prog:Program}{w:World}{A:Around}{E:Value→Shared→Prop}{s:Shared}{d it:Addr}{es:Array DictEntry}{ep i:Nat}
theorem oC.typeIs (x:oC s.heap d es ep):s.TypeIs (.ref d) "dict":=by
 obtain⟨o,ho,hc,_⟩:=x;exact⟨o,ho,hc.1⟩
theorem AY {Q:Value→Shared→Prop}(hd:(d==sysModules)=false)(x:oC s.heap d es ep)
  (hQ:Q (.ref s.heap.objs.size) {s with heap:=s.heap.push {cls:=.type "dict_keyiterator",data:=.fields #[.ref d,.int 0 0,.int es.size 0,.int ep 0]}}):wpAny (model prog w) A (pyIter (.ref d)) Q E s:=by
 have T:=x.typeIs;obtain⟨o,ho,hc,hx⟩:=x;refine wpAny_pyIter_slot T PySem.F.slot_dict_iter (wpAny_call_entry PySem.F.slot_dict_iter T PySem.F.entry_dict_iter ?_ (PySem.F.args_dict_iter_1 _));unfold Builtin.«dict.__iter__»;refine wpAny_bind ?_;unfold Builtin.Dict.dictSlotNone;refine wpAny_bind (wpAny_notOrdered_dict T ?_);show wpAny _ _ (pure (Value.ref d)) _ _ s;refine wpAny_pure ?_;show wpAny _ _ (Builtin.Dict.showsAll d >>= _) _ _ s;unfold Builtin.Dict.showsAll;rw[if_neg (by rw[hd];exact Bool.false_ne_true)];refine wpAny_bind (wpAny_pure (wpAny_bind (wpAny_dictEntries ho hx (wpAny_bind (wpAny_dictEpoch ho hx (wpAny_bind (wpAny_newObj_type (wpAny_pure ⟨_,rfl,"dict_keyiterator",_,⟨_,Heap.get?_push_size _ rfl,rfl⟩,PySem.F.slot_dict_keyiterator_next.lookup,?_⟩))))))));exact hQ
theorem oC.stay {h h':Heap}(x:oC h d es ep)(k:∀o,h.get? d=some o→h'.get? d=some o):oC h' d es ep:=by
 obtain⟨o,ho,r⟩:=x;exact⟨o,k o ho,r⟩
theorem Aa (hit:s.heap.IsKeyIter it d i es.size ep)(x:oC s.heap d es ep)(hi:i<es.size)
  (hQ:∀h',h'.IsKeyIter it d (i+1) es.size ep→Heap.SameBut it s.heap h'→Q (some es[i].key) {s with heap:=h'}):wpAny (model prog w) A (pyNext (.ref it)) Q E s:=by
 have T:=hit.typeIs;obtain⟨o,ho,hc,hd⟩:=hit;obtain⟨od,hod,hcd,hx⟩:=x;unfold pyNext;refine wpAny_bind (wpAny_attempt (wpAny_callSpecial?_slot (name:=Str.ofString "__next__") T PySem.F.slot_dict_keyiterator_next (wpAny_call_entry PySem.F.slot_dict_keyiterator_next T PySem.F.entry_dict_keyiterator_next ?_ (PySem.F.args_dict_keyiterator_next_1 _))));refine wpAny_bind (wpAny_pure (wpAny_bind (wpAny_bind ?_)))
 first|refine wpAny_bind (wpAny_typeNameOfWhole_keyiter T (wpAny_pure ?_))|refine wpAny_bind (wpAny_typeNameOf_keyiter T (wpAny_pure ?_))
 refine wpAny_bind (wpAny_fieldsOf ho hd ?_);simp only[show Builtin.Dict_items.ownsTuple "dict_keyiterator"=false by decide,Bool.false_eq_true,if_false];show wpAny _ _ (if(Value.ref d==Value.none)=true then _ else _) _ _ s;rw[if_neg (show¬((Value.ref d==Value.none)=true) from Bool.false_ne_true)];refine wpAny_bind (wpAny_pure (wpAny_bind (wpAny_dictEntries hod hx ?_)));rw[if_neg (by simp)];refine wpAny_bind (wpAny_pure (wpAny_bind (wpAny_dictEpoch hod hx ?_)));rw[if_neg (by simp)];refine wpAny_pure ?_;simp only[show¬((i:Int)<0) from by omega,if_false,Int.toNat_natCast,Array.getElem?_eq_getElem hi];refine wpAny_bind ?_
 first|refine wpAny_bind (wpAny_typeNameOfWhole_keyiter T (wpAny_pure ?_))|refine wpAny_bind (wpAny_typeNameOf_keyiter T (wpAny_pure ?_))
 refine wpAny_bind (wpAny_isOneOf_keyiter T ?_);show wpAny _ _ (setField (.ref it) 1 (rawInt ((i:Int)+1)) >>= _) _ _ s;refine wpAny_bind (wpAny_setField ho hd (by simp) ?_);have hit2:(s.heap.update it (Obj.mapFields (·.setIfInBounds 1 (rawInt ((i:Int)+1))))).IsKeyIter it d (i+1) es.size ep:=
  ⟨_,Heap.get?_update_self _ ho (Obj.isFreed_of_fields (Obj.data_mapFields hd _)),(Obj.cls_mapFields ..).trans hc,by rw[Obj.data_mapFields hd];simp[rawInt]⟩
 refine wpAny_bind (wpAny_holding (wpAny_bind (wpAny_isOneOf_keyiter (s:={s with heap:=s.heap.update it (Obj.mapFields (·.setIfInBounds 1 (rawInt ((i:Int)+1))))}) hit2.typeIs ?_)));show wpAny _ _ (pure es[i].key) _ _ _;exact wpAny_pure (wpAny_pure ⟨_,rfl,wpAny_pure (hQ _ hit2 (Heap.SameBut.update ..))⟩)
theorem D1 (hh:A.handled=none)(hit:s.heap.IsKeyIter it d es.size es.size ep)(x:oC s.heap d es ep)
  (hQ:∀h',Heap.ExtBut it s.heap h'→Q none {s with heap:=h'}):wpAny (model prog w) A (pyNext (.ref it)) Q E s:=by
 have T:=hit.typeIs;obtain⟨o,ho,hc,hd⟩:=hit;obtain⟨od,hod,hcd,hx⟩:=x;unfold pyNext;refine wpAny_bind (wpAny_attempt (wpAny_callSpecial?_slot (name:=Str.ofString "__next__") T PySem.F.slot_dict_keyiterator_next (wpAny_call_entry PySem.F.slot_dict_keyiterator_next T PySem.F.entry_dict_keyiterator_next ?_ (PySem.F.args_dict_keyiterator_next_1 _))));refine wpAny_bind (wpAny_pure (wpAny_bind (wpAny_bind ?_)))
 first|refine wpAny_bind (wpAny_typeNameOfWhole_keyiter T (wpAny_pure ?_))|refine wpAny_bind (wpAny_typeNameOf_keyiter T (wpAny_pure ?_))
 refine wpAny_bind (wpAny_fieldsOf ho hd ?_);simp only[show Builtin.Dict_items.ownsTuple "dict_keyiterator"=false by decide,Bool.false_eq_true,if_false];show wpAny _ _ (if(Value.ref d==Value.none)=true then _ else _) _ _ s;rw[if_neg (show¬((Value.ref d==Value.none)=true) from Bool.false_ne_true)];refine wpAny_bind (wpAny_pure (wpAny_bind (wpAny_dictEntries hod hx ?_)));rw[if_neg (by simp)];refine wpAny_bind (wpAny_pure (wpAny_bind (wpAny_dictEpoch hod hx ?_)));rw[if_neg (by simp)];refine wpAny_pure ?_;simp only[show¬((es.size:Int)<0) from by omega,if_false,Int.toNat_natCast,Array.getElem?_eq_none (Nat.le_refl es.size)];refine wpAny_bind ?_
 first|refine wpAny_bind (wpAny_typeNameOfWhole_keyiter T (wpAny_pure ?_))|refine wpAny_bind (wpAny_typeNameOf_keyiter T (wpAny_pure ?_))
 show wpAny _ _ (setField (.ref it) 0 .none >>= _) _ _ s;refine wpAny_bind (wpAny_setField ho hd (by simp) ?_);show wpAny _ _ (newExc (.type "StopIteration") [] >>= _) _ _ _;refine wpAny_bind ?_;simp only[newExc,newTuple];refine wpAny_bind (wpAny_newObj_type ?_ (by size_fits));refine wpAny_bind (m:=firstArgMember _ _) (wpAny_of_eq (a:=Value.none) (by first|rfl|(simp only[firstArgMember];rfl)) (wpAny_newObj_type ?_ (by size_fits)));simp only[raiseNew];refine wpAny_bind (wpAny_handled ?_);rw[show A.in1.handled=none from hh];refine wpAny_bind (wpAny_pure (wpAny_throw ?_));refine wpAny_bind (wpAny_isInstance (T:="StopIteration") (b:=true) ⟨_,Heap.get?_push_size _ rfl,rfl⟩ isSubtype_stop (wpAny_pure (hQ _ (((Heap.SameBut.update ..).extBut.push _).push _))))
theorem yZ (hh:A.handled=none)(hne:d≠it):Walks prog w A it [it,d] [it] es.size (fun i v=>∃e,es[i]?=some e∧v=e.key) (fun i h=>h.IsKeyIter it d i es.size ep∧oC h d es ep) where
 sub:=fun b hb=>by rw[mem_singleton.mp hb];exact mem_cons_self
 frame:=fun _ _ _ st hk=>⟨st.1.at fun o e=>hk it mem_cons_self o e,st.2.stay fun o e=>hk d (mem_cons_of_mem _ mem_cons_self) o e⟩
 item:=fun i s Q E hi st hQ=>Aa st.1 st.2 hi fun h' k1 k2=>hQ _ h' s.toks ⟨_,Array.getElem?_eq_getElem hi,rfl⟩ ⟨k1,st.2.stay fun o e=>k2.extBut d o hne e⟩ fun b o hb e=>k2.extBut b o (fun z=>hb (by rw[z];exact mem_cons_self)) e
 done:=fun s Q E st hQ=>D1 hh st.1 st.2 fun h' k=>hQ h' s.toks fun b o hb e=>k b o (fun z=>hb (by rw[z];exact mem_cons_self)) e
 self:=fun _ _ _ _ st hQ=>wpAny_pyIter_keyiter st.1 hQ
theorem DK (lo:(d==sysModules)=false):KdlSrc prog w "dict" d d es.size (fun i v=>∃e,es[i]?=some e∧v=e.key) (fun h=>oC h d es ep) where
 type:=fun _ x=>x.typeIs
 there:=fun _ x=>by obtain⟨o,ho,_⟩:=x;exact⟨Heap.lt_size ho,Heap.lt_size ho⟩
 keep:=fun _ _ x hk=>x.stay fun o e=>hk d (.inl rfl) o e
 notList:=by decide
 notTuple:=by decide
 hint:=fun _ _ _ _ x hq=>kdl_hint_dict x.typeIs hq
 iter:=fun _ s hh x=>⟨_,_,(fun _ _ hq=>AY lo x hq),yZ hh (by obtain⟨o,ho,_⟩:=x;exact Nat.ne_of_lt (Heap.lt_size ho)),⟨⟨_,Heap.get?_push_size _ rfl,rfl,rfl⟩,x.stay fun o e=>Heap.get?_push_of_some _ e⟩⟩
end
def LK:gV→D
 | .inl i=>.int i
 | .inr x=>.str x
end DL
namespace DL
open PySem PySem.Spec PyProof.Rows L2 List
end DL
namespace DL
open PySem PySem.Spec PyProof.Rows L2 List
open AutoSeq1 (wpAny_loadPart')
section
variable {X:Cx}
theorem pJ {ae:List (Addr×Obj)}{s:Shared}{σ:L2.St}{H:Hp}{θ:List Addr}{M:au}(I:Inv X ae σ H s)(hw:Wr X.K θ H M):∀(ds:List D) (n:Nat) (vs:List V) (us:List Value),bH n (ds.map fun x=>now x M)=true→ba X.K θ H ds vs→aR vs us→∃as,ReadsAll s.heap us (mQ (ds.map fun x=>now x M)) as
 | [],n,vs,us,h,r,q=>by have e:vs=[]:=r;subst e;cases q;exact⟨_,.nil⟩
 | d::ds,n,vs,us,h,r,q=>by
  have h:=Bool.and_eq_true_iff.mp (show(bw n (now d M)&&bH n (ds.map fun x=>now x M))=true from h);obtain⟨v,rr,e,r1,r2⟩:=r;subst e;cases q with
  | cons q1 q2=>
   obtain⟨as,R1⟩:=gJ I hw h.1 r1 q1;obtain⟨bs,R2⟩:=pJ I hw ds n rr _ h.2 r2 q2;exact⟨_,.cons R1 R2⟩
end
end DL
namespace DL
open PySem PySem.Spec PyProof.Rows L2 List
end DL
namespace DL
open PySem PySem.Spec PyProof.Rows L2 List
def Kd:List D→List D→Option Bool
 | [],[]=>some false
 | [],_::_=>some true
 | _::_,[]=>some false
 | .int a::r,.int b::q=>if a=b then Kd r q else some (decide (a<b))
 | .str a::r,.str b::q=>if a=b then Kd r q else some (decide (a.cps.toList<b.cps.toList))
 | _::_,_::_=>none
section
open PySem.SeqAt
open PySem.AutoSeq1 (wpAny_loadPart')
open PySem.MeetsSeq PySem.MeetsSeq2 PySem.MeetsSeq3
end
section
variable {X:Cx}
def vf (z:Str)(lo hi:Option Int):Str:=⟨((z.cps.toList.drop (HT.sIx z.length 0 lo)).take (HT.sIx z.length z.length hi-HT.sIx z.length 0 lo)).toArray⟩
theorem xj (lo hi:Option Int)(n:Nat):Builtin.Str.strSliceIndices lo hi 1 n=(List.range (HT.sIx n n hi-HT.sIx n 0 lo)).map (HT.sIx n 0 lo+·):=by
 rw[←sliceRange_one];unfold Builtin.Str.strSliceIndices;have key:∀(o:Option Int) (d:Nat),(match o with|none=>(d:Int)|some i=>max 0 (min (if i<0 then i+(n:Int) else i) (n:Int)))=((HT.sIx n d o:Nat):Int):=by
  intro o d;cases o with
  | none=>rfl
  | some v=>
   show max 0 (min (if v<0 then v+(n:Int) else v) (n:Int))=(((if v<0 then(v+(n:Int)).toNat else min v.toNat n):Nat):Int)
   by_cases hv:v<0
   ·simp only[if_pos hv];omega
   ·simp only[if_neg hv];omega
 have h1:=key lo 0;have h2:=key hi n;simp only[show(1:Int)>0 by decide,if_true];rw[←h1,←h2];cases lo <;> cases hi <;> rfl
theorem qD (z:Str)(lo hi:Option Int):Txt.slice z lo hi=vf z lo hi:=by
 unfold Txt.slice vf;rw[xj,pick_run];split
 ·rename_i h;have h:(HT.sIx z.length z.length hi-HT.sIx z.length 0 lo==z.length)=true:=by simpa using h
  have h:=eq_of_beq h;have l1:=HT.sIx_le z.length z.length (Nat.le_refl _) hi
  by_cases h0:z.length=0
  ·have:z.cps.toList=[]:=length_eq_zero_iff.mp (by simpa[Str.length] using h0);cases z with
   | mk c=>simp only at this;simp[this];exact Array.toList_eq_nil_iff.mp this
  ·have e:HT.sIx z.length 0 lo=0:=by omega
   rw[e,Nat.sub_zero];have:HT.sIx z.length z.length hi=z.length:=by omega
   rw[this,drop_zero,take_of_length_le (by simp[Str.length])]
 ·rfl
def zY (d:D)(lo hi:Option Int)(M:au):aO D:=match d with
 | .str z=>if z.length≤sizeLine then .ok (.str (vf z lo hi)) M else .bad
 | d=>lJ d lo hi M
def D9 (g:GE)(gl gh:GO):GE:=fun ρ M=>(g ρ M).bind fun x M1=>(gl ρ M1).bind fun lo M2=>(gh ρ M2).bind fun hi M3=>zY x lo hi M3
def Li (X:Cx):V→Option Int→Option Int→Hp→VK→Prop:=fun x lo hi H Q=>∃θ M d,Wr X.K θ H M∧cP X.K θ H d x∧aE X θ H Q (zY d lo hi M)
theorem xO {v:Value}{o:Option Int}(p:IsPart v o):∃q:Option (Int×Tok),v=partValue q∧q.map (·.1)=o:=by
 cases p with
 | none=>exact⟨none,rfl,rfl⟩
 | int i t=>exact⟨some (i,t),rfl,rfl⟩
theorem Kl:Jl X (Li X):=by
 intro ae s σ H x v vl vu lo hi sl Q I rx hs pl pu h;obtain⟨θ,M,d,hw,r,h⟩:=h;have ap:aE X θ H Q (lJ d lo hi M)→_:=fun h=>Iq ae s σ H x v vl vu lo hi sl Q I rx hs pl pu ⟨θ,M,d,hw,r,h⟩
 cases d with
 | str z=>
  have h:aE X θ H Q (if z.length≤sizeLine then .ok (.str (vf z lo hi)) M else .bad):=h;split at h
  ·rename_i hz;have ev:x=.str z:=r;subst ev;obtain⟨t,rfl⟩:=rx;obtain⟨ql,rfl,el⟩:=xO pl;obtain⟨qu,rfl,eu⟩:=xO pu;subst el eu;refine⟨"str",_,PySem.F.slot_str_getitem.lookup,typeIs_str _ _ _,wpAny_getItem_str_slice (l:=ql) (u:=qu) (st:=none) hs rfl ?_⟩;refine post_val_or_str (y:=z) (z:=⟨((slicePicked z ql qu none).filterMap (z.cps[·]?)).toArray⟩) (c:=((1:Int)==1&&(slicePicked z ql qu none).length==z.length)=true) ?_;have e:(if((1:Int)==1&&(slicePicked z ql qu none).length==z.length)=true then z else⟨((slicePicked z ql qu none).filterMap (z.cps[·]?)).toArray⟩)=vf z (ql.map (·.1)) (qu.map (·.1)):=qD z _ _;rw[e];refine⟨Nat.le_trans (by rw[←qD];exact Txt.slice_le z _ _) hz,fun t' k=>⟨.str (vf z (ql.map (Prod.fst:Int×Tok→Int)) (qu.map (Prod.fst:Int×Tok→Int))),H,I.tok k,⟨t',rfl⟩,h _ θ H (.refl hw) rfl⟩⟩
  ·exact h.elim
 | _=>exact ap h
theorem Gi {e:Expr}{g:GE}{p2 pos:Pos}{lo hi:Option Expr}{gl gh:GO}(he:QE X e g)(hl:QP X lo gl)(hh:QP X hi gh):QE X (.Subscript e (.Slice lo hi none p2) pos) (D9 g gl gh):=
 ⟨(vG Kl he.h hl.h hh.h).of fun σ H Q hxx=>by
  obtain⟨ρ,θ,M,hd,hw,h⟩:=hxx;refine b7 hd hw (aE X θ H Q) (fun c M' h=>h) (fun h=>h) h fun d M1 v θ1 H1 g1 r1 h1=>?_
  refine ye (hd.go g1) g1.wr (aE X θ1 H1 Q) (fun c M' h=>h) (fun h=>h) (h1.go g1) fun l M2 θ2 H2 g2 h2=>?_
  refine ye ((hd.go g1).go g2) g2.wr (aE X θ2 H2 Q) (fun c M' h=>h) (fun h=>h) (h2.go g2) fun u M3 θ3 H3 g3 h3=>?_
  exact⟨θ3,M3,d,g3.wr,r1.go (g2.trans g3),h3.go g3⟩⟩
def Df:F2:=fun x y M=>match x,y with
 | .str i,.str j=>.ok (.bl (!DZ j i)) M
 | x,y=>nU true x y M
theorem C4:fo X (compareOp .NotIn) (rD X Df):=by
 intro ae s σ H x y v u Q I rx ry h;obtain⟨θ,M,dx,dy,hw,r1,r2,h⟩:=h;have ap:aE X θ H Q (nU true dx dy M)→_:=fun h=>Bh ae s σ H x y v u Q I rx ry ⟨θ,M,dx,dy,hw,r1,r2,h⟩
 cases dx with
 | str i=>
  cases dy with
  | str j=>exact uw ae s σ H x y v u Q I rx ry ⟨i,j,r1,r2,h _ θ H (.refl hw) rfl⟩
  | _=>exact ap h
 | _=>exact ap h
theorem Hf:Q2 X (compareOp .NotIn) Df:=⟨C4⟩
variable {o e:Expr}{go ge:GE}{gA:GA}{apos cpos:Pos}
end
end DL
namespace DL
open PySem L2
def bN:Nat→D→Bool
 | 0,_=>false
 | f+1,d=>match d with
  | .mr _=>false
  | .tup xs=>xs.all (bN f)
  | .lst xs=>xs.all (bN f)
  | .ro xs=>xs.all (bN f)
  | _=>true
theorem cJ {f:D→Option D}:∀{xs:List D},(∀x∈xs,f x=some x)→bF f xs=some xs
 | [],_=>rfl
 | x::xs,h=>by
  unfold bF;rw[h x List.mem_cons_self,cJ fun y hy=>h y (List.mem_cons_of_mem _ hy)]
theorem lR {n:Nat}{M:au}:∀(f:Nat) (d:D),bN f d=true→frz n M f d=some d
 | 0,d,h=>by cases h
 | f+1,d,h=>by
  cases d with
  | mr k=>cases h
  | tup xs=>
   have h:xs.all (bN f)=true:=h;show(bF (frz n M f) xs).map D.tup=_;rw[cJ fun x hx=>lR f x (List.all_eq_true.mp h x hx)];rfl
  | lst xs=>
   have h:xs.all (bN f)=true:=h;show(bF (frz n M f) xs).map D.lst=_;rw[cJ fun x hx=>lR f x (List.all_eq_true.mp h x hx)];rfl
  | ro xs=>
   have h:xs.all (bN f)=true:=h;show(bF (frz n M f) xs).map D.ro=_;rw[cJ fun x hx=>lR f x (List.all_eq_true.mp h x hx)];rfl
  | _=>rfl
def A2:MO→Bool
 | .lst xs=>xs.all (bN 30)
 | .obj _ fs=>fs.all fun p=>bN 30 p.2
 | .dK fs=>fs.all fun p=>bN 30 p.2
 | .dT fs=>fs.all fun p=>bN 30 p.2
theorem nw {κ:Type}{f:D→Option D}:∀{fs:List (κ×D)},(∀p∈fs,f p.2=some p.2)→qt f fs=some fs
 | [],_=>rfl
 | (x,d)::fs,h=>by
  unfold qt;rw[h (x,d) List.mem_cons_self,nw fun y hy=>h y (List.mem_cons_of_mem _ hy)]
theorem rX {f:D→Option D}:∀{fs:List (Str×D)},(∀p∈fs,f p.2=some p.2)→v8 f fs=some fs
 | [],_=>rfl
 | (x,d)::fs,h=>by
  unfold v8;rw[h (x,d) List.mem_cons_self,rX fun y hy=>h y (List.mem_cons_of_mem _ hy)]
@[simp] theorem Ia (f:Nat) (i:Int):bN (f+1) (.int i)=true:=rfl
@[simp] theorem JI (f:Nat) (i:Bool):bN (f+1) (.bl i)=true:=rfl
@[simp] theorem HW (f:Nat):bN (f+1) .non=true:=rfl
@[simp] theorem HV (f:Nat) (x:Str):bN (f+1) (.str x)=true:=rfl
theorem Ib (f:Nat)(xs:List D):bN (f+1) (.tup xs)=xs.all (bN f):=rfl
theorem qO (f:Nat)(l:List Int):(l.map D.int).all (bN (f+1))=true:=by
 rw[List.all_map];exact List.all_eq_true.mpr fun x _=>rfl
end DL
namespace DL
open PySem L2
variable{ρ:bI}{M M1:au}
theorem av {a b:GS}{ρ1:bI}(h:a ρ M=.ok (.nx ρ1) M1):ax a b ρ M=b ρ1 M1:=by
 unfold ax;rw[h];rfl
variable{d:D}
theorem cg {a b:GS}(h:a ρ M=.ok (.rt d) M1):ax a b ρ M=.ok (.rt d) M1:=by
 unfold ax;rw[h];rfl
theorem du {t:GT}{a b:GS}(h:t ρ M=.ok true M1):fJ t a b ρ M=a ρ M1:=by
 unfold fJ;rw[h,ak,if_pos rfl]
theorem cz {t:GT}{a b:GS}(h:t ρ M=.ok false M1):fJ t a b ρ M=b ρ M1:=by
 unfold fJ;rw[h,ak,if_neg Bool.false_ne_true]
variable{i:Nat}{g:GE}
theorem aG (h:g ρ M=.ok d M1):aF i g ρ M=.ok (.nx (ρ.set i (some d))) M1:=by
 unfold aF;rw[h,ak]
theorem tJ (h:g ρ M=.ok d M1):gP g ρ M=.ok (.nx ρ) M1:=by
 unfold gP;rw[h,ak]
theorem aJ (h:g ρ M=.ok d M1):aH g ρ M=.ok (.rt d) M1:=by
 unfold aH;rw[h,ak]
variable{a:GE}{x:Bool}
theorem bA {b:GE}{y:Bool}(ha:a ρ M=.ok (.bl x) M)(hb:x=true→b ρ M=.ok (.bl y) M):dz a b ρ M=.ok (.bl (x&&y)) M:=by
 unfold dz;rw[ha,ak];cases x with
 | true=>exact hb rfl
 | false=>rfl
theorem Eo {b:GE}{y:Bool}(ha:a ρ M=.ok (.bl x) M)(hb:x=false→b ρ M=.ok (.bl y) M):EG a b ρ M=.ok (.bl (x||y)) M:=by
 unfold EG;rw[ha,ak];cases x with
 | true=>rfl
 | false=>exact hb rfl
theorem oq {a b:GT}{y:Bool}(ha:a ρ M=.ok x M)(hb:x=true→b ρ M=.ok y M):fH a b ρ M=.ok (x&&y) M:=by
 unfold fH;rw[ha,ak];cases x with
 | true=>exact hb rfl
 | false=>rfl
theorem et {a b:GT}{y:Bool}(ha:a ρ M=.ok x M)(hb:x=false→b ρ M=.ok y M):hW a b ρ M=.ok (x||y) M:=by
 unfold hW;rw[ha,ak];cases x with
 | true=>rfl
 | false=>exact hb rfl
theorem cr {a:GT}(ha:a ρ M=.ok x M):cH a ρ M=.ok (!x) M:=by
 unfold cH;rw[ha,ak]
theorem cy (ha:a ρ M=.ok (.bl x) M1):dG a ρ M=.ok x M1:=by
 unfold dG;rw[ha,ak];rfl
theorem bD (ha:a ρ M=.ok (.bl x) M1):aZ a ρ M=.ok x M1:=by
 unfold aZ;rw[ha,ak];rfl
variable{o:aO D}
theorem aB {f:F2}{b:GE}{M2:au}{x y:D}(ha:a ρ M=.ok x M1)(hb:b ρ M1=.ok y M2)(h:f x y M2=o):g2 f a b ρ M=o:=by
 unfold g2;rw[ha,ak,hb,ak,h]
variable{F:FD}
theorem eT {x:D}(ha:a ρ M=.ok x M1)(h:F [x] M1=o):aC F (aa a ai) ρ M=o:=by
 unfold aC aa ai;rw[ha,ak,ak,ak,h]
theorem aT {x:D}(ha:a ρ M=.ok x M1)(h:F [x] M1=o):aj 1 F (aa a ai) ρ M=o:=by
 unfold aj aa ai;rw[ha,ak,ak,ak,if_pos (show [x].length=1 from rfl),h]
theorem bC {b:GE}{M2:au}{x y:D}(ha:a ρ M=.ok x M1)(hb:b ρ M1=.ok y M2)(h:F [x,y] M2=o):aj 2 F (aa a (aa b ai)) ρ M=o:=by
 unfold aj aa ai;rw[ha,ak,hb,ak,ak,ak,ak,if_pos (show [x,y].length=2 from rfl),h]
theorem dI {b c:GE}{M2 M3:au}{x y z:D}(ha:a ρ M=.ok x M1)(hb:b ρ M1=.ok y M2)(hc:c ρ M2=.ok z M3)(h:F [x,y,z] M3=o):aj 3 F (aa a (aa b (aa c ai))) ρ M=o:=by
 unfold aj aa ai;rw[ha,ak,hb,ak,hc,ak,ak,ak,ak,ak,if_pos (show [x,y,z].length=3 from rfl),h]
theorem Ja {b c d:GE}{M2 M3 M4:au}{x y z u:D}(ha:a ρ M=.ok x M1)(hb:b ρ M1=.ok y M2)(hc:c ρ M2=.ok z M3)(hd:d ρ M3=.ok u M4)(h:F [x,y,z,u] M4=o):aj 4 F (aa a (aa b (aa c (aa d ai)))) ρ M=o:=by
 unfold aj aa ai;rw[ha,ak,hb,ak,hc,ak,hd,ak,ak,ak,ak,ak,ak,if_pos (show [x,y,z,u].length=4 from rfl),h]
theorem Cf {p:D→Bool}:∀xs:List D,bZ (xs.map fun d=>D.bl (p d))=some (xs.map p)
 | []=>rfl
 | x::xs=>by
  show(bZ (xs.map fun d=>D.bl (p d))).map (p x::·)=_;rw[Cf xs];rfl
variable{xs:List D}
theorem jM {gi:GI}{ge:GE}{p:D→Bool}(hi:gi ρ M=.ok ⟨xs,none⟩ M)(hl:xs.length≤100000)(h:∀x∈xs,ge (some x::ρ) M=.ok (.bl (p x)) M) :
  aC jG (aa (aM gi aU ge aA) ai) ρ M=.ok (.bl (xs.all p)) M:=by
 have c:=oP (ds0:=xs) (ge:=ge) (ρ:=ρ) (f:=fun d=>D.bl (p d)) (M:=M) xs h;have l1:(xs.map fun d=>D.bl (p d)).length≤sizeLine:=by rw[List.length_map];exact aQ (by omega)
 refine eT (x:=.lst (xs.map fun d=>D.bl (p d))) (M1:=M) ?_ ?_
 ·unfold aM;rw[hi,ak];dsimp only;rw[c,ak];unfold aA;rw[if_pos l1]
 ·show(match bE (.lst (xs.map fun d=>D.bl (p d))) M with|some xs=>(match bZ xs with|some bs=>aO.ok (D.bl (bs.all id)) M|none=>.bad)|none=>.bad)=_;show(match bZ (xs.map fun d=>D.bl (p d)) with|some bs=>aO.ok (D.bl (bs.all id)) M|none=>.bad)=_;rw[Cf];dsimp only;rw[List.all_map];rfl
theorem fT (h:ρ[i]?=some (some (.tup xs))):bq (af i) ρ M=.ok ⟨xs,none⟩ M:=by
 unfold bq af;rw[h];rfl
theorem s9 (h:ρ[i]?=some (some (.lst xs))):bq (af i) ρ M=.ok ⟨xs,none⟩ M:=by
 unfold bq af;rw[h];rfl
theorem Av (a b:Int)(M:au):bj false (.int a) (.int b) M=.ok (.bl (decide (a=b))) M:=by
 show aO.ok (D.bl ((a==b) != false)) M=_
 by_cases q:a=b <;> simp[q]
theorem yu (a b:Int)(M:au):bj true (.int a) (.int b) M=.ok (.bl (!decide (a=b))) M:=by
 show aO.ok (D.bl ((a==b) != true)) M=_
 by_cases q:a=b <;> simp[q]
theorem pO (M:au)(E:List D):(M++[MO.lst E])[M.length]?=some (.lst E):=by simp
theorem wH (M:au)(E E':List D):(M++[MO.lst E]).set M.length (.lst E')=M++[MO.lst E']:=by simp
variable{E:List D}
theorem GY (h:E.length<1000000):uX M.length d (M++[MO.lst E])=.ok .non (M++[MO.lst (E++[d])]):=by
 have l:E.length<sizeLine:=Nat.lt_of_lt_of_le h (by rw[sizeLine_eq];decide);unfold uX;rw[pO];dsimp only;rw[if_pos l,wH]
theorem Hc {go ge:GE}(h1:go ρ (M++[MO.lst E])=.ok (.mr M.length) (M++[MO.lst E]))(h2:ge ρ (M++[MO.lst E])=.ok d (M++[MO.lst E]))(h:E.length<1000000) :
  kL go ge ρ (M++[MO.lst E])=.ok .non (M++[MO.lst (E++[d])]):=by
 unfold kL;rw[h1,ak];dsimp only;rw[pO];dsimp only;rw[h2,ak,GY h]
variable{k:Nat}
theorem lc (h:xs[k]?=some d):bt (.lst xs) (.int k) M=.ok d M:=by
 have a:=ot (xs:=xs) (j:=k) h;unfold bt bE;dsimp only;rw[a]
theorem kE (h:xs[k]?=some d):bt (.tup xs) (.int k) M=.ok d M:=by
 have a:=ot (xs:=xs) (j:=k) h;unfold bt bE;dsimp only;rw[a]
theorem Cu :i6 ai ρ M=.ok (.mr M.length) (M++[.lst []]):=by
 show(if([]:List D).length≤sizeLine then aO.ok (D.mr M.length) (M++[.lst []]) else .bad)=_;rw[if_pos (show([]:List D).length≤sizeLine from Nat.zero_le _)]
variable{ga:GA}{ds:List D}
theorem dF (h:ga ρ M=.ok ds M1)(hl:ds.length≤100000:=by exact Nat.le_of_ble_eq_true rfl):bT ga ρ M=.ok (.tup ds) M1:=by
 have:ds.length≤sizeLine:=aQ (by omega);unfold bT;rw[h,ak];unfold oM;rw[if_pos this]
theorem fM (h:ga ρ M=.ok ds M1)(hl:ds.length≤100000:=by exact Nat.le_of_ble_eq_true rfl):eB ga ρ M=.ok (.lst ds) M1:=by
 have:ds.length≤sizeLine:=aQ (by omega);unfold eB;rw[h,ak];unfold aA;rw[if_pos this]
theorem aD {r:GA}{M2:au}(h:g ρ M=.ok d M1)(hr:r ρ M1=.ok ds M2):aa g r ρ M=.ok (d::ds) M2:=by
 unfold aa;rw[h,ak,hr,ak]
theorem HF {go ge:GE}{E1:List D}(h1:go ρ M=.ok (.mr k) M)(h2:M[k]?=some (.lst E))(h3:ge ρ M=.ok d M1)(h4:M1[k]?=some (.lst E1))(h:E1.length<1000000) :
  kL go ge ρ M=.ok .non (M1.set k (.lst (E1++[d]))):=by
 have l:E1.length<sizeLine:=Nat.lt_of_lt_of_le h (by rw[sizeLine_eq];decide);unfold kL;rw[h1,ak];dsimp only;rw[h2];dsimp only;rw[h3,ak];unfold uX;rw[h4];dsimp only;rw[if_pos l]
theorem ji {n:Nat}(h:ga ρ M=.ok [.int (n:Int)] M1)(hn:n≤1000000):dX ga ρ M=.ok ⟨a9 0 n,none⟩ M1:=by
 unfold dX;rw[h,ak,B3 hn]
theorem ng {gi:GI}{sg:GG}{b:GS}{t:iM}{o:aO Fl}(h:gi ρ M=.ok t M1)(e:dj t sg b t.ds ρ M1=o):nq gi sg b ρ M=o:=by
 unfold nq;rw[h,ak,e]
theorem Az {i j:Int}(h0:-1000000≤i)(h1:i≤1000000)(M:au):d9 (.int i) (.int j) M=.ok (.int (i*j)) M:=by
 have a:-(2 ^ 64:Int)<i:=Int.lt_of_lt_of_le (by decide) h0;have b:i<(2 ^ 64:Int):=Int.lt_of_le_of_lt h1 (by decide);unfold d9;dsimp only;rw[if_pos (.inl ⟨a,b⟩)]
theorem DX {i j:Int}(h0:0<j)(h1:j≤1000000)(M:au):fN (.int i) (.int j) M=.ok (.int (i / j)) M:=by
 have h2:j.natAbs<2 ^ 20:=by omega
 have h3:j.natAbs≠0:=by omega
 have h4:=(Nat.log2_lt h3).mpr h2;unfold fN;dsimp only;rw[if_pos ⟨h0,by omega⟩]
theorem CL (h:bw 40 d=true)(hs:nY d d=true)(hm:∀M,now d M=d)(M:au):bj true d d M=.ok (.bl false) M:=by
 unfold bj;rw[hm,h,hs];rfl
end DL
namespace DL
open PySem L2
def fI (n:Nat):Nat→D→Bool
 | 0,_=>false
 | f+1,d=>match d with
  | .mr k=>decide (k<n)
  | .tup xs=>xs.all (fI n f)
  | .lst xs=>xs.all (fI n f)
  | .ro xs=>xs.all (fI n f)
  | _=>true
theorem jy {n:Nat}{M:au}:∀(f:Nat) (d:D),fI n f d=true→frz n M f d=some d
 | 0,d,h=>by cases h
 | f+1,d,h=>by
  cases d with
  | mr k=>
   have h:decide (k<n)=true:=h;show(if k<n then some (D.mr k) else _)=_;rw[if_pos (of_decide_eq_true h)]
  | tup xs=>
   have h:xs.all (fI n f)=true:=h;show(bF (frz n M f) xs).map D.tup=_;rw[cJ fun x hx=>jy f x (List.all_eq_true.mp h x hx)];rfl
  | lst xs=>
   have h:xs.all (fI n f)=true:=h;show(bF (frz n M f) xs).map D.lst=_;rw[cJ fun x hx=>jy f x (List.all_eq_true.mp h x hx)];rfl
  | ro xs=>
   have h:xs.all (fI n f)=true:=h;show(bF (frz n M f) xs).map D.ro=_;rw[cJ fun x hx=>jy f x (List.all_eq_true.mp h x hx)];rfl
  | _=>rfl
theorem gL {n:Nat}:∀(f:Nat) (d:D),bN f d=true→fI n f d=true
 | 0,d,h=>by cases h
 | f+1,d,h=>by
  cases d with
  | mr k=>cases h
  | tup xs=>exact List.all_eq_true.mpr fun x hx=>gL f x (List.all_eq_true.mp (show xs.all (bN f)=true from h) x hx)
  | lst xs=>exact List.all_eq_true.mpr fun x hx=>gL f x (List.all_eq_true.mp (show xs.all (bN f)=true from h) x hx)
  | ro xs=>exact List.all_eq_true.mpr fun x hx=>gL f x (List.all_eq_true.mp (show xs.all (bN f)=true from h) x hx)
  | _=>rfl
theorem gQ {n m:Nat}(hn:n≤m):∀(f:Nat) (d:D),fI n f d=true→fI m f d=true
 | 0,d,h=>by cases h
 | f+1,d,h=>by
  cases d with
  | mr k=>exact decide_eq_true (Nat.lt_of_lt_of_le (of_decide_eq_true (show decide (k<n)=true from h)) hn)
  | tup xs=>exact List.all_eq_true.mpr fun x hx=>gQ hn f x (List.all_eq_true.mp (show xs.all (fI n f)=true from h) x hx)
  | lst xs=>exact List.all_eq_true.mpr fun x hx=>gQ hn f x (List.all_eq_true.mp (show xs.all (fI n f)=true from h) x hx)
  | ro xs=>exact List.all_eq_true.mpr fun x hx=>gQ hn f x (List.all_eq_true.mp (show xs.all (fI n f)=true from h) x hx)
  | _=>rfl
def pd (n:Nat):MO→Bool
 | .lst xs=>xs.all (fI n 30)
 | .obj _ fs=>fs.all fun p=>fI n 30 p.2
 | .dK fs=>fs.all fun p=>fI n 30 p.2
 | .dT fs=>fs.all fun p=>fI n 30 p.2
theorem yU {n m:Nat}(hn:n≤m){o:MO}(h:pd n o=true):pd m o=true:=by
 cases o with
 | lst xs=>exact List.all_eq_true.mpr fun x hx=>gQ hn 30 x (List.all_eq_true.mp (show xs.all (fI n 30)=true from h) x hx)
 | obj c fs=>exact List.all_eq_true.mpr fun x hx=>gQ hn 30 x.2 (List.all_eq_true.mp (show(fs.all fun p=>fI n 30 p.2)=true from h) x hx)
 | dK fs=>exact List.all_eq_true.mpr fun x hx=>gQ hn 30 x.2 (List.all_eq_true.mp (show(fs.all fun p=>fI n 30 p.2)=true from h) x hx)
 | dT fs=>exact List.all_eq_true.mpr fun x hx=>gQ hn 30 x.2 (List.all_eq_true.mp (show(fs.all fun p=>fI n 30 p.2)=true from h) x hx)
theorem kq {n:Nat}{o:MO}(h:A2 o=true):pd n o=true:=by
 cases o with
 | lst xs=>exact List.all_eq_true.mpr fun x hx=>gL 30 x (List.all_eq_true.mp (show xs.all (bN 30)=true from h) x hx)
 | obj c fs=>exact List.all_eq_true.mpr fun x hx=>gL 30 x.2 (List.all_eq_true.mp (show(fs.all fun p=>bN 30 p.2)=true from h) x hx)
 | dK fs=>exact List.all_eq_true.mpr fun x hx=>gL 30 x.2 (List.all_eq_true.mp (show(fs.all fun p=>bN 30 p.2)=true from h) x hx)
 | dT fs=>exact List.all_eq_true.mpr fun x hx=>gL 30 x.2 (List.all_eq_true.mp (show(fs.all fun p=>bN 30 p.2)=true from h) x hx)
theorem jP {n:Nat}{M:au}:∀{l:List MO},l.all (pd n)=true→hZ n M l=some l
 | [],_=>rfl
 | .lst xs::r,h=>by
  rw[List.all_cons,Bool.and_eq_true] at h;unfold hZ;rw[jP h.2];have h1:xs.all (fI n 30)=true:=h.1;rw[cJ fun x hx=>jy 30 x (List.all_eq_true.mp h1 x hx)]
 | .obj c fs::r,h=>by
  rw[List.all_cons,Bool.and_eq_true] at h;unfold hZ;rw[jP h.2];have h1:(fs.all fun p=>fI n 30 p.2)=true:=h.1;rw[rX fun p hp=>jy 30 p.2 (List.all_eq_true.mp h1 p hp)]
 | .dK fs::r,h=>by
  rw[List.all_cons,Bool.and_eq_true] at h;unfold hZ;rw[jP h.2];have h1:(fs.all fun p=>fI n 30 p.2)=true:=h.1;rw[nw fun p hp=>jy 30 p.2 (List.all_eq_true.mp h1 p hp)]
 | .dT fs::r,h=>by
  rw[List.all_cons,Bool.and_eq_true] at h;unfold hZ;rw[jP h.2];have h1:(fs.all fun p=>fI n 30 p.2)=true:=h.1;rw[nw fun p hp=>jy 30 p.2 (List.all_eq_true.mp h1 p hp)]
def iH (M:au):Prop:=M.all (pd M.length)=true
theorem iH.pure {M:au}(h:M.all A2=true):iH M:=List.all_eq_true.mpr fun x hx=>kq (List.all_eq_true.mp h x hx)
theorem xM {d:D}{M E:au}(hd:bN 30 d=true)(hM:iH M):lq M.length (.ok d (M++E))=.ok d M:=by
 unfold lq
 by_cases h:(M++E).length=M.length
 ·have:E=[]:=by
   rw[List.length_append] at h;exact List.length_eq_zero_iff.mp (by omega)
  subst this;simp
 ·simp only[if_neg h];rw[List.take_left,lR 30 d hd,jP hM]
end DL
namespace TS
open PySem PyProof.Rows PySem.W
def gallop':Bool→Keyed→Array Keyed→Nat→Nat→Nat→StateT SortSt Sem (Option Nat):=sortPriv% PySem.Builtin.gallop
variable{arr:Array Keyed}
section
variable {prog:Program}{w:World}{A:Around}{E:Value→Shared→Prop}{s:Shared}{κ:SortKind}{G:Keyed→Prop}{key:Keyed→Int}
def LtOk (prog:Program)(w:World)(A:Around)(s:Shared)(κ:SortKind)(G:Keyed→Prop)(key:Keyed→Int):Prop:=∀x y,G x→G y→∀C:Bool→Shared→Prop,C (decide (key x<key y)) s→wpAny (model prog w) A (keyLt' κ x.1 y.1) C (fun _ _=>False) s
theorem wpS_lt (hL:LtOk prog w A s κ G key){x y:Keyed}(hx:G x)(hy:G y){st:SortSt}(hk:kindOf st=κ){Q:Option Bool→SortSt→Prop}(h:Q (some (decide (key x<key y))) st):wpS (model prog w) A E s (lt' x y) Q st:=by
 rw[lt'_eq];refine wpS_bind (wpS_get ?_);rw[hk];refine wpS_bind (wpS_lift (wpAny_attempt (wpAny_mono (hL x y hx hy (fun b s'=>b=decide (key x<key y)∧s'=s) ⟨rfl,rfl⟩) (fun b s' hb=>?_) fun _ _ hF=>hF.elim)));obtain⟨rfl,rfl⟩:=hb;exact⟨rfl,wpS_pure h⟩
theorem wpS_elem {i:Nat}{x:Keyed}(hi:arr[i]?=some x){st:SortSt}{Q:Keyed→SortSt→Prop}(h:Q x st):wpS (model prog w) A E s (elem' arr i) Q st:=by
 rw[elem'_eq,hi];exact wpS_pure h
def bey (key:Keyed→Int)(left:Bool)(k x:Keyed):Bool:=if left then decide (key x<key k) else !decide (key k<key x)
theorem wpS_bey (hL:LtOk prog w A s κ G key){l:Bool}{k x:Keyed}{i:Nat}(hk:G k)(hx:G x)(hi:arr[i]?=some x){st:SortSt}(hst:kindOf st=κ){Q:Option Bool→SortSt→Prop}(h:Q (some (bey key l k x)) st) :
  wpS (model prog w) A E s (do let x ←elem' arr i;if l=true then lt' x k else do let r ←lt' k x;pure (Option.map (fun x=>!x) r)) Q st:=by
 refine wpS_bind (wpS_elem hi ?_);cases l with
 | true=>
  rw[if_pos rfl];exact wpS_lt hL hx hk hst h
 | false=>
  rw[if_neg Bool.false_ne_true];exact wpS_bind (wpS_lt hL hk hx hst (wpS_pure h))
structure Seek (key:Keyed→Int)(G:Keyed→Prop)(l:Bool)(k:Keyed)(arr:Array Keyed)(b n:Nat)(B:Nat→Bool):Prop where
 at_:∀i,i<n→∃x,arr[b+i]?=some x∧G x∧B i=bey key l k x
 mono:∀i j,i≤j→j<n→B j=true→B i=true
def Found (n:Nat)(B:Nat→Bool)(m:Nat):Prop:=m≤n∧(∀i,i<m→B i=true)∧∀i,m≤i→i<n→B i=false
theorem gallop_ok (hL:LtOk prog w A s κ G key){l:Bool}{k:Keyed}{b n hint:Nat}{B:Nat→Bool}(hk:G k)(hS:Seek key G l k arr b n B)(hh:hint<n){st:SortSt}(hst:kindOf st=κ){Q:Option Nat→SortSt→Prop}
  (h:∀m,Found n B m→Q (some m) st):wpS (model prog w) A E s (gallop' l k arr b n hint) Q st:=by
 have be:∀i,i<n→∀{Q:Option Bool→SortSt→Prop},Q (some (B i)) st→wpS (model prog w) A E s (do let x ←elem' arr (b+i);if l=true then lt' x k else do let r ←lt' k x;pure (Option.map (fun x=>!x) r)) Q st:=fun i hi Q hq=>by
  obtain⟨x,e,gx,eb⟩:=hS.at_ i hi;rw[eb] at hq;exact wpS_bey hL hk gx e hst hq
 have no:∀i j,i≤j→j<n→B i=false→B j=false:=fun i j h1 h2 h3=>by
  cases q:B j with
  | false=>rfl
  | true=>rw[hS.mono i j h1 h2 q] at h3;cases h3
 refine wpS_bind (be hint hh ?_);dsimp only;cases q:B hint with
 | true=>
  rw[if_pos rfl];refine wpS_bind (wpS_mono (wpS_forRange
   (I:=fun x c st'=>∃la of_,c=(none,la,of_)∧st'=st∧(la=0∨la<n-hint)∧la<of_∧x+1≤of_∧(hint+la<n→B (hint+la)=true))
   (Q:=fun c st'=>∃la of_,c=(none,la,of_)∧st'=st∧la<of_∧hint+la<n∧B (hint+la)=true∧(hint+of_<n→B (hint+of_)=false)) ?step ?fin ⟨0,1,rfl,rfl,.inl rfl,by decide,by decide,fun _=>q⟩) ?post)
  case fin=>
   rintro c st' ⟨la,of_,rfl,rfl,h1,h2,h3,h4⟩;rw[show max 0 n=n by omega] at h3;exact⟨la,of_,rfl,rfl,h2,by omega,h4 (by omega),fun z=>by omega⟩
  case step=>
   rintro x c st' _ hx ⟨la,of_,rfl,rfl,h1,h2,h3,h4⟩;dsimp only
   by_cases hm:of_≥n-hint
   ·rw[if_pos hm];exact wpS_pure ⟨la,of_,rfl,rfl,h2,by omega,h4 (by omega),fun z=>by omega⟩
   ·rw[if_neg hm];refine wpS_bind (be (hint+of_) (by omega) ?_);dsimp only;cases r:B (hint+of_) with
    | true=>exact wpS_pure ⟨of_,2*of_+1,rfl,rfl,.inr (by omega),by omega,by omega,fun _=>r⟩
    | false=>exact wpS_pure ⟨la,of_,rfl,rfl,h2,by omega,h4 (by omega),fun _=>r⟩
  case post=>
   rintro c st' ⟨la,of_,rfl,rfl,h2,h3,h4,h5⟩;dsimp only;refine wpS_bind (wpS_mono (wpS_forRange
    (I:=fun x c st''=>∃lo hi,c=(none,lo,hi)∧st''=st'∧lo≤hi∧hi≤n∧hi-lo≤n-x∧(∀i,i<lo→B i=true)∧∀i,hi≤i→i<n→B i=false)
    (Q:=fun c st''=>∃lo hi,c=(none,lo,hi)∧st''=st'∧Found n B hi) ?step2 ?fin2 ⟨_,_,rfl,rfl,by omega,by omega,by omega,fun i hi=>hS.mono i (hint+la) (by omega) h3 h4,fun i h6 h7=>?low2⟩) ?post2)
   case low2=>
    by_cases z:of_≤n-hint
    ·rw[Nat.min_eq_left z] at h6;exact no (hint+of_) i h6 h7 (h5 (by omega))
    ·rw[Nat.min_eq_right (by omega)] at h6;omega
   case fin2=>
    rintro c st'' ⟨lo,hi,rfl,rfl,g1,g2,g3,g4,g5⟩;rw[show max 0 n=n by omega] at g3;exact⟨lo,hi,rfl,rfl,g2,fun i hi=>g4 i (by omega),g5⟩
   case step2=>
    rintro x c st'' _ hx ⟨lo,hi,rfl,rfl,g1,g2,g3,g4,g5⟩;dsimp only
    by_cases hm:lo≥hi
    ·rw[if_pos hm];exact wpS_pure ⟨lo,hi,rfl,rfl,g2,fun i hi=>g4 i (by omega),g5⟩
    ·rw[if_neg hm];refine wpS_bind (be (lo+(hi-lo) / 2) (by omega) ?_);dsimp only;cases r:B (lo+(hi-lo) / 2) with
     | true=>exact wpS_pure ⟨_,_,rfl,rfl,by omega,by omega,by omega,fun i hi=>hS.mono i _ (by omega) (by omega) r,g5⟩
     | false=>exact wpS_pure ⟨_,_,rfl,rfl,by omega,by omega,by omega,g4,fun i z1 z2=>no _ i z1 z2 r⟩
   case post2=>
    rintro c st'' ⟨lo,hi,rfl,rfl,g⟩;exact wpS_pure (h hi g)
 | false=>
  rw[if_neg Bool.false_ne_true];refine wpS_bind (wpS_mono (wpS_forRange
   (I:=fun x c st'=>∃la of_,c=(none,la,of_)∧st'=st∧la≤hint∧la<of_∧x+1≤of_∧B (hint-la)=false)
   (Q:=fun c st'=>∃la of_,c=(none,la,of_)∧st'=st∧la<of_∧la≤hint∧B (hint-la)=false∧(of_≤hint→B (hint-of_)=true)) ?step3 ?fin3 ⟨0,1,rfl,rfl,by omega,by decide,by decide,q⟩) ?post3)
  case fin3=>
   rintro c st' ⟨la,of_,rfl,rfl,h1,h2,h3,h4⟩;rw[show max 0 n=n by omega] at h3;exact⟨la,of_,rfl,rfl,h2,h1,h4,fun z=>by omega⟩
  case step3=>
   rintro x c st' _ hx ⟨la,of_,rfl,rfl,h1,h2,h3,h4⟩;dsimp only
   by_cases hm:of_≥hint+1
   ·rw[if_pos hm];exact wpS_pure ⟨la,of_,rfl,rfl,h2,h1,h4,fun z=>by omega⟩
   ·rw[if_neg hm];refine wpS_bind (be (hint-of_) (by omega) ?_);dsimp only;cases r:B (hint-of_) with
    | true=>exact wpS_pure ⟨la,of_,rfl,rfl,h2,h1,h4,fun _=>r⟩
    | false=>exact wpS_pure ⟨of_,2*of_+1,rfl,rfl,by omega,by omega,by omega,r⟩
  case post3=>
   rintro c st' ⟨la,of_,rfl,rfl,h2,h3,h4,h5⟩;dsimp only;refine wpS_bind (wpS_mono (wpS_forRange
    (I:=fun x c st''=>∃lo hi,c=(none,lo,hi)∧st''=st'∧lo≤hi∧hi≤n∧hi-lo≤n-x∧(∀i,i<lo→B i=true)∧∀i,hi≤i→i<n→B i=false)
    (Q:=fun c st''=>∃lo hi,c=(none,lo,hi)∧st''=st'∧Found n B hi) ?step4 ?fin4 ⟨_,_,rfl,rfl,by omega,by omega,by omega,fun i hi=>?low4,fun i h6 h7=>no _ i h6 h7 h4⟩) ?post4)
   case low4=>
    by_cases z:of_≤hint+1
    ·rw[Nat.min_eq_left z] at hi;exact hS.mono i (hint-of_) (by omega) (by omega) (h5 (by omega))
    ·rw[Nat.min_eq_right (by omega)] at hi;omega
   case fin4=>
    rintro c st'' ⟨lo,hi,rfl,rfl,g1,g2,g3,g4,g5⟩;rw[show max 0 n=n by omega] at g3;exact⟨lo,hi,rfl,rfl,g2,fun i hi=>g4 i (by omega),g5⟩
   case step4=>
    rintro x c st'' _ hx ⟨lo,hi,rfl,rfl,g1,g2,g3,g4,g5⟩;dsimp only
    by_cases hm:lo≥hi
    ·rw[if_pos hm];exact wpS_pure ⟨lo,hi,rfl,rfl,g2,fun i hi=>g4 i (by omega),g5⟩
    ·rw[if_neg hm];refine wpS_bind (be (lo+(hi-lo) / 2) (by omega) ?_);dsimp only;cases r:B (lo+(hi-lo) / 2) with
     | true=>exact wpS_pure ⟨_,_,rfl,rfl,by omega,by omega,by omega,fun i hi=>hS.mono i _ (by omega) (by omega) r,g5⟩
     | false=>exact wpS_pure ⟨_,_,rfl,rfl,by omega,by omega,by omega,g4,fun i z1 z2=>no _ i z1 z2 r⟩
   case post4=>
    rintro c st'' ⟨lo,hi,rfl,rfl,g⟩;exact wpS_pure (h hi g)
end
end TS
namespace TS
open PySem PyProof.Rows PySem.W
structure Mg (R:Keyed→Keyed→Prop)(W out RA RB:List Keyed):Prop where
 perm:(out++(RA++RB)).Perm W
 up:out.Pairwise R
 le:∀x∈out,∀y∈RA++RB,R x y
section
variable {R:Keyed→Keyed→Prop}{W out RA RB XS:List Keyed}{x:Keyed}
theorem Mg.swap (h:Mg R W out RA RB):Mg R W out RB RA:=⟨(List.Perm.append_left _ List.perm_append_comm).trans h.perm,h.up,fun x hx y hy=>h.le x hx y (by
 rcases List.mem_append.mp hy with z|z
 ·exact List.mem_append_right _ z
 ·exact List.mem_append_left _ z)⟩
theorem Mg.as (h:Mg R W out (XS++RA) RB)(hs:(XS++RA).Pairwise R)(hx:∀x∈XS,∀y∈RB,R x y):Mg R W (out++XS) RA RB:=by
 rw[List.pairwise_append] at hs;refine⟨?_,?_,fun x hx' y hy=>?_⟩
 ·have:=h.perm;rw[List.append_assoc,←List.append_assoc XS];exact this
 ·rw[List.pairwise_append];exact⟨h.up,hs.1,fun x h1 y h2=>h.le x h1 y (List.mem_append_left _ (List.mem_append_left _ h2))⟩
 ·rcases List.mem_append.mp hx' with z|z
  ·refine h.le x z y ?_;rcases List.mem_append.mp hy with u|u
   ·exact List.mem_append_left _ (List.mem_append_right _ u)
   ·exact List.mem_append_right _ u
  ·rcases List.mem_append.mp hy with u|u
   ·exact hs.2.2 x z y u
   ·exact hx x z y u
theorem Mg.a (h:Mg R W out (x::RA) RB)(hs:(x::RA).Pairwise R)(hx:∀y∈RB,R x y):Mg R W (out++[x]) RA RB:=
 Mg.as (XS:=[x]) h hs fun z hz y hy=>by rw[List.mem_singleton.mp hz];exact hx y hy
theorem Mg.fin (h:Mg R W out RA [])(hs:RA.Pairwise R):(out++RA).Perm W∧(out++RA).Pairwise R:=by
 refine⟨by have:=h.perm;rwa [List.append_nil] at this,?_⟩;rw[List.pairwise_append];exact⟨h.up,hs,fun x h1 y h2=>h.le x h1 y (List.mem_append_left _ h2)⟩
end
variable{i:Nat}{x:Keyed}
theorem drop_at {a:Array Keyed}(h:a[i]?=some x):a.toList.drop i=x::a.toList.drop (i+1):=by
 rw[←Array.getElem?_toList] at h;obtain⟨hi,e⟩:=List.getElem?_eq_some_iff.mp h;rw[List.drop_eq_getElem_cons hi,e]
theorem at_of {a:Array Keyed}(h:i<a.size):∃x,a[i]?=some x∧x∈a.toList:=⟨a[i],getElem?_pos _ i h,by simp⟩
theorem mem_drop {a:Array Keyed}(h:x∈a.toList.drop i):∃j,a[i+j]?=some x:=by
 obtain⟨j,hj,e⟩:=List.getElem_of_mem h;refine⟨j,?_⟩;rw[←Array.getElem?_toList,←e,←List.getElem?_drop,List.getElem?_eq_getElem hj]
theorem mem_take {a:Array Keyed}{k:Nat}(h:x∈(a.toList.drop i).take k):∃j,j<k∧a[i+j]?=some x:=by
 obtain⟨j,hj,e⟩:=List.getElem_of_mem h;rw[List.length_take] at hj;refine⟨j,by omega,?_⟩;rw[←Array.getElem?_toList,←e,←List.getElem?_drop,List.getElem_take,List.getElem?_eq_getElem]
def leK (key:Keyed→Int)(x y:Keyed):Prop:=key x≤key y
variable{k:Keyed}
section
variable {key:Keyed→Int}{G:Keyed→Prop}
theorem up_at {a:Array Keyed}(h:a.toList.Pairwise (leK key)){j:Nat}{y:Keyed}(hij:i≤j)(hx:a[i]?=some x)(hy:a[j]?=some y):key x≤key y:=by
 rw[←Array.getElem?_toList] at hx hy;obtain⟨hi,ex⟩:=List.getElem?_eq_some_iff.mp hx;obtain⟨hj,ey⟩:=List.getElem?_eq_some_iff.mp hy
 by_cases e:i=j
 ·subst e;rw[←ex,←ey];exact Int.le_refl _
 ·rw[←ex,←ey];exact(List.pairwise_iff_getElem.mp h) i j hi hj (by omega)
def seekB (key:Keyed→Int)(l:Bool)(k:Keyed)(a:Array Keyed)(b i:Nat):Bool:=match a[b+i]? with
 | some x=>bey key l k x
 | none=>false
theorem seek_of {a:Array Keyed}{l:Bool}{b n:Nat}(hG:∀i x,b≤i→i<b+n→a[i]?=some x→G x)(hU:∀i j x y,b≤i→i≤j→j<b+n→a[i]?=some x→a[j]?=some y→key x≤key y)(hn:b+n≤a.size):Seek key G l k a b n (seekB key l k a b):=by
 refine⟨fun i hi=>?_,fun i j hij hj h=>?_⟩
 ·obtain⟨x,e,_⟩:=at_of (a:=a) (i:=b+i) (by omega);exact⟨x,e,hG _ x (by omega) (by omega) e,by unfold seekB;rw[e]⟩
 ·obtain⟨x,e,_⟩:=at_of (a:=a) (i:=b+i) (by omega);obtain⟨y,e2,_⟩:=at_of (a:=a) (i:=b+j) (by omega);have le:=hU (b+i) (b+j) x y (by omega) (by omega) (by omega) e e2;unfold seekB at h ⊢;rw[e2] at h;rw[e];dsimp only at h ⊢;unfold bey at h ⊢;cases l with
  | true=>
   rw[if_pos rfl] at h ⊢;have:=of_decide_eq_true h;exact decide_eq_true (by omega)
  | false=>
   rw[if_neg Bool.false_ne_true] at h ⊢;rw[Bool.not_eq_true',decide_eq_false_iff_not] at h ⊢;omega
theorem found_r {a:Array Keyed}{b n m:Nat}(h:Found n (seekB key false k a b) m):(∀i x,i<m→a[b+i]?=some x→key x≤key k)∧∀i x,m≤i→i<n→a[b+i]?=some x→key k<key x:=by
 refine⟨fun i x hi e=>?_,fun i x h1 h2 e=>?_⟩
 ·have:=h.2.1 i hi;unfold seekB at this;rw[e] at this;dsimp only at this;unfold bey at this;rw[if_neg Bool.false_ne_true,Bool.not_eq_true',decide_eq_false_iff_not] at this;omega
 ·have:=h.2.2 i h1 h2;unfold seekB at this;rw[e] at this;dsimp only at this;unfold bey at this;rw[if_neg Bool.false_ne_true,Bool.not_eq_false',decide_eq_true_eq] at this;exact this
theorem found_l {a:Array Keyed}{b n m:Nat}(h:Found n (seekB key true k a b) m):(∀i x,i<m→a[b+i]?=some x→key x<key k)∧∀i x,m≤i→i<n→a[b+i]?=some x→key k≤key x:=by
 refine⟨fun i x hi e=>?_,fun i x h1 h2 e=>?_⟩
 ·have:=h.2.1 i hi;unfold seekB at this;rw[e] at this;dsimp only at this;unfold bey at this;rw[if_pos rfl,decide_eq_true_eq] at this;exact this
 ·have:=h.2.2 i h1 h2;unfold seekB at this;rw[e] at this;dsimp only at this;unfold bey at this;rw[if_pos rfl,decide_eq_false_iff_not] at this;omega
end
structure Sm (st st':SortSt):Prop where
 kind:kindOf st'=kindOf st
 arr:arrOf st'=arrOf st
 pend:pendingOf st'=pendingOf st
 fail:failedOf st'=failedOf st
theorem Sm.refl (st:SortSt):Sm st st:=⟨rfl,rfl,rfl,rfl⟩
def mergeLo':Array Keyed→Array Keyed→StateT SortSt Sem (Array Keyed):=sortPriv% PySem.Builtin.mergeLo
def mergeHi':Array Keyed→Array Keyed→StateT SortSt Sem (Array Keyed):=sortPriv% PySem.Builtin.mergeHi
structure Two (key:Keyed→Int)(G:Keyed→Prop)(a b:Array Keyed):Prop where
 ua:a.toList.Pairwise (leK key)
 ub:b.toList.Pairwise (leK key)
 ga:∀x∈a.toList,G x
 gb:∀x∈b.toList,G x
 na:1≤a.size
 nb:1≤b.size
 first:∀y,b[0]?=some y→∀x∈a.toList,key y≤key x
 last:∀x,a[a.size-1]?=some x→∀y∈b.toList,key y≤key x
def Good (key:Keyed→Int)(a b:Array Keyed)(r:Array Keyed):Prop:=r.toList.Perm (a.toList++b.toList)∧r.toList.Pairwise (leK key)
section
variable {key:Keyed→Int}{G:Keyed→Prop}{a b out:Array Keyed}{ia ib:Nat}
theorem ext_l (a:Array Keyed)(i:Nat):(a.extract i a.size).toList=a.toList.drop i:=by
 rw[Array.toList_extract,List.extract_eq_drop_take,List.take_of_length_le];rw[List.length_drop,Array.length_toList];exact Nat.le_refl _
theorem ext_m (a:Array Keyed)(i k:Nat):(a.extract i (i+k)).toList=(a.toList.drop i).take k:=by
 simp[Array.toList_extract,List.extract_eq_drop_take]
def LI (key:Keyed→Int)(a b out:Array Keyed)(ia ib:Nat):Prop:=Mg (leK key) (a.toList++b.toList) out.toList (a.toList.drop ia) (b.toList.drop ib)∧out.size=ia+ib
theorem LI.pb (T:Two key G a b)(h:LI key a b out ia ib){y:Keyed}(hy:b[ib]?=some y)(hle:∀x∈a.toList.drop ia,key y≤key x):LI key a b (out.push y) ia (ib+1):=by
 refine⟨?_,by rw[Array.size_push,h.2];omega⟩;have m:=h.1;rw[drop_at hy] at m;rw[Array.toList_push];exact(Mg.a m.swap (by rw[←drop_at hy];exact T.ub.drop) hle).swap
theorem LI.pa (T:Two key G a b)(h:LI key a b out ia ib)(hx:a[ia]?=some x)(hle:∀y∈b.toList.drop ib,key x≤key y):LI key a b (out.push x) (ia+1) ib:=by
 refine⟨?_,by rw[Array.size_push,h.2];omega⟩;have m:=h.1;rw[drop_at hx] at m;rw[Array.toList_push];exact Mg.a m (by rw[←drop_at hx];exact T.ua.drop) hle
theorem LI.as (T:Two key G a b)(h:LI key a b out ia ib){k:Nat}(hk:ia+k≤a.size)(hle:∀x∈(a.toList.drop ia).take k,∀y∈b.toList.drop ib,key x≤key y):LI key a b (out++a.extract ia (ia+k)) (ia+k) ib:=by
 refine⟨?_,by rw[Array.size_append,h.2,Array.size_extract];omega⟩;have m:=h.1;have e:a.toList.drop ia=(a.toList.drop ia).take k++a.toList.drop (ia+k):=by rw[←List.drop_drop,List.take_append_drop]
 rw[e] at m;rw[Array.toList_append,ext_m];exact Mg.as m (by rw[←e];exact T.ua.drop) hle
theorem LI.bs (T:Two key G a b)(h:LI key a b out ia ib){k:Nat}(hk:ib+k≤b.size)(hle:∀y∈(b.toList.drop ib).take k,∀x∈a.toList.drop ia,key y≤key x):LI key a b (out++b.extract ib (ib+k)) ia (ib+k):=by
 refine⟨?_,by rw[Array.size_append,h.2,Array.size_extract];omega⟩;have m:=h.1;have e:b.toList.drop ib=(b.toList.drop ib).take k++b.toList.drop (ib+k):=by rw[←List.drop_drop,List.take_append_drop]
 rw[e] at m;rw[Array.toList_append,ext_m];exact(Mg.as m.swap (by rw[←e];exact T.ub.drop) hle).swap
theorem LI.doneB (T:Two key G a b)(h:LI key a b out ia ib)(hb:ib=b.size):Good key a b (out++a.extract ia a.size++b.extract ib b.size):=by
 have m:=h.1;have e:b.toList.drop ib=[]:=List.drop_of_length_le (by rw[Array.length_toList];omega);rw[e] at m;have f:=m.fin T.ua.drop;unfold Good;rw[Array.toList_append,Array.toList_append,ext_l,ext_l,e,List.append_nil];exact f
theorem LI.doneA (T:Two key G a b)(h:LI key a b out ia ib)(hb:ia=a.size):Good key a b (out++a.extract ia a.size++b.extract ib b.size):=by
 have m:=h.1;have e:a.toList.drop ia=[]:=List.drop_of_length_le (by rw[Array.length_toList];omega);rw[e] at m;have f:=m.swap.fin T.ub.drop;unfold Good;rw[Array.toList_append,Array.toList_append,ext_l,ext_l,e,List.append_nil];exact f
theorem LI.last (T:Two key G a b)(h:LI key a b out ia ib)(hb:ia+1=a.size):Good key a b (out++b.extract ib b.size++a.extract ia a.size):=by
 obtain⟨x,e,_⟩:=at_of (a:=a) (i:=ia) (by omega);have hl:=T.last x (by rw[←hb];exact e);have m:=h.1.swap;have e1:a.toList.drop ia=[x]:=by
  rw[drop_at e,List.drop_of_length_le (by rw[Array.length_toList];omega)]
 have u:(b.toList.drop ib++[]).Pairwise (leK key):=by rw[List.append_nil];exact T.ub.drop
 have m2:=Mg.as (XS:=b.toList.drop ib) (RA:=[]) (RB:=a.toList.drop ia) (by rw[List.append_nil];exact m) u fun z hz y hy=>by
  rw[e1] at hy;rw[List.mem_singleton.mp hy];exact hl z (List.mem_of_mem_drop hz)
 have f:=m2.swap.fin T.ua.drop;unfold Good;rw[Array.toList_append,Array.toList_append,ext_l,ext_l];exact f
end
end TS
namespace TS
open PySem PyProof.Rows PySem.W
section
variable {prog:Program}{w:World}{A:Around}{E:Value→Shared→Prop}{s:Shared}{κ:SortKind}{G:Keyed→Prop}{key:Keyed→Int}
def setMG':Nat→StateT SortSt Sem Unit:=sortPriv% PySem.Builtin.setMinGallop
theorem wpS_mg {g:Nat}{st:SortSt}{Q:Unit→SortSt→Prop}(h:∀st',Sm st st'→Q () st'):wpS (model prog w) A E s (setMG' g) Q st:=by
 refine wpS_modify (h _ ⟨rfl,rfl,rfl,rfl⟩)
theorem Sm.trans {a b c:SortSt}(h1:Sm a b)(h2:Sm b c):Sm a c:=⟨h2.kind.trans h1.kind,h2.arr.trans h1.arr,h2.pend.trans h1.pend,h2.fail.trans h1.fail⟩
theorem wpS_ite {α:Type}{c:Prop}[Decidable c]{x y:StateT SortSt Sem α}{Q:α→SortSt→Prop}{st:SortSt}(h1:c→wpS (model prog w) A E s x Q st)(h2:¬c→wpS (model prog w) A E s y Q st):wpS (model prog w) A E s (if c then x else y) Q st:=by
 by_cases h:c
 ·rw[if_pos h];exact h1 h
 ·rw[if_neg h];exact h2 h
theorem seek_in {a:Array Keyed}(hu:a.toList.Pairwise (leK key))(hg:∀x∈a.toList,G x){l:Bool}{k:Keyed}{b n:Nat}(h:b+n≤a.size):Seek key G l k a b n (seekB key l k a b):=
 seek_of (fun i x _ _ e=>hg x (by rw[←Array.getElem?_toList] at e;exact List.mem_of_getElem? e)) (fun i j x y _ hij _ ex ey=>up_at hu hij ex ey) h
theorem mergeLo_ok (hL:LtOk prog w A s κ G key){a b:Array Keyed}(T:Two key G a b){st:SortSt}(hst:kindOf st=κ){Q:Array Keyed→SortSt→Prop}(h:∀r st',Good key a b r→Sm st st'→Q r st') :
  wpS (model prog w) A E s (mergeLo' a b) Q st:=by
 refine wpS_bind (wpS_lift (wpAny_rule ⟨rfl,?_⟩));obtain⟨y0,e0,_⟩:=at_of (a:=b) (i:=0) (by have:=T.nb;omega);refine wpS_bind (wpS_elem e0 ?_);have l0:LI key a b #[y0] 0 1:=LI.pb (out:=#[]) T ⟨⟨by simp,List.Pairwise.nil,fun x hx=>by cases hx⟩,rfl⟩ e0 (T.first y0 e0);have ta:=T.na;have tb:=T.nb;refine wpS_ite (fun c1=>?_) (fun c1=>?_)
 ·exact wpS_pure (h _ st (l0.doneB T (eq_of_beq c1)) (Sm.refl _))
 refine wpS_ite (fun c2=>?_) (fun c2=>?_)
 ·exact wpS_pure (h _ st (l0.last T (eq_of_beq c2)) (Sm.refl _))
 have c1:1≠b.size:=fun z=>c1 (beq_iff_eq.mpr z)
 have c2:0+1≠a.size:=fun z=>c2 (beq_iff_eq.mpr z)
 refine wpS_bind (wpS_get ?_);refine wpS_bind (wpS_mono (wpS_forRange
  (I:=fun x c st'=>∃out ia ib mg,c=(none,out,ia,ib,mg)∧LI key a b out ia ib∧ia+1<a.size∧ib<b.size∧x+1≤out.size∧Sm st st')
  (Q:=fun c st'=>∃r,c.1=some r∧Good key a b r∧Sm st st') ?step ?fin ⟨#[y0],0,1,_,rfl,l0,by omega,by omega,Nat.le_refl _,Sm.refl _⟩) ?post)
 case fin=>
  rintro c st' ⟨out,ia,ib,mg,rfl,l,h1,h2,h3,sm⟩;have:=l.2;omega
 case post=>
  rintro ⟨r',ap⟩ st' ⟨r,e,g,sm⟩;have e:r'=some r:=e;subst e;exact wpS_pure (h r st' g sm)
 case step=>
  rintro x c st1 _ hx ⟨out,ia,ib,mg,rfl,l,h1,h2,h3,sm⟩;refine wpS_bind (wpS_mono (wpS_forRange
   (I:=fun x2 c st'=>∃out' ia' ib' ac bc,c=(none,out',ia',ib',ac,bc)∧LI key a b out' ia' ib'∧ia'+1<a.size∧ib'<b.size∧out.size+x2≤out'.size∧st'=st1)
   (Q:=fun c st'=>st'=st1∧((∃r,c.1=some r∧Good key a b r)∨∃out' ia' ib' ac bc,c=(none,out',ia',ib',ac,bc)∧LI key a b out' ia' ib'∧ia'+1<a.size∧ib'<b.size∧out.size+1≤out'.size)) ?step2 ?fin2 ⟨out,ia,ib,0,0,rfl,l,h1,h2,Nat.le_refl _,rfl⟩) ?post2)
  case fin2=>
   rintro c st' ⟨out',ia',ib',ac,bc,rfl,l',g1,g2,g3,rfl⟩;exact⟨rfl,.inr ⟨out',ia',ib',ac,bc,rfl,l',g1,g2,by omega⟩⟩
  case step2=>
   rintro x2 c st' _ hx2 ⟨out',ia',ib',ac,bc,rfl,l',g1,g2,g3,rfl⟩;obtain⟨y,ey,my⟩:=at_of (a:=b) (i:=ib') g2;obtain⟨z,ez,mz⟩:=at_of (a:=a) (i:=ia') (by omega);refine wpS_bind (wpS_elem ey (wpS_bind (wpS_elem ez (wpS_bind (wpS_lt hL (T.gb y my) (T.ga z mz) (sm.kind.trans hst) ?_)))))
   try dsimp only
   by_cases hc:key y<key z
   ·rw[decide_eq_true hc,if_pos rfl];refine wpS_bind (wpS_elem ey ?_);have l2:=l'.pb T ey fun u hu=>by
     obtain⟨j,ej⟩:=mem_drop hu;have:=up_at T.ua (Nat.le_add_right ia' j) ez ej;omega
    refine wpS_ite (fun k1=>?_) (fun k1=>?_)
    ·exact wpS_pure ⟨rfl,.inl ⟨_,rfl,l2.doneB T (eq_of_beq k1)⟩⟩
    have k1:ib'+1≠b.size:=fun z=>k1 (beq_iff_eq.mpr z)
    by_cases k2:bc+1≥mg
    ·rw[if_pos k2];exact wpS_pure ⟨rfl,.inr ⟨_,_,_,_,_,rfl,l2,g1,by omega,by rw[Array.size_push];omega⟩⟩
    ·rw[if_neg k2];exact wpS_pure ⟨_,_,_,_,_,rfl,l2,g1,by omega,by rw[Array.size_push];omega,rfl⟩
   ·rw[decide_eq_false hc,if_neg Bool.false_ne_true];refine wpS_bind (wpS_elem ez ?_);have l2:=l'.pa T ez fun u hu=>by
     obtain⟨j,ej⟩:=mem_drop hu;have:=up_at T.ub (Nat.le_add_right ib' j) ey ej;omega
    refine wpS_ite (fun k1=>?_) (fun k1=>?_)
    ·exact wpS_pure ⟨rfl,.inl ⟨_,rfl,l2.last T (eq_of_beq k1)⟩⟩
    have k1:ia'+1+1≠a.size:=fun z=>k1 (beq_iff_eq.mpr z)
    by_cases k2:ac+1≥mg
    ·rw[if_pos k2];exact wpS_pure ⟨rfl,.inr ⟨_,_,_,_,_,rfl,l2,by omega,g2,by rw[Array.size_push];omega⟩⟩
    ·rw[if_neg k2];exact wpS_pure ⟨_,_,_,_,_,rfl,l2,by omega,g2,by rw[Array.size_push];omega,rfl⟩
  case post2=>
   rintro c st' ⟨rfl,⟨r,e,g⟩|⟨out',ia',ib',ac,bc,rfl,l',g1,g2,g3⟩⟩
   ·obtain⟨r',ap⟩:=c;have e:r'=some r:=e;subst e;exact wpS_pure ⟨r,rfl,g,sm⟩
   ·dsimp only;refine wpS_bind (wpS_lift (wpAny_rule ⟨rfl,?_⟩));refine wpS_bind (wpS_mono (wpS_forRange
     (I:=fun x3 c st3=>∃out2 ia2 ib2 mg2 ac2 bc2,c=(none,out2,ia2,ib2,mg2,ac2,bc2)∧LI key a b out2 ia2 ib2∧ia2+1<a.size∧ib2<b.size∧out.size+1≤out2.size∧Sm st st3)
     (Q:=fun c st3=>Sm st st3∧((∃r,c.1=some r∧Good key a b r)∨∃out2 ia2 ib2 mg2 ac2 bc2,c=(none,out2,ia2,ib2,mg2,ac2,bc2)∧LI key a b out2 ia2 ib2∧ia2+1<a.size∧ib2<b.size∧out.size+1≤out2.size)) ?step3 ?fin3 ⟨out',ia',ib',_,ac,bc,rfl,l',g1,g2,g3,sm⟩) ?post3)
    case fin3=>
     rintro c st3 ⟨out2,ia2,ib2,mg2,ac2,bc2,rfl,l2,p1,p2,p3,sm3⟩;exact⟨sm3,.inr ⟨out2,ia2,ib2,mg2,ac2,bc2,rfl,l2,p1,p2,p3⟩⟩
    case post3=>
     rintro c st3 ⟨sm3,⟨r,e,g⟩|⟨out2,ia2,ib2,mg2,ac2,bc2,rfl,l2,p1,p2,p3⟩⟩
     ·obtain⟨r',ap⟩:=c;have e:r'=some r:=e;subst e;exact wpS_pure ⟨r,rfl,g,sm3⟩
     ·try dsimp only
      refine wpS_bind (wpS_mg fun st4 sm4=>wpS_pure ⟨out2,ia2,ib2,_,rfl,l2,p1,p2,by omega,sm3.trans sm4⟩)
    case step3=>
     rintro x3 c st3 _ hx3 ⟨out2,ia2,ib2,mg2,ac2,bc2,rfl,l2,p1,p2,p3,sm3⟩
     try dsimp only
     obtain⟨y,ey,my⟩:=at_of (a:=b) (i:=ib2) p2;refine wpS_ite (fun _=>?_) (fun _=>?_)
     all_goals
      refine wpS_bind (wpS_mg fun st4 sm4=>?_);have sm5:Sm st st4:=sm3.trans sm4;have k4:kindOf st4=κ:=sm5.kind.trans hst;refine wpS_bind (wpS_elem ey (wpS_bind (gallop_ok hL (T.gb y my) (seek_in T.ua T.ga (by omega)) (by omega) k4 fun k fk=>?_)));obtain⟨f1,f2⟩:=found_r fk;have kle:=fk.1;have hy:∀x∈a.toList.drop (ia2+k),key y≤key x:=fun x hx=>by
       obtain⟨j,ej⟩:=mem_drop hx;have hj:ia2+k+j<a.size:=by rw[←Array.getElem?_toList] at ej;have:=(List.getElem?_eq_some_iff.mp ej).1;rwa [Array.length_toList] at this
       have:=f2 (k+j) x (by omega) (by omega) (by rw[←Nat.add_assoc];exact ej);omega
      apply wpS_ite
      case' h1=>
       intro hk;have l3:=l2.as T (k:=k) (by omega) fun x hx z hz=>by
        obtain⟨j,hj,ej⟩:=mem_take hx;obtain⟨i,ei⟩:=mem_drop hz;have h1:=f1 j x hj ej;have h2:=up_at T.ub (Nat.le_add_right ib2 i) ey ei;omega
       have s3:out2.size≤(out2++a.extract ia2 (ia2+k)).size:=by rw[Array.size_append];omega
       generalize out2++a.extract ia2 (ia2+k)=out3 at *;refine wpS_ite (fun r1=>?_) (fun r1=>?_)
       ·exact wpS_pure ⟨sm5,.inl ⟨_,rfl,l3.last T (eq_of_beq r1)⟩⟩
       refine wpS_ite (fun r2=>?_) (fun r2=>?_)
       ·exact wpS_pure ⟨sm5,.inl ⟨_,rfl,l3.doneA T (eq_of_beq r2)⟩⟩
       have r1:ia2+k+1≠a.size:=fun z=>r1 (beq_iff_eq.mpr z)
       have r2:ia2+k≠a.size:=fun z=>r2 (beq_iff_eq.mpr z)
       have q1:ia2+k+1<a.size:=by omega
       generalize ia2+k=ia3 at *
      case' h2=>
       intro hk;have l3:=l2;have q1:=p1;have s3:out2.size≤out2.size:=Nat.le_refl _;rw[show ia2+k=ia2 by omega] at hy;generalize ia2=ia3 at *;generalize out2=out3 at *
      all_goals
       refine wpS_bind (wpS_elem ey ?_);have l4:=l3.pb T ey hy;refine wpS_ite (fun r3=>?_) (fun r3=>?_)
       ·exact wpS_pure ⟨sm5,.inl ⟨_,rfl,l4.doneB T (eq_of_beq r3)⟩⟩
       have r3:ib2+1≠b.size:=fun z=>r3 (beq_iff_eq.mpr z)
       obtain⟨z,ez,mz⟩:=at_of (a:=a) (i:=ia3) (by omega);refine wpS_bind (wpS_elem ez (wpS_bind (gallop_ok hL (T.ga z mz) (seek_in T.ub T.gb (by omega)) (by omega) k4 fun k' fk'=>?_)));obtain⟨f3,f4⟩:=found_l fk';have kle':=fk'.1;have hz:∀x∈b.toList.drop (ib2+1+k'),key z≤key x:=fun x hx=>by
        obtain⟨j,ej⟩:=mem_drop hx;have hj:ib2+1+k'+j<b.size:=by rw[←Array.getElem?_toList] at ej;have:=(List.getElem?_eq_some_iff.mp ej).1;rwa [Array.length_toList] at this
        exact f4 (k'+j) x (by omega) (by omega) (by rw[←Nat.add_assoc];exact ej)
       apply wpS_ite
       case' h1=>
        intro hk';have l5:=l4.bs T (k:=k') (by omega) fun x hx u hu=>by
         obtain⟨j,hj,ej⟩:=mem_take hx;obtain⟨i,ei⟩:=mem_drop hu;have h1:=f3 j x hj ej;have h2:=up_at T.ua (Nat.le_add_right ia3 i) ez ei;omega
        have s5:out3.size≤(out3.push y++b.extract (ib2+1) (ib2+1+k')).size:=by rw[Array.size_append,Array.size_push];omega
        generalize out3.push y++b.extract (ib2+1) (ib2+1+k')=out5 at *;refine wpS_ite (fun r4=>?_) (fun r4=>?_)
        ·exact wpS_pure ⟨sm5,.inl ⟨_,rfl,l5.doneB T (eq_of_beq r4)⟩⟩
        have r4:ib2+1+k'≠b.size:=fun z=>r4 (beq_iff_eq.mpr z)
        have q2:ib2+1+k'<b.size:=by omega
        generalize ib2+1+k'=ib5 at *
       case' h2=>
        intro hk';have l5:=l4;have q2:ib2+1<b.size:=by omega
        have s5:out3.size≤(out3.push y).size:=by rw[Array.size_push];omega
        rw[show ib2+1+k'=ib2+1 by omega] at hz;generalize out3.push y=out5 at *;generalize ib2+1=ib5 at *
       all_goals
        refine wpS_bind (wpS_elem ez ?_);have l6:=l5.pa T ez hz;refine wpS_ite (fun r5=>?_) (fun r5=>?_)
        ·exact wpS_pure ⟨sm5,.inl ⟨_,rfl,l6.last T (eq_of_beq r5)⟩⟩
        have r5:ia3+1+1≠a.size:=fun z=>r5 (beq_iff_eq.mpr z)
        refine wpS_ite (fun _=>?_) (fun _=>?_)
        ·exact wpS_pure ⟨sm5,.inr ⟨_,_,_,_,_,_,rfl,l6,by omega,q2,by rw[Array.size_push];omega⟩⟩
        ·exact wpS_pure ⟨_,_,_,_,_,_,rfl,l6,by omega,q2,by rw[Array.size_push];omega,sm5⟩
end
end TS
namespace TS
open PySem PyProof.Rows PySem.W
def geK (key:Keyed→Int)(x y:Keyed):Prop:=key y≤key x
variable{a:Array Keyed}{x:Keyed}
theorem take_at {n:Nat}(h1:1≤n)(h:a[n-1]?=some x):(a.toList.take n).reverse=x::(a.toList.take (n-1)).reverse:=by
 rw[←Array.getElem?_toList] at h;have e:a.toList.take n=a.toList.take (n-1)++[x]:=by
  rw[show n=n-1+1 by omega,List.take_add_one,h];simp
 rw[e,List.reverse_append];rfl
theorem mem_first {n:Nat}(h:x∈a.toList.take n):∃j,j<n∧a[j]?=some x:=by
 obtain⟨j,h1,h2⟩:=mem_take (a:=a) (i:=0) (k:=n) (by rw[List.drop_zero];exact h);rw[Nat.zero_add] at h2;exact⟨j,h1,h2⟩
variable{l:List Keyed}
section
variable {key:Keyed→Int}{G:Keyed→Prop}{a b out:Array Keyed}{na nb:Nat}
theorem down_of (h:l.Pairwise (leK key)):l.reverse.Pairwise (geK key):=List.pairwise_reverse.mpr h
def HI (key:Keyed→Int)(a b out:Array Keyed)(na nb:Nat):Prop:=Mg (geK key) (a.toList++b.toList) out.toList (a.toList.take na).reverse (b.toList.take nb).reverse∧out.size+na+nb=a.size+b.size
theorem HI.pa (T:Two key G a b)(h:HI key a b out na nb)(h1:1≤na)(hx:a[na-1]?=some x)(hle:∀y∈b.toList.take nb,key y≤key x):HI key a b (out.push x) (na-1) nb:=by
 refine⟨?_,by rw[Array.size_push];have:=h.2;omega⟩;have m:=h.1;rw[take_at h1 hx] at m;rw[Array.toList_push];exact Mg.a m (by rw[←take_at h1 hx];exact down_of T.ua.take) fun y hy=>hle y (List.mem_reverse.mp hy)
theorem HI.pb (T:Two key G a b)(h:HI key a b out na nb){y:Keyed}(h1:1≤nb)(hy:b[nb-1]?=some y)(hle:∀x∈a.toList.take na,key x≤key y):HI key a b (out.push y) na (nb-1):=by
 refine⟨?_,by rw[Array.size_push];have:=h.2;omega⟩;have m:=h.1;rw[take_at h1 hy] at m;rw[Array.toList_push];exact(Mg.a m.swap (by rw[←take_at h1 hy];exact down_of T.ub.take) fun y hy=>hle y (List.mem_reverse.mp hy)).swap
theorem take_two (a:Array Keyed){m n:Nat}(h:m≤n):(a.toList.take n).reverse=((a.toList.drop m).take (n-m)).reverse++(a.toList.take m).reverse:=by
 rw[←List.reverse_append];congr 1;have:n=m+(n-m):=by omega
 conv=>lhs;rw[this,List.take_add]
theorem ext_r (a:Array Keyed)(m n:Nat):(a.extract m n).reverse.toList=((a.toList.drop m).take (n-m)).reverse:=by
 rw[Array.toList_reverse,Array.toList_extract,List.extract_eq_drop_take]
theorem HI.as (T:Two key G a b)(h:HI key a b out na nb){m:Nat}(hm:m≤na)(hn:na≤a.size)(hle:∀x∈(a.toList.drop m).take (na-m),∀y∈b.toList.take nb,key y≤key x):HI key a b (out++(a.extract m na).reverse) m nb:=by
 refine⟨?_,by rw[Array.size_append,Array.size_reverse,Array.size_extract];have:=h.2;omega⟩;have t:=h.1;rw[take_two a hm] at t;rw[Array.toList_append,ext_r];exact Mg.as t (by rw[←take_two a hm];exact down_of T.ua.take) fun x hx y hy=>hle x (List.mem_reverse.mp hx) y (List.mem_reverse.mp hy)
theorem HI.bs (T:Two key G a b)(h:HI key a b out na nb){m:Nat}(hm:m≤nb)(hn:nb≤b.size)(hle:∀y∈(b.toList.drop m).take (nb-m),∀x∈a.toList.take na,key x≤key y):HI key a b (out++(b.extract m nb).reverse) na m:=by
 refine⟨?_,by rw[Array.size_append,Array.size_reverse,Array.size_extract];have:=h.2;omega⟩;have t:=h.1;rw[take_two b hm] at t;rw[Array.toList_append,ext_r];exact(Mg.as t.swap (by rw[←take_two b hm];exact down_of T.ub.take) fun x hx y hy=>hle x (List.mem_reverse.mp hx) y (List.mem_reverse.mp hy)).swap
theorem ext_f (a:Array Keyed)(n:Nat):(a.extract 0 n).toList=a.toList.take n:=by
 rw[Array.toList_extract,List.extract_eq_drop_take,List.drop_zero,Nat.sub_zero]
theorem good_rev (h:l.Perm (a.toList++b.toList)∧l.Pairwise (geK key)){r:Array Keyed}(e:r.toList=l.reverse):Good key a b r:=by
 unfold Good;rw[e];exact⟨(List.reverse_perm l).trans h.1,List.pairwise_reverse.mpr h.2⟩
theorem HI.doneA (T:Two key G a b)(h:HI key a b out na nb)(h0:na=0):Good key a b (a.extract 0 na++b.extract 0 nb++out.reverse):=by
 subst h0;have m:=h.1;rw[List.take_zero,List.reverse_nil] at m;refine good_rev (m.swap.fin (down_of T.ub.take)) ?_;rw[Array.toList_append,Array.toList_append,ext_f,ext_f,Array.toList_reverse,List.reverse_append,List.reverse_reverse];rfl
theorem HI.doneB (T:Two key G a b)(h:HI key a b out na nb)(h0:nb=0):Good key a b (a.extract 0 na++b.extract 0 nb++out.reverse):=by
 subst h0;have m:=h.1;rw[List.take_zero,List.reverse_nil] at m;refine good_rev (m.fin (down_of T.ua.take)) ?_;rw[Array.toList_append,Array.toList_append,ext_f,ext_f,Array.toList_reverse,List.reverse_append,List.reverse_reverse,List.take_zero,List.append_nil]
theorem HI.first (T:Two key G a b)(h:HI key a b out na nb)(h0:nb=1):Good key a b (b.extract 0 nb++a.extract 0 na++out.reverse):=by
 subst h0;obtain⟨y,e,_⟩:=at_of (a:=b) (i:=0) (by have:=T.nb;omega);have hl:=T.first y e;have e1:(b.toList.take 1).reverse=[y]:=by
  rw[take_at (Nat.le_refl 1) (by exact e)];simp
 have u:((a.toList.take na).reverse++[]).Pairwise (geK key):=by rw[List.append_nil];exact down_of T.ua.take
 have m2:=Mg.as (XS:=(a.toList.take na).reverse) (RA:=[]) (RB:=(b.toList.take 1).reverse) (by rw[List.append_nil];exact h.1) u fun z hz x hx=>by
  rw[e1] at hx;rw[List.mem_singleton.mp hx];exact hl z (List.mem_of_mem_take (List.mem_reverse.mp hz))
 refine good_rev (m2.swap.fin (down_of T.ub.take)) ?_;rw[Array.toList_append,Array.toList_append,ext_f,ext_f,Array.toList_reverse,List.reverse_append,List.reverse_append,List.reverse_reverse,List.reverse_reverse,List.append_assoc]
end
section
variable {prog:Program}{w:World}{A:Around}{E:Value→Shared→Prop}{s:Shared}{κ:SortKind}{G:Keyed→Prop}{key:Keyed→Int}
theorem mergeHi_ok (hL:LtOk prog w A s κ G key){b:Array Keyed}(T:Two key G a b){st:SortSt}(hst:kindOf st=κ){Q:Array Keyed→SortSt→Prop}(h:∀r st',Good key a b r→Sm st st'→Q r st') :
  wpS (model prog w) A E s (mergeHi' a b) Q st:=by
 refine wpS_bind (wpS_lift (wpAny_rule ⟨rfl,?_⟩));have ta:=T.na;have tb:=T.nb;obtain⟨x0,e0,m0⟩:=at_of (a:=a) (i:=a.size-1) (by omega);refine wpS_bind (wpS_elem e0 ?_);have l0:HI key a b #[x0] (a.size-1) b.size:=HI.pa (out:=#[]) T (na:=a.size) ⟨⟨by
  rw[List.take_of_length_le (by rw[Array.length_toList];exact Nat.le_refl _),List.take_of_length_le (by rw[Array.length_toList];exact Nat.le_refl _)];exact(List.reverse_perm _).append (List.reverse_perm _),List.Pairwise.nil,fun x hx=>by cases hx⟩,by simp⟩ ta e0 fun y hy=>T.last x0 e0 y (List.mem_of_mem_take hy)
 refine wpS_ite (fun c1=>?_) (fun c1=>?_)
 ·exact wpS_pure (h _ st (l0.doneA T (eq_of_beq c1)) (Sm.refl _))
 refine wpS_ite (fun c2=>?_) (fun c2=>?_)
 ·exact wpS_pure (h _ st (l0.first T (eq_of_beq c2)) (Sm.refl _))
 have c1:a.size-1≠0:=fun z=>c1 (beq_iff_eq.mpr z)
 have c2:b.size≠1:=fun z=>c2 (beq_iff_eq.mpr z)
 refine wpS_bind (wpS_get ?_);refine wpS_bind (wpS_mono (wpS_forRange
  (I:=fun x c st'=>∃na nb out mg,c=(none,na,nb,out,mg)∧HI key a b out na nb∧1≤na∧na≤a.size∧2≤nb∧nb≤b.size∧x+1≤out.size∧Sm st st')
  (Q:=fun c st'=>∃r,c.1=some r∧Good key a b r∧Sm st st') ?step ?fin ⟨_,_,#[x0],_,rfl,l0,by omega,by omega,by omega,by omega,Nat.le_refl _,Sm.refl _⟩) ?post)
 case fin=>
  rintro c st' ⟨na,nb,out,mg,rfl,l,h1,h1',h2,h2',h3,sm⟩;have:=l.2;omega
 case post=>
  rintro ⟨r',ap⟩ st' ⟨r,e,g,sm⟩;have e:r'=some r:=e;subst e;exact wpS_pure (h r st' g sm)
 case step=>
  rintro x c st1 _ hx ⟨na,nb,out,mg,rfl,l,h1,h1',h2,h2',h3,sm⟩;refine wpS_bind (wpS_mono (wpS_forRange
   (I:=fun x2 c st'=>∃na2 nb2 out2 ac bc,c=(none,na2,nb2,out2,ac,bc)∧HI key a b out2 na2 nb2∧1≤na2∧na2≤a.size∧2≤nb2∧nb2≤b.size∧out.size+x2≤out2.size∧st'=st1)
   (Q:=fun c st'=>st'=st1∧((∃r,c.1=some r∧Good key a b r)∨∃na2 nb2 out2 ac bc,c=(none,na2,nb2,out2,ac,bc)∧HI key a b out2 na2 nb2∧1≤na2∧na2≤a.size∧2≤nb2∧nb2≤b.size∧out.size+1≤out2.size)) ?step2 ?fin2 ⟨na,nb,out,0,0,rfl,l,h1,h1',h2,h2',Nat.le_refl _,rfl⟩) ?post2)
  case fin2=>
   rintro c st' ⟨na2,nb2,out2,ac,bc,rfl,l',g1,g1',g2,g2',g3,rfl⟩;exact⟨rfl,.inr ⟨na2,nb2,out2,ac,bc,rfl,l',g1,g1',g2,g2',by omega⟩⟩
  case step2=>
   rintro x2 c st' _ hx2 ⟨na2,nb2,out2,ac,bc,rfl,l',g1,g1',g2,g2',g3,rfl⟩;obtain⟨y,ey,my⟩:=at_of (a:=b) (i:=nb2-1) (by omega);obtain⟨z,ez,mz⟩:=at_of (a:=a) (i:=na2-1) (by omega);refine wpS_bind (wpS_elem ey (wpS_bind (wpS_elem ez (wpS_bind (wpS_lt hL (T.gb y my) (T.ga z mz) (sm.kind.trans hst) ?_)))))
   try dsimp only
   by_cases hc:key y<key z
   ·rw[decide_eq_true hc,if_pos rfl];refine wpS_bind (wpS_elem ez ?_);have l2:=l'.pa T g1 ez fun u hu=>by
     obtain⟨j,hj,ej⟩:=mem_first hu;have:=up_at T.ub (show j≤nb2-1 by omega) ej ey;omega
    refine wpS_ite (fun k1=>?_) (fun k1=>?_)
    ·exact wpS_pure ⟨rfl,.inl ⟨_,rfl,l2.doneA T (eq_of_beq k1)⟩⟩
    have k1:na2-1≠0:=fun z=>k1 (beq_iff_eq.mpr z)
    refine wpS_ite (fun _=>?_) (fun _=>?_)
    ·exact wpS_pure ⟨rfl,.inr ⟨_,_,_,_,_,rfl,l2,by omega,by omega,g2,g2',by rw[Array.size_push];omega⟩⟩
    ·exact wpS_pure ⟨_,_,_,_,_,rfl,l2,by omega,by omega,g2,g2',by rw[Array.size_push];omega,rfl⟩
   ·rw[decide_eq_false hc,if_neg Bool.false_ne_true];refine wpS_bind (wpS_elem ey ?_);have l2:=l'.pb T (by omega) ey fun u hu=>by
     obtain⟨j,hj,ej⟩:=mem_first hu;have:=up_at T.ua (show j≤na2-1 by omega) ej ez;omega
    refine wpS_ite (fun k1=>?_) (fun k1=>?_)
    ·exact wpS_pure ⟨rfl,.inl ⟨_,rfl,l2.first T (eq_of_beq k1)⟩⟩
    have k1:nb2-1≠1:=fun z=>k1 (beq_iff_eq.mpr z)
    refine wpS_ite (fun _=>?_) (fun _=>?_)
    ·exact wpS_pure ⟨rfl,.inr ⟨_,_,_,_,_,rfl,l2,g1,g1',by omega,by omega,by rw[Array.size_push];omega⟩⟩
    ·exact wpS_pure ⟨_,_,_,_,_,rfl,l2,g1,g1',by omega,by omega,by rw[Array.size_push];omega,rfl⟩
  case post2=>
   rintro c st' ⟨rfl,⟨r,e,g⟩|⟨na2,nb2,out2,ac,bc,rfl,l',g1,g1',g2,g2',g3⟩⟩
   ·obtain⟨r',ap⟩:=c;have e:r'=some r:=e;subst e;exact wpS_pure ⟨r,rfl,g,sm⟩
   ·try dsimp only
    refine wpS_bind (wpS_lift (wpAny_rule ⟨rfl,?_⟩));refine wpS_bind (wpS_mono (wpS_forRange
     (I:=fun x3 c st3=>∃na3 nb3 out3 mg3 ac3 bc3,c=(none,na3,nb3,out3,mg3,ac3,bc3)∧HI key a b out3 na3 nb3∧1≤na3∧na3≤a.size∧2≤nb3∧nb3≤b.size∧out.size+1≤out3.size∧Sm st st3)
     (Q:=fun c st3=>Sm st st3∧((∃r,c.1=some r∧Good key a b r)∨∃na3 nb3 out3 mg3 ac3 bc3,c=(none,na3,nb3,out3,mg3,ac3,bc3)∧HI key a b out3 na3 nb3∧1≤na3∧na3≤a.size∧2≤nb3∧nb3≤b.size∧out.size+1≤out3.size)) ?step3 ?fin3 ⟨na2,nb2,out2,_,ac,bc,rfl,l',g1,g1',g2,g2',g3,sm⟩) ?post3)
    case fin3=>
     rintro c st3 ⟨na3,nb3,out3,mg3,ac3,bc3,rfl,l2,p1,p1',p2,p2',p3,sm3⟩;exact⟨sm3,.inr ⟨na3,nb3,out3,mg3,ac3,bc3,rfl,l2,p1,p1',p2,p2',p3⟩⟩
    case post3=>
     rintro c st3 ⟨sm3,⟨r,e,g⟩|⟨na3,nb3,out3,mg3,ac3,bc3,rfl,l2,p1,p1',p2,p2',p3⟩⟩
     ·obtain⟨r',ap⟩:=c;have e:r'=some r:=e;subst e;exact wpS_pure ⟨r,rfl,g,sm3⟩
     ·try dsimp only
      refine wpS_bind (wpS_mg fun st4 sm4=>wpS_pure ⟨na3,nb3,out3,_,rfl,l2,p1,p1',p2,p2',by omega,sm3.trans sm4⟩)
    case step3=>
     rintro x3 c st3 _ hx3 ⟨na3,nb3,out3,mg3,ac3,bc3,rfl,l2,p1,p1',p2,p2',p3,sm3⟩
     try dsimp only
     obtain⟨y,ey,my⟩:=at_of (a:=b) (i:=nb3-1) (by omega);refine wpS_ite (fun _=>?_) (fun _=>?_)
     all_goals
      refine wpS_bind (wpS_mg fun st4 sm4=>?_);have sm5:Sm st st4:=sm3.trans sm4;have k4:kindOf st4=κ:=sm5.kind.trans hst;refine wpS_bind (wpS_elem ey (wpS_bind (gallop_ok hL (T.gb y my) (seek_in T.ua T.ga (by omega)) (by omega) k4 fun m fk=>?_)));obtain⟨f1,f2⟩:=found_r fk;have kle:=fk.1;have hy:∀x∈a.toList.take m,key x≤key y:=fun x hx=>by
       obtain⟨j,hj,ej⟩:=mem_first hx;exact f1 j x hj (by rw[Nat.zero_add];exact ej)
      apply wpS_ite
      case' h1=>
       intro hk;have l3:=l2.as T (m:=m) kle p1' fun x hx z hz=>by
        obtain⟨j,hj,ej⟩:=mem_take hx;obtain⟨i,hi,ei⟩:=mem_first hz;have h1:=f2 (m+j) x (by omega) (by omega) (by rw[Nat.zero_add];exact ej);have h2:=up_at T.ub (show i≤nb3-1 by omega) ei ey;omega
       have s3:out3.size≤(out3++(a.extract m na3).reverse).size:=by rw[Array.size_append];omega
       generalize out3++(a.extract m na3).reverse=out4 at *;refine wpS_ite (fun r1=>?_) (fun r1=>?_)
       ·exact wpS_pure ⟨sm5,.inl ⟨_,rfl,l3.doneA T (eq_of_beq r1)⟩⟩
       have r1:m≠0:=fun z=>r1 (beq_iff_eq.mpr z)
       have q1:1≤m:=by omega
       have q1':m≤a.size:=by omega
       generalize hmm:m=na4 at hy l3 q1 q1' ⊢
      case' h2=>
       intro hk;have l3:=l2;have q1:=p1;have q1':=p1';have s3:out3.size≤out3.size:=Nat.le_refl _;rw[show m=na3 by omega] at hy;generalize hmm:na3=na4 at hy l3 q1 q1' ⊢;generalize out3=out4 at *
      all_goals
       refine wpS_bind (wpS_elem ey ?_);have l4:=l3.pb T (by omega) ey hy;refine wpS_ite (fun r3=>?_) (fun r3=>?_)
       ·exact wpS_pure ⟨sm5,.inl ⟨_,rfl,l4.first T (eq_of_beq r3)⟩⟩
       have r3:nb3-1≠1:=fun z=>r3 (beq_iff_eq.mpr z)
       obtain⟨z,ez,mz⟩:=at_of (a:=a) (i:=na4-1) (by omega);refine wpS_bind (wpS_elem ez (wpS_bind (gallop_ok hL (T.ga z mz) (seek_in T.ub T.gb (by omega)) (by omega) k4 fun m' fk'=>?_)));obtain⟨f3,f4⟩:=found_l fk';have kle':=fk'.1;have hz:∀x∈b.toList.take m',key x≤key z:=fun x hx=>by
        obtain⟨j,hj,ej⟩:=mem_first hx;have:=f3 j x hj (by rw[Nat.zero_add];exact ej);omega
       apply wpS_ite
       case' h1=>
        intro hk';have l5:=l4.bs T (m:=m') kle' (by omega) fun x hx u hu=>by
         obtain⟨j,hj,ej⟩:=mem_take hx;obtain⟨i,hi,ei⟩:=mem_first hu;have h1:=f4 (m'+j) x (by omega) (by omega) (by rw[Nat.zero_add];exact ej);have h2:=up_at T.ua (show i≤na4-1 by omega) ei ez;omega
        have s5:out4.size≤(out4.push y++(b.extract m' (nb3-1)).reverse).size:=by rw[Array.size_append,Array.size_push];omega
        generalize out4.push y++(b.extract m' (nb3-1)).reverse=out5 at *;refine wpS_ite (fun r4=>?_) (fun r4=>?_)
        ·exact wpS_pure ⟨sm5,.inl ⟨_,rfl,l5.first T (eq_of_beq r4)⟩⟩
        refine wpS_ite (fun r5=>?_) (fun r5=>?_)
        ·exact wpS_pure ⟨sm5,.inl ⟨_,rfl,l5.doneB T (eq_of_beq r5)⟩⟩
        have r4:m'≠1:=fun z=>r4 (beq_iff_eq.mpr z)
        have r5:m'≠0:=fun z=>r5 (beq_iff_eq.mpr z)
        have q2:2≤m':=by omega
        have q2':m'≤b.size:=by omega
        generalize hmm2:m'=nb5 at hz l5 q2 q2' ⊢
       case' h2=>
        intro hk';have l5:=l4;have q2:2≤nb3-1:=by omega
        have q2':nb3-1≤b.size:=by omega
        have s5:out4.size≤(out4.push y).size:=by rw[Array.size_push];omega
        rw[show m'=nb3-1 by omega] at hz;generalize out4.push y=out5 at *;generalize hmm2:nb3-1=nb5 at hz l5 q2 q2' ⊢
       all_goals
        refine wpS_bind (wpS_elem ez ?_);have l6:=l5.pa T (by omega) ez hz;refine wpS_ite (fun r6=>?_) (fun r6=>?_)
        ·exact wpS_pure ⟨sm5,.inl ⟨_,rfl,l6.doneA T (eq_of_beq r6)⟩⟩
        have r6:na4-1≠0:=fun z=>r6 (beq_iff_eq.mpr z)
        refine wpS_ite (fun _=>?_) (fun _=>?_)
        ·exact wpS_pure ⟨sm5,.inr ⟨_,_,_,_,_,_,rfl,l6,by omega,by omega,q2,q2',by rw[Array.size_push];omega⟩⟩
        ·exact wpS_pure ⟨_,_,_,_,_,_,rfl,l6,by omega,by omega,q2,q2',by rw[Array.size_push];omega,sm5⟩
end
end TS
namespace TS
open PySem PyProof.Rows PySem.W
theorem fold_at {α:Type}(sa:Nat):∀(l:List α) (n:Nat) (a:Array α) (k:Nat),((l.zipIdx n).foldl (fun a (p,j)=>a.setIfInBounds (sa+j) p) a)[k]?=if sa+n≤k∧k<sa+n+l.length∧k<a.size then l[k-(sa+n)]? else a[k]?
 | [],n,a,k=>by
  rw[if_neg (by simp;omega)];rfl
 | x::l,n,a,k=>by
  rw[List.zipIdx_cons,List.foldl_cons,fold_at sa l (n+1)];dsimp only;rw[Array.size_setIfInBounds,Array.getElem?_setIfInBounds,List.length_cons]
  by_cases h1:sa+n=k
  ·subst h1;rw[if_neg (by omega),if_pos rfl]
   by_cases h2:sa+n<a.size
   ·rw[if_pos h2,if_pos ⟨by omega,by omega,h2⟩,Nat.sub_self];rfl
   ·rw[if_neg h2,if_neg (by omega)];exact(Array.getElem?_eq_none (by omega)).symm
  ·rw[if_neg h1]
   by_cases h2:sa+(n+1)≤k∧k<sa+(n+1)+l.length∧k<a.size
   ·rw[if_pos h2,if_pos ⟨by omega,by omega,h2.2.2⟩,show k-(sa+n)=k-(sa+(n+1))+1 by omega,List.getElem?_cons_succ]
   ·rw[if_neg h2,if_neg (by omega)]
theorem fold_list {α:Type}{a:Array α}{m:Array α}{sa:Nat}{P X S:List α}(ha:a.toList=P++(X++S))(hp:P.length=sa)(hx:X.length=m.size):(m.toList.zipIdx.foldl (fun a (p,j)=>a.setIfInBounds (sa+j) p) a).toList=P++(m.toList++S):=by
 have hs:a.size=P.length+(X.length+S.length):=by rw[←Array.length_toList,ha,List.length_append,List.length_append]
 apply List.ext_getElem?;intro k;rw[Array.getElem?_toList,fold_at sa m.toList 0 a k,Nat.add_zero,Array.length_toList,←Array.getElem?_toList,ha]
 by_cases h1:k<sa
 ·rw[if_neg (by omega),List.getElem?_append_left (by omega),List.getElem?_append_left (by omega)]
 ·have e1:(P++(X++S))[k]?=(X++S)[k-sa]?:=by rw[List.getElem?_append_right (by omega),hp]
  have e2:(P++(m.toList++S))[k]?=(m.toList++S)[k-sa]?:=by rw[List.getElem?_append_right (by omega),hp]
  rw[e1,e2]
  by_cases h2:k<sa+m.size
  ·rw[if_pos ⟨by omega,h2,by omega⟩,List.getElem?_append_left (by rw[Array.length_toList];omega)]
  ·have e3:(X++S)[k-sa]?=S[k-sa-m.size]?:=by rw[List.getElem?_append_right (by omega),hx]
   have e4:(m.toList++S)[k-sa]?=S[k-sa-m.size]?:=by rw[List.getElem?_append_right (by rw[Array.length_toList];omega),Array.length_toList]
   rw[if_neg (by omega),e3,e4]
variable{a:Array Keyed}{U:List Keyed}
theorem at_mid {L0 R:List Keyed}(ha:a.toList=L0++(U++R))(i:Nat)(hi:i<U.length):a[L0.length+i]?=U[i]?:=by
 rw[←Array.getElem?_toList,ha,List.getElem?_append_right (by omega),Nat.add_sub_cancel_left,List.getElem?_append_left hi]
theorem ext_mid {L0 R:List Keyed}(ha:a.toList=L0++(U++R)){i j:Nat}(hi:i=L0.length)(hj:j=L0.length+U.length):(a.extract i j).toList=U:=by
 subst hi hj;rw[Array.toList_extract,List.extract_eq_drop_take,ha,List.drop_left,Nat.add_sub_cancel_left,List.take_left]
section
variable {prog:Program}{w:World}{A:Around}{E:Value→Shared→Prop}{s:Shared}{κ:SortKind}{G:Keyed→Prop}{key:Keyed→Int}
theorem wpS_set {st x:SortSt}{Q:PUnit→SortSt→Prop}(h:Q ⟨⟩ x):wpS (model prog w) A E s (set x:StateT SortSt Sem PUnit) Q st:=by
 unfold wpS;rw[StateT.run_set];exact wpAny_pure ⟨rfl,h⟩
theorem wpS_set' {st x:SortSt}{Q:PUnit→SortSt→Prop}(h:∀st2:SortSt,PyProof.Rows.kindOf st2=PyProof.Rows.kindOf x→arrOf st2=arrOf x→pendingOf st2=pendingOf x→failedOf st2=failedOf x→Q ⟨⟩ st2):wpS (model prog w) A E s (set x:StateT SortSt Sem PUnit) Q st:=wpS_set (h x rfl rfl rfl rfl)
theorem seek_mid {L0 R:List Keyed}(ha:a.toList=L0++(U++R))(hu:U.Pairwise (leK key))(hg:∀x∈U,G x){l:Bool}{k:Keyed}{b n:Nat}(hb:b=L0.length)(hn:n=U.length):Seek key G l k a b n (seekB key l k a b):=by
 subst hb hn;have sz:a.size=L0.length+(U.length+R.length):=by rw[←Array.length_toList,ha,List.length_append,List.length_append]
 refine seek_of (fun i x h1 h2 e=>?_) (fun i j x y h1 h2 h3 ex ey=>?_) (by omega)
 ·rw[show i=L0.length+(i-L0.length) by omega,at_mid ha _ (by omega)] at e;exact hg x (List.mem_of_getElem? e)
 ·rw[show i=L0.length+(i-L0.length) by omega,at_mid ha _ (by omega)] at ex;rw[show j=L0.length+(j-L0.length) by omega,at_mid ha _ (by omega)] at ey;obtain⟨hi,ei⟩:=List.getElem?_eq_some_iff.mp ex;obtain⟨hj,ej⟩:=List.getElem?_eq_some_iff.mp ey;rw[←ei,←ej]
  by_cases q:i-L0.length=j-L0.length
  ·simp only[q];exact Int.le_refl _
  ·exact List.pairwise_iff_getElem.mp hu _ _ hi hj (by omega)
theorem mem_t {k:Nat}{x:Keyed}(h:x∈U.take k):∃i,i<k∧U[i]?=some x:=by
 obtain⟨i,hi,e⟩:=List.getElem_of_mem h;rw[List.length_take] at hi;exact⟨i,by omega,by rw[←e,List.getElem_take,List.getElem?_eq_getElem]⟩
theorem mem_d {k:Nat}{x:Keyed}(h:x∈U.drop k):∃i,k≤i∧i<U.length∧U[i]?=some x:=by
 obtain⟨i,hi,e⟩:=List.getElem_of_mem h;rw[List.length_drop] at hi;exact⟨k+i,by omega,by omega,by rw[←e,List.getElem_drop,List.getElem?_eq_getElem]⟩
structure Nx (st st':SortSt)(L:List Keyed)(p:Array (Nat×Nat×Nat)):Prop where
 kind:kindOf st'=kindOf st
 arr:(arrOf st').toList=L
 pend:pendingOf st'=p
 fail:failedOf st'=failedOf st
theorem mergeAt_ok (hL:LtOk prog w A s κ G key){st:SortSt}(hst:kindOf st=κ)(hf:failedOf st=none){i sa na pw sb nb pw2:Nat}{L0 V R:List Keyed}(hp1:(pendingOf st)[i]?=some (sa,na,pw))(hp2:(pendingOf st)[i+1]?=some (sb,nb,pw2))
  (ha:(arrOf st).toList=L0++(U++(V++R))) (h0:sa=L0.length) (h1:na=U.length) (h2:nb=V.length) (h3:sb=sa+na) (hu:U.Pairwise (leK key)) (hv:V.Pairwise (leK key)) (hU:U≠[]) (hV:V≠[]) (gu:∀x∈U,G x) (gv:∀x∈V,G x) {Q:Bool→SortSt→Prop}
  (h:∀Z st',Z.Perm (U++V)→Z.Pairwise (leK key)→Nx st st' (L0++(Z++R)) (((pendingOf st).setIfInBounds i (sa,na+nb,pw)).eraseIdxIfInBounds (i+1))→Q true st'):wpS (model prog w) A E s (mergeAt' i) Q st:=by
 have u1:=List.length_pos_iff.mpr hU;have v1:=List.length_pos_iff.mpr hV;refine wpS_bind (wpS_get ?_);dsimp only;have e1:(sortPriv% PySem.Builtin.SortState.pending) st=pendingOf st:=rfl;rw[hp1,hp2];dsimp only;refine wpS_bind (wpS_set' fun st2 k2 a2 p2 f2=>?_);have k2:kindOf st2=κ:=k2.trans hst;have a2:arrOf st2=arrOf st:=a2;have p2:pendingOf st2=((pendingOf st).setIfInBounds i (sa,na+nb,pw)).eraseIdxIfInBounds (i+1):=p2;have f2:failedOf st2=none:=f2.trans hf;obtain⟨y,ey⟩:∃y,V[0]?=some y:=⟨V[0],List.getElem?_eq_getElem v1⟩;have haV:(arrOf st).toList=(L0++U)++(V++R):=by rw[ha,List.append_assoc]
 have ey2:(arrOf st)[sb]?=some y:=by
  have:=at_mid haV 0 v1;rw[List.length_append,Nat.add_zero] at this;rw[h3,h0,h1,this];exact ey
 refine wpS_bind (wpS_elem ey2 (wpS_bind (gallop_ok (n:=na) (hint:=0) hL (gv y (List.mem_of_getElem? ey)) (seek_mid (L0:=L0) (U:=U) ha hu gu h0 h1) (by omega) k2 fun k fk=>?_)));dsimp only;obtain⟨q1,q2⟩:=found_r fk;have kle:=fk.1;have at1:∀j x,U[j]?=some x→(arrOf st)[sa+j]?=some x:=fun j x e=>by
  rw[h0,at_mid ha j (List.getElem?_eq_some_iff.mp e).1];exact e
 have at2:∀j x,V[j]?=some x→(arrOf st)[sb+j]?=some x:=fun j x e=>by
  have:=at_mid haV j (List.getElem?_eq_some_iff.mp e).1;rw[List.length_append] at this;rw[h3,h0,h1,this];exact e
 have vy:∀v∈V,key y≤key v:=fun v hv'=>by
  cases V with
  | nil=>cases hv'
  | cons v0 V=>
   have:y=v0:=(Option.some.inj ey).symm;subst this;rcases List.mem_cons.mp hv' with rfl|z
   ·exact Int.le_refl _
   ·exact(List.pairwise_cons.mp hv).1 v z
 have lo1:∀u∈U.take k,key u≤key y:=fun u hu'=>by
  obtain⟨j,hj,e⟩:=mem_t hu';exact q1 j u hj (at1 j u e)
 have hi1:∀u∈U.drop k,key y<key u:=fun u hu'=>by
  obtain⟨j,hj,hj2,e⟩:=mem_d hu';exact q2 j u hj (by omega) (at1 j u e)
 have same:(U++V).Pairwise (leK key)→wpS (model prog w) A E s (pure true) Q st2:=fun hs=>wpS_pure (h (U++V) st2 (List.Perm.refl _) hs ⟨by rw[k2,hst],by rw[a2,ha,List.append_assoc],p2,by rw[f2,hf]⟩)
 refine wpS_ite (fun z1=>?_) (fun z1=>?_)
 ·have z1:=eq_of_beq z1;refine same (List.pairwise_append.mpr ⟨hu,hv,fun u hu' v hv'=>?_⟩);have:=lo1 u (by rw[List.take_of_length_le (by omega)];exact hu');exact Int.le_trans this (vy v hv')
 have z1:na-k≠0:=fun z=>z1 (beq_iff_eq.mpr z)
 obtain⟨x,ex⟩:∃x,U[na-1]?=some x:=⟨U[na-1]'(by omega),List.getElem?_eq_getElem _⟩;have ex2:(arrOf st)[sa+k+(na-k)-1]?=some x:=by
  rw[show sa+k+(na-k)-1=sa+(na-1) by omega];exact at1 _ x ex
 refine wpS_bind (wpS_elem ex2 (wpS_bind (gallop_ok (n:=nb) (hint:=nb-1) hL (gu x (List.mem_of_getElem? ex)) (seek_mid (L0:=L0++U) (U:=V) haV hv gv (by rw[List.length_append];omega) h2) (by omega) k2 fun k' fk'=>?_)));dsimp only;obtain⟨q3,q4⟩:=found_l fk';have kle':=fk'.1;have ux:∀u∈U,key u≤key x:=fun u hu'=>by
  obtain⟨j,hj,e⟩:=List.getElem_of_mem hu';obtain⟨hn,en⟩:=List.getElem?_eq_some_iff.mp ex;rw[←e,←en]
  by_cases q:j=na-1
  ·simp only[q];exact Int.le_refl _
  ·exact List.pairwise_iff_getElem.mp hu _ _ hj hn (by omega)
 have lo2:∀v∈V.take k',key v<key x:=fun v hv'=>by
  obtain⟨j,hj,e⟩:=mem_t hv';exact q3 j v hj (at2 j v e)
 have hi2:∀v∈V.drop k',key x≤key v:=fun v hv'=>by
  obtain⟨j,hj,hj2,e⟩:=mem_d hv';exact q4 j v hj (by omega) (at2 j v e)
 refine wpS_ite (fun z2=>?_) (fun z2=>?_)
 ·have z2:=eq_of_beq z2;refine same (List.pairwise_append.mpr ⟨hu,hv,fun u hu' v hv'=>?_⟩);subst z2;exact Int.le_trans (ux u hu') (hi2 v (by rw[List.drop_zero];exact hv'))
 have z2:k'≠0:=fun z=>z2 (beq_iff_eq.mpr z)
 have haX:(arrOf st).toList=(L0++U.take k)++(U.drop k++(V++R)):=by rw[ha,List.append_assoc,←List.append_assoc (U.take k),List.take_append_drop]
 have haY:(arrOf st).toList=(L0++U)++(V.take k'++(V.drop k'++R)):=by rw[haV,←List.append_assoc (V.take k'),List.take_append_drop]
 have lt1:(U.take k).length=k:=by rw[List.length_take];omega
 have lt2:(V.take k').length=k':=by rw[List.length_take];omega
 have ld1:(U.drop k).length=na-k:=by rw[List.length_drop];omega
 have eX:((arrOf st).extract (sa+k) sb).toList=U.drop k:=ext_mid haX (by rw[List.length_append,lt1,h0]) (by rw[List.length_append,lt1,ld1];omega);have eY:((arrOf st).extract sb (sb+k')).toList=V.take k':=ext_mid haY (by rw[List.length_append];omega) (by rw[List.length_append,lt2];omega);generalize hX:(arrOf st).extract (sa+k) sb=XA at *;generalize hY:(arrOf st).extract sb (sb+k')=YA at *;have sX:XA.size=na-k:=by rw[←Array.length_toList,eX,ld1]
 have sY:YA.size=k':=by rw[←Array.length_toList,eY,lt2]
 have T:Two key G XA YA:=by
  refine⟨by rw[eX];exact hu.drop,by rw[eY];exact hv.take,fun x hx=>gu x ?_,fun x hx=>gv x ?_,by omega,by omega,fun y' e x' hx=>?_,fun x' e y' hy=>?_⟩
  ·rw[eX] at hx;exact List.mem_of_mem_drop hx
  ·rw[eY] at hx;exact List.mem_of_mem_take hx
  ·rw[←Array.getElem?_toList,eY,List.getElem?_take,if_pos (by omega),ey] at e;cases e;rw[eX] at hx;exact Int.le_of_lt (hi1 x' hx)
  ·rw[←Array.getElem?_toList,eX,List.getElem?_drop,sX,show k+(na-k-1)=na-1 by omega,ex] at e;cases e;rw[eY] at hy;exact Int.le_of_lt (lo2 y' hy)
 have fin:∀(r:Array Keyed) (st3:SortSt),Good key XA YA r→Sm st2 st3→wpS (model prog w) A E s (do
   modify fun st=>setArr st (r.toList.zipIdx.foldl (fun a (p,j)=>a.setIfInBounds (sa+k+j) p) (arrOf st))
   let st ←get
   pure (failedOf st).isNone) Q st3:=fun r st3 g sm=>by
  obtain⟨gp,gs⟩:=g;rw[eX,eY] at gp;have rl:r.size=(na-k)+k':=by rw[←Array.length_toList,gp.length_eq,List.length_append,ld1,lt2]
  have fl:=fold_list (a:=arrOf st3) (m:=r) (sa:=sa+k) (P:=L0++U.take k) (X:=U.drop k++V.take k') (S:=V.drop k'++R) (by
   rw[sm.arr,a2,haX,List.append_assoc (U.drop k),←List.append_assoc (V.take k'),List.take_append_drop]) (by rw[List.length_append,lt1,h0]) (by rw[List.length_append,ld1,lt2,rl])
  refine wpS_bind (wpS_modify (wpS_bind (wpS_get ?_)));have ff:failedOf st3=none:=by rw[sm.fail,f2]
  show wpS _ _ _ _ (pure (failedOf st3).isNone) Q _;rw[ff];refine wpS_pure (h (U.take k++(r.toList++V.drop k')) _ ?_ ?_ ⟨?_,?_,?_,?_⟩)
  ·refine(List.Perm.append_left _ (List.Perm.append_right _ gp)).trans (.of_eq ?_);rw[List.append_assoc,List.take_append_drop,←List.append_assoc,List.take_append_drop]
  ·rw[List.pairwise_append,List.pairwise_append];refine⟨hu.take,⟨gs,hv.drop,fun c hc v hv'=>?_⟩,fun u hu' c hc=>?_⟩
   ·rcases List.mem_append.mp (gp.subset hc) with z|z
    ·exact Int.le_trans (ux c (List.mem_of_mem_drop z)) (hi2 v hv')
    ·exact Int.le_trans (Int.le_of_lt (lo2 c z)) (hi2 v hv')
   ·rcases List.mem_append.mp hc with z|z
    ·rcases List.mem_append.mp (gp.subset z) with z|z
     ·have:=lo1 u hu';have:=hi1 c z;exact(show key u≤key c by omega)
     ·exact Int.le_trans (lo1 u hu') (vy c (List.mem_of_mem_take z))
    ·exact Int.le_trans (lo1 u hu') (vy c (List.mem_of_mem_drop z))
  ·show kindOf st3=_;rw[sm.kind,k2,hst]
  ·show(r.toList.zipIdx.foldl (fun a (p,j)=>a.setIfInBounds (sa+k+j) p) (arrOf st3)).toList=_;rw[fl,List.append_assoc,List.append_assoc,List.append_assoc]
  ·show pendingOf st3=_;rw[sm.pend,p2]
  ·show failedOf st3=_;rw[ff,hf]
 refine wpS_ite (fun _=>?_) (fun _=>?_)
 ·exact wpS_bind (mergeLo_ok hL T k2 fun r st3 g sm=>fin r st3 g sm)
 ·exact wpS_bind (mergeHi_ok hL T k2 fun r st3 g sm=>fin r st3 g sm)
end
end TS
namespace TS
open PySem PyProof.Rows PySem.W
variable{a:Array Keyed}{D:List Keyed}{y:Keyed}{i:Nat}
theorem at_next {L0 R:List Keyed}(ha:a.toList=L0++(D++y::R))(hi:i=L0.length+D.length):a[i]?=some y:=by
 subst hi;rw[←Array.getElem?_toList,ha,List.getElem?_append_right (by omega),Nat.add_sub_cancel_left,List.getElem?_append_right (Nat.le_refl _),Nat.sub_self];rfl
theorem at_last {L0 R:List Keyed}{z:Keyed}(ha:a.toList=L0++(D++[z]++R))(hi:i=L0.length+D.length):a[i]?=some z:=
 at_next (R:=R) (by rw[ha,List.append_assoc D];rfl) hi
theorem mirror_list {P S R:List Keyed}(ha:a.toList=P++(S++R)){j:Nat}(hi:i=P.length)(hj:j=P.length+S.length):(mirror a i j ((j-i) / 2)).toList=P++(S.reverse++R):=by
 have hs:a.size=P.length+(S.length+R.length):=by rw[←Array.length_toList,ha,List.length_append,List.length_append]
 apply List.ext_getElem?;intro k;rw[Array.getElem?_toList,getElem?_mirror_all (by omega)];subst hi hj
 by_cases h1:P.length≤k∧k<P.length+S.length
 ·rw[if_pos h1,←Array.getElem?_toList,ha,List.getElem?_append_right (by omega),List.getElem?_append_left (by omega)];have e2:(P++(S.reverse++R))[k]?=(S.reverse++R)[k-P.length]?:=List.getElem?_append_right (by omega);rw[e2,List.getElem?_append_left (by rw[List.length_reverse];omega),List.getElem?_reverse (by omega)];congr 1;omega
 ·rw[if_neg h1,←Array.getElem?_toList,ha]
  by_cases h2:k<P.length
  ·rw[List.getElem?_append_left h2,List.getElem?_append_left h2]
  ·have e1:(P++(S++R))[k]?=(S++R)[k-P.length]?:=List.getElem?_append_right (by omega);have e2:(P++(S.reverse++R))[k]?=(S.reverse++R)[k-P.length]?:=List.getElem?_append_right (by omega);rw[e1,e2,List.getElem?_append_right (by omega),List.getElem?_append_right (by rw[List.length_reverse];omega),List.length_reverse]
theorem bubble_list {P X S R:List Keyed}(ha:a.toList=P++(X++(S++y::R))){src d:Nat}(h1:src=P.length+X.length+S.length)(h2:d=S.length):(bubble a src d).toList=P++(X++(y::(S++R))):=by
 have hs:a.size=P.length+(X.length+(S.length+(R.length+1))):=by rw[←Array.length_toList,ha];simp
 have hy:a[src]?=some y:=at_next (L0:=P++X) (D:=S) (R:=R) (by rw[ha,List.append_assoc]) (by rw[List.length_append];omega);apply List.ext_getElem?;intro k;rw[Array.getElem?_toList,getElem?_bubble (by omega) d (by omega) k];have e0:P++(X++(y::(S++R)))=(P++X)++([y]++(S++R)):=by rw[List.append_assoc];rfl
 have e1:P++(X++(S++y::R))=(P++X)++(S++([y]++R)):=by rw[List.append_assoc];rfl
 have lp:(P++X).length=src-d:=by rw[List.length_append];omega
 rw[e0];rw[e1] at ha;generalize P++X=PX at *
 by_cases q1:k=src-d
 ·subst q1;rw[if_pos rfl,hy,List.getElem?_append_right (by omega),lp,Nat.sub_self];rfl
 rw[if_neg q1]
 by_cases q2:src-d<k∧k≤src
 ·rw[if_pos q2,←Array.getElem?_toList,ha];have r1:(PX++(S++([y]++R)))[k-1]?=S[k-1-PX.length]?:=by rw[List.getElem?_append_right (by omega),List.getElem?_append_left (by omega)]
  have r2:(PX++([y]++(S++R)))[k]?=(S++R)[k-PX.length-1]?:=by rw[List.getElem?_append_right (by omega),List.getElem?_append_right (show [y].length≤_ by rw[List.length_singleton];omega),List.length_singleton]
  rw[r1,r2,List.getElem?_append_left (by omega)];congr 1;omega
 ·rw[if_neg q2,←Array.getElem?_toList,ha]
  by_cases q3:k<PX.length
  ·rw[List.getElem?_append_left q3,List.getElem?_append_left q3]
  ·have r1:(PX++(S++([y]++R)))[k]?=R[k-PX.length-S.length-1]?:=by
    rw[List.getElem?_append_right (by omega),List.getElem?_append_right (by omega),List.getElem?_append_right (show [y].length≤_ by rw[List.length_singleton];omega),List.length_singleton]
   have r2:(PX++([y]++(S++R)))[k]?=R[k-PX.length-1-S.length]?:=by
    rw[List.getElem?_append_right (by omega),List.getElem?_append_right (show [y].length≤_ by rw[List.length_singleton];omega),List.length_singleton,List.getElem?_append_right (by omega)]
   rw[r1,r2];congr 1;omega
section
variable {prog:Program}{w:World}{A:Around}{E:Value→Shared→Prop}{s:Shared}{κ:SortKind}{G:Keyed→Prop}{key:Keyed→Int}
theorem wpS_at (hL:LtOk prog w A s κ G key){st:SortSt}(hst:kindOf st=κ){j:Nat}{x:Keyed}(hi:(arrOf st)[i]?=some x)(hj:(arrOf st)[j]?=some y)(hx:G x)(hy:G y){Q:Option Bool→SortSt→Prop}(h:Q (some (decide (key x<key y))) st):wpS (model prog w) A E s (ltAt' i j) Q st:=by
 rw[ltAt'_eq];refine wpS_bind (wpS_get ?_);exact wpS_bind (wpS_elem hi (wpS_bind (wpS_elem hj (wpS_lt hL hx hy hst h))))
theorem up_snoc {z:Keyed}(h:(D++[z]).Pairwise (leK key))(hy:key z≤key y):(D++[z]++[y]).Pairwise (leK key):=by
 rw[List.pairwise_append];refine⟨h,List.pairwise_singleton _ _,fun d hd u hu=>?_⟩;rw[List.mem_singleton.mp hu];rcases List.mem_append.mp hd with q|q
 ·exact Int.le_trans ((List.pairwise_append.mp h).2.2 d q z (List.mem_singleton.mpr rfl)) hy
 ·rw[List.mem_singleton.mp q];exact hy
theorem down_snoc {z:Keyed}(h:(D++[z]).Pairwise (geK key))(hy:key y≤key z):(D++[z]++[y]).Pairwise (geK key):=by
 rw[List.pairwise_append];refine⟨h,List.pairwise_singleton _ _,fun d hd u hu=>?_⟩;rw[List.mem_singleton.mp hu];rcases List.mem_append.mp hd with q|q
 ·exact Int.le_trans hy ((List.pairwise_append.mp h).2.2 d q z (List.mem_singleton.mpr rfl))
 ·rw[List.mem_singleton.mp q];exact hy
def AllEq (key:Keyed→Int)(l:List Keyed):Prop:=∀e∈l,∀f∈l,key e=key f
theorem eq_rev {P Eq:List Keyed}(h:(P++Eq).Pairwise (geK key))(he:AllEq key Eq):(P++Eq.reverse).Pairwise (geK key):=by
 rw[List.pairwise_append] at h ⊢;refine⟨h.1,List.Pairwise.imp_of_mem (R:=fun _ _=>True) (fun {a b} ha hb _=>?_) (List.pairwise_of_forall fun _ _=>trivial),fun a ha b hb=>h.2.2 a ha b (List.mem_reverse.mp hb)⟩;exact Int.le_of_eq (he b (List.mem_reverse.mp hb) a (List.mem_reverse.mp ha))
theorem snoc_of (h:D≠[]):∃D' z,D=D'++[z]:=⟨D.dropLast,D.getLast h,(List.dropLast_concat_getLast h).symm⟩
def Rn (st:SortSt)(L0 R D R':List Keyed)(st':SortSt):Prop:=Nx st st' (L0++(D++R')) (pendingOf st)∧(D++R').Perm R
theorem wpS_rev (hL:LtOk prog w A s κ G key){st st1:SortSt}{L0 R P S R':List Keyed}(hr:Rn st L0 R (P++S) R' st1){j:Nat}(hi:i=L0.length+P.length)(hj:j=L0.length+P.length+S.length){Q:Unit→SortSt→Prop}(h:∀st2,Rn st L0 R (P++S.reverse) R' st2→Q () st2):wpS (model prog w) A E s (reverseSlice' i j) Q st1:=by
 refine wpS_reverse (h _ ⟨⟨hr.1.kind,?_,hr.1.pend,hr.1.fail⟩,?_⟩)
 ·have:=mirror_list (a:=arrOf st1) (P:=L0++P) (S:=S) (R:=R') (by rw[hr.1.arr,List.append_assoc,List.append_assoc]) (i:=i) (j:=j) (by rw[List.length_append];exact hi) (by rw[List.length_append];exact hj);show(mirror (arrOf st1) i j ((j-i) / 2)).toList=_;rw[this,List.append_assoc,List.append_assoc]
 ·refine List.Perm.trans ?_ hr.2;exact List.Perm.append_right _ (List.Perm.append_left _ (List.reverse_perm S))
theorem Rn.mem {st st':SortSt}{L0 R R':List Keyed}(h:Rn st L0 R D R' st'){P:Keyed→Prop}(hP:∀x∈R,P x):∀x∈D++R',P x:=fun x hx=>hP x (h.2.subset hx)
theorem countRun_ok (hL:LtOk prog w A s κ G key){st:SortSt}(hst:kindOf st=κ){L0 R:List Keyed}{lo nrem:Nat}(ha:(arrOf st).toList=L0++R)(hlo:lo=L0.length)(hn:nrem=R.length)(hR:R≠[])(gR:∀x∈R,G x){Q:Option Nat→SortSt→Prop}
  (h:∀D R' st',D≠[]→D.Pairwise (leK key)→Rn st L0 R D R' st'→Q (some D.length) st'):wpS (model prog w) A E s (countRun' lo nrem) Q st:=by
 have R1:=List.length_pos_iff.mpr hR;obtain⟨x0,R0,rfl⟩:∃x0 R0,R=x0::R0:=by
  cases R with
  | nil=>exact absurd rfl hR
  | cons x0 R0=>exact⟨x0,R0,rfl⟩
 have r0:∀D R',D++R'=x0::R0→Rn st L0 (x0::R0) D R' st:=fun D R' e=>⟨⟨rfl,by rw[ha,e],rfl,rfl⟩,by rw[e]⟩
 refine wpS_bind (wpS_mono (wpS_forRange
  (I:=fun x c st2=>st2=st∧∃D R',c=(none,x)∧D.length=x∧D≠[]∧D++R'=x0::R0∧D.Pairwise (leK key))
  (Q:=fun c st2=>st2=st∧∃D R',c=(none,D.length)∧D≠[]∧D++R'=x0::R0∧D.Pairwise (leK key)∧(R'=[]∨∃D2 z y R2,D=D2++[z]∧R'=y::R2∧key y<key z)) ?step ?fin ⟨rfl,[x0],R0,rfl,rfl,by simp,rfl,List.pairwise_singleton _ _⟩) ?post)
 case fin=>
  rintro c st2 ⟨rfl,D,R',rfl,e1,e2,e3,e4⟩;refine⟨rfl,D,R',by rw[e1],e2,e3,e4,.inl ?_⟩;have:=congrArg List.length e3;rw[List.length_append,e1] at this;exact List.length_eq_zero_iff.mp (by omega)
 case step=>
  rintro x c st2 _ hx ⟨rfl,D,R',rfl,e1,e2,e3,e4⟩;cases R' with
  | nil=>
   have:=congrArg List.length e3;rw[List.append_nil,e1] at this;omega
  | cons y R2=>
   obtain⟨D3,z,rfl⟩:=snoc_of e2;have ar:(arrOf st2).toList=L0++(D3++[z]++y::R2):=by rw[ha,e3]
   rw[List.length_append,List.length_singleton] at e1;have gm:∀u∈D3++[z]++y::R2,G u:=fun u hu=>gR u (by rw[←e3];exact hu)
   refine wpS_bind (wpS_at hL hst (at_next ar (by rw[List.length_append,List.length_singleton];omega)) (at_last ar (by omega)) (gm y (List.mem_append_right _ List.mem_cons_self)) (gm z (List.mem_append_left _ (List.mem_append_right _ (List.mem_singleton.mpr rfl)))) ?_);refine wpS_ite (fun hc=>?_) (fun hc=>?_)
   ·exact wpS_pure ⟨rfl,D3++[z],y::R2,by rw[List.length_append,List.length_singleton,e1],e2,e3,e4,.inr ⟨D3,z,y,R2,rfl,rfl,of_decide_eq_true hc⟩⟩
   ·have hc:¬key y<key z:=fun q=>hc (decide_eq_true q)
    exact wpS_pure ⟨rfl,D3++[z]++[y],R2,rfl,by rw[List.length_append,List.length_append,List.length_singleton,List.length_singleton];omega,by simp,by rw[←e3,List.append_assoc (D3++[z])];rfl,up_snoc e4 (by omega)⟩
 case post=>
  rintro c st2 ⟨rfl,D,R',rfl,e2,e3,e4,e5⟩;have lD:=congrArg List.length e3;rw[List.length_append] at lD;refine wpS_ite (fun _=>wpS_pure (h D R' st2 e2 e4 (r0 D R' e3))) (fun hq=>?_);have hq:D.length≠nrem:=fun q=>hq (beq_iff_eq.mpr q)
  obtain⟨D2,z,y,R2,rfl,rfl,hyz⟩:=e5.resolve_left (fun q=>hq (by rw[q] at lD;rw[hn,←lD];rfl));have one:(D2++[z]).length≥1:=by rw[List.length_append,List.length_singleton];omega
  apply wpS_ite
  case' h1=>
   intro hg;obtain⟨z0,e0⟩:∃z0,(D2++[z])[0]?=some z0:=⟨_,List.getElem?_eq_getElem (by omega)⟩;have ar:(arrOf st2).toList=L0++(D2++[z]++y::R2):=by rw[ha,e3]
   have i0:(arrOf st2)[lo]?=some z0:=by
    have:=at_mid ar 0 (by omega);rw[Nat.add_zero,e0] at this;rw[hlo];exact this
   have iz:(arrOf st2)[lo+(D2++[z]).length-1]?=some z:=at_last ar (by rw[List.length_append,List.length_singleton];omega);have m0:=List.mem_of_getElem? e0;have gm:∀u∈D2++[z]++y::R2,G u:=fun u hu=>gR u (by rw[←e3];exact hu)
   refine wpS_bind (wpS_at hL hst i0 iz (gm z0 (List.mem_append_left _ m0)) (gm z (List.mem_append_left _ (List.mem_append_right _ (List.mem_singleton.mpr rfl)))) ?_);refine wpS_ite (fun _=>wpS_pure (h _ _ st2 e2 e4 (r0 _ _ e3))) (fun hc=>?_);have hc:¬key z0<key z:=fun q=>hc (decide_eq_true q)
   have kall:∀u∈D2++[z],key u=key z:=fun u hu=>by
    have a1:key u≤key z:=by
     rcases List.mem_append.mp hu with q|q
     ·exact(List.pairwise_append.mp e4).2.2 u q z (List.mem_singleton.mpr rfl)
     ·rw[List.mem_singleton.mp q];exact Int.le_refl _
    have a2:key z0≤key u:=by
     generalize D2++[z]=DD at *;cases DD with
     | nil=>cases hu
     | cons d0 DD=>
      cases e0;rcases List.mem_cons.mp hu with rfl|q
      ·exact Int.le_refl _
      ·exact(List.pairwise_cons.mp e4).1 u q
    omega
   refine wpS_bind (wpS_rev (P:=[]) (S:=D2++[z]) hL (r0 _ _ e3) (by rw[hlo];rfl) (by rw[hlo];rfl) fun st3 hr3=>?_);have tt:∃T:List Keyed,T≠[]∧T.length=(D2++[z]).length∧Rn st2 L0 (x0::R0) T (y::R2) st3∧T.Pairwise (geK key)∧∀t∈T,key y≤key t:=by
    refine⟨(D2++[z]).reverse,by simp,List.length_reverse,hr3,eq_rev (P:=[]) ?_ (fun e he f hf=>by rw[kall e he,kall f hf]),fun t ht=>?_⟩
    ·refine List.Pairwise.imp_of_mem (R:=fun _ _=>True) (fun {p q} hp hq' _=>?_) (List.pairwise_of_forall fun _ _=>trivial);exact Int.le_of_eq ((kall q hq').trans (kall p hp).symm)
    ·rw[kall t (List.mem_reverse.mp ht)];omega
  case' h2=>
   intro hg;have e1:D2=[]:=by
    rw[List.length_append,List.length_singleton] at hg;exact List.length_eq_zero_iff.mp (by omega)
   have tt:∃T:List Keyed,T≠[]∧T.length=(D2++[z]).length∧Rn st2 L0 (x0::R0) T (y::R2) st2∧T.Pairwise (geK key)∧∀t∈T,key y≤key t:=by
    subst e1;exact⟨[z],by simp,rfl,r0 _ _ e3,List.pairwise_singleton _ _,fun t ht=>by rw[List.mem_singleton.mp ht];omega⟩
  all_goals
   obtain⟨T,t1,t2,t3,t4,t5⟩:=tt;refine wpS_bind (wpS_lift (wpAny_rule ⟨rfl,?_⟩));have lT:(T++[y]).length=(D2++[z]).length+1:=by rw[List.length_append,t2,List.length_singleton]
   rw[←lT];have t6:Rn st2 L0 (x0::R0) (T++[y]) R2 _:=⟨⟨t3.1.kind,by rw[t3.1.arr,List.append_assoc T];rfl,t3.1.pend,t3.1.fail⟩,by rw[List.append_assoc];exact t3.2⟩;have t7:(T++[y]).Pairwise (geK key):=by
    rw[List.pairwise_append];exact⟨t4,List.pairwise_singleton _ _,fun d hd u hu=>by rw[List.mem_singleton.mp hu];exact t5 d hd⟩
   clear t1 t2 t3 t4 t5 lT hyz hq e2 e3 e4 e5 lD one hg;refine wpS_bind (wpS_mono (wpS_forRange
    (I:=fun x c st5=>∃P S R2 neq,c=(none,x,neq)∧Rn st2 L0 (x0::R0) (P++S) R2 st5∧(P++S).length=x∧S.length=neq+1∧(P++S).Pairwise (geK key)∧AllEq key S)
    (Q:=fun c st5=>∃P S R2 neq,c=(none,(P++S).length,neq)∧Rn st2 L0 (x0::R0) (P++S) R2 st5∧S.length=neq+1∧(P++S).Pairwise (geK key)∧AllEq key S) ?_ ?_ ⟨T,[y],R2,0,rfl,t6,rfl,rfl,t7,fun e he g hg=>by rw[List.mem_singleton.mp he,List.mem_singleton.mp hg]⟩) ?_)
   ·rintro x c st5 _ hx ⟨P,S,R2,neq,rfl,e1,e2,e3,e4,e5⟩;have ln:(P++S).length+R2.length=(x0::R0).length:=by rw[←List.length_append,e1.2.length_eq]
    cases R2 with
    | nil=>rw[List.length_nil] at ln;omega
    | cons y R2=>
     obtain⟨S',z,rfl⟩:=snoc_of (show S≠[] from fun q=>by rw[q] at e3;simp at e3);have ar:(arrOf st5).toList=L0++((P++S')++[z]++y::R2):=by rw[e1.1.arr];simp only[List.append_assoc]
     have lx:(P++S').length+1=x:=by rw[←e2,←List.append_assoc,List.length_append (as:=P++S')];rfl
     have gm:=e1.mem gR;have gy:=gm y (List.mem_append_right _ List.mem_cons_self);have gz:=gm z (List.mem_append_left _ (List.mem_append_right _ (List.mem_append_right _ (List.mem_singleton.mpr rfl))));have iy:(arrOf st5)[lo+x]?=some y:=at_next ar (by rw[List.length_append (as:=P++S'),List.length_singleton];omega);have iz:(arrOf st5)[lo+x-1]?=some z:=at_last ar (by omega);have nx:∀(T:List Keyed) (st3:SortSt),Rn st2 L0 (x0::R0) T (y::R2) st3→Rn st2 L0 (x0::R0) (T++[y]) R2 st3:=fun T st3 q=>⟨⟨q.1.kind,by rw[q.1.arr,List.append_assoc T];rfl,q.1.pend,q.1.fail⟩,by rw[List.append_assoc];exact q.2⟩
     have one:AllEq key [y]:=fun e he g hg=>by rw[List.mem_singleton.mp he,List.mem_singleton.mp hg]
     have lP:P.length+(S'.length+1)=x:=by rw[←lx,List.length_append];omega
     refine wpS_bind (wpS_at hL (e1.1.kind.trans hst) iy iz gy gz ?_)
     try dsimp only
     refine wpS_ite (fun hc=>?_) (fun hc=>?_)
     ·have hc:=of_decide_eq_true hc;have below:∀d∈P++(S'++[z]),key y≤key d:=fun d hd=>by
       rw[←List.append_assoc] at hd e4;rcases List.mem_append.mp hd with q|q
       ·have:=(List.pairwise_append.mp e4).2.2 d q z (List.mem_singleton.mpr rfl);have this:key z≤key d:=this;omega
       ·rw[List.mem_singleton.mp q];omega
      refine wpS_ite (fun hq=>?_) (fun hq=>?_)
      ·rw[List.length_append,List.length_singleton] at e3;refine wpS_bind (wpS_rev (P:=P) (S:=S'++[z]) hL e1 (by omega) (by rw[List.length_append (as:=S'),List.length_singleton];omega) fun st3 hr3=>wpS_pure ⟨P++(S'++[z]).reverse,[y],R2,0,rfl,nx _ _ hr3,?_,rfl,?_,one⟩)
       ·rw[List.length_append,List.length_append,List.length_reverse,List.length_append,List.length_singleton,List.length_singleton];omega
       ·rw[List.pairwise_append];refine⟨eq_rev e4 e5,List.pairwise_singleton _ _,fun d hd u hu=>?_⟩;rw[List.mem_singleton.mp hu];refine below d ?_;rcases List.mem_append.mp hd with q|q
        ·exact List.mem_append_left _ q
        ·exact List.mem_append_right _ (List.mem_reverse.mp q)
      ·refine wpS_pure ⟨P++(S'++[z]),[y],R2,0,rfl,nx _ _ e1,?_,rfl,?_,one⟩
       ·rw[List.length_append,e2,List.length_singleton]
       ·rw[List.pairwise_append];exact⟨e4,List.pairwise_singleton _ _,fun d hd u hu=>by rw[List.mem_singleton.mp hu];exact below d hd⟩
     ·have hc:¬key y<key z:=fun q=>hc (decide_eq_true q)
      refine wpS_bind (wpS_at hL (e1.1.kind.trans hst) iz iy gz gy ?_);refine wpS_ite (fun hg=>?_) (fun hg=>?_)
      ·exact wpS_pure ⟨P,S'++[z],y::R2,neq,by rw[e2],e1,e3,e4,e5⟩
      ·have hg:¬key z<key y:=fun q=>hg (decide_eq_true q)
       have eyz:key y=key z:=by omega
       refine wpS_pure ⟨P,S'++[z]++[y],R2,neq+1,rfl,by rw[←List.append_assoc];exact nx _ _ e1,by rw[←List.append_assoc,List.length_append (as:=P++(S'++[z])),e2,List.length_singleton],by rw[List.length_append,e3,List.length_singleton],?_,fun e he g hg'=>?_⟩
       ·have:=down_snoc (D:=P++S') (z:=z) (y:=y) (key:=key) (by rw[List.append_assoc];exact e4) (by omega);rw[List.append_assoc P] at this;rw[←List.append_assoc P];exact this
       ·have kz:∀u∈S'++[z]++[y],key u=key z:=fun u hu=>by
         rcases List.mem_append.mp hu with q|q
         ·exact e5 u q z (List.mem_append_right _ (List.mem_singleton.mpr rfl))
         ·rw[List.mem_singleton.mp q];exact eyz
        rw[kz e he,kz g hg']
   ·rintro c st5 ⟨P,S,R2,neq,rfl,e1,e2,e3,e4,e5⟩;exact⟨P,S,R2,neq,by rw[e2],e1,e3,e4,e5⟩
   ·rintro c st5 ⟨P,S,R2,neq,rfl,e1,e3,e4,e5⟩
    try dsimp only
    have ps:(P++S).length=P.length+(neq+1):=by rw[List.length_append,e3]
    apply wpS_ite
    case' h1=>
     intro hz;refine wpS_bind (wpS_rev (P:=P) (S:=S) hL e1 (by omega) (by omega) fun st6 e6=>?_);have e:(P++S).length=(P++S.reverse).length:=by rw[List.length_append,List.length_append,List.length_reverse]
     have e7:=eq_rev e4 e5;have e8:P++S.reverse≠[]:=fun q=>by rw[q] at e;rw[e] at ps;simp at ps
     rw[e];generalize P++S.reverse=DD at *
    case' h2=>
     intro hz;have e6:=e1;have e7:=e4;have e8:P++S≠[]:=fun q=>by rw[q] at ps;simp at ps
     generalize P++S=DD at *
    all_goals
     refine wpS_bind (wpS_rev (P:=[]) (S:=DD) hL e6 (by rw[hlo];rfl) (by rw[hlo];rfl) fun st7 e9=>?_);have e9:Rn st2 L0 (x0::R0) DD.reverse R2 st7:=e9;have hl:DD.length+R2.length=(x0::R0).length:=by rw[←e9.2.length_eq,List.length_append,List.length_reverse]
     refine wpS_bind (wpS_mono (wpS_forRange
      (I:=fun x c st3=>st3=st7∧∃D2 R3,c=(none,x)∧D2.length=x∧D2≠[]∧D2++R3=DD.reverse++R2∧D2.Pairwise (leK key))
      (Q:=fun c st3=>st3=st7∧∃D2 R3,c=(none,D2.length)∧D2≠[]∧D2++R3=DD.reverse++R2∧D2.Pairwise (leK key)) ?_ ?_ ⟨rfl,DD.reverse,R2,rfl,List.length_reverse,fun z=>e8 (List.reverse_eq_nil_iff.mp z),rfl,List.pairwise_reverse.mpr e7⟩) ?_)
     ·rintro x c st3 _ hx ⟨rfl,D2,R3,rfl,f1,f2,f3,f4⟩;have ln:D2.length+R3.length=DD.length+R2.length:=by rw[←List.length_append,f3,List.length_append,List.length_reverse]
      cases R3 with
      | nil=>rw[List.length_nil] at ln;omega
      | cons y R3=>
       obtain⟨D3,z,rfl⟩:=snoc_of f2;have ar:(arrOf st3).toList=L0++(D3++[z]++y::R3):=by rw[e9.1.arr,f3]
       rw[List.length_append,List.length_singleton] at f1;have gm:=e9.mem gR;rw[←f3] at gm;refine wpS_bind (wpS_at hL (e9.1.kind.trans hst) (at_next ar (by rw[List.length_append,List.length_singleton];omega)) (at_last ar (by omega)) (gm y (List.mem_append_right _ List.mem_cons_self)) (gm z (List.mem_append_left _ (List.mem_append_right _ (List.mem_singleton.mpr rfl)))) ?_);refine wpS_ite (fun hc=>?_) (fun hc=>?_)
       ·exact wpS_pure ⟨rfl,D3++[z],y::R3,by rw[List.length_append,List.length_singleton,f1],f2,f3,f4⟩
       ·have hc:¬key y<key z:=fun q=>hc (decide_eq_true q)
        exact wpS_pure ⟨rfl,D3++[z]++[y],R3,rfl,by rw[List.length_append,List.length_append,List.length_singleton,List.length_singleton];omega,by simp,by rw[←f3,List.append_assoc (D3++[z])];rfl,up_snoc f4 (by omega)⟩
     ·rintro c st3 ⟨rfl,D2,R3,rfl,f1,f2,f3,f4⟩;exact⟨rfl,D2,R3,by rw[f1],f2,f3,f4⟩
     ·rintro c st3 ⟨rfl,D2,R3,rfl,f2,f3,f4⟩;exact wpS_pure (h D2 R3 st3 f2 f4 ⟨⟨e9.1.kind,by rw[e9.1.arr,f3],e9.1.pend,e9.1.fail⟩,by rw[f3];exact e9.2⟩)
end
end TS
namespace TS
open PySem PyProof.Rows PySem.W
section
variable {prog:Program}{w:World}{A:Around}{E:Value→Shared→Prop}{s:Shared}{κ:SortKind}{G:Keyed→Prop}{key:Keyed→Int}
theorem binarySort_ok (hL:LtOk prog w A s κ G key){st:SortSt}(hst:kindOf st=κ){L0 R:List Keyed}{lo n ok:Nat}(hlo:lo=L0.length)(hn:n≤R.length)(gR:∀x∈R,G x){st1:SortSt}{D R':List Keyed}(hr:Rn st L0 R D R' st1)(hD:D.length=ok)(h1:1≤ok)(hok:ok≤n)(hu:D.Pairwise (leK key)){Q:Bool→SortSt→Prop}
  (h:∀D2 R2 st2,D2.length=n→D2.Pairwise (leK key)→Rn st L0 R D2 R2 st2→Q true st2):wpS (model prog w) A E s (binarySort' lo n ok) Q st1:=by
 refine wpS_bind (wpS_mono (wpS_forRange
  (I:=fun k c st2=>c=(none,())∧∃D2 R2,D2.length=k∧D2.Pairwise (leK key)∧Rn st L0 R D2 R2 st2)
  (Q:=fun c st2=>c=(none,())∧∃D2 R2,D2.length=n∧D2.Pairwise (leK key)∧Rn st L0 R D2 R2 st2) ?_ ?_ ⟨rfl,D,R',by omega,hu,hr⟩) ?_)
 ·rintro k c st2 hk1 hk2 ⟨rfl,D2,R2,l2,u2,r2⟩
  try dsimp only
  have ln:D2.length+R2.length=R.length:=by rw[←List.length_append,r2.2.length_eq]
  cases R2 with
  | nil=>rw[List.length_nil] at ln;omega
  | cons y R2=>
   have gm:=r2.mem gR;have gy:=gm y (List.mem_append_right _ List.mem_cons_self);have iy:(arrOf st2)[lo+k]?=some y:=at_next r2.1.arr (by rw[hlo,l2]);refine wpS_bind (wpS_mono (wpS_forRange
    (I:=fun x c st3=>st3=st2∧∃l r,c=(none,l,r)∧l≤r∧r≤k∧r-l≤k-x∧(∀d∈D2.take l,key d≤key y)∧∀d∈D2.drop r,key y≤key d)
    (Q:=fun c st3=>st3=st2∧∃l r,c=(none,l,r)∧l≤k∧(∀d∈D2.take l,key d≤key y)∧∀d∈D2.drop l,key y≤key d) ?_ ?_ ⟨rfl,0,k,rfl,by omega,by omega,by omega,fun d hd=>by simp at hd,fun d hd=>by rw[List.drop_of_length_le (by omega)] at hd;cases hd⟩) ?_)
   ·rintro x c st3 _ hx ⟨rfl,l,r,rfl,g1,g2,g3,g4,g5⟩
    try dsimp only
    refine wpS_ite (fun hc=>?_) (fun hc=>?_)
    ·exact wpS_pure ⟨rfl,l,r,rfl,by omega,g4,by rw[show l=r by omega];exact g5⟩
    ·obtain⟨z,ez⟩:∃z,D2[(l+r) / 2]?=some z:=⟨D2[(l+r) / 2]'(by omega),List.getElem?_eq_getElem _⟩;have iz:(arrOf st3)[lo+(l+r) / 2]?=some z:=by rw[hlo,at_mid r2.1.arr _ (by omega)];exact ez
     have gz:=gm z (List.mem_append_left _ (List.mem_of_getElem? ez));obtain⟨hz,ezz⟩:=List.getElem?_eq_some_iff.mp ez;refine wpS_bind (wpS_at hL (r2.1.kind.trans hst) iy iz gy gz ?_)
     try dsimp only
     refine wpS_ite (fun hq=>?_) (fun hq=>?_)
     ·have hq:=of_decide_eq_true hq;refine wpS_pure ⟨rfl,_,_,rfl,by omega,by omega,by omega,g4,fun d hd=>?_⟩;obtain⟨i,i1,i2,ei⟩:=mem_d hd;obtain⟨hi,eii⟩:=List.getElem?_eq_some_iff.mp ei;rw[←eii];rw[←ezz] at hq
      by_cases e:i=(l+r) / 2
      ·simp only[e];omega
      ·have:key D2[(l+r) / 2]≤key D2[i]:=List.pairwise_iff_getElem.mp u2 _ _ hz hi (by omega);omega
     ·have hq:¬key y<key z:=fun q=>hq (decide_eq_true q)
      refine wpS_pure ⟨rfl,_,_,rfl,by omega,by omega,by omega,fun d hd=>?_,g5⟩;obtain⟨i,i1,ei⟩:=mem_t hd;obtain⟨hi,eii⟩:=List.getElem?_eq_some_iff.mp ei;rw[←eii];rw[←ezz] at hq
      by_cases e:i=(l+r) / 2
      ·simp only[e];omega
      ·have:key D2[i]≤key D2[(l+r) / 2]:=List.pairwise_iff_getElem.mp u2 _ _ hi hz (by omega);omega
   ·rintro c st3 ⟨rfl,l,r,rfl,g1,g2,g3,g4,g5⟩;rw[show max 0 k=k by omega] at g3;exact⟨rfl,l,r,rfl,by omega,g4,by rw[show l=r by omega];exact g5⟩
   ·rintro c st3 ⟨rfl,l,r,rfl,g1,g4,g5⟩
    try dsimp only
    have lt:(D2.take l).length=l:=by rw[List.length_take];omega
    have ld:(D2.drop l).length=k-l:=by rw[List.length_drop];omega
    have bl:=bubble_list (a:=arrOf st3) (P:=L0) (X:=D2.take l) (S:=D2.drop l) (R:=R2) (y:=y) (by rw[r2.1.arr,←List.append_assoc (D2.take l),List.take_append_drop]) (src:=lo+k) (d:=lo+k-(lo+l)) (by rw[lt,ld];omega) (by rw[ld];omega);refine wpS_bind (m:=moveDown' (lo+k) (lo+l)) (wpS_modify (wpS_pure ⟨rfl,D2.take l++y::D2.drop l,R2,?_,?_,⟨r2.1.kind,?_,r2.1.pend,r2.1.fail⟩,?_⟩))
    ·rw[List.length_append,List.length_cons,lt,ld];omega
    ·rw[List.pairwise_append,List.pairwise_cons];refine⟨u2.take,⟨fun d hd=>g5 d hd,u2.drop⟩,fun a ha b hb=>?_⟩;rcases List.mem_cons.mp hb with rfl|hb
     ·exact g4 a ha
     ·exact Int.le_trans (g4 a ha) (g5 b hb)
    ·show(bubble (arrOf st3) (lo+k) (lo+k-(lo+l))).toList=_;rw[bl,List.append_assoc (D2.take l)];rfl
    ·refine List.Perm.trans ?_ r2.2;rw[List.append_assoc];refine(List.Perm.append_left _ (show(y::D2.drop l++R2).Perm (D2.drop l++y::R2) from List.perm_middle.symm)).trans (.of_eq ?_);rw[←List.append_assoc,List.take_append_drop]
 ·rintro c st2 ⟨rfl,D2,R2,l2,u2,r2⟩;exact⟨rfl,D2,R2,by omega,u2,r2⟩
 ·rintro c st2 ⟨rfl,D2,R2,l2,u2,r2⟩;exact wpS_pure (h D2 R2 st2 l2 u2 r2)
end
def PM (key:Keyed→Int):Nat→List (Nat×Nat×Nat)→List (List Keyed)→Prop
 | _,[],[]=>True
 | b,r::p,R::Rs=>r.1=b∧r.2.1=R.length∧R≠[]∧R.Pairwise (leK key)∧PM key (b+R.length) p Rs
 | _,_,_=>False
section
variable {key:Keyed→Int}
theorem PM.split:∀{q1 q2:List (Nat×Nat×Nat)} {b:Nat} {Rs:List (List Keyed)},PM key b (q1++q2) Rs→∃Rs1 Rs2,Rs=Rs1++Rs2∧PM key b q1 Rs1∧PM key (b+Rs1.flatten.length) q2 Rs2∧Rs1.length=q1.length
 | [],q2,b,Rs,h=>⟨[],Rs,rfl,trivial,h,rfl⟩
 | r::q1,q2,b,[],h=>h.elim
 | r::q1,q2,b,R::Rs,h=>by
  obtain⟨h1,h2,h3,h4,h5⟩:=h;obtain⟨Rs1,Rs2,rfl,g1,g2,g3⟩:=PM.split h5;refine⟨R::Rs1,Rs2,rfl,⟨h1,h2,h3,h4,g1⟩,?_,by rw[List.length_cons,List.length_cons,g3]⟩;rw[List.flatten_cons,List.length_append,←Nat.add_assoc];exact g2
theorem PM.app:∀{q1 q2:List (Nat×Nat×Nat)} {b:Nat} {Rs1 Rs2:List (List Keyed)},PM key b q1 Rs1→PM key (b+Rs1.flatten.length) q2 Rs2→PM key b (q1++q2) (Rs1++Rs2)
 | [],q2,b,[],Rs2,_,h=>h
 | [],q2,b,R::Rs1,Rs2,h,_=>h.elim
 | r::q1,q2,b,[],Rs2,h,_=>h.elim
 | r::q1,q2,b,R::Rs1,Rs2,⟨h1,h2,h3,h4,h5⟩,h=>by
  rw[List.flatten_cons,List.length_append,←Nat.add_assoc] at h;exact⟨h1,h2,h3,h4,h5.app h⟩
theorem PM.len:∀{q:List (Nat×Nat×Nat)} {b:Nat} {Rs:List (List Keyed)},PM key b q Rs→q.length=Rs.length∧q.length≤Rs.flatten.length
 | [],b,[],_=>⟨rfl,Nat.zero_le _⟩
 | [],b,R::Rs,h=>h.elim
 | r::q,b,[],h=>h.elim
 | r::q,b,R::Rs,⟨h1,h2,h3,h4,h5⟩=>by
  obtain⟨g1,g2⟩:=h5.len;have:=List.length_pos_iff.mpr h3;refine⟨by rw[List.length_cons,List.length_cons,g1],?_⟩;rw[List.flatten_cons,List.length_append,List.length_cons];omega
theorem PM.same:∀{q q':List (Nat×Nat×Nat)} {b:Nat} {Rs:List (List Keyed)},PM key b q Rs→q'.map (fun r=>(r.1,r.2.1))=q.map (fun r=>(r.1,r.2.1))→PM key b q' Rs
 | [],[],b,[],_,_=>trivial
 | [],r::q',b,Rs,h,e=>by cases e
 | r::q,[],b,Rs,h,e=>by cases e
 | [],[],b,R::Rs,h,_=>h
 | r::q,r'::q',b,[],h,e=>h.elim
 | r::q,r'::q',b,R::Rs,⟨h1,h2,h3,h4,h5⟩,e=>by
  rw[List.map_cons,List.map_cons] at e;obtain⟨e1,e2⟩:=List.cons.inj e;obtain⟨e3,e4⟩:=Prod.mk.inj e1;exact⟨e3.trans h1,e4.trans h2,h3,h4,h5.same e2⟩
end
structure SI (key:Keyed→Int)(κ:SortKind)(a0:List Keyed)(st:SortSt)(Rs:List (List Keyed))(Rest:List Keyed):Prop where
 kind:kindOf st=κ
 fail:failedOf st=none
 arr:(arrOf st).toList=Rs.flatten++Rest
 perm:(Rs.flatten++Rest).Perm a0
 pm:PM key 0 (pendingOf st).toList Rs
section
variable {prog:Program}{w:World}{A:Around}{E:Value→Shared→Prop}{s:Shared}{κ:SortKind}{G:Keyed→Prop}{key:Keyed→Int}
theorem split_two {α:Type}{q:List α}{i:Nat}(h:i+1<q.length):∃q1 r1 r2 q2,q=q1++r1::r2::q2∧q1.length=i:=by
 refine⟨q.take i,q[i],q[i+1],q.drop (i+2),?_,by rw[List.length_take];omega⟩;rw[←List.drop_eq_getElem_cons h,←List.drop_eq_getElem_cons (by omega),List.take_append_drop]
theorem merge_ok (hL:LtOk prog w A s κ G key){a0:List Keyed}(hG:∀x∈a0,G x){st:SortSt}{Rs:List (List Keyed)}{Rest:List Keyed}(hS:SI key κ a0 st Rs Rest){i:Nat}(hi:i+1<(pendingOf st).size){Q:Bool→SortSt→Prop}
  (h:∀st' Rs',SI key κ a0 st' Rs' Rest→Rs'.flatten.length=Rs.flatten.length→(pendingOf st').size+1=(pendingOf st).size→Q true st'):wpS (model prog w) A E s (mergeAt' i) Q st:=by
 obtain⟨q1,r1,r2,q2,eq,l1⟩:=split_two (q:=(pendingOf st).toList) (i:=i) (by rw[Array.length_toList];exact hi);have pm:=hS.pm;rw[eq] at pm;obtain⟨Rs1,Rs2,rfl,p1,p2,ln⟩:=pm.split
 match Rs2,p2 with
 | [],p2=>exact p2.elim
 | [U],p2=>exact p2.2.2.2.2.elim
 | U::V::Rs2,⟨h1,h2,h3,h4,h5,h6,h7,h8,h9⟩=>
  have i1:(pendingOf st)[i]?=some r1:=by
   rw[←Array.getElem?_toList,eq,List.getElem?_append_right (by omega),l1,Nat.sub_self];rfl
  have i2:(pendingOf st)[i+1]?=some r2:=by
   rw[←Array.getElem?_toList,eq,List.getElem?_append_right (by omega),l1,show i+1-i=1 by omega];rfl
  have ar:=hS.arr;rw[List.flatten_append,List.flatten_cons,List.flatten_cons] at ar;have ar2:(arrOf st).toList=Rs1.flatten++(U++(V++(Rs2.flatten++Rest))):=by rw[ar];simp only[List.append_assoc]
  have pe:=hS.perm;rw[←hS.arr,ar2] at pe;have gA:∀x∈Rs1.flatten++(U++(V++(Rs2.flatten++Rest))),G x:=fun x hx=>hG x (pe.subset hx)
  rw[Nat.zero_add] at h1 h5;obtain⟨a1,b1,c1⟩:=r1;obtain⟨a2,b2,c2⟩:=r2;refine mergeAt_ok hL hS.kind hS.fail i1 i2 ar2 h1 h2 h6 (by
   have h1:a1=Rs1.flatten.length:=h1;have h2:b1=U.length:=h2;have h5:a2=Rs1.flatten.length+U.length:=h5;omega) h4 h8 h3 h7 (fun x hx=>gA x (List.mem_append_right _ (List.mem_append_left _ hx))) (fun x hx=>gA x (List.mem_append_right _ (List.mem_append_right _ (List.mem_append_left _ hx)))) fun Z st' z1 z2 nx=>?_
  have lz:Z.length=U.length+V.length:=by rw[z1.length_eq,List.length_append]
  have ep:(((pendingOf st).setIfInBounds i (a1,b1+b2,c1)).eraseIdxIfInBounds (i+1)).toList=q1++(a1,b1+b2,c1)::q2:=by
   have:i+1<((pendingOf st).setIfInBounds i (a1,b1+b2,c1)).size:=by rw[Array.size_setIfInBounds];exact hi
   rw[Array.eraseIdxIfInBounds,dif_pos this,Array.toList_eraseIdx,Array.toList_setIfInBounds,eq,←l1,List.set_append_right _ _ (Nat.le_refl _),Nat.sub_self,List.set_cons_zero,List.eraseIdx_append_of_length_le (by omega),show q1.length+1-q1.length=1 by omega];rfl
  refine h st' (Rs1++Z::Rs2) ⟨nx.kind.trans hS.kind,nx.fail.trans hS.fail,?_,?_,?_⟩ ?_ ?_
  ·rw[nx.arr,List.flatten_append,List.flatten_cons];simp only[List.append_assoc]
  ·refine List.Perm.trans ?_ pe;rw[List.flatten_append,List.flatten_cons];simp only[List.append_assoc];refine List.Perm.append_left _ ?_;have:=List.Perm.append_right (Rs2.flatten++Rest) z1;simp only[List.append_assoc] at this;exact this
  ·rw[nx.pend,ep];refine p1.app ⟨by rw[Nat.zero_add];exact h1,?_,fun z=>?_,z2,?_⟩
   ·show b1+b2=Z.length;have h2:b1=U.length:=h2;have h6:b2=V.length:=h6;omega
   ·rw[z] at lz;have:=List.length_pos_iff.mpr h3;simp at lz;omega
   ·rw[lz,←Nat.add_assoc];exact h9
  ·rw[List.flatten_append,List.flatten_append,List.flatten_cons,List.flatten_cons,List.flatten_cons];simp only[List.length_append];omega
  ·rw[nx.pend,←Array.length_toList,←Array.length_toList,ep,eq];simp only[List.length_append,List.length_cons];omega
end
end TS
namespace TS
open PySem PyProof.Rows PySem.W
variable{a0:List Keyed}{Rs:List (List Keyed)}
section
variable {prog:Program}{w:World}{A:Around}{E:Value→Shared→Prop}{s:Shared}{κ:SortKind}{G:Keyed→Prop}{key:Keyed→Int}
theorem flat_snoc (Rs:List (List Keyed))(D:List Keyed):(Rs++[D]).flatten.length=Rs.flatten.length+D.length:=by
 rw[List.flatten_append,List.length_append,List.flatten_cons,List.flatten_nil,List.append_nil]
theorem ite_lt {c:Prop}[Decidable c]{a b n:Nat}(h1:a+1<n)(h2:b+1<n):(if c then a else b)+1<n:=by
 split
 ·exact h1
 ·exact h2
theorem wpS_pw {st:SortSt}{pw:Nat}{Q:PUnit→SortSt→Prop}(h:∀st':SortSt,PyProof.Rows.kindOf st'=PyProof.Rows.kindOf st→arrOf st'=arrOf st→failedOf st'=failedOf st→(pendingOf st').toList.map (fun r=>(r.1,r.2.1))=(pendingOf st).toList.map (fun r=>(r.1,r.2.1))→Q ⟨⟩ st') :
  wpS (model prog w) A E s (modify fun s=>setPending s ((pendingOf s).modify ((pendingOf s).size-1) fun x=>(x.1,x.2.1,pw)):StateT SortSt Sem PUnit) Q st:=by
 refine wpS_modify (h _ rfl rfl rfl ?_);show(((pendingOf st).modify ((pendingOf st).size-1) fun x=>(x.1,x.2.1,pw)).toList).map (fun r=>(r.1,r.2.1))=_;apply List.ext_getElem?;intro k;rw[List.getElem?_map,List.getElem?_map,Array.getElem?_toList,Array.getElem?_toList,Array.getElem?_modify];split
 ·cases (pendingOf st)[k]? <;> rfl
 ·rfl
theorem SI.rn {st st':SortSt}{Rest D R':List Keyed}(h:SI key κ a0 st Rs Rest)(r:Rn st Rs.flatten Rest D R' st'):SI key κ a0 st' Rs (D++R'):=
 ⟨r.1.kind.trans h.kind,r.1.fail.trans h.fail,r.1.arr,(List.Perm.append_left _ r.2).trans h.perm,by rw[r.1.pend];exact h.pm⟩
theorem SI.push {st st':SortSt}{D R':List Keyed}(h:SI key κ a0 st Rs (D++R'))(hD:D≠[])(hu:D.Pairwise (leK key)){lo n pw:Nat}(h1:lo=Rs.flatten.length)(h2:n=D.length)(k:kindOf st'=kindOf st)(f:failedOf st'=failedOf st)(a:arrOf st'=arrOf st)(p:(pendingOf st').toList=(pendingOf st).toList++[(lo,n,pw)]):SI key κ a0 st' (Rs++[D]) R':=by
 have e:(Rs++[D]).flatten++R'=Rs.flatten++(D++R'):=by rw[List.flatten_append];simp
 refine⟨k.trans h.kind,f.trans h.fail,by rw[a,h.arr,e],by rw[e];exact h.perm,?_⟩;rw[p];exact h.pm.app ⟨by rw[Nat.zero_add];exact h1,h2,hD,hu,trivial⟩
theorem sortRuns_ok (hL:LtOk prog w A s κ G key)(hG:∀x∈a0,G x){st:SortSt}(hk:kindOf st=κ)(hf:failedOf st=none)(hp:pendingOf st=#[])(ha:(arrOf st).toList=a0){Q:Unit→SortSt→Prop}
  (h:∀st',failedOf st'=none→(arrOf st').toList.Perm a0→(arrOf st').toList.Pairwise (leK key)→Q () st'):wpS (model prog w) A E s sortRuns' Q st:=by
 have sz:(arrOf st).size=a0.length:=by rw[←Array.length_toList,ha]
 have S0:SI key κ a0 st [] a0:=⟨hk,hf,ha,List.Perm.refl _,by rw[hp];trivial⟩;refine wpS_bind (wpS_get ?_)
 try dsimp only
 refine wpS_bind (wpS_mono (wpS_forRange
  (I:=fun x c st'=>∃lo Rs Rest,c=(none,lo)∧SI key κ a0 st' Rs Rest∧Rs.flatten.length=lo∧x≤lo)
  (Q:=fun c st'=>∃lo Rs,c=(none,lo)∧SI key κ a0 st' Rs []) ?_ ?_ ⟨0,[],a0,rfl,S0,rfl,Nat.le_refl _⟩) ?_)
 ·rintro x c st1 _ hx ⟨lo,Rs,Rest,rfl,S1,l1,x1⟩;have tl:Rs.flatten.length+Rest.length=(arrOf st).size:=by rw[sz,←List.length_append,S1.perm.length_eq]
  try dsimp only
  refine wpS_ite (fun hc=>?_) (fun hc=>?_)
  ·have e:Rest=[]:=List.length_eq_zero_iff.mp (by have hc:lo≥(arrOf st).size:=hc;omega);rw[e] at S1;exact wpS_pure ⟨lo,Rs,rfl,S1⟩
  ·have hc:¬lo≥(arrOf st).size:=hc;have gR:∀x∈Rest,G x:=fun x hx=>hG x (S1.perm.subset (List.mem_append_right _ hx))
   refine wpS_bind (countRun_ok hL S1.kind (L0:=Rs.flatten) (R:=Rest) S1.arr l1.symm (show(arrOf st).size-lo=Rest.length by omega) (fun z=>by rw[z,List.length_nil] at tl;omega) gR fun D R' st2 d1 d2 r2=>?_)
   try dsimp only
   have ld:D.length+R'.length=Rest.length:=by rw[←List.length_append,r2.2.length_eq]
   have dp:=List.length_pos_iff.mpr d1;apply wpS_ite
   case' h1=>
    intro hm;refine wpS_bind (wpS_lift (wpAny_rule ⟨rfl,?_⟩));refine wpS_bind (binarySort_ok hL S1.kind l1.symm (Nat.le_trans (Nat.min_le_left _ _) (show(arrOf st).size-lo≤Rest.length by omega)) gR r2 rfl dp (Nat.le_min.mpr ⟨show D.length≤(arrOf st).size-lo by omega,Nat.le_of_lt hm⟩) d2 fun D5 R5 st5 d5 u5 r5=>?_);refine wpS_ite (fun z=>by cases z) (fun _=>?_);have n5:D5≠[]:=fun z=>by
     have q:D.length≤D5.length:=by rw[d5];exact Nat.le_min.mpr ⟨show D.length≤(arrOf st).size-lo by omega,Nat.le_of_lt hm⟩
     rw[z,List.length_nil] at q;omega
    have S5:=S1.rn r5
   case' h2=>
    intro hm;obtain⟨D5,R5,st5,d5,u5,n5,S5⟩:∃D5 R5 st5,D5.length=D.length∧D5.Pairwise (leK key)∧D5≠[]∧SI key κ a0 st5 Rs (D5++R5)∧st5=st2:=⟨D,R',st2,rfl,d2,d1,S1.rn r2,rfl⟩;obtain⟨S5,rfl⟩:=S5
   all_goals
    rw[←d5];have np:=List.length_pos_iff.mpr n5;refine wpS_bind (wpS_get ?_);cases hb:(pendingOf st5).back? with
    | none=>
     try dsimp only
     refine wpS_bind (wpS_modify (wpS_pure ⟨_,Rs++[D5],R5,rfl,S5.push (pw:=0) n5 u5 l1.symm rfl rfl rfl rfl ?_,by rw[flat_snoc,l1],by omega⟩));show((pendingOf st5).push (lo,D5.length,0)).toList=_;rw[Array.toList_push]
    | some r=>
     obtain⟨s1,n1,p1⟩:=r
     try dsimp only
     refine wpS_bind (wpS_mono (wpS_forRange
      (I:=fun _ c st6=>c=(none,())∧∃Rs6,SI key κ a0 st6 Rs6 (D5++R5)∧Rs6.flatten.length=Rs.flatten.length)
      (Q:=fun c st6=>c=(none,())∧∃Rs6,SI key κ a0 st6 Rs6 (D5++R5)∧Rs6.flatten.length=Rs.flatten.length) ?_ (fun _ _ q=>q) ⟨rfl,Rs,S5,rfl⟩) ?_)
     ·rintro x c st6 _ _ ⟨rfl,Rs6,S6,l6⟩;refine wpS_bind (wpS_get ?_)
      by_cases hs:(pendingOf st6).size>1
      ·rw[if_pos hs];obtain⟨r,er⟩:∃r,(pendingOf st6)[(pendingOf st6).size-2]?=some r:=⟨(pendingOf st6)[(pendingOf st6).size-2]'(by omega),getElem?_pos _ _ (by omega)⟩;obtain⟨a1,a2,a3⟩:=r;rw[er]
       try dsimp only
       refine wpS_ite (fun _=>wpS_pure ⟨rfl,Rs6,S6,l6⟩) (fun _=>?_);refine wpS_bind (merge_ok hL hG S6 (show(pendingOf st6).size-2+1<(pendingOf st6).size by omega) fun st7 Rs7 S7 l7 _=>?_);exact wpS_ite (fun z=>by cases z) (fun _=>wpS_pure ⟨rfl,Rs7,S7,l7.trans l6⟩)
      ·rw[if_neg hs];exact wpS_pure ⟨rfl,Rs6,S6,l6⟩
     ·rintro c st6 ⟨rfl,Rs6,S6,l6⟩
      try dsimp only
      refine wpS_bind (wpS_pw fun st7 k7 a7 f7 p7=>?_);have S7:SI key κ a0 st7 Rs6 (D5++R5):=⟨k7.trans S6.kind,f7.trans S6.fail,by rw[a7];exact S6.arr,S6.perm,S6.pm.same p7⟩;refine wpS_bind (wpS_modify (wpS_pure ⟨_,Rs6++[D5],R5,rfl,S7.push (pw:=0) n5 u5 (l6.trans l1).symm rfl rfl rfl rfl Array.toList_push,by rw[flat_snoc,l6,l1],by omega⟩))
 ·rintro c st1 ⟨lo,Rs,Rest,rfl,S1,l1,x1⟩;have tl:Rs.flatten.length+Rest.length=(arrOf st).size:=by rw[sz,←List.length_append,S1.perm.length_eq]
  have x1:max 0 (arrOf st).size≤lo:=x1;have e:Rest=[]:=List.length_eq_zero_iff.mp (by omega);rw[e] at S1;exact⟨lo,Rs,rfl,S1⟩
 ·rintro c st1 ⟨lo,Rs,rfl,S1⟩
  try dsimp only
  have tl:Rs.flatten.length=(arrOf st).size:=by rw[sz,←S1.perm.length_eq,List.append_nil]
  have pl:=S1.pm.len.2;rw[Array.length_toList] at pl;refine wpS_bind (wpS_mono (wpS_forRange
   (I:=fun x c st'=>c=(none,())∧∃Rs,SI key κ a0 st' Rs []∧(pendingOf st').size+x≤(arrOf st).size)
   (Q:=fun c st'=>c=(none,())∧∃Rs,SI key κ a0 st' Rs []∧(pendingOf st').size≤1) ?_ ?_ ⟨rfl,Rs,S1,by omega⟩) ?_)
  ·rintro x c st2 _ hx ⟨rfl,Rs2,S2,l2⟩;refine wpS_bind (wpS_get ?_)
   try dsimp only
   refine wpS_ite (fun hs=>wpS_pure ⟨rfl,Rs2,S2,hs⟩) (fun hs=>?_);have hs:¬(pendingOf st2).size≤1:=hs;refine wpS_bind (merge_ok hL hG S2 ?_ fun st7 Rs7 S7 _ l7=>?_)
   ·exact ite_lt (show(pendingOf st2).size-2-1+1<(pendingOf st2).size by omega) (show(pendingOf st2).size-2+1<(pendingOf st2).size by omega)
   ·exact wpS_ite (fun z=>by cases z) (fun _=>wpS_pure ⟨rfl,Rs7,S7,by omega⟩)
  ·rintro c st2 ⟨rfl,Rs2,S2,l2⟩;have l2:(pendingOf st2).size+max 0 (arrOf st).size≤(arrOf st).size:=l2;exact⟨rfl,Rs2,S2,by omega⟩
  ·rintro c st2 ⟨rfl,Rs2,S2,l2⟩;have pl:=S2.pm.len.1;rw[Array.length_toList] at pl;have pm:=S2.pm;refine wpS_pure (h st2 S2.fail (by rw[S2.arr];exact S2.perm) ?_);rw[S2.arr,List.append_nil]
   match Rs2,pl,pm with
   | [],_,_=>exact List.Pairwise.nil
   | [R],pl,pm=>
    rw[List.flatten_cons,List.flatten_nil,List.append_nil];generalize (pendingOf st2).toList=q at pm
    match q,pm with
    | [],pm=>exact pm.elim
    | r::q,pm=>exact pm.2.2.2.1
   | _::_::_,pl,_=>simp at pl;omega
end
end TS
namespace DL
open PySem PySem.Spec PyProof.Rows PySem.W L2 List
theorem vj {α β:Type}{f:α→β}{l l2:List β}(h:l.Perm l2):∀L:List α,l2=L.map f→∃p:List α,p.Perm L∧l=p.map f:=by
 induction h with
 | nil=>intro L e;exact⟨L,.refl _,e⟩
 | cons x h ih=>
  intro L e;cases L with
  | nil=>cases e
  | cons a L=>
   obtain⟨rfl,e2⟩:=List.cons.inj e;obtain⟨p,hp,rfl⟩:=ih L e2;exact⟨a::p,hp.cons a,rfl⟩
 | swap x y l=>
  intro L e
  match L,e with
  | [],e=>cases e
  | [_],e=>cases e
  | a::b::L,e=>
   obtain⟨rfl,e2⟩:=List.cons.inj e;obtain⟨rfl,rfl⟩:=List.cons.inj e2;exact⟨b::a::L,.swap _ _ _,rfl⟩
 | trans _ _ ih1 ih2=>
  intro L e;obtain⟨p,hp,e2⟩:=ih2 L e;obtain⟨q,hq,e3⟩:=ih1 p e2;exact⟨q,hq.trans hp,e3⟩
abbrev uC (h:Heap)(a:Addr)(vs:List Value):Heap:=((h.update a (Obj.mapSeq fun _=>#[])).push (seqObj "tuple" vs.toArray 0)).push (seqObj "list" #[] 0)
variable{vs:List Value}{zs:List (List Int)}{ns:List Int}
section
variable {prog:Program}{w:World}{A:Around}{E:Value→Shared→Prop}{s:Shared}
theorem sF {a:Addr}{n:Nat}{κ:SortKind}{P:PySem.Fin→Shared→Prop}(tup:Value→List Int)(ho:s.heap.get? a=some (seqObj "list" vs.toArray n))(hz:vs.map tup=zs)(hl:vs.length≤100000)
  (hk:2≤vs.length→∀Q:SortKind→Shared→Prop,Q κ {s with heap:=uC s.heap a vs}→wpAny (model prog w) A (keyKind' vs.toArray) Q E {s with heap:=uC s.heap a vs})
  (hc:∀x∈vs,∀y∈vs,∀C:Bool→Shared→Prop,C (HT.lexLt (tup x) (tup y)) {s with heap:=uC s.heap a vs}→wpAny (model prog w) A (keyLt' κ x y) C (fun _ _=>False) {s with heap:=uC s.heap a vs})
  (h:∀(p:List Nat) (h':Heap) (n':Nat),p.Perm (List.range vs.length)→p.map (fun i=>zs.getD i [])=da zs→(∀b o,b≠a→s.heap.get? b=some o→h'.get? b=some o)→h'.get? a=some (seqObj "list" (List.toArray (p.map fun i=>vs.getD i Value.none)) n')→P (.done (.ret .none)) {s with heap:=h'}) :
  wpAny (model prog w) A (Builtin.«list.sort» ⟨[.ref a],[]⟩) P E s:=by
 rw[list_sort_plain];have ha:a<s.heap.objs.size:=Heap.lt_size ho;have hsz:vs.toArray.size=vs.length:=by simp
 have le:vs.length≤sizeLine:=by rw[sizeLine_eq];omega
 refine wpAny_bind (listItems_at ho rfl ?_);refine wpAny_bind (listUpdate_at ho rfl ?_ (by rw[size_toArray];exact le) (Nat.zero_le _));obtain⟨e1,ho1⟩:∃e1,(s.heap.update a (Obj.mapSeq fun _=>#[])).get? a=some (seqObj "list" #[] e1):=⟨_,get?_update_seq ho (fun _=>#[])⟩;refine wpAny_bind (seqEpoch_at ho1 rfl ?_);refine wpAny_bind (wpAny_newTuple ?_ (by show vs.length≤_;exact le));refine wpAny_bind (wpAny_newList ?_ (Nat.zero_le _));refine wpAny_holding ?_;have ho6:(uC s.heap a vs).get? a=some (seqObj "list" #[] e1):=by
  rw[Heap.get?_push_ne _ _ _ (by rw[size_push',Heap.size_update];exact Nat.ne_of_lt (Nat.lt_succ_of_lt ha)),Heap.get?_push_ne _ _ _ (by rw[Heap.size_update];exact Nat.ne_of_lt ha)];exact ho1
 have keep:∀(out:Array Value) (b:Addr) (o:Obj),b≠a→s.heap.get? b=some o→((uC s.heap a vs).update a (Obj.mapSeq fun _=>out)).get? b=some o:=fun out b o hb e=>by
  rw[Heap.get?_update_ne _ _ _ _ hb];exact Heap.get?_push_of_some _ (Heap.get?_push_of_some _ (by rw[Heap.get?_update_ne _ _ _ _ hb];exact e))
 have vr:vs=(List.range vs.length).map fun i=>vs.getD i Value.none:=by
  apply ext_getElem
  ·simp
  ·intro i h1 h2;simp[h1]
 have zr:∀p:List Nat,p.Perm (List.range vs.length)→p.map (fun i=>zs.getD i [])=(p.map fun i=>vs.getD i Value.none).map tup:=fun p hp=>by
  rw[map_map];refine map_congr_left fun i hi=>?_
  have hi:=mem_range.mp (hp.subset hi);subst hz;rw[getD_eq_getElem?_getD,getElem?_map,getElem?_eq_getElem hi];show tup vs[i]=tup (vs.getD i Value.none);rw[getD_eq_getElem?_getD,getElem?_eq_getElem hi];rfl
 show wpAny (model prog w) A _ P E {s with heap:=uC s.heap a vs};dsimp only
 by_cases h2:vs.toArray.size<2
 ·rw[if_pos h2,if_pos h2];refine wpAny_bind (wpAny_pure ?_);rw[StateT.run_pure];refine wpAny_bind (wpAny_pure ?_);dsimp only;have e:((vs.toArray.zip vs.toArray).map fun p=>p.2)=List.toArray ((List.range vs.length).map fun i=>vs.getD i Value.none):=by
   match vs,hsz,h2 with
   | [],_,_=>simp
   | [x],_,_=>simp[range_succ]
   | _::_::_,_,h2=>exact absurd h2 (by simp)
  refine wpAny_bind (seqEpoch_at ho6 rfl ?_);refine wpAny_bind (listUpdate_at ho6 rfl ?_ (Nat.zero_le _) (by rw[Array.size_map];show(pairsOf vs).size≤_;rw[pairsOf_size];exact Nat.le_succ_of_le le));simp only[bne_self_eq_false,Bool.false_eq_true,if_false];refine wpAny_pure (h (List.range vs.length) _ _ (.refl _) ?_ (keep _) (by rw[e];exact get?_update_seq ho6 _));rw[zr _ (.refl _),←vr,hz];refine jx (eU zs).symm ?_ (l8 zs);have:zs.length<2:=by rw[←hz,length_map];omega
  match zs,this with
  | [],_=>exact .nil
  | [_],_=>exact pairwise_singleton _ _
  | _::_::_,q=>exact absurd q (by simp)
 ·rw[if_neg h2,if_neg h2];refine wpAny_bind (hk (by omega) _ ?_);have prs:(vs.toArray.zip vs.toArray).toList=vs.map fun v=>(v,v):=by
   rw[Array.toList_zip];show vs.zip vs=_;clear hz hl hk hc h ho hsz le e1 ho1 ho6 keep vr zr h2
   induction vs with
   | nil=>rfl
   | cons v vs ih=>rw[zip_cons_cons,ih];rfl
  have hL:TS.LtOk prog w A {s with heap:=uC s.heap a vs} κ (fun x=>x.1∈vs∧x=(x.1,x.1)) (fun x=>rank zs (tup x.1)):=fun x y hx hy C q=>by
   refine hc x.1 hx.1 y.1 hy.1 C ?_;have mz:tup x.1∈zs:=by rw[←hz];exact mem_map.mpr ⟨x.1,hx.1,rfl⟩
   rw[BD mz];exact q
  refine wpAny_bind (wpAny_mono (TS.sortRuns_ok (E:=E) (a0:=vs.map fun v=>(v,v)) hL (fun x hx=>by
   obtain⟨v,hv,rfl⟩:=mem_map.mp hx;exact⟨hv,rfl⟩) (st:=SortSt.mk' κ (vs.toArray.zip vs.toArray) #[] 7 none) rfl rfl rfl prs
   (Q:=fun _ st'=>∃p:List Nat,p.Perm (List.range vs.length)∧p.map (fun i=>zs.getD i [])=da zs∧failedOf st'=none∧(arrOf st').map (·.2)=List.toArray (p.map fun i=>vs.getD i Value.none)) fun st' f1 f2 f3=>?_) (fun r s' hr=>?_) fun _ _ x=>x)
  ·obtain⟨ws,hw,ew⟩:=vj f2 vs rfl;obtain⟨p,hp,ep⟩:=vj hw (List.range vs.length) vr;refine⟨p,hp,?_,f1,?_⟩
   ·rw[zr p hp,←ep];refine jx ((hw.map tup).trans (.trans (.of_eq hz) (eU zs).symm)) ?_ (l8 zs);rw[ew,pairwise_map] at f3;rw[pairwise_map];refine f3.imp_of_mem fun {x y} hx hy le=>?_
    have mz:tup y∈zs:=by rw[←hz];exact mem_map.mpr ⟨y,hw.subset hy,rfl⟩
    rw[BD mz];exact decide_eq_false (Int.not_lt.mpr le)
   ·apply Array.toList_inj.mp;rw[Array.toList_map,ew,map_map,←ep];exact map_id _
  ·obtain⟨⟨⟩,st'⟩:=r;obtain⟨rfl,p,p1,p2,p3,p4⟩:=hr;dsimp only at p3 p4 ⊢;rw[p4];refine wpAny_bind (seqEpoch_at ho6 rfl ?_);refine wpAny_bind (listUpdate_at ho6 rfl ?_ (Nat.zero_le _) (by rw[size_toArray,length_map,p1.length_eq,length_range];exact Nat.le_succ_of_le le));rw[p3];simp only[bne_self_eq_false,Bool.false_eq_true,if_false];exact wpAny_pure (h p _ _ p1 p2 (keep _) (get?_update_seq ho6 _))
theorem rS {x:Value}{κ:SortKind}{Q:Value→Shared→Prop}(tup:Heap→Value→List Int)(hz:vs.map (tup s.heap)=zs)(hl:vs.length≤100000)
  (hcol:∀R:List Value→Shared→Prop,(∀(h':Heap) (tk:Nat),(∀b o,s.heap.get? b=some o→h'.get? b=some o)→s.heap.objs.size≤h'.objs.size→R vs {s with heap:=h',toks:=tk})→wpAny (model prog w) A.in1 (collect x) R E s)
  (hk:2≤vs.length→∀(s':Shared),(∀b o,s.heap.get? b=some o→s'.heap.get? b=some o)→∀Q:SortKind→Shared→Prop,Q κ s'→∀E,wpAny (model prog w) A.in1.in1 (keyKind' vs.toArray) Q E s')
  (hc:∀x∈vs,∀y∈vs,∀(s':Shared),(∀b o,s.heap.get? b=some o→s'.heap.get? b=some o)→∀C:Bool→Shared→Prop,C (HT.lexLt (tup s.heap x) (tup s.heap y)) s'→wpAny (model prog w) A.in1.in1 (keyLt' κ x y) C (fun _ _=>False) s')
  (h:∀(p:List Nat) (h':Heap) (tk l n':Nat),p.Perm (List.range vs.length)→p.map (fun i=>zs.getD i [])=da zs→(∀b o,s.heap.get? b=some o→h'.get? b=some o)→s.heap.objs.size≤l→h'.get? l=some (seqObj "list" (List.toArray (p.map fun i=>vs.getD i Value.none)) n')→Q (.ref l) {s with heap:=h',toks:=tk}) :
  wpAny (model prog w) A (call (.builtin "sorted") [x]) Q E s:=by
 refine Calls.call_function_entry kind_sorted plain_sorted entry_sorted (args_sorted1 _) ?_;unfold Builtin.«sorted»;refine wpAny_bind (m:=checkCount "sorted" 1 1 _) (wpAny_pure ?_);refine wpAny_bind (hcol _ fun h1 tk keep1 hs1=>?_);refine wpAny_bind (wpAny_newList ?_ (by rw[sizeLine_eq];omega));have hoL:(h1.push (seqObj "list" vs.toArray 0)).get? h1.objs.size=some (seqObj "list" vs.toArray 0):=Heap.get?_push_size _ rfl;have keep2:∀b o,s.heap.get? b=some o→(h1.push (seqObj "list" vs.toArray 0)).get? b=some o:=fun b o e=>Heap.get?_push_of_some _ (keep1 b o e)
 have ne:∀b o,s.heap.get? b=some o→b≠h1.objs.size:=fun b o e=>Nat.ne_of_lt (Heap.lt_size (keep1 b o e))
 have keep3:∀b o,s.heap.get? b=some o→(uC (h1.push (seqObj "list" vs.toArray 0)) h1.objs.size vs).get? b=some o:=fun b o e=>
  Heap.get?_push_of_some _ (Heap.get?_push_of_some _ (by rw[Heap.get?_update_ne _ _ _ _ (ne b o e)];exact keep2 b o e))
 refine wpAny_bind (wpAny_holding (wpAny_call_entry slot_list_sort ⟨_,hoL,rfl⟩ entry_list_sort (sF (zs:=zs) (κ:=κ) (tup s.heap) hoL hz hl (fun h2 Q q=>hk h2 _ keep3 Q q _) (fun x hx y hy C q=>hc x hx y hy _ keep3 C q) fun p h3 n3 p1 p2 k3 g3=>⟨_,rfl,?_⟩) (args_list_sort _)));exact wpAny_pure ⟨_,rfl,h p h3 tk h1.objs.size n3 p1 p2 (fun b o e=>k3 b o (ne b o e) (keep2 b o e)) hs1 g3⟩
theorem uZ {T:String}{r d:Addr}{n:Nat}{Pv:Nat→Value→Prop}{OK:Heap→Prop}{R:List Value→Shared→Prop}(K:KdlSrc prog w T r d n Pv OK)(hh:A.handled=none)(hok:OK s.heap)(hn:n≤sizeLine)
  (h:∀(h':Heap) (tk:Nat) (acc:Array Value),(∀b o,s.heap.get? b=some o→h'.get? b=some o)→s.heap.objs.size≤h'.objs.size→ItemsOf Pv acc n→R acc.toList {s with heap:=h',toks:=tk}) :
  wpAny (model prog w) A (collect (.ref r)) R E s:=by
 have hlt:=K.there _ hok;unfold collect;refine wpAny_bind (wpAny_runValue (codeAny_builtin entry_proto_collect' ?_));rw[Around.under_plainId PySem.F.plain_proto_collect _];show wpAny _ A.in1 (newList [] >>= fun l=>again (.builtin "list.__iadd__" ⟨[l,.ref r],[]⟩)) _ _ s;refine wpAny_bind (wpAny_newObj_type ?_);refine wpAny_pure ⟨plainId_quiet PySem.F.plain_list_iadd _,codeAny_builtin entry_list_iadd' ?_⟩;rw[Around.under_plainId PySem.F.plain_list_iadd _];have hS₁:(s.heap.push {cls:=.type "list",data:=.seq ([]:List Value).toArray}).get? s.heap.objs.size=some {cls:=.type "list",data:=.seq #[]}:=Heap.get?_push_size _ rfl;show wpAny _ A.in1 (Builtin.List.listExtendWith (.ref s.heap.objs.size) (.ref r) (.ref s.heap.objs.size)) _ _ _;have key:=kdl_extend (A:=A) (s:={s with heap:=s.heap.push {cls:=.type "list",data:=.seq ([]:List Value).toArray}})
  (R:=fun(q:Result) (s':Shared)=>∃(h':Heap) (tk:Nat) (acc':Array Value) (c':Nat),q=.ok (.ret (.ref s.heap.objs.size))∧s'={s with heap:=h',toks:=tk}∧
   (∀b o,s.heap.get? b=some o→h'.get? b=some o)∧h'.get? s.heap.objs.size=some {cls:=.type "list",dict:=none,data:=.seq acc' c',slots:=#[]}∧ItemsOf Pv acc' n)
  K hh (K.keep _ _ hok fun b _ o e=>Heap.get?_push_of_some _ e) s.heap.objs.size (Nat.ne_of_gt hlt.1) (Nat.ne_of_gt hlt.2) (.ref s.heap.objs.size) 0 hS₁
  (fun h' tk acc' c' hk hS' hacc=>⟨h',tk,acc',c',rfl,rfl,fun b o e=>hk b o (Nat.ne_of_lt (Heap.lt_size e)) (Heap.get?_push_of_some _ e),hS',hacc⟩) hn
 refine wpAny_mono key (fun fin s' x=>?_) fun e s' x=>?_
 ·cases fin with
  | done f=>
   obtain⟨h',tk,acc',c',e,rfl,hk,hS',hacc⟩:=x;cases e;show wpAny _ A (load s.heap.objs.size >>= _) _ _ _;exact wpAny_bind (wpAny_load hS' (wpAny_pure (h h' tk acc' hk (Nat.le_of_lt (Heap.lt_size hS')) hacc)))
  | again c₁=>
   refine⟨x.1,codeAny_mono x.2 fun q s₂ y=>?_⟩;obtain⟨h',tk,acc',c',rfl,rfl,hk,hS',hacc⟩:=y;show wpAny _ A (load s.heap.objs.size >>= _) _ _ _;exact wpAny_bind (wpAny_load hS' (wpAny_pure (h h' tk acc' hk (Nat.le_of_lt (Heap.lt_size hS')) hacc)))
 ·obtain⟨_,_,_,_,e',_⟩:=x;cases e'
def vg (h:Heap):Value→List Int
 | .int n _=>[n]
 | .ref b=>match h.get? b with
  | some o=>match o.data with
   | .seq xs _=>xs.toList.map numOf
   | _=>[]
  | none=>[]
 | _=>[]
theorem BZ (h:IntsAre vs ns):vs.map numOf=ns:=by
 induction h with
 | nil=>rfl
 | cons n t h ih=>rw[map_cons,ih];rfl
theorem nc.tup {h:Heap}:∀{vs:List Value} {zs:List (List Int)},nc h vs zs→vs.map (vg h)=zs
 | [],[],_=>rfl
 | [],_::_,t=>t.elim
 | _::_,[],t=>t.elim
 | v::vs,z::zs,⟨⟨b,o,xs,k,e,g,c,d,r,_⟩,t⟩=>by
  rw[map_cons,t.tup];congr 1;subst e;show(match h.get? b with|some o=>(match o.data with | .seq xs _=>xs.toList.map numOf|_=>[])|none=>[])=z;rw[g];dsimp only;rw[d];exact BZ r
theorem nc.mem {h:Heap}:∀{vs:List Value} {zs:List (List Int)} {v:Value},nc h vs zs→v∈vs→∃b o xs k,v=.ref b∧h.get? b=some o∧o.cls=.type "tuple"∧o.data=.seq xs k∧IntsAre xs.toList (vg h v)
 | [],_,v,_,q=>by cases q
 | _::_,[],_,t,_=>t.elim
 | u::vs,z::zs,v,t,q=>by
  rcases mem_cons.mp q with rfl|q
  ·have e:=nc.tup (vs:=[v]) (zs:=[z]) ⟨t.1,trivial⟩;obtain⟨⟨b,o,xs,k,e1,g,c,d,r,_⟩,_⟩:=t;have e:vg h v=z:=(List.cons.inj e).1;exact⟨b,o,xs,k,e1,g,c,d,by rw[e];exact r⟩
  ·exact t.2.mem q
theorem sM {x:Value}{Q:Value→Shared→Prop}(t:nc s.heap vs zs)(hl:vs.length≤100000)
  (hcol:∀R:List Value→Shared→Prop,(∀(h':Heap) (tk:Nat),(∀b o,s.heap.get? b=some o→h'.get? b=some o)→s.heap.objs.size≤h'.objs.size→R vs {s with heap:=h',toks:=tk})→wpAny (model prog w) A.in1 (collect x) R E s)
  (h:∀(p:List Nat) (h':Heap) (tk l n':Nat),p.Perm (List.range vs.length)→p.map (fun i=>zs.getD i [])=da zs→(∀b o,s.heap.get? b=some o→h'.get? b=some o)→s.heap.objs.size≤l→h'.get? l=some (seqObj "list" (List.toArray (p.map fun i=>vs.getD i Value.none)) n')→Q (.ref l) {s with heap:=h',toks:=tk}) :
  wpAny (model prog w) A (call (.builtin "sorted") [x]) Q E s:=by
 refine rS (κ:=tuples' true) vg t.tup hl hcol (fun h2 s' keep Q q E=>?_) (fun x hx y hy s' keep C q=>?_) h
 ·obtain⟨fs,kt,kl,kf⟩:=(t.keep keep).firsts;refine kat_kind (T:=.type "int") kt (by omega) (fun v hv=>?_) rfl q;obtain⟨m,tk,rfl⟩:=kf v hv;exact .now
 ·obtain⟨b,o,xs,k,rfl,g1,c1,d1,r1⟩:=t.mem hx;obtain⟨c,o2,ys,k2,rfl,g2,c2,d2,r2⟩:=t.mem hy;exact kat_lt (keep _ _ g1) d1 (keep _ _ g2) d2 (vT 0 r1 r2 (by rw[←r1.length,←r2.length];simp) q)
theorem mF {x:Value}{Q:Value→Shared→Prop}(t:IntsAre vs ns)(hl:vs.length≤100000)
  (hcol:∀R:List Value→Shared→Prop,(∀(h':Heap) (tk:Nat),(∀b o,s.heap.get? b=some o→h'.get? b=some o)→s.heap.objs.size≤h'.objs.size→R vs {s with heap:=h',toks:=tk})→wpAny (model prog w) A.in1 (collect x) R E s)
  (h:∀(p:List Nat) (h':Heap) (tk l n':Nat),p.Perm (List.range vs.length)→p.map (fun i=>(ns.map fun n=>[n]).getD i [])=da (ns.map fun n=>[n])→(∀b o,s.heap.get? b=some o→h'.get? b=some o)→s.heap.objs.size≤l→h'.get? l=some (seqObj "list" (List.toArray (p.map fun i=>vs.getD i Value.none)) n')→Q (.ref l) {s with heap:=h',toks:=tk}) :
  wpAny (model prog w) A (call (.builtin "sorted") [x]) Q E s:=by
 have all:∀{vs:List Value} {ns:List Int},IntsAre vs ns→(∀v∈vs,∃n t,v=Value.int n t)∧vs.map (vg s.heap)=ns.map fun n=>[n]:=fun t=>by
  induction t with
  | nil=>exact⟨fun v hv=>(by cases hv),rfl⟩
  | cons n u t ih=>
   refine⟨fun v hv=>?_,by rw[map_cons,ih.2];rfl⟩;rcases mem_cons.mp hv with rfl|hv
   ·exact⟨n,u,rfl⟩
   ·exact ih.1 v hv
 obtain⟨a1,a2⟩:=all t;refine rS (κ:=oneType') vg a2 hl hcol (fun h2 s' keep Q q E=>?_) (fun x hx y hy s' keep C q=>?_) h
 ·refine kas_kind (T:=.type "int") h2 (fun v hv=>?_) rfl rfl q;obtain⟨m,tk,rfl⟩:=a1 v hv;exact .now
 ·obtain⟨m,tk,rfl⟩:=a1 x hx;obtain⟨m2,tk2,rfl⟩:=a1 y hy;have e:HT.lexLt (vg s.heap (.int m tk)) (vg s.heap (.int m2 tk2))=decide (m<m2):=by
   show HT.lexLt [m] [m2]=_;rw[HT.lexLt_cons]
   by_cases z:m=m2
   ·rw[if_pos z,decide_eq_false (by omega)];rfl
   ·rw[if_neg z]
  rw[e] at q;rw[keyLt'_oneType];exact oneLt_int q
end
variable{us:List Value}
section
variable {prog:Program}{w:World}{A:Around}{E:Value→Shared→Prop}{s:Shared}
theorem uR (h:IntsAre us ns):us.length=ns.length:=by
 induction h with
 | nil=>rfl
 | cons n t h ih=>rw[length_cons,length_cons,ih]
theorem uA {d:Addr}{ep:Nat}{ws:List (gV×Value)}{Q:Value→Shared→Prop}(lo:(d==sysModules)=false)(hh:A.handled=none)(hm:s.heap.DictAt (cM prog w) d ws ep)(hk:ws.map (·.1)=ns.map Sum.inl)(hl:ns.length≤100000)
  (h:∀(vs:List Value),IntsAre vs ns→∀(p:List Nat) (h':Heap) (tk l n':Nat),p.Perm (List.range ns.length)→p.map (fun i=>(ns.map fun n=>[n]).getD i [])=da (ns.map fun n=>[n])→(∀b o,s.heap.get? b=some o→h'.get? b=some o)→s.heap.objs.size≤l→h'.get? l=some (seqObj "list" (List.toArray (p.map fun i=>vs.getD i Value.none)) n')→Q (.ref l) {s with heap:=h',toks:=tk}) :
  wpAny (model prog w) A (call (.builtin "sorted") [.ref d]) Q E s:=by
 obtain⟨o,es,ho,hx,hd,hks,hpr,hn⟩:=hm;have el:∀{es:List DictEntry} {ws:List (gV×Value)} {ns:List Int},Pairs (cM prog w) es ws→ws.map (·.1)=ns.map Sum.inl→IntsAre (es.map (·.key)) ns:=by
  intro es ws ns q
  induction q generalizing ns with
  | nil=>intro e;cases ns with
   | nil=>exact .nil
   | cons _ _=>cases e
  | cons hq hv t ih=>
   intro e;cases ns with
   | nil=>cases e
   | cons n ns=>
    rw[map_cons,map_cons] at e;obtain⟨e1,e2⟩:=List.cons.inj e;rw[e1] at hq;rcases b9 (show o8 (Sum.inl n) _=true from hq) with⟨i,t',ei,ek⟩|⟨_,_,ex,_⟩
    ·cases ei;rw[map_cons,ek];exact .cons _ _ (ih e2)
    ·cases ex
 have ia:=el hpr hk;have li:=uR ia;rw[length_map,Array.length_toList] at li;have raw:oC s.heap d es ep:=⟨o,ho,hx,hd⟩;refine mF ia (by rw[length_map,Array.length_toList,li];exact hl) (fun R q=>uZ (DK lo) hh raw (by rw[li,sizeLine_eq];omega) fun h' tk acc k1 k2 hacc=>?_) fun p h' tk l n' p1 p2=>h _ ia p h' tk l n' (by rw[length_map,Array.length_toList,li] at p1;exact p1) p2
 have e:acc.toList=es.toList.map (·.key):=by
  apply ext_getElem?;intro j;rw[Array.getElem?_toList,getElem?_map,Array.getElem?_toList]
  by_cases hj:j<acc.size
  ·obtain⟨e',he,hv⟩:=hacc.2 j _ (Array.getElem?_eq_getElem hj);rw[Array.getElem?_eq_getElem hj,hv,he];rfl
  ·rw[Array.getElem?_eq_none (by omega),Array.getElem?_eq_none (by rw[←hacc.1];omega)];rfl
 rw[e];exact q h' tk k1 k2
end
def jD (ns:List Int):List Int:=(da (ns.map fun n=>[n])).map fun z=>z.headD 0
def xL {α:Type}:List (gV×α)→Option (List Int)
 | []=>some []
 | (.inl n,_)::r=>(xL r).map (n::·)
 | _=>none
def mI:FD:=fun ds M=>match ds with
 | [.mr i]=>match M[i]? with
  | some (.dK kvs)=>match xL kvs with
   | some ns=>if ns.length≤100000 then .ok (.lst ((jD ns).map D.int)) M else .bad
   | none=>.bad
  | some (.lst xs)=>match nX xs with
   | some ns=>if ns.length≤100000 then .ok (.lst ((jD ns).map D.int)) M else .bad
   | none=>match mH xs with
    | some zs=>if zs.length≤100000 then .ok (.lst ((da zs).map iU)) M else .bad
    | none=>.bad
  | _=>.bad
 | [.lst xs]=>match nX xs with
  | some ns=>if ns.length≤100000 then .ok (.lst ((jD ns).map D.int)) M else .bad
  | none=>match mH xs with
   | some zs=>if zs.length≤100000 then .ok (.lst ((da zs).map iU)) M else .bad
   | none=>.bad
 | _=>.bad
def rR (xs:List D)(M:au):aO D:=match nX xs with
 | some ns=>if ns.length≤100000 then .ok (.lst ((jD ns).map D.int)) M else .bad
 | none=>match mH xs with
  | some zs=>if zs.length≤100000 then .ok (.lst ((da zs).map iU)) M else .bad
  | none=>.bad
section
variable {X:Cx}{ae:List (Addr×Obj)}{σ:L2.St}{H:Hp}{s:Shared}{θ:List Addr}
theorem oW:∀{ns:List Int} {us:List Value},aR (ns.map V.int) us→IntsAre us ns
 | [],_,r=>by rw[map_nil] at r;cases r;exact .nil
 | n::ns,_,r=>by
  rw[map_cons] at r;cases r with
  | cons h t=>
   obtain⟨tk,rfl⟩:=(show∃t,_=Value.int n t from h);exact .cons n tk (oW t)
theorem yB (h:IntsAre us ns):∀i,i<ns.length→aY (V.int (ns.getD i 0)) (us.getD i Value.none):=by
 induction h with
 | nil=>intro i hi;cases hi
 | cons n t h ih=>
  intro i hi;cases i with
  | zero=>exact⟨t,rfl⟩
  | succ i=>exact ih i (by simpa using hi)
theorem mf {p:List Nat}(hp:p.Perm (List.range ns.length))(e:p.map (fun i=>(ns.map fun n=>[n]).getD i [])=da (ns.map fun n=>[n])):p.map (fun i=>ns.getD i 0)=jD ns:=by
 unfold jD;rw[←e,map_map];refine map_congr_left fun i hi=>?_
 have hi:=mem_range.mp (hp.subset hi);show ns.getD i 0=((ns.map fun n=>[n]).getD i []).headD 0;rw[getD_eq_getElem?_getD,getD_eq_getElem?_getD,getElem?_map,getElem?_eq_getElem hi];rfl
theorem ly {Q:VK}{M:au}{h':Heap}{tk l n':Nat}{vs:List V}{out:List Value}{ds:List D}(I:L2.Inv X ae σ H s)(hw:Wr X.K θ H M)(hk:∀b o,s.heap.get? b=some o→h'.get? b=some o)(hl:s.heap.objs.size≤l)(hg:h'.get? l=some (seqObj "list" (List.toArray out) n'))(hv:aR vs out)(hz:vs.length≤sizeLine)(hd:ba X.K θ H ds vs)
  (h:aE X θ H Q (.ok (.lst ds) M)):∃x H',L2.Inv X ae σ H' {s with heap:=h',toks:=tk}∧aY x (.ref l)∧Q x H':=by
 have fr:=I.hok.fresh hl;exact⟨.ref l,_,I.laid (t':=tk) hk hl (show cO X.prog X.w _ _ _ (.lst vs) from⟨hz,out,n',hv,hg⟩),rfl,h _ θ _ (eD hw fr) (iu hw fr hd)⟩
theorem pf {Q:VK}{M:au}{a:Addr}{ys:List D}{vs:List V}{u:Value}(I:L2.Inv X ae σ H s)(hw:Wr X.K θ H M)(ta:H a=some (.lst vs))(ra:ba X.K θ H ys vs)(hu:u=.ref a)(h:aE X θ H Q (rR ys M)) :
  wpAny (model X.prog X.w) X.A (call (.builtin "sorted") [u]) (fun v s'=>∃x H',L2.Inv X ae σ H' s'∧aY x v∧Q x H') X.xe s:=by
 subst hu;obtain⟨its,r',pl,hz⟩:=I.list (show m3 X.K H a vs from .inl (.inl ta));have col:∀(A:Around) (E:Value→Shared→Prop) (R:List Value→Shared→Prop),(∀(h':Heap) (tk:Nat),(∀b o,s.heap.get? b=some o→h'.get? b=some o)→s.heap.objs.size≤h'.objs.size→R its {s with heap:=h',toks:=tk})→wpAny (model X.prog X.w) A (collect (.ref a)) R E s:=fun A E R q=>by
  refine collect_list pl.isList (q _ s.toks (fun b o e=>?_) (by rw[Heap.size_update,size_push'];exact Nat.le_succ _)) (by rw[←r'.length];exact hz);have hb:b≠s.heap.objs.size:=Nat.ne_of_lt (Heap.lt_size e);rw[Heap.get?_update_ne _ _ _ _ hb];exact Heap.get?_push_of_some _ e
 unfold rR at h;split at h
 ·rename_i ns qn;split at h
  ·rename_i hl;have ev:=AC qn ra;subst ev;have ia:=oW r';have li:=uR ia;refine mF ia (by rw[li];exact hl) (col _ _) fun p h' tk l n' p1 p2 k hll g=>?_
   rw[li] at p1;have inR:∀i∈p,i<ns.length:=fun i hi=>mem_range.mp (p1.subset hi)
   refine ly (vs:=(jD ns).map V.int) I hw k hll g ?_ (by rw[←mf p1 p2,length_map,length_map,p1.length_eq,length_range,sizeLine_eq];omega) (kx _) h;rw[←mf p1 p2,map_map];exact kr _ fun i hi=>yB ia i (inR i hi)
  ·exact h.elim
 ·split at h
  ·rename_i zs qz;split at h
   ·rename_i hl;obtain⟨T,lz,f⟩:=u3 I qz ra r';refine sM T (by rw[lz];exact hl) (col _ _) fun p h' tk l n' p1 p2 k hll g=>?_
    rw[lz] at p1;have inR:∀i∈p,i<zs.length:=fun i hi=>mem_range.mp (p1.subset hi)
    refine ly (vs:=p.map fun i=>vs.getD i V.non) I hw k hll g (kr _ fun i hi=>(f i (inR i hi)).2) (by rw[length_map,p1.length_eq,length_range,sizeLine_eq];omega) ?_ h;rw[←p2,map_map];exact qH _ fun i hi=>(f i (inR i hi)).1
   ·exact h.elim
  ·exact h.elim
theorem rq {K:W.Frag}{κ:Type}:∀{kvs:List (κ×D)} {vs:List (κ×V)},nR K θ H kvs vs→kvs.map (·.1)=vs.map (·.1)
 | [],vs,r=>by
  have e:vs=[]:=r;subst e;rfl
 | (k,d)::kvs,vs,r=>by
  obtain⟨v,r',e,_,h2⟩:=r;subst e;rw[map_cons,map_cons,rq h2]
theorem BK {kvs:List (gV×D)}:∀{ns:List Int},xL kvs=some ns→kvs.map (·.1)=ns.map Sum.inl:=by
 induction kvs with
 | nil=>intro ns e;cases e;rfl
 | cons p r ih=>
  intro ns e;obtain⟨k,d⟩:=p;cases k with
  | inl n=>
   obtain⟨ms,e1,rfl⟩:=Option.map_eq_some_iff.mp (show(xL r).map (n::·)=some ns from e);rw[map_cons,ih e1];rfl
  | inr x=>cases e
theorem AN (hc:X.calm=true):cV X (.builtin "sorted") (rC X mI):=by
 intro ae s σ H xs us Q I r h;obtain⟨θ,M,ds,hw,rd,h⟩:=h;unfold mI at h;split at h
 ·rename_i i;obtain⟨v,e,a,ea,ta⟩:=dS rd;subst e ea;obtain⟨u,rfl,rx⟩:=iA r;have rx:u=.ref a:=rx;split at h
  ·rename_i kvs qm;split at h
   ·rename_i ns qn;split at h
    ·rename_i hl;subst rx;obtain⟨vs,hv,ra⟩:=hw.at_ i a _ ta qm;obtain⟨z,lo,ws,rel,hd⟩:=(show cO X.prog X.w H s.heap a (.dK vs) from I.hok a _ hv);obtain⟨ep,hat⟩:=hd.dictAt;have kk:ws.map (·.1)=ns.map Sum.inl:=by rw[←rel.keys,←rq ra];exact BK qn
     have lw:ws.length=ns.length:=by rw[←length_map (f:=(·.1)),kk,length_map]
     refine wpAny_mono (uA lo (show X.A.handled=none from I.ok.hd hc) hat kk (by omega) fun vs2 ia p h' tk l n' p1 p2 k hll g=>?_) (fun _ _ x=>x) (fun _ _ x=>x);have inR:∀i∈p,i<ns.length:=fun i hi=>mem_range.mp (p1.subset hi)
     refine ly (vs:=(jD ns).map V.int) I hw k hll g ?_ (by rw[←mf p1 p2,length_map,length_map,p1.length_eq,length_range,sizeLine_eq];omega) (kx _) h;rw[←mf p1 p2,map_map];exact kr _ fun i hi=>yB ia i (inR i hi)
    ·exact h.elim
   ·exact h.elim
  ·rename_i ys qm;obtain⟨vs,hv,ra⟩:=hw.at_ i a _ ta qm;exact pf I hw hv ra rx h
  ·exact h.elim
 ·rename_i ys;obtain⟨v,e,a,vs,ea,ta,ra⟩:=dS rd;subst e ea;obtain⟨u,rfl,rx⟩:=iA r;exact pf I hw ta.1 ra rx h
 ·exact h.elim
theorem D7 (hc:X.calm=true):QC X (.builtin "sorted") mI:=⟨AN hc⟩
end
end DL
namespace DL
open PySem PySem.Spec PyProof.Rows L2 List
def Lh:D→D
 | .mr j=>.mr (j-1)
 | d=>d
def Mt (i:Nat):D→Bool
 | .mr j=>decide (i<j)
 | d=>bN 30 d
def Mq (kvs:List (gV×D)):List D:=kvs.map fun p=>.tup [LK p.1,Lh p.2]
def Ms (n:Nat)(x:D)(M:au):aO iM:=match x with
 | .mr i=>match M[i]? with
  | some (.dK kvs)=>if n≤i∧(M.take i).all (pd i)=true∧(M.drop (i+1)).all A2=true∧kvs.all (fun p=>Mt i p.2)=true then .ok ⟨Mq kvs,none⟩ (M.eraseIdx i) else .bad
  | _=>.bad
 | _=>.bad
def dJ:F2:=fun x y M=>match x with
 | .mr i=>match M[i]? with
  | some (.dK kvs)=>match jE y with
   | some k=>match jI kvs k with
    | some r=>.ok r M
    | none=>.bad
   | none=>.bad
  | _=>.bad
 | _=>.bad
variable{X:Cx}
theorem AQ {pos:Pos}{o i:Expr}{go gi:GE}(hu:X.A.units+1<cLine)(ho:PE X o (tE X go))(hi:PE X i (tE X gi))(hs:Dx i):PE X (.Subscript o i pos) (tE X (g2 dJ go gi)):=(Ci hu ho hi hs).of fun σ H Q hxx=>by
 obtain⟨ρ,θ,M,hd,hw,h⟩:=hxx;refine b7 hd hw (aE X θ H Q) (fun c M' h=>h) (fun h=>h) h fun d1 M1 v1 θ1 H1 g1 r1 h1=>?_
 have h1:=aE.go g1 h1;refine b7 (hd.go g1) g1.wr (aE X θ1 H1 Q) (fun c M' h=>h) (fun h=>h) h1 fun d2 M2 v2 θ2 H2 g2 r2 h2=>?_
 have h2:=aE.go g2 h2;have r1:=r1.go g2;unfold dJ at h2;cases d1 with
 | mr i=>
  obtain⟨a,ea,ta⟩:=r1;dsimp only at h2;cases q:M2[i]? with
  | none=>rw[q] at h2;exact h2.elim
  | some mo=>
   rw[q] at h2;cases mo with
   | dK kvs=>
    dsimp only at h2;obtain⟨vs,hv,ra⟩:=g2.wr.at_ i a _ ta q;cases qk:jE d2 with
    | none=>rw[qk] at h2;exact h2.elim
    | some k=>
     rw[qk] at h2;dsimp only at h2;have ek:=AB qk r2;cases qg:jI kvs k with
     | none=>rw[qg] at h2;exact h2.elim
     | some r=>
      rw[qg] at h2;obtain⟨v,ev,rv⟩:=(mV k ra).1 r qg;refine⟨a,v,ea,?_,h2 v θ2 H2 (.refl g2.wr) rv⟩;rw[ek,←ev];exact vb.k hv
   | _=>exact h2.elim
 | _=>exact h2.elim
variable{k:Nat}
theorem zX {pos:Pos}{o i:Expr}{go gi:GE}(hr:d7 k X.A)(ho:QE X o go)(hi:QE X i gi)(hs:Dx i:=by intro _ _;rfl):QE X (.Subscript o i pos) (g2 dJ go gi):=⟨AQ (EB hr) ho.h hi.h hs⟩
def iZ:FD:=fun ds M=>match ds with
 | [.int a]=>if a.natAbs.log2<1920 then .ok (.str (toString a)) M else .bad
 | [.str x]=>.ok (.str x) M
 | [.non]=>.ok (.str "None") M
 | _=>.bad
def zt:FD:=fun ds M=>match ds with
 | [.str x]=>match PySem.intText? x with
  | some n=>if x.length≤640 then .ok (.int n) M else .bad
  | none=>.bad
 | ds=>pU ds M
def ky (x:Str)(d:D)(M:au):aO D:=match d with
 | .str y=>.ok (.bl (Txt.startswith x y)) M
 | _=>.bad
variable{θ:List Addr}{H:Hp}{M:au}{x:Str}
section
variable {X:Cx}
theorem GF:cV X (.type "str") (rC X iZ):=by
 intro ae s σ H xs us Q I r h;obtain⟨θ,M,ds,hw,rd,h⟩:=h;unfold iZ at h;split at h
 ·rename_i a;obtain⟨v,e,rv⟩:=dS rd;have ev:v=.int a:=rv;subst e ev;obtain⟨u,rfl,t,rfl⟩:=iA r;split at h
  ·rename_i ha;exact PySem.P.str_of_int ha ⟨.str (toString a),H,I.tok _,⟨_,rfl⟩,h _ θ H (.refl hw) rfl⟩
  ·exact h.elim
 ·rename_i x;obtain⟨v,e,rv⟩:=dS rd;have ev:v=.str x:=rv;subst e ev;obtain⟨u,rfl,t,rfl⟩:=iA r;exact PySem.P.str_of_str ⟨.str x,H,I,⟨_,rfl⟩,h _ θ H (.refl hw) rfl⟩
 ·obtain⟨v,e,rv⟩:=dS rd;have ev:v=.non:=rv;subst e ev;obtain⟨u,rfl,r1⟩:=iA r;cases r1;exact PySem.P.str_of_none ⟨.str "None",H,I.tok _,⟨_,rfl⟩,h _ θ H (.refl hw) rfl⟩
 ·exact h.elim
theorem Ki:QC X (.type "str") iZ:=⟨GF⟩
theorem CY:cV X (.type "int") (rC X zt):=by
 intro ae s σ H xs us Q I r h;obtain⟨θ,M,ds,hw,rd,h⟩:=h;have ap:aE X θ H Q (pU ds M)→wpAny (model X.prog X.w) X.A (call (.type "int") us) (EP X ae σ Q) X.xe s:=fun h=>Bf ae s σ H xs us Q I r ⟨θ,M,ds,hw,rd,h⟩
 unfold zt at h;split at h
 ·rename_i x;obtain⟨v,e,rv⟩:=dS rd;have ev:v=.str x:=rv;subst e ev;obtain⟨u,rfl,t,rfl⟩:=iA r;split at h
  ·rename_i n hn;split at h
   ·rename_i hl;exact W.KIN.call_text hn hl ⟨.int n,H,I.tok _,⟨_,rfl⟩,h _ θ H (.refl hw) rfl⟩
   ·exact h.elim
  ·exact h.elim
 ·exact ap h
theorem Hw:QC X (.type "int") zt:=⟨CY⟩
def xQ:V→List V→Hp→VK→Prop:=fun x vs H Q=>∃a b,x=.str a∧vs=[.str b]∧Q (.bl (Txt.startswith a b)) H
theorem yD:Ig X "str.startswith" xQ:=by
 intro ae s σ H x vs v us Q I rx rv h;obtain⟨a,b,rfl,rfl,q⟩:=h;obtain⟨t,rfl⟩:=rx;obtain⟨u,rfl,ru⟩:=rv.one;obtain⟨t',rfl⟩:=ru;exact call_gives F.slot_str_startswith (typeIs_str _ _ _) F.entry_str_startswith (F.args_str_startswith_2 _ _) (gives_str_startswith a b t t') ⟨.bl _,H,I,rfl,q⟩
theorem yG {d:D}{y:V}{Q:VK}(hw:Wr X.K θ H M)(ry:cP X.K θ H d y)(h:aE X θ H Q (ky x d M)):xQ (.str x) [y] H Q:=by
 cases d with
 | str z=>
  have ev:y=.str z:=ry;subst ev;exact⟨x,z,rfl,rfl,h _ θ H (.refl hw) rfl⟩
 | _=>exact h.elim
variable {o e:Expr}{go ge:GE}{apos cpos:Pos}
theorem zB (ho:QE X o go)(he:QE X e ge)(h1:bB e=true:=by rfl)(hbase:attributeBase o "startswith" X.env (eval o X.env)=eval o X.env:=by rfl)(hline:(apos.endLine==cpos.line)=true:=by rfl) :
  QE X (.Call (.Attribute o "startswith" apos) [e] [] cpos) (aP ky go ge):=
 ⟨(wa PySem.F.plainAttrs_str PySem.F.slot_str_startswith PySem.F.type_str_startswith yD ho.h (f6 he.h jZ (sE h1)) hbase (pL h1) hline (sE h1) rfl).of fun σ H Q h=>mB (fun θ H M x d y Q=>yG) h⟩
end
def vN (j:Nat)(y z:D)(M:au):aO Unit:=match M[j]? with
 | some (.dK kvs)=>match jE y with
  | some k=>match jI kvs k with
   | some _=>.bad
   | none=>if kvs.length<sizeLine then .ok () (M.set j (.dK (kvs++[(k,z)]))) else .bad
  | none=>.bad
 | _=>.bad
def ck (t:iM)(j n:Nat)(sg:GG)(gk gv:GE):List D→bI→au→aO Unit
 | [],_,M=>if t.ok M then .ok () M else .bad
 | d::r,ρ,M=>if t.ok M then
   match sg d (List.replicate n none++ρ) with
   | none=>.bad
   | some ρ1=>match gk ρ1 M with
    | .ok k M1=>match gv ρ1 M1 with
     | .ok v M2=>match vN j k v M2 with
      | .ok _ M3=>ck t j n sg gk gv r ρ M3
      | _=>.bad
     | _=>.bad
    | _=>.bad
  else .bad
section
variable {prog:Program}{w:World}{A:Around}{R:Result→Shared→Prop}{s:Shared}
theorem zo (k v target iter:Expr)(scope:Scope)(pos:Pos)(it:Value)(acc:Addr)(env:Env) :
  compTurn (.DictComp k v [⟨target,iter,[],0⟩] scope pos) 0 it (.ref acc) env=(standAt iter.pos >>= fun _=>pyNext it >>= fun r=>match r with
   | none=>pure (.done .next)
   | some x=>letOwnedTupleGo target it x >>= fun _=>assign target env x >>= fun _=>
    ((eval k env >>= fun kv=>holding [kv] (eval v env) >>= fun vv=>standAt {k.pos with endLine:=v.pos.endLine,endCol:=v.pos.endCol} >>= fun _=>holding [kv,vv] (dictSet acc kv vv)) >>= fun _=>
     again (.compLoop (.DictComp k v [⟨target,iter,[],0⟩] scope pos) 0 it (.ref acc) env))):=rfl
theorem lV {k v target iter:Expr}{scope:Scope}{pos:Pos}{it:Value}{acc:Addr}{env:Env}(I:Nat→Shared→Prop)
  (turn:∀n s,I n s→wpAny (model prog w) A (pyNext it) (fun r s₁=>match r with
   | none=>R (.ok .next) s₁
   | some x=>wpAny (model prog w) A (letOwnedTupleGo target it x) (fun _ s₂=>wpAny (model prog w) A (assign target env x) (fun _ s₃=>wpAny (model prog w) A (eval k env) (fun kv s₄=>
     wpAny (model prog w) A (eval v env) (fun vv s₅=>wpAny (model prog w) A (dictSet acc kv vv) (fun _ s₆=>∃m,m<n∧I m s₆) (fun _ _=>False) s₅) (fun _ _=>False) s₄)
     (fun _ _=>False) s₃) (fun _ _=>False) s₂) (fun _ _=>False) s₁) (fun _ _=>False) s)
  (n:Nat) (h:I n s):codeAny (model prog w) A (.compLoop (.DictComp k v [⟨target,iter,[],0⟩] scope pos) 0 it (.ref acc) env) R s:=by
 refine codeAny_loop rfl I (fun n s hI=>?_) n h;show wpAny _ _ ((compTurn (.DictComp k v [⟨target,iter,[],0⟩] scope pos) 0 it (.ref acc) env).onRaise (fun x=>do noteFrame x env;theTreesLotGoes x)) _ _ s;refine wpAny_noted ?_;rw[zo];refine wpAny_bind (wpAny_standAt (wpAny_bind (wpAny_mono (turn n s hI) (fun r s₁ h₁=>?_) fun _ _ z=>z.elim)));cases r with
 | none=>exact wpAny_pure h₁
 | some x=>
  refine wpAny_bind (wpAny_mono h₁ (fun _ s₂ h₂=>?_) fun _ _ z=>z.elim);refine wpAny_bind (wpAny_mono h₂ (fun _ s₃ h₃=>?_) fun _ _ z=>z.elim);refine wpAny_bind (wpAny_bind (wpAny_mono h₃ (fun kv s₄ h₄=>?_) fun _ _ z=>z.elim));refine wpAny_bind (wpAny_holding (wpAny_mono h₄ (fun vv s₅ h₅=>?_) fun _ _ z=>z.elim));exact wpAny_bind (wpAny_standAt (wpAny_holding (wpAny_mono h₅ (fun _ s₆ h₆=>wpAny_pure ⟨rfl,h₆⟩) fun _ _ z=>z.elim)))
theorem lB {k v target iter:Expr}{scope:Scope}{pos:Pos}{it acc:Value}{env:Env}
  (h0:codeAny (model prog w) A (.compLoop (.DictComp k v [⟨target,iter,[],0⟩] scope pos) 0 it acc env) R s)
  (h:wpAny (model prog w) A (pyIter it) (fun it' s'=>codeAny (model prog w) A (.compLoop (.DictComp k v [⟨target,iter,[],0⟩] scope pos) 0 it' acc env) R s')
   (notedBy (model prog w) A env fun x s'=>R (.error x) s') s) :
  codeAny (model prog w) A (.compStart (.DictComp k v [⟨target,iter,[],0⟩] scope pos) 0 it acc env) R s:=by
 refine codeAny_of_tree ?_;show wpAny _ _ ((compStart (.DictComp k v [⟨target,iter,[],0⟩] scope pos) 0 it acc env).onRaise (fun x=>do noteFrame x env;standAt theWindowsPlace)) _ _ s;refine wpAny_notedAt ?_;unfold compStart;show wpAny _ _ (ask >>= _) _ _ s;refine wpAny_bind (wpAny_askSetting (wpAny_ite ?_));split
 ·first
   | exact wpAny_bind (wpAny_pure (wpAny_pure (And.intro rfl h0)))
   | exact wpAny_pure (And.intro rfl h0)
 ·first
   | exact wpAny_bind (wpAny_rule (wpAny_bind (wpAny_standAt (wpAny_bind (wpAny_mono h (fun it' s' h'=>wpAny_pure (And.intro rfl h')) fun _ _ x=>x)))))
   | exact wpAny_rule (wpAny_bind (wpAny_standAt (wpAny_bind (wpAny_mono h (fun it' s' h'=>wpAny_pure (And.intro rfl h')) fun _ _ x=>x))))
end
section
variable {X:Cx}{ae:List (Addr×Obj)}{σ:L2.St}{s:Shared}{scope:Scope}{xs:List Str}{tg:Expr}{sg:GG}{R:List Str}{ek ev iter:Expr}{pos:Pos}{E:Value→Shared→Prop}
inductive MD (X0:Cx) (fp:List Addr) (tn:Nat→Heap→Prop) (K:W.Frag) (t:iM) (ρ0:bI) (θ1:List Addr) (H2:Hp) (go:List D→au→aO Unit) (Mend:au) (n:Nat) (s':Shared):Prop
 | mk (i:Nat) (τ:L2.St) (H':Hp) (θ':List Addr) (M':au) (e1:n=t.ds.length-i) (e2:i≤t.ds.length) (e3:L2.Inv X0 [] τ H' s') (e4:jp K θ' H' τ ρ0) (e5:tn i s'.heap) (e6:∀b∈fp,H' b=none) (e7:Go K θ1 H2 θ' H' M') (e10:go (t.ds.drop i) M'=.ok () Mend)
theorem vM {fp:List Addr}{it acc:Addr}{j:Nat}{tn:Nat→Heap→Prop}{J:It}{H2:Hp}{s2:Shared}{t:iM}{M1:au}{θ1:List Addr}{ρ:bI}{gk gv:GE}{Mend:au}{RR:Env→Result→Shared→Prop}
  (S:bo scope X.env.kindOf xs R X.N) (hc:X.calm=true) (I2:L2.Inv X ae σ H2 s2) (T:vm X.prog X.w X.K tg J fp it tn) (st2:tn 0 s2.heap) (f2:∀b∈fp,ig X ae H2 b)
  (hw1:Wr X.K θ1 H2 M1) (hd1:jp X.K θ1 H2 σ ρ) (hJ:wQ X.K J θ1 H2 t) (hacc:θ1[j]?=some acc) (hgo:ck t j xs.length sg gk gv t.ds ρ M1=.ok () Mend)
  (own:m5 xs.length sg) (hg:∀C,PG (ao X scope xs R fp s2 H2 C) tg (tG (ao X scope xs R fp s2 H2 C) sg))
  (hk:∀C,PE (ao X scope xs R fp s2 H2 C) ek (tE (ao X scope xs R fp s2 H2 C) gk)) (hv:∀C,PE (ao X scope xs R fp s2 H2 C) ev (tE (ao X scope xs R fp s2 H2 C) gv))
  (fin:∀(ce:Env) (s':Shared) (H':Hp) (θ':List Addr) (m:Str→Option Value),L2.Inv X ae σ H' s'→s'.heap.Ns ce.locals m→ig X ae H' ce.locals→Go X.K θ1 H2 θ' H' Mend→RR ce (.ok .next) s') :
  wpAny (model X.prog X.w) X.A (newFunctionEnv scope X.env.globals (cU X.env.cells scope.names []) [] X.env.qual none .none (some X.env)) (fun cenv s₄=>
   codeAny (model X.prog X.w) X.A (.compStart (.DictComp ek ev [⟨tg,iter,[],0⟩] scope pos) 0 (.ref it) (.ref acc) {cenv with scope:=relabel scope X.env}) (RR {cenv with scope:=relabel scope X.env}) s₄) E s2:=by
 refine wpAny_newFunctionEnv S.nocell (by intro y hy;simp at hy) (fun h₁ hns₁ hsb₁=>?_) S.kind;generalize hCd:s2.heap.objs.size=C at hns₁ hsb₁ ⊢;have old:∀b o,s2.heap.get? b=some o→h₁.get? b=some o:=fun b o e=>by
  have hb:b<C:=by rw[←hCd];exact Heap.lt_size e
  exact hsb₁.extBut b o (Nat.ne_of_lt hb) (Heap.get?_push_of_some _ e)
 have hfl:∀b∈fp,b<s2.heap.objs.size:=fun b hb=>by
  obtain⟨o,e,_⟩:=T.obj 0 _ st2 b hb;exact Heap.lt_size e
 have hCs:s2.heap.objs.size≤C:=by omega
 have IY0:L2.Inv (ao X scope xs R fp s2 H2 C) [] (List.replicate xs.length none++σ) H2 {s2 with heap:=h₁,toks:=s2.toks+([]:List (Str×Value)).length}:=oH S I2 hCs old hns₁ f2 hfl;have fpY:∀{H':Hp},(∀b∈fp,H' b=none)→∀b∈fp,ig (ao X scope xs R fp s2 H2 C) [] H' b:=fun {H'} hn b hb=>by
  refine⟨hn b hb,?_,fun z=>?_,.inl hb,fun y c e=>?_,fun q hq=>?_⟩
  ·exact Nat.ne_of_lt (Nat.lt_of_lt_of_le (hfl b hb) hCs)
  ·rcases mem_cons.mp (I2.stkSub b z) with e|e
   ·exact(f2 b hb).2.1 e
   ·exact(f2 b hb).2.2.1 e
  ·exact(f2 b hb).2.2.2.2.1 y c (bK S I2 e)
  ·exact absurd (show q∈([]:List (Addr×Obj)) from hq) (by simp)
 have loop:∀s₃:Shared,s₃={s2 with heap:=h₁,toks:=s2.toks+([]:List (Str×Value)).length}→
   codeAny (model X.prog X.w) X.A (.compLoop (.DictComp ek ev [⟨tg,iter,[],0⟩] scope pos) 0 (.ref it) (.ref acc) (ao X scope xs R fp s2 H2 C).env) (RR (ao X scope xs R fp s2 H2 C).env) s₃:=by
  rintro s₃ rfl;refine lV (MD (ao X scope xs R fp s2 H2 C) fp tn X.K t (List.replicate xs.length none++ρ) θ1 H2 (fun l N=>ck t j xs.length sg gk gv l ρ N) Mend) ?_ t.ds.length
   ⟨0,_,H2,θ1,M1,rfl,Nat.zero_le _,IY0,sQ hd1,T.keep 0 _ _ st2 (fun b hb o e=>old b o e),fun b hb=>(f2 b hb).1,.refl hw1,hgo⟩
  rintro n s' ⟨i,τ,H',θ',M',rfl,hil,I',dn',st',fr',g',hrest⟩;have hok:t.ok M'=true:=by
   cases hq:t.ok M' with
   | true=>rfl
   | false=>
    exfalso;cases hdr:t.ds.drop i with
    | nil=>rw[hdr,ck,if_neg (by rw[hq];exact Bool.false_ne_true)] at hrest;cases hrest
    | cons d r=>rw[hdr,ck,if_neg (by rw[hq];exact Bool.false_ne_true)] at hrest;cases hrest
  obtain⟨hy,hst⟩:=hJ θ' H' M' g' hok i
  by_cases hlt:i<t.ds.length
  ·have e1:t.ds[i]?=some t.ds[i]:=getElem?_eq_getElem hlt;obtain⟨hgo',hyl⟩:=hy _ e1;rw[drop_eq_getElem_cons hlt,ck,if_pos hok] at hrest;refine cb (T.item (ao X scope xs R fp s2 H2 C) rfl rfl rfl hc i _ s' _ H' _ I' (fpY fr') st' hgo') fun r s4 hxx=>?_
   obtain⟨u,hr,h4⟩:=hxx;subst hr;refine cb h4 fun _ s5 hxx=>?_
   obtain⟨v,H5,I5,r5,y5,st5,fr5⟩:=hxx;obtain⟨gy,rx⟩:=hyl v H5 y5;have I5':=I5.pinned (fpY fr5) (T.obj _ _ st5);cases qs:sg t.ds[i] (List.replicate xs.length none++ρ) with
   | none=>rw[qs] at hrest;cases hrest
   | some ρ1=>
   rw[qs] at hrest;dsimp only at hrest;refine cb (hg C _ s5 _ H5 v u (fun σ6 H6=>jp X.K θ' H6 σ6 ρ1∧H6=H5) I5' r5 ⟨_,θ',M',t.ds[i],dn'.go gy,gy.wr,rx,ρ1,qs,fun σ6 d6=>⟨d6,rfl⟩⟩) fun _ s6 hxx=>?_
   obtain⟨σ6,H6,I6,hdY,eH6⟩:=hxx;subst eH6;cases qk:gk ρ1 M' with
   | bad=>rw[qk] at hrest;cases hrest
   | err c Mx=>rw[qk] at hrest;cases hrest
   | ok dk Mk=>
   rw[qk] at hrest;dsimp only at hrest;refine cb (hk C _ s6 _ H6 (fun w H7=>∃θ7,Go X.K θ' H6 θ7 H7 Mk∧cP X.K θ7 H7 dk w) I6 ⟨_,θ',M',hdY,gy.wr,?_⟩) fun uk s7 ⟨wk,H7,I7,rk7,θ7,g7,rd7⟩=>?_
   ·rw[qk];exact fun w θ8 H8 g8 rd8=>⟨θ8,g8,rd8⟩
   cases qv:gv ρ1 Mk with
   | bad=>rw[qv] at hrest;cases hrest
   | err c Mx=>rw[qv] at hrest;cases hrest
   | ok dv Mv=>
   rw[qv] at hrest;dsimp only at hrest;refine cb (hv C _ s7 _ H7 (fun w H8=>∃θ8,Go X.K θ7 H7 θ8 H8 Mv∧cP X.K θ8 H8 dv w) I7 ⟨_,θ7,Mk,hdY.go g7,g7.wr,?_⟩) fun uv s8 ⟨wv,H8,I8,rv8,θ8,g8,rd8⟩=>?_
   ·rw[qv];exact fun w θ8 H8 g8 rd8=>⟨θ8,g8,rd8⟩
   have gAll8:Go X.K θ1 H2 θ8 H8 Mv:=g'.trans (gy.trans (g7.trans g8));obtain⟨a',ea',ta8⟩:cP X.K θ8 H8 (.mr j) (.ref acc):=(show cP X.K θ1 H2 (.mr j) (.ref acc) from⟨acc,rfl,hacc⟩).go gAll8;obtain rfl:acc=a':=by injection ea'
   have rk8:cP X.K θ8 H8 dk wk:=rd7.go g8;unfold vN at hrest;cases qm:Mv[j]? with
   | none=>rw[qm] at hrest;cases hrest
   | some mo=>
   rw[qm] at hrest;cases mo with
   | dK kvs=>
    dsimp only at hrest;obtain⟨vs,hva,ra⟩:=g8.wr.at_ j acc _ ta8 qm;cases qy:jE dk with
    | none=>rw[qy] at hrest;cases hrest
    | some k=>
     rw[qy] at hrest;dsimp only at hrest;have ekk:=AB qy rk8;cases qg:jI kvs k with
     | some r=>rw[qg] at hrest;cases hrest
     | none=>
      rw[qg] at hrest;dsimp only at hrest
      by_cases hl:kvs.length<sizeLine
      ·rw[if_pos hl] at hrest;dsimp only at hrest;have nv:=(mV k ra).2 qg;obtain⟨z,hdd,ws,rel,dd⟩:=JU I8.hok hva;have hz:ws.length≤sizeLine:=by rw[←rel.length];exact z
       have hl':(uy vs k wv).length≤sizeLine:=by
        have:=wj vs k wv;rw[←nC ra] at this;omega
       subst ekk;refine wpAny_dictSet_pairs (hsz:=hz) (yy rk7) dd fun h' dd' hs=>?_
       have he:∃q,h'.get? acc=some q:=let ⟨q,_,_,hq,_⟩:=dd';⟨q,hq⟩
       have I9:=CA (t':=s8.toks+1) I8 (by rw[hva];exact True.intro) hs he (Ff hl' hdd (rel.put k rv8) dd');have gs:=ya (m:=.dK (kvs++[(k,dv)])) (o:=.dK (uy vs k wv)) g8.wr ta8 ⟨_,dL,by rw[AA wv nv];exact kJ (uE g8.wr ta8) (qI rd8 ra)⟩;have pinF:∀b∈fp,(∀o,s5.heap.get? b=some o→h'.get? b=some o)∧cA H8 acc (.dK (uy vs k wv)) b=none:=fun b hb=>by
        obtain⟨o,e,_⟩:=T.obj _ _ st5 b hb;have q:=I9.pin (b,o) (mem_append_right _ (dR hb e));exact⟨fun o' e'=>by rw[e] at e';cases e';exact q.1,q.2.1⟩
       exact⟨t.ds.length-(i+1),by omega,i+1,σ6,_,θ8,_,rfl,hlt,I9.unpinned,(own.back qs (hdY.go (g7.trans g8))).go gs,T.keep _ _ _ st5 (fun b hb o e=>(pinF b hb).1 o e),fun b hb=>(pinF b hb).2,gAll8.trans gs,hrest⟩
      ·rw[if_neg hl] at hrest;cases hrest
   | _=>cases hrest
  ·have e:i=t.ds.length:=by omega
   subst e;refine cb (T.done (ao X scope xs R fp s2 H2 C) rfl rfl rfl hc _ _ s' _ H' _ I' (fpY fr') st' (hst (Nat.le_refl _))) fun r s4 hxx=>?_
   obtain⟨hr,I4⟩:=hxx;subst hr;rw[drop_length,ck,if_pos hok] at hrest;have eM:M'=Mend:=by injection hrest
   subst eM;obtain⟨mC,hnC,_⟩:=I4.loc;have IX:L2.Inv X ae σ H' s4:=I2.call' (ch:=fp) I4.os I4.base I4.hok I4.bare fun b hb=>⟨(f2 b hb).2.2.2.1,(f2 b hb).2.1,(f2 b hb).2.2.2.2.1,(f2 b hb).2.2.2.2.2⟩
   exact fin (ao X scope xs R fp s2 H2 C).env s4 H' θ' mC IX hnC (I2.fpOk hCs I4.free) g'
 exact lB (loop _ rfl) (T.self _ 0 _ _ _ (T.keep 0 _ _ st2 fun b hb o e=>old b o e) (loop _ rfl))
end
def kn (gi:GI)(n:Nat)(sg:GG)(gk gv:GE):GE:=fun ρ M=>(gi ρ M).bind fun t M1=>(ck t M1.length n sg gk gv t.ds ρ (M1++[.dK []])).bind fun _ M2=>.ok (.mr M1.length) M2
theorem nN {t:iM}{j n:Nat}{sg:GG}{gk gv:GE}{ρ:bI}:∀(l:List D) (M:au) {c:Str} {M1:au},ck t j n sg gk gv l ρ M=.err c M1→False
 | [],M,c,M1,h=>by
  rw[ck] at h;split at h <;> cases h
 | d::r,M,c,M1,h=>by
  rw[ck] at h;split at h
  ·split at h
   ·cases h
   ·split at h
    ·split at h
     ·split at h
      ·exact nN r _ h
      ·cases h
     ·cases h
    ·cases h
  ·cases h
variable{n:Nat}
section
variable {X:Cx}{scope:Scope}{xs:List Str}{tg:Expr}{sg:GG}{R:List Str}{ek ev iter:Expr}{pos:Pos}{gi:GI}{gk gv:GE}
theorem uS {j:Nat}{y:Str}{py spos:Pos}(hS:bi scope X.env.kindOf xs R X.N=true)(hc:X.calm=true)(hi:PI X tg iter (tI X gi))(own:m5 xs.length sg)(hg:∀fp s H C,PG (ao X scope xs R fp s H C) tg (tG (ao X scope xs R fp s H C) sg))
  (hk:∀fp s H C,PE (ao X scope xs R fp s H C) ek (tE (ao X scope xs R fp s H C) gk)) (hv:∀fp s H C,PE (ao X scope xs R fp s H C) ev (tE (ao X scope xs R fp s H C) gv))
  (hN:X.N.Nodup) (hj:X.N[j]?=some y) (hy:X.env.scope.names.lookup y=some .local)
  (hsw:swapsWith (.DictComp ek ev [⟨tg,iter,[],0⟩] scope pos) (some (.Name y py)) spos.line X.env=pure true)
  (hs:∀x,foldedSetIterable iter X.env x=pure x:=by intro _;rfl):PS X (.Assign [.Name y py] (.DictComp ek ev [⟨tg,iter,[],0⟩] scope pos) spos) (tS X (aF j (kn gi xs.length sg gk gv))):=by
 have S:=bo.of hS;intro ae s σ H Q I h;obtain⟨ρ,θ,M,hd,hw,h⟩:=h;rw[exec_Assign_Name_used _ _ _ _ hsw];refine wpAny_bind (wpAny_standAt (wpAny_bind ?_));show wpAny _ X.A (do let _ ←comprehension (.DictComp ek ev [⟨tg,iter,[],0⟩] scope pos) scope X.env _ newDict false (eval iter X.env) (some (assign (.Name y py) X.env))) _ _ s;refine wpAny_bind (wpAny_mono (kU (use:=some (assign (.Name y py) X.env)) (Q:=fun _ s'=>SP X ae Q .next s') rfl hs (eP (S.cells I)) S.kind S.lnames ?_) (fun _ s' hq=>wpAny_pure (wpAny_pure hq)) fun _ _ e=>e);refine cb (hi ae s σ H (fun J H2=>∃t M1 θ1,gi ρ M=.ok t M1∧Go X.K θ H θ1 H2 M1∧wQ X.K J θ1 H2 t) I ⟨ρ,θ,M,hd,hw,?_⟩) fun v s1 h1=>cb h1 fun itv s2 h2=>?_
 ·cases q:gi ρ M with
  | ok t M1=>exact fun J θ1 H1 g1 hJ=>⟨t,M1,θ1,rfl,g1,hJ⟩
  | err c M1=>unfold aF kn at h;rw[q] at h;exact h
  | bad=>unfold aF kn at h;rw[q] at h;exact h
 obtain⟨it,fp,tn,J,H2,rfl,I2,T,st2,f2,t,M1,θ1,eg,g1,hJ⟩:=h2;unfold aF kn at h;rw[eg] at h;have h:dm X θ H Q (((ck t M1.length xs.length sg gk gv t.ds ρ (M1++[.dK []])).bind fun _ M2=>aO.ok (D.mr M1.length) M2).bind fun d M2=>.ok (.nx (ρ.set j (some d))) M2):=h;cases q:ck t M1.length xs.length sg gk gv t.ds ρ (M1++[.dK []]) with
 | bad=>rw[q] at h;exact h.elim
 | err c Mx=>exact(nN _ _ q).elim
 | ok un Mend=>
  rw[q] at h;have h:dm X θ H Q (.ok (.nx (ρ.set j (some (.mr M1.length)))) Mend):=h;refine wpAny_newObj_type ?_;have hp:H2 s2.heap.objs.size=none:=I2.hok.fresh (Nat.le_refl _);have I3:L2.Inv X ae σ (cA H2 s2.heap.objs.size (.dK [])) {s2 with heap:=s2.heap.push {cls:=.type "dict",data:=.dict #[]}}:=I2.laid (a:=s2.heap.objs.size) (o:=.dK []) (t':=s2.toks) (fun _ _ q=>Heap.get?_push_of_some _ q) (Nat.le_refl _) (AT s2.heap I2.big);have g3:Go X.K θ1 H2 (θ1++[s2.heap.objs.size]) (cA H2 s2.heap.objs.size (.dK [])) (M1++[.dK []]):=xG g1.wr hp ⟨[],dL,rfl⟩;have st3:tn 0 (s2.heap.push {cls:=.type "dict",data:=.dict #[]}):=T.keep 0 _ _ st2 fun b hb o e=>Heap.get?_push_of_some _ e
  have f3:∀b∈fp,ig X ae (cA H2 s2.heap.objs.size (.dK [])) b:=fun b hb=>by
   obtain⟨o,e,_⟩:=T.obj 0 _ st2 b hb;have ne:b≠s2.heap.objs.size:=Nat.ne_of_lt (Heap.lt_size e);refine⟨by rw[aK ne];exact(f2 b hb).1,(f2 b hb).2.1,(f2 b hb).2.2.1,(f2 b hb).2.2.2.1,(f2 b hb).2.2.2.2.1,(f2 b hb).2.2.2.2.2⟩
  have hacc:(θ1++[s2.heap.objs.size])[M1.length]?=some s2.heap.objs.size:=by rw[←g1.wr.len];simp
  have q':ck t M1.length xs.length sg gk gv t.ds ρ (M1++[.dK []])=.ok () Mend:=q;refine vM (RR:=fun ce=>pc (model X.prog X.w) X.A X.xe (some (assign (.Name y py) X.env)) (fun _ s'=>SP X ae Q .next s') (.ref s2.heap.objs.size) ce) S hc I3 T st3 f3 g3.wr ((hd.go g1).go g3) (fun θ' H' M' g ok i=>hJ θ' H' M' (g3.trans g) ok i) hacc q' own (fun C=>hg fp _ _ C) (fun C=>hk fp _ _ C) (fun C=>hv fp _ _ C) ?_;intro ce s' H' θ' m IX hnC fC g';have rdm:cP X.K θ' H' (.mr M1.length) (.ref s2.heap.objs.size):=(show cP X.K (θ1++[s2.heap.objs.size]) (cA H2 s2.heap.objs.size (.dK [])) (.mr M1.length) (.ref s2.heap.objs.size) from⟨_,rfl,hacc⟩).go g';show wpAny _ X.A (assign (.Name y py) X.env (.ref s2.heap.objs.size)) _ _ s';refine wpAny_assign_Name (kH IX hN hj (.inl hy) (v:=.ref s2.heap.objs.size) rfl (fun s3 I4 hxx=>?_) (.inr hy));obtain⟨a,sa,ha⟩:=hxx;have hCa:ce.locals≠a:=by
   rcases ha with e|e
   ·rw[e];exact fC.2.1
   ·exact fun z=>fC.2.2.2.2.1 y a e z.symm
  refine⟨m,hnC.sameBut sa hCa,fun h' sb=>?_⟩;have I5:L2.Inv X ae (σ.set j (some (.ref s2.heap.objs.size))) H' {s3 with heap:=h',toks:=s3.toks}:=I4.turned (it:=ce.locals) (fun b o hb e=>(sb.2 b hb).trans e) fC.1 fC.2.1 fC.2.2.2.1 fC.2.2.2.2.1 fC.2.2.2.2.2;have gA:=g1.trans (g3.trans g');exact⟨_,_,I5,h _ θ' _ gA ((hd.go gA).set rdm j)⟩
theorem tw {tg:Expr}{sg:GG}{j:Nat}{y:Str}{py spos:Pos}(_:RN pos.line pos.col xs R)(hS:bi scope X.env.kindOf xs R X.N=true)(own:QO xs.length sg)(hN:X.N.Nodup)(hi:QI X tg iter gi)(hg:∀fp s H C,QG (ao X scope xs R fp s H C) tg sg)(hk:∀fp s H C,QE (ao X scope xs R fp s H C) ek gk)(hv:∀fp s H C,QE (ao X scope xs R fp s H C) ev gv)
  (hn:xs.length=n:=by rfl) (hc:X.calm=true:=by rfl) (hj:X.N[j]?=some y:=by rfl) (hy:X.env.scope.names.lookup y=some .local:=by rfl) (hsw:swapsWith (.DictComp ek ev [⟨tg,iter,[],0⟩] scope pos) (some (.Name y py)) spos.line X.env=pure true:=by rfl)
  (hs:∀x,foldedSetIterable iter X.env x=pure x:=by intro _;rfl):QS X (.Assign [.Name y py] (.DictComp ek ev [⟨tg,iter,[],0⟩] scope pos) spos) (aF j (kn gi n sg gk gv)):=hn▸⟨uS hS hc hi.h own.h (fun fp s H C=>(hg fp s H C).h) (fun fp s H C=>(hk fp s H C).h) (fun fp s H C=>(hv fp s H C).h) hN hj hy hsw hs⟩
end
def nW (neg:Bool):F2:=fun y x M=>match x with
 | .mr i=>match M[i]? with
  | some (.dK kvs)=>match jE y with
   | some k=>.ok (.bl ((jI kvs k).isSome != neg)) M
   | none=>.bad
  | _=>.bad
 | _=>.bad
variable{K:W.Frag}{neg:Bool}
theorem ID {x y:D}{r:D}{N:au}{vx vy:V}(hw:Wr K θ H M)(h:nW neg y x M=.ok r N)(r1:cP K θ H x vx)(r2:cP K θ H y vy) :
  ∃a k vs,vx=.ref a∧vy=kV k∧H a=some (.dK vs)∧N=M∧r=.bl ((iJ vs k).isSome != neg):=by
 unfold nW at h;cases x with
 | mr i=>
  dsimp only at h;obtain⟨a,ea,ta⟩:=r1;cases q:M[i]? with
  | none=>rw[q] at h;cases h
  | some m=>
   rw[q] at h;cases m with
   | dK kvs=>
    dsimp only at h;obtain⟨vs,hv,ra⟩:=hw.at_ i a _ ta q;cases qk:jE y with
    | none=>rw[qk] at h;cases h
    | some k=>
     rw[qk] at h;dsimp only at h;have ek:=AB qk r2;have hs:(iJ vs k).isSome=(jI kvs k).isSome:=by
      obtain⟨i1,i2⟩:=mV k ra;cases q2:jI kvs k with
      | none=>rw[i2 q2];rfl
      | some r=>obtain⟨v,e,_⟩:=i1 r q2;rw[e];rfl
     injection h with h1 h2
     exact⟨a,k,vs,ea,ek,hv,h2.symm,by rw[hs];exact h1.symm⟩
   | _=>cases h
 | _=>cases h
theorem Fv {dx dy:D}{vx vy:V}{Q:VK}(hw:Wr X.K θ H M)(h:aE X θ H Q (nW neg dy dx M))(r1:cP X.K θ H dx vx)(r2:cP X.K θ H dy vy) :
  ∃a k vs,vx=.ref a∧vy=kV k∧H a=some (.dK vs)∧Q (.bl ((iJ vs k).isSome != neg)) H:=by
 cases q:nW neg dy dx M with
 | bad=>rw[q] at h;exact h.elim
 | err c N=>
  exfalso;unfold nW at q;split at q
  ·split at q
   ·split at q <;> cases q
   ·cases q
  ·cases q
 | ok r N=>
  obtain⟨a,k,vs,e1,e2,e3,rfl,rfl⟩:=ID hw q r1 r2;rw[q] at h;exact⟨a,k,vs,e1,e2,e3,h _ θ H (.refl hw) rfl⟩
section
variable {X:Cx}
theorem AD (hu:X.A.units+1<cLine):fo X (compareOp .NotIn) (rD X (nW true)):=by
 intro ae s σ H x y v u Q I rx ry h;obtain⟨θ,M,dx,dy,hw,r1,r2,h⟩:=h;obtain⟨a,k,vs,ea,ek,hv,h⟩:=Fv hw h r2 r1;rw[ea] at ry;have eu:u=.ref a:=ry;rw[ek] at rx;rw[eu];refine DR hu I (vb.k hv) rx fun s' I'=>⟨.bl (!(iJ vs k).isSome),H,I',rfl,?_⟩
 rw[show(!(iJ vs k).isSome)=((iJ vs k).isSome != true) by cases (iJ vs k).isSome <;> rfl];exact h
theorem DI (hr:d7 k X.A):Q2 X (compareOp .NotIn) (nW true):=⟨AD (EB hr)⟩
end
def G8 (K:W.Frag)(mg:Str→Option Value)(x:Str)(zs:List Str):Prop:=
 ∃(a:Addr) (o:Obj) (its:Array Value) (n:Nat),mg x=some (.ref a)∧K.lookup a=some o∧o.cls=.type "tuple"∧o.data=.seq its n∧its.size≤sizeLine∧aR (zs.map V.str) its.toList
def yc (zs:List Str):GI:=fun _ M=>.ok ⟨zs.map D.str,none⟩ M
theorem se {K:W.Frag}{θ:List Addr}{H:Hp}:∀zs:List Str,ba K θ H (zs.map D.str) (zs.map V.str)
 | []=>rfl
 | z::zs=>⟨.str z,zs.map V.str,rfl,rfl,se zs⟩
theorem Ck {a:Addr}{ds:List D}{vs:List V}(ta:∀H,pP K H a vs)(r:ba K θ H ds vs):wQ K (JY K a) θ H ⟨ds,none⟩:=by
 intro θ1 H1 M1 g _ i;have t1:=ta H1;have r1:=r.go g;refine⟨fun d e=>?_,fun hl=>⟨vs,t1,by rw[←ay r1];exact hl⟩⟩;obtain⟨v,e1,rv⟩:=g9 r1 e;refine⟨⟨vs,v,t1,e1⟩,fun x H2 y=>?_⟩;obtain⟨eH,y⟩:=y;subst eH;have e2:=y vs t1;rw[e1] at e2;cases e2;exact⟨.refl g.wr,rv⟩
variable{zs:List Str}
theorem Ct {tg:Expr}{pos:Pos}(ht:G8 X.K X.mg x zs)(hg:Gl X x:=by rfl)(hd:(x==("__debug__":Str))=false:=by decide):QI X tg (.Name x pos) (yc zs):=by
 obtain⟨a,o,its,n,hm,hl,hc,hda,hz,hv⟩:=ht;refine⟨fun ae s σ H R I h=>?_⟩;have sq:∀H:Hp,pP X.K H a (zs.map V.str):=fun H=>.inr ⟨o,its,n,hl,hc,hda,hz,hv⟩
 refine Et (yi hg hm (v:=.ref a) rfl hd) ae s σ H R I ?_;obtain⟨ρ,θ,M,hd',hw,h⟩:=h;refine⟨a,rfl,.inr ⟨⟨_,sq H⟩,?_⟩⟩;exact h _ θ H (.refl hw) (Ck sq (se zs))
def B1:List Value→Option (List Str)
 | []=>some []
 | .str x _::r=>(B1 r).map (x::·)
 | _=>none
theorem rj:∀{us:List Value} {zs:List Str},B1 us=some zs→aR (zs.map V.str) us
 | [],zs,h=>by cases h;exact .nil
 | u::us,zs,h=>by
  cases u with
  | str x t=>
   obtain⟨r,hr,rfl⟩:=Option.map_eq_some_iff.mp h;exact .cons ⟨t,rfl⟩ (rj hr)
  | _=>cases h
theorem Co {h:Heap}{mg:Str→Option Value}{a:Addr}{cl:Value}{d:Option Addr}{its:Array Value}{sl:Array (Option Value)}(X:K.In h)(Gm:h.Ns mainGlobals mg)
  (e:W.nsIn K mainGlobals x=some (some (.ref a))) (l:K.lookup a=some ⟨cl,d,.seq its n,sl⟩) (hc:cl=.type "tuple") (hv:B1 its.toList=some zs) (hz:zs.length≤1000):G8 K mg x zs:=by
 have v:=rj hv;refine⟨a,_,its,n,W.mg_of X Gm e,l,hc,rfl,?_,v⟩;have e:=v.length;simp only[length_map,Array.length_toList] at e;exact aQ (by rw[←e];omega)
def zU (d:D)(M:au):D:=match d with
 | .tup xs=>.tup (xs.map fun x=>now x M)
 | d=>now d M
def sK (neg:Bool):F2:=fun x y M=>if bw 40 (zU x M)&&bw 40 (zU y M) then .ok (.bl (nY (zU x M) (zU y M) != neg)) M else .bad
section
variable {X:Cx}
theorem qR {ae:List (Addr×Obj)}{s:Shared}{σ:L2.St}(I:Inv X ae σ H s)(hw:Wr X.K θ H M){d:D}{v:V}{u:Value}(h:bw n (zU d M)=true)(r:cP X.K θ H d v)(q:aY v u):∃as,Reads s.heap u (nJ (zU d M)) as:=by
 cases d with
 | tup xs=>
  have e:zU (.tup xs) M=.tup (xs.map fun x=>now x M):=rfl;rw[e] at h ⊢;cases n with
  | zero=>exact ff h
  | succ n=>
   obtain⟨a,vs,e,ta,ra⟩:=r;subst e;cases q;obtain⟨its,rv,⟨o,h1,h2,m,h3⟩,_⟩:=I.tuple (ta.sq (K:=X.K));obtain⟨as,R⟩:=pJ I hw xs n vs its h ra rv;exact⟨_,.tuple h1 h2 h3 (by simpa using R)⟩
 | _=>exact gJ I hw h r q
theorem C5 (hu:X.A.units+64<cLine):fo X (compareOp .NotEq) (rD X (sK true)):=by
 intro ae s σ H x y v u Q I rx ry h;obtain⟨θ,M,dx,dy,hw,r1,r2,h⟩:=h;unfold sK at h;split at h
 ·rename_i hc;rw[Bool.and_eq_true] at hc;obtain⟨as,R1⟩:=qR I hw hc.1 r1 rx;obtain⟨bs,R2⟩:=qR I hw hc.2 r2 ry;have l1:=jw _ _ hc.1;have l2:=jw _ _ hc.2;refine SeqAt.compareNe_reads R1 R2 l1.1 l2.1 (by have:=l1.2;have:min (nJ (zU dx M)).depth (nJ (zU dy M)).depth≤(nJ (zU dx M)).depth:=Nat.min_le_left _ _;omega) ?_;rw[oz _ _ _ _ hc.1 hc.2];refine⟨.bl _,H,I,rfl,?_⟩;have:=h _ θ H (.refl hw) rfl;rw[Bool.bne_true] at this;exact this
 ·exact h.elim
theorem FK (hr:d7 k X.A):Q2 X (compareOp .NotEq) (sK true):=⟨C5 hr.units⟩
end
end DL
namespace Hd
open PySem PySem.W PySem.Calls PyProof.Rows
def topRunT (tb:String→Option Builtin)(p:Program)(w:World)(n0:Nat)(ann:Option Value):Nat→SharedT→Thread→Option SharedT
 | 0,_,_=>none
 | n+1,s,t=>match through t with
  | true=>some s
  | false=>match stepOk n0 ann t with
   | false=>none
   | true=>match stepT (denote tb) p w s t with
    | some (s',t')=>topRunT tb p w n0 ann n s' t'
    | none=>none
theorem rm {tb:String→Option Builtin}{p:Program}{w:World}{n0:Nat}{ann:Option Value}:∀{n:Nat} {s s':SharedT} {t:Thread},topRunT tb p w n0 ann n s t=some s'→topRun tb p w n0 ann n s.abs t=some s'.abs
 | 0,_,_,_,h=>by cases h
 | n+1,s,s',t,h=>by
  unfold topRunT at h;unfold topRun;cases he:through t with
  | true=>rw[he] at h;cases h;rfl
  | false=>
   rw[he] at h;cases hk:stepOk n0 ann t with
   | false=>rw[hk] at h;cases h
   | true=>
    rw[hk] at h;cases hs:stepT (denote tb) p w s t with
    | none=>rw[hs] at h;cases h
    | some r=>obtain⟨s2,t2⟩:=r;rw[hs] at h;rw[stepT_spec hs];exact rm h
def grow:List Obj→BT→Nat→BT
 | [],t,_=>t
 | o::r,t,n=>grow r (t.ins n o) (n+1)
def ED:List Obj→BT→Nat→Bool
 | [],_,_=>true
 | o::r,t,n=>((t.ins n o).get n).isSome&&ED r (t.ins n o) (n+1)
theorem wo (life:Life):∀(l:List Obj) (t:BT) (n:Nat),ED l t n=true→absHeap (grow l t n) (n+l.length) life=⟨(absHeap t n life).objs++l.toArray,life⟩
 | [],t,n,_=>by simp[grow,absHeap]
 | o::r,t,n,h=>by
  obtain⟨h1,h2⟩:=Bool.and_eq_true_iff.mp h;have e:=wo life r (t.ins n o) (n+1) h2;have e2:absHeap (t.ins n o) (n+1) life=(absHeap t n life).push o:=absHeap_ins h1;show absHeap (grow r (t.ins n o) (n+1)) (n+(r.length+1)) life=_;rw[show n+(r.length+1)=n+1+r.length by omega,e,e2];simp[Heap.push]
variable{Xt:Shared→Bool}{N:Nat}
theorem xA {p q:Program}{loose:List Str}{A:Type}{Yf:Shared→A}{Ya:World→A}{g0:Bool}{H:Params→Heap}{gs:Array GenState}{d:Drawn}{k:Nat}{m:Nat}{ann:Option Value}{T:Params→BT}{lf:Life}
  (open_:∀w:World,(fencedOpening treeTable p w N).map (fun s=>(s.heap,s.gens,s.drawn,s.toks))=some (H w.params,gs,d,k))
  (size:∀w:World,((H w.params).isNs mainGlobals&&gs.size==0,(H w.params).objs.size,(H w.params).nsMap mainGlobals "__annotations__")=(true,m,ann))
  (tree:∀P,H P=absHeap (T P) m lf)
  (run:∀(w:World) (os:OsState),(topRunT treeTable p w m ann N ⟨T w.params,m,lf,gs,d,k,os⟩ (topStub p)).map (fun s=>
    ((staticsOk (importedModules p.main.body) (H w.params) s.abs.heap&&namesBound p s.abs.heap&&gensDone s.abs&&laidKept (H w.params) s.abs.heap),
    openSeen q loose (importedModules p.main.body) Xt g0 s.abs,Yf s.abs))=some (true,openGood q loose,Ya w)):LeftO p q loose Xt Yf Ya N g0:=fun w=>by
 obtain⟨⟨h,gs',d',k',os⟩,e,e'⟩:=Option.map_eq_some_iff.mp (open_ w);obtain⟨rfl,rfl,rfl,rfl⟩:h=H w.params∧gs'=gs∧d'=d∧k'=k:=by simpa using e'
 obtain⟨z1,z2,z3⟩:_∧_∧_:=by simpa only[Prod.mk.injEq] using size w
 obtain⟨s,r1,r2⟩:=Option.map_eq_some_iff.mp (run w os);obtain⟨l1,l2,l3⟩:_∧_∧_:=by simpa only[Prod.mk.injEq] using r2
 have r:=rm r1;have ea:SharedT.abs ⟨T w.params,m,lf,gs',d',k',os⟩=⟨H w.params,gs',d',k',os⟩:=by rw[tree];rfl
 rw[ea] at r;have t:topFrom treeTable p w N ⟨H w.params,gs',d',k',os⟩=some s.abs:=by
  unfold topFrom;dsimp only;rw[z1,z2,z3,r];show(match staticsOk (importedModules p.main.body) (H w.params) s.abs.heap&&namesBound p s.abs.heap&&gensDone s.abs&&laidKept (H w.params) s.abs.heap with|true=>_|false=>_)=_;rw[l1]
 unfold openEnds;rw[e];show(topFrom treeTable p w N _).map _=_;rw[t];exact congrArg some (Prod.ext l2 l3)
noncomputable def bootT (P:Params):BT:=grow (boot_heap P).objs.toList .nil 0
lay_quick Hd.topRunT W.topStub
theorem zE (P:Params):boot_heap P=absHeap (bootT P) 11 {}:=by
 have h:=wo {} (boot_heap P).objs.toList .nil 0 (by kernel_rfl);exact h.symm
noncomputable def RT (p:Program) (w:World) (N:Nat) (os:OsState):Option SharedT:=topRunT treeTable p w 11 (some (Value.ref 6)) N ⟨bootT w.params,11,{},Array.mk [],boot_drawn,boot_toks,os⟩ (topStub p)
noncomputable def pA (p:Program) (P:Params) (s:Shared):Bool:=staticsOk (importedModules p.main.body) (boot_heap P) s.heap&&namesBound p s.heap&&gensDone s&&laidKept (boot_heap P) s.heap
def pB (q:Program)(mods:List Str)(Xt:Shared→Bool)(s:Shared):Bool:=(s.heap.keysOk (looseW q []) ((recsOf q).map (·.name)) ((litsOf q).map (·.1)) ((clssOf q (looseW q [])).map (·.name))&&s.heap.accountedOkI mods&&s.heap.isNs mainGlobals&&s.heap.isNs builtinsNs&&tablesOk q s.heap&&Xt s&&(if true then s.gens.size==0 else !leftWithCleanup s.gens))&&tabsOk q s
def pC (q:Program)(s:Shared):=(seen ((recsOf q).map (·.name)) (ownsOf q) [] {s with gens:=#[]},s.heap.bltView,wideSeen q s)
def pD (q:Program)(s:Shared):=(pinSeenD q (drecsOf q) s,plainSeenE q (looseW q []) s,plainSeenD q [] s,clsSeenW q [] s)
lay_quick Hd.pB
lay_quick Hd.pC
lay_quick Hd.pD
theorem uh {α A B:Type}{x:Option α}{f:α→A}{g:α→B}{a:A}{b:B}(h1:x.map f=some a)(h2:x.map g=some b):x.map (fun s=>(f s,g s))=some (a,b):=by
 cases x with
 | none=>cases h1
 | some s=>exact congrArg some (Prod.ext (Option.some.inj h1) (Option.some.inj h2))
theorem xn {p q:Program}{A:Type}{Yf:Shared→A}{Ya:World→A}
  (open_:∀w:World,(fencedOpening treeTable p w N).map (fun s=>(s.heap,s.gens,s.drawn,s.toks))=some (boot_heap w.params,Array.mk [],boot_drawn,boot_toks))
  (size:∀w:World,((boot_heap w.params).isNs mainGlobals&&(Array.mk ([]:List GenState)).size==0,(boot_heap w.params).objs.size,(boot_heap w.params).nsMap mainGlobals "__annotations__")=(true,11,some (Value.ref 6)))
  (r1:∀(w:World) (os:OsState),(RT p w N os).map (fun s=>pA p w.params s.abs&&pB q (importedModules p.main.body) Xt s.abs)=some true)
  (r2:∀(w:World) (os:OsState),(RT p w N os).map (fun s=>pC q s.abs)=some (expectedOf q,bltViewBooted,wideGood q))
  (r3:∀(w:World) (os:OsState),(RT p w N os).map (fun s=>pD q s.abs)=some (pinGoodD (drecsOf q),plainGoodE q (looseW q []),plainGoodD q [],clsGoodW q []))
  (r4:∀(w:World) (os:OsState),(RT p w N os).map (fun s=>Yf s.abs)=some (Ya w)):LeftO p q [] Xt Yf Ya N true:=
 xA open_ size zE fun w os=>by
  show(RT p w N os).map _=_;have h:=uh (uh (r1 w os) (r2 w os)) (uh (r3 w os) (r4 w os));cases e:RT p w N os with
  | none=>rw[e] at h;cases h
  | some s=>
   rw[e] at h;obtain⟨h1,h2⟩:=Prod.mk.inj (Option.some.inj h);obtain⟨h1,h3⟩:=Prod.mk.inj h1;obtain⟨h4,h5⟩:=Prod.mk.inj h2;obtain⟨a,b⟩:=Bool.and_eq_true_iff.mp h1;obtain⟨b,c⟩:=Bool.and_eq_true_iff.mp b;obtain⟨c1,c2⟩:=Prod.mk.inj h3;obtain⟨c2,c3⟩:=Prod.mk.inj c2;obtain⟨d1,d2⟩:=Prod.mk.inj h4;obtain⟨d2,d3⟩:=Prod.mk.inj d2;obtain⟨d3,d4⟩:=Prod.mk.inj d3;exact congrArg some (Prod.ext a (Prod.ext (Prod.ext c1 (Prod.ext c2 (Prod.ext b (Prod.ext c (Prod.ext d1 (Prod.ext d2 (Prod.ext d3 (Prod.ext c3 d4)))))))) h5))
def lk (s:SharedT)(a:Nat):Option Obj:=match Nat.blt a s.n with
 | true=>(match s.tree.get a with
  | some o=>alive o
  | none=>none)
 | false=>none
theorem Kf {s:SharedT}{a:Nat}{o:Obj}(h:lk s a=some o):s.abs.heap.get? a=some o:=by
 unfold lk at h;cases b:Nat.blt a s.n with
 | false=>rw[b] at h;cases h
 | true=>
  rw[b] at h;cases g:s.tree.get a with
  | none=>rw[g] at h;cases h
  | some x=>rw[g] at h;exact(abs_get (Nat.blt_eq.mp b) g).trans h
theorem BY {s:SharedT}{β:Type}{f:β→Obj}:∀{as:List Nat} {l:List β},as.map (lk s)=l.map (fun p=>some (f p))→as.map s.abs.heap.get?=l.map (fun p=>some (f p))
 | [],[],_=>rfl
 | [],_::_,h=>by cases h
 | _::_,[],h=>by cases h
 | a::as,p::l,h=>by
  obtain⟨x,y⟩:=List.cons.inj h;show s.abs.heap.get? a::as.map s.abs.heap.get?=_;rw[Kf x,BY y];rfl
theorem left_k {p q:Program}{K:Params→Frag}{as:List Addr}{e:∀P,as=(K P).map (·.1)}
  (open_:∀w:World,(fencedOpening treeTable p w N).map (fun s=>(s.heap,s.gens,s.drawn,s.toks))=some (boot_heap w.params,Array.mk [],boot_drawn,boot_toks))
  (size:∀w:World,((boot_heap w.params).isNs mainGlobals&&(Array.mk ([]:List GenState)).size==0,(boot_heap w.params).objs.size,(boot_heap w.params).nsMap mainGlobals "__annotations__")=(true,11,some (Value.ref 6)))
  (r1:∀(w:World) (os:OsState),(RT p w N os).map (fun s=>pA p w.params s.abs&&pB q (importedModules p.main.body) Xt s.abs)=some true)
  (r2:∀(w:World) (os:OsState),(RT p w N os).map (fun s=>pC q s.abs)=some (expectedOf q,bltViewBooted,wideGood q))
  (r3:∀(w:World) (os:OsState),(RT p w N os).map (fun s=>pD q s.abs)=some (pinGoodD (drecsOf q),plainGoodE q (looseW q []),plainGoodD q [],clsGoodW q []))
  (r4:∀(w:World) (os:OsState),(RT p w N os).map (fun s=>as.map (lk s))=some ((K w.params).map (fun p=>some p.2))) :
  LeftO p q [] Xt (kHook K as e).obs (kHook K as e).val N true:=
 xn open_ size r1 r2 r3 fun w os=>by
  obtain⟨s,h1,h2⟩:=Option.map_eq_some_iff.mp (r4 w os);rw[h1];exact congrArg some (BY h2)
end Hd
namespace K22
open PySem PySem.Spec PyProof.Rows L2 DL List
noncomputable def top (i:Nat):Stmt:=PySem.Challenge.pw_glowrow_k22_whole_plans_there_and_back.main.body.getD i (.Pass ⟨0,0,0,0⟩)
noncomputable abbrev El:Stmt:=top 62
structure TX (P:Program)(w:World)(K:W.Frag)(mg:Str→Option Value)(base:Heap):Prop extends Tx (("_law_draw",top 49,["tape","many"])::("_law_size",top 50,["tape","most"])::("_law_frame",top 51,["tape","most"])::("_law_inks",top 52,["tape","wide","thin"])::("_law_inked",top 53,["tape","most"])::("_law_far",top 54,["tape","size"])::("_law_mover",top 55,["tape","frame","shapes"])::("_law_stand",top 56,["tape","frame","movers_most"])::("_law_deed",top 57,["tape","frame","stand"])::("_law_timed",top 58,["tape","frame","stand","most"])::("part_text",top 36,["part"])::("line_text",top 37,["word","parts"])::("signs_of",top 34,["numbers"])::("block_text",top 38,["block"])::("plan_text",top 39,["frame","stand","timed"])::("lines_by_word",top 41,["text"])::("read_number",top 46,["word"])::("read_parts",top 45,["words"])::("read_signs",top 35,["text"])::("only",top 43,["things"])::("read_block",top 44,["words"])::("read_stand",top 42,["lines"])::("read_timed",top 47,["words"])::("is_whole",top 4,["thing"])::("is_within",top 5,["thing","low","high"])::("is_frame",top 7,["thing"])::("is_ink",top 11,["thing"])::("is_ink_row",top 12,["thing"])::("is_ink_block",top 13,["thing","most"])::("is_shape",top 14,["thing"])::("is_book",top 20,["thing"])::("is_shape_number",top 21,["book","thing"])::("is_place_pair",top 19,["thing"])::("is_rank",top 18,["thing"])::("is_turn",top 15,["thing"])::("is_mover",top 22,["book","thing"])::("are_movers",top 23,["book","thing"])::("is_hue",top 17,["thing"])::("are_pots",top 24,["thing"])::("is_stand",top 25,["thing"])::("row_ticks",top 8,["frame"])::("ticks_of",top 9,["frame"])::("ticks_hold",top 29,["frame","timed"])::("is_mover_deed",top 27,["stand","word","parts"])::("is_deed",top 26,["stand","thing"])::("read_plan",top 40,["text"])::("_law_signs",top 59,["numbers"])::("_law_said",top 60,["part"])::("_law_plan_text",top 61,["frame","stand","timed"])::[])
 ([])
 []
 ("all"::"any"::"bool"::"int"::"isinstance"::"len"::"list"::"min"::"range"::"sorted"::"str"::"tuple"::[]) ["NoText"]
 ([]) []
 ([]) [("FIGURES","0123456789"),("SIGNS","0123456789abcdefghijklmnopqrstuvwxyzABCDEFGHIJKLMNOPQRSTUVWXYZ+-")] [] P w K mg base where
 t0:G8 K mg "LINE_WORDS" ["frame","floor","shift","pots","shape","mover","at"]
set_option hygiene false
local macro_rules | `(tactic| walk_at "o") => `(tactic| first | with_reducible exact JW | with_reducible exact Hy | with_reducible exact IS | with_reducible exact J8 | with_reducible exact GB | with_reducible exact J1 | with_reducible exact Iv | with_reducible exact Lo | with_reducible exact LY | with_reducible exact Lq | with_reducible exact LM | with_reducible exact Lc | with_reducible exact q_isnot | with_reducible exact q_in | with_reducible exact q_notin | with_reducible exact q_mulT | with_reducible exact Km | with_reducible exact Hf | ((with_reducible show Q2 _ _ (dIn _)); first | exact q_din hr | exact q_dnotin hr) | ((with_reducible show Q2 _ _ (nW _)); first | exact q_dinK hr | exact DI hr) | ((with_reducible show Q2 _ _ (sK _)); exact FK hr) | ((with_reducible show Q2 _ (compareOp .Eq) _); exact LV hr) | exact KZ hr)
local macro_rules | `(tactic| walk_at "c") => `(tactic| first | ((with_reducible refine Ko ?_); rfl) | ((with_reducible refine JL ?_); rfl) | ((with_reducible refine Ij)) | ((with_reducible refine q_lenT)) | ((with_reducible refine II)) | ((with_reducible refine q_listT ?_); rfl) | ((with_reducible refine q_listMA ?_); rfl) | ((with_reducible refine q_listA ?_); rfl) | ((with_reducible refine q_listM)) | ((with_reducible refine GK)) | ((with_reducible refine Jd ?_); rfl) | ((with_reducible refine q_sorted)) | ((with_reducible refine CO)))
local macro_rules | `(tactic| walk_at "b") => `(tactic| with_reducible first | exact Boot.«all» | exact Boot.«any» | exact Boot.«bool» | exact Boot.«int» | exact Boot.«isinstance» | exact Boot.«len» | exact Boot.«list» | exact Boot.«min» | exact Boot.«range» | exact Boot.«sorted» | exact Boot.«str» | exact Boot.«tuple»)
local macro_rules | `(tactic| walk_at "E") => `(tactic| first
  | ((with_reducible show QE _ _ (af _));exact qv _)
  | ((with_reducible show QE _ _ (gC _));first|exact F4|exact Gz|exact HG|exact JX|exact Cd (Ma T.s 0)|exact Cd (Ma T.s 1))
  | ((with_reducible show QE _ _ (g2 dGet _ _));refine qe_dget hr ?_ ?_)
  | ((with_reducible show QE _ _ (g2 dJ _ _));refine zX hr ?_ ?_)
  | ((with_reducible show QE _ _ (aC mI _));refine Er (D7 rfl) (T.z _ (by decide +kernel)) (by walk_at "b") ?_)
  | ((with_reducible show QE _ _ (g2 bt _ _));refine Jm ?_ ?_)
  | ((with_reducible show QE _ _ (g2 yP _ _));refine Hi ?_ ?_)
  | ((with_reducible show QE _ _ (g2 _ _ _));first|refine IL (by walk_at "o") ?_ ?_|refine Fi (by walk_at "o") ?_ ?_|refine C0 (by walk_at "o") ?_ ?_)
  | ((with_reducible show QE _ _ (aj _ _ _));refine Iu (by assumption) hr ?_)
  | ((with_reducible show QE _ _ (bT _));refine GH ?_)
  | ((with_reducible show QE _ _ (eQ _ _));refine Io (by first|exact .inl rfl|exact .inr (.inl rfl)|exact .inr (.inr (.inl rfl))|exact .inr (.inr (.inr (.inl rfl)))|exact .inr (.inr (.inr (.inr rfl)))) (by walk_at "b") (by rfl) (T.z _ (by decide +kernel)) (by rfl) (T.z _ (by decide +kernel)) ?_)
  | ((with_reducible show QE _ _ (D9 _ _ _));refine Gi ?_ ?_ ?_)
  | ((with_reducible show QE _ _ (aC iZ _));refine Bs Ki (by rfl) (T.z _ (by decide +kernel)) (by walk_at "b") ?_)
  | ((with_reducible show QE _ _ (aC zt _));refine Bs Hw (by rfl) (T.z _ (by decide +kernel)) (by walk_at "b") ?_)
  | ((with_reducible show QE _ _ (aP ky _ _));refine zB ?_ ?_)
  | ((with_reducible show QE _ _ (aC _ _));first|refine Er (by walk_at "c") (T.z _ (by decide +kernel)) (by walk_at "b") ?_|refine Bs (by walk_at "c") (by rfl) (T.z _ (by decide +kernel)) (by walk_at "b") ?_)
  | ((with_reducible show QE _ _ (eB _));refine Gf ?_)
  | ((with_reducible show QE _ _ (i6 _));refine E5 ?_)
  | ((with_reducible show QE _ _ (sv _));refine EQ ?_)
  | ((with_reducible show QE _ _ (vR _));refine Hv ?_)
  | ((with_reducible show QE _ _ (oQ _ _ _ _ _));refine B6 (by walk_at "o") (by walk_at "o") ?_ ?_ ?_)
  | ((with_reducible show QE _ _ (nS _ _ _));refine Jf ?_ ?_ ?_)
  | ((with_reducible show QE _ _ (zJ _ _ _));refine BW ?_ ?_ ?_)
  | ((with_reducible show QE _ _ (aM _ _ _ _));first|refine qe_compR (by assumption) (by kernel_rfl) (by first|exact .inl rfl|exact .inr rfl) ?_ ?_ ?_|refine BX (by kernel_rfl) (by first|exact .inl rfl|exact .inr rfl) ?_ ?_ ?_)
  | ((with_reducible show QE _ _ (bU _ _ _ _ _ _));refine zD (by assumption) (by kernel_rfl) (by first|exact .inl rfl|exact .inr rfl) ?_ ?_ ?_ ?_ ?_)
  | ((with_reducible show QE _ _ (bM _ _ _ _ _ _));refine zf (by assumption) (by kernel_rfl) (by first|exact .inl rfl|exact .inr rfl) ?_ ?_ ?_ ?_ ?_)
  | ((with_reducible show QE _ _ (kL _ _));refine zR ?_ ?_)
  | ((with_reducible show QE _ _ (aP _ _ _));first|refine CW ?_ ?_|refine qe_indexS ?_ ?_|refine qe_splitM ?_ ?_|refine A5 ?_ ?_|refine CC ?_ ?_)
  | ((with_reducible show QE _ _ (uO _));refine zl ?_))
local macro_rules | `(tactic| walk_at "S") => `(tactic| first
  | ((with_reducible show QS _ _ (aF _ (kn _ _ _ _ _)));refine tw (by assumption) (by kernel_rfl) ?_ nd ?_ ?_ ?_ ?_)
  | ((with_reducible show QS _ _ (aH _));refine GX ?_)
  | ((with_reducible show QS _ _ (fJ _ _ _));refine IQ ?_ ?_ ?_)
  | ((with_reducible show QS _ _ (aF _ (aM _ _ _ _)));first|refine qs_setCompR (by assumption) (by kernel_rfl) (by first|exact .inl rfl|exact .inr rfl) nd ?_ ?_ ?_|refine wm (by kernel_rfl) (by first|exact .inl rfl|exact .inr rfl) nd ?_ ?_ ?_|refine sH _ nd ?_)
  | ((with_reducible show QS _ _ (aF _ (bU _ _ _ _ _ _)));first|refine uf (by assumption) (by kernel_rfl) (by first|exact .inl rfl|exact .inr rfl) ?_ nd ?_ ?_ ?_ ?_|refine sH _ nd ?_)
  | ((with_reducible show QS _ _ (aF _ (bM _ _ _ _ _ _)));first|refine uo (by assumption) (by kernel_rfl) (by first|exact .inl rfl|exact .inr rfl) ?_ nd ?_ ?_ ?_ ?_|refine sH _ nd ?_)
  | ((with_reducible show QS _ _ (aF _ _));refine G6 _ nd ?_)
  | ((with_reducible show QS _ _ (i3 _ _));refine Fc ?_ ?_)
  | ((with_reducible show QS _ _ (nq _ _ _));refine FW PassesOwn.leaving ?_ ?_ ?_)
  | ((with_reducible show QS _ _ (gP _));refine CF ?_)
  | ((with_reducible show QS _ _ (kM _ _ _));refine Gy ?_ ?_ ?_)
  | ((with_reducible show QS _ _ (aX));first|exact qs_pass|exact qs_doc)
  | ((with_reducible show QS _ _ (cT _ _));refine yY (T.e _ (by decide +kernel)) ?_)
  | ((with_reducible show QS _ _ (xu _ _ _));refine Fa nd ?_)
  | ((with_reducible show QS _ _ (mw _ _));refine DV _ nd ?_))
local macro_rules | `(tactic| walk_at "Q") => `(tactic| first
  | ((with_reducible show QE _ _ _);first|walk_at "E"|refine He ?_|refine Fd ?_ ?_|refine JT ?_ ?_|refine qe_fstr1 ?_)
  | ((with_reducible show QA _ _ _);first|exact HL|refine Lw ?_ ?_)
  | ((with_reducible show QT _ _ _);first
  | ((with_reducible show QT _ _ (aZ (oQ _ _ _ _ _)));refine Am (by walk_at "o") (by walk_at "o") ?_ ?_ ?_)
  | ((with_reducible show QT _ _ (aZ _));first|refine FJ (by walk_at "o") ?_ ?_|refine Ee (by walk_at "o") ?_ ?_)
  | ((with_reducible show QT _ _ (cH _));refine Hr ?_)
  | ((with_reducible show QT _ _ (dG _));refine Ge ?_)
  | ((with_reducible show QT _ _ (fH _ _));refine Jq ?_)
  | ((with_reducible show QT _ _ (hW _ _));refine Jq ?_))
  | ((with_reducible show QB _ _ _);first|exact Gc|refine GC ?_|refine Di ?_ ?_)
  | ((with_reducible show QS _ _ _);walk_at "S")
  | ((with_reducible show QW _ _ _);first|refine Hm ?_ ?_|refine Jn ?_ ?_|refine Dp ?_|refine Fq ?_)
  | ((with_reducible show QI _ _ _ _);first|((with_reducible show QI _ _ _ (yc _));exact Ct T.t0)|((with_reducible show QI _ _ _ (dX _));refine JQ (by rfl) (T.z _ (by decide +kernel)) ?_)|((with_reducible show QI _ _ _ (gRng2 _));refine qi_r2 (by rfl) (T.z _ (by decide +kernel)) ?_)|((with_reducible show QI _ _ _ (gEnum _));refine qi_enum (by rfl) (T.z _ (by decide +kernel)) (by walk_at "b") ?_)|((with_reducible show QI _ _ _ (gRevR _));refine qi_rev (by rfl) (T.z _ (by decide +kernel)) (by rfl) (T.z _ (by decide +kernel)) ?_)|refine FN ?_|refine Ef ?_)
  | ((with_reducible show QG _ _ _);first|exact qn _ nd|exact Mo _ (by kernel_rfl) |((with_reducible show QG _ _ (lstN _));refine qg_lst ?_)|refine EN ?_|refine qg_tupG ?_)
  | ((with_reducible show J0 _ _ _);first|exact Dc|refine JA ?_ ?_)
  | ((with_reducible show QGG _ _ _);first|exact qgg_nil|refine qgg_c ?_ ?_)
  | ((with_reducible show QP _ _ _);first|exact D8|refine CV ?_)
  | ((with_reducible show xY _ _ _ _ _ _);first|exact zq|refine q_onetest ?_)
  | ((with_reducible show QO _ _);first|exact GP _ _|exact EV _|refine qo_tupG ?_)
  | ((with_reducible show QOs _ _);first|exact qos_nil|refine qos_c ?_ ?_)
  | ((with_reducible show QF _ _ _);first|exact qf_nil|refine qf_c ?_ ?_)
  | ((with_reducible show QD _ _ _ _ _);first|exact qd_nil|refine qd_c ?_)
  | ((with_reducible show QDV _ _ _ _ _);first|exact qdv_nil|refine qdv_c ?_|refine qdv_v _ ?_)
  | intro _)
section
variable {P:Program}{w:World}{K:W.Frag}{mg:Str→Option Value}{base:Heap}
noncomputable def ii:GS:=(ax (aF 2 (gC (.int 2305843009213693951))) (ax (fJ (aZ (g2 p0 (g2 bt (af 0) (gC (.int 2))) (af 1))) (ax (aF 3 (gC (.int 0))) (ax (fJ (aZ (g2 yj (aC bx (aa (g2 bt (af 0) (gC (.int 0))) ai)) (gC (.int 0)))) (aF 3 (g2 bt (g2 bt (af 0) (gC (.int 0))) (g2 ie (g2 bt (af 0) (gC (.int 1))) (aC bx (aa (g2 bt (af 0) (gC (.int 0))) ai))))) aX) (ax (fJ (hW (aZ (g2 CS (g2 bt (af 0) (gC (.int 1))) (aC bx (aa (g2 bt (af 0) (gC (.int 0))) ai)))) (aZ (g2 p0 (af 3) (g2 pV (gC (.int 10)) (gC (.int 18)))))) (ax (aF 3 (g2 ie (g2 bh (af 3) (g2 d9 (gC (.int 1000003)) (g2 bt (af 0) (gC (.int 1))))) (af 2))) (ax (aF 3 (g2 ie (g2 bh (g2 bh (g2 d9 (af 3) (af 3)) (g2 d9 (gC (.int 1181783497276652981)) (af 3))) (gC (.int 2049848353892358983))) (af 2))) (aF 3 (g2 ie (g2 bh (g2 d9 (af 3) (af 3)) (gC (.int 1442695040888963407))) (af 2))))) aX) (ax (kM (af 0) (gC (.int 1)) (g2 bh (g2 bt (af 0) (gC (.int 1))) (gC (.int 1)))) (kM (af 0) (gC (.int 2)) (af 3)))))) aX) (ax (aF 4 (g2 ie (g2 bt (af 0) (gC (.int 2))) (af 1))) (ax (kM (af 0) (gC (.int 2)) (g2 fN (g2 bt (af 0) (gC (.int 2))) (af 1))) (aH (af 4))))))
noncomputable def aq:FD:=bv 3 ii
theorem bY (T:TX P w K mg base):Ok P w K mg base "_law_draw" 1 2 aq:=bX (bW T.f 0 rfl) ["tape","many","prime","cell","found"] aW rfl fun f _ A _ s H E nd hr=>by delta ii;repeat' walk_at "Q"
noncomputable def km:GS:=(aH (g2 bh (gC (.int 1)) (g2 bt (eB (aa (aj 2 aq (aa (af 0) (aa (aC wz (aa (af 1) (aa (gC (.int 6)) ai))) ai))) (aa (aj 2 aq (aa (af 0) (aa (af 1) ai))) (aa (g2 nu (af 1) (gC (.int 1))) ai)))) (g2 fN (g2 d9 (aj 2 aq (aa (af 0) (aa (gC (.int 8)) ai))) (gC (.int 3))) (gC (.int 10))))))
noncomputable def dq:FD:=bv 0 km
theorem lO (T:TX P w K mg base):Ok P w K mg base "_law_size" 2 2 dq:=bX (bW T.f 1 rfl) ["tape","most"] aW rfl fun f _ A _ s H E nd hr=>by have:=bY T;delta km;repeat' walk_at "Q"
noncomputable def je:GS:=(ax (aF 2 (g2 bt (eB (aa (gC (.int 0)) (aa (aj 2 aq (aa (af 0) (aa (gC (.int 21)) ai))) ai))) (aj 2 aq (aa (af 0) (aa (gC (.int 2)) ai))))) (aH (bT (aa (aj 2 dq (aa (af 0) (aa (af 1) ai))) (aa (aj 2 dq (aa (af 0) (aa (af 1) ai))) (aa (af 2) (aa (aj 2 aq (aa (af 0) (aa (gC (.int 13)) ai))) ai)))))))
noncomputable def gF:FD:=bv 1 je
theorem qf (T:TX P w K mg base):Ok P w K mg base "_law_frame" 3 2 gF:=bX (bW T.f 2 rfl) ["tape","most","gap"] aW rfl fun f _ A _ s H E nd hr=>by have:=bY T;have:=lO T;delta je;repeat' walk_at "Q"
noncomputable def eI:GE:=(g2 d9 (aj 2 aq (aa (af 1) (aa (gC (.int 16)) ai))) (aC pU (aa (g2 yj (aj 2 aq (aa (af 1) (aa (af 3) ai))) (gC (.int 0))) ai)))
noncomputable def jS:GS:=(aH (aC bL (aa (aM (dX (aa (af 1) ai)) aU eI aA) ai)))
noncomputable def iC:FD:=bv 0 jS
theorem tL (T:TX P w K mg base):Ok P w K mg base "_law_inks" 2 3 iC:=bX (bW T.f 3 rfl) ["tape","wide","thin"] aW rfl fun f _ A _ s H E nd hr=>by have:=bY T;delta jS eI;repeat' walk_at "Q"
noncomputable def fF:GE:=(aj 3 iC (aa (af 1) (aa (af 3) (aa (af 4) ai))))
noncomputable def jh:GS:=(ax (aF 2 (aj 2 dq (aa (af 0) (aa (af 1) ai)))) (ax (aF 3 (g2 bh (gC (.int 1)) (aj 2 aq (aa (af 0) (aa (gC (.int 4)) ai))))) (aH (aC bL (aa (aM (dX (aa (aj 2 dq (aa (af 0) (aa (af 1) ai))) ai)) aU fF aA) ai)))))
noncomputable def eC:FD:=bv 2 jh
theorem qh (T:TX P w K mg base):Ok P w K mg base "_law_inked" 3 2 eC:=bX (bW T.f 4 rfl) ["tape","most","wide","thin"] aW rfl fun f _ A _ s H E nd hr=>by have:=bY T;have:=lO T;have:=tL T;delta jh fF;repeat' walk_at "Q"
noncomputable def lj:GS:=(aH (g2 bt (eB (aa (g2 nu (aj 2 aq (aa (af 0) (aa (g2 bh (af 1) (gC (.int 16))) ai))) (gC (.int 8))) (aa (g2 nu (aj 2 aq (aa (af 0) (aa (gC (.int 2001)) ai))) (gC (.int 1000))) ai))) (g2 fN (aj 2 aq (aa (af 0) (aa (gC (.int 8)) ai))) (gC (.int 7)))))
noncomputable def bn:FD:=bv 0 lj
theorem jX (T:TX P w K mg base):Ok P w K mg base "_law_far" 2 2 bn:=bX (bW T.f 5 rfl) ["tape","size"] aW rfl fun f _ A _ s H E nd hr=>by have:=bY T;delta lj;repeat' walk_at "Q"
noncomputable def cq:GS:=(ax (aF 3 (gC .non)) (ax (fJ (fH (aZ (g2 yj (af 2) (gC (.int 0)))) (aZ (g2 yj (aj 2 aq (aa (af 0) (aa (gC (.int 8)) ai))) (gC (.int 0))))) (aF 3 (aj 2 aq (aa (af 0) (aa (af 2) ai)))) aX) (aH (bT (aa (af 3) (aa (aj 2 bn (aa (af 0) (aa (g2 bt (af 1) (gC (.int 0))) ai))) (aa (aj 2 bn (aa (af 0) (aa (g2 bt (af 1) (gC (.int 1))) ai))) (aa (aj 2 aq (aa (af 0) (aa (gC (.int 4)) ai))) (aa (aj 2 aq (aa (af 0) (aa (gC (.int 4)) ai))) ai)))))))))
noncomputable def fY:FD:=bv 1 cq
theorem kS (T:TX P w K mg base):Ok P w K mg base "_law_mover" 3 3 fY:=bX (bW T.f 6 rfl) ["tape","frame","shapes","shape"] aW rfl fun f _ A _ s H E nd hr=>by have:=bY T;have:=jX T;delta cq;repeat' walk_at "Q"
noncomputable def fe:GE:=(aj 2 eC (aa (af 1) (aa (gC (.int 8)) ai)))
noncomputable def fq:GE:=(aj 3 fY (aa (af 1) (aa (af 2) (aa (aC bx (aa (af 7) ai)) ai))))
noncomputable def fu:GE:=(aj 2 aq (aa (af 1) (aa (gC (.int 64)) ai)))
noncomputable def fP:GS:=(ax (aF 3 (aj 2 eC (aa (af 0) (aa (gC (.int 16)) ai)))) (ax (aF 4 (bT (aa (aj 2 bn (aa (af 0) (aa (gC (.int 9)) ai))) (aa (aj 2 bn (aa (af 0) (aa (gC (.int 9)) ai))) ai)))) (ax (aF 5 (g2 bt (eB (aa (aj 2 aq (aa (af 0) (aa (gC (.int 4)) ai))) (aa (aj 2 aq (aa (af 0) (aa (gC (.int 9)) ai))) ai))) (g2 fN (aj 2 aq (aa (af 0) (aa (gC (.int 4)) ai))) (gC (.int 3))))) (ax (aF 6 (aC bL (aa (aM (dX (aa (af 5) ai)) aU fe aA) ai))) (ax (aF 7 (aC bL (aa (aM (dX (aa (aj 2 aq (aa (af 0) (aa (g2 bh (af 2) (gC (.int 1))) ai))) ai)) aU fq aA) ai))) (aH (bT (aa (af 3) (aa (af 4) (aa (af 6) (aa (af 7) (aa (aC bL (aa (aM (dX (aa (gC (.int 16)) ai)) aU fu aA) ai)) ai))))))))))))
noncomputable def ja:FD:=bv 5 fP
theorem p5 (T:TX P w K mg base):Ok P w K mg base "_law_stand" 4 3 ja:=bX (bW T.f 7 rfl) ["tape","frame","movers_most","floor","shift","shapes","book","movers"] aW rfl fun f _ A _ s H E nd hr=>by have:=bY T;have:=qh T;have:=jX T;have:=kS T;delta fP fe fq fu;repeat' walk_at "Q"
noncomputable def iE:GS:=(ax (aF 3 (aj 2 aq (aa (af 0) (aa (gC (.int 8)) ai)))) (ax (fJ (hW (aZ (g2 p0 (af 3) (gC (.int 2)))) (aZ (g2 (bj false) (g2 bt (af 2) (gC (.int 3))) (bT ai)))) (ax (aF 4 (eB (aa (bT (aa (gC (.str "shift")) (aa (aj 2 bn (aa (af 0) (aa (gC (.int 9)) ai))) (aa (aj 2 bn (aa (af 0) (aa (gC (.int 9)) ai))) ai)))) (aa (bT (aa (gC (.str "pot")) (aa (aj 2 aq (aa (af 0) (aa (gC (.int 16)) ai))) (aa (aj 2 aq (aa (af 0) (aa (gC (.int 64)) ai))) ai)))) ai)))) (aH (g2 bt (af 4) (g2 ie (af 3) (gC (.int 2)))))) aX) (ax (aF 5 (aj 2 aq (aa (af 0) (aa (aC bx (aa (g2 bt (af 2) (gC (.int 3))) ai)) ai)))) (ax (aF 6 (aj 3 fY (aa (af 0) (aa (af 1) (aa (aC bx (aa (g2 bt (af 2) (gC (.int 2))) ai)) ai))))) (ax (fJ (aZ (g2 p0 (af 3) (gC (.int 5)))) (aH (bT (aa (gC (.str "move")) (aa (af 5) (aa (g2 bt (af 6) (gC (.int 1))) (aa (g2 bt (af 6) (gC (.int 2))) ai)))))) aX) (aH (g2 bt (eB (aa (bT (aa (gC (.str "shape")) (aa (af 5) (aa (g2 bt (af 6) (gC (.int 0))) ai)))) (aa (bT (aa (gC (.str "rank")) (aa (af 5) (aa (g2 bt (af 6) (gC (.int 3))) ai)))) (aa (bT (aa (gC (.str "turn")) (aa (af 5) (aa (g2 bt (af 6) (gC (.int 4))) ai)))) ai)))) (g2 nu (af 3) (gC (.int 5))))))))))
noncomputable def jW:FD:=bv 4 iE
theorem ui (T:TX P w K mg base):Ok P w K mg base "_law_deed" 4 3 jW:=bX (bW T.f 8 rfl) ["tape","frame","stand","way","some","number","mover"] aW rfl fun f _ A _ s H E nd hr=>by have:=bY T;have:=jX T;have:=kS T;delta iE;repeat' walk_at "Q"
noncomputable def dH:GE:=(bT (aa (aj 2 aq (aa (af 1) (aa (af 5) ai))) (aa (aj 3 jW (aa (af 1) (aa (af 2) (aa (af 3) ai)))) ai)))
noncomputable def fb:GE:=(bT (aa (g2 bt (g2 bt (af 6) (af 0)) (gC (.int 0))) (aa (af 0) ai)))
noncomputable def fv:GE:=(g2 bt (af 7) (af 1))
noncomputable def f9:GS:=(ax (aF 4 (g2 d9 (g2 bt (af 1) (gC (.int 1))) (g2 bh (g2 bt (af 1) (gC (.int 0))) (g2 bt (af 1) (gC (.int 2)))))) (ax (aF 5 (aM (dX (aa (aj 2 aq (aa (af 0) (aa (g2 bh (af 3) (gC (.int 1))) ai))) ai)) aU dH aA)) (ax (aF 6 (aC mI (aa (aM (dX (aa (aC bx (aa (af 5) ai)) ai)) aU fb aA) ai))) (aH (bU (bq (af 6)) 2 (dU [0,1]) aU fv aA)))))
noncomputable def jg:FD:=bv 3 f9
theorem pT (T:TX P w K mg base):Ok P w K mg base "_law_timed" 5 4 jg:=bX (bW T.f 9 rfl) ["tape","frame","stand","most","ticks","found","places"] aW rfl fun f _ A _ s H E nd hr=>by have:=bY T;have:=ui T;have:=rn 220 11 ["tick","k"] ["tape","frame","stand","most","ticks","found","places"];delta f9 dH fb fv;repeat' walk_at "Q"
noncomputable def nP:GS:=(aH (nS (aZ (g2 (sL false) (af 0) (gC .non))) (gC (.str "off")) (aC iZ (aa (af 0) ai))))
noncomputable def j9:FD:=bv 0 nP
theorem uH (T:TX P w K mg base):Ok P w K mg base "part_text" 1 1 j9:=bX (bW T.f 10 rfl) ["part"] aW rfl fun f _ A _ s H E nd hr=>by delta nP;repeat' walk_at "Q"
noncomputable def gq:GE:=(aj 1 j9 (aa (af 0) ai))
noncomputable def iD:GS:=(aH (aP cI (gC (.str " ")) (g2 bh (eB (aa (af 0) ai)) (aM (bq (af 1)) aU gq aA))))
noncomputable def aV:FD:=bv 0 iD
theorem tu (T:TX P w K mg base):Ok P w K mg base "line_text" 2 2 aV:=bX (bW T.f 11 rfl) ["word","parts"] aW rfl fun f _ A _ s H E nd hr=>by have:=uH T;delta iD gq;repeat' walk_at "Q"
noncomputable def jT:GE:=(g2 yP (gC (.str "0123456789abcdefghijklmnopqrstuvwxyzABCDEFGHIJKLMNOPQRSTUVWXYZ+-")) (af 0))
noncomputable def jt:GS:=(aH (aP cI (gC (.str "")) (aM (iX (af 0)) aU jT aA)))
noncomputable def gS:FD:=bv 0 jt
theorem nO (T:TX P w K mg base):Ok P w K mg base "signs_of" 1 1 gS:=bX (bW T.f 12 rfl) ["numbers"] aW rfl fun f _ A _ s H E nd hr=>by delta jt jT;repeat' walk_at "Q"
noncomputable def iN:GE:=(aj 1 gS (aa (af 0) ai))
noncomputable def fZ:GS:=(aH (aP cI (gC (.str "/")) (aM (bq (af 0)) aU iN aA)))
noncomputable def eJ:FD:=bv 0 fZ
theorem qA (T:TX P w K mg base):Ok P w K mg base "block_text" 2 1 eJ:=bX (bW T.f 13 rfl) ["block"] aW rfl fun f _ A _ s H E nd hr=>by have:=nO T;delta fZ iN;repeat' walk_at "Q"
noncomputable def fR:GE:=(aj 2 aV (aa (gC (.str "shape")) (aa (eB (aa (aj 1 eJ (aa (af 0) ai)) ai)) ai)))
noncomputable def fV:GE:=(aj 2 aV (aa (gC (.str "mover")) (aa (af 0) ai)))
noncomputable def fU:GE:=(aj 2 aV (aa (gC (.str "at")) (aa (g2 bh (bT (aa (af 0) ai)) (af 1)) ai)))
noncomputable def fK:GS:=(ax (i3 (dU [3,4,5,6,7]) (af 1)) (ax (aF 8 (i6 (aa (aj 2 aV (aa (gC (.str "frame")) (aa (af 0) ai))) (aa (aj 2 aV (aa (gC (.str "floor")) (aa (eB (aa (aj 1 eJ (aa (af 3) ai)) ai)) ai))) (aa (aj 2 aV (aa (gC (.str "shift")) (aa (af 4) ai))) (aa (aj 2 aV (aa (gC (.str "pots")) (aa (eB (aa (aj 1 gS (aa (af 7) ai)) ai)) ai))) ai)))))) (ax (mw 8 (aM (bq (af 5)) aU fR aA)) (ax (mw 8 (aM (bq (af 6)) aU fV aA)) (ax (mw 8 (bU (bq (af 2)) 2 (dU [0,1]) aU fU aA)) (aH (aP cI (gC (.str "\n")) (af 8))))))))
noncomputable def ir:FD:=fun ds M=>lq M.length (bv 6 fK ds M)
theorem mW (T:TX P w K mg base):Ok P w K mg base "plan_text" 3 3 ir:=Ag (F:=bv 6 fK) <| bX (bW T.f 14 rfl) ["frame","stand","timed","floor","shift","book","movers","pots","lines"] aW rfl fun f _ A _ s H E nd hr=>by have:=tu T;have:=nO T;have:=qA T;have:=rn 114 13 ["tick","deed"] ["frame","stand","timed","floor","shift","book","movers","pots","lines"];delta fK fR fV fU;repeat' walk_at "Q"
noncomputable def cf:GS:=(ax (aF 3 (aP dE (af 2) (gC (.str " ")))) (ax (fJ (aZ (g2 (nW true) (g2 bt (af 3) (gC (.int 0))) (af 1))) (cT "NoText" (gC (.str "a line begins with another word"))) aX) (gP (kL (g2 dJ (af 1) (g2 bt (af 3) (gC (.int 0)))) (zJ (af 3) (iq (gC (.int 1))) df)))))
noncomputable def dM:GS:=(ax (aF 1 (kn (yc ["frame","floor","shift","pots","shape","mover","at"]) 1 (cn 0) (af 0) (i6 ai))) (ax (nq (bq (aP dE (af 0) (gC (.str "\n")))) (cn 2) cf) (aH (af 1))))
noncomputable def dN:FD:=bv 3 dM
theorem m7 (T:TX P w K mg base):Ok P w K mg base "lines_by_word" 1 1 dN:=bX (bW T.f 15 rfl) ["text","lines","line","words"] aW rfl fun f _ A _ s H E nd hr=>by have:=rn 131 12 ["word"] ["text","lines","line","words"];delta dM cf;repeat' walk_at "Q"
noncomputable def eN:GE:=(g2 Df (af 0) (gC (.str "0123456789")))
noncomputable def ft:GS:=(ax (aF 1 (nS (dG (aP ky (af 0) (gC (.str "-")))) (D9 (af 0) (iq (gC (.int 1))) df) (af 0))) (ax (fJ (hW (cH (aZ (oQ lL lL (gC (.int 1)) (aC bx (aa (af 1) ai)) (gC (.int 4))))) (dG (aC zM (aa (aM (iX (af 1)) aU eN aA) ai)))) (cT "NoText" (gC (.str "that writes no number"))) aX) (ax (aF 2 (aC zt (aa (af 0) ai))) (ax (fJ (aZ (g2 (bj true) (aC iZ (aa (af 2) ai)) (af 0))) (cT "NoText" (gC (.str "the number is written otherwise"))) aX) (aH (af 2))))))
noncomputable def eZ:FD:=bv 2 ft
theorem jL (T:TX P w K mg base):Ok P w K mg base "read_number" 1 1 eZ:=bX (bW T.f 16 rfl) ["word","figures","number"] aW rfl fun f _ A _ s H E nd hr=>by delta ft eN;repeat' walk_at "Q"
noncomputable def fc:GE:=(nS (aZ (g2 (bj false) (af 0) (gC (.str "off")))) (gC .non) (aj 1 eZ (aa (af 0) ai)))
noncomputable def fW:GS:=(aH (aC bL (aa (bM (bq (af 0)) 1 (cn 0) aU fc aA) ai)))
noncomputable def dA:FD:=bv 0 fW
theorem iI (T:TX P w K mg base):Ok P w K mg base "read_parts" 2 1 dA:=bX (bW T.f 17 rfl) ["words"] aW rfl fun f _ A _ s H E nd hr=>by have:=jL T;have:=rn 152 17 ["word"] ["words"];delta fW fc;repeat' walk_at "Q"
noncomputable def iK:GE:=(aP oJ (gC (.str "0123456789abcdefghijklmnopqrstuvwxyzABCDEFGHIJKLMNOPQRSTUVWXYZ+-")) (af 0))
noncomputable def i9:GS:=(ax (aF 1 (aM (iX (af 0)) aU iK aA)) (ax (fJ (aZ (g2 EI (sv (gC (.int 1))) (af 1))) (cT "NoText" (gC (.str "there is a sign that writes no number"))) aX) (aH (af 1))))
noncomputable def dB:FD:=bv 1 i9
theorem kR (T:TX P w K mg base):Ok P w K mg base "read_signs" 1 1 dB:=bX (bW T.f 18 rfl) ["text","numbers"] aW rfl fun f _ A _ s H E nd hr=>by delta i9 iK;repeat' walk_at "Q"
noncomputable def sT:GS:=(ax (fJ (aZ (g2 (bj true) (aC bx (aa (af 0) ai)) (gC (.int 1)))) (cT "NoText" (gC (.str "there is one too many, or one too few"))) aX) (aH (g2 bt (af 0) (gC (.int 0)))))
noncomputable def gW:FD:=bv 0 sT
theorem tm (T:TX P w K mg base):Ok P w K mg base "only" 1 1 gW:=bX (bW T.f 19 rfl) ["things"] aW rfl fun f _ A _ s H E nd hr=>by delta sT;repeat' walk_at "Q"
noncomputable def fj:GE:=(aC bL (aa (aj 1 dB (aa (af 0) ai)) ai))
noncomputable def fX:GS:=(aH (aC bL (aa (bM (bq (aP dE (aj 1 gW (aa (af 0) ai)) (gC (.str "/")))) 1 (cn 0) aU fj aA) ai)))
noncomputable def fO:FD:=bv 0 fX
theorem pY (T:TX P w K mg base):Ok P w K mg base "read_block" 2 1 fO:=bX (bW T.f 20 rfl) ["words"] aW rfl fun f _ A _ s H E nd hr=>by have:=kR T;have:=tm T;have:=rn 150 17 ["row"] ["words"];delta fX fj;repeat' walk_at "Q"
noncomputable def fA:GE:=(aj 1 fO (aa (af 0) ai))
noncomputable def fB:GE:=(aj 1 dA (aa (af 0) ai))
noncomputable def gf:GS:=(ax (aF 1 (aj 1 fO (aa (aj 1 gW (aa (g2 dJ (af 0) (gC (.str "floor"))) ai)) ai))) (ax (aF 2 (aj 1 dA (aa (aj 1 gW (aa (g2 dJ (af 0) (gC (.str "shift"))) ai)) ai))) (ax (aF 3 (aC bL (aa (bM (bq (g2 dJ (af 0) (gC (.str "shape")))) 1 (cn 0) aU fA aA) ai))) (ax (aF 4 (aC bL (aa (bM (bq (g2 dJ (af 0) (gC (.str "mover")))) 1 (cn 0) aU fB aA) ai))) (ax (aF 5 (aC bL (aa (aj 1 dB (aa (aj 1 gW (aa (aj 1 gW (aa (g2 dJ (af 0) (gC (.str "pots"))) ai)) ai)) ai)) ai))) (aH (bT (aa (af 1) (aa (af 2) (aa (af 3) (aa (af 4) (aa (af 5) ai))))))))))))
noncomputable def jk:FD:=bv 5 gf
theorem qj (T:TX P w K mg base):Ok P w K mg base "read_stand" 3 1 jk:=bX (bW T.f 21 rfl) ["lines","floor","shift","book","movers","pots"] aW rfl fun f _ A _ s H E nd hr=>by have:=iI T;have:=kR T;have:=tm T;have:=pY T;have:=rn 141 17 ["words"] ["lines","floor","shift","book","movers","pots"];have:=rn 142 19 ["words"] ["lines","floor","shift","book","movers","pots"];delta gf fA fB;repeat' walk_at "Q"
noncomputable def fS:GS:=(ax (fJ (aZ (g2 p0 (aC bx (aa (af 0) ai)) (gC (.int 2)))) (cT "NoText" (gC (.str "a timed deed has a tick and a word"))) aX) (aH (bT (aa (aj 1 eZ (aa (g2 bt (af 0) (gC (.int 0))) ai)) (aa (g2 bh (bT (aa (g2 bt (af 0) (gC (.int 1))) ai)) (aj 1 dA (aa (zJ (af 0) (iq (gC (.int 2))) df) ai))) ai)))))
noncomputable def jl:FD:=bv 0 fS
theorem pZ (T:TX P w K mg base):Ok P w K mg base "read_timed" 3 1 jl:=bX (bW T.f 22 rfl) ["words"] aW rfl fun f _ A _ s H E nd hr=>by have:=jL T;have:=iI T;delta fS;repeat' walk_at "Q"
noncomputable def oS:GS:=(aH (dz (eQ "int" (af 0)) (vR (aZ (eQ "bool" (af 0))))))
noncomputable def lr:FD:=bv 0 oS
theorem wg (T:TX P w K mg base):Ok P w K mg base "is_whole" 1 1 lr:=bX (bW T.f 23 rfl) ["thing"] aW rfl fun f _ A _ s H E nd hr=>by delta oS;repeat' walk_at "Q"
noncomputable def iw:GS:=(aH (dz (aj 1 lr (aa (af 0) ai)) (oQ lL lL (af 1) (af 0) (af 2))))
noncomputable def bp:FD:=bv 0 iw
theorem cw (T:TX P w K mg base):Ok P w K mg base "is_within" 2 3 bp:=bX (bW T.f 24 rfl) ["thing","low","high"] aW rfl fun f _ A _ s H E nd hr=>by have:=wg T;delta iw;repeat' walk_at "Q"
noncomputable def jm:GS:=(ax (fJ (hW (cH (dG (eQ "tuple" (af 0)))) (aZ (g2 (bj true) (aC bx (aa (af 0) ai)) (gC (.int 4))))) (aH (gC (.bl false))) aX) (ax (i3 (dU [1,2,3,4]) (af 0)) (aH (dz (aj 3 bp (aa (af 1) (aa (gC (.int 1)) (aa (gC (.int 40)) ai)))) (dz (aj 3 bp (aa (af 2) (aa (gC (.int 1)) (aa (gC (.int 40)) ai)))) (dz (aj 3 bp (aa (af 3) (aa (gC (.int 0)) (aa (gC (.int 20)) ai)))) (aj 3 bp (aa (af 4) (aa (gC (.int 0)) (aa (gC (.int 12)) ai))))))))))
noncomputable def lK:FD:=bv 4 jm
theorem ve (T:TX P w K mg base):Ok P w K mg base "is_frame" 3 1 lK:=bX (bW T.f 25 rfl) ["thing","wide","high","gap","most"] aW rfl fun f _ A _ s H E nd hr=>by have:=cw T;delta jm;repeat' walk_at "Q"
noncomputable def uM:GS:=(aH (aj 3 bp (aa (af 0) (aa (gC (.int 0)) (aa (gC (.int 15)) ai)))))
noncomputable def jY:FD:=bv 0 uM
theorem rW (T:TX P w K mg base):Ok P w K mg base "is_ink" 3 1 jY:=bX (bW T.f 26 rfl) ["thing"] aW rfl fun f _ A _ s H E nd hr=>by have:=cw T;delta uM;repeat' walk_at "Q"
noncomputable def fG:GE:=(aj 1 jY (aa (af 0) ai))
noncomputable def gG:GS:=(aH (dz (eQ "tuple" (af 0)) (aC jG (aa (aM (bq (af 0)) aU fG aA) ai))))
noncomputable def jf:FD:=bv 0 gG
theorem qq (T:TX P w K mg base):Ok P w K mg base "is_ink_row" 4 1 jf:=bX (bW T.f 27 rfl) ["thing"] aW rfl fun f _ A _ s H E nd hr=>by have:=rW T;delta gG fG;repeat' walk_at "Q"
noncomputable def dQ:GE:=(aj 1 jf (aa (af 0) ai))
noncomputable def cQ:GE:=(g2 (bj false) (aC bx (aa (af 0) ai)) (af 3))
noncomputable def eO:GS:=(ax (fJ (hW (cH (dG (eQ "tuple" (af 0)))) (cH (aZ (oQ lL lL (gC (.int 1)) (aC bx (aa (af 0) ai)) (af 1))))) (aH (gC (.bl false))) aX) (ax (fJ (cH (dG (aC jG (aa (aM (bq (af 0)) aU dQ aA) ai)))) (aH (gC (.bl false))) aX) (ax (aF 2 (aC bx (aa (g2 bt (af 0) (gC (.int 0))) ai))) (aH (dz (oQ lL lL (gC (.int 1)) (af 2) (af 1)) (aC jG (aa (aM (bq (af 0)) aU cQ aA) ai)))))))
noncomputable def eA:FD:=bv 1 eO
theorem jF (T:TX P w K mg base):Ok P w K mg base "is_ink_block" 5 2 eA:=bX (bW T.f 28 rfl) ["thing","most","length"] aW rfl fun f _ A _ s H E nd hr=>by have:=qq T;delta eO dQ cQ;repeat' walk_at "Q"
noncomputable def jz:GS:=(aH (aj 2 eA (aa (af 0) (aa (gC (.int 8)) ai))))
noncomputable def kX:FD:=bv 0 jz
theorem vF (T:TX P w K mg base):Ok P w K mg base "is_shape" 6 1 kX:=bX (bW T.f 29 rfl) ["thing"] aW rfl fun f _ A _ s H E nd hr=>by have:=jF T;delta jz;repeat' walk_at "Q"
noncomputable def js:GE:=(aj 1 kX (aa (af 0) ai))
noncomputable def kG:GS:=(aH (dz (eQ "tuple" (af 0)) (dz (g2 lL (aC bx (aa (af 0) ai)) (gC (.int 8))) (aC jG (aa (aM (bq (af 0)) aU js aA) ai)))))
noncomputable def nj:FD:=bv 0 kG
theorem wJ (T:TX P w K mg base):Ok P w K mg base "is_book" 7 1 nj:=bX (bW T.f 30 rfl) ["thing"] aW rfl fun f _ A _ s H E nd hr=>by have:=vF T;delta kG js;repeat' walk_at "Q"
noncomputable def db:GS:=(aH (EG (g2 (sL false) (af 1) (gC .non)) (aj 3 bp (aa (af 1) (aa (gC (.int 0)) (aa (g2 nu (aC bx (aa (af 0) ai)) (gC (.int 1))) ai))))))
noncomputable def cx:FD:=bv 0 db
theorem gN (T:TX P w K mg base):Ok P w K mg base "is_shape_number" 3 2 cx:=bX (bW T.f 31 rfl) ["book","thing"] aW rfl fun f _ A _ s H E nd hr=>by have:=cw T;delta db;repeat' walk_at "Q"
noncomputable def iW:GE:=(aj 3 bp (aa (af 0) (aa (sv (gC (.int 1000))) (aa (gC (.int 1000)) ai))))
noncomputable def cR:GS:=(aH (dz (eQ "tuple" (af 0)) (dz (g2 (bj false) (aC bx (aa (af 0) ai)) (gC (.int 2))) (aC jG (aa (aM (bq (af 0)) aU iW aA) ai)))))
noncomputable def aS:FD:=bv 0 cR
theorem dC (T:TX P w K mg base):Ok P w K mg base "is_place_pair" 3 1 aS:=bX (bW T.f 32 rfl) ["thing"] aW rfl fun f _ A _ s H E nd hr=>by have:=cw T;delta cR iW;repeat' walk_at "Q"
noncomputable def rY:GS:=(aH (aj 3 bp (aa (af 0) (aa (gC (.int 0)) (aa (gC (.int 3)) ai)))))
noncomputable def iR:FD:=bv 0 rY
theorem pF (T:TX P w K mg base):Ok P w K mg base "is_rank" 3 1 iR:=bX (bW T.f 33 rfl) ["thing"] aW rfl fun f _ A _ s H E nd hr=>by have:=cw T;delta rY;repeat' walk_at "Q"
noncomputable def re:GS:=(aH (aj 3 bp (aa (af 0) (aa (gC (.int 0)) (aa (gC (.int 3)) ai)))))
noncomputable def iS:FD:=bv 0 re
theorem pQ (T:TX P w K mg base):Ok P w K mg base "is_turn" 3 1 iS:=bX (bW T.f 34 rfl) ["thing"] aW rfl fun f _ A _ s H E nd hr=>by have:=cw T;delta re;repeat' walk_at "Q"
noncomputable def jB:GS:=(ax (fJ (hW (cH (dG (eQ "tuple" (af 1)))) (aZ (g2 (bj true) (aC bx (aa (af 1) ai)) (gC (.int 5))))) (aH (gC (.bl false))) aX) (ax (i3 (dU [2,3,4,5,6]) (af 1)) (aH (dz (aj 2 cx (aa (af 0) (aa (af 2) ai))) (dz (aj 1 aS (aa (bT (aa (af 3) (aa (af 4) ai))) ai)) (dz (aj 1 iR (aa (af 5) ai)) (aj 1 iS (aa (af 6) ai))))))))
noncomputable def lI:FD:=bv 5 jB
theorem wc (T:TX P w K mg base):Ok P w K mg base "is_mover" 4 2 lI:=bX (bW T.f 35 rfl) ["book","thing","shape","x","y","rank","turn"] aW rfl fun f _ A _ s H E nd hr=>by have:=gN T;have:=dC T;have:=pF T;have:=pQ T;delta jB;repeat' walk_at "Q"
noncomputable def eW:GE:=(aj 2 lI (aa (af 1) (aa (af 0) ai)))
noncomputable def gD:GS:=(aH (dz (eQ "tuple" (af 1)) (dz (g2 lL (aC bx (aa (af 1) ai)) (gC (.int 12))) (aC jG (aa (aM (bq (af 1)) aU eW aA) ai)))))
noncomputable def jr:FD:=bv 0 gD
theorem qw (T:TX P w K mg base):Ok P w K mg base "are_movers" 5 2 jr:=bX (bW T.f 36 rfl) ["book","thing"] aW rfl fun f _ A _ s H E nd hr=>by have:=wc T;delta gD eW;repeat' walk_at "Q"
noncomputable def vC:GS:=(aH (aj 3 bp (aa (af 0) (aa (gC (.int 0)) (aa (gC (.int 63)) ai)))))
noncomputable def j6:FD:=bv 0 vC
theorem rV (T:TX P w K mg base):Ok P w K mg base "is_hue" 3 1 j6:=bX (bW T.f 37 rfl) ["thing"] aW rfl fun f _ A _ s H E nd hr=>by have:=cw T;delta vC;repeat' walk_at "Q"
noncomputable def iB:GE:=(aj 1 j6 (aa (af 0) ai))
noncomputable def jA:GS:=(aH (dz (eQ "tuple" (af 0)) (dz (g2 (bj false) (aC bx (aa (af 0) ai)) (gC (.int 16))) (aC jG (aa (aM (bq (af 0)) aU iB aA) ai)))))
noncomputable def lC:FD:=bv 0 jA
theorem vn (T:TX P w K mg base):Ok P w K mg base "are_pots" 4 1 lC:=bX (bW T.f 38 rfl) ["thing"] aW rfl fun f _ A _ s H E nd hr=>by have:=rV T;delta jA iB;repeat' walk_at "Q"
noncomputable def ju:GS:=(ax (fJ (hW (cH (dG (eQ "tuple" (af 0)))) (aZ (g2 (bj true) (aC bx (aa (af 0) ai)) (gC (.int 5))))) (aH (gC (.bl false))) aX) (ax (i3 (dU [1,2,3,4,5]) (af 0)) (ax (fJ (cH (fH (dG (aj 2 eA (aa (af 1) (aa (gC (.int 16)) ai)))) (fH (dG (aj 1 aS (aa (af 2) ai))) (dG (aj 1 lC (aa (af 5) ai)))))) (aH (gC (.bl false))) aX) (aH (dz (aj 1 nj (aa (af 3) ai)) (aj 2 jr (aa (af 3) (aa (af 4) ai))))))))
noncomputable def k8:FD:=bv 5 ju
theorem vB (T:TX P w K mg base):Ok P w K mg base "is_stand" 8 1 k8:=bX (bW T.f 39 rfl) ["thing","floor","shift","book","movers","pots"] aW rfl fun f _ A _ s H E nd hr=>by have:=jF T;have:=wJ T;have:=dC T;have:=qw T;have:=vn T;delta ju;repeat' walk_at "Q"
noncomputable def nH:GS:=(ax (i3 (dU [1,2,3,4]) (af 0)) (aH (g2 bh (af 1) (af 3))))
noncomputable def nG:FD:=bv 4 nH
theorem sD (T:TX P w K mg base):Ok P w K mg base "row_ticks" 1 1 nG:=bX (bW T.f 40 rfl) ["frame","wide","high","gap","most"] aW rfl fun f _ A _ s H E nd hr=>by delta nH;repeat' walk_at "Q"
noncomputable def o5:GS:=(ax (i3 (dU [1,2,3,4]) (af 0)) (aH (g2 d9 (af 2) (aj 1 nG (aa (af 0) ai)))))
noncomputable def jd:FD:=bv 4 o5
theorem wn (T:TX P w K mg base):Ok P w K mg base "ticks_of" 2 1 jd:=bX (bW T.f 41 rfl) ["frame","wide","high","gap","most"] aW rfl fun f _ A _ s H E nd hr=>by have:=sD T;delta o5;repeat' walk_at "Q"
noncomputable def iL:GE:=(af 0)
noncomputable def fz:GE:=(oQ lL p0 (gC (.int 0)) (af 0) (aj 1 jd (aa (af 1) ai)))
noncomputable def gE:GS:=(ax (aF 2 (bU (bq (af 1)) 2 (dU [0,1]) aU iL aA)) (aH (dz (g2 (bj false) (af 2) (aC mI (aa (af 2) ai))) (aC jG (aa (aM (bq (af 2)) aU fz aA) ai)))))
noncomputable def jq:FD:=bv 1 gE
theorem qB (T:TX P w K mg base):Ok P w K mg base "ticks_hold" 3 2 jq:=bX (bW T.f 42 rfl) ["frame","timed","ticks"] aW rfl fun f _ A _ s H E nd hr=>by have:=wn T;have:=rn 90 12 ["tick","deed"] ["frame","timed","ticks"];delta gE iL fz;repeat' walk_at "Q"
noncomputable def dP:GS:=(ax (i3 (dU [3,4,5,6,7]) (af 0)) (ax (fJ (cH (dG (aj 3 bp (aa (g2 bt (af 2) (gC (.int 0))) (aa (gC (.int 0)) (aa (g2 nu (aC bx (aa (af 6) ai)) (gC (.int 1))) ai)))))) (aH (gC (.bl false))) aX) (ax (fJ (aZ (g2 (bj false) (af 1) (gC (.str "move")))) (aH (aj 1 aS (aa (zJ (af 2) (iq (gC (.int 1))) df) ai))) aX) (ax (fJ (aZ (g2 (bj true) (aC bx (aa (af 2) ai)) (gC (.int 2)))) (aH (gC (.bl false))) aX) (ax (fJ (aZ (g2 (bj false) (af 1) (gC (.str "shape")))) (aH (aj 2 cx (aa (af 5) (aa (g2 bt (af 2) (gC (.int 1))) ai)))) aX) (ax (fJ (aZ (g2 (bj false) (af 1) (gC (.str "rank")))) (aH (aj 1 iR (aa (g2 bt (af 2) (gC (.int 1))) ai))) aX) (aH (dz (g2 (bj false) (af 1) (gC (.str "turn"))) (aj 1 iS (aa (g2 bt (af 2) (gC (.int 1))) ai))))))))))
noncomputable def dO:FD:=bv 5 dP
theorem m9 (T:TX P w K mg base):Ok P w K mg base "is_mover_deed" 4 3 dO:=bX (bW T.f 43 rfl) ["stand","word","parts","floor","shift","book","movers","pots"] aW rfl fun f _ A _ s H E nd hr=>by have:=cw T;have:=gN T;have:=dC T;have:=pF T;have:=pQ T;delta dP;repeat' walk_at "Q"
noncomputable def qQ:GS:=(ax (fJ (hW (cH (dG (eQ "tuple" (af 1)))) (aZ (g2 p0 (aC bx (aa (af 1) ai)) (gC (.int 3))))) (aH (gC (.bl false))) aX) (ax (xu 2 3 (aa (g2 bt (af 1) (gC (.int 0))) (aa (zJ (af 1) (iq (gC (.int 1))) df) ai))) (ax (fJ (aZ (g2 (bj false) (af 2) (gC (.str "shift")))) (aH (aj 1 aS (aa (af 3) ai))) aX) (ax (fJ (aZ (g2 (bj false) (af 2) (gC (.str "pot")))) (aH (dz (g2 (bj false) (aC bx (aa (af 3) ai)) (gC (.int 2))) (dz (aj 1 jY (aa (g2 bt (af 3) (gC (.int 0))) ai)) (aj 1 j6 (aa (g2 bt (af 3) (gC (.int 1))) ai))))) aX) (aH (aj 3 dO (aa (af 0) (aa (af 2) (aa (af 3) ai)))))))))
noncomputable def cD:FD:=bv 2 qQ
theorem xx (T:TX P w K mg base):Ok P w K mg base "is_deed" 5 2 cD:=bX (bW T.f 44 rfl) ["stand","thing","word","parts"] aW rfl fun f _ A _ s H E nd hr=>by have:=rW T;have:=dC T;have:=rV T;have:=m9 T;delta qQ;repeat' walk_at "Q"
noncomputable def gH:GE:=(aj 1 jl (aa (af 0) ai))
noncomputable def gd:GE:=(aj 2 cD (aa (af 5) (aa (af 1) ai)))
noncomputable def ij:GS:=(ax (fJ (cH (dG (eQ "str" (af 0)))) (cT "NoText" (gC (.str "that is no text"))) aX) (ax (aF 1 (aj 1 dN (aa (af 0) ai))) (ax (aF 2 (aj 1 dA (aa (aj 1 gW (aa (g2 dJ (af 1) (gC (.str "frame"))) ai)) ai))) (ax (aF 3 (aj 1 jk (aa (af 1) ai))) (ax (aF 4 (bM (bq (g2 dJ (af 1) (gC (.str "at")))) 1 (cn 0) aU gH b0)) (ax (fJ (cH (fH (dG (aj 1 lK (aa (af 2) ai))) (fH (dG (aj 1 k8 (aa (af 3) ai))) (dG (aj 2 jq (aa (af 2) (aa (af 4) ai))))))) (cT "NoText" (gC (.str "that writes no plan"))) aX) (ax (fJ (cH (dG (aC jG (aa (bU (bq (af 4)) 2 (dU [0,1]) aU gd aA) ai)))) (cT "NoText" (gC (.str "there is no such deed"))) aX) (ax (fJ (aZ (g2 (bj true) (aj 3 ir (aa (af 2) (aa (af 3) (aa (af 4) ai)))) (af 0))) (cT "NoText" (gC (.str "the plan is not so written"))) aX) (aH (bT (aa (af 2) (aa (af 3) (aa (af 4) ai)))))))))))))
noncomputable def jK:FD:=bv 4 ij
theorem ud (T:TX P w K mg base):Ok P w K mg base "read_plan" 9 1 jK:=bX (bW T.f 45 rfl) ["text","lines","frame","stand","timed"] aW rfl fun f _ A _ s H E nd hr=>by have:=mW T;have:=m7 T;have:=iI T;have:=tm T;have:=qj T;have:=pZ T;have:=ve T;have:=vB T;have:=qB T;have:=xx T;have:=rn 122 12 ["words"] ["text","lines","frame","stand","timed"];have:=rn 125 15 ["tick","deed"] ["text","lines","frame","stand","timed"];delta ij gH gd;repeat' walk_at "Q"
noncomputable def iG:GE:=(g2 yP (af 2) (af 0))
noncomputable def gw:GS:=(ax (aF 1 (gC (.str "0123456789abcdefghijklmnopqrstuvwxyzABCDEFGHIJKLMNOPQRSTUVWXYZ+-"))) (aH (aP cI (gC (.str "")) (aM (iX (af 0)) aU iG aA))))
noncomputable def cL:FD:=bv 1 gw
theorem p9 (T:TX P w K mg base):Ok P w K mg base "_law_signs" 1 1 cL:=bX (bW T.f 46 rfl) ["numbers","signs"] aW rfl fun f _ A _ s H E nd hr=>by delta gw iG;repeat' walk_at "Q"
noncomputable def nF:GS:=(aH (g2 bt (eB (aa (aC iZ (aa (af 0) ai)) (aa (gC (.str "off")) ai))) (aC pU (aa (g2 (sL false) (af 0) (gC .non)) ai))))
noncomputable def iF:FD:=bv 0 nF
theorem uD (T:TX P w K mg base):Ok P w K mg base "_law_said" 1 1 iF:=bX (bW T.f 47 rfl) ["part"] aW rfl fun f _ A _ s H E nd hr=>by delta nF;repeat' walk_at "Q"
noncomputable def cX:GE:=(aC iZ (aa (af 0) ai))
noncomputable def cW:GE:=(aj 1 cL (aa (af 0) ai))
noncomputable def ef:GE:=(aj 1 cL (aa (af 0) ai))
noncomputable def cY:GS:=(gP (kL (af 8) (g2 bh (gC (.str "shape ")) (aP cI (gC (.str "/")) (aM (bq (af 9)) aU ef aA)))))
noncomputable def eh:GE:=(aj 1 iF (aa (af 0) ai))
noncomputable def cZ:GS:=(gP (kL (af 8) (aP cI (gC (.str " ")) (g2 bh (eB (aa (gC (.str "mover")) ai)) (aM (bq (af 10)) aU eh aA)))))
noncomputable def eK:GE:=(aj 1 iF (aa (af 0) ai))
noncomputable def de:GS:=(gP (kL (af 8) (aP cI (gC (.str " ")) (g2 bh (eB (aa (gC (.str "at")) (aa (aC iZ (aa (af 11) ai)) ai))) (aM (bq (af 12)) aU eK aA)))))
noncomputable def cE:GS:=(ax (i3 (dU [3,4,5,6,7]) (af 1)) (ax (aF 8 (i6 (aa (aP cI (gC (.str " ")) (g2 bh (eB (aa (gC (.str "frame")) ai)) (aM (bq (af 0)) aU cX aA))) ai))) (ax (gP (kL (af 8) (g2 bh (gC (.str "floor ")) (aP cI (gC (.str "/")) (aM (bq (af 3)) aU cW aA))))) (ax (aF 8 (g2 p6 (af 8) (eB (aa (g2 bh (g2 bh (g2 bh (gC (.str "shift ")) (aC iZ (aa (g2 bt (af 4) (gC (.int 0))) ai))) (gC (.str " "))) (aC iZ (aa (g2 bt (af 4) (gC (.int 1))) ai))) (aa (g2 bh (gC (.str "pots ")) (aj 1 cL (aa (af 7) ai))) ai))))) (ax (nq (bq (af 5)) (cn 9) cY) (ax (nq (bq (af 6)) (cn 10) cZ) (ax (nq (bq (af 2)) (dU [11,12]) de) (aH (aP cI (gC (.str "\n")) (af 8))))))))))
noncomputable def eV:FD:=fun ds M=>lq M.length (bv 10 cE ds M)
theorem lW (T:TX P w K mg base):Ok P w K mg base "_law_plan_text" 2 3 eV:=Ag (F:=bv 10 cE) <| bX (bW T.f 48 rfl) ["frame","stand","timed","floor","shift","book","movers","pots","rows","shape","mover","tick","deed"] aW rfl fun f _ A _ s H E nd hr=>by have:=p9 T;have:=uD T;delta cE cX cW ef cY eh cZ eK de;repeat' walk_at "Q"
noncomputable def ka:GS:=(ax (aF 9 (aj 1 jK (aa (af 7) ai))) (ax (fJ (hW (cH (dG (eQ "tuple" (af 9)))) (hW (cH (dG (eQ "list" (g2 bt (af 9) (gC (.int 2)))))) (aZ (g2 (sK true) (af 9) (bT (aa (af 3) (aa (af 4) (aa (af 5) ai)))))))) (aH (gC (.bl false))) aX) (gP (uO (g2 bt (af 9) (gC (.int 2)))))))
noncomputable def ko:GS:=(ax (aF 3 (aj 2 gF (aa (af 1) (aa (gC (.int 40)) ai)))) (ax (aF 4 (aj 3 ja (aa (af 1) (aa (af 3) (aa (gC (.int 12)) ai))))) (ax (aF 5 (aj 4 jg (aa (af 1) (aa (af 3) (aa (af 4) (aa (g2 bt (eB (aa (gC (.int 20)) (aa (gC (.int 200)) ai))) (af 2)) ai)))))) (ax (aF 6 (aC mZ (aa (af 5) ai))) (ax (aF 7 (aj 3 ir (aa (af 3) (aa (af 4) (aa (af 6) ai))))) (ax (fJ (hW (aZ (g2 (bj true) (af 7) (aj 3 eV (aa (af 3) (aa (af 4) (aa (af 5) ai)))))) (aZ (g2 (bj true) (af 6) (af 5)))) (aH (gC (.bl false))) aX) (nq (dX (aa (gC (.int 2)) ai)) (cn 8) ka)))))))
noncomputable def xR:GS:=(ax (aF 1 (i6 (aa (aC mZ (aa (af 0) ai)) (aa (gC (.int 0)) (aa (gC (.int 0)) ai))))) (ax (nq (dX (aa (gC (.int 2)) ai)) (cn 2) ko) (aH (gC (.bl true)))))
noncomputable def yg:FD:=bv 9 xR
theorem FL (T:TX P w K mg base){f:Addr}{fd:FuncData}(F:Fn K mg "law" El f fd ["script"]):iT P w K mg base (nQ P w) 10 f fd ["script"] (xw K 1 yg):=IZ F.F (N:=["script","tape","turn","frame","stand","timed","handed","text","again","found"]) aW rfl fun _ A _ s H E hr=>by
 have nd:(["script","tape","turn","frame","stand","timed","handed","text","again","found"]:List Str).Nodup:=by decide +kernel
 have:=qf T;have:=p5 T;have:=pT T;have:=mW T;have:=ud T;have:=lW T;delta xR ka ko;repeat' walk_at "Q"
end
end K22
section
open PySem PySem.W PyProof.Rows
noncomputable abbrev K22.VV:Program:=(view PySem.Challenge.pw_glowrow_k22_whole_plans_there_and_back [1,2,4,5,7,8,9,11,12,13,14,15,17,18,19,20,21,22,23,24,25,26,27,29,31,32,33,34,35,36,37,38,39,40,41,42,43,44,45,46,47,49,50,51,52,53,54,55,56,57,58,59,60,61,62])
set_option maxHeartbeats 0 in
theorem K22.h1:∀(w:World) (os:OsState),(Hd.RT (OpenLaw.row PySem.Challenge.rw_glowrow_k22_whole_plans_there_and_back).prog w 4018 os).map (fun s=>Hd.pA (OpenLaw.row PySem.Challenge.rw_glowrow_k22_whole_plans_there_and_back).prog w.params s.abs&&Hd.pB K22.VV (importedModules (OpenLaw.row PySem.Challenge.rw_glowrow_k22_whole_plans_there_and_back).prog.main.body) (fun s=>xlAt K22.VV [] s&&recOk (RowW.records (OpenRow.toRowW (OpenLaw.row PySem.Challenge.rw_glowrow_k22_whole_plans_there_and_back))) s) s.abs)=some true:=by
 intro w os;unfold Hd.RT;rw[W.Fast.te15732481512506401174,W.Fast.te2530740449226627131,W.Fast.te13930993214811372802];kernel_rfl
set_option maxHeartbeats 0 in
theorem K22.h2:∀(w:World) (os:OsState),(Hd.RT (OpenLaw.row PySem.Challenge.rw_glowrow_k22_whole_plans_there_and_back).prog w 4018 os).map (fun s=>Hd.pC K22.VV s.abs)=some (expectedOf K22.VV,bltViewBooted,wideGood K22.VV):=by
 intro w os;unfold Hd.RT;rw[W.Fast.te15732481512506401174,W.Fast.te2530740449226627131,W.Fast.te7338995916957470747];kernel_rfl
set_option maxHeartbeats 0 in
theorem K22.h3:∀(w:World) (os:OsState),(Hd.RT (OpenLaw.row PySem.Challenge.rw_glowrow_k22_whole_plans_there_and_back).prog w 4018 os).map (fun s=>Hd.pD K22.VV s.abs)=some (pinGoodD (drecsOf K22.VV),plainGoodE K22.VV (looseW K22.VV []),plainGoodD K22.VV [],clsGoodW K22.VV []):=by
 intro w os;unfold Hd.RT;rw[W.Fast.te15732481512506401174,W.Fast.te2530740449226627131,W.Fast.te4913325751328045840];kernel_rfl
local macro_rules | `(tactic| o_head $H) => `(tactic| (
 refine holds_open (q:=K22.VV) (loose:=[]) (Xt:=(fun s=>xlAt K22.VV [] s&&recOk (RowW.records (OpenRow.toRowW (OpenLaw.row PySem.Challenge.rw_glowrow_k22_whole_plans_there_and_back))) s)) (XP:=XL K22.VV []) (Yf:=Hook.obs $H) (Ya:=Hook.val $H) (YP:=Hook.says $H) (N:=4018) ?hl (Hook.of $H) (Hook.keeps $H) (fun s e=>xl_of s (Bool.and_eq_true_iff.mp e).1) XL.keeps (by rfl) (by rfl) (by rfl) (fun s e=>recFacts_of (Bool.and_eq_true_iff.mp e).2) (by rfl) (by first|assumption|decide +kernel) (by decide +kernel) ⟨rfl,rfl,rfl,rfl,rfl,by decide +kernel⟩ ?hw ?hc;
 (case hl=>
  refine Hd.left_k (boot_open (by kernel_rfl) rfl (fun s=>by kernel_rfl)) (fun w=>by kernel_rfl) K22.h1 K22.h2 K22.h3 ?_;intro w os;unfold Hd.RT;rw[W.Fast.te15732481512506401174,W.Fast.te2530740449226627131];kernel_rfl)))
set_option hygiene false
local macro_rules | `(tactic| walk_at "us") => `(tactic| first | rfl | (exfalso; simp at hl; done) | (cases us with | nil => (first | rfl | cases hl) | cons _ us => walk_at "us"))
local macro_rules | `(tactic| walk_at "kc") => `(tactic| refine' DL.kc_mk KX G ?y0 ?y1 ?y2 ?y3 ?y4 ?y5 ?y6; (case y0 => k_is); (case y1 => k_is); (case y2 => k_is); (case y3 => k_is); (case y4 => k_is); (case y5 => k_is); (case y6 => k_is))
local macro_rules | `(tactic| walk_at "ec") => `(tactic| refine' DL.IC KX G ?w0 ?w1 ?w2 ?w3 ?w4 ?w5 ?w6 ?w7 ?w8 ?w9 ?w10 ?w11; (case w0 => k_is); (case w1 => k_is); (case w2 => k_is); (case w3 => k_is); (case w4 => k_is); (case w5 => k_is); (case w6 => k_is); (case w7 => k_is); (case w8 => k_is); (case w9 => k_exc); (case w10 => k_is); (case w11 => k_is))
local macro_rules | `(tactic| walk_at "ff") => `(tactic| (refine' DL.Jb KX G ?x0 ?x1 ?x2 ?x3 ?x4; (case x0 => k_is); (case x1 => k_is); (case x2 => k_is); (case x3 => k_is); (case x4 => (intro _ _ _ _ _ _ us hl; walk_at "us"))))
local macro_rules | `(tactic| walk_at "mf") => `(tactic| (refine' DL.mf_mk ?x0 ?x1 ?x2 ?x3 ?x4 ?x5 ?x6; (case x0 => walk_at "kc"); (case x1 => k_is); (case x2 => k_is); (case x3 => k_is); (case x4 => k_is); (case x5 => k_is); (case x6 => (intro _ _ _ _ _ _ us hl; walk_at "us"))))
local macro_rules | `(tactic| walk_at "im") => `(tactic| (refine' DL.im_mk ?v0 ?v1; (case v0 => walk_at "ec"); (case v1 => k_is)))
set_option maxRecDepth 100000 in
set_option maxHeartbeats 0 in
theorem K22.pre (ht:∀ns:List Int,ns.length≤63→∃M',K22.yg [.ro (ns.map DL.D.int)] []=.ok (.bl true) M'):PySem.Challenge.rw_glowrow_k22_whole_plans_there_and_back.Holds:=by
 w_on;o_law;k_head;(case hw=>w_witness2)
 k_fill
 refine DL.E7 (l:=PySem.Challenge.rw_glowrow_k22_whole_plans_there_and_back) (n:=63) (k:=10) (x:="script") (F:=K22.yg) rfl (by decide) rfl ⟨rfl,by decide,by decide⟩ (fun w h Y=>W.kIn_of Y) ?F ?t1 ?t2 ?t3 ?t4 ht
 case F=>
  intro w mg fa h KX G hmg;refine DL.GN (st:=K22.El) hmg ?L (fun base f fd L=>K22.FL ?TT L) (fun _ _ _ _ _ _ _=>rfl)
  (case TT=>
   refine K22.TX.mk (DL.Tx.mk ?q0 ?q1 ?q2 ?q3 ?q4 ?q5 ?q6 ?q7 ?q8 ?q9) ?tt0
   (case q0=>((repeat (refine' DL.Ls.cons ?x ?_;(case x=>(walk_at "ff"))));exact DL.Ls.nil))
   (case q1=>((repeat (refine' DL.Ls.cons ?x ?_;(case x=>(walk_at "mf"))));exact DL.Ls.nil))
   (case q2=>((repeat (refine' DL.Ls.cons ?x ?_;(case x=>(walk_at "lf"))));exact DL.Ls.nil))
   (case q3=>((repeat (refine' DL.Ls.cons ?x ?_;(case x=>(refine' DL.LO KX G ?x0;(case x0=>k_is)))));exact DL.Ls.nil))
   (case q4=>((repeat (refine' DL.Ls.cons ?x ?_;(case x=>(refine' DL.JM ?x0;(case x0=>walk_at "ec")))));exact DL.Ls.nil))
   (case q5=>((repeat (refine' DL.Ls.cons ?x ?_;(case x=>(refine' DL.Ip ?u0 ?u1;(case u0=>walk_at "ec");(case u1=>((repeat (refine' DL.Ls.cons ?u2 ?_;(case u2=>walk_at "im")));exact DL.Ls.nil))))));exact DL.Ls.nil))
   (case q6=>((repeat (refine' DL.Ls.cons ?x ?_;(case x=>(walk_at "im"))));exact DL.Ls.nil))
   (case q7=>((repeat (refine' DL.Ls.cons ?x ?_;(case x=>(refine' DL.JV ?x0 ?x1;(case x0=>walk_at "kc");(case x1=>k_is)))));exact DL.Ls.nil))
   (case q8=>((repeat (refine' DL.Ls.cons ?x ?_;(case x=>(refine' DL.Jo (u:=PySem.Value.str _) KX G ?x0;(case x0=>k_is)))));exact DL.Ls.nil))
   (case q9=>((repeat (refine' DL.Ls.cons ?x ?_;(case x=>(refine' DL.Jo (u:=PySem.Value.int _) KX G ?x0;(case x0=>k_is)))));exact DL.Ls.nil))
   (case tt0=>(refine' DL.Co KX G ?z0 ?z1 ?z2 ?z3 ?z4;(case z0=>k_is);(case z1=>k_is);(case z2=>rfl);(case z3=>rfl);(case z4=>decide))))
  (case L=>walk_at "ff")
 case t1=>(intro w;k_is)
 case t2=>(intro w;k_is)
 case t3=>(intro w;k_is)
 case t4=>(intro w;k_is)
end
namespace K22
open PySem PySem.Spec PyProof.Rows L2 DL List
local macro_rules | `(tactic| simp_arith [$args,*] $[$loc]?) => `(tactic| first | (dsimp only [aO.bind, ax, aF, fJ, aH, kM, gP, aX, i3, af, gC, DL.g2, aj, aC, aa, ai, aZ, HZ, dG, DJ, hW, fH, cH, dz, EG, vR, nS, bT, eB, i6, oM, aA, b0, sv, oQ, eQ, Ic, vL, az, bv, pq, zT, bh, nu, d9, fN, ie, pV, p0, lL, yj, CS, bt, bE, bx, wz, pU, mZ, bL, jG, bq, mM, dX, cn, dU, mU, iq, df, zJ, lJ, nU, gU, sL, Ie, aU, cT, mT, uX, kL, p6, ue, Bw, mO, uO, xD, xu, aP, oJ, dE, cI, yP, EI, iX, xy] $[$loc]?; simp [ax, aF, fJ, aH, kM, gP, aX, i3, af, gC, DL.g2, aj, aC, aa, ai, aZ, HZ, dG, DJ, hW, fH, cH, dz, EG, vR, nS, bT, eB, i6, oM, aA, b0, sv, oQ, eQ, Ic, vL, az, bv, pq, zT, bh, nu, d9, fN, ie, pV, p0, lL, yj, CS, bt, bE, bx, wz, pU, mZ, bL, jG, bq, mM, dX, cn, dU, mU, iq, df, zJ, lJ, nU, gU, sL, Ie, aU, cT, mT, uX, kL, p6, ue, Bw, mO, uO, xD, xu, aP, oJ, dE, cI, yP, EI, iX, xy, $args,*] $[$loc]?) | simp [ax, aF, fJ, aH, kM, gP, aX, i3, af, gC, DL.g2, aj, aC, aa, ai, aZ, HZ, dG, DJ, hW, fH, cH, dz, EG, vR, nS, bT, eB, i6, oM, aA, b0, sv, oQ, eQ, Ic, vL, az, bv, pq, zT, bh, nu, d9, fN, ie, pV, p0, lL, yj, CS, bt, bE, bx, wz, pU, mZ, bL, jG, bq, mM, dX, cn, dU, mU, iq, df, zJ, lJ, nU, gU, sL, Ie, aU, cT, mT, uX, kL, p6, ue, Bw, mO, uO, xD, xu, aP, oJ, dE, cI, yP, EI, iX, xy, $args,*] $[$loc]?)
noncomputable def tp (l:List Int)(i c:Int):MO:=.lst [.lst (l.map D.int),.int i,.int c]
noncomputable def cF (l:List Int)(ap:au)(M:au):Prop:=∃i c,0≤i∧M=tp l i c::ap
variable{l:List Int}
theorem Ao {k:Int}(h0:0≤k)(h1:k<l.length):∃v,oj (l.map D.int) k=some (.int v):=by
 obtain⟨n,rfl⟩:=Int.eq_ofNat_of_zero_le h0;have hn:n<l.length:=by omega
 exact⟨l[n],ot (by simp[hn])⟩
noncomputable def K7:GS:=ax (aF 4 (g2 ie (g2 bt (af 0) (gC (.int 2))) (af 1))) (ax (kM (af 0) (gC (.int 2)) (g2 fN (g2 bt (af 0) (gC (.int 2))) (af 1))) (aH (af 4)))
noncomputable def KH:GS:=ax (aF 3 (g2 ie (g2 bh (af 3) (g2 d9 (gC (.int 1000003)) (g2 bt (af 0) (gC (.int 1))))) (af 2))) (ax (aF 3 (g2 ie (g2 bh (g2 bh (g2 d9 (af 3) (af 3)) (g2 d9 (gC (.int 1181783497276652981)) (af 3))) (gC (.int 2049848353892358983))) (af 2))) (aF 3 (g2 ie (g2 bh (g2 d9 (af 3) (af 3)) (gC (.int 1442695040888963407))) (af 2))))
noncomputable def K0:GS:=fJ (aZ (g2 yj (aC bx (aa (g2 bt (af 0) (gC (.int 0))) ai)) (gC (.int 0)))) (aF 3 (g2 bt (g2 bt (af 0) (gC (.int 0))) (g2 ie (g2 bt (af 0) (gC (.int 1))) (aC bx (aa (g2 bt (af 0) (gC (.int 0))) ai))))) aX
noncomputable def L9:GT:=hW (aZ (g2 CS (g2 bt (af 0) (gC (.int 1))) (aC bx (aa (g2 bt (af 0) (gC (.int 0))) ai)))) (aZ (g2 p0 (af 3) (g2 pV (gC (.int 10)) (gC (.int 18)))))
noncomputable def K4:GS:=ax (aF 3 (gC (.int 0))) (ax K0 (ax (fJ L9 KH aX) (ax (kM (af 0) (gC (.int 1)) (g2 bh (g2 bt (af 0) (gC (.int 1))) (gC (.int 1)))) (kM (af 0) (gC (.int 2)) (af 3)))))
theorem J4 (ρ:bI)(M:au):ii ρ M=ax (aF 2 (gC (.int 2305843009213693951))) (ax (fJ (aZ (g2 p0 (g2 bt (af 0) (gC (.int 2))) (af 1))) K4 aX) K7) ρ M:=rfl
theorem uc {i j:Int}(h:0<j)(M:au):ie (.int i) (.int j) M=.ok (.int (i % j)) M:=by
 unfold ie;dsimp only;rw[if_pos h]
theorem n9 {i j:Int}(h:-18446744073709551616<i∧i<18446744073709551616)(M:au):d9 (.int i) (.int j) M=.ok (.int (i*j)) M:=by
 unfold d9;dsimp only;rw[if_pos (.inl ⟨Int.lt_of_le_of_lt (by decide) h.1,Int.lt_of_lt_of_le h.2 (by decide)⟩)]
variable{ρ:bI}{M:au}
theorem uu {go gi g:GE}{M1:au}{x:D}(h:g ρ M=.ok x M)(h2:(go ρ M).bind (fun o M2=>(gi ρ M2).bind fun i M3=>(zT o i x M3).bind fun _ M4=>.ok (Fl.nx ρ) M4)=.ok (Fl.nx ρ) M1):kM go gi g ρ M=.ok (.nx ρ) M1:=by
 unfold kM;rw[h,ak,h2]
variable{ap:au}
theorem bg {many:Int}(hm:0<many)(hlog:many.natAbs.log2<9000)(h:cF l ap M) :
  ∃f M',0≤f∧f<many∧cF l ap M'∧aq [.mr 0,.int many] M=.ok (.int f) M':=by
 obtain⟨i,c,hi,rfl⟩:=h;have i0:∀(i c:Int) (x1 x2 x3 x4:Option D),g2 bt (af 0) (gC (.int 0)) [some (.mr 0),x1,x2,x3,x4] (tp l i c::ap)=.ok (.lst (l.map D.int)) (tp l i c::ap):=fun _ _ _ _ _ _=>rfl
 have i1:∀(i c:Int) (x1 x2 x3 x4:Option D),g2 bt (af 0) (gC (.int 1)) [some (.mr 0),x1,x2,x3,x4] (tp l i c::ap)=.ok (.int i) (tp l i c::ap):=fun _ _ _ _ _ _=>rfl
 have i2:∀(i c:Int) (x1 x2 x3 x4:Option D),g2 bt (af 0) (gC (.int 2)) [some (.mr 0),x1,x2,x3,x4] (tp l i c::ap)=.ok (.int c) (tp l i c::ap):=fun _ _ _ _ _ _=>rfl
 have ln:∀(i c:Int) (x1 x2 x3 x4:Option D),aC bx (aa (g2 bt (af 0) (gC (.int 0))) ai) [some (.mr 0),x1,x2,x3,x4] (tp l i c::ap)=.ok (.int (l.length:Int)) (tp l i c::ap):=fun i c x1 x2 x3 x4=>by
  refine eT (i0 i c x1 x2 x3 x4) ?_;show aO.ok (D.int ((l.map D.int).length:Int)) _=_;rw[length_map]
 have tail:∀(c i:Int) (x2 x3 x4:Option D),0≤i→∃f M',0≤f∧f<many∧cF l ap M'∧az (K7 [some (.mr 0),some (.int many),x2,x3,x4] (tp l i c::ap))=.ok (.int f) M':=fun c i x2 x3 x4 hi=>by
  refine⟨c % many,tp l i (c / many)::ap,Int.emod_nonneg _ (by omega),Int.emod_lt_of_pos _ hm,⟨i,c / many,hi,rfl⟩,?_⟩;unfold K7;rw[av (aG (aB (i2 i c (some (.int many)) x2 x3 x4) rfl (uc hm _)))];have fd:fN (.int c) (.int many) (tp l i c::ap)=.ok (.int (c / many)) (tp l i c::ap):=by
   unfold fN;dsimp only;rw[if_pos ⟨hm,hlog⟩]
  have k:kM (af 0) (gC (.int 2)) (g2 fN (g2 bt (af 0) (gC (.int 2))) (af 1)) [some (.mr 0),some (.int many),x2,x3,some (.int (c % many))] (tp l i c::ap)=.ok (.nx [some (.mr 0),some (.int many),x2,x3,some (.int (c % many))]) (tp l i (c / many)::ap):=
   uu (aB (i2 i c (some (.int many)) x2 x3 _) rfl fd) rfl
  exact(congrArg az (av k)).trans rfl
 show∃f M',_∧_∧_∧az (ii [some (.mr 0),some (.int many),none,none,none] (tp l i c::ap))=_;rw[J4];have e0:∀b:GS,ax (aF 2 (gC (.int 2305843009213693951))) b [some (.mr 0),some (.int many),none,none,none] (tp l i c::ap)=b [some (.mr 0),some (.int many),some (.int 2305843009213693951),none,none] (tp l i c::ap):=fun b=>av rfl
 rw[e0];have tst:aZ (g2 p0 (g2 bt (af 0) (gC (.int 2))) (af 1)) [some (.mr 0),some (.int many),some (.int 2305843009213693951),none,none] (tp l i c::ap)=.ok (decide (c<many)) (tp l i c::ap):=bD (aB (i2 i c _ _ _ _) rfl rfl)
 by_cases h1:c<many
 ·rw[decide_eq_true h1] at tst;obtain⟨v,ev⟩:∃v:Int,K0 [some (.mr 0),some (.int many),some (.int 2305843009213693951),some (.int 0),none] (tp l i c::ap)=.ok (.nx [some (.mr 0),some (.int many),some (.int 2305843009213693951),some (.int v),none]) (tp l i c::ap):=by
   unfold K0;have t0:aZ (g2 yj (aC bx (aa (g2 bt (af 0) (gC (.int 0))) ai)) (gC (.int 0))) [some (.mr 0),some (.int many),some (.int 2305843009213693951),some (.int 0),none] (tp l i c::ap)=.ok (decide ((l.length:Int)>0)) (tp l i c::ap):=bD (aB (ln i c _ _ _ _) rfl rfl)
   by_cases hl:(l.length:Int)>0
   ·rw[decide_eq_true hl] at t0;obtain⟨v,hv⟩:=Ao (l:=l) (Int.emod_nonneg _ (by omega)) (Int.emod_lt_of_pos _ hl);refine⟨v,(du t0).trans (aG (aB (f:=bt) (i0 i c _ _ _ _) (aB (i1 i c _ _ _ _) (ln i c _ _ _ _) (uc hl _)) ?_))⟩;show(match oj (l.map D.int) (i % (l.length:Int)) with|some d=>aO.ok d (tp l i c::ap)|none=>.bad)=_;rw[hv]
   ·rw[decide_eq_false hl] at t0;exact⟨0,(cz t0).trans rfl⟩
  have bd:∀x:Int,-18446744073709551616<x % 2305843009213693951∧x % 2305843009213693951<18446744073709551616:=fun x=>by
   have h0:=Int.emod_nonneg x (show(2305843009213693951:Int)≠0 by decide);have h1:=Int.emod_lt_of_pos x (show(0:Int)<2305843009213693951 by decide);omega
  have md:∀x:Int,∀M,ie (.int x) (.int 2305843009213693951) M=.ok (.int (x % 2305843009213693951)) M:=fun x M=>uc (by decide) M
  obtain⟨u,eu⟩:∃u:Int,fJ L9 KH aX [some (.mr 0),some (.int many),some (.int 2305843009213693951),some (.int v),none] (tp l i c::ap)=.ok (.nx [some (.mr 0),some (.int many),some (.int 2305843009213693951),some (.int u),none]) (tp l i c::ap):=by
   have po:∀ρ,g2 pV (gC (.int 10)) (gC (.int 18)) ρ (tp l i c::ap)=.ok (.int (10 ^ 18)) (tp l i c::ap):=fun ρ=>by
    refine aB rfl rfl ?_;unfold pV;dsimp only;rw[if_pos (by decide)];rfl
   have to:=et (bD (aB (f:=CS) (i1 i c (some (.int many)) (some (.int 2305843009213693951)) (some (.int v)) none) (ln i c _ _ _ _) rfl)) fun _=>bD (aB (f:=p0) (a:=af 3) rfl (po _) rfl)
   generalize (decide (i≥(l.length:Int))||decide (v<10 ^ 18))=b at to;cases b with
   | false=>exact⟨v,(cz to).trans rfl⟩
   | true=>
    suffices hs:∃u:Int,KH [some (.mr 0),some (.int many),some (.int 2305843009213693951),some (.int v),none] (tp l i c::ap)=.ok (.nx [some (.mr 0),some (.int many),some (.int 2305843009213693951),some (.int u),none]) (tp l i c::ap) from hs.elim fun u e=>⟨u,(du to).trans e⟩
    unfold KH;rw[av (aG (aB (aB (f:=bh) (a:=af 3) rfl (aB (f:=d9) (a:=gC (.int 1000003)) rfl (i1 i c _ _ _ _) (n9 (by decide) _)) rfl) rfl (md _ _)))];generalize hz:(v+1000003*i) % 2305843009213693951=z;have bz:=hz▸bd (v+1000003*i);have k2:aF 3 (g2 ie (g2 bh (g2 bh (g2 d9 (af 3) (af 3)) (g2 d9 (gC (.int 1181783497276652981)) (af 3))) (gC (.int 2049848353892358983))) (af 2)) [some (.mr 0),some (.int many),some (.int 2305843009213693951),some (.int z),none] (tp l i c::ap)=.ok (.nx [some (.mr 0),some (.int many),some (.int 2305843009213693951),some (.int ((z*z+1181783497276652981*z+2049848353892358983) % 2305843009213693951)),none]) (tp l i c::ap):=
     aG (aB (aB (f:=bh) (aB (f:=bh) (aB (f:=d9) (a:=af 3) rfl rfl (n9 bz _)) (aB (f:=d9) (a:=gC (.int 1181783497276652981)) rfl rfl (n9 (by decide) _)) rfl) rfl rfl) rfl (md _ _))
    refine Exists.imp (fun u e=>(av k2).trans e) ?_;generalize hy:(z*z+1181783497276652981*z+2049848353892358983) % 2305843009213693951=y;have byy:=hy▸bd (z*z+1181783497276652981*z+2049848353892358983);exact⟨_,aG (aB (aB (f:=bh) (aB (f:=d9) (a:=af 3) rfl rfl (n9 byy _)) rfl rfl) rfl (md _ _))⟩
  have kb:K4 [some (.mr 0),some (.int many),some (.int 2305843009213693951),none,none] (tp l i c::ap)=.ok (.nx [some (.mr 0),some (.int many),some (.int 2305843009213693951),some (.int u),none]) (tp l (i+1) u::ap):=by
   unfold K4;have e3:∀b:GS,ax (aF 3 (gC (.int 0))) b [some (.mr 0),some (.int many),some (.int 2305843009213693951),none,none] (tp l i c::ap)=b [some (.mr 0),some (.int many),some (.int 2305843009213693951),some (.int 0),none] (tp l i c::ap):=fun b=>av rfl
   rw[e3,av ev,av eu];have k1:kM (af 0) (gC (.int 1)) (g2 bh (g2 bt (af 0) (gC (.int 1))) (gC (.int 1))) [some (.mr 0),some (.int many),some (.int 2305843009213693951),some (.int u),none] (tp l i c::ap)=.ok (.nx [some (.mr 0),some (.int many),some (.int 2305843009213693951),some (.int u),none]) (tp l (i+1) c::ap):=
    uu (aB (i1 i c _ _ _ _) rfl rfl) rfl
   rw[av k1];exact uu rfl rfl
  rw[av ((du tst).trans kb)];exact tail u (i+1) _ _ _ (by omega)
 ·rw[decide_eq_false h1] at tst;rw[av ((cz tst).trans rfl)];exact tail c i _ _ _ hi
theorem aN {x:Int}(h0:0<x)(h1:x≤1000000):x.natAbs.log2<9000:=by
 have h2:x.natAbs<2 ^ 20:=by omega
 have h3:x.natAbs≠0:=by omega
 have:=(Nat.log2_lt h3).mpr h2;omega
variable{most:Int}
theorem oo (hm:1≤most)(hm2:most≤1000)(h:cF l ap M) :
  ∃f M',1≤f∧f≤most∧cF l ap M'∧dq [.mr 0,.int most] M=.ok (.int f) M':=by
 have lg:∀x:Int,0<x→x≤1000→x.natAbs.log2<9000:=fun x h0 h1=>by
  have h2:x.natAbs<2 ^ 10:=by omega
  have h3:x.natAbs≠0:=by omega
  have:=(Nat.log2_lt h3).mpr h2;omega
 have hmin:0<(if 6<most then 6 else most)∧(if 6<most then 6 else most)≤most∧(if 6<most then(6:Int) else most)≤1000:=by split <;> omega
 obtain⟨f1,M1,a1,b1,t1,e1⟩:=bg hmin.1 (lg _ hmin.1 hmin.2.2) h;obtain⟨f2,M2,a2,b2,t2,e2⟩:=bg (many:=most) (by omega) (lg _ (by omega) hm2) t1;obtain⟨f3,M3,a3,b3,t3,e3⟩:=bg (many:=8) (by decide) (lg _ (by decide) (by decide)) t2;have l3:(3:Nat)≤sizeLine:=aQ (by decide);have hix:0≤f3*3 / 10∧f3*3 / 10<3:=by omega
 have c3:Nat.log2 10<9000:=by decide
 have c4:-18446744073709551616<f3∧f3<18446744073709551616:=by omega
 have pick:∃f,1≤f∧f≤most∧∃y,f=1+y∧oj [D.int f1,D.int f2,D.int (most-1)] (f3*3 / 10)=some (.int y):=by
  have:f3*3 / 10=0∨f3*3 / 10=1∨f3*3 / 10=2:=by omega
  rcases this with q|q|q <;> rw[q]
  ·exact⟨1+f1,by omega,by omega,f1,rfl,rfl⟩
  ·exact⟨1+f2,by omega,by omega,f2,rfl,rfl⟩
  ·exact⟨1+(most-1),by omega,by omega,most-1,rfl,rfl⟩
 obtain⟨f,hf1,hf2,y,ey,ha⟩:=pick;refine⟨f,M3,hf1,hf2,t3,?_⟩;unfold dq km;simp_arith [e1,e2,e3,l3,c3,c4,ha,ey]
theorem CM {wide thin:Int}(hw:0≤wide)(hw2:wide≤1000)(ht:1≤thin)(ht2:thin≤1000)(h:cF l ap M) :
  ∃(ks:List Int) (M':au),(ks.length:Int)=wide∧(∀k∈ks,0≤k∧k≤15)∧cF l ap M'∧iC [.mr 0,.int wide,.int thin] M=.ok (.tup (ks.map D.int)) M':=by
 obtain⟨es,M',t',le,qe,ee⟩:=gM (ds0:=a9 0 wide.toNat) (ge:=eI) (ρ:=[some (.mr 0),some (.int wide),some (.int thin)])
  (P:=cF l ap) (Q:=fun e=>∃k,e=.int k∧0≤k∧k≤15) (a9 0 wide.toNat) (fun d hd M hM=>by
   obtain⟨f1,M1,a1,b1,t1,e1⟩:=bg (many:=16) (by decide) (aN (by decide) (by decide)) hM;obtain⟨f2,M2,a2,b2,t2,e2⟩:=bg (many:=thin) (by omega) (aN (by omega) (by omega)) t1;have c4:-18446744073709551616<f1∧f1<18446744073709551616:=by omega
   by_cases hz:0<f2
   ·exact⟨.int (f1*1),M2,t2,⟨_,rfl,by omega,by omega⟩,by simp_arith [eI,e1,e2,c4,hz]⟩
   ·exact⟨.int (f1*0),M2,t2,⟨_,rfl,by omega,by omega⟩,by simp_arith [eI,e1,e2,c4,hz]⟩) M h
 obtain⟨ks,ek,qk⟩:=CD qe;refine⟨ks,M',?_,qk,t',?_⟩
 ·have:ks.length=es.length:=by rw[ek];simp
  rw[bu] at le;omega
 ·have l3:es.length≤sizeLine:=by rw[le,bu];exact aQ (by omega)
  have l4:ks.length≤sizeLine:=by rw[ek] at l3;simpa using l3
  have b1:=fun M=>uq (j:=wide) (by omega) M
  unfold iC jS;simp_arith [aM,b1,ee,l4,ek]
theorem vX (hm:1≤most)(hm2:most≤1000)(h:cF l ap M) :
  ∃(rs:List (List Int)) (w:Nat) (M':au),1≤rs.length∧(rs.length:Int)≤most∧1≤w∧(w:Int)≤most∧(∀r∈rs,r.length=w∧∀k∈r,0≤k∧k≤15)∧cF l ap M'∧
   eC [.mr 0,.int most] M=.ok (.tup (rs.map fun r=>D.tup (r.map D.int))) M':=by
 obtain⟨wide,M1,w1,w2,t1,e1⟩:=oo hm hm2 h;obtain⟨f4,M2,a2,b2,t2,e2⟩:=bg (many:=4) (by decide) (aN (by decide) (by decide)) t1;obtain⟨high,M3,h1,h2,t3,e3⟩:=oo hm hm2 t2;obtain⟨es,M',t',le,qe,ee⟩:=gM (ds0:=a9 0 high.toNat) (ge:=fF) (ρ:=[some (.mr 0),some (.int most),some (.int wide),some (.int (1+f4))])
  (P:=cF l ap) (Q:=fun e=>∃ks:List Int,e=.tup (ks.map D.int)∧(ks.length:Int)=wide∧∀k∈ks,0≤k∧k≤15) (a9 0 high.toNat) (fun d hd M hM=>by
   obtain⟨ks,M1,lk,qk,t1,e1⟩:=CM (wide:=wide) (thin:=1+f4) (by omega) (by omega) (by omega) (by omega) hM;exact⟨_,M1,t1,⟨ks,rfl,lk,qk⟩,by simp_arith [fF,e1]⟩) M3 t3
 obtain⟨rs,er,qr⟩:=Eb qe;refine⟨rs,wide.toNat,M',?_,?_,by omega,by omega,fun r hr=>⟨by have:=(qr r hr).1;omega,(qr r hr).2⟩,t',?_⟩
 ·have:rs.length=es.length:=by rw[er];simp
  rw[bu] at le;omega
 ·have:rs.length=es.length:=by rw[er];simp
  rw[bu] at le;omega
 ·have l3:es.length≤sizeLine:=by rw[le,bu];exact aQ (by omega)
  have l4:rs.length≤sizeLine:=by rw[er] at l3;simpa using l3
  have b1:=fun M=>uq (j:=high) (by omega) M
  unfold eC jh;simp_arith [aM,b1,e1,e2,e3,ee,l4,er]
theorem AR (hm:1≤most)(hm2:most≤1000)(h:cF l ap M) :
  ∃(w hh g m:Int) (M':au),(1≤w∧w≤most)∧(1≤hh∧hh≤most)∧(0≤g∧g≤20)∧(0≤m∧m≤12)∧cF l ap M'∧gF [.mr 0,.int most] M=.ok (.tup [.int w,.int hh,.int g,.int m]) M':=by
 obtain⟨f1,M1,a1,b1,t1,e1⟩:=bg (many:=21) (by decide) (aN (by decide) (by decide)) h;obtain⟨f2,M2,a2,b2,t2,e2⟩:=bg (many:=2) (by decide) (aN (by decide) (by decide)) t1;obtain⟨w,M3,a3,b3,t3,e3⟩:=oo hm hm2 t2;obtain⟨hh,M4,a4,b4,t4,e4⟩:=oo hm hm2 t3;obtain⟨m,M5,a5,b5,t5,e5⟩:=bg (many:=13) (by decide) (aN (by decide) (by decide)) t4;have l3:(2:Nat)≤sizeLine:=aQ (by decide);have l4:(4:Nat)≤sizeLine:=aQ (by decide);have pick:∃g,0≤g∧g≤20∧oj [D.int 0,D.int f1] f2=some (.int g):=by
  have:f2=0∨f2=1:=by omega
  rcases this with q|q <;> rw[q]
  ·exact⟨0,by omega,by omega,rfl⟩
  ·exact⟨f1,by omega,by omega,rfl⟩
 obtain⟨g,g1,g2,ha⟩:=pick;refine⟨w,hh,g,m,M5,⟨a3,b3⟩,⟨a4,b4⟩,⟨g1,g2⟩,⟨a5,by omega⟩,t5,?_⟩;unfold gF je;simp_arith [e1,e2,e3,e4,e5,l3,l4,ha]
theorem nk {size:Int}(hm:0≤size)(hm2:size≤900)(h:cF l ap M) :
  ∃(f:Int) (M':au),(-1000≤f∧f≤1000)∧cF l ap M'∧bn [.mr 0,.int size] M=.ok (.int f) M':=by
 obtain⟨f1,M1,a1,b1,t1,e1⟩:=bg (many:=size+16) (by omega) (aN (by omega) (by omega)) h;obtain⟨f2,M2,a2,b2,t2,e2⟩:=bg (many:=2001) (by decide) (aN (by decide) (by decide)) t1;obtain⟨f3,M3,a3,b3,t3,e3⟩:=bg (many:=8) (by decide) (aN (by decide) (by decide)) t2;have l3:(2:Nat)≤sizeLine:=aQ (by decide);have c3:Nat.log2 7<9000:=by decide
 have pick:∃g,-1000≤g∧g≤1000∧oj [D.int (f1-8),D.int (f2-1000)] (f3 / 7)=some (.int g):=by
  have:f3 / 7=0∨f3 / 7=1:=by omega
  rcases this with q|q <;> rw[q]
  ·exact⟨_,by omega,by omega,rfl⟩
  ·exact⟨_,by omega,by omega,rfl⟩
 obtain⟨g,g1,g2,ha⟩:=pick;refine⟨g,M3,⟨g1,g2⟩,t3,?_⟩;unfold bn lj;simp_arith [e1,e2,e3,l3,c3,ha]
structure Mv where
 shape:Option Nat
 x:Int
 y:Int
 rank:Int
 turn:Int
noncomputable def Mv.d (m:Mv):D:=.tup [match m.shape with|some k=>.int k|none=>.non,.int m.x,.int m.y,.int m.rank,.int m.turn]
structure zb (n:Nat)(m:Mv):Prop where
 s:∀k,m.shape=some k→k<n
 x:-1000≤m.x∧m.x≤1000
 y:-1000≤m.y∧m.y≤1000
 r:0≤m.rank∧m.rank≤3
 t:0≤m.turn∧m.turn≤3
theorem Br {a b:Int}(h:b<a):yj (.int a) (.int b) M=.ok (.bl true) M:=by
 show aO.ok (D.bl (decide (a>b))) M=_;rw[decide_eq_true h]
theorem EL {a b:Int}(h:¬b<a):yj (.int a) (.int b) M=.ok (.bl false) M:=by
 show aO.ok (D.bl (decide (a>b))) M=_;rw[decide_eq_false h]
theorem De {a b:GT}{M1:au}(ha:a ρ M=.ok false M1):fH a b ρ M=.ok false M1:=by
 unfold fH;rw[ha,ak];rfl
theorem uK {a b:GT}{M1:au}{y:Bool}(ha:a ρ M=.ok true M)(hb:b ρ M=.ok y M1):fH a b ρ M=.ok y M1:=by
 unfold fH;rw[ha,ak];exact hb
variable{gi:GI}{ge:GE}{ds:List D}
theorem ou {es:List D}{M1 M2:au}(hi:gi ρ M=.ok ⟨ds,none⟩ M1)(he:eS ⟨ds,none⟩ aU ge ds ρ M1=.ok es M2)(hl:es.length≤1000000):aM gi aU ge aA ρ M=.ok (.lst es) M2:=by
 unfold aM;rw[hi,ak];dsimp only;rw[he,ak];unfold aA;rw[if_pos (aQ hl)]
variable{w:Int}{more:List D}
theorem xq {hh x y r t:Int}{d2 d3:D}{M2 M3 M4 M5:au}(q1:bn [.mr 0,.int w] M=.ok (.int x) M2)(q2:bn [.mr 0,.int hh] M2=.ok (.int y) M3)(q3:aq [.mr 0,.int 4] M3=.ok (.int r) M4)(q4:aq [.mr 0,.int 4] M4=.ok (.int t) M5) :
  aH (bT (aa (af 3) (aa (aj 2 bn (aa (af 0) (aa (g2 bt (af 1) (gC (.int 0))) ai))) (aa (aj 2 bn (aa (af 0) (aa (g2 bt (af 1) (gC (.int 1))) ai))) (aa (aj 2 aq (aa (af 0) (aa (gC (.int 4)) ai))) (aa (aj 2 aq (aa (af 0) (aa (gC (.int 4)) ai))) ai)))))) [some (.mr 0),some (.tup (.int w::.int hh::more)),some d2,some d3] M=.ok (.rt (.tup [d3,.int x,.int y,.int r,.int t])) M5:=
 aJ (dF (aD rfl (aD (bC rfl (aB rfl rfl (kE rfl)) q1) (aD (bC rfl (aB rfl rfl (kE rfl)) q2) (aD (bC rfl rfl q3) (aD (bC rfl rfl q4) rfl))))))
variable{n:Nat}
theorem vS {hh:Int}(hw:0≤w∧w≤900)(hh2:0≤hh∧hh≤900)(hn:n≤1000)(h:cF l ap M) :
  ∃(m:Mv) (M':au),zb n m∧cF l ap M'∧fY [.mr 0,.tup (.int w::.int hh::more),.int n] M=.ok m.d M':=by
 have go:∀(s:Option Nat) (M:au),cF l ap M→(∀k,s=some k→k<n)→∃(m:Mv) (M':au),zb n m∧m.shape=s∧cF l ap M'∧
   ∃M2 M3 M4,bn [.mr 0,.int w] M=.ok (.int m.x) M2∧bn [.mr 0,.int hh] M2=.ok (.int m.y) M3∧aq [.mr 0,.int 4] M3=.ok (.int m.rank) M4∧aq [.mr 0,.int 4] M4=.ok (.int m.turn) M':=by
  intro s M h hs;obtain⟨x,M2,a2,t2,e2⟩:=nk hw.1 hw.2 h;obtain⟨y,M3,a3,t3,e3⟩:=nk hh2.1 hh2.2 t2;obtain⟨r,M4,a4,b4,t4,e4⟩:=bg (many:=4) (by decide) (aN (by decide) (by decide)) t3;obtain⟨t,M5,a5,b5,t5,e5⟩:=bg (many:=4) (by decide) (aN (by decide) (by decide)) t4;have r3:r≤3:=by omega
  have q3:t≤3:=by omega
  exact⟨⟨s,x,y,r,t⟩,M5,⟨hs,a2,a3,⟨a4,r3⟩,⟨a5,q3⟩⟩,rfl,t5,M2,M3,M4,e2,e3,e4,e5⟩
 by_cases h0:0<n
 ·obtain⟨f1,M1,a1,b1,t1,e1⟩:=bg (many:=8) (by decide) (aN (by decide) (by decide)) h;have h0':(0:Int)<n:=by omega
  by_cases hf:0<f1
  ·obtain⟨f2,M2,a2,b2,t2,e2⟩:=bg (many:=(n:Int)) (by omega) (aN (by omega) (by omega)) t1;obtain⟨k,rfl⟩:=Int.eq_ofNat_of_zero_le a2;obtain⟨m,M',ok,sm,t',M3,M4,M5,q1,q2,q3,q4⟩:=go (some k) M2 t2 (fun j hj=>by cases hj;omega);refine⟨m,M',ok,t',?_⟩;show az (cq [some (.mr 0),some (.tup (.int w::.int hh::more)),some (.int n),none] M)=_;unfold cq;rw[av (aG rfl)];rw[av ((du (uK (bD (aB rfl rfl (Br (by omega)))) (bD (aB (bC rfl rfl e1) rfl (Br hf))))).trans (aG (bC rfl rfl e2)))];refine(congrArg az (xq q1 q2 q3 q4)).trans ?_;unfold Mv.d;rw[sm];rfl
  ·obtain⟨m,M',ok,sm,t',M3,M4,M5,q1,q2,q3,q4⟩:=go none M1 t1 (fun j hj=>by cases hj);refine⟨m,M',ok,t',?_⟩;show az (cq [some (.mr 0),some (.tup (.int w::.int hh::more)),some (.int n),none] M)=_;unfold cq;rw[av (aG rfl)];rw[av ((cz (uK (bD (aB rfl rfl (Br (by omega)))) (bD (aB (bC rfl rfl e1) rfl (EL hf))))).trans rfl)];refine(congrArg az (xq q1 q2 q3 q4)).trans ?_;unfold Mv.d;rw[sm];rfl
 ·have h0':¬(0:Int)<n:=by omega
  obtain⟨m,M',ok,sm,t',M3,M4,M5,q1,q2,q3,q4⟩:=go none M h (fun j hj=>by cases hj);refine⟨m,M',ok,t',?_⟩;show az (cq [some (.mr 0),some (.tup (.int w::.int hh::more)),some (.int n),none] M)=_;unfold cq;rw[av (aG rfl)];rw[av ((cz (De (bD (aB rfl rfl (EL h0'))))).trans rfl)];refine(congrArg az (xq q1 q2 q3 q4)).trans ?_;unfold Mv.d;rw[sm];rfl
theorem oN {α:Type}{f:α→D}{P:α→Prop}:∀{es:List D},(∀e∈es,∃a,e=f a∧P a)→∃as:List α,es=as.map f∧∀a∈as,P a
 | [],_=>⟨[],rfl,fun _ z=>by cases z⟩
 | e::es,h=>by
  obtain⟨a,ea,pa⟩:=h e (mem_cons_self ..);obtain⟨as,eas,pas⟩:=oN fun e' he=>h e' (mem_cons_of_mem _ he)
  refine⟨a::as,by rw[ea,eas];rfl,fun b hb=>?_⟩;rcases mem_cons.mp hb with q|q
  ·rw[q];exact pa
  ·exact pas b q
noncomputable def aI (rs:List (List Int)):D:=.tup (rs.map fun r=>D.tup (r.map D.int))
noncomputable def dD (most:Int)(rs:List (List Int)):Prop:=1≤rs.length∧(rs.length:Int)≤most∧∃w:Nat,1≤w∧(w:Int)≤most∧∀r∈rs,r.length=w∧∀k∈r,0≤k∧k≤15
structure jJ where
 floor:List (List Int)
 sx:Int
 sy:Int
 book:List (List (List Int))
 movers:List Mv
 pots:List Int
noncomputable def jJ.d (s:jJ):D:=.tup [aI s.floor,.tup [.int s.sx,.int s.sy],.tup (s.book.map aI),.tup (s.movers.map Mv.d),.tup (s.pots.map D.int)]
structure o9 (most:Int)(s:jJ):Prop where
 floor:dD 16 s.floor
 sx:-1000≤s.sx∧s.sx≤1000
 sy:-1000≤s.sy∧s.sy≤1000
 bl:s.book.length≤8
 book:∀b∈s.book,dD 8 b
 ml:(s.movers.length:Int)≤most
 movers:∀m∈s.movers,zb s.book.length m
 pl:s.pots.length=16
 pots:∀k∈s.pots,0≤k∧k≤63
theorem cK :ai ρ M=.ok [] M:=rfl
variable{xs:List D}
theorem xC {i:Int}{d:D}(h:oj xs i=some d):bt (.lst xs) (.int i) M=.ok d M:=by
 unfold bt bE;dsimp only;rw[h]
variable{mm:Int}
theorem BL {hh:Int}(hw:0≤w∧w≤900)(hh2:0≤hh∧hh≤900)(hm:0≤mm∧mm≤900)(h:cF l ap M) :
  ∃(s:jJ) (M':au),o9 mm s∧cF l ap M'∧ja [.mr 0,.tup (.int w::.int hh::more),.int mm] M=.ok s.d M':=by
 obtain⟨fl,fw,M1,f1,f2,f3,f4,f5,t1,e1⟩:=vX (most:=16) (by decide) (by decide) h;obtain⟨sx,M2,a2,t2,e2⟩:=nk (size:=9) (by decide) (by decide) t1;obtain⟨sy,M3,a3,t3,e3⟩:=nk (size:=9) (by decide) (by decide) t2;obtain⟨d4,M4,a4,b4,t4,e4⟩:=bg (many:=4) (by decide) (aN (by decide) (by decide)) t3;obtain⟨d5,M5,a5,b5,t5,e5⟩:=bg (many:=9) (by decide) (aN (by decide) (by decide)) t4;obtain⟨d6,M6,a6,b6,t6,e6⟩:=bg (many:=4) (by decide) (aN (by decide) (by decide)) t5;have pick:∃g,0≤g∧g≤8∧oj [D.int d4,D.int d5] (d6 / 3)=some (.int g):=by
  have:d6 / 3=0∨d6 / 3=1:=by omega
  rcases this with q|q <;> rw[q]
  ·exact⟨_,by omega,by omega,rfl⟩
  ·exact⟨_,by omega,by omega,rfl⟩
 obtain⟨g,g1,g2,ha⟩:=pick;obtain⟨eb,M7,t7,lb,qb,ee1⟩:=gM (ds0:=a9 0 g.toNat) (ge:=fe) (ρ:=[some (.mr 0),some (.tup (.int w::.int hh::more)),some (.int mm),some (aI fl),some (.tup [.int sx,.int sy]),some (.int g),none,none])
  (P:=cF l ap) (Q:=fun e=>∃b,e=aI b∧dD 8 b) (a9 0 g.toNat) (fun d hd M hM=>by
   obtain⟨rs,rw',M1,q1,q2,q3,q4,q5,t1,e1⟩:=vX (most:=8) (by decide) (by decide) hM;exact⟨_,M1,t1,⟨rs,rfl,q1,q2,rw',q3,q4,q5⟩,by simp_arith [fe,e1,aI]⟩) M6 t6
 obtain⟨book,hb,okb⟩:=oN qb;have lbk:book.length=g.toNat:=by rw[←bu 0 g.toNat,←lb,hb,length_map]
 obtain⟨d8,M8,a8,b8,t8,e8⟩:=bg (many:=mm+1) (by omega) (aN (by omega) (by omega)) t7;obtain⟨em,M9,t9,lm,qm,ee2⟩:=gM (ds0:=a9 0 d8.toNat) (ge:=fq) (ρ:=[some (.mr 0),some (.tup (.int w::.int hh::more)),some (.int mm),some (aI fl),some (.tup [.int sx,.int sy]),some (.int g),some (.tup (book.map aI)),none])
  (P:=cF l ap) (Q:=fun e=>∃m,e=Mv.d m∧zb book.length m) (a9 0 d8.toNat) (fun d hd M hM=>by
   obtain⟨m,M1,ok,t1,e1⟩:=vS (more:=more) (n:=book.length) hw hh2 (by omega) hM;exact⟨_,M1,t1,⟨m,rfl,ok⟩,by simp_arith [fq,e1]⟩) M8 t8
 obtain⟨movers,hmv,okm⟩:=oN qm;have lmv:movers.length=d8.toNat:=by rw[←bu 0 d8.toNat,←lm,hmv,length_map]
 obtain⟨ep,M10,t10,lp,qp,ee3⟩:=gM (ds0:=a9 0 16) (ge:=fu) (ρ:=[some (.mr 0),some (.tup (.int w::.int hh::more)),some (.int mm),some (aI fl),some (.tup [.int sx,.int sy]),some (.int g),some (.tup (book.map aI)),some (.tup (movers.map Mv.d))])
  (P:=cF l ap) (Q:=fun e=>∃k,e=D.int k∧0≤k∧k≤63) (a9 0 16) (fun d hd M hM=>by
   obtain⟨f1,M1,a1,b1,t1,e1⟩:=bg (many:=64) (by decide) (aN (by decide) (by decide)) hM;exact⟨_,M1,t1,⟨f1,rfl,a1,by omega⟩,by simp_arith [fu,e1]⟩) M9 t9
 obtain⟨pots,hp,okp⟩:=oN qp;have lpt:pots.length=16:=by rw[←bu 0 16,←lp,hp,length_map]
 refine⟨⟨fl,sx,sy,book,movers,pots⟩,M10,⟨⟨f1,f2,fw,f3,f4,f5⟩,a2,a3,?_,okb,?_,okm,lpt,okp⟩,t10,?_⟩
 ·show book.length≤8;omega
 ·show(movers.length:Int)≤mm;omega
 ·rw[hb] at ee1;rw[hmv] at ee2;rw[hp] at ee3;obtain⟨gn,rfl⟩:=Int.eq_ofNat_of_zero_le g1;obtain⟨dn,rfl⟩:=Int.eq_ofNat_of_zero_le a8;rw[Int.toNat_natCast] at ee1 ee2;show az (fP [some (.mr 0),some (.tup (.int w::.int hh::more)),some (.int mm),none,none,none,none,none] M)=_;unfold fP;rw[av (aG (bC rfl rfl e1))];rw[av (aG (dF (aD (bC rfl rfl e2) (aD (bC rfl rfl e3) cK))))];rw[av (aG (aB (fM (aD (bC rfl rfl e4) (aD (bC rfl rfl e5) cK))) (aB (bC rfl rfl e6) rfl (DX (by decide) (by decide) M6)) (xC ha)))];show az (ax _ _ [some (.mr 0),some (.tup (.int w::.int hh::more)),some (.int mm),some (aI fl),some (.tup [.int sx,.int sy]),some (.int gn),none,none] M6)=_;rw[av (aG (eT (F:=bL) (ou (ji (n:=gn) (aD (g:=af 5) rfl cK) (by omega)) ee1 (by rw[length_map];omega)) rfl))];show az (ax _ _ [some (.mr 0),some (.tup (.int w::.int hh::more)),some (.int mm),some (aI fl),some (.tup [.int sx,.int sy]),some (.int gn),some (.tup (book.map aI)),none] M7)=_;rw[av (aG (eT (F:=bL) (ou (ji (n:=dn) (aD (bC rfl rfl e8) cK) (by omega)) ee2 (by rw[length_map];omega)) rfl))];show az (aH _ [some (.mr 0),some (.tup (.int w::.int hh::more)),some (.int mm),some (aI fl),some (.tup [.int sx,.int sy]),some (.int gn),some (.tup (book.map aI)),some (.tup (movers.map Mv.d))] M9)=_;refine(congrArg az (aJ (dF (ds:=[aI fl,.tup [.int sx,.int sy],.tup (book.map aI),.tup (movers.map Mv.d),.tup (pots.map D.int)]) (aD rfl (aD rfl (aD rfl (aD rfl (aD (eT (F:=bL) (ou (ji (n:=16) (aD (g:=gC (.int 16)) rfl cK) (by decide)) ee3 (by rw[length_map];omega)) rfl) rfl)))))))).trans ?_;rfl
variable{lo:Int}
theorem wt {j:Nat}{d:D}(h:(a9 lo n)[j]?=some d):j<n∧d=.int (lo+j):=by
 unfold a9 at h;rw[getElem?_map] at h;cases q:(List.range n)[j]? with
 | none=>rw[q] at h;cases h
 | some k=>
  rw[q] at h;obtain⟨hj,ek⟩:=List.getElem?_eq_some_iff.mp q;rw[length_range] at hj;rw[getElem_range] at ek;subst ek;cases h;exact⟨hj,rfl⟩
theorem Iy {a b c:GE}{x y z:Int}(ha:a ρ M=.ok (.int x) M)(hb:b ρ M=.ok (.int y) M)(hc:x≤y→c ρ M=.ok (.int z) M):oQ lL p0 a b c ρ M=.ok (.bl (decide (x≤y)&&decide (y<z))) M:=by
 unfold oQ;rw[ha,ak,hb,ak];show(aO.ok (D.bl (decide (x≤y))) M).bind _=_;rw[ak]
 by_cases q:x≤y
 ·rw[decide_eq_true q];dsimp only;rw[hc q,ak];rfl
 ·rw[decide_eq_false q];rfl
mutual
theorem mR:∀(d:D) (n:Nat),bw n d=true→nY d d=true
 | .non,n,h=>rfl
 | .bl a,n,h=>beq_self_eq_true a
 | .int a,n,h=>beq_self_eq_true a
 | .str a,n,h=>beq_self_eq_true a
 | .tup xs,n,h=>by
  cases n with
  | zero=>exact ff h
  | succ n=>exact kF xs n h
 | .lst xs,n,h=>by
  cases n with
  | zero=>exact ff h
  | succ n=>exact kF xs n h
 | .ro xs,n,h=>by
  cases n with
  | zero=>exact ff h
  | succ n=>exact kF xs n h
 | .mr a,n,h=>by cases n <;> exact ff h
 | .exc a,n,h=>by cases n <;> exact ff h
 | .any,n,h=>by cases n <;> exact ff h
theorem kF:∀(ds:List D) (n:Nat),bH n ds=true→kN ds ds=true
 | [],n,h=>rfl
 | d::ds,n,h=>
  have h:=Bool.and_eq_true_iff.mp (show(bw n d&&bH n ds)=true from h)
  Bool.and_eq_true_iff.mpr ⟨mR d n h.1,kF ds n h.2⟩
end
theorem bP {n:Nat}:∀{ds:List D},(∀d∈ds,bw n d=true)→bH n ds=true
 | [],_=>rfl
 | d::ds,h=>Bool.and_eq_true_iff.mpr ⟨h d mem_cons_self,bP fun e he=>h e (mem_cons_of_mem _ he)⟩
noncomputable def br (lo hi:Int):D→Bool
 | .int i=>decide (lo≤i)&&decide (i≤hi)
 | _=>false
noncomputable def kZ (d:D):Prop:=∃t,Ic d=some t
theorem jv {g:GE}{d:D}(h:g ρ M=.ok d M):az (aH g ρ M)=.ok d M:=by rw[aJ h];rfl
theorem n8 {a b c:GE}{x y z:Int}(ha:a ρ M=.ok (.int x) M)(hb:b ρ M=.ok (.int y) M)(hc:c ρ M=.ok (.int z) M):oQ lL lL a b c ρ M=.ok (.bl (decide (x≤y)&&decide (y≤z))) M:=by
 unfold oQ;rw[ha,ak,hb,ak];show(aO.ok (D.bl (decide (x≤y))) M).bind _=_;rw[ak]
 by_cases q:x≤y
 ·rw[decide_eq_true q];dsimp only;rw[hc,ak];rfl
 ·rw[decide_eq_false q];rfl
noncomputable def LQ:D→Bool
 | .int _=>true
 | _=>false
theorem cC {d:D}{hi:Int}(h:kZ d):bp [d,.int lo,.int hi] M=.ok (.bl (br lo hi d)) M:=by
 obtain⟨t,ht⟩:=h;have w:lr [d] M=.ok (.bl (LQ d)) M:=by
  cases d <;> first|rfl|cases ht
 clear ht;show az (iw [some d,some (.int lo),some (.int hi)] M)=_;unfold iw;cases d with
 | int i=>exact jv (bA (y:=decide (lo≤i)&&decide (i≤hi)) (aT rfl w) fun _=>n8 rfl rfl rfl)
 | _=>exact jv (bA (y:=false) (aT rfl w) fun z=>by cases z)
theorem tQ (h:∀x∈xs,kZ x)(hl:xs.length≤3000):aS [.tup xs] M=.ok (.bl (decide (xs.length=2)&&xs.all (br (-1000) 1000))) M:=by
 have e:decide ((xs.length:Int)=2)=decide (xs.length=2):=decide_eq_decide.mpr (by omega);rw[←e];show az (cR [some (.tup xs)] M)=_;exact jv (bA (x:=true) rfl fun _=>bA (aB (x:=.int xs.length) rfl rfl (Av _ _ _)) fun _=>jM (fT rfl) (by omega) fun x hx=>dI rfl rfl rfl (cC (h x hx)))
theorem Ce {d:D}(h:kZ d):jY [d] M=.ok (.bl (br 0 15 d)) M:=by
 exact jv (dI rfl rfl rfl (cC h))
theorem An {d:D}(h:kZ d):j6 [d] M=.ok (.bl (br 0 63 d)) M:=by
 exact jv (dI rfl rfl rfl (cC h))
theorem xX {d:D}(h:kZ d):iR [d] M=.ok (.bl (br 0 3 d)) M:=by
 exact jv (dI rfl rfl rfl (cC h))
theorem si {d:D}(h:kZ d):iS [d] M=.ok (.bl (br 0 3 d)) M:=by
 exact jv (dI rfl rfl rfl (cC h))
noncomputable def Bx (n:Nat):D→Bool
 | .non=>true
 | d=>br 0 ((n:Int)-1) d
theorem qW {d:D}{bk:List D}(h:kZ d):cx [.tup bk,d] M=.ok (.bl (Bx bk.length d)) M:=by
 have w:=cC (lo:=0) (hi:=(bk.length:Int)-1) (M:=M) h;obtain⟨t,ht⟩:=h;show az (db [some (.tup bk),some d] M)=_;have w2:=dI (a:=af 1) (b:=gC (.int 0)) (c:=g2 nu (aC bx (aa (af 0) ai)) (gC (.int 1))) (ρ:=[some (.tup bk),some d]) rfl rfl rfl w;clear w;unfold db;cases d with
 | non=>exact jv (Eo (x:=true) (y:=true) rfl fun z=>by cases z)
 | any=>cases ht
 | mr _=>cases ht
 | exc _=>cases ht
 | _=>exact jv (Eo (x:=false) rfl fun _=>w2)
noncomputable def vp:D→Bool
 | .tup xs=>xs.all (br 0 15)
 | _=>false
noncomputable def jO:D→Nat
 | .tup xs=>xs.length
 | _=>0
noncomputable def eL (most:Int):D→Bool
 | .tup rows=>(decide (1≤rows.length)&&decide ((rows.length:Int)≤most))&&(rows.all vp&&((decide (1≤jO (rows.getD 0 .non))&&decide ((jO (rows.getD 0 .non):Int)≤most))&&rows.all fun r=>decide (jO r=jO (rows.getD 0 .non))))
 | _=>false
noncomputable def cN:Nat→D→Prop
 | 0,d=>kZ d
 | n+1,d=>kZ d∧∀xs,d=.tup xs→xs.length≤3000∧∀x∈xs,cN n x
theorem cN.down:∀{n:Nat} {d:D},cN (n+1) d→cN n d
 | 0,_,h=>h.1
 | _+1,_,h=>⟨h.1,fun xs e=>⟨(h.2 xs e).1,fun x hx=>((h.2 xs e).2 x hx).down⟩⟩
noncomputable def jR:D→Bool
 | .tup _=>true
 | _=>false
theorem ug {d:D}(h:jR d=true):∃y,d=.tup y:=by cases d <;> first|exact⟨_,rfl⟩|(cases h)
variable{i:Nat}
theorem gj {d:D}(h:kZ d)(hv:af i ρ M=.ok d M):eQ "tuple" (af i) ρ M=.ok (.bl (jR d)) M:=by
 obtain⟨t,ht⟩:=h;unfold eQ;rw[hv,ak];cases d <;> first|(simp[Bw,Ic,vL,jR];done)|cases ht
theorem zx {d:D}(h:cN 1 d):jf [d] M=.ok (.bl (vp d)) M:=by
 have g1:=gj (i:=0) (ρ:=[some d]) (M:=M) h.1 rfl;show az (gG [some d] M)=_;unfold gG;cases d with
 | tup xs=>
  have hx:=h.2 xs rfl;have a:=jM (ge:=fG) (p:=br 0 15) (fT (i:=0) (ρ:=[some (.tup xs)]) (M:=M) rfl) (by omega) fun x hm=>by
   unfold fG;exact aT rfl (Ce (hx.2 x hm))
  rw[aJ (bA g1 fun _=>a)];rfl
 | _=>rw[aJ (bA (y:=false) g1 fun z=>by cases z)];rfl
theorem uN {d:D}(h:cN 2 d):eA [d,.int most] M=.ok (.bl (eL most d)) M:=by
 have g1:=gj (i:=0) (ρ:=[some d,some (.int most),none]) (M:=M) h.1 rfl;show az (eO [some d,some (.int most),none] M)=_;unfold eO;cases ht:jR d with
 | false=>
  rw[ht] at g1;rw[cg ((du (et (y:=false) (cr (cy g1)) fun z=>by cases z)).trans rfl)];clear g1;revert h ht;cases d <;> intro h ht <;> first|rfl|(cases ht)
 | true=>
  obtain⟨rows,rfl⟩:=ug ht;have hx:=h.2 rows rfl;have ln:aC bx (aa (af 0) ai) [some (.tup rows),some (.int most),none] M=.ok (.int rows.length) M:=rfl;have ch:oQ lL lL (gC (.int 1)) (aC bx (aa (af 0) ai)) (af 1) [some (.tup rows),some (.int most),none] M=.ok (.bl (decide (1≤rows.length)&&decide ((rows.length:Int)≤most))) M:=by
   refine(n8 rfl ln rfl).trans ?_;rw[show decide ((1:Int)≤(rows.length:Int))=decide (1≤rows.length) from decide_eq_decide.mpr (by omega)]
  have t1:=et (cr (cy g1)) fun _=>cr (bD ch)
  by_cases k:1≤rows.length∧(rows.length:Int)≤most
  ·have hk:(decide (1≤rows.length)&&decide ((rows.length:Int)≤most))=true:=by simp[k.1,k.2]
   rw[hk] at t1;rw[av ((cz t1).trans rfl)];have a:=jM (ge:=dQ) (p:=vp) (fT (i:=0) (ρ:=[some (.tup rows),some (.int most),none]) (M:=M) rfl) (by omega) fun x hm=>by
    unfold dQ;exact aT rfl (zx (hx.2 x hm))
   cases ha:rows.all vp with
   | false=>
    rw[ha] at a;have e:eL most (.tup rows)=false:=by simp[eL,ha]
    rw[cg ((du (cr (cy a))).trans rfl),e];rfl
   | true=>
    rw[ha] at a;rw[av ((cz (cr (cy a))).trans rfl)];cases rows with
    | nil=>exact absurd k.1 (by simp)
    | cons r0 rs=>
     have hr:=all_eq_true.mp ha;obtain⟨x0,e0⟩:∃x0,r0=.tup x0:=by
      have:=hr r0 mem_cons_self;cases r0 <;> first|exact⟨_,rfl⟩|cases this
     subst e0;have s2:aC bx (aa (g2 bt (af 0) (gC (.int 0))) ai) [some (.tup (.tup x0::rs)),some (.int most),none] M=.ok (.int x0.length) M:=
      eT (aB rfl rfl (kE (k:=0) rfl)) rfl
     rw[av (aG s2)];have b:=jM (ge:=cQ) (p:=fun r=>decide (jO r=x0.length)) (fT (i:=0) (ρ:=[some (.tup (.tup x0::rs)),some (.int most),some (.int x0.length)]) (M:=M) rfl) (by omega) fun x hm=>by
      obtain⟨y,ey⟩:∃y,x=.tup y:=by
       have:=hr x hm;cases x <;> first|exact⟨_,rfl⟩|cases this
      subst ey;unfold cQ;refine aB (y:=.int x0.length) rfl rfl ((Av _ _ _).trans ?_);congr 2;exact decide_eq_decide.mpr (by show _↔y.length=_;omega)
     have ch2:oQ lL lL (gC (.int 1)) (af 2) (af 1) [some (.tup (.tup x0::rs)),some (.int most),some (.int x0.length)] M=.ok (.bl (decide (1≤x0.length)&&decide ((x0.length:Int)≤most))) M:=by
      refine(n8 (y:=x0.length) rfl rfl rfl).trans ?_;rw[show decide ((1:Int)≤(x0.length:Int))=decide (1≤x0.length) from decide_eq_decide.mpr (by omega)]
     have f:=aJ (bA ch2 fun _=>b);have e:eL most (.tup (.tup x0::rs))=((decide (1≤x0.length)&&decide ((x0.length:Int)≤most))&&(D.tup x0::rs).all fun r=>decide (jO r=x0.length)):=by
      show((decide (1≤(D.tup x0::rs).length)&&decide (((D.tup x0::rs).length:Int)≤most))&&((D.tup x0::rs).all vp&&_))=_;rw[hk,ha];rfl
     rw[e];show az (aH (dz (oQ lL lL (gC (.int 1)) (af 2) (af 1)) (aC jG (aa (aM (bq (af 0)) aU cQ aA) ai))) [some (.tup (.tup x0::rs)),some (.int most),some (.int x0.length)] M)=_;rw[f];rfl
  ·have hk:(decide (1≤rows.length)&&decide ((rows.length:Int)≤most))=false:=by
    by_cases k1:1≤rows.length
    ·have:¬(rows.length:Int)≤most:=fun z=>k ⟨k1,z⟩
     simp[this]
    ·simp[k1]
   rw[hk] at t1;have e:eL most (.tup rows)=false:=by
    show((decide (1≤rows.length)&&decide ((rows.length:Int)≤most))&&_)=false;rw[hk];rfl
   rw[cg ((du t1).trans rfl),e];rfl
theorem xm {d:D}(h:cN 2 d):kX [d] M=.ok (.bl (eL 8 d)) M:=by
 show az (jz [some d] M)=_;unfold jz;rw[aJ (bC rfl rfl (uN h))];rfl
noncomputable def qE:D→Bool
 | .tup xs=>decide (xs.length≤8)&&xs.all (eL 8)
 | _=>false
theorem zk {d:D}(h:cN 3 d):nj [d] M=.ok (.bl (qE d)) M:=by
 have g1:=gj (i:=0) (ρ:=[some d]) (M:=M) h.1 rfl;show az (kG [some d] M)=_;unfold kG;cases d with
 | tup xs=>
  have hx:=h.2 xs rfl;have l:g2 lL (aC bx (aa (af 0) ai)) (gC (.int 8)) [some (.tup xs)] M=.ok (.bl (decide (xs.length≤8))) M:=by
   show aO.ok (D.bl (decide ((xs.length:Int)≤8))) M=_;congr 2;exact decide_eq_decide.mpr (by omega)
  have a:=jM (ge:=js) (p:=eL 8) (fT (i:=0) (ρ:=[some (.tup xs)]) (M:=M) rfl) (by omega) fun x hm=>by
   unfold js;exact aT rfl (xm (hx.2 x hm))
  rw[aJ (bA g1 fun _=>bA l fun _=>a)];rfl
 | _=>rw[aJ (bA (y:=false) g1 fun z=>by cases z)];rfl
noncomputable def vE:D→Bool
 | .tup xs=>decide (xs.length=2)&&xs.all (br (-1000) 1000)
 | _=>false
theorem Cr {d:D}(h:kZ d)(ht:jR d=false):aS [d] M=.ok (.bl false) M:=by
 have g1:=gj (i:=0) (ρ:=[some d]) (M:=M) h rfl;rw[ht] at g1;show az (cR [some d] M)=_;unfold cR;rw[aJ (bA (y:=false) g1 fun z=>by cases z)];rfl
theorem ze {d:D}(h:cN 1 d):aS [d] M=.ok (.bl (vE d)) M:=by
 cases d with
 | tup xs=>exact tQ (fun x hx=>((h.2 xs rfl).2 x hx)) (h.2 xs rfl).1
 | _=>exact Cr h.1 rfl
noncomputable def lF (nb:Nat):D→Bool
 | .tup [s,x,y,r,t]=>Bx nb s&&((br (-1000) 1000 x&&br (-1000) 1000 y)&&(br 0 3 r&&br 0 3 t))
 | _=>false
theorem wZ {d:D}{bk:List D}(h:cN 1 d):lI [.tup bk,d] M=.ok (.bl (lF bk.length d)) M:=by
 have g1:=gj (i:=1) (ρ:=[some (.tup bk),some d,none,none,none,none,none]) (M:=M) h.1 rfl;show az (jB [some (.tup bk),some d,none,none,none,none,none] M)=_;unfold jB;cases ht:jR d with
 | false=>
  rw[ht] at g1;rw[cg ((du (et (y:=false) (cr (cy g1)) fun z=>by cases z)).trans rfl)];clear g1;revert h ht;cases d <;> intro h ht <;> first|rfl|(cases ht)
 | true=>
  obtain⟨xs,rfl⟩:=ug ht;have hx:=h.2 xs rfl;have ne:g2 (bj true) (aC bx (aa (af 1) ai)) (gC (.int 5)) [some (.tup bk),some (.tup xs),none,none,none,none,none] M=.ok (.bl (!decide ((xs.length:Int)=5))) M:=aB (y:=.int 5) rfl rfl (yu _ _ _);have t1:=et (cr (cy g1)) fun _=>bD ne
  match xs,hx,t1 with
  | [s,x,y,r,t],hx,t1=>
   rw[av ((cz t1).trans rfl)];have q:∀z∈[s,x,y,r,t],kZ z:=fun z hz=>hx.2 z hz
   have k1:=qW (bk:=bk) (M:=M) (q s (by simp));have k2:=tQ (xs:=[x,y]) (M:=M) (fun z hz=>q z (by rcases mem_cons.mp hz with h|h <;> simp_all)) (by simp);have k3:=xX (M:=M) (q r (by simp));have k4:=si (M:=M) (q t (by simp));have two:(2:Nat)≤sizeLine:=aQ (by decide);have asg:i3 (dU [2,3,4,5,6]) (af 1) [some (.tup bk),some (.tup [s,x,y,r,t]),none,none,none,none,none] M=.ok (.nx [some (.tup bk),some (.tup [s,x,y,r,t]),some s,some x,some y,some r,some t]) M:=rfl;rw[av asg];have tp2:bT (aa (af 3) (aa (af 4) ai)) [some (.tup bk),some (.tup [s,x,y,r,t]),some s,some x,some y,some r,some t] M=.ok (.tup [x,y]) M:=by
    show(if [x,y].length≤sizeLine then aO.ok (D.tup [x,y]) M else .bad)=_;rw[if_pos (show [x,y].length≤sizeLine from two)]
   rw[aJ (bA (bC (y:=s) rfl rfl k1) fun _=>bA (aT tp2 k2) fun _=>bA (aT rfl k3) fun _=>aT rfl k4)];show aO.ok (D.bl _) M=_;unfold lF;simp
  | [],_,t1=>rw[cg ((du t1).trans rfl)];rfl
  | [_],_,t1=>rw[cg ((du t1).trans rfl)];rfl
  | [_,_],_,t1=>rw[cg ((du t1).trans rfl)];rfl
  | [_,_,_],_,t1=>rw[cg ((du t1).trans rfl)];rfl
  | [_,_,_,_],_,t1=>rw[cg ((du t1).trans rfl)];rfl
  | _::_::_::_::_::_::r,_,t1=>
   have z:(!decide (((r.length+1+1+1+1+1+1:Nat):Int)=5))=true:=by simp;omega
   simp only[length_cons] at t1;rw[z] at t1;rw[cg ((du t1).trans rfl)];rfl
noncomputable def mi (nb:Nat):D→Bool
 | .tup xs=>decide (xs.length≤12)&&xs.all (lF nb)
 | _=>false
theorem tZ {d:D}{bk:List D}(h:cN 2 d):jr [.tup bk,d] M=.ok (.bl (mi bk.length d)) M:=by
 have g1:=gj (i:=1) (ρ:=[some (.tup bk),some d]) (M:=M) h.1 rfl;show az (gD [some (.tup bk),some d] M)=_;unfold gD;cases d with
 | tup xs=>
  have hx:=h.2 xs rfl;have l:g2 lL (aC bx (aa (af 1) ai)) (gC (.int 12)) [some (.tup bk),some (.tup xs)] M=.ok (.bl (decide (xs.length≤12))) M:=by
   show aO.ok (D.bl (decide ((xs.length:Int)≤12))) M=_;congr 2;exact decide_eq_decide.mpr (by omega)
  have a:=jM (ge:=eW) (p:=lF bk.length) (fT (i:=1) (ρ:=[some (.tup bk),some (.tup xs)]) (M:=M) rfl) (by omega) fun x hm=>by
   unfold eW;exact bC (y:=x) rfl rfl (wZ (hx.2 x hm))
  rw[aJ (bA g1 fun _=>bA l fun _=>a)];rfl
 | _=>rw[aJ (bA (y:=false) g1 fun z=>by cases z)];rfl
noncomputable def uP:D→Bool
 | .tup xs=>decide (xs.length=16)&&xs.all (br 0 63)
 | _=>false
theorem wO {d:D}(h:cN 1 d):lC [d] M=.ok (.bl (uP d)) M:=by
 have g1:=gj (i:=0) (ρ:=[some d]) (M:=M) h.1 rfl;show az (jA [some d] M)=_;unfold jA;cases d with
 | tup xs=>
  have hx:=h.2 xs rfl;have l:g2 (bj false) (aC bx (aa (af 0) ai)) (gC (.int 16)) [some (.tup xs)] M=.ok (.bl (decide (xs.length=16))) M:=by
   refine(aB (y:=.int 16) rfl rfl (Av _ _ _)).trans ?_;congr 2;exact decide_eq_decide.mpr (by omega)
  have a:=jM (ge:=iB) (p:=br 0 63) (fT (i:=0) (ρ:=[some (.tup xs)]) (M:=M) rfl) (by omega) fun x hm=>by
   unfold iB;exact aT rfl (An (hx.2 x hm))
  rw[aJ (bA g1 fun _=>bA l fun _=>a)];rfl
 | _=>rw[aJ (bA (y:=false) g1 fun z=>by cases z)];rfl
noncomputable def j8:D→Bool
 | .tup [f,s,b,m,p]=>(eL 16 f&&(vE s&&uP p))&&(qE b&&mi (jO b) m)
 | _=>false
theorem yE {d:D}(h:qE d=true):∃b,d=.tup b:=by
 cases d <;> first|exact⟨_,rfl⟩|cases h
theorem xa {d:D}(h:cN 4 d):k8 [d] M=.ok (.bl (j8 d)) M:=by
 have g1:=gj (i:=0) (ρ:=[some d,none,none,none,none,none]) (M:=M) h.1 rfl;show az (ju [some d,none,none,none,none,none] M)=_;unfold ju;cases ht:jR d with
 | false=>
  rw[ht] at g1;rw[cg ((du (et (y:=false) (cr (cy g1)) fun z=>by cases z)).trans rfl)];clear g1;revert h ht;cases d <;> intro h ht <;> first|rfl|(cases ht)
 | true=>
  obtain⟨xs,rfl⟩:=ug ht;have hx:=h.2 xs rfl;have ne:g2 (bj true) (aC bx (aa (af 0) ai)) (gC (.int 5)) [some (.tup xs),none,none,none,none,none] M=.ok (.bl (!decide ((xs.length:Int)=5))) M:=aB (y:=.int 5) rfl rfl (yu _ _ _);have t1:=et (cr (cy g1)) fun _=>bD ne
  match xs,hx,t1 with
  | [f,s,b,m,p],hx,t1=>
   rw[av ((cz t1).trans rfl)];have q:∀z∈[f,s,b,m,p],cN 3 z:=fun z hz=>hx.2 z hz
   have k1:=uN (most:=16) (M:=M) (q f (by simp)).down;have k2:=ze (M:=M) (q s (by simp)).down.down;have k3:=wO (M:=M) (q p (by simp)).down.down;have k4:=zk (M:=M) (q b (by simp));have asg:i3 (dU [1,2,3,4,5]) (af 0) [some (.tup [f,s,b,m,p]),none,none,none,none,none] M=.ok (.nx [some (.tup [f,s,b,m,p]),some f,some s,some b,some m,some p]) M:=rfl;rw[av asg];have t2:=cr (oq (cy (bC (ρ:=[some (.tup [f,s,b,m,p]),some f,some s,some b,some m,some p]) (a:=af 1) (b:=gC (.int 16)) rfl rfl k1)) fun _=>oq (cy (aT (a:=af 2) rfl k2)) fun _=>cy (aT (a:=af 5) rfl k3));cases hk:(eL 16 f&&(vE s&&uP p)) with
   | false=>
    rw[hk] at t2;rw[cg ((du t2).trans rfl)];have e:j8 (.tup [f,s,b,m,p])=false:=by
     simp[j8,hk]
    rw[e];rfl
   | true=>
    rw[hk] at t2;rw[av ((cz t2).trans rfl)];cases hb:qE b with
    | false=>
     rw[hb] at k4;rw[aJ (bA (y:=false) (aT (a:=af 3) rfl k4) fun z=>by cases z)];have e:j8 (.tup [f,s,b,m,p])=false:=by
      simp[j8,hb]
     rw[e];rfl
    | true=>
     obtain⟨bs,rfl⟩:=yE hb;have k5:=tZ (bk:=bs) (M:=M) (q m (by simp)).down;rw[hb] at k4;rw[aJ (bA (aT (a:=af 3) rfl k4) fun _=>bC (a:=af 3) (b:=af 4) rfl rfl k5)];have e:j8 (.tup [f,s,.tup bs,m,p])=mi bs.length m:=by
      simp[j8,hk,hb,jO]
     rw[e];rfl
  | [],_,t1=>rw[cg ((du t1).trans rfl)];rfl
  | [_],_,t1=>rw[cg ((du t1).trans rfl)];rfl
  | [_,_],_,t1=>rw[cg ((du t1).trans rfl)];rfl
  | [_,_,_],_,t1=>rw[cg ((du t1).trans rfl)];rfl
  | [_,_,_,_],_,t1=>rw[cg ((du t1).trans rfl)];rfl
  | _::_::_::_::_::_::r,_,t1=>
   have z:(!decide (((r.length+1+1+1+1+1+1:Nat):Int)=5))=true:=by simp;omega
   simp only[length_cons] at t1;rw[z] at t1;rw[cg ((du t1).trans rfl)];rfl
theorem bR {hi i:Int}(h:lo≤i∧i≤hi):br lo hi (.int i)=true:=by simp[br,h.1,h.2]
theorem oU {hi:Int}{r:List Int}(h:∀k∈r,lo≤k∧k≤hi):(r.map D.int).all (br lo hi)=true:=by
 rw[all_map];exact all_eq_true.mpr fun k hk=>bR (h k hk)
variable{rs:List (List Int)}
theorem pM (h:dD most rs):eL most (aI rs)=true:=by
 obtain⟨h1,h2,w,h3,h4,h5⟩:=h;have hr:∀r∈rs.map fun r=>D.tup (r.map D.int),vp r=true∧jO r=w:=fun r hr=>by
  obtain⟨q,hq,rfl⟩:=mem_map.mp hr;exact⟨oU (h5 q hq).2,by show(q.map D.int).length=w;rw[length_map];exact(h5 q hq).1⟩
 have l:(rs.map fun r=>D.tup (r.map D.int)).length=rs.length:=length_map ..;unfold aI;generalize (rs.map fun r=>D.tup (r.map D.int))=ds at *;cases ds with
 | nil=>simp at l;omega
 | cons d0 dr=>
  have e0:=(hr d0 mem_cons_self).2;show((decide (1≤(d0::dr).length)&&decide (((d0::dr).length:Int)≤most))&&((d0::dr).all vp&&((decide (1≤jO d0)&&decide ((jO d0:Int)≤most))&&(d0::dr).all fun r=>decide (jO r=jO d0))))=true;have a1:(d0::dr).all vp=true:=all_eq_true.mpr fun r h=>(hr r h).1
  have a2:((d0::dr).all fun r=>decide (jO r=jO d0))=true:=all_eq_true.mpr fun r h=>decide_eq_true (by rw[(hr r h).2,e0])
  rw[a1,a2,e0,l];simp[h1,h2,h3,h4]
theorem cN.int {i:Int}:cN n (.int i):=by
 cases n with
 | zero=>exact⟨_,rfl⟩
 | succ n=>exact⟨⟨_,rfl⟩,fun xs e=>by cases e⟩
theorem cN.tup (hl:xs.length≤3000)(h:∀x∈xs,cN n x):cN (n+1) (.tup xs):=
 ⟨⟨_,rfl⟩,fun ys e=>by cases e;exact⟨hl,h⟩⟩
theorem qF (hm:most≤3000)(h:dD most rs):cN (n+2) (aI rs):=by
 obtain⟨h1,h2,w,h3,h4,h5⟩:=h;refine cN.tup (by rw[length_map];omega) fun x hx=>?_
 obtain⟨r,hr,rfl⟩:=mem_map.mp hx;refine cN.tup (by rw[length_map,(h5 r hr).1];omega) fun x hx=>?_
 obtain⟨k,_,rfl⟩:=mem_map.mp hx;exact cN.int
theorem xc (m:Mv):cN (n+1) m.d:=by
 refine cN.tup (by simp) fun x hx=>?_
 have hx:x∈[(match m.shape with|some k=>D.int k|none=>.non),.int m.x,.int m.y,.int m.rank,.int m.turn]:=hx;simp only[mem_cons,not_mem_nil,or_false] at hx;rcases hx with rfl|rfl|rfl|rfl|rfl
 ·cases m.shape with
  | some k=>exact cN.int
  | none=>
   cases n with
   | zero=>exact⟨_,rfl⟩
   | succ n=>exact⟨⟨_,rfl⟩,fun xs e=>by cases e⟩
 all_goals exact cN.int
variable{s:jJ}
theorem Bd (ok:o9 mm s)(hm:mm≤900):cN 4 s.d:=by
 refine cN.tup (by simp) fun x hx=>?_
 have hx:x∈[aI s.floor,.tup [.int s.sx,.int s.sy],.tup (s.book.map aI),.tup (s.movers.map Mv.d),.tup (s.pots.map D.int)]:=hx;simp only[mem_cons,not_mem_nil,or_false] at hx;rcases hx with rfl|rfl|rfl|rfl|rfl
 ·exact qF (by decide) ok.floor
 ·refine cN.tup (by simp) fun x hx=>?_
  simp only[mem_cons,not_mem_nil,or_false] at hx;rcases hx with rfl|rfl <;> exact cN.int
 ·refine cN.tup (by rw[length_map];have:=ok.bl;omega) fun x hx=>?_
  obtain⟨b,hb,rfl⟩:=mem_map.mp hx;exact qF (by decide) (ok.book b hb)
 ·refine cN.tup (by rw[length_map];have:=ok.ml;omega) fun x hx=>?_
  obtain⟨m,_,rfl⟩:=mem_map.mp hx;exact xc m
 ·refine cN.tup (by rw[length_map];have:=ok.pl;omega) fun x hx=>?_
  obtain⟨k,_,rfl⟩:=mem_map.mp hx;exact cN.int
theorem Ak {m:Mv}(h:zb n m):lF n m.d=true:=by
 have e:Bx n (match m.shape with|some k=>D.int k|none=>.non)=true:=by
  cases hs:m.shape with
  | none=>rfl
  | some k=>
   have:=h.s k hs;exact bR (lo:=0) (hi:=(n:Int)-1) (i:=(k:Int)) ⟨by omega,by omega⟩
 show(Bx n (match m.shape with|some k=>D.int k|none=>.non)&&_)=true;rw[e,bR h.x,bR h.y,bR h.r,bR h.t];rfl
theorem BI (ok:o9 mm s)(hm:mm≤12):j8 s.d=true:=by
 have f:=pM ok.floor;have p:vE (.tup [.int s.sx,.int s.sy])=true:=by
  show(true&&([D.int s.sx,.int s.sy].all (br (-1000) 1000)))=true;simp[bR ok.sx,bR ok.sy]
 have po:uP (.tup (s.pots.map D.int))=true:=by
  show(decide ((s.pots.map D.int).length=16)&&(s.pots.map D.int).all (br 0 63))=true;rw[oU ok.pots,length_map,ok.pl];rfl
 have b:qE (.tup (s.book.map aI))=true:=by
  show(decide ((s.book.map aI).length≤8)&&(s.book.map aI).all (eL 8))=true;have:(s.book.map aI).all (eL 8)=true:=all_eq_true.mpr fun x hx=>by
   obtain⟨q,hq,rfl⟩:=mem_map.mp hx;exact pM (ok.book q hq)
  rw[this,length_map];simp[ok.bl]
 have m:mi (jO (.tup (s.book.map aI))) (.tup (s.movers.map Mv.d))=true:=by
  show(decide ((s.movers.map Mv.d).length≤12)&&(s.movers.map Mv.d).all (lF (s.book.map aI).length))=true;have:(s.movers.map Mv.d).all (lF (s.book.map aI).length)=true:=all_eq_true.mpr fun x hx=>by
   obtain⟨q,hq,rfl⟩:=mem_map.mp hx;rw[length_map];exact Ak (ok.movers q hq)
  have l:s.movers.length≤12:=by have:=ok.ml;omega
  rw[this,length_map];simp[l]
 show((eL 16 (aI s.floor)&&(vE (.tup [.int s.sx,.int s.sy])&&uP (.tup (s.pots.map D.int))))&&(qE (.tup (s.book.map aI))&&mi (jO (.tup (s.book.map aI))) (.tup (s.movers.map Mv.d))))=true;rw[f,p,po,b,m];rfl
noncomputable def Ca:D→Bool
 | .tup [w,h,g,m]=>br 1 40 w&&(br 1 40 h&&(br 0 20 g&&br 0 12 m))
 | _=>false
theorem wR {d:D}(h:cN 1 d):lK [d] M=.ok (.bl (Ca d)) M:=by
 have g1:=gj (i:=0) (ρ:=[some d,none,none,none,none]) (M:=M) h.1 rfl;show az (jm [some d,none,none,none,none] M)=_;unfold jm;cases ht:jR d with
 | false=>
  rw[ht] at g1;rw[cg ((du (et (y:=false) (cr (cy g1)) fun z=>by cases z)).trans rfl)];clear g1;revert h ht;cases d <;> intro h ht <;> first|rfl|(cases ht)
 | true=>
  obtain⟨xs,rfl⟩:=ug ht;have hx:=h.2 xs rfl;have ne:g2 (bj true) (aC bx (aa (af 0) ai)) (gC (.int 4)) [some (.tup xs),none,none,none,none] M=.ok (.bl (!decide ((xs.length:Int)=4))) M:=aB (y:=.int 4) rfl rfl (yu _ _ _);have t1:=et (cr (cy g1)) fun _=>bD ne
  match xs,hx,t1 with
  | [w,h,g,m],hx,t1=>
   rw[av ((cz t1).trans rfl)];have q:∀z∈[w,h,g,m],kZ z:=fun z hz=>hx.2 z hz
   have k1:=cC (lo:=1) (hi:=40) (M:=M) (q w (by simp));have k2:=cC (lo:=1) (hi:=40) (M:=M) (q h (by simp));have k3:=cC (lo:=0) (hi:=20) (M:=M) (q g (by simp));have k4:=cC (lo:=0) (hi:=12) (M:=M) (q m (by simp));have asg:i3 (dU [1,2,3,4]) (af 0) [some (.tup [w,h,g,m]),none,none,none,none] M=.ok (.nx [some (.tup [w,h,g,m]),some w,some h,some g,some m]) M:=rfl;rw[av asg];rw[aJ (bA (dI (y:=.int 1) (z:=.int 40) rfl rfl rfl k1) fun _=>bA (dI (y:=.int 1) (z:=.int 40) rfl rfl rfl k2) fun _=>bA (dI (y:=.int 0) (z:=.int 20) rfl rfl rfl k3) fun _=>dI (y:=.int 0) (z:=.int 12) rfl rfl rfl k4)];rfl
  | [],_,t1=>rw[cg ((du t1).trans rfl)];rfl
  | [_],_,t1=>rw[cg ((du t1).trans rfl)];rfl
  | [_,_],_,t1=>rw[cg ((du t1).trans rfl)];rfl
  | [_,_,_],_,t1=>rw[cg ((du t1).trans rfl)];rfl
  | _::_::_::_::_::r,_,t1=>
   have z:(!decide (((r.length+1+1+1+1+1:Nat):Int)=4))=true:=by simp;omega
   simp only[length_cons] at t1;rw[z] at t1;rw[cg ((du t1).trans rfl)];rfl
structure yQ (w h g m:Int):Prop where
 w:1≤w∧w≤40
 h:1≤h∧h≤40
 g:0≤g∧g≤20
 m:0≤m∧m≤12
noncomputable def eR (w h g m:Int):D:=.tup [.int w,.int h,.int g,.int m]
variable{g h:Int}
theorem zZ {m:Int}(k:yQ w h g m):Ca (eR w h g m)=true:=by
 show(br 1 40 (.int w)&&(br 1 40 (.int h)&&(br 0 20 (.int g)&&br 0 12 (.int m))))=true;rw[bR k.w,bR k.h,bR k.g,bR k.m];rfl
theorem xb {m:Int}:cN (n+1) (eR w h g m):=by
 refine cN.tup (by simp) fun x hx=>?_
 simp only[mem_cons,not_mem_nil,or_false] at hx;rcases hx with rfl|rfl|rfl|rfl <;> exact cN.int
theorem wb (xs:List D)(k:Nat):lH xs (some (k:Int)) none=xs.drop k:=by
 unfold lH;rw[HT.sIx_nat,HT.sIx_none]
 by_cases h:k≤xs.length
 ·rw[Nat.min_eq_left h];exact take_of_length_le (by simp)
 ·rw[Nat.min_eq_right (by omega),drop_eq_nil_of_le (Nat.le_refl _),drop_eq_nil_of_le (by omega),take_nil]
theorem Jz (a:D)(xs:List D):lH (a::xs) (some 1) none=xs:=wb (a::xs) 1
theorem Jj (a b:D)(xs:List D):lH (a::b::xs) (some 2) none=xs:=wb (a::b::xs) 2
inductive Dd where
 | shift (x y:Int)|pot (k h:Int)|move (i:Nat) (x y:Int)|shape (i:Nat) (o:Option Nat)|rank (i:Nat) (r:Int)|turn (i:Nat) (t:Int)
noncomputable def su (o:Option Nat):D:=match o with|some k=>.int k|none=>.non
noncomputable def Dd.d:Dd→D
 | .shift x y=>.tup [.str "shift",.int x,.int y]
 | .pot k h=>.tup [.str "pot",.int k,.int h]
 | .move i x y=>.tup [.str "move",.int i,.int x,.int y]
 | .shape i o=>.tup [.str "shape",.int i,su o]
 | .rank i r=>.tup [.str "rank",.int i,.int r]
 | .turn i t=>.tup [.str "turn",.int i,.int t]
noncomputable def oX (s:jJ):Dd→Prop
 | .shift x y=>(-1000≤x∧x≤1000)∧(-1000≤y∧y≤1000)
 | .pot k h=>(0≤k∧k≤15)∧(0≤h∧h≤63)
 | .move i x y=>i<s.movers.length∧(-1000≤x∧x≤1000)∧(-1000≤y∧y≤1000)
 | .shape i o=>i<s.movers.length∧∀k,o=some k→k<s.book.length
 | .rank i r=>i<s.movers.length∧(0≤r∧r≤3)
 | .turn i t=>i<s.movers.length∧(0≤t∧t≤3)
theorem xf (x:Int):kZ (.int x):=⟨_,rfl⟩
theorem wB {hi x:Int}(h:lo≤x∧x≤hi):br lo hi (.int x)=true:=by
 show(decide (lo≤x)&&decide (x≤hi))=true;rw[decide_eq_true h.1,decide_eq_true h.2];rfl
theorem yw {x y:Int}(hx:-1000≤x∧x≤1000)(hy:-1000≤y∧y≤1000):aS [.tup [.int x,.int y]] M=.ok (.bl true) M:=by
 rw[tQ (fun d hd=>by
  rcases mem_cons.mp hd with e|e
  ·rw[e];exact xf x
  ·rw[mem_singleton.mp e];exact xf y) (by simp)]
 rw[all_cons,all_cons,wB hx,wB hy];rfl
theorem xK {w:Str}{r:List D}{o:aO Fl}(hi:i<s.movers.length)
  (h:ax (fJ (aZ (g2 (bj false) (af 1) (gC (.str "move")))) (aH (aj 1 aS (aa (zJ (af 2) (iq (gC (.int 1))) df) ai))) aX) (ax (fJ (aZ (g2 (bj true) (aC bx (aa (af 2) ai)) (gC (.int 2)))) (aH (gC (.bl false))) aX) (ax (fJ (aZ (g2 (bj false) (af 1) (gC (.str "shape")))) (aH (aj 2 cx (aa (af 5) (aa (g2 bt (af 2) (gC (.int 1))) ai)))) aX) (ax (fJ (aZ (g2 (bj false) (af 1) (gC (.str "rank")))) (aH (aj 1 iR (aa (g2 bt (af 2) (gC (.int 1))) ai))) aX) (aH (dz (g2 (bj false) (af 1) (gC (.str "turn"))) (aj 1 iS (aa (g2 bt (af 2) (gC (.int 1))) ai)))))))
   [some s.d,some (.str w),some (.tup (.int i::r)),some (aI s.floor),some (.tup [.int s.sx,.int s.sy]),some (.tup (s.book.map aI)),some (.tup (s.movers.map Mv.d)),some (.tup (s.pots.map D.int))] M=o) :
  dO [s.d,.str w,.tup (.int i::r)] M=az o:=by
 show az (dP [some s.d,some (.str w),some (.tup (.int i::r)),none,none,none,none,none] M)=_;unfold dP;rw[av (show i3 (dU [3,4,5,6,7]) (af 0) [some s.d,some (.str w),some (.tup (.int i::r)),none,none,none,none,none] M=.ok (.nx [some s.d,some (.str w),some (.tup (.int i::r)),some (aI s.floor),some (.tup [.int s.sx,.int s.sy]),some (.tup (s.book.map aI)),some (.tup (s.movers.map Mv.d)),some (.tup (s.pots.map D.int))]) M from rfl)];have ln:aC bx (aa (af 6) ai) [some s.d,some (.str w),some (.tup (.int i::r)),some (aI s.floor),some (.tup [.int s.sx,.int s.sy]),some (.tup (s.book.map aI)),some (.tup (s.movers.map Mv.d)),some (.tup (s.pots.map D.int))] M=.ok (.int (s.movers.length:Int)) M:=by
  refine eT rfl ?_;show aO.ok (D.int ((s.movers.map Mv.d).length:Int)) M=_;rw[length_map]
 have w1:=cC (lo:=0) (hi:=(s.movers.length:Int)-1) (M:=M) (xf i);rw[wB ⟨by omega,by omega⟩] at w1;rw[av ((cz (cr (cy (dI (aB rfl rfl (kE (k:=0) rfl)) rfl (aB ln rfl rfl) w1)))).trans rfl),h]
theorem L8 {w v:Str}{b:Bool}{M:au}(k:(PyData.strOk w&&PyData.strOk v&&(decide (w=v)==b))=true:=by decide +kernel):bj false (.str w) (.str v) M=.ok (.bl b) M:=by
 obtain⟨k1,k3⟩:=Bool.and_eq_true_iff.mp k;obtain⟨k1,k2⟩:=Bool.and_eq_true_iff.mp k1;have k3:=beq_iff_eq.mp k3;subst k3;have c:∀x:Str,PyData.strOk x=true→bw 40 (.str x)=true:=fun x h=>by simpa using h
 unfold bj;show(if(bw 40 (.str w)&&bw 40 (.str v))=true then aO.ok (D.bl (nY (.str w) (.str v) != false)) M else .bad)=_;rw[c w k1,c v k2,if_pos (by rfl)];have e:nY (.str w) (.str v)=decide (w=v):=by rw[Bool.eq_iff_iff];simp
 rw[e,Bool.bne_false]
theorem tW {w v:Str}{b:Bool}{M:au}(h:ρ[n]?=some (some (.str w)))(k:(PyData.strOk w&&PyData.strOk v&&(decide (w=v)==b))=true:=by decide +kernel):aZ (g2 (bj false) (af n) (gC (.str v))) ρ M=.ok b M:=by
 refine bD (aB ?_ rfl (L8 k));unfold af;rw[h]
noncomputable def Ek:GS:=(ax (fJ (aZ (g2 (bj false) (af 2) (gC (.str "shift")))) (aH (aj 1 aS (aa (af 3) ai))) aX) (ax (fJ (aZ (g2 (bj false) (af 2) (gC (.str "pot")))) (aH (dz (g2 (bj false) (aC bx (aa (af 3) ai)) (gC (.int 2))) (dz (aj 1 jY (aa (g2 bt (af 3) (gC (.int 0))) ai)) (aj 1 j6 (aa (g2 bt (af 3) (gC (.int 1))) ai))))) aX) (aH (aj 3 dO (aa (af 0) (aa (af 2) (aa (af 3) ai)))))))
theorem AM {s:D}{w:Str}{a b:D}:cD [s,.tup [.str w,a,b]] M=az (Ek [some s,some (.tup [.str w,a,b]),some (.str w),some (.tup [a,b])] M):=rfl
theorem L3 {s:D}{w:Str}{a b c:D}:cD [s,.tup [.str w,a,b,c]] M=az (Ek [some s,some (.tup [.str w,a,b,c]),some (.str w),some (.tup [a,b,c])] M):=rfl
variable{o:Option Nat}
theorem Fp (h:∀k,o=some k→k<n):Bx n (su o)=true:=by
 cases o with
 | none=>rfl
 | some k=>
  have:=h k rfl;show(decide ((0:Int)≤(k:Int))&&decide ((k:Int)≤(n:Int)-1))=true;rw[decide_eq_true (by omega),decide_eq_true (by omega)];rfl
theorem HJ (o:Option Nat):kZ (su o):=by cases o <;> exact⟨_,rfl⟩
theorem yX {dd:Dd}(h:oX s dd):cD [s.d,dd.d] M=.ok (.bl true) M:=by
 cases dd with
 | shift x y=>
  show cD [s.d,.tup [.str "shift",.int x,.int y]] M=_;rw[AM];unfold Ek;rw[cg ((du (tW rfl)).trans (aJ (aT rfl (yw h.1 h.2))))];rfl
 | pot k hu=>
  have k1:=Ce (M:=M) (xf k);have k2:=An (M:=M) (xf hu);rw[wB h.1] at k1;rw[wB h.2] at k2;show cD [s.d,.tup [.str "pot",.int k,.int hu]] M=_;rw[AM];unfold Ek;rw[av ((cz (tW rfl)).trans rfl),cg ((du (tW rfl)).trans (aJ (bA (x:=true) rfl fun _=>bA (x:=true) (aT rfl k1) fun _=>aT rfl k2)))];rfl
 | move i x y=>
  have md:=xK (s:=s) (w:="move") (r:=[.int x,.int y]) (M:=M) h.1 (cg ((du (tW rfl)).trans (aJ (aT (x:=.tup [.int x,.int y]) rfl (yw h.2.1 h.2.2)))));show cD [s.d,.tup [.str "move",.int i,.int x,.int y]] M=_;rw[L3];unfold Ek;rw[av ((cz (tW rfl)).trans rfl),av ((cz (tW rfl)).trans rfl),aJ (dI rfl rfl rfl md)];rfl
 | shape i o=>
  have nn:=qW (bk:=s.book.map aI) (M:=M) (HJ o);rw[length_map,Fp h.2] at nn;have md:=xK (s:=s) (w:="shape") (r:=[su o]) (M:=M) h.1 ((av ((cz (tW rfl)).trans rfl)).trans ((av ((cz (M1:=M) rfl).trans rfl)).trans (cg ((du (tW rfl)).trans (aJ (bC rfl rfl nn))))));show cD [s.d,.tup [.str "shape",.int i,su o]] M=_;rw[AM];unfold Ek;rw[av ((cz (tW rfl)).trans rfl),av ((cz (tW rfl)).trans rfl),aJ (dI rfl rfl rfl md)];rfl
 | rank i r=>
  have nn:=xX (M:=M) (xf r);rw[wB h.2] at nn;have md:=xK (s:=s) (w:="rank") (r:=[.int r]) (M:=M) h.1 ((av ((cz (tW rfl)).trans rfl)).trans ((av ((cz (M1:=M) rfl).trans rfl)).trans ((av ((cz (tW rfl)).trans rfl)).trans (cg ((du (tW rfl)).trans (aJ (aT (x:=.int r) rfl nn)))))));show cD [s.d,.tup [.str "rank",.int i,.int r]] M=_;rw[AM];unfold Ek;rw[av ((cz (tW rfl)).trans rfl),av ((cz (tW rfl)).trans rfl),aJ (dI rfl rfl rfl md)];rfl
 | turn i r=>
  have nn:=si (M:=M) (xf r);rw[wB h.2] at nn;have md:=xK (s:=s) (w:="turn") (r:=[.int r]) (M:=M) h.1 ((av ((cz (tW rfl)).trans rfl)).trans ((av ((cz (M1:=M) rfl).trans rfl)).trans ((av ((cz (tW rfl)).trans rfl)).trans ((av ((cz (tW rfl)).trans rfl)).trans (aJ (bA (x:=true) (aB (x:=.str "turn") rfl rfl L8) fun _=>aT (x:=.int r) rfl nn))))));show cD [s.d,.tup [.str "turn",.int i,.int r]] M=_;rw[AM];unfold Ek;rw[av ((cz (tW rfl)).trans rfl),av ((cz (tW rfl)).trans rfl),aJ (dI rfl rfl rfl md)];rfl
theorem Hk (m:Mv):m.d=.tup [su m.shape,.int m.x,.int m.y,.int m.rank,.int m.turn]:=by
 unfold Mv.d su;cases m.shape <;> rfl
theorem CH {i:Int}(M:au):ie (.int i) (.int 2) M=.ok (.int (i % 2)) M:=by
 simp_arith [show Nat.log2 2<9000 by decide]
theorem xi {hh:Int}(ok:o9 mm s)(hm:mm≤900)(hw:0≤w∧w≤900)(hh2:0≤hh∧hh≤900)(hM:cF l ap M) :
  ∃dd M',oX s dd∧cF l ap M'∧jW [.mr 0,.tup (.int w::.int hh::more),s.d] M=.ok dd.d M':=by
 obtain⟨way,M1,a1,b1,t1,e1⟩:=bg (many:=8) (by decide) (aN (by decide) (by decide)) hM;have ml:=ok.ml;have cm:bH 39 (s.movers.map Mv.d)=true:=bP fun d hd=>by
  obtain⟨m,_,rfl⟩:=mem_map.mp hd;rw[Hk];have:bw 38 (su m.shape)=true:=by cases m.shape <;> rfl
  simp[this]
 have en:nY (.tup (s.movers.map Mv.d)) (.tup [])=decide (s.movers=[]):=by
  cases s.movers <;> simp
 have tq:aZ (g2 (bj false) (g2 bt (af 2) (gC (.int 3))) (bT ai)) [some (.mr 0),some (.tup (.int w::.int hh::more)),some s.d,some (.int way),none,none,none] M1=.ok (decide (s.movers=[])) M1:=by
  refine bD (aB rfl (dF (ds:=[]) rfl) ?_);unfold bj;show(if(bH 39 (s.movers.map Mv.d)&&true)=true then aO.ok (D.bl (nY (.tup (s.movers.map Mv.d)) (.tup []) != false)) M1 else .bad)=_;rw[cm,if_pos (by rfl),en,Bool.bne_false]
 have tst:hW (aZ (g2 p0 (af 3) (gC (.int 2)))) (aZ (g2 (bj false) (g2 bt (af 2) (gC (.int 3))) (bT ai))) [some (.mr 0),some (.tup (.int w::.int hh::more)),some s.d,some (.int way),none,none,none] M1=.ok (decide (way<2)||decide (s.movers=[])) M1:=et (bD rfl) fun _=>tq
 show∃dd M',oX s dd∧cF l ap M'∧az (iE [some (.mr 0),some (.tup (.int w::.int hh::more)),some s.d,none,none,none,none] M)=.ok dd.d M';unfold iE;rw[av (aG (bC rfl rfl e1))]
 by_cases hc:way<2∨s.movers=[]
 ·obtain⟨x,M2,a2,t2,e2⟩:=nk (size:=9) (by decide) (by decide) t1;obtain⟨y,M3,a3,t3,e3⟩:=nk (size:=9) (by decide) (by decide) t2;obtain⟨k,M4,a4,b4,t4,e4⟩:=bg (many:=16) (by decide) (aN (by decide) (by decide)) t3;obtain⟨hu,M5,a5,b5,t5,e5⟩:=bg (many:=64) (by decide) (aN (by decide) (by decide)) t4;have tt:(decide (way<2)||decide (s.movers=[]))=true:=by
   rcases hc with q|q
   ·rw[decide_eq_true q];rfl
   ·rw[decide_eq_true q,Bool.or_true]
  rw[tt] at tst;obtain⟨dd,hd,kd⟩:∃dd:Dd,oj [(Dd.shift x y).d,(Dd.pot k hu).d] (way % 2)=some dd.d∧oX s dd:=by
   have w2:way % 2=0∨way % 2=1:=by omega
   rcases w2 with w2|w2 <;> rw[w2]
   ·exact⟨.shift x y,rfl,a2,a3⟩
   ·exact⟨.pot k hu,rfl,⟨a4,by omega⟩,a5,by omega⟩
  refine⟨dd,M5,kd,t5,?_⟩;exact(congrArg az (cg ((du tst).trans ((av (aG (fM (ds:=[(Dd.shift x y).d,(Dd.pot k hu).d]) (aD (dF (ds:=[.str "shift",.int x,.int y]) (aD rfl (aD (bC rfl rfl e2) (aD (bC rfl rfl e3) rfl)))) (aD (dF (ds:=[.str "pot",.int k,.int hu]) (aD rfl (aD (bC rfl rfl e4) (aD (bC rfl rfl e5) rfl)))) rfl))))).trans (aJ (aB rfl (aB rfl rfl (CH M5)) (xC hd))))))).trans rfl
 ·have h2:¬way<2:=fun z=>hc (.inl z)
  have h0:¬s.movers=[]:=fun z=>hc (.inr z)
  have hp:0<s.movers.length:=length_pos_iff.mpr h0;rw[decide_eq_false h2,decide_eq_false h0] at tst;obtain⟨n,M2,a2,b2,t2,e2⟩:=bg (many:=(s.movers.length:Int)) (by omega) (aN (by omega) (by omega)) t1;obtain⟨m,M3,mo,t3,e3⟩:=vS (more:=more) (n:=s.book.length) hw hh2 (by have:=ok.bl;omega) t2;obtain⟨i,rfl⟩:=Int.eq_ofNat_of_zero_le a2;have hi:i<s.movers.length:=by omega
  have ln3:aC bx (aa (g2 bt (af 2) (gC (.int 3))) ai) [some (.mr 0),some (.tup (.int w::.int hh::more)),some s.d,some (.int way),none,none,none] M1=.ok (.int (s.movers.length:Int)) M1:=by
   refine eT rfl ?_;show aO.ok (D.int ((s.movers.map Mv.d).length:Int)) M1=_;rw[length_map]
  have ln2:aC bx (aa (g2 bt (af 2) (gC (.int 2))) ai) [some (.mr 0),some (.tup (.int w::.int hh::more)),some s.d,some (.int way),none,some (.int i),none] M2=.ok (.int (s.book.length:Int)) M2:=by
   refine eT rfl ?_;show aO.ok (D.int ((s.book.map aI).length:Int)) M2=_;rw[length_map]
  show∃dd M',oX s dd∧cF l ap M'∧az (ax _ _ [some (.mr 0),some (.tup (.int w::.int hh::more)),some s.d,some (.int way),none,none,none] M1)=.ok dd.d M';rw[av ((cz tst).trans rfl),av (aG (bC rfl ln3 e2))];show∃dd M',oX s dd∧cF l ap M'∧az (ax _ _ [some (.mr 0),some (.tup (.int w::.int hh::more)),some s.d,some (.int way),none,some (.int i),none] M2)=.ok dd.d M';rw[av (aG (dI rfl rfl ln2 e3))];show∃dd M',oX s dd∧cF l ap M'∧az (ax _ _ [some (.mr 0),some (.tup (.int w::.int hh::more)),some s.d,some (.int way),none,some (.int i),some m.d] M3)=.ok dd.d M'
  by_cases h5:way<5
  ·refine⟨.move i m.x m.y,M3,⟨hi,mo.x,mo.y⟩,t3,?_⟩;exact(congrArg az (cg ((du (bD (aB rfl rfl (by show aO.ok (D.bl (decide (way<5))) M3=_;rw[decide_eq_true h5])))).trans (aJ (dF (ds:=[.str "move",.int i,.int m.x,.int m.y]) rfl))))).trans rfl
  ·obtain⟨dd,hd,kd⟩:∃dd:Dd,oj [(Dd.shape i m.shape).d,(Dd.rank i m.rank).d,(Dd.turn i m.turn).d] (way-5)=some dd.d∧oX s dd:=by
    have w3:way-5=0∨way-5=1∨way-5=2:=by omega
    rcases w3 with w3|w3|w3 <;> rw[w3]
    ·exact⟨.shape i m.shape,rfl,hi,mo.s⟩
    ·exact⟨.rank i m.rank,rfl,hi,mo.r⟩
    ·exact⟨.turn i m.turn,rfl,hi,mo.t⟩
   refine⟨dd,M3,kd,t3,?_⟩;rw[av ((cz (bD (aB rfl rfl (by show aO.ok (D.bl (decide (way<5))) M3=_;rw[decide_eq_false h5])))).trans rfl)];exact(congrArg az (aJ (aB (fM (ds:=[(Dd.shape i m.shape).d,(Dd.rank i m.rank).d,(Dd.turn i m.turn).d]) (aD (dF (ds:=[.str "shape",.int i,su m.shape]) rfl) (aD (dF (ds:=[.str "rank",.int i,.int m.rank]) rfl) (aD (dF (ds:=[.str "turn",.int i,.int m.turn]) rfl) rfl)))) rfl (xC hd)))).trans rfl
noncomputable def bG (n:Int):Str:=toString n
noncomputable def Ea (c:Nat):Bool:=decide (48≤c)&&decide (c≤57)
noncomputable def iV (n:Int):Str:=if Txt.startswith (bG n) "-" then vf (bG n) (some 1) none else bG n
noncomputable def Kh (n:Int):Bool:=decide (1≤(iV n).length)&&(decide ((iV n).length≤4)&&((iV n).cps.toList.all Ea&&((intText? (bG n)==some n)&&((bG n).cps.toList.all (fun c=>c==45||Ea c)&&decide ((bG n).length≤5)))))
theorem HH:∀c:Fin 10,DZ "0123456789" ⟨#[48+c.val]⟩=true:=by decide +kernel
noncomputable def yr:Nat→Int→Bool
 | 0,_=>true
 | k+1,n=>Kh n&&yr k (n+1)
theorem xW:∀(k:Nat) (a n:Int),yr k a=true→a≤n→n<a+k→Kh n=true
 | 0,a,n,_,h1,h2=>by omega
 | k+1,a,n,h,h1,h2=>by
  have h:=Bool.and_eq_true_iff.mp (show(Kh a&&yr k (a+1))=true from h)
  by_cases q:n=a
  ·rw[q];exact h.1
  ·exact xW k (a+1) n h.2 (by omega) (by omega)
theorem Al:yr 3401 (-1000)=true:=by decide +kernel
theorem Gs {n:Int}(h1:-1000≤n)(h2:n≤2400):Kh n=true:=xW 3401 (-1000) n Al h1 (by omega)
theorem Dl {n:Int}(h1:-1000≤n)(h2:n≤2400):n.natAbs.log2<1920:=by
 have h3:n.natAbs<2 ^ 20:=by omega
 by_cases z:n.natAbs=0
 ·rw[z];decide
 ·have:=(Nat.log2_lt z).mpr h3;omega
theorem uj {n:Int}(h1:-1000≤n)(h2:n≤2400):iZ [.int n] M=.ok (.str (bG n)) M:=by
 unfold iZ;dsimp only;rw[if_pos (Dl h1 h2)];rfl
theorem Mi {α:Type}{f g:α→D}{ge:GE}{ρ:bI}{M:au}{t:iM}(ht:t.ok M=true):∀l:List α,(∀a,a∈l→ge (some (f a)::ρ) M=.ok (g a) M)→eS t aU ge (l.map f) ρ M=.ok (l.map g) M
 | [],_=>by
  show(if t.ok M=true then aO.ok [] M else .bad)=_;rw[if_pos ht];rfl
 | a::l,h=>by
  rw[map_cons,map_cons,eS,if_pos ht];show(match ge (some (f a)::ρ) M with | .ok e M2=>(eS t aU ge (l.map f) ρ M2).bind fun es M3=>.ok (e::es) M3|_=>.bad)=_;rw[h a mem_cons_self];dsimp only;rw[Mi ht l fun b hb=>h b (mem_cons_of_mem _ hb),ak]
theorem J9 {α:Type}{f g:α→D}{n:Nat}{sg:GG}{ge:GE}{ρ:bI}{M:au}{t:iM}(ht:t.ok M=true):∀l:List α,(∀a,a∈l→∃ρ1,sg (f a) (List.replicate n none++ρ)=some ρ1∧ge ρ1 M=.ok (g a) M)→bb t n sg aU ge (l.map f) ρ M=.ok (l.map g) M
 | [],_=>by
  show(if t.ok M=true then aO.ok [] M else .bad)=_;rw[if_pos ht];rfl
 | a::l,h=>by
  obtain⟨ρ1,e1,e2⟩:=h a mem_cons_self;rw[map_cons,map_cons,bb,if_pos ht,e1];show(match ge ρ1 M with | .ok e M2=>(bb t n sg aU ge (l.map f) ρ M2).bind fun es M3=>.ok (e::es) M3|_=>.bad)=_;rw[e2];dsimp only;rw[J9 ht l fun b hb=>h b (mem_cons_of_mem _ hb),ak]
theorem JH {α:Type}{f g:α→D}{ge:GE}{ρ:bI}{M:au}{t:iM}(ht:t.ok M=true):∀l:List α,(∀a,a∈l→ge (some (f a)::ρ) M=.ok (g a) M)→bO t 1 (cn 0) aU ge (l.map f) ρ M=.ok (l.map g) M
 | [],_=>by
  show(if t.ok M=true then aO.ok [] M else .bad)=_;rw[if_pos ht];rfl
 | a::l,h=>by
  rw[map_cons,map_cons,bO,if_pos ht];show(match ge (some (f a)::ρ) M with | .ok e M2=>(bO t 1 (cn 0) aU ge (l.map f) ρ M2).bind fun es M3=>.ok (e::es) M3 | .err c M2=>.err c M2 | .bad=>.bad)=_;rw[h a mem_cons_self];dsimp only;rw[JH ht l fun b hb=>h b (mem_cons_of_mem _ hb),ak]
variable{m:Option Nat}
theorem i8 {α:Type}{f g:α→D}{l:List α}(hi:gi ρ M=.ok ⟨l.map f,m⟩ M)(h:∀a,a∈l→ge (some (f a)::ρ) M=.ok (g a) M)(hl:l.length≤100000)(ht:iM.ok ⟨l.map f,m⟩ M=true:=by rfl):aM gi aU ge aA ρ M=.ok (.lst (l.map g)) M:=by
 unfold aM;rw[hi,ak];dsimp only;rw[Mi ht l h,ak];unfold aA;rw[if_pos (aQ (by rw[length_map];omega))]
theorem oy {α:Type}{f g:α→D}{sg:GG}{l:List α}(hi:gi ρ M=.ok ⟨l.map f,m⟩ M)(h:∀a,a∈l→∃ρ1,sg (f a) (List.replicate n none++ρ)=some ρ1∧ge ρ1 M=.ok (g a) M)(hl:l.length≤100000)(ht:iM.ok ⟨l.map f,m⟩ M=true:=by rfl):bU gi n sg aU ge aA ρ M=.ok (.lst (l.map g)) M:=by
 unfold bU;rw[hi,ak];dsimp only;rw[J9 ht l h,ak];unfold aA;rw[if_pos (aQ (by rw[length_map];omega))]
theorem lZ {α:Type}{f g:α→D}{mk:List D→au→aO D}{l:List α}(hi:gi ρ M=.ok ⟨l.map f,m⟩ M)(h:∀a,a∈l→ge (some (f a)::ρ) M=.ok (g a) M)(hl:l.length≤100000)(ht:iM.ok ⟨l.map f,m⟩ M=true:=by rfl):bM gi 1 (cn 0) aU ge mk ρ M=mk (l.map g) M:=by
 unfold bM;rw[hi,ak];dsimp only;rw[if_pos (aQ (by rw[length_map];omega)),JH ht l h,ak]
theorem sB (hl:ds.length≤100000):aA ds M=.ok (.lst ds) M:=by
 unfold aA;rw[if_pos (aQ (by omega))]
variable{k:Nat}
theorem Bc (h:ρ[i]?=some (some (.mr k)))(hm:M[k]?=some (.lst xs)):bq (af i) ρ M=.ok ⟨xs,some k⟩ M:=by
 unfold bq af;rw[h];show(match M[k]? with|some (.lst ds)=>aO.ok (iM.mk ds (some k)) M|_=>.bad)=_;rw[hm]
theorem rf (hm:M[k]?=some (.lst xs)):iM.ok ⟨xs,some k⟩ M=true:=by
 show(match M[k]? with|some (.lst ys)=>kQ ys xs|_=>false)=true;rw[hm];exact gZ xs
noncomputable def pS:Str:="0123456789abcdefghijklmnopqrstuvwxyzABCDEFGHIJKLMNOPQRSTUVWXYZ+-"
theorem CK:pS.cps.toList.length=64:=by decide +kernel
noncomputable def Fz (k:Int):Str:=⟨#[pS.cps.toList.getD k.toNat 0]⟩
theorem FU {k:Int}(h0:0≤k)(h1:k<64):oj pS.cps.toList k=some (pS.cps.toList.getD k.toNat 0):=by
 obtain⟨n,rfl⟩:=Int.eq_ofNat_of_zero_le h0;have hn:n<pS.cps.toList.length:=by rw[CK];omega
 refine ot ?_;rw[Int.toNat_natCast,List.getD,getElem?_eq_getElem hn];rfl
theorem za:pS.length≤sizeLine:=by
 have:pS.length=64:=by decide +kernel
 rw[this];exact aQ (by decide)
theorem rh {α:Type}(f:α→Str):∀xs:List α,kP (xs.map fun x=>D.str (f x))=some (xs.map f)
 | []=>rfl
 | x::xs=>by
  show(kP (xs.map fun x=>D.str (f x))).map (f x::·)=_;rw[rh f xs];rfl
variable{sep:Str}{ys:List Str}
theorem mG (hy:∀y∈ys,y.length≤n)(h:ys.length*n+ys.length*sep.length≤16777216):JoinOk sep ys=true:=by
 unfold JoinOk;rw[StrLaws.joinFits hy h];rfl
noncomputable def bf (ks:List Int):Str:=Txt.join "" (ks.map Fz)
theorem Dy (k:Int):(Fz k).length=1:=rfl
theorem xP {k:Int}(h0:0≤k)(h1:k<64):yP (.str pS) (.int k) M=.ok (.str (Fz k)) M:=by
 have e:=FU h0 h1;unfold yP;dsimp only;rw[if_pos za,e];rfl
variable{ks:List Int}
theorem wW (hk:∀k∈ks,0≤k∧k<64)(hl:ks.length≤1000):JoinOk "" (ks.map Fz)=true:=by
 refine mG (n:=1) (fun y hy=>?_) ?_
 ·obtain⟨k,_,rfl⟩:=mem_map.mp hy;exact Nat.le_of_eq (Dy k)
 ·have:("":Str).length=0:=by decide +kernel
  rw[this,length_map];omega
noncomputable def Bg (c:Nat):Int:=Txt.find pS ⟨#[c]⟩
noncomputable def bS (x:Str):List Int:=x.cps.toList.map Bg
theorem Ed (ks:List Int):((ks.map D.int).any fun y=>nY y (.int (-1)))=ks.any (·==-1):=by
 rw[any_map];rfl
theorem rT:∀ks:List Int,(ks.map D.int).all gU=true
 | []=>rfl
 | k::ks=>by rw[map_cons,all_cons,rT ks];rfl
variable{x:Str}
theorem B9 (hx:x.cps.size≤100000) :
  dB [.str x] M=if(bS x).any (·==-1) then .err "NoText" M else .ok (.lst ((bS x).map D.int)) M:=by
 have c:=oP (ds0:=gX x) (ge:=iK) (ρ:=[some (.str x),none]) (f:=fun d=>match d with | .str ⟨cs⟩=>.int (Txt.find pS ⟨cs⟩)|d=>d) (M:=M) (gX x) fun d hd=>by
  obtain⟨n,_,rfl⟩:=mem_map.mp hd;rfl
 have ec:(gX x).map (fun d=>match d with | .str ⟨cs⟩=>.int (Txt.find pS ⟨cs⟩)|d=>d)=(bS x).map D.int:=by
  unfold gX bS;rw[map_map,map_map];exact map_congr_left fun _ _=>rfl
 rw[ec] at c;have l0:(bS x).length=x.cps.size:=by simp[bS]
 have l1:(bS x).length≤sizeLine:=by rw[l0];exact aQ (by omega)
 have f1:=rT (bS x);have a1:=Ed (bS x);have i1:EI (.int (-1)) (.lst ((bS x).map D.int)) M=.ok (.bl ((bS x).any (·==-1))) M:=by
  unfold EI;dsimp only;unfold nU;show(if gU (.int (-1))&&((bS x).map D.int).all gU then aO.ok (D.bl ((((bS x).map D.int).any fun y=>nY y (.int (-1))) != false)) M else .bad)=_;rw[f1,a1];simp[gU]
 generalize (bS x).any (·==-1)=b at i1 ⊢;unfold dB i9;cases b <;> simp[aM,c,l1,i1,ax,aF,fJ,aH,aX,cT,aZ,HZ,DL.g2,sv,gC,iX,xy,af,bv,pq,az,aA,ak]
noncomputable def Dw (x:Str):Prop:=∀c∈x.cps.toList,c<0x110000
theorem jV (h:Dw x):PyData.strOk x=true:=by
 unfold PyData.strOk;rw[←Array.all_toList,all_eq_true];intro c hc;exact decide_eq_true (h c hc)
theorem tH {a b:Str}(h:a.cps.toList=b.cps.toList):a=b:=Str.ext' (Array.toList_inj.mp h)
theorem iO (sep:Str)(ps:List Str):Txt.join sep ps=Str.join sep ps:=StrLaws.glued_eq_join sep ps
theorem As:∀ps:List Str,(Txt.join "" ps).cps.toList=(ps.map fun p=>p.cps.toList).flatten:=by
 intro ps;rw[iO]
 induction ps with
 | nil=>rfl
 | cons p r ih=>
  cases r with
  | nil=>simp[Str.join]
  | cons q r=>
   show(p++""++Str.join "" (q::r)).cps.toList=_;simp only[Str.cps_append,Array.toList_append];rw[ih];simp only[map_cons,flatten_cons];have:(("":Str).cps.toList:List Nat)=[]:=by decide +kernel
   rw[this,append_nil]
theorem yh (x:Str):x.cps.toList.length=x.cps.size:=Array.length_toList
theorem K8 {a b:Str}(ha:Dw a)(hb:Dw b)(M:au):bj true (.str a) (.str b) M=.ok (.bl (!decide (a=b))) M:=by
 have h1:=jV ha;have h2:=jV hb;show(if(PyData.strOk a&&PyData.strOk b)=true then aO.ok (D.bl ((a==b) != true)) M else .bad)=_;rw[h1,h2]
 by_cases q:a=b <;> simp[q]
theorem Mu {a b:Str}(ha:Dw a)(hb:Dw b)(M:au):bj false (.str a) (.str b) M=.ok (.bl (decide (a=b))) M:=by
 have h1:=jV ha;have h2:=jV hb;show(if(PyData.strOk a&&PyData.strOk b)=true then aO.ok (D.bl ((a==b) != false)) M else .bad)=_;rw[h1,h2]
 by_cases q:a=b <;> simp[q]
theorem u6 {c:Nat}:∀{a b A B:List Nat},c∉a→c∉b→a++c::A=b++c::B→a=b∧A=B
 | [],[],A,B,_,_,h=>⟨rfl,(List.cons.inj h).2⟩
 | [],y::b,A,B,_,hb,h=>absurd (by rw[(List.cons.inj h).1];exact mem_cons_self ..) hb
 | x::a,[],A,B,ha,_,h=>absurd (by rw[←(List.cons.inj h).1];exact mem_cons_self ..) ha
 | x::a,y::b,A,B,ha,hb,h=>by
  obtain⟨h1,h2⟩:=List.cons.inj h;obtain⟨h3,h4⟩:=u6 (fun z=>ha (mem_cons_of_mem _ z)) (fun z=>hb (mem_cons_of_mem _ z)) h2;exact⟨by rw[h1,h3],h4⟩
theorem jN (c:Nat)(p q:Str)(r:List Str):(Str.join ⟨#[c]⟩ (p::q::r)).cps.toList=p.cps.toList++c::(Str.join ⟨#[c]⟩ (q::r)).cps.toList:=by
 show(p++⟨#[c]⟩++Str.join ⟨#[c]⟩ (q::r)).cps.toList=_;simp only[Str.cps_append,Array.toList_append];simp
theorem uW {c:Nat}:∀{ps qs:List Str},ps≠[]→qs≠[]→(∀p∈ps,c∉p.cps.toList)→(∀p∈qs,c∉p.cps.toList)→(Str.join ⟨#[c]⟩ ps).cps.toList=(Str.join ⟨#[c]⟩ qs).cps.toList→ps=qs
 | [],_,h,_,_,_,_=>absurd rfl h
 | _,[],_,h,_,_,_=>absurd rfl h
 | [p],[q],_,_,_,_,h=>by rw[tH (a:=p) (b:=q) h]
 | [p],q::q2::r,_,_,hp,_,h=>by
  rw[jN] at h;have:c∈p.cps.toList:=by
   show c∈(Str.join ⟨#[c]⟩ [p]).cps.toList;rw[h];simp
  exact absurd this (hp p (mem_cons_self ..))
 | p::p2::r,[q],_,_,_,hq,h=>by
  rw[jN] at h;have:c∈q.cps.toList:=by
   show c∈(Str.join ⟨#[c]⟩ [q]).cps.toList;rw[←h];simp
  exact absurd this (hq q (mem_cons_self ..))
 | p::p2::r,q::q2::r2,_,_,hp,hq,h=>by
  rw[jN,jN] at h;obtain⟨h1,h2⟩:=u6 (hp p (mem_cons_self ..)) (hq q (mem_cons_self ..)) h;rw[tH h1,uW (by simp) (by simp) (fun x hx=>hp x (mem_cons_of_mem _ hx)) (fun x hx=>hq x (mem_cons_of_mem _ hx)) h2]
theorem Ah (x y:Str):Txt.split x y≠[]:=fun h=>by
 have:=split_pos x y;rw[h] at this;simp at this
variable{c:Nat}{ps:List Str}
theorem k6 (hne:ps≠[])(hf:∀p∈ps,c∉p.cps.toList):Txt.split (Str.join ⟨#[c]⟩ ps) ⟨#[c]⟩=ps:=
 uW (Ah _ _) hne (StrLaws.split_free _ c) hf (by rw[StrLaws.join_split])
theorem kj {c k:Nat}:∀{ps:List Str},k∈(Str.join ⟨#[c]⟩ ps).cps.toList→k=c∨∃p∈ps,k∈p.cps.toList
 | [],h=>by simp[Str.join,Str.empty] at h
 | [p],h=>.inr ⟨p,mem_cons_self ..,h⟩
 | p::q::r,h=>by
  rw[jN,mem_append,mem_cons] at h;rcases h with h|h|h
  ·exact .inr ⟨p,mem_cons_self ..,h⟩
  ·exact .inl h
  ·rcases kj h with h|⟨x,hx,hk⟩
   ·exact .inl h
   ·exact .inr ⟨x,mem_cons_of_mem _ hx,hk⟩
theorem pz:("/":Str)=⟨#[47]⟩:=by decide +kernel
theorem AV:("\n":Str)=⟨#[10]⟩:=by decide +kernel
theorem yd:(" ":Str)=⟨#[32]⟩:=by decide +kernel
theorem yW (c:Nat)(hx:x.cps.size≤900000):ku x ⟨#[c]⟩=true:=by
 have h1:x.length=x.cps.size:=rfl;have h2:=split_le x ⟨#[c]⟩;have h3:=StrLaws.occ_length_le x ⟨#[c]⟩ 0 x.length (x.length+1);have h4:=len_partsBetween x (Builtin.Str.occurrences x ⟨#[c]⟩ 0 x.length (x.length+1)) (⟨#[c]⟩:Str).length;have z:((⟨#[c]⟩:Str).length==0)=false:=rfl;unfold ku;rw[z];have b1:x.length≤sizeLine:=aQ (by omega);have b2:(Builtin.Str.partsBetween x (Builtin.Str.occurrences x ⟨#[c]⟩ 0 x.length (x.length+1)) (⟨#[c]⟩:Str).length).length≤sizeLine:=aQ (by omega);have b3:(Txt.split x ⟨#[c]⟩).length≤sizeLine:=aQ (by omega);simp[b1,b2,b3]
noncomputable def Im (c:Nat):Bool:=decide (c≤127)&&(c != 32&&c != 10)
noncomputable def oh (x:Str):Bool:=x.cps.toList.all Im&&decide (x.cps.size≤300)
theorem sN (h:oh x=true)(hc:c∈x.cps.toList):c≤127∧c≠32∧c≠10:=by
 have:=all_eq_true.mp (Bool.and_eq_true_iff.mp h).1 c hc;simpa[Im] using this
theorem lA (h:oh x=true):x.length≤300:=of_decide_eq_true (Bool.and_eq_true_iff.mp h).2
theorem pj (h:oh x=true):Dw x:=fun c hc=>by have:=(sN h hc).1;omega
theorem Fg:∀k:Fin 64,Im (pS.cps.toList.getD k.val 0)=true∧pS.cps.toList.getD k.val 0≠47∧Bg (pS.cps.toList.getD k.val 0)=(k.val:Int):=by decide +kernel
theorem sV {k:Int}(h:0≤k∧k<64):Im (pS.cps.toList.getD k.toNat 0)=true∧pS.cps.toList.getD k.toNat 0≠47∧Bg (pS.cps.toList.getD k.toNat 0)=k:=by
 obtain⟨n,rfl⟩:=Int.eq_ofNat_of_zero_le h.1;exact Fg ⟨n,by omega⟩
theorem ow (ks:List Int):(bf ks).cps.toList=ks.map fun k=>pS.cps.toList.getD k.toNat 0:=by
 unfold bf;rw[As,map_map]
 induction ks with
 | nil=>rfl
 | cons k ks ih=>
  rw[map_cons,flatten_cons,ih];rfl
theorem l9 (ks:List Int):(bf ks).cps.size=ks.length:=by rw[←yh,ow,length_map]
noncomputable def fL (ks:List Int):Prop:=∀k,k∈ks→0≤k∧k<64
theorem tR (h:fL ks)(hl:ks.length≤300):oh (bf ks)=true:=by
 unfold oh;rw[l9,decide_eq_true hl,Bool.and_true,ow,all_map];exact all_eq_true.mpr fun k hk=>(sV (h k hk)).1
theorem Bp (h:fL ks):bS (bf ks)=ks:=by
 unfold bS;rw[ow,map_map];exact(map_congr_left fun k hk=>(sV (h k hk)).2.2).trans (map_id' _)
theorem A9 (h:fL ks):47∉(bf ks).cps.toList:=by
 rw[ow];intro hc;obtain⟨k,hk,e⟩:=mem_map.mp hc;exact(sV (h k hk)).2.1 e
theorem qV (h:fL ks)(hl:ks.length≤1000):dB [.str (bf ks)] M=.ok (.lst (ks.map D.int)) M:=by
 have e:=B9 (x:=bf ks) (M:=M) (by rw[l9];omega);rw[Bp h] at e;rw[e];have:ks.any (·==-1)=false:=by
  rw[Bool.eq_false_iff];intro z;obtain⟨k,hk,q⟩:=any_eq_true.mp z;have:=h k hk;have:=eq_of_beq q;omega
 rw[this,if_neg Bool.false_ne_true]
noncomputable def bV (rs:List (List Int)):Str:=Txt.join "/" (rs.map bf)
theorem eF (h:dD most rs){r:List Int}(hr:r∈rs):fL r∧1≤r.length∧(r.length:Int)≤most:=by
 obtain⟨_,_,w,w1,w2,hw⟩:=h;have:=hw r hr;exact⟨fun k hk=>by have:=this.2 k hk;omega,by omega,by omega⟩
theorem vY (h:dD most rs):Txt.split (bV rs) "/"=rs.map bf:=by
 unfold bV;rw[iO,pz];refine k6 (fun z=>?_) fun p hp=>?_
 ·have:=h.1;rw[map_eq_nil_iff.mp z] at this;exact absurd this (by decide)
 ·obtain⟨r,hr,rfl⟩:=mem_map.mp hp;exact A9 (eF h hr).1
theorem ph (h:dD most rs)(hm:most≤16):(bV rs).cps.size≤272:=by
 have h1:=StrLaws.join_length_le "/" (rs.map bf);have h3:("/":Str).length=1:=by decide +kernel
 have key:∀l:List (List Int),(∀r,r∈l→r∈rs)→((l.map bf).map (·.length)).sum≤l.length*16:=by
  intro l
  induction l with
  | nil=>intro _;exact Nat.le_refl _
  | cons r l ih=>
   intro hl;have i:=ih fun q hq=>hl q (mem_cons_of_mem _ hq)
   have s:(bf r).length=r.length:=l9 r;have:=(eF h (hl r mem_cons_self)).2.2;rw[map_cons,map_cons,sum_cons,s,length_cons];omega
 have h2:=key rs fun _ q=>q
 rw[h3,length_map] at h1;have l1:=h.2.1;show(Txt.join "/" (rs.map bf)).length≤_;rw[iO];omega
theorem iY (h:dD most rs)(hm:most≤16):oh (bV rs)=true:=by
 unfold oh;rw[decide_eq_true (show(bV rs).cps.size≤300 by have:=ph h hm;omega),Bool.and_true];refine all_eq_true.mpr fun c hc=>?_
 unfold bV at hc;rw[iO,pz] at hc;rcases kj hc with rfl|⟨p,hp,hk⟩
 ·rfl
 ·obtain⟨r,hr,rfl⟩:=mem_map.mp hp;have w:=tR (eF h hr).1 (by have:=(eF h hr).2.2;omega);exact all_eq_true.mp (Bool.and_eq_true_iff.mp w).1 c hk
noncomputable def wq:Option Int→D
 | none=>.non
 | some n=>.int n
noncomputable def ki:Option Int→Str
 | none=>"off"
 | some n=>bG n
noncomputable def nV (o:Option Int):Prop:=∀n,o=some n→-1000≤n∧n≤2400
structure Nm (n:Int):Prop where
 l1:1≤(iV n).length
 l4:(iV n).length≤4
 dg:∀c,c∈(iV n).cps.toList→48≤c∧c≤57
 it:intText? (bG n)=some n
 sg:∀c,c∈(bG n).cps.toList→c=45∨(48≤c∧c≤57)
 l5:(bG n).length≤5
theorem Be {n:Int}(h1:-1000≤n)(h2:n≤2400):Nm n:=by
 have h:=Gs h1 h2;unfold Kh at h;rw[Bool.and_eq_true,Bool.and_eq_true,Bool.and_eq_true,Bool.and_eq_true,Bool.and_eq_true] at h;obtain⟨a1,a2,a3,a4,a5,a6⟩:=h;refine⟨of_decide_eq_true a1,of_decide_eq_true a2,fun c hc=>?_,eq_of_beq a4,fun c hc=>?_,of_decide_eq_true a6⟩
 ·have:=all_eq_true.mp a3 c hc;simpa[Ea] using this
 ·have:=all_eq_true.mp a5 c hc;simpa[Ea] using this
theorem jb {n:Int}(h1:-1000≤n)(h2:n≤2400):oh (bG n)=true:=by
 have k:=Be h1 h2;unfold oh;rw[decide_eq_true (show(bG n).cps.size≤300 from Nat.le_trans k.l5 (by decide)),Bool.and_true];refine all_eq_true.mpr fun c hc=>?_
 have:=k.sg c hc;have a:c≤127:=by omega
 have b:c≠32:=by omega
 have d:c≠10:=by omega
 simp[Im,a,b,d]
theorem By:oh "off"=true:=by decide +kernel
theorem vK {o:Option Int}(h:nV o):oh (ki o)=true:=by
 cases o with
 | none=>exact By
 | some n=>exact jb (h n rfl).1 (h n rfl).2
theorem Do {n:Int}(h1:-1000≤n)(h2:n≤2400):bG n≠"off":=fun e=>by
 have:=(Be h1 h2).sg 111 (by rw[e];decide +kernel);omega
structure E3 (d:D)(x:Str):Prop where
 p:∀M,j9 [d] M=.ok (.str x) M
 l:∀M,iF [d] M=.ok (.str x) M
 w:oh x=true
theorem lU {o:Option Int}(h:nV o):E3 (wq o) (ki o):=by
 refine⟨fun M=>?_,fun M=>?_,vK h⟩
 ·cases o with
  | none=>rfl
  | some n=>
   show az ((iZ [.int n] M).bind fun d M1=>.ok (.rt d) M1)=_;rw[uj (h n rfl).1 (h n rfl).2];rfl
 ·cases o with
  | none=>rfl
  | some n=>
   refine(congrArg az (aJ (aB (f:=bt) (x:=.lst [.str (bG n),.str "off"]) (y:=.int 0) (M1:=M) (M2:=M) (fM (aD (eT rfl (uj (h n rfl).1 (h n rfl).2)) (aD rfl cK))) rfl (lc (k:=0) rfl)))).trans rfl
theorem pp (h:oh x=true):E3 (.str x) x:=⟨fun M=>rfl,fun M=>rfl,h⟩
theorem kW (h:∀y,y∈ys→oh y=true)(hl:ys.length≤20):JoinOk " " ys=true:=by
 have:(" ":Str).length=1:=by decide +kernel
 refine mG (n:=300) (fun y hy=>lA (h y hy)) ?_;rw[this];omega
theorem sP {ys:List D}(h:xs.length+ys.length≤100000):bh (.lst xs) (.lst ys) M=.ok (.lst (xs++ys)) M:=by
 show(if xs.length+ys.length≤sizeLine then aO.ok (D.lst (xs++ys)) M else .bad)=_;rw[if_pos (aQ (by omega))]
theorem oA {d:D}(h:mT d M=some (ys.map D.str))(hj:JoinOk sep ys=true):cI sep d M=.ok (.str (Txt.join sep ys)) M:=by
 unfold cI;rw[h];dsimp only;rw[show kP (ys.map D.str)=some ys from(rh (fun y=>y) ys).trans (by rw[map_id'])];dsimp only;rw[if_pos hj]
theorem dt {F:Str→D→au→aO D}{go:GE}{d:D}{o:aO D}(h1:go ρ M=.ok (.str x) M)(h2:ge ρ M=.ok d M)(h:F x d M=o):aP F go ge ρ M=o:=by
 unfold aP;rw[h1,ak];dsimp only;rw[h2,ak,h]
theorem sI {w:Str}{l:List (D×Str)}{d:D}(hw:oh w=true)(h:∀p,p∈l→E3 p.1 p.2)(hd:mM d M=.ok ⟨l.map (·.1),none⟩ M)(hl:l.length≤10):aV [.str w,d] M=.ok (.str (Txt.join " " (w::l.map (·.2)))) M:=by
 have c:aM (bq (af 1)) aU gq aA [some (.str w),some d] M=.ok (.lst (l.map fun p=>D.str p.2)) M:=by
  refine i8 (f:=fun p:D×Str=>p.1) (m:=none) (l:=l) ?_ (fun p hp=>?_) (by omega)
  ·show(mM d M)=_;exact hd
  ·unfold gq;exact aT rfl ((h p hp).p M)
 show az (iD [some (.str w),some d] M)=_;unfold iD;refine(congrArg az (aJ (dt (x:=" ") rfl (aB (f:=bh) (fM (aD (d:=.str w) rfl cK)) c (sP (by rw[length_map];show 1+_≤_;omega))) (oA (ys:=w::l.map (·.2)) ?_ (kW (fun y hy=>?_) (by rw[length_cons,length_map];omega)))))).trans rfl
 ·rw[map_cons,map_map];rfl
 ·rcases mem_cons.mp hy with e|e
  ·rw[e];exact hw
  ·obtain⟨p,hp,rfl⟩:=mem_map.mp e;exact(h p hp).w
theorem qK (h:fL ks)(hl:ks.length≤1000)(hi:gi ρ M=.ok ⟨ks.map D.int,none⟩ M)(he:∀k,0≤k∧k<64→ge (some (.int k)::ρ) M=.ok (.str (Fz k)) M) :
  aP cI (gC (.str "")) (aM gi aU ge aA) ρ M=.ok (.str (bf ks)) M:=by
 refine dt (x:="") (d:=.lst (ks.map fun k=>D.str (Fz k))) rfl (i8 (f:=D.int) (m:=none) hi (fun k hk=>he k (h k hk)) (by omega)) (oA (ys:=ks.map Fz) ?_ (wW h hl));rw[map_map];rfl
theorem vQ (h:fL ks)(hl:ks.length≤1000):gS [.tup (ks.map D.int)] M=.ok (.str (bf ks)) M:=by
 show az (jt [some (.tup (ks.map D.int))] M)=_;unfold jt;refine(congrArg az (aJ (qK h hl rfl fun k hk=>?_))).trans rfl;unfold jT;exact aB (f:=yP) (x:=.str pS) rfl rfl (xP hk.1 hk.2)
theorem nl (h:fL ks)(hl:ks.length≤1000):cL [.tup (ks.map D.int)] M=.ok (.str (bf ks)) M:=by
 show az (gw [some (.tup (ks.map D.int)),none] M)=_;unfold gw;rw[av (aG (d:=.str pS) (M1:=M) rfl)];show az (aH _ [some (.tup (ks.map D.int)),some (.str pS)] M)=_;refine(congrArg az (aJ (qK h hl rfl fun k hk=>?_))).trans rfl;unfold iG;exact aB (f:=yP) (x:=.str pS) rfl rfl (xP hk.1 hk.2)
theorem ww (h:dD most rs)(hm:most≤16):JoinOk "/" (rs.map bf)=true:=by
 have h3:("/":Str).length=1:=by decide +kernel
 have l1:=h.2.1;refine mG (n:=16) (fun y hy=>?_) (by rw[h3,length_map];omega);obtain⟨r,hr,rfl⟩:=mem_map.mp hy;have:=(eF h hr).2.2;show(bf r).cps.size≤16;rw[l9];omega
theorem k9 (h:dD most rs)(hm:most≤16)(hi:gi ρ M=.ok ⟨rs.map fun r=>.tup (r.map D.int),none⟩ M)(he:∀r,fL r→r.length≤1000→ge (some (.tup (r.map D.int))::ρ) M=.ok (.str (bf r)) M) :
  aP cI (gC (.str "/")) (aM gi aU ge aA) ρ M=.ok (.str (bV rs)) M:=by
 have l1:=h.2.1;refine dt (x:="/") (d:=.lst (rs.map fun r=>D.str (bf r))) rfl (i8 (f:=fun r=>D.tup (r.map D.int)) (m:=none) hi (fun r hr=>he r (eF h hr).1 (by have:=(eF h hr).2.2;omega)) (by omega)) (oA (ys:=rs.map bf) ?_ (ww h hm));rw[map_map];rfl
theorem qL (h:dD most rs)(hm:most≤16):eJ [aI rs] M=.ok (.str (bV rs)) M:=by
 show az (fZ [some (aI rs)] M)=_;unfold fZ;refine(congrArg az (aJ (k9 h hm rfl fun r h1 h2=>?_))).trans rfl;unfold iN;exact aT rfl (vQ h1 h2)
theorem sO {g:GE}{E zs:List D}(hi:ρ[i]?=some (some (.mr M.length)))(hg:g ρ (M++[.lst E])=.ok (.lst zs) (M++[.lst E]))(hl:E.length+zs.length≤1000000) :
  mw i g ρ (M++[.lst E])=.ok (.nx (ρ.set i (some (.mr M.length)))) (M++[.lst (E++zs)]):=by
 have v:af i ρ (M++[.lst E])=.ok (.mr M.length) (M++[.lst E]):=by
  unfold af;rw[hi]
 have a:xr (.mr M.length) (.lst zs) (M++[.lst E])=.ok (.mr M.length) (M++[.lst (E++zs)]):=by
  unfold xr;dsimp only;rw[pO];dsimp only;have e:mO (.lst zs) (M++[MO.lst E])=some zs:=rfl;rw[e];dsimp only;rw[if_pos (aQ hl),wH]
 unfold mw;rw[v,ak,hg,ak,a,ak]
noncomputable def lw (i:Nat):Str:=(["frame","floor","shift","pots","shape","mover","at"]:List Str).getD i ""
noncomputable def Cg (m:Mv):List (Option Int):=[m.shape.map fun k:Nat=>(k:Int),some m.x,some m.y,some m.rank,some m.turn]
theorem BP (m:Mv):m.d=.tup ((Cg m).map wq):=by
 rw[Hk];unfold Cg;cases m.shape <;> rfl
noncomputable def uI:Dd→Str
 | .shift _ _=>"shift"
 | .pot _ _=>"pot"
 | .move _ _ _=>"move"
 | .shape _ _=>"shape"
 | .rank _ _=>"rank"
 | .turn _ _=>"turn"
noncomputable def kK:Dd→List (Option Int)
 | .shift x y=>[some x,some y]
 | .pot x y=>[some x,some y]
 | .move i x y=>[some i,some x,some y]
 | .shape i o=>[some i,o.map fun k:Nat=>(k:Int)]
 | .rank i x=>[some i,some x]
 | .turn i x=>[some i,some x]
theorem xT (d:Dd):d.d=.tup (.str (uI d)::(kK d).map wq):=by
 cases d with
 | shape i o=>cases o <;> rfl
 | _=>rfl
noncomputable def aL (p:Int×Dd):D:=.tup [.int p.1,p.2.d]
structure ul (w h g m:Int)(s:jJ)(td:List (Int×Dd)):Prop where
 f:yQ w h g m
 st:o9 12 s
 rng:∀p,p∈td→0≤p.1∧p.1<h*(w+g)
 ord:(td.map (·.1)).Pairwise (·≤·)
 dd:∀p,p∈td→oX s p.2
 len:td.length≤200
noncomputable def rF (w h g m:Int):Nat×List Str:=(0,[bG w,bG h,bG g,bG m])
noncomputable def rB (b:List (List Int)):Nat×List Str:=(4,[bV b])
noncomputable def rM (m:Mv):Nat×List Str:=(5,(Cg m).map ki)
noncomputable def rA (p:Int×Dd):Nat×List Str:=(6,bG p.1::uI p.2::(kK p.2).map ki)
noncomputable def gY (w h g m:Int)(s:jJ):List (Nat×List Str):=[rF w h g m,(1,[bV s.floor]),(2,[bG s.sx,bG s.sy]),(3,[bf s.pots])]
noncomputable def dW (w h g m:Int)(s:jJ)(td:List (Int×Dd)):List (Nat×List Str):=gY w h g m s++s.book.map rB++s.movers.map rM++td.map rA
noncomputable def dh (r:Nat×List Str):Str:=Txt.join " " (lw r.1::r.2)
noncomputable def dY (w h g m:Int)(s:jJ)(td:List (Int×Dd)):Str:=Txt.join "\n" ((dW w h g m s td).map dh)
theorem m4 {n:Int}(h1:-1000≤n)(h2:n≤2400):nV (some n):=fun k e=>by cases e;exact⟨h1,h2⟩
theorem Ih (hn:n≤100)(h:∀k,o=some k→k<n):nV (o.map fun k:Nat=>(k:Int)):=fun k e=>by
 obtain⟨j,q,rfl⟩:=Option.map_eq_some_iff.mp e;have:=h j q;exact⟨by omega,by omega⟩
theorem ut {m:Mv}(hn:n≤100)(h:zb n m):∀o,o∈Cg m→nV o:=fun o ho=>by
 have a:=h.x;have b:=h.y;have c:=h.r;have d:=h.t;unfold Cg at ho;simp only[mem_cons,not_mem_nil,or_false] at ho;rcases ho with e|e|e|e|e <;> rw[e]
 ·exact Ih hn h.s
 all_goals exact m4 (by omega) (by omega)
theorem tD (ok:o9 mm s)(hm:mm≤12){d:Dd}(h:oX s d):∀o,o∈kK d→nV o:=fun o ho=>by
 have ml:=ok.ml;have bl:=ok.bl;cases d with
 | shift x y=>
  obtain⟨a,b⟩:=h;simp only[kK,mem_cons,not_mem_nil,or_false] at ho;rcases ho with e|e <;> rw[e] <;> exact m4 (by omega) (by omega)
 | pot x y=>
  obtain⟨a,b⟩:=h;simp only[kK,mem_cons,not_mem_nil,or_false] at ho;rcases ho with e|e <;> rw[e] <;> exact m4 (by omega) (by omega)
 | move i x y=>
  obtain⟨c,a,b⟩:=h;simp only[kK,mem_cons,not_mem_nil,or_false] at ho;rcases ho with e|e|e <;> rw[e] <;> exact m4 (by omega) (by omega)
 | shape i q=>
  obtain⟨c,a⟩:=h;simp only[kK,mem_cons,not_mem_nil,or_false] at ho;rcases ho with e|e <;> rw[e]
  ·exact m4 (by omega) (by omega)
  ·exact Ih (by omega) a
 | rank i x=>
  obtain⟨c,a⟩:=h;simp only[kK,mem_cons,not_mem_nil,or_false] at ho;rcases ho with e|e <;> rw[e] <;> exact m4 (by omega) (by omega)
 | turn i x=>
  obtain⟨c,a⟩:=h;simp only[kK,mem_cons,not_mem_nil,or_false] at ho;rcases ho with e|e <;> rw[e] <;> exact m4 (by omega) (by omega)
theorem Mp:((["shift","pot","move","shape","rank","turn"]:List Str).all oh)=true:=by decide +kernel
theorem tV (d:Dd):oh (uI d)=true:=all_eq_true.mp Mp _ (by cases d <;> simp[uI])
theorem rJ (h:i<7):oh (lw i)=true:=by
 have:∀k:Fin 7,oh (lw k.val)=true:=by decide +kernel
 exact this ⟨i,h⟩
theorem oZ {m:Int}(k:yQ w h g m):h*(w+g)≤2400:=by
 have h1:=k.h;have h2:=k.w;have h3:=k.g;exact Int.le_trans (Int.mul_le_mul (by omega:h≤40) (by omega:w+g≤60) (by omega) (by omega)) (by decide)
theorem xF {ys:List D}(h:xs.length+ys.length≤100000):bh (.tup xs) (.tup ys) M=.ok (.tup (xs++ys)) M:=by
 show(if xs.length+ys.length≤sizeLine then aO.ok (D.tup (xs++ys)) M else .bad)=_;rw[if_pos (aQ (by omega))]
variable{os:List (Option Int)}
theorem oY (hi:i<7)(h:∀o,o∈os→nV o)(hl:os.length≤9):aV [.str (lw i),.tup (os.map wq)] M=.ok (.str (dh (i,os.map ki))) M:=by
 have k:=sI (w:=lw i) (l:=os.map fun o=>(wq o,ki o)) (d:=.tup (os.map wq)) (M:=M) (rJ hi) (fun p hp=>by
  obtain⟨o,ho,rfl⟩:=mem_map.mp hp;exact lU (h o ho)) (by rw[map_map];rfl) (by rw[length_map];omega)
 rw[map_map] at k;exact k
theorem oR (hi:i<7)(hx:oh x=true):aV [.str (lw i),.lst [.str x]] M=.ok (.str (dh (i,[x]))) M:=
 sI (w:=lw i) (l:=[(.str x,x)]) (rJ hi) (fun p hp=>by rw[mem_singleton.mp hp];exact pp hx) rfl (show 1≤10 by decide)
variable{p:Int×Dd}
theorem DE (h1:-1000≤p.1∧p.1≤2400)(h:∀o,o∈kK p.2→nV o):aV [.str "at",.tup (.int p.1::.str (uI p.2)::(kK p.2).map wq)] M=.ok (.str (dh (rA p))) M:=by
 have hl:(kK p.2).length≤3:=by cases p.2 <;> simp[kK]
 have k:=sI (w:=lw 6) (l:=(.int p.1,bG p.1)::(.str (uI p.2),uI p.2)::(kK p.2).map fun o=>(wq o,ki o)) (d:=.tup (.int p.1::.str (uI p.2)::(kK p.2).map wq)) (M:=M) (rJ (by decide)) (fun q hq=>by
  rcases mem_cons.mp hq with e|hq
  ·rw[e];exact lU (o:=some p.1) (m4 h1.1 h1.2)
  ·rcases mem_cons.mp hq with e|hq
   ·rw[e];exact pp (tV p.2)
   ·obtain⟨o,ho,rfl⟩:=mem_map.mp hq;exact lU (h o ho)) (by rw[map_cons,map_cons,map_map];rfl) (by rw[length_cons,length_cons,length_map];omega)
 rw[map_cons,map_cons,map_map] at k;exact k
structure p8 (rs:List (Nat×List Str)):Prop where
 i:∀r,r∈rs→r.1<7
 l:∀r,r∈rs→r.2.length≤9
 w:∀r,r∈rs→∀x,x∈r.2→oh x=true
theorem rH:∀ys:List Str,(∀y,y∈ys→y.length≤300)→(ys.map (·.length)).sum≤ys.length*300
 | [],_=>Nat.le_refl _
 | y::ys,h=>by
  have i:=rH ys fun z hz=>h z (mem_cons_of_mem _ hz)
  have:=h y mem_cons_self;rw[map_cons,sum_cons,length_cons];omega
variable{r:Nat×List Str}
theorem iP {rs:List (Nat×List Str)}(h:p8 rs)(hr:r∈rs):∀y,y∈lw r.1::r.2→oh y=true:=fun y hy=>by
 rcases mem_cons.mp hy with e|e
 ·rw[e];exact rJ (h.i r hr)
 ·exact h.w r hr y e
theorem tF {rs:List (Nat×List Str)}(h:p8 rs)(hr:r∈rs):(dh r).length≤3010:=by
 have h1:=StrLaws.join_length_le " " (lw r.1::r.2);have h2:=rH (lw r.1::r.2) fun y hy=>lA (iP h hr y hy)
 have h3:(" ":Str).length=1:=by decide +kernel
 have h4:=h.l r hr;rw[h3] at h1;rw[length_cons] at h1 h2;unfold dh;rw[iO];omega
theorem sj {rs:List (Nat×List Str)}(h:p8 rs)(hl:rs.length≤250):JoinOk "\n" (rs.map dh)=true:=by
 have h3:("\n":Str).length=1:=by decide +kernel
 refine mG (n:=3010) (fun y hy=>?_) (by rw[h3,length_map];omega);obtain⟨r,hr,rfl⟩:=mem_map.mp hy;exact tF h hr
variable{td:List (Int×Dd)}
theorem mP {m:Int}(ok:ul w h g m s td):p8 (dW w h g m s td):=by
 have f:=ok.f;have st:=ok.st;have fw:=f.w;have fh:=f.h;have fg:=f.g;have fm:=f.m;have sx:=st.sx;have sy:=st.sy;have key:∀r,r∈dW w h g m s td→r.1<7∧r.2.length≤9∧∀x,x∈r.2→oh x=true:=fun r hr=>by
  unfold dW gY rF at hr;simp only[mem_append,mem_cons,not_mem_nil,or_false,mem_map] at hr;rcases hr with((((e|e|e|e)|⟨b,hb,e⟩)|⟨v,hv,e⟩)|⟨p,hp,e⟩)
  ·rw[e];refine⟨(by decide:(0:Nat)<7),by simp,fun x hx=>?_⟩;simp only[mem_cons,not_mem_nil,or_false] at hx;rcases hx with e|e|e|e <;> rw[e] <;> exact jb (by omega) (by omega)
  ·rw[e];refine⟨(by decide:(1:Nat)<7),by simp,fun x hx=>?_⟩;rw[mem_singleton.mp hx];exact iY st.floor (by decide)
  ·rw[e];refine⟨(by decide:(2:Nat)<7),by simp,fun x hx=>?_⟩;simp only[mem_cons,not_mem_nil,or_false] at hx;rcases hx with e|e <;> rw[e] <;> exact jb (by omega) (by omega)
  ·rw[e];refine⟨(by decide:(3:Nat)<7),by simp,fun x hx=>?_⟩;rw[mem_singleton.mp hx];exact tR (fun k hk=>by have:=st.pots k hk;omega) (by rw[st.pl];decide)
  ·rw[←e];refine⟨(by decide:(4:Nat)<7),(by decide:1≤9),fun x hx=>?_⟩;rw[mem_singleton.mp (show x∈[bV b] from hx)];exact iY (st.book b hb) (by decide)
  ·rw[←e];refine⟨(by decide:(5:Nat)<7),(by decide:5≤9),fun x hx=>?_⟩;obtain⟨o,ho,rfl⟩:=mem_map.mp (show x∈(Cg v).map ki from hx);exact vK (ut (by have:=st.bl;omega) (st.movers v hv) o ho)
  ·rw[←e];have hl:(kK p.2).length≤3:=by cases p.2 <;> simp[kK]
   have rg:=ok.rng p hp;have tl:=oZ f;refine⟨(by decide:(6:Nat)<7),?_,fun x hx=>?_⟩
   ·show(bG p.1::uI p.2::(kK p.2).map ki).length≤9;rw[length_cons,length_cons,length_map];omega
   ·rcases mem_cons.mp (show x∈bG p.1::uI p.2::(kK p.2).map ki from hx) with e|hx
    ·rw[e];exact jb (by omega) (by omega)
    ·rcases mem_cons.mp hx with e|hx
     ·rw[e];exact tV p.2
     ·obtain⟨o,ho,rfl⟩:=mem_map.mp hx;exact vK (tD st (by decide) (ok.dd p hp) o ho)
 exact⟨fun r hr=>(key r hr).1,fun r hr=>(key r hr).2.1,fun r hr=>(key r hr).2.2⟩
theorem pN {m:Int}(ok:ul w h g m s td):(dW w h g m s td).length≤224:=by
 have a:=ok.st.bl;have b:=ok.st.ml;have c:=ok.len;unfold dW gY;rw[length_append,length_append,length_append,length_map,length_map,length_map];show 4+_+_+_≤_;omega
theorem Ai {ga:GA}{M1:au}(h:ga ρ M=.ok ds M1)(hl:ds.length≤100000:=by exact Nat.le_of_ble_eq_true rfl):i6 ga ρ M=.ok (.mr M1.length) (M1++[.lst ds]):=by
 unfold i6;rw[h,ak];unfold b0;rw[if_pos (aQ (by omega))]
noncomputable def cc (r:Nat×List Str):D:=.str (dh r)
noncomputable abbrev pE (w h g m:Int)(s:jJ)(d3:D)(x:Option D):bI:=[some (eR w h g m),some s.d,some d3,some (aI s.floor),some (.tup [.int s.sx,.int s.sy]),some (.tup (s.book.map aI)),some (.tup (s.movers.map Mv.d)),some (.tup (s.pots.map D.int)),x]
theorem nM {m:Int}{d3:D}{mm:Option Nat}(ok:ul w h g m s td)(hM:iH M)(h3:∀E,mM d3 (M++E)=.ok ⟨td.map aL,mm⟩ (M++E)∧iM.ok ⟨td.map aL,mm⟩ (M++E)=true) :
  ir [eR w h g m,s.d,d3] M=.ok (.str (dY w h g m s td)) M:=by
 have f:=ok.f;have st:=ok.st;have fw:=f.w;have fh:=f.h;have fg:=f.g;have fm:=f.m;have sx:=st.sx;have sy:=st.sy;have bl:=st.bl;have ml:=st.ml;have tl:=ok.len;have tt:=oZ f;show lq M.length (az (fK [some (eR w h g m),some s.d,some d3,none,none,none,none,none,none] M))=_;unfold fK;rw[av (show i3 (dU [3,4,5,6,7]) (af 1) [some (eR w h g m),some s.d,some d3,none,none,none,none,none,none] M=.ok (.nx (pE w h g m s d3 none)) M from rfl)];have l0:=oY (i:=0) (os:=[some w,some h,some g,some m]) (M:=M) (by decide) (fun o ho=>by
  simp only[mem_cons,not_mem_nil,or_false] at ho;rcases ho with e|e|e|e <;> rw[e] <;> exact m4 (by omega) (by omega)) (show 4≤9 by decide)
 have l1:=oR (i:=1) (x:=bV s.floor) (M:=M) (by decide) (iY st.floor (by decide));have l2:=oY (i:=2) (os:=[some s.sx,some s.sy]) (M:=M) (by decide) (fun o ho=>by
  simp only[mem_cons,not_mem_nil,or_false] at ho;rcases ho with e|e <;> rw[e] <;> exact m4 (by omega) (by omega)) (show 2≤9 by decide)
 have hp:fL s.pots:=fun k hk=>by have:=st.pots k hk;omega
 have l3:=oR (i:=3) (x:=bf s.pots) (M:=M) (by decide) (tR hp (by rw[st.pl];decide));have mk:i6 (aa (aj 2 aV (aa (gC (.str "frame")) (aa (af 0) ai))) (aa (aj 2 aV (aa (gC (.str "floor")) (aa (eB (aa (aj 1 eJ (aa (af 3) ai)) ai)) ai))) (aa (aj 2 aV (aa (gC (.str "shift")) (aa (af 4) ai))) (aa (aj 2 aV (aa (gC (.str "pots")) (aa (eB (aa (aj 1 gS (aa (af 7) ai)) ai)) ai))) ai))))
   (pE w h g m s d3 none) M=.ok (.mr M.length) (M++[.lst ((gY w h g m s).map cc)]):=by
  have a:=aD (bC (a:=gC (.str "frame")) (b:=af 0) (ρ:=(pE w h g m s d3 none)) rfl rfl l0)
   (aD (bC (a:=gC (.str "floor")) rfl (fM (aD (aT (a:=af 3) rfl (qL st.floor (by decide))) cK)) l1)
   (aD (bC (a:=gC (.str "shift")) (b:=af 4) rfl rfl l2) (aD (bC (a:=gC (.str "pots")) rfl (fM (aD (aT (a:=af 7) rfl (vQ hp (by rw[st.pl];decide))) cK)) l3) cK)))
  exact Ai a
 rw[av (aG mk)];show lq M.length (az (ax _ _ (pE w h g m s d3 (some (.mr M.length))) _))=_;have c1:aM (bq (af 5)) aU fR aA (pE w h g m s d3 (some (.mr M.length))) (M++[.lst ((gY w h g m s).map cc)])=.ok (.lst (s.book.map fun b=>cc (rB b))) (M++[.lst ((gY w h g m s).map cc)]):=
  i8 (f:=aI) (m:=none) (fT rfl) (fun b hb=>by
   unfold fR;exact bC (a:=gC (.str "shape")) rfl (fM (aD (aT (a:=af 0) rfl (qL (st.book b hb) (by decide))) cK)) (oR (i:=4) (by decide) (iY (st.book b hb) (by decide)))) (by omega)
 rw[av (sO rfl c1 (by rw[length_map,length_map];show 4+_≤_;omega))];generalize hE1:(gY w h g m s).map cc++s.book.map (fun b=>cc (rB b))=E1;have le1:E1.length≤12:=by
  rw[←hE1,length_append,length_map,length_map];show 4+_≤_;omega
 show lq M.length (az (ax _ _ (pE w h g m s d3 (some (.mr M.length))) (M++[.lst E1])))=_;have c2:aM (bq (af 6)) aU fV aA (pE w h g m s d3 (some (.mr M.length))) (M++[.lst E1])=.ok (.lst (s.movers.map fun b=>cc (rM b))) (M++[.lst E1]):=
  i8 (f:=Mv.d) (m:=none) (fT rfl) (fun v hv=>by
   unfold fV;refine bC (a:=gC (.str "mover")) (b:=af 0) (y:=v.d) rfl rfl ?_;rw[BP];exact oY (i:=5) (by decide) (ut (by omega) (st.movers v hv)) (show 5≤9 by decide)) (by omega)
 rw[av (sO rfl c2 (by rw[length_map];omega))];generalize hE2:E1++s.movers.map (fun b=>cc (rM b))=E2;have le2:E2.length≤24:=by
  rw[←hE2,length_append,length_map];omega
 show lq M.length (az (ax _ _ (pE w h g m s d3 (some (.mr M.length))) (M++[.lst E2])))=_;have c3:bU (bq (af 2)) 2 (dU [0,1]) aU fU aA (pE w h g m s d3 (some (.mr M.length))) (M++[.lst E2])=.ok (.lst (td.map fun b=>cc (rA b))) (M++[.lst E2]):=
  oy (f:=aL) (m:=mm) (h3 _).1 (fun p hp=>by
   have rg:=ok.rng p hp;have hl:(kK p.2).length≤3:=by cases p.2 <;> simp[kK]
   refine⟨_,rfl,?_⟩;unfold fU;refine bC (a:=gC (.str "at")) rfl (aB (f:=bh) (x:=.tup [.int p.1]) (y:=p.2.d) (dF (aD (d:=.int p.1) rfl cK)) rfl (by
    rw[xT];exact xF (by simp only[length_cons,length_map,length_nil];omega))) (DE ⟨by omega,by omega⟩ (tD st (by decide) (ok.dd p hp)))) (by omega) (h3 _).2
 rw[av (sO rfl c3 (by rw[length_map];omega))];have eE:E2++td.map (fun b=>cc (rA b))=((dW w h g m s td).map dh).map D.str:=by
  rw[←hE2,←hE1];unfold dW;rw[map_map,map_append,map_append,map_append,map_map,map_map,map_map];rfl
 rw[eE];have jj:aP cI (gC (.str "\n")) (af 8) (pE w h g m s d3 (some (.mr M.length))) (M++[.lst (((dW w h g m s td).map dh).map D.str)])=.ok (.str (dY w h g m s td)) (M++[.lst (((dW w h g m s td).map dh).map D.str)]):=
  dt (x:="\n") (d:=.mr M.length) rfl rfl (oA (ys:=(dW w h g m s td).map dh) (by
   unfold mT;dsimp only;rw[pO]) (sj (mP ok) (by have:=pN ok;omega)))
 show lq M.length (az (aH _ (pE w h g m s d3 (some (.mr M.length))) _))=_;rw[aJ jj];exact xM rfl hM
theorem ox {α:Type}{f g:α→D}{sg:GG}{b:GS}{N:au}{ds0:List D}{P:bI→Prop}:∀(l:List α) (E:List D) (ρ:bI),P ρ→(∀a,a∈l→∀ρ E,P ρ→E.length≤1000→∃ρ1,sg (f a) ρ=some ρ1∧P ρ1∧b ρ1 (N++[.lst E])=.ok (.nx ρ1) (N++[.lst (E++[g a])]))→E.length+l.length≤1000→
  ∃ρ',P ρ'∧dj ⟨ds0,none⟩ sg b (l.map f) ρ (N++[.lst E])=.ok (.nx ρ') (N++[.lst (E++l.map g)])
 | [],E,ρ,hP,_,_=>⟨ρ,hP,by rw[map_nil,map_nil,append_nil];rfl⟩
 | a::l,E,ρ,hP,h,hl=>by
  rw[length_cons] at hl;obtain⟨ρ1,e1,p1,e2⟩:=h a mem_cons_self ρ E hP (by omega);obtain⟨ρ',p',e3⟩:=ox (f:=f) (g:=g) (ds0:=ds0) l (E++[g a]) ρ1 p1 (fun b hb=>h b (mem_cons_of_mem _ hb)) (by rw[length_append];simp only[length_cons,length_nil];omega);refine⟨ρ',p',?_⟩;rw[map_cons,dj,if_pos (show iM.ok ⟨ds0,none⟩ (N++[.lst E])=true from rfl),e1];dsimp only;rw[e2,ak];dsimp only;rw[e3,append_assoc];rfl
theorem kA {a b:Str}(h:a.length+b.length≤100000):bh (.str a) (.str b) M=.ok (.str (a++b)) M:=by
 show(if a.length+b.length≤sizeLine then aO.ok (D.str (a++b)) M else .bad)=_;rw[if_pos (aQ (by omega))]
theorem JD (a b:Str):Txt.join " " [a,b]=a++" "++b:=iO " " [a,b]
theorem IU (a b c:Str):Txt.join " " [a,b,c]=a++" "++b++" "++c:=by
 rw[iO];show a++" "++(b++" "++c)=_;apply tH;simp only[Str.cps_append,Array.toList_append,append_assoc]
theorem yA:(lw 1++" ":Str)="floor "∧(lw 2++" ":Str)="shift "∧(lw 3++" ":Str)="pots "∧(lw 4++" ":Str)="shape ":=by decide +kernel
theorem sr {a:Str}(h:(lw i++" ":Str)=a):dh (i,[x])=a++x:=by
 unfold dh;rw[JD,h]
theorem zd (x y:Str):dh (2,[x,y])="shift "++x++" "++y:=by
 unfold dh;rw[IU,yA.2.1]
noncomputable abbrev lE (w h g m:Int)(s:jJ)(td:List (Int×Dd))(x8 x9 x10 x11 x12:Option D):bI:=[some (eR w h g m),some s.d,some (.lst (td.map aL)),some (aI s.floor),some (.tup [.int s.sx,.int s.sy]),some (.tup (s.book.map aI)),some (.tup (s.movers.map Mv.d)),some (.tup (s.pots.map D.int)),x8,x9,x10,x11,x12]
theorem oO {n:Int}{g:GE}(h:g ρ M=.ok (.int n) M)(h1:-1000≤n)(h2:n≤2400):aC iZ (aa g ai) ρ M=.ok (.str (bG n)) M:=eT h (uj h1 h2)
theorem ol {go:GE}{E:List D}{d:D}(h1:go ρ (M++[.lst E])=.ok (.mr M.length) (M++[.lst E]))(h2:ge ρ (M++[.lst E])=.ok d (M++[.lst E]))(h:E.length≤1000):gP (kL go ge) ρ (M++[.lst E])=.ok (.nx ρ) (M++[.lst (E++[d])]):=tJ (Hc h1 h2 (by omega))
theorem yb {pre:List Str}{ga:GA}(hp:∀x,x∈pre→oh x=true)(hl:pre.length+os.length≤15)(h:∀o,o∈os→nV o)(ha:ga ρ M=.ok (pre.map D.str) M)(hi:gi ρ M=.ok ⟨os.map wq,none⟩ M)(he:∀o,nV o→o∈os→ge (some (wq o)::ρ) M=.ok (.str (ki o)) M) :
  aP cI (gC (.str " ")) (g2 bh (eB ga) (aM gi aU ge aA)) ρ M=.ok (.str (Txt.join " " (pre++os.map ki))) M:=by
 refine dt (x:=" ") rfl (aB (f:=bh) (fM ha (by rw[length_map];omega)) (i8 (f:=wq) (g:=fun o=>D.str (ki o)) (m:=none) hi (fun o ho=>he o (h o ho) ho) (by omega)) (sP (by rw[length_map,length_map];omega))) (oA (ys:=pre++os.map ki) ?_ (kW (fun y hy=>?_) (by rw[length_append,length_map];omega)))
 ·rw[map_append,map_map];rfl
 ·rcases mem_append.mp hy with e|e
  ·exact hp y e
  ·obtain⟨o,ho,rfl⟩:=mem_map.mp e;exact vK (h o ho)
theorem wu {m:Int}(ok:ul w h g m s td)(hM:iH M) :
  eV [eR w h g m,s.d,.lst (td.map aL)] M=.ok (.str (dY w h g m s td)) M:=by
 have f:=ok.f;have st:=ok.st;have fw:=f.w;have fh:=f.h;have fg:=f.g;have fm:=f.m;have sx:=st.sx;have sy:=st.sy;have bl:=st.bl;have ml:=st.ml;have tl:=ok.len;have tt:=oZ f;have hp:fL s.pots:=fun k hk=>by have:=st.pots k hk;omega
 have wx:=lA (jb (n:=s.sx) (by omega) (by omega));have wy:=lA (jb (n:=s.sy) (by omega) (by omega));have wf:=lA (iY st.floor (by decide));have wp:=lA (tR hp (by rw[st.pl];decide));have c5:("floor ":Str).length=6∧("shift ":Str).length=6∧("pots ":Str).length=5∧("shape ":Str).length=6∧(" ":Str).length=1:=by decide +kernel
 show lq M.length (az (cE [some (eR w h g m),some s.d,some (.lst (td.map aL)),none,none,none,none,none,none,none,none,none,none] M))=_;unfold cE;rw[av (show i3 (dU [3,4,5,6,7]) (af 1) [some (eR w h g m),some s.d,some (.lst (td.map aL)),none,none,none,none,none,none,none,none,none,none] M=.ok (.nx (lE w h g m s td none none none none none)) M from rfl)];have r0:=yb (pre:=["frame"]) (os:=[some w,some h,some g,some m]) (gi:=bq (af 0)) (ge:=cX) (ga:=aa (gC (.str "frame")) ai) (ρ:=lE w h g m s td none none none none none) (M:=M) (fun x hx=>by
   rw[mem_singleton.mp hx];exact rJ (i:=0) (by decide)) (show 5≤15 by decide) (fun o ho=>by
   simp only[mem_cons,not_mem_nil,or_false] at ho;rcases ho with e|e|e|e <;> rw[e] <;> exact m4 (by omega) (by omega)) rfl rfl (fun o h1 ho=>by
   unfold cX;cases o with
   | none=>simp at ho
   | some n=>exact oO rfl (h1 n rfl).1 (h1 n rfl).2)
 rw[av (aG (Ai (aD r0 cK)))];show lq M.length (az (ax _ _ (lE w h g m s td (some (.mr M.length)) none none none none) (M++[.lst [cc (rF w h g m)]])))=_;have r1:g2 bh (gC (.str "floor ")) (aP cI (gC (.str "/")) (aM (bq (af 3)) aU cW aA)) (lE w h g m s td (some (.mr M.length)) none none none none) (M++[.lst [cc (rF w h g m)]])=.ok (cc (1,[bV s.floor])) (M++[.lst [cc (rF w h g m)]]):=by
  refine aB (f:=bh) rfl (k9 st.floor (by decide) rfl fun r h1 h2=>?_) ?_
  ·unfold cW;exact aT rfl (nl h1 h2)
  ·unfold cc;rw[sr yA.1];exact kA (by omega)
 rw[av (ol rfl r1 (show 1≤1000 by decide))];generalize hN:M++[MO.lst ([cc (rF w h g m)]++[cc (1,[bV s.floor])])]=N;have hNl:N[M.length]?=some (.lst [cc (rF w h g m),cc (1,[bV s.floor])]):=by rw[←hN];exact pO _ _
 have r2:eB (aa (g2 bh (g2 bh (g2 bh (gC (.str "shift ")) (aC iZ (aa (g2 bt (af 4) (gC (.int 0))) ai))) (gC (.str " "))) (aC iZ (aa (g2 bt (af 4) (gC (.int 1))) ai))) (aa (g2 bh (gC (.str "pots ")) (aj 1 cL (aa (af 7) ai))) ai)) (lE w h g m s td (some (.mr M.length)) none none none none) N
   = .ok (.lst [cc (2,[bG s.sx,bG s.sy]),cc (3,[bf s.pots])]) N:=by
  unfold cc;rw[zd,sr yA.2.2.1];refine fM (aD (aB (f:=bh) (x:=.str ("shift "++bG s.sx++" ")) (M1:=N) (aB (f:=bh) (x:=.str ("shift "++bG s.sx)) (M1:=N) (aB (f:=bh) (x:=.str "shift ") rfl (oO rfl (by omega) (by omega)) (kA (by omega))) (y:=.str " ") rfl (kA (by rw[strLen_append];omega))) (oO rfl (by omega) (by omega)) (kA (by rw[strLen_append,strLen_append];omega))) (aD (aB (f:=bh) (x:=.str "pots ") rfl (aT (a:=af 7) rfl (nl hp (by rw[st.pl];decide))) (kA (by omega))) cK))
 have r3:g2 p6 (af 8) (eB (aa (g2 bh (g2 bh (g2 bh (gC (.str "shift ")) (aC iZ (aa (g2 bt (af 4) (gC (.int 0))) ai))) (gC (.str " "))) (aC iZ (aa (g2 bt (af 4) (gC (.int 1))) ai))) (aa (g2 bh (gC (.str "pots ")) (aj 1 cL (aa (af 7) ai))) ai))) (lE w h g m s td (some (.mr M.length)) none none none none) N
   = .ok (.mr N.length) (N++[.lst ((gY w h g m s).map cc)]):=by
  refine aB (f:=p6) (x:=.mr M.length) rfl r2 ?_;unfold p6;rw[show mO (.mr M.length) N=some [cc (rF w h g m),cc (1,[bV s.floor])] by unfold mO;dsimp only;rw[hNl]];show(if 4≤sizeLine then aO.ok (D.mr N.length) (N++[.lst ((gY w h g m s).map cc)]) else .bad)=_;rw[if_pos (aQ (by decide))]
 rw[av (aG r3)];show lq M.length (az (ax _ _ (lE w h g m s td (some (.mr N.length)) none none none none) (N++[.lst ((gY w h g m s).map cc)])))=_;have l4:((gY w h g m s).map cc).length=4:=rfl;obtain⟨ρ1,⟨x9,x10,x11,x12,rfl⟩,f1⟩:=ox (P:=fun ρ=>∃x9 x10 x11 x12,ρ=lE w h g m s td (some (.mr N.length)) x9 x10 x11 x12) (ds0:=s.book.map aI) (f:=aI) (g:=fun b=>cc (rB b)) (sg:=cn 9) (b:=cY) (N:=N) s.book ((gY w h g m s).map cc) _ ⟨_,_,_,_,rfl⟩ (fun b hb ρ E hP hE=>by
   obtain⟨x9,x10,x11,x12,rfl⟩:=hP;refine⟨lE w h g m s td (some (.mr N.length)) (some (aI b)) x10 x11 x12,rfl,⟨_,_,_,_,rfl⟩,?_⟩;unfold cY;refine ol rfl (aB (f:=bh) (x:=.str "shape ") rfl (k9 (st.book b hb) (by decide) rfl fun r h1 h2=>?_) ?_) hE
   ·unfold ef;exact aT rfl (nl h1 h2)
   ·unfold cc rB;rw[sr yA.2.2.2];have:=lA (iY (st.book b hb) (by decide));exact kA (by omega)) (by omega)
 rw[av (ng rfl f1)];generalize hE1:(gY w h g m s).map cc++s.book.map (fun b=>cc (rB b))=E1;have le1:E1.length≤12:=by
  rw[←hE1,length_append,length_map,length_map];show 4+_≤_;omega
 obtain⟨ρ2,⟨y9,y10,y11,y12,rfl⟩,f2⟩:=ox (P:=fun ρ=>∃x9 x10 x11 x12,ρ=lE w h g m s td (some (.mr N.length)) x9 x10 x11 x12) (ds0:=s.movers.map Mv.d) (f:=Mv.d) (g:=fun b=>cc (rM b)) (sg:=cn 10) (b:=cZ) (N:=N) s.movers E1 _ ⟨x9,x10,x11,x12,rfl⟩ (fun v hv ρ E hP hE=>by
   obtain⟨x9,x10,x11,x12,rfl⟩:=hP;refine⟨lE w h g m s td (some (.mr N.length)) x9 (some v.d) x11 x12,rfl,⟨_,_,_,_,rfl⟩,?_⟩;unfold cZ;refine ol rfl (yb (pre:=["mover"]) (os:=Cg v) (fun x hx=>?_) (show 6≤15 by decide) (ut (by omega) (st.movers v hv)) rfl ?_ fun o h1 _=>?_) hE
   ·rw[mem_singleton.mp hx];exact rJ (i:=5) (by decide)
   ·rw[BP];rfl
   ·unfold eh;exact aT rfl ((lU h1).l _)) (by omega)
 rw[av (ng rfl f2)];generalize hE2:E1++s.movers.map (fun b=>cc (rM b))=E2;have le2:E2.length≤24:=by
  rw[←hE2,length_append,length_map];omega
 obtain⟨ρ3,⟨z9,z10,z11,z12,rfl⟩,f3⟩:=ox (P:=fun ρ=>∃x9 x10 x11 x12,ρ=lE w h g m s td (some (.mr N.length)) x9 x10 x11 x12) (ds0:=td.map aL) (f:=aL) (g:=fun b=>cc (rA b)) (sg:=dU [11,12]) (b:=de) (N:=N) td E2 _ ⟨y9,y10,y11,y12,rfl⟩ (fun p hp ρ E hP hE=>by
   obtain⟨x9,x10,x11,x12,rfl⟩:=hP;have rg:=ok.rng p hp;have hl:(kK p.2).length≤3:=by cases p.2 <;> simp[kK]
   refine⟨lE w h g m s td (some (.mr N.length)) x9 x10 (some (.int p.1)) (some p.2.d),rfl,⟨_,_,_,_,rfl⟩,?_⟩;unfold de;refine ol rfl (dt (x:=" ") rfl (aB (f:=bh) (fM (aD (d:=.str "at") rfl (aD (oO (g:=af 11) rfl (by omega) (by omega)) cK))) (i8 (f:=fun q:D×Str=>q.1) (g:=fun q=>D.str q.2) (m:=none) (l:=(.str (uI p.2),uI p.2)::(kK p.2).map fun o=>(wq o,ki o)) ?_ (fun q hq=>?_) ?_) (sP ?_)) (oA (ys:=lw 6::bG p.1::uI p.2::(kK p.2).map ki) ?_ (kW ?_ ?_))) hE
   ·rw[map_cons,map_map];show mM p.2.d _=_;rw[xT];rfl
   ·unfold eK;rcases mem_cons.mp hq with e|hq
    ·rw[e];exact aT rfl ((pp (tV p.2)).l _)
    ·obtain⟨o,ho,rfl⟩:=mem_map.mp hq;exact aT rfl ((lU (tD st (by decide) (ok.dd p hp) o ho)).l _)
   ·rw[length_cons,length_map];omega
   ·simp only[length_cons,length_map,length_nil];omega
   ·rw[map_cons,map_map,map_cons,map_cons,map_cons,map_map];rfl
   ·intro y hy;have q:=iP (r:=rA p) (mP ok) (by unfold dW;exact mem_append.mpr (.inr (mem_map.mpr ⟨p,hp,rfl⟩)));exact q y hy
   ·simp only[length_cons,length_map];omega) (by omega)
 rw[av (ng rfl f3)];have eE:E2++td.map (fun b=>cc (rA b))=((dW w h g m s td).map dh).map D.str:=by
  rw[←hE2,←hE1];unfold dW;rw[map_map,map_append,map_append,map_append,map_map,map_map,map_map];rfl
 rw[eE];have jj:aP cI (gC (.str "\n")) (af 8) (lE w h g m s td (some (.mr N.length)) z9 z10 z11 z12) (N++[.lst (((dW w h g m s td).map dh).map D.str)])=.ok (.str (dY w h g m s td)) (N++[.lst (((dW w h g m s td).map dh).map D.str)]):=
  dt (x:="\n") (d:=.mr N.length) rfl rfl (oA (ys:=(dW w h g m s td).map dh) (by
   unfold mT;dsimp only;rw[pO]) (sj (mP ok) (by have:=pN ok;omega)))
 rw[aJ jj,←hN,append_assoc];exact xM rfl hM
theorem Ga {α:Type}{f:α→D}{l:List α}(hi:gi ρ M=.ok ⟨l.map f,none⟩ M)(hl:l.length≤100000)(h:∀a,a∈l→ge (some (f a)::ρ) M=.ok (.bl false) M) :
  aC zM (aa (aM gi aU ge aA) ai) ρ M=.ok (.bl false) M:=by
 refine eT (x:=.lst (l.map fun _=>D.bl false)) (i8 (m:=none) hi h hl) ?_;have e:bZ (l.map fun _=>D.bl false)=some (l.map fun _=>false):=by
  clear hi hl h
  induction l with
  | nil=>rfl
  | cons a l ih=>
   show(bZ (l.map fun _=>D.bl false)).map (false::·)=_;rw[ih];rfl
 show(match bZ (l.map fun _=>D.bl false) with|some bs=>aO.ok (D.bl (bs.any id)) M|none=>.bad)=_;rw[e];dsimp only;rw[any_map];have:(l.any (id ∘ fun _=>false))=false:=by
  rw[Bool.eq_false_iff];intro z;obtain⟨_,_,q⟩:=any_eq_true.mp z;cases q
 rw[this]
theorem yN (h:ρ[i]?=some (some (.str x)))(hx:x.length≤1000):iX (af i) ρ M=.ok ⟨x.cps.toList.map fun c=>D.str ⟨#[c]⟩,none⟩ M:=by
 unfold iX af;rw[h];show xy (.str x) M=_;unfold xy;rfl
theorem oI {n:Int}(h1:-1000≤n)(h2:n≤2400):eZ [.str (bG n)] M=.ok (.int n) M:=by
 have k:=Be h1 h2;have w:=jb h1 h2;have fl:=k.l4;have f1:=k.l1;have sl:(bG n).length≤sizeLine:=aQ (by have:=k.l5;omega);show az (ft [some (.str (bG n)),none,none] M)=_;unfold ft;have e1:nS (dG (aP ky (af 0) (gC (.str "-")))) (D9 (af 0) (iq (gC (.int 1))) df) (af 0) [some (.str (bG n)),none,none] M=.ok (.str (iV n)) M:=by
  have t:dG (aP ky (af 0) (gC (.str "-"))) [some (.str (bG n)),none,none] M=.ok (Txt.startswith (bG n) "-") M:=cy (dt (x:=bG n) rfl rfl rfl);unfold nS;rw[t,ak];unfold iV;cases Txt.startswith (bG n) "-" with
  | true=>
   rw[if_pos rfl,if_pos rfl];show(if(bG n).length≤sizeLine then aO.ok (D.str (vf (bG n) (some 1) none)) M else .bad)=_;rw[if_pos sl]
  | false=>
   rw[if_neg Bool.false_ne_true,if_neg Bool.false_ne_true];rfl
 rw[av (aG e1)];show az (ax _ _ [some (.str (bG n)),some (.str (iV n)),none] M)=_;have ln:aC bx (aa (af 1) ai) [some (.str (bG n)),some (.str (iV n)),none] M=.ok (.int ((iV n).length:Int)) M:=by
  refine eT rfl ?_;show(if(iV n).length≤sizeLine then aO.ok (D.int (iV n).length) M else .bad)=_;rw[if_pos (aQ (by omega))]
 have t1:cH (aZ (oQ lL lL (gC (.int 1)) (aC bx (aa (af 1) ai)) (gC (.int 4)))) [some (.str (bG n)),some (.str (iV n)),none] M=.ok false M:=by
  have c:=n8 (a:=gC (.int 1)) (c:=gC (.int 4)) (x:=1) (z:=4) rfl ln rfl;rw[decide_eq_true (by omega),decide_eq_true (by omega)] at c;exact cr (x:=true) (bD c)
 have t2:dG (aC zM (aa (aM (iX (af 1)) aU eN aA) ai)) [some (.str (bG n)),some (.str (iV n)),none] M=.ok false M:=by
  refine cy (Ga (yN rfl (by omega)) (by show(iV n).cps.toList.length≤_;rw[yh];show(iV n).length≤_;omega) fun c hc=>?_);unfold eN;refine aB (f:=Df) (x:=.str ⟨#[c]⟩) (y:=.str "0123456789") rfl rfl ?_;have d:=k.dg c hc;have q:=HH ⟨c-48,by omega⟩;rw[show 48+(⟨c-48,by omega⟩:Fin 10).val=c by show 48+(c-48)=c;omega] at q;show aO.ok (D.bl (!DZ "0123456789" ⟨#[c]⟩)) M=_;rw[q];rfl
 rw[av ((cz (et (x:=false) (y:=false) t1 fun _=>t2)).trans rfl)];have e3:aC zt (aa (af 0) ai) [some (.str (bG n)),some (.str (iV n)),none] M=.ok (.int n) M:=by
  refine eT rfl ?_;show(match PySem.intText? (bG n) with|some n'=>if(bG n).length≤640 then aO.ok (D.int n') M else .bad|none=>.bad)=_;rw[k.it];dsimp only;rw[if_pos (by have:=k.l5;omega)]
 rw[av (aG e3)];show az (ax _ _ [some (.str (bG n)),some (.str (iV n)),some (.int n)] M)=_;have t4:aZ (g2 (bj true) (aC iZ (aa (af 2) ai)) (af 0)) [some (.str (bG n)),some (.str (iV n)),some (.int n)] M=.ok false M:=by
  have e:=K8 (pj w) (pj w) M;rw[decide_eq_true rfl] at e;exact bD (aB (f:=bj true) (oO (g:=af 2) rfl h1 h2) rfl e)
 rw[av ((cz t4).trans rfl)];rfl
theorem fQ (h:∀o,o∈os→nV o)(hl:os.length≤100):dA [.lst ((os.map ki).map D.str)] M=.ok (.tup (os.map wq)) M:=by
 show az (fW [some (.lst ((os.map ki).map D.str))] M)=_;unfold fW;have c:bM (bq (af 0)) 1 (cn 0) aU fc aA [some (.lst ((os.map ki).map D.str))] M=.ok (.lst (os.map wq)) M:=by
  refine(lZ (f:=fun o=>D.str (ki o)) (g:=wq) (m:=none) (l:=os) (by rw[s9 (xs:=(os.map ki).map D.str) rfl,map_map];rfl) (fun o ho=>?_) (by omega)).trans (sB (by rw[length_map];omega));have e:=Mu (pj (vK (h o ho))) (pj By) M;unfold fc nS;rw[bD (aB (f:=bj false) (a:=af 0) (b:=gC (.str "off")) (x:=.str (ki o)) (M1:=M) rfl rfl e),ak];cases o with
  | none=>rw[if_pos (decide_eq_true (show ki none="off" from rfl))];rfl
  | some n=>
   have b:=h _ ho n rfl;rw[if_neg (by rw[decide_eq_false (show ki (some n)≠"off" from Do b.1 b.2)];exact Bool.false_ne_true)];exact aT rfl (oI b.1 b.2)
 exact(congrArg az (aJ (eT (F:=bL) c rfl))).trans rfl
theorem vH {d:D}:gW [.lst [d]] M=.ok d M:=rfl
theorem DY {d:D}(h:M[k]?=some (.lst [d])):gW [.mr k] M=.ok d M:=by
 show az (sT [some (.mr k)] M)=_;unfold sT;have io:bE (.mr k) M=some [d]:=by
  unfold bE;dsimp only;rw[h]
 have ln:aC bx (aa (af 0) ai) [some (.mr k)] M=.ok (.int 1) M:=by
  refine eT rfl ?_;show(match bE (.mr k) M with|some xs=>aO.ok (D.int xs.length) M|none=>.bad)=_;rw[io];rfl
 have t:aZ (g2 (bj true) (aC bx (aa (af 0) ai)) (gC (.int 1))) [some (.mr k)] M=.ok false M:=bD (aB (f:=bj true) ln (b:=gC (.int 1)) (y:=.int 1) rfl (yu 1 1 M));rw[av ((cz t).trans rfl)];refine(congrArg az (aJ (aB (f:=bt) (x:=.mr k) (y:=.int 0) (o:=.ok d M) rfl rfl ?_))).trans rfl;unfold bt;rw[io];rfl
theorem tK (hs:sep=⟨#[c]⟩)(hx:x.cps.size≤900000)(h:Txt.split x sep=ps):dE x (.str sep) M=.ok (.lst (ps.map D.str)) M:=by
 unfold dE;dsimp only;rw[if_pos (by rw[hs];exact yW c hx),h]
theorem mY (h:dD most rs)(hm:most≤16):fO [.lst [.str (bV rs)]] M=.ok (aI rs) M:=by
 show az (fX [some (.lst [.str (bV rs)])] M)=_;unfold fX;have l1:=h.2.1;have c:bM (bq (aP dE (aj 1 gW (aa (af 0) ai)) (gC (.str "/")))) 1 (cn 0) aU fj aA [some (.lst [.str (bV rs)])] M=.ok (.lst (rs.map fun r=>.tup (r.map D.int))) M:=by
  refine(lZ (f:=fun r=>D.str (bf r)) (g:=fun r=>D.tup (r.map D.int)) (m:=none) (l:=rs) ?_ (fun r hr=>?_) (by omega)).trans (sB (by rw[length_map];omega))
  ·unfold bq;rw[dt (F:=dE) (x:=bV rs) (d:=.str "/") (aT rfl vH) rfl (tK pz (by have:=ph h hm;omega) (vY h)),ak,map_map];rfl
  ·unfold fj;exact eT (F:=bL) (aT rfl (qV (eF h hr).1 (by have:=(eF h hr).2.2;omega))) rfl
 exact(congrArg az (aJ (eT (F:=bL) c rfl))).trans rfl
theorem tY (h1:-1000≤p.1∧p.1≤2400)(h:∀o,o∈kK p.2→nV o):jl [.lst ((rA p).2.map D.str)] M=.ok (aL p) M:=by
 have hl:(kK p.2).length≤3:=by cases p.2 <;> simp[kK]
 show az (fS [some (.lst (.str (bG p.1)::.str (uI p.2)::((kK p.2).map ki).map D.str))] M)=_;unfold fS;have t:aZ (g2 p0 (aC bx (aa (af 0) ai)) (gC (.int 2))) [some (.lst (.str (bG p.1)::.str (uI p.2)::((kK p.2).map ki).map D.str))] M=.ok false M:=by
  refine bD (aB (f:=p0) (eT (F:=bx) (M1:=M) rfl rfl) rfl ?_);show aO.ok (D.bl (decide (((D.str (bG p.1)::D.str (uI p.2)::((kK p.2).map ki).map D.str).length:Int)<2))) M=_;rw[decide_eq_false (by simp only[length_cons];omega)]
 rw[av ((cz t).trans rfl)];have c2:zJ (af 0) (iq (gC (.int 2))) df [some (.lst (.str (bG p.1)::.str (uI p.2)::((kK p.2).map ki).map D.str))] M=.ok (.lst (((kK p.2).map ki).map D.str)) M:=by
  show aO.ok (D.lst (lH (.str (bG p.1)::.str (uI p.2)::((kK p.2).map ki).map D.str) (some 2) none)) M=_;rw[Jj]
 unfold aL;rw[xT];exact(congrArg az (aJ (dF (aD (aT (aB (f:=bt) rfl rfl (lc (k:=0) rfl)) (oI h1.1 h1.2)) (aD (aB (f:=bh) (dF (aD (aB (f:=bt) (a:=af 0) (b:=gC (.int 1)) rfl rfl (lc (k:=1) rfl)) cK)) (aT c2 (fQ h (by omega))) (xF (by simp only[length_cons,length_map,length_nil];omega))) cK))))).trans rfl
theorem Gk {j:Nat}(hi:i<7)(hj:j<7)(h:lw i=lw j):i=j:=by
 have k:∀a b:Fin 7,lw a.val=lw b.val→a=b:=by decide +kernel
 exact congrArg Fin.val (k ⟨i,hi⟩ ⟨j,hj⟩ h)
noncomputable def qx (n:Nat)(l:List Nat):List (gV×D):=l.map fun i=>(.inr (lw i),.mr (n+1+i))
theorem sZ {n i:Nat}(hi:i<7):∀l:List Nat,(∀j,j∈l→j<7)→jI (qx n l) (.inr (lw i))=if i∈l then some (.mr (n+1+i)) else none
 | [],_=>rfl
 | j::l,h=>by
  have ih:=sZ (n:=n) hi l fun k hk=>h k (mem_cons_of_mem _ hk)
  have g:jI (qx n (j::l)) (.inr (lw i))=if(Sum.inr (lw j):gV)=.inr (lw i) then some (D.mr (n+1+j)) else jI (qx n l) (.inr (lw i)):=by
   unfold jI qx;rw[map_cons,find?_cons]
   by_cases q:(Sum.inr (lw j):gV)=.inr (lw i)
   ·rw[decide_eq_true q,if_pos q];rfl
   ·rw[decide_eq_false q,if_neg q]
  rw[g]
  by_cases q:j=i
  ·subst q;rw[if_pos rfl,if_pos mem_cons_self]
  ·rw[if_neg (fun e=>q (Gk (h j mem_cons_self) hi (Sum.inr.inj e))),ih];have:(i∈j::l)↔i∈l:=by
    rw[mem_cons];exact⟨fun z=>z.elim (fun e=>absurd e.symm q) id,.inr⟩
   by_cases z:i∈l
   ·rw[if_pos z,if_pos (this.mpr z)]
   ·rw[if_neg z,if_neg (fun y=>z (this.mp y))]
noncomputable def yF (M:au)(a:Nat):au:=M++.dK (qx M.length (List.range a))::List.replicate a (.lst [])
theorem yn {l:au}{o:MO}:(M++l).set (M.length+k) o=M++l.set k o:=by
 rw[set_append_right _ _ (Nat.le_add_right _ _),Nat.add_sub_cancel_left]
theorem tN {l:au}:(M++l)[M.length+k]?=l[k]?:=by
 rw[getElem?_append_right (Nat.le_add_right _ _),Nat.add_sub_cancel_left]
theorem v9 {M:au}{ρ:bI}{ds0:List D}:∀c a:Nat,a+c=7→ck ⟨ds0,none⟩ M.length 1 (cn 0) (af 0) (i6 ai) ((List.range' a c).map fun i=>D.str (lw i)) ρ (yF M a)=.ok () (yF M 7)
 | 0,a,h=>by
  have:a=7:=by omega
  subst this;rfl
 | c+1,a,h=>by
  have ih:=v9 (M:=M) (ρ:=ρ) (ds0:=ds0) c (a+1) (by omega);rw[range'_succ,map_cons,ck,if_pos (show iM.ok ⟨ds0,none⟩ (yF M a)=true from rfl)];have e:vN M.length (.str (lw a)) (.mr (yF M a).length) (yF M a++[.lst []])=.ok () (yF M (a+1)):=by
   have l:(yF M a).length=M.length+1+a:=by
    unfold yF;rw[length_append,length_cons,length_replicate];omega
   have g0:(yF M a++[MO.lst []])[M.length]?=some (.dK (qx M.length (List.range a))):=by
    unfold yF;rw[append_assoc];have:=tN (M:=M) (l:=(.dK (qx M.length (List.range a))::List.replicate a (.lst []))++[MO.lst []]) (k:=0);rw[Nat.add_zero] at this;rw[this];rfl
   have gk:=sZ (n:=M.length) (i:=a) (by omega) (List.range a) fun j hj=>by have:=mem_range.mp hj;omega
   rw[if_neg (fun z=>Nat.lt_irrefl _ (mem_range.mp z))] at gk;unfold vN;rw[g0];dsimp only;rw[show jE (.str (lw a))=some (.inr (lw a)) from rfl];dsimp only;rw[gk];dsimp only;rw[if_pos (Nat.lt_of_lt_of_le (show(qx M.length (List.range a)).length<1000000 by unfold qx;rw[length_map,length_range];omega) (aQ (Nat.le_refl _))),l];unfold yF;rw[append_assoc];have:=yn (M:=M) (l:=(.dK (qx M.length (List.range a))::List.replicate a (.lst []))++[MO.lst []]) (k:=0) (o:=.dK (qx M.length (List.range a)++[(.inr (lw a),.mr (M.length+1+a))]));rw[Nat.add_zero] at this;rw[this,range_succ,replicate_succ'];unfold qx;rw[map_append];rfl
  show(match i6 ai (some (.str (lw a))::ρ) (yF M a) with | .ok v M2=>(match vN M.length (.str (lw a)) v M2 with | .ok _ M3=>ck ⟨ds0,none⟩ M.length 1 (cn 0) (af 0) (i6 ai) ((List.range' (a+1) c).map fun i=>D.str (lw i)) ρ M3|_=>aO.bad)|_=>aO.bad)=_;rw[Cu];dsimp only;rw[e];exact ih
noncomputable def wl (xs:List Str):D:=.lst (xs.map D.str)
noncomputable def bk (M:au)(v:Nat→List (List Str)):au:=M++.dK (qx M.length (List.range 7))::(List.range 7).map fun i=>.lst ((v i).map wl)
theorem Af (M:au)(v:Nat→List (List Str)):(bk M v)[M.length]?=some (.dK (qx M.length (List.range 7))):=by
 have:=tN (M:=M) (l:=.dK (qx M.length (List.range 7))::(List.range 7).map fun i=>.lst ((v i).map wl)) (k:=0);rw[Nat.add_zero] at this;exact this.trans rfl
variable{v:Nat→List (List Str)}
theorem qZ (hi:i<7):(bk M v)[M.length+1+i]?=some (.lst ((v i).map wl)):=by
 have:=tN (M:=M) (l:=.dK (qx M.length (List.range 7))::(List.range 7).map fun i=>.lst ((v i).map wl)) (k:=1+i);rw[←Nat.add_assoc] at this;refine this.trans ?_
 match i,hi with
 | 0,_=>rfl
 | 1,_=>rfl
 | 2,_=>rfl
 | 3,_=>rfl
 | 4,_=>rfl
 | 5,_=>rfl
 | 6,_=>rfl
 | n+7,h=>omega
noncomputable def cA (v:Nat→List (List Str))(i:Nat)(xs:List Str):Nat→List (List Str):=fun j=>if j=i then v j++[xs] else v j
theorem FC {xs:List Str}(hi:i<7):(bk M v).set (M.length+1+i) (.lst ((v i).map wl++[wl xs]))=bk M (cA v i xs):=by
 have:=yn (M:=M) (l:=.dK (qx M.length (List.range 7))::(List.range 7).map fun i=>.lst ((v i).map wl)) (k:=1+i) (o:=.lst ((v i).map wl++[wl xs]));rw[←Nat.add_assoc] at this;refine this.trans ?_;have e:(v i).map wl++[wl xs]=(cA v i xs i).map wl:=by unfold cA;rw[if_pos rfl,map_append];rfl
 rw[e];unfold bk;congr 1
 match i,hi with
 | 0,_=>rfl
 | 1,_=>rfl
 | 2,_=>rfl
 | 3,_=>rfl
 | 4,_=>rfl
 | 5,_=>rfl
 | 6,_=>rfl
 | n+7,h=>omega
theorem yf (hi:i<7):dJ (.mr M.length) (.str (lw i)) (bk M v)=.ok (.mr (M.length+1+i)) (bk M v):=by
 have gk:=sZ (n:=M.length) (i:=i) hi (List.range 7) fun j hj=>mem_range.mp hj
 rw[if_pos (mem_range.mpr hi)] at gk;unfold dJ;dsimp only;rw[Af];dsimp only;rw[show jE (.str (lw i))=some (.inr (lw i)) from rfl];dsimp only;rw[gk]
theorem yK {rs:List (Nat×List Str)}(h:p8 rs)(hr:r∈rs):Txt.split (dh r) " "=lw r.1::r.2:=by
 unfold dh;rw[iO,yd];exact k6 (by simp) fun p hp z=>(sN (iP h hr p hp) z).2.1 rfl
noncomputable def F5 (v:Nat→List (List Str)):List (Nat×List Str)→Nat→List (List Str)
 | []=>v
 | r::rs=>F5 (cA v r.1 r.2) rs
theorem pH {M:au}{t:Str}{ds0:List D}:∀(rs:List (Nat×List Str)) (v:Nat→List (List Str)) (x2 x3:Option D),p8 rs→(∀i,(v i).length+rs.length≤1000)→
  ∃y2 y3,dj ⟨ds0,none⟩ (cn 2) cf (rs.map cc) [some (.str t),some (.mr M.length),x2,x3] (bk M v)=.ok (.nx [some (.str t),some (.mr M.length),y2,y3]) (bk M (F5 v rs))
 | [],v,x2,x3,_,_=>⟨x2,x3,rfl⟩
 | r::rs,v,x2,x3,h,hl=>by
  have hr:r∈r::rs:=mem_cons_self;have hi:=h.i r hr;obtain⟨y2,y3,e⟩:=pH (M:=M) (t:=t) (ds0:=ds0) rs (cA v r.1 r.2) (some (cc r)) (some (wl (lw r.1::r.2))) ⟨fun q hq=>h.i q (mem_cons_of_mem _ hq),fun q hq=>h.l q (mem_cons_of_mem _ hq),fun q hq=>h.w q (mem_cons_of_mem _ hq)⟩ (fun i=>by
   have:=hl i;rw[length_cons] at this;unfold cA;split
   ·rw[length_append];simp only[length_cons,length_nil];omega
   ·omega)
  refine⟨y2,y3,?_⟩;have b:cf [some (.str t),some (.mr M.length),some (cc r),x3] (bk M v)=.ok (.nx [some (.str t),some (.mr M.length),some (cc r),some (wl (lw r.1::r.2))]) (bk M (cA v r.1 r.2)):=by
   unfold cf;rw[av (aG (dt (F:=dE) (x:=dh r) (d:=.str " ") rfl rfl (tK yd (by have:(dh r).cps.size≤3010:=tF h hr;omega) (yK h hr))))];show ax _ _ [some (.str t),some (.mr M.length),some (cc r),some (wl (lw r.1::r.2))] (bk M v)=_;have ix:g2 bt (af 3) (gC (.int 0)) [some (.str t),some (.mr M.length),some (cc r),some (wl (lw r.1::r.2))] (bk M v)=.ok (.str (lw r.1)) (bk M v):=aB (f:=bt) rfl rfl (lc (k:=0) rfl);have t1:aZ (g2 (nW true) (g2 bt (af 3) (gC (.int 0))) (af 1)) [some (.str t),some (.mr M.length),some (cc r),some (wl (lw r.1::r.2))] (bk M v)=.ok false (bk M v):=by
    refine bD (aB (f:=nW true) ix (y:=.mr M.length) rfl ?_);have gk:=sZ (n:=M.length) (i:=r.1) hi (List.range 7) fun j hj=>mem_range.mp hj
    rw[if_pos (mem_range.mpr hi)] at gk;unfold nW;dsimp only;rw[Af];dsimp only;rw[show jE (.str (lw r.1))=some (.inr (lw r.1)) from rfl];dsimp only;rw[gk];rfl
   rw[av ((cz t1).trans rfl)];have cu:zJ (af 3) (iq (gC (.int 1))) df [some (.str t),some (.mr M.length),some (cc r),some (wl (lw r.1::r.2))] (bk M v)=.ok (wl r.2) (bk M v):=by
    show aO.ok (D.lst (lH (.str (lw r.1)::r.2.map D.str) (some 1) none)) (bk M v)=_;rw[Jz];rfl
   have vl:=hl r.1;refine(tJ (HF (aB (f:=dJ) rfl ix (yf hi)) (qZ hi) cu (qZ hi) (by rw[length_map];omega))).trans ?_;rw[FC hi]
  rw[map_cons,dj,if_pos (show iM.ok ⟨ds0,none⟩ (bk M v)=true from rfl)];show(cf [some (.str t),some (.mr M.length),some (cc r),x3] (bk M v)).bind _=_;rw[b,ak];exact e
theorem Cb (i:Nat):∀(rs:List (Nat×List Str)) (v:Nat→List (List Str)),F5 v rs i=v i++(rs.filter fun r=>r.1==i).map (·.2)
 | [],v=>by rw[F5,filter_nil,map_nil,append_nil]
 | r::rs,v=>by
  rw[F5,Cb i rs,filter_cons];unfold cA
  by_cases q:r.1=i
  ·rw[if_pos q.symm,if_pos (by rw[q];exact beq_self_eq_true i),map_cons,append_assoc];rfl
  ·rw[if_neg (fun e=>q e.symm),if_neg (by simpa using q)]
theorem wC {rs:List (Nat×List Str)}(h:p8 rs)(hne:rs≠[]):Txt.split (Txt.join "\n" (rs.map dh)) "\n"=rs.map dh:=by
 rw[iO,AV];refine k6 (fun z=>hne (map_eq_nil_iff.mp z)) fun p hp z=>?_
 obtain⟨r,hr,rfl⟩:=mem_map.mp hp;unfold dh at z;rw[iO,yd] at z;rcases kj z with e|⟨y,hy,hk⟩
 ·cases e
 ·exact(sN (iP h hr y hy) hk).2.2 rfl
theorem zI {rs:List (Nat×List Str)}(h:p8 rs)(hl:rs.length≤250):(Txt.join "\n" (rs.map dh)).cps.size≤900000:=by
 have h1:=StrLaws.join_length_le "\n" (rs.map dh);have h3:("\n":Str).length=1:=by decide +kernel
 have key:∀l:List (Nat×List Str),(∀r,r∈l→r∈rs)→((l.map dh).map (·.length)).sum≤l.length*3010:=by
  intro l
  induction l with
  | nil=>intro _;exact Nat.le_refl _
  | cons r l ih=>
   intro hl;have i:=ih fun q hq=>hl q (mem_cons_of_mem _ hq)
   have:=tF h (hl r mem_cons_self);rw[map_cons,map_cons,sum_cons,length_cons];omega
 have h2:=key rs fun _ q=>q
 rw[h3,length_map] at h1;show(Txt.join "\n" (rs.map dh)).length≤_;rw[iO];omega
theorem AL {rs:List (Nat×List Str)}(h:p8 rs)(hne:rs≠[])(hl:rs.length≤250):dN [.str (Txt.join "\n" (rs.map dh))] M=.ok (.mr M.length) (bk M (F5 (fun _=>[]) rs)):=by
 generalize ht:Txt.join "\n" (rs.map dh)=t;have sp:Txt.split t "\n"=rs.map dh:=by rw[←ht];exact wC h hne
 have sz:t.cps.size≤900000:=by rw[←ht];exact zI h hl
 show az (dM [some (.str t),none,none,none] M)=_;unfold dM;have d:kn (yc ["frame","floor","shift","pots","shape","mover","at"]) 1 (cn 0) (af 0) (i6 ai) [some (.str t),none,none,none] M=.ok (.mr M.length) (bk M fun _=>[]):=by
  have g:=v9 (M:=M) (ρ:=[some (.str t),none,none,none]) (ds0:=(List.range' 0 7).map fun i=>D.str (lw i)) 7 0 rfl;show(ck ⟨(List.range' 0 7).map fun i=>D.str (lw i),none⟩ M.length 1 (cn 0) (af 0) (i6 ai) ((List.range' 0 7).map fun i=>D.str (lw i)) [some (.str t),none,none,none] (yF M 0)).bind (fun _ M2=>aO.ok (D.mr M.length) M2)=_;rw[g,ak];rfl
 rw[av (aG d)];show az (ax _ _ [some (.str t),some (.mr M.length),none,none] (bk M fun _=>[]))=_;obtain⟨y2,y3,e⟩:=pH (M:=M) (t:=t) (ds0:=rs.map cc) rs (fun _=>[]) none none h (fun i=>by simp only[length_nil];omega);have gi:bq (aP dE (af 0) (gC (.str "\n"))) [some (.str t),some (.mr M.length),none,none] (bk M fun _=>[])=.ok ⟨rs.map cc,none⟩ (bk M fun _=>[]):=by
  unfold bq;rw[dt (F:=dE) (x:=t) (d:=.str "\n") rfl rfl (tK AV sz sp),ak,map_map];rfl
 rw[av (ng gi e)];rfl
theorem mK {α:Type}{f:α→Nat×List Str}{k i:Nat}(h:∀a,(f a).1=k):∀l:List α,((l.map f).filter fun r=>r.1==i).map (·.2)=if k=i then l.map fun a=>(f a).2 else []
 | []=>by rw[map_nil,filter_nil,map_nil,map_nil];split <;> rfl
 | a::l=>by
  have ih:=mK (i:=i) h l;rw[map_cons,filter_cons,h a]
  by_cases q:k=i
  ·rw[if_pos q] at ih ⊢;rw[if_pos (by rw[q];exact beq_self_eq_true i),map_cons,ih,map_cons]
  ·rw[if_neg q] at ih ⊢;rw[if_neg (by simpa using q),ih]
noncomputable def jC (w h g m:Int)(s:jJ)(td:List (Int×Dd)):Nat→List (List Str):=F5 (fun _=>[]) (dW w h g m s td)
theorem BS (w h g m:Int)(s:jJ)(td:List (Int×Dd))(i:Nat):jC w h g m s td i=((gY w h g m s).filter fun r=>r.1==i).map (·.2)++(if 4=i then s.book.map fun b=>[bV b] else [])++(if 5=i then s.movers.map fun v=>(Cg v).map ki else [])++(if 6=i then td.map fun p=>(rA p).2 else []):=by
 unfold jC dW;rw[Cb,filter_append,filter_append,filter_append,map_append,map_append,map_append,mK (k:=4) (fun _=>rfl),mK (k:=5) (fun _=>rfl),mK (k:=6) (fun _=>rfl)];rfl
structure L7 (w h g m:Int)(s:jJ)(td:List (Int×Dd))(v:Nat→List (List Str)):Prop where
 v0:v 0=[([some w,some h,some g,some m]:List (Option Int)).map ki]
 v1:v 1=[[bV s.floor]]
 v2:v 2=[([some s.sx,some s.sy]:List (Option Int)).map ki]
 v3:v 3=[[bf s.pots]]
 v4:v 4=s.book.map fun b=>[bV b]
 v5:v 5=s.movers.map fun v=>(Cg v).map ki
 v6:v 6=td.map fun p=>(rA p).2
theorem Bb (w h g m:Int)(s:jJ)(td:List (Int×Dd)):L7 w h g m s td (jC w h g m s td):=by
 refine⟨?_,?_,?_,?_,?_,?_,?_⟩ <;> rw[BS]
 ·rfl
 ·rfl
 ·rfl
 ·rfl
 ·rw[if_pos rfl,if_neg (by decide),if_neg (by decide),append_nil,append_nil];rfl
 ·rw[if_pos rfl,if_neg (by decide),if_neg (by decide),append_nil,append_nil];rfl
 ·rw[if_pos rfl,if_neg (by decide),if_neg (by decide),append_nil];rfl
theorem wV {g:GE}(h:g ρ M=.ok (.mr k) M)(hm:M[k]?=some (.lst xs)):bq g ρ M=.ok ⟨xs,some k⟩ M:=by
 unfold bq;rw[h,ak];show(match M[k]? with|some (.lst ds)=>aO.ok (iM.mk ds (some k)) M|_=>.bad)=_;rw[hm]
theorem om {v:Nat→List (List Str)}{j:Nat}(hi:i<7)(h:ρ[j]?=some (some (.mr M.length)))(hx:lw i=x:=by rfl):g2 dJ (af j) (gC (.str x)) ρ (bk M v)=.ok (.mr (M.length+1+i)) (bk M v):=
 hx▸aB (f:=dJ) (x:=.mr M.length) (by unfold af;rw[h]) rfl (yf hi)
theorem mq {j:Nat}{xs:List Str}(hi:i<7)(h:ρ[j]?=some (some (.mr M.length)))(hv:v i=[xs])(hx:lw i=x:=by rfl):aj 1 gW (aa (g2 dJ (af j) (gC (.str x))) ai) ρ (bk M v)=.ok (wl xs) (bk M v):=
 aT (om hi h hx) (DY (by rw[qZ hi,hv];rfl))
theorem sk {m:Int}(ok:ul w h g m s td)(pv:L7 w h g m s td v):jk [.mr M.length] (bk M v)=.ok s.d (bk M v):=by
 have st:=ok.st;have sx:=st.sx;have sy:=st.sy;have bl:=st.bl;have ml:=st.ml;have hp:fL s.pots:=fun k hk=>by have:=st.pots k hk;omega
 show az (gf [some (.mr M.length),none,none,none,none,none] (bk M v))=_;unfold gf;rw[av (aG (aT (mq (x:="floor") (i:=1) (j:=0) (by decide) rfl pv.v1) (mY st.floor (by decide))))];show az (ax _ _ [some (.mr M.length),some (aI s.floor),none,none,none,none] (bk M v))=_;rw[av (aG (aT (mq (x:="shift") (i:=2) (j:=0) (by decide) rfl pv.v2) (fQ (fun o ho=>by
  simp only[mem_cons,not_mem_nil,or_false] at ho;rcases ho with e|e <;> rw[e] <;> exact m4 (by omega) (by omega)) (show 2≤100 by decide))))]
 show az (ax _ _ [some (.mr M.length),some (aI s.floor),some (.tup [.int s.sx,.int s.sy]),none,none,none] (bk M v))=_;have c3:bM (bq (g2 dJ (af 0) (gC (.str "shape")))) 1 (cn 0) aU fA aA [some (.mr M.length),some (aI s.floor),some (.tup [.int s.sx,.int s.sy]),none,none,none] (bk M v)=.ok (.lst (s.book.map aI)) (bk M v):=by
  have a:=qZ (M:=M) (v:=v) (i:=4) (by decide);rw[pv.v4,map_map] at a;refine(lZ (f:=wl ∘ fun b=>[bV b]) (g:=aI) (l:=s.book) (wV (om (x:="shape") (i:=4) (by decide) rfl) a) (fun b hb=>?_) (by omega) (rf a)).trans (sB (by rw[length_map];omega));unfold fA;exact aT rfl (mY (st.book b hb) (by decide))
 rw[av (aG (eT (F:=bL) c3 rfl))];show az (ax _ _ [some (.mr M.length),some (aI s.floor),some (.tup [.int s.sx,.int s.sy]),some (.tup (s.book.map aI)),none,none] (bk M v))=_;have c4:bM (bq (g2 dJ (af 0) (gC (.str "mover")))) 1 (cn 0) aU fB aA [some (.mr M.length),some (aI s.floor),some (.tup [.int s.sx,.int s.sy]),some (.tup (s.book.map aI)),none,none] (bk M v)=.ok (.lst (s.movers.map Mv.d)) (bk M v):=by
  have a:=qZ (M:=M) (v:=v) (i:=5) (by decide);rw[pv.v5,map_map] at a;refine(lZ (f:=wl ∘ fun v=>(Cg v).map ki) (g:=Mv.d) (l:=s.movers) (wV (om (x:="mover") (i:=5) (by decide) rfl) a) (fun b hb=>?_) (by omega) (rf a)).trans (sB (by rw[length_map];omega));unfold fB;rw[BP];exact aT rfl (fQ (ut (by omega) (st.movers b hb)) (show 5≤100 by decide))
 rw[av (aG (eT (F:=bL) c4 rfl))];show az (ax _ _ [some (.mr M.length),some (aI s.floor),some (.tup [.int s.sx,.int s.sy]),some (.tup (s.book.map aI)),some (.tup (s.movers.map Mv.d)),none] (bk M v))=_;rw[av (aG (eT (F:=bL) (aT (aT (mq (x:="pots") (i:=3) (j:=0) (by decide) rfl pv.v3) vH) (qV hp (by rw[st.pl];decide))) rfl))];rfl
theorem Bm {ns:List Int}(h:ns.Pairwise (·≤·)):jD ns=ns:=by
 have e:da (ns.map fun n=>[n])=ns.map fun n=>[n]:=by
  refine jx (eU _) (l8 _) ?_;rw[pairwise_map];refine h.imp fun {a b} q=>?_
  rw[HT.lexLt_cons]
  by_cases e:b=a
  ·rw[if_pos e];rfl
  ·rw[if_neg e,decide_eq_false (by omega)]
 unfold jD;rw[e,map_map];exact map_id' _
theorem qX:∀l:List Int,nX (l.map D.int)=some l
 | []=>rfl
 | a::l=>by
  show(nX (l.map D.int)).map (a::·)=_;rw[qX l];rfl
theorem o6 (n:Nat)(l:List Int):bH (n+1) (l.map D.int)=true:=bP fun d hd=>by
 obtain⟨k,_,rfl⟩:=mem_map.mp hd;rfl
theorem xo {m:Int}(k:yQ w h g m):jd [eR w h g m] M=.ok (.int (h*(w+g))) M:=by
 have kh:=k.h;refine(congrArg az (aJ (aB (f:=d9) (x:=.int h) (y:=.int (w+g)) (M1:=M) rfl (aT rfl rfl) (Az (by omega) (by omega) M)))).trans rfl
theorem CN {m:Int}{N:au}(ok:ul w h g m s td)(hk:N[k]?=some (.lst (td.map aL))):jq [eR w h g m,.mr k] N=.ok (.bl true) N:=by
 have tl:=ok.len;show az (gE [some (eR w h g m),some (.mr k),none] N)=_;unfold gE;have c:=oy (f:=aL) (g:=fun p=>D.int p.1) (gi:=bq (af 1)) (n:=2) (sg:=dU [0,1]) (ge:=iL) (ρ:=[some (eR w h g m),some (.mr k),none]) (l:=td) (Bc rfl hk) (fun p _=>⟨_,rfl,rfl⟩) (by omega) (rf hk);rw[av (aG c)];have e:td.map (fun p=>D.int p.1)=(td.map (·.1)).map D.int:=by rw[map_map];rfl
 rw[e];have rg:∀t,t∈td.map (·.1)→0≤t∧t<h*(w+g):=fun t ht=>by
  obtain⟨p,hp,rfl⟩:=mem_map.mp ht;exact ok.rng p hp
 have up:=ok.ord;have ll:(td.map (·.1)).length≤200:=by rw[length_map];exact tl
 generalize td.map (·.1)=ts at *;show az (aH _ [some (eR w h g m),some (.mr k),some (.lst (ts.map D.int))] N)=_;have so:aC mI (aa (af 2) ai) [some (eR w h g m),some (.mr k),some (.lst (ts.map D.int))] N=.ok (.lst (ts.map D.int)) N:=by
  refine eT rfl ?_;show rR (ts.map D.int) N=_;unfold rR;rw[qX];dsimp only;rw[if_pos (by omega),Bm up]
 have q:bj false (.lst (ts.map D.int)) (.lst (ts.map D.int)) N=.ok (.bl true) N:=by
  have c:bw 40 (.lst (ts.map D.int))=true:=o6 38 ts;unfold bj;rw[show now (.lst (ts.map D.int)) N=.lst (ts.map D.int) from rfl,c,mR _ 40 c];rfl
 have al:=jM (gi:=bq (af 2)) (ge:=fz) (ρ:=[some (eR w h g m),some (.mr k),some (.lst (ts.map D.int))]) (M:=N) (xs:=ts.map D.int) (p:=fun _=>true) (s9 rfl) (by rw[length_map];omega) fun d hd=>by
  obtain⟨t,ht,rfl⟩:=mem_map.mp hd;have r:=rg t ht;unfold fz;have z:=Iy (a:=gC (.int 0)) (b:=af 0) (c:=aj 1 jd (aa (af 1) ai)) (ρ:=[some (.int t),some (eR w h g m),some (.mr k),some (.lst (ts.map D.int))]) (M:=N) (x:=0) (y:=t) (z:=h*(w+g)) rfl rfl (fun _=>aT rfl (xo ok.f));rw[decide_eq_true r.1,decide_eq_true r.2] at z;exact z
 have at':(ts.map D.int).all (fun _=>true)=true:=all_eq_true.mpr fun _ _=>rfl
 rw[at'] at al;exact(congrArg az (aJ (bA (x:=true) (y:=true) (aB (f:=bj false) rfl so q) fun _=>al))).trans rfl
noncomputable def oD (fs:List (Int×Dd))(k:Nat):Int×Dd:=fs.getD k (0,.pot 0 0)
noncomputable def i7 (fs:List (Int×Dd))(k:Nat):List Int:=[(oD fs k).1,(k:Int)]
theorem qN (fs:List (Int×Dd)):∀l:List Nat,mH (l.map fun k=>iU (i7 fs k))=some (l.map (i7 fs))
 | []=>rfl
 | k::l=>by
  show(match BB (iU (i7 fs k)),mH (l.map fun k=>iU (i7 fs k)) with|some (i::z),some zs=>some ((i::z)::zs)|_,_=>none)=_;rw[qN fs l];rfl
theorem zp (fs:List (Int×Dd))(k:Nat)(l:List D):nX (iU (i7 fs k)::l)=none:=rfl
theorem zA (n:Nat)(f:D→D):(a9 0 n).map f=(List.range n).map fun(k:Nat)=>f (.int k):=by
 apply ext_getElem
 ·simp[bu]
 ·intro i h1 h2;simp at h1 h2;rw[getElem_map,getElem_map,getElem_range];obtain⟨_,e⟩:=wt (getElem?_eq_getElem h1);rw[e,show(0:Int)+(i:Int)=i by omega]
theorem xv {fs:List (Int×Dd)}(hn:n≤300):mI [.lst ((List.range n).map fun k=>iU (i7 fs k))] M=.ok (.lst ((da ((List.range n).map (i7 fs))).map iU)) M:=by
 show rR ((List.range n).map fun k=>iU (i7 fs k)) M=_;cases n with
 | zero=>
  have e2:da []=[]:=mergeSort_nil;show(if(0:Nat)≤100000 then aO.ok (D.lst ((jD []).map D.int)) M else .bad)=.ok (.lst ((da []).map iU)) M;rw[if_pos (Nat.zero_le _),show jD []=[] from by show(da []).map _=[];rw[e2];rfl,e2];rfl
 | succ n=>
  have e:(List.range (n+1)).map (fun k=>iU (i7 fs k))=iU (i7 fs 0)::(List.range n).map fun k=>iU (i7 fs (k+1)):=by
   rw[range_succ_eq_map,map_cons,map_map];rfl
  have e2:nX ((List.range (n+1)).map fun k=>iU (i7 fs k))=none:=by rw[e];exact zp fs 0 _
  unfold rR;rw[e2,qN];dsimp only;rw[if_pos (by rw[length_map,length_range];omega)]
theorem Bl {m:Int}(f:yQ w h g m)(ok:o9 12 s)(h1:0≤most)(h2:most≤200)(t:cF l ap M) :
  ∃td M',ul w h g m s td∧cF l ap M'∧jg [.mr 0,eR w h g m,s.d,.int most] M=.ok (.lst (td.map aL)) M':=by
 have kw:=f.w;have kh:=f.h;have kg:=f.g;have tl:=oZ f;have tp:0<h*(w+g):=Int.mul_pos (by omega) (by omega);obtain⟨f1,M1,a1,b1,t1,e1⟩:=bg (many:=most+1) (by omega) (aN (by omega) (by omega)) t;obtain⟨n,rfl⟩:=Int.eq_ofNat_of_zero_le a1;obtain⟨es,M2,t2,le,qe,ee1⟩:=gM (ds0:=a9 0 n) (ge:=dH) (ρ:=[some (.mr 0),some (eR w h g m),some s.d,some (.int most),some (.int (h*(w+g))),none,none])
  (P:=cF l ap) (Q:=fun e=>∃p:Int×Dd,e=aL p∧(0≤p.1∧p.1<h*(w+g))∧oX s p.2) (a9 0 n) (fun d hd M hM=>by
   obtain⟨k,N1,c1,c2,u1,x1⟩:=bg (many:=h*(w+g)) tp (aN tp (by omega)) hM;obtain⟨dd,N2,dk,u2,x2⟩:=xi (w:=w) (hh:=h) (more:=[.int g,.int m]) ok (by omega) ⟨by omega,by omega⟩ ⟨by omega,by omega⟩ u1;refine⟨aL (k,dd),N2,u2,⟨(k,dd),rfl,⟨c1,c2⟩,dk⟩,?_⟩;unfold dH;exact dF (aD (bC rfl rfl x1) (aD (dI rfl rfl rfl x2) rfl)) (by simp)) M1 t1
 obtain⟨fs,hf,okf⟩:=oN qe;have lf:fs.length=n:=by rw[←bu 0 n,←le,hf,length_map]
 rw[hf] at ee1;have at':∀k,k<n→(fs.map aL)[k]?=some (aL (oD fs k)):=fun k hk=>by
  rw[getElem?_map,getElem?_eq_getElem (by omega)];unfold oD;rw[getD_eq_getElem?_getD,getElem?_eq_getElem (by omega)];rfl
 have mem:∀k,k<n→oD fs k∈fs:=fun k hk=>by
  unfold oD;rw[getD_eq_getElem?_getD,getElem?_eq_getElem (by omega)];exact getElem_mem _
 have zm:∀z∈da ((List.range n).map (i7 fs)),∃k,k<n∧z=i7 fs k:=fun z hz=>by
  obtain⟨k,hk,rfl⟩:=mem_map.mp ((eU _).subset hz);exact⟨k,mem_range.mp hk,rfl⟩
 generalize hT:h*(w+g)=T at *;refine⟨(da ((List.range n).map (i7 fs))).map fun z=>oD fs (z.getD 1 0).toNat,M2,⟨f,ok,fun p hp=>?_,?_,fun p hp=>?_,?_⟩,t2,?_⟩
 ·obtain⟨z,hz,rfl⟩:=mem_map.mp hp;obtain⟨k,hk,rfl⟩:=zm z hz;rw[hT];exact(okf _ (mem k hk)).1
 ·rw[map_map,pairwise_map];refine(l8 _).imp_of_mem fun {a b} ha hb q=>?_
  obtain⟨i,hi,rfl⟩:=zm a ha;obtain⟨j,hj,rfl⟩:=zm b hb;show(oD fs i).1≤(oD fs j).1;unfold i7 at q;rw[HT.lexLt_cons] at q
  by_cases e:(oD fs j).1=(oD fs i).1
  ·omega
  ·rw[if_neg e,decide_eq_false_iff_not] at q;omega
 ·obtain⟨z,hz,rfl⟩:=mem_map.mp hp;obtain⟨k,hk,rfl⟩:=zm z hz;exact(okf _ (mem k hk)).2
 ·rw[length_map,(eU _).length_eq,length_map,length_range];omega
 ·show az (f9 [some (.mr 0),some (eR w h g m),some s.d,some (.int most),none,none,none] M)=_;unfold f9;rw[av (aG (aB (f:=d9) rfl rfl (Az (by omega) (by omega) M)))];rw[hT];show az (ax _ _ [some (.mr 0),some (eR w h g m),some s.d,some (.int most),some (.int T),none,none] M)=_;have k1:aM (dX (aa (aj 2 aq (aa (af 0) (aa (g2 bh (af 3) (gC (.int 1))) ai))) ai)) aU dH aA [some (.mr 0),some (eR w h g m),some s.d,some (.int most),some (.int T),none,none] M=.ok (.lst (fs.map aL)) M2:=
   ou (ji (n:=n) (aD (bC rfl rfl e1) rfl) (by omega)) ee1 (by rw[length_map];omega)
  rw[av (aG k1)];show az (ax _ _ [some (.mr 0),some (eR w h g m),some s.d,some (.int most),some (.int T),some (.lst (fs.map aL)),none] M2)=_;have ln:aC bx (aa (af 5) ai) [some (.mr 0),some (eR w h g m),some s.d,some (.int most),some (.int T),some (.lst (fs.map aL)),none] M2=.ok (.int (n:Int)) M2:=by
   refine eT rfl ?_;show aO.ok (D.int ((fs.map aL).length:Int)) M2=_;rw[length_map,lf]
  have k2:aM (dX (aa (aC bx (aa (af 5) ai)) ai)) aU fb aA [some (.mr 0),some (eR w h g m),some s.d,some (.int most),some (.int T),some (.lst (fs.map aL)),none] M2=.ok (.lst ((List.range n).map fun k=>iU (i7 fs k))) M2:=by
   refine i8 (f:=fun(k:Nat)=>D.int k) (m:=none) (l:=List.range n) ?_ (fun k hk=>?_) (by rw[length_range];omega)
   ·rw[ji (n:=n) (aD ln rfl) (by omega)];have:=zA n (fun d=>d);rw[map_id'] at this;rw[this]
   ·have hk:k<n:=mem_range.mp hk;unfold fb;exact dF (aD (aB (f:=bt) (aB (f:=bt) rfl rfl (lc (at' k hk))) rfl (kE (k:=0) rfl)) (aD rfl rfl))
  rw[av (aG (eT (F:=mI) k2 (xv (by omega))))];show az (aH _ [some (.mr 0),some (eR w h g m),some s.d,some (.int most),some (.int T),some (.lst (fs.map aL)),some (.lst ((da ((List.range n).map (i7 fs))).map iU))] M2)=_;have k4:=oy (gi:=bq (af 6)) (n:=2) (sg:=dU [0,1]) (ge:=fv) (ρ:=[some (.mr 0),some (eR w h g m),some s.d,some (.int most),some (.int T),some (.lst (fs.map aL)),some (.lst ((da ((List.range n).map (i7 fs))).map iU))]) (M:=M2)
   (f:=iU) (g:=fun z=>aL (oD fs (z.getD 1 0).toNat)) (m:=none) (l:=da ((List.range n).map (i7 fs))) (s9 rfl) (fun z hz=>by
    obtain⟨k,hk,rfl⟩:=zm z hz;refine⟨_,rfl,?_⟩;unfold fv;exact aB (f:=bt) rfl rfl (lc (at' k hk))) (by rw[(eU _).length_eq,length_map,length_range];omega)
  rw[aJ k4,map_map];rfl
theorem Bu {E:au}(h:iH M)(hE:E.all (pd (M.length+E.length))=true):iH (M++E):=by
 unfold iH;rw[length_append,all_append,hE,Bool.and_true];exact all_eq_true.mpr fun x hx=>yU (Nat.le_add_right _ _) (all_eq_true.mp h x hx)
theorem Dt (p:Int×Dd):bN (n+3) (aL p)=true:=by
 unfold aL;cases p.2 with
 | shape i o=>cases o <;> rfl
 | _=>rfl
theorem tj (h:iH M)(hd:ds.all (bN 30)=true):iH (bk M v++[.lst ds]):=by
 unfold bk;rw[append_assoc];refine Bu h ?_;have a:pd (M.length+((MO.dK (qx M.length (List.range 7))::(List.range 7).map fun i=>MO.lst ((v i).map wl))++[MO.lst ds]).length) (.dK (qx M.length (List.range 7)))=true:=by
  show((qx M.length (List.range 7)).all fun p=>fI _ 30 p.2)=true;unfold qx;rw[all_map];refine all_eq_true.mpr fun i hi=>?_
  have:=mem_range.mp hi;exact decide_eq_true (by simp only[length_append,length_cons,length_map,length_range,length_nil];omega)
 have b:∀n,((List.range 7).map fun i=>MO.lst ((v i).map wl)).all (pd n)=true:=fun n=>by
  rw[all_map];refine all_eq_true.mpr fun i _=>kq (o:=.lst ((v i).map wl)) ?_
  show((v i).map wl).all (bN 30)=true;rw[all_map];refine all_eq_true.mpr fun xs _=>?_
  show(xs.map D.str).all (bN 29)=true;rw[all_map];exact all_eq_true.mpr fun _ _=>rfl
 rw[all_append,all_cons,a,b,all_cons,kq (o:=.lst ds) hd];rfl
theorem wN (M:au)(v:Nat→List (List Str)):(bk M v).length=M.length+8:=by
 unfold bk;rw[length_append,length_cons,length_map,length_range]
theorem vJ {rs:List (Nat×List Str)}(h:p8 rs):Dw (Txt.join "\n" (rs.map dh)):=fun c hc=>by
 rw[iO,AV] at hc;rcases kj hc with rfl|⟨p,hp,hk⟩
 ·decide
 ·obtain⟨r,hr,rfl⟩:=mem_map.mp hp;unfold dh at hk;rw[iO,yd] at hk;rcases kj hk with rfl|⟨y,hy,hk⟩
  ·decide
  ·have:=(sN (iP h hr y hy) hk).1;omega
theorem DW {α:Type}{f:α→D}{sg:GG}{l:List α}(hi:gi ρ M=.ok ⟨l.map f,m⟩ M)(h:∀a,a∈l→∃ρ1,sg (f a) (List.replicate n none++ρ)=some ρ1∧ge ρ1 M=.ok (.bl true) M)(hl:l.length≤100000)(ht:iM.ok ⟨l.map f,m⟩ M=true) :
  aC jG (aa (bU gi n sg aU ge aA) ai) ρ M=.ok (.bl true) M:=by
 refine eT (oy (g:=fun _=>D.bl true) hi h hl ht) ?_;have e:bZ (l.map fun _=>D.bl true)=some (l.map fun _=>true):=by
  clear hi hl h ht
  induction l with
  | nil=>rfl
  | cons a l ih=>
   show(bZ (l.map fun _=>D.bl true)).map (true::·)=_;rw[ih];rfl
 show(match bZ (l.map fun _=>D.bl true) with|some bs=>aO.ok (D.bl (bs.all id)) M|none=>.bad)=_;rw[e];dsimp only;rw[all_map,all_eq_true.mpr (show∀a,a∈l→(id ∘ fun _=>true) a=true from fun _ _=>rfl)]
noncomputable def pR (M:au)(w h g m:Int)(s:jJ)(td:List (Int×Dd))(ds:List D):au:=bk M (jC w h g m s td)++[.lst ds]
theorem Au (M:au)(w h g m:Int)(s:jJ)(td:List (Int×Dd))(ds:List D):(pR M w h g m s td ds)[M.length+8]?=some (.lst ds):=by
 unfold pR;rw[←wN M (jC w h g m s td)];exact pO _ _
theorem va {m:Int}(ok:ul w h g m s td)(hM:iH M):jK [.str (dY w h g m s td)] M=.ok (.tup [eR w h g m,s.d,.mr (M.length+8)]) (pR M w h g m s td (td.map aL)):=by
 have rs:=mP ok;have pl:=pN ok;have pv:=Bb w h g m s td;have f:=ok.f;have st:=ok.st;have fw:=f.w;have fh:=f.h;have fg:=f.g;have fm:=f.m;have tl:=ok.len;have tt:=oZ f;have li:dN [.str (dY w h g m s td)] M=.ok (.mr M.length) (bk M (jC w h g m s td)):=AL rs (by unfold dW gY;simp) (by omega);have okS':Dw (dY w h g m s td):=vJ rs;have pt:=fun N d3 mm=>nM (M:=N) (d3:=d3) (mm:=mm) ok
 have hat:=Au M w h g m s td (td.map aL);have shN:iH (pR M w h g m s td (td.map aL)):=tj hM (by rw[all_map];exact all_eq_true.mpr fun p _=>Dt p);generalize dY w h g m s td=x at *;show az (ij [some (.str x),none,none,none,none] M)=_;unfold ij;rw[av ((cz (M1:=M) rfl).trans rfl)];rw[av (aG (aT rfl li))];show az (ax _ _ [some (.str x),some (.mr M.length),none,none,none] (bk M (jC w h g m s td)))=_;rw[av (aG (aT (mq (x:="frame") (i:=0) (j:=1) (by decide) rfl pv.v0) (fQ (fun o ho=>by
  simp only[mem_cons,not_mem_nil,or_false] at ho;rcases ho with e|e|e|e <;> rw[e] <;> exact m4 (by omega) (by omega)) (show 4≤100 by decide))))]
 show az (ax _ _ [some (.str x),some (.mr M.length),some (eR w h g m),none,none] (bk M (jC w h g m s td)))=_;rw[av (aG (aT rfl (sk ok pv)))];show az (ax _ _ [some (.str x),some (.mr M.length),some (eR w h g m),some s.d,none] (bk M (jC w h g m s td)))=_;have c4:bM (bq (g2 dJ (af 1) (gC (.str "at")))) 1 (cn 0) aU gH b0 [some (.str x),some (.mr M.length),some (eR w h g m),some s.d,none] (bk M (jC w h g m s td))=.ok (.mr (M.length+8)) (pR M w h g m s td (td.map aL)):=by
  have a:=qZ (M:=M) (v:=jC w h g m s td) (i:=6) (by decide);rw[pv.v6,map_map] at a;refine(lZ (f:=wl ∘ fun p=>(rA p).2) (g:=aL) (l:=td) (wV (om (x:="at") (i:=6) (by decide) rfl) a) (fun p hp=>?_) (by omega) (rf a)).trans ?_
  ·have rg:=ok.rng p hp;unfold gH;exact aT rfl (tY ⟨by omega,by omega⟩ (tD st (by decide) (ok.dd p hp)))
  ·unfold b0;rw[if_pos (aQ (by rw[length_map];omega)),wN];rfl
 rw[av (aG c4)];show az (ax _ _ [some (.str x),some (.mr M.length),some (eR w h g m),some s.d,some (.mr (M.length+8))] (pR M w h g m s td (td.map aL)))=_;generalize pR M w h g m s td (td.map aL)=N at *;have i1:=wR (d:=eR w h g m) (M:=N) xb;rw[zZ f] at i1;have i2:=xa (d:=s.d) (M:=N) (Bd st (by decide));rw[BI st (by decide)] at i2;rw[av ((cz (cr (x:=true) (oq (x:=true) (y:=true) (cy (aT rfl i1)) fun _=>oq (x:=true) (y:=true) (cy (aT rfl i2)) fun _=>cy (bC rfl rfl (CN ok hat))))).trans rfl)];have al:=DW (f:=aL) (gi:=bq (af 4)) (n:=2) (sg:=dU [0,1]) (ge:=gd) (ρ:=[some (.str x),some (.mr M.length),some (eR w h g m),some s.d,some (.mr (M.length+8))]) (l:=td) (Bc rfl hat) (fun p hp=>⟨_,rfl,by
  unfold gd;exact bC (y:=p.2.d) rfl rfl (yX (ok.dd p hp))⟩) (by omega) (rf hat)
 rw[av ((cz (cr (x:=true) (cy al))).trans rfl)];have tx:=pt N (.mr (M.length+8)) (some (M.length+8)) shN fun E=>by
  have z:(N++E)[M.length+8]?=some (.lst (td.map aL)):=by
   rw[getElem?_append_left (by rcases List.getElem?_eq_some_iff.mp hat with⟨z,_⟩;exact z)];exact hat
  refine⟨?_,rf z⟩;show(match (N++E)[M.length+8]? with|some (.lst ds)=>aO.ok (iM.mk ds (some (M.length+8))) (N++E)|_=>.bad)=_;rw[z]
 have ne:=K8 okS' okS' N;rw[decide_eq_true rfl] at ne;rw[av ((cz (bD (aB (f:=bj true) (dI rfl rfl rfl tx) rfl ne))).trans rfl)];rfl
theorem rG (n:Nat)(rs:List (List Int)):bw (n+3) (aI rs)=true:=bP fun d hd=>by
 obtain⟨r,_,rfl⟩:=mem_map.mp hd;exact o6 n r
theorem BM (s:jJ):bw 39 s.d=true:=by
 refine bP fun d hd=>?_
 simp only[mem_cons,not_mem_nil,or_false] at hd;rcases hd with e|e|e|e|e <;> rw[e]
 ·exact rG 35 _
 ·rfl
 ·refine bP fun d hd=>?_
  obtain⟨b,_,rfl⟩:=mem_map.mp hd;exact rG 34 b
 ·refine bP fun d hd=>?_
  obtain⟨v,_,rfl⟩:=mem_map.mp hd;rw[Hk];cases v.shape <;> rfl
 ·exact o6 36 _
theorem Aj (n:Nat)(p:Int×Dd):bw (n+3) (aL p)=true:=by
 unfold aL;rw[xT];refine bP fun d hd=>?_
 simp only[mem_cons,not_mem_nil,or_false] at hd;rcases hd with e|e <;> rw[e]
 ·rfl
 ·refine bP fun d hd=>?_
  rcases mem_cons.mp hd with e|hd
  ·rw[e];exact jV (pj (tV p.2))
  ·obtain⟨o,_,rfl⟩:=mem_map.mp hd;cases o <;> rfl
theorem uJ {m:Int}:bw 40 (.tup [eR w h g m,s.d,.lst (td.map aL)])=true:=by
 refine bP fun d hd=>?_
 simp only[mem_cons,not_mem_nil,or_false] at hd;rcases hd with e|e|e <;> rw[e]
 ·rfl
 ·exact BM s
 ·refine bP fun d hd=>?_
  obtain⟨p,_,rfl⟩:=mem_map.mp hd;exact Aj 35 p
noncomputable abbrev wE (x0 x2:Option D)(w h g m:Int)(s:jJ)(td:List (Int×Dd))(x:Str)(x8 x9:Option D):bI:=[x0,some (.mr 0),x2,some (eR w h g m),some s.d,some (.lst (td.map aL)),some (.lst (td.map aL)),some (.str x),x8,x9]
theorem vd {m:Int}{x0 x2 x8 x9:Option D}(ok:ul w h g m s td)(hM:iH M):ka (wE x0 x2 w h g m s td (dY w h g m s td) x8 x9) M=.ok (.nx (wE x0 x2 w h g m s td (dY w h g m s td) x8 (some (.tup [eR w h g m,s.d,.mr (M.length+8)])))) (pR M w h g m s td []):=by
 have rp:=va ok hM;have hat:=Au M w h g m s td (td.map aL);have st:(pR M w h g m s td (td.map aL)).set (M.length+8) (.lst [])=pR M w h g m s td []:=by
  unfold pR;rw[←wN M (jC w h g m s td)];exact wH _ _ _
 unfold ka;rw[av (aG (aT rfl rp))];show ax _ _ (wE x0 x2 w h g m s td (dY w h g m s td) x8 (some (.tup [eR w h g m,s.d,.mr (M.length+8)]))) _=_;generalize pR M w h g m s td (td.map aL)=N at *;have ix:g2 bt (af 9) (gC (.int 2)) (wE x0 x2 w h g m s td (dY w h g m s td) x8 (some (.tup [eR w h g m,s.d,.mr (M.length+8)]))) N=.ok (.mr (M.length+8)) N:=aB (f:=bt) rfl rfl (kE (k:=2) rfl);have il:eQ "list" (g2 bt (af 9) (gC (.int 2))) (wE x0 x2 w h g m s td (dY w h g m s td) x8 (some (.tup [eR w h g m,s.d,.mr (M.length+8)]))) N=.ok (.bl true) N:=by
  unfold eQ;rw[ix,ak];unfold Bw;dsimp only;rw[hat];rfl
 have eq:sK true (.tup [eR w h g m,s.d,.mr (M.length+8)]) (.tup [eR w h g m,s.d,.lst (td.map aL)]) N=.ok (.bl false) N:=by
  have n1:zU (.tup [eR w h g m,s.d,.mr (M.length+8)]) N=.tup [eR w h g m,s.d,.lst (td.map aL)]:=by
   show D.tup [eR w h g m,s.d,now (.mr (M.length+8)) N]=_;unfold now;dsimp only;rw[hat]
  have n2:zU (.tup [eR w h g m,s.d,.lst (td.map aL)]) N=.tup [eR w h g m,s.d,.lst (td.map aL)]:=rfl;unfold sK;rw[n1,n2,uJ,mR _ 40 uJ];rfl
 have t:hW (cH (dG (eQ "tuple" (af 9)))) (hW (cH (dG (eQ "list" (g2 bt (af 9) (gC (.int 2)))))) (aZ (g2 (sK true) (af 9) (bT (aa (af 3) (aa (af 4) (aa (af 5) ai))))))) (wE x0 x2 w h g m s td (dY w h g m s td) x8 (some (.tup [eR w h g m,s.d,.mr (M.length+8)]))) N=.ok false N:=
  et (x:=false) (y:=false) rfl fun _=>et (x:=false) (y:=false) (cr (x:=true) (cy il)) fun _=>bD (aB (f:=sK true) rfl (dF (aD rfl (aD rfl (aD rfl cK)))) eq)
 rw[av ((cz t).trans rfl)];refine tJ (d:=.non) ?_;unfold uO;rw[ix,ak];dsimp only;rw[hat];dsimp only;rw[st]
theorem zL {M':au}(h:iH M)(t:cF l ap M)(t':cF l ap M'):iH M':=by
 obtain⟨i,c,_,rfl⟩:=t;obtain⟨j,d,_,rfl⟩:=t';have h:(tp l i c::ap).all (pd (ap.length+1))=true:=h;show(tp l j d::ap).all (pd (ap.length+1))=true;rw[all_cons,Bool.and_eq_true] at h;rw[all_cons,h.2,Bool.and_true];refine kq ?_;show((l.map D.int).all (bN 29)&&_)=true;rw[qO];rfl
theorem we {E:au}(t:cF l ap M):cF l (ap++E) (M++E):=by
 obtain⟨i,c,h,rfl⟩:=t;exact⟨i,c,h,rfl⟩
theorem yl (M:au)(w h g m:Int)(s:jJ)(td:List (Int×Dd))(ds:List D):∃E,pR M w h g m s td ds=M++E:=⟨_,by unfold pR bk;rw[append_assoc]⟩
theorem yt {x0 x3 x4 x5 x6 x7 x8 x9:Option D}(hk:k<2)(t:cF l ap M)(hM:iH M) :
  ∃y3 y4 y5 y6 y7 y8 y9 rest' M',cF l rest' M'∧iH M'∧ko [x0,some (.mr 0),some (.int k),x3,x4,x5,x6,x7,x8,x9] M=.ok (.nx [x0,some (.mr 0),some (.int k),y3,y4,y5,y6,y7,y8,y9]) M':=by
 obtain⟨w,h,g,m,M1,aw,ah,ag,am,t1,e1⟩:=AR (most:=40) (by decide) (by decide) t;have f:yQ w h g m:=⟨aw,ah,ag,am⟩;obtain⟨s,M2,st,t2,e2⟩:=BL (w:=w) (hh:=h) (more:=[.int g,.int m]) (mm:=12) ⟨by omega,by omega⟩ ⟨by omega,by omega⟩ (by decide) t1;obtain⟨mo,m0,m1,em⟩:∃mo:Int,0≤mo∧mo≤200∧[D.int 20,D.int 200][k]?=some (.int mo):=by
  match k,hk with
  | 0,_=>exact⟨20,by decide,by decide,rfl⟩
  | 1,_=>exact⟨200,by decide,by decide,rfl⟩
  | n+2,h=>omega
 obtain⟨td,M3,ok,t3,e3⟩:=Bl f st m0 m1 t2;have s3:=zL hM t t3;have p1:=nM (M:=M3) (d3:=.lst (td.map aL)) (mm:=none) ok s3 fun E=>⟨rfl,rfl⟩
 have p2:=wu (M:=M3) ok s3;have okS':Dw (dY w h g m s td):=vJ (mP ok);have ne:=K8 okS' okS' M3;rw[decide_eq_true rfl] at ne;have a1:=fun x8 x9=>vd (x0:=x0) (x2:=some (.int k)) (x8:=x8) (x9:=x9) ok s3
 obtain⟨E1,q1⟩:=yl M3 w h g m s td [];have s4:iH (pR M3 w h g m s td []):=tj s3 rfl;have a2:=fun x8 x9=>vd (x0:=x0) (x2:=some (.int k)) (x8:=x8) (x9:=x9) ok s4
 obtain⟨E2,q2⟩:=yl (pR M3 w h g m s td []) w h g m s td [];have s5:iH (pR (pR M3 w h g m s td []) w h g m s td []):=tj s4 rfl;refine⟨some (eR w h g m),some s.d,some (.lst (td.map aL)),some (.lst (td.map aL)),some (.str (dY w h g m s td)),some (.int 1),some (.tup [eR w h g m,s.d,.mr ((pR M3 w h g m s td []).length+8)]),ap++E1++E2,pR (pR M3 w h g m s td []) w h g m s td [],?_,s5,?_⟩
 ·rw[q2,q1];exact we (we t3)
 ·unfold ko;rw[av (aG (bC (a:=af 1) (b:=gC (.int 40)) rfl rfl e1))];show ax _ _ [x0,some (.mr 0),some (.int k),some (eR w h g m),x4,x5,x6,x7,x8,x9] M1=_;rw[av (aG (dI (a:=af 1) (b:=af 3) (c:=gC (.int 12)) rfl rfl rfl e2))];show ax _ _ [x0,some (.mr 0),some (.int k),some (eR w h g m),some s.d,x5,x6,x7,x8,x9] M2=_;rw[av (aG (Ja (a:=af 1) (b:=af 3) (c:=af 4) rfl rfl rfl (aB (f:=bt) (fM (aD (d:=.int 20) rfl (aD (d:=.int 200) rfl cK))) rfl (lc em)) e3))];show ax _ _ [x0,some (.mr 0),some (.int k),some (eR w h g m),some s.d,some (.lst (td.map aL)),x6,x7,x8,x9] M3=_;rw[av (aG (eT (F:=mZ) (x:=.lst (td.map aL)) (M1:=M3) (o:=.ok (.lst (td.map aL)) M3) rfl rfl))];show ax _ _ [x0,some (.mr 0),some (.int k),some (eR w h g m),some s.d,some (.lst (td.map aL)),some (.lst (td.map aL)),x7,x8,x9] M3=_;rw[av (aG (dI (a:=af 3) (b:=af 4) (c:=af 6) rfl rfl rfl p1))];show ax _ _ (wE x0 (some (.int k)) w h g m s td (dY w h g m s td) x8 x9) M3=_;have el:bj true (.lst (td.map aL)) (.lst (td.map aL)) M3=.ok (.bl false) M3:=by
   have c:bw 40 (.lst (td.map aL))=true:=bP fun d hd=>by
    obtain⟨p,_,rfl⟩:=mem_map.mp hd;exact Aj 36 p
   exact CL c (mR _ 40 c) (fun _=>rfl) M3
  rw[av ((cz (et (x:=false) (y:=false) (bD (aB (f:=bj true) rfl (dI rfl rfl rfl p2) ne)) fun _=>bD (aB (f:=bj true) rfl rfl el))).trans rfl)];refine ng (ji (n:=2) rfl (by decide)) ?_;show dj ⟨a9 0 2,none⟩ (cn 8) ka [.int 0,.int 1] _ M3=_;rw[dj,if_pos (show iM.ok ⟨a9 0 2,none⟩ M3=true from rfl)];show(ka (wE x0 (some (.int k)) w h g m s td (dY w h g m s td) (some (.int 0)) x9) M3).bind _=_;rw[a1,ak];show dj ⟨a9 0 2,none⟩ (cn 8) ka [.int 1] (wE x0 (some (.int k)) w h g m s td (dY w h g m s td) (some (.int 0)) _) _=_;rw[dj,if_pos (show iM.ok ⟨a9 0 2,none⟩ _=true from rfl)];show(ka (wE x0 (some (.int k)) w h g m s td (dY w h g m s td) (some (.int 1)) _) (pR M3 w h g m s td [])).bind _=_;rw[a2,ak];rfl
theorem law_true (ns:List Int)(_:ns.length≤63):∃M',yg [.ro (ns.map D.int)] []=.ok (.bl true) M':=by
 have t0:cF ns [] [tp ns 0 0]:=⟨0,0,Int.le_refl _,rfl⟩;have s0:iH [tp ns 0 0]:=iH.pure (by
  show(((ns.map D.int).all (bN 29)&&_)&&_)=true;rw[qO];rfl)
 obtain⟨y3,y4,y5,y6,y7,y8,y9,r1,M1,t1,s1,e1⟩:=yt (x0:=some (.ro (ns.map D.int))) (x3:=none) (x4:=none) (x5:=none) (x6:=none) (x7:=none) (x8:=none) (x9:=none) (k:=0) (by decide) t0 s0;obtain⟨z3,z4,z5,z6,z7,z8,z9,r2,M2,t2,s2,e2⟩:=yt (x0:=some (.ro (ns.map D.int))) (x3:=y3) (x4:=y4) (x5:=y5) (x6:=y6) (x7:=y7) (x8:=y8) (x9:=y9) (k:=1) (by decide) t1 s1;refine⟨M2,?_⟩;show az (xR [some (.ro (ns.map D.int)),none,none,none,none,none,none,none,none,none] [])=_;unfold xR;have e:dj ⟨a9 0 2,none⟩ (cn 2) ko [.int 0,.int 1] [some (.ro (ns.map D.int)),some (.mr 0),none,none,none,none,none,none,none,none] [tp ns 0 0]=.ok (.nx [some (.ro (ns.map D.int)),some (.mr 0),some (.int 1),z3,z4,z5,z6,z7,z8,z9]) M2:=by
  rw[dj,if_pos (show iM.ok ⟨a9 0 2,none⟩ _=true from rfl)];show(ko [some (.ro (ns.map D.int)),some (.mr 0),some (.int (0:Nat)),none,none,none,none,none,none,none] [tp ns 0 0]).bind _=_;rw[e1,ak];show dj ⟨a9 0 2,none⟩ (cn 2) ko [.int 1] _ M1=_;rw[dj,if_pos (show iM.ok ⟨a9 0 2,none⟩ _=true from rfl)];show(ko [some (.ro (ns.map D.int)),some (.mr 0),some (.int (1:Nat)),y3,y4,y5,y6,y7,y8,y9] M1).bind _=_;rw[e2,ak];rfl
 refine congrArg az ((av (ρ1:=[some (.ro (ns.map D.int)),some (.mr 0),none,none,none,none,none,none,none,none]) (M1:=[tp ns 0 0]) ?_).trans ((av (ng (ji (n:=2) rfl (by decide)) e)).trans (aJ rfl)));refine aG (d:=.mr 0) ?_;unfold i6;rfl
end K22
theorem PySem.Challenge.cw_glowrow_k22_whole_plans_there_and_back_holds : PySem.Challenge.rw_glowrow_k22_whole_plans_there_and_back.Holds :=
 K22.pre K22.law_true
