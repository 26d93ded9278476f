import PyProof.Rows.All
import Wide.All
import KE.KNestM
import OpenK.KOwn
import OpenK.KRaise
import KE.KIsAll
import KE.KTypeName
import Wide.FinOn
import Lean
import PyProof.EqAt
import PyProof.EqKinds
import PyProof.TupleCall
import PyProof.Draws
import PyProof.EnumMake
import KE.KLam
import KE.KMinKey
import PyProof.StrCalls2
import PyProof.Rows.StrIndexOr
import PyProof.CollectIter
import PyProof.ListStr
import KE.KDictLaws
import KE.KSortTup
import PySem.Challenge.RW_glowrow_k14_whole_moved_together
set_option Elab.async false
set_option linter.all false
set_option maxRecDepth 100000
set_option maxHeartbeats 4000000
namespace L2
open PySem PySem.Spec PyProof.Rows
abbrev dB:=Sum Int Str
def se:dB→Value→Bool
 | .inl k,v=>Value.isInt k v
 | .inr x,v=>Value.isStrOf x v
def NP (w:World):dB→Int
 | .inl k=>hashInt k
 | .inr x=>hashStr w x
theorem cD:∀{k:dB} {v:Value},se k v=true→(∃i t,k=Sum.inl i∧v=Value.int i t)∨(∃x t,k=Sum.inr x∧v=Value.str x t)
 | .inl i,v,h=>by
  obtain⟨t,e⟩:=Value.isInt_shape (k:=i) (v:=v) h
  exact .inl ⟨i,t,rfl,e⟩
 | .inr x,v,h=>by
  obtain⟨t,e⟩:=Value.isStrOf_shape (x:=x) (v:=v) h
  exact .inr ⟨x,t,rfl,e⟩
theorem z7 (i:Int)(t:Tok):se (.inl i) (.int i t)=true:=by simp[se,Value.isInt]
theorem As (x:Str)(t:Tok):se (.inr x) (.str x t)=true:=by simp[se,Value.isStrOf]
theorem GY (a b:Int):decide ((Sum.inl a:dB)=Sum.inl b)=(a==b):=by
 by_cases e:a=b
 ·subst e;simp
 ·have h:¬(Sum.inl a:dB)=Sum.inl b:=fun q=>e (Sum.inl.inj q)
  rw[decide_eq_false h]
  exact(beq_eq_false_iff_ne.mpr e).symm
theorem JG (a b:Str):decide ((Sum.inr a:dB)=Sum.inr b)=decide (a=b):=by
 by_cases e:a=b
 ·subst e;simp
 ·have h:¬(Sum.inr a:dB)=Sum.inr b:=fun q=>e (Sum.inr.inj q)
  rw[decide_eq_false h,decide_eq_false e]
theorem Hk (a:Int)(b:Str):decide ((Sum.inl a:dB)=Sum.inr b)=false:=decide_eq_false (fun q=>nomatch q)
theorem Jt (a:Str)(b:Int):decide ((Sum.inr a:dB)=Sum.inl b)=false:=decide_eq_false (fun q=>nomatch q)
def cw (prog:Program)(w:World):PySem.KeyKind prog w dB where
 is:=se
 hash:=NP w
 inj:=fun v a b ha hb=>by
  rcases cD ha with⟨i,t,rfl,rfl⟩|⟨x,t,rfl,rfl⟩
  ·rcases cD hb with⟨j,u,rfl,e⟩|⟨y,u,rfl,e⟩
   ·injection e with e1 _;rw[e1]
   ·exact nomatch e
  ·rcases cD hb with⟨j,u,rfl,e⟩|⟨y,u,rfl,e⟩
   ·exact nomatch e
   ·injection e with e1 _;rw[e1]
 byValue:=fun k v h=>by
  rcases cD h with⟨i,t,rfl,rfl⟩|⟨x,t,rfl,rfl⟩ <;> rfl
 pyHash:=fun hv h=>by
  rcases cD hv with⟨i,t,rfl,rfl⟩|⟨x,t,rfl,rfl⟩
  ·exact wpAny_pyHash_int h
  ·exact wpAny_pyHash_str h
 eqBool:=fun hu hv h=>by
  rcases cD hu with⟨i,t,rfl,rfl⟩|⟨x,t,rfl,rfl⟩
  ·rcases cD hv with⟨j,u,rfl,rfl⟩|⟨y,u,rfl,rfl⟩
   ·rw[GY] at h;exact wpAny_eqBool_int h
   ·rw[Hk] at h;exact SeqAt.EqAt.int_str i t y u _ _ _ _ h
  ·rcases cD hv with⟨j,u,rfl,rfl⟩|⟨y,u,rfl,rfl⟩
   ·rw[Jt] at h;exact SeqAt.EqAt.str_int x t j u _ _ _ _ h
   ·rw[JG] at h;exact wpAny_eqBool_str h
 «strs»:=fun k x t v h=>by
  rcases cD h with⟨i,u,rfl,e⟩|⟨y,u,rfl,e⟩
  ·exact nomatch e
  ·injection e with e1 _
   subst e1
   cases v <;> rfl
theorem vZ (prog:Program)(w:World)(i:Int)(t:Tok):(cw prog w).is (.inl i) (.int i t)=true:=z7 i t
theorem vR (prog:Program)(w:World)(x:Str)(t:Tok):(cw prog w).is (.inr x) (.str x t)=true:=As x t
inductive V where
 | non|bl (b:Bool)|int (i:Int)|str (x:Str)|byt (b:Array UInt8)|flt (b:UInt64)|ref (a:Addr)|ty (n:String)
 deriving DecidableEq
def bc:V→Value→Prop
 | .non,u=>u=Value.none
 | .bl b,u=>u=Value.bool b
 | .int i,u=>∃t,u=Value.int i t
 | .str x,u=>∃t,u=Value.str x t
 | .byt b,u=>∃t,u=Value.bytes b t
 | .flt b,u=>∃t,u=Value.float b t
 | .ref a,u=>u=Value.ref a
 | .ty n,u=>u=Value.type n
abbrev aW:List V→List Value→Prop:=Paired bc
variable{xs:List V}{us:List Value}
theorem aW.length (r:aW xs us):xs.length=us.length:=Paired.length r
theorem aW.get:∀{xs:List V} {us:List Value} {i:Nat} {x:V},aW xs us→xs[i]?=some x→∃u,us[i]?=some u∧bc x u
 | _,_,_,_,.nil,e=>by simp at e
 | _,_,0,_,.cons r _,e=>by simp at e;subst e;exact⟨_,rfl,r⟩
 | _,_,i+1,x,.cons _ t,e=>by
  obtain⟨u,h1,h2⟩:=aW.get (i:=i) (x:=x) t (by simpa using e)
  exact⟨u,by simpa using h1,h2⟩
variable{u:Value}
theorem aW.set {x:V}(r:bc x u):∀{xs:List V} {us:List Value} (i:Nat),aW xs us→aW (xs.set i x) (us.set i u)
 | _,_,_,.nil=>.nil
 | _,_,0,.cons _ t=>.cons r t
 | _,_,i+1,.cons q t=>.cons q (aW.set r i t)
theorem aW.append:∀{xs ys:List V} {us ws:List Value},aW xs us→aW ys ws→aW (xs++ys) (us++ws)
 | _,_,_,_,.nil,s=>s
 | _,_,_,_,.cons r t,s=>.cons r (aW.append t s)
theorem aW.take:∀{xs:List V} {us:List Value} (n:Nat),aW xs us→aW (xs.take n) (us.take n)
 | _,_,0,_=>.nil
 | _,_,_+1,.nil=>.nil
 | _,_,n+1,.cons r t=>.cons r (aW.take n t)
theorem aW.drop:∀{xs:List V} {us:List Value} (n:Nat),aW xs us→aW (xs.drop n) (us.drop n)
 | _,_,0,r=>r
 | _,_,_+1,.nil=>.nil
 | _,_,n+1,.cons _ t=>aW.drop n t
def kM:Option V→Option Value→Prop
 | some v,some u=>bc v u
 | none,none=>True
 | _,_=>False
def KV {κ:Type}:List (κ×V)→List (κ×Value)→Prop:=Paired fun(p:κ×V) (q:κ×Value)=>p.1=q.1∧bc p.2 q.2
def kV:dB→V
 | .inl i=>.int i
 | .inr x=>.str x
inductive HO where
 | lst (xs:List V)
 | tup (xs:List V)
 | dK (kvs:List (dB×V))|dT (kvs:List (List dB×V))
 | set (S:Int→Bool) (n:Nat)
 | ins (C dx:Addr) (fs:List (Str×V))
 | own (x:Addr)
 | xd (fs:List (Str×V))
 | met (f x:Addr)
 | rng (lo hi:Int)
 | frz (o:Obj) (u:HO)
 | tbl (ps:Array Value)
 | ext (φ:Heap→Prop)
abbrev Hp:=Addr→Option HO
def ce (H:Hp)(a:Addr)(o:HO):Hp:=fun b=>if b=a then some o else H b
variable{H:Hp}{a:Addr}{o:HO}
theorem bF :ce H a o a=some o:=by unfold ce;rw[if_pos rfl]
variable{b:Addr}
theorem aC (h:b≠a):ce H a o b=H b:=by unfold ce;rw[if_neg h]
theorem wG {u:HO}(h:H a=some o)(h':H b=some u)(d:o≠u):a≠b:=by
 intro e;subst e;rw[h] at h';exact d (Option.some.inj h')
theorem bD (h:H a=some o)(h':H b=none):a≠b:=by
 intro e;subst e;rw[h] at h';cases h'
section
variable (P:Program)(w:World)
def cz (H:Hp)(h:Heap)(a:Addr):HO→Prop
 | .lst xs=>xs.length≤sizeLine∧∃(its:List Value) (n:Nat),aW xs its∧h.get? a=some {cls:=.type "list",data:=.seq its.toArray n}
 | .tup xs=>xs.length≤sizeLine∧∃its:List Value,aW xs its∧IsTup h a its.toArray
 | .dK kvs=>kvs.length≤sizeLine∧(a==sysModules)=false∧∃vs,KV kvs vs∧h.DictOf (cw P w) a vs
 | .dT kvs=>kvs.length≤sizeLine∧(a==sysModules)=false∧∃xs:List (List dB×Addr×Value),
   Paired (fun(p:List dB×V) (q:List dB×Addr×Value)=>p.1=q.1∧H q.2.1=some (.tup (p.1.map kV))∧bc p.2 q.2.2) kvs xs∧
   ∃o es ep,h.get? a=some o∧o.ExactDict∧o.data=.dict es ep∧es.toList=xs.map (entryOfKey (tupleKind (cw P w)))∧(xs.map (·.1)).Nodup
 | .set S n=>h.SetOf (intKind P w) a S n
 | .ins C dx fs=>H dx=some (.own a)∧fs.length≤1000∧dx≠a∧h.get? a=some (W.instObj C dx)∧
   ∃mA,h.Ns1 dx mA∧(∀f,kM (fs.lookup f) (mA f))∧PySem.Within mA (fs.map (·.1))
 | .own _=>∃o,h.get? a=some o
 | .xd fs=>∃mA,h.Ns1 a mA∧∀f,kM (fs.lookup f) (mA f)
 | .rng lo hi=>∃t u v,h.get? a=some {cls:=.type "range",data:=.fields #[.int lo t,.int hi u,.int 1 v]}
 | .frz o u=>h.get? a=some o∧cz H h a u
 | .tbl ps=>h.get? a=some {cls:=.none,data:=.fields ps}
 | .met f x=>h.get? a=some (W.methodObj (.ref f) (.ref x))
 | .ext φ=>φ h∧(∃o,h.get? a=some o)∧∀h1 h2:Heap,φ h1→(∀o,h1.get? a=some o→h2.get? a=some o)→φ h2
def kS (H:Hp)(h:Heap):Prop:=∀a o,H a=some o→cz P w H h a o
end
section
variable {P:Program}{w:World}{H H':Hp}{h h':Heap}{a:Addr}{o:HO}
theorem cz.lt (x:cz P w H h a o):a<h.objs.size:=by
 cases o with
 | lst xs=>obtain⟨_,_,_,_,e⟩:=x;exact Heap.lt_size e
 | tup xs=>obtain⟨_,_,_,p⟩:=x;exact p.lt
 | dK kvs=>obtain⟨_,_,_,_,o,_,_,e,_⟩:=x;exact Heap.lt_size e
 | dT kvs=>obtain⟨_,_,_,_,o,_,_,e,_⟩:=x;exact Heap.lt_size e
 | set S n=>obtain⟨o,_,_,_,e,_⟩:=x;exact Heap.lt_size e
 | ins C dx fs=>obtain⟨_,_,_,e,_⟩:=x;exact Heap.lt_size e
 | own y=>obtain⟨_,e⟩:=x;exact Heap.lt_size e
 | xd fs=>obtain⟨_,⟨_,_,_,e,_⟩,_⟩:=x;exact Heap.lt_size e
 | rng lo hi=>obtain⟨_,_,_,e⟩:=x;exact Heap.lt_size e
 | frz ob u=>obtain⟨e,_⟩:=x;exact Heap.lt_size e
 | tbl ps=>exact Heap.lt_size (show h.get? a=some _ from x)
 | met f y=>exact Heap.lt_size (show h.get? a=some _ from x)
 | ext φ=>obtain⟨_,⟨_,e⟩,_⟩:=x;exact Heap.lt_size e
theorem Paired.mapP {α β:Type}{F G:α→β→Prop}:∀{l₁:List α} {l₂:List β},Paired F l₁ l₂→(∀a b,F a b→G a b)→Paired G l₁ l₂
 | _,_,.nil,_=>.nil
 | _,_,.cons r t,f=>.cons (f _ _ r) (Paired.mapP t f)
theorem cz.stay (x:cz P w H h a o)(k:∀b u,(b=a∨H b=some (.own a))→h.get? b=some u→h'.get? b=some u)
  (ho:∀b,H b=some (.own a)→H' b=some (.own a)) (ht:∀b xs,H b=some (.tup xs)→H' b=some (.tup xs)):cz P w H' h' a o:=by
 induction o with
 | lst xs=>obtain⟨z,its,n,r,e⟩:=x;exact⟨z,its,n,r,k _ _ (.inl rfl) e⟩
 | tup xs=>obtain⟨z,its,r,ob,e,c⟩:=x;exact⟨z,its,r,ob,k _ _ (.inl rfl) e,c⟩
 | dK kvs=>obtain⟨z,y,vs,r,ob,es,ep,e,c⟩:=x;exact⟨z,y,vs,r,ob,es,ep,k _ _ (.inl rfl) e,c⟩
 | dT kvs=>
  obtain⟨z,y,xs,r,ob,es,ep,e,c⟩:=x
  exact⟨z,y,xs,Paired.mapP r fun p q z=>⟨z.1,ht _ _ z.2.1,z.2.2⟩,ob,es,ep,k _ _ (.inl rfl) e,c⟩
 | set S n=>obtain⟨ob,es,ep,t,e,c⟩:=x;exact⟨ob,es,ep,t,k _ _ (.inl rfl) e,c⟩
 | ins C dx fs=>
  obtain⟨d,z,ne,e,mA,⟨od,es,ep,e2,c⟩,r⟩:=x
  exact⟨ho _ d,z,ne,k _ _ (.inl rfl) e,mA,⟨od,es,ep,k _ _ (.inr d) e2,c⟩,r⟩
 | own y=>obtain⟨ob,e⟩:=x;exact⟨ob,k _ _ (.inl rfl) e⟩
 | xd fs=>obtain⟨mA,⟨od,es,ep,e,c⟩,r⟩:=x;exact⟨mA,⟨od,es,ep,k _ _ (.inl rfl) e,c⟩,r⟩
 | rng lo hi=>obtain⟨t,u,v,e⟩:=x;exact⟨t,u,v,k _ _ (.inl rfl) e⟩
 | frz ob u ih=>obtain⟨e,q⟩:=x;exact⟨k _ _ (.inl rfl) e,ih q⟩
 | tbl ps=>
  have e:h.get? a=some {cls:=.none,data:=.fields ps}:=x
  show h'.get? a=some {cls:=.none,data:=.fields ps}
  exact k a _ (.inl rfl) e
 | met f y=>
  have e:h.get? a=some (W.methodObj (.ref f) (.ref y)):=x
  show h'.get? a=some (W.methodObj (.ref f) (.ref y))
  exact k a _ (.inl rfl) e
 | ext φ=>obtain⟨p,⟨o,e⟩,st⟩:=x;exact⟨st _ _ p fun o q=>k _ _ (.inl rfl) q,⟨o,k _ _ (.inl rfl) e⟩,st⟩
theorem kS.lt (x:kS P w H h)(e:H a=some o):a<h.objs.size:=(x a o e).lt
theorem kS.fresh (x:kS P w H h)(e:h.objs.size≤a):H a=none:=by
 cases q:H a with
 | none=>rfl
 | some u=>exact absurd (Nat.lt_of_lt_of_le (x.lt q) e) (Nat.lt_irrefl _)
theorem kS.kept (x:kS P w H h)(k:∀b u,h.get? b=some u→h'.get? b=some u):kS P w H h':=fun a o e=>
 (x a o e).stay (fun b u _ q=>k b u q) (fun _ q=>q) fun _ _ q=>q
theorem kS.laid (x:kS P w H h)(k:∀b u,h.get? b=some u→h'.get? b=some u)(hp:h.objs.size≤a)(new:cz P w (ce H a o) h' a o):kS P w (ce H a o) h':=fun b u e=>by
 have hn:=x.fresh hp
 by_cases hb:b=a
 ·subst hb;rw[bF] at e;cases e;exact new
 ·rw[aC hb] at e
  exact(x b u e).stay (fun c v _ q=>k c v q) (fun c q=>by rw[aC (bD q hn)];exact q) fun c xs q=>by rw[aC (bD q hn)];exact q
end
def Rd (H:Hp)(a:Addr)(u:HO):Prop:=H a=some u∨∃o,H a=some (.frz o u)
variable{P:Program}{w:World}{h:Heap}
theorem Rd.ok {u:HO}(r:Rd H a u)(x:kS P w H h):cz P w H h a u:=by
 rcases r with r|⟨o,r⟩
 ·exact x a u r
 ·obtain⟨_,q⟩:=x a _ r
  exact q
def Le:Option HO→Prop
 | some (.lst _)=>True
 | some (.dK _)=>True
 | some (.dT _)=>True
 | some (.set _ _)=>True
 | some (.ins _ _ _)=>True
 | some (.ext _)=>True
 | _=>False
section
variable {P:Program}{w:World}{H:Hp}{h h':Heap}{x e:Addr}{o':HO}
theorem kS.write (ok:kS P w H h)(mu:Le (H x))(he:e=x∨H e=some (.own x))(k:∀b u,b≠e→h.get? b=some u→h'.get? b=some u)(heo:∃u,h'.get? e=some u)
  (new:cz P w (ce H x o') h' x o'):kS P w (ce H x o') h':=fun b u q=>by
 have nown:∀c y,H c=some (.own y)→c≠x:=fun c y r z=>by subst z;rw[r] at mu;exact mu
 have ntup:∀c xs,H c=some (.tup xs)→c≠x:=fun c xs r z=>by subst z;rw[r] at mu;exact mu
 by_cases hb:b=x
 ·subst hb;rw[bF] at q;cases q;exact new
 ·rw[aC hb] at q
  by_cases hbe:b=e
  ·have q':H b=some (.own x):=by
    rcases he with z|z
    ·exact absurd (hbe.trans z) hb
    ·rw[hbe];exact z
   rw[q] at q';cases q'
   obtain⟨v,hv⟩:=heo
   exact⟨v,by rw[hbe];exact hv⟩
  ·refine(ok b u q).stay (fun c v hc r=>k c v ?_ r) (fun c r=>by rw[aC (nown c b r)];exact r) fun c xs r=>by rw[aC (ntup c xs r)];exact r
   rcases hc with rfl|hc
   ·exact hbe
   ·rintro rfl
    rcases he with z|z
    ·exact nown c b hc z
    ·rw[hc] at z;cases z;exact hb rfl
end
structure Un (fs ex:List Addr)(H H':Hp)(h h':Heap):Prop where
 keep:∀b o,h.get? b=some o→H b=none→b∉fs→b∉ex→h'.get? b=some o
 slot:∀b o,h.get? b=some o→H b=none→b∈fs→b∉ex→∃sl,h'.get? b=some {o with slots:=sl}
 free:∀b o,h.get? b=some o→H b=none→b∉ex→H' b=none
 there:∀b o,h.get? b=some o→b∉ex→∃o',h'.get? b=some o'
 tups:∀b xs,H b=some (.tup xs)→H' b=some (.tup xs)
 frzs:∀b o u,H b=some (.frz o u)→H' b=some (.frz o u)
 tbls:∀b ps,H b=some (.tbl ps)→∃more,H' b=some (.tbl (ps++more))
section
variable {fs fs' ex ex':List Addr}{H H1 H2:Hp}{h h1 h2 h':Heap}{a x e:Addr}{o:HO}
theorem Un.any (u:Un fs ex H H1 h h1){ob:Obj}(q:h.get? b=some ob)(n:H b=none)(hx:b∉ex):∃sl,h1.get? b=some {ob with slots:=sl}:=by
 by_cases hb:b∈fs
 ·exact u.slot b ob q n hb hx
 ·exact⟨ob.slots,u.keep b ob q n hb hx⟩
theorem Un.kept (k:∀b u,h.get? b=some u→h'.get? b=some u):Un fs ex H H h h':=
 ⟨fun b ob q _ _ _=>k b ob q,fun b ob q _ _ _=>⟨ob.slots,k b ob q⟩,fun _ _ _ n _=>n,fun b ob q _=>⟨ob,k b ob q⟩,fun _ _ q=>q,fun _ _ _ q=>q,fun _ ps q=>⟨#[],by rw[q];simp⟩⟩
theorem Un.refl:Un fs ex H H h h:=Un.kept fun _ _ q=>q
theorem Un.laid (k:∀b u,h.get? b=some u→h'.get? b=some u)(hp:h.objs.size≤a)(hn:H a=none):Un fs ex H (ce H a o) h h' where
 keep:=fun b u q _ _ _=>k b u q
 slot:=fun b u q _ _ _=>⟨u.slots,k b u q⟩
 free:=fun b u q n _=>by rw[aC (Nat.ne_of_lt (Nat.lt_of_lt_of_le (Heap.lt_size q) hp))];exact n
 there:=fun b u q _=>⟨u,k b u q⟩
 tups:=fun b xs q=>by rw[aC (bD q hn)];exact q
 frzs:=fun b u xs q=>by rw[aC (bD q hn)];exact q
 tbls:=fun b ps q=>⟨#[],by rw[aC (bD q hn),q];simp⟩
theorem Un.write (mu:Le (H x))(he:e=x∨H e=some (.own x))(k:∀b u,b≠e→h.get? b=some u→h'.get? b=some u)(heo:∃u,h'.get? e=some u):Un fs ex H (ce H x o) h h':=by
 have hx:∀b,H b=none→b≠x:=fun b n z=>by subst z;rw[n] at mu;exact mu
 have hb:∀b,H b=none→b≠e:=fun b n z=>by
  subst z
  rcases he with r|r
  ·exact hx b n r
  ·rw[n] at r;cases r
 have hm:∀b u,H b=some u→¬Le (some u)→b≠x:=fun b u q nm z=>by subst z;rw[q] at mu;exact nm mu
 refine⟨fun b u q n _ _=>k b u (hb b n) q,fun b u q n _ _=>⟨u.slots,k b u (hb b n) q⟩,fun b u q n _=>by rw[aC (hx b n)];exact n,fun b u q _=>?_,
  fun b xs q=>by rw[aC (hm b _ q fun z=>z)];exact q,fun b u xs q=>by rw[aC (hm b _ q fun z=>z)];exact q,fun b ps q=>⟨#[],by rw[aC (hm b _ q fun z=>z),q];simp⟩⟩
 by_cases hbe:b=e
 ·subst hbe;exact heo
 ·exact⟨u,k b u hbe q⟩
end
def trk (h:Heap)(H:Hp):List Addr:=(List.range h.objs.size).filter fun a=>(H a).isSome
def uN (h:Heap)(H:Hp):Heap:=W.hideAll h (trk h H)
theorem Am (h:Heap)(H:Hp):(uN h H).objs.size=h.objs.size:=W.hideAll_size _ _
theorem Dx {o:Obj}(e:h.get? b=some o)(n:H b=none):(uN h H).get? b=some o:=
 W.hideAll_get _ e fun hm=>by
  have q:(H b).isSome=true:=(List.mem_filter.mp hm).2
  rw[n] at q;simp at q
theorem EE {o:Obj}(e:(uN h H).get? b=some o):h.get? b=some o∧H b=none:=by
 have e':h.get? b=some o:=W.of_hideAll (trk h H) e
 refine⟨e',?_⟩
 cases q:H b with
 | none=>rfl
 | some x=>
  have hm:b∈trk h H:=List.mem_filter.mpr ⟨List.mem_range.mpr (Heap.lt_size e'),by simp[q]⟩
  have z:(uN h H).get? b=none:=W.hideAll_none (trk h H) hm
  rw[z] at e;cases e
def DW (g h:Heap)(L:Addr):List (Addr×Obj):=(List.range h.objs.size).filterMap fun a=>if a=L∨(g.get? a).isSome=true then none else(h.get? a).map fun o=>(a,o)
def rest (g h:Heap)(L d:Addr):List (Addr×Obj):=(DW g h L).filter fun p=>decide (p.1≠d)
structure Mod (K:W.Frag)(mg:Str→Option Value)(base:Heap):Prop where
 kin:K.In base
 glob:base.Ns mainGlobals mg
 blt:∃mb,base.Ns builtinsNs mb∧∀x:Str,x≠"__name__"→mb x=bootBuiltins x
 nolimit:base.NoLimit
structure Cx where
 prog:Program
 w:World
 K:W.Frag
 mg:Str→Option Value
 base:Heap
 A:Around
 N:List Str
 s₀:Shared
 H₀:Hp
 env:Env
 outer:List Env
 stack:List Env
 ex:List Addr
 fn:Str→Bool
 calm:Bool
 pn:List (Addr×Obj)
 xe:Value→Shared→Prop
def rF (l:List Env):List Addr:=l.filterMap (·.frame)
abbrev Cx.fs (X:Cx):List Addr:=rF X.outer
def Lk (sc:Scope)(x:Str):Prop:=sc.names.lookup x=some .local∨sc.names.lookup x=some .cell∨sc.names.lookup x=some .free
def Bq (sc:Scope)(x:Str):Prop:=sc.names.lookup x=some .local∨sc.names.lookup x=some .cell
def NO (env:Env)(h:Heap)(m:Str→Option Value)(x:Str)(u:Value):Prop:=
 (env.kindOf x=some .local∧m x=some u)∨((env.kindOf x=some .cell∨env.kindOf x=some .free)∧∃c,env.cells.lookup x=some c∧h.IsCell c (some u))
structure Cx.Ok (X:Cx):Prop where
 mod:Mod X.K X.mg X.base
 kind:X.env.scope.kind=.function
 glob:X.env.globals=mainGlobals
 blt:X.env.builtins=builtinsNs
 above:X.s₀.heap.objs.size≤X.env.locals
 inj:∀x y c,X.env.cells.lookup x=some c→X.env.cells.lookup y=some c→x=y
 has:∀x,(X.env.kindOf x=some .cell∨X.env.kindOf x=some .free)→∃c,X.env.cells.lookup x=some c
 cab:∀x c,X.fn x=true→X.env.cells.lookup x=some c→X.s₀.heap.objs.size≤c
 hd:X.calm=true→X.A.handled=none
 frames:X.A.frames=some X.stack
 stk:X.stack=X.outer∨(X.stack=X.env::X.outer∧X.env.frame=some X.env.locals)
 exf:∀b∈X.ex,b≠X.env.locals∧∀x c,X.env.cells.lookup x=some c→c≠b
 bs:∀b o,X.base.get? b=some o→X.s₀.heap.get? b=some o∧X.H₀ b=none
 bsz:X.base.objs.size≤X.s₀.heap.objs.size
 noex:∀b o,X.base.get? b=some o→b∉X.ex
 exfs:∀b∈X.ex,b∉X.fs
 funs:X.s₀.heap.FunFrames X.base X.outer
 frf:∀b∈X.fs,X.H₀ b=none
structure Inv (X:Cx)(ag:List (Addr×Obj))(σ:List (Option V))(H:Hp)(s:Shared):Prop where
 ok:X.Ok
 os:s.os=X.s₀.os
 bare:AllBare s.gens
 base:Un X.fs X.ex X.H₀ H X.s₀.heap s.heap
 loc:∃m,s.heap.Ns X.env.locals m∧∀(i:Nat) (x:Str) (v:V),X.N[i]?=some x→σ[i]?=some (some v)→Lk X.env.scope x→∃u,bc v u∧NO X.env s.heap m x u
 cell:∀x c,X.env.cells.lookup x=some c→∃v,s.heap.IsCell c v
 free:H X.env.locals=none
 freeC:∀x c,X.env.cells.lookup x=some c→H c=none
 pin:∀p∈X.pn++ag,s.heap.get? p.1=some p.2∧H p.1=none∧p.1≠X.env.locals∧p.1∉X.fs∧∀v,p.2.data≠.cell v
 hok:kS X.prog X.w H s.heap
 len:σ.length=X.N.length
variable{x:Str}{ch:List Addr}{i:Nat}{v:V}
section
variable {X:Cx}{ag:List (Addr×Obj)}{σ:List (Option V)}{H H':Hp}{s:Shared}{h':Heap}
theorem Cx.Ok.nofr (ok:X.Ok){o:Obj}(e:X.base.get? b=some o):b∉X.fs:=fun hb=>by
 have:=(ok.funs.mem hb).1
 rw[e] at this;cases this
theorem Inv.bs (I:Inv X ag σ H s):∀b o,X.base.get? b=some o→s.heap.get? b=some o∧H b=none:=fun b o e=>
 ⟨I.base.keep b o (I.ok.bs b o e).1 (I.ok.bs b o e).2 (I.ok.nofr e) (I.ok.noex b o e),I.base.free b o (I.ok.bs b o e).1 (I.ok.bs b o e).2 (I.ok.noex b o e)⟩
theorem Inv.bk (I:Inv X ag σ H s):∀b o,X.base.get? b=some o→s.heap.get? b=some o:=fun b o e=>(I.bs b o e).1
theorem Inv.mod (I:Inv X ag σ H s):Mod X.K X.mg X.base:=I.ok.mod
theorem Inv.kIn (I:Inv X ag σ H s):X.K.In s.heap:=I.ok.mod.kin.keeps I.bk
theorem Inv.lt (I:Inv X ag σ H s):X.env.locals<s.heap.objs.size:=let ⟨_,hn,_⟩:=I.loc;hn.lt
theorem Inv.sz (I:Inv X ag σ H s):X.s₀.heap.objs.size≤s.heap.objs.size:=Nat.le_trans I.ok.above (Nat.le_of_lt I.lt)
theorem Inv.nofs (I:Inv X ag σ H s)(h:s.heap.objs.size≤a):a∉X.fs:=fun hb=>by
 obtain⟨_,o,ho,_⟩:=I.ok.funs.mem hb
 exact absurd (Nat.lt_of_lt_of_le (Heap.lt_size ho) (Nat.le_trans I.sz h)) (Nat.lt_irrefl _)
theorem Inv.cne (I:Inv X ag σ H s):∀x c,X.env.cells.lookup x=some c→c≠X.env.locals:=fun x c e z=>by
 obtain⟨v,o,ho,hd⟩:=I.cell x c e
 obtain⟨m,⟨o',es,ep,ho',hd',_⟩,_⟩:=I.loc
 rw[z,ho'] at ho;cases ho;rw[hd'] at hd;cases hd
theorem Inv.funs (I:Inv X ag σ H s):s.heap.FunFrames X.base X.outer:=by
 have all:∀(l:List Env),(∀b∈rF l,b∈X.fs)→X.s₀.heap.FunFrames X.base l→s.heap.FunFrames X.base l:=by
  intro l
  induction l with
  | nil=>intro _ _;trivial
  | cons env r ih=>
   intro hs hl
   obtain⟨hk,⟨L,o,hf,hn,ho,hd⟩,hr⟩:=hl
   have hL:L∈X.fs:=hs L (by unfold rF;rw[List.filterMap_cons,hf];exact List.mem_cons_self)
   obtain⟨sl,e⟩:=I.base.slot L o ho (I.ok.frf L hL) hL fun z=>I.ok.exfs L z hL
   exact⟨hk,⟨L,_,hf,hn,e,hd⟩,ih (fun b hb=>hs b (by unfold rF;rw[List.filterMap_cons,hf];exact List.mem_cons_of_mem _ hb)) hr⟩
 exact all X.outer (fun _ hb=>hb) I.ok.funs
theorem Inv.stack (I:Inv X ag σ H s):s.heap.FunFrames X.base X.stack:=by
 rcases I.ok.stk with e|⟨e,hf⟩
 ·rw[e];exact I.funs
 ·rw[e]
  obtain⟨m,hn,_⟩:=I.loc
  refine .cons (by rw[I.ok.kind];decide) hf hn ?_ I.funs
  exact Heap.get?_none_of_le (Nat.le_trans I.ok.bsz I.ok.above)
theorem Inv.stkSub (I:Inv X ag σ H s):∀b∈rF X.stack,b∈X.env.locals::X.fs:=fun b hb=>by
 rcases I.ok.stk with e|⟨e,hf⟩
 ·rw[e] at hb;exact List.mem_cons_of_mem _ hb
 ·rw[e] at hb
  unfold rF at hb
  rw[List.filterMap_cons,hf] at hb
  exact hb
theorem Inv.stkFree (I:Inv X ag σ H s):∀b∈rF X.stack,H b=none:=fun b hb=>by
 rcases List.mem_cons.mp (I.stkSub b hb) with e|hb
 ·rw[e];exact I.free
 ·obtain⟨_,o,ho,_⟩:=I.ok.funs.mem hb
  exact I.base.free b o ho (I.ok.frf b hb) fun z=>I.ok.exfs b z hb
theorem Inv.step {g':Array GenState}{t':Nat}{d':Drawn}(I:Inv X ag σ H s)
  (hch:∀b∈ch,(b∈X.ex∨X.s₀.heap.objs.size≤b)∧b≠X.env.locals∧(∀x c,X.env.cells.lookup x=some c→c≠b)∧∀p∈X.pn++ag,p.1≠b)
  (keep:∀b o,b≠X.env.locals→b∉X.fs→b∉ch→s.heap.get? b=some o→H b=none→h'.get? b=some o)
  (slot:∀b o,b≠X.env.locals→b∈X.fs→b∉ch→s.heap.get? b=some o→H b=none→∃sl,h'.get? b=some {o with slots:=sl}) (free:∀b o,b∉ch→s.heap.get? b=some o→H b=none→H' b=none)
  (there:∀b o,b∉ch→s.heap.get? b=some o→∃o',h'.get? b=some o')
  (tups:∀b xs,H b=some (.tup xs)→H' b=some (.tup xs)) (frzs:∀b o u,H b=some (.frz o u)→H' b=some (.frz o u)) (tbls:∀b ps,H b=some (.tbl ps)→∃more,H' b=some (.tbl (ps++more)))
  (ns:∀m,s.heap.Ns X.env.locals m→h'.Ns X.env.locals m) (hok:kS X.prog X.w H' h') (hg:AllBare g') :
  Inv X ag σ H' {s with heap:=h',gens:=g',drawn:=d',toks:=t'}:=by
 have neL:∀b o,X.s₀.heap.get? b=some o→b≠X.env.locals:=fun b o e=>Nat.ne_of_lt (Nat.lt_of_lt_of_le (Heap.lt_size e) I.ok.above)
 have neC:∀b o,X.s₀.heap.get? b=some o→b∉X.ex→b∉ch:=fun b o e hx hb=>by
  rcases(hch b hb).1 with z|z
  ·exact hx z
  ·exact absurd (Nat.lt_of_lt_of_le (Heap.lt_size e) z) (Nat.lt_irrefl _)
 have cellK:∀x c,X.env.cells.lookup x=some c→∀v,s.heap.IsCell c v→h'.IsCell c v:=fun x c e v ⟨o,ho,hd⟩=>by
  have nch:c∉ch:=fun z=>(hch c z).2.2.1 x c e rfl
  by_cases hc:c∈X.fs
  ·obtain⟨sl,q⟩:=slot c o (I.cne x c e) hc nch ho (I.freeC x c e)
   exact⟨_,q,hd⟩
  ·exact⟨o,keep c o (I.cne x c e) hc nch ho (I.freeC x c e),hd⟩
 refine⟨I.ok,I.os,hg,⟨fun b o e n hb hx=>?_,fun b o e n hb hx=>?_,fun b o e n hx=>?_,fun b o e hx=>?_,fun b xs e=>tups b xs (I.base.tups b xs e),fun b o xs e=>frzs b o xs (I.base.frzs b o xs e),fun b ps e=>?_⟩,?_,fun x c e=>?_,?_,fun x c e=>?_,fun p hp=>?_,hok,I.len⟩
 ·exact keep b o (neL b o e) hb (neC b o e hx) (I.base.keep b o e n hb hx) (I.base.free b o e n hx)
 ·obtain⟨sl,e1⟩:=I.base.slot b o e n hb hx
  obtain⟨sl',e2⟩:=slot b _ (neL b o e) hb (neC b o e hx) e1 (I.base.free b o e n hx)
  exact⟨sl',e2⟩
 ·obtain⟨o',e1⟩:=I.base.there b o e hx
  exact free b o' (neC b o e hx) e1 (I.base.free b o e n hx)
 ·obtain⟨o',e1⟩:=I.base.there b o e hx
  exact there b o' (neC b o e hx) e1
 ·obtain⟨m1,e1⟩:=I.base.tbls b ps e
  obtain⟨m2,e2⟩:=tbls b _ e1
  exact⟨m1++m2,by rw[e2,Array.append_assoc]⟩
 ·obtain⟨m,hn,hl⟩:=I.loc
  refine⟨m,ns m hn,fun i x v e1 e2 e3=>?_⟩
  obtain⟨u,r,l⟩:=hl i x v e1 e2 e3
  refine⟨u,r,?_⟩
  rcases l with l|⟨k,c,e,z⟩
  ·exact .inl l
  ·exact .inr ⟨k,c,e,cellK x c e _ z⟩
 ·obtain⟨v,z⟩:=I.cell x c e
  exact⟨v,cellK x c e v z⟩
 ·obtain⟨m,⟨o,_,_,ho,_⟩,_⟩:=I.loc
  exact free _ o (fun z=>(hch _ z).2.1 rfl) ho I.free
 ·obtain⟨v,o,ho,hd⟩:=I.cell x c e
  exact free c o (fun z=>(hch c z).2.2.1 x c e rfl) ho (I.freeC x c e)
 ·obtain⟨e,n,ne,nf,d⟩:=I.pin p hp
  have nch:p.1∉ch:=fun z=>(hch p.1 z).2.2.2 p hp rfl
  exact⟨keep p.1 p.2 ne nf nch e n,free p.1 p.2 nch e n,ne,nf,d⟩
theorem Inv.un {t':Nat}(I:Inv X ag σ H s)(u:Un X.fs [] H H' s.heap h')(hok:kS X.prog X.w H' h'):Inv X ag σ H' {s with heap:=h',toks:=t'}:=by
 obtain⟨m,⟨o,es,ep,ho,r⟩,_⟩:=id I.loc
 obtain⟨sl,hL⟩:=u.any ho I.free (by simp)
 exact I.step (g':=s.gens) (d':=s.drawn) (ch:=[]) (fun _ z=>nomatch z) (fun b o _ hb _ e n=>u.keep b o e n hb (by simp)) (fun b o _ hb _ e n=>u.slot b o e n hb (by simp)) (fun b o _ e n=>u.free b o e n (by simp)) (fun b o _ e=>u.there b o e (by simp)) u.tups u.frzs u.tbls (fun m' hm=>by
  obtain⟨o',es',ep',ho',r'⟩:=hm
  rw[ho] at ho';cases ho'
  exact⟨_,es',ep',hL,r'⟩) hok I.bare
theorem Inv.call {g':Array GenState}{t':Nat}{d':Drawn}(I:Inv X ag σ H s)(u:Un (rF X.stack) ch H H' s.heap h')(hok:kS X.prog X.w H' h')(hg:AllBare g')
  (hch:∀b∈ch,(b∈X.ex∨X.s₀.heap.objs.size≤b)∧b≠X.env.locals∧(∀x c,X.env.cells.lookup x=some c→c≠b)∧∀p∈X.pn++ag,p.1≠b) :
  Inv X ag σ H' {s with heap:=h',gens:=g',drawn:=d',toks:=t'}:=by
 obtain⟨m,⟨o,es,ep,ho,r⟩,_⟩:=id I.loc
 obtain⟨sl,hL⟩:=u.any ho I.free fun z=>(hch _ z).2.1 rfl
 exact I.step (ch:=ch) hch (fun b o hL hb hc e n=>u.keep b o e n (fun z=>(List.mem_cons.mp (I.stkSub b z)).elim hL hb) hc) (fun b o _ _ hc e n=>u.any e n hc) (fun b o hc e n=>u.free b o e n hc) (fun b o hc e=>u.there b o e hc) u.tups u.frzs u.tbls (fun m' hm=>by
  obtain⟨o',es',ep',ho',r'⟩:=hm
  rw[ho] at ho';cases ho'
  exact⟨_,es',ep',hL,r'⟩) hok hg
theorem Inv.turned {t':Nat}{it:Addr}(I:Inv X ag σ H s)(k:∀b o,b≠it→s.heap.get? b=some o→h'.get? b=some o)(hn:H it=none)(hL:it≠X.env.locals)
  (h1:it∈X.ex∨X.s₀.heap.objs.size≤it) (h2:∀x c,X.env.cells.lookup x=some c→c≠it) (h3:∀p∈X.pn++ag,p.1≠it):Inv X ag σ H {s with heap:=h',toks:=t'}:=by
 have nit:∀b u,H b=some u→b≠it:=fun b u e z=>by rw[z,hn] at e;cases e
 refine I.step (g':=s.gens) (d':=s.drawn) (ch:=[it]) (fun b hb=>?_) (fun b o _ _ hc e _=>k b o (fun z=>hc (by simp[z])) e) (fun b o _ _ hc e _=>⟨o.slots,k b o (fun z=>hc (by simp[z])) e⟩) (fun _ _ _ _ n=>n)
  (fun b o hc e=>⟨o,k b o (fun z=>hc (by simp[z])) e⟩) (fun _ _ e=>e) (fun _ _ _ e=>e) (fun b ps e=>⟨#[],by rw[e];simp⟩) (fun m hm=>?_) (fun b u e=>?_) I.bare
 ·have e:b=it:=by simpa using hb
  subst e
  exact⟨h1,hL,h2,h3⟩
 ·obtain⟨o,es,ep,ho,r⟩:=hm
  exact⟨o,es,ep,k _ o (Ne.symm hL) ho,r⟩
 ·refine(I.hok b u e).stay (fun c v hc q=>k c v ?_ q) (fun _ q=>q) fun _ _ q=>q
  rcases hc with z|z
  ·rw[z];exact nit b u e
  ·exact nit c _ z
theorem Inv.tok (I:Inv X ag σ H s)(t:Nat):Inv X ag σ H {s with toks:=t}:=I.un (h':=s.heap) (t':=t) Un.refl I.hok
theorem Inv.kept {t':Nat}(I:Inv X ag σ H s)(k:∀b u,s.heap.get? b=some u→h'.get? b=some u):Inv X ag σ H {s with heap:=h',toks:=t'}:=I.un (Un.kept k) (I.hok.kept k)
theorem Inv.laid {t':Nat}(I:Inv X ag σ H s)(k:∀b u,s.heap.get? b=some u→h'.get? b=some u)(hp:s.heap.objs.size≤a)(new:cz X.prog X.w (ce H a o) h' a o) :
  Inv X ag σ (ce H a o) {s with heap:=h',toks:=t'}:=I.un (Un.laid k hp (I.hok.fresh hp)) (I.hok.laid k hp new)
theorem Inv.write {x e:Addr}{t':Nat}(I:Inv X ag σ H s)(mu:Le (H x))(he:e=x∨H e=some (.own x))(k:∀b u,b≠e→s.heap.get? b=some u→h'.get? b=some u)(heo:∃u,h'.get? e=some u)
  (new:cz X.prog X.w (ce H x o) h' x o):Inv X ag σ (ce H x o) {s with heap:=h',toks:=t'}:=I.un (Un.write mu he k heo) (I.hok.write mu he k heo new)
theorem Inv.pins_of {pins':List (Addr×Obj)}(I:Inv X ag σ H s)(h:∀p∈pins',s.heap.get? p.1=some p.2∧H p.1=none∧p.1≠X.env.locals∧p.1∉X.fs∧∀v,p.2.data≠.cell v):Inv X pins' σ H s:=
 ⟨I.ok,I.os,I.bare,I.base,I.loc,I.cell,I.free,I.freeC,fun p hp=>(List.mem_append.mp hp).elim (fun z=>I.pin p (List.mem_append_left _ z)) (h p),I.hok,I.len⟩
theorem v8 {N:List Str}(hN:N.Nodup){j:Nat}(a:N[i]?=some x)(b:N[j]?=some x):i=j:=by
 obtain⟨h1,e1⟩:=List.getElem?_eq_some_iff.mp a
 obtain⟨h2,e2⟩:=List.getElem?_eq_some_iff.mp b
 exact(List.getElem_inj hN).mp (e1.trans e2.symm)
theorem tF {M:Model}{A:Around}{E:Value→Shared→Prop}{Q:Unit→Shared→Prop}(I:Inv X ag σ H s)(hN:X.N.Nodup)(hi:X.N[i]?=some x)(hx:Bq X.env.scope x)(r:bc v u)
  (h:∀s',Inv X ag (σ.set i (some v)) H s'→(∃a,Heap.SameBut a s.heap s'.heap∧(a=X.env.locals∨X.env.cells.lookup x=some a))→Q () s') (hf:X.fn x=true∨X.env.scope.names.lookup x=some .local:=by first|exact .inl rfl|exact .inr rfl|assumption):wpAny M A (storeName X.env x u) Q E s:=by
 obtain⟨m,hn,hl⟩:=id I.loc
 have hcls:(X.env.scope.kind==.class||(X.env.scope.kind==.module&&X.env.locals != X.env.globals))=false:=by rw[I.ok.kind];rfl
 have hiσ:i<σ.length:=by rw[I.len];exact(List.getElem?_eq_some_iff.mp hi).1
 have cne:=I.cne
 have tracked:∀{a:Addr} {h':Heap},(∃o,s.heap.get? a=some o∧H a=none)→Heap.SameBut a s.heap h'→kS X.prog X.w H h':=fun {a h'} ha hs b ob e=>by
  obtain⟨_,_,hfree⟩:=ha
  refine(I.hok b ob e).stay (fun c w' hc q=>(hs.2 c ?_).trans q) (fun _ q=>q) fun _ _ q=>q
  rintro rfl
  rcases hc with rfl|hc
  ·rw[hfree] at e;cases e
  ·rw[hfree] at hc;cases hc
 rcases hx with hk|hk
 ·refine wpAny_storeName_local hk hn (fun h' hn' hs=>?_) hcls
  obtain⟨oL,_,_,hoL,_⟩:=id hn
  refine h _ ⟨I.ok,I.os,I.bare,⟨fun b o e n hb hx=>?_,fun b o e n hb hx=>?_,I.base.free,fun b o e hx=>?_,I.base.tups,I.base.frzs,I.base.tbls⟩,⟨_,hn',fun j y v' e1 e2 e3=>?_⟩,fun y c e=>?_,I.free,I.freeC,fun p hp=>?_,tracked ⟨oL,hoL,I.free⟩ hs,by simpa using I.len⟩ ⟨_,hs,.inl rfl⟩
  ·exact(hs.2 b (Nat.ne_of_lt (Nat.lt_of_lt_of_le (Heap.lt_size e) I.ok.above))).trans (I.base.keep b o e n hb hx)
  ·obtain⟨sl,e1⟩:=I.base.slot b o e n hb hx
   exact⟨sl,(hs.2 b (Nat.ne_of_lt (Nat.lt_of_lt_of_le (Heap.lt_size e) I.ok.above))).trans e1⟩
  ·obtain⟨o',e1⟩:=I.base.there b o e hx
   exact⟨o',(hs.2 b (Nat.ne_of_lt (Nat.lt_of_lt_of_le (Heap.lt_size e) I.ok.above))).trans e1⟩
  ·by_cases hj:j=i
   ·subst hj
    rw[hi] at e1;cases e1
    rw[List.getElem?_set_self hiσ] at e2
    cases e2
    exact⟨u,r,.inl ⟨hk,by simp⟩⟩
   ·rw[List.getElem?_set_ne (Ne.symm hj)] at e2
    obtain⟨u',r',q⟩:=hl j y v' e1 e2 e3
    refine⟨u',r',?_⟩
    rcases q with⟨k,e⟩|⟨k,c,e,z⟩
    ·refine .inl ⟨k,?_⟩
     have:y≠x:=fun e=>hj (v8 hN e1 (e▸hi))
     simp[this,e]
    ·exact .inr ⟨k,c,e,z.sameBut hs (cne y c e)⟩
  ·obtain⟨w',z⟩:=I.cell y c e
   exact⟨w',z.sameBut hs (cne y c e)⟩
  ·obtain⟨e,n,ne,nf,d⟩:=I.pin p hp
   exact⟨(hs.2 p.1 ne).trans e,n,ne,nf,d⟩
 ·have hfn:X.fn x=true:=by
   rcases hf with z|z
   ·exact z
   ·rw[z] at hk;cases hk
  obtain⟨c,hc⟩:=I.ok.has x (.inl hk)
  obtain⟨w',z⟩:=I.cell x c hc
  refine wpAny_storeName_cell I.ok.kind hk hc z (fun h' hc' hs=>?_)
  obtain⟨oc,hoc,hocd⟩:=id z
  refine h {s with heap:=h'} ⟨I.ok,I.os,I.bare,⟨fun b o e n hb hx=>?_,fun b o e n hb hx=>?_,I.base.free,fun b o e hx=>?_,I.base.tups,I.base.frzs,I.base.tbls⟩,⟨m,hn.sameBut hs (Ne.symm (cne x c hc)),fun j y v' e1 e2 e3=>?_⟩,fun y c' e=>?_,I.free,I.freeC,fun p hp=>?_,tracked ⟨oc,hoc,I.freeC x c hc⟩ hs,by simpa using I.len⟩ ⟨c,hs,.inr hc⟩
  ·exact(hs.2 b (Nat.ne_of_lt (Nat.lt_of_lt_of_le (Heap.lt_size e) (I.ok.cab x c hfn hc)))).trans (I.base.keep b o e n hb hx)
  ·obtain⟨sl,e1⟩:=I.base.slot b o e n hb hx
   exact⟨sl,(hs.2 b (Nat.ne_of_lt (Nat.lt_of_lt_of_le (Heap.lt_size e) (I.ok.cab x c hfn hc)))).trans e1⟩
  ·obtain⟨o',e1⟩:=I.base.there b o e hx
   exact⟨o',(hs.2 b (Nat.ne_of_lt (Nat.lt_of_lt_of_le (Heap.lt_size e) (I.ok.cab x c hfn hc)))).trans e1⟩
  ·by_cases hj:j=i
   ·subst hj
    rw[hi] at e1;cases e1
    rw[List.getElem?_set_self hiσ] at e2
    cases e2
    exact⟨u,r,.inr ⟨.inl hk,c,hc,hc'⟩⟩
   ·rw[List.getElem?_set_ne (Ne.symm hj)] at e2
    obtain⟨u',r',q⟩:=hl j y v' e1 e2 e3
    refine⟨u',r',?_⟩
    rcases q with q|⟨k,c',e,z'⟩
    ·exact .inl q
    ·refine .inr ⟨k,c',e,z'.sameBut hs ?_⟩
     rintro rfl
     exact hj (v8 hN e1 (I.ok.inj _ _ _ e hc▸hi))
  ·by_cases hcc:c'=c
   ·subst hcc;exact⟨_,hc'⟩
   ·obtain⟨w2,z2⟩:=I.cell y c' e
    exact⟨w2,z2.sameBut hs hcc⟩
  ·obtain⟨e,n,ne,nf,d⟩:=I.pin p hp
   refine⟨(hs.2 p.1 ?_).trans e,n,ne,nf,d⟩
   intro q
   rw[q,hoc] at e
   have q':oc=p.2:=Option.some.inj e
   exact d w' (by rw[←q'];exact hocd)
theorem nL {M:Model}{A:Around}{E:Value→Shared→Prop}{Q:Unit→Shared→Prop}(I:Inv X ag σ H s)(hN:X.N.Nodup)(hi:X.N[i]?=some x)(hx:Bq X.env.scope x)(r:bc v u)
  (h:∀s',Inv X ag (σ.set i (some v)) H s'→Q () s') (hf:X.fn x=true∨X.env.scope.names.lookup x=some .local:=by first|exact .inl rfl|exact .inr rfl|assumption):wpAny M A (storeName X.env x u) Q E s:=
 tF I hN hi hx r (fun s' I' _=>h s' I') hf
theorem Inv.call' {s':Shared}(I:Inv X ag σ H s)(ho:s'.os=s.os)(u:Un (rF X.stack) ch H H' s.heap s'.heap)(hok:kS X.prog X.w H' s'.heap)(hg:AllBare s'.gens)
  (hch:∀b∈ch,(b∈X.ex∨X.s₀.heap.objs.size≤b)∧b≠X.env.locals∧(∀x c,X.env.cells.lookup x=some c→c≠b)∧∀p∈X.pn++ag,p.1≠b):Inv X ag σ H' s':=by
 obtain⟨h',g',d',t',o'⟩:=s'
 have e:o'=s.os:=ho
 subst e
 exact I.call (g':=g') (t':=t') (d':=d') u hok hg hch
end
abbrev XK:=Value→Option Addr→Hp→Prop
abbrev St:=List (Option V)
abbrev VK:=V→Hp→Prop
abbrev TE:=St→Hp→VK→Prop
abbrev TT:=St→Hp→(Bool→Hp→Prop)→Prop
abbrev TA:=St→Hp→(List V→Hp→Prop)→Prop
structure AF where
 nx:St→Hp→Prop
 rt:VK
 bk:St→Hp→Prop:=fun _ _=>False
 ct:St→Hp→Prop:=fun _ _=>False
abbrev TS:=AF→St→Hp→Prop
def EP (X:Cx)(ag:List (Addr×Obj))(σ:St)(Q:VK)(u:Value)(s':Shared):Prop:=∃v H',Inv X ag σ H' s'∧bc v u∧Q v H'
def TP (X:Cx)(ag:List (Addr×Obj))(σ:St)(Q:Bool→Hp→Prop)(b:Bool)(s':Shared):Prop:=∃H',Inv X ag σ H' s'∧Q b H'
def AP (X:Cx)(ag:List (Addr×Obj))(σ:St)(Q:List V→Hp→Prop)(us:List Value)(s':Shared):Prop:=∃vs H',Inv X ag σ H' s'∧aW vs us∧Q vs H'
def SP (X:Cx)(ag:List (Addr×Obj))(D:AF)(f:Flow)(s':Shared):Prop:=
 match f with
 | .next=>∃σ' H',Inv X ag σ' H' s'∧D.nx σ' H'
 | .brk=>∃σ' H',Inv X ag σ' H' s'∧D.bk σ' H'
 | .cont=>∃σ' H',Inv X ag σ' H' s'∧D.ct σ' H'
 | .ret u=>∃v σ' H',Inv X ag σ' H' s'∧bc v u∧D.rt v H'
def PE (X:Cx)(e:Expr)(t:TE):Prop:=
 ∀(ag:List (Addr×Obj)) (s:Shared) (σ:St) (H:Hp) (Q:VK),Inv X ag σ H s→t σ H Q→wpAny (model X.prog X.w) X.A (eval e X.env) (EP X ag σ Q) X.xe s
def PT (X:Cx)(e:Expr)(t:TT):Prop:=
 ∀(ag:List (Addr×Obj)) (s:Shared) (σ:St) (H:Hp) (Q:Bool→Hp→Prop),Inv X ag σ H s→t σ H Q→wpAny (model X.prog X.w) X.A (isTrue e X.env (eval e X.env)) (TP X ag σ Q) X.xe s
def PW (X:Cx)(e:Expr)(t:TT):Prop:=
 ∀(whole:Sem Value) (ag:List (Addr×Obj)) (s:Shared) (σ:St) (H:Hp) (Q:Bool→Hp→Prop),Inv X ag σ H s→t σ H Q→wpAny (model X.prog X.w) X.A (isTrue e X.env whole) (TP X ag σ Q) X.xe s
variable{e:Expr}
theorem PW.pt {X:Cx}{t:TT}(h:PW X e t):PT X e t:=h _
def PA (X:Cx)(es:List Expr)(t:TA):Prop:=
 ∀(pos:Pos) (ag:List (Addr×Obj)) (s:Shared) (σ:St) (H:Hp) (Q:List V→Hp→Prop),Inv X ag σ H s→t σ H Q→wpAny (model X.prog X.w) X.A (spliced (backTo pos (starEach es X.env))) (AP X ag σ Q) X.xe s
def PS (X:Cx)(st:Stmt)(t:TS):Prop:=
 ∀(ag:List (Addr×Obj)) (s:Shared) (σ:St) (H:Hp) (D:AF),Inv X ag σ H s→t D σ H→wpAny (model X.prog X.w) X.A (exec st X.env) (SP X ag D) X.xe s
def PSs (X:Cx)(st:List Stmt)(t:TS):Prop:=
 ∀(ag:List (Addr×Obj)) (s:Shared) (σ:St) (H:Hp) (D:AF),Inv X ag σ H s→t D σ H→wpAny (model X.prog X.w) X.A (execs st X.env) (SP X ag D) X.xe s
variable{A:Around}{E:Value→Shared→Prop}{s:Shared}
theorem cy {α:Type}{t:Sem α}{Q Q':α→Shared→Prop}{M:Model}(h:wpAny M A t Q E s)(hQ:∀a s,Q a s→Q' a s):wpAny M A t Q' E s:=wpAny_mono h hQ fun _ _ x=>x
variable{Q:Value→Shared→Prop}{ag:List (Addr×Obj)}{σ:St}{c:Expr}
section
variable {X:Cx}
def Kq (i:Nat):TE:=fun σ H Q=>∃v,σ[i]?=some (some v)∧Q v H
def tC (v:V):TE:=fun _ H Q=>Q v H
theorem GF {pos:Pos}(hN:X.N[i]?=some x)(hv:Lk X.env.scope x)(hd:(x==("__debug__":Str))=false:=by decide)(hcd:(x==("__classdict__":Str))=false:=by decide):PE X (.Name x pos) (Kq i):=by
 intro ag s σ H Q I h
 obtain⟨v,e,h⟩:=h
 obtain⟨m,hn,hl⟩:=I.loc
 obtain⟨u,r,l⟩:=hl i x v hN e hv
 have fin:EP X ag σ Q u s:=⟨v,H,I,r,h⟩
 rcases l with⟨hk,hm⟩|⟨hk,c,hc,hcell⟩
 ·exact wpAny_Name (wpAny_loadName_local I.ok.kind hk hn hm fin) hd
 ·rcases hk with hk|hk
  ·exact wpAny_Name (wpAny_loadName_cell I.ok.kind hk hc hcell fin) hd
  ·exact wpAny_Name (wpAny_loadName_free I.ok.kind hk hc hcell fin hcd) hd
theorem Cu {i j pos}:PE X (.Constant (.int i) j pos) (tC (.int i)):=fun _ _ _ H _ I h=>wpAny_Constant_int ⟨.int i,H,I.tok _,⟨_,rfl⟩,h⟩
theorem Kl {b j pos}:PE X (.Constant (.bool b) j pos) (tC (.bl b)):=fun _ _ _ H _ I h=>Constant_bool ⟨.bl b,H,I,rfl,h⟩
theorem GX {j pos}:PE X (.Constant .none j pos) (tC .non):=fun _ _ _ H _ I h=>Constant_none ⟨.non,H,I,rfl,h⟩
theorem Jc {x j pos}:PE X (.Constant (.str x) j pos) (tC (.str x)):=fun _ _ _ H _ I h=>Calls.Constant_str ⟨.str x,H,I.tok _,⟨_,rfl⟩,h⟩
def Gl (X:Cx)(x:Str):Prop:=X.env.kindOf x=some .globalImplicit
theorem uV {E:Value→Shared→Prop}{pos:Pos}(I:Inv X ag σ H s)(hg:Gl X x)(hm:X.mg x=some u)(h:Q u s)
  (hd:(x==("__debug__":Str))=false:=by decide):wpAny (model X.prog X.w) X.A (eval (.Name x pos) X.env) Q E s:=
 Calls.Name_function_global I.ok.kind hg (Calls.loadGlobal_global (by rw[I.ok.glob];exact I.mod.glob.keeps I.bk) hm h) hd
theorem nR {E:Value→Shared→Prop}{pos:Pos}(I:Inv X ag σ H s)(hg:Gl X x)(hm:X.mg x=none)(hv:bootBuiltins x=some u)(h:Q u s)
  (hn:x≠"__name__":=by decide) (hd:(x==("__debug__":Str))=false:=by decide):wpAny (model X.prog X.w) X.A (eval (.Name x pos) X.env) Q E s:=by
 obtain⟨mb,h1,h2⟩:=I.mod.blt
 exact Calls.Name_function_global I.ok.kind hg (Calls.loadGlobal_builtin (by rw[I.ok.glob];exact I.mod.glob.keeps I.bk) hm (by rw[I.ok.blt];exact h1.keeps I.bk) ((h2 x hn).trans hv) h) hd
theorem Es {pos:Pos}(hg:Gl X x)(hm:X.mg x=none)(hv:bootBuiltins x=some u)(r:bc v u)(hn:x≠"__name__":=by decide)(hd:(x==("__debug__":Str))=false:=by decide):PE X (.Name x pos) (tC v):=
 fun _ _ _ H _ I h=>nR I hg hm hv ⟨v,H,I,r,h⟩ hn hd
variable {a b:Expr}{ta tb:TE}{pos:Pos}
variable {tA tB':TT}{rest:List Expr}
def NW (t u:TT):TT:=fun σ H Q=>t σ H fun c H1=>if c=true then u σ H1 Q else Q false H1
def Oo (t u:TT):TT:=fun σ H Q=>t σ H fun c H1=>if c=true then Q true H1 else u σ H1 Q
def NH (t:TT):TT:=fun σ H Q=>t σ H fun c H1=>Q (!c) H1
theorem E9 (ha:PT X a tA):PW X (.BoolOp .And [a] pos) tA:=by
 intro wh ag s σ H Q I h
 refine isTrue_and (cy (ha ag s σ H Q I h) fun c s1 e=>?_)
 cases c with
 | true=>exact isTrue_and_nil e
 | false=>exact e
theorem Io (ha:PT X a tA):PW X (.BoolOp .Or [a] pos) tA:=by
 intro wh ag s σ H Q I h
 refine isTrue_or (cy (ha ag s σ H Q I h) fun c s1 e=>?_)
 cases c with
 | false=>exact isTrue_or_nil e
 | true=>exact e
theorem Js (ha:PT X a tA)(hb:PW X (.BoolOp .And (b::rest) pos) tB'):PW X (.BoolOp .And (a::b::rest) pos) (NW tA tB'):=by
 intro wh ag s σ H Q I h
 refine isTrue_and (cy (ha ag s σ H _ I h) fun c s1 ⟨H1,I1,q1⟩=>?_)
 cases c with
 | true=>exact hb wh ag s1 σ H1 Q I1 q1
 | false=>exact⟨H1,I1,q1⟩
theorem LV (ha:PT X a tA)(hb:PW X (.BoolOp .Or (b::rest) pos) tB'):PW X (.BoolOp .Or (a::b::rest) pos) (Oo tA tB'):=by
 intro wh ag s σ H Q I h
 refine isTrue_or (cy (ha ag s σ H _ I h) fun c s1 ⟨H1,I1,q1⟩=>?_)
 cases c with
 | true=>exact⟨H1,I1,q1⟩
 | false=>exact hb wh ag s1 σ H1 Q I1 q1
theorem HM (ha:PT X a tA):PT X (.UnaryOp .Not a pos) (NH tA):=by
 intro ag s σ H Q I h
 exact isTrue_not (ha ag s σ H (fun c H1=>Q (!c) H1) I h)
def J0 (ta tb:TE):TE:=fun σ H Q=>ta σ H fun x H1=>∃c,x=.bl c∧if c=true then tb σ H1 Q else Q (.bl false) H1
def Nq (ta tb:TE):TE:=fun σ H Q=>ta σ H fun x H1=>∃c,x=.bl c∧if c=true then Q (.bl true) H1 else tb σ H1 Q
def KA (ta:TE):TE:=fun σ H Q=>ta σ H fun x H1=>∃c,x=.bl c∧Q (.bl (!c)) H1
theorem Hs {op}{t:TE}(h:PE X a t):PE X (.BoolOp op [a] pos) t:=fun ag s σ H Q I hw=>BoolOp_one (h ag s σ H Q I hw)
theorem JK (ha:PE X a ta)(hb:PE X (.BoolOp .And (b::rest) pos) tb):PE X (.BoolOp .And (a::b::rest) pos) (J0 ta tb):=by
 intro ag s σ H Q I h
 refine BoolOp_and (cy (ha ag s σ H _ I h) fun v s1 ⟨x,H1,I1,r1,q1⟩=>?_)
 obtain⟨c,rfl,q1⟩:=q1
 cases r1
 refine wpAny_truthy_bool ?_
 cases c with
 | true=>exact hb ag s1 σ H1 Q I1 q1
 | false=>exact⟨.bl false,H1,I1,rfl,q1⟩
theorem J7 (ha:PE X a ta)(hb:PE X (.BoolOp .Or (b::rest) pos) tb):PE X (.BoolOp .Or (a::b::rest) pos) (Nq ta tb):=by
 intro ag s σ H Q I h
 refine BoolOp_or (cy (ha ag s σ H _ I h) fun v s1 ⟨x,H1,I1,r1,q1⟩=>?_)
 obtain⟨c,rfl,q1⟩:=q1
 cases r1
 refine wpAny_truthy_bool ?_
 cases c with
 | false=>exact hb ag s1 σ H1 Q I1 q1
 | true=>exact⟨.bl true,H1,I1,rfl,q1⟩
theorem Jz (ha:PE X a ta):PE X (.UnaryOp .Not a pos) (KA ta):=by
 intro ag s σ H Q I h
 refine UnaryOp_ (cy (ha ag s σ H _ I h) fun v s1 ⟨x,H1,I1,r1,q1⟩=>?_)
 obtain⟨c,rfl,q1⟩:=q1
 cases r1
 exact not_of (wpAny_truthy_bool ⟨.bl (!c),H1,I1,rfl,q1⟩)
def Oi (t:TT)(ta tb:TE):TE:=fun σ H Q=>t σ H fun c H1=>if c=true then ta σ H1 Q else tb σ H1 Q
theorem C6 (hc:PT X c tA)(ha:PE X a ta)(hb:PE X b tb):PE X (.IfExp c a b pos) (Oi tA ta tb):=by
 intro ag s σ H Q I h
 refine wpAny_IfExp (cy (hc ag s σ H _ I h) fun d s1 ⟨H1,I1,q1⟩=>?_)
 cases d with
 | true=>exact ha ag s1 σ H1 Q I1 q1
 | false=>exact hb ag s1 σ H1 Q I1 q1
end
def mV (K:W.Frag)(H:Hp)(a:Addr)(xs:List V):Prop:=
 Rd H a (.lst xs)∨
  ∃(o:Obj) (its:Array Value) (n:Nat),K.lookup a=some o∧o.cls=.type "list"∧o.dict=none∧o.data=.seq its n∧its.size≤sizeLine∧aW xs its.toList
def ph (K:W.Frag)(H:Hp)(a:Addr)(xs:List V):Prop:=
 Rd H a (.tup xs)∨
  ∃(o:Obj) (its:Array Value) (n:Nat),K.lookup a=some o∧o.cls=.type "tuple"∧o.data=.seq its n∧its.size≤sizeLine∧aW xs its.toList
def N8:Value→Option V
 | .none=>some .non
 | .bool b=>some (.bl b)
 | .int i _=>some (.int i)
 | .str x _=>some (.str x)
 | .bytes b _=>some (.byt b)
 | .float b _=>some (.flt b)
 | .ref a=>some (.ref a)
 | .type n=>some (.ty n)
 | _=>none
theorem bc.abs {x:V}(r:bc x u):N8 u=some x:=by
 cases x with
 | non=>cases r;rfl
 | bl _=>cases r;rfl
 | int _=>obtain⟨t,rfl⟩:=r;rfl
 | str _=>obtain⟨t,rfl⟩:=r;rfl
 | byt _=>obtain⟨t,rfl⟩:=r;rfl
 | flt _=>obtain⟨t,rfl⟩:=r;rfl
 | ref _=>cases r;rfl
 | ty _=>cases r;rfl
theorem bc.inj {x y:V}(r:bc x u)(q:bc y u):x=y:=Option.some.inj (r.abs.symm.trans q.abs)
theorem aW.inj:∀{xs ys:List V} {us:List Value},aW xs us→aW ys us→xs=ys
 | _,_,_,.nil,.nil=>rfl
 | _,_,_,.cons r t,.cons r' t'=>by rw[r.inj r',aW.inj t t']
section
variable {X:Cx}{ag:List (Addr×Obj)}{σ:St}{H:Hp}{s:Shared}{a:Addr}{xs ys:List V}
theorem Inv.list (I:Inv X ag σ H s)(h:mV X.K H a xs):∃its:List Value,aW xs its∧PlainL s.heap a its.toArray∧xs.length≤sizeLine:=by
 rcases h with h|⟨o,its,n,hk,hc,hd,hs,hz,r⟩
 ·obtain⟨z,its,n,r,e⟩:=h.ok I.hok
  exact⟨its,r,⟨_,n,e,rfl,rfl,rfl⟩,z⟩
 ·refine⟨its.toList,r,⟨o,n,I.kIn a o hk,hc,hd,by simpa using hs⟩,?_⟩
  have e:=r.length
  simp only[Array.length_toList] at e
  omega
theorem Inv.tuple (I:Inv X ag σ H s)(h:ph X.K H a xs):∃its:List Value,aW xs its∧IsTup s.heap a its.toArray∧xs.length≤sizeLine:=by
 rcases h with h|⟨o,its,n,hk,hc,hs,hz,r⟩
 ·obtain⟨z,its,r,p⟩:=h.ok I.hok
  exact⟨its,r,p,z⟩
 ·refine⟨its.toList,r,⟨o,I.kIn a o hk,hc,n,by simpa using hs⟩,?_⟩
  have e:=r.length
  simp only[Array.length_toList] at e
  omega
theorem Inv.list_inj (I:Inv X ag σ H s)(h:mV X.K H a xs)(h':mV X.K H a ys):xs=ys:=by
 obtain⟨its,r,⟨o,n,e,_,_,d⟩,_⟩:=I.list h
 obtain⟨its',r',⟨o',n',e',_,_,d'⟩,_⟩:=I.list h'
 rw[e] at e';cases e'
 rw[d] at d'
 injection d' with d1 _
 have:its=its':=by simpa using congrArg Array.toList d1
 subst this
 exact r.inj r'
theorem Inv.tuple_inj (I:Inv X ag σ H s)(h:ph X.K H a xs)(h':ph X.K H a ys):xs=ys:=by
 obtain⟨its,r,⟨o,e,_,n,d⟩,_⟩:=I.tuple h
 obtain⟨its',r',⟨o',e',_,n',d'⟩,_⟩:=I.tuple h'
 rw[e] at e';cases e'
 rw[d] at d'
 injection d' with d1 _
 have:its=its':=by simpa using congrArg Array.toList d1
 subst this
 exact r.inj r'
end
section
variable {X:Cx}{st:Stmt}{rest:List Stmt}{t u:TS}{e:Expr}{te:TE}{pos:Pos}
def Lf:TS:=fun D σ H=>D.nx σ H
def N3 (t u:TS):TS:=fun D σ H=>t {D with nx:=u D} σ H
theorem FJ:PSs X [] Lf:=fun _ _ σ H _ I h=>wpAny_execs_nil ⟨σ,H,I,h⟩
theorem CQ (h1:PS X st t)(h2:PSs X rest u):PSs X (st::rest) (N3 t u):=by
 intro ag s σ H D I h
 refine wpAny_execs_cons (cy (h1 ag s σ H {D with nx:=u D} I h) fun f s1 q=>?_)
 cases f with
 | next=>
  obtain⟨σ',H',I',q⟩:=q
  exact h2 ag s1 σ' H' D I' q
 | ret v=>exact q
 | brk=>exact q
 | cont=>exact q
theorem FO (h1:PS X st t):PSs X [st] t:=by
 intro ag s σ H D I h
 refine wpAny_execs_cons (cy (h1 ag s σ H D I h) fun f s1 q=>?_)
 cases f with
 | next=>exact wpAny_execs_nil q
 | ret v=>exact q
 | brk=>exact q
 | cont=>exact q
theorem Inv.quiet (I:Inv X ag σ H s):interactive X.env=false:=by simp[interactive,I.ok.kind]
def L1 (te:TE):TS:=fun D σ H=>te σ H fun _ H1=>D.nx σ H1
theorem Fy (he:PE X e te)(hs:swapsWith e none pos.line X.env=pure false:=by rfl):PS X (.Expr e pos) (L1 te):=by
 intro ag s σ H D I h
 exact wpAny_Expr_any (cy (he ag s σ H _ I h) fun v s1 ⟨x,H1,I1,r1,q1⟩=>⟨σ,H1,I1,q1⟩) I.quiet hs
def Nd (te:TE):TS:=fun D σ H=>te σ H D.rt
theorem Jd (he:PE X e te):PS X (.Return (some e) pos) (Nd te):=by
 intro ag s σ H D I h
 exact wpAny_Return_some (cy (he ag s σ H _ I h) fun v s1 ⟨x,H1,I1,r1,q1⟩=>⟨x,σ,H1,I1,r1,q1⟩)
def NE (c:TT)(t u:TS):TS:=fun D σ H=>c σ H fun b H1=>if b=true then t D σ H1 else u D σ H1
theorem KZ {a b:List Stmt}{tc:TT}(hc:PT X c tc)(ha:PSs X a t)(hb:PSs X b u):PS X (.If c a b pos) (NE tc t u):=by
 intro ag s σ H D I h
 refine wpAny_If (cy (hc ag s σ H _ I h) fun d s1 ⟨H1,I1,q1⟩=>?_)
 cases d with
 | true=>exact ha ag s1 σ H1 D I1 q1
 | false=>exact hb ag s1 σ H1 D I1 q1
end
abbrev TG:=V→St→Hp→(St→Hp→Prop)→Prop
abbrev DS:=List V→St→Hp→(St→Hp→Prop)→Prop
def PG (X:Cx)(target:Expr)(t:TG):Prop:=
 ∀(ag:List (Addr×Obj)) (s:Shared) (σ:St) (H:Hp) (v:V) (u:Value) (Q:St→Hp→Prop),Inv X ag σ H s→bc v u→t v σ H Q→
  wpAny (model X.prog X.w) X.A (assign target X.env u) (fun _ s'=>∃σ' H',Inv X ag σ' H' s'∧Q σ' H') X.xe s
def yX (X:Cx)(ts:List Expr)(t:DS):Prop:=
 ∀(ag:List (Addr×Obj)) (s:Shared) (σ:St) (H:Hp) (vs:List V) (us:List Value) (Q:St→Hp→Prop),Inv X ag σ H s→aW vs us→t vs σ H Q→
  wpAny (model X.prog X.w) X.A (assignInOrder ((assignEach ts X.env).map (·.2)) us) (fun _ s'=>∃σ' H',Inv X ag σ' H' s'∧Q σ' H') X.xe s
abbrev Jj:=V→V→V→Hp→(Hp→Prop)→Prop
def Lj (X:Cx)(t:Jj):Prop:=
 ∀(ag:List (Addr×Obj)) (s:Shared) (σ:St) (H:Hp) (o i v:V) (ov iv u:Value) (Q:Hp→Prop),Inv X ag σ H s→bc o ov→bc i iv→bc v u→t o i v H Q→
  wpAny (model X.prog X.w) X.A (setItem ov iv u) (fun _ s'=>∃H',Inv X ag σ H' s'∧Q H') X.xe s
variable{es:List Expr}{tg:Expr}
section
variable {X:Cx}{pos:Pos}
def F9 (i:Nat):TG:=fun v σ H Q=>Q (σ.set i (some v)) H
theorem D9 (hN:X.N.Nodup)(hi:X.N[i]?=some x)(hx:Bq X.env.scope x)(hf:X.fn x=true∨X.env.scope.names.lookup x=some .local:=by first|exact .inl rfl|exact .inr rfl|assumption):PG X (.Name x pos) (F9 i):=by
 intro ag s σ H v u Q I r h
 exact wpAny_assign_Name (nL I hN hi hx r (fun s' I'=>⟨_,H,I',h⟩) hf)
def Ny:DS:=fun vs σ H Q=>vs=[]∧Q σ H
def LB (t:TG)(u:DS):DS:=fun vs σ H Q=>∃v r,vs=v::r∧t v σ H fun σ' H'=>u r σ' H' Q
theorem yW:yX X [] Ny:=by
 intro ag s σ H vs us Q I r h
 obtain⟨e,h⟩:=h
 subst e
 cases r
 exact assignInOrder_nil ⟨σ,H,I,h⟩
theorem vp {t:TG}{u:DS}(h1:PG X e t)(h2:yX X es u)
  (hs:(assignEach (e::es) X.env).map (·.2)=assign e X.env::(assignEach es X.env).map (·.2):=by rfl):yX X (e::es) (LB t u):=by
 intro ag s σ H vs us Q I r h
 obtain⟨v,vr,e1,h⟩:=h
 subst e1
 cases r with
 | cons r rr=>
  rw[hs]
  refine assignInOrder_cons (cy (h1 ag s σ H _ _ _ I r h) fun _ s1 ⟨σ1,H1,I1,q1⟩=>?_)
  exact h2 ag s1 σ1 H1 _ _ Q I1 rr q1
def NB (K:W.Frag)(n:Nat)(t:DS):TG:=fun v σ H Q=>∃a xs,v=.ref a∧ph K H a xs∧xs.length=n∧t xs σ H Q
theorem BG {k:Nat}{t:DS}{n:Nat}(hc:X.calm=true)(h:yX X es t)
  (hn:(assignEach es X.env).length=n:=by rfl) (hst:(assignEach es X.env).findIdx? (·.1)=none:=by rfl):PG X (.Tuple es k pos) (NB X.K n t):=by
 intro ag s σ H v u Q I r hw
 obtain⟨a,xs,e1,hq,hl,hw⟩:=hw
 subst e1
 cases r
 obtain⟨its,rv,ht,hz⟩:=I.tuple hq
 refine assign_Tuple_tuple (I.ok.hd hc) ht (by simp[hn,←hl,rv.length]) hst fun h' hx=>?_
 have I1:Inv X ag σ H {s with heap:=h'}:=I.kept (t':=s.toks) fun b o e=>hx b o (Nat.ne_of_lt (Heap.lt_size e)) e
 exact h ag _ σ H xs _ Q I1 (by simpa using rv) hw
def N9 (to ti:TE)(t:Jj):TG:=fun v σ H Q=>to σ H fun o H1=>ti σ H1 fun i H2=>t o i v H2 fun H3=>Q σ H3
theorem Ii {o i:Expr}{to ti:TE}{t:Jj}(ho:PE X o to)(hi:PE X i ti)(hs:Lj X t)
  (ha:∀v,assign (.Subscript o i pos) X.env v=(do
   let ov ←holding [v] (eval o X.env)
   let iv ←holding [v,ov] (eval i X.env)
   standAt pos
   holding [v,ov,iv] (setItem ov iv v)
   release [v,ov,iv] []):=by intro _;rfl):PG X (.Subscript o i pos) (N9 to ti t):=by
 intro ag s σ H v u Q I r h
 rw[ha]
 refine wpAny_bind (wpAny_holding (cy (ho ag s σ H _ I h) fun ov s1 ⟨x,H1,I1,r1,q1⟩=>?_))
 refine wpAny_bind (wpAny_holding (cy (hi ag s1 σ H1 _ I1 q1) fun iv s2 ⟨y,H2,I2,r2,q2⟩=>?_))
 refine wpAny_bind (wpAny_standAt (wpAny_bind (wpAny_holding (cy (hs ag s2 σ H2 x y v ov iv u _ I2 r1 r2 r q2) fun _ s3 ⟨H3,I3,q3⟩=>?_))))
 exact wpAny_release ⟨σ,H3,I3,q3⟩
def Lm (te:TE)(g:TG):TS:=fun D σ H=>te σ H fun x H1=>g x σ H1 D.nx
theorem BZ {te:TE}{g:TG}(he:PE X e te)(hg:PG X tg g)(hs:swapsWithSole [tg] e pos.line X.env=pure false:=by rfl)(hw:swappedStores [tg] e X.env=pure none:=by rfl)
  (h1:(assignEach [tg] X.env).map (·.2)=[assign tg X.env]:=by rfl):PS X (.Assign [tg] e pos) (Lm te g):=by
 intro ag s σ H D I h
 refine wpAny_Assign_stores (cy (he ag s σ H _ I h) fun v s1 ⟨x,H1,I1,r1,q1⟩=>?_) hs hw
 rw[h1]
 exact cy (hg ag s1 σ H1 x v _ I1 r1 q1) fun _ s2 q=>q
theorem HE {te:TE}{pos':Pos}(hN:X.N.Nodup)(hi:X.N[i]?=some x)(hx:Bq X.env.scope x)(he:PE X e te)(hs:swapsWith e (some (.Name x pos')) pos.line X.env=pure false:=by rfl)(hf:X.fn x=true∨X.env.scope.names.lookup x=some .local:=by first|exact .inl rfl|exact .inr rfl|assumption) :
  PS X (.Assign [.Name x pos'] e pos) (Lm te (F9 i)):=by
 intro ag s σ H D I h
 refine wpAny_Assign_Name (cy (he ag s σ H _ I h) fun v s1 ⟨y,H1,I1,r1,q1⟩=>?_) hs
 exact nL I1 hN hi hx r1 (fun s2 I2=>⟨_,H1,I2,q1⟩) hf
def N0 (i j:Nat)(ta:TA):TS:=fun D σ H=>ta σ H fun vs H1=>∃v w,vs=[v,w]∧D.nx ((σ.set i (some v)).set j (some w)) H1
theorem Gs {j:Nat}{y:Str}{a b:Expr}{ta:TA}{px py pt:Pos}{kt k2 pt2}(hc:X.calm=true)(hN:X.N.Nodup)(hi:X.N[i]?=some x)(hj:X.N[j]?=some y)(hij:i≠j)
  (hx:X.env.scope.names.lookup x=some .local) (hy:X.env.scope.names.lookup y=some .local) (ha:PA X [a,b] ta)
  (hw:swappedStores [.Tuple [.Name x px,.Name y py] kt pt] (.Tuple [a,b] k2 pt2) X.env=pure (some [x,y]))
  (hs:swapsWithSole [.Tuple [.Name x px,.Name y py] kt pt] (.Tuple [a,b] k2 pt2) pos.line X.env=pure false:=by rfl) :
  PS X (.Assign [.Tuple [.Name x px,.Name y py] kt pt] (.Tuple [a,b] k2 pt2) pos) (N0 i j ta):=by
 intro ag s σ H D I h
 rw[exec_Assign_arm]
 refine wpAny_bind (wpAny_standAt ?_)
 rw[hs]
 refine wpAny_bind (wpAny_pure ?_)
 rw[if_neg (by decide)]
 refine wpAny_bind (Tuple_ (cy (ha _ ag s σ H _ I h) fun us s1 ⟨vs,H1,I1,r1,q1⟩=>?_))
 obtain⟨v,w,e1,q1⟩:=q1
 subst e1
 obtain⟨u1,u2,rfl,rv,rw'⟩:∃u1 u2,us=[u1,u2]∧bc v u1∧bc w u2:=by
  cases r1 with
  | cons p q=>
   cases q with
   | cons p' q'=>
    cases q'
    exact⟨_,_,rfl,p,p'⟩
 refine wpAny_newObj_type ?_ (by show 2≤sizeLine;decide)
 have I2:Inv X ag σ H1 {s1 with heap:=s1.heap.push {cls:=.type "tuple",data:=.seq [u1,u2].toArray}}:=I1.kept (t':=s1.toks) fun b o e=>Heap.get?_push_of_some _ e
 rw[hw]
 refine wpAny_bind (wpAny_pure ?_)
 show wpAny (model X.prog X.w) X.A (do rule "assign.swapped-stores";let items ←unpackItems (.ref s1.heap.objs.size) 2 none;assignInOrder [fun v=>bindName X.env y v,fun v=>bindName X.env x v] items.reverse;pure Flow.next) _ _ _
 refine wpAny_bind (wpAny_rule (wpAny_bind (unpackItems_tuple (items:=#[u1,u2]) (I.ok.hd hc) (IsTup.new s1.heap _) fun h' hx'=>?_)))
 have I3:=I2.kept (h':=h') (t':=s1.toks) fun b o e=>hx' b o (Nat.ne_of_lt (Heap.lt_size e)) e
 show wpAny _ _ (assignInOrder [fun v=>bindName X.env y v,fun v=>bindName X.env x v] [u2,u1] >>= fun _=>pure Flow.next) _ _ _
 refine wpAny_bind (assignInOrder_cons (wpAny_bindName (nL I3 hN hj (.inl hy) rw' (fun s2 I4=>?_) (.inr hy))))
 refine assignInOrder_cons (wpAny_bindName (nL I4 hN hi (.inl hx) rv (fun s3 I5=>assignInOrder_nil (wpAny_pure ?_)) (.inr hx)))
 rw[List.set_comm _ _ (Ne.symm hij)] at I5
 exact⟨_,H1,I5,q1⟩
end
variable{body:List Stmt}
section
variable {X:Cx}{pos:Pos}
def GH (c:TT)(tb:TS):TS:=fun D σ H=>∃W:Nat→St→Hp→Prop,(∃m,W m σ H)∧∀m σ H,W m σ H→
 c σ H fun b H1=>if b=true then∃N:St→Hp→Prop,(∀σ' H',N σ' H'→∃m',m'<m∧W m' σ' H')∧tb {D with nx:=N,ct:=N,bk:=D.nx} σ H1 else D.nx σ H1
theorem CS {tc:TT}{tb:TS}(hp:PassesOwn (model X.prog X.w) X.A X.env X.xe)(hc:PT X c tc)(hb:PSs X body tb):PS X (.While c body [] pos) (GH tc tb):=by
 intro ag s σ H D I h
 obtain⟨W,⟨m0,w0⟩,turn⟩:=h
 refine wpAny_While (codeAny_whileLoop (fun n s'=>∃σ' H',Inv X ag σ' H' s'∧W n σ' H') ?_ m0 ⟨σ,H,I,w0⟩)
 rintro n s1 ⟨σ1,H1,I1,w1⟩
 refine wpAny_passesOwn hp (cy (hc ag s1 σ1 H1 _ I1 (turn n σ1 H1 w1)) fun b s2 ⟨H2,I2,q2⟩=>?_)
 cases b with
 | true=>
  obtain⟨N,hN,q2⟩:=q2
  rw[if_pos rfl]
  refine wpAny_passesOwn hp (cy (hb ag s2 σ1 H2 _ I2 q2) fun f s3 q3=>?_)
  cases f with
  | next=>
   obtain⟨σ3,H3,I3,n3⟩:=q3
   obtain⟨m',hm,w3⟩:=hN σ3 H3 n3
   exact⟨m',hm,σ3,H3,I3,w3⟩
  | cont=>
   obtain⟨σ3,H3,I3,n3⟩:=q3
   obtain⟨m',hm,w3⟩:=hN σ3 H3 n3
   exact⟨m',hm,σ3,H3,I3,w3⟩
  | brk=>exact q3
  | ret v=>exact q3
 | false=>
  rw[if_neg Bool.false_ne_true]
  exact wpAny_execs_nil ⟨σ1,H2,I2,q2⟩
end
structure It where
 go:Nat→Hp→Prop
 yld:Nat→Hp→V→Hp→Prop
 stop:Nat→Hp→Prop
def jI (X:Cx)(ag:List (Addr×Obj))(H:Hp)(b:Addr):Prop:=
 H b=none∧b≠X.env.locals∧b∉X.fs∧(b∈X.ex∨X.s₀.heap.objs.size≤b)∧(∀x c,X.env.cells.lookup x=some c→c≠b)∧∀p∈X.pn++ag,p.1≠b
theorem Inv.fpOk {X:Cx}{H':Hp}(I:Inv X ag σ H s)(hb:s.heap.objs.size≤b)(hn:H' b=none):jI X ag H' b:=by
 refine⟨hn,Nat.ne_of_gt (Nat.lt_of_lt_of_le I.lt hb),I.nofs hb,.inr (Nat.le_trans I.sz hb),fun x c e z=>?_,fun p hp z=>?_⟩
 ·obtain⟨v,q⟩:=I.cell x c e
  exact absurd (Nat.lt_of_lt_of_le q.lt (by rw[z];exact hb)) (Nat.lt_irrefl _)
 ·exact absurd (Nat.lt_of_lt_of_le (Heap.lt_size (I.pin p hp).1) (by rw[z];exact hb)) (Nat.lt_irrefl _)
structure AA (P:Program)(w:World)(K:W.Frag)(tg:Expr)(J:It)(fp:List Addr)(it:Addr)(tn:Nat→Heap→Prop):Prop where
 mem:it∈fp
 obj:∀i h,tn i h→∀b∈fp,∃o,h.get? b=some o∧∀v,o.data≠.cell v
 keep:∀i h h',tn i h→(∀b∈fp,∀o,h.get? b=some o→h'.get? b=some o)→tn i h'
 item:∀(X:Cx),X.prog=P→X.w=w→X.K=K→X.calm=true→∀(i:Nat) (ag:List (Addr×Obj)) (s:Shared) (σ:St) (H:Hp) (E:Value→Shared→Prop),Inv X ag σ H s→(∀b∈fp,jI X ag H b)→tn i s.heap→J.go i H→
  wpAny (model P w) X.A (pyNext (.ref it)) (fun r s1=>∃u,r=some u∧
   wpAny (model P w) X.A (letOwnedTupleGo tg (.ref it) u) (fun _ s2=>∃x H',Inv X ag σ H' s2∧bc x u∧J.yld i H x H'∧tn (i+1) s2.heap∧∀b∈fp,H' b=none) E s1) E s
 done:∀(X:Cx),X.prog=P→X.w=w→X.K=K→X.calm=true→∀(i:Nat) (ag:List (Addr×Obj)) (s:Shared) (σ:St) (H:Hp) (E:Value→Shared→Prop),Inv X ag σ H s→(∀b∈fp,jI X ag H b)→tn i s.heap→J.stop i H→
  wpAny (model P w) X.A (pyNext (.ref it)) (fun r s1=>r=none∧Inv X ag σ H s1) E s
 self:∀(A:Around) (i:Nat) (s:Shared) (Q:Value→Shared→Prop) (E:Value→Shared→Prop),tn i s.heap→Q (.ref it) s→wpAny (model P w) A (pyIter (.ref it)) Q E s
abbrev TI:=St→Hp→(It→Hp→Prop)→Prop
def MN (X:Cx)(ag:List (Addr×Obj))(σ:St)(tg:Expr)(R:It→Hp→Prop)(itv:Value)(s2:Shared):Prop:=
 ∃(it:Addr) (fp:List Addr) (tn:Nat→Heap→Prop) (J:It) (H':Hp),itv=.ref it∧Inv X ag σ H' s2∧AA X.prog X.w X.K tg J fp it tn∧tn 0 s2.heap∧(∀b∈fp,jI X ag H' b)∧R J H'
def PI (X:Cx)(tg iter:Expr)(wi:TI):Prop:=
 ∀(ag:List (Addr×Obj)) (s:Shared) (σ:St) (H:Hp) (R:It→Hp→Prop),Inv X ag σ H s→wi σ H R→
  wpAny (model X.prog X.w) X.A (eval iter X.env) (fun v s1=>wpAny (model X.prog X.w) X.A (pyIter v) (MN X ag σ tg R) X.xe s1) X.xe s
theorem Cr {M:Model}{it:Addr}{o:Obj}{n:String}{vs:Array Value}{Q:Unit→Shared→Prop}(ho:s.heap.get? it=some o)(hc:o.cls=.type n)(hd:o.data=.fields vs)
  (hn:["enumerate","zip","dict_itemiterator","dict_reverseitemiterator","odict_iterator","itertools.zip_longest","itertools.pairwise"].contains n=false) (hQ:Q () s):wpAny M A (letOwnedTupleGo tg (.ref it) u) Q E s:=by
 unfold letOwnedTupleGo
 cases tg <;> first
  | exact wpAny_pure hQ
  | (cases u <;> first
    | exact wpAny_pure hQ
    | (refine wpAny_bind (wpAny_load ho ?_)
       rw[hc,hd]
       show wpAny M A (if(["enumerate","zip","dict_itemiterator","dict_reverseitemiterator","odict_iterator","itertools.zip_longest","itertools.pairwise"].contains n&&vs[0]?==some (rawInt _))=true then _ else _) Q E s
       rw[if_neg (by intro h;rw[hn,Bool.false_and] at h;cases h)]
       exact wpAny_pure hQ))
def Mt (K:W.Frag)(a:Addr):It:=
 ⟨fun i H=>∃xs x,mV K H a xs∧xs[i]?=some x,fun i H x H'=>H'=H∧∀xs,mV K H a xs→xs[i]?=some x,fun i H=>∃xs,mV K H a xs∧xs.length≤i⟩
def Nf (K:W.Frag)(a:Addr):It:=
 ⟨fun i H=>∃xs x,ph K H a xs∧xs[i]?=some x,fun i H x H'=>H'=H∧∀xs,ph K H a xs→xs[i]?=some x,fun i H=>∃xs,ph K H a xs∧xs.length≤i⟩
def MA (lo:Int)(n:Nat):It:=⟨fun i _=>i<n,fun i H x H'=>H'=H∧x=.int (lo+i),fun i _=>n≤i⟩
variable{K:W.Frag}
theorem zH (a it:Addr):AA P w K tg (Mt K a) [it] it (fun i h=>h.IsListIter it a i) where
 mem:=by simp
 obj:=fun i h st b hb=>by
  have e:b=it:=by simpa using hb
  subst e
  obtain⟨o,e,c,d⟩:=st
  exact⟨o,e,fun v z=>by rw[d] at z;cases z⟩
 keep:=fun i h h' st k=>st.at fun o e=>k it (by simp) o e
 item:=by
  intro X hP hw hK hc i ag s σ H E I hf st hg
  subst hP hw hK
  obtain⟨xs,x,hq,hx⟩:=hg
  obtain⟨its,rv,p,hz⟩:=I.list hq
  obtain⟨u,hu,ru⟩:=rv.get hx
  obtain⟨f0,f1,f2,f3,f4,f5⟩:=hf it (by simp)
  refine wpAny_pyNext_list_item st p.isList (x:=u) (by simpa using hu) fun h' st' sb=>?_
  have I1:Inv X ag σ H {s with heap:=h'}:=I.turned (t':=s.toks) (fun b o hb e=>(sb.2 b hb).trans e) f0 f1 f3 f4 f5
  obtain⟨o,e,c,d⟩:=id st'
  exact⟨u,rfl,Cr (s:={s with heap:=h'}) e c d (by decide) ⟨x,H,I1,ru,⟨rfl,fun ys hy=>by rw[I.list_inj hy hq];exact hx⟩,st',fun b hb=>(hf b hb).1⟩⟩
 done:=by
  intro X hP hw hK hc i ag s σ H E I hf st hg
  subst hP hw hK
  obtain⟨xs,hq,hx⟩:=hg
  obtain⟨its,rv,p,hz⟩:=I.list hq
  obtain⟨f0,f1,f2,f3,f4,f5⟩:=hf it (by simp)
  have hl:=rv.length
  exact wpAny_pyNext_list_end (I.ok.hd hc) st p.isList (by simp;omega) fun h' eb=>⟨rfl,I.turned (t':=s.toks) (fun b o hb e=>eb b o hb e) f0 f1 f3 f4 f5⟩
 self:=fun _ _ _ _ _ st h=>wpAny_pyIter_listiter st h
theorem yv (a it:Addr):AA P w K tg (Nf K a) [it] it (fun i h=>h.IsTupleIter it a i) where
 mem:=by simp
 obj:=fun i h st b hb=>by
  have e:b=it:=by simpa using hb
  subst e
  obtain⟨o,e,c,d⟩:=st
  exact⟨o,e,fun v z=>by rw[d] at z;cases z⟩
 keep:=fun i h h' st k=>st.at fun o e=>k it (by simp) o e
 item:=by
  intro X hP hw hK hc i ag s σ H E I hf st hg
  subst hP hw hK
  obtain⟨xs,x,hq,hx⟩:=hg
  obtain⟨its,rv,p,hz⟩:=I.tuple hq
  obtain⟨u,hu,ru⟩:=rv.get hx
  obtain⟨f0,f1,f2,f3,f4,f5⟩:=hf it (by simp)
  refine wpAny_pyNext_tuple_item st (show s.heap.IsTuple a its.toArray from p) (x:=u) (by simpa using hu) fun h' st' sb=>?_
  have I1:Inv X ag σ H {s with heap:=h'}:=I.turned (t':=s.toks) (fun b o hb e=>(sb.2 b hb).trans e) f0 f1 f3 f4 f5
  obtain⟨o,e,c,d⟩:=id st'
  exact⟨u,rfl,Cr (s:={s with heap:=h'}) e c d (by decide) ⟨x,H,I1,ru,⟨rfl,fun ys hy=>by rw[I.tuple_inj hy hq];exact hx⟩,st',fun b hb=>(hf b hb).1⟩⟩
 done:=by
  intro X hP hw hK hc i ag s σ H E I hf st hg
  subst hP hw hK
  obtain⟨xs,hq,hx⟩:=hg
  obtain⟨its,rv,p,hz⟩:=I.tuple hq
  obtain⟨f0,f1,f2,f3,f4,f5⟩:=hf it (by simp)
  have hl:=rv.length
  exact wpAny_pyNext_tuple_end (I.ok.hd hc) st (show s.heap.IsTuple a its.toArray from p) (by simp;omega) fun h' eb=>⟨rfl,I.turned (t':=s.toks) (fun b o hb e=>eb b o hb e) f0 f1 f3 f4 f5⟩
 self:=fun _ _ _ _ _ st h=>wpAny_pyIter_tupleiter st h
theorem xr (it:Addr)(lo:Int)(n:Nat):AA P w K tg (MA lo n) [it] it (fun i h=>IsRangeIter h it (lo+(i:Nat)*1) ((n:Int)-(i:Nat)) 1) where
 mem:=by simp
 obj:=fun i h st b hb=>by
  have e:b=it:=by simpa using hb
  subst e
  exact⟨_,st,fun v z=>by
   have z':Data.fields _=Data.cell v:=z
   cases z'⟩
 keep:=fun i h h' st k=>k it (by simp) _ st
 item:=by
  intro X hP hw hK hc i ag s σ H E I hf st hg
  subst hP hw hK
  obtain⟨f0,f1,f2,f3,f4,f5⟩:=hf it (by simp)
  have W:=Walks.range (prog:=X.prog) (w:=X.w) (I.ok.hd hc) it lo 1 n
  refine W.item i s _ _ hg st fun v h' tk hv st' kk=>?_
  obtain⟨t,rfl⟩:=hv
  have I1:Inv X ag σ H {s with heap:=h',toks:=tk}:=I.turned (fun b o hb e=>kk b o (by simpa using hb) e) f0 f1 f3 f4 f5
  refine⟨_,rfl,Cr (s:={s with heap:=h',toks:=tk}) (n:="range_iterator") st' rfl rfl (by decide) ⟨.int (lo+i),H,I1,⟨t,?_⟩,⟨rfl,rfl⟩,st',fun b hb=>(hf b hb).1⟩⟩
  rw[Int.mul_one]
 done:=by
  intro X hP hw hK hc i ag s σ H E I hf st hg
  subst hP hw hK
  obtain⟨f0,f1,f2,f3,f4,f5⟩:=hf it (by simp)
  exact wpAny_pyNext_range_end (I.ok.hd hc) st (by have:n≤i:=hg;omega) fun h' eb=>⟨rfl,I.turned (t':=s.toks) (fun b o hb e=>eb b o hb e) f0 f1 f3 f4 f5⟩
 self:=fun _ _ _ _ _ st h=>wpAny_pyIter_rangeiter st h
variable{fp:List Addr}
section
variable {X:Cx}{tg:Expr}
theorem Bf {R:It→Hp→Prop}{lo hi:Int}{t u v:Tok}{tk:Nat}(I:Inv X ag σ H s)(h1:-(2 ^ 62)≤lo)(h2:lo<2 ^ 62)(h3:-(2 ^ 62)≤hi)(h4:hi<2 ^ 62)
  (q:R (MA lo (hi-lo).toNat) H):wpAny (model X.prog X.w) X.A (pyIter (.ref s.heap.objs.size)) (MN X ag σ tg R) E {s with heap:=s.heap.push {cls:=.type "range",data:=.fields #[.int lo t,.int hi u,.int 1 v]},toks:=tk}:=by
 refine wpAny_pyIter_range (IsRange.new ..) (small_one h1 h2 h3 h4) ?_
 have I1:Inv X ag σ H {s with heap:=s.heap.push {cls:=.type "range",data:=.fields #[.int lo t,.int hi u,.int 1 v]},toks:=tk}:=I.kept fun b o e=>Heap.get?_push_of_some _ e
 refine⟨(s.heap.push {cls:=.type "range",data:=.fields #[.int lo t,.int hi u,.int 1 v]}).objs.size,[(s.heap.push {cls:=.type "range",data:=.fields #[.int lo t,.int hi u,.int 1 v]}).objs.size],_,_,H,rfl,
  I1.kept (t':=tk) fun b o e=>Heap.get?_push_of_some _ e,xr _ lo (hi-lo).toNat,?_,fun b hb=>?_,q⟩
 ·have e1:lo+((0:Nat):Int)*1=lo:=by simp
  have e2:(((hi-lo).toNat:Nat):Int)-((0:Nat):Int)=Builtin.Range.rangeSize lo hi 1:=by rw[rangeSize_one];split <;> omega
  show IsRangeIter _ _ (lo+((0:Nat):Int)*1) ((((hi-lo).toNat:Nat):Int)-((0:Nat):Int)) 1
  rw[e1,e2]
  exact Heap.get?_push_size _ rfl
 ·have e:b=(s.heap.push {cls:=.type "range",data:=.fields #[.int lo t,.int hi u,.int 1 v]}).objs.size:=by simpa using hb
  subst e
  exact I1.fpOk (Nat.le_refl _) (I1.hok.fresh (Nat.le_refl _))
def Ka (ta:TA):TI:=fun σ H R=>ta σ H fun vs H1=>∃j:Int,vs=[.int j]∧-(2 ^ 62)≤j∧j<2 ^ 62∧R (MA 0 j.toNat) H1
theorem zT {a:Expr}{ta:TA}{p pos:Pos}(hg:Gl X "range")(hm:X.mg "range"=none)(ha:PA X [a] ta)(hs:starEach [a] X.env=[(false,eval a X.env)]:=by rfl):PI X tg (.Call (.Name "range" p) [a] [] pos) (Ka ta):=by
 intro ag s σ H R I h
 refine Call_ (nR I hg hm boot_range (PyProof.Rows.callWith_type1 (cy (ha pos ag s σ H _ I h) fun us s1 ⟨vs,H1,I1,r1,q1⟩=>?_) hs rfl))
 obtain⟨j,e,q1,q2,q⟩:=q1
 subst e
 cases r1 with
 | cons r rr=>
  cases rr
  obtain⟨t,rfl⟩:=r
  exact call_range_1 (Bf I1 (by omega) (by omega) q1 q2 (by simpa using q))
def MH (wi:TI)(g:TG)(tb:TS):TS:=fun D σ H=>wi σ H fun J H1=>∃W:Nat→Nat→St→Hp→Prop,(∃m,W 0 m σ H1)∧∀i m σ H,W i m σ H→
 (J.stop i H∧D.nx σ H)∨(J.go i H∧∃N:St→Hp→Prop,(∀σ' H',N σ' H'→∃m',m'<m∧W (i+1) m' σ' H')∧∀x H',J.yld i H x H'→g x σ H' fun σ2 H2=>tb {D with nx:=N,ct:=N,bk:=D.nx} σ2 H2)
def qI (fp:List Addr)(h:Heap):List (Addr×Obj):=fp.filterMap fun b=>(h.get? b).map fun o=>(b,o)
theorem jY {o:Obj}(hb:b∈fp)(e:h.get? b=some o):(b,o)∈qI fp h:=List.mem_filterMap.mpr ⟨b,hb,by rw[e];rfl⟩
theorem AM {p:Addr×Obj}(hp:p∈qI fp h):p.1∈fp∧h.get? p.1=some p.2:=by
 obtain⟨b,hb,e⟩:=List.mem_filterMap.mp hp
 cases q:h.get? b with
 | none=>rw[q] at e;cases e
 | some o=>
  rw[q] at e
  have e':(b,o)=p:=Option.some.inj e
  subst e'
  exact⟨hb,q⟩
theorem Inv.pinned (I:Inv X ag σ H s)(hf:∀b∈fp,jI X ag H b)(ho:∀b∈fp,∃o,s.heap.get? b=some o∧∀v,o.data≠.cell v):Inv X (ag++qI fp s.heap) σ H s:=
 I.pins_of fun p hp=>(List.mem_append.mp hp).elim (fun z=>I.pin p (List.mem_append_right _ z)) fun z=>by
  obtain⟨hb,e⟩:=AM z
  obtain⟨f0,f1,f2,_⟩:=hf p.1 hb
  obtain⟨o,e',d⟩:=ho p.1 hb
  rw[e] at e';cases e'
  exact⟨e,f0,f1,f2,d⟩
theorem Inv.unpinned {pl:List (Addr×Obj)}(I:Inv X (ag++pl) σ H s):Inv X ag σ H s:=I.pins_of fun p hp=>I.pin p (List.mem_append_right _ (List.mem_append_left _ hp))
theorem JA {iter:Expr}{wi:TI}{g:TG}{tb:TS}{pos:Pos}(hp:PassesOwn (model X.prog X.w) X.A X.env X.xe)(hc:X.calm=true)(hi:PI X tg iter wi)(hg:PG X tg g)(hb:PSs X body tb)
  (hs:∀x,foldedSetIterable iter X.env x=pure x:=by intro _;rfl):PS X (.For tg iter body [] pos) (MH wi g tb):=by
 intro ag s σ H D I h
 refine wpAny_For (cy (hi ag s σ H _ I h) fun v s1 h1=>cy h1 fun itv s2 h2=>?_) hs
 obtain⟨it,fp,tn,J,H2,e,I2,T,st2,f2,W,⟨m0,w0⟩,turn⟩:=h2
 subst e
 have stat:∀{H':Hp},(∀b∈fp,H' b=none)→∀b∈fp,jI X ag H' b:=fun hn b hb=>⟨hn b hb,(f2 b hb).2⟩
 refine codeAny_forLoop_any (fun n s'=>∃i σ' H',Inv X ag σ' H' s'∧tn i s'.heap∧(∀b∈fp,H' b=none)∧W i n σ' H') ?_ m0 ⟨0,σ,H2,I2,st2,fun b hb=>(f2 b hb).1,w0⟩
 rintro n s3 ⟨i,σ3,H3,I3,st3,fr3,w3⟩
 rcases turn i n σ3 H3 w3 with⟨stop,qn⟩|⟨go,N,hN,step⟩
 ·refine wpAny_passesOwn hp (cy (T.done X rfl rfl rfl hc i ag s3 σ3 H3 X.xe I3 (stat fr3) st3 stop) fun r s4 ⟨hr,I4⟩=>?_)
  subst hr
  exact wpAny_execs_nil ⟨σ3,H3,I4,qn⟩
 ·refine wpAny_passesOwn hp (cy (T.item X rfl rfl rfl hc i ag s3 σ3 H3 X.xe I3 (stat fr3) st3 go) fun r s4 ⟨u,hr,h4⟩=>?_)
  subst hr
  refine wpAny_passesOwn hp (cy h4 fun _ s5 ⟨x,H5,I5,r5,y5,st5,fr5⟩=>?_)
  have I5':=I5.pinned (stat fr5) (T.obj _ _ st5)
  refine wpAny_passesOwn hp (cy (hg _ s5 σ3 H5 x u _ I5' r5 (step x H5 y5)) fun _ s6 ⟨σ6,H6,I6,q6⟩=>?_)
  refine wpAny_passesOwn hp (cy (hb _ s6 σ6 H6 _ I6 q6) fun f s7 q7=>?_)
  have again:∀{σ7:St} {H7:Hp},Inv X (ag++qI fp s5.heap) σ7 H7 s7→N σ7 H7→∃m,m<n∧∃i σ' H',Inv X ag σ' H' s7∧tn i s7.heap∧(∀b∈fp,H' b=none)∧W i m σ' H':=fun {σ7 H7} I7 n7=>by
   obtain⟨m',hm,w7⟩:=hN σ7 H7 n7
   refine⟨m',hm,i+1,σ7,H7,I7.unpinned,T.keep _ _ _ st5 fun b hb o e=>(I7.pin (b,o) (List.mem_append_right _ (List.mem_append_right _ (jY hb e)))).1,fun b hb=>?_,w7⟩
   obtain⟨o,e,d⟩:=T.obj _ _ st5 b hb
   exact(I7.pin (b,o) (List.mem_append_right _ (List.mem_append_right _ (jY hb e)))).2.1
  cases f with
  | next=>obtain⟨σ7,H7,I7,n7⟩:=q7;exact again I7 n7
  | cont=>obtain⟨σ7,H7,I7,n7⟩:=q7;exact again I7 n7
  | brk=>obtain⟨σ7,H7,I7,q7⟩:=q7;exact⟨σ7,H7,I7.unpinned,q7⟩
  | ret v=>obtain⟨x7,σ7,H7,I7,r7,q7⟩:=q7;exact⟨x7,σ7,H7,I7.unpinned,r7,q7⟩
end
abbrev R2:=V→V→Hp→VK→Prop
def iK (X:Cx)(f:Value→Value→Sem Value)(r:R2):Prop:=
 ∀(ag:List (Addr×Obj)) (s:Shared) (σ:St) (H:Hp) (x y:V) (v u:Value) (Q:VK),Inv X ag σ H s→bc x v→bc y u→r x y H Q→
  wpAny (model X.prog X.w) X.A (f v u) (EP X ag σ Q) X.xe s
def NC (X:Cx)(f:Value→Sem Value)(r:V→Hp→VK→Prop):Prop:=
 ∀(ag:List (Addr×Obj)) (s:Shared) (σ:St) (H:Hp) (x:V) (v:Value) (Q:VK),Inv X ag σ H s→bc x v→r x H Q→
  wpAny (model X.prog X.w) X.A (f v) (EP X ag σ Q) X.xe s
def dh (X:Cx)(f:Value)(r:List V→Hp→VK→Prop):Prop:=
 ∀(ag:List (Addr×Obj)) (s:Shared) (σ:St) (H:Hp) (xs:List V) (us:List Value) (Q:VK),Inv X ag σ H s→aW xs us→r xs H Q→
  wpAny (model X.prog X.w) X.A (call f us) (EP X ag σ Q) X.xe s
def NK (X:Cx)(r:V→Hp→(Bool→Hp→Prop)→Prop):Prop:=
 ∀(ag:List (Addr×Obj)) (s:Shared) (σ:St) (H:Hp) (x:V) (v:Value) (Q:Bool→Hp→Prop),Inv X ag σ H s→bc x v→r x H Q→
  wpAny (model X.prog X.w) X.A (truthy v) (TP X ag σ Q) X.xe s
def J3 (r:R2)(ta tb:TE):TE:=fun σ H Q=>ta σ H fun x H1=>tb σ H1 fun y H2=>r x y H2 Q
def Oq (r:V→Hp→VK→Prop)(ta:TE):TE:=fun σ H Q=>ta σ H fun x H1=>r x H1 Q
def rI (C:Int→Int→Prop)(g:Int→Int→V):R2:=fun x y H Q=>∃i j,x=.int i∧y=.int j∧C i j∧Q (g i j) H
def Gf (g:Int→Int→V):R2:=fun x y H Q=>∃i j,x=.int i∧y=.int j∧Q (g i j) H
def rU (g:Int→V):V→Hp→VK→Prop:=fun x H Q=>∃i,x=.int i∧Q (g i) H
variable{f:Value→Value→Sem Value}{r:R2}{g:Int→Int→Int}
section
variable {X:Cx}{a b c:Expr}{ta tb tc:TE}{pos:Pos}
theorem HD (ha:PE X a ta)(hb:PE X b tb){R:V→V→Hp→Prop}(I:Inv X ag σ H s)
  (h:ta σ H fun x H1=>tb σ H1 fun y H2=>R x y H2)  
  (hf:∀v u s2 x y H2,Inv X ag σ H2 s2→bc x v→bc y u→R x y H2→wpAny (model X.prog X.w) X.A (f v u) Q X.xe s2) :
  wpAny (model X.prog X.w) X.A (eval a X.env) (fun v s₁=>wpAny (model X.prog X.w) X.A (eval b X.env) (fun u s₂=>wpAny (model X.prog X.w) X.A (f v u) Q X.xe s₂) X.xe s₁) X.xe s:=by
 refine cy (ha ag s σ H _ I h) fun v s1 ⟨x,H1,I1,r1,q1⟩=>?_
 refine cy (hb ag s1 σ H1 _ I1 q1) fun u s2 ⟨y,H2,I2,r2,q2⟩=>?_
 exact hf v u s2 x y H2 I2 r1 r2 q2
theorem LR {op:Operator}(ho:iK X (binaryOp op) r)(ha:PE X a ta)(hb:PE X b tb):PE X (.BinOp a op b pos) (J3 r ta tb):=by
 intro ag s σ H Q I h
 exact wpAny_BinOp (HD ha hb I h fun v u s2 x y H2 I2 rx ry q=>ho ag s2 σ H2 x y v u Q I2 rx ry q)
theorem Ge {op:UnaryOp}{r:V→Hp→VK→Prop}(ho:NC X (unaryOp op) r)(ha:PE X a ta):PE X (.UnaryOp op a pos) (Oq r ta):=by
 intro ag s σ H Q I h
 exact UnaryOp_ (cy (ha ag s σ H _ I h) fun v s1 ⟨x,H1,I1,r1,q1⟩=>ho ag s1 σ H1 x v Q I1 r1 q1)
theorem MX {f:Value→Value→Sem Value}{C:Int→Int→Prop}
  (rule:∀(i j:Int) (t u:Tok) (s:Shared) (Q:Value→Shared→Prop) (E:Value→Shared→Prop),C i j→Q (.int (g i j) s.toks) {s with toks:=s.toks+1}→wpAny (model X.prog X.w) X.A (f (.int i t) (.int j u)) Q E s) :
  iK X f (rI C fun i j=>.int (g i j)):=by
 intro ag s σ H x y v u Q I rx ry h
 obtain⟨i,j,rfl,rfl,hc,q⟩:=h
 obtain⟨t,rfl⟩:=rx
 obtain⟨t',rfl⟩:=ry
 exact rule i j t t' s _ _ hc ⟨.int (g i j),H,I.tok _,⟨_,rfl⟩,q⟩
theorem Mh {f:Value→Value→Sem Value}
  (rule:∀(i j:Int) (t u:Tok) (s:Shared) (Q:Value→Shared→Prop) (E:Value→Shared→Prop),Q (.int (g i j) s.toks) {s with toks:=s.toks+1}→wpAny (model X.prog X.w) X.A (f (.int i t) (.int j u)) Q E s) :
  iK X f (Gf fun i j=>.int (g i j)):=by
 intro ag s σ H x y v u Q I rx ry h
 obtain⟨i,j,rfl,rfl,q⟩:=h
 obtain⟨t,rfl⟩:=rx
 obtain⟨t',rfl⟩:=ry
 exact rule i j t t' s _ _ ⟨.int (g i j),H,I.tok _,⟨_,rfl⟩,q⟩
theorem D4 {g:Int→Int→Bool}
  (rule:∀(i j:Int) (t u:Tok) (s:Shared) (Q:Value→Shared→Prop) (E:Value→Shared→Prop),Q (.bool (g i j)) s→wpAny (model X.prog X.w) X.A (f (.int i t) (.int j u)) Q E s) :
  iK X f (Gf fun i j=>.bl (g i j)):=by
 intro ag s σ H x y v u Q I rx ry h
 obtain⟨i,j,rfl,rfl,q⟩:=h
 obtain⟨t,rfl⟩:=rx
 obtain⟨t',rfl⟩:=ry
 exact rule i j t t' s _ _ ⟨.bl (g i j),H,I,rfl,q⟩
def Na (i j:Int):Prop:=0≤j∧j≤1000000∧i.natAbs<2 ^ 64
def GN (i j:Int):Prop:=(-(2 ^ 64)<i∧i<2 ^ 64)∨(-(2 ^ 64)<j∧j<2 ^ 64)
theorem GN.ok {i j:Int}(h:GN i j):IntMulOk i j:=by
 rcases h with⟨h1,h2⟩|⟨h1,h2⟩
 ·exact .of_left (intBits_le_64 h1 h2)
 ·exact .of_right (intBits_le_64 h1 h2)
theorem Hj:iK X (binaryOp .Add) (Gf fun i j=>.int (i+j)):=Mh fun _ _ _ _ _ _ _ q=>add_int q
theorem Jy:iK X (binaryOp .Sub) (Gf fun i j=>.int (i-j)):=Mh fun _ _ _ _ _ _ _ q=>sub_int q
theorem Ih:iK X (binaryOp .Mult) (rI GN fun i j=>.int (i*j)):=MX fun _ _ _ _ _ _ _ hc q=>mul_int q hc.ok
theorem Hr:iK X (binaryOp .Mod) (rI (fun _ j=>0<j) fun i j=>.int (i % j)):=MX fun i j _ _ _ _ _ hc q=>by
 have h1:(0:Int)<j:=hc
 exact mod_int' (by omega) (by rw[Int.fmod_eq_emod_of_nonneg i (by omega)];exact q)
theorem Ib:iK X (binaryOp .Pow) (rI Na fun i j=>.int (i ^ j.toNat)):=MX fun _ _ _ _ _ _ _ hc q=>pow_int_small hc.1 hc.2.1 hc.2.2 q
theorem Ou {f:Value→Sem Value}{g:Int→Int}
  (rule:∀(i:Int) (t:Tok) (s:Shared) (Q:Value→Shared→Prop) (E:Value→Shared→Prop),Q (.int (g i) s.toks) {s with toks:=s.toks+1}→wpAny (model X.prog X.w) X.A (f (.int i t)) Q E s) :
  NC X f (rU fun i=>.int (g i)):=by
 intro ag s σ H x v Q I rx h
 obtain⟨i,rfl,q⟩:=h
 obtain⟨t,rfl⟩:=rx
 exact rule i t s _ _ ⟨.int (g i),H,I.tok _,⟨_,rfl⟩,q⟩
theorem A3:NC X (unaryOp .USub) (rU fun i=>.int (-i)):=Ou fun _ _ _ _ _ q=>neg_int q
end
variable{op:CmpOp}
section
variable {X:Cx}{a b c:Expr}{ta tb tc:TE}{pos:Pos}
theorem Ly:iK X (compareOp .Lt) (Gf fun i j=>.bl (decide (i<j))):=D4 fun _ _ _ _ _ _ _ q=>lt_int q
theorem LG:iK X (compareOp .LtE) (Gf fun i j=>.bl (decide (i≤j))):=D4 fun _ _ _ _ _ _ _ q=>le_int q
theorem K6:iK X (compareOp .Gt) (Gf fun i j=>.bl (decide (j<i))):=D4 fun _ _ _ _ _ _ _ q=>gt_int q
theorem KN:iK X (compareOp .GtE) (Gf fun i j=>.bl (decide (j≤i))):=D4 fun _ _ _ _ _ _ _ q=>ge_int q
def J4:HO→Bool
 | .lst _=>true
 | .ins _ _ _=>true
 | _=>false
theorem JT {a:Addr}(I:Inv X ag σ H s)(h:H a=some o)(p:J4 o=true):∃ob,s.heap.get? a=some ob∧ob.cls≠.type "tuple":=by
 cases o with
 | lst xs=>
  obtain⟨_,its,n,_,e⟩:xs.length≤sizeLine∧∃(its:List Value) (n:Nat),aW xs its∧s.heap.get? a=some {cls:=.type "list",data:=.seq its.toArray n}:=I.hok a _ h
  exact⟨_,e,(by show Value.type "list"≠.type "tuple";decide +kernel)⟩
 | ins C dx fs=>
  have x:=I.hok a _ h
  obtain⟨_,_,_,e,_⟩:=x
  exact⟨_,e,(by show Value.ref C≠.type "tuple";exact fun z=>by cases z)⟩
 | _=>exact absurd (show false=true from p) Bool.false_ne_true
theorem Jk (b:Expr)(h:op≠.In:=by decide)(h2:op≠.NotIn:=by decide):behindInMarks op b=false:=by
 have e1:(op==CmpOp.In)=false:=by cases op <;> first|rfl|exact absurd rfl h
 have e2:(op==CmpOp.NotIn)=false:=by cases op <;> first|rfl|exact absurd rfl h2
 cases b <;> simp[behindInMarks,e1,e2]
theorem EK (ho:iK X (compareOp op) r)(ha:PE X a ta)(hb:PE X b tb)(hm:behindInMarks op b=false):PE X (.Compare a [op] [b] pos) (J3 r ta tb):=by
 intro ag s σ H Q I h
 exact wpAny_Compare1 (HD ha hb I h fun v u s2 x y H2 I2 rx ry q=>ho ag s2 σ H2 x y v u Q I2 rx ry q) hm
def FZ (t:TE):TT:=fun σ H Q=>t σ H fun x H'=>∃k,x=.bl k∧Q k H'
theorem Er (ho:iK X (compareOp op) r)(ha:PE X a ta)(hb:PE X b tb)(hm:behindInMarks op b=false):PT X (.Compare a [op] [b] pos) (FZ (J3 r ta tb)):=by
 intro ag s σ H Q I h
 refine wpAny_isTrue_Compare1 (cy (ha ag s σ H _ I h) fun v s1 ⟨x,H1,I1,r1,q1⟩=>cy (hb ag s1 σ H1 _ I1 q1) fun u s2 ⟨y,H2,I2,r2,q2⟩=>
  cy (ho ag s2 σ H2 x y v u _ I2 r1 r2 q2) fun c s3 ⟨z,H3,I3,r3,k,e,q3⟩=>?_) hm
 subst e
 cases r3
 exact wpAny_truthy_bool ⟨H3,I3,q3⟩
def yz (r r':R2)(ta tb tc:TE):TE:=fun σ H Q=>ta σ H fun x H1=>tb σ H1 fun y H2=>r x y H2 fun z H3=>∃k,z=.bl k∧
 (if k=true then tc σ H3 fun w' H4=>r' y w' H4 Q else Q (.bl false) H3)
theorem BP {op':CmpOp}{r':R2}(ho:iK X (compareOp op) r)(ho':iK X (compareOp op') r')(ha:PE X a ta)(hb:PE X b tb)(hc:PE X c tc)
  (hm:lastMarks [op,op'] [b,c]=false:=by with_unfolding_all rfl):PE X (.Compare a [op,op'] [b,c] pos) (yz r r' ta tb tc):=by
 intro ag s σ H Q I h
 refine Compare_chain (cy (ha ag s σ H _ I h) fun v s1 ⟨x,H1,I1,r1,q1⟩=>chain_link (cy (hb ag s1 σ H1 _ I1 q1) fun u s2 ⟨y,H2,I2,r2,q2⟩=>
  cy (ho ag s2 σ H2 x y v u _ I2 r1 r2 q2) fun d s3 ⟨z,H3,I3,r3,k,e,q3⟩=>?_)) hm
 subst e
 cases r3
 refine wpAny_truthy_bool ?_
 cases k with
 | false=>exact ite_ff ⟨.bl false,H3,I3,rfl,q3⟩
 | true=>exact ite_tt (chain_last (cy (hc ag s3 σ H3 _ I3 q3) fun w' s4 ⟨z',H4,I4,r4,q4⟩=>ho' ag s4 σ H4 y z' u w' Q I4 r2 r4 q4))
theorem Bo {op':CmpOp}{r':R2}(ho:iK X (compareOp op) r)(ho':iK X (compareOp op') r')(ha:PE X a ta)(hb:PE X b tb)(hc:PE X c tc)
  (hm:lastMarks [op,op'] [b,c]=false:=by with_unfolding_all rfl):PT X (.Compare a [op,op'] [b,c] pos) (FZ (yz r r' ta tb tc)):=by
 intro ag s σ H Q I h
 refine isTrue_chain (cy (ha ag s σ H _ I h) fun v s1 ⟨x,H1,I1,r1,q1⟩=>test_link (cy (hb ag s1 σ H1 _ I1 q1) fun u s2 ⟨y,H2,I2,r2,q2⟩=>
  cy (ho ag s2 σ H2 x y v u _ I2 r1 r2 q2) fun d s3 ⟨z,H3,I3,r3,k,e,q3⟩=>?_)) hm
 subst e
 cases r3
 refine wpAny_truthy_bool ?_
 cases k with
 | false=>
  obtain⟨k',e',q'⟩:=q3
  cases e'
  exact ite_ff ⟨H3,I3,q'⟩
 | true=>
  refine ite_tt (test_last (cy (hc ag s3 σ H3 _ I3 q3) fun w' s4 ⟨z',H4,I4,r4,q4⟩=>cy (ho' ag s4 σ H4 y z' u w' _ I4 r2 r4 q4) fun d' s5 ⟨z2,H5,I5,r5,k2,e2,q5⟩=>?_))
  subst e2
  cases r5
  exact wpAny_truthy_bool ⟨H5,I5,q5⟩
def Ku (K:W.Frag)(x:V)(H:Hp)(k:Bool):Prop:=
 match x with
 | .non=>k=false
 | .bl b=>k=b
 | .int i=>k=(i != 0)
 | .str y=>y.length≤sizeLine∧k=((y.length:Int) != 0)
 | .byt y=>y.size≤sizeLine∧k=((y.size:Int) != 0)
 | .ref p=>(∃xs,mV K H p xs∧k=!xs.isEmpty)∨(∃xs,ph K H p xs∧k=!xs.isEmpty)∨∃kvs,H p=some (.dK kvs)∧k=!kvs.isEmpty
 | _=>False
theorem xv {κ:Type}{kvs:List (κ×V)}{vs:List (κ×Value)}(r:KV kvs vs):(!vs.isEmpty)=!kvs.isEmpty:=by
 cases r <;> rfl
theorem p8 {its:List Value}(r:aW xs its):(!its.toArray.isEmpty)=!xs.isEmpty:=by
 cases r <;> simp
theorem oK:(sizeLine:Nat)<2 ^ 63:=by rw[sizeLine_eq];decide
theorem IE:NK X (fun x H Q=>∃k,Ku X.K x H k∧Q k H):=by
 intro ag s σ H x v Q I rx h
 obtain⟨k,e,q⟩:=h
 have hl:=oK
 have hs:sizeLine=16777216:=sizeLine_eq
 cases x with
 | non=>
  cases rx
  have e':k=false:=e
  subst e'
  exact truthy_none ⟨H,I,q⟩
 | bl b=>
  cases rx
  have e':k=b:=e
  subst e'
  exact wpAny_truthy_bool ⟨H,I,q⟩
 | int i=>
  obtain⟨t,rfl⟩:=rx
  have e':k=(i != 0):=e
  subst e'
  exact PySem.P.truthy_int ⟨H,I,q⟩
 | str y=>
  obtain⟨t,rfl⟩:=rx
  obtain⟨hy,e'⟩:y.length≤sizeLine∧k=((y.length:Int) != 0):=e
  subst e'
  exact PySem.P.truthy_str (by omega) ⟨H,I.tok _,q⟩
 | byt y=>
  obtain⟨t,rfl⟩:=rx
  obtain⟨hy,e'⟩:y.size≤sizeLine∧k=((y.size:Int) != 0):=e
  subst e'
  exact W.truthy_bytes (by omega) ⟨H,I.tok _,q⟩
 | ref p=>
  cases rx
  have e':(∃xs,mV X.K H p xs∧k=!xs.isEmpty)∨(∃xs,ph X.K H p xs∧k=!xs.isEmpty)∨∃kvs,H p=some (.dK kvs)∧k=!kvs.isEmpty:=e
  rcases e' with⟨xs,hx,e'⟩|⟨xs,hx,e'⟩|⟨kvs,hx,e'⟩
  ·subst e'
   obtain⟨its,r,pl,hz⟩:=I.list hx
   have hlen:=r.length
   exact wpAny_truthy_list pl.isList (by simp only[List.size_toArray];omega) ⟨H,I.tok _,by rw[p8 r];exact q⟩
  ·subst e'
   obtain⟨its,r,pl,hz⟩:=I.tuple hx
   have hlen:=r.length
   exact truthy_tuple pl (by simp only[List.size_toArray];omega) ⟨H,I.tok _,by rw[p8 r];exact q⟩
  ·subst e'
   obtain⟨hz,hS,vs,r,m⟩:kvs.length≤sizeLine∧(p==sysModules)=false∧∃vs,KV kvs vs∧s.heap.DictOf (cw X.prog X.w) p vs:=I.hok p _ hx
   have hlen:kvs.length=vs.length:=Paired.length r
   exact wpAny_truthy_dict hS m (by omega) ⟨H,I.tok _,by rw[xv r];exact q⟩
 | _=>exact(show False from e).elim
theorem Bk (ha:PE X a ta)(he:∀whole,isTrue a X.env whole=(do let v ←whole;standAt a.pos;holding [v] (truthy v))) :
  PT X a (fun σ H Q=>ta σ H fun x H'=>∃k,Ku X.K x H' k∧Q k H'):=by
 intro ag s σ H Q I h
 exact isTrue_plain (cy (ha ag s σ H _ I h) fun v s1 ⟨x,H1,I1,r1,q1⟩=>IE ag s1 σ H1 x v Q I1 r1 q1) (he _)
theorem xY:iK X (binaryOp .Add) (fun x y H Q=>∃i j,x=.str i∧y=.str j∧i.length+j.length≤sizeLine∧Q (.str (i++j)) H):=by
 intro ag s σ H x y v u Q I rx ry h
 obtain⟨i,j,rfl,rfl,hz,q⟩:=h
 obtain⟨t,rfl⟩:=rx
 obtain⟨t',rfl⟩:=ry
 exact add_str (fun t' tk=>⟨.str (i++j),H,I.tok _,⟨_,rfl⟩,q⟩) hz
theorem l6 {x:V}(r:aW [x] us):∃u,us=[u]∧bc x u:=by
 cases r with
 | cons r1 r2=>cases r2;exact⟨_,rfl,r1⟩
theorem zd {x y:V}(r:aW [x,y] us):∃u w',us=[u,w']∧bc x u∧bc y w':=by
 cases r with
 | cons r1 r2=>
  cases r2 with
  | cons r3 r4=>cases r4;exact⟨_,_,rfl,r1,r3⟩
theorem AQ (hc:X.calm=true):dh X (.builtin "max") (fun xs H Q=>∃i j,xs=[.int i,.int j]∧Q (.int (if j>i then j else i)) H):=by
 intro ag s σ H xs us Q I r h
 obtain⟨i,j,rfl,q⟩:=h
 obtain⟨u,w',rfl,⟨t,rfl⟩,⟨t',rfl⟩⟩:=zd r
 refine max_two_ints (I.ok.hd hc) fun h' tk k=>⟨_,H,I.kept k,?_,q⟩
 by_cases hj:j>i
 ·rw[if_pos hj,if_pos hj];exact⟨_,rfl⟩
 ·rw[if_neg hj,if_neg hj];exact⟨_,rfl⟩
theorem Ab (hc:X.calm=true):dh X (.builtin "min") (fun xs H Q=>∃i j,xs=[.int i,.int j]∧Q (.int (if j<i then j else i)) H):=by
 intro ag s σ H xs us Q I r h
 obtain⟨i,j,rfl,q⟩:=h
 obtain⟨u,w',rfl,⟨t,rfl⟩,⟨t',rfl⟩⟩:=zd r
 refine min_two_ints (I.ok.hd hc) fun h' tk k=>⟨_,H,I.kept k,?_,q⟩
 by_cases hj:j<i
 ·rw[if_pos hj,if_pos hj];exact⟨_,rfl⟩
 ·rw[if_neg hj,if_neg hj];exact⟨_,rfl⟩
theorem sD:dh X (.type "int") (fun xs H Q=>(∃i,xs=[.int i]∧Q (.int i) H)∨∃k,xs=[.bl k]∧Q (.int (if k then 1 else 0)) H):=by
 intro ag s σ H xs us Q I r h
 rcases h with⟨i,rfl,q⟩|⟨k,rfl,q⟩
 ·obtain⟨u,rfl,t,rfl⟩:=l6 r
  exact call_int_int ⟨.int i,H,I,⟨_,rfl⟩,q⟩
 ·obtain⟨u,rfl,r1⟩:=l6 r
  cases r1
  exact call_int_bool ⟨.int (if k then 1 else 0),H,I.tok _,⟨_,rfl⟩,q⟩
end
structure yM (h:Heap)(x dx C:Addr)(mA:Str→Option Value):Prop where
 obj:h.get? x=some (W.instObj C dx)
 ns:h.Ns1 dx mA
 ne:dx≠x
variable{mA:Str→Option Value}
theorem zM {dx:Addr}(n:h.Ns1 dx mA):∃od,h.get? dx=some od∧∀name,W.lookIn name od=some (mA name):=by
 obtain⟨o,es,ep,ho,hd,hk,_,hm⟩:=n
 refine⟨o,ho,fun name=>?_⟩
 have e:=hm name
 unfold nsFind findBy at e
 rw[←Array.find?_toList] at e
 unfold W.lookIn
 rw[hd]
 dsimp only
 split
 ·rename_i y q
  rw[q] at e
  exact congrArg some e
 ·rename_i q
  rw[q] at e
  have a:es.toList.any (·.refKey)=false:=by
   rw[List.any_eq_false]
   intro y hy
   obtain⟨z,t,hkey⟩:=hk y (Array.mem_toList_iff.mp hy)
   simp[DictEntry.refKey,hkey]
  have a':¬es.toList.any (·.refKey)=true:=by rw[a];exact Bool.false_ne_true
  rw[if_neg a']
  exact congrArg some e
variable{C:Addr}
theorem yM.look {x dx:Addr}(I:yM h x dx C mA):∃od,W.InstAt h x (W.instObj C dx) C (some od)∧∀name,W.lookIn name od=some (mA name):=
 let ⟨od,ho,hl⟩:=zM I.ns
 ⟨od,⟨I.obj,rfl,rfl,ho⟩,hl⟩
variable{pl:Sem Bool}{kw:List (Str×Value)}
section
variable {prog:Program}{w:World}{A:Around}{E:Value→Shared→Prop}{s:Shared}{K:W.Frag}{x dx C f:Addr}{mA:Str→Option Value}{name:Str}{v:Value}
theorem Fm {expr:Bool}(X:K.In s.heap)(I:yM s.heap x dx C mA)(hg:W.plainGet K C name=true)(hh:W.hasDictIn K C=true)
  (ha:W.findIn K (.ref C) name=some none) (hv:mA name=some v) (hv':W.handedIn v=true) (h:Q v {s with toks:=s.toks+1}) :
  wpAny (model prog w) A (getAttr (.ref x) name expr) Q E s:=by
 obtain⟨od,J,hl⟩:=I.look
 exact W.get_value X J (W.plainGet_of hg).1 (W.findObj_own hh ha rfl (by rw[hl,hv])) hv' h
theorem A7 {Q:Value×List Value→Shared→Prop}(X:K.In s.heap)(I:yM s.heap x dx C mA)(hg:W.plainGet K C name=true)
  (hf:W.findIn K (.ref C) name=some (some (.ref f))) (ht:W.isFn K (.ref f)=true) (hv:mA name=none) (h:Q (.ref f,[.ref x]) s) :
  wpAny (model prog w) A (getMethod (.ref x) name pl) Q E s:=by
 obtain⟨od,J,hl⟩:=I.look
 exact W.method_fn X J (W.plainGet_of hg).1 (W.plainGet_of hg).2 hf (beq_iff_eq.mp ht) (by show(W.lookIn name od).map (·.isSome)=some false;rw[hl,hv];rfl) h
theorem Fj {ns:List Str}{Q:Unit→Shared→Prop}(X:K.In s.heap)(I:yM s.heap x dx C mA)
  (hs:W.findIn K (.ref C) "__setattr__"=some (some (.builtin "object.__setattr__"))) (hp:W.plainOver K C=true) (ht:W.takerIn K C name=some none) (hh:W.hasDictIn K C=true)
  (hw:PySem.Within mA ns) (hsz:ns.length≤sizeLine)
  (h:∀h',yM h' x dx C (fun y=>if y=name then some v else mA y)→Heap.SameBut dx s.heap h'→Q () {s with heap:=h',toks:=s.toks+2}) :
  wpAny (model prog w) A (setAttr (.ref x) name v) Q E s:=by
 obtain⟨od,J,hl⟩:=I.look
 refine W.set_plain X J hs (W.osa_open (s:={s with toks:=s.toks+1}) (r:=none) X J hp ht fun b=>?_)
 obtain⟨cd,hc,hd'⟩:=W.any_some hh
 have hx:s.heap.get? x=some ⟨.ref C,some dx,.plain,#[]⟩:=I.obj
 refine wpAny_bind (wpAny_pure (wpAny_bind (wpAny_bind (wpAny_loadPart hx (wpAny_bind (W.Looks.here (s:={s with toks:=s.toks+1}) (W.looks_clsIn X hc) ?_))))))
 rw[hd']
 refine wpAny_pure (a:=some dx) (wpAny_bind (wpAny_pure (wpAny_bind ?_)))
 refine wpAny_nsSet1 (s:={s with toks:=s.toks+1}) I.ns fun h' hn2 hs2=>?_
 obtain⟨oD,esD,epD,hoD,hdD,hcD⟩:=hn2.count (PySem.Within.cons name v hw)
 refine wpAny_bind (wpAny_lookBehind hoD (by rw[hdD];exact pastItsLine_dict (Nat.le_trans hcD (by rw[List.length_cons];omega))) ?_)
 exact wpAny_pure (h _ ⟨(hs2.2 _ (Ne.symm I.ne)).trans I.obj,hn2,I.ne⟩ hs2)
theorem Cm {R:Result→Shared→Prop}{vs:List Value}(X:K.In s.heap)(hm:W.makesIn K C=true)
  (hi:W.findIn K (.ref C) "__init__"=some (some (.ref f))) (hf:W.typeIn K (.ref f)=some (.type "function"))
  (h:codeAny (model prog w) (A.under (.builtin "type.__call__" ⟨.ref C::vs,kw⟩)) (.call (.ref f) ⟨.ref (s.heap.objs.size+1)::vs,kw⟩) (W.InitBack (s.heap.objs.size+1) R)
   {s with heap:=(s.heap.push W.emptyDict).push (W.instObj C s.heap.objs.size)}) :
  codeAny (model prog w) A (.call (.ref C) ⟨vs,kw⟩) R s:=by
 obtain⟨hh,g,d,t,os⟩:=s
 exact W.make_core (W.makes_of X hm) (W.looks_findIn X hi) (fun self=>W.bind_fn X self hf) (.inl rfl) h
end
def jA (f:Str)(v:V):List (Str×V)→List (Str×V)
 | []=>[(f,v)]
 | (g,x)::r=>if g=f then(g,v)::r else(g,x)::jA f v r
theorem oV (f g:Str)(v:V):∀fs:List (Str×V),(jA f v fs).lookup g=if g=f then some v else fs.lookup g
 | []=>by
  show List.lookup g [(f,v)]=_
  by_cases h:g=f
  ·have hb:(g==f)=true:=beq_iff_eq.mpr h
   simp only[List.lookup,hb,if_pos h]
  ·have hb:(g==f)=false:=beq_eq_false_iff_ne.mpr h
   simp only[List.lookup,hb,if_neg h]
 | (k,x)::r=>by
  have ih:=oV f g v r
  rw[show jA f v ((k,x)::r)=(if k=f then(k,v)::r else(k,x)::jA f v r) from rfl]
  by_cases hk:k=f
  ·rw[if_pos hk]
   by_cases h:g=k
   ·have hb:(g==k)=true:=beq_iff_eq.mpr h
    simp only[List.lookup,hb,if_pos (h.trans hk)]
   ·have hb:(g==k)=false:=beq_eq_false_iff_ne.mpr h
    simp only[List.lookup,hb,if_neg (fun e:g=f=>h (e.trans hk.symm))]
  ·rw[if_neg hk]
   by_cases h:g=k
   ·have hb:(g==k)=true:=beq_iff_eq.mpr h
    simp only[List.lookup,hb,if_neg (fun e:g=f=>hk (h.symm.trans e))]
   ·have hb:(g==k)=false:=beq_eq_false_iff_ne.mpr h
    simp only[List.lookup,hb]
    exact ih
theorem oo (f:Str)(v:V):∀fs:List (Str×V),f∈(jA f v fs).map (·.1)∧∀g,g∈fs.map (·.1)→g∈(jA f v fs).map (·.1)
 | []=>⟨by simp[jA],fun g h=>by simp at h⟩
 | (k,x)::r=>by
  obtain⟨i1,i2⟩:=oo f v r
  rw[show jA f v ((k,x)::r)=(if k=f then(k,v)::r else(k,x)::jA f v r) from rfl]
  by_cases hk:k=f
  ·rw[if_pos hk]
   subst hk
   exact⟨by simp,fun g h=>by simpa using h⟩
  ·rw[if_neg hk]
   refine⟨?_,fun g h=>?_⟩
   ·rw[List.map_cons]
    exact List.mem_cons_of_mem _ i1
   ·rw[List.map_cons] at h ⊢
    rcases List.mem_cons.mp h with e|e
    ·exact List.mem_cons.mpr (.inl e)
    ·exact List.mem_cons_of_mem _ (i2 g e)
theorem oW (f:Str)(v:V):∀fs:List (Str×V),(jA f v fs).length≤fs.length+1
 | []=>by simp[jA]
 | (k,x)::r=>by
  have ih:=oW f v r
  rw[show jA f v ((k,x)::r)=(if k=f then(k,v)::r else(k,x)::jA f v r) from rfl]
  by_cases hk:k=f
  ·rw[if_pos hk,List.length_cons,List.length_cons];omega
  ·rw[if_neg hk,List.length_cons,List.length_cons];omega
theorem kM.some_of {o:Option Value}(r:kM (some v) o):∃u,o=some u∧bc v u:=by
 cases o with
 | none=>exact(show False from r).elim
 | some u=>exact⟨u,rfl,r⟩
theorem kM.none_of {o:Option Value}(r:kM none o):o=none:=by
 cases o with
 | none=>rfl
 | some u=>exact(show False from r).elim
theorem zO (r:bc v u):W.handedIn u=true:=by
 cases v with
 | non=>cases (show u=Value.none from r);rfl
 | bl b=>cases (show u=Value.bool b from r);rfl
 | int i=>obtain⟨t,e⟩:=(show∃t,u=Value.int i t from r);cases e;rfl
 | str x=>obtain⟨t,e⟩:=(show∃t,u=Value.str x t from r);cases e;rfl
 | byt b=>obtain⟨t,e⟩:=(show∃t,u=Value.bytes b t from r);cases e;rfl
 | flt b=>obtain⟨t,e⟩:=(show∃t,u=Value.float b t from r);cases e;rfl
 | ref a=>cases (show u=Value.ref a from r);rfl
 | ty n=>cases (show u=Value.type n from r);rfl
section
variable {P:Program}{w:World}{H H':Hp}{h h':Heap}{a C dx:Addr}{fs fs':List (Str×V)}
theorem uZ (hok:kS P w H h)(e:H a=some (.ins C dx fs)):∃mA,yM h a dx C mA∧(∀f,kM (fs.lookup f) (mA f))∧PySem.Within mA (fs.map (·.1))∧fs.length≤1000∧H dx=some (.own a):=by
 obtain⟨d,z,ne,ob,mA,n,r,q⟩:=(show cz P w H h a (.ins C dx fs) from hok a _ e)
 exact⟨mA,⟨ob,n,ne⟩,r,q,z,d⟩
end
structure C8 (K:W.Frag)(C:Addr):Prop where
 pg:W.plainGet K C Str.empty=true
 hd:W.hasDictIn K C=true
 po:W.plainOver K C=true
 sa:W.findIn K (.ref C) "__setattr__"=some (some (.builtin "object.__setattr__"))
theorem C8.get (c:C8 K C)(f:Str):W.plainGet K C f=true:=c.pg
def fM (K:W.Frag)(C:Addr)(f:Str):Prop:=W.findIn K (.ref C) f=some none
theorem fM.taker {f:Str}(n:fM K C f):W.takerIn K C f=some none:=by
 unfold W.takerIn
 rw[show W.findIn K (.ref C) f=some none from n]
 rfl
structure uj (K:W.Frag)(C:Addr)(m:Str)(f:Addr):Prop where
 at_:W.findIn K (.ref C) m=some (some (.ref f))
 fn:W.isFn K (.ref f)=true
 kp:W.keepIn K (.ref f)=true
section
variable {X:Cx}{ag:List (Addr×Obj)}{σ:St}{H:Hp}{s:Shared}{a C dx:Addr}{fs:List (Str×V)}{f:Str}{v:V}{A:Around}{E:Value→Shared→Prop}
theorem qU {b:Bool}(I:Inv X ag σ H s)(e:H a=some (.ins C dx fs))(c:C8 X.K C)(n:fM X.K C f)(l:fs.lookup f=some v)
  (h:∀u s',Inv X ag σ H s'→bc v u→Q u s'):wpAny (model X.prog X.w) A (getAttr (.ref a) f b) Q E s:=by
 obtain⟨mA,O,r,_,_,_⟩:=uZ I.hok e
 obtain⟨u,hu,ru⟩:=kM.some_of (v:=v) (o:=mA f) (by rw[←l];exact r f)
 exact Fm I.kIn O (c.get f) c.hd n hu (zO ru) (h u _ (I.tok _) ru)
theorem qw {m:Str}{g:Addr}{Q:Value×List Value→Shared→Prop}(I:Inv X ag σ H s)(e:H a=some (.ins C dx fs))(c:C8 X.K C)(k:uj X.K C m g)(l:fs.lookup m=none)
  (h:Q (.ref g,[.ref a]) s):wpAny (model X.prog X.w) A (getMethod (.ref a) m pl) Q E s:=by
 obtain⟨mA,O,r,_,_,_⟩:=uZ I.hok e
 have hn:mA m=none:=kM.none_of (by rw[←l];exact r m)
 exact A7 I.kIn O (c.get m) k.at_ k.fn hn h
theorem rm {y:V}{Q:Unit→Shared→Prop}(I:Inv X ag σ H s)(e:H a=some (.ins C dx fs))(c:C8 X.K C)(n:fM X.K C f)(hl:fs.length<1000)(ry:bc y u)
  (h:∀s',Inv X ag σ (ce H a (.ins C dx (jA f y fs))) s'→Q () s'):wpAny (model X.prog X.w) A (setAttr (.ref a) f u) Q E s:=by
 obtain⟨mA,O,r,wi,_,ho⟩:=uZ I.hok e
 have hz:(fs.map (·.1)).length≤sizeLine:=by rw[List.length_map,sizeLine_eq];omega
 refine Fj I.kIn O c.sa c.po n.taker c.hd wi hz fun h' O' sb=>h _ ?_
 have hd:∃o,h'.get? dx=some o:=let ⟨o,_,_,e',_⟩:=O'.ns;⟨o,e'⟩
 refine I.write (x:=a) (e:=dx) (by rw[e];exact True.intro) (.inr ho) (fun b q hb z=>(sb.2 b hb).trans z) hd ?_
 refine⟨by rw[aC O.ne];exact ho,?_,O.ne,O'.obj,_,O'.ns,fun g=>?_,fun g hg=>?_⟩
 ·have:=oW f y fs;omega
 ·show kM ((jA f y fs).lookup g) (if g=f then some u else mA g)
  rw[oV]
  by_cases q:g=f
  ·rw[if_pos q,if_pos q];exact ry
  ·rw[if_neg q,if_neg q];exact r g
 ·by_cases q:g=f
  ·rw[q];exact(oo f y fs).1
  ·refine(oo f y fs).2 g (wi g fun z=>hg ?_)
   show(if g=f then some u else mA g)=none
   rw[if_neg q];exact z
theorem Inv.made (I:Inv X ag σ H s):Inv X ag σ (ce (ce H s.heap.objs.size (.own (s.heap.objs.size+1))) (s.heap.objs.size+1) (.ins C s.heap.objs.size []))
  {s with heap:=(s.heap.push W.emptyDict).push (W.instObj C s.heap.objs.size)}:=by
 have e1:(s.heap.push W.emptyDict).get? s.heap.objs.size=some W.emptyDict:=Heap.get?_push_size s.heap rfl
 have e2:((s.heap.push W.emptyDict).push (W.instObj C s.heap.objs.size)).get? (s.heap.objs.size+1)=some (W.instObj C s.heap.objs.size):=by
  have:=Heap.get?_push_size (s.heap.push W.emptyDict) (o:=W.instObj C s.heap.objs.size) rfl
  rwa [Heap.size_push] at this
 have e3:(s.heap.push W.emptyDict).Ns s.heap.objs.size (fun _=>none):=⟨W.emptyDict,#[],_,e1,rfl,(fun e he=>absurd he (by simp)),fun _=>rfl⟩
 have I1:=I.laid (a:=s.heap.objs.size) (o:=.own (s.heap.objs.size+1)) (h':=s.heap.push W.emptyDict) (t':=s.toks) (fun b u q=>Heap.get?_push_of_some _ q) (Nat.le_refl _) ⟨_,e1⟩
 refine I1.laid (a:=s.heap.objs.size+1) (o:=.ins C s.heap.objs.size []) (t':=s.toks) (fun b u q=>Heap.get?_push_of_some _ q) (Nat.le_of_eq (Heap.size_push _ _)) ?_
 have ne:s.heap.objs.size≠s.heap.objs.size+1:=Nat.ne_of_lt (Nat.lt_succ_self _)
 refine⟨by rw[aC ne,bF],Nat.zero_le _,ne,e2,fun _=>none,(Heap.Ns1.of_empty e3).at fun o q=>Heap.get?_push_of_some _ q,fun _=>True.intro,fun y hy=>absurd rfl hy⟩
theorem Ed {prog:Program}{env:Env}{f:Str}{pos:Pos}{s:Shared}(hb:attributeBase e f env (eval e env)=eval e env)
  (h:wpAny (model prog w) A (eval e env) (fun o s₁=>wpAny (model prog w) A (getAttr o f true) Q E s₁) E s):wpAny (model prog w) A (eval (.Attribute e f pos) env) Q E s:=
 Attribute_any_ h (by rw[arm_eval_Attribute,hb])
end
def NU (K:W.Frag)(ta:TE)(f:Str):TE:=fun σ H Q=>ta σ H fun x H1=>∃a C dx fs v,x=.ref a∧H1 a=some (.ins C dx fs)∧C8 K C∧fM K C f∧fs.lookup f=some v∧Q v H1
def Nv (K:W.Frag)(ta tv:TE)(f:Str):TS:=fun D σ H=>tv σ H fun y H1=>ta σ H1 fun x H2=>∃a C dx fs,x=.ref a∧H2 a=some (.ins C dx fs)∧C8 K C∧fM K C f∧fs.length<1000∧
 D.nx σ (ce H2 a (.ins C dx (jA f y fs)))
def DH (X:Cx)(op:Operator)(rd:V→V→Hp→VK→Prop):Prop:=
 ∀(ag:List (Addr×Obj)) (s:Shared) (σ:St) (H:Hp) (x y:V) (u v:Value) (Q:VK),Inv X ag σ H s→bc x u→bc y v→rd x y H Q→wpAny (model X.prog X.w) X.A (inplaceOp op u v) (EP X ag σ Q) X.xe s
def ED (K:W.Frag)(ta tv:TE)(rd:V→V→Hp→VK→Prop)(f:Str):TS:=fun D σ H=>ta σ H fun x H1=>∃a C dx fs v,x=.ref a∧H1 a=some (.ins C dx fs)∧C8 K C∧fM K C f∧fs.lookup f=some v∧
 tv σ H1 fun y H2=>rd v y H2 fun z H3=>∃dx' fs',H3 a=some (.ins C dx' fs')∧fs'.length<1000∧D.nx σ (ce H3 a (.ins C dx' (jA f z fs')))
section
variable {X:Cx}{o e value:Expr}{f:Str}{pos pos' tpos:Pos}{ta tv:TE}
theorem JD (he:PE X e ta)(hb:attributeBase e f X.env (eval e X.env)=eval e X.env):PE X (.Attribute e f pos) (NU X.K ta f):=by
 intro ag s σ H Q I h
 refine Ed hb (cy (he ag s σ H _ I h) fun u s1 ⟨x,H1,I1,rx,a,C,dx,fs,v,ex,ea,c,n,l,q⟩=>?_)
 subst ex
 obtain rfl:u=Value.ref a:=rx
 exact qU I1 ea c n l fun u' s2 I2 ru=>⟨v,H1,I2,ru,q⟩
theorem HF (ha:PE X o ta)(hv:PE X value tv)(hs:swapsWith value (some (.Attribute o f pos')) pos.line X.env=pure false):PS X (.Assign [.Attribute o f pos'] value pos) (Nv X.K ta tv f):=by
 intro ag s σ H D I h
 refine plainObj_wpAny_Assign_Attribute (cy (hv ag s σ H _ I h) fun u s1 ⟨y,H1,I1,ry,q⟩=>cy (ha ag s1 σ H1 _ I1 q) fun ov s2 ⟨x,H2,I2,rx,a,C,dx,fs,ex,ea,c,n,l,q2⟩=>?_) hs
 subst ex
 obtain rfl:ov=Value.ref a:=rx
 exact rm I2 ea c n l ry fun s3 I3=>⟨σ,_,I3,q2⟩
theorem zZ {op:Operator}{rd:V→V→Hp→VK→Prop}(ha:PE X o ta)(hv:PE X value tv)(hop:DH X op rd):PS X (.AugAssign (.Attribute o f tpos) op value pos) (ED X.K ta tv rd f):=by
 intro ag s σ H D I h
 refine wpAny_AugAssign_AttributeAny (cy (ha ag s σ H _ I h) fun ov s1 ⟨x,H1,I1,rx,a,C,dx,fs,v,ex,ea,c,n,l,q⟩=>?_)
 subst ex
 obtain rfl:ov=Value.ref a:=rx
 refine qU I1 ea c n l fun u s2 I2 ru=>cy (hv ag s2 σ H1 _ I2 q) fun w3 s3 ⟨y,H2,I3,ry,q3⟩=>cy (hop ag s3 σ H2 v y u w3 _ I3 ru ry q3) fun w4 s4 ⟨z,H3,I4,rz,dx',fs',ea',l',q4⟩=>?_
 exact rm I4 ea' c n l' rz fun s5 I5=>⟨σ,_,I5,q4⟩
def Np:V→V→Hp→VK→Prop:=fun x y H Q=>∃i j,x=.int i∧y=.int j∧Q (.int (i+j)) H
theorem Hc:DH X .Add Np:=by
 rintro ag s σ H x y u v Q I rx ry ⟨i,j,rfl,rfl,q⟩
 obtain⟨t,rfl⟩:=(show∃t,u=Value.int i t from rx)
 obtain⟨t',rfl⟩:=(show∃t',v=Value.int j t' from ry)
 exact PyProof.Rows.iadd_int ⟨.int (i+j),H,I.tok _,⟨_,rfl⟩,q⟩
end
structure bv (k:Nat)(A:Around):Prop where
 hd:A.handled=none
 dp:A.depth+3*k+5<recursionLimit
 un:A.units+16*k+200<cLine
variable{k:Nat}
theorem bv.mono {j:Nat}(r:bv k A)(h:j≤k):bv j A:=⟨r.hd,by have:=r.dp;omega,by have:=r.un;omega⟩
theorem bv.deeper (r:bv (k+1) A)(env:Env):bv k (A.deeper env):=
 ⟨r.hd,by have:=r.dp;show A.depth+1+3*k+5<_;omega,by have:=r.un;show A.units+3+16*k+200<_;omega⟩
theorem bv.in1 (r:bv (k+1) A):bv k A.in1:=
 ⟨r.hd,by have:=r.dp;show A.depth+3*k+5<_;omega,by have:=r.un;show A.units+1+16*k+200<_;omega⟩
theorem xG :(A.under (.builtin "type.__call__" ⟨.ref C::us,kw⟩)).depth=A.depth+1:=by
 first|rfl|simp[Around.under,Code.weight,Code.isCreation,Code.isGuard,Code.isCaller,Code.frames,Code.isFrame,guardIds]
theorem yb :(A.under (.builtin "type.__call__" ⟨.ref C::us,kw⟩)).units=A.units+1:=by
 first|rfl|simp[Around.under,Code.cUnits,Code.frames,Code.isFrame]
theorem bv.make (r:bv (k+1) A)(C:Addr)(us:List Value)(kw:List (Str×Value)):bv k (A.under (.builtin "type.__call__" ⟨.ref C::us,kw⟩)):=
 ⟨r.hd,by have:=r.dp;rw[xG];omega,by have:=r.un;rw[yb];omega⟩
theorem bv.depth (r:bv k A):A.depth<recursionLimit:=by have:=r.dp;omega
theorem bv.units (r:bv k A):A.units+64<cLine:=by have:=r.un;omega
theorem bv.units0 (r:bv k A):A.units<cLine:=by have:=r.un;omega
def Ip:TA:=fun _ H Q=>Q [] H
def Ga (ta:TE)(tr:TA):TA:=fun σ H Q=>ta σ H fun x H1=>tr σ H1 fun xs H2=>Q (x::xs) H2
section
variable {X:Cx}{e:Expr}{es:List Expr}{te:TE}{t:TA}{pos:Pos}
theorem qR:PA X [] Ip:=fun _ _ _ _ H Q I h=>Calls.spliced_nil ⟨[],H,I,.nil,h⟩
theorem lP (ha:PE X e te)(hr:PA X es t)(hs:starEach (e::es) X.env=(false,eval e X.env)::starEach es X.env:=by rfl):PA X (e::es) (Ga te t):=by
 intro pos ag s σ H Q I h
 rw[hs]
 show wpAny _ _ (spliced ((false,eval e X.env)::backTo pos (starEach es X.env))) _ _ s
 refine Calls.spliced_cons (cy (ha ag s σ H _ I h) fun u s1 ⟨x,H1,I1,r1,q1⟩=>?_)
 exact cy (hr pos ag s1 σ H1 _ I1 q1) fun us s2 ⟨xs,H2,I2,r2,q2⟩=>⟨x::xs,H2,I2,.cons r1 r2,q2⟩
def NM (t:TA):TE:=fun σ H Q=>t σ H fun xs H1=>xs.length≤sizeLine∧∀p,H1 p=none→Q (.ref p) (ce H1 p (.tup xs))
def NN (t:TA):TE:=fun σ H Q=>t σ H fun xs H1=>xs.length≤sizeLine∧∀p,H1 p=none→Q (.ref p) (ce H1 p (.lst xs))
theorem G0 {x1}(h:PA X es t):PE X (.Tuple es x1 pos) (NM t):=by
 intro ag s σ H Q I hq
 refine wpAny_Tuple_spliced (cy (h pos ag s σ H _ I hq) fun us s1 ⟨xs,H1,I1,r,z,q⟩=>⟨by rw[←r.length];exact z,?_⟩)
 have hf:H1 s1.heap.objs.size=none:=I1.hok.fresh (Nat.le_refl _)
 refine⟨.ref s1.heap.objs.size,ce H1 s1.heap.objs.size (.tup xs),I1.laid (t':=s1.toks) (fun b u e=>Heap.get?_push_of_some _ e) (Nat.le_refl _) ?_,rfl,q _ hf⟩
 exact⟨z,us,r,⟨_,Heap.get?_push_size _ rfl,rfl,_,rfl⟩⟩
theorem CL (h:PA X es t):PE X (.List es pos) (NN t):=by
 intro ag s σ H Q I hq
 refine wpAny_List_spliced (cy (h pos ag s σ H _ I hq) fun us s1 ⟨xs,H1,I1,r,z,q⟩=>⟨by rw[←r.length];exact z,?_⟩)
 have hf:H1 s1.heap.objs.size=none:=I1.hok.fresh (Nat.le_refl _)
 refine⟨.ref s1.heap.objs.size,ce H1 s1.heap.objs.size (.lst xs),I1.laid (t':=s1.toks) (fun b u e=>Heap.get?_push_of_some _ e) (Nat.le_refl _) ?_,rfl,q _ hf⟩
 exact⟨z,us,0,r,Heap.get?_push_size _ rfl⟩
end
abbrev Sp:=List V→Hp→VK→XK→Prop
abbrev AU:=List Env→Hp→Shared→XK→Value→Shared→Prop
structure rX (P:Program)(w:World)(K:W.Frag)(mg:Str→Option Value)(base:Heap)(A:Around)(outer:List Env)(s:Shared)(H:Hp):Prop where
 frames:A.frames=some outer
 mod:Mod K mg base
 bs:∀b o,base.get? b=some o→s.heap.get? b=some o∧H b=none
 bsz:base.objs.size≤s.heap.objs.size
 funs:s.heap.FunFrames base outer
 frf:∀b∈rF outer,H b=none
 hok:kS P w H s.heap
 bare:AllBare s.gens
def CE (outer:List Env)(P:Program)(w:World)(H:Hp)(s:Shared)(Q:VK)(u:Value)(s':Shared):Prop:=
 ∃v H',s'.os=s.os∧AllBare s'.gens∧Un (rF outer) [] H H' s.heap s'.heap∧kS P w H' s'.heap∧bc v u∧Q v H'
def CR (CX:AU)(outer:List Env)(P:Program)(w:World)(H:Hp)(s:Shared)(Q:VK)(E:XK)(r:Result)(s':Shared):Prop:=
 match r with
 | .ok (.ret u)=>CE outer P w H s Q u s'
 | .ok _=>False
 | .error e=>CX outer H s E e s'
structure dE (P:Program)(w:World)(K:W.Frag)(mg:Str→Option Value)(base:Heap)(CX:AU)(k:Nat)(f:Addr)(fd:FuncData)(ps:List Str)(sp:Sp):Prop where
 len:∀vs H Q E,sp vs H Q E→vs.length=ps.length
 run:∀(A:Around) (outer:List Env) (s:Shared) (H:Hp) (args:Args) (us:List Value) (vs:List V) (Q:VK) (E:XK),bv k A→rX P w K mg base A outer s H→BindsTo s fd args (ps.zip us)→aW vs us→sp vs H Q E→
  codeAny (model P w) A (.call (.ref f) args) (CR CX outer P w H s Q E) s
variable{mg:Str→Option Value}{base:Heap}{CX:AU}{fd:FuncData}{ps:List Str}
theorem dE.imp {f:Addr}{sp sp':Sp}(F:dE P w K mg base CX k f fd ps sp)
  (h:∀vs H Q E,sp' vs H Q E→sp vs H Q E):dE P w K mg base CX k f fd ps sp':=
 ⟨fun vs H Q E q=>F.len vs H Q E (h _ _ _ _ q),fun A outer s H args us vs Q E hr he hb hv hs=>F.run A outer s H args us vs Q E hr he hb hv (h _ _ _ _ hs)⟩
variable{outer:List Env}
theorem rX.make (e:rX P w K mg base A outer s H)(C:Addr)(us:List Value)(kw:List (Str×Value)) :
  rX P w K mg base (A.under (.builtin "type.__call__" ⟨.ref C::us,kw⟩)) outer s H:=⟨by first|exact e.frames|(simpa[Around.under,Code.envs,Code.isFrame,pushEnvs] using e.frames),e.mod,e.bs,e.bsz,e.funs,e.frf,e.hok,e.bare⟩
theorem rX.in1 (e:rX P w K mg base A outer s H) :
  rX P w K mg base A.in1 outer s H:=⟨e.frames,e.mod,e.bs,e.bsz,e.funs,e.frf,e.hok,e.bare⟩
section
variable {X:Cx}{ag:List (Addr×Obj)}{σ:St}{H:Hp}{s s':Shared}
theorem Inv.env0 (I:Inv X ag σ H s):rX X.prog X.w X.K X.mg X.base X.A X.stack s H:=
 ⟨I.ok.frames,I.ok.mod,I.bs,Nat.le_trans I.ok.bsz I.sz,I.stack,I.stkFree,I.hok,I.bare⟩
theorem Inv.after {Q:VK}(I:Inv X ag σ H s)(h:CE X.stack X.prog X.w H s Q u s'):EP X ag σ Q u s':=by
 obtain⟨v,H',os,bare,un,hok,r,q⟩:=h
 obtain⟨hh,g,d,t,os'⟩:=s'
 obtain rfl:os'=s.os:=os
 exact⟨v,H',I.call (h':=hh) (g':=g) (d':=d) (t':=t) (ch:=[]) un hok bare (fun b z=>absurd z (by simp)),r,q⟩
end
def J6 (sp:Sp)(dvs:List V)(E:XK)(t:TA):TE:=fun σ H Q=>t σ H fun vs H1=>sp (vs++dvs) H1 Q E
def Bx (C:Addr)(m:Str)(sp:Sp)(dvs:List V)(E:XK)(ta:TE)(t:TA):TE:=fun σ H Q=>ta σ H fun x H1=>∃a dx fs,x=.ref a∧H1 a=some (.ins C dx fs)∧fs.lookup m=none∧
 t σ H1 fun vs H2=>sp (x::(vs++dvs)) H2 Q E
def FY (C:Addr)(sp:Sp)(dvs:List V)(E:XK)(t:TA):TE:=fun σ H Q=>t σ H fun vs H1=>∀x dx,H1 x=none→H1 dx=none→dx≠x→
 sp (.ref x::(vs++dvs)) (ce (ce H1 dx (.own x)) x (.ins C dx [])) (fun v H2=>v=.non∧Q (.ref x) H2) E
def eG (K:W.Frag)(fd:FuncData)(ps:List Str)(ds:List Value):Prop:=
 ∀(s:Shared) (us:List Value),K.In s.heap→(us++ds).length=ps.length→BindsTo s fd ⟨us,[]⟩ (ps.zip (us++ds))
theorem eG.all (h:∀us:List Value,us.length=ps.length→bindArgs fd ⟨us,[]⟩=pure (ps.zip us)):eG K fd ps []:=fun s us _ hl=>by
 rw[List.append_nil] at hl ⊢
 exact .of_eq (h us hl)
def mF (CX:AU)(X:Cx)(E:XK):Prop:=∀(ag:List (Addr×Obj)) (σ:St) (H:Hp) (s:Shared) (e:Value) (s':Shared),Inv X ag σ H s→CX X.stack H s E e s'→X.xe e s'
variable{vs:List V}
section
variable {X:Cx}{CX:AU}{k:Nat}{f C:Addr}{fd:FuncData}{ps:List Str}{sp:Sp}{dvs:List V}{ds:List Value}{E:XK}{x m:Str}{p pos apos:Pos}{e o:Expr}{es:List Expr}{ta:TE}{t:TA}
theorem xI {Q:VK}(F:dE X.prog X.w X.K X.mg X.base CX k f fd ps sp)(hr:bv k X.A)(hb:eG X.K fd ps ds)(hd:aW dvs ds)(hx:mF CX X E)
  (I:Inv X ag σ H s) (r:aW vs us) (h:sp (vs++dvs) H Q E):wpAny (model X.prog X.w) X.A (call (.ref f) us) (EP X ag σ Q) X.xe s:=by
 have r2:aW (vs++dvs) (us++ds):=r.append hd
 have hl:(us++ds).length=ps.length:=by rw[←r2.length];exact F.len _ _ _ _ h
 refine wpAny_call (codeAny_mono (F.run X.A X.stack s H ⟨us,[]⟩ (us++ds) (vs++dvs) Q E hr I.env0 (hb s us I.kIn hl) r2 h) fun r s' hq=>?_)
 cases r with
 | error e=>exact hx ag σ H s e s' I hq
 | ok fl=>
  cases fl with
  | ret u=>exact I.after hq
  | next=>exact False.elim hq
  | brk=>exact False.elim hq
  | cont=>exact False.elim hq
theorem Eo (F:dE X.prog X.w X.K X.mg X.base CX k f fd ps sp)(hr:bv k X.A)(hg:Gl X x)(hm:X.mg x=some (.ref f))(hk:W.keepIn X.K (.ref f)=true)(hb:eG X.K fd ps ds)(hd:aW dvs ds)(hx:mF CX X E)
  (ha:PA X (e::es) t) (hdb:(x==("__debug__":Str))=false:=by decide) (he:starEach (e::es) X.env=(false,eval e X.env)::starEach es X.env:=by rfl) (hpl:(backTo pos (starEach es X.env)).any (·.1)=false:=by rfl) :
  PE X (.Call (.Name x p) (e::es) [] pos) (J6 sp dvs E t):=by
 intro ag s σ H Q I h
 refine wpAny_Call_Name_kw (uV I hg hm ?_ hdb)
 refine W.callWith_K (h₀:=X.base) I.ok.mod.kin hk (cy (ha pos ag s σ H _ I h) fun us s1 ⟨vs,H1,I1,r,q⟩=>⟨I1.kIn,?_⟩) he hpl
 exact xI F hr hb hd hx I1 r q
theorem DK {pl:Sem Bool}(he:PE X o ta)(c:C8 X.K C)(hm:uj X.K C m f)(F:dE X.prog X.w X.K X.mg X.base CX k f fd ps sp)(hr:bv k X.A)(hb:eG X.K fd ps ds)(hd:aW dvs ds)(hx:mF CX X E)(ha:PA X (e::es) t)
  (hst:starEach (e::es) X.env=(false,eval e X.env)::starEach es X.env:=by rfl) (hpl:(backTo pos (starEach es X.env)).any (·.1)=false:=by rfl)
  (ht:eval (.Call (.Attribute o m apos) (e::es) [] pos) X.env=(do
   let ov ←eval o X.env
   standAt apos.atName
   let (f,first) ←holding [ov] (getMethod ov m pl)
   callWith pos f first (backTo pos (starEach (e::es) X.env)) (backToKw pos (keywordEach [] X.env))):=by rfl) :
  PE X (.Call (.Attribute o m apos) (e::es) [] pos) (Bx C m sp dvs E ta t):=by
 intro ag s σ H Q I h
 refine W.methodCall_KW (pl:=pl) (cy (he ag s σ H _ I h) fun u s1 ⟨x,H1,I1,rx,a,dx,fs,ex,ea,l,q⟩=>?_) ht
 subst ex
 obtain rfl:u=Value.ref a:=rx
 refine qw I1 ea c hm l ?_
 refine W.callWith_K (first:=[.ref a]) (h₀:=X.base) I.ok.mod.kin hm.kp (cy (ha pos ag s1 σ H1 _ I1 q) fun us s2 ⟨vs,H2,I2,r,q2⟩=>⟨I2.kIn,?_⟩) hst hpl
 exact xI (us:=.ref a::us) (vs:=.ref a::vs) F hr hb hd hx I2 (.cons rfl r) q2
theorem Ca (he:PE X o ta)(c:C8 X.K C)(hm:uj X.K C m f)(F:dE X.prog X.w X.K X.mg X.base CX k f fd ps sp)(hr:bv k X.A)(hb:eG X.K fd ps ds)(hd:aW dvs ds)(hx:mF CX X E)
  (ht:eval (.Call (.Attribute o m apos) [] [] pos) X.env=(do
   let ov ←eval o X.env
   standAt apos.atName
   let (f,first) ←holding [ov] (getMethod ov m pl)
   callWith pos f first (backTo pos (starEach [] X.env)) (backToKw pos (keywordEach [] X.env))):=by rfl) :
  PE X (.Call (.Attribute o m apos) [] [] pos) (Bx C m sp dvs E ta Ip):=by
 intro ag s σ H Q I h
 refine W.methodCall_KW (pl:=pl) (cy (he ag s σ H _ I h) fun u s1 ⟨x,H1,I1,rx,a,dx,fs,ex,ea,l,q⟩=>?_) ht
 subst ex
 obtain rfl:u=Value.ref a:=rx
 refine qw I1 ea c hm l ?_
 exact W.callWith_K0 (first:=[.ref a]) I1.kIn hm.kp (xI (us:=[.ref a]) (vs:=[.ref a]) F hr hb hd hx I1 (.cons rfl .nil) q)
structure Mk (K:W.Frag)(C f:Addr):Prop where
 makes:W.makesIn K C=true
 init:W.findIn K (.ref C) "__init__"=some (some (.ref f))
 fn:W.isFn K (.ref f)=true
 kp:W.keepIn K (.ref C)=true
theorem A8 {Q:VK}(M:Mk X.K C f)(F:dE X.prog X.w X.K X.mg X.base CX k f fd ps sp)(hr:bv (k+1) X.A)(hb:eG X.K fd ps ds)(hd:aW dvs ds)
  (hx:mF CX X E) (I:Inv X ag σ H s) (r:aW vs us)
  (h:∀x dx,H x=none→H dx=none→dx≠x→sp (.ref x::(vs++dvs)) (ce (ce H dx (.own x)) x (.ins C dx [])) (fun v H2=>v=.non∧Q (.ref x) H2) E) :
  wpAny (model X.prog X.w) X.A (call (.ref C) us) (EP X ag σ Q) X.xe s:=by
 have hq:=h (s.heap.objs.size+1) s.heap.objs.size (I.hok.fresh (Nat.le_succ _)) (I.hok.fresh (Nat.le_refl _)) (Nat.ne_of_lt (Nat.lt_succ_self _))
 have I2:=Inv.made (C:=C) I
 have r2:aW (V.ref (s.heap.objs.size+1)::(vs++dvs)) (Value.ref (s.heap.objs.size+1)::(us++ds)):=.cons rfl (r.append hd)
 have hl:(Value.ref (s.heap.objs.size+1)::us++ds).length=ps.length:=by
  have e:=r2.length
  rw[F.len _ _ _ _ hq] at e
  exact e.symm
 refine wpAny_call (Cm (f:=f) I.kIn M.makes M.init (beq_iff_eq.mp M.fn) (codeAny_mono (F.run _ X.stack _ _ ⟨Value.ref (s.heap.objs.size+1)::us,[]⟩ (Value.ref (s.heap.objs.size+1)::(us++ds)) _ _ E (hr.make C us [])
  (I2.env0.make C us []) (hb _ (Value.ref (s.heap.objs.size+1)::us) I2.kIn hl) r2 hq) fun r s' hq'=>?_))
 cases r with
 | error e=>exact hx ag σ _ _ e s' I2 hq'
 | ok fl=>
  cases fl with
  | ret u=>
   obtain⟨v,H',I3,rv,ev,q3⟩:=I2.after hq'
   subst ev
   exact⟨rv,⟨V.ref (s.heap.objs.size+1),H',I3,rfl,q3⟩⟩
  | next=>exact False.elim hq'
  | brk=>exact False.elim hq'
  | cont=>exact False.elim hq'
theorem Fi (M:Mk X.K C f)(F:dE X.prog X.w X.K X.mg X.base CX k f fd ps sp)(hr:bv (k+1) X.A)(hg:Gl X x)(hm:X.mg x=some (.ref C))(hb:eG X.K fd ps ds)(hd:aW dvs ds)(hx:mF CX X E)
  (ha:PA X (e::es) t) (hdb:(x==("__debug__":Str))=false:=by decide) (he:starEach (e::es) X.env=(false,eval e X.env)::starEach es X.env:=by rfl) (hpl:(backTo pos (starEach es X.env)).any (·.1)=false:=by rfl) :
  PE X (.Call (.Name x p) (e::es) [] pos) (FY C sp dvs E t):=by
 intro ag s σ H Q I h
 refine wpAny_Call_Name_kw (uV I hg hm ?_ hdb)
 refine W.callWith_K (h₀:=X.base) I.ok.mod.kin M.kp (cy (ha pos ag s σ H _ I h) fun us s1 ⟨vs,H1,I1,r,q⟩=>⟨I1.kIn,?_⟩) he hpl
 exact A8 M F hr hb hd hx I1 r q
end
structure d9 (N P:List Str)(sc:Scope):Prop where
 kind:sc.kind=.function
 co:sc.isCoroutine=false
 gen:sc.isGenerator=false
 nd:N.Nodup
 pre:N.take P.length=P
 par:∀x∈P,sc.names.lookup x=some .local∨sc.names.lookup x=some .cell
 nofree:∀y∈sc.names,y.2≠.free
theorem sw {kindOf:Str→Option NameKind}{x:Str}:∀{binds:List (Str×Value)} {m:Str→Option Value},(∀v,(x,v)∉binds)→bindL kindOf binds m x=m x
 | [],_,_=>rfl
 | (n,v)::r,m,h=>by
  unfold bindL
  rw[sw fun w hw=>h w (List.mem_cons_of_mem _ hw)]
  split
  ·have:x≠n:=by rintro rfl;exact h v List.mem_cons_self
   simp[this]
  ·rfl
theorem sL {kindOf:Str→Option NameKind}{x:Str}:∀{binds:List (Str×Value)} {m:Str→Option Value},(∀v,(x,v)∉binds)→bindC kindOf binds m x=m x
 | [],_,_=>rfl
 | (n,v)::r,m,h=>by
  unfold bindC
  rw[sL fun w hw=>h w (List.mem_cons_of_mem _ hw)]
  split
  ·rfl
  ·have:x≠n:=by rintro rfl;exact h v List.mem_cons_self
   simp[this]
theorem tN {kindOf:Str→Option NameKind}{x:Str}{v:Value}:∀{P:List Str} {vs:List Value} {i:Nat} {m:Str→Option Value},P.Nodup→P[i]?=some x→vs[i]?=some v→kindOf x=some .local→
  bindL kindOf (P.zip vs) m x=some v
 | [],_,_,_,_,h,_,_=>by simp at h
 | _::_,[],_,_,_,_,h,_=>by simp at h
 | p::P,w::vs,0,m,nd,h1,h2,hk=>by
  simp at h1 h2;subst h1;subst h2
  show bindL kindOf ((p,w)::P.zip vs) m p=_
  unfold bindL
  rw[sw fun v hv=>(List.nodup_cons.mp nd).1 (List.of_mem_zip hv).1,if_pos hk]
  simp
 | p::P,w::vs,i+1,m,nd,h1,h2,hk=>by
  show bindL kindOf ((p,w)::P.zip vs) m x=_
  unfold bindL
  exact tN (i:=i) (List.nodup_cons.mp nd).2 (by simpa using h1) (by simpa using h2) hk
theorem sR {kindOf:Str→Option NameKind}{x:Str}{v:Value}:∀{P:List Str} {vs:List Value} {i:Nat} {m:Str→Option Value},P.Nodup→P[i]?=some x→vs[i]?=some v→kindOf x≠some .local→
  bindC kindOf (P.zip vs) m x=some v
 | [],_,_,_,_,h,_,_=>by simp at h
 | _::_,[],_,_,_,_,h,_=>by simp at h
 | p::P,w::vs,0,m,nd,h1,h2,hk=>by
  simp at h1 h2;subst h1;subst h2
  show bindC kindOf ((p,w)::P.zip vs) m p=_
  unfold bindC
  rw[sL fun v hv=>(List.nodup_cons.mp nd).1 (List.of_mem_zip hv).1,if_neg hk]
  simp
 | p::P,w::vs,i+1,m,nd,h1,h2,hk=>by
  show bindC kindOf ((p,w)::P.zip vs) m x=_
  unfold bindC
  exact sR (i:=i) (List.nodup_cons.mp nd).2 (by simpa using h1) (by simpa using h2) hk
def start (N:List Str)(vs:List V):St:=vs.map some++List.replicate (N.length-vs.length) none
def gX (CX:AU)(P:Program)(w:World)(K:W.Frag)(mg:Str→Option Value)(base:Heap)(N:List Str)(qual:Str)(scope:Scope)(f:Addr)(cd:Value)(A:Around)(outer:List Env)(s:Shared)(H:Hp)(E:XK):Cx where
 prog:=P
 w:=w
 K:=K
 mg:=mg
 base:=base
 A:=A.deeper (envOfC qual scope s.heap.objs.size f cd)
 N:=N
 s₀:=s
 H₀:=H
 env:=envOfC qual scope s.heap.objs.size f cd
 outer:=outer
 stack:=envOfC qual scope s.heap.objs.size f cd::outer
 ex:=[]
 calm:=true
 fn:=fun _=>true
 pn:=[]
 xe:=fun e s'=>wpAny (model P w) (A.deeper (envOfC qual scope s.heap.objs.size f cd)) (leaving (envOfC qual scope s.heap.objs.size f cd) e) (fun _ s''=>CX outer H s E e s'') (fun e' s''=>CX outer H s E e' s'') s'
theorem xa {sc:Scope}{n:Nat}(h:sc.names.lookup x=some .cell):∃c,(cellsFrom n sc.names []).lookup x=some c:=by
 have q:=W.cellsFrom_some sc.names n [] (.inl h)
 exact Option.isSome_iff_exists.mp q
variable{scope:Scope}
theorem tH {N:List Str}{qual:Str}{f:Addr}{cd:Value}{s1:Shared}{E:XK}
  (S:d9 N ps scope) (hd:A.handled=none) (e0:rX P w K mg base A outer s H) (hl:vs.length=ps.length) (r:aW vs us)
  (x:InCallC s s.heap.objs.size (bindL (envOfC qual scope s.heap.objs.size f cd).kindOf (ps.zip us) fun _=>none) (cellsFrom (s.heap.objs.size+1) scope.names []) (bindC (envOfC qual scope s.heap.objs.size f cd).kindOf (ps.zip us) fun _=>none) s1) :
  Inv (gX CX P w K mg base N qual scope f cd A outer s H E) [] (start N vs) H s1:=by
 have hpl:ps.length≤N.length:=by have:=congrArg List.length S.pre;rw[List.length_take] at this;omega
 obtain⟨h1,tk,rfl,hk⟩:=x.done
 have noA:∀b:Addr,b∉(gX CX P w K mg base N qual scope f cd A outer s H E).ex:=fun b z=>absurd (show b∈([]:List Addr) from z) (by simp)
 refine⟨⟨e0.mod,S.kind,rfl,rfl,Nat.le_refl _,fun y z c h1 h2=>?_,fun y hy=>?_,fun y c _ h=>?_,fun _=>hd,Around.frames_deeper e0.frames,.inr ⟨rfl,rfl⟩,fun b z=>absurd z (noA b),e0.bs,e0.bsz,fun b _ _=>noA b,fun b z=>absurd z (noA b),e0.funs,e0.frf⟩,
  rfl,e0.bare,Un.kept hk,⟨_,x.toInCall.ns,fun i y v h1 h2 h3=>?_⟩,fun y c h=>⟨_,x.cell y c h⟩,e0.hok.fresh (Nat.le_refl _),fun y c h=>?_,fun p hp=>absurd (show p∈([]:List (Addr×Obj)) from hp) (by simp),e0.hok.kept hk,?_⟩
 ·exact name_of_addr x.apart (PySem.mem_of_lookup h1) (PySem.mem_of_lookup h2)
 ·have hy:scope.names.lookup y=some .cell∨scope.names.lookup y=some .free:=hy
  rcases hy with hy|hy
  ·exact xa hy
  ·exact absurd rfl (S.nofree _ (PySem.mem_of_lookup hy))
 ·exact Nat.le_of_lt (x.above y c (PySem.mem_of_lookup h))
 ·have hi:i<vs.length:=by
   unfold start at h2
   by_cases hi:i<vs.length
   ·exact hi
   ·rw[List.getElem?_append_right (by simpa using hi)] at h2
    rw[List.getElem?_replicate] at h2
    split at h2 <;> cases h2
  have ha:vs[i]?=some v:=by
   unfold start at h2
   rw[List.getElem?_append_left (by simpa using hi),List.getElem?_map] at h2
   cases e:vs[i]? with
   | none=>rw[e] at h2;cases h2
   | some a=>rw[e] at h2;cases h2;rfl
  obtain⟨u,hu,rv⟩:=r.get ha
  have hp:ps[i]?=some y:=by
   rw[←S.pre,List.getElem?_take_of_lt (by omega)];exact h1
  have ndP:ps.Nodup:=by rw[←S.pre];exact S.nd.sublist (List.take_sublist _ _)
  refine⟨u,rv,?_⟩
  rcases S.par y (List.mem_of_getElem? hp) with k|k
  ·exact .inl ⟨k,tN ndP hp hu k⟩
  ·obtain⟨c,e⟩:=xa (n:=s.heap.objs.size+1) k
   refine .inr ⟨.inl k,c,e,?_⟩
   have q:=x.cell y c e
   rw[sR ndP hp hu (by show scope.names.lookup y≠_;rw[k];decide)] at q
   exact q
 ·exact e0.hok.fresh (Nat.le_of_lt (x.above y c (PySem.mem_of_lookup h)))
 ·unfold start
  show _=N.length
  rw[List.length_append,List.length_map,List.length_replicate]
  omega
theorem FX {f:Addr}{name qual:Str}{params:Arguments}{dV kV doc pm cdv ct oc:Value}{an od:Option Addr}
  {osl:Array (Option Value)} {N:List Str} {sp:Sp} (lk:K.lookup f=some ⟨oc,od,.func (W.fnOf name qual params body scope dV kV doc pm an cdv ct),osl⟩) (hcd:W.codeIn K cdv qual=true) (S:d9 N ps scope)
  (len:∀vs H Q E,sp vs H Q E→vs.length=ps.length)
  (hbody:∀(A:Around) (outer:List Env) (s:Shared) (H:Hp) (vs:List V) (Q:VK) (E:XK),bv k (A.deeper (envOfC qual scope s.heap.objs.size f cdv))→sp vs H Q E→
   ∃t,PSs (gX CX P w K mg base N qual scope f cdv A outer s H E) body t∧t {nx:=fun _ H'=>Q .non H',rt:=Q} (start N vs) H) :
  dE P w K mg base CX (k+1) f (W.fnOf name qual params body scope dV kV doc pm an cdv ct) ps sp:=by
 refine⟨len,fun A outer s H args us vs Q E hr e0 hb r hsp=>?_⟩
 have hl:=len _ _ _ _ hsp
 have KX:K.In s.heap:=e0.mod.kin.keeps fun b o e=>(e0.bs b o e).1
 have lim:s.heap.NoLimit:=e0.mod.nolimit.keeps fun b o e=>(e0.bs b o e).1
 have hkind:∀y∈ps.zip us,scope.names.lookup y.1=some .local∨(scope.names.lookup y.1=some .cell∧((cellsFrom (s.heap.objs.size+1) scope.names []).lookup y.1).isSome=true):=fun⟨n,v⟩ hy=>by
  rcases S.par n (List.of_mem_zip hy).1 with q|q
  ·exact .inl q
  ·exact .inr ⟨q,W.cellsFrom_some _ _ _ (.inl q)⟩
 refine codeAny_call_function hr.depth (KX _ _ lk) rfl S.co S.gen rfl (W.codeRec_of KX hcd) (hb _ _ _ _ ?_)
 refine wpAny_newFunctionEnv_cells S.kind hkind fun env he s1 x=>?_
 subst he
 refine⟨lim.keeps x.toInCall.keep,codeAny_func ?_⟩
 obtain⟨t,ht,hq⟩:=hbody A outer s H vs Q E (hr.deeper _) hsp
 have I:Inv (gX CX P w K mg base N qual scope f cdv A outer s H E) [] (start N vs) H s1:=tH S hr.hd e0 hl r x
 refine wpAny_mono (ht [] s1 (start N vs) H _ I hq) (fun fl s' hs=>?_) fun e s' hs=>hs
 have fin:∀{σ':St} {H':Hp} {v:V} {u:Value},Inv (gX CX P w K mg base N qual scope f cdv A outer s H E) [] σ' H' s'→bc v u→Q v H'→CE outer P w H s Q u s':=
  fun {σ' H' v u} J rv q=>⟨v,H',J.os,J.bare,J.base,J.hok,rv,q⟩
 cases fl with
 | ret u=>
  obtain⟨v,σ',H',J,rv,q⟩:=hs
  exact fin J rv q
 | next=>
  obtain⟨σ',H',J,q⟩:=hs
  exact fin (v:=V.non) (u:=Value.none) J rfl q
 | brk=>
  obtain⟨_,_,_,q⟩:=hs
  exact False.elim q
 | cont=>
  obtain⟨_,_,_,q⟩:=hs
  exact False.elim q
section
variable {X:Cx}{x:Str}{p pos:Pos}{e:Expr}{es:List Expr}{t:TA}{id T:String}{r:List V→Hp→VK→Prop}
def Ni (r:List V→Hp→VK→Prop)(t:TA):TE:=fun σ H Q=>t σ H fun vs H1=>r vs H1 Q
theorem vX (hc:dh X (.builtin id) r)(hg:Gl X x)(hm:X.mg x=none)(hv:bootBuiltins x=some (.builtin id))(ha:PA X (e::es) t)(hn:x≠"__name__":=by decide)(hdb:(x==("__debug__":Str))=false:=by decide)
  (he:starEach (e::es) X.env=(false,eval e X.env)::starEach es X.env:=by rfl) (hpl:(backTo pos (starEach es X.env)).any (·.1)=false:=by rfl):PE X (.Call (.Name x p) (e::es) [] pos) (Ni r t):=by
 intro ag s σ H Q I h
 refine wpAny_Call_Name_kw (nR I hg hm hv ?_ hn hdb)
 exact PyProof.Rows.callWith_builtin1 (cy (ha pos ag s σ H _ I h) fun us s1 ⟨vs,H1,I1,r1,q1⟩=>hc ag s1 σ H1 vs us Q I1 r1 q1) he hpl
theorem AD (hc:dh X (.type T) r)(hg:Gl X x)(hm:X.mg x=none)(hv:bootBuiltins x=some (.type T))(ha:PA X (e::es) t)(hn:x≠"__name__":=by decide)(hdb:(x==("__debug__":Str))=false:=by decide)
  (he:starEach (e::es) X.env=(false,eval e X.env)::starEach es X.env:=by rfl) (hpl:(backTo pos (starEach es X.env)).any (·.1)=false:=by rfl):PE X (.Call (.Name x p) (e::es) [] pos) (Ni r t):=by
 intro ag s σ H Q I h
 refine wpAny_Call_Name_kw (nR I hg hm hv ?_ hn hdb)
 exact PyProof.Rows.callWith_type1 (cy (ha pos ag s σ H _ I h) fun us s1 ⟨vs,H1,I1,r1,q1⟩=>hc ag s1 σ H1 vs us Q I1 r1 q1) he hpl
end
end L2
namespace HT
open PySem PyProof.Rows
def lexLt:List Int→List Int→Bool
 | [],[]=>false
 | [],_::_=>true
 | _::_,[]=>false
 | x::xs,y::ys=>if x=y then lexLt xs ys else decide (x<y)
theorem lexLt_cons (x y:Int)(xs ys:List Int):lexLt (x::xs) (y::ys)=if x=y then lexLt xs ys else decide (x<y):=rfl
theorem rJ:lexLt [] []=false:=rfl
theorem qM (y:Int)(ys:List Int):lexLt [] (y::ys)=true:=rfl
theorem qE (x:Int)(xs:List Int):lexLt (x::xs) []=false:=rfl
theorem BU (A:Around)(s:Shared)(a:Int)(t:Tok)(c:Int)(u:Tok):∃e,SeqAt.EqAt A s (.int a t) (.int c u) e∧(e=true↔a=c):=
 ⟨(a==c),SeqAt.EqAt.int_int a t c u,by simp⟩
theorem Cb (A:Around)(s:Shared)(a:Int)(t:Tok)(c:Int)(u:Tok)(prog:Program)(w:World)(E:Value→Shared→Prop)(Q:Value→Shared→Prop)(h:Q (.bool (decide (a<c))) s) :
  wpAny (model prog w) A (richCompare .Lt (.int a t) (.int c u)) Q E s:=
 (PyProof.Rows.lt_int h:wpAny (model prog w) A (compareOp .Lt (.int a t) (.int c u)) Q E s)
section
open PySem.SeqAt
open PySem.AutoSeq1 (wpAny_loadPart')
open PySem.MeetsSeq PySem.MeetsSeq2 PySem.MeetsSeq3
theorem rB (l b:Addr)(items items2:Array Value)(n n2:Nat)(dd dd2:Option Addr)(sl sl2:Array (Option Value))(ns ms:List Int)(hi:IntsAre items.toList ns)(hj:IntsAre items2.toList ms) :
  Meets (Builtin.«tuple.__lt__» ⟨[.ref l,.ref b],[]⟩)
   (fun _ R s=>s.heap.get? l=some {cls:=.type "tuple",dict:=dd,data:=.seq items n,slots:=sl}∧s.heap.get? b=some {cls:=.type "tuple",dict:=dd2,data:=.seq items2 n2,slots:=sl2}∧
    R (.ok (.ret (.bool (lexLt ns ms)))) s):=
 .of_wp fun prog w A R s h=>by
  obtain⟨hp,g,d,tk,os⟩:=s;obtain⟨hl,hb,h⟩:=h
  have f2:=AutoSeq1.sub_tuple_tuple
  have z1:items.size=ns.length:=by rw[←hi.length];simp
  have z2:items2.size=ms.length:=by rw[←hj.length];simp
  wp_walk using wpAny_loadPart' hl,wpAny_loadPart' hb,wpAny_forIn_list _ (fun rest b s'=>b.1=none∧s'=⟨hp,g,d,tk,os⟩∧∃(vs ws:List Value) (ns' ms':List Int),rest=vs.zip ws∧
   IntsAre vs ns'∧IntsAre ws ms'∧ns'.length+items2.size=ms'.length+items.size∧R (.ok (.ret (.bool (lexLt ns' ms')))) ⟨hp,g,d,tk,os⟩) _
  case turn=>
   rintro ⟨y,x⟩ rest b s' ⟨hb',rfl,vs,ws,ns',ms',hz,hvi,hwi,hlen,hR⟩
   cases hvi with
   | nil=>rw[List.zip_nil_left] at hz;cases hz
   | cons a t hvi'=>
    cases hwi with
    | nil=>rw[List.zip_nil_right] at hz;cases hz
    | cons c u hwi'=>
     rw[List.zip_cons_cons] at hz
     injection hz with hyx hrest
     injection hyx with hy hx
     subst hy hx
     rw[lexLt_cons] at hR
     simp only[List.length_cons] at hlen
     obtain⟨e,he,hiff⟩:=BU A.in1 ⟨hp,g,d,tk,os⟩ a t c u
     refine wpAny_bind (he prog w _ _ ?_)
     cases e with
     | true=>
      rw[if_pos (hiff.mp rfl)] at hR
      wp_walk
      exact⟨rfl,rfl,_,_,_,_,hrest,hvi',hwi',by omega,hR⟩
     | false=>
      rw[if_neg (fun q=>absurd (hiff.mpr q) Bool.false_ne_true)] at hR
      have hri:=Cb A.in1 ⟨hp,g,d,tk,os⟩ a t c u prog w
      wp_walk using hri
      exact⟨_,rfl,by simpa using hR⟩
  case fin=>
   rintro ⟨b1,b2⟩ s' ⟨hb',rfl,vs,ws,ns',ms',hz,hvi,hwi,hlen,hR⟩
   simp only at hb'
   subst hb'
   have hv:lexLt ns' ms'=decide (items.size<items2.size):=by
    cases hvi with
    | nil=>
     cases hwi with
     | nil=>
      simp only[List.length_nil] at hlen
      rw[rJ]
      exact(decide_eq_false (by omega)).symm
     | cons c u hw=>
      simp only[List.length_nil,List.length_cons] at hlen
      rw[qM]
      exact(decide_eq_true (by omega)).symm
    | cons a t hv=>
     cases hwi with
     | nil=>
      simp only[List.length_nil,List.length_cons] at hlen
      rw[qE]
      exact(decide_eq_false (by omega)).symm
     | cons c u hw=>
      rw[List.zip_cons_cons] at hz
      cases hz
   rw[hv] at hR
   wp_walk
   exact⟨_,rfl,by simpa[Builtin.Tuple.tupleCompareSizes] using hR⟩
  case h=>
   exact⟨rfl,rfl,items.toList,items2.toList,ns,ms,rfl,hi,hj,by omega,h⟩
end
variable{Q:Value→Shared→Prop}
section
variable {prog:Program}{w:World}{A:Around}{E:Value→Shared→Prop}{s:Shared}
theorem lt_tupInts {l b:Addr}{items items2:Array Value}{ns ms:List Int}(hl:IsTup s.heap l items)(hb:IsTup s.heap b items2)(hi:IntsAre items.toList ns)(hj:IntsAre items2.toList ms)
  (hu:A.units<cLine) (h:Q (.bool (lexLt ns ms)) s):wpAny (model prog w) A (compareOp .Lt (.ref l) (.ref b)) Q E s:=by
 obtain⟨⟨cls,dd,data,sl⟩,ho,hc,n,hd⟩:=id hl
 obtain⟨⟨cls2,dd2,data2,sl2⟩,ho2,hc2,n2,hd2⟩:=id hb
 simp only at hc hd hc2 hd2
 subst hc hd hc2 hd2
 exact richCompare_meets_room (op:=.Lt) ⟨_,ho,rfl⟩ ⟨_,ho2,rfl⟩ PySem.F.slot_tuple_lt PySem.F.entry_tuple_lt (PySem.F.args_tuple_lt_2 _ _) (rB l b items items2 n n2 dd dd2 sl sl2 ns ms hi hj)
  ⟨ho,ho2,show Value.bool (lexLt ns ms)≠Value.notImplemented∧Q (.bool (lexLt ns ms)) s from⟨(fun x=>nomatch x),h⟩⟩ hu
theorem cat_tup {t b:Addr}{vs ws:List Value}(ht:IsTup s.heap t vs.toArray)(hb:IsTup s.heap b ws.toArray)(hv:vs≠[])
  (h1:ws=[]→Q (.ref t) s) (h2:ws≠[]→Q (.ref s.heap.objs.size) {s with heap:=s.heap.push {cls:=.type "tuple",data:=.seq (vs++ws).toArray}})
  (hsz:vs.length+ws.length≤sizeLine):wpAny (model prog w) A (binaryOp .Add (.ref t) (.ref b)) Q E s:=by
 obtain⟨⟨cls,dd,data,sl⟩,ho,hc,n,hd⟩:=id ht
 obtain⟨⟨cls2,dd2,data2,sl2⟩,ho2,hc2,n2,hd2⟩:=id hb
 simp only at hc hd hc2 hd2
 subst hc hd hc2 hd2
 have e:vs.toArray++ws.toArray=(vs++ws).toArray:=by simp
 by_cases hw:ws=[]
 ·exact concat_meets ⟨_,ho,rfl⟩ ⟨_,ho2,rfl⟩ noFill_tuple_add seq_tuple_add PySem.F.slot_tuple_add PySem.F.entry_tuple_add (PySem.F.args_tuple_add_2 _ _)
   (tuple_addW1 t b vs.toArray ws.toArray n n2 dd dd2 sl sl2 (by simpa using hv) (by simp[hw])) ⟨ho,ho2,h1 hw⟩
 ·refine concat_meets ⟨_,ho,rfl⟩ ⟨_,ho2,rfl⟩ noFill_tuple_add seq_tuple_add PySem.F.slot_tuple_add PySem.F.entry_tuple_add (PySem.F.args_tuple_add_2 _ _)
   (tuple_addW2 t b vs.toArray ws.toArray n n2 dd dd2 sl sl2 (by simpa using hv) (by simpa using hw) (by rw[List.size_toArray,List.size_toArray];exact hsz)) ⟨ho,ho2,?_⟩
  rw[e]
  exact h2 hw
def sIx (n d:Nat):Option Int→Nat
 | none=>d
 | some v=>if v<0 then(v+(n:Int)).toNat else min v.toNat n
theorem sIx_none (n d:Nat):sIx n d none=d:=rfl
theorem sIx_nat (n d k:Nat):sIx n d (some (k:Int))=min k n:=by
 show(if(k:Int)<0 then((k:Int)+(n:Int)).toNat else min (k:Int).toNat n)=min k n
 rw[if_neg (by omega),Int.toNat_natCast]
theorem GL (n d:Nat)(hd:d≤n)(o:Option Int):sIx n d o≤n:=by
 cases o with
 | none=>exact hd
 | some v=>
  show(if v<0 then(v+(n:Int)).toNat else min v.toNat n)≤n
  by_cases hv:v<0
  ·rw[if_pos hv];omega
  ·rw[if_neg hv];exact Nat.min_le_right _ _
theorem zy (v:Int)(n d:Nat):(if v<0 then max (v+(n:Int)) 0 else min v (n:Int))=((sIx n d (some v):Nat):Int):=by
 show(if v<0 then max (v+(n:Int)) 0 else min v (n:Int))=(((if v<0 then(v+(n:Int)).toNat else min v.toNat n):Nat):Int)
 by_cases hv:v<0
 ·simp only[if_pos hv];omega
 ·simp only[if_neg hv];omega
theorem yg (lo hi:Option Int)(n:Nat):Builtin.Slice.sliceAdjust lo hi 1 (n:Int)=(((sIx n 0 lo:Nat):Int),((sIx n n hi:Nat):Int)):=by
 have h1:¬((1:Int)<0):=by omega
 unfold Builtin.Slice.sliceAdjust
 simp only[h1,if_false]
 refine Prod.ext ?_ ?_
 ·cases lo with
  | none=>rfl
  | some v=>exact zy v n 0
 ·cases hi with
  | none=>rfl
  | some v=>exact zy v n n
theorem xE (i j:Nat):Builtin.Slice.slicePlaces (i:Int) (j:Int) 1=j-i:=by
 unfold Builtin.Slice.slicePlaces
 have h1:(1:Int)>0:=by omega
 simp only[h1,if_true,Int.ediv_one]
 split <;> omega
theorem rp {v:Value}{o:Option Int}{Q:Option Int→Shared→Prop}(p:IsPart v o)(h:Q o s):wpAny (model prog w) A (Builtin.Slice.slicePartIndex v) Q E s:=by
 cases p with
 | none=>exact slicePart_none h
 | int i t=>exact slicePart_int h
theorem sliceApplied_gen {sl:Addr}{vl vu:Value}{lo hi:Option Int}{n:Nat}{Q:Int×Int×Nat→Shared→Prop}(hs:s.heap.IsSliceOf sl vl vu .none)(pl:IsPart vl lo)(pu:IsPart vu hi)
  (h:Q (((sIx n 0 lo:Nat):Int),1,sIx n n hi-sIx n 0 lo) s):wpAny (model prog w) A (Builtin.Slice.sliceApplied (.ref sl) (pure (n:Int))) Q E s:=by
 obtain⟨os,hos,hcs,hds⟩:=id hs
 unfold Builtin.Slice.sliceApplied Builtin.Slice.sliceFields
 refine wpAny_bind (wpAny_bind (wpAny_field hos hds (x:=vl) rfl (wpAny_bind (wpAny_field hos hds (x:=vu) rfl (wpAny_bind (wpAny_field hos hds (x:=.none) rfl (wpAny_pure ?_)))))))
 refine wpAny_bind (slicePart_none ?_)
 show wpAny _ _ (if((1:Int)==0)=true then _ else _) _ _ s
 rw[if_neg (by decide)]
 refine wpAny_bind (rp pl (wpAny_bind (rp pu (wpAny_bind (wpAny_pure ?_)))))
 show wpAny _ _ (match Builtin.Slice.sliceAdjust lo hi 1 (n:Int) with|(lo,hi)=>pure (lo,(1:Int),Builtin.Slice.slicePlaces lo hi 1)) _ _ s
 rw[yg lo hi n]
 show wpAny _ _ (pure (((sIx n 0 lo:Nat):Int),(1:Int),Builtin.Slice.slicePlaces ((sIx n 0 lo:Nat):Int) ((sIx n n hi:Nat):Int) 1)) _ _ s
 rw[xE]
 exact wpAny_pure h
theorem By (xs:Array Value)(i k:Nat):((List.range k).filterMap fun(m:Nat)=>xs[((i:Int)+(m:Int)*1).toNat]?).toArray=((xs.toList.drop i).take k).toArray:=by
 have e:(fun(m:Nat)=>xs[((i:Int)+(m:Int)*1).toNat]?)=fun m=>xs[i+m]?:=by
  funext m
  have:((i:Int)+(m:Int)*1).toNat=i+m:=by omega
  rw[this]
 rw[e]
 have:=pick_run xs i k
 rw[List.filterMap_map] at this
 have e2:((fun x=>xs[x]?) ∘ fun x=>i+x)=fun m=>xs[i+m]?:=rfl
 rw[e2] at this
 rw[this]
theorem getItem_tuple_cut {t sl:Addr}{items:Array Value}{vl vu:Value}{lo hi:Option Int}(ht:IsTup s.heap t items)(hs:s.heap.IsSliceOf sl vl vu .none)(pl:IsPart vl lo)(pu:IsPart vu hi)
  (hw:¬(sIx items.size 0 lo=0∧sIx items.size items.size hi=items.size))
  (h:Q (.ref s.heap.objs.size) {s with heap:=s.heap.push {cls:=.type "tuple",data:=.seq ((items.toList.drop (sIx items.size 0 lo)).take (sIx items.size items.size hi-sIx items.size 0 lo)).toArray}})
  (hsz:items.size≤sizeLine):wpAny (model prog w) A (getItem (.ref t) (.ref sl)) Q E s:=by
 have htake:sizeOk (.seq ((items.toList.drop (sIx items.size 0 lo)).take (sIx items.size items.size hi-sIx items.size 0 lo)).toArray):=by
  show((items.toList.drop (sIx items.size 0 lo)).take (sIx items.size items.size hi-sIx items.size 0 lo)).toArray.size≤sizeLine
  rw[List.size_toArray,List.length_take,List.length_drop,Array.length_toList]
  omega
 have hj:sIx items.size items.size hi≤items.size:=GL _ _ (Nat.le_refl _) hi
 obtain⟨os,hos,hcs,hds⟩:=id hs
 have hTs:s.TypeIs (.ref sl) "slice":=⟨os,hos,hcs⟩
 unfold getItem
 try with_reducible refine wpAny_holding ?_
 first|refine wpAny_bind (wpAny_pure ?_)|skip
 refine wpAny_bind (wpAny_sequenceKey ht.typeIs (by decide) ?_)
 refine wpAny_bind (wpAny_callSpecial?_slot (name:=Str.ofString "__getitem__") ht.typeIs PyProof.Rows.slot_tuple_getitem
  (wpAny_call_entry PyProof.Rows.slot_tuple_getitem ht.typeIs entry_tuple_getitem ?_ (args_tuple_getitem _ _)))
 show wpAny _ _ (Builtin.Tuple.tupleItemsOf (.ref t) >>= _) _ _ s
 refine wpAny_bind (tupleItemsOf_ ht ?_)
 refine wpAny_bind (wpAny_typeOf hTs ?_)
 rw[if_pos (by decide)]
 refine wpAny_bind (sliceApplied_gen hs pl pu ?_)
 have hno:¬((((sIx items.size 0 lo:Nat):Int)==0&&(1:Int)==1&&(sIx items.size items.size hi-sIx items.size 0 lo)==items.size)=true):=by
  intro q
  rw[Bool.and_eq_true,Bool.and_eq_true] at q
  have q1:((sIx items.size 0 lo:Nat):Int)=0:=eq_of_beq q.1.1
  have q2:sIx items.size items.size hi-sIx items.size 0 lo=items.size:=eq_of_beq q.2
  exact hw ⟨by omega,by omega⟩
 show wpAny _ _ (if(((sIx items.size 0 lo:Nat):Int)==0&&(1:Int)==1&&(sIx items.size items.size hi-sIx items.size 0 lo)==items.size)=true then _ else _) _ _ s
 rw[if_neg hno,By]
 first
  | exact wpAny_bind (m:=Builtin.Tuple.tupleExact _) (wpAny_newObj_type (wpAny_pure ⟨_,rfl,wpAny_pure h⟩) htake)
  | exact wpAny_bind (m:=Builtin.Tuple.tupleExact _) (wpAny_newObj_type (wpAny_bind (wpAny_pure (wpAny_pure ⟨_,rfl,wpAny_pure h⟩))) htake)
  | exact wpAny_bind (wpAny_bind (m:=Builtin.Tuple.tupleExact _) (wpAny_newObj_type (wpAny_pure (wpAny_pure ⟨_,rfl,wpAny_pure h⟩)) htake))
  | exact wpAny_bind (wpAny_bind (m:=Builtin.Tuple.tupleExact _) (wpAny_newObj_type (wpAny_pure ⟨_,rfl,wpAny_pure h⟩) htake))
end
end HT
namespace L2
open PySem PySem.Spec PyProof.Rows
abbrev TO:=St→Hp→(Option Int→Hp→Prop)→Prop
def PO (X:Cx)(e:Option Expr)(t:TO):Prop:=
 ∀(ag:List (Addr×Obj)) (s:Shared) (σ:St) (H:Hp) (Q:Option Int→Hp→Prop),Inv X ag σ H s→t σ H Q→
  wpAny (model X.prog X.w) X.A (evalPart e X.env) (fun u s'=>∃o H',Inv X ag σ H' s'∧IsPart u o∧Q o H') X.xe s
def FK:TO:=fun _ H Q=>Q none H
def Ln (t:TE):TO:=fun σ H Q=>t σ H fun x H1=>∃i,x=.int i∧Q (some i) H1
theorem mz {ns:List Int}:∀{us:List Value},aW (ns.map V.int) us→IntsAre us ns:=by
 induction ns with
 | nil=>intro us r;rw[List.map_nil] at r;cases r;exact .nil
 | cons n ns ih=>
  intro us r
  rw[List.map_cons] at r
  cases r with
  | cons r1 r2=>
   obtain⟨t,e⟩:=r1
   subst e
   exact .cons n t (ih r2)
variable{xs:List V}{us:List Value}
section
variable {X:Cx}{e:Expr}{te:TE}{lo hi:Option Expr}{tl th:TO}{pos p2:Pos}
theorem Fg:PO X none FK:=by
 intro ag s σ H Q I h
 rw[evalPart_none]
 exact wpAny_pure ⟨none,H,I,.none,h⟩
theorem Fo (h:PE X e te):PO X (some e) (Ln te):=by
 intro ag s σ H Q I hw
 rw[evalPart_some]
 refine cy (h ag s σ H _ I hw) fun u s1 ⟨x,H1,I1,r1,q1⟩=>?_
 obtain⟨i,rfl,q⟩:=q1
 obtain⟨t,rfl⟩:=r1
 exact⟨some i,H1,I1,.int i t,q⟩
def Mm (X:Cx)(r:V→Option Int→Option Int→Hp→VK→Prop):Prop:=
 ∀(ag:List (Addr×Obj)) (s:Shared) (σ:St) (H:Hp) (x:V) (v vl vu:Value) (lo hi:Option Int) (sl:Addr) (Q:VK),Inv X ag σ H s→bc x v→s.heap.IsSliceOf sl vl vu .none→IsPart vl lo→IsPart vu hi→r x lo hi H Q→
  ∃T id,typeLookup (.type T) "__getitem__"=pure (some (.builtin id))∧s.TypeIs v T∧wpAny (model X.prog X.w) X.A (getItem v (.ref sl)) (EP X ag σ Q) X.xe s
def Oh (r:V→Option Int→Option Int→Hp→VK→Prop)(te:TE)(tl th:TO):TE:=fun σ H Q=>te σ H fun x H1=>tl σ H1 fun l H2=>th σ H2 fun u H3=>r x l u H3 Q
theorem DA {r:V→Option Int→Option Int→Hp→VK→Prop}(hr:Mm X r)(he:PE X e te)(hl:PO X lo tl)(hu:PO X hi th):PE X (.Subscript e (.Slice lo hi none p2) pos) (Oh r te tl th):=by
 intro ag s σ H Q I h
 refine Subscript_ (cy (he ag s σ H _ I h) fun v s1 ⟨x,H1,I1,r1,q1⟩=>?_)
 refine wpAny_Slice (cy (hl ag s1 σ H1 _ I1 q1) fun vl s2 ⟨l,H2,I2,pl,q2⟩=>cy (hu ag s2 σ H2 _ I2 q2) fun vu s3 ⟨u,H3,I3,pu,q3⟩=>?_)
 rw[evalPart_none]
 refine wpAny_pure ?_
 have I4:Inv X ag σ H3 {s3 with heap:=s3.heap.push {cls:=.type "slice",data:=.fields #[vl,vu,.none]}}:=I3.kept (t':=s3.toks) fun b ob q=>Heap.get?_push_of_some _ q
 obtain⟨T,id,hT,ht,hg⟩:=hr ag {s3 with heap:=s3.heap.push {cls:=.type "slice",data:=.fields #[vl,vu,.none]}} σ H3 x v vl vu l u s3.heap.objs.size Q I4 r1 (Heap.IsSliceOf.new ..) pl pu q3
 show wpAny (model X.prog X.w) X.A (subscriptTail e (.Slice lo hi none p2) v (.ref s3.heap.objs.size)) (EP X ag σ Q) X.xe {s3 with heap:=s3.heap.push {cls:=.type "slice",data:=.fields #[vl,vu,.none]}}
 exact tail_any (ops:=[.ref s3.heap.objs.size,v]) ht hT hg (by with_unfolding_all rfl)
def wv (xs:List V)(lo hi:Option Int):List V:=(xs.drop (HT.sIx xs.length 0 lo)).take (HT.sIx xs.length xs.length hi-HT.sIx xs.length 0 lo)
theorem oU (xs:List V)(lo hi:Option Int):(wv xs lo hi).length≤xs.length:=by
 unfold wv
 rw[List.length_take,List.length_drop]
 omega
def MV (K:W.Frag):V→Option Int→Option Int→Hp→VK→Prop:=fun x lo hi H Q=>∃a xs,x=.ref a∧ph K H a xs∧
 ¬(HT.sIx xs.length 0 lo=0∧HT.sIx xs.length xs.length hi=xs.length)∧∀p,H p=none→Q (.ref p) (ce H p (.tup (wv xs lo hi)))
theorem Iq:Mm X (MV X.K):=by
 intro ag s σ H x v vl vu lo hi sl Q I rx hs pl pu h
 obtain⟨a,xs,rfl,hx,hw,q⟩:=h
 cases rx
 obtain⟨its,r,ht,hz⟩:=I.tuple hx
 have hlen:its.toArray.size=xs.length:=by rw[List.size_toArray];exact r.length.symm
 refine⟨"tuple",_,PyProof.Rows.slot_tuple_getitem.lookup,ht.typeIs,?_⟩
 refine HT.getItem_tuple_cut ht hs pl pu (by rw[hlen];exact hw) ?_ (by rw[hlen];exact hz)
 rw[hlen]
 refine⟨.ref s.heap.objs.size,_,I.laid (t':=s.toks) (o:=.tup (wv xs lo hi)) (fun b ob q=>Heap.get?_push_of_some _ q) (Nat.le_refl _) ?_,rfl,q _ (I.hok.fresh (Nat.le_refl _))⟩
 exact⟨Nat.le_trans (oU xs lo hi) hz,_,(r.drop (HT.sIx xs.length 0 lo)).take (HT.sIx xs.length xs.length hi-HT.sIx xs.length 0 lo),IsTup.new _ _⟩
def JW (K:W.Frag):R2:=fun x y H Q=>∃a b xs ys,x=.ref a∧y=.ref b∧ph K H a xs∧ph K H b ys∧xs≠[]∧xs.length+ys.length≤sizeLine∧
 (ys=[]→Q (.ref a) H)∧(ys≠[]→∀p,H p=none→Q (.ref p) (ce H p (.tup (xs++ys))))
theorem aW.nil_iff (r:aW xs us):us=[]↔xs=[]:=by
 cases r with
 | nil=>simp
 | cons _ _=>simp
theorem E3:iK X (binaryOp .Add) (JW X.K):=by
 intro ag s σ H x y v u Q I rx ry h
 obtain⟨a,b,xs,ys,rfl,rfl,ha,hb,hx,hz,q1,q2⟩:=h
 cases rx
 cases ry
 obtain⟨its,r1,p1,_⟩:=I.tuple ha
 obtain⟨its2,r2,p2,_⟩:=I.tuple hb
 refine HT.cat_tup p1 p2 (fun z=>hx (r1.nil_iff.mp z)) (fun z=>⟨.ref a,H,I,rfl,q1 (r2.nil_iff.mp z)⟩) (fun z=>?_) (by rw[←r1.length,←r2.length];exact hz)
 refine⟨.ref s.heap.objs.size,_,I.laid (t':=s.toks) (o:=.tup (xs++ys)) (fun b ob q=>Heap.get?_push_of_some _ q) (Nat.le_refl _) ?_,rfl,q2 (fun w=>z (r2.nil_iff.mpr w)) _ (I.hok.fresh (Nat.le_refl _))⟩
 exact⟨by rw[List.length_append];exact hz,_,r1.append r2,IsTup.new _ _⟩
end
def DG (n:Nat)(i:Int):Option Nat:=if 0≤i then(if i<n then some i.toNat else none) else if -(n:Int)≤i then some (i+n).toNat else none
def iZ {α:Type}(xs:List α)(i:Int):Option α:=(DG xs.length i).bind fun j=>xs[j]?
theorem zE {n:Nat}{i:Int}{j:Nat}(h:DG n i=some j):seqIndex? i n=some j∧j<n∧-(n:Int)≤i∧i<n:=by
 unfold DG at h
 by_cases h0:0≤i
 ·rw[if_pos h0] at h
  by_cases h1:i<n
  ·rw[if_pos h1] at h
   have e:i.toNat=j:=Option.some.inj h
   exact⟨by rw[seqIndex_of h0 h1,e],by omega,by omega,h1⟩
  ·rw[if_neg h1] at h;cases h
 ·rw[if_neg h0] at h
  by_cases h1:-(n:Int)≤i
  ·rw[if_pos h1] at h
   have e:(i+n).toNat=j:=Option.some.inj h
   exact⟨by rw[seqIndex_neg (by omega) h1,e],by omega,h1,by omega⟩
  ·rw[if_neg h1] at h;cases h
theorem yU {α:Type}{xs:List α}{i:Int}{v:α}(h:iZ xs i=some v):∃j,seqIndex? i xs.length=some j∧xs[j]?=some v∧j<xs.length∧-(xs.length:Int)≤i∧i<xs.length:=by
 unfold iZ at h
 cases e:DG xs.length i with
 | none=>rw[e] at h;cases h
 | some j=>
  rw[e] at h
  obtain⟨h1,h2,h3,h4⟩:=zE e
  exact⟨j,h1,h,h2,h3,h4⟩
theorem dL {α:Type}{xs:List α}{j:Nat}{v:α}(h:xs[j]?=some v):iZ xs (j:Int)=some v:=by
 have hj:j<xs.length:=(List.getElem?_eq_some_iff.mp h).1
 have e:DG xs.length (j:Int)=some j:=by
  unfold DG
  rw[if_pos (by omega),if_pos (by omega)];simp
 unfold iZ;rw[e];exact h
def uu (b:Expr):Prop:=∀o i,subscripted b false o i=operate [o,i] (getItem o i)
def Mi (X:Cx)(r:R2):Prop:=
 ∀(value slice:Expr) (ag:List (Addr×Obj)) (s:Shared) (σ:St) (H:Hp) (x y:V) (v u:Value) (Q:VK),Inv X ag σ H s→bc x v→bc y u→r x y H Q→
  subscripted slice false v u=operate [v,u] (getItem v u)→wpAny (model X.prog X.w) X.A (subscriptTail value slice v u) (EP X ag σ Q) X.xe s
def Og (X:Cx)(id:String)(r:V→List V→Hp→VK→Prop):Prop:=
 ∀(ag:List (Addr×Obj)) (s:Shared) (σ:St) (H:Hp) (x:V) (xs:List V) (v:Value) (us:List Value) (Q:VK),Inv X ag σ H s→bc x v→aW xs us→r x xs H Q→
  wpAny (model X.prog X.w) X.A (call (.builtin id) (v::us)) (EP X ag σ Q) X.xe s
variable{ag:List (Addr×Obj)}{σ:St}{H:Hp}{s:Shared}
section
variable {X:Cx}{a b:Expr}{ta tb:TE}{pos:Pos}
theorem Kr {r:R2}(hr:Mi X r)(ha:PE X a ta)(hb:PE X b tb)(hs:uu b):PE X (.Subscript a b pos) (J3 r ta tb):=by
 intro ag s σ H Q I h
 exact Subscript_ (HD ha hb I h fun v u s2 x y H2 I2 rx ry q=>hr a b ag s2 σ H2 x y v u Q I2 rx ry q (hs _ _))
def NQ (K:W.Frag):R2:=fun x y H Q=>∃p xs i v,x=.ref p∧y=.int i∧mV K H p xs∧iZ xs i=some v∧Q v H
def ND (K:W.Frag):R2:=fun x y H Q=>∃p xs i v,x=.ref p∧y=.int i∧ph K H p xs∧iZ xs i=some v∧Q v H
theorem Fs:Mi X (NQ X.K):=by
 intro value slice ag s σ H x y v u Q I rx ry h hs
 obtain⟨p,xs,i,z,rfl,rfl,hq,he,q⟩:=h
 cases rx
 obtain⟨t,rfl⟩:=ry
 obtain⟨its,r,pl,hz⟩:=I.list hq
 obtain⟨j,h1,h2,h3,h4,h5⟩:=yU he
 obtain⟨w,ew,rw'⟩:=r.get h2
 have hl:=r.length
 have hn:=oK
 have fin:EP X ag σ Q w s:=⟨z,H,I,rw',q⟩
 by_cases h0:0≤i
 ·have hj:i.toNat=j:=by
   rw[seqIndex_of h0 h5] at h1
   exact Option.some.inj h1
  exact item_listR pl.isList h0 (by omega) (by rw[hj];simpa using ew) fin hs
 ·have hj:(i+(its.toArray.size:Int)).toNat=j:=by
   rw[seqIndex_neg (by omega) h4] at h1
   rw[List.size_toArray,←hl]
   exact Option.some.inj h1
  exact subscriptTail_builtinR (x:=w) pl.isList.typeIs slot_list_getitem.lookup
   (wpAny_getItem_list_neg (Q:=fun r s'=>r=w∧EP X ag σ Q r s') pl.isList (by omega) (by rw[List.size_toArray] <;> omega) (by omega) (by rw[hj];simpa using ew) ⟨rfl,fin⟩) hs
theorem IH:Mi X (ND X.K):=by
 intro value slice ag s σ H x y v u Q I rx ry h hs
 obtain⟨p,xs,i,z,rfl,rfl,hq,he,q⟩:=h
 cases rx
 obtain⟨t,rfl⟩:=ry
 obtain⟨its,r,pl,hz⟩:=I.tuple hq
 obtain⟨j,h1,h2,h3,h4,h5⟩:=yU he
 obtain⟨w,ew,rw'⟩:=r.get h2
 have hl:=r.length
 have hn:=oK
 have fin:EP X ag σ Q w s:=⟨z,H,I,rw',q⟩
 exact subscriptTail_builtinR (x:=w) pl.typeIs slot_tuple_getitem.lookup
  (getItem_tuple (j:=j) (Q:=fun r s'=>r=w∧EP X ag σ Q r s') pl (by omega) (by omega) (by rw[List.size_toArray,←hl];exact h1) (by simpa using ew) ⟨rfl,fin⟩) hs
theorem xw (its:List Value)(n j:Nat)(u:Value):Obj.mapSeq (·.setIfInBounds j u) {cls:=.type "list",data:=.seq its.toArray n}={cls:=.type "list",data:=.seq (its.set j u).toArray n}:=by
 simp[Obj.mapSeq]
theorem Inv.lst {p:Addr}(I:Inv X ag σ H s)(h:H p=some (.lst xs)) :
  ∃(its:List Value) (n:Nat),aW xs its∧s.heap.get? p=some {cls:=.type "list",data:=.seq its.toArray n}∧xs.length≤sizeLine:=by
 obtain⟨z,its,n,r,e⟩:=I.hok p _ h
 exact⟨its,n,r,e,z⟩
theorem Inv.lstUpd {p:Addr}{ys:List V}{its its':List Value}{n n':Nat}{f:Obj→Obj}(I:Inv X ag σ H s)(h:H p=some (.lst xs))
  (ho:s.heap.get? p=some {cls:=.type "list",data:=.seq its.toArray n}) (hf:f {cls:=.type "list",data:=.seq its.toArray n}={cls:=.type "list",data:=.seq its'.toArray n'}) (r:aW ys its') (hz:ys.length≤sizeLine) (t:Nat) :
  Inv X ag σ (ce H p (.lst ys)) {s with heap:=s.heap.update p f,toks:=t}:=by
 have e:(s.heap.update p f).get? p=some {cls:=.type "list",data:=.seq its'.toArray n'}:=by
  rw[Heap.get?_update_self f ho (by rw[hf] <;> rfl),hf]
 refine I.write (x:=p) (e:=p) (by rw[h];trivial) (.inl rfl) (fun b u hb q=>(Heap.get?_update_other _ _ (Ne.symm hb)).trans q) ⟨_,e⟩ ?_
 exact⟨hz,its',n',r,e⟩
def Kj:V→V→V→Hp→(Hp→Prop)→Prop:=fun o i v H Q=>∃p xs k j,o=.ref p∧i=.int k∧H p=some (.lst xs)∧DG xs.length k=some j∧Q (ce H p (.lst (xs.set j v)))
theorem CA:Lj X Kj:=by
 intro ag s σ H o i v ov iv u Q I ro ri rv h
 obtain⟨p,xs,k,j,rfl,rfl,hp,hj,q⟩:=h
 cases ro
 obtain⟨t,rfl⟩:=ri
 obtain⟨its,n,r,ho,hz⟩:=I.lst hp
 obtain⟨h1,h2,h3,h4⟩:=zE hj
 have hl:=r.length
 have hn:=oK
 have I':Inv X ag σ (ce H p (.lst (xs.set j v))) {s with heap:=s.heap.update p (Obj.mapSeq (·.setIfInBounds j u))}:=
  I.lstUpd hp ho (xw its n j u) (r.set rv j) (by rw[List.length_set];exact hz) s.toks
 by_cases h0:0≤k
 ·have hk:k.toNat=j:=by
   rw[seqIndex_of h0 h4] at h1
   exact Option.some.inj h1
  exact W.ki_setAt ho h0 (by omega) (by rw[List.size_toArray,←hl];exact h4) (by rw[hk];exact⟨_,I',q⟩)
 ·have hk:(k+(its.toArray.size:Int)).toNat=j:=by
   rw[seqIndex_neg (by omega) h3] at h1
   rw[List.size_toArray,←hl]
   exact Option.some.inj h1
  exact W.ki_setBack ho (by omega) (by rw[List.size_toArray,←hl];exact h3) (by omega) (by rw[hk];exact⟨_,I',q⟩)
theorem uL (lo hi:Option Int)(n:Nat):(sliceBounds lo hi none n).1=((HT.sIx n 0 lo:Nat):Int)∧(sliceBounds lo hi none n).2.1=((HT.sIx n n hi:Nat):Int)∧(sliceBounds lo hi none n).2.2=1:=by
 refine⟨?_,?_,rfl⟩
 ·cases lo with
  | none=>simp[sliceBounds,HT.sIx]
  | some i=>
   simp only[sliceBounds,HT.sIx,Option.getD_none,show(1:Int)>0 by decide,if_true]
   by_cases h:i<0
   ·simp only[h,if_true] <;> omega
   ·simp only[h,if_false] <;> omega
 ·cases hi with
  | none=>simp[sliceBounds,HT.sIx]
  | some i=>
   simp only[sliceBounds,HT.sIx,Option.getD_none,show(1:Int)>0 by decide,if_true]
   by_cases h:i<0
   ·simp only[h,if_true] <;> omega
   ·simp only[h,if_false] <;> omega
theorem rL (its:List Value)(lo hi:Option Int):slicePick its.toArray lo hi none=((its.drop (HT.sIx its.length 0 lo)).take (HT.sIx its.length its.length hi-HT.sIx its.length 0 lo)).toArray:=by
 obtain⟨h1,h2,h3⟩:=uL lo hi its.toArray.size
 unfold slicePick
 rw[h1,h2,h3]
 simp only[sliceRange_one,pick_run,List.size_toArray] <;> rfl
def MU (K:W.Frag):V→Option Int→Option Int→Hp→VK→Prop:=fun x lo hi H Q=>∃a xs,x=.ref a∧mV K H a xs∧∀p,H p=none→Q (.ref p) (ce H p (.lst (wv xs lo hi)))
theorem va:Mm X (MU X.K):=by
 intro ag s σ H x v vl vu lo hi sl Q I rx hs pl pu h
 obtain⟨a,xs,rfl,hx,q⟩:=h
 cases rx
 obtain⟨its,r,ht,hz⟩:=I.list hx
 have hlen:=r.length
 refine⟨"list",_,slot_list_getitem.lookup,ht.isList.typeIs,?_⟩
 refine wpAny_getItem_list_slice ht.isList hs pl pu .none (by simp) ?_ (by rw[List.size_toArray] <;> omega)
 rw[rL,←hlen]
 refine⟨.ref s.heap.objs.size,_,I.laid (t':=s.toks) (o:=.lst (wv xs lo hi)) (fun b ob q=>Heap.get?_push_of_some _ q) (Nat.le_refl _) ?_,rfl,q _ (I.hok.fresh (Nat.le_refl _))⟩
 exact⟨Nat.le_trans (oU xs lo hi) hz,_,0,(r.drop (HT.sIx xs.length 0 lo)).take (HT.sIx xs.length xs.length hi-HT.sIx xs.length 0 lo),Heap.get?_push_size _ rfl⟩
def lZ:V→Bool
 | .non=>true
 | .bl _=>true
 | .int _=>true
 | .str _=>true
 | _=>false
def DD:V→V→Bool
 | .non,.non=>true
 | .bl a,.bl b=>a==b
 | .bl a,.int b=>(if a then 1 else 0)==b
 | .int a,.bl b=>a==(if b then 1 else 0)
 | .int a,.int b=>a==b
 | .str a,.str b=>a==b
 | _,_=>false
theorem G5 {A:Around}{y x:V}{u v:Value}(ry:bc y u)(rx:bc x v)(fy:lZ y=true)(fx:lZ x=true):SeqAt.EqAt A s u v (DD y x):=by
 cases y with
 | non=>
  cases ry
  cases x with
  | non=>cases rx;exact SeqAt.EqAt.same _
  | bl b=>cases rx;exact SeqAt.EqAt.none_bool b
  | int b=>obtain⟨t,rfl⟩:=rx;exact SeqAt.EqAt.none_int b t
  | str b=>obtain⟨t,rfl⟩:=rx;exact SeqAt.EqAt.none_str b t
  | _=>exact absurd (show false=true from fx) Bool.false_ne_true
 | bl a=>
  cases ry
  cases x with
  | non=>cases rx;exact SeqAt.EqAt.bool_none a
  | bl b=>cases rx;exact SeqAt.EqAt.bool_bool a b
  | int b=>obtain⟨t,rfl⟩:=rx;exact SeqAt.EqAt.bool_int a b t
  | str b=>obtain⟨t,rfl⟩:=rx;exact SeqAt.EqAt.bool_str a b t
  | _=>exact absurd (show false=true from fx) Bool.false_ne_true
 | int a=>
  obtain⟨t',rfl⟩:=ry
  cases x with
  | non=>cases rx;exact SeqAt.EqAt.int_none a t'
  | bl b=>cases rx;exact SeqAt.EqAt.int_bool a t' b
  | int b=>obtain⟨t,rfl⟩:=rx;exact SeqAt.EqAt.int_int a t' b t
  | str b=>obtain⟨t,rfl⟩:=rx;exact SeqAt.EqAt.int_str a t' b t
  | _=>exact absurd (show false=true from fx) Bool.false_ne_true
 | str a=>
  obtain⟨t',rfl⟩:=ry
  cases x with
  | non=>cases rx;exact SeqAt.EqAt.str_none a t'
  | bl b=>cases rx;exact SeqAt.EqAt.str_bool a t' b
  | int b=>obtain⟨t,rfl⟩:=rx;exact SeqAt.EqAt.str_int a t' b t
  | str b=>obtain⟨t,rfl⟩:=rx;exact SeqAt.EqAt.str_str a t' b t
  | _=>exact absurd (show false=true from fx) Bool.false_ne_true
 | _=>exact absurd (show false=true from fy) Bool.false_ne_true
def EV (x:V)(u:Value):Bool:=match u with
 | .none=>DD .non x
 | .bool b=>DD (.bl b) x
 | .int i _=>DD (.int i) x
 | .str z _=>DD (.str z) x
 | _=>false
theorem Bz {x y:V}{u:Value}(r:bc y u)(f:lZ y=true):EV x u=DD y x:=by
 cases y with
 | non=>cases r;rfl
 | bl b=>cases r;rfl
 | int i=>obtain⟨t,rfl⟩:=r;rfl
 | str z=>obtain⟨t,rfl⟩:=r;rfl
 | _=>exact absurd (show false=true from f) Bool.false_ne_true
theorem uP {x:V}:∀{xs:List V} {us:List Value},aW xs us→xs.all lZ=true→us.any (EV x)=xs.any fun y=>DD y x
 | _,_,.nil,_=>rfl
 | y::xs,u::us,.cons r t,f=>by
  rw[List.all_cons,Bool.and_eq_true] at f
  rw[List.any_cons,List.any_cons,Bz r f.1,uP t f.2]
theorem rj {A:Around}{s:Shared}{x:V}{v:Value}(rx:bc x v)(fx:lZ x=true):∀{xs:List V} {us:List Value},aW xs us→xs.all lZ=true→∀u∈us,SeqAt.EqAt A s u v (EV x u)
 | _,_,.nil,_=>fun u hu=>by cases hu
 | y::xs,u::us,.cons r t,f=>fun u' hu=>by
  rw[List.all_cons,Bool.and_eq_true] at f
  rcases List.mem_cons.mp hu with rfl|hu
  ·rw[Bz r f.1];exact G5 r rx f.1 fx
  ·exact rj rx fx t f.2 u' hu
def My (x:V)(xs:List V):Bool:=xs.any fun y=>DD y x
def Ot (K:W.Frag)(neg:Bool):R2:=fun x y H Q=>∃p xs,y=.ref p∧(mV K H p xs∨ph K H p xs)∧lZ x=true∧xs.all lZ=true∧Q (.bl (if neg then !My x xs else My x xs)) H
theorem Aa:iK X (compareOp .In) (Ot X.K false):=by
 intro ag s σ H x y v u Q I rx ry h
 obtain⟨p,xs,rfl,hq,fx,fs,q⟩:=h
 cases ry
 rcases hq with hq|hq
 ·obtain⟨its,r,pl,hz⟩:=I.list hq
  refine SeqAt.in_listAt (EV x) pl.isList (fun w hw=>rj rx fx r fs w (by simpa using hw)) ⟨.bl _,H,I,rfl,?_⟩
  rw[show its.toArray.any (EV x)=its.any (EV x) by simp,uP r fs]
  exact q
 ·obtain⟨its,r,pl,hz⟩:=I.tuple hq
  refine SeqAt.in_tupleAt (EV x) pl (fun w hw=>rj rx fx r fs w (by simpa using hw)) ⟨.bl _,H,I,rfl,?_⟩
  rw[show its.toArray.any (EV x)=its.any (EV x) by simp,uP r fs]
  exact q
theorem uK:dh X (.builtin "len") (fun xs H Q=>∃p ys,xs=[.ref p]∧(mV X.K H p ys∨ph X.K H p ys)∧Q (.int ys.length) H):=by
 intro ag s σ H xs us Q I r h
 obtain⟨p,ys,rfl,hq,q⟩:=h
 obtain⟨u,rfl,rx⟩:=l6 r
 cases rx
 have hn:=oK
 rcases hq with hq|hq
 ·obtain⟨its,r',pl,hz⟩:=I.list hq
  have hlen:=r'.length
  exact Calls.call_len_list pl.isList (by simp only[List.size_toArray] <;> omega) ⟨.int ys.length,H,I.tok _,⟨s.toks+1,by rw[List.size_toArray,hlen]⟩,q⟩
 ·obtain⟨its,r',pl,hz⟩:=I.tuple hq
  have hlen:=r'.length
  exact len_tuple pl (by simp only[List.size_toArray] <;> omega) ⟨.int ys.length,H,I.tok _,⟨s.toks+1,by rw[List.size_toArray,hlen]⟩,q⟩
theorem tX:dh X (.builtin "len") (fun xs H Q=>∃z,xs=[.str z]∧z.length≤sizeLine∧Q (.int z.length) H):=by
 intro ag s σ H xs us Q I r h
 obtain⟨z,rfl,hz,q⟩:=h
 obtain⟨u,rfl,t,rfl⟩:=l6 r
 have hn:=oK
 exact len_str (by omega) ⟨.int z.length,H,I.tok _,⟨_,rfl⟩,q⟩
theorem uG:dh X (.type "list") (fun xs H Q=>∃p ys,xs=[.ref p]∧(mV X.K H p ys∨ph X.K H p ys)∧∀l,H l=none→Q (.ref l) (ce H l (.lst ys))):=by
 intro ag s σ H xs us Q I r h
 obtain⟨p,ys,rfl,hq,q⟩:=h
 obtain⟨u,rfl,rx⟩:=l6 r
 cases rx
 have fin:∀(its:List Value),aW ys its→ys.length≤sizeLine→∀(h':Heap) (c':Nat),(∀b o',s.heap.get? b=some o'→h'.get? b=some o')→
   h'.get? s.heap.objs.size=some {cls:=.type "list",dict:=none,data:=.seq its.toArray c',slots:=#[]}→EP X ag σ Q (.ref s.heap.objs.size) {s with heap:=h'}:=fun its r' hz h' c' kp e=>
  ⟨.ref s.heap.objs.size,_,I.laid (t':=s.toks) kp (Nat.le_refl _) (show cz X.prog X.w _ h' _ (.lst ys) from⟨hz,its,c',r',e⟩),rfl,q _ (I.hok.fresh (Nat.le_refl _))⟩
 rcases hq with hq|hq
 ·obtain⟨its,r',pl,hz⟩:=I.list hq
  have hlen:=r'.length
  obtain⟨o,ho,hc,n,hd⟩:=pl.isList
  exact call_list_seq p (.inl rfl) ho hc hd (fun h' c' kp e=>fin its r' hz h' c' kp e) (by simp only[List.size_toArray] <;> omega)
 ·obtain⟨its,r',pl,hz⟩:=I.tuple hq
  have hlen:=r'.length
  obtain⟨o,ho,hc,n,hd⟩:=pl
  exact call_list_seq p (.inr rfl) ho hc hd (fun h' c' kp e=>fin its r' hz h' c' kp e) (by simp only[List.size_toArray] <;> omega)
theorem gK:dh X (.type "tuple") (fun xs H Q=>∃p ys,xs=[.ref p]∧((mV X.K H p ys∧∀l,H l=none→Q (.ref l) (ce H l (.tup ys)))∨(ph X.K H p ys∧Q (.ref p) H))):=by
 intro ag s σ H xs us Q I r h
 obtain⟨p,ys,rfl,h⟩:=h
 obtain⟨u,rfl,rx⟩:=l6 r
 cases rx
 rcases h with⟨hq,q⟩|⟨hq,q⟩
 ·obtain⟨its,r',pl,hz⟩:=I.list hq
  have hlen:=r'.length
  refine call_tuple_list pl.isList (fun h' kp=>?_) (by simp only[List.size_toArray] <;> omega)
  have I1:Inv X ag σ H {s with heap:=h'}:=I.kept (t':=s.toks) kp
  have I2:Inv X ag σ (ce H h'.objs.size (.tup ys)) {s with heap:=h'.push {cls:=.type "tuple",data:=.seq its.toArray}}:=
   I1.laid (t':=s.toks) (fun b o e=>Heap.get?_push_of_some _ e) (Nat.le_refl _) (show cz X.prog X.w _ _ _ (.tup ys) from⟨hz,its,r',IsTup.new _ _⟩)
  exact⟨.ref h'.objs.size,_,I2,rfl,q _ (I1.hok.fresh (Nat.le_refl _))⟩
 ·obtain⟨its,r',pl,hz⟩:=I.tuple hq
  exact call_tuple_same pl ⟨.ref p,H,I,rfl,q⟩
def Oe (K:W.Frag)(T:String)(x:V)(H:Hp):Prop:=match x with
 | .str _=>T="str"
 | .int _=>T="int"
 | .ref p=>(T="list"∧∃xs,mV K H p xs)∨(T="tuple"∧∃o,K.lookup p=some o∧o.cls=.type "tuple"∧o.dict=none)∨
   (T="dict"∧((∃kvs,H p=some (.dK kvs))∨∃kvs,H p=some (.dT kvs)))∨(T="set"∧∃S n,H p=some (.set S n))
 | _=>False
theorem Gu {T:String}{x:V}{v:Value}(I:Inv X ag σ H s)(r:bc x v)(ty:Oe X.K T x H) :
  s.TypeIs v T∧∀a,v=.ref a→∃ob,s.heap.get? a=some ob∧ob.dict=none:=by
 cases x with
 | str z=>
  obtain⟨t,rfl⟩:=r
  cases (show T="str" from ty)
  exact⟨typeIs_str s z t,fun _ e=>nomatch e⟩
 | int i=>
  obtain⟨t,rfl⟩:=r
  cases (show T="int" from ty)
  exact⟨typeIs_int s i t,fun _ e=>nomatch e⟩
 | ref p=>
  cases r
  rcases ty with⟨rfl,xs,hq⟩|⟨rfl,o,hk,hc,hd⟩|⟨rfl,hk⟩|⟨rfl,S,n,hk⟩
  ·obtain⟨its,_,pl,_⟩:=I.list hq
   refine⟨pl.isList.typeIs,fun a e=>?_⟩
   cases e
   obtain⟨o,n,e,c,hd,_⟩:=pl
   exact⟨o,e,hd⟩
  ·refine⟨⟨o,I.kIn p o hk,hc⟩,fun a e=>?_⟩
   cases e
   exact⟨o,I.kIn _ o hk,hd⟩
  ·have z:∃o,s.heap.get? p=some o∧o.ExactDict:=by
    rcases hk with⟨kvs,hk⟩|⟨kvs,hk⟩
    ·obtain⟨_,_,_,_,o,_,_,e,ex,_⟩:=I.hok p _ hk
     exact⟨o,e,ex⟩
    ·obtain⟨_,_,_,_,o,_,_,e,ex,_⟩:=I.hok p _ hk
     exact⟨o,e,ex⟩
   obtain⟨o,e,ex⟩:=z
   refine⟨⟨o,e,ex.1⟩,fun a e2=>?_⟩
   cases e2
   exact⟨o,e,ex.2.1⟩
  ·obtain⟨o,_,_,_,e,ex,_⟩:=I.hok p _ hk
   refine⟨⟨o,e,ex.1⟩,fun a e2=>?_⟩
   cases e2
   exact⟨o,e,ex.2.1⟩
 | _=>exact False.elim ty
def Oj (K:W.Frag)(T:String)(r:V→List V→Hp→VK→Prop)(to:TE)(t:TA):TE:=fun σ H Q=>to σ H fun x H1=>Oe K T x H1∧t σ H1 fun xs H2=>r x xs H2 Q
variable {o e:Expr}{es:List Expr}{to:TE}{t:TA}{name:Str}{apos cpos:Pos}{T id:String}{r:V→List V→Hp→VK→Prop}
theorem La (pa:PlainAttrs T)(slot:Slot T name id)(hty:typeOf (.builtin id)=pure (.type "method_descriptor"))(hm:Og X id r)(ho:PE X o to)(ha:PA X (e::es) t)
  (hbase:attributeBase o name X.env (eval o X.env)=eval o X.env:=by rfl)
  (hfew:((backTo cpos (starEach (e::es) X.env)).all (fun x=>!x.1)&&(backToKw cpos (keywordEach [] X.env)).all (fun x=>x.1.isSome)
   && decide ((e::es).length+([]:List Keyword).length+(if([]:List Keyword).isEmpty then 0 else 1)<30))=true:=by rfl)
  (hline:(apos.endLine==cpos.line)=true:=by rfl) (hs:starEach (e::es) X.env=(false,eval e X.env)::starEach es X.env:=by rfl) (hplain:(backTo cpos (starEach es X.env)).any (·.1)=false:=by rfl) :
  PE X (.Call (.Attribute o name apos) (e::es) [] cpos) (Oj X.K T r to t):=by
 intro ag s σ H Q I h
 refine wpAny_Call_method_late hbase hfew hline rfl (cy (ho ag s σ H _ I h) fun v s1 ⟨x,H1,I1,r1,ty,q1⟩=>?_)
 obtain⟨h1,h2⟩:=Gu I1 r1 ty
 refine⟨T,id,pa,slot,hty,h1,h2,?_⟩
 have hA:=ha cpos ag s1 σ H1 _ I1 q1
 rw[hs] at hA ⊢
 refine Calls.callWith_builtin (by show(false||(backTo cpos (starEach es X.env)).any (·.1))=false;rw[hplain] <;> rfl) (Calls.evalArgs_plain ?_)
 exact cy hA fun us s2 ⟨vs,H2,I2,r2,q2⟩=>hm ag s2 σ H2 x vs v us Q I2 r1 r2 q2
end
def Ol (X:Cx)(id:String)(r:V→List V→Hp→VK→Prop):Prop:=
 ∀(ag:List (Addr×Obj)) (s:Shared) (σ:St) (H:Hp) (x:V) (xs:List V) (v:Value) (us:List Value) (Q:VK),Inv X ag σ H s→bc x v→aW xs us→r x xs H Q→
  wpAny (model X.prog X.w) X.A (call (.builtin id) (v::us)) (EP X ag σ Q) X.xe s
theorem aW.one:∀{x:V} {us:List Value},aW [x] us→∃u,us=[u]∧bc x u
 | _,_,.cons r .nil=>⟨_,rfl,r⟩
theorem aW.reverse (h:aW xs us):aW xs.reverse us.reverse:=by
 induction h with
 | nil=>exact .nil
 | cons r t ih=>rw[List.reverse_cons,List.reverse_cons];exact aW.append ih (.cons r .nil)
section
variable {X:Cx}{ag:List (Addr×Obj)}{σ:St}{H:Hp}{s:Shared}{l b:Addr}{xs ys zs:List V}
theorem Inv.lset {its its':List Value}{n:Nat}{f:Array Value→Array Value}{t':Nat}(I:Inv X ag σ H s)(hH:H l=some (.lst xs))
  (e:s.heap.get? l=some {cls:=.type "list",data:=.seq its.toArray n}) (hf:f its.toArray=its'.toArray) (hv:aW ys its') (hz:ys.length≤sizeLine) :
  Inv X ag σ (ce H l (.lst ys)) {s with heap:=s.heap.update l (Obj.mapSeq f),toks:=t'}:=by
 have q:=PySem.IsL.update e f
 rw[hf] at q
 refine I.write (x:=l) (e:=l) (by rw[hH];exact trivial) (.inl rfl) (fun b' u hb hu=>(Heap.get?_update_other s.heap (Obj.mapSeq f) (Ne.symm hb)).trans hu) ⟨_,q⟩ ?_
 exact⟨hz,its',_,hv,q⟩
theorem Inv.lnew {its:List Value}{t':Nat}(I:Inv X ag σ H s)(hv:aW ys its)(hz:ys.length≤sizeLine) :
  Inv X ag σ (ce H s.heap.objs.size (.lst ys)) {s with heap:=s.heap.push {cls:=.type "list",data:=.seq its.toArray},toks:=t'}:=
 I.laid (fun _ _ q=>Heap.get?_push_of_some _ q) (Nat.le_refl _) ⟨hz,its,0,hv,Heap.get?_push_size _ rfl⟩
theorem Inv.fresh (I:Inv X ag σ H s):H s.heap.objs.size=none:=I.hok.fresh (Nat.le_refl _)
theorem Inv.lstM (I:Inv X ag σ H s)(hH:H l=some (.lst xs)):xs.length≤sizeLine∧∃(its:List Value) (n:Nat),aW xs its∧xs.length=its.length∧s.heap.get? l=some {cls:=.type "list",data:=.seq its.toArray n}:=by
 obtain⟨z,its,n,r,e⟩:=I.hok l _ hH
 exact⟨z,its,n,r,r.length,e⟩
theorem BQ {n:Nat}(h:n≤sizeLine):Builtin.List.listTooLong n=false:=by
 unfold Builtin.List.listTooLong
 exact decide_eq_false (by omega)
end
section
variable {X:Cx}
def Ej:V→List V→Hp→VK→Prop:=fun x vs H Q=>∃l xs y,x=.ref l∧vs=[y]∧H l=some (.lst xs)∧xs.length<sizeLine∧Q .non (ce H l (.lst (xs++[y])))
theorem AE:Ol X "list.append" Ej:=by
 intro ag s σ H x vs v us Q I rx rv h
 obtain⟨l,xs,y,rfl,rfl,hH,hz,q⟩:=h
 cases rx
 obtain⟨u,rfl,ru⟩:=rv.one
 obtain⟨z,its,n,r,hl,e⟩:=I.lstM hH
 refine call_meets F.slot_list_append ⟨_,e,rfl⟩ F.entry_list_append (F.args_list_append_2 _ _) (PySem.list_append l its.toArray n u (by rw[List.size_toArray];omega)) ⟨e,?_⟩
 refine⟨.non,_,I.lset (its':=its++[u]) hH e (by simp) (r.append (.cons ru .nil)) ?_,rfl,q⟩
 rw[List.length_append,List.length_singleton]
 omega
def NT:R2:=fun x y H Q=>∃l b xs zs,x=.ref l∧y=.ref b∧H l=some (.lst xs)∧H b=some (.lst zs)∧xs.length+zs.length≤sizeLine∧∀p,H p=none→Q (.ref p) (ce H p (.lst (xs++zs)))
theorem JJ:iK X (binaryOp .Add) NT:=by
 intro ag s σ H x y v u Q I rx ry h
 obtain⟨l,b,xs,zs,rfl,rfl,hH,hB,hz,q⟩:=h
 cases rx
 cases ry
 obtain⟨z,its,n,r,hl,e⟩:=I.lstM hH
 obtain⟨z2,its2,n2,r2,hl2,e2⟩:=I.lstM hB
 refine PySem.P.add_list e e2 ?_ (by rw[List.size_toArray,List.size_toArray];omega)
 have ea:its.toArray++its2.toArray=(its++its2).toArray:=by simp
 rw[ea]
 exact⟨.ref _,_,I.lnew (t':=s.toks) (r.append r2) (by rw[List.length_append];omega),rfl,q _ I.fresh⟩
end
end L2
namespace Att
open PySem PySem.W PySem.Calls PyProof.Rows
variable{P:Params}
theorem pd {h:Heap}:∀(ns:List Int) (vs:List Value),WellAll P h vs (ns.map WData.int)→IntsAre vs ns:=by
 intro ns
 induction ns with
 | nil=>
  intro vs w
  rw[List.map_nil] at w
  cases w
  exact .nil
 | cons n ns ih=>
  intro vs w
  rw[List.map_cons] at w
  cases w with
  | cons a b=>
   cases a
   exact .cons _ _ (ih _ b)
variable{l:OpenLaw}
theorem AC {n:Nat}(hn:l.most=some n){h:Heap}{args:List WData}{vals:List Value}
  (hpre:l.row.toRowW.claim.pre args=true) (hwl:WellAll P h vals args) :
  ∃a vs ns,vals=[Value.ref a]∧args=[WData.list (ns.map WData.int)]∧h.get? a=some {cls:=.type "list",data:=.seq vs.toArray}∧IntsAre vs ns∧ns.length≤n:=by
 have hsh:WShape.hasAll [] args [.list .int]=true:=(pre_splitW hpre).1
 have hc:l.pre.holds [] {args:=args}=true:=(pre_splitW hpre).2
 obtain⟨d,r,rfl,h1,h2⟩:=hasAllW_cons hsh
 obtain rfl:=hasAllW_nil h2
 obtain⟨xs,rfl,h3⟩:=hasW_list h1
 obtain⟨ns,rfl⟩:=items_int h3
 have hlen:ns.length≤n:=by
  unfold OpenLaw.pre at hc
  have h4:(WTm.not (.lt (.lit (.int (n:Int))) (.len (.arg 0)))).holds [] {args:=[.list (ns.map .int)]}=true:=by
   have h4:=(holds_andW hc).1
   rw[hn] at h4
   exact h4
  have h5:=condW_of h4 (w_not (w_lt w_lit (w_len_list (w_arg rfl))))
  rw[List.length_map] at h5
  refine Nat.le_of_not_lt fun q=>?_
  have q':(n:Int)<((ns.length:Nat):Int):=by omega
  first
   | (rw[decide_eq_true q'] at h5;exact absurd h5 (by decide))
   | (simp at h5;omega)
 cases hwl with
 | cons w1 w2=>
  cases w2
  cases w1 with
  | list ho hall=>exact⟨_,_,ns,rfl,rfl,ho,pd ns _ hall,hlen⟩
theorem z9 (l:OpenLaw)(args:List WData):l.row.toRowW.claim.post args (.bool true) args=true:=
 postW_of (r:=l.row.toRowW) (X:=(true==true))
  (show WShape.has [] (.bool true) .bool=true by first|rfl|decide|simp[WShape.has,WShape.arms,WShape.armsAll])
  (show(WTm.eq .res (.lit (.bool true))).value [] {args:=args,res:=some (.bool true),after:=args}=some (.bool (true==true)) from w_eq_bool (w_res rfl) w_lit) rfl
theorem attach_call {n:Nat}{q:Program}{loose:List Str}{XP:(Str→Option Value)→Heap→Prop}{YP:World→Heap→Prop}{d:DefRec}
  (hn:l.most=some n) (hdf:d.params.defaults=[])
  (call:∀(w:World) (s₀ s₁:Shared) (mg mb:Str→Option Value) (fa:Addr) (o:Obj) (pm cd doc:Value) (a:Addr) (vs:List Value) (ns:List Int),
   Ground q loose [] XP w s₀ mg mb s₁.heap→YP w s₁.heap→
   s₁.heap.get? fa=some o→o.data=.func (docDef d.name d.params d.body d.scope pm cd doc)→s₁.heap.CodeRec cd d.name→mg d.name=some (.ref fa)→
   s₁.heap.get? a=some {cls:=.type "list",data:=.seq vs.toArray}→IntsAre vs ns→ns.length≤n→s₁.gens=#[]→
   codeAny (model l.prog w) callerA (.call (.ref fa) ⟨[.ref a],[]⟩) (fun r s'=>r=.ok (.ret (.bool true))∧OldK s₁.heap s'.heap∧s'.os=s₁.os∧AllBare s'.gens) s₁) :
  WalkO q loose XP YP l.row.toRowW d [] (fun f vs=>PySem.call f vs):=by
 intro w s₀ s₁ mg mb G Y fa o pm cd doc dV kV ho hd hcd hD hmg hg args vals as hpre hlay hrd hwl hlo
 obtain rfl:dV=.none:=Dflts.none hD hdf
 obtain rfl:kV=.none:=Dflts.noKw hD
 obtain⟨a,vs,ns,rfl,rfl,hobj,hints,hlen⟩:=AC hn hpre hwl
 refine enter_call (codeAny_mono (call w s₀ s₁ mg mb fa o pm cd doc a vs ns G Y ho (fd_plain hd) hcd hmg hobj hints hlen hg) fun r s' hq=>?_)
 obtain⟨rfl,h2,h3,h4⟩:=hq
 exact⟨.inl ⟨.bool true,.bool true,[],rfl,fun _=>rfl,.bool true,z9 l _,fun _=>⟨List.Pairwise.nil,fun _ hm=>(nomatch hm)⟩⟩,h2,h3,h4⟩
end Att
namespace L2
open PySem PySem.Spec PyProof.Rows
theorem tB:∀{vs:List Value} {ns:List Int},IntsAre vs ns→aW (ns.map V.int) vs
 | _,_,.nil=>.nil
 | _,_,.cons n t h=>.cons ⟨t,rfl⟩ (tB h)
def fF (s:Stmt)(j:Nat):Stmt:=match s with
 | .ClassDef _ _ _ body _ _ _ _ _ _ _=>body.getD j (.Pass ⟨0,0,0,0⟩)
 | _=>.Pass ⟨0,0,0,0⟩
def fP (s:Stmt):Arguments:=match s with
 | .FunctionDef _ a _ _ _ _ _ _ _ _=>a
 | _=>{posonlyargs:=[],args:=[],vararg:=none,kwonlyargs:=[],kw_defaults:=[],kwarg:=none,defaults:=[]}
def cu (s:Stmt):List Stmt:=match s with
 | .FunctionDef _ _ b _ _ _ _ _ _ _=>b
 | _=>[]
def aK (s:Stmt):Scope:=match s with
 | .FunctionDef _ _ _ _ _ _ sc _ _ _=>sc
 | _=>{kind:=.function,names:=[],isGenerator:=false,isCoroutine:=false}
structure FN (K:W.Frag)(x qual:Str)(st:Stmt)(f:Addr)(fd:FuncData):Prop where
 ex:∃(oc:Value) (od:Option Addr) (kV doc pm:Value) (an:Option Addr) (cdv ct:Value) (osl:Array (Option Value)),
  fd=W.fnOf x qual (fP st) (cu st) (aK st) .none kV doc pm an cdv ct∧K.lookup f=some ⟨oc,od,.func fd,osl⟩∧W.codeIn K cdv qual=true
 kp:W.keepIn K (.ref f)=true
section
variable {P:Program}{w:World}{K:W.Frag}{mg:Str→Option Value}{base:Heap}
theorem FN.binds {x qual:Str}{st:Stmt}{f:Addr}{fd:FuncData}{ps:List Str}(F:FN K x qual st f fd)
  (h:∀(kV doc pm:Value) (an:Option Addr) (cdv ct:Value) (us:List Value),us.length=ps.length→bindArgs (W.fnOf x qual (fP st) (cu st) (aK st) .none kV doc pm an cdv ct) ⟨us,[]⟩=pure (ps.zip us)):eG K fd ps []:=by
 obtain⟨oc,od,kV,doc,pm,an,cdv,ct,osl,rfl,lk,hcd⟩:=F.ex
 exact .all (h kV doc pm an cdv ct)
theorem n5 {x qual:Str}{st:Stmt}{f:Addr}{oc:Value}{od an:Option Addr}{osl:Array (Option Value)}{kV doc pm cdv ct:Value}(l:K.lookup f=some ⟨oc,od,.func (W.fnOf x qual (fP st) (cu st) (aK st) .none kV doc pm an cdv ct),osl⟩)
  (c:W.codeIn K cdv qual=true) (k:W.keepIn K (.ref f)=true):FN K x qual st f (W.fnOf x qual (fP st) (cu st) (aK st) .none kV doc pm an cdv ct):=⟨⟨oc,od,kV,doc,pm,an,cdv,ct,osl,rfl,l,c⟩,k⟩
end
theorem Ke {A:Around}{k:Nat}(hr:bv k A):A.units+1<cLine:=Nat.lt_of_le_of_lt (Nat.add_le_add_left (by decide:1≤64) _) hr.units
variable{y:V}{u:Value}
section
variable {κ:Type}[DecidableEq κ]
def mj (kvs:List (κ×V))(k:κ):Option V:=(kvs.find? fun kv=>decide (kv.1=k)).map (·.2)
def pb (kvs:List (κ×V))(k:κ)(v:V):List (κ×V):=
 if(kvs.any fun kv=>decide (kv.1=k))=true then kvs.map (fun kv=>if kv.1=k then(kv.1,v) else kv) else kvs++[(k,v)]
theorem nr {p:κ×V}{r:List (κ×V)}{k:κ}(e:p.1=k):mj (p::r) k=some p.2:=by simp[mj,List.find?_cons,e]
theorem nh {p:κ×V}{r:List (κ×V)}{k:κ}(e:¬p.1=k):mj (p::r) k=mj r k:=by simp[mj,List.find?_cons,e]
theorem qD (k:κ):∀kvs:List (κ×V),(kvs.any fun kv=>decide (kv.1=k))=(mj kvs k).isSome
 | []=>rfl
 | p::r=>by
  rw[List.any_cons]
  by_cases e:p.1=k
  ·simp only[nr e,decide_eq_true e,Bool.true_or,Option.isSome_some]
  ·rw[nh e,decide_eq_false e,Bool.false_or];exact qD k r
theorem oN (kvs:List (κ×V))(k:κ)(v:V):(pb kvs k v).length≤kvs.length+1:=by
 unfold pb
 split
 ·rw[List.length_map];omega
 ·rw[List.length_append,List.length_cons,List.length_nil];omega
theorem wI {kvs:List (κ×V)}{k:κ}(v:V)(h:mj kvs k=none):pb kvs k v=kvs++[(k,v)]:=by
 unfold pb
 rw[qD,h]
 exact if_neg (by decide)
theorem kM.isSome_eq {o:Option V}{u:Option Value}(r:kM o u):o.isSome=u.isSome:=by
 cases o with
 | none=>cases u with
  | none=>rfl
  | some _=>exact(show False from r).elim
 | some _=>cases u with
  | none=>exact(show False from r).elim
  | some _=>rfl
theorem KV.val {kvs:List (κ×V)}{vs:List (κ×Value)}(r:KV kvs vs)(k:κ):kM (mj kvs k) (valueAt vs k):=by
 unfold KV at r
 induction r with
 | nil=>exact True.intro
 | @cons p q ps qs h t ih=>
  obtain⟨h1,h2⟩:=h
  by_cases e:p.1=k
  ·have e':q.1=k:=h1.symm.trans e
   have b:valueAt (q::qs) k=some q.2:=by simp[valueAt,List.find?_cons,e']
   rw[nr e,b];exact h2
  ·have e':¬q.1=k:=fun z=>e (h1.trans z)
   have b:valueAt (q::qs) k=valueAt qs k:=by simp[valueAt,List.find?_cons,e']
   rw[nh e,b];exact ih
theorem KV.any {kvs:List (κ×V)}{vs:List (κ×Value)}(r:KV kvs vs)(k:κ):(kvs.any fun kv=>decide (kv.1=k))=vs.any fun kv=>decide (kv.1=k):=by
 unfold KV at r
 induction r with
 | nil=>rfl
 | cons h t ih=>rw[List.any_cons,List.any_cons,ih,h.1]
theorem KV.repl {kvs:List (κ×V)}{vs:List (κ×Value)}(r:KV kvs vs)(k:κ)(ry:bc y u) :
  KV (kvs.map fun kv=>if kv.1=k then(kv.1,y) else kv) (vs.map fun kv=>if kv.1=k then(kv.1,u) else kv):=by
 unfold KV at r ⊢
 induction r with
 | nil=>exact .nil
 | @cons p q ps qs h t ih=>
  rw[List.map_cons,List.map_cons]
  refine .cons ?_ ih
  obtain⟨h1,h2⟩:=h
  by_cases e:p.1=k
  ·rw[if_pos e,if_pos (h1.symm.trans e)];exact⟨h1,ry⟩
  ·rw[if_neg e,if_neg (fun z=>e (h1.trans z))];exact⟨h1,h2⟩
theorem KV.put {kvs:List (κ×V)}{vs:List (κ×Value)}(r:KV kvs vs)(k:κ)(ry:bc y u):KV (pb kvs k y) (stored vs k u):=by
 unfold pb stored
 rw[r.any k]
 by_cases e:(vs.any fun kv=>decide (kv.1=k))=true
 ·rw[if_pos e,if_pos e];exact r.repl k ry
 ·rw[if_neg e,if_neg e];exact Paired.snoc r ⟨rfl,ry⟩
theorem KV.length {kvs:List (κ×V)}{vs:List (κ×Value)}(r:KV kvs vs):kvs.length=vs.length:=Paired.length r
end
variable{P:Program}{w:World}
theorem Dm {k:dB}(r:bc (kV k) u):(cw P w).is k u=true:=by
 cases k with
 | inl i=>obtain⟨t,e⟩:=(show∃t,u=Value.int i t from r);subst e;exact vZ P w i t
 | inr x=>obtain⟨t,e⟩:=(show∃t,u=Value.str x t from r);subst e;exact vR P w x t
theorem sO {P:Program}{w:World}:∀{ks:List dB} {us:List Value},aW (ks.map kV) us→ItemsAre (cw P w) ks us
 | [],_,r=>by rw[List.map_nil] at r;cases r;exact .nil
 | k::ks,_,r=>by
  rw[List.map_cons] at r
  cases r with
  | cons h t=>exact .cons (Dm h) (sO t)
abbrev KT (H:Hp):List (List dB×V)→List (List dB×Addr×Value)→Prop:=Paired fun p q=>p.1=q.1∧H q.2.1=some (.tup (p.1.map kV))∧bc p.2 q.2.2
variable{H:Hp}{kvs:List (List dB×V)}{xs:List (List dB×Addr×Value)}
theorem KT.val (r:KT H kvs xs)(k:List dB):kM (mj kvs k) ((atKey xs k).map (·.2)):=by
 induction r with
 | nil=>exact True.intro
 | @cons p q ps qs h t ih=>
  obtain⟨h1,_,h2⟩:=h
  by_cases e:p.1=k
  ·have e':q.1=k:=h1.symm.trans e
   have b:atKey (q::qs) k=some q.2:=by simp[atKey,List.find?_cons,e']
   rw[nr e,b];exact h2
  ·have e':¬q.1=k:=fun z=>e (h1.trans z)
   have b:atKey (q::qs) k=atKey qs k:=by simp[atKey,List.find?_cons,e']
   rw[nh e,b];exact ih
theorem KT.repl (r:KT H kvs xs)(k:List dB)(ry:bc y u) :
  KT H (kvs.map fun kv=>if kv.1=k then(kv.1,y) else kv) (xs.map (putAt k u)):=by
 induction r with
 | nil=>exact .nil
 | @cons p q ps qs h t ih=>
  rw[List.map_cons,List.map_cons]
  refine .cons ?_ ih
  obtain⟨h1,h2,h3⟩:=h
  unfold putAt
  by_cases e:p.1=k
  ·rw[if_pos e,if_pos (h1.symm.trans e)];exact⟨h1,h2,ry⟩
  ·rw[if_neg e,if_neg (fun z=>e (h1.trans z))];exact⟨h1,h2,h3⟩
theorem KT.put (r:KT H kvs xs)(k:List dB){b:Addr}(hb:H b=some (.tup (k.map kV)))(ry:bc y u) :
  KT H (pb kvs k y) (storedH xs k b u):=by
 have e:(kvs.any fun kv=>decide (kv.1=k))=(atKey xs k).isSome:=by
  rw[qD,(r.val k).isSome_eq,Option.isSome_map]
 unfold pb storedH
 rw[e]
 by_cases q:(atKey xs k).isSome=true
 ·rw[if_pos q,if_pos q];exact r.repl k ry
 ·rw[if_neg q,if_neg q];exact Paired.snoc r ⟨rfl,hb,ry⟩
theorem KT.keeps {H':Hp}(r:KT H kvs xs)(ht:∀b ys,H b=some (.tup ys)→H' b=some (.tup ys)):KT H' kvs xs:=
 Paired.mapP r fun _ _ z=>⟨z.1,ht _ _ z.2.1,z.2.2⟩
section
variable {P:Program}{w:World}{H:Hp}{h:Heap}{a:Addr}
theorem F3 {u:HO}(ok:kS P w H h)(e:Rd H a u):cz P w H h a u:=e.ok ok
theorem Bb {kvs:List (dB×V)}(ok:kS P w H h)(e:Rd H a (.dK kvs)):kvs.length≤sizeLine∧(a==sysModules)=false∧∃vs,KV kvs vs∧h.DictOf (cw P w) a vs:=
 show cz P w H h a (.dK kvs) from F3 ok e
theorem Kz {kvs:List (dB×V)}(ok:kS P w H h)(e:H a=some (.dK kvs)):kvs.length≤sizeLine∧(a==sysModules)=false∧∃vs,KV kvs vs∧h.DictOf (cw P w) a vs:=Bb ok (.inl e)
theorem yG {ks:List dB}(ok:kS P w H h)(e:H a=some (.tup (ks.map kV))):(tupleKind (cw P w)).is h ks a:=by
 obtain⟨_,its,r,o,h1,h2,n,h3⟩:=(show cz P w H h a (.tup (ks.map kV)) from ok a _ e)
 exact⟨o,its.toArray,n,h1,h2,h3,by simpa using sO r⟩
theorem Be (ok:kS P w H h)(e:Rd H a (.dT kvs)):kvs.length≤sizeLine∧(a==sysModules)=false∧
  ∃xs,KT H kvs xs∧h.DictOfH (tupleKind (cw P w)) a xs:=by
 obtain⟨z,y,xs,r,o,es,ep,h1,h2,h3,h4,h5⟩:=(show cz P w H h a (.dT kvs) from F3 ok e)
 refine⟨z,y,xs,r,o,es,ep,h1,h2,h3,h4,fun x hx=>?_,h5⟩
 have all:∀{l:List (List dB×V)} {m:List (List dB×Addr×Value)},KT H l m→∀x∈m,(tupleKind (cw P w)).is h x.1 x.2.1:=by
  intro l m q
  induction q with
  | nil=>intro x hx;exact nomatch hx
  | @cons p q ps qs hq t ih=>
   intro x hx
   rcases List.mem_cons.mp hx with e|hx
   ·subst e
    exact yG ok (by rw[←hq.1];exact hq.2.1)
   ·exact ih x hx
 exact all r x hx
theorem Kk (ok:kS P w H h)(e:H a=some (.dT kvs)):kvs.length≤sizeLine∧(a==sysModules)=false∧
  ∃xs,KT H kvs xs∧h.DictOfH (tupleKind (cw P w)) a xs:=Be ok (.inl e)
end
def MW (H:Hp)(a:Addr)(y:V)(r:Option V):Prop:=
 (∃kvs k,Rd H a (.dK kvs)∧y=kV k∧r=mj kvs k)∨∃kvs k b,Rd H a (.dT kvs)∧y=.ref b∧H b=some (.tup (k.map kV))∧r=mj kvs k
section
variable {X:Cx}{ag:List (Addr×Obj)}{σ:St}{H:Hp}{s:Shared}{a:Addr}{y v:V}{u r:Value}{o:Option V}{A:Around}{E:Value→Shared→Prop}
theorem Inv.big (I:Inv X ag σ H s):sysModules<s.heap.objs.size:=by
 have h:mainGlobals<s.heap.objs.size:=(I.mod.glob.keeps I.bk).lt
 exact Nat.lt_trans (by decide) h
theorem zA {h':Heap}{t':Nat}{ob:HO}(I:Inv X ag σ H s)(mu:Le (H a))(hs:Heap.SameBut a s.heap h')(he:∃q,h'.get? a=some q)(new:cz X.prog X.w (ce H a ob) h' a ob) :
  Inv X ag σ (ce H a ob) {s with heap:=h',toks:=t'}:=
 I.write (x:=a) (e:=a) mu (.inl rfl) (fun b q hb z=>(hs.2 b hb).trans z) he new
theorem GB {H':Hp}{h':Heap}{kvs:List (dB×V)}{vs:List (dB×Value)}(z:kvs.length≤sizeLine)(hd:(a==sysModules)=false)(rel:KV kvs vs)(dd:h'.DictOf (cw P w) a vs) :
  cz P w H' h' a (.dK kvs):=⟨z,hd,vs,rel,dd⟩
end
theorem CO (h:Heap)(hb:sysModules<h.objs.size):cz P w H (h.push {cls:=.type "dict",data:=.dict #[]}) h.objs.size (.dK []):=
 ⟨Nat.zero_le _,beq_eq_false_iff_ne.mpr (Ne.symm (Nat.ne_of_lt hb)),[],.nil,Heap.DictOf.new h⟩
theorem Do (h:Heap)(hb:sysModules<h.objs.size):cz P w H (h.push {cls:=.type "dict",data:=.dict #[]}) h.objs.size (.dT []):=
 ⟨Nat.zero_le _,beq_eq_false_iff_ne.mpr (Ne.symm (Nat.ne_of_lt hb)),[],.nil,_,#[],0,Heap.get?_push_size _ rfl,⟨rfl,rfl,rfl⟩,rfl,rfl,List.nodup_nil⟩
def Ji:TE:=fun _ H Q=>∀p,H p=none→Q (.ref p) (ce H p (.dK []))
def G3:TE:=fun _ H Q=>∀p,H p=none→Q (.ref p) (ce H p (.dT []))
section
variable {X:Cx}{pos:Pos}
theorem B4:PE X (.Dict [] [] pos) Ji:=fun ag s σ H Q I h=>
 wpAny_Dict_empty ⟨.ref s.heap.objs.size,_,I.laid (a:=s.heap.objs.size) (o:=.dK []) (t':=s.toks) (fun _ _ q=>Heap.get?_push_of_some _ q) (Nat.le_refl _) (CO s.heap I.big),rfl,h _ (I.hok.fresh (Nat.le_refl _))⟩
theorem Cs:PE X (.Dict [] [] pos) G3:=fun ag s σ H Q I h=>
 wpAny_Dict_empty ⟨.ref s.heap.objs.size,_,I.laid (a:=s.heap.objs.size) (o:=.dT []) (t':=s.toks) (fun _ _ q=>Heap.get?_push_of_some _ q) (Nat.le_refl _) (Do s.heap I.big),rfl,h _ (I.hok.fresh (Nat.le_refl _))⟩
end
abbrev VV:List (V×V)→List (Value×Value)→Prop:=Paired fun p q=>bc p.1 q.1∧bc p.2 q.2
structure M1 (X:Cx)(o:Expr)(m:Str)(apos:Pos)(e:Expr)(cpos:Pos):Prop where
 base:attributeBase o m X.env (eval o X.env)=eval o X.env
 few:((backTo cpos (starEach [e] X.env)).all (fun x=>!x.1)&&(backToKw cpos (keywordEach [] X.env)).all (fun x=>x.1.isSome)
  && decide (([e]:List Expr).length+([]:List Keyword).length+(if([]:List Keyword).isEmpty then 0 else 1)<30))=true
 line:(apos.endLine==cpos.line)=true
 trees:backTo cpos (starEach [e] X.env)=[(false,eval e X.env)]
structure M2 (X:Cx)(o:Expr)(m:Str)(apos:Pos)(e f:Expr)(cpos:Pos):Prop where
 base:attributeBase o m X.env (eval o X.env)=eval o X.env
 few:((backTo cpos (starEach [e,f] X.env)).all (fun x=>!x.1)&&(backToKw cpos (keywordEach [] X.env)).all (fun x=>x.1.isSome)
  && decide (([e,f]:List Expr).length+([]:List Keyword).length+(if([]:List Keyword).isEmpty then 0 else 1)<30))=true
 line:(apos.endLine==cpos.line)=true
 trees:backTo cpos (starEach [e,f] X.env)=[(false,eval e X.env),(false,eval f X.env)]
def NF (H:Hp)(a:Addr):Prop:=(∃kvs,Rd H a (.dK kvs))∨∃kvs,Rd H a (.dT kvs)
theorem Hw {X:Cx}{ag:List (Addr×Obj)}{σ:St}{s:Shared}{a:Addr}(I:Inv X ag σ H s)(d:NF H a) :
  s.TypeIs (.ref a) "dict"∧(∀b,Value.ref a=.ref b→∃ob,s.heap.get? b=some ob∧ob.dict=none)∧(a==sysModules)=false:=by
 rcases d with⟨kvs,e⟩|⟨kvs,e⟩
 ·obtain⟨_,hd,vs,_,dd⟩:=Bb I.hok e
  refine⟨dd.typeIs,fun b q=>?_,hd⟩
  cases q
  obtain⟨ob,_,_,h1,h2,_⟩:=dd
  exact⟨ob,h1,h2.2.1⟩
 ·obtain⟨_,hd,xs,_,dd⟩:=Be I.hok e
  refine⟨dd.typeIs,fun b q=>?_,hd⟩
  cases q
  obtain⟨ob,_,_,h1,h2,_⟩:=dd
  exact⟨ob,h1,h2.2.1⟩
end L2
namespace Att
open PySem PySem.W PySem.Calls PyProof.Rows
end Att
namespace L2
open PySem PySem.Spec PyProof.Rows
end L2
namespace DL
open PySem PySem.Spec PyProof.Rows L2
structure K8 (X:Cx)(ag:List (Addr×Obj))(H:Hp)(B:Heap):Prop where
 trk:∀b o,H b=some o→∃o',B.get? b=some o'
 pin:∀p∈X.pn++ag,∃o',B.get? p.1=some o'
 old:∀b o,X.s₀.heap.get? b=some o→b∉X.ex→b∉rF X.stack→∃o',B.get? b=some o'
def Nn (X:Cx)(H:Hp)(a C:Addr)(s:Shared):Prop:=∃ag σ,
 (∃h vs,L2.Inv X ag σ H {s with heap:=h}∧Heap.MadeExcOf h s.heap a (.ref C) vs)∨
 (L2.Inv X ag σ H s∧H a=none∧∃B a0,Heap.FlyingW B X.stack a (.ref C) a0 s.heap∧K8 X ag H B)∨
 (L2.Inv X ag σ H s∧H a=none∧∃B a0 L,X.env.frame=some L∧Heap.HeldW B X.stack a (.ref C) a0 L s.heap∧K8 X ag H B)
def iG (K:W.Frag)(c:Str)(C:Addr):Prop:=W.nsIn K mainGlobals c=some (some (.ref C))
variable{K:W.Frag}
theorem iG.inj {c:Str}{C C':Addr}(a:iG K c C)(b:iG K c C'):C=C':=by
 unfold iG at a b
 rw[a] at b
 cases b;rfl
variable{P:Program}{w:World}{H:Hp}{a:Addr}{o:HO}
theorem p9 {h:Heap}(x:cz P w H h a o):∃u,h.get? a=some u:=by
 cases o with
 | lst xs=>obtain⟨_,_,_,_,e⟩:=x;exact⟨_,e⟩
 | tup xs=>obtain⟨_,_,_,o,e,_⟩:=x;exact⟨_,e⟩
 | dK kvs=>obtain⟨_,_,_,_,o,_,_,e,_⟩:=x;exact⟨_,e⟩
 | dT kvs=>obtain⟨_,_,_,_,o,_,_,e,_⟩:=x;exact⟨_,e⟩
 | set S n=>obtain⟨o,_,_,_,e,_⟩:=x;exact⟨_,e⟩
 | ins C dx fs=>obtain⟨_,_,_,e,_⟩:=x;exact⟨_,e⟩
 | own y=>obtain⟨_,e⟩:=x;exact⟨_,e⟩
 | xd fs=>obtain⟨_,⟨_,_,_,e,_⟩,_⟩:=x;exact⟨_,e⟩
 | rng lo hi=>obtain⟨_,_,_,e⟩:=x;exact⟨_,e⟩
 | frz ob u=>obtain⟨e,_⟩:=x;exact⟨_,e⟩
 | tbl ps=>exact⟨_,show h.get? a=some _ from x⟩
 | met f y=>exact⟨_,show h.get? a=some _ from x⟩
 | ext φ=>obtain⟨_,⟨_,e⟩,_⟩:=x;exact⟨_,e⟩
section
variable {X:Cx}{ag:List (Addr×Obj)}{σ:List (Option V)}{H:Hp}{s:Shared}{B h':Heap}{a C:Addr}
theorem vf (I:L2.Inv X ag σ H s){b:Addr}{o:Obj}(e:X.s₀.heap.get? b=some o)(n:b∉X.fs):b∉rF X.stack:=fun z=>by
 rcases List.mem_cons.mp (I.stkSub b z) with q|q
 ·have h1:=Heap.lt_size e
  rw[q] at h1
  exact absurd (Nat.lt_of_lt_of_le h1 I.ok.above) (Nat.lt_irrefl _)
 ·exact n q
theorem zf {h h':Heap}{c:Addr}{v:Option Value}(u:h.UpToSlots h')(x:h.IsCell c v):h'.IsCell c v:=by
 obtain⟨o,e,d⟩:=x
 obtain⟨sl,e'⟩:=u c o e fun vs q=>by rw[d] at q;cases q
 exact⟨_,e',d⟩
theorem CU (I:L2.Inv X ag σ H s)(gW:K8 X ag H B)(hB:B.StaysIn s.heap)(hB':B.StaysIn h')(up:s.heap.UpToSlots h'):L2.Inv X ag σ H {s with heap:=h'}:=by
 have keepB:∀b o o',B.get? b=some o'→s.heap.get? b=some o→h'.get? b=some o:=fun b o o' e1 e2=>by
  have:=hB b o' e1
  rw[e2] at this;cases this
  exact hB' b _ e1
 refine⟨I.ok,I.os,I.bare,⟨fun b o e n nf nx=>?_,fun b o e n hf nx=>?_,fun b o e n nx=>I.base.free b o e n nx,fun b o e nx=>?_,I.base.tups,I.base.frzs,I.base.tbls⟩,?_,fun x c e=>?_,I.free,I.freeC,fun p hp=>?_,fun b o e=>?_,I.len⟩
 ·obtain⟨o',e'⟩:=gW.old b o e nx (vf I e nf)
  exact keepB b o o' e' (I.base.keep b o e n nf nx)
 ·obtain⟨sl,e1⟩:=I.base.slot b o e n hf nx
  obtain⟨_,ob,e2,nf⟩:=I.funs.mem hf
  rw[e1] at e2;cases e2
  obtain⟨sl',e3⟩:=up b _ e1 nf
  exact⟨sl',e3⟩
 ·by_cases hf:b∈X.fs
  ·obtain⟨_,ob,e2,nf⟩:=I.funs.mem hf
   obtain⟨sl',e3⟩:=up b _ e2 nf
   exact⟨_,e3⟩
  ·obtain⟨o',e'⟩:=gW.old b o e nx (vf I e hf)
   exact⟨o',hB' b o' e'⟩
 ·obtain⟨m,hn,hl⟩:=I.loc
  refine⟨m,up.ns hn,fun i x v e1 e2 e3=>?_⟩
  obtain⟨u,r,lk⟩:=hl i x v e1 e2 e3
  refine⟨u,r,?_⟩
  rcases lk with lk|⟨k,c,ec,ic⟩
  ·exact .inl lk
  ·exact .inr ⟨k,c,ec,zf up ic⟩
 ·obtain⟨v,ic⟩:=I.cell x c e
  exact⟨v,zf up ic⟩
 ·obtain⟨e,n,ne,nf,d⟩:=I.pin p hp
  obtain⟨o',e'⟩:=gW.pin p hp
  exact⟨keepB p.1 p.2 o' e' e,n,ne,nf,d⟩
 ·refine(I.hok b o e).stay (fun c u hc q=>?_) (fun _ q=>q) fun _ _ q=>q
  have:∃o,H c=some o:=by
   rcases hc with z|z
   ·exact⟨o,by rw[z];exact e⟩
   ·exact⟨_,z⟩
  obtain⟨oc,ec⟩:=this
  obtain⟨o',e'⟩:=gW.trk c oc ec
  exact keepB c u o' e' q
theorem Bw (I:L2.Inv X ag σ H s):K8 X ag H (W.hideAll s.heap (rF X.stack)):=by
 refine⟨fun b o e=>?_,fun p hp=>?_,fun b o e nx nf=>?_⟩
 ·obtain⟨u,q⟩:=p9 (I.hok b o e)
  exact⟨u,W.hideAll_get _ q fun z=>by rw[I.stkFree b z] at e;cases e⟩
 ·obtain⟨e,n,ne,nf,d⟩:=I.pin p hp
  exact⟨p.2,W.hideAll_get _ e fun z=>by
   rcases List.mem_cons.mp (I.stkSub _ z) with q|q
   ·exact ne q
   ·exact nf q⟩
 ·obtain⟨o',e'⟩:=I.base.there b o e nx
  exact⟨o',W.hideAll_get _ e' nf⟩
theorem wC (I:L2.Inv X ag σ H s):s.heap.FunFrames (W.hideAll s.heap (rF X.stack)) X.stack:=
 W.funFrames_hide I.stack fun env he b hb=>List.mem_filterMap.mpr ⟨env,he,hb⟩
theorem Al {vs:List Value}{h:Heap}(I:L2.Inv X ag σ H {s with heap:=h})(m:Heap.MadeExcOf h s.heap a (.ref C) vs):H a=none:=by
 cases q:H a with
 | none=>rfl
 | some o=>
  obtain⟨u,e⟩:=p9 (I.hok a o q)
  have e:h.get? a=some u:=e
  rw[m.new] at e;cases e
end
def gU (P:Program)(w:World):AU:=fun outer H s E e s'=>∃a C H' B a0,e=.ref a∧s'.os=s.os∧AllBare s'.gens∧Un (rF outer) [] H H' s.heap s'.heap∧kS P w H' s'.heap∧H' a=none∧
 Heap.FlyingW B outer a (.ref C) a0 s'.heap∧(∀b o,H' b=some o→∃o',B.get? b=some o')∧(∀b o,s.heap.get? b=some o→b∉rF outer→∃o',B.get? b=some o')∧E (.ref C) (some a) H'
variable{mg:Str→Option Value}{base:Heap}{scope:Scope}{f:Addr}{A:Around}{s:Shared}{E:XK}
theorem mQ {N:List Str}{qual:Str}{cdv:Value}{outer:List Env}{s':Shared}{H':Hp}{C:Addr}
  (fl:Nn (gX (gU P w) P w K mg base N qual scope f cdv A outer s H E) H' a C s') (hE:E (.ref C) (some a) H'):(gX (gU P w) P w K mg base N qual scope f cdv A outer s H E).xe (.ref a) s':=by
 show wpAny (model P w) (A.deeper (envOfC qual scope s.heap.objs.size f cdv)) (leaving (envOfC qual scope s.heap.objs.size f cdv) (.ref a)) (fun _ s''=>gU P w outer H s E (.ref a) s'') (fun e' s''=>gU P w outer H s E e' s'') s'
 obtain⟨ag,σ,fl⟩:=fl
 have key:∀(B:Heap) (a0:Value) (h':Heap) (I:L2.Inv (gX (gU P w) P w K mg base N qual scope f cdv A outer s H E) ag σ H' s'),B.StaysIn s'.heap→K8 (gX (gU P w) P w K mg base N qual scope f cdv A outer s H E) ag H' B→H' a=none→
   Heap.FlyingW B outer a (.ref C) a0 h'→s'.heap.UpToSlots h'→gU P w outer H s E (.ref a) {s' with heap:=h'}:=fun B a0 h' I hB gW hn fl' up=>by
  have I':=CU I gW hB fl'.1 up
  refine⟨a,C,H',B,a0,rfl,I'.os,I'.bare,I'.base,I'.hok,hn,fl',gW.trk,fun b o e nf=>?_,hE⟩
  exact gW.old b o e (by show b∉([]:List Addr);simp) (vf I e nf)
 rcases fl with⟨h,vs,I,m⟩|⟨I,hn,B,a0,fl,gW⟩|⟨I,hn,B,a0,L,hL,held,gW⟩
 ·have gW:=Bw I
  have hid:∀b o,(W.hideAll h (rF (gX (gU P w) P w K mg base N qual scope f cdv A outer s H E).stack)).get? b=some o→h.get? b=some o:=fun b o q=>W.of_hideAll _ q
  refine wpAny_leaves_madeW (env:=envOfC qual scope s.heap.objs.size f cdv) (outer:=outer) I.ok.frames rfl hid (wC I) m fun h' t x1 x2 x3 x4=>?_
  exact key _ _ h' (I.kept (t':=s'.toks) (h':=s'.heap) m.keeps) (fun b o q=>m.keeps b o (hid b o q)) gW (Al I m) x1 x4
 ·refine wpAny_leaves_onW (env:=envOfC qual scope s.heap.objs.size f cdv) (outer:=outer) I.ok.frames rfl fl fun h' x1 x2=>?_
  exact key B a0 h' I fl.1 gW hn x1 x2
 ·unfold leaving
  refine wpAny_bind (wpAny_noteFrame_againW hL held.2.2.2 ?_)
  refine wpAny_landsW held fun h' x1 x2=>?_
  obtain⟨k1,k2,⟨_,_,k3⟩,k4⟩:=x1
  exact key B a0 h' I held.1 gW hn ⟨k1,k2,k3,k4⟩ x2
variable{ag:List (Addr×Obj)}{σ:L2.St}
theorem zK {X:Cx}{e:Value}{s':Shared}(I:L2.Inv X ag σ H s)(h:gU X.prog X.w X.stack H s E e s'):∃a C H',e=.ref a∧Nn X H' a C s'∧E (.ref C) (some a) H':=by
 obtain⟨a,C,H',B,a0,rfl,os,bare,un,hok,hn,fl,trk,old,hE⟩:=h
 refine⟨a,C,H',rfl,⟨ag,σ,.inr (.inl ⟨I.call' os un hok bare (fun b z=>absurd z (by simp)),hn,B,a0,fl,trk,fun p hp=>?_,fun b o eb nx nf=>?_⟩)⟩,hE⟩
 ·obtain⟨eb,n,ne,nf,d⟩:=I.pin p hp
  exact old p.1 p.2 eb fun z=>by
   rcases List.mem_cons.mp (I.stkSub _ z) with q|q
   ·exact ne q
   ·exact nf q
 ·obtain⟨o',e'⟩:=I.base.there b o eb nx
  exact old b o' e' nf
inductive D where
 | non|bl (b:Bool)|int (i:Int)|str (x:Str)|tup (xs:List D)|lst (xs:List D)|ro (xs:List D)|mr (i:Nat)|exc (c:Str)|any
instance:Inhabited D:=⟨.non⟩
inductive MO where
 | lst (xs:List D)|obj (c:Str) (fs:List (Str×D))|dK (kvs:List (dB×D))|dT (kvs:List (List dB×D))
instance:Inhabited MO:=⟨.lst []⟩
abbrev aB:=List MO
abbrev cn:=List (Option D)
inductive bg (α:Type) where
 | ok (a:α) (M:aB)
 | err (c:Str) (M:aB)
 | bad
def bg.bind {α β:Type}(o:bg α)(f:α→aB→bg β):bg β:=
 match o with
 | .ok a M=>f a M
 | .err c M=>.err c M
 | .bad=>.bad
@[simp] theorem aj {α β:Type} (a:α) (M:aB) (f:α→aB→bg β):(bg.ok a M).bind f=f a M:=by rw[bg.bind]
@[simp] theorem Kd {α β:Type} (c:Str) (M:aB) (f:α→aB→bg β):(bg.err c M:bg α).bind f=.err c M:=by rw[bg.bind]
@[simp] theorem Ko {α β:Type} (f:α→aB→bg β):(bg.bad:bg α).bind f=.bad:=by rw[bg.bind]
def Ow (K:W.Frag)(a:Addr)(xs:List V):Prop:=∃(o:Obj) (its:Array Value) (n:Nat),K.lookup a=some o∧o.cls=.type "tuple"∧o.data=.seq its n∧its.size≤sizeLine∧aW xs its.toList
def KL (K:W.Frag)(a:Addr)(xs:List V):Prop:=∃(o:Obj) (its:Array Value) (n:Nat),K.lookup a=some o∧o.cls=.type "list"∧o.dict=none∧o.data=.seq its n∧its.size≤sizeLine∧aW xs its.toList
def m3 (K:W.Frag)(θ:List Addr)(H:Hp)(a:Addr)(xs:List V):Prop:=H a=some (.tup xs)∧a∉θ
def sj (θ:List Addr)(H:Hp)(a:Addr)(xs:List V):Prop:=H a=some (.lst xs)∧a∉θ
def rN (K:W.Frag)(θ:List Addr)(H:Hp)(a:Addr)(xs:List V):Prop:=(Rd H a (.lst xs)∧a∉θ)∨KL K a xs
variable{θ:List Addr}{xs:List V}
theorem m3.sq (h:m3 K θ H a xs):ph K H a xs:=.inl (.inl h.1)
theorem sj.sq (h:sj θ H a xs):mV K H a xs:=.inl (.inl h.1)
theorem rN.sq (h:rN K θ H a xs):mV K H a xs:=by
 rcases h with⟨h,_⟩|h
 ·exact .inl h
 ·exact .inr h
def Nw (a C:Addr):HO:=.ext fun h=>∃o,h.get? a=some o∧o.cls=.ref C
mutual
def dX (K:W.Frag)(θ:List Addr)(H:Hp):D→V→Prop
 | .non,v=>v=.non
 | .bl b,v=>v=.bl b
 | .int i,v=>v=.int i
 | .str x,v=>v=.str x
 | .tup ds,v=>∃a vs,v=.ref a∧m3 K θ H a vs∧bn K θ H ds vs
 | .lst ds,v=>∃a vs,v=.ref a∧sj θ H a vs∧bn K θ H ds vs
 | .ro ds,v=>∃a vs,v=.ref a∧rN K θ H a vs∧bn K θ H ds vs
 | .mr i,v=>∃a,v=.ref a∧θ[i]?=some a
 | .exc c,v=>∃a C,v=.ref a∧iG K c C∧H a=some (Nw a C)∧a∉θ
 | .any,_=>True
def bn (K:W.Frag)(θ:List Addr)(H:Hp):List D→List V→Prop
 | [],vs=>vs=[]
 | d::ds,vs=>∃v r,vs=v::r∧dX K θ H d v∧bn K θ H ds r
end
def nG (K:W.Frag)(θ:List Addr)(H:Hp):List (Str×D)→List (Str×V)→Prop
 | [],vs=>vs=[]
 | (f,d)::fs,vs=>∃v r,vs=(f,v)::r∧dX K θ H d v∧nG K θ H fs r
def pN {κ:Type}(K:W.Frag)(θ:List Addr)(H:Hp):List (κ×D)→List (κ×V)→Prop
 | [],vs=>vs=[]
 | (k,d)::fs,vs=>∃v r,vs=(k,v)::r∧dX K θ H d v∧pN K θ H fs r
def rY (K:W.Frag)(θ:List Addr)(H:Hp):MO→Addr→Prop
 | .lst ds,a=>∃vs,H a=some (.lst vs)∧bn K θ H ds vs
 | .obj c fs,a=>∃C dx vs,iG K c C∧H a=some (.ins C dx vs)∧nG K θ H fs vs
 | .dK kvs,a=>∃vs,H a=some (.dK vs)∧pN K θ H kvs vs
 | .dT kvs,a=>∃vs,H a=some (.dT vs)∧pN K θ H kvs vs
def ck:List Str:=["ink_shown","table_within","slots_given","cast_on_slots"]
def bZ (x:Str):Str:=x++(".<locals>.<lambda>":Str)
def iU (c:Addr)(q:Str):HO:=.ext fun h=>h.CodeRec (.ref c) q
def Nh (ob:Obj):HO:=.frz ob (.ext fun _=>True)
structure ma (K:W.Frag)(H:Hp):Prop where
 tab:∀x,x∈ck→∀c P,W.tabIn K x=some (c,P)→∃ps,H P=some (.tbl ps)∧TriplesOk ps.toList∧∀pos cv,codeAmong pos ps.toList=some cv→∃c',cv=.ref c'∧H c'=some (iU c' (bZ x))
 bm:∀x,x∈ck→∀c P,W.tabIn K x=some (c,P)→∃bm ob,W.nsIn K mainGlobals "__builtins__"=some (some (.ref bm))∧H bm=some (Nh ob)∧ob.cls=.type "module"∧ob.dict=some builtinsNs∧ob.data=.plain∧bm≠builtinsNs∧bm≠mainGlobals
theorem ma.of {H':Hp}(t:ma K H)(k1:∀b ps,H b=some (.tbl ps)→H' b=some (.tbl ps))(k2:∀b φ,H b=some (.ext φ)→H' b=some (.ext φ))(k3:∀b o u,H b=some (.frz o u)→H' b=some (.frz o u)):ma K H':=
 ⟨fun x hx c P e=>by
  obtain⟨ps,h1,h2,h3⟩:=t.tab x hx c P e
  refine⟨ps,k1 _ _ h1,h2,fun pos cv q=>?_⟩
  obtain⟨c',e1,e2⟩:=h3 pos cv q
  exact⟨c',e1,k2 _ _ e2⟩,fun x hx c P e=>by
  obtain⟨bm,ob,e1,e2,r⟩:=t.bm x hx c P e
  exact⟨bm,ob,e1,k3 _ _ _ e2,r⟩⟩
theorem ma.new {p:Addr}(t:ma K H)(hp:H p=none):ma K (ce H p o):=
 t.of (fun b ps e=>by rw[aC (bD e hp)];exact e) (fun b φ e=>by rw[aC (bD e hp)];exact e) fun b o u e=>by rw[aC (bD e hp)];exact e
def yK:HO→Bool
 | .tbl _=>false
 | .ext _=>false
 | .frz _ _=>false
 | _=>true
theorem ma.at_ {u:HO}(t:ma K H)(ha:H a=some u)(hu:yK u=true):ma K (ce H a o):=
 t.of (fun b ps e=>by rw[aC (wG e ha (by intro z;subst z;cases hu))];exact e) (fun b φ e=>by rw[aC (wG e ha (by intro z;subst z;cases hu))];exact e) fun b o u e=>by rw[aC (wG e ha (by intro z;subst z;cases hu))];exact e
structure Wr (K:W.Frag)(θ:List Addr)(H:Hp)(M:aB):Prop where
 len:θ.length=M.length
 nd:θ.Nodup
 at_:∀(i:Nat) a m,θ[i]?=some a→M[i]?=some m→rY K θ H m a
 tb:ma K H
structure kK (K:W.Frag)(θ:List Addr)(H:Hp)(σ:L2.St)(ρ:cn):Prop where
 len:ρ.length=σ.length
 at_:∀(i:Nat) d,ρ[i]?=some (some d)→∃v,σ[i]?=some (some v)∧dX K θ H d v
structure Grow (θ:List Addr)(H:Hp)(θ':List Addr)(H':Hp):Prop where
 ext:∃more,θ'=θ++more∧∀a∈more,H a=none
 keep:∀b o,H b=some o→b∉θ→(∀ps,o≠.tbl ps)→H' b=some o
 tkeep:∀b ps,H b=some (.tbl ps)→∃ps',H' b=some (.tbl ps')
structure Go (K:W.Frag)(θ:List Addr)(H:Hp)(θ':List Addr)(H':Hp)(M':aB):Prop extends Grow θ H θ' H' where
 wr:Wr K θ' H' M'
variable{m:MO}{i:Nat}{d:D}{v:V}{ds:List D}{vs:List V}
section
variable {K:W.Frag}{θ θ' θ1 θ2:List Addr}{H H' H1 H2:Hp}{M M' M1 M2:aB}{a p:Addr}{σ:L2.St}{ρ:cn}
theorem Wr.tracked (w:Wr K θ H M)(h:a∈θ):H a≠none:=by
 obtain⟨i,hi,e⟩:=List.mem_iff_getElem.mp h
 have h1:θ[i]?=some a:=by rw[List.getElem?_eq_getElem hi,e]
 have h2:i<M.length:=by rw[←w.len];exact hi
 have h3:=w.at_ i a _ h1 (List.getElem?_eq_getElem h2)
 cases q:M[i] with
 | lst ds=>
  rw[q] at h3
  obtain⟨vs,e,_⟩:=h3
  rw[e];simp
 | obj c fs=>
  rw[q] at h3
  obtain⟨C,dx,vs,_,e,_⟩:=h3
  rw[e];simp
 | dK kvs=>
  rw[q] at h3
  obtain⟨vs,e,_⟩:=h3
  rw[e];simp
 | dT kvs=>
  rw[q] at h3
  obtain⟨vs,e,_⟩:=h3
  rw[e];simp
theorem rY.plain (h:rY K θ H m a):∃o,H a=some o∧yK o=true:=by
 cases m with
 | lst ds=>obtain⟨vs,e,_⟩:=h;exact⟨_,e,rfl⟩
 | obj c fs=>obtain⟨C,dx,vs,_,e,_⟩:=h;exact⟨_,e,rfl⟩
 | dK kvs=>obtain⟨vs,e,_⟩:=h;exact⟨_,e,rfl⟩
 | dT kvs=>obtain⟨vs,e,_⟩:=h;exact⟨_,e,rfl⟩
theorem Wr.plain (w:Wr K θ H M)(h:θ[i]?=some a):∃o,H a=some o∧yK o=true:=by
 have h2:i<M.length:=by rw[←w.len];exact(List.getElem?_eq_some_iff.mp h).1
 exact(w.at_ i a _ h (List.getElem?_eq_getElem h2)).plain
theorem Wr.fresh (w:Wr K θ H M)(h:H p=none):p∉θ:=fun z=>w.tracked z h
theorem Grow.refl (θ:List Addr)(H:Hp):Grow θ H θ H:=⟨⟨[],by simp,fun _ z=>by cases z⟩,fun _ _ h _ _=>h,fun b ps e=>⟨ps,e⟩⟩
theorem Go.refl (w:Wr K θ H M):Go K θ H θ H M:=⟨.refl θ H,w⟩
theorem Go.trans (a:Go K θ H θ1 H1 M1)(b:Go K θ1 H1 θ2 H2 M2):Go K θ H θ2 H2 M2:=by
 obtain⟨m1,e1,f1⟩:=a.ext
 obtain⟨m2,e2,f2⟩:=b.ext
 refine⟨⟨⟨m1++m2,by rw[e2,e1,List.append_assoc],fun x hx=>?_⟩,fun x o hx nx nt=>?_,fun x ps e=>?_⟩,b.wr⟩
 ·rcases List.mem_append.mp hx with z|z
  ·exact f1 x z
  ·cases q:H x with
   | none=>rfl
   | some o=>
    have nx:x∉θ:=by
     intro y
     have nd:=b.wr.nd
     rw[e2] at nd
     have y1:x∈θ1:=by rw[e1];exact List.mem_append_left _ y
     exact(List.nodup_append.mp nd).2.2 x y1 x z rfl
    exfalso
    by_cases nt:∃ps,o=.tbl ps
    ·obtain⟨ps,rfl⟩:=nt
     obtain⟨ps',e'⟩:=a.tkeep x ps q
     rw[f2 x z] at e';cases e'
    ·have:=a.keep x o q nx fun ps e'=>nt ⟨ps,e'⟩
     rw[f2 x z] at this;cases this
 ·have h1:=a.keep x o hx nx nt
  refine b.keep x o h1 ?_ nt
  rw[e1]
  intro z
  rcases List.mem_append.mp z with z|z
  ·exact nx z
  ·rw[f1 x z] at hx;cases hx
 ·obtain⟨ps',e'⟩:=a.tkeep x ps e
  exact b.tkeep x ps' e'
theorem Grow.notin (g:Grow θ H θ' H')(h:H a=some o)(n:a∉θ):a∉θ':=by
 obtain⟨m,e,f⟩:=g.ext
 rw[e]
 intro z
 rcases List.mem_append.mp z with z|z
 ·exact n z
 ·rw[f a z] at h;cases h
theorem m3.grow (g:Grow θ H θ' H')(h:m3 K θ H a xs):m3 K θ' H' a xs:=⟨g.keep _ _ h.1 h.2 (by intro _ z;cases z),g.notin h.1 h.2⟩
theorem sj.grow (g:Grow θ H θ' H')(h:sj θ H a xs):sj θ' H' a xs:=⟨g.keep _ _ h.1 h.2 (by intro _ z;cases z),g.notin h.1 h.2⟩
theorem rN.grow (g:Grow θ H θ' H')(h:rN K θ H a xs):rN K θ' H' a xs:=by
 rcases h with⟨h|⟨o,h⟩,n⟩|h
 ·exact .inl ⟨.inl (g.keep _ _ h n (by intro _ z;cases z)),g.notin h n⟩
 ·exact .inl ⟨.inr ⟨o,g.keep _ _ h n (by intro _ z;cases z)⟩,g.notin h n⟩
 ·exact .inr h
mutual
theorem mZ (g:Grow θ H θ' H'):∀(d:D) (v:V),dX K θ H d v→dX K θ' H' d v
 | .non,v,h=>h
 | .bl b,v,h=>h
 | .int i,v,h=>h
 | .str x,v,h=>h
 | .tup ds,v,h=>by
  obtain⟨a,vs,e,t,r⟩:=h
  exact⟨a,vs,e,t.grow g,dD g ds vs r⟩
 | .lst ds,v,h=>by
  obtain⟨a,vs,e,t,r⟩:=h
  exact⟨a,vs,e,t.grow g,dD g ds vs r⟩
 | .ro ds,v,h=>by
  obtain⟨a,vs,e,t,r⟩:=h
  exact⟨a,vs,e,t.grow g,dD g ds vs r⟩
 | .mr i,v,h=>by
  obtain⟨a,e,t⟩:=h
  obtain⟨m,em,_⟩:=g.ext
  refine⟨a,e,?_⟩
  rw[em,List.getElem?_append_left (List.getElem?_eq_some_iff.mp t).1]
  exact t
 | .exc c,v,h=>by
  obtain⟨a,C,e,k,t,n⟩:=h
  exact⟨a,C,e,k,g.keep _ _ t n (by intro _ z;cases z),g.notin t n⟩
 | .any,v,h=>h
theorem dD (g:Grow θ H θ' H'):∀(ds:List D) (vs:List V),bn K θ H ds vs→bn K θ' H' ds vs
 | [],vs,h=>h
 | d::ds,vs,h=>by
  obtain⟨v,r,e,h1,h2⟩:=h
  exact⟨v,r,e,mZ g d v h1,dD g ds r h2⟩
end
theorem dX.go (h:dX K θ H d v)(g:Go K θ H θ' H' M'):dX K θ' H' d v:=mZ g.toGrow d v h
theorem bn.go (h:bn K θ H ds vs)(g:Go K θ H θ' H' M'):bn K θ' H' ds vs:=dD g.toGrow ds vs h
theorem kK.go (h:kK K θ H σ ρ)(g:Go K θ H θ' H' M'):kK K θ' H' σ ρ:=⟨h.len,fun i d e=>let ⟨v,e1,e2⟩:=h.at_ i d e;⟨v,e1,e2.go g⟩⟩
theorem ay:∀{ds:List D} {vs:List V},bn K θ H ds vs→ds.length=vs.length
 | [],vs,h=>by cases (show vs=[] from h);rfl
 | d::ds,vs,h=>by
  obtain⟨v,r,e,_,h2⟩:=h
  subst e
  rw[List.length_cons,List.length_cons,ay h2]
theorem dW:∀{ds es:List D} {vs us:List V},bn K θ H ds vs→bn K θ H es us→bn K θ H (ds++es) (vs++us)
 | [],es,vs,us,h,k=>by cases (show vs=[] from h);exact k
 | d::ds,es,vs,us,h,k=>by
  obtain⟨v,r,e,h1,h2⟩:=h
  subst e
  exact⟨v,r++us,rfl,h1,dW h2 k⟩
theorem fX:∀{ds:List D} {vs:List V} {i:Nat} {d:D},bn K θ H ds vs→ds[i]?=some d→∃v,vs[i]?=some v∧dX K θ H d v
 | [],vs,i,d,h,e=>by simp at e
 | x::ds,vs,0,d,h,e=>by
  obtain⟨v,r,e1,h1,h2⟩:=h
  subst e1
  simp at e;subst e
  exact⟨v,rfl,h1⟩
 | x::ds,vs,i+1,d,h,e=>by
  obtain⟨v,r,e1,h1,h2⟩:=h
  subst e1
  obtain⟨u,e2,h3⟩:=fX (i:=i) h2 (by simpa using e)
  exact⟨u,by simpa using e2,h3⟩
theorem sP:∀{ds:List D} {vs:List V} (n:Nat),bn K θ H ds vs→bn K θ H (ds.take n) (vs.take n)
 | ds,vs,0,h=>by rw[List.take_zero,List.take_zero];exact rfl
 | [],vs,n+1,h=>by cases (show vs=[] from h);exact rfl
 | d::ds,vs,n+1,h=>by
  obtain⟨v,r,e,h1,h2⟩:=h
  subst e
  exact⟨v,r.take n,rfl,h1,sP n h2⟩
theorem sd:∀{ds:List D} {vs:List V} (n:Nat),bn K θ H ds vs→bn K θ H (ds.drop n) (vs.drop n)
 | ds,vs,0,h=>h
 | [],vs,n+1,h=>by cases (show vs=[] from h);exact rfl
 | d::ds,vs,n+1,h=>by
  obtain⟨v,r,e,h1,h2⟩:=h
  subst e
  exact sd n h2
theorem wx {d:D}{v:V}(hd:dX K θ H d v):∀{ds:List D} {vs:List V} (i:Nat),bn K θ H ds vs→bn K θ H (ds.set i d) (vs.set i v)
 | [],vs,i,h=>by cases (show vs=[] from h);exact rfl
 | x::ds,vs,0,h=>by
  obtain⟨u,r,e,h1,h2⟩:=h
  subst e
  exact⟨v,r,rfl,hd,h2⟩
 | x::ds,vs,i+1,h=>by
  obtain⟨u,r,e,h1,h2⟩:=h
  subst e
  exact⟨u,r.set i v,rfl,h1,wx hd i h2⟩
theorem nN (w:Wr K θ H M)(hp:H p=none):Grow θ H θ (ce H p o):=
 ⟨⟨[],by simp,fun _ z=>by cases z⟩,fun b u h _ _=>by rw[aC (bD h hp)];exact h,fun b ps h=>⟨ps,by rw[aC (bD h hp)];exact h⟩⟩
theorem nQ (g:Grow θ H θ' H'):∀{fs:List (Str×D)} {vs:List (Str×V)},nG K θ H fs vs→nG K θ' H' fs vs
 | [],vs,h=>h
 | (f,d)::fs,vs,h=>by
  obtain⟨v,r,e,h1,h2⟩:=h
  exact⟨v,r,e,mZ g d v h1,nQ g h2⟩
theorem jF {κ:Type}(g:Grow θ H θ' H'):∀{fs:List (κ×D)} {vs:List (κ×V)},pN K θ H fs vs→pN K θ' H' fs vs
 | [],vs,h=>h
 | (f,d)::fs,vs,h=>by
  obtain⟨v,r,e,h1,h2⟩:=h
  exact⟨v,r,e,mZ g d v h1,jF g h2⟩
theorem rY.grow (g:Grow θ H θ' H')(hs:H' a=H a)(h:rY K θ H m a):rY K θ' H' m a:=by
 cases m with
 | lst ds=>
  obtain⟨vs,e,r⟩:=h
  exact⟨vs,by rw[hs];exact e,dD g ds vs r⟩
 | obj c fs=>
  obtain⟨C,dx,vs,k,e,r⟩:=h
  exact⟨C,dx,vs,k,by rw[hs];exact e,nQ g r⟩
 | dK kvs=>
  obtain⟨vs,e,r⟩:=h
  exact⟨vs,by rw[hs];exact e,jF g r⟩
 | dT kvs=>
  obtain⟨vs,e,r⟩:=h
  exact⟨vs,by rw[hs];exact e,jF g r⟩
theorem dG (w:Wr K θ H M)(hp:H p=none):Go K θ H θ (ce H p o) M:=
 ⟨nN w hp,w.len,w.nd,fun i a m h1 h2=>by
  have ha:a≠p:=fun e=>w.fresh hp (by rw[←e];exact List.mem_of_getElem? h1)
  exact(w.at_ i a m h1 h2).grow (nN w hp) (aC ha),w.tb.new hp⟩
theorem hU (w:Wr K θ H M)(hp:H p=none)(r:bn K θ H ds vs):dX K θ (ce H p (.tup vs)) (.tup ds) (.ref p):=
 ⟨p,vs,rfl,⟨bF,w.fresh hp⟩,dD (nN w hp) ds vs r⟩
theorem jd (w:Wr K θ H M)(hp:H p=none)(r:bn K θ H ds vs):dX K θ (ce H p (.lst vs)) (.lst ds) (.ref p):=
 ⟨p,vs,rfl,⟨bF,w.fresh hp⟩,dD (nN w hp) ds vs r⟩
theorem sJ (hp:H p=none):Grow θ H (θ++[p]) (ce H p o):=
 ⟨⟨[p],rfl,fun a ha=>by rw[List.mem_singleton.mp ha];exact hp⟩,fun b u h _ _=>by rw[aC (bD h hp)];exact h,fun b ps h=>⟨ps,by rw[aC (bD h hp)];exact h⟩⟩
theorem uA (w:Wr K θ H M)(hp:H p=none)(hm:rY K (θ++[p]) (ce H p o) m p):Go K θ H (θ++[p]) (ce H p o) (M++[m]):=by
 have np:=w.fresh hp
 have g:Grow θ H (θ++[p]) (ce H p o):=sJ hp
 refine⟨g,by rw[List.length_append,List.length_append,w.len];rfl,?_,fun i a m' h1 h2=>?_,w.tb.new hp⟩
 ·rw[List.nodup_append]
  exact⟨w.nd,by simp,fun x hx y hy e=>np (by rw[List.mem_singleton.mp hy] at e;rw[←e];exact hx)⟩
 ·by_cases hi:i<θ.length
  ·rw[List.getElem?_append_left hi] at h1
   rw[List.getElem?_append_left (by rw[←w.len];exact hi)] at h2
   have ha:a≠p:=fun e=>np (by rw[←e];exact List.mem_of_getElem? h1)
   exact(w.at_ i a m' h1 h2).grow g (aC ha)
  ·have hi':i=θ.length:=by
    have:=(List.getElem?_eq_some_iff.mp h1).1
    rw[List.length_append,List.length_singleton] at this
    omega
   subst hi'
   rw[List.getElem?_append_right (Nat.le_refl _)] at h1
   rw[List.getElem?_append_right (by rw[w.len];exact Nat.le_refl _)] at h2
   simp only[Nat.sub_self,w.len,List.getElem?_cons_zero,Option.some.injEq] at h1 h2
   subst h1;subst h2
   exact hm
theorem GR (w:Wr K θ H M)(hp:H p=none)(r:bn K θ H ds vs):Go K θ H (θ++[p]) (ce H p (.lst vs)) (M++[.lst ds]):=
 uA w hp ⟨vs,bF,dD (sJ hp) ds vs r⟩
theorem m4 (w:Wr K θ H M)(hi:θ[i]?=some a):Grow θ H θ (ce H a o):=by
 have ha:a∈θ:=List.mem_of_getElem? hi
 obtain⟨u,hu,pu⟩:=w.plain hi
 exact⟨⟨[],by simp,fun _ z=>by cases z⟩,fun b u h n _=>by rw[aC (fun e=>n (by rw[e];exact ha))];exact h,fun b ps h=>⟨ps,by rw[aC (wG h hu (by intro z;subst z;cases pu))];exact h⟩⟩
theorem pJ (w:Wr K θ H M)(hi:θ[i]?=some a)(hm:rY K θ (ce H a o) m a):Go K θ H θ (ce H a o) (M.set i m):=by
 have g:Grow θ H θ (ce H a o):=m4 w hi
 obtain⟨u,hu,pu⟩:=w.plain hi
 refine⟨g,by rw[List.length_set];exact w.len,w.nd,fun j b m' h1 h2=>?_,w.tb.at_ hu pu⟩
 by_cases hj:j=i
 ·subst hj
  rw[hi] at h1;cases h1
  have hl:j<M.length:=by rw[←w.len];exact(List.getElem?_eq_some_iff.mp hi).1
  rw[List.getElem?_set_self hl] at h2
  cases h2
  exact hm
 ·rw[List.getElem?_set_ne (Ne.symm hj)] at h2
  have hb:b≠a:=fun e=>by
   subst e
   obtain⟨h3,e3⟩:=List.getElem?_eq_some_iff.mp h1
   obtain⟨h4,e4⟩:=List.getElem?_eq_some_iff.mp hi
   exact hj ((List.getElem_inj w.nd).mp (e3.trans e4.symm))
  exact(w.at_ j b m' h1 h2).grow g (aC hb)
theorem yx {ds ds':List D}{vs':List V}(w:Wr K θ H M)(hi:θ[i]?=some a)(r:bn K θ H ds' vs'):Go K θ H θ (ce H a (.lst vs')) (M.set i (.lst ds')):=
 pJ w hi ⟨vs',bF,dD (m4 w hi) ds' vs' r⟩
end
abbrev GE:=cn→aB→bg D
abbrev GT:=cn→aB→bg Bool
abbrev GA:=cn→aB→bg (List D)
inductive Fl where
 | nx (ρ:cn)|rt (d:D)|bk (ρ:cn)|ct (ρ:cn)
abbrev GS:=cn→aB→bg Fl
def eT (X:Cx)(θ:List Addr)(H:Hp)(c:Str)(M:aB):Prop:=∀C θ' H' a s',iG X.K c C→Go X.K θ H θ' H' M→Nn X H' a C s'→X.xe (.ref a) s'
def aP (X:Cx)(θ:List Addr)(H:Hp)(Q:VK):bg D→Prop
 | .ok d M'=>∀v θ' H',Go X.K θ H θ' H' M'→dX X.K θ' H' d v→Q v H'
 | .err c M'=>eT X θ H c M'
 | .bad=>False
def oe (X:Cx)(θ:List Addr)(H:Hp)(Q:Bool→Hp→Prop):bg Bool→Prop
 | .ok b M'=>∀θ' H',Go X.K θ H θ' H' M'→Q b H'
 | .err c M'=>eT X θ H c M'
 | .bad=>False
def Ah (X:Cx)(θ:List Addr)(H:Hp)(Q:List V→Hp→Prop):bg (List D)→Prop
 | .ok ds M'=>∀vs θ' H',Go X.K θ H θ' H' M'→bn X.K θ' H' ds vs→Q vs H'
 | .err c M'=>eT X θ H c M'
 | .bad=>False
def cL (X:Cx)(θ:List Addr)(H:Hp)(D:AF):bg Fl→Prop
 | .ok (.nx ρ) M'=>∀σ θ' H',Go X.K θ H θ' H' M'→kK X.K θ' H' σ ρ→D.nx σ H'
 | .ok (.bk ρ) M'=>∀σ θ' H',Go X.K θ H θ' H' M'→kK X.K θ' H' σ ρ→D.bk σ H'
 | .ok (.ct ρ) M'=>∀σ θ' H',Go X.K θ H θ' H' M'→kK X.K θ' H' σ ρ→D.ct σ H'
 | .ok (.rt d) M'=>∀v θ' H',Go X.K θ H θ' H' M'→dX X.K θ' H' d v→D.rt v H'
 | .err c M'=>eT X θ H c M'
 | .bad=>False
def tE (X:Cx)(g:GE):TE:=fun σ H Q=>∃ρ θ M,kK X.K θ H σ ρ∧Wr X.K θ H M∧aP X θ H Q (g ρ M)
def tT (X:Cx)(g:GT):TT:=fun σ H Q=>∃ρ θ M,kK X.K θ H σ ρ∧Wr X.K θ H M∧oe X θ H Q (g ρ M)
def tA (X:Cx)(g:GA):TA:=fun σ H Q=>∃ρ θ M,kK X.K θ H σ ρ∧Wr X.K θ H M∧Ah X θ H Q (g ρ M)
def tS (X:Cx)(g:GS):TS:=fun D σ H=>∃ρ θ M,kK X.K θ H σ ρ∧Wr X.K θ H M∧cL X θ H D (g ρ M)
variable{M:aB}{Q:Bool→Hp→Prop}
section
variable {X:Cx}{θ θ':List Addr}{H H':Hp}{M':aB}
theorem eT.go {c:Str}(g:Go X.K θ H θ' H' M')(h:eT X θ H c M):eT X θ' H' c M:=fun C θ2 H2 a s' k g2 fl=>h C θ2 H2 a s' k (g.trans g2) fl
theorem aP.go {Q:VK}{o:bg D}(g:Go X.K θ H θ' H' M')(h:aP X θ H Q o):aP X θ' H' Q o:=by
 cases o with
 | ok d M=>exact fun v θ2 H2 g2=>h v θ2 H2 (g.trans g2)
 | err c M=>exact eT.go (c:=c) (M:=M) g h
 | bad=>exact h
theorem oe.go {o:bg Bool}(g:Go X.K θ H θ' H' M')(h:oe X θ H Q o):oe X θ' H' Q o:=by
 cases o with
 | ok d M=>exact fun θ2 H2 g2=>h θ2 H2 (g.trans g2)
 | err c M=>exact eT.go (c:=c) (M:=M) g h
 | bad=>exact h
theorem Ah.go {Q:List V→Hp→Prop}{o:bg (List D)}(g:Go X.K θ H θ' H' M')(h:Ah X θ H Q o):Ah X θ' H' Q o:=by
 cases o with
 | ok d M=>exact fun v θ2 H2 g2=>h v θ2 H2 (g.trans g2)
 | err c M=>exact eT.go (c:=c) (M:=M) g h
 | bad=>exact h
theorem cL.go {D:AF}{o:bg Fl}(g:Go X.K θ H θ' H' M')(h:cL X θ H D o):cL X θ' H' D o:=by
 cases o with
 | ok f M=>cases f <;> exact fun v θ2 H2 g2=>h v θ2 H2 (g.trans g2)
 | err c M=>exact eT.go (c:=c) (M:=M) g h
 | bad=>exact h
end
variable{c:Expr}{es:List Expr}{g ga gb:GE}{ρ:cn}{pos:Pos}{op:CmpOp}
section
variable {X:Cx}{e:Expr}
theorem _root_.L2.PE.of {t t':TE}(h:PE X e t)(w:∀σ H Q,t' σ H Q→t σ H Q):PE X e t':=fun ag s σ H Q I q=>h ag s σ H Q I (w σ H Q q)
theorem _root_.L2.PT.of {t t':TT}(h:PT X e t)(w:∀σ H Q,t' σ H Q→t σ H Q):PT X e t':=fun ag s σ H Q I q=>h ag s σ H Q I (w σ H Q q)
theorem _root_.L2.PW.of {t t':TT}(h:PW X e t)(w:∀σ H Q,t' σ H Q→t σ H Q):PW X e t':=fun wh ag s σ H Q I q=>h wh ag s σ H Q I (w σ H Q q)
theorem _root_.L2.PA.of {t t':TA}(h:PA X es t)(w:∀σ H Q,t' σ H Q→t σ H Q):PA X es t':=fun pos ag s σ H Q I q=>h pos ag s σ H Q I (w σ H Q q)
theorem _root_.L2.PS.of {st:Stmt}{t t':TS}(h:PS X st t)(w:∀D σ H,t' D σ H→t D σ H):PS X st t':=fun ag s σ H D I q=>h ag s σ H D I (w D σ H q)
theorem _root_.L2.PSs.of {st:List Stmt}{t t':TS}(h:PSs X st t)(w:∀D σ H,t' D σ H→t D σ H):PSs X st t':=fun ag s σ H D I q=>h ag s σ H D I (w D σ H q)
theorem bI {Q:VK}{α:Type}(hd:kK X.K θ H σ ρ)(hw:Wr X.K θ H M)(F:bg α→Prop)(Fe:∀c M',F (.err c M')→eT X θ H c M')(Fb:F .bad→False)
  {f:D→aB→bg α} (h:F ((g ρ M).bind f))
  (k:∀d M1 v θ1 H1,Go X.K θ H θ1 H1 M1→dX X.K θ1 H1 d v→F (f d M1)→Q v H1):tE X g σ H Q:=by
 refine⟨ρ,θ,M,hd,hw,?_⟩
 cases q:g ρ M with
 | ok d M1=>
  rw[q] at h
  exact fun v θ1 H1 g1 r1=>k d M1 v θ1 H1 g1 r1 h
 | err c M1=>rw[q] at h;exact Fe c M1 h
 | bad=>rw[q] at h;exact(Fb h).elim
def ae (i:Nat):GE:=fun ρ M=>match ρ[i]? with
 | some (some d)=>.ok d M
 | _=>.bad
def gC (d:D):GE:=fun _ M=>.ok d M
theorem JF (h:PE X e (Kq i)):PE X e (tE X (ae i)):=h.of fun σ H Q ⟨ρ,θ,M,hd,hw,f⟩=>by
 unfold ae at f
 split at f
 ·rename_i d q
  obtain⟨v,e1,r⟩:=hd.at_ i d q
  exact⟨v,e1,f v θ H (.refl hw) r⟩
 ·exact f.elim
theorem Ij {i j pos}:PE X (.Constant (.int i) j pos) (tE X (gC (.int i))):=Cu.of fun σ H Q ⟨ρ,θ,M,hd,hw,f⟩=>f _ θ H (.refl hw) rfl
theorem K1 {b j pos}:PE X (.Constant (.bool b) j pos) (tE X (gC (.bl b))):=Kl.of fun σ H Q ⟨ρ,θ,M,hd,hw,f⟩=>f _ θ H (.refl hw) rfl
theorem Jb {j pos}:PE X (.Constant .none j pos) (tE X (gC .non)):=GX.of fun σ H Q ⟨ρ,θ,M,hd,hw,f⟩=>f _ θ H (.refl hw) rfl
theorem HI {x j pos}:PE X (.Constant (.str x) j pos) (tE X (gC (.str x))):=Jc.of fun σ H Q ⟨ρ,θ,M,hd,hw,f⟩=>f _ θ H (.refl hw) rfl
abbrev F2:=D→D→aB→bg D
def g2 (f:F2)(ga gb:GE):GE:=fun ρ M=>(ga ρ M).bind fun x M1=>(gb ρ M1).bind fun y M2=>f x y M2
def rD (X:Cx)(f:F2):R2:=fun x y H Q=>∃θ M dx dy,Wr X.K θ H M∧dX X.K θ H dx x∧dX X.K θ H dy y∧aP X θ H Q (f dx dy M)
theorem zi {f:F2}{Q:VK}(h:tE X (g2 f ga gb) σ H Q):J3 (rD X f) (tE X ga) (tE X gb) σ H Q:=by
 obtain⟨ρ,θ,M,hd,hw,h⟩:=h
 refine bI hd hw (aP X θ H Q) (fun c M' h=>h) (fun h=>h) h fun dx M1 x θ1 H1 g1 r1 h1=>?_
 refine bI (hd.go g1) g1.wr (aP X θ1 H1 Q) (fun c M' h=>h) (fun h=>h) (h1.go g1) fun dy M2 y θ2 H2 g2 r2 h2=>?_
 exact⟨θ2,M2,dx,dy,g2.wr,r1.go g2,r2,h2.go g2⟩
theorem LH {a b:Expr}{op:Operator}{f:F2}(ho:iK X (binaryOp op) (rD X f))(ha:PE X a (tE X ga))(hb:PE X b (tE X gb)):PE X (.BinOp a op b pos) (tE X (g2 f ga gb)):=
 (LR ho ha hb).of fun _ _ _ h=>zi h
theorem Jm {a b:Expr}{f:F2}(ho:iK X (compareOp op) (rD X f))(ha:PE X a (tE X ga))(hb:PE X b (tE X gb))(hm:behindInMarks op b=false):PE X (.Compare a [op] [b] pos) (tE X (g2 f ga gb)):=
 (EK ho ha hb hm).of fun _ _ _ h=>zi h
def Gq:D→aB→bg Bool
 | .bl b,M=>.ok b M
 | _,_=>.bad
def aS (g:GE):GT:=fun ρ M=>(g ρ M).bind Gq
theorem BY {o:bg D}(h:oe X θ H Q (o.bind Gq)):aP X θ H (fun x H'=>∃k,x=.bl k∧Q k H') o:=by
 cases o with
 | ok d M=>
  cases d with
  | bl b=>exact fun v θ1 H1 g1 r1=>⟨b,r1,h θ1 H1 g1⟩
  | _=>exact h.elim
 | err c M=>exact h
 | bad=>exact h
theorem CB (h:tT X (aS g) σ H Q):tE X g σ H fun x H'=>∃k,x=.bl k∧Q k H':=by
 obtain⟨ρ,θ,M,hd,hw,h⟩:=h
 exact⟨ρ,θ,M,hd,hw,BY h⟩
theorem BB {a b:Expr}{f:F2}(ho:iK X (compareOp op) (rD X f))(ha:PE X a (tE X ga))(hb:PE X b (tE X gb))(hm:behindInMarks op b=false):PT X (.Compare a [op] [b] pos) (tT X (aS (g2 f ga gb))):=
 (Er ho ha hb hm).of fun σ H Q h=>zi (CB h)
def oZ (f f':F2)(ga gb gc:GE):GE:=fun ρ M=>(ga ρ M).bind fun x M1=>(gb ρ M1).bind fun y M2=>(f x y M2).bind fun z M3=>match z with
 | .bl true=>(gc ρ M3).bind fun w M4=>f' y w M4
 | .bl false=>.ok (.bl false) M3
 | _=>.bad
theorem Gp {f f':F2}{gc:GE}{Q:VK}(h:tE X (oZ f f' ga gb gc) σ H Q):yz (rD X f) (rD X f') (tE X ga) (tE X gb) (tE X gc) σ H Q:=by
 obtain⟨ρ,θ,M,hd,hw,h⟩:=h
 refine bI hd hw (aP X θ H Q) (fun c M' h=>h) (fun h=>h) h fun dx M1 x θ1 H1 g1 r1 h1=>?_
 refine bI (hd.go g1) g1.wr (aP X θ1 H1 Q) (fun c M' h=>h) (fun h=>h) (h1.go g1) fun dy M2 y θ2 H2 g2 r2 h2=>?_
 refine⟨θ2,M2,dx,dy,g2.wr,r1.go g2,r2,?_⟩
 have h3:=h2.go g2
 cases q:f dx dy M2 with
 | ok z M3=>
  rw[q] at h3
  intro v θ3 H3 g3 r3
  cases z with
  | bl k=>
   refine⟨k,r3,?_⟩
   cases k with
   | true=>
    rw[if_pos rfl]
    refine bI ((hd.go g1).go (g2.trans g3)) g3.wr (aP X θ3 H3 Q) (fun c M' h=>h) (fun h=>h) (h3.go g3) fun dw M4 w θ4 H4 g4 r4 h4=>?_
    exact⟨θ4,M4,dy,dw,g4.wr,r2.go (g3.trans g4),r4,h4.go g4⟩
   | false=>
    rw[if_neg Bool.false_ne_true]
    exact h3 _ θ3 H3 g3 rfl
  | _=>exact h3.elim
 | err c M3=>rw[q] at h3;exact h3
 | bad=>rw[q] at h3;exact h3
theorem Bt {a b:Expr}{op':CmpOp}{pos:Pos}{f f':F2}{gc:GE}(ho:iK X (compareOp op) (rD X f))(ho':iK X (compareOp op') (rD X f'))(ha:PE X a (tE X ga))(hb:PE X b (tE X gb))(hc:PE X c (tE X gc))
  (hm:lastMarks [op,op'] [b,c]=false:=by with_unfolding_all rfl):PE X (.Compare a [op,op'] [b,c] pos) (tE X (oZ f f' ga gb gc)):=(BP ho ho' ha hb hc hm).of fun _ _ _ h=>Gp h
theorem A6 {a b:Expr}{op':CmpOp}{pos:Pos}{f f':F2}{gc:GE}(ho:iK X (compareOp op) (rD X f))(ho':iK X (compareOp op') (rD X f'))(ha:PE X a (tE X ga))(hb:PE X b (tE X gb))(hc:PE X c (tE X gc))
  (hm:lastMarks [op,op'] [b,c]=false:=by with_unfolding_all rfl):PT X (.Compare a [op,op'] [b,c] pos) (tT X (aS (oZ f f' ga gb gc))):=(Bo ho ho' ha hb hc hm).of fun σ H Q h=>Gp (CB h)
def iV (a b:GT):GT:=fun ρ M=>(a ρ M).bind fun c M1=>if c then b ρ M1 else .ok false M1
def iM (a b:GT):GT:=fun ρ M=>(a ρ M).bind fun c M1=>if c then .ok true M1 else b ρ M1
def eL (a:GT):GT:=fun ρ M=>(a ρ M).bind fun c M1=>.ok (!c) M1
theorem tz {g:GT}{α:Type}(hd:kK X.K θ H σ ρ)(hw:Wr X.K θ H M)(F:bg α→Prop)(Fe:∀c M',F (.err c M')→eT X θ H c M')(Fb:F .bad→False)
  {f:Bool→aB→bg α} (h:F ((g ρ M).bind f)) (k:∀d M1 θ1 H1,Go X.K θ H θ1 H1 M1→F (f d M1)→Q d H1):tT X g σ H Q:=by
 refine⟨ρ,θ,M,hd,hw,?_⟩
 cases q:g ρ M with
 | ok d M1=>
  rw[q] at h
  exact fun θ1 H1 g1=>k d M1 θ1 H1 g1 h
 | err c M1=>rw[q] at h;exact Fe c M1 h
 | bad=>rw[q] at h;exact(Fb h).elim
variable {a b:Expr}{pos:Pos}{rest:List Expr}{ta tb:GT}{ga gb:GE}
theorem EC (ha:PT X a (tT X ta)):PW X (.BoolOp .And [a] pos) (tT X ta):=E9 ha
theorem HG (ha:PT X a (tT X ta)):PW X (.BoolOp .Or [a] pos) (tT X ta):=Io ha
theorem HB (ha:PT X a (tT X ta))(hb:PW X (.BoolOp .And (b::rest) pos) (tT X tb)):PW X (.BoolOp .And (a::b::rest) pos) (tT X (iV ta tb)):=(Js ha hb).of fun σ H Q ⟨ρ,θ,M,hd,hw,h⟩=>by
 refine tz hd hw (oe X θ H Q) (fun c M' h=>h) (fun h=>h) h fun c M1 θ1 H1 g1 h1=>?_
 cases c with
 | true=>exact⟨ρ,θ1,M1,hd.go g1,g1.wr,oe.go g1 h1⟩
 | false=>exact h1 θ1 H1 g1
theorem LD (ha:PT X a (tT X ta))(hb:PW X (.BoolOp .Or (b::rest) pos) (tT X tb)):PW X (.BoolOp .Or (a::b::rest) pos) (tT X (iM ta tb)):=(LV ha hb).of fun σ H Q ⟨ρ,θ,M,hd,hw,h⟩=>by
 refine tz hd hw (oe X θ H Q) (fun c M' h=>h) (fun h=>h) h fun c M1 θ1 H1 g1 h1=>?_
 cases c with
 | true=>exact h1 θ1 H1 g1
 | false=>exact⟨ρ,θ1,M1,hd.go g1,g1.wr,oe.go g1 h1⟩
theorem JE (ha:PT X a (tT X ta)):PT X (.UnaryOp .Not a pos) (tT X (eL ta)):=(HM ha).of fun σ H Q ⟨ρ,θ,M,hd,hw,h⟩=>by
 exact tz hd hw (oe X θ H Q) (fun c M' h=>h) (fun h=>h) h fun c M1 θ1 H1 g1 h1=>h1 θ1 H1 g1
def eC (a b:GE):GE:=fun ρ M=>(a ρ M).bind fun x M1=>match x with
 | .bl true=>b ρ M1
 | .bl false=>.ok (.bl false) M1
 | _=>.bad
def JL (a b:GE):GE:=fun ρ M=>(a ρ M).bind fun x M1=>match x with
 | .bl true=>.ok (.bl true) M1
 | .bl false=>b ρ M1
 | _=>.bad
def wz (a:GT):GE:=fun ρ M=>(a ρ M).bind fun c M1=>.ok (.bl (!c)) M1
theorem IQ {op}(h:PE X a (tE X g)):PE X (.BoolOp op [a] pos) (tE X g):=Hs h
theorem Hu (ha:PE X a (tE X ga))(hb:PE X (.BoolOp .And (b::rest) pos) (tE X gb)):PE X (.BoolOp .And (a::b::rest) pos) (tE X (eC ga gb)):=(JK ha hb).of fun σ H Q ⟨ρ,θ,M,hd,hw,h⟩=>by
 refine bI hd hw (aP X θ H Q) (fun c M' h=>h) (fun h=>h) h fun d M1 v θ1 H1 g1 r1 h1=>?_
 cases d with
 | bl c=>
  refine⟨c,r1,?_⟩
  cases c with
  | true=>rw[if_pos rfl];exact⟨ρ,θ1,M1,hd.go g1,g1.wr,aP.go g1 h1⟩
  | false=>rw[if_neg Bool.false_ne_true];exact h1 _ θ1 H1 g1 rfl
 | _=>exact h1.elim
theorem Ks (ha:PE X a (tE X ga))(hb:PE X (.BoolOp .Or (b::rest) pos) (tE X gb)):PE X (.BoolOp .Or (a::b::rest) pos) (tE X (JL ga gb)):=(J7 ha hb).of fun σ H Q ⟨ρ,θ,M,hd,hw,h⟩=>by
 refine bI hd hw (aP X θ H Q) (fun c M' h=>h) (fun h=>h) h fun d M1 v θ1 H1 g1 r1 h1=>?_
 cases d with
 | bl c=>
  refine⟨c,r1,?_⟩
  cases c with
  | true=>rw[if_pos rfl];exact h1 _ θ1 H1 g1 rfl
  | false=>rw[if_neg Bool.false_ne_true];exact⟨ρ,θ1,M1,hd.go g1,g1.wr,aP.go g1 h1⟩
 | _=>exact h1.elim
def xi (t:GT)(a b:GE):GE:=fun ρ M=>(t ρ M).bind fun c M1=>if c then a ρ M1 else b ρ M1
theorem LY (hc:PT X c (tT X ta))(ha:PE X a (tE X ga))(hb:PE X b (tE X gb)):PE X (.IfExp c a b pos) (tE X (xi ta ga gb)):=(C6 hc ha hb).of fun σ H Q ⟨ρ,θ,M,hd,hw,h⟩=>by
 refine tz hd hw (aP X θ H Q) (fun c M' h=>h) (fun h=>h) h fun c M1 θ1 H1 g1 h1=>?_
 cases c with
 | true=>rw[if_pos rfl];exact⟨ρ,θ1,M1,hd.go g1,g1.wr,aP.go g1 h1⟩
 | false=>rw[if_neg Bool.false_ne_true];exact⟨ρ,θ1,M1,hd.go g1,g1.wr,aP.go g1 h1⟩
def ah:GA:=fun _ M=>.ok [] M
def aa (g:GE)(r:GA):GA:=fun ρ M=>(g ρ M).bind fun d M1=>(r ρ M1).bind fun ds M2=>.ok (d::ds) M2
theorem lC {g:GA}{Q:List V→Hp→Prop}{α:Type}(hd:kK X.K θ H σ ρ)(hw:Wr X.K θ H M)(F:bg α→Prop)(Fe:∀c M',F (.err c M')→eT X θ H c M')(Fb:F .bad→False)
  {f:List D→aB→bg α} (h:F ((g ρ M).bind f)) (k:∀ds M1 vs θ1 H1,Go X.K θ H θ1 H1 M1→bn X.K θ1 H1 ds vs→F (f ds M1)→Q vs H1):tA X g σ H Q:=by
 refine⟨ρ,θ,M,hd,hw,?_⟩
 cases q:g ρ M with
 | ok d M1=>
  rw[q] at h
  exact fun v θ1 H1 g1 r1=>k d M1 v θ1 H1 g1 r1 h
 | err c M1=>rw[q] at h;exact Fe c M1 h
 | bad=>rw[q] at h;exact(Fb h).elim
theorem JH:PA X [] (tA X ah):=qR.of fun σ H Q ⟨ρ,θ,M,hd,hw,f⟩=>f [] θ H (.refl hw) rfl
theorem D5 {gr:GA}(ha:PE X e (tE X ga))(hr:PA X es (tA X gr))(hs:starEach (e::es) X.env=(false,eval e X.env)::starEach es X.env:=by rfl):PA X (e::es) (tA X (aa ga gr)):=
 (lP ha hr hs).of fun σ H Q ⟨ρ,θ,M,hd,hw,h⟩=>by
  refine bI hd hw (Ah X θ H Q) (fun c M' h=>h) (fun h=>h) h fun d M1 v θ1 H1 g1 r1 h1=>?_
  refine lC (hd.go g1) g1.wr (Ah X θ1 H1 Q) (fun c M' h=>h) (fun h=>h) (h1.go g1) fun ds M2 vs θ2 H2 g2 r2 h2=>?_
  exact h2 (v::vs) θ2 H2 g2 ⟨v,vs,rfl,r1.go g2,r2⟩
def qJ (ds:List D)(M:aB):bg D:=if ds.length≤sizeLine then .ok (.tup ds) M else .bad
def aF (ds:List D)(M:aB):bg D:=if ds.length≤sizeLine then .ok (.lst ds) M else .bad
def dM (ds:List D)(M:aB):bg D:=if ds.length≤sizeLine then .ok (.mr M.length) (M++[.lst ds]) else .bad
def aO (g:GA):GE:=fun ρ M=>(g ρ M).bind qJ
def lU (g:GA):GE:=fun ρ M=>(g ρ M).bind aF
def jv (g:GA):GE:=fun ρ M=>(g ρ M).bind dM
theorem aP.tup {Q:VK}(h:aP X θ H Q (qJ ds M))(hw:Wr X.K θ H M)(r:bn X.K θ H ds vs):vs.length≤sizeLine∧∀p,H p=none→Q (.ref p) (ce H p (.tup vs)):=by
 unfold qJ at h
 by_cases hl:ds.length≤sizeLine
 ·rw[if_pos hl] at h
  exact⟨by rw[←ay r];exact hl,fun p hp=>h _ θ _ (dG hw hp) (hU hw hp r)⟩
 ·rw[if_neg hl] at h;exact h.elim
theorem aP.lst {Q:VK}(h:aP X θ H Q (aF ds M))(hw:Wr X.K θ H M)(r:bn X.K θ H ds vs):vs.length≤sizeLine∧∀p,H p=none→Q (.ref p) (ce H p (.lst vs)):=by
 unfold aF at h
 by_cases hl:ds.length≤sizeLine
 ·rw[if_pos hl] at h
  exact⟨by rw[←ay r];exact hl,fun p hp=>h _ θ _ (dG hw hp) (jd hw hp r)⟩
 ·rw[if_neg hl] at h;exact h.elim
theorem aP.mut {Q:VK}(h:aP X θ H Q (dM ds M))(hw:Wr X.K θ H M)(r:bn X.K θ H ds vs):vs.length≤sizeLine∧∀p,H p=none→Q (.ref p) (ce H p (.lst vs)):=by
 unfold dM at h
 by_cases hl:ds.length≤sizeLine
 ·rw[if_pos hl] at h
  refine⟨by rw[←ay r];exact hl,fun p hp=>h _ (θ++[p]) _ (GR hw hp r) ⟨p,rfl,?_⟩⟩
  rw[←hw.len,List.getElem?_append_right (Nat.le_refl _)]
  simp
 ·rw[if_neg hl] at h;exact h.elim
theorem Jw {x1}{g:GA}(h:PA X es (tA X g)):PE X (.Tuple es x1 pos) (tE X (aO g)):=(G0 h).of fun σ H Q ⟨ρ,θ,M,hd,hw,h⟩=>
 lC hd hw (aP X θ H Q) (fun c M' h=>h) (fun h=>h) h fun ds M1 vs θ1 H1 g1 r1 h1=>aP.tup (aP.go g1 h1) g1.wr r1
theorem HC {g:GA}(h:PA X es (tA X g)):PE X (.List es pos) (tE X (lU g)):=(CL h).of fun σ H Q ⟨ρ,θ,M,hd,hw,h⟩=>
 lC hd hw (aP X θ H Q) (fun c M' h=>h) (fun h=>h) h fun ds M1 vs θ1 H1 g1 r1 h1=>aP.lst (aP.go g1 h1) g1.wr r1
theorem Ic {g:GA}(h:PA X es (tA X g)):PE X (.List es pos) (tE X (jv g)):=(CL h).of fun σ H Q ⟨ρ,θ,M,hd,hw,h⟩=>
 lC hd hw (aP X θ H Q) (fun c M' h=>h) (fun h=>h) h fun ds M1 vs θ1 H1 g1 r1 h1=>aP.mut (aP.go g1 h1) g1.wr r1
end
section
variable {K:W.Frag}{θ:List Addr}{H:Hp}{σ:L2.St}{ρ:cn}
theorem kK.set (h:kK K θ H σ ρ)(r:dX K θ H d v)(i:Nat):kK K θ H (σ.set i (some v)) (ρ.set i (some d)):=by
 refine⟨by rw[List.length_set,List.length_set];exact h.len,fun j d' e=>?_⟩
 by_cases hj:j=i
 ·subst hj
  have hl:j<ρ.length:=by
   have:=(List.getElem?_eq_some_iff.mp e).1
   rw[List.length_set] at this;exact this
  rw[List.getElem?_set_self hl] at e
  have e':d=d':=by simpa using e
  subst e'
  exact⟨v,List.getElem?_set_self (by rw[←h.len];exact hl),r⟩
 ·rw[List.getElem?_set_ne (Ne.symm hj)] at e
  obtain⟨u,e1,r1⟩:=h.at_ j d' e
  exact⟨u,by rw[List.getElem?_set_ne (Ne.symm hj)];exact e1,r1⟩
end
def aM:GS:=fun ρ M=>.ok (.nx ρ) M
def av (a b:GS):GS:=fun ρ M=>(a ρ M).bind fun f M1=>match f with
 | .nx ρ1=>b ρ1 M1
 | .rt d=>.ok (.rt d) M1
 | .bk ρ1=>.ok (.bk ρ1) M1
 | .ct ρ1=>.ok (.ct ρ1) M1
def aU (i:Nat)(g:GE):GS:=fun ρ M=>(g ρ M).bind fun d M1=>.ok (.nx (ρ.set i (some d))) M1
def aJ (g:GE):GS:=fun ρ M=>(g ρ M).bind fun d M1=>.ok (.rt d) M1
def cX (g:GE):GS:=fun ρ M=>(g ρ M).bind fun _ M1=>.ok (.nx ρ) M1
def dO (t:GT)(a b:GS):GS:=fun ρ M=>(t ρ M).bind fun c M1=>if c then a ρ M1 else b ρ M1
variable{x:Str}{is:List Nat}{n:Nat}
section
variable {X:Cx}{st:Stmt}{rest:List Stmt}{e:Expr}{g:GE}{t u:GS}{pos:Pos}
theorem Ig:PSs X [] (tS X aM):=FJ.of fun D σ H ⟨ρ,θ,M,hd,hw,f⟩=>f σ θ H (.refl hw) hd
theorem D2 (h1:PS X st (tS X t))(h2:PSs X rest (tS X u)):PSs X (st::rest) (tS X (av t u)):=(CQ h1 h2).of fun D σ H ⟨ρ,θ,M,hd,hw,h⟩=>by
 refine⟨ρ,θ,M,hd,hw,?_⟩
 unfold av at h
 cases q:t ρ M with
 | ok f M1=>
  rw[q] at h
  cases f with
  | nx ρ1=>exact fun σ1 θ1 H1 g1 d1=>⟨ρ1,θ1,M1,d1,g1.wr,cL.go g1 h⟩
  | rt d=>exact h
  | bk ρ1=>exact h
  | ct ρ1=>exact h
 | err c M1=>rw[q] at h;exact h
 | bad=>rw[q] at h;exact h
theorem HN (h1:PS X st (tS X t)):PSs X [st] (tS X t):=FO h1
theorem Hq {pos':Pos}(hN:X.N.Nodup)(hi:X.N[i]?=some x)(hx:Bq X.env.scope x)(he:PE X e (tE X g))(hs:swapsWith e (some (.Name x pos')) pos.line X.env=pure false:=by rfl)(hf:X.fn x=true∨X.env.scope.names.lookup x=some .local:=by first|exact .inl rfl|exact .inr rfl|assumption) :
  PS X (.Assign [.Name x pos'] e pos) (tS X (aU i g)):=(HE hN hi hx he hs hf).of fun D σ H ⟨ρ,θ,M,hd,hw,h⟩=>
 bI hd hw (cL X θ H D) (fun c M' h=>h) (fun h=>h) h fun d M1 v θ1 H1 g1 r1 h1=>h1 _ θ1 H1 g1 ((hd.go g1).set r1 i)
theorem Hb (he:PE X e (tE X g)):PS X (.Return (some e) pos) (tS X (aJ g)):=(Jd he).of fun D σ H ⟨ρ,θ,M,hd,hw,h⟩=>
 bI hd hw (cL X θ H D) (fun c M' h=>h) (fun h=>h) h fun d M1 v θ1 H1 g1 r1 h1=>h1 v θ1 H1 g1 r1
theorem FU (he:PE X e (tE X g))(hs:swapsWith e none pos.line X.env=pure false:=by rfl):PS X (.Expr e pos) (tS X (cX g)):=(Fy he hs).of fun D σ H ⟨ρ,θ,M,hd,hw,h⟩=>
 bI hd hw (cL X θ H D) (fun c M' h=>h) (fun h=>h) h fun d M1 v θ1 H1 g1 r1 h1=>h1 σ θ1 H1 g1 (hd.go g1)
theorem KP {a b:List Stmt}{tc:GT}(hc:PT X c (tT X tc))(ha:PSs X a (tS X t))(hb:PSs X b (tS X u)):PS X (.If c a b pos) (tS X (dO tc t u)):=(KZ hc ha hb).of fun D σ H ⟨ρ,θ,M,hd,hw,h⟩=>by
 refine tz hd hw (cL X θ H D) (fun c M' h=>h) (fun h=>h) h fun c M1 θ1 H1 g1 h1=>?_
 cases c with
 | true=>rw[if_pos rfl];exact⟨ρ,θ1,M1,hd.go g1,g1.wr,cL.go g1 h1⟩
 | false=>rw[if_neg Bool.false_ne_true];exact⟨ρ,θ1,M1,hd.go g1,g1.wr,cL.go g1 h1⟩
abbrev GG:=D→cn→Option cn
def tG (X:Cx)(s:GG):TG:=fun v σ H Q=>∃ρ θ M d,kK X.K θ H σ ρ∧Wr X.K θ H M∧dX X.K θ H d v∧∃ρ',s d ρ=some ρ'∧∀σ',kK X.K θ H σ' ρ'→Q σ' H
def gn (i:Nat):GG:=fun d ρ=>some (ρ.set i (some d))
def kF:List Nat→List D→cn→Option cn
 | [],[],ρ=>some ρ
 | i::is,d::ds,ρ=>kF is ds (ρ.set i (some d))
 | _,_,_=>none
def bh (is:List Nat):GG:=fun d ρ=>match d with
 | .tup ds=>kF is ds ρ
 | _=>none
theorem ua (hN:X.N.Nodup)(hi:X.N[i]?=some x)(hx:Bq X.env.scope x)(hf:X.fn x=true∨X.env.scope.names.lookup x=some .local:=by first|exact .inl rfl|exact .inr rfl|assumption):PG X (.Name x pos) (tG X (gn i)):=by
 intro ag s σ H v u Q I r h
 obtain⟨ρ,θ,M,d,hd,hw,rd,ρ',e,h⟩:=h
 cases e
 exact D9 hN hi hx hf ag s σ H v u Q I r (h _ (hd.set rd i))
def LW (X:Cx)(is:List Nat):DS:=fun vs σ H Q=>∃ρ θ M ds,kK X.K θ H σ ρ∧Wr X.K θ H M∧bn X.K θ H ds vs∧∃ρ',kF is ds ρ=some ρ'∧∀σ',kK X.K θ H σ' ρ'→Q σ' H
theorem D0:yX X [] (LW X []):=by
 intro ag s σ H vs us Q I r h
 obtain⟨ρ,θ,M,ds,hd,hw,rd,ρ',e,h⟩:=h
 cases ds with
 | cons d ds=>cases e
 | nil=>
  have e2:vs=[]:=rd
  subst e2
  cases e
  exact yW ag s σ H [] us Q I r ⟨rfl,h σ hd⟩
theorem A1 (h1:PG X e (tG X (gn i)))(h2:yX X es (LW X is))
  (hs:(assignEach (e::es) X.env).map (·.2)=assign e X.env::(assignEach es X.env).map (·.2):=by rfl):yX X (e::es) (LW X (i::is)):=by
 intro ag s σ H vs us Q I r h
 obtain⟨ρ,θ,M,ds,hd,hw,rd,ρ',e1,h⟩:=h
 cases ds with
 | nil=>cases e1
 | cons d ds=>
  obtain⟨v,vr,e2,rv,rr⟩:=rd
  subst e2
  refine vp h1 h2 hs ag s σ H _ us Q I r ⟨v,vr,rfl,ρ,θ,M,d,hd,hw,rv,_,rfl,fun σ1 d1=>?_⟩
  exact⟨_,θ,M,ds,d1,hw,rr,ρ',e1,h⟩
theorem IT {k:Nat}(hc:X.calm=true)(h:yX X es (LW X is))(hl:is.length=n:=by rfl)
  (hn:(assignEach es X.env).length=n:=by rfl) (hst:(assignEach es X.env).findIdx? (·.1)=none:=by rfl):PG X (.Tuple es k pos) (tG X (bh is)):=by
 intro ag s σ H v u Q I r hw
 obtain⟨ρ,θ,M,d,hd,hwr,rd,ρ',e1,hw⟩:=hw
 cases d with
 | tup ds=>
  obtain⟨a,vs,e2,ta,rs⟩:=rd
  have hlen:ds.length=is.length:=by
   have e1:kF is ds ρ=some ρ':=e1
   clear hw hd hwr rs hn hst h hl
   induction is generalizing ds ρ with
   | nil=>
    cases ds with
    | nil=>rfl
    | cons _ _=>cases e1
   | cons i is ih=>
    cases ds with
    | nil=>cases e1
    | cons d ds=>rw[List.length_cons,List.length_cons,ih _ ds e1 e1]
  refine BG (n:=n) hc h hn hst ag s σ H v u Q I r ⟨a,vs,e2,ta.sq,by rw[←ay rs,hlen,hl],?_⟩
  exact⟨ρ,θ,M,ds,hd,hwr,rs,ρ',e1,hw⟩
 | _=>cases e1
def l8:List GG→List D→cn→Option cn
 | [],[],ρ=>some ρ
 | s::ss,d::ds,ρ=>match s d ρ with
  | some ρ1=>l8 ss ds ρ1
  | none=>none
 | _,_,_=>none
def rA (ss:List GG):GG:=fun d ρ=>match d with
 | .tup ds=>l8 ss ds ρ
 | _=>none
theorem sF:∀{ss:List GG} {ds:List D} {ρ ρ':cn},l8 ss ds ρ=some ρ'→ds.length=ss.length
 | [],[],_,_,_=>rfl
 | [],_::_,_,_,h=>by cases h
 | _::_,[],_,_,h=>by cases h
 | s::ss,d::ds,ρ,ρ',h=>by
  unfold l8 at h
  split at h
  ·rw[List.length_cons,List.length_cons,sF h]
  ·cases h
def Cq (X:Cx)(ss:List GG):DS:=fun vs σ H Q=>∃ρ θ M ds,kK X.K θ H σ ρ∧Wr X.K θ H M∧bn X.K θ H ds vs∧∃ρ',l8 ss ds ρ=some ρ'∧∀σ',kK X.K θ H σ' ρ'→Q σ' H
theorem Dv:yX X [] (Cq X []):=by
 intro ag s σ H vs us Q I r h
 obtain⟨ρ,θ,M,ds,hd,hw,rd,ρ',e,h⟩:=h
 cases ds with
 | cons d ds=>cases e
 | nil=>
  have e2:vs=[]:=rd
  subst e2
  cases e
  exact yW ag s σ H [] us Q I r ⟨rfl,h σ hd⟩
theorem zL {sg:GG}{ss:List GG}(h1:PG X e (tG X sg))(h2:yX X es (Cq X ss))
  (hs:(assignEach (e::es) X.env).map (·.2)=assign e X.env::(assignEach es X.env).map (·.2):=by rfl):yX X (e::es) (Cq X (sg::ss)):=by
 intro ag s σ H vs us Q I r h
 obtain⟨ρ,θ,M,ds,hd,hw,rd,ρ',e1,h⟩:=h
 cases ds with
 | nil=>cases e1
 | cons d ds=>
  obtain⟨v,vr,e2,rv,rr⟩:=rd
  subst e2
  unfold l8 at e1
  split at e1
  ·rename_i ρ1 q1
   refine vp h1 h2 hs ag s σ H _ us Q I r ⟨v,vr,rfl,ρ,θ,M,d,hd,hw,rv,ρ1,q1,fun σ1 d1=>?_⟩
   exact⟨ρ1,θ,M,ds,d1,hw,rr,ρ',e1,h⟩
  ·cases e1
theorem EO {ss:List GG}{k:Nat}(hc:X.calm=true)(h:yX X es (Cq X ss))(hl:ss.length=n:=by rfl)
  (hn:(assignEach es X.env).length=n:=by rfl) (hst:(assignEach es X.env).findIdx? (·.1)=none:=by rfl):PG X (.Tuple es k pos) (tG X (rA ss)):=by
 intro ag s σ H v u Q I r hw
 obtain⟨ρ,θ,M,d,hd,hwr,rd,ρ',e1,hw⟩:=hw
 cases d with
 | tup ds=>
  obtain⟨a,vs,e2,ta,rs⟩:=rd
  have hlen:ds.length=ss.length:=sF e1
  refine BG (n:=n) hc h hn hst ag s σ H v u Q I r ⟨a,vs,e2,ta.sq,by rw[←ay rs,hlen,hl],?_⟩
  exact⟨ρ,θ,M,ds,hd,hwr,rs,ρ',e1,hw⟩
 | _=>cases e1
def cP (s:GG)(g:GE):GS:=fun ρ M=>(g ρ M).bind fun d M1=>match s d ρ with
 | some ρ1=>.ok (.nx ρ1) M1
 | none=>.bad
theorem Hx {tg:Expr}{s:GG}(he:PE X e (tE X g))(hg:PG X tg (tG X s))(hs:swapsWithSole [tg] e pos.line X.env=pure false:=by rfl)(hw:swappedStores [tg] e X.env=pure none:=by rfl)
  (h1:(assignEach [tg] X.env).map (·.2)=[assign tg X.env]:=by rfl):PS X (.Assign [tg] e pos) (tS X (cP s g)):=(BZ he hg hs hw h1).of fun D σ H ⟨ρ,θ,M,hd,hwr,h⟩=>by
 refine bI hd hwr (cL X θ H D) (fun c M' h=>h) (fun h=>h) h fun d M1 v θ1 H1 g1 r1 h1=>?_
 cases q:s d ρ with
 | some ρ1=>
  rw[q] at h1
  exact⟨ρ,θ1,M1,d,hd.go g1,g1.wr,r1,ρ1,q,fun σ' d'=>h1 σ' θ1 H1 g1 d'⟩
 | none=>rw[q] at h1;exact h1.elim
def uM (o i x:D)(M:aB):bg Unit:=match o,i with
 | .mr k,.int j=>match M[k]? with
  | some (.lst xs)=>match DG xs.length j with
   | some n=>.ok () (M.set k (.lst (xs.set n x)))
   | none=>.bad
  | _=>.bad
 | _,_=>.bad
def lT (go gi g:GE):GS:=fun ρ M=>(g ρ M).bind fun x M1=>(go ρ M1).bind fun o M2=>(gi ρ M2).bind fun i M3=>(uM o i x M3).bind fun _ M4=>.ok (.nx ρ) M4
theorem Ha {o i:Expr}{ip:Pos}{go gi:GE}(he:PE X e (tE X g))(ho:PE X o (tE X go))(hi:PE X i (tE X gi))
  (ha:∀v,assign (.Subscript o i ip) X.env v=(do
   let ov ←holding [v] (eval o X.env)
   let iv ←holding [v,ov] (eval i X.env)
   standAt ip
   holding [v,ov,iv] (setItem ov iv v)
   release [v,ov,iv] []):=by intro _;rfl)
  (hs:swapsWithSole [.Subscript o i ip] e pos.line X.env=pure false:=by rfl) (hw:swappedStores [.Subscript o i ip] e X.env=pure none:=by rfl)
  (h1:(assignEach [.Subscript o i ip] X.env).map (·.2)=[assign (.Subscript o i ip) X.env]:=by rfl):PS X (.Assign [.Subscript o i ip] e pos) (tS X (lT go gi g)):=
 (BZ he (Ii ho hi CA ha) hs hw h1).of fun D σ H ⟨ρ,θ,M,hd,hwr,h⟩=>by
  refine bI hd hwr (cL X θ H D) (fun c M' h=>h) (fun h=>h) h fun dx M1 vx θ1 H1 g1 r1 h1=>?_
  refine bI (hd.go g1) g1.wr (cL X θ1 H1 D) (fun c M' h=>h) (fun h=>h) (h1.go g1) fun dob M2 vo θ2 H2 g2 r2 h2=>?_
  refine bI ((hd.go g1).go g2) g2.wr (cL X θ2 H2 D) (fun c M' h=>h) (fun h=>h) (h2.go g2) fun di M3 vi θ3 H3 g3 r3 h3=>?_
  have h4:=h3.go g3
  unfold uM at h4
  split at h4
  ·rename_i k j
   split at h4
   ·rename_i xs q
    split at h4
    ·rename_i n hn
     obtain⟨a,ea,ta⟩:=r2.go g3
     obtain⟨vs,ev,rv⟩:=g3.wr.at_ k a _ ta q
     have ei:vi=.int j:=r3
     refine⟨a,vs,j,n,ea,ei,ev,by rw[←ay rv];exact hn,?_⟩
     have gs:=yx (ds:=xs) g3.wr ta (wx (r1.go (g2.trans g3)) n rv)
     exact h4 σ θ3 _ gs ((((hd.go g1).go g2).go g3).go gs)
    ·exact h4.elim
   ·exact h4.elim
  ·exact h4.elim
end
mutual
def hZ:D→D→Bool
 | .non,.non=>true
 | .bl a,.bl b=>a==b
 | .int a,.int b=>a==b
 | .str a,.str b=>a==b
 | .tup a,.tup b=>jf a b
 | .lst a,.lst b=>jf a b
 | .ro a,.ro b=>jf a b
 | .mr a,.mr b=>a==b
 | .exc a,.exc b=>a==b
 | .any,.any=>true
 | _,_=>false
def jf:List D→List D→Bool
 | [],[]=>true
 | a::as,b::bs=>hZ a b&&jf as bs
 | _,_=>false
end
mutual
theorem EA:∀(a b:D),hZ a b=true→a=b
 | .non,b,h=>by cases b <;> simp_all [hZ]
 | .bl x,b,h=>by cases b <;> simp_all [hZ]
 | .int x,b,h=>by cases b <;> simp_all [hZ]
 | .str x,b,h=>by cases b <;> simp_all [hZ]
 | .tup x,b,h=>by
  cases b with
  | tup y=>rw[lu x y (by simpa[hZ] using h)]
  | _=>simp[hZ] at h
 | .lst x,b,h=>by
  cases b with
  | lst y=>rw[lu x y (by simpa[hZ] using h)]
  | _=>simp[hZ] at h
 | .ro x,b,h=>by
  cases b with
  | ro y=>rw[lu x y (by simpa[hZ] using h)]
  | _=>simp[hZ] at h
 | .mr x,b,h=>by cases b <;> simp_all [hZ]
 | .exc x,b,h=>by cases b <;> simp_all [hZ]
 | .any,b,h=>by cases b <;> simp_all [hZ]
theorem lu:∀(a b:List D),jf a b=true→a=b
 | [],b,h=>by
  cases b with
  | nil=>rfl
  | cons _ _=>simp[jf] at h
 | x::xs,b,h=>by
  cases b with
  | nil=>simp[jf] at h
  | cons y ys=>
   simp only[jf,Bool.and_eq_true] at h
   rw[EA x y h.1,lu xs ys h.2]
end
mutual
theorem Ai:∀(a:D),hZ a a=true
 | .non=>rfl
 | .bl x=>by simp[hZ]
 | .int x=>by simp[hZ]
 | .str x=>by simp[hZ]
 | .tup x=>by rw[hZ];exact gj x
 | .lst x=>by rw[hZ];exact gj x
 | .ro x=>by rw[hZ];exact gj x
 | .mr x=>by simp[hZ]
 | .exc x=>by simp[hZ]
 | .any=>rfl
theorem gj:∀(a:List D),jf a a=true
 | []=>rfl
 | x::xs=>by rw[jf,Ai x,gj xs];rfl
end
structure sv where
 ds:List D
 m:Option Nat
def sv.ok (t:sv)(M:aB):Bool:=match t.m with
 | none=>true
 | some i=>match M[i]? with
  | some (.lst xs)=>jf xs t.ds
  | _=>false
abbrev GI:=cn→aB→bg sv
def DQ (K:W.Frag)(J:It)(θ:List Addr)(H:Hp)(t:sv):Prop:=∀θ1 H1 M1,Go K θ H θ1 H1 M1→t.ok M1=true→∀i:Nat,
 (∀d,t.ds[i]?=some d→J.go i H1∧∀x H2,J.yld i H1 x H2→Go K θ1 H1 θ1 H2 M1∧dX K θ1 H2 d x)∧(t.ds.length≤i→J.stop i H1)
def BL (X:Cx)(θ:List Addr)(H:Hp)(R:It→Hp→Prop):bg sv→Prop
 | .ok t M'=>∀J θ' H',Go X.K θ H θ' H' M'→DQ X.K J θ' H' t→R J H'
 | .err c M'=>eT X θ H c M'
 | .bad=>False
def tI (X:Cx)(g:GI):TI:=fun σ H R=>∃ρ θ M,kK X.K θ H σ ρ∧Wr X.K θ H M∧BL X θ H R (g ρ M)
def v4 (d:D)(M:aB):bg sv:=match d with
 | .lst ds=>.ok ⟨ds,none⟩ M
 | .ro ds=>.ok ⟨ds,none⟩ M
 | .tup ds=>.ok ⟨ds,none⟩ M
 | .mr k=>match M[k]? with
  | some (.lst ds)=>.ok ⟨ds,some k⟩ M
  | _=>.bad
 | _=>.bad
def bG (g:GE):GI:=fun ρ M=>(g ρ M).bind v4
variable{body:List Stmt}
section
variable {X:Cx}{tg:Expr}
theorem J1 {l:Expr}{tl:TE}(hl:PE X l tl):PI X tg l (fun σ H R=>tl σ H fun x H1=>∃a,x=.ref a∧(((∃xs,mV X.K H1 a xs)∧R (Mt X.K a) H1)∨((∃xs,ph X.K H1 a xs)∧R (Nf X.K a) H1))):=by
 intro ag s σ H R I h
 refine cy (hl ag s σ H _ I h) fun v s1 ⟨x,H1,I1,r1,q1⟩=>?_
 obtain⟨a,e,q1⟩:=q1
 subst e
 cases r1
 rcases q1 with⟨⟨xs,hq⟩,q⟩|⟨⟨xs,hq⟩,q⟩
 ·obtain⟨its,rv,p,hz⟩:=I1.list hq
  refine wpAny_pyIter_list p.isList ?_
  refine⟨s1.heap.objs.size,[s1.heap.objs.size],_,_,H1,rfl,I1.kept (t':=s1.toks) fun b o e=>Heap.get?_push_of_some _ e,zH a _,⟨_,Heap.get?_push_size _ rfl,rfl,rfl⟩,fun b hb=>?_,q⟩
  have e:b=s1.heap.objs.size:=by simpa using hb
  subst e
  exact I1.fpOk (Nat.le_refl _) (I1.hok.fresh (Nat.le_refl _))
 ·obtain⟨its,rv,p,hz⟩:=I1.tuple hq
  refine wpAny_pyIter_tuple (show s1.heap.IsTuple a its.toArray from p) ?_
  refine⟨s1.heap.objs.size,[s1.heap.objs.size],_,_,H1,rfl,I1.kept (t':=s1.toks) fun b o e=>Heap.get?_push_of_some _ e,yv a _,⟨_,Heap.get?_push_size _ rfl,rfl,rfl⟩,fun b hb=>?_,q⟩
  have e:b=s1.heap.objs.size:=by simpa using hb
  subst e
  exact I1.fpOk (Nat.le_refl _) (I1.hok.fresh (Nat.le_refl _))
theorem zh (ta:rN K θ H a vs)(r:bn K θ H ds vs):DQ K (Mt K a) θ H ⟨ds,none⟩:=by
 intro θ1 H1 M1 g _ i
 have t1:=(ta.grow g.toGrow).sq
 have r1:=r.go g
 refine⟨fun d e=>?_,fun hl=>⟨vs,t1,by rw[←ay r1];exact hl⟩⟩
 obtain⟨v,e1,rv⟩:=fX r1 e
 refine⟨⟨vs,v,t1,e1⟩,fun x H2 y=>?_⟩
 obtain⟨eH,y⟩:=y
 subst eH
 have e2:=y vs t1
 rw[e1] at e2;cases e2
 exact⟨.refl g.wr,rv⟩
theorem DJ (ta:m3 K θ H a vs)(r:bn K θ H ds vs):DQ K (Nf K a) θ H ⟨ds,none⟩:=by
 intro θ1 H1 M1 g _ i
 have t1:=(ta.grow g.toGrow).sq
 have r1:=r.go g
 refine⟨fun d e=>?_,fun hl=>⟨vs,t1,by rw[←ay r1];exact hl⟩⟩
 obtain⟨v,e1,rv⟩:=fX r1 e
 refine⟨⟨vs,v,t1,e1⟩,fun x H2 y=>?_⟩
 obtain⟨eH,y⟩:=y
 subst eH
 have e2:=y vs t1
 rw[e1] at e2;cases e2
 exact⟨.refl g.wr,rv⟩
theorem Fq {k:Nat}(ta:θ[k]?=some a):DQ K (Mt K a) θ H ⟨ds,some k⟩:=by
 intro θ1 H1 M1 g hok i
 have t1:θ1[k]?=some a:=by
  obtain⟨m,em,_⟩:=g.ext
  rw[em,List.getElem?_append_left (List.getElem?_eq_some_iff.mp ta).1]
  exact ta
 have hok':(match M1[k]? with|some (.lst xs)=>jf xs ds|_=>false)=true:=hok
 cases q:M1[k]? with
 | none=>rw[q] at hok';cases hok'
 | some m=>
  cases m with
  | lst xs=>
   rw[q] at hok'
   have e:xs=ds:=lu xs ds hok'
   subst e
   obtain⟨vs,hv,r1⟩:=g.wr.at_ k a _ t1 q
   have s1:mV K H1 a vs:=.inl (.inl hv)
   refine⟨fun d e=>?_,fun hl=>⟨vs,s1,by rw[←ay r1];exact hl⟩⟩
   obtain⟨v,e1,rv⟩:=fX r1 e
   refine⟨⟨vs,v,s1,e1⟩,fun x H2 y=>?_⟩
   obtain⟨eH,y⟩:=y
   subst eH
   have e2:=y vs s1
   rw[e1] at e2;cases e2
   exact⟨.refl g.wr,rv⟩
  | _=>rw[q] at hok';cases hok'
theorem Jf {l:Expr}(hl:PE X l (tE X g)):PI X tg l (tI X (bG g)):=by
 intro ag s σ H R I h
 refine J1 hl ag s σ H R I ?_
 obtain⟨ρ,θ,M,hd,hw,h⟩:=h
 refine bI hd hw (BL X θ H R) (fun c M' h=>h) (fun h=>h) h fun d M1 v θ1 H1 g1 r1 h1=>?_
 cases d with
 | lst ds=>
  obtain⟨a,vs,e,ta,r⟩:=r1
  exact⟨a,e,.inl ⟨⟨vs,ta.sq⟩,h1 _ θ1 H1 g1 (zh (.inl ⟨.inl ta.1,ta.2⟩) r)⟩⟩
 | ro ds=>
  obtain⟨a,vs,e,ta,r⟩:=r1
  exact⟨a,e,.inl ⟨⟨vs,ta.sq⟩,h1 _ θ1 H1 g1 (zh ta r)⟩⟩
 | tup ds=>
  obtain⟨a,vs,e,ta,r⟩:=r1
  exact⟨a,e,.inr ⟨⟨vs,ta.sq⟩,h1 _ θ1 H1 g1 (DJ ta r)⟩⟩
 | mr k=>
  obtain⟨a,e,ta⟩:=r1
  have h2:BL X θ H R (match M1[k]? with|some (.lst ds)=>.ok ⟨ds,some k⟩ M1|_=>.bad):=h1
  cases q:M1[k]? with
  | none=>rw[q] at h2;exact h2.elim
  | some m=>
   cases m with
   | lst ds=>
    rw[q] at h2
    obtain⟨vs,hv,r⟩:=g1.wr.at_ k a _ ta q
    exact⟨a,e,.inl ⟨⟨vs,.inl (.inl hv)⟩,h2 _ θ1 H1 g1 (Fq ta)⟩⟩
   | _=>rw[q] at h2;exact h2.elim
 | _=>exact h1.elim
def bj (lo:Int)(n:Nat):List D:=(List.range n).map fun(k:Nat)=>D.int (lo+(k:Int))
theorem EB (lo:Int)(n:Nat):DQ K (MA lo n) θ H ⟨bj lo n,none⟩:=by
 intro θ1 H1 M1 g _ i
 refine⟨fun d e=>?_,fun hl=>?_⟩
 ·have hi:i<n:=by
   have:=(List.getElem?_eq_some_iff.mp e).1
   simpa[bj] using this
  refine⟨hi,fun x H2 y=>?_⟩
  obtain⟨eH,y⟩:=y
  subst eH
  refine⟨.refl g.wr,?_⟩
  have e':D.int (lo+(i:Int))=d:=by
   have:(bj lo n)[i]?=some (D.int (lo+(i:Int))):=by simp[bj,hi]
   rw[this] at e;exact Option.some.inj e
  subst e'
  exact y
 ·have h2:(bj lo n).length≤i:=hl
  have h3:n≤i:=by simpa[bj] using h2
  exact h3
def Dr (ds:List D)(M:aB):bg sv:=match ds with
 | [.int j]=>if -(2 ^ 62)≤j∧j<2 ^ 62 then .ok ⟨bj 0 j.toNat,none⟩ M else .bad
 | _=>.bad
def fQ (g:GA):GI:=fun ρ M=>(g ρ M).bind Dr
theorem Aw {a:Expr}{g:GA}{p pos:Pos}(hg:Gl X "range")(hm:X.mg "range"=none)(ha:PA X [a] (tA X g))(hs:starEach [a] X.env=[(false,eval a X.env)]:=by rfl):PI X tg (.Call (.Name "range" p) [a] [] pos) (tI X (fQ g)):=by
 intro ag s σ H R I h
 refine zT hg hm ha hs ag s σ H R I ?_
 obtain⟨ρ,θ,M,hd,hw,h⟩:=h
 refine lC hd hw (BL X θ H R) (fun c M' h=>h) (fun h=>h) h fun ds M1 vs θ1 H1 g1 r1 h1=>?_
 unfold Dr at h1
 split at h1
 ·rename_i j
  obtain⟨v,r,e,rv,rr⟩:=r1
  have e2:r=[]:=rr
  have e3:v=.int j:=rv
  subst e2;subst e3
  split at h1
  ·rename_i hj
   exact⟨j,e,hj.1,hj.2,h1 _ θ1 H1 g1 (EB 0 j.toNat)⟩
  ·exact h1.elim
 ·exact h1.elim
def fZ (t:sv)(s:GG)(body:GS):List D→cn→aB→bg Fl
 | [],ρ,M=>if t.ok M then .ok (.nx ρ) M else .bad
 | d::r,ρ,M=>if t.ok M then
   match s d ρ with
   | none=>.bad
   | some ρ1=>(body ρ1 M).bind fun f M1=>match f with
    | .nx ρ2=>fZ t s body r ρ2 M1
    | .ct ρ2=>fZ t s body r ρ2 M1
    | .bk ρ2=>.ok (.nx ρ2) M1
    | .rt d=>.ok (.rt d) M1
  else .bad
def kN (gi:GI)(s:GG)(body:GS):GS:=fun ρ M=>(gi ρ M).bind fun t M1=>fZ t s body t.ds ρ M1
theorem Hh {iter:Expr}{gi:GI}{sg:GG}{gb:GS}{pos:Pos}(hp:PassesOwn (model X.prog X.w) X.A X.env X.xe)(hc:X.calm=true)(hi:PI X tg iter (tI X gi))(hg:PG X tg (tG X sg))(hb:PSs X body (tS X gb))
  (hs:∀x,foldedSetIterable iter X.env x=pure x:=by intro _;rfl):PS X (.For tg iter body [] pos) (tS X (kN gi sg gb)):=(JA hp hc hi hg hb hs).of fun D σ H ⟨ρ,θ,M,hd,hw,h⟩=>by
 refine⟨ρ,θ,M,hd,hw,?_⟩
 unfold kN at h
 cases q:gi ρ M with
 | err c M1=>rw[q] at h;exact h
 | bad=>rw[q] at h;exact h
 | ok t M1=>
  rw[q] at h
  intro J θ1 H1 g1 hJ
  have h:cL X θ H D (fZ t sg gb t.ds ρ M1):=h
  refine⟨fun i m σ' H'=>m=t.ds.length-i∧i≤t.ds.length∧∃ρ' θ' M',Go X.K θ1 H1 θ' H' M'∧kK X.K θ' H' σ' ρ'∧cL X θ' H' D (fZ t sg gb (t.ds.drop i) ρ' M'),
   ⟨t.ds.length,by simp,Nat.zero_le _,ρ,θ1,M1,.refl g1.wr,hd.go g1,cL.go g1 h⟩,?_⟩
  rintro i m σ' H' ⟨rfl,hil,ρ',θ',M',g',hd',h'⟩
  by_cases hok:t.ok M'=true
  ·obtain⟨hy,hst⟩:=hJ θ' H' M' g' hok i
   by_cases hlt:i<t.ds.length
   ·refine .inr ?_
    have e1:t.ds[i]?=some t.ds[i]:=List.getElem?_eq_getElem hlt
    obtain⟨hgo,hyl⟩:=hy _ e1
    rw[List.drop_eq_getElem_cons hlt,fZ,if_pos hok] at h'
    refine⟨hgo,fun σ2 H2=>∃ρ2 θ2 M2,Go X.K θ' H' θ2 H2 M2∧kK X.K θ2 H2 σ2 ρ2∧cL X θ2 H2 D (fZ t sg gb (t.ds.drop (i+1)) ρ2 M2),fun σ2 H2 ⟨ρ2,θ2,M2,g2,d2,h2⟩=>?_,fun x H2 y=>?_⟩
    ·exact⟨t.ds.length-(i+1),by omega,rfl,hlt,ρ2,θ2,M2,g'.trans g2,d2,h2⟩
    ·obtain⟨gy,rx⟩:=hyl x H2 y
     cases qs:sg t.ds[i] ρ' with
     | none=>rw[qs] at h';exact h'.elim
     | some ρ1=>
      rw[qs] at h'
      refine⟨ρ',θ',M',_,hd'.go gy,gy.wr,rx,ρ1,qs,fun σ1 d1=>⟨ρ1,θ',M',d1,gy.wr,?_⟩⟩
      have h':cL X θ' H2 D ((gb ρ1 M').bind _):=cL.go gy h'
      cases qb:gb ρ1 M' with
      | err c M2=>rw[qb] at h';exact h'
      | bad=>rw[qb] at h';exact h'
      | ok f M2=>
       rw[qb] at h'
       cases f with
       | nx ρ2=>exact fun σ2 θ2 H3 g2 d2=>⟨ρ2,θ2,M2,gy.trans g2,d2,cL.go g2 h'⟩
       | ct ρ2=>exact fun σ2 θ2 H3 g2 d2=>⟨ρ2,θ2,M2,gy.trans g2,d2,cL.go g2 h'⟩
       | bk ρ2=>exact h'
       | rt d=>exact h'
   ·have e:i=t.ds.length:=by omega
    subst e
    rw[List.drop_length,fZ,if_pos hok] at h'
    exact .inl ⟨hst (Nat.le_refl _),h' σ' θ' H' (.refl g'.wr) hd'⟩
  ·have hz:cL X θ' H' D .bad:=by
    cases hdr:t.ds.drop i with
    | nil=>rw[hdr,fZ,if_neg hok] at h';exact h'
    | cons d r=>rw[hdr,fZ,if_neg hok] at h';exact h'
   exact hz.elim
end
def BW (K:W.Frag)(θ:List Addr)(H:Hp)(E:XK)(c:Str)(M:aB):Prop:=∀C θ' H' a,iG K c C→Go K θ H θ' H' M→E (.ref C) (some a) H'
def yO (K:W.Frag)(θ:List Addr)(H:Hp)(Q:VK)(E:XK):bg D→Prop
 | .ok d M'=>∀v θ' H',Go K θ H θ' H' M'→dX K θ' H' d v→Q v H'
 | .err c M'=>BW K θ H E c M'
 | .bad=>False
abbrev FD:=List D→aB→bg D
def mY (K:W.Frag)(n:Nat)(F:FD):Sp:=fun vs H Q E=>∃θ M ds,ds.length=n∧bn K θ H ds vs∧Wr K θ H M∧yO K θ H Q E (F ds M)
variable{F:FD}{ps:List Str}
theorem pw (hn:ps.length=n):∀vs H Q E,mY K n F vs H Q E→vs.length=ps.length:=fun vs H Q E ⟨θ,M,ds,hl,r,_⟩=>by rw[hn,←hl,ay r]
def jw (k:Nat)(ds:List D):cn:=ds.map some++List.replicate k none
def aH (o:bg Fl):bg D:=o.bind fun f M=>match f with
 | .rt d=>.ok d M
 | .nx _=>.ok .non M
 | _=>.bad
def a9 (k:Nat)(g:GS):FD:=fun ds M=>aH (g (jw k ds) M)
theorem IF (r:bn K θ H ds vs)(N:List Str):kK K θ H (L2.start N vs) (jw (N.length-vs.length) ds):=by
 have hl:=ay r
 refine⟨by simp[L2.start,jw,hl],fun i d e=>?_⟩
 unfold jw at e
 by_cases hi:i<ds.length
 ·rw[List.getElem?_append_left (by simpa using hi),List.getElem?_map] at e
  cases q:ds[i]? with
  | none=>rw[q] at e;cases e
  | some d'=>
   rw[q] at e
   have e':d'=d:=by simpa using e
   subst e'
   obtain⟨v,e1,rv⟩:=fX r q
   refine⟨v,?_,rv⟩
   unfold L2.start
   rw[List.getElem?_append_left (by rw[List.length_map,←hl];exact hi),List.getElem?_map,e1]
   rfl
 ·rw[List.getElem?_append_right (by simpa using hi),List.getElem?_replicate] at e
  split at e <;> cases e
variable{fd:FuncData}
section
variable {P:Program}{w:World}{K:W.Frag}{mg:Str→Option Value}{base:Heap}
theorem MR {qual:Str}{st:Stmt}{N:List Str}{k:Nat}{g:GS}(F:FN K x qual st f fd)(S:d9 N ps (aK st))(hn:ps.length=n)
  (hbody:∀(cdv:Value) (A:Around) (outer:List Env) (s:Shared) (H:Hp) (E:XK),bv k (A.deeper (envOfC qual (aK st) s.heap.objs.size f cdv))→
   PSs (gX (gU P w) P w K mg base N qual (aK st) f cdv A outer s H E) (cu st) (tS (gX (gU P w) P w K mg base N qual (aK st) f cdv A outer s H E) g)) :
  dE P w K mg base (gU P w) (k+1) f fd ps (mY K n (a9 (N.length-n) g)):=by
 obtain⟨oc,od,kV,doc,pm,an,cdv,ct,osl,rfl,lk,hcd⟩:=F.ex
 refine FX lk hcd S (pw hn) fun A outer s H vs Q E hr h=>⟨_,hbody cdv A outer s H E hr,?_⟩
 obtain⟨θ,M,ds,hl,r,hw,h⟩:=h
 have hv:vs.length=n:=by rw[←ay r];exact hl
 refine⟨jw (N.length-n) ds,θ,M,by rw[←hv];exact IF r N,hw,?_⟩
 have h:yO K θ H Q E (aH (g (jw (N.length-n) ds) M)):=h
 unfold aH at h
 cases q:g (jw (N.length-n) ds) M with
 | bad=>rw[q] at h;exact h
 | err c M1=>
  rw[q] at h
  have h:BW K θ H E c M1:=h
  exact fun C θ' H' a s' kC g1 fl=>mQ fl (h C θ' H' a kC g1)
 | ok fl M1=>
  rw[q] at h
  cases fl with
  | rt d=>exact h
  | nx ρ1=>exact fun σ1 θ1 H1 g1 _=>h .non θ1 H1 g1 rfl
  | bk ρ1=>exact h.elim
  | ct ρ1=>exact h.elim
end
variable{T:String}
section
variable {X:Cx}{e:Expr}{es:List Expr}{x:Str}{p pos:Pos}{k n:Nat}{f:Addr}{fd:FuncData}{ps:List Str}{F:FD}{ga:GA}
def aq (n:Nat)(F:FD)(ga:GA):GE:=fun ρ M=>(ga ρ M).bind fun ds M1=>if ds.length=n then F ds M1 else .bad
def EH (X:Cx):XK:=fun cls oa H'=>∃a C c θ M,oa=some a∧cls=.ref C∧iG X.K c C∧Wr X.K θ H' M∧eT X θ H' c M
theorem iY:mF (gU X.prog X.w) X (EH X):=fun ag σ H s e s' I h=>by
 obtain⟨a,C,H',rfl,fl,a',C',c,θ,M,e1,e2,kC,hw,ok⟩:=zK I h
 cases e1;cases e2
 exact ok C θ H' a s' kC (.refl hw) fl
theorem uH {c:Str}(h:eT X θ H c M):BW X.K θ H (EH X) c M:=fun C θ' H' a kC g=>⟨a,C,c,θ',M,rfl,rfl,kC,g.wr,h.go g⟩
theorem Fw (Fn:dE X.prog X.w X.K X.mg X.base (gU X.prog X.w) k f fd ps (mY X.K n F))(hr:bv k X.A)(hg:Gl X x)(hm:X.mg x=some (.ref f))(hk:W.keepIn X.K (.ref f)=true)(hb:eG X.K fd ps [])
  (ha:PA X (e::es) (tA X ga)) (hdb:(x==("__debug__":Str))=false:=by decide) (he:starEach (e::es) X.env=(false,eval e X.env)::starEach es X.env:=by rfl) (hpl:(backTo pos (starEach es X.env)).any (·.1)=false:=by rfl) :
  PE X (.Call (.Name x p) (e::es) [] pos) (tE X (aq n F ga)):=(Eo Fn hr hg hm hk hb .nil iY ha hdb he hpl).of fun σ H Q ⟨ρ,θ,M,hd,hw,h⟩=>by
 refine lC hd hw (aP X θ H Q) (fun c M' h=>h) (fun h=>h) h fun ds M1 vs θ1 H1 g1 r1 h1=>?_
 by_cases hl:ds.length=n
 ·rw[if_pos hl] at h1
  refine⟨θ1,M1,ds,hl,by rw[List.append_nil];exact r1,g1.wr,?_⟩
  have h2:=aP.go g1 h1
  cases q:F ds M1 with
  | ok d M2=>rw[q] at h2;exact h2
  | err c M2=>rw[q] at h2;exact uH h2
  | bad=>rw[q] at h2;exact h2
 ·rw[if_neg hl] at h1;exact h1.elim
def rC (X:Cx)(F:FD):List V→Hp→VK→Prop:=fun xs H Q=>∃θ M ds,Wr X.K θ H M∧bn X.K θ H ds xs∧aP X θ H Q (F ds M)
def aI (F:FD)(ga:GA):GE:=fun ρ M=>(ga ρ M).bind F
theorem CM {Q:VK}(h:tE X (aI F ga) σ H Q):Ni (rC X F) (tA X ga) σ H Q:=by
 obtain⟨ρ,θ,M,hd,hw,h⟩:=h
 exact lC hd hw (aP X θ H Q) (fun c M' h=>h) (fun h=>h) h fun ds M1 vs θ1 H1 g1 r1 h1=>⟨θ1,M1,ds,g1.wr,r1,aP.go g1 h1⟩
theorem CN {id:String}(hc:dh X (.builtin id) (rC X F))(hg:Gl X x)(hm:X.mg x=none)(hv:bootBuiltins x=some (.builtin id))(ha:PA X (e::es) (tA X ga))(hn:x≠"__name__":=by decide)(hdb:(x==("__debug__":Str))=false:=by decide)
  (he:starEach (e::es) X.env=(false,eval e X.env)::starEach es X.env:=by rfl) (hpl:(backTo pos (starEach es X.env)).any (·.1)=false:=by rfl):PE X (.Call (.Name x p) (e::es) [] pos) (tE X (aI F ga)):=
 (vX hc hg hm hv ha hn hdb he hpl).of fun σ H Q h=>CM h
theorem Au (hc:dh X (.type T) (rC X F))(hg:Gl X x)(hm:X.mg x=none)(hv:bootBuiltins x=some (.type T))(ha:PA X (e::es) (tA X ga))(hn:x≠"__name__":=by decide)(hdb:(x==("__debug__":Str))=false:=by decide)
  (he:starEach (e::es) X.env=(false,eval e X.env)::starEach es X.env:=by rfl) (hpl:(backTo pos (starEach es X.env)).any (·.1)=false:=by rfl):PE X (.Call (.Name x p) (e::es) [] pos) (tE X (aI F ga)):=
 (AD hc hg hm hv ha hn hdb he hpl).of fun σ H Q h=>CM h
end
variable{items:Array Value}
section
variable {prog:Program}{w:World}{A:Around}{E:Value→Shared→Prop}{s:Shared}
theorem Cp {t b:Addr}{ws:List Value}{Q:Value→Shared→Prop}(ht:IsTup s.heap t #[])(hb:IsTup s.heap b ws.toArray)
  (h:Q (.ref b) s):wpAny (model prog w) A (binaryOp .Add (.ref t) (.ref b)) Q E s:=by
 obtain⟨⟨cls,dd,data,sl⟩,ho,hc,n,hd⟩:=id ht
 obtain⟨⟨cls2,dd2,data2,sl2⟩,ho2,hc2,n2,hd2⟩:=id hb
 simp only at hc hd hc2 hd2
 subst hc hd hc2 hd2
 exact concat_meets ⟨_,ho,rfl⟩ ⟨_,ho2,rfl⟩ noFill_tuple_add seq_tuple_add PySem.F.slot_tuple_add PySem.F.entry_tuple_add (PySem.F.args_tuple_add_2 _ _)
   (tuple_addW0 t b #[] ws.toArray n n2 dd dd2 sl sl2 (by simp)) ⟨ho,ho2,h⟩
theorem lS {t sl:Addr}{vl vu:Value}{lo hi:Option Int}{Q:Value→Shared→Prop}(ht:IsTup s.heap t items)(hs:s.heap.IsSliceOf sl vl vu .none)(pl:IsPart vl lo)(pu:IsPart vu hi)
  (hw:HT.sIx items.size 0 lo=0∧HT.sIx items.size items.size hi=items.size) (h:Q (.ref t) s):wpAny (model prog w) A (getItem (.ref t) (.ref sl)) Q E s:=by
 obtain⟨os,hos,hcs,hds⟩:=id hs
 have hTs:s.TypeIs (.ref sl) "slice":=⟨os,hos,hcs⟩
 unfold getItem
 try with_reducible refine wpAny_holding ?_
 first|refine wpAny_bind (wpAny_pure ?_)|skip
 refine wpAny_bind (wpAny_sequenceKey ht.typeIs (by decide) ?_)
 refine wpAny_bind (wpAny_callSpecial?_slot (name:=Str.ofString "__getitem__") ht.typeIs PyProof.Rows.slot_tuple_getitem
  (wpAny_call_entry PyProof.Rows.slot_tuple_getitem ht.typeIs entry_tuple_getitem ?_ (args_tuple_getitem _ _)))
 show wpAny _ _ (Builtin.Tuple.tupleItemsOf (.ref t) >>= _) _ _ s
 refine wpAny_bind (tupleItemsOf_ ht ?_)
 refine wpAny_bind (wpAny_typeOf hTs ?_)
 rw[if_pos (by decide)]
 refine wpAny_bind (HT.sliceApplied_gen hs pl pu ?_)
 have hyes:(((HT.sIx items.size 0 lo:Nat):Int)==0&&(1:Int)==1&&(HT.sIx items.size items.size hi-HT.sIx items.size 0 lo)==items.size)=true:=by
  rw[hw.1,hw.2];simp
 show wpAny _ _ (if(((HT.sIx items.size 0 lo:Nat):Int)==0&&(1:Int)==1&&(HT.sIx items.size items.size hi-HT.sIx items.size 0 lo)==items.size)=true then _ else _) _ _ s
 rw[if_pos hyes]
 unfold Builtin.Tuple.tupleIsExact
 refine wpAny_bind (wpAny_bind (wpAny_typeOf ht.typeIs (wpAny_pure ?_)))
 rw[if_pos (by decide)]
 first
  | exact wpAny_bind (wpAny_rule (wpAny_bind (wpAny_pure ⟨_,rfl,wpAny_pure h⟩)))
  | exact wpAny_bind (wpAny_rule (wpAny_pure ⟨_,rfl,wpAny_pure h⟩))
  | exact wpAny_bind (wpAny_rule (wpAny_bind (wpAny_pure (wpAny_pure ⟨_,rfl,wpAny_pure h⟩))))
end
def pM (d:D)(M:aB):Option (List D):=match d with
 | .lst xs=>some xs
 | .mr k=>match M[k]? with
  | some (.lst xs)=>some xs
  | _=>none
 | _=>none
def bM:F2:=fun x y M=>match x,y with
 | .int i,.int j=>.ok (.int (i+j)) M
 | .str a,.str b=>if a.length+b.length≤sizeLine then .ok (.str (a++b)) M else .bad
 | .tup a,.tup b=>if a.length+b.length≤sizeLine then .ok (.tup (a++b)) M else .bad
 | .bl a,.int j=>.ok (.int ((if a=true then 1 else 0)+j)) M
 | x,y=>match pM x M,pM y M with
  | some a,some b=>if a.length+b.length≤sizeLine then .ok (.lst (a++b)) M else .bad
  | _,_=>.bad
theorem wK {xs:List D}(hw:Wr K θ H M)(r:dX K θ H d v)(e:pM d M=some xs):∃a vs,v=.ref a∧H a=some (.lst vs)∧bn K θ H xs vs:=by
 cases d with
 | lst ys=>cases e;obtain⟨a,vs,ea,ta,ra⟩:=r;exact⟨a,vs,ea,ta.1,ra⟩
 | mr k=>
  obtain⟨a,ea,ta⟩:=r
  have e:(match M[k]? with|some (.lst xs)=>some xs|_=>none)=some xs:=e
  cases q:M[k]? with
  | none=>rw[q] at e;cases e
  | some m=>
   cases m with
   | lst ys=>
    rw[q] at e
    cases e
    obtain⟨vs,hv,ra⟩:=hw.at_ k a _ ta q
    exact⟨a,vs,ea,hv,ra⟩
   | _=>rw[q] at e;cases e
 | _=>cases e
def fq:F2:=fun x y M=>match x,y with
 | .int i,.int j=>.ok (.int (i-j)) M
 | _,_=>.bad
def fT:F2:=fun x y M=>match x,y with
 | .int i,.int j=>if(-(2 ^ 64)<i∧i<2 ^ 64)∨(-(2 ^ 64)<j∧j<2 ^ 64) then .ok (.int (i*j)) M else .bad
 | _,_=>.bad
def iR:F2:=fun x y M=>match x,y with
 | .int i,.int j=>if 0<j∧j.natAbs.log2<9000 then .ok (.int (i / j)) M else .bad
 | _,_=>.bad
def iC:F2:=fun x y M=>match x,y with
 | .int i,.int j=>if 0<j then .ok (.int (i % j)) M else .bad
 | _,_=>.bad
def rE:F2:=fun x y M=>match x,y with
 | .int i,.int j=>if 0≤j∧j≤1000000∧i.natAbs<2 ^ 64 then .ok (.int (i ^ j.toNat)) M else .bad
 | _,_=>.bad
variable{u:Value}{e:Expr}
section
variable {X:Cx}
theorem IV:iK X (binaryOp .Add) (rD X bM):=by
 intro ag s σ H x y v u Q I rx ry h
 obtain⟨θ,M,dx,dy,hw,r1,r2,h⟩:=h
 unfold bM at h
 split at h
 ·rename_i i j
  exact Hj ag s σ H x y v u Q I rx ry ⟨i,j,r1,r2,h _ θ H (.refl hw) rfl⟩
 ·rename_i a b
  split at h
  ·rename_i hl
   exact xY ag s σ H x y v u Q I rx ry ⟨a,b,r1,r2,hl,h _ θ H (.refl hw) rfl⟩
  ·exact h.elim
 ·rename_i as bs
  split at h
  ·rename_i hl
   obtain⟨a,vs,ea,ta,ra⟩:=r1
   obtain⟨b,us,eb,tb,rb⟩:=r2
   by_cases hv:vs=[]
   ·subst hv
    have e0:as=[]:=List.length_eq_zero_iff.mp (ay ra)
    subst e0
    subst ea;subst eb
    cases rx;cases ry
    obtain⟨its,q1,p1,_⟩:=I.tuple ta.sq
    obtain⟨its2,q2,p2,_⟩:=I.tuple tb.sq
    cases q1
    exact Cp p1 p2 ⟨.ref b,H,I,rfl,h _ θ H (.refl hw) ⟨b,us,rfl,tb,rb⟩⟩
   ·refine E3 ag s σ H x y v u Q I rx ry ⟨a,b,vs,us,ea,eb,ta.sq,tb.sq,hv,by rw[←ay ra,←ay rb];exact hl,fun hu=>?_,fun _ p hp=>h _ θ _ (dG hw hp) (hU hw hp (dW ra rb))⟩
    subst hu
    have e0:bs=[]:=List.length_eq_zero_iff.mp (ay rb)
    subst e0
    exact h _ θ H (.refl hw) ⟨a,vs,rfl,ta,by rw[List.append_nil];exact ra⟩
  ·exact h.elim
 ·rename_i a j
  have e1:x=.bl a:=r1
  have e2:y=.int j:=r2
  subst e1;subst e2
  cases rx
  obtain⟨t',rfl⟩:=ry
  exact IntBool.add_bool_int ⟨.int _,H,I.tok _,⟨_,rfl⟩,h _ θ H (.refl hw) rfl⟩
 ·split at h
  ·rename_i as bs q1 q2
   split at h
   ·rename_i hl
    obtain⟨a,vs,ea,ta,ra⟩:=wK hw r1 q1
    obtain⟨b,us,eb,tb,rb⟩:=wK hw r2 q2
    exact JJ ag s σ H x y v u Q I rx ry ⟨a,b,vs,us,ea,eb,ta,tb,by rw[←ay ra,←ay rb];exact hl,fun p hp=>h _ θ _ (dG hw hp) (jd hw hp (dW ra rb))⟩
   ·exact h.elim
  ·exact h.elim
theorem pL {H':Hp}{p:Addr}(hw:Wr K θ H M):dX K (θ++[p]) H' (.mr M.length) (.ref p):=by
 refine⟨p,rfl,?_⟩
 rw[←hw.len,List.getElem?_append_right (Nat.le_refl _)]
 simp
theorem Jx:iK X (binaryOp .Sub) (rD X fq):=by
 intro ag s σ H x y v u Q I rx ry h
 obtain⟨θ,M,dx,dy,hw,r1,r2,h⟩:=h
 unfold fq at h
 split at h
 ·rename_i i j
  exact Jy ag s σ H x y v u Q I rx ry ⟨i,j,r1,r2,h _ θ H (.refl hw) rfl⟩
 ·exact h.elim
theorem HW:iK X (binaryOp .Mult) (rD X fT):=by
 intro ag s σ H x y v u Q I rx ry h
 obtain⟨θ,M,dx,dy,hw,r1,r2,h⟩:=h
 unfold fT at h
 split at h
 ·rename_i i j
  split at h
  ·rename_i hc
   exact Ih ag s σ H x y v u Q I rx ry ⟨i,j,r1,r2,hc,h _ θ H (.refl hw) rfl⟩
  ·exact h.elim
 ·exact h.elim
theorem Fa:iK X (binaryOp .FloorDiv) (rD X iR):=by
 intro ag s σ H x y v u Q I rx ry h
 obtain⟨θ,M,dx,dy,hw,r1,r2,h⟩:=h
 unfold iR at h
 split at h
 ·rename_i i j
  split at h
  ·rename_i hc
   have e1:x=.int i:=r1
   have e2:y=.int j:=r2
   subst e1;subst e2
   obtain⟨t,rfl⟩:=rx
   obtain⟨t',rfl⟩:=ry
   have h1:(0:Int)<j:=hc.1
   exact floordiv_int (by omega) (by rw[Int.fdiv_eq_ediv_of_nonneg i (by omega)];exact⟨.int (i / j),H,I.tok _,⟨_,rfl⟩,h _ θ H (.refl hw) rfl⟩) (.inl (PyProof.noPylong_of_log2 hc.2))
  ·exact h.elim
 ·exact h.elim
theorem GK:iK X (binaryOp .Mod) (rD X iC):=by
 intro ag s σ H x y v u Q I rx ry h
 obtain⟨θ,M,dx,dy,hw,r1,r2,h⟩:=h
 unfold iC at h
 split at h
 ·rename_i i j
  split at h
  ·rename_i hc
   exact Hr ag s σ H x y v u Q I rx ry ⟨i,j,r1,r2,hc,h _ θ H (.refl hw) rfl⟩
  ·exact h.elim
 ·exact h.elim
theorem Ju:iK X (binaryOp .Pow) (rD X rE):=by
 intro ag s σ H x y v u Q I rx ry h
 obtain⟨θ,M,dx,dy,hw,r1,r2,h⟩:=h
 unfold rE at h
 split at h
 ·rename_i i j
  split at h
  ·rename_i hc
   exact Ib ag s σ H x y v u Q I rx ry ⟨i,j,r1,r2,hc,h _ θ H (.refl hw) rfl⟩
  ·exact h.elim
 ·exact h.elim
def mM (g:GE):GE:=fun ρ M=>(g ρ M).bind fun x M1=>match x with
 | .int i=>.ok (.int (-i)) M1
 | _=>.bad
theorem Hl {a:Expr}(ha:PE X a (tE X g)):PE X (.UnaryOp .USub a pos) (tE X (mM g)):=(Ge A3 ha).of fun σ H Q ⟨ρ,θ,M,hd,hw,h⟩=>by
 refine bI hd hw (aP X θ H Q) (fun c M' h=>h) (fun h=>h) h fun d M1 v θ1 H1 g1 r1 h1=>?_
 split at h1
 ·rename_i i
  exact⟨i,r1,h1 _ θ1 H1 g1 rfl⟩
 ·exact h1.elim
theorem Gz {a:Expr}(ha:PE X a (tE X g)):PE X (.UnaryOp .Not a pos) (tE X (wz (aS g))):=(Jz ha).of fun σ H Q ⟨ρ,θ,M,hd,hw,h⟩=>by
 refine⟨ρ,θ,M,hd,hw,?_⟩
 unfold wz aS at h
 cases q:g ρ M with
 | ok d M1=>
  rw[q] at h
  cases d with
  | bl b=>exact fun v θ1 H1 g1 r1=>⟨b,r1,h _ θ1 H1 g1 rfl⟩
  | _=>exact h.elim
 | err c M1=>rw[q] at h;exact h
 | bad=>rw[q] at h;exact h
def oS:F2:=fun x y M=>match x,y with
 | .int i,.int j=>.ok (.bl (decide (i<j))) M
 | _,_=>.bad
def nP:F2:=fun x y M=>match x,y with
 | .int i,.int j=>.ok (.bl (decide (i≤j))) M
 | _,_=>.bad
def zc:F2:=fun x y M=>match x,y with
 | .int i,.int j=>.ok (.bl (decide (j<i))) M
 | _,_=>.bad
def xp:F2:=fun x y M=>match x,y with
 | .int i,.int j=>.ok (.bl (decide (j≤i))) M
 | _,_=>.bad
theorem K0:iK X (compareOp .Lt) (rD X oS):=by
 intro ag s σ H x y v u Q I rx ry h
 obtain⟨θ,M,dx,dy,hw,r1,r2,h⟩:=h
 unfold oS at h
 split at h
 ·rename_i i j
  exact Ly ag s σ H x y v u Q I rx ry ⟨i,j,r1,r2,h _ θ H (.refl hw) rfl⟩
 ·exact h.elim
theorem L5:iK X (compareOp .LtE) (rD X nP):=by
 intro ag s σ H x y v u Q I rx ry h
 obtain⟨θ,M,dx,dy,hw,r1,r2,h⟩:=h
 unfold nP at h
 split at h
 ·rename_i i j
  exact LG ag s σ H x y v u Q I rx ry ⟨i,j,r1,r2,h _ θ H (.refl hw) rfl⟩
 ·exact h.elim
theorem K4:iK X (compareOp .Gt) (rD X zc):=by
 intro ag s σ H x y v u Q I rx ry h
 obtain⟨θ,M,dx,dy,hw,r1,r2,h⟩:=h
 unfold zc at h
 split at h
 ·rename_i i j
  exact K6 ag s σ H x y v u Q I rx ry ⟨i,j,r1,r2,h _ θ H (.refl hw) rfl⟩
 ·exact h.elim
theorem JX:iK X (compareOp .GtE) (rD X xp):=by
 intro ag s σ H x y v u Q I rx ry h
 obtain⟨θ,M,dx,dy,hw,r1,r2,h⟩:=h
 unfold xp at h
 split at h
 ·rename_i i j
  exact KN ag s σ H x y v u Q I rx ry ⟨i,j,r1,r2,h _ θ H (.refl hw) rfl⟩
 ·exact h.elim
def Kh (d c:D):Option Bool:=match c,d with
 | .non,.non=>some true
 | .non,.any=>none
 | .non,_=>some false
 | .bl b,.bl b'=>some (b'==b)
 | .bl _,.non=>some false
 | .bl _,.int _=>some false
 | .bl _,.str _=>some false
 | .bl _,.tup _=>some false
 | .bl _,.lst _=>some false
 | .bl _,.ro _=>some false
 | .bl _,.mr _=>some false
 | _,_=>none
def mU (neg:Bool):F2:=fun x y M=>match Kh x y with
 | some b=>.ok (.bl (b != neg)) M
 | none=>.bad
theorem Br {dx dy:D}{x y:V}{v:Value}{b:Bool}(r1:dX K θ H dx x)(r2:dX K θ H dy y)(rx:bc x v)(ry:bc y u)(h:Kh dx dy=some b) :
  plainIs v u=true∧(v==u)=b:=by
 cases dy with
 | non=>
  have e:y=.non:=r2
  subst e
  cases ry
  cases dx with
  | non=>have e:x=.non:=r1;subst e;cases rx;cases h;exact⟨rfl,rfl⟩
  | bl b=>have e:x=.bl b:=r1;subst e;cases rx;cases h;exact⟨rfl,rfl⟩
  | int i=>have e:x=.int i:=r1;subst e;obtain⟨t,rfl⟩:=rx;cases h;exact⟨rfl,rfl⟩
  | str i=>have e:x=.str i:=r1;subst e;obtain⟨t,rfl⟩:=rx;cases h;exact⟨rfl,rfl⟩
  | tup ds=>obtain⟨a,vs,e,_⟩:=r1;subst e;cases rx;cases h;exact⟨rfl,rfl⟩
  | lst ds=>obtain⟨a,vs,e,_⟩:=r1;subst e;cases rx;cases h;exact⟨rfl,rfl⟩
  | ro ds=>obtain⟨a,vs,e,_⟩:=r1;subst e;cases rx;cases h;exact⟨rfl,rfl⟩
  | mr k=>obtain⟨a,e,_⟩:=r1;subst e;cases rx;cases h;exact⟨rfl,rfl⟩
  | exc c=>first|(obtain⟨a,C,e,_⟩:=r1;subst e;cases rx;cases h;exact⟨rfl,rfl⟩)|cases h
  | any=>cases h
 | bl c=>
  have e:y=.bl c:=r2
  subst e
  cases ry
  cases dx with
  | non=>have e:x=.non:=r1;subst e;cases rx;cases h;exact⟨rfl,rfl⟩
  | bl b=>
   have e:x=.bl b:=r1;subst e;cases rx;cases h
   refine⟨rfl,?_⟩
   cases b <;> cases c <;> rfl
  | int i=>have e:x=.int i:=r1;subst e;obtain⟨t,rfl⟩:=rx;cases h;exact⟨rfl,rfl⟩
  | str i=>have e:x=.str i:=r1;subst e;obtain⟨t,rfl⟩:=rx;cases h;exact⟨rfl,rfl⟩
  | tup ds=>obtain⟨a,vs,e,_⟩:=r1;subst e;cases rx;cases h;exact⟨rfl,rfl⟩
  | lst ds=>obtain⟨a,vs,e,_⟩:=r1;subst e;cases rx;cases h;exact⟨rfl,rfl⟩
  | ro ds=>obtain⟨a,vs,e,_⟩:=r1;subst e;cases rx;cases h;exact⟨rfl,rfl⟩
  | mr k=>obtain⟨a,e,_⟩:=r1;subst e;cases rx;cases h;exact⟨rfl,rfl⟩
  | exc c=>first|(obtain⟨a,C,e,_⟩:=r1;subst e;cases rx;cases h;exact⟨rfl,rfl⟩)|cases h
  | any=>cases h
 | _=>cases dx <;> cases h
theorem J8:iK X (compareOp .Is) (rD X (mU false)):=by
 intro ag s σ H x y v u Q I rx ry h
 obtain⟨θ,M,dx,dy,hw,r1,r2,h⟩:=h
 unfold mU at h
 split at h
 ·rename_i b q
  obtain⟨hp,e⟩:=Br r1 r2 rx ry q
  refine wpAny_is_plain hp ?_
  rw[e]
  refine⟨.bl b,H,I,rfl,?_⟩
  have:=h (.bl (b != false)) θ H (.refl hw) rfl
  rw[Bool.bne_false] at this
  exact this
 ·exact h.elim
theorem BJ:iK X (compareOp .IsNot) (rD X (mU true)):=by
 intro ag s σ H x y v u Q I rx ry h
 obtain⟨θ,M,dx,dy,hw,r1,r2,h⟩:=h
 unfold mU at h
 split at h
 ·rename_i b q
  obtain⟨hp,e⟩:=Br r1 r2 rx ry q
  refine wpAny_isNot_plain hp ?_
  rw[e]
  refine⟨.bl (!b),H,I,rfl,?_⟩
  have:=h (.bl (b != true)) θ H (.refl hw) rfl
  rw[Bool.bne_true] at this
  exact this
 ·exact h.elim
mutual
def lX:D→PyData
 | .non=>.none
 | .bl b=>.bool b
 | .int i=>.int i
 | .str x=>.str x
 | .tup ds=>.tuple (nA ds)
 | .lst ds=>.list (nA ds)
 | .ro ds=>.list (nA ds)
 | .mr _=>.dict []
 | .exc _=>.dict []
 | .any=>.dict []
def nA:List D→List PyData
 | []=>[]
 | d::ds=>lX d::nA ds
end
mutual
def aA:Nat→D→Bool
 | _,.non=>true
 | _,.bl _=>true
 | _,.int _=>true
 | _,.str x=>PyData.strOk x
 | n+1,.tup ds=>bU n ds
 | n+1,.lst ds=>bU n ds
 | n+1,.ro ds=>bU n ds
 | _,_=>false
def bU:Nat→List D→Bool
 | _,[]=>true
 | n,d::ds=>aA n d&&bU n ds
end
mutual
def gf:D→D→Bool
 | .non,.non=>true
 | .bl a,.bl b=>a==b
 | .bl a,.int j=>(if a then 1 else 0)==j
 | .int i,.bl b=>i==(if b then 1 else 0)
 | .int i,.int j=>i==j
 | .str x,.str y=>x==y
 | .lst xs,.lst ys=>f6 xs ys
 | .lst xs,.ro ys=>f6 xs ys
 | .ro xs,.lst ys=>f6 xs ys
 | .ro xs,.ro ys=>f6 xs ys
 | .tup xs,.tup ys=>f6 xs ys
 | _,_=>false
def f6:List D→List D→Bool
 | [],[]=>true
 | x::xs,y::ys=>gf x y&&f6 xs ys
 | _,_=>false
end
mutual
theorem uW:∀(x y:D) (n m:Nat),aA n x=true→aA m y=true→PyData.eqv (lX x) (lX y)=gf x y
 | .non,y,n,m,hx,hy=>by cases y <;> simp_all [lX,gf,PyData.eqv,aA]
 | .bl a,y,n,m,hx,hy=>by cases y <;> simp_all [lX,gf,PyData.eqv,aA]
 | .int a,y,n,m,hx,hy=>by cases y <;> simp_all [lX,gf,PyData.eqv,aA]
 | .str a,y,n,m,hx,hy=>by cases y <;> simp_all [lX,gf,PyData.eqv,aA]
 | .tup xs,y,n,m,hx,hy=>by
  cases n with
  | zero=>simp[aA] at hx
  | succ n=>
   cases y with
   | tup ys=>
    cases m with
    | zero=>simp[aA] at hy
    | succ m=>
     simp only[lX,PyData.eqv,gf]
     exact jB xs ys n m (by simpa[aA] using hx) (by simpa[aA] using hy)
   | _=>simp_all [lX,gf,PyData.eqv,aA]
 | .lst xs,y,n,m,hx,hy=>by
  cases n with
  | zero=>simp[aA] at hx
  | succ n=>
   cases y with
   | lst ys=>
    cases m with
    | zero=>simp[aA] at hy
    | succ m=>
     simp only[lX,PyData.eqv,gf]
     exact jB xs ys n m (by simpa[aA] using hx) (by simpa[aA] using hy)
   | ro ys=>
    cases m with
    | zero=>simp[aA] at hy
    | succ m=>
     simp only[lX,PyData.eqv,gf]
     exact jB xs ys n m (by simpa[aA] using hx) (by simpa[aA] using hy)
   | _=>simp_all [lX,gf,PyData.eqv,aA]
 | .ro xs,y,n,m,hx,hy=>by
  cases n with
  | zero=>simp[aA] at hx
  | succ n=>
   cases y with
   | lst ys=>
    cases m with
    | zero=>simp[aA] at hy
    | succ m=>
     simp only[lX,PyData.eqv,gf]
     exact jB xs ys n m (by simpa[aA] using hx) (by simpa[aA] using hy)
   | ro ys=>
    cases m with
    | zero=>simp[aA] at hy
    | succ m=>
     simp only[lX,PyData.eqv,gf]
     exact jB xs ys n m (by simpa[aA] using hx) (by simpa[aA] using hy)
   | _=>simp_all [lX,gf,PyData.eqv,aA]
 | .mr a,y,n,m,hx,hy=>by simp[aA] at hx
 | .exc a,y,n,m,hx,hy=>by simp[aA] at hx
 | .any,y,n,m,hx,hy=>by simp[aA] at hx
theorem jB:∀(x y:List D) (n m:Nat),bU n x=true→bU m y=true→PyData.eqvAll (nA x) (nA y)=f6 x y
 | [],y,n,m,hx,hy=>by cases y <;> simp[nA,PyData.eqvAll,f6]
 | x::xs,y,n,m,hx,hy=>by
  cases y with
  | nil=>simp[nA,PyData.eqvAll,f6]
  | cons y ys=>
   simp only[bU,Bool.and_eq_true] at hx hy
   simp only[nA,PyData.eqvAll,f6]
   rw[uW x y n m hx.1 hy.1,jB xs ys n m hx.2 hy.2]
end
mutual
theorem ng:∀(d:D) (n:Nat),aA n d=true→(lX d).canLay0=true∧(lX d).depth≤n
 | .non,n,h=>by simp[lX,PyData.canLay0,PyData.depth]
 | .bl a,n,h=>by simp[lX,PyData.canLay0,PyData.depth]
 | .int a,n,h=>by simp[lX,PyData.canLay0,PyData.depth]
 | .str a,n,h=>by
  have:PyData.strOk a=true:=by cases n <;> simpa[aA] using h
  simp[lX,PyData.canLay0,PyData.depth,this]
 | .tup xs,n,h=>by
  cases n with
  | zero=>simp[aA] at h
  | succ n=>
   have:=nJ xs n (by simpa[aA] using h)
   simp only[lX,PyData.canLay0,PyData.depth]
   exact⟨this.1,by omega⟩
 | .lst xs,n,h=>by
  cases n with
  | zero=>simp[aA] at h
  | succ n=>
   have:=nJ xs n (by simpa[aA] using h)
   simp only[lX,PyData.canLay0,PyData.depth]
   exact⟨this.1,by omega⟩
 | .ro xs,n,h=>by
  cases n with
  | zero=>simp[aA] at h
  | succ n=>
   have:=nJ xs n (by simpa[aA] using h)
   simp only[lX,PyData.canLay0,PyData.depth]
   exact⟨this.1,by omega⟩
 | .mr a,n,h=>by simp[aA] at h
 | .exc a,n,h=>by simp[aA] at h
 | .any,n,h=>by simp[aA] at h
theorem nJ:∀(ds:List D) (n:Nat),bU n ds=true→PyData.canLayAll0 (nA ds)=true∧PyData.depthAll (nA ds)≤n
 | [],n,h=>by simp[nA,PyData.canLayAll0,PyData.depthAll]
 | d::ds,n,h=>by
  simp only[bU,Bool.and_eq_true] at h
  have h1:=ng d n h.1
  have h2:=nJ ds n h.2
  simp only[nA,PyData.canLayAll0,PyData.depthAll,Bool.and_eq_true]
  exact⟨⟨h1.1,h2.1⟩,by omega⟩
end
mutual
theorem xl {ag:List (Addr×Obj)}{s:Shared}{σ:L2.St}{H:Hp}{θ:List Addr}(I:Inv X ag σ H s):∀(d:D) (n:Nat) (v:V) (u:Value),aA n d=true→dX X.K θ H d v→bc v u→∃as,Reads s.heap u (lX d) as
 | .non,n,v,u,h,r,q=>by have e:v=.non:=r;subst e;cases q;exact⟨_,.none⟩
 | .bl a,n,v,u,h,r,q=>by have e:v=.bl a:=r;subst e;cases q;exact⟨_,.bool a⟩
 | .int a,n,v,u,h,r,q=>by have e:v=.int a:=r;subst e;obtain⟨t,rfl⟩:=q;exact⟨_,.int a t⟩
 | .str a,n,v,u,h,r,q=>by have e:v=.str a:=r;subst e;obtain⟨t,rfl⟩:=q;exact⟨_,.str a t⟩
 | .tup xs,n,v,u,h,r,q=>by
  cases n with
  | zero=>simp[aA] at h
  | succ n=>
   obtain⟨a,vs,e,ta,ra⟩:=r
   subst e;cases q
   obtain⟨its,rv,⟨o,h1,h2,m,h3⟩,_⟩:=I.tuple ta.sq
   obtain⟨as,R⟩:=jD I xs n vs its (by simpa[aA] using h) ra rv
   exact⟨_,.tuple h1 h2 h3 (by simpa using R)⟩
 | .lst xs,n,v,u,h,r,q=>by
  cases n with
  | zero=>simp[aA] at h
  | succ n=>
   obtain⟨a,vs,e,ta,ra⟩:=r
   subst e;cases q
   obtain⟨its,rv,⟨o,m,h1,h2,_,h3⟩,_⟩:=I.list (ta.sq (K:=X.K))
   obtain⟨as,R⟩:=jD I xs n vs its (by simpa[aA] using h) ra rv
   exact⟨_,.list h1 h2 h3 (by simpa using R)⟩
 | .ro xs,n,v,u,h,r,q=>by
  cases n with
  | zero=>simp[aA] at h
  | succ n=>
   obtain⟨a,vs,e,ta,ra⟩:=r
   subst e;cases q
   obtain⟨its,rv,⟨o,m,h1,h2,_,h3⟩,_⟩:=I.list ta.sq
   obtain⟨as,R⟩:=jD I xs n vs its (by simpa[aA] using h) ra rv
   exact⟨_,.list h1 h2 h3 (by simpa using R)⟩
 | .mr a,n,v,u,h,r,q=>by simp[aA] at h
 | .exc a,n,v,u,h,r,q=>by simp[aA] at h
 | .any,n,v,u,h,r,q=>by simp[aA] at h
theorem jD {ag:List (Addr×Obj)}{s:Shared}{σ:L2.St}{H:Hp}{θ:List Addr}(I:Inv X ag σ H s):∀(ds:List D) (n:Nat) (vs:List V) (us:List Value),bU n ds=true→bn X.K θ H ds vs→aW vs us→∃as,ReadsAll s.heap us (nA ds) as
 | [],n,vs,us,h,r,q=>by have e:vs=[]:=r;subst e;cases q;exact⟨_,.nil⟩
 | d::ds,n,vs,us,h,r,q=>by
  simp only[bU,Bool.and_eq_true] at h
  obtain⟨v,rr,e,r1,r2⟩:=r
  subst e
  cases q with
  | cons q1 q2=>
   obtain⟨as,R1⟩:=xl I d n v _ h.1 r1 q1
   obtain⟨bs,R2⟩:=jD I ds n rr _ h.2 r2 q2
   exact⟨_,.cons R1 R2⟩
end
def now (d:D)(M:aB):D:=match d with
 | .mr k=>match M[k]? with
  | some (.lst xs)=>.lst xs
  | _=>.mr k
 | d=>d
def a7 (neg:Bool):F2:=fun x y M=>if aA 40 (now x M)&&aA 40 (now y M) then .ok (.bl (gf (now x M) (now y M) != neg)) M else .bad
theorem lN (I:Inv X ag σ H s)(hw:Wr X.K θ H M)(h:aA n (now d M)=true)(r:dX X.K θ H d v)(q:bc v u):∃as,Reads s.heap u (lX (now d M)) as:=by
 cases d with
 | mr k=>
  obtain⟨a,e,ta⟩:=r
  subst e;cases q
  cases qm:M[k]? with
  | none=>
   have e:now (.mr k) M=.mr k:=by simp[now,qm]
   rw[e] at h;simp[aA] at h
  | some m=>
   cases m with
   | lst xs=>
    have e:now (.mr k) M=.lst xs:=by simp[now,qm]
    rw[e] at h ⊢
    cases n with
    | zero=>simp[aA] at h
    | succ n=>
     obtain⟨vs,hv,ra⟩:=hw.at_ k a _ ta qm
     obtain⟨its,rv,⟨o,m,h1,h2,_,h3⟩,_⟩:=I.list (X:=X) (xs:=vs) (.inl (.inl hv))
     obtain⟨as,R⟩:=jD I xs n vs its (by simpa[aA] using h) ra rv
     exact⟨_,.list h1 h2 h3 (by simpa using R)⟩
   | _=>
    have e:now (.mr k) M=.mr k:=by simp[now,qm]
    rw[e] at h;simp[aA] at h
 | _=>exact xl I _ n v u h r q
theorem LO (hu:X.A.units+64<cLine):iK X (compareOp .Eq) (rD X (a7 false)):=by
 intro ag s σ H x y v u Q I rx ry h
 obtain⟨θ,M,dx,dy,hw,r1,r2,h⟩:=h
 unfold a7 at h
 split at h
 ·rename_i hc
  rw[Bool.and_eq_true] at hc
  obtain⟨as,R1⟩:=lN I hw hc.1 r1 rx
  obtain⟨bs,R2⟩:=lN I hw hc.2 r2 ry
  have l1:=ng _ _ hc.1
  have l2:=ng _ _ hc.2
  refine SeqAt.compareEq_reads R1 R2 l1.1 l2.1 (by have:=l1.2;have:min (lX (now dx M)).depth (lX (now dy M)).depth≤(lX (now dx M)).depth:=Nat.min_le_left _ _;omega) ?_
  rw[uW _ _ _ _ hc.1 hc.2]
  refine⟨.bl _,H,I,rfl,?_⟩
  have:=h _ θ H (.refl hw) rfl
  rw[Bool.bne_false] at this
  exact this
 ·exact h.elim
theorem Lr (hu:X.A.units+64<cLine):iK X (compareOp .NotEq) (rD X (a7 true)):=by
 intro ag s σ H x y v u Q I rx ry h
 obtain⟨θ,M,dx,dy,hw,r1,r2,h⟩:=h
 unfold a7 at h
 split at h
 ·rename_i hc
  rw[Bool.and_eq_true] at hc
  obtain⟨as,R1⟩:=lN I hw hc.1 r1 rx
  obtain⟨bs,R2⟩:=lN I hw hc.2 r2 ry
  have l1:=ng _ _ hc.1
  have l2:=ng _ _ hc.2
  refine SeqAt.compareNe_reads R1 R2 l1.1 l2.1 (by have:=l1.2;have:min (lX (now dx M)).depth (lX (now dy M)).depth≤(lX (now dx M)).depth:=Nat.min_le_left _ _;omega) ?_
  rw[uW _ _ _ _ hc.1 hc.2]
  refine⟨.bl _,H,I,rfl,?_⟩
  have:=h _ θ H (.refl hw) rfl
  rw[Bool.bne_true] at this
  exact this
 ·exact h.elim
def b0 (d:D)(M:aB):Option (List D):=match d with
 | .tup xs=>some xs
 | .lst xs=>some xs
 | .ro xs=>some xs
 | .mr k=>match M[k]? with
  | some (.lst xs)=>some xs
  | _=>none
 | _=>none
def aX:F2:=fun x y M=>match b0 x M,y with
 | some xs,.int i=>match iZ xs i with
  | some d=>.ok d M
  | none=>.bad
 | _,_=>.bad
theorem Dp {i:Int}(r:bn K θ H ds vs)(e:iZ ds i=some d):∃v,iZ vs i=some v∧dX K θ H d v:=by
 unfold iZ at e ⊢
 rw[←ay r]
 cases q:DG ds.length i with
 | none=>rw[q] at e;cases e
 | some j=>
  rw[q] at e
  exact fX r e
theorem pY {xs:List D}(hw:Wr K θ H M)(r:dX K θ H d v)(e:b0 d M=some xs):∃a vs,v=.ref a∧(mV K H a vs∨ph K H a vs)∧bn K θ H xs vs:=by
 cases d with
 | tup ds=>obtain⟨a,vs,e1,ta,ra⟩:=r;cases e;exact⟨a,vs,e1,.inr ta.sq,ra⟩
 | lst ds=>obtain⟨a,vs,e1,ta,ra⟩:=r;cases e;exact⟨a,vs,e1,.inl ta.sq,ra⟩
 | ro ds=>obtain⟨a,vs,e1,ta,ra⟩:=r;cases e;exact⟨a,vs,e1,.inl ta.sq,ra⟩
 | mr k=>
  obtain⟨a,e1,ta⟩:=r
  have e:(match M[k]? with|some (.lst xs)=>some xs|_=>none)=some xs:=e
  cases qm:M[k]? with
  | none=>rw[qm] at e;cases e
  | some m=>
   cases m with
   | lst ys=>
    rw[qm] at e
    cases e
    obtain⟨vs,hv,ra⟩:=hw.at_ k a _ ta qm
    exact⟨a,vs,e1,.inl (.inl (.inl hv)),ra⟩
   | _=>rw[qm] at e;cases e
 | _=>cases e
theorem Lc:Mi X (rD X aX):=by
 intro value slice ag s σ H x y v u Q I rx ry h hs
 obtain⟨θ,M,dx,dy,hw,r1,r2,h⟩:=h
 unfold aX at h
 split at h
 ·rename_i xs i q
  split at h
  ·rename_i d qd
   obtain⟨a,vs,ea,sq,ra⟩:=pY hw r1 q
   obtain⟨z,ez,rz⟩:=Dp ra qd
   have hq:=h z θ H (.refl hw) rz
   rcases sq with sq|sq
   ·exact Fs value slice ag s σ H x y v u Q I rx ry ⟨a,vs,i,z,ea,r2,sq,ez,hq⟩ hs
   ·exact IH value slice ag s σ H x y v u Q I rx ry ⟨a,vs,i,z,ea,r2,sq,ez,hq⟩ hs
  ·exact h.elim
 ·exact h.elim
theorem KI {a b:Expr}{pos:Pos}(ha:PE X a (tE X ga))(hb:PE X b (tE X gb))(hs:uu b:=by intro _ _;rfl):PE X (.Subscript a b pos) (tE X (g2 aX ga gb)):=
 (Kr Lc ha hb hs).of fun _ _ _ h=>zi h
def gV (xs:List D)(lo hi:Option Int):List D:=(xs.drop (HT.sIx xs.length 0 lo)).take (HT.sIx xs.length xs.length hi-HT.sIx xs.length 0 lo)
def rh (x:D)(lo hi:Option Int)(M:aB):bg D:=match x with
 | .tup xs=>.ok (.tup (gV xs lo hi)) M
 | .lst xs=>.ok (.lst (gV xs lo hi)) M
 | .ro xs=>.ok (.lst (gV xs lo hi)) M
 | .mr k=>match M[k]? with
  | some (.lst xs)=>.ok (.lst (gV xs lo hi)) M
  | _=>.bad
 | _=>.bad
abbrev GO:=cn→aB→bg (Option Int)
def bq:GO:=fun _ M=>.ok none M
def dg (g:GE):GO:=fun ρ M=>(g ρ M).bind fun d M1=>match d with
 | .int i=>.ok (some i) M1
 | _=>.bad
def L0 (X:Cx)(θ:List Addr)(H:Hp)(Q:Option Int→Hp→Prop):bg (Option Int)→Prop
 | .ok b M'=>∀θ' H',Go X.K θ H θ' H' M'→Q b H'
 | .err c M'=>eT X θ H c M'
 | .bad=>False
def tO (X:Cx)(g:GO):TO:=fun σ H Q=>∃ρ θ M,kK X.K θ H σ ρ∧Wr X.K θ H M∧L0 X θ H Q (g ρ M)
theorem _root_.L2.PO.of {e:Option Expr}{t t':TO}(h:PO X e t)(w:∀σ H Q,t' σ H Q→t σ H Q):PO X e t':=fun ag s σ H Q I q=>h ag s σ H Q I (w σ H Q q)
theorem Eh:PO X none (tO X bq):=Fg.of fun σ H Q ⟨ρ,θ,M,hd,hw,f⟩=>f θ H (.refl hw)
theorem FH (h:PE X e (tE X g)):PO X (some e) (tO X (dg g)):=(Fo h).of fun σ H Q ⟨ρ,θ,M,hd,hw,h⟩=>by
 refine bI hd hw (L0 X θ H Q) (fun c M' h=>h) (fun h=>h) h fun d M1 v θ1 H1 g1 r1 h1=>?_
 split at h1
 ·rename_i i
  exact⟨i,r1,h1 θ1 H1 g1⟩
 ·exact h1.elim
theorem F8 {g:GO}{Q:Option Int→Hp→Prop}{α:Type}(hd:kK X.K θ H σ ρ)(hw:Wr X.K θ H M)(F:bg α→Prop)(Fe:∀c M',F (.err c M')→eT X θ H c M')(Fb:F .bad→False)
  {f:Option Int→aB→bg α} (h:F ((g ρ M).bind f)) (k:∀d M1 θ1 H1,Go X.K θ H θ1 H1 M1→F (f d M1)→Q d H1):tO X g σ H Q:=by
 refine⟨ρ,θ,M,hd,hw,?_⟩
 cases q:g ρ M with
 | ok d M1=>
  rw[q] at h
  exact fun θ1 H1 g1=>k d M1 θ1 H1 g1 h
 | err c M1=>rw[q] at h;exact Fe c M1 h
 | bad=>rw[q] at h;exact(Fb h).elim
def oj (g:GE)(gl gh:GO):GE:=fun ρ M=>(g ρ M).bind fun x M1=>(gl ρ M1).bind fun lo M2=>(gh ρ M2).bind fun hi M3=>rh x lo hi M3
def Ov (X:Cx):V→Option Int→Option Int→Hp→VK→Prop:=fun x lo hi H Q=>∃θ M d,Wr X.K θ H M∧dX X.K θ H d x∧aP X θ H Q (rh d lo hi M)
theorem nO (r:bn K θ H ds vs)(lo hi:Option Int):bn K θ H (gV ds lo hi) (wv vs lo hi):=by
 unfold gV wv
 rw[←ay r]
 exact sP _ (sd _ r)
theorem NV:Mm X (Ov X):=by
 intro ag s σ H x v vl vu lo hi sl Q I rx hs pl pu h
 obtain⟨θ,M,d,hw,r,h⟩:=h
 cases d with
 | tup ds=>
  obtain⟨a,vs,e,ta,ra⟩:=r
  by_cases hc:HT.sIx vs.length 0 lo=0∧HT.sIx vs.length vs.length hi=vs.length
  ·subst e;cases rx
   obtain⟨its,rv,ht,hz⟩:=I.tuple ta.sq
   have hlen:its.toArray.size=vs.length:=by rw[List.size_toArray];exact rv.length.symm
   refine⟨"tuple",_,PyProof.Rows.slot_tuple_getitem.lookup,ht.typeIs,?_⟩
   refine lS ht hs pl pu (by rw[hlen];exact hc) ⟨.ref a,H,I,rfl,h _ θ H (.refl hw) ⟨a,vs,rfl,ta,?_⟩⟩
   have e:gV ds lo hi=ds:=by
    unfold gV
    rw[ay ra,hc.1,hc.2,List.drop_zero,Nat.sub_zero,←ay ra,List.take_length]
   rw[e];exact ra
  ·exact Iq ag s σ H x v vl vu lo hi sl Q I rx hs pl pu ⟨a,vs,e,ta.sq,hc,fun p hp=>h _ θ _ (dG hw hp) (hU hw hp (nO ra lo hi))⟩
 | lst ds=>
  obtain⟨a,vs,e,ta,ra⟩:=r
  exact va ag s σ H x v vl vu lo hi sl Q I rx hs pl pu ⟨a,vs,e,ta.sq,fun p hp=>h _ θ _ (dG hw hp) (jd hw hp (nO ra lo hi))⟩
 | ro ds=>
  obtain⟨a,vs,e,ta,ra⟩:=r
  exact va ag s σ H x v vl vu lo hi sl Q I rx hs pl pu ⟨a,vs,e,ta.sq,fun p hp=>h _ θ _ (dG hw hp) (jd hw hp (nO ra lo hi))⟩
 | mr k=>
  obtain⟨a,e,ta⟩:=r
  have h:aP X θ H Q (match M[k]? with|some (.lst xs)=>.ok (.lst (gV xs lo hi)) M|_=>.bad):=h
  cases qm:M[k]? with
  | none=>rw[qm] at h;exact h.elim
  | some m=>
   cases m with
   | lst ys=>
    rw[qm] at h
    obtain⟨vs,hv,ra⟩:=hw.at_ k a _ ta qm
    exact va ag s σ H x v vl vu lo hi sl Q I rx hs pl pu ⟨a,vs,e,.inl (.inl hv),fun p hp=>h _ θ _ (dG hw hp) (jd hw hp (nO ra lo hi))⟩
   | _=>rw[qm] at h;exact h.elim
 | _=>exact h.elim
theorem B8 {lo hi:Option Expr}{gl gh:GO}{p2:Pos}(he:PE X e (tE X g))(hl:PO X lo (tO X gl))(hh:PO X hi (tO X gh)):PE X (.Subscript e (.Slice lo hi none p2) pos) (tE X (oj g gl gh)):=
 (DA NV he hl hh).of fun σ H Q ⟨ρ,θ,M,hd,hw,h⟩=>by
  refine bI hd hw (aP X θ H Q) (fun c M' h=>h) (fun h=>h) h fun d M1 v θ1 H1 g1 r1 h1=>?_
  refine F8 (hd.go g1) g1.wr (aP X θ1 H1 Q) (fun c M' h=>h) (fun h=>h) (h1.go g1) fun l M2 θ2 H2 g2 h2=>?_
  refine F8 ((hd.go g1).go g2) g2.wr (aP X θ2 H2 Q) (fun c M' h=>h) (fun h=>h) (h2.go g2) fun u M3 θ3 H3 g3 h3=>?_
  exact⟨θ3,M3,d,g3.wr,r1.go (g2.trans g3),h3.go g3⟩
def yC (d:D)(M:aB):bg Bool:=match d with
 | .non=>.ok false M
 | .bl b=>.ok b M
 | .int i=>.ok (i != 0) M
 | .str x=>if x.length≤sizeLine then .ok ((x.length:Int) != 0) M else .bad
 | .tup xs=>.ok (!xs.isEmpty) M
 | .lst xs=>.ok (!xs.isEmpty) M
 | .ro xs=>.ok (!xs.isEmpty) M
 | .mr k=>match M[k]? with
  | some (.lst xs)=>.ok (!xs.isEmpty) M
  | _=>.bad
 | .exc _=>.bad
 | .any=>.bad
def f9 (g:GE):GT:=fun ρ M=>(g ρ M).bind yC
theorem ko (r:bn K θ H ds vs):(!vs.isEmpty)=!ds.isEmpty:=by
 have:=ay r
 cases ds <;> cases vs <;> simp_all
theorem IW {a:Expr}(ha:PE X a (tE X g))(he:∀whole,isTrue a X.env whole=(do let v ←whole;standAt a.pos;holding [v] (truthy v)):=by intro _;rfl):PT X a (tT X (f9 g)):=
 (Bk ha he).of fun σ H Q ⟨ρ,θ,M,hd,hw,h⟩=>by
  refine bI hd hw (oe X θ H Q) (fun c M' h=>h) (fun h=>h) h fun d M1 v θ1 H1 g1 r1 h1=>?_
  cases d with
  | non=>have e:v=.non:=r1;subst e;exact⟨false,rfl,h1 θ1 H1 g1⟩
  | bl b=>have e:v=.bl b:=r1;subst e;exact⟨b,rfl,h1 θ1 H1 g1⟩
  | int i=>have e:v=.int i:=r1;subst e;exact⟨i != 0,rfl,h1 θ1 H1 g1⟩
  | str x=>
   have e:v=.str x:=r1;subst e
   have h1:oe X θ H Q (if x.length≤sizeLine then .ok ((x.length:Int) != 0) M1 else .bad):=h1
   split at h1
   ·rename_i hl;exact⟨_,⟨hl,rfl⟩,h1 θ1 H1 g1⟩
   ·exact h1.elim
  | tup xs=>
   obtain⟨a,vs,e,ta,ra⟩:=r1;subst e
   exact⟨_,.inr (.inl ⟨vs,ta.sq,(ko ra).symm⟩),h1 θ1 H1 g1⟩
  | lst xs=>
   obtain⟨a,vs,e,ta,ra⟩:=r1;subst e
   exact⟨_,.inl ⟨vs,ta.sq,(ko ra).symm⟩,h1 θ1 H1 g1⟩
  | ro xs=>
   obtain⟨a,vs,e,ta,ra⟩:=r1;subst e
   exact⟨_,.inl ⟨vs,ta.sq,(ko ra).symm⟩,h1 θ1 H1 g1⟩
  | mr k=>
   obtain⟨a,e,ta⟩:=r1;subst e
   have h1:oe X θ H Q (match M1[k]? with|some (.lst xs)=>.ok (!xs.isEmpty) M1|_=>.bad):=h1
   cases qm:M1[k]? with
   | none=>rw[qm] at h1;exact h1.elim
   | some m=>
    cases m with
    | lst ys=>
     rw[qm] at h1
     obtain⟨vs,hv,ra⟩:=g1.wr.at_ k a _ ta qm
     exact⟨_,.inl ⟨vs,.inl (.inl hv),(ko ra).symm⟩,h1 θ1 H1 g1⟩
    | _=>rw[qm] at h1;exact h1.elim
  | exc c=>exact h1.elim
  | any=>exact h1.elim
def bJ:FD:=fun ds M=>match ds with
 | [.str x]=>if x.length≤sizeLine then .ok (.int x.length) M else .bad
 | [d]=>match b0 d M with
  | some xs=>.ok (.int xs.length) M
  | none=>.bad
 | _=>.bad
def o8:FD:=fun ds M=>match ds with
 | [.int i,.int j]=>.ok (.int (if j<i then j else i)) M
 | _=>.bad
def o9:FD:=fun ds M=>match ds with
 | [.int i,.int j]=>.ok (.int (if j>i then j else i)) M
 | _=>.bad
def yo:FD:=fun ds M=>match ds with
 | [.int i]=>.ok (.int i) M
 | [.bl b]=>.ok (.int (if b then 1 else 0)) M
 | _=>.bad
def ji:FD:=fun ds M=>match ds with
 | [d]=>match b0 d M with
  | some xs=>.ok (.lst xs) M
  | none=>.bad
 | _=>.bad
def dS:FD:=fun ds M=>match ds with
 | [d]=>match b0 d M with
  | some xs=>.ok (.tup xs) M
  | none=>.bad
 | _=>.bad
theorem jo (r:bn K θ H [d] xs):∃v,xs=[v]∧dX K θ H d v:=by
 obtain⟨v,rr,e,h1,h2⟩:=r
 have e2:rr=[]:=h2
 subst e2
 exact⟨v,e,h1⟩
theorem yA {d':D}(r:bn K θ H [d,d'] xs):∃v v',xs=[v,v']∧dX K θ H d v∧dX K θ H d' v':=by
 obtain⟨v,rr,e,h1,h2⟩:=r
 obtain⟨v',e2,h3⟩:=jo h2
 subst e2
 exact⟨v,v',e,h1,h3⟩
theorem G9:dh X (.builtin "len") (rC X bJ):=by
 intro ag s σ H xs us Q I r h
 obtain⟨θ,M,ds,hw,rd,h⟩:=h
 unfold bJ at h
 split at h
 ·rename_i x
  split at h
  ·rename_i hl
   obtain⟨v,e,rv⟩:=jo rd
   exact tX ag s σ H xs us Q I r ⟨x,by rw[e,show v=.str x from rv],hl,h _ θ H (.refl hw) rfl⟩
  ·exact h.elim
 ·rename_i d _
  split at h
  ·rename_i ys q
   obtain⟨v,e,rv⟩:=jo rd
   obtain⟨a,vs,ea,sq,ra⟩:=pY hw rv q
   refine uK ag s σ H xs us Q I r ⟨a,vs,by rw[e,ea],sq,?_⟩
   rw[←ay ra]
   exact h _ θ H (.refl hw) rfl
  ·exact h.elim
 ·exact h.elim
theorem GU (hc:X.calm=true):dh X (.builtin "min") (rC X o8):=by
 intro ag s σ H xs us Q I r h
 obtain⟨θ,M,ds,hw,rd,h⟩:=h
 unfold o8 at h
 split at h
 ·rename_i i j
  obtain⟨v,v',e,rv,rv'⟩:=yA rd
  exact Ab hc ag s σ H xs us Q I r ⟨i,j,by rw[e,show v=.int i from rv,show v'=.int j from rv'],h _ θ H (.refl hw) rfl⟩
 ·exact h.elim
theorem JC (hc:X.calm=true):dh X (.builtin "max") (rC X o9):=by
 intro ag s σ H xs us Q I r h
 obtain⟨θ,M,ds,hw,rd,h⟩:=h
 unfold o9 at h
 split at h
 ·rename_i i j
  obtain⟨v,v',e,rv,rv'⟩:=yA rd
  exact AQ hc ag s σ H xs us Q I r ⟨i,j,by rw[e,show v=.int i from rv,show v'=.int j from rv'],h _ θ H (.refl hw) rfl⟩
 ·exact h.elim
theorem Gy:dh X (.type "int") (rC X yo):=by
 intro ag s σ H xs us Q I r h
 obtain⟨θ,M,ds,hw,rd,h⟩:=h
 unfold yo at h
 split at h
 ·rename_i i
  obtain⟨v,e,rv⟩:=jo rd
  exact sD ag s σ H xs us Q I r (.inl ⟨i,by rw[e,show v=.int i from rv],h _ θ H (.refl hw) rfl⟩)
 ·rename_i b
  obtain⟨v,e,rv⟩:=jo rd
  exact sD ag s σ H xs us Q I r (.inr ⟨b,by rw[e,show v=.bl b from rv],h _ θ H (.refl hw) rfl⟩)
 ·exact h.elim
theorem DY:dh X (.type "list") (rC X ji):=by
 intro ag s σ H xs us Q I r h
 obtain⟨θ,M,ds,hw,rd,h⟩:=h
 unfold ji at h
 split at h
 ·rename_i d
  split at h
  ·rename_i ys q
   obtain⟨v,e,rv⟩:=jo rd
   obtain⟨a,vs,ea,sq,ra⟩:=pY hw rv q
   exact uG ag s σ H xs us Q I r ⟨a,vs,by rw[e,ea],sq,fun l hl=>h _ θ _ (dG hw hl) (jd hw hl ra)⟩
  ·exact h.elim
 ·exact h.elim
theorem Bc:dh X (.type "tuple") (rC X dS):=by
 intro ag s σ H xs us Q I r h
 obtain⟨θ,M,ds,hw,rd,h⟩:=h
 unfold dS at h
 split at h
 ·rename_i d
  obtain⟨v,e,rv⟩:=jo rd
  cases d with
  | tup ys=>
   obtain⟨a,vs,ea,ta,ra⟩:=rv
   exact gK ag s σ H xs us Q I r ⟨a,vs,by rw[e,ea],.inr ⟨ta.sq,h _ θ H (.refl hw) ⟨a,vs,rfl,ta,ra⟩⟩⟩
  | lst ys=>
   obtain⟨a,vs,ea,ta,ra⟩:=rv
   exact gK ag s σ H xs us Q I r ⟨a,vs,by rw[e,ea],.inl ⟨ta.sq,fun l hl=>h _ θ _ (dG hw hl) (hU hw hl ra)⟩⟩
  | ro ys=>
   obtain⟨a,vs,ea,ta,ra⟩:=rv
   exact gK ag s σ H xs us Q I r ⟨a,vs,by rw[e,ea],.inl ⟨ta.sq,fun l hl=>h _ θ _ (dG hw hl) (hU hw hl ra)⟩⟩
  | mr k=>
   obtain⟨a,ea,ta⟩:=rv
   cases qm:M[k]? with
   | none=>simp[b0,qm] at h;exact h.elim
   | some m=>
    cases m with
    | lst ys=>
     simp only[b0,qm] at h
     obtain⟨vs,hv,ra⟩:=hw.at_ k a _ ta qm
     exact gK ag s σ H xs us Q I r ⟨a,vs,by rw[e,ea],.inl ⟨.inl (.inl hv),fun l hl=>h _ θ _ (dG hw hl) (hU hw hl ra)⟩⟩
    | _=>simp[b0,qm] at h;exact h.elim
  | _=>exact h.elim
 ·exact h.elim
end
def eQ (cells:List (Str×Addr)):List (Str×NameKind)→List (Str×Addr)→List (Str×Addr)
 | [],acc=>acc
 | (n,k)::r,acc=>if k==.free then eQ cells r ((n,(cells.lookup n).getD 0)::acc) else eQ cells r acc
theorem pO {env:Env}:∀(l:List (Str×NameKind)) (cs:List (Str×Addr)),(∀p∈l,p.2=.free→∃c,env.cells.lookup p.1=some c)→
  (forIn (m:=Sem) l cs fun x r=>match x with
   | (name,kind)=>if(kind==NameKind.free)=true then do let __do_lift ←cellOf env name;pure (ForInStep.yield ((name,__do_lift)::r)) else pure (ForInStep.yield r))=pure (eQ env.cells l cs)
 | [],cs,h=>rfl
 | (n,k)::r,cs,h=>by
  have ih:=fun cs=>pO (env:=env) r cs fun p hp=>h p (List.mem_cons_of_mem _ hp)
  rw[List.forIn_cons]
  by_cases hk:(k==NameKind.free)=true
  ·obtain⟨c,hc⟩:=h (n,k) List.mem_cons_self (by simpa using hk)
   have e:cellOf env n=pure c:=by unfold cellOf;rw[show List.lookup n env.cells=some c from hc]
   simp only[hk,if_true,eQ,e,pure_bind]
   rw[ih,show List.lookup n env.cells=some c from hc];rfl
  ·simp only[hk,if_false,eQ,pure_bind,Bool.false_eq_true]
   exact ih cs
theorem nw {env:Env}(h:∀p∈scope.names,p.2=.free→∃c,env.cells.lookup p.1=some c):closureFor scope env=pure (eQ env.cells scope.names []):=by
 have:=pO (env:=env) scope.names [] h
 unfold closureFor
 simp only[bind_pure_comp] at this ⊢
 first
  | (rw[this];rfl)
  | (simp[this])
  | exact this
theorem pZ {cells:List (Str×Addr)}:∀(l:List (Str×NameKind)) (acc:List (Str×Addr)),(∀p∈acc,cells.lookup p.1=some p.2)→(∀p∈l,p.2=.free→∃c,cells.lookup p.1=some c)→
  ∀p∈eQ cells l acc,cells.lookup p.1=some p.2
 | [],acc,ha,h=>ha
 | (n,k)::r,acc,ha,h=>by
  have hr:∀p∈r,p.2=.free→∃c,cells.lookup p.1=some c:=fun p hp=>h p (List.mem_cons_of_mem _ hp)
  unfold eQ
  by_cases hk:(k==NameKind.free)=true
  ·rw[if_pos hk]
   refine pZ r _ (fun p hp=>?_) hr
   rcases List.mem_cons.mp hp with e|hp
   ·subst e
    obtain⟨c,hc⟩:=h (n,k) List.mem_cons_self (by simpa using hk)
    have hc':cells.lookup n=some c:=hc
    show cells.lookup n=some ((cells.lookup n).getD 0)
    rw[hc'];rfl
   ·exact ha p hp
  ·rw[if_neg hk]
   exact pZ r acc ha hr
theorem pW {cells:List (Str×Addr)}:∀(l:List (Str×NameKind)) (acc:List (Str×Addr)),∀p∈acc,p∈eQ cells l acc
 | [],acc,p,h=>h
 | (n,k)::r,acc,p,h=>by
  unfold eQ
  by_cases hk:(k==NameKind.free)=true
  ·rw[if_pos hk];exact pW r _ p (List.mem_cons_of_mem _ h)
  ·rw[if_neg hk];exact pW r acc p h
theorem re {cells:List (Str×Addr)}:∀(l:List (Str×NameKind)) (acc:List (Str×Addr)) (n:Str),(n,NameKind.free)∈l→∃c,(n,c)∈eQ cells l acc
 | [],acc,n,h=>by cases h
 | (m,k)::r,acc,n,h=>by
  unfold eQ
  rcases List.mem_cons.mp h with e|h
  ·cases e
   rw[if_pos (by rfl)]
   exact⟨_,pW r _ _ List.mem_cons_self⟩
  ·by_cases hk:(k==NameKind.free)=true
   ·rw[if_pos hk];exact re r _ n h
   ·rw[if_neg hk];exact re r acc n h
theorem mH {l:List (Str×Addr)}{n:Str}{c:Addr}(h:(n,c)∈l):∃c',l.lookup n=some c':=by
 induction l with
 | nil=>cases h
 | cons p r ih=>
  obtain⟨m,d⟩:=p
  by_cases e:(n==m)=true
  ·exact⟨d,by simp[List.lookup,e]⟩
  ·have e':(n==m)=false:=by simpa using e
   rcases List.mem_cons.mp h with q|q
   ·cases q;simp at e
   ·obtain⟨c',hc⟩:=ih q
    exact⟨c',by simp only[List.lookup,e'];exact hc⟩
theorem iH {env:Env}:∀{names:List (Str×NameKind)} {x:Str} {k:NameKind},
  (names.map fun(n,k)=>if(k==NameKind.free&&env.scope.kind==.function&&env.kindOf n==some .cell) then(n,NameKind.cell) else(n,k)).lookup x=some k→
   names.lookup x=some k∨(k=.cell∧names.lookup x=some .free)
 | [],_,_,h=>by simp at h
 | (n,k')::r,x,k,h=>by
  have ih:=@iH env r x k
  have h:List.lookup x ((if(k'==NameKind.free&&env.scope.kind==.function&&env.kindOf n==some .cell)=true then(n,NameKind.cell) else(n,k'))::_)=some k:=h
  by_cases hc:(k'==NameKind.free&&env.scope.kind==.function&&env.kindOf n==some .cell)=true
  ·rw[if_pos hc] at h
   cases hx:x==n with
   | true=>
    simp only[List.lookup_cons,hx] at h ⊢
    cases h
    have:k'=.free:=by
     rw[Bool.and_eq_true,Bool.and_eq_true] at hc
     simpa using hc.1.1
    subst this
    exact .inr ⟨rfl,rfl⟩
   | false=>
    simp only[List.lookup_cons,hx] at h ⊢
    exact ih h
  ·rw[if_neg hc] at h
   cases hx:x==n with
   | true=>
    simp only[List.lookup_cons,hx] at h ⊢
    exact .inl h
   | false=>
    simp only[List.lookup_cons,hx] at h ⊢
    exact ih h
def cE (sc:Scope)(fk:Str→Option NameKind)(xs:List Str)(R N:List Str):Bool:=
 decide (sc.kind=.function)&&xs.all (fun x=>sc.names.lookup x==some .local) &&
 sc.names.all (fun p=>match p.2 with
  | .cell=>false
  | .local=>(xs.contains p.1||p.1==(".0":Str))&&sc.names.lookup p.1==some .local
  | .free=>fk p.1==some .cell||fk p.1==some .free
  | _=>true) &&
 decide ((xs++R).Nodup)&&!(R.contains (".0":Str))&&R.length==N.length &&
 (R.zip N).all (fun p=>p.1==p.2||sc.names.lookup p.1 != some .free)
structure cA (sc:Scope)(fk:Str→Option NameKind)(xs:List Str)(R N:List Str):Prop where
 kind:sc.kind=.function
 own:∀x∈xs,sc.names.lookup x=some .local
 nocell:∀p∈sc.names,p.2≠.cell
 locs:∀p∈sc.names,p.2=.local→p.1∈xs∨p.1=(".0":Str)
 lnames:∀p∈sc.names,p.2=.local→sc.names.lookup p.1=some .local
 free:∀p∈sc.names,p.2=.free→fk p.1=some .cell∨fk p.1=some .free
 nd:(xs++R).Nodup
 no0:(".0":Str)∉R
 len:R.length=N.length
 same:∀(i:Nat) y,R[i]?=some y→sc.names.lookup y=some .free→N[i]?=some y
theorem cA.of {sc:Scope}{fk:Str→Option NameKind}{xs:List Str}{R N:List Str}(h:cE sc fk xs R N=true):cA sc fk xs R N:=by
 unfold cE at h
 simp only[Bool.and_eq_true,decide_eq_true_eq,List.all_eq_true,Bool.not_eq_true',beq_iff_eq] at h
 obtain⟨⟨⟨⟨⟨⟨h1,h2⟩,h3⟩,h4⟩,h5⟩,h6⟩,h7⟩:=h
 refine⟨h1,h2,fun p hp e=>?_,fun p hp e=>?_,fun p hp e=>?_,fun p hp e=>?_,h4,?_,h6,fun i y hy hf=>?_⟩
 ·have:=h3 p hp;rw[e] at this;simp at this
 ·have:=h3 p hp;rw[e] at this;simp at this;exact this.1
 ·have:=h3 p hp;rw[e] at this;simp at this;exact this.2
 ·have:=h3 p hp;rw[e] at this;simp at this;exact this
 ·intro hm
  have:R.contains (".0":Str)=true:=by simpa using hm
  rw[this] at h5;cases h5
 ·obtain⟨hi,e⟩:=List.getElem?_eq_some_iff.mp hy
  have hn:i<N.length:=by rw[←h6];exact hi
  have hz:(R[i],N[i])∈R.zip N:=by
   rw[List.mem_iff_getElem]
   exact⟨i,by simp;omega,by simp⟩
  have:=h7 _ hz
  simp only[Bool.or_eq_true,beq_iff_eq,bne_iff_ne,ne_eq] at this
  rcases this with q|q
  ·rw[List.getElem?_eq_getElem hn,←q,e]
  ·rw[e] at q;exact absurd hf q
def aD (X:Cx)(scope:Scope)(xs:List Str)(R:List Str)(fp:List Addr)(s:Shared)(H:Hp)(C:Addr):Cx where
 prog:=X.prog
 w:=X.w
 K:=X.K
 mg:=X.mg
 base:=X.base
 A:=X.A
 N:=xs++R
 s₀:=s
 H₀:=H
 env:=compEnvC scope (eQ X.env.cells scope.names []) C X.env
 outer:=X.stack
 stack:=X.stack
 ex:=fp
 fn:=fun _=>false
 calm:=X.calm
 pn:=[]
 xe:=fun _ _=>False
variable{y:Str}
section
variable {X:Cx}{ag:List (Addr×Obj)}{σ:L2.St}{H:Hp}{s:Shared}{scope:Scope}{xs:List Str}{R:List Str}{fp:List Addr}{C:Addr}
theorem cA.cells (S:cA scope X.env.kindOf xs R X.N)(I:L2.Inv X ag σ H s):∀p∈scope.names,p.2=.free→∃c,X.env.cells.lookup p.1=some c:=fun p hp e=>I.ok.has p.1 (S.free p hp e)
theorem df (S:cA scope X.env.kindOf xs R X.N)(I:L2.Inv X ag σ H s){c:Addr}(h:(eQ X.env.cells scope.names []).lookup y=some c):X.env.cells.lookup y=some c:=
 pZ scope.names [] (fun _ z=>by cases z) (S.cells I) (y,c) (PySem.mem_of_lookup h)
theorem A4 {h4:Heap}{m:Str→Option Value}{tk:Nat}(S:cA scope X.env.kindOf xs R X.N)(I:L2.Inv X ag σ H s)(hC:s.heap.objs.size≤C)(k:∀b o,s.heap.get? b=some o→h4.get? b=some o)(hn:h4.Ns C m)
  (hf:∀b∈fp,jI X ag H b) (hfl:∀b∈fp,b<s.heap.objs.size):L2.Inv (aD X scope xs R fp s H C) [] (List.replicate xs.length none++σ) H {s with heap:=h4,toks:=tk}:=by
 have hkn:∀y kk,(relabel scope X.env).names.lookup y=some kk→(kk=.cell∨kk=.free)→scope.names.lookup y=some .free:=fun y kk e hk=>by
  rcases iH e with q|q
  ·rcases hk with z|z
   ·subst z;exact absurd rfl (S.nocell _ (PySem.mem_of_lookup q))
   ·subst z;exact q
  ·exact q.2
 have hasc:∀y,scope.names.lookup y=some .free→∃c,(eQ X.env.cells scope.names []).lookup y=some c:=fun y e=>by
  obtain⟨c,hc⟩:=re (cells:=X.env.cells) scope.names [] y (PySem.mem_of_lookup e)
  exact mH hc
 refine⟨⟨I.ok.mod,S.kind,I.ok.glob,I.ok.blt,hC,fun y z c h1 h2=>I.ok.inj y z c (df S I h1) (df S I h2),fun y hy=>?_,fun y c z=>absurd (show false=true from z) Bool.false_ne_true,I.ok.hd,I.ok.frames,.inl rfl,fun b hb=>⟨?_,fun y c e=>?_⟩,I.bs,Nat.le_trans I.ok.bsz I.sz,fun b o e hb=>?_,fun b hb z=>?_,I.stack,I.stkFree⟩,
  rfl,I.bare,Un.kept k,⟨m,hn,fun i y v h1 h2 h3=>?_⟩,fun y c e=>?_,I.hok.fresh hC,fun y c e=>I.freeC y c (df S I e),fun p hp=>absurd (show p∈([]:List (Addr×Obj)) from hp) (by simp),I.hok.kept k,?_⟩
 ·rcases hy with e|e
  ·exact hasc y (hkn y _ e (.inl rfl))
  ·exact hasc y (hkn y _ e (.inr rfl))
 ·exact Nat.ne_of_lt (Nat.lt_of_lt_of_le (hfl b hb) hC)
 ·exact(hf b hb).2.2.2.2.1 y c (df S I e)
 ·rcases(hf b hb).2.2.2.1 with z|z
  ·exact I.ok.noex b o e z
  ·exact absurd (Nat.lt_of_lt_of_le (Heap.lt_size e) (Nat.le_trans I.ok.bsz z)) (Nat.lt_irrefl _)
 ·rcases List.mem_cons.mp (I.stkSub b z) with e|e
  ·exact(hf b hb).2.1 e
  ·exact(hf b hb).2.2.1 e
 ·by_cases hi:i<xs.length
  ·exfalso
   rw[List.getElem?_append_left (by rw[List.length_replicate];exact hi),List.getElem?_replicate,if_pos hi] at h2
   cases h2
  ·obtain⟨i,rfl⟩:∃j,i=xs.length+j:=⟨i-xs.length,by omega⟩
   have h1:R[i]?=some y:=by
    have h1:(xs++R)[xs.length+i]?=some y:=h1
    rw[List.getElem?_append_right (by omega)] at h1
    simpa using h1
   have h2:σ[i]?=some (some v):=by
    rw[List.getElem?_append_right (by rw[List.length_replicate];omega)] at h2
    simpa using h2
   have hyR:y∈R:=List.mem_of_getElem? h1
   have hf':scope.names.lookup y=some .free∧((relabel scope X.env).names.lookup y=some .cell∨(relabel scope X.env).names.lookup y=some .free):=by
    have h3:(relabel scope X.env).names.lookup y=some .local∨(relabel scope X.env).names.lookup y=some .cell∨(relabel scope X.env).names.lookup y=some .free:=h3
    rcases h3 with e|e|e
    ·rcases iH e with q|q
     ·exfalso
      rcases S.locs _ (PySem.mem_of_lookup q) rfl with z|z
      ·exact(List.nodup_append.mp S.nd).2.2 y z y hyR rfl
      ·have z:y=(".0":Str):=z
       rw[z] at hyR
       exact S.no0 hyR
     ·exact absurd q.1 (by intro z;cases z)
    ·exact⟨hkn y _ e (.inl rfl),.inl e⟩
    ·exact⟨hkn y _ e (.inr rfl),.inr e⟩
   have hN:=S.same i y h1 hf'.1
   have hk:=S.free (y,.free) (PySem.mem_of_lookup hf'.1) rfl
   obtain⟨mX,hnX,hl⟩:=I.loc
   have vis:Lk X.env.scope y:=by
    rcases hk with z|z
    ·exact .inr (.inl z)
    ·exact .inr (.inr z)
   obtain⟨u,r,l⟩:=hl i y v hN h2 vis
   refine⟨u,r,.inr ⟨hf'.2,?_⟩⟩
   rcases l with⟨z,_⟩|⟨_,c,hc,o,ho,hod⟩
   ·exfalso
    rcases hk with q|q
    ·have q:X.env.kindOf y=some .cell:=q
     rw[z] at q;cases q
    ·have q:X.env.kindOf y=some .free:=q
     rw[z] at q;cases q
   ·obtain⟨c',hc'⟩:=hasc y hf'.1
    have:c'=c:=by
     have:=df S I hc'
     rw[hc] at this;exact(Option.some.inj this).symm
    subst this
    exact⟨c',hc',o,k _ _ ho,hod⟩
 ·obtain⟨v,o,ho,hd⟩:=I.cell y c (df S I e)
  exact⟨v,o,k _ _ ho,hd⟩
 ·show(List.replicate xs.length none++σ).length=(xs++R).length
  rw[List.length_append,List.length_append,List.length_replicate,I.len,S.len]
end
def dH (t:sv)(gc:GT)(ge:GE):List D→cn→aB→bg (List D)
 | [],ρ,M=>if t.ok M then .ok [] M else .bad
 | d::r,ρ,M=>if t.ok M then
   match gc (some d::ρ) M with
   | .ok true M1=>match ge (some d::ρ) M1 with
    | .ok e M2=>(dH t gc ge r ρ M2).bind fun es M3=>.ok (e::es) M3
    | _=>.bad
   | .ok false M1=>dH t gc ge r ρ M1
   | _=>.bad
  else .bad
def bL:GT:=fun _ M=>.ok true M
def ba (t:sv)(n:Nat)(sg:GG)(gc:GT)(ge:GE):List D→cn→aB→bg (List D)
 | [],ρ,M=>if t.ok M then .ok [] M else .bad
 | d::r,ρ,M=>if t.ok M then
   match sg d (List.replicate n none++ρ) with
   | none=>.bad
   | some ρ1=>match gc ρ1 M with
    | .ok true M1=>match ge ρ1 M1 with
     | .ok e M2=>(ba t n sg gc ge r ρ M2).bind fun es M3=>.ok (e::es) M3
     | _=>.bad
    | .ok false M1=>ba t n sg gc ge r ρ M1
    | _=>.bad
  else .bad
def bH (gi:GI)(n:Nat)(sg:GG)(gc:GT)(ge:GE)(mk:List D→aB→bg D):GE:=fun ρ M=>(gi ρ M).bind fun t M1=>(ba t n sg gc ge t.ds ρ M1).bind mk
theorem vH (t:sv)(gc:GT)(ge:GE):∀(ds:List D) (ρ:cn) (M:aB),dH t gc ge ds ρ M=ba t 1 (gn 0) gc ge ds ρ M
 | [],ρ,M=>rfl
 | d::r,ρ,M=>by
  have ih:=vH t gc ge r
  unfold dH ba
  show _=(if t.ok M=true then(match gc (some d::ρ) M with
    | .ok true M1=>match ge (some d::ρ) M1 with
     | .ok e M2=>(ba t 1 (gn 0) gc ge r ρ M2).bind fun es M3=>.ok (e::es) M3
     | _=>.bad
    | .ok false M1=>ba t 1 (gn 0) gc ge r ρ M1
    | _=>.bad) else .bad)
  simp only[ih]
def wf (n:Nat)(sg:GG):Prop:=∀d ρ ρ',sg d ρ=some ρ'→ρ'.length=ρ.length∧∀i:Nat,n≤i→ρ'[i]?=ρ[i]?
theorem y7 (h:i<n):wf n (gn i):=fun d ρ ρ' e=>by
 have e:some (ρ.set i (some d))=some ρ':=e
 cases e
 exact⟨by rw[List.length_set],fun j hj=>by rw[List.getElem?_set_ne (by omega)]⟩
theorem vI {n:Nat}:∀{is:List Nat} {ds:List D} {ρ ρ':cn},is.all (fun i=>decide (i<n))=true→kF is ds ρ=some ρ'→ρ'.length=ρ.length∧∀i:Nat,n≤i→ρ'[i]?=ρ[i]?
 | [],[],ρ,ρ',_,e=>by cases e;exact⟨rfl,fun _ _=>rfl⟩
 | [],_::_,_,_,_,e=>by cases e
 | _::_,[],_,_,_,e=>by cases e
 | i::is,d::ds,ρ,ρ',h,e=>by
  rw[List.all_cons,Bool.and_eq_true] at h
  have hi:i<n:=by simpa using h.1
  obtain⟨a,b⟩:=vI h.2 (show kF is ds (ρ.set i (some d))=some ρ' from e)
  exact⟨by rw[a,List.length_set],fun j hj=>by rw[b j hj,List.getElem?_set_ne (by omega)]⟩
theorem E0 (h:is.all (fun i=>decide (i<n))=true):wf n (bh is):=fun d ρ ρ' e=>by
 cases d with
 | tup ds=>exact vI h e
 | _=>cases e
theorem wf.back {sg:GG}{τ:L2.St}{ρ1:cn}(o:wf n sg)(e:sg d (List.replicate n none++ρ)=some ρ1)(h:kK K θ H τ ρ1):kK K θ H τ (List.replicate n none++ρ):=by
 obtain⟨a,b⟩:=o _ _ _ e
 refine⟨by rw[←a];exact h.len,fun i d' q=>?_⟩
 by_cases hi:i<n
 ·rw[List.getElem?_append_left (by rw[List.length_replicate];exact hi),List.getElem?_replicate,if_pos hi] at q
  cases q
 ·rw[←b i (by omega)] at q
  exact h.at_ i d' q
def aY (gi:GI)(gc:GT)(ge:GE)(mk:List D→aB→bg D):GE:=fun ρ M=>(gi ρ M).bind fun t M1=>(dH t gc ge t.ds ρ M1).bind mk
theorem xc (elt target iter:Expr)(ifs:List Expr)(scope:Scope)(pos:Pos)(it acc:Value)(env:Env)(cond:Sem Bool)
  (hc:(forIn (m:=Sem) ifs true fun c r=>if r=true then do let ok ←isTrue c env (eval c env);pure (ForInStep.yield ok) else pure (ForInStep.yield r))=cond) :
  compTurn (.ListComp elt [⟨target,iter,ifs,0⟩] scope pos) 0 it acc env=(standAt iter.pos >>= fun _=>pyNext it >>= fun r=>match r with
   | none=>pure (.done .next)
   | some v=>letOwnedTupleGo target it v >>= fun _=>assign target env v >>= fun _=>cond >>= fun ok=>
    if ok=true then((eval elt env >>= fun x=>call (.builtin "list.append") [acc,x] >>= fun _=>pure ()) >>= fun _=>
     again (.compLoop (.ListComp elt [⟨target,iter,ifs,0⟩] scope pos) 0 it acc env)) else again (.compLoop (.ListComp elt [⟨target,iter,ifs,0⟩] scope pos) 0 it acc env)):=by
 subst hc
 rfl
section
variable {prog:Program}{w:World}{A:Around}{R:Result→Shared→Prop}{s:Shared}
theorem lx {elt target iter:Expr}{ifs:List Expr}{scope:Scope}{pos:Pos}{it acc:Value}{env:Env}{cond:Sem Bool}
  (hc:(forIn (m:=Sem) ifs true fun c r=>if r=true then do let ok ←isTrue c env (eval c env);pure (ForInStep.yield ok) else pure (ForInStep.yield r))=cond) (I:Nat→Shared→Prop)
  (turn:∀n s,I n s→wpAny (model prog w) A (pyNext it) (fun r s₁=>match r with
   | none=>R (.ok .next) s₁
   | some v=>wpAny (model prog w) A (letOwnedTupleGo target it v) (fun _ s₂=>wpAny (model prog w) A (assign target env v) (fun _ s₃=>wpAny (model prog w) A cond (fun ok s₄=>if ok=true then
     wpAny (model prog w) A (eval elt env) (fun x s₅=>wpAny (model prog w) A (call (.builtin "list.append") [acc,x]) (fun _ s₆=>∃m,m<n∧I m s₆) (fun _ _=>False) s₅) (fun _ _=>False) s₄
     else∃m,m<n∧I m s₄) (fun _ _=>False) s₃) (fun _ _=>False) s₂) (fun _ _=>False) s₁) (fun _ _=>False) s)
  (n:Nat) (h:I n s):codeAny (model prog w) A (.compLoop (.ListComp elt [⟨target,iter,ifs,0⟩] scope pos) 0 it acc env) R s:=by
 refine codeAny_loop rfl I (fun n s hI=>?_) n h
 show wpAny _ _ ((compTurn (.ListComp elt [⟨target,iter,ifs,0⟩] scope pos) 0 it acc env).onRaise (fun x=>do noteFrame x env;theTreesLotGoes x)) _ _ s
 refine wpAny_noted ?_
 rw[xc _ _ _ _ _ _ _ _ _ _ hc]
 refine wpAny_bind (wpAny_standAt (wpAny_bind (wpAny_mono (turn n s hI) (fun r s₁ h₁=>?_) fun _ _ z=>z.elim)))
 cases r with
 | none=>exact wpAny_pure h₁
 | some v=>
  refine wpAny_bind (wpAny_mono h₁ (fun _ s₂ h₂=>?_) fun _ _ z=>z.elim)
  refine wpAny_bind (wpAny_mono h₂ (fun _ s₃ h₃=>?_) fun _ _ z=>z.elim)
  refine wpAny_bind (wpAny_mono h₃ (fun ok s₄ h₄=>?_) fun _ _ z=>z.elim)
  cases ok with
  | true=>
   rw[if_pos rfl] at h₄
   rw[if_pos rfl]
   exact wpAny_bind (wpAny_bind (wpAny_mono h₄ (fun x s₅ h₅=>wpAny_bind (wpAny_mono h₅ (fun _ s₆ h₆=>wpAny_pure (wpAny_pure ⟨rfl,h₆⟩)) fun _ _ z=>z.elim)) fun _ _ z=>z.elim))
  | false=>
   rw[if_neg Bool.false_ne_true] at h₄
   rw[if_neg Bool.false_ne_true]
   exact wpAny_pure ⟨rfl,h₄⟩
theorem yF {env:Env}:(forIn (m:=Sem) ([]:List Expr) true fun c r=>if r=true then do let ok ←isTrue c env (eval c env);pure (ForInStep.yield ok) else pure (ForInStep.yield r))=pure true:=rfl
theorem zJ {env:Env}{c:Expr}:(forIn (m:=Sem) [c] true fun c r=>if r=true then do let ok ←isTrue c env (eval c env);pure (ForInStep.yield ok) else pure (ForInStep.yield r))=isTrue c env (eval c env):=by
 rw[List.forIn_cons]
 simp
end
theorem DM {b a c:Nat}(h:b<a)(e:c=a+1):b≠c:=by omega
theorem Dl {b a c:Nat}(h:b<c)(e:c=a):a≠b:=by omega
theorem uT {b a c:Nat}(h:b<c)(e:c=a):b≠a:=by omega
abbrev iz (its:List Value)(n:Nat):Obj:={cls:=.type "list",data:=.seq its.toArray n}
section
variable {X:Cx}{ag:List (Addr×Obj)}{σ:L2.St}{s:Shared}{scope:Scope}{xs:List Str}{tg:Expr}{sg:GG}{R:List Str}{elt iter:Expr}{ifs:List Expr}{pos:Pos}{E:Value→Shared→Prop}
theorem FI {σ:L2.St}(h:kK K θ H σ ρ):kK K θ H (List.replicate n none++σ) (List.replicate n none++ρ):=by
 refine⟨by rw[List.length_append,List.length_append,List.length_replicate,List.length_replicate,h.len],fun i d e=>?_⟩
 by_cases hi:i<n
 ·rw[List.getElem?_append_left (by rw[List.length_replicate];exact hi),List.getElem?_replicate,if_pos hi] at e
  cases e
 ·rw[List.getElem?_append_right (by rw[List.length_replicate];omega),List.length_replicate] at e ⊢
  exact h.at_ _ d e
theorem pR {fp:List Addr}{it:Addr}{tn:Nat→Heap→Prop}{J:It}{H2:Hp}{s2:Shared}{t:sv}{M1:aB}{θ1:List Addr}{gc:GT}{ge:GE}{es:List D}{Mend:aB}{RR:Value→Addr→Result→Shared→Prop}
  (S:cA scope X.env.kindOf xs R X.N) (hc:X.calm=true) (I2:L2.Inv X ag σ H2 s2) (T:AA X.prog X.w X.K tg J fp it tn) (st2:tn 0 s2.heap) (f2:∀b∈fp,jI X ag H2 b)
  (hw1:Wr X.K θ1 H2 M1) (hd1:kK X.K θ1 H2 σ ρ) (hJ:DQ X.K J θ1 H2 t) (hgo:ba t xs.length sg gc ge t.ds ρ M1=.ok es Mend) (hlen:es.length≤sizeLine)
  (hcd:∀C,∃cond,(forIn (m:=Sem) ifs true fun c r=>if r=true then do let ok ←isTrue c (aD X scope xs R fp s2 H2 C).env (eval c (aD X scope xs R fp s2 H2 C).env);pure (ForInStep.yield ok) else pure (ForInStep.yield r))=cond∧
   ∀(ag:List (Addr×Obj)) (s:Shared) (σ:L2.St) (H:Hp) (Q:Bool→Hp→Prop),L2.Inv (aD X scope xs R fp s2 H2 C) ag σ H s→tT (aD X scope xs R fp s2 H2 C) gc σ H Q→wpAny (model X.prog X.w) X.A cond (TP (aD X scope xs R fp s2 H2 C) ag σ Q) (fun _ _=>False) s)
  (own:wf xs.length sg) (hg:∀C,PG (aD X scope xs R fp s2 H2 C) tg (tG (aD X scope xs R fp s2 H2 C) sg))
  (he:∀C,PE (aD X scope xs R fp s2 H2 C) elt (tE (aD X scope xs R fp s2 H2 C) ge))
  (fin:∀(acc C:Addr) (s':Shared) (H':Hp) (θ':List Addr) (vs:List V) (m:Str→Option Value),L2.Inv X ag σ (ce H' acc (.lst vs)) s'→s'.heap.Ns C m→jI X ag (ce H' acc (.lst vs)) C→Go X.K θ1 H2 θ' H' Mend→H' acc=none→bn X.K θ' H' es vs→RR (.ref acc) C (.ok .next) s') :
  wpAny (model X.prog X.w) X.A (newList []) (fun acc s₃=>wpAny (model X.prog X.w) X.A (newFunctionEnv scope X.env.globals (eQ X.env.cells scope.names []) [] X.env.qual none .none (some X.env)) (fun cenv s₄=>
   codeAny (model X.prog X.w) X.A (.compStart (.ListComp elt [⟨tg,iter,ifs,0⟩] scope pos) 0 (.ref it) acc {cenv with scope:=relabel scope X.env}) (RR acc cenv.locals) s₄) E s₃) E s2:=by
 refine wpAny_newObj_type (wpAny_newFunctionEnv S.nocell (by intro y hy;simp at hy) (fun h₁ hns₁ hsb₁=>?_) S.kind)
 dsimp only at hns₁ hsb₁ ⊢
 generalize hHp:s2.heap.push {cls:=.type "list",dict:=none,data:=.seq ([]:List Value).toArray}=Hp2 at hns₁ hsb₁ ⊢
 have hCe:Hp2.objs.size=s2.heap.objs.size+1:=by rw[←hHp,Heap.size_push]
 generalize hCd:Hp2.objs.size=C at hns₁ hsb₁ hCe ⊢
 generalize hAd:s2.heap.objs.size=acc at hCe ⊢
 have hDC:acc≠C:=by rw[hCe];exact Nat.ne_of_lt (Nat.lt_succ_self _)
 have old:∀b o,s2.heap.get? b=some o→h₁.get? b=some o:=fun b o e=>by
  have hb:b<acc:=by rw[←hAd];exact Heap.lt_size e
  refine hsb₁.extBut b o (DM hb hCe) (Heap.get?_push_of_some _ ?_)
  rw[←hHp];exact Heap.get?_push_of_some _ e
 have hacc0:h₁.get? acc=some (iz [] 0):=by
  refine hsb₁.extBut acc _ hDC (Heap.get?_push_of_some _ ?_)
  rw[←hHp,←hAd];exact Heap.get?_push_size _ rfl
 have hfl:∀b∈fp,b<s2.heap.objs.size:=fun b hb=>by
  obtain⟨o,e,_⟩:=T.obj 0 _ st2 b hb
  exact Heap.lt_size e
 have hCs:s2.heap.objs.size≤C:=by omega
 have IY0:L2.Inv (aD X scope xs R fp s2 H2 C) [] (List.replicate xs.length none++σ) H2 {s2 with heap:=h₁,toks:=s2.toks+([]:List (Str×Value)).length}:=A4 S I2 hCs old hns₁ f2 hfl
 obtain⟨cond,hcond,hct⟩:=hcd C
 have fpY:∀{H':Hp} {p:Obj},(∀b∈fp,H' b=none)→∀b∈fp,jI (aD X scope xs R fp s2 H2 C) [(acc,p)] H' b:=fun {H' p} hn b hb=>by
  refine⟨hn b hb,?_,fun z=>?_,.inl hb,fun y c e=>?_,fun q hq=>?_⟩
  ·exact Nat.ne_of_lt (Nat.lt_of_lt_of_le (hfl b hb) hCs)
  ·rcases List.mem_cons.mp (I2.stkSub b z) with e|e
   ·exact(f2 b hb).2.1 e
   ·exact(f2 b hb).2.2.1 e
  ·exact(f2 b hb).2.2.2.2.1 y c (df S I2 e)
  ·have hq:q∈([]:List (Addr×Obj))++[(acc,p)]:=hq
   have e:q=(acc,p):=by simpa using hq
   rw[e]
   exact Dl (hfl b hb) hAd
 have accF:∀b∈rF X.stack,acc≠b:=fun b hb e=>by
  have:acc∉X.env.locals::X.fs:=by
   intro z
   rcases List.mem_cons.mp z with z|z
   ·exact Dl I2.lt hAd z
   ·exact I2.nofs (Nat.le_of_eq hAd) z
  exact this (e▸I2.stkSub b hb)
 have loop:∀s₃:Shared,s₃={s2 with heap:=h₁,toks:=s2.toks+([]:List (Str×Value)).length}→
   codeAny (model X.prog X.w) X.A (.compLoop (.ListComp elt [⟨tg,iter,ifs,0⟩] scope pos) 0 (.ref it) (.ref acc) (aD X scope xs R fp s2 H2 C).env) (RR (.ref acc) C) s₃:=by
  rintro s₃ rfl
  have pin0:∀{σ':L2.St} {H':Hp} {s':Shared} {its:List Value} {n:Nat},L2.Inv (aD X scope xs R fp s2 H2 C) [] σ' H' s'→s'.heap.get? acc=some (iz its n)→H' acc=none→L2.Inv (aD X scope xs R fp s2 H2 C) [(acc,iz its n)] σ' H' s':=fun {σ' H' s' its n} I' e hn=>
   I'.pins_of fun p hp=>by
    have ep:p=(acc,iz its n):=by simpa using hp
    subst ep
    exact⟨e,hn,hDC,fun z=>accF acc z rfl,fun v z=>by cases z⟩
  refine lx hcond (fun n s'=>∃(i:Nat) (τ:L2.St) (H':Hp) (θ':List Addr) (M':aB) (ds rest:List D) (vs:List V) (its:List Value) (na:Nat),n=t.ds.length-i∧i≤t.ds.length∧
   L2.Inv (aD X scope xs R fp s2 H2 C) [(acc,iz its na)] τ H' s'∧kK X.K θ' H' τ (List.replicate xs.length none++ρ)∧tn i s'.heap∧(∀b∈fp,H' b=none)∧Go X.K θ1 H2 θ' H' M'∧bn X.K θ' H' ds vs∧aW vs its∧
   ba t xs.length sg gc ge (t.ds.drop i) ρ M'=.ok rest Mend∧ds++rest=es) ?_ t.ds.length
   ⟨0,_,H2,θ1,M1,[],es,[],[],0,rfl,Nat.zero_le _,pin0 IY0 hacc0 (I2.hok.fresh (Nat.le_of_eq hAd)),FI hd1,T.keep 0 _ _ st2 (fun b hb o e=>old b o e),fun b hb=>(f2 b hb).1,.refl hw1,rfl,.nil,hgo,rfl⟩
  rintro n s' ⟨i,τ,H',θ',M',ds,rest,vs,its,na,rfl,hil,I',dn',st',fr',g',rd',rv',hrest,hes⟩
  have hok:t.ok M'=true:=by
   cases hq:t.ok M' with
   | true=>rfl
   | false=>
    exfalso
    cases hdr:t.ds.drop i with
    | nil=>rw[hdr,ba,if_neg (by rw[hq];exact Bool.false_ne_true)] at hrest;cases hrest
    | cons d r=>rw[hdr,ba,if_neg (by rw[hq];exact Bool.false_ne_true)] at hrest;cases hrest
  obtain⟨hy,hst⟩:=hJ θ' H' M' g' hok i
  by_cases hlt:i<t.ds.length
  ·have e1:t.ds[i]?=some t.ds[i]:=List.getElem?_eq_getElem hlt
   obtain⟨hgo',hyl⟩:=hy _ e1
   rw[List.drop_eq_getElem_cons hlt,ba,if_pos hok] at hrest
   refine cy (T.item (aD X scope xs R fp s2 H2 C) rfl rfl rfl hc i _ s' _ H' _ I' (fpY fr') st' hgo') fun r s4 ⟨u,hr,h4⟩=>?_
   subst hr
   refine cy h4 fun _ s5 ⟨v,H5,I5,r5,y5,st5,fr5⟩=>?_
   obtain⟨gy,rx⟩:=hyl v H5 y5
   have I5':=I5.pinned (fpY fr5) (T.obj _ _ st5)
   cases qs:sg t.ds[i] (List.replicate xs.length none++ρ) with
   | none=>rw[qs] at hrest;cases hrest
   | some ρ1=>
   rw[qs] at hrest
   dsimp only at hrest
   refine cy (hg C _ s5 _ H5 v u (fun σ6 H6=>kK X.K θ' H6 σ6 ρ1∧H6=H5) I5' r5 ⟨_,θ',M',t.ds[i],dn'.go gy,gy.wr,rx,ρ1,qs,fun σ6 d6=>⟨d6,rfl⟩⟩) fun _ s6 ⟨σ6,H6,I6,hdY,eH6⟩=>?_
   subst eH6
   cases qc:gc ρ1 M' with
   | bad=>rw[qc] at hrest;cases hrest
   | err c Mx=>rw[qc] at hrest;cases hrest
   | ok b Mb=>
    refine cy (hct _ s6 _ H6 (fun b' H7=>b'=b∧∃θ7,Go X.K θ' H6 θ7 H7 Mb) I6 ⟨_,θ',M',hdY,gy.wr,?_⟩) fun ok s7 ⟨H7,I7,eb,θ7,g7⟩=>?_
    ·rw[qc];exact fun θ7 H7 g7=>⟨rfl,θ7,g7⟩
    subst eb
    have fpk:∀{s8:Shared} {σ8:L2.St} {H8:Hp},L2.Inv (aD X scope xs R fp s2 H2 C) ([(acc,iz its na)]++qI fp s5.heap) σ8 H8 s8→(∀b∈fp,H8 b=none)∧(∀b∈fp,∀o,s5.heap.get? b=some o→s8.heap.get? b=some o)∧s8.heap.get? acc=some (iz its na)∧H8 acc=none:=fun {s8 σ8 H8} I8=>by
     have pa:=I8.pin (acc,iz its na) (List.mem_append_right _ (List.mem_append_left _ (by simp)))
     refine⟨fun b hb=>?_,fun b hb o e=>(I8.pin (b,o) (List.mem_append_right _ (List.mem_append_right _ (jY hb e)))).1,pa.1,pa.2.1⟩
     obtain⟨o,e,d⟩:=T.obj _ _ st5 b hb
     exact(I8.pin (b,o) (List.mem_append_right _ (List.mem_append_right _ (jY hb e)))).2.1
    cases ok with
    | false=>
     rw[if_neg Bool.false_ne_true]
     rw[qc] at hrest
     obtain⟨k1,k2,k3,k4⟩:=fpk I7
     exact⟨t.ds.length-(i+1),by omega,i+1,σ6,H7,θ7,Mb,ds,rest,vs,its,na,rfl,hlt,I7.unpinned,own.back qs (hdY.go g7),T.keep _ _ _ st5 k2,k1,g'.trans (gy.trans g7),rd'.go (gy.trans g7),rv',hrest,hes⟩
    | true=>
     rw[if_pos rfl]
     rw[qc] at hrest
     have hrest:(match ge ρ1 Mb with
      | .ok e M2=>(ba t xs.length sg gc ge (t.ds.drop (i+1)) ρ M2).bind fun es M3=>.ok (e::es) M3
      | _=>.bad)=bg.ok rest Mend:=hrest
     cases qe:ge ρ1 Mb with
     | bad=>rw[qe] at hrest;cases hrest
     | err c Mx=>rw[qe] at hrest;cases hrest
     | ok dv Mv=>
      rw[qe] at hrest
      have hrest:((ba t xs.length sg gc ge (t.ds.drop (i+1)) ρ Mv).bind fun es M3=>bg.ok (dv::es) M3)=bg.ok rest Mend:=hrest
      refine cy (he C _ s7 _ H7 (fun w H8=>∃θ8,Go X.K θ7 H7 θ8 H8 Mv∧dX X.K θ8 H8 dv w) I7 ⟨_,θ7,Mb,hdY.go g7,g7.wr,?_⟩) fun uv s8 ⟨w,H8,I8,rw8,θ8,g8,rd8⟩=>?_
      ·rw[qe];exact fun w θ8 H8 g8 rd8=>⟨θ8,g8,rd8⟩
      obtain⟨k1,k2,k3,k4⟩:=fpk I8
      cases qr:ba t xs.length sg gc ge (t.ds.drop (i+1)) ρ Mv with
      | bad=>rw[qr] at hrest;cases hrest
      | err c Mx=>rw[qr] at hrest;cases hrest
      | ok rest' Mr=>
       rw[qr] at hrest
       have hrest:bg.ok (dv::rest') Mr=bg.ok rest Mend:=hrest
       cases hrest
       have hsz:its.length<sizeLine:=by
        have e2:(ds++dv::rest').length≤sizeLine:=by rw[hes];exact hlen
        rw[List.length_append,List.length_cons,ay rd',rv'.length] at e2
        omega
       refine call_meets F.slot_list_append ⟨_,k3,rfl⟩ F.entry_list_append (F.args_list_append_2 _ _) (PySem.list_append acc its.toArray na uv (by rw[List.size_toArray];omega)) ⟨k3,?_⟩
       have qup:=PySem.IsL.update k3 (fun a=>a.push uv)
       have eup:(its.toArray.push uv)=(its++[uv]).toArray:=by simp
       have keepb:∀b o,b≠acc→s8.heap.get? b=some o→(s8.heap.update acc (Obj.mapSeq fun a=>a.push uv)).get? b=some o:=fun b o hb e=>(Heap.get?_update_other s8.heap _ (Ne.symm hb)).trans e
       have I9:L2.Inv (aD X scope xs R fp s2 H2 C) [] σ6 H8 {s8 with heap:=s8.heap.update acc (Obj.mapSeq fun a=>a.push uv),toks:=s8.toks}:=by
        refine Inv.turned (it:=acc) (I8.pins_of (pins':=[]) fun p hp=>absurd hp (by simp)) keepb k4 hDC (.inr (Nat.le_of_eq hAd)) (fun y c e z=>?_) fun p hp=>absurd (show p∈([]:List (Addr×Obj)) from hp) (by simp)
        obtain⟨v',o,ho,hdd⟩:=I2.cell y c (df S I2 e)
        exact uT (Heap.lt_size ho) hAd z
       obtain⟨n',eq'⟩:∃n',(s8.heap.update acc (Obj.mapSeq fun a=>a.push uv)).get? acc=some (iz (its++[uv]) n'):=by
        have q2:=qup
        rw[eup] at q2
        exact⟨_,q2⟩
       exact⟨t.ds.length-(i+1),by omega,i+1,σ6,H8,θ8,Mv,ds++[dv],rest',vs++[w],its++[uv],n',rfl,hlt,pin0 I9 eq' k4,own.back qs (hdY.go (g7.trans g8)),T.keep _ _ _ st5 (fun b hb o e=>keepb b o (uT (hfl b hb) hAd) (k2 b hb o e)),k1,g'.trans (gy.trans (g7.trans g8)),dW (rd'.go (gy.trans (g7.trans g8))) ⟨w,[],rfl,rd8,rfl⟩,rv'.append (.cons rw8 .nil),qr,by rw[←hes];simp⟩
  ·have e:i=t.ds.length:=by omega
   subst e
   rw[List.drop_length,ba,if_pos hok] at hrest
   cases hrest
   have hes:ds=es:=by rw[←hes];simp
   subst hes
   refine cy (T.done (aD X scope xs R fp s2 H2 C) rfl rfl rfl hc _ _ s' _ H' _ I' (fpY fr') st' (hst (Nat.le_refl _))) fun r s4 ⟨hr,I4⟩=>?_
   subst hr
   have pa:=I4.pin (acc,iz its na) (List.mem_append_right _ (by simp))
   have e4:s4.heap.get? acc=some (iz its na):=pa.1
   have n4:H' acc=none:=pa.2.1
   have lv:vs.length≤sizeLine:=by rw[←ay rd'];exact hlen
   obtain⟨mC,hnC,_⟩:=I4.loc
   have hHC:H' C=none:=I4.free
   have B3:Un (rF X.stack) fp H2 H' s2.heap s4.heap:=I4.base
   have neA:∀{b:Addr} {o:Obj},s2.heap.get? b=some o→b≠acc:=fun {b o} e=>uT (Heap.lt_size e) hAd
   have neH:∀{b:Addr} {u:HO},H' b=some u→b≠acc:=fun {b u} e z=>by rw[z,n4] at e;cases e
   have un4:Un (rF X.stack) fp H2 (ce H' acc (.lst vs)) s2.heap s4.heap:=by
    refine⟨B3.keep,B3.slot,fun b o e n hx=>?_,B3.there,fun b xs e=>?_,fun b o u e=>?_,fun b ps e=>?_⟩
    ·rw[aC (neA e)];exact B3.free b o e n hx
    ·have z:=B3.tups b xs e
     rw[aC (neH z)];exact z
    ·have z:=B3.frzs b o u e
     rw[aC (neH z)];exact z
    ·obtain⟨more,z⟩:=B3.tbls b ps e
     exact⟨more,by rw[aC (neH z)];exact z⟩
   have hok4:kS X.prog X.w (ce H' acc (.lst vs)) s4.heap:=fun b u e=>by
    by_cases hb:b=acc
    ·subst hb
     rw[bF] at e;cases e
     exact⟨lv,its,na,rv',e4⟩
    ·rw[aC hb] at e
     exact(I4.hok b u e).stay (fun c v _ q=>q) (fun c q=>by rw[aC (neH q)];exact q) fun c xs q=>by rw[aC (neH q)];exact q
   have IX:L2.Inv X ag σ (ce H' acc (.lst vs)) s4:=I2.call' (ch:=fp) I4.os un4 hok4 I4.bare fun b hb=>⟨(f2 b hb).2.2.2.1,(f2 b hb).2.1,(f2 b hb).2.2.2.2.1,(f2 b hb).2.2.2.2.2⟩
   refine fin acc C s4 H' θ' vs mC IX hnC (I2.fpOk hCs ?_) g' n4 rd'
   rw[aC (Ne.symm hDC)];exact hHC
 exact codeAny_compStart_list (loop _ rfl) (T.self _ 0 _ _ _ (T.keep 0 _ _ st2 fun b hb o e=>old b o e) (loop _ rfl))
end
variable{mk:List D→aB→bg D}
section
variable {X:Cx}{scope:Scope}{xs:List Str}{tg:Expr}{sg:GG}{x:Str}{px:Pos}{R:List Str}{elt iter:Expr}{ifs:List Expr}{pos:Pos}{gi:GI}{gc:GT}{ge:GE}
def Iv (mk:List D→aB→bg D):Prop:=∀(X:Cx) (θ:List Addr) (H:Hp) (Q:VK) (ds:List D) (M:aB) (vs:List V),aP X θ H Q (mk ds M)→Wr X.K θ H M→bn X.K θ H ds vs→vs.length≤sizeLine∧∀p,H p=none→Q (.ref p) (ce H p (.lst vs))
theorem C9:Iv aF:=fun X θ H Q ds M vs h hw r=>aP.lst h hw r
theorem Cc:Iv dM:=fun X θ H Q ds M vs h hw r=>aP.mut h hw r
theorem AZ (hm:mk=aF∨mk=dM){X:Cx}{Q:VK}(h:aP X θ H Q (mk ds M)):ds.length≤sizeLine:=by
 rcases hm with e|e <;> subst e
 ·unfold aF at h
  split at h
  ·assumption
  ·exact h.elim
 ·unfold dM at h
  split at h
  ·assumption
  ·exact h.elim
theorem Gi (hm:mk=aF∨mk=dM):Iv mk:=by
 rcases hm with e|e <;> subst e
 ·exact C9
 ·exact Cc
def jW (X:Cx)(scope:Scope)(xs:List Str)(R:List Str)(ifs:List Expr)(gc:GT):Prop:=∀fp s2 H2 C,∃cond,(forIn (m:=Sem) ifs true fun c r=>if r=true then do let ok ←isTrue c (aD X scope xs R fp s2 H2 C).env (eval c (aD X scope xs R fp s2 H2 C).env);pure (ForInStep.yield ok) else pure (ForInStep.yield r))=cond∧
   ∀(ag:List (Addr×Obj)) (s:Shared) (σ:L2.St) (H:Hp) (Q:Bool→Hp→Prop),L2.Inv (aD X scope xs R fp s2 H2 C) ag σ H s→tT (aD X scope xs R fp s2 H2 C) gc σ H Q→wpAny (model X.prog X.w) X.A cond (TP (aD X scope xs R fp s2 H2 C) ag σ Q) (fun _ _=>False) s
theorem C7:jW X scope xs R [] bL:=fun fp s2 H2 C=>⟨_,yF,fun ag s σ H Q I ⟨ρ,θ,M,hd,hw,h⟩=>wpAny_pure ⟨H,I,h θ H (.refl hw)⟩⟩
theorem CW (h:∀fp s2 H2 C,PT (aD X scope xs R fp s2 H2 C) c (tT (aD X scope xs R fp s2 H2 C) gc)):jW X scope xs R [c] gc:=fun fp s2 H2 C=>⟨_,zJ,fun ag s σ H Q I q=>h fp s2 H2 C ag s σ H Q I q⟩
theorem jN {t:sv}{n:Nat}{sg:GG}{gc:GT}{ge:GE}{ρ:cn}{c:Str}{M':aB}:∀(ds:List D) (M:aB),ba t n sg gc ge ds ρ M=.err c M'→False
 | [],M,h=>by
  unfold ba at h
  split at h <;> cases h
 | d::r,M,h=>by
  unfold ba at h
  split at h
  ·split at h
   ·cases h
   ·split at h
    ·rename_i M1 q1
     split at h
     ·rename_i e M2 q2
      cases q:ba t n sg gc ge r ρ M2 with
      | ok es M3=>rw[q] at h;cases h
      | err c2 M3=>exact jN r M2 q
      | bad=>rw[q] at h;cases h
     ·cases h
    ·rename_i M1 q1
     exact jN r M1 h
    ·cases h
  ·cases h
theorem xm (hS:cE scope X.env.kindOf xs R X.N=true)(hc:X.calm=true)(hm:mk=aF∨mk=dM)(hi:PI X tg iter (tI X gi))(own:wf xs.length sg)(hg:∀fp s H C,PG (aD X scope xs R fp s H C) tg (tG (aD X scope xs R fp s H C) sg))(hts:jW X scope xs R ifs gc)
  (he:∀fp s H C,PE (aD X scope xs R fp s H C) elt (tE (aD X scope xs R fp s H C) ge))
  (hs:∀x,foldedSetIterable iter X.env x=pure x:=by intro _;rfl):PE X (.ListComp elt [⟨tg,iter,ifs,0⟩] scope pos) (tE X (bH gi xs.length sg gc ge mk)):=by
 have S:=cA.of hS
 intro ag s σ H Q I h
 obtain⟨ρ,θ,M,hd,hw,h⟩:=h
 rw[eval_ListComp]
 refine wpAny_comprehension_free (use:=none) rfl hs (nw (S.cells I)) S.kind S.lnames ?_
 refine cy (hi ag s σ H (fun J H2=>∃t M1 θ1,gi ρ M=.ok t M1∧Go X.K θ H θ1 H2 M1∧DQ X.K J θ1 H2 t) I ⟨ρ,θ,M,hd,hw,?_⟩) fun v s1 h1=>cy h1 fun itv s2 h2=>?_
 ·cases q:gi ρ M with
  | ok t M1=>exact fun J θ1 H1 g1 hJ=>⟨t,M1,θ1,rfl,g1,hJ⟩
  | err c M1=>unfold bH at h;rw[q] at h;exact h
  | bad=>unfold bH at h;rw[q] at h;exact h
 obtain⟨it,fp,tn,J,H2,rfl,I2,T,st2,f2,t,M1,θ1,eg,g1,hJ⟩:=h2
 unfold bH at h
 rw[eg] at h
 have h:aP X θ H Q ((ba t xs.length sg gc ge t.ds ρ M1).bind mk):=h
 cases q:ba t xs.length sg gc ge t.ds ρ M1 with
 | bad=>rw[q] at h;exact h.elim
 | err c Mx=>exact(jN _ _ q).elim
 | ok es Mend=>
  rw[q] at h
  have h:aP X θ H Q (mk es Mend):=h
  refine pR (RR:=fun acc C=>compPost (model X.prog X.w) X.A X.xe none (EP X ag σ Q) acc C) S hc I2 T st2 f2 g1.wr (hd.go g1) hJ q (AZ hm h) (fun C=>hts fp s2 H2 C) own (fun C=>hg fp s2 H2 C) (fun C=>he fp s2 H2 C) ?_
  intro acc C s' H' θ' vs m IX hnC fC g' na rd
  refine⟨m,hnC,fun h' sb=>?_⟩
  have I3:L2.Inv X ag σ (ce H' acc (.lst vs)) {s' with heap:=h',toks:=s'.toks}:=IX.turned (it:=C) (fun b o hb e=>(sb.2 b hb).trans e) fC.1 fC.2.1 fC.2.2.2.1 fC.2.2.2.2.1 fC.2.2.2.2.2
  exact⟨.ref acc,_,I3,rfl,(Gi hm X θ' H' Q es Mend vs (aP.go (g1.trans g') h) g'.wr rd).2 acc na⟩
theorem oM {j:Nat}{py spos:Pos}(hS:cE scope X.env.kindOf xs R X.N=true)(hc:X.calm=true)(hm:mk=aF∨mk=dM)(hi:PI X tg iter (tI X gi))(own:wf xs.length sg)(hg:∀fp s H C,PG (aD X scope xs R fp s H C) tg (tG (aD X scope xs R fp s H C) sg))(hts:jW X scope xs R ifs gc)
  (he:∀fp s H C,PE (aD X scope xs R fp s H C) elt (tE (aD X scope xs R fp s H C) ge))
  (hN:X.N.Nodup) (hj:X.N[j]?=some y) (hy:X.env.scope.names.lookup y=some .local)
  (hsw:swapsWith (.ListComp elt [⟨tg,iter,ifs,0⟩] scope pos) (some (.Name y py)) spos.line X.env=pure true)
  (hs:∀x,foldedSetIterable iter X.env x=pure x:=by intro _;rfl):PS X (.Assign [.Name y py] (.ListComp elt [⟨tg,iter,ifs,0⟩] scope pos) spos) (tS X (aU j (bH gi xs.length sg gc ge mk))):=by
 have S:=cA.of hS
 intro ag s σ H Q I h
 obtain⟨ρ,θ,M,hd,hw,h⟩:=h
 rw[exec_Assign_Name_used _ _ _ _ hsw]
 refine wpAny_bind (wpAny_standAt (wpAny_bind ?_))
 show wpAny _ X.A (do let _ ←comprehension (.ListComp elt [⟨tg,iter,ifs,0⟩] scope pos) scope X.env _ (newList []) false (eval iter X.env) (some (assign (.Name y py) X.env))) _ _ s
 refine wpAny_bind (wpAny_mono (wpAny_comprehension_free (use:=some (assign (.Name y py) X.env)) (Q:=fun _ s'=>SP X ag Q .next s') rfl hs (nw (S.cells I)) S.kind S.lnames ?_) (fun _ s' hq=>wpAny_pure (wpAny_pure hq)) fun _ _ e=>e)
 refine cy (hi ag s σ H (fun J H2=>∃t M1 θ1,gi ρ M=.ok t M1∧Go X.K θ H θ1 H2 M1∧DQ X.K J θ1 H2 t) I ⟨ρ,θ,M,hd,hw,?_⟩) fun v s1 h1=>cy h1 fun itv s2 h2=>?_
 ·cases q:gi ρ M with
  | ok t M1=>exact fun J θ1 H1 g1 hJ=>⟨t,M1,θ1,rfl,g1,hJ⟩
  | err c M1=>unfold aU bH at h;rw[q] at h;exact h
  | bad=>unfold aU bH at h;rw[q] at h;exact h
 obtain⟨it,fp,tn,J,H2,rfl,I2,T,st2,f2,t,M1,θ1,eg,g1,hJ⟩:=h2
 unfold aU bH at h
 rw[eg] at h
 have h:cL X θ H Q (((ba t xs.length sg gc ge t.ds ρ M1).bind mk).bind fun d M2=>.ok (.nx (ρ.set j (some d))) M2):=h
 cases q:ba t xs.length sg gc ge t.ds ρ M1 with
 | bad=>rw[q] at h;exact h.elim
 | err c Mx=>exact(jN _ _ q).elim
 | ok es Mend=>
  rw[q] at h
  have h:cL X θ H Q ((mk es Mend).bind fun d M2=>.ok (.nx (ρ.set j (some d))) M2):=h
  have hE:aP X θ H (fun v H'=>∃θ' M',Go X.K θ H θ' H' M'∧∃d,mk es Mend=.ok d M'∧dX X.K θ' H' d v) (mk es Mend):=by
   cases qm:mk es Mend with
   | ok d M2=>exact fun v θ' H' g' r=>⟨θ',M2,g',d,rfl,r⟩
   | err c M2=>rw[qm] at h;exact h
   | bad=>rw[qm] at h;exact h
  refine pR (RR:=fun acc C=>compPost (model X.prog X.w) X.A X.xe (some (assign (.Name y py) X.env)) (fun _ s'=>SP X ag Q .next s') acc C) S hc I2 T st2 f2 g1.wr (hd.go g1) hJ q (AZ hm hE) (fun C=>hts fp s2 H2 C) own (fun C=>hg fp s2 H2 C) (fun C=>he fp s2 H2 C) ?_
  intro acc C s' H' θ' vs m IX hnC fC g' na rd
  obtain⟨θe,Me,ge',d,ed,rde⟩:=(Gi hm X θ' H' _ es Mend vs (aP.go (g1.trans g') hE) g'.wr rd).2 acc na
  show wpAny _ X.A (assign (.Name y py) X.env (.ref acc)) _ _ s'
  refine wpAny_assign_Name (tF IX hN hj (.inl hy) (v:=.ref acc) rfl (fun s3 I3 ⟨a,sa,ha⟩=>?_) (.inr hy))
  have hCa:C≠a:=by
   rcases ha with e|e
   ·rw[e];exact fC.2.1
   ·exact fun z=>fC.2.2.2.2.1 y a e z.symm
  refine⟨m,hnC.sameBut sa hCa,fun h' sb=>?_⟩
  have I4:L2.Inv X ag (σ.set j (some (.ref acc))) (ce H' acc (.lst vs)) {s3 with heap:=h',toks:=s3.toks}:=I3.turned (it:=C) (fun b o hb e=>(sb.2 b hb).trans e) fC.1 fC.2.1 fC.2.2.2.1 fC.2.2.2.2.1 fC.2.2.2.2.2
  rw[ed] at h
  exact⟨_,_,I4,h _ θe _ ge' ((hd.go ge').set rde j)⟩
theorem yZ {px:Pos}(hS:cE scope X.env.kindOf [x] R X.N=true)(fp:List Addr)(s:Shared)(H:Hp)(C:Addr):PG (aD X scope [x] R fp s H C) (.Name x px) (tG (aD X scope [x] R fp s H C) (gn 0)):=
 have S:=cA.of hS
 ua (X:=aD X scope [x] R fp s H C) S.nd rfl (.inl (lookup_relabel_local (S.own x (by simp)))) (.inr (lookup_relabel_local (S.own x (by simp))))
theorem zj (mk:List D→aB→bg D):aY gi gc ge mk=bH gi 1 (gn 0) gc ge mk:=by
 funext ρ M
 unfold aY bH
 simp only[vH]
theorem Ep (hS:cE scope X.env.kindOf [x] R X.N=true)(hc:X.calm=true)(hm:mk=aF∨mk=dM)(hi:PI X (.Name x px) iter (tI X gi))(hts:jW X scope [x] R ifs gc)
  (he:∀fp s H C,PE (aD X scope [x] R fp s H C) elt (tE (aD X scope [x] R fp s H C) ge))
  (hs:∀x,foldedSetIterable iter X.env x=pure x:=by intro _;rfl):PE X (.ListComp elt [⟨.Name x px,iter,ifs,0⟩] scope pos) (tE X (aY gi gc ge mk)):=by
 rw[zj]
 exact xm (xs:=[x]) hS hc hm hi (y7 (Nat.zero_lt_one)) (yZ hS) hts he hs
theorem yI {j:Nat}{py spos:Pos}(hS:cE scope X.env.kindOf [x] R X.N=true)(hc:X.calm=true)(hm:mk=aF∨mk=dM)(hi:PI X (.Name x px) iter (tI X gi))(hts:jW X scope [x] R ifs gc)
  (he:∀fp s H C,PE (aD X scope [x] R fp s H C) elt (tE (aD X scope [x] R fp s H C) ge))
  (hN:X.N.Nodup) (hj:X.N[j]?=some y) (hy:X.env.scope.names.lookup y=some .local)
  (hsw:swapsWith (.ListComp elt [⟨.Name x px,iter,ifs,0⟩] scope pos) (some (.Name y py)) spos.line X.env=pure true)
  (hs:∀x,foldedSetIterable iter X.env x=pure x:=by intro _;rfl):PS X (.Assign [.Name y py] (.ListComp elt [⟨.Name x px,iter,ifs,0⟩] scope pos) spos) (tS X (aU j (aY gi gc ge mk))):=by
 rw[zj]
 exact oM (xs:=[x]) hS hc hm hi (y7 (Nat.zero_lt_one)) (yZ hS) hts he hN hj hy hsw hs
end
def cS:List D→Option (List Bool)
 | []=>some []
 | .bl b::r=>(cS r).map (b::·)
 | _=>none
def kI:FD:=fun ds M=>match ds with
 | [d]=>match b0 d M with
  | some xs=>match cS xs with
   | some bs=>.ok (.bl (bs.all id)) M
   | none=>.bad
  | none=>.bad
 | _=>.bad
theorem mn {K:W.Frag}{θ:List Addr}{H:Hp}:∀{ds:List D} {vs:List V} {us:List Value} {bs:List Bool},bn K θ H ds vs→aW vs us→cS ds=some bs→us=bs.map Value.bool
 | [],vs,us,bs,r,q,e=>by
  have e1:vs=[]:=r
  subst e1;cases q;cases e;rfl
 | d::ds,vs,us,bs,r,q,e=>by
  obtain⟨v,rr,e1,h1,h2⟩:=r
  subst e1
  cases d with
  | bl b=>
   cases qb:cS ds with
   | none=>simp[cS,qb] at e
   | some bs'=>
    simp[cS,qb] at e
    subst e
    have e2:v=.bl b:=h1
    subst e2
    cases q with
    | cons q1 q2=>
     cases q1
     rw[List.map_cons,mn h2 q2 qb]
  | _=>simp[cS] at e
theorem AN (bs:List Bool):(List.range bs.length).all (fun i=>bs.getD i false)=bs.all id:=by
 rw[Bool.eq_iff_iff]
 simp only[List.all_eq_true,List.mem_range,id]
 constructor
 ·intro h b hb
  obtain⟨i,hi,e⟩:=List.mem_iff_getElem.mp hb
  have:=h i hi
  rw[List.getD_eq_getElem?_getD,List.getElem?_eq_getElem hi] at this
  rw[←e];exact this
 ·intro h i hi
  rw[List.getD_eq_getElem?_getD,List.getElem?_eq_getElem hi]
  exact h _ (List.getElem_mem hi)
section
variable {X:Cx}
theorem oR {prog:Program}(bs:List Bool):TruthOf prog w A (fun i v=>((bs.map Value.bool).toArray)[i]?=some v) (fun i=>bs.getD i false):=fun i v s Q E hP hQ=>by
 have hP:(bs.map Value.bool)[i]?=some v:=by simpa using hP
 rw[List.getElem?_map] at hP
 cases q:bs[i]? with
 | none=>rw[q] at hP;cases hP
 | some b=>
  rw[q] at hP
  cases hP
  have e:bs.getD i false=b:=by rw[List.getD_eq_getElem?_getD,q];rfl
  dsimp only at hQ
  rw[e] at hQ
  exact wpAny_truthy_bool hQ
theorem xQ {xs:List D}{bs:List Bool}(hc:X.calm=true)(I:L2.Inv X ag σ H s)(hw:Wr X.K θ H M)(rv:dX X.K θ H d v)(ru:bc v u)(q:b0 d M=some xs)(qb:cS xs=some bs){Q:Bool→Hp→Prop}{f:(Nat→Bool)→Nat→Bool}{E:Value→Shared→Prop}
  (h:∀h' tk,L2.Inv X ag σ H {s with heap:=h',toks:=tk}→Q (f (fun i=>bs.getD i false) bs.length) H) :
  wpAny (model X.prog X.w) X.A.in1 (pyIter u) (fun it s₂=>∃I fp wr n P St tr,it=.ref I∧Walks X.prog X.w X.A.in1 I fp wr n P St∧St 0 s₂.heap∧TruthOf X.prog X.w X.A.in1 P tr∧
   ∀h' tk,(∀b o,b∉wr→s₂.heap.get? b=some o→h'.get? b=some o)→EP X ag σ (fun v H=>∃b,v=.bl b∧Q b H) (.bool (f tr n)) {s₂ with heap:=h',toks:=tk}) E s:=by
 have hh:X.A.in1.handled=none:=I.ok.hd hc
 obtain⟨a,vs,ea,sq,ra⟩:=pY hw rv q
 subst ea;cases ru
 rcases sq with sq|sq
 ·obtain⟨its,r1,p,hz⟩:=I.list sq
  have e:=mn ra r1 qb
  subst e
  have hlt:a<s.heap.objs.size:=by obtain⟨o,n,e,_⟩:=p;exact Heap.lt_size e
  refine wpAny_pyIter_list p.isList ⟨s.heap.objs.size,_,_,_,_,_,_,rfl,Walks.list hh s.heap.objs.size a (Nat.ne_of_lt hlt) _,⟨⟨_,Heap.get?_push_size _ rfl,rfl,rfl⟩,p.isList.push _⟩,oR bs,fun h' tk k=>?_⟩
  have I':L2.Inv X ag σ H {s with heap:=h',toks:=tk}:=I.kept fun b o e=>k b o (by have:=Heap.lt_size e;simp;exact Nat.ne_of_lt this) (Heap.get?_push_of_some _ e)
  refine⟨.bl _,H,I',rfl,_,rfl,?_⟩
  have:=h h' tk I'
  simpa using this
 ·obtain⟨its,r1,p,hz⟩:=I.tuple sq
  have e:=mn ra r1 qb
  subst e
  have hlt:a<s.heap.objs.size:=by obtain⟨o,e,_⟩:=p;exact Heap.lt_size e
  have pt:s.heap.IsTuple a (bs.map Value.bool).toArray:=p
  refine wpAny_pyIter_tuple pt ⟨s.heap.objs.size,_,_,_,_,_,_,rfl,Walks.tuple hh s.heap.objs.size a (Nat.ne_of_lt hlt) _,⟨⟨_,Heap.get?_push_size _ rfl,rfl,rfl⟩,?_⟩,oR bs,fun h' tk k=>?_⟩
  ·obtain⟨o,e,r⟩:=p
   exact⟨o,Heap.get?_push_of_some _ e,r⟩
  have I':L2.Inv X ag σ H {s with heap:=h',toks:=tk}:=I.kept fun b o e=>k b o (by have:=Heap.lt_size e;simp;exact Nat.ne_of_lt this) (Heap.get?_push_of_some _ e)
  refine⟨.bl _,H,I',rfl,_,rfl,?_⟩
  have:=h h' tk I'
  simpa using this
theorem Iw (hc:X.calm=true):dh X (.builtin "all") (rC X kI):=by
 intro ag s σ H xs us Q I r h
 obtain⟨θ,M,ds,hw,rd,h⟩:=h
 unfold kI at h
 split at h
 ·rename_i d
  obtain⟨v,e,rv⟩:=jo rd
  subst e
  obtain⟨u,rfl,ru⟩:=l6 r
  split at h
  ·rename_i ys q
   split at h
   ·rename_i bs qb
    refine cy (call_all_walk (xQ hc I hw rv ru q qb (Q:=fun b H=>Q (.bl b) H) (f:=fun tr n=>(List.range n).all tr) (fun h' tk I'=>?_))) fun u' s' ⟨v',H',I',r',b,eb,q'⟩=>⟨v',H',I',r',by rw[eb];exact q'⟩
    rw[AN]
    exact h _ θ H (.refl hw) rfl
   ·exact h.elim
  ·exact h.elim
 ·exact h.elim
def JP:D→Option String
 | .non=>some "NoneType"
 | .bl _=>some "bool"
 | .int _=>some "int"
 | .str _=>some "str"
 | .tup _=>some "tuple"
 | .lst _=>some "list"
 | .ro _=>some "list"
 | _=>none
def DE (d:D)(M:aB):Option String:=match d with
 | .mr k=>match M[k]? with
  | some (.lst _)=>some "list"
  | _=>none
 | d=>JP d
def wm (t T:String):Bool:=t==T||(t=="bool"&&T=="int")
def jj (T:String)(g:GE):GE:=fun ρ M=>(g ρ M).bind fun d M1=>match DE d M1 with
 | some t=>.ok (.bl (wm t T)) M1
 | none=>.bad
def m5 (T:String):Prop:=T="int"∨T="bool"∨T="str"∨T="tuple"∨T="list"
theorem fu (K:W.Frag)(hT:m5 T):∀t∈["NoneType","bool","int","str","tuple","list"],W.kitOne K (.type t) (.type T)=some (wm t T):=by
 intro t ht
 simp only[List.mem_cons,List.mem_nil_iff,or_false] at ht
 rcases hT with rfl|rfl|rfl|rfl|rfl <;> rcases ht with rfl|rfl|rfl|rfl|rfl|rfl <;> rfl
theorem GW (hT:m5 T):dh X (.builtin "isinstance") (fun xs H Q=>∃θ M d v,Wr X.K θ H M∧dX X.K θ H d v∧xs=[v,.ty T]∧aP X θ H Q (match DE d M with|some t=>.ok (.bl (wm t T)) M|none=>.bad)):=by
 intro ag s σ H xs us Q I r h
 obtain⟨θ,M,d,v,hw,rv,e,h⟩:=h
 subst e
 obtain⟨u,c,rfl,ru,rc⟩:=zd r
 cases rc
 have fin:∀t tk,DE d M=some t→EP X ag σ Q (.bool (wm t T)) {s with toks:=tk}:=fun t tk e=>by
  rw[e] at h
  exact⟨.bl _,H,I.tok _,rfl,h _ θ H (.refl hw) rfl⟩
 cases d with
 | non=>have e:v=.non:=rv;subst e;cases ru;exact W.kia_one W.kitx_none I.kIn True.intro (fu X.K hT "NoneType" (by simp)) (fun z=>nomatch z) fun tk=>fin _ tk rfl
 | bl b=>have e:v=.bl b:=rv;subst e;cases ru;exact W.kia_one W.kitx_bool I.kIn True.intro (fu X.K hT "bool" (by simp)) (fun z=>nomatch z) fun tk=>fin _ tk rfl
 | int i=>have e:v=.int i:=rv;subst e;obtain⟨t,rfl⟩:=ru;exact W.kia_one W.kitx_int I.kIn True.intro (fu X.K hT "int" (by simp)) (fun z=>nomatch z) fun tk=>fin _ tk rfl
 | str i=>have e:v=.str i:=rv;subst e;obtain⟨t,rfl⟩:=ru;exact W.kia_one W.kitx_str I.kIn True.intro (fu X.K hT "str" (by simp)) (fun z=>nomatch z) fun tk=>fin _ tk rfl
 | tup ds=>
  obtain⟨a,vs,e,ta,ra⟩:=rv;subst e;cases ru
  obtain⟨its,_,⟨o,h1,h2,_⟩,_⟩:=I.tuple ta.sq
  exact W.kia_one W.kitx_tuple I.kIn ⟨o,h1,h2⟩ (fu X.K hT "tuple" (by simp)) (fun z=>nomatch z) fun tk=>fin _ tk rfl
 | lst ds=>
  obtain⟨a,vs,e,ta,ra⟩:=rv;subst e;cases ru
  obtain⟨its,_,⟨o,n,h1,h2,_⟩,_⟩:=I.list (ta.sq (K:=X.K))
  exact W.kia_one W.kitx_list I.kIn ⟨o,h1,h2⟩ (fu X.K hT "list" (by simp)) (fun z=>nomatch z) fun tk=>fin _ tk rfl
 | ro ds=>
  obtain⟨a,vs,e,ta,ra⟩:=rv;subst e;cases ru
  obtain⟨its,_,⟨o,n,h1,h2,_⟩,_⟩:=I.list ta.sq
  exact W.kia_one W.kitx_list I.kIn ⟨o,h1,h2⟩ (fu X.K hT "list" (by simp)) (fun z=>nomatch z) fun tk=>fin _ tk rfl
 | mr k=>
  obtain⟨a,e,ta⟩:=rv;subst e;cases ru
  cases qm:M[k]? with
  | none=>simp only[DE,qm] at h;exact h.elim
  | some m=>
   cases m with
   | lst ys=>
    obtain⟨vs,hv,_⟩:=hw.at_ k a _ ta qm
    obtain⟨its,_,⟨o,n,h1,h2,_⟩,_⟩:=I.list (X:=X) (xs:=vs) (.inl (.inl hv))
    exact W.kia_one W.kitx_list I.kIn ⟨o,h1,h2⟩ (fu X.K hT "list" (by simp)) (fun z=>nomatch z) fun tk=>fin _ tk (by simp only[DE,qm])
   | _=>simp only[DE,qm] at h;exact h.elim
 | exc c=>exact h.elim
 | any=>exact h.elim
theorem He {p p2 pos:Pos}(hT:m5 T)(hv:bootBuiltins x=some (.type T))(hg:Gl X x)(hm:X.mg x=none)(hgi:Gl X "isinstance")(hmi:X.mg "isinstance"=none)(he:PE X e (tE X g))
  (hn:x≠"__name__":=by decide) (hd:(x==("__debug__":Str))=false:=by decide) (hbi:bootBuiltins "isinstance"=some (.builtin "isinstance"):=by kernel_rfl) (hs:starEach [e,.Name x p2] X.env=(false,eval e X.env)::starEach [.Name x p2] X.env:=by rfl)
  (hs2:starEach [.Name x p2] X.env=(false,eval (.Name x p2) X.env)::starEach [] X.env:=by rfl) (hpl:(backTo pos (starEach [.Name x p2] X.env)).any (·.1)=false:=by rfl) :
  PE X (.Call (.Name "isinstance" p) [e,.Name x p2] [] pos) (tE X (jj T g)):=
 (vX (GW hT) hgi hmi hbi (lP he (lP (Es hg hm hv (v:=.ty T) rfl hn hd) qR hs2) hs) (by decide) (by decide) hs hpl).of fun σ H Q ⟨ρ,θ,M,hd,hw,h⟩=>by
  refine bI hd hw (aP X θ H Q) (fun c M' h=>h) (fun h=>h) h fun d M1 v θ1 H1 g1 r1 h1=>?_
  exact⟨θ1,M1,d,v,g1.wr,r1,rfl,aP.go g1 h1⟩
end
def kD:D→Bool
 | .non=>true
 | .bl _=>true
 | .int _=>true
 | .str _=>true
 | _=>false
def Hf:D→V
 | .non=>.non
 | .bl b=>.bl b
 | .int i=>.int i
 | .str x=>.str x
 | _=>.non
theorem zl (r:dX K θ H d v)(f:kD d=true):v=Hf d∧lZ v=true:=by
 cases d with
 | non=>have e:v=.non:=r;subst e;exact⟨rfl,rfl⟩
 | bl b=>have e:v=.bl b:=r;subst e;exact⟨rfl,rfl⟩
 | int b=>have e:v=.int b:=r;subst e;exact⟨rfl,rfl⟩
 | str b=>have e:v=.str b:=r;subst e;exact⟨rfl,rfl⟩
 | _=>cases f
theorem vL {K:W.Frag}{θ:List Addr}{H:Hp}:∀{ds:List D} {vs:List V},bn K θ H ds vs→ds.all kD=true→vs=ds.map Hf∧vs.all lZ=true
 | [],vs,r,f=>by have e:vs=[]:=r;subst e;exact⟨rfl,rfl⟩
 | d::ds,vs,r,f=>by
  obtain⟨v,rr,e,h1,h2⟩:=r
  subst e
  rw[List.all_cons,Bool.and_eq_true] at f
  obtain⟨e1,f1⟩:=zl h1 f.1
  obtain⟨e2,f2⟩:=vL h2 f.2
  exact⟨by rw[List.map_cons,←e1,←e2],by rw[List.all_cons,f1,f2];rfl⟩
theorem DR {x y:D}(fx:kD x=true)(fy:kD y=true):DD (Hf x) (Hf y)=gf x y:=by
 cases x <;> cases y <;> simp_all [kD,Hf,DD,gf]
theorem zw {x:D}:∀{ds:List D},kD x=true→ds.all kD=true→My (Hf x) (ds.map Hf)=ds.any fun y=>gf y x
 | [],fx,fs=>rfl
 | d::ds,fx,fs=>by
  rw[List.all_cons,Bool.and_eq_true] at fs
  have ih:=zw (x:=x) (ds:=ds) fx fs.2
  unfold My at ih ⊢
  rw[List.map_cons,List.any_cons,List.any_cons,ih,DR fs.1 fx]
def pS (neg:Bool):F2:=fun x y M=>match b0 y M with
 | some xs=>if kD x&&xs.all kD then .ok (.bl ((xs.any fun y=>gf y x) != neg)) M else .bad
 | none=>.bad
section
variable {X:Cx}
theorem KU:iK X (compareOp .In) (rD X (pS false)):=by
 intro ag s σ H x y v u Q I rx ry h
 obtain⟨θ,M,dx,dy,hw,r1,r2,h⟩:=h
 unfold pS at h
 split at h
 ·rename_i xs q
  split at h
  ·rename_i hc
   rw[Bool.and_eq_true] at hc
   obtain⟨a,vs,ea,sq,ra⟩:=pY hw r2 q
   obtain⟨e1,f1⟩:=zl r1 hc.1
   obtain⟨e2,f2⟩:=vL ra hc.2
   refine Aa ag s σ H x y v u Q I rx ry ⟨a,vs,ea,sq,f1,f2,?_⟩
   have:=h _ θ H (.refl hw) rfl
   rw[Bool.bne_false] at this
   rw[if_neg (by decide),e1,e2,zw hc.1 hc.2]
   exact this
  ·exact h.elim
 ·exact h.elim
end
section
variable {prog:Program}{w:World}{A:Around}{E:Value→Shared→Prop}{s:Shared}
theorem lV {α β:Type}{f:α→Option β}{g:α→β}:∀(l:List α),(∀k∈l,f k=some (g k))→l.filterMap f=l.map g
 | [],_=>rfl
 | k::l,h=>by rw[List.filterMap_cons,h k List.mem_cons_self,List.map_cons,lV l fun k' hk=>h k' (List.mem_cons_of_mem _ hk)]
theorem Bp (xs:Array Value):((List.range xs.size).filterMap fun(k:Nat)=>xs[(((xs.size:Int)-1)+(k:Int)*(-1)).toNat]?).toArray=xs.toList.reverse.toArray:=by
 congr 1
 have e:∀k∈List.range xs.size,xs[(((xs.size:Int)-1)+(k:Int)*(-1)).toNat]?=some (xs.toList.reverse.getD k .none):=fun k hk=>by
  have hk:=List.mem_range.mp hk
  have e1:(((xs.size:Int)-1)+(k:Int)*(-1)).toNat=xs.size-1-k:=by omega
  rw[e1,List.getD_eq_getElem?_getD,List.getElem?_reverse (by simpa using hk)]
  simp
  rw[Array.getElem?_eq_getElem (by omega)]
  rfl
 rw[lV _ e]
 apply List.ext_getElem
 ·simp
 ·intro i h1 h2
  simp at h1 h2 ⊢
  rw[List.getElem?_eq_getElem (by simpa using h2)]
  simp
theorem m6 {t sl:Addr}{tk:Tok}{Q:Value→Shared→Prop}(ht:IsTup s.heap t items)(hs:s.heap.IsSliceOf sl .none .none (.int (-1) tk))
  (h:Q (.ref s.heap.objs.size) {s with heap:=s.heap.push {cls:=.type "tuple",data:=.seq items.toList.reverse.toArray}}) (hsz:items.size≤sizeLine):wpAny (model prog w) A (getItem (.ref t) (.ref sl)) Q E s:=by
 have hrev:sizeOk (.seq items.toList.reverse.toArray):=by
  show items.toList.reverse.toArray.size≤sizeLine
  simpa using hsz
 obtain⟨os,hos,hcs,hds⟩:=id hs
 have hTs:s.TypeIs (.ref sl) "slice":=⟨os,hos,hcs⟩
 unfold getItem
 try with_reducible refine wpAny_holding ?_
 first|refine wpAny_bind (wpAny_pure ?_)|skip
 refine wpAny_bind (wpAny_sequenceKey ht.typeIs (by decide) ?_)
 refine wpAny_bind (wpAny_callSpecial?_slot (name:=Str.ofString "__getitem__") ht.typeIs PyProof.Rows.slot_tuple_getitem
  (wpAny_call_entry PyProof.Rows.slot_tuple_getitem ht.typeIs entry_tuple_getitem ?_ (args_tuple_getitem _ _)))
 show wpAny _ _ (Builtin.Tuple.tupleItemsOf (.ref t) >>= _) _ _ s
 refine wpAny_bind (tupleItemsOf_ ht ?_)
 refine wpAny_bind (wpAny_typeOf hTs ?_)
 rw[if_pos (by decide)]
 refine wpAny_bind ?_
 unfold Builtin.Slice.sliceApplied Builtin.Slice.sliceFields
 refine wpAny_bind (wpAny_bind (wpAny_field hos hds (x:=.none) rfl (wpAny_bind (wpAny_field hos hds (x:=.none) rfl (wpAny_bind (wpAny_field hos hds (x:=.int (-1) tk) rfl (wpAny_pure ?_)))))))
 refine wpAny_bind (slicePart_int ?_)
 show wpAny _ _ (if((-1:Int)==0)=true then _ else _) _ _ s
 rw[if_neg (by decide)]
 refine wpAny_bind (slicePart_none (wpAny_bind (slicePart_none (wpAny_bind (wpAny_pure ?_)))))
 have ea:Builtin.Slice.sliceAdjust none none (-1) (items.size:Int)=((items.size:Int)-1,-1):=by
  unfold Builtin.Slice.sliceAdjust;simp
 have ep:Builtin.Slice.slicePlaces ((items.size:Int)-1) (-1) (-1)=items.size:=by
  unfold Builtin.Slice.slicePlaces
  simp only[show¬((-1:Int)>0) by decide,if_false]
  by_cases hz:items.size=0
  ·rw[hz];decide
  ·rw[if_pos (by omega)]
   simp
 show wpAny _ _ (match Builtin.Slice.sliceAdjust none none (-1) (items.size:Int) with|(lo,hi)=>pure (lo,(-1:Int),Builtin.Slice.slicePlaces lo hi (-1))) _ _ s
 rw[ea]
 show wpAny _ _ (pure ((items.size:Int)-1,(-1:Int),Builtin.Slice.slicePlaces ((items.size:Int)-1) (-1) (-1))) _ _ s
 rw[ep]
 refine wpAny_pure ?_
 have hno:¬((((items.size:Int)-1)==0&&(-1:Int)==1&&items.size==items.size)=true):=by
  intro q
  rw[Bool.and_eq_true,Bool.and_eq_true] at q
  exact absurd q.1.2 (by decide)
 show wpAny _ _ (if((((items.size:Int)-1)==0&&(-1:Int)==1&&items.size==items.size))=true then _ else _) _ _ s
 rw[if_neg hno,Bp]
 first
  | exact wpAny_bind (m:=Builtin.Tuple.tupleExact _) (wpAny_newObj_type (wpAny_pure ⟨_,rfl,wpAny_pure h⟩) hrev)
  | exact wpAny_bind (m:=Builtin.Tuple.tupleExact _) (wpAny_newObj_type (wpAny_bind (wpAny_pure (wpAny_pure ⟨_,rfl,wpAny_pure h⟩))) hrev)
  | exact wpAny_bind (wpAny_bind (m:=Builtin.Tuple.tupleExact _) (wpAny_newObj_type (wpAny_pure (wpAny_pure ⟨_,rfl,wpAny_pure h⟩)) hrev))
  | exact wpAny_bind (wpAny_bind (m:=Builtin.Tuple.tupleExact _) (wpAny_newObj_type (wpAny_pure ⟨_,rfl,wpAny_pure h⟩) hrev))
end
def yd (g:GE):GE:=fun ρ M=>(g ρ M).bind fun x M1=>match x with
 | .tup xs=>.ok (.tup xs.reverse) M1
 | _=>.bad
theorem m7 {K:W.Frag}{θ:List Addr}{H:Hp}:∀{ds:List D} {vs:List V},bn K θ H ds vs→bn K θ H ds.reverse vs.reverse
 | [],vs,r=>by have e:vs=[]:=r;subst e;exact rfl
 | d::ds,vs,r=>by
  obtain⟨v,rr,e,h1,h2⟩:=r
  subst e
  rw[List.reverse_cons,List.reverse_cons]
  exact dW (m7 h2) ⟨v,[],rfl,h1,rfl⟩
section
variable {X:Cx}
theorem IK {i j p1 p2 p3 pos}(hi:i=1)(he:PE X e (tE X g)):PE X (.Subscript e (.Slice none none (some (.UnaryOp .USub (.Constant (.int i) j p1) p2)) p3) pos) (tE X (yd g)):=by
 subst hi
 intro ag s σ H Q I h
 obtain⟨ρ,θ,M,hd,hw,h⟩:=h
 have h2:tE X g σ H (fun x H1=>∃a vs,x=.ref a∧ph X.K H1 a vs∧∀p,H1 p=none→Q (.ref p) (ce H1 p (.tup vs.reverse))):=by
  refine bI hd hw (aP X θ H Q) (fun c M' h=>h) (fun h=>h) h fun d M1 v θ1 H1 g1 r1 h1=>?_
  split at h1
  ·rename_i xs
   obtain⟨a,vs,e1,ta,ra⟩:=r1
   exact⟨a,vs,e1,ta.sq,fun p hp=>h1 _ θ1 _ (g1.trans (dG g1.wr hp)) (hU g1.wr hp (m7 ra))⟩
  ·exact h1.elim
 refine Subscript_ (cy (he ag s σ H _ I h2) fun v s1 ⟨x,H1,I1,r1,a,vs,ex,sq,q1⟩=>?_)
 subst ex
 cases r1
 refine wpAny_Slice ?_
 rw[evalPart_none]
 refine wpAny_pure (wpAny_pure ?_)
 rw[evalPart_some]
 refine cy ((Ge A3 Cu) ag s1 σ H1 (fun y H'=>y=.int (-1)∧H'=H1) I1 ⟨1,rfl,rfl,rfl⟩) fun vst s3 ⟨y,H3,I3,r3,ey,eH⟩=>?_
 subst ey;subst eH
 obtain⟨tk,rfl⟩:=r3
 have I4:L2.Inv X ag σ H3 {s3 with heap:=s3.heap.push {cls:=.type "slice",data:=.fields #[.none,.none,.int (-1) tk]}}:=I3.kept (t':=s3.toks) fun b ob q=>Heap.get?_push_of_some _ q
 obtain⟨its,rv,ht,hz⟩:=I4.tuple sq
 have hlen:its.toArray.size=vs.length:=by rw[List.size_toArray];exact rv.length.symm
 refine tail_any (ops:=[.ref a,.ref s3.heap.objs.size]) ht.typeIs PyProof.Rows.slot_tuple_getitem.lookup (m6 ht (Heap.IsSliceOf.new ..) ?_ (by rw[hlen];exact hz)) (by with_unfolding_all rfl)
 refine⟨.ref _,_,I4.laid (t':=s3.toks) (o:=.tup vs.reverse) (fun b ob q=>Heap.get?_push_of_some _ q) (Nat.le_refl _) ?_,rfl,q1 _ (I4.hok.fresh (Nat.le_refl _))⟩
 exact⟨by rw[List.length_reverse];exact hz,_,rv.reverse,IsTup.new _ _⟩
def wQ (k:Nat)(x:D)(M:aB):bg D:=match M[k]? with
 | some (.lst xs)=>if xs.length<sizeLine then .ok .non (M.set k (.lst (xs++[x]))) else .bad
 | _=>.bad
def lQ (go ge:GE):GE:=fun ρ M=>(go ρ M).bind fun o M1=>match o with
 | .mr k=>match M1[k]? with
  | some (.lst _)=>(ge ρ M1).bind (wQ k)
  | _=>.bad
 | _=>.bad
theorem zW {o:Expr}{go ge:GE}{apos cpos:Pos}(ho:PE X o (tE X go))(he:PE X e (tE X ge))
  (hbase:attributeBase o "append" X.env (eval o X.env)=eval o X.env:=by rfl)
  (hfew:((backTo cpos (starEach [e] X.env)).all (fun x=>!x.1)&&(backToKw cpos (keywordEach [] X.env)).all (fun x=>x.1.isSome)
   && decide ([e].length+([]:List Keyword).length+(if([]:List Keyword).isEmpty then 0 else 1)<30))=true:=by rfl)
  (hline:(apos.endLine==cpos.line)=true:=by rfl) (hs:starEach [e] X.env=(false,eval e X.env)::starEach [] X.env:=by rfl) (hplain:(backTo cpos (starEach [] X.env)).any (·.1)=false:=by rfl) :
  PE X (.Call (.Attribute o "append" apos) [e] [] cpos) (tE X (lQ go ge)):=
 (La PySem.F.plainAttrs_list PySem.F.slot_list_append PySem.F.type_list_append AE ho (lP he qR hs) hbase hfew hline hs hplain).of fun σ H Q ⟨ρ,θ,M,hd,hw,h⟩=>by
  refine bI hd hw (aP X θ H Q) (fun c M' h=>h) (fun h=>h) h fun d M1 v θ1 H1 g1 r1 h1=>?_
  have h2:=aP.go g1 h1
  cases d with
  | mr k=>
   have h2:aP X θ1 H1 Q (match M1[k]? with|some (.lst _)=>(ge ρ M1).bind (wQ k)|_=>.bad):=h2
   cases qm1:M1[k]? with
   | none=>rw[qm1] at h2;exact h2.elim
   | some m1=>
    cases m1 with
    | obj _ _=>rw[qm1] at h2;exact h2.elim
    | dK _=>rw[qm1] at h2;exact h2.elim
    | dT _=>rw[qm1] at h2;exact h2.elim
    | lst ys1=>
     rw[qm1] at h2
     obtain⟨a1,ea1,ta1⟩:=id r1
     obtain⟨vs1,hv1,_⟩:=g1.wr.at_ k a1 _ ta1 qm1
     refine⟨by rw[ea1];exact .inl ⟨rfl,vs1,.inl (.inl hv1)⟩,?_⟩
     refine bI (hd.go g1) g1.wr (aP X θ1 H1 Q) (fun c M' h=>h) (fun h=>h) h2 fun dx M2 vx θ2 H2 g2 r2 h3=>?_
     have h3:aP X θ1 H1 Q (match M2[k]? with|some (.lst xs)=>if xs.length<sizeLine then .ok .non (M2.set k (.lst (xs++[dx]))) else .bad|_=>.bad):=h3
     obtain⟨a,ea,ta⟩:=r1.go g2
     cases qm:M2[k]? with
     | none=>rw[qm] at h3;exact h3.elim
     | some m=>
      cases m with
      | obj _ _=>rw[qm] at h3;exact h3.elim
      | dK _=>rw[qm] at h3;exact h3.elim
      | dT _=>rw[qm] at h3;exact h3.elim
      | lst ys=>
       rw[qm] at h3
       obtain⟨vs,hv,ra⟩:=g2.wr.at_ k a _ ta qm
       have h3:aP X θ1 H1 Q (if ys.length<sizeLine then .ok .non (M2.set k (.lst (ys++[dx]))) else .bad):=h3
       split at h3
       ·rename_i hl
        have gs:=yx (ds:=ys) g2.wr ta (dW ra (show bn X.K θ2 H2 [dx] [vx] from⟨vx,[],rfl,r2,rfl⟩))
        exact⟨a,vs,vx,ea,rfl,hv,by rw[←ay ra];exact hl,h3 _ θ2 _ (g2.trans gs) rfl⟩
       ·exact h3.elim
  | _=>exact h2.elim
end
def bC (f:D→Option D):List D→Option (List D)
 | []=>some []
 | d::ds=>match f d,bC f ds with
  | some x,some xs=>some (x::xs)
  | _,_=>none
def frz (n:Nat)(M:aB):Nat→D→Option D
 | 0,_=>none
 | f+1,d=>match d with
  | .mr k=>if k<n then some (.mr k) else match M[k]? with
   | some (.lst xs)=>(bC (frz n M f) xs).map .lst
   | _=>none
  | .tup xs=>(bC (frz n M f) xs).map .tup
  | .lst xs=>(bC (frz n M f) xs).map .lst
  | .ro xs=>(bC (frz n M f) xs).map .ro
  | d=>some d
def vJ (f:D→Option D):List (Str×D)→Option (List (Str×D))
 | []=>some []
 | (x,d)::r=>match f d,vJ f r with
  | some e,some r'=>some ((x,e)::r')
  | _,_=>none
def rq {κ:Type}(f:D→Option D):List (κ×D)→Option (List (κ×D))
 | []=>some []
 | (x,d)::r=>match f d,rq f r with
  | some e,some r'=>some ((x,e)::r')
  | _,_=>none
def hX (n:Nat)(M:aB):List MO→Option (List MO)
 | []=>some []
 | .lst xs::r=>match bC (frz n M 30) xs,hX n M r with
  | some ys,some r'=>some (.lst ys::r')
  | _,_=>none
 | .obj c fs::r=>match vJ (frz n M 30) fs,hX n M r with
  | some gs,some r'=>some (.obj c gs::r')
  | _,_=>none
 | .dK fs::r=>match rq (frz n M 30) fs,hX n M r with
  | some gs,some r'=>some (.dK gs::r')
  | _,_=>none
 | .dT fs::r=>match rq (frz n M 30) fs,hX n M r with
  | some gs,some r'=>some (.dT gs::r')
  | _,_=>none
def vK (n:Nat)(o:bg D):bg D:=match o with
 | .ok d M=>if M.length=n then .ok d M else match frz n M 30 d,hX n M (M.take n) with
  | some d',some M'=>.ok d' M'
  | _,_=>.bad
 | .err c M=>if M.length=n then .err c M else match hX n M (M.take n) with
  | some M'=>.err c M'
  | none=>.bad
 | .bad=>.bad
section
variable {K:W.Frag}{θ more:List Addr}{H:Hp}{M:aB}{n:Nat}
theorem iq {f:D→Option D}{θ':List Addr}:∀{ds es:List D} {vs:List V},bC f ds=some es→bn K θ' H ds vs→(∀d∈ds,∀e v,f d=some e→dX K θ' H d v→dX K θ H e v)→bn K θ H es vs
 | [],es,vs,h,r,k=>by cases h;exact r
 | d::ds,es,vs,h,r,k=>by
  obtain⟨v,rr,e,h1,h2⟩:=r
  unfold bC at h
  cases q1:f d with
  | none=>rw[q1] at h;cases h
  | some x=>
   cases q2:bC f ds with
   | none=>rw[q1,q2] at h;cases h
   | some xs=>
    rw[q1,q2] at h
    cases h
    exact⟨v,rr,e,k d List.mem_cons_self x v q1 h1,iq q2 h2 fun d' hd=>k d' (List.mem_cons_of_mem _ hd)⟩
theorem nT (hw:Wr K (θ++more) H M)(hn:θ.length=n):∀(f:Nat) (d e:D) (v:V),frz n M f d=some e→dX K (θ++more) H d v→dX K θ H e v
 | 0,d,e,v,h,r=>by cases h
 | f+1,d,e,v,h,r=>by
  have ih:=nT hw hn f
  have sub:∀{a:Addr},a∉θ++more→a∉θ:=fun {a} z y=>z (List.mem_append_left _ y)
  cases d with
  | mr k=>
   obtain⟨a,ea,ta⟩:=r
   by_cases hk:k<n
   ·have h:(if k<n then some (D.mr k) else _)=some e:=h
    rw[if_pos hk] at h
    cases h
    exact⟨a,ea,by rw[List.getElem?_append_left (by rw[hn];exact hk)] at ta;exact ta⟩
   ·have h:(if k<n then some (D.mr k) else match M[k]? with|some (.lst xs)=>(bC (frz n M f) xs).map .lst|_=>none)=some e:=h
    rw[if_neg hk] at h
    cases qm:M[k]? with
    | none=>rw[qm] at h;cases h
    | some m=>
     cases m with
     | lst xs=>
      rw[qm] at h
      have h:(bC (frz n M f) xs).map D.lst=some e:=h
      obtain⟨vs,hv,ra⟩:=hw.at_ k a _ ta qm
      cases qo:bC (frz n M f) xs with
      | none=>rw[qo] at h;cases h
      | some ys=>
       rw[qo] at h
       cases h
       refine⟨a,vs,ea,⟨hv,fun z=>?_⟩,iq qo ra fun d _ e v=>ih d e v⟩
       rw[List.getElem?_append_right (by omega)] at ta
       have hm:=List.mem_of_getElem? ta
       exact(List.nodup_append.mp hw.nd).2.2 a z a hm rfl
     | _=>rw[qm] at h;cases h
  | tup xs=>
   have h:(bC (frz n M f) xs).map D.tup=some e:=h
   cases qo:bC (frz n M f) xs with
   | none=>rw[qo] at h;cases h
   | some ys=>
    rw[qo] at h;cases h
    obtain⟨a,vs,ea,ta,ra⟩:=r
    exact⟨a,vs,ea,⟨ta.1,sub ta.2⟩,iq qo ra fun d _ e v=>ih d e v⟩
  | lst xs=>
   have h:(bC (frz n M f) xs).map D.lst=some e:=h
   cases qo:bC (frz n M f) xs with
   | none=>rw[qo] at h;cases h
   | some ys=>
    rw[qo] at h;cases h
    obtain⟨a,vs,ea,ta,ra⟩:=r
    exact⟨a,vs,ea,⟨ta.1,sub ta.2⟩,iq qo ra fun d _ e v=>ih d e v⟩
  | ro xs=>
   have h:(bC (frz n M f) xs).map D.ro=some e:=h
   cases qo:bC (frz n M f) xs with
   | none=>rw[qo] at h;cases h
   | some ys=>
    rw[qo] at h;cases h
    obtain⟨a,vs,ea,ta,ra⟩:=r
    refine⟨a,vs,ea,?_,iq qo ra fun d _ e v=>ih d e v⟩
    rcases ta with⟨t1,t2⟩|t
    ·exact .inl ⟨t1,sub t2⟩
    ·exact .inr t
  | non=>cases h;exact r
  | bl b=>cases h;exact r
  | int b=>cases h;exact r
  | str b=>cases h;exact r
  | exc c=>
   cases h
   obtain⟨a,C,ea,kc,t1,t2⟩:=r
   exact⟨a,C,ea,kc,t1,sub t2⟩
  | any=>cases h;exact r
theorem zb {f:D→Option D}{θ':List Addr}:∀{fs gs:List (Str×D)} {vs:List (Str×V)},vJ f fs=some gs→nG K θ' H fs vs→(∀d e v,f d=some e→dX K θ' H d v→dX K θ H e v)→nG K θ H gs vs
 | [],gs,vs,h,r,k=>by cases h;exact r
 | (x,d)::fs,gs,vs,h,r,k=>by
  obtain⟨v,rr,e,h1,h2⟩:=r
  unfold vJ at h
  cases q1:f d with
  | none=>rw[q1] at h;cases h
  | some y=>
   cases q2:vJ f fs with
   | none=>rw[q1,q2] at h;cases h
   | some ys=>
    rw[q1,q2] at h
    cases h
    exact⟨v,rr,e,k d y v q1 h1,zb q2 h2 k⟩
theorem uO {κ:Type}{f:D→Option D}{θ':List Addr}:∀{fs gs:List (κ×D)} {vs:List (κ×V)},rq f fs=some gs→pN K θ' H fs vs→(∀d e v,f d=some e→dX K θ' H d v→dX K θ H e v)→pN K θ H gs vs
 | [],gs,vs,h,r,k=>by cases h;exact r
 | (x,d)::fs,gs,vs,h,r,k=>by
  obtain⟨v,rr,e,h1,h2⟩:=r
  unfold rq at h
  cases q1:f d with
  | none=>rw[q1] at h;cases h
  | some y=>
   cases q2:rq f fs with
   | none=>rw[q1,q2] at h;cases h
   | some ys=>
    rw[q1,q2] at h
    cases h
    exact⟨v,rr,e,k d y v q1 h1,uO q2 h2 k⟩
theorem nH (hw:Wr K (θ++more) H M)(hn:θ.length=n):∀(l l':List MO),hX n M l=some l'→l'.length=l.length∧∀(i:Nat) m m' a,l[i]?=some m→l'[i]?=some m'→rY K (θ++more) H m a→rY K θ H m' a
 | [],l',h=>by cases h;exact⟨rfl,fun i m m' a e=>by simp at e⟩
 | .lst xs::r,l',h=>by
  unfold hX at h
  cases q1:bC (frz n M 30) xs with
  | none=>rw[q1] at h;cases h
  | some ys=>
   cases q2:hX n M r with
   | none=>rw[q1,q2] at h;cases h
   | some r'=>
    rw[q1,q2] at h
    cases h
    obtain⟨hl,hr⟩:=nH hw hn r r' q2
    refine⟨by rw[List.length_cons,List.length_cons,hl],fun i m m' a e1 e2 ok=>?_⟩
    cases i with
    | zero=>
     have e1:some (MO.lst xs)=some m:=e1
     have e2:some (MO.lst ys)=some m':=e2
     cases e1;cases e2
     obtain⟨vs,hv,ra⟩:=ok
     exact⟨vs,hv,iq q1 ra fun d _ e v=>nT hw hn 30 d e v⟩
    | succ i=>exact hr i m m' a e1 e2 ok
 | .obj c fs::r,l',h=>by
  unfold hX at h
  cases q1:vJ (frz n M 30) fs with
  | none=>rw[q1] at h;cases h
  | some gs=>
   cases q2:hX n M r with
   | none=>rw[q1,q2] at h;cases h
   | some r'=>
    rw[q1,q2] at h
    cases h
    obtain⟨hl,hr⟩:=nH hw hn r r' q2
    refine⟨by rw[List.length_cons,List.length_cons,hl],fun i m m' a e1 e2 ok=>?_⟩
    cases i with
    | zero=>
     have e1:some (MO.obj c fs)=some m:=e1
     have e2:some (MO.obj c gs)=some m':=e2
     cases e1;cases e2
     obtain⟨C,dx,vs,kC,hv,ra⟩:=ok
     exact⟨C,dx,vs,kC,hv,zb q1 ra fun d e v=>nT hw hn 30 d e v⟩
    | succ i=>exact hr i m m' a e1 e2 ok
 | .dK fs::r,l',h=>by
  unfold hX at h
  cases q1:rq (frz n M 30) fs with
  | none=>rw[q1] at h;cases h
  | some gs=>
   cases q2:hX n M r with
   | none=>rw[q1,q2] at h;cases h
   | some r'=>
    rw[q1,q2] at h
    cases h
    obtain⟨hl,hr⟩:=nH hw hn r r' q2
    refine⟨by rw[List.length_cons,List.length_cons,hl],fun i m m' a e1 e2 ok=>?_⟩
    cases i with
    | zero=>
     have e1:some (MO.dK fs)=some m:=e1
     have e2:some (MO.dK gs)=some m':=e2
     cases e1;cases e2
     obtain⟨vs,hv,ra⟩:=ok
     exact⟨vs,hv,uO q1 ra fun d e v=>nT hw hn 30 d e v⟩
    | succ i=>exact hr i m m' a e1 e2 ok
 | .dT fs::r,l',h=>by
  unfold hX at h
  cases q1:rq (frz n M 30) fs with
  | none=>rw[q1] at h;cases h
  | some gs=>
   cases q2:hX n M r with
   | none=>rw[q1,q2] at h;cases h
   | some r'=>
    rw[q1,q2] at h
    cases h
    obtain⟨hl,hr⟩:=nH hw hn r r' q2
    refine⟨by rw[List.length_cons,List.length_cons,hl],fun i m m' a e1 e2 ok=>?_⟩
    cases i with
    | zero=>
     have e1:some (MO.dT fs)=some m:=e1
     have e2:some (MO.dT gs)=some m':=e2
     cases e1;cases e2
     obtain⟨vs,hv,ra⟩:=ok
     exact⟨vs,hv,uO q1 ra fun d e v=>nT hw hn 30 d e v⟩
    | succ i=>exact hr i m m' a e1 e2 ok
theorem Ck {θ0:List Addr}{H0:Hp}{θ':List Addr}{H':Hp}{M' M2:aB}{n:Nat}(hn:θ0.length=n)(g:Go K θ0 H0 θ' H' M')(h:hX n M' (M'.take n)=some M2):Go K θ0 H0 θ0 H' M2:=by
 obtain⟨m,em,hm⟩:=g.ext
 have hw:=g.wr
 rw[em] at hw
 obtain⟨hl,hr⟩:=nH hw hn _ _ h
 have hlen:n≤M'.length:=by rw[←g.wr.len,em,List.length_append];omega
 refine⟨⟨⟨[],by simp,fun _ z=>by cases z⟩,g.keep,g.tkeep⟩,by rw[hl,List.length_take];omega,(List.nodup_append.mp hw.nd).1,fun i a mo e1 e2=>?_,g.wr.tb⟩
 have hi:i<n:=by rw[←hn];exact(List.getElem?_eq_some_iff.mp e1).1
 have hiM:i<M'.length:=by omega
 refine hr i M'[i] mo a (by rw[List.getElem?_take_of_lt hi];exact List.getElem?_eq_getElem hiM) e2 (hw.at_ i a _ ?_ (List.getElem?_eq_getElem hiM))
 rw[List.getElem?_append_left (by rw[hn];exact hi)]
 exact e1
end
theorem G4 {k:Nat}{CX:AU}(h:dE P w K mg base CX k f fd ps (mY K n F)) :
  dE P w K mg base CX k f fd ps (mY K n fun ds M=>vK M.length (F ds M)):=h.imp fun vs H Q E ⟨θ,M,ds,hl,r,hw,q⟩=>by
 refine⟨θ,M,ds,hl,r,hw,?_⟩
 have q:yO K θ H Q E (vK M.length (F ds M)):=q
 cases e:F ds M with
 | bad=>rw[e] at q;exact q
 | err c M1=>
  rw[e] at q
  have q:yO K θ H Q E (if M1.length=M.length then .err c M1 else match hX M.length M1 (M1.take M.length) with|some M'=>.err c M'|none=>.bad):=q
  split at q
  ·exact q
  ·split at q
   ·rename_i M2 e2
    exact fun C θ' H' a kC g=>q C θ H' a kC (Ck hw.len g e2)
   ·exact q.elim
 | ok d M1=>
  rw[e] at q
  have q:yO K θ H Q E (if M1.length=M.length then .ok d M1 else match frz M.length M1 30 d,hX M.length M1 (M1.take M.length) with|some d',some M'=>.ok d' M'|_,_=>.bad):=q
  split at q
  ·exact q
  ·split at q
   ·rename_i d' M2 e1 e2
    intro v θ' H' g rd
    refine q v θ H' (Ck hw.len g e2) ?_
    obtain⟨m,em,_⟩:=g.ext
    have hw':=g.wr
    rw[em] at hw' rd
    exact nT hw' hw.len 30 d d' v e1 rd
   ·exact q.elim
structure Fn (K:W.Frag)(mg:Str→Option Value)(x:Str)(st:Stmt)(f:Addr)(fd:FuncData)(ps:List Str):Prop where
 F:FN K x x st f fd
 m:mg x=some (.ref f)
 b:eG K fd ps []
section
variable {X:Cx}
theorem vv (i:Nat){pos:Pos}(hN:X.N[i]?=some x:=by rfl)(hv:Lk X.env.scope x:=by first|exact Or.inl rfl|exact Or.inr (Or.inl rfl)|exact Or.inr (Or.inr rfl))(hd:(x==("__debug__":Str))=false:=by decide)
  (hcd:(x==("__classdict__":Str))=false:=by decide):PE X (.Name x pos) (tE X (ae i)):=JF (GF hN hv hd hcd)
theorem ss (i:Nat){pos pos':Pos}(hN:X.N.Nodup)(he:PE X e (tE X g))(hi:X.N[i]?=some x:=by rfl)(hx:Bq X.env.scope x:=by first|exact Or.inl rfl|exact Or.inr rfl)
  (hs:swapsWith e (some (.Name x pos')) pos.line X.env=pure false:=by rfl) (hf:X.fn x=true∨X.env.scope.names.lookup x=some .local:=by first|exact .inl rfl|exact .inr rfl) :
  PS X (.Assign [.Name x pos'] e pos) (tS X (aU i g)):=Hq hN hi hx he hs hf
theorem gg (i:Nat){pos:Pos}(hN:X.N.Nodup)(hi:X.N[i]?=some x:=by rfl)(hx:Bq X.env.scope x:=by first|exact Or.inl rfl|exact Or.inr rfl)(hf:X.fn x=true∨X.env.scope.names.lookup x=some .local:=by first|exact .inl rfl|exact .inr rfl):PG X (.Name x pos) (tG X (gn i)):=ua hN hi hx hf
end
theorem IA {ns:List Int}(tb:ma K H)(hS:mV K H a (ns.map V.int))(h:∃M',F [.ro (ns.map D.int)] []=.ok (.bl true) M'):mY K 1 F [.ref a] H (fun v _=>v=.bl true) E:=by
 obtain⟨M',e⟩:=h
 refine⟨[],[],[.ro (ns.map D.int)],rfl,⟨_,[],rfl,⟨a,ns.map V.int,rfl,?_,?_⟩,rfl⟩,⟨rfl,List.nodup_nil,fun i a m e=>by simp at e,tb⟩,?_⟩
 ·rcases hS with h|h
  ·exact .inl ⟨h,by simp⟩
  ·exact .inr h
 ·clear e
  induction ns with
  | nil=>exact rfl
  | cons n ns ih=>
   refine⟨.int n,ns.map V.int,rfl,rfl,?_⟩
   have gen:∀l:List Int,bn K [] H (l.map D.int) (l.map V.int):=by
    intro l
    induction l with
    | nil=>exact rfl
    | cons m l ih=>exact⟨_,_,rfl,rfl,ih⟩
   exact gen ns
 ·rw[e]
  exact fun v θ' H' g r=>r
def fe (t:GT)(b:GS):Nat→cn→aB→bg Fl
 | 0,_,_=>.bad
 | n+1,ρ,M=>(t ρ M).bind fun c M1=>if c then(b ρ M1).bind fun f M2=>match f with
   | .nx ρ2=>fe t b n ρ2 M2
   | .ct ρ2=>fe t b n ρ2 M2
   | .bk ρ2=>.ok (.nx ρ2) M2
   | .rt d=>.ok (.rt d) M2
  else .ok (.nx ρ) M1
def tZ (n:Nat)(t:GT)(b:GS):GS:=fe t b n
theorem B6 {X:Cx}{tc:GT}{gb:GS}(hp:PassesOwn (model X.prog X.w) X.A X.env X.xe)(hc:PT X c (tT X tc))(hb:PSs X body (tS X gb)):PS X (.While c body [] pos) (tS X (tZ n tc gb)):=
 (CS hp hc hb).of fun D σ H ⟨ρ,θ,M,hd,hw,h⟩=>by
  refine⟨fun m σ' H'=>∃ρ' θ' M',kK X.K θ' H' σ' ρ'∧Wr X.K θ' H' M'∧cL X θ' H' D (fe tc gb m ρ' M'),⟨n,ρ,θ,M,hd,hw,h⟩,?_⟩
  rintro m σ' H' ⟨ρ',θ',M',hd',hw',h'⟩
  cases m with
  | zero=>exact h'.elim
  | succ m=>
   have h':cL X θ' H' D ((tc ρ' M').bind _):=h'
   refine tz hd' hw' (cL X θ' H' D) (fun c M' h=>h) (fun h=>h) h' fun c M1 θ1 H1 g1 h1=>?_
   cases c with
   | false=>
    rw[if_neg Bool.false_ne_true]
    exact h1 σ' θ1 H1 g1 (hd'.go g1)
   | true=>
    rw[if_pos rfl]
    refine⟨fun σ2 H2=>∃ρ2 θ2 M2,kK X.K θ2 H2 σ2 ρ2∧Wr X.K θ2 H2 M2∧cL X θ2 H2 D (fe tc gb m ρ2 M2),fun σ2 H2 q=>⟨m,Nat.lt_succ_self _,q⟩,ρ',θ1,M1,hd'.go g1,g1.wr,?_⟩
    have h2:=cL.go g1 h1
    have h2:cL X θ1 H1 D ((gb ρ' M1).bind _):=h2
    cases q:gb ρ' M1 with
    | bad=>rw[q] at h2;exact h2
    | err c M2=>rw[q] at h2;exact h2
    | ok f M2=>
     rw[q] at h2
     cases f with
     | nx ρ2=>exact fun σ2 θ2 H2 g2 d2=>⟨ρ2,θ2,M2,d2,g2.wr,cL.go g2 h2⟩
     | ct ρ2=>exact fun σ2 θ2 H2 g2 d2=>⟨ρ2,θ2,M2,d2,g2.wr,cL.go g2 h2⟩
     | bk ρ2=>exact h2
     | rt d=>exact h2
def bu:Expr→Bool
 | .Starred _ _=>false
 | _=>true
def cC (es:List Expr):Bool:=es.all bu
theorem sE {env:Env}(h:bu e=true):starEach (e::es) env=(false,eval e env)::starEach es env:=by
 cases e <;> first|rfl|(simp[bu] at h)
theorem sS {pos:Pos}{env:Env}:∀{es:List Expr},cC es=true→(backTo pos (starEach es env)).any (·.1)=false
 | [],_=>rfl
 | e::es,h=>by
  unfold cC at h
  rw[List.all_cons,Bool.and_eq_true] at h
  have ih:=sS (pos:=pos) (env:=env) (es:=es) h.2
  rw[sE h.1]
  unfold backTo at ih ⊢
  rw[List.map_cons,List.any_cons,ih]
  rfl
section
variable {X:Cx}{e:Expr}{es:List Expr}{x:Str}{p pos:Pos}{k n:Nat}{f:Addr}{fd:FuncData}{ps:List Str}{F:FD}{ga:GA}{g:GE}{tg:Expr}
theorem MS {gr:GA}(ha:PE X e (tE X g))(hr:PA X es (tA X gr))(h:bu e=true:=by rfl):PA X (e::es) (tA X (aa g gr)):=D5 ha hr (sE h)
theorem L3 (Fn:dE X.prog X.w X.K X.mg X.base (gU X.prog X.w) k f fd ps (mY X.K n F))(hr:bv k X.A)(hg:Gl X x)(hm:X.mg x=some (.ref f))(hk:W.keepIn X.K (.ref f)=true)(hb:eG X.K fd ps [])
  (ha:PA X (e::es) (tA X ga)) (hdb:(x==("__debug__":Str))=false:=by decide) (h1:bu e=true:=by rfl) (h2:cC es=true:=by rfl) :
  PE X (.Call (.Name x p) (e::es) [] pos) (tE X (aq n F ga)):=Fw Fn hr hg hm hk hb ha hdb (sE h1) (sS h2)
theorem LJ {id:String}(hc:dh X (.builtin id) (rC X F))(hg:Gl X x)(hm:X.mg x=none)(hv:bootBuiltins x=some (.builtin id))(ha:PA X (e::es) (tA X ga))(hn:x≠"__name__":=by decide)(hdb:(x==("__debug__":Str))=false:=by decide)
  (h1:bu e=true:=by rfl) (h2:cC es=true:=by rfl):PE X (.Call (.Name x p) (e::es) [] pos) (tE X (aI F ga)):=CN hc hg hm hv ha hn hdb (sE h1) (sS h2)
theorem Ki (hc:dh X (.type T) (rC X F))(hg:Gl X x)(hm:X.mg x=none)(hv:bootBuiltins x=some (.type T))(ha:PA X (e::es) (tA X ga))(hn:x≠"__name__":=by decide)(hdb:(x==("__debug__":Str))=false:=by decide)
  (h1:bu e=true:=by rfl) (h2:cC es=true:=by rfl):PE X (.Call (.Name x p) (e::es) [] pos) (tE X (aI F ga)):=Au hc hg hm hv ha hn hdb (sE h1) (sS h2)
theorem Kt {p2:Pos}(hT:m5 T)(hv:bootBuiltins x=some (.type T))(hg:Gl X x)(hm:X.mg x=none)(hgi:Gl X "isinstance")(hmi:X.mg "isinstance"=none)(he:PE X e (tE X g))
  (h1:bu e=true:=by rfl) (hn:x≠"__name__":=by decide) (hd:(x==("__debug__":Str))=false:=by decide):PE X (.Call (.Name "isinstance" p) [e,.Name x p2] [] pos) (tE X (jj T g)):=
 He hT hv hg hm hgi hmi he hn hd boot_isinstance (sE h1) (sE rfl) (sS rfl)
theorem LC {a:Expr}(hg:Gl X "range")(hm:X.mg "range"=none)(ha:PA X [a] (tA X ga))(h1:bu a=true:=by rfl):PI X tg (.Call (.Name "range" p) [a] [] pos) (tI X (fQ ga)):=Aw hg hm ha (sE h1)
end
end DL
namespace DL
open PySem L2
theorem ku {j:Int}(h:-(2 ^ 62)≤j∧j<2 ^ 62)(M:aB):Dr [.int j] M=.ok ⟨bj 0 j.toNat,none⟩ M:=by
 unfold Dr;exact if_pos h
variable{n:Nat}
theorem Df (h:n≤1000000)(M:aB):Dr [.int (n:Int)] M=.ok ⟨bj 0 n,none⟩ M:=by
 have:=ku (j:=(n:Int)) (by omega) M
 rw[this];rfl
variable{ds:List D}
theorem ow {M:aB}:sv.ok ⟨ds,none⟩ M=true:=rfl
theorem iy {ds0:List D}{ge:GE}{ρ:cn}{P:aB→Prop}{Q:D→Prop}:∀(ds:List D),(∀d∈ds,∀M,P M→∃e M',P M'∧Q e∧ge (some d::ρ) M=.ok e M')→∀M,P M→
  ∃es M',P M'∧es.length=ds.length∧(∀e∈es,Q e)∧dH ⟨ds0,none⟩ bL ge ds ρ M=.ok es M'
 | [],h,M,hM=>⟨[],M,hM,rfl,(fun e he=>by cases he),rfl⟩
 | d::ds,h,M,hM=>by
  obtain⟨e,M1,h1,q1,e1⟩:=h d List.mem_cons_self M hM
  obtain⟨es,M2,h2,l2,q2,e2⟩:=iy (ds0:=ds0) ds (fun d' hd=>h d' (List.mem_cons_of_mem _ hd)) M1 h1
  refine⟨e::es,M2,h2,by simp[l2],fun x hx=>?_,?_⟩
  ·rcases List.mem_cons.mp hx with z|z
   ·subst z;exact q1
   ·exact q2 x z
  ·simp[dH,ow,bL,e1,e2]
theorem jy {ds0:List D}{ge:GE}{ρ:cn}{f:D→D}{M:aB}:∀(ds:List D),(∀d∈ds,ge (some d::ρ) M=.ok (f d) M)→dH ⟨ds0,none⟩ bL ge ds ρ M=.ok (ds.map f) M
 | [],h=>rfl
 | d::ds,h=>by
  have e1:=h d List.mem_cons_self
  have e2:=jy (ds0:=ds0) ds fun d' hd=>h d' (List.mem_cons_of_mem _ hd)
  simp[dH,ow,bL,e1,e2]
theorem qV {d:D}{lo:Int}(h:d∈bj lo n):∃k:Int,d=.int k∧lo≤k∧k<lo+n:=by
 unfold bj at h
 obtain⟨k,hk,e⟩:=List.mem_map.mp h
 have:=List.mem_range.mp hk
 exact⟨lo+k,e.symm,by omega,by omega⟩
theorem bB (lo:Int)(n:Nat):(bj lo n).length=n:=by simp[bj]
theorem FT {Q:Int→Prop}(h:∀d∈ds,∃k,d=.int k∧Q k):∃ks:List Int,ds=ks.map D.int∧∀k∈ks,Q k:=by
 induction ds with
 | nil=>exact⟨[],rfl,fun k hk=>by cases hk⟩
 | cons d ds ih=>
  obtain⟨k,e,q⟩:=h d List.mem_cons_self
  obtain⟨ks,e2,q2⟩:=ih fun d' hd=>h d' (List.mem_cons_of_mem _ hd)
  refine⟨k::ks,by rw[e,e2];rfl,fun x hx=>?_⟩
  rcases List.mem_cons.mp hx with z|z
  ·subst z;exact q
  ·exact q2 x z
theorem FG {Q:List Int→Prop}(h:∀d∈ds,∃ks:List Int,d=.tup (ks.map D.int)∧Q ks):∃rs:List (List Int),ds=rs.map (fun r=>D.tup (r.map D.int))∧∀r∈rs,Q r:=by
 induction ds with
 | nil=>exact⟨[],rfl,fun k hk=>by cases hk⟩
 | cons d ds ih=>
  obtain⟨k,e,q⟩:=h d List.mem_cons_self
  obtain⟨ks,e2,q2⟩:=ih fun d' hd=>h d' (List.mem_cons_of_mem _ hd)
  refine⟨k::ks,by rw[e,e2];rfl,fun x hx=>?_⟩
  rcases List.mem_cons.mp hx with z|z
  ·subst z;exact q
  ·exact q2 x z
theorem aE (h:n≤1000000):n≤sizeLine:=Nat.le_trans h (by rw[sizeLine_eq];decide)
end DL
namespace DL
@[simp] theorem NJ (i j:Int):gf (.int i) (.int j)=(i==j):=by simp[gf]
@[simp] theorem MY (i j:Bool):gf (.bl i) (.bl j)=(i==j):=by simp[gf]
@[simp] theorem MI (i j:PySem.Str):gf (.str i) (.str j)=(i==j):=by simp[gf]
@[simp] theorem Ng:gf .non .non=true:=by simp[gf]
@[simp] theorem MG (i:Int):gf (.int i) .non=false:=by simp[gf]
@[simp] theorem N4 (i:Int):gf .non (.int i)=false:=by simp[gf]
@[simp] theorem NI (xs ys:List D):gf (.tup xs) (.tup ys)=f6 xs ys:=by simp[gf]
@[simp] theorem N7 (xs ys:List D):gf (.lst xs) (.lst ys)=f6 xs ys:=by simp[gf]
@[simp] theorem Lu:f6 [] []=true:=by simp[f6]
@[simp] theorem Mp (y:D) (ys:List D):f6 [] (y::ys)=false:=by simp[f6]
@[simp] theorem MD (y:D) (ys:List D):f6 (y::ys) []=false:=by simp[f6]
@[simp] theorem Mu (x y:D) (xs ys:List D):f6 (x::xs) (y::ys)=(gf x y&&f6 xs ys):=by simp[f6]
@[simp] theorem JR (n:Nat) (i:Int):aA n (.int i)=true:=by cases n <;> simp[aA]
@[simp] theorem L6 (n:Nat) (i:Bool):aA n (.bl i)=true:=by cases n <;> simp[aA]
@[simp] theorem JS (n:Nat):aA n .non=true:=by cases n <;> simp[aA]
@[simp] theorem JN (n:Nat) (x:PySem.Str):aA n (.str x)=PySem.PyData.strOk x:=by cases n <;> simp[aA]
@[simp] theorem AS (n:Nat) (xs:List D):aA (n+1) (.tup xs)=bU n xs:=by simp[aA]
@[simp] theorem zN (n:Nat) (xs:List D):aA (n+1) (.lst xs)=bU n xs:=by simp[aA]
@[simp] theorem Gj (xs:List D):aA 40 (.tup xs)=bU 39 xs:=AS 39 xs
@[simp] theorem F5 (xs:List D):aA 40 (.lst xs)=bU 39 xs:=zN 39 xs
@[simp] theorem G8 (n:Nat):bU n []=true:=by cases n <;> simp[bU]
@[simp] theorem Gd (n:Nat) (x:D) (xs:List D):bU n (x::xs)=(aA n x&&bU n xs):=by cases n <;> simp[bU]
@[simp] theorem Mq (i:Int) (M:aB):now (.int i) M=.int i:=rfl
@[simp] theorem N6 (i:Bool) (M:aB):now (.bl i) M=.bl i:=rfl
@[simp] theorem Mn (M:aB):now .non M=.non:=rfl
@[simp] theorem Mo (x:PySem.Str) (M:aB):now (.str x) M=.str x:=rfl
@[simp] theorem Mz (xs:List D) (M:aB):now (.tup xs) M=.tup xs:=rfl
@[simp] theorem ME (xs:List D) (M:aB):now (.lst xs) M=.lst xs:=rfl
end DL
namespace DL
open PySem PySem.Spec PyProof.Rows L2 PySem.W PySem.Builtin PySem.Builtin.ObjectAttr PySem.Builtin.Getset_descriptor
structure Nt (K:Frag)(C:Addr):Prop where
 cl:(clsIn K C).isSome=true
 ca:findIn K (.ref C) "__class__"=some (some (.builtin "object.__class__"))
 sp:specialIn K (.builtin "object.__class__") "__get__"=some (some (.builtin "getset_descriptor.__get__"))
 tk:takesIn K (.builtin "object.__class__")=some true
 ob:mroIn K C (.type "object")=some true
 ga:findIn K (.ref C) "__getattribute__"=some (some (.builtin "BaseException.__getattribute__"))
 gh:findIn K (.ref C) "__getattr__"=some none
 be:mroIn K C (.type "BaseException")=some true
end DL
namespace DL
open PySem PySem.Spec PyProof.Rows L2
abbrev K2:List Value:=[.type "ValueError",.type "Exception",.type "BaseException",.type "object"]
structure Ec (K:W.Frag)(mg:Str→Option Value)(c:Str)(C:Addr):Prop where
 at_:iG K c C
 m:mg c=some (.ref C)
 k:Nt K C
 ex:W.excIn K C K2 "ValueError.__new__"=true
 ty:W.typeIn K (.ref C)=some (.type "type")
 sf:W.mroIn K C (.ref C)=some true
theorem Jv {K:W.Frag}{h:Heap}{C:Addr}{bmB:List Value}{newId:String}(X:K.In h)(q:W.excIn K C bmB newId=true) :
  ∃bm N nm qn bs hdct sn sub ab col dd k0 k1 k2 k3 k5 mN,h.get? C=some (excClassObj nm qn C N bs bm hdct sn sub ab col dd k0 k1 k2 k3 k5 newId)∧h.Ns N mN∧mN "__init__"=none∧OwnTail h bmB bm:=by
 unfold W.excIn at q
 split at q
 ·rename_i d1 cd s1 at1
  split at q
  ·rename_i C2 rest j0 j1 j2 j3 nn j5 e1 e2
   simp only[Bool.and_eq_true,beq_iff_eq,Bool.not_eq_true'] at q
   obtain⟨⟨⟨⟨⟨r1,r2⟩,r3⟩,r4⟩,r5⟩,r6⟩:=q
   subst r1;subst r2
   cases cd with
   | mk c1 c2 c3 c4 c5 c6 c7 c8 c9 c10 c11=>
    dsimp only at e1 r3 r5 r6
    subst e1;subst r3
    have e3:s1=#[j0,j1,j2,j3,some (.builtin nn),j5]:=by
     cases s1 with
     | mk l=>
      have e4:l=_:=e2
      rw[e4]
    subst e3
    refine⟨rest,c4,c1,c5,c2,c6,c7,c8,c9,c10,d1,j0,j1,j2,j3,j5,h.nsMap c4,X _ _ at1,?_,W.nsMap_none_of_in X r5 r6,W.tail_of_in X r4⟩
    exact Heap.Ns.of_isNs (W.isNs_of_in X r5)
  ·cases q
 ·cases q
def fo (c:Str)(g:GE):GS:=fun ρ M=>(g ρ M).bind fun _ M1=>.err c M1
theorem Dn {X:Cx}{c:Str}{C:Addr}{e:Expr}{g:GE}{np cpos pos:Pos}(k:Ec X.K X.mg c C)(hc:X.calm=true)(hg:Gl X c)(he:PE X e (tE X g))(h1:bu e=true:=by rfl)(hd:(c==("__debug__":Str))=false:=by decide) :
  PS X (.Raise (some (.Call (.Name c np) [e] [] cpos)) none pos) (tS X (fo c g)):=by
 intro ag s σ H D I h
 obtain⟨ρ,θ,M,hdn,hw,h⟩:=h
 obtain⟨bm,N,nm,qn,bs,hdct,sn,sub,ab,col,dd,k0,k1,k2,k3,k5,mN,hC,hN,hni,T⟩:=Jv I.ok.mod.kin k.ex
 have hs:starEach [e] X.env=(false,eval e X.env)::starEach [] X.env:=sE h1
 have hplain:(backTo cpos (starEach [e] X.env)).any (·.1)=false:=sS (by unfold cC;simp[h1])
 refine wpAny_Raise_call_subT (C:=C) (nm:=nm) (q:=qn) (N:=N) (bs:=bs) (bm:=bm) (hdct:=hdct) (sn:=sn) (sub:=sub) (ab:=ab) (col:=col) (dd:=dd) (k0:=k0) (k1:=k1) (k2:=k2) (k3:=k3) (k5:=k5)
  PySem.F.excBase_ValueError (mN:=mN) (T.hasType PySem.F.excBase_ValueError.hasBase) (I.ok.hd hc) hplain hni (uV I hg k.m ⟨rfl,?_⟩ hd)
 have hv:=lP he qR hs cpos ag s σ H (fun vs H1=>vs.length=1∧∃θ1 M1,Go X.K θ H θ1 H1 M1∧eT X θ1 H1 c M1) I (by
  refine bI hdn hw (cL X θ H D) (fun c M' h=>h) (fun h=>h) h fun d M1 v θ1 H1 g1 r1 h2=>?_
  exact⟨rfl,θ1,M1,g1,eT.go g1 h2⟩)
 rw[hs] at hv ⊢
 refine Calls.evalArgs_plain (wpAny_mono hv (fun us s2 hq=>⟨rfl,?_⟩) fun _ _ y=>y)
 obtain⟨vs,H1,I1,rv,hl,θ1,M1,g1,ok⟩:=hq
 refine⟨by show us.length≤sizeLine;rw[←rv.length,hl];exact Nat.le_trans (by decide:1≤1000000) (by rw[sizeLine_eq];decide),I1.bk _ _ hC,hN.keeps I1.bk,T.keeps I1.bk,fun h' e' hm=>?_⟩
 exact ok C θ1 H1 e' _ k.at_ (.refl g1.wr) ⟨ag,σ,.inl ⟨s2.heap,us,I1,hm⟩⟩
def B3 (i:Nat):Fl→Fl
 | .nx ρ=>.nx (ρ.set i none)
 | .bk ρ=>.bk (ρ.set i none)
 | .ct ρ=>.ct (ρ.set i none)
 | .rt d=>.rt d
variable{es:List Expr}{gs:List GE}
section
variable {X:Cx}
def yD:FD:=fun ds M=>match ds with
 | [.int i,.int j]=>if 0<j∧j.natAbs.log2<9000 then .ok (.tup [.int (i / j),.int (i % j)]) M else .bad
 | _=>.bad
theorem z8:dh X (.builtin "divmod") (rC X yD):=by
 intro ag s σ H xs us Q I r h
 obtain⟨θ,M,ds,hw,rd,h⟩:=h
 unfold yD at h
 split at h
 ·rename_i i j
  obtain⟨v,v',e,r1,r2⟩:=yA rd
  have e1:v=.int i:=r1
  have e2:v'=.int j:=r2
  subst e;subst e1;subst e2
  obtain⟨u,u',rfl,⟨t,rfl⟩,⟨t',rfl⟩⟩:=zd r
  split at h
  ·rename_i hc
   have h1:(0:Int)<j:=hc.1
   refine divmod_int (by omega) ?_ (.inl (PyProof.noPylong_of_log2 hc.2))
   rw[Int.fdiv_eq_ediv_of_nonneg i (by omega),Int.fmod_eq_emod_of_nonneg i (by omega)]
   have hp:H s.heap.objs.size=none:=I.hok.fresh (Nat.le_refl _)
   refine⟨.ref s.heap.objs.size,_,I.laid (t':=s.toks+1+1) (fun b o e=>Heap.get?_push_of_some _ e) (Nat.le_refl _) (show cz X.prog X.w _ _ _ (.tup [.int (i / j),.int (i % j)]) from⟨Nat.le_trans (by decide:2≤1000000) (by rw[sizeLine_eq];decide),[.int (i / j) s.toks,.int (i % j) (s.toks+1)],.cons ⟨_,rfl⟩ (.cons ⟨_,rfl⟩ .nil),IsTup.new _ _⟩),rfl,?_⟩
   exact h _ θ _ (dG hw hp) (hU hw hp (show bn X.K θ H [.int (i / j),.int (i % j)] [.int (i / j),.int (i % j)] from⟨_,_,rfl,rfl,_,_,rfl,rfl,rfl⟩))
  ·exact h.elim
 ·exact h.elim
def yk:D→Option Str
 | .int a=>if a.natAbs.log2<1920 then some (toString a) else none
 | .str x=>if x.length≤sizeLine then some x else none
 | _=>none
def xZ (g:GE):GE:=fun ρ M=>(g ρ M).bind fun d M1=>match yk d with
 | some x=>.ok (.str x) M1
 | none=>.bad
theorem Gx {e:Expr}{g:GE}{pos:Pos}{i:Int}(he:PE X e (tE X g))(hi:i=-1:=by rfl):PE X (.FormattedValue e i none pos) (tE X (xZ g)):=by
 subst hi
 intro ag s σ H Q I h
 obtain⟨ρ,θ,M,hd,hw,h⟩:=h
 refine FormattedValue_plain (wpAny_mono (he ag s σ H (fun v H1=>∃d M1 θ1,Go X.K θ H θ1 H1 M1∧dX X.K θ1 H1 d v∧aP X θ1 H1 Q (match yk d with|some x=>.ok (.str x) M1|none=>.bad)) I ?_) (fun u s1 hq=>?_) fun _ _ y=>y)
 ·exact bI hd hw (aP X θ H Q) (fun c M' h=>h) (fun h=>h) h fun d M1 v θ1 H1 g1 r1 h1=>⟨d,M1,θ1,g1,r1,aP.go g1 h1⟩
 ·obtain⟨v,H1,I1,rv,d,M1,θ1,g1,r1,h1⟩:=hq
  cases d with
  | int a=>
   have e:v=.int a:=r1
   subst e
   obtain⟨t,rfl⟩:=rv
   unfold yk at h1
   by_cases hc:a.natAbs.log2<1920
   ·simp only[if_pos hc] at h1
    exact formatField_int_small hc ⟨.str (toString a),H1,I1.tok _,⟨_,rfl⟩,h1 _ θ1 H1 (.refl g1.wr) rfl⟩
   ·simp only[if_neg hc] at h1
    exact h1.elim
  | str x=>
   have e:v=.str x:=r1
   subst e
   obtain⟨t,rfl⟩:=rv
   unfold yk at h1
   by_cases hc:x.length≤sizeLine
   ·simp only[if_pos hc] at h1
    exact formatField_str (fun t' tk=>⟨.str x,H1,I1.tok _,⟨_,rfl⟩,h1 _ θ1 H1 (.refl g1.wr) rfl⟩) hc
   ·simp only[if_neg hc] at h1
    exact h1.elim
  | _=>exact h1.elim
inductive JQ (X:Cx):List Expr→List GE→Prop where
 | nil:JQ X [] []
 | cons {e:Expr} {es:List Expr} {g:GE} {gs:List GE}:PE X e (tE X g)→JQ X es gs→JQ X (e::es) (g::gs)
def lW:List GE→Str→GE
 | [],acc=>fun _ M=>.ok (.str acc) M
 | g::gs,acc=>fun ρ M=>(g ρ M).bind fun d M1=>match d with
  | .str y=>if(acc++y).length≤sizeLine then lW gs (acc++y) ρ M1 else .bad
  | _=>.bad
theorem FP (h:JQ X es gs):∀(acc:Str) (ag:List (Addr×Obj)) (s:Shared) (σ:L2.St) (H:Hp) (Q:VK),acc.length≤sizeLine→L2.Inv X ag σ H s→tE X (lW gs acc) σ H Q→wpAny (model X.prog X.w) X.A (joinParts acc (evalEach es X.env)) (EP X ag σ Q) X.xe s:=by
 induction h with
 | nil=>
  intro acc ag s σ H Q hl I h
  obtain⟨ρ,θ,M,hd,hw,h⟩:=h
  exact joinParts_nil ⟨.str acc,H,I.tok _,⟨_,rfl⟩,h _ θ H (.refl hw) rfl⟩ hl
 | @cons e es g gs he hes ih=>
  intro acc ag s σ H Q hl I h
  obtain⟨ρ,θ,M,hd,hw,h⟩:=h
  show wpAny _ _ (joinParts acc (eval e X.env::evalEach es X.env)) _ _ _
  refine joinParts_cons (wpAny_mono (he ag s σ H (fun v H1=>∃d M1 θ1,Go X.K θ H θ1 H1 M1∧dX X.K θ1 H1 d v∧aP X θ1 H1 Q (match d with | .str y=>if(acc++y).length≤sizeLine then lW gs (acc++y) ρ M1 else .bad|_=>.bad)) I ?_) (fun u s1 hq=>?_) fun _ _ y=>y)
  ·exact bI hd hw (aP X θ H Q) (fun c M' h=>h) (fun h=>h) h fun d M1 v θ1 H1 g1 r1 h1=>⟨d,M1,θ1,g1,r1,aP.go g1 h1⟩
  ·obtain⟨v,H1,I1,rv,d,M1,θ1,g1,r1,h1⟩:=hq
   cases d with
   | str y=>
    have e:v=.str y:=r1
    subst e
    obtain⟨t,rfl⟩:=rv
    by_cases hc:(acc++y).length≤sizeLine
    ·simp only[if_pos hc] at h1
     exact⟨hc,ih (acc++y) ag s1 σ H1 Q hc I1 ⟨ρ,θ1,M1,hd.go g1,g1.wr,h1⟩⟩
    ·simp only[if_neg hc] at h1
     exact h1.elim
   | _=>exact h1.elim
theorem Fk {e1 e2:Expr}{pos:Pos}(h:JQ X (e1::e2::es) gs):PE X (.JoinedStr (e1::e2::es) pos) (tE X (lW gs Str.empty)):=by
 intro ag s σ H Q I q
 exact JoinedStr_many (FP h Str.empty ag s σ H Q (Nat.zero_le _) I q)
section
variable {o e:Expr}{go ge:GE}{apos cpos:Pos}
theorem Ik {env:Env}(h:bu e=true):((backTo cpos (starEach [e] env)).all (fun x=>!x.1)&&(backToKw cpos (keywordEach [] env)).all (fun x=>x.1.isSome)
   && decide ([e].length+([]:List Keyword).length+(if([]:List Keyword).isEmpty then 0 else 1)<30))=true:=by
 rw[sE h];rfl
end
end
end DL
namespace DL
open PySem L2
theorem L4 {P:Program}{w:World}{H:Hp}{s:Shared}{e:Value}{s':Shared}(z:gU P w [] H s (fun _ _ _=>False) e s'):False:=by
 obtain⟨_,_,_,_,_,_,_,_,_,_,_,_,_,_,h⟩:=z
 exact h
end DL
namespace DL
open PySem PySem.Spec PyProof.Rows L2
variable{fs:List (Str×D)}
section
variable {K:W.Frag}{θ:List Addr}{H:Hp}{M:aB}
def eX (f:Str)(d:D):List (Str×D)→List (Str×D)
 | []=>[(f,d)]
 | (g,x)::r=>if g=f then(g,d)::r else(g,x)::eX f d r
theorem yQ {f:Str}{d:D}:∀{fs:List (Str×D)} {vs:List (Str×V)},nG K θ H fs vs→fs.lookup f=some d→∃v,vs.lookup f=some v∧dX K θ H d v
 | [],vs,h,e=>by cases e
 | (g,x)::fs,vs,h,e=>by
  obtain⟨v,r,rfl,h1,h2⟩:=h
  rw[List.lookup_cons] at e ⊢
  cases q:f==g with
  | true=>rw[q] at e;cases e;exact⟨v,rfl,h1⟩
  | false=>rw[q] at e;exact yQ h2 e
theorem zg {f:Str}:∀{fs:List (Str×D)} {vs:List (Str×V)},nG K θ H fs vs→fs.lookup f=none→vs.lookup f=none
 | [],vs,h,e=>by cases (show vs=[] from h);rfl
 | (g,x)::fs,vs,h,e=>by
  obtain⟨v,r,rfl,h1,h2⟩:=h
  rw[List.lookup_cons] at e ⊢
  cases q:f==g with
  | true=>rw[q] at e;cases e
  | false=>rw[q] at e;exact zg h2 e
theorem xS:∀{fs:List (Str×D)} {vs:List (Str×V)},nG K θ H fs vs→fs.length=vs.length
 | [],vs,h=>by cases (show vs=[] from h);rfl
 | (g,x)::fs,vs,h=>by
  obtain⟨v,r,rfl,h1,h2⟩:=h
  rw[List.length_cons,List.length_cons,xS h2]
theorem Di {f:Str}{d:D}{v:V}(hd:dX K θ H d v):∀{fs:List (Str×D)} {vs:List (Str×V)},nG K θ H fs vs→nG K θ H (eX f d fs) (jA f v vs)
 | [],vs,h=>by cases (show vs=[] from h);exact⟨v,[],rfl,hd,rfl⟩
 | (g,x)::fs,vs,h=>by
  obtain⟨u,r,rfl,h1,h2⟩:=h
  show nG K θ H (if g=f then(g,d)::fs else(g,x)::eX f d fs) (if g=f then(g,v)::r else(g,u)::jA f v r)
  by_cases q:g=f
  ·rw[if_pos q,if_pos q];exact⟨v,r,rfl,hd,h2⟩
  ·rw[if_neg q,if_neg q];exact⟨u,_,rfl,h1,Di hd h2⟩
theorem zn {i:Nat}{a C dx:Addr}{c f:Str}{vs:List (Str×V)}{d:D}{v:V}(w:Wr K θ H M)(hi:θ[i]?=some a)(k:iG K c C)(r:nG K θ H fs vs)(hd:dX K θ H d v) :
  Go K θ H θ (ce H a (.ins C dx (jA f v vs))) (M.set i (.obj c (eX f d fs))):=
 pJ w hi ⟨C,dx,_,k,bF,nQ (m4 w hi) (Di hd r)⟩
theorem Ee {x dx C:Addr}{c:Str}(w:Wr K θ H M)(hx:H x=none)(hdx:H dx=none)(ne:dx≠x)(k:iG K c C):Go K θ H (θ++[x]) (ce (ce H dx (.own x)) x (.ins C dx [])) (M++[.obj c []]):=by
 have np:=w.fresh hx
 have hx':∀b u,H b=some u→b≠x∧b≠dx:=fun b u h=>⟨bD h hx,bD h hdx⟩
 have g:Grow θ H (θ++[x]) (ce (ce H dx (.own x)) x (.ins C dx [])):=⟨⟨[x],rfl,fun a ha=>by rw[List.mem_singleton.mp ha];exact hx⟩,fun b u h _ _=>by rw[aC (hx' b u h).1,aC (hx' b u h).2];exact h,fun b ps h=>⟨ps,by rw[aC (hx' b _ h).1,aC (hx' b _ h).2];exact h⟩⟩
 refine⟨g,by rw[List.length_append,List.length_append,w.len];rfl,?_,fun i a m h1 h2=>?_,(w.tb.new hdx).new (by rw[aC (Ne.symm ne)];exact hx)⟩
 ·rw[List.nodup_append]
  exact⟨w.nd,by simp,fun y hy z hz e=>np (by rw[List.mem_singleton.mp hz] at e;rw[←e];exact hy)⟩
 ·by_cases hi:i<θ.length
  ·rw[List.getElem?_append_left hi] at h1
   rw[List.getElem?_append_left (by rw[←w.len];exact hi)] at h2
   have hm:=List.mem_of_getElem? h1
   have ha:a≠x:=fun e=>np (by rw[←e];exact hm)
   have ha2:a≠dx:=fun e=>w.fresh hdx (by rw[←e];exact hm)
   exact(w.at_ i a m h1 h2).grow g (by rw[aC ha,aC ha2])
  ·have hi':i=θ.length:=by
    have:=(List.getElem?_eq_some_iff.mp h1).1
    rw[List.length_append,List.length_singleton] at this
    omega
   subst hi'
   rw[List.getElem?_append_right (Nat.le_refl _)] at h1
   rw[List.getElem?_append_right (by rw[w.len];exact Nat.le_refl _)] at h2
   simp only[Nat.sub_self,w.len,List.getElem?_cons_zero,Option.some.injEq] at h1 h2
   subst h1;subst h2
   exact⟨C,dx,[],k,bF,rfl⟩
end
structure Kc (K:W.Frag)(mg:Str→Option Value)(c:Str)(C:Addr):Prop where
 at_:iG K c C
 m:mg c=some (.ref C)
 cl:C8 K C
def iF (c:Str)(o:D)(M:aB):Option (Nat×List (Str×D)):=match o with
 | .mr k=>match M[k]? with
  | some (.obj c' fs)=>if c'=c then some (k,fs) else none
  | _=>none
 | _=>none
variable{H:Hp}
theorem qH {K:W.Frag}{θ:List Addr}{M:aB}{c:Str}{C:Addr}{o:D}{v:V}{k:Nat}(hw:Wr K θ H M)(kC:iG K c C)(r:dX K θ H o v)(e:iF c o M=some (k,fs)) :
  ∃a dx vs,v=.ref a∧θ[k]?=some a∧H a=some (.ins C dx vs)∧nG K θ H fs vs∧M[k]?=some (.obj c fs):=by
 cases o with
 | mr j=>
  obtain⟨a,ea,ta⟩:=r
  have e:(match M[j]? with|some (.obj c' fs)=>if c'=c then some (j,fs) else none|_=>none)=some (k,fs):=e
  cases q:M[j]? with
  | none=>rw[q] at e;cases e
  | some m=>
   cases m with
   | lst ys=>rw[q] at e;cases e
   | dK _=>rw[q] at e;cases e
   | dT _=>rw[q] at e;cases e
   | obj c' gs=>
    rw[q] at e
    have e:(if c'=c then some (j,gs) else none)=some (k,fs):=e
    by_cases hc:c'=c
    ·rw[if_pos hc] at e
     cases e
     subst hc
     obtain⟨C',dx,vs,kC',hv,rf⟩:=hw.at_ _ a _ ta q
     have:=kC'.inj kC
     subst this
     exact⟨a,dx,vs,ea,ta,hv,rf,q⟩
    ·rw[if_neg hc] at e;cases e
 | _=>cases e
variable{σ:L2.St}
section
variable {X:Cx}{c f:Str}{C:Addr}{o e value:Expr}{g go gv:GE}{pos pos' apos p:Pos}
def dm (c f:Str)(g:GE):GE:=fun ρ M=>(g ρ M).bind fun o M1=>match iF c o M1 with
 | some (_,fs)=>match fs.lookup f with
  | some d=>.ok d M1
  | none=>.bad
 | none=>.bad
theorem Jl (k:Kc X.K X.mg c C)(n:fM X.K C f)(he:PE X e (tE X g))(hb:attributeBase e f X.env (eval e X.env)=eval e X.env:=by rfl):PE X (.Attribute e f pos) (tE X (dm c f g)):=
 (JD he hb).of fun σ H Q ⟨ρ,θ,M,hd,hw,h⟩=>by
  refine bI hd hw (aP X θ H Q) (fun c M' h=>h) (fun h=>h) h fun d M1 v θ1 H1 g1 r1 h1=>?_
  have h2:=aP.go g1 h1
  cases q:iF c d M1 with
  | none=>simp only[q] at h2;exact h2.elim
  | some p=>
   obtain⟨j,fs⟩:=p
   simp only[q] at h2
   obtain⟨a,dx,vs,ea,ta,hv,rf,_⟩:=qH g1.wr k.at_ r1 q
   cases ql:fs.lookup f with
   | none=>simp only[ql] at h2;exact h2.elim
   | some y=>
    simp only[ql] at h2
    obtain⟨u,eu,ru⟩:=yQ rf ql
    exact⟨a,C,dx,vs,u,ea,hv,k.cl,n,eu,h2 u θ1 H1 (.refl g1.wr) ru⟩
def uR (c f:Str)(o y:D)(M:aB):bg Unit:=match iF c o M with
 | some (k,fs)=>if fs.length<1000 then .ok () (M.set k (.obj c (eX f y fs))) else .bad
 | none=>.bad
def fE (c f:Str)(go gv:GE):GS:=fun ρ M=>(gv ρ M).bind fun y M1=>(go ρ M1).bind fun o M2=>(uR c f o y M2).bind fun _ M3=>.ok (.nx ρ) M3
theorem HX (k:Kc X.K X.mg c C)(n:fM X.K C f)(ho:PE X o (tE X go))(hv:PE X value (tE X gv))(hs:swapsWith value (some (.Attribute o f pos')) pos.line X.env=pure false:=by rfl):PS X (.Assign [.Attribute o f pos'] value pos) (tS X (fE c f go gv)):=
 (HF ho hv hs).of fun D σ H ⟨ρ,θ,M,hd,hw,h⟩=>by
  refine bI hd hw (cL X θ H D) (fun c M' h=>h) (fun h=>h) h fun y M1 vy θ1 H1 g1 r1 h1=>?_
  refine bI (hd.go g1) g1.wr (cL X θ1 H1 D) (fun c M' h=>h) (fun h=>h) (h1.go g1) fun d M2 v θ2 H2 g2 r2 h2=>?_
  have h3:=h2.go g2
  unfold uR at h3
  cases q:iF c d M2 with
  | none=>simp only[q] at h3;exact h3.elim
  | some p=>
   obtain⟨j,fs⟩:=p
   simp only[q] at h3
   by_cases hl:fs.length<1000
   ·simp only[if_pos hl] at h3
    obtain⟨a,dx,vs,ea,ta,hv,rf,_⟩:=qH g2.wr k.at_ r2 q
    have gs:=zn (f:=f) (dx:=dx) g2.wr ta k.at_ rf (r1.go g2)
    exact⟨a,C,dx,vs,ea,hv,k.cl,n,by rw[←xS rf];exact hl,h3 σ θ2 _ gs (((hd.go g1).go g2).go gs)⟩
   ·simp only[if_neg hl] at h3;exact h3.elim
def eU (c m:Str)(n:Nat)(F:FD)(go:GE)(ga:GA):GE:=fun ρ M=>(go ρ M).bind fun o M1=>match iF c o M1 with
 | some (_,fs)=>if fs.lookup m=none then(ga ρ M1).bind fun ds M2=>if ds.length+1=n then F (o::ds) M2 else .bad else .bad
 | none=>.bad
theorem BD {m:Str}{n:Nat}{F:FD}{ga:GA}{Q:VK}(k:Kc X.K X.mg c C)(h:tE X (eU c m n F go ga) σ H Q):Bx C m (mY X.K n F) [] (EH X) (tE X go) (tA X ga) σ H Q:=by
 obtain⟨ρ,θ,M,hd,hw,h⟩:=h
 refine bI hd hw (aP X θ H Q) (fun c M' h=>h) (fun h=>h) h fun d M1 v θ1 H1 g1 r1 h1=>?_
 have h2:=aP.go g1 h1
 cases q:iF c d M1 with
 | none=>simp only[q] at h2;exact h2.elim
 | some p=>
  obtain⟨j,fs⟩:=p
  simp only[q] at h2
  obtain⟨a,dx,vs,ea,ta,hv,rf,_⟩:=qH g1.wr k.at_ r1 q
  by_cases hl:fs.lookup m=none
  ·simp only[if_pos hl] at h2
   refine⟨a,dx,vs,ea,hv,zg rf hl,?_⟩
   refine lC (hd.go g1) g1.wr (aP X θ1 H1 Q) (fun c M' h=>h) (fun h=>h) h2 fun ds M2 us θ2 H2 g2 r2 h3=>?_
   by_cases hn:ds.length+1=n
   ·rw[if_pos hn] at h3
    have h4:=aP.go g2 h3
    refine⟨θ2,M2,d::ds,hn,⟨v,us++[],rfl,r1.go g2,by rw[List.append_nil];exact r2⟩,g2.wr,?_⟩
    cases qf:F (d::ds) M2 with
    | ok d2 M3=>rw[qf] at h4;exact h4
    | err c2 M3=>rw[qf] at h4;exact uH h4
    | bad=>rw[qf] at h4;exact h4
   ·rw[if_neg hn] at h3;exact h3.elim
  ·simp only[if_neg hl] at h2;exact h2.elim
section
variable {m:Str}{k n:Nat}{fa:Addr}{fd:FuncData}{ps:List Str}{F:FD}{ga:GA}{es:List Expr}{pl:Sem Bool}
theorem Im (kc:Kc X.K X.mg c C)(hm:uj X.K C m fa)(Fn:dE X.prog X.w X.K X.mg X.base (gU X.prog X.w) k fa fd ps (mY X.K n F))(hr:bv k X.A)(hb:eG X.K fd ps [])(ho:PE X o (tE X go))(ha:PA X (e::es) (tA X ga))
  (h1:bu e=true:=by rfl) (h2:cC es=true:=by rfl)
  (ht:eval (.Call (.Attribute o m apos) (e::es) [] pos) X.env=(do
   let ov ←eval o X.env
   standAt apos.atName
   let (f,first) ←holding [ov] (getMethod ov m pl)
   callWith pos f first (backTo pos (starEach (e::es) X.env)) (backToKw pos (keywordEach [] X.env))):=by rfl) :
  PE X (.Call (.Attribute o m apos) (e::es) [] pos) (tE X (eU c m n F go ga)):=
 (DK (pl:=pl) ho kc.cl hm Fn hr hb .nil iY ha (sE h1) (sS h2) ht).of fun σ H Q h=>BD kc h
theorem DI (kc:Kc X.K X.mg c C)(hm:uj X.K C m fa)(Fn:dE X.prog X.w X.K X.mg X.base (gU X.prog X.w) k fa fd ps (mY X.K n F))(hr:bv k X.A)(hb:eG X.K fd ps [])(ho:PE X o (tE X go))
  (ht:eval (.Call (.Attribute o m apos) [] [] pos) X.env=(do
   let ov ←eval o X.env
   standAt apos.atName
   let (f,first) ←holding [ov] (getMethod ov m pl)
   callWith pos f first (backTo pos (starEach [] X.env)) (backToKw pos (keywordEach [] X.env))):=by rfl) :
  PE X (.Call (.Attribute o m apos) [] [] pos) (tE X (eU c m n F go ah)):=
 (Ca (pl:=pl) ho kc.cl hm Fn hr hb .nil iY ht).of fun σ H Q h=>by
  obtain⟨ρ,θ,M,hd,hw,h⟩:=BD kc h
  refine⟨ρ,θ,M,hd,hw,?_⟩
  cases q:go ρ M with
  | ok d M1=>
   rw[q] at h
   intro v θ1 H1 g1 r1
   obtain⟨a,dx,fs,e1,e2,e3,h⟩:=h v θ1 H1 g1 r1
   refine⟨a,dx,fs,e1,e2,e3,?_⟩
   obtain⟨ρ',θ',M',hd',hw',h'⟩:=h
   exact h' [] θ' H1 (.refl hw') rfl
  | err c2 M1=>rw[q] at h;exact h
  | bad=>rw[q] at h;exact h
end
def kH (c:Str)(n:Nat)(F:FD)(ga:GA):GE:=fun ρ M=>(ga ρ M).bind fun ds M1=>if ds.length+1=n then(F (.mr M1.length::ds) (M1++[.obj c []])).bind fun d M2=>match d with
  | .non=>.ok (.mr M1.length) M2
  | _=>.bad
 else .bad
theorem Ei {n:Nat}{F:FD}{ga:GA}{Q:VK}(k:iG X.K c C)(h:tE X (kH c n F ga) σ H Q):FY C (mY X.K n F) [] (EH X) (tA X ga) σ H Q:=by
 obtain⟨ρ,θ,M,hd,hw,h⟩:=h
 refine lC hd hw (aP X θ H Q) (fun c M' h=>h) (fun h=>h) h fun ds M1 us θ1 H1 g1 r1 h1=>?_
 intro x dx hx hdx ne
 have h2:=aP.go g1 h1
 by_cases hn:ds.length+1=n
 ·simp only[if_pos hn] at h2
  have gm:=Ee (C:=C) g1.wr hx hdx ne k
  have rx:dX X.K (θ1++[x]) (ce (ce H1 dx (.own x)) x (.ins C dx [])) (.mr M1.length) (.ref x):=pL g1.wr
  refine⟨θ1++[x],M1++[.obj c []],.mr M1.length::ds,hn,⟨.ref x,us++[],rfl,rx,by rw[List.append_nil];exact r1.go gm⟩,gm.wr,?_⟩
  have h3:=aP.go gm h2
  cases qf:F (.mr M1.length::ds) (M1++[.obj c []]) with
  | bad=>rw[qf] at h3;exact h3
  | err c2 M3=>rw[qf] at h3;exact uH h3
  | ok d2 M3=>
   rw[qf] at h3
   intro v θ2 H2 g2 r2
   cases d2 with
   | non=>exact⟨r2,h3 _ θ2 H2 g2 (rx.go g2)⟩
   | _=>exact h3.elim
 ·simp only[if_neg hn] at h2;exact h2.elim
section
variable {x:Str}{k n:Nat}{fa:Addr}{fd:FuncData}{ps:List Str}{F:FD}{ga:GA}{es:List Expr}
theorem DN (kc:Kc X.K X.mg x C)(Mc:Mk X.K C fa)(Fn:dE X.prog X.w X.K X.mg X.base (gU X.prog X.w) k fa fd ps (mY X.K n F))(hr:bv (k+1) X.A)(hg:Gl X x)(hb:eG X.K fd ps [])(ha:PA X (e::es) (tA X ga))
  (hdb:(x==("__debug__":Str))=false:=by decide) (h1:bu e=true:=by rfl) (h2:cC es=true:=by rfl):PE X (.Call (.Name x p) (e::es) [] pos) (tE X (kH x n F ga)):=
 (Fi Mc Fn hr hg kc.m hb .nil iY ha hdb (sE h1) (sS h2)).of fun σ H Q h=>Ei kc.at_ h
end
end
end DL
namespace DL
open PySem PySem.Spec PyProof.Rows L2
variable{a:Addr}{its:Array Value}{Q:Value→Shared→Prop}
section
variable {prog:Program}{w:World}{A:Around}{E:Value→Shared→Prop}{s:Shared}
theorem xT {I:Addr}{k:Nat}{x:Value}(st:s.heap.IsTupleIter I a k)(ta:s.heap.IsTuple a its)(hx:its[k]?=some x)
  (q:∀h',h'.IsTupleIter I a (k+1)→Heap.SameBut I s.heap h'→Q x {s with heap:=h'}):wpAny (model prog w) A (Builtin.SmallTypes.nextOf (.ref I)) Q E s:=by
 obtain⟨u,hu,uc,ud⟩:=id st
 obtain⟨oa,hoa,_,na,da⟩:=ta
 unfold Builtin.SmallTypes.nextOf
 refine wpAny_bind (wpAny_callSpecial?_slot (name:=Str.ofString "__next__") st.typeIs F.slot_tuple_iterator_next (wpAny_call_entry F.slot_tuple_iterator_next st.typeIs F.entry_tuple_iterator_next ?_ (F.args_tuple_iterator_next_1 _)))
 show wpAny _ _ (field (.ref I) 0 >>= _) _ _ s
 refine wpAny_bind (wpAny_field hu ud (x:=.ref a) rfl ?_)
 show wpAny _ _ (if(Value.ref a==Value.none)=true then _ else _) _ _ s
 rw[if_neg (show¬((Value.ref a==Value.none)=true) from Bool.false_ne_true)]
 show wpAny _ _ (field (.ref I) 1 >>= _) _ _ s
 refine wpAny_bind (wpAny_field hu ud (x:=.int k 0) rfl ?_)
 show wpAny _ _ (seqItems? (.ref a) >>= _) _ _ s
 refine wpAny_bind (wpAny_seqItems hoa da ?_)
 simp only[Int.toNat_natCast,hx]
 refine wpAny_bind (wpAny_setField hu ud (by simp) (wpAny_pure ⟨x,rfl,wpAny_pure (q _ ?_ (Heap.SameBut.update ..))⟩))
 exact⟨_,Heap.get?_update_self _ hu (Obj.isFreed_of_fields (Obj.data_mapFields ud _)),(Obj.cls_mapFields ..).trans uc,by rw[Obj.data_mapFields ud];simp[rawInt]⟩
theorem li {I:Addr}{k:Nat}{Q:Value→Shared→Prop}(hh:A.handled=none)(st:s.heap.IsTupleIter I a k)(ta:s.heap.IsTuple a its)(hx:its[k]?=none)
  (q:∀h' e,Heap.ExtBut I s.heap h'→(∃o,h'.get? e=some o∧o.cls=.type "StopIteration")→E (.ref e) {s with heap:=h'}):wpAny (model prog w) A (Builtin.SmallTypes.nextOf (.ref I)) Q E s:=by
 obtain⟨u,hu,uc,ud⟩:=id st
 obtain⟨oa,hoa,_,na,da⟩:=ta
 unfold Builtin.SmallTypes.nextOf
 refine wpAny_bind (wpAny_callSpecial?_slot (name:=Str.ofString "__next__") st.typeIs F.slot_tuple_iterator_next (wpAny_call_entry F.slot_tuple_iterator_next st.typeIs F.entry_tuple_iterator_next ?_ (F.args_tuple_iterator_next_1 _)))
 show wpAny _ _ (field (.ref I) 0 >>= _) _ _ s
 refine wpAny_bind (wpAny_field hu ud (x:=.ref a) rfl ?_)
 show wpAny _ _ (if(Value.ref a==Value.none)=true then _ else _) _ _ s
 rw[if_neg (show¬((Value.ref a==Value.none)=true) from Bool.false_ne_true)]
 show wpAny _ _ (field (.ref I) 1 >>= _) _ _ s
 refine wpAny_bind (wpAny_field hu ud (x:=.int k 0) rfl ?_)
 show wpAny _ _ (seqItems? (.ref a) >>= _) _ _ s
 refine wpAny_bind (wpAny_seqItems hoa da ?_)
 simp only[Int.toNat_natCast,hx]
 refine wpAny_bind (wpAny_rule (wpAny_bind (wpAny_setField hu ud (by simp) ?_)))
 show wpAny _ _ (newExc (.type "StopIteration") [] >>= _) _ _ _
 refine wpAny_bind ?_
 simp only[newExc,newTuple]
 refine wpAny_bind (wpAny_newObj_type ?_ (by size_fits))
 refine wpAny_bind (m:=firstArgMember _ _) (wpAny_of_eq (a:=Value.none) (by first|rfl|(simp only[firstArgMember];rfl)) ?_)
 refine wpAny_newObj_type ?_ (by size_fits)
 simp only[raiseNew]
 refine wpAny_bind (wpAny_handled ?_)
 first|rw[show A.in1.handled=none from hh]|rw[hh]
 exact wpAny_bind (wpAny_pure (wpAny_throw (q _ _ (((Heap.SameBut.update ..).extBut.push _).push _) ⟨_,Heap.get?_push_size _ rfl,rfl⟩)))
end
theorem Ap {prog:Program}{w:World}{A:Around}(hh:A.handled=none)(I a:Addr)(hne:a≠I)(its:Array Value) :
  Draws prog w A I [I,a] its.size (fun i v=>its[i]?=some v) (fun i h=>h.IsTupleIter I a i∧h.IsTuple a its) where
 live:=fun _ _ st=>let ⟨o,ho,_⟩:=st.1;⟨o,ho⟩
 frame:=fun _ _ _ st hk=>⟨st.1.at fun o e=>hk I (by simp) o e,let ⟨o,ho,r⟩:=st.2;⟨o,hk a (by simp) o ho,r⟩⟩
 item:=fun i s Q E hi st hQ=>xT st.1 st.2 (x:=its[i]) (by simp[hi]) fun h' hit' hs'=>hQ _ h' s.toks (by simp[hi]) ⟨hit',st.2.extBut hs'.extBut hne⟩ hs'
 done:=fun s Q E st hE=>li hh st.1 st.2 (by simp) hE
open AutoSeq1 (wpAny_loadPart') in
theorem uS (a:Addr)(its:Array Value)(n:Nat)(dct:Option Addr)(sl:Array (Option Value)) :
  Meets (Builtin.«enumerate.__new__» ⟨[.type "enumerate",.ref a],[]⟩) (fun _ R s=>s.heap.get? a=some {cls:=.type "tuple",dict:=dct,data:=.seq its n,slots:=sl}∧
   R (.ok (.ret (.ref (s.heap.push {cls:=.type "tuple_iterator",data:=.fields #[.ref a,.int 0 0]}).objs.size)))
    {s with heap:=(s.heap.push {cls:=.type "tuple_iterator",data:=.fields #[.ref a,.int 0 0]}).push {cls:=.type "enumerate",data:=.fields #[.none,.bool false,.ref s.heap.objs.size,rawInt 0,.none,.none]}}):=
 .of_wp fun prog w A R s hh=>by
  obtain⟨hp,g,d,tk,os⟩:=s
  obtain⟨ha,hr⟩:=hh
  have hsub:=sub_enumerate
  have hT:Heap.IsTuple (Shared.heap ⟨hp,g,d,tk,os⟩) a its:=⟨_,ha,rfl,n,rfl⟩
  wp_walk using wpAny_loadPart' ha
  refine wpAny_stack_any fun st=>wpAny_pure ?_
  split
  ·rename_i c _ _ _ _ _
   cases (c==Value.type "enumerate")
   all_goals
    wp_walk using wpAny_loadPart' ha,wpAny_pyIter_tuple hT
    exact⟨_,rfl,hr⟩
  ·wp_walk using wpAny_loadPart' ha,wpAny_pyIter_tuple hT
   exact⟨_,rfl,hr⟩
theorem rP {prog:Program}{w:World}{A:Around}{E:Value→Shared→Prop}{s:Shared}(hT:s.heap.IsTuple a its)
  (q:∀h',IsEnum h' (s.heap.objs.size+1) s.heap.objs.size 0 .none→h'.IsTupleIter s.heap.objs.size a 0→h'.objs.size=s.heap.objs.size+2→
   (∀b o,s.heap.get? b=some o→h'.get? b=some o)→Q (.ref (s.heap.objs.size+1)) {s with heap:=h'}):wpAny (model prog w) A (call (.type "enumerate") [.ref a]) Q E s:=by
 obtain⟨⟨c,dct,dt,sl⟩,ha,hc,n,hd⟩:=hT
 have hc:c=.type "tuple":=hc
 have hd:dt=.seq its n:=hd
 subst hc hd
 refine callType_new F.called_enumerate (by decide) (F.typeCall_enumerate_1 _) (F.newCall_enumerate_1 _) (fun obj=>F.args_object_init_2 obj _) F.entry_enumerate_new (uS a its n dct sl) ⟨ha,?_⟩
 have hz:(s.heap.push {cls:=.type "tuple_iterator",data:=.fields #[.ref a,.int 0 0]}).objs.size=s.heap.objs.size+1:=Heap.size_push ..
 show _∧_
 rw[hz]
 have he:IsEnum ((s.heap.push {cls:=.type "tuple_iterator",data:=.fields #[.ref a,.int 0 0]}).push {cls:=.type "enumerate",data:=.fields #[.none,.bool false,.ref s.heap.objs.size,rawInt 0,.none,.none]}) (s.heap.objs.size+1) s.heap.objs.size 0 .none:=by
  have z:=Heap.get?_push_size (s.heap.push {cls:=.type "tuple_iterator",data:=.fields #[.ref a,.int 0 0]}) (o:={cls:=.type "enumerate",data:=.fields #[.none,.bool false,.ref s.heap.objs.size,rawInt 0,.none,.none]}) rfl
  rw[hz] at z;exact z
 exact⟨⟨_,he,rfl⟩,q _ he ⟨_,Heap.get?_push_of_some _ (Heap.get?_push_size _ rfl),rfl,rfl⟩ (by rw[Heap.size_push,hz]) fun b o z=>Heap.get?_push_of_some _ (Heap.get?_push_of_some _ z)⟩
variable{ch:List Addr}{h':Heap}
section
variable {X:Cx}{ag:List (Addr×Obj)}{σ:L2.St}{H:Hp}{s:Shared}
theorem uX {o:HO}{t':Nat}(I:L2.Inv X ag σ H s)(hf:∀b∈ch,jI X ag H b)(k:∀b u,b∉ch→s.heap.get? b=some u→h'.get? b=some u)
  (hp:s.heap.objs.size≤a) (new:cz X.prog X.w (ce H a o) h' a o):L2.Inv X ag σ (ce H a o) {s with heap:=h',toks:=t'}:=by
 have hn:H a=none:=I.hok.fresh hp
 have ne:∀{b:Addr} {u:HO},H b=some u→b≠a:=fun {b u} e z=>by rw[z,hn] at e;cases e
 have nch:∀b u,H b=some u→b∉ch:=fun b u e z=>by rw[(hf b z).1] at e;cases e
 refine I.step (g':=s.gens) (d':=s.drawn) (ch:=ch) (fun b hb=>⟨(hf b hb).2.2.2.1,(hf b hb).2.1,(hf b hb).2.2.2.2.1,(hf b hb).2.2.2.2.2⟩) (fun b u _ _ hc e _=>k b u hc e) (fun b u _ _ hc e _=>⟨u.slots,k b u hc e⟩)
  (fun b u _ e n=>by rw[aC (Nat.ne_of_lt (Nat.lt_of_lt_of_le (Heap.lt_size e) hp))];exact n) (fun b u hc e=>⟨u,k b u hc e⟩) (fun b xs e=>by rw[aC (ne e)];exact e) (fun b u v e=>by rw[aC (ne e)];exact e)
  (fun b ps e=>⟨#[],by rw[aC (ne e),e];simp⟩) (fun m hm=>?_) (fun b u e=>?_) I.bare
 ·obtain⟨u,es,ep,ho,r⟩:=hm
  exact⟨u,es,ep,k _ u (fun z=>(hf _ z).2.1 rfl) ho,r⟩
 ·by_cases hb:b=a
  ·subst hb
   rw[bF] at e;cases e
   exact new
  ·rw[aC hb] at e
   refine(I.hok b u e).stay (fun c v hc q=>k c v ?_ q) (fun c q=>by rw[aC (ne q)];exact q) fun c xs q=>by rw[aC (ne q)];exact q
   rcases hc with z|z
   ·rw[z];exact nch b u e
   ·exact nch c _ z
theorem zG {t':Nat}(I:L2.Inv X ag σ H s)(hf:∀b∈ch,jI X ag H b)(k:∀b u,b∉ch→s.heap.get? b=some u→h'.get? b=some u):L2.Inv X ag σ H {s with heap:=h',toks:=t'}:=by
 have nch:∀b u,H b=some u→b∉ch:=fun b u e z=>by rw[(hf b z).1] at e;cases e
 refine I.step (g':=s.gens) (d':=s.drawn) (ch:=ch) (fun b hb=>⟨(hf b hb).2.2.2.1,(hf b hb).2.1,(hf b hb).2.2.2.2.1,(hf b hb).2.2.2.2.2⟩) (fun b u _ _ hc e _=>k b u hc e) (fun b u _ _ hc e _=>⟨u.slots,k b u hc e⟩)
  (fun b u _ e n=>n) (fun b u hc e=>⟨u,k b u hc e⟩) (fun b xs e=>e) (fun b u v e=>e) (fun b ps e=>⟨#[],by rw[e];simp⟩) (fun m hm=>?_) (fun b u e=>?_) I.bare
 ·obtain⟨u,es,ep,ho,r⟩:=hm
  exact⟨u,es,ep,k _ u (fun z=>(hf _ z).2.1 rfl) ho,r⟩
 ·refine(I.hok b u e).stay (fun c v hc q=>k c v ?_ q) (fun c q=>q) fun c xs q=>q
  rcases hc with z|z
  ·rw[z];exact nch b u e
  ·exact nch c _ z
end
def K3 (K:W.Frag)(b:Bool)(H:Hp)(a:Addr)(xs:List V):Prop:=match b with
 | true=>ph K H a xs
 | false=>mV K H a xs
def AT (K:W.Frag)(b:Bool)(a:Addr):It:=
 ⟨fun i H=>∃xs x,K3 K b H a xs∧xs[i]?=some x,fun i H x H'=>∃p y,H p=none∧H'=ce H p (.tup [.int (i:Int),y])∧x=.ref p∧∀xs,K3 K b H a xs→xs[i]?=some y,fun i H=>∃xs,K3 K b H a xs∧xs.length≤i⟩
def hG (b:Bool)(h:Heap)(it a:Addr)(i:Nat):Prop:=match b with
 | true=>h.IsTupleIter it a i
 | false=>h.IsListIter it a i
variable{b:Bool}{i:Nat}
theorem hG.at {h:Heap}{it:Addr}(x:hG b h it a i)(e:∀o,h.get? it=some o→h'.get? it=some o):hG b h' it a i:=by
 cases b with
 | true=>exact Heap.IsTupleIter.at x e
 | false=>exact Heap.IsListIter.at x e
theorem hG.obj {h:Heap}{it:Addr}(x:hG b h it a i):∃o,h.get? it=some o∧(o.cls=.type "tuple_iterator"∨o.cls=.type "list_iterator")∧∃vs,o.data=.fields vs:=by
 cases b with
 | true=>obtain⟨o,e,c,d⟩:=x;exact⟨o,e,.inl c,_,d⟩
 | false=>obtain⟨o,e,c,d⟩:=x;exact⟨o,e,.inr c,_,d⟩
variable{K:W.Frag}
theorem AJ {P:Program}{w:World}{es:List Expr}{kt:Nat}{pos:Pos}(b:Bool)(a e it:Addr):AA P w K (.Tuple es kt pos) (AT K b a) [e,it] e (fun i h=>(∃old,IsEnum h e it (i:Int) old)∧hG b h it a i) where
 mem:=by simp
 obj:=fun i h st c hc=>by
  obtain⟨⟨old,he⟩,hs⟩:=st
  obtain⟨o,ho,_,vs,hd⟩:=hs.obj
  rcases List.mem_cons.mp hc with q|q
  ·subst q
   exact⟨_,he,fun v z=>by cases z⟩
  ·rw[List.mem_singleton.mp q]
   exact⟨o,ho,fun v z=>by rw[hd] at z;cases z⟩
 keep:=fun i h h' st k=>⟨st.1.imp fun old he=>k e (by simp) _ he,st.2.at fun o q=>k it (by simp) o q⟩
 item:=by
  intro X hP hw hK hc i ag s σ H E I hf st hg
  subst hP hw hK
  obtain⟨⟨old,he⟩,hs⟩:=st
  obtain⟨xs,x,hq,hx⟩:=hg
  have hei:e≠it:=fun z=>by
   obtain⟨o,ho,hcl,_⟩:=hs.obj
   rw[←z,he] at ho;cases ho
   rcases hcl with q|q <;> simp at q
  have main:∀(its:List Value) (fp:List Addr) (St:Nat→Heap→Prop),aW xs its→Draws X.prog X.w X.A.in1 it fp its.length (fun i v=>its[i]?=some v) St→e∉fp→St i s.heap→(∀h,St (i+1) h→hG b h it a (i+1))→
    wpAny (model X.prog X.w) X.A (pyNext (.ref e)) (fun r s1=>∃u,r=some u∧
     wpAny (model X.prog X.w) X.A (letOwnedTupleGo (.Tuple es kt pos) (.ref e) u) (fun _ s2=>∃x H',L2.Inv X ag σ H' s2∧bc x u∧(AT X.K b a).yld i H x H'∧((∃old,IsEnum s2.heap e it ((i+1:Nat):Int) old)∧hG b s2.heap it a (i+1))∧∀b∈[e,it],H' b=none) E s1) E s:=by
   intro its fp St rv D hef hst hback
   have hil:i<its.length:=by rw[←rv.length];exact(List.getElem?_eq_some_iff.mp hx).1
   obtain⟨u,hu,ru⟩:=rv.get hx
   refine wpAny_pyNext_enum_itemD D he hst hil hei hef fun y h' tk hP ho hs' hT hsz hk=>?_
   have ey:y=u:=by
    have hP:its[i]?=some y:=hP
    rw[hu] at hP;exact(Option.some.inj hP).symm
   subst ey
   have helt:e<s.heap.objs.size:=Heap.lt_size he
   refine⟨_,rfl,wpAny_letOwnedTupleGo_enum ho fun h2 he2 hs2=>?_⟩
   have hs2:Heap.SameBut e h' h2:=hs2
   have hT2:h2.get? s.heap.objs.size=some {cls:=.type "tuple",data:=.seq #[.int i tk,y]}:=(hs2.2 _ (Nat.ne_of_gt helt)).trans hT
   have fr:H s.heap.objs.size=none:=I.hok.fresh (Nat.le_refl _)
   have new:cz X.prog X.w (ce H s.heap.objs.size (.tup [.int (i:Int),x])) h2 s.heap.objs.size (.tup [.int (i:Int),x]):=
    ⟨Nat.le_trans (by decide:2≤1000) (by rw[sizeLine_eq];decide),[.int i tk,y],.cons ⟨tk,rfl⟩ (.cons ru .nil),⟨_,hT2,rfl,_,rfl⟩⟩
   have I2:=uX (t':=tk+1) I hf (fun c o hc q=>(hs2.2 c (fun z=>hc (by simp[z]))).trans (hk c o (fun z=>hc (by simp[z])) (fun z=>hc (by simp[z])) q)) (Nat.le_refl _) new
   have inj:∀ys,K3 X.K b H a ys→ys[i]?=some x:=fun ys hy=>by
    cases b with
    | true=>rw[I.tuple_inj hy hq];exact hx
    | false=>rw[I.list_inj hy hq];exact hx
   refine⟨.ref s.heap.objs.size,_,I2,rfl,⟨_,x,fr,rfl,rfl,inj⟩,⟨⟨y,by simpa using he2⟩,(hback h' hs').at fun o q=>(hs2.2 it (Ne.symm hei)).trans q⟩,fun c hc=>?_⟩
   have:c≠s.heap.objs.size:=by
    obtain⟨o,ho2,_⟩:=hs.obj
    rcases List.mem_cons.mp hc with q|q
    ·rw[q];exact Nat.ne_of_lt helt
    ·rw[List.mem_singleton.mp q];exact Nat.ne_of_lt (Heap.lt_size ho2)
   rw[aC this]
   exact(hf c hc).1
  cases b with
  | false=>
   obtain⟨its,rv,p,hz⟩:=I.list (show mV X.K H a xs from hq)
   have hli:a≠it:=fun z=>by
    obtain⟨o,ho,hcl,_⟩:=hs.obj
    obtain⟨ol,hol,hlc,_⟩:=p.isList
    rw[z,ho] at hol;cases hol
    rw[hlc] at hcl
    rcases hcl with q|q <;> simp at q
   have hle:e≠a:=fun z=>by
    obtain⟨ol,hol,hlc,_⟩:=p.isList
    rw[←z,he] at hol;cases hol
    simp at hlc
   have D:=Draws.list (prog:=X.prog) (w:=X.w) (A:=X.A.in1) (show X.A.in1.handled=none from I.ok.hd hc) it a hli its.toArray
   rw[List.size_toArray] at D
   exact main its [it,a] (fun i h=>h.IsListIter it a i∧h.IsList a its.toArray) rv (by simpa using D) (by simp[hei,hle]) (show s.heap.IsListIter it a i∧s.heap.IsList a its.toArray from⟨hs,p.isList⟩) fun h q=>q.1
  | true=>
   obtain⟨its,rv,p,hz⟩:=I.tuple (show ph X.K H a xs from hq)
   have p:s.heap.IsTuple a its.toArray:=p
   have hli:a≠it:=fun z=>by
    obtain⟨o,ho,hcl,_⟩:=hs.obj
    obtain⟨ol,hol,hlc,_⟩:=id p
    rw[z,ho] at hol;cases hol
    rw[hlc] at hcl
    rcases hcl with q|q <;> simp at q
   have hle:e≠a:=fun z=>by
    obtain⟨ol,hol,hlc,_⟩:=id p
    rw[←z,he] at hol;cases hol
    simp at hlc
   have D:=Ap (prog:=X.prog) (w:=X.w) (A:=X.A.in1) (show X.A.in1.handled=none from I.ok.hd hc) it a hli its.toArray
   rw[List.size_toArray] at D
   exact main its [it,a] (fun i h=>h.IsTupleIter it a i∧h.IsTuple a its.toArray) rv (by simpa using D) (by simp[hei,hle]) (show s.heap.IsTupleIter it a i∧s.heap.IsTuple a its.toArray from⟨hs,p⟩) fun h q=>q.1
 done:=by
  intro X hP hw hK hc i ag s σ H E I hf st hg
  subst hP hw hK
  obtain⟨⟨old,he⟩,hs⟩:=st
  obtain⟨xs,hq,hx⟩:=hg
  have hnx:∀h',Heap.ExtBut it s.heap h'→(none:Option Value)=none∧L2.Inv X ag σ H {s with heap:=h'}:=fun h' hb=>
   ⟨rfl,zG (t':=s.toks) I hf fun c o hc q=>hb c o (fun z=>hc (by simp[z])) q⟩
  have hT:s.TypeIs (.ref e) "enumerate":=⟨_,he,rfl⟩
  unfold pyNext
  refine wpAny_bind (wpAny_attempt (wpAny_callSpecial?_slot (name:=Str.ofString "__next__") hT F.slot_enumerate_next (wpAny_call_entry F.slot_enumerate_next hT F.entry_enumerate_next ?_ (F.args_enumerate_next_1 _))))
  show wpAny _ _ (field (.ref e) 2 >>= _) _ _ _
  refine wpAny_bind (wpAny_field he rfl (x:=.ref it) rfl (wpAny_bind ?_))
  have stp:∀h' x,Heap.ExtBut it s.heap h'→(∃o,h'.get? x=some o∧o.cls=.type "StopIteration")→wpAny (model X.prog X.w) X.A (isInstance (.ref x) (.type "StopIteration") >>= fun b=>if b=true then pure none else throw (Value.ref x)) (fun(r:Option Value) s1=>r=none∧L2.Inv X ag σ H s1) E {s with heap:=h'}:=fun h' x hb hx'=>by
   obtain⟨o,ho,hcl⟩:=hx'
   refine wpAny_bind (wpAny_isInstance (T:="StopIteration") (b:=true) ⟨o,ho,hcl⟩ isSubtype_stop ?_)
   exact wpAny_pure (hnx _ hb)
  cases b with
  | false=>
   obtain⟨its,rv,p,hz⟩:=I.list (show mV X.K H a xs from hq)
   have hl:=rv.length
   exact wpAny_nextOf_list_end (show X.A.in1.handled=none from I.ok.hd hc) hs p.isList (by simp;omega) stp
  | true=>
   obtain⟨its,rv,p,hz⟩:=I.tuple (show ph X.K H a xs from hq)
   have p:s.heap.IsTuple a its.toArray:=p
   have hl:=rv.length
   exact li (show X.A.in1.handled=none from I.ok.hd hc) hs p (by simp;omega) stp
 self:=fun _ _ _ _ _ st h=>by
  obtain⟨⟨old,he⟩,_⟩:=st
  exact wpAny_pyIter_enum he h
theorem EU {X:Cx}{es:List Expr}{kt:Nat}{tp:Pos}{l:Expr}{tl:TA}{p pos:Pos}(hg:Gl X "enumerate")(hm:X.mg "enumerate"=none)(hv:bootBuiltins "enumerate"=some (.type "enumerate"))(hl:PA X [l] tl)(hs:starEach [l] X.env=[(false,eval l X.env)]:=by rfl) :
  PI X (.Tuple es kt tp) (.Call (.Name "enumerate" p) [l] [] pos) (fun σ H R=>tl σ H fun xs H1=>∃a,xs=[.ref a]∧(((∃xs,mV X.K H1 a xs)∧R (AT X.K false a) H1)∨((∃xs,ph X.K H1 a xs)∧R (AT X.K true a) H1))):=by
 intro ag s σ H R I h
 refine Call_ (nR I hg hm hv (PyProof.Rows.callWith_type1 (cy (hl pos ag s σ H _ I h) fun us s1 ⟨vs,H1,I1,r1,q1⟩=>?_) hs rfl))
 obtain⟨a,e,q1⟩:=q1
 subst e
 cases r1 with
 | cons r rr=>
  cases rr
  have r:_=Value.ref a:=r
  subst r
  have fin:∀(b:Bool) (h':Heap),IsEnum h' (s1.heap.objs.size+1) s1.heap.objs.size 0 .none→hG b h' s1.heap.objs.size a 0→h'.objs.size=s1.heap.objs.size+2→(∀c o,s1.heap.get? c=some o→h'.get? c=some o)→R (AT X.K b a) H1→
    wpAny (model X.prog X.w) X.A (pyIter (.ref (s1.heap.objs.size+1))) (MN X ag σ (.Tuple es kt tp) R) X.xe {s1 with heap:=h'}:=fun b h' he hi hz hk q=>by
   refine wpAny_pyIter_enum he ⟨_,[s1.heap.objs.size+1,s1.heap.objs.size],_,_,H1,rfl,I1.kept (t':=s1.toks) hk,AJ b a _ _,⟨⟨_,he⟩,hi⟩,fun c hc=>?_,q⟩
   have hb:s1.heap.objs.size≤c:=by
    rcases List.mem_cons.mp hc with z|z
    ·rw[z];exact Nat.le_succ _
    ·rw[List.mem_singleton.mp z];exact Nat.le_refl _
   exact I1.fpOk hb (I1.hok.fresh hb)
  rcases q1 with⟨⟨xs,hq⟩,q⟩|⟨⟨xs,hq⟩,q⟩
  ·obtain⟨its,rv,p,hz⟩:=I1.list hq
   exact call_enumerate_list p.isList fun h' he hi hz hk=>fin false h' he hi hz hk q
  ·obtain⟨its,rv,p,hz⟩:=I1.tuple hq
   exact rP (show s1.heap.IsTuple a its.toArray from p) fun h' he hi hz hk=>fin true h' he hi hz hk q
def je (ds:List D):List D:=(List.range ds.length).zipWith (fun(k:Nat) d=>D.tup [.int (k:Int),d]) ds
variable{ds:List D}
theorem nU {d:D}(h:(je ds)[i]?=some d):∃x,ds[i]?=some x∧d=.tup [.int (i:Int),x]:=by
 unfold je at h
 rw[List.getElem?_zipWith] at h
 cases q:ds[i]? with
 | none=>rw[q] at h;simp at h
 | some x=>
  have hi:=(List.getElem?_eq_some_iff.mp q).1
  rw[q,List.getElem?_range hi] at h
  exact⟨x,rfl,(Option.some.inj h).symm⟩
theorem jT (ds:List D):(je ds).length=ds.length:=by simp[je]
def De (ds:List D)(M:aB):bg sv:=match ds with
 | [.lst xs]=>.ok ⟨je xs,none⟩ M
 | [.ro xs]=>.ok ⟨je xs,none⟩ M
 | [.tup xs]=>.ok ⟨je xs,none⟩ M
 | _=>.bad
def lY (g:GA):GI:=fun ρ M=>(g ρ M).bind De
theorem pU {θ:List Addr}{H:Hp}{vs:List V}(ta:∀θ1 H1,Grow θ H θ1 H1→K3 K b H1 a vs)(r:bn K θ H ds vs):DQ K (AT K b a) θ H ⟨je ds,none⟩:=by
 intro θ1 H1 M1 g _ i
 have t1:=ta θ1 H1 g.toGrow
 have r1:=r.go g
 refine⟨fun d e=>?_,fun hl=>⟨vs,t1,by rw[←ay r1];rw[jT] at hl;exact hl⟩⟩
 obtain⟨x,ex,ed⟩:=nU e
 subst ed
 obtain⟨v,e1,rv⟩:=fX r1 ex
 refine⟨⟨vs,v,t1,e1⟩,fun x' H2 y=>?_⟩
 obtain⟨p,y',np,eH,exr,hy⟩:=y
 have e2:=hy vs t1
 rw[e1] at e2;cases e2
 subst eH exr
 exact⟨dG g.wr np,hU (ds:=[.int (i:Int),x]) g.wr np ⟨_,_,rfl,rfl,_,_,rfl,rv,rfl⟩⟩
theorem D1 {X:Cx}{es:List Expr}{kt:Nat}{tp:Pos}{l:Expr}{g:GA}{p pos:Pos}(hg:Gl X "enumerate")(hm:X.mg "enumerate"=none)(hv:bootBuiltins "enumerate"=some (.type "enumerate"))(hl:PA X [l] (tA X g))(hs:starEach [l] X.env=[(false,eval l X.env)]:=by rfl) :
  PI X (.Tuple es kt tp) (.Call (.Name "enumerate" p) [l] [] pos) (tI X (lY g)):=by
 intro ag s σ H R I h
 refine EU hg hm hv hl hs ag s σ H R I ?_
 obtain⟨ρ,θ,M,hd,hw,h⟩:=h
 refine lC hd hw (BL X θ H R) (fun c M' h=>h) (fun h=>h) h fun ds M1 vs θ1 H1 g1 r1 h1=>?_
 unfold De at h1
 split at h1
 ·obtain⟨v,r,e,⟨a,us,e2,ta,rs⟩,rr⟩:=r1
  have rr:r=[]:=rr
  subst rr e2
  exact⟨a,e,.inl ⟨⟨us,ta.sq⟩,h1 _ θ1 H1 g1 (pU (b:=false) (fun θ2 H2 g2=>(ta.grow g2).sq) rs)⟩⟩
 ·obtain⟨v,r,e,⟨a,us,e2,ta,rs⟩,rr⟩:=r1
  have rr:r=[]:=rr
  subst rr e2
  exact⟨a,e,.inl ⟨⟨us,ta.sq⟩,h1 _ θ1 H1 g1 (pU (b:=false) (fun θ2 H2 g2=>(ta.grow g2).sq) rs)⟩⟩
 ·obtain⟨v,r,e,⟨a,us,e2,ta,rs⟩,rr⟩:=r1
  have rr:r=[]:=rr
  subst rr e2
  exact⟨a,e,.inr ⟨⟨us,ta.sq⟩,h1 _ θ1 H1 g1 (pU (b:=true) (fun θ2 H2 g2=>(ta.grow g2).sq) rs)⟩⟩
 ·exact h1.elim
end DL
namespace DL
open PySem PySem.Spec PyProof.Rows L2
variable{x:Str}
section
variable {X:Cx}{e o lo hi:Expr}{g go gl gh:GE}{pos ip sp:Pos}
def xC (i j:Nat)(ga:GA):GS:=fun ρ M=>(ga ρ M).bind fun ds M1=>match ds with
 | [d,e]=>.ok (.nx ((ρ.set i (some d)).set j (some e))) M1
 | _=>.bad
theorem Jq {i j:Nat}{y:Str}{a b:Expr}{ga:GA}{px py pt:Pos}{kt k2 pt2}(hc:X.calm=true)(hN:X.N.Nodup)(hi:X.N[i]?=some x)(hj:X.N[j]?=some y)(hij:i≠j)
  (hx:X.env.scope.names.lookup x=some .local) (hy:X.env.scope.names.lookup y=some .local) (ha:PA X [a,b] (tA X ga))
  (hw:swappedStores [.Tuple [.Name x px,.Name y py] kt pt] (.Tuple [a,b] k2 pt2) X.env=pure (some [x,y]))
  (hs:swapsWithSole [.Tuple [.Name x px,.Name y py] kt pt] (.Tuple [a,b] k2 pt2) pos.line X.env=pure false:=by rfl) :
  PS X (.Assign [.Tuple [.Name x px,.Name y py] kt pt] (.Tuple [a,b] k2 pt2) pos) (tS X (xC i j ga)):=(Gs hc hN hi hj hij hx hy ha hw hs).of fun D σ H ⟨ρ,θ,M,hd,hwr,h⟩=>by
 refine lC hd hwr (cL X θ H D) (fun c M' h=>h) (fun h=>h) h fun ds M1 vs θ1 H1 g1 r1 h1=>?_
 match ds,r1,h1 with
 | [d,e],⟨v,r,e1,rv,v2,r2,e2,rv2,e3⟩,h1=>
  have e3:r2=[]:=e3
  subst e3 e2
  exact⟨v,v2,e1,h1 _ θ1 H1 g1 (((hd.go g1).set rv i).set rv2 j)⟩
 | [],_,h1=>exact False.elim h1
 | [_],_,h1=>exact False.elim h1
 | _::_::_::_,_,h1=>exact False.elim h1
end
def H0 (K:W.Frag)(a:Addr)(so:Obj)(xs:List V)(ts:List Addr)(bm:Addr)(ob:Obj):Hp:=fun b=>
 if b=a then(if K.lookup a=none then some (.frz so (.lst xs)) else none) else if b∈ts then some (.tbl #[]) else if b=bm then some (Nh ob) else none
structure Nx (K:W.Frag)(h:Heap)(ts:List Addr)(bm:Addr)(ob:Obj):Prop where
 tab:∀P∈ts,h.get? P=some (W.tabObj #[])∧isCodeTable h P∧K.lookup P=none
 names:∀x,x∈ck→∀c P,W.tabIn K x=some (c,P)→P∈ts
 bmk:W.nsIn K mainGlobals "__builtins__"=some (some (.ref bm))
 bmh:h.get? bm=some ob
 bmc:ob.cls=.type "module"∧ob.dict=some builtinsNs∧ob.data=.plain
 bmn:bm≠builtinsNs∧bm≠mainGlobals
 bml:K.lookup bm=none
variable{K:W.Frag}{h:Heap}{a:Addr}
theorem CT {so:Obj}{xs:List V}{ts:List Addr}{bm:Addr}{ob:Obj}(L:Nx K h ts bm ob)(ha:h.get? a=some so)(sc:so.cls=.type "list"):ma K (H0 K a so xs ts bm ob):=by
 have neT:∀P∈ts,P≠a:=fun P hP e=>by
  have:=(L.tab P hP).1
  rw[e,ha] at this
  cases this
  cases sc
 have neB:bm≠a:=fun e=>by
  have:=L.bmh
  rw[e,ha] at this
  cases this
  have:=L.bmc.1
  rw[sc] at this
  simp at this
 have nBT:bm∉ts:=fun hb=>by
  have:=(L.tab bm hb).1
  rw[L.bmh] at this
  cases this
  have:=L.bmc.1
  simp at this
 refine⟨fun x hx c P e=>?_,fun x hx c P e=>⟨bm,ob,L.bmk,?_,L.bmc.1,L.bmc.2.1,L.bmc.2.2,L.bmn⟩⟩
 ·have hP:=L.names x hx c P e
  refine⟨#[],?_,by simp[TriplesOk],fun pos cv q=>by simp[codeAmong] at q⟩
  unfold H0
  rw[if_neg (neT P hP),if_pos hP]
 ·unfold H0
  rw[if_neg neB,if_neg nBT,if_pos rfl]
variable{mg:Str→Option Value}
theorem AB {P:Program}{w:World}{mb:Str→Option Value}{CX:AU}{k:Nat}{fa:Addr}{fd:FuncData}{sp:Sp}{s₁:Shared}{vs:List Value}{ns:List Int}{ts:List Addr}{bm:Addr}{ob:Obj}
  (KX:K.In s₁.heap) (hns:s₁.heap.Ns mainGlobals mg) (hb:s₁.heap.Ns builtinsNs mb) (hbb:∀x:Str,x≠"__name__"→mb x=bootBuiltins x) (hlim:s₁.heap.NoLimit) (hg:s₁.gens=#[])
  (ha:s₁.heap.get? a=some {cls:=.type "list",data:=.seq vs.toArray}) (hi:IntsAre vs ns) (hl:ns.length≤sizeLine) (hr:bv k callerA) (L:Nx K s₁.heap ts bm ob)
  (F:∀base:Heap,K.In base→base.Ns mainGlobals mg→dE P w K mg base CX k fa fd [x] sp) (hbind:∀(s:Shared) (u:Value),BindsTo s fd ⟨[u],[]⟩ [(x,u)])
  (hsp:∀H:Hp,ma K H→mV K H a (ns.map V.int)→sp [.ref a] H (fun v _=>v=.bl true) fun _ _ _=>False)
  (hCX:∀H e s',CX [] H s₁ (fun _ _ _=>False) e s'→False) :
  codeAny (model P w) callerA (.call (.ref fa) ⟨[.ref a],[]⟩) (fun r s'=>r=.ok (.ret (.bool true))∧OldK s₁.heap s'.heap∧s'.os=s₁.os∧AllBare s'.gens) s₁:=by
 have rv:=tB hi
 have lenV:=hi.length
 have hH:∃H:Hp,H=H0 K a {cls:=.type "list",data:=.seq vs.toArray} (ns.map V.int) ts bm ob:=⟨_,rfl⟩
 obtain⟨H,eH⟩:=hH
 have tb:ma K H:=by rw[eH];exact CT L ha rfl
 have at_:∀b u,H b=some u→(b=a∧K.lookup a=none∧u=.frz {cls:=.type "list",data:=.seq vs.toArray} (.lst (ns.map V.int)))∨(b≠a∧b∈ts∧u=.tbl #[])∨(b=bm∧u=Nh ob):=fun b u e=>by
  rw[eH] at e
  unfold H0 at e
  by_cases h1:b=a
  ·rw[if_pos h1] at e
   by_cases h2:K.lookup a=none
   ·rw[if_pos h2] at e;cases e;exact .inl ⟨h1,h2,rfl⟩
   ·rw[if_neg h2] at e;cases e
  ·rw[if_neg h1] at e
   by_cases h2:b∈ts
   ·rw[if_pos h2] at e;cases e;exact .inr (.inl ⟨h1,h2,rfl⟩)
   ·rw[if_neg h2] at e
    by_cases h3:b=bm
    ·rw[if_pos h3] at e;cases e;exact .inr (.inr ⟨h3,rfl⟩)
    ·rw[if_neg h3] at e;cases e
 have hok:kS P w H s₁.heap:=fun b u e=>by
  rcases at_ b u e with⟨h1,_,h3⟩|⟨_,h2,h3⟩|⟨h1,h3⟩
  ·subst h1 h3
   exact⟨ha,by rw[List.length_map];exact hl,vs,_,rv,ha⟩
  ·subst h3
   exact(L.tab b h2).1
  ·subst h1 h3
   exact⟨L.bmh,trivial,⟨_,L.bmh⟩,fun _ _ _ _=>trivial⟩
 have hS:mV K H a (ns.map V.int):=by
  cases hk:K.lookup a with
  | some o=>
   have e:=KX a o hk
   rw[ha] at e
   cases e
   exact .inr ⟨_,vs.toArray,_,hk,rfl,rfl,rfl,by rw[List.size_toArray,lenV];exact hl,by simpa using rv⟩
  | none=>exact .inl (.inr ⟨{cls:=.type "list",data:=.seq vs.toArray},by rw[eH];unfold H0;rw[if_pos rfl,if_pos hk]⟩)
 have base_of:∀{b:Addr} {o:Obj},s₁.heap.get? b=some o→H b=none→(uN s₁.heap H).get? b=some o:=fun e n=>Dx e n
 have noA:∀{b:Addr} {o:Obj} {es:Array DictEntry} {ep:Nat},s₁.heap.get? b=some o→o.data=.dict es ep→H b=none:=fun {b o es ep} e d=>by
  cases q:H b with
  | none=>rfl
  | some u=>
   exfalso
   rcases at_ b u q with⟨h1,_,_⟩|⟨_,h2,_⟩|⟨h1,_⟩
   ·subst h1
    rw[ha] at e;cases e
    have d':Data.seq vs.toArray _=Data.dict es ep:=d
    cases d'
   ·rw[(L.tab b h2).1] at e;cases e;cases d
   ·subst h1
    rw[L.bmh] at e;cases e
    rw[L.bmc.2.2] at d;cases d
 have nsK:∀{b:Addr} {m:Str→Option Value},s₁.heap.Ns b m→(uN s₁.heap H).Ns b m:=fun {b m} ⟨o,es,ep,e,d,r⟩=>⟨o,es,ep,base_of e (noA e d),d,r⟩
 have hKb:K.In (uN s₁.heap H):=fun b o e=>base_of (KX b o e) (by
  cases q:H b with
  | none=>rfl
  | some u=>
   exfalso
   rcases at_ b u q with⟨h1,h2,_⟩|⟨_,h2,_⟩|⟨h1,_⟩
   ·subst h1;rw[h2] at e;cases e
   ·rw[(L.tab b h2).2.2] at e;cases e
   ·subst h1;rw[L.bml] at e;cases e)
 have hM:Mod K mg (uN s₁.heap H):=⟨hKb,nsK hns,⟨mb,nsK hb,hbb⟩,let ⟨mc,h1,h2⟩:=hlim;⟨mc,nsK h1,h2⟩⟩
 have e0:rX P w K mg (uN s₁.heap H) callerA [] s₁ H:=⟨rfl,hM,fun b o e=>EE e,Nat.le_of_eq (Am _ _),trivial,fun b hb=>absurd (show b∈([]:List Addr) from hb) (by simp),hok,.of_eq hg⟩
 refine codeAny_mono ((F _ hKb (nsK hns)).run callerA [] s₁ H ⟨[.ref a],[]⟩ [.ref a] [.ref a] _ _ hr e0 (hbind s₁ (.ref a)) (.cons rfl .nil) (hsp H tb hS)) fun r s' h=>?_
 cases r with
 | error e=>exact(hCX H e s' h).elim
 | ok fl=>
  cases fl with
  | next=>exact False.elim h
  | brk=>exact False.elim h
  | cont=>exact False.elim h
  | ret u=>
   obtain⟨v,H',os,bare,un,hok',r',q⟩:=h
   have q':v=.bl true:=q
   subst q'
   obtain rfl:u=Value.bool true:=r'
   refine⟨rfl,⟨fun b o e=>?_,fun b o e=>?_⟩,os,bare⟩
   ·cases q:H b with
    | none=>exact .inl (un.keep b o e q (by intro z;exact absurd (show b∈([]:List Addr) from z) (by simp)) (by simp))
    | some u=>
     rcases at_ b u q with⟨h1,_,h3⟩|⟨_,h2,h3⟩|⟨h1,h3⟩
     ·subst h3
      have z2:=un.frzs b _ _ q
      obtain⟨e1,_⟩:=hok b _ q
      obtain⟨e2,_⟩:=hok' b _ z2
      rw[e] at e1;cases e1
      exact .inl e2
     ·subst h3
      obtain⟨more,z2⟩:=un.tbls b _ q
      have e1:s₁.heap.get? b=some {cls:=.none,data:=.fields #[]}:=hok b _ q
      have e2:s'.heap.get? b=some {cls:=.none,data:=.fields (#[]++more)}:=hok' b _ z2
      rw[e] at e1;cases e1
      exact .inr (.inl ⟨(L.tab b h2).2.1,rfl,#[],more,rfl,e2⟩)
     ·subst h3
      have z2:=un.frzs b _ _ q
      obtain⟨e1,_⟩:=hok b _ q
      obtain⟨e2,_⟩:=hok' b _ z2
      rw[e] at e1;cases e1
      exact .inl e2
   ·exact un.there b o e (by simp)
theorem GC {l:W.OpenLaw}{n k:Nat}{q:Program}{loose:List Str}{XP:(Str→Option Value)→Heap→Prop}{YP:World→Heap→Prop}{d:DefRec}{K:Params→W.Frag}{CX:World→AU}{sp:World→Sp}
  (hn:l.most=some n) (hn2:n≤sizeLine) (hdf:d.params.defaults=[]) (hr:bv k callerA)
  (hY:∀(w:World) (h:Heap),YP w h→(K w.params).In h)
  (F:∀(w:World) (mg:Str→Option Value) (fa:Addr) (h:Heap),(K w.params).In h→h.Ns mainGlobals mg→mg d.name=some (.ref fa)→
   ∃fd:FuncData,(∀(s:Shared) (u:Value),BindsTo s fd ⟨[u],[]⟩ [(x,u)])∧
    ∀base:Heap,(K w.params).In base→base.Ns mainGlobals mg→dE l.prog w (K w.params) mg base (CX w) k fa fd [x] (sp w))
  (tabs:∀w:World,∃(ls:List (Str×DefRec×Addr×Addr)) (bm:Addr),(∀p∈ls,(recsOf q).find? (fun e=>e.name==p.1)=some p.2.1∧W.tabIn (K w.params) p.1=some (p.2.2.1,p.2.2.2)∧(K w.params).lookup p.2.2.2=none)∧
   (∀y,y∈ck→W.nsIn (K w.params) mainGlobals y=some none∨∃p∈ls,p.1=y)∧W.nsIn (K w.params) mainGlobals "__builtins__"=some (some (.ref bm))∧(K w.params).lookup bm=none)
  (hsp:∀(w:World) (H:Hp) (a:Addr) (ns:List Int),ns.length≤n→ma (K w.params) H→mV (K w.params) H a (ns.map V.int)→sp w [.ref a] H (fun v _=>v=.bl true) fun _ _ _=>False)
  (hCX:∀(w:World) (H:Hp) (s:Shared) (e:Value) (s':Shared),CX w [] H s (fun _ _ _=>False) e s'→False) :
  W.WalkO q loose XP YP l.row.toRowW d [] (fun f vs=>PySem.call f vs):=by
 refine Att.attach_call hn hdf fun w s₀ s₁ mg mb fa o pm cd doc a vs ns G Y ho hd hcd hmg hobj hints hlen hg=>?_
 have KX:=hY w _ Y
 obtain⟨fd,hb,hF⟩:=F w mg fa _ KX G.T.g hmg
 obtain⟨ls,bm,hls,hnm,hbm,hbl⟩:=tabs w
 obtain⟨bm',ob,b1,b2,b3,b4,b5,b6⟩:=G.T.bmain
 have eb:bm'=bm:=by
  have:=W.mg_of KX G.T.g hbm
  rw[b1] at this;cases this;rfl
 subst eb
 have L:Nx (K w.params) s₁.heap (ls.map (·.2.2.2)) bm' ob:=by
  refine⟨fun P hP=>?_,fun y hy c P e=>?_,hbm,?_,?_,?_,hbl⟩
  ·obtain⟨p,hp,rfl⟩:=List.mem_map.mp hP
   obtain⟨h1,h2,h3⟩:=hls p hp
   obtain⟨c1,c2⟩:=W.tab_of G.T KX h1 h2
   exact⟨c2,(c1.tab c2).isCodeTable,h3⟩
  ·rcases hnm y hy with q|⟨p,hp,q⟩
   ·unfold W.tabIn at e
    rw[q] at e
    cases e
   ·subst q
    obtain⟨h1,h2,h3⟩:=hls p hp
    rw[h2] at e
    cases e
    exact List.mem_map.mpr ⟨p,hp,rfl⟩
  ·exact b3
  ·exact⟨b4,b5,b6⟩
  ·refine⟨b2,fun z=>?_⟩
   obtain⟨o',es,ep,e1,e2,_⟩:=G.T.g
   rw[←z,b3] at e1
   cases e1
   rw[b6] at e2
   cases e2
 exact AB KX G.T.g G.T.b G.T.builtins G.T.nolimit hg hobj hints (Nat.le_trans hlen hn2) hr L hF hb (fun H hT hS=>hsp w H a ns hlen hT hS) fun H e s'=>hCX w H s₁ e s'
def zk (q:Addr)(fd:FuncData):HO:=.ext fun h=>h.get? q=some {cls:=.type "function",data:=.func fd}
abbrev sk (qual:Str)(params:Arguments)(body:Expr)(scope:Scope)(pm cv ctv:Value):FuncData:=W.kla_fn "<lambda>" qual params body scope [] pm cv ctv
variable{P:Program}{w:World}{H:Hp}
theorem E7 {c:Addr}{q:Str}(ok:kS P w H h)(e:H c=some (iU c q)):h.CodeRec (.ref c) q:=(ok c _ e).1
variable{fd:FuncData}
theorem LQ {q:Addr}(ok:kS P w H h)(e:H q=some (zk q fd)):h.get? q=some {cls:=.type "function",data:=.func fd}:=(ok q _ e).1
def yi (k:Nat)(g:GE):FD:=fun ds M=>g (jw k ds) M
variable{base:Heap}{params:Arguments}{body:Expr}{scope:Scope}
theorem Jo {qual:Str}{pm ctv:Value}{q c:Addr}{N ps:List Str}{k n:Nat}{g:GE}
  (S:d9 N ps scope) (hn:ps.length=n)
  (hbody:∀(A:Around) (outer:List Env) (s:Shared) (H:Hp) (E:XK),bv k (A.deeper (envOfC qual scope s.heap.objs.size q (.ref c)))→
   PE (gX (gU P w) P w K mg base N qual scope q (.ref c) A outer s H E) body (tE (gX (gU P w) P w K mg base N qual scope q (.ref c) A outer s H E) g)) :
  dE P w K mg base (gU P w) (k+1) q (sk qual params body scope pm (.ref c) ctv) ps (fun vs H Q E=>H q=some (zk q (sk qual params body scope pm (.ref c) ctv))∧H c=some (iU c qual)∧mY K n (yi (N.length-n) g) vs H Q E):=by
 refine⟨fun vs H Q E h=>pw hn vs H Q E h.2.2,fun A outer s H args us vs Q E hr e0 hb r hsp=>?_⟩
 obtain⟨hq,hc,hsp⟩:=hsp
 have hl:vs.length=ps.length:=pw hn vs H Q E hsp
 have lim:s.heap.NoLimit:=e0.mod.nolimit.keeps fun b o e=>(e0.bs b o e).1
 have hkind:∀y∈ps.zip us,scope.names.lookup y.1=some .local∨(scope.names.lookup y.1=some .cell∧((cellsFrom (s.heap.objs.size+1) scope.names []).lookup y.1).isSome=true):=fun⟨m,v⟩ hy=>by
  rcases S.par m (List.of_mem_zip hy).1 with z|z
  ·exact .inl z
  ·exact .inr ⟨z,W.cellsFrom_some _ _ _ (.inl z)⟩
 refine W.kla_callFunE hr.depth (LQ e0.hok hq) rfl S.co S.gen rfl (E7 e0.hok hc) (hb _ _ _ _ ?_)
 refine wpAny_newFunctionEnv_cells S.kind hkind fun env he s1 x=>?_
 subst he
 refine⟨lim.keeps x.toInCall.keep,W.kla_codeExpr ?_⟩
 have I:L2.Inv (gX (gU P w) P w K mg base N qual scope q (.ref c) A outer s H E) [] (L2.start N vs) H s1:=tH S hr.hd e0 hl r x
 obtain⟨θ,M,ds,hld,rd,hw,h⟩:=hsp
 have hv:vs.length=n:=by rw[←ay rd];exact hld
 refine wpAny_mono (hbody A outer s H E (hr.deeper _) [] s1 (L2.start N vs) H Q I ⟨jw (N.length-n) ds,θ,M,by rw[←hv];exact IF rd N,hw,?_⟩) (fun u s' hs=>?_) fun e s' hs=>hs
 ·have h:yO K θ H Q E (g (jw (N.length-n) ds) M):=h
  cases q:g (jw (N.length-n) ds) M with
  | bad=>rw[q] at h;exact h
  | err c M1=>
   rw[q] at h
   have h:BW K θ H E c M1:=h
   exact fun C θ' H' a s' kC g1 fl=>mQ fl (h C θ' H' a kC g1)
  | ok d M1=>rw[q] at h;exact h
 ·obtain⟨v,H',J,rv,q⟩:=hs
  exact⟨v,H',J.os,J.bare,J.base,J.hok,rv,q⟩
structure xg (K:W.Frag)(x:Str)(c P:Addr):Prop where
 mem:x∈ck
 tab:W.tabIn K x=some (c,P)
 uniq:∀y,y∈ck→y≠x→∀c2,W.tabIn K y≠some (c2,P)
 hd:∃o vs file tf flags tg inF text tt,K.lookup c=some o∧o.cls=.type "code"∧o.data=.fields vs∧vs[11]?=some (.ref P)∧vs.getD 11 .none=.ref P∧vs.getD 18 .none=.str file tf∧
  vs.getD 7 .none=.int flags tg∧vs.getD 9 .none=.bool inF∧vs.getD 10 .none=.int text tt∧c≠P
variable{pos:Pos}
theorem xH {a b:Int}{c cv:Value}(l:List Value)(h:TriplesOk l)(e:codeAmong pos (l++[rawInt a,rawInt b,c])=some cv):codeAmong pos l=some cv∨cv=c:=by
 fun_induction TriplesOk l with
 | case1=>
  simp only[List.nil_append,codeAmong,rawInt] at e
  split at e
  ·exact .inr (Option.some.inj e).symm
  ·cases e
 | case2 a' t b' u x rest ih=>
  simp only[List.cons_append,codeAmong] at e ⊢
  split at e
  ·rename_i hc
   rw[if_pos hc];exact .inl e
  ·rename_i hc
   rw[if_neg hc];exact ih h e
 | case3 l h1 h2=>exact h.elim
structure NY (X:Cx)(θ:List Addr)(H:Hp)(M:aB)(qual:Str)(params:Arguments)(body:Expr)(scope:Scope)(u:Value)(H':Hp):Prop where
 ex:∃q c pm ctv,u=.ref q∧H q=none∧H' q=some (zk q (sk qual params body scope pm (.ref c) ctv))∧H' c=some (iU c qual)
 go:Go X.K θ H θ H' M
theorem yj {φ:Heap→Prop}(h1:φ h)(h2:∃o,h.get? a=some o)(h3:∀h1 h2:Heap,φ h1→(∀o,h1.get? a=some o→h2.get? a=some o)→φ h2):cz P w H h a (.ext φ):=⟨h1,h2,h3⟩
variable{s:Shared}{θ:List Addr}
theorem BN {X:Cx}{ag:List (Addr×Obj)}{σ:L2.St}{M:aB}{c P:Addr}
  (I:L2.Inv X ag σ H s) (hw:Wr X.K θ H M) (T:xg X.K x c P) (hcode:X.env.code=.ref c) (hglob:X.env.globals=mainGlobals) (hq:X.env.qual++("<lambda>":Str)=bZ x)
  (hcl:closureFor scope X.env=pure []) (hd:defaultsOf params X.env=([],[])) :
  wpAny (model X.prog X.w) X.A (eval (.Lambda params body scope pos) X.env) (fun u s'=>∃H',L2.Inv X ag σ H' s'∧NY X θ H M (bZ x) params body scope u H') X.xe s:=by
 obtain⟨ps,hP,hT,hC⟩:=hw.tb.tab x T.mem c P T.tab
 obtain⟨bm,ob,b1,b2,b3,b4,b5,b6,b7⟩:=hw.tb.bm x T.mem c P T.tab
 have hPo:s.heap.get? P=some (W.tabObj ps):=I.hok P _ hP
 have CH:W.CodeHd s.heap c P:=by
  obtain⟨o,vs,file,tf,flags,tg,inF,text,tt,e,r⟩:=T.hd
  exact⟨o,vs,file,tf,flags,tg,inF,text,tt,I.kIn _ _ e,r⟩
 have hbo:s.heap.get? bm=some ob:=(I.hok bm _ b2).1
 have hg:s.heap.Ns mainGlobals X.mg:=I.mod.glob.keeps I.bk
 have hmgb:X.mg "__builtins__"=some (.ref bm):=W.mg_of I.kIn hg b1
 have nbP:bm≠P:=fun z=>by rw[z,hP] at b2;cases b2
 have hb:s.heap.BuiltinsAt X.mg P:=⟨bm,ob,hmgb,b6,b7,nbP,hbo,b3,b4,b5⟩
 have hgP:mainGlobals≠P:=fun z=>by
  obtain⟨o,es,ep,e1,e2,_⟩:=hg
  rw[z,hPo] at e1
  cases e1
  cases e2
 rw[arm_eval_Lambda,hd]
 refine wpAny_bind (wpAny_evalAll_nil ?_)
 refine wpAny_bind (wpAny_holding (wpAny_pure ?_))
 rw[hq]
 have neP:∀b u,H b=some u→(∀ps,u≠.tbl ps)→b≠P:=fun b u e n z=>by rw[z,hP] at e;cases e;exact n _ rfl
 cases hf:codeAmong pos ps.toList with
 | some cv=>
  obtain⟨c',rfl,hc'⟩:=hC pos cv hf
  refine W.kla_makeFunctionHit hcl hglob hg hcode CH hPo hT hf hb fun ctv h' tk hk hz=>?_
  have nq:H h'.objs.size=none:=I.hok.fresh hz
  have nec:c'≠h'.objs.size:=fun z=>by rw[←z,hc'] at nq;cases nq
  refine⟨ce H h'.objs.size (zk h'.objs.size _),I.laid (t':=tk) (fun b o e=>Heap.get?_push_of_some _ (hk b o e)) hz (yj (Heap.get?_push_size _ rfl) ⟨_,Heap.get?_push_size _ rfl⟩ fun h1 h2 e k=>k _ e),⟨_,c',_,ctv,rfl,nq,bF,by rw[aC nec];exact hc'⟩,dG hw nq⟩
 | none=>
  refine W.kla_makeFunction hcl hglob hg hcode CH hPo hT hf hgP hb fun c' ctv h' tk hx hge hlt hrec htab=>?_
  have szle:s.heap.objs.size≤h'.objs.size:=Nat.le_of_lt (Nat.lt_of_le_of_lt hge hlt)
  have nq:H h'.objs.size=none:=I.hok.fresh szle
  have nc:H c'=none:=I.hok.fresh hge
  have ncq:c'≠h'.objs.size:=Nat.ne_of_lt hlt
  have nPc:P≠c':=fun z=>by rw[←z,hP] at nc;cases nc
  have nPq:P≠h'.objs.size:=fun z=>by rw[←z,hP] at nq;cases nq
  let fd:FuncData:=sk (bZ x) params body scope ((X.mg "__name__").getD .none) (.ref c') ctv
  let H':Hp:=ce (ce (ce H P (.tbl (ps++#[rawInt pos.line,rawInt pos.col,.ref c']))) c' (iU c' (bZ x))) h'.objs.size (zk h'.objs.size fd)
  have atq:H' h'.objs.size=some (zk h'.objs.size fd):=bF
  have atc:H' c'=some (iU c' (bZ x)):=by show ce _ _ _ c'=_;rw[aC ncq,bF]
  have atP:H' P=some (.tbl (ps++#[rawInt pos.line,rawInt pos.col,.ref c'])):=by show ce _ _ _ P=_;rw[aC nPq,aC nPc,bF]
  have atb:∀b u,H b=some u→b≠P→H' b=some u:=fun b u e n=>by
   have n1:b≠h'.objs.size:=fun z=>by rw[z,nq] at e;cases e
   have n2:b≠c':=fun z=>by rw[z,nc] at e;cases e
   show ce _ _ _ b=_
   rw[aC n1,aC n2,aC n];exact e
  have kp:∀b o,b≠P→s.heap.get? b=some o→(h'.push (W.kla_obj "<lambda>" (bZ x) params body scope [] ((X.mg "__name__").getD .none) c' ctv)).get? b=some o:=fun b o n e=>Heap.get?_push_of_some _ (hx b o n e)
  have un:Un X.fs [] H H' s.heap (h'.push (W.kla_obj "<lambda>" (bZ x) params body scope [] ((X.mg "__name__").getD .none) c' ctv)):=by
   have ne:∀b o,s.heap.get? b=some o→H b=none→b≠P:=fun b o _ n z=>by rw[z,hP] at n;cases n
   refine⟨fun b o e n _ _=>kp b o (ne b o e n) e,fun b o e n _ _=>⟨o.slots,kp b o (ne b o e n) e⟩,fun b o e n _=>?_,fun b o e _=>?_,fun b xs e=>atb b _ e (neP b _ e (by intro _ z;cases z)),fun b o u e=>atb b _ e (neP b _ e (by intro _ z;cases z)),fun b qs e=>?_⟩
   ·have n1:b≠h'.objs.size:=Nat.ne_of_lt (Nat.lt_of_lt_of_le (Heap.lt_size e) szle)
    have n2:b≠c':=Nat.ne_of_lt (Nat.lt_of_lt_of_le (Heap.lt_size e) hge)
    show ce _ _ _ b=_
    rw[aC n1,aC n2,aC (ne b o e n)];exact n
   ·by_cases hb:b=P
    ·exact⟨_,by rw[hb];exact Heap.get?_push_of_some _ htab⟩
    ·exact⟨o,kp b o hb e⟩
   ·by_cases hb:b=P
    ·subst hb
     rw[hP] at e;cases e
     exact⟨_,atP⟩
    ·exact⟨#[],by rw[atb b _ e hb];simp⟩
  have hok:kS X.prog X.w H' (h'.push (W.kla_obj "<lambda>" (bZ x) params body scope [] ((X.mg "__name__").getD .none) c' ctv)):=fun b u e=>by
   by_cases h1:b=h'.objs.size
   ·subst h1
    rw[atq] at e;cases e
    exact yj (Heap.get?_push_size _ rfl) ⟨_,Heap.get?_push_size _ rfl⟩ fun h1 h2 e k=>k _ e
   ·by_cases h2:b=c'
    ·subst h2
     rw[atc] at e;cases e
     refine yj (hrec.keeps fun b o e=>Heap.get?_push_of_some _ e) ?_ fun h1 h2 e k=>e.at k
     obtain⟨c2,o,vs,t,e1,e2,_⟩:=hrec
     cases e1
     exact⟨o,Heap.get?_push_of_some _ e2⟩
    ·by_cases h3:b=P
     ·subst h3
      rw[atP] at e;cases e
      exact Heap.get?_push_of_some _ htab
     ·have e:ce (ce (ce H P _) c' _) h'.objs.size _ b=some u:=e
      rw[aC h1,aC h2,aC h3] at e
      refine(I.hok b u e).stay (fun b' v hb' z=>kp b' v ?_ z) (fun b' z=>atb b' _ z (neP b' _ z (by intro _ y;cases y))) fun b' xs z=>atb b' _ z (neP b' _ z (by intro _ y;cases y))
      rcases hb' with z|z
      ·rw[z];exact h3
      ·exact neP b' _ z (by intro _ y;cases y)
  refine⟨H',I.un (t':=tk) un hok,⟨h'.objs.size,c',_,ctv,rfl,nq,atq,atc⟩,?_⟩
  have gr:Grow θ H θ H':=⟨⟨[],by simp,fun _ z=>by cases z⟩,fun b u e _ n=>atb b u e (neP b u e n),fun b qs e=>by
   by_cases hb:b=P
   ·rw[hb];exact⟨_,atP⟩
   ·exact⟨qs,atb b _ e hb⟩⟩
  refine⟨gr,hw.len,hw.nd,fun i a m h1 h2=>?_,?_,?_⟩
  ·have ok:=hw.at_ i a m h1 h2
   obtain⟨o,eo,po⟩:=ok.plain
   have e:H' a=H a:=by
    rw[eo]
    exact atb a o eo (neP a o eo (by intro qs z;subst z;cases po))
   exact ok.grow gr e
  ·intro y hy c2 P2 e2
   obtain⟨qs,q1,q2,q3⟩:=hw.tb.tab y hy c2 P2 e2
   by_cases hPP:P2=P
   ·have hyx:y=x:=by
     refine Classical.byContradiction fun z=>?_
     rw[hPP] at e2
     exact T.uniq y hy z c2 e2
    subst hyx hPP
    rw[hP] at q1;cases q1
    refine⟨_,atP,?_,fun pos' cv z=>?_⟩
    ·rw[Array.toList_append]
     exact TriplesOk_snoc _ _ _ _ q2
    ·rw[Array.toList_append] at z
     rcases xH _ q2 z with z|z
     ·obtain⟨c3,e3,e4⟩:=q3 pos' cv z
      exact⟨c3,e3,atb c3 _ e4 (neP c3 _ e4 (by intro _ y;cases y))⟩
     ·exact⟨c',z,atc⟩
   ·refine⟨qs,atb P2 _ q1 hPP,q2,fun pos' cv z=>?_⟩
    obtain⟨c3,e3,e4⟩:=q3 pos' cv z
    exact⟨c3,e3,atb c3 _ e4 (neP c3 _ e4 (by intro _ y;cases y))⟩
  ·intro y hy c2 P2 e2
   obtain⟨bm2,ob2,z1,z2,r⟩:=hw.tb.bm y hy c2 P2 e2
   exact⟨bm2,ob2,z1,atb bm2 _ z2 (neP bm2 _ z2 (by intro _ y;cases y)),r⟩
def pV:List D→Option (List Int)
 | []=>some []
 | .int i::r=>(pV r).map (i::·)
 | _=>none
def oY:D→Option (List Int)
 | .tup ds=>pV ds
 | _=>none
theorem wg {K:W.Frag}{θ:List Addr}{H:Hp}:∀{ds:List D} {ks:List Int} {vs:List V},pV ds=some ks→bn K θ H ds vs→vs=ks.map V.int
 | [],ks,vs,h,r=>by cases h;exact r
 | d::ds,ks,vs,h,r=>by
  obtain⟨v,rr,e,h1,h2⟩:=r
  cases d with
  | int i=>
   cases q:pV ds with
   | none=>simp[pV,q] at h
   | some l=>
    simp[pV,q] at h
    subst h
    have h1:v=.int i:=h1
    rw[e,h1,wg q h2];rfl
  | _=>cases h
theorem qj {d:D}{ks:List Int}{v:V}(h:oY d=some ks)(r:dX K θ H d v):∃a,v=.ref a∧m3 K θ H a (ks.map V.int):=by
 cases d with
 | tup ds=>
  obtain⟨a,vs,e,t,rs⟩:=r
  have:=wg (show pV ds=some ks from h) rs
  subst this
  exact⟨a,e,t⟩
 | _=>cases h
def oO (F:FD):List D→D→List Int→aB→bg D
 | [],b,_,M=>.ok b M
 | d::r,b,kb,M=>match F [d] M with
  | .ok k M1=>match oY k with
   | some ks=>if HT.lexLt ks kb then oO F r d ks M1 else oO F r b kb M1
   | none=>.bad
  | _=>.bad
def nV (F:FD)(ds:List D)(M:aB):bg D:=match ds with
 | []=>.bad
 | d::r=>match F [d] M with
  | .ok k M1=>match oY k with
   | some ks=>oO F r d ks M1
   | none=>.bad
  | _=>.bad
variable{Q:VK}{ds0:List D}
section
variable {X:Cx}{ag:List (Addr×Obj)}{σ:L2.St}{q c:Addr}{fd:FuncData}{px qual:Str}{k:Nat}{F:FD}
theorem vY {u:Value}{v:V}{E:Value→Shared→Prop}{M M1:aB}{d kd:D}
  (Fn:dE X.prog X.w X.K X.mg X.base (gU X.prog X.w) k q fd [px] (fun vs H Q E=>H q=some (zk q fd)∧H c=some (iU c qual)∧mY X.K 1 F vs H Q E)) (hr:bv k X.A.in1) (hb:∀(s:Shared) (u:Value),BindsTo s fd ⟨[u],[]⟩ [(px,u)])
  (I:L2.Inv X ag σ H s) (hq:H q=some (zk q fd)) (hc:H c=some (iU c qual)) (hw:Wr X.K θ H M) (rv:bc v u) (rd:dX X.K θ H d v) (e:F [d] M=.ok kd M1)
  (hQ:∀v' θ' H',Go X.K θ H θ' H' M1→dX X.K θ' H' kd v'→Q v' H'):wpAny (model X.prog X.w) X.A.in1 (call (.ref q) [u]) (EP X ag σ Q) E s:=by
 refine wpAny_call (codeAny_mono (Fn.run X.A.in1 X.stack s H ⟨[u],[]⟩ [u] [v] Q (fun _ _ _=>False) hr I.env0.in1 (hb s u) (.cons rv .nil) ⟨hq,hc,θ,M,[d],rfl,⟨v,[],rfl,rd,rfl⟩,hw,by rw[e];exact hQ⟩) fun r s' hq=>?_)
 cases r with
 | error e=>
  have hq:gU X.prog X.w X.stack H s (fun _ _ _=>False) e s':=hq
  obtain⟨_,_,_,_,_,_,_,_,_,_,_,_,_,_,z⟩:=hq
  exact z.elim
 | ok fl=>
  cases fl with
  | ret u=>exact I.after hq
  | next=>exact False.elim hq
  | brk=>exact False.elim hq
  | cont=>exact False.elim hq
theorem zr {H':Hp}{b:Addr}(h:jI X ag H b)(n:H' b=none):jI X ag H' b:=⟨n,h.2⟩
theorem Lb {b:Addr}{oa ob:Obj}(I:L2.Inv X ag σ H s)(fa:jI X ag H a)(fb:jI X ag H b)(ea:s.heap.get? a=some oa)(eb:s.heap.get? b=some ob)(da:∀v,oa.data≠.cell v)(db:∀v,ob.data≠.cell v) :
  L2.Inv X (ag++[(a,oa),(b,ob)]) σ H s:=I.pins_of fun p hp=>by
 rcases List.mem_append.mp hp with z|z
 ·exact I.pin p (List.mem_append_right _ z)
 ·simp only[List.mem_cons,List.mem_nil_iff,or_false] at z
  rcases z with z|z <;> subst z
  ·exact⟨ea,fa.1,fa.2.1,fa.2.2.1,da⟩
  ·exact⟨eb,fb.1,fb.2.1,fb.2.2.1,db⟩
theorem A2 {b:Addr}{oa ob:Obj}(I:L2.Inv X (ag++[(a,oa),(b,ob)]) σ H s):L2.Inv X ag σ H s∧(s.heap.get? a=some oa∧H a=none)∧(s.heap.get? b=some ob∧H b=none):=by
 have p1:=I.pin (a,oa) (List.mem_append_right _ (List.mem_append_right _ (by simp)))
 have p2:=I.pin (b,ob) (List.mem_append_right _ (List.mem_append_right _ (by simp)))
 exact⟨I.unpinned,⟨p1.1,p1.2.1⟩,p2.1,p2.2.1⟩
theorem Dq {l it S:Addr}{R:Result→Shared→Prop}
  (Fn:dE X.prog X.w X.K X.mg X.base (gU X.prog X.w) k q fd [px] (fun vs H Q E=>H q=some (zk q fd)∧H c=some (iU c qual)∧mY X.K 1 F vs H Q E)) (hr:bv (k+1) X.A) (hb:∀(s:Shared) (u:Value),BindsTo s fd ⟨[u],[]⟩ [(px,u)]) (hcalm:X.calm=true)
  (hnI:S≠it) (hR:∀u s',EP X ag σ Q u s'→R (.ok (.ret u)) s') :
  ∀(rest:List D) (j:Nat) (s:Shared) (H:Hp) (θ:List Addr) (M:aB) (b:D) (kb:List Int) (vb ukb:V) (ub ukv:Value) (n:Nat) (vs:List V),ds0.drop j=rest→L2.Inv X ag σ H s→jI X ag H it→jI X ag H S→s.heap.IsListIter it l j→s.heap.get? S=some (seqObj "list" #[ub,ukv] n)→
   Wr X.K θ H M→rN X.K θ H l vs→bn X.K θ H ds0 vs→H q=some (zk q fd)→H c=some (iU c qual)→dX X.K θ H b vb→bc vb ub→(∃a,ukb=.ref a∧m3 X.K θ H a (kb.map V.int))→bc ukb ukv→aP X θ H Q (oO F rest b kb M)→
   codeAny (model X.prog X.w) X.A (.builtin "min.loop" ⟨[.ref it,.ref q,.ref S],[]⟩) R s:=by
 have hname:(toString "min"++toString ".loop":String)="min.loop":=by decide
 have hr1:bv k X.A.in1:=hr.in1
 intro rest
 induction rest with
 | nil=>
  intro j s H θ M b kb vb ukb ub ukv n vs hd I fi fS st eS hw ta r hq hc rb rvb rk rvk h
  refine codeAny_builtin PySem.F.entry_min_loop ?_
  rw[Around.under_plainId PySem.F.plain_min_loop _]
  show wpAny _ X.A.in1 (seqItems? (.ref S) >>= _) _ _ _
  refine wpAny_bind (wpAny_seqItems eS rfl ?_)
  obtain⟨its,rv,p,hz⟩:=I.list ta.sq
  have hlen:vs.length≤j:=by rw[←ay r];exact List.drop_eq_nil_iff.mp hd
  have hl:=rv.length
  show wpAny _ X.A.in1 (tryCatch (pyNext (.ref it)) _ >>= _) _ _ _
  refine wpAny_bind (wpAny_tryCatch (wpAny_pyNext_list_end (show X.A.in1.handled=none from I.ok.hd hcalm) st p.isList (by simp;omega) fun h' eb=>?_))
  have I1:L2.Inv X ag σ H {s with heap:=h'}:=I.turned (t':=s.toks) (fun b o hb e=>eb b o hb e) fi.1 fi.2.1 fi.2.2.2.1 fi.2.2.2.2.1 fi.2.2.2.2.2
  have eS':h'.get? S=some (seqObj "list" #[ub,ukv] n):=eb S _ hnI eS
  show wpAny _ X.A.in1 (updateSeq S (fun _=>#[]) >>= _) _ _ _
  refine wpAny_bind (wpAny_updateSeq eS' rfl (wpAny_bind (wpAny_letGo (wpAny_pure ?_))))
  have I2:L2.Inv X ag σ H {s with heap:=h'.update S (Obj.mapSeq fun _=>#[])}:=I1.turned (t':=s.toks) (fun b o hb e=>(Heap.get?_update_other h' _ (Ne.symm hb)).trans e) fS.1 fS.2.1 fS.2.2.2.1 fS.2.2.2.2.1 fS.2.2.2.2.2
  exact hR ub _ ⟨vb,H,I2,rvb,h vb θ H (.refl hw) rb⟩
 | cons d rest ih=>
  intro j s H θ M b kb vb ukb ub ukv n vs hd I fi fS st eS hw ta r hq hc rb rvb rk rvk h
  have hj:ds0[j]?=some d:=by
   have:=congrArg (·[0]?) hd
   simpa using this
  have hd':ds0.drop (j+1)=rest:=by
   rw[←List.drop_drop,hd];rfl
  obtain⟨v,ev,rdv⟩:=fX r hj
  refine codeAny_builtin PySem.F.entry_min_loop ?_
  rw[Around.under_plainId PySem.F.plain_min_loop _]
  show wpAny _ X.A.in1 (seqItems? (.ref S) >>= _) _ _ _
  refine wpAny_bind (wpAny_seqItems eS rfl ?_)
  obtain⟨its,rv,p,hz⟩:=I.list ta.sq
  obtain⟨u,eu,ru⟩:=rv.get ev
  show wpAny _ X.A.in1 (tryCatch (pyNext (.ref it)) _ >>= _) _ _ _
  refine wpAny_bind (wpAny_tryCatch (wpAny_pyNext_list_item st p.isList (x:=u) (by simpa using eu) fun h' st' sb=>?_))
  have I1:L2.Inv X ag σ H {s with heap:=h'}:=I.turned (t':=s.toks) (fun b o hb e=>(sb.2 b hb).trans e) fi.1 fi.2.1 fi.2.2.2.1 fi.2.2.2.2.1 fi.2.2.2.2.2
  have eS1:h'.get? S=some (seqObj "list" #[ub,ukv] n):=(sb.2 S hnI).trans eS
  obtain⟨oI,hoI,cI,dI⟩:=id st'
  have I1p:=Lb I1 fS fi eS1 hoI (by intro v z;cases z) (by intro v z;rw[dI] at z;cases z)
  unfold oO at h
  cases eF:F [d] M with
  | bad=>rw[eF] at h;exact h.elim
  | err _ _=>rw[eF] at h;exact h.elim
  | ok kd M1=>
   rw[eF] at h
   dsimp only at h
   cases eK:oY kd with
   | none=>rw[eK] at h;exact h.elim
   | some ks=>
    rw[eK] at h
    dsimp only at h
    show wpAny _ X.A.in1 (tryCatch (holding [u] (call (.ref q) [u])) _ >>= _) _ _ _
    refine wpAny_bind (wpAny_tryCatch (wpAny_holding (cy (vY (Q:=fun v' H'=>∃θ',Go X.K θ H θ' H' M1∧dX X.K θ' H' kd v') Fn hr1 hb I1p hq hc hw ru rdv eF fun v' θ' H' g rd=>⟨θ',g,rd⟩) fun uk s2 ⟨vk,H2,I2p,rvk2,θ2,g2,rk2⟩=>?_)))
    obtain⟨I2,⟨eS2,nS2⟩,eI2,nI2⟩:=A2 I2p
    have fS2:=zr fS nS2
    have fi2:=zr fi nI2
    have st2:s2.heap.IsListIter it l (j+1):=⟨oI,eI2,cI,dI⟩
    obtain⟨ak,eak,tk2⟩:=qj eK rk2
    obtain⟨ab,eab,tb2⟩:=rk
    have tb2:=tb2.grow g2.toGrow
    subst eak eab
    have ek:uk=.ref ak:=rvk2
    have eb':ukv=.ref ab:=rvk
    subst ek eb'
    obtain⟨i1,r1,p1,_⟩:=I2.tuple tk2.sq
    obtain⟨i2,r2,p2,_⟩:=I2.tuple tb2.sq
    have hq2:H2 q=some (zk q fd):=g2.keep q _ hq (fun z=>by
     obtain⟨i,hi,e⟩:=List.mem_iff_getElem.mp z
     obtain⟨o,eo,po⟩:=hw.plain (i:=i) (by rw[List.getElem?_eq_getElem hi,e])
     rw[hq] at eo;cases eo;cases po) (by intro _ z;cases z)
    have hc2:H2 c=some (iU c qual):=g2.keep c _ hc (fun z=>by
     obtain⟨i,hi,e⟩:=List.mem_iff_getElem.mp z
     obtain⟨o,eo,po⟩:=hw.plain (i:=i) (by rw[List.getElem?_eq_getElem hi,e])
     rw[hc] at eo;cases eo;cases po) (by intro _ z;cases z)
    have h2:=aP.go g2 h
    show wpAny _ X.A.in1 (tryCatch (holding [u,.ref ak] (richCompare .Lt (.ref ak) (.ref ab) >>= _)) _ >>= _) _ _ _
    refine wpAny_bind (wpAny_tryCatch (wpAny_holding (wpAny_bind (HT.lt_tupInts p1 p2 (mz r1) (mz r2) hr1.units0 ?_))))
    refine wpAny_bind (wpAny_holding (wpAny_truthy_bool ?_))
    refine wpAny_bind (wpAny_letGo (wpAny_pure ?_))
    by_cases hlt:HT.lexLt ks kb=true
    ·rw[if_pos hlt] at h2
     simp only[hlt,if_true]
     refine wpAny_bind (wpAny_updateSeq eS2 rfl (wpAny_bind (wpAny_letGo ?_)))
     rw[hname]
     obtain⟨n3,eS3⟩:∃n3,(s2.heap.update S (Obj.mapSeq fun _=>#[u,.ref ak])).get? S=some (seqObj "list" #[u,.ref ak] n3):=⟨_,get?_update_seq eS2 fun _=>#[u,.ref ak]⟩
     have kp:∀b o,b≠S→s2.heap.get? b=some o→(s2.heap.update S (Obj.mapSeq fun _=>#[u,.ref ak])).get? b=some o:=fun b o hb e=>(Heap.get?_update_other s2.heap _ (Ne.symm hb)).trans e
     have I3:L2.Inv X ag σ H2 {s2 with heap:=s2.heap.update S (Obj.mapSeq fun _=>#[u,.ref ak])}:=I2.turned (t':=s2.toks) kp fS2.1 fS2.2.1 fS2.2.2.2.1 fS2.2.2.2.2.1 fS2.2.2.2.2.2
     exact wpAny_pure ⟨plainId_quiet PySem.F.plain_min_loop _,ih (j+1) _ H2 θ2 M1 d ks v _ u (.ref ak) n3 vs hd' I3 fi2 fS2 ⟨oI,kp it oI (Ne.symm hnI) eI2,cI,dI⟩ eS3 g2.wr (ta.grow g2.toGrow) (r.go g2) hq2 hc2 (rdv.go g2) ru ⟨ak,rfl,tk2⟩ rfl h2⟩
    ·have hlt':HT.lexLt ks kb=false:=by simpa using hlt
     rw[if_neg hlt] at h2
     simp only[hlt',Bool.false_eq_true,if_false]
     refine wpAny_bind (wpAny_letGo ?_)
     rw[hname]
     exact wpAny_pure ⟨plainId_quiet PySem.F.plain_min_loop _,ih (j+1) s2 H2 θ2 M1 b kb vb _ ub (.ref ab) n vs hd' I2 fi2 fS2 st2 eS2 g2.wr (ta.grow g2.toGrow) (r.go g2) hq2 hc2 (rb.go g2) rvb ⟨ab,rfl,tb2⟩ rfl h2⟩
end
section
variable {X:Cx}{ag:List (Addr×Obj)}{σ:L2.St}{q c:Addr}{fd:FuncData}{px qual:Str}{k:Nat}{F:FD}
theorem C5 {l:Addr}{M:aB}{vs:List V}
  (Fn:dE X.prog X.w X.K X.mg X.base (gU X.prog X.w) k q fd [px] (fun vs H Q E=>H q=some (zk q fd)∧H c=some (iU c qual)∧mY X.K 1 F vs H Q E)) (hr:bv (k+1) X.A) (hb:∀(s:Shared) (u:Value),BindsTo s fd ⟨[u],[]⟩ [(px,u)]) (hcalm:X.calm=true)
  (I:L2.Inv X ag σ H s) (hw:Wr X.K θ H M) (ta:rN X.K θ H l vs) (r:bn X.K θ H ds0 vs) (hq:H q=some (zk q fd)) (hc:H c=some (iU c qual)) (h:aP X θ H Q (nV F ds0 M)) :
  wpAny (model X.prog X.w) X.A (call (.builtin "min") [.ref l] [(Str.ofString "key",.ref q)]) (EP X ag σ Q) X.xe s:=by
 have hname:(toString "min"++toString ".loop":String)="min.loop":=by decide
 have hr1:bv k X.A.in1:=hr.in1
 cases ds0 with
 | nil=>exact h.elim
 | cons d rest=>
  unfold nV at h
  dsimp only at h
  cases eF:F [d] M with
  | bad=>rw[eF] at h;exact h.elim
  | err _ _=>rw[eF] at h;exact h.elim
  | ok kd M1=>
   rw[eF] at h
   dsimp only at h
   cases eK:oY kd with
   | none=>rw[eK] at h;exact h.elim
   | some ks=>
    rw[eK] at h
    dsimp only at h
    obtain⟨v,ev,rdv⟩:=fX (i:=0) r rfl
    obtain⟨its,rv,p,hz⟩:=I.list ta.sq
    obtain⟨u,eu,ru⟩:=rv.get ev
    refine kmk_tree PySem.F.kind_min PySem.F.plain_min PySem.F.entry_min (kmk_min_key _ _) ?_
    show wpAny _ X.A.in1 (Builtin.Builtins.bindParams "min" ["key","default"] 0 ⟨[],[(Str.ofString "key",.ref q)]⟩ >>= _) _ _ s
    refine wpAny_bind (wpAny_of_eq (show Builtin.Builtins.bindParams "min" ["key","default"] 0 ⟨[],[(Str.ofString "key",.ref q)]⟩=pure [some (.ref q),none] from rfl) ?_)
    refine wpAny_bind (wpAny_pure ?_)
    refine wpAny_bind (wpAny_pyIter_list p.isList ?_)
    refine wpAny_bind (wpAny_newList ?_ (Nat.zero_le _))
    rw[hname]
    have hS:(s.heap.push {cls:=.type "list_iterator",data:=.fields #[.ref l,.int 0 0]}).objs.size=s.heap.objs.size+1:=size_push' ..
    have fi:jI X ag H s.heap.objs.size:=I.fpOk (Nat.le_refl _) (I.hok.fresh (Nat.le_refl _))
    have leS:s.heap.objs.size≤(s.heap.push {cls:=.type "list_iterator",data:=.fields #[.ref l,.int 0 0]}).objs.size:=by rw[hS];exact Nat.le_succ _
    have fS:jI X ag H (s.heap.push {cls:=.type "list_iterator",data:=.fields #[.ref l,.int 0 0]}).objs.size:=I.fpOk leS (I.hok.fresh leS)
    have hnI:(s.heap.push {cls:=.type "list_iterator",data:=.fields #[.ref l,.int 0 0]}).objs.size≠s.heap.objs.size:=by rw[hS];exact Nat.ne_of_gt (Nat.lt_succ_self _)
    have gI:((s.heap.push {cls:=.type "list_iterator",data:=.fields #[.ref l,.int 0 0]}).push (seqObj "list" #[] 0)).get? s.heap.objs.size=some {cls:=.type "list_iterator",data:=.fields #[.ref l,.int 0 0]}:=Heap.get?_push_of_some _ (Heap.get?_push_size _ rfl)
    have gS:((s.heap.push {cls:=.type "list_iterator",data:=.fields #[.ref l,.int 0 0]}).push (seqObj "list" #[] 0)).get? (s.heap.push {cls:=.type "list_iterator",data:=.fields #[.ref l,.int 0 0]}).objs.size=some (seqObj "list" #[] 0):=Heap.get?_push_size _ rfl
    have I0:L2.Inv X ag σ H {s with heap:=(s.heap.push {cls:=.type "list_iterator",data:=.fields #[.ref l,.int 0 0]}).push (seqObj "list" #[] 0)}:=I.kept (t':=s.toks) fun b o e=>Heap.get?_push_of_some _ (Heap.get?_push_of_some _ e)
    generalize (s.heap.push {cls:=.type "list_iterator",data:=.fields #[.ref l,.int 0 0]}).objs.size=S at *
    generalize hit:s.heap.objs.size=it at *
    refine wpAny_pure ⟨plainId_quiet PySem.F.plain_min_loop _,?_⟩
    refine codeAny_builtin PySem.F.entry_min_loop ?_
    rw[Around.under_plainId PySem.F.plain_min_loop _]
    show wpAny _ X.A.in1 (seqItems? (.ref S) >>= _) _ _ _
    refine wpAny_bind (wpAny_seqItems gS rfl ?_)
    obtain⟨its',rv',p',hz'⟩:=I0.list ta.sq
    obtain⟨u',eu',ru'⟩:=rv'.get ev
    show wpAny _ X.A.in1 (tryCatch (pyNext (.ref it)) _ >>= _) _ _ _
    refine wpAny_bind (wpAny_tryCatch (wpAny_pyNext_list_item (i:=0) ⟨_,gI,rfl,rfl⟩ p'.isList (x:=u') (by simpa using eu') fun h' st' sb=>?_))
    have I1:L2.Inv X ag σ H {s with heap:=h'}:=I0.turned (t':=s.toks) (fun b o hb e=>(sb.2 b hb).trans e) fi.1 fi.2.1 fi.2.2.2.1 fi.2.2.2.2.1 fi.2.2.2.2.2
    have eS1:h'.get? S=some (seqObj "list" #[] 0):=(sb.2 S hnI).trans gS
    obtain⟨oI,hoI,cI,dI⟩:=id st'
    have I1p:=Lb I1 fS fi eS1 hoI (by intro v z;cases z) (by intro v z;rw[dI] at z;cases z)
    show wpAny _ X.A.in1 (tryCatch (holding [u'] (call (.ref q) [u'])) _ >>= _) _ _ _
    refine wpAny_bind (wpAny_tryCatch (wpAny_holding (cy (vY (Q:=fun v' H'=>∃θ',Go X.K θ H θ' H' M1∧dX X.K θ' H' kd v') Fn hr1 hb I1p hq hc hw ru' rdv eF fun v' θ' H' g rd=>⟨θ',g,rd⟩) fun uk s2 ⟨vk,H2,I2p,rvk2,θ2,g2,rk2⟩=>?_)))
    obtain⟨I2,⟨eS2,nS2⟩,eI2,nI2⟩:=A2 I2p
    have fS2:=zr fS nS2
    have fi2:=zr fi nI2
    obtain⟨ak,eak,tk2⟩:=qj eK rk2
    have notin:∀(a:Addr) (φ:Heap→Prop),H a=some (.ext φ)→a∉θ:=fun a φ e z=>by
     obtain⟨i,hi,e'⟩:=List.mem_iff_getElem.mp z
     obtain⟨o,eo,po⟩:=hw.plain (i:=i) (by rw[List.getElem?_eq_getElem hi,e'])
     rw[e] at eo;cases eo;cases po
    have hq2:H2 q=some (zk q fd):=g2.keep q _ hq (notin q _ hq) (by intro _ z;cases z)
    have hc2:H2 c=some (iU c qual):=g2.keep c _ hc (notin c _ hc) (by intro _ z;cases z)
    have h2:=aP.go g2 h
    refine wpAny_bind ?_
    show wpAny _ X.A.in1 (updateSeq S (fun _=>#[u',uk])) _ _ _
    refine wpAny_updateSeq eS2 rfl ?_
    rw[hname]
    obtain⟨n3,eS3⟩:∃n3,(s2.heap.update S (Obj.mapSeq fun _=>#[u',uk])).get? S=some (seqObj "list" #[u',uk] n3):=⟨_,get?_update_seq eS2 fun _=>#[u',uk]⟩
    have kp:∀b o,b≠S→s2.heap.get? b=some o→(s2.heap.update S (Obj.mapSeq fun _=>#[u',uk])).get? b=some o:=fun b o hb e=>(Heap.get?_update_other s2.heap _ (Ne.symm hb)).trans e
    have I3:L2.Inv X ag σ H2 {s2 with heap:=s2.heap.update S (Obj.mapSeq fun _=>#[u',uk])}:=I2.turned (t':=s2.toks) kp fS2.1 fS2.2.1 fS2.2.2.2.1 fS2.2.2.2.2.1 fS2.2.2.2.2.2
    exact wpAny_pure ⟨plainId_quiet PySem.F.plain_min_loop _,Dq (ds0:=d::rest) Fn hr hb hcalm hnI (fun u s' e=>e) rest 1 _ H2 θ2 M1 d ks v vk u' uk n3 vs rfl I3 fi2 fS2 ⟨oI,kp it oI (Ne.symm hnI) eI2,cI,dI⟩ eS3 g2.wr (ta.grow g2.toGrow) (r.go g2) hq2 hc2 (rdv.go g2) ru' ⟨ak,eak,tk2⟩ rvk2 h2⟩
end
def o4 (F:FD)(g:GE):GE:=fun ρ M=>(g ρ M).bind fun d M1=>match d with
 | .lst ds=>nV F ds M1
 | .ro ds=>nV F ds M1
 | _=>.bad
theorem Et {X:Cx}{px:Str}{c P:Addr}{e:Expr}{g gb:GE}{p lpos kpos:Pos}{k:Nat}{N:List Str}
  (T:xg X.K x c P) (hr:bv (k+2) X.A) (hg:Gl X "min") (hm:X.mg "min"=none) (hv:bootBuiltins "min"=some (.builtin "min")) (he:PE X e (tE X g)) (hcode:X.env.code=.ref c) (hglob:X.env.globals=mainGlobals) (hq:X.env.qual++("<lambda>":Str)=bZ x)
  (hcl:closureFor scope X.env=pure []) (hd:defaultsOf params X.env=([],[])) (hcalm:X.calm=true) (S:d9 N [px] scope)
  (hbody:∀(q c':Addr) (A:Around) (outer:List Env) (s:Shared) (H:Hp) (E:XK),bv k (A.deeper (envOfC (bZ x) scope s.heap.objs.size q (.ref c')))→
   PE (gX (gU X.prog X.w) X.prog X.w X.K X.mg X.base N (bZ x) scope q (.ref c') A outer s H E) body (tE (gX (gU X.prog X.w) X.prog X.w X.K X.mg X.base N (bZ x) scope q (.ref c') A outer s H E) gb))
  (hb:∀(pm cv ctv:Value) (s:Shared) (u:Value),BindsTo s (sk (bZ x) params body scope pm cv ctv) ⟨[u],[]⟩ [(px,u)]) (h1:bu e=true) :
  PE X (.Call (.Name "min" p) [e] [⟨some "key",.Lambda params body scope lpos,kpos⟩] pos) (tE X (o4 (yi (N.length-1) gb) g)):=by
 intro ag s σ H Q I h
 obtain⟨ρ,θ,M,hden,hw,h⟩:=h
 have hs:starEach [e] X.env=[(false,eval e X.env)]:=by rw[sE h1];rfl
 refine wpAny_Call_Name_kw (nR I hg hm hv ?_)
 refine callWith_kw (e:=e) (rest:=[]) (cy ((lP he qR hs) pos ag s σ H _ I (show Ga (tE X g) Ip σ H (fun xs H1=>∃v d θ1 M1,xs=[v]∧Go X.K θ H θ1 H1 M1∧dX X.K θ1 H1 d v∧aP X θ H Q (match d with | .lst ds=>nV (yi (N.length-1) gb) ds M1 | .ro ds=>nV (yi (N.length-1) gb) ds M1|_=>.bad)) from
  bI hden hw (aP X θ H Q) (fun c M' h=>h) (fun h=>h) h fun d M1 v θ1 H1 g1 r1 h1=>⟨v,d,θ1,M1,rfl,g1,r1,h1⟩)) fun us s1 ⟨xs,H1,I1,rx,v,d,θ1,M1,ex,g1,r1,h1⟩=>?_) (by rw[hs];rfl) (by rw[hs];rfl)
 subst ex
 obtain⟨u,rfl,ru⟩:=l6 rx
 refine kws_cons (cy (BN I1 g1.wr T hcode hglob hq hcl hd) fun uq s2 ⟨H2,I2,Md⟩=>kws_nil ?_)
 obtain⟨⟨q,c',pm,ctv,rfl,nq,hfq,hfc⟩,g2⟩:=Md
 have h2:=aP.go (g1.trans g2) h1
 have Fn:=Jo (P:=X.prog) (w:=X.w) (K:=X.K) (mg:=X.mg) (base:=X.base) (qual:=bZ x) (params:=params) (body:=body) (scope:=scope) (pm:=pm) (ctv:=ctv) (q:=q) (c:=c') (n:=1) S rfl (fun A outer s H E hr=>hbody q c' A outer s H E hr)
 have run:∀(l:Addr) (ds:List D) (vs:List V),u=.ref l→rN X.K θ1 H2 l vs→bn X.K θ1 H2 ds vs→aP X θ1 H2 Q (nV (yi (N.length-1) gb) ds M1)→wpAny (model X.prog X.w) X.A (call (.builtin "min") [u] [(Str.ofString "key",.ref q)]) (EP X ag σ Q) X.xe s2:=fun l ds vs eu ta r hh=>by
  rw[eu]
  exact C5 Fn hr (hb pm _ ctv) hcalm I2 g2.wr ta r hfq hfc hh
 show wpAny _ X.A (call (.builtin "min") [u] [(Str.ofString "key",.ref q)]) _ _ s2
 cases d with
 | lst ds=>
  obtain⟨a,vs,ea,ta,rs⟩:=r1.go g2
  subst ea
  exact run a ds vs ru (.inl ⟨.inl ta.1,ta.2⟩) rs h2
 | ro ds=>
  obtain⟨a,vs,ea,ta,rs⟩:=r1.go g2
  subst ea
  exact run a ds vs ru ta rs h2
 | _=>exact h2.elim
theorem Lh {st:Stmt}{f c Pt:Addr}{N ps:List Str}{k n:Nat}{g:GS}(F:FN K x x st f fd)(hns:W.nsIn K mainGlobals x=some (some (.ref f)))(T:xg K x c Pt)(S:d9 N ps (aK st))(hn:ps.length=n)
  (hbody:∀(A:Around) (outer:List Env) (s:Shared) (H:Hp) (E:XK),bv k (A.deeper (envOfC x (aK st) s.heap.objs.size f (.ref c)))→PSs (gX (gU P w) P w K mg base N x (aK st) f (.ref c) A outer s H E) (cu st) (tS (gX (gU P w) P w K mg base N x (aK st) f (.ref c) A outer s H E) g)) :
  dE P w K mg base (gU P w) (k+1) f fd ps (mY K n (a9 (N.length-n) g)):=by
 obtain⟨oc,od,kV,doc,pm,an,cdv,ct,osl,rfl,lk,hcd⟩:=F.ex
 have ec:cdv=.ref c:=by
  have t:=T.tab
  unfold W.tabIn at t
  rw[hns] at t
  dsimp only at t
  rw[lk] at t
  dsimp only at t
  cases cdv with
  | ref c'=>
   dsimp only at t
   split at t
   ·split at t
    ·cases t;rfl
    ·cases t
   ·cases t
  | _=>cases t
 subst ec
 refine FX lk hcd S (pw hn) fun A outer s H vs Q E hr h=>⟨_,hbody A outer s H E hr,?_⟩
 obtain⟨θ,M,ds,hl,r,hw,h⟩:=h
 have hv:vs.length=n:=by rw[←ay r];exact hl
 refine⟨jw (N.length-n) ds,θ,M,by rw[←hv];exact IF r N,hw,?_⟩
 have h:yO K θ H Q E (aH (g (jw (N.length-n) ds) M)):=h
 unfold aH at h
 cases q:g (jw (N.length-n) ds) M with
 | bad=>rw[q] at h;exact h
 | err c M1=>
  rw[q] at h
  have h:BW K θ H E c M1:=h
  exact fun C θ' H' a s' kC g1 fl=>mQ fl (h C θ' H' a kC g1)
 | ok fl M1=>
  rw[q] at h
  cases fl with
  | rt d=>exact h
  | nx ρ1=>exact fun σ1 θ1 H1 g1 _=>h .non θ1 H1 g1 rfl
  | bk ρ1=>exact h.elim
  | ct ρ1=>exact h.elim
end DL
namespace DL
open PySem PySem.Spec PyProof.Rows L2
section
open PySem.SeqAt
open PySem.AutoSeq1 (wpAny_loadPart')
open PySem.MeetsSeq PySem.MeetsSeq2 PySem.MeetsSeq3
end
theorem Ff {K:W.Frag}{x:Str}{f c P:Addr}{oc occ:Value}{od odc:Option Addr}{fd:FuncData}{sl slc:Array (Option Value)}{vs:Array Value}{file:Str}{tf tg tt:Tok}{flags text:Int}{inF:Bool}
  (hm:x∈ck) (a:W.nsIn K mainGlobals x=some (some (.ref f))) (l:K.lookup f=some ⟨oc,od,.func fd,sl⟩) (ec:fd.code=.ref c) (lc:K.lookup c=some ⟨occ,odc,.fields vs,slc⟩) (hcc:occ=.type "code")
  (h11:vs[11]?=some (.ref P)) (h18:vs.getD 18 .none=.str file tf) (h7:vs.getD 7 .none=.int flags tg) (h9:vs.getD 9 .none=.bool inF) (h10:vs.getD 10 .none=.int text tt) (ne:c≠P)
  (un:∀y,y∈ck→y≠x→W.nsIn K mainGlobals y=some none∨∃c' P',W.tabIn K y=some (c',P')∧P'≠P):xg K x c P:=by
 have g11:vs.getD 11 .none=.ref P:=by rw[Array.getD_eq_getD_getElem?,h11];rfl
 refine⟨hm,?_,fun y hy nx c2 e=>?_,_,vs,file,tf,flags,tg,inF,text,tt,lc,hcc,rfl,h11,g11,h18,h7,h9,h10,ne⟩
 ·unfold W.tabIn
  rw[a]
  dsimp only
  rw[l]
  dsimp only
  rw[ec]
  dsimp only
  rw[lc]
  dsimp only
  rw[h11]
 ·rcases un y hy nx with q|⟨c',P',q,n⟩
  ·unfold W.tabIn at e
   rw[q] at e;cases e
  ·rw[q] at e;cases e;exact n rfl
end DL
namespace DL
open PySem PySem.Spec PyProof.Rows L2
end DL
namespace DL
open PySem PySem.Spec PyProof.Rows L2
section
open Builtin Builtin.Str
end
end DL
namespace DL
open PySem PySem.Spec PyProof.Rows L2
structure QE (X:Cx)(e:Expr)(g:GE):Prop where
 h:PE X e (tE X g)
structure QT (X:Cx)(e:Expr)(g:GT):Prop where
 h:PT X e (tT X g)
structure QW (X:Cx)(e:Expr)(g:GT):Prop where
 h:PW X e (tT X g)
structure QA (X:Cx)(es:List Expr)(g:GA):Prop where
 h:PA X es (tA X g)
structure QS (X:Cx)(st:Stmt)(g:GS):Prop where
 h:PS X st (tS X g)
structure QB (X:Cx)(st:List Stmt)(g:GS):Prop where
 h:PSs X st (tS X g)
structure QI (X:Cx)(tg e:Expr)(g:GI):Prop where
 h:PI X tg e (tI X g)
structure QG (X:Cx)(tg:Expr)(s:GG):Prop where
 h:PG X tg (tG X s)
structure Kb (X:Cx)(tgs:List Expr)(is:List Nat):Prop where
 h:yX X tgs (LW X is)
structure QP (X:Cx)(e:Option Expr)(g:GO):Prop where
 h:PO X e (tO X g)
structure Q2 (X:Cx)(f:Value→Value→Sem Value)(F:F2):Prop where
 h:iK X f (rD X F)
structure QC (X:Cx)(f:Value)(F:FD):Prop where
 h:dh X f (rC X F)
structure CC (X:Cx)(scope:Scope)(xs:List Str)(R:List Str)(ifs:List Expr)(gc:GT):Prop where
 h:jW X scope xs R ifs gc
structure L9 (X:Cx)(tgs:List Expr)(ss:List GG):Prop where
 h:yX X tgs (Cq X ss)
structure QO (n:Nat)(sg:GG):Prop where
 h:wf n sg
structure QF (X:Cx)(es:List Expr)(gs:List GE):Prop where
 h:JQ X es gs
variable{k:Nat}{f:F2}{op:CmpOp}{gs:List GE}{tg:Expr}{xs:List Str}{is:List Nat}{sg:GG}{ss:List GG}{body:List Stmt}
section
variable {X:Cx}{e a b c o i:Expr}{es rest:List Expr}{x:Str}{p p2 pos pos':Pos}{g ga gb gc go gi ge:GE}{ta tb:GT}{gA:GA}
theorem Ky:Q2 X (binaryOp .Add) bM:=⟨IV⟩
theorem J9:Q2 X (binaryOp .Sub) fq:=⟨Jx⟩
theorem LI:Q2 X (binaryOp .Mult) fT:=⟨HW⟩
theorem HK:Q2 X (binaryOp .FloorDiv) iR:=⟨Fa⟩
theorem KH:Q2 X (binaryOp .Mod) iC:=⟨GK⟩
theorem KQ:Q2 X (binaryOp .Pow) rE:=⟨Ju⟩
theorem Nu:Q2 X (compareOp .Lt) oS:=⟨K0⟩
theorem Nj:Q2 X (compareOp .LtE) nP:=⟨L5⟩
theorem MK:Q2 X (compareOp .Gt) zc:=⟨K4⟩
theorem Nr:Q2 X (compareOp .GtE) xp:=⟨JX⟩
theorem MT (hr:bv k X.A):Q2 X (compareOp .Eq) (a7 false):=⟨LO hr.units⟩
theorem MZ (hr:bv k X.A):Q2 X (compareOp .NotEq) (a7 true):=⟨Lr hr.units⟩
theorem MM:Q2 X (compareOp .Is) (mU false):=⟨J8⟩
theorem FA:Q2 X (compareOp .IsNot) (mU true):=⟨BJ⟩
theorem ML:Q2 X (compareOp .In) (pS false):=⟨KU⟩
theorem Kp:QC X (.builtin "len") bJ:=⟨G9⟩
theorem LX (hc:X.calm=true:=by rfl):QC X (.builtin "min") o8:=⟨GU hc⟩
theorem LZ (hc:X.calm=true:=by rfl):QC X (.builtin "max") o9:=⟨JC hc⟩
theorem L8 (hc:X.calm=true:=by rfl):QC X (.builtin "all") kI:=⟨Iw hc⟩
theorem A5:QC X (.builtin "divmod") yD:=⟨z8⟩
theorem KD:QC X (.type "int") yo:=⟨Gy⟩
theorem GZ:QC X (.type "list") ji:=⟨DY⟩
theorem Ew:QC X (.type "tuple") dS:=⟨Bc⟩
theorem qv (i:Nat){x:Str}{pos:Pos}(hN:X.N[i]?=some x:=by rfl)(hv:Lk X.env.scope x:=by first|exact Or.inl rfl|exact Or.inr (Or.inl rfl)|exact Or.inr (Or.inr rfl))(hd:(x==("__debug__":Str))=false:=by decide)
  (hcd:(x==("__classdict__":Str))=false:=by decide):QE X (.Name x pos) (ae i):=⟨vv i hN hv hd hcd⟩
theorem IP {i:Int}{j pos}:QE X (.Constant (.int i) j pos) (gC (.int i)):=⟨Ij⟩
theorem KS {b j pos}:QE X (.Constant (.bool b) j pos) (gC (.bl b)):=⟨K1⟩
theorem Hn {j pos}:QE X (.Constant .none j pos) (gC .non):=⟨Jb⟩
theorem IC {x j pos}:QE X (.Constant (.str x) j pos) (gC (.str x)):=⟨HI⟩
theorem HL (h:QE X a g):QE X (.UnaryOp .USub a pos) (mM g):=⟨Hl h.h⟩
theorem GQ (h:QE X a g):QE X (.UnaryOp .Not a pos) (wz (aS g)):=⟨Gz h.h⟩
theorem Lv {op:Operator}(ho:Q2 X (binaryOp op) f)(ha:QE X a ga)(hb:QE X b gb):QE X (.BinOp a op b pos) (g2 f ga gb):=⟨LH ho.h ha.h hb.h⟩
def HA:CmpOp→Bool
 | .In=>false
 | .NotIn=>false
 | _=>true
theorem tP {b:Expr}(h:HA op=true):behindInMarks op b=false:=by
 cases op <;> first|exact Jk _|(cases h)
theorem HS (ho:Q2 X (compareOp op) f)(ha:QE X a ga)(hb:QE X b gb)(hm:HA op=true:=by rfl):QE X (.Compare a [op] [b] pos) (g2 f ga gb):=⟨Jm ho.h ha.h hb.h (tP hm)⟩
theorem Iz (ho:Q2 X (compareOp op) f)(ha:QE X a ga)(hb:QE X b gb)(hm:HA op=true:=by rfl):QT X (.Compare a [op] [b] pos) (aS (g2 f ga gb)):=⟨BB ho.h ha.h hb.h (tP hm)⟩
theorem E6 (ho:Q2 X (compareOp op) f)(ha:QE X a ga)(hb:QE X b gb)(hm:behindInMarks op b=false:=by with_unfolding_all rfl):QT X (.Compare a [op] [b] pos) (aS (g2 f ga gb)):=⟨BB ho.h ha.h hb.h hm⟩
theorem Dt {op':CmpOp}{f':F2}(ho:Q2 X (compareOp op) f)(ho':Q2 X (compareOp op') f')(ha:QE X a ga)(hb:QE X b gb)(hc:QE X c gc)(hm:lastMarks [op,op'] [b,c]=false:=by with_unfolding_all rfl):QE X (.Compare a [op,op'] [b,c] pos) (oZ f f' ga gb gc):=⟨Bt ho.h ho'.h ha.h hb.h hc.h hm⟩
theorem BC {op':CmpOp}{f':F2}(ho:Q2 X (compareOp op) f)(ho':Q2 X (compareOp op') f')(ha:QE X a ga)(hb:QE X b gb)(hc:QE X c gc)(hm:lastMarks [op,op'] [b,c]=false:=by with_unfolding_all rfl):QT X (.Compare a [op,op'] [b,c] pos) (aS (oZ f f' ga gb gc)):=⟨A6 ho.h ho'.h ha.h hb.h hc.h hm⟩
theorem IJ {op}(h:QE X a g):QE X (.BoolOp op [a] pos) g:=⟨IQ h.h⟩
theorem IR (ha:QE X a ga)(hb:QE X (.BoolOp .And (b::rest) pos) gb):QE X (.BoolOp .And (a::b::rest) pos) (eC ga gb):=⟨Hu ha.h hb.h⟩
theorem KR (ha:QE X a ga)(hb:QE X (.BoolOp .Or (b::rest) pos) gb):QE X (.BoolOp .Or (a::b::rest) pos) (JL ga gb):=⟨Ks ha.h hb.h⟩
theorem Lw (hc:QT X c ta)(ha:QE X a ga)(hb:QE X b gb):QE X (.IfExp c a b pos) (xi ta ga gb):=⟨LY hc.h ha.h hb.h⟩
theorem D8 (ha:QT X a ta):QW X (.BoolOp .And [a] pos) ta:=⟨EC ha.h⟩
theorem Ia (ha:QT X a ta):QW X (.BoolOp .Or [a] pos) ta:=⟨HG ha.h⟩
theorem ID (ha:QT X a ta)(hb:QW X (.BoolOp .And (b::rest) pos) tb):QW X (.BoolOp .And (a::b::rest) pos) (iV ta tb):=⟨HB ha.h hb.h⟩
theorem K9 (ha:QT X a ta)(hb:QW X (.BoolOp .Or (b::rest) pos) tb):QW X (.BoolOp .Or (a::b::rest) pos) (iM ta tb):=⟨LD ha.h hb.h⟩
theorem Lo (h:QW X a ta):QT X a ta:=⟨PW.pt h.h⟩
theorem G6 (h:QT X a ta):QT X (.UnaryOp .Not a pos) (eL ta):=⟨JE h.h⟩
theorem GJ (h:QE X a g)(he:∀whole,isTrue a X.env whole=(do let v ←whole;standAt a.pos;holding [v] (truthy v)):=by intro _;rfl):QT X a (f9 g):=⟨IW h.h he⟩
theorem HR:QA X [] ah:=⟨JH⟩
theorem MP {gr:GA}(ha:QE X e g)(hr:QA X es gr)(h:bu e=true:=by rfl):QA X (e::es) (aa g gr):=⟨MS ha.h hr.h h⟩
theorem Jn {x1}(h:QA X es gA):QE X (.Tuple es x1 pos) (aO gA):=⟨Jw h.h⟩
theorem GD (h:QA X es gA):QE X (.List es pos) (lU gA):=⟨HC h.h⟩
theorem HY (h:QA X es gA):QE X (.List es pos) (jv gA):=⟨Ic h.h⟩
theorem HH:QF X [] []:=⟨.nil⟩
theorem Nm (h:QE X e g)(t:QF X es gs):QF X (e::es) (g::gs):=⟨.cons h.h t.h⟩
theorem Hg {i:Int}(h:QE X e g)(hi:i=-1:=by rfl):QE X (.FormattedValue e i none pos) (xZ g):=⟨Gx h.h hi⟩
theorem EY (h:QF X (a::b::es) gs):QE X (.JoinedStr (a::b::es) pos) (lW gs Str.empty):=⟨Fk h.h⟩
theorem Ht {i:Int}{j p1 p2 p3 pos}(hi:i=1)(he:QE X e g):QE X (.Subscript e (.Slice none none (some (.UnaryOp .USub (.Constant (.int i) j p1) p2)) p3) pos) (yd g):=⟨IK hi he.h⟩
theorem Fd:QP X none bq:=⟨Eh⟩
theorem EN (h:QE X e g):QP X (some e) (dg g):=⟨FH h.h⟩
theorem Dy {lo hi:Option Expr}{gl gh:GO}(he:QE X e g)(hl:QP X lo gl)(hh:QP X hi gh):QE X (.Subscript e (.Slice lo hi none p2) pos) (oj g gl gh):=⟨B8 he.h hl.h hh.h⟩
theorem LK (ha:QE X a ga)(hb:QE X b gb)(hs:uu b:=by intro _ _;rfl):QE X (.Subscript a b pos) (g2 aX ga gb):=⟨KI ha.h hb.h hs⟩
section
variable {apos cpos:Pos}{k n:Nat}{f:Addr}{fd:FuncData}{ps:List Str}{F:FD}{T:String}{id:String}
theorem zV (ho:QE X o go)(he:QE X e ge)(h1:bu e=true:=by rfl)(hbase:attributeBase o "append" X.env (eval o X.env)=eval o X.env:=by rfl)(hline:(apos.endLine==cpos.line)=true:=by rfl):QE X (.Call (.Attribute o "append" apos) [e] [] cpos) (lQ go ge):=⟨zW ho.h he.h hbase (Ik h1) hline (sE h1) rfl⟩
theorem JY (Fn:dE X.prog X.w X.K X.mg X.base (gU X.prog X.w) k f fd ps (mY X.K n F))(hr:bv k X.A)(hg:Gl X x)(hm:X.mg x=some (.ref f))(hk:W.keepIn X.K (.ref f)=true)(hb:eG X.K fd ps [])(ha:QA X (e::es) gA)
  (hdb:(x==("__debug__":Str))=false:=by decide) (h1:bu e=true:=by rfl) (h2:cC es=true:=by rfl):QE X (.Call (.Name x p) (e::es) [] pos) (aq n F gA):=⟨L3 Fn hr hg hm hk hb ha.h hdb h1 h2⟩
theorem JZ (hc:QC X (.builtin id) F)(hg:Gl X x)(hm:X.mg x=none)(hv:bootBuiltins x=some (.builtin id))(ha:QA X (e::es) gA)(hn:x≠"__name__":=by decide)(hdb:(x==("__debug__":Str))=false:=by decide)
  (h1:bu e=true:=by rfl) (h2:cC es=true:=by rfl):QE X (.Call (.Name x p) (e::es) [] pos) (aI F gA):=⟨LJ hc.h hg hm hv ha.h hn hdb h1 h2⟩
theorem K5 (hc:QC X (.type T) F)(hg:Gl X x)(hm:X.mg x=none)(hv:bootBuiltins x=some (.type T))(ha:QA X (e::es) gA)(hn:x≠"__name__":=by decide)(hdb:(x==("__debug__":Str))=false:=by decide)
  (h1:bu e=true:=by rfl) (h2:cC es=true:=by rfl):QE X (.Call (.Name x p) (e::es) [] pos) (aI F gA):=⟨Ki hc.h hg hm hv ha.h hn hdb h1 h2⟩
theorem J5 (hT:m5 T)(hv:bootBuiltins x=some (.type T))(hg:Gl X x)(hm:X.mg x=none)(hgi:Gl X "isinstance")(hmi:X.mg "isinstance"=none)(he:QE X e g)
  (h1:bu e=true:=by rfl) (hn:x≠"__name__":=by decide) (hd:(x==("__debug__":Str))=false:=by decide):QE X (.Call (.Name "isinstance" p) [e,.Name x p2] [] pos) (jj T g):=⟨Kt hT hv hg hm hgi hmi he.h h1 hn hd⟩
end
theorem LS {tg:Expr}(hg:Gl X "range")(hm:X.mg "range"=none)(ha:QA X [a] gA)(h1:bu a=true:=by rfl):QI X tg (.Call (.Name "range" p) [a] [] pos) (fQ gA):=⟨LC hg hm ha.h h1⟩
theorem IL (h:QE X e g):QI X tg e (bG g):=⟨Jf h.h⟩
theorem EQ {es:List Expr}{kt:Nat}{tp:Pos}(hg:Gl X "enumerate")(hm:X.mg "enumerate"=none)(hv:bootBuiltins "enumerate"=some (.type "enumerate"))(ha:QA X [a] gA)(h1:bu a=true:=by rfl):QI X (.Tuple es kt tp) (.Call (.Name "enumerate" p) [a] [] pos) (lY gA):=⟨D1 hg hm hv ha.h (sE h1)⟩
section
variable {scope:Scope}{R:List Str}{iter elt:Expr}{ifs:List Expr}{gI:GI}{gC:GT}{px:Pos}{mk:List D→aB→bg D}
theorem Ag :CC X scope xs R [] bL:=⟨C7⟩
theorem Af (h:∀fp s2 H2 C,QT (aD X scope xs R fp s2 H2 C) c ta):CC X scope xs R [c] ta:=⟨CW fun fp s2 H2 C=>(h fp s2 H2 C).h⟩
theorem Ex (hS:cE scope X.env.kindOf [x] R X.N=true)(hm:mk=aF∨mk=dM)(hi:QI X (.Name x px) iter gI)(hts:CC X scope [x] R ifs gC)(he:∀fp s H C,QE (aD X scope [x] R fp s H C) elt ge)
  (hc:X.calm=true:=by rfl) (hs:∀x,foldedSetIterable iter X.env x=pure x:=by intro _;rfl):QE X (.ListComp elt [⟨.Name x px,iter,ifs,0⟩] scope pos) (aY gI gC ge mk):=⟨Ep hS hc hm hi.h hts.h (fun fp s H C=>(he fp s H C).h) hs⟩
theorem yw {j:Nat}{y:Str}{py spos:Pos}(hS:cE scope X.env.kindOf [x] R X.N=true)(hm:mk=aF∨mk=dM)(hN:X.N.Nodup)(hi:QI X (.Name x px) iter gI)(hts:CC X scope [x] R ifs gC)(he:∀fp s H C,QE (aD X scope [x] R fp s H C) elt ge)
  (hc:X.calm=true:=by rfl) (hj:X.N[j]?=some y:=by rfl) (hy:X.env.scope.names.lookup y=some .local:=by rfl) (hsw:swapsWith (.ListComp elt [⟨.Name x px,iter,ifs,0⟩] scope pos) (some (.Name y py)) spos.line X.env=pure true:=by rfl)
  (hs:∀x,foldedSetIterable iter X.env x=pure x:=by intro _;rfl):QS X (.Assign [.Name y py] (.ListComp elt [⟨.Name x px,iter,ifs,0⟩] scope pos) spos) (aU j (aY gI gC ge mk)):=⟨yI hS hc hm hi.h hts.h (fun fp s H C=>(he fp s H C).h) hN hj hy hsw hs⟩
theorem Jp (n:Nat)(h:is.all (fun i=>decide (i<n))=true:=by rfl):QO n (bh is):=⟨E0 h⟩
theorem tK {fp:List Addr}{s:Shared}{H:Hp}{C:Addr}{y:Str}(hS:cE scope X.env.kindOf xs R X.N=true)(h:y∈xs):(aD X scope xs R fp s H C).env.scope.names.lookup y=some .local:=lookup_relabel_local ((cA.of hS).own y h)
theorem Of {fp:List Addr}{s:Shared}{H:Hp}{C:Addr}{y:Str}(i:Nat)(hS:cE scope X.env.kindOf xs R X.N=true)(hi:(xs++R)[i]?=some y:=by rfl)(hx:y∈xs:=by simp):QG (aD X scope xs R fp s H C) (.Name y pos) (gn i):=
 ⟨ua (X:=aD X scope xs R fp s H C) (cA.of hS).nd hi (.inl (tK hS hx)) (.inr (tK hS hx))⟩
theorem Dk (xs:List Str)(hS:cE scope X.env.kindOf xs R X.N=true)(hm:mk=aF∨mk=dM)(own:QO xs.length sg)(hi:QI X tg iter gI)(hg:∀fp s H C,QG (aD X scope xs R fp s H C) tg sg)(hts:CC X scope xs R ifs gC)(he:∀fp s H C,QE (aD X scope xs R fp s H C) elt ge)
  (hc:X.calm=true:=by rfl) (hs:∀x,foldedSetIterable iter X.env x=pure x:=by intro _;rfl):QE X (.ListComp elt [⟨tg,iter,ifs,0⟩] scope pos) (bH gI xs.length sg gC ge mk):=⟨xm hS hc hm hi.h own.h (fun fp s H C=>(hg fp s H C).h) hts.h (fun fp s H C=>(he fp s H C).h) hs⟩
theorem v6 (xs:List Str){j:Nat}{y:Str}{py spos:Pos}(hS:cE scope X.env.kindOf xs R X.N=true)(hm:mk=aF∨mk=dM)(own:QO xs.length sg)(hN:X.N.Nodup)(hi:QI X tg iter gI)(hg:∀fp s H C,QG (aD X scope xs R fp s H C) tg sg)(hts:CC X scope xs R ifs gC)(he:∀fp s H C,QE (aD X scope xs R fp s H C) elt ge)
  (hc:X.calm=true:=by rfl) (hj:X.N[j]?=some y:=by rfl) (hy:X.env.scope.names.lookup y=some .local:=by rfl) (hsw:swapsWith (.ListComp elt [⟨tg,iter,ifs,0⟩] scope pos) (some (.Name y py)) spos.line X.env=pure true:=by rfl)
  (hs:∀x,foldedSetIterable iter X.env x=pure x:=by intro _;rfl):QS X (.Assign [.Name y py] (.ListComp elt [⟨tg,iter,ifs,0⟩] scope pos) spos) (aU j (bH gI xs.length sg gC ge mk)):=⟨oM hS hc hm hi.h own.h (fun fp s H C=>(hg fp s H C).h) hts.h (fun fp s H C=>(he fp s H C).h) hN hj hy hsw hs⟩
end
def iP:Expr→Bool
 | .ListComp ..=>false
 | .SetComp ..=>false
 | .DictComp ..=>false
 | _=>true
theorem lE {t:Option Expr}{l:Nat}{env:Env}(h:iP e=true):swapsWith e t l env=pure false:=by
 cases e <;> first|rfl|(simp[iP] at h)
section
variable {st:Stmt}{stmts:List Stmt}{t u:GS}
theorem HU:QB X [] aM:=⟨Ig⟩
theorem DU (h1:QS X st t)(h2:QB X stmts u):QB X (st::stmts) (av t u):=⟨D2 h1.h h2.h⟩
theorem Ja (h1:QS X st t):QB X [st] t:=⟨HN h1.h⟩
theorem Hv (i:Nat){x:Str}(hN:X.N.Nodup)(he:QE X e g)(hi:X.N[i]?=some x:=by rfl)(hx:Bq X.env.scope x:=by first|exact Or.inl rfl|exact Or.inr rfl)(hs:iP e=true:=by rfl)(hf:X.fn x=true∨X.env.scope.names.lookup x=some .local:=by first|exact .inl rfl|exact .inr rfl) :
  QS X (.Assign [.Name x pos'] e pos) (aU i g):=⟨ss i hN he.h hi hx (lE hs) hf⟩
theorem y8 (i:Nat){x:Str}(hN:X.N.Nodup)(he:QE X e g)(hi:X.N[i]?=some x:=by rfl)(hx:Bq X.env.scope x:=by first|exact Or.inl rfl|exact Or.inr rfl)(hs:swapsWith e (some (.Name x pos')) pos.line X.env=pure false:=by rfl)(hf:X.fn x=true∨X.env.scope.names.lookup x=some .local:=by first|exact .inl rfl|exact .inr rfl) :
  QS X (.Assign [.Name x pos'] e pos) (aU i g):=⟨ss i hN he.h hi hx hs hf⟩
theorem Jh (he:QE X e g):QS X (.Return (some e) pos) (aJ g):=⟨Hb he.h⟩
theorem EM (he:QE X e g)(hs:iP e=true:=by rfl):QS X (.Expr e pos) (cX g):=⟨FU he.h (lE hs)⟩
theorem LL {a b:List Stmt}{tc:GT}(hc:QT X c tc)(ha:QB X a t)(hb:QB X b u):QS X (.If c a b pos) (dO tc t u):=⟨KP hc.h ha.h hb.h⟩
theorem qn (i:Nat){x:Str}(hN:X.N.Nodup)(hi:X.N[i]?=some x:=by rfl)(hx:Bq X.env.scope x:=by first|exact Or.inl rfl|exact Or.inr rfl)(hf:X.fn x=true∨X.env.scope.names.lookup x=some .local:=by first|exact .inl rfl|exact .inr rfl):QG X (.Name x pos) (gn i):=⟨gg i hN hi hx hf⟩
theorem DP:Kb X [] []:=⟨D0⟩
theorem K7 {i:Nat}(h1:QG X e (gn i))(h2:Kb X es is)(hs:(assignEach (e::es) X.env).map (·.2)=assign e X.env::(assignEach es X.env).map (·.2):=by rfl):Kb X (e::es) (i::is):=⟨A1 h1.h h2.h hs⟩
theorem HV {k n:Nat}(h:Kb X es is)(hc:X.calm=true:=by rfl)(hl:is.length=n:=by rfl)(hn:(assignEach es X.env).length=n:=by rfl)(hst:(assignEach es X.env).findIdx? (·.1)=none:=by rfl):QG X (.Tuple es k pos) (bh is):=⟨IT hc h.h hl hn hst⟩
theorem Em:L9 X [] []:=⟨Dv⟩
theorem Lg (h1:QG X e sg)(h2:L9 X es ss)(hs:(assignEach (e::es) X.env).map (·.2)=assign e X.env::(assignEach es X.env).map (·.2):=by rfl):L9 X (e::es) (sg::ss):=⟨zL h1.h h2.h hs⟩
theorem E2 {k n:Nat}(h:L9 X es ss)(hc:X.calm=true:=by rfl)(hl:ss.length=n:=by rfl)(hn:(assignEach es X.env).length=n:=by rfl)(hst:(assignEach es X.env).findIdx? (·.1)=none:=by rfl):QG X (.Tuple es k pos) (rA ss):=⟨EO hc h.h hl hn hst⟩
theorem JB {s:GG}(he:QE X e g)(hg:QG X tg s)(hs:iP e=true:=by rfl)(hw:swappedStores [tg] e X.env=pure none:=by rfl)(h1:(assignEach [tg] X.env).map (·.2)=[assign tg X.env]:=by rfl):QS X (.Assign [tg] e pos) (cP s g):=⟨Hx he.h hg.h (lE hs) hw h1⟩
theorem Ho {ip:Pos}(he:QE X e g)(ho:QE X o go)(hi:QE X i gi)
  (ha:∀v,assign (.Subscript o i ip) X.env v=(do
   let ov ←holding [v] (eval o X.env)
   let iv ←holding [v,ov] (eval i X.env)
   standAt ip
   holding [v,ov,iv] (setItem ov iv v)
   release [v,ov,iv] []):=by intro _;rfl)
  (hs:iP e=true:=by rfl) (hw:swappedStores [.Subscript o i ip] e X.env=pure none:=by rfl):QS X (.Assign [.Subscript o i ip] e pos) (lT go gi g):=⟨Ha he.h ho.h hi.h ha (by unfold swapsWithSole;exact lE hs) hw rfl⟩
theorem Ir {iter:Expr}{gI:GI}{gB:GS}(hp:PassesOwn (model X.prog X.w) X.A X.env X.xe)(hi:QI X tg iter gI)(hg:QG X tg sg)(hb:QB X body gB)(hc:X.calm=true:=by rfl)(hs:∀x,foldedSetIterable iter X.env x=pure x:=by intro _;rfl) :
  QS X (.For tg iter body [] pos) (kN gI sg gB):=⟨Hh hp hc hi.h hg.h hb.h hs⟩
theorem BS {tc:GT}{gB:GS}{n:Nat}(hp:PassesOwn (model X.prog X.w) X.A X.env X.xe)(hc:QT X c tc)(hb:QB X body gB):QS X (.While c body [] pos) (tZ n tc gB):=⟨B6 hp hc.h hb.h⟩
theorem Bd {x:Str}{C:Addr}{np cpos:Pos}(k:Ec X.K X.mg x C)(hg:Gl X x)(he:QE X e g)(hc:X.calm=true:=by rfl)(h1:bu e=true:=by rfl)(hd:(x==("__debug__":Str))=false:=by decide):QS X (.Raise (some (.Call (.Name x np) [e] [] cpos)) none pos) (fo x g):=⟨Dn k hc hg he.h h1 hd⟩
end
end
section
variable {X:Cx}{c f m:Str}{C:Addr}{o e value:Expr}{es:List Expr}{g go gv:GE}{gA:GA}{pos pos' apos p:Pos}{k n:Nat}{fa:Addr}{fd:FuncData}{ps:List Str}{F:FD}{pl:Sem Bool}
theorem Iy (kc:Kc X.K X.mg c C)(na:fM X.K C f)(he:QE X e g)(hb:attributeBase e f X.env (eval e X.env)=eval e X.env:=by rfl):QE X (.Attribute e f pos) (dm c f g):=⟨Jl kc na he.h hb⟩
theorem GP (kc:Kc X.K X.mg c C)(na:fM X.K C f)(ho:QE X o go)(hv:QE X value gv)(hs:iP value=true:=by rfl):QS X (.Assign [.Attribute o f pos'] value pos) (fE c f go gv):=⟨HX kc na ho.h hv.h (lE hs)⟩
theorem IM (kc:Kc X.K X.mg c C)(hm:uj X.K C m fa)(Fn:dE X.prog X.w X.K X.mg X.base (gU X.prog X.w) k fa fd ps (mY X.K n F))(hr:bv k X.A)(hb:eG X.K fd ps [])(ho:QE X o go)(ha:QA X (e::es) gA)
  (h1:bu e=true:=by rfl) (h2:cC es=true:=by rfl)
  (ht:eval (.Call (.Attribute o m apos) (e::es) [] pos) X.env=(do
   let ov ←eval o X.env
   standAt apos.atName
   let (f,first) ←holding [ov] (getMethod ov m pl)
   callWith pos f first (backTo pos (starEach (e::es) X.env)) (backToKw pos (keywordEach [] X.env))):=by rfl):QE X (.Call (.Attribute o m apos) (e::es) [] pos) (eU c m n F go gA):=⟨Im (pl:=pl) kc hm Fn hr hb ho.h ha.h h1 h2 ht⟩
theorem FE (kc:Kc X.K X.mg c C)(hm:uj X.K C m fa)(Fn:dE X.prog X.w X.K X.mg X.base (gU X.prog X.w) k fa fd ps (mY X.K n F))(hr:bv k X.A)(hb:eG X.K fd ps [])(ho:QE X o go)
  (ht:eval (.Call (.Attribute o m apos) [] [] pos) X.env=(do
   let ov ←eval o X.env
   standAt apos.atName
   let (f,first) ←holding [ov] (getMethod ov m pl)
   callWith pos f first (backTo pos (starEach [] X.env)) (backToKw pos (keywordEach [] X.env))):=by rfl):QE X (.Call (.Attribute o m apos) [] [] pos) (eU c m n F go ah):=⟨DI (pl:=pl) kc hm Fn hr hb ho.h ht⟩
theorem Ey (kc:Kc X.K X.mg c C)(Mc:Mk X.K C fa)(Fn:dE X.prog X.w X.K X.mg X.base (gU X.prog X.w) k fa fd ps (mY X.K n F))(hr:bv (k+1) X.A)(hg:Gl X c)(hb:eG X.K fd ps [])(ha:QA X (e::es) gA)
  (hdb:(c==("__debug__":Str))=false:=by decide) (h1:bu e=true:=by rfl) (h2:cC es=true:=by rfl):QE X (.Call (.Name c p) (e::es) [] pos) (kH c n F gA):=⟨DN kc Mc Fn hr hg hb ha.h hdb h1 h2⟩
end
section
variable {X:Cx}{e o lo hi i:Expr}{g go gl gh:GE}{pos ip sp dpos p1 p2:Pos}{keys:List (Option Expr)}{values:List Expr}{tab:List (Str×Int)}
theorem IN {i j:Nat}{x y:Str}{a b:Expr}{ga:GA}{px py pt:Pos}{kt k2 pt2}(hN:X.N.Nodup)(ha:QA X [a,b] ga)(hc:X.calm=true:=by rfl)(hi:X.N[i]?=some x:=by rfl)(hj:X.N[j]?=some y:=by rfl)(hij:i≠j:=by decide)
  (hx:X.env.scope.names.lookup x=some .local:=by rfl) (hy:X.env.scope.names.lookup y=some .local:=by rfl)
  (hw:swappedStores [.Tuple [.Name x px,.Name y py] kt pt] (.Tuple [a,b] k2 pt2) X.env=pure (some [x,y]):=by rfl) :
  QS X (.Assign [.Tuple [.Name x px,.Name y py] kt pt] (.Tuple [a,b] k2 pt2) pos) (xC i j ga):=⟨Jq hc hN hi hj hij hx hy ha.h hw rfl⟩
end
structure Mf (K:W.Frag)(C:Addr)(x qual:Str)(st:Stmt)(f:Addr)(fd:FuncData)(ps:List Str):Prop where
 F:FN K x qual st f fd
 me:uj K C x f
 b:eG K fd ps []
variable{P:Program}{K:W.Frag}{mg:Str→Option Value}{base:Heap}{x:Str}{fd:FuncData}
theorem H9 {w:World}{qual:Str}{st:Stmt}{f:Addr}{N ps:List Str}{n:Nat}{g:GS}(F:FN K x qual st f fd)(S:d9 N ps (aK st))(hn:ps.length=n)
  (hbody:∀(cdv:Value) (A:Around) (outer:List Env) (s:Shared) (H:Hp) (E:XK),bv k (A.deeper (envOfC qual (aK st) s.heap.objs.size f cdv))→QB (gX (gU P w) P w K mg base N qual (aK st) f cdv A outer s H E) (cu st) g) :
  dE P w K mg base (gU P w) (k+1) f fd ps (mY K n (a9 (N.length-n) g)):=MR F S hn fun cdv A outer s H E hr=>(hbody cdv A outer s H E hr).h
theorem G1 {w:World}{st:Stmt}{f c Pt:Addr}{N ps:List Str}{n:Nat}{g:GS}(F:FN K x x st f fd)(hns:W.nsIn K mainGlobals x=some (some (.ref f)))(T:xg K x c Pt)(S:d9 N ps (aK st))(hn:ps.length=n)
  (hbody:∀(A:Around) (outer:List Env) (s:Shared) (H:Hp) (E:XK),bv k (A.deeper (envOfC x (aK st) s.heap.objs.size f (.ref c)))→QB (gX (gU P w) P w K mg base N x (aK st) f (.ref c) A outer s H E) (cu st) g) :
  dE P w K mg base (gU P w) (k+1) f fd ps (mY K n (a9 (N.length-n) g)):=Lh F hns T S hn fun A outer s H E hr=>(hbody A outer s H E hr).h
theorem Ek {X:Cx}{px:Str}{c P:Addr}{params:Arguments}{body:Expr}{scope:Scope}{e:Expr}{g gb:GE}{p pos lpos kpos:Pos}{N:List Str}
  (T:xg X.K x c P) (hr:bv (k+2) X.A) (hg:Gl X "min") (hm:X.mg "min"=none) (hv:bootBuiltins "min"=some (.builtin "min")) (S:d9 N [px] scope) (he:QE X e g)
  (hbody:∀(q c':Addr) (A:Around) (outer:List Env) (s:Shared) (H:Hp) (E:XK),bv k (A.deeper (envOfC (bZ x) scope s.heap.objs.size q (.ref c')))→
   QE (gX (gU X.prog X.w) X.prog X.w X.K X.mg X.base N (bZ x) scope q (.ref c') A outer s H E) body gb)
  (hb:∀(pm cv ctv:Value) (s:Shared) (u:Value),BindsTo s (sk (bZ x) params body scope pm cv ctv) ⟨[u],[]⟩ [(px,u)]:=by intros;exact .of_eq rfl)
  (hcode:X.env.code=.ref c:=by rfl) (hglob:X.env.globals=mainGlobals:=by rfl) (hq:X.env.qual++("<lambda>":Str)=bZ x:=by rfl)
  (hcl:closureFor scope X.env=pure []:=by rfl) (hd:defaultsOf params X.env=([],[]):=by rfl) (hcalm:X.calm=true:=by rfl) (h1:bu e=true:=by rfl) :
  QE X (.Call (.Name "min" p) [e] [⟨some "key",.Lambda params body scope lpos,kpos⟩] pos) (o4 (yi (N.length-1) gb) g):=⟨Et T hr hg hm hv he.h hcode hglob hq hcl hd hcalm S (fun q c' A outer s H E hr=>(hbody q c' A outer s H E hr).h) hb h1⟩
variable{q:Program}{d:DefRec}
theorem DZ {l:W.OpenLaw}{n:Nat}{loose:List Str}{XP:(Str→Option Value)→Heap→Prop}{YP:World→Heap→Prop}{K:Params→W.Frag}{F:FD}
  (hn:l.most=some n) (hn2:n≤sizeLine) (hdf:d.params.defaults=[]) (hr:bv k callerA) (hY:∀(w:World) (h:Heap),YP w h→(K w.params).In h)
  (hF:∀(w:World) (mg:Str→Option Value) (fa:Addr) (h:Heap),(K w.params).In h→h.Ns mainGlobals mg→mg d.name=some (.ref fa)→
   ∃fd:FuncData,(∀(s:Shared) (u:Value),BindsTo s fd ⟨[u],[]⟩ [(x,u)])∧∀base:Heap,(K w.params).In base→base.Ns mainGlobals mg→dE l.prog w (K w.params) mg base (gU l.prog w) k fa fd [x] (mY (K w.params) 1 F))
  (tabs:∀w:World,∃(ls:List (Str×DefRec×Addr×Addr)) (bm:Addr),(∀p∈ls,(recsOf q).find? (fun e=>e.name==p.1)=some p.2.1∧W.tabIn (K w.params) p.1=some (p.2.2.1,p.2.2.2)∧(K w.params).lookup p.2.2.2=none)∧
   (∀y,y∈ck→W.nsIn (K w.params) mainGlobals y=some none∨∃p∈ls,p.1=y)∧W.nsIn (K w.params) mainGlobals "__builtins__"=some (some (.ref bm))∧(K w.params).lookup bm=none)
  (ht:∀ns:List Int,ns.length≤n→∃M',F [.ro (ns.map D.int)] []=.ok (.bl true) M') :
  W.WalkO q loose XP YP l.row.toRowW d [] (fun f vs=>PySem.call f vs):=
 GC (CX:=fun w=>gU l.prog w) (sp:=fun w=>mY (K w.params) 1 F) hn hn2 hdf hr hY hF tabs (fun w H a ns hl tb hS=>IA tb hS (ht ns hl)) fun w H s e s' z=>L4 z
theorem CY :∀p∈([]:List (Str×DefRec×Addr×Addr)),(recsOf q).find? (fun e=>e.name==p.1)=some p.2.1∧W.tabIn K p.1=some (p.2.2.1,p.2.2.2)∧K.lookup p.2.2.2=none:=fun _ h=>by cases h
variable{ls:List (Str×DefRec×Addr×Addr)}
theorem zQ {c P:Addr}(h1:(recsOf q).find? (fun e=>e.name==x)=some d)(h2:W.tabIn K x=some (c,P))(h3:K.lookup P=none)
  (h:∀p∈ls,(recsOf q).find? (fun e=>e.name==p.1)=some p.2.1∧W.tabIn K p.1=some (p.2.2.1,p.2.2.2)∧K.lookup p.2.2.2=none) :
  ∀p∈(x,d,c,P)::ls,(recsOf q).find? (fun e=>e.name==p.1)=some p.2.1∧W.tabIn K p.1=some (p.2.2.1,p.2.2.2)∧K.lookup p.2.2.2=none:=fun p hp=>by
 rcases List.mem_cons.mp hp with rfl|hp
 ·exact⟨h1,h2,h3⟩
 ·exact h p hp
theorem vO {φ:Str→Prop}(h1:φ "ink_shown")(h2:φ "table_within")(h3:φ "slots_given")(h4:φ "cast_on_slots"):∀y,y∈ck→φ y:=fun y hy=>by
 simp only[ck,List.mem_cons,List.not_mem_nil,or_false] at hy
 rcases hy with rfl|rfl|rfl|rfl <;> assumption
theorem Fh {bm:Addr}(h:∀p∈ls,(recsOf q).find? (fun e=>e.name==p.1)=some p.2.1∧W.tabIn K p.1=some (p.2.2.1,p.2.2.2)∧K.lookup p.2.2.2=none)
  (h2:∀y,y∈ck→W.nsIn K mainGlobals y=some none∨∃p∈ls,p.1=y) (h3:W.nsIn K mainGlobals "__builtins__"=some (some (.ref bm))) (h4:K.lookup bm=none) :
  ∃(ls:List (Str×DefRec×Addr×Addr)) (bm:Addr),(∀p∈ls,(recsOf q).find? (fun e=>e.name==p.1)=some p.2.1∧W.tabIn K p.1=some (p.2.2.1,p.2.2.2)∧K.lookup p.2.2.2=none)∧
   (∀y,y∈ck→W.nsIn K mainGlobals y=some none∨∃p∈ls,p.1=y)∧W.nsIn K mainGlobals "__builtins__"=some (some (.ref bm))∧K.lookup bm=none:=⟨ls,bm,h,h2,h3,h4⟩
theorem Ie {f c P:Addr}{oc occ:Value}{od odc:Option Addr}{sl slc:Array (Option Value)}{vs:Array Value}
  (a:W.nsIn K mainGlobals x=some (some (.ref f))) (l:K.lookup f=some ⟨oc,od,.func fd,sl⟩) (ec:fd.code=.ref c) (lc:K.lookup c=some ⟨occ,odc,.fields vs,slc⟩) (h11:vs[11]?=some (.ref P)):W.tabIn K x=some (c,P):=by
 unfold W.tabIn
 rw[a]
 dsimp only
 rw[l]
 dsimp only
 rw[ec]
 dsimp only
 rw[lc]
 dsimp only
 rw[h11]
end DL
namespace PySem
section
variable {prog:Program}{w:World}{K:Type}[DecidableEq K]{knd:HeapKind prog w K}{A:Around}{E:Value→Shared→Prop}{s:Shared}
theorem hk_setDefault {d a:Addr}{xs:List (K×Addr×Value)}{k:K}{v:Value}{Q:Value→Shared→Prop}(hu:knd.room A)(hkey:knd.is s.heap k a)(hm:s.heap.DictOfH knd d xs)
  (h1:∀p,atKey xs k=some p→Q p.2 {s with toks:=s.toks+knd.draws k})
  (h2:atKey xs k=none→∀h',h'.DictOfH knd d (storedH xs k a v)→Heap.SameBut d s.heap h'→Q v {s with heap:=h',toks:=s.toks+knd.draws k})
  (hsz:xs.length≤sizeLine):wpAny (model prog w) A (dictSetDefault d (.ref a) v) Q E s:=by
 obtain⟨o,es,ep,ho,hc,hd,he,his,hn⟩:=hm
 unfold dictSetDefault
 try with_reducible refine wpAny_holding ?_
 refine wpAny_bind (knd.pyHash hu hkey ?_)
 refine wpAny_bind (wpAny_dictFind_heap (s:={s with toks:=s.toks+knd.draws k}) hu hkey ho hd he his hn ?_ ?_)
 ·intro hno
  have hnot:k∉xs.map (·.1):=not_mem_keys_of_get hno
  have none_:=atKey_none_of_get hno
  refine wpAny_bind (wpAny_rule ?_)
  refine wpAny_bind (wpAny_updateDictKeys (hz:=by have e:=size_of_entries he;omega) (s:={s with toks:=s.toks+knd.draws k}) ho hd (wpAny_pure (h2 none_ _ ⟨_,_,ep+1,Heap.get?_update_self _ ho (Obj.isFreed_of_dict (Obj.data_mapDictKeys hd _)),
   hc.mapDictKeys _,Obj.data_mapDictKeys hd _,?_,?_,?_⟩ (Heap.SameBut.update ..))))
  ·rw[storedH_new none_]
   simp[he,entryOfKey]
  ·rw[storedH_new none_]
   intro x hx
   rcases List.mem_append.mp hx with hx|hx
   ·exact knd.keeps (his x hx) ho hd (Heap.SameBut.update ..)
   ·simp only[List.mem_singleton] at hx
    subst hx
    exact knd.keeps hkey ho hd (Heap.SameBut.update ..)
  ·rw[storedH_new none_]
   rw[List.map_append,List.nodup_append]
   refine⟨hn,by simp,?_⟩
   intro x hx y hy
   simp only[List.map_cons,List.map_nil,List.mem_singleton] at hy
   subst hy
   exact fun e=>hnot (e▸hx)
 ·intro j p hj
  have at_:=atKey_of_get hn hj
  refine wpAny_bind (wpAny_dictEntries (s:={s with toks:=s.toks+knd.draws k}) ho hd ?_)
  rw[entry_at he j,hj]
  exact wpAny_bind (wpAny_rule (wpAny_pure (h1 _ at_)))
theorem hk_meets_setdefault (knd:HeapKind prog w K)(d a:Addr)(hd:(d==sysModules)=false)(dflt:Value) :
  MeetsIn prog w (Builtin.«dict.setdefault» ⟨[.ref d,.ref a,dflt],[]⟩) (fun A R s=>knd.room A.in1∧∃k xs,knd.is s.heap k a∧s.heap.DictOfH knd d xs∧xs.length≤sizeLine∧
   (∀p,atKey xs k=some p→R (.ok (.ret p.2)) {s with toks:=s.toks+knd.draws k})∧
   (atKey xs k=none→∀h',h'.DictOfH knd d (storedH xs k a dflt)→Heap.SameBut d s.heap h'→R (.ok (.ret dflt)) {s with heap:=h',toks:=s.toks+knd.draws k})):=
 .of_wp fun A R s ⟨hu,k,xs,hkey,hm,hz,h1,h2⟩=>by
  unfold Builtin.«dict.setdefault»
  refine wpAny_bind ?_
  unfold Builtin.Dict.keyAndDefault
  refine wpAny_bind (wpAny_notOrdered_dict hm.typeIs ?_)
  show wpAny _ _ (pure (d,Value.ref a,some dflt)) _ _ s
  refine wpAny_pure ?_
  show wpAny _ _ (if(d==sysModules)=true then _ else(dictSetDefault d (.ref a) dflt >>= _)) _ _ s
  rw[if_neg (by rw[hd];exact Bool.false_ne_true)]
  exact wpAny_bind (hk_setDefault (hsz:=hz) hu hkey hm (fun p hp=>wpAny_pure ⟨p.2,rfl,h1 p hp⟩) fun hn h' hm' hs'=>wpAny_pure ⟨dflt,rfl,h2 hn h' hm' hs'⟩)
end
end PySem
namespace L2
open PySem PySem.Spec PyProof.Rows
def Oa (H:Hp)(a:Addr)(y z r:V)(H':Hp):Prop:=
 (MW H a y (some r)∧H'=H)∨(∃kvs k,H a=some (.dK kvs)∧y=kV k∧mj kvs k=none∧kvs.length<sizeLine∧r=z∧H'=ce H a (.dK (pb kvs k z)))∨
 ∃kvs k b,H a=some (.dT kvs)∧y=.ref b∧H b=some (.tup (k.map kV))∧mj kvs k=none∧kvs.length<sizeLine∧r=z∧H'=ce H a (.dT (pb kvs k z))
section
variable {X:Cx}{ag:List (Addr×Obj)}{σ:St}{H H':Hp}{s:Shared}{a:Addr}{y z r:V}{u d:Value}{A:Around}{E:Value→Shared→Prop}
theorem CZ {Q:Value→Shared→Prop}(hu:A.units+1<cLine)(I:Inv X ag σ H s)(g:Oa H a y z r H')(ry:bc y u)(rz:bc z d)(h:∀w' s',Inv X ag σ H' s'→bc r w'→Q w' s') :
  wpAny (model X.prog X.w) A (call (.builtin "dict.setdefault") [.ref a,u,d]) Q E s:=by
 rcases g with⟨g,rfl⟩|⟨kvs,k,e,ey,l,hl,er,rfl⟩|⟨kvs,k,b,e,ey,eb,l,hl,er,rfl⟩
 ·rcases g with⟨kvs,k,e,ey,l⟩|⟨kvs,k,b,e,ey,eb,l⟩
  ·subst ey
   obtain⟨z',hd,vs,rel,dd⟩:=Bb I.hok e
   obtain⟨w',hw,rw'⟩:=kM.some_of (v:=r) (o:=valueAt vs k) (by rw[l];exact rel.val k)
   refine call_meetsIn PySem.F.slot_dict_setdefault dd.typeIs PySem.F.entry_dict_setdefault (PySem.F.args_dict_setdefault_3 _ _ _) (kt_meets_setdefault (cw X.prog X.w) a (Dm ry) hd d) ⟨vs,dd,by rw[←rel.length];exact z',fun v hv=>?_,fun hn=>?_⟩
   ·rw[hw] at hv;cases hv
    exact h _ _ (I.tok _) rw'
   ·rw[hw] at hn;cases hn
  ·subst ey
   cases (show u=Value.ref b from ry)
   obtain⟨z',hd,xs,rel,dd⟩:=Be I.hok e
   obtain⟨w',hw,rw'⟩:=kM.some_of (v:=r) (o:=(atKey xs k).map (·.2)) (by rw[l];exact rel.val k)
   obtain⟨p,hp,hp2⟩:=Option.map_eq_some_iff.mp hw
   refine call_meetsIn PySem.F.slot_dict_setdefault dd.typeIs PySem.F.entry_dict_setdefault (PySem.F.args_dict_setdefault_3 _ _ _) (hk_meets_setdefault (tupleKind (cw X.prog X.w)) a b hd d) ⟨tupleKind_room_in1 hu,k,xs,yG I.hok eb,dd,by rw[←Paired.length rel];exact z',fun q hq=>?_,fun hn=>?_⟩
   ·rw[hp] at hq;cases hq
    rw[hp2]
    exact h _ _ (I.tok _) rw'
   ·rw[hp] at hn;cases hn
 ·subst ey er
  obtain⟨z',hd,vs,rel,dd⟩:=Kz I.hok e
  have hn:valueAt vs k=none:=kM.none_of (by rw[←l];exact rel.val k)
  have hl':(pb kvs k r).length≤sizeLine:=by have:=oN kvs k r;omega
  refine call_meetsIn PySem.F.slot_dict_setdefault dd.typeIs PySem.F.entry_dict_setdefault (PySem.F.args_dict_setdefault_3 _ _ _) (kt_meets_setdefault (cw X.prog X.w) a (Dm ry) hd d) ⟨vs,dd,by rw[←rel.length];exact z',fun v hv=>?_,fun _ h' dd' hs=>h _ _ ?_ rz⟩
  ·rw[hn] at hv;cases hv
  ·have he:∃q,h'.get? a=some q:=let ⟨q,_,_,hq,_⟩:=dd';⟨q,hq⟩
   exact zA I (by rw[e];exact True.intro) hs he (GB hl' hd (rel.put k rz) dd')
 ·subst ey er
  cases (show u=Value.ref b from ry)
  obtain⟨z',hd,xs,rel,dd⟩:=Kk I.hok e
  have hn:(atKey xs k).map (·.2)=none:=kM.none_of (by rw[←l];exact rel.val k)
  have hl':(pb kvs k r).length≤sizeLine:=by have:=oN kvs k r;omega
  refine call_meetsIn PySem.F.slot_dict_setdefault dd.typeIs PySem.F.entry_dict_setdefault (PySem.F.args_dict_setdefault_3 _ _ _) (hk_meets_setdefault (tupleKind (cw X.prog X.w)) a b hd d) ⟨tupleKind_room_in1 hu,k,xs,yG I.hok eb,dd,by rw[←Paired.length rel];exact z',fun q hq=>?_,fun _ h' dd' hs=>h _ _ ?_ rz⟩
  ·rw[hq] at hn;cases hn
  ·obtain⟨q,es,ep,hq,h2,h3,h4,_,h5⟩:=dd'
   refine zA I (by rw[e];exact True.intro) hs ⟨q,hq⟩ ⟨hl',hd,_,(rel.put k eb rz).keeps fun c ys ec=>?_,q,es,ep,hq,h2,h3,h4,h5⟩
   rw[aC (wG ec e (fun z=>nomatch z))]
   exact ec
end
section
variable {X:Cx}{o e f:Expr}{td ty tx:TE}{apos cpos:Pos}
def Mg (td ty tx:TE):TE:=fun σ H Q=>td σ H fun x H1=>∃a,x=.ref a∧NF H1 a∧ty σ H1 fun y H2=>tx σ H2 fun z H3=>∃r H4,Oa H3 a y z r H4∧Q r H4
theorem xU (hu:X.A.units+1<cLine)(ho:PE X o td)(he:PE X e ty)(hf:PE X f tx)(m:M2 X o "setdefault" apos e f cpos):PE X (.Call (.Attribute o "setdefault" apos) [e,f] [] cpos) (Mg td ty tx):=by
 intro ag s σ H Q I h
 refine wpAny_Call_method m.base m.few m.line PySem.F.plainAttrs_dict PySem.F.slot_dict_setdefault PySem.F.type_dict_setdefault (cy (ho ag s σ H _ I h) fun u s1 ⟨x,H1,I1,rx,a,ex,d,q1⟩=>?_)
 subst ex
 obtain rfl:u=Value.ref a:=rx
 obtain⟨t1,t2,_⟩:=Hw I1 d
 refine⟨t1,t2,?_⟩
 rw[m.trees]
 refine Calls.callWith_builtin rfl (Calls.evalArgs_plain (Calls.spliced_cons (cy (he ag s1 σ H1 _ I1 q1) fun iv s2 ⟨y,H2,I2,ry,q2⟩=>
  Calls.spliced_cons (cy (hf ag s2 σ H2 _ I2 q2) fun fv s3 ⟨z,H3,I3,rz,r,H4,g,q3⟩=>Calls.spliced_nil ?_))))
 exact CZ hu I3 g ry rz fun w' s4 I4 rw'=>⟨_,H4,I4,rw',q3⟩
end
def sortI (ns:List Int):List Int:=ns.mergeSort fun a b=>decide (a≤b)
theorem mf (ns:List Int):(sortI ns).Perm ns:=List.mergeSort_perm ns _
theorem vV (ns:List Int):(sortI ns).Pairwise (·≤·):=by
 have h:(sortI ns).Pairwise (fun a b=>decide (a≤b)=true):=List.pairwise_mergeSort (le:=fun a b=>decide (a≤b)) (fun a b c h1 h2=>by simp at *;omega) (fun a b=>by simp;omega) ns
 exact h.imp fun h=>by simpa using h
theorem oi:∀{a b:List Int},a.Perm b→a.Pairwise (·≤·)→b.Pairwise (·≤·)→a=b
 | [],b,p,_,_=>(List.Perm.nil_eq p)
 | x::a,[],p,_,_=>absurd p.symm.nil_eq (by simp)
 | x::a,y::b,p,ha,hb=>by
  have h1:x≤y:=by
   rcases List.mem_cons.mp (p.symm.subset (List.mem_cons_self ..):y∈x::a) with e|e
   ·omega
   ·exact(List.pairwise_cons.mp ha).1 y e
  have h2:y≤x:=by
   rcases List.mem_cons.mp (p.subset (List.mem_cons_self ..):x∈y::b) with e|e
   ·omega
   ·exact(List.pairwise_cons.mp hb).1 x e
  have e:x=y:=by omega
  subst e
  rw[oi (List.perm_cons x |>.mp p) (List.pairwise_cons.mp ha).2 (List.pairwise_cons.mp hb).2]
theorem sG:∀{ns:List Int} {us:List Value},aW (ns.map V.int) us→IntsAre us ns
 | [],us,r=>by cases r;exact .nil
 | n::ns,us,r=>by
  cases r with
  | cons h t=>
   obtain⟨tk,e⟩:=(show∃t,_=Value.int n t from h)
   subst e
   exact .cons n tk (sG t)
theorem pK:∀{us:List Value} {ns:List Int},IntsAre us ns→aW (ns.map V.int) us
 | _,_,.nil=>.nil
 | _,_,.cons n t r=>.cons ⟨t,rfl⟩ (pK r)
section
variable {X:Cx}
theorem wa:dh X (.builtin "sorted") (fun xs H Q=>∃p ns,xs=[.ref p]∧mV X.K H p (ns.map V.int)∧ns.length<64∧∀l,H l=none→Q (.ref l) (ce H l (.lst ((sortI ns).map V.int)))):=by
 intro ag s σ H xs us Q I r h
 obtain⟨p,ns,rfl,hq,h64,q⟩:=h
 obtain⟨u,rfl,rx⟩:=l6 r
 cases rx
 obtain⟨its,r',pl,hz⟩:=I.list hq
 have hlen:=r'.length
 rw[List.length_map] at hlen
 refine sorted_ints pl.isList (sG r') (by omega) fun out ns' a1 a2 a3=>?_
 have e:ns'=sortI ns:=oi (a2.trans (mf ns).symm) a3 (vV ns)
 subst e
 obtain⟨c,he⟩:=sortedAll_at s.heap its out
 have hl2:(sortI ns).length≤sizeLine:=by rw[(mf ns).length_eq,sizeLine_eq];omega
 exact⟨.ref (s.heap.objs.size+1),_,I.laid (t':=s.toks) (fun _ _=>sortedAll_old) (Nat.le_succ _) (show cz X.prog X.w _ _ _ (.lst ((sortI ns).map V.int)) from⟨by rw[List.length_map];exact hl2,out.toList,c,pK a1,by simpa using he⟩),rfl,q _ (I.hok.fresh (Nat.le_succ _))⟩
end
end L2
namespace DL
open PySem PySem.Spec PyProof.Rows L2
def nk:D→Option dB
 | .int i=>some (.inl i)
 | .str x=>some (.inr x)
 | _=>none
def Az:List D→Option (List dB)
 | []=>some []
 | d::ds=>match nk d,Az ds with
  | some k,some ks=>some (k::ks)
  | _,_=>none
def n8:D→Option (List dB)
 | .tup ds=>Az ds
 | _=>none
def kL {κ:Type}[DecidableEq κ](kvs:List (κ×D))(k:κ):Option D:=(kvs.find? fun kv=>decide (kv.1=k)).map (·.2)
section
variable {K:W.Frag}{θ:List Addr}{H:Hp}
theorem F1 {d:D}{k:dB}{v:V}(e:nk d=some k)(r:dX K θ H d v):v=kV k:=by
 cases d <;> simp only[nk,Option.some.injEq,reduceCtorEq] at e
 ·subst e;exact r
 ·subst e;exact r
theorem CD:∀{ds:List D} {ks:List dB} {vs:List V},Az ds=some ks→bn K θ H ds vs→vs=ks.map kV
 | [],ks,vs,e,r=>by
  simp only[Az,Option.some.injEq] at e;subst e;exact r
 | d::ds,ks,vs,e,r=>by
  obtain⟨v,us,e1,r1,r2⟩:=r
  simp only[Az] at e
  cases q1:nk d with
  | none=>rw[q1] at e;cases e
  | some k=>
   cases q2:Az ds with
   | none=>rw[q1,q2] at e;cases e
   | some ks'=>
    rw[q1,q2] at e
    cases e
    rw[e1,F1 q1 r1,CD q2 r2];rfl
theorem Hy {d:D}{ks:List dB}{v:V}(e:n8 d=some ks)(r:dX K θ H d v):∃b,v=.ref b∧H b=some (.tup (ks.map kV))∧b∉θ:=by
 cases d with
 | tup ds=>
  obtain⟨a,vs,e1,t,r1⟩:=r
  rw[CD e r1] at t
  exact⟨a,e1,t.1,t.2⟩
 | _=>cases e
section
variable {κ:Type}[DecidableEq κ]
theorem AY {p:κ×D}{r:List (κ×D)}{k:κ}(e:p.1=k):kL (p::r) k=some p.2:=by simp[kL,List.find?_cons,e]
theorem Cv {p:κ×D}{r:List (κ×D)}{k:κ}(e:¬p.1=k):kL (p::r) k=kL r k:=by simp[kL,List.find?_cons,e]
theorem qL:∀{fs:List (κ×D)} {vs:List (κ×V)} (k:κ),pN K θ H fs vs→(∀d,kL fs k=some d→∃v,mj vs k=some v∧dX K θ H d v)∧(kL fs k=none→mj vs k=none)
 | [],vs,k,r=>by
  have e:vs=[]:=r
  subst e
  exact⟨fun d h=>(by cases h),fun _=>rfl⟩
 | p::fs,vs,k,r=>by
  obtain⟨k0,d0⟩:=p
  obtain⟨v,us,e,h1,h2⟩:=r
  subst e
  by_cases q:k0=k
  ·rw[AY (p:=(k0,d0)) q,nr (p:=(k0,v)) q]
   exact⟨fun d h=>(by cases h;exact⟨v,rfl,h1⟩),fun h=>(by cases h)⟩
  ·rw[Cv (p:=(k0,d0)) q,nh (p:=(k0,v)) q]
   exact qL k h2
theorem oC {k:κ}{d:D}{v:V}(h:dX K θ H d v):∀{fs:List (κ×D)} {vs:List (κ×V)},pN K θ H fs vs→pN K θ H (fs++[(k,d)]) (vs++[(k,v)])
 | [],vs,r=>by
  have e:vs=[]:=r
  subst e
  exact⟨v,[],rfl,h,rfl⟩
 | (k0,d0)::fs,vs,r=>by
  obtain⟨u,us,e,h1,h2⟩:=r
  subst e
  exact⟨u,us++[(k,v)],rfl,h1,oC h h2⟩
theorem kR:∀{fs:List (κ×D)} {vs:List (κ×V)},pN K θ H fs vs→fs.length=vs.length
 | [],vs,r=>by
  have e:vs=[]:=r
  subst e;rfl
 | (k0,d0)::fs,vs,r=>by
  obtain⟨u,us,e,h1,h2⟩:=r
  subst e
  rw[List.length_cons,List.length_cons,kR h2]
end
end
section
variable {X:Cx}{pos apos cpos:Pos}{o e f:Expr}
def wo:GE:=fun _ M=>.ok (.mr M.length) (M++[.dK []])
def wl:GE:=fun _ M=>.ok (.mr M.length) (M++[.dT []])
theorem D6:PE X (.Dict [] [] pos) (tE X wo):=B4.of fun σ H Q ⟨ρ,θ,M,hd,hw,h⟩ p hp=>by
 have h:aP X θ H Q (.ok (.mr M.length) (M++[.dK []])):=h
 exact h _ _ _ (uA hw hp ⟨[],bF,rfl⟩) (pL hw)
theorem Ft:PE X (.Dict [] [] pos) (tE X wl):=Cs.of fun σ H Q ⟨ρ,θ,M,hd,hw,h⟩ p hp=>by
 have h:aP X θ H Q (.ok (.mr M.length) (M++[.dT []])):=h
 exact h _ _ _ (uA hw hp ⟨[],bF,rfl⟩) (pL hw)
def ue:Option MO→Bool
 | some (.dK _)=>true
 | some (.dT _)=>true
 | _=>false
def fL (i:Nat)(y z:D)(M:aB):bg D:=match M[i]? with
 | some (.dK kvs)=>match nk y with
  | some k=>match kL kvs k with
   | some r=>.ok r M
   | none=>if kvs.length<sizeLine then .ok z (M.set i (.dK (kvs++[(k,z)]))) else .bad
  | none=>.bad
 | some (.dT kvs)=>match n8 y with
  | some k=>match kL kvs k with
   | some r=>.ok r M
   | none=>if kvs.length<sizeLine then .ok z (M.set i (.dT (kvs++[(k,z)]))) else .bad
  | none=>.bad
 | _=>.bad
def jO (go gy gz:GE):GE:=fun ρ M=>(go ρ M).bind fun o M1=>match o with
 | .mr i=>if ue M1[i]?=true then(gy ρ M1).bind fun y M2=>(gz ρ M2).bind fun z M3=>fL i y z M3 else .bad
 | _=>.bad
theorem AG {K:W.Frag}{θ:List Addr}{H:Hp}{M:aB}{i:Nat}{a:Addr}(hw:Wr K θ H M)(ta:θ[i]?=some a)(h:ue M[i]?=true):NF H a:=by
 cases q:M[i]? with
 | none=>rw[q] at h;cases h
 | some m=>
  cases m with
  | lst _=>rw[q] at h;cases h
  | obj _ _=>rw[q] at h;cases h
  | dK kvs=>obtain⟨vs,e,_⟩:=hw.at_ i a _ ta q;exact .inl ⟨vs,.inl e⟩
  | dT kvs=>obtain⟨vs,e,_⟩:=hw.at_ i a _ ta q;exact .inr ⟨vs,.inl e⟩
theorem z5 {go gy gz:GE}(hu:X.A.units+1<cLine)(ho:PE X o (tE X go))(he:PE X e (tE X gy))(hf:PE X f (tE X gz))(m:M2 X o "setdefault" apos e f cpos) :
  PE X (.Call (.Attribute o "setdefault" apos) [e,f] [] cpos) (tE X (jO go gy gz)):=(xU hu ho he hf m).of fun σ H Q ⟨ρ,θ,M,hd,hw,h⟩=>by
 refine bI hd hw (aP X θ H Q) (fun c M' h=>h) (fun h=>h) h fun d M1 v θ1 H1 g1 r1 h1=>?_
 have h2:=aP.go g1 h1
 cases d with
 | mr i=>
  have h2:aP X θ1 H1 Q (if ue M1[i]?=true then(gy ρ M1).bind fun y M2=>(gz ρ M2).bind fun z M3=>fL i y z M3 else .bad):=h2
  obtain⟨a,ea,ta⟩:=id r1
  split at h2
  ·rename_i hD
   refine⟨a,ea,AG g1.wr ta hD,?_⟩
   refine bI (hd.go g1) g1.wr (aP X θ1 H1 Q) (fun c M' h=>h) (fun h=>h) h2 fun dy M2 vy θ2 H2 g2 r2 h3=>?_
   refine bI ((hd.go g1).go g2) g2.wr (aP X θ2 H2 Q) (fun c M' h=>h) (fun h=>h) (aP.go g2 h3) fun dz M3 vz θ3 H3 g3 r3 h4=>?_
   have h4:=aP.go g3 h4
   have ry:dX X.K θ3 H3 dy vy:=r2.go g3
   obtain⟨a',ea',ta3⟩:dX X.K θ3 H3 (.mr i) v:=r1.go (g2.trans g3)
   obtain rfl:a=a':=by rw[ea] at ea';injection ea'
   unfold fL at h4
   cases q:M3[i]? with
   | none=>rw[q] at h4;exact h4.elim
   | some mo=>
    cases mo with
    | lst _=>rw[q] at h4;exact h4.elim
    | obj _ _=>rw[q] at h4;exact h4.elim
    | dK kvs=>
     rw[q] at h4
     dsimp only at h4
     obtain⟨vs,hv,ra⟩:=g3.wr.at_ i a _ ta3 q
     cases qk:nk dy with
     | none=>rw[qk] at h4;exact h4.elim
     | some k=>
      rw[qk] at h4
      dsimp only at h4
      have ek:=F1 qk ry
      obtain⟨i1,i2⟩:=qL k ra
      cases qg:kL kvs k with
      | some r=>
       rw[qg] at h4
       obtain⟨vr,hvr,rr⟩:=i1 r qg
       exact⟨vr,H3,.inl ⟨.inl ⟨vs,k,.inl hv,ek,hvr.symm⟩,rfl⟩,h4 _ _ _ (.refl g3.wr) rr⟩
      | none=>
       rw[qg] at h4
       dsimp only at h4
       split at h4
       ·rename_i hl
        have nv:=i2 qg
        refine⟨vz,_,.inr (.inl ⟨vs,k,hv,ek,nv,by rw[←kR ra];exact hl,rfl,rfl⟩),?_⟩
        rw[wI vz nv]
        have gs:=pJ (m:=.dK (kvs++[(k,dz)])) (o:=.dK (vs++[(k,vz)])) g3.wr ta3 ⟨_,bF,jF (m4 g3.wr ta3) (oC r3 ra)⟩
        exact h4 _ _ _ gs (r3.go gs)
       ·exact h4.elim
    | dT kvs=>
     rw[q] at h4
     dsimp only at h4
     obtain⟨vs,hv,ra⟩:=g3.wr.at_ i a _ ta3 q
     cases qk:n8 dy with
     | none=>rw[qk] at h4;exact h4.elim
     | some k=>
      rw[qk] at h4
      dsimp only at h4
      obtain⟨b,eb,hb,_⟩:=Hy qk ry
      obtain⟨i1,i2⟩:=qL k ra
      cases qg:kL kvs k with
      | some r=>
       rw[qg] at h4
       obtain⟨vr,hvr,rr⟩:=i1 r qg
       exact⟨vr,H3,.inl ⟨.inr ⟨vs,k,b,.inl hv,eb,hb,hvr.symm⟩,rfl⟩,h4 _ _ _ (.refl g3.wr) rr⟩
      | none=>
       rw[qg] at h4
       dsimp only at h4
       split at h4
       ·rename_i hl
        have nv:=i2 qg
        refine⟨vz,_,.inr (.inr ⟨vs,k,b,hv,eb,hb,nv,by rw[←kR ra];exact hl,rfl,rfl⟩),?_⟩
        rw[wI vz nv]
        have gs:=pJ (m:=.dT (kvs++[(k,dz)])) (o:=.dT (vs++[(k,vz)])) g3.wr ta3 ⟨_,bF,jF (m4 g3.wr ta3) (oC r3 ra)⟩
        exact h4 _ _ _ gs (r3.go gs)
       ·exact h4.elim
  ·exact h2.elim
 | _=>exact h2.elim
def pq:List D→Option (List Int)
 | []=>some []
 | .int i::ds=>(pq ds).map (i::·)
 | _::_=>none
theorem CK {K:W.Frag}{θ:List Addr}{H:Hp}:∀{ds:List D} {ns:List Int} {vs:List V},pq ds=some ns→bn K θ H ds vs→vs=ns.map V.int
 | [],ns,vs,e,r=>by
  simp only[pq,Option.some.injEq] at e;subst e;exact r
 | d::ds,ns,vs,e,r=>by
  obtain⟨v,us,e1,r1,r2⟩:=r
  cases d with
  | int i=>
   simp only[pq] at e
   obtain⟨ms,e2,e3⟩:=Option.map_eq_some_iff.mp e
   subst e3
   rw[e1,CK e2 r2,show v=V.int i from r1];rfl
  | _=>cases e
theorem ox {K:W.Frag}{θ:List Addr}{H:Hp}:∀ns:List Int,bn K θ H (ns.map D.int) (ns.map V.int)
 | []=>rfl
 | n::ns=>⟨_,_,rfl,rfl,ox ns⟩
def pT:FD:=fun ds M=>match ds with
 | [d]=>match pM d M with
  | some xs=>match pq xs with
   | some ns=>if ns.length<64 then .ok (.lst ((sortI ns).map D.int)) M else .bad
   | none=>.bad
  | none=>.bad
 | _=>.bad
theorem tJ:dh X (.builtin "sorted") (rC X pT):=by
 intro ag s σ H xs us Q I r h
 obtain⟨θ,M,ds,hw,rd,h⟩:=h
 unfold pT at h
 split at h
 ·rename_i d
  split at h
  ·rename_i ys q
   split at h
   ·rename_i ns qn
    split at h
    ·rename_i hl
     obtain⟨v,e,rv⟩:=jo rd
     obtain⟨a,vs,ea,ta,ra⟩:=wK hw rv q
     have ev:=CK qn ra
     subst ev
     exact wa ag s σ H xs us Q I r ⟨a,ns,by rw[e,ea],.inl (.inl ta),hl,fun l hp=>h _ θ _ (dG hw hp) (jd hw hp (ox _))⟩
    ·exact h.elim
   ·exact h.elim
  ·exact h.elim
 ·exact h.elim
end
section
variable {X:Cx}{pos apos cpos:Pos}{o e f:Expr}{go gy gz:GE}
theorem Ef:QE X (.Dict [] [] pos) wo:=⟨D6⟩
theorem EI:QE X (.Dict [] [] pos) wl:=⟨Ft⟩
theorem BI:QC X (.builtin "sorted") pT:=⟨tJ⟩
theorem Av {k:Nat}(hr:bv k X.A)(ho:QE X o go)(he:QE X e gy)(hf:QE X f gz)
  (base:attributeBase o "setdefault" X.env (eval o X.env)=eval o X.env:=by rfl)
  (few:((backTo cpos (starEach [e,f] X.env)).all (fun x=>!x.1)&&(backToKw cpos (keywordEach [] X.env)).all (fun x=>x.1.isSome)
   && decide (([e,f]:List Expr).length+([]:List Keyword).length+(if([]:List Keyword).isEmpty then 0 else 1)<30))=true:=by rfl)
  (line:(apos.endLine==cpos.line)=true:=by rfl) (trees:backTo cpos (starEach [e,f] X.env)=[(false,eval e X.env),(false,eval f X.env)]:=by rfl) :
  QE X (.Call (.Attribute o "setdefault" apos) [e,f] [] cpos) (jO go gy gz):=⟨z5 (Ke hr) ho.h he.h hf.h ⟨base,few,line,trees⟩⟩
end
end DL
namespace L2
open PySem PySem.Spec PyProof.Rows
theorem rH:seqSlot? (.type "list") (dunderI "add")=pure (some (.builtin "list.__iadd__")):=PySem.seqSlot_of PySem.F.slot_list_iadd.lookup (by decide +kernel)
theorem oH:fillsInplaceSlot (.type "list") "add" (Operator.Add==.Add)=pure false:=by
 unfold fillsInplaceSlot
 show(typeLookup (.type "list") (dunderI "add") >>= fun fi=>pure (fi.isSome&&!isSeqSlot fi))=pure false
 have e:isSeqSlot (some (Value.builtin "list.__iadd__"))=true:=by decide +kernel
 rw[PySem.F.slot_list_iadd.lookup,pure_bind,e]
 rfl
section
variable {X:Cx}
theorem ug {M:Model}{A:Around}{E:Value→Shared→Prop}{s:Shared}{a b:Value}{Q:Value→Shared→Prop}(ha:s.TypeIs a "list")(hb:s.TypeIs b "list")
  (hc:wpAny M A (call (.builtin "list.__iadd__") [a,b]) Q E s):wpAny M A (inplaceOp .Add a b) Q E s:=by
 unfold inplaceOp
 refine wpAny_holding ?_
 refine wpAny_bind (wpAny_typeOf ha (wpAny_bind (wpAny_of_eq oH ?_)))
 show wpAny M A (if false=true then _ else _) Q E s
 rw[if_neg Bool.false_ne_true]
 refine wpAny_bind (wpAny_binaryOp1_none (nm:="add") ha hb PySem.noFill_list_add ?_)
 refine wpAny_bind (wpAny_of_eq rH ?_)
 exact wpAny_bind (wpAny_rule hc)
def Lz:V→V→Hp→VK→Prop:=fun x y H Q=>(∃i j,x=.int i∧y=.int j∧Q (.int (i+j)) H)∨
 ∃l b xs zs,x=.ref l∧y=.ref b∧H l=some (.lst xs)∧H b=some (.lst zs)∧xs.length+zs.length≤sizeLine∧Q (.ref l) (ce H l (.lst (xs++zs)))
theorem zF:DH X .Add Lz:=by
 intro ag s σ H x y u v Q I rx ry h
 rcases h with⟨i,j,e1,e2,q⟩|⟨l,b,xs,zs,rfl,rfl,hH,hB,hz,q⟩
 ·exact Hc ag s σ H x y u v Q I rx ry ⟨i,j,e1,e2,q⟩
 ·cases rx
  cases ry
  obtain⟨z,its,n,r,hl,e⟩:=I.lstM hH
  obtain⟨z2,its2,n2,r2,hl2,e2⟩:=I.lstM hB
  have hsz:its.toArray.size+its2.toArray.size≤sizeLine:=by rw[List.size_toArray,List.size_toArray];omega
  have hlong:¬(!its.toArray.isEmpty&&Builtin.List.listTooLong (its.toArray.size+its2.toArray.size))=true:=by
   rw[BQ hsz,Bool.and_false]
   exact Bool.false_ne_true
  refine ug ⟨_,e,rfl⟩ ⟨_,e2,rfl⟩ (call_meets PySem.F.slot_list_iadd ⟨_,e,rfl⟩ PySem.F.entry_list_iadd (PySem.F.args_list_iadd_2 _ _)
   (AutoSeq1.list___iadd___list_list_0 l its.toArray n b its2.toArray n2 hlong (by rw[List.size_toArray];omega) (by omega)) ⟨e,e2,?_⟩)
  refine⟨.ref l,_,I.lset (its':=its++its2) hH e (by simp) (r.append r2) ?_,rfl,q⟩
  rw[List.length_append]
  omega
end
end L2
namespace DL
open PySem PySem.Spec PyProof.Rows L2
section
variable {X:Cx}{c f:Str}{C:Addr}{o value:Expr}{go gv:GE}{pos pos' tpos:Pos}
def yR (x y:D)(M:aB):bg D:=match x with
 | .int i=>match y with
  | .int j=>.ok (.int (i+j)) M
  | _=>.bad
 | .mr k=>match M[k]? with
  | some (.lst xs)=>match pM y M with
   | some ys=>if xs.length+ys.length≤sizeLine then .ok (.mr k) (M.set k (.lst (xs++ys))) else .bad
   | none=>.bad
  | _=>.bad
 | _=>.bad
def NR (X:Cx):V→V→Hp→VK→Prop:=fun x y H Q=>∃θ M dx dy,Wr X.K θ H M∧dX X.K θ H dx x∧dX X.K θ H dy y∧aP X θ H Q (yR dx dy M)
theorem IZ:DH X .Add (NR X):=by
 intro ag s σ H x y u v Q I rx ry ⟨θ,M,dx,dy,hw,r1,r2,h⟩
 unfold yR at h
 cases dx with
 | int i=>
  cases dy with
  | int j=>exact zF ag s σ H x y u v Q I rx ry (.inl ⟨i,j,r1,r2,h _ θ H (.refl hw) rfl⟩)
  | _=>exact h.elim
 | mr k=>
  dsimp only at h
  cases q:M[k]? with
  | none=>rw[q] at h;exact h.elim
  | some m=>
   cases m with
   | obj _ _=>rw[q] at h;exact h.elim
   | dK _=>rw[q] at h;exact h.elim
   | dT _=>rw[q] at h;exact h.elim
   | lst xs=>
    rw[q] at h
    dsimp only at h
    cases q2:pM dy M with
    | none=>rw[q2] at h;exact h.elim
    | some ys=>
     rw[q2] at h
     dsimp only at h
     split at h
     ·rename_i hl
      obtain⟨a,ea,ta⟩:=r1
      obtain⟨vs,hv,ra⟩:=hw.at_ k a _ ta q
      obtain⟨b,ws,eb,tb,rb⟩:=wK hw r2 q2
      have gs:=yx (ds:=xs) hw ta (dW ra rb)
      exact zF ag s σ H x y u v Q I rx ry (.inr ⟨a,b,vs,ws,ea,eb,hv,tb,by rw[←ay ra,←ay rb];exact hl,h _ _ _ gs ⟨a,rfl,ta⟩⟩)
     ·exact h.elim
 | _=>exact h.elim
def E8 (c f:Str)(go gv:GE):GS:=fun ρ M=>(go ρ M).bind fun o M1=>match iF c o M1 with
 | some (_,fs)=>match fs.lookup f with
  | some v=>(gv ρ M1).bind fun y M2=>(yR v y M2).bind fun z M3=>(uR c f o z M3).bind fun _ M4=>.ok (.nx ρ) M4
  | none=>.bad
 | none=>.bad
theorem Km (k:Kc X.K X.mg c C)(n:fM X.K C f)(ho:PE X o (tE X go))(hv:PE X value (tE X gv)):PS X (.AugAssign (.Attribute o f tpos) .Add value pos) (tS X (E8 c f go gv)):=
 (zZ ho hv IZ).of fun D σ H ⟨ρ,θ,M,hd,hw,h⟩=>by
  refine bI hd hw (cL X θ H D) (fun c M' h=>h) (fun h=>h) h fun d M1 v θ1 H1 g1 r1 h1=>?_
  have h2:=cL.go g1 h1
  cases q:iF c d M1 with
  | none=>simp only[q] at h2;exact h2.elim
  | some p=>
   obtain⟨j,fs⟩:=p
   simp only[q] at h2
   obtain⟨a,dx,vs,ea,ta,hv,rf,_⟩:=qH g1.wr k.at_ r1 q
   cases ql:fs.lookup f with
   | none=>simp only[ql] at h2;exact h2.elim
   | some y=>
    simp only[ql] at h2
    obtain⟨u,eu,ru⟩:=yQ rf ql
    refine⟨a,C,dx,vs,u,ea,hv,k.cl,n,eu,?_⟩
    refine bI (hd.go g1) g1.wr (cL X θ1 H1 D) (fun c M' h=>h) (fun h=>h) h2 fun w M2 vw θ2 H2 g2 r2 h3=>?_
    have h3:=cL.go g2 h3
    refine⟨θ2,M2,y,w,g2.wr,ru.go g2,r2,?_⟩
    cases qa:yR y w M2 with
    | bad=>rw[qa] at h3;exact h3.elim
    | err c2 M3=>rw[qa] at h3;exact h3
    | ok z M3=>
     rw[qa] at h3
     rw[aj] at h3
     intro vz θ3 H3 g3 rz
     have h4:=cL.go g3 h3
     have r3:=r1.go (g2.trans g3)
     unfold uR at h4
     cases q4:iF c d M3 with
     | none=>simp only[q4] at h4;exact h4.elim
     | some p4=>
      obtain⟨j4,fs4⟩:=p4
      simp only[q4] at h4
      by_cases hl:fs4.length<1000
      ·simp only[if_pos hl] at h4
       obtain⟨a4,dx4,vs4,ea4,ta4,hv4,rf4,_⟩:=qH g3.wr k.at_ r3 q4
       obtain rfl:a=a4:=by rw[ea] at ea4;injection ea4
       have gs:=zn (f:=f) (dx:=dx4) g3.wr ta4 k.at_ rf4 rz
       exact⟨dx4,vs4,hv4,by rw[←xS rf4];exact hl,h4 σ θ3 _ gs ((((hd.go g1).go g2).go g3).go gs)⟩
      ·simp only[if_neg hl] at h4;exact h4.elim
theorem Lp (kc:Kc X.K X.mg c C)(na:fM X.K C f)(ho:QE X o go)(hv:QE X value gv):QS X (.AugAssign (.Attribute o f tpos) .Add value pos) (E8 c f go gv):=⟨Km kc na ho.h hv.h⟩
end
end DL
namespace L2
open PySem PySem.Spec PyProof.Rows
end L2
namespace DL
open PySem PySem.Spec PyProof.Rows L2
theorem aQ {N ps:List Str}{sc:Scope}(h1:sc.kind=.function:=by rfl)(h2:sc.isCoroutine=false:=by rfl)(h3:sc.isGenerator=false:=by rfl)(h4:N.Nodup:=by decide +kernel)(h5:N.take ps.length=ps:=by rfl)
  (h6:∀x∈ps,sc.names.lookup x=some .local∨sc.names.lookup x=some .cell:=by decide +kernel) (h7:∀y∈sc.names,y.2≠.free:=by decide +kernel):d9 N ps sc:=⟨h1,h2,h3,h4,h5,h6,h7⟩
section
variable {X:Cx}{e:Expr}{es:List Expr}{x:Str}{p pos:Pos}{gA:GA}{k k' n:Nat}{f:Addr}{fd:FuncData}{ps:List Str}{F:FD}{st:Stmt}{id:String}{T:String}
theorem J2 (hc:QC X (.builtin id) F)(hm:X.mg x=none)(hv:bootBuiltins x=some (.builtin id))(ha:QA X (e::es) gA)(hg:Gl X x:=by rfl)(hn:x≠"__name__":=by decide)(hdb:(x==("__debug__":Str))=false:=by decide)
  (h1:bu e=true:=by rfl) (h2:cC es=true:=by rfl):QE X (.Call (.Name x p) (e::es) [] pos) (aI F gA):=JZ hc hg hm hv ha hn hdb h1 h2
end
def FF (K:W.Frag)(mg:Str→Option Value)(x:Str)(st:Stmt)(ps:List Str):Prop:=∃f fd,Fn K mg x st f fd ps
def KC (K:W.Frag)(mg:Str→Option Value)(c:Str)(C:Addr):Prop:=Kc K mg c C∧W.makesIn K C=true∧W.keepIn K (.ref C)=true
def MF (K:W.Frag)(mg:Str→Option Value)(c m q:Str)(st:Stmt)(ps:List Str):Prop:=∃C f fd,KC K mg c C∧Mf K C m q st f fd ps
def LF (K:W.Frag)(mg:Str→Option Value)(x:Str)(st:Stmt)(ps:List Str):Prop:=∃f fd c P,Fn K mg x st f fd ps∧W.nsIn K mainGlobals x=some (some (.ref f))∧xg K x c P
def NA (K:W.Frag)(mg:Str→Option Value)(c f:Str):Prop:=∃C,KC K mg c C∧fM K C f
def EX (K:W.Frag)(mg:Str→Option Value)(x:Str):Prop:=∃C,Ec K mg x C
def IX (K:W.Frag)(mg:Str→Option Value)(x:Str)(tab:List (Str×Bool)):Prop:=∃G,Ec K mg x G∧∀p∈tab,∃C,Ec K mg p.1 C∧W.mroIn K C (.ref G)=some p.2
def IB (K:W.Frag)(mg:Str→Option Value)(x:String)(tab:List (Str×Bool)):Prop:=∀p∈tab,∃C,Ec K mg p.1 C∧W.mroIn K C (.type x)=some p.2
def Ls {α:Type}(P:α→Prop)(l:List α):Prop:=∀t∈l,P t
section
variable {α β γ:Type}{P:α→Prop}{l:List α}{a:α}
theorem Ls.nil:Ls P []:=fun _ h=>by cases h
theorem Ls.cons (h:P a)(t:Ls P l):Ls P (a::l):=fun x hx=>by
 rcases List.mem_cons.mp hx with e|e
 ·rw[e];exact h
 ·exact t x e
end
structure RN (l c:Nat)(xs R:List Str):Prop
theorem rn (l c:Nat)(xs R:List Str):RN l c xs R:=⟨⟩
def Ok (P:Program)(w:World)(K:W.Frag)(mg:Str→Option Value)(base:Heap)(x:Str)(k n:Nat)(F:FD):Prop:=
 ∃f fd ps,dE P w K mg base (gU P w) k f fd ps (mY K n F)∧mg x=some (.ref f)∧W.keepIn K (.ref f)=true∧eG K fd ps []
def Om (P:Program)(w:World)(K:W.Frag)(mg:Str→Option Value)(base:Heap)(c m:Str)(k n:Nat)(F:FD):Prop:=
 ∃C f fd ps,dE P w K mg base (gU P w) k f fd ps (mY K n F)∧KC K mg c C∧uj K C m f∧eG K fd ps []
section
variable {P:Program}{w:World}{K:W.Frag}{mg:Str→Option Value}{base:Heap}{x c m q:Str}{st:Stmt}{N ps:List Str}{k n:Nat}{g:GS}{F:FD}
theorem Dw (h:Ok P w K mg base x k n F):Ok P w K mg base x k n fun ds M=>vK M.length (F ds M):=by
 obtain⟨f,fd,ps,h1,h2,h3,h4⟩:=h
 exact⟨f,fd,ps,G4 h1,h2,h3,h4⟩
theorem cp (T:FF K mg x st ps)(N:List Str)(S:d9 N ps (aK st))(hn:ps.length=n)
  (hb:∀(f:Addr) (cdv:Value) (A:Around) (outer:List Env) (s:Shared) (H:Hp) (E:XK),N.Nodup→bv k (A.deeper (envOfC x (aK st) s.heap.objs.size f cdv))→QB (gX (gU P w) P w K mg base N x (aK st) f cdv A outer s H E) (cu st) g) :
  Ok P w K mg base x (k+1) n (a9 (N.length-n) g):=by
 obtain⟨f,fd,T⟩:=T
 exact⟨f,fd,ps,H9 T.F S hn fun cdv A outer s H E hr=>hb f cdv A outer s H E S.nd hr,T.m,T.F.kp,T.b⟩
theorem qT (T:MF K mg c m q st ps)(N:List Str)(S:d9 N ps (aK st))(hn:ps.length=n)
  (hb:∀(f:Addr) (cdv:Value) (A:Around) (outer:List Env) (s:Shared) (H:Hp) (E:XK),N.Nodup→bv k (A.deeper (envOfC q (aK st) s.heap.objs.size f cdv))→QB (gX (gU P w) P w K mg base N q (aK st) f cdv A outer s H E) (cu st) g) :
  Om P w K mg base c m (k+1) n (a9 (N.length-n) g):=by
 obtain⟨C,f,fd,kC,T⟩:=T
 exact⟨C,f,fd,ps,H9 T.F S hn fun cdv A outer s H E hr=>hb f cdv A outer s H E S.nd hr,kC,T.me,T.b⟩
theorem Nk (T:LF K mg x st ps)(N:List Str)(S:d9 N ps (aK st))(hn:ps.length=n)
  (hb:∀(f c Pt:Addr) (A:Around) (outer:List Env) (s:Shared) (H:Hp) (E:XK),N.Nodup→xg K x c Pt→bv k (A.deeper (envOfC x (aK st) s.heap.objs.size f (.ref c)))→QB (gX (gU P w) P w K mg base N x (aK st) f (.ref c) A outer s H E) (cu st) g) :
  Ok P w K mg base x (k+1) n (a9 (N.length-n) g):=by
 obtain⟨f,fd,c,Pt,T,hns,tb⟩:=T
 exact⟨f,fd,ps,G1 T.F hns tb S hn fun A outer s H E hr=>hb f c Pt A outer s H E S.nd tb hr,T.m,T.F.kp,T.b⟩
end
section
variable {X:Cx}{e a o value:Expr}{es:List Expr}{x c m f:Str}{p p2 pos apos pos':Pos}{gA:GA}{g go gv:GE}{k k' n:Nat}{F:FD}{tab:List (Str×Bool)}{bs:List Str}
theorem LN (h:Ok X.prog X.w X.K X.mg X.base x k n F)(hr:bv k' X.A)(ha:QA X (e::es) gA)(hk:k≤k':=by first|decide|omega)(hg:Gl X x:=by rfl)
  (hdb:(x==("__debug__":Str))=false:=by decide) (h1:bu e=true:=by rfl) (h2:cC es=true:=by rfl):QE X (.Call (.Name x p) (e::es) [] pos) (aq n F gA):=by
 obtain⟨f,fd,ps,h1',h2',h3,h4⟩:=h
 exact JY h1' (hr.mono hk) hg h2' h3 h4 ha hdb h1 h2
theorem Fz {pl:Sem Bool}(h:Om X.prog X.w X.K X.mg X.base c m k n F)(hr:bv k' X.A)(ho:QE X o go)(ha:QA X (e::es) gA)(hk:k≤k':=by first|decide|omega)(h1:bu e=true:=by rfl)(h2:cC es=true:=by rfl)
  (ht:eval (.Call (.Attribute o m apos) (e::es) [] pos) X.env=(do
   let ov ←eval o X.env
   standAt apos.atName
   let (f,first) ←holding [ov] (getMethod ov m pl)
   callWith pos f first (backTo pos (starEach (e::es) X.env)) (backToKw pos (keywordEach [] X.env))):=by rfl):QE X (.Call (.Attribute o m apos) (e::es) [] pos) (eU c m n F go gA):=by
 obtain⟨C,f,fd,ps,a1,a2,a3,a4⟩:=h
 exact IM (pl:=pl) a2.1 a3 a1 (hr.mono hk) a4 ho ha h1 h2 ht
theorem Dh {pl:Sem Bool}(h:Om X.prog X.w X.K X.mg X.base c m k n F)(hr:bv k' X.A)(ho:QE X o go)(hk:k≤k':=by first|decide|omega)
  (ht:eval (.Call (.Attribute o m apos) [] [] pos) X.env=(do
   let ov ←eval o X.env
   standAt apos.atName
   let (f,first) ←holding [ov] (getMethod ov m pl)
   callWith pos f first (backTo pos (starEach [] X.env)) (backToKw pos (keywordEach [] X.env))):=by rfl):QE X (.Call (.Attribute o m apos) [] [] pos) (eU c m n F go ah):=by
 obtain⟨C,f,fd,ps,a1,a2,a3,a4⟩:=h
 exact FE (pl:=pl) a2.1 a3 a1 (hr.mono hk) a4 ho ht
theorem CF (h:Om X.prog X.w X.K X.mg X.base c "__init__" k n F)(hr:bv k' X.A)(ha:QA X (e::es) gA)(hk:k+1≤k':=by first|decide|omega)(hg:Gl X c:=by rfl)
  (hdb:(c==("__debug__":Str))=false:=by decide) (h1:bu e=true:=by rfl) (h2:cC es=true:=by rfl):QE X (.Call (.Name c p) (e::es) [] pos) (kH c n F gA):=by
 obtain⟨C,f,fd,ps,a1,a2,a3,a4⟩:=h
 exact Ey a2.1 ⟨a2.2.1,a3.at_,a3.fn,a2.2.2⟩ a1 (hr.mono hk) hg a4 ha hdb h1 h2
theorem Fx (h:NA X.K X.mg c f)(he:QE X e g)(hb:attributeBase e f X.env (eval e X.env)=eval e X.env:=by rfl):QE X (.Attribute e f pos) (dm c f g):=by
 obtain⟨C,h1,h2⟩:=h
 exact Iy h1.1 h2 he hb
theorem Fu (h:NA X.K X.mg c f)(ho:QE X o go)(hv:QE X value gv)(hs:iP value=true:=by rfl):QS X (.Assign [.Attribute o f pos'] value pos) (fE c f go gv):=by
 obtain⟨C,h1,h2⟩:=h
 exact GP h1.1 h2 ho hv hs
theorem Gw {tpos:Pos}(h:NA X.K X.mg c f)(ho:QE X o go)(hv:QE X value gv):QS X (.AugAssign (.Attribute o f tpos) .Add value pos) (E8 c f go gv):=by
 obtain⟨C,h1,h2⟩:=h
 exact Lp h1.1 h2 ho hv
theorem Ac {np cpos:Pos}(h:EX X.K X.mg x)(he:QE X e g)(hg:Gl X x:=by rfl)(hc:X.calm=true:=by rfl)(h1:bu e=true:=by rfl)(hd:(x==("__debug__":Str))=false:=by decide):QS X (.Raise (some (.Call (.Name x np) [e] [] cpos)) none pos) (fo x g):=by
 obtain⟨C,h⟩:=h
 exact Bd h hg he hc h1 hd
end
section
variable {X:Cx}{x:Str}{pos px:Pos}{ge:GE}{scope:Scope}{xs R:List Str}{iter elt tg:Expr}{ifs:List Expr}{gI:GI}{gC:GT}{sg:GG}{mk:List D→aB→bg D}{j:Nat}{y:Str}{py spos:Pos}{n:Nat}
theorem BO (hS:cE scope X.env.kindOf [x] X.N X.N=true)(hm:mk=aF∨mk=dM)(hi:QI X (.Name x px) iter gI)(hts:CC X scope [x] X.N ifs gC)(he:∀fp s H C,QE (aD X scope [x] X.N fp s H C) elt ge)
  (hc:X.calm=true:=by rfl) (hs:∀x,foldedSetIterable iter X.env x=pure x:=by intro _;rfl):QE X (.ListComp elt [⟨.Name x px,iter,ifs,0⟩] scope pos) (aY gI gC ge mk):=Ex hS hm hi hts he hc hs
theorem wj (hS:cE scope X.env.kindOf [x] X.N X.N=true)(hm:mk=aF∨mk=dM)(hN:X.N.Nodup)(hi:QI X (.Name x px) iter gI)(hts:CC X scope [x] X.N ifs gC)(he:∀fp s H C,QE (aD X scope [x] X.N fp s H C) elt ge)
  (hc:X.calm=true:=by rfl) (hj:X.N[j]?=some y:=by rfl) (hy:X.env.scope.names.lookup y=some .local:=by rfl) (hsw:swapsWith (.ListComp elt [⟨.Name x px,iter,ifs,0⟩] scope pos) (some (.Name y py)) spos.line X.env=pure true:=by rfl)
  (hs:∀x,foldedSetIterable iter X.env x=pure x:=by intro _;rfl):QS X (.Assign [.Name y py] (.ListComp elt [⟨.Name x px,iter,ifs,0⟩] scope pos) spos) (aU j (aY gI gC ge mk)):=yw hS hm hN hi hts he hc hj hy hsw hs
theorem Aj (_:RN pos.line pos.col xs R)(hS:cE scope X.env.kindOf xs R X.N=true)(hm:mk=aF∨mk=dM)(own:QO xs.length sg)(hi:QI X tg iter gI)(hg:∀fp s H C,QG (aD X scope xs R fp s H C) tg sg)(hts:CC X scope xs R ifs gC)(he:∀fp s H C,QE (aD X scope xs R fp s H C) elt ge)
  (hn:xs.length=n:=by rfl) (hc:X.calm=true:=by rfl) (hs:∀x,foldedSetIterable iter X.env x=pure x:=by intro _;rfl):QE X (.ListComp elt [⟨tg,iter,ifs,0⟩] scope pos) (bH gI n sg gC ge mk):=hn▸Dk xs hS hm own hi hg hts he hc hs
theorem u4 (_:RN pos.line pos.col xs R)(hS:cE scope X.env.kindOf xs R X.N=true)(hm:mk=aF∨mk=dM)(own:QO xs.length sg)(hN:X.N.Nodup)(hi:QI X tg iter gI)(hg:∀fp s H C,QG (aD X scope xs R fp s H C) tg sg)(hts:CC X scope xs R ifs gC)(he:∀fp s H C,QE (aD X scope xs R fp s H C) elt ge)
  (hn:xs.length=n:=by rfl) (hc:X.calm=true:=by rfl) (hj:X.N[j]?=some y:=by rfl) (hy:X.env.scope.names.lookup y=some .local:=by rfl) (hsw:swapsWith (.ListComp elt [⟨tg,iter,ifs,0⟩] scope pos) (some (.Name y py)) spos.line X.env=pure true:=by rfl)
  (hs:∀x,foldedSetIterable iter X.env x=pure x:=by intro _;rfl):QS X (.Assign [.Name y py] (.ListComp elt [⟨tg,iter,ifs,0⟩] scope pos) spos) (aU j (bH gI n sg gC ge mk)):=hn▸v6 xs hS hm own hN hi hg hts he hc hj hy hsw hs
end
structure Tx (tab:List (Str×Stmt×List Str))(mtab:List (Str×Str×Str×Stmt×List Str))(ls:List (Str×Stmt×List Str))(zs es:List Str)(rs:List (Str×List (Str×Bool)))(vt:List (Str×Bool))(nas:List (Str×Str))(cs:List (Str×Str))(ci:List (Str×Int))
  (P:Program) (w:World) (K:W.Frag) (mg:Str→Option Value) (base:Heap):Prop where
 f:Ls (fun t=>FF K mg t.1 t.2.1 t.2.2) tab
 m:Ls (fun t=>MF K mg t.1 t.2.1 t.2.2.1 t.2.2.2.1 t.2.2.2.2) mtab
 l:Ls (fun t=>LF K mg t.1 t.2.1 t.2.2) ls
 z:∀x∈zs,mg x=none
 e:∀x∈es,EX K mg x
 r:Ls (fun t=>IX K mg t.1 t.2) rs
 b:IB K mg "ValueError" vt
 a:∀t∈nas,NA K mg t.1 t.2
 s:Ls (fun t=>∃tk,mg t.1=some (.str t.2 tk)) cs
 i:Ls (fun t=>∃tk,mg t.1=some (.int t.2 tk)) ci
variable{K:W.Frag}{mg:Str→Option Value}
theorem zo {l:List (Str×Str)}(h:∀t∈l,NA K mg t.1 t.2)(c f:Str)(e:(c,f)∈l:=by decide +kernel):NA K mg c f:=h (c,f) e
section
variable {K:W.Frag}{mg:Str→Option Value}{x c m q:Str}{st:Stmt}{ps:List Str}{l:List (Str×Stmt×List Str)}{l':List (Str×Str×Str×Stmt×List Str)}
theorem cj (h:Ls (fun t=>FF K mg t.1 t.2.1 t.2.2) l)(i:Nat)(e:l[i]?=some (x,st,ps):=by rfl):FF K mg x st ps:=h _ (List.mem_of_getElem? e)
theorem NS (h:Ls (fun t=>LF K mg t.1 t.2.1 t.2.2) l)(i:Nat)(e:l[i]?=some (x,st,ps):=by rfl):LF K mg x st ps:=h _ (List.mem_of_getElem? e)
theorem qY (h:Ls (fun t=>MF K mg t.1 t.2.1 t.2.2.1 t.2.2.2.1 t.2.2.2.2) l')(i:Nat)(e:l'[i]?=some (c,m,q,st,ps):=by rfl):MF K mg c m q st ps:=h _ (List.mem_of_getElem? e)
end
section
variable {K:W.Frag}{h:Heap}{mg:Str→Option Value}{x c m q f':Str}{st:Stmt}{ps:List Str}{f C G:Addr}{oc kV dc pm cd ct:Value}{od an:Option Addr}{sl:Array (Option Value)}
theorem LM (X:K.In h)(Gm:h.Ns mainGlobals mg)(a:W.nsIn K mainGlobals x=some (some (.ref f)))(l:K.lookup f=some ⟨oc,od,.func (W.fnOf x x (fP st) (cu st) (aK st) .none kV dc pm an cd ct),sl⟩)(c:W.codeIn K cd x=true)(k:W.keepIn K (.ref f)=true)
  (b:∀(kV doc pm:Value) (an:Option Addr) (cdv ct:Value) (us:List Value),us.length=ps.length→bindArgs (W.fnOf x x (fP st) (cu st) (aK st) .none kV doc pm an cdv ct) ⟨us,[]⟩=pure (ps.zip us)):FF K mg x st ps:=
 ⟨f,_,n5 (st:=st) l c k,W.mg_of X Gm a,(n5 (st:=st) l c k).binds b⟩
theorem Ma (X:K.In h)(Gm:h.Ns mainGlobals mg)(q:W.nsIn K mainGlobals c=some (some (.ref C)))(pg:W.plainGet K C Str.empty=true)(hd:W.hasDictIn K C=true)(po:W.plainOver K C=true)(sa:W.findIn K (.ref C) "__setattr__"=some (some (.builtin "object.__setattr__")))
  (mi:W.makesIn K C=true) (kp:W.keepIn K (.ref C)=true):KC K mg c C:=⟨⟨q,W.mg_of X Gm q,pg,hd,po,sa⟩,mi,kp⟩
theorem Ll (kC:KC K mg c C)(a:W.findIn K (.ref C) m=some (some (.ref f)))(l:K.lookup f=some ⟨oc,od,.func (W.fnOf m q (fP st) (cu st) (aK st) .none kV dc pm an cd ct),sl⟩)(cc:W.codeIn K cd q=true)(k:W.keepIn K (.ref f)=true)(n:W.isFn K (.ref f)=true)
  (b:∀(kV doc pm:Value) (an:Option Addr) (cdv ct:Value) (us:List Value),us.length=ps.length→bindArgs (W.fnOf m q (fP st) (cu st) (aK st) .none kV doc pm an cdv ct) ⟨us,[]⟩=pure (ps.zip us)):MF K mg c m q st ps:=
 ⟨C,f,_,kC,n5 (st:=st) l cc k,⟨a,n,k⟩,(n5 (st:=st) l cc k).binds b⟩
theorem LU (kC:KC K mg c C)(a:W.findIn K (.ref C) f'=some none):NA K mg c f':=⟨C,kC,a⟩
theorem KJ (X:K.In h)(Gm:h.Ns mainGlobals mg)(q:W.nsIn K mainGlobals x=some (some (.ref C)))(cl:W.isClsIn K C=true)(ca:W.findIn K (.ref C) "__class__"=some (some (.builtin "object.__class__")))(sp:W.specialIn K (.builtin "object.__class__") "__get__"=some (some (.builtin "getset_descriptor.__get__")))(tk:W.takesIn K (.builtin "object.__class__")=some true)
  (ob:W.mroIn K C (.type "object")=some true) (ga:W.findIn K (.ref C) "__getattribute__"=some (some (.builtin "BaseException.__getattribute__"))) (gh:W.findIn K (.ref C) "__getattr__"=some none) (be:W.mroIn K C (.type "BaseException")=some true)
  (ex:W.excIn K C K2 "ValueError.__new__"=true) (ty:W.typeIn K (.ref C)=some (.type "type")) (sf:W.mroIn K C (.ref C)=some true):Ec K mg x C:=⟨q,W.mg_of X Gm q,⟨cl,ca,sp,tk,ob,ga,gh,be⟩,ex,ty,sf⟩
theorem Lq (h:Ec K mg x C):EX K mg x:=⟨C,h⟩
theorem Kw {tab:List (Str×Bool)}(h:Ec K mg x G)(t:Ls (fun p=>∃C,Ec K mg p.1 C∧W.mroIn K C (.ref G)=some p.2) tab):IX K mg x tab:=⟨G,h,t⟩
theorem NX (X:K.In h)(Gm:h.Ns mainGlobals mg)(e:W.nsIn K mainGlobals x=some none):mg x=none:=W.mg_none_of X Gm e
theorem KO {u:Tok→Value}{tk:Tok}(X:K.In h)(Gm:h.Ns mainGlobals mg)(e:W.nsIn K mainGlobals x=some (some (u tk))):∃tk,mg x=some (u tk):=⟨tk,W.mg_of X Gm e⟩
end
theorem Lx {h:Heap}{x:Str}{st:Stmt}{ps:List Str}{f c P:Addr}{oc occ kV dc pm ct:Value}{od odc an:Option Addr}{sl slc:Array (Option Value)}{vs:Array Value}{file:Str}{tf tg tt:Tok}{flags text:Int}{inF:Bool}
  (X:K.In h) (Gm:h.Ns mainGlobals mg) (a:W.nsIn K mainGlobals x=some (some (.ref f))) (l:K.lookup f=some ⟨oc,od,.func (W.fnOf x x (fP st) (cu st) (aK st) .none kV dc pm an (.ref c) ct),sl⟩) (cc:W.codeIn K (.ref c) x=true) (k:W.keepIn K (.ref f)=true)
  (lc:K.lookup c=some ⟨occ,odc,.fields vs,slc⟩) (hcc:occ=.type "code") (h11:vs[11]?=some (.ref P)) (h18:vs.getD 18 .none=.str file tf) (h7:vs.getD 7 .none=.int flags tg) (h9:vs.getD 9 .none=.bool inF) (h10:vs.getD 10 .none=.int text tt) (ne:c≠P)
  (hm:x∈ck) (un:∀y,y∈ck→y≠x→W.nsIn K mainGlobals y=some none)
  (b:∀(kV doc pm:Value) (an:Option Addr) (cdv ct:Value) (us:List Value),us.length=ps.length→bindArgs (W.fnOf x x (fP st) (cu st) (aK st) .none kV doc pm an cdv ct) ⟨us,[]⟩=pure (ps.zip us)):LF K mg x st ps:=
 ⟨f,_,c,P,⟨n5 (st:=st) l cc k,W.mg_of X Gm a,(n5 (st:=st) l cc k).binds b⟩,a,Ff hm a l rfl lc hcc h11 h18 h7 h9 h10 ne fun y hy n=>.inl (un y hy n)⟩
theorem IS {l:W.OpenLaw}{w:World}{fa:Addr}{st:Stmt}{k:Nat}{F:FD}(hfa:mg "law"=some (.ref fa))(L:FF K mg "law" st ["script"])
  (h:∀(base:Heap) (f:Addr) (fd:FuncData),Fn K mg "law" st f fd ["script"]→dE l.prog w K mg base (gU l.prog w) k f fd ["script"] (mY K 1 F))
  (hb:∀(kV doc pm:Value) (an:Option Addr) (cdv ct:Value) (v:Value),bindArgs (W.fnOf "law" "law" (fP st) (cu st) (aK st) .none kV doc pm an cdv ct) ⟨[v],[]⟩=pure [(("script":Str),v)]) :
  ∃fd:FuncData,(∀(s:Shared) (v:Value),BindsTo s fd ⟨[v],[]⟩ [("script",v)])∧∀base:Heap,K.In base→base.Ns mainGlobals mg→dE l.prog w K mg base (gU l.prog w) k fa fd ["script"] (mY K 1 F):=by
 obtain⟨f,fd,L⟩:=L
 have e:=hfa.symm.trans L.m
 cases e
 refine⟨fd,fun s v=>?_,fun base _ _=>h base _ fd L⟩
 obtain⟨oc,od,kV,doc,pm,an,cdv,ct,osl,rfl,lk,hcd⟩:=L.F.ex
 exact .of_eq (hb kV doc pm an cdv ct v)
end DL
namespace DL
open PySem PySem.Spec PyProof.Rows PySem.W L2
variable{p:Array Nat}{n:Nat}{Q:Nat×Array Nat→Shared→Prop}
section
variable {key:Nat→Int}{N:Nat}{s:Shared}{cmp:Nat→Nat→(Bool→Shared→Prop)→Shared→Prop}
def kp (key:Nat→Int)(p:Array Nat)(k:Nat):Int:=key (p.getD k 0)
def xo (N:Nat)(p:Array Nat):Prop:=∀k,p.getD k 0<N
def up (key:Nat→Int)(p:Array Nat)(n:Nat):Prop:=∀k,k+1<n→kp key p k≤kp key p (k+1)
def down (key:Nat→Int)(p:Array Nat)(n:Nat):Prop:=∀k,k+1<n→kp key p (k+1)≤kp key p k
def nK (key:Nat→Int)(N:Nat)(s:Shared)(cmp:Nat→Nat→(Bool→Shared→Prop)→Shared→Prop):Prop:=∀i j C,i<N→j<N→C (decide (key i<key j)) s→cmp i j C s
theorem sI {q:Array Nat}{i j:Nat}(h:p[i]?=q[j]?):kp key p i=kp key q j:=by
 unfold kp;rw[Array.getD_eq_getD_getElem?,Array.getD_eq_getD_getElem?,h]
theorem Cg {q:Array Nat}(h:∀k:Nat,∃j:Nat,p[k]?=q[j]?)(i:xo N q):xo N p:=fun k=>by
 obtain⟨j,e⟩:=h k
 have:=i j
 rw[Array.getD_eq_getD_getElem?] at this ⊢
 rw[e];exact this
theorem FW {p:Array Nat}{n:Nat}(h:up key p n):∀(d i:Nat),i+d<n→kp key p i≤kp key p (i+d)
 | 0,i,_=>Int.le_refl _
 | d+1,i,q=>Int.le_trans (FW h d i (by omega)) (h (i+d) (by omega))
theorem qx {i j:Nat}(h:up key p n)(hij:i≤j)(hj:j<n):kp key p i≤kp key p j:=by
 have:=FW h (j-i) i (by omega)
 rwa [show i+(j-i)=j by omega] at this
theorem xP {i j:Nat}(hj:j≤p.size)(k:Nat):(kas_rev p i j)[k]?=if i≤k∧k<j then p[i+j-1-k]? else p[k]?:=getElem?_mirror_all hj k
theorem qZ {i j:Nat}(hj:j≤p.size)(h:xo N p):xo N (kas_rev p i j):=Cg (fun k=>by
 rw[xP hj k]
 split
 ·exact⟨_,rfl⟩
 ·exact⟨_,rfl⟩) h
theorem pX {i j:Nat}(hj:j≤p.size)(e:∀k,i≤k→k<j→kp key p k=kp key p (j-1))(k:Nat):kp key (kas_rev p i j) k=kp key p k:=by
 have h:=xP (i:=i) hj k
 by_cases q:i≤k∧k<j
 ·rw[if_pos q] at h
  rw[sI h,e _ (by omega) (by omega),e k q.1 q.2]
 ·rw[if_neg q] at h
  exact sI h
theorem yS (hc:nK key N s cmp){p:Array Nat}(hp:xo N p){Q:Nat→Shared→Prop}:∀(f n:Nat),1≤n→up key p n→(∀m,n≤m→m≤n+f→up key p m→(m<n+f→kp key p m<kp key p (m-1))→Q m s)→(kas_asc p f n).kasWp cmp Q s
 | 0,n,h1,u,h=>h n (Nat.le_refl _) (Nat.le_refl _) u (fun z=>absurd z (by omega))
 | f+1,n,h1,u,h=>by
  refine hc _ _ _ (hp _) (hp _) ?_
  by_cases q:kp key p n<kp key p (n-1)
  ·rw[decide_eq_true (show key (p.getD n 0)<key (p.getD (n-1) 0) from q)]
   exact h n (Nat.le_refl _) (by omega) u fun _=>q
  ·rw[decide_eq_false (show¬key (p.getD n 0)<key (p.getD (n-1) 0) from q)]
   refine yS hc hp f (n+1) (by omega) (fun k hk=>?_) fun m a b c d=>h m (by omega) (by omega) c fun z=>d (by omega)
   by_cases e:k+1<n
   ·exact u k e
   ·have:k=n-1:=by omega
    subst this
    rw[show n-1+1=n by omega];omega
theorem pG (hc:nK key N s cmp){Q:Array Nat×Nat×Nat→Shared→Prop}:∀(f:Nat) (p:Array Nat) (n q:Nat),xo N p→n+f≤p.size→q+1≤n→down key p n→(∀k,n-(q+1)≤k→k<n→kp key p k=kp key p (n-1))→
  (∀p' n' q',p'.size=p.size→p'.Perm p→xo N p'→n≤n'→n'≤n+f→q'+1≤n'→down key p' n'→(∀k,n'-(q'+1)≤k→k<n'→kp key p' k=kp key p' (n'-1))→Q (p',n',q') s)→(kas_desc f p n q).kasWp cmp Q s
 | 0,p,n,q,hp,hz,hq,hd,he,h=>h p n q rfl (Array.Perm.refl _) hp (Nat.le_refl _) (Nat.le_refl _) hq hd he
 | f+1,p,n,q,hp,hz,hq,hd,he,h=>by
  refine hc _ _ _ (hp _) (hp _) ?_
  by_cases c:kp key p n<kp key p (n-1)
  ·rw[decide_eq_true (show key (p.getD n 0)<key (p.getD (n-1) 0) from c)];dsimp only;rw[if_pos rfl]
   have hd':down key p (n+1):=fun k hk=>by
    by_cases e:k+1<n
    ·exact hd k e
    ·have:k=n-1:=by omega
     subst this
     rw[show n-1+1=n by omega];omega
   by_cases z:q>0
   ·rw[if_pos z]
    have sm:=pX (key:=key) (p:=p) (i:=n-(q+1)) (j:=n) (by omega) he
    refine pG hc f (kas_rev p (n-(q+1)) n) (n+1) 0 (qZ (by omega) hp) (by rw[kas_rev_size];omega) (by omega) (fun k hk=>by rw[sm,sm];exact hd' k hk) (fun k a b=>by rw[show k=n by omega];rfl) fun p' n' q' a b c1 d e g i j=>h p' n' q' (a.trans (kas_rev_size ..)) (b.trans (mirror_perm ..)) c1 (by omega) (by omega) g i j
   ·rw[if_neg z]
    exact pG hc f p (n+1) 0 hp (by omega) (by omega) hd' (fun k a b=>by rw[show k=n by omega];rfl) fun p' n' q' a b c1 d e g i j=>h p' n' q' a b c1 (by omega) (by omega) g i j
  ·rw[decide_eq_false (show¬key (p.getD n 0)<key (p.getD (n-1) 0) from c)];dsimp only;rw[if_neg (by simp)]
   refine hc _ _ _ (hp _) (hp _) ?_
   by_cases c2:kp key p (n-1)<kp key p n
   ·rw[decide_eq_true (show key (p.getD (n-1) 0)<key (p.getD n 0) from c2)];dsimp only;rw[if_pos rfl]
    exact h p n q rfl (Array.Perm.refl _) hp (Nat.le_refl _) (by omega) hq hd he
   ·rw[decide_eq_false (show¬key (p.getD (n-1) 0)<key (p.getD n 0) from c2)];dsimp only;rw[if_neg (by simp)]
    have eq:kp key p n=kp key p (n-1):=by omega
    refine pG hc f p (n+1) (q+1) hp (by omega) (by omega) (fun k hk=>?_) (fun k a b=>?_) fun p' n' q' a b c1 d e g i j=>h p' n' q' a b c1 (by omega) (by omega) g i j
    ·by_cases e:k+1<n
     ·exact hd k e
     ·have:k=n-1:=by omega
      subst this
      rw[show n-1+1=n by omega];omega
    ·show _=kp key p n
     by_cases e:k<n
     ·rw[he k (by omega) e];omega
     ·rw[show k=n by omega]
theorem xh (hc:nK key N s cmp){m:Nat}(hp:xo N p)(h1:1≤n)(hn:n≤m)(hz:m≤p.size)(hd:down key p n)
  (h:∀k p',p'.size=p.size→p'.Perm p→xo N p'→1≤k→k≤m→up key p' k→Q (k,p') s):(kas_tail3 n m p).kasWp cmp Q s:=by
 unfold kas_tail3
 rw[KasT.kasWp_bind]
 have at':∀k,k<n→kp key (kas_rev p 0 n) k=kp key p (n-1-k):=fun k hk=>by
  have e:=xP (i:=0) (j:=n) (p:=p) (by omega) k
  rw[if_pos ⟨by omega,hk⟩] at e
  rw[sI e,show 0+n-1-k=n-1-k by omega]
 refine yS hc (qZ (by omega) hp) _ n h1 (fun k hk=>?_) fun k a b c _=>h k _ (kas_rev_size ..) (mirror_perm ..) (qZ (by omega) hp) (by omega) (by omega) c
 rw[at' k (by omega),at' (k+1) hk]
 have:=hd (n-1-(k+1)) (by omega)
 rwa [show n-1-(k+1)+1=n-1-k by omega] at this
theorem oQ (hc:nK key N s cmp){m:Nat}(hp:xo N p)(hn:n+1≤m)(hz:m≤p.size)(hd:down key p (n+1))
  (h:∀k p',p'.size=p.size→p'.Perm p→xo N p'→1≤k→k≤m→up key p' k→Q (k,p') s):(kas_descPart n m p).kasWp cmp Q s:=by
 unfold kas_descPart
 rw[KasT.kasWp_bind]
 refine pG hc _ p (n+1) 0 hp (by omega) (by omega) hd (fun k a b=>by rw[show k=n by omega];rfl) fun p' n' q' a b c d e g i j=>?_
 dsimp only
 split
 ·have sm:=pX (key:=key) (p:=p') (i:=n'-(q'+1)) (j:=n') (by omega) j
  exact xh hc (qZ (by omega) c) (by omega) (by omega) (by rw[kas_rev_size];omega) (fun k hk=>by rw[sm,sm];exact i k hk) fun k p2 a2 b2 c2 d2 e2 g2=>h k p2 (a2.trans ((kas_rev_size ..).trans a)) (b2.trans ((mirror_perm ..).trans b)) c2 d2 e2 g2
 ·exact xh hc c (by omega) (by omega) (by omega) i fun k p2 a2 b2 c2 d2 e2 g2=>h k p2 (a2.trans a) (b2.trans b) c2 d2 e2 g2
theorem B9 (hc:nK key N s cmp){m:Nat}(hp:xo N p)(h1:1≤m)(hz:m≤p.size)
  (h:∀k p',p'.size=p.size→p'.Perm p→xo N p'→1≤k→k≤m→up key p' k→Q (k,p') s):(kas_count m p).kasWp cmp Q s:=by
 unfold kas_count
 rw[KasT.kasWp_bind]
 refine yS hc hp _ 1 (Nat.le_refl _) (fun k hk=>absurd hk (by omega)) fun n a b c d=>?_
 by_cases e:n=m
 ·rw[if_pos (by simp[e])]
  exact h n p rfl (Array.Perm.refl _) hp a (by omega) c
 ·rw[if_neg (by simp[e])]
  have lt:=d (by omega)
  by_cases z:n>1
  ·rw[if_pos z]
   refine hc _ _ _ (hp _) (hp _) ?_
   by_cases t:kp key p 0<kp key p (n-1)
   ·rw[decide_eq_true (show key (p.getD 0 0)<key (p.getD (n-1) 0) from t)];dsimp only;rw[if_pos rfl]
    exact h n p rfl (Array.Perm.refl _) hp a (by omega) c
   ·rw[decide_eq_false (show¬key (p.getD 0 0)<key (p.getD (n-1) 0) from t)];dsimp only;rw[if_neg (by simp)]
    have al:∀k,0≤k→k<n→kp key p k=kp key p (n-1):=fun k _ hk=>by
     have x:=qx c (show 0≤k by omega) hk
     have y:=qx c (show k≤n-1 by omega) (by omega)
     omega
    have sm:=pX (key:=key) (p:=p) (i:=0) (j:=n) (by omega) al
    refine oQ hc (qZ (by omega) hp) (by omega) (by rw[kas_rev_size];omega) (fun k hk=>?_) fun k p2 a2 b2 c2 d2 e2 g2=>h k p2 (a2.trans (kas_rev_size ..)) (b2.trans (mirror_perm ..)) c2 d2 e2 g2
    rw[sm,sm]
    by_cases w:k+1<n
    ·rw[al k (by omega) (by omega),al (k+1) (by omega) w];exact Int.le_refl _
    ·have:k=n-1:=by omega
     subst this
     rw[show n-1+1=n by omega];omega
  ·rw[if_neg z]
   have e1:n=1:=by omega
   subst e1
   refine oQ hc hp (by omega) hz (fun k hk=>?_) h
   have:k=0:=by omega
   subst this
   exact Int.le_of_lt lt
theorem k8 (hc:nK key N s cmp){p:Array Nat}{k:Nat}(hp:xo N p)(hu:up key p k){Q:Nat→Shared→Prop}:∀(f l r:Nat),l≤r→r≤k→r-l≤f→(∀i,i<l→kp key p i≤kp key p k)→(∀i,r≤i→i<k→kp key p k≤kp key p i)→
  (∀m,m≤k→(∀i,i<m→kp key p i≤kp key p k)→(∀i,m≤i→i<k→kp key p k≤kp key p i)→Q m s)→(kas_place p k f l r).kasWp cmp Q s
 | 0,l,r,h1,h2,h3,a,b,h=>h l (by omega) a fun i x y=>b i (by omega) y
 | f+1,l,r,h1,h2,h3,a,b,h=>by
  unfold kas_place
  by_cases e:l≥r
  ·rw[if_pos e]
   exact h l (by omega) a fun i x y=>b i (by omega) y
  ·rw[if_neg e]
   refine hc _ _ _ (hp _) (hp _) ?_
   by_cases t:kp key p k<kp key p ((l+r) / 2)
   ·rw[decide_eq_true (show key (p.getD k 0)<key (p.getD ((l+r) / 2) 0) from t)];dsimp only;rw[if_pos rfl]
    exact k8 hc hp hu f l _ (by omega) (by omega) (by omega) a (fun i x y=>by
     have:=qx hu x y;omega) h
   ·rw[decide_eq_false (show¬key (p.getD k 0)<key (p.getD ((l+r) / 2) 0) from t)];dsimp only;rw[if_neg (by simp)]
    exact k8 hc hp hu f _ r (by omega) h2 (by omega) (fun i x=>by
     have:=qx hu (show i≤(l+r) / 2 by omega) (by omega);omega) b h
theorem Cw (hc:nK key N s cmp){Q:Array Nat→Shared→Prop}:∀(f:Nat) (p:Array Nat) (k:Nat),xo N p→k+f=p.size→up key p k→(∀p',p'.Perm p→up key p' p.size→Q p' s)→(kas_bin f p k).kasWp cmp Q s
 | 0,p,k,hp,hz,hu,h=>h p (Array.Perm.refl _) (by rw[←hz];exact hu)
 | f+1,p,k,hp,hz,hu,h=>by
  unfold kas_bin
  rw[KasT.kasWp_bind]
  refine k8 hc hp hu k 0 k (Nat.zero_le _) (Nat.le_refl _) (by omega) (fun i x=>absurd x (by omega)) (fun i x y=>absurd x (by omega)) fun m hm a b=>?_
  have at':=getElem?_bubble (xs:=p) (src:=k) (by omega) (k-m) (by omega)
  have sz:(bubble p k (k-m)).size=p.size:=bubble_size ..
  have e1:k-(k-m)=m:=by omega
  rw[e1] at at'
  refine Cw hc f _ (k+1) (Cg (fun i=>by
   rw[at' i];split
   ·exact⟨_,rfl⟩
   ·split
    ·exact⟨_,rfl⟩
    ·exact⟨_,rfl⟩) hp) (by rw[sz];omega) (fun i hi=>?_) fun p' x y=>h p' (x.trans (bubble_perm ..)) (by rw[sz] at y;exact y)
  have g:∀i,i≤k→kp key (bubble p k (k-m)) i=if i=m then kp key p k else if m<i then kp key p (i-1) else kp key p i:=fun i hi=>by
   have:=at' i
   by_cases q1:i=m
   ·rw[if_pos q1] at this ⊢;exact sI this
   ·rw[if_neg q1] at this ⊢
    by_cases q2:m<i
    ·rw[if_pos ⟨q2,hi⟩] at this;rw[if_pos q2];exact sI this
    ·rw[if_neg (by omega)] at this;rw[if_neg q2];exact sI this
  rw[g i (by omega),g (i+1) (by omega)]
  by_cases q1:i=m
  ·rw[if_pos q1,if_neg (by omega),if_pos (by omega),show i+1-1=i by omega]
   exact b i (by omega) (by omega)
  ·rw[if_neg q1]
   by_cases q2:m<i
   ·rw[if_pos q2,if_neg (by omega),if_pos (by omega),show i+1-1=i by omega]
    have:=hu (i-1) (by omega)
    rwa [show i-1+1=i by omega] at this
   ·rw[if_neg q2]
    by_cases q3:i+1=m
    ·rw[if_pos q3];exact a i (by omega)
    ·rw[if_neg q3,if_neg (by omega)]
     exact hu i (by omega)
theorem En (hc:nK key n s cmp)(h2:1≤n){Q:Array Nat→Shared→Prop}(h:∀p:Array Nat,p.Perm (List.toArray (List.range n))→up key p n→Q p s):(kas_sort n).kasWp cmp Q s:=by
 unfold kas_sort
 rw[KasT.kasWp_bind]
 have h0:xo n (List.toArray (List.range n)):=fun k=>by
  rw[Array.getD_eq_getD_getElem?,List.getElem?_toArray]
  by_cases q:k<n
  ·rw[List.getElem?_range q];exact q
  ·rw[List.getElem?_eq_none (by rw[List.length_range];omega)];exact h2
 have hz:(List.toArray (List.range n)).size=n:=by simp
 refine B9 hc h0 h2 (by omega) fun k p' a b c d e g=>?_
 dsimp only
 by_cases z:k<n
 ·rw[if_pos z]
  have em:max k 1=k:=by omega
  rw[em]
  exact Cw hc _ p' k c (by omega) g fun p2 x y=>h p2 (x.trans b) (by rw[a,hz] at y;exact y)
 ·rw[if_neg z]
  have:k=n:=by omega
  subst this
  exact h p' b g
end
variable{zs:List (List Int)}
section
theorem m9:∀a:List Int,HT.lexLt a a=false
 | []=>rfl
 | x::a=>by rw[HT.lexLt_cons,if_pos rfl];exact m9 a
theorem pI:∀a b:List Int,HT.lexLt a b=false→HT.lexLt b a=false→a=b
 | [],[],_,_=>rfl
 | [],_::_,h,_=>by cases h
 | _::_,[],_,h=>by cases h
 | x::a,y::b,h1,h2=>by
  rw[HT.lexLt_cons] at h1 h2
  by_cases e:x=y
  ·subst e
   rw[if_pos rfl] at h1 h2
   rw[pI a b h1 h2]
  ·rw[if_neg e,decide_eq_false_iff_not] at h1
   rw[if_neg (fun z=>e z.symm),decide_eq_false_iff_not] at h2
   omega
theorem jC:∀a b c:List Int,HT.lexLt a b=true→HT.lexLt b c=true→HT.lexLt a c=true
 | [],[],_,h,_=>by cases h
 | [],_::_,[],_,h=>by cases h
 | [],_::_,_::_,_,_=>rfl
 | _::_,[],_,h,_=>by cases h
 | _::_,_::_,[],_,h=>by cases h
 | x::a,y::b,z::c,h1,h2=>by
  rw[HT.lexLt_cons] at h1 h2 ⊢
  by_cases e:x=y
  ·subst e
   rw[if_pos rfl] at h1
   by_cases e2:x=z
   ·subst e2
    rw[if_pos rfl] at h2 ⊢
    exact jC a b c h1 h2
   ·rw[if_neg e2] at h2 ⊢;exact h2
  ·rw[if_neg e,decide_eq_true_iff] at h1
   by_cases e2:y=z
   ·subst e2
    rw[if_neg e,decide_eq_true_iff];exact h1
   ·rw[if_neg e2,decide_eq_true_iff] at h2
    rw[if_neg (by omega),decide_eq_true_iff];omega
def rank (zs:List (List Int))(z:List Int):Int:=(zs.countP fun y=>HT.lexLt y z:Nat)
theorem vW {α:Type}{p q:α→Bool}:∀{l:List α} {x:α},(∀y,p y=true→q y=true)→x∈l→p x=false→q x=true→l.countP p<l.countP q
 | a::l,x,hs,hx,h1,h2=>by
  rw[List.countP_cons,List.countP_cons]
  rcases List.mem_cons.mp hx with e|e
  ·subst e
   have:=List.countP_mono_left (l:=l) (fun y _=>hs y)
   rw[if_neg (by simp[h1]),if_pos h2]
   omega
  ·have:=vW hs e h1 h2
   have h3:=hs a
   cases q1:p a with
   | true=>rw[h3 q1];simp only[if_true];omega
   | false=>cases q a <;> simp <;> omega
theorem nD {a b:List Int}(ha:a∈zs):HT.lexLt a b=decide (rank zs a<rank zs b):=by
 cases h:HT.lexLt a b with
 | true=>
  have:=vW (l:=zs) (x:=a) (p:=fun y=>HT.lexLt y a) (q:=fun y=>HT.lexLt y b) (fun y q=>jC y a b q h) ha (m9 a) h
  exact(decide_eq_true (by unfold rank;omega)).symm
 | false=>
  have:zs.countP (fun y=>HT.lexLt y b)≤zs.countP (fun y=>HT.lexLt y a):=List.countP_mono_left (l:=zs) (p:=fun y=>HT.lexLt y b) (q:=fun y=>HT.lexLt y a) fun y _ q=>by
   have q:HT.lexLt y b=true:=q
   show HT.lexLt y a=true
   cases h2:HT.lexLt b a with
   | true=>exact jC y b a q h2
   | false=>rw[pI a b h h2];exact q
  exact(decide_eq_false (by unfold rank;omega)).symm
def gY (zs:List (List Int)):List (List Int):=zs.mergeSort fun a b=>!HT.lexLt b a
theorem kr (zs:List (List Int)):(gY zs).Perm zs:=List.mergeSort_perm zs _
theorem wF (zs:List (List Int)):(gY zs).Pairwise fun a b=>HT.lexLt b a=false:=by
 have h:(gY zs).Pairwise (fun a b=>(!HT.lexLt b a)=true):=List.pairwise_mergeSort (le:=fun a b=>!HT.lexLt b a) (fun a b c h1 h2=>by
  simp only[Bool.not_eq_true'] at h1 h2 ⊢
  cases q:HT.lexLt c a with
  | false=>rfl
  | true=>
   cases q2:HT.lexLt a b with
   | true=>rw[jC c a b q q2] at h2;cases h2
   | false=>have:=pI a b q2 h1;subst this;rw[q] at h2;cases h2) (fun a b=>by
  cases q:HT.lexLt b a with
  | false=>rfl
  | true=>
   cases q2:HT.lexLt a b with
   | false=>rfl
   | true=>have:=jC a b a q2 q;rw[m9] at this;cases this) zs
 exact h.imp fun h=>by simpa using h
theorem qC:∀{a b:List (List Int)},a.Perm b→a.Pairwise (fun x y=>HT.lexLt y x=false)→b.Pairwise (fun x y=>HT.lexLt y x=false)→a=b
 | [],b,p,_,_=>(List.Perm.nil_eq p)
 | x::a,[],p,_,_=>absurd p.symm.nil_eq (by simp)
 | x::a,y::b,p,ha,hb=>by
  have h1:HT.lexLt y x=false:=by
   rcases List.mem_cons.mp (p.symm.subset (List.mem_cons_self ..):y∈x::a) with e|e
   ·rw[e];exact m9 x
   ·exact(List.pairwise_cons.mp ha).1 y e
  have h2:HT.lexLt x y=false:=by
   rcases List.mem_cons.mp (p.subset (List.mem_cons_self ..):x∈y::b) with e|e
   ·rw[e];exact m9 y
   ·exact(List.pairwise_cons.mp hb).1 x e
  have e:=pI x y h2 h1
  subst e
  rw[qC (List.perm_cons x |>.mp p) (List.pairwise_cons.mp ha).2 (List.pairwise_cons.mp hb).2]
end
variable{h:Heap}{vs:List Value}
section
variable {prog:Program}{w:World}{A:Around}{E:Value→Shared→Prop}{s:Shared}
theorem vM {b fin:Bool}{Q:Bool→Shared→Prop}:∀{vs ws:List Value} {ns ms:List Int} (i:Nat),IntsAre vs ns→IntsAre ws ms→fin=decide (ns.length<ms.length)→Q (HT.lexLt ns ms) s→KatLex prog w A b fin Q (vs.zip ws) i s
 | _,_,_,_,i,.nil,.nil,e,h=>by
  rw[List.zip_nil_left];refine kat_nil ?_;rw[e];exact h
 | _,_,_,_,i,.nil,.cons _ _ _,e,h=>by
  rw[List.zip_nil_left];refine kat_nil ?_;rw[e,decide_eq_true (by simp)];exact h
 | _,_,_,_,i,.cons _ _ _,.nil,e,h=>by
  rw[List.zip_nil_right];refine kat_nil ?_;rw[e,decide_eq_false (by simp)];exact h
 | _,_,_,_,i,.cons (ns:=ns) x t r1,.cons (ns:=ms) y u r2,e,h=>by
  rw[List.zip_cons_cons]
  refine kat_cons (wpAny_eqBool_int ?_)
  rw[HT.lexLt_cons] at h
  by_cases q:x=y
  ·rw[if_pos q] at h
   rw[show(x==y)=true by simp[q]]
   exact kat_yes (vM (i+1) r1 r2 (by rw[e];simp) h)
  ·rw[if_neg q] at h
   rw[show(x==y)=false by simp[q]]
   refine kat_no ?_
   cases (b&&i==0) with
   | true=>exact oneLt_int h
   | false=>exact kat_one _ _ (PyProof.Rows.lt_int (show W.BoolBack _ (.bool _) _ from h))
def kZ (h:Heap):List Value→List (List Int)→Prop
 | [],[]=>True
 | v::vs,z::zs=>(∃b o xs k,v=.ref b∧h.get? b=some o∧o.cls=.type "tuple"∧o.data=.seq xs k∧IntsAre xs.toList z∧z≠[])∧kZ h vs zs
 | _,_=>False
theorem kZ.length :∀{vs:List Value} {zs:List (List Int)},kZ h vs zs→vs.length=zs.length
 | [],[],_=>rfl
 | [],_::_,t=>t.elim
 | _::_,[],t=>t.elim
 | _::_,_::_,t=>by rw[List.length_cons,List.length_cons,t.2.length]
theorem kZ.keep {h':Heap}(k:∀b o,h.get? b=some o→h'.get? b=some o):∀{vs:List Value} {zs:List (List Int)},kZ h vs zs→kZ h' vs zs
 | [],[],_=>trivial
 | [],_::_,t=>t.elim
 | _::_,[],t=>t.elim
 | _::_,_::_,⟨⟨b,o,xs,n,e,g,r⟩,t⟩=>⟨⟨b,o,xs,n,e,k _ _ g,r⟩,t.keep k⟩
theorem kZ.at' :∀{vs:List Value} {zs:List (List Int)} (i:Nat),kZ h vs zs→i<vs.length→∃b o xs k,vs.getD i Value.none=.ref b∧h.get? b=some o∧o.data=.seq xs k∧IntsAre xs.toList (zs.getD i [])
 | [],_,i,_,q=>absurd q (by simp)
 | _::_,[],_,t,_=>t.elim
 | _::_,_::_,0,⟨⟨b,o,xs,n,e,g,_,d,r,_⟩,_⟩,_=>⟨b,o,xs,n,e,g,d,r⟩
 | _::_,_::_,i+1,⟨_,t⟩,q=>t.at' i (by simpa using q)
theorem kZ.firsts :∀{vs:List Value} {zs:List (List Int)},kZ h vs zs→∃fs,KatTups h vs fs∧fs.length=vs.length∧∀v∈fs,∃n t,v=Value.int n t
 | [],[],_=>⟨[],.nil,rfl,fun v hv=>by cases hv⟩
 | [],_::_,t=>t.elim
 | _::_,[],t=>t.elim
 | _::_,z::_,⟨⟨b,o,xs,n,e,g,c,d,r,z0⟩,t⟩=>by
  obtain⟨fs,k,l,f⟩:=t.firsts
  subst e
  cases r':xs.toList with
  | nil=>rw[r'] at r;cases r;exact absurd rfl z0
  | cons x ys=>
   rw[r'] at r
   cases r with
   | cons m tk r2=>
    refine⟨Value.int m tk::fs,.cons g c d (by rw[←Array.getElem?_toList,r'];rfl) k,by rw[List.length_cons,List.length_cons,l],fun v hv=>?_⟩
    rcases List.mem_cons.mp hv with e|e
    ·exact⟨m,tk,e⟩
    ·exact f v e
theorem Bv (t:kZ s.heap vs zs):nK (fun i=>rank zs (zs.getD i [])) vs.length s (kas_ask prog w A (tuples' true) vs):=fun i j C hi hj h=>by
 obtain⟨b,o,xs,k,e1,g1,d1,r1⟩:=t.at' i hi
 obtain⟨c,o2,ys,k2,e2,g2,d2,r2⟩:=t.at' j hj
 show wpAny (model prog w) A (keyLt' (tuples' true) (vs.getD i Value.none) (vs.getD j Value.none)) C (fun _ _=>False) s
 rw[e1,e2]
 refine kat_lt g1 d1 g2 d2 (vM 0 r1 r2 (by rw[←r1.length,←r2.length];simp) ?_)
 have mem:zs.getD i []∈zs:=by
  rw[t.length] at hi
  rw[List.getD_eq_getElem?_getD,List.getElem?_eq_getElem hi]
  exact List.getElem_mem hi
 rw[nD mem]
 exact h
theorem qK {a:Addr}{P:PySem.Fin→Shared→Prop}(ho:s.heap.get? a=some (seqObj "list" vs.toArray n))(t:kZ s.heap vs zs)(h64:vs.length<64)
  (h:∀p:Array Nat,p.Perm (List.toArray (List.range vs.length))→up (fun i=>rank zs (zs.getD i [])) p vs.length→P (.done (.ret .none)) {s with heap:=sortedHeap s.heap a vs (List.toArray (p.toList.map fun i=>vs.getD i Value.none))}) :
  wpAny (model prog w) A (Builtin.«list.sort» ⟨[.ref a],[]⟩) P E s:=by
 rw[list_sort_plain]
 have ha:a<s.heap.objs.size:=Heap.lt_size ho
 have hsz:vs.toArray.size=vs.length:=by simp
 refine wpAny_bind (listItems_at ho rfl ?_)
 refine wpAny_bind (listUpdate_at ho rfl ?_ (by rw[List.size_toArray,sizeLine_eq];omega) (Nat.zero_le _))
 obtain⟨e1,ho1⟩:∃e1,(s.heap.update a (Obj.mapSeq fun _=>#[])).get? a=some (seqObj "list" #[] e1):=⟨_,get?_update_seq ho (fun _=>#[])⟩
 refine wpAny_bind (seqEpoch_at ho1 rfl ?_)
 refine wpAny_bind (wpAny_newTuple ?_ (by show vs.length≤_;rw[sizeLine_eq];omega))
 refine wpAny_bind (wpAny_newList ?_ (Nat.zero_le _))
 refine wpAny_holding ?_
 have ho6:(((s.heap.update a (Obj.mapSeq fun _=>#[])).push (seqObj "tuple" vs.toArray 0)).push (seqObj "list" #[] 0)).get? a=some (seqObj "list" #[] e1):=by
  rw[Heap.get?_push_ne _ _ _ (by rw[size_push',Heap.size_update];exact Nat.ne_of_lt (Nat.lt_succ_of_lt ha)),Heap.get?_push_ne _ _ _ (by rw[Heap.size_update];exact Nat.ne_of_lt ha)]
  exact ho1
 have t6:kZ (((s.heap.update a (Obj.mapSeq fun _=>(#[]:Array Value))).push (seqObj "tuple" vs.toArray 0)).push (seqObj "list" #[] 0)) vs zs:=by
  have go:∀{vs':List Value} {zs':List (List Int)},kZ s.heap vs' zs'→kZ (((s.heap.update a (Obj.mapSeq fun _=>(#[]:Array Value))).push (seqObj "tuple" vs.toArray 0)).push (seqObj "list" #[] 0)) vs' zs':=fun {vs'}=>by
   induction vs' with
   | nil=>intro zs' x;cases zs' <;> first|exact trivial|exact x.elim
   | cons v vs' ih=>
    intro zs' x
    cases zs' with
    | nil=>exact x.elim
    | cons z zs'=>
     obtain⟨⟨b,o,xs,k,e,g,c,d,r⟩,x⟩:=x
     have hb:b≠a:=fun z=>by
      subst z
      rw[g] at ho
      cases ho
      simp at c
     exact⟨⟨b,o,xs,k,e,Heap.get?_push_of_some _ (Heap.get?_push_of_some _ (by rw[Heap.get?_update_ne _ _ _ _ hb];exact g)),c,d,r⟩,ih x⟩
  exact go t
 show wpAny (model prog w) A _ P E {s with heap:=((s.heap.update a (Obj.mapSeq fun _=>#[])).push (seqObj "tuple" vs.toArray 0)).push (seqObj "list" #[] 0)}
 dsimp only
 by_cases h2:vs.toArray.size<2
 ·rw[if_pos h2,if_pos h2]
  refine wpAny_bind (wpAny_pure ?_)
  rw[StateT.run_pure]
  refine wpAny_bind (wpAny_pure ?_)
  dsimp only
  have e:((vs.toArray.zip vs.toArray).map fun p=>p.2)=List.toArray ((List.toArray (List.range vs.length)).toList.map fun i=>vs.getD i Value.none):=by
   match vs,hsz,h2 with
   | [],_,_=>simp
   | [x],_,_=>simp[List.range_succ]
   | _::_::_,_,h2=>exact absurd h2 (by simp)
  refine wpAny_bind (seqEpoch_at ho6 rfl ?_)
  refine wpAny_bind (listUpdate_at ho6 rfl ?_ (Nat.zero_le _) (by rw[Array.size_map];show(pairsOf vs).size≤_;rw[pairsOf_size,sizeLine_eq];omega))
  simp only[bne_self_eq_false,Bool.false_eq_true,if_false]
  refine wpAny_pure ?_
  have:=h (List.toArray (List.range vs.length)) (Array.Perm.refl _) (fun k hk=>absurd hk (by omega))
  rw[←e] at this
  exact this
 ·rw[if_neg h2,if_neg h2]
  obtain⟨fs,kt,kl,kf⟩:=t6.firsts
  refine wpAny_bind (wpAny_mono (kat_kind (T:=.type "int") (Q:=fun κ s'=>κ=tuples' true∧s'={s with heap:=((s.heap.update a (Obj.mapSeq fun _=>#[])).push (seqObj "tuple" vs.toArray 0)).push (seqObj "list" #[] 0)}) kt (by omega) (fun v hv=>?_) rfl ⟨rfl,rfl⟩) (fun κ s' hk=>?_) fun _ _ x=>x)
  ·obtain⟨m,tk,rfl⟩:=kf v hv
   exact .now
  ·obtain⟨rfl,rfl⟩:=hk
   refine wpAny_bind (wpAny_mono (kat_run (ks:=vs) (vs:=vs) (G:=fun p s'=>p.Perm (List.toArray (List.range vs.length))∧up (fun i=>rank zs (zs.getD i [])) p vs.length∧s'={s with heap:=((s.heap.update a (Obj.mapSeq fun _=>#[])).push (seqObj "tuple" vs.toArray 0)).push (seqObj "list" #[] 0)})
    (Q:=fun st' s'=>∃p:Array Nat,arrOf st'=p.map (kas_item (vs.toArray.zip vs.toArray))∧p.size=vs.length∧failedOf st'=none∧p.Perm (List.toArray (List.range vs.length))∧up (fun i=>rank zs (zs.getD i [])) p vs.length∧s'={s with heap:=((s.heap.update a (Obj.mapSeq fun _=>#[])).push (seqObj "tuple" vs.toArray 0)).push (seqObj "list" #[] 0)}) rfl (by omega) h64
    (fun p st' s' a1 a2 a3 a4=>⟨p,a2,a1,a3,a4⟩) (En (Bv (s:={s with heap:=((s.heap.update a (Obj.mapSeq fun _=>#[])).push (seqObj "tuple" vs.toArray 0)).push (seqObj "list" #[] 0)}) t6) (by omega) fun p hp hu=>⟨hp,hu,rfl⟩)) ?_ fun _ _ e=>e)
   rintro ⟨⟨⟩,st'⟩ s' ⟨p,har,hp,hf,a4,a5,rfl⟩
   dsimp only
   rw[kat_snds rfl har]
   refine wpAny_bind (seqEpoch_at ho6 rfl ?_)
   refine wpAny_bind (listUpdate_at ho6 rfl ?_ (Nat.zero_le _) (by rw[List.size_toArray,List.length_map,Array.length_toList,hp,sizeLine_eq];omega))
   rw[hf]
   simp only[bne_self_eq_false,Bool.false_eq_true,if_false]
   exact wpAny_pure (h p a4 a5)
theorem wU {l:Addr}{Q:Value→Shared→Prop}(hl:s.heap.IsList l vs.toArray)(t:kZ s.heap vs zs)(h64:vs.length<64)
  (h:∀p:Array Nat,p.Perm (List.toArray (List.range vs.length))→up (fun i=>rank zs (zs.getD i [])) p vs.length→Q (.ref (s.heap.objs.size+1)) {s with heap:=sortedAll s.heap vs (List.toArray (p.toList.map fun i=>vs.getD i Value.none))}) :
  wpAny (model prog w) A (call (.builtin "sorted") [.ref l]) Q E s:=by
 refine Calls.call_function_entry kind_sorted plain_sorted entry_sorted (args_sorted1 _) ?_
 unfold Builtin.«sorted»
 refine wpAny_bind (m:=checkCount "sorted" 1 1 _) (wpAny_pure ?_)
 refine wpAny_bind (collect_list hl ?_ (by rw[sizeLine_eq];omega))
 refine wpAny_bind (wpAny_newList ?_ (by rw[sizeLine_eq];omega))
 have hsz:((s.heap.push (seqObj "list" #[] 0)).update s.heap.objs.size (Obj.mapSeq (·++vs.toArray))).objs.size=s.heap.objs.size+1:=by
  rw[Heap.size_update,size_push']
 have hoL:(((s.heap.push (seqObj "list" #[] 0)).update s.heap.objs.size (Obj.mapSeq (·++vs.toArray))).push (seqObj "list" vs.toArray 0)).get? (s.heap.objs.size+1)=some (seqObj "list" vs.toArray 0):=by
  rw[←hsz];exact Heap.get?_push_size _ rfl
 have keep:∀b o,s.heap.get? b=some o→(((s.heap.push (seqObj "list" #[] 0)).update s.heap.objs.size (Obj.mapSeq (·++vs.toArray))).push (seqObj "list" vs.toArray 0)).get? b=some o:=fun b o q=>by
  have hlt:b<s.heap.objs.size:=Heap.lt_size q
  rw[Heap.get?_push_ne _ _ _ (by rw[hsz];exact Nat.ne_of_lt (Nat.lt_succ_of_lt hlt)),Heap.get?_update_ne _ _ _ _ (Nat.ne_of_lt hlt),Heap.get?_push_ne _ _ _ (Nat.ne_of_lt hlt)]
  exact q
 show wpAny _ _ _ _ _ {s with heap:=((s.heap.push (seqObj "list" #[] 0)).update s.heap.objs.size (Obj.mapSeq (·++vs.toArray))).push (seqObj "list" vs.toArray 0)}
 rw[hsz]
 refine wpAny_bind (wpAny_holding (wpAny_call_entry slot_list_sort ⟨_,hoL,rfl⟩ entry_list_sort (qK hoL (t.keep keep) h64 fun p a1 a2=>⟨_,rfl,?_⟩) (args_list_sort _)))
 exact wpAny_pure ⟨_,rfl,h p a1 a2⟩
end
def iL (z:List Int):D:=.tup (z.map D.int)
def o0:List D→Option (List (List Int))
 | []=>some []
 | d::ds=>match oY d,o0 ds with
  | some (i::z),some zs=>some ((i::z)::zs)
  | _,_=>none
def rg:FD:=fun ds M=>match ds with
 | [d]=>match pM d M with
  | some xs=>match pq xs with
   | some ns=>if ns.length<64 then .ok (.lst ((L2.sortI ns).map D.int)) M else .bad
   | none=>match o0 xs with
    | some zs=>if zs.length<64 then .ok (.lst ((gY zs).map iL)) M else .bad
    | none=>.bad
  | none=>.bad
 | _=>.bad
theorem su {K:W.Frag}{θ:List Addr}{H:Hp}{f:Nat→D}{g:Nat→V}:∀l:List Nat,(∀i∈l,dX K θ H (f i) (g i))→bn K θ H (l.map f) (l.map g)
 | [],_=>rfl
 | i::l,h=>⟨_,_,rfl,h i (.head _),su l fun j hj=>h j (.tail _ hj)⟩
theorem tu {g:Nat→V}{u:Nat→Value}:∀l:List Nat,(∀i∈l,bc (g i) (u i))→aW (l.map g) (l.map u)
 | [],_=>.nil
 | i::l,h=>.cons (h i (.head _)) (tu l fun j hj=>h j (.tail _ hj))
theorem AR (hp:p.Perm (List.toArray (List.range zs.length)))(hu:up (fun i=>rank zs (zs.getD i [])) p zs.length):p.toList.map (fun i=>zs.getD i [])=gY zs:=by
 have hl:p.toList.Perm (List.range zs.length):=by simpa using Array.perm_iff_toList_perm.mp hp
 have hlen:p.toList.length=zs.length:=by rw[hl.length_eq,List.length_range]
 refine qC ?_ ?_ (wF zs)
 ·refine(hl.map _).trans (.trans (.of_eq ?_) (kr zs).symm)
  apply List.ext_getElem
  ·simp
  ·intro i h1 h2
   simp[h2]
 ·rw[List.pairwise_iff_getElem]
  intro i j hi hj hij
  rw[List.length_map] at hi hj
  rw[List.getElem_map,List.getElem_map]
  have mem:zs.getD p.toList[j] []∈zs:=by
   have:p.toList[j]<zs.length:=List.mem_range.mp (hl.subset (List.getElem_mem hj))
   rw[List.getD_eq_getElem?_getD,List.getElem?_eq_getElem this]
   exact List.getElem_mem this
  have le:=qx hu (Nat.le_of_lt hij) (by omega)
  have at':∀k (hk:k<p.toList.length),p.getD k 0=p.toList[k]:=fun k hk=>by
   rw[Array.getD_eq_getD_getElem?,←Array.getElem?_toList,List.getElem?_eq_getElem hk];rfl
  unfold kp at le
  rw[at' i hi,at' j hj] at le
  dsimp only at le
  rw[nD mem]
  exact decide_eq_false (by omega)
section
variable {X:Cx}{ag:List (Addr×Obj)}{σ:L2.St}{H:Hp}{s:Shared}{θ:List Addr}
theorem v9 (I:L2.Inv X ag σ H s):∀{xs:List D} {zs:List (List Int)} {vs:List V} {us:List Value},o0 xs=some zs→bn X.K θ H xs vs→aW vs us→
  kZ s.heap us zs∧us.length=zs.length∧∀i,i<zs.length→dX X.K θ H (iL (zs.getD i [])) (vs.getD i .non)∧bc (vs.getD i .non) (us.getD i Value.none)
 | [],zs,vs,us,e,r,v=>by
  simp only[o0,Option.some.injEq] at e
  subst e
  have:vs=[]:=r
  subst this
  cases v
  exact⟨trivial,rfl,fun i h=>absurd h (by simp)⟩
 | d::xs,zs,vs,us,e,r,v=>by
  simp only[o0] at e
  split at e
  ·rename_i i z zs' q1 q2
   cases e
   obtain⟨v1,vr,e1,r1,r2⟩:=r
   subst e1
   cases v with
   | cons h1 h2=>
    obtain⟨t,l,f⟩:=v9 I q2 r2 h2
    obtain⟨b,eb,tb⟩:=qj q1 r1
    subst eb
    have eu:_=Value.ref b:=h1
    subst eu
    obtain⟨its,rr,⟨o,ho,hc,n,hd⟩,_⟩:=I.tuple tb.sq
    refine⟨⟨⟨b,o,its.toArray,n,rfl,ho,hc,hd,mz rr,by simp⟩,t⟩,by rw[List.length_cons,List.length_cons,l],fun k hk=>?_⟩
    cases k with
    | zero=>exact⟨⟨b,_,rfl,tb,ox _⟩,rfl⟩
    | succ k=>exact f k (by simpa using hk)
  ·cases e
theorem yn:dh X (.builtin "sorted") (rC X rg):=by
 intro ag s σ H xs us Q I r h
 obtain⟨θ,M,ds,hw,rd,h⟩:=h
 unfold rg at h
 split at h
 ·rename_i d
  split at h
  ·rename_i ys q
   split at h
   ·rename_i ns qn
    refine tJ ag s σ H xs us Q I r ⟨θ,M,_,hw,rd,?_⟩
    unfold pT
    simp only[q,qn]
    exact h
   ·rename_i qn
    split at h
    ·rename_i zs qz
     split at h
     ·rename_i hl
      obtain⟨v,e,rv⟩:=jo rd
      obtain⟨a,vs,ea,ta,ra⟩:=wK hw rv q
      subst e ea
      obtain⟨u,rfl,rx⟩:=l6 r
      cases rx
      obtain⟨its,r',pl,hz⟩:=I.list (show mV X.K H a vs from .inl (.inl ta))
      obtain⟨T,lz,f⟩:=v9 I qz ra r'
      refine wU pl.isList T (by omega) fun p hp hu=>?_
      rw[lz] at hp hu
      have hpl:p.toList.Perm (List.range zs.length):=by simpa using Array.perm_iff_toList_perm.mp hp
      have es:=AR hp hu
      have inR:∀i∈p.toList,i<zs.length:=fun i hi=>List.mem_range.mp (hpl.subset hi)
      obtain⟨c,he⟩:=sortedAll_at s.heap its (List.toArray (p.toList.map fun i=>its.getD i Value.none))
      have hl2:(p.toList.map fun i=>vs.getD i V.non).length≤sizeLine:=by rw[List.length_map,hpl.length_eq,List.length_range,sizeLine_eq];omega
      have hV:aW (p.toList.map fun i=>vs.getD i V.non) (p.toList.map fun i=>its.getD i Value.none):=tu _ fun i hi=>(f i (inR i hi)).2
      have fr:=I.hok.fresh (Nat.le_succ s.heap.objs.size)
      refine⟨.ref (s.heap.objs.size+1),_,I.laid (t':=s.toks) (fun _ _=>sortedAll_old) (Nat.le_succ _) (show cz X.prog X.w _ _ _ (.lst (p.toList.map fun i=>vs.getD i V.non)) from⟨hl2,_,c,hV,by simpa using he⟩),rfl,?_⟩
      refine h _ θ _ (dG hw fr) (jd hw fr ?_)
      rw[←es,List.map_map]
      exact su _ fun i hi=>(f i (inR i hi)).1
     ·exact h.elim
    ·exact h.elim
  ·exact h.elim
 ·exact h.elim
end
section
variable {X:Cx}
theorem zY:QC X (.builtin "sorted") rg:=⟨yn⟩
end
end DL
namespace DL
open PySem L2
def aR:Nat→D→Bool
 | 0,_=>false
 | f+1,d=>match d with
  | .mr _=>false
  | .tup xs=>xs.all (aR f)
  | .lst xs=>xs.all (aR f)
  | .ro xs=>xs.all (aR f)
  | _=>true
theorem cG {f:D→Option D}:∀{xs:List D},(∀x∈xs,f x=some x)→bC f xs=some xs
 | [],_=>rfl
 | x::xs,h=>by
  unfold bC
  rw[h x List.mem_cons_self,cG fun y hy=>h y (List.mem_cons_of_mem _ hy)]
theorem ni {n:Nat}{M:aB}:∀(f:Nat) (d:D),aR f d=true→frz n M f d=some d
 | 0,d,h=>by cases h
 | f+1,d,h=>by
  cases d with
  | mr k=>cases h
  | tup xs=>
   have h:xs.all (aR f)=true:=h
   show(bC (frz n M f) xs).map D.tup=_
   rw[cG fun x hx=>ni f x (List.all_eq_true.mp h x hx)];rfl
  | lst xs=>
   have h:xs.all (aR f)=true:=h
   show(bC (frz n M f) xs).map D.lst=_
   rw[cG fun x hx=>ni f x (List.all_eq_true.mp h x hx)];rfl
  | ro xs=>
   have h:xs.all (aR f)=true:=h
   show(bC (frz n M f) xs).map D.ro=_
   rw[cG fun x hx=>ni f x (List.all_eq_true.mp h x hx)];rfl
  | _=>rfl
def si:MO→Bool
 | .lst xs=>xs.all (aR 30)
 | .obj _ fs=>fs.all fun p=>aR 30 p.2
 | .dK fs=>fs.all fun p=>aR 30 p.2
 | .dT fs=>fs.all fun p=>aR 30 p.2
theorem ot {κ:Type}{f:D→Option D}:∀{fs:List (κ×D)},(∀p∈fs,f p.2=some p.2)→rq f fs=some fs
 | [],_=>rfl
 | (x,d)::fs,h=>by
  unfold rq
  rw[h (x,d) List.mem_cons_self,ot fun y hy=>h y (List.mem_cons_of_mem _ hy)]
theorem sH {f:D→Option D}:∀{fs:List (Str×D)},(∀p∈fs,f p.2=some p.2)→vJ f fs=some fs
 | [],_=>rfl
 | (x,d)::fs,h=>by
  unfold vJ
  rw[h (x,d) List.mem_cons_self,sH fun y hy=>h y (List.mem_cons_of_mem _ hy)]
@[simp] theorem JM (f:Nat) (i:Int):aR (f+1) (.int i)=true:=rfl
@[simp] theorem KY (f:Nat) (i:Bool):aR (f+1) (.bl i)=true:=rfl
@[simp] theorem JO (f:Nat):aR (f+1) .non=true:=rfl
@[simp] theorem JU (f:Nat) (x:Str):aR (f+1) (.str x)=true:=rfl
theorem im (f:Nat)(xs:List D):aR (f+1) (.tup xs)=xs.all (aR f):=rfl
theorem zI (f:Nat)(xs:List D):aR (f+1) (.lst xs)=xs.all (aR f):=rfl
theorem gq (f:Nat)(l:List Int):(l.map D.int).all (aR (f+1))=true:=by
 rw[List.all_map];exact List.all_eq_true.mpr fun x _=>rfl
theorem Eb {α:Type}(xs:List α)(x:α):iZ (xs++[x]) (-1)=some x:=by
 unfold iZ DG
 have h:-((xs++[x]).length:Int)≤-1:=by simp;omega
 rw[if_neg (by decide),if_pos h]
 have e:(-1+((xs++[x]).length:Int)).toNat=xs.length:=by simp;omega
 rw[e]
 simp
theorem BH {t:GT}{b:GS}{n:Nat}{ρ ρ2:cn}{M M1 M2:aB}(h1:t ρ M=.ok true M1)(h2:b ρ M1=.ok (.nx ρ2) M2):fe t b (n+1) ρ M=fe t b n ρ2 M2:=by
 rw[fe,h1,aj,if_pos rfl,h2,aj]
theorem xR {t:GT}{b:GS}{n:Nat}{ρ:cn}{M M1:aB}(h1:t ρ M=.ok false M1):fe t b (n+1) ρ M=.ok (.nx ρ) M1:=by
 rw[fe,h1,aj,if_neg Bool.false_ne_true]
end DL
namespace DL
open PySem L2
variable{ρ:cn}{M M1:aB}
theorem aw {a b:GS}{ρ1:cn}(h:a ρ M=.ok (.nx ρ1) M1):av a b ρ M=b ρ1 M1:=by
 unfold av;rw[h];rfl
variable{d:D}
theorem bS {a b:GS}(h:a ρ M=.ok (.rt d) M1):av a b ρ M=.ok (.rt d) M1:=by
 unfold av;rw[h];rfl
theorem cO {t:GT}{a b:GS}(h:t ρ M=.ok true M1):dO t a b ρ M=a ρ M1:=by
 unfold dO;rw[h,aj,if_pos rfl]
theorem bT {t:GT}{a b:GS}(h:t ρ M=.ok false M1):dO t a b ρ M=b ρ M1:=by
 unfold dO;rw[h,aj,if_neg Bool.false_ne_true]
variable{i:Nat}{g:GE}
theorem bA (h:g ρ M=.ok d M1):aU i g ρ M=.ok (.nx (ρ.set i (some d))) M1:=by
 unfold aU;rw[h,aj]
theorem cx (h:g ρ M=.ok d M1):cX g ρ M=.ok (.nx ρ) M1:=by
 unfold cX;rw[h,aj]
theorem aZ (h:g ρ M=.ok d M1):aJ g ρ M=.ok (.rt d) M1:=by
 unfold aJ;rw[h,aj]
variable{a:GE}{x:Bool}
theorem bW {b:GE}{y:Bool}(ha:a ρ M=.ok (.bl x) M)(hb:x=true→b ρ M=.ok (.bl y) M):eC a b ρ M=.ok (.bl (x&&y)) M:=by
 unfold eC
 rw[ha,aj]
 cases x with
 | true=>exact hb rfl
 | false=>rfl
theorem lO {a b:GT}{y:Bool}(ha:a ρ M=.ok x M)(hb:x=true→b ρ M=.ok y M):iV a b ρ M=.ok (x&&y) M:=by
 unfold iV
 rw[ha,aj]
 cases x with
 | true=>exact hb rfl
 | false=>rfl
theorem jK {a b:GT}{y:Bool}(ha:a ρ M=.ok x M)(hb:x=false→b ρ M=.ok y M):iM a b ρ M=.ok (x||y) M:=by
 unfold iM
 rw[ha,aj]
 cases x with
 | true=>rfl
 | false=>exact hb rfl
theorem cr {a:GT}(ha:a ρ M=.ok x M):eL a ρ M=.ok (!x) M:=by
 unfold eL;rw[ha,aj]
theorem cY (ha:a ρ M=.ok (.bl x) M1):f9 a ρ M=.ok x M1:=by
 unfold f9;rw[ha,aj];rfl
theorem dF (ha:a ρ M=.ok (.bl x) M1):aS a ρ M=.ok x M1:=by
 unfold aS;rw[ha,aj];rfl
variable{o:bg D}
theorem aN {f:F2}{b:GE}{M2:aB}{x y:D}(ha:a ρ M=.ok x M1)(hb:b ρ M1=.ok y M2)(h:f x y M2=o):g2 f a b ρ M=o:=by
 unfold g2;rw[ha,aj,hb,aj,h]
variable{F:FD}
theorem mJ {x:D}(ha:a ρ M=.ok x M1)(h:F [x] M1=o):aI F (aa a ah) ρ M=o:=by
 unfold aI aa ah;rw[ha,aj,aj,aj,h]
theorem dJ {x:D}(ha:a ρ M=.ok x M1)(h:F [x] M1=o):aq 1 F (aa a ah) ρ M=o:=by
 unfold aq aa ah;rw[ha,aj,aj,aj,if_pos (show [x].length=1 from rfl),h]
theorem fD {b:GE}{M2:aB}{x y:D}(ha:a ρ M=.ok x M1)(hb:b ρ M1=.ok y M2)(h:F [x,y] M2=o):aq 2 F (aa a (aa b ah)) ρ M=o:=by
 unfold aq aa ah;rw[ha,aj,hb,aj,aj,aj,aj,if_pos (show [x,y].length=2 from rfl),h]
theorem fK {b c:GE}{M2 M3:aB}{x y z:D}(ha:a ρ M=.ok x M1)(hb:b ρ M1=.ok y M2)(hc:c ρ M2=.ok z M3)(h:F [x,y,z] M3=o):aq 3 F (aa a (aa b (aa c ah))) ρ M=o:=by
 unfold aq aa ah;rw[ha,aj,hb,aj,hc,aj,aj,aj,aj,aj,if_pos (show [x,y,z].length=3 from rfl),h]
theorem Li {b c d:GE}{M2 M3 M4:aB}{x y z u:D}(ha:a ρ M=.ok x M1)(hb:b ρ M1=.ok y M2)(hc:c ρ M2=.ok z M3)(hd:d ρ M3=.ok u M4)(h:F [x,y,z,u] M4=o):aq 4 F (aa a (aa b (aa c (aa d ah)))) ρ M=o:=by
 unfold aq aa ah;rw[ha,aj,hb,aj,hc,aj,hd,aj,aj,aj,aj,aj,aj,if_pos (show [x,y,z,u].length=4 from rfl),h]
theorem yt {p:D→Bool}:∀xs:List D,cS (xs.map fun d=>D.bl (p d))=some (xs.map p)
 | []=>rfl
 | x::xs=>by
  show(cS (xs.map fun d=>D.bl (p d))).map (p x::·)=_
  rw[yt xs];rfl
variable{xs:List D}
theorem mx {gi:GI}{ge:GE}{p:D→Bool}(hi:gi ρ M=.ok ⟨xs,none⟩ M)(hl:xs.length≤100000)(h:∀x∈xs,ge (some x::ρ) M=.ok (.bl (p x)) M) :
  aI kI (aa (aY gi bL ge aF) ah) ρ M=.ok (.bl (xs.all p)) M:=by
 have c:=jy (ds0:=xs) (ge:=ge) (ρ:=ρ) (f:=fun d=>D.bl (p d)) (M:=M) xs h
 have l1:(xs.map fun d=>D.bl (p d)).length≤sizeLine:=by rw[List.length_map];exact aE (by omega)
 refine mJ (x:=.lst (xs.map fun d=>D.bl (p d))) (M1:=M) ?_ ?_
 ·unfold aY
  rw[hi,aj]
  dsimp only
  rw[c,aj]
  unfold aF
  rw[if_pos l1]
 ·show(match b0 (.lst (xs.map fun d=>D.bl (p d))) M with|some xs=>(match cS xs with|some bs=>bg.ok (D.bl (bs.all id)) M|none=>.bad)|none=>.bad)=_
  show(match cS (xs.map fun d=>D.bl (p d)) with|some bs=>bg.ok (D.bl (bs.all id)) M|none=>.bad)=_
  rw[yt]
  dsimp only
  rw[List.all_map]
  rfl
theorem iS (h:ρ[i]?=some (some (.tup xs))):bG (ae i) ρ M=.ok ⟨xs,none⟩ M:=by
 unfold bG ae;rw[h];rfl
theorem iQ (h:ρ[i]?=some (some (.lst xs))):bG (ae i) ρ M=.ok ⟨xs,none⟩ M:=by
 unfold bG ae;rw[h];rfl
theorem zq (a b:Int)(M:aB):a7 false (.int a) (.int b) M=.ok (.bl (decide (a=b))) M:=by
 unfold a7
 by_cases q:a=b <;> simp[now,aA,gf,q]
theorem vP (a b:Int)(M:aB):a7 true (.int a) (.int b) M=.ok (.bl (!decide (a=b))) M:=by
 unfold a7
 by_cases q:a=b <;> simp[now,aA,gf,q]
theorem F6 (M:aB)(E:List D):(M++[MO.lst E])[M.length]?=some (.lst E):=by simp
theorem IU (M:aB)(E E':List D):(M++[MO.lst E]).set M.length (.lst E')=M++[MO.lst E']:=by simp
variable{E:List D}
theorem HQ (h:E.length<1000000):wQ M.length d (M++[MO.lst E])=.ok .non (M++[MO.lst (E++[d])]):=by
 have l:E.length<sizeLine:=Nat.lt_of_lt_of_le h (by rw[sizeLine_eq];decide)
 unfold wQ
 rw[F6]
 dsimp only
 rw[if_pos l,IU]
theorem yp {go ge:GE}(h1:go ρ (M++[MO.lst E])=.ok (.mr M.length) (M++[MO.lst E]))(h2:ge ρ (M++[MO.lst E])=.ok d (M++[MO.lst E]))(h:E.length<1000000) :
  lQ go ge ρ (M++[MO.lst E])=.ok .non (M++[MO.lst (E++[d])]):=by
 unfold lQ
 rw[h1,aj]
 dsimp only
 rw[F6]
 dsimp only
 rw[h2,aj,HQ h]
variable{k:Nat}
theorem A9 (h:xs[k]?=some d):aX (.lst xs) (.int k) M=.ok d M:=by
 have a:=dL (xs:=xs) (j:=k) h
 unfold aX b0
 dsimp only
 rw[a]
theorem fG (h:xs[k]?=some d):aX (.tup xs) (.int k) M=.ok d M:=by
 have a:=dL (xs:=xs) (j:=k) h
 unfold aX b0
 dsimp only
 rw[a]
theorem pr :jv ah ρ M=.ok (.mr M.length) (M++[.lst []]):=by
 show(if([]:List D).length≤sizeLine then bg.ok (D.mr M.length) (M++[.lst []]) else .bad)=_
 rw[if_pos (show([]:List D).length≤sizeLine from Nat.zero_le _)]
variable{ga:GA}{ds:List D}
theorem cK (h:ga ρ M=.ok ds M1)(hl:ds.length≤100000):aO ga ρ M=.ok (.tup ds) M1:=by
 have:ds.length≤sizeLine:=aE (by omega)
 unfold aO
 rw[h,aj]
 unfold qJ
 rw[if_pos this]
theorem CP (h:ga ρ M=.ok ds M1)(hl:ds.length≤100000):lU ga ρ M=.ok (.lst ds) M1:=by
 have:ds.length≤sizeLine:=aE (by omega)
 unfold lU
 rw[h,aj]
 unfold aF
 rw[if_pos this]
theorem aG {r:GA}{M2:aB}(h:g ρ M=.ok d M1)(hr:r ρ M1=.ok ds M2):aa g r ρ M=.ok (d::ds) M2:=by
 unfold aa
 rw[h,aj,hr,aj]
theorem CG {go ge:GE}{E1:List D}(h1:go ρ M=.ok (.mr k) M)(h2:M[k]?=some (.lst E))(h3:ge ρ M=.ok d M1)(h4:M1[k]?=some (.lst E1))(h:E1.length<1000000) :
  lQ go ge ρ M=.ok .non (M1.set k (.lst (E1++[d]))):=by
 have l:E1.length<sizeLine:=Nat.lt_of_lt_of_le h (by rw[sizeLine_eq];decide)
 unfold lQ
 rw[h1,aj]
 dsimp only
 rw[h2]
 dsimp only
 rw[h3,aj]
 unfold wQ
 rw[h4]
 dsimp only
 rw[if_pos l]
theorem zB {n:Nat}(h:ga ρ M=.ok [.int (n:Int)] M1)(hn:n≤1000000):fQ ga ρ M=.ok ⟨bj 0 n,none⟩ M1:=by
 unfold fQ
 rw[h,aj,Df hn]
theorem mw {gi:GI}{sg:GG}{b:GS}{t:sv}{o:bg Fl}(h:gi ρ M=.ok t M1)(e:fZ t sg b t.ds ρ M1=o):kN gi sg b ρ M=o:=by
 unfold kN
 rw[h,aj,e]
theorem Dz {i j:Int}(h0:-1000000≤i)(h1:i≤1000000)(M:aB):fT (.int i) (.int j) M=.ok (.int (i*j)) M:=by
 have a:-(2 ^ 64:Int)<i:=Int.lt_of_lt_of_le (by decide) h0
 have b:i<(2 ^ 64:Int):=Int.lt_of_le_of_lt h1 (by decide)
 unfold fT
 dsimp only
 rw[if_pos (.inl ⟨a,b⟩)]
end DL
namespace DL
open PySem L2
def f7 (n:Nat):Nat→D→Bool
 | 0,_=>false
 | f+1,d=>match d with
  | .mr k=>decide (k<n)
  | .tup xs=>xs.all (f7 n f)
  | .lst xs=>xs.all (f7 n f)
  | .ro xs=>xs.all (f7 n f)
  | _=>true
theorem j9 {n:Nat}{M:aB}:∀(f:Nat) (d:D),f7 n f d=true→frz n M f d=some d
 | 0,d,h=>by cases h
 | f+1,d,h=>by
  cases d with
  | mr k=>
   have h:decide (k<n)=true:=h
   show(if k<n then some (D.mr k) else _)=_
   rw[if_pos (of_decide_eq_true h)]
  | tup xs=>
   have h:xs.all (f7 n f)=true:=h
   show(bC (frz n M f) xs).map D.tup=_
   rw[cG fun x hx=>j9 f x (List.all_eq_true.mp h x hx)];rfl
  | lst xs=>
   have h:xs.all (f7 n f)=true:=h
   show(bC (frz n M f) xs).map D.lst=_
   rw[cG fun x hx=>j9 f x (List.all_eq_true.mp h x hx)];rfl
  | ro xs=>
   have h:xs.all (f7 n f)=true:=h
   show(bC (frz n M f) xs).map D.ro=_
   rw[cG fun x hx=>j9 f x (List.all_eq_true.mp h x hx)];rfl
  | _=>rfl
theorem cZ {n:Nat}:∀(f:Nat) (d:D),aR f d=true→f7 n f d=true
 | 0,d,h=>by cases h
 | f+1,d,h=>by
  cases d with
  | mr k=>cases h
  | tup xs=>exact List.all_eq_true.mpr fun x hx=>cZ f x (List.all_eq_true.mp (show xs.all (aR f)=true from h) x hx)
  | lst xs=>exact List.all_eq_true.mpr fun x hx=>cZ f x (List.all_eq_true.mp (show xs.all (aR f)=true from h) x hx)
  | ro xs=>exact List.all_eq_true.mpr fun x hx=>cZ f x (List.all_eq_true.mp (show xs.all (aR f)=true from h) x hx)
  | _=>rfl
theorem iA {n m:Nat}(hn:n≤m):∀(f:Nat) (d:D),f7 n f d=true→f7 m f d=true
 | 0,d,h=>by cases h
 | f+1,d,h=>by
  cases d with
  | mr k=>exact decide_eq_true (Nat.lt_of_lt_of_le (of_decide_eq_true (show decide (k<n)=true from h)) hn)
  | tup xs=>exact List.all_eq_true.mpr fun x hx=>iA hn f x (List.all_eq_true.mp (show xs.all (f7 n f)=true from h) x hx)
  | lst xs=>exact List.all_eq_true.mpr fun x hx=>iA hn f x (List.all_eq_true.mp (show xs.all (f7 n f)=true from h) x hx)
  | ro xs=>exact List.all_eq_true.mpr fun x hx=>iA hn f x (List.all_eq_true.mp (show xs.all (f7 n f)=true from h) x hx)
  | _=>rfl
def Dj (n:Nat):MO→Bool
 | .lst xs=>xs.all (f7 n 30)
 | .obj _ fs=>fs.all fun p=>f7 n 30 p.2
 | .dK fs=>fs.all fun p=>f7 n 30 p.2
 | .dT fs=>fs.all fun p=>f7 n 30 p.2
variable{o:MO}
theorem Aq {n m:Nat}(hn:n≤m)(h:Dj n o=true):Dj m o=true:=by
 cases o with
 | lst xs=>exact List.all_eq_true.mpr fun x hx=>iA hn 30 x (List.all_eq_true.mp (show xs.all (f7 n 30)=true from h) x hx)
 | obj c fs=>exact List.all_eq_true.mpr fun x hx=>iA hn 30 x.2 (List.all_eq_true.mp (show(fs.all fun p=>f7 n 30 p.2)=true from h) x hx)
 | dK fs=>exact List.all_eq_true.mpr fun x hx=>iA hn 30 x.2 (List.all_eq_true.mp (show(fs.all fun p=>f7 n 30 p.2)=true from h) x hx)
 | dT fs=>exact List.all_eq_true.mpr fun x hx=>iA hn 30 x.2 (List.all_eq_true.mp (show(fs.all fun p=>f7 n 30 p.2)=true from h) x hx)
theorem sQ {n:Nat}(h:si o=true):Dj n o=true:=by
 cases o with
 | lst xs=>exact List.all_eq_true.mpr fun x hx=>cZ 30 x (List.all_eq_true.mp (show xs.all (aR 30)=true from h) x hx)
 | obj c fs=>exact List.all_eq_true.mpr fun x hx=>cZ 30 x.2 (List.all_eq_true.mp (show(fs.all fun p=>aR 30 p.2)=true from h) x hx)
 | dK fs=>exact List.all_eq_true.mpr fun x hx=>cZ 30 x.2 (List.all_eq_true.mp (show(fs.all fun p=>aR 30 p.2)=true from h) x hx)
 | dT fs=>exact List.all_eq_true.mpr fun x hx=>cZ 30 x.2 (List.all_eq_true.mp (show(fs.all fun p=>aR 30 p.2)=true from h) x hx)
theorem kW {n:Nat}{M:aB}:∀{l:List MO},l.all (Dj n)=true→hX n M l=some l
 | [],_=>rfl
 | .lst xs::r,h=>by
  rw[List.all_cons,Bool.and_eq_true] at h
  unfold hX
  rw[kW h.2]
  have h1:xs.all (f7 n 30)=true:=h.1
  rw[cG fun x hx=>j9 30 x (List.all_eq_true.mp h1 x hx)]
 | .obj c fs::r,h=>by
  rw[List.all_cons,Bool.and_eq_true] at h
  unfold hX
  rw[kW h.2]
  have h1:(fs.all fun p=>f7 n 30 p.2)=true:=h.1
  rw[sH fun p hp=>j9 30 p.2 (List.all_eq_true.mp h1 p hp)]
 | .dK fs::r,h=>by
  rw[List.all_cons,Bool.and_eq_true] at h
  unfold hX
  rw[kW h.2]
  have h1:(fs.all fun p=>f7 n 30 p.2)=true:=h.1
  rw[ot fun p hp=>j9 30 p.2 (List.all_eq_true.mp h1 p hp)]
 | .dT fs::r,h=>by
  rw[List.all_cons,Bool.and_eq_true] at h
  unfold hX
  rw[kW h.2]
  have h1:(fs.all fun p=>f7 n 30 p.2)=true:=h.1
  rw[ot fun p hp=>j9 30 p.2 (List.all_eq_true.mp h1 p hp)]
def iO (M:aB):Prop:=M.all (Dj M.length)=true
variable{M:aB}
theorem iO.pure (h:M.all si=true):iO M:=List.all_eq_true.mpr fun x hx=>sQ (List.all_eq_true.mp h x hx)
theorem wV {xs:List D}(hx:xs.all (aR 29)=true)(hM:iO M):vK M.length (.ok (.mr M.length) (M++[.lst xs]))=.ok (.lst xs) M:=by
 have f1:=kW (n:=M.length) (M:=M++[.lst xs]) hM
 have f2:frz M.length (M++[.lst xs]) 30 (.mr M.length)=some (.lst xs):=by
  have o:bC (frz M.length (M++[.lst xs]) 29) xs=some xs:=cG fun x h=>ni 29 x (List.all_eq_true.mp hx x h)
  show(if M.length<M.length then some (D.mr M.length) else match (M++[MO.lst xs])[M.length]? with|some (MO.lst ys)=>(bC (frz M.length (M++[MO.lst xs]) 29) ys).map D.lst|_=>none)=_
  rw[if_neg (Nat.lt_irrefl _)]
  simp
  rw[o]
 show(if(M++[MO.lst xs]).length=M.length then bg.ok (D.mr M.length) (M++[MO.lst xs]) else match frz M.length (M++[MO.lst xs]) 30 (.mr M.length),hX M.length (M++[MO.lst xs]) ((M++[MO.lst xs]).take M.length) with|some d',some M'=>.ok d' M'|_,_=>.bad)=_
 rw[if_neg (by simp),List.take_left,f1,f2]
variable{c:Str}{k:Nat}{fs:List (Str×D)}
theorem qt (h:M[k]?=some (.obj c fs)):iF c (.mr k) M=some (k,fs):=by
 unfold iF
 dsimp only
 rw[h]
 dsimp only
 rw[if_pos rfl]
variable{ρ:cn}
theorem cT {g:GE}{f:Str}{d:D}(h:g ρ M=.ok (.mr k) M)(hM:M[k]?=some (.obj c fs))(hf:fs.lookup f=some d):dm c f g ρ M=.ok d M:=by
 unfold dm
 rw[h,aj,qt hM]
 dsimp only
 rw[hf]
theorem iw {go:GE}{ga:GA}{F:FD}{n:Nat}{M1:aB}{m:Str}{ds:List D}{r:bg D}(h:go ρ M=.ok (.mr k) M)(hM:M[k]?=some (.obj c fs))(hn:fs.lookup m=none)
  (ha:ga ρ M=.ok ds M1) (hl:ds.length+1=n) (hF:F (.mr k::ds) M1=r):eU c m n F go ga ρ M=r:=by
 unfold eU
 rw[h,aj,qt hM]
 dsimp only
 rw[if_pos hn,ha,aj,if_pos hl,hF]
variable{y:D}
theorem za {f:Str}(hM:M[k]?=some (.obj c fs))(hl:fs.length<1000):uR c f (.mr k) y M=.ok () (M.set k (.obj c (eX f y fs))):=by
 unfold uR
 rw[qt hM]
 dsimp only
 rw[if_pos hl]
theorem ve {go gv:GE}{M1:aB}{f:Str}(hv:gv ρ M=.ok y M1)(ho:go ρ M1=.ok (.mr k) M1)(hM:M1[k]?=some (.obj c fs))(hl:fs.length<1000) :
  fE c f go gv ρ M=.ok (.nx ρ) (M1.set k (.obj c (eX f y fs))):=by
 unfold fE
 rw[hv,aj,ho,aj,za hM hl,aj]
variable{z:D}
theorem Gg {go gv:GE}{M1 M2:aB}{f:Str}{fs2:List (Str×D)}{v:D}(ho:go ρ M=.ok (.mr k) M)(hM:M[k]?=some (.obj c fs))(hf:fs.lookup f=some v)(hv:gv ρ M=.ok y M1)
  (ha:yR v y M1=.ok z M2) (hM2:M2[k]?=some (.obj c fs2)) (hl:fs2.length<1000):E8 c f go gv ρ M=.ok (.nx ρ) (M2.set k (.obj c (eX f z fs2))):=by
 unfold E8
 rw[ho,aj,qt hM]
 dsimp only
 rw[hf]
 dsimp only
 rw[hv,aj,ha,aj,za hM2 hl,aj]
theorem Ez {xs ys:List D}(h:M[k]?=some (.lst xs))(hl:xs.length+ys.length≤100000):yR (.mr k) (.lst ys) M=.ok (.mr k) (M.set k (.lst (xs++ys))):=by
 unfold yR
 dsimp only
 rw[h]
 dsimp only
 rw[show pM (.lst ys) M=some ys from rfl]
 dsimp only
 rw[if_pos (aE (by omega))]
variable{i:Nat}
theorem wb {kvs:List (dB×D)}{k:dB}(h:M[i]?=some (.dK kvs))(hk:nk y=some k)(hg:kL kvs k=none)(hl:kvs.length<1000000):fL i y z M=.ok z (M.set i (.dK (kvs++[(k,z)]))):=by
 unfold fL
 rw[h]
 dsimp only
 rw[hk]
 dsimp only
 rw[hg]
 dsimp only
 rw[if_pos (Nat.lt_of_lt_of_le hl (aE (by decide)))]
theorem wR {kvs:List (dB×D)}{r:D}{k:dB}(h:M[i]?=some (.dK kvs))(hk:nk y=some k)(hg:kL kvs k=some r):fL i y z M=.ok r M:=by
 unfold fL
 rw[h]
 dsimp only
 rw[hk]
 dsimp only
 rw[hg]
variable{kvs:List (List dB×D)}
theorem vU {k:List dB}(h:M[i]?=some (.dT kvs))(hk:n8 y=some k)(hg:kL kvs k=none)(hl:kvs.length<1000000):fL i y z M=.ok z (M.set i (.dT (kvs++[(k,z)]))):=by
 unfold fL
 rw[h]
 dsimp only
 rw[hk]
 dsimp only
 rw[hg]
 dsimp only
 rw[if_pos (Nat.lt_of_lt_of_le hl (aE (by decide)))]
theorem wX {r:D}{k:List dB}(h:M[i]?=some (.dT kvs))(hk:n8 y=some k)(hg:kL kvs k=some r):fL i y z M=.ok r M:=by
 unfold fL
 rw[h]
 dsimp only
 rw[hk]
 dsimp only
 rw[hg]
def xF {κ:Type}[DecidableEq κ](kvs:List (κ×D))(k:κ)(z:D):List (κ×D):=match kL kvs k with
 | some _=>kvs
 | none=>kvs++[(k,z)]
theorem Ea {κ:Type}[DecidableEq κ](kvs:List (κ×D))(k:κ)(z:D):(xF kvs k z).length≤kvs.length+1:=by
 unfold xF
 split
 ·omega
 ·rw[List.length_append];simp
theorem p5 (h:M[i]?=some o):M.set i o=M:=by
 obtain⟨hi,e⟩:=List.getElem?_eq_some_iff.mp h
 rw[←e];exact List.set_getElem_self hi
theorem xV {kvs:List (dB×D)}{k:dB}(h:M[i]?=some (.dK kvs))(hk:nk y=some k)(hl:kvs.length<1000000):∃r,fL i y z M=.ok r (M.set i (.dK (xF kvs k z))):=by
 unfold xF
 cases hg:kL kvs k with
 | some r=>exact⟨r,by rw[wR h hk hg,p5 h]⟩
 | none=>exact⟨z,wb h hk hg hl⟩
theorem yf {k:List dB}(h:M[i]?=some (.dT kvs))(hk:n8 y=some k)(hl:kvs.length<1000000):∃r,fL i y z M=.ok r (M.set i (.dT (xF kvs k z))):=by
 unfold xF
 cases hg:kL kvs k with
 | some r=>exact⟨r,by rw[wX h hk hg,p5 h]⟩
 | none=>exact⟨z,vU h hk hg hl⟩
theorem tD {go gy gz:GE}{o:bg D}(h1:go ρ M=.ok (.mr i) M)(h2:ue M[i]?=true)(h3:gy ρ M=.ok y M)(h4:gz ρ M=.ok z M)(h:fL i y z M=o):jO go gy gz ρ M=o:=by
 unfold jO
 rw[h1,aj]
 dsimp only
 rw[if_pos h2,h3,aj,h4,aj,h]
end DL
namespace Hd
open PySem PySem.W PySem.Calls PyProof.Rows
def topRunT (tb:String→Option Builtin)(p:Program)(w:World)(n0:Nat)(ann:Option Value):Nat→SharedT→Thread→Option SharedT
 | 0,_,_=>none
 | n+1,s,t=>match through t with
  | true=>some s
  | false=>match stepOk n0 ann t with
   | false=>none
   | true=>match stepT (denote tb) p w s t with
    | some (s',t')=>topRunT tb p w n0 ann n s' t'
    | none=>none
theorem tU {tb:String→Option Builtin}{p:Program}{w:World}{n0:Nat}{ann:Option Value}:∀{n:Nat} {s s':SharedT} {t:Thread},topRunT tb p w n0 ann n s t=some s'→topRun tb p w n0 ann n s.abs t=some s'.abs
 | 0,_,_,_,h=>by cases h
 | n+1,s,s',t,h=>by
  unfold topRunT at h
  unfold topRun
  cases he:through t with
  | true=>rw[he] at h;cases h;rfl
  | false=>
   rw[he] at h
   cases hk:stepOk n0 ann t with
   | false=>rw[hk] at h;cases h
   | true=>
    rw[hk] at h
    cases hs:stepT (denote tb) p w s t with
    | none=>rw[hs] at h;cases h
    | some r=>obtain⟨s2,t2⟩:=r;rw[hs] at h;rw[stepT_spec hs];exact tU h
def grow:List Obj→BT→Nat→BT
 | [],t,_=>t
 | o::r,t,n=>grow r (t.ins n o) (n+1)
def Gh:List Obj→BT→Nat→Bool
 | [],_,_=>true
 | o::r,t,n=>((t.ins n o).get n).isSome&&Gh r (t.ins n o) (n+1)
theorem wk (life:Life):∀(l:List Obj) (t:BT) (n:Nat),Gh l t n=true→absHeap (grow l t n) (n+l.length) life=⟨(absHeap t n life).objs++l.toArray,life⟩
 | [],t,n,_=>by simp[grow,absHeap]
 | o::r,t,n,h=>by
  obtain⟨h1,h2⟩:=Bool.and_eq_true_iff.mp h
  have e:=wk life r (t.ins n o) (n+1) h2
  have e2:absHeap (t.ins n o) (n+1) life=(absHeap t n life).push o:=absHeap_ins h1
  show absHeap (grow r (t.ins n o) (n+1)) (n+(r.length+1)) life=_
  rw[show n+(r.length+1)=n+1+r.length by omega,e,e2]
  simp[Heap.push]
variable{Xt:Shared→Bool}{N:Nat}
theorem xK {p q:Program}{loose:List Str}{A:Type}{Yf:Shared→A}{Ya:World→A}{g0:Bool}{H:Params→Heap}{gs:Array GenState}{d:Drawn}{k:Nat}{m:Nat}{ann:Option Value}{T:Params→BT}{lf:Life}
  (open_:∀w:World,(fencedOpening treeTable p w N).map (fun s=>(s.heap,s.gens,s.drawn,s.toks))=some (H w.params,gs,d,k))
  (size:∀w:World,((H w.params).isNs mainGlobals&&gs.size==0,(H w.params).objs.size,(H w.params).nsMap mainGlobals "__annotations__")=(true,m,ann))
  (tree:∀P,H P=absHeap (T P) m lf)
  (run:∀(w:World) (os:OsState),(topRunT treeTable p w m ann N ⟨T w.params,m,lf,gs,d,k,os⟩ (topStub p)).map (fun s=>
    ((staticsOk (importedModules p.main.body) (H w.params) s.abs.heap&&namesBound p s.abs.heap&&gensDone s.abs&&laidKept (H w.params) s.abs.heap),
    openSeen q loose (importedModules p.main.body) Xt g0 s.abs,Yf s.abs))=some (true,openGood q loose,Ya w)):LeftO p q loose Xt Yf Ya N g0:=fun w=>by
 obtain⟨⟨h,gs',d',k',os⟩,e,e'⟩:=Option.map_eq_some_iff.mp (open_ w)
 obtain⟨rfl,rfl,rfl,rfl⟩:h=H w.params∧gs'=gs∧d'=d∧k'=k:=by simpa using e'
 obtain⟨z1,z2,z3⟩:_∧_∧_:=by simpa only[Prod.mk.injEq] using size w
 obtain⟨s,r1,r2⟩:=Option.map_eq_some_iff.mp (run w os)
 obtain⟨l1,l2,l3⟩:_∧_∧_:=by simpa only[Prod.mk.injEq] using r2
 have r:=tU r1
 have ea:SharedT.abs ⟨T w.params,m,lf,gs',d',k',os⟩=⟨H w.params,gs',d',k',os⟩:=by rw[tree];rfl
 rw[ea] at r
 have t:topFrom treeTable p w N ⟨H w.params,gs',d',k',os⟩=some s.abs:=by
  unfold topFrom
  dsimp only
  rw[z1,z2,z3,r]
  show(match staticsOk (importedModules p.main.body) (H w.params) s.abs.heap&&namesBound p s.abs.heap&&gensDone s.abs&&laidKept (H w.params) s.abs.heap with|true=>_|false=>_)=_
  rw[l1]
 unfold openEnds
 rw[e]
 show(topFrom treeTable p w N _).map _=_
 rw[t]
 exact congrArg some (Prod.ext l2 l3)
noncomputable def bootT (P:Params):BT:=grow (boot_heap P).objs.toList .nil 0
lay_quick Hd.topRunT W.topStub
theorem zX (P:Params):boot_heap P=absHeap (bootT P) 11 {}:=by
 have h:=wk {} (boot_heap P).objs.toList .nil 0 (by kernel_rfl)
 exact h.symm
noncomputable def RT (p:Program) (w:World) (N:Nat) (os:OsState):Option SharedT:=topRunT treeTable p w 11 (some (Value.ref 6)) N ⟨bootT w.params,11,{},Array.mk [],boot_drawn,boot_toks,os⟩ (topStub p)
noncomputable def pA (p:Program) (P:Params) (s:Shared):Bool:=staticsOk (importedModules p.main.body) (boot_heap P) s.heap&&namesBound p s.heap&&gensDone s&&laidKept (boot_heap P) s.heap
def pB (q:Program)(mods:List Str)(Xt:Shared→Bool)(s:Shared):Bool:=(s.heap.keysOk (looseW q []) ((recsOf q).map (·.name)) ((litsOf q).map (·.1)) ((clssOf q (looseW q [])).map (·.name))&&s.heap.accountedOkI mods&&s.heap.isNs mainGlobals&&s.heap.isNs builtinsNs&&tablesOk q s.heap&&Xt s&&(if true then s.gens.size==0 else !leftWithCleanup s.gens))&&tabsOk q s
def pC (q:Program)(s:Shared):=(seen ((recsOf q).map (·.name)) (ownsOf q) [] {s with gens:=#[]},s.heap.bltView,wideSeen q s)
def pD (q:Program)(s:Shared):=(pinSeenD q (drecsOf q) s,plainSeenE q (looseW q []) s,plainSeenD q [] s,clsSeenW q [] s)
lay_quick Hd.pB
lay_quick Hd.pC
lay_quick Hd.pD
theorem uf {α A B:Type}{x:Option α}{f:α→A}{g:α→B}{a:A}{b:B}(h1:x.map f=some a)(h2:x.map g=some b):x.map (fun s=>(f s,g s))=some (a,b):=by
 cases x with
 | none=>cases h1
 | some s=>exact congrArg some (Prod.ext (Option.some.inj h1) (Option.some.inj h2))
theorem xJ {p q:Program}{A:Type}{Yf:Shared→A}{Ya:World→A}
  (open_:∀w:World,(fencedOpening treeTable p w N).map (fun s=>(s.heap,s.gens,s.drawn,s.toks))=some (boot_heap w.params,Array.mk [],boot_drawn,boot_toks))
  (size:∀w:World,((boot_heap w.params).isNs mainGlobals&&(Array.mk ([]:List GenState)).size==0,(boot_heap w.params).objs.size,(boot_heap w.params).nsMap mainGlobals "__annotations__")=(true,11,some (Value.ref 6)))
  (r1:∀(w:World) (os:OsState),(RT p w N os).map (fun s=>pA p w.params s.abs&&pB q (importedModules p.main.body) Xt s.abs)=some true)
  (r2:∀(w:World) (os:OsState),(RT p w N os).map (fun s=>pC q s.abs)=some (expectedOf q,bltViewBooted,wideGood q))
  (r3:∀(w:World) (os:OsState),(RT p w N os).map (fun s=>pD q s.abs)=some (pinGoodD (drecsOf q),plainGoodE q (looseW q []),plainGoodD q [],clsGoodW q []))
  (r4:∀(w:World) (os:OsState),(RT p w N os).map (fun s=>Yf s.abs)=some (Ya w)):LeftO p q [] Xt Yf Ya N true:=
 xK open_ size zX fun w os=>by
  show(RT p w N os).map _=_
  have h:=uf (uf (r1 w os) (r2 w os)) (uf (r3 w os) (r4 w os))
  cases e:RT p w N os with
  | none=>rw[e] at h;cases h
  | some s=>
   rw[e] at h
   obtain⟨h1,h2⟩:=Prod.mk.inj (Option.some.inj h)
   obtain⟨h1,h3⟩:=Prod.mk.inj h1
   obtain⟨h4,h5⟩:=Prod.mk.inj h2
   obtain⟨a,b⟩:=Bool.and_eq_true_iff.mp h1
   obtain⟨b,c⟩:=Bool.and_eq_true_iff.mp b
   obtain⟨c1,c2⟩:=Prod.mk.inj h3
   obtain⟨c2,c3⟩:=Prod.mk.inj c2
   obtain⟨d1,d2⟩:=Prod.mk.inj h4
   obtain⟨d2,d3⟩:=Prod.mk.inj d2
   obtain⟨d3,d4⟩:=Prod.mk.inj d3
   exact congrArg some (Prod.ext a (Prod.ext (Prod.ext c1 (Prod.ext c2 (Prod.ext b (Prod.ext c (Prod.ext d1 (Prod.ext d2 (Prod.ext d3 (Prod.ext c3 d4)))))))) h5))
def lk (s:SharedT)(a:Nat):Option Obj:=match Nat.blt a s.n with
 | true=>(match s.tree.get a with
  | some o=>alive o
  | none=>none)
 | false=>none
theorem Ld {s:SharedT}{a:Nat}{o:Obj}(h:lk s a=some o):s.abs.heap.get? a=some o:=by
 unfold lk at h
 cases b:Nat.blt a s.n with
 | false=>rw[b] at h;cases h
 | true=>
  rw[b] at h
  cases g:s.tree.get a with
  | none=>rw[g] at h;cases h
  | some x=>rw[g] at h;exact(abs_get (Nat.blt_eq.mp b) g).trans h
theorem ym {s:SharedT}{β:Type}{f:β→Obj}:∀{as:List Nat} {l:List β},as.map (lk s)=l.map (fun p=>some (f p))→as.map s.abs.heap.get?=l.map (fun p=>some (f p))
 | [],[],_=>rfl
 | [],_::_,h=>by cases h
 | _::_,[],h=>by cases h
 | a::as,p::l,h=>by
  obtain⟨x,y⟩:=List.cons.inj h
  show s.abs.heap.get? a::as.map s.abs.heap.get?=_
  rw[Ld x,ym y];rfl
theorem left_km {p q:Program}{K:Params→Frag}{as:List Addr}{e:∀P,as=(K P).map (·.1)}{ts:List Addr}
  (open_:∀w:World,(fencedOpening treeTable p w N).map (fun s=>(s.heap,s.gens,s.drawn,s.toks))=some (boot_heap w.params,Array.mk [],boot_drawn,boot_toks))
  (size:∀w:World,((boot_heap w.params).isNs mainGlobals&&(Array.mk ([]:List GenState)).size==0,(boot_heap w.params).objs.size,(boot_heap w.params).nsMap mainGlobals "__annotations__")=(true,11,some (Value.ref 6)))
  (r1:∀(w:World) (os:OsState),(RT p w N os).map (fun s=>pA p w.params s.abs&&pB q (importedModules p.main.body) Xt s.abs)=some true)
  (r2:∀(w:World) (os:OsState),(RT p w N os).map (fun s=>pC q s.abs)=some (expectedOf q,bltViewBooted,wideGood q))
  (r3:∀(w:World) (os:OsState),(RT p w N os).map (fun s=>pD q s.abs)=some (pinGoodD (drecsOf q),plainGoodE q (looseW q []),plainGoodD q [],clsGoodW q []))
  (r4:∀(w:World) (os:OsState),(RT p w N os).map (fun s=>(as.map (lk s),ts.map (lk s)))=some ((K w.params).map (fun p=>some p.2),ts.map fun _=>some (tabObj #[]))) :
  LeftO p q [] Xt (kmHook K as e ts).obs (kmHook K as e ts).val N true:=
 xJ open_ size r1 r2 r3 fun w os=>by
  obtain⟨s,h1,h2⟩:=Option.map_eq_some_iff.mp (r4 w os)
  obtain⟨a,b⟩:=Prod.mk.inj h2
  rw[h1]
  exact congrArg some (Prod.ext (ym a) (ym b))
end Hd
namespace K14
open PySem PySem.Spec PyProof.Rows L2 DL
noncomputable def top (i:Nat):Stmt:=PySem.Challenge.pw_glowrow_k14_whole_moved_together.main.body.getD i (.Pass ⟨0,0,0,0⟩)
noncomputable abbrev Gk:Stmt:=top 65
noncomputable abbrev TX:=Tx (("_law_draw",top 55,["tape","many"])::("_law_size",top 56,["tape","most"])::("_law_frame",top 57,["tape","most"])::("_law_inks",top 58,["tape","wide","thin"])::("_law_inked",top 59,["tape","most"])::("_law_far",top 60,["tape","size"])::("_law_mover",top 61,["tape","frame","shapes"])::("_law_stand",top 62,["tape","frame","movers_most"])::("_law_deed",top 63,["tape","frame","stand"])::("_law_timed",top 64,["tape","frame","stand","most"])::("is_whole",top 9,["thing"])::("is_within",top 10,["thing","low","high"])::("is_frame",top 12,["thing"])::("is_ink",top 17,["thing"])::("is_ink_row",top 18,["thing"])::("is_ink_block",top 19,["thing","most"])::("is_shape",top 20,["thing"])::("is_book",top 36,["thing"])::("is_shape_number",top 37,["book","thing"])::("is_place_pair",top 35,["thing"])::("is_rank",top 34,["thing"])::("is_turn",top 21,["thing"])::("is_mover",top 38,["book","thing"])::("are_movers",top 39,["book","thing"])::("is_hue",top 33,["thing"])::("are_pots",top 40,["thing"])::("is_stand",top 41,["thing"])::("check_begin",top 48,["frame","stand"])::("row_ticks",top 13,["frame"])::("ticks_of",top 14,["frame"])::("ticks_hold",top 51,["frame","timed"])::("is_mover_deed",top 43,["stand","word","parts"])::("is_deed",top 42,["stand","thing"])::("check_plan",top 52,["frame","stand","timed"])::("place_of",top 15,["frame","tick"])::("strip_of",top 22,["shape","turn","row"])::("strip_taken",top 29,["stand","number","row"])::("floor_inks",top 28,["frame","stand","row"])::("lying_on",top 24,["stand","row"])::("kept_on",top 25,["frame","stand","row"])::("taken",top 27,["frame","stand","row"])::("lost_on",top 26,["frame","stand","row"])::("covers_at",top 30,["row_taken","x"])::("mover_behind",top 45,["mover","word","parts"])::("with_part",top 46,["things","at","part"])::("stand_behind",top 44,["stand","deed"])::("laid",top 53,["frame","stand","timed"])::[])
 (("Beam","picture","Beam.picture",fF (top 49) 11,["self"])::("Beam","__init__","Beam.__init__",fF (top 49) 0,["self","frame","stand"])::("Beam","take_row","Beam.take_row",fF (top 49) 7,["self","row"])::("Beam","keep_touches","Beam.keep_touches",fF (top 49) 9,["self","numbers","row","spot"])::("Beam","keep_grounds","Beam.keep_grounds",fF (top 49) 10,["self","numbers","row","spot"])::("Beam","lay_spot","Beam.lay_spot",fF (top 49) 8,["self","row","spot"])::("Beam","go_tick","Beam.go_tick",fF (top 49) 6,["self"])::("Beam","go","Beam.go",fF (top 49) 5,["self","many"])::("Beam","is_over","Beam.is_over",fF (top 49) 3,["self"])::("Beam","deed","Beam.deed",fF (top 49) 4,["self","deed"])::("Beam","tick","Beam.tick",fF (top 49) 1,["self"])::[])
 [("ink_shown",top 31,["floor_ink","covers"])]
 ("all"::"bool"::"divmod"::"enumerate"::"int"::"isinstance"::"len"::"list"::"max"::"min"::"range"::"sorted"::"tuple"::[]) ["NoDeed","NoFrame","NoStand","NoTick","Over"]
 ([]) []
 (("Beam","ahead")::("Beam","first_grounds")::("Beam","first_touches")::("Beam","frame")::("Beam","laid_rows")::("Beam","lost_pairs")::("Beam","row_taken")::("Beam","standing")::[]) [] []
set_option hygiene false
local macro_rules | `(tactic| walk_at "o") => `(tactic| first | with_reducible exact Ky | with_reducible exact q_addM | with_reducible exact J9 | with_reducible exact LI | with_reducible exact HK | with_reducible exact KH | with_reducible exact KQ | with_reducible exact Nu | with_reducible exact Nj | with_reducible exact MK | with_reducible exact Nr | with_reducible exact MM | with_reducible exact FA | with_reducible exact ML | with_reducible exact q_notin | with_reducible exact q_mulT | with_reducible exact q_inA | ((with_reducible show Q2 _ (compareOp .Eq) _); exact MT hr) | exact MZ hr)
local macro_rules | `(tactic| walk_at "c") => `(tactic| first | ((with_reducible refine L8 ?_); rfl) | ((with_reducible refine A5)) | ((with_reducible refine KD)) | ((with_reducible refine Kp)) | ((with_reducible refine q_listM)) | ((with_reducible refine GZ)) | ((with_reducible refine LZ ?_); rfl) | ((with_reducible refine LX ?_); rfl) | ((with_reducible refine BI)) | ((with_reducible refine zY)) | ((with_reducible refine Ew)))
local macro_rules | `(tactic| walk_at "b") => `(tactic| with_reducible first | exact Boot.«all» | exact Boot.«bool» | exact Boot.«divmod» | exact Boot.«enumerate» | exact Boot.«int» | exact Boot.«isinstance» | exact Boot.«len» | exact Boot.«list» | exact Boot.«max» | exact Boot.«min» | exact Boot.«range» | exact Boot.«sorted» | exact Boot.«tuple»)
local macro_rules | `(tactic| walk_at "E") => `(tactic| first
  | ((with_reducible show QE _ _ (ae _));exact qv _)
  | ((with_reducible show QE _ _ (gC _));first|exact IP|exact IC|exact Hn|exact KS)
  | ((with_reducible show QE _ _ (g2 aX _ _));refine LK ?_ ?_)
  | ((with_reducible show QE _ _ (g2 _ _ _));first|refine Lv (by walk_at "o") ?_ ?_|refine HS (by walk_at "o") ?_ ?_|refine qe_cmpI (by walk_at "o") ?_ ?_)
  | ((with_reducible show QE _ _ (aq _ _ _));refine LN (by assumption) hr ?_)
  | ((with_reducible show QE _ _ (aO _));refine Jn ?_)
  | ((with_reducible show QE _ _ (jj _ _));refine J5 (by first|exact .inl rfl|exact .inr (.inl rfl)|exact .inr (.inr (.inl rfl))|exact .inr (.inr (.inr (.inl rfl)))|exact .inr (.inr (.inr (.inr rfl)))) (by walk_at "b") (by rfl) (T.z _ (by decide +kernel)) (by rfl) (T.z _ (by decide +kernel)) ?_)
  | ((with_reducible show QE _ _ (aI _ _));first|refine J2 (by walk_at "c") (T.z _ (by decide +kernel)) (by walk_at "b") ?_|refine K5 (by walk_at "c") (by rfl) (T.z _ (by decide +kernel)) (by walk_at "b") ?_)
  | ((with_reducible show QE _ _ (lU _));refine GD ?_)
  | ((with_reducible show QE _ _ (jv _));refine HY ?_)
  | ((with_reducible show QE _ _ (mM _));refine HL ?_)
  | ((with_reducible show QE _ _ (wz _));refine GQ ?_)
  | ((with_reducible show QE _ _ (oZ _ _ _ _ _));refine Dt (by walk_at "o") (by walk_at "o") ?_ ?_ ?_)
  | ((with_reducible show QE _ _ (xi _ _ _));refine Lw ?_ ?_ ?_)
  | ((with_reducible show QE _ _ (oj _ _ _));refine Dy ?_ ?_ ?_)
  | ((with_reducible show QE _ _ (yd _));refine Ht rfl ?_)
  | ((with_reducible show QE _ _ (aY _ _ _ _));first|refine qe_compR (by assumption) (by kernel_rfl) (by first|exact .inl rfl|exact .inr rfl) ?_ ?_ ?_|refine BO (by kernel_rfl) (by first|exact .inl rfl|exact .inr rfl) ?_ ?_ ?_)
  | ((with_reducible show QE _ _ (bH _ _ _ _ _ _));refine Aj (by assumption) (by kernel_rfl) (by first|exact .inl rfl|exact .inr rfl) ?_ ?_ ?_ ?_ ?_)
  | ((with_reducible show QE _ _ (dm _ _ _));refine Fx (zo T.a _ _) ?_)
  | ((with_reducible show QE _ _ (eU _ _ _ _ _ ah));refine Dh (by assumption) hr ?_)
  | ((with_reducible show QE _ _ (eU _ _ _ _ _ _));refine Fz (by assumption) hr ?_ ?_)
  | ((with_reducible show QE _ _ (kH _ _ _ ah));refine qe_make0A (by assumption) hr)
  | ((with_reducible show QE _ _ (kH _ _ _ _));refine CF (by assumption) hr ?_)
  | ((with_reducible show QE _ _ (lQ _ _));refine zV ?_ ?_)
  | ((with_reducible show QE _ _ (jO _ _ _));refine Av hr ?_ ?_ ?_)
  | ((with_reducible show QE _ _ (wo));exact Ef)
  | ((with_reducible show QE _ _ (wl));exact EI)
  | ((with_reducible show QE _ _ (xZ _));refine Hg ?_)
  | ((with_reducible show QE _ _ (lW _ _));refine EY ?_)
  | ((with_reducible show QE _ _ (o4 _ _));refine Ek (px:="cover") (N:=["cover"]) (by assumption) (k:=0) (hr.mono (by decide)) (by rfl) (T.z _ (by decide +kernel)) (by walk_at "b") ⟨rfl,rfl,rfl,by decide +kernel,rfl,by decide +kernel,by decide +kernel⟩ ?_ fun _ _ _ _ _ _ _ hr=>?_))
local macro_rules | `(tactic| walk_at "S") => `(tactic| first
  | ((with_reducible show QS _ _ (aJ _));refine Jh ?_)
  | ((with_reducible show QS _ _ (dO _ _ _));refine LL ?_ ?_ ?_)
  | ((with_reducible show QS _ _ (aU _ (aY _ _ _ _)));first|refine qs_setCompR (by assumption) (by kernel_rfl) (by first|exact .inl rfl|exact .inr rfl) nd ?_ ?_ ?_|refine wj (by kernel_rfl) (by first|exact .inl rfl|exact .inr rfl) nd ?_ ?_ ?_|refine y8 _ nd ?_)
  | ((with_reducible show QS _ _ (aU _ (bH _ _ _ _ _ _)));first|refine u4 (by assumption) (by kernel_rfl) (by first|exact .inl rfl|exact .inr rfl) ?_ nd ?_ ?_ ?_ ?_|refine y8 _ nd ?_)
  | ((with_reducible show QS _ _ (aU _ _));refine Hv _ nd ?_)
  | ((with_reducible show QS _ _ (cP _ _));refine JB ?_ ?_)
  | ((with_reducible show QS _ _ (kN _ _ _));refine Ir PassesOwn.leaving ?_ ?_ ?_)
  | ((with_reducible show QS _ _ (cX _));refine EM ?_)
  | ((with_reducible show QS _ _ (lT _ _ _));refine Ho ?_ ?_ ?_)
  | ((with_reducible show QS _ _ (aM));first|exact qs_pass|exact qs_doc)
  | ((with_reducible show QS _ _ (tZ _ _ _));refine BS PassesOwn.leaving ?_ ?_)
  | ((with_reducible show QS _ _ (fo _ _));refine Ac (T.e _ (by decide +kernel)) ?_)
  | ((with_reducible show QS _ _ (xC _ _ _));refine IN nd ?_)
  | ((with_reducible show QS _ _ (fE _ _ _ _));first|refine Fu (zo T.a _ _) ?_ ?_|refine qs_fldCA (zo T.a _ _) ?_ ?_)
  | ((with_reducible show QS _ _ (E8 _ _ _ _));refine Gw (zo T.a _ _) ?_ ?_))
local macro_rules | `(tactic| walk_at "Q") => `(tactic| first
  | ((with_reducible show QE _ _ _);first|walk_at "E"|refine IJ ?_|refine IR ?_ ?_|refine KR ?_ ?_|refine qe_fstr1 ?_)
  | ((with_reducible show QA _ _ _);first|exact HR|refine MP ?_ ?_)
  | ((with_reducible show QT _ _ _);first
  | ((with_reducible show QT _ _ (aS (oZ _ _ _ _ _)));refine BC (by walk_at "o") (by walk_at "o") ?_ ?_ ?_)
  | ((with_reducible show QT _ _ (aS _));first|refine Iz (by walk_at "o") ?_ ?_|refine E6 (by walk_at "o") ?_ ?_)
  | ((with_reducible show QT _ _ (eL _));refine G6 ?_)
  | ((with_reducible show QT _ _ (f9 _));refine GJ ?_)
  | ((with_reducible show QT _ _ (iV _ _));refine Lo ?_)
  | ((with_reducible show QT _ _ (iM _ _));refine Lo ?_))
  | ((with_reducible show QB _ _ _);first|exact HU|refine Ja ?_|refine DU ?_ ?_)
  | ((with_reducible show QS _ _ _);walk_at "S")
  | ((with_reducible show QW _ _ _);first|refine ID ?_ ?_|refine K9 ?_ ?_|refine D8 ?_|refine Ia ?_)
  | ((with_reducible show QI _ _ _ _);first|((with_reducible show QI _ _ _ (fQ _));refine LS (by rfl) (T.z _ (by decide +kernel)) ?_)|((with_reducible show QI _ _ _ (gRng2 _));refine qi_r2 (by rfl) (T.z _ (by decide +kernel)) ?_)|((with_reducible show QI _ _ _ (lY _));refine EQ (by rfl) (T.z _ (by decide +kernel)) (by walk_at "b") ?_)|refine IL ?_)
  | ((with_reducible show QG _ _ _);first|exact qn _ nd|exact Of _ (by kernel_rfl)|refine HV ?_|refine E2 ?_)
  | ((with_reducible show Kb _ _ _);first|exact DP|refine K7 ?_ ?_)
  | ((with_reducible show L9 _ _ _);first|exact Em|refine Lg ?_ ?_)
  | ((with_reducible show QP _ _ _);first|exact Fd|refine EN ?_)
  | ((with_reducible show CC _ _ _ _ _ _);first|exact Ag|refine Af ?_)
  | ((with_reducible show QO _ _);first|exact qo_one _ _|exact Jp _|refine qo_tupG ?_)
  | ((with_reducible show QOs _ _);first|exact qos_nil|refine qos_c ?_ ?_)
  | ((with_reducible show QF _ _ _);first|exact HH|refine Nm ?_ ?_)
  | ((with_reducible show QD _ _ _ _ _);first|exact qd_nil|refine qd_c ?_)
  | intro _)
section
variable {P:Program}{w:World}{K:W.Frag}{mg:Str→Option Value}{base:Heap}
noncomputable def i9:GS:=(av (aU 2 (gC (.int 2305843009213693951))) (av (dO (aS (g2 oS (g2 aX (ae 0) (gC (.int 2))) (ae 1))) (av (aU 3 (gC (.int 0))) (av (dO (aS (g2 zc (aI bJ (aa (g2 aX (ae 0) (gC (.int 0))) ah)) (gC (.int 0)))) (aU 3 (g2 aX (g2 aX (ae 0) (gC (.int 0))) (g2 iC (g2 aX (ae 0) (gC (.int 1))) (aI bJ (aa (g2 aX (ae 0) (gC (.int 0))) ah))))) aM) (av (dO (iM (aS (g2 xp (g2 aX (ae 0) (gC (.int 1))) (aI bJ (aa (g2 aX (ae 0) (gC (.int 0))) ah)))) (aS (g2 oS (ae 3) (g2 rE (gC (.int 10)) (gC (.int 18)))))) (av (aU 3 (g2 iC (g2 bM (ae 3) (g2 fT (gC (.int 1000003)) (g2 aX (ae 0) (gC (.int 1))))) (ae 2))) (av (aU 3 (g2 iC (g2 bM (g2 bM (g2 fT (ae 3) (ae 3)) (g2 fT (gC (.int 1181783497276652981)) (ae 3))) (gC (.int 2049848353892358983))) (ae 2))) (aU 3 (g2 iC (g2 bM (g2 fT (ae 3) (ae 3)) (gC (.int 1442695040888963407))) (ae 2))))) aM) (av (lT (ae 0) (gC (.int 1)) (g2 bM (g2 aX (ae 0) (gC (.int 1))) (gC (.int 1)))) (lT (ae 0) (gC (.int 2)) (ae 3)))))) aM) (av (aU 4 (g2 iC (g2 aX (ae 0) (gC (.int 2))) (ae 1))) (av (lT (ae 0) (gC (.int 2)) (g2 iR (g2 aX (ae 0) (gC (.int 2))) (ae 1))) (aJ (ae 4))))))
noncomputable def az:FD:=a9 3 i9
theorem bK (T:TX P w K mg base):Ok P w K mg base "_law_draw" 1 2 az:=cp (cj T.f 0 rfl) ["tape","many","prime","cell","found"] aQ rfl fun f _ A _ s H E nd hr=>by delta i9;repeat' walk_at "Q"
noncomputable def kY:GS:=(aJ (g2 bM (gC (.int 1)) (g2 aX (lU (aa (aq 2 az (aa (ae 0) (aa (aI o8 (aa (ae 1) (aa (gC (.int 6)) ah))) ah))) (aa (aq 2 az (aa (ae 0) (aa (ae 1) ah))) (aa (g2 fq (ae 1) (gC (.int 1))) ah)))) (g2 iR (g2 fT (aq 2 az (aa (ae 0) (aa (gC (.int 8)) ah))) (gC (.int 3))) (gC (.int 10))))))
noncomputable def dR:FD:=a9 0 kY
theorem nu (T:TX P w K mg base):Ok P w K mg base "_law_size" 2 2 dR:=cp (cj T.f 1 rfl) ["tape","most"] aQ rfl fun f _ A _ s H E nd hr=>by have:=bK T;delta kY;repeat' walk_at "Q"
noncomputable def kj:GS:=(av (aU 2 (g2 aX (lU (aa (gC (.int 0)) (aa (aq 2 az (aa (ae 0) (aa (gC (.int 21)) ah))) ah))) (aq 2 az (aa (ae 0) (aa (gC (.int 2)) ah))))) (aJ (aO (aa (aq 2 dR (aa (ae 0) (aa (ae 1) ah))) (aa (aq 2 dR (aa (ae 0) (aa (ae 1) ah))) (aa (ae 2) (aa (aq 2 az (aa (ae 0) (aa (gC (.int 13)) ah))) ah)))))))
noncomputable def h8:FD:=a9 1 kj
theorem rV (T:TX P w K mg base):Ok P w K mg base "_law_frame" 3 2 h8:=cp (cj T.f 2 rfl) ["tape","most","gap"] aQ rfl fun f _ A _ s H E nd hr=>by have:=bK T;have:=nu T;delta kj;repeat' walk_at "Q"
noncomputable def fN:GE:=(g2 fT (aq 2 az (aa (ae 1) (aa (gC (.int 16)) ah))) (aI yo (aa (g2 zc (aq 2 az (aa (ae 1) (aa (ae 3) ah))) (gC (.int 0))) ah)))
noncomputable def lh:GS:=(aJ (aI dS (aa (aY (fQ (aa (ae 1) ah)) bL fN aF) ah)))
noncomputable def ja:FD:=a9 0 lh
theorem uQ (T:TX P w K mg base):Ok P w K mg base "_law_inks" 2 3 ja:=cp (cj T.f 3 rfl) ["tape","wide","thin"] aQ rfl fun f _ A _ s H E nd hr=>by have:=bK T;delta lh fN;repeat' walk_at "Q"
noncomputable def gF:GE:=(aq 3 ja (aa (ae 1) (aa (ae 3) (aa (ae 4) ah))))
noncomputable def kz:GS:=(av (aU 2 (aq 2 dR (aa (ae 0) (aa (ae 1) ah)))) (av (aU 3 (g2 bM (gC (.int 1)) (aq 2 az (aa (ae 0) (aa (gC (.int 4)) ah))))) (aJ (aI dS (aa (aY (fQ (aa (aq 2 dR (aa (ae 0) (aa (ae 1) ah))) ah)) bL gF aF) ah)))))
noncomputable def eB:FD:=a9 2 kz
theorem rM (T:TX P w K mg base):Ok P w K mg base "_law_inked" 3 2 eB:=cp (cj T.f 4 rfl) ["tape","most","wide","thin"] aQ rfl fun f _ A _ s H E nd hr=>by have:=bK T;have:=nu T;have:=uQ T;delta kz gF;repeat' walk_at "Q"
noncomputable def mT:GS:=(aJ (g2 aX (lU (aa (g2 fq (aq 2 az (aa (ae 0) (aa (g2 bM (ae 1) (gC (.int 16))) ah))) (gC (.int 8))) (aa (g2 fq (aq 2 az (aa (ae 0) (aa (gC (.int 2001)) ah))) (gC (.int 1000))) ah))) (g2 iR (aq 2 az (aa (ae 0) (aa (gC (.int 8)) ah))) (gC (.int 7)))))
noncomputable def cq:FD:=a9 0 mT
theorem lq (T:TX P w K mg base):Ok P w K mg base "_law_far" 2 2 cq:=cp (cj T.f 5 rfl) ["tape","size"] aQ rfl fun f _ A _ s H E nd hr=>by have:=bK T;delta mT;repeat' walk_at "Q"
noncomputable def fU:GS:=(av (aU 3 (gC .non)) (av (dO (iV (aS (g2 zc (ae 2) (gC (.int 0)))) (aS (g2 zc (aq 2 az (aa (ae 0) (aa (gC (.int 8)) ah))) (gC (.int 0))))) (aU 3 (aq 2 az (aa (ae 0) (aa (ae 2) ah)))) aM) (aJ (aO (aa (ae 3) (aa (aq 2 cq (aa (ae 0) (aa (g2 aX (ae 1) (gC (.int 0))) ah))) (aa (aq 2 cq (aa (ae 0) (aa (g2 aX (ae 1) (gC (.int 1))) ah))) (aa (aq 2 az (aa (ae 0) (aa (gC (.int 4)) ah))) (aa (aq 2 az (aa (ae 0) (aa (gC (.int 4)) ah))) ah)))))))))
noncomputable def dj:FD:=a9 1 fU
theorem l7 (T:TX P w K mg base):Ok P w K mg base "_law_mover" 3 3 dj:=cp (cj T.f 6 rfl) ["tape","frame","shapes","shape"] aQ rfl fun f _ A _ s H E nd hr=>by have:=bK T;have:=lq T;delta fU;repeat' walk_at "Q"
noncomputable def gJ:GE:=(aq 2 eB (aa (ae 1) (aa (gC (.int 8)) ah)))
noncomputable def gE:GE:=(aq 3 dj (aa (ae 1) (aa (ae 2) (aa (aI bJ (aa (ae 7) ah)) ah))))
noncomputable def gD:GE:=(aq 2 az (aa (ae 1) (aa (gC (.int 64)) ah)))
noncomputable def kx:GS:=(av (aU 3 (aq 2 eB (aa (ae 0) (aa (gC (.int 16)) ah)))) (av (aU 4 (aO (aa (aq 2 cq (aa (ae 0) (aa (gC (.int 9)) ah))) (aa (aq 2 cq (aa (ae 0) (aa (gC (.int 9)) ah))) ah)))) (av (aU 5 (g2 aX (lU (aa (aq 2 az (aa (ae 0) (aa (gC (.int 4)) ah))) (aa (aq 2 az (aa (ae 0) (aa (gC (.int 9)) ah))) ah))) (g2 iR (aq 2 az (aa (ae 0) (aa (gC (.int 4)) ah))) (gC (.int 3))))) (av (aU 6 (aI dS (aa (aY (fQ (aa (ae 5) ah)) bL gJ aF) ah))) (av (aU 7 (aI dS (aa (aY (fQ (aa (aq 2 az (aa (ae 0) (aa (g2 bM (ae 2) (gC (.int 1))) ah))) ah)) bL gE aF) ah))) (aJ (aO (aa (ae 3) (aa (ae 4) (aa (ae 6) (aa (ae 7) (aa (aI dS (aa (aY (fQ (aa (gC (.int 16)) ah)) bL gD aF) ah)) ah))))))))))))
noncomputable def ig:FD:=a9 5 kx
theorem rO (T:TX P w K mg base):Ok P w K mg base "_law_stand" 4 3 ig:=cp (cj T.f 7 rfl) ["tape","frame","movers_most","floor","shift","shapes","book","movers"] aQ rfl fun f _ A _ s H E nd hr=>by have:=bK T;have:=rM T;have:=lq T;have:=l7 T;delta kx gJ gE gD;repeat' walk_at "Q"
noncomputable def du:GE:=(aI ji (aa (ae 0) ah))
noncomputable def fR:GS:=(aJ (aY (bG (dm "Beam" "laid_rows" (ae 0))) bL du aF))
noncomputable def fV:FD:=a9 0 fR
theorem pp (T:TX P w K mg base):Om P w K mg base "Beam" "picture" 1 1 fV:=qT (qY T.m 0 rfl) ["self"] aQ rfl fun f _ A _ s H E nd hr=>by delta fR du;repeat' walk_at "Q"
noncomputable def fA:GS:=(av (aU 3 (aq 2 az (aa (ae 0) (aa (gC (.int 8)) ah)))) (av (dO (iM (aS (g2 oS (ae 3) (gC (.int 2)))) (aS (g2 (a7 false) (g2 aX (ae 2) (gC (.int 3))) (aO ah)))) (av (aU 4 (lU (aa (aO (aa (gC (.str "shift")) (aa (aq 2 cq (aa (ae 0) (aa (gC (.int 9)) ah))) (aa (aq 2 cq (aa (ae 0) (aa (gC (.int 9)) ah))) ah)))) (aa (aO (aa (gC (.str "pot")) (aa (aq 2 az (aa (ae 0) (aa (gC (.int 16)) ah))) (aa (aq 2 az (aa (ae 0) (aa (gC (.int 64)) ah))) ah)))) ah)))) (aJ (g2 aX (ae 4) (g2 iC (ae 3) (gC (.int 2)))))) aM) (av (aU 5 (aq 2 az (aa (ae 0) (aa (aI bJ (aa (g2 aX (ae 2) (gC (.int 3))) ah)) ah)))) (av (aU 6 (aq 3 dj (aa (ae 0) (aa (ae 1) (aa (aI bJ (aa (g2 aX (ae 2) (gC (.int 2))) ah)) ah))))) (av (dO (aS (g2 oS (ae 3) (gC (.int 5)))) (aJ (aO (aa (gC (.str "move")) (aa (ae 5) (aa (g2 aX (ae 6) (gC (.int 1))) (aa (g2 aX (ae 6) (gC (.int 2))) ah)))))) aM) (aJ (g2 aX (lU (aa (aO (aa (gC (.str "shape")) (aa (ae 5) (aa (g2 aX (ae 6) (gC (.int 0))) ah)))) (aa (aO (aa (gC (.str "rank")) (aa (ae 5) (aa (g2 aX (ae 6) (gC (.int 3))) ah)))) (aa (aO (aa (gC (.str "turn")) (aa (ae 5) (aa (g2 aX (ae 6) (gC (.int 4))) ah)))) ah)))) (g2 fq (ae 3) (gC (.int 5))))))))))
noncomputable def dZ:FD:=a9 4 fA
theorem u6 (T:TX P w K mg base):Ok P w K mg base "_law_deed" 4 3 dZ:=cp (cj T.f 8 rfl) ["tape","frame","stand","way","some","number","mover"] aQ rfl fun f _ A _ s H E nd hr=>by have:=bK T;have:=lq T;have:=l7 T;delta fA;repeat' walk_at "Q"
noncomputable def eZ:GE:=(aO (aa (aq 2 az (aa (ae 1) (aa (ae 5) ah))) (aa (aq 3 dZ (aa (ae 1) (aa (ae 2) (aa (ae 3) ah)))) ah)))
noncomputable def eR:GE:=(aO (aa (g2 aX (g2 aX (ae 6) (ae 0)) (gC (.int 0))) (aa (ae 0) ah)))
noncomputable def gP:GE:=(g2 aX (ae 7) (ae 1))
noncomputable def ie:GS:=(av (aU 4 (g2 fT (g2 aX (ae 1) (gC (.int 1))) (g2 bM (g2 aX (ae 1) (gC (.int 0))) (g2 aX (ae 1) (gC (.int 2)))))) (av (aU 5 (aY (fQ (aa (aq 2 az (aa (ae 0) (aa (g2 bM (ae 3) (gC (.int 1))) ah))) ah)) bL eZ aF)) (av (aU 6 (aI rg (aa (aY (fQ (aa (aI bJ (aa (ae 5) ah)) ah)) bL eR aF) ah))) (aJ (bH (bG (ae 6)) 2 (bh [0,1]) bL gP aF)))))
noncomputable def ib:FD:=a9 3 ie
theorem rW (T:TX P w K mg base):Ok P w K mg base "_law_timed" 5 4 ib:=cp (cj T.f 9 rfl) ["tape","frame","stand","most","ticks","found","places"] aQ rfl fun f _ A _ s H E nd hr=>by have:=bK T;have:=u6 T;have:=rn 330 11 ["tick","k"] ["tape","frame","stand","most","ticks","found","places"];delta ie eZ eR gP;repeat' walk_at "Q"
noncomputable def mK:GS:=(aJ (eC (jj "int" (ae 0)) (wz (aS (jj "bool" (ae 0))))))
noncomputable def jX:FD:=a9 0 mK
theorem xf (T:TX P w K mg base):Ok P w K mg base "is_whole" 1 1 jX:=cp (cj T.f 10 rfl) ["thing"] aQ rfl fun f _ A _ s H E nd hr=>by delta mK;repeat' walk_at "Q"
noncomputable def k9:GS:=(aJ (eC (aq 1 jX (aa (ae 0) ah)) (oZ nP nP (ae 1) (ae 0) (ae 2))))
noncomputable def bp:FD:=a9 0 k9
theorem cH (T:TX P w K mg base):Ok P w K mg base "is_within" 2 3 bp:=cp (cj T.f 11 rfl) ["thing","low","high"] aQ rfl fun f _ A _ s H E nd hr=>by have:=xf T;delta k9;repeat' walk_at "Q"
noncomputable def ky:GS:=(av (dO (iM (eL (f9 (jj "tuple" (ae 0)))) (aS (g2 (a7 true) (aI bJ (aa (ae 0) ah)) (gC (.int 4))))) (aJ (gC (.bl false))) aM) (av (cP (bh [1,2,3,4]) (ae 0)) (aJ (eC (aq 3 bp (aa (ae 1) (aa (gC (.int 1)) (aa (gC (.int 40)) ah)))) (eC (aq 3 bp (aa (ae 2) (aa (gC (.int 1)) (aa (gC (.int 40)) ah)))) (eC (aq 3 bp (aa (ae 3) (aa (gC (.int 0)) (aa (gC (.int 20)) ah)))) (aq 3 bp (aa (ae 4) (aa (gC (.int 0)) (aa (gC (.int 12)) ah))))))))))
noncomputable def mD:FD:=a9 4 ky
theorem xj (T:TX P w K mg base):Ok P w K mg base "is_frame" 3 1 mD:=cp (cj T.f 12 rfl) ["thing","wide","high","gap","most"] aQ rfl fun f _ A _ s H E nd hr=>by have:=cH T;delta ky;repeat' walk_at "Q"
noncomputable def qq:GS:=(aJ (aq 3 bp (aa (ae 0) (aa (gC (.int 0)) (aa (gC (.int 15)) ah)))))
noncomputable def jH:FD:=a9 0 qq
theorem sY (T:TX P w K mg base):Ok P w K mg base "is_ink" 3 1 jH:=cp (cj T.f 13 rfl) ["thing"] aQ rfl fun f _ A _ s H E nd hr=>by have:=cH T;delta qq;repeat' walk_at "Q"
noncomputable def gL:GE:=(aq 1 jH (aa (ae 0) ah))
noncomputable def ij:GS:=(aJ (eC (jj "tuple" (ae 0)) (aI kI (aa (aY (bG (ae 0)) bL gL aF) ah))))
noncomputable def jV:FD:=a9 0 ij
theorem rQ (T:TX P w K mg base):Ok P w K mg base "is_ink_row" 4 1 jV:=cp (cj T.f 14 rfl) ["thing"] aQ rfl fun f _ A _ s H E nd hr=>by have:=sY T;delta ij gL;repeat' walk_at "Q"
noncomputable def e9:GE:=(aq 1 jV (aa (ae 0) ah))
noncomputable def dC:GE:=(g2 (a7 false) (aI bJ (aa (ae 0) ah)) (ae 3))
noncomputable def fJ:GS:=(av (dO (iM (eL (f9 (jj "tuple" (ae 0)))) (eL (aS (oZ nP nP (gC (.int 1)) (aI bJ (aa (ae 0) ah)) (ae 1))))) (aJ (gC (.bl false))) aM) (av (dO (eL (f9 (aI kI (aa (aY (bG (ae 0)) bL e9 aF) ah)))) (aJ (gC (.bl false))) aM) (av (aU 2 (aI bJ (aa (g2 aX (ae 0) (gC (.int 0))) ah))) (aJ (eC (oZ nP nP (gC (.int 1)) (ae 2) (ae 1)) (aI kI (aa (aY (bG (ae 0)) bL dC aF) ah)))))))
noncomputable def fH:FD:=a9 1 fJ
theorem kG (T:TX P w K mg base):Ok P w K mg base "is_ink_block" 5 2 fH:=cp (cj T.f 15 rfl) ["thing","most","length"] aQ rfl fun f _ A _ s H E nd hr=>by have:=rQ T;delta fJ e9 dC;repeat' walk_at "Q"
noncomputable def ke:GS:=(aJ (aq 2 fH (aa (ae 0) (aa (gC (.int 8)) ah))))
noncomputable def mR:FD:=a9 0 ke
theorem wd (T:TX P w K mg base):Ok P w K mg base "is_shape" 6 1 mR:=cp (cj T.f 16 rfl) ["thing"] aQ rfl fun f _ A _ s H E nd hr=>by have:=kG T;delta ke;repeat' walk_at "Q"
noncomputable def kA:GE:=(aq 1 mR (aa (ae 0) ah))
noncomputable def lH:GS:=(aJ (eC (jj "tuple" (ae 0)) (eC (g2 nP (aI bJ (aa (ae 0) ah)) (gC (.int 8))) (aI kI (aa (aY (bG (ae 0)) bL kA aF) ah)))))
noncomputable def oB:FD:=a9 0 lH
theorem xA (T:TX P w K mg base):Ok P w K mg base "is_book" 7 1 oB:=cp (cj T.f 17 rfl) ["thing"] aQ rfl fun f _ A _ s H E nd hr=>by have:=wd T;delta lH kA;repeat' walk_at "Q"
noncomputable def fW:GS:=(aJ (JL (g2 (mU false) (ae 1) (gC .non)) (aq 3 bp (aa (ae 1) (aa (gC (.int 0)) (aa (g2 fq (aI bJ (aa (ae 0) ah)) (gC (.int 1))) ah))))))
noncomputable def bQ:FD:=a9 0 fW
theorem iJ (T:TX P w K mg base):Ok P w K mg base "is_shape_number" 3 2 bQ:=cp (cj T.f 18 rfl) ["book","thing"] aQ rfl fun f _ A _ s H E nd hr=>by have:=cH T;delta fW;repeat' walk_at "Q"
noncomputable def ej:GE:=(aq 3 bp (aa (ae 0) (aa (mM (gC (.int 1000))) (aa (gC (.int 1000)) ah))))
noncomputable def dn:GS:=(aJ (eC (jj "tuple" (ae 0)) (eC (g2 (a7 false) (aI bJ (aa (ae 0) ah)) (gC (.int 2))) (aI kI (aa (aY (bG (ae 0)) bL ej aF) ah)))))
noncomputable def aV:FD:=a9 0 dn
theorem d7 (T:TX P w K mg base):Ok P w K mg base "is_place_pair" 3 1 aV:=cp (cj T.f 19 rfl) ["thing"] aQ rfl fun f _ A _ s H E nd hr=>by have:=cH T;delta dn ej;repeat' walk_at "Q"
noncomputable def nW:GS:=(aJ (aq 3 bp (aa (ae 0) (aa (gC (.int 0)) (aa (gC (.int 3)) ah)))))
noncomputable def io:FD:=a9 0 nW
theorem qB (T:TX P w K mg base):Ok P w K mg base "is_rank" 3 1 io:=cp (cj T.f 20 rfl) ["thing"] aQ rfl fun f _ A _ s H E nd hr=>by have:=cH T;delta nW;repeat' walk_at "Q"
noncomputable def og:GS:=(aJ (aq 3 bp (aa (ae 0) (aa (gC (.int 0)) (aa (gC (.int 3)) ah)))))
noncomputable def iu:FD:=a9 0 og
theorem qQ (T:TX P w K mg base):Ok P w K mg base "is_turn" 3 1 iu:=cp (cj T.f 21 rfl) ["thing"] aQ rfl fun f _ A _ s H E nd hr=>by have:=cH T;delta og;repeat' walk_at "Q"
noncomputable def jS:GS:=(av (dO (iM (eL (f9 (jj "tuple" (ae 1)))) (aS (g2 (a7 true) (aI bJ (aa (ae 1) ah)) (gC (.int 5))))) (aJ (gC (.bl false))) aM) (av (cP (bh [2,3,4,5,6]) (ae 1)) (aJ (eC (aq 2 bQ (aa (ae 0) (aa (ae 2) ah))) (eC (aq 1 aV (aa (aO (aa (ae 3) (aa (ae 4) ah))) ah)) (eC (aq 1 io (aa (ae 5) ah)) (aq 1 iu (aa (ae 6) ah))))))))
noncomputable def my:FD:=a9 5 jS
theorem vS (T:TX P w K mg base):Ok P w K mg base "is_mover" 4 2 my:=cp (cj T.f 22 rfl) ["book","thing","shape","x","y","rank","turn"] aQ rfl fun f _ A _ s H E nd hr=>by have:=iJ T;have:=d7 T;have:=qB T;have:=qQ T;delta jS;repeat' walk_at "Q"
noncomputable def gM:GE:=(aq 2 my (aa (ae 1) (aa (ae 0) ah)))
noncomputable def hO:GS:=(aJ (eC (jj "tuple" (ae 1)) (eC (g2 nP (aI bJ (aa (ae 1) ah)) (gC (.int 12))) (aI kI (aa (aY (bG (ae 1)) bL gM aF) ah)))))
noncomputable def ka:FD:=a9 0 hO
theorem rG (T:TX P w K mg base):Ok P w K mg base "are_movers" 5 2 ka:=cp (cj T.f 23 rfl) ["book","thing"] aQ rfl fun f _ A _ s H E nd hr=>by have:=vS T;delta hO gM;repeat' walk_at "Q"
noncomputable def qW:GS:=(aJ (aq 3 bp (aa (ae 0) (aa (gC (.int 0)) (aa (gC (.int 63)) ah)))))
noncomputable def jz:FD:=a9 0 qW
theorem sZ (T:TX P w K mg base):Ok P w K mg base "is_hue" 3 1 jz:=cp (cj T.f 24 rfl) ["thing"] aQ rfl fun f _ A _ s H E nd hr=>by have:=cH T;delta qW;repeat' walk_at "Q"
noncomputable def jb:GE:=(aq 1 jz (aa (ae 0) ah))
noncomputable def jL:GS:=(aJ (eC (jj "tuple" (ae 0)) (eC (g2 (a7 false) (aI bJ (aa (ae 0) ah)) (gC (.int 16))) (aI kI (aa (aY (bG (ae 0)) bL jb aF) ah)))))
noncomputable def mq:FD:=a9 0 jL
theorem vE (T:TX P w K mg base):Ok P w K mg base "are_pots" 4 1 mq:=cp (cj T.f 25 rfl) ["thing"] aQ rfl fun f _ A _ s H E nd hr=>by have:=sZ T;delta jL jb;repeat' walk_at "Q"
noncomputable def jR:GS:=(av (dO (iM (eL (f9 (jj "tuple" (ae 0)))) (aS (g2 (a7 true) (aI bJ (aa (ae 0) ah)) (gC (.int 5))))) (aJ (gC (.bl false))) aM) (av (cP (bh [1,2,3,4,5]) (ae 0)) (av (dO (eL (iV (f9 (aq 2 fH (aa (ae 1) (aa (gC (.int 16)) ah)))) (iV (f9 (aq 1 aV (aa (ae 2) ah))) (f9 (aq 1 mq (aa (ae 5) ah)))))) (aJ (gC (.bl false))) aM) (aJ (eC (aq 1 oB (aa (ae 3) ah)) (aq 2 ka (aa (ae 3) (aa (ae 4) ah))))))))
noncomputable def mO:FD:=a9 5 jR
theorem ww (T:TX P w K mg base):Ok P w K mg base "is_stand" 8 1 mO:=cp (cj T.f 26 rfl) ["thing","floor","shift","book","movers","pots"] aQ rfl fun f _ A _ s H E nd hr=>by have:=kG T;have:=xA T;have:=d7 T;have:=rG T;have:=vE T;delta jR;repeat' walk_at "Q"
noncomputable def gN:GS:=(av (dO (eL (f9 (aq 1 mD (aa (ae 0) ah)))) (fo "NoFrame" (gC (.str "that is no frame"))) aM) (dO (eL (f9 (aq 1 mO (aa (ae 1) ah)))) (fo "NoStand" (gC (.str "that is no stand"))) aM))
noncomputable def bN:FD:=a9 0 gN
theorem kU (T:TX P w K mg base):Ok P w K mg base "check_begin" 9 2 bN:=cp (cj T.f 27 rfl) ["frame","stand"] aQ rfl fun f _ A _ s H E nd hr=>by have:=xj T;have:=ww T;delta gN;repeat' walk_at "Q"
noncomputable def oT:GS:=(av (cP (bh [1,2,3,4]) (ae 0)) (aJ (g2 bM (ae 1) (ae 3))))
noncomputable def iW:FD:=a9 4 oT
theorem nB (T:TX P w K mg base):Ok P w K mg base "row_ticks" 1 1 iW:=cp (cj T.f 28 rfl) ["frame","wide","high","gap","most"] aQ rfl fun f _ A _ s H E nd hr=>by delta oT;repeat' walk_at "Q"
noncomputable def jM:GS:=(av (cP (bh [1,2,3,4]) (ae 0)) (aJ (g2 fT (ae 2) (aq 1 iW (aa (ae 0) ah)))))
noncomputable def bV:FD:=a9 4 jM
theorem gT (T:TX P w K mg base):Ok P w K mg base "ticks_of" 2 1 bV:=cp (cj T.f 29 rfl) ["frame","wide","high","gap","most"] aQ rfl fun f _ A _ s H E nd hr=>by have:=nB T;delta jM;repeat' walk_at "Q"
noncomputable def jq:GE:=(ae 0)
noncomputable def jm:GE:=(oZ nP oS (gC (.int 0)) (ae 0) (aq 1 bV (aa (ae 1) ah)))
noncomputable def g9:GS:=(av (aU 2 (bH (bG (ae 1)) 2 (bh [0,1]) bL jq aF)) (aJ (eC (g2 (a7 false) (ae 2) (aI pT (aa (ae 2) ah))) (aI kI (aa (aY (bG (ae 2)) bL jm aF) ah)))))
noncomputable def il:FD:=a9 1 g9
theorem rT (T:TX P w K mg base):Ok P w K mg base "ticks_hold" 3 2 il:=cp (cj T.f 30 rfl) ["frame","timed","ticks"] aQ rfl fun f _ A _ s H E nd hr=>by have:=gT T;have:=rn 259 12 ["tick","deed"] ["frame","timed","ticks"];delta g9 jq jm;repeat' walk_at "Q"
noncomputable def fc:GS:=(av (cP (bh [3,4,5,6,7]) (ae 0)) (av (dO (eL (f9 (aq 3 bp (aa (g2 aX (ae 2) (gC (.int 0))) (aa (gC (.int 0)) (aa (g2 fq (aI bJ (aa (ae 6) ah)) (gC (.int 1))) ah)))))) (aJ (gC (.bl false))) aM) (av (dO (aS (g2 (a7 false) (ae 1) (gC (.str "move")))) (aJ (aq 1 aV (aa (oj (ae 2) (dg (gC (.int 1))) bq) ah))) aM) (av (dO (aS (g2 (a7 true) (aI bJ (aa (ae 2) ah)) (gC (.int 2)))) (aJ (gC (.bl false))) aM) (av (dO (aS (g2 (a7 false) (ae 1) (gC (.str "shape")))) (aJ (aq 2 bQ (aa (ae 5) (aa (g2 aX (ae 2) (gC (.int 1))) ah)))) aM) (av (dO (aS (g2 (a7 false) (ae 1) (gC (.str "rank")))) (aJ (aq 1 io (aa (g2 aX (ae 2) (gC (.int 1))) ah))) aM) (aJ (eC (g2 (a7 false) (ae 1) (gC (.str "turn"))) (aq 1 iu (aa (g2 aX (ae 2) (gC (.int 1))) ah))))))))))
noncomputable def ff:FD:=a9 5 fc
theorem nY (T:TX P w K mg base):Ok P w K mg base "is_mover_deed" 4 3 ff:=cp (cj T.f 31 rfl) ["stand","word","parts","floor","shift","book","movers","pots"] aQ rfl fun f _ A _ s H E nd hr=>by have:=cH T;have:=iJ T;have:=d7 T;have:=qB T;have:=qQ T;delta fc;repeat' walk_at "Q"
noncomputable def sX:GS:=(av (dO (iM (eL (f9 (jj "tuple" (ae 1)))) (aS (g2 oS (aI bJ (aa (ae 1) ah)) (gC (.int 3))))) (aJ (gC (.bl false))) aM) (av (xC 2 3 (aa (g2 aX (ae 1) (gC (.int 0))) (aa (oj (ae 1) (dg (gC (.int 1))) bq) ah))) (av (dO (aS (g2 (a7 false) (ae 2) (gC (.str "shift")))) (aJ (aq 1 aV (aa (ae 3) ah))) aM) (av (dO (aS (g2 (a7 false) (ae 2) (gC (.str "pot")))) (aJ (eC (g2 (a7 false) (aI bJ (aa (ae 3) ah)) (gC (.int 2))) (eC (aq 1 jH (aa (g2 aX (ae 3) (gC (.int 0))) ah)) (aq 1 jz (aa (g2 aX (ae 3) (gC (.int 1))) ah))))) aM) (aJ (aq 3 ff (aa (ae 0) (aa (ae 2) (aa (ae 3) ah)))))))))
noncomputable def bR:FD:=a9 2 sX
theorem qu (T:TX P w K mg base):Ok P w K mg base "is_deed" 5 2 bR:=cp (cj T.f 32 rfl) ["stand","thing","word","parts"] aQ rfl fun f _ A _ s H E nd hr=>by have:=sY T;have:=d7 T;have:=sZ T;have:=nY T;delta sX;repeat' walk_at "Q"
noncomputable def eY:GE:=(aq 2 bR (aa (ae 3) (aa (ae 1) ah)))
noncomputable def ii:GS:=(av (cX (aq 2 bN (aa (ae 0) (aa (ae 1) ah)))) (av (dO (eL (f9 (aq 2 il (aa (ae 0) (aa (ae 2) ah))))) (fo "NoTick" (gC (.str "a tick isn't one of the frame, or is less than the one ahead"))) aM) (dO (eL (f9 (aI kI (aa (bH (bG (ae 2)) 2 (bh [0,1]) bL eY aF) ah)))) (fo "NoDeed" (gC (.str "there is no such deed of the stand"))) aM)))
noncomputable def ki:FD:=a9 0 ii
theorem rR (T:TX P w K mg base):Ok P w K mg base "check_plan" 10 3 ki:=cp (cj T.f 33 rfl) ["frame","stand","timed"] aQ rfl fun f _ A _ s H E nd hr=>by have:=kU T;have:=rT T;have:=qu T;have:=rn 265 15 ["tick","deed"] ["frame","stand","timed"];delta ii eY;repeat' walk_at "Q"
noncomputable def fg:GS:=(av (cX (aq 2 bN (aa (ae 1) (aa (ae 2) ah)))) (av (fE "Beam" "frame" (ae 0) (ae 1)) (av (fE "Beam" "standing" (ae 0) (ae 2)) (av (fE "Beam" "ahead" (ae 0) (gC (.int 0))) (av (fE "Beam" "row_taken" (ae 0) (aO (aa (aO ah) (aa (aO ah) ah)))) (av (fE "Beam" "laid_rows" (ae 0) (jv ah)) (av (fE "Beam" "first_touches" (ae 0) wl) (av (fE "Beam" "first_grounds" (ae 0) wo) (fE "Beam" "lost_pairs" (ae 0) (jv ah))))))))))
noncomputable def fj:FD:=a9 0 fg
theorem n6 (T:TX P w K mg base):Om P w K mg base "Beam" "__init__" 10 3 fj:=qT (qY T.m 1 rfl) ["self","frame","stand"] aQ rfl fun f _ A _ s H E nd hr=>by have:=kU T;delta fg;repeat' walk_at "Q"
noncomputable def mS:GS:=(av (dO (iM (aS (g2 oS (ae 1) (gC (.int 0)))) (aS (g2 xp (ae 1) (aq 1 bV (aa (ae 0) ah))))) (fo "NoTick" (lW [(gC (.str "the frame has no tick ")),(xZ (ae 1))] Str.empty)) aM) (av (cP (bh [2,3,4,5]) (ae 0)) (av (cP (bh [6,7]) (aI yD (aa (ae 1) (aa (aq 1 iW (aa (ae 0) ah)) ah)))) (av (dO (aS (g2 xp (ae 7) (ae 2))) (aJ (aO (aa (ae 6) (aa (gC .non) ah)))) aM) (aJ (aO (aa (ae 6) (aa (ae 7) ah))))))))
noncomputable def gk:FD:=a9 6 mS
theorem v7 (T:TX P w K mg base):Ok P w K mg base "place_of" 3 2 gk:=cp (cj T.f 34 rfl) ["frame","tick","wide","high","gap","most","row","spot"] aQ rfl fun f _ A _ s H E nd hr=>by have:=nB T;have:=gT T;delta mS;repeat' walk_at "Q"
noncomputable def mE:GS:=(av (dO (iM (aS (g2 oS (ae 2) (gC (.int 0)))) (aS (g2 xp (ae 2) (aI bJ (aa (ae 0) ah))))) (aJ (aO ah)) aM) (av (aU 3 (xi (aS (g2 (pS false) (ae 1) (aO (aa (gC (.int 2)) (aa (gC (.int 3)) ah))))) (g2 aX (ae 0) (g2 fq (g2 fq (aI bJ (aa (ae 0) ah)) (gC (.int 1))) (ae 2))) (g2 aX (ae 0) (ae 2)))) (aJ (xi (aS (g2 (pS false) (ae 1) (aO (aa (gC (.int 1)) (aa (gC (.int 3)) ah))))) (yd (ae 3)) (ae 3)))))
noncomputable def jU:FD:=a9 1 mE
theorem vq (T:TX P w K mg base):Ok P w K mg base "strip_of" 1 3 jU:=cp (cj T.f 35 rfl) ["shape","turn","row","strip"] aQ rfl fun f _ A _ s H E nd hr=>by delta mE;repeat' walk_at "Q"
noncomputable def jp:GS:=(av (cP (bh [3,4,5,6,7]) (ae 0)) (av (cP (bh [8,9,10,11,12]) (g2 aX (ae 6) (ae 1))) (aJ (aO (aa (ae 1) (aa (ae 9) (aa (ae 11) (aa (aq 3 jU (aa (g2 aX (ae 5) (ae 8)) (aa (ae 12) (aa (g2 fq (ae 2) (ae 10)) ah)))) ah))))))))
noncomputable def gO:FD:=a9 10 jp
theorem qh (T:TX P w K mg base):Ok P w K mg base "strip_taken" 2 3 gO:=cp (cj T.f 36 rfl) ["stand","number","row","floor","shift","book","movers","pots","shape","x","y","rank","turn"] aQ rfl fun f _ A _ s H E nd hr=>by have:=vq T;delta jp;repeat' walk_at "Q"
noncomputable def gG:GE:=(g2 aX (ae 14) (g2 iC (g2 bM (ae 0) (ae 9)) (aI bJ (aa (ae 14) ah))))
noncomputable def jP:GS:=(av (cP (bh [3,4,5,6]) (ae 0)) (av (cP (rA [(gn 7),(bh [8,9]),(gn 10),(gn 11),(gn 12)]) (ae 1)) (av (aU 13 (g2 aX (ae 7) (g2 iC (g2 bM (ae 2) (ae 9)) (aI bJ (aa (ae 7) ah))))) (aJ (aI dS (aa (aY (fQ (aa (ae 3) ah)) bL gG aF) ah))))))
noncomputable def g6:FD:=a9 11 jP
theorem rS (T:TX P w K mg base):Ok P w K mg base "floor_inks" 1 3 g6:=cp (cj T.f 37 rfl) ["frame","stand","row","wide","high","gap","most","floor","across","down","book","movers","pots","inks"] aQ rfl fun f _ A _ s H E nd hr=>by delta jP gG;repeat' walk_at "Q"
noncomputable def fz:GS:=(dO (iV (aS (g2 (mU true) (ae 9) (gC .non))) (aS (oZ nP oS (ae 11) (ae 1) (g2 bM (ae 11) (aI bJ (aa (g2 aX (ae 4) (ae 9)) ah)))))) (cX (lQ (ae 7) (ae 8))) aM)
noncomputable def iB:GS:=(av (cP (bh [2,3,4,5,6]) (ae 0)) (av (aU 7 (jv ah)) (av (kN (lY (aa (ae 5) ah)) (rA [(gn 8),(bh [9,10,11,12,13])]) fz) (aJ (ae 7)))))
noncomputable def jJ:FD:=fun ds M=>vK M.length (a9 12 iB ds M)
theorem o3 (T:TX P w K mg base):Ok P w K mg base "lying_on" 1 2 jJ:=Dw (F:=a9 12 iB) <| cp (cj T.f 38 rfl) ["stand","row","floor","shift","book","movers","pots","told","number","shape","x","y","rank","turn"] aQ rfl fun f _ A _ s H E nd hr=>by delta iB fz;repeat' walk_at "Q"
noncomputable def oz:GS:=(av (cP (bh [3,4,5,6]) (ae 0)) (aJ (oj (aq 2 jJ (aa (ae 1) (aa (ae 2) ah))) bq (dg (ae 6)))))
noncomputable def lJ:FD:=a9 4 oz
theorem yN (T:TX P w K mg base):Ok P w K mg base "kept_on" 2 3 lJ:=cp (cj T.f 39 rfl) ["frame","stand","row","wide","high","gap","most"] aQ rfl fun f _ A _ s H E nd hr=>by have:=o3 T;delta oz;repeat' walk_at "Q"
noncomputable def nF:GE:=(aq 3 gO (aa (ae 2) (aa (ae 0) (aa (ae 3) ah))))
noncomputable def uw:GS:=(av (aU 3 (aY (bG (aq 3 lJ (aa (ae 0) (aa (ae 1) (aa (ae 2) ah))))) bL nF aF)) (aJ (aO (aa (aq 3 g6 (aa (ae 0) (aa (ae 1) (aa (ae 2) ah)))) (aa (aI dS (aa (ae 3) ah)) ah)))))
noncomputable def nC:FD:=a9 1 uw
theorem B5 (T:TX P w K mg base):Ok P w K mg base "taken" 3 3 nC:=cp (cj T.f 40 rfl) ["frame","stand","row","strips"] aQ rfl fun f _ A _ s H E nd hr=>by have:=qh T;have:=rS T;have:=yN T;delta uw nF;repeat' walk_at "Q"
noncomputable def nX:GS:=(av (cP (bh [3,4,5,6]) (ae 0)) (aJ (oj (aq 2 jJ (aa (ae 1) (aa (ae 2) ah))) (dg (ae 6)) bq)))
noncomputable def gw:FD:=a9 4 nX
theorem xq (T:TX P w K mg base):Ok P w K mg base "lost_on" 2 3 gw:=cp (cj T.f 41 rfl) ["frame","stand","row","wide","high","gap","most"] aQ rfl fun f _ A _ s H E nd hr=>by have:=o3 T;delta nX;repeat' walk_at "Q"
noncomputable def eE:GE:=(aO (aa (ae 2) (aa (ae 0) ah)))
noncomputable def e7:GS:=(av (fE "Beam" "row_taken" (ae 0) (aq 3 nC (aa (dm "Beam" "frame" (ae 0)) (aa (dm "Beam" "standing" (ae 0)) (aa (ae 1) ah))))) (av (cX (lQ (dm "Beam" "laid_rows" (ae 0)) (jv ah))) (E8 "Beam" "lost_pairs" (ae 0) (aY (bG (aq 3 gw (aa (dm "Beam" "frame" (ae 0)) (aa (dm "Beam" "standing" (ae 0)) (aa (ae 1) ah))))) bL eE aF))))
noncomputable def dq:FD:=a9 0 e7
theorem oq (T:TX P w K mg base):Om P w K mg base "Beam" "take_row" 4 2 dq:=qT (qY T.m 2 rfl) ["self","row"] aQ rfl fun f _ A _ s H E nd hr=>by have:=B5 T;have:=xq T;delta e7 eE;repeat' walk_at "Q"
noncomputable def eD:GS:=(dO (iV (aS (oZ nP oS (ae 6) (ae 1) (g2 bM (ae 6) (aI bJ (aa (ae 8) ah))))) (aS (g2 (a7 true) (g2 aX (ae 8) (g2 fq (ae 1) (ae 6))) (gC (.int 0))))) (cX (lQ (ae 4) (aO (aa (ae 7) (aa (ae 5) (aa (g2 aX (ae 8) (g2 fq (ae 1) (ae 6))) ah)))))) aM)
noncomputable def gR:GS:=(av (cP (bh [2,3]) (ae 0)) (av (aU 4 (jv ah)) (av (kN (bG (ae 3)) (bh [5,6,7,8]) eD) (aJ (ae 4)))))
noncomputable def iX:FD:=fun ds M=>vK M.length (a9 7 gR ds M)
theorem uo (T:TX P w K mg base):Ok P w K mg base "covers_at" 1 2 iX:=Dw (F:=a9 7 gR) <| cp (cj T.f 42 rfl) ["row_taken","x","inks","strips","told","number","left","rank","strip"] aQ rfl fun f _ A _ s H E nd hr=>by delta gR eD;repeat' walk_at "Q"
noncomputable def cF:GS:=(cX (jO (dm "Beam" "first_touches" (ae 0)) (aO (aa (ae 5) (aa (ae 6) ah))) (aO (aa (ae 2) (aa (ae 3) ah)))))
noncomputable def cJ:GS:=(kN (bG (oj (ae 1) (dg (g2 bM (ae 4) (gC (.int 1)))) bq)) (gn 6) cF)
noncomputable def cQ:GS:=(kN (lY (aa (ae 1) ah)) (bh [4,5]) cJ)
noncomputable def eO:FD:=a9 3 cQ
theorem kX (T:TX P w K mg base):Om P w K mg base "Beam" "keep_touches" 1 4 eO:=qT (qY T.m 3 rfl) ["self","numbers","row","spot","at","one","other"] aQ rfl fun f _ A _ s H E nd hr=>by delta cQ cF cJ;repeat' walk_at "Q"
noncomputable def dY:GS:=(cX (jO (dm "Beam" "first_grounds" (ae 0)) (ae 4) (aO (aa (ae 2) (aa (ae 3) ah)))))
noncomputable def cR:GS:=(kN (bG (ae 1)) (gn 4) dY)
noncomputable def eM:FD:=a9 1 cR
theorem la (T:TX P w K mg base):Om P w K mg base "Beam" "keep_grounds" 1 4 eM:=qT (qY T.m 4 rfl) ["self","numbers","row","spot","number"] aQ rfl fun f _ A _ s H E nd hr=>by delta cR dY;repeat' walk_at "Q"
noncomputable def cB:GE:=(aO (aa (mM (g2 aX (ae 0) (gC (.int 0)))) (aa (g2 aX (ae 0) (gC (.int 1))) ah)))
noncomputable def fB:GS:=(av (dO (f9 (ae 1)) (av (cP (bh [2,3,4]) (o4 (yi 0 cB) (ae 1))) (dO (iM (aS (g2 xp (ae 2) (gC (.int 1)))) (aS (g2 (a7 false) (ae 0) (gC (.int 0))))) (aJ (ae 4)) aM)) aM) (aJ (ae 0)))
noncomputable def bP:FD:=a9 3 fB
theorem uY (T:TX P w K mg base):Ok P w K mg base "ink_shown" 3 2 bP:=Nk (NS T.l 0 rfl) ["floor_ink","covers","rank","number","ink"] aQ rfl fun f _ _ A _ s H E nd tb hr=>by delta fB cB;repeat' walk_at "Q"
noncomputable def eA:GE:=(ae 1)
noncomputable def fh:GS:=(av (cP (bh [3,4]) (dm "Beam" "row_taken" (ae 0))) (av (aU 5 (aq 2 iX (aa (dm "Beam" "row_taken" (ae 0)) (aa (ae 2) ah)))) (av (cP (bh [6,7,8,9,10]) (dm "Beam" "standing" (ae 0))) (av (cX (lQ (g2 aX (dm "Beam" "laid_rows" (ae 0)) (mM (gC (.int 1)))) (g2 aX (ae 10) (aq 2 bP (aa (g2 aX (ae 3) (ae 2)) (aa (ae 5) ah)))))) (av (aU 11 (bH (bG (ae 5)) 3 (bh [0,1,2]) bL eA aF)) (av (cX (eU "Beam" "keep_touches" 4 eO (ae 0) (aa (ae 11) (aa (ae 1) (aa (ae 2) ah))))) (dO (aS (g2 (a7 true) (g2 aX (ae 3) (ae 2)) (gC (.int 0)))) (cX (eU "Beam" "keep_grounds" 4 eM (ae 0) (aa (ae 11) (aa (ae 1) (aa (ae 2) ah))))) aM)))))))
noncomputable def dA:FD:=a9 9 fh
theorem oh (T:TX P w K mg base):Om P w K mg base "Beam" "lay_spot" 4 3 dA:=qT (qY T.m 5 rfl) ["self","row","spot","inks","strips","covers","floor","shift","book","movers","pots","numbers"] aQ rfl fun f _ A _ s H E nd hr=>by have:=uo T;have:=kX T;have:=la T;have:=uY T;have:=rn 232 18 ["rank","number","ink"] ["self","row","spot","inks","strips","covers","floor","shift","book","movers","pots","numbers"];delta fh eA;repeat' walk_at "Q"
noncomputable def cU:GS:=(av (cP (bh [1,2]) (aq 2 gk (aa (dm "Beam" "frame" (ae 0)) (aa (dm "Beam" "ahead" (ae 0)) ah)))) (av (dO (aS (g2 (a7 false) (ae 2) (gC (.int 0)))) (cX (eU "Beam" "take_row" 2 dq (ae 0) (aa (ae 1) ah))) aM) (av (dO (aS (g2 (mU true) (ae 2) (gC .non))) (cX (eU "Beam" "lay_spot" 3 dA (ae 0) (aa (ae 1) (aa (ae 2) ah)))) aM) (E8 "Beam" "ahead" (ae 0) (gC (.int 1))))))
noncomputable def dN:FD:=a9 2 cU
theorem o6 (T:TX P w K mg base):Om P w K mg base "Beam" "go_tick" 5 1 dN:=qT (qY T.m 6 rfl) ["self","row","spot"] aQ rfl fun f _ A _ s H E nd hr=>by have:=v7 T;have:=oq T;have:=oh T;delta cU;repeat' walk_at "Q"
noncomputable def iE:GS:=(cX (eU "Beam" "go_tick" 1 dN (ae 0) ah))
noncomputable def gu:GT:=(aS (g2 oS (dm "Beam" "ahead" (ae 0)) (ae 2)))
noncomputable def lI:GS:=(av (aU 2 (g2 bM (dm "Beam" "ahead" (ae 0)) (ae 1))) (av (dO (aS (g2 zc (ae 2) (aq 1 bV (aa (dm "Beam" "frame" (ae 0)) ah)))) (fo "Over" (gC (.str "fewer ticks are left than that"))) aM) (tZ 5000 gu iE)))
noncomputable def lK:FD:=a9 1 lI
theorem xu (T:TX P w K mg base):Om P w K mg base "Beam" "go" 6 2 lK:=qT (qY T.m 7 rfl) ["self","many","end"] aQ rfl fun f _ A _ s H E nd hr=>by have:=gT T;have:=o6 T;delta lI iE gu;repeat' walk_at "Q"
noncomputable def fO:GS:=(aJ (g2 (a7 false) (dm "Beam" "ahead" (ae 0)) (aq 1 bV (aa (dm "Beam" "frame" (ae 0)) ah))))
noncomputable def iD:FD:=a9 0 fO
theorem o5 (T:TX P w K mg base):Om P w K mg base "Beam" "is_over" 3 1 iD:=qT (qY T.m 8 rfl) ["self"] aQ rfl fun f _ A _ s H E nd hr=>by have:=gT T;delta fO;repeat' walk_at "Q"
noncomputable def kT:GS:=(av (cP (bh [3,4,5,6,7]) (ae 0)) (av (dO (aS (g2 (a7 false) (ae 1) (gC (.str "move")))) (aJ (aO (aa (ae 3) (aa (g2 aX (ae 2) (gC (.int 0))) (aa (g2 aX (ae 2) (gC (.int 1))) (aa (ae 6) (aa (ae 7) ah))))))) aM) (av (dO (aS (g2 (a7 false) (ae 1) (gC (.str "shape")))) (aJ (aO (aa (g2 aX (ae 2) (gC (.int 0))) (aa (ae 4) (aa (ae 5) (aa (ae 6) (aa (ae 7) ah))))))) aM) (av (dO (aS (g2 (a7 false) (ae 1) (gC (.str "rank")))) (aJ (aO (aa (ae 3) (aa (ae 4) (aa (ae 5) (aa (g2 aX (ae 2) (gC (.int 0))) (aa (ae 7) ah))))))) aM) (aJ (aO (aa (ae 3) (aa (ae 4) (aa (ae 5) (aa (ae 6) (aa (g2 aX (ae 2) (gC (.int 0))) ah)))))))))))
noncomputable def bE:FD:=a9 5 kT
theorem pc (T:TX P w K mg base):Ok P w K mg base "mover_behind" 1 3 bE:=cp (cj T.f 43 rfl) ["mover","word","parts","shape","x","y","rank","turn"] aQ rfl fun f _ A _ s H E nd hr=>by delta kT;repeat' walk_at "Q"
noncomputable def lB:GS:=(aJ (g2 bM (g2 bM (oj (ae 0) bq (dg (ae 1))) (aO (aa (ae 2) ah))) (oj (ae 0) (dg (g2 bM (ae 1) (gC (.int 1)))) bq)))
noncomputable def dU:FD:=a9 0 lB
theorem tY (T:TX P w K mg base):Ok P w K mg base "with_part" 1 3 dU:=cp (cj T.f 44 rfl) ["things","at","part"] aQ rfl fun f _ A _ s H E nd hr=>by delta lB;repeat' walk_at "Q"
noncomputable def fY:GS:=(av (dO (eL (f9 (aq 2 bR (aa (ae 0) (aa (ae 1) ah))))) (fo "NoDeed" (gC (.str "that is no deed of the stand"))) aM) (av (cP (bh [2,3,4,5,6]) (ae 0)) (av (aU 7 (g2 aX (ae 1) (gC (.int 0)))) (av (dO (aS (g2 (a7 false) (ae 7) (gC (.str "shift")))) (aJ (aO (aa (ae 2) (aa (oj (ae 1) (dg (gC (.int 1))) bq) (aa (ae 4) (aa (ae 5) (aa (ae 6) ah))))))) aM) (av (dO (aS (g2 (a7 false) (ae 7) (gC (.str "pot")))) (aJ (aO (aa (ae 2) (aa (ae 3) (aa (ae 4) (aa (ae 5) (aa (aq 3 dU (aa (ae 6) (aa (g2 aX (ae 1) (gC (.int 1))) (aa (g2 aX (ae 1) (gC (.int 2))) ah)))) ah))))))) aM) (av (aU 8 (g2 aX (ae 1) (gC (.int 1)))) (av (aU 9 (aq 3 bE (aa (g2 aX (ae 5) (ae 8)) (aa (ae 7) (aa (oj (ae 1) (dg (gC (.int 2))) bq) ah))))) (aJ (aO (aa (ae 2) (aa (ae 3) (aa (ae 4) (aa (aq 3 dU (aa (ae 5) (aa (ae 8) (aa (ae 9) ah)))) (aa (ae 6) ah))))))))))))))
noncomputable def cW:FD:=a9 8 fY
theorem pj (T:TX P w K mg base):Ok P w K mg base "stand_behind" 6 2 cW:=cp (cj T.f 45 rfl) ["stand","deed","floor","shift","book","movers","pots","word","number","mover"] aQ rfl fun f _ A _ s H E nd hr=>by have:=qu T;have:=pc T;have:=tY T;delta fY;repeat' walk_at "Q"
noncomputable def jc:GS:=(av (dO (f9 (eU "Beam" "is_over" 1 iD (ae 0) ah)) (fo "Over" (gC (.str "no tick is left to do a deed ahead of"))) aM) (fE "Beam" "standing" (ae 0) (aq 2 cW (aa (dm "Beam" "standing" (ae 0)) (aa (ae 1) ah)))))
noncomputable def kO:FD:=a9 0 jc
theorem uU (T:TX P w K mg base):Om P w K mg base "Beam" "deed" 7 2 kO:=qT (qY T.m 9 rfl) ["self","deed"] aQ rfl fun f _ A _ s H E nd hr=>by have:=o5 T;have:=pj T;delta jc;repeat' walk_at "Q"
noncomputable def jh:GS:=(aJ (dm "Beam" "ahead" (ae 0)))
noncomputable def ft:FD:=a9 0 jh
theorem vg (T:TX P w K mg base):Om P w K mg base "Beam" "tick" 1 1 ft:=qT (qY T.m 10 rfl) ["self"] aQ rfl fun f _ A _ s H E nd hr=>by delta jh;repeat' walk_at "Q"
noncomputable def lL:GS:=(av (cX (eU "Beam" "go" 2 lK (ae 3) (aa (g2 fq (ae 4) (eU "Beam" "tick" 1 ft (ae 3) ah)) ah))) (cX (eU "Beam" "deed" 2 kO (ae 3) (aa (ae 5) ah))))
noncomputable def tV:GS:=(av (cX (aq 3 ki (aa (ae 0) (aa (ae 1) (aa (ae 2) ah))))) (av (aU 3 (kH "Beam" 3 fj (aa (ae 0) (aa (ae 1) ah)))) (av (kN (bG (ae 2)) (bh [4,5]) lL) (av (cX (eU "Beam" "go" 2 lK (ae 3) (aa (g2 fq (aq 1 bV (aa (ae 0) ah)) (eU "Beam" "tick" 1 ft (ae 3) ah)) ah))) (aJ (ae 3))))))
noncomputable def uC:FD:=a9 3 tV
theorem DX (T:TX P w K mg base):Ok P w K mg base "laid" 12 3 uC:=cp (cj T.f 46 rfl) ["frame","stand","timed","beam","tick","deed"] aQ rfl fun f _ A _ s H E nd hr=>by have:=gT T;have:=rR T;have:=n6 T;have:=xu T;have:=uU T;have:=vg T;delta tV lL;repeat' walk_at "Q"
noncomputable def qA:GS:=(cX (lQ (ae 8) (aO (aa (ae 9) (aa (aI o9 (aa (mM (gC (.int 900))) (aa (aI o8 (aa (gC (.int 900)) (aa (ae 10) ah))) ah))) (aa (ae 11) (aa (ae 12) (aa (ae 13) ah))))))))
noncomputable def mI:GE:=(ae 0)
noncomputable def kP:GT:=(aS (g2 (pS false) (g2 aX (g2 aX (ae 0) (gC (.int 1))) (gC (.int 0))) (lU (aa (gC (.str "rank")) (aa (gC (.str "turn")) (aa (gC (.str "shape")) ah))))))
noncomputable def qN:GE:=(aO (aa (ae 0) (aa (g2 bM (ae 1) (ae 21)) (aa (ae 2) (aa (ae 3) (aa (ae 4) ah))))))
noncomputable def uD:GE:=(oj (ae 0) (dg (ae 17)) bq)
noncomputable def uJ:GE:=(oj (ae 0) bq (dg (g2 fq (g2 aX (ae 3) (gC (.int 0))) (ae 17))))
noncomputable def zv:GS:=(av (aU 1 (jv (aa (aI ji (aa (ae 0) ah)) (aa (gC (.int 0)) (aa (gC (.int 0)) ah))))) (av (aU 2 (aq 2 h8 (aa (ae 1) (aa (gC (.int 20)) ah)))) (av (aU 2 (g2 bM (aO (aa (aI o9 (aa (gC (.int 2)) (aa (g2 aX (ae 2) (gC (.int 0))) ah))) ah)) (oj (ae 2) (dg (gC (.int 1))) bq))) (av (cP (bh [3,4,5,6,7]) (aq 3 ig (aa (ae 1) (aa (ae 2) (aa (g2 aX (lU (aa (gC (.int 4)) (aa (gC (.int 12)) ah))) (aq 2 az (aa (ae 1) (aa (gC (.int 2)) ah)))) ah))))) (av (aU 8 (jv ah)) (av (kN (bG (ae 6)) (bh [9,10,11,12,13]) qA) (av (aU 4 (aO (aa (aI o9 (aa (mM (gC (.int 900))) (aa (aI o8 (aa (gC (.int 900)) (aa (g2 aX (ae 4) (gC (.int 0))) ah))) ah))) (aa (g2 aX (ae 4) (gC (.int 1))) ah)))) (av (aU 14 (aO (aa (ae 3) (aa (ae 4) (aa (ae 5) (aa (aI dS (aa (ae 8) ah)) (aa (ae 7) ah))))))) (av (aU 15 (aY (bG (aq 4 ib (aa (ae 1) (aa (ae 2) (aa (ae 14) (aa (gC (.int 10)) ah)))))) kP mI aF)) (av (aU 16 (g2 bM (gC (.int 1)) (aq 2 az (aa (ae 1) (aa (g2 fq (g2 aX (ae 2) (gC (.int 0))) (gC (.int 1))) ah))))) (av (aU 17 (aI dS (aa (bH (bG (ae 8)) 5 (bh [0,1,2,3,4]) bL qN aF) ah))) (av (aU 18 (eU "Beam" "picture" 1 fV (aq 3 uC (aa (ae 2) (aa (ae 14) (aa (aI ji (aa (ae 15) ah)) ah)))) ah)) (av (aU 19 (eU "Beam" "picture" 1 fV (aq 3 uC (aa (ae 2) (aa (aO (aa (ae 3) (aa (aO (aa (g2 fq (g2 aX (ae 4) (gC (.int 0))) (ae 16)) (aa (g2 aX (ae 4) (gC (.int 1))) ah))) (aa (ae 5) (aa (ae 17) (aa (ae 7) ah)))))) (aa (aI ji (aa (ae 15) ah)) ah)))) ah)) (aJ (g2 (a7 false) (aY (bG (ae 19)) bL uD aF) (aY (bG (ae 18)) bL uJ aF))))))))))))))))
noncomputable def ze:FD:=a9 19 zv
theorem IY (T:TX P w K mg base){f:Addr}{fd:FuncData}(F:Fn K mg "law" Gk f fd ["script"]):dE P w K mg base (gU P w) 13 f fd ["script"] (mY K 1 ze):=H9 F.F (N:=["script","tape","frame","floor","shift","book","movers","pots","near","shape","x","y","rank","turn","stand","timed","by","farther","first","second"]) aQ rfl fun _ A _ s H E hr=>by
 have nd:(["script","tape","frame","floor","shift","book","movers","pots","near","shape","x","y","rank","turn","stand","timed","by","farther","first","second"]:List Str).Nodup:=by decide +kernel
 have:=bK T;have:=rV T;have:=rO T;have:=pp T;have:=rW T;have:=DX T;have:=rn 343 20 ["shape","x","y","rank","turn"] ["script","tape","frame","floor","shift","book","movers","pots","near","shape.","x.","y.","rank.","turn.","stand","timed","by","farther","first","second"];delta zv qA mI kP qN uD uJ;repeat' walk_at "Q"
end
end K14
section
open PySem PySem.W PyProof.Rows
noncomputable abbrev K14.VV:Program:=(view PySem.Challenge.pw_glowrow_k14_whole_moved_together [0,2,3,4,5,6,7,9,10,12,13,14,15,17,18,19,20,21,22,24,25,26,27,28,29,30,31,33,34,35,36,37,38,39,40,41,42,43,44,45,46,48,49,51,52,53,55,56,57,58,59,60,61,62,63,64,65])
set_option maxHeartbeats 0 in
theorem K14.h1:∀(w:World) (os:OsState),(Hd.RT (OpenLaw.row PySem.Challenge.rw_glowrow_k14_whole_moved_together).prog w 7206 os).map (fun s=>Hd.pA (OpenLaw.row PySem.Challenge.rw_glowrow_k14_whole_moved_together).prog w.params s.abs&&Hd.pB K14.VV (importedModules (OpenLaw.row PySem.Challenge.rw_glowrow_k14_whole_moved_together).prog.main.body) (fun s=>xlAt K14.VV [] s&&recOk (RowW.records (OpenRow.toRowW (OpenLaw.row PySem.Challenge.rw_glowrow_k14_whole_moved_together))) s) s.abs)=some true:=by
 intro w os
 unfold Hd.RT
 rw[W.Fast.te15732481512506401174,W.Fast.te2530740449226627131,W.Fast.te13930993214811372802]
 kernel_rfl
set_option maxHeartbeats 0 in
theorem K14.h2:∀(w:World) (os:OsState),(Hd.RT (OpenLaw.row PySem.Challenge.rw_glowrow_k14_whole_moved_together).prog w 7206 os).map (fun s=>Hd.pC K14.VV s.abs)=some (expectedOf K14.VV,bltViewBooted,wideGood K14.VV):=by
 intro w os
 unfold Hd.RT
 rw[W.Fast.te15732481512506401174,W.Fast.te2530740449226627131,W.Fast.te7338995916957470747]
 kernel_rfl
set_option maxHeartbeats 0 in
theorem K14.h3:∀(w:World) (os:OsState),(Hd.RT (OpenLaw.row PySem.Challenge.rw_glowrow_k14_whole_moved_together).prog w 7206 os).map (fun s=>Hd.pD K14.VV s.abs)=some (pinGoodD (drecsOf K14.VV),plainGoodE K14.VV (looseW K14.VV []),plainGoodD K14.VV [],clsGoodW K14.VV []):=by
 intro w os
 unfold Hd.RT
 rw[W.Fast.te15732481512506401174,W.Fast.te2530740449226627131,W.Fast.te4913325751328045840]
 kernel_rfl
local macro_rules | `(tactic| o_head $H) => `(tactic| (
 refine holds_open (q:=K14.VV) (loose:=[]) (Xt:=(fun s=>xlAt K14.VV [] s&&recOk (RowW.records (OpenRow.toRowW (OpenLaw.row PySem.Challenge.rw_glowrow_k14_whole_moved_together))) s)) (XP:=XL K14.VV []) (Yf:=Hook.obs $H) (Ya:=Hook.val $H) (YP:=Hook.says $H) (N:=7206) ?hl (Hook.of $H) (Hook.keeps $H) (fun s e=>xl_of s (Bool.and_eq_true_iff.mp e).1) XL.keeps (by rfl) (by rfl) (by rfl) (fun s e=>recFacts_of (Bool.and_eq_true_iff.mp e).2) (by rfl) (by first|assumption|decide +kernel) (by decide +kernel) ⟨rfl,rfl,rfl,rfl,rfl,by decide +kernel⟩ ?hw ?hc;
 (case hl=>
  refine Hd.left_km (boot_open (by kernel_rfl) rfl (fun s=>by kernel_rfl)) (fun w=>by kernel_rfl) K14.h1 K14.h2 K14.h3 ?_
  intro w os
  unfold Hd.RT
  rw[W.Fast.te15732481512506401174,W.Fast.te2530740449226627131]
  kernel_rfl)))
set_option hygiene false
local macro_rules | `(tactic| walk_at "us") => `(tactic| first | rfl | (exfalso; simp at hl; done) | (cases us with | nil => (first | rfl | cases hl) | cons _ us => walk_at "us"))
local macro_rules | `(tactic| walk_at "kc") => `(tactic| refine' DL.Ma KX G ?y0 ?y1 ?y2 ?y3 ?y4 ?y5 ?y6; (case y0 => k_is); (case y1 => k_is); (case y2 => k_is); (case y3 => k_is); (case y4 => k_is); (case y5 => k_is); (case y6 => k_is))
local macro_rules | `(tactic| walk_at "ec") => `(tactic| refine' DL.KJ KX G ?w0 ?w1 ?w2 ?w3 ?w4 ?w5 ?w6 ?w7 ?w8 ?w9 ?w10 ?w11; (case w0 => k_is); (case w1 => k_is); (case w2 => k_is); (case w3 => k_is); (case w4 => k_is); (case w5 => k_is); (case w6 => k_is); (case w7 => k_is); (case w8 => k_is); (case w9 => k_exc); (case w10 => k_is); (case w11 => k_is))
local macro_rules | `(tactic| walk_at "ff") => `(tactic| (refine' DL.LM KX G ?x0 ?x1 ?x2 ?x3 ?x4; (case x0 => k_is); (case x1 => k_is); (case x2 => k_is); (case x3 => k_is); (case x4 => (intro _ _ _ _ _ _ us hl; walk_at "us"))))
local macro_rules | `(tactic| walk_at "mf") => `(tactic| (refine' DL.Ll ?x0 ?x1 ?x2 ?x3 ?x4 ?x5 ?x6; (case x0 => walk_at "kc"); (case x1 => k_is); (case x2 => k_is); (case x3 => k_is); (case x4 => k_is); (case x5 => k_is); (case x6 => (intro _ _ _ _ _ _ us hl; walk_at "us"))))
local macro_rules | `(tactic| walk_at "im") => `(tactic| (refine' DL.im_mk ?v0 ?v1; (case v0 => walk_at "ec"); (case v1 => k_is)))
local macro_rules | `(tactic| walk_at "lf") => `(tactic| (refine' DL.Lx KX G ?x0 ?x1 ?x2 ?x3 ?x4 ?x5 ?x6 ?x7 ?x8 ?x9 ?x10 ?x11 ?x12 ?x13 ?x14; (case x0 => k_is); (case x1 => k_is); (case x2 => k_is); (case x3 => k_is); (case x4 => k_is); (case x5 => rfl); (case x6 => rfl); (case x7 => rfl); (case x8 => rfl); (case x9 => rfl); (case x10 => rfl); (case x11 => decide); (case x12 => decide); (case x13 => (refine DL.vO (fun z => absurd rfl z) (fun _ => ?y_table_within) (fun _ => ?y_slots_given) (fun _ => ?y_cast_on_slots); (case y_table_within => k_is); (case y_slots_given => k_is); (case y_cast_on_slots => k_is))); (case x14 => (intro _ _ _ _ _ _ us hl; walk_at "us"))))
set_option maxRecDepth 100000 in
set_option maxHeartbeats 0 in
theorem K14.pre (ht:∀ns:List Int,ns.length≤63→∃M',K14.ze [.ro (ns.map DL.D.int)] []=.ok (.bl true) M'):PySem.Challenge.rw_glowrow_k14_whole_moved_together.Holds:=by
 w_on;o_law;k_head;(case hw=>w_witness2)
 k_fill
 refine DL.DZ (l:=PySem.Challenge.rw_glowrow_k14_whole_moved_together) (n:=63) (k:=13) (x:="script") (F:=K14.ze) rfl (by decide) rfl ⟨rfl,by decide,by decide⟩ (fun w h Y=>W.km_in_of Y) ?F ?T ht
 case F=>
  intro w mg fa h KX G hmg
  refine DL.IS (st:=K14.Gk) hmg ?L (fun base f fd L=>K14.IY ?TT L) (fun _ _ _ _ _ _ _=>rfl)
  (case TT=>
   refine DL.Tx.mk ?q0 ?q1 ?q2 ?q3 ?q4 ?q5 ?q6 ?q7 ?q8 ?q9
   (case q0=>((repeat (refine' DL.Ls.cons ?x ?_;(case x=>(walk_at "ff"))));exact DL.Ls.nil))
   (case q1=>((repeat (refine' DL.Ls.cons ?x ?_;(case x=>(walk_at "mf"))));exact DL.Ls.nil))
   (case q2=>((repeat (refine' DL.Ls.cons ?x ?_;(case x=>(walk_at "lf"))));exact DL.Ls.nil))
   (case q3=>((repeat (refine' DL.Ls.cons ?x ?_;(case x=>(refine' DL.NX KX G ?x0;(case x0=>k_is)))));exact DL.Ls.nil))
   (case q4=>((repeat (refine' DL.Ls.cons ?x ?_;(case x=>(refine' DL.Lq ?x0;(case x0=>walk_at "ec")))));exact DL.Ls.nil))
   (case q5=>((repeat (refine' DL.Ls.cons ?x ?_;(case x=>(refine' DL.Kw ?u0 ?u1;(case u0=>walk_at "ec");(case u1=>((repeat (refine' DL.Ls.cons ?u2 ?_;(case u2=>walk_at "im")));exact DL.Ls.nil))))));exact DL.Ls.nil))
   (case q6=>((repeat (refine' DL.Ls.cons ?x ?_;(case x=>(walk_at "im"))));exact DL.Ls.nil))
   (case q7=>((repeat (refine' DL.Ls.cons ?x ?_;(case x=>(refine' DL.LU ?x0 ?x1;(case x0=>walk_at "kc");(case x1=>k_is)))));exact DL.Ls.nil))
   (case q8=>((repeat (refine' DL.Ls.cons ?x ?_;(case x=>(refine' DL.KO (u:=PySem.Value.str _) KX G ?x0;(case x0=>k_is)))));exact DL.Ls.nil))
   (case q9=>((repeat (refine' DL.Ls.cons ?x ?_;(case x=>(refine' DL.KO (u:=PySem.Value.int _) KX G ?x0;(case x0=>k_is)))));exact DL.Ls.nil)))
  (case L=>walk_at "ff")
 case T=>
  intro w
  refine' DL.Fh (DL.zQ (x:="ink_shown") ?vC (DL.Ie ?vd ?ui ?uB ?ur ?ux) ?wH DL.CY) (DL.vO (.inr ⟨_,.head _,rfl⟩) (.inl ?e_table_within) (.inl ?e_slots_given) (.inl ?e_cast_on_slots)) ?bm ?bl
  (case vC=>rfl)
  (case vd=>k_is)
  (case ui=>k_is)
  (case uB=>rfl)
  (case ur=>k_is)
  (case ux=>rfl)
  (case wH=>kernel_rfl)
  (case e_table_within=>k_is)
  (case e_slots_given=>k_is)
  (case e_cast_on_slots=>k_is)
  (case bm=>k_is)
  (case bl=>kernel_rfl)
end
namespace K14
open PySem PySem.Spec PyProof.Rows L2 DL
local macro_rules | `(tactic| simp_arith [$args,*] $[$loc]?) => `(tactic| first | (dsimp only [bg.bind, av, aU, dO, aJ, lT, cX, aM, cP, ae, gC, DL.g2, aq, aI, aa, ah, aS, Gq, f9, yC, iM, iV, eL, eC, JL, wz, xi, aO, lU, jv, qJ, aF, dM, mM, yd, oZ, jj, JP, wm, aH, a9, jw, uM, bM, fq, fT, iR, iC, rE, oS, nP, zc, xp, aX, b0, bJ, o8, o9, yo, ji, dS, kI, bG, v4, fQ, gn, bh, kF, dg, bq, oj, rh, pS, kD, mU, Kh, bL, fo, yD, xZ, yk, lW, wQ, lQ, B3, DE, pM, iF, dm, uR, fE, eU, kH, eX, rA, l8, lY, De, xC, o4, nV, yi] $[$loc]?; simp [av, aU, dO, aJ, lT, cX, aM, cP, ae, gC, DL.g2, aq, aI, aa, ah, aS, Gq, f9, yC, iM, iV, eL, eC, JL, wz, xi, aO, lU, jv, qJ, aF, dM, mM, yd, oZ, jj, JP, wm, aH, a9, jw, uM, bM, fq, fT, iR, iC, rE, oS, nP, zc, xp, aX, b0, bJ, o8, o9, yo, ji, dS, kI, bG, v4, fQ, gn, bh, kF, dg, bq, oj, rh, pS, kD, mU, Kh, bL, fo, yD, xZ, yk, lW, wQ, lQ, B3, DE, pM, iF, dm, uR, fE, eU, kH, eX, rA, l8, lY, De, xC, o4, nV, yi, $args,*] $[$loc]?) | simp [av, aU, dO, aJ, lT, cX, aM, cP, ae, gC, DL.g2, aq, aI, aa, ah, aS, Gq, f9, yC, iM, iV, eL, eC, JL, wz, xi, aO, lU, jv, qJ, aF, dM, mM, yd, oZ, jj, JP, wm, aH, a9, jw, uM, bM, fq, fT, iR, iC, rE, oS, nP, zc, xp, aX, b0, bJ, o8, o9, yo, ji, dS, kI, bG, v4, fQ, gn, bh, kF, dg, bq, oj, rh, pS, kD, mU, Kh, bL, fo, yD, xZ, yk, lW, wQ, lQ, B3, DE, pM, iF, dm, uR, fE, eU, kH, eX, rA, l8, lY, De, xC, o4, nV, yi, $args,*] $[$loc]?)
noncomputable def tp (l:List Int)(i c:Int):MO:=.lst [.lst (l.map D.int),.int i,.int c]
noncomputable def fm (l:List Int)(rest:aB)(M:aB):Prop:=∃i c,0≤i∧M=tp l i c::rest
variable{l:List Int}{k:Int}
theorem C1 (h0:0≤k)(h1:k<l.length):∃v,iZ (l.map D.int) k=some (.int v):=by
 obtain⟨n,rfl⟩:=Int.eq_ofNat_of_zero_le h0
 have hn:n<l.length:=by omega
 exact⟨l[n],dL (by simp[hn])⟩
noncomputable def NL:GS:=av (aU 4 (g2 iC (g2 aX (ae 0) (gC (.int 2))) (ae 1))) (av (lT (ae 0) (gC (.int 2)) (g2 iR (g2 aX (ae 0) (gC (.int 2))) (ae 1))) (aJ (ae 4)))
noncomputable def Ms:GS:=av (aU 3 (g2 iC (g2 bM (ae 3) (g2 fT (gC (.int 1000003)) (g2 aX (ae 0) (gC (.int 1))))) (ae 2))) (av (aU 3 (g2 iC (g2 bM (g2 bM (g2 fT (ae 3) (ae 3)) (g2 fT (gC (.int 1181783497276652981)) (ae 3))) (gC (.int 2049848353892358983))) (ae 2))) (aU 3 (g2 iC (g2 bM (g2 fT (ae 3) (ae 3)) (gC (.int 1442695040888963407))) (ae 2))))
noncomputable def NZ:GS:=dO (aS (g2 zc (aI bJ (aa (g2 aX (ae 0) (gC (.int 0))) ah)) (gC (.int 0)))) (aU 3 (g2 aX (g2 aX (ae 0) (gC (.int 0))) (g2 iC (g2 aX (ae 0) (gC (.int 1))) (aI bJ (aa (g2 aX (ae 0) (gC (.int 0))) ah))))) aM
noncomputable def Ob:GT:=iM (aS (g2 xp (g2 aX (ae 0) (gC (.int 1))) (aI bJ (aa (g2 aX (ae 0) (gC (.int 0))) ah)))) (aS (g2 oS (ae 3) (g2 rE (gC (.int 10)) (gC (.int 18)))))
noncomputable def Nc:GS:=av (aU 3 (gC (.int 0))) (av NZ (av (dO Ob Ms aM) (av (lT (ae 0) (gC (.int 1)) (g2 bM (g2 aX (ae 0) (gC (.int 1))) (gC (.int 1)))) (lT (ae 0) (gC (.int 2)) (ae 3)))))
theorem KG (ρ:cn)(M:aB):i9 ρ M=av (aU 2 (gC (.int 2305843009213693951))) (av (dO (aS (g2 oS (g2 aX (ae 0) (gC (.int 2))) (ae 1))) Nc aM) NL) ρ M:=rfl
theorem uE {i j:Int}(h:0<j)(M:aB):iC (.int i) (.int j) M=.ok (.int (i % j)) M:=by
 unfold iC
 dsimp only
 rw[if_pos h]
theorem pE {i j:Int}(h:-18446744073709551616<i∧i<18446744073709551616)(M:aB):fT (.int i) (.int j) M=.ok (.int (i*j)) M:=by
 unfold fT
 dsimp only
 rw[if_pos (.inl ⟨Int.lt_of_le_of_lt (by decide) h.1,Int.lt_of_lt_of_le h.2 (by decide)⟩)]
variable{ρ:cn}{M:aB}
theorem ut {go gi g:GE}{M1:aB}{x:D}(h:g ρ M=.ok x M)(h2:(go ρ M).bind (fun o M2=>(gi ρ M2).bind fun i M3=>(uM o i x M3).bind fun _ M4=>.ok (Fl.nx ρ) M4)=.ok (Fl.nx ρ) M1):lT go gi g ρ M=.ok (.nx ρ) M1:=by
 unfold lT
 rw[h,aj,h2]
variable{rest:aB}
theorem bb {many:Int}(hm:0<many)(hlog:many.natAbs.log2<9000)(h:fm l rest M) :
  ∃f M',0≤f∧f<many∧fm l rest M'∧az [.mr 0,.int many] M=.ok (.int f) M':=by
 obtain⟨i,c,hi,rfl⟩:=h
 have i0:∀(i c:Int) (x1 x2 x3 x4:Option D),g2 aX (ae 0) (gC (.int 0)) [some (.mr 0),x1,x2,x3,x4] (tp l i c::rest)=.ok (.lst (l.map D.int)) (tp l i c::rest):=fun _ _ _ _ _ _=>rfl
 have i1:∀(i c:Int) (x1 x2 x3 x4:Option D),g2 aX (ae 0) (gC (.int 1)) [some (.mr 0),x1,x2,x3,x4] (tp l i c::rest)=.ok (.int i) (tp l i c::rest):=fun _ _ _ _ _ _=>rfl
 have i2:∀(i c:Int) (x1 x2 x3 x4:Option D),g2 aX (ae 0) (gC (.int 2)) [some (.mr 0),x1,x2,x3,x4] (tp l i c::rest)=.ok (.int c) (tp l i c::rest):=fun _ _ _ _ _ _=>rfl
 have ln:∀(i c:Int) (x1 x2 x3 x4:Option D),aI bJ (aa (g2 aX (ae 0) (gC (.int 0))) ah) [some (.mr 0),x1,x2,x3,x4] (tp l i c::rest)=.ok (.int (l.length:Int)) (tp l i c::rest):=fun i c x1 x2 x3 x4=>by
  refine mJ (i0 i c x1 x2 x3 x4) ?_
  show bg.ok (D.int ((l.map D.int).length:Int)) _=_
  rw[List.length_map]
 have tail:∀(c i:Int) (x2 x3 x4:Option D),0≤i→∃f M',0≤f∧f<many∧fm l rest M'∧aH (NL [some (.mr 0),some (.int many),x2,x3,x4] (tp l i c::rest))=.ok (.int f) M':=fun c i x2 x3 x4 hi=>by
  refine⟨c % many,tp l i (c / many)::rest,Int.emod_nonneg _ (by omega),Int.emod_lt_of_pos _ hm,⟨i,c / many,hi,rfl⟩,?_⟩
  unfold NL
  rw[aw (bA (aN (i2 i c (some (.int many)) x2 x3 x4) (b:=ae 1) (y:=.int many) rfl (uE hm _)))]
  have fd:iR (.int c) (.int many) (tp l i c::rest)=.ok (.int (c / many)) (tp l i c::rest):=by
   unfold iR
   dsimp only
   rw[if_pos ⟨hm,hlog⟩]
  have k:lT (ae 0) (gC (.int 2)) (g2 iR (g2 aX (ae 0) (gC (.int 2))) (ae 1)) [some (.mr 0),some (.int many),x2,x3,some (.int (c % many))] (tp l i c::rest)=.ok (.nx [some (.mr 0),some (.int many),x2,x3,some (.int (c % many))]) (tp l i (c / many)::rest):=
   ut (aN (i2 i c (some (.int many)) x2 x3 _) (b:=ae 1) (y:=.int many) rfl fd) rfl
  exact(congrArg aH (aw k)).trans rfl
 show∃f M',_∧_∧_∧aH (i9 [some (.mr 0),some (.int many),none,none,none] (tp l i c::rest))=_
 rw[KG]
 have e0:∀b:GS,av (aU 2 (gC (.int 2305843009213693951))) b [some (.mr 0),some (.int many),none,none,none] (tp l i c::rest)=b [some (.mr 0),some (.int many),some (.int 2305843009213693951),none,none] (tp l i c::rest):=fun b=>aw rfl
 rw[e0]
 have tst:aS (g2 oS (g2 aX (ae 0) (gC (.int 2))) (ae 1)) [some (.mr 0),some (.int many),some (.int 2305843009213693951),none,none] (tp l i c::rest)=.ok (decide (c<many)) (tp l i c::rest):=dF (aN (i2 i c _ _ _ _) (b:=ae 1) (y:=.int many) rfl rfl)
 by_cases h1:c<many
 ·rw[decide_eq_true h1] at tst
  obtain⟨v,ev⟩:∃v:Int,NZ [some (.mr 0),some (.int many),some (.int 2305843009213693951),some (.int 0),none] (tp l i c::rest)=.ok (.nx [some (.mr 0),some (.int many),some (.int 2305843009213693951),some (.int v),none]) (tp l i c::rest):=by
   unfold NZ
   have t0:aS (g2 zc (aI bJ (aa (g2 aX (ae 0) (gC (.int 0))) ah)) (gC (.int 0))) [some (.mr 0),some (.int many),some (.int 2305843009213693951),some (.int 0),none] (tp l i c::rest)=.ok (decide ((l.length:Int)>0)) (tp l i c::rest):=dF (aN (ln i c _ _ _ _) (b:=gC (.int 0)) (y:=.int 0) rfl rfl)
   by_cases hl:(l.length:Int)>0
   ·rw[decide_eq_true hl] at t0
    obtain⟨v,hv⟩:=C1 (l:=l) (k:=i % l.length) (Int.emod_nonneg _ (by omega)) (Int.emod_lt_of_pos _ hl)
    refine⟨v,(cO t0).trans (bA (aN (f:=aX) (i0 i c _ _ _ _) (aN (i1 i c _ _ _ _) (ln i c _ _ _ _) (uE hl _)) ?_))⟩
    show(match iZ (l.map D.int) (i % (l.length:Int)) with|some d=>bg.ok d (tp l i c::rest)|none=>.bad)=_
    rw[hv]
   ·rw[decide_eq_false hl] at t0
    exact⟨0,(bT t0).trans rfl⟩
  have bd:∀x:Int,-18446744073709551616<x % 2305843009213693951∧x % 2305843009213693951<18446744073709551616:=fun x=>by
   have h0:=Int.emod_nonneg x (show(2305843009213693951:Int)≠0 by decide)
   have h1:=Int.emod_lt_of_pos x (show(0:Int)<2305843009213693951 by decide)
   omega
  have md:∀x:Int,∀M,iC (.int x) (.int 2305843009213693951) M=.ok (.int (x % 2305843009213693951)) M:=fun x M=>uE (by decide) M
  obtain⟨u,eu⟩:∃u:Int,dO Ob Ms aM [some (.mr 0),some (.int many),some (.int 2305843009213693951),some (.int v),none] (tp l i c::rest)=.ok (.nx [some (.mr 0),some (.int many),some (.int 2305843009213693951),some (.int u),none]) (tp l i c::rest):=by
   have po:∀ρ,g2 rE (gC (.int 10)) (gC (.int 18)) ρ (tp l i c::rest)=.ok (.int (10 ^ 18)) (tp l i c::rest):=fun ρ=>by
    refine aN (x:=.int 10) (y:=.int 18) rfl rfl ?_
    unfold rE
    dsimp only
    rw[if_pos (by decide)]
    rfl
   have to:=jK (dF (aN (f:=xp) (i1 i c (some (.int many)) (some (.int 2305843009213693951)) (some (.int v)) none) (ln i c _ _ _ _) rfl)) fun _=>dF (aN (f:=oS) (a:=ae 3) (x:=.int v) rfl (po _) rfl)
   generalize (decide (i≥(l.length:Int))||decide (v<10 ^ 18))=b at to
   cases b with
   | false=>exact⟨v,(bT to).trans rfl⟩
   | true=>
    suffices hs:∃u:Int,Ms [some (.mr 0),some (.int many),some (.int 2305843009213693951),some (.int v),none] (tp l i c::rest)=.ok (.nx [some (.mr 0),some (.int many),some (.int 2305843009213693951),some (.int u),none]) (tp l i c::rest) from hs.elim fun u e=>⟨u,(cO to).trans e⟩
    unfold Ms
    rw[aw (bA (aN (aN (f:=bM) (a:=ae 3) (x:=.int v) rfl (aN (f:=fT) (a:=gC (.int 1000003)) (x:=.int 1000003) rfl (i1 i c _ _ _ _) (pE (by decide) _)) rfl) (b:=ae 2) (y:=.int 2305843009213693951) rfl (md _ _)))]
    generalize hz:(v+1000003*i) % 2305843009213693951=z
    have bz:=hz▸bd (v+1000003*i)
    have k2:aU 3 (g2 iC (g2 bM (g2 bM (g2 fT (ae 3) (ae 3)) (g2 fT (gC (.int 1181783497276652981)) (ae 3))) (gC (.int 2049848353892358983))) (ae 2)) [some (.mr 0),some (.int many),some (.int 2305843009213693951),some (.int z),none] (tp l i c::rest)=.ok (.nx [some (.mr 0),some (.int many),some (.int 2305843009213693951),some (.int ((z*z+1181783497276652981*z+2049848353892358983) % 2305843009213693951)),none]) (tp l i c::rest):=
     bA (aN (aN (f:=bM) (aN (f:=bM) (aN (f:=fT) (a:=ae 3) (x:=.int z) rfl (b:=ae 3) (y:=.int z) rfl (pE bz _)) (aN (f:=fT) (a:=gC (.int 1181783497276652981)) (x:=.int 1181783497276652981) rfl (b:=ae 3) (y:=.int z) rfl (pE (by decide) _)) rfl) (b:=gC (.int 2049848353892358983)) (y:=.int 2049848353892358983) rfl rfl) (b:=ae 2) (y:=.int 2305843009213693951) rfl (md _ _))
    refine Exists.imp (fun u e=>(aw k2).trans e) ?_
    generalize hy:(z*z+1181783497276652981*z+2049848353892358983) % 2305843009213693951=y
    have byy:=hy▸bd (z*z+1181783497276652981*z+2049848353892358983)
    exact⟨_,bA (aN (aN (f:=bM) (aN (f:=fT) (a:=ae 3) (x:=.int y) rfl (b:=ae 3) (y:=.int y) rfl (pE byy _)) (b:=gC (.int 1442695040888963407)) (y:=.int 1442695040888963407) rfl rfl) (b:=ae 2) (y:=.int 2305843009213693951) rfl (md _ _))⟩
  have kb:Nc [some (.mr 0),some (.int many),some (.int 2305843009213693951),none,none] (tp l i c::rest)=.ok (.nx [some (.mr 0),some (.int many),some (.int 2305843009213693951),some (.int u),none]) (tp l (i+1) u::rest):=by
   unfold Nc
   have e3:∀b:GS,av (aU 3 (gC (.int 0))) b [some (.mr 0),some (.int many),some (.int 2305843009213693951),none,none] (tp l i c::rest)=b [some (.mr 0),some (.int many),some (.int 2305843009213693951),some (.int 0),none] (tp l i c::rest):=fun b=>aw rfl
   rw[e3,aw ev,aw eu]
   have k1:lT (ae 0) (gC (.int 1)) (g2 bM (g2 aX (ae 0) (gC (.int 1))) (gC (.int 1))) [some (.mr 0),some (.int many),some (.int 2305843009213693951),some (.int u),none] (tp l i c::rest)=.ok (.nx [some (.mr 0),some (.int many),some (.int 2305843009213693951),some (.int u),none]) (tp l (i+1) c::rest):=
    ut (aN (i1 i c _ _ _ _) (b:=gC (.int 1)) (y:=.int 1) rfl rfl) rfl
   rw[aw k1]
   exact ut (x:=.int u) rfl rfl
  rw[aw ((cO tst).trans kb)]
  exact tail u (i+1) _ _ _ (by omega)
 ·rw[decide_eq_false h1] at tst
  rw[aw ((bT tst).trans rfl)]
  exact tail c i _ _ _ hi
variable{x:Int}
theorem aL (h0:0<x)(h1:x≤1000000):x.natAbs.log2<9000:=by
 have h2:x.natAbs<2 ^ 20:=by omega
 have h3:x.natAbs≠0:=by omega
 have:=(Nat.log2_lt h3).mpr h2
 omega
variable{most:Int}
theorem pv (hm:1≤most)(hm2:most≤1000)(h:fm l rest M) :
  ∃f M',1≤f∧f≤most∧fm l rest M'∧dR [.mr 0,.int most] M=.ok (.int f) M':=by
 have lg:∀x:Int,0<x→x≤1000→x.natAbs.log2<9000:=fun x h0 h1=>by
  have h2:x.natAbs<2 ^ 10:=by omega
  have h3:x.natAbs≠0:=by omega
  have:=(Nat.log2_lt h3).mpr h2
  omega
 have hmin:0<(if 6<most then 6 else most)∧(if 6<most then 6 else most)≤most∧(if 6<most then(6:Int) else most)≤1000:=by split <;> omega
 obtain⟨f1,M1,a1,b1,t1,e1⟩:=bb hmin.1 (lg _ hmin.1 hmin.2.2) h
 obtain⟨f2,M2,a2,b2,t2,e2⟩:=bb (many:=most) (by omega) (lg _ (by omega) hm2) t1
 obtain⟨f3,M3,a3,b3,t3,e3⟩:=bb (many:=8) (by decide) (lg _ (by decide) (by decide)) t2
 have l3:(3:Nat)≤sizeLine:=aE (by decide)
 have hix:0≤f3*3 / 10∧f3*3 / 10<3:=by omega
 have c3:Nat.log2 10<9000:=by decide
 have c4:-18446744073709551616<f3∧f3<18446744073709551616:=by omega
 have pick:∃f,1≤f∧f≤most∧∃y,f=1+y∧iZ [D.int f1,D.int f2,D.int (most-1)] (f3*3 / 10)=some (.int y):=by
  have:f3*3 / 10=0∨f3*3 / 10=1∨f3*3 / 10=2:=by omega
  rcases this with q|q|q <;> rw[q]
  ·exact⟨1+f1,by omega,by omega,f1,rfl,rfl⟩
  ·exact⟨1+f2,by omega,by omega,f2,rfl,rfl⟩
  ·exact⟨1+(most-1),by omega,by omega,most-1,rfl,rfl⟩
 obtain⟨f,hf1,hf2,y,ey,ha⟩:=pick
 refine⟨f,M3,hf1,hf2,t3,?_⟩
 unfold dR kY
 simp_arith [e1,e2,e3,l3,c3,c4,ha,ey]
theorem Eu {wide thin:Int}(hw:0≤wide)(hw2:wide≤1000)(ht:1≤thin)(ht2:thin≤1000)(h:fm l rest M) :
  ∃(ks:List Int) (M':aB),(ks.length:Int)=wide∧(∀k∈ks,0≤k∧k≤15)∧fm l rest M'∧ja [.mr 0,.int wide,.int thin] M=.ok (.tup (ks.map D.int)) M':=by
 obtain⟨es,M',t',le,qe,ee⟩:=iy (ds0:=bj 0 wide.toNat) (ge:=fN) (ρ:=[some (.mr 0),some (.int wide),some (.int thin)])
  (P:=fm l rest) (Q:=fun e=>∃k,e=.int k∧0≤k∧k≤15) (bj 0 wide.toNat) (fun d hd M hM=>by
   obtain⟨f1,M1,a1,b1,t1,e1⟩:=bb (many:=16) (by decide) (aL (by decide) (by decide)) hM
   obtain⟨f2,M2,a2,b2,t2,e2⟩:=bb (many:=thin) (by omega) (aL (by omega) (by omega)) t1
   have c4:-18446744073709551616<f1∧f1<18446744073709551616:=by omega
   by_cases hz:0<f2
   ·exact⟨.int (f1*1),M2,t2,⟨_,rfl,by omega,by omega⟩,by simp_arith [fN,e1,e2,c4,hz]⟩
   ·exact⟨.int (f1*0),M2,t2,⟨_,rfl,by omega,by omega⟩,by simp_arith [fN,e1,e2,c4,hz]⟩) M h
 obtain⟨ks,ek,qk⟩:=FT qe
 refine⟨ks,M',?_,qk,t',?_⟩
 ·have:ks.length=es.length:=by rw[ek];simp
  rw[bB] at le
  omega
 ·have l3:es.length≤sizeLine:=by rw[le,bB];exact aE (by omega)
  have l4:ks.length≤sizeLine:=by rw[ek] at l3;simpa using l3
  have b1:=fun M=>ku (j:=wide) (by omega) M
  unfold ja lh
  simp_arith [aY,b1,ee,l4,ek]
theorem vG (hm:1≤most)(hm2:most≤1000)(h:fm l rest M) :
  ∃(rs:List (List Int)) (w:Nat) (M':aB),1≤rs.length∧(rs.length:Int)≤most∧1≤w∧(w:Int)≤most∧(∀r∈rs,r.length=w∧∀k∈r,0≤k∧k≤15)∧fm l rest M'∧
   eB [.mr 0,.int most] M=.ok (.tup (rs.map fun r=>D.tup (r.map D.int))) M':=by
 obtain⟨wide,M1,w1,w2,t1,e1⟩:=pv hm hm2 h
 obtain⟨f4,M2,a2,b2,t2,e2⟩:=bb (many:=4) (by decide) (aL (by decide) (by decide)) t1
 obtain⟨high,M3,h1,h2,t3,e3⟩:=pv hm hm2 t2
 obtain⟨es,M',t',le,qe,ee⟩:=iy (ds0:=bj 0 high.toNat) (ge:=gF) (ρ:=[some (.mr 0),some (.int most),some (.int wide),some (.int (1+f4))])
  (P:=fm l rest) (Q:=fun e=>∃ks:List Int,e=.tup (ks.map D.int)∧(ks.length:Int)=wide∧∀k∈ks,0≤k∧k≤15) (bj 0 high.toNat) (fun d hd M hM=>by
   obtain⟨ks,M1,lk,qk,t1,e1⟩:=Eu (wide:=wide) (thin:=1+f4) (by omega) (by omega) (by omega) (by omega) hM
   exact⟨_,M1,t1,⟨ks,rfl,lk,qk⟩,by simp_arith [gF,e1]⟩) M3 t3
 obtain⟨rs,er,qr⟩:=FG qe
 refine⟨rs,wide.toNat,M',?_,?_,by omega,by omega,fun r hr=>⟨by have:=(qr r hr).1;omega,(qr r hr).2⟩,t',?_⟩
 ·have:rs.length=es.length:=by rw[er];simp
  rw[bB] at le
  omega
 ·have:rs.length=es.length:=by rw[er];simp
  rw[bB] at le
  omega
 ·have l3:es.length≤sizeLine:=by rw[le,bB];exact aE (by omega)
  have l4:rs.length≤sizeLine:=by rw[er] at l3;simpa using l3
  have b1:=fun M=>ku (j:=high) (by omega) M
  unfold eB kz
  simp_arith [aY,b1,e1,e2,e3,ee,l4,er]
theorem AX (hm:1≤most)(hm2:most≤1000)(h:fm l rest M) :
  ∃(w hh g m:Int) (M':aB),(1≤w∧w≤most)∧(1≤hh∧hh≤most)∧(0≤g∧g≤20)∧(0≤m∧m≤12)∧fm l rest M'∧h8 [.mr 0,.int most] M=.ok (.tup [.int w,.int hh,.int g,.int m]) M':=by
 obtain⟨f1,M1,a1,b1,t1,e1⟩:=bb (many:=21) (by decide) (aL (by decide) (by decide)) h
 obtain⟨f2,M2,a2,b2,t2,e2⟩:=bb (many:=2) (by decide) (aL (by decide) (by decide)) t1
 obtain⟨w,M3,a3,b3,t3,e3⟩:=pv hm hm2 t2
 obtain⟨hh,M4,a4,b4,t4,e4⟩:=pv hm hm2 t3
 obtain⟨m,M5,a5,b5,t5,e5⟩:=bb (many:=13) (by decide) (aL (by decide) (by decide)) t4
 have l3:(2:Nat)≤sizeLine:=aE (by decide)
 have l4:(4:Nat)≤sizeLine:=aE (by decide)
 have pick:∃g,0≤g∧g≤20∧iZ [D.int 0,D.int f1] f2=some (.int g):=by
  have:f2=0∨f2=1:=by omega
  rcases this with q|q <;> rw[q]
  ·exact⟨0,by omega,by omega,rfl⟩
  ·exact⟨f1,by omega,by omega,rfl⟩
 obtain⟨g,g1,g2,ha⟩:=pick
 refine⟨w,hh,g,m,M5,⟨a3,b3⟩,⟨a4,b4⟩,⟨g1,g2⟩,⟨a5,by omega⟩,t5,?_⟩
 unfold h8 kj
 simp_arith [e1,e2,e3,e4,e5,l3,l4,ha]
theorem ou {size:Int}(hm:0≤size)(hm2:size≤900)(h:fm l rest M) :
  ∃(f:Int) (M':aB),(-1000≤f∧f≤1000)∧fm l rest M'∧cq [.mr 0,.int size] M=.ok (.int f) M':=by
 obtain⟨f1,M1,a1,b1,t1,e1⟩:=bb (many:=size+16) (by omega) (aL (by omega) (by omega)) h
 obtain⟨f2,M2,a2,b2,t2,e2⟩:=bb (many:=2001) (by decide) (aL (by decide) (by decide)) t1
 obtain⟨f3,M3,a3,b3,t3,e3⟩:=bb (many:=8) (by decide) (aL (by decide) (by decide)) t2
 have l3:(2:Nat)≤sizeLine:=aE (by decide)
 have c3:Nat.log2 7<9000:=by decide
 have pick:∃g,-1000≤g∧g≤1000∧iZ [D.int (f1-8),D.int (f2-1000)] (f3 / 7)=some (.int g):=by
  have:f3 / 7=0∨f3 / 7=1:=by omega
  rcases this with q|q <;> rw[q]
  ·exact⟨_,by omega,by omega,rfl⟩
  ·exact⟨_,by omega,by omega,rfl⟩
 obtain⟨g,g1,g2,ha⟩:=pick
 refine⟨g,M3,⟨g1,g2⟩,t3,?_⟩
 unfold cq mT
 simp_arith [e1,e2,e3,l3,c3,ha]
structure Mv where
 shape:Option Nat
 x:Int
 y:Int
 rank:Int
 turn:Int
noncomputable def Mv.d (m:Mv):D:=.tup [match m.shape with|some k=>.int k|none=>.non,.int m.x,.int m.y,.int m.rank,.int m.turn]
structure yE (n:Nat)(m:Mv):Prop where
 s:∀k,m.shape=some k→k<n
 x:-1000≤m.x∧m.x≤1000
 y:-1000≤m.y∧m.y≤1000
 r:0≤m.rank∧m.rank≤3
 t:0≤m.turn∧m.turn≤3
variable{w hh:Int}{more:List D}{n:Nat}
theorem wt (hw:0≤w∧w≤900)(hh2:0≤hh∧hh≤900)(hn:n≤1000)(h:fm l rest M) :
  ∃(m:Mv) (M':aB),yE n m∧fm l rest M'∧dj [.mr 0,.tup (.int w::.int hh::more),.int n] M=.ok m.d M':=by
 have l4:(5:Nat)≤sizeLine:=aE (by decide)
 have i0:iZ (D.int w::D.int hh::more) 0=some (.int w):=dL (j:=0) rfl
 have i1:iZ (D.int w::D.int hh::more) 1=some (.int hh):=dL (j:=1) rfl
 have go:∀(s:Option Nat) (M:aB),fm l rest M→(∀k,s=some k→k<n)→∃(m:Mv) (M':aB),yE n m∧m.shape=s∧fm l rest M'∧
   ∃M2 M3 M4,cq [.mr 0,.int w] M=.ok (.int m.x) M2∧cq [.mr 0,.int hh] M2=.ok (.int m.y) M3∧az [.mr 0,.int 4] M3=.ok (.int m.rank) M4∧az [.mr 0,.int 4] M4=.ok (.int m.turn) M':=by
  intro s M h hs
  obtain⟨x,M2,a2,t2,e2⟩:=ou hw.1 hw.2 h
  obtain⟨y,M3,a3,t3,e3⟩:=ou hh2.1 hh2.2 t2
  obtain⟨r,M4,a4,b4,t4,e4⟩:=bb (many:=4) (by decide) (aL (by decide) (by decide)) t3
  obtain⟨t,M5,a5,b5,t5,e5⟩:=bb (many:=4) (by decide) (aL (by decide) (by decide)) t4
  have r3:r≤3:=by omega
  have q3:t≤3:=by omega
  exact⟨⟨s,x,y,r,t⟩,M5,⟨hs,a2,a3,⟨a4,r3⟩,⟨a5,q3⟩⟩,rfl,t5,M2,M3,M4,e2,e3,e4,e5⟩
 by_cases h0:0<n
 ·obtain⟨f1,M1,a1,b1,t1,e1⟩:=bb (many:=8) (by decide) (aL (by decide) (by decide)) h
  have h0':(0:Int)<n:=by omega
  by_cases hf:0<f1
  ·obtain⟨f2,M2,a2,b2,t2,e2⟩:=bb (many:=(n:Int)) (by omega) (aL (by omega) (by omega)) t1
   obtain⟨k,rfl⟩:=Int.eq_ofNat_of_zero_le a2
   obtain⟨m,M',ok,sm,t',M3,M4,M5,q1,q2,q3,q4⟩:=go (some k) M2 t2 (fun j hj=>by cases hj;omega)
   refine⟨m,M',ok,t',?_⟩
   unfold dj fU
   simp_arith [e1,e2,q1,q2,q3,q4,l4,i0,i1,h0',h0,hf,Mv.d,sm]
  ·obtain⟨m,M',ok,sm,t',M3,M4,M5,q1,q2,q3,q4⟩:=go none M1 t1 (fun j hj=>by cases hj)
   refine⟨m,M',ok,t',?_⟩
   unfold dj fU
   simp_arith [e1,q1,q2,q3,q4,l4,i0,i1,h0',h0,hf,Mv.d,sm]
 ·have h0':¬(0:Int)<n:=by omega
  obtain⟨m,M',ok,sm,t',M3,M4,M5,q1,q2,q3,q4⟩:=go none M h (fun j hj=>by cases hj)
  refine⟨m,M',ok,t',?_⟩
  unfold dj fU
  simp_arith [q1,q2,q3,q4,l4,i0,i1,h0',h0,Mv.d,sm]
theorem pQ {α:Type}{f:α→D}{P:α→Prop}:∀{es:List D},(∀e∈es,∃a,e=f a∧P a)→∃as:List α,es=as.map f∧∀a∈as,P a
 | [],_=>⟨[],rfl,fun _ z=>by cases z⟩
 | e::es,h=>by
  obtain⟨a,ea,pa⟩:=h e (List.mem_cons_self ..)
  obtain⟨as,eas,pas⟩:=pQ fun e' he=>h e' (List.mem_cons_of_mem _ he)
  refine⟨a::as,by rw[ea,eas];rfl,fun b hb=>?_⟩
  rcases List.mem_cons.mp hb with q|q
  ·rw[q];exact pa
  ·exact pas b q
noncomputable def ar (rs:List (List Int)):D:=.tup (rs.map fun r=>D.tup (r.map D.int))
noncomputable def m8 (most:Int)(rs:List (List Int)):Prop:=1≤rs.length∧(rs.length:Int)≤most∧∃w:Nat,1≤w∧(w:Int)≤most∧∀r∈rs,r.length=w∧∀k∈r,0≤k∧k≤15
structure br where
 floor:List (List Int)
 sx:Int
 sy:Int
 book:List (List (List Int))
 movers:List Mv
 pots:List Int
noncomputable def br.d (s:br):D:=.tup [ar s.floor,.tup [.int s.sx,.int s.sy],.tup (s.book.map ar),.tup (s.movers.map Mv.d),.tup (s.pots.map D.int)]
structure bt (most:Int)(s:br):Prop where
 floor:m8 16 s.floor
 sx:-1000≤s.sx∧s.sx≤1000
 sy:-1000≤s.sy∧s.sy≤1000
 bl:s.book.length≤8
 book:∀b∈s.book,m8 8 b
 ml:(s.movers.length:Int)≤most
 movers:∀m∈s.movers,yE s.book.length m
 pl:s.pots.length=16
 pots:∀k∈s.pots,0≤k∧k≤63
variable{mm:Int}
theorem Cz (hw:0≤w∧w≤900)(hh2:0≤hh∧hh≤900)(hm:0≤mm∧mm≤900)(h:fm l rest M) :
  ∃(s:br) (M':aB),bt mm s∧fm l rest M'∧ig [.mr 0,.tup (.int w::.int hh::more),.int mm] M=.ok s.d M':=by
 obtain⟨fl,fw,M1,f1,f2,f3,f4,f5,t1,e1⟩:=vG (most:=16) (by decide) (by decide) h
 obtain⟨sx,M2,a2,t2,e2⟩:=ou (size:=9) (by decide) (by decide) t1
 obtain⟨sy,M3,a3,t3,e3⟩:=ou (size:=9) (by decide) (by decide) t2
 obtain⟨d4,M4,a4,b4,t4,e4⟩:=bb (many:=4) (by decide) (aL (by decide) (by decide)) t3
 obtain⟨d5,M5,a5,b5,t5,e5⟩:=bb (many:=9) (by decide) (aL (by decide) (by decide)) t4
 obtain⟨d6,M6,a6,b6,t6,e6⟩:=bb (many:=4) (by decide) (aL (by decide) (by decide)) t5
 have l2:(2:Nat)≤sizeLine:=aE (by decide)
 have l5:(5:Nat)≤sizeLine:=aE (by decide)
 have c3:Nat.log2 3<9000:=by decide
 have pick:∃g,0≤g∧g≤8∧iZ [D.int d4,D.int d5] (d6 / 3)=some (.int g):=by
  have:d6 / 3=0∨d6 / 3=1:=by omega
  rcases this with q|q <;> rw[q]
  ·exact⟨_,by omega,by omega,rfl⟩
  ·exact⟨_,by omega,by omega,rfl⟩
 obtain⟨g,g1,g2,ha⟩:=pick
 obtain⟨eb,M7,t7,lb,qb,ee1⟩:=iy (ds0:=bj 0 g.toNat) (ge:=gJ) (ρ:=[some (.mr 0),some (.tup (.int w::.int hh::more)),some (.int mm),some (ar fl),some (.tup [.int sx,.int sy]),some (.int g),none,none])
  (P:=fm l rest) (Q:=fun e=>∃b,e=ar b∧m8 8 b) (bj 0 g.toNat) (fun d hd M hM=>by
   obtain⟨rs,rw',M1,q1,q2,q3,q4,q5,t1,e1⟩:=vG (most:=8) (by decide) (by decide) hM
   exact⟨_,M1,t1,⟨rs,rfl,q1,q2,rw',q3,q4,q5⟩,by simp_arith [gJ,e1,ar]⟩) M6 t6
 obtain⟨book,hb,okb⟩:=pQ qb
 have lbk:book.length=g.toNat:=by rw[←bB 0 g.toNat,←lb,hb,List.length_map]
 obtain⟨d8,M8,a8,b8,t8,e8⟩:=bb (many:=mm+1) (by omega) (aL (by omega) (by omega)) t7
 obtain⟨em,M9,t9,lm,qm,ee2⟩:=iy (ds0:=bj 0 d8.toNat) (ge:=gE) (ρ:=[some (.mr 0),some (.tup (.int w::.int hh::more)),some (.int mm),some (ar fl),some (.tup [.int sx,.int sy]),some (.int g),some (.tup (book.map ar)),none])
  (P:=fm l rest) (Q:=fun e=>∃m,e=Mv.d m∧yE book.length m) (bj 0 d8.toNat) (fun d hd M hM=>by
   obtain⟨m,M1,ok,t1,e1⟩:=wt (more:=more) (n:=book.length) hw hh2 (by omega) hM
   exact⟨_,M1,t1,⟨m,rfl,ok⟩,by simp_arith [gE,e1]⟩) M8 t8
 obtain⟨movers,hmv,okm⟩:=pQ qm
 have lmv:movers.length=d8.toNat:=by rw[←bB 0 d8.toNat,←lm,hmv,List.length_map]
 obtain⟨ep,M10,t10,lp,qp,ee3⟩:=iy (ds0:=bj 0 16) (ge:=gD) (ρ:=[some (.mr 0),some (.tup (.int w::.int hh::more)),some (.int mm),some (ar fl),some (.tup [.int sx,.int sy]),some (.int g),some (.tup (book.map ar)),some (.tup (movers.map Mv.d))])
  (P:=fm l rest) (Q:=fun e=>∃k,e=D.int k∧0≤k∧k≤63) (bj 0 16) (fun d hd M hM=>by
   obtain⟨f1,M1,a1,b1,t1,e1⟩:=bb (many:=64) (by decide) (aL (by decide) (by decide)) hM
   exact⟨_,M1,t1,⟨f1,rfl,a1,by omega⟩,by simp_arith [gD,e1]⟩) M9 t9
 obtain⟨pots,hp,okp⟩:=pQ qp
 have lpt:pots.length=16:=by rw[←bB 0 16,←lp,hp,List.length_map]
 refine⟨⟨fl,sx,sy,book,movers,pots⟩,M10,⟨⟨f1,f2,fw,f3,f4,f5⟩,a2,a3,?_,okb,?_,okm,lpt,okp⟩,t10,?_⟩
 ·show book.length≤8
  omega
 ·show(movers.length:Int)≤mm
  omega
 ·have lb1:book.length≤sizeLine:=aE (by omega)
  have lm1:movers.length≤sizeLine:=aE (by omega)
  have lp1:pots.length≤sizeLine:=aE (by omega)
  have r1:=fun M=>ku (j:=g) (by omega) M
  have r2:=fun M=>ku (j:=d8) (by omega) M
  have r3:=fun M=>ku (j:=16) (by omega) M
  rw[hb] at ee1
  rw[hmv] at ee2
  rw[hp] at ee3
  have e1':eB [.mr 0,.int 16] M=.ok (ar fl) M1:=e1
  unfold ig kx
  simp_arith [aY,e1',e2,e3,e4,e5,e6,e8,l2,l5,c3,ha,r1,r2,r3,ee1,ee2,ee3,lb1,lm1,lp1,br.d]
theorem mB {ds0:List D}{s:GG}{body:GS}{W:Nat→cn→aB→Prop}:∀(ds:List D) (i:Nat),(∀j d,ds[j]?=some d→∀ρ M,W (i+j) ρ M→∃ρ1 ρ2 M2,s d ρ=some ρ1∧body ρ1 M=.ok (.nx ρ2) M2∧W (i+j+1) ρ2 M2)→∀ρ M,W i ρ M→
  ∃ρ' M',W (i+ds.length) ρ' M'∧fZ ⟨ds0,none⟩ s body ds ρ M=.ok (.nx ρ') M'
 | [],i,h,ρ,M,hW=>⟨ρ,M,hW,rfl⟩
 | d::ds,i,h,ρ,M,hW=>by
  obtain⟨ρ1,ρ2,M2,e1,e2,h2⟩:=h 0 d rfl ρ M hW
  obtain⟨ρ',M',h3,e3⟩:=mB (ds0:=ds0) (s:=s) (body:=body) (W:=W) ds (i+1) (fun j d' hd ρ M hW=>by
   have e:i+1+j=i+(j+1):=by omega
   rw[e] at hW ⊢
   exact h (j+1) d' hd ρ M hW) ρ2 M2 h2
  refine⟨ρ',M',?_,by simp[fZ,ow,e1,e2,e3]⟩
  have e:i+(d::ds).length=i+1+ds.length:=by simp;omega
  rw[e];exact h3
variable{lo:Int}{j:Nat}
theorem yP {d:D}(h:(bj lo n)[j]?=some d):j<n∧d=.int (lo+j):=by
 unfold bj at h
 rw[List.getElem?_map] at h
 cases q:(List.range n)[j]? with
 | none=>rw[q] at h;cases h
 | some k=>
  rw[q] at h
  obtain⟨hj,ek⟩:=List.getElem?_eq_some_iff.mp q
  rw[List.length_range] at hj
  rw[List.getElem_range] at ek
  subst ek
  cases h
  exact⟨hj,rfl⟩
noncomputable def wc (s:br)(row:Int)(m:Mv):Bool:=match m.shape with
 | none=>false
 | some k=>decide (m.y≤row)&&decide (row<m.y+((s.book.getD k []).length:Int))
noncomputable def lR (s:br)(row:Int):Nat→List Int
 | 0=>[]
 | n+1=>lR s row n++(match s.movers[n]? with|some m=>if wc s row m then [(n:Int)] else []|none=>[])
theorem nj (s:br)(row:Int):∀n,(lR s row n).length≤n
 | 0=>Nat.le_refl _
 | n+1=>by
  have:=nj s row n
  unfold lR
  rw[List.length_append]
  split
  ·split <;> simp <;> omega
  ·simp;omega
noncomputable def bO (s:br)(row:Int):List Int:=lR s row s.movers.length
noncomputable abbrev Od (rs:List (List Int)):D:=.tup (rs.map fun r=>D.tup (r.map D.int))
variable{rs:List (List Int)}
theorem xy (h:n<rs.length):iZ (rs.map fun r=>D.tup (r.map D.int)) (n:Int)=some (.tup (rs[n].map D.int)):=dL (by simp[h])
variable{r:List Int}
theorem Hm (h:n<r.length):iZ (r.map D.int) (n:Int)=some (.int r[n]):=dL (by simp[h])
noncomputable def mP (rs:List (List Int))(way:Int)(n:Nat):List Int:=
 let r:=if way=2∨way=3 then rs.getD (rs.length-1-n) [] else rs.getD n []
 if way=1∨way=3 then r.reverse else r
variable{way:Int}
theorem Nb (h0:0≤way)(h1:way<4):way=0∨way=1∨way=2∨way=3:=by omega
theorem nM {s:br}{row:Int}:∀{j:Nat} {n:Int},n∈lR s row j→∃i:Nat,n=i∧i<j∧∃m,s.movers[i]?=some m∧wc s row m=true
 | 0,n,h=>by cases h
 | j+1,n,h=>by
  unfold lR at h
  rcases List.mem_append.mp h with z|z
  ·obtain⟨i,e,hi,r⟩:=nM z
   exact⟨i,e,by omega,r⟩
  ·split at z
   ·rename_i m hm
    split at z
    ·rename_i hl
     exact⟨j,by simpa using z,by omega,m,hm,hl⟩
    ·cases z
   ·cases z
theorem CI (xs:List Int)(lo hi:Option Int):∃ys:List Int,gV (xs.map D.int) lo hi=ys.map D.int∧ys.length≤xs.length∧∀y∈ys,y∈xs:=by
 refine⟨(xs.drop (HT.sIx xs.length 0 lo)).take (HT.sIx xs.length xs.length hi-HT.sIx xs.length 0 lo),by simp[gV],?_,fun y hy=>List.mem_of_mem_drop (List.mem_of_mem_take hy)⟩
 rw[List.length_take,List.length_drop]
 omega
noncomputable def gH (s:br)(row n:Int):D:=match s.movers[n.toNat]? with
 | some m=>.tup [.int n,.int m.x,.int m.rank,.tup ((mP (s.book.getD (m.shape.getD 0) []) m.turn (row-m.y).toNat).map D.int)]
 | none=>.non
noncomputable def bx (s:br)(row:Int):List Int:=s.floor.getD ((row+s.sy) % (s.floor.length:Int)).toNat []
noncomputable def dQ (s:br)(row x:Int):Int:=(bx s row).getD ((x+s.sx) % ((bx s row).length:Int)).toNat 0
noncomputable def qP (s:br)(m row:Int):List D:=(gV ((bO s row).map D.int) none (some m)).map fun d=>match d with | .int n=>gH s row n|d=>d
noncomputable def dP (s:br)(w m row:Int):D:=.tup [.tup ((List.range w.toNat).map fun(x:Nat)=>D.int (dQ s row x)),.tup (qP s m row)]
theorem Gc {a b c:GE}{y z:Int}(ha:a ρ M=.ok (.int x) M)(hb:b ρ M=.ok (.int y) M)(hc:x≤y→c ρ M=.ok (.int z) M):oZ nP oS a b c ρ M=.ok (.bl (decide (x≤y)&&decide (y<z))) M:=by
 unfold oZ
 rw[ha,aj,hb,aj]
 show(bg.ok (D.bl (decide (x≤y))) M).bind _=_
 rw[aj]
 by_cases q:x≤y
 ·rw[decide_eq_true q]
  dsimp only
  rw[hc q,aj]
  rfl
 ·rw[decide_eq_false q]
  rfl
variable{s:br}{row:Int}
theorem GV :cP (bh [2,3,4,5,6]) (ae 0) [some s.d,some (.int row),none,none,none,none,none,none,none,none,none,none,none,none] M=.ok (.nx [some s.d,some (.int row),some (ar s.floor),some (.tup [.int s.sx,.int s.sy]),some (.tup (s.book.map ar)),some (.tup (s.movers.map Mv.d)),some (.tup (s.pots.map D.int)),none,none,none,none,none,none,none]) M:=rfl
noncomputable def MQ (o:Option Nat):D:=match o with|some k=>.int k|none=>.non
noncomputable def LA (bk:List (List (List Int)))(row y:Int):Option Nat→Bool
 | none=>false
 | some k=>decide (y≤row)&&decide (row<y+((bk.getD k []).length:Int))
theorem DO {x0 x2 x3 x5 x6 x10 x12 x13:Option D}{y:Int}{bk:List (List (List Int))}{o:Option Nat}{E:List Int}{b:Bool}(ho:∀k,o=some k→k<bk.length)(hE:E.length<1000)
  (hb:b=LA bk row y o) :
  fz [x0,some (.int row),x2,x3,some (.tup (bk.map ar)),x5,x6,some (.mr M.length),some (.int j),some (MQ o),x10,some (.int y),x12,x13] (M++[.lst (E.map D.int)]) =
   .ok (.nx [x0,some (.int row),x2,x3,some (.tup (bk.map ar)),x5,x6,some (.mr M.length),some (.int j),some (MQ o),x10,some (.int y),x12,x13]) (M++[.lst ((E++if b then [(j:Int)] else []).map D.int)]):=by
 unfold fz
 have t:iV (aS (g2 (mU true) (ae 9) (gC .non))) (aS (oZ nP oS (ae 11) (ae 1) (g2 bM (ae 11) (aI bJ (aa (g2 aX (ae 4) (ae 9)) ah))))) [x0,some (.int row),x2,x3,some (.tup (bk.map ar)),x5,x6,some (.mr M.length),some (.int j),some (MQ o),x10,some (.int y),x12,x13] (M++[.lst (E.map D.int)])=.ok b (M++[.lst (E.map D.int)]):=by
  subst hb
  cases o with
  | none=>exact lO (x:=false) (y:=true) rfl (fun z=>by cases z)
  | some k=>
   have hk:=ho k rfl
   have gb:bk[k]?=some bk[k]:=List.getElem?_eq_getElem hk
   have e:bk.getD k []=bk[k]:=by rw[List.getD,gb];rfl
   have ln:aI bJ (aa (g2 aX (ae 4) (ae 9)) ah) [x0,some (.int row),x2,x3,some (.tup (bk.map ar)),x5,x6,some (.mr M.length),some (.int j),some (.int k),x10,some (.int y),x12,x13] (M++[.lst (E.map D.int)])=.ok (.int (bk[k].length:Int)) (M++[.lst (E.map D.int)]):=by
    refine mJ (aN (f:=aX) (a:=ae 4) (b:=ae 9) (x:=.tup (bk.map ar)) (y:=.int k) rfl rfl (fG (k:=k) (by rw[List.getElem?_map,gb];rfl))) ?_
    show bg.ok (D.int ((bk[k].map fun r=>D.tup (r.map D.int)).length:Int)) _=_
    rw[List.length_map]
   show _=bg.ok (decide (y≤row)&&decide (row<y+((bk.getD k []).length:Int))) _
   rw[e]
   exact lO (x:=true) rfl fun _=>dF (Gc (x:=y) (y:=row) (z:=y+(bk[k].length:Int)) rfl rfl fun _=>aN (f:=bM) (a:=ae 11) (x:=.int y) rfl ln rfl)
 cases b with
 | false=>
  refine(bT t).trans ?_
  rw[if_neg Bool.false_ne_true,List.append_nil]
  rfl
 | true=>
  refine(cO t).trans ?_
  rw[if_pos rfl,List.map_append]
  exact cx (yp (go:=ae 7) (ge:=ae 8) (d:=.int j) rfl rfl (by rw[List.length_map];omega))
theorem Bu (ok:bt mm s)(hm:mm≤900)(hM:iO M):jJ [s.d,.int row] M=.ok (.lst ((bO s row).map D.int)) M:=by
 have lm:=ok.ml
 generalize hx0:some s.d=x0
 generalize hx2:some (ar s.floor)=x2
 generalize hx3:some (D.tup [.int s.sx,.int s.sy])=x3
 generalize hx6:some (D.tup (s.pots.map D.int))=x6
 obtain⟨ρ',M',⟨x8,x9,x10,x11,x12,x13,rfl,rfl⟩,ef⟩:=mB (ds0:=je (s.movers.map Mv.d)) (s:=rA [(gn 8),(bh [9,10,11,12,13])]) (body:=fz)
  (W:=fun i ρ N=>∃x8 x9 x10 x11 x12 x13,ρ=[x0,some (.int row),x2,x3,some (.tup (s.book.map ar)),some (.tup (s.movers.map Mv.d)),x6,some (.mr M.length),x8,x9,x10,x11,x12,x13]∧N=M++[.lst ((lR s row i).map D.int)])
  (je (s.movers.map Mv.d)) 0 (fun j d hd ρ N hW=>by
   obtain⟨x8,x9,x10,x11,x12,x13,rfl,rfl⟩:=hW
   obtain⟨dx,ex,rfl⟩:=nU hd
   rw[Nat.zero_add]
   rw[List.getElem?_map] at ex
   cases gm:s.movers[j]? with
   | none=>rw[gm] at ex;cases ex
   | some m=>
   rw[gm] at ex
   cases ex
   have hj:=(List.getElem?_eq_some_iff.mp gm).1
   have om:=ok.movers _ (List.mem_of_getElem? gm)
   have ll:(lR s row j).length<1000:=Nat.lt_of_le_of_lt (nj s row j) (by omega)
   have e:=DO (x0:=x0) (x2:=x2) (x3:=x3) (x5:=some (.tup (s.movers.map Mv.d))) (x6:=x6) (x10:=some (.int m.x)) (x12:=some (.int m.rank)) (x13:=some (.int m.turn)) (row:=row) (y:=m.y) (bk:=s.book) (o:=m.shape) (j:=j) (M:=M) (E:=lR s row j) (b:=wc s row m) om.s ll (by unfold wc LA;cases m.shape <;> rfl)
   have ey:lR s row (j+1)=lR s row j++(if wc s row m then [(j:Int)] else []):=by
    show lR s row j++(match s.movers[j]? with|some m=>if wc s row m then [(j:Int)] else []|none=>[])=_
    rw[gm]
   exact⟨_,_,_,rfl,e,_,_,_,_,_,_,rfl,by rw[ey]⟩)
  [x0,some (.int row),x2,x3,some (.tup (s.book.map ar)),some (.tup (s.movers.map Mv.d)),x6,some (.mr M.length),none,none,none,none,none,none] (M++[.lst []]) ⟨_,_,_,_,_,_,rfl,rfl⟩
 rw[jT,List.length_map,Nat.zero_add] at ef
 have rt:=wV (M:=M) (xs:=(bO s row).map D.int) (gq 28 _) hM
 have a1:=GV (s:=s) (row:=row) (M:=M)
 rw[hx0,hx2,hx3,hx6] at a1
 show vK M.length (aH (iB [some s.d,some (.int row),none,none,none,none,none,none,none,none,none,none,none,none] M))=_
 rw[hx0]
 unfold iB
 have s7:∀b:GS,av (aU 7 (jv ah)) b [x0,some (.int row),x2,x3,some (.tup (s.book.map ar)),some (.tup (s.movers.map Mv.d)),x6,none,none,none,none,none,none,none] M=b [x0,some (.int row),x2,x3,some (.tup (s.book.map ar)),some (.tup (s.movers.map Mv.d)),x6,some (.mr M.length),none,none,none,none,none,none] (M++[.lst []]):=fun b=>aw (bA pr)
 have kf:kN (lY (aa (ae 5) ah)) (rA [(gn 8),(bh [9,10,11,12,13])]) fz [x0,some (.int row),x2,x3,some (.tup (s.book.map ar)),some (.tup (s.movers.map Mv.d)),x6,some (.mr M.length),none,none,none,none,none,none] (M++[.lst []])=_:=mw (t:=⟨je (s.movers.map Mv.d),none⟩) rfl ef
 rw[aw a1,s7,aw kf]
 exact rt
theorem Du (h0:0≤way)(h1:way<4)(hn:n<rs.length) :
  jU [Od rs,.int way,.int n] M=.ok (.tup ((mP rs way n).map D.int)) M:=by
 have l2:(2:Nat)≤sizeLine:=aE (by decide)
 have hm:rs.length-1-n<rs.length:=by omega
 have a1:=xy hn
 have a2:=xy hm
 have e2:(rs.length:Int)-1-n=((rs.length-1-n:Nat):Int):=by omega
 have gd1:rs[n]?=some rs[n]:=List.getElem?_eq_getElem hn
 have gd2:rs[rs.length-1-n]?=some rs[rs.length-1-n]:=List.getElem?_eq_getElem hm
 have nn:¬((n:Int)<0):=by omega
 have nl:¬(rs.length≤n):=by omega
 have n1:¬(rs.length:Int)≤n:=by omega
 unfold jU mE mP
 rcases Nb h0 h1 with e|e|e|e <;> subst e <;> simp_arith [a1,a2,e2,l2,nn,nl,n1,gd1,gd2,List.map_reverse]
theorem zR {n:Int}(ok:bt mm s)(hn:n∈bO s row):gO [s.d,.int n,.int row] M=.ok (gH s row n) M:=by
 obtain⟨i,rfl,hi,m,gm,lz⟩:=nM hn
 have om:=ok.movers m (List.mem_of_getElem? gm)
 unfold wc at lz
 cases hs:m.shape with
 | none=>rw[hs] at lz;cases lz
 | some k=>
  rw[hs] at lz
  have hk:=om.s k hs
  have gb:s.book[k]?=some s.book[k]:=List.getElem?_eq_getElem hk
  have gd:s.book.getD k []=s.book[k]:=by rw[List.getD,gb];rfl
  have lz:(decide (m.y≤row)&&decide (row<m.y+((s.book.getD k []).length:Int)))=true:=lz
  rw[gd,Bool.and_eq_true,decide_eq_true_eq,decide_eq_true_eq] at lz
  have am:iZ (s.movers.map Mv.d) (i:Int)=some m.d:=dL (by rw[List.getElem?_map,gm];rfl)
  have ab:iZ (s.book.map ar) (k:Int)=some (Od s.book[k]):=dL (by rw[List.getElem?_map,gb];rfl)
  obtain⟨r,hr⟩:=Int.eq_ofNat_of_zero_le (by omega:0≤row-m.y)
  have ls:=Du (rs:=s.book[k]) (way:=m.turn) (n:=r) (M:=M) om.t.1 (by have:=om.t.2;omega) (by omega)
  have l4:(4:Nat)≤sizeLine:=aE (by decide)
  have es:gH s row (i:Int)=.tup [.int i,.int m.x,.int m.rank,.tup ((mP s.book[k] m.turn r).map D.int)]:=by
   unfold gH
   rw[Int.toNat_natCast,gm]
   have:(row-m.y).toNat=r:=by omega
   simp only[hs,Option.getD_some,gd,this]
  rw[es]
  unfold gO jp
  simp_arith [br.d,am,Mv.d,hs,ab,hr,ls,l4]
variable{g m:Int}
theorem z4 (ok:bt mm s)(hw:1≤w∧w≤900) :
  g6 [.tup [.int w,.int hh,.int g,.int m],s.d,.int row] M=.ok (.tup ((List.range w.toNat).map fun(x:Nat)=>D.int (dQ s row x))) M:=by
 obtain⟨f1,f2,fw,f3,f4,f5⟩:=ok.floor
 have hfl:0≤(row+s.sy) % (s.floor.length:Int)∧(row+s.sy) % (s.floor.length:Int)<s.floor.length:=⟨Int.emod_nonneg _ (by omega),Int.emod_lt_of_pos _ (by omega)⟩
 obtain⟨r,hr⟩:=Int.eq_ofNat_of_zero_le hfl.1
 have hr2:r<s.floor.length:=by omega
 have er:bx s row=s.floor[r]:=by
  unfold bx
  rw[hr,Int.toNat_natCast,List.getD,List.getElem?_eq_getElem hr2];rfl
 have af:iZ (s.floor.map fun r=>D.tup (r.map D.int)) ((row+s.sy) % (s.floor.length:Int))=some (.tup ((bx s row).map D.int)):=by rw[hr,er];exact xy hr2
 obtain⟨lw,lk⟩:=f5 _ (List.getElem_mem hr2)
 rw[←er] at lw lk
 have ec:=fun ρ'=>jy (ds0:=bj 0 w.toNat) (ge:=gG) (ρ:=[some (.tup [.int w,.int hh,.int g,.int m]),some s.d,some (.int row),some (.int w),some (.int hh),some (.int g),some (.int m),some (ar s.floor),some (.int s.sx),some (.int s.sy),some (.tup (s.book.map ar)),some (.tup (s.movers.map Mv.d)),some (.tup (s.pots.map D.int)),some (.tup ((bx s row).map D.int))]++ρ')
  (f:=fun d=>match d with | .int x=>.int (dQ s row x)|d=>d) (M:=M) (bj 0 w.toNat) (fun d hd=>by
   obtain⟨x,rfl,x0,x1⟩:=qV hd
   have hx:0≤(x+s.sx) % ((bx s row).length:Int)∧(x+s.sx) % ((bx s row).length:Int)<(bx s row).length:=⟨Int.emod_nonneg _ (by omega),Int.emod_lt_of_pos _ (by omega)⟩
   obtain⟨q,hq⟩:=Int.eq_ofNat_of_zero_le hx.1
   have hq2:q<(bx s row).length:=by omega
   have ai:iZ ((bx s row).map D.int) ((x+s.sx) % ((bx s row).length:Int))=some (.int (dQ s row x)):=by
    unfold dQ
    rw[hq,Int.toNat_natCast,List.getD,List.getElem?_eq_getElem hq2]
    exact Hm hq2
   have lg:((bx s row).length).log2<9000:=by
    have:=aL (x:=((bx s row).length:Int)) (by omega) (by omega)
    simpa using this
   have nz:0<(bx s row).length:=by omega
   simp_arith [gG,ai,lg,nz])
 have em:(bj 0 w.toNat).map (fun d=>match d with | .int x=>.int (dQ s row x)|d=>d)=(List.range w.toNat).map fun(x:Nat)=>D.int (dQ s row x):=by
  unfold bj
  rw[List.map_map]
  apply List.map_congr_left
  intro x _
  simp
 rw[em] at ec
 have r1:=fun M=>ku (j:=w) (by omega) M
 have lg:(s.floor.length).log2<9000:=by
  have:=aL (x:=(s.floor.length:Int)) (by omega) (by omega)
  simpa using this
 have nz:0<s.floor.length:=by omega
 have lr:w.toNat≤sizeLine:=aE (by omega)
 have ec0:=ec []
 have erd:ar s.floor=.tup (s.floor.map fun r=>D.tup (r.map D.int)):=rfl
 unfold br.d at ec0 ⊢
 rw[List.append_nil,erd] at ec0
 rw[erd]
 unfold g6 jP
 simp_arith [rA,l8,aY,lg,nz,af,r1,lr,ec0]
theorem BF (ok:bt mm s)(hm:mm≤900)(hM:iO M) :
  lJ [.tup [.int w,.int hh,.int g,.int m],s.d,.int row] M=.ok (.lst (gV ((bO s row).map D.int) none (some m))) M:=by
 have e:=Bu (row:=row) ok hm hM
 unfold lJ oz
 simp_arith [e]
theorem Cy (ok:bt mm s)(hm:mm≤900)(hw:1≤w∧w≤900)(hmo:0≤m∧m≤12)(hM:iO M) :
  nC [.tup [.int w,.int hh,.int g,.int m],s.d,.int row] M=.ok (dP s w m row) M:=by
 obtain⟨ys,ey,ly,qy⟩:=CI (bO s row) none (some m)
 have ll:(bO s row).length≤900:=by
  have:=nj s row s.movers.length
  have:=ok.ml
  unfold bO
  omega
 have etk:qP s m row=ys.map (gH s row):=by unfold qP;rw[ey,List.map_map];rfl
 have ek:=BF (w:=w) (hh:=hh) (g:=g) (m:=m) (row:=row) ok hm hM
 rw[ey] at ek
 have ef:=z4 (w:=w) (hh:=hh) (g:=g) (m:=m) (row:=row) (M:=M) ok hw
 have ec:=jy (ds0:=ys.map D.int) (ge:=nF) (ρ:=[some (.tup [.int w,.int hh,.int g,.int m]),some s.d,some (.int row),none])
  (f:=fun d=>match d with | .int n=>gH s row n|d=>d) (M:=M) (ys.map D.int) (fun d hd=>by
   obtain⟨n,hn,rfl⟩:=List.mem_map.mp hd
   have e:=zR (M:=M) ok (qy n hn)
   simp_arith [nF,e])
 have em:(ys.map D.int).map (fun d=>match d with | .int n=>gH s row n|d=>d)=ys.map (gH s row):=by
  rw[List.map_map];rfl
 rw[em] at ec
 have l1:ys.length≤sizeLine:=aE (by omega)
 have l2:(2:Nat)≤sizeLine:=aE (by decide)
 unfold dP nC uw
 rw[etk]
 simp_arith [aY,ek,ef,ec,l1,l2]
structure Sn where
 n:Int
 x:Int
 r:Int
 ks:List Int
noncomputable def Sn.d (s:Sn):D:=.tup [.int s.n,.int s.x,.int s.r,.tup (s.ks.map D.int)]
noncomputable def cM (x:Int)(s:Sn):Int:=if s.x≤x∧x<s.x+(s.ks.length:Int) then s.ks.getD (x-s.x).toNat 0 else 0
noncomputable def gW (x:Int)(ss:List Sn):List Sn:=ss.filter fun s=>cM x s != 0
noncomputable def mW (x:Int)(s:Sn):D:=.tup [.int s.r,.int s.n,.int (cM x s)]
theorem uF (x:Int)(ss:List Sn):(gW x ss).length≤ss.length:=List.length_filter_le _ _
variable{ss:List Sn}
theorem AW {s:Sn}(h:ss[j]?=some s):gW x (ss.take (j+1))=gW x (ss.take j)++(if cM x s=0 then [] else [s]):=by
 rw[List.take_succ,h]
 unfold gW
 rw[List.filter_append]
 congr 1
 by_cases hz:cM x s=0 <;> simp[hz]
theorem Cj {s:Sn}(h1:s.x≤x)(h2:x<s.x+(s.ks.length:Int)):∃i:Nat,x-s.x=i∧iZ (s.ks.map D.int) (i:Int)=some (.int (cM x s)):=by
 obtain⟨i,hi⟩:=Int.eq_ofNat_of_zero_le (by omega:0≤x-s.x)
 have hl:i<s.ks.length:=by omega
 refine⟨i,hi,?_⟩
 have e:cM x s=s.ks[i]:=by
  unfold cM
  rw[if_pos ⟨h1,h2⟩,hi,Int.toNat_natCast,List.getD,List.getElem?_eq_getElem hl];rfl
 rw[e]
 exact dL (by simp[hl])
theorem Ak {s:Sn}(h:¬(s.x≤x∧x<s.x+(s.ks.length:Int))):cM x s=0:=by unfold cM;rw[if_neg h]
theorem E5 {f:Sn→D}(h:∀s,aR 29 (f s)=true)(l:List Sn):(l.map f).all (aR 29)=true:=by
 rw[List.all_eq_true]
 intro d hd
 obtain⟨s,_,e⟩:=List.mem_map.mp hd
 rw[←e];exact h s
theorem Cf {x0 x2 x3:Option D}{s:Sn}{E:List D}(hE:E.length<1000) :
  eD [x0,some (.int x),x2,x3,some (.mr M.length),some (.int s.n),some (.int s.x),some (.int s.r),some (.tup (s.ks.map D.int))] (M++[.lst E]) =
   .ok (.nx [x0,some (.int x),x2,x3,some (.mr M.length),some (.int s.n),some (.int s.x),some (.int s.r),some (.tup (s.ks.map D.int))]) (M++[.lst (E++if cM x s=0 then [] else [mW x s])]):=by
 unfold eD
 have ln:aI bJ (aa (ae 8) ah) [x0,some (.int x),x2,x3,some (.mr M.length),some (.int s.n),some (.int s.x),some (.int s.r),some (.tup (s.ks.map D.int))] (M++[.lst E])=.ok (.int (s.ks.length:Int)) (M++[.lst E]):=by
  refine mJ (a:=ae 8) (x:=.tup (s.ks.map D.int)) rfl ?_
  show bg.ok (D.int ((s.ks.map D.int).length:Int)) _=_
  rw[List.length_map]
 have c1:=dF (Gc (a:=ae 6) (b:=ae 1) (ρ:=[x0,some (.int x),x2,x3,some (.mr M.length),some (.int s.n),some (.int s.x),some (.int s.r),some (.tup (s.ks.map D.int))]) (M:=M++[.lst E]) (x:=s.x) (y:=x) (z:=s.x+(s.ks.length:Int)) rfl rfl fun _=>aN (f:=bM) (a:=ae 6) (x:=.int s.x) rfl ln rfl)
 by_cases h:s.x≤x∧x<s.x+(s.ks.length:Int)
 ·obtain⟨i,hi,ai⟩:=Cj h.1 h.2
  have ix:g2 aX (ae 8) (g2 fq (ae 1) (ae 6)) [x0,some (.int x),x2,x3,some (.mr M.length),some (.int s.n),some (.int s.x),some (.int s.r),some (.tup (s.ks.map D.int))] (M++[.lst E])=.ok (.int (cM x s)) (M++[.lst E]):=by
   refine aN (f:=aX) (a:=ae 8) (x:=.tup (s.ks.map D.int)) (y:=.int (x-s.x)) rfl rfl ?_
   rw[hi]
   show(match iZ (s.ks.map D.int) (i:Int) with|some d=>bg.ok d (M++[MO.lst E])|none=>.bad)=_
   rw[ai]
  have t:=lO c1 fun _=>dF (aN (f:=a7 true) ix (b:=gC (.int 0)) (y:=.int 0) rfl (vP (cM x s) 0 _))
  rw[decide_eq_true h.1,decide_eq_true h.2] at t
  by_cases hz:cM x s=0
  ·rw[decide_eq_true hz] at t
   rw[if_pos hz,List.append_nil]
   exact(bT t).trans rfl
  ·rw[decide_eq_false hz] at t
   rw[if_neg hz]
   exact(cO t).trans (cx (yp (go:=ae 4) (d:=mW x s) rfl (cK (ds:=[.int s.r,.int s.n,.int (cM x s)]) (aG rfl (aG rfl (aG ix rfl))) (by simp)) (by omega)))
 ·have hz:=Ak h
  have b:(decide (s.x≤x)&&decide (x<s.x+(s.ks.length:Int)))=false:=by
   rw[←Bool.decide_and]
   exact decide_eq_false h
  rw[b] at c1
  rw[if_pos hz,List.append_nil]
  exact(bT ((lO (y:=true) c1 fun z=>by cases z).trans rfl)).trans rfl
theorem xO {fl:D}(hs:ss.length≤900)(hM:iO M) :
  iX [.tup [fl,.tup (ss.map Sn.d)],.int x] M=.ok (.lst ((gW x ss).map (mW x))) M:=by
 obtain⟨ρ',M',⟨x5,x6,x7,x8,rfl,rfl⟩,ef⟩:=mB (ds0:=ss.map Sn.d) (s:=bh [5,6,7,8]) (body:=eD)
  (W:=fun i ρ N=>∃x5 x6 x7 x8,ρ=[some (.tup [fl,.tup (ss.map Sn.d)]),some (.int x),some fl,some (.tup (ss.map Sn.d)),some (.mr M.length),x5,x6,x7,x8]∧N=M++[.lst ((gW x (ss.take i)).map (mW x))])
  (ss.map Sn.d) 0 (fun j d hd ρ N hW=>by
   obtain⟨x5,x6,x7,x8,rfl,rfl⟩:=hW
   rw[Nat.zero_add]
   rw[List.getElem?_map] at hd
   cases gs:ss[j]? with
   | none=>rw[gs] at hd;cases hd
   | some s=>
   rw[gs] at hd
   cases hd
   rw[AW gs]
   have ll:((gW x (ss.take j)).map (mW x)).length<1000:=by
    rw[List.length_map]
    exact Nat.lt_of_le_of_lt (uF x _) (by rw[List.length_take];omega)
   have e:=Cf (x0:=some (.tup [fl,.tup (ss.map Sn.d)])) (x2:=some fl) (x3:=some (.tup (ss.map Sn.d))) (x:=x) (s:=s) (M:=M) ll
   refine⟨_,_,_,rfl,e,_,_,_,_,rfl,?_⟩
   rw[List.map_append]
   by_cases hz:cM x s=0
   ·rw[if_pos hz,if_pos hz];rfl
   ·rw[if_neg hz,if_neg hz];rfl)
  [some (.tup [fl,.tup (ss.map Sn.d)]),some (.int x),some fl,some (.tup (ss.map Sn.d)),some (.mr M.length),none,none,none,none] (M++[.lst []]) ⟨_,_,_,_,rfl,rfl⟩
 have e0:(0:Nat)+(ss.map Sn.d).length=ss.length:=by simp
 rw[e0,List.take_length] at ef
 have rt:=wV (M:=M) (xs:=(gW x ss).map (mW x)) (E5 (fun _=>rfl) _) hM
 show vK M.length (aH (gR [some (.tup [fl,.tup (ss.map Sn.d)]),some (.int x),none,none,none,none,none,none,none] M))=_
 unfold gR
 have a1:cP (bh [2,3]) (ae 0) [some (.tup [fl,.tup (ss.map Sn.d)]),some (.int x),none,none,none,none,none,none,none] M=.ok (.nx [some (.tup [fl,.tup (ss.map Sn.d)]),some (.int x),some fl,some (.tup (ss.map Sn.d)),none,none,none,none,none]) M:=rfl
 have s4:∀b:GS,av (aU 4 (jv ah)) b [some (.tup [fl,.tup (ss.map Sn.d)]),some (.int x),some fl,some (.tup (ss.map Sn.d)),none,none,none,none,none] M=b [some (.tup [fl,.tup (ss.map Sn.d)]),some (.int x),some fl,some (.tup (ss.map Sn.d)),some (.mr M.length),none,none,none,none] (M++[.lst []]):=fun b=>aw (bA pr)
 have kf:kN (bG (ae 3)) (bh [5,6,7,8]) eD [some (.tup [fl,.tup (ss.map Sn.d)]),some (.int x),some fl,some (.tup (ss.map Sn.d)),some (.mr M.length),none,none,none,none] (M++[.lst []])=_:=mw (t:=⟨ss.map Sn.d,none⟩) (iS rfl) ef
 rw[aw a1,s4,aw kf]
 exact rt
noncomputable def Fp (a b:Sn):Prop:=b.r<a.r∨(a.r=b.r∧a.n≤b.n)
theorem CV {s:Sn}:yi 0 cB [mW x s] M=.ok (.tup [.int (-s.r),.int s.n]) M:=by
 have l2:(2:Nat)≤sizeLine:=aE (by decide)
 have a0:∀a b c:D,iZ [a,b,c] 0=some a:=fun _ _ _=>rfl
 have a1:∀a b c:D,iZ [a,b,c] 1=some b:=fun _ _ _=>rfl
 simp_arith [cB,mW,a0,a1,l2]
theorem KW (a b c d:Int):HT.lexLt [a,b] [c,d]=decide (a<c∨(a=c∧b<d)):=by
 by_cases h1:a<c <;> by_cases h2:a=c <;> by_cases h3:b<d <;> simp[HT.lexLt,h1,h2,h3] <;> omega
theorem EJ (b:Sn):∀s∈[b],Fp b s:=fun s hs=>by
 rcases List.mem_cons.mp hs with z|z
 ·subst z;exact .inr ⟨rfl,Int.le_refl _⟩
 ·cases z
theorem ye {x:Int}{M:aB}:∀(cs:List Sn) (b:Sn),∃b',b'∈b::cs∧(∀s∈b::cs,Fp b' s)∧oO (yi 0 cB) (cs.map (mW x)) (mW x b) [-b.r,b.n] M=.ok (mW x b') M
 | [],b=>⟨b,List.mem_cons_self ..,EJ b,rfl⟩
 | s::r,b=>by
  have hk:=CV (x:=x) (s:=s) (M:=M)
  have hi:oY (.tup [.int (-s.r),.int s.n])=some [-s.r,s.n]:=rfl
  by_cases h:-s.r < -b.r∨(-s.r=-b.r∧s.n<b.n)
  ·obtain⟨b',h1,h2,h3⟩:=ye (x:=x) (M:=M) r s
   refine⟨b',List.mem_cons_of_mem _ h1,fun t ht=>?_,?_⟩
   ·rcases List.mem_cons.mp ht with z|z
    ·subst z
     have:=h2 s (List.mem_cons_self ..)
     unfold Fp at *
     omega
    ·exact h2 t z
   ·rw[List.map_cons]
    unfold oO
    rw[hk]
    dsimp only
    rw[hi]
    dsimp only
    rw[KW,if_pos (decide_eq_true h)]
    exact h3
  ·obtain⟨b',h1,h2,h3⟩:=ye (x:=x) (M:=M) r b
   have hb:=h2 b (List.mem_cons_self ..)
   refine⟨b',?_,fun t ht=>?_,?_⟩
   ·rcases List.mem_cons.mp h1 with z|z
    ·exact z▸List.mem_cons_self ..
    ·exact List.mem_cons_of_mem _ (List.mem_cons_of_mem _ z)
   ·rcases List.mem_cons.mp ht with z|z
    ·exact z▸hb
    ·rcases List.mem_cons.mp z with z|z
     ·subst z
      unfold Fp at *
      omega
     ·exact h2 t (List.mem_cons_of_mem _ z)
   ·rw[List.map_cons]
    unfold oO
    rw[hk]
    dsimp only
    rw[hi]
    dsimp only
    rw[KW,if_neg (by simpa using h)]
    exact h3
variable{fl:Int}{cs:List Sn}
theorem AV :(cs=[]∧bP [.int fl,.lst (cs.map (mW x))] M=.ok (.int fl) M)∨
  ∃b∈cs,(∀s∈cs,Fp b s)∧bP [.int fl,.lst (cs.map (mW x))] M=.ok (.int (if 1≤b.r∨fl=0 then cM x b else fl)) M:=by
 cases cs with
 | nil=>
  refine .inl ⟨rfl,?_⟩
  unfold bP fB
  simp_arith [aj]
 | cons s r=>
  obtain⟨b,h1,h2,h3⟩:=ye (x:=x) (M:=M) r s
  refine .inr ⟨b,h1,h2,?_⟩
  have hk:=CV (x:=x) (s:=s) (M:=M)
  have hm:nV (yi 0 cB) (mW x s::r.map (mW x)) M=.ok (mW x b) M:=by
   unfold nV
   dsimp only
   rw[hk]
   exact h3
  have hg:∀ρ,o4 (yi 0 cB) (ae 1) (some (.int fl)::some (.lst (mW x s::r.map (mW x)))::ρ) M=.ok (.tup [.int b.r,.int b.n,.int (cM x b)]) M:=fun ρ=>by
   show nV (yi 0 cB) (mW x s::r.map (mW x)) M=_
   exact hm
  rw[List.map_cons]
  by_cases q1:1≤b.r
  ·unfold bP fB
   simp[av,dO,f9,yC,cP,bh,kF,uM,a9,jw,aH,aJ,aS,Gq,iM,DL.g2,xp,ae,gC,aM,hg,q1,aj]
  ·by_cases q2:fl=0
   ·subst q2
    unfold bP fB
    simp[av,dO,f9,yC,cP,bh,kF,uM,a9,jw,aH,aJ,aS,Gq,iM,DL.g2,xp,ae,gC,aM,hg,q1,a7,now,aA,gf,aj]
   ·unfold bP fB
    simp[av,dO,f9,yC,cP,bh,kF,uM,a9,jw,aH,aJ,aS,Gq,iM,DL.g2,xp,ae,gC,aM,hg,q1,q2,a7,now,aA,gf,aj]
mutual
theorem vB:∀(d:D) (n:Nat),aA n d=true→gf d d=true
 | .non,n,h=>by simp[gf]
 | .bl a,n,h=>by simp[gf]
 | .int a,n,h=>by simp[gf]
 | .str a,n,h=>by simp[gf]
 | .tup xs,n,h=>by
  cases n with
  | zero=>simp[aA] at h
  | succ n=>rw[gf];exact lM xs n (by simpa[aA] using h)
 | .lst xs,n,h=>by
  cases n with
  | zero=>simp[aA] at h
  | succ n=>rw[gf];exact lM xs n (by simpa[aA] using h)
 | .ro xs,n,h=>by
  cases n with
  | zero=>simp[aA] at h
  | succ n=>rw[gf];exact lM xs n (by simpa[aA] using h)
 | .mr a,n,h=>by simp[aA] at h
 | .exc a,n,h=>by simp[aA] at h
 | .any,n,h=>by simp[aA] at h
theorem lM:∀(ds:List D) (n:Nat),bU n ds=true→f6 ds ds=true
 | [],n,h=>by simp[f6]
 | d::ds,n,h=>by
  simp only[bU,Bool.and_eq_true] at h
  simp only[f6,Bool.and_eq_true]
  exact⟨vB d n h.1,lM ds n h.2⟩
end
theorem iI {n:Nat}:∀{ds:List D},(∀d∈ds,aA n d=true)→bU n ds=true
 | [],_=>rfl
 | d::ds,h=>by
  simp only[bU,Bool.and_eq_true]
  exact⟨h d List.mem_cons_self,iI fun e he=>h e (List.mem_cons_of_mem _ he)⟩
noncomputable def bi (lo hi:Int):D→Bool
 | .int i=>decide (lo≤i)&&decide (i≤hi)
 | _=>false
noncomputable def mG (d:D):Prop:=∃t,JP d=some t
theorem de {d:D}{hi:Int}(h:mG d):bp [d,.int lo,.int hi] M=.ok (.bl (bi lo hi d)) M:=by
 obtain⟨t,ht⟩:=h
 have w:jX [d] M=.ok (.bl (match d with | .int _=>true|_=>false)) M:=by
  unfold jX mK
  cases d <;> first|(simp_arith [aj];done)|cases ht
 unfold bp k9
 cases d with
 | int i=>
  by_cases h0:lo≤i
  ·simp_arith [w,bi,h0]
  ·simp_arith [w,bi,h0]
 | _=>simp_arith [w,bi]
theorem tj {p:D→Bool}:∀xs:List D,cS (xs.map fun d=>D.bl (p d))=some (xs.map p)
 | []=>rfl
 | x::xs=>by
  show(cS (xs.map fun d=>D.bl (p d))).map (p x::·)=_
  rw[tj xs]
  rfl
theorem II {α:Type}(p:α→Bool)(xs:List α):(xs.map p).all id=xs.all p:=by rw[List.all_map];rfl
variable{xs:List D}
theorem uI (h:∀x∈xs,mG x)(hl:xs.length≤3000):aV [.tup xs] M=.ok (.bl (decide (xs.length=2)&&xs.all (bi (-1000) 1000))) M:=by
 have c:=jy (ds0:=xs) (ge:=ej) (ρ:=[some (.tup xs)]) (f:=fun d=>D.bl (bi (-1000) 1000 d)) (M:=M) xs fun d hd=>by
  simp_arith [ej,de (h d hd)]
 have l1:xs.length≤sizeLine:=aE (by omega)
 have bm:=tj (p:=bi (-1000) 1000) xs
 have ai:=II (bi (-1000) 1000) xs
 have e2:((xs.length:Int)=2)=(xs.length=2):=by simp;omega
 unfold aV dn
 by_cases h2:xs.length=2
 ·have h2':((xs.length:Int)==2)=true:=by simp;omega
  have l2:(2:Nat)≤sizeLine:=aE (by decide)
  simp_arith [aY,a7,c,l1,bm,ai,h2,h2',l2]
 ·have h2':((xs.length:Int)==2)=false:=by simp;omega
  simp_arith [aY,a7,c,l1,bm,ai,h2,h2']
theorem BE {d:D}(h:mG d):jH [d] M=.ok (.bl (bi 0 15 d)) M:=by
 unfold jH qq
 simp_arith [de h]
theorem Dc {d:D}(h:mG d):jz [d] M=.ok (.bl (bi 0 63 d)) M:=by
 unfold jz qW
 simp_arith [de h]
theorem nD {d:D}(h:mG d):io [d] M=.ok (.bl (bi 0 3 d)) M:=by
 unfold io nW
 simp_arith [de h]
theorem tM {d:D}(h:mG d):iu [d] M=.ok (.bl (bi 0 3 d)) M:=by
 unfold iu og
 simp_arith [de h]
noncomputable def yy (n:Nat):D→Bool
 | .non=>true
 | d=>bi 0 ((n:Int)-1) d
variable{bk:List D}
theorem sK {d:D}(h:mG d):bQ [.tup bk,d] M=.ok (.bl (yy bk.length d)) M:=by
 have w:=de (lo:=0) (hi:=(bk.length:Int)-1) (M:=M) h
 obtain⟨t,ht⟩:=h
 unfold bQ fW
 cases d with
 | non=>simp_arith [yy]
 | any=>cases ht
 | mr _=>cases ht
 | exc _=>cases ht
 | _=>simp_arith [yy,w]
noncomputable def wy:D→Bool
 | .tup xs=>xs.all (bi 0 15)
 | _=>false
noncomputable def kQ:D→Nat
 | .tup xs=>xs.length
 | _=>0
noncomputable def fI (most:Int):D→Bool
 | .tup rows=>(decide (1≤rows.length)&&decide ((rows.length:Int)≤most))&&(rows.all wy&&((decide (1≤kQ (rows.getD 0 .non))&&decide ((kQ (rows.getD 0 .non):Int)≤most))&&rows.all fun r=>decide (kQ r=kQ (rows.getD 0 .non))))
 | _=>false
noncomputable def cV:Nat→D→Prop
 | 0,d=>mG d
 | n+1,d=>mG d∧∀xs,d=.tup xs→xs.length≤3000∧∀x∈xs,cV n x
theorem cV.down:∀{n:Nat} {d:D},cV (n+1) d→cV n d
 | 0,_,h=>h.1
 | _+1,_,h=>⟨h.1,fun xs e=>⟨(h.2 xs e).1,fun x hx=>((h.2 xs e).2 x hx).down⟩⟩
noncomputable def lD:D→Bool
 | .tup _=>true
 | _=>false
theorem uy {d:D}(h:lD d=true):∃y,d=.tup y:=by cases d <;> first|exact⟨_,rfl⟩|(cases h)
variable{i:Nat}
theorem ik {d:D}(h:mG d)(hv:ae i ρ M=.ok d M):jj "tuple" (ae i) ρ M=.ok (.bl (lD d)) M:=by
 obtain⟨t,ht⟩:=h
 unfold jj
 rw[hv,aj]
 cases d <;> first|(simp[DE,JP,wm,lD];done)|cases ht
theorem AL {d:D}(h:cV 1 d):jV [d] M=.ok (.bl (wy d)) M:=by
 have g1:=ik (i:=0) (ρ:=[some d]) (M:=M) h.1 rfl
 show aH (ij [some d] M)=_
 unfold ij
 cases d with
 | tup xs=>
  have hx:=h.2 xs rfl
  have a:=mx (ge:=gL) (p:=bi 0 15) (iS (i:=0) (ρ:=[some (.tup xs)]) (M:=M) rfl) (by omega) fun x hm=>by
   unfold gL
   exact dJ (x:=x) rfl (BE (hx.2 x hm))
  rw[aZ (bW g1 fun _=>a)];rfl
 | _=>rw[aZ (bW (y:=false) g1 fun z=>by cases z)];rfl
theorem wq {d:D}(h:cV 2 d):fH [d,.int most] M=.ok (.bl (fI most d)) M:=by
 have g1:=ik (i:=0) (ρ:=[some d,some (.int most),none]) (M:=M) h.1 rfl
 show aH (fJ [some d,some (.int most),none] M)=_
 unfold fJ
 cases ht:lD d with
 | false=>
  rw[ht] at g1
  rw[bS ((cO (jK (y:=false) (cr (cY g1)) fun z=>by cases z)).trans rfl)]
  clear g1
  revert h ht
  cases d <;> intro h ht <;> first|rfl|(cases ht)
 | true=>
  obtain⟨rows,rfl⟩:=uy ht
  have hx:=h.2 rows rfl
  have ln:aI bJ (aa (ae 0) ah) [some (.tup rows),some (.int most),none] M=.ok (.int rows.length) M:=rfl
  have ch:oZ nP nP (gC (.int 1)) (aI bJ (aa (ae 0) ah)) (ae 1) [some (.tup rows),some (.int most),none] M=.ok (.bl (decide (1≤rows.length)&&decide ((rows.length:Int)≤most))) M:=by
   unfold oZ
   show((bg.ok (D.int 1) M).bind _)=_
   rw[aj,ln,aj]
   show((bg.ok (D.bl (decide ((1:Int)≤rows.length))) M).bind _)=_
   rw[aj]
   by_cases k:1≤rows.length
   ·have k':(1:Int)≤rows.length:=by omega
    rw[decide_eq_true k,decide_eq_true k'];rfl
   ·have k':¬(1:Int)≤rows.length:=by omega
    rw[decide_eq_false k,decide_eq_false k'];rfl
  have t1:=jK (cr (cY g1)) fun _=>cr (dF ch)
  by_cases k:1≤rows.length∧(rows.length:Int)≤most
  ·have hk:(decide (1≤rows.length)&&decide ((rows.length:Int)≤most))=true:=by simp[k.1,k.2]
   rw[hk] at t1
   rw[aw ((bT t1).trans rfl)]
   have a:=mx (ge:=e9) (p:=wy) (iS (i:=0) (ρ:=[some (.tup rows),some (.int most),none]) (M:=M) rfl) (by omega) fun x hm=>by
    unfold e9
    exact dJ (x:=x) rfl (AL (hx.2 x hm))
   cases ha:rows.all wy with
   | false=>
    rw[ha] at a
    have e:fI most (.tup rows)=false:=by simp[fI,ha]
    rw[bS ((cO (cr (cY a))).trans rfl),e];rfl
   | true=>
    rw[ha] at a
    rw[aw ((bT (cr (cY a))).trans rfl)]
    cases rows with
    | nil=>exact absurd k.1 (by simp)
    | cons r0 rs=>
     have hr:=List.all_eq_true.mp ha
     obtain⟨x0,e0⟩:∃x0,r0=.tup x0:=by
      have:=hr r0 List.mem_cons_self
      cases r0 <;> first|exact⟨_,rfl⟩|cases this
     subst e0
     have s2:aI bJ (aa (g2 aX (ae 0) (gC (.int 0))) ah) [some (.tup (.tup x0::rs)),some (.int most),none] M=.ok (.int x0.length) M:=
      mJ (x:=.tup x0) (aN rfl rfl (fG (k:=0) rfl)) rfl
     rw[aw (bA s2)]
     have b:=mx (ge:=dC) (p:=fun r=>decide (kQ r=x0.length)) (iS (i:=0) (ρ:=[some (.tup (.tup x0::rs)),some (.int most),some (.int x0.length)]) (M:=M) rfl) (by omega) fun x hm=>by
      obtain⟨y,ey⟩:∃y,x=.tup y:=by
       have:=hr x hm
       cases x <;> first|exact⟨_,rfl⟩|cases this
      subst ey
      unfold dC
      refine aN (x:=.int y.length) (y:=.int x0.length) rfl rfl ((zq _ _ _).trans ?_)
      congr 2
      exact decide_eq_decide.mpr (by show _↔y.length=_;omega)
     have ch2:oZ nP nP (gC (.int 1)) (ae 2) (ae 1) [some (.tup (.tup x0::rs)),some (.int most),some (.int x0.length)] M=.ok (.bl (decide (1≤x0.length)&&decide ((x0.length:Int)≤most))) M:=by
      unfold oZ
      show((bg.ok (D.int 1) M).bind _)=_
      rw[aj]
      show((bg.ok (D.int x0.length) M).bind _)=_
      rw[aj]
      show((bg.ok (D.bl (decide ((1:Int)≤x0.length))) M).bind _)=_
      rw[aj]
      by_cases k:1≤x0.length
      ·have k':(1:Int)≤x0.length:=by omega
       rw[decide_eq_true k,decide_eq_true k'];rfl
      ·have k':¬(1:Int)≤x0.length:=by omega
       rw[decide_eq_false k,decide_eq_false k'];rfl
     have f:=aZ (bW ch2 fun _=>b)
     have e:fI most (.tup (.tup x0::rs))=((decide (1≤x0.length)&&decide ((x0.length:Int)≤most))&&(D.tup x0::rs).all fun r=>decide (kQ r=x0.length)):=by
      show((decide (1≤(D.tup x0::rs).length)&&decide (((D.tup x0::rs).length:Int)≤most))&&((D.tup x0::rs).all wy&&_))=_
      rw[hk,ha];rfl
     rw[e]
     show aH (aJ (eC (oZ nP nP (gC (.int 1)) (ae 2) (ae 1)) (aI kI (aa (aY (bG (ae 0)) bL dC aF) ah))) [some (.tup (.tup x0::rs)),some (.int most),some (.int x0.length)] M)=_
     rw[f];rfl
  ·have hk:(decide (1≤rows.length)&&decide ((rows.length:Int)≤most))=false:=by
    by_cases k1:1≤rows.length
    ·have:¬(rows.length:Int)≤most:=fun z=>k ⟨k1,z⟩
     simp[this]
    ·simp[k1]
   rw[hk] at t1
   have e:fI most (.tup rows)=false:=by
    show((decide (1≤rows.length)&&decide ((rows.length:Int)≤most))&&_)=false
    rw[hk];rfl
   rw[bS ((cO t1).trans rfl),e];rfl
theorem xN {d:D}(h:cV 2 d):mR [d] M=.ok (.bl (fI 8 d)) M:=by
 show aH (ke [some d] M)=_
 unfold ke
 rw[aZ (fD (x:=d) (y:=.int 8) rfl rfl (wq h))];rfl
noncomputable def sA:D→Bool
 | .tup xs=>decide (xs.length≤8)&&xs.all (fI 8)
 | _=>false
theorem Ay {d:D}(h:cV 3 d):oB [d] M=.ok (.bl (sA d)) M:=by
 have g1:=ik (i:=0) (ρ:=[some d]) (M:=M) h.1 rfl
 show aH (lH [some d] M)=_
 unfold lH
 cases d with
 | tup xs=>
  have hx:=h.2 xs rfl
  have l:g2 nP (aI bJ (aa (ae 0) ah)) (gC (.int 8)) [some (.tup xs)] M=.ok (.bl (decide (xs.length≤8))) M:=by
   show bg.ok (D.bl (decide ((xs.length:Int)≤8))) M=_
   congr 2
   exact decide_eq_decide.mpr (by omega)
  have a:=mx (ge:=kA) (p:=fI 8) (iS (i:=0) (ρ:=[some (.tup xs)]) (M:=M) rfl) (by omega) fun x hm=>by
   unfold kA
   exact dJ (x:=x) rfl (xN (hx.2 x hm))
  rw[aZ (bW g1 fun _=>bW l fun _=>a)];rfl
 | _=>rw[aZ (bW (y:=false) g1 fun z=>by cases z)];rfl
noncomputable def vj:D→Bool
 | .tup xs=>decide (xs.length=2)&&xs.all (bi (-1000) 1000)
 | _=>false
theorem D3 {d:D}(h:mG d)(ht:lD d=false):aV [d] M=.ok (.bl false) M:=by
 have g1:=ik (i:=0) (ρ:=[some d]) (M:=M) h rfl
 rw[ht] at g1
 show aH (dn [some d] M)=_
 unfold dn
 rw[aZ (bW (y:=false) g1 fun z=>by cases z)];rfl
theorem An {d:D}(h:cV 1 d):aV [d] M=.ok (.bl (vj d)) M:=by
 cases d with
 | tup xs=>exact uI (fun x hx=>((h.2 xs rfl).2 x hx)) (h.2 xs rfl).1
 | _=>exact D3 h.1 rfl
noncomputable def mL (nb:Nat):D→Bool
 | .tup [s,x,y,r,t]=>yy nb s&&((bi (-1000) 1000 x&&bi (-1000) 1000 y)&&(bi 0 3 r&&bi 0 3 t))
 | _=>false
theorem xD {d:D}(h:cV 1 d):my [.tup bk,d] M=.ok (.bl (mL bk.length d)) M:=by
 have g1:=ik (i:=1) (ρ:=[some (.tup bk),some d,none,none,none,none,none]) (M:=M) h.1 rfl
 show aH (jS [some (.tup bk),some d,none,none,none,none,none] M)=_
 unfold jS
 cases ht:lD d with
 | false=>
  rw[ht] at g1
  rw[bS ((cO (jK (y:=false) (cr (cY g1)) fun z=>by cases z)).trans rfl)]
  clear g1
  revert h ht
  cases d <;> intro h ht <;> first|rfl|(cases ht)
 | true=>
  obtain⟨xs,rfl⟩:=uy ht
  have hx:=h.2 xs rfl
  have ne:g2 (a7 true) (aI bJ (aa (ae 1) ah)) (gC (.int 5)) [some (.tup bk),some (.tup xs),none,none,none,none,none] M=.ok (.bl (!decide ((xs.length:Int)=5))) M:=aN (x:=.int xs.length) (y:=.int 5) rfl rfl (vP _ _ _)
  have t1:=jK (cr (cY g1)) fun _=>dF ne
  match xs,hx,t1 with
  | [s,x,y,r,t],hx,t1=>
   rw[aw ((bT t1).trans rfl)]
   have q:∀z∈[s,x,y,r,t],mG z:=fun z hz=>hx.2 z hz
   have k1:=sK (bk:=bk) (M:=M) (q s (by simp))
   have k2:=uI (xs:=[x,y]) (M:=M) (fun z hz=>q z (by rcases List.mem_cons.mp hz with h|h <;> simp_all)) (by simp)
   have k3:=nD (M:=M) (q r (by simp))
   have k4:=tM (M:=M) (q t (by simp))
   have two:(2:Nat)≤sizeLine:=aE (by decide)
   have asg:cP (bh [2,3,4,5,6]) (ae 1) [some (.tup bk),some (.tup [s,x,y,r,t]),none,none,none,none,none] M=.ok (.nx [some (.tup bk),some (.tup [s,x,y,r,t]),some s,some x,some y,some r,some t]) M:=rfl
   rw[aw asg]
   have tp2:aO (aa (ae 3) (aa (ae 4) ah)) [some (.tup bk),some (.tup [s,x,y,r,t]),some s,some x,some y,some r,some t] M=.ok (.tup [x,y]) M:=by
    show(if [x,y].length≤sizeLine then bg.ok (D.tup [x,y]) M else .bad)=_
    rw[if_pos (show [x,y].length≤sizeLine from two)]
   rw[aZ (bW (fD (x:=.tup bk) (y:=s) rfl rfl k1) fun _=>bW (dJ tp2 k2) fun _=>bW (dJ (x:=r) rfl k3) fun _=>dJ (x:=t) rfl k4)]
   show bg.ok (D.bl _) M=_
   unfold mL
   simp
  | [],_,t1=>rw[bS ((cO t1).trans rfl)];rfl
  | [_],_,t1=>rw[bS ((cO t1).trans rfl)];rfl
  | [_,_],_,t1=>rw[bS ((cO t1).trans rfl)];rfl
  | [_,_,_],_,t1=>rw[bS ((cO t1).trans rfl)];rfl
  | [_,_,_,_],_,t1=>rw[bS ((cO t1).trans rfl)];rfl
  | _::_::_::_::_::_::r,_,t1=>
   have z:(!decide (((r.length+1+1+1+1+1+1:Nat):Int)=5))=true:=by simp;omega
   simp only[List.length_cons] at t1
   rw[z] at t1
   rw[bS ((cO t1).trans rfl)];rfl
noncomputable def ny (nb:Nat):D→Bool
 | .tup xs=>decide (xs.length≤12)&&xs.all (mL nb)
 | _=>false
theorem u7 {d:D}(h:cV 2 d):ka [.tup bk,d] M=.ok (.bl (ny bk.length d)) M:=by
 have g1:=ik (i:=1) (ρ:=[some (.tup bk),some d]) (M:=M) h.1 rfl
 show aH (hO [some (.tup bk),some d] M)=_
 unfold hO
 cases d with
 | tup xs=>
  have hx:=h.2 xs rfl
  have l:g2 nP (aI bJ (aa (ae 1) ah)) (gC (.int 12)) [some (.tup bk),some (.tup xs)] M=.ok (.bl (decide (xs.length≤12))) M:=by
   show bg.ok (D.bl (decide ((xs.length:Int)≤12))) M=_
   congr 2
   exact decide_eq_decide.mpr (by omega)
  have a:=mx (ge:=gM) (p:=mL bk.length) (iS (i:=1) (ρ:=[some (.tup bk),some (.tup xs)]) (M:=M) rfl) (by omega) fun x hm=>by
   unfold gM
   exact fD (x:=.tup bk) (y:=x) rfl rfl (xD (hx.2 x hm))
  rw[aZ (bW g1 fun _=>bW l fun _=>a)];rfl
 | _=>rw[aZ (bW (y:=false) g1 fun z=>by cases z)];rfl
noncomputable def vN:D→Bool
 | .tup xs=>decide (xs.length=16)&&xs.all (bi 0 63)
 | _=>false
theorem yl {d:D}(h:cV 1 d):mq [d] M=.ok (.bl (vN d)) M:=by
 have g1:=ik (i:=0) (ρ:=[some d]) (M:=M) h.1 rfl
 show aH (jL [some d] M)=_
 unfold jL
 cases d with
 | tup xs=>
  have hx:=h.2 xs rfl
  have l:g2 (a7 false) (aI bJ (aa (ae 0) ah)) (gC (.int 16)) [some (.tup xs)] M=.ok (.bl (decide (xs.length=16))) M:=by
   refine(aN (x:=.int xs.length) (y:=.int 16) rfl rfl (zq _ _ _)).trans ?_
   congr 2
   exact decide_eq_decide.mpr (by omega)
  have a:=mx (ge:=jb) (p:=bi 0 63) (iS (i:=0) (ρ:=[some (.tup xs)]) (M:=M) rfl) (by omega) fun x hm=>by
   unfold jb
   exact dJ (x:=x) rfl (Dc (hx.2 x hm))
  rw[aZ (bW g1 fun _=>bW l fun _=>a)];rfl
 | _=>rw[aZ (bW (y:=false) g1 fun z=>by cases z)];rfl
noncomputable def jQ:D→Bool
 | .tup [f,s,b,m,p]=>(fI 16 f&&(vj s&&vN p))&&(sA b&&ny (kQ b) m)
 | _=>false
theorem AO {d:D}(h:sA d=true):∃b,d=.tup b:=by
 cases d <;> first|exact⟨_,rfl⟩|cases h
theorem xW {d:D}(h:cV 4 d):mO [d] M=.ok (.bl (jQ d)) M:=by
 have g1:=ik (i:=0) (ρ:=[some d,none,none,none,none,none]) (M:=M) h.1 rfl
 show aH (jR [some d,none,none,none,none,none] M)=_
 unfold jR
 cases ht:lD d with
 | false=>
  rw[ht] at g1
  rw[bS ((cO (jK (y:=false) (cr (cY g1)) fun z=>by cases z)).trans rfl)]
  clear g1
  revert h ht
  cases d <;> intro h ht <;> first|rfl|(cases ht)
 | true=>
  obtain⟨xs,rfl⟩:=uy ht
  have hx:=h.2 xs rfl
  have ne:g2 (a7 true) (aI bJ (aa (ae 0) ah)) (gC (.int 5)) [some (.tup xs),none,none,none,none,none] M=.ok (.bl (!decide ((xs.length:Int)=5))) M:=aN (x:=.int xs.length) (y:=.int 5) rfl rfl (vP _ _ _)
  have t1:=jK (cr (cY g1)) fun _=>dF ne
  match xs,hx,t1 with
  | [f,s,b,m,p],hx,t1=>
   rw[aw ((bT t1).trans rfl)]
   have q:∀z∈[f,s,b,m,p],cV 3 z:=fun z hz=>hx.2 z hz
   have k1:=wq (most:=16) (M:=M) (q f (by simp)).down
   have k2:=An (M:=M) (q s (by simp)).down.down
   have k3:=yl (M:=M) (q p (by simp)).down.down
   have k4:=Ay (M:=M) (q b (by simp))
   have asg:cP (bh [1,2,3,4,5]) (ae 0) [some (.tup [f,s,b,m,p]),none,none,none,none,none] M=.ok (.nx [some (.tup [f,s,b,m,p]),some f,some s,some b,some m,some p]) M:=rfl
   rw[aw asg]
   have t2:=cr (lO (cY (fD (ρ:=[some (.tup [f,s,b,m,p]),some f,some s,some b,some m,some p]) (a:=ae 1) (b:=gC (.int 16)) rfl rfl k1)) fun _=>lO (cY (dJ (a:=ae 2) rfl k2)) fun _=>cY (dJ (a:=ae 5) rfl k3))
   cases hk:(fI 16 f&&(vj s&&vN p)) with
   | false=>
    rw[hk] at t2
    rw[bS ((cO t2).trans rfl)]
    have e:jQ (.tup [f,s,b,m,p])=false:=by
     simp[jQ,hk]
    rw[e];rfl
   | true=>
    rw[hk] at t2
    rw[aw ((bT t2).trans rfl)]
    cases hb:sA b with
    | false=>
     rw[hb] at k4
     rw[aZ (bW (y:=false) (dJ (a:=ae 3) rfl k4) fun z=>by cases z)]
     have e:jQ (.tup [f,s,b,m,p])=false:=by
      simp[jQ,hb]
     rw[e];rfl
    | true=>
     obtain⟨bs,rfl⟩:=AO hb
     have k5:=u7 (bk:=bs) (M:=M) (q m (by simp)).down
     rw[hb] at k4
     rw[aZ (bW (dJ (a:=ae 3) rfl k4) fun _=>fD (a:=ae 3) (b:=ae 4) rfl rfl k5)]
     have e:jQ (.tup [f,s,.tup bs,m,p])=ny bs.length m:=by
      simp[jQ,hk,hb,kQ]
     rw[e];rfl
  | [],_,t1=>rw[bS ((cO t1).trans rfl)];rfl
  | [_],_,t1=>rw[bS ((cO t1).trans rfl)];rfl
  | [_,_],_,t1=>rw[bS ((cO t1).trans rfl)];rfl
  | [_,_,_],_,t1=>rw[bS ((cO t1).trans rfl)];rfl
  | [_,_,_,_],_,t1=>rw[bS ((cO t1).trans rfl)];rfl
  | _::_::_::_::_::_::r,_,t1=>
   have z:(!decide (((r.length+1+1+1+1+1+1:Nat):Int)=5))=true:=by simp;omega
   simp only[List.length_cons] at t1
   rw[z] at t1
   rw[bS ((cO t1).trans rfl)];rfl
theorem bX {hi i:Int}(h:lo≤i∧i≤hi):bi lo hi (.int i)=true:=by simp[bi,h.1,h.2]
theorem qX {hi:Int}(h:∀k∈r,lo≤k∧k≤hi):(r.map D.int).all (bi lo hi)=true:=by
 rw[List.all_map]
 exact List.all_eq_true.mpr fun k hk=>bX (h k hk)
theorem qS (h:m8 most rs):fI most (ar rs)=true:=by
 obtain⟨h1,h2,w,h3,h4,h5⟩:=h
 have hr:∀r∈rs.map fun r=>D.tup (r.map D.int),wy r=true∧kQ r=w:=fun r hr=>by
  obtain⟨q,hq,rfl⟩:=List.mem_map.mp hr
  exact⟨qX (h5 q hq).2,by show(q.map D.int).length=w;rw[List.length_map];exact(h5 q hq).1⟩
 have l:(rs.map fun r=>D.tup (r.map D.int)).length=rs.length:=List.length_map ..
 unfold ar
 generalize (rs.map fun r=>D.tup (r.map D.int))=ds at *
 cases ds with
 | nil=>simp at l;omega
 | cons d0 dr=>
  have e0:=(hr d0 List.mem_cons_self).2
  show((decide (1≤(d0::dr).length)&&decide (((d0::dr).length:Int)≤most))&&((d0::dr).all wy&&((decide (1≤kQ d0)&&decide ((kQ d0:Int)≤most))&&(d0::dr).all fun r=>decide (kQ r=kQ d0))))=true
  have a1:(d0::dr).all wy=true:=List.all_eq_true.mpr fun r h=>(hr r h).1
  have a2:((d0::dr).all fun r=>decide (kQ r=kQ d0))=true:=List.all_eq_true.mpr fun r h=>decide_eq_true (by rw[(hr r h).2,e0])
  rw[a1,a2,e0,l]
  simp[h1,h2,h3,h4]
theorem cV.int {i:Int}:cV n (.int i):=by
 cases n with
 | zero=>exact⟨_,rfl⟩
 | succ n=>exact⟨⟨_,rfl⟩,fun xs e=>by cases e⟩
theorem cV.tup (hl:xs.length≤3000)(h:∀x∈xs,cV n x):cV (n+1) (.tup xs):=
 ⟨⟨_,rfl⟩,fun ys e=>by cases e;exact⟨hl,h⟩⟩
theorem tw (hm:most≤3000)(h:m8 most rs):cV (n+2) (ar rs):=by
 obtain⟨h1,h2,w,h3,h4,h5⟩:=h
 refine cV.tup (by rw[List.length_map];omega) fun x hx=>?_
 obtain⟨r,hr,rfl⟩:=List.mem_map.mp hx
 refine cV.tup (by rw[List.length_map,(h5 r hr).1];omega) fun x hx=>?_
 obtain⟨k,_,rfl⟩:=List.mem_map.mp hx
 exact cV.int
theorem yB (m:Mv):cV (n+1) m.d:=by
 refine cV.tup (by simp) fun x hx=>?_
 have hx:x∈[(match m.shape with|some k=>D.int k|none=>.non),.int m.x,.int m.y,.int m.rank,.int m.turn]:=hx
 simp only[List.mem_cons,List.not_mem_nil,or_false] at hx
 rcases hx with rfl|rfl|rfl|rfl|rfl
 ·cases m.shape with
  | some k=>exact cV.int
  | none=>
   cases n with
   | zero=>exact⟨_,rfl⟩
   | succ n=>exact⟨⟨_,rfl⟩,fun xs e=>by cases e⟩
 all_goals exact cV.int
theorem vn (ok:bt mm s)(hm:mm≤900):cV 4 s.d:=by
 refine cV.tup (by simp) fun x hx=>?_
 have hx:x∈[ar s.floor,.tup [.int s.sx,.int s.sy],.tup (s.book.map ar),.tup (s.movers.map Mv.d),.tup (s.pots.map D.int)]:=hx
 simp only[List.mem_cons,List.not_mem_nil,or_false] at hx
 rcases hx with rfl|rfl|rfl|rfl|rfl
 ·exact tw (by decide) ok.floor
 ·refine cV.tup (by simp) fun x hx=>?_
  simp only[List.mem_cons,List.not_mem_nil,or_false] at hx
  rcases hx with rfl|rfl <;> exact cV.int
 ·refine cV.tup (by rw[List.length_map];have:=ok.bl;omega) fun x hx=>?_
  obtain⟨b,hb,rfl⟩:=List.mem_map.mp hx
  exact tw (by decide) (ok.book b hb)
 ·refine cV.tup (by rw[List.length_map];have:=ok.ml;omega) fun x hx=>?_
  obtain⟨m,_,rfl⟩:=List.mem_map.mp hx
  exact yB m
 ·refine cV.tup (by rw[List.length_map];have:=ok.pl;omega) fun x hx=>?_
  obtain⟨k,_,rfl⟩:=List.mem_map.mp hx
  exact cV.int
theorem Ct {m:Mv}(h:yE n m):mL n m.d=true:=by
 have e:yy n (match m.shape with|some k=>D.int k|none=>.non)=true:=by
  cases hs:m.shape with
  | none=>rfl
  | some k=>
   have:=h.s k hs
   exact bX (lo:=0) (hi:=(n:Int)-1) (i:=(k:Int)) ⟨by omega,by omega⟩
 show(yy n (match m.shape with|some k=>D.int k|none=>.non)&&_)=true
 rw[e,bX h.x,bX h.y,bX h.r,bX h.t];rfl
theorem wY (ok:bt mm s)(hm:mm≤12):jQ s.d=true:=by
 have f:=qS ok.floor
 have p:vj (.tup [.int s.sx,.int s.sy])=true:=by
  show(true&&([D.int s.sx,.int s.sy].all (bi (-1000) 1000)))=true
  simp[bX ok.sx,bX ok.sy]
 have po:vN (.tup (s.pots.map D.int))=true:=by
  show(decide ((s.pots.map D.int).length=16)&&(s.pots.map D.int).all (bi 0 63))=true
  rw[qX ok.pots,List.length_map,ok.pl];rfl
 have b:sA (.tup (s.book.map ar))=true:=by
  show(decide ((s.book.map ar).length≤8)&&(s.book.map ar).all (fI 8))=true
  have:(s.book.map ar).all (fI 8)=true:=List.all_eq_true.mpr fun x hx=>by
   obtain⟨q,hq,rfl⟩:=List.mem_map.mp hx
   exact qS (ok.book q hq)
  rw[this,List.length_map]
  simp[ok.bl]
 have m:ny (kQ (.tup (s.book.map ar))) (.tup (s.movers.map Mv.d))=true:=by
  show(decide ((s.movers.map Mv.d).length≤12)&&(s.movers.map Mv.d).all (mL (s.book.map ar).length))=true
  have:(s.movers.map Mv.d).all (mL (s.book.map ar).length)=true:=List.all_eq_true.mpr fun x hx=>by
   obtain⟨q,hq,rfl⟩:=List.mem_map.mp hx
   rw[List.length_map]
   exact Ct (ok.movers q hq)
  have l:s.movers.length≤12:=by have:=ok.ml;omega
  rw[this,List.length_map]
  simp[l]
 show((fI 16 (ar s.floor)&&(vj (.tup [.int s.sx,.int s.sy])&&vN (.tup (s.pots.map D.int))))&&(sA (.tup (s.book.map ar))&&ny (kQ (.tup (s.book.map ar))) (.tup (s.movers.map Mv.d))))=true
 rw[f,p,po,b,m];rfl
noncomputable def yr:D→Bool
 | .tup [w,h,g,m]=>bi 1 40 w&&(bi 1 40 h&&(bi 0 20 g&&bi 0 12 m))
 | _=>false
theorem xX {d:D}(h:cV 1 d):mD [d] M=.ok (.bl (yr d)) M:=by
 have g1:=ik (i:=0) (ρ:=[some d,none,none,none,none]) (M:=M) h.1 rfl
 show aH (ky [some d,none,none,none,none] M)=_
 unfold ky
 cases ht:lD d with
 | false=>
  rw[ht] at g1
  rw[bS ((cO (jK (y:=false) (cr (cY g1)) fun z=>by cases z)).trans rfl)]
  clear g1
  revert h ht
  cases d <;> intro h ht <;> first|rfl|(cases ht)
 | true=>
  obtain⟨xs,rfl⟩:=uy ht
  have hx:=h.2 xs rfl
  have ne:g2 (a7 true) (aI bJ (aa (ae 0) ah)) (gC (.int 4)) [some (.tup xs),none,none,none,none] M=.ok (.bl (!decide ((xs.length:Int)=4))) M:=aN (x:=.int xs.length) (y:=.int 4) rfl rfl (vP _ _ _)
  have t1:=jK (cr (cY g1)) fun _=>dF ne
  match xs,hx,t1 with
  | [w,h,g,m],hx,t1=>
   rw[aw ((bT t1).trans rfl)]
   have q:∀z∈[w,h,g,m],mG z:=fun z hz=>hx.2 z hz
   have k1:=de (lo:=1) (hi:=40) (M:=M) (q w (by simp))
   have k2:=de (lo:=1) (hi:=40) (M:=M) (q h (by simp))
   have k3:=de (lo:=0) (hi:=20) (M:=M) (q g (by simp))
   have k4:=de (lo:=0) (hi:=12) (M:=M) (q m (by simp))
   have asg:cP (bh [1,2,3,4]) (ae 0) [some (.tup [w,h,g,m]),none,none,none,none] M=.ok (.nx [some (.tup [w,h,g,m]),some w,some h,some g,some m]) M:=rfl
   rw[aw asg]
   rw[aZ (bW (fK (x:=w) (y:=.int 1) (z:=.int 40) rfl rfl rfl k1) fun _=>bW (fK (x:=h) (y:=.int 1) (z:=.int 40) rfl rfl rfl k2) fun _=>bW (fK (x:=g) (y:=.int 0) (z:=.int 20) rfl rfl rfl k3) fun _=>fK (x:=m) (y:=.int 0) (z:=.int 12) rfl rfl rfl k4)]
   rfl
  | [],_,t1=>rw[bS ((cO t1).trans rfl)];rfl
  | [_],_,t1=>rw[bS ((cO t1).trans rfl)];rfl
  | [_,_],_,t1=>rw[bS ((cO t1).trans rfl)];rfl
  | [_,_,_],_,t1=>rw[bS ((cO t1).trans rfl)];rfl
  | _::_::_::_::_::r,_,t1=>
   have z:(!decide (((r.length+1+1+1+1+1:Nat):Int)=4))=true:=by simp;omega
   simp only[List.length_cons] at t1
   rw[z] at t1
   rw[bS ((cO t1).trans rfl)];rfl
structure iN (w h g m:Int):Prop where
 w:1≤w∧w≤40
 h:1≤h∧h≤40
 g:0≤g∧g≤20
 m:0≤m∧m≤12
noncomputable def aT (w h g m:Int):D:=.tup [.int w,.int h,.int g,.int m]
variable{h:Int}
theorem wA (k:iN w h g m):yr (aT w h g m)=true:=by
 show(bi 1 40 (.int w)&&(bi 1 40 (.int h)&&(bi 0 20 (.int g)&&bi 0 12 (.int m))))=true
 rw[bX k.w,bX k.h,bX k.g,bX k.m];rfl
theorem p0 :cV (n+1) (aT w h g m):=by
 refine cV.tup (by simp) fun x hx=>?_
 simp only[List.mem_cons,List.not_mem_nil,or_false] at hx
 rcases hx with rfl|rfl|rfl|rfl <;> exact cV.int
theorem vA {f s:D}(hf:cV 1 f)(hs:cV 4 s)(bf:yr f=true)(bs:jQ s=true):bN [f,s] M=.ok .non M:=by
 have k1:=xX (M:=M) hf
 have k2:=xW (M:=M) hs
 rw[bf] at k1
 rw[bs] at k2
 show aH (gN [some f,some s] M)=_
 unfold gN
 rw[aw ((bT (cr (cY (dJ (a:=ae 0) rfl k1)))).trans rfl),bT (cr (cY (dJ (a:=ae 1) rfl k2)))]
 rfl
theorem we (xs:List D)(k:Nat):gV xs (some (k:Int)) none=xs.drop k:=by
 unfold gV
 rw[HT.sIx_nat,HT.sIx_none]
 by_cases h:k≤xs.length
 ·rw[Nat.min_eq_left h]
  exact List.take_of_length_le (by simp)
 ·rw[Nat.min_eq_right (by omega),List.drop_eq_nil_of_le (Nat.le_refl _),List.drop_eq_nil_of_le (by omega),List.take_nil]
theorem xk (xs:List D)(k:Nat):gV xs none (some (k:Int))=xs.take k:=by
 unfold gV
 rw[HT.sIx_nat,HT.sIx_none,List.drop_zero,Nat.sub_zero]
 by_cases h:k≤xs.length
 ·rw[Nat.min_eq_left h]
 ·rw[Nat.min_eq_right (by omega),List.take_of_length_le (Nat.le_refl _),List.take_of_length_le (by omega)]
theorem Mw (a:D)(xs:List D):iZ (a::xs) 0=some a:=dL (j:=0) rfl
theorem MB (a b:D)(xs:List D):iZ (a::b::xs) 1=some b:=dL (j:=1) rfl
theorem Mj (a b c:D)(xs:List D):iZ (a::b::c::xs) 2=some c:=dL (j:=2) rfl
theorem NG (a b c d:D)(xs:List D):iZ (a::b::c::d::xs) 3=some d:=dL (j:=3) rfl
inductive Dd where
 | shift (x y:Int)|pot (k h:Int)|move (i:Nat) (x y:Int)|shape (i:Nat) (o:Option Nat)|rank (i:Nat) (r:Int)|turn (i:Nat) (t:Int)
noncomputable def pe (o:Option Nat):D:=match o with|some k=>.int k|none=>.non
noncomputable def Dd.d:Dd→D
 | .shift x y=>.tup [.str "shift",.int x,.int y]
 | .pot k h=>.tup [.str "pot",.int k,.int h]
 | .move i x y=>.tup [.str "move",.int i,.int x,.int y]
 | .shape i o=>.tup [.str "shape",.int i,pe o]
 | .rank i r=>.tup [.str "rank",.int i,.int r]
 | .turn i t=>.tup [.str "turn",.int i,.int t]
noncomputable def oG (s:br):Dd→Prop
 | .shift x y=>(-1000≤x∧x≤1000)∧(-1000≤y∧y≤1000)
 | .pot k h=>(0≤k∧k≤15)∧(0≤h∧h≤63)
 | .move i x y=>i<s.movers.length∧(-1000≤x∧x≤1000)∧(-1000≤y∧y≤1000)
 | .shape i o=>i<s.movers.length∧∀k,o=some k→k<s.book.length
 | .rank i r=>i<s.movers.length∧(0≤r∧r≤3)
 | .turn i t=>i<s.movers.length∧(0≤t∧t≤3)
noncomputable def eW (s:br)(i:Nat)(f:Mv→Mv):br:=match s.movers[i]? with
 | some m=>{s with movers:=s.movers.set i (f m)}
 | none=>s
noncomputable def b9 (s:br):Dd→br
 | .shift x y=>{s with sx:=x,sy:=y}
 | .pot k h=>{s with pots:=s.pots.set k.toNat h}
 | .move i x y=>eW s i fun m=>{m with x:=x,y:=y}
 | .shape i o=>eW s i fun m=>{m with shape:=o}
 | .rank i r=>eW s i fun m=>{m with rank:=r}
 | .turn i t=>eW s i fun m=>{m with turn:=t}
theorem yc (x:Int):mG (.int x):=⟨_,rfl⟩
theorem wB {hi:Int}(h:lo≤x∧x≤hi):bi lo hi (.int x)=true:=by
 show(decide (lo≤x)&&decide (x≤hi))=true
 rw[decide_eq_true h.1,decide_eq_true h.2];rfl
theorem zu {y:Int}(hx:-1000≤x∧x≤1000)(hy:-1000≤y∧y≤1000):aV [.tup [.int x,.int y]] M=.ok (.bl true) M:=by
 rw[uI (xs:=[.int x,.int y]) (fun d hd=>by
  rcases List.mem_cons.mp hd with e|e
  ·rw[e];exact yc x
  ·rw[List.mem_singleton.mp e];exact yc y) (by simp)]
 rw[List.all_cons,List.all_cons,wB hx,wB hy];rfl
variable{o:bg Fl}
theorem zD {w:Str}{r:List D}(hi:i<s.movers.length)
  (h:av (dO (aS (g2 (a7 false) (ae 1) (gC (.str "move")))) (aJ (aq 1 aV (aa (oj (ae 2) (dg (gC (.int 1))) bq) ah))) aM) (av (dO (aS (g2 (a7 true) (aI bJ (aa (ae 2) ah)) (gC (.int 2)))) (aJ (gC (.bl false))) aM) (av (dO (aS (g2 (a7 false) (ae 1) (gC (.str "shape")))) (aJ (aq 2 bQ (aa (ae 5) (aa (g2 aX (ae 2) (gC (.int 1))) ah)))) aM) (av (dO (aS (g2 (a7 false) (ae 1) (gC (.str "rank")))) (aJ (aq 1 io (aa (g2 aX (ae 2) (gC (.int 1))) ah))) aM) (aJ (eC (g2 (a7 false) (ae 1) (gC (.str "turn"))) (aq 1 iu (aa (g2 aX (ae 2) (gC (.int 1))) ah)))))))
   [some s.d,some (.str w),some (.tup (.int i::r)),some (ar s.floor),some (.tup [.int s.sx,.int s.sy]),some (.tup (s.book.map ar)),some (.tup (s.movers.map Mv.d)),some (.tup (s.pots.map D.int))] M=o) :
  ff [s.d,.str w,.tup (.int i::r)] M=aH o:=by
 show aH (fc [some s.d,some (.str w),some (.tup (.int i::r)),none,none,none,none,none] M)=_
 unfold fc
 rw[aw (show cP (bh [3,4,5,6,7]) (ae 0) [some s.d,some (.str w),some (.tup (.int i::r)),none,none,none,none,none] M=.ok (.nx [some s.d,some (.str w),some (.tup (.int i::r)),some (ar s.floor),some (.tup [.int s.sx,.int s.sy]),some (.tup (s.book.map ar)),some (.tup (s.movers.map Mv.d)),some (.tup (s.pots.map D.int))]) M from rfl)]
 have ln:aI bJ (aa (ae 6) ah) [some s.d,some (.str w),some (.tup (.int i::r)),some (ar s.floor),some (.tup [.int s.sx,.int s.sy]),some (.tup (s.book.map ar)),some (.tup (s.movers.map Mv.d)),some (.tup (s.pots.map D.int))] M=.ok (.int (s.movers.length:Int)) M:=by
  refine mJ (a:=ae 6) (x:=.tup (s.movers.map Mv.d)) rfl ?_
  show bg.ok (D.int ((s.movers.map Mv.d).length:Int)) M=_
  rw[List.length_map]
 have w1:=de (lo:=0) (hi:=(s.movers.length:Int)-1) (M:=M) (yc i)
 rw[wB ⟨by omega,by omega⟩] at w1
 rw[aw ((bT (cr (cY (fK (b:=gC (.int 0)) (aN (f:=aX) (a:=ae 2) (b:=gC (.int 0)) (x:=.tup (.int i::r)) (y:=.int 0) rfl rfl (fG (k:=0) rfl)) rfl (aN (f:=fq) ln (b:=gC (.int 1)) (y:=.int 1) rfl rfl) w1)))).trans rfl),h]
theorem Oc {w v:Str}{b:Bool}(k:(PyData.strOk w&&PyData.strOk v&&(decide (w=v)==b))=true):a7 false (.str w) (.str v) M=.ok (.bl b) M:=by
 obtain⟨k1,k3⟩:=Bool.and_eq_true_iff.mp k
 obtain⟨k1,k2⟩:=Bool.and_eq_true_iff.mp k1
 have k3:=beq_iff_eq.mp k3
 subst k3
 have c:∀x:Str,PyData.strOk x=true→aA 40 (.str x)=true:=fun x h=>by simpa using h
 unfold a7
 show(if(aA 40 (.str w)&&aA 40 (.str v))=true then bg.ok (D.bl (gf (.str w) (.str v) != false)) M else .bad)=_
 rw[c w k1,c v k2,if_pos (by rfl)]
 have e:gf (.str w) (.str v)=decide (w=v):=by rw[Bool.eq_iff_iff];simp[gf]
 rw[e,Bool.bne_false]
theorem tW {w v:Str}{b:Bool}(h:ρ[n]?=some (some (.str w)))(k:(PyData.strOk w&&PyData.strOk v&&(decide (w=v)==b))=true):aS (g2 (a7 false) (ae n) (gC (.str v))) ρ M=.ok b M:=by
 refine dF (aN (x:=.str w) (y:=.str v) (M1:=M) (M2:=M) ?_ rfl (Oc k))
 unfold ae
 rw[h]
noncomputable def Gn:GS:=(av (dO (aS (g2 (a7 false) (ae 2) (gC (.str "shift")))) (aJ (aq 1 aV (aa (ae 3) ah))) aM) (av (dO (aS (g2 (a7 false) (ae 2) (gC (.str "pot")))) (aJ (eC (g2 (a7 false) (aI bJ (aa (ae 3) ah)) (gC (.int 2))) (eC (aq 1 jH (aa (g2 aX (ae 3) (gC (.int 0))) ah)) (aq 1 jz (aa (g2 aX (ae 3) (gC (.int 1))) ah))))) aM) (aJ (aq 3 ff (aa (ae 0) (aa (ae 2) (aa (ae 3) ah)))))))
theorem DB {s:D}{w:Str}{a b:D}:bR [s,.tup [.str w,a,b]] M=aH (Gn [some s,some (.tup [.str w,a,b]),some (.str w),some (.tup [a,b])] M):=rfl
theorem Nl {s:D}{w:Str}{a b c:D}:bR [s,.tup [.str w,a,b,c]] M=aH (Gn [some s,some (.tup [.str w,a,b,c]),some (.str w),some (.tup [a,b,c])] M):=rfl
theorem Hz {o:Option Nat}(h:∀k,o=some k→k<n):yy n (pe o)=true:=by
 cases o with
 | none=>rfl
 | some k=>
  have:=h k rfl
  show(decide ((0:Int)≤(k:Int))&&decide ((k:Int)≤(n:Int)-1))=true
  rw[decide_eq_true (by omega),decide_eq_true (by omega)];rfl
theorem JI (o:Option Nat):mG (pe o):=by cases o <;> exact⟨_,rfl⟩
variable{dd:Dd}
theorem tq (h:oG s dd):bR [s.d,dd.d] M=.ok (.bl true) M:=by
 cases dd with
 | shift x y=>
  show bR [s.d,.tup [.str "shift",.int x,.int y]] M=_
  rw[DB]
  unfold Gn
  rw[bS ((cO (tW rfl (by decide +kernel))).trans (aZ (dJ (a:=ae 3) rfl (zu h.1 h.2))))];rfl
 | pot k hu=>
  have k1:=BE (M:=M) (yc k)
  have k2:=Dc (M:=M) (yc hu)
  rw[wB h.1] at k1
  rw[wB h.2] at k2
  show bR [s.d,.tup [.str "pot",.int k,.int hu]] M=_
  rw[DB]
  unfold Gn
  rw[aw ((bT (tW rfl (by decide +kernel))).trans rfl),bS ((cO (tW rfl (by decide +kernel))).trans (aZ (bW (x:=true) (y:=true) rfl fun _=>bW (x:=true) (y:=true) (dJ (a:=g2 aX (ae 3) (gC (.int 0))) rfl k1) fun _=>dJ (a:=g2 aX (ae 3) (gC (.int 1))) rfl k2)))];rfl
 | move i x y=>
  have md:=zD (s:=s) (w:="move") (r:=[.int x,.int y]) (M:=M) h.1 (bS ((cO (tW rfl (by decide +kernel))).trans (aZ (dJ (a:=oj (ae 2) (dg (gC (.int 1))) bq) (x:=.tup [.int x,.int y]) rfl (zu h.2.1 h.2.2)))))
  show bR [s.d,.tup [.str "move",.int i,.int x,.int y]] M=_
  rw[Nl]
  unfold Gn
  rw[aw ((bT (tW rfl (by decide +kernel))).trans rfl),aw ((bT (tW rfl (by decide +kernel))).trans rfl),aZ (fK (a:=ae 0) (b:=ae 2) (c:=ae 3) rfl rfl rfl md)];rfl
 | shape i o=>
  have nn:=sK (bk:=s.book.map ar) (M:=M) (JI o)
  rw[List.length_map,Hz h.2] at nn
  have md:=zD (s:=s) (w:="shape") (r:=[pe o]) (M:=M) h.1 ((aw ((bT (tW rfl (by decide +kernel))).trans rfl)).trans ((aw ((bT (M1:=M) rfl).trans rfl)).trans (bS ((cO (tW rfl (by decide +kernel))).trans (aZ (fD (a:=ae 5) (b:=g2 aX (ae 2) (gC (.int 1))) (y:=pe o) rfl rfl nn))))))
  show bR [s.d,.tup [.str "shape",.int i,pe o]] M=_
  rw[DB]
  unfold Gn
  rw[aw ((bT (tW rfl (by decide +kernel))).trans rfl),aw ((bT (tW rfl (by decide +kernel))).trans rfl),aZ (fK (a:=ae 0) (b:=ae 2) (c:=ae 3) rfl rfl rfl md)];rfl
 | rank i r=>
  have nn:=nD (M:=M) (yc r)
  rw[wB h.2] at nn
  have md:=zD (s:=s) (w:="rank") (r:=[.int r]) (M:=M) h.1 ((aw ((bT (tW rfl (by decide +kernel))).trans rfl)).trans ((aw ((bT (M1:=M) rfl).trans rfl)).trans ((aw ((bT (tW rfl (by decide +kernel))).trans rfl)).trans (bS ((cO (tW rfl (by decide +kernel))).trans (aZ (dJ (a:=g2 aX (ae 2) (gC (.int 1))) (x:=.int r) rfl nn)))))))
  show bR [s.d,.tup [.str "rank",.int i,.int r]] M=_
  rw[DB]
  unfold Gn
  rw[aw ((bT (tW rfl (by decide +kernel))).trans rfl),aw ((bT (tW rfl (by decide +kernel))).trans rfl),aZ (fK (a:=ae 0) (b:=ae 2) (c:=ae 3) rfl rfl rfl md)];rfl
 | turn i r=>
  have nn:=tM (M:=M) (yc r)
  rw[wB h.2] at nn
  have md:=zD (s:=s) (w:="turn") (r:=[.int r]) (M:=M) h.1 ((aw ((bT (tW rfl (by decide +kernel))).trans rfl)).trans ((aw ((bT (M1:=M) rfl).trans rfl)).trans ((aw ((bT (tW rfl (by decide +kernel))).trans rfl)).trans ((aw ((bT (tW rfl (by decide +kernel))).trans rfl)).trans (aZ (bW (x:=true) (y:=true) (aN (a:=ae 1) (b:=gC (.str "turn")) (x:=.str "turn") (y:=.str "turn") rfl rfl (Oc (by decide +kernel))) fun _=>dJ (a:=g2 aX (ae 2) (gC (.int 1))) (x:=.int r) rfl nn))))))
  show bR [s.d,.tup [.str "turn",.int i,.int r]] M=_
  rw[DB]
  unfold Gn
  rw[aw ((bT (tW rfl (by decide +kernel))).trans rfl),aw ((bT (tW rfl (by decide +kernel))).trans rfl),aZ (fK (a:=ae 0) (b:=ae 2) (c:=ae 3) rfl rfl rfl md)];rfl
theorem um (m:Mv):m.d=.tup [pe m.shape,.int m.x,.int m.y,.int m.rank,.int m.turn]:=by
 unfold Mv.d pe
 cases m.shape <;> rfl
theorem ES (a b c d e:D):iZ [a,b,c,d,e] 2=some c:=rfl
theorem Ar (a b c d e:D):iZ [a,b,c,d,e] 3=some d:=rfl
theorem HZ (a b c d e:D):iZ [a,b,c,d,e] 4=some e:=rfl
theorem ya (ok:bt mm s)(hm:mm≤900)(hw:0≤w∧w≤900)(hh2:0≤hh∧hh≤900)(hM:fm l rest M) :
  ∃dd M',oG s dd∧fm l rest M'∧dZ [.mr 0,.tup (.int w::.int hh::more),s.d] M=.ok dd.d M':=by
 obtain⟨way,M1,a1,b1,t1,e1⟩:=bb (many:=8) (by decide) (aL (by decide) (by decide)) hM
 have ml:=ok.ml
 have l3:(3:Nat)≤sizeLine:=aE (by decide)
 have l4:(4:Nat)≤sizeLine:=aE (by decide)
 have l2:(2:Nat)≤sizeLine:=aE (by decide)
 have lg2:Nat.log2 2<9000:=by decide
 have cm:bU 39 (s.movers.map Mv.d)=true:=iI fun d hd=>by
  obtain⟨m,_,rfl⟩:=List.mem_map.mp hd
  rw[um]
  have:aA 38 (pe m.shape)=true:=by cases m.shape <;> rfl
  simp[this]
 have en:gf (.tup (s.movers.map Mv.d)) (.tup [])=decide (s.movers=[]):=by
  cases s.movers <;> simp
 by_cases hc:way<2∨s.movers=[]
 ·obtain⟨x,M2,a2,t2,e2⟩:=ou (size:=9) (by decide) (by decide) t1
  obtain⟨y,M3,a3,t3,e3⟩:=ou (size:=9) (by decide) (by decide) t2
  obtain⟨k,M4,a4,b4,t4,e4⟩:=bb (many:=16) (by decide) (aL (by decide) (by decide)) t3
  obtain⟨hu,M5,a5,b5,t5,e5⟩:=bb (many:=64) (by decide) (aL (by decide) (by decide)) t4
  have w2:way % 2=0∨way % 2=1:=by omega
  rcases w2 with w2|w2
  ·refine⟨.shift x y,M5,⟨a2,a3⟩,t5,?_⟩
   have i0:∀a b:D,iZ [a,b] 0=some a:=fun _ _=>rfl
   unfold dZ fA
   by_cases h2:way<2
   ·simp_arith [br.d,e1,e2,e3,e4,e5,h2,l2,l3,lg2,w2,i0,Dd.d]
   ·have h0:s.movers=[]:=hc.resolve_left h2
    simp_arith [br.d,Ar,a7,e1,e2,e3,e4,e5,h2,h0,l2,l3,lg2,w2,i0,Dd.d]
  ·refine⟨.pot k hu,M5,⟨⟨a4,by omega⟩,a5,by omega⟩,t5,?_⟩
   have i0:∀a b:D,iZ [a,b] 1=some b:=fun _ _=>rfl
   unfold dZ fA
   by_cases h2:way<2
   ·simp_arith [br.d,e1,e2,e3,e4,e5,h2,l2,l3,lg2,w2,i0,Dd.d]
   ·have h0:s.movers=[]:=hc.resolve_left h2
    simp_arith [br.d,Ar,a7,e1,e2,e3,e4,e5,h2,h0,l2,l3,lg2,w2,i0,Dd.d]
 ·have h2:¬way<2:=fun z=>hc (.inl z)
  have h0:¬s.movers=[]:=fun z=>hc (.inr z)
  have hp:0<s.movers.length:=List.length_pos_iff.mpr h0
  obtain⟨n,M2,a2,b2,t2,e2⟩:=bb (many:=(s.movers.length:Int)) (by omega) (aL (by omega) (by omega)) t1
  obtain⟨m,M3,mo,t3,e3⟩:=wt (more:=more) (n:=s.book.length) hw hh2 (by have:=ok.bl;omega) t2
  obtain⟨i,rfl⟩:=Int.eq_ofNat_of_zero_le a2
  have hi:i<s.movers.length:=by omega
  rw[um] at e3
  have i5:=fun a b c d e:D=>Mw a [b,c,d,e]
  by_cases h5:way<5
  ·refine⟨.move i m.x m.y,M3,⟨hi,mo.x,mo.y⟩,t3,?_⟩
   unfold dZ fA
   simp_arith [br.d,ES,Ar,a7,e1,e2,e3,cm,en,h0,h2,h5,l4,MB,Mj,Dd.d]
  ·have w3:way-5=0∨way-5=1∨way-5=2:=by omega
   unfold dZ fA
   rcases w3 with w3|w3|w3
   ·refine⟨.shape i m.shape,M3,⟨hi,mo.s⟩,t3,?_⟩
    have i0:∀a b c:D,iZ [a,b,c] 0=some a:=fun _ _ _=>rfl
    simp_arith [br.d,ES,Ar,HZ,a7,e1,e2,e3,cm,en,h0,h2,h5,l3,Mw,MB,Mj,NG,w3,i0,Dd.d]
   ·refine⟨.rank i m.rank,M3,⟨hi,mo.r⟩,t3,?_⟩
    have i0:∀a b c:D,iZ [a,b,c] 1=some b:=fun _ _ _=>rfl
    simp_arith [br.d,ES,Ar,HZ,a7,e1,e2,e3,cm,en,h0,h2,h5,l3,Mw,MB,Mj,NG,w3,i0,Dd.d]
   ·refine⟨.turn i m.turn,M3,⟨hi,mo.t⟩,t3,?_⟩
    have i0:∀a b c:D,iZ [a,b,c] 2=some c:=fun _ _ _=>rfl
    simp_arith [br.d,ES,Ar,HZ,a7,e1,e2,e3,cm,en,h0,h2,h5,l3,Mw,MB,Mj,NG,w3,i0,Dd.d]
variable{f:Mv→Mv}
theorem nI (ok:bt mm s)(hf:∀m,yE s.book.length m→yE s.book.length (f m)):bt mm (eW s i f):=by
 unfold eW
 split
 ·rename_i m hm
  refine⟨ok.floor,ok.sx,ok.sy,ok.bl,ok.book,by simpa using ok.ml,fun m' h'=>?_,ok.pl,ok.pots⟩
  rcases List.mem_or_eq_of_mem_set h' with q|q
  ·exact ok.movers m' q
  ·rw[q];exact hf m (ok.movers m (List.mem_of_getElem? hm))
 ·exact ok
theorem u9 (ok:bt mm s)(h:oG s dd):bt mm (b9 s dd):=by
 cases dd with
 | shift x y=>exact⟨ok.floor,h.1,h.2,ok.bl,ok.book,ok.ml,ok.movers,ok.pl,ok.pots⟩
 | pot k hu=>
  refine⟨ok.floor,ok.sx,ok.sy,ok.bl,ok.book,ok.ml,ok.movers,by simpa[b9] using ok.pl,fun q hq=>?_⟩
  rcases List.mem_or_eq_of_mem_set hq with z|z
  ·exact ok.pots q z
  ·rw[z];exact h.2
 | move i x y=>exact nI ok fun m hm=>⟨hm.s,h.2.1,h.2.2,hm.r,hm.t⟩
 | shape i o=>exact nI ok fun m hm=>⟨h.2,hm.x,hm.y,hm.r,hm.t⟩
 | rank i r=>exact nI ok fun m hm=>⟨hm.s,hm.x,hm.y,h.2,hm.t⟩
 | turn i t=>exact nI ok fun m hm=>⟨hm.s,hm.x,hm.y,hm.r,h.2⟩
theorem zS (xs:List D)(i:Nat)(x:D)(h:i<xs.length):xs.take i++[x]++xs.drop (i+1)=xs.set i x:=by
 rw[List.set_eq_take_append_cons_drop,if_pos h];simp
theorem oP {x:D}(h:i<xs.length)(hl:xs.length≤2000):dU [.tup xs,.int i,x] M=.ok (.tup (xs.set i x)) M:=by
 have c1:=xk xs i
 have c2:gV xs (some ((i:Int)+1)) none=xs.drop (i+1):=we xs (i+1)
 have sp:=zS xs i x h
 have l1:(1:Nat)≤sizeLine:=aE (by decide)
 have l2:min i xs.length+1≤sizeLine:=aE (by omega)
 have l3:min i xs.length+1+(xs.length-(i+1))≤sizeLine:=aE (by omega)
 simp only[List.append_assoc] at sp
 unfold dU lB
 simp_arith [c1,c2,l1,l2,l3]
 simpa using sp
theorem sB (n:Nat)(rs:List (List Int)):aR (n+3) (ar rs)=true:=by
 unfold ar
 rw[im,List.all_map,List.all_eq_true]
 intro r _
 show aR (n+2) (.tup (r.map D.int))=true
 rw[im]
 exact gq n r
theorem zt (n:Nat)(m:Mv):aR (n+2) m.d=true:=by
 unfold Mv.d
 rw[im]
 cases m.shape <;> rfl
theorem xb (s:br):aR 30 s.d=true:=by
 have p1:=sB 26 s.floor
 have p2:(s.book.map ar).all (aR 28)=true:=by
  rw[List.all_map,List.all_eq_true]
  intro b _
  exact sB 25 b
 have p3:(s.movers.map Mv.d).all (aR 28)=true:=by
  rw[List.all_map,List.all_eq_true]
  intro m _
  exact zt 26 m
 have p4:=gq 27 s.pots
 unfold br.d
 simp only[im,List.all_cons,List.all_nil,p1,p2,p3,p4]
 rfl
theorem pH {m:Mv}(gm:s.movers[i]?=some m):(eW s i f).d=.tup [ar s.floor,.tup [.int s.sx,.int s.sy],.tup (s.book.map ar),.tup ((s.movers.map Mv.d).set i (f m).d),.tup (s.pots.map D.int)]:=by
 have e:eW s i f={s with movers:=s.movers.set i (f m)}:=by unfold eW;rw[gm]
 rw[e]
 unfold br.d
 simp only[List.map_set]
noncomputable def MC:GS:=(av (dO (aS (g2 (a7 false) (ae 7) (gC (.str "shift")))) (aJ (aO (aa (ae 2) (aa (oj (ae 1) (dg (gC (.int 1))) bq) (aa (ae 4) (aa (ae 5) (aa (ae 6) ah))))))) aM) (av (dO (aS (g2 (a7 false) (ae 7) (gC (.str "pot")))) (aJ (aO (aa (ae 2) (aa (ae 3) (aa (ae 4) (aa (ae 5) (aa (aq 3 dU (aa (ae 6) (aa (g2 aX (ae 1) (gC (.int 1))) (aa (g2 aX (ae 1) (gC (.int 2))) ah)))) ah))))))) aM) (av (aU 8 (g2 aX (ae 1) (gC (.int 1)))) (av (aU 9 (aq 3 bE (aa (g2 aX (ae 5) (ae 8)) (aa (ae 7) (aa (oj (ae 1) (dg (gC (.int 2))) bq) ah))))) (aJ (aO (aa (ae 2) (aa (ae 3) (aa (ae 4) (aa (aq 3 dU (aa (ae 5) (aa (ae 8) (aa (ae 9) ah)))) (aa (ae 6) ah)))))))))))
theorem CJ {w:Str}{r:List D}(h:bR [s.d,.tup (.str w::r)] M=.ok (.bl true) M)(e:MC [some s.d,some (.tup (.str w::r)),some (ar s.floor),some (.tup [.int s.sx,.int s.sy]),some (.tup (s.book.map ar)),some (.tup (s.movers.map Mv.d)),some (.tup (s.pots.map D.int)),some (.str w),none,none] M=o):cW [s.d,.tup (.str w::r)] M=aH o:=by
 show aH (fY [some s.d,some (.tup (.str w::r)),none,none,none,none,none,none,none,none] M)=_
 unfold fY
 rw[aw ((bT (cr (cY (fD (a:=ae 0) (b:=ae 1) rfl rfl h)))).trans rfl)]
 rw[aw (show cP (bh [2,3,4,5,6]) (ae 0) [some s.d,some (.tup (.str w::r)),none,none,none,none,none,none,none,none] M=.ok (.nx [some s.d,some (.tup (.str w::r)),some (ar s.floor),some (.tup [.int s.sx,.int s.sy]),some (.tup (s.book.map ar)),some (.tup (s.movers.map Mv.d)),some (.tup (s.pots.map D.int)),none,none,none]) M from rfl)]
 rw[aw (bA (aN (f:=aX) (a:=ae 1) (b:=gC (.int 0)) (x:=.tup (.str w::r)) (y:=.int 0) (o:=.ok (.str w) M) rfl rfl (fG (k:=0) rfl)))]
 exact congrArg aH e
theorem yY {w:Str}{r:List D}{m m2:D}(h:bR [s.d,.tup (.str w::.int i::r)] M=.ok (.bl true) M)(hl:(s.movers.map Mv.d).length≤2000)(k1:(PyData.strOk w&&PyData.strOk "shift"&&(decide (w="shift")==false))=true)(k2:(PyData.strOk w&&PyData.strOk "pot"&&(decide (w="pot")==false))=true)
  (gm:(s.movers.map Mv.d)[i]?=some m) (sl:gV (.str w::.int i::r) (some 2) none=r) (mb:bE [m,.str w,.tup r] M=.ok m2 M) :
  cW [s.d,.tup (.str w::.int i::r)] M=.ok (.tup [ar s.floor,.tup [.int s.sx,.int s.sy],.tup (s.book.map ar),.tup ((s.movers.map Mv.d).set i m2),.tup (s.pots.map D.int)]) M:=by
 have hi:=(List.getElem?_eq_some_iff.mp gm).1
 refine CJ (o:=.ok (.rt (.tup [ar s.floor,.tup [.int s.sx,.int s.sy],.tup (s.book.map ar),.tup ((s.movers.map Mv.d).set i m2),.tup (s.pots.map D.int)])) M) h ?_
 unfold MC
 rw[aw ((bT (tW rfl k1)).trans rfl),aw ((bT (tW rfl k2)).trans rfl)]
 rw[aw (bA (aN (f:=aX) (a:=ae 1) (b:=gC (.int 1)) (x:=.tup (.str w::.int i::r)) (y:=.int 1) (o:=.ok (.int i) M) rfl rfl (fG (k:=1) rfl)))]
 have c3:oj (ae 1) (dg (gC (.int 2))) bq [some s.d,some (.tup (.str w::.int i::r)),some (ar s.floor),some (.tup [.int s.sx,.int s.sy]),some (.tup (s.book.map ar)),some (.tup (s.movers.map Mv.d)),some (.tup (s.pots.map D.int)),some (.str w),some (.int i),none] M=.ok (.tup r) M:=by
  show bg.ok (D.tup (gV (.str w::.int i::r) (some 2) none)) M=_
  rw[sl]
 show av _ _ [some s.d,some (.tup (.str w::.int i::r)),some (ar s.floor),some (.tup [.int s.sx,.int s.sy]),some (.tup (s.book.map ar)),some (.tup (s.movers.map Mv.d)),some (.tup (s.pots.map D.int)),some (.str w),some (.int i),none] M=_
 rw[aw (bA (fK (b:=ae 7) (aN (f:=aX) (a:=ae 5) (b:=ae 8) (x:=.tup (s.movers.map Mv.d)) (y:=.int i) (o:=.ok m M) rfl rfl (fG gm)) rfl c3 mb))]
 exact aZ (cK (ds:=[ar s.floor,.tup [.int s.sx,.int s.sy],.tup (s.book.map ar),.tup ((s.movers.map Mv.d).set i m2),.tup (s.pots.map D.int)]) (aG rfl (aG rfl (aG rfl (aG (fK (a:=ae 5) (b:=ae 8) (c:=ae 9) rfl rfl rfl (oP hi hl)) (aG rfl rfl))))) (show 5≤100000 by decide))
theorem Ml {a b c d e:D}{w:Str}{r:List D}(h:(av (dO (aS (g2 (a7 false) (ae 1) (gC (.str "move")))) (aJ (aO (aa (ae 3) (aa (g2 aX (ae 2) (gC (.int 0))) (aa (g2 aX (ae 2) (gC (.int 1))) (aa (ae 6) (aa (ae 7) ah))))))) aM) (av (dO (aS (g2 (a7 false) (ae 1) (gC (.str "shape")))) (aJ (aO (aa (g2 aX (ae 2) (gC (.int 0))) (aa (ae 4) (aa (ae 5) (aa (ae 6) (aa (ae 7) ah))))))) aM) (av (dO (aS (g2 (a7 false) (ae 1) (gC (.str "rank")))) (aJ (aO (aa (ae 3) (aa (ae 4) (aa (ae 5) (aa (g2 aX (ae 2) (gC (.int 0))) (aa (ae 7) ah))))))) aM) (aJ (aO (aa (ae 3) (aa (ae 4) (aa (ae 5) (aa (ae 6) (aa (g2 aX (ae 2) (gC (.int 0))) ah))))))))))
  [some (.tup [a,b,c,d,e]),some (.str w),some (.tup r),some a,some b,some c,some d,some e] M=o):bE [.tup [a,b,c,d,e],.str w,.tup r] M=aH o:=by rw[←h];rfl
theorem Fc {a b c d e x y:D}:bE [.tup [a,b,c,d,e],.str "move",.tup [x,y]] M=.ok (.tup [a,x,y,d,e]) M:=
 Ml (o:=.ok (.rt (.tup [a,x,y,d,e])) M) (bS ((cO (tW rfl (by decide +kernel))).trans (aZ (cK rfl (show 5≤100000 by decide)))))
theorem Bg {a b c d e x:D}:bE [.tup [a,b,c,d,e],.str "shape",.tup [x]] M=.ok (.tup [x,b,c,d,e]) M:=
 Ml (o:=.ok (.rt (.tup [x,b,c,d,e])) M) ((aw ((bT (tW rfl (by decide +kernel))).trans rfl)).trans (bS ((cO (tW rfl (by decide +kernel))).trans (aZ (cK rfl (show 5≤100000 by decide))))))
theorem ET {a b c d e x:D}:bE [.tup [a,b,c,d,e],.str "rank",.tup [x]] M=.ok (.tup [a,b,c,x,e]) M:=
 Ml (o:=.ok (.rt (.tup [a,b,c,x,e])) M) ((aw ((bT (tW rfl (by decide +kernel))).trans rfl)).trans ((aw ((bT (tW rfl (by decide +kernel))).trans rfl)).trans (bS ((cO (tW rfl (by decide +kernel))).trans (aZ (cK rfl (show 5≤100000 by decide)))))))
theorem Fv {a b c d e x:D}:bE [.tup [a,b,c,d,e],.str "turn",.tup [x]] M=.ok (.tup [a,b,c,d,x]) M:=
 Ml (o:=.ok (.rt (.tup [a,b,c,d,x])) M) ((aw ((bT (tW rfl (by decide +kernel))).trans rfl)).trans ((aw ((bT (tW rfl (by decide +kernel))).trans rfl)).trans ((aw ((bT (tW rfl (by decide +kernel))).trans rfl)).trans (aZ (cK rfl (show 5≤100000 by decide))))))
theorem xM (ok:bt mm s)(hm:mm≤900)(h:oG s dd):cW [s.d,dd.d] M=.ok (b9 s dd).d M:=by
 have id1:=tq (M:=M) h
 have ml:=ok.ml
 have hl:(s.movers.map Mv.d).length≤2000:=by rw[List.length_map];omega
 have mv:∀(i:Nat) (hi:i<s.movers.length),∃m,s.movers[i]?=some m∧(s.movers.map Mv.d)[i]?=some (.tup [pe m.shape,.int m.x,.int m.y,.int m.rank,.int m.turn]):=fun i hi=>
  ⟨s.movers[i],List.getElem?_eq_getElem hi,by rw[List.getElem?_map,List.getElem?_eq_getElem hi,←um];rfl⟩
 cases dd with
 | shift x y=>
  refine CJ (w:="shift") (r:=[.int x,.int y]) (o:=.ok (.rt (b9 s (.shift x y)).d) M) id1 ?_
  unfold MC
  exact bS ((cO (tW rfl (by decide +kernel))).trans (aZ (cK (ds:=[ar s.floor,.tup [.int x,.int y],.tup (s.book.map ar),.tup (s.movers.map Mv.d),.tup (s.pots.map D.int)]) rfl (show 5≤100000 by decide))))
 | pot k hu=>
  obtain⟨kn,rfl⟩:=Int.eq_ofNat_of_zero_le h.1.1
  have hk:kn<16:=by have:=h.1.2;omega
  have w:=oP (xs:=s.pots.map D.int) (i:=kn) (x:=.int hu) (M:=M) (by rw[List.length_map,ok.pl];omega) (by rw[List.length_map,ok.pl];omega)
  have e:(b9 s (.pot kn hu)).d=.tup [ar s.floor,.tup [.int s.sx,.int s.sy],.tup (s.book.map ar),.tup (s.movers.map Mv.d),.tup ((s.pots.map D.int).set kn (.int hu))]:=by
   show D.tup [ar s.floor,.tup [.int s.sx,.int s.sy],.tup (s.book.map ar),.tup (s.movers.map Mv.d),.tup ((s.pots.set kn hu).map D.int)]=_
   rw[List.map_set]
  rw[e]
  refine CJ (w:="pot") (r:=[.int kn,.int hu]) (o:=.ok (.rt (.tup [ar s.floor,.tup [.int s.sx,.int s.sy],.tup (s.book.map ar),.tup (s.movers.map Mv.d),.tup ((s.pots.map D.int).set kn (.int hu))])) M) id1 ?_
  unfold MC
  rw[aw ((bT (tW rfl (by decide +kernel))).trans rfl)]
  exact bS ((cO (tW rfl (by decide +kernel))).trans (aZ (cK (ds:=[ar s.floor,.tup [.int s.sx,.int s.sy],.tup (s.book.map ar),.tup (s.movers.map Mv.d),.tup ((s.pots.map D.int).set kn (.int hu))]) (aG rfl (aG rfl (aG rfl (aG rfl (aG (fK (a:=ae 6) (b:=g2 aX (ae 1) (gC (.int 1))) (c:=g2 aX (ae 1) (gC (.int 2))) rfl rfl rfl w) rfl))))) (show 5≤100000 by decide))))
 | move i x y=>
  obtain⟨m,gm,am⟩:=mv i h.1
  show _=bg.ok (eW s i fun m=>{m with x:=x,y:=y}).d M
  rw[pH gm,um]
  exact yY (w:="move") (r:=[.int x,.int y]) id1 hl (by decide +kernel) (by decide +kernel) am rfl Fc
 | shape i o=>
  obtain⟨m,gm,am⟩:=mv i h.1
  show _=bg.ok (eW s i fun m=>{m with shape:=o}).d M
  rw[pH gm,um]
  exact yY (w:="shape") (r:=[pe o]) id1 hl (by decide +kernel) (by decide +kernel) am rfl Bg
 | rank i r=>
  obtain⟨m,gm,am⟩:=mv i h.1
  show _=bg.ok (eW s i fun m=>{m with rank:=r}).d M
  rw[pH gm,um]
  exact yY (w:="rank") (r:=[.int r]) id1 hl (by decide +kernel) (by decide +kernel) am rfl ET
 | turn i t=>
  obtain⟨m,gm,am⟩:=mv i h.1
  show _=bg.ok (eW s i fun m=>{m with turn:=t}).d M
  rw[pH gm,um]
  exact yY (w:="turn") (r:=[.int t]) id1 hl (by decide +kernel) (by decide +kernel) am rfl Fv
structure Bs where
 st:D
 t:Int
 tk:D
 rows:List (List Int)
 tch:List (List dB×D)
 grd:List (dB×D)
 lost:List D
noncomputable def cg (fr:D)(b:Nat)(B:Bs):List (Str×D):=[("frame",fr),("standing",B.st),("ahead",.int B.t),("row_taken",B.tk),("laid_rows",.mr (b+1)),("first_touches",.mr (b+2)),("first_grounds",.mr (b+3)),("lost_pairs",.mr (b+4))]
noncomputable def gQ (b n:Nat):List D:=(List.range n).map fun i=>D.mr (b+5+i)
noncomputable def wJ (r:List Int):MO:=.lst (r.map D.int)
noncomputable def tQ (fr:D)(b:Nat)(B:Bs):aB:=.obj "Beam" (cg fr b B)::.lst (gQ b B.rows.length)::.dT B.tch::.dK B.grd::.lst B.lost::B.rows.map wJ
noncomputable def ao (M0:aB)(fr:D)(B:Bs):aB:=M0++tQ fr M0.length B
variable{b:Nat}{t:Int}{st:D}
section
variable {M0:aB}{fr:D}{B:Bs}
theorem tL (k:Nat):(ao M0 fr B)[M0.length+k]?=(tQ fr M0.length B)[k]?:=by
 unfold ao
 rw[List.getElem?_append_right (by omega),Nat.add_sub_cancel_left]
theorem l9 (k:Nat)(o:MO):(ao M0 fr B).set (M0.length+k) o=M0++(tQ fr M0.length B).set k o:=by
 unfold ao
 rw[List.set_append_right _ _ (by omega),Nat.add_sub_cancel_left]
theorem eN:(ao M0 fr B)[M0.length]?=some (.obj "Beam" (cg fr M0.length B)):=tL 0
theorem Bi:(ao M0 fr B)[M0.length+1]?=some (.lst (gQ M0.length B.rows.length)):=tL 1
theorem Kx:(ao M0 fr B)[M0.length+2]?=some (.dT B.tch):=tL 2
theorem Kv:(ao M0 fr B)[M0.length+3]?=some (.dK B.grd):=tL 3
theorem MJ:(ao M0 fr B)[M0.length+4]?=some (.lst B.lost):=tL 4
theorem xB (h:B.rows[i]?=some r):(ao M0 fr B)[M0.length+5+i]?=some (wJ r):=by
 rw[Nat.add_assoc,tL,show 5+i=i+5 by omega]
 show(B.rows.map wJ)[i]?=_
 rw[List.getElem?_map,h];rfl
theorem xx:(ao M0 fr B).length=M0.length+5+B.rows.length:=by
 unfold ao tQ
 simp only[List.length_append,List.length_cons,List.length_map]
 omega
theorem nE :(cg fr b B).lookup ("frame":Str)=some (fr:D):=rfl
theorem Ce :(cg fr b B).lookup ("standing":Str)=some (B.st:D):=rfl
theorem xL :(cg fr b B).lookup ("ahead":Str)=some ((.int B.t):D):=rfl
theorem Gb :(cg fr b B).lookup ("row_taken":Str)=some (B.tk:D):=rfl
theorem uz :(cg fr b B).lookup ("laid_rows":Str)=some ((.mr (b+1)):D):=rfl
theorem Hi :(cg fr b B).lookup ("first_touches":Str)=some ((.mr (b+2)):D):=rfl
theorem G7 :(cg fr b B).lookup ("first_grounds":Str)=some ((.mr (b+3)):D):=rfl
theorem EZ :(cg fr b B).lookup ("lost_pairs":Str)=some ((.mr (b+4)):D):=rfl
theorem Kg :(ao M0 fr B).set M0.length (.obj "Beam" (eX "ahead" (.int t) (cg fr M0.length B)))=ao M0 fr {B with t:=t}:=by
 have e:eX "ahead" (.int t) (cg fr M0.length B)=cg fr M0.length {B with t:=t}:=rfl
 rw[e];exact l9 0 _
theorem Jr {tk:D}:(ao M0 fr B).set M0.length (.obj "Beam" (eX "row_taken" tk (cg fr M0.length B)))=ao M0 fr {B with tk:=tk}:=by
 have e:eX "row_taken" tk (cg fr M0.length B)=cg fr M0.length {B with tk:=tk}:=rfl
 rw[e];exact l9 0 _
theorem Je :(ao M0 fr B).set M0.length (.obj "Beam" (eX "standing" st (cg fr M0.length B)))=ao M0 fr {B with st:=st}:=by
 have e:eX "standing" st (cg fr M0.length B)=cg fr M0.length {B with st:=st}:=rfl
 rw[e];exact l9 0 _
theorem Ao:(ao M0 fr B).set M0.length (.obj "Beam" (eX "lost_pairs" (.mr (M0.length+4)) (cg fr M0.length B)))=ao M0 fr B:=by
 have e:eX "lost_pairs" (.mr (M0.length+4)) (cg fr M0.length B)=cg fr M0.length B:=rfl
 rw[e];exact p5 eN
theorem FL {x:List (List dB×D)}:(ao M0 fr B).set (M0.length+2) (.dT x)=ao M0 fr {B with tch:=x}:=l9 2 _
theorem El {x:List (dB×D)}:(ao M0 fr B).set (M0.length+3) (.dK x)=ao M0 fr {B with grd:=x}:=l9 3 _
theorem C4 {x:List D}:(ao M0 fr B).set (M0.length+4) (.lst x)=ao M0 fr {B with lost:=x}:=l9 4 _
theorem DV :(ao M0 fr B).set (M0.length+5+i) (wJ r)=ao M0 fr {B with rows:=B.rows.set i r}:=by
 rw[Nat.add_assoc,l9,show 5+i=i+5 by omega]
 show M0++(_::_::_::_::_::(B.rows.map wJ).set i (wJ r))=_
 rw[←List.map_set]
 unfold ao tQ cg
 rw[List.length_set]
theorem FQ:((ao M0 fr B)++[MO.lst []]).set (M0.length+1) (MO.lst (gQ M0.length B.rows.length++[D.mr (ao M0 fr B).length]))=ao M0 fr {B with rows:=B.rows++[[]]}:=by
 rw[xx]
 unfold ao
 rw[List.append_assoc,List.set_append_right _ _ (by omega),Nat.add_sub_cancel_left]
 have e:gQ M0.length B.rows.length++[D.mr (M0.length+5+B.rows.length)]=gQ M0.length (B.rows++[[]]).length:=by
  unfold gQ
  rw[List.length_append,List.length_singleton,List.range_succ,List.map_append];rfl
 rw[e]
 show M0++(_::_::_::_::_::(B.rows.map wJ++[.lst []]))=M0++(_::_::_::_::_::((B.rows++[[]]).map wJ))
 rw[List.map_append];rfl
structure Bs.Pure (B:Bs):Prop where
 st:aR 30 B.st=true
 tk:aR 30 B.tk=true
 tch:∀p∈B.tch,aR 30 p.2=true
 grd:∀p∈B.grd,aR 30 p.2=true
 lost:∀p∈B.lost,aR 30 p=true
theorem lG (h0:iO M0)(hf:aR 30 fr=true)(p:B.Pure):iO (ao M0 fr B):=by
 have hl:(ao M0 fr B).length=M0.length+5+B.rows.length:=xx
 unfold iO
 rw[hl]
 unfold ao
 rw[List.all_append,Bool.and_eq_true]
 refine⟨List.all_eq_true.mpr fun x hx=>Aq (by omega) (List.all_eq_true.mp h0 x hx),?_⟩
 unfold tQ
 simp only[List.all_cons,Bool.and_eq_true]
 have f:∀k:Nat,k≤4→f7 (M0.length+5+B.rows.length) 30 (.mr (M0.length+k))=true:=fun k hk=>decide_eq_true (by omega)
 refine⟨?_,?_,?_,?_,?_,?_⟩
 ·show(cg fr M0.length B).all (fun p=>f7 (M0.length+5+B.rows.length) 30 p.2)=true
  unfold cg
  simp only[List.all_cons,List.all_nil,Bool.and_eq_true]
  exact⟨cZ 30 _ hf,cZ 30 _ p.st,rfl,cZ 30 _ p.tk,f 1 (by decide),f 2 (by decide),f 3 (by decide),f 4 (by decide),trivial⟩
 ·show(gQ M0.length B.rows.length).all (f7 (M0.length+5+B.rows.length) 30)=true
  refine List.all_eq_true.mpr fun x hx=>?_
  obtain⟨i,hi,rfl⟩:=List.mem_map.mp hx
  exact decide_eq_true (by have:=List.mem_range.mp hi;omega)
 ·exact List.all_eq_true.mpr fun x hx=>cZ 30 _ (p.tch x hx)
 ·exact List.all_eq_true.mpr fun x hx=>cZ 30 _ (p.grd x hx)
 ·exact List.all_eq_true.mpr fun x hx=>cZ 30 _ (p.lost x hx)
 ·refine List.all_eq_true.mpr fun x hx=>?_
  obtain⟨r,_,rfl⟩:=List.mem_map.mp hx
  exact sQ (gq 29 r)
end
theorem oX :iW [aT w h g m] M=.ok (.int (w+g)) M:=rfl
theorem eV (k:iN w h g m):bV [aT w h g m] M=.ok (.int (h*(w+g))) M:=by
 have mu:=Dz (i:=h) (j:=w+g) (by have:=k.h;omega) (by have:=k.h;omega) M
 show aH (jM [some (aT w h g m),none,none,none,none] M)=_
 unfold jM
 have asg:cP (bh [1,2,3,4]) (ae 0) [some (aT w h g m),none,none,none,none] M=.ok (.nx [some (aT w h g m),some (.int w),some (.int h),some (.int g),some (.int m)]) M:=rfl
 rw[aw asg,aZ (aN (x:=.int h) rfl (dJ (a:=ae 0) rfl oX) mu)];rfl
noncomputable def mt (w g t:Int):D:=if t % (w+g)<w then .tup [.int (t / (w+g)),.int (t % (w+g))] else .tup [.int (t / (w+g)),.non]
theorem k8 (f:iN w h g m)(h0:0≤t)(h1:t<h*(w+g)):gk [aT w h g m,.int t] M=.ok (mt w g t) M:=by
 have e:=oX (w:=w) (h:=h) (g:=g) (m:=m) (M:=M)
 have e2:=eV (M:=M) f
 have p:0<w+g:=by have:=f.w;have:=f.g;omega
 have q:(w+g).natAbs.log2<9000:=aL p (by have:=f.w;have:=f.g;omega)
 have n1:¬t<0:=by omega
 have n2:¬h*(w+g)≤t:=by omega
 have l2:(2:Nat)≤sizeLine:=aE (by decide)
 unfold aT at *
 unfold gk mS mt
 by_cases hz:t % (w+g)<w
 ·have hz':¬w≤t % (w+g):=by omega
  simp_arith [e,e2,p,q,n1,n2,l2,hz,hz']
 ·have hz':w≤t % (w+g):=by omega
  simp_arith [e,e2,p,q,n1,n2,l2,hz,hz']
noncomputable def kJ (xs:List Int)(lo hi:Option Int):List Int:=(xs.drop (HT.sIx xs.length 0 lo)).take (HT.sIx xs.length xs.length hi-HT.sIx xs.length 0 lo)
theorem p6 (xs:List Int)(lo hi:Option Int):gV (xs.map D.int) lo hi=(kJ xs lo hi).map D.int:=by simp[gV,kJ]
theorem pP (xs:List Int)(lo hi:Option Int):(kJ xs lo hi).length≤xs.length:=by
 unfold kJ
 rw[List.length_take,List.length_drop]
 omega
theorem wN {xs:List Int}{lo hi:Option Int}{y:Int}(h:y∈kJ xs lo hi):y∈xs:=List.mem_of_mem_drop (List.mem_of_mem_take h)
noncomputable def oJ (s:br)(row n:Int):Sn:=match s.movers[n.toNat]? with
 | some m=>⟨n,m.x,m.rank,mP (s.book.getD (m.shape.getD 0) []) m.turn (row-m.y).toNat⟩
 | none=>⟨n,0,0,[]⟩
noncomputable def cb (s:br)(m row:Int):List Sn:=(kJ (bO s row) none (some m)).map (oJ s row)
theorem B7 {n:Int}(h:n∈bO s row):gH s row n=(oJ s row n).d:=by
 obtain⟨i,rfl,hi,m,gm,lz⟩:=nM h
 unfold gH oJ
 rw[Int.toNat_natCast,gm]
 rfl
theorem z6 (s:br)(m row:Int):qP s m row=(cb s m row).map Sn.d:=by
 unfold qP cb
 rw[p6,List.map_map,List.map_map]
 apply List.map_congr_left
 intro n hn
 exact B7 (wN hn)
noncomputable def vh (s:br)(w row:Int):List Int:=(List.range w.toNat).map fun(x:Nat)=>dQ s row x
theorem sW (s:br)(w m row:Int):dP s w m row=.tup [.tup ((vh s w row).map D.int),.tup ((cb s m row).map Sn.d)]:=by
 unfold dP
 rw[z6]
 unfold vh
 rw[List.map_map]
 rfl
theorem yJ (ok:bt mm s)(hm:mm≤12):(bO s row).length≤12:=by
 have:=nj s row s.movers.length
 have:=ok.ml
 unfold bO
 omega
theorem zp (ok:bt mm s)(hm:mm≤12):(cb s m row).length≤12:=by
 unfold cb
 rw[List.length_map]
 exact Nat.le_trans (pP _ _ _) (yJ ok hm)
theorem qi (s:br)(w m row:Int):aR 30 (dP s w m row)=true:=by
 rw[sW]
 have a:=gq 27 (vh s w row)
 have b:((cb s m row).map Sn.d).all (aR 28)=true:=List.all_eq_true.mpr fun x hx=>by
  obtain⟨q,_,rfl⟩:=List.mem_map.mp hx
  unfold Sn.d
  have:=gq 25 q.ks
  simp only[im,List.all_cons,List.all_nil,this]
  rfl
 simp only[im,List.all_cons,List.all_nil,a,b]
 rfl
theorem FS (ok:bt mm s):∀k∈vh s w row,0≤k∧k≤15:=by
 intro k hk
 obtain⟨x,_,rfl⟩:=List.mem_map.mp hk
 obtain⟨f1,f2,fw,f3,f4,f5⟩:=ok.floor
 unfold dQ
 have fr:∀k∈bx s row,0≤k∧k≤15:=by
  intro k hk
  unfold bx at hk
  rw[List.getD] at hk
  cases q:s.floor[((row+s.sy) % (s.floor.length:Int)).toNat]? with
  | none=>rw[q] at hk;cases hk
  | some r=>
   rw[q] at hk
   exact(f5 r (List.mem_of_getElem? q)).2 k hk
 rw[List.getD]
 cases q:(bx s row)[((↑x+s.sx) % ((bx s row).length:Int)).toNat]? with
 | none=>exact⟨by simp,by simp⟩
 | some r=>exact fr r (List.mem_of_getElem? q)
theorem zP (h:∀r∈rs,∀k∈r,0≤k∧k≤15):∀k∈mP rs way n,0≤k∧k≤15:=by
 have g:∀(i:Nat),∀k∈rs.getD i [],0≤k∧k≤15:=by
  intro i k hk
  rw[List.getD] at hk
  cases q:rs[i]? with
  | none=>rw[q] at hk;cases hk
  | some r=>rw[q] at hk;exact h r (List.mem_of_getElem? q) k hk
 intro k hk
 unfold mP at hk
 dsimp only at hk
 split at hk
 ·rw[List.mem_reverse] at hk
  split at hk
  ·exact g _ k hk
  ·exact g _ k hk
 ·split at hk
  ·exact g _ k hk
  ·exact g _ k hk
theorem Iu (ok:bt mm s):∀q∈cb s m row,0≤cM x q∧cM x q≤15:=by
 intro q hq
 obtain⟨n,_,rfl⟩:=List.mem_map.mp hq
 have a:∀k∈(oJ s row n).ks,0≤k∧k≤15:=by
  intro k hk
  unfold oJ at hk
  split at hk
  ·refine zP (fun r hr k hk=>?_) k hk
   rename_i m' _ _
   rw[List.getD] at hr
   cases e:s.book[m'.shape.getD 0]? with
   | none=>rw[e] at hr;cases hr
   | some b=>
    rw[e] at hr
    obtain⟨b1,b2,bw,b3,b4,b5⟩:=ok.book b (List.mem_of_getElem? e)
    exact(b5 r hr).2 k hk
  ·cases hk
 unfold cM
 split
 ·rw[List.getD]
  cases e:(oJ s row n).ks[(x-(oJ s row n).x).toNat]? with
  | none=>exact⟨by simp,by simp⟩
  | some k=>exact a k (List.mem_of_getElem? e)
 ·exact⟨by simp,by simp⟩
noncomputable def g5 (x fl:Int)(cs:List Sn)(k:Int):Prop:=(cs=[]∧k=fl)∨∃b∈cs,(∀s∈cs,Fp b s)∧k=if 1≤b.r∨fl=0 then cM x b else fl
theorem wu :∃k,g5 x fl cs k∧bP [.int fl,.lst (cs.map (mW x))] M=.ok (.int k) M:=by
 rcases AV (x:=x) (fl:=fl) (cs:=cs) (M:=M) with⟨e,h⟩|⟨b,hb,hl,h⟩
 ·exact⟨fl,.inl ⟨e,rfl⟩,h⟩
 ·exact⟨_,.inr ⟨b,hb,hl,rfl⟩,h⟩
theorem g5.rng (h:g5 x fl cs k)(hf:0≤fl∧fl≤15)(hc:∀q∈cs,0≤cM x q∧cM x q≤15):0≤k∧k≤15:=by
 rcases h with⟨_,rfl⟩|⟨b,hb,_,rfl⟩
 ·exact hf
 ·split
  ·exact hc b hb
  ·exact hf
theorem Cd (ok:bt mm s)(hm:mm≤12)(hM:iO M):gw [aT w h g m,s.d,.int row] M=.ok (.lst ((kJ (bO s row) (some m) none).map D.int)) M:=by
 have e:=Bu (row:=row) ok (by omega:mm≤900) hM
 unfold aT gw nX
 simp_arith [e,p6]
variable{fr:D}{B:Bs}
theorem u5 :(cg fr b B).length<1000:=by show 8<1000;decide
noncomputable def kE (row:Int)(ns:List Int):List D:=ns.map fun n=>D.tup [.int row,.int n]
variable{M0:aB}
theorem FC (h0:iO M0)(p:B.Pure)(hs:B.st=s.d)(ok:bt mm s)(hm:mm≤12)(f:iN w h g m)(hl:B.lost.length≤90000)(hr:B.rows.length<100000) :
  dq [.mr M0.length,.int row] (ao M0 (aT w h g m) B)=.ok .non (ao M0 (aT w h g m) {B with tk:=dP s w m row,rows:=B.rows++[[]],lost:=B.lost++kE row (kJ (bO s row) (some m) none)}):=by
 have pf:aR 30 (aT w h g m)=true:=rfl
 have sh:=lG (fr:=aT w h g m) h0 pf p
 have et:=Cy (w:=w) (hh:=h) (g:=g) (m:=m) (row:=row) ok (by omega) (by have:=f.w;omega) f.m sh
 show aH (e7 [some (.mr M0.length),some (.int row)] _)=_
 unfold e7
 have f1:=fun(B:Bs)=>cT (g:=ae 0) (ρ:=[some (.mr M0.length),some (.int row)]) (M:=ao M0 (aT w h g m) B) (f:="frame") rfl eN nE
 have f2:=fun(B:Bs)=>cT (g:=ae 0) (ρ:=[some (.mr M0.length),some (.int row)]) (M:=ao M0 (aT w h g m) B) (f:="standing") rfl eN Ce
 have f3:=fun(B:Bs)=>cT (g:=ae 0) (ρ:=[some (.mr M0.length),some (.int row)]) (M:=ao M0 (aT w h g m) B) (f:="laid_rows") rfl eN uz
 have c1:=fK (F:=nC) (o:=.ok (dP s w m row) (ao M0 (aT w h g m) B)) (f1 B) (f2 B) (c:=ae 1) rfl (by rw[hs];exact et)
 have s1:=ve (c:="Beam") (f:="row_taken") (go:=ae 0) (fs:=cg (aT w h g m) M0.length B) c1 rfl eN u5
 rw[aw s1,Jr]
 generalize hB1:({B with tk:=dP s w m row}:Bs)=B1
 have p1:B1.Pure:=by rw[←hB1];exact⟨p.st,qi s w m row,p.tch,p.grd,p.lost⟩
 have hs1:B1.st=s.d:=by rw[←hB1];exact hs
 have a1:=CG (f3 B1) Bi pr (by rw[List.getElem?_append_left (by rw[xx];omega)];exact Bi) (by unfold gQ;rw[List.length_map,List.length_range,←hB1];show B.rows.length<1000000;omega)
 rw[FQ] at a1
 rw[aw (cx a1)]
 generalize hB2:({B1 with rows:=B1.rows++[[]]}:Bs)=B2
 have p2:B2.Pure:=by rw[←hB2];exact⟨p1.st,p1.tk,p1.tch,p1.grd,p1.lost⟩
 have hs2:B2.st=s.d:=by rw[←hB2];exact hs1
 have hl2:B2.lost=B.lost:=by rw[←hB2,←hB1]
 have sh2:=lG (fr:=aT w h g m) h0 pf p2
 have el:=Cd (w:=w) (h:=h) (g:=g) (m:=m) (row:=row) ok hm sh2
 have ll:(kJ (bO s row) (some m) none).length≤12:=Nat.le_trans (pP _ _ _) (yJ ok hm)
 have c2:=fK (F:=gw) (o:=.ok (.lst ((kJ (bO s row) (some m) none).map D.int)) (ao M0 (aT w h g m) B2)) (f1 B2) (f2 B2) (c:=ae 1) rfl (by rw[hs2];exact el)
 have ec:=jy (ds0:=(kJ (bO s row) (some m) none).map D.int) (ge:=eE) (ρ:=[some (.mr M0.length),some (.int row)]) (f:=fun d=>.tup [.int row,d]) (M:=ao M0 (aT w h g m) B2) ((kJ (bO s row) (some m) none).map D.int) (fun d hd=>rfl)
 have em:((kJ (bO s row) (some m) none).map D.int).map (fun d=>D.tup [.int row,d])=kE row (kJ (bO s row) (some m) none):=by rw[List.map_map];rfl
 rw[em] at ec
 generalize kJ (bO s row) (some m) none=ls at *
 have gi:bG (aq 3 gw (aa (dm "Beam" "frame" (ae 0)) (aa (dm "Beam" "standing" (ae 0)) (aa (ae 1) ah)))) [some (.mr M0.length),some (.int row)] (ao M0 (aT w h g m) B2)=.ok ⟨ls.map D.int,none⟩ (ao M0 (aT w h g m) B2):=by
  unfold bG
  rw[c2];rfl
 have gv:aY (bG (aq 3 gw (aa (dm "Beam" "frame" (ae 0)) (aa (dm "Beam" "standing" (ae 0)) (aa (ae 1) ah))))) bL eE aF [some (.mr M0.length),some (.int row)] (ao M0 (aT w h g m) B2)=.ok (.lst (kE row ls)) (ao M0 (aT w h g m) B2):=by
  unfold aY
  rw[gi,aj]
  dsimp only
  rw[ec,aj]
  unfold aF
  rw[if_pos (aE (by unfold kE;rw[List.length_map];omega))]
 have au:=Ez (ys:=kE row ls) (MJ (M0:=M0) (fr:=aT w h g m) (B:=B2)) (by rw[hl2];unfold kE;rw[List.length_map];omega)
 rw[C4] at au
 have s3:=Gg (c:="Beam") (f:="lost_pairs") (go:=ae 0) (ρ:=[some (.mr M0.length),some (.int row)]) rfl eN EZ gv au eN u5
 rw[s3]
 have fin:=Ao (M0:=M0) (fr:=aT w h g m) (B:={B2 with lost:=B2.lost++kE row ls})
 show bg.ok D.non ((ao M0 (aT w h g m) {B2 with lost:=B2.lost++kE row ls}).set M0.length (.obj "Beam" (eX "lost_pairs" (.mr (M0.length+4)) (cg (aT w h g m) M0.length {B2 with lost:=B2.lost++kE row ls}))))=_
 rw[fin,←hB2,←hB1]
theorem lF {κ α:Type}[DecidableEq κ](key:α→κ)(z:D):∀(os:List α) (acc:List (κ×D)),(os.foldl (fun a o=>xF a (key o) z) acc).length≤acc.length+os.length
 | [],acc=>Nat.le_refl _
 | o::os,acc=>by
  rw[List.foldl_cons]
  have:=lF key z os (xF acc (key o) z)
  have:=Ea acc (key o) z
  rw[List.length_cons]
  omega
theorem Bl {κ:Type}[DecidableEq κ]{acc:List (κ×D)}{k:κ}{z:D}(hz:aR 30 z=true)(h:∀p∈acc,aR 30 p.2=true):∀p∈xF acc k z,aR 30 p.2=true:=by
 unfold xF
 split
 ·exact h
 ·intro p hp
  rcases List.mem_append.mp hp with q|q
  ·exact h p q
  ·rw[List.mem_singleton] at q;rw[q];exact hz
theorem n9 {κ α:Type}[DecidableEq κ](key:α→κ){z:D}(hz:aR 30 z=true):∀(os:List α) (acc:List (κ×D)),(∀p∈acc,aR 30 p.2=true)→∀p∈os.foldl (fun a o=>xF a (key o) z) acc,aR 30 p.2=true
 | [],acc,h=>h
 | o::os,acc,h=>n9 key hz os _ (Bl hz h)
noncomputable def rK (ns:List Int)(z:D)(g:List (dB×D)):List (dB×D):=ns.foldl (fun a n=>xF a (Sum.inl n) z) g
noncomputable def kB (n:Int)(os:List Int)(z:D)(t:List (List dB×D)):List (List dB×D):=os.foldl (fun a o=>xF a [Sum.inl n,Sum.inl o] z) t
noncomputable def gZ (ns:List Int)(z:D)(t0:List (List dB×D)):Nat→List (List dB×D)
 | 0=>t0
 | j+1=>match ns[j]? with
  | some n=>kB n (ns.drop (j+1)) z (gZ ns z t0 j)
  | none=>gZ ns z t0 j
theorem nS (ns:List Int)(z:D)(t0:List (List dB×D)):∀j,(gZ ns z t0 j).length≤t0.length+j*ns.length
 | 0=>by show t0.length≤_;omega
 | j+1=>by
  have ih:=nS ns z t0 j
  have e:(j+1)*ns.length=j*ns.length+ns.length:=Nat.succ_mul _ _
  unfold gZ
  split
  ·rename_i n _
   have:=lF (κ:=List dB) (fun o=>[Sum.inl n,Sum.inl o]) z (ns.drop (j+1)) (gZ ns z t0 j)
   unfold kB
   rw[List.length_drop] at this
   omega
  ·omega
theorem qF {ns:List Int}{z:D}{t0:List (List dB×D)}(hz:aR 30 z=true)(h:∀p∈t0,aR 30 p.2=true):∀j,∀p∈gZ ns z t0 j,aR 30 p.2=true
 | 0=>h
 | j+1=>by
  have ih:=qF (ns:=ns) hz h j
  unfold gZ
  split
  ·exact n9 _ hz _ _ ih
  ·exact ih
variable{ns:List Int}
theorem BK (hj:j<ns.length):gV (ns.map D.int) (some ((j:Int)+1)) none=(ns.drop (j+1)).map D.int:=by
 rw[p6]
 unfold kJ
 rw[show((j:Int)+1)=((j+1:Nat):Int) from by omega,HT.sIx_nat,HT.sIx_none,Nat.min_eq_left (by omega)]
 rw[List.take_of_length_le (by rw[List.length_drop];omega)]
theorem yh (hl:B.grd.length+ns.length<1000000) :
  eM [.mr M0.length,.lst (ns.map D.int),.int row,.int x] (ao M0 fr B)=.ok .non (ao M0 fr {B with grd:=rK ns (.tup [.int row,.int x]) B.grd}):=by
 obtain⟨ρ',M',⟨x4,rfl,rfl⟩,ef⟩:=mB (ds0:=ns.map D.int) (s:=gn 4) (body:=dY)
  (W:=fun i ρ N=>∃x4,ρ=[some (.mr M0.length),some (.lst (ns.map D.int)),some (.int row),some (.int x),x4]∧N=ao M0 fr {B with grd:=rK (ns.take i) (.tup [.int row,.int x]) B.grd})
  (ns.map D.int) 0 (fun j d hd ρ N hW=>by
   obtain⟨x4,rfl,rfl⟩:=hW
   rw[Nat.zero_add]
   rw[List.getElem?_map] at hd
   cases gs:ns[j]? with
   | none=>rw[gs] at hd;cases hd
   | some n=>
   rw[gs] at hd
   cases hd
   have hj:=(List.getElem?_eq_some_iff.mp gs).1
   have e1:rK (ns.take (j+1)) (.tup [.int row,.int x]) B.grd=xF (rK (ns.take j) (.tup [.int row,.int x]) B.grd) (Sum.inl n) (.tup [.int row,.int x]):=by
    unfold rK
    rw[List.take_succ,gs,List.foldl_append];rfl
   have lb:(rK (ns.take j) (.tup [.int row,.int x]) B.grd).length<1000000:=by
    have:=lF (κ:=dB) (fun n=>Sum.inl n) (.tup [.int row,.int x]) (ns.take j) B.grd
    rw[List.length_take] at this
    unfold rK
    omega
   rw[e1]
   generalize rK (ns.take j) (.tup [.int row,.int x]) B.grd=gd at *
   have fl:=cT (g:=ae 0) (ρ:=[some (.mr M0.length),some (.lst (ns.map D.int)),some (.int row),some (.int x),some (.int n)]) (M:=ao M0 fr {B with grd:=gd}) (f:="first_grounds") rfl eN G7
   obtain⟨r,er⟩:=xV (y:=.int n) (z:=.tup [.int row,.int x]) (Kv (M0:=M0) (fr:=fr) (B:={B with grd:=gd})) rfl lb
   rw[El] at er
   have tp:=cK (ga:=aa (ae 2) (aa (ae 3) ah)) (ρ:=[some (.mr M0.length),some (.lst (ns.map D.int)),some (.int row),some (.int x),some (.int n)]) (M:=ao M0 fr {B with grd:=gd}) (M1:=ao M0 fr {B with grd:=gd}) (ds:=[.int row,.int x]) rfl (by simp)
   exact⟨_,_,_,rfl,cx (tD fl (by rw[Kv];rfl) rfl tp er),_,rfl,rfl⟩)
  [some (.mr M0.length),some (.lst (ns.map D.int)),some (.int row),some (.int x),none] (ao M0 fr B) ⟨_,rfl,rfl⟩
 rw[List.length_map,Nat.zero_add,List.take_length] at ef
 show aH (cR [some (.mr M0.length),some (.lst (ns.map D.int)),some (.int row),some (.int x),none] _)=_
 unfold cR
 rw[mw (iQ (i:=1) rfl) ef]
 rfl
theorem BV {os:List Int}{n at_:Int}{t:List (List dB×D)}{x6:Option D}(hl:t.length+os.length<1000000) :
  ∃y6,fZ ⟨os.map D.int,none⟩ (gn 6) cF (os.map D.int) [some (.mr M0.length),some (.lst (ns.map D.int)),some (.int row),some (.int x),some (.int at_),some (.int n),x6] (ao M0 fr {B with tch:=t}) =
   .ok (.nx [some (.mr M0.length),some (.lst (ns.map D.int)),some (.int row),some (.int x),some (.int at_),some (.int n),y6]) (ao M0 fr {B with tch:=kB n os (.tup [.int row,.int x]) t}):=by
 obtain⟨ρ',M',⟨y6,rfl,rfl⟩,ef⟩:=mB (ds0:=os.map D.int) (s:=gn 6) (body:=cF)
  (W:=fun i ρ N=>∃x6,ρ=[some (.mr M0.length),some (.lst (ns.map D.int)),some (.int row),some (.int x),some (.int at_),some (.int n),x6]∧N=ao M0 fr {B with tch:=kB n (os.take i) (.tup [.int row,.int x]) t})
  (os.map D.int) 0 (fun j d hd ρ N hW=>by
   obtain⟨x6,rfl,rfl⟩:=hW
   rw[Nat.zero_add]
   rw[List.getElem?_map] at hd
   cases gs:os[j]? with
   | none=>rw[gs] at hd;cases hd
   | some o=>
   rw[gs] at hd
   cases hd
   have hj:=(List.getElem?_eq_some_iff.mp gs).1
   have e1:kB n (os.take (j+1)) (.tup [.int row,.int x]) t=xF (kB n (os.take j) (.tup [.int row,.int x]) t) [Sum.inl n,Sum.inl o] (.tup [.int row,.int x]):=by
    unfold kB
    rw[List.take_succ,gs,List.foldl_append];rfl
   have lb:(kB n (os.take j) (.tup [.int row,.int x]) t).length<1000000:=by
    have:=lF (κ:=List dB) (fun o=>[Sum.inl n,Sum.inl o]) (.tup [.int row,.int x]) (os.take j) t
    rw[List.length_take] at this
    unfold kB
    omega
   rw[e1]
   generalize kB n (os.take j) (.tup [.int row,.int x]) t=gd at *
   have fl:=cT (g:=ae 0) (ρ:=[some (.mr M0.length),some (.lst (ns.map D.int)),some (.int row),some (.int x),some (.int at_),some (.int n),some (.int o)]) (M:=ao M0 fr {B with tch:=gd}) (f:="first_touches") rfl eN Hi
   obtain⟨r,er⟩:=yf (y:=.tup [.int n,.int o]) (k:=[Sum.inl n,Sum.inl o]) (z:=.tup [.int row,.int x]) (Kx (M0:=M0) (fr:=fr) (B:={B with tch:=gd})) rfl lb
   rw[FL] at er
   have tp:=cK (ga:=aa (ae 2) (aa (ae 3) ah)) (ρ:=[some (.mr M0.length),some (.lst (ns.map D.int)),some (.int row),some (.int x),some (.int at_),some (.int n),some (.int o)]) (M:=ao M0 fr {B with tch:=gd}) (M1:=ao M0 fr {B with tch:=gd}) (ds:=[.int row,.int x]) rfl (by simp)
   have tp2:=cK (ga:=aa (ae 5) (aa (ae 6) ah)) (ρ:=[some (.mr M0.length),some (.lst (ns.map D.int)),some (.int row),some (.int x),some (.int at_),some (.int n),some (.int o)]) (M:=ao M0 fr {B with tch:=gd}) (M1:=ao M0 fr {B with tch:=gd}) (ds:=[.int n,.int o]) rfl (by simp)
   exact⟨_,_,_,rfl,cx (tD fl (by rw[Kx];rfl) tp2 tp er),_,rfl,rfl⟩)
  [some (.mr M0.length),some (.lst (ns.map D.int)),some (.int row),some (.int x),some (.int at_),some (.int n),x6] (ao M0 fr {B with tch:=t}) ⟨_,rfl,rfl⟩
 rw[List.length_map,Nat.zero_add,List.take_length] at ef
 exact⟨y6,ef⟩
theorem yL (hn:ns.length≤12)(hl:B.tch.length<900000) :
  eO [.mr M0.length,.lst (ns.map D.int),.int row,.int x] (ao M0 fr B)=.ok .non (ao M0 fr {B with tch:=gZ ns (.tup [.int row,.int x]) B.tch ns.length}):=by
 obtain⟨ρ',M',⟨x4,x5,x6,rfl,rfl⟩,ef⟩:=mB (ds0:=je (ns.map D.int)) (s:=bh [4,5]) (body:=cJ)
  (W:=fun i ρ N=>∃x4 x5 x6,ρ=[some (.mr M0.length),some (.lst (ns.map D.int)),some (.int row),some (.int x),x4,x5,x6]∧N=ao M0 fr {B with tch:=gZ ns (.tup [.int row,.int x]) B.tch i})
  (je (ns.map D.int)) 0 (fun j d hd ρ N hW=>by
   obtain⟨x4,x5,x6,rfl,rfl⟩:=hW
   obtain⟨dx,ex,rfl⟩:=nU hd
   rw[Nat.zero_add]
   rw[List.getElem?_map] at ex
   cases gs:ns[j]? with
   | none=>rw[gs] at ex;cases ex
   | some n=>
   rw[gs] at ex
   cases ex
   have hj:=(List.getElem?_eq_some_iff.mp gs).1
   have e1:gZ ns (.tup [.int row,.int x]) B.tch (j+1)=kB n (ns.drop (j+1)) (.tup [.int row,.int x]) (gZ ns (.tup [.int row,.int x]) B.tch j):=by
    show(match ns[j]? with|some n=>kB n (ns.drop (j+1)) (.tup [.int row,.int x]) (gZ ns (.tup [.int row,.int x]) B.tch j)|none=>_)=_
    rw[gs]
   have lb:=nS ns (.tup [.int row,.int x]) B.tch j
   have lj:j*ns.length≤12*12:=Nat.mul_le_mul (by omega) hn
   rw[e1]
   generalize gZ ns (.tup [.int row,.int x]) B.tch j=td at *
   obtain⟨y6,ei⟩:=BV (M0:=M0) (B:=B) (fr:=fr) (ns:=ns) (os:=ns.drop (j+1)) (n:=n) (row:=row) (x:=x) (at_:=(j:Int)) (t:=td) (x6:=x6) (by rw[List.length_drop];omega)
   refine⟨[some (.mr M0.length),some (.lst (ns.map D.int)),some (.int row),some (.int x),some (.int (j:Int)),some (.int n),x6],[some (.mr M0.length),some (.lst (ns.map D.int)),some (.int row),some (.int x),some (.int (j:Int)),some (.int n),y6],_,rfl,?_,_,_,_,rfl,rfl⟩
   unfold cJ
   refine mw (t:=⟨(ns.drop (j+1)).map D.int,none⟩) ?_ ei
   have cf:=BK hj
   unfold bG
   have sl:oj (ae 1) (dg (g2 bM (ae 4) (gC (.int 1)))) bq [some (.mr M0.length),some (.lst (ns.map D.int)),some (.int row),some (.int x),some (.int (j:Int)),some (.int n),x6] (ao M0 fr {B with tch:=td})=.ok (.lst ((ns.drop (j+1)).map D.int)) (ao M0 fr {B with tch:=td}):=by
    rw[←cf];rfl
   rw[sl];rfl)
  [some (.mr M0.length),some (.lst (ns.map D.int)),some (.int row),some (.int x),none,none,none] (ao M0 fr B) ⟨_,_,_,rfl,rfl⟩
 rw[jT,List.length_map,Nat.zero_add] at ef
 show aH (cQ [some (.mr M0.length),some (.lst (ns.map D.int)),some (.int row),some (.int x),none,none,none] _)=_
 unfold cQ
 have ge:lY (aa (ae 1) ah) [some (.mr M0.length),some (.lst (ns.map D.int)),some (.int row),some (.int x),none,none,none] (ao M0 fr B)=.ok ⟨je (ns.map D.int),none⟩ (ao M0 fr B):=rfl
 rw[mw ge ef]
 rfl
variable{sg:GG}
theorem qG {g:GE}{ρ1:cn}{M1:aB}{d:D}(h:g ρ M=.ok d M1)(h2:sg d ρ=some ρ1):cP sg g ρ M=.ok (.nx ρ1) M1:=by
 unfold cP
 rw[h,aj,h2]
theorem nZ {ds0:List D}{n:Nat}{sg:GG}{ge:GE}{ρ:cn}{f:D→D}{M:aB}:∀(ds:List D),(∀d∈ds,∃ρ1,sg d (List.replicate n none++ρ)=some ρ1∧ge ρ1 M=.ok (f d) M)→ba ⟨ds0,none⟩ n sg bL ge ds ρ M=.ok (ds.map f) M
 | [],h=>rfl
 | d::ds,h=>by
  obtain⟨ρ1,e1,e2⟩:=h d List.mem_cons_self
  have ih:=nZ (ds0:=ds0) (n:=n) (sg:=sg) (ge:=ge) (ρ:=ρ) (f:=f) (M:=M) ds fun x hx=>h x (List.mem_cons_of_mem _ hx)
  unfold ba
  rw[ow,if_pos rfl,e1]
  dsimp only
  rw[show bL ρ1 M=.ok true M from rfl]
  dsimp only
  rw[e2]
  dsimp only
  rw[ih];rfl
theorem LP {k:Nat}{x d:D}{i:Int}(h:M[k]?=some (.lst xs))(ha:iZ xs i=some d):aX (.mr k) (.int i) M=.ok d M:=by
 unfold aX b0
 dsimp only
 rw[h]
 dsimp only
 rw[ha]
theorem AK :iZ (gQ b (n+1)) (-1)=some (.mr (b+5+n)):=by
 unfold gQ
 rw[List.range_succ,List.map_append]
 exact Eb _ _
noncomputable def Bs.laid (B:Bs)(s0:br)(w m row x hue:Int)(rs:List (List Int))(last:List Int):Bs:=
 {B with rows:=rs++[last++[hue]],tch:=gZ ((gW x (cb s0 m row)).map Sn.n) (.tup [.int row,.int x]) B.tch ((gW x (cb s0 m row)).map Sn.n).length,grd:=if(vh s0 w row).getD x.toNat 0=0 then B.grd else rK ((gW x (cb s0 m row)).map Sn.n) (.tup [.int row,.int x]) B.grd}
variable{last:List Int}
theorem BM {s0:br}(h0:iO M0)(p:B.Pure)(hs:B.st=s.d)(ok:bt mm s)(ok0:bt mm s0)(hm:mm≤12)(f:iN w h g m)
  (htk:B.tk=dP s0 w m row) (hx:0≤x∧x<w) (hr:B.rows=rs++[last]) (hl:last.length<100000) (ht:B.tch.length<900000) (hg:B.grd.length<900000) :
  ∃ink hue,g5 x ((vh s0 w row).getD x.toNat 0) (gW x (cb s0 m row)) ink∧s.pots[ink.toNat]?=some hue∧0≤ink∧
   dA [.mr M0.length,.int row,.int x] (ao M0 (aT w h g m) B)=.ok .non (ao M0 (aT w h g m) (B.laid s0 w m row x hue rs last)):=by
 have pf:aR 30 (aT w h g m)=true:=rfl
 have sh:=lG (fr:=aT w h g m) h0 pf p
 have fin:=FS (w:=w) (row:=row) ok0
 have sin:=Iu (m:=m) (row:=row) (x:=x) ok0
 have sl:=zp (m:=m) (row:=row) ok0 hm
 unfold Bs.laid
 rw[sW] at htk
 have fll:(vh s0 w row).length=w.toNat:=by unfold vh;rw[List.length_map,List.length_range]
 generalize vh s0 w row=fl at *
 generalize cb s0 m row=ss at *
 obtain⟨xn,rfl⟩:=Int.eq_ofNat_of_zero_le hx.1
 have hxl:xn<fl.length:=by omega
 have gx:fl[xn]?=some fl[xn]:=List.getElem?_eq_getElem hxl
 have gxd:fl.getD (xn:Int).toNat 0=fl[xn]:=by rw[Int.toNat_natCast,List.getD,gx];rfl
 rw[gxd]
 have fkr:=fin _ (List.getElem_mem hxl)
 generalize fl[xn]=fk at *
 have ax:∀M,aX (.tup (fl.map D.int)) (.int (xn:Int)) M=.ok (.int fk) M:=fun M=>fG (by rw[List.getElem?_map,gx];rfl)
 have ecov:=xO (fl:=.tup (fl.map D.int)) (ss:=ss) (x:=(xn:Int)) (by omega) sh
 obtain⟨ink,hsh,eink⟩:=wu (x:=(xn:Int)) (fl:=fk) (cs:=gW xn ss) (M:=ao M0 (aT w h g m) B)
 have csub:∀q∈gW (xn:Int) ss,q∈ss:=fun q hq=>(List.mem_filter.mp hq).1
 have ir:=hsh.rng fkr (fun q hq=>sin q (csub q hq))
 have cl:(gW (xn:Int) ss).length≤12:=Nat.le_trans (uF _ _) sl
 generalize gW (xn:Int) ss=cs at *
 obtain⟨kn,rfl⟩:=Int.eq_ofNat_of_zero_le ir.1
 have hk:kn<s.pots.length:=by rw[ok.pl];omega
 have gp:s.pots[kn]?=some s.pots[kn]:=List.getElem?_eq_getElem hk
 refine⟨kn,s.pots[kn],hsh,by rw[Int.toNat_natCast];exact gp,ir.1,?_⟩
 generalize s.pots[kn]=hue at *
 have ap:∀M,aX (.tup (s.pots.map D.int)) (.int (kn:Int)) M=.ok (.int hue) M:=fun M=>fG (by rw[List.getElem?_map,gp];rfl)
 generalize hfr:aT w h g m=fr at *
 show aH (fh [some (.mr M0.length),some (.int row),some (.int (xn:Int)),none,none,none,none,none,none,none,none,none] _)=_
 unfold fh
 have q0:(ao M0 fr B)[M0.length]?=some (.obj "Beam" (cg fr M0.length B)):=eN
 have k1:=qG (sg:=bh [3,4]) (cT (g:=ae 0) (ρ:=[some (.mr M0.length),some (.int row),some (.int (xn:Int)),none,none,none,none,none,none,none,none,none]) (f:="row_taken") rfl q0 Gb)
  (ρ1:=[some (.mr M0.length),some (.int row),some (.int (xn:Int)),some (.tup (fl.map D.int)),some (.tup (ss.map Sn.d)),none,none,none,none,none,none,none]) (by rw[htk];rfl)
 rw[aw k1]
 have k2:=bA (i:=5) (fD (F:=iX) (o:=.ok (.lst (cs.map (mW xn))) (ao M0 fr B)) (cT (g:=ae 0) (ρ:=[some (.mr M0.length),some (.int row),some (.int (xn:Int)),some (.tup (fl.map D.int)),some (.tup (ss.map Sn.d)),none,none,none,none,none,none,none]) (f:="row_taken") rfl q0 Gb) (b:=ae 2) rfl (by rw[htk];exact ecov))
 rw[aw k2]
 have k3:=qG (sg:=bh [6,7,8,9,10]) (cT (g:=ae 0) (ρ:=[some (.mr M0.length),some (.int row),some (.int (xn:Int)),some (.tup (fl.map D.int)),some (.tup (ss.map Sn.d)),some (.lst (cs.map (mW xn))),none,none,none,none,none,none]) (f:="standing") rfl q0 Ce)
  (ρ1:=[some (.mr M0.length),some (.int row),some (.int (xn:Int)),some (.tup (fl.map D.int)),some (.tup (ss.map Sn.d)),some (.lst (cs.map (mW xn))),some (ar s.floor),some (.tup [.int s.sx,.int s.sy]),some (.tup (s.book.map ar)),some (.tup (s.movers.map Mv.d)),some (.tup (s.pots.map D.int)),none]) (by rw[hs];rfl)
 refine(congrArg aH (aw k3)).trans ?_
 generalize hρ:([some (.mr M0.length),some (.int row),some (.int (xn:Int)),some (.tup (fl.map D.int)),some (.tup (ss.map Sn.d)),some (.lst (cs.map (mW xn))),some (ar s.floor),some (.tup [.int s.sx,.int s.sy]),some (.tup (s.book.map ar)),some (.tup (s.movers.map Mv.d)),some (.tup (s.pots.map D.int)),none]:cn)=ρ
 have v0:∀M,ae 0 ρ M=.ok (.mr M0.length) M:=fun M=>by rw[←hρ];rfl
 have v2:∀M,ae 2 ρ M=.ok (.int (xn:Int)) M:=fun M=>by rw[←hρ];rfl
 have v3:∀M,ae 3 ρ M=.ok (.tup (fl.map D.int)) M:=fun M=>by rw[←hρ];rfl
 have v5:∀M,ae 5 ρ M=.ok (.lst (cs.map (mW xn))) M:=fun M=>by rw[←hρ];rfl
 have v10:∀M,ae 10 ρ M=.ok (.tup (s.pots.map D.int)) M:=fun M=>by rw[←hρ];rfl
 have hrl:B.rows.length=rs.length+1:=by rw[hr,List.length_append];rfl
 have grow:B.rows[rs.length]?=some last:=by rw[hr];simp
 have go:=aN (f:=aX) (cT (g:=ae 0) (ρ:=ρ) (f:="laid_rows") (v0 _) q0 uz) (b:=mM (gC (.int 1))) (y:=.int (-1)) (M2:=ao M0 fr B) rfl (LP (x:=.non) Bi (by rw[hrl];exact AK))
 have gi:=aN (f:=aX) (v10 _) (fD (F:=bP) (aN (f:=aX) (v3 _) (v2 _) (ax _)) (v5 _) eink) (ap _)
 have k4:=CG go (xB grow) gi (xB grow) (by rw[List.length_map];omega)
 have em:last.map D.int++[D.int hue]=(last++[hue]).map D.int:=by rw[List.map_append];rfl
 have er:B.rows.set rs.length (last++[hue])=rs++[last++[hue]]:=by rw[hr];simp
 have sr:=DV (M0:=M0) (fr:=fr) (B:=B) (i:=rs.length) (r:=last++[hue])
 rw[er] at sr
 rw[em] at k4
 have k4':lQ (g2 aX (dm "Beam" "laid_rows" (ae 0)) (mM (gC (D.int 1)))) (g2 aX (ae 10) (aq 2 bP (aa (g2 aX (ae 3) (ae 2)) (aa (ae 5) ah)))) ρ (ao M0 fr B)=.ok .non (ao M0 fr {B with rows:=rs++[last++[hue]]}):=k4.trans (congrArg (bg.ok D.non) sr)
 rw[aw (cx k4')]
 generalize hB1:({B with rows:=rs++[last++[hue]]}:Bs)=B1
 have t1:B1.tch=B.tch:=by rw[←hB1]
 have g1:B1.grd=B.grd:=by rw[←hB1]
 have gits:bG (ae 5) ρ (ao M0 fr B1)=.ok ⟨cs.map (mW xn),none⟩ (ao M0 fr B1):=by
  unfold bG
  rw[v5];rfl
 have ec:=nZ (ds0:=cs.map (mW xn)) (n:=3) (sg:=bh [0,1,2]) (ge:=eA) (ρ:=ρ) (f:=fun d=>match d with | .tup [_,n,_]=>n|d=>d) (M:=ao M0 fr B1) (cs.map (mW xn)) (fun d hd=>by
  obtain⟨q,_,rfl⟩:=List.mem_map.mp hd
  exact⟨[some (.int q.r),some (.int q.n),some (.int (cM xn q))]++ρ,rfl,rfl⟩)
 have em2:(cs.map (mW xn)).map (fun d=>match d with | .tup [_,n,_]=>n|d=>d)=(cs.map Sn.n).map D.int:=by
  rw[List.map_map,List.map_map];rfl
 rw[em2] at ec
 have lns:(cs.map Sn.n).length≤12:=by rw[List.length_map];exact cl
 generalize cs.map Sn.n=ns at *
 have k5:bH (bG (ae 5)) 3 (bh [0,1,2]) bL eA aF ρ (ao M0 fr B1)=.ok (.lst (ns.map D.int)) (ao M0 fr B1):=by
  unfold bH
  rw[gits,aj]
  dsimp only
  rw[ec,aj]
  unfold aF
  rw[if_pos (aE (by rw[List.length_map];omega))]
 rw[aw (bA k5)]
 generalize hρ2:ρ.set 11 (some (.lst (ns.map D.int)))=ρ2
 have u0:∀M,ae 0 ρ2 M=.ok (.mr M0.length) M:=fun M=>by rw[←hρ2,←hρ];rfl
 have u1:∀M,ae 1 ρ2 M=.ok (.int row) M:=fun M=>by rw[←hρ2,←hρ];rfl
 have u2:∀M,ae 2 ρ2 M=.ok (.int (xn:Int)) M:=fun M=>by rw[←hρ2,←hρ];rfl
 have u3:∀M,ae 3 ρ2 M=.ok (.tup (fl.map D.int)) M:=fun M=>by rw[←hρ2,←hρ];rfl
 have u11:∀M,ae 11 ρ2 M=.ok (.lst (ns.map D.int)) M:=fun M=>by rw[←hρ2,←hρ];rfl
 have args:∀M,aa (ae 11) (aa (ae 1) (aa (ae 2) ah)) ρ2 M=.ok [.lst (ns.map D.int),.int row,.int (xn:Int)] M:=fun M=>aG (u11 M) (aG (u1 M) (aG (u2 M) rfl))
 have k6:=iw (c:="Beam") (m:="keep_touches") (n:=4) (u0 _) (eN (M0:=M0) (fr:=fr) (B:=B1)) rfl (args _) rfl (yL (row:=row) (x:=(xn:Int)) lns (by rw[t1];exact ht))
 rw[aw (cx k6),t1]
 have tst:∀M,aS (g2 (a7 true) (g2 aX (ae 3) (ae 2)) (gC (.int 0))) ρ2 M=.ok (!decide (fk=0)) M:=fun M=>dF (aN (aN (f:=aX) (u3 M) (u2 M) (ax M)) (y:=.int 0) rfl (vP fk 0 M))
 by_cases hz:fk=0
 ·rw[bT ((tst _).trans (by rw[hz];rfl)),if_pos hz,←hB1]
  rfl
 ·rw[cO ((tst _).trans (by rw[decide_eq_false hz];rfl)),if_neg hz]
  have k7:=iw (c:="Beam") (m:="keep_grounds") (n:=4) (u0 _) (eN (M0:=M0) (fr:=fr) (B:={B1 with tch:=gZ ns (.tup [.int row,.int (xn:Int)]) B.tch ns.length})) rfl (args _) rfl (yh (row:=row) (x:=(xn:Int)) (ns:=ns) (by show B1.grd.length+_<_;rw[g1];omega))
  rw[cx k7,←hB1]
  rfl
theorem lA {p:Int}(hp:0<p):((t+1) / p=t / p∧(t+1) % p=t % p+1)∨(t+1) % p=0:=by
 have a:=Int.emod_add_mul_ediv (t+1) p
 have b:=Int.emod_add_mul_ediv t p
 have c1:=Int.emod_nonneg t (Int.ne_of_gt hp)
 have c2:=Int.emod_lt_of_pos t hp
 have c3:=Int.emod_nonneg (t+1) (Int.ne_of_gt hp)
 have c4:=Int.emod_lt_of_pos (t+1) hp
 have e1:p*((t+1) / p)-p*(t / p)=1+t % p-(t+1) % p:=by omega
 rw[←Int.mul_sub] at e1
 rcases Int.lt_trichotomy ((t+1) / p-t / p) 0 with z|z|z
 ·have:p*((t+1) / p-t / p)≤p*(-1):=Int.mul_le_mul_of_nonneg_left (by omega) (by omega)
  omega
 ·rw[z] at e1
  exact .inl ⟨by omega,by omega⟩
 ·have:p*1≤p*((t+1) / p-t / p):=Int.mul_le_mul_of_nonneg_left (by omega) (by omega)
  exact .inr (by omega)
structure oF (w g m mm:Int)(s:br)(t:Int)(B:Bs):Prop where
 te:B.t=t
 st:B.st=s.d
 p:B.Pure
 tch:B.tch.length≤144*t.toNat
 grd:B.grd.length≤12*t.toNat
 lost:B.lost.length≤12*t.toNat
 rl:B.rows.length≤t.toNat
 rr:∀r∈B.rows,r.length≤t.toNat
 row:0<t % (w+g)→t % (w+g)<w→∃s0,bt mm s0∧B.tk=dP s0 w m (t / (w+g))∧B.rows≠[]
theorem wZ {M0:aB}{s0:br}{hue:Int}{fs:br}(hm:mm≤12)(ok0:bt mm s0)(h0:0≤t)(hp:0<w+g)
  (i1:B.t=t) (i2:B.st=s.d) (i3:B.Pure) (i4:B.tch.length≤144*t.toNat) (i5:B.grd.length≤12*t.toNat) (i6:B.lost.length≤12*(t.toNat+1)) (i7:B.rows.length≤t.toNat+1) (i8:∀r∈B.rows,r.length≤t.toNat)
  (htk:B.tk=dP s0 w m (t / (w+g))) (hr:B.rows=rs++[last]):oF w g m mm s (t+1) {B.laid s0 w m (t / (w+g)) (t % (w+g)) hue rs last with t:=t+1}:=by
 have e:(t+1).toNat=t.toNat+1:=by omega
 have pz:aR 30 (.tup [.int (t / (w+g)),.int (t % (w+g))])=true:=rfl
 have sl:((gW (t % (w+g)) (cb s0 m (t / (w+g)))).map Sn.n).length≤12:=by
  rw[List.length_map]
  exact Nat.le_trans (uF _ _) (zp ok0 hm)
 refine⟨rfl,i2,⟨i3.st,i3.tk,qF pz i3.tch _,?_,i3.lost⟩,?_,?_,?_,?_,?_,?_⟩
 ·unfold Bs.laid
  dsimp only
  split
  ·exact i3.grd
  ·exact n9 _ pz _ _ i3.grd
 ·show(gZ _ _ B.tch _).length≤_
  have:=nS ((gW (t % (w+g)) (cb s0 m (t / (w+g)))).map Sn.n) (.tup [.int (t / (w+g)),.int (t % (w+g))]) B.tch ((gW (t % (w+g)) (cb s0 m (t / (w+g)))).map Sn.n).length
  have b:((gW (t % (w+g)) (cb s0 m (t / (w+g)))).map Sn.n).length*((gW (t % (w+g)) (cb s0 m (t / (w+g)))).map Sn.n).length≤12*12:=Nat.mul_le_mul sl sl
  omega
 ·unfold Bs.laid
  dsimp only
  split
  ·omega
  ·have:=lF (κ:=dB) (fun n=>Sum.inl n) (.tup [.int (t / (w+g)),.int (t % (w+g))]) ((gW (t % (w+g)) (cb s0 m (t / (w+g)))).map Sn.n) B.grd
   unfold rK
   omega
 ·show B.lost.length≤_
  omega
 ·show(rs++[last++[hue]]).length≤_
  rw[hr,List.length_append] at i7
  rw[List.length_append]
  simp only[List.length_singleton] at *
  omega
 ·show∀r∈rs++[last++[hue]],_
  intro r hr'
  rcases List.mem_append.mp hr' with q|q
  ·have:=i8 r (by rw[hr];exact List.mem_append_left _ q)
   omega
  ·rw[List.mem_singleton] at q
   have:=i8 last (by rw[hr];simp)
   rw[q,List.length_append,List.length_singleton]
   omega
 ·intro h1 h2
  have d:(t+1) / (w+g)=t / (w+g):=by
   rcases lA (t:=t) hp with⟨q,_⟩|q
   ·exact q
   ·omega
  refine⟨s0,ok0,?_,?_⟩
  ·show B.tk=_
   rw[htk,d]
  ·show rs++[last++[hue]]≠[]
   simp
variable{fs:List (Str×D)}
theorem iT {f:Str}{gv:GE}{L L':aB}{y:D}(hv:gv ρ (M0++(.obj "Beam" fs::L))=.ok y (M0++(.obj "Beam" fs::L')))(hρ:∀M,ae 0 ρ M=.ok (.mr M0.length) M)(hl:fs.length<1000) :
  fE "Beam" f (ae 0) gv ρ (M0++(.obj "Beam" fs::L))=.ok (.nx ρ) (M0++(.obj "Beam" (eX f y fs)::L')):=by
 have e:(M0++(MO.obj "Beam" fs::L'))[M0.length]?=some (.obj "Beam" fs):=by rw[List.getElem?_append_right (Nat.le_refl _)];simp
 rw[ve hv (hρ _) e hl]
 congr 1
 rw[List.set_append_right _ _ (Nat.le_refl _),Nat.sub_self];rfl
theorem zC {L:aB}:jv ah ρ (M0++L)=.ok (.mr (M0.length+L.length)) (M0++(L++[.lst []])):=by
 rw[pr,List.length_append,List.append_assoc]
theorem L7 {L:aB}:wo ρ (M0++L)=.ok (.mr (M0.length+L.length)) (M0++(L++[.dK []])):=by
 show bg.ok (D.mr (M0++L).length) (M0++L++[.dK []])=_
 rw[List.length_append,List.append_assoc]
theorem Kn {L:aB}:wl ρ (M0++L)=.ok (.mr (M0.length+L.length)) (M0++(L++[.dT []])):=by
 show bg.ok (D.mr (M0++L).length) (M0++L++[.dT []])=_
 rw[List.length_append,List.append_assoc]
noncomputable def sC (st:D):Bs:=⟨st,0,.tup [.tup [],.tup []],[],[],[],[]⟩
theorem ER (hc:∀M,bN [fr,st] M=.ok .non M):fj [.mr M0.length,fr,st] (M0++[.obj "Beam" []])=.ok .non (ao M0 fr (sC st)):=by
 show aH (fg [some (.mr M0.length),some fr,some st] _)=_
 unfold fg
 have hρ:∀M,ae 0 [some (.mr M0.length),some fr,some st] M=.ok (.mr M0.length) M:=fun M=>rfl
 have k0:=cx (fD (F:=bN) (a:=ae 1) (b:=ae 2) (ρ:=[some (.mr M0.length),some fr,some st]) (M:=M0++[MO.obj "Beam" []]) rfl rfl (hc _))
 rw[aw k0]
 rw[aw (iT (f:="frame") (gv:=ae 1) (y:=fr) rfl hρ (by decide))]
 rw[aw (iT (f:="standing") (gv:=ae 2) (y:=st) rfl hρ (Nat.lt_of_lt_of_eq (by decide:1<1000) rfl))]
 rw[aw (iT (f:="ahead") (gv:=gC (.int 0)) (y:=.int 0) rfl hρ (Nat.lt_of_lt_of_eq (by decide:2<1000) rfl))]
 rw[aw (iT (f:="row_taken") (y:=.tup [.tup [],.tup []]) (cK (ds:=[.tup [],.tup []]) rfl (by decide)) hρ (Nat.lt_of_lt_of_eq (by decide:3<1000) rfl))]
 rw[aw (iT (f:="laid_rows") (y:=.mr (M0.length+1)) zC hρ (Nat.lt_of_lt_of_eq (by decide:4<1000) rfl))]
 rw[aw (iT (f:="first_touches") (y:=.mr (M0.length+2)) Kn hρ (Nat.lt_of_lt_of_eq (by decide:5<1000) rfl))]
 rw[aw (iT (f:="first_grounds") (y:=.mr (M0.length+3)) L7 hρ (Nat.lt_of_lt_of_eq (by decide:6<1000) rfl))]
 rw[iT (f:="lost_pairs") (y:=.mr (M0.length+4)) zC hρ (Nat.lt_of_lt_of_eq (by decide:7<1000) rfl)]
 rfl
theorem EF {ga:GA}(ha:ga ρ M0=.ok [fr,st] M0)(hc:∀M,bN [fr,st] M=.ok .non M):kH "Beam" 3 fj ga ρ M0=.ok (.mr M0.length) (ao M0 fr (sC st)):=by
 unfold kH
 rw[ha,aj,if_pos (show [fr,st].length+1=3 from rfl),ER hc,aj]
theorem N5 (ps:aR 30 s.d=true):oF w g m mm s 0 (sC s.d):=
 ⟨rfl,rfl,⟨ps,rfl,fun _ h=>(by cases h),fun _ h=>(by cases h),fun _ h=>(by cases h)⟩,Nat.zero_le _,Nat.zero_le _,Nat.zero_le _,Nat.zero_le _,fun _ h=>(by cases h),fun h=>(by simp at h)⟩
theorem g5.uniq {k':Int}(h:g5 x fl (gW x (cb s m row)) k)(h':g5 x fl (gW x (cb s m row)) k'):k=k':=by
 have nf:∀b∈gW x (cb s m row),b=oJ s row b.n:=fun b hb=>by
  obtain⟨n,_,rfl⟩:=List.mem_map.mp (List.mem_filter.mp hb).1
  have e:(oJ s row n).n=n:=by
   unfold oJ
   split <;> rfl
  rw[e]
 rcases h with⟨e,rfl⟩|⟨b,hb,hl,rfl⟩
 ·rcases h' with⟨_,rfl⟩|⟨b,hb,_⟩
  ·rfl
  ·rw[e] at hb;cases hb
 ·rcases h' with⟨e,rfl⟩|⟨b',hb',hl',rfl⟩
  ·rw[e] at hb;cases hb
  ·have a1:Fp b b':=hl b' hb'
   have a2:Fp b' b:=hl' b hb
   unfold Fp at a1 a2
   have e:b.n=b'.n:=by omega
   have e2:b=b':=by rw[nf b hb,nf b' hb',e]
   rw[e2]
theorem zz {s0:br}(p:B.Pure)(hs:B.st=s.d)(ok:bt mm s)(ok0:bt mm s0)(hm:mm≤12)(f:iN w h g m)
  (htk:B.tk=dP s0 w m row) (hx:0≤x∧x<w) (hr:B.rows=rs++[last]) (hl:last.length<100000) (ht:B.tch.length<900000) (hg:B.grd.length<900000) :
  ∃ink hue,g5 x ((vh s0 w row).getD x.toNat 0) (gW x (cb s0 m row)) ink∧s.pots[ink.toNat]?=some hue∧0≤ink∧
   ∀M0,iO M0→dA [.mr M0.length,.int row,.int x] (ao M0 (aT w h g m) B)=.ok .non (ao M0 (aT w h g m) (B.laid s0 w m row x hue rs last)):=by
 obtain⟨ink,hue,h1,h2,h3,_⟩:=BM (M0:=[]) (row:=row) (x:=x) rfl p hs ok ok0 hm f htk hx hr hl ht hg
 refine⟨ink,hue,h1,h2,h3,fun M0 h0=>?_⟩
 obtain⟨ink',hue',k1,k2,_,e⟩:=BM (M0:=M0) (row:=row) (x:=x) h0 p hs ok ok0 hm f htk hx hr hl ht hg
 have e1:=g5.uniq h1 k1
 subst e1
 rw[h2] at k2
 cases k2
 exact e
section
variable {M0:aB}{B B2:Bs}{w h g m t:Int}
theorem BX (x1 x2:Option D)(hB:B.t=t):E8 "Beam" "ahead" (ae 0) (gC (.int 1)) [some (.mr M0.length),x1,x2] (ao M0 (aT w h g m) B)=.ok (.nx [some (.mr M0.length),x1,x2]) (ao M0 (aT w h g m) {B with t:=t+1}):=by
 have a:=Gg (c:="Beam") (f:="ahead") (go:=ae 0) (gv:=gC (.int 1)) (ρ:=[some (.mr M0.length),x1,x2]) (M:=ao M0 (aT w h g m) B) (z:=.int (t+1)) rfl eN xL rfl (by rw[hB];rfl) eN u5
 rw[a,Kg]
theorem wO (f:iN w h g m)(h0:0≤t)(h1:t<h*(w+g))(te:B.t=t):aq 2 gk (aa (dm "Beam" "frame" (ae 0)) (aa (dm "Beam" "ahead" (ae 0)) ah)) [some (.mr M0.length),none,none] (ao M0 (aT w h g m) B)=.ok (mt w g t) (ao M0 (aT w h g m) B):=
 fD (F:=gk) (cT (g:=ae 0) (ρ:=[some (.mr M0.length),none,none]) (f:="frame") rfl eN nE) (cT (g:=ae 0) (ρ:=[some (.mr M0.length),none,none]) (f:="ahead") rfl eN xL) (by rw[te];exact k8 (M:=ao M0 (aT w h g m) B) f h0 h1)
theorem Bm (f:iN w h g m)(h0:0≤t)(h1:t<h*(w+g))(te:B.t=t)(hz:¬t % (w+g)<w):dN [.mr M0.length] (ao M0 (aT w h g m) B)=.ok .non (ao M0 (aT w h g m) {B with t:=t+1}):=by
 have c1:=wO (M0:=M0) (B:=B) f h0 h1 te
 have pl:mt w g t=.tup [.int (t / (w+g)),.non]:=by unfold mt;rw[if_neg hz]
 rw[pl] at c1
 show aH (cU [some (.mr M0.length),none,none] _)=_
 unfold cU
 rw[aw (qG (sg:=bh [1,2]) c1 (ρ1:=[some (.mr M0.length),some (.int (t / (w+g))),some .non]) rfl)]
 have tst:∀M,aS (g2 (a7 false) (ae 2) (gC (.int 0))) [some (.mr M0.length),some (.int (t / (w+g))),some .non] M=.ok false M:=fun M=>rfl
 have tst2:∀M,aS (g2 (mU true) (ae 2) (gC .non)) [some (.mr M0.length),some (.int (t / (w+g))),some .non] M=.ok false M:=fun M=>rfl
 rw[aw ((bT (tst _)).trans rfl),aw ((bT (tst2 _)).trans rfl),BX _ _ te]
 rfl
theorem zx {B1:Bs}(f:iN w h g m)(h0:0≤t)(h1:t<h*(w+g))(te:B.t=t)(te2:B2.t=t)(hz:t % (w+g)<w)
  (h2:(t % (w+g)=0∧dq [.mr M0.length,.int (t / (w+g))] (ao M0 (aT w h g m) B)=.ok .non (ao M0 (aT w h g m) B1))∨(t % (w+g)≠0∧B1=B))
  (h3:dA [.mr M0.length,.int (t / (w+g)),.int (t % (w+g))] (ao M0 (aT w h g m) B1)=.ok .non (ao M0 (aT w h g m) B2)) :
  dN [.mr M0.length] (ao M0 (aT w h g m) B)=.ok .non (ao M0 (aT w h g m) {B2 with t:=t+1}):=by
 have c1:=wO (M0:=M0) (B:=B) f h0 h1 te
 have pl:mt w g t=.tup [.int (t / (w+g)),.int (t % (w+g))]:=by unfold mt;rw[if_pos hz]
 rw[pl] at c1
 show aH (cU [some (.mr M0.length),none,none] _)=_
 unfold cU
 rw[aw (qG (sg:=bh [1,2]) c1 (ρ1:=[some (.mr M0.length),some (.int (t / (w+g))),some (.int (t % (w+g)))]) rfl)]
 have tst:∀M,aS (g2 (a7 false) (ae 2) (gC (.int 0))) [some (.mr M0.length),some (.int (t / (w+g))),some (.int (t % (w+g)))] M=.ok (decide (t % (w+g)=0)) M:=fun M=>dF (aN (x:=.int (t % (w+g))) (y:=.int 0) rfl rfl (zq _ 0 M))
 have tst2:∀M,aS (g2 (mU true) (ae 2) (gC .non)) [some (.mr M0.length),some (.int (t / (w+g))),some (.int (t % (w+g)))] M=.ok true M:=fun M=>rfl
 have e2:dO (aS (g2 (a7 false) (ae 2) (gC (.int 0)))) (cX (eU "Beam" "take_row" 2 dq (ae 0) (aa (ae 1) ah))) aM [some (.mr M0.length),some (.int (t / (w+g))),some (.int (t % (w+g)))] (ao M0 (aT w h g m) B)=.ok (.nx [some (.mr M0.length),some (.int (t / (w+g))),some (.int (t % (w+g)))]) (ao M0 (aT w h g m) B1):=by
  rcases h2 with⟨hx,k⟩|⟨hx,k⟩
  ·exact(cO (b:=aM) ((tst (ao M0 (aT w h g m) B)).trans (by rw[decide_eq_true hx]))).trans (cx (iw (c:="Beam") (m:="take_row") (n:=2) (go:=ae 0) (ga:=aa (ae 1) ah) (ρ:=[some (.mr M0.length),some (.int (t / (w+g))),some (.int (t % (w+g)))]) rfl eN rfl (ds:=[.int (t / (w+g))]) rfl rfl k))
  ·rw[k]
   exact(bT ((tst (ao M0 (aT w h g m) B)).trans (by rw[decide_eq_false hx]))).trans rfl
 rw[aw e2]
 have k3:=iw (c:="Beam") (m:="lay_spot") (n:=3) (go:=ae 0) (ga:=aa (ae 1) (aa (ae 2) ah)) (ρ:=[some (.mr M0.length),some (.int (t / (w+g))),some (.int (t % (w+g)))]) (M:=ao M0 (aT w h g m) B1) rfl eN rfl (ds:=[.int (t / (w+g)),.int (t % (w+g))]) rfl rfl h3
 rw[aw ((cO (b:=aM) (tst2 (ao M0 (aT w h g m) B1))).trans (cx k3)),BX _ _ te2]
 rfl
end
noncomputable def inkS (x fl:Int) (cs:List Sn):Int:=open Classical in if h:∃k,g5 x fl cs k then Classical.choose h else 0
theorem ul (h:g5 x fl (gW x (cb s m row)) k):inkS x fl (gW x (cb s m row))=k:=by
 have e:∃k,g5 x fl (gW x (cb s m row)) k:=⟨k,h⟩
 unfold inkS
 rw[dif_pos e]
 exact g5.uniq (Classical.choose_spec e) h
noncomputable def hueAt (s s0:br) (w m row x:Int):Int:=s.pots.getD (inkS x ((vh s0 w row).getD x.toNat 0) (gW x (cb s0 m row))).toNat 0
structure Pc where
 s0:br
 rows:List (List Int)
noncomputable def layP (s:br) (w m row x:Int) (s0:br) (rows:List (List Int)):Pc:=⟨s0,rows.dropLast++[rows.getLastD []++[hueAt s s0 w m row x]]⟩
noncomputable def tickP (w g m:Int) (s:br) (t:Int) (P:Pc):Pc:=
 if t % (w+g)<w then(if t % (w+g)=0 then layP s w m (t / (w+g)) (t % (w+g)) s (P.rows++[[]]) else layP s w m (t / (w+g)) (t % (w+g)) P.s0 P.rows) else P
noncomputable def goP (w g m:Int) (s:br):Nat→Int→Pc→Pc
 | 0,_,P=>P
 | n+1,t,P=>goP w g m s n (t+1) (tickP w g m s t P)
noncomputable def planP (w g m T:Int):List (Int×Dd)→br→Int→Pc→Pc
 | [],s,t,P=>goP w g m s (T-t).toNat t P
 | p::td,s,t,P=>planP w g m T td (b9 s p.2) p.1 (goP w g m s (p.1-t).toNat t P)
structure A0 (w g m mm t:Int)(P:Pc)(B:Bs):Prop where
 rows:B.rows=P.rows
 row:0<t % (w+g)→t % (w+g)<w→bt mm P.s0∧B.tk=dP P.s0 w m (t / (w+g))∧P.rows≠[]
theorem Co {s0:br}{ink hue:Int}(h:g5 x ((vh s0 w row).getD x.toNat 0) (gW x (cb s0 m row)) ink)(e:s.pots[ink.toNat]?=some hue):hueAt s s0 w m row x=hue:=by
 unfold hueAt
 rw[ul h,List.getD_eq_getElem?_getD,e];rfl
theorem wD {s0:br}{hue:Int}{rows:List (List Int)}(hp:0<w+g)(ok0:bt mm s0)(htk:B.tk=dP s0 w m (t / (w+g)))(er:rows=rs++[last])(eh:hueAt s s0 w m (t / (w+g)) (t % (w+g))=hue) :
  A0 w g m mm (t+1) (layP s w m (t / (w+g)) (t % (w+g)) s0 rows) {B.laid s0 w m (t / (w+g)) (t % (w+g)) hue rs last with t:=t+1}:=by
 subst er eh
 refine⟨?_,fun h1 h2=>⟨ok0,?_,?_⟩⟩
 ·show rs++[last++[_]]=(rs++[last]).dropLast++[(rs++[last]).getLastD []++[_]]
  rw[List.dropLast_concat,List.getLastD_concat]
 ·show B.tk=dP s0 w m ((t+1) / (w+g))
  rcases lA (t:=t) hp with⟨q,_⟩|q
  ·rw[htk,q]
  ·omega
 ·show(rs++[last]).dropLast++[_]≠[]
  simp
variable{P:Pc}
theorem C3 (ok:bt mm s)(hm:mm≤12)(f:iN w h g m)(ht0:0≤t)(ht1:t<h*(w+g))(ht2:t≤3000)(iv:oF w g m mm s t B)(pn:A0 w g m mm t P B) :
  ∃B',oF w g m mm s (t+1) B'∧A0 w g m mm (t+1) (tickP w g m s t P) B'∧∀M0,iO M0→dN [.mr M0.length] (ao M0 (aT w h g m) B)=.ok .non (ao M0 (aT w h g m) B'):=by
 have hp:0<w+g:=by have:=f.w;have:=f.g;omega
 by_cases hz:t % (w+g)<w
 ·have x0:=Int.emod_nonneg t (Int.ne_of_gt hp)
  by_cases hx:t % (w+g)=0
  ·generalize hB1:({B with tk:=dP s w m (t / (w+g)),rows:=B.rows++[[]],lost:=B.lost++kE (t / (w+g)) (kJ (bO s (t / (w+g))) (some m) none)}:Bs)=B1
   have j1:B1.t=t:=by rw[←hB1];exact iv.te
   have j2:B1.st=s.d:=by rw[←hB1];exact iv.st
   have jl:(kE (t / (w+g)) (kJ (bO s (t / (w+g))) (some m) none)).length≤12:=by
    unfold kE
    rw[List.length_map]
    exact Nat.le_trans (pP _ _ _) (yJ ok hm)
   have j3:B1.Pure:=by
    rw[←hB1]
    refine⟨iv.p.st,qi s w m _,iv.p.tch,iv.p.grd,fun p hp'=>?_⟩
    rcases List.mem_append.mp hp' with q|q
    ·exact iv.p.lost p q
    ·obtain⟨n,_,rfl⟩:=List.mem_map.mp q
     rfl
   have j6:B1.lost.length≤12*(t.toNat+1):=by
    rw[←hB1]
    show(B.lost++_).length≤_
    rw[List.length_append]
    have:=iv.lost
    omega
   have j7:B1.rows.length≤t.toNat+1:=by
    rw[←hB1]
    show(B.rows++[[]]).length≤_
    rw[List.length_append]
    have:=iv.rl
    simp only[List.length_singleton]
    omega
   have j8:∀r∈B1.rows,r.length≤t.toNat:=by
    rw[←hB1]
    intro r hr
    rcases List.mem_append.mp hr with q|q
    ·exact iv.rr r q
    ·rw[List.mem_singleton] at q;rw[q];exact Nat.zero_le _
   have jt:B1.tch=B.tch:=by rw[←hB1]
   have jg:B1.grd=B.grd:=by rw[←hB1]
   have jk:B1.tk=dP s w m (t / (w+g)):=by rw[←hB1]
   have jr:B1.rows=B.rows++[[]]:=by rw[←hB1]
   obtain⟨ink,hue,hS,hH,_,ey⟩:=zz (row:=t / (w+g)) (x:=t % (w+g)) j3 j2 ok ok hm f jk ⟨x0,hz⟩ jr (by decide) (by rw[jt];have:=iv.tch;omega) (by rw[jg];have:=iv.grd;omega)
   refine⟨_,wZ (M0:=[]) (fs:=s) (hue:=hue) hm ok ht0 hp j1 j2 j3 (by rw[jt];exact iv.tch) (by rw[jg];exact iv.grd) j6 j7 j8 jk jr,by unfold tickP;rw[if_pos hz,if_pos hx,←pn.rows];exact wD hp ok jk rfl (Co hS hH),fun M0 h0=>?_⟩
   have tk:=FC (row:=t / (w+g)) h0 iv.p iv.st ok hm f (by have:=iv.lost;omega) (by have:=iv.rl;omega)
   rw[hB1] at tk
   exact zx f ht0 ht1 iv.te j1 hz (.inl ⟨hx,tk⟩) (ey M0 h0)
  ·obtain⟨ok0,jk,jn⟩:=pn.row (by omega) hz
   rw[←pn.rows] at jn
   obtain⟨rs,last,jr⟩:∃rs last,B.rows=rs++[last]:=⟨B.rows.dropLast,B.rows.getLast jn,(List.dropLast_concat_getLast jn).symm⟩
   have jll:last.length<100000:=by
    have:=iv.rr last (by rw[jr];simp)
    omega
   obtain⟨ink,hue,hS,hH,_,ey⟩:=zz (row:=t / (w+g)) (x:=t % (w+g)) iv.p iv.st ok ok0 hm f jk ⟨x0,hz⟩ jr jll (by have:=iv.tch;omega) (by have:=iv.grd;omega)
   refine⟨_,wZ (M0:=[]) (fs:=s) (hue:=hue) hm ok0 ht0 hp iv.te iv.st iv.p iv.tch iv.grd (by have:=iv.lost;omega) (by have:=iv.rl;omega) iv.rr jk jr,by unfold tickP;rw[if_pos hz,if_neg hx,←pn.rows];exact wD hp ok0 jk jr (Co hS hH),fun M0 h0=>?_⟩
   exact zx f ht0 ht1 iv.te iv.te hz (.inr ⟨hx,rfl⟩) (ey M0 h0)
 ·refine⟨{B with t:=t+1},⟨rfl,iv.st,⟨iv.p.st,iv.p.tk,iv.p.tch,iv.p.grd,iv.p.lost⟩,by have:=iv.tch;show B.tch.length≤_;omega,by have:=iv.grd;show B.grd.length≤_;omega,by have:=iv.lost;show B.lost.length≤_;omega,by have:=iv.rl;show B.rows.length≤_;omega,fun r hr=>by have:=iv.rr r hr;omega,fun h1 h2=>?_⟩,?_,fun M0 _=>Bm f ht0 ht1 iv.te hz⟩
  ·exfalso
   rcases lA (t:=t) hp with⟨_,q⟩|q <;> omega
  ·unfold tickP
   rw[if_neg hz]
   refine⟨pn.rows,fun h1 h2=>?_⟩
   exfalso
   rcases lA (t:=t) hp with⟨_,q⟩|q <;> omega
theorem sN {s:br}{w h g m mm e:Int}(ok:bt mm s)(hm:mm≤12)(f:iN w h g m)(he:e≤h*(w+g))(he2:e≤3000){x1:Option D}:∀(n fuel:Nat) (t:Int) (B:Bs) (P:Pc),0≤t→t+n=e→n<fuel→oF w g m mm s t B→A0 w g m mm t P B→
  ∃B',oF w g m mm s e B'∧A0 w g m mm e (goP w g m s n t P) B'∧∀M0,iO M0→fe gu iE fuel [some (.mr M0.length),x1,some (.int e)] (ao M0 (aT w h g m) B)=.ok (.nx [some (.mr M0.length),x1,some (.int e)]) (ao M0 (aT w h g m) B')
 | n,0,t,B,_,_,_,hf,_,_=>by omega
 | 0,fuel+1,t,B,P,h1,h2,_,iv,pn=>by
  have e1:t=e:=by omega
  subst e1
  refine⟨B,iv,pn,fun M0 h0=>xR ?_⟩
  unfold gu
  exact dF (aN (f:=oS) (cT (g:=ae 0) (ρ:=[some (.mr M0.length),x1,some (.int t)]) (f:="ahead") rfl eN xL) (b:=ae 2) (y:=.int t) rfl (by rw[iv.te];show bg.ok (D.bl (decide (t<t))) _=_;rw[decide_eq_false (by omega)]))
 | n+1,fuel+1,t,B,P,h1,h2,hf,iv,pn=>by
  obtain⟨B1,iv1,pn1,e1⟩:=C3 ok hm f h1 (by omega) (by omega) iv pn
  obtain⟨B',iv',pn',e2⟩:=sN ok hm f he he2 (x1:=x1) n fuel (t+1) B1 _ (by omega) (by omega) (by omega) iv1 pn1
  refine⟨B',iv',pn',fun M0 h0=>?_⟩
  rw[←e2 M0 h0]
  refine BH (M1:=ao M0 (aT w h g m) B) ?_ ?_
  ·unfold gu
   exact dF (aN (f:=oS) (cT (g:=ae 0) (ρ:=[some (.mr M0.length),x1,some (.int e)]) (f:="ahead") rfl eN xL) (b:=ae 2) (y:=.int e) rfl (by rw[iv.te];show bg.ok (D.bl (decide (t<e))) _=_;rw[decide_eq_true (by omega)]))
  ·unfold iE
   exact cx (iw (c:="Beam") (m:="go_tick") (n:=1) (go:=ae 0) (ga:=ah) (ρ:=[some (.mr M0.length),x1,some (.int e)]) rfl eN rfl (ds:=[]) rfl rfl (e1 M0 h0))
theorem B0 (ok:bt mm s)(hm:mm≤12)(f:iN w h g m)(ht0:0≤t)(hk:0≤k)(he:t+k≤h*(w+g))(iv:oF w g m mm s t B)(pn:A0 w g m mm t P B) :
  ∃B',oF w g m mm s (t+k) B'∧A0 w g m mm (t+k) (goP w g m s k.toNat t P) B'∧∀M0,iO M0→lK [.mr M0.length,.int k] (ao M0 (aT w h g m) B)=.ok .non (ao M0 (aT w h g m) B'):=by
 have hb:h*(w+g)≤40*60:=by
  have a:=f.w;have b:=f.g;have c:=f.h
  exact Int.mul_le_mul (by omega) (by omega) (by omega) (by omega)
 obtain⟨B',iv',pn',ew⟩:=sN (x1:=some (.int k)) ok hm f he (by omega) k.toNat 5000 t B P ht0 (by omega) (by omega) iv pn
 refine⟨B',iv',pn',fun M0 h0=>?_⟩
 show aH (lI [some (.mr M0.length),some (.int k),none] _)=_
 unfold lI
 have q0:(ao M0 (aT w h g m) B)[M0.length]?=some (.obj "Beam" (cg (aT w h g m) M0.length B)):=eN
 have k1:=bA (i:=2) (aN (f:=bM) (o:=.ok (.int (t+k)) (ao M0 (aT w h g m) B)) (cT (g:=ae 0) (ρ:=[some (.mr M0.length),some (.int k),none]) (f:="ahead") rfl q0 xL) (b:=ae 1) (y:=.int k) rfl (by rw[iv.te];rfl))
 rw[aw k1]
 have c1:=dJ (F:=bV) (o:=.ok (.int (h*(w+g))) (ao M0 (aT w h g m) B)) (cT (g:=ae 0) (ρ:=[some (.mr M0.length),some (.int k),some (.int (t+k))]) (f:="frame") rfl q0 nE) (eV f)
 have tst:=dF (x:=false) (aN (f:=zc) (a:=ae 2) (ρ:=[some (.mr M0.length),some (.int k),some (.int (t+k))]) (x:=.int (t+k)) rfl c1 (by show bg.ok (D.bl (decide (t+k>h*(w+g)))) _=_;rw[decide_eq_false (by omega)]))
 refine(congrArg aH (aw ((bT tst).trans rfl))).trans ?_
 show aH (fe gu iE 5000 [some (.mr M0.length),some (.int k),some (.int (t+k))] _)=_
 rw[ew M0 h0];rfl
theorem FR (f:iN w h g m):iD [.mr M0.length] (ao M0 (aT w h g m) B)=.ok (.bl (decide (B.t=h*(w+g)))) (ao M0 (aT w h g m) B):=by
 show aH (fO [some (.mr M0.length)] _)=_
 unfold fO
 have q0:(ao M0 (aT w h g m) B)[M0.length]?=some (.obj "Beam" (cg (aT w h g m) M0.length B)):=eN
 rw[aZ (aN (f:=a7 false) (cT (g:=ae 0) (ρ:=[some (.mr M0.length)]) (f:="ahead") rfl q0 xL) (dJ (F:=bV) (o:=.ok (.int (h*(w+g))) (ao M0 (aT w h g m) B)) (cT (g:=ae 0) (ρ:=[some (.mr M0.length)]) (f:="frame") rfl q0 nE) (eV f)) (zq _ _ _))]
 rfl
theorem Ci (ok:bt mm s)(hm:mm≤900)(f:iN w h g m)(hs:B.st=s.d)(hd:oG s dd)(ht:B.t≠h*(w+g)) :
  kO [.mr M0.length,dd.d] (ao M0 (aT w h g m) B)=.ok .non (ao M0 (aT w h g m) {B with st:=(b9 s dd).d}):=by
 show aH (jc [some (.mr M0.length),some dd.d] _)=_
 unfold jc
 have q0:(ao M0 (aT w h g m) B)[M0.length]?=some (.obj "Beam" (cg (aT w h g m) M0.length B)):=eN
 have k1:=cY (iw (c:="Beam") (m:="is_over") (n:=1) (go:=ae 0) (ga:=ah) (ρ:=[some (.mr M0.length),some dd.d]) rfl q0 rfl (ds:=[]) rfl rfl (FR (M0:=M0) (B:=B) f))
 rw[decide_eq_false ht] at k1
 rw[aw ((bT k1).trans rfl)]
 have k2:=fD (F:=cW) (o:=.ok (b9 s dd).d (ao M0 (aT w h g m) B)) (cT (g:=ae 0) (ρ:=[some (.mr M0.length),some dd.d]) (f:="standing") rfl q0 Ce) (b:=ae 1) (y:=dd.d) (M2:=ao M0 (aT w h g m) B) rfl (by rw[hs];exact xM ok hm hd)
 rw[ve k2 (rfl:ae 0 [some (.mr M0.length),some dd.d] (ao M0 (aT w h g m) B)=.ok (.mr M0.length) (ao M0 (aT w h g m) B)) q0 u5,Je]
 rfl
theorem BA (iv:oF w g m mm s t B):oF w g m mm (b9 s dd) t {B with st:=(b9 s dd).d}:=
 ⟨iv.te,rfl,⟨xb _,iv.p.tk,iv.p.tch,iv.p.grd,iv.p.lost⟩,iv.tch,iv.grd,iv.lost,iv.rl,iv.rr,iv.row⟩
theorem Ds (pn:A0 w g m mm t P B):A0 w g m mm t P {B with st:=st}:=⟨pn.rows,pn.row⟩
theorem DC (b:Nat)(n:Nat):jf (gQ b n) (gQ b n)=true:=gj _
theorem oA {t:sv}{ge:GE}{ρ:cn}{f:D→D}{M:aB}(ht:t.ok M=true):∀(ds:List D),(∀d∈ds,ge (some d::ρ) M=.ok (f d) M)→dH t bL ge ds ρ M=.ok (ds.map f) M
 | [],h=>by
  unfold dH
  rw[ht,if_pos rfl];rfl
 | d::ds,h=>by
  have ih:=oA (ge:=ge) (ρ:=ρ) (f:=f) ht ds fun x hx=>h x (List.mem_cons_of_mem _ hx)
  unfold dH
  rw[ht,if_pos rfl,show bL (some d::ρ) M=.ok true M from rfl]
  dsimp only
  rw[h d List.mem_cons_self]
  dsimp only
  rw[ih];rfl
theorem qO (hr:B.rows.length≤90000):fV [.mr M0.length] (ao M0 fr B)=.ok (.lst (B.rows.map fun r=>.lst (r.map D.int))) (ao M0 fr B):=by
 show aH (fR [some (.mr M0.length)] _)=_
 unfold fR
 have fl:=cT (g:=ae 0) (ρ:=[some (.mr M0.length)]) (M:=ao M0 fr B) (f:="laid_rows") rfl eN uz
 have gi:bG (dm "Beam" "laid_rows" (ae 0)) [some (.mr M0.length)] (ao M0 fr B)=.ok ⟨gQ M0.length B.rows.length,some (M0.length+1)⟩ (ao M0 fr B):=by
  unfold bG
  rw[fl,aj]
  unfold v4
  dsimp only
  rw[Bi]
 have ht:(⟨gQ M0.length B.rows.length,some (M0.length+1)⟩:sv).ok (ao M0 fr B)=true:=by
  unfold sv.ok
  dsimp only
  rw[Bi]
  exact DC _ _
 have ec:=oA (ge:=du) (ρ:=[some (.mr M0.length)]) (f:=fun d=>match d with | .mr k=>.lst ((B.rows.getD (k-(M0.length+5)) []).map D.int)|d=>d) ht (gQ M0.length B.rows.length) (fun d hd=>by
  obtain⟨i,hi,rfl⟩:=List.mem_map.mp hd
  have hi:=List.mem_range.mp hi
  have gr:B.rows[i]?=some B.rows[i]:=List.getElem?_eq_getElem hi
  unfold du
  refine mJ (a:=ae 0) (x:=.mr (M0.length+5+i)) rfl ?_
  unfold ji b0
  dsimp only
  rw[xB gr]
  show bg.ok (D.lst (B.rows[i].map D.int)) _=_
  have e:(B.rows.getD (M0.length+5+i-(M0.length+5)) [])=B.rows[i]:=by
   rw[Nat.add_sub_cancel_left,List.getD,gr];rfl
  rw[e])
 have em:(gQ M0.length B.rows.length).map (fun d=>match d with | .mr k=>.lst ((B.rows.getD (k-(M0.length+5)) []).map D.int)|d=>d)=B.rows.map fun r=>D.lst (r.map D.int):=by
  unfold gQ
  rw[List.map_map]
  apply List.ext_getElem
  ·simp
  ·intro i q1 q2
   simp at q1 q2 ⊢
   simp[q2]
 rw[em] at ec
 have gc:aY (bG (dm "Beam" "laid_rows" (ae 0))) bL du aF [some (.mr M0.length)] (ao M0 fr B)=.ok (.lst (B.rows.map fun r=>.lst (r.map D.int))) (ao M0 fr B):=by
  unfold aY
  rw[gi,aj]
  dsimp only
  rw[ec,aj]
  unfold aF
  rw[if_pos (aE (by rw[List.length_map];omega))]
 rw[aZ gc];rfl
variable{ds:List D}
theorem yV {go:GE}{ga:GA}{F:FD}{M1 M2:aB}{k:Nat}{c m:Str}{r:bg D}(h:go ρ M=.ok (.mr k) M1)(hM:M1[k]?=some (.obj c fs))(hn:fs.lookup m=none)
  (ha:ga ρ M1=.ok ds M2) (hl:ds.length+1=n) (hF:F (.mr k::ds) M2=r):eU c m n F go ga ρ M=r:=by
 unfold eU
 rw[h,aj,qt hM]
 dsimp only
 rw[if_pos hn,ha,aj,if_pos hl,hF]
noncomputable def eJ (td:List (Int×Dd)):List D:=td.map fun p=>.tup [.int p.1,p.2.d]
structure ju (T:Int)(s:br)(td:List (Int×Dd)):Prop where
 rng:∀p∈td,0≤p.1∧p.1<T
 ord:(td.map (·.1)).Pairwise (·≤·)
 dd:∀p∈td,oG s p.2
 len:td.length<64
theorem oE {gi:GI}{ge:GE}{f:D→D}(hi:gi ρ M=.ok ⟨ds,none⟩ M)(hl:ds.length≤100000)(h:∀d∈ds,∃ρ1,sg d (List.replicate n none++ρ)=some ρ1∧ge ρ1 M=.ok (f d) M) :
  bH gi n sg bL ge aF ρ M=.ok (.lst (ds.map f)) M:=by
 unfold bH
 rw[hi,aj]
 dsimp only
 rw[nZ ds h,aj]
 unfold aF
 rw[if_pos (aE (by rw[List.length_map];omega))]
theorem sT:∀ns:List Int,pq (ns.map D.int)=some ns
 | []=>rfl
 | n::ns=>by
  show(pq (ns.map D.int)).map (n::·)=_
  rw[sT ns];rfl
theorem Ad (h:ns.Pairwise (·≤·)):sortI ns=ns:=oi (mf ns) (vV ns) h
theorem xt (hl:ns.length<64):pT [.lst (ns.map D.int)] M=.ok (.lst ((sortI ns).map D.int)) M:=by
 show(match pq (ns.map D.int) with|some ns=>if ns.length<64 then bg.ok (D.lst ((sortI ns).map D.int)) M else .bad|none=>.bad)=_
 rw[sT]
 show(if ns.length<64 then _ else _)=_
 rw[if_pos hl]
theorem EG {a b:List Int}:a7 false (.lst (a.map D.int)) (.lst (b.map D.int)) M=.ok (.bl (decide (a=b))) M:=by
 have co:∀l:List Int,aA 40 (.lst (l.map D.int))=true:=fun l=>iI (n:=39) fun d hd=>by
  obtain⟨i,_,rfl⟩:=List.mem_map.mp hd
  rfl
 have eb:∀a b:List Int,f6 (a.map D.int) (b.map D.int)=decide (a=b):=by
  intro a
  induction a with
  | nil=>intro b;cases b with
   | nil=>rfl
   | cons x b=>rw[decide_eq_false (by simp)];rfl
  | cons x a ih=>intro b;cases b with
   | nil=>rw[decide_eq_false (by simp)];rfl
   | cons y b=>
    have e:f6 ((x::a).map D.int) ((y::b).map D.int)=(decide (x=y)&&f6 (a.map D.int) (b.map D.int)):=rfl
    rw[e,ih,←Bool.decide_and]
    exact decide_eq_decide.mpr (by simp)
 unfold a7
 show(if(aA 40 (.lst (a.map D.int))&&aA 40 (.lst (b.map D.int)))=true then bg.ok (D.bl (gf (.lst (a.map D.int)) (.lst (b.map D.int)) != false)) M else .bad)=_
 rw[co,co]
 have e:gf (.lst (a.map D.int)) (.lst (b.map D.int))=f6 (a.map D.int) (b.map D.int):=rfl
 rw[e,eb]
 simp
theorem FV {T:List (Int×Dd)}(f:iN w h g m)(hl:T.length<64) :
  il [aT w h g m,.lst (eJ T)] M=.ok (.bl (decide (T.map (·.1)=sortI (T.map (·.1)))&&(T.map (·.1)).all fun t=>decide (0≤t)&&decide (t<h*(w+g)))) M:=by
 show aH (g9 [some (aT w h g m),some (.lst (eJ T)),none] M)=_
 unfold g9
 have ll:(eJ T).length≤100000:=by unfold eJ;rw[List.length_map];omega
 have c1:=oE (gi:=bG (ae 1)) (n:=2) (sg:=bh [0,1]) (ge:=jq) (ρ:=[some (aT w h g m),some (.lst (eJ T)),none]) (M:=M) (f:=fun d=>match d with | .tup [t,_]=>t|d=>d) (iQ rfl) ll (fun d hd=>by
  obtain⟨p,_,rfl⟩:=List.mem_map.mp hd
  exact⟨[some (.int p.1),some p.2.d,some (aT w h g m),some (.lst (eJ T)),none],rfl,rfl⟩)
 have em:(eJ T).map (fun d=>match d with | .tup [t,_]=>t|d=>d)=(T.map (·.1)).map D.int:=by
  unfold eJ
  rw[List.map_map,List.map_map];rfl
 rw[em] at c1
 rw[aw (bA c1)]
 generalize hn:T.map (·.1)=ns at *
 have nl:ns.length<64:=by rw[←hn,List.length_map];exact hl
 have k1:g2 (a7 false) (ae 2) (aI pT (aa (ae 2) ah)) [some (aT w h g m),some (.lst (eJ T)),some (.lst (ns.map D.int))] M=.ok (.bl (decide (ns=sortI ns))) M:=
  aN (x:=.lst (ns.map D.int)) rfl (mJ (a:=ae 2) (x:=.lst (ns.map D.int)) rfl (xt nl)) EG
 have k2:=mx (gi:=bG (ae 2)) (ge:=jm) (ρ:=[some (aT w h g m),some (.lst (eJ T)),some (.lst (ns.map D.int))]) (M:=M) (xs:=ns.map D.int) (p:=fun d=>match d with | .int t=>decide (0≤t)&&decide (t<h*(w+g))|_=>true) (iQ rfl) (by rw[List.length_map];omega) (fun d hd=>by
  obtain⟨t,_,rfl⟩:=List.mem_map.mp hd
  have tc:=dJ (F:=bV) (a:=ae 1) (ρ:=[some (D.int t),some (aT w h g m),some (.lst (eJ T)),some (.lst (ns.map D.int))]) (M:=M) rfl (eV f)
  show oZ nP oS (gC (.int 0)) (ae 0) (aq 1 bV (aa (ae 1) ah)) [some (D.int t),some (aT w h g m),some (.lst (eJ T)),some (.lst (ns.map D.int))] M=_
  unfold oZ
  show(bg.ok (D.int 0) M).bind _=_
  rw[aj]
  show(bg.ok (D.int t) M).bind _=_
  rw[aj]
  show(bg.ok (D.bl (decide (0≤t))) M).bind _=_
  rw[aj]
  by_cases q:0≤t
  ·rw[decide_eq_true q]
   dsimp only
   rw[tc,aj]
   show bg.ok (D.bl (decide (t<h*(w+g)))) M=_
   rw[decide_eq_true q,Bool.true_and]
  ·rw[decide_eq_false q]
   dsimp only
   rw[decide_eq_false q,Bool.false_and])
 have ea:(ns.map D.int).all (fun d=>match d with | .int t=>decide (0≤t)&&decide (t<h*(w+g))|_=>true)=ns.all fun t=>decide (0≤t)&&decide (t<h*(w+g)):=by rw[List.all_map];rfl
 rw[ea] at k2
 show aH (aJ _ [some (aT w h g m),some (.lst (eJ T)),some (.lst (ns.map D.int))] M)=_
 rw[aZ (bW k1 fun _=>k2)]
 rfl
variable{td:List (Int×Dd)}
theorem ju.hold (f:iN w h g m)(p:ju (h*(w+g)) s td):il [aT w h g m,.lst (eJ td)] M=.ok (.bl true) M:=by
 rw[FV f p.len,Ad p.ord,decide_eq_true rfl,Bool.true_and]
 have e:((td.map (·.1)).all fun t=>decide (0≤t)&&decide (t<h*(w+g)))=true:=List.all_eq_true.mpr fun t ht=>by
  obtain⟨q,hq,rfl⟩:=List.mem_map.mp ht
  have:=p.rng q hq
  simp[this.1,this.2]
 rw[e]
theorem vD (h:∀p∈td,oG s p.2)(hl:td.length<64) :
  aI kI (aa (bH (bG (ae 2)) 2 (bh [0,1]) bL eY aF) ah) [some fr,some s.d,some (.lst (eJ td))] M=.ok (.bl true) M:=by
 have ll:(eJ td).length≤100000:=by unfold eJ;rw[List.length_map];omega
 have c1:=oE (gi:=bG (ae 2)) (n:=2) (sg:=bh [0,1]) (ge:=eY) (ρ:=[some fr,some s.d,some (.lst (eJ td))]) (M:=M) (f:=fun _=>.bl true) (iQ rfl) ll (fun d hd=>by
  obtain⟨p,hp,rfl⟩:=List.mem_map.mp hd
  refine⟨[some (.int p.1),some p.2.d,some fr,some s.d,some (.lst (eJ td))],rfl,?_⟩
  unfold eY
  exact fD (a:=ae 3) (b:=ae 1) rfl rfl (tq (h p hp)))
 refine mJ c1 ?_
 have bo:∀ds:List D,cS (ds.map fun _=>D.bl true)=some (ds.map fun _=>true):=fun ds=>yt (p:=fun _=>true) ds
 show(match cS ((eJ td).map fun _=>D.bl true) with|some bs=>bg.ok (D.bl (bs.all id)) M|none=>.bad)=_
 rw[bo]
 have e:((eJ td).map fun _=>true).all id=true:=by simp
 show bg.ok (D.bl (((eJ td).map fun _=>true).all id)) M=_
 rw[e]
theorem DT (f:iN w h g m)(ok:bt mm s)(hm:mm≤12)(p:ju (h*(w+g)) s td):ki [aT w h g m,s.d,.lst (eJ td)] M=.ok .non M:=by
 show aH (ii [some (aT w h g m),some s.d,some (.lst (eJ td))] M)=_
 unfold ii
 have hc:bN [aT w h g m,s.d] M=.ok .non M:=vA p0 (vn ok (by omega)) (wA f) (wY ok hm)
 rw[aw (cx (fD (a:=ae 0) (b:=ae 1) (ρ:=[some (aT w h g m),some s.d,some (.lst (eJ td))]) rfl rfl hc))]
 have k1:=cr (cY (fD (a:=ae 0) (b:=ae 2) (ρ:=[some (aT w h g m),some s.d,some (.lst (eJ td))]) rfl rfl (p.hold (M:=M) f)))
 rw[aw ((bT k1).trans rfl),bT (cr (cY (vD p.dd p.len)))]
 rfl
theorem yT (s:br)(dd:Dd):(b9 s dd).movers.length=s.movers.length∧(b9 s dd).book=s.book:=by
 have sm:∀i f,(eW s i f).movers.length=s.movers.length∧(eW s i f).book=s.book:=fun i f=>by
  unfold eW
  split
  ·exact⟨by simp,rfl⟩
  ·exact⟨rfl,rfl⟩
 cases dd <;> first|exact⟨rfl,rfl⟩|exact sm _ _
theorem AH {d2:Dd}(h:oG s d2):oG (b9 s dd) d2:=by
 obtain⟨e1,e2⟩:=yT s dd
 cases d2 <;> simp only[oG,e1,e2] at*<;> exact h
theorem EW {ds0:List D}{b:GS}{d:D}{ρ1 ρ2:cn}{M1:aB}(h1:sg d ρ=some ρ1)(h2:b ρ1 M=.ok (.nx ρ2) M1):fZ ⟨ds0,none⟩ sg b (d::ds) ρ M=fZ ⟨ds0,none⟩ sg b ds ρ2 M1:=by
 show(match sg d ρ with|none=>bg.bad|some ρ1=>(b ρ1 M).bind fun f M1=>match f with | .nx ρ2=>fZ ⟨ds0,none⟩ sg b ds ρ2 M1 | .ct ρ2=>fZ ⟨ds0,none⟩ sg b ds ρ2 M1 | .bk ρ2=>.ok (.nx ρ2) M1 | .rt d=>.ok (.rt d) M1)=_
 rw[h1]
 dsimp only
 rw[h2,aj]
theorem rZ :ft [.mr M0.length] (ao M0 fr B)=.ok (.int B.t) (ao M0 fr B):=by
 show aH (jh [some (.mr M0.length)] _)=_
 unfold jh
 rw[aZ (cT (g:=ae 0) (ρ:=[some (.mr M0.length)]) (f:="ahead") rfl eN xL)];rfl
theorem vm {w h g m mm:Int}(hm:mm≤12)(f:iN w h g m)(x0 x1 x2:Option D)(ds0:List D):∀(td:List (Int×Dd)) (s:br) (t:Int) (B:Bs) (P:Pc),bt mm s→0≤t→t≤h*(w+g)→(∀p∈td,t≤p.1∧p.1<h*(w+g))→(td.map (·.1)).Pairwise (·≤·)→(∀p∈td,oG s p.2)→oF w g m mm s t B→A0 w g m mm t P B→
  ∃B' s' t' P',bt mm s'∧0≤t'∧t'≤h*(w+g)∧oF w g m mm s' t' B'∧A0 w g m mm t' P' B'∧planP w g m (h*(w+g)) td s t P=goP w g m s' (h*(w+g)-t').toNat t' P'∧∀M0,iO M0→∀x4 x5,∃y4 y5,fZ ⟨ds0,none⟩ (bh [4,5]) lL (eJ td) [x0,x1,x2,some (.mr M0.length),x4,x5] (ao M0 (aT w h g m) B)=.ok (.nx [x0,x1,x2,some (.mr M0.length),y4,y5]) (ao M0 (aT w h g m) B')
 | [],s,t,B,P,ok,h0,hT,_,_,_,iv,pn=>⟨B,s,t,P,ok,h0,hT,iv,pn,rfl,fun M0 _ x4 x5=>⟨x4,x5,rfl⟩⟩
 | p::td,s,t,B,P,ok,h0,hT,hr,ho,hd,iv,pn=>by
  obtain⟨a1,a2⟩:=hr p (List.mem_cons_self ..)
  obtain⟨o1,o2⟩:=List.pairwise_cons.mp ho
  obtain⟨B1,iv1,pn1,e1⟩:=B0 (k:=p.1-t) ok hm f h0 (by omega) (by omega) iv pn
  rw[show t+(p.1-t)=p.1 by omega] at iv1 pn1
  have d0:=hd p (List.mem_cons_self ..)
  have iv2:=BA (dd:=p.2) iv1
  have ok2:=u9 ok d0
  obtain⟨B',s',t',P',ok',h0',hl',iv',pn',eP,e2⟩:=vm hm f x0 x1 x2 ds0 td (b9 s p.2) p.1 _ _ ok2 (by omega) (by omega) (fun q hq=>⟨o1 q.1 (List.mem_map.mpr ⟨q,hq,rfl⟩),(hr q (List.mem_cons_of_mem _ hq)).2⟩) o2 (fun q hq=>AH (hd q (List.mem_cons_of_mem _ hq))) iv2 (Ds pn1)
  refine⟨B',s',t',P',ok',h0',hl',iv',pn',eP,fun M0 hM x4 x5=>?_⟩
  obtain⟨y4,y5,e3⟩:=e2 M0 hM (some (.int p.1)) (some p.2.d)
  refine⟨y4,y5,?_⟩
  rw[←e3]
  refine EW (ρ1:=[x0,x1,x2,some (.mr M0.length),some (.int p.1),some p.2.d]) rfl ?_
  unfold lL
  have kt:=iw (c:="Beam") (m:="tick") (n:=1) (go:=ae 3) (ga:=ah) (ρ:=[x0,x1,x2,some (.mr M0.length),some (.int p.1),some p.2.d]) (M:=ao M0 (aT w h g m) B) rfl eN rfl (ds:=[]) rfl rfl (rZ (M0:=M0) (B:=B))
  have ks:=aN (f:=fq) (o:=.ok (.int (p.1-t)) (ao M0 (aT w h g m) B)) (a:=ae 4) (x:=.int p.1) rfl kt (by rw[iv.te];rfl)
  have kg:=iw (c:="Beam") (m:="go") (n:=2) (go:=ae 3) (ga:=aa (g2 fq (ae 4) (eU "Beam" "tick" 1 ft (ae 3) ah)) ah) (ρ:=[x0,x1,x2,some (.mr M0.length),some (.int p.1),some p.2.d]) (M:=ao M0 (aT w h g m) B) rfl eN rfl (ds:=[.int (p.1-t)]) (aG ks rfl) rfl (e1 M0 hM)
  rw[aw (cx kg)]
  exact cx (iw (c:="Beam") (m:="deed") (n:=2) (go:=ae 3) (ga:=aa (ae 5) ah) (ρ:=[x0,x1,x2,some (.mr M0.length),some (.int p.1),some p.2.d]) (M:=ao M0 (aT w h g m) B1) rfl eN rfl (ds:=[p.2.d]) rfl rfl (Ci ok (by omega) f iv1.st d0 (by rw[iv1.te];omega)))
theorem vQ (hm:mm≤12)(f:iN w h g m)(ok:bt mm s)(p:ju (h*(w+g)) s td) :
  ∃B' s',oF w g m mm s' (h*(w+g)) B'∧B'.rows=(planP w g m (h*(w+g)) td s 0 ⟨s,[]⟩).rows∧∀M0,iO M0→uC [aT w h g m,s.d,.lst (eJ td)] M0=.ok (.mr M0.length) (ao M0 (aT w h g m) B'):=by
 have hp:0≤h*(w+g):=Int.mul_nonneg (by have:=f.h;omega) (by have:=f.w;have:=f.g;omega)
 have hc:∀M,bN [aT w h g m,s.d] M=.ok .non M:=fun M=>vA p0 (vn ok (by omega)) (wA f) (wY ok hm)
 obtain⟨B1,s1,t1,P1,ok1,h1,h2,iv1,pn1,eP,e1⟩:=vm hm f (some (aT w h g m)) (some s.d) (some (.lst (eJ td))) (eJ td) td s 0 (sC s.d) ⟨s,[]⟩ ok (Int.le_refl 0) hp p.rng p.ord p.dd (N5 (xb s)) ⟨rfl,fun q=>absurd q (by simp)⟩
 obtain⟨B',iv',pn',e2⟩:=B0 (k:=h*(w+g)-t1) ok1 hm f h1 (by omega) (by omega) iv1 pn1
 rw[show t1+(h*(w+g)-t1)=h*(w+g) by omega] at iv' pn'
 refine⟨B',s1,iv',by rw[eP];exact pn'.rows,fun M0 h0=>?_⟩
 obtain⟨y4,y5,e3⟩:=e1 M0 h0 none none
 show aH (tV [some (aT w h g m),some s.d,some (.lst (eJ td)),none,none,none] M0)=_
 unfold tV
 rw[aw (cx (fK (a:=ae 0) (b:=ae 1) (c:=ae 2) (ρ:=[some (aT w h g m),some s.d,some (.lst (eJ td)),none,none,none]) rfl rfl rfl (DT f ok hm p)))]
 rw[aw (bA (EF (ga:=aa (ae 0) (aa (ae 1) ah)) (ρ:=[some (aT w h g m),some s.d,some (.lst (eJ td)),none,none,none]) rfl hc))]
 have kf:kN (bG (ae 2)) (bh [4,5]) lL [some (aT w h g m),some s.d,some (.lst (eJ td)),some (.mr M0.length),none,none] (ao M0 (aT w h g m) (sC s.d))=_:=mw (t:=⟨eJ td,none⟩) (iQ rfl) e3
 rw[aw (show kN (bG (ae 2)) (bh [4,5]) lL ([some (aT w h g m),some s.d,some (.lst (eJ td)),none,none,none].set 3 (some (.mr M0.length))) (ao M0 (aT w h g m) (sC s.d))=_ from kf)]
 have kt:=iw (c:="Beam") (m:="tick") (n:=1) (go:=ae 3) (ga:=ah) (ρ:=[some (aT w h g m),some s.d,some (.lst (eJ td)),some (.mr M0.length),y4,y5]) (M:=ao M0 (aT w h g m) B1) rfl eN rfl (ds:=[]) rfl rfl (rZ (M0:=M0) (B:=B1))
 have ks:=aN (f:=fq) (o:=.ok (.int (h*(w+g)-t1)) (ao M0 (aT w h g m) B1)) (dJ (a:=ae 0) (ρ:=[some (aT w h g m),some s.d,some (.lst (eJ td)),some (.mr M0.length),y4,y5]) rfl (eV (M:=ao M0 (aT w h g m) B1) f)) kt (by rw[iv1.te];rfl)
 have kg:=iw (c:="Beam") (m:="go") (n:=2) (go:=ae 3) (ρ:=[some (aT w h g m),some s.d,some (.lst (eJ td)),some (.mr M0.length),y4,y5]) (M:=ao M0 (aT w h g m) B1) rfl eN rfl (ga:=aa (g2 fq (aq 1 bV (aa (ae 0) ah)) (eU "Beam" "tick" 1 ft (ae 3) ah)) ah) (ds:=[.int (h*(w+g)-t1)]) (aG ks rfl) rfl (e2 M0 h0)
 rw[aw (cx kg)]
 rfl
theorem zU {p:Int}(hp:0<p)(h0:0≤t)(hz:(t+1) % p=0):(t+1) / p=t / p+1∧t % p=p-1:=by
 have e1:=Int.mul_ediv_add_emod t p
 have e2:=Int.mul_ediv_add_emod (t+1) p
 have a1:=Int.emod_nonneg t (Int.ne_of_gt hp)
 have a2:=Int.emod_lt_of_pos t hp
 rw[hz] at e2
 have e3:p*((t+1) / p-t / p)=t % p+1:=by rw[Int.mul_sub];omega
 generalize (t+1) / p=q2 at *
 generalize t / p=q1 at *
 rcases Int.lt_trichotomy (q2-q1) 1 with z|z|z
 ·have:p*(q2-q1)≤p*0:=Int.mul_le_mul_of_nonneg_left (by omega) (by omega)
  omega
 ·rw[z] at e3
  exact⟨by omega,by omega⟩
 ·have:p*2≤p*(q2-q1):=Int.mul_le_mul_of_nonneg_left (by omega) (by omega)
  omega
noncomputable def hueP (pt:List Int) (s0:br) (w m row x:Int):Int:=pt.getD (inkS x ((vh s0 w row).getD x.toNat 0) (gW x (cb s0 m row))).toNat 0
noncomputable def o7 (p t:Int):Nat:=(t / p).toNat+if t % p=0 then 0 else 1
noncomputable def kq (w p t:Int)(i:Nat):Nat:=if(i:Int)=t / p then(min (t % p) w).toNat else w.toNat
noncomputable def rowP (pt:List Int) (w m:Int) (S:Nat→br) (i n:Nat):List Int:=(List.range n).map fun(y:Nat)=>hueP pt (S i) w m i y
structure jx (pt:List Int)(w g m t:Int)(S:Nat→br)(P:Pc):Prop where
 rows:P.rows=(List.range (o7 (w+g) t)).map fun i=>rowP pt w m S i (kq w (w+g) t i)
 s0:0<t % (w+g)→P.s0=S (t / (w+g)).toNat
noncomputable def jZ (p t:Int)(s:br)(S:Nat→br):Nat→br:=fun i=>if t % p=0∧i=(t / p).toNat then s else S i
theorem C0 (pt:List Int)(w m:Int)(S:Nat→br)(i n:Nat):rowP pt w m S i (n+1)=rowP pt w m S i n++[hueP pt (S i) w m i n]:=by
 unfold rowP;rw[List.range_succ,List.map_append];rfl
theorem wW (s:br)(w m row x:Int)(s0:br)(rs:List (List Int))(last:List Int):layP s w m row x s0 (rs++[last])=⟨s0,rs++[last++[hueAt s s0 w m row x]]⟩:=by
 unfold layP;rw[List.dropLast_concat,List.getLastD_concat]
variable{pt:List Int}{S:Nat→br}
theorem vT (hw:1≤w)(hg:0≤g)(h0:0≤t)(hs:s.pots=pt)(ok:jx pt w g m t S P):jx pt w g m (t+1) (jZ (w+g) t s S) (tickP w g m s t P):=by
 have hp:0<w+g:=by omega
 have a1:=Int.emod_nonneg t (Int.ne_of_gt hp)
 have a2:=Int.emod_lt_of_pos t hp
 have q0:0≤t / (w+g):=Int.ediv_nonneg h0 (by omega)
 have nx:((t+1) / (w+g)=t / (w+g)∧(t+1) % (w+g)=t % (w+g)+1)∨((t+1) % (w+g)=0∧(t+1) / (w+g)=t / (w+g)+1∧t % (w+g)=w+g-1):=by
  rcases lA (t:=t) hp with q|q
  ·exact .inl q
  ·exact .inr ⟨q,zU hp h0 q⟩
 have er:=ok.rows
 have es:=ok.s0
 generalize hrow:t / (w+g)=row at *
 generalize hx:t % (w+g)=x at *
 obtain⟨n,rfl⟩:=Int.eq_ofNat_of_zero_le q0
 obtain⟨k,rfl⟩:=Int.eq_ofNat_of_zero_le a1
 have c1:o7 (w+g) (t+1)=n+1:=by
  unfold o7
  rcases nx with⟨e1,e2⟩|⟨e1,e2,_⟩
  ·rw[e1,e2,if_neg (by omega)];omega
  ·rw[e1,e2,if_pos rfl];omega
 have l1:∀i,i<n→kq w (w+g) (t+1) i=w.toNat:=fun i hi=>by
  unfold kq
  rw[if_neg (by rcases nx with⟨e1,_⟩|⟨_,e1,_⟩ <;> omega)]
 have l0:∀i,i<n→kq w (w+g) t i=w.toNat:=fun i hi=>by
  unfold kq
  rw[hrow,if_neg (by omega)]
 have old:∀f:Nat→br,(∀i,i<n→f i=S i)→((List.range n).map fun i=>rowP pt w m f i (kq w (w+g) (t+1) i))=(List.range n).map fun i=>rowP pt w m S i (kq w (w+g) t i):=fun f hf=>by
  apply List.map_congr_left
  intro i hi
  have hi:=List.mem_range.mp hi
  unfold rowP
  rw[l1 i hi,l0 i hi,hf i hi]
 have hN:(↑n:Int).toNat=n:=by omega
 have us:∀i,i<n→jZ (w+g) t s S i=S i:=fun i hi=>by
  unfold jZ;rw[if_neg (by rw[hrow];omega)]
 refine⟨?_,fun h1=>?_⟩
 ·rw[c1,List.range_succ,List.map_append,old _ us]
  show _=_++[rowP pt w m (jZ (w+g) t s S) n (kq w (w+g) (t+1) n)]
  unfold tickP
  rw[hrow,hx]
  by_cases hz:(k:Int)<w
  ·have ln:kq w (w+g) (t+1) n=k+1:=by
    unfold kq
    rcases nx with⟨e1,e2⟩|⟨e1,e2,e3⟩
    ·rw[e1,e2,if_pos rfl];omega
    ·rw[e2,if_neg (by omega)];omega
   rw[if_pos hz,ln,C0]
   by_cases hk:(k:Int)=0
   ·have hk':k=0:=by omega
    subst hk'
    rw[if_pos hk]
    have c0:o7 (w+g) t=n:=by unfold o7;rw[hrow,hx,if_pos hk];omega
    rw[c0] at er
    have u:jZ (w+g) t s S n=s:=by unfold jZ;rw[if_pos ⟨hx,by rw[hrow];omega⟩]
    rw[er,wW]
    show _++[[]++[hueAt s s w m n 0]]=_++[[]++[hueP pt (jZ (w+g) t s S n) w m n 0]]
    rw[u]
    unfold hueAt hueP
    rw[hs]
   ·rw[if_neg hk]
    have c0:o7 (w+g) t=n+1:=by unfold o7;rw[hrow,hx,if_neg hk];omega
    have l2:kq w (w+g) t n=k:=by unfold kq;rw[hrow,hx,if_pos rfl];omega
    rw[c0,List.range_succ,List.map_append] at er
    have u:jZ (w+g) t s S n=S n:=by unfold jZ;rw[if_neg (by rw[hx];omega)]
    rw[er]
    show(layP s w m n k P.s0 (_++[rowP pt w m S n (kq w (w+g) t n)])).rows=_
    rw[wW,l2,es (by omega),hN]
    show _++[_++[hueAt s (S n) w m n k]]=_++[rowP pt w m (jZ (w+g) t s S) n k++[_]]
    have r2:rowP pt w m (jZ (w+g) t s S) n k=rowP pt w m S n k:=by unfold rowP;rw[u]
    rw[r2,u]
    unfold hueAt hueP
    rw[hs]
  ·rw[if_neg hz]
   have hk:¬(k:Int)=0:=by omega
   have c0:o7 (w+g) t=n+1:=by unfold o7;rw[hrow,hx,if_neg hk];omega
   have l2:kq w (w+g) t n=w.toNat:=by unfold kq;rw[hrow,hx,if_pos rfl];omega
   have l3:kq w (w+g) (t+1) n=w.toNat:=by
    unfold kq
    rcases nx with⟨e1,e2⟩|⟨e1,e2,e3⟩
    ·rw[e1,e2,if_pos rfl];omega
    ·rw[e2,if_neg (by omega)]
   rw[c0,List.range_succ,List.map_append] at er
   have u:jZ (w+g) t s S n=S n:=by unfold jZ;rw[if_neg (by rw[hx];omega)]
   rw[er,l3]
   show _++[rowP pt w m S n (kq w (w+g) t n)]=_
   rw[l2]
   unfold rowP
   rw[u]
 ·rcases nx with⟨e1,e2⟩|⟨e1,_⟩
  ·rw[e1,hN]
   unfold tickP
   rw[hrow,hx]
   by_cases hk:(k:Int)=0
   ·rw[if_pos (by omega),if_pos hk]
    unfold jZ
    rw[if_pos ⟨hx.trans hk,by rw[hrow];omega⟩]
    rfl
   ·have u:jZ (w+g) t s S n=S n:=by unfold jZ;rw[if_neg (by rw[hx];omega)]
    rw[u]
    split
    ·exact(es (by omega)).trans (by rw[hN])
    ·exact(es (by omega)).trans (by rw[hN])
  ·omega
noncomputable def mh (b:Int)(m:Mv):Mv:={m with x:=m.x+b}
noncomputable def bY (b:Int)(s:br):br:={s with sx:=s.sx-b,movers:=s.movers.map (mh b)}
noncomputable def uh (b:Int)(q:Sn):Sn:={q with x:=q.x+b}
theorem F0 (b:Int)(s:br)(row:Int):∀n,lR (bY b s) row n=lR s row n
 | 0=>rfl
 | n+1=>by
  unfold lR
  rw[F0 b s row n]
  show _++(match (s.movers.map (mh b))[n]? with|some m=>if wc (bY b s) row m then [(n:Int)] else []|none=>[])=_
  rw[List.getElem?_map]
  cases s.movers[n]? with
  | none=>rfl
  | some m=>rfl
theorem Dg (b:Int)(s:br)(row:Int):bO (bY b s) row=bO s row:=by
 unfold bO
 rw[F0]
 show lR s row (s.movers.map (mh b)).length=_
 rw[List.length_map]
theorem Gv (b:Int)(s:br)(m row:Int):cb (bY b s) m row=(cb s m row).map (uh b):=by
 unfold cb
 rw[Dg,List.map_map]
 apply List.map_congr_left
 intro n hn
 obtain⟨i,rfl,hi,v,gm,_⟩:=nM (wN hn)
 show oJ (bY b s) row i=uh b (oJ s row i)
 unfold oJ
 show(match (s.movers.map (mh b))[(i:Int).toNat]? with|some m=>_|none=>_)=_
 rw[Int.toNat_natCast,List.getElem?_map,gm]
 rfl
theorem Bn (b x:Int)(q:Sn):cM (x+b) (uh b q)=cM x q:=by
 unfold cM uh
 dsimp only
 rw[show x+b-(q.x+b)=x-q.x by omega]
 by_cases h:q.x≤x∧x<q.x+(q.ks.length:Int)
 ·rw[if_pos h,if_pos (by omega)]
 ·rw[if_neg h,if_neg (by omega)]
theorem G2 (b x:Int)(cs:List Sn):gW (x+b) (cs.map (uh b))=(gW x cs).map (uh b):=by
 unfold gW
 rw[List.filter_map]
 congr 1
 apply List.filter_congr
 intro q _
 show(cM (x+b) (uh b q) != 0)=_
 rw[Bn]
theorem Bh {b:Int}(h:g5 x fl cs k):g5 (x+b) fl (cs.map (uh b)) k:=by
 rcases h with⟨e,h⟩|⟨q,hq,hb,h⟩
 ·exact .inl ⟨by rw[e];rfl,h⟩
 ·refine .inr ⟨uh b q,List.mem_map.mpr ⟨q,hq,rfl⟩,fun y hy=>?_,?_⟩
  ·obtain⟨z,hz,rfl⟩:=List.mem_map.mp hy
   exact hb z hz
  ·rw[Bn];exact h
theorem Gr {x:Nat}(hx:(x:Int)<w):(vh s w row).getD x 0=dQ s row x:=by
 unfold vh
 rw[List.getD_eq_getElem?_getD,List.getElem?_map,List.getElem?_range (by omega)];rfl
theorem HP {x:Nat}(h:(x:Int)+b<w):hueP pt (bY b s) w m row ((x+b:Nat):Int)=hueP pt s w m row x:=by
 have ef:(vh (bY b s) w row).getD (x+b) 0=(vh s w row).getD x 0:=by
  rw[Gr (by omega),Gr (by omega)]
  unfold dQ
  show(bx s row).getD ((((x+b:Nat):Int)+(s.sx-b)) % _).toNat 0=_
  rw[show((x+b:Nat):Int)+(s.sx-b)=x+s.sx by omega]
  rfl
 obtain⟨k,hk,_⟩:=wu (x:=x) (fl:=(vh s w row).getD x 0) (cs:=gW x (cb s m row)) (M:=[])
 have h2:=Bh (b:=b) hk
 rw[←G2,←Gv,←ef] at h2
 unfold hueP
 rw[Int.toNat_natCast,Int.toNat_natCast,ul hk]
 rw[show((x+b:Nat):Int)=(x:Int)+b by omega]
 rw[ul h2]
noncomputable def JV:Dd→Prop
 | .shape _ _=>True
 | .rank _ _=>True
 | .turn _ _=>True
 | _=>False
theorem yu {b:Int}(h:∀m,f (mh b m)=mh b (f m)):eW (bY b s) i f=bY b (eW s i f):=by
 unfold eW
 show(match (s.movers.map (mh b))[i]? with|some m=>{bY b s with movers:=(s.movers.map (mh b)).set i (f m)}|none=>bY b s)=_
 rw[List.getElem?_map]
 cases s.movers[i]? with
 | none=>rfl
 | some m=>
  show {bY b s with movers:=(s.movers.map (mh b)).set i (f (mh b m))}={bY b s with movers:=(s.movers.set i (f m)).map (mh b)}
  rw[h,List.map_set]
theorem Ax {b:Int}{d:Dd}(h:JV d):b9 (bY b s) d=bY b (b9 s d):=by
 cases d with
 | shape i o=>exact yu fun _=>rfl
 | rank i o=>exact yu fun _=>rfl
 | turn i o=>exact yu fun _=>rfl
 | _=>exact h.elim
theorem vF {d:Dd}(h:JV d):(b9 s d).pots=s.pots:=by
 have e:∀i f,(eW s i f).pots=s.pots:=fun i f=>by unfold eW;split <;> rfl
 cases d with
 | shape i o=>exact e _ _
 | rank i o=>exact e _ _
 | turn i o=>exact e _ _
 | _=>exact h.elim
theorem HJ (b p t:Int)(s:br)(S:Nat→br):jZ p t (bY b s) (fun i=>bY b (S i))=fun i=>bY b (jZ p t s S i):=by
 funext i
 unfold jZ
 by_cases h:t % p=0∧i=(t / p).toNat
 ·rw[if_pos h,if_pos h]
 ·rw[if_neg h,if_neg h]
section
variable {pt:List Int}{w g m b:Int}
theorem vc {s:br}(hw:1≤w)(hg:0≤g)(hs:s.pots=pt):∀(n:Nat) (t:Int) (P Q:Pc) (S:Nat→br),0≤t→jx pt w g m t S P→jx pt w g m t (fun i=>bY b (S i)) Q→
  ∃S',jx pt w g m (t+n) S' (goP w g m s n t P)∧jx pt w g m (t+n) (fun i=>bY b (S' i)) (goP w g m (bY b s) n t Q)
 | 0,t,P,Q,S,_,h1,h2=>⟨S,by rw[show t+((0:Nat):Int)=t by omega];exact h1,by rw[show t+((0:Nat):Int)=t by omega];exact h2⟩
 | n+1,t,P,Q,S,h0,h1,h2=>by
  have k1:=vT (s:=s) hw hg h0 hs h1
  have k2:=vT (s:=bY b s) hw hg h0 hs h2
  rw[HJ] at k2
  obtain⟨S',a,c⟩:=vc hw hg hs n (t+1) _ _ _ (by omega) k1 k2
  rw[show t+1+(n:Int)=t+((n+1:Nat):Int) by omega] at a c
  exact⟨S',a,c⟩
theorem tm {T:Int}(hw:1≤w)(hg:0≤g):∀(td:List (Int×Dd)) (s:br) (t:Int) (P Q:Pc) (S:Nat→br),s.pots=pt→0≤t→t≤T→(∀p∈td,t≤p.1∧p.1<T)→(td.map (·.1)).Pairwise (·≤·)→(∀p∈td,JV p.2)→jx pt w g m t S P→jx pt w g m t (fun i=>bY b (S i)) Q→
  ∃S',jx pt w g m T S' (planP w g m T td s t P)∧jx pt w g m T (fun i=>bY b (S' i)) (planP w g m T td (bY b s) t Q)
 | [],s,t,P,Q,S,hs,h0,hT,_,_,_,h1,h2=>by
  obtain⟨S',a,c⟩:=vc hw hg hs (T-t).toNat t P Q S h0 h1 h2
  rw[show t+((T-t).toNat:Int)=T by omega] at a c
  exact⟨S',a,c⟩
 | p::td,s,t,P,Q,S,hs,h0,hT,hr,ho,hd,h1,h2=>by
  obtain⟨a1,a2⟩:=hr p (List.mem_cons_self ..)
  obtain⟨o1,o2⟩:=List.pairwise_cons.mp ho
  have d0:=hd p (List.mem_cons_self ..)
  obtain⟨S',a,c⟩:=vc hw hg hs (p.1-t).toNat t P Q S h0 h1 h2
  rw[show t+((p.1-t).toNat:Int)=p.1 by omega] at a c
  obtain⟨S2,a3,c3⟩:=tm hw hg td (b9 s p.2) p.1 _ _ S' ((vF d0).trans hs) (by omega) (by omega) (fun q hq=>⟨o1 q.1 (List.mem_map.mpr ⟨q,hq,rfl⟩),(hr q (List.mem_cons_of_mem _ hq)).2⟩) o2 (fun q hq=>hd q (List.mem_cons_of_mem _ hq)) a c
  refine⟨S2,a3,?_⟩
  show jx pt w g m T _ (planP w g m T td (b9 (bY b s) p.2) p.1 _)
  rw[Ax d0]
  exact c3
theorem sV (hw:1≤w)(hg:0≤g)(hh:0≤h)(ok:jx pt w g m (h*(w+g)) S P):P.rows=(List.range h.toNat).map fun i=>rowP pt w m S i w.toNat:=by
 have e1:h*(w+g) / (w+g)=h:=Int.mul_ediv_cancel h (by omega)
 have e2:h*(w+g) % (w+g)=0:=Int.mul_emod_left h (w+g)
 rw[ok.rows]
 have c:o7 (w+g) (h*(w+g))=h.toNat:=by unfold o7;rw[e1,e2,if_pos rfl];omega
 rw[c]
 apply List.map_congr_left
 intro i hi
 have hi:=List.mem_range.mp hi
 unfold kq
 rw[e1,if_neg (by omega)]
end
theorem Jg (hn:(n:Int)=w):(rowP pt w m (fun i=>bY b (S i)) i n).drop b=(rowP pt w m S i n).take (n-b):=by
 apply List.ext_getElem
 ·unfold rowP;simp
 ·intro j h1 h2
  have hj:j+b<n:=by unfold rowP at h1;simp at h1;omega
  have e:=HP (pt:=pt) (s:=S i) (w:=w) (m:=m) (row:=i) (x:=j) (b:=b) (by omega)
  rw[List.getElem_drop,List.getElem_take]
  unfold rowP
  rw[List.getElem_map,List.getElem_map,List.getElem_range,List.getElem_range,show b+j=j+b by omega]
  exact e
theorem E4 (hw:1≤w)(hg:0≤g)(hh:0≤h)(hn:(n:Int)=w)(p:ju (h*(w+g)) s td)(hr:∀q∈td,JV q.2) :
  (planP w g m (h*(w+g)) td (bY b s) 0 ⟨bY b s,[]⟩).rows.map (fun r=>r.drop b)=(planP w g m (h*(w+g)) td s 0 ⟨s,[]⟩).rows.map (fun r=>r.take (n-b)):=by
 have z:∀S P,P.rows=[]→jx s.pots w g m 0 S P:=fun S P e=>⟨by rw[e];unfold o7;simp,fun q=>absurd q (by simp)⟩
 obtain⟨S,a,c⟩:=tm (pt:=s.pots) (m:=m) (b:=b) (T:=h*(w+g)) hw hg td s 0 ⟨s,[]⟩ ⟨bY b s,[]⟩ (fun _=>s) rfl (Int.le_refl 0) (Int.mul_nonneg hh (by omega)) p.rng p.ord hr (z _ _ rfl) (z _ _ rfl)
 rw[sV hw hg hh a,sV hw hg hh c,List.map_map,List.map_map]
 apply List.map_congr_left
 intro i hi
 have e:w.toNat=n:=by omega
 show(rowP s.pots w m (fun i=>bY b (S i)) i w.toNat).drop b=(rowP s.pots w m S i w.toNat).take (n-b)
 rw[e]
 exact Jg hn
theorem yq (k:iN w h g m):h*(w+g)≤2400:=by
 have h1:=k.h
 have h2:=k.w
 have h3:=k.g
 exact Int.le_trans (Int.mul_le_mul (by omega:h≤40) (by omega:w+g≤60) (by omega) (by omega)) (by decide)
noncomputable def eI (p:Int×Dd):D:=.tup [.int p.1,p.2.d]
noncomputable def oy (fs:List (Int×Dd))(k:Nat):Int×Dd:=fs.getD k (0,.pot 0 0)
noncomputable def ia (fs:List (Int×Dd))(k:Nat):List Int:=[(oy fs k).1,(k:Int)]
theorem tR (fs:List (Int×Dd)):∀l:List Nat,o0 (l.map fun k=>iL (ia fs k))=some (l.map (ia fs))
 | []=>rfl
 | k::l=>by
  show(match oY (iL (ia fs k)),o0 (l.map fun k=>iL (ia fs k)) with|some (i::z),some zs=>some ((i::z)::zs)|_,_=>none)=_
  rw[tR fs l];rfl
theorem Ae (fs:List (Int×Dd))(k:Nat)(l:List D):pq (iL (ia fs k)::l)=none:=rfl
theorem AI (n:Nat)(f:D→D):(bj 0 n).map f=(List.range n).map fun(k:Nat)=>f (.int k):=by
 apply List.ext_getElem
 ·simp[bB]
 ·intro i h1 h2
  simp at h1 h2
  rw[List.getElem_map,List.getElem_map,List.getElem_range]
  obtain⟨_,e⟩:=yP (List.getElem?_eq_getElem h1)
  rw[e,show(0:Int)+(i:Int)=i by omega]
theorem yH {fs:List (Int×Dd)}(hn:n<64):rg [.lst ((List.range n).map fun k=>iL (ia fs k))] M=.ok (.lst ((gY ((List.range n).map (ia fs))).map iL)) M:=by
 unfold rg
 show(match pq ((List.range n).map fun k=>iL (ia fs k)) with
   | some ns=>if ns.length<64 then bg.ok (D.lst ((sortI ns).map D.int)) M else .bad
   | none=>match o0 ((List.range n).map fun k=>iL (ia fs k)) with
    | some zs=>if zs.length<64 then .ok (.lst ((gY zs).map iL)) M else .bad
    | none=>.bad)=_
 cases n with
 | zero=>
  show bg.ok (D.lst ((sortI []).map D.int)) M=.ok (.lst ((gY []).map iL)) M
  rw[show sortI []=[] from List.mergeSort_nil,show gY []=[] from List.mergeSort_nil];rfl
 | succ n=>
  have e:(List.range (n+1)).map (fun k=>iL (ia fs k))=iL (ia fs 0)::(List.range n).map fun k=>iL (ia fs (k+1)):=by
   rw[List.range_succ_eq_map,List.map_cons,List.map_map];rfl
  have e2:pq ((List.range (n+1)).map fun k=>iL (ia fs k))=none:=by rw[e];exact Ae fs 0 _
  rw[e2,tR]
  dsimp only
  rw[if_pos (by rw[List.length_map,List.length_range];exact hn)]
theorem Bj (f:iN w h g m)(ok:bt mm s)(hm:mm≤12)(h1:0≤most)(h2:most≤60)(t:fm l rest M) :
  ∃td M',ju (h*(w+g)) s td∧fm l rest M'∧ib [.mr 0,aT w h g m,s.d,.int most] M=.ok (.lst (eJ td)) M':=by
 have kw:=f.w;have kh:=f.h;have kg:=f.g
 have tl:=yq f
 have tp:0<h*(w+g):=Int.mul_pos (by omega) (by omega)
 obtain⟨f1,M1,a1,b1,t1,e1⟩:=bb (many:=most+1) (by omega) (aL (by omega) (by omega)) t
 obtain⟨n,rfl⟩:=Int.eq_ofNat_of_zero_le a1
 obtain⟨es,M2,t2,le,qe,ee1⟩:=iy (ds0:=bj 0 n) (ge:=eZ) (ρ:=[some (.mr 0),some (aT w h g m),some s.d,some (.int most),some (.int (h*(w+g))),none,none])
  (P:=fm l rest) (Q:=fun e=>∃p:Int×Dd,e=eI p∧(0≤p.1∧p.1<h*(w+g))∧oG s p.2) (bj 0 n) (fun d hd M hM=>by
   obtain⟨k,N1,c1,c2,u1,x1⟩:=bb (many:=h*(w+g)) tp (aL tp (by omega)) hM
   obtain⟨dd,N2,dk,u2,x2⟩:=ya (w:=w) (hh:=h) (more:=[.int g,.int m]) ok (by omega) ⟨by omega,by omega⟩ ⟨by omega,by omega⟩ u1
   refine⟨eI (k,dd),N2,u2,⟨(k,dd),rfl,⟨c1,c2⟩,dk⟩,?_⟩
   unfold eZ
   exact cK (aG (fD (a:=ae 1) (b:=ae 5) rfl rfl x1) (aG (fK (a:=ae 1) (b:=ae 2) (c:=ae 3) rfl rfl rfl x2) rfl)) (by simp)) M1 t1
 obtain⟨fs,hf,okf⟩:=pQ qe
 have lf:fs.length=n:=by rw[←bB 0 n,←le,hf,List.length_map]
 rw[hf] at ee1
 have at':∀k,k<n→(fs.map eI)[k]?=some (eI (oy fs k)):=fun k hk=>by
  rw[List.getElem?_map,List.getElem?_eq_getElem (by omega)]
  unfold oy
  rw[List.getD_eq_getElem?_getD,List.getElem?_eq_getElem (by omega)];rfl
 have mem:∀k,k<n→oy fs k∈fs:=fun k hk=>by
  unfold oy
  rw[List.getD_eq_getElem?_getD,List.getElem?_eq_getElem (by omega)]
  exact List.getElem_mem _
 have zm:∀z∈gY ((List.range n).map (ia fs)),∃k,k<n∧z=ia fs k:=fun z hz=>by
  obtain⟨k,hk,rfl⟩:=List.mem_map.mp ((kr _).subset hz)
  exact⟨k,List.mem_range.mp hk,rfl⟩
 generalize hT:h*(w+g)=T at *
 refine⟨(gY ((List.range n).map (ia fs))).map fun z=>oy fs (z.getD 1 0).toNat,M2,⟨fun p hp=>?_,?_,fun p hp=>?_,?_⟩,t2,?_⟩
 ·obtain⟨z,hz,rfl⟩:=List.mem_map.mp hp
  obtain⟨k,hk,rfl⟩:=zm z hz
  exact(okf _ (mem k hk)).1
 ·rw[List.map_map,List.pairwise_map]
  refine(wF _).imp_of_mem fun {a b} ha hb q=>?_
  obtain⟨i,hi,rfl⟩:=zm a ha
  obtain⟨j,hj,rfl⟩:=zm b hb
  show(oy fs i).1≤(oy fs j).1
  unfold ia at q
  rw[HT.lexLt_cons] at q
  by_cases e:(oy fs j).1=(oy fs i).1
  ·omega
  ·rw[if_neg e,decide_eq_false_iff_not] at q
   omega
 ·obtain⟨z,hz,rfl⟩:=List.mem_map.mp hp
  obtain⟨k,hk,rfl⟩:=zm z hz
  exact(okf _ (mem k hk)).2
 ·rw[List.length_map,(kr _).length_eq,List.length_map,List.length_range]
  omega
 ·show aH (ie [some (.mr 0),some (aT w h g m),some s.d,some (.int most),none,none,none] M)=_
  unfold ie
  rw[aw (bA (aN (f:=fT) (x:=.int h) (y:=.int (w+g)) rfl rfl (Dz (by omega) (by omega) M)))]
  rw[hT]
  show aH (av _ _ [some (.mr 0),some (aT w h g m),some s.d,some (.int most),some (.int T),none,none] M)=_
  have k1:aY (fQ (aa (aq 2 az (aa (ae 0) (aa (g2 bM (ae 3) (gC (.int 1))) ah))) ah)) bL eZ aF [some (.mr 0),some (aT w h g m),some s.d,some (.int most),some (.int T),none,none] M=.ok (.lst (fs.map eI)) M2:=by
   unfold aY
   rw[zB (n:=n) (aG (fD (a:=ae 0) (y:=.int (most+1)) rfl rfl e1) rfl) (by omega),aj]
   dsimp only
   rw[ee1,aj]
   unfold aF
   rw[if_pos (aE (by rw[List.length_map];omega))]
  rw[aw (bA k1)]
  show aH (av _ _ [some (.mr 0),some (aT w h g m),some s.d,some (.int most),some (.int T),some (.lst (fs.map eI)),none] M2)=_
  have ln:aI bJ (aa (ae 5) ah) [some (.mr 0),some (aT w h g m),some s.d,some (.int most),some (.int T),some (.lst (fs.map eI)),none] M2=.ok (.int (n:Int)) M2:=by
   refine mJ (a:=ae 5) (x:=.lst (fs.map eI)) rfl ?_
   show bg.ok (D.int ((fs.map eI).length:Int)) M2=_
   rw[List.length_map,lf]
  have k2:aY (fQ (aa (aI bJ (aa (ae 5) ah)) ah)) bL eR aF [some (.mr 0),some (aT w h g m),some s.d,some (.int most),some (.int T),some (.lst (fs.map eI)),none] M2=.ok (.lst ((List.range n).map fun k=>iL (ia fs k))) M2:=by
   unfold aY
   rw[zB (n:=n) (aG ln rfl) (by omega),aj]
   dsimp only
   rw[oA (t:=⟨bj 0 n,none⟩) (ge:=eR) (f:=fun d=>match d with | .int k=>iL (ia fs k.toNat)|d=>d) rfl (bj 0 n) (fun d hd=>by
    obtain⟨k,rfl,c1,c2⟩:=qV hd
    obtain⟨k,rfl⟩:=Int.eq_ofNat_of_zero_le c1
    have hk:k<n:=by omega
    unfold eR
    exact cK (aG (aN (f:=aX) (aN (f:=aX) (a:=ae 6) (b:=ae 0) (x:=.lst (fs.map eI)) (y:=.int (k:Int)) rfl rfl (A9 (at' k hk))) (b:=gC (.int 0)) (y:=.int 0) rfl (fG (k:=0) rfl)) (aG rfl rfl)) (show 2≤100000 by decide)),aj,AI]
   unfold aF
   rw[if_pos (aE (by rw[List.length_map,List.length_range];omega))]
   rfl
  have k3:=yH (fs:=fs) (n:=n) (M:=M2) (by omega)
  rw[aw (bA (mJ (F:=rg) k2 k3))]
  show aH (aJ _ [some (.mr 0),some (aT w h g m),some s.d,some (.int most),some (.int T),some (.lst (fs.map eI)),some (.lst ((gY ((List.range n).map (ia fs))).map iL))] M2)=_
  have k4:=oE (gi:=bG (ae 6)) (n:=2) (sg:=bh [0,1]) (ge:=gP) (ρ:=[some (.mr 0),some (aT w h g m),some s.d,some (.int most),some (.int T),some (.lst (fs.map eI)),some (.lst ((gY ((List.range n).map (ia fs))).map iL))]) (M:=M2)
   (f:=fun d=>match d with | .tup [_,.int k]=>eI (oy fs k.toNat)|d=>d) (ds:=(gY ((List.range n).map (ia fs))).map iL) (iQ rfl) (by rw[List.length_map,(kr _).length_eq,List.length_map,List.length_range];omega) (fun d hd=>by
    obtain⟨z,hz,rfl⟩:=List.mem_map.mp hd
    obtain⟨k,hk,rfl⟩:=zm z hz
    refine⟨_,rfl,?_⟩
    unfold gP
    exact aN (f:=aX) (a:=ae 7) (b:=ae 1) (x:=.lst (fs.map eI)) (y:=.int (k:Int)) rfl rfl (A9 (at' k hk)))
  have ef:((gY ((List.range n).map (ia fs))).map iL).map (fun d=>match d with | .tup [_,.int k]=>eI (oy fs k.toNat)|d=>d)=eJ ((gY ((List.range n).map (ia fs))).map fun z=>oy fs (z.getD 1 0).toNat):=by
   unfold eJ
   rw[List.map_map,List.map_map]
   apply List.map_congr_left
   intro z hz
   obtain⟨k,hk,rfl⟩:=zm z hz
   rfl
  rw[ef] at k4
  rw[aZ k4]
  rfl
noncomputable def jG (x:Int):Int:=if(if x<900 then x else 900)>-900 then(if x<900 then x else 900) else -900
theorem pF (x:Int):-900≤jG x∧jG x≤900:=by
 unfold jG
 by_cases h:x<900
 ·rw[if_pos h]
  by_cases h2:x>-900
  ·rw[if_pos h2];omega
  ·rw[if_neg h2];omega
 ·rw[if_neg h,if_pos (by decide)];decide
theorem F7 {a:GE}(h:a ρ M=.ok (.int x) M):aI o9 (aa (mM (gC (.int 900))) (aa (aI o8 (aa (gC (.int 900)) (aa a ah))) ah)) ρ M=.ok (.int (jG x)) M:=by
 have k1:aI o8 (aa (gC (.int 900)) (aa a ah)) ρ M=.ok (.int (if x<900 then x else 900)) M:=by
  unfold aI
  rw[aG (d:=.int 900) (M1:=M) rfl (aG h rfl),aj];rfl
 show(aa (mM (gC (.int 900))) (aa (aI o8 (aa (gC (.int 900)) (aa a ah))) ah) ρ M).bind o9=_
 rw[aG (d:=.int (-900)) (M1:=M) rfl (aG k1 rfl),aj];rfl
noncomputable def DF (m:Mv):Mv:={m with x:=jG m.x}
noncomputable def js (s:br):br:={s with sx:=jG s.sx,movers:=s.movers.map DF}
theorem wL (ok:bt mm s):bt mm (js s):=by
 have a:=pF s.sx
 refine⟨ok.floor,⟨by show -1000≤jG s.sx;omega,by show jG s.sx≤1000;omega⟩,ok.sy,ok.bl,ok.book,?_,fun m hm=>?_,ok.pl,ok.pots⟩
 ·show((s.movers.map DF).length:Int)≤mm
  rw[List.length_map];exact ok.ml
 ·obtain⟨v,hv,rfl⟩:=List.mem_map.mp hm
  have o:=ok.movers v hv
  have a:=pF v.x
  exact⟨o.s,⟨by show -1000≤jG v.x;omega,by show jG v.x≤1000;omega⟩,o.y,o.r,o.t⟩
theorem Ba {b:Int}(ok:bt mm s)(h0:0≤b)(h1:b≤40):bt mm (bY b (js s)):=by
 have a:=pF s.sx
 have o1:=wL ok
 refine⟨ok.floor,⟨by show -1000≤jG s.sx-b;omega,by show jG s.sx-b≤1000;omega⟩,ok.sy,ok.bl,ok.book,?_,fun m hm=>?_,ok.pl,ok.pots⟩
 ·show(((s.movers.map DF).map (mh b)).length:Int)≤mm
  rw[List.length_map,List.length_map];exact ok.ml
 ·obtain⟨v',hv',rfl⟩:=List.mem_map.mp hm
  obtain⟨v,hv,rfl⟩:=List.mem_map.mp hv'
  have o:=ok.movers v hv
  have a:=pF v.x
  exact⟨o.s,⟨by show -1000≤jG v.x+b;omega,by show jG v.x+b≤1000;omega⟩,o.y,o.r,o.t⟩
theorem p7 {t:sv}{n:Nat}{sg:GG}{ge:GE}{ρ:cn}{f:D→D}{M:aB}(ht:t.ok M=true):∀(ds:List D),(∀d∈ds,∃ρ1,sg d (List.replicate n none++ρ)=some ρ1∧ge ρ1 M=.ok (f d) M)→ba t n sg bL ge ds ρ M=.ok (ds.map f) M
 | [],h=>by
  unfold ba
  rw[ht,if_pos rfl];rfl
 | d::ds,h=>by
  obtain⟨ρ1,e1,e2⟩:=h d List.mem_cons_self
  have ih:=p7 (n:=n) (sg:=sg) (ge:=ge) (ρ:=ρ) (f:=f) ht ds fun x hx=>h x (List.mem_cons_of_mem _ hx)
  unfold ba
  rw[ht,if_pos rfl,e1]
  dsimp only
  rw[show bL ρ1 M=.ok true M from rfl]
  dsimp only
  rw[e2]
  dsimp only
  rw[ih];rfl
noncomputable def wM:Dd→Bool
 | .shape _ _=>true
 | .rank _ _=>true
 | .turn _ _=>true
 | _=>false
theorem IG {d:Dd}(h:wM d=true):JV d:=by
 cases d <;> first|exact trivial|cases h
noncomputable def F4:Dd→Str
 | .shift _ _=>"shift" | .pot _ _=>"pot" | .move _ _ _=>"move" | .shape _ _=>"shape" | .rank _ _=>"rank" | .turn _ _=>"turn"
theorem Eg (d:Dd)(M:aB):pS false (.str (F4 d)) (.lst [.str "rank",.str "turn",.str "shape"]) M=.ok (.bl (wM d)) M:=by
 cases d <;> rfl
theorem Kf (p:Int×Dd):kP (some (eI p)::ρ) M=.ok (wM p.2) M:=by
 unfold kP
 refine dF (aN (f:=pS false) (aN (f:=aX) (x:=p.2.d) (y:=.int 0) (aN (f:=aX) (a:=ae 0) (b:=gC (.int 1)) (x:=eI p) (y:=.int 1) rfl rfl (fG (k:=1) rfl)) rfl (show aX p.2.d (.int 0) M=.ok (.str (F4 p.2)) M from ?_)) (CP (ds:=[.str "rank",.str "turn",.str "shape"]) rfl (by simp)) (Eg p.2 M))
 cases p.2 <;> exact fG (k:=0) rfl
noncomputable def cN (s:br):List D:=(s.movers.map DF).map Mv.d
noncomputable def jE (B:Bs):D:=.lst (B.rows.map fun r=>.lst (r.map D.int))
theorem Il {a:List (List Int)}:a7 false (.lst (a.map fun r=>D.lst (r.map D.int))) (.lst (a.map fun r=>D.lst (r.map D.int))) M=.ok (.bl true) M:=by
 have c:aA 40 (.lst (a.map fun r=>D.lst (r.map D.int)))=true:=iI (n:=39) fun d hd=>by
  obtain⟨r,_,rfl⟩:=List.mem_map.mp hd
  exact iI (n:=38) fun d hd=>by
   obtain⟨i,_,rfl⟩:=List.mem_map.mp hd
   rfl
 unfold a7
 show(if(aA 40 (.lst (a.map fun r=>D.lst (r.map D.int)))&&aA 40 (.lst (a.map fun r=>D.lst (r.map D.int))))=true then bg.ok (D.bl (gf (.lst (a.map fun r=>D.lst (r.map D.int))) (.lst (a.map fun r=>D.lst (r.map D.int))) != false)) M else .bad)=_
 rw[c,vB _ _ c]
 rfl
theorem BR {x0 x1 x2 x3 x4 x5 x7:Option D}(hl:s.movers.length≤1000):∃y9 y10 y11 y12 y13,kN (bG (ae 6)) (bh [9,10,11,12,13]) qA [x0,x1,x2,x3,x4,x5,some (.tup (s.movers.map Mv.d)),x7,some (.mr M.length),none,none,none,none,none,none,none,none,none,none,none] (M++[.lst []])=.ok (.nx [x0,x1,x2,x3,x4,x5,some (.tup (s.movers.map Mv.d)),x7,some (.mr M.length),y9,y10,y11,y12,y13,none,none,none,none,none,none]) (M++[.lst (cN s)]):=by
 obtain⟨ρ',M',⟨e1,y9,y10,y11,y12,y13,e2⟩,ef⟩:=mB (ds0:=s.movers.map Mv.d) (s:=bh [9,10,11,12,13]) (body:=qA)
  (W:=fun j ρ N=>N=M++[.lst (((s.movers.take j).map DF).map Mv.d)]∧∃y9 y10 y11 y12 y13,ρ=[x0,x1,x2,x3,x4,x5,some (.tup (s.movers.map Mv.d)),x7,some (.mr M.length),y9,y10,y11,y12,y13,none,none,none,none,none,none])
  (s.movers.map Mv.d) 0 (fun j d hd ρ N hW=>by
   obtain⟨rfl,y9,y10,y11,y12,y13,rfl⟩:=hW
   rw[List.getElem?_map] at hd
   obtain⟨v,gv,rfl⟩:=Option.map_eq_some_iff.mp hd
   have hj:=(List.getElem?_eq_some_iff.mp gv).1
   rw[um]
   refine⟨_,_,M++[.lst (((s.movers.take (0+j)).map DF).map Mv.d++[(DF v).d])],rfl,?_,?_,some (pe v.shape),some (.int v.x),some (.int v.y),some (.int v.rank),some (.int v.turn),rfl⟩
   ·unfold qA
    refine cx (yp rfl ?_ (by simp;omega))
    rw[um]
    exact cK (aG rfl (aG (F7 rfl) (aG rfl (aG rfl (aG rfl rfl))))) (by simp)
   ·rw[show 0+j+1=0+(j+1) by omega]
    simp only[Nat.zero_add]
    rw[List.take_add_one,gv,List.map_append,List.map_append]
    rfl) [x0,x1,x2,x3,x4,x5,some (.tup (s.movers.map Mv.d)),x7,some (.mr M.length),none,none,none,none,none,none,none,none,none,none,none] (M++[.lst []]) ⟨rfl,none,none,none,none,none,rfl⟩
 refine⟨y9,y10,y11,y12,y13,?_⟩
 rw[mw (t:=⟨s.movers.map Mv.d,none⟩) (iS rfl) ef,e1,e2,Nat.zero_add,List.length_map,List.take_length]
 rfl
theorem wn {T:Int}(p:ju T s td):ju T s (td.filter fun q=>wM q.2):=
 ⟨fun q hq=>p.rng q (List.mem_filter.mp hq).1,p.ord.sublist (List.filter_sublist.map _),fun q hq=>p.dd q (List.mem_filter.mp hq).1,Nat.lt_of_le_of_lt (List.length_filter_le _ _) p.len⟩
theorem EL {T:Int}{b:Int}(p:ju T s td):ju T (bY b s) td:=by
 refine⟨p.rng,p.ord,fun q hq=>?_,p.len⟩
 have:=p.dd q hq
 have e:(bY b s).movers.length=s.movers.length:=by show(s.movers.map (mh b)).length=_;rw[List.length_map]
 cases h:q.2 <;> rw[h] at this <;> simp only[oG] at this ⊢ <;> first|exact this|(rw[e];exact this)
theorem D7 {i c:Int}(hr:rest.all si=true):(tp l i c::rest).all si=true:=by
 have h:si (tp l i c)=true:=by
  show(D.lst (l.map D.int)::[D.int i,D.int c]).all (aR 30)=true
  have:=gq 28 l
  simp[zI,this,aR]
 rw[List.all_cons,h,hr];rfl
theorem Nz {a b:List D}(h:a.length+b.length≤1000):bM (.tup a) (.tup b) M=.ok (.tup (a++b)) M:=by
 unfold bM
 dsimp only
 rw[if_pos (aE (by omega))]
theorem sU {gi:GI}{ge:GE}{f:List Int→List Int}(hr:B.rows.length≤90000)(hi:gi ρ M=.ok ⟨B.rows.map fun r=>.lst (r.map D.int),none⟩ M)(h:∀r,ge (some (.lst (r.map D.int))::ρ) M=.ok (.lst ((f r).map D.int)) M) :
  aY gi bL ge aF ρ M=.ok (.lst ((B.rows.map f).map fun r=>.lst (r.map D.int))) M:=by
 unfold aY
 rw[hi,aj]
 dsimp only
 have e:∀rs:List (List Int),dH ⟨B.rows.map fun r=>.lst (r.map D.int),none⟩ bL ge (rs.map fun r=>.lst (r.map D.int)) ρ M=.ok ((rs.map f).map fun r=>.lst (r.map D.int)) M:=fun rs=>by
  induction rs with
  | nil=>rfl
  | cons r rs ih=>
   rw[List.map_cons]
   unfold dH
   rw[ow,if_pos rfl,show bL (some (D.lst (r.map D.int))::ρ) M=.ok true M from rfl]
   dsimp only
   rw[h]
   dsimp only
   rw[ih];rfl
 rw[e,aj]
 unfold aF
 rw[if_pos (aE (by rw[List.length_map,List.length_map];omega))]
theorem law_true (ns:List Int)(hl:ns.length≤63):∃M',ze [.ro (ns.map D.int)] []=.ok (.bl true) M':=by
 have t0:fm ns [] [tp ns 0 0]:=⟨0,0,by decide,rfl⟩
 obtain⟨w0,hh,g,m,M1,kw,kh,kg,km,t1,e1⟩:=AX (most:=20) (by decide) (by decide) t0
 obtain⟨w,hw,ew⟩:∃w:Int,(2≤w∧w≤20)∧(if w0>2 then w0 else 2)=w:=⟨_,by split <;> omega,rfl⟩
 have f:iN w hh g m:=⟨by omega,by omega,kg,km⟩
 obtain⟨f2,M2,a2,b2,t2,e2⟩:=bb (many:=2) (by decide) (aL (by decide) (by decide)) t1
 obtain⟨mm,hm,em⟩:∃mm:Int,(0≤mm∧mm≤12)∧aX (.lst [.int 4,.int 12]) (.int f2) M2=.ok (.int mm) M2:=by
  have:f2=0∨f2=1:=by omega
  rcases this with q|q <;> rw[q]
  ·exact⟨4,by decide,rfl⟩
  ·exact⟨12,by decide,rfl⟩
 obtain⟨s,M3,ok,t3,e3⟩:=Cz (w:=w) (hh:=hh) (more:=[.int g,.int m]) (mm:=mm) ⟨by omega,by omega⟩ ⟨by omega,by omega⟩ ⟨by omega,by omega⟩ t2
 have sl:s.movers.length≤1000:=by have:=ok.ml;omega
 have ok1:=wL ok
 obtain⟨i3,c3,hi3,rfl⟩:=t3
 have pn:si (.lst (cN s))=true:=List.all_eq_true.mpr fun d hd=>by
  obtain⟨v,_,rfl⟩:=List.mem_map.mp hd
  exact zt 28 v
 obtain⟨y9,y10,y11,y12,y13,ef⟩:=BR (M:=[tp ns i3 c3]) (x0:=some (.ro (ns.map D.int))) (x1:=some (.mr 0)) (x2:=some (aT w hh g m)) (x3:=some (ar s.floor)) (x4:=some (.tup [.int s.sx,.int s.sy])) (x5:=some (.tup (s.book.map ar))) (x7:=some (.tup (s.pots.map D.int))) sl
 rw[show([tp ns i3 c3]:aB).length=1 from rfl] at ef
 have t4:fm ns [.lst (cN s)] ([tp ns i3 c3]++[.lst (cN s)]):=⟨i3,c3,hi3,rfl⟩
 obtain⟨td,M5,pk,t5,e5⟩:=Bj (most:=10) f ok1 hm.2 (by decide) (by decide) t4
 have pf:=wn pk
 have hr:∀q∈td.filter (fun q=>wM q.2),JV q.2:=fun q hq=>IG (List.mem_filter.mp hq).2
 generalize htf:td.filter (fun q=>wM q.2)=tf at *
 obtain⟨fb,M6,a6,b6,t6,e6⟩:=bb (many:=w-1) (by omega) (aL (by omega) (by omega)) t5
 obtain⟨b,hb⟩:∃b:Nat,(b:Int)=1+fb:=⟨(1+fb).toNat,by omega⟩
 have ok2:bt mm (bY b (js s)):=Ba ok (by omega) (by omega)
 obtain⟨B1,s1,iv1,r1,l1⟩:=vQ hm.2 f ok1 pf
 obtain⟨B2,s2,iv2,r2,l2⟩:=vQ hm.2 f ok2 (EL (b:=(b:Int)) pf)
 obtain⟨i6,c6,hi6,rfl⟩:=t6
 have sM:iO (tp ns i6 c6::[.lst (cN s)]):=iO.pure (D7 (by rw[List.all_cons,pn];rfl))
 have k1:=l1 _ sM
 have rl1:B1.rows.length≤90000:=by have:=iv1.rl;have:=yq f;omega
 have rl2:B2.rows.length≤90000:=by have:=iv2.rl;have:=yq f;omega
 have sM1:iO (ao (tp ns i6 c6::[.lst (cN s)]) (aT w hh g m) B1):=lG sM rfl iv1.p
 have k2:=l2 _ sM1
 have pic:=E4 (m:=m) (h:=hh) (s:=js s) (td:=tf) (b:=b) (n:=w.toNat) (w:=w) (g:=g) (by omega) kg.1 (by omega) (by omega) pf hr
 rw[←r1,←r2] at pic
 refine⟨ao (ao (tp ns i6 c6::[.lst (cN s)]) (aT w hh g m) B1) (aT w hh g m) B2,?_⟩
 show aH (zv [some (.ro (ns.map D.int)),none,none,none,none,none,none,none,none,none,none,none,none,none,none,none,none,none,none,none] [])=_
 unfold zv
 have l3:[D.lst (ns.map D.int),D.int 0,D.int 0].length≤sizeLine:=aE (by simp)
 have s1:∀b:GS,av (aU 1 (jv (aa (aI ji (aa (ae 0) ah)) (aa (gC (.int 0)) (aa (gC (.int 0)) ah))))) b [some (.ro (ns.map D.int)),none,none,none,none,none,none,none,none,none,none,none,none,none,none,none,none,none,none,none] []=b [some (.ro (ns.map D.int)),some (.mr 0),none,none,none,none,none,none,none,none,none,none,none,none,none,none,none,none,none,none] [tp ns 0 0]:=fun b=>by
  refine aw (bA (d:=.mr 0) ?_)
  unfold jv
  rw[aG (d:=.lst (ns.map D.int)) (M1:=[]) (ds:=[.int 0,.int 0]) (M2:=[]) rfl rfl,aj]
  unfold dM
  rw[if_pos l3]
  rfl
 rw[s1,aw (bA (fD (a:=ae 1) (b:=gC (.int 20)) rfl rfl e1))]
 show aH (av _ _ [some (.ro (ns.map D.int)),some (.mr 0),some (aT w0 hh g m),none,none,none,none,none,none,none,none,none,none,none,none,none,none,none,none,none] M1)=_
 have s3:∀N,g2 bM (aO (aa (aI o9 (aa (gC (.int 2)) (aa (g2 aX (ae 2) (gC (.int 0))) ah))) ah)) (oj (ae 2) (dg (gC (.int 1))) bq) [some (.ro (ns.map D.int)),some (.mr 0),some (aT w0 hh g m),none,none,none,none,none,none,none,none,none,none,none,none,none,none,none,none,none] N=.ok (aT w hh g m) N:=fun N=>by
  rw[←ew]
  exact aN (f:=bM) (x:=.tup [.int (if w0>2 then w0 else 2)]) (y:=.tup [.int hh,.int g,.int m]) (cK (aG rfl rfl) (by simp)) rfl (Nz (a:=[_]) (b:=[_,_,_]) (by simp))
 rw[aw (bA (s3 M1))]
 show aH (av _ _ [some (.ro (ns.map D.int)),some (.mr 0),some (aT w hh g m),none,none,none,none,none,none,none,none,none,none,none,none,none,none,none,none,none] M1)=_
 rw[aw (qG (fK (a:=ae 1) (b:=ae 2) rfl rfl (aN (f:=aX) (CP (ds:=[.int 4,.int 12]) rfl (by simp)) (fD (a:=ae 1) (b:=gC (.int 2)) rfl rfl e2) em) e3) rfl)]
 show aH (av _ _ [some (.ro (ns.map D.int)),some (.mr 0),some (aT w hh g m),some (ar s.floor),some (.tup [.int s.sx,.int s.sy]),some (.tup (s.book.map ar)),some (.tup (s.movers.map Mv.d)),some (.tup (s.pots.map D.int)),none,none,none,none,none,none,none,none,none,none,none,none] [tp ns i3 c3])=_
 have s5:jv ah [some (.ro (ns.map D.int)),some (.mr 0),some (aT w hh g m),some (ar s.floor),some (.tup [.int s.sx,.int s.sy]),some (.tup (s.book.map ar)),some (.tup (s.movers.map Mv.d)),some (.tup (s.pots.map D.int)),none,none,none,none,none,none,none,none,none,none,none,none] [tp ns i3 c3]=.ok (.mr 1) ([tp ns i3 c3]++[.lst []]):=by
  unfold jv
  rw[show ah [some (.ro (ns.map D.int)),some (.mr 0),some (aT w hh g m),some (ar s.floor),some (.tup [.int s.sx,.int s.sy]),some (.tup (s.book.map ar)),some (.tup (s.movers.map Mv.d)),some (.tup (s.pots.map D.int)),none,none,none,none,none,none,none,none,none,none,none,none] [tp ns i3 c3]=.ok [] [tp ns i3 c3] from rfl,aj]
  unfold dM
  rw[if_pos (aE (by simp))];rfl
 rw[aw (bA s5)]
 show aH (av _ _ [some (.ro (ns.map D.int)),some (.mr 0),some (aT w hh g m),some (ar s.floor),some (.tup [.int s.sx,.int s.sy]),some (.tup (s.book.map ar)),some (.tup (s.movers.map Mv.d)),some (.tup (s.pots.map D.int)),some (.mr 1),none,none,none,none,none,none,none,none,none,none,none] ([tp ns i3 c3]++[.lst []]))=_
 rw[aw ef]
 rw[aw (bA (cK (aG (F7 (x:=s.sx) rfl) (aG (d:=.int s.sy) rfl rfl)) (by simp)))]
 show aH (av _ _ [some (.ro (ns.map D.int)),some (.mr 0),some (aT w hh g m),some (ar s.floor),some (.tup [.int (jG s.sx),.int s.sy]),some (.tup (s.book.map ar)),some (.tup (s.movers.map Mv.d)),some (.tup (s.pots.map D.int)),some (.mr 1),y9,y10,y11,y12,y13,none,none,none,none,none,none] ([tp ns i3 c3]++[.lst (cN s)]))=_
 have s8:aI dS (aa (ae 8) ah) [some (.ro (ns.map D.int)),some (.mr 0),some (aT w hh g m),some (ar s.floor),some (.tup [.int (jG s.sx),.int s.sy]),some (.tup (s.book.map ar)),some (.tup (s.movers.map Mv.d)),some (.tup (s.pots.map D.int)),some (.mr 1),y9,y10,y11,y12,y13,none,none,none,none,none,none] ([tp ns i3 c3]++[.lst (cN s)])=.ok (.tup (cN s)) ([tp ns i3 c3]++[.lst (cN s)]):=mJ (a:=ae 8) (x:=.mr 1) rfl rfl
 rw[aw (bA (cK (aG rfl (aG rfl (aG rfl (aG s8 (aG rfl rfl))))) (by simp)))]
 show aH (av _ _ [some (.ro (ns.map D.int)),some (.mr 0),some (aT w hh g m),some (ar s.floor),some (.tup [.int (jG s.sx),.int s.sy]),some (.tup (s.book.map ar)),some (.tup (s.movers.map Mv.d)),some (.tup (s.pots.map D.int)),some (.mr 1),y9,y10,y11,y12,y13,some (js s).d,none,none,none,none,none] ([tp ns i3 c3]++[.lst (cN s)]))=_
 have s9:aY (bG (aq 4 ib (aa (ae 1) (aa (ae 2) (aa (ae 14) (aa (gC (.int 10)) ah)))))) kP mI aF [some (.ro (ns.map D.int)),some (.mr 0),some (aT w hh g m),some (ar s.floor),some (.tup [.int (jG s.sx),.int s.sy]),some (.tup (s.book.map ar)),some (.tup (s.movers.map Mv.d)),some (.tup (s.pots.map D.int)),some (.mr 1),y9,y10,y11,y12,y13,some (js s).d,none,none,none,none,none] ([tp ns i3 c3]++[.lst (cN s)])=.ok (.lst (eJ tf)) M5:=by
  unfold aY bG
  rw[Li (a:=ae 1) (b:=ae 2) (c:=ae 14) (d:=gC (.int 10)) rfl rfl rfl rfl e5,aj]
  show(dH ⟨eJ td,none⟩ kP mI (eJ td) [some (.ro (ns.map D.int)),some (.mr 0),some (aT w hh g m),some (ar s.floor),some (.tup [.int (jG s.sx),.int s.sy]),some (.tup (s.book.map ar)),some (.tup (s.movers.map Mv.d)),some (.tup (s.pots.map D.int)),some (.mr 1),y9,y10,y11,y12,y13,some (js s).d,none,none,none,none,none] M5).bind aF=_
  have cf:∀ds:List (Int×Dd),dH ⟨eJ td,none⟩ kP mI (ds.map eI) [some (.ro (ns.map D.int)),some (.mr 0),some (aT w hh g m),some (ar s.floor),some (.tup [.int (jG s.sx),.int s.sy]),some (.tup (s.book.map ar)),some (.tup (s.movers.map Mv.d)),some (.tup (s.pots.map D.int)),some (.mr 1),y9,y10,y11,y12,y13,some (js s).d,none,none,none,none,none] M5=.ok ((ds.filter fun q=>wM q.2).map eI) M5:=fun ds=>by
   induction ds with
   | nil=>rfl
   | cons p ds ih=>
    rw[List.map_cons]
    unfold dH
    rw[ow,if_pos rfl,Kf]
    cases q:wM p.2 with
    | true=>
     dsimp only
     rw[show mI (some (eI p)::[some (.ro (ns.map D.int)),some (.mr 0),some (aT w hh g m),some (ar s.floor),some (.tup [.int (jG s.sx),.int s.sy]),some (.tup (s.book.map ar)),some (.tup (s.movers.map Mv.d)),some (.tup (s.pots.map D.int)),some (.mr 1),y9,y10,y11,y12,y13,some (js s).d,none,none,none,none,none]) M5=.ok (eI p) M5 from rfl]
     dsimp only
     rw[ih,List.filter_cons_of_pos (by exact q)];rfl
    | false=>
     dsimp only
     rw[ih,List.filter_cons_of_neg (by rw[q];decide)]
  rw[show dH ⟨eJ td,none⟩ kP mI (eJ td) [some (.ro (ns.map D.int)),some (.mr 0),some (aT w hh g m),some (ar s.floor),some (.tup [.int (jG s.sx),.int s.sy]),some (.tup (s.book.map ar)),some (.tup (s.movers.map Mv.d)),some (.tup (s.pots.map D.int)),some (.mr 1),y9,y10,y11,y12,y13,some (js s).d,none,none,none,none,none] M5=_ from cf td,aj,htf]
  unfold aF
  rw[if_pos (aE (by rw[List.length_map];have:=pf.len;omega))]
  rfl
 rw[aw (bA s9)]
 show aH (av _ _ [some (.ro (ns.map D.int)),some (.mr 0),some (aT w hh g m),some (ar s.floor),some (.tup [.int (jG s.sx),.int s.sy]),some (.tup (s.book.map ar)),some (.tup (s.movers.map Mv.d)),some (.tup (s.pots.map D.int)),some (.mr 1),y9,y10,y11,y12,y13,some (js s).d,some (.lst (eJ tf)),none,none,none,none] M5)=_
 rw[aw (bA (aN (f:=bM) (x:=.int 1) (y:=.int fb) (o:=.ok (.int (b:Int)) (tp ns i6 c6::[.lst (cN s)])) rfl (fD (a:=ae 1) (y:=.int (w-1)) rfl rfl e6) (by rw[hb];rfl)))]
 show aH (av _ _ [some (.ro (ns.map D.int)),some (.mr 0),some (aT w hh g m),some (ar s.floor),some (.tup [.int (jG s.sx),.int s.sy]),some (.tup (s.book.map ar)),some (.tup (s.movers.map Mv.d)),some (.tup (s.pots.map D.int)),some (.mr 1),y9,y10,y11,y12,y13,some (js s).d,some (.lst (eJ tf)),some (.int (b:Int)),none,none,none] (tp ns i6 c6::[.lst (cN s)]))=_
 have s11:bH (bG (ae 8)) 5 (bh [0,1,2,3,4]) bL qN aF [some (.ro (ns.map D.int)),some (.mr 0),some (aT w hh g m),some (ar s.floor),some (.tup [.int (jG s.sx),.int s.sy]),some (.tup (s.book.map ar)),some (.tup (s.movers.map Mv.d)),some (.tup (s.pots.map D.int)),some (.mr 1),y9,y10,y11,y12,y13,some (js s).d,some (.lst (eJ tf)),some (.int (b:Int)),none,none,none] (tp ns i6 c6::[.lst (cN s)])=.ok (.lst ((bY b (js s)).movers.map Mv.d)) (tp ns i6 c6::[.lst (cN s)]):=by
  unfold bH
  rw[show bG (ae 8) [some (.ro (ns.map D.int)),some (.mr 0),some (aT w hh g m),some (ar s.floor),some (.tup [.int (jG s.sx),.int s.sy]),some (.tup (s.book.map ar)),some (.tup (s.movers.map Mv.d)),some (.tup (s.pots.map D.int)),some (.mr 1),y9,y10,y11,y12,y13,some (js s).d,some (.lst (eJ tf)),some (.int (b:Int)),none,none,none] (tp ns i6 c6::[.lst (cN s)])=.ok ⟨cN s,some 1⟩ (tp ns i6 c6::[.lst (cN s)]) from rfl,aj]
  dsimp only
  rw[p7 (t:=⟨cN s,some 1⟩) (M:=tp ns i6 c6::[.lst (cN s)]) (n:=5) (sg:=bh [0,1,2,3,4]) (ge:=qN) (ρ:=[some (.ro (ns.map D.int)),some (.mr 0),some (aT w hh g m),some (ar s.floor),some (.tup [.int (jG s.sx),.int s.sy]),some (.tup (s.book.map ar)),some (.tup (s.movers.map Mv.d)),some (.tup (s.pots.map D.int)),some (.mr 1),y9,y10,y11,y12,y13,some (js s).d,some (.lst (eJ tf)),some (.int (b:Int)),none,none,none]) (f:=fun d=>match d with | .tup [a,.int x,y,r,t]=>.tup [a,.int (x+b),y,r,t]|d=>d) (show jf (cN s) (cN s)=true from gj _) (cN s) (fun d hd=>by
   obtain⟨v,_,rfl⟩:=List.mem_map.mp hd
   refine⟨_,rfl,?_⟩
   unfold qN
   exact cK (aG rfl (aG (aN (f:=bM) (x:=.int v.x) (y:=.int b) rfl rfl rfl) (aG rfl (aG rfl (aG rfl rfl))))) (by simp)),aj]
  have en:(cN s).map (fun d=>match d with | .tup [a,.int x,y,r,t]=>.tup [a,.int (x+b),y,r,t]|d=>d)=(bY b (js s)).movers.map Mv.d:=by
   show((s.movers.map DF).map Mv.d).map _=((s.movers.map DF).map (mh b)).map Mv.d
   rw[List.map_map,List.map_map,List.map_map,List.map_map]
   exact List.map_congr_left fun v _=>rfl
  rw[en]
  unfold aF
  rw[if_pos (aE (by show(((s.movers.map DF).map (mh b)).map Mv.d).length≤_;rw[List.length_map,List.length_map,List.length_map];omega))]
 rw[aw (bA (mJ (F:=dS) s11 rfl))]
 show aH (av _ _ [some (.ro (ns.map D.int)),some (.mr 0),some (aT w hh g m),some (ar s.floor),some (.tup [.int (jG s.sx),.int s.sy]),some (.tup (s.book.map ar)),some (.tup (s.movers.map Mv.d)),some (.tup (s.pots.map D.int)),some (.mr 1),y9,y10,y11,y12,y13,some (js s).d,some (.lst (eJ tf)),some (.int (b:Int)),some (.tup ((bY b (js s)).movers.map Mv.d)),none,none] (tp ns i6 c6::[.lst (cN s)]))=_
 have s12:=yV (c:="Beam") (m:="picture") (n:=1) (ga:=ah) (ds:=[]) (fK (a:=ae 2) (b:=ae 14) (ρ:=[some (.ro (ns.map D.int)),some (.mr 0),some (aT w hh g m),some (ar s.floor),some (.tup [.int (jG s.sx),.int s.sy]),some (.tup (s.book.map ar)),some (.tup (s.movers.map Mv.d)),some (.tup (s.pots.map D.int)),some (.mr 1),y9,y10,y11,y12,y13,some (js s).d,some (.lst (eJ tf)),some (.int (b:Int)),some (.tup ((bY b (js s)).movers.map Mv.d)),none,none]) rfl rfl (mJ (F:=ji) (a:=ae 15) (x:=.lst (eJ tf)) rfl rfl) k1) eN rfl rfl rfl (qO rl1)
 rw[aw (bA s12)]
 show aH (av _ _ [some (.ro (ns.map D.int)),some (.mr 0),some (aT w hh g m),some (ar s.floor),some (.tup [.int (jG s.sx),.int s.sy]),some (.tup (s.book.map ar)),some (.tup (s.movers.map Mv.d)),some (.tup (s.pots.map D.int)),some (.mr 1),y9,y10,y11,y12,y13,some (js s).d,some (.lst (eJ tf)),some (.int (b:Int)),some (.tup ((bY b (js s)).movers.map Mv.d)),some (jE B1),none] _)=_
 have s13:=yV (c:="Beam") (m:="picture") (n:=1) (ga:=ah) (ds:=[]) (fK (a:=ae 2) (b:=aO (aa (ae 3) (aa (aO (aa (g2 fq (g2 aX (ae 4) (gC (.int 0))) (ae 16)) (aa (g2 aX (ae 4) (gC (.int 1))) ah))) (aa (ae 5) (aa (ae 17) (aa (ae 7) ah)))))) (ρ:=[some (.ro (ns.map D.int)),some (.mr 0),some (aT w hh g m),some (ar s.floor),some (.tup [.int (jG s.sx),.int s.sy]),some (.tup (s.book.map ar)),some (.tup (s.movers.map Mv.d)),some (.tup (s.pots.map D.int)),some (.mr 1),y9,y10,y11,y12,y13,some (js s).d,some (.lst (eJ tf)),some (.int (b:Int)),some (.tup ((bY b (js s)).movers.map Mv.d)),some (jE B1),none]) rfl (cK (aG rfl (aG (cK (aG (aN (f:=fq) (x:=.int (jG s.sx)) (y:=.int b) rfl rfl rfl) (aG (d:=.int s.sy) rfl rfl)) (by simp)) (aG rfl (aG rfl (aG rfl rfl))))) (by simp)) (mJ (F:=ji) (a:=ae 15) (x:=.lst (eJ tf)) rfl rfl) k2) eN rfl rfl rfl (qO rl2)
 rw[aw (bA s13)]
 generalize ao (ao (tp ns i6 c6::[.lst (cN s)]) (aT w hh g m) B1) (aT w hh g m) B2=N
 show aH (aJ _ [some (.ro (ns.map D.int)),some (.mr 0),some (aT w hh g m),some (ar s.floor),some (.tup [.int (jG s.sx),.int s.sy]),some (.tup (s.book.map ar)),some (.tup (s.movers.map Mv.d)),some (.tup (s.pots.map D.int)),some (.mr 1),y9,y10,y11,y12,y13,some (js s).d,some (.lst (eJ tf)),some (.int (b:Int)),some (.tup ((bY b (js s)).movers.map Mv.d)),some (jE B1),some (jE B2)] N)=_
 have c3:=sU (B:=B2) (ge:=uD) (ρ:=[some (.ro (ns.map D.int)),some (.mr 0),some (aT w hh g m),some (ar s.floor),some (.tup [.int (jG s.sx),.int s.sy]),some (.tup (s.book.map ar)),some (.tup (s.movers.map Mv.d)),some (.tup (s.pots.map D.int)),some (.mr 1),y9,y10,y11,y12,y13,some (js s).d,some (.lst (eJ tf)),some (.int (b:Int)),some (.tup ((bY b (js s)).movers.map Mv.d)),some (jE B1),some (jE B2)]) (M:=N) (f:=fun r=>r.drop b) rl2 (iQ (i:=19) rfl) (fun r=>by
  unfold uD oj
  rw[show ae 0 (some (D.lst (r.map D.int))::[some (.ro (ns.map D.int)),some (.mr 0),some (aT w hh g m),some (ar s.floor),some (.tup [.int (jG s.sx),.int s.sy]),some (.tup (s.book.map ar)),some (.tup (s.movers.map Mv.d)),some (.tup (s.pots.map D.int)),some (.mr 1),y9,y10,y11,y12,y13,some (js s).d,some (.lst (eJ tf)),some (.int (b:Int)),some (.tup ((bY b (js s)).movers.map Mv.d)),some (jE B1),some (jE B2)]) N=.ok (.lst (r.map D.int)) N from rfl,aj,show dg (ae 17) (some (D.lst (r.map D.int))::[some (.ro (ns.map D.int)),some (.mr 0),some (aT w hh g m),some (ar s.floor),some (.tup [.int (jG s.sx),.int s.sy]),some (.tup (s.book.map ar)),some (.tup (s.movers.map Mv.d)),some (.tup (s.pots.map D.int)),some (.mr 1),y9,y10,y11,y12,y13,some (js s).d,some (.lst (eJ tf)),some (.int (b:Int)),some (.tup ((bY b (js s)).movers.map Mv.d)),some (jE B1),some (jE B2)]) N=.ok (some (b:Int)) N from rfl,aj,show bq (some (D.lst (r.map D.int))::[some (.ro (ns.map D.int)),some (.mr 0),some (aT w hh g m),some (ar s.floor),some (.tup [.int (jG s.sx),.int s.sy]),some (.tup (s.book.map ar)),some (.tup (s.movers.map Mv.d)),some (.tup (s.pots.map D.int)),some (.mr 1),y9,y10,y11,y12,y13,some (js s).d,some (.lst (eJ tf)),some (.int (b:Int)),some (.tup ((bY b (js s)).movers.map Mv.d)),some (jE B1),some (jE B2)]) N=.ok none N from rfl,aj]
  show bg.ok (D.lst (gV (r.map D.int) (some (b:Int)) none)) N=_
  rw[we,List.map_drop])
 have c4:=sU (B:=B1) (ge:=uJ) (ρ:=[some (.ro (ns.map D.int)),some (.mr 0),some (aT w hh g m),some (ar s.floor),some (.tup [.int (jG s.sx),.int s.sy]),some (.tup (s.book.map ar)),some (.tup (s.movers.map Mv.d)),some (.tup (s.pots.map D.int)),some (.mr 1),y9,y10,y11,y12,y13,some (js s).d,some (.lst (eJ tf)),some (.int (b:Int)),some (.tup ((bY b (js s)).movers.map Mv.d)),some (jE B1),some (jE B2)]) (M:=N) (f:=fun r=>r.take (w.toNat-b)) rl1 (iQ (i:=18) rfl) (fun r=>by
  unfold uJ oj
  rw[show ae 0 (some (D.lst (r.map D.int))::[some (.ro (ns.map D.int)),some (.mr 0),some (aT w hh g m),some (ar s.floor),some (.tup [.int (jG s.sx),.int s.sy]),some (.tup (s.book.map ar)),some (.tup (s.movers.map Mv.d)),some (.tup (s.pots.map D.int)),some (.mr 1),y9,y10,y11,y12,y13,some (js s).d,some (.lst (eJ tf)),some (.int (b:Int)),some (.tup ((bY b (js s)).movers.map Mv.d)),some (jE B1),some (jE B2)]) N=.ok (.lst (r.map D.int)) N from rfl,aj,show bq (some (D.lst (r.map D.int))::[some (.ro (ns.map D.int)),some (.mr 0),some (aT w hh g m),some (ar s.floor),some (.tup [.int (jG s.sx),.int s.sy]),some (.tup (s.book.map ar)),some (.tup (s.movers.map Mv.d)),some (.tup (s.pots.map D.int)),some (.mr 1),y9,y10,y11,y12,y13,some (js s).d,some (.lst (eJ tf)),some (.int (b:Int)),some (.tup ((bY b (js s)).movers.map Mv.d)),some (jE B1),some (jE B2)]) N=.ok none N from rfl,aj,show dg (g2 fq (g2 aX (ae 3) (gC (.int 0))) (ae 17)) (some (D.lst (r.map D.int))::[some (.ro (ns.map D.int)),some (.mr 0),some (aT w hh g m),some (ar s.floor),some (.tup [.int (jG s.sx),.int s.sy]),some (.tup (s.book.map ar)),some (.tup (s.movers.map Mv.d)),some (.tup (s.pots.map D.int)),some (.mr 1),y9,y10,y11,y12,y13,some (js s).d,some (.lst (eJ tf)),some (.int (b:Int)),some (.tup ((bY b (js s)).movers.map Mv.d)),some (jE B1),some (jE B2)]) N=.ok (some (w-b)) N from rfl,aj]
  show bg.ok (D.lst (gV (r.map D.int) none (some (w-b)))) N=_
  rw[show w-b=((w.toNat-b:Nat):Int) by omega,xk,List.map_take])
 rw[pic] at c3
 rw[aZ (aN (f:=a7 false) c3 c4 Il)]
 rfl
end K14
theorem PySem.Challenge.cw_glowrow_k14_whole_moved_together_holds : PySem.Challenge.rw_glowrow_k14_whole_moved_together.Holds :=
 K14.pre K14.law_true
