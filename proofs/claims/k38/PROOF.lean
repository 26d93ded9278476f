import PyProof.Rows.All
import Wide.All
import KE.KNestM
import OpenK.KOwn
import OpenK.KRaise
import KE.KIsAll
import KE.KTypeName
import Wide.FinOn
import Lean
import PyProof.EqAt
import PyProof.EqKinds
import PyProof.TupleCall
import PyProof.Draws
import PyProof.EnumMake
import KE.KLam
import KE.KMinKey
import PyProof.StrCalls2
import PyProof.Rows.StrIndexOr
import PyProof.CollectIter
import PyProof.ListStr
import KE.KDictLaws
import PyProof.P3Eq
import KE.KSortTup
import KE.KDictList
import PyProof.ZipIter
import PyProof.Rows.ZipGen
import PyProof.SliceStr2
import PyProof.StrBlockI
import PyProof.StrCalls3
import PyProof.StrCalls6
import PyProof.StrCalls5
import KE.KRevIter
import PyProof.FactsAll.range_2
import PyProof.Rows.Range3
import PySem.Challenge.RW_glowrow_k38_packings_least
set_option Elab.async false
set_option linter.all false
set_option maxRecDepth 100000
set_option maxHeartbeats 4000000
namespace L2
open PySem PySem.Spec PyProof.Rows List
abbrev dO:=Sum Int Str
def md:dO→Value→Bool
 | .inl k,v=>Value.isInt k v
 | .inr x,v=>Value.isStrOf x v
def Hn (w:World):dO→Int
 | .inl k=>hashInt k
 | .inr x=>hashStr w x
theorem bE:∀{k:dO} {v:Value},md k v=true→(∃i t,k=Sum.inl i∧v=Value.int i t)∨(∃x t,k=Sum.inr x∧v=Value.str x t)
 | .inl i,v,h=>by
  obtain⟨t,e⟩:=Value.isInt_shape (k:=i) (v:=v) h;exact .inl ⟨i,t,rfl,e⟩
 | .inr x,v,h=>by
  obtain⟨t,e⟩:=Value.isStrOf_shape (x:=x) (v:=v) h;exact .inr ⟨x,t,rfl,e⟩
theorem sN (i:Int)(t:Tok):md (.inl i) (.int i t)=true:=by simp[md,Value.isInt]
theorem ue (x:Str)(t:Tok):md (.inr x) (.str x t)=true:=by simp[md,Value.isStrOf]
theorem CO (a b:Int):decide ((Sum.inl a:dO)=Sum.inl b)=(a==b):=by
 by_cases e:a=b
 ·subst e;simp
 ·have h:¬(Sum.inl a:dO)=Sum.inl b:=fun q=>e (Sum.inl.inj q)
  rw[decide_eq_false h];exact(beq_eq_false_iff_ne.mpr e).symm
theorem CW (a b:Str):decide ((Sum.inr a:dO)=Sum.inr b)=decide (a=b):=by
 by_cases e:a=b
 ·subst e;simp
 ·have h:¬(Sum.inr a:dO)=Sum.inr b:=fun q=>e (Sum.inr.inj q)
  rw[decide_eq_false h,decide_eq_false e]
theorem AZ (a:Int)(b:Str):decide ((Sum.inl a:dO)=Sum.inr b)=false:=decide_eq_false (fun q=>nomatch q)
theorem A4 (a:Str)(b:Int):decide ((Sum.inr a:dO)=Sum.inl b)=false:=decide_eq_false (fun q=>nomatch q)
def bX (prog:Program)(w:World):PySem.KeyKind prog w dO where
 is:=md
 hash:=Hn w
 inj:=fun v a b ha hb=>by
  rcases bE ha with⟨i,t,rfl,rfl⟩|⟨x,t,rfl,rfl⟩
  ·rcases bE hb with⟨j,u,rfl,e⟩|⟨y,u,rfl,e⟩
   ·injection e with e1 _;rw[e1]
   ·exact nomatch e
  ·rcases bE hb with⟨j,u,rfl,e⟩|⟨y,u,rfl,e⟩
   ·exact nomatch e
   ·injection e with e1 _;rw[e1]
 byValue:=fun k v h=>by
  rcases bE h with⟨i,t,rfl,rfl⟩|⟨x,t,rfl,rfl⟩ <;> rfl
 pyHash:=fun hv h=>by
  rcases bE hv with⟨i,t,rfl,rfl⟩|⟨x,t,rfl,rfl⟩
  ·exact wpAny_pyHash_int h
  ·exact wpAny_pyHash_str h
 eqBool:=fun hu hv h=>by
  rcases bE hu with⟨i,t,rfl,rfl⟩|⟨x,t,rfl,rfl⟩
  ·rcases bE hv with⟨j,u,rfl,rfl⟩|⟨y,u,rfl,rfl⟩
   ·rw[CO] at h;exact wpAny_eqBool_int h
   ·rw[AZ] at h;exact SeqAt.EqAt.int_str i t y u _ _ _ _ h
  ·rcases bE hv with⟨j,u,rfl,rfl⟩|⟨y,u,rfl,rfl⟩
   ·rw[A4] at h;exact SeqAt.EqAt.str_int x t j u _ _ _ _ h
   ·rw[CW] at h;exact wpAny_eqBool_str h
 «strs»:=fun k x t v h=>by
  rcases bE h with⟨i,u,rfl,e⟩|⟨y,u,rfl,e⟩
  ·exact nomatch e
  ·injection e with e1 _
   subst e1;cases v <;> rfl
theorem nI (prog:Program)(w:World)(i:Int)(t:Tok):(bX prog w).is (.inl i) (.int i t)=true:=sN i t
theorem n9 (prog:Program)(w:World)(x:Str)(t:Tok):(bX prog w).is (.inr x) (.str x t)=true:=ue x t
inductive V where
 | non|bl (b:Bool)|int (i:Int)|str (x:Str)|byt (b:Array UInt8)|flt (b:UInt64)|ref (a:Addr)|ty (n:String)
 deriving DecidableEq
def aW:V→Value→Prop
 | .non,u=>u=Value.none
 | .bl b,u=>u=Value.bool b
 | .int i,u=>∃t,u=Value.int i t
 | .str x,u=>∃t,u=Value.str x t
 | .byt b,u=>∃t,u=Value.bytes b t
 | .flt b,u=>∃t,u=Value.float b t
 | .ref a,u=>u=Value.ref a
 | .ty n,u=>u=Value.type n
abbrev aP:List V→List Value→Prop:=Paired aW
theorem aP.length {xs:List V}{us:List Value}(r:aP xs us):xs.length=us.length:=Paired.length r
theorem aP.get:∀{xs:List V} {us:List Value} {i:Nat} {x:V},aP xs us→xs[i]?=some x→∃u,us[i]?=some u∧aW x u
 | _,_,_,_,.nil,e=>by simp at e
 | _,_,0,_,.cons r _,e=>by simp at e;subst e;exact⟨_,rfl,r⟩
 | _,_,i+1,x,.cons _ t,e=>by
  obtain⟨u,h1,h2⟩:=aP.get (i:=i) (x:=x) t (by simpa using e);exact⟨u,by simpa using h1,h2⟩
theorem aP.set {x:V}{u:Value}(r:aW x u):∀{xs:List V} {us:List Value} (i:Nat),aP xs us→aP (xs.set i x) (us.set i u)
 | _,_,_,.nil=>.nil
 | _,_,0,.cons _ t=>.cons r t
 | _,_,i+1,.cons q t=>.cons q (aP.set r i t)
theorem aP.append:∀{xs ys:List V} {us ws:List Value},aP xs us→aP ys ws→aP (xs++ys) (us++ws)
 | _,_,_,_,.nil,s=>s
 | _,_,_,_,.cons r t,s=>.cons r (aP.append t s)
theorem aP.take:∀{xs:List V} {us:List Value} (n:Nat),aP xs us→aP (xs.take n) (us.take n)
 | _,_,0,_=>.nil
 | _,_,_+1,.nil=>.nil
 | _,_,n+1,.cons r t=>.cons r (aP.take n t)
theorem aP.drop:∀{xs:List V} {us:List Value} (n:Nat),aP xs us→aP (xs.drop n) (us.drop n)
 | _,_,0,r=>r
 | _,_,_+1,.nil=>.nil
 | _,_,n+1,.cons _ t=>aP.drop n t
def pe:Option V→Option Value→Prop
 | some v,some u=>aW v u
 | none,none=>True
 | _,_=>False
def KV {κ:Type}:List (κ×V)→List (κ×Value)→Prop:=Paired fun(p:κ×V) (q:κ×Value)=>p.1=q.1∧aW p.2 q.2
def kV:dO→V
 | .inl i=>.int i
 | .inr x=>.str x
inductive HO where
 | lst (xs:List V)
 | tup (xs:List V)
 | dK (kvs:List (dO×V))|dT (kvs:List (List dO×V))
 | set (S:Int→Bool) (n:Nat)
 | ins (C dx:Addr) (fs:List (Str×V))
 | own (x:Addr)
 | xd (fs:List (Str×V))
 | met (f x:Addr)
 | rng (lo hi:Int)
 | frz (o:Obj) (u:HO)
 | tbl (ps:Array Value)
 | ext (φ:Heap→Prop)
abbrev Hp:=Addr→Option HO
def cw (H:Hp)(a:Addr)(o:HO):Hp:=fun b=>if b=a then some o else H b
theorem cG {H:Hp}{a:Addr}{o:HO}:cw H a o a=some o:=by unfold cw;rw[if_pos rfl]
theorem aK {H:Hp}{a b:Addr}{o:HO}(h:b≠a):cw H a o b=H b:=by unfold cw;rw[if_neg h]
theorem qQ {H:Hp}{a b:Addr}{o u:HO}(h:H a=some o)(h':H b=some u)(d:o≠u):a≠b:=by
 intro e;subst e;rw[h] at h';exact d (Option.some.inj h')
theorem a7 {H:Hp}{a b:Addr}{o:HO}(h:H a=some o)(h':H b=none):a≠b:=by
 intro e;subst e;rw[h] at h';cases h'
section
variable (P:Program)(w:World)
def cg (H:Hp)(h:Heap)(a:Addr):HO→Prop
 | .lst xs=>xs.length≤sizeLine∧∃(its:List Value) (n:Nat),aP xs its∧h.get? a=some {cls:=.type "list",data:=.seq its.toArray n}
 | .tup xs=>xs.length≤sizeLine∧∃its:List Value,aP xs its∧IsTup h a its.toArray
 | .dK kvs=>kvs.length≤sizeLine∧(a==sysModules)=false∧∃vs,KV kvs vs∧h.DictOf (bX P w) a vs
 | .dT kvs=>kvs.length≤sizeLine∧(a==sysModules)=false∧∃xs:List (List dO×Addr×Value),
   Paired (fun(p:List dO×V) (q:List dO×Addr×Value)=>p.1=q.1∧H q.2.1=some (.tup (p.1.map kV))∧aW p.2 q.2.2) kvs xs∧
   ∃o es ep,h.get? a=some o∧o.ExactDict∧o.data=.dict es ep∧es.toList=xs.map (entryOfKey (tupleKind (bX P w)))∧(xs.map (·.1)).Nodup
 | .set S n=>h.SetOf (intKind P w) a S n
 | .ins C dx fs=>H dx=some (.own a)∧fs.length≤1000∧dx≠a∧h.get? a=some (W.instObj C dx)∧
   ∃mA,h.Ns1 dx mA∧(∀f,pe (fs.lookup f) (mA f))∧PySem.Within mA (fs.map (·.1))
 | .own _=>∃o,h.get? a=some o
 | .xd fs=>∃mA,h.Ns1 a mA∧∀f,pe (fs.lookup f) (mA f)
 | .rng lo hi=>∃t u v,h.get? a=some {cls:=.type "range",data:=.fields #[.int lo t,.int hi u,.int 1 v]}
 | .frz o u=>h.get? a=some o∧cg H h a u
 | .tbl ps=>h.get? a=some {cls:=.none,data:=.fields ps}
 | .met f x=>h.get? a=some (W.methodObj (.ref f) (.ref x))
 | .ext φ=>φ h∧(∃o,h.get? a=some o)∧∀h1 h2:Heap,φ h1→(∀o,h1.get? a=some o→h2.get? a=some o)→φ h2
def iD (H:Hp)(h:Heap):Prop:=∀a o,H a=some o→cg P w H h a o
end
section
variable {P:Program}{w:World}{H H':Hp}{h h':Heap}{a:Addr}{o:HO}
theorem cg.lt (x:cg P w H h a o):a<h.objs.size:=by
 cases o with
 | lst xs=>obtain⟨_,_,_,_,e⟩:=x;exact Heap.lt_size e
 | tup xs=>obtain⟨_,_,_,p⟩:=x;exact p.lt
 | dK kvs=>obtain⟨_,_,_,_,o,_,_,e,_⟩:=x;exact Heap.lt_size e
 | dT kvs=>obtain⟨_,_,_,_,o,_,_,e,_⟩:=x;exact Heap.lt_size e
 | set S n=>obtain⟨o,_,_,_,e,_⟩:=x;exact Heap.lt_size e
 | ins C dx fs=>obtain⟨_,_,_,e,_⟩:=x;exact Heap.lt_size e
 | own y=>obtain⟨_,e⟩:=x;exact Heap.lt_size e
 | xd fs=>obtain⟨_,⟨_,_,_,e,_⟩,_⟩:=x;exact Heap.lt_size e
 | rng lo hi=>obtain⟨_,_,_,e⟩:=x;exact Heap.lt_size e
 | frz ob u=>obtain⟨e,_⟩:=x;exact Heap.lt_size e
 | tbl ps=>exact Heap.lt_size (show h.get? a=some _ from x)
 | met f y=>exact Heap.lt_size (show h.get? a=some _ from x)
 | ext φ=>obtain⟨_,⟨_,e⟩,_⟩:=x;exact Heap.lt_size e
theorem Paired.mapP {α β:Type}{F G:α→β→Prop}:∀{l₁:List α} {l₂:List β},Paired F l₁ l₂→(∀a b,F a b→G a b)→Paired G l₁ l₂
 | _,_,.nil,_=>.nil
 | _,_,.cons r t,f=>.cons (f _ _ r) (Paired.mapP t f)
theorem cg.stay (x:cg P w H h a o)(k:∀b u,(b=a∨H b=some (.own a))→h.get? b=some u→h'.get? b=some u)
  (ho:∀b,H b=some (.own a)→H' b=some (.own a)) (ht:∀b xs,H b=some (.tup xs)→H' b=some (.tup xs)):cg P w H' h' a o:=by
 induction o with
 | lst xs=>obtain⟨z,its,n,r,e⟩:=x;exact⟨z,its,n,r,k _ _ (.inl rfl) e⟩
 | tup xs=>obtain⟨z,its,r,ob,e,c⟩:=x;exact⟨z,its,r,ob,k _ _ (.inl rfl) e,c⟩
 | dK kvs=>obtain⟨z,y,vs,r,ob,es,ep,e,c⟩:=x;exact⟨z,y,vs,r,ob,es,ep,k _ _ (.inl rfl) e,c⟩
 | dT kvs=>
  obtain⟨z,y,xs,r,ob,es,ep,e,c⟩:=x;exact⟨z,y,xs,Paired.mapP r fun p q z=>⟨z.1,ht _ _ z.2.1,z.2.2⟩,ob,es,ep,k _ _ (.inl rfl) e,c⟩
 | set S n=>obtain⟨ob,es,ep,t,e,c⟩:=x;exact⟨ob,es,ep,t,k _ _ (.inl rfl) e,c⟩
 | ins C dx fs=>
  obtain⟨d,z,ne,e,mA,⟨od,es,ep,e2,c⟩,r⟩:=x;exact⟨ho _ d,z,ne,k _ _ (.inl rfl) e,mA,⟨od,es,ep,k _ _ (.inr d) e2,c⟩,r⟩
 | own y=>obtain⟨ob,e⟩:=x;exact⟨ob,k _ _ (.inl rfl) e⟩
 | xd fs=>obtain⟨mA,⟨od,es,ep,e,c⟩,r⟩:=x;exact⟨mA,⟨od,es,ep,k _ _ (.inl rfl) e,c⟩,r⟩
 | rng lo hi=>obtain⟨t,u,v,e⟩:=x;exact⟨t,u,v,k _ _ (.inl rfl) e⟩
 | frz ob u ih=>obtain⟨e,q⟩:=x;exact⟨k _ _ (.inl rfl) e,ih q⟩
 | tbl ps=>
  have e:h.get? a=some {cls:=.none,data:=.fields ps}:=x;show h'.get? a=some {cls:=.none,data:=.fields ps};exact k a _ (.inl rfl) e
 | met f y=>
  have e:h.get? a=some (W.methodObj (.ref f) (.ref y)):=x;show h'.get? a=some (W.methodObj (.ref f) (.ref y));exact k a _ (.inl rfl) e
 | ext φ=>obtain⟨p,⟨o,e⟩,st⟩:=x;exact⟨st _ _ p fun o q=>k _ _ (.inl rfl) q,⟨o,k _ _ (.inl rfl) e⟩,st⟩
theorem iD.lt (x:iD P w H h)(e:H a=some o):a<h.objs.size:=(x a o e).lt
theorem iD.fresh (x:iD P w H h)(e:h.objs.size≤a):H a=none:=by
 cases q:H a with
 | none=>rfl
 | some u=>exact absurd (Nat.lt_of_lt_of_le (x.lt q) e) (Nat.lt_irrefl _)
theorem iD.kept (x:iD P w H h)(k:∀b u,h.get? b=some u→h'.get? b=some u):iD P w H h':=fun a o e=>
 (x a o e).stay (fun b u _ q=>k b u q) (fun _ q=>q) fun _ _ q=>q
theorem iD.laid (x:iD P w H h)(k:∀b u,h.get? b=some u→h'.get? b=some u)(hp:h.objs.size≤a)(new:cg P w (cw H a o) h' a o):iD P w (cw H a o) h':=fun b u e=>by
 have hn:=x.fresh hp
 by_cases hb:b=a
 ·subst hb;rw[cG] at e;cases e;exact new
 ·rw[aK hb] at e;exact(x b u e).stay (fun c v _ q=>k c v q) (fun c q=>by rw[aK (a7 q hn)];exact q) fun c xs q=>by rw[aK (a7 q hn)];exact q
end
def Rd (H:Hp)(a:Addr)(u:HO):Prop:=H a=some u∨∃o,H a=some (.frz o u)
theorem Rd.ok {P:Program}{w:World}{H:Hp}{h:Heap}{a:Addr}{u:HO}(r:Rd H a u)(x:iD P w H h):cg P w H h a u:=by
 rcases r with r|⟨o,r⟩
 ·exact x a u r
 ·obtain⟨_,q⟩:=x a _ r;exact q
def En:Option HO→Prop
 | some (.lst _)=>True
 | some (.dK _)=>True
 | some (.dT _)=>True
 | some (.set _ _)=>True
 | some (.ins _ _ _)=>True
 | some (.ext _)=>True
 | _=>False
section
variable {P:Program}{w:World}{H:Hp}{h h':Heap}{x e:Addr}{o':HO}
theorem iD.write (ok:iD P w H h)(mu:En (H x))(he:e=x∨H e=some (.own x))(k:∀b u,b≠e→h.get? b=some u→h'.get? b=some u)(heo:∃u,h'.get? e=some u)
  (new:cg P w (cw H x o') h' x o'):iD P w (cw H x o') h':=fun b u q=>by
 have nown:∀c y,H c=some (.own y)→c≠x:=fun c y r z=>by subst z;rw[r] at mu;exact mu
 have ntup:∀c xs,H c=some (.tup xs)→c≠x:=fun c xs r z=>by subst z;rw[r] at mu;exact mu
 by_cases hb:b=x
 ·subst hb;rw[cG] at q;cases q;exact new
 ·rw[aK hb] at q
  by_cases hbe:b=e
  ·have q':H b=some (.own x):=by
    rcases he with z|z
    ·exact absurd (hbe.trans z) hb
    ·rw[hbe];exact z
   rw[q] at q';cases q';obtain⟨v,hv⟩:=heo;exact⟨v,by rw[hbe];exact hv⟩
  ·refine(ok b u q).stay (fun c v hc r=>k c v ?_ r) (fun c r=>by rw[aK (nown c b r)];exact r) fun c xs r=>by rw[aK (ntup c xs r)];exact r
   rcases hc with rfl|hc
   ·exact hbe
   ·rintro rfl;rcases he with z|z
    ·exact nown c b hc z
    ·rw[hc] at z;cases z;exact hb rfl
end
structure Un (fs ex:List Addr)(H H':Hp)(h h':Heap):Prop where
 keep:∀b o,h.get? b=some o→H b=none→b∉fs→b∉ex→h'.get? b=some o
 slot:∀b o,h.get? b=some o→H b=none→b∈fs→b∉ex→∃sl,h'.get? b=some {o with slots:=sl}
 free:∀b o,h.get? b=some o→H b=none→b∉ex→H' b=none
 there:∀b o,h.get? b=some o→b∉ex→∃o',h'.get? b=some o'
 tups:∀b xs,H b=some (.tup xs)→H' b=some (.tup xs)
 frzs:∀b o u,H b=some (.frz o u)→H' b=some (.frz o u)
 tbls:∀b ps,H b=some (.tbl ps)→∃more,H' b=some (.tbl (ps++more))
section
variable {fs fs' ex ex':List Addr}{H H1 H2:Hp}{h h1 h2 h':Heap}{a x e:Addr}{o:HO}
theorem Un.any (u:Un fs ex H H1 h h1){b:Addr}{ob:Obj}(q:h.get? b=some ob)(n:H b=none)(hx:b∉ex):∃sl,h1.get? b=some {ob with slots:=sl}:=by
 by_cases hb:b∈fs
 ·exact u.slot b ob q n hb hx
 ·exact⟨ob.slots,u.keep b ob q n hb hx⟩
theorem Un.kept (k:∀b u,h.get? b=some u→h'.get? b=some u):Un fs ex H H h h':=
 ⟨fun b ob q _ _ _=>k b ob q,fun b ob q _ _ _=>⟨ob.slots,k b ob q⟩,fun _ _ _ n _=>n,fun b ob q _=>⟨ob,k b ob q⟩,fun _ _ q=>q,fun _ _ _ q=>q,fun _ ps q=>⟨#[],by rw[q];simp⟩⟩
theorem Un.refl:Un fs ex H H h h:=Un.kept fun _ _ q=>q
theorem Un.laid (k:∀b u,h.get? b=some u→h'.get? b=some u)(hp:h.objs.size≤a)(hn:H a=none):Un fs ex H (cw H a o) h h' where
 keep:=fun b u q _ _ _=>k b u q
 slot:=fun b u q _ _ _=>⟨u.slots,k b u q⟩
 free:=fun b u q n _=>by rw[aK (Nat.ne_of_lt (Nat.lt_of_lt_of_le (Heap.lt_size q) hp))];exact n
 there:=fun b u q _=>⟨u,k b u q⟩
 tups:=fun b xs q=>by rw[aK (a7 q hn)];exact q
 frzs:=fun b u xs q=>by rw[aK (a7 q hn)];exact q
 tbls:=fun b ps q=>⟨#[],by rw[aK (a7 q hn),q];simp⟩
theorem Un.write (mu:En (H x))(he:e=x∨H e=some (.own x))(k:∀b u,b≠e→h.get? b=some u→h'.get? b=some u)(heo:∃u,h'.get? e=some u):Un fs ex H (cw H x o) h h':=by
 have hx:∀b,H b=none→b≠x:=fun b n z=>by subst z;rw[n] at mu;exact mu
 have hb:∀b,H b=none→b≠e:=fun b n z=>by
  subst z;rcases he with r|r
  ·exact hx b n r
  ·rw[n] at r;cases r
 have hm:∀b u,H b=some u→¬En (some u)→b≠x:=fun b u q nm z=>by subst z;rw[q] at mu;exact nm mu
 refine⟨fun b u q n _ _=>k b u (hb b n) q,fun b u q n _ _=>⟨u.slots,k b u (hb b n) q⟩,fun b u q n _=>by rw[aK (hx b n)];exact n,fun b u q _=>?_,
  fun b xs q=>by rw[aK (hm b _ q fun z=>z)];exact q,fun b u xs q=>by rw[aK (hm b _ q fun z=>z)];exact q,fun b ps q=>⟨#[],by rw[aK (hm b _ q fun z=>z),q];simp⟩⟩
 by_cases hbe:b=e
 ·subst hbe;exact heo
 ·exact⟨u,k b u hbe q⟩
end
def trk (h:Heap)(H:Hp):List Addr:=(List.range h.objs.size).filter fun a=>(H a).isSome
def mZ (h:Heap)(H:Hp):Heap:=W.hideAll h (trk h H)
theorem sJ (h:Heap)(H:Hp):(mZ h H).objs.size=h.objs.size:=W.hideAll_size _ _
theorem vP {h:Heap}{H:Hp}{b:Addr}{o:Obj}(e:h.get? b=some o)(n:H b=none):(mZ h H).get? b=some o:=
 W.hideAll_get _ e fun hm=>by
  have q:(H b).isSome=true:=(mem_filter.mp hm).2;rw[n] at q;simp at q
theorem zM {h:Heap}{H:Hp}{b:Addr}{o:Obj}(e:(mZ h H).get? b=some o):h.get? b=some o∧H b=none:=by
 have e':h.get? b=some o:=W.of_hideAll (trk h H) e;refine⟨e',?_⟩;cases q:H b with
 | none=>rfl
 | some x=>
  have hm:b∈trk h H:=mem_filter.mpr ⟨mem_range.mpr (Heap.lt_size e'),by simp[q]⟩;have z:(mZ h H).get? b=none:=W.hideAll_none (trk h H) hm;rw[z] at e;cases e
def yW (g h:Heap)(L:Addr):List (Addr×Obj):=(List.range h.objs.size).filterMap fun a=>if a=L∨(g.get? a).isSome=true then none else(h.get? a).map fun o=>(a,o)
def au (g h:Heap)(L d:Addr):List (Addr×Obj):=(yW g h L).filter fun p=>decide (p.1≠d)
structure Mod (K:W.Frag)(mg:Str→Option Value)(base:Heap):Prop where
 kin:K.In base
 glob:base.Ns mainGlobals mg
 blt:∃mb,base.Ns builtinsNs mb∧∀x:Str,x≠"__name__"→mb x=bootBuiltins x
 nolimit:base.NoLimit
structure Cx where
 prog:Program
 w:World
 K:W.Frag
 mg:Str→Option Value
 base:Heap
 A:Around
 N:List Str
 s₀:Shared
 H₀:Hp
 env:Env
 outer:List Env
 stack:List Env
 ex:List Addr
 fn:Str→Bool
 calm:Bool
 pn:List (Addr×Obj)
 xe:Value→Shared→Prop
def lC (l:List Env):List Addr:=l.filterMap (·.frame)
abbrev Cx.fs (X:Cx):List Addr:=lC X.outer
def Dh (sc:Scope)(x:Str):Prop:=sc.names.lookup x=some .local∨sc.names.lookup x=some .cell∨sc.names.lookup x=some .free
def pj (sc:Scope)(x:Str):Prop:=sc.names.lookup x=some .local∨sc.names.lookup x=some .cell
def GH (env:Env)(h:Heap)(m:Str→Option Value)(x:Str)(u:Value):Prop:=
 (env.kindOf x=some .local∧m x=some u)∨((env.kindOf x=some .cell∨env.kindOf x=some .free)∧∃c,env.cells.lookup x=some c∧h.IsCell c (some u))
structure Cx.Ok (X:Cx):Prop where
 mod:Mod X.K X.mg X.base
 kind:X.env.scope.kind=.function
 glob:X.env.globals=mainGlobals
 blt:X.env.builtins=builtinsNs
 above:X.s₀.heap.objs.size≤X.env.locals
 inj:∀x y c,X.env.cells.lookup x=some c→X.env.cells.lookup y=some c→x=y
 has:∀x,(X.env.kindOf x=some .cell∨X.env.kindOf x=some .free)→∃c,X.env.cells.lookup x=some c
 cab:∀x c,X.fn x=true→X.env.cells.lookup x=some c→X.s₀.heap.objs.size≤c
 hd:X.calm=true→X.A.handled=none
 frames:X.A.frames=some X.stack
 stk:X.stack=X.outer∨(X.stack=X.env::X.outer∧X.env.frame=some X.env.locals)
 exf:∀b∈X.ex,b≠X.env.locals∧∀x c,X.env.cells.lookup x=some c→c≠b
 bs:∀b o,X.base.get? b=some o→X.s₀.heap.get? b=some o∧X.H₀ b=none
 bsz:X.base.objs.size≤X.s₀.heap.objs.size
 noex:∀b o,X.base.get? b=some o→b∉X.ex
 exfs:∀b∈X.ex,b∉X.fs
 funs:X.s₀.heap.FunFrames X.base X.outer
 frf:∀b∈X.fs,X.H₀ b=none
structure Inv (X:Cx)(ae:List (Addr×Obj))(σ:List (Option V))(H:Hp)(s:Shared):Prop where
 ok:X.Ok
 os:s.os=X.s₀.os
 bare:AllBare s.gens
 base:Un X.fs X.ex X.H₀ H X.s₀.heap s.heap
 loc:∃m,s.heap.Ns X.env.locals m∧∀(i:Nat) (x:Str) (v:V),X.N[i]?=some x→σ[i]?=some (some v)→Dh X.env.scope x→∃u,aW v u∧GH X.env s.heap m x u
 cell:∀x c,X.env.cells.lookup x=some c→∃v,s.heap.IsCell c v
 free:H X.env.locals=none
 freeC:∀x c,X.env.cells.lookup x=some c→H c=none
 pin:∀p∈X.pn++ae,s.heap.get? p.1=some p.2∧H p.1=none∧p.1≠X.env.locals∧p.1∉X.fs∧∀v,p.2.data≠.cell v
 hok:iD X.prog X.w H s.heap
 len:σ.length=X.N.length
section
variable {X:Cx}{ae:List (Addr×Obj)}{σ:List (Option V)}{H H':Hp}{s:Shared}{h':Heap}
theorem Cx.Ok.nofr (ok:X.Ok){b:Addr}{o:Obj}(e:X.base.get? b=some o):b∉X.fs:=fun hb=>by
 have:=(ok.funs.mem hb).1;rw[e] at this;cases this
theorem Inv.bs (I:Inv X ae σ H s):∀b o,X.base.get? b=some o→s.heap.get? b=some o∧H b=none:=fun b o e=>
 ⟨I.base.keep b o (I.ok.bs b o e).1 (I.ok.bs b o e).2 (I.ok.nofr e) (I.ok.noex b o e),I.base.free b o (I.ok.bs b o e).1 (I.ok.bs b o e).2 (I.ok.noex b o e)⟩
theorem Inv.bk (I:Inv X ae σ H s):∀b o,X.base.get? b=some o→s.heap.get? b=some o:=fun b o e=>(I.bs b o e).1
theorem Inv.mod (I:Inv X ae σ H s):Mod X.K X.mg X.base:=I.ok.mod
theorem Inv.kIn (I:Inv X ae σ H s):X.K.In s.heap:=I.ok.mod.kin.keeps I.bk
theorem Inv.lt (I:Inv X ae σ H s):X.env.locals<s.heap.objs.size:=let ⟨_,hn,_⟩:=I.loc;hn.lt
theorem Inv.sz (I:Inv X ae σ H s):X.s₀.heap.objs.size≤s.heap.objs.size:=Nat.le_trans I.ok.above (Nat.le_of_lt I.lt)
theorem Inv.nofs (I:Inv X ae σ H s){a:Addr}(h:s.heap.objs.size≤a):a∉X.fs:=fun hb=>by
 obtain⟨_,o,ho,_⟩:=I.ok.funs.mem hb;exact absurd (Nat.lt_of_lt_of_le (Heap.lt_size ho) (Nat.le_trans I.sz h)) (Nat.lt_irrefl _)
theorem Inv.cne (I:Inv X ae σ H s):∀x c,X.env.cells.lookup x=some c→c≠X.env.locals:=fun x c e z=>by
 obtain⟨v,o,ho,hd⟩:=I.cell x c e;obtain⟨m,⟨o',es,ep,ho',hd',_⟩,_⟩:=I.loc;rw[z,ho'] at ho;cases ho;rw[hd'] at hd;cases hd
theorem Inv.funs (I:Inv X ae σ H s):s.heap.FunFrames X.base X.outer:=by
 have all:∀(l:List Env),(∀b∈lC l,b∈X.fs)→X.s₀.heap.FunFrames X.base l→s.heap.FunFrames X.base l:=by
  intro l
  induction l with
  | nil=>intro _ _;trivial
  | cons env r ih=>
   intro hs hl;obtain⟨hk,⟨L,o,hf,hn,ho,hd⟩,hr⟩:=hl;have hL:L∈X.fs:=hs L (by unfold lC;rw[filterMap_cons,hf];exact mem_cons_self);obtain⟨sl,e⟩:=I.base.slot L o ho (I.ok.frf L hL) hL fun z=>I.ok.exfs L z hL
   exact⟨hk,⟨L,_,hf,hn,e,hd⟩,ih (fun b hb=>hs b (by unfold lC;rw[filterMap_cons,hf];exact mem_cons_of_mem _ hb)) hr⟩
 exact all X.outer (fun _ hb=>hb) I.ok.funs
theorem Inv.stack (I:Inv X ae σ H s):s.heap.FunFrames X.base X.stack:=by
 rcases I.ok.stk with e|⟨e,hf⟩
 ·rw[e];exact I.funs
 ·rw[e];obtain⟨m,hn,_⟩:=I.loc;refine .cons (by rw[I.ok.kind];decide) hf hn ?_ I.funs;exact Heap.get?_none_of_le (Nat.le_trans I.ok.bsz I.ok.above)
theorem Inv.stkSub (I:Inv X ae σ H s):∀b∈lC X.stack,b∈X.env.locals::X.fs:=fun b hb=>by
 rcases I.ok.stk with e|⟨e,hf⟩
 ·rw[e] at hb;exact mem_cons_of_mem _ hb
 ·rw[e] at hb;unfold lC at hb;rw[filterMap_cons,hf] at hb;exact hb
theorem Inv.stkFree (I:Inv X ae σ H s):∀b∈lC X.stack,H b=none:=fun b hb=>by
 rcases mem_cons.mp (I.stkSub b hb) with e|hb
 ·rw[e];exact I.free
 ·obtain⟨_,o,ho,_⟩:=I.ok.funs.mem hb;exact I.base.free b o ho (I.ok.frf b hb) fun z=>I.ok.exfs b z hb
theorem Inv.step {g':Array GenState}{t':Nat}{d':Drawn}{ch:List Addr}(I:Inv X ae σ H s)
  (hch:∀b∈ch,(b∈X.ex∨X.s₀.heap.objs.size≤b)∧b≠X.env.locals∧(∀x c,X.env.cells.lookup x=some c→c≠b)∧∀p∈X.pn++ae,p.1≠b)
  (keep:∀b o,b≠X.env.locals→b∉X.fs→b∉ch→s.heap.get? b=some o→H b=none→h'.get? b=some o)
  (slot:∀b o,b≠X.env.locals→b∈X.fs→b∉ch→s.heap.get? b=some o→H b=none→∃sl,h'.get? b=some {o with slots:=sl}) (free:∀b o,b∉ch→s.heap.get? b=some o→H b=none→H' b=none)
  (there:∀b o,b∉ch→s.heap.get? b=some o→∃o',h'.get? b=some o')
  (tups:∀b xs,H b=some (.tup xs)→H' b=some (.tup xs)) (frzs:∀b o u,H b=some (.frz o u)→H' b=some (.frz o u)) (tbls:∀b ps,H b=some (.tbl ps)→∃more,H' b=some (.tbl (ps++more)))
  (ns:∀m,s.heap.Ns X.env.locals m→h'.Ns X.env.locals m) (hok:iD X.prog X.w H' h') (hg:AllBare g') :
  Inv X ae σ H' {s with heap:=h',gens:=g',drawn:=d',toks:=t'}:=by
 have neL:∀b o,X.s₀.heap.get? b=some o→b≠X.env.locals:=fun b o e=>Nat.ne_of_lt (Nat.lt_of_lt_of_le (Heap.lt_size e) I.ok.above)
 have neC:∀b o,X.s₀.heap.get? b=some o→b∉X.ex→b∉ch:=fun b o e hx hb=>by
  rcases(hch b hb).1 with z|z
  ·exact hx z
  ·exact absurd (Nat.lt_of_lt_of_le (Heap.lt_size e) z) (Nat.lt_irrefl _)
 have cellK:∀x c,X.env.cells.lookup x=some c→∀v,s.heap.IsCell c v→h'.IsCell c v:=fun x c e v hxx=>by
  obtain⟨o,ho,hd⟩:=hxx;have nch:c∉ch:=fun z=>(hch c z).2.2.1 x c e rfl
  by_cases hc:c∈X.fs
  ·obtain⟨sl,q⟩:=slot c o (I.cne x c e) hc nch ho (I.freeC x c e);exact⟨_,q,hd⟩
  ·exact⟨o,keep c o (I.cne x c e) hc nch ho (I.freeC x c e),hd⟩
 refine⟨I.ok,I.os,hg,⟨fun b o e n hb hx=>?_,fun b o e n hb hx=>?_,fun b o e n hx=>?_,fun b o e hx=>?_,fun b xs e=>tups b xs (I.base.tups b xs e),fun b o xs e=>frzs b o xs (I.base.frzs b o xs e),fun b ps e=>?_⟩,?_,fun x c e=>?_,?_,fun x c e=>?_,fun p hp=>?_,hok,I.len⟩
 ·exact keep b o (neL b o e) hb (neC b o e hx) (I.base.keep b o e n hb hx) (I.base.free b o e n hx)
 ·obtain⟨sl,e1⟩:=I.base.slot b o e n hb hx;obtain⟨sl',e2⟩:=slot b _ (neL b o e) hb (neC b o e hx) e1 (I.base.free b o e n hx);exact⟨sl',e2⟩
 ·obtain⟨o',e1⟩:=I.base.there b o e hx;exact free b o' (neC b o e hx) e1 (I.base.free b o e n hx)
 ·obtain⟨o',e1⟩:=I.base.there b o e hx;exact there b o' (neC b o e hx) e1
 ·obtain⟨m1,e1⟩:=I.base.tbls b ps e;obtain⟨m2,e2⟩:=tbls b _ e1;exact⟨m1++m2,by rw[e2,Array.append_assoc]⟩
 ·obtain⟨m,hn,hl⟩:=I.loc;refine⟨m,ns m hn,fun i x v e1 e2 e3=>?_⟩;obtain⟨u,r,l⟩:=hl i x v e1 e2 e3;refine⟨u,r,?_⟩;rcases l with l|⟨k,c,e,z⟩
  ·exact .inl l
  ·exact .inr ⟨k,c,e,cellK x c e _ z⟩
 ·obtain⟨v,z⟩:=I.cell x c e;exact⟨v,cellK x c e v z⟩
 ·obtain⟨m,⟨o,_,_,ho,_⟩,_⟩:=I.loc;exact free _ o (fun z=>(hch _ z).2.1 rfl) ho I.free
 ·obtain⟨v,o,ho,hd⟩:=I.cell x c e;exact free c o (fun z=>(hch c z).2.2.1 x c e rfl) ho (I.freeC x c e)
 ·obtain⟨e,n,ne,nf,d⟩:=I.pin p hp;have nch:p.1∉ch:=fun z=>(hch p.1 z).2.2.2 p hp rfl
  exact⟨keep p.1 p.2 ne nf nch e n,free p.1 p.2 nch e n,ne,nf,d⟩
theorem Inv.un {t':Nat}(I:Inv X ae σ H s)(u:Un X.fs [] H H' s.heap h')(hok:iD X.prog X.w H' h'):Inv X ae σ H' {s with heap:=h',toks:=t'}:=by
 obtain⟨m,⟨o,es,ep,ho,r⟩,_⟩:=id I.loc;obtain⟨sl,hL⟩:=u.any ho I.free (by simp);exact I.step (g':=s.gens) (d':=s.drawn) (ch:=[]) (fun _ z=>nomatch z) (fun b o _ hb _ e n=>u.keep b o e n hb (by simp)) (fun b o _ hb _ e n=>u.slot b o e n hb (by simp)) (fun b o _ e n=>u.free b o e n (by simp)) (fun b o _ e=>u.there b o e (by simp)) u.tups u.frzs u.tbls (fun m' hm=>by
  obtain⟨o',es',ep',ho',r'⟩:=hm;rw[ho] at ho';cases ho';exact⟨_,es',ep',hL,r'⟩) hok I.bare
theorem Inv.call {g':Array GenState}{t':Nat}{d':Drawn}{ch:List Addr}(I:Inv X ae σ H s)(u:Un (lC X.stack) ch H H' s.heap h')(hok:iD X.prog X.w H' h')(hg:AllBare g')
  (hch:∀b∈ch,(b∈X.ex∨X.s₀.heap.objs.size≤b)∧b≠X.env.locals∧(∀x c,X.env.cells.lookup x=some c→c≠b)∧∀p∈X.pn++ae,p.1≠b) :
  Inv X ae σ H' {s with heap:=h',gens:=g',drawn:=d',toks:=t'}:=by
 obtain⟨m,⟨o,es,ep,ho,r⟩,_⟩:=id I.loc;obtain⟨sl,hL⟩:=u.any ho I.free fun z=>(hch _ z).2.1 rfl
 exact I.step (ch:=ch) hch (fun b o hL hb hc e n=>u.keep b o e n (fun z=>(mem_cons.mp (I.stkSub b z)).elim hL hb) hc) (fun b o _ _ hc e n=>u.any e n hc) (fun b o hc e n=>u.free b o e n hc) (fun b o hc e=>u.there b o e hc) u.tups u.frzs u.tbls (fun m' hm=>by
  obtain⟨o',es',ep',ho',r'⟩:=hm;rw[ho] at ho';cases ho';exact⟨_,es',ep',hL,r'⟩) hok hg
theorem Inv.turned {t':Nat}{it:Addr}(I:Inv X ae σ H s)(k:∀b o,b≠it→s.heap.get? b=some o→h'.get? b=some o)(hn:H it=none)(hL:it≠X.env.locals)
  (h1:it∈X.ex∨X.s₀.heap.objs.size≤it) (h2:∀x c,X.env.cells.lookup x=some c→c≠it) (h3:∀p∈X.pn++ae,p.1≠it):Inv X ae σ H {s with heap:=h',toks:=t'}:=by
 have nit:∀b u,H b=some u→b≠it:=fun b u e z=>by rw[z,hn] at e;cases e
 refine I.step (g':=s.gens) (d':=s.drawn) (ch:=[it]) (fun b hb=>?_) (fun b o _ _ hc e _=>k b o (fun z=>hc (by simp[z])) e) (fun b o _ _ hc e _=>⟨o.slots,k b o (fun z=>hc (by simp[z])) e⟩) (fun _ _ _ _ n=>n)
  (fun b o hc e=>⟨o,k b o (fun z=>hc (by simp[z])) e⟩) (fun _ _ e=>e) (fun _ _ _ e=>e) (fun b ps e=>⟨#[],by rw[e];simp⟩) (fun m hm=>?_) (fun b u e=>?_) I.bare
 ·have e:b=it:=by simpa using hb
  subst e;exact⟨h1,hL,h2,h3⟩
 ·obtain⟨o,es,ep,ho,r⟩:=hm;exact⟨o,es,ep,k _ o (Ne.symm hL) ho,r⟩
 ·refine(I.hok b u e).stay (fun c v hc q=>k c v ?_ q) (fun _ q=>q) fun _ _ q=>q
  rcases hc with z|z
  ·rw[z];exact nit b u e
  ·exact nit c _ z
theorem Inv.tok (I:Inv X ae σ H s)(t:Nat):Inv X ae σ H {s with toks:=t}:=I.un (h':=s.heap) (t':=t) Un.refl I.hok
theorem Inv.kept {t':Nat}(I:Inv X ae σ H s)(k:∀b u,s.heap.get? b=some u→h'.get? b=some u):Inv X ae σ H {s with heap:=h',toks:=t'}:=I.un (Un.kept k) (I.hok.kept k)
theorem Inv.laid {a:Addr}{o:HO}{t':Nat}(I:Inv X ae σ H s)(k:∀b u,s.heap.get? b=some u→h'.get? b=some u)(hp:s.heap.objs.size≤a)(new:cg X.prog X.w (cw H a o) h' a o) :
  Inv X ae σ (cw H a o) {s with heap:=h',toks:=t'}:=I.un (Un.laid k hp (I.hok.fresh hp)) (I.hok.laid k hp new)
theorem Inv.write {x e:Addr}{o:HO}{t':Nat}(I:Inv X ae σ H s)(mu:En (H x))(he:e=x∨H e=some (.own x))(k:∀b u,b≠e→s.heap.get? b=some u→h'.get? b=some u)(heo:∃u,h'.get? e=some u)
  (new:cg X.prog X.w (cw H x o) h' x o):Inv X ae σ (cw H x o) {s with heap:=h',toks:=t'}:=I.un (Un.write mu he k heo) (I.hok.write mu he k heo new)
theorem Inv.pins_of {pins':List (Addr×Obj)}(I:Inv X ae σ H s)(h:∀p∈pins',s.heap.get? p.1=some p.2∧H p.1=none∧p.1≠X.env.locals∧p.1∉X.fs∧∀v,p.2.data≠.cell v):Inv X pins' σ H s:=
 ⟨I.ok,I.os,I.bare,I.base,I.loc,I.cell,I.free,I.freeC,fun p hp=>(mem_append.mp hp).elim (fun z=>I.pin p (mem_append_left _ z)) (h p),I.hok,I.len⟩
theorem nR {N:List Str}(hN:N.Nodup){i j:Nat}{x:Str}(a:N[i]?=some x)(b:N[j]?=some x):i=j:=by
 obtain⟨h1,e1⟩:=List.getElem?_eq_some_iff.mp a;obtain⟨h2,e2⟩:=List.getElem?_eq_some_iff.mp b;exact(getElem_inj hN).mp (e1.trans e2.symm)
theorem mv {M:Model}{A:Around}{E:Value→Shared→Prop}{i:Nat}{x:Str}{v:V}{u:Value}{Q:Unit→Shared→Prop}(I:Inv X ae σ H s)(hN:X.N.Nodup)(hi:X.N[i]?=some x)(hx:pj X.env.scope x)(r:aW v u)
  (h:∀s',Inv X ae (σ.set i (some v)) H s'→(∃a,Heap.SameBut a s.heap s'.heap∧(a=X.env.locals∨X.env.cells.lookup x=some a))→Q () s') (hf:X.fn x=true∨X.env.scope.names.lookup x=some .local:=by first|exact .inl rfl|exact .inr rfl|assumption):wpAny M A (storeName X.env x u) Q E s:=by
 obtain⟨m,hn,hl⟩:=id I.loc;have hcls:(X.env.scope.kind==.class||(X.env.scope.kind==.module&&X.env.locals != X.env.globals))=false:=by rw[I.ok.kind];rfl
 have hiσ:i<σ.length:=by rw[I.len];exact(List.getElem?_eq_some_iff.mp hi).1
 have cne:=I.cne;have tracked:∀{a:Addr} {h':Heap},(∃o,s.heap.get? a=some o∧H a=none)→Heap.SameBut a s.heap h'→iD X.prog X.w H h':=fun {a h'} ha hs b ob e=>by
  obtain⟨_,_,hfree⟩:=ha;refine(I.hok b ob e).stay (fun c w' hc q=>(hs.2 c ?_).trans q) (fun _ q=>q) fun _ _ q=>q
  rintro rfl;rcases hc with rfl|hc
  ·rw[hfree] at e;cases e
  ·rw[hfree] at hc;cases hc
 rcases hx with hk|hk
 ·refine wpAny_storeName_local hk hn (fun h' hn' hs=>?_) hcls;obtain⟨oL,_,_,hoL,_⟩:=id hn;refine h _ ⟨I.ok,I.os,I.bare,⟨fun b o e n hb hx=>?_,fun b o e n hb hx=>?_,I.base.free,fun b o e hx=>?_,I.base.tups,I.base.frzs,I.base.tbls⟩,⟨_,hn',fun j y v' e1 e2 e3=>?_⟩,fun y c e=>?_,I.free,I.freeC,fun p hp=>?_,tracked ⟨oL,hoL,I.free⟩ hs,by simpa using I.len⟩ ⟨_,hs,.inl rfl⟩
  ·exact(hs.2 b (Nat.ne_of_lt (Nat.lt_of_lt_of_le (Heap.lt_size e) I.ok.above))).trans (I.base.keep b o e n hb hx)
  ·obtain⟨sl,e1⟩:=I.base.slot b o e n hb hx;exact⟨sl,(hs.2 b (Nat.ne_of_lt (Nat.lt_of_lt_of_le (Heap.lt_size e) I.ok.above))).trans e1⟩
  ·obtain⟨o',e1⟩:=I.base.there b o e hx;exact⟨o',(hs.2 b (Nat.ne_of_lt (Nat.lt_of_lt_of_le (Heap.lt_size e) I.ok.above))).trans e1⟩
  ·by_cases hj:j=i
   ·subst hj;rw[hi] at e1;cases e1;rw[getElem?_set_self hiσ] at e2;cases e2;exact⟨u,r,.inl ⟨hk,by simp⟩⟩
   ·rw[getElem?_set_ne (Ne.symm hj)] at e2;obtain⟨u',r',q⟩:=hl j y v' e1 e2 e3;refine⟨u',r',?_⟩;rcases q with⟨k,e⟩|⟨k,c,e,z⟩
    ·refine .inl ⟨k,?_⟩;have:y≠x:=fun e=>hj (nR hN e1 (e▸hi))
     simp[this,e]
    ·exact .inr ⟨k,c,e,z.sameBut hs (cne y c e)⟩
  ·obtain⟨w',z⟩:=I.cell y c e;exact⟨w',z.sameBut hs (cne y c e)⟩
  ·obtain⟨e,n,ne,nf,d⟩:=I.pin p hp;exact⟨(hs.2 p.1 ne).trans e,n,ne,nf,d⟩
 ·have hfn:X.fn x=true:=by
   rcases hf with z|z
   ·exact z
   ·rw[z] at hk;cases hk
  obtain⟨c,hc⟩:=I.ok.has x (.inl hk);obtain⟨w',z⟩:=I.cell x c hc;refine wpAny_storeName_cell I.ok.kind hk hc z (fun h' hc' hs=>?_);obtain⟨oc,hoc,hocd⟩:=id z;refine h {s with heap:=h'} ⟨I.ok,I.os,I.bare,⟨fun b o e n hb hx=>?_,fun b o e n hb hx=>?_,I.base.free,fun b o e hx=>?_,I.base.tups,I.base.frzs,I.base.tbls⟩,⟨m,hn.sameBut hs (Ne.symm (cne x c hc)),fun j y v' e1 e2 e3=>?_⟩,fun y c' e=>?_,I.free,I.freeC,fun p hp=>?_,tracked ⟨oc,hoc,I.freeC x c hc⟩ hs,by simpa using I.len⟩ ⟨c,hs,.inr hc⟩
  ·exact(hs.2 b (Nat.ne_of_lt (Nat.lt_of_lt_of_le (Heap.lt_size e) (I.ok.cab x c hfn hc)))).trans (I.base.keep b o e n hb hx)
  ·obtain⟨sl,e1⟩:=I.base.slot b o e n hb hx;exact⟨sl,(hs.2 b (Nat.ne_of_lt (Nat.lt_of_lt_of_le (Heap.lt_size e) (I.ok.cab x c hfn hc)))).trans e1⟩
  ·obtain⟨o',e1⟩:=I.base.there b o e hx;exact⟨o',(hs.2 b (Nat.ne_of_lt (Nat.lt_of_lt_of_le (Heap.lt_size e) (I.ok.cab x c hfn hc)))).trans e1⟩
  ·by_cases hj:j=i
   ·subst hj;rw[hi] at e1;cases e1;rw[getElem?_set_self hiσ] at e2;cases e2;exact⟨u,r,.inr ⟨.inl hk,c,hc,hc'⟩⟩
   ·rw[getElem?_set_ne (Ne.symm hj)] at e2;obtain⟨u',r',q⟩:=hl j y v' e1 e2 e3;refine⟨u',r',?_⟩;rcases q with q|⟨k,c',e,z'⟩
    ·exact .inl q
    ·refine .inr ⟨k,c',e,z'.sameBut hs ?_⟩;rintro rfl;exact hj (nR hN e1 (I.ok.inj _ _ _ e hc▸hi))
  ·by_cases hcc:c'=c
   ·subst hcc;exact⟨_,hc'⟩
   ·obtain⟨w2,z2⟩:=I.cell y c' e;exact⟨w2,z2.sameBut hs hcc⟩
  ·obtain⟨e,n,ne,nf,d⟩:=I.pin p hp;refine⟨(hs.2 p.1 ?_).trans e,n,ne,nf,d⟩;intro q;rw[q,hoc] at e;have q':oc=p.2:=Option.some.inj e;exact d w' (by rw[←q'];exact hocd)
theorem ja {M:Model}{A:Around}{E:Value→Shared→Prop}{i:Nat}{x:Str}{v:V}{u:Value}{Q:Unit→Shared→Prop}(I:Inv X ae σ H s)(hN:X.N.Nodup)(hi:X.N[i]?=some x)(hx:pj X.env.scope x)(r:aW v u)
  (h:∀s',Inv X ae (σ.set i (some v)) H s'→Q () s') (hf:X.fn x=true∨X.env.scope.names.lookup x=some .local:=by first|exact .inl rfl|exact .inr rfl|assumption):wpAny M A (storeName X.env x u) Q E s:=
 mv I hN hi hx r (fun s' I' _=>h s' I') hf
theorem Inv.call' {s':Shared}{ch:List Addr}(I:Inv X ae σ H s)(ho:s'.os=s.os)(u:Un (lC X.stack) ch H H' s.heap s'.heap)(hok:iD X.prog X.w H' s'.heap)(hg:AllBare s'.gens)
  (hch:∀b∈ch,(b∈X.ex∨X.s₀.heap.objs.size≤b)∧b≠X.env.locals∧(∀x c,X.env.cells.lookup x=some c→c≠b)∧∀p∈X.pn++ae,p.1≠b):Inv X ae σ H' s':=by
 obtain⟨h',g',d',t',o'⟩:=s';have e:o'=s.os:=ho;subst e;exact I.call (g':=g') (t':=t') (d':=d') u hok hg hch
end
abbrev XK:=Value→Option Addr→Hp→Prop
abbrev St:=List (Option V)
abbrev VK:=V→Hp→Prop
abbrev TE:=St→Hp→VK→Prop
abbrev TT:=St→Hp→(Bool→Hp→Prop)→Prop
abbrev TA:=St→Hp→(List V→Hp→Prop)→Prop
structure m5 where
 nx:St→Hp→Prop
 rt:VK
 bk:St→Hp→Prop:=fun _ _=>False
 ct:St→Hp→Prop:=fun _ _=>False
abbrev TS:=m5→St→Hp→Prop
def EP (X:Cx)(ae:List (Addr×Obj))(σ:St)(Q:VK)(u:Value)(s':Shared):Prop:=∃v H',Inv X ae σ H' s'∧aW v u∧Q v H'
def TP (X:Cx)(ae:List (Addr×Obj))(σ:St)(Q:Bool→Hp→Prop)(b:Bool)(s':Shared):Prop:=∃H',Inv X ae σ H' s'∧Q b H'
def AP (X:Cx)(ae:List (Addr×Obj))(σ:St)(Q:List V→Hp→Prop)(us:List Value)(s':Shared):Prop:=∃vs H',Inv X ae σ H' s'∧aP vs us∧Q vs H'
def SP (X:Cx)(ae:List (Addr×Obj))(D:m5)(f:Flow)(s':Shared):Prop:=
 match f with
 | .next=>∃σ' H',Inv X ae σ' H' s'∧D.nx σ' H'
 | .brk=>∃σ' H',Inv X ae σ' H' s'∧D.bk σ' H'
 | .cont=>∃σ' H',Inv X ae σ' H' s'∧D.ct σ' H'
 | .ret u=>∃v σ' H',Inv X ae σ' H' s'∧aW v u∧D.rt v H'
def PE (X:Cx)(e:Expr)(t:TE):Prop:=
 ∀(ae:List (Addr×Obj)) (s:Shared) (σ:St) (H:Hp) (Q:VK),Inv X ae σ H s→t σ H Q→wpAny (model X.prog X.w) X.A (eval e X.env) (EP X ae σ Q) X.xe s
def PT (X:Cx)(e:Expr)(t:TT):Prop:=
 ∀(ae:List (Addr×Obj)) (s:Shared) (σ:St) (H:Hp) (Q:Bool→Hp→Prop),Inv X ae σ H s→t σ H Q→wpAny (model X.prog X.w) X.A (isTrue e X.env (eval e X.env)) (TP X ae σ Q) X.xe s
def PW (X:Cx)(e:Expr)(t:TT):Prop:=
 ∀(whole:Sem Value) (ae:List (Addr×Obj)) (s:Shared) (σ:St) (H:Hp) (Q:Bool→Hp→Prop),Inv X ae σ H s→t σ H Q→wpAny (model X.prog X.w) X.A (isTrue e X.env whole) (TP X ae σ Q) X.xe s
theorem PW.pt {X:Cx}{e:Expr}{t:TT}(h:PW X e t):PT X e t:=h _
def PA (X:Cx)(es:List Expr)(t:TA):Prop:=
 ∀(pos:Pos) (ae:List (Addr×Obj)) (s:Shared) (σ:St) (H:Hp) (Q:List V→Hp→Prop),Inv X ae σ H s→t σ H Q→wpAny (model X.prog X.w) X.A (spliced (backTo pos (starEach es X.env))) (AP X ae σ Q) X.xe s
def PS (X:Cx)(st:Stmt)(t:TS):Prop:=
 ∀(ae:List (Addr×Obj)) (s:Shared) (σ:St) (H:Hp) (D:m5),Inv X ae σ H s→t D σ H→wpAny (model X.prog X.w) X.A (exec st X.env) (SP X ae D) X.xe s
def PSs (X:Cx)(st:List Stmt)(t:TS):Prop:=
 ∀(ae:List (Addr×Obj)) (s:Shared) (σ:St) (H:Hp) (D:m5),Inv X ae σ H s→t D σ H→wpAny (model X.prog X.w) X.A (execs st X.env) (SP X ae D) X.xe s
theorem b5 {α:Type}{t:Sem α}{Q Q':α→Shared→Prop}{M:Model}{A:Around}{E:Value→Shared→Prop}{s:Shared}(h:wpAny M A t Q E s)(hQ:∀a s,Q a s→Q' a s):wpAny M A t Q' E s:=wpAny_mono h hQ fun _ _ x=>x
section
variable {X:Cx}
def Fu (i:Nat):TE:=fun σ H Q=>∃v,σ[i]?=some (some v)∧Q v H
def tC (v:V):TE:=fun _ H Q=>Q v H
theorem Br {i:Nat}{x:Str}{pos:Pos}(hN:X.N[i]?=some x)(hv:Dh X.env.scope x)(hd:(x==("__debug__":Str))=false:=by decide)(hcd:(x==("__classdict__":Str))=false:=by decide):PE X (.Name x pos) (Fu i):=by
 intro ae s σ H Q I h;obtain⟨v,e,h⟩:=h;obtain⟨m,hn,hl⟩:=I.loc;obtain⟨u,r,l⟩:=hl i x v hN e hv;have fin:EP X ae σ Q u s:=⟨v,H,I,r,h⟩;rcases l with⟨hk,hm⟩|⟨hk,c,hc,hcell⟩
 ·exact wpAny_Name (wpAny_loadName_local I.ok.kind hk hn hm fin) hd
 ·rcases hk with hk|hk
  ·exact wpAny_Name (wpAny_loadName_cell I.ok.kind hk hc hcell fin) hd
  ·exact wpAny_Name (wpAny_loadName_free I.ok.kind hk hc hcell fin hcd) hd
theorem CY {i j pos}:PE X (.Constant (.int i) j pos) (tC (.int i)):=fun _ _ _ H _ I h=>wpAny_Constant_int ⟨.int i,H,I.tok _,⟨_,rfl⟩,h⟩
theorem EW {b j pos}:PE X (.Constant (.bool b) j pos) (tC (.bl b)):=fun _ _ _ H _ I h=>Constant_bool ⟨.bl b,H,I,rfl,h⟩
theorem Cb {j pos}:PE X (.Constant .none j pos) (tC .non):=fun _ _ _ H _ I h=>Constant_none ⟨.non,H,I,rfl,h⟩
theorem m4 {x j pos}:PE X (.Constant (.str x) j pos) (tC (.str x)):=fun _ _ _ H _ I h=>Calls.Constant_str ⟨.str x,H,I.tok _,⟨_,rfl⟩,h⟩
def Gl (X:Cx)(x:Str):Prop:=X.env.kindOf x=some .globalImplicit
theorem nA {E:Value→Shared→Prop}{ae:List (Addr×Obj)}{s:Shared}{σ:St}{H:Hp}{x:Str}{u:Value}{pos:Pos}{Q:Value→Shared→Prop}(I:Inv X ae σ H s)(hg:Gl X x)(hm:X.mg x=some u)(h:Q u s)
  (hd:(x==("__debug__":Str))=false:=by decide):wpAny (model X.prog X.w) X.A (eval (.Name x pos) X.env) Q E s:=
 Calls.Name_function_global I.ok.kind hg (Calls.loadGlobal_global (by rw[I.ok.glob];exact I.mod.glob.keeps I.bk) hm h) hd
theorem gQ {E:Value→Shared→Prop}{ae:List (Addr×Obj)}{s:Shared}{σ:St}{H:Hp}{x:Str}{u:Value}{pos:Pos}{Q:Value→Shared→Prop}(I:Inv X ae σ H s)(hg:Gl X x)(hm:X.mg x=none)(hv:bootBuiltins x=some u)(h:Q u s)
  (hn:x≠"__name__":=by decide) (hd:(x==("__debug__":Str))=false:=by decide):wpAny (model X.prog X.w) X.A (eval (.Name x pos) X.env) Q E s:=by
 obtain⟨mb,h1,h2⟩:=I.mod.blt;exact Calls.Name_function_global I.ok.kind hg (Calls.loadGlobal_builtin (by rw[I.ok.glob];exact I.mod.glob.keeps I.bk) hm (by rw[I.ok.blt];exact h1.keeps I.bk) ((h2 x hn).trans hv) h) hd
theorem rX {x:Str}{v:V}{u:Value}{pos:Pos}(hg:Gl X x)(hm:X.mg x=some u)(r:aW v u)(hd:(x==("__debug__":Str))=false:=by decide):PE X (.Name x pos) (tC v):=
 fun _ _ _ H _ I h=>nA I hg hm ⟨v,H,I,r,h⟩ hd
theorem yu {x:Str}{v:V}{u:Value}{pos:Pos}(hg:Gl X x)(hm:X.mg x=none)(hv:bootBuiltins x=some u)(r:aW v u)(hn:x≠"__name__":=by decide)(hd:(x==("__debug__":Str))=false:=by decide):PE X (.Name x pos) (tC v):=
 fun _ _ _ H _ I h=>gQ I hg hm hv ⟨v,H,I,r,h⟩ hn hd
variable {a b:Expr}{ta tb:TE}{pos:Pos}
variable {tA tB':TT}{au:List Expr}
def F8 (t u:TT):TT:=fun σ H Q=>t σ H fun c H1=>if c=true then u σ H1 Q else Q false H1
def HG (t u:TT):TT:=fun σ H Q=>t σ H fun c H1=>if c=true then Q true H1 else u σ H1 Q
def Hh (t:TT):TT:=fun σ H Q=>t σ H fun c H1=>Q (!c) H1
theorem yR (ha:PT X a tA):PW X (.BoolOp .And [a] pos) tA:=by
 intro wh ae s σ H Q I h;refine isTrue_and (b5 (ha ae s σ H Q I h) fun c s1 e=>?_);cases c with
 | true=>exact isTrue_and_nil e
 | false=>exact e
theorem BG (ha:PT X a tA):PW X (.BoolOp .Or [a] pos) tA:=by
 intro wh ae s σ H Q I h;refine isTrue_or (b5 (ha ae s σ H Q I h) fun c s1 e=>?_);cases c with
 | false=>exact isTrue_or_nil e
 | true=>exact e
theorem BC (ha:PT X a tA)(hb:PW X (.BoolOp .And (b::au) pos) tB'):PW X (.BoolOp .And (a::b::au) pos) (F8 tA tB'):=by
 intro wh ae s σ H Q I h;refine isTrue_and (b5 (ha ae s σ H _ I h) fun c s1 hxx=>?_);obtain⟨H1,I1,q1⟩:=hxx;cases c with
 | true=>exact hb wh ae s1 σ H1 Q I1 q1
 | false=>exact⟨H1,I1,q1⟩
theorem EY (ha:PT X a tA)(hb:PW X (.BoolOp .Or (b::au) pos) tB'):PW X (.BoolOp .Or (a::b::au) pos) (HG tA tB'):=by
 intro wh ae s σ H Q I h;refine isTrue_or (b5 (ha ae s σ H _ I h) fun c s1 hxx=>?_);obtain⟨H1,I1,q1⟩:=hxx;cases c with
 | true=>exact⟨H1,I1,q1⟩
 | false=>exact hb wh ae s1 σ H1 Q I1 q1
theorem AV (ha:PT X a tA):PT X (.UnaryOp .Not a pos) (Hh tA):=by
 intro ae s σ H Q I h;exact isTrue_not (ha ae s σ H (fun c H1=>Q (!c) H1) I h)
def DW (ta tb:TE):TE:=fun σ H Q=>ta σ H fun x H1=>∃c,x=.bl c∧if c=true then tb σ H1 Q else Q (.bl false) H1
theorem Bg {op}{t:TE}(h:PE X a t):PE X (.BoolOp op [a] pos) t:=fun ae s σ H Q I hw=>BoolOp_one (h ae s σ H Q I hw)
theorem Ai (ha:PE X a ta)(hb:PE X (.BoolOp .And (b::au) pos) tb):PE X (.BoolOp .And (a::b::au) pos) (DW ta tb):=by
 intro ae s σ H Q I h;refine BoolOp_and (b5 (ha ae s σ H _ I h) fun v s1 hxx=>?_);obtain⟨x,H1,I1,r1,q1⟩:=hxx;obtain⟨c,rfl,q1⟩:=q1;cases r1;refine wpAny_truthy_bool ?_;cases c with
 | true=>exact hb ae s1 σ H1 Q I1 q1
 | false=>exact⟨.bl false,H1,I1,rfl,q1⟩
end
def jn (K:W.Frag)(H:Hp)(a:Addr)(xs:List V):Prop:=
 Rd H a (.lst xs)∨
  ∃(o:Obj) (its:Array Value) (n:Nat),K.lookup a=some o∧o.cls=.type "list"∧o.dict=none∧o.data=.seq its n∧its.size≤sizeLine∧aP xs its.toList
def nC (K:W.Frag)(H:Hp)(a:Addr)(xs:List V):Prop:=
 Rd H a (.tup xs)∨
  ∃(o:Obj) (its:Array Value) (n:Nat),K.lookup a=some o∧o.cls=.type "tuple"∧o.data=.seq its n∧its.size≤sizeLine∧aP xs its.toList
def Hu:Value→Option V
 | .none=>some .non
 | .bool b=>some (.bl b)
 | .int i _=>some (.int i)
 | .str x _=>some (.str x)
 | .bytes b _=>some (.byt b)
 | .float b _=>some (.flt b)
 | .ref a=>some (.ref a)
 | .type n=>some (.ty n)
 | _=>none
theorem aW.abs {x:V}{u:Value}(r:aW x u):Hu u=some x:=by
 cases x with
 | non=>cases r;rfl
 | bl _=>cases r;rfl
 | int _=>obtain⟨t,rfl⟩:=r;rfl
 | str _=>obtain⟨t,rfl⟩:=r;rfl
 | byt _=>obtain⟨t,rfl⟩:=r;rfl
 | flt _=>obtain⟨t,rfl⟩:=r;rfl
 | ref _=>cases r;rfl
 | ty _=>cases r;rfl
theorem aW.inj {x y:V}{u:Value}(r:aW x u)(q:aW y u):x=y:=Option.some.inj (r.abs.symm.trans q.abs)
theorem aP.inj:∀{xs ys:List V} {us:List Value},aP xs us→aP ys us→xs=ys
 | _,_,_,.nil,.nil=>rfl
 | _,_,_,.cons r t,.cons r' t'=>by rw[r.inj r',aP.inj t t']
section
variable {X:Cx}{ae:List (Addr×Obj)}{σ:St}{H:Hp}{s:Shared}{a:Addr}{xs ys:List V}
theorem Inv.list (I:Inv X ae σ H s)(h:jn X.K H a xs):∃its:List Value,aP xs its∧PlainL s.heap a its.toArray∧xs.length≤sizeLine:=by
 rcases h with h|⟨o,its,n,hk,hc,hd,hs,hz,r⟩
 ·obtain⟨z,its,n,r,e⟩:=h.ok I.hok;exact⟨its,r,⟨_,n,e,rfl,rfl,rfl⟩,z⟩
 ·refine⟨its.toList,r,⟨o,n,I.kIn a o hk,hc,hd,by simpa using hs⟩,?_⟩;have e:=r.length;simp only[Array.length_toList] at e;omega
theorem Inv.tuple (I:Inv X ae σ H s)(h:nC X.K H a xs):∃its:List Value,aP xs its∧IsTup s.heap a its.toArray∧xs.length≤sizeLine:=by
 rcases h with h|⟨o,its,n,hk,hc,hs,hz,r⟩
 ·obtain⟨z,its,r,p⟩:=h.ok I.hok;exact⟨its,r,p,z⟩
 ·refine⟨its.toList,r,⟨o,I.kIn a o hk,hc,n,by simpa using hs⟩,?_⟩;have e:=r.length;simp only[Array.length_toList] at e;omega
theorem Inv.list_inj (I:Inv X ae σ H s)(h:jn X.K H a xs)(h':jn X.K H a ys):xs=ys:=by
 obtain⟨its,r,⟨o,n,e,_,_,d⟩,_⟩:=I.list h;obtain⟨its',r',⟨o',n',e',_,_,d'⟩,_⟩:=I.list h';rw[e] at e';cases e';rw[d] at d';injection d' with d1 _
 have:its=its':=by simpa using congrArg Array.toList d1
 subst this;exact r.inj r'
theorem Inv.tuple_inj (I:Inv X ae σ H s)(h:nC X.K H a xs)(h':nC X.K H a ys):xs=ys:=by
 obtain⟨its,r,⟨o,e,_,n,d⟩,_⟩:=I.tuple h;obtain⟨its',r',⟨o',e',_,n',d'⟩,_⟩:=I.tuple h';rw[e] at e';cases e';rw[d] at d';injection d' with d1 _
 have:its=its':=by simpa using congrArg Array.toList d1
 subst this;exact r.inj r'
end
section
variable {X:Cx}{st:Stmt}{au:List Stmt}{t u:TS}{e:Expr}{te:TE}{pos:Pos}
def Ej:TS:=fun D σ H=>D.nx σ H
def AU (t u:TS):TS:=fun D σ H=>t {D with nx:=u D} σ H
theorem xR:PSs X [] Ej:=fun _ _ σ H _ I h=>wpAny_execs_nil ⟨σ,H,I,h⟩
theorem uP (h1:PS X st t)(h2:PSs X au u):PSs X (st::au) (AU t u):=by
 intro ae s σ H D I h;refine wpAny_execs_cons (b5 (h1 ae s σ H {D with nx:=u D} I h) fun f s1 q=>?_);cases f with
 | next=>
  obtain⟨σ',H',I',q⟩:=q;exact h2 ae s1 σ' H' D I' q
 | ret v=>exact q
 | brk=>exact q
 | cont=>exact q
theorem xQ (h1:PS X st t):PSs X [st] t:=by
 intro ae s σ H D I h;refine wpAny_execs_cons (b5 (h1 ae s σ H D I h) fun f s1 q=>?_);cases f with
 | next=>exact wpAny_execs_nil q
 | ret v=>exact q
 | brk=>exact q
 | cont=>exact q
theorem Inv.quiet {ae:List (Addr×Obj)}{σ:St}{H:Hp}{s:Shared}(I:Inv X ae σ H s):interactive X.env=false:=by simp[interactive,I.ok.kind]
def EO (te:TE):TS:=fun D σ H=>te σ H fun _ H1=>D.nx σ H1
theorem yM (he:PE X e te)(hs:swapsWith e none pos.line X.env=pure false:=by rfl):PS X (.Expr e pos) (EO te):=by
 intro ae s σ H D I h;exact wpAny_Expr_any (b5 (he ae s σ H _ I h) fun v s1 ⟨x,H1,I1,r1,q1⟩=>⟨σ,H1,I1,q1⟩) I.quiet hs
def GJ (te:TE):TS:=fun D σ H=>te σ H D.rt
theorem AW (he:PE X e te):PS X (.Return (some e) pos) (GJ te):=by
 intro ae s σ H D I h;exact wpAny_Return_some (b5 (he ae s σ H _ I h) fun v s1 ⟨x,H1,I1,r1,q1⟩=>⟨x,σ,H1,I1,r1,q1⟩)
def Hk (c:TT)(t u:TS):TS:=fun D σ H=>c σ H fun b H1=>if b=true then t D σ H1 else u D σ H1
theorem Fx {c:Expr}{a b:List Stmt}{tc:TT}(hc:PT X c tc)(ha:PSs X a t)(hb:PSs X b u):PS X (.If c a b pos) (Hk tc t u):=by
 intro ae s σ H D I h;refine wpAny_If (b5 (hc ae s σ H _ I h) fun d s1 hxx=>?_);obtain⟨H1,I1,q1⟩:=hxx;cases d with
 | true=>exact ha ae s1 σ H1 D I1 q1
 | false=>exact hb ae s1 σ H1 D I1 q1
end
abbrev TG:=V→St→Hp→(St→Hp→Prop)→Prop
abbrev z7:=List V→St→Hp→(St→Hp→Prop)→Prop
def PG (X:Cx)(target:Expr)(t:TG):Prop:=
 ∀(ae:List (Addr×Obj)) (s:Shared) (σ:St) (H:Hp) (v:V) (u:Value) (Q:St→Hp→Prop),Inv X ae σ H s→aW v u→t v σ H Q→
  wpAny (model X.prog X.w) X.A (assign target X.env u) (fun _ s'=>∃σ' H',Inv X ae σ' H' s'∧Q σ' H') X.xe s
def xS (X:Cx)(ts:List Expr)(t:z7):Prop:=
 ∀(ae:List (Addr×Obj)) (s:Shared) (σ:St) (H:Hp) (vs:List V) (us:List Value) (Q:St→Hp→Prop),Inv X ae σ H s→aP vs us→t vs σ H Q→
  wpAny (model X.prog X.w) X.A (assignInOrder ((assignEach ts X.env).map (·.2)) us) (fun _ s'=>∃σ' H',Inv X ae σ' H' s'∧Q σ' H') X.xe s
abbrev Ci:=V→V→V→Hp→(Hp→Prop)→Prop
def Fd (X:Cx)(t:Ci):Prop:=
 ∀(ae:List (Addr×Obj)) (s:Shared) (σ:St) (H:Hp) (o i v:V) (ov iv u:Value) (Q:Hp→Prop),Inv X ae σ H s→aW o ov→aW i iv→aW v u→t o i v H Q→
  wpAny (model X.prog X.w) X.A (setItem ov iv u) (fun _ s'=>∃H',Inv X ae σ H' s'∧Q H') X.xe s
abbrev FO:=V→V→Hp→VK→Prop
def FX (X:Cx)(op:Operator)(t:FO):Prop:=
 ∀(ae:List (Addr×Obj)) (s:Shared) (σ:St) (H:Hp) (x y:V) (v u:Value) (Q:VK),Inv X ae σ H s→aW x v→aW y u→t x y H Q→
  wpAny (model X.prog X.w) X.A (inplaceOp op v u) (EP X ae σ Q) X.xe s
section
variable {X:Cx}{pos:Pos}
def zP (i:Nat):TG:=fun v σ H Q=>Q (σ.set i (some v)) H
theorem zK {i:Nat}{x:Str}(hN:X.N.Nodup)(hi:X.N[i]?=some x)(hx:pj X.env.scope x)(hf:X.fn x=true∨X.env.scope.names.lookup x=some .local:=by first|exact .inl rfl|exact .inr rfl|assumption):PG X (.Name x pos) (zP i):=by
 intro ae s σ H v u Q I r h;exact wpAny_assign_Name (ja I hN hi hx r (fun s' I'=>⟨_,H,I',h⟩) hf)
def Gv:z7:=fun vs σ H Q=>vs=[]∧Q σ H
def EF (t:TG)(u:z7):z7:=fun vs σ H Q=>∃v r,vs=v::r∧t v σ H fun σ' H'=>u r σ' H' Q
theorem y7:xS X [] Gv:=by
 intro ae s σ H vs us Q I r h;obtain⟨e,h⟩:=h;subst e;cases r;exact assignInOrder_nil ⟨σ,H,I,h⟩
theorem wU {e:Expr}{es:List Expr}{t:TG}{u:z7}(h1:PG X e t)(h2:xS X es u)
  (hs:(assignEach (e::es) X.env).map (·.2)=assign e X.env::(assignEach es X.env).map (·.2):=by rfl):xS X (e::es) (EF t u):=by
 intro ae s σ H vs us Q I r h;obtain⟨v,vr,e1,h⟩:=h;subst e1;cases r with
 | cons r rr=>
  rw[hs];refine assignInOrder_cons (b5 (h1 ae s σ H _ _ _ I r h) fun _ s1 hxx=>?_);obtain⟨σ1,H1,I1,q1⟩:=hxx;exact h2 ae s1 σ1 H1 _ _ Q I1 rr q1
def G3 (K:W.Frag)(n:Nat)(t:z7):TG:=fun v σ H Q=>∃a xs,v=.ref a∧nC K H a xs∧xs.length=n∧t xs σ H Q
theorem Ct {es:List Expr}{k:Nat}{t:z7}{n:Nat}(hc:X.calm=true)(h:xS X es t)
  (hn:(assignEach es X.env).length=n:=by rfl) (hst:(assignEach es X.env).findIdx? (·.1)=none:=by rfl):PG X (.Tuple es k pos) (G3 X.K n t):=by
 intro ae s σ H v u Q I r hw;obtain⟨a,xs,e1,hq,hl,hw⟩:=hw;subst e1;cases r;obtain⟨its,rv,ht,hz⟩:=I.tuple hq;refine assign_Tuple_tuple (I.ok.hd hc) ht (by simp[hn,←hl,rv.length]) hst fun h' hx=>?_
 have I1:Inv X ae σ H {s with heap:=h'}:=I.kept (t':=s.toks) fun b o e=>hx b o (Nat.ne_of_lt (Heap.lt_size e)) e
 exact h ae _ σ H xs _ Q I1 (by simpa using rv) hw
def Hb (to ti:TE)(t:Ci):TG:=fun v σ H Q=>to σ H fun o H1=>ti σ H1 fun i H2=>t o i v H2 fun H3=>Q σ H3
theorem Ad {o i:Expr}{to ti:TE}{t:Ci}(ho:PE X o to)(hi:PE X i ti)(hs:Fd X t)
  (ha:∀v,assign (.Subscript o i pos) X.env v=(do
   let ov ←holding [v] (eval o X.env)
   let iv ←holding [v,ov] (eval i X.env)
   standAt pos
   holding [v,ov,iv] (setItem ov iv v)
   release [v,ov,iv] []):=by intro _;rfl):PG X (.Subscript o i pos) (Hb to ti t):=by
 intro ae s σ H v u Q I r h;rw[ha];refine wpAny_bind (wpAny_holding (b5 (ho ae s σ H _ I h) fun ov s1 hxx=>?_));obtain⟨x,H1,I1,r1,q1⟩:=hxx;refine wpAny_bind (wpAny_holding (b5 (hi ae s1 σ H1 _ I1 q1) fun iv s2 hxx=>?_));obtain⟨y,H2,I2,r2,q2⟩:=hxx;refine wpAny_bind (wpAny_standAt (wpAny_bind (wpAny_holding (b5 (hs ae s2 σ H2 x y v ov iv u _ I2 r1 r2 r q2) fun _ s3 hxx=>?_))));obtain⟨H3,I3,q3⟩:=hxx;exact wpAny_release ⟨σ,H3,I3,q3⟩
def DV (te:TE)(g:TG):TS:=fun D σ H=>te σ H fun x H1=>g x σ H1 D.nx
theorem vM {tg e:Expr}{te:TE}{g:TG}(he:PE X e te)(hg:PG X tg g)(hs:swapsWithSole [tg] e pos.line X.env=pure false:=by rfl)(hw:swappedStores [tg] e X.env=pure none:=by rfl)
  (h1:(assignEach [tg] X.env).map (·.2)=[assign tg X.env]:=by rfl):PS X (.Assign [tg] e pos) (DV te g):=by
 intro ae s σ H D I h;refine wpAny_Assign_stores (b5 (he ae s σ H _ I h) fun v s1 hxx=>?_) hs hw;obtain⟨x,H1,I1,r1,q1⟩:=hxx;rw[h1];exact b5 (hg ae s1 σ H1 x v _ I1 r1 q1) fun _ s2 q=>q
theorem CU {i:Nat}{x:Str}{e:Expr}{te:TE}{pos':Pos}(hN:X.N.Nodup)(hi:X.N[i]?=some x)(hx:pj X.env.scope x)(he:PE X e te)(hs:swapsWith e (some (.Name x pos')) pos.line X.env=pure false:=by rfl)(hf:X.fn x=true∨X.env.scope.names.lookup x=some .local:=by first|exact .inl rfl|exact .inr rfl|assumption) :
  PS X (.Assign [.Name x pos'] e pos) (DV te (zP i)):=by
 intro ae s σ H D I h;refine wpAny_Assign_Name (b5 (he ae s σ H _ I h) fun v s1 hxx=>?_) hs;obtain⟨y,H1,I1,r1,q1⟩:=hxx;exact ja I1 hN hi hx r1 (fun s2 I2=>⟨_,H1,I2,q1⟩) hf
def Ht (i:Nat)(te:TE)(ti:FO):TS:=fun D σ H=>∃x,σ[i]?=some (some x)∧te σ H fun y H1=>ti x y H1 fun z H2=>D.nx (σ.set i (some z)) H2
theorem xc {i:Nat}{x:Str}{e:Expr}{te:TE}{op:Operator}{ti:FO}{pos':Pos}(hN:X.N.Nodup)(hi:X.N[i]?=some x)(hx:pj X.env.scope x)(he:PE X e te)(ho:FX X op ti)(hf:X.fn x=true∨X.env.scope.names.lookup x=some .local:=by first|exact .inl rfl|exact .inr rfl|assumption) :
  PS X (.AugAssign (.Name x pos') op e pos) (Ht i te ti):=by
 intro ae s σ H D I h;obtain⟨v,e1,h⟩:=h;obtain⟨m,hn,hl⟩:=I.loc;have vis:Dh X.env.scope x:=by rcases hx with k|k;exact .inl k;exact .inr (.inl k)
 obtain⟨u,r,l⟩:=hl i x v hi e1 vis;refine wpAny_AugAssign_Name ?_;have go:wpAny (model X.prog X.w) X.A (eval e X.env) (fun w s₂=>wpAny (model X.prog X.w) X.A (inplaceOp op u w) (fun r s₃=>wpAny (model X.prog X.w) X.A (storeName X.env x r) (fun _=>SP X ae D .next) X.xe s₃) X.xe s₂) X.xe s:=by
  refine b5 (he ae s σ H _ I h) fun w s1 hxx=>?_
  obtain⟨y,H1,I1,r1,q1⟩:=hxx;refine b5 (ho ae s1 σ H1 v y u w _ I1 r r1 q1) fun z s2 hxx=>?_
  obtain⟨zv,H2,I2,r2,q2⟩:=hxx;exact ja I2 hN hi hx r2 (fun s3 I3=>⟨_,H2,I3,q2⟩) hf
 rcases l with⟨hk,hm⟩|⟨hk,c,hc,hcell⟩
 ·exact wpAny_loadName_local I.ok.kind hk hn hm go
 ·rcases hk with hk|hk
  ·exact wpAny_loadName_cell I.ok.kind hk hc hcell go
  ·rcases hx with k|k
   ·have:X.env.scope.names.lookup x=some .free:=hk;rw[k] at this;cases this
   ·have:X.env.scope.names.lookup x=some .free:=hk;rw[k] at this;cases this
def Gf (f:Int→Int→Int):FO:=fun x y H Q=>∃i j,x=.int i∧y=.int j∧Q (.int (f i j)) H
theorem CS:FX X .Add (Gf fun i j=>i+j):=by
 intro ae s σ H x y v u Q I r1 r2 h;obtain⟨i,j,e1,e2,q⟩:=h;subst e1;subst e2;obtain⟨t,rfl⟩:=r1;obtain⟨t',rfl⟩:=r2;exact iadd_int ⟨.int _,H,I.tok _,⟨_,rfl⟩,q⟩
theorem AL:FX X .Sub (Gf fun i j=>i-j):=by
 intro ae s σ H x y v u Q I r1 r2 h;obtain⟨i,j,e1,e2,q⟩:=h;subst e1;subst e2;obtain⟨t,rfl⟩:=r1;obtain⟨t',rfl⟩:=r2;exact isub_int ⟨.int _,H,I.tok _,⟨_,rfl⟩,q⟩
end
section
variable {X:Cx}{pos:Pos}
def A2 (c:TT)(tb:TS):TS:=fun D σ H=>∃W:Nat→St→Hp→Prop,(∃m,W m σ H)∧∀m σ H,W m σ H→
 c σ H fun b H1=>if b=true then∃N:St→Hp→Prop,(∀σ' H',N σ' H'→∃m',m'<m∧W m' σ' H')∧tb {D with nx:=N,ct:=N,bk:=D.nx} σ H1 else D.nx σ H1
theorem wz {c:Expr}{body:List Stmt}{tc:TT}{tb:TS}(hp:PassesOwn (model X.prog X.w) X.A X.env X.xe)(hc:PT X c tc)(hb:PSs X body tb):PS X (.While c body [] pos) (A2 tc tb):=by
 intro ae s σ H D I h;obtain⟨W,⟨m0,w0⟩,turn⟩:=h;refine wpAny_While (codeAny_whileLoop (fun n s'=>∃σ' H',Inv X ae σ' H' s'∧W n σ' H') ?_ m0 ⟨σ,H,I,w0⟩);rintro n s1 ⟨σ1,H1,I1,w1⟩;refine wpAny_passesOwn hp (b5 (hc ae s1 σ1 H1 _ I1 (turn n σ1 H1 w1)) fun b s2 hxx=>?_);obtain⟨H2,I2,q2⟩:=hxx;cases b with
 | true=>
  obtain⟨N,hN,q2⟩:=q2;rw[if_pos rfl];refine wpAny_passesOwn hp (b5 (hb ae s2 σ1 H2 _ I2 q2) fun f s3 q3=>?_);cases f with
  | next=>
   obtain⟨σ3,H3,I3,n3⟩:=q3;obtain⟨m',hm,w3⟩:=hN σ3 H3 n3;exact⟨m',hm,σ3,H3,I3,w3⟩
  | cont=>
   obtain⟨σ3,H3,I3,n3⟩:=q3;obtain⟨m',hm,w3⟩:=hN σ3 H3 n3;exact⟨m',hm,σ3,H3,I3,w3⟩
  | brk=>exact q3
  | ret v=>exact q3
 | false=>
  rw[if_neg Bool.false_ne_true];exact wpAny_execs_nil ⟨σ1,H2,I2,q2⟩
end
structure It where
 go:Nat→Hp→Prop
 yld:Nat→Hp→V→Hp→Prop
 stop:Nat→Hp→Prop
def iB (X:Cx)(ae:List (Addr×Obj))(H:Hp)(b:Addr):Prop:=
 H b=none∧b≠X.env.locals∧b∉X.fs∧(b∈X.ex∨X.s₀.heap.objs.size≤b)∧(∀x c,X.env.cells.lookup x=some c→c≠b)∧∀p∈X.pn++ae,p.1≠b
theorem Inv.fpOk {X:Cx}{ae:List (Addr×Obj)}{σ:St}{H H':Hp}{s:Shared}{b:Addr}(I:Inv X ae σ H s)(hb:s.heap.objs.size≤b)(hn:H' b=none):iB X ae H' b:=by
 refine⟨hn,Nat.ne_of_gt (Nat.lt_of_lt_of_le I.lt hb),I.nofs hb,.inr (Nat.le_trans I.sz hb),fun x c e z=>?_,fun p hp z=>?_⟩
 ·obtain⟨v,q⟩:=I.cell x c e;exact absurd (Nat.lt_of_lt_of_le q.lt (by rw[z];exact hb)) (Nat.lt_irrefl _)
 ·exact absurd (Nat.lt_of_lt_of_le (Heap.lt_size (I.pin p hp).1) (by rw[z];exact hb)) (Nat.lt_irrefl _)
structure pU (P:Program)(w:World)(K:W.Frag)(tg:Expr)(J:It)(fp:List Addr)(it:Addr)(tn:Nat→Heap→Prop):Prop where
 mem:it∈fp
 obj:∀i h,tn i h→∀b∈fp,∃o,h.get? b=some o∧∀v,o.data≠.cell v
 keep:∀i h h',tn i h→(∀b∈fp,∀o,h.get? b=some o→h'.get? b=some o)→tn i h'
 item:∀(X:Cx),X.prog=P→X.w=w→X.K=K→X.calm=true→∀(i:Nat) (ae:List (Addr×Obj)) (s:Shared) (σ:St) (H:Hp) (E:Value→Shared→Prop),Inv X ae σ H s→(∀b∈fp,iB X ae H b)→tn i s.heap→J.go i H→
  wpAny (model P w) X.A (pyNext (.ref it)) (fun r s1=>∃u,r=some u∧
   wpAny (model P w) X.A (letOwnedTupleGo tg (.ref it) u) (fun _ s2=>∃x H',Inv X ae σ H' s2∧aW x u∧J.yld i H x H'∧tn (i+1) s2.heap∧∀b∈fp,H' b=none) E s1) E s
 done:∀(X:Cx),X.prog=P→X.w=w→X.K=K→X.calm=true→∀(i:Nat) (ae:List (Addr×Obj)) (s:Shared) (σ:St) (H:Hp) (E:Value→Shared→Prop),Inv X ae σ H s→(∀b∈fp,iB X ae H b)→tn i s.heap→J.stop i H→
  wpAny (model P w) X.A (pyNext (.ref it)) (fun r s1=>r=none∧Inv X ae σ H s1) E s
 self:∀(A:Around) (i:Nat) (s:Shared) (Q:Value→Shared→Prop) (E:Value→Shared→Prop),tn i s.heap→Q (.ref it) s→wpAny (model P w) A (pyIter (.ref it)) Q E s
abbrev TI:=St→Hp→(It→Hp→Prop)→Prop
def Gj (X:Cx)(ae:List (Addr×Obj))(σ:St)(tg:Expr)(R:It→Hp→Prop)(itv:Value)(s2:Shared):Prop:=
 ∃(it:Addr) (fp:List Addr) (tn:Nat→Heap→Prop) (J:It) (H':Hp),itv=.ref it∧Inv X ae σ H' s2∧pU X.prog X.w X.K tg J fp it tn∧tn 0 s2.heap∧(∀b∈fp,iB X ae H' b)∧R J H'
def PI (X:Cx)(tg iter:Expr)(wi:TI):Prop:=
 ∀(ae:List (Addr×Obj)) (s:Shared) (σ:St) (H:Hp) (R:It→Hp→Prop),Inv X ae σ H s→wi σ H R→
  wpAny (model X.prog X.w) X.A (eval iter X.env) (fun v s1=>wpAny (model X.prog X.w) X.A (pyIter v) (Gj X ae σ tg R) X.xe s1) X.xe s
theorem nO {M:Model}{A:Around}{E:Value→Shared→Prop}{s:Shared}{tg:Expr}{it:Addr}{u:Value}{o:Obj}{n:String}{vs:Array Value}{Q:Unit→Shared→Prop}(ho:s.heap.get? it=some o)(hc:o.cls=.type n)(hd:o.data=.fields vs)
  (hn:["enumerate","zip","dict_itemiterator","dict_reverseitemiterator","odict_iterator","itertools.zip_longest","itertools.pairwise"].contains n=false) (hQ:Q () s):wpAny M A (letOwnedTupleGo tg (.ref it) u) Q E s:=by
 unfold letOwnedTupleGo;cases tg <;> first
  | exact wpAny_pure hQ
  | (cases u <;> first
    | exact wpAny_pure hQ
    | (refine wpAny_bind (wpAny_load ho ?_)
       rw[hc,hd];show wpAny M A (if(["enumerate","zip","dict_itemiterator","dict_reverseitemiterator","odict_iterator","itertools.zip_longest","itertools.pairwise"].contains n&&vs[0]?==some (rawInt _))=true then _ else _) Q E s;rw[if_neg (by intro h;rw[hn,Bool.false_and] at h;cases h)];exact wpAny_pure hQ))
def FQ (K:W.Frag)(a:Addr):It:=
 ⟨fun i H=>∃xs x,jn K H a xs∧xs[i]?=some x,fun i H x H'=>H'=H∧∀xs,jn K H a xs→xs[i]?=some x,fun i H=>∃xs,jn K H a xs∧xs.length≤i⟩
def GX (K:W.Frag)(a:Addr):It:=
 ⟨fun i H=>∃xs x,nC K H a xs∧xs[i]?=some x,fun i H x H'=>H'=H∧∀xs,nC K H a xs→xs[i]?=some x,fun i H=>∃xs,nC K H a xs∧xs.length≤i⟩
def EN (lo:Int)(n:Nat):It:=⟨fun i _=>i<n,fun i H x H'=>H'=H∧x=.int (lo+i),fun i _=>n≤i⟩
theorem tU {P:Program}{w:World}{K:W.Frag}{tg:Expr}(a it:Addr):pU P w K tg (FQ K a) [it] it (fun i h=>h.IsListIter it a i) where
 mem:=by simp
 obj:=fun i h st b hb=>by
  have e:b=it:=by simpa using hb
  subst e;obtain⟨o,e,c,d⟩:=st;exact⟨o,e,fun v z=>by rw[d] at z;cases z⟩
 keep:=fun i h h' st k=>st.at fun o e=>k it (by simp) o e
 item:=by
  intro X hP hw hK hc i ae s σ H E I hf st hg;subst hP hw hK;obtain⟨xs,x,hq,hx⟩:=hg;obtain⟨its,rv,p,hz⟩:=I.list hq;obtain⟨u,hu,ru⟩:=rv.get hx;obtain⟨f0,f1,f2,f3,f4,f5⟩:=hf it (by simp);refine wpAny_pyNext_list_item st p.isList (x:=u) (by simpa using hu) fun h' st' sb=>?_
  have I1:Inv X ae σ H {s with heap:=h'}:=I.turned (t':=s.toks) (fun b o hb e=>(sb.2 b hb).trans e) f0 f1 f3 f4 f5;obtain⟨o,e,c,d⟩:=id st';exact⟨u,rfl,nO (s:={s with heap:=h'}) e c d (by decide) ⟨x,H,I1,ru,⟨rfl,fun ys hy=>by rw[I.list_inj hy hq];exact hx⟩,st',fun b hb=>(hf b hb).1⟩⟩
 done:=by
  intro X hP hw hK hc i ae s σ H E I hf st hg;subst hP hw hK;obtain⟨xs,hq,hx⟩:=hg;obtain⟨its,rv,p,hz⟩:=I.list hq;obtain⟨f0,f1,f2,f3,f4,f5⟩:=hf it (by simp);have hl:=rv.length;exact wpAny_pyNext_list_end (I.ok.hd hc) st p.isList (by simp;omega) fun h' eb=>⟨rfl,I.turned (t':=s.toks) (fun b o hb e=>eb b o hb e) f0 f1 f3 f4 f5⟩
 self:=fun _ _ _ _ _ st h=>wpAny_pyIter_listiter st h
theorem qz {P:Program}{w:World}{K:W.Frag}{tg:Expr}(a it:Addr):pU P w K tg (GX K a) [it] it (fun i h=>h.IsTupleIter it a i) where
 mem:=by simp
 obj:=fun i h st b hb=>by
  have e:b=it:=by simpa using hb
  subst e;obtain⟨o,e,c,d⟩:=st;exact⟨o,e,fun v z=>by rw[d] at z;cases z⟩
 keep:=fun i h h' st k=>st.at fun o e=>k it (by simp) o e
 item:=by
  intro X hP hw hK hc i ae s σ H E I hf st hg;subst hP hw hK;obtain⟨xs,x,hq,hx⟩:=hg;obtain⟨its,rv,p,hz⟩:=I.tuple hq;obtain⟨u,hu,ru⟩:=rv.get hx;obtain⟨f0,f1,f2,f3,f4,f5⟩:=hf it (by simp);refine wpAny_pyNext_tuple_item st (show s.heap.IsTuple a its.toArray from p) (x:=u) (by simpa using hu) fun h' st' sb=>?_
  have I1:Inv X ae σ H {s with heap:=h'}:=I.turned (t':=s.toks) (fun b o hb e=>(sb.2 b hb).trans e) f0 f1 f3 f4 f5;obtain⟨o,e,c,d⟩:=id st';exact⟨u,rfl,nO (s:={s with heap:=h'}) e c d (by decide) ⟨x,H,I1,ru,⟨rfl,fun ys hy=>by rw[I.tuple_inj hy hq];exact hx⟩,st',fun b hb=>(hf b hb).1⟩⟩
 done:=by
  intro X hP hw hK hc i ae s σ H E I hf st hg;subst hP hw hK;obtain⟨xs,hq,hx⟩:=hg;obtain⟨its,rv,p,hz⟩:=I.tuple hq;obtain⟨f0,f1,f2,f3,f4,f5⟩:=hf it (by simp);have hl:=rv.length;exact wpAny_pyNext_tuple_end (I.ok.hd hc) st (show s.heap.IsTuple a its.toArray from p) (by simp;omega) fun h' eb=>⟨rfl,I.turned (t':=s.toks) (fun b o hb e=>eb b o hb e) f0 f1 f3 f4 f5⟩
 self:=fun _ _ _ _ _ st h=>wpAny_pyIter_tupleiter st h
theorem pV {P:Program}{w:World}{K:W.Frag}{tg:Expr}(it:Addr)(lo:Int)(n:Nat):pU P w K tg (EN lo n) [it] it (fun i h=>IsRangeIter h it (lo+(i:Nat)*1) ((n:Int)-(i:Nat)) 1) where
 mem:=by simp
 obj:=fun i h st b hb=>by
  have e:b=it:=by simpa using hb
  subst e;exact⟨_,st,fun v z=>by
   have z':Data.fields _=Data.cell v:=z;cases z'⟩
 keep:=fun i h h' st k=>k it (by simp) _ st
 item:=by
  intro X hP hw hK hc i ae s σ H E I hf st hg;subst hP hw hK;obtain⟨f0,f1,f2,f3,f4,f5⟩:=hf it (by simp);have W:=Walks.range (prog:=X.prog) (w:=X.w) (I.ok.hd hc) it lo 1 n;refine W.item i s _ _ hg st fun v h' tk hv st' kk=>?_
  obtain⟨t,rfl⟩:=hv;have I1:Inv X ae σ H {s with heap:=h',toks:=tk}:=I.turned (fun b o hb e=>kk b o (by simpa using hb) e) f0 f1 f3 f4 f5;refine⟨_,rfl,nO (s:={s with heap:=h',toks:=tk}) (n:="range_iterator") st' rfl rfl (by decide) ⟨.int (lo+i),H,I1,⟨t,?_⟩,⟨rfl,rfl⟩,st',fun b hb=>(hf b hb).1⟩⟩;rw[Int.mul_one]
 done:=by
  intro X hP hw hK hc i ae s σ H E I hf st hg;subst hP hw hK;obtain⟨f0,f1,f2,f3,f4,f5⟩:=hf it (by simp);exact wpAny_pyNext_range_end (I.ok.hd hc) st (by have:n≤i:=hg;omega) fun h' eb=>⟨rfl,I.turned (t':=s.toks) (fun b o hb e=>eb b o hb e) f0 f1 f3 f4 f5⟩
 self:=fun _ _ _ _ _ st h=>wpAny_pyIter_rangeiter st h
section
variable {X:Cx}{tg:Expr}
theorem nJ {ae:List (Addr×Obj)}{σ:St}{H:Hp}{s:Shared}{R:It→Hp→Prop}{E:Value→Shared→Prop}{lo hi:Int}{t u v:Tok}{tk:Nat}(I:Inv X ae σ H s)(h1:-(2 ^ 62)≤lo)(h2:lo<2 ^ 62)(h3:-(2 ^ 62)≤hi)(h4:hi<2 ^ 62)
  (q:R (EN lo (hi-lo).toNat) H):wpAny (model X.prog X.w) X.A (pyIter (.ref s.heap.objs.size)) (Gj X ae σ tg R) E {s with heap:=s.heap.push {cls:=.type "range",data:=.fields #[.int lo t,.int hi u,.int 1 v]},toks:=tk}:=by
 refine wpAny_pyIter_range (IsRange.new ..) (small_one h1 h2 h3 h4) ?_;have I1:Inv X ae σ H {s with heap:=s.heap.push {cls:=.type "range",data:=.fields #[.int lo t,.int hi u,.int 1 v]},toks:=tk}:=I.kept fun b o e=>Heap.get?_push_of_some _ e
 refine⟨(s.heap.push {cls:=.type "range",data:=.fields #[.int lo t,.int hi u,.int 1 v]}).objs.size,[(s.heap.push {cls:=.type "range",data:=.fields #[.int lo t,.int hi u,.int 1 v]}).objs.size],_,_,H,rfl,
  I1.kept (t':=tk) fun b o e=>Heap.get?_push_of_some _ e,pV _ lo (hi-lo).toNat,?_,fun b hb=>?_,q⟩
 ·have e1:lo+((0:Nat):Int)*1=lo:=by simp
  have e2:(((hi-lo).toNat:Nat):Int)-((0:Nat):Int)=Builtin.Range.rangeSize lo hi 1:=by rw[rangeSize_one];split <;> omega
  show IsRangeIter _ _ (lo+((0:Nat):Int)*1) ((((hi-lo).toNat:Nat):Int)-((0:Nat):Int)) 1;rw[e1,e2];exact Heap.get?_push_size _ rfl
 ·have e:b=(s.heap.push {cls:=.type "range",data:=.fields #[.int lo t,.int hi u,.int 1 v]}).objs.size:=by simpa using hb
  subst e;exact I1.fpOk (Nat.le_refl _) (I1.hok.fresh (Nat.le_refl _))
def DJ (ta:TA):TI:=fun σ H R=>ta σ H fun vs H1=>∃j:Int,vs=[.int j]∧-(2 ^ 62)≤j∧j<2 ^ 62∧R (EN 0 j.toNat) H1
def Ex (ta:TA):TI:=fun σ H R=>ta σ H fun vs H1=>∃i j:Int,vs=[.int i,.int j]∧(-(2 ^ 62)≤i∧i<2 ^ 62∧-(2 ^ 62)≤j∧j<2 ^ 62)∧R (EN i (j-i).toNat) H1
theorem uA {a:Expr}{ta:TA}{p pos:Pos}(hg:Gl X "range")(hm:X.mg "range"=none)(ha:PA X [a] ta)(hs:starEach [a] X.env=[(false,eval a X.env)]:=by rfl):PI X tg (.Call (.Name "range" p) [a] [] pos) (DJ ta):=by
 intro ae s σ H R I h;refine Call_ (gQ I hg hm boot_range (PyProof.Rows.callWith_type1 (b5 (ha pos ae s σ H _ I h) fun us s1 hxx=>?_) hs rfl));obtain⟨vs,H1,I1,r1,q1⟩:=hxx;obtain⟨j,e,q1,q2,q⟩:=q1;subst e;cases r1 with
 | cons r rr=>
  cases rr;obtain⟨t,rfl⟩:=r;exact call_range_1 (nJ I1 (by omega) (by omega) q1 q2 (by simpa using q))
theorem tw {a b:Expr}{ta:TA}{p pos:Pos}(hg:Gl X "range")(hm:X.mg "range"=none)(ha:PA X [a,b] ta)(hs:starEach [a,b] X.env=[(false,eval a X.env),(false,eval b X.env)]:=by rfl)(hs2:starEach [b] X.env=[(false,eval b X.env)]:=by rfl) :
  PI X tg (.Call (.Name "range" p) [a,b] [] pos) (Ex ta):=by
 intro ae s σ H R I h;refine Call_ (gQ I hg hm boot_range (PyProof.Rows.callWith_type1 (b5 (ha pos ae s σ H _ I h) fun us s1 hxx=>?_) (by rw[hs,hs2]) (by rw[hs2];rfl)));obtain⟨vs,H1,I1,r1,q1⟩:=hxx;obtain⟨i,j,e,⟨q1,q2,q3,q4⟩,q⟩:=q1;subst e;cases r1 with
 | cons r rr=>
  cases rr with
  | cons r' rr=>
   cases rr;obtain⟨t,rfl⟩:=r;obtain⟨t',rfl⟩:=r';exact call_range_2 (nJ I1 q1 q2 q3 q4 q)
def G8 (wi:TI)(g:TG)(tb:TS):TS:=fun D σ H=>wi σ H fun J H1=>∃W:Nat→Nat→St→Hp→Prop,(∃m,W 0 m σ H1)∧∀i m σ H,W i m σ H→
 (J.stop i H∧D.nx σ H)∨(J.go i H∧∃N:St→Hp→Prop,(∀σ' H',N σ' H'→∃m',m'<m∧W (i+1) m' σ' H')∧∀x H',J.yld i H x H'→g x σ H' fun σ2 H2=>tb {D with nx:=N,ct:=N,bk:=D.nx} σ2 H2)
def kQ (fp:List Addr)(h:Heap):List (Addr×Obj):=fp.filterMap fun b=>(h.get? b).map fun o=>(b,o)
theorem f6 {fp:List Addr}{h:Heap}{b:Addr}{o:Obj}(hb:b∈fp)(e:h.get? b=some o):(b,o)∈kQ fp h:=mem_filterMap.mpr ⟨b,hb,by rw[e];rfl⟩
theorem tJ {fp:List Addr}{h:Heap}{p:Addr×Obj}(hp:p∈kQ fp h):p.1∈fp∧h.get? p.1=some p.2:=by
 obtain⟨b,hb,e⟩:=mem_filterMap.mp hp;cases q:h.get? b with
 | none=>rw[q] at e;cases e
 | some o=>
  rw[q] at e;have e':(b,o)=p:=Option.some.inj e;subst e';exact⟨hb,q⟩
theorem Inv.pinned {ae:List (Addr×Obj)}{σ:St}{H:Hp}{s:Shared}{fp:List Addr}(I:Inv X ae σ H s)(hf:∀b∈fp,iB X ae H b)(ho:∀b∈fp,∃o,s.heap.get? b=some o∧∀v,o.data≠.cell v):Inv X (ae++kQ fp s.heap) σ H s:=
 I.pins_of fun p hp=>(mem_append.mp hp).elim (fun z=>I.pin p (mem_append_right _ z)) fun z=>by
  obtain⟨hb,e⟩:=tJ z;obtain⟨f0,f1,f2,_⟩:=hf p.1 hb;obtain⟨o,e',d⟩:=ho p.1 hb;rw[e] at e';cases e';exact⟨e,f0,f1,f2,d⟩
theorem Inv.unpinned {ae pl:List (Addr×Obj)}{σ:St}{H:Hp}{s:Shared}(I:Inv X (ae++pl) σ H s):Inv X ae σ H s:=I.pins_of fun p hp=>I.pin p (mem_append_right _ (mem_append_left _ hp))
theorem BQ {iter:Expr}{body:List Stmt}{wi:TI}{g:TG}{tb:TS}{pos:Pos}(hp:PassesOwn (model X.prog X.w) X.A X.env X.xe)(hc:X.calm=true)(hi:PI X tg iter wi)(hg:PG X tg g)(hb:PSs X body tb)
  (hs:∀x,foldedSetIterable iter X.env x=pure x:=by intro _;rfl):PS X (.For tg iter body [] pos) (G8 wi g tb):=by
 intro ae s σ H D I h;refine wpAny_For (b5 (hi ae s σ H _ I h) fun v s1 h1=>b5 h1 fun itv s2 h2=>?_) hs;obtain⟨it,fp,tn,J,H2,e,I2,T,st2,f2,W,⟨m0,w0⟩,turn⟩:=h2;subst e;have stat:∀{H':Hp},(∀b∈fp,H' b=none)→∀b∈fp,iB X ae H' b:=fun hn b hb=>⟨hn b hb,(f2 b hb).2⟩
 refine codeAny_forLoop_any (fun n s'=>∃i σ' H',Inv X ae σ' H' s'∧tn i s'.heap∧(∀b∈fp,H' b=none)∧W i n σ' H') ?_ m0 ⟨0,σ,H2,I2,st2,fun b hb=>(f2 b hb).1,w0⟩;rintro n s3 ⟨i,σ3,H3,I3,st3,fr3,w3⟩;rcases turn i n σ3 H3 w3 with⟨stop,qn⟩|⟨go,N,hN,step⟩
 ·refine wpAny_passesOwn hp (b5 (T.done X rfl rfl rfl hc i ae s3 σ3 H3 X.xe I3 (stat fr3) st3 stop) fun r s4 hxx=>?_);obtain⟨hr,I4⟩:=hxx;subst hr;exact wpAny_execs_nil ⟨σ3,H3,I4,qn⟩
 ·refine wpAny_passesOwn hp (b5 (T.item X rfl rfl rfl hc i ae s3 σ3 H3 X.xe I3 (stat fr3) st3 go) fun r s4 hxx=>?_);obtain⟨u,hr,h4⟩:=hxx;subst hr;refine wpAny_passesOwn hp (b5 h4 fun _ s5 hxx=>?_);obtain⟨x,H5,I5,r5,y5,st5,fr5⟩:=hxx;have I5':=I5.pinned (stat fr5) (T.obj _ _ st5);refine wpAny_passesOwn hp (b5 (hg _ s5 σ3 H5 x u _ I5' r5 (step x H5 y5)) fun _ s6 hxx=>?_);obtain⟨σ6,H6,I6,q6⟩:=hxx;refine wpAny_passesOwn hp (b5 (hb _ s6 σ6 H6 _ I6 q6) fun f s7 q7=>?_);have again:∀{σ7:St} {H7:Hp},Inv X (ae++kQ fp s5.heap) σ7 H7 s7→N σ7 H7→∃m,m<n∧∃i σ' H',Inv X ae σ' H' s7∧tn i s7.heap∧(∀b∈fp,H' b=none)∧W i m σ' H':=fun {σ7 H7} I7 n7=>by
   obtain⟨m',hm,w7⟩:=hN σ7 H7 n7;refine⟨m',hm,i+1,σ7,H7,I7.unpinned,T.keep _ _ _ st5 fun b hb o e=>(I7.pin (b,o) (mem_append_right _ (mem_append_right _ (f6 hb e)))).1,fun b hb=>?_,w7⟩;obtain⟨o,e,d⟩:=T.obj _ _ st5 b hb;exact(I7.pin (b,o) (mem_append_right _ (mem_append_right _ (f6 hb e)))).2.1
  cases f with
  | next=>obtain⟨σ7,H7,I7,n7⟩:=q7;exact again I7 n7
  | cont=>obtain⟨σ7,H7,I7,n7⟩:=q7;exact again I7 n7
  | brk=>obtain⟨σ7,H7,I7,q7⟩:=q7;exact⟨σ7,H7,I7.unpinned,q7⟩
  | ret v=>obtain⟨x7,σ7,H7,I7,r7,q7⟩:=q7;exact⟨x7,σ7,H7,I7.unpinned,r7,q7⟩
end
abbrev R2:=V→V→Hp→VK→Prop
def eL (X:Cx)(f:Value→Value→Sem Value)(r:R2):Prop:=
 ∀(ae:List (Addr×Obj)) (s:Shared) (σ:St) (H:Hp) (x y:V) (v u:Value) (Q:VK),Inv X ae σ H s→aW x v→aW y u→r x y H Q→
  wpAny (model X.prog X.w) X.A (f v u) (EP X ae σ Q) X.xe s
def Hr (X:Cx)(f:Value→Sem Value)(r:V→Hp→VK→Prop):Prop:=
 ∀(ae:List (Addr×Obj)) (s:Shared) (σ:St) (H:Hp) (x:V) (v:Value) (Q:VK),Inv X ae σ H s→aW x v→r x H Q→
  wpAny (model X.prog X.w) X.A (f v) (EP X ae σ Q) X.xe s
def cA (X:Cx)(f:Value)(r:List V→Hp→VK→Prop):Prop:=
 ∀(ae:List (Addr×Obj)) (s:Shared) (σ:St) (H:Hp) (xs:List V) (us:List Value) (Q:VK),Inv X ae σ H s→aP xs us→r xs H Q→
  wpAny (model X.prog X.w) X.A (call f us) (EP X ae σ Q) X.xe s
def Hj (X:Cx)(r:V→Hp→(Bool→Hp→Prop)→Prop):Prop:=
 ∀(ae:List (Addr×Obj)) (s:Shared) (σ:St) (H:Hp) (x:V) (v:Value) (Q:Bool→Hp→Prop),Inv X ae σ H s→aW x v→r x H Q→
  wpAny (model X.prog X.w) X.A (truthy v) (TP X ae σ Q) X.xe s
def DQ (r:R2)(ta tb:TE):TE:=fun σ H Q=>ta σ H fun x H1=>tb σ H1 fun y H2=>r x y H2 Q
def HU (r:V→Hp→VK→Prop)(ta:TE):TE:=fun σ H Q=>ta σ H fun x H1=>r x H1 Q
def rI (C:Int→Int→Prop)(g:Int→Int→V):R2:=fun x y H Q=>∃i j,x=.int i∧y=.int j∧C i j∧Q (g i j) H
def zQ (g:Int→Int→V):R2:=fun x y H Q=>∃i j,x=.int i∧y=.int j∧Q (g i j) H
def rU (g:Int→V):V→Hp→VK→Prop:=fun x H Q=>∃i,x=.int i∧Q (g i) H
section
variable {X:Cx}{a b c:Expr}{ta tb tc:TE}{pos:Pos}
theorem CH (ha:PE X a ta)(hb:PE X b tb){ae:List (Addr×Obj)}{s:Shared}{σ:St}{H:Hp}{R:V→V→Hp→Prop}(I:Inv X ae σ H s)
  (h:ta σ H fun x H1=>tb σ H1 fun y H2=>R x y H2) {Q:Value→Shared→Prop} {f:Value→Value→Sem Value}
  (hf:∀v u s2 x y H2,Inv X ae σ H2 s2→aW x v→aW y u→R x y H2→wpAny (model X.prog X.w) X.A (f v u) Q X.xe s2) :
  wpAny (model X.prog X.w) X.A (eval a X.env) (fun v s₁=>wpAny (model X.prog X.w) X.A (eval b X.env) (fun u s₂=>wpAny (model X.prog X.w) X.A (f v u) Q X.xe s₂) X.xe s₁) X.xe s:=by
 refine b5 (ha ae s σ H _ I h) fun v s1 hxx=>?_
 obtain⟨x,H1,I1,r1,q1⟩:=hxx;refine b5 (hb ae s1 σ H1 _ I1 q1) fun u s2 hxx=>?_
 obtain⟨y,H2,I2,r2,q2⟩:=hxx;exact hf v u s2 x y H2 I2 r1 r2 q2
theorem Dx {op:Operator}{r:R2}(ho:eL X (binaryOp op) r)(ha:PE X a ta)(hb:PE X b tb):PE X (.BinOp a op b pos) (DQ r ta tb):=by
 intro ae s σ H Q I h;exact wpAny_BinOp (CH ha hb I h fun v u s2 x y H2 I2 rx ry q=>ho ae s2 σ H2 x y v u Q I2 rx ry q)
theorem Fj {op:UnaryOp}{r:V→Hp→VK→Prop}(ho:Hr X (unaryOp op) r)(ha:PE X a ta):PE X (.UnaryOp op a pos) (HU r ta):=by
 intro ae s σ H Q I h;exact UnaryOp_ (b5 (ha ae s σ H _ I h) fun v s1 ⟨x,H1,I1,r1,q1⟩=>ho ae s1 σ H1 x v Q I1 r1 q1)
theorem GY {f:Value→Value→Sem Value}{C:Int→Int→Prop}{g:Int→Int→Int}
  (rule:∀(i j:Int) (t u:Tok) (s:Shared) (Q:Value→Shared→Prop) (E:Value→Shared→Prop),C i j→Q (.int (g i j) s.toks) {s with toks:=s.toks+1}→wpAny (model X.prog X.w) X.A (f (.int i t) (.int j u)) Q E s) :
  eL X f (rI C fun i j=>.int (g i j)):=by
 intro ae s σ H x y v u Q I rx ry h;obtain⟨i,j,rfl,rfl,hc,q⟩:=h;obtain⟨t,rfl⟩:=rx;obtain⟨t',rfl⟩:=ry;exact rule i j t t' s _ _ hc ⟨.int (g i j),H,I.tok _,⟨_,rfl⟩,q⟩
theorem EJ {f:Value→Value→Sem Value}{g:Int→Int→Int}
  (rule:∀(i j:Int) (t u:Tok) (s:Shared) (Q:Value→Shared→Prop) (E:Value→Shared→Prop),Q (.int (g i j) s.toks) {s with toks:=s.toks+1}→wpAny (model X.prog X.w) X.A (f (.int i t) (.int j u)) Q E s) :
  eL X f (zQ fun i j=>.int (g i j)):=by
 intro ae s σ H x y v u Q I rx ry h;obtain⟨i,j,rfl,rfl,q⟩:=h;obtain⟨t,rfl⟩:=rx;obtain⟨t',rfl⟩:=ry;exact rule i j t t' s _ _ ⟨.int (g i j),H,I.tok _,⟨_,rfl⟩,q⟩
theorem zN {f:Value→Value→Sem Value}{g:Int→Int→Bool}
  (rule:∀(i j:Int) (t u:Tok) (s:Shared) (Q:Value→Shared→Prop) (E:Value→Shared→Prop),Q (.bool (g i j)) s→wpAny (model X.prog X.w) X.A (f (.int i t) (.int j u)) Q E s) :
  eL X f (zQ fun i j=>.bl (g i j)):=by
 intro ae s σ H x y v u Q I rx ry h;obtain⟨i,j,rfl,rfl,q⟩:=h;obtain⟨t,rfl⟩:=rx;obtain⟨t',rfl⟩:=ry;exact rule i j t t' s _ _ ⟨.bl (g i j),H,I,rfl,q⟩
def Gw (i j:Int):Prop:=0≤j∧j≤1000000∧i.natAbs<2 ^ 64
def Cc (i j:Int):Prop:=(-(2 ^ 64)<i∧i<2 ^ 64)∨(-(2 ^ 64)<j∧j<2 ^ 64)
theorem Cc.ok {i j:Int}(h:Cc i j):IntMulOk i j:=by
 rcases h with⟨h1,h2⟩|⟨h1,h2⟩
 ·exact .of_left (intBits_le_64 h1 h2)
 ·exact .of_right (intBits_le_64 h1 h2)
theorem BN:eL X (binaryOp .Add) (zQ fun i j=>.int (i+j)):=EJ fun _ _ _ _ _ _ _ q=>add_int q
theorem Ax:eL X (binaryOp .Sub) (zQ fun i j=>.int (i-j)):=EJ fun _ _ _ _ _ _ _ q=>sub_int q
theorem Ak:eL X (binaryOp .Mult) (rI Cc fun i j=>.int (i*j)):=GY fun _ _ _ _ _ _ _ hc q=>mul_int q hc.ok
theorem AH:eL X (binaryOp .Mod) (rI (fun _ j=>0<j) fun i j=>.int (i % j)):=GY fun i j _ _ _ _ _ hc q=>by
 have h1:(0:Int)<j:=hc;exact mod_int' (by omega) (by rw[Int.fmod_eq_emod_of_nonneg i (by omega)];exact q)
theorem CA:eL X (binaryOp .Pow) (rI Gw fun i j=>.int (i ^ j.toNat)):=GY fun _ _ _ _ _ _ _ hc q=>pow_int_small hc.1 hc.2.1 hc.2.2 q
theorem HE {f:Value→Sem Value}{g:Int→Int}
  (rule:∀(i:Int) (t:Tok) (s:Shared) (Q:Value→Shared→Prop) (E:Value→Shared→Prop),Q (.int (g i) s.toks) {s with toks:=s.toks+1}→wpAny (model X.prog X.w) X.A (f (.int i t)) Q E s) :
  Hr X f (rU fun i=>.int (g i)):=by
 intro ae s σ H x v Q I rx h;obtain⟨i,rfl,q⟩:=h;obtain⟨t,rfl⟩:=rx;exact rule i t s _ _ ⟨.int (g i),H,I.tok _,⟨_,rfl⟩,q⟩
theorem Bh:Hr X (unaryOp .USub) (rU fun i=>.int (-i)):=HE fun _ _ _ _ _ q=>neg_int q
end
section
variable {X:Cx}{a b c:Expr}{ta tb tc:TE}{pos:Pos}
theorem A7 {ae:List (Addr×Obj)}{σ:St}{H:Hp}{s:Shared}{Q:VK}{k k':Bool}(I:Inv X ae σ H s)(q:Q (.bl k) H)(e:k=k'):EP X ae σ Q (.bool k') s:=by
 subst e;exact⟨.bl k,H,I,rfl,q⟩
theorem Fk:eL X (compareOp .Lt) (zQ fun i j=>.bl (decide (i<j))):=zN fun _ _ _ _ _ _ _ q=>lt_int q
theorem Dz:eL X (compareOp .LtE) (zQ fun i j=>.bl (decide (i≤j))):=zN fun _ _ _ _ _ _ _ q=>le_int q
theorem Er:eL X (compareOp .Gt) (zQ fun i j=>.bl (decide (j<i))):=zN fun _ _ _ _ _ _ _ q=>gt_int q
theorem EH:eL X (compareOp .GtE) (zQ fun i j=>.bl (decide (j≤i))):=zN fun _ _ _ _ _ _ _ q=>ge_int q
theorem sR:eL X (compareOp .In) (fun x y H Q=>∃i j,x=.str i∧y=.str j∧Q (.bl (!(Builtin.Str.occurrences j i 0 j.length 1).isEmpty)) H):=by
 intro ae s σ H x y v u Q I rx ry h;obtain⟨i,j,rfl,rfl,q⟩:=h;obtain⟨t,rfl⟩:=rx;obtain⟨t',rfl⟩:=ry;exact in_str (A7 I q rfl)
def FN:HO→Bool
 | .lst _=>true
 | .ins _ _ _=>true
 | _=>false
theorem Dg {ae:List (Addr×Obj)}{s:Shared}{σ:St}{H:Hp}{a:Addr}{o:HO}(I:Inv X ae σ H s)(h:H a=some o)(p:FN o=true):∃ob,s.heap.get? a=some ob∧ob.cls≠.type "tuple":=by
 cases o with
 | lst xs=>
  obtain⟨_,its,n,_,e⟩:xs.length≤sizeLine∧∃(its:List Value) (n:Nat),aP xs its∧s.heap.get? a=some {cls:=.type "list",data:=.seq its.toArray n}:=I.hok a _ h;exact⟨_,e,(by show Value.type "list"≠.type "tuple";decide +kernel)⟩
 | ins C dx fs=>
  have x:=I.hok a _ h;obtain⟨_,_,_,e,_⟩:=x;exact⟨_,e,(by show Value.ref C≠.type "tuple";exact fun z=>by cases z)⟩
 | _=>exact absurd (show false=true from p) Bool.false_ne_true
theorem CM (b:Expr){op:CmpOp}(h:op≠.In:=by decide)(h2:op≠.NotIn:=by decide):behindInMarks op b=false:=by
 have e1:(op==CmpOp.In)=false:=by cases op <;> first|rfl|exact absurd rfl h
 have e2:(op==CmpOp.NotIn)=false:=by cases op <;> first|rfl|exact absurd rfl h2
 cases b <;> simp[behindInMarks,e1,e2]
theorem zb {op:CmpOp}{r:R2}(ho:eL X (compareOp op) r)(ha:PE X a ta)(hb:PE X b tb)(hm:behindInMarks op b=false):PE X (.Compare a [op] [b] pos) (DQ r ta tb):=by
 intro ae s σ H Q I h;exact wpAny_Compare1 (CH ha hb I h fun v u s2 x y H2 I2 rx ry q=>ho ae s2 σ H2 x y v u Q I2 rx ry q) hm
def Ey (t:TE):TT:=fun σ H Q=>t σ H fun x H'=>∃k,x=.bl k∧Q k H'
theorem yk {op:CmpOp}{r:R2}(ho:eL X (compareOp op) r)(ha:PE X a ta)(hb:PE X b tb)(hm:behindInMarks op b=false):PT X (.Compare a [op] [b] pos) (Ey (DQ r ta tb)):=by
 intro ae s σ H Q I h;refine wpAny_isTrue_Compare1 (b5 (ha ae s σ H _ I h) fun v s1 ⟨x,H1,I1,r1,q1⟩=>b5 (hb ae s1 σ H1 _ I1 q1) fun u s2 ⟨y,H2,I2,r2,q2⟩=>
  b5 (ho ae s2 σ H2 x y v u _ I2 r1 r2 q2) fun c s3 hxx=>?_) hm
 obtain⟨z,H3,I3,r3,k,e,q3⟩:=hxx;subst e;cases r3;exact wpAny_truthy_bool ⟨H3,I3,q3⟩
def vd (r r':R2)(ta tb tc:TE):TE:=fun σ H Q=>ta σ H fun x H1=>tb σ H1 fun y H2=>r x y H2 fun z H3=>∃k,z=.bl k∧
 (if k=true then tc σ H3 fun w' H4=>r' y w' H4 Q else Q (.bl false) H3)
theorem v5 {op op':CmpOp}{r r':R2}(ho:eL X (compareOp op) r)(ho':eL X (compareOp op') r')(ha:PE X a ta)(hb:PE X b tb)(hc:PE X c tc)
  (hm:lastMarks [op,op'] [b,c]=false:=by with_unfolding_all rfl):PE X (.Compare a [op,op'] [b,c] pos) (vd r r' ta tb tc):=by
 intro ae s σ H Q I h;refine Compare_chain (b5 (ha ae s σ H _ I h) fun v s1 ⟨x,H1,I1,r1,q1⟩=>chain_link (b5 (hb ae s1 σ H1 _ I1 q1) fun u s2 ⟨y,H2,I2,r2,q2⟩=>
  b5 (ho ae s2 σ H2 x y v u _ I2 r1 r2 q2) fun d s3 hxx=>?_)) hm
 obtain⟨z,H3,I3,r3,k,e,q3⟩:=hxx;subst e;cases r3;refine wpAny_truthy_bool ?_;cases k with
 | false=>exact ite_ff ⟨.bl false,H3,I3,rfl,q3⟩
 | true=>exact ite_tt (chain_last (b5 (hc ae s3 σ H3 _ I3 q3) fun w' s4 ⟨z',H4,I4,r4,q4⟩=>ho' ae s4 σ H4 y z' u w' Q I4 r2 r4 q4))
def Fm (K:W.Frag)(x:V)(H:Hp)(k:Bool):Prop:=
 match x with
 | .non=>k=false
 | .bl b=>k=b
 | .int i=>k=(i != 0)
 | .str y=>y.length≤sizeLine∧k=((y.length:Int) != 0)
 | .byt y=>y.size≤sizeLine∧k=((y.size:Int) != 0)
 | .ref p=>(∃xs,jn K H p xs∧k=!xs.isEmpty)∨(∃xs,nC K H p xs∧k=!xs.isEmpty)∨∃kvs,H p=some (.dK kvs)∧k=!kvs.isEmpty
 | _=>False
theorem qy {κ:Type}{kvs:List (κ×V)}{vs:List (κ×Value)}(r:KV kvs vs):(!vs.isEmpty)=!kvs.isEmpty:=by
 cases r <;> rfl
theorem ka {xs:List V}{its:List Value}(r:aP xs its):(!its.toArray.isEmpty)=!xs.isEmpty:=by
 cases r <;> simp
theorem io:(sizeLine:Nat)<2 ^ 63:=by rw[sizeLine_eq];decide
theorem Bj:Hj X (fun x H Q=>∃k,Fm X.K x H k∧Q k H):=by
 intro ae s σ H x v Q I rx h;obtain⟨k,e,q⟩:=h;have hl:=io;have hs:sizeLine=16777216:=sizeLine_eq;cases x with
 | non=>
  cases rx;have e':k=false:=e;subst e';exact truthy_none ⟨H,I,q⟩
 | bl b=>
  cases rx;have e':k=b:=e;subst e';exact wpAny_truthy_bool ⟨H,I,q⟩
 | int i=>
  obtain⟨t,rfl⟩:=rx;have e':k=(i != 0):=e;subst e';exact PySem.P.truthy_int ⟨H,I,q⟩
 | str y=>
  obtain⟨t,rfl⟩:=rx;obtain⟨hy,e'⟩:y.length≤sizeLine∧k=((y.length:Int) != 0):=e;subst e';exact PySem.P.truthy_str (by omega) ⟨H,I.tok _,q⟩
 | byt y=>
  obtain⟨t,rfl⟩:=rx;obtain⟨hy,e'⟩:y.size≤sizeLine∧k=((y.size:Int) != 0):=e;subst e';exact W.truthy_bytes (by omega) ⟨H,I.tok _,q⟩
 | ref p=>
  cases rx;have e':(∃xs,jn X.K H p xs∧k=!xs.isEmpty)∨(∃xs,nC X.K H p xs∧k=!xs.isEmpty)∨∃kvs,H p=some (.dK kvs)∧k=!kvs.isEmpty:=e;rcases e' with⟨xs,hx,e'⟩|⟨xs,hx,e'⟩|⟨kvs,hx,e'⟩
  ·subst e';obtain⟨its,r,pl,hz⟩:=I.list hx;have hlen:=r.length;exact wpAny_truthy_list pl.isList (by simp only[size_toArray];omega) ⟨H,I.tok _,by rw[ka r];exact q⟩
  ·subst e';obtain⟨its,r,pl,hz⟩:=I.tuple hx;have hlen:=r.length;exact truthy_tuple pl (by simp only[size_toArray];omega) ⟨H,I.tok _,by rw[ka r];exact q⟩
  ·subst e';obtain⟨hz,hS,vs,r,m⟩:kvs.length≤sizeLine∧(p==sysModules)=false∧∃vs,KV kvs vs∧s.heap.DictOf (bX X.prog X.w) p vs:=I.hok p _ hx;have hlen:kvs.length=vs.length:=Paired.length r;exact wpAny_truthy_dict hS m (by omega) ⟨H,I.tok _,by rw[qy r];exact q⟩
 | _=>exact(show False from e).elim
theorem vD (ha:PE X a ta)(he:∀whole,isTrue a X.env whole=(do let v ←whole;standAt a.pos;holding [v] (truthy v))) :
  PT X a (fun σ H Q=>ta σ H fun x H'=>∃k,Fm X.K x H' k∧Q k H'):=by
 intro ae s σ H Q I h;exact isTrue_plain (b5 (ha ae s σ H _ I h) fun v s1 ⟨x,H1,I1,r1,q1⟩=>Bj ae s1 σ H1 x v Q I1 r1 q1) (he _)
theorem pR:eL X (binaryOp .Add) (fun x y H Q=>∃i j,x=.str i∧y=.str j∧i.length+j.length≤sizeLine∧Q (.str (i++j)) H):=by
 intro ae s σ H x y v u Q I rx ry h;obtain⟨i,j,rfl,rfl,hz,q⟩:=h;obtain⟨t,rfl⟩:=rx;obtain⟨t',rfl⟩:=ry;exact add_str (fun t' tk=>⟨.str (i++j),H,I.tok _,⟨_,rfl⟩,q⟩) hz
theorem jI {x:V}{us:List Value}(r:aP [x] us):∃u,us=[u]∧aW x u:=by
 cases r with
 | cons r1 r2=>cases r2;exact⟨_,rfl,r1⟩
theorem zR {x y:V}{us:List Value}(r:aP [x,y] us):∃u w',us=[u,w']∧aW x u∧aW y w':=by
 cases r with
 | cons r1 r2=>
  cases r2 with
  | cons r3 r4=>cases r4;exact⟨_,_,rfl,r1,r3⟩
theorem sM (hc:X.calm=true):cA X (.builtin "min") (fun xs H Q=>∃i j,xs=[.int i,.int j]∧Q (.int (if j<i then j else i)) H):=by
 intro ae s σ H xs us Q I r h;obtain⟨i,j,rfl,q⟩:=h;obtain⟨u,w',rfl,⟨t,rfl⟩,⟨t',rfl⟩⟩:=zR r;refine min_two_ints (I.ok.hd hc) fun h' tk k=>⟨_,H,I.kept k,?_,q⟩
 by_cases hj:j<i
 ·rw[if_pos hj,if_pos hj];exact⟨_,rfl⟩
 ·rw[if_neg hj,if_neg hj];exact⟨_,rfl⟩
theorem l9:cA X (.type "int") (fun xs H Q=>(∃i,xs=[.int i]∧Q (.int i) H)∨∃k,xs=[.bl k]∧Q (.int (if k then 1 else 0)) H):=by
 intro ae s σ H xs us Q I r h;rcases h with⟨i,rfl,q⟩|⟨k,rfl,q⟩
 ·obtain⟨u,rfl,t,rfl⟩:=jI r;exact call_int_int ⟨.int i,H,I,⟨_,rfl⟩,q⟩
 ·obtain⟨u,rfl,r1⟩:=jI r;cases r1;exact call_int_bool ⟨.int (if k then 1 else 0),H,I.tok _,⟨_,rfl⟩,q⟩
end
theorem pe.some_of {v:V}{o:Option Value}(r:pe (some v) o):∃u,o=some u∧aW v u:=by
 cases o with
 | none=>exact(show False from r).elim
 | some u=>exact⟨u,rfl,r⟩
structure HQ (K:W.Frag)(C:Addr):Prop where
 pg:W.plainGet K C Str.empty=true
 hd:W.hasDictIn K C=true
 po:W.plainOver K C=true
 sa:W.findIn K (.ref C) "__setattr__"=some (some (.builtin "object.__setattr__"))
def C0 (K:W.Frag)(C:Addr)(f:Str):Prop:=W.findIn K (.ref C) f=some none
structure Gd (K:W.Frag)(C:Addr)(m:Str)(f:Addr):Prop where
 at_:W.findIn K (.ref C) m=some (some (.ref f))
 fn:W.isFn K (.ref f)=true
 kp:W.keepIn K (.ref f)=true
def A3 (X:Cx)(op:Operator)(rd:V→V→Hp→VK→Prop):Prop:=
 ∀(ae:List (Addr×Obj)) (s:Shared) (σ:St) (H:Hp) (x y:V) (u v:Value) (Q:VK),Inv X ae σ H s→aW x u→aW y v→rd x y H Q→wpAny (model X.prog X.w) X.A (inplaceOp op u v) (EP X ae σ Q) X.xe s
section
variable {X:Cx}{o e value:Expr}{f:Str}{pos pos' tpos:Pos}{ta tv:TE}
def GN:V→V→Hp→VK→Prop:=fun x y H Q=>∃i j,x=.int i∧y=.int j∧Q (.int (i+j)) H
theorem AI:A3 X .Add GN:=by
 rintro ae s σ H x y u v Q I rx ry ⟨i,j,rfl,rfl,q⟩;obtain⟨t,rfl⟩:=(show∃t,u=Value.int i t from rx);obtain⟨t',rfl⟩:=(show∃t',v=Value.int j t' from ry);exact PyProof.Rows.iadd_int ⟨.int (i+j),H,I.tok _,⟨_,rfl⟩,q⟩
end
structure bW (k:Nat)(A:Around):Prop where
 hd:A.handled=none
 dp:A.depth+3*k+5<recursionLimit
 un:A.units+16*k+200<cLine
theorem bW.mono {j k:Nat}{A:Around}(r:bW k A)(h:j≤k):bW j A:=⟨r.hd,by have:=r.dp;omega,by have:=r.un;omega⟩
theorem bW.deeper {k:Nat}{A:Around}(r:bW (k+1) A)(env:Env):bW k (A.deeper env):=
 ⟨r.hd,by have:=r.dp;show A.depth+1+3*k+5<_;omega,by have:=r.un;show A.units+3+16*k+200<_;omega⟩
theorem bW.in1 {k:Nat}{A:Around}(r:bW (k+1) A):bW k A.in1:=
 ⟨r.hd,by have:=r.dp;show A.depth+3*k+5<_;omega,by have:=r.un;show A.units+1+16*k+200<_;omega⟩
theorem bW.depth {k:Nat}{A:Around}(r:bW k A):A.depth<recursionLimit:=by have:=r.dp;omega
theorem bW.units {k:Nat}{A:Around}(r:bW k A):A.units+64<cLine:=by have:=r.un;omega
theorem bW.units0 {k:Nat}{A:Around}(r:bW k A):A.units<cLine:=by have:=r.un;omega
def Eh:TA:=fun _ H Q=>Q [] H
def zU (ta:TE)(tr:TA):TA:=fun σ H Q=>ta σ H fun x H1=>tr σ H1 fun xs H2=>Q (x::xs) H2
section
variable {X:Cx}{e:Expr}{es:List Expr}{te:TE}{t:TA}{pos:Pos}
theorem iq:PA X [] Eh:=fun _ _ _ _ H Q I h=>Calls.spliced_nil ⟨[],H,I,.nil,h⟩
theorem eW (ha:PE X e te)(hr:PA X es t)(hs:starEach (e::es) X.env=(false,eval e X.env)::starEach es X.env:=by rfl):PA X (e::es) (zU te t):=by
 intro pos ae s σ H Q I h;rw[hs];show wpAny _ _ (spliced ((false,eval e X.env)::backTo pos (starEach es X.env))) _ _ s;refine Calls.spliced_cons (b5 (ha ae s σ H _ I h) fun u s1 hxx=>?_);obtain⟨x,H1,I1,r1,q1⟩:=hxx;exact b5 (hr pos ae s1 σ H1 _ I1 q1) fun us s2 ⟨xs,H2,I2,r2,q2⟩=>⟨x::xs,H2,I2,.cons r1 r2,q2⟩
def GL (t:TA):TE:=fun σ H Q=>t σ H fun xs H1=>xs.length≤sizeLine∧∀p,H1 p=none→Q (.ref p) (cw H1 p (.tup xs))
def Gh (t:TA):TE:=fun σ H Q=>t σ H fun xs H1=>xs.length≤sizeLine∧∀p,H1 p=none→Q (.ref p) (cw H1 p (.lst xs))
theorem AT {x1}(h:PA X es t):PE X (.Tuple es x1 pos) (GL t):=by
 intro ae s σ H Q I hq;refine wpAny_Tuple_spliced (b5 (h pos ae s σ H _ I hq) fun us s1 ⟨xs,H1,I1,r,z,q⟩=>⟨by rw[←r.length];exact z,?_⟩);have hf:H1 s1.heap.objs.size=none:=I1.hok.fresh (Nat.le_refl _);refine⟨.ref s1.heap.objs.size,cw H1 s1.heap.objs.size (.tup xs),I1.laid (t':=s1.toks) (fun b u e=>Heap.get?_push_of_some _ e) (Nat.le_refl _) ?_,rfl,q _ hf⟩;exact⟨z,us,r,⟨_,Heap.get?_push_size _ rfl,rfl,_,rfl⟩⟩
theorem wB (h:PA X es t):PE X (.List es pos) (Gh t):=by
 intro ae s σ H Q I hq;refine wpAny_List_spliced (b5 (h pos ae s σ H _ I hq) fun us s1 ⟨xs,H1,I1,r,z,q⟩=>⟨by rw[←r.length];exact z,?_⟩);have hf:H1 s1.heap.objs.size=none:=I1.hok.fresh (Nat.le_refl _);refine⟨.ref s1.heap.objs.size,cw H1 s1.heap.objs.size (.lst xs),I1.laid (t':=s1.toks) (fun b u e=>Heap.get?_push_of_some _ e) (Nat.le_refl _) ?_,rfl,q _ hf⟩;exact⟨z,us,0,r,Heap.get?_push_size _ rfl⟩
end
abbrev Sp:=List V→Hp→VK→XK→Prop
abbrev uI:=List Env→Hp→Shared→XK→Value→Shared→Prop
structure yj (P:Program)(w:World)(K:W.Frag)(mg:Str→Option Value)(base:Heap)(A:Around)(outer:List Env)(s:Shared)(H:Hp):Prop where
 frames:A.frames=some outer
 mod:Mod K mg base
 bs:∀b o,base.get? b=some o→s.heap.get? b=some o∧H b=none
 bsz:base.objs.size≤s.heap.objs.size
 funs:s.heap.FunFrames base outer
 frf:∀b∈lC outer,H b=none
 hok:iD P w H s.heap
 bare:AllBare s.gens
def CE (outer:List Env)(P:Program)(w:World)(H:Hp)(s:Shared)(Q:VK)(u:Value)(s':Shared):Prop:=
 ∃v H',s'.os=s.os∧AllBare s'.gens∧Un (lC outer) [] H H' s.heap s'.heap∧iD P w H' s'.heap∧aW v u∧Q v H'
def CR (CX:uI)(outer:List Env)(P:Program)(w:World)(H:Hp)(s:Shared)(Q:VK)(E:XK)(r:Result)(s':Shared):Prop:=
 match r with
 | .ok (.ret u)=>CE outer P w H s Q u s'
 | .ok _=>False
 | .error e=>CX outer H s E e s'
structure fB (P:Program)(w:World)(K:W.Frag)(mg:Str→Option Value)(base:Heap)(CX:uI)(k:Nat)(f:Addr)(fd:FuncData)(ps:List Str)(sp:Sp):Prop where
 len:∀vs H Q E,sp vs H Q E→vs.length=ps.length
 run:∀(A:Around) (outer:List Env) (s:Shared) (H:Hp) (args:Args) (us:List Value) (vs:List V) (Q:VK) (E:XK),bW k A→yj P w K mg base A outer s H→BindsTo s fd args (ps.zip us)→aP vs us→sp vs H Q E→
  codeAny (model P w) A (.call (.ref f) args) (CR CX outer P w H s Q E) s
theorem fB.imp {P:Program}{w:World}{K:W.Frag}{mg:Str→Option Value}{base:Heap}{CX:uI}{k:Nat}{f:Addr}{fd:FuncData}{ps:List Str}{sp sp':Sp}(F:fB P w K mg base CX k f fd ps sp)
  (h:∀vs H Q E,sp' vs H Q E→sp vs H Q E):fB P w K mg base CX k f fd ps sp':=
 ⟨fun vs H Q E q=>F.len vs H Q E (h _ _ _ _ q),fun A outer s H args us vs Q E hr he hb hv hs=>F.run A outer s H args us vs Q E hr he hb hv (h _ _ _ _ hs)⟩
section
variable {X:Cx}{ae:List (Addr×Obj)}{σ:St}{H:Hp}{s s':Shared}
theorem Inv.env0 (I:Inv X ae σ H s):yj X.prog X.w X.K X.mg X.base X.A X.stack s H:=
 ⟨I.ok.frames,I.ok.mod,I.bs,Nat.le_trans I.ok.bsz I.sz,I.stack,I.stkFree,I.hok,I.bare⟩
theorem Inv.after {Q:VK}{u:Value}(I:Inv X ae σ H s)(h:CE X.stack X.prog X.w H s Q u s'):EP X ae σ Q u s':=by
 obtain⟨v,H',os,bare,un,hok,r,q⟩:=h;obtain⟨hh,g,d,t,os'⟩:=s';obtain rfl:os'=s.os:=os;exact⟨v,H',I.call (h':=hh) (g':=g) (d':=d) (t':=t) (ch:=[]) un hok bare (fun b z=>absurd z (by simp)),r,q⟩
end
def D4 (sp:Sp)(dvs:List V)(E:XK)(t:TA):TE:=fun σ H Q=>t σ H fun vs H1=>sp (vs++dvs) H1 Q E
def gP (K:W.Frag)(fd:FuncData)(ps:List Str)(ds:List Value):Prop:=
 ∀(s:Shared) (us:List Value),K.In s.heap→(us++ds).length=ps.length→BindsTo s fd ⟨us,[]⟩ (ps.zip (us++ds))
theorem gP.all {K:W.Frag}{fd:FuncData}{ps:List Str}(h:∀us:List Value,us.length=ps.length→bindArgs fd ⟨us,[]⟩=pure (ps.zip us)):gP K fd ps []:=fun s us _ hl=>by
 rw[append_nil] at hl ⊢;exact .of_eq (h us hl)
def qg (CX:uI)(X:Cx)(E:XK):Prop:=∀(ae:List (Addr×Obj)) (σ:St) (H:Hp) (s:Shared) (e:Value) (s':Shared),Inv X ae σ H s→CX X.stack H s E e s'→X.xe e s'
section
variable {X:Cx}{CX:uI}{k:Nat}{f C:Addr}{fd:FuncData}{ps:List Str}{sp:Sp}{dvs:List V}{ds:List Value}{E:XK}{x m:Str}{p pos apos:Pos}{e o:Expr}{es:List Expr}{ta:TE}{t:TA}
theorem Dc {ae:List (Addr×Obj)}{σ:St}{H:Hp}{s:Shared}{Q:VK}{us:List Value}{vs:List V}(F:fB X.prog X.w X.K X.mg X.base CX k f fd ps sp)(hr:bW k X.A)(hb:gP X.K fd ps ds)(hd:aP dvs ds)(hx:qg CX X E)
  (I:Inv X ae σ H s) (r:aP vs us) (h:sp (vs++dvs) H Q E):wpAny (model X.prog X.w) X.A (call (.ref f) us) (EP X ae σ Q) X.xe s:=by
 have r2:aP (vs++dvs) (us++ds):=r.append hd;have hl:(us++ds).length=ps.length:=by rw[←r2.length];exact F.len _ _ _ _ h
 refine wpAny_call (codeAny_mono (F.run X.A X.stack s H ⟨us,[]⟩ (us++ds) (vs++dvs) Q E hr I.env0 (hb s us I.kIn hl) r2 h) fun r s' hq=>?_);cases r with
 | error e=>exact hx ae σ H s e s' I hq
 | ok fl=>
  cases fl with
  | ret u=>exact I.after hq
  | next=>exact False.elim hq
  | brk=>exact False.elim hq
  | cont=>exact False.elim hq
theorem yb (F:fB X.prog X.w X.K X.mg X.base CX k f fd ps sp)(hr:bW k X.A)(hg:Gl X x)(hm:X.mg x=some (.ref f))(hk:W.keepIn X.K (.ref f)=true)(hb:gP X.K fd ps ds)(hd:aP dvs ds)(hx:qg CX X E)
  (ha:PA X (e::es) t) (hdb:(x==("__debug__":Str))=false:=by decide) (he:starEach (e::es) X.env=(false,eval e X.env)::starEach es X.env:=by rfl) (hpl:(backTo pos (starEach es X.env)).any (·.1)=false:=by rfl) :
  PE X (.Call (.Name x p) (e::es) [] pos) (D4 sp dvs E t):=by
 intro ae s σ H Q I h;refine wpAny_Call_Name_kw (nA I hg hm ?_ hdb);refine W.callWith_K (h₀:=X.base) I.ok.mod.kin hk (b5 (ha pos ae s σ H _ I h) fun us s1 ⟨vs,H1,I1,r,q⟩=>⟨I1.kIn,?_⟩) he hpl;exact Dc F hr hb hd hx I1 r q
end
structure g5 (N P:List Str)(sc:Scope):Prop where
 kind:sc.kind=.function
 co:sc.isCoroutine=false
 gen:sc.isGenerator=false
 nd:N.Nodup
 pre:N.take P.length=P
 par:∀x∈P,sc.names.lookup x=some .local∨sc.names.lookup x=some .cell
 nofree:∀y∈sc.names,y.2≠.free
theorem l8 {kindOf:Str→Option NameKind}{x:Str}:∀{binds:List (Str×Value)} {m:Str→Option Value},(∀v,(x,v)∉binds)→bindL kindOf binds m x=m x
 | [],_,_=>rfl
 | (n,v)::r,m,h=>by
  unfold bindL;rw[l8 fun w hw=>h w (mem_cons_of_mem _ hw)];split
  ·have:x≠n:=by rintro rfl;exact h v mem_cons_self
   simp[this]
  ·rfl
theorem mG {kindOf:Str→Option NameKind}{x:Str}:∀{binds:List (Str×Value)} {m:Str→Option Value},(∀v,(x,v)∉binds)→bindC kindOf binds m x=m x
 | [],_,_=>rfl
 | (n,v)::r,m,h=>by
  unfold bindC;rw[mG fun w hw=>h w (mem_cons_of_mem _ hw)];split
  ·rfl
  ·have:x≠n:=by rintro rfl;exact h v mem_cons_self
   simp[this]
theorem lV {kindOf:Str→Option NameKind}{x:Str}{v:Value}:∀{P:List Str} {vs:List Value} {i:Nat} {m:Str→Option Value},P.Nodup→P[i]?=some x→vs[i]?=some v→kindOf x=some .local→
  bindL kindOf (P.zip vs) m x=some v
 | [],_,_,_,_,h,_,_=>by simp at h
 | _::_,[],_,_,_,_,h,_=>by simp at h
 | p::P,w::vs,0,m,nd,h1,h2,hk=>by
  simp at h1 h2;subst h1;subst h2;show bindL kindOf ((p,w)::P.zip vs) m p=_;unfold bindL;rw[l8 fun v hv=>(nodup_cons.mp nd).1 (of_mem_zip hv).1,if_pos hk];simp
 | p::P,w::vs,i+1,m,nd,h1,h2,hk=>by
  show bindL kindOf ((p,w)::P.zip vs) m x=_;unfold bindL;exact lV (i:=i) (nodup_cons.mp nd).2 (by simpa using h1) (by simpa using h2) hk
theorem mE {kindOf:Str→Option NameKind}{x:Str}{v:Value}:∀{P:List Str} {vs:List Value} {i:Nat} {m:Str→Option Value},P.Nodup→P[i]?=some x→vs[i]?=some v→kindOf x≠some .local→
  bindC kindOf (P.zip vs) m x=some v
 | [],_,_,_,_,h,_,_=>by simp at h
 | _::_,[],_,_,_,_,h,_=>by simp at h
 | p::P,w::vs,0,m,nd,h1,h2,hk=>by
  simp at h1 h2;subst h1;subst h2;show bindC kindOf ((p,w)::P.zip vs) m p=_;unfold bindC;rw[mG fun v hv=>(nodup_cons.mp nd).1 (of_mem_zip hv).1,if_neg hk];simp
 | p::P,w::vs,i+1,m,nd,h1,h2,hk=>by
  show bindC kindOf ((p,w)::P.zip vs) m x=_;unfold bindC;exact mE (i:=i) (nodup_cons.mp nd).2 (by simpa using h1) (by simpa using h2) hk
def start (N:List Str)(vs:List V):St:=vs.map some++List.replicate (N.length-vs.length) none
def iV (CX:uI)(P:Program)(w:World)(K:W.Frag)(mg:Str→Option Value)(base:Heap)(N:List Str)(qual:Str)(scope:Scope)(f:Addr)(cd:Value)(A:Around)(outer:List Env)(s:Shared)(H:Hp)(E:XK):Cx where
 prog:=P
 w:=w
 K:=K
 mg:=mg
 base:=base
 A:=A.deeper (envOfC qual scope s.heap.objs.size f cd)
 N:=N
 s₀:=s
 H₀:=H
 env:=envOfC qual scope s.heap.objs.size f cd
 outer:=outer
 stack:=envOfC qual scope s.heap.objs.size f cd::outer
 ex:=[]
 calm:=true
 fn:=fun _=>true
 pn:=[]
 xe:=fun e s'=>wpAny (model P w) (A.deeper (envOfC qual scope s.heap.objs.size f cd)) (leaving (envOfC qual scope s.heap.objs.size f cd) e) (fun _ s''=>CX outer H s E e s'') (fun e' s''=>CX outer H s E e' s'') s'
theorem nX {sc:Scope}{n:Nat}{x:Str}(h:sc.names.lookup x=some .cell):∃c,(cellsFrom n sc.names []).lookup x=some c:=by
 have q:=W.cellsFrom_some sc.names n [] (.inl h);exact Option.isSome_iff_exists.mp q
theorem tM {CX:uI}{P:Program}{w:World}{K:W.Frag}{mg:Str→Option Value}{base:Heap}{N ps:List Str}{qual:Str}{scope:Scope}{f:Addr}{cd:Value}{A:Around}{outer:List Env}{s s1:Shared}{H:Hp}{E:XK}{us:List Value}{vs:List V}
  (S:g5 N ps scope) (hd:A.handled=none) (e0:yj P w K mg base A outer s H) (hl:vs.length=ps.length) (r:aP vs us)
  (x:InCallC s s.heap.objs.size (bindL (envOfC qual scope s.heap.objs.size f cd).kindOf (ps.zip us) fun _=>none) (cellsFrom (s.heap.objs.size+1) scope.names []) (bindC (envOfC qual scope s.heap.objs.size f cd).kindOf (ps.zip us) fun _=>none) s1) :
  Inv (iV CX P w K mg base N qual scope f cd A outer s H E) [] (start N vs) H s1:=by
 have hpl:ps.length≤N.length:=by have:=congrArg List.length S.pre;rw[length_take] at this;omega
 obtain⟨h1,tk,rfl,hk⟩:=x.done;have noA:∀b:Addr,b∉(iV CX P w K mg base N qual scope f cd A outer s H E).ex:=fun b z=>absurd (show b∈([]:List Addr) from z) (by simp)
 refine⟨⟨e0.mod,S.kind,rfl,rfl,Nat.le_refl _,fun y z c h1 h2=>?_,fun y hy=>?_,fun y c _ h=>?_,fun _=>hd,Around.frames_deeper e0.frames,.inr ⟨rfl,rfl⟩,fun b z=>absurd z (noA b),e0.bs,e0.bsz,fun b _ _=>noA b,fun b z=>absurd z (noA b),e0.funs,e0.frf⟩,
  rfl,e0.bare,Un.kept hk,⟨_,x.toInCall.ns,fun i y v h1 h2 h3=>?_⟩,fun y c h=>⟨_,x.cell y c h⟩,e0.hok.fresh (Nat.le_refl _),fun y c h=>?_,fun p hp=>absurd (show p∈([]:List (Addr×Obj)) from hp) (by simp),e0.hok.kept hk,?_⟩
 ·exact name_of_addr x.apart (PySem.mem_of_lookup h1) (PySem.mem_of_lookup h2)
 ·have hy:scope.names.lookup y=some .cell∨scope.names.lookup y=some .free:=hy;rcases hy with hy|hy
  ·exact nX hy
  ·exact absurd rfl (S.nofree _ (PySem.mem_of_lookup hy))
 ·exact Nat.le_of_lt (x.above y c (PySem.mem_of_lookup h))
 ·have hi:i<vs.length:=by
   unfold start at h2
   by_cases hi:i<vs.length
   ·exact hi
   ·rw[getElem?_append_right (by simpa using hi)] at h2;rw[getElem?_replicate] at h2;split at h2 <;> cases h2
  have ha:vs[i]?=some v:=by
   unfold start at h2;rw[getElem?_append_left (by simpa using hi),getElem?_map] at h2;cases e:vs[i]? with
   | none=>rw[e] at h2;cases h2
   | some a=>rw[e] at h2;cases h2;rfl
  obtain⟨u,hu,rv⟩:=r.get ha;have hp:ps[i]?=some y:=by
   rw[←S.pre,getElem?_take_of_lt (by omega)];exact h1
  have ndP:ps.Nodup:=by rw[←S.pre];exact S.nd.sublist (take_sublist _ _)
  refine⟨u,rv,?_⟩;rcases S.par y (mem_of_getElem? hp) with k|k
  ·exact .inl ⟨k,lV ndP hp hu k⟩
  ·obtain⟨c,e⟩:=nX (n:=s.heap.objs.size+1) k;refine .inr ⟨.inl k,c,e,?_⟩;have q:=x.cell y c e;rw[mE ndP hp hu (by show scope.names.lookup y≠_;rw[k];decide)] at q;exact q
 ·exact e0.hok.fresh (Nat.le_of_lt (x.above y c (PySem.mem_of_lookup h)))
 ·unfold start;show _=N.length;rw[length_append,length_map,length_replicate];omega
theorem DA {CX:uI}{P:Program}{w:World}{K:W.Frag}{mg:Str→Option Value}{base:Heap}{k:Nat}{f:Addr}{name qual:Str}{params:Arguments}{body:List Stmt}{scope:Scope}{dV kV doc pm cdv ct oc:Value}{an od:Option Addr}
  {osl:Array (Option Value)} {N ps:List Str} {sp:Sp} (lk:K.lookup f=some ⟨oc,od,.func (W.fnOf name qual params body scope dV kV doc pm an cdv ct),osl⟩) (hcd:W.codeIn K cdv qual=true) (S:g5 N ps scope)
  (len:∀vs H Q E,sp vs H Q E→vs.length=ps.length)
  (hbody:∀(A:Around) (outer:List Env) (s:Shared) (H:Hp) (vs:List V) (Q:VK) (E:XK),bW k (A.deeper (envOfC qual scope s.heap.objs.size f cdv))→sp vs H Q E→
   ∃t,PSs (iV CX P w K mg base N qual scope f cdv A outer s H E) body t∧t {nx:=fun _ H'=>Q .non H',rt:=Q} (start N vs) H) :
  fB P w K mg base CX (k+1) f (W.fnOf name qual params body scope dV kV doc pm an cdv ct) ps sp:=by
 refine⟨len,fun A outer s H args us vs Q E hr e0 hb r hsp=>?_⟩;have hl:=len _ _ _ _ hsp;have KX:K.In s.heap:=e0.mod.kin.keeps fun b o e=>(e0.bs b o e).1
 have lim:s.heap.NoLimit:=e0.mod.nolimit.keeps fun b o e=>(e0.bs b o e).1
 have hkind:∀y∈ps.zip us,scope.names.lookup y.1=some .local∨(scope.names.lookup y.1=some .cell∧((cellsFrom (s.heap.objs.size+1) scope.names []).lookup y.1).isSome=true):=fun⟨n,v⟩ hy=>by
  rcases S.par n (of_mem_zip hy).1 with q|q
  ·exact .inl q
  ·exact .inr ⟨q,W.cellsFrom_some _ _ _ (.inl q)⟩
 refine codeAny_call_function hr.depth (KX _ _ lk) rfl S.co S.gen rfl (W.codeRec_of KX hcd) (hb _ _ _ _ ?_);refine wpAny_newFunctionEnv_cells S.kind hkind fun env he s1 x=>?_
 subst he;refine⟨lim.keeps x.toInCall.keep,codeAny_func ?_⟩;obtain⟨t,ht,hq⟩:=hbody A outer s H vs Q E (hr.deeper _) hsp;have I:Inv (iV CX P w K mg base N qual scope f cdv A outer s H E) [] (start N vs) H s1:=tM S hr.hd e0 hl r x;refine wpAny_mono (ht [] s1 (start N vs) H _ I hq) (fun fl s' hs=>?_) fun e s' hs=>hs
 have fin:∀{σ':St} {H':Hp} {v:V} {u:Value},Inv (iV CX P w K mg base N qual scope f cdv A outer s H E) [] σ' H' s'→aW v u→Q v H'→CE outer P w H s Q u s':=
  fun {σ' H' v u} J rv q=>⟨v,H',J.os,J.bare,J.base,J.hok,rv,q⟩
 cases fl with
 | ret u=>
  obtain⟨v,σ',H',J,rv,q⟩:=hs;exact fin J rv q
 | next=>
  obtain⟨σ',H',J,q⟩:=hs;exact fin (v:=V.non) (u:=Value.none) J rfl q
 | brk=>
  obtain⟨_,_,_,q⟩:=hs;exact False.elim q
 | cont=>
  obtain⟨_,_,_,q⟩:=hs;exact False.elim q
section
variable {X:Cx}{x:Str}{p pos:Pos}{e:Expr}{es:List Expr}{t:TA}{id T:String}{r:List V→Hp→VK→Prop}
def G6 (r:List V→Hp→VK→Prop)(t:TA):TE:=fun σ H Q=>t σ H fun vs H1=>r vs H1 Q
theorem o7 (hc:cA X (.builtin id) r)(hg:Gl X x)(hm:X.mg x=none)(hv:bootBuiltins x=some (.builtin id))(ha:PA X (e::es) t)(hn:x≠"__name__":=by decide)(hdb:(x==("__debug__":Str))=false:=by decide)
  (he:starEach (e::es) X.env=(false,eval e X.env)::starEach es X.env:=by rfl) (hpl:(backTo pos (starEach es X.env)).any (·.1)=false:=by rfl):PE X (.Call (.Name x p) (e::es) [] pos) (G6 r t):=by
 intro ae s σ H Q I h;refine wpAny_Call_Name_kw (gQ I hg hm hv ?_ hn hdb);exact PyProof.Rows.callWith_builtin1 (b5 (ha pos ae s σ H _ I h) fun us s1 ⟨vs,H1,I1,r1,q1⟩=>hc ae s1 σ H1 vs us Q I1 r1 q1) he hpl
theorem ui (hc:cA X (.type T) r)(hg:Gl X x)(hm:X.mg x=none)(hv:bootBuiltins x=some (.type T))(ha:PA X (e::es) t)(hn:x≠"__name__":=by decide)(hdb:(x==("__debug__":Str))=false:=by decide)
  (he:starEach (e::es) X.env=(false,eval e X.env)::starEach es X.env:=by rfl) (hpl:(backTo pos (starEach es X.env)).any (·.1)=false:=by rfl):PE X (.Call (.Name x p) (e::es) [] pos) (G6 r t):=by
 intro ae s σ H Q I h;refine wpAny_Call_Name_kw (gQ I hg hm hv ?_ hn hdb);exact PyProof.Rows.callWith_type1 (b5 (ha pos ae s σ H _ I h) fun us s1 ⟨vs,H1,I1,r1,q1⟩=>hc ae s1 σ H1 vs us Q I1 r1 q1) he hpl
end
end L2
namespace HT
open PySem PyProof.Rows
theorem rcLt_int (A:Around)(s:Shared)(a:Int)(t:Tok)(c:Int)(u:Tok)(prog:Program)(w:World)(E:Value→Shared→Prop)(Q:Value→Shared→Prop)(h:Q (.bool (decide (a<c))) s) :
  wpAny (model prog w) A (richCompare .Lt (.int a t) (.int c u)) Q E s:=
 (PyProof.Rows.lt_int h:wpAny (model prog w) A (compareOp .Lt (.int a t) (.int c u)) Q E s)
section
open PySem.SeqAt
open PySem.AutoSeq1 (wpAny_loadPart')
open PySem.MeetsSeq PySem.MeetsSeq2 PySem.MeetsSeq3
end
section
variable {prog:Program}{w:World}{A:Around}{E:Value→Shared→Prop}{s:Shared}
theorem cat_tup {t b:Addr}{vs ws:List Value}{Q:Value→Shared→Prop}(ht:IsTup s.heap t vs.toArray)(hb:IsTup s.heap b ws.toArray)(hv:vs≠[])
  (h1:ws=[]→Q (.ref t) s) (h2:ws≠[]→Q (.ref s.heap.objs.size) {s with heap:=s.heap.push {cls:=.type "tuple",data:=.seq (vs++ws).toArray}})
  (hsz:vs.length+ws.length≤sizeLine):wpAny (model prog w) A (binaryOp .Add (.ref t) (.ref b)) Q E s:=by
 obtain⟨⟨cls,dd,data,sl⟩,ho,hc,n,hd⟩:=id ht;obtain⟨⟨cls2,dd2,data2,sl2⟩,ho2,hc2,n2,hd2⟩:=id hb;simp only at hc hd hc2 hd2;subst hc hd hc2 hd2;have e:vs.toArray++ws.toArray=(vs++ws).toArray:=by simp
 by_cases hw:ws=[]
 ·exact concat_meets ⟨_,ho,rfl⟩ ⟨_,ho2,rfl⟩ noFill_tuple_add seq_tuple_add PySem.F.slot_tuple_add PySem.F.entry_tuple_add (PySem.F.args_tuple_add_2 _ _)
   (tuple_addW1 t b vs.toArray ws.toArray n n2 dd dd2 sl sl2 (by simpa using hv) (by simp[hw])) ⟨ho,ho2,h1 hw⟩
 ·refine concat_meets ⟨_,ho,rfl⟩ ⟨_,ho2,rfl⟩ noFill_tuple_add seq_tuple_add PySem.F.slot_tuple_add PySem.F.entry_tuple_add (PySem.F.args_tuple_add_2 _ _)
   (tuple_addW2 t b vs.toArray ws.toArray n n2 dd dd2 sl sl2 (by simpa using hv) (by simpa using hw) (by rw[List.size_toArray,List.size_toArray];exact hsz)) ⟨ho,ho2,?_⟩
  rw[e];exact h2 hw
def sIx (n d:Nat):Option Int→Nat
 | none=>d
 | some v=>if v<0 then(v+(n:Int)).toNat else min v.toNat n
theorem sIx_none (n d:Nat):sIx n d none=d:=rfl
theorem sIx_nat (n d k:Nat):sIx n d (some (k:Int))=min k n:=by
 show(if(k:Int)<0 then((k:Int)+(n:Int)).toNat else min (k:Int).toNat n)=min k n;rw[if_neg (by omega),Int.toNat_natCast]
theorem sIx_le (n d:Nat)(hd:d≤n)(o:Option Int):sIx n d o≤n:=by
 cases o with
 | none=>exact hd
 | some v=>
  show(if v<0 then(v+(n:Int)).toNat else min v.toNat n)≤n
  by_cases hv:v<0
  ·rw[if_pos hv];omega
  ·rw[if_neg hv];exact Nat.min_le_right _ _
theorem qT (v:Int)(n d:Nat):(if v<0 then max (v+(n:Int)) 0 else min v (n:Int))=((sIx n d (some v):Nat):Int):=by
 show(if v<0 then max (v+(n:Int)) 0 else min v (n:Int))=(((if v<0 then(v+(n:Int)).toNat else min v.toNat n):Nat):Int)
 by_cases hv:v<0
 ·simp only[if_pos hv];omega
 ·simp only[if_neg hv];omega
theorem pS (lo hi:Option Int)(n:Nat):Builtin.Slice.sliceAdjust lo hi 1 (n:Int)=(((sIx n 0 lo:Nat):Int),((sIx n n hi:Nat):Int)):=by
 have h1:¬((1:Int)<0):=by omega
 unfold Builtin.Slice.sliceAdjust;simp only[h1,if_false];refine Prod.ext ?_ ?_
 ·cases lo with
  | none=>rfl
  | some v=>exact qT v n 0
 ·cases hi with
  | none=>rfl
  | some v=>exact qT v n n
theorem qi (i j:Nat):Builtin.Slice.slicePlaces (i:Int) (j:Int) 1=j-i:=by
 unfold Builtin.Slice.slicePlaces;have h1:(1:Int)>0:=by omega
 simp only[h1,if_true,Int.ediv_one];split <;> omega
theorem kX {v:Value}{o:Option Int}{Q:Option Int→Shared→Prop}(p:IsPart v o)(h:Q o s):wpAny (model prog w) A (Builtin.Slice.slicePartIndex v) Q E s:=by
 cases p with
 | none=>exact slicePart_none h
 | int i t=>exact slicePart_int h
theorem sliceApplied_gen {sl:Addr}{vl vu:Value}{lo hi:Option Int}{n:Nat}{Q:Int×Int×Nat→Shared→Prop}(hs:s.heap.IsSliceOf sl vl vu .none)(pl:IsPart vl lo)(pu:IsPart vu hi)
  (h:Q (((sIx n 0 lo:Nat):Int),1,sIx n n hi-sIx n 0 lo) s):wpAny (model prog w) A (Builtin.Slice.sliceApplied (.ref sl) (pure (n:Int))) Q E s:=by
 obtain⟨os,hos,hcs,hds⟩:=id hs;unfold Builtin.Slice.sliceApplied Builtin.Slice.sliceFields;refine wpAny_bind (wpAny_bind (wpAny_field hos hds (x:=vl) rfl (wpAny_bind (wpAny_field hos hds (x:=vu) rfl (wpAny_bind (wpAny_field hos hds (x:=.none) rfl (wpAny_pure ?_)))))));refine wpAny_bind (slicePart_none ?_);show wpAny _ _ (if((1:Int)==0)=true then _ else _) _ _ s;rw[if_neg (by decide)];refine wpAny_bind (kX pl (wpAny_bind (kX pu (wpAny_bind (wpAny_pure ?_)))));show wpAny _ _ (match Builtin.Slice.sliceAdjust lo hi 1 (n:Int) with|(lo,hi)=>pure (lo,(1:Int),Builtin.Slice.slicePlaces lo hi 1)) _ _ s;rw[pS lo hi n];show wpAny _ _ (pure (((sIx n 0 lo:Nat):Int),(1:Int),Builtin.Slice.slicePlaces ((sIx n 0 lo:Nat):Int) ((sIx n n hi:Nat):Int) 1)) _ _ s;rw[qi];exact wpAny_pure h
theorem vY (xs:Array Value)(i k:Nat):((List.range k).filterMap fun(m:Nat)=>xs[((i:Int)+(m:Int)*1).toNat]?).toArray=((xs.toList.drop i).take k).toArray:=by
 have e:(fun(m:Nat)=>xs[((i:Int)+(m:Int)*1).toNat]?)=fun m=>xs[i+m]?:=by
  funext m;have:((i:Int)+(m:Int)*1).toNat=i+m:=by omega
  rw[this]
 rw[e];have:=pick_run xs i k;rw[List.filterMap_map] at this;have e2:((fun x=>xs[x]?) ∘ fun x=>i+x)=fun m=>xs[i+m]?:=rfl
 rw[e2] at this;rw[this]
theorem getItem_tuple_cut {t sl:Addr}{items:Array Value}{vl vu:Value}{lo hi:Option Int}{Q:Value→Shared→Prop}(ht:IsTup s.heap t items)(hs:s.heap.IsSliceOf sl vl vu .none)(pl:IsPart vl lo)(pu:IsPart vu hi)
  (hw:¬(sIx items.size 0 lo=0∧sIx items.size items.size hi=items.size))
  (h:Q (.ref s.heap.objs.size) {s with heap:=s.heap.push {cls:=.type "tuple",data:=.seq ((items.toList.drop (sIx items.size 0 lo)).take (sIx items.size items.size hi-sIx items.size 0 lo)).toArray}})
  (hsz:items.size≤sizeLine):wpAny (model prog w) A (getItem (.ref t) (.ref sl)) Q E s:=by
 have htake:sizeOk (.seq ((items.toList.drop (sIx items.size 0 lo)).take (sIx items.size items.size hi-sIx items.size 0 lo)).toArray):=by
  show((items.toList.drop (sIx items.size 0 lo)).take (sIx items.size items.size hi-sIx items.size 0 lo)).toArray.size≤sizeLine;rw[List.size_toArray,List.length_take,List.length_drop,Array.length_toList];omega
 have hj:sIx items.size items.size hi≤items.size:=sIx_le _ _ (Nat.le_refl _) hi;obtain⟨os,hos,hcs,hds⟩:=id hs;have hTs:s.TypeIs (.ref sl) "slice":=⟨os,hos,hcs⟩;unfold getItem
 try with_reducible refine wpAny_holding ?_
 first|refine wpAny_bind (wpAny_pure ?_)|skip
 refine wpAny_bind (wpAny_sequenceKey ht.typeIs (by decide) ?_);refine wpAny_bind (wpAny_callSpecial?_slot (name:=Str.ofString "__getitem__") ht.typeIs PyProof.Rows.slot_tuple_getitem
  (wpAny_call_entry PyProof.Rows.slot_tuple_getitem ht.typeIs entry_tuple_getitem ?_ (args_tuple_getitem _ _)))
 show wpAny _ _ (Builtin.Tuple.tupleItemsOf (.ref t) >>= _) _ _ s;refine wpAny_bind (tupleItemsOf_ ht ?_);refine wpAny_bind (wpAny_typeOf hTs ?_);rw[if_pos (by decide)];refine wpAny_bind (sliceApplied_gen hs pl pu ?_);have hno:¬((((sIx items.size 0 lo:Nat):Int)==0&&(1:Int)==1&&(sIx items.size items.size hi-sIx items.size 0 lo)==items.size)=true):=by
  intro q;rw[Bool.and_eq_true,Bool.and_eq_true] at q;have q1:((sIx items.size 0 lo:Nat):Int)=0:=eq_of_beq q.1.1;have q2:sIx items.size items.size hi-sIx items.size 0 lo=items.size:=eq_of_beq q.2;exact hw ⟨by omega,by omega⟩
 show wpAny _ _ (if(((sIx items.size 0 lo:Nat):Int)==0&&(1:Int)==1&&(sIx items.size items.size hi-sIx items.size 0 lo)==items.size)=true then _ else _) _ _ s;rw[if_neg hno,vY]
 first
  | exact wpAny_bind (m:=Builtin.Tuple.tupleExact _) (wpAny_newObj_type (wpAny_pure ⟨_,rfl,wpAny_pure h⟩) htake)
  | exact wpAny_bind (m:=Builtin.Tuple.tupleExact _) (wpAny_newObj_type (wpAny_bind (wpAny_pure (wpAny_pure ⟨_,rfl,wpAny_pure h⟩))) htake)
  | exact wpAny_bind (wpAny_bind (m:=Builtin.Tuple.tupleExact _) (wpAny_newObj_type (wpAny_pure (wpAny_pure ⟨_,rfl,wpAny_pure h⟩)) htake))
  | exact wpAny_bind (wpAny_bind (m:=Builtin.Tuple.tupleExact _) (wpAny_newObj_type (wpAny_pure ⟨_,rfl,wpAny_pure h⟩) htake))
end
end HT
namespace L2
open PySem PySem.Spec PyProof.Rows List
abbrev TO:=St→Hp→(Option Int→Hp→Prop)→Prop
def PO (X:Cx)(e:Option Expr)(t:TO):Prop:=
 ∀(ae:List (Addr×Obj)) (s:Shared) (σ:St) (H:Hp) (Q:Option Int→Hp→Prop),Inv X ae σ H s→t σ H Q→
  wpAny (model X.prog X.w) X.A (evalPart e X.env) (fun u s'=>∃o H',Inv X ae σ H' s'∧IsPart u o∧Q o H') X.xe s
def zj:TO:=fun _ H Q=>Q none H
def D9 (t:TE):TO:=fun σ H Q=>t σ H fun x H1=>∃i,x=.int i∧Q (some i) H1
section
variable {X:Cx}{e:Expr}{te:TE}{lo hi:Option Expr}{tl th:TO}{pos p2:Pos}
theorem yp:PO X none zj:=by
 intro ae s σ H Q I h;rw[evalPart_none];exact wpAny_pure ⟨none,H,I,.none,h⟩
theorem yQ (h:PE X e te):PO X (some e) (D9 te):=by
 intro ae s σ H Q I hw;rw[evalPart_some];refine b5 (h ae s σ H _ I hw) fun u s1 hxx=>?_
 obtain⟨x,H1,I1,r1,q1⟩:=hxx;obtain⟨i,rfl,q⟩:=q1;obtain⟨t,rfl⟩:=r1;exact⟨some i,H1,I1,.int i t,q⟩
def Dm (X:Cx)(r:V→Option Int→Option Int→Hp→VK→Prop):Prop:=
 ∀(ae:List (Addr×Obj)) (s:Shared) (σ:St) (H:Hp) (x:V) (v vl vu:Value) (lo hi:Option Int) (sl:Addr) (Q:VK),Inv X ae σ H s→aW x v→s.heap.IsSliceOf sl vl vu .none→IsPart vl lo→IsPart vu hi→r x lo hi H Q→
  ∃T id,typeLookup (.type T) "__getitem__"=pure (some (.builtin id))∧s.TypeIs v T∧wpAny (model X.prog X.w) X.A (getItem v (.ref sl)) (EP X ae σ Q) X.xe s
def HS (r:V→Option Int→Option Int→Hp→VK→Prop)(te:TE)(tl th:TO):TE:=fun σ H Q=>te σ H fun x H1=>tl σ H1 fun l H2=>th σ H2 fun u H3=>r x l u H3 Q
theorem oy {r:V→Option Int→Option Int→Hp→VK→Prop}(hr:Dm X r)(he:PE X e te)(hl:PO X lo tl)(hu:PO X hi th):PE X (.Subscript e (.Slice lo hi none p2) pos) (HS r te tl th):=by
 intro ae s σ H Q I h;refine Subscript_ (b5 (he ae s σ H _ I h) fun v s1 hxx=>?_);obtain⟨x,H1,I1,r1,q1⟩:=hxx;refine wpAny_Slice (b5 (hl ae s1 σ H1 _ I1 q1) fun vl s2 ⟨l,H2,I2,pl,q2⟩=>b5 (hu ae s2 σ H2 _ I2 q2) fun vu s3 hxx=>?_);obtain⟨u,H3,I3,pu,q3⟩:=hxx;rw[evalPart_none];refine wpAny_pure ?_;have I4:Inv X ae σ H3 {s3 with heap:=s3.heap.push {cls:=.type "slice",data:=.fields #[vl,vu,.none]}}:=I3.kept (t':=s3.toks) fun b ob q=>Heap.get?_push_of_some _ q
 obtain⟨T,id,hT,ht,hg⟩:=hr ae {s3 with heap:=s3.heap.push {cls:=.type "slice",data:=.fields #[vl,vu,.none]}} σ H3 x v vl vu l u s3.heap.objs.size Q I4 r1 (Heap.IsSliceOf.new ..) pl pu q3;show wpAny (model X.prog X.w) X.A (subscriptTail e (.Slice lo hi none p2) v (.ref s3.heap.objs.size)) (EP X ae σ Q) X.xe {s3 with heap:=s3.heap.push {cls:=.type "slice",data:=.fields #[vl,vu,.none]}};exact tail_any (ops:=[.ref s3.heap.objs.size,v]) ht hT hg (by with_unfolding_all rfl)
def nZ (xs:List V)(lo hi:Option Int):List V:=(xs.drop (HT.sIx xs.length 0 lo)).take (HT.sIx xs.length xs.length hi-HT.sIx xs.length 0 lo)
theorem jE (xs:List V)(lo hi:Option Int):(nZ xs lo hi).length≤xs.length:=by
 unfold nZ;rw[length_take,length_drop];omega
def G1 (K:W.Frag):V→Option Int→Option Int→Hp→VK→Prop:=fun x lo hi H Q=>∃a xs,x=.ref a∧nC K H a xs∧
 ¬(HT.sIx xs.length 0 lo=0∧HT.sIx xs.length xs.length hi=xs.length)∧∀p,H p=none→Q (.ref p) (cw H p (.tup (nZ xs lo hi)))
theorem Bk:Dm X (G1 X.K):=by
 intro ae s σ H x v vl vu lo hi sl Q I rx hs pl pu h;obtain⟨a,xs,rfl,hx,hw,q⟩:=h;cases rx;obtain⟨its,r,ht,hz⟩:=I.tuple hx;have hlen:its.toArray.size=xs.length:=by rw[size_toArray];exact r.length.symm
 refine⟨"tuple",_,PyProof.Rows.slot_tuple_getitem.lookup,ht.typeIs,?_⟩;refine HT.getItem_tuple_cut ht hs pl pu (by rw[hlen];exact hw) ?_ (by rw[hlen];exact hz);rw[hlen];refine⟨.ref s.heap.objs.size,_,I.laid (t':=s.toks) (o:=.tup (nZ xs lo hi)) (fun b ob q=>Heap.get?_push_of_some _ q) (Nat.le_refl _) ?_,rfl,q _ (I.hok.fresh (Nat.le_refl _))⟩;exact⟨Nat.le_trans (jE xs lo hi) hz,_,(r.drop (HT.sIx xs.length 0 lo)).take (HT.sIx xs.length xs.length hi-HT.sIx xs.length 0 lo),IsTup.new _ _⟩
def Ed (K:W.Frag):R2:=fun x y H Q=>∃a b xs ys,x=.ref a∧y=.ref b∧nC K H a xs∧nC K H b ys∧xs≠[]∧xs.length+ys.length≤sizeLine∧
 (ys=[]→Q (.ref a) H)∧(ys≠[]→∀p,H p=none→Q (.ref p) (cw H p (.tup (xs++ys))))
theorem aP.nil_iff {xs:List V}{us:List Value}(r:aP xs us):us=[]↔xs=[]:=by
 cases r with
 | nil=>simp
 | cons _ _=>simp
theorem yi:eL X (binaryOp .Add) (Ed X.K):=by
 intro ae s σ H x y v u Q I rx ry h;obtain⟨a,b,xs,ys,rfl,rfl,ha,hb,hx,hz,q1,q2⟩:=h;cases rx;cases ry;obtain⟨its,r1,p1,_⟩:=I.tuple ha;obtain⟨its2,r2,p2,_⟩:=I.tuple hb;refine HT.cat_tup p1 p2 (fun z=>hx (r1.nil_iff.mp z)) (fun z=>⟨.ref a,H,I,rfl,q1 (r2.nil_iff.mp z)⟩) (fun z=>?_) (by rw[←r1.length,←r2.length];exact hz);refine⟨.ref s.heap.objs.size,_,I.laid (t':=s.toks) (o:=.tup (xs++ys)) (fun b ob q=>Heap.get?_push_of_some _ q) (Nat.le_refl _) ?_,rfl,q2 (fun w=>z (r2.nil_iff.mpr w)) _ (I.hok.fresh (Nat.le_refl _))⟩;exact⟨by rw[length_append];exact hz,_,r1.append r2,IsTup.new _ _⟩
end
def pW (n:Nat)(i:Int):Option Nat:=if 0≤i then(if i<n then some i.toNat else none) else if -(n:Int)≤i then some (i+n).toNat else none
def li {α:Type}(xs:List α)(i:Int):Option α:=(pW xs.length i).bind fun j=>xs[j]?
theorem rA {n:Nat}{i:Int}{j:Nat}(h:pW n i=some j):seqIndex? i n=some j∧j<n∧-(n:Int)≤i∧i<n:=by
 unfold pW at h
 by_cases h0:0≤i
 ·rw[if_pos h0] at h
  by_cases h1:i<n
  ·rw[if_pos h1] at h;have e:i.toNat=j:=Option.some.inj h;exact⟨by rw[seqIndex_of h0 h1,e],by omega,by omega,h1⟩
  ·rw[if_neg h1] at h;cases h
 ·rw[if_neg h0] at h
  by_cases h1:-(n:Int)≤i
  ·rw[if_pos h1] at h;have e:(i+n).toNat=j:=Option.some.inj h;exact⟨by rw[seqIndex_neg (by omega) h1,e],by omega,h1,by omega⟩
  ·rw[if_neg h1] at h;cases h
theorem mM {α:Type}{xs:List α}{i:Int}{v:α}(h:li xs i=some v):∃j,seqIndex? i xs.length=some j∧xs[j]?=some v∧j<xs.length∧-(xs.length:Int)≤i∧i<xs.length:=by
 unfold li at h;cases e:pW xs.length i with
 | none=>rw[e] at h;cases h
 | some j=>
  rw[e] at h;obtain⟨h1,h2,h3,h4⟩:=rA e;exact⟨j,h1,h,h2,h3,h4⟩
theorem gZ {α:Type}{xs:List α}{j:Nat}{v:α}(h:xs[j]?=some v):li xs (j:Int)=some v:=by
 have hj:j<xs.length:=(List.getElem?_eq_some_iff.mp h).1;have e:pW xs.length (j:Int)=some j:=by
  unfold pW;rw[if_pos (by omega),if_pos (by omega)];simp
 unfold li;rw[e];exact h
def m8 (b:Expr):Prop:=∀o i,subscripted b false o i=operate [o,i] (getItem o i)
def Dd (X:Cx)(r:R2):Prop:=
 ∀(value slice:Expr) (ae:List (Addr×Obj)) (s:Shared) (σ:St) (H:Hp) (x y:V) (v u:Value) (Q:VK),Inv X ae σ H s→aW x v→aW y u→r x y H Q→
  subscripted slice false v u=operate [v,u] (getItem v u)→wpAny (model X.prog X.w) X.A (subscriptTail value slice v u) (EP X ae σ Q) X.xe s
def F6 (X:Cx)(id:String)(r:V→List V→Hp→VK→Prop):Prop:=
 ∀(ae:List (Addr×Obj)) (s:Shared) (σ:St) (H:Hp) (x:V) (xs:List V) (v:Value) (us:List Value) (Q:VK),Inv X ae σ H s→aW x v→aP xs us→r x xs H Q→
  wpAny (model X.prog X.w) X.A (call (.builtin id) (v::us)) (EP X ae σ Q) X.xe s
section
variable {X:Cx}{a b:Expr}{ta tb:TE}{pos:Pos}
theorem Et {r:R2}(hr:Dd X r)(ha:PE X a ta)(hb:PE X b tb)(hs:m8 b):PE X (.Subscript a b pos) (DQ r ta tb):=by
 intro ae s σ H Q I h;exact Subscript_ (CH ha hb I h fun v u s2 x y H2 I2 rx ry q=>hr a b ae s2 σ H2 x y v u Q I2 rx ry q (hs _ _))
def GU (K:W.Frag):R2:=fun x y H Q=>∃p xs i v,x=.ref p∧y=.int i∧jn K H p xs∧li xs i=some v∧Q v H
def F9 (K:W.Frag):R2:=fun x y H Q=>∃p xs i v,x=.ref p∧y=.int i∧nC K H p xs∧li xs i=some v∧Q v H
def Gg:R2:=fun x y H Q=>∃z i c,x=.str z∧y=.int i∧z.length≤sizeLine∧li z.cps.toList i=some c∧Q (.str ⟨#[c]⟩) H
theorem yt:Dd X (GU X.K):=by
 intro value slice ae s σ H x y v u Q I rx ry h hs;obtain⟨p,xs,i,z,rfl,rfl,hq,he,q⟩:=h;cases rx;obtain⟨t,rfl⟩:=ry;obtain⟨its,r,pl,hz⟩:=I.list hq;obtain⟨j,h1,h2,h3,h4,h5⟩:=mM he;obtain⟨w,ew,rw'⟩:=r.get h2;have hl:=r.length;have hn:=io;have fin:EP X ae σ Q w s:=⟨z,H,I,rw',q⟩
 by_cases h0:0≤i
 ·have hj:i.toNat=j:=by
   rw[seqIndex_of h0 h5] at h1;exact Option.some.inj h1
  exact item_listR pl.isList h0 (by omega) (by rw[hj];simpa using ew) fin hs
 ·have hj:(i+(its.toArray.size:Int)).toNat=j:=by
   rw[seqIndex_neg (by omega) h4] at h1;rw[size_toArray,←hl];exact Option.some.inj h1
  exact subscriptTail_builtinR (x:=w) pl.isList.typeIs slot_list_getitem.lookup
   (wpAny_getItem_list_neg (Q:=fun r s'=>r=w∧EP X ae σ Q r s') pl.isList (by omega) (by rw[size_toArray] <;> omega) (by omega) (by rw[hj];simpa using ew) ⟨rfl,fin⟩) hs
theorem B6:Dd X (F9 X.K):=by
 intro value slice ae s σ H x y v u Q I rx ry h hs;obtain⟨p,xs,i,z,rfl,rfl,hq,he,q⟩:=h;cases rx;obtain⟨t,rfl⟩:=ry;obtain⟨its,r,pl,hz⟩:=I.tuple hq;obtain⟨j,h1,h2,h3,h4,h5⟩:=mM he;obtain⟨w,ew,rw'⟩:=r.get h2;have hl:=r.length;have hn:=io;have fin:EP X ae σ Q w s:=⟨z,H,I,rw',q⟩;exact subscriptTail_builtinR (x:=w) pl.typeIs slot_tuple_getitem.lookup
  (getItem_tuple (j:=j) (Q:=fun r s'=>r=w∧EP X ae σ Q r s') pl (by omega) (by omega) (by rw[size_toArray,←hl];exact h1) (by simpa using ew) ⟨rfl,fin⟩) hs
theorem BM:Dd X Gg:=by
 intro value slice ae s σ H x y v u Q I rx ry h hs;obtain⟨z,i,c,rfl,rfl,hz,he,q⟩:=h;obtain⟨t,rfl⟩:=rx;obtain⟨t',rfl⟩:=ry;obtain⟨j,h1,h2,h3,h4,h5⟩:=mM he;have hl:z.cps.toList.length=z.length:=by simp[Str.length]
 rw[hl] at h1 h4 h5;have hn:=io;exact tail_any (typeIs_str s z t) slot_str_getitem.lookup (getItem_str (c:=c) (by
  have e1:decide (i < -(2 ^ 63:Int))=false:=decide_eq_false (by omega);have e2:decide (i≥2 ^ 63)=false:=decide_eq_false (by omega);rw[e1,e2,Bool.or_false]) (by rw[h1];simpa using h2) ⟨.str ⟨#[c]⟩,H,I.tok _,⟨_,rfl⟩,q⟩) hs
theorem pO (its:List Value)(n j:Nat)(u:Value):Obj.mapSeq (·.setIfInBounds j u) {cls:=.type "list",data:=.seq its.toArray n}={cls:=.type "list",data:=.seq (its.set j u).toArray n}:=by
 simp[Obj.mapSeq]
theorem Inv.lst {ae:List (Addr×Obj)}{σ:St}{H:Hp}{s:Shared}{p:Addr}{xs:List V}(I:Inv X ae σ H s)(h:H p=some (.lst xs)) :
  ∃(its:List Value) (n:Nat),aP xs its∧s.heap.get? p=some {cls:=.type "list",data:=.seq its.toArray n}∧xs.length≤sizeLine:=by
 obtain⟨z,its,n,r,e⟩:=I.hok p _ h;exact⟨its,n,r,e,z⟩
theorem Inv.lstUpd {ae:List (Addr×Obj)}{σ:St}{H:Hp}{s:Shared}{p:Addr}{xs ys:List V}{its its':List Value}{n n':Nat}{f:Obj→Obj}(I:Inv X ae σ H s)(h:H p=some (.lst xs))
  (ho:s.heap.get? p=some {cls:=.type "list",data:=.seq its.toArray n}) (hf:f {cls:=.type "list",data:=.seq its.toArray n}={cls:=.type "list",data:=.seq its'.toArray n'}) (r:aP ys its') (hz:ys.length≤sizeLine) (t:Nat) :
  Inv X ae σ (cw H p (.lst ys)) {s with heap:=s.heap.update p f,toks:=t}:=by
 have e:(s.heap.update p f).get? p=some {cls:=.type "list",data:=.seq its'.toArray n'}:=by
  rw[Heap.get?_update_self f ho (by rw[hf] <;> rfl),hf]
 refine I.write (x:=p) (e:=p) (by rw[h];trivial) (.inl rfl) (fun b u hb q=>(Heap.get?_update_other _ _ (Ne.symm hb)).trans q) ⟨_,e⟩ ?_;exact⟨hz,its',n',r,e⟩
def DM:V→V→V→Hp→(Hp→Prop)→Prop:=fun o i v H Q=>∃p xs k j,o=.ref p∧i=.int k∧H p=some (.lst xs)∧pW xs.length k=some j∧Q (cw H p (.lst (xs.set j v)))
theorem wH:Fd X DM:=by
 intro ae s σ H o i v ov iv u Q I ro ri rv h;obtain⟨p,xs,k,j,rfl,rfl,hp,hj,q⟩:=h;cases ro;obtain⟨t,rfl⟩:=ri;obtain⟨its,n,r,ho,hz⟩:=I.lst hp;obtain⟨h1,h2,h3,h4⟩:=rA hj;have hl:=r.length;have hn:=io;have I':Inv X ae σ (cw H p (.lst (xs.set j v))) {s with heap:=s.heap.update p (Obj.mapSeq (·.setIfInBounds j u))}:=
  I.lstUpd hp ho (pO its n j u) (r.set rv j) (by rw[length_set];exact hz) s.toks
 by_cases h0:0≤k
 ·have hk:k.toNat=j:=by
   rw[seqIndex_of h0 h4] at h1;exact Option.some.inj h1
  exact W.ki_setAt ho h0 (by omega) (by rw[size_toArray,←hl];exact h4) (by rw[hk];exact⟨_,I',q⟩)
 ·have hk:(k+(its.toArray.size:Int)).toNat=j:=by
   rw[seqIndex_neg (by omega) h3] at h1;rw[size_toArray,←hl];exact Option.some.inj h1
  exact W.ki_setBack ho (by omega) (by rw[size_toArray,←hl];exact h3) (by omega) (by rw[hk];exact⟨_,I',q⟩)
theorem nc (lo hi:Option Int)(n:Nat):(sliceBounds lo hi none n).1=((HT.sIx n 0 lo:Nat):Int)∧(sliceBounds lo hi none n).2.1=((HT.sIx n n hi:Nat):Int)∧(sliceBounds lo hi none n).2.2=1:=by
 refine⟨?_,?_,rfl⟩
 ·cases lo with
  | none=>simp[sliceBounds,HT.sIx]
  | some i=>
   simp only[sliceBounds,HT.sIx,Option.getD_none,show(1:Int)>0 by decide,if_true]
   by_cases h:i<0
   ·simp only[h,if_true] <;> omega
   ·simp only[h,if_false] <;> omega
 ·cases hi with
  | none=>simp[sliceBounds,HT.sIx]
  | some i=>
   simp only[sliceBounds,HT.sIx,Option.getD_none,show(1:Int)>0 by decide,if_true]
   by_cases h:i<0
   ·simp only[h,if_true] <;> omega
   ·simp only[h,if_false] <;> omega
theorem ly (its:List Value)(lo hi:Option Int):slicePick its.toArray lo hi none=((its.drop (HT.sIx its.length 0 lo)).take (HT.sIx its.length its.length hi-HT.sIx its.length 0 lo)).toArray:=by
 obtain⟨h1,h2,h3⟩:=nc lo hi its.toArray.size;unfold slicePick;rw[h1,h2,h3];simp only[sliceRange_one,pick_run,size_toArray] <;> rfl
def Gz (K:W.Frag):V→Option Int→Option Int→Hp→VK→Prop:=fun x lo hi H Q=>∃a xs,x=.ref a∧jn K H a xs∧∀p,H p=none→Q (.ref p) (cw H p (.lst (nZ xs lo hi)))
theorem j4:Dm X (Gz X.K):=by
 intro ae s σ H x v vl vu lo hi sl Q I rx hs pl pu h;obtain⟨a,xs,rfl,hx,q⟩:=h;cases rx;obtain⟨its,r,ht,hz⟩:=I.list hx;have hlen:=r.length;refine⟨"list",_,slot_list_getitem.lookup,ht.isList.typeIs,?_⟩;refine wpAny_getItem_list_slice ht.isList hs pl pu .none (by simp) ?_ (by rw[size_toArray] <;> omega);rw[ly,←hlen];refine⟨.ref s.heap.objs.size,_,I.laid (t':=s.toks) (o:=.lst (nZ xs lo hi)) (fun b ob q=>Heap.get?_push_of_some _ q) (Nat.le_refl _) ?_,rfl,q _ (I.hok.fresh (Nat.le_refl _))⟩;exact⟨Nat.le_trans (jE xs lo hi) hz,_,0,(r.drop (HT.sIx xs.length 0 lo)).take (HT.sIx xs.length xs.length hi-HT.sIx xs.length 0 lo),Heap.get?_push_size _ rfl⟩
def ii:V→Bool
 | .non=>true
 | .bl _=>true
 | .int _=>true
 | .str _=>true
 | _=>false
def xY:V→V→Bool
 | .non,.non=>true
 | .bl a,.bl b=>a==b
 | .bl a,.int b=>(if a then 1 else 0)==b
 | .int a,.bl b=>a==(if b then 1 else 0)
 | .int a,.int b=>a==b
 | .str a,.str b=>a==b
 | _,_=>false
theorem Bw {A:Around}{s:Shared}{y x:V}{u v:Value}(ry:aW y u)(rx:aW x v)(fy:ii y=true)(fx:ii x=true):SeqAt.EqAt A s u v (xY y x):=by
 cases y with
 | non=>
  cases ry;cases x with
  | non=>cases rx;exact SeqAt.EqAt.same _
  | bl b=>cases rx;exact SeqAt.EqAt.none_bool b
  | int b=>obtain⟨t,rfl⟩:=rx;exact SeqAt.EqAt.none_int b t
  | str b=>obtain⟨t,rfl⟩:=rx;exact SeqAt.EqAt.none_str b t
  | _=>exact absurd (show false=true from fx) Bool.false_ne_true
 | bl a=>
  cases ry;cases x with
  | non=>cases rx;exact SeqAt.EqAt.bool_none a
  | bl b=>cases rx;exact SeqAt.EqAt.bool_bool a b
  | int b=>obtain⟨t,rfl⟩:=rx;exact SeqAt.EqAt.bool_int a b t
  | str b=>obtain⟨t,rfl⟩:=rx;exact SeqAt.EqAt.bool_str a b t
  | _=>exact absurd (show false=true from fx) Bool.false_ne_true
 | int a=>
  obtain⟨t',rfl⟩:=ry;cases x with
  | non=>cases rx;exact SeqAt.EqAt.int_none a t'
  | bl b=>cases rx;exact SeqAt.EqAt.int_bool a t' b
  | int b=>obtain⟨t,rfl⟩:=rx;exact SeqAt.EqAt.int_int a t' b t
  | str b=>obtain⟨t,rfl⟩:=rx;exact SeqAt.EqAt.int_str a t' b t
  | _=>exact absurd (show false=true from fx) Bool.false_ne_true
 | str a=>
  obtain⟨t',rfl⟩:=ry;cases x with
  | non=>cases rx;exact SeqAt.EqAt.str_none a t'
  | bl b=>cases rx;exact SeqAt.EqAt.str_bool a t' b
  | int b=>obtain⟨t,rfl⟩:=rx;exact SeqAt.EqAt.str_int a t' b t
  | str b=>obtain⟨t,rfl⟩:=rx;exact SeqAt.EqAt.str_str a t' b t
  | _=>exact absurd (show false=true from fx) Bool.false_ne_true
 | _=>exact absurd (show false=true from fy) Bool.false_ne_true
def y8 (x:V)(u:Value):Bool:=match u with
 | .none=>xY .non x
 | .bool b=>xY (.bl b) x
 | .int i _=>xY (.int i) x
 | .str z _=>xY (.str z) x
 | _=>false
theorem vm {x y:V}{u:Value}(r:aW y u)(f:ii y=true):y8 x u=xY y x:=by
 cases y with
 | non=>cases r;rfl
 | bl b=>cases r;rfl
 | int i=>obtain⟨t,rfl⟩:=r;rfl
 | str z=>obtain⟨t,rfl⟩:=r;rfl
 | _=>exact absurd (show false=true from f) Bool.false_ne_true
theorem m3 {x:V}:∀{xs:List V} {us:List Value},aP xs us→xs.all ii=true→us.any (y8 x)=xs.any fun y=>xY y x
 | _,_,.nil,_=>rfl
 | y::xs,u::us,.cons r t,f=>by
  rw[all_cons,Bool.and_eq_true] at f;rw[any_cons,any_cons,vm r f.1,m3 t f.2]
theorem ki {A:Around}{s:Shared}{x:V}{v:Value}(rx:aW x v)(fx:ii x=true):∀{xs:List V} {us:List Value},aP xs us→xs.all ii=true→∀u∈us,SeqAt.EqAt A s u v (y8 x u)
 | _,_,.nil,_=>fun u hu=>by cases hu
 | y::xs,u::us,.cons r t,f=>fun u' hu=>by
  rw[all_cons,Bool.and_eq_true] at f;rcases mem_cons.mp hu with rfl|hu
  ·rw[vm r f.1];exact Bw r rx f.1 fx
  ·exact ki rx fx t f.2 u' hu
def FV (x:V)(xs:List V):Bool:=xs.any fun y=>xY y x
def HN (K:W.Frag)(neg:Bool):R2:=fun x y H Q=>∃p xs,y=.ref p∧(jn K H p xs∨nC K H p xs)∧ii x=true∧xs.all ii=true∧Q (.bl (if neg then !FV x xs else FV x xs)) H
theorem uo:eL X (compareOp .In) (HN X.K false):=by
 intro ae s σ H x y v u Q I rx ry h;obtain⟨p,xs,rfl,hq,fx,fs,q⟩:=h;cases ry;rcases hq with hq|hq
 ·obtain⟨its,r,pl,hz⟩:=I.list hq;refine SeqAt.in_listAt (y8 x) pl.isList (fun w hw=>ki rx fx r fs w (by simpa using hw)) ⟨.bl _,H,I,rfl,?_⟩;rw[show its.toArray.any (y8 x)=its.any (y8 x) by simp,m3 r fs];exact q
 ·obtain⟨its,r,pl,hz⟩:=I.tuple hq;refine SeqAt.in_tupleAt (y8 x) pl (fun w hw=>ki rx fx r fs w (by simpa using hw)) ⟨.bl _,H,I,rfl,?_⟩;rw[show its.toArray.any (y8 x)=its.any (y8 x) by simp,m3 r fs];exact q
theorem mS:cA X (.builtin "len") (fun xs H Q=>∃p ys,xs=[.ref p]∧(jn X.K H p ys∨nC X.K H p ys)∧Q (.int ys.length) H):=by
 intro ae s σ H xs us Q I r h;obtain⟨p,ys,rfl,hq,q⟩:=h;obtain⟨u,rfl,rx⟩:=jI r;cases rx;have hn:=io;rcases hq with hq|hq
 ·obtain⟨its,r',pl,hz⟩:=I.list hq;have hlen:=r'.length;exact Calls.call_len_list pl.isList (by simp only[size_toArray] <;> omega) ⟨.int ys.length,H,I.tok _,⟨s.toks+1,by rw[size_toArray,hlen]⟩,q⟩
 ·obtain⟨its,r',pl,hz⟩:=I.tuple hq;have hlen:=r'.length;exact len_tuple pl (by simp only[size_toArray] <;> omega) ⟨.int ys.length,H,I.tok _,⟨s.toks+1,by rw[size_toArray,hlen]⟩,q⟩
theorem mT:cA X (.builtin "len") (fun xs H Q=>∃z,xs=[.str z]∧z.length≤sizeLine∧Q (.int z.length) H):=by
 intro ae s σ H xs us Q I r h;obtain⟨z,rfl,hz,q⟩:=h;obtain⟨u,rfl,t,rfl⟩:=jI r;have hn:=io;exact len_str (by omega) ⟨.int z.length,H,I.tok _,⟨_,rfl⟩,q⟩
theorem nz:cA X (.type "list") (fun xs H Q=>∃p ys,xs=[.ref p]∧(jn X.K H p ys∨nC X.K H p ys)∧∀l,H l=none→Q (.ref l) (cw H l (.lst ys))):=by
 intro ae s σ H xs us Q I r h;obtain⟨p,ys,rfl,hq,q⟩:=h;obtain⟨u,rfl,rx⟩:=jI r;cases rx;have fin:∀(its:List Value),aP ys its→ys.length≤sizeLine→∀(h':Heap) (c':Nat),(∀b o',s.heap.get? b=some o'→h'.get? b=some o')→
   h'.get? s.heap.objs.size=some {cls:=.type "list",dict:=none,data:=.seq its.toArray c',slots:=#[]}→EP X ae σ Q (.ref s.heap.objs.size) {s with heap:=h'}:=fun its r' hz h' c' kp e=>
  ⟨.ref s.heap.objs.size,_,I.laid (t':=s.toks) kp (Nat.le_refl _) (show cg X.prog X.w _ h' _ (.lst ys) from⟨hz,its,c',r',e⟩),rfl,q _ (I.hok.fresh (Nat.le_refl _))⟩
 rcases hq with hq|hq
 ·obtain⟨its,r',pl,hz⟩:=I.list hq;have hlen:=r'.length;obtain⟨o,ho,hc,n,hd⟩:=pl.isList;exact call_list_seq p (.inl rfl) ho hc hd (fun h' c' kp e=>fin its r' hz h' c' kp e) (by simp only[size_toArray] <;> omega)
 ·obtain⟨its,r',pl,hz⟩:=I.tuple hq;have hlen:=r'.length;obtain⟨o,ho,hc,n,hd⟩:=pl;exact call_list_seq p (.inr rfl) ho hc hd (fun h' c' kp e=>fin its r' hz h' c' kp e) (by simp only[size_toArray] <;> omega)
def HC (K:W.Frag)(T:String)(x:V)(H:Hp):Prop:=match x with
 | .str _=>T="str"
 | .int _=>T="int"
 | .ref p=>(T="list"∧∃xs,jn K H p xs)∨(T="tuple"∧∃o,K.lookup p=some o∧o.cls=.type "tuple"∧o.dict=none)∨
   (T="dict"∧((∃kvs,H p=some (.dK kvs))∨∃kvs,H p=some (.dT kvs)))∨(T="set"∧∃S n,H p=some (.set S n))
 | _=>False
theorem A6 {ae:List (Addr×Obj)}{σ:St}{H:Hp}{s:Shared}{T:String}{x:V}{v:Value}(I:Inv X ae σ H s)(r:aW x v)(ty:HC X.K T x H) :
  s.TypeIs v T∧∀a,v=.ref a→∃ob,s.heap.get? a=some ob∧ob.dict=none:=by
 cases x with
 | str z=>
  obtain⟨t,rfl⟩:=r;cases (show T="str" from ty);exact⟨typeIs_str s z t,fun _ e=>nomatch e⟩
 | int i=>
  obtain⟨t,rfl⟩:=r;cases (show T="int" from ty);exact⟨typeIs_int s i t,fun _ e=>nomatch e⟩
 | ref p=>
  cases r;rcases ty with⟨rfl,xs,hq⟩|⟨rfl,o,hk,hc,hd⟩|⟨rfl,hk⟩|⟨rfl,S,n,hk⟩
  ·obtain⟨its,_,pl,_⟩:=I.list hq;refine⟨pl.isList.typeIs,fun a e=>?_⟩;cases e;obtain⟨o,n,e,c,hd,_⟩:=pl;exact⟨o,e,hd⟩
  ·refine⟨⟨o,I.kIn p o hk,hc⟩,fun a e=>?_⟩;cases e;exact⟨o,I.kIn _ o hk,hd⟩
  ·have z:∃o,s.heap.get? p=some o∧o.ExactDict:=by
    rcases hk with⟨kvs,hk⟩|⟨kvs,hk⟩
    ·obtain⟨_,_,_,_,o,_,_,e,ex,_⟩:=I.hok p _ hk;exact⟨o,e,ex⟩
    ·obtain⟨_,_,_,_,o,_,_,e,ex,_⟩:=I.hok p _ hk;exact⟨o,e,ex⟩
   obtain⟨o,e,ex⟩:=z;refine⟨⟨o,e,ex.1⟩,fun a e2=>?_⟩;cases e2;exact⟨o,e,ex.2.1⟩
  ·obtain⟨o,_,_,_,e,ex,_⟩:=I.hok p _ hk;refine⟨⟨o,e,ex.1⟩,fun a e2=>?_⟩;cases e2;exact⟨o,e,ex.2.1⟩
 | _=>exact False.elim ty
def Gr (K:W.Frag)(T:String)(r:V→List V→Hp→VK→Prop)(to:TE)(t:TA):TE:=fun σ H Q=>to σ H fun x H1=>HC K T x H1∧t σ H1 fun xs H2=>r x xs H2 Q
variable {o e:Expr}{es:List Expr}{to:TE}{t:TA}{name:Str}{apos cpos:Pos}{T id:String}{r:V→List V→Hp→VK→Prop}
theorem o3 (pa:PlainAttrs T)(slot:Slot T name id)(hty:typeOf (.builtin id)=pure (.type "method_descriptor"))(hm:F6 X id r)(ho:PE X o to)(ha:PA X (e::es) t)
  (hbase:attributeBase o name X.env (eval o X.env)=eval o X.env:=by rfl)
  (hfew:((backTo cpos (starEach (e::es) X.env)).all (fun x=>!x.1)&&(backToKw cpos (keywordEach [] X.env)).all (fun x=>x.1.isSome)
   && decide ((e::es).length+([]:List Keyword).length+(if([]:List Keyword).isEmpty then 0 else 1)<30))=true:=by rfl)
  (hline:(apos.endLine==cpos.line)=true:=by rfl) (hs:starEach (e::es) X.env=(false,eval e X.env)::starEach es X.env:=by rfl) (hplain:(backTo cpos (starEach es X.env)).any (·.1)=false:=by rfl) :
  PE X (.Call (.Attribute o name apos) (e::es) [] cpos) (Gr X.K T r to t):=by
 intro ae s σ H Q I h;refine wpAny_Call_method_late hbase hfew hline rfl (b5 (ho ae s σ H _ I h) fun v s1 hxx=>?_);obtain⟨x,H1,I1,r1,ty,q1⟩:=hxx;obtain⟨h1,h2⟩:=A6 I1 r1 ty;refine⟨T,id,pa,slot,hty,h1,h2,?_⟩;have hA:=ha cpos ae s1 σ H1 _ I1 q1;rw[hs] at hA ⊢;refine Calls.callWith_builtin (by show(false||(backTo cpos (starEach es X.env)).any (·.1))=false;rw[hplain] <;> rfl) (Calls.evalArgs_plain ?_);exact b5 hA fun us s2 ⟨vs,H2,I2,r2,q2⟩=>hm ae s2 σ H2 x vs v us Q I2 r1 r2 q2
end
def HD (X:Cx)(id:String)(r:V→List V→Hp→VK→Prop):Prop:=
 ∀(ae:List (Addr×Obj)) (s:Shared) (σ:St) (H:Hp) (x:V) (xs:List V) (v:Value) (us:List Value) (Q:VK),Inv X ae σ H s→aW x v→aP xs us→r x xs H Q→
  wpAny (model X.prog X.w) X.A (call (.builtin id) (v::us)) (EP X ae σ Q) X.xe s
theorem aP.one:∀{x:V} {us:List Value},aP [x] us→∃u,us=[u]∧aW x u
 | _,_,.cons r .nil=>⟨_,rfl,r⟩
theorem aP.rep {xs:List V}{us:List Value}(h:aP xs us):∀k:Nat,aP (List.replicate k xs).flatten (List.replicate k us).flatten
 | 0=>.nil
 | k+1=>by
  rw[replicate_succ,replicate_succ,flatten_cons,flatten_cons];exact aP.append h (aP.rep h k)
theorem mh (its:List Value):∀(k:Nat) (acc:List Value),
  List.foldl (fun x1 x2=>x1++x2) acc.toArray (List.replicate k its.toArray)=(acc++(List.replicate k its).flatten).toArray
 | 0,acc=>by simp
 | k+1,acc=>by
  have e:acc.toArray++its.toArray=(acc++its).toArray:=by simp
  have e2:(acc++its)++(List.replicate k its).flatten=acc++(List.replicate (k+1) its).flatten:=by
   rw[replicate_succ,flatten_cons,append_assoc]
  rw[←e2,←mh its k (acc++its),←e,replicate_succ,foldl_cons]
section
variable {X:Cx}{ae:List (Addr×Obj)}{σ:St}{H:Hp}{s:Shared}{l b:Addr}{xs ys zs:List V}
theorem Inv.lset {its its':List Value}{n:Nat}{f:Array Value→Array Value}{t':Nat}(I:Inv X ae σ H s)(hH:H l=some (.lst xs))
  (e:s.heap.get? l=some {cls:=.type "list",data:=.seq its.toArray n}) (hf:f its.toArray=its'.toArray) (hv:aP ys its') (hz:ys.length≤sizeLine) :
  Inv X ae σ (cw H l (.lst ys)) {s with heap:=s.heap.update l (Obj.mapSeq f),toks:=t'}:=by
 have q:=PySem.IsL.update e f;rw[hf] at q;refine I.write (x:=l) (e:=l) (by rw[hH];exact trivial) (.inl rfl) (fun b' u hb hu=>(Heap.get?_update_other s.heap (Obj.mapSeq f) (Ne.symm hb)).trans hu) ⟨_,q⟩ ?_;exact⟨hz,its',_,hv,q⟩
theorem Inv.lnew {its:List Value}{t':Nat}(I:Inv X ae σ H s)(hv:aP ys its)(hz:ys.length≤sizeLine) :
  Inv X ae σ (cw H s.heap.objs.size (.lst ys)) {s with heap:=s.heap.push {cls:=.type "list",data:=.seq its.toArray},toks:=t'}:=
 I.laid (fun _ _ q=>Heap.get?_push_of_some _ q) (Nat.le_refl _) ⟨hz,its,0,hv,Heap.get?_push_size _ rfl⟩
theorem Inv.fresh (I:Inv X ae σ H s):H s.heap.objs.size=none:=I.hok.fresh (Nat.le_refl _)
theorem Inv.lstM (I:Inv X ae σ H s)(hH:H l=some (.lst xs)):xs.length≤sizeLine∧∃(its:List Value) (n:Nat),aP xs its∧xs.length=its.length∧s.heap.get? l=some {cls:=.type "list",data:=.seq its.toArray n}:=by
 obtain⟨z,its,n,r,e⟩:=I.hok l _ hH;exact⟨z,its,n,r,r.length,e⟩
theorem oX {n:Nat}(h:n≤sizeLine):Builtin.List.listTooLong n=false:=by
 unfold Builtin.List.listTooLong;exact decide_eq_false (by omega)
end
section
variable {X:Cx}
def yK:V→List V→Hp→VK→Prop:=fun x vs H Q=>∃l xs y,x=.ref l∧vs=[y]∧H l=some (.lst xs)∧xs.length<sizeLine∧Q .non (cw H l (.lst (xs++[y])))
theorem tW:HD X "list.append" yK:=by
 intro ae s σ H x vs v us Q I rx rv h;obtain⟨l,xs,y,rfl,rfl,hH,hz,q⟩:=h;cases rx;obtain⟨u,rfl,ru⟩:=rv.one;obtain⟨z,its,n,r,hl,e⟩:=I.lstM hH;refine call_meets F.slot_list_append ⟨_,e,rfl⟩ F.entry_list_append (F.args_list_append_2 _ _) (PySem.list_append l its.toArray n u (by rw[size_toArray];omega)) ⟨e,?_⟩;refine⟨.non,_,I.lset (its':=its++[u]) hH e (by simp) (r.append (.cons ru .nil)) ?_,rfl,q⟩;rw[length_append,length_singleton];omega
def sH:V→List V→Hp→VK→Prop:=fun x vs H Q=>∃l b xs zs,x=.ref l∧vs=[.ref b]∧H l=some (.lst xs)∧H b=some (.lst zs)∧xs.length+zs.length≤sizeLine∧Q .non (cw H l (.lst (xs++zs)))
theorem sW:HD X "list.extend" sH:=by
 intro ae s σ H x vs v us Q I rx rv h;obtain⟨l,b,xs,zs,rfl,rfl,hH,hB,hz,q⟩:=h;cases rx;obtain⟨u,rfl,ru⟩:=rv.one;cases ru;obtain⟨z,its,n,r,hl,e⟩:=I.lstM hH;obtain⟨z2,its2,n2,r2,hl2,e2⟩:=I.lstM hB;have hsz:its.toArray.size+its2.toArray.size≤sizeLine:=by rw[size_toArray,size_toArray];omega
 have hlong:¬(!its.toArray.isEmpty&&Builtin.List.listTooLong (its.toArray.size+its2.toArray.size))=true:=by
  rw[oX hsz,Bool.and_false];exact Bool.false_ne_true
 refine call_meets F.slot_list_extend ⟨_,e,rfl⟩ F.entry_list_extend (F.args_list_extend_2 _ _)
  (AutoSeq1.list_extend_list_list_0 l its.toArray n b its2.toArray n2 hlong (by rw[size_toArray];omega) (by omega)) ⟨e,e2,?_⟩
 refine⟨.non,_,I.lset (its':=its++its2) hH e (by simp) (r.append r2) ?_,rfl,q⟩;rw[length_append];omega
def G2:R2:=fun x y H Q=>∃l b xs zs,x=.ref l∧y=.ref b∧H l=some (.lst xs)∧H b=some (.lst zs)∧xs.length+zs.length≤sizeLine∧∀p,H p=none→Q (.ref p) (cw H p (.lst (xs++zs)))
theorem BK:eL X (binaryOp .Add) G2:=by
 intro ae s σ H x y v u Q I rx ry h;obtain⟨l,b,xs,zs,rfl,rfl,hH,hB,hz,q⟩:=h;cases rx;cases ry;obtain⟨z,its,n,r,hl,e⟩:=I.lstM hH;obtain⟨z2,its2,n2,r2,hl2,e2⟩:=I.lstM hB;refine PySem.P.add_list e e2 ?_ (by rw[size_toArray,size_toArray];omega);have ea:its.toArray++its2.toArray=(its++its2).toArray:=by simp
 rw[ea];exact⟨.ref _,_,I.lnew (t':=s.toks) (r.append r2) (by rw[length_append];omega),rfl,q _ I.fresh⟩
theorem rN {α:Type}(xs:List α)(k:Nat):(List.replicate k xs).flatten.length=k*xs.length:=by
 induction k with
 | zero=>simp
 | succ k ih=>rw[replicate_succ,flatten_cons,length_append,ih,Nat.succ_mul,Nat.add_comm]
end
end L2
namespace Att
open PySem PySem.W PySem.Calls PyProof.Rows
theorem jV {P:Params}{h:Heap}:∀(ns:List Int) (vs:List Value),WellAll P h vs (ns.map WData.int)→IntsAre vs ns:=by
 intro ns
 induction ns with
 | nil=>
  intro vs w;rw[List.map_nil] at w;cases w;exact .nil
 | cons n ns ih=>
  intro vs w;rw[List.map_cons] at w;cases w with
  | cons a b=>
   cases a;exact .cons _ _ (ih _ b)
theorem uz {l:OpenLaw}{n:Nat}(hn:l.most=some n){P:Params}{h:Heap}{args:List WData}{vals:List Value}
  (hpre:l.row.toRowW.claim.pre args=true) (hwl:WellAll P h vals args) :
  ∃a vs ns,vals=[Value.ref a]∧args=[WData.list (ns.map WData.int)]∧h.get? a=some {cls:=.type "list",data:=.seq vs.toArray}∧IntsAre vs ns∧ns.length≤n:=by
 have hsh:WShape.hasAll [] args [.list .int]=true:=(pre_splitW hpre).1;have hc:l.pre.holds [] {args:=args}=true:=(pre_splitW hpre).2;obtain⟨d,r,rfl,h1,h2⟩:=hasAllW_cons hsh;obtain rfl:=hasAllW_nil h2;obtain⟨xs,rfl,h3⟩:=hasW_list h1;obtain⟨ns,rfl⟩:=items_int h3;have hlen:ns.length≤n:=by
  unfold OpenLaw.pre at hc;have h4:(WTm.not (.lt (.lit (.int (n:Int))) (.len (.arg 0)))).holds [] {args:=[.list (ns.map .int)]}=true:=by
   have h4:=(holds_andW hc).1;rw[hn] at h4;exact h4
  have h5:=condW_of h4 (w_not (w_lt w_lit (w_len_list (w_arg rfl))));rw[List.length_map] at h5;refine Nat.le_of_not_lt fun q=>?_
  have q':(n:Int)<((ns.length:Nat):Int):=by omega
  first
   | (rw[decide_eq_true q'] at h5;exact absurd h5 (by decide))
   | (simp at h5;omega)
 cases hwl with
 | cons w1 w2=>
  cases w2;cases w1 with
  | list ho hall=>exact⟨_,_,ns,rfl,rfl,ho,jV ns _ hall,hlen⟩
theorem tX (l:OpenLaw)(args:List WData):l.row.toRowW.claim.post args (.bool true) args=true:=
 postW_of (r:=l.row.toRowW) (X:=(true==true))
  (show WShape.has [] (.bool true) .bool=true by first|rfl|decide|simp[WShape.has,WShape.arms,WShape.armsAll])
  (show(WTm.eq .res (.lit (.bool true))).value [] {args:=args,res:=some (.bool true),after:=args}=some (.bool (true==true)) from w_eq_bool (w_res rfl) w_lit) rfl
theorem attach_call {l:OpenLaw}{n:Nat}{q:Program}{loose:List Str}{XP:(Str→Option Value)→Heap→Prop}{YP:World→Heap→Prop}{d:DefRec}
  (hn:l.most=some n) (hdf:d.params.defaults=[])
  (call:∀(w:World) (s₀ s₁:Shared) (mg mb:Str→Option Value) (fa:Addr) (o:Obj) (pm cd doc:Value) (a:Addr) (vs:List Value) (ns:List Int),
   Ground q loose [] XP w s₀ mg mb s₁.heap→YP w s₁.heap→
   s₁.heap.get? fa=some o→o.data=.func (docDef d.name d.params d.body d.scope pm cd doc)→s₁.heap.CodeRec cd d.name→mg d.name=some (.ref fa)→
   s₁.heap.get? a=some {cls:=.type "list",data:=.seq vs.toArray}→IntsAre vs ns→ns.length≤n→s₁.gens=#[]→
   codeAny (model l.prog w) callerA (.call (.ref fa) ⟨[.ref a],[]⟩) (fun r s'=>r=.ok (.ret (.bool true))∧OldK s₁.heap s'.heap∧s'.os=s₁.os∧AllBare s'.gens) s₁) :
  WalkO q loose XP YP l.row.toRowW d [] (fun f vs=>PySem.call f vs):=by
 intro w s₀ s₁ mg mb G Y fa o pm cd doc dV kV ho hd hcd hD hmg hg args vals as hpre hlay hrd hwl hlo;obtain rfl:dV=.none:=Dflts.none hD hdf;obtain rfl:kV=.none:=Dflts.noKw hD;obtain⟨a,vs,ns,rfl,rfl,hobj,hints,hlen⟩:=uz hn hpre hwl;refine enter_call (codeAny_mono (call w s₀ s₁ mg mb fa o pm cd doc a vs ns G Y ho (fd_plain hd) hcd hmg hobj hints hlen hg) fun r s' hq=>?_);obtain⟨rfl,h2,h3,h4⟩:=hq;exact⟨.inl ⟨.bool true,.bool true,[],rfl,fun _=>rfl,.bool true,tX l _,fun _=>⟨List.Pairwise.nil,fun _ hm=>(nomatch hm)⟩⟩,h2,h3,h4⟩
end Att
namespace L2
open PySem PySem.Spec PyProof.Rows List
theorem lQ:∀{vs:List Value} {ns:List Int},IntsAre vs ns→aP (ns.map V.int) vs
 | _,_,.nil=>.nil
 | _,_,.cons n t h=>.cons ⟨t,rfl⟩ (lQ h)
def Cy (H:Hp):Prop:=∀b,H b=none∨∃o xs,H b=some (.frz o (.lst xs))
theorem vV {P:Program}{w:World}{K:W.Frag}{mg mb:Str→Option Value}{CX:uI}{k:Nat}{fa a:Addr}{fd:FuncData}{x:Str}{sp:Sp}{s₁:Shared}{vs:List Value}{ns:List Int}
  (KX:K.In s₁.heap) (hns:s₁.heap.Ns mainGlobals mg) (hb:s₁.heap.Ns builtinsNs mb) (hbb:∀x:Str,x≠"__name__"→mb x=bootBuiltins x) (hlim:s₁.heap.NoLimit) (hg:s₁.gens=#[])
  (ha:s₁.heap.get? a=some {cls:=.type "list",data:=.seq vs.toArray}) (hi:IntsAre vs ns) (hl:ns.length≤sizeLine) (hr:bW k callerA)
  (F:∀base:Heap,K.In base→base.Ns mainGlobals mg→fB P w K mg base CX k fa fd [x] sp) (hbind:∀(s:Shared) (u:Value),BindsTo s fd ⟨[u],[]⟩ [(x,u)])
  (hsp:∀H:Hp,Cy H→jn K H a (ns.map V.int)→sp [.ref a] H (fun v _=>v=.bl true) fun _ _ _=>False)
  (hCX:∀H e s',CX [] H s₁ (fun _ _ _=>False) e s'→False) :
  codeAny (model P w) callerA (.call (.ref fa) ⟨[.ref a],[]⟩) (fun r s'=>r=.ok (.ret (.bool true))∧OldK s₁.heap s'.heap∧s'.os=s₁.os∧AllBare s'.gens) s₁:=by
 have rv:=lQ hi;have lenV:=hi.length;have core:∀H:Hp,Cy H→jn K H a (ns.map V.int)→iD P w H s₁.heap→(∀b,H b≠none→b=a)→(H a≠none→K.lookup a=none)→
   codeAny (model P w) callerA (.call (.ref fa) ⟨[.ref a],[]⟩) (fun r s'=>r=.ok (.ret (.bool true))∧OldK s₁.heap s'.heap∧s'.os=s₁.os∧AllBare s'.gens) s₁:=by
  intro H hO hS hok hA hK;have base_of:∀{b:Addr} {o:Obj},s₁.heap.get? b=some o→H b=none→(mZ s₁.heap H).get? b=some o:=fun e n=>vP e n
  have noA:∀{b:Addr} {o:Obj} {es:Array DictEntry} {ep:Nat},s₁.heap.get? b=some o→o.data=.dict es ep→H b=none:=fun {b o es ep} e d=>by
   cases q:H b with
   | none=>rfl
   | some u=>
    have e':b=a:=hA b (by rw[q];simp);subst e';rw[ha] at e;cases e;have d':Data.seq vs.toArray _=Data.dict es ep:=d;cases d'
  have nsK:∀{b:Addr} {m:Str→Option Value},s₁.heap.Ns b m→(mZ s₁.heap H).Ns b m:=fun {b m} ⟨o,es,ep,e,d,r⟩=>⟨o,es,ep,base_of e (noA e d),d,r⟩
  have hKb:K.In (mZ s₁.heap H):=fun b o e=>base_of (KX b o e) (by
   cases q:H b with
   | none=>rfl
   | some u=>
    have e':b=a:=hA b (by rw[q];simp);subst e';rw[hK (by rw[q];simp)] at e;cases e)
  have hM:Mod K mg (mZ s₁.heap H):=⟨hKb,nsK hns,⟨mb,nsK hb,hbb⟩,let ⟨mc,h1,h2⟩:=hlim;⟨mc,nsK h1,h2⟩⟩;have e0:yj P w K mg (mZ s₁.heap H) callerA [] s₁ H:=⟨rfl,hM,fun b o e=>zM e,Nat.le_of_eq (sJ _ _),trivial,fun b hb=>absurd (show b∈([]:List Addr) from hb) (by simp),hok,.of_eq hg⟩;refine codeAny_mono ((F _ hKb (nsK hns)).run callerA [] s₁ H ⟨[.ref a],[]⟩ [.ref a] [.ref a] _ _ hr e0 (hbind s₁ (.ref a)) (.cons rfl .nil) (hsp H hO hS)) fun r s' h=>?_
  cases r with
  | error e=>exact(hCX H e s' h).elim
  | ok fl=>
   cases fl with
   | next=>exact False.elim h
   | brk=>exact False.elim h
   | cont=>exact False.elim h
   | ret u=>
    obtain⟨v,H',os,bare,un,hok',r',q⟩:=h;have q':v=.bl true:=q;subst q';obtain rfl:u=Value.bool true:=r';refine⟨rfl,OldK.of_keep fun b o e=>?_,os,bare⟩;cases q:H b with
    | none=>exact un.keep b o e q (by intro z;exact absurd (show b∈([]:List Addr) from z) (by simp)) (by simp)
    | some u=>
     rcases hO b with z|⟨ob,xs,z⟩
     ·rw[q] at z;cases z
     ·have z2:=un.frzs b ob _ z;obtain⟨e1,_⟩:=hok b _ z;obtain⟨e2,_⟩:=hok' b _ z2;rw[e] at e1;cases e1;exact e2
 cases hk:K.lookup a with
 | some o=>
  have e:=KX a o hk;rw[ha] at e;cases e;refine core (fun _=>none) (fun _=>.inl rfl) (.inr ⟨_,vs.toArray,_,hk,rfl,rfl,rfl,by rw[size_toArray,lenV];exact hl,by simpa using rv⟩) (fun b u z=>by have z':(none:Option HO)=some u:=z;cases z') (fun b z=>absurd rfl z) fun z=>absurd rfl z
 | none=>
  refine core (fun b=>if b=a then some (.frz {cls:=.type "list",data:=.seq vs.toArray} (.lst (ns.map V.int))) else none) (fun b=>?_) (.inl (.inr ⟨{cls:=.type "list",data:=.seq vs.toArray},if_pos rfl⟩)) (fun b u z=>?_) (fun b z=>?_) fun _=>hk
  ·by_cases hb:b=a
   ·exact .inr ⟨_,_,if_pos hb⟩
   ·exact .inl (if_neg hb)
  ·by_cases hb:b=a
   ·have z':=(if_pos hb).symm.trans z;cases z';subst hb;exact⟨ha,by rw[length_map];exact hl,vs,_,rv,ha⟩
   ·have z':=(if_neg hb).symm.trans z;cases z'
  ·by_cases hb:b=a
   ·exact hb
   ·exact absurd (if_neg hb) z
theorem walk_of {l:W.OpenLaw}{n k:Nat}{q:Program}{loose:List Str}{XP:(Str→Option Value)→Heap→Prop}{YP:World→Heap→Prop}{d:DefRec}{K:Params→W.Frag}{CX:World→uI}{sp:World→Sp}{x:Str}
  (hn:l.most=some n) (hn2:n≤sizeLine) (hdf:d.params.defaults=[]) (hr:bW k callerA)
  (hY:∀(w:World) (h:Heap),YP w h→(K w.params).In h)
  (F:∀(w:World) (mg:Str→Option Value) (fa:Addr) (h:Heap),(K w.params).In h→h.Ns mainGlobals mg→mg d.name=some (.ref fa)→
   ∃fd:FuncData,(∀(s:Shared) (u:Value),BindsTo s fd ⟨[u],[]⟩ [(x,u)])∧
    ∀base:Heap,(K w.params).In base→base.Ns mainGlobals mg→fB l.prog w (K w.params) mg base (CX w) k fa fd [x] (sp w))
  (hsp:∀(w:World) (H:Hp) (a:Addr) (ns:List Int),ns.length≤n→Cy H→jn (K w.params) H a (ns.map V.int)→sp w [.ref a] H (fun v _=>v=.bl true) fun _ _ _=>False)
  (hCX:∀(w:World) (H:Hp) (s:Shared) (e:Value) (s':Shared),CX w [] H s (fun _ _ _=>False) e s'→False) :
  W.WalkO q loose XP YP l.row.toRowW d [] (fun f vs=>PySem.call f vs):=by
 refine Att.attach_call hn hdf fun w s₀ s₁ mg mb fa o pm cd doc a vs ns G Y ho hd hcd hmg hobj hints hlen hg=>?_
 have KX:=hY w _ Y;obtain⟨fd,hb,hF⟩:=F w mg fa _ KX G.T.g hmg;exact vV KX G.T.g G.T.b G.T.builtins G.T.nolimit hg hobj hints (Nat.le_trans hlen hn2) hr hF hb (fun H hO hS=>hsp w H a ns hlen hO hS) fun H e s'=>hCX w H s₁ e s'
def fV (s:Stmt):Arguments:=match s with
 | .FunctionDef _ a _ _ _ _ _ _ _ _=>a
 | _=>{posonlyargs:=[],args:=[],vararg:=none,kwonlyargs:=[],kw_defaults:=[],kwarg:=none,defaults:=[]}
def dA (s:Stmt):List Stmt:=match s with
 | .FunctionDef _ _ b _ _ _ _ _ _ _=>b
 | _=>[]
def bg (s:Stmt):Scope:=match s with
 | .FunctionDef _ _ _ _ _ _ sc _ _ _=>sc
 | _=>{kind:=.function,names:=[],isGenerator:=false,isCoroutine:=false}
structure Be (K:W.Frag)(x qual:Str)(st:Stmt)(f:Addr)(fd:FuncData):Prop where
 ex:∃(oc:Value) (od:Option Addr) (kV doc pm:Value) (an:Option Addr) (cdv ct:Value) (osl:Array (Option Value)),
  fd=W.fnOf x qual (fV st) (dA st) (bg st) .none kV doc pm an cdv ct∧K.lookup f=some ⟨oc,od,.func fd,osl⟩∧W.codeIn K cdv qual=true
 kp:W.keepIn K (.ref f)=true
section
variable {P:Program}{w:World}{K:W.Frag}{mg:Str→Option Value}{base:Heap}
theorem Be.binds {x qual:Str}{st:Stmt}{f:Addr}{fd:FuncData}{ps:List Str}(F:Be K x qual st f fd)
  (h:∀(kV doc pm:Value) (an:Option Addr) (cdv ct:Value) (us:List Value),us.length=ps.length→bindArgs (W.fnOf x qual (fV st) (dA st) (bg st) .none kV doc pm an cdv ct) ⟨us,[]⟩=pure (ps.zip us)):gP K fd ps []:=by
 obtain⟨oc,od,kV,doc,pm,an,cdv,ct,osl,rfl,lk,hcd⟩:=F.ex;exact .all (h kV doc pm an cdv ct)
theorem wk {x qual:Str}{st:Stmt}{f:Addr}{oc:Value}{od an:Option Addr}{osl:Array (Option Value)}{kV doc pm cdv ct:Value}(l:K.lookup f=some ⟨oc,od,.func (W.fnOf x qual (fV st) (dA st) (bg st) .none kV doc pm an cdv ct),osl⟩)
  (c:W.codeIn K cdv qual=true) (k:W.keepIn K (.ref f)=true):Be K x qual st f (W.fnOf x qual (fV st) (dA st) (bg st) .none kV doc pm an cdv ct):=⟨⟨oc,od,kV,doc,pm,an,cdv,ct,osl,rfl,l,c⟩,k⟩
end
theorem EC {A:Around}{k:Nat}(hr:bW k A):A.units+1<cLine:=Nat.lt_of_le_of_lt (Nat.add_le_add_left (by decide:1≤64) _) hr.units
section
variable {κ:Type}[DecidableEq κ]
def lK (kvs:List (κ×V))(k:κ):Option V:=(kvs.find? fun kv=>decide (kv.1=k)).map (·.2)
def nv (kvs:List (κ×V))(k:κ)(v:V):List (κ×V):=
 if(kvs.any fun kv=>decide (kv.1=k))=true then kvs.map (fun kv=>if kv.1=k then(kv.1,v) else kv) else kvs++[(k,v)]
theorem gM {p:κ×V}{r:List (κ×V)}{k:κ}(e:p.1=k):lK (p::r) k=some p.2:=by simp[lK,find?_cons,e]
theorem gH {p:κ×V}{r:List (κ×V)}{k:κ}(e:¬p.1=k):lK (p::r) k=lK r k:=by simp[lK,find?_cons,e]
theorem o9 (kvs:List (κ×V))(k:κ)(v:V):(nv kvs k v).length≤kvs.length+1:=by
 unfold nv;split
 ·rw[length_map];omega
 ·rw[length_append,length_cons,length_nil];omega
theorem KV.val {kvs:List (κ×V)}{vs:List (κ×Value)}(r:KV kvs vs)(k:κ):pe (lK kvs k) (valueAt vs k):=by
 unfold KV at r
 induction r with
 | nil=>exact True.intro
 | @cons p q ps qs h t ih=>
  obtain⟨h1,h2⟩:=h
  by_cases e:p.1=k
  ·have e':q.1=k:=h1.symm.trans e;have b:valueAt (q::qs) k=some q.2:=by simp[valueAt,find?_cons,e']
   rw[gM e,b];exact h2
  ·have e':¬q.1=k:=fun z=>e (h1.trans z)
   have b:valueAt (q::qs) k=valueAt qs k:=by simp[valueAt,find?_cons,e']
   rw[gH e,b];exact ih
theorem KV.any {kvs:List (κ×V)}{vs:List (κ×Value)}(r:KV kvs vs)(k:κ):(kvs.any fun kv=>decide (kv.1=k))=vs.any fun kv=>decide (kv.1=k):=by
 unfold KV at r
 induction r with
 | nil=>rfl
 | cons h t ih=>rw[any_cons,any_cons,ih,h.1]
theorem KV.repl {kvs:List (κ×V)}{vs:List (κ×Value)}(r:KV kvs vs)(k:κ){y:V}{u:Value}(ry:aW y u) :
  KV (kvs.map fun kv=>if kv.1=k then(kv.1,y) else kv) (vs.map fun kv=>if kv.1=k then(kv.1,u) else kv):=by
 unfold KV at r ⊢
 induction r with
 | nil=>exact .nil
 | @cons p q ps qs h t ih=>
  rw[map_cons,map_cons];refine .cons ?_ ih;obtain⟨h1,h2⟩:=h
  by_cases e:p.1=k
  ·rw[if_pos e,if_pos (h1.symm.trans e)];exact⟨h1,ry⟩
  ·rw[if_neg e,if_neg (fun z=>e (h1.trans z))];exact⟨h1,h2⟩
theorem KV.put {kvs:List (κ×V)}{vs:List (κ×Value)}(r:KV kvs vs)(k:κ){y:V}{u:Value}(ry:aW y u):KV (nv kvs k y) (stored vs k u):=by
 unfold nv stored;rw[r.any k]
 by_cases e:(vs.any fun kv=>decide (kv.1=k))=true
 ·rw[if_pos e,if_pos e];exact r.repl k ry
 ·rw[if_neg e,if_neg e];exact Paired.snoc r ⟨rfl,ry⟩
end
theorem wY {P:Program}{w:World}{k:dO}{u:Value}(r:aW (kV k) u):(bX P w).is k u=true:=by
 cases k with
 | inl i=>obtain⟨t,e⟩:=(show∃t,u=Value.int i t from r);subst e;exact nI P w i t
 | inr x=>obtain⟨t,e⟩:=(show∃t,u=Value.str x t from r);subst e;exact n9 P w x t
theorem lU {P:Program}{w:World}:∀{ks:List dO} {us:List Value},aP (ks.map kV) us→ItemsAre (bX P w) ks us
 | [],_,r=>by rw[map_nil] at r;cases r;exact .nil
 | k::ks,_,r=>by
  rw[map_cons] at r;cases r with
  | cons h t=>exact .cons (wY h) (lU t)
abbrev KT (H:Hp):List (List dO×V)→List (List dO×Addr×Value)→Prop:=Paired fun p q=>p.1=q.1∧H q.2.1=some (.tup (p.1.map kV))∧aW p.2 q.2.2
theorem KT.val {H:Hp}{kvs:List (List dO×V)}{xs:List (List dO×Addr×Value)}(r:KT H kvs xs)(k:List dO):pe (lK kvs k) ((atKey xs k).map (·.2)):=by
 induction r with
 | nil=>exact True.intro
 | @cons p q ps qs h t ih=>
  obtain⟨h1,_,h2⟩:=h
  by_cases e:p.1=k
  ·have e':q.1=k:=h1.symm.trans e;have b:atKey (q::qs) k=some q.2:=by simp[atKey,find?_cons,e']
   rw[gM e,b];exact h2
  ·have e':¬q.1=k:=fun z=>e (h1.trans z)
   have b:atKey (q::qs) k=atKey qs k:=by simp[atKey,find?_cons,e']
   rw[gH e,b];exact ih
section
variable {P:Program}{w:World}{H:Hp}{h:Heap}{a:Addr}
theorem Ab {u:HO}(ok:iD P w H h)(e:Rd H a u):cg P w H h a u:=e.ok ok
theorem wZ {kvs:List (dO×V)}(ok:iD P w H h)(e:Rd H a (.dK kvs)):kvs.length≤sizeLine∧(a==sysModules)=false∧∃vs,KV kvs vs∧h.DictOf (bX P w) a vs:=
 show cg P w H h a (.dK kvs) from Ab ok e
theorem E2 {kvs:List (dO×V)}(ok:iD P w H h)(e:H a=some (.dK kvs)):kvs.length≤sizeLine∧(a==sysModules)=false∧∃vs,KV kvs vs∧h.DictOf (bX P w) a vs:=wZ ok (.inl e)
theorem we {ks:List dO}(ok:iD P w H h)(e:H a=some (.tup (ks.map kV))):(tupleKind (bX P w)).is h ks a:=by
 obtain⟨_,its,r,o,h1,h2,n,h3⟩:=(show cg P w H h a (.tup (ks.map kV)) from ok a _ e);exact⟨o,its.toArray,n,h1,h2,h3,by simpa using lU r⟩
theorem Ac {kvs:List (List dO×V)}(ok:iD P w H h)(e:Rd H a (.dT kvs)):kvs.length≤sizeLine∧(a==sysModules)=false∧
  ∃xs,KT H kvs xs∧h.DictOfH (tupleKind (bX P w)) a xs:=by
 obtain⟨z,y,xs,r,o,es,ep,h1,h2,h3,h4,h5⟩:=(show cg P w H h a (.dT kvs) from Ab ok e);refine⟨z,y,xs,r,o,es,ep,h1,h2,h3,h4,fun x hx=>?_,h5⟩;have all:∀{l:List (List dO×V)} {m:List (List dO×Addr×Value)},KT H l m→∀x∈m,(tupleKind (bX P w)).is h x.1 x.2.1:=by
  intro l m q
  induction q with
  | nil=>intro x hx;exact nomatch hx
  | @cons p q ps qs hq t ih=>
   intro x hx;rcases mem_cons.mp hx with e|hx
   ·subst e;exact we ok (by rw[←hq.1];exact hq.2.1)
   ·exact ih x hx
 exact all r x hx
end
def n8 (H:Hp)(a:Addr)(y:V)(r:Option V):Prop:=
 (∃kvs k,Rd H a (.dK kvs)∧y=kV k∧r=lK kvs k)∨∃kvs k b,Rd H a (.dT kvs)∧y=.ref b∧H b=some (.tup (k.map kV))∧r=lK kvs k
theorem n8.k {H:Hp}{a:Addr}{kvs:List (dO×V)}{k:dO}(e:H a=some (.dK kvs)):n8 H a (kV k) (lK kvs k):=.inl ⟨kvs,k,.inl e,rfl,rfl⟩
section
variable {X:Cx}{ae:List (Addr×Obj)}{σ:St}{H:Hp}{s:Shared}{a:Addr}{y v:V}{u r:Value}{o:Option V}{A:Around}{E:Value→Shared→Prop}
theorem Inv.big (I:Inv X ae σ H s):sysModules<s.heap.objs.size:=by
 have h:mainGlobals<s.heap.objs.size:=(I.mod.glob.keeps I.bk).lt;exact Nat.lt_trans (by decide) h
theorem tP {Q:Value→Shared→Prop}(hu:A.units+1<cLine)(I:Inv X ae σ H s)(g:n8 H a y (some v))(ry:aW y u)(h:∀w' s',Inv X ae σ H s'→aW v w'→Q w' s') :
  wpAny (model X.prog X.w) A (getItem (.ref a) u) Q E s:=by
 rcases g with⟨kvs,k,e,ey,l⟩|⟨kvs,k,b,e,ey,eb,l⟩
 ·subst ey;obtain⟨z,hd,vs,rel,dd⟩:=wZ I.hok e;obtain⟨w',hw,rw'⟩:=pe.some_of (v:=v) (o:=valueAt vs k) (by rw[l];exact rel.val k);exact wpAny_getItem_of (wY ry) dd.mapOf hw (h w' _ (I.tok _) rw')
 ·subst ey;cases (show u=Value.ref b from ry);obtain⟨z,hd,xs,rel,dd⟩:=Ac I.hok e;obtain⟨w',hw,rw'⟩:=pe.some_of (v:=v) (o:=(atKey xs k).map (·.2)) (by rw[l];exact rel.val k);obtain⟨p,hp,hp2⟩:=Option.map_eq_some_iff.mp hw;refine wpAny_getItem_heap (tupleKind_room_in1 hu) (we I.hok eb) dd hp ?_;rw[hp2];exact h w' _ (I.tok _) rw'
theorem xI {h':Heap}{t':Nat}{ob:HO}(I:Inv X ae σ H s)(mu:En (H a))(hs:Heap.SameBut a s.heap h')(he:∃q,h'.get? a=some q)(new:cg X.prog X.w (cw H a ob) h' a ob) :
  Inv X ae σ (cw H a ob) {s with heap:=h',toks:=t'}:=
 I.write (x:=a) (e:=a) mu (.inl rfl) (fun b q hb z=>(hs.2 b hb).trans z) he new
theorem AE {P:Program}{w:World}{H':Hp}{h':Heap}{kvs:List (dO×V)}{vs:List (dO×Value)}(z:kvs.length≤sizeLine)(hd:(a==sysModules)=false)(rel:KV kvs vs)(dd:h'.DictOf (bX P w) a vs) :
  cg P w H' h' a (.dK kvs):=⟨z,hd,vs,rel,dd⟩
end
def BW (i:Expr):Prop:=∀ov iv,subscripted i false ov iv=operate [ov,iv] (getItem ov iv)
theorem zz {prog:Program}{w:World}{A:Around}{E:Value→Shared→Prop}{s:Shared}{env:Env}{value slice:Expr}{pos:Pos}{T id:String}{Q:Value→Shared→Prop}
  (hl:typeLookup (.type T) "__getitem__"=pure (some (.builtin id))) (hs:BW slice)
  (h:wpAny (model prog w) A (eval value env) (fun o s₁=>wpAny (model prog w) A (eval slice env) (fun i s₂=>s₂.TypeIs o T∧wpAny (model prog w) A (getItem o i) Q E s₂) E s₁) E s) :
  wpAny (model prog w) A (eval (.Subscript value slice pos) env) Q E s:=by
 refine Subscript_ (wpAny_mono h (fun o s₁ h₁=>wpAny_mono h₁ (fun i s₂ h₂=>?_) fun _ _ x=>x) fun _ _ x=>x);obtain⟨hT,h₂⟩:=h₂;unfold subscriptTail;refine wpAny_bind ?_;rw[getitemInPython_of_ne hT.not_modules];refine wpAny_bind (wpAny_specialOf hT hl ?_);have fin:wpAny (model prog w) A (subscripted slice false o i) (fun r s₃=>wpAny (model prog w) A (letTemporaryGo value o r >>= fun _=>pure r) Q E s₃) E s₂:=by
  rw[hs o i];exact wpAny_operating (wpAny_mono h₂ (fun r s₃ h₃=>wpAny_bind (wpAny_letTemporaryGo (wpAny_pure h₃))) fun _ _ x=>x)
 first
  | exact wpAny_pure (wpAny_bind fin)
  | exact wpAny_bind (wpAny_pure (wpAny_bind fin))
  | exact wpAny_bind fin
theorem ow {X:Cx}{ae:List (Addr×Obj)}{σ:St}{H:Hp}{s:Shared}{a:Addr}{y:V}{o:Option V}(I:Inv X ae σ H s)(g:n8 H a y o):s.TypeIs (.ref a) "dict":=by
 rcases g with⟨kvs,k,e,_,_⟩|⟨kvs,k,b,e,_,_,_⟩
 ·obtain⟨_,_,vs,_,dd⟩:=wZ I.hok e;exact dd.typeIs
 ·obtain⟨_,_,xs,_,dd⟩:=Ac I.hok e;exact dd.typeIs
def D6 (td ty:TE):TE:=fun σ H Q=>td σ H fun x H1=>ty σ H1 fun y H2=>∃a v,x=.ref a∧n8 H2 a y (some v)∧Q v H2
section
variable {X:Cx}{o i e value:Expr}{pos pos' tpos:Pos}{td ty tv:TE}
theorem xo (hu:X.A.units+1<cLine)(ho:PE X o td)(hi:PE X i ty)(hs:BW i):PE X (.Subscript o i pos) (D6 td ty):=by
 intro ae s σ H Q I h;refine zz PySem.F.slot_dict_getitem.lookup hs (b5 (ho ae s σ H _ I h) fun u s1 ⟨x,H1,I1,rx,q1⟩=>b5 (hi ae s1 σ H1 _ I1 q1) fun iv s2 hxx=>?_);obtain⟨y,H2,I2,ry,a,v,ex,g,q2⟩:=hxx;subst ex;obtain rfl:u=Value.ref a:=rx;exact⟨ow I2 g,tP hu I2 g ry fun w' s3 I3 rw'=>⟨v,H2,I3,rw',q2⟩⟩
end
theorem vC {P:Program}{w:World}{H:Hp}(h:Heap)(hb:sysModules<h.objs.size):cg P w H (h.push {cls:=.type "dict",data:=.dict #[]}) h.objs.size (.dK []):=
 ⟨Nat.zero_le _,beq_eq_false_iff_ne.mpr (Ne.symm (Nat.ne_of_lt hb)),[],.nil,Heap.DictOf.new h⟩
def p7:List (TE×TE)→St→Hp→(List (V×V)→Hp→Prop)→Prop
 | [],_,H,Q=>Q [] H
 | (tk,tv)::r,σ,H,Q=>tk σ H fun x H1=>tv σ H1 fun y H2=>p7 r σ H2 fun ps H3=>Q ((x,y)::ps) H3
abbrev VV:List (V×V)→List (Value×Value)→Prop:=Paired fun p q=>aW p.1 q.1∧aW p.2 q.2
def FY (X:Cx)(pos:Pos)(keys:List (Option Expr))(values:List Expr)(trs:List (TE×TE)):Prop:=
 ∀(ae:List (Addr×Obj)) (s:Shared) (σ:St) (H:Hp) (Q:List (V×V)→Hp→Prop),Inv X ae σ H s→p7 trs σ H Q→
  wpAny (model X.prog X.w) X.A (evalPairs (pairTrees keys values X.env pos)) (fun vs s'=>∃ps H',Inv X ae σ H' s'∧VV ps vs∧Q ps H') X.xe s
theorem zq {X:Cx}{pos:Pos}:FY X pos [] [] []:=fun ae s σ H Q I h=>pairTrees_nil_walk ⟨[],H,I,.nil,h⟩
theorem kI {X:Cx}{pos:Pos}{k v:Expr}{ks:List (Option Expr)}{vs:List Expr}{tk tv:TE}{trs:List (TE×TE)}(hk:PE X k tk)(hv:PE X v tv)(hr:FY X pos ks vs trs) :
  FY X pos (some k::ks) (v::vs) ((tk,tv)::trs):=fun ae s σ H Q I h=>
 pairTrees_cons_walk (b5 (hk ae s σ H _ I h) fun u s1 ⟨x,H1,I1,rx,q1⟩=>b5 (hv ae s1 σ H1 _ I1 q1) fun w2 s2 ⟨y,H2,I2,ry,q2⟩=>
  b5 (hr ae s2 σ H2 _ I2 q2) fun ws s3 ⟨ps,H3,I3,rel,q3⟩=>⟨(x,y)::ps,H3,I3,.cons ⟨rx,ry⟩ rel,q3⟩)
def iC (kvs more:List (dO×V)):List (dO×V):=more.foldl (fun acc kv=>nv acc kv.1 kv.2) kvs
theorem KV.merge:∀{more:List (dO×V)} {rs:List (dO×Value)} {kvs:List (dO×V)} {vs:List (dO×Value)},KV more rs→KV kvs vs→KV (iC kvs more) (merged vs rs):=by
 intro more rs kvs vs r;unfold KV at r
 induction r generalizing kvs vs with
 | nil=>intro q;exact q
 | @cons p q ps qs h t ih=>
  intro r0;have e:KV (nv kvs p.1 p.2) (stored vs q.1 q.2):=by
   have:=r0.put p.1 h.2;rw[←h.1];exact this
  exact ih e
theorem ij:∀(more kvs:List (dO×V)),(iC kvs more).length≤kvs.length+more.length
 | [],kvs=>by show kvs.length≤kvs.length+0;omega
 | p::r,kvs=>by
  have h1:=ij r (nv kvs p.1 p.2);have h2:=o9 kvs p.1 p.2;show(iC (nv kvs p.1 p.2) r).length≤_;rw[length_cons];omega
theorem kg {P:Program}{w:World}:∀{kvs:List (dO×V)} {ws:List (Value×Value)},VV (kvs.map fun kv=>(kV kv.1,kv.2)) ws→∃rs,Carries (bX P w) ws rs∧KV kvs rs
 | [],_,r=>by rw[map_nil] at r;cases r;exact⟨[],True.intro,.nil⟩
 | p::kvs,_,r=>by
  rw[map_cons] at r;cases r with
  | @cons a b as bs h t=>
   obtain⟨rs,c,q⟩:=kg (P:=P) (w:=w) t;obtain⟨b1,b2⟩:=b;exact⟨(p.1,b2)::rs,⟨wY h.1,rfl,c⟩,.cons ⟨rfl,h.2⟩ q⟩
def FH (trs:List (TE×TE)):TE:=fun σ H Q=>∀p,H p=none→p7 trs σ (cw H p (.dK [])) fun ps H2=>H2 p=some (.dK [])∧∃kvs:List (dO×V),ps=kvs.map (fun kv=>(kV kv.1,kv.2))∧kvs.length≤15∧Q (.ref p) (cw H2 p (.dK (iC [] kvs)))
theorem xM {X:Cx}{pos:Pos}{keys:List (Option Expr)}{values:List Expr}{trs:List (TE×TE)}(h:FY X pos keys values trs)(hall:keys.all (·.isSome)=true)(hl:keys.length=values.length)(h0:keys≠[])
  (h15:keys.length≤15):PE X (.Dict keys values pos) (FH trs):=by
 intro ae s σ H Q I q;have hn:=I.hok.fresh (Nat.le_refl s.heap.objs.size);have I1:=I.laid (a:=s.heap.objs.size) (o:=.dK []) (h':=s.heap.push {cls:=.type "dict",data:=.dict #[]}) (t':=s.toks) (fun _ _ q=>Heap.get?_push_of_some _ q) (Nat.le_refl _) (vC s.heap I.big);refine wpAny_Dict_walk (knd:=bX X.prog X.w) hall hl h0 h15 (b5 (h ae _ σ _ _ I1 (q _ hn)) fun ws s2 hxx=>?_);obtain⟨ps,H2,I2,rel,e,kvs,ep,lk,q2⟩:=hxx;subst ep;obtain⟨rs,c,rk⟩:=kg (P:=X.prog) (w:=X.w) rel;obtain⟨z,hd,vs0,r0,dd⟩:=E2 I2.hok e;cases r0;refine⟨rs,c,dd,fun h' dd' hs=>⟨.ref s.heap.objs.size,_,?_,rfl,q2⟩⟩;have hz:(iC [] kvs).length≤sizeLine:=by
  have h1:=ij kvs [];rw[length_nil] at h1;rw[sizeLine_eq];omega
 have he:∃q,h'.get? s.heap.objs.size=some q:=let ⟨q,_,_,hq,_⟩:=dd';⟨q,hq⟩
 exact xI I2 (by rw[e];exact True.intro) hs he (AE hz hd (rk.merge .nil) dd')
structure M1 (X:Cx)(o:Expr)(m:Str)(apos:Pos)(e:Expr)(cpos:Pos):Prop where
 base:attributeBase o m X.env (eval o X.env)=eval o X.env
 few:((backTo cpos (starEach [e] X.env)).all (fun x=>!x.1)&&(backToKw cpos (keywordEach [] X.env)).all (fun x=>x.1.isSome)
  && decide (([e]:List Expr).length+([]:List Keyword).length+(if([]:List Keyword).isEmpty then 0 else 1)<30))=true
 line:(apos.endLine==cpos.line)=true
 trees:backTo cpos (starEach [e] X.env)=[(false,eval e X.env)]
structure M2 (X:Cx)(o:Expr)(m:Str)(apos:Pos)(e f:Expr)(cpos:Pos):Prop where
 base:attributeBase o m X.env (eval o X.env)=eval o X.env
 few:((backTo cpos (starEach [e,f] X.env)).all (fun x=>!x.1)&&(backToKw cpos (keywordEach [] X.env)).all (fun x=>x.1.isSome)
  && decide (([e,f]:List Expr).length+([]:List Keyword).length+(if([]:List Keyword).isEmpty then 0 else 1)<30))=true
 line:(apos.endLine==cpos.line)=true
 trees:backTo cpos (starEach [e,f] X.env)=[(false,eval e X.env),(false,eval f X.env)]
end L2
namespace Att
open PySem PySem.W PySem.Calls PyProof.Rows
end Att
namespace L2
open PySem PySem.Spec PyProof.Rows List
end L2
namespace DL
open PySem PySem.Spec PyProof.Rows L2 List
structure Ee (X:Cx)(ae:List (Addr×Obj))(H:Hp)(B:Heap):Prop where
 trk:∀b o,H b=some o→∃o',B.get? b=some o'
 pin:∀p∈X.pn++ae,∃o',B.get? p.1=some o'
 old:∀b o,X.s₀.heap.get? b=some o→b∉X.ex→b∉lC X.stack→∃o',B.get? b=some o'
def GK (X:Cx)(H:Hp)(a C:Addr)(s:Shared):Prop:=∃ae σ,
 (∃h vs,L2.Inv X ae σ H {s with heap:=h}∧Heap.MadeExcOf h s.heap a (.ref C) vs)∨
 (L2.Inv X ae σ H s∧H a=none∧∃B a0,Heap.FlyingW B X.stack a (.ref C) a0 s.heap∧Ee X ae H B)∨
 (L2.Inv X ae σ H s∧H a=none∧∃B a0 L,X.env.frame=some L∧Heap.HeldW B X.stack a (.ref C) a0 L s.heap∧Ee X ae H B)
def ky (K:W.Frag)(c:Str)(C:Addr):Prop:=W.nsIn K mainGlobals c=some (some (.ref C))
theorem kZ {P:Program}{w:World}{H:Hp}{h:Heap}{a:Addr}{o:HO}(x:cg P w H h a o):∃u,h.get? a=some u:=by
 cases o with
 | lst xs=>obtain⟨_,_,_,_,e⟩:=x;exact⟨_,e⟩
 | tup xs=>obtain⟨_,_,_,o,e,_⟩:=x;exact⟨_,e⟩
 | dK kvs=>obtain⟨_,_,_,_,o,_,_,e,_⟩:=x;exact⟨_,e⟩
 | dT kvs=>obtain⟨_,_,_,_,o,_,_,e,_⟩:=x;exact⟨_,e⟩
 | set S n=>obtain⟨o,_,_,_,e,_⟩:=x;exact⟨_,e⟩
 | ins C dx fs=>obtain⟨_,_,_,e,_⟩:=x;exact⟨_,e⟩
 | own y=>obtain⟨_,e⟩:=x;exact⟨_,e⟩
 | xd fs=>obtain⟨_,⟨_,_,_,e,_⟩,_⟩:=x;exact⟨_,e⟩
 | rng lo hi=>obtain⟨_,_,_,e⟩:=x;exact⟨_,e⟩
 | frz ob u=>obtain⟨e,_⟩:=x;exact⟨_,e⟩
 | tbl ps=>exact⟨_,show h.get? a=some _ from x⟩
 | met f y=>exact⟨_,show h.get? a=some _ from x⟩
 | ext φ=>obtain⟨_,⟨_,e⟩,_⟩:=x;exact⟨_,e⟩
section
variable {X:Cx}{ae:List (Addr×Obj)}{σ:List (Option V)}{H:Hp}{s:Shared}{B h':Heap}{a C:Addr}
theorem mH (I:L2.Inv X ae σ H s){b:Addr}{o:Obj}(e:X.s₀.heap.get? b=some o)(n:b∉X.fs):b∉lC X.stack:=fun z=>by
 rcases mem_cons.mp (I.stkSub b z) with q|q
 ·have h1:=Heap.lt_size e;rw[q] at h1;exact absurd (Nat.lt_of_lt_of_le h1 I.ok.above) (Nat.lt_irrefl _)
 ·exact n q
theorem sA {h h':Heap}{c:Addr}{v:Option Value}(u:h.UpToSlots h')(x:h.IsCell c v):h'.IsCell c v:=by
 obtain⟨o,e,d⟩:=x;obtain⟨sl,e'⟩:=u c o e fun vs q=>by rw[d] at q;cases q
 exact⟨_,e',d⟩
theorem uO (I:L2.Inv X ae σ H s)(cov:Ee X ae H B)(hB:B.StaysIn s.heap)(hB':B.StaysIn h')(up:s.heap.UpToSlots h'):L2.Inv X ae σ H {s with heap:=h'}:=by
 have keepB:∀b o o',B.get? b=some o'→s.heap.get? b=some o→h'.get? b=some o:=fun b o o' e1 e2=>by
  have:=hB b o' e1;rw[e2] at this;cases this;exact hB' b _ e1
 refine⟨I.ok,I.os,I.bare,⟨fun b o e n nf nx=>?_,fun b o e n hf nx=>?_,fun b o e n nx=>I.base.free b o e n nx,fun b o e nx=>?_,I.base.tups,I.base.frzs,I.base.tbls⟩,?_,fun x c e=>?_,I.free,I.freeC,fun p hp=>?_,fun b o e=>?_,I.len⟩
 ·obtain⟨o',e'⟩:=cov.old b o e nx (mH I e nf);exact keepB b o o' e' (I.base.keep b o e n nf nx)
 ·obtain⟨sl,e1⟩:=I.base.slot b o e n hf nx;obtain⟨_,ob,e2,nf⟩:=I.funs.mem hf;rw[e1] at e2;cases e2;obtain⟨sl',e3⟩:=up b _ e1 nf;exact⟨sl',e3⟩
 ·by_cases hf:b∈X.fs
  ·obtain⟨_,ob,e2,nf⟩:=I.funs.mem hf;obtain⟨sl',e3⟩:=up b _ e2 nf;exact⟨_,e3⟩
  ·obtain⟨o',e'⟩:=cov.old b o e nx (mH I e hf);exact⟨o',hB' b o' e'⟩
 ·obtain⟨m,hn,hl⟩:=I.loc;refine⟨m,up.ns hn,fun i x v e1 e2 e3=>?_⟩;obtain⟨u,r,lk⟩:=hl i x v e1 e2 e3;refine⟨u,r,?_⟩;rcases lk with lk|⟨k,c,ec,ic⟩
  ·exact .inl lk
  ·exact .inr ⟨k,c,ec,sA up ic⟩
 ·obtain⟨v,ic⟩:=I.cell x c e;exact⟨v,sA up ic⟩
 ·obtain⟨e,n,ne,nf,d⟩:=I.pin p hp;obtain⟨o',e'⟩:=cov.pin p hp;exact⟨keepB p.1 p.2 o' e' e,n,ne,nf,d⟩
 ·refine(I.hok b o e).stay (fun c u hc q=>?_) (fun _ q=>q) fun _ _ q=>q
  have:∃o,H c=some o:=by
   rcases hc with z|z
   ·exact⟨o,by rw[z];exact e⟩
   ·exact⟨_,z⟩
  obtain⟨oc,ec⟩:=this;obtain⟨o',e'⟩:=cov.trk c oc ec;exact keepB c u o' e' q
theorem vL (I:L2.Inv X ae σ H s):Ee X ae H (W.hideAll s.heap (lC X.stack)):=by
 refine⟨fun b o e=>?_,fun p hp=>?_,fun b o e nx nf=>?_⟩
 ·obtain⟨u,q⟩:=kZ (I.hok b o e);exact⟨u,W.hideAll_get _ q fun z=>by rw[I.stkFree b z] at e;cases e⟩
 ·obtain⟨e,n,ne,nf,d⟩:=I.pin p hp;exact⟨p.2,W.hideAll_get _ e fun z=>by
   rcases mem_cons.mp (I.stkSub _ z) with q|q
   ·exact ne q
   ·exact nf q⟩
 ·obtain⟨o',e'⟩:=I.base.there b o e nx;exact⟨o',W.hideAll_get _ e' nf⟩
theorem oe (I:L2.Inv X ae σ H s):s.heap.FunFrames (W.hideAll s.heap (lC X.stack)) X.stack:=
 W.funFrames_hide I.stack fun env he b hb=>mem_filterMap.mpr ⟨env,he,hb⟩
theorem tF {vs:List Value}{h:Heap}(I:L2.Inv X ae σ H {s with heap:=h})(m:Heap.MadeExcOf h s.heap a (.ref C) vs):H a=none:=by
 cases q:H a with
 | none=>rfl
 | some o=>
  obtain⟨u,e⟩:=kZ (I.hok a o q);have e:h.get? a=some u:=e;rw[m.new] at e;cases e
end
def jP (P:Program)(w:World):uI:=fun outer H s E e s'=>∃a C H' B a0,e=.ref a∧s'.os=s.os∧AllBare s'.gens∧Un (lC outer) [] H H' s.heap s'.heap∧iD P w H' s'.heap∧H' a=none∧
 Heap.FlyingW B outer a (.ref C) a0 s'.heap∧(∀b o,H' b=some o→∃o',B.get? b=some o')∧(∀b o,s.heap.get? b=some o→b∉lC outer→∃o',B.get? b=some o')∧E (.ref C) (some a) H'
theorem qj {P:Program}{w:World}{K:W.Frag}{mg:Str→Option Value}{base:Heap}{N:List Str}{qual:Str}{scope:Scope}{f:Addr}{cdv:Value}{A:Around}{outer:List Env}{s s':Shared}{H H':Hp}{E:XK}{a C:Addr}
  (fl:GK (iV (jP P w) P w K mg base N qual scope f cdv A outer s H E) H' a C s') (hE:E (.ref C) (some a) H'):(iV (jP P w) P w K mg base N qual scope f cdv A outer s H E).xe (.ref a) s':=by
 show wpAny (model P w) (A.deeper (envOfC qual scope s.heap.objs.size f cdv)) (leaving (envOfC qual scope s.heap.objs.size f cdv) (.ref a)) (fun _ s''=>jP P w outer H s E (.ref a) s'') (fun e' s''=>jP P w outer H s E e' s'') s';obtain⟨ae,σ,fl⟩:=fl;have key:∀(B:Heap) (a0:Value) (h':Heap) (I:L2.Inv (iV (jP P w) P w K mg base N qual scope f cdv A outer s H E) ae σ H' s'),B.StaysIn s'.heap→Ee (iV (jP P w) P w K mg base N qual scope f cdv A outer s H E) ae H' B→H' a=none→
   Heap.FlyingW B outer a (.ref C) a0 h'→s'.heap.UpToSlots h'→jP P w outer H s E (.ref a) {s' with heap:=h'}:=fun B a0 h' I hB cov hn fl' up=>by
  have I':=uO I cov hB fl'.1 up;refine⟨a,C,H',B,a0,rfl,I'.os,I'.bare,I'.base,I'.hok,hn,fl',cov.trk,fun b o e nf=>?_,hE⟩;exact cov.old b o e (by show b∉([]:List Addr);simp) (mH I e nf)
 rcases fl with⟨h,vs,I,m⟩|⟨I,hn,B,a0,fl,cov⟩|⟨I,hn,B,a0,L,hL,held,cov⟩
 ·have cov:=vL I;have hid:∀b o,(W.hideAll h (lC (iV (jP P w) P w K mg base N qual scope f cdv A outer s H E).stack)).get? b=some o→h.get? b=some o:=fun b o q=>W.of_hideAll _ q
  refine wpAny_leaves_madeW (env:=envOfC qual scope s.heap.objs.size f cdv) (outer:=outer) I.ok.frames rfl hid (oe I) m fun h' t x1 x2 x3 x4=>?_
  exact key _ _ h' (I.kept (t':=s'.toks) (h':=s'.heap) m.keeps) (fun b o q=>m.keeps b o (hid b o q)) cov (tF I m) x1 x4
 ·refine wpAny_leaves_onW (env:=envOfC qual scope s.heap.objs.size f cdv) (outer:=outer) I.ok.frames rfl fl fun h' x1 x2=>?_
  exact key B a0 h' I fl.1 cov hn x1 x2
 ·unfold leaving;refine wpAny_bind (wpAny_noteFrame_againW hL held.2.2.2 ?_);refine wpAny_landsW held fun h' x1 x2=>?_
  obtain⟨k1,k2,⟨_,_,k3⟩,k4⟩:=x1;exact key B a0 h' I held.1 cov hn ⟨k1,k2,k3,k4⟩ x2
theorem sO {X:Cx}{ae:List (Addr×Obj)}{σ:L2.St}{H:Hp}{s:Shared}{e:Value}{s':Shared}{E:XK}(I:L2.Inv X ae σ H s)(h:jP X.prog X.w X.stack H s E e s'):∃a C H',e=.ref a∧GK X H' a C s'∧E (.ref C) (some a) H':=by
 obtain⟨a,C,H',B,a0,rfl,os,bare,un,hok,hn,fl,trk,old,hE⟩:=h;refine⟨a,C,H',rfl,⟨ae,σ,.inr (.inl ⟨I.call' os un hok bare (fun b z=>absurd z (by simp)),hn,B,a0,fl,trk,fun p hp=>?_,fun b o eb nx nf=>?_⟩)⟩,hE⟩
 ·obtain⟨eb,n,ne,nf,d⟩:=I.pin p hp;exact old p.1 p.2 eb fun z=>by
   rcases mem_cons.mp (I.stkSub _ z) with q|q
   ·exact ne q
   ·exact nf q
 ·obtain⟨o',e'⟩:=I.base.there b o eb nx;exact old b o' e' nf
inductive D where
 | non|bl (b:Bool)|int (i:Int)|str (x:Str)|tup (xs:List D)|lst (xs:List D)|ro (xs:List D)|mr (i:Nat)|exc (c:Str)|any
instance:Inhabited D:=⟨.non⟩
inductive MO where
 | lst (xs:List D)|obj (c:Str) (fs:List (Str×D))|dK (kvs:List (dO×D))|dT (kvs:List (List dO×D))
instance:Inhabited MO:=⟨.lst []⟩
abbrev ax:=List MO
abbrev a8:=List (Option D)
inductive aI (α:Type) where
 | ok (a:α) (M:ax)
 | err (c:Str) (M:ax)
 | bad
def aI.bind {α β:Type}(o:aI α)(f:α→ax→aI β):aI β:=
 match o with
 | .ok a M=>f a M
 | .err c M=>.err c M
 | .bad=>.bad
@[simp] theorem ai {α β:Type} (a:α) (M:ax) (f:α→ax→aI β):(aI.ok a M).bind f=f a M:=by rw[aI.bind]
@[simp] theorem Eo {α β:Type} (c:Str) (M:ax) (f:α→ax→aI β):(aI.err c M:aI α).bind f=.err c M:=by rw[aI.bind]
@[simp] theorem EA {α β:Type} (f:α→ax→aI β):(aI.bad:aI α).bind f=.bad:=by rw[aI.bind]
def H9 (K:W.Frag)(a:Addr)(xs:List V):Prop:=∃(o:Obj) (its:Array Value) (n:Nat),K.lookup a=some o∧o.cls=.type "tuple"∧o.data=.seq its n∧its.size≤sizeLine∧aP xs its.toList
def KL (K:W.Frag)(a:Addr)(xs:List V):Prop:=∃(o:Obj) (its:Array Value) (n:Nat),K.lookup a=some o∧o.cls=.type "list"∧o.dict=none∧o.data=.seq its n∧its.size≤sizeLine∧aP xs its.toList
def kb (K:W.Frag)(θ:List Addr)(H:Hp)(a:Addr)(xs:List V):Prop:=H a=some (.tup xs)∧a∉θ
def lW (θ:List Addr)(H:Hp)(a:Addr)(xs:List V):Prop:=H a=some (.lst xs)∧a∉θ
def lG (K:W.Frag)(θ:List Addr)(H:Hp)(a:Addr)(xs:List V):Prop:=(Rd H a (.lst xs)∧a∉θ)∨KL K a xs
theorem kb.sq {K:W.Frag}{θ:List Addr}{H:Hp}{a:Addr}{xs:List V}(h:kb K θ H a xs):nC K H a xs:=.inl (.inl h.1)
theorem lW.sq {K:W.Frag}{θ:List Addr}{H:Hp}{a:Addr}{xs:List V}(h:lW θ H a xs):jn K H a xs:=.inl (.inl h.1)
theorem lG.sq {K:W.Frag}{θ:List Addr}{H:Hp}{a:Addr}{xs:List V}(h:lG K θ H a xs):jn K H a xs:=by
 rcases h with⟨h,_⟩|h
 ·exact .inl h
 ·exact .inr h
def Gy (a C:Addr):HO:=.ext fun h=>∃o,h.get? a=some o∧o.cls=.ref C
mutual
def cQ (K:W.Frag)(θ:List Addr)(H:Hp):D→V→Prop
 | .non,v=>v=.non
 | .bl b,v=>v=.bl b
 | .int i,v=>v=.int i
 | .str x,v=>v=.str x
 | .tup ds,v=>∃a vs,v=.ref a∧kb K θ H a vs∧aU K θ H ds vs
 | .lst ds,v=>∃a vs,v=.ref a∧lW θ H a vs∧aU K θ H ds vs
 | .ro ds,v=>∃a vs,v=.ref a∧lG K θ H a vs∧aU K θ H ds vs
 | .mr i,v=>∃a,v=.ref a∧θ[i]?=some a
 | .exc c,v=>∃a C,v=.ref a∧ky K c C∧H a=some (Gy a C)∧a∉θ
 | .any,_=>True
def aU (K:W.Frag)(θ:List Addr)(H:Hp):List D→List V→Prop
 | [],vs=>vs=[]
 | d::ds,vs=>∃v r,vs=v::r∧cQ K θ H d v∧aU K θ H ds r
end
def oW (K:W.Frag)(θ:List Addr)(H:Hp):List (Str×D)→List (Str×V)→Prop
 | [],vs=>vs=[]
 | (f,d)::fs,vs=>∃v r,vs=(f,v)::r∧cQ K θ H d v∧oW K θ H fs r
def mO {κ:Type}(K:W.Frag)(θ:List Addr)(H:Hp):List (κ×D)→List (κ×V)→Prop
 | [],vs=>vs=[]
 | (k,d)::fs,vs=>∃v r,vs=(k,v)::r∧cQ K θ H d v∧mO K θ H fs r
def lH (K:W.Frag)(θ:List Addr)(H:Hp):MO→Addr→Prop
 | .lst ds,a=>∃vs,H a=some (.lst vs)∧aU K θ H ds vs
 | .obj c fs,a=>∃C dx vs,ky K c C∧H a=some (.ins C dx vs)∧oW K θ H fs vs
 | .dK kvs,a=>∃vs,H a=some (.dK vs)∧mO K θ H kvs vs
 | .dT kvs,a=>∃vs,H a=some (.dT vs)∧mO K θ H kvs vs
def eF:List Str:=["ink_shown","table_within","slots_given","cast_on_slots"]
def xH (x:Str):Str:=x++(".<locals>.<lambda>":Str)
def Fc (c:Addr)(q:Str):HO:=.ext fun h=>h.CodeRec (.ref c) q
def Hw (ob:Obj):HO:=.frz ob (.ext fun _=>True)
structure ji (K:W.Frag)(H:Hp):Prop where
 tab:∀x,x∈eF→∀c P,W.tabIn K x=some (c,P)→∃ps,H P=some (.tbl ps)∧TriplesOk ps.toList∧∀pos cv,codeAmong pos ps.toList=some cv→∃c',cv=.ref c'∧H c'=some (Fc c' (xH x))
 bm:∀x,x∈eF→∀c P,W.tabIn K x=some (c,P)→∃bm ob,W.nsIn K mainGlobals "__builtins__"=some (some (.ref bm))∧H bm=some (Hw ob)∧ob.cls=.type "module"∧ob.dict=some builtinsNs∧ob.data=.plain∧bm≠builtinsNs∧bm≠mainGlobals
theorem ji.of {K:W.Frag}{H H':Hp}(t:ji K H)(k1:∀b ps,H b=some (.tbl ps)→H' b=some (.tbl ps))(k2:∀b φ,H b=some (.ext φ)→H' b=some (.ext φ))(k3:∀b o u,H b=some (.frz o u)→H' b=some (.frz o u)):ji K H':=
 ⟨fun x hx c P e=>by
  obtain⟨ps,h1,h2,h3⟩:=t.tab x hx c P e;refine⟨ps,k1 _ _ h1,h2,fun pos cv q=>?_⟩;obtain⟨c',e1,e2⟩:=h3 pos cv q;exact⟨c',e1,k2 _ _ e2⟩,fun x hx c P e=>by
  obtain⟨bm,ob,e1,e2,r⟩:=t.bm x hx c P e;exact⟨bm,ob,e1,k3 _ _ _ e2,r⟩⟩
theorem ji.new {K:W.Frag}{H:Hp}{p:Addr}{o:HO}(t:ji K H)(hp:H p=none):ji K (cw H p o):=
 t.of (fun b ps e=>by rw[aK (a7 e hp)];exact e) (fun b φ e=>by rw[aK (a7 e hp)];exact e) fun b o u e=>by rw[aK (a7 e hp)];exact e
def pI:HO→Bool
 | .tbl _=>false
 | .ext _=>false
 | .frz _ _=>false
 | _=>true
theorem ji.at_ {K:W.Frag}{H:Hp}{a:Addr}{o u:HO}(t:ji K H)(ha:H a=some u)(hu:pI u=true):ji K (cw H a o):=
 t.of (fun b ps e=>by rw[aK (qQ e ha (by intro z;subst z;cases hu))];exact e) (fun b φ e=>by rw[aK (qQ e ha (by intro z;subst z;cases hu))];exact e) fun b o u e=>by rw[aK (qQ e ha (by intro z;subst z;cases hu))];exact e
theorem ji.no {K:W.Frag}{H:Hp}(h:∀x,x∈eF→W.nsIn K mainGlobals x=some none):ji K H:=by
 have no:∀x,x∈eF→∀c P,W.tabIn K x≠some (c,P):=fun x hx c P e=>by
  unfold W.tabIn at e;rw[h x hx] at e;cases e
 exact⟨fun x hx c P e=>absurd e (no x hx c P),fun x hx c P e=>absurd e (no x hx c P)⟩
structure Wr (K:W.Frag)(θ:List Addr)(H:Hp)(M:ax):Prop where
 len:θ.length=M.length
 nd:θ.Nodup
 at_:∀(i:Nat) a m,θ[i]?=some a→M[i]?=some m→lH K θ H m a
 tb:ji K H
structure gJ (K:W.Frag)(θ:List Addr)(H:Hp)(σ:L2.St)(ρ:a8):Prop where
 len:ρ.length=σ.length
 at_:∀(i:Nat) d,ρ[i]?=some (some d)→∃v,σ[i]?=some (some v)∧cQ K θ H d v
structure Grow (θ:List Addr)(H:Hp)(θ':List Addr)(H':Hp):Prop where
 ext:∃more,θ'=θ++more∧∀a∈more,H a=none
 keep:∀b o,H b=some o→b∉θ→(∀ps,o≠.tbl ps)→H' b=some o
 tkeep:∀b ps,H b=some (.tbl ps)→∃ps',H' b=some (.tbl ps')
structure Go (K:W.Frag)(θ:List Addr)(H:Hp)(θ':List Addr)(H':Hp)(M':ax):Prop extends Grow θ H θ' H' where
 wr:Wr K θ' H' M'
section
variable {K:W.Frag}{θ θ' θ1 θ2:List Addr}{H H' H1 H2:Hp}{M M' M1 M2:ax}{a p:Addr}{σ:L2.St}{ρ:a8}
theorem Wr.tracked (w:Wr K θ H M)(h:a∈θ):H a≠none:=by
 obtain⟨i,hi,e⟩:=mem_iff_getElem.mp h;have h1:θ[i]?=some a:=by rw[getElem?_eq_getElem hi,e]
 have h2:i<M.length:=by rw[←w.len];exact hi
 have h3:=w.at_ i a _ h1 (getElem?_eq_getElem h2);cases q:M[i] with
 | lst ds=>
  rw[q] at h3;obtain⟨vs,e,_⟩:=h3;rw[e];simp
 | obj c fs=>
  rw[q] at h3;obtain⟨C,dx,vs,_,e,_⟩:=h3;rw[e];simp
 | dK kvs=>
  rw[q] at h3;obtain⟨vs,e,_⟩:=h3;rw[e];simp
 | dT kvs=>
  rw[q] at h3;obtain⟨vs,e,_⟩:=h3;rw[e];simp
theorem lH.plain {m:MO}(h:lH K θ H m a):∃o,H a=some o∧pI o=true:=by
 cases m with
 | lst ds=>obtain⟨vs,e,_⟩:=h;exact⟨_,e,rfl⟩
 | obj c fs=>obtain⟨C,dx,vs,_,e,_⟩:=h;exact⟨_,e,rfl⟩
 | dK kvs=>obtain⟨vs,e,_⟩:=h;exact⟨_,e,rfl⟩
 | dT kvs=>obtain⟨vs,e,_⟩:=h;exact⟨_,e,rfl⟩
theorem Wr.plain (w:Wr K θ H M){i:Nat}(h:θ[i]?=some a):∃o,H a=some o∧pI o=true:=by
 have h2:i<M.length:=by rw[←w.len];exact(List.getElem?_eq_some_iff.mp h).1
 exact(w.at_ i a _ h (getElem?_eq_getElem h2)).plain
theorem Wr.fresh (w:Wr K θ H M)(h:H p=none):p∉θ:=fun z=>w.tracked z h
theorem Grow.refl (θ:List Addr)(H:Hp):Grow θ H θ H:=⟨⟨[],by simp,fun _ z=>by cases z⟩,fun _ _ h _ _=>h,fun b ps e=>⟨ps,e⟩⟩
theorem Go.refl (w:Wr K θ H M):Go K θ H θ H M:=⟨.refl θ H,w⟩
theorem Go.trans (a:Go K θ H θ1 H1 M1)(b:Go K θ1 H1 θ2 H2 M2):Go K θ H θ2 H2 M2:=by
 obtain⟨m1,e1,f1⟩:=a.ext;obtain⟨m2,e2,f2⟩:=b.ext;refine⟨⟨⟨m1++m2,by rw[e2,e1,append_assoc],fun x hx=>?_⟩,fun x o hx nx nt=>?_,fun x ps e=>?_⟩,b.wr⟩
 ·rcases mem_append.mp hx with z|z
  ·exact f1 x z
  ·cases q:H x with
   | none=>rfl
   | some o=>
    have nx:x∉θ:=by
     intro y;have nd:=b.wr.nd;rw[e2] at nd;have y1:x∈θ1:=by rw[e1];exact mem_append_left _ y
     exact(nodup_append.mp nd).2.2 x y1 x z rfl
    exfalso
    by_cases nt:∃ps,o=.tbl ps
    ·obtain⟨ps,rfl⟩:=nt;obtain⟨ps',e'⟩:=a.tkeep x ps q;rw[f2 x z] at e';cases e'
    ·have:=a.keep x o q nx fun ps e'=>nt ⟨ps,e'⟩
     rw[f2 x z] at this;cases this
 ·have h1:=a.keep x o hx nx nt;refine b.keep x o h1 ?_ nt;rw[e1];intro z;rcases mem_append.mp z with z|z
  ·exact nx z
  ·rw[f1 x z] at hx;cases hx
 ·obtain⟨ps',e'⟩:=a.tkeep x ps e;exact b.tkeep x ps' e'
theorem Grow.notin (g:Grow θ H θ' H'){o:HO}(h:H a=some o)(n:a∉θ):a∉θ':=by
 obtain⟨m,e,f⟩:=g.ext;rw[e];intro z;rcases mem_append.mp z with z|z
 ·exact n z
 ·rw[f a z] at h;cases h
theorem kb.grow {xs:List V}(g:Grow θ H θ' H')(h:kb K θ H a xs):kb K θ' H' a xs:=⟨g.keep _ _ h.1 h.2 (by intro _ z;cases z),g.notin h.1 h.2⟩
theorem lW.grow {xs:List V}(g:Grow θ H θ' H')(h:lW θ H a xs):lW θ' H' a xs:=⟨g.keep _ _ h.1 h.2 (by intro _ z;cases z),g.notin h.1 h.2⟩
theorem lG.grow {xs:List V}(g:Grow θ H θ' H')(h:lG K θ H a xs):lG K θ' H' a xs:=by
 rcases h with⟨h|⟨o,h⟩,n⟩|h
 ·exact .inl ⟨.inl (g.keep _ _ h n (by intro _ z;cases z)),g.notin h n⟩
 ·exact .inl ⟨.inr ⟨o,g.keep _ _ h n (by intro _ z;cases z)⟩,g.notin h n⟩
 ·exact .inr h
mutual
theorem iI (g:Grow θ H θ' H'):∀(d:D) (v:V),cQ K θ H d v→cQ K θ' H' d v
 | .non,v,h=>h
 | .bl b,v,h=>h
 | .int i,v,h=>h
 | .str x,v,h=>h
 | .tup ds,v,h=>by
  obtain⟨a,vs,e,t,r⟩:=h;exact⟨a,vs,e,t.grow g,cf g ds vs r⟩
 | .lst ds,v,h=>by
  obtain⟨a,vs,e,t,r⟩:=h;exact⟨a,vs,e,t.grow g,cf g ds vs r⟩
 | .ro ds,v,h=>by
  obtain⟨a,vs,e,t,r⟩:=h;exact⟨a,vs,e,t.grow g,cf g ds vs r⟩
 | .mr i,v,h=>by
  obtain⟨a,e,t⟩:=h;obtain⟨m,em,_⟩:=g.ext;refine⟨a,e,?_⟩;rw[em,getElem?_append_left (List.getElem?_eq_some_iff.mp t).1];exact t
 | .exc c,v,h=>by
  obtain⟨a,C,e,k,t,n⟩:=h;exact⟨a,C,e,k,g.keep _ _ t n (by intro _ z;cases z),g.notin t n⟩
 | .any,v,h=>h
theorem cf (g:Grow θ H θ' H'):∀(ds:List D) (vs:List V),aU K θ H ds vs→aU K θ' H' ds vs
 | [],vs,h=>h
 | d::ds,vs,h=>by
  obtain⟨v,r,e,h1,h2⟩:=h;exact⟨v,r,e,iI g d v h1,cf g ds r h2⟩
end
theorem cQ.go {d:D}{v:V}(h:cQ K θ H d v)(g:Go K θ H θ' H' M'):cQ K θ' H' d v:=iI g.toGrow d v h
theorem aU.go {ds:List D}{vs:List V}(h:aU K θ H ds vs)(g:Go K θ H θ' H' M'):aU K θ' H' ds vs:=cf g.toGrow ds vs h
theorem gJ.go (h:gJ K θ H σ ρ)(g:Go K θ H θ' H' M'):gJ K θ' H' σ ρ:=⟨h.len,fun i d e=>let ⟨v,e1,e2⟩:=h.at_ i d e;⟨v,e1,e2.go g⟩⟩
theorem ar:∀{ds:List D} {vs:List V},aU K θ H ds vs→ds.length=vs.length
 | [],vs,h=>by cases (show vs=[] from h);rfl
 | d::ds,vs,h=>by
  obtain⟨v,r,e,_,h2⟩:=h;subst e;rw[length_cons,length_cons,ar h2]
theorem bS:∀{ds es:List D} {vs us:List V},aU K θ H ds vs→aU K θ H es us→aU K θ H (ds++es) (vs++us)
 | [],es,vs,us,h,k=>by cases (show vs=[] from h);exact k
 | d::ds,es,vs,us,h,k=>by
  obtain⟨v,r,e,h1,h2⟩:=h;subst e;exact⟨v,r++us,rfl,h1,bS h2 k⟩
theorem dH:∀{ds:List D} {vs:List V} {i:Nat} {d:D},aU K θ H ds vs→ds[i]?=some d→∃v,vs[i]?=some v∧cQ K θ H d v
 | [],vs,i,d,h,e=>by simp at e
 | x::ds,vs,0,d,h,e=>by
  obtain⟨v,r,e1,h1,h2⟩:=h;subst e1;simp at e;subst e;exact⟨v,rfl,h1⟩
 | x::ds,vs,i+1,d,h,e=>by
  obtain⟨v,r,e1,h1,h2⟩:=h;subst e1;obtain⟨u,e2,h3⟩:=dH (i:=i) h2 (by simpa using e);exact⟨u,by simpa using e2,h3⟩
theorem lS:∀{ds:List D} {vs:List V} (n:Nat),aU K θ H ds vs→aU K θ H (ds.take n) (vs.take n)
 | ds,vs,0,h=>by rw[take_zero,take_zero];exact rfl
 | [],vs,n+1,h=>by cases (show vs=[] from h);exact rfl
 | d::ds,vs,n+1,h=>by
  obtain⟨v,r,e,h1,h2⟩:=h;subst e;exact⟨v,r.take n,rfl,h1,lS n h2⟩
theorem lT:∀{ds:List D} {vs:List V} (n:Nat),aU K θ H ds vs→aU K θ H (ds.drop n) (vs.drop n)
 | ds,vs,0,h=>h
 | [],vs,n+1,h=>by cases (show vs=[] from h);exact rfl
 | d::ds,vs,n+1,h=>by
  obtain⟨v,r,e,h1,h2⟩:=h;subst e;exact lT n h2
theorem oA {d:D}{v:V}(hd:cQ K θ H d v):∀{ds:List D} {vs:List V} (i:Nat),aU K θ H ds vs→aU K θ H (ds.set i d) (vs.set i v)
 | [],vs,i,h=>by cases (show vs=[] from h);exact rfl
 | x::ds,vs,0,h=>by
  obtain⟨u,r,e,h1,h2⟩:=h;subst e;exact⟨v,r,rfl,hd,h2⟩
 | x::ds,vs,i+1,h=>by
  obtain⟨u,r,e,h1,h2⟩:=h;subst e;exact⟨u,r.set i v,rfl,h1,oA hd i h2⟩
theorem iT {o:HO}(w:Wr K θ H M)(hp:H p=none):Grow θ H θ (cw H p o):=
 ⟨⟨[],by simp,fun _ z=>by cases z⟩,fun b u h _ _=>by rw[aK (a7 h hp)];exact h,fun b ps h=>⟨ps,by rw[aK (a7 h hp)];exact h⟩⟩
theorem l7 (g:Grow θ H θ' H'):∀{fs:List (Str×D)} {vs:List (Str×V)},oW K θ H fs vs→oW K θ' H' fs vs
 | [],vs,h=>h
 | (f,d)::fs,vs,h=>by
  obtain⟨v,r,e,h1,h2⟩:=h;exact⟨v,r,e,iI g d v h1,l7 g h2⟩
theorem jv {κ:Type}(g:Grow θ H θ' H'):∀{fs:List (κ×D)} {vs:List (κ×V)},mO K θ H fs vs→mO K θ' H' fs vs
 | [],vs,h=>h
 | (f,d)::fs,vs,h=>by
  obtain⟨v,r,e,h1,h2⟩:=h;exact⟨v,r,e,iI g d v h1,jv g h2⟩
theorem lH.grow {m:MO}(g:Grow θ H θ' H')(hs:H' a=H a)(h:lH K θ H m a):lH K θ' H' m a:=by
 cases m with
 | lst ds=>
  obtain⟨vs,e,r⟩:=h;exact⟨vs,by rw[hs];exact e,cf g ds vs r⟩
 | obj c fs=>
  obtain⟨C,dx,vs,k,e,r⟩:=h;exact⟨C,dx,vs,k,by rw[hs];exact e,l7 g r⟩
 | dK kvs=>
  obtain⟨vs,e,r⟩:=h;exact⟨vs,by rw[hs];exact e,jv g r⟩
 | dT kvs=>
  obtain⟨vs,e,r⟩:=h;exact⟨vs,by rw[hs];exact e,jv g r⟩
theorem dJ {o:HO}(w:Wr K θ H M)(hp:H p=none):Go K θ H θ (cw H p o) M:=
 ⟨iT w hp,w.len,w.nd,fun i a m h1 h2=>by
  have ha:a≠p:=fun e=>w.fresh hp (by rw[←e];exact mem_of_getElem? h1)
  exact(w.at_ i a m h1 h2).grow (iT w hp) (aK ha),w.tb.new hp⟩
theorem mY {ds:List D}{vs:List V}(w:Wr K θ H M)(hp:H p=none)(r:aU K θ H ds vs):cQ K θ (cw H p (.tup vs)) (.tup ds) (.ref p):=
 ⟨p,vs,rfl,⟨cG,w.fresh hp⟩,cf (iT w hp) ds vs r⟩
theorem eU {ds:List D}{vs:List V}(w:Wr K θ H M)(hp:H p=none)(r:aU K θ H ds vs):cQ K θ (cw H p (.lst vs)) (.lst ds) (.ref p):=
 ⟨p,vs,rfl,⟨cG,w.fresh hp⟩,cf (iT w hp) ds vs r⟩
theorem mm {o:HO}(hp:H p=none):Grow θ H (θ++[p]) (cw H p o):=
 ⟨⟨[p],rfl,fun a ha=>by rw[mem_singleton.mp ha];exact hp⟩,fun b u h _ _=>by rw[aK (a7 h hp)];exact h,fun b ps h=>⟨ps,by rw[aK (a7 h hp)];exact h⟩⟩
theorem xA {m:MO}{o:HO}(w:Wr K θ H M)(hp:H p=none)(hm:lH K (θ++[p]) (cw H p o) m p):Go K θ H (θ++[p]) (cw H p o) (M++[m]):=by
 have np:=w.fresh hp;have g:Grow θ H (θ++[p]) (cw H p o):=mm hp;refine⟨g,by rw[length_append,length_append,w.len];rfl,?_,fun i a m' h1 h2=>?_,w.tb.new hp⟩
 ·rw[nodup_append];exact⟨w.nd,by simp,fun x hx y hy e=>np (by rw[mem_singleton.mp hy] at e;rw[←e];exact hx)⟩
 ·by_cases hi:i<θ.length
  ·rw[getElem?_append_left hi] at h1;rw[getElem?_append_left (by rw[←w.len];exact hi)] at h2;have ha:a≠p:=fun e=>np (by rw[←e];exact mem_of_getElem? h1)
   exact(w.at_ i a m' h1 h2).grow g (aK ha)
  ·have hi':i=θ.length:=by
    have:=(List.getElem?_eq_some_iff.mp h1).1;rw[length_append,length_singleton] at this;omega
   subst hi';rw[getElem?_append_right (Nat.le_refl _)] at h1;rw[getElem?_append_right (by rw[w.len];exact Nat.le_refl _)] at h2;simp only[Nat.sub_self,w.len,getElem?_cons_zero,Option.some.injEq] at h1 h2;subst h1;subst h2;exact hm
theorem qF {ds:List D}{vs:List V}(w:Wr K θ H M)(hp:H p=none)(r:aU K θ H ds vs):Go K θ H (θ++[p]) (cw H p (.lst vs)) (M++[.lst ds]):=
 xA w hp ⟨vs,cG,cf (mm hp) ds vs r⟩
theorem sD {i:Nat}{o:HO}(w:Wr K θ H M)(hi:θ[i]?=some a):Grow θ H θ (cw H a o):=by
 have ha:a∈θ:=mem_of_getElem? hi;obtain⟨u,hu,pu⟩:=w.plain hi;exact⟨⟨[],by simp,fun _ z=>by cases z⟩,fun b u h n _=>by rw[aK (fun e=>n (by rw[e];exact ha))];exact h,fun b ps h=>⟨ps,by rw[aK (qQ h hu (by intro z;subst z;cases pu))];exact h⟩⟩
theorem yq {i:Nat}{m:MO}{o:HO}(w:Wr K θ H M)(hi:θ[i]?=some a)(hm:lH K θ (cw H a o) m a):Go K θ H θ (cw H a o) (M.set i m):=by
 have g:Grow θ H θ (cw H a o):=sD w hi;obtain⟨u,hu,pu⟩:=w.plain hi;refine⟨g,by rw[length_set];exact w.len,w.nd,fun j b m' h1 h2=>?_,w.tb.at_ hu pu⟩
 by_cases hj:j=i
 ·subst hj;rw[hi] at h1;cases h1;have hl:j<M.length:=by rw[←w.len];exact(List.getElem?_eq_some_iff.mp hi).1
  rw[getElem?_set_self hl] at h2;cases h2;exact hm
 ·rw[getElem?_set_ne (Ne.symm hj)] at h2;have hb:b≠a:=fun e=>by
   subst e;obtain⟨h3,e3⟩:=List.getElem?_eq_some_iff.mp h1;obtain⟨h4,e4⟩:=List.getElem?_eq_some_iff.mp hi;exact hj ((getElem_inj w.nd).mp (e3.trans e4.symm))
  exact(w.at_ j b m' h1 h2).grow g (aK hb)
theorem nu {i:Nat}{ds ds':List D}{vs':List V}(w:Wr K θ H M)(hi:θ[i]?=some a)(r:aU K θ H ds' vs'):Go K θ H θ (cw H a (.lst vs')) (M.set i (.lst ds')):=
 yq w hi ⟨vs',cG,cf (sD w hi) ds' vs' r⟩
end
abbrev GE:=a8→ax→aI D
abbrev GT:=a8→ax→aI Bool
abbrev GA:=a8→ax→aI (List D)
inductive Fl where
 | nx (ρ:a8)|rt (d:D)|bk (ρ:a8)|ct (ρ:a8)
abbrev GS:=a8→ax→aI Fl
def cn (X:Cx)(θ:List Addr)(H:Hp)(c:Str)(M:ax):Prop:=∀C θ' H' a s',ky X.K c C→Go X.K θ H θ' H' M→GK X H' a C s'→X.xe (.ref a) s'
def aG (X:Cx)(θ:List Addr)(H:Hp)(Q:VK):aI D→Prop
 | .ok d M'=>∀v θ' H',Go X.K θ H θ' H' M'→cQ X.K θ' H' d v→Q v H'
 | .err c M'=>cn X θ H c M'
 | .bad=>False
def jk (X:Cx)(θ:List Addr)(H:Hp)(Q:Bool→Hp→Prop):aI Bool→Prop
 | .ok b M'=>∀θ' H',Go X.K θ H θ' H' M'→Q b H'
 | .err c M'=>cn X θ H c M'
 | .bad=>False
def uj (X:Cx)(θ:List Addr)(H:Hp)(Q:List V→Hp→Prop):aI (List D)→Prop
 | .ok ds M'=>∀vs θ' H',Go X.K θ H θ' H' M'→aU X.K θ' H' ds vs→Q vs H'
 | .err c M'=>cn X θ H c M'
 | .bad=>False
def bC (X:Cx)(θ:List Addr)(H:Hp)(D:m5):aI Fl→Prop
 | .ok (.nx ρ) M'=>∀σ θ' H',Go X.K θ H θ' H' M'→gJ X.K θ' H' σ ρ→D.nx σ H'
 | .ok (.bk ρ) M'=>∀σ θ' H',Go X.K θ H θ' H' M'→gJ X.K θ' H' σ ρ→D.bk σ H'
 | .ok (.ct ρ) M'=>∀σ θ' H',Go X.K θ H θ' H' M'→gJ X.K θ' H' σ ρ→D.ct σ H'
 | .ok (.rt d) M'=>∀v θ' H',Go X.K θ H θ' H' M'→cQ X.K θ' H' d v→D.rt v H'
 | .err c M'=>cn X θ H c M'
 | .bad=>False
def tE (X:Cx)(g:GE):TE:=fun σ H Q=>∃ρ θ M,gJ X.K θ H σ ρ∧Wr X.K θ H M∧aG X θ H Q (g ρ M)
def tT (X:Cx)(g:GT):TT:=fun σ H Q=>∃ρ θ M,gJ X.K θ H σ ρ∧Wr X.K θ H M∧jk X θ H Q (g ρ M)
def tA (X:Cx)(g:GA):TA:=fun σ H Q=>∃ρ θ M,gJ X.K θ H σ ρ∧Wr X.K θ H M∧uj X θ H Q (g ρ M)
def tS (X:Cx)(g:GS):TS:=fun D σ H=>∃ρ θ M,gJ X.K θ H σ ρ∧Wr X.K θ H M∧bC X θ H D (g ρ M)
section
variable {X:Cx}{θ θ':List Addr}{H H':Hp}{M':ax}
theorem cn.go {c:Str}{M:ax}(g:Go X.K θ H θ' H' M')(h:cn X θ H c M):cn X θ' H' c M:=fun C θ2 H2 a s' k g2 fl=>h C θ2 H2 a s' k (g.trans g2) fl
theorem aG.go {Q:VK}{o:aI D}(g:Go X.K θ H θ' H' M')(h:aG X θ H Q o):aG X θ' H' Q o:=by
 cases o with
 | ok d M=>exact fun v θ2 H2 g2=>h v θ2 H2 (g.trans g2)
 | err c M=>exact cn.go (c:=c) (M:=M) g h
 | bad=>exact h
theorem jk.go {Q:Bool→Hp→Prop}{o:aI Bool}(g:Go X.K θ H θ' H' M')(h:jk X θ H Q o):jk X θ' H' Q o:=by
 cases o with
 | ok d M=>exact fun θ2 H2 g2=>h θ2 H2 (g.trans g2)
 | err c M=>exact cn.go (c:=c) (M:=M) g h
 | bad=>exact h
theorem uj.go {Q:List V→Hp→Prop}{o:aI (List D)}(g:Go X.K θ H θ' H' M')(h:uj X θ H Q o):uj X θ' H' Q o:=by
 cases o with
 | ok d M=>exact fun v θ2 H2 g2=>h v θ2 H2 (g.trans g2)
 | err c M=>exact cn.go (c:=c) (M:=M) g h
 | bad=>exact h
theorem bC.go {D:m5}{o:aI Fl}(g:Go X.K θ H θ' H' M')(h:bC X θ H D o):bC X θ' H' D o:=by
 cases o with
 | ok f M=>cases f <;> exact fun v θ2 H2 g2=>h v θ2 H2 (g.trans g2)
 | err c M=>exact cn.go (c:=c) (M:=M) g h
 | bad=>exact h
end
section
variable {X:Cx}{e:Expr}
theorem _root_.L2.PE.of {t t':TE}(h:PE X e t)(w:∀σ H Q,t' σ H Q→t σ H Q):PE X e t':=fun ae s σ H Q I q=>h ae s σ H Q I (w σ H Q q)
theorem _root_.L2.PT.of {t t':TT}(h:PT X e t)(w:∀σ H Q,t' σ H Q→t σ H Q):PT X e t':=fun ae s σ H Q I q=>h ae s σ H Q I (w σ H Q q)
theorem _root_.L2.PW.of {t t':TT}(h:PW X e t)(w:∀σ H Q,t' σ H Q→t σ H Q):PW X e t':=fun wh ae s σ H Q I q=>h wh ae s σ H Q I (w σ H Q q)
theorem _root_.L2.PA.of {es:List Expr}{t t':TA}(h:PA X es t)(w:∀σ H Q,t' σ H Q→t σ H Q):PA X es t':=fun pos ae s σ H Q I q=>h pos ae s σ H Q I (w σ H Q q)
theorem _root_.L2.PS.of {st:Stmt}{t t':TS}(h:PS X st t)(w:∀D σ H,t' D σ H→t D σ H):PS X st t':=fun ae s σ H D I q=>h ae s σ H D I (w D σ H q)
theorem _root_.L2.PSs.of {st:List Stmt}{t t':TS}(h:PSs X st t)(w:∀D σ H,t' D σ H→t D σ H):PSs X st t':=fun ae s σ H D I q=>h ae s σ H D I (w D σ H q)
theorem bj {g:GE}{σ:L2.St}{H:Hp}{Q:VK}{α:Type}{ρ:a8}{θ:List Addr}{M:ax}(hd:gJ X.K θ H σ ρ)(hw:Wr X.K θ H M)(F:aI α→Prop)(Fe:∀c M',F (.err c M')→cn X θ H c M')(Fb:F .bad→False)
  {f:D→ax→aI α} (h:F ((g ρ M).bind f))
  (k:∀d M1 v θ1 H1,Go X.K θ H θ1 H1 M1→cQ X.K θ1 H1 d v→F (f d M1)→Q v H1):tE X g σ H Q:=by
 refine⟨ρ,θ,M,hd,hw,?_⟩;cases q:g ρ M with
 | ok d M1=>
  rw[q] at h;exact fun v θ1 H1 g1 r1=>k d M1 v θ1 H1 g1 r1 h
 | err c M1=>rw[q] at h;exact Fe c M1 h
 | bad=>rw[q] at h;exact(Fb h).elim
def af (i:Nat):GE:=fun ρ M=>match ρ[i]? with
 | some (some d)=>.ok d M
 | _=>.bad
def gC (d:D):GE:=fun _ M=>.ok d M
theorem C9 {i:Nat}(h:PE X e (Fu i)):PE X e (tE X (af i)):=h.of fun σ H Q hxx=>by
 obtain⟨ρ,θ,M,hd,hw,f⟩:=hxx;unfold af at f;split at f
 ·rename_i d q;obtain⟨v,e1,r⟩:=hd.at_ i d q;exact⟨v,e1,f v θ H (.refl hw) r⟩
 ·exact f.elim
theorem AQ {i j pos}:PE X (.Constant (.int i) j pos) (tE X (gC (.int i))):=CY.of fun σ H Q ⟨ρ,θ,M,hd,hw,f⟩=>f _ θ H (.refl hw) rfl
theorem EG {b j pos}:PE X (.Constant (.bool b) j pos) (tE X (gC (.bl b))):=EW.of fun σ H Q ⟨ρ,θ,M,hd,hw,f⟩=>f _ θ H (.refl hw) rfl
theorem Am {j pos}:PE X (.Constant .none j pos) (tE X (gC .non)):=Cb.of fun σ H Q ⟨ρ,θ,M,hd,hw,f⟩=>f _ θ H (.refl hw) rfl
theorem CC {x j pos}:PE X (.Constant (.str x) j pos) (tE X (gC (.str x))):=m4.of fun σ H Q ⟨ρ,θ,M,hd,hw,f⟩=>f _ θ H (.refl hw) rfl
abbrev F2:=D→D→ax→aI D
def g2 (f:F2)(ga gb:GE):GE:=fun ρ M=>(ga ρ M).bind fun x M1=>(gb ρ M1).bind fun y M2=>f x y M2
def rD (X:Cx)(f:F2):R2:=fun x y H Q=>∃θ M dx dy,Wr X.K θ H M∧cQ X.K θ H dx x∧cQ X.K θ H dy y∧aG X θ H Q (f dx dy M)
theorem rY {f:F2}{ga gb:GE}{σ:L2.St}{H:Hp}{Q:VK}(h:tE X (g2 f ga gb) σ H Q):DQ (rD X f) (tE X ga) (tE X gb) σ H Q:=by
 obtain⟨ρ,θ,M,hd,hw,h⟩:=h;refine bj hd hw (aG X θ H Q) (fun c M' h=>h) (fun h=>h) h fun dx M1 x θ1 H1 g1 r1 h1=>?_
 refine bj (hd.go g1) g1.wr (aG X θ1 H1 Q) (fun c M' h=>h) (fun h=>h) (h1.go g1) fun dy M2 y θ2 H2 g2 r2 h2=>?_
 exact⟨θ2,M2,dx,dy,g2.wr,r1.go g2,r2,h2.go g2⟩
theorem EE {a b:Expr}{op:Operator}{pos:Pos}{f:F2}{ga gb:GE}(ho:eL X (binaryOp op) (rD X f))(ha:PE X a (tE X ga))(hb:PE X b (tE X gb)):PE X (.BinOp a op b pos) (tE X (g2 f ga gb)):=
 (Dx ho ha hb).of fun _ _ _ h=>rY h
theorem CF {a b:Expr}{op:CmpOp}{pos:Pos}{f:F2}{ga gb:GE}(ho:eL X (compareOp op) (rD X f))(ha:PE X a (tE X ga))(hb:PE X b (tE X gb))(hm:behindInMarks op b=false):PE X (.Compare a [op] [b] pos) (tE X (g2 f ga gb)):=
 (zb ho ha hb hm).of fun _ _ _ h=>rY h
def Dt:D→ax→aI Bool
 | .bl b,M=>.ok b M
 | _,_=>.bad
def aO (g:GE):GT:=fun ρ M=>(g ρ M).bind Dt
theorem uY {θ:List Addr}{H:Hp}{Q:Bool→Hp→Prop}{o:aI D}(h:jk X θ H Q (o.bind Dt)):aG X θ H (fun x H'=>∃k,x=.bl k∧Q k H') o:=by
 cases o with
 | ok d M=>
  cases d with
  | bl b=>exact fun v θ1 H1 g1 r1=>⟨b,r1,h θ1 H1 g1⟩
  | _=>exact h.elim
 | err c M=>exact h
 | bad=>exact h
theorem Cs {g:GE}{σ:L2.St}{H:Hp}{Q:Bool→Hp→Prop}(h:tT X (aO g) σ H Q):tE X g σ H fun x H'=>∃k,x=.bl k∧Q k H':=by
 obtain⟨ρ,θ,M,hd,hw,h⟩:=h;exact⟨ρ,θ,M,hd,hw,uY h⟩
theorem u9 {a b:Expr}{op:CmpOp}{pos:Pos}{f:F2}{ga gb:GE}(ho:eL X (compareOp op) (rD X f))(ha:PE X a (tE X ga))(hb:PE X b (tE X gb))(hm:behindInMarks op b=false):PT X (.Compare a [op] [b] pos) (tT X (aO (g2 f ga gb))):=
 (yk ho ha hb hm).of fun σ H Q h=>rY (Cs h)
def xh (f f':F2)(ga gb gc:GE):GE:=fun ρ M=>(ga ρ M).bind fun x M1=>(gb ρ M1).bind fun y M2=>(f x y M2).bind fun z M3=>match z with
 | .bl true=>(gc ρ M3).bind fun w M4=>f' y w M4
 | .bl false=>.ok (.bl false) M3
 | _=>.bad
theorem DN {f f':F2}{ga gb gc:GE}{σ:L2.St}{H:Hp}{Q:VK}(h:tE X (xh f f' ga gb gc) σ H Q):vd (rD X f) (rD X f') (tE X ga) (tE X gb) (tE X gc) σ H Q:=by
 obtain⟨ρ,θ,M,hd,hw,h⟩:=h;refine bj hd hw (aG X θ H Q) (fun c M' h=>h) (fun h=>h) h fun dx M1 x θ1 H1 g1 r1 h1=>?_
 refine bj (hd.go g1) g1.wr (aG X θ1 H1 Q) (fun c M' h=>h) (fun h=>h) (h1.go g1) fun dy M2 y θ2 H2 g2 r2 h2=>?_
 refine⟨θ2,M2,dx,dy,g2.wr,r1.go g2,r2,?_⟩;have h3:=h2.go g2;cases q:f dx dy M2 with
 | ok z M3=>
  rw[q] at h3;intro v θ3 H3 g3 r3;cases z with
  | bl k=>
   refine⟨k,r3,?_⟩;cases k with
   | true=>
    rw[if_pos rfl];refine bj ((hd.go g1).go (g2.trans g3)) g3.wr (aG X θ3 H3 Q) (fun c M' h=>h) (fun h=>h) (h3.go g3) fun dw M4 w θ4 H4 g4 r4 h4=>?_
    exact⟨θ4,M4,dy,dw,g4.wr,r2.go (g3.trans g4),r4,h4.go g4⟩
   | false=>
    rw[if_neg Bool.false_ne_true];exact h3 _ θ3 H3 g3 rfl
  | _=>exact h3.elim
 | err c M3=>rw[q] at h3;exact h3
 | bad=>rw[q] at h3;exact h3
theorem wJ {a b c:Expr}{op op':CmpOp}{pos:Pos}{f f':F2}{ga gb gc:GE}(ho:eL X (compareOp op) (rD X f))(ho':eL X (compareOp op') (rD X f'))(ha:PE X a (tE X ga))(hb:PE X b (tE X gb))(hc:PE X c (tE X gc))
  (hm:lastMarks [op,op'] [b,c]=false:=by with_unfolding_all rfl):PE X (.Compare a [op,op'] [b,c] pos) (tE X (xh f f' ga gb gc)):=(v5 ho ho' ha hb hc hm).of fun _ _ _ h=>DN h
def dC (a b:GT):GT:=fun ρ M=>(a ρ M).bind fun c M1=>if c then b ρ M1 else .ok false M1
def en (a b:GT):GT:=fun ρ M=>(a ρ M).bind fun c M1=>if c then .ok true M1 else b ρ M1
def cZ (a:GT):GT:=fun ρ M=>(a ρ M).bind fun c M1=>.ok (!c) M1
theorem oY {g:GT}{σ:L2.St}{H:Hp}{Q:Bool→Hp→Prop}{α:Type}{ρ:a8}{θ:List Addr}{M:ax}(hd:gJ X.K θ H σ ρ)(hw:Wr X.K θ H M)(F:aI α→Prop)(Fe:∀c M',F (.err c M')→cn X θ H c M')(Fb:F .bad→False)
  {f:Bool→ax→aI α} (h:F ((g ρ M).bind f)) (k:∀d M1 θ1 H1,Go X.K θ H θ1 H1 M1→F (f d M1)→Q d H1):tT X g σ H Q:=by
 refine⟨ρ,θ,M,hd,hw,?_⟩;cases q:g ρ M with
 | ok d M1=>
  rw[q] at h;exact fun θ1 H1 g1=>k d M1 θ1 H1 g1 h
 | err c M1=>rw[q] at h;exact Fe c M1 h
 | bad=>rw[q] at h;exact(Fb h).elim
variable {a b:Expr}{pos:Pos}{au:List Expr}{ta tb:GT}{ga gb:GE}
theorem xv (ha:PT X a (tT X ta)):PW X (.BoolOp .And [a] pos) (tT X ta):=yR ha
theorem AG (ha:PT X a (tT X ta)):PW X (.BoolOp .Or [a] pos) (tT X ta):=BG ha
theorem Bt (ha:PT X a (tT X ta))(hb:PW X (.BoolOp .And (b::au) pos) (tT X tb)):PW X (.BoolOp .And (a::b::au) pos) (tT X (dC ta tb)):=(BC ha hb).of fun σ H Q hxx=>by
 obtain⟨ρ,θ,M,hd,hw,h⟩:=hxx;refine oY hd hw (jk X θ H Q) (fun c M' h=>h) (fun h=>h) h fun c M1 θ1 H1 g1 h1=>?_
 cases c with
 | true=>exact⟨ρ,θ1,M1,hd.go g1,g1.wr,jk.go g1 h1⟩
 | false=>exact h1 θ1 H1 g1
theorem DR (ha:PT X a (tT X ta))(hb:PW X (.BoolOp .Or (b::au) pos) (tT X tb)):PW X (.BoolOp .Or (a::b::au) pos) (tT X (en ta tb)):=(EY ha hb).of fun σ H Q hxx=>by
 obtain⟨ρ,θ,M,hd,hw,h⟩:=hxx;refine oY hd hw (jk X θ H Q) (fun c M' h=>h) (fun h=>h) h fun c M1 θ1 H1 g1 h1=>?_
 cases c with
 | true=>exact h1 θ1 H1 g1
 | false=>exact⟨ρ,θ1,M1,hd.go g1,g1.wr,jk.go g1 h1⟩
theorem AR (ha:PT X a (tT X ta)):PT X (.UnaryOp .Not a pos) (tT X (cZ ta)):=(AV ha).of fun σ H Q hxx=>by
 obtain⟨ρ,θ,M,hd,hw,h⟩:=hxx;exact oY hd hw (jk X θ H Q) (fun c M' h=>h) (fun h=>h) h fun c M1 θ1 H1 g1 h1=>h1 θ1 H1 g1
def jQ (a b:GE):GE:=fun ρ M=>(a ρ M).bind fun x M1=>match x with
 | .bl true=>b ρ M1
 | .bl false=>.ok (.bl false) M1
 | _=>.bad
theorem Al {op}{g:GE}(h:PE X a (tE X g)):PE X (.BoolOp op [a] pos) (tE X g):=Bg h
theorem Cp (ha:PE X a (tE X ga))(hb:PE X (.BoolOp .And (b::au) pos) (tE X gb)):PE X (.BoolOp .And (a::b::au) pos) (tE X (jQ ga gb)):=(Ai ha hb).of fun σ H Q hxx=>by
 obtain⟨ρ,θ,M,hd,hw,h⟩:=hxx;refine bj hd hw (aG X θ H Q) (fun c M' h=>h) (fun h=>h) h fun d M1 v θ1 H1 g1 r1 h1=>?_
 cases d with
 | bl c=>
  refine⟨c,r1,?_⟩;cases c with
  | true=>rw[if_pos rfl];exact⟨ρ,θ1,M1,hd.go g1,g1.wr,aG.go g1 h1⟩
  | false=>rw[if_neg Bool.false_ne_true];exact h1 _ θ1 H1 g1 rfl
 | _=>exact h1.elim
def ah:GA:=fun _ M=>.ok [] M
def aa (g:GE)(r:GA):GA:=fun ρ M=>(g ρ M).bind fun d M1=>(r ρ M1).bind fun ds M2=>.ok (d::ds) M2
theorem gL {g:GA}{σ:L2.St}{H:Hp}{Q:List V→Hp→Prop}{α:Type}{ρ:a8}{θ:List Addr}{M:ax}(hd:gJ X.K θ H σ ρ)(hw:Wr X.K θ H M)(F:aI α→Prop)(Fe:∀c M',F (.err c M')→cn X θ H c M')(Fb:F .bad→False)
  {f:List D→ax→aI α} (h:F ((g ρ M).bind f)) (k:∀ds M1 vs θ1 H1,Go X.K θ H θ1 H1 M1→aU X.K θ1 H1 ds vs→F (f ds M1)→Q vs H1):tA X g σ H Q:=by
 refine⟨ρ,θ,M,hd,hw,?_⟩;cases q:g ρ M with
 | ok d M1=>
  rw[q] at h;exact fun v θ1 H1 g1 r1=>k d M1 v θ1 H1 g1 r1 h
 | err c M1=>rw[q] at h;exact Fe c M1 h
 | bad=>rw[q] at h;exact(Fb h).elim
theorem BS:PA X [] (tA X ah):=iq.of fun σ H Q ⟨ρ,θ,M,hd,hw,f⟩=>f [] θ H (.refl hw) rfl
theorem yC {es:List Expr}{gr:GA}(ha:PE X e (tE X ga))(hr:PA X es (tA X gr))(hs:starEach (e::es) X.env=(false,eval e X.env)::starEach es X.env:=by rfl):PA X (e::es) (tA X (aa ga gr)):=
 (eW ha hr hs).of fun σ H Q hxx=>by
  obtain⟨ρ,θ,M,hd,hw,h⟩:=hxx;refine bj hd hw (uj X θ H Q) (fun c M' h=>h) (fun h=>h) h fun d M1 v θ1 H1 g1 r1 h1=>?_
  refine gL (hd.go g1) g1.wr (uj X θ1 H1 Q) (fun c M' h=>h) (fun h=>h) (h1.go g1) fun ds M2 vs θ2 H2 g2 r2 h2=>?_
  exact h2 (v::vs) θ2 H2 g2 ⟨v,vs,rfl,r1.go g2,r2⟩
def ko (ds:List D)(M:ax):aI D:=if ds.length≤sizeLine then .ok (.tup ds) M else .bad
def aH (ds:List D)(M:ax):aI D:=if ds.length≤sizeLine then .ok (.lst ds) M else .bad
def bN (ds:List D)(M:ax):aI D:=if ds.length≤sizeLine then .ok (.mr M.length) (M++[.lst ds]) else .bad
def dP (g:GA):GE:=fun ρ M=>(g ρ M).bind ko
def cL (g:GA):GE:=fun ρ M=>(g ρ M).bind aH
def jX (g:GA):GE:=fun ρ M=>(g ρ M).bind bN
theorem aG.tup {θ:List Addr}{H:Hp}{Q:VK}{ds:List D}{M:ax}{vs:List V}(h:aG X θ H Q (ko ds M))(hw:Wr X.K θ H M)(r:aU X.K θ H ds vs):vs.length≤sizeLine∧∀p,H p=none→Q (.ref p) (cw H p (.tup vs)):=by
 unfold ko at h
 by_cases hl:ds.length≤sizeLine
 ·rw[if_pos hl] at h;exact⟨by rw[←ar r];exact hl,fun p hp=>h _ θ _ (dJ hw hp) (mY hw hp r)⟩
 ·rw[if_neg hl] at h;exact h.elim
theorem aG.lst {θ:List Addr}{H:Hp}{Q:VK}{ds:List D}{M:ax}{vs:List V}(h:aG X θ H Q (aH ds M))(hw:Wr X.K θ H M)(r:aU X.K θ H ds vs):vs.length≤sizeLine∧∀p,H p=none→Q (.ref p) (cw H p (.lst vs)):=by
 unfold aH at h
 by_cases hl:ds.length≤sizeLine
 ·rw[if_pos hl] at h;exact⟨by rw[←ar r];exact hl,fun p hp=>h _ θ _ (dJ hw hp) (eU hw hp r)⟩
 ·rw[if_neg hl] at h;exact h.elim
theorem aG.mut {θ:List Addr}{H:Hp}{Q:VK}{ds:List D}{M:ax}{vs:List V}(h:aG X θ H Q (bN ds M))(hw:Wr X.K θ H M)(r:aU X.K θ H ds vs):vs.length≤sizeLine∧∀p,H p=none→Q (.ref p) (cw H p (.lst vs)):=by
 unfold bN at h
 by_cases hl:ds.length≤sizeLine
 ·rw[if_pos hl] at h;refine⟨by rw[←ar r];exact hl,fun p hp=>h _ (θ++[p]) _ (qF hw hp r) ⟨p,rfl,?_⟩⟩;rw[←hw.len,getElem?_append_right (Nat.le_refl _)];simp
 ·rw[if_neg hl] at h;exact h.elim
theorem AY {es:List Expr}{x1}{g:GA}(h:PA X es (tA X g)):PE X (.Tuple es x1 pos) (tE X (dP g)):=(AT h).of fun σ H Q ⟨ρ,θ,M,hd,hw,h⟩=>
 gL hd hw (aG X θ H Q) (fun c M' h=>h) (fun h=>h) h fun ds M1 vs θ1 H1 g1 r1 h1=>aG.tup (aG.go g1 h1) g1.wr r1
theorem Cm {es:List Expr}{g:GA}(h:PA X es (tA X g)):PE X (.List es pos) (tE X (cL g)):=(wB h).of fun σ H Q ⟨ρ,θ,M,hd,hw,h⟩=>
 gL hd hw (aG X θ H Q) (fun c M' h=>h) (fun h=>h) h fun ds M1 vs θ1 H1 g1 r1 h1=>aG.lst (aG.go g1 h1) g1.wr r1
theorem Cq {es:List Expr}{g:GA}(h:PA X es (tA X g)):PE X (.List es pos) (tE X (jX g)):=(wB h).of fun σ H Q ⟨ρ,θ,M,hd,hw,h⟩=>
 gL hd hw (aG X θ H Q) (fun c M' h=>h) (fun h=>h) h fun ds M1 vs θ1 H1 g1 r1 h1=>aG.mut (aG.go g1 h1) g1.wr r1
end
section
variable {K:W.Frag}{θ:List Addr}{H:Hp}{σ:L2.St}{ρ:a8}
theorem gJ.set {d:D}{v:V}(h:gJ K θ H σ ρ)(r:cQ K θ H d v)(i:Nat):gJ K θ H (σ.set i (some v)) (ρ.set i (some d)):=by
 refine⟨by rw[length_set,length_set];exact h.len,fun j d' e=>?_⟩
 by_cases hj:j=i
 ·subst hj;have hl:j<ρ.length:=by
   have:=(List.getElem?_eq_some_iff.mp e).1;rw[length_set] at this;exact this
  rw[getElem?_set_self hl] at e;have e':d=d':=by simpa using e
  subst e';exact⟨v,getElem?_set_self (by rw[←h.len];exact hl),r⟩
 ·rw[getElem?_set_ne (Ne.symm hj)] at e;obtain⟨u,e1,r1⟩:=h.at_ j d' e;exact⟨u,by rw[getElem?_set_ne (Ne.symm hj)];exact e1,r1⟩
end
def bn:GS:=fun ρ M=>.ok (.nx ρ) M
def aq (a b:GS):GS:=fun ρ M=>(a ρ M).bind fun f M1=>match f with
 | .nx ρ1=>b ρ1 M1
 | .rt d=>.ok (.rt d) M1
 | .bk ρ1=>.ok (.bk ρ1) M1
 | .ct ρ1=>.ok (.ct ρ1) M1
def aA (i:Nat)(g:GE):GS:=fun ρ M=>(g ρ M).bind fun d M1=>.ok (.nx (ρ.set i (some d))) M1
def bD (g:GE):GS:=fun ρ M=>(g ρ M).bind fun d M1=>.ok (.rt d) M1
def cD (g:GE):GS:=fun ρ M=>(g ρ M).bind fun _ M1=>.ok (.nx ρ) M1
def gn (t:GT)(a b:GS):GS:=fun ρ M=>(t ρ M).bind fun c M1=>if c then a ρ M1 else b ρ M1
section
variable {X:Cx}{st:Stmt}{au:List Stmt}{e:Expr}{g:GE}{t u:GS}{pos:Pos}
theorem AJ:PSs X [] (tS X bn):=xR.of fun D σ H ⟨ρ,θ,M,hd,hw,f⟩=>f σ θ H (.refl hw) hd
theorem za (h1:PS X st (tS X t))(h2:PSs X au (tS X u)):PSs X (st::au) (tS X (aq t u)):=(uP h1 h2).of fun D σ H hxx=>by
 obtain⟨ρ,θ,M,hd,hw,h⟩:=hxx;refine⟨ρ,θ,M,hd,hw,?_⟩;unfold aq at h;cases q:t ρ M with
 | ok f M1=>
  rw[q] at h;cases f with
  | nx ρ1=>exact fun σ1 θ1 H1 g1 d1=>⟨ρ1,θ1,M1,d1,g1.wr,bC.go g1 h⟩
  | rt d=>exact h
  | bk ρ1=>exact h
  | ct ρ1=>exact h
 | err c M1=>rw[q] at h;exact h
 | bad=>rw[q] at h;exact h
theorem AN (h1:PS X st (tS X t)):PSs X [st] (tS X t):=xQ h1
theorem AS {i:Nat}{x:Str}{pos':Pos}(hN:X.N.Nodup)(hi:X.N[i]?=some x)(hx:pj X.env.scope x)(he:PE X e (tE X g))(hs:swapsWith e (some (.Name x pos')) pos.line X.env=pure false:=by rfl)(hf:X.fn x=true∨X.env.scope.names.lookup x=some .local:=by first|exact .inl rfl|exact .inr rfl|assumption) :
  PS X (.Assign [.Name x pos'] e pos) (tS X (aA i g)):=(CU hN hi hx he hs hf).of fun D σ H ⟨ρ,θ,M,hd,hw,h⟩=>
 bj hd hw (bC X θ H D) (fun c M' h=>h) (fun h=>h) h fun d M1 v θ1 H1 g1 r1 h1=>h1 _ θ1 H1 g1 ((hd.go g1).set r1 i)
theorem Cw (he:PE X e (tE X g)):PS X (.Return (some e) pos) (tS X (bD g)):=(AW he).of fun D σ H ⟨ρ,θ,M,hd,hw,h⟩=>
 bj hd hw (bC X θ H D) (fun c M' h=>h) (fun h=>h) h fun d M1 v θ1 H1 g1 r1 h1=>h1 v θ1 H1 g1 r1
theorem xE (he:PE X e (tE X g))(hs:swapsWith e none pos.line X.env=pure false:=by rfl):PS X (.Expr e pos) (tS X (cD g)):=(yM he hs).of fun D σ H ⟨ρ,θ,M,hd,hw,h⟩=>
 bj hd hw (bC X θ H D) (fun c M' h=>h) (fun h=>h) h fun d M1 v θ1 H1 g1 r1 h1=>h1 σ θ1 H1 g1 (hd.go g1)
theorem ES {c:Expr}{a b:List Stmt}{tc:GT}(hc:PT X c (tT X tc))(ha:PSs X a (tS X t))(hb:PSs X b (tS X u)):PS X (.If c a b pos) (tS X (gn tc t u)):=(Fx hc ha hb).of fun D σ H hxx=>by
 obtain⟨ρ,θ,M,hd,hw,h⟩:=hxx;refine oY hd hw (bC X θ H D) (fun c M' h=>h) (fun h=>h) h fun c M1 θ1 H1 g1 h1=>?_
 cases c with
 | true=>rw[if_pos rfl];exact⟨ρ,θ1,M1,hd.go g1,g1.wr,bC.go g1 h1⟩
 | false=>rw[if_neg Bool.false_ne_true];exact⟨ρ,θ1,M1,hd.go g1,g1.wr,bC.go g1 h1⟩
abbrev GG:=D→a8→Option a8
def tG (X:Cx)(s:GG):TG:=fun v σ H Q=>∃ρ θ M d,gJ X.K θ H σ ρ∧Wr X.K θ H M∧cQ X.K θ H d v∧∃ρ',s d ρ=some ρ'∧∀σ',gJ X.K θ H σ' ρ'→Q σ' H
def cr (i:Nat):GG:=fun d ρ=>some (ρ.set i (some d))
def gU:List Nat→List D→a8→Option a8
 | [],[],ρ=>some ρ
 | i::is,d::ds,ρ=>gU is ds (ρ.set i (some d))
 | _,_,_=>none
def jy (is:List Nat):GG:=fun d ρ=>match d with
 | .tup ds=>gU is ds ρ
 | _=>none
theorem nh {i:Nat}{x:Str}(hN:X.N.Nodup)(hi:X.N[i]?=some x)(hx:pj X.env.scope x)(hf:X.fn x=true∨X.env.scope.names.lookup x=some .local:=by first|exact .inl rfl|exact .inr rfl|assumption):PG X (.Name x pos) (tG X (cr i)):=by
 intro ae s σ H v u Q I r h;obtain⟨ρ,θ,M,d,hd,hw,rd,ρ',e,h⟩:=h;cases e;exact zK hN hi hx hf ae s σ H v u Q I r (h _ (hd.set rd i))
def Fp (X:Cx)(is:List Nat):z7:=fun vs σ H Q=>∃ρ θ M ds,gJ X.K θ H σ ρ∧Wr X.K θ H M∧aU X.K θ H ds vs∧∃ρ',gU is ds ρ=some ρ'∧∀σ',gJ X.K θ H σ' ρ'→Q σ' H
theorem yJ:xS X [] (Fp X []):=by
 intro ae s σ H vs us Q I r h;obtain⟨ρ,θ,M,ds,hd,hw,rd,ρ',e,h⟩:=h;cases ds with
 | cons d ds=>cases e
 | nil=>
  have e2:vs=[]:=rd;subst e2;cases e;exact y7 ae s σ H [] us Q I r ⟨rfl,h σ hd⟩
theorem vj {i:Nat}{is:List Nat}{es:List Expr}(h1:PG X e (tG X (cr i)))(h2:xS X es (Fp X is))
  (hs:(assignEach (e::es) X.env).map (·.2)=assign e X.env::(assignEach es X.env).map (·.2):=by rfl):xS X (e::es) (Fp X (i::is)):=by
 intro ae s σ H vs us Q I r h;obtain⟨ρ,θ,M,ds,hd,hw,rd,ρ',e1,h⟩:=h;cases ds with
 | nil=>cases e1
 | cons d ds=>
  obtain⟨v,vr,e2,rv,rr⟩:=rd;subst e2;refine wU h1 h2 hs ae s σ H _ us Q I r ⟨v,vr,rfl,ρ,θ,M,d,hd,hw,rv,_,rfl,fun σ1 d1=>?_⟩;exact⟨_,θ,M,ds,d1,hw,rr,ρ',e1,h⟩
theorem B3 {is:List Nat}{es:List Expr}{k:Nat}{n:Nat}(hc:X.calm=true)(h:xS X es (Fp X is))(hl:is.length=n:=by rfl)
  (hn:(assignEach es X.env).length=n:=by rfl) (hst:(assignEach es X.env).findIdx? (·.1)=none:=by rfl):PG X (.Tuple es k pos) (tG X (jy is)):=by
 intro ae s σ H v u Q I r hw;obtain⟨ρ,θ,M,d,hd,hwr,rd,ρ',e1,hw⟩:=hw;cases d with
 | tup ds=>
  obtain⟨a,vs,e2,ta,rs⟩:=rd;have hlen:ds.length=is.length:=by
   have e1:gU is ds ρ=some ρ':=e1;clear hw hd hwr rs hn hst h hl
   induction is generalizing ds ρ with
   | nil=>
    cases ds with
    | nil=>rfl
    | cons _ _=>cases e1
   | cons i is ih=>
    cases ds with
    | nil=>cases e1
    | cons d ds=>rw[length_cons,length_cons,ih _ ds e1 e1]
  refine Ct (n:=n) hc h hn hst ae s σ H v u Q I r ⟨a,vs,e2,ta.sq,by rw[←ar rs,hlen,hl],?_⟩;exact⟨ρ,θ,M,ds,hd,hwr,rs,ρ',e1,hw⟩
 | _=>cases e1
def qL:List GG→List D→a8→Option a8
 | [],[],ρ=>some ρ
 | s::ss,d::ds,ρ=>match s d ρ with
  | some ρ1=>qL ss ds ρ1
  | none=>none
 | _,_,_=>none
def jU (s:GG)(g:GE):GS:=fun ρ M=>(g ρ M).bind fun d M1=>match s d ρ with
 | some ρ1=>.ok (.nx ρ1) M1
 | none=>.bad
theorem A9 {tg:Expr}{s:GG}(he:PE X e (tE X g))(hg:PG X tg (tG X s))(hs:swapsWithSole [tg] e pos.line X.env=pure false:=by rfl)(hw:swappedStores [tg] e X.env=pure none:=by rfl)
  (h1:(assignEach [tg] X.env).map (·.2)=[assign tg X.env]:=by rfl):PS X (.Assign [tg] e pos) (tS X (jU s g)):=(vM he hg hs hw h1).of fun D σ H hxx=>by
 obtain⟨ρ,θ,M,hd,hwr,h⟩:=hxx;refine bj hd hwr (bC X θ H D) (fun c M' h=>h) (fun h=>h) h fun d M1 v θ1 H1 g1 r1 h1=>?_
 cases q:s d ρ with
 | some ρ1=>
  rw[q] at h1;exact⟨ρ,θ1,M1,d,hd.go g1,g1.wr,r1,ρ1,q,fun σ' d'=>h1 σ' θ1 H1 g1 d'⟩
 | none=>rw[q] at h1;exact h1.elim
def uD (o i x:D)(M:ax):aI Unit:=match o,i with
 | .mr k,.int j=>match M[k]? with
  | some (.lst xs)=>match pW xs.length j with
   | some n=>.ok () (M.set k (.lst (xs.set n x)))
   | none=>.bad
  | _=>.bad
 | _,_=>.bad
def i3 (go gi g:GE):GS:=fun ρ M=>(g ρ M).bind fun x M1=>(go ρ M1).bind fun o M2=>(gi ρ M2).bind fun i M3=>(uD o i x M3).bind fun _ M4=>.ok (.nx ρ) M4
theorem CK {o i:Expr}{ip:Pos}{go gi:GE}(he:PE X e (tE X g))(ho:PE X o (tE X go))(hi:PE X i (tE X gi))
  (ha:∀v,assign (.Subscript o i ip) X.env v=(do
   let ov ←holding [v] (eval o X.env)
   let iv ←holding [v,ov] (eval i X.env)
   standAt ip
   holding [v,ov,iv] (setItem ov iv v)
   release [v,ov,iv] []):=by intro _;rfl)
  (hs:swapsWithSole [.Subscript o i ip] e pos.line X.env=pure false:=by rfl) (hw:swappedStores [.Subscript o i ip] e X.env=pure none:=by rfl)
  (h1:(assignEach [.Subscript o i ip] X.env).map (·.2)=[assign (.Subscript o i ip) X.env]:=by rfl):PS X (.Assign [.Subscript o i ip] e pos) (tS X (i3 go gi g)):=
 (vM he (Ad ho hi wH ha) hs hw h1).of fun D σ H hxx=>by
  obtain⟨ρ,θ,M,hd,hwr,h⟩:=hxx;refine bj hd hwr (bC X θ H D) (fun c M' h=>h) (fun h=>h) h fun dx M1 vx θ1 H1 g1 r1 h1=>?_
  refine bj (hd.go g1) g1.wr (bC X θ1 H1 D) (fun c M' h=>h) (fun h=>h) (h1.go g1) fun dob M2 vo θ2 H2 g2 r2 h2=>?_
  refine bj ((hd.go g1).go g2) g2.wr (bC X θ2 H2 D) (fun c M' h=>h) (fun h=>h) (h2.go g2) fun di M3 vi θ3 H3 g3 r3 h3=>?_
  have h4:=h3.go g3;unfold uD at h4;split at h4
  ·rename_i k j;split at h4
   ·rename_i xs q;split at h4
    ·rename_i n hn;obtain⟨a,ea,ta⟩:=r2.go g3;obtain⟨vs,ev,rv⟩:=g3.wr.at_ k a _ ta q;have ei:vi=.int j:=r3;refine⟨a,vs,j,n,ea,ei,ev,by rw[←ar rv];exact hn,?_⟩;have gs:=nu (ds:=xs) g3.wr ta (oA (r1.go (g2.trans g3)) n rv);exact h4 σ θ3 _ gs ((((hd.go g1).go g2).go g3).go gs)
    ·exact h4.elim
   ·exact h4.elim
  ·exact h4.elim
end
mutual
def Bl:D→D→Bool
 | .non,.non=>true
 | .bl a,.bl b=>a==b
 | .int a,.int b=>a==b
 | .str a,.str b=>a==b
 | .tup a,.tup b=>jH a b
 | .lst a,.lst b=>jH a b
 | .ro a,.ro b=>jH a b
 | .mr a,.mr b=>a==b
 | .exc a,.exc b=>a==b
 | .any,.any=>true
 | _,_=>false
def jH:List D→List D→Bool
 | [],[]=>true
 | a::as,b::bs=>Bl a b&&jH as bs
 | _,_=>false
end
theorem ff {P:Prop}(h:false=true):P:=absurd h Bool.false_ne_true
mutual
theorem yL:∀(a b:D),Bl a b=true→a=b
 | .non,b,h=>by
  cases b with
  | non=>rfl
  | _=>exact ff h
 | .bl x,b,h=>by
  cases b with
  | bl y=>rw[eq_of_beq (show(x==y)=true from h)]
  | _=>exact ff h
 | .int x,b,h=>by
  cases b with
  | int y=>rw[eq_of_beq (show(x==y)=true from h)]
  | _=>exact ff h
 | .str x,b,h=>by
  cases b with
  | str y=>rw[eq_of_beq (show(x==y)=true from h)]
  | _=>exact ff h
 | .tup x,b,h=>by
  cases b with
  | tup y=>rw[gG x y h]
  | _=>exact ff h
 | .lst x,b,h=>by
  cases b with
  | lst y=>rw[gG x y h]
  | _=>exact ff h
 | .ro x,b,h=>by
  cases b with
  | ro y=>rw[gG x y h]
  | _=>exact ff h
 | .mr x,b,h=>by
  cases b with
  | mr y=>rw[eq_of_beq (show(x==y)=true from h)]
  | _=>exact ff h
 | .exc x,b,h=>by
  cases b with
  | exc y=>rw[eq_of_beq (show(x==y)=true from h)]
  | _=>exact ff h
 | .any,b,h=>by
  cases b with
  | any=>rfl
  | _=>exact ff h
theorem gG:∀(a b:List D),jH a b=true→a=b
 | [],b,h=>by
  cases b with
  | nil=>rfl
  | cons _ _=>exact ff h
 | x::xs,b,h=>by
  cases b with
  | nil=>exact ff h
  | cons y ys=>
   have h:=Bool.and_eq_true_iff.mp (show(Bl x y&&jH xs ys)=true from h);rw[yL x y h.1,gG xs ys h.2]
end
structure jY where
 ds:List D
 m:Option Nat
def jY.ok (t:jY)(M:ax):Bool:=match t.m with
 | none=>true
 | some i=>match M[i]? with
  | some (.lst xs)=>jH xs t.ds
  | _=>false
abbrev GI:=a8→ax→aI jY
def xj (K:W.Frag)(J:It)(θ:List Addr)(H:Hp)(t:jY):Prop:=∀θ1 H1 M1,Go K θ H θ1 H1 M1→t.ok M1=true→∀i:Nat,
 (∀d,t.ds[i]?=some d→J.go i H1∧∀x H2,J.yld i H1 x H2→Go K θ1 H1 θ1 H2 M1∧cQ K θ1 H2 d x)∧(t.ds.length≤i→J.stop i H1)
def pY (X:Cx)(θ:List Addr)(H:Hp)(R:It→Hp→Prop):aI jY→Prop
 | .ok t M'=>∀J θ' H',Go X.K θ H θ' H' M'→xj X.K J θ' H' t→R J H'
 | .err c M'=>cn X θ H c M'
 | .bad=>False
def tI (X:Cx)(g:GI):TI:=fun σ H R=>∃ρ θ M,gJ X.K θ H σ ρ∧Wr X.K θ H M∧pY X θ H R (g ρ M)
def ms (d:D)(M:ax):aI jY:=match d with
 | .lst ds=>.ok ⟨ds,none⟩ M
 | .ro ds=>.ok ⟨ds,none⟩ M
 | .tup ds=>.ok ⟨ds,none⟩ M
 | .mr k=>match M[k]? with
  | some (.lst ds)=>.ok ⟨ds,some k⟩ M
  | _=>.bad
 | _=>.bad
section
variable {X:Cx}{tg:Expr}
theorem qS {K:W.Frag}{θ:List Addr}{H:Hp}{a:Addr}{ds:List D}{vs:List V}(ta:lG K θ H a vs)(r:aU K θ H ds vs):xj K (FQ K a) θ H ⟨ds,none⟩:=by
 intro θ1 H1 M1 g _ i;have t1:=(ta.grow g.toGrow).sq;have r1:=r.go g;refine⟨fun d e=>?_,fun hl=>⟨vs,t1,by rw[←ar r1];exact hl⟩⟩;obtain⟨v,e1,rv⟩:=dH r1 e;refine⟨⟨vs,v,t1,e1⟩,fun x H2 y=>?_⟩;obtain⟨eH,y⟩:=y;subst eH;have e2:=y vs t1;rw[e1] at e2;cases e2;exact⟨.refl g.wr,rv⟩
theorem xC {K:W.Frag}{θ:List Addr}{H:Hp}{a:Addr}{ds:List D}{vs:List V}(ta:kb K θ H a vs)(r:aU K θ H ds vs):xj K (GX K a) θ H ⟨ds,none⟩:=by
 intro θ1 H1 M1 g _ i;have t1:=(ta.grow g.toGrow).sq;have r1:=r.go g;refine⟨fun d e=>?_,fun hl=>⟨vs,t1,by rw[←ar r1];exact hl⟩⟩;obtain⟨v,e1,rv⟩:=dH r1 e;refine⟨⟨vs,v,t1,e1⟩,fun x H2 y=>?_⟩;obtain⟨eH,y⟩:=y;subst eH;have e2:=y vs t1;rw[e1] at e2;cases e2;exact⟨.refl g.wr,rv⟩
theorem yn {K:W.Frag}{θ:List Addr}{H:Hp}{a:Addr}{ds:List D}{k:Nat}(ta:θ[k]?=some a):xj K (FQ K a) θ H ⟨ds,some k⟩:=by
 intro θ1 H1 M1 g hok i;have t1:θ1[k]?=some a:=by
  obtain⟨m,em,_⟩:=g.ext;rw[em,getElem?_append_left (List.getElem?_eq_some_iff.mp ta).1];exact ta
 have hok':(match M1[k]? with|some (.lst xs)=>jH xs ds|_=>false)=true:=hok;cases q:M1[k]? with
 | none=>rw[q] at hok';cases hok'
 | some m=>
  cases m with
  | lst xs=>
   rw[q] at hok';have e:xs=ds:=gG xs ds hok';subst e;obtain⟨vs,hv,r1⟩:=g.wr.at_ k a _ t1 q;have s1:jn K H1 a vs:=.inl (.inl hv);refine⟨fun d e=>?_,fun hl=>⟨vs,s1,by rw[←ar r1];exact hl⟩⟩;obtain⟨v,e1,rv⟩:=dH r1 e;refine⟨⟨vs,v,s1,e1⟩,fun x H2 y=>?_⟩;obtain⟨eH,y⟩:=y;subst eH;have e2:=y vs s1;rw[e1] at e2;cases e2;exact⟨.refl g.wr,rv⟩
  | _=>rw[q] at hok';cases hok'
def aT (lo:Int)(n:Nat):List D:=(List.range n).map fun(k:Nat)=>D.int (lo+(k:Int))
theorem si {K:W.Frag}{θ:List Addr}{H:Hp}(lo:Int)(n:Nat):xj K (EN lo n) θ H ⟨aT lo n,none⟩:=by
 intro θ1 H1 M1 g _ i;refine⟨fun d e=>?_,fun hl=>?_⟩
 ·have hi:i<n:=by
   have:=(List.getElem?_eq_some_iff.mp e).1;simpa[aT] using this
  refine⟨hi,fun x H2 y=>?_⟩;obtain⟨eH,y⟩:=y;subst eH;refine⟨.refl g.wr,?_⟩;have e':D.int (lo+(i:Int))=d:=by
   have:(aT lo n)[i]?=some (D.int (lo+(i:Int))):=by simp[aT,hi]
   rw[this] at e;exact Option.some.inj e
  subst e';exact y
 ·have h2:(aT lo n).length≤i:=hl;have h3:n≤i:=by simpa[aT] using h2
  exact h3
def vh (ds:List D)(M:ax):aI jY:=match ds with
 | [.int j]=>if -(2 ^ 62)≤j∧j<2 ^ 62 then .ok ⟨aT 0 j.toNat,none⟩ M else .bad
 | _=>.bad
def zF (ds:List D)(M:ax):aI jY:=match ds with
 | [.int i,.int j]=>if -(2 ^ 62)≤i∧i<2 ^ 62∧-(2 ^ 62)≤j∧j<2 ^ 62 then .ok ⟨aT i (j-i).toNat,none⟩ M else .bad
 | _=>.bad
def dB (g:GA):GI:=fun ρ M=>(g ρ M).bind vh
def dD (g:GA):GI:=fun ρ M=>(g ρ M).bind zF
theorem sP {a:Expr}{g:GA}{p pos:Pos}(hg:Gl X "range")(hm:X.mg "range"=none)(ha:PA X [a] (tA X g))(hs:starEach [a] X.env=[(false,eval a X.env)]:=by rfl):PI X tg (.Call (.Name "range" p) [a] [] pos) (tI X (dB g)):=by
 intro ae s σ H R I h;refine uA hg hm ha hs ae s σ H R I ?_;obtain⟨ρ,θ,M,hd,hw,h⟩:=h;refine gL hd hw (pY X θ H R) (fun c M' h=>h) (fun h=>h) h fun ds M1 vs θ1 H1 g1 r1 h1=>?_
 unfold vh at h1;split at h1
 ·rename_i j;obtain⟨v,r,e,rv,rr⟩:=r1;have e2:r=[]:=rr;have e3:v=.int j:=rv;subst e2;subst e3;split at h1
  ·rename_i hj;exact⟨j,e,hj.1,hj.2,h1 _ θ1 H1 g1 (si 0 j.toNat)⟩
  ·exact h1.elim
 ·exact h1.elim
theorem tN {a b:Expr}{g:GA}{p pos:Pos}(hg:Gl X "range")(hm:X.mg "range"=none)(ha:PA X [a,b] (tA X g))(hs:starEach [a,b] X.env=[(false,eval a X.env),(false,eval b X.env)]:=by rfl)(hs2:starEach [b] X.env=[(false,eval b X.env)]:=by rfl):PI X tg (.Call (.Name "range" p) [a,b] [] pos) (tI X (dD g)):=by
 intro ae s σ H R I h;refine tw hg hm ha hs hs2 ae s σ H R I ?_;obtain⟨ρ,θ,M,hd,hw,h⟩:=h;refine gL hd hw (pY X θ H R) (fun c M' h=>h) (fun h=>h) h fun ds M1 vs θ1 H1 g1 r1 h1=>?_
 unfold zF at h1;split at h1
 ·rename_i i j;obtain⟨v,r,e,rv,v2,r2,e4,rv2,rr⟩:=r1;have e2:r2=[]:=rr;have e3:v=.int i:=rv;have e5:v2=.int j:=rv2;subst e2;subst e3;subst e5;subst e4;split at h1
  ·rename_i hj;exact⟨i,j,e,hj,h1 _ θ1 H1 g1 (si i (j-i).toNat)⟩
  ·exact h1.elim
 ·exact h1.elim
def bT (t:jY)(s:GG)(body:GS):List D→a8→ax→aI Fl
 | [],ρ,M=>if t.ok M then .ok (.nx ρ) M else .bad
 | d::r,ρ,M=>if t.ok M then
   match s d ρ with
   | none=>.bad
   | some ρ1=>(body ρ1 M).bind fun f M1=>match f with
    | .nx ρ2=>bT t s body r ρ2 M1
    | .ct ρ2=>bT t s body r ρ2 M1
    | .bk ρ2=>.ok (.nx ρ2) M1
    | .rt d=>.ok (.rt d) M1
  else .bad
def iw (gi:GI)(s:GG)(body:GS):GS:=fun ρ M=>(gi ρ M).bind fun t M1=>bT t s body t.ds ρ M1
theorem Bs {iter:Expr}{body:List Stmt}{gi:GI}{sg:GG}{gb:GS}{pos:Pos}(hp:PassesOwn (model X.prog X.w) X.A X.env X.xe)(hc:X.calm=true)(hi:PI X tg iter (tI X gi))(hg:PG X tg (tG X sg))(hb:PSs X body (tS X gb))
  (hs:∀x,foldedSetIterable iter X.env x=pure x:=by intro _;rfl):PS X (.For tg iter body [] pos) (tS X (iw gi sg gb)):=(BQ hp hc hi hg hb hs).of fun D σ H hxx=>by
 obtain⟨ρ,θ,M,hd,hw,h⟩:=hxx;refine⟨ρ,θ,M,hd,hw,?_⟩;unfold iw at h;cases q:gi ρ M with
 | err c M1=>rw[q] at h;exact h
 | bad=>rw[q] at h;exact h
 | ok t M1=>
  rw[q] at h;intro J θ1 H1 g1 hJ;have h:bC X θ H D (bT t sg gb t.ds ρ M1):=h;refine⟨fun i m σ' H'=>m=t.ds.length-i∧i≤t.ds.length∧∃ρ' θ' M',Go X.K θ1 H1 θ' H' M'∧gJ X.K θ' H' σ' ρ'∧bC X θ' H' D (bT t sg gb (t.ds.drop i) ρ' M'),
   ⟨t.ds.length,by simp,Nat.zero_le _,ρ,θ1,M1,.refl g1.wr,hd.go g1,bC.go g1 h⟩,?_⟩
  rintro i m σ' H' ⟨rfl,hil,ρ',θ',M',g',hd',h'⟩
  by_cases hok:t.ok M'=true
  ·obtain⟨hy,hst⟩:=hJ θ' H' M' g' hok i
   by_cases hlt:i<t.ds.length
   ·refine .inr ?_;have e1:t.ds[i]?=some t.ds[i]:=getElem?_eq_getElem hlt;obtain⟨hgo,hyl⟩:=hy _ e1;rw[drop_eq_getElem_cons hlt,bT,if_pos hok] at h';refine⟨hgo,fun σ2 H2=>∃ρ2 θ2 M2,Go X.K θ' H' θ2 H2 M2∧gJ X.K θ2 H2 σ2 ρ2∧bC X θ2 H2 D (bT t sg gb (t.ds.drop (i+1)) ρ2 M2),fun σ2 H2 ⟨ρ2,θ2,M2,g2,d2,h2⟩=>?_,fun x H2 y=>?_⟩
    ·exact⟨t.ds.length-(i+1),by omega,rfl,hlt,ρ2,θ2,M2,g'.trans g2,d2,h2⟩
    ·obtain⟨gy,rx⟩:=hyl x H2 y;cases qs:sg t.ds[i] ρ' with
     | none=>rw[qs] at h';exact h'.elim
     | some ρ1=>
      rw[qs] at h';refine⟨ρ',θ',M',_,hd'.go gy,gy.wr,rx,ρ1,qs,fun σ1 d1=>⟨ρ1,θ',M',d1,gy.wr,?_⟩⟩;have h':bC X θ' H2 D ((gb ρ1 M').bind _):=bC.go gy h';cases qb:gb ρ1 M' with
      | err c M2=>rw[qb] at h';exact h'
      | bad=>rw[qb] at h';exact h'
      | ok f M2=>
       rw[qb] at h';cases f with
       | nx ρ2=>exact fun σ2 θ2 H3 g2 d2=>⟨ρ2,θ2,M2,gy.trans g2,d2,bC.go g2 h'⟩
       | ct ρ2=>exact fun σ2 θ2 H3 g2 d2=>⟨ρ2,θ2,M2,gy.trans g2,d2,bC.go g2 h'⟩
       | bk ρ2=>exact h'
       | rt d=>exact h'
   ·have e:i=t.ds.length:=by omega
    subst e;rw[drop_length,bT,if_pos hok] at h';exact .inl ⟨hst (Nat.le_refl _),h' σ' θ' H' (.refl g'.wr) hd'⟩
  ·have hz:bC X θ' H' D .bad:=by
    cases hdr:t.ds.drop i with
    | nil=>rw[hdr,bT,if_neg hok] at h';exact h'
    | cons d r=>rw[hdr,bT,if_neg hok] at h';exact h'
   exact hz.elim
end
def Cz (K:W.Frag)(θ:List Addr)(H:Hp)(E:XK)(c:Str)(M:ax):Prop:=∀C θ' H' a,ky K c C→Go K θ H θ' H' M→E (.ref C) (some a) H'
def vF (K:W.Frag)(θ:List Addr)(H:Hp)(Q:VK)(E:XK):aI D→Prop
 | .ok d M'=>∀v θ' H',Go K θ H θ' H' M'→cQ K θ' H' d v→Q v H'
 | .err c M'=>Cz K θ H E c M'
 | .bad=>False
abbrev FD:=List D→ax→aI D
def qG (K:W.Frag)(n:Nat)(F:FD):Sp:=fun vs H Q E=>∃θ M ds,ds.length=n∧aU K θ H ds vs∧Wr K θ H M∧vF K θ H Q E (F ds M)
theorem xW {K:W.Frag}{n:Nat}{F:FD}{ps:List Str}(hn:ps.length=n):∀vs H Q E,qG K n F vs H Q E→vs.length=ps.length:=fun vs H Q E ⟨θ,M,ds,hl,r,_⟩=>by rw[hn,←hl,ar r]
def ju (k:Nat)(ds:List D):a8:=ds.map some++List.replicate k none
def aZ (o:aI Fl):aI D:=o.bind fun f M=>match f with
 | .rt d=>.ok d M
 | .nx _=>.ok .non M
 | _=>.bad
def cV (k:Nat)(g:GS):FD:=fun ds M=>aZ (g (ju k ds) M)
theorem G7 {K:W.Frag}{θ:List Addr}{H:Hp}{ds:List D}{vs:List V}(r:aU K θ H ds vs)(N:List Str):gJ K θ H (L2.start N vs) (ju (N.length-vs.length) ds):=by
 have hl:=ar r;refine⟨by simp[L2.start,ju,hl],fun i d e=>?_⟩;unfold ju at e
 by_cases hi:i<ds.length
 ·rw[getElem?_append_left (by simpa using hi),getElem?_map] at e;cases q:ds[i]? with
  | none=>rw[q] at e;cases e
  | some d'=>
   rw[q] at e;have e':d'=d:=by simpa using e
   subst e';obtain⟨v,e1,rv⟩:=dH r q;refine⟨v,?_,rv⟩;unfold L2.start;rw[getElem?_append_left (by rw[length_map,←hl];exact hi),getElem?_map,e1];rfl
 ·rw[getElem?_append_right (by simpa using hi),getElem?_replicate] at e;split at e <;> cases e
section
variable {P:Program}{w:World}{K:W.Frag}{mg:Str→Option Value}{base:Heap}
theorem G4 {x qual:Str}{st:Stmt}{f:Addr}{fd:FuncData}{N ps:List Str}{k n:Nat}{g:GS}(F:Be K x qual st f fd)(S:g5 N ps (bg st))(hn:ps.length=n)
  (hbody:∀(cdv:Value) (A:Around) (outer:List Env) (s:Shared) (H:Hp) (E:XK),bW k (A.deeper (envOfC qual (bg st) s.heap.objs.size f cdv))→
   PSs (iV (jP P w) P w K mg base N qual (bg st) f cdv A outer s H E) (dA st) (tS (iV (jP P w) P w K mg base N qual (bg st) f cdv A outer s H E) g)) :
  fB P w K mg base (jP P w) (k+1) f fd ps (qG K n (cV (N.length-n) g)):=by
 obtain⟨oc,od,kV,doc,pm,an,cdv,ct,osl,rfl,lk,hcd⟩:=F.ex;refine DA lk hcd S (xW hn) fun A outer s H vs Q E hr h=>⟨_,hbody cdv A outer s H E hr,?_⟩
 obtain⟨θ,M,ds,hl,r,hw,h⟩:=h;have hv:vs.length=n:=by rw[←ar r];exact hl
 refine⟨ju (N.length-n) ds,θ,M,by rw[←hv];exact G7 r N,hw,?_⟩;have h:vF K θ H Q E (aZ (g (ju (N.length-n) ds) M)):=h;unfold aZ at h;cases q:g (ju (N.length-n) ds) M with
 | bad=>rw[q] at h;exact h
 | err c M1=>
  rw[q] at h;have h:Cz K θ H E c M1:=h;exact fun C θ' H' a s' kC g1 fl=>qj fl (h C θ' H' a kC g1)
 | ok fl M1=>
  rw[q] at h;cases fl with
  | rt d=>exact h
  | nx ρ1=>exact fun σ1 θ1 H1 g1 _=>h .non θ1 H1 g1 rfl
  | bk ρ1=>exact h.elim
  | ct ρ1=>exact h.elim
end
section
variable {X:Cx}{e:Expr}{es:List Expr}{x:Str}{p pos:Pos}{k n:Nat}{f:Addr}{fd:FuncData}{ps:List Str}{F:FD}{ga:GA}
def ay (n:Nat)(F:FD)(ga:GA):GE:=fun ρ M=>(ga ρ M).bind fun ds M1=>if ds.length=n then F ds M1 else .bad
def Fq (X:Cx):XK:=fun cls oa H'=>∃a C c θ M,oa=some a∧cls=.ref C∧ky X.K c C∧Wr X.K θ H' M∧cn X θ H' c M
theorem oP:qg (jP X.prog X.w) X (Fq X):=fun ae σ H s e s' I h=>by
 obtain⟨a,C,H',rfl,fl,a',C',c,θ,M,e1,e2,kC,hw,ok⟩:=sO I h;cases e1;cases e2;exact ok C θ H' a s' kC (.refl hw) fl
theorem zC {θ:List Addr}{H:Hp}{c:Str}{M:ax}(h:cn X θ H c M):Cz X.K θ H (Fq X) c M:=fun C θ' H' a kC g=>⟨a,C,c,θ',M,rfl,rfl,kC,g.wr,h.go g⟩
theorem zi (Fn:fB X.prog X.w X.K X.mg X.base (jP X.prog X.w) k f fd ps (qG X.K n F))(hr:bW k X.A)(hg:Gl X x)(hm:X.mg x=some (.ref f))(hk:W.keepIn X.K (.ref f)=true)(hb:gP X.K fd ps [])
  (ha:PA X (e::es) (tA X ga)) (hdb:(x==("__debug__":Str))=false:=by decide) (he:starEach (e::es) X.env=(false,eval e X.env)::starEach es X.env:=by rfl) (hpl:(backTo pos (starEach es X.env)).any (·.1)=false:=by rfl) :
  PE X (.Call (.Name x p) (e::es) [] pos) (tE X (ay n F ga)):=(yb Fn hr hg hm hk hb .nil oP ha hdb he hpl).of fun σ H Q hxx=>by
 obtain⟨ρ,θ,M,hd,hw,h⟩:=hxx;refine gL hd hw (aG X θ H Q) (fun c M' h=>h) (fun h=>h) h fun ds M1 vs θ1 H1 g1 r1 h1=>?_
 by_cases hl:ds.length=n
 ·rw[if_pos hl] at h1;refine⟨θ1,M1,ds,hl,by rw[append_nil];exact r1,g1.wr,?_⟩;have h2:=aG.go g1 h1;cases q:F ds M1 with
  | ok d M2=>rw[q] at h2;exact h2
  | err c M2=>rw[q] at h2;exact zC h2
  | bad=>rw[q] at h2;exact h2
 ·rw[if_neg hl] at h1;exact h1.elim
def rC (X:Cx)(F:FD):List V→Hp→VK→Prop:=fun xs H Q=>∃θ M ds,Wr X.K θ H M∧aU X.K θ H ds xs∧aG X θ H Q (F ds M)
def aL (F:FD)(ga:GA):GE:=fun ρ M=>(ga ρ M).bind F
theorem vQ {σ:L2.St}{H:Hp}{Q:VK}(h:tE X (aL F ga) σ H Q):G6 (rC X F) (tA X ga) σ H Q:=by
 obtain⟨ρ,θ,M,hd,hw,h⟩:=h;exact gL hd hw (aG X θ H Q) (fun c M' h=>h) (fun h=>h) h fun ds M1 vs θ1 H1 g1 r1 h1=>⟨θ1,M1,ds,g1.wr,r1,aG.go g1 h1⟩
theorem wm {id:String}(hc:cA X (.builtin id) (rC X F))(hg:Gl X x)(hm:X.mg x=none)(hv:bootBuiltins x=some (.builtin id))(ha:PA X (e::es) (tA X ga))(hn:x≠"__name__":=by decide)(hdb:(x==("__debug__":Str))=false:=by decide)
  (he:starEach (e::es) X.env=(false,eval e X.env)::starEach es X.env:=by rfl) (hpl:(backTo pos (starEach es X.env)).any (·.1)=false:=by rfl):PE X (.Call (.Name x p) (e::es) [] pos) (tE X (aL F ga)):=
 (o7 hc hg hm hv ha hn hdb he hpl).of fun σ H Q h=>vQ h
theorem sV {T:String}(hc:cA X (.type T) (rC X F))(hg:Gl X x)(hm:X.mg x=none)(hv:bootBuiltins x=some (.type T))(ha:PA X (e::es) (tA X ga))(hn:x≠"__name__":=by decide)(hdb:(x==("__debug__":Str))=false:=by decide)
  (he:starEach (e::es) X.env=(false,eval e X.env)::starEach es X.env:=by rfl) (hpl:(backTo pos (starEach es X.env)).any (·.1)=false:=by rfl):PE X (.Call (.Name x p) (e::es) [] pos) (tE X (aL F ga)):=
 (ui hc hg hm hv ha hn hdb he hpl).of fun σ H Q h=>vQ h
end
section
variable {prog:Program}{w:World}{A:Around}{E:Value→Shared→Prop}{s:Shared}
theorem wR {t b:Addr}{ws:List Value}{Q:Value→Shared→Prop}(ht:IsTup s.heap t #[])(hb:IsTup s.heap b ws.toArray)
  (h:Q (.ref b) s):wpAny (model prog w) A (binaryOp .Add (.ref t) (.ref b)) Q E s:=by
 obtain⟨⟨cls,dd,data,sl⟩,ho,hc,n,hd⟩:=id ht;obtain⟨⟨cls2,dd2,data2,sl2⟩,ho2,hc2,n2,hd2⟩:=id hb;simp only at hc hd hc2 hd2;subst hc hd hc2 hd2;exact concat_meets ⟨_,ho,rfl⟩ ⟨_,ho2,rfl⟩ noFill_tuple_add seq_tuple_add PySem.F.slot_tuple_add PySem.F.entry_tuple_add (PySem.F.args_tuple_add_2 _ _)
   (tuple_addW0 t b #[] ws.toArray n n2 dd dd2 sl sl2 (by simp)) ⟨ho,ho2,h⟩
theorem h9 {t sl:Addr}{items:Array Value}{vl vu:Value}{lo hi:Option Int}{Q:Value→Shared→Prop}(ht:IsTup s.heap t items)(hs:s.heap.IsSliceOf sl vl vu .none)(pl:IsPart vl lo)(pu:IsPart vu hi)
  (hw:HT.sIx items.size 0 lo=0∧HT.sIx items.size items.size hi=items.size) (h:Q (.ref t) s):wpAny (model prog w) A (getItem (.ref t) (.ref sl)) Q E s:=by
 obtain⟨os,hos,hcs,hds⟩:=id hs;have hTs:s.TypeIs (.ref sl) "slice":=⟨os,hos,hcs⟩;unfold getItem
 try with_reducible refine wpAny_holding ?_
 first|refine wpAny_bind (wpAny_pure ?_)|skip
 refine wpAny_bind (wpAny_sequenceKey ht.typeIs (by decide) ?_);refine wpAny_bind (wpAny_callSpecial?_slot (name:=Str.ofString "__getitem__") ht.typeIs PyProof.Rows.slot_tuple_getitem
  (wpAny_call_entry PyProof.Rows.slot_tuple_getitem ht.typeIs entry_tuple_getitem ?_ (args_tuple_getitem _ _)))
 show wpAny _ _ (Builtin.Tuple.tupleItemsOf (.ref t) >>= _) _ _ s;refine wpAny_bind (tupleItemsOf_ ht ?_);refine wpAny_bind (wpAny_typeOf hTs ?_);rw[if_pos (by decide)];refine wpAny_bind (HT.sliceApplied_gen hs pl pu ?_);have hyes:(((HT.sIx items.size 0 lo:Nat):Int)==0&&(1:Int)==1&&(HT.sIx items.size items.size hi-HT.sIx items.size 0 lo)==items.size)=true:=by
  rw[hw.1,hw.2];simp
 show wpAny _ _ (if(((HT.sIx items.size 0 lo:Nat):Int)==0&&(1:Int)==1&&(HT.sIx items.size items.size hi-HT.sIx items.size 0 lo)==items.size)=true then _ else _) _ _ s;rw[if_pos hyes];unfold Builtin.Tuple.tupleIsExact;refine wpAny_bind (wpAny_bind (wpAny_typeOf ht.typeIs (wpAny_pure ?_)));rw[if_pos (by decide)]
 first
  | exact wpAny_bind (wpAny_rule (wpAny_bind (wpAny_pure ⟨_,rfl,wpAny_pure h⟩)))
  | exact wpAny_bind (wpAny_rule (wpAny_pure ⟨_,rfl,wpAny_pure h⟩))
  | exact wpAny_bind (wpAny_rule (wpAny_bind (wpAny_pure (wpAny_pure ⟨_,rfl,wpAny_pure h⟩))))
end
def gq (d:D)(M:ax):Option (List D):=match d with
 | .lst xs=>some xs
 | .mr k=>match M[k]? with
  | some (.lst xs)=>some xs
  | _=>none
 | _=>none
def az:F2:=fun x y M=>match x,y with
 | .int i,.int j=>.ok (.int (i+j)) M
 | .str a,.str b=>if a.length+b.length≤sizeLine then .ok (.str (a++b)) M else .bad
 | .tup a,.tup b=>if a.length+b.length≤sizeLine then .ok (.tup (a++b)) M else .bad
 | .bl a,.int j=>.ok (.int ((if a=true then 1 else 0)+j)) M
 | x,y=>match gq x M,gq y M with
  | some a,some b=>if a.length+b.length≤sizeLine then .ok (.lst (a++b)) M else .bad
  | _,_=>.bad
theorem kz {K:W.Frag}{θ:List Addr}{H:Hp}{M:ax}{d:D}{xs:List D}{v:V}(hw:Wr K θ H M)(r:cQ K θ H d v)(e:gq d M=some xs):∃a vs,v=.ref a∧H a=some (.lst vs)∧aU K θ H xs vs:=by
 cases d with
 | lst ys=>cases e;obtain⟨a,vs,ea,ta,ra⟩:=r;exact⟨a,vs,ea,ta.1,ra⟩
 | mr k=>
  obtain⟨a,ea,ta⟩:=r;have e:(match M[k]? with|some (.lst xs)=>some xs|_=>none)=some xs:=e;cases q:M[k]? with
  | none=>rw[q] at e;cases e
  | some m=>
   cases m with
   | lst ys=>
    rw[q] at e;cases e;obtain⟨vs,hv,ra⟩:=hw.at_ k a _ ta q;exact⟨a,vs,ea,hv,ra⟩
   | _=>rw[q] at e;cases e
 | _=>cases e
def dr:F2:=fun x y M=>match x,y with
 | .int i,.int j=>.ok (.int (i-j)) M
 | _,_=>.bad
def gp:F2:=fun x y M=>match x,y with
 | .int i,.int j=>if(-(2 ^ 64)<i∧i<2 ^ 64)∨(-(2 ^ 64)<j∧j<2 ^ 64) then .ok (.int (i*j)) M else .bad
 | _,_=>.bad
def kL:F2:=fun x y M=>match x,y with
 | .int i,.int j=>if 0<j∧j.natAbs.log2<9000 then .ok (.int (i / j)) M else .bad
 | _,_=>.bad
def kf:F2:=fun x y M=>match x,y with
 | .int i,.int j=>if 0<j then .ok (.int (i % j)) M else .bad
 | _,_=>.bad
def pv:F2:=fun x y M=>match x,y with
 | .int i,.int j=>if 0≤j∧j≤1000000∧i.natAbs<2 ^ 64 then .ok (.int (i ^ j.toNat)) M else .bad
 | _,_=>.bad
section
variable {X:Cx}
theorem Bb:eL X (binaryOp .Add) (rD X az):=by
 intro ae s σ H x y v u Q I rx ry h;obtain⟨θ,M,dx,dy,hw,r1,r2,h⟩:=h;unfold az at h;split at h
 ·rename_i i j;exact BN ae s σ H x y v u Q I rx ry ⟨i,j,r1,r2,h _ θ H (.refl hw) rfl⟩
 ·rename_i a b;split at h
  ·rename_i hl;exact pR ae s σ H x y v u Q I rx ry ⟨a,b,r1,r2,hl,h _ θ H (.refl hw) rfl⟩
  ·exact h.elim
 ·rename_i as bs;split at h
  ·rename_i hl;obtain⟨a,vs,ea,ta,ra⟩:=r1;obtain⟨b,us,eb,tb,rb⟩:=r2
   by_cases hv:vs=[]
   ·subst hv;have e0:as=[]:=length_eq_zero_iff.mp (ar ra);subst e0;subst ea;subst eb;cases rx;cases ry;obtain⟨its,q1,p1,_⟩:=I.tuple ta.sq;obtain⟨its2,q2,p2,_⟩:=I.tuple tb.sq;cases q1;exact wR p1 p2 ⟨.ref b,H,I,rfl,h _ θ H (.refl hw) ⟨b,us,rfl,tb,rb⟩⟩
   ·refine yi ae s σ H x y v u Q I rx ry ⟨a,b,vs,us,ea,eb,ta.sq,tb.sq,hv,by rw[←ar ra,←ar rb];exact hl,fun hu=>?_,fun _ p hp=>h _ θ _ (dJ hw hp) (mY hw hp (bS ra rb))⟩;subst hu;have e0:bs=[]:=length_eq_zero_iff.mp (ar rb);subst e0;exact h _ θ H (.refl hw) ⟨a,vs,rfl,ta,by rw[append_nil];exact ra⟩
  ·exact h.elim
 ·rename_i a j;have e1:x=.bl a:=r1;have e2:y=.int j:=r2;subst e1;subst e2;cases rx;obtain⟨t',rfl⟩:=ry;exact IntBool.add_bool_int ⟨.int _,H,I.tok _,⟨_,rfl⟩,h _ θ H (.refl hw) rfl⟩
 ·split at h
  ·rename_i as bs q1 q2;split at h
   ·rename_i hl;obtain⟨a,vs,ea,ta,ra⟩:=kz hw r1 q1;obtain⟨b,us,eb,tb,rb⟩:=kz hw r2 q2;exact BK ae s σ H x y v u Q I rx ry ⟨a,b,vs,us,ea,eb,ta,tb,by rw[←ar ra,←ar rb];exact hl,fun p hp=>h _ θ _ (dJ hw hp) (eU hw hp (bS ra rb))⟩
   ·exact h.elim
  ·exact h.elim
theorem ol {K:W.Frag}{θ:List Addr}{H H':Hp}{M:ax}{p:Addr}(hw:Wr K θ H M):cQ K (θ++[p]) H' (.mr M.length) (.ref p):=by
 refine⟨p,rfl,?_⟩;rw[←hw.len,getElem?_append_right (Nat.le_refl _)];simp
theorem BL:eL X (binaryOp .Sub) (rD X dr):=by
 intro ae s σ H x y v u Q I rx ry h;obtain⟨θ,M,dx,dy,hw,r1,r2,h⟩:=h;unfold dr at h;split at h
 ·rename_i i j;exact Ax ae s σ H x y v u Q I rx ry ⟨i,j,r1,r2,h _ θ H (.refl hw) rfl⟩
 ·exact h.elim
theorem CL:eL X (binaryOp .Mult) (rD X gp):=by
 intro ae s σ H x y v u Q I rx ry h;obtain⟨θ,M,dx,dy,hw,r1,r2,h⟩:=h;unfold gp at h;split at h
 ·rename_i i j;split at h
  ·rename_i hc;exact Ak ae s σ H x y v u Q I rx ry ⟨i,j,r1,r2,hc,h _ θ H (.refl hw) rfl⟩
  ·exact h.elim
 ·exact h.elim
theorem xt:eL X (binaryOp .FloorDiv) (rD X kL):=by
 intro ae s σ H x y v u Q I rx ry h;obtain⟨θ,M,dx,dy,hw,r1,r2,h⟩:=h;unfold kL at h;split at h
 ·rename_i i j;split at h
  ·rename_i hc;have e1:x=.int i:=r1;have e2:y=.int j:=r2;subst e1;subst e2;obtain⟨t,rfl⟩:=rx;obtain⟨t',rfl⟩:=ry;have h1:(0:Int)<j:=hc.1;exact floordiv_int (by omega) (by rw[Int.fdiv_eq_ediv_of_nonneg i (by omega)];exact⟨.int (i / j),H,I.tok _,⟨_,rfl⟩,h _ θ H (.refl hw) rfl⟩) (.inl (PyProof.noPylong_of_log2 hc.2))
  ·exact h.elim
 ·exact h.elim
theorem AO:eL X (binaryOp .Mod) (rD X kf):=by
 intro ae s σ H x y v u Q I rx ry h;obtain⟨θ,M,dx,dy,hw,r1,r2,h⟩:=h;unfold kf at h;split at h
 ·rename_i i j;split at h
  ·rename_i hc;exact AH ae s σ H x y v u Q I rx ry ⟨i,j,r1,r2,hc,h _ θ H (.refl hw) rfl⟩
  ·exact h.elim
 ·exact h.elim
theorem Ap:eL X (binaryOp .Pow) (rD X pv):=by
 intro ae s σ H x y v u Q I rx ry h;obtain⟨θ,M,dx,dy,hw,r1,r2,h⟩:=h;unfold pv at h;split at h
 ·rename_i i j;split at h
  ·rename_i hc;exact CA ae s σ H x y v u Q I rx ry ⟨i,j,r1,r2,hc,h _ θ H (.refl hw) rfl⟩
  ·exact h.elim
 ·exact h.elim
def iG (g:GE):GE:=fun ρ M=>(g ρ M).bind fun x M1=>match x with
 | .int i=>.ok (.int (-i)) M1
 | _=>.bad
theorem CP {a:Expr}{pos:Pos}{g:GE}(ha:PE X a (tE X g)):PE X (.UnaryOp .USub a pos) (tE X (iG g)):=(Fj Bh ha).of fun σ H Q hxx=>by
 obtain⟨ρ,θ,M,hd,hw,h⟩:=hxx;refine bj hd hw (aG X θ H Q) (fun c M' h=>h) (fun h=>h) h fun d M1 v θ1 H1 g1 r1 h1=>?_
 split at h1
 ·rename_i i;exact⟨i,r1,h1 _ θ1 H1 g1 rfl⟩
 ·exact h1.elim
def j6:F2:=fun x y M=>match x,y with
 | .int i,.int j=>.ok (.bl (decide (i<j))) M
 | _,_=>.bad
def tD:F2:=fun x y M=>match x,y with
 | .int i,.int j=>.ok (.bl (decide (i≤j))) M
 | _,_=>.bad
def Ce:F2:=fun x y M=>match x,y with
 | .int i,.int j=>.ok (.bl (decide (j<i))) M
 | _,_=>.bad
def xV:F2:=fun x y M=>match x,y with
 | .int i,.int j=>.ok (.bl (decide (j≤i))) M
 | _,_=>.bad
theorem Fs:eL X (compareOp .Lt) (rD X j6):=by
 intro ae s σ H x y v u Q I rx ry h;obtain⟨θ,M,dx,dy,hw,r1,r2,h⟩:=h;unfold j6 at h;split at h
 ·rename_i i j;exact Fk ae s σ H x y v u Q I rx ry ⟨i,j,r1,r2,h _ θ H (.refl hw) rfl⟩
 ·exact h.elim
theorem EM:eL X (compareOp .LtE) (rD X tD):=by
 intro ae s σ H x y v u Q I rx ry h;obtain⟨θ,M,dx,dy,hw,r1,r2,h⟩:=h;unfold tD at h;split at h
 ·rename_i i j;exact Dz ae s σ H x y v u Q I rx ry ⟨i,j,r1,r2,h _ θ H (.refl hw) rfl⟩
 ·exact h.elim
theorem Ef:eL X (compareOp .Gt) (rD X Ce):=by
 intro ae s σ H x y v u Q I rx ry h;obtain⟨θ,M,dx,dy,hw,r1,r2,h⟩:=h;unfold Ce at h;split at h
 ·rename_i i j;exact Er ae s σ H x y v u Q I rx ry ⟨i,j,r1,r2,h _ θ H (.refl hw) rfl⟩
 ·exact h.elim
theorem Fw:eL X (compareOp .GtE) (rD X xV):=by
 intro ae s σ H x y v u Q I rx ry h;obtain⟨θ,M,dx,dy,hw,r1,r2,h⟩:=h;unfold xV at h;split at h
 ·rename_i i j;exact EH ae s σ H x y v u Q I rx ry ⟨i,j,r1,r2,h _ θ H (.refl hw) rfl⟩
 ·exact h.elim
theorem fn {α:Type}{b:α}{P:Prop}(h:none=some b):P:=nomatch h
mutual
def jL:D→PyData
 | .non=>.none
 | .bl b=>.bool b
 | .int i=>.int i
 | .str x=>.str x
 | .tup ds=>.tuple (je ds)
 | .lst ds=>.list (je ds)
 | .ro ds=>.list (je ds)
 | .mr _=>.dict []
 | .exc _=>.dict []
 | .any=>.dict []
def je:List D→List PyData
 | []=>[]
 | d::ds=>jL d::je ds
end
mutual
def bO:Nat→D→Bool
 | _,.non=>true
 | _,.bl _=>true
 | _,.int _=>true
 | _,.str x=>PyData.strOk x
 | n+1,.tup ds=>aY n ds
 | n+1,.lst ds=>aY n ds
 | n+1,.ro ds=>aY n ds
 | _,_=>false
def aY:Nat→List D→Bool
 | _,[]=>true
 | n,d::ds=>bO n d&&aY n ds
end
mutual
def mx:D→D→Bool
 | .non,.non=>true
 | .bl a,.bl b=>a==b
 | .bl a,.int j=>(if a then 1 else 0)==j
 | .int i,.bl b=>i==(if b then 1 else 0)
 | .int i,.int j=>i==j
 | .str x,.str y=>x==y
 | .lst xs,.lst ys=>fg xs ys
 | .lst xs,.ro ys=>fg xs ys
 | .ro xs,.lst ys=>fg xs ys
 | .ro xs,.ro ys=>fg xs ys
 | .tup xs,.tup ys=>fg xs ys
 | _,_=>false
def fg:List D→List D→Bool
 | [],[]=>true
 | x::xs,y::ys=>mx x y&&fg xs ys
 | _,_=>false
end
mutual
theorem j9:∀(x y:D) (n m:Nat),bO n x=true→bO m y=true→PyData.eqv (jL x) (jL y)=mx x y
 | .non,y,n,m,hx,hy=>by cases y <;> rfl
 | .bl a,y,n,m,hx,hy=>by cases y <;> rfl
 | .int a,y,n,m,hx,hy=>by cases y <;> rfl
 | .str a,y,n,m,hx,hy=>by cases y <;> rfl
 | .tup xs,y,n,m,hx,hy=>by
  cases n with
  | zero=>exact ff hx
  | succ n=>
   cases y with
   | tup ys=>
    cases m with
    | zero=>exact ff hy
    | succ m=>
     exact fG xs ys n m hx hy
   | _=>rfl
 | .lst xs,y,n,m,hx,hy=>by
  cases n with
  | zero=>exact ff hx
  | succ n=>
   cases y with
   | lst ys=>
    cases m with
    | zero=>exact ff hy
    | succ m=>
     exact fG xs ys n m hx hy
   | ro ys=>
    cases m with
    | zero=>exact ff hy
    | succ m=>
     exact fG xs ys n m hx hy
   | _=>rfl
 | .ro xs,y,n,m,hx,hy=>by
  cases n with
  | zero=>exact ff hx
  | succ n=>
   cases y with
   | lst ys=>
    cases m with
    | zero=>exact ff hy
    | succ m=>
     exact fG xs ys n m hx hy
   | ro ys=>
    cases m with
    | zero=>exact ff hy
    | succ m=>
     exact fG xs ys n m hx hy
   | _=>rfl
 | .mr a,y,n,m,hx,hy=>by cases n <;> exact ff hx
 | .exc a,y,n,m,hx,hy=>by cases n <;> exact ff hx
 | .any,y,n,m,hx,hy=>by cases n <;> exact ff hx
theorem fG:∀(x y:List D) (n m:Nat),aY n x=true→aY m y=true→PyData.eqvAll (je x) (je y)=fg x y
 | [],y,n,m,hx,hy=>by cases y <;> rfl
 | x::xs,y,n,m,hx,hy=>by
  cases y with
  | nil=>rfl
  | cons y ys=>
   have hx:=Bool.and_eq_true_iff.mp (show(bO n x&&aY n xs)=true from hx);have hy:=Bool.and_eq_true_iff.mp (show(bO m y&&aY m ys)=true from hy);show(PyData.eqv (jL x) (jL y)&&PyData.eqvAll (je xs) (je ys))=(mx x y&&fg xs ys);rw[j9 x y n m hx.1 hy.1,fG xs ys n m hx.2 hy.2]
end
mutual
theorem fZ:∀(d:D) (n:Nat),bO n d=true→(jL d).canLay0=true∧(jL d).depth≤n
 | .non,n,h=>by simp[jL,PyData.canLay0,PyData.depth]
 | .bl a,n,h=>by simp[jL,PyData.canLay0,PyData.depth]
 | .int a,n,h=>by simp[jL,PyData.canLay0,PyData.depth]
 | .str a,n,h=>by
  have:PyData.strOk a=true:=by cases n <;> exact h
  simp[jL,PyData.canLay0,PyData.depth,this]
 | .tup xs,n,h=>by
  cases n with
  | zero=>exact ff h
  | succ n=>
   have:=iH xs n h;simp only[jL,PyData.canLay0,PyData.depth];exact⟨this.1,by omega⟩
 | .lst xs,n,h=>by
  cases n with
  | zero=>exact ff h
  | succ n=>
   have:=iH xs n h;simp only[jL,PyData.canLay0,PyData.depth];exact⟨this.1,by omega⟩
 | .ro xs,n,h=>by
  cases n with
  | zero=>exact ff h
  | succ n=>
   have:=iH xs n h;simp only[jL,PyData.canLay0,PyData.depth];exact⟨this.1,by omega⟩
 | .mr a,n,h=>by cases n <;> exact ff h
 | .exc a,n,h=>by cases n <;> exact ff h
 | .any,n,h=>by cases n <;> exact ff h
theorem iH:∀(ds:List D) (n:Nat),aY n ds=true→PyData.canLayAll0 (je ds)=true∧PyData.depthAll (je ds)≤n
 | [],n,h=>by simp[je,PyData.canLayAll0,PyData.depthAll]
 | d::ds,n,h=>by
  have h:=Bool.and_eq_true_iff.mp (show(bO n d&&aY n ds)=true from h);have h1:=fZ d n h.1;have h2:=iH ds n h.2;simp only[je,PyData.canLayAll0,PyData.depthAll,Bool.and_eq_true];exact⟨⟨h1.1,h2.1⟩,by omega⟩
end
mutual
theorem kx {ae:List (Addr×Obj)}{s:Shared}{σ:L2.St}{H:Hp}{θ:List Addr}(I:Inv X ae σ H s):∀(d:D) (n:Nat) (v:V) (u:Value),bO n d=true→cQ X.K θ H d v→aW v u→∃as,Reads s.heap u (jL d) as
 | .non,n,v,u,h,r,q=>by have e:v=.non:=r;subst e;cases q;exact⟨_,.none⟩
 | .bl a,n,v,u,h,r,q=>by have e:v=.bl a:=r;subst e;cases q;exact⟨_,.bool a⟩
 | .int a,n,v,u,h,r,q=>by have e:v=.int a:=r;subst e;obtain⟨t,rfl⟩:=q;exact⟨_,.int a t⟩
 | .str a,n,v,u,h,r,q=>by have e:v=.str a:=r;subst e;obtain⟨t,rfl⟩:=q;exact⟨_,.str a t⟩
 | .tup xs,n,v,u,h,r,q=>by
  cases n with
  | zero=>exact ff h
  | succ n=>
   obtain⟨a,vs,e,ta,ra⟩:=r;subst e;cases q;obtain⟨its,rv,⟨o,h1,h2,m,h3⟩,_⟩:=I.tuple ta.sq;obtain⟨as,R⟩:=fz I xs n vs its h ra rv;exact⟨_,.tuple h1 h2 h3 (by simpa using R)⟩
 | .lst xs,n,v,u,h,r,q=>by
  cases n with
  | zero=>exact ff h
  | succ n=>
   obtain⟨a,vs,e,ta,ra⟩:=r;subst e;cases q;obtain⟨its,rv,⟨o,m,h1,h2,_,h3⟩,_⟩:=I.list (ta.sq (K:=X.K));obtain⟨as,R⟩:=fz I xs n vs its h ra rv;exact⟨_,.list h1 h2 h3 (by simpa using R)⟩
 | .ro xs,n,v,u,h,r,q=>by
  cases n with
  | zero=>exact ff h
  | succ n=>
   obtain⟨a,vs,e,ta,ra⟩:=r;subst e;cases q;obtain⟨its,rv,⟨o,m,h1,h2,_,h3⟩,_⟩:=I.list ta.sq;obtain⟨as,R⟩:=fz I xs n vs its h ra rv;exact⟨_,.list h1 h2 h3 (by simpa using R)⟩
 | .mr a,n,v,u,h,r,q=>by cases n <;> exact ff h
 | .exc a,n,v,u,h,r,q=>by cases n <;> exact ff h
 | .any,n,v,u,h,r,q=>by cases n <;> exact ff h
theorem fz {ae:List (Addr×Obj)}{s:Shared}{σ:L2.St}{H:Hp}{θ:List Addr}(I:Inv X ae σ H s):∀(ds:List D) (n:Nat) (vs:List V) (us:List Value),aY n ds=true→aU X.K θ H ds vs→aP vs us→∃as,ReadsAll s.heap us (je ds) as
 | [],n,vs,us,h,r,q=>by have e:vs=[]:=r;subst e;cases q;exact⟨_,.nil⟩
 | d::ds,n,vs,us,h,r,q=>by
  have h:=Bool.and_eq_true_iff.mp (show(bO n d&&aY n ds)=true from h);obtain⟨v,rr,e,r1,r2⟩:=r;subst e;cases q with
  | cons q1 q2=>
   obtain⟨as,R1⟩:=kx I d n v _ h.1 r1 q1;obtain⟨bs,R2⟩:=fz I ds n rr _ h.2 r2 q2;exact⟨_,.cons R1 R2⟩
end
def fH (d:D)(M:ax):D:=match d with
 | .mr k=>match M[k]? with
  | some (.lst xs)=>.lst xs
  | _=>.mr k
 | d=>d
def bc (neg:Bool):F2:=fun x y M=>if bO 40 (fH x M)&&bO 40 (fH y M) then .ok (.bl (mx (fH x M) (fH y M) != neg)) M else .bad
theorem fv {ae:List (Addr×Obj)}{s:Shared}{σ:L2.St}{H:Hp}{θ:List Addr}{M:ax}(I:Inv X ae σ H s)(hw:Wr X.K θ H M){d:D}{n:Nat}{v:V}{u:Value}(h:bO n (fH d M)=true)(r:cQ X.K θ H d v)(q:aW v u):∃as,Reads s.heap u (jL (fH d M)) as:=by
 cases d with
 | mr k=>
  obtain⟨a,e,ta⟩:=r;subst e;cases q;cases qm:M[k]? with
  | none=>
   have e:fH (.mr k) M=.mr k:=by simp[fH,qm]
   rw[e] at h;cases n <;> exact ff h
  | some m=>
   cases m with
   | lst xs=>
    have e:fH (.mr k) M=.lst xs:=by simp[fH,qm]
    rw[e] at h ⊢;cases n with
    | zero=>exact ff h
    | succ n=>
     obtain⟨vs,hv,ra⟩:=hw.at_ k a _ ta qm;obtain⟨its,rv,⟨o,m,h1,h2,_,h3⟩,_⟩:=I.list (X:=X) (xs:=vs) (.inl (.inl hv));obtain⟨as,R⟩:=fz I xs n vs its h ra rv;exact⟨_,.list h1 h2 h3 (by simpa using R)⟩
   | _=>
    have e:fH (.mr k) M=.mr k:=by simp[fH,qm]
    rw[e] at h;cases n <;> exact ff h
 | _=>exact kx I _ n v u h r q
theorem EV (hu:X.A.units+64<cLine):eL X (compareOp .Eq) (rD X (bc false)):=by
 intro ae s σ H x y v u Q I rx ry h;obtain⟨θ,M,dx,dy,hw,r1,r2,h⟩:=h;unfold bc at h;split at h
 ·rename_i hc;rw[Bool.and_eq_true] at hc;obtain⟨as,R1⟩:=fv I hw hc.1 r1 rx;obtain⟨bs,R2⟩:=fv I hw hc.2 r2 ry;have l1:=fZ _ _ hc.1;have l2:=fZ _ _ hc.2;refine SeqAt.compareEq_reads R1 R2 l1.1 l2.1 (by have:=l1.2;have:min (jL (fH dx M)).depth (jL (fH dy M)).depth≤(jL (fH dx M)).depth:=Nat.min_le_left _ _;omega) ?_;rw[j9 _ _ _ _ hc.1 hc.2];refine⟨.bl _,H,I,rfl,?_⟩;have:=h _ θ H (.refl hw) rfl;rw[Bool.bne_false] at this;exact this
 ·exact h.elim
theorem El (hu:X.A.units+64<cLine):eL X (compareOp .NotEq) (rD X (bc true)):=by
 intro ae s σ H x y v u Q I rx ry h;obtain⟨θ,M,dx,dy,hw,r1,r2,h⟩:=h;unfold bc at h;split at h
 ·rename_i hc;rw[Bool.and_eq_true] at hc;obtain⟨as,R1⟩:=fv I hw hc.1 r1 rx;obtain⟨bs,R2⟩:=fv I hw hc.2 r2 ry;have l1:=fZ _ _ hc.1;have l2:=fZ _ _ hc.2;refine SeqAt.compareNe_reads R1 R2 l1.1 l2.1 (by have:=l1.2;have:min (jL (fH dx M)).depth (jL (fH dy M)).depth≤(jL (fH dx M)).depth:=Nat.min_le_left _ _;omega) ?_;rw[j9 _ _ _ _ hc.1 hc.2];refine⟨.bl _,H,I,rfl,?_⟩;have:=h _ θ H (.refl hw) rfl;rw[Bool.bne_true] at this;exact this
 ·exact h.elim
def bK (d:D)(M:ax):Option (List D):=match d with
 | .tup xs=>some xs
 | .lst xs=>some xs
 | .ro xs=>some xs
 | .mr k=>match M[k]? with
  | some (.lst xs)=>some xs
  | _=>none
 | _=>none
def qB:F2:=fun x y M=>match bK x M,y with
 | some xs,.int i=>match li xs i with
  | some d=>.ok d M
  | none=>.bad
 | _,_=>.bad
theorem vk {K:W.Frag}{θ:List Addr}{H:Hp}{ds:List D}{vs:List V}{i:Int}{d:D}(r:aU K θ H ds vs)(e:li ds i=some d):∃v,li vs i=some v∧cQ K θ H d v:=by
 unfold li at e ⊢;rw[←ar r];cases q:pW ds.length i with
 | none=>rw[q] at e;cases e
 | some j=>
  rw[q] at e;exact dH r e
theorem kG {K:W.Frag}{θ:List Addr}{H:Hp}{M:ax}{d:D}{xs:List D}{v:V}(hw:Wr K θ H M)(r:cQ K θ H d v)(e:bK d M=some xs):∃a vs,v=.ref a∧(jn K H a vs∨nC K H a vs)∧aU K θ H xs vs:=by
 cases d with
 | tup ds=>obtain⟨a,vs,e1,ta,ra⟩:=r;cases e;exact⟨a,vs,e1,.inr ta.sq,ra⟩
 | lst ds=>obtain⟨a,vs,e1,ta,ra⟩:=r;cases e;exact⟨a,vs,e1,.inl ta.sq,ra⟩
 | ro ds=>obtain⟨a,vs,e1,ta,ra⟩:=r;cases e;exact⟨a,vs,e1,.inl ta.sq,ra⟩
 | mr k=>
  obtain⟨a,e1,ta⟩:=r;have e:(match M[k]? with|some (.lst xs)=>some xs|_=>none)=some xs:=e;cases qm:M[k]? with
  | none=>rw[qm] at e;cases e
  | some m=>
   cases m with
   | lst ys=>
    rw[qm] at e;cases e;obtain⟨vs,hv,ra⟩:=hw.at_ k a _ ta qm;exact⟨a,vs,e1,.inl (.inl (.inl hv)),ra⟩
   | _=>rw[qm] at e;cases e
 | _=>cases e
theorem D7:Dd X (rD X qB):=by
 intro value slice ae s σ H x y v u Q I rx ry h hs;obtain⟨θ,M,dx,dy,hw,r1,r2,h⟩:=h;unfold qB at h;split at h
 ·rename_i xs i q;split at h
  ·rename_i d qd;obtain⟨a,vs,ea,sq,ra⟩:=kG hw r1 q;obtain⟨z,ez,rz⟩:=vk ra qd;have hq:=h z θ H (.refl hw) rz;rcases sq with sq|sq
   ·exact yt value slice ae s σ H x y v u Q I rx ry ⟨a,vs,i,z,ea,r2,sq,ez,hq⟩ hs
   ·exact B6 value slice ae s σ H x y v u Q I rx ry ⟨a,vs,i,z,ea,r2,sq,ez,hq⟩ hs
  ·exact h.elim
 ·exact h.elim
def gT (xs:List D)(lo hi:Option Int):List D:=(xs.drop (HT.sIx xs.length 0 lo)).take (HT.sIx xs.length xs.length hi-HT.sIx xs.length 0 lo)
def jw (x:D)(lo hi:Option Int)(M:ax):aI D:=match x with
 | .tup xs=>.ok (.tup (gT xs lo hi)) M
 | .lst xs=>.ok (.lst (gT xs lo hi)) M
 | .ro xs=>.ok (.lst (gT xs lo hi)) M
 | .mr k=>match M[k]? with
  | some (.lst xs)=>.ok (.lst (gT xs lo hi)) M
  | _=>.bad
 | _=>.bad
abbrev GO:=a8→ax→aI (Option Int)
def bJ:GO:=fun _ M=>.ok none M
def aN (g:GE):GO:=fun ρ M=>(g ρ M).bind fun d M1=>match d with
 | .int i=>.ok (some i) M1
 | _=>.bad
def FL (X:Cx)(θ:List Addr)(H:Hp)(Q:Option Int→Hp→Prop):aI (Option Int)→Prop
 | .ok b M'=>∀θ' H',Go X.K θ H θ' H' M'→Q b H'
 | .err c M'=>cn X θ H c M'
 | .bad=>False
def tO (X:Cx)(g:GO):TO:=fun σ H Q=>∃ρ θ M,gJ X.K θ H σ ρ∧Wr X.K θ H M∧FL X θ H Q (g ρ M)
theorem _root_.L2.PO.of {e:Option Expr}{t t':TO}(h:PO X e t)(w:∀σ H Q,t' σ H Q→t σ H Q):PO X e t':=fun ae s σ H Q I q=>h ae s σ H Q I (w σ H Q q)
theorem yD:PO X none (tO X bJ):=yp.of fun σ H Q ⟨ρ,θ,M,hd,hw,f⟩=>f θ H (.refl hw)
theorem xF {e:Expr}{g:GE}(h:PE X e (tE X g)):PO X (some e) (tO X (aN g)):=(yQ h).of fun σ H Q hxx=>by
 obtain⟨ρ,θ,M,hd,hw,h⟩:=hxx;refine bj hd hw (FL X θ H Q) (fun c M' h=>h) (fun h=>h) h fun d M1 v θ1 H1 g1 r1 h1=>?_
 split at h1
 ·rename_i i;exact⟨i,r1,h1 θ1 H1 g1⟩
 ·exact h1.elim
theorem rP {g:GO}{σ:L2.St}{H:Hp}{Q:Option Int→Hp→Prop}{α:Type}{ρ:a8}{θ:List Addr}{M:ax}(hd:gJ X.K θ H σ ρ)(hw:Wr X.K θ H M)(F:aI α→Prop)(Fe:∀c M',F (.err c M')→cn X θ H c M')(Fb:F .bad→False)
  {f:Option Int→ax→aI α} (h:F ((g ρ M).bind f)) (k:∀d M1 θ1 H1,Go X.K θ H θ1 H1 M1→F (f d M1)→Q d H1):tO X g σ H Q:=by
 refine⟨ρ,θ,M,hd,hw,?_⟩;cases q:g ρ M with
 | ok d M1=>
  rw[q] at h;exact fun θ1 H1 g1=>k d M1 θ1 H1 g1 h
 | err c M1=>rw[q] at h;exact Fe c M1 h
 | bad=>rw[q] at h;exact(Fb h).elim
def HR (X:Cx):V→Option Int→Option Int→Hp→VK→Prop:=fun x lo hi H Q=>∃θ M d,Wr X.K θ H M∧cQ X.K θ H d x∧aG X θ H Q (jw d lo hi M)
theorem gF {K:W.Frag}{θ:List Addr}{H:Hp}{ds:List D}{vs:List V}(r:aU K θ H ds vs)(lo hi:Option Int):aU K θ H (gT ds lo hi) (nZ vs lo hi):=by
 unfold gT nZ;rw[←ar r];exact lS _ (lT _ r)
theorem Gc:Dm X (HR X):=by
 intro ae s σ H x v vl vu lo hi sl Q I rx hs pl pu h;obtain⟨θ,M,d,hw,r,h⟩:=h;cases d with
 | tup ds=>
  obtain⟨a,vs,e,ta,ra⟩:=r
  by_cases hc:HT.sIx vs.length 0 lo=0∧HT.sIx vs.length vs.length hi=vs.length
  ·subst e;cases rx;obtain⟨its,rv,ht,hz⟩:=I.tuple ta.sq;have hlen:its.toArray.size=vs.length:=by rw[size_toArray];exact rv.length.symm
   refine⟨"tuple",_,PyProof.Rows.slot_tuple_getitem.lookup,ht.typeIs,?_⟩;refine h9 ht hs pl pu (by rw[hlen];exact hc) ⟨.ref a,H,I,rfl,h _ θ H (.refl hw) ⟨a,vs,rfl,ta,?_⟩⟩;have e:gT ds lo hi=ds:=by
    unfold gT;rw[ar ra,hc.1,hc.2,drop_zero,Nat.sub_zero,←ar ra,take_length]
   rw[e];exact ra
  ·exact Bk ae s σ H x v vl vu lo hi sl Q I rx hs pl pu ⟨a,vs,e,ta.sq,hc,fun p hp=>h _ θ _ (dJ hw hp) (mY hw hp (gF ra lo hi))⟩
 | lst ds=>
  obtain⟨a,vs,e,ta,ra⟩:=r;exact j4 ae s σ H x v vl vu lo hi sl Q I rx hs pl pu ⟨a,vs,e,ta.sq,fun p hp=>h _ θ _ (dJ hw hp) (eU hw hp (gF ra lo hi))⟩
 | ro ds=>
  obtain⟨a,vs,e,ta,ra⟩:=r;exact j4 ae s σ H x v vl vu lo hi sl Q I rx hs pl pu ⟨a,vs,e,ta.sq,fun p hp=>h _ θ _ (dJ hw hp) (eU hw hp (gF ra lo hi))⟩
 | mr k=>
  obtain⟨a,e,ta⟩:=r;have h:aG X θ H Q (match M[k]? with|some (.lst xs)=>.ok (.lst (gT xs lo hi)) M|_=>.bad):=h;cases qm:M[k]? with
  | none=>rw[qm] at h;exact h.elim
  | some m=>
   cases m with
   | lst ys=>
    rw[qm] at h;obtain⟨vs,hv,ra⟩:=hw.at_ k a _ ta qm;exact j4 ae s σ H x v vl vu lo hi sl Q I rx hs pl pu ⟨a,vs,e,.inl (.inl hv),fun p hp=>h _ θ _ (dJ hw hp) (eU hw hp (gF ra lo hi))⟩
   | _=>rw[qm] at h;exact h.elim
 | _=>exact h.elim
def yU (d:D)(M:ax):aI Bool:=match d with
 | .non=>.ok false M
 | .bl b=>.ok b M
 | .int i=>.ok (i != 0) M
 | .str x=>if x.length≤sizeLine then .ok ((x.length:Int) != 0) M else .bad
 | .tup xs=>.ok (!xs.isEmpty) M
 | .lst xs=>.ok (!xs.isEmpty) M
 | .ro xs=>.ok (!xs.isEmpty) M
 | .mr k=>match M[k]? with
  | some (.lst xs)=>.ok (!xs.isEmpty) M
  | _=>.bad
 | .exc _=>.bad
 | .any=>.bad
def fM (g:GE):GT:=fun ρ M=>(g ρ M).bind yU
theorem fU {K:W.Frag}{θ:List Addr}{H:Hp}{ds:List D}{vs:List V}(r:aU K θ H ds vs):(!vs.isEmpty)=!ds.isEmpty:=by
 have:=ar r;cases ds <;> cases vs <;> simp_all
theorem Cr {a:Expr}{g:GE}(ha:PE X a (tE X g))(he:∀whole,isTrue a X.env whole=(do let v ←whole;standAt a.pos;holding [v] (truthy v)):=by intro _;rfl):PT X a (tT X (fM g)):=
 (vD ha he).of fun σ H Q hxx=>by
  obtain⟨ρ,θ,M,hd,hw,h⟩:=hxx;refine bj hd hw (jk X θ H Q) (fun c M' h=>h) (fun h=>h) h fun d M1 v θ1 H1 g1 r1 h1=>?_
  cases d with
  | non=>have e:v=.non:=r1;subst e;exact⟨false,rfl,h1 θ1 H1 g1⟩
  | bl b=>have e:v=.bl b:=r1;subst e;exact⟨b,rfl,h1 θ1 H1 g1⟩
  | int i=>have e:v=.int i:=r1;subst e;exact⟨i != 0,rfl,h1 θ1 H1 g1⟩
  | str x=>
   have e:v=.str x:=r1;subst e;have h1:jk X θ H Q (if x.length≤sizeLine then .ok ((x.length:Int) != 0) M1 else .bad):=h1;split at h1
   ·rename_i hl;exact⟨_,⟨hl,rfl⟩,h1 θ1 H1 g1⟩
   ·exact h1.elim
  | tup xs=>
   obtain⟨a,vs,e,ta,ra⟩:=r1;subst e;exact⟨_,.inr (.inl ⟨vs,ta.sq,(fU ra).symm⟩),h1 θ1 H1 g1⟩
  | lst xs=>
   obtain⟨a,vs,e,ta,ra⟩:=r1;subst e;exact⟨_,.inl ⟨vs,ta.sq,(fU ra).symm⟩,h1 θ1 H1 g1⟩
  | ro xs=>
   obtain⟨a,vs,e,ta,ra⟩:=r1;subst e;exact⟨_,.inl ⟨vs,ta.sq,(fU ra).symm⟩,h1 θ1 H1 g1⟩
  | mr k=>
   obtain⟨a,e,ta⟩:=r1;subst e;have h1:jk X θ H Q (match M1[k]? with|some (.lst xs)=>.ok (!xs.isEmpty) M1|_=>.bad):=h1;cases qm:M1[k]? with
   | none=>rw[qm] at h1;exact h1.elim
   | some m=>
    cases m with
    | lst ys=>
     rw[qm] at h1;obtain⟨vs,hv,ra⟩:=g1.wr.at_ k a _ ta qm;exact⟨_,.inl ⟨vs,.inl (.inl hv),(fU ra).symm⟩,h1 θ1 H1 g1⟩
    | _=>rw[qm] at h1;exact h1.elim
  | exc c=>exact h1.elim
  | any=>exact h1.elim
def bq:FD:=fun ds M=>match ds with
 | [.str x]=>if x.length≤sizeLine then .ok (.int x.length) M else .bad
 | [d]=>match bK d M with
  | some xs=>.ok (.int xs.length) M
  | none=>.bad
 | _=>.bad
def lz:FD:=fun ds M=>match ds with
 | [.int i,.int j]=>.ok (.int (if j<i then j else i)) M
 | _=>.bad
def lu:FD:=fun ds M=>match ds with
 | [.int i]=>.ok (.int i) M
 | [.bl b]=>.ok (.int (if b then 1 else 0)) M
 | _=>.bad
def lg:FD:=fun ds M=>match ds with
 | [d]=>match bK d M with
  | some xs=>.ok (.lst xs) M
  | none=>.bad
 | _=>.bad
theorem gN {K:W.Frag}{θ:List Addr}{H:Hp}{d:D}{xs:List V}(r:aU K θ H [d] xs):∃v,xs=[v]∧cQ K θ H d v:=by
 obtain⟨v,rr,e,h1,h2⟩:=r;have e2:rr=[]:=h2;subst e2;exact⟨v,e,h1⟩
theorem BX {K:W.Frag}{θ:List Addr}{H:Hp}{d d':D}{xs:List V}(r:aU K θ H [d,d'] xs):∃v v',xs=[v,v']∧cQ K θ H d v∧cQ K θ H d' v':=by
 obtain⟨v,rr,e,h1,h2⟩:=r;obtain⟨v',e2,h3⟩:=gN h2;subst e2;exact⟨v,v',e,h1,h3⟩
theorem CQ:cA X (.builtin "len") (rC X bq):=by
 intro ae s σ H xs us Q I r h;obtain⟨θ,M,ds,hw,rd,h⟩:=h;unfold bq at h;split at h
 ·rename_i x;split at h
  ·rename_i hl;obtain⟨v,e,rv⟩:=gN rd;exact mT ae s σ H xs us Q I r ⟨x,by rw[e,show v=.str x from rv],hl,h _ θ H (.refl hw) rfl⟩
  ·exact h.elim
 ·rename_i d _;split at h
  ·rename_i ys q;obtain⟨v,e,rv⟩:=gN rd;obtain⟨a,vs,ea,sq,ra⟩:=kG hw rv q;refine mS ae s σ H xs us Q I r ⟨a,vs,by rw[e,ea],sq,?_⟩;rw[←ar ra];exact h _ θ H (.refl hw) rfl
  ·exact h.elim
 ·exact h.elim
theorem Aq (hc:X.calm=true):cA X (.builtin "min") (rC X lz):=by
 intro ae s σ H xs us Q I r h;obtain⟨θ,M,ds,hw,rd,h⟩:=h;unfold lz at h;split at h
 ·rename_i i j;obtain⟨v,v',e,rv,rv'⟩:=BX rd;exact sM hc ae s σ H xs us Q I r ⟨i,j,by rw[e,show v=.int i from rv,show v'=.int j from rv'],h _ θ H (.refl hw) rfl⟩
 ·exact h.elim
theorem BU:cA X (.type "int") (rC X lu):=by
 intro ae s σ H xs us Q I r h;obtain⟨θ,M,ds,hw,rd,h⟩:=h;unfold lu at h;split at h
 ·rename_i i;obtain⟨v,e,rv⟩:=gN rd;exact l9 ae s σ H xs us Q I r (.inl ⟨i,by rw[e,show v=.int i from rv],h _ θ H (.refl hw) rfl⟩)
 ·rename_i b;obtain⟨v,e,rv⟩:=gN rd;exact l9 ae s σ H xs us Q I r (.inr ⟨b,by rw[e,show v=.bl b from rv],h _ θ H (.refl hw) rfl⟩)
 ·exact h.elim
theorem yS:cA X (.type "list") (rC X lg):=by
 intro ae s σ H xs us Q I r h;obtain⟨θ,M,ds,hw,rd,h⟩:=h;unfold lg at h;split at h
 ·rename_i d;split at h
  ·rename_i ys q;obtain⟨v,e,rv⟩:=gN rd;obtain⟨a,vs,ea,sq,ra⟩:=kG hw rv q;exact nz ae s σ H xs us Q I r ⟨a,vs,by rw[e,ea],sq,fun l hl=>h _ θ _ (dJ hw hl) (eU hw hl ra)⟩
  ·exact h.elim
 ·exact h.elim
end
def cz (cells:List (Str×Addr)):List (Str×NameKind)→List (Str×Addr)→List (Str×Addr)
 | [],acc=>acc
 | (n,k)::r,acc=>if k==.free then cz cells r ((n,(cells.lookup n).getD 0)::acc) else cz cells r acc
theorem kn {env:Env}:∀(l:List (Str×NameKind)) (cs:List (Str×Addr)),(∀p∈l,p.2=.free→∃c,env.cells.lookup p.1=some c)→
  (forIn (m:=Sem) l cs fun x r=>match x with
   | (name,kind)=>if(kind==NameKind.free)=true then do let __do_lift ←cellOf env name;pure (ForInStep.yield ((name,__do_lift)::r)) else pure (ForInStep.yield r))=pure (cz env.cells l cs)
 | [],cs,h=>rfl
 | (n,k)::r,cs,h=>by
  have ih:=fun cs=>kn (env:=env) r cs fun p hp=>h p (mem_cons_of_mem _ hp)
  rw[forIn_cons]
  by_cases hk:(k==NameKind.free)=true
  ·obtain⟨c,hc⟩:=h (n,k) mem_cons_self (by simpa using hk);have e:cellOf env n=pure c:=by unfold cellOf;rw[show List.lookup n env.cells=some c from hc]
   simp only[hk,if_true,cz,e,pure_bind];rw[ih,show List.lookup n env.cells=some c from hc];rfl
  ·simp only[hk,if_false,cz,pure_bind,Bool.false_eq_true];exact ih cs
theorem jg {env:Env}{scope:Scope}(h:∀p∈scope.names,p.2=.free→∃c,env.cells.lookup p.1=some c):closureFor scope env=pure (cz env.cells scope.names []):=by
 have:=kn (env:=env) scope.names [] h;unfold closureFor;simp only[bind_pure_comp] at this ⊢
 first
  | (rw[this];rfl)
  | (simp[this])
  | exact this
theorem kW {cells:List (Str×Addr)}:∀(l:List (Str×NameKind)) (acc:List (Str×Addr)),(∀p∈acc,cells.lookup p.1=some p.2)→(∀p∈l,p.2=.free→∃c,cells.lookup p.1=some c)→
  ∀p∈cz cells l acc,cells.lookup p.1=some p.2
 | [],acc,ha,h=>ha
 | (n,k)::r,acc,ha,h=>by
  have hr:∀p∈r,p.2=.free→∃c,cells.lookup p.1=some c:=fun p hp=>h p (mem_cons_of_mem _ hp)
  unfold cz
  by_cases hk:(k==NameKind.free)=true
  ·rw[if_pos hk];refine kW r _ (fun p hp=>?_) hr;rcases mem_cons.mp hp with e|hp
   ·subst e;obtain⟨c,hc⟩:=h (n,k) mem_cons_self (by simpa using hk);have hc':cells.lookup n=some c:=hc;show cells.lookup n=some ((cells.lookup n).getD 0);rw[hc'];rfl
   ·exact ha p hp
  ·rw[if_neg hk];exact kW r acc ha hr
theorem kM {cells:List (Str×Addr)}:∀(l:List (Str×NameKind)) (acc:List (Str×Addr)),∀p∈acc,p∈cz cells l acc
 | [],acc,p,h=>h
 | (n,k)::r,acc,p,h=>by
  unfold cz
  by_cases hk:(k==NameKind.free)=true
  ·rw[if_pos hk];exact kM r _ p (mem_cons_of_mem _ h)
  ·rw[if_neg hk];exact kM r acc p h
theorem kR {cells:List (Str×Addr)}:∀(l:List (Str×NameKind)) (acc:List (Str×Addr)) (n:Str),(n,NameKind.free)∈l→∃c,(n,c)∈cz cells l acc
 | [],acc,n,h=>by cases h
 | (m,k)::r,acc,n,h=>by
  unfold cz;rcases mem_cons.mp h with e|h
  ·cases e;rw[if_pos (by rfl)];exact⟨_,kM r _ _ mem_cons_self⟩
  ·by_cases hk:(k==NameKind.free)=true
   ·rw[if_pos hk];exact kR r _ n h
   ·rw[if_neg hk];exact kR r acc n h
theorem iy {l:List (Str×Addr)}{n:Str}{c:Addr}(h:(n,c)∈l):∃c',l.lookup n=some c':=by
 induction l with
 | nil=>cases h
 | cons p r ih=>
  obtain⟨m,d⟩:=p
  by_cases e:(n==m)=true
  ·exact⟨d,by simp[List.lookup,e]⟩
  ·have e':(n==m)=false:=by simpa using e
   rcases mem_cons.mp h with q|q
   ·cases q;simp at e
   ·obtain⟨c',hc⟩:=ih q;exact⟨c',by simp only[List.lookup,e'];exact hc⟩
theorem eG {env:Env}:∀{names:List (Str×NameKind)} {x:Str} {k:NameKind},
  (names.map fun(n,k)=>if(k==NameKind.free&&env.scope.kind==.function&&env.kindOf n==some .cell) then(n,NameKind.cell) else(n,k)).lookup x=some k→
   names.lookup x=some k∨(k=.cell∧names.lookup x=some .free)
 | [],_,_,h=>by simp at h
 | (n,k')::r,x,k,h=>by
  have ih:=@eG env r x k;have h:List.lookup x ((if(k'==NameKind.free&&env.scope.kind==.function&&env.kindOf n==some .cell)=true then(n,NameKind.cell) else(n,k'))::_)=some k:=h
  by_cases hc:(k'==NameKind.free&&env.scope.kind==.function&&env.kindOf n==some .cell)=true
  ·rw[if_pos hc] at h;cases hx:x==n with
   | true=>
    simp only[lookup_cons,hx] at h ⊢;cases h;have:k'=.free:=by
     rw[Bool.and_eq_true,Bool.and_eq_true] at hc;simpa using hc.1.1
    subst this;exact .inr ⟨rfl,rfl⟩
   | false=>
    simp only[lookup_cons,hx] at h ⊢;exact ih h
  ·rw[if_neg hc] at h;cases hx:x==n with
   | true=>
    simp only[lookup_cons,hx] at h ⊢;exact .inl h
   | false=>
    simp only[lookup_cons,hx] at h ⊢;exact ih h
def bI (sc:Scope)(fk:Str→Option NameKind)(xs:List Str)(R N:List Str):Bool:=
 decide (sc.kind=.function)&&xs.all (fun x=>sc.names.lookup x==some .local) &&
 sc.names.all (fun p=>match p.2 with
  | .cell=>false
  | .local=>(xs.contains p.1||p.1==(".0":Str))&&sc.names.lookup p.1==some .local
  | .free=>fk p.1==some .cell||fk p.1==some .free
  | _=>true) &&
 decide ((xs++R).Nodup)&&!(R.contains (".0":Str))&&R.length==N.length &&
 (R.zip N).all (fun p=>p.1==p.2||sc.names.lookup p.1 != some .free)
structure bB (sc:Scope)(fk:Str→Option NameKind)(xs:List Str)(R N:List Str):Prop where
 kind:sc.kind=.function
 own:∀x∈xs,sc.names.lookup x=some .local
 nocell:∀p∈sc.names,p.2≠.cell
 locs:∀p∈sc.names,p.2=.local→p.1∈xs∨p.1=(".0":Str)
 lnames:∀p∈sc.names,p.2=.local→sc.names.lookup p.1=some .local
 free:∀p∈sc.names,p.2=.free→fk p.1=some .cell∨fk p.1=some .free
 nd:(xs++R).Nodup
 no0:(".0":Str)∉R
 len:R.length=N.length
 same:∀(i:Nat) y,R[i]?=some y→sc.names.lookup y=some .free→N[i]?=some y
theorem bB.of {sc:Scope}{fk:Str→Option NameKind}{xs:List Str}{R N:List Str}(h:bI sc fk xs R N=true):bB sc fk xs R N:=by
 unfold bI at h;simp only[Bool.and_eq_true,decide_eq_true_eq,all_eq_true,Bool.not_eq_true',beq_iff_eq] at h;obtain⟨⟨⟨⟨⟨⟨h1,h2⟩,h3⟩,h4⟩,h5⟩,h6⟩,h7⟩:=h;refine⟨h1,h2,fun p hp e=>?_,fun p hp e=>?_,fun p hp e=>?_,fun p hp e=>?_,h4,?_,h6,fun i y hy hf=>?_⟩
 ·have:=h3 p hp;rw[e] at this;simp at this
 ·have:=h3 p hp;rw[e] at this;simp at this;exact this.1
 ·have:=h3 p hp;rw[e] at this;simp at this;exact this.2
 ·have:=h3 p hp;rw[e] at this;simp at this;exact this
 ·intro hm;have:R.contains (".0":Str)=true:=by simpa using hm
  rw[this] at h5;cases h5
 ·obtain⟨hi,e⟩:=List.getElem?_eq_some_iff.mp hy;have hn:i<N.length:=by rw[←h6];exact hi
  have hz:(R[i],N[i])∈R.zip N:=by
   rw[mem_iff_getElem];exact⟨i,by simp;omega,by simp⟩
  have:=h7 _ hz;simp only[Bool.or_eq_true,beq_iff_eq,bne_iff_ne,ne_eq] at this;rcases this with q|q
  ·rw[getElem?_eq_getElem hn,←q,e]
  ·rw[e] at q;exact absurd hf q
def aC (X:Cx)(scope:Scope)(xs:List Str)(R:List Str)(fp:List Addr)(s:Shared)(H:Hp)(C:Addr):Cx where
 prog:=X.prog
 w:=X.w
 K:=X.K
 mg:=X.mg
 base:=X.base
 A:=X.A
 N:=xs++R
 s₀:=s
 H₀:=H
 env:=compEnvC scope (cz X.env.cells scope.names []) C X.env
 outer:=X.stack
 stack:=X.stack
 ex:=fp
 fn:=fun _=>false
 calm:=X.calm
 pn:=[]
 xe:=fun _ _=>False
section
variable {X:Cx}{ae:List (Addr×Obj)}{σ:L2.St}{H:Hp}{s:Shared}{scope:Scope}{xs:List Str}{R:List Str}{fp:List Addr}{C:Addr}
theorem bB.cells (S:bB scope X.env.kindOf xs R X.N)(I:L2.Inv X ae σ H s):∀p∈scope.names,p.2=.free→∃c,X.env.cells.lookup p.1=some c:=fun p hp e=>I.ok.has p.1 (S.free p hp e)
theorem bU (S:bB scope X.env.kindOf xs R X.N)(I:L2.Inv X ae σ H s){y:Str}{c:Addr}(h:(cz X.env.cells scope.names []).lookup y=some c):X.env.cells.lookup y=some c:=
 kW scope.names [] (fun _ z=>by cases z) (S.cells I) (y,c) (PySem.mem_of_lookup h)
theorem uU {h4:Heap}{m:Str→Option Value}{tk:Nat}(S:bB scope X.env.kindOf xs R X.N)(I:L2.Inv X ae σ H s)(hC:s.heap.objs.size≤C)(k:∀b o,s.heap.get? b=some o→h4.get? b=some o)(hn:h4.Ns C m)
  (hf:∀b∈fp,iB X ae H b) (hfl:∀b∈fp,b<s.heap.objs.size):L2.Inv (aC X scope xs R fp s H C) [] (List.replicate xs.length none++σ) H {s with heap:=h4,toks:=tk}:=by
 have hkn:∀y kk,(relabel scope X.env).names.lookup y=some kk→(kk=.cell∨kk=.free)→scope.names.lookup y=some .free:=fun y kk e hk=>by
  rcases eG e with q|q
  ·rcases hk with z|z
   ·subst z;exact absurd rfl (S.nocell _ (PySem.mem_of_lookup q))
   ·subst z;exact q
  ·exact q.2
 have hasc:∀y,scope.names.lookup y=some .free→∃c,(cz X.env.cells scope.names []).lookup y=some c:=fun y e=>by
  obtain⟨c,hc⟩:=kR (cells:=X.env.cells) scope.names [] y (PySem.mem_of_lookup e);exact iy hc
 refine⟨⟨I.ok.mod,S.kind,I.ok.glob,I.ok.blt,hC,fun y z c h1 h2=>I.ok.inj y z c (bU S I h1) (bU S I h2),fun y hy=>?_,fun y c z=>absurd (show false=true from z) Bool.false_ne_true,I.ok.hd,I.ok.frames,.inl rfl,fun b hb=>⟨?_,fun y c e=>?_⟩,I.bs,Nat.le_trans I.ok.bsz I.sz,fun b o e hb=>?_,fun b hb z=>?_,I.stack,I.stkFree⟩,
  rfl,I.bare,Un.kept k,⟨m,hn,fun i y v h1 h2 h3=>?_⟩,fun y c e=>?_,I.hok.fresh hC,fun y c e=>I.freeC y c (bU S I e),fun p hp=>absurd (show p∈([]:List (Addr×Obj)) from hp) (by simp),I.hok.kept k,?_⟩
 ·rcases hy with e|e
  ·exact hasc y (hkn y _ e (.inl rfl))
  ·exact hasc y (hkn y _ e (.inr rfl))
 ·exact Nat.ne_of_lt (Nat.lt_of_lt_of_le (hfl b hb) hC)
 ·exact(hf b hb).2.2.2.2.1 y c (bU S I e)
 ·rcases(hf b hb).2.2.2.1 with z|z
  ·exact I.ok.noex b o e z
  ·exact absurd (Nat.lt_of_lt_of_le (Heap.lt_size e) (Nat.le_trans I.ok.bsz z)) (Nat.lt_irrefl _)
 ·rcases mem_cons.mp (I.stkSub b z) with e|e
  ·exact(hf b hb).2.1 e
  ·exact(hf b hb).2.2.1 e
 ·by_cases hi:i<xs.length
  ·exfalso;rw[getElem?_append_left (by rw[length_replicate];exact hi),getElem?_replicate,if_pos hi] at h2;cases h2
  ·obtain⟨i,rfl⟩:∃j,i=xs.length+j:=⟨i-xs.length,by omega⟩;have h1:R[i]?=some y:=by
    have h1:(xs++R)[xs.length+i]?=some y:=h1;rw[getElem?_append_right (by omega)] at h1;simpa using h1
   have h2:σ[i]?=some (some v):=by
    rw[getElem?_append_right (by rw[length_replicate];omega)] at h2;simpa using h2
   have hyR:y∈R:=mem_of_getElem? h1;have hf':scope.names.lookup y=some .free∧((relabel scope X.env).names.lookup y=some .cell∨(relabel scope X.env).names.lookup y=some .free):=by
    have h3:(relabel scope X.env).names.lookup y=some .local∨(relabel scope X.env).names.lookup y=some .cell∨(relabel scope X.env).names.lookup y=some .free:=h3;rcases h3 with e|e|e
    ·rcases eG e with q|q
     ·exfalso;rcases S.locs _ (PySem.mem_of_lookup q) rfl with z|z
      ·exact(nodup_append.mp S.nd).2.2 y z y hyR rfl
      ·have z:y=(".0":Str):=z;rw[z] at hyR;exact S.no0 hyR
     ·exact absurd q.1 (by intro z;cases z)
    ·exact⟨hkn y _ e (.inl rfl),.inl e⟩
    ·exact⟨hkn y _ e (.inr rfl),.inr e⟩
   have hN:=S.same i y h1 hf'.1;have hk:=S.free (y,.free) (PySem.mem_of_lookup hf'.1) rfl;obtain⟨mX,hnX,hl⟩:=I.loc;have vis:Dh X.env.scope y:=by
    rcases hk with z|z
    ·exact .inr (.inl z)
    ·exact .inr (.inr z)
   obtain⟨u,r,l⟩:=hl i y v hN h2 vis;refine⟨u,r,.inr ⟨hf'.2,?_⟩⟩;rcases l with⟨z,_⟩|⟨_,c,hc,o,ho,hod⟩
   ·exfalso;rcases hk with q|q
    ·have q:X.env.kindOf y=some .cell:=q;rw[z] at q;cases q
    ·have q:X.env.kindOf y=some .free:=q;rw[z] at q;cases q
   ·obtain⟨c',hc'⟩:=hasc y hf'.1;have:c'=c:=by
     have:=bU S I hc';rw[hc] at this;exact(Option.some.inj this).symm
    subst this;exact⟨c',hc',o,k _ _ ho,hod⟩
 ·obtain⟨v,o,ho,hd⟩:=I.cell y c (bU S I e);exact⟨v,o,k _ _ ho,hd⟩
 ·show(List.replicate xs.length none++σ).length=(xs++R).length;rw[length_append,length_append,length_replicate,I.len,S.len]
end
def cj (t:jY)(gc:GT)(ge:GE):List D→a8→ax→aI (List D)
 | [],ρ,M=>if t.ok M then .ok [] M else .bad
 | d::r,ρ,M=>if t.ok M then
   match gc (some d::ρ) M with
   | .ok true M1=>match ge (some d::ρ) M1 with
    | .ok e M2=>(cj t gc ge r ρ M2).bind fun es M3=>.ok (e::es) M3
    | _=>.bad
   | .ok false M1=>cj t gc ge r ρ M1
   | _=>.bad
  else .bad
def bt:GT:=fun _ M=>.ok true M
def aM (t:jY)(n:Nat)(sg:GG)(gc:GT)(ge:GE):List D→a8→ax→aI (List D)
 | [],ρ,M=>if t.ok M then .ok [] M else .bad
 | d::r,ρ,M=>if t.ok M then
   match sg d (List.replicate n none++ρ) with
   | none=>.bad
   | some ρ1=>match gc ρ1 M with
    | .ok true M1=>match ge ρ1 M1 with
     | .ok e M2=>(aM t n sg gc ge r ρ M2).bind fun es M3=>.ok (e::es) M3
     | _=>.bad
    | .ok false M1=>aM t n sg gc ge r ρ M1
    | _=>.bad
  else .bad
def bL (gi:GI)(n:Nat)(sg:GG)(gc:GT)(ge:GE)(mk:List D→ax→aI D):GE:=fun ρ M=>(gi ρ M).bind fun t M1=>(aM t n sg gc ge t.ds ρ M1).bind mk
theorem nS (t:jY)(gc:GT)(ge:GE):∀(ds:List D) (ρ:a8) (M:ax),cj t gc ge ds ρ M=aM t 1 (cr 0) gc ge ds ρ M
 | [],ρ,M=>rfl
 | d::r,ρ,M=>by
  have ih:=nS t gc ge r;unfold cj aM;show _=(if t.ok M=true then(match gc (some d::ρ) M with
    | .ok true M1=>match ge (some d::ρ) M1 with
     | .ok e M2=>(aM t 1 (cr 0) gc ge r ρ M2).bind fun es M3=>.ok (e::es) M3
     | _=>.bad
    | .ok false M1=>aM t 1 (cr 0) gc ge r ρ M1
    | _=>.bad) else .bad)
  simp only[ih]
def nK (n:Nat)(sg:GG):Prop:=∀d ρ ρ',sg d ρ=some ρ'→ρ'.length=ρ.length∧∀i:Nat,n≤i→ρ'[i]?=ρ[i]?
theorem rm {n i:Nat}(h:i<n):nK n (cr i):=fun d ρ ρ' e=>by
 have e:some (ρ.set i (some d))=some ρ':=e;cases e;exact⟨by rw[length_set],fun j hj=>by rw[getElem?_set_ne (by omega)]⟩
theorem oD {n:Nat}:∀{is:List Nat} {ds:List D} {ρ ρ':a8},is.all (fun i=>decide (i<n))=true→gU is ds ρ=some ρ'→ρ'.length=ρ.length∧∀i:Nat,n≤i→ρ'[i]?=ρ[i]?
 | [],[],ρ,ρ',_,e=>by cases e;exact⟨rfl,fun _ _=>rfl⟩
 | [],_::_,_,_,_,e=>by cases e
 | _::_,[],_,_,_,e=>by cases e
 | i::is,d::ds,ρ,ρ',h,e=>by
  rw[all_cons,Bool.and_eq_true] at h;have hi:i<n:=by simpa using h.1
  obtain⟨a,b⟩:=oD h.2 (show gU is ds (ρ.set i (some d))=some ρ' from e);exact⟨by rw[a,length_set],fun j hj=>by rw[b j hj,getElem?_set_ne (by omega)]⟩
theorem xD {n:Nat}{is:List Nat}(h:is.all (fun i=>decide (i<n))=true):nK n (jy is):=fun d ρ ρ' e=>by
 cases d with
 | tup ds=>exact oD h e
 | _=>cases e
theorem nK.back {n:Nat}{sg:GG}{K:W.Frag}{θ:List Addr}{H:Hp}{τ:L2.St}{ρ ρ1:a8}{d:D}(o:nK n sg)(e:sg d (List.replicate n none++ρ)=some ρ1)(h:gJ K θ H τ ρ1):gJ K θ H τ (List.replicate n none++ρ):=by
 obtain⟨a,b⟩:=o _ _ _ e;refine⟨by rw[←a];exact h.len,fun i d' q=>?_⟩
 by_cases hi:i<n
 ·rw[getElem?_append_left (by rw[length_replicate];exact hi),getElem?_replicate,if_pos hi] at q;cases q
 ·rw[←b i (by omega)] at q;exact h.at_ i d' q
def aR (gi:GI)(gc:GT)(ge:GE)(mk:List D→ax→aI D):GE:=fun ρ M=>(gi ρ M).bind fun t M1=>(cj t gc ge t.ds ρ M1).bind mk
theorem oJ (elt target iter:Expr)(ifs:List Expr)(scope:Scope)(pos:Pos)(it acc:Value)(env:Env)(cond:Sem Bool)
  (hc:(forIn (m:=Sem) ifs true fun c r=>if r=true then do let ok ←isTrue c env (eval c env);pure (ForInStep.yield ok) else pure (ForInStep.yield r))=cond) :
  compTurn (.ListComp elt [⟨target,iter,ifs,0⟩] scope pos) 0 it acc env=(standAt iter.pos >>= fun _=>pyNext it >>= fun r=>match r with
   | none=>pure (.done .next)
   | some v=>letOwnedTupleGo target it v >>= fun _=>assign target env v >>= fun _=>cond >>= fun ok=>
    if ok=true then((eval elt env >>= fun x=>call (.builtin "list.append") [acc,x] >>= fun _=>pure ()) >>= fun _=>
     again (.compLoop (.ListComp elt [⟨target,iter,ifs,0⟩] scope pos) 0 it acc env)) else again (.compLoop (.ListComp elt [⟨target,iter,ifs,0⟩] scope pos) 0 it acc env)):=by
 subst hc;rfl
section
variable {prog:Program}{w:World}{A:Around}{R:Result→Shared→Prop}{s:Shared}
theorem gK {elt target iter:Expr}{ifs:List Expr}{scope:Scope}{pos:Pos}{it acc:Value}{env:Env}{cond:Sem Bool}
  (hc:(forIn (m:=Sem) ifs true fun c r=>if r=true then do let ok ←isTrue c env (eval c env);pure (ForInStep.yield ok) else pure (ForInStep.yield r))=cond) (I:Nat→Shared→Prop)
  (turn:∀n s,I n s→wpAny (model prog w) A (pyNext it) (fun r s₁=>match r with
   | none=>R (.ok .next) s₁
   | some v=>wpAny (model prog w) A (letOwnedTupleGo target it v) (fun _ s₂=>wpAny (model prog w) A (assign target env v) (fun _ s₃=>wpAny (model prog w) A cond (fun ok s₄=>if ok=true then
     wpAny (model prog w) A (eval elt env) (fun x s₅=>wpAny (model prog w) A (call (.builtin "list.append") [acc,x]) (fun _ s₆=>∃m,m<n∧I m s₆) (fun _ _=>False) s₅) (fun _ _=>False) s₄
     else∃m,m<n∧I m s₄) (fun _ _=>False) s₃) (fun _ _=>False) s₂) (fun _ _=>False) s₁) (fun _ _=>False) s)
  (n:Nat) (h:I n s):codeAny (model prog w) A (.compLoop (.ListComp elt [⟨target,iter,ifs,0⟩] scope pos) 0 it acc env) R s:=by
 refine codeAny_loop rfl I (fun n s hI=>?_) n h;show wpAny _ _ ((compTurn (.ListComp elt [⟨target,iter,ifs,0⟩] scope pos) 0 it acc env).onRaise (fun x=>do noteFrame x env;theTreesLotGoes x)) _ _ s;refine wpAny_noted ?_;rw[oJ _ _ _ _ _ _ _ _ _ _ hc];refine wpAny_bind (wpAny_standAt (wpAny_bind (wpAny_mono (turn n s hI) (fun r s₁ h₁=>?_) fun _ _ z=>z.elim)));cases r with
 | none=>exact wpAny_pure h₁
 | some v=>
  refine wpAny_bind (wpAny_mono h₁ (fun _ s₂ h₂=>?_) fun _ _ z=>z.elim);refine wpAny_bind (wpAny_mono h₂ (fun _ s₃ h₃=>?_) fun _ _ z=>z.elim);refine wpAny_bind (wpAny_mono h₃ (fun ok s₄ h₄=>?_) fun _ _ z=>z.elim);cases ok with
  | true=>
   rw[if_pos rfl] at h₄;rw[if_pos rfl];exact wpAny_bind (wpAny_bind (wpAny_mono h₄ (fun x s₅ h₅=>wpAny_bind (wpAny_mono h₅ (fun _ s₆ h₆=>wpAny_pure (wpAny_pure ⟨rfl,h₆⟩)) fun _ _ z=>z.elim)) fun _ _ z=>z.elim))
  | false=>
   rw[if_neg Bool.false_ne_true] at h₄;rw[if_neg Bool.false_ne_true];exact wpAny_pure ⟨rfl,h₄⟩
theorem p8 {env:Env}:(forIn (m:=Sem) ([]:List Expr) true fun c r=>if r=true then do let ok ←isTrue c env (eval c env);pure (ForInStep.yield ok) else pure (ForInStep.yield r))=pure true:=rfl
theorem sK {env:Env}{c:Expr}:(forIn (m:=Sem) [c] true fun c r=>if r=true then do let ok ←isTrue c env (eval c env);pure (ForInStep.yield ok) else pure (ForInStep.yield r))=isTrue c env (eval c env):=by
 rw[forIn_cons];simp
end
theorem zr {b a c:Nat}(h:b<a)(e:c=a+1):b≠c:=by omega
theorem v7 {b a c:Nat}(h:b<c)(e:c=a):a≠b:=by omega
theorem mW {b a c:Nat}(h:b<c)(e:c=a):b≠a:=by omega
abbrev eK (its:List Value)(n:Nat):Obj:={cls:=.type "list",data:=.seq its.toArray n}
section
variable {X:Cx}{ae:List (Addr×Obj)}{σ:L2.St}{s:Shared}{scope:Scope}{xs:List Str}{tg:Expr}{sg:GG}{R:List Str}{elt iter:Expr}{ifs:List Expr}{pos:Pos}{E:Value→Shared→Prop}
theorem xX {K:W.Frag}{θ:List Addr}{H:Hp}{σ:L2.St}{ρ:a8}{n:Nat}(h:gJ K θ H σ ρ):gJ K θ H (List.replicate n none++σ) (List.replicate n none++ρ):=by
 refine⟨by rw[length_append,length_append,length_replicate,length_replicate,h.len],fun i d e=>?_⟩
 by_cases hi:i<n
 ·rw[getElem?_append_left (by rw[length_replicate];exact hi),getElem?_replicate,if_pos hi] at e;cases e
 ·rw[getElem?_append_right (by rw[length_replicate];omega),length_replicate] at e ⊢;exact h.at_ _ d e
inductive HZ (X0:Cx) (fp:List Addr) (tn:Nat→Heap→Prop) (K:W.Frag) (acc:Addr) (t:jY) (ρ0:a8) (θ1:List Addr) (H2:Hp) (es:List D) (go:List D→ax→aI (List D)) (Mend:ax) (n:Nat) (s':Shared):Prop
 | mk (i:Nat) (τ:L2.St) (H':Hp) (θ':List Addr) (M':ax) (ds au:List D) (vs:List V) (its:List Value) (na:Nat) (e1:n=t.ds.length-i) (e2:i≤t.ds.length)
   (e3:L2.Inv X0 [(acc,eK its na)] τ H' s') (e4:gJ K θ' H' τ ρ0) (e5:tn i s'.heap) (e6:∀b∈fp,H' b=none) (e7:Go K θ1 H2 θ' H' M') (e8:aU K θ' H' ds vs) (e9:aP vs its) (e10:go (t.ds.drop i) M'=.ok au Mend) (e11:ds++au=es)
theorem kA {fp:List Addr}{it:Addr}{tn:Nat→Heap→Prop}{J:It}{H2:Hp}{s2:Shared}{t:jY}{M1:ax}{θ1:List Addr}{ρ:a8}{gc:GT}{ge:GE}{es:List D}{Mend:ax}{RR:Value→Addr→Result→Shared→Prop}
  (S:bB scope X.env.kindOf xs R X.N) (hc:X.calm=true) (I2:L2.Inv X ae σ H2 s2) (T:pU X.prog X.w X.K tg J fp it tn) (st2:tn 0 s2.heap) (f2:∀b∈fp,iB X ae H2 b)
  (hw1:Wr X.K θ1 H2 M1) (hd1:gJ X.K θ1 H2 σ ρ) (hJ:xj X.K J θ1 H2 t) (hgo:aM t xs.length sg gc ge t.ds ρ M1=.ok es Mend) (hlen:es.length≤sizeLine)
  (hcd:∀C,∃cond,(forIn (m:=Sem) ifs true fun c r=>if r=true then do let ok ←isTrue c (aC X scope xs R fp s2 H2 C).env (eval c (aC X scope xs R fp s2 H2 C).env);pure (ForInStep.yield ok) else pure (ForInStep.yield r))=cond∧
   ∀(ae:List (Addr×Obj)) (s:Shared) (σ:L2.St) (H:Hp) (Q:Bool→Hp→Prop),L2.Inv (aC X scope xs R fp s2 H2 C) ae σ H s→tT (aC X scope xs R fp s2 H2 C) gc σ H Q→wpAny (model X.prog X.w) X.A cond (TP (aC X scope xs R fp s2 H2 C) ae σ Q) (fun _ _=>False) s)
  (own:nK xs.length sg) (hg:∀C,PG (aC X scope xs R fp s2 H2 C) tg (tG (aC X scope xs R fp s2 H2 C) sg))
  (he:∀C,PE (aC X scope xs R fp s2 H2 C) elt (tE (aC X scope xs R fp s2 H2 C) ge))
  (fin:∀(acc C:Addr) (s':Shared) (H':Hp) (θ':List Addr) (vs:List V) (m:Str→Option Value),L2.Inv X ae σ (cw H' acc (.lst vs)) s'→s'.heap.Ns C m→iB X ae (cw H' acc (.lst vs)) C→Go X.K θ1 H2 θ' H' Mend→H' acc=none→aU X.K θ' H' es vs→RR (.ref acc) C (.ok .next) s') :
  wpAny (model X.prog X.w) X.A (newList []) (fun acc s₃=>wpAny (model X.prog X.w) X.A (newFunctionEnv scope X.env.globals (cz X.env.cells scope.names []) [] X.env.qual none .none (some X.env)) (fun cenv s₄=>
   codeAny (model X.prog X.w) X.A (.compStart (.ListComp elt [⟨tg,iter,ifs,0⟩] scope pos) 0 (.ref it) acc {cenv with scope:=relabel scope X.env}) (RR acc cenv.locals) s₄) E s₃) E s2:=by
 refine wpAny_newObj_type (wpAny_newFunctionEnv S.nocell (by intro y hy;simp at hy) (fun h₁ hns₁ hsb₁=>?_) S.kind);dsimp only at hns₁ hsb₁ ⊢;generalize hHp:s2.heap.push {cls:=.type "list",dict:=none,data:=.seq ([]:List Value).toArray}=Hp2 at hns₁ hsb₁ ⊢;have hCe:Hp2.objs.size=s2.heap.objs.size+1:=by rw[←hHp,Heap.size_push]
 generalize hCd:Hp2.objs.size=C at hns₁ hsb₁ hCe ⊢;generalize hAd:s2.heap.objs.size=acc at hCe ⊢;have hDC:acc≠C:=by rw[hCe];exact Nat.ne_of_lt (Nat.lt_succ_self _)
 have old:∀b o,s2.heap.get? b=some o→h₁.get? b=some o:=fun b o e=>by
  have hb:b<acc:=by rw[←hAd];exact Heap.lt_size e
  refine hsb₁.extBut b o (zr hb hCe) (Heap.get?_push_of_some _ ?_);rw[←hHp];exact Heap.get?_push_of_some _ e
 have hacc0:h₁.get? acc=some (eK [] 0):=by
  refine hsb₁.extBut acc _ hDC (Heap.get?_push_of_some _ ?_);rw[←hHp,←hAd];exact Heap.get?_push_size _ rfl
 have hfl:∀b∈fp,b<s2.heap.objs.size:=fun b hb=>by
  obtain⟨o,e,_⟩:=T.obj 0 _ st2 b hb;exact Heap.lt_size e
 have hCs:s2.heap.objs.size≤C:=by omega
 have IY0:L2.Inv (aC X scope xs R fp s2 H2 C) [] (List.replicate xs.length none++σ) H2 {s2 with heap:=h₁,toks:=s2.toks+([]:List (Str×Value)).length}:=uU S I2 hCs old hns₁ f2 hfl;obtain⟨cond,hcond,hct⟩:=hcd C;have fpY:∀{H':Hp} {p:Obj},(∀b∈fp,H' b=none)→∀b∈fp,iB (aC X scope xs R fp s2 H2 C) [(acc,p)] H' b:=fun {H' p} hn b hb=>by
  refine⟨hn b hb,?_,fun z=>?_,.inl hb,fun y c e=>?_,fun q hq=>?_⟩
  ·exact Nat.ne_of_lt (Nat.lt_of_lt_of_le (hfl b hb) hCs)
  ·rcases mem_cons.mp (I2.stkSub b z) with e|e
   ·exact(f2 b hb).2.1 e
   ·exact(f2 b hb).2.2.1 e
  ·exact(f2 b hb).2.2.2.2.1 y c (bU S I2 e)
  ·have hq:q∈([]:List (Addr×Obj))++[(acc,p)]:=hq;have e:q=(acc,p):=by simpa using hq
   rw[e];exact v7 (hfl b hb) hAd
 have accF:∀b∈lC X.stack,acc≠b:=fun b hb e=>by
  have:acc∉X.env.locals::X.fs:=by
   intro z;rcases mem_cons.mp z with z|z
   ·exact v7 I2.lt hAd z
   ·exact I2.nofs (Nat.le_of_eq hAd) z
  exact this (e▸I2.stkSub b hb)
 have loop:∀s₃:Shared,s₃={s2 with heap:=h₁,toks:=s2.toks+([]:List (Str×Value)).length}→
   codeAny (model X.prog X.w) X.A (.compLoop (.ListComp elt [⟨tg,iter,ifs,0⟩] scope pos) 0 (.ref it) (.ref acc) (aC X scope xs R fp s2 H2 C).env) (RR (.ref acc) C) s₃:=by
  rintro s₃ rfl;have pin0:∀{σ':L2.St} {H':Hp} {s':Shared} {its:List Value} {n:Nat},L2.Inv (aC X scope xs R fp s2 H2 C) [] σ' H' s'→s'.heap.get? acc=some (eK its n)→H' acc=none→L2.Inv (aC X scope xs R fp s2 H2 C) [(acc,eK its n)] σ' H' s':=fun {σ' H' s' its n} I' e hn=>
   I'.pins_of fun p hp=>by
    have ep:p=(acc,eK its n):=by simpa using hp
    subst ep;exact⟨e,hn,hDC,fun z=>accF acc z rfl,fun v z=>by cases z⟩
  refine gK hcond (HZ (aC X scope xs R fp s2 H2 C) fp tn X.K acc t (List.replicate xs.length none++ρ) θ1 H2 es (fun l N=>aM t xs.length sg gc ge l ρ N) Mend) ?_ t.ds.length
   ⟨0,_,H2,θ1,M1,[],es,[],[],0,rfl,Nat.zero_le _,pin0 IY0 hacc0 (I2.hok.fresh (Nat.le_of_eq hAd)),xX hd1,T.keep 0 _ _ st2 (fun b hb o e=>old b o e),fun b hb=>(f2 b hb).1,.refl hw1,rfl,.nil,hgo,rfl⟩
  rintro n s' ⟨i,τ,H',θ',M',ds,au,vs,its,na,rfl,hil,I',dn',st',fr',g',rd',rv',hrest,hes⟩;have hok:t.ok M'=true:=by
   cases hq:t.ok M' with
   | true=>rfl
   | false=>
    exfalso;cases hdr:t.ds.drop i with
    | nil=>rw[hdr,aM,if_neg (by rw[hq];exact Bool.false_ne_true)] at hrest;cases hrest
    | cons d r=>rw[hdr,aM,if_neg (by rw[hq];exact Bool.false_ne_true)] at hrest;cases hrest
  obtain⟨hy,hst⟩:=hJ θ' H' M' g' hok i
  by_cases hlt:i<t.ds.length
  ·have e1:t.ds[i]?=some t.ds[i]:=getElem?_eq_getElem hlt;obtain⟨hgo',hyl⟩:=hy _ e1;rw[drop_eq_getElem_cons hlt,aM,if_pos hok] at hrest;refine b5 (T.item (aC X scope xs R fp s2 H2 C) rfl rfl rfl hc i _ s' _ H' _ I' (fpY fr') st' hgo') fun r s4 hxx=>?_
   obtain⟨u,hr,h4⟩:=hxx;subst hr;refine b5 h4 fun _ s5 hxx=>?_
   obtain⟨v,H5,I5,r5,y5,st5,fr5⟩:=hxx;obtain⟨gy,rx⟩:=hyl v H5 y5;have I5':=I5.pinned (fpY fr5) (T.obj _ _ st5);cases qs:sg t.ds[i] (List.replicate xs.length none++ρ) with
   | none=>rw[qs] at hrest;cases hrest
   | some ρ1=>
   rw[qs] at hrest;dsimp only at hrest;refine b5 (hg C _ s5 _ H5 v u (fun σ6 H6=>gJ X.K θ' H6 σ6 ρ1∧H6=H5) I5' r5 ⟨_,θ',M',t.ds[i],dn'.go gy,gy.wr,rx,ρ1,qs,fun σ6 d6=>⟨d6,rfl⟩⟩) fun _ s6 hxx=>?_
   obtain⟨σ6,H6,I6,hdY,eH6⟩:=hxx;subst eH6;cases qc:gc ρ1 M' with
   | bad=>rw[qc] at hrest;cases hrest
   | err c Mx=>rw[qc] at hrest;cases hrest
   | ok b Mb=>
    refine b5 (hct _ s6 _ H6 (fun b' H7=>b'=b∧∃θ7,Go X.K θ' H6 θ7 H7 Mb) I6 ⟨_,θ',M',hdY,gy.wr,?_⟩) fun ok s7 ⟨H7,I7,eb,θ7,g7⟩=>?_
    ·rw[qc];exact fun θ7 H7 g7=>⟨rfl,θ7,g7⟩
    subst eb;have fpk:∀{s8:Shared} {σ8:L2.St} {H8:Hp},L2.Inv (aC X scope xs R fp s2 H2 C) ([(acc,eK its na)]++kQ fp s5.heap) σ8 H8 s8→(∀b∈fp,H8 b=none)∧(∀b∈fp,∀o,s5.heap.get? b=some o→s8.heap.get? b=some o)∧s8.heap.get? acc=some (eK its na)∧H8 acc=none:=fun {s8 σ8 H8} I8=>by
     have pa:=I8.pin (acc,eK its na) (mem_append_right _ (mem_append_left _ (by simp)));refine⟨fun b hb=>?_,fun b hb o e=>(I8.pin (b,o) (mem_append_right _ (mem_append_right _ (f6 hb e)))).1,pa.1,pa.2.1⟩;obtain⟨o,e,d⟩:=T.obj _ _ st5 b hb;exact(I8.pin (b,o) (mem_append_right _ (mem_append_right _ (f6 hb e)))).2.1
    cases ok with
    | false=>
     rw[if_neg Bool.false_ne_true];rw[qc] at hrest;obtain⟨k1,k2,k3,k4⟩:=fpk I7;exact⟨t.ds.length-(i+1),by omega,i+1,σ6,H7,θ7,Mb,ds,au,vs,its,na,rfl,hlt,I7.unpinned,own.back qs (hdY.go g7),T.keep _ _ _ st5 k2,k1,g'.trans (gy.trans g7),rd'.go (gy.trans g7),rv',hrest,hes⟩
    | true=>
     rw[if_pos rfl];rw[qc] at hrest;have hrest:(match ge ρ1 Mb with
      | .ok e M2=>(aM t xs.length sg gc ge (t.ds.drop (i+1)) ρ M2).bind fun es M3=>.ok (e::es) M3
      | _=>.bad)=aI.ok au Mend:=hrest
     cases qe:ge ρ1 Mb with
     | bad=>rw[qe] at hrest;cases hrest
     | err c Mx=>rw[qe] at hrest;cases hrest
     | ok dv Mv=>
      rw[qe] at hrest;have hrest:((aM t xs.length sg gc ge (t.ds.drop (i+1)) ρ Mv).bind fun es M3=>aI.ok (dv::es) M3)=aI.ok au Mend:=hrest;refine b5 (he C _ s7 _ H7 (fun w H8=>∃θ8,Go X.K θ7 H7 θ8 H8 Mv∧cQ X.K θ8 H8 dv w) I7 ⟨_,θ7,Mb,hdY.go g7,g7.wr,?_⟩) fun uv s8 ⟨w,H8,I8,rw8,θ8,g8,rd8⟩=>?_
      ·rw[qe];exact fun w θ8 H8 g8 rd8=>⟨θ8,g8,rd8⟩
      obtain⟨k1,k2,k3,k4⟩:=fpk I8;cases qr:aM t xs.length sg gc ge (t.ds.drop (i+1)) ρ Mv with
      | bad=>rw[qr] at hrest;cases hrest
      | err c Mx=>rw[qr] at hrest;cases hrest
      | ok rest' Mr=>
       rw[qr] at hrest;have hrest:aI.ok (dv::rest') Mr=aI.ok au Mend:=hrest;cases hrest;have hsz:its.length<sizeLine:=by
        have e2:(ds++dv::rest').length≤sizeLine:=by rw[hes];exact hlen
        rw[length_append,length_cons,ar rd',rv'.length] at e2;omega
       refine call_meets F.slot_list_append ⟨_,k3,rfl⟩ F.entry_list_append (F.args_list_append_2 _ _) (PySem.list_append acc its.toArray na uv (by rw[size_toArray];omega)) ⟨k3,?_⟩;have qup:=PySem.IsL.update k3 (fun a=>a.push uv);have eup:(its.toArray.push uv)=(its++[uv]).toArray:=by simp
       have keepb:∀b o,b≠acc→s8.heap.get? b=some o→(s8.heap.update acc (Obj.mapSeq fun a=>a.push uv)).get? b=some o:=fun b o hb e=>(Heap.get?_update_other s8.heap _ (Ne.symm hb)).trans e
       have I9:L2.Inv (aC X scope xs R fp s2 H2 C) [] σ6 H8 {s8 with heap:=s8.heap.update acc (Obj.mapSeq fun a=>a.push uv),toks:=s8.toks}:=by
        refine Inv.turned (it:=acc) (I8.pins_of (pins':=[]) fun p hp=>absurd hp (by simp)) keepb k4 hDC (.inr (Nat.le_of_eq hAd)) (fun y c e z=>?_) fun p hp=>absurd (show p∈([]:List (Addr×Obj)) from hp) (by simp)
        obtain⟨v',o,ho,hdd⟩:=I2.cell y c (bU S I2 e);exact mW (Heap.lt_size ho) hAd z
       obtain⟨n',eq'⟩:∃n',(s8.heap.update acc (Obj.mapSeq fun a=>a.push uv)).get? acc=some (eK (its++[uv]) n'):=by
        have q2:=qup;rw[eup] at q2;exact⟨_,q2⟩
       exact⟨t.ds.length-(i+1),by omega,i+1,σ6,H8,θ8,Mv,ds++[dv],rest',vs++[w],its++[uv],n',rfl,hlt,pin0 I9 eq' k4,own.back qs (hdY.go (g7.trans g8)),T.keep _ _ _ st5 (fun b hb o e=>keepb b o (mW (hfl b hb) hAd) (k2 b hb o e)),k1,g'.trans (gy.trans (g7.trans g8)),bS (rd'.go (gy.trans (g7.trans g8))) ⟨w,[],rfl,rd8,rfl⟩,rv'.append (.cons rw8 .nil),qr,by rw[←hes];simp⟩
  ·have e:i=t.ds.length:=by omega
   subst e;rw[drop_length,aM,if_pos hok] at hrest;cases hrest;have hes:ds=es:=by rw[←hes];simp
   subst hes;refine b5 (T.done (aC X scope xs R fp s2 H2 C) rfl rfl rfl hc _ _ s' _ H' _ I' (fpY fr') st' (hst (Nat.le_refl _))) fun r s4 hxx=>?_
   obtain⟨hr,I4⟩:=hxx;subst hr;have pa:=I4.pin (acc,eK its na) (mem_append_right _ (by simp));have e4:s4.heap.get? acc=some (eK its na):=pa.1;have n4:H' acc=none:=pa.2.1;have lv:vs.length≤sizeLine:=by rw[←ar rd'];exact hlen
   obtain⟨mC,hnC,_⟩:=I4.loc;have hHC:H' C=none:=I4.free;have wj:Un (lC X.stack) fp H2 H' s2.heap s4.heap:=I4.base;have neA:∀{b:Addr} {o:Obj},s2.heap.get? b=some o→b≠acc:=fun {b o} e=>mW (Heap.lt_size e) hAd
   have neH:∀{b:Addr} {u:HO},H' b=some u→b≠acc:=fun {b u} e z=>by rw[z,n4] at e;cases e
   have un4:Un (lC X.stack) fp H2 (cw H' acc (.lst vs)) s2.heap s4.heap:=by
    refine⟨wj.keep,wj.slot,fun b o e n hx=>?_,wj.there,fun b xs e=>?_,fun b o u e=>?_,fun b ps e=>?_⟩
    ·rw[aK (neA e)];exact wj.free b o e n hx
    ·have z:=wj.tups b xs e;rw[aK (neH z)];exact z
    ·have z:=wj.frzs b o u e;rw[aK (neH z)];exact z
    ·obtain⟨more,z⟩:=wj.tbls b ps e;exact⟨more,by rw[aK (neH z)];exact z⟩
   have hok4:iD X.prog X.w (cw H' acc (.lst vs)) s4.heap:=fun b u e=>by
    by_cases hb:b=acc
    ·subst hb;rw[cG] at e;cases e;exact⟨lv,its,na,rv',e4⟩
    ·rw[aK hb] at e;exact(I4.hok b u e).stay (fun c v _ q=>q) (fun c q=>by rw[aK (neH q)];exact q) fun c xs q=>by rw[aK (neH q)];exact q
   have IX:L2.Inv X ae σ (cw H' acc (.lst vs)) s4:=I2.call' (ch:=fp) I4.os un4 hok4 I4.bare fun b hb=>⟨(f2 b hb).2.2.2.1,(f2 b hb).2.1,(f2 b hb).2.2.2.2.1,(f2 b hb).2.2.2.2.2⟩
   refine fin acc C s4 H' θ' vs mC IX hnC (I2.fpOk hCs ?_) g' n4 rd';rw[aK (Ne.symm hDC)];exact hHC
 exact codeAny_compStart_list (loop _ rfl) (T.self _ 0 _ _ _ (T.keep 0 _ _ st2 fun b hb o e=>old b o e) (loop _ rfl))
end
section
variable {X:Cx}{scope:Scope}{xs:List Str}{tg:Expr}{sg:GG}{x:Str}{px:Pos}{R:List Str}{elt iter:Expr}{ifs:List Expr}{pos:Pos}{gi:GI}{gc:GT}{ge:GE}
def CV (mk:List D→ax→aI D):Prop:=∀(X:Cx) (θ:List Addr) (H:Hp) (Q:VK) (ds:List D) (M:ax) (vs:List V),aG X θ H Q (mk ds M)→Wr X.K θ H M→aU X.K θ H ds vs→vs.length≤sizeLine∧∀p,H p=none→Q (.ref p) (cw H p (.lst vs))
theorem vW:CV aH:=fun X θ H Q ds M vs h hw r=>aG.lst h hw r
theorem wu:CV bN:=fun X θ H Q ds M vs h hw r=>aG.mut h hw r
theorem wK {mk:List D→ax→aI D}(hm:mk=aH∨mk=bN){X:Cx}{θ:List Addr}{H:Hp}{Q:VK}{ds:List D}{M:ax}(h:aG X θ H Q (mk ds M)):ds.length≤sizeLine:=by
 rcases hm with e|e <;> subst e
 ·unfold aH at h;split at h
  ·assumption
  ·exact h.elim
 ·unfold bN at h;split at h
  ·assumption
  ·exact h.elim
theorem z8 {mk:List D→ax→aI D}(hm:mk=aH∨mk=bN):CV mk:=by
 rcases hm with e|e <;> subst e
 ·exact vW
 ·exact wu
def fJ (X:Cx)(scope:Scope)(xs:List Str)(R:List Str)(ifs:List Expr)(gc:GT):Prop:=∀fp s2 H2 C,∃cond,(forIn (m:=Sem) ifs true fun c r=>if r=true then do let ok ←isTrue c (aC X scope xs R fp s2 H2 C).env (eval c (aC X scope xs R fp s2 H2 C).env);pure (ForInStep.yield ok) else pure (ForInStep.yield r))=cond∧
   ∀(ae:List (Addr×Obj)) (s:Shared) (σ:L2.St) (H:Hp) (Q:Bool→Hp→Prop),L2.Inv (aC X scope xs R fp s2 H2 C) ae σ H s→tT (aC X scope xs R fp s2 H2 C) gc σ H Q→wpAny (model X.prog X.w) X.A cond (TP (aC X scope xs R fp s2 H2 C) ae σ Q) (fun _ _=>False) s
theorem vw:fJ X scope xs R [] bt:=fun fp s2 H2 C=>⟨_,p8,fun ae s σ H Q I ⟨ρ,θ,M,hd,hw,h⟩=>wpAny_pure ⟨H,I,h θ H (.refl hw)⟩⟩
theorem wX {c:Expr}(h:∀fp s2 H2 C,PT (aC X scope xs R fp s2 H2 C) c (tT (aC X scope xs R fp s2 H2 C) gc)):fJ X scope xs R [c] gc:=fun fp s2 H2 C=>⟨_,sK,fun ae s σ H Q I q=>h fp s2 H2 C ae s σ H Q I q⟩
theorem fN {t:jY}{n:Nat}{sg:GG}{gc:GT}{ge:GE}{ρ:a8}{c:Str}{M':ax}:∀(ds:List D) (M:ax),aM t n sg gc ge ds ρ M=.err c M'→False
 | [],M,h=>by
  unfold aM at h;split at h <;> cases h
 | d::r,M,h=>by
  unfold aM at h;split at h
  ·split at h
   ·cases h
   ·split at h
    ·rename_i M1 q1;split at h
     ·rename_i e M2 q2;cases q:aM t n sg gc ge r ρ M2 with
      | ok es M3=>rw[q] at h;cases h
      | err c2 M3=>exact fN r M2 q
      | bad=>rw[q] at h;cases h
     ·cases h
    ·rename_i M1 q1;exact fN r M1 h
    ·cases h
  ·cases h
theorem nW {mk:List D→ax→aI D}(hS:bI scope X.env.kindOf xs R X.N=true)(hc:X.calm=true)(hm:mk=aH∨mk=bN)(hi:PI X tg iter (tI X gi))(own:nK xs.length sg)(hg:∀fp s H C,PG (aC X scope xs R fp s H C) tg (tG (aC X scope xs R fp s H C) sg))(hts:fJ X scope xs R ifs gc)
  (he:∀fp s H C,PE (aC X scope xs R fp s H C) elt (tE (aC X scope xs R fp s H C) ge))
  (hs:∀x,foldedSetIterable iter X.env x=pure x:=by intro _;rfl):PE X (.ListComp elt [⟨tg,iter,ifs,0⟩] scope pos) (tE X (bL gi xs.length sg gc ge mk)):=by
 have S:=bB.of hS;intro ae s σ H Q I h;obtain⟨ρ,θ,M,hd,hw,h⟩:=h;rw[eval_ListComp];refine wpAny_comprehension_free (use:=none) rfl hs (jg (S.cells I)) S.kind S.lnames ?_;refine b5 (hi ae s σ H (fun J H2=>∃t M1 θ1,gi ρ M=.ok t M1∧Go X.K θ H θ1 H2 M1∧xj X.K J θ1 H2 t) I ⟨ρ,θ,M,hd,hw,?_⟩) fun v s1 h1=>b5 h1 fun itv s2 h2=>?_
 ·cases q:gi ρ M with
  | ok t M1=>exact fun J θ1 H1 g1 hJ=>⟨t,M1,θ1,rfl,g1,hJ⟩
  | err c M1=>unfold bL at h;rw[q] at h;exact h
  | bad=>unfold bL at h;rw[q] at h;exact h
 obtain⟨it,fp,tn,J,H2,rfl,I2,T,st2,f2,t,M1,θ1,eg,g1,hJ⟩:=h2;unfold bL at h;rw[eg] at h;have h:aG X θ H Q ((aM t xs.length sg gc ge t.ds ρ M1).bind mk):=h;cases q:aM t xs.length sg gc ge t.ds ρ M1 with
 | bad=>rw[q] at h;exact h.elim
 | err c Mx=>exact(fN _ _ q).elim
 | ok es Mend=>
  rw[q] at h;have h:aG X θ H Q (mk es Mend):=h;refine kA (RR:=fun acc C=>compPost (model X.prog X.w) X.A X.xe none (EP X ae σ Q) acc C) S hc I2 T st2 f2 g1.wr (hd.go g1) hJ q (wK hm h) (fun C=>hts fp s2 H2 C) own (fun C=>hg fp s2 H2 C) (fun C=>he fp s2 H2 C) ?_;intro acc C s' H' θ' vs m IX hnC fC g' na rd;refine⟨m,hnC,fun h' sb=>?_⟩;have I3:L2.Inv X ae σ (cw H' acc (.lst vs)) {s' with heap:=h',toks:=s'.toks}:=IX.turned (it:=C) (fun b o hb e=>(sb.2 b hb).trans e) fC.1 fC.2.1 fC.2.2.2.1 fC.2.2.2.2.1 fC.2.2.2.2.2;exact⟨.ref acc,_,I3,rfl,(z8 hm X θ' H' Q es Mend vs (aG.go (g1.trans g') h) g'.wr rd).2 acc na⟩
theorem oG {mk:List D→ax→aI D}{j:Nat}{y:Str}{py spos:Pos}(hS:bI scope X.env.kindOf xs R X.N=true)(hc:X.calm=true)(hm:mk=aH∨mk=bN)(hi:PI X tg iter (tI X gi))(own:nK xs.length sg)(hg:∀fp s H C,PG (aC X scope xs R fp s H C) tg (tG (aC X scope xs R fp s H C) sg))(hts:fJ X scope xs R ifs gc)
  (he:∀fp s H C,PE (aC X scope xs R fp s H C) elt (tE (aC X scope xs R fp s H C) ge))
  (hN:X.N.Nodup) (hj:X.N[j]?=some y) (hy:X.env.scope.names.lookup y=some .local)
  (hsw:swapsWith (.ListComp elt [⟨tg,iter,ifs,0⟩] scope pos) (some (.Name y py)) spos.line X.env=pure true)
  (hs:∀x,foldedSetIterable iter X.env x=pure x:=by intro _;rfl):PS X (.Assign [.Name y py] (.ListComp elt [⟨tg,iter,ifs,0⟩] scope pos) spos) (tS X (aA j (bL gi xs.length sg gc ge mk))):=by
 have S:=bB.of hS;intro ae s σ H Q I h;obtain⟨ρ,θ,M,hd,hw,h⟩:=h;rw[exec_Assign_Name_used _ _ _ _ hsw];refine wpAny_bind (wpAny_standAt (wpAny_bind ?_));show wpAny _ X.A (do let _ ←comprehension (.ListComp elt [⟨tg,iter,ifs,0⟩] scope pos) scope X.env _ (newList []) false (eval iter X.env) (some (assign (.Name y py) X.env))) _ _ s;refine wpAny_bind (wpAny_mono (wpAny_comprehension_free (use:=some (assign (.Name y py) X.env)) (Q:=fun _ s'=>SP X ae Q .next s') rfl hs (jg (S.cells I)) S.kind S.lnames ?_) (fun _ s' hq=>wpAny_pure (wpAny_pure hq)) fun _ _ e=>e);refine b5 (hi ae s σ H (fun J H2=>∃t M1 θ1,gi ρ M=.ok t M1∧Go X.K θ H θ1 H2 M1∧xj X.K J θ1 H2 t) I ⟨ρ,θ,M,hd,hw,?_⟩) fun v s1 h1=>b5 h1 fun itv s2 h2=>?_
 ·cases q:gi ρ M with
  | ok t M1=>exact fun J θ1 H1 g1 hJ=>⟨t,M1,θ1,rfl,g1,hJ⟩
  | err c M1=>unfold aA bL at h;rw[q] at h;exact h
  | bad=>unfold aA bL at h;rw[q] at h;exact h
 obtain⟨it,fp,tn,J,H2,rfl,I2,T,st2,f2,t,M1,θ1,eg,g1,hJ⟩:=h2;unfold aA bL at h;rw[eg] at h;have h:bC X θ H Q (((aM t xs.length sg gc ge t.ds ρ M1).bind mk).bind fun d M2=>.ok (.nx (ρ.set j (some d))) M2):=h;cases q:aM t xs.length sg gc ge t.ds ρ M1 with
 | bad=>rw[q] at h;exact h.elim
 | err c Mx=>exact(fN _ _ q).elim
 | ok es Mend=>
  rw[q] at h;have h:bC X θ H Q ((mk es Mend).bind fun d M2=>.ok (.nx (ρ.set j (some d))) M2):=h;have hE:aG X θ H (fun v H'=>∃θ' M',Go X.K θ H θ' H' M'∧∃d,mk es Mend=.ok d M'∧cQ X.K θ' H' d v) (mk es Mend):=by
   cases qm:mk es Mend with
   | ok d M2=>exact fun v θ' H' g' r=>⟨θ',M2,g',d,rfl,r⟩
   | err c M2=>rw[qm] at h;exact h
   | bad=>rw[qm] at h;exact h
  refine kA (RR:=fun acc C=>compPost (model X.prog X.w) X.A X.xe (some (assign (.Name y py) X.env)) (fun _ s'=>SP X ae Q .next s') acc C) S hc I2 T st2 f2 g1.wr (hd.go g1) hJ q (wK hm hE) (fun C=>hts fp s2 H2 C) own (fun C=>hg fp s2 H2 C) (fun C=>he fp s2 H2 C) ?_;intro acc C s' H' θ' vs m IX hnC fC g' na rd;obtain⟨θe,Me,ge',d,ed,rde⟩:=(z8 hm X θ' H' _ es Mend vs (aG.go (g1.trans g') hE) g'.wr rd).2 acc na;show wpAny _ X.A (assign (.Name y py) X.env (.ref acc)) _ _ s';refine wpAny_assign_Name (mv IX hN hj (.inl hy) (v:=.ref acc) rfl (fun s3 I3 hxx=>?_) (.inr hy));obtain⟨a,sa,ha⟩:=hxx;have hCa:C≠a:=by
   rcases ha with e|e
   ·rw[e];exact fC.2.1
   ·exact fun z=>fC.2.2.2.2.1 y a e z.symm
  refine⟨m,hnC.sameBut sa hCa,fun h' sb=>?_⟩;have I4:L2.Inv X ae (σ.set j (some (.ref acc))) (cw H' acc (.lst vs)) {s3 with heap:=h',toks:=s3.toks}:=I3.turned (it:=C) (fun b o hb e=>(sb.2 b hb).trans e) fC.1 fC.2.1 fC.2.2.2.1 fC.2.2.2.2.1 fC.2.2.2.2.2;rw[ed] at h;exact⟨_,_,I4,h _ θe _ ge' ((hd.go ge').set rde j)⟩
theorem sF {px:Pos}(hS:bI scope X.env.kindOf [x] R X.N=true)(fp:List Addr)(s:Shared)(H:Hp)(C:Addr):PG (aC X scope [x] R fp s H C) (.Name x px) (tG (aC X scope [x] R fp s H C) (cr 0)):=
 have S:=bB.of hS
 nh (X:=aC X scope [x] R fp s H C) S.nd rfl (.inl (lookup_relabel_local (S.own x (by simp)))) (.inr (lookup_relabel_local (S.own x (by simp))))
theorem rg (mk:List D→ax→aI D):aR gi gc ge mk=bL gi 1 (cr 0) gc ge mk:=by
 funext ρ M;unfold aR bL;simp only[nS]
theorem yY {mk:List D→ax→aI D}(hS:bI scope X.env.kindOf [x] R X.N=true)(hc:X.calm=true)(hm:mk=aH∨mk=bN)(hi:PI X (.Name x px) iter (tI X gi))(hts:fJ X scope [x] R ifs gc)
  (he:∀fp s H C,PE (aC X scope [x] R fp s H C) elt (tE (aC X scope [x] R fp s H C) ge))
  (hs:∀x,foldedSetIterable iter X.env x=pure x:=by intro _;rfl):PE X (.ListComp elt [⟨.Name x px,iter,ifs,0⟩] scope pos) (tE X (aR gi gc ge mk)):=by
 rw[rg];exact nW (xs:=[x]) hS hc hm hi (rm (Nat.zero_lt_one)) (sF hS) hts he hs
theorem pN {mk:List D→ax→aI D}{j:Nat}{y:Str}{py spos:Pos}(hS:bI scope X.env.kindOf [x] R X.N=true)(hc:X.calm=true)(hm:mk=aH∨mk=bN)(hi:PI X (.Name x px) iter (tI X gi))(hts:fJ X scope [x] R ifs gc)
  (he:∀fp s H C,PE (aC X scope [x] R fp s H C) elt (tE (aC X scope [x] R fp s H C) ge))
  (hN:X.N.Nodup) (hj:X.N[j]?=some y) (hy:X.env.scope.names.lookup y=some .local)
  (hsw:swapsWith (.ListComp elt [⟨.Name x px,iter,ifs,0⟩] scope pos) (some (.Name y py)) spos.line X.env=pure true)
  (hs:∀x,foldedSetIterable iter X.env x=pure x:=by intro _;rfl):PS X (.Assign [.Name y py] (.ListComp elt [⟨.Name x px,iter,ifs,0⟩] scope pos) spos) (tS X (aA j (aR gi gc ge mk))):=by
 rw[rg];exact oG (xs:=[x]) hS hc hm hi (rm (Nat.zero_lt_one)) (sF hS) hts he hN hj hy hsw hs
end
def cJ:List D→Option (List Bool)
 | []=>some []
 | .bl b::r=>(cJ r).map (b::·)
 | _=>none
def jS:FD:=fun ds M=>match ds with
 | [d]=>match bK d M with
  | some xs=>match cJ xs with
   | some bs=>.ok (.bl (bs.all id)) M
   | none=>.bad
  | none=>.bad
 | _=>.bad
theorem il {K:W.Frag}{θ:List Addr}{H:Hp}:∀{ds:List D} {vs:List V} {us:List Value} {bs:List Bool},aU K θ H ds vs→aP vs us→cJ ds=some bs→us=bs.map Value.bool
 | [],vs,us,bs,r,q,e=>by
  have e1:vs=[]:=r;subst e1;cases q;cases e;rfl
 | d::ds,vs,us,bs,r,q,e=>by
  obtain⟨v,rr,e1,h1,h2⟩:=r;subst e1;cases d with
  | bl b=>
   cases qb:cJ ds with
   | none=>simp[cJ,qb] at e
   | some bs'=>
    simp[cJ,qb] at e;subst e;have e2:v=.bl b:=h1;subst e2;cases q with
    | cons q1 q2=>
     cases q1;rw[map_cons,il h2 q2 qb]
  | _=>simp[cJ] at e
theorem uy (bs:List Bool):(List.range bs.length).all (fun i=>bs.getD i false)=bs.all id:=by
 rw[Bool.eq_iff_iff];simp only[all_eq_true,mem_range,id];constructor
 ·intro h b hb;obtain⟨i,hi,e⟩:=mem_iff_getElem.mp hb;have:=h i hi;rw[getD_eq_getElem?_getD,getElem?_eq_getElem hi] at this;rw[←e];exact this
 ·intro h i hi;rw[getD_eq_getElem?_getD,getElem?_eq_getElem hi];exact h _ (getElem_mem hi)
section
variable {X:Cx}
theorem jF {prog:Program}{w:World}{A:Around}(bs:List Bool):TruthOf prog w A (fun i v=>((bs.map Value.bool).toArray)[i]?=some v) (fun i=>bs.getD i false):=fun i v s Q E hP hQ=>by
 have hP:(bs.map Value.bool)[i]?=some v:=by simpa using hP
 rw[getElem?_map] at hP;cases q:bs[i]? with
 | none=>rw[q] at hP;cases hP
 | some b=>
  rw[q] at hP;cases hP;have e:bs.getD i false=b:=by rw[getD_eq_getElem?_getD,q];rfl
  dsimp only at hQ;rw[e] at hQ;exact wpAny_truthy_bool hQ
theorem pq {ae:List (Addr×Obj)}{σ:L2.St}{H:Hp}{s:Shared}{d:D}{θ:List Addr}{M:ax}{xs:List D}{bs:List Bool}{v:V}{u:Value}(hc:X.calm=true)(I:L2.Inv X ae σ H s)(hw:Wr X.K θ H M)(rv:cQ X.K θ H d v)(ru:aW v u)(q:bK d M=some xs)(qb:cJ xs=some bs){Q:Bool→Hp→Prop}{f:(Nat→Bool)→Nat→Bool}{E:Value→Shared→Prop}
  (h:∀h' tk,L2.Inv X ae σ H {s with heap:=h',toks:=tk}→Q (f (fun i=>bs.getD i false) bs.length) H) :
  wpAny (model X.prog X.w) X.A.in1 (pyIter u) (fun it s₂=>∃I fp wr n P St tr,it=.ref I∧Walks X.prog X.w X.A.in1 I fp wr n P St∧St 0 s₂.heap∧TruthOf X.prog X.w X.A.in1 P tr∧
   ∀h' tk,(∀b o,b∉wr→s₂.heap.get? b=some o→h'.get? b=some o)→EP X ae σ (fun v H=>∃b,v=.bl b∧Q b H) (.bool (f tr n)) {s₂ with heap:=h',toks:=tk}) E s:=by
 have hh:X.A.in1.handled=none:=I.ok.hd hc;obtain⟨a,vs,ea,sq,ra⟩:=kG hw rv q;subst ea;cases ru;rcases sq with sq|sq
 ·obtain⟨its,r1,p,hz⟩:=I.list sq;have e:=il ra r1 qb;subst e;have hlt:a<s.heap.objs.size:=by obtain⟨o,n,e,_⟩:=p;exact Heap.lt_size e
  refine wpAny_pyIter_list p.isList ⟨s.heap.objs.size,_,_,_,_,_,_,rfl,Walks.list hh s.heap.objs.size a (Nat.ne_of_lt hlt) _,⟨⟨_,Heap.get?_push_size _ rfl,rfl,rfl⟩,p.isList.push _⟩,jF bs,fun h' tk k=>?_⟩;have I':L2.Inv X ae σ H {s with heap:=h',toks:=tk}:=I.kept fun b o e=>k b o (by have:=Heap.lt_size e;simp;exact Nat.ne_of_lt this) (Heap.get?_push_of_some _ e)
  refine⟨.bl _,H,I',rfl,_,rfl,?_⟩;have:=h h' tk I';simpa using this
 ·obtain⟨its,r1,p,hz⟩:=I.tuple sq;have e:=il ra r1 qb;subst e;have hlt:a<s.heap.objs.size:=by obtain⟨o,e,_⟩:=p;exact Heap.lt_size e
  have pt:s.heap.IsTuple a (bs.map Value.bool).toArray:=p;refine wpAny_pyIter_tuple pt ⟨s.heap.objs.size,_,_,_,_,_,_,rfl,Walks.tuple hh s.heap.objs.size a (Nat.ne_of_lt hlt) _,⟨⟨_,Heap.get?_push_size _ rfl,rfl,rfl⟩,?_⟩,jF bs,fun h' tk k=>?_⟩
  ·obtain⟨o,e,r⟩:=p;exact⟨o,Heap.get?_push_of_some _ e,r⟩
  have I':L2.Inv X ae σ H {s with heap:=h',toks:=tk}:=I.kept fun b o e=>k b o (by have:=Heap.lt_size e;simp;exact Nat.ne_of_lt this) (Heap.get?_push_of_some _ e)
  refine⟨.bl _,H,I',rfl,_,rfl,?_⟩;have:=h h' tk I';simpa using this
theorem A5 (hc:X.calm=true):cA X (.builtin "all") (rC X jS):=by
 intro ae s σ H xs us Q I r h;obtain⟨θ,M,ds,hw,rd,h⟩:=h;unfold jS at h;split at h
 ·rename_i d;obtain⟨v,e,rv⟩:=gN rd;subst e;obtain⟨u,rfl,ru⟩:=jI r;split at h
  ·rename_i ys q;split at h
   ·rename_i bs qb;refine b5 (call_all_walk (pq hc I hw rv ru q qb (Q:=fun b H=>Q (.bl b) H) (f:=fun tr n=>(List.range n).all tr) (fun h' tk I'=>?_))) fun u' s' ⟨v',H',I',r',b,eb,q'⟩=>⟨v',H',I',r',by rw[eb];exact q'⟩
    rw[uy];exact h _ θ H (.refl hw) rfl
   ·exact h.elim
  ·exact h.elim
 ·exact h.elim
def F4:D→Option String
 | .non=>some "NoneType"
 | .bl _=>some "bool"
 | .int _=>some "int"
 | .str _=>some "str"
 | .tup _=>some "tuple"
 | .lst _=>some "list"
 | .ro _=>some "list"
 | _=>none
def wb (d:D)(M:ax):Option String:=match d with
 | .mr k=>match M[k]? with
  | some (.lst _)=>some "list"
  | _=>none
 | d=>F4 d
def oB (t T:String):Bool:=t==T||(t=="bool"&&T=="int")
def iF (T:String)(g:GE):GE:=fun ρ M=>(g ρ M).bind fun d M1=>match wb d M1 with
 | some t=>.ok (.bl (oB t T)) M1
 | none=>.bad
def i9 (T:String):Prop:=T="int"∨T="bool"∨T="str"∨T="tuple"∨T="list"
theorem cU (K:W.Frag){T:String}(hT:i9 T):∀t∈["NoneType","bool","int","str","tuple","list"],W.kitOne K (.type t) (.type T)=some (oB t T):=by
 intro t ht;simp only[mem_cons,mem_nil_iff,or_false] at ht;rcases hT with rfl|rfl|rfl|rfl|rfl <;> rcases ht with rfl|rfl|rfl|rfl|rfl|rfl <;> rfl
theorem B7 {T:String}(hT:i9 T):cA X (.builtin "isinstance") (fun xs H Q=>∃θ M d v,Wr X.K θ H M∧cQ X.K θ H d v∧xs=[v,.ty T]∧aG X θ H Q (match wb d M with|some t=>.ok (.bl (oB t T)) M|none=>.bad)):=by
 intro ae s σ H xs us Q I r h;obtain⟨θ,M,d,v,hw,rv,e,h⟩:=h;subst e;obtain⟨u,c,rfl,ru,rc⟩:=zR r;cases rc;have fin:∀t tk,wb d M=some t→EP X ae σ Q (.bool (oB t T)) {s with toks:=tk}:=fun t tk e=>by
  rw[e] at h;exact⟨.bl _,H,I.tok _,rfl,h _ θ H (.refl hw) rfl⟩
 cases d with
 | non=>have e:v=.non:=rv;subst e;cases ru;exact W.kia_one W.kitx_none I.kIn True.intro (cU X.K hT "NoneType" (by simp)) (fun z=>nomatch z) fun tk=>fin _ tk rfl
 | bl b=>have e:v=.bl b:=rv;subst e;cases ru;exact W.kia_one W.kitx_bool I.kIn True.intro (cU X.K hT "bool" (by simp)) (fun z=>nomatch z) fun tk=>fin _ tk rfl
 | int i=>have e:v=.int i:=rv;subst e;obtain⟨t,rfl⟩:=ru;exact W.kia_one W.kitx_int I.kIn True.intro (cU X.K hT "int" (by simp)) (fun z=>nomatch z) fun tk=>fin _ tk rfl
 | str i=>have e:v=.str i:=rv;subst e;obtain⟨t,rfl⟩:=ru;exact W.kia_one W.kitx_str I.kIn True.intro (cU X.K hT "str" (by simp)) (fun z=>nomatch z) fun tk=>fin _ tk rfl
 | tup ds=>
  obtain⟨a,vs,e,ta,ra⟩:=rv;subst e;cases ru;obtain⟨its,_,⟨o,h1,h2,_⟩,_⟩:=I.tuple ta.sq;exact W.kia_one W.kitx_tuple I.kIn ⟨o,h1,h2⟩ (cU X.K hT "tuple" (by simp)) (fun z=>nomatch z) fun tk=>fin _ tk rfl
 | lst ds=>
  obtain⟨a,vs,e,ta,ra⟩:=rv;subst e;cases ru;obtain⟨its,_,⟨o,n,h1,h2,_⟩,_⟩:=I.list (ta.sq (K:=X.K));exact W.kia_one W.kitx_list I.kIn ⟨o,h1,h2⟩ (cU X.K hT "list" (by simp)) (fun z=>nomatch z) fun tk=>fin _ tk rfl
 | ro ds=>
  obtain⟨a,vs,e,ta,ra⟩:=rv;subst e;cases ru;obtain⟨its,_,⟨o,n,h1,h2,_⟩,_⟩:=I.list ta.sq;exact W.kia_one W.kitx_list I.kIn ⟨o,h1,h2⟩ (cU X.K hT "list" (by simp)) (fun z=>nomatch z) fun tk=>fin _ tk rfl
 | mr k=>
  obtain⟨a,e,ta⟩:=rv;subst e;cases ru;cases qm:M[k]? with
  | none=>simp only[wb,qm] at h;exact h.elim
  | some m=>
   cases m with
   | lst ys=>
    obtain⟨vs,hv,_⟩:=hw.at_ k a _ ta qm;obtain⟨its,_,⟨o,n,h1,h2,_⟩,_⟩:=I.list (X:=X) (xs:=vs) (.inl (.inl hv));exact W.kia_one W.kitx_list I.kIn ⟨o,h1,h2⟩ (cU X.K hT "list" (by simp)) (fun z=>nomatch z) fun tk=>fin _ tk (by simp only[wb,qm])
   | _=>simp only[wb,qm] at h;exact h.elim
 | exc c=>exact h.elim
 | any=>exact h.elim
theorem AB {T:String}{x:Str}{e:Expr}{p p2 pos:Pos}{g:GE}(hT:i9 T)(hv:bootBuiltins x=some (.type T))(hg:Gl X x)(hm:X.mg x=none)(hgi:Gl X "isinstance")(hmi:X.mg "isinstance"=none)(he:PE X e (tE X g))
  (hn:x≠"__name__":=by decide) (hd:(x==("__debug__":Str))=false:=by decide) (hbi:bootBuiltins "isinstance"=some (.builtin "isinstance"):=by kernel_rfl) (hs:starEach [e,.Name x p2] X.env=(false,eval e X.env)::starEach [.Name x p2] X.env:=by rfl)
  (hs2:starEach [.Name x p2] X.env=(false,eval (.Name x p2) X.env)::starEach [] X.env:=by rfl) (hpl:(backTo pos (starEach [.Name x p2] X.env)).any (·.1)=false:=by rfl) :
  PE X (.Call (.Name "isinstance" p) [e,.Name x p2] [] pos) (tE X (iF T g)):=
 (o7 (B7 hT) hgi hmi hbi (eW he (eW (yu hg hm hv (v:=.ty T) rfl hn hd) iq hs2) hs) (by decide) (by decide) hs hpl).of fun σ H Q hxx=>by
  obtain⟨ρ,θ,M,hd,hw,h⟩:=hxx;refine bj hd hw (aG X θ H Q) (fun c M' h=>h) (fun h=>h) h fun d M1 v θ1 H1 g1 r1 h1=>?_
  exact⟨θ1,M1,d,v,g1.wr,r1,rfl,aG.go g1 h1⟩
end
def eJ:D→Bool
 | .non=>true
 | .bl _=>true
 | .int _=>true
 | .str _=>true
 | _=>false
def Di:D→V
 | .non=>.non
 | .bl b=>.bl b
 | .int i=>.int i
 | .str x=>.str x
 | _=>.non
theorem rL {K:W.Frag}{θ:List Addr}{H:Hp}{d:D}{v:V}(r:cQ K θ H d v)(f:eJ d=true):v=Di d∧ii v=true:=by
 cases d with
 | non=>have e:v=.non:=r;subst e;exact⟨rfl,rfl⟩
 | bl b=>have e:v=.bl b:=r;subst e;exact⟨rfl,rfl⟩
 | int b=>have e:v=.int b:=r;subst e;exact⟨rfl,rfl⟩
 | str b=>have e:v=.str b:=r;subst e;exact⟨rfl,rfl⟩
 | _=>cases f
theorem oC {K:W.Frag}{θ:List Addr}{H:Hp}:∀{ds:List D} {vs:List V},aU K θ H ds vs→ds.all eJ=true→vs=ds.map Di∧vs.all ii=true
 | [],vs,r,f=>by have e:vs=[]:=r;subst e;exact⟨rfl,rfl⟩
 | d::ds,vs,r,f=>by
  obtain⟨v,rr,e,h1,h2⟩:=r;subst e;rw[all_cons,Bool.and_eq_true] at f;obtain⟨e1,f1⟩:=rL h1 f.1;obtain⟨e2,f2⟩:=oC h2 f.2;exact⟨by rw[map_cons,←e1,←e2],by rw[all_cons,f1,f2];rfl⟩
theorem yG {x y:D}(fx:eJ x=true)(fy:eJ y=true):xY (Di x) (Di y)=mx x y:=by
 cases x <;> first|exact ff fx|(cases y <;> first|exact ff fy|rfl)
theorem sy {x:D}:∀{ds:List D},eJ x=true→ds.all eJ=true→FV (Di x) (ds.map Di)=ds.any fun y=>mx y x
 | [],fx,fs=>rfl
 | d::ds,fx,fs=>by
  rw[all_cons,Bool.and_eq_true] at fs;have ih:=sy (x:=x) (ds:=ds) fx fs.2;unfold FV at ih ⊢;rw[map_cons,any_cons,any_cons,ih,yG fs.1 fx]
def oH (neg:Bool):F2:=fun x y M=>match bK y M with
 | some xs=>if eJ x&&xs.all eJ then .ok (.bl ((xs.any fun y=>mx y x) != neg)) M else .bad
 | none=>.bad
section
variable {X:Cx}
theorem FI:eL X (compareOp .In) (rD X (oH false)):=by
 intro ae s σ H x y v u Q I rx ry h;obtain⟨θ,M,dx,dy,hw,r1,r2,h⟩:=h;unfold oH at h;split at h
 ·rename_i xs q;split at h
  ·rename_i hc;rw[Bool.and_eq_true] at hc;obtain⟨a,vs,ea,sq,ra⟩:=kG hw r2 q;obtain⟨e1,f1⟩:=rL r1 hc.1;obtain⟨e2,f2⟩:=oC ra hc.2;refine uo ae s σ H x y v u Q I rx ry ⟨a,vs,ea,sq,f1,f2,?_⟩;have:=h _ θ H (.refl hw) rfl;rw[Bool.bne_false] at this;rw[if_neg (by decide),e1,e2,sy hc.1 hc.2];exact this
  ·exact h.elim
 ·exact h.elim
end
section
variable {X:Cx}
def lB (k:Nat)(x:D)(M:ax):aI D:=match M[k]? with
 | some (.lst xs)=>if xs.length<sizeLine then .ok .non (M.set k (.lst (xs++[x]))) else .bad
 | _=>.bad
def fK (go ge:GE):GE:=fun ρ M=>(go ρ M).bind fun o M1=>match o with
 | .mr k=>match M1[k]? with
  | some (.lst _)=>(ge ρ M1).bind (lB k)
  | _=>.bad
 | _=>.bad
theorem tq {o e:Expr}{go ge:GE}{apos cpos:Pos}(ho:PE X o (tE X go))(he:PE X e (tE X ge))
  (hbase:attributeBase o "append" X.env (eval o X.env)=eval o X.env:=by rfl)
  (hfew:((backTo cpos (starEach [e] X.env)).all (fun x=>!x.1)&&(backToKw cpos (keywordEach [] X.env)).all (fun x=>x.1.isSome)
   && decide ([e].length+([]:List Keyword).length+(if([]:List Keyword).isEmpty then 0 else 1)<30))=true:=by rfl)
  (hline:(apos.endLine==cpos.line)=true:=by rfl) (hs:starEach [e] X.env=(false,eval e X.env)::starEach [] X.env:=by rfl) (hplain:(backTo cpos (starEach [] X.env)).any (·.1)=false:=by rfl) :
  PE X (.Call (.Attribute o "append" apos) [e] [] cpos) (tE X (fK go ge)):=
 (o3 PySem.F.plainAttrs_list PySem.F.slot_list_append PySem.F.type_list_append tW ho (eW he iq hs) hbase hfew hline hs hplain).of fun σ H Q hxx=>by
  obtain⟨ρ,θ,M,hd,hw,h⟩:=hxx;refine bj hd hw (aG X θ H Q) (fun c M' h=>h) (fun h=>h) h fun d M1 v θ1 H1 g1 r1 h1=>?_
  have h2:=aG.go g1 h1;cases d with
  | mr k=>
   have h2:aG X θ1 H1 Q (match M1[k]? with|some (.lst _)=>(ge ρ M1).bind (lB k)|_=>.bad):=h2;cases qm1:M1[k]? with
   | none=>rw[qm1] at h2;exact h2.elim
   | some m1=>
    cases m1 with
    | obj _ _=>rw[qm1] at h2;exact h2.elim
    | dK _=>rw[qm1] at h2;exact h2.elim
    | dT _=>rw[qm1] at h2;exact h2.elim
    | lst ys1=>
     rw[qm1] at h2;obtain⟨a1,ea1,ta1⟩:=id r1;obtain⟨vs1,hv1,_⟩:=g1.wr.at_ k a1 _ ta1 qm1;refine⟨by rw[ea1];exact .inl ⟨rfl,vs1,.inl (.inl hv1)⟩,?_⟩;refine bj (hd.go g1) g1.wr (aG X θ1 H1 Q) (fun c M' h=>h) (fun h=>h) h2 fun dx M2 vx θ2 H2 g2 r2 h3=>?_
     have h3:aG X θ1 H1 Q (match M2[k]? with|some (.lst xs)=>if xs.length<sizeLine then .ok .non (M2.set k (.lst (xs++[dx]))) else .bad|_=>.bad):=h3;obtain⟨a,ea,ta⟩:=r1.go g2;cases qm:M2[k]? with
     | none=>rw[qm] at h3;exact h3.elim
     | some m=>
      cases m with
      | obj _ _=>rw[qm] at h3;exact h3.elim
      | dK _=>rw[qm] at h3;exact h3.elim
      | dT _=>rw[qm] at h3;exact h3.elim
      | lst ys=>
       rw[qm] at h3;obtain⟨vs,hv,ra⟩:=g2.wr.at_ k a _ ta qm;have h3:aG X θ1 H1 Q (if ys.length<sizeLine then .ok .non (M2.set k (.lst (ys++[dx]))) else .bad):=h3;split at h3
       ·rename_i hl;have gs:=nu (ds:=ys) g2.wr ta (bS ra (show aU X.K θ2 H2 [dx] [vx] from⟨vx,[],rfl,r2,rfl⟩));exact⟨a,vs,vx,ea,rfl,hv,by rw[←ar ra];exact hl,h3 _ θ2 _ (g2.trans gs) rfl⟩
       ·exact h3.elim
  | _=>exact h2.elim
end
def bh (f:D→Option D):List D→Option (List D)
 | []=>some []
 | d::ds=>match f d,bh f ds with
  | some x,some xs=>some (x::xs)
  | _,_=>none
def frz (n:Nat)(M:ax):Nat→D→Option D
 | 0,_=>none
 | f+1,d=>match d with
  | .mr k=>if k<n then some (.mr k) else match M[k]? with
   | some (.lst xs)=>(bh (frz n M f) xs).map .lst
   | _=>none
  | .tup xs=>(bh (frz n M f) xs).map .tup
  | .lst xs=>(bh (frz n M f) xs).map .lst
  | .ro xs=>(bh (frz n M f) xs).map .ro
  | d=>some d
def oZ (f:D→Option D):List (Str×D)→Option (List (Str×D))
 | []=>some []
 | (x,d)::r=>match f d,oZ f r with
  | some e,some r'=>some ((x,e)::r')
  | _,_=>none
def lL {κ:Type}(f:D→Option D):List (κ×D)→Option (List (κ×D))
 | []=>some []
 | (x,d)::r=>match f d,lL f r with
  | some e,some r'=>some ((x,e)::r')
  | _,_=>none
def eo (n:Nat)(M:ax):List MO→Option (List MO)
 | []=>some []
 | .lst xs::r=>match bh (frz n M 30) xs,eo n M r with
  | some ys,some r'=>some (.lst ys::r')
  | _,_=>none
 | .obj c fs::r=>match oZ (frz n M 30) fs,eo n M r with
  | some gs,some r'=>some (.obj c gs::r')
  | _,_=>none
 | .dK fs::r=>match lL (frz n M 30) fs,eo n M r with
  | some gs,some r'=>some (.dK gs::r')
  | _,_=>none
 | .dT fs::r=>match lL (frz n M 30) fs,eo n M r with
  | some gs,some r'=>some (.dT gs::r')
  | _,_=>none
def hZ (n:Nat)(o:aI D):aI D:=match o with
 | .ok d M=>if M.length=n then .ok d M else match frz n M 30 d,eo n M (M.take n) with
  | some d',some M'=>.ok d' M'
  | _,_=>.bad
 | .err c M=>if M.length=n then .err c M else match eo n M (M.take n) with
  | some M'=>.err c M'
  | none=>.bad
 | .bad=>.bad
section
variable {K:W.Frag}{θ more:List Addr}{H:Hp}{M:ax}{n:Nat}
theorem eC {f:D→Option D}{θ':List Addr}:∀{ds es:List D} {vs:List V},bh f ds=some es→aU K θ' H ds vs→(∀d∈ds,∀e v,f d=some e→cQ K θ' H d v→cQ K θ H e v)→aU K θ H es vs
 | [],es,vs,h,r,k=>by cases h;exact r
 | d::ds,es,vs,h,r,k=>by
  obtain⟨v,rr,e,h1,h2⟩:=r;unfold bh at h;cases q1:f d with
  | none=>rw[q1] at h;cases h
  | some x=>
   cases q2:bh f ds with
   | none=>rw[q1,q2] at h;cases h
   | some xs=>
    rw[q1,q2] at h;cases h;exact⟨v,rr,e,k d mem_cons_self x v q1 h1,eC q2 h2 fun d' hd=>k d' (mem_cons_of_mem _ hd)⟩
theorem jC (hw:Wr K (θ++more) H M)(hn:θ.length=n):∀(f:Nat) (d e:D) (v:V),frz n M f d=some e→cQ K (θ++more) H d v→cQ K θ H e v
 | 0,d,e,v,h,r=>by cases h
 | f+1,d,e,v,h,r=>by
  have ih:=jC hw hn f;have sub:∀{a:Addr},a∉θ++more→a∉θ:=fun {a} z y=>z (mem_append_left _ y)
  cases d with
  | mr k=>
   obtain⟨a,ea,ta⟩:=r
   by_cases hk:k<n
   ·have h:(if k<n then some (D.mr k) else _)=some e:=h;rw[if_pos hk] at h;cases h;exact⟨a,ea,by rw[getElem?_append_left (by rw[hn];exact hk)] at ta;exact ta⟩
   ·have h:(if k<n then some (D.mr k) else match M[k]? with|some (.lst xs)=>(bh (frz n M f) xs).map .lst|_=>none)=some e:=h;rw[if_neg hk] at h;cases qm:M[k]? with
    | none=>rw[qm] at h;cases h
    | some m=>
     cases m with
     | lst xs=>
      rw[qm] at h;have h:(bh (frz n M f) xs).map D.lst=some e:=h;obtain⟨vs,hv,ra⟩:=hw.at_ k a _ ta qm;cases qo:bh (frz n M f) xs with
      | none=>rw[qo] at h;cases h
      | some ys=>
       rw[qo] at h;cases h;refine⟨a,vs,ea,⟨hv,fun z=>?_⟩,eC qo ra fun d _ e v=>ih d e v⟩;rw[getElem?_append_right (by omega)] at ta;have hm:=mem_of_getElem? ta;exact(nodup_append.mp hw.nd).2.2 a z a hm rfl
     | _=>rw[qm] at h;cases h
  | tup xs=>
   have h:(bh (frz n M f) xs).map D.tup=some e:=h;cases qo:bh (frz n M f) xs with
   | none=>rw[qo] at h;cases h
   | some ys=>
    rw[qo] at h;cases h;obtain⟨a,vs,ea,ta,ra⟩:=r;exact⟨a,vs,ea,⟨ta.1,sub ta.2⟩,eC qo ra fun d _ e v=>ih d e v⟩
  | lst xs=>
   have h:(bh (frz n M f) xs).map D.lst=some e:=h;cases qo:bh (frz n M f) xs with
   | none=>rw[qo] at h;cases h
   | some ys=>
    rw[qo] at h;cases h;obtain⟨a,vs,ea,ta,ra⟩:=r;exact⟨a,vs,ea,⟨ta.1,sub ta.2⟩,eC qo ra fun d _ e v=>ih d e v⟩
  | ro xs=>
   have h:(bh (frz n M f) xs).map D.ro=some e:=h;cases qo:bh (frz n M f) xs with
   | none=>rw[qo] at h;cases h
   | some ys=>
    rw[qo] at h;cases h;obtain⟨a,vs,ea,ta,ra⟩:=r;refine⟨a,vs,ea,?_,eC qo ra fun d _ e v=>ih d e v⟩;rcases ta with⟨t1,t2⟩|t
    ·exact .inl ⟨t1,sub t2⟩
    ·exact .inr t
  | non=>cases h;exact r
  | bl b=>cases h;exact r
  | int b=>cases h;exact r
  | str b=>cases h;exact r
  | exc c=>
   cases h;obtain⟨a,C,ea,kc,t1,t2⟩:=r;exact⟨a,C,ea,kc,t1,sub t2⟩
  | any=>cases h;exact r
theorem sw {f:D→Option D}{θ':List Addr}:∀{fs gs:List (Str×D)} {vs:List (Str×V)},oZ f fs=some gs→oW K θ' H fs vs→(∀d e v,f d=some e→cQ K θ' H d v→cQ K θ H e v)→oW K θ H gs vs
 | [],gs,vs,h,r,k=>by cases h;exact r
 | (x,d)::fs,gs,vs,h,r,k=>by
  obtain⟨v,rr,e,h1,h2⟩:=r;unfold oZ at h;cases q1:f d with
  | none=>rw[q1] at h;cases h
  | some y=>
   cases q2:oZ f fs with
   | none=>rw[q1,q2] at h;cases h
   | some ys=>
    rw[q1,q2] at h;cases h;exact⟨v,rr,e,k d y v q1 h1,sw q2 h2 k⟩
theorem mJ {κ:Type}{f:D→Option D}{θ':List Addr}:∀{fs gs:List (κ×D)} {vs:List (κ×V)},lL f fs=some gs→mO K θ' H fs vs→(∀d e v,f d=some e→cQ K θ' H d v→cQ K θ H e v)→mO K θ H gs vs
 | [],gs,vs,h,r,k=>by cases h;exact r
 | (x,d)::fs,gs,vs,h,r,k=>by
  obtain⟨v,rr,e,h1,h2⟩:=r;unfold lL at h;cases q1:f d with
  | none=>rw[q1] at h;cases h
  | some y=>
   cases q2:lL f fs with
   | none=>rw[q1,q2] at h;cases h
   | some ys=>
    rw[q1,q2] at h;cases h;exact⟨v,rr,e,k d y v q1 h1,mJ q2 h2 k⟩
theorem jf (hw:Wr K (θ++more) H M)(hn:θ.length=n):∀(l l':List MO),eo n M l=some l'→l'.length=l.length∧∀(i:Nat) m m' a,l[i]?=some m→l'[i]?=some m'→lH K (θ++more) H m a→lH K θ H m' a
 | [],l',h=>by cases h;exact⟨rfl,fun i m m' a e=>by simp at e⟩
 | .lst xs::r,l',h=>by
  unfold eo at h;cases q1:bh (frz n M 30) xs with
  | none=>rw[q1] at h;cases h
  | some ys=>
   cases q2:eo n M r with
   | none=>rw[q1,q2] at h;cases h
   | some r'=>
    rw[q1,q2] at h;cases h;obtain⟨hl,hr⟩:=jf hw hn r r' q2;refine⟨by rw[length_cons,length_cons,hl],fun i m m' a e1 e2 ok=>?_⟩;cases i with
    | zero=>
     have e1:some (MO.lst xs)=some m:=e1;have e2:some (MO.lst ys)=some m':=e2;cases e1;cases e2;obtain⟨vs,hv,ra⟩:=ok;exact⟨vs,hv,eC q1 ra fun d _ e v=>jC hw hn 30 d e v⟩
    | succ i=>exact hr i m m' a e1 e2 ok
 | .obj c fs::r,l',h=>by
  unfold eo at h;cases q1:oZ (frz n M 30) fs with
  | none=>rw[q1] at h;cases h
  | some gs=>
   cases q2:eo n M r with
   | none=>rw[q1,q2] at h;cases h
   | some r'=>
    rw[q1,q2] at h;cases h;obtain⟨hl,hr⟩:=jf hw hn r r' q2;refine⟨by rw[length_cons,length_cons,hl],fun i m m' a e1 e2 ok=>?_⟩;cases i with
    | zero=>
     have e1:some (MO.obj c fs)=some m:=e1;have e2:some (MO.obj c gs)=some m':=e2;cases e1;cases e2;obtain⟨C,dx,vs,kC,hv,ra⟩:=ok;exact⟨C,dx,vs,kC,hv,sw q1 ra fun d e v=>jC hw hn 30 d e v⟩
    | succ i=>exact hr i m m' a e1 e2 ok
 | .dK fs::r,l',h=>by
  unfold eo at h;cases q1:lL (frz n M 30) fs with
  | none=>rw[q1] at h;cases h
  | some gs=>
   cases q2:eo n M r with
   | none=>rw[q1,q2] at h;cases h
   | some r'=>
    rw[q1,q2] at h;cases h;obtain⟨hl,hr⟩:=jf hw hn r r' q2;refine⟨by rw[length_cons,length_cons,hl],fun i m m' a e1 e2 ok=>?_⟩;cases i with
    | zero=>
     have e1:some (MO.dK fs)=some m:=e1;have e2:some (MO.dK gs)=some m':=e2;cases e1;cases e2;obtain⟨vs,hv,ra⟩:=ok;exact⟨vs,hv,mJ q1 ra fun d e v=>jC hw hn 30 d e v⟩
    | succ i=>exact hr i m m' a e1 e2 ok
 | .dT fs::r,l',h=>by
  unfold eo at h;cases q1:lL (frz n M 30) fs with
  | none=>rw[q1] at h;cases h
  | some gs=>
   cases q2:eo n M r with
   | none=>rw[q1,q2] at h;cases h
   | some r'=>
    rw[q1,q2] at h;cases h;obtain⟨hl,hr⟩:=jf hw hn r r' q2;refine⟨by rw[length_cons,length_cons,hl],fun i m m' a e1 e2 ok=>?_⟩;cases i with
    | zero=>
     have e1:some (MO.dT fs)=some m:=e1;have e2:some (MO.dT gs)=some m':=e2;cases e1;cases e2;obtain⟨vs,hv,ra⟩:=ok;exact⟨vs,hv,mJ q1 ra fun d e v=>jC hw hn 30 d e v⟩
    | succ i=>exact hr i m m' a e1 e2 ok
theorem wM {θ0:List Addr}{H0:Hp}{θ':List Addr}{H':Hp}{M' M2:ax}{n:Nat}(hn:θ0.length=n)(g:Go K θ0 H0 θ' H' M')(h:eo n M' (M'.take n)=some M2):Go K θ0 H0 θ0 H' M2:=by
 obtain⟨m,em,hm⟩:=g.ext;have hw:=g.wr;rw[em] at hw;obtain⟨hl,hr⟩:=jf hw hn _ _ h;have hlen:n≤M'.length:=by rw[←g.wr.len,em,length_append];omega
 refine⟨⟨⟨[],by simp,fun _ z=>by cases z⟩,g.keep,g.tkeep⟩,by rw[hl,length_take];omega,(nodup_append.mp hw.nd).1,fun i a mo e1 e2=>?_,g.wr.tb⟩;have hi:i<n:=by rw[←hn];exact(List.getElem?_eq_some_iff.mp e1).1
 have hiM:i<M'.length:=by omega
 refine hr i M'[i] mo a (by rw[getElem?_take_of_lt hi];exact getElem?_eq_getElem hiM) e2 (hw.at_ i a _ ?_ (getElem?_eq_getElem hiM));rw[getElem?_append_left (by rw[hn];exact hi)];exact e1
end
theorem Cg {P:Program}{w:World}{K:W.Frag}{mg:Str→Option Value}{base:Heap}{k n:Nat}{f:Addr}{fd:FuncData}{ps:List Str}{F:FD}{CX:uI}(h:fB P w K mg base CX k f fd ps (qG K n F)) :
  fB P w K mg base CX k f fd ps (qG K n fun ds M=>hZ M.length (F ds M)):=h.imp fun vs H Q E hxx=>by
 obtain⟨θ,M,ds,hl,r,hw,q⟩:=hxx;refine⟨θ,M,ds,hl,r,hw,?_⟩;have q:vF K θ H Q E (hZ M.length (F ds M)):=q;cases e:F ds M with
 | bad=>rw[e] at q;exact q
 | err c M1=>
  rw[e] at q;have q:vF K θ H Q E (if M1.length=M.length then .err c M1 else match eo M.length M1 (M1.take M.length) with|some M'=>.err c M'|none=>.bad):=q;split at q
  ·exact q
  ·split at q
   ·rename_i M2 e2;exact fun C θ' H' a kC g=>q C θ H' a kC (wM hw.len g e2)
   ·exact q.elim
 | ok d M1=>
  rw[e] at q;have q:vF K θ H Q E (if M1.length=M.length then .ok d M1 else match frz M.length M1 30 d,eo M.length M1 (M1.take M.length) with|some d',some M'=>.ok d' M'|_,_=>.bad):=q;split at q
  ·exact q
  ·split at q
   ·rename_i d' M2 e1 e2;intro v θ' H' g rd;refine q v θ H' (wM hw.len g e2) ?_;obtain⟨m,em,_⟩:=g.ext;have hw':=g.wr;rw[em] at hw' rd;exact jC hw' hw.len 30 d d' v e1 rd
   ·exact q.elim
structure Fn (K:W.Frag)(mg:Str→Option Value)(x:Str)(st:Stmt)(f:Addr)(fd:FuncData)(ps:List Str):Prop where
 F:Be K x x st f fd
 m:mg x=some (.ref f)
 b:gP K fd ps []
section
variable {X:Cx}
theorem vv (i:Nat){x:Str}{pos:Pos}(hN:X.N[i]?=some x:=by rfl)(hv:Dh X.env.scope x:=by first|exact Or.inl rfl|exact Or.inr (Or.inl rfl)|exact Or.inr (Or.inr rfl))(hd:(x==("__debug__":Str))=false:=by decide)
  (hcd:(x==("__classdict__":Str))=false:=by decide):PE X (.Name x pos) (tE X (af i)):=C9 (Br hN hv hd hcd)
theorem ss (i:Nat){x:Str}{pos pos':Pos}{e:Expr}{g:GE}(hN:X.N.Nodup)(he:PE X e (tE X g))(hi:X.N[i]?=some x:=by rfl)(hx:pj X.env.scope x:=by first|exact Or.inl rfl|exact Or.inr rfl)
  (hs:swapsWith e (some (.Name x pos')) pos.line X.env=pure false:=by rfl) (hf:X.fn x=true∨X.env.scope.names.lookup x=some .local:=by first|exact .inl rfl|exact .inr rfl) :
  PS X (.Assign [.Name x pos'] e pos) (tS X (aA i g)):=AS hN hi hx he hs hf
theorem gg (i:Nat){x:Str}{pos:Pos}(hN:X.N.Nodup)(hi:X.N[i]?=some x:=by rfl)(hx:pj X.env.scope x:=by first|exact Or.inl rfl|exact Or.inr rfl)(hf:X.fn x=true∨X.env.scope.names.lookup x=some .local:=by first|exact .inl rfl|exact .inr rfl):PG X (.Name x pos) (tG X (cr i)):=nh hN hi hx hf
end
theorem By {K:W.Frag}{F:FD}{H:Hp}{a:Addr}{ns:List Int}(tb:ji K H)(hS:jn K H a (ns.map V.int))(h:∃M',F [.ro (ns.map D.int)] []=.ok (.bl true) M'){E:XK}:qG K 1 F [.ref a] H (fun v _=>v=.bl true) E:=by
 obtain⟨M',e⟩:=h;refine⟨[],[],[.ro (ns.map D.int)],rfl,⟨_,[],rfl,⟨a,ns.map V.int,rfl,?_,?_⟩,rfl⟩,⟨rfl,nodup_nil,fun i a m e=>by simp at e,tb⟩,?_⟩
 ·rcases hS with h|h
  ·exact .inl ⟨h,by simp⟩
  ·exact .inr h
 ·clear e
  induction ns with
  | nil=>exact rfl
  | cons n ns ih=>
   refine⟨.int n,ns.map V.int,rfl,rfl,?_⟩;have gen:∀l:List Int,aU K [] H (l.map D.int) (l.map V.int):=by
    intro l
    induction l with
    | nil=>exact rfl
    | cons m l ih=>exact⟨_,_,rfl,rfl,ih⟩
   exact gen ns
 ·rw[e];exact fun v θ' H' g r=>r
def br (t:GT)(b:GS):Nat→a8→ax→aI Fl
 | 0,_,_=>.bad
 | n+1,ρ,M=>(t ρ M).bind fun c M1=>if c then(b ρ M1).bind fun f M2=>match f with
   | .nx ρ2=>br t b n ρ2 M2
   | .ct ρ2=>br t b n ρ2 M2
   | .bk ρ2=>.ok (.nx ρ2) M2
   | .rt d=>.ok (.rt d) M2
  else .ok (.nx ρ) M1
def dh (n:Nat)(t:GT)(b:GS):GS:=br t b n
theorem vR {X:Cx}{c:Expr}{body:List Stmt}{tc:GT}{gb:GS}{pos:Pos}{n:Nat}(hp:PassesOwn (model X.prog X.w) X.A X.env X.xe)(hc:PT X c (tT X tc))(hb:PSs X body (tS X gb)):PS X (.While c body [] pos) (tS X (dh n tc gb)):=
 (wz hp hc hb).of fun D σ H hxx=>by
  obtain⟨ρ,θ,M,hd,hw,h⟩:=hxx;refine⟨fun m σ' H'=>∃ρ' θ' M',gJ X.K θ' H' σ' ρ'∧Wr X.K θ' H' M'∧bC X θ' H' D (br tc gb m ρ' M'),⟨n,ρ,θ,M,hd,hw,h⟩,?_⟩;rintro m σ' H' ⟨ρ',θ',M',hd',hw',h'⟩;cases m with
  | zero=>exact h'.elim
  | succ m=>
   have h':bC X θ' H' D ((tc ρ' M').bind _):=h';refine oY hd' hw' (bC X θ' H' D) (fun c M' h=>h) (fun h=>h) h' fun c M1 θ1 H1 g1 h1=>?_
   cases c with
   | false=>
    rw[if_neg Bool.false_ne_true];exact h1 σ' θ1 H1 g1 (hd'.go g1)
   | true=>
    rw[if_pos rfl];refine⟨fun σ2 H2=>∃ρ2 θ2 M2,gJ X.K θ2 H2 σ2 ρ2∧Wr X.K θ2 H2 M2∧bC X θ2 H2 D (br tc gb m ρ2 M2),fun σ2 H2 q=>⟨m,Nat.lt_succ_self _,q⟩,ρ',θ1,M1,hd'.go g1,g1.wr,?_⟩;have h2:=bC.go g1 h1;have h2:bC X θ1 H1 D ((gb ρ' M1).bind _):=h2;cases q:gb ρ' M1 with
    | bad=>rw[q] at h2;exact h2
    | err c M2=>rw[q] at h2;exact h2
    | ok f M2=>
     rw[q] at h2;cases f with
     | nx ρ2=>exact fun σ2 θ2 H2 g2 d2=>⟨ρ2,θ2,M2,d2,g2.wr,bC.go g2 h2⟩
     | ct ρ2=>exact fun σ2 θ2 H2 g2 d2=>⟨ρ2,θ2,M2,d2,g2.wr,bC.go g2 h2⟩
     | bk ρ2=>exact h2
     | rt d=>exact h2
def aQ:Expr→Bool
 | .Starred _ _=>false
 | _=>true
def da (es:List Expr):Bool:=es.all aQ
theorem sE {e:Expr}{es:List Expr}{env:Env}(h:aQ e=true):starEach (e::es) env=(false,eval e env)::starEach es env:=by
 cases e <;> first|rfl|(simp[aQ] at h)
theorem sS {pos:Pos}{env:Env}:∀{es:List Expr},da es=true→(backTo pos (starEach es env)).any (·.1)=false
 | [],_=>rfl
 | e::es,h=>by
  unfold da at h;rw[all_cons,Bool.and_eq_true] at h;have ih:=sS (pos:=pos) (env:=env) (es:=es) h.2;rw[sE h.1];unfold backTo at ih ⊢;rw[map_cons,any_cons,ih];rfl
section
variable {X:Cx}{e:Expr}{es:List Expr}{x:Str}{p pos:Pos}{k n:Nat}{f:Addr}{fd:FuncData}{ps:List Str}{F:FD}{ga:GA}{g:GE}{tg:Expr}
theorem F7 {gr:GA}(ha:PE X e (tE X g))(hr:PA X es (tA X gr))(h:aQ e=true:=by rfl):PA X (e::es) (tA X (aa g gr)):=yC ha hr (sE h)
theorem EQ (Fn:fB X.prog X.w X.K X.mg X.base (jP X.prog X.w) k f fd ps (qG X.K n F))(hr:bW k X.A)(hg:Gl X x)(hm:X.mg x=some (.ref f))(hk:W.keepIn X.K (.ref f)=true)(hb:gP X.K fd ps [])
  (ha:PA X (e::es) (tA X ga)) (hdb:(x==("__debug__":Str))=false:=by decide) (h1:aQ e=true:=by rfl) (h2:da es=true:=by rfl) :
  PE X (.Call (.Name x p) (e::es) [] pos) (tE X (ay n F ga)):=zi Fn hr hg hm hk hb ha hdb (sE h1) (sS h2)
theorem DZ {id:String}(hc:cA X (.builtin id) (rC X F))(hg:Gl X x)(hm:X.mg x=none)(hv:bootBuiltins x=some (.builtin id))(ha:PA X (e::es) (tA X ga))(hn:x≠"__name__":=by decide)(hdb:(x==("__debug__":Str))=false:=by decide)
  (h1:aQ e=true:=by rfl) (h2:da es=true:=by rfl):PE X (.Call (.Name x p) (e::es) [] pos) (tE X (aL F ga)):=wm hc hg hm hv ha hn hdb (sE h1) (sS h2)
theorem FC {T:String}(hc:cA X (.type T) (rC X F))(hg:Gl X x)(hm:X.mg x=none)(hv:bootBuiltins x=some (.type T))(ha:PA X (e::es) (tA X ga))(hn:x≠"__name__":=by decide)(hdb:(x==("__debug__":Str))=false:=by decide)
  (h1:aQ e=true:=by rfl) (h2:da es=true:=by rfl):PE X (.Call (.Name x p) (e::es) [] pos) (tE X (aL F ga)):=sV hc hg hm hv ha hn hdb (sE h1) (sS h2)
theorem DE {T:String}{p2:Pos}(hT:i9 T)(hv:bootBuiltins x=some (.type T))(hg:Gl X x)(hm:X.mg x=none)(hgi:Gl X "isinstance")(hmi:X.mg "isinstance"=none)(he:PE X e (tE X g))
  (h1:aQ e=true:=by rfl) (hn:x≠"__name__":=by decide) (hd:(x==("__debug__":Str))=false:=by decide):PE X (.Call (.Name "isinstance" p) [e,.Name x p2] [] pos) (tE X (iF T g)):=
 AB hT hv hg hm hgi hmi he hn hd boot_isinstance (sE h1) (sE rfl) (sS rfl)
theorem DS {a:Expr}(hg:Gl X "range")(hm:X.mg "range"=none)(ha:PA X [a] (tA X ga))(h1:aQ a=true:=by rfl):PI X tg (.Call (.Name "range" p) [a] [] pos) (tI X (dB ga)):=sP hg hm ha (sE h1)
theorem EI {a b:Expr}(hg:Gl X "range")(hm:X.mg "range"=none)(ha:PA X [a,b] (tA X ga))(h1:aQ a=true:=by rfl)(h2:aQ b=true:=by rfl):PI X tg (.Call (.Name "range" p) [a,b] [] pos) (tI X (dD ga)):=tN hg hm ha (by rw[sE h1,sE h2];rfl) (sE h2)
end
end DL
namespace DL
open PySem L2
theorem zo {j:Int}(h:-(2 ^ 62)≤j∧j<2 ^ 62)(M:ax):vh [.int j] M=.ok ⟨aT 0 j.toNat,none⟩ M:=by
 unfold vh;exact if_pos h
theorem wL {n:Nat}(h:n≤1000000)(M:ax):vh [.int (n:Int)] M=.ok ⟨aT 0 n,none⟩ M:=by
 have:=zo (j:=(n:Int)) (by omega) M;rw[this];rfl
theorem yv {i j:Int}(h:-(2 ^ 62)≤i∧i<2 ^ 62∧-(2 ^ 62)≤j∧j<2 ^ 62)(M:ax):zF [.int i,.int j] M=.ok ⟨aT i (j-i).toNat,none⟩ M:=by
 unfold zF;exact if_pos h
theorem fe {ds:List D}{M:ax}:jY.ok ⟨ds,none⟩ M=true:=rfl
theorem nQ {ds0:List D}{ge:GE}{ρ:a8}{P:ax→Prop}{Q:D→Prop}:∀(ds:List D),(∀d∈ds,∀M,P M→∃e M',P M'∧Q e∧ge (some d::ρ) M=.ok e M')→∀M,P M→
  ∃es M',P M'∧es.length=ds.length∧(∀e∈es,Q e)∧cj ⟨ds0,none⟩ bt ge ds ρ M=.ok es M'
 | [],h,M,hM=>⟨[],M,hM,rfl,(fun e he=>by cases he),rfl⟩
 | d::ds,h,M,hM=>by
  obtain⟨e,M1,h1,q1,e1⟩:=h d List.mem_cons_self M hM;obtain⟨es,M2,h2,l2,q2,e2⟩:=nQ (ds0:=ds0) ds (fun d' hd=>h d' (List.mem_cons_of_mem _ hd)) M1 h1;refine⟨e::es,M2,h2,by simp[l2],fun x hx=>?_,?_⟩
  ·rcases List.mem_cons.mp hx with z|z
   ·subst z;exact q1
   ·exact q2 x z
  ·simp[cj,fe,bt,e1,e2]
theorem gD {ds0:List D}{ge:GE}{ρ:a8}{f:D→D}{M:ax}:∀(ds:List D),(∀d∈ds,ge (some d::ρ) M=.ok (f d) M)→cj ⟨ds0,none⟩ bt ge ds ρ M=.ok (ds.map f) M
 | [],h=>rfl
 | d::ds,h=>by
  have e1:=h d List.mem_cons_self;have e2:=gD (ds0:=ds0) ds fun d' hd=>h d' (List.mem_cons_of_mem _ hd)
  simp[cj,fe,bt,e1,e2]
theorem mK {ds:List D}{Q:Int→Prop}(h:∀d∈ds,∃k,d=.int k∧Q k):∃ks:List Int,ds=ks.map D.int∧∀k∈ks,Q k:=by
 induction ds with
 | nil=>exact⟨[],rfl,fun k hk=>by cases hk⟩
 | cons d ds ih=>
  obtain⟨k,e,q⟩:=h d List.mem_cons_self;obtain⟨ks,e2,q2⟩:=ih fun d' hd=>h d' (List.mem_cons_of_mem _ hd)
  refine⟨k::ks,by rw[e,e2];rfl,fun x hx=>?_⟩;rcases List.mem_cons.mp hx with z|z
  ·subst z;exact q
  ·exact q2 x z
theorem ba {n:Nat}(h:n≤1000000):n≤sizeLine:=Nat.le_trans h (by rw[sizeLine_eq];decide)
end DL
namespace DL
@[simp] theorem Hq (i j:Int):mx (.int i) (.int j)=(i==j):=rfl
@[simp] theorem GC (i j:Bool):mx (.bl i) (.bl j)=(i==j):=rfl
@[simp] theorem Hs (i j:PySem.Str):mx (.str i) (.str j)=(i==j):=rfl
@[simp] theorem Gn:mx .non .non=true:=rfl
@[simp] theorem G5 (i:Int):mx (.int i) .non=false:=rfl
@[simp] theorem Ge (i:Int):mx .non (.int i)=false:=rfl
@[simp] theorem Gi (xs ys:List D):mx (.tup xs) (.tup ys)=fg xs ys:=rfl
@[simp] theorem Hl (xs ys:List D):mx (.lst xs) (.lst ys)=fg xs ys:=rfl
@[simp] theorem EB:fg [] []=true:=rfl
@[simp] theorem F3 (y:D) (ys:List D):fg [] (y::ys)=false:=rfl
@[simp] theorem FT (y:D) (ys:List D):fg (y::ys) []=false:=rfl
@[simp] theorem FS (x y:D) (xs ys:List D):fg (x::xs) (y::ys)=(mx x y&&fg xs ys):=rfl
@[simp] theorem Dp (n:Nat) (i:Int):bO n (.int i)=true:=by cases n <;> rfl
@[simp] theorem ET (n:Nat) (i:Bool):bO n (.bl i)=true:=by cases n <;> rfl
@[simp] theorem Du (n:Nat):bO n .non=true:=by cases n <;> rfl
@[simp] theorem Dq (n:Nat) (x:PySem.Str):bO n (.str x)=PySem.PyData.strOk x:=by cases n <;> rfl
@[simp] theorem uu (n:Nat) (xs:List D):bO (n+1) (.tup xs)=aY n xs:=rfl
@[simp] theorem t8 (n:Nat) (xs:List D):bO (n+1) (.lst xs)=aY n xs:=rfl
@[simp] theorem z5 (xs:List D):bO 40 (.tup xs)=aY 39 xs:=uu 39 xs
@[simp] theorem z6 (xs:List D):bO 40 (.lst xs)=aY 39 xs:=t8 39 xs
@[simp] theorem BH (n:Nat):aY n []=true:=by cases n <;> rfl
@[simp] theorem zS (n:Nat) (x:D) (xs:List D):aY n (x::xs)=(bO n x&&aY n xs):=by cases n <;> rfl
@[simp] theorem F5 (i:Int) (M:ax):fH (.int i) M=.int i:=rfl
@[simp] theorem GB (i:Bool) (M:ax):fH (.bl i) M=.bl i:=rfl
@[simp] theorem FW (M:ax):fH .non M=.non:=rfl
@[simp] theorem FP (x:PySem.Str) (M:ax):fH (.str x) M=.str x:=rfl
@[simp] theorem FZ (xs:List D) (M:ax):fH (.tup xs) M=.tup xs:=rfl
@[simp] theorem zA (xs:List D) (M:ax):fH (.lst xs) M=.lst xs:=rfl
end DL
namespace DL
open PySem PySem.Spec PyProof.Rows L2 PySem.W PySem.Builtin PySem.Builtin.ObjectAttr PySem.Builtin.Getset_descriptor List
structure GQ (K:Frag)(C:Addr):Prop where
 cl:(clsIn K C).isSome=true
 ca:findIn K (.ref C) "__class__"=some (some (.builtin "object.__class__"))
 sp:specialIn K (.builtin "object.__class__") "__get__"=some (some (.builtin "getset_descriptor.__get__"))
 tk:takesIn K (.builtin "object.__class__")=some true
 ob:mroIn K C (.type "object")=some true
 ga:findIn K (.ref C) "__getattribute__"=some (some (.builtin "BaseException.__getattribute__"))
 gh:findIn K (.ref C) "__getattr__"=some none
 be:mroIn K C (.type "BaseException")=some true
end DL
namespace DL
open PySem PySem.Spec PyProof.Rows L2 List
abbrev Eb:List Value:=[.type "ValueError",.type "Exception",.type "BaseException",.type "object"]
structure Ec (K:W.Frag)(mg:Str→Option Value)(c:Str)(C:Addr):Prop where
 at_:ky K c C
 m:mg c=some (.ref C)
 k:GQ K C
 ex:W.excIn K C Eb "ValueError.__new__"=true
 ty:W.typeIn K (.ref C)=some (.type "type")
 sf:W.mroIn K C (.ref C)=some true
theorem Af {K:W.Frag}{h:Heap}{C:Addr}{bmB:List Value}{newId:String}(X:K.In h)(q:W.excIn K C bmB newId=true) :
  ∃bm N nm qn bs hdct sn sub ab col dd k0 k1 k2 k3 k5 mN,h.get? C=some (excClassObj nm qn C N bs bm hdct sn sub ab col dd k0 k1 k2 k3 k5 newId)∧h.Ns N mN∧mN "__init__"=none∧OwnTail h bmB bm:=by
 unfold W.excIn at q;split at q
 ·rename_i d1 cd s1 at1;split at q
  ·rename_i C2 au j0 j1 j2 j3 nn j5 e1 e2;simp only[Bool.and_eq_true,beq_iff_eq,Bool.not_eq_true'] at q;obtain⟨⟨⟨⟨⟨r1,r2⟩,r3⟩,r4⟩,r5⟩,r6⟩:=q;subst r1;subst r2;cases cd with
   | mk c1 c2 c3 c4 c5 c6 c7 c8 c9 c10 c11=>
    dsimp only at e1 r3 r5 r6;subst e1;subst r3;have e3:s1=#[j0,j1,j2,j3,some (.builtin nn),j5]:=by
     cases s1 with
     | mk l=>
      have e4:l=_:=e2;rw[e4]
    subst e3;refine⟨au,c4,c1,c5,c2,c6,c7,c8,c9,c10,d1,j0,j1,j2,j3,j5,h.nsMap c4,X _ _ at1,?_,W.nsMap_none_of_in X r5 r6,W.tail_of_in X r4⟩;exact Heap.Ns.of_isNs (W.isNs_of_in X r5)
  ·cases q
 ·cases q
def cx (c:Str)(g:GE):GS:=fun ρ M=>(g ρ M).bind fun _ M1=>.err c M1
theorem vZ {X:Cx}{c:Str}{C:Addr}{e:Expr}{g:GE}{np cpos pos:Pos}(k:Ec X.K X.mg c C)(hc:X.calm=true)(hg:Gl X c)(he:PE X e (tE X g))(h1:aQ e=true:=by rfl)(hd:(c==("__debug__":Str))=false:=by decide) :
  PS X (.Raise (some (.Call (.Name c np) [e] [] cpos)) none pos) (tS X (cx c g)):=by
 intro ae s σ H D I h;obtain⟨ρ,θ,M,hdn,hw,h⟩:=h;obtain⟨bm,N,nm,qn,bs,hdct,sn,sub,ab,col,dd,k0,k1,k2,k3,k5,mN,hC,hN,hni,T⟩:=Af I.ok.mod.kin k.ex;have hs:starEach [e] X.env=(false,eval e X.env)::starEach [] X.env:=sE h1;have hplain:(backTo cpos (starEach [e] X.env)).any (·.1)=false:=sS (by unfold da;simp[h1]);refine wpAny_Raise_call_subT (C:=C) (nm:=nm) (q:=qn) (N:=N) (bs:=bs) (bm:=bm) (hdct:=hdct) (sn:=sn) (sub:=sub) (ab:=ab) (col:=col) (dd:=dd) (k0:=k0) (k1:=k1) (k2:=k2) (k3:=k3) (k5:=k5)
  PySem.F.excBase_ValueError (mN:=mN) (T.hasType PySem.F.excBase_ValueError.hasBase) (I.ok.hd hc) hplain hni (nA I hg k.m ⟨rfl,?_⟩ hd)
 have hv:=eW he iq hs cpos ae s σ H (fun vs H1=>vs.length=1∧∃θ1 M1,Go X.K θ H θ1 H1 M1∧cn X θ1 H1 c M1) I (by
  refine bj hdn hw (bC X θ H D) (fun c M' h=>h) (fun h=>h) h fun d M1 v θ1 H1 g1 r1 h2=>?_
  exact⟨rfl,θ1,M1,g1,cn.go g1 h2⟩)
 rw[hs] at hv ⊢;refine Calls.evalArgs_plain (wpAny_mono hv (fun us s2 hq=>⟨rfl,?_⟩) fun _ _ y=>y);obtain⟨vs,H1,I1,rv,hl,θ1,M1,g1,ok⟩:=hq;refine⟨by show us.length≤sizeLine;rw[←rv.length,hl];exact Nat.le_trans (by decide:1≤1000000) (by rw[sizeLine_eq];decide),I1.bk _ _ hC,hN.keeps I1.bk,T.keeps I1.bk,fun h' e' hm=>?_⟩;exact ok C θ1 H1 e' _ k.at_ (.refl g1.wr) ⟨ae,σ,.inl ⟨s2.heap,us,I1,hm⟩⟩
def wj (i:Nat):Fl→Fl
 | .nx ρ=>.nx (ρ.set i none)
 | .bk ρ=>.bk (ρ.set i none)
 | .ct ρ=>.ct (ρ.set i none)
 | .rt d=>.rt d
section
variable {X:Cx}
def jN (d:D)(M:ax):Option (List D):=match d with
 | .lst xs=>some xs
 | .ro xs=>some xs
 | .mr k=>match M[k]? with
  | some (.lst xs)=>some xs
  | _=>none
 | _=>none
theorem BY {K:W.Frag}{θ:List Addr}{H:Hp}{M:ax}{d:D}{xs:List D}{v:V}(hw:Wr K θ H M)(r:cQ K θ H d v)(e:jN d M=some xs):∃a vs,v=.ref a∧jn K H a vs∧aU K θ H xs vs:=by
 cases d with
 | lst ys=>cases e;obtain⟨a,vs,ea,ta,ra⟩:=r;exact⟨a,vs,ea,ta.sq,ra⟩
 | ro ys=>cases e;obtain⟨a,vs,ea,ta,ra⟩:=r;exact⟨a,vs,ea,ta.sq,ra⟩
 | mr k=>
  obtain⟨a,ea,ta⟩:=r;have e:(match M[k]? with|some (.lst xs)=>some xs|_=>none)=some xs:=e;cases q:M[k]? with
  | none=>rw[q] at e;cases e
  | some m=>
   cases m with
   | lst ys=>
    rw[q] at e;cases e;obtain⟨vs,hv,ra⟩:=hw.at_ k a _ ta q;exact⟨a,vs,ea,.inl (.inl hv),ra⟩
   | _=>rw[q] at e;cases e
 | _=>cases e
section
variable {o e:Expr}{go ge:GE}{apos cpos:Pos}
theorem lc {env:Env}(h:aQ e=true):((backTo cpos (starEach [e] env)).all (fun x=>!x.1)&&(backToKw cpos (keywordEach [] env)).all (fun x=>x.1.isSome)
   && decide ([e].length+([]:List Keyword).length+(if([]:List Keyword).isEmpty then 0 else 1)<30))=true:=by
 rw[sE h];rfl
end
end
end DL
namespace DL
open PySem L2
theorem Fv {P:Program}{w:World}{H:Hp}{s:Shared}{e:Value}{s':Shared}(z:jP P w [] H s (fun _ _ _=>False) e s'):False:=by
 obtain⟨_,_,_,_,_,_,_,_,_,_,_,_,_,_,h⟩:=z;exact h
end DL
namespace DL
open PySem PySem.Spec PyProof.Rows L2 List
structure Kc (K:W.Frag)(mg:Str→Option Value)(c:Str)(C:Addr):Prop where
 at_:ky K c C
 m:mg c=some (.ref C)
 cl:HQ K C
section
variable {X:Cx}{c f:Str}{C:Addr}{o e value:Expr}{g go gv:GE}{pos pos' apos p:Pos}
def wc (add:Bool)(x y:D)(M:ax):aI D:=match x,y with
 | .int i,.int j=>.ok (.int (if add then i+j else i-j)) M
 | _,_=>.bad
def o4 (i:Nat)(add:Bool)(g:GE):GS:=fun ρ M=>(af i ρ M).bind fun x M0=>(g ρ M0).bind fun y M1=>(wc add x y M1).bind fun z M2=>.ok (.nx (ρ.set i (some z))) M2
theorem Cu {i:Nat}{x:Str}{add:Bool}{op:Operator}(hop:op=if add then .Add else .Sub)(hN:X.N.Nodup)(hi:X.N[i]?=some x)(hx:pj X.env.scope x)(he:PE X e (tE X g))(hf:X.fn x=true∨X.env.scope.names.lookup x=some .local:=by first|exact .inl rfl|exact .inr rfl|assumption) :
  PS X (.AugAssign (.Name x pos') op e pos) (tS X (o4 i add g)):=by
 have ip:FX X op (Gf fun i j=>if add then i+j else i-j):=by
  subst hop;cases add with
  | true=>exact CS
  | false=>exact AL
 refine(xc hN hi hx he ip hf).of fun D σ H hxx=>?_
 obtain⟨ρ,θ,M,hd,hw,h⟩:=hxx;unfold o4 af at h;split at h
 ·rename_i d q;obtain⟨v,e1,r⟩:=hd.at_ i d q;refine⟨v,e1,?_⟩;have h:bC X θ H D ((g ρ M).bind fun y M1=>(wc add d y M1).bind fun z M2=>.ok (.nx (ρ.set i (some z))) M2):=h;refine bj hd hw (bC X θ H D) (fun c M' h=>h) (fun h=>h) h fun y M1 vy θ1 H1 g1 r1 h1=>?_
  cases d with
  | int a=>
   cases y with
   | int b=>exact⟨a,b,r,r1,h1 _ θ1 H1 g1 ((hd.go g1).set (d:=.int (if add then a+b else a-b)) rfl i)⟩
   | _=>exact h1.elim
  | _=>exact h1.elim
 ·exact h.elim
end
section
variable {X:Cx}
def fX (x:D)(lo hi:Option Int)(M:ax):aI D:=match gq x M with
 | some xs=>.ok (.mr M.length) (M++[.lst (gT xs lo hi)])
 | none=>.bad
def mP (g:GE)(gl gh:GO):GE:=fun ρ M=>(g ρ M).bind fun x M1=>(gl ρ M1).bind fun lo M2=>(gh ρ M2).bind fun hi M3=>fX x lo hi M3
def Hg (X:Cx):V→Option Int→Option Int→Hp→VK→Prop:=fun x lo hi H Q=>∃θ M d,Wr X.K θ H M∧cQ X.K θ H d x∧aG X θ H Q (fX d lo hi M)
theorem FJ:Dm X (Hg X):=by
 intro ae s σ H x v vl vu lo hi sl Q I rx hs pl pu h;obtain⟨θ,M,d,hw,r,h⟩:=h;unfold fX at h;split at h
 ·rename_i xs q;obtain⟨a,vs,ea,ta,ra⟩:=kz hw r q;exact j4 ae s σ H x v vl vu lo hi sl Q I rx hs pl pu ⟨a,vs,ea,.inl (.inl ta),fun p hp=>h _ _ _ (qF hw hp (gF ra lo hi)) (ol hw)⟩
 ·exact h.elim
theorem uw {e:Expr}{lo hi:Option Expr}{g:GE}{gl gh:GO}{p2 pos:Pos}(he:PE X e (tE X g))(hl:PO X lo (tO X gl))(hh:PO X hi (tO X gh)):PE X (.Subscript e (.Slice lo hi none p2) pos) (tE X (mP g gl gh)):=
 (oy FJ he hl hh).of fun σ H Q hxx=>by
  obtain⟨ρ,θ,M,hd,hw,h⟩:=hxx;refine bj hd hw (aG X θ H Q) (fun c M' h=>h) (fun h=>h) h fun d M1 v θ1 H1 g1 r1 h1=>?_
  refine rP (hd.go g1) g1.wr (aG X θ1 H1 Q) (fun c M' h=>h) (fun h=>h) (h1.go g1) fun l M2 θ2 H2 g2 h2=>?_
  refine rP ((hd.go g1).go g2) g2.wr (aG X θ2 H2 Q) (fun c M' h=>h) (fun h=>h) (h2.go g2) fun u M3 θ3 H3 g3 h3=>?_
  exact⟨θ3,M3,d,g3.wr,r1.go (g2.trans g3),h3.go g3⟩
end
end DL
namespace DL
open PySem PySem.Spec PyProof.Rows L2 List
open AutoSeq1 (wpAny_loadPart')
def DB (ds:List D):List D:=(List.range ds.length).zipWith (fun(k:Nat) d=>D.tup [.int (k:Int),d]) ds
end DL
namespace DL
open PySem PySem.Spec PyProof.Rows L2 List
def H0 (K:W.Frag)(a:Addr)(so:Obj)(xs:List V)(ts:List Addr)(bm:Addr)(ob:Obj):Hp:=fun b=>
 if b=a then(if K.lookup a=none then some (.frz so (.lst xs)) else none) else if b∈ts then some (.tbl #[]) else if b=bm then some (Hw ob) else none
structure GW (K:W.Frag)(x:Str)(c P:Addr):Prop where
 mem:x∈eF
 tab:W.tabIn K x=some (c,P)
 uniq:∀y,y∈eF→y≠x→∀c2,W.tabIn K y≠some (c2,P)
 hd:∃o vs file tf flags tg inF text tt,K.lookup c=some o∧o.cls=.type "code"∧o.data=.fields vs∧vs[11]?=some (.ref P)∧vs.getD 11 .none=.ref P∧vs.getD 18 .none=.str file tf∧
  vs.getD 7 .none=.int flags tg∧vs.getD 9 .none=.bool inF∧vs.getD 10 .none=.int text tt∧c≠P
end DL
namespace DL
open PySem PySem.Spec PyProof.Rows L2 List
section
open PySem.SeqAt
open PySem.AutoSeq1 (wpAny_loadPart')
open PySem.MeetsSeq PySem.MeetsSeq2 PySem.MeetsSeq3
end
end DL
namespace DL
open PySem PySem.Spec PyProof.Rows L2 List
section
variable {X:Cx}{o e:Expr}{go ge:GE}{apos cpos:Pos}
def bx:F2:=fun x y M=>match x,y with
 | .str z,.int i=>if z.length≤sizeLine then(match li z.cps.toList i with
  | some c=>.ok (.str ⟨#[c]⟩) M
  | none=>.bad) else .bad
 | x,y=>qB x y M
theorem Bx:Dd X (rD X bx):=by
 intro value slice ae s σ H x y v u Q I rx ry h hs;obtain⟨θ,M,dx,dy,hw,r1,r2,h⟩:=h;have au:aG X θ H Q (qB dx dy M)→_:=fun h=>D7 value slice ae s σ H x y v u Q I rx ry ⟨θ,M,dx,dy,hw,r1,r2,h⟩ hs
 cases dx with
 | str z=>
  cases dy with
  | int i=>
   have h:aG X θ H Q (if z.length≤sizeLine then(match li z.cps.toList i with|some c=>.ok (.str ⟨#[c]⟩) M|none=>.bad) else .bad):=h;split at h
   ·rename_i hz;cases q:li z.cps.toList i with
    | none=>rw[q] at h;exact h.elim
    | some c=>
     rw[q] at h;exact BM value slice ae s σ H x y v u Q I rx ry ⟨z,i,c,r1,r2,hz,q,h _ θ H (.refl hw) rfl⟩ hs
   ·exact h.elim
  | _=>exact au h
 | _=>exact au h
theorem As {a b:Expr}{pos:Pos}{ga gb:GE}(ha:PE X a (tE X ga))(hb:PE X b (tE X gb))(hs:m8 b:=by intro _ _;rfl):PE X (.Subscript a b pos) (tE X (g2 bx ga gb)):=
 (Et Bx ha hb hs).of fun _ _ _ h=>rY h
def Hi (j i:Str):Bool:=!(Builtin.Str.occurrences j i 0 j.length 1).isEmpty
def z9:F2:=fun x y M=>match x,y with
 | .str i,.str j=>.ok (.bl (Hi j i)) M
 | x,y=>oH false x y M
theorem Bm:eL X (compareOp .In) (rD X z9):=by
 intro ae s σ H x y v u Q I rx ry h;obtain⟨θ,M,dx,dy,hw,r1,r2,h⟩:=h;have au:aG X θ H Q (oH false dx dy M)→_:=fun h=>FI ae s σ H x y v u Q I rx ry ⟨θ,M,dx,dy,hw,r1,r2,h⟩
 cases dx with
 | str i=>
  cases dy with
  | str j=>exact sR ae s σ H x y v u Q I rx ry ⟨i,j,r1,r2,h _ θ H (.refl hw) rfl⟩
  | _=>exact au h
 | _=>exact au h
def bA (F:Str→D→ax→aI D)(go ge:GE):GE:=fun ρ M=>(go ρ M).bind fun o M1=>match o with
 | .str x=>(ge ρ M1).bind fun d M2=>F x d M2
 | _=>.bad
theorem kF {F:Str→D→ax→aI D}{rr:V→List V→Hp→VK→Prop}{σ:L2.St}{H:Hp}{Q:VK}
  (hF:∀θ H M x d y Q,Wr X.K θ H M→cQ X.K θ H d y→aG X θ H Q (F x d M)→rr (.str x) [y] H Q) (h:tE X (bA F go ge) σ H Q):Gr X.K "str" rr (tE X go) (zU (tE X ge) Eh) σ H Q:=by
 obtain⟨ρ,θ,M,hd,hw,h⟩:=h;refine bj hd hw (aG X θ H Q) (fun c M' h=>h) (fun h=>h) h fun d M1 v θ1 H1 g1 r1 h1=>?_
 have h2:=aG.go g1 h1;cases d with
 | str x=>
  have ev:v=.str x:=r1;subst ev;refine⟨rfl,?_⟩;refine bj (hd.go g1) g1.wr (aG X θ1 H1 Q) (fun c M' h=>h) (fun h=>h) h2 fun dx M2 vx θ2 H2 g2 r2 h3=>?_
  exact hF θ2 H2 M2 x dx vx Q g2.wr r2 (aG.go g2 h3)
 | _=>exact h2.elim
def kj (x:Str)(d:D)(M:ax):aI D:=match d with
 | .str y=>.ok (.int (Txt.find x y)) M
 | _=>.bad
def vK:V→List V→Hp→VK→Prop:=fun x vs H Q=>∃a b,x=.str a∧vs=[.str b]∧Q (.int (Txt.find a b)) H
theorem zD:F6 X "str.find" vK:=by
 intro ae s σ H x vs v us Q I rx rv h;obtain⟨a,b,rfl,rfl,q⟩:=h;obtain⟨t,rfl⟩:=rx;obtain⟨u,rfl,ru⟩:=rv.one;obtain⟨t',rfl⟩:=ru;exact SC.find ⟨.int _,H,I.tok _,⟨s.toks,rfl⟩,q⟩
theorem yz {θ:List Addr}{H:Hp}{M:ax}{x:Str}{d:D}{y:V}{Q:VK}(hw:Wr X.K θ H M)(ry:cQ X.K θ H d y)(h:aG X θ H Q (kj x d M)):vK (.str x) [y] H Q:=by
 cases d with
 | str z=>
  have ev:y=.str z:=ry;subst ev;exact⟨x,z,rfl,rfl,h _ θ H (.refl hw) rfl⟩
 | _=>exact h.elim
theorem xx (ho:PE X o (tE X go))(he:PE X e (tE X ge))(h1:aQ e=true:=by rfl)(hbase:attributeBase o "find" X.env (eval o X.env)=eval o X.env:=by rfl)(hline:(apos.endLine==cpos.line)=true:=by rfl) :
  PE X (.Call (.Attribute o "find" apos) [e] [] cpos) (tE X (bA kj go ge)):=
 (o3 PySem.F.plainAttrs_str PySem.F.slot_str_find PySem.F.type_str_find zD ho (eW he iq (sE h1)) hbase (lc h1) hline (sE h1) rfl).of fun σ H Q h=>kF (fun θ H M x d y Q=>yz) h
theorem CZ {x z:Str}{tk:Tok}{pos:Pos}(hg:Gl X x)(hm:X.mg x=some (.str z tk))(hd:(x==("__debug__":Str))=false:=by decide):PE X (.Name x pos) (tE X (gC (.str z))):=
 (rX hg hm (v:=.str z) ⟨tk,rfl⟩ hd).of fun σ H Q h=>by
  obtain⟨ρ,θ,M,_,hw,h⟩:=h;exact h _ θ H (.refl hw) rfl
end
end DL
namespace DL
open PySem PySem.Spec PyProof.Rows L2 List
def dM (x:Str):List D:=x.cps.toList.map fun c=>D.str ⟨#[c]⟩
def FU (x:Str):It:=⟨fun i _=>i<x.cps.size,fun i H v H'=>H'=H∧∃c,x.cps[i]?=some c∧v=.str ⟨#[c]⟩,fun i _=>x.cps.size≤i⟩
theorem nP {P:Program}{w:World}{K:W.Frag}{tg:Expr}{T:String}{x:Str}{t:Tok}(it:Addr)(hn:["enumerate","zip","dict_itemiterator","dict_reverseitemiterator","odict_iterator","itertools.zip_longest","itertools.pairwise"].contains T=false)
  (W:∀A:Around,A.handled=none→Walks P w A it [it] [it] x.cps.size (fun i v=>∃c u,x.cps[i]?=some c∧v=.str ⟨#[c]⟩ u) fun i h=>h.IsStrIter it T x t i)
  (hs:∀(A:Around) (i:Nat) (s:Shared) (Q:Value→Shared→Prop) (E:Value→Shared→Prop),s.heap.IsStrIter it T x t i→Q (.ref it) s→wpAny (model P w) A (pyIter (.ref it)) Q E s) :
  pU P w K tg (FU x) [it] it (fun i h=>h.IsStrIter it T x t i∧i≤x.cps.size) where
 mem:=by simp
 obj:=fun i h st b hb=>by
  have e:b=it:=by simpa using hb
  subst e;obtain⟨⟨o,e,c,d⟩,_⟩:=st;exact⟨o,e,fun v z=>by rw[d] at z;cases z⟩
 keep:=fun i h h' st k=>by
  obtain⟨⟨o,e,c,d⟩,hi⟩:=st;exact⟨⟨o,k it (by simp) o e,c,d⟩,hi⟩
 item:=by
  intro X hP hw hK hc i ae s σ H E I hf st hg;subst hP hw hK;obtain⟨f0,f1,f2,f3,f4,f5⟩:=hf it (by simp);have hg:i<x.cps.size:=hg;refine(W X.A (I.ok.hd hc)).item i s _ _ hg st.1 fun v h' tk hv st' kk=>?_
  obtain⟨c,u,ec,rfl⟩:=hv;have I1:Inv X ae σ H {s with heap:=h',toks:=tk}:=I.turned (fun b o hb e=>kk b o (by simpa using hb) e) f0 f1 f3 f4 f5;obtain⟨o,e,oc,od⟩:=id st';exact⟨_,rfl,nO (s:={s with heap:=h',toks:=tk}) e oc od hn ⟨.str ⟨#[c]⟩,H,I1,⟨u,rfl⟩,⟨rfl,c,ec,rfl⟩,⟨st',hg⟩,fun b hb=>(hf b hb).1⟩⟩
 done:=by
  intro X hP hw hK hc i ae s σ H E I hf st hg;subst hP hw hK;obtain⟨f0,f1,f2,f3,f4,f5⟩:=hf it (by simp);have hg:x.cps.size≤i:=hg;have e:i=x.cps.size:=Nat.le_antisymm st.2 hg;subst e;exact(W X.A (I.ok.hd hc)).done s _ _ st.1 fun h' tk kk=>⟨rfl,I.turned (fun b o hb e=>kk b o (by simpa using hb) e) f0 f1 f3 f4 f5⟩
 self:=fun A i s Q E st h=>hs A i s Q E st.1 h
theorem yf {K:W.Frag}{θ:List Addr}{H:Hp}(x:Str):xj K (FU x) θ H ⟨dM x,none⟩:=by
 intro θ1 H1 M1 g _ i;refine⟨fun d e=>?_,fun hl=>?_⟩
 ·have hi:i<x.cps.size:=by
   have:=(List.getElem?_eq_some_iff.mp e).1;simpa[dM] using this
  refine⟨hi,fun v H2 y=>?_⟩;obtain⟨eH,c,ec,rfl⟩:=y;subst eH;refine⟨.refl g.wr,?_⟩;have e':D.str ⟨#[c]⟩=d:=by
   have:(dM x)[i]?=some (D.str ⟨#[c]⟩):=by simp[dM,ec]
   rw[this] at e;exact Option.some.inj e
  subst e';rfl
 ·have h2:(dM x).length≤i:=hl;have h3:x.cps.size≤i:=by simpa[dM] using h2
  exact h3
def qH (d:D)(M:ax):aI jY:=match d with
 | .str x=>.ok ⟨dM x,none⟩ M
 | d=>ms d M
def bi (g:GE):GI:=fun ρ M=>(g ρ M).bind qH
section
variable {X:Cx}{tg:Expr}
theorem uX {ae:List (Addr×Obj)}{s:Shared}{σ:L2.St}{H:Hp}{R:It→Hp→Prop}{x:Str}{t:Tok}(I:L2.Inv X ae σ H s)(h:R (FU x) H):wpAny (model X.prog X.w) X.A (pyIter (.str x t)) (Gj X ae σ tg R) X.xe s:=by
 have fp:∀b∈[s.heap.objs.size],iB X ae H b:=fun b hb=>by
  have e:b=s.heap.objs.size:=by simpa using hb
  subst e;exact I.fpOk (Nat.le_refl _) (I.hok.fresh (Nat.le_refl _))
 cases ha:x.cps.all (·<128) with
 | true=>
  refine wpAny_pyIter_ascii ha ?_;refine⟨s.heap.objs.size,[s.heap.objs.size],_,_,H,rfl,I.kept (t':=s.toks) fun b o e=>Heap.get?_push_of_some _ e,nP (T:="str_ascii_iterator") (x:=x) (t:=t) _ (by decide) (fun A hA=>Walks.strAscii hA _ x t) (fun A i s Q E st hQ=>?_),⟨⟨_,Heap.get?_push_size _ rfl,rfl,rfl⟩,Nat.zero_le _⟩,fp,h⟩;exact wpAny_pyIter_striter_ascii st hQ
 | false=>
  refine wpAny_pyIter_wide ha ?_;refine⟨s.heap.objs.size,[s.heap.objs.size],_,_,H,rfl,I.kept (t':=s.toks) fun b o e=>Heap.get?_push_of_some _ e,nP (T:="str_iterator") (x:=x) (t:=t) _ (by decide) (fun A hA=>Walks.strWide hA _ x t) (fun A i s Q E st hQ=>?_),⟨⟨_,Heap.get?_push_size _ rfl,rfl,rfl⟩,Nat.zero_le _⟩,fp,h⟩;exact wpAny_pyIter_striter_wide st hQ
theorem C5 {l:Expr}{tl:TE}(hl:PE X l tl):PI X tg l (fun σ H R=>tl σ H fun x H1=>(∃z,x=.str z∧R (FU z) H1)∨∃a,x=.ref a∧(((∃xs,jn X.K H1 a xs)∧R (FQ X.K a) H1)∨((∃xs,nC X.K H1 a xs)∧R (GX X.K a) H1))):=by
 intro ae s σ H R I h;refine b5 (hl ae s σ H _ I h) fun v s1 hxx=>?_
 obtain⟨x,H1,I1,r1,q1⟩:=hxx;rcases q1 with⟨z,e,q1⟩|⟨a,e,q1⟩
 ·subst e;obtain⟨t,rfl⟩:=r1;exact uX I1 q1
 subst e;cases r1;rcases q1 with⟨⟨xs,hq⟩,q⟩|⟨⟨xs,hq⟩,q⟩
 ·obtain⟨its,rv,p,hz⟩:=I1.list hq;refine wpAny_pyIter_list p.isList ?_;refine⟨s1.heap.objs.size,[s1.heap.objs.size],_,_,H1,rfl,I1.kept (t':=s1.toks) fun b o e=>Heap.get?_push_of_some _ e,tU a _,⟨_,Heap.get?_push_size _ rfl,rfl,rfl⟩,fun b hb=>?_,q⟩;have e:b=s1.heap.objs.size:=by simpa using hb
  subst e;exact I1.fpOk (Nat.le_refl _) (I1.hok.fresh (Nat.le_refl _))
 ·obtain⟨its,rv,p,hz⟩:=I1.tuple hq;refine wpAny_pyIter_tuple (show s1.heap.IsTuple a its.toArray from p) ?_;refine⟨s1.heap.objs.size,[s1.heap.objs.size],_,_,H1,rfl,I1.kept (t':=s1.toks) fun b o e=>Heap.get?_push_of_some _ e,qz a _,⟨_,Heap.get?_push_size _ rfl,rfl,rfl⟩,fun b hb=>?_,q⟩;have e:b=s1.heap.objs.size:=by simpa using hb
  subst e;exact I1.fpOk (Nat.le_refl _) (I1.hok.fresh (Nat.le_refl _))
theorem ye {l:Expr}{g:GE}(hl:PE X l (tE X g)):PI X tg l (tI X (bi g)):=by
 intro ae s σ H R I h;refine C5 hl ae s σ H R I ?_;obtain⟨ρ,θ,M,hd,hw,h⟩:=h;refine bj hd hw (pY X θ H R) (fun c M' h=>h) (fun h=>h) h fun d M1 v θ1 H1 g1 r1 h1=>?_
 cases d with
 | str z=>exact .inl ⟨z,r1,h1 _ θ1 H1 g1 (yf z)⟩
 | lst ds=>
  obtain⟨a,vs,e,ta,r⟩:=r1;exact .inr ⟨a,e,.inl ⟨⟨vs,ta.sq⟩,h1 _ θ1 H1 g1 (qS (.inl ⟨.inl ta.1,ta.2⟩) r)⟩⟩
 | ro ds=>
  obtain⟨a,vs,e,ta,r⟩:=r1;exact .inr ⟨a,e,.inl ⟨⟨vs,ta.sq⟩,h1 _ θ1 H1 g1 (qS ta r)⟩⟩
 | tup ds=>
  obtain⟨a,vs,e,ta,r⟩:=r1;exact .inr ⟨a,e,.inr ⟨⟨vs,ta.sq⟩,h1 _ θ1 H1 g1 (xC ta r)⟩⟩
 | mr k=>
  obtain⟨a,e,ta⟩:=r1;have h2:pY X θ H R (match M1[k]? with|some (.lst ds)=>.ok ⟨ds,some k⟩ M1|_=>.bad):=h1;cases q:M1[k]? with
  | none=>rw[q] at h2;exact h2.elim
  | some m=>
   cases m with
   | lst ds=>
    rw[q] at h2;obtain⟨vs,hv,r⟩:=g1.wr.at_ k a _ ta q;exact .inr ⟨a,e,.inl ⟨⟨vs,.inl (.inl hv)⟩,h2 _ θ1 H1 g1 (yn ta)⟩⟩
   | _=>rw[q] at h2;exact h2.elim
 | _=>exact h1.elim
end
theorem ma:∀{ys:List Str} {us:List Value},aP (ys.map V.str) us→∃l:List (Str×Tok),us=strValues l∧l.map (·.1)=ys
 | [],us,h=>by cases h;exact⟨[],rfl,rfl⟩
 | y::ys,us,h=>by
  cases h with
  | cons h1 h2=>
   obtain⟨t,rfl⟩:=h1;obtain⟨l,rfl,e⟩:=ma h2;exact⟨(y,t)::l,rfl,by rw[map_cons,e]⟩
def gu:List D→Option (List Str)
 | []=>some []
 | .str x::r=>(gu r).map (x::·)
 | _=>none
theorem oR {K:W.Frag}{θ:List Addr}{H:Hp}:∀{ds:List D} {ys:List Str} {vs:List V},gu ds=some ys→aU K θ H ds vs→vs=ys.map V.str
 | [],ys,vs,h,r=>by cases h;exact r
 | d::ds,ys,vs,h,r=>by
  obtain⟨v,rr,e,h1,h2⟩:=r;cases d with
  | str x=>
   cases q:gu ds with
   | none=>simp[gu,q] at h
   | some ks=>
    simp only[gu,q,Option.map_some,Option.some.injEq] at h;subst h;have e1:v=.str x:=h1;subst e1;rw[e,oR q h2];rfl
  | _=>cases h
section
open Builtin Builtin.Str
end
section
variable {X:Cx}{o e:Expr}{go ge:GE}{apos cpos:Pos}
def dN (x:Str)(d:D)(M:ax):aI D:=match jN d M with
 | some ds=>match gu ds with
  | some ys=>if JoinOk x ys then .ok (.str (Txt.join x ys)) M else .bad
  | none=>.bad
 | none=>.bad
def zV (K:W.Frag):V→List V→Hp→VK→Prop:=fun x vs H Q=>∃a p ys,x=.str a∧vs=[.ref p]∧jn K H p (ys.map V.str)∧JoinOk a ys=true∧Q (.str (Txt.join a ys)) H
theorem xT:F6 X "str.join" (zV X.K):=by
 intro ae s σ H x vs v us Q I rx rv h;obtain⟨a,p,ys,rfl,rfl,hq,ok,q⟩:=h;obtain⟨t,rfl⟩:=rx;obtain⟨u,rfl,ru⟩:=rv.one;cases ru;obtain⟨its,r,pl,hz⟩:=I.list hq;obtain⟨l,rfl,el⟩:=ma r;exact SC.join pl.isList el ok fun t' k=>⟨.str _,H,I.tok k,⟨t',rfl⟩,q⟩
theorem xw {θ:List Addr}{H:Hp}{M:ax}{x:Str}{d:D}{y:V}{Q:VK}(hw:Wr X.K θ H M)(ry:cQ X.K θ H d y)(h:aG X θ H Q (dN x d M)):zV X.K (.str x) [y] H Q:=by
 unfold dN at h;cases ql:jN d M with
 | none=>rw[ql] at h;exact h.elim
 | some ds=>
  rw[ql] at h;dsimp only at h;obtain⟨a,vs,ea,sq,ra⟩:=BY hw ry ql;cases qs:gu ds with
  | none=>rw[qs] at h;exact h.elim
  | some ys=>
   rw[qs] at h;dsimp only at h;split at h
   ·rename_i hk;rw[oR qs ra] at sq;exact⟨x,a,ys,rfl,by rw[ea],sq,hk,h _ θ H (.refl hw) rfl⟩
   ·exact h.elim
theorem xU (ho:PE X o (tE X go))(he:PE X e (tE X ge))(h1:aQ e=true:=by rfl)(hbase:attributeBase o "join" X.env (eval o X.env)=eval o X.env:=by rfl)(hline:(apos.endLine==cpos.line)=true:=by rfl) :
  PE X (.Call (.Attribute o "join" apos) [e] [] cpos) (tE X (bA dN go ge)):=
 (o3 PySem.F.plainAttrs_str PySem.F.slot_str_join PySem.F.type_str_join xT ho (eW he iq (sE h1)) hbase (lc h1) hline (sE h1) rfl).of fun σ H Q h=>kF (fun θ H M x d y Q=>xw) h
end
end DL
namespace DL
open PySem PySem.Spec PyProof.Rows L2 List
section
variable {X:Cx}
theorem p6 {x:Str}{acc:Array Value}(h:ItemsOf (SignAt x) acc x.cps.size):aP (x.cps.toList.map fun c=>V.str ⟨#[c]⟩) acc.toList:=by
 obtain⟨h1,h2⟩:=h;have go:∀(cs:List Nat) (us:List Value),cs.length=us.length→(∀(j:Nat) (u:Value),us[j]?=some u→∃c t,cs[j]?=some c∧u=Value.str ⟨#[c]⟩ t)→aP (cs.map fun c=>V.str ⟨#[c]⟩) us:=by
  intro cs
  induction cs with
  | nil=>
   intro us hl _;cases us with
   | nil=>exact .nil
   | cons _ _=>cases hl
  | cons c cs ih=>
   intro us hl hu;cases us with
   | nil=>cases hl
   | cons u us=>
    obtain⟨c',t,ec,eu⟩:=hu 0 u rfl;cases ec;exact .cons ⟨t,eu⟩ (ih us (by simpa using hl) fun j v hj=>hu (j+1) v hj)
 refine go _ _ (by simp[h1]) fun j u hj=>?_
 obtain⟨c,t,ec,eu⟩:=h2 j u (by simpa using hj);exact⟨c,t,by simpa using ec,eu⟩
theorem kT {K:W.Frag}{θ:List Addr}{H:Hp}:∀cs:List Nat,aU K θ H (cs.map fun c=>D.str ⟨#[c]⟩) (cs.map fun c=>V.str ⟨#[c]⟩)
 | []=>rfl
 | c::cs=>⟨_,_,rfl,rfl,kT cs⟩
def gO:FD:=fun ds M=>match ds with
 | [.str x]=>if x.cps.size≤sizeLine then .ok (.lst (dM x)) M else .bad
 | ds=>lg ds M
theorem lN (hc:X.calm=true):cA X (.type "list") (fun xs H Q=>∃x,xs=[.str x]∧x.cps.size≤sizeLine∧∀l,H l=none→Q (.ref l) (cw H l (.lst (x.cps.toList.map fun c=>V.str ⟨#[c]⟩)))):=by
 intro ae s σ H xs us Q I r h;obtain⟨x,rfl,hz,q⟩:=h;obtain⟨u,rfl,rx⟩:=jI r;obtain⟨t,rfl⟩:=rx;refine call_list_str (I.ok.hd hc) x t (fun h' tk acc c' kp e it=>?_) hz;exact⟨.ref s.heap.objs.size,_,I.laid (t':=tk) kp (Nat.le_refl _) (show cg X.prog X.w _ h' _ (.lst (x.cps.toList.map fun c=>V.str ⟨#[c]⟩)) from⟨by simpa using hz,acc.toList,c',p6 it,by simpa using e⟩),rfl,q _ (I.hok.fresh (Nat.le_refl _))⟩
theorem vT (hc:X.calm=true):cA X (.type "list") (rC X gO):=by
 intro ae s σ H xs us Q I r h;obtain⟨θ,M,ds,hw,rd,h⟩:=h;have au:aG X θ H Q (lg ds M)→_:=fun h=>yS ae s σ H xs us Q I r ⟨θ,M,ds,hw,rd,h⟩
 unfold gO at h;split at h
 ·rename_i x;split at h
  ·rename_i hz;obtain⟨v,e,rv⟩:=gN rd;have ev:v=.str x:=rv;subst ev;exact lN hc ae s σ H xs us Q I r ⟨x,e,hz,fun l hl=>h _ θ _ (dJ hw hl) (eU hw hl (kT _))⟩
  ·exact h.elim
 ·exact au h
def pG (M:ax)(k:Nat):Option (List D):=match M[k]? with
 | some (.lst xs)=>some xs
 | _=>none
theorem qp {M:ax}{k:Nat}{xs:List D}(h:pG M k=some xs):M[k]?=some (.lst xs):=by
 unfold pG at h;split at h
 ·rename_i ys e;cases h;exact e
 ·cases h
def pL (F:List D→List D→Option (D×List D))(go:GE)(ga:GA):GE:=fun ρ M=>(go ρ M).bind fun o M1=>match o with
 | .mr k=>match pG M1 k with
  | some _=>(ga ρ M1).bind fun ds M2=>match pG M2 k with
   | some xs=>match F xs ds with
    | some r=>.ok r.1 (M2.set k (.lst r.2))
    | none=>.bad
   | none=>.bad
  | none=>.bad
 | _=>.bad
theorem Em {F:List D→List D→Option (D×List D)}{rr:V→List V→Hp→VK→Prop}{σ:L2.St}{H:Hp}{Q:VK}{go:GE}{ga:GA}
  (hF:∀θ H M a (k:Nat) xs vs ds us r Q,Wr X.K θ H M→θ[k]?=some a→M[k]?=some (.lst xs)→H a=some (.lst vs)→aU X.K θ H xs vs→aU X.K θ H ds us→F xs ds=some r→aG X θ H Q (.ok r.1 (M.set k (.lst r.2)))→rr (.ref a) us H Q)
  (h:tE X (pL F go ga) σ H Q):Gr X.K "list" rr (tE X go) (tA X ga) σ H Q:=by
 obtain⟨ρ,θ,M,hd,hw,h⟩:=h;refine bj hd hw (aG X θ H Q) (fun c M' h=>h) (fun h=>h) h fun d M1 v θ1 H1 g1 r1 h1=>?_
 have h2:=aG.go g1 h1;cases d with
 | mr k=>
  have h2:aG X θ1 H1 Q (match pG M1 k with
   | some _=>(ga ρ M1).bind fun ds M2=>match pG M2 k with
    | some xs=>match F xs ds with
     | some r=>.ok r.1 (M2.set k (.lst r.2))
     | none=>.bad
    | none=>.bad
   | none=>.bad):=h2
  cases q1:pG M1 k with
  | none=>rw[q1] at h2;exact h2.elim
  | some ys=>
   rw[q1] at h2;obtain⟨a,ea,ta⟩:=id r1;obtain⟨vs1,hv1,_⟩:=g1.wr.at_ k a _ ta (qp q1);refine⟨by rw[ea];exact .inl ⟨rfl,vs1,.inl (.inl hv1)⟩,?_⟩;refine gL (hd.go g1) g1.wr (aG X θ1 H1 Q) (fun c M' h=>h) (fun h=>h) h2 fun ds M2 us θ2 H2 g2 r2 h3=>?_
   have h4:=aG.go g2 h3;cases q2:pG M2 k with
   | none=>rw[q2] at h4;exact h4.elim
   | some xs=>
    rw[q2] at h4;dsimp only at h4;cases q3:F xs ds with
    | none=>rw[q3] at h4;exact h4.elim
    | some r=>
     rw[q3] at h4;obtain⟨a2,ea2,ta2⟩:=r1.go g2;rw[ea] at ea2;cases ea2;obtain⟨vs,hv,ra⟩:=g2.wr.at_ k a _ ta2 (qp q2);rw[ea];exact hF θ2 H2 M2 a k xs vs ds us r Q g2.wr ta2 (qp q2) hv ra r2 q3 h4
 | _=>exact h2.elim
variable {o e e2:Expr}{go:GE}{ga:GA}{apos cpos:Pos}
end
structure QE (X:Cx)(e:Expr)(g:GE):Prop where
 h:PE X e (tE X g)
structure QT (X:Cx)(e:Expr)(g:GT):Prop where
 h:PT X e (tT X g)
structure QW (X:Cx)(e:Expr)(g:GT):Prop where
 h:PW X e (tT X g)
structure QA (X:Cx)(es:List Expr)(g:GA):Prop where
 h:PA X es (tA X g)
structure QS (X:Cx)(st:Stmt)(g:GS):Prop where
 h:PS X st (tS X g)
structure QB (X:Cx)(st:List Stmt)(g:GS):Prop where
 h:PSs X st (tS X g)
structure QI (X:Cx)(tg e:Expr)(g:GI):Prop where
 h:PI X tg e (tI X g)
structure QG (X:Cx)(tg:Expr)(s:GG):Prop where
 h:PG X tg (tG X s)
structure Ds (X:Cx)(tgs:List Expr)(is:List Nat):Prop where
 h:xS X tgs (Fp X is)
structure QP (X:Cx)(e:Option Expr)(g:GO):Prop where
 h:PO X e (tO X g)
structure Q2 (X:Cx)(f:Value→Value→Sem Value)(F:F2):Prop where
 h:eL X f (rD X F)
structure QC (X:Cx)(f:Value)(F:FD):Prop where
 h:cA X f (rC X F)
structure xi (X:Cx)(scope:Scope)(xs:List Str)(R:List Str)(ifs:List Expr)(gc:GT):Prop where
 h:fJ X scope xs R ifs gc
structure QO (n:Nat)(sg:GG):Prop where
 h:nK n sg
section
variable {X:Cx}{e a b c o i:Expr}{es au:List Expr}{x:Str}{p p2 pos pos':Pos}{g ga gb gc go gi ge:GE}{ta tb:GT}{gA:GA}
theorem E6:Q2 X (binaryOp .Add) az:=⟨Bb⟩
theorem D8:Q2 X (binaryOp .Sub) dr:=⟨BL⟩
theorem Fo:Q2 X (binaryOp .Mult) gp:=⟨CL⟩
theorem B1:Q2 X (binaryOp .FloorDiv) kL:=⟨xt⟩
theorem Fa:Q2 X (binaryOp .Mod) kf:=⟨AO⟩
theorem DG:Q2 X (binaryOp .Pow) pv:=⟨Ap⟩
theorem GR:Q2 X (compareOp .Lt) j6:=⟨Fs⟩
theorem Ho:Q2 X (compareOp .LtE) tD:=⟨EM⟩
theorem GV:Q2 X (compareOp .Gt) Ce:=⟨Ef⟩
theorem Hc:Q2 X (compareOp .GtE) xV:=⟨Fw⟩
theorem Hm {k:Nat}(hr:bW k X.A):Q2 X (compareOp .Eq) (bc false):=⟨EV hr.units⟩
theorem Gk {k:Nat}(hr:bW k X.A):Q2 X (compareOp .NotEq) (bc true):=⟨El hr.units⟩
theorem DT:QC X (.builtin "len") bq:=⟨CQ⟩
theorem Ek (hc:X.calm=true:=by rfl):QC X (.builtin "min") lz:=⟨Aq hc⟩
theorem FG (hc:X.calm=true:=by rfl):QC X (.builtin "all") jS:=⟨A5 hc⟩
theorem Dy:QC X (.type "int") lu:=⟨BU⟩
theorem qv (i:Nat){x:Str}{pos:Pos}(hN:X.N[i]?=some x:=by rfl)(hv:Dh X.env.scope x:=by first|exact Or.inl rfl|exact Or.inr (Or.inl rfl)|exact Or.inr (Or.inr rfl))(hd:(x==("__debug__":Str))=false:=by decide)
  (hcd:(x==("__classdict__":Str))=false:=by decide):QE X (.Name x pos) (af i):=⟨vv i hN hv hd hcd⟩
theorem Bn {i:Int}{j pos}:QE X (.Constant (.int i) j pos) (gC (.int i)):=⟨AQ⟩
theorem E7 {b j pos}:QE X (.Constant (.bool b) j pos) (gC (.bl b)):=⟨EG⟩
theorem C3 {j pos}:QE X (.Constant .none j pos) (gC .non):=⟨Am⟩
theorem B0 {x j pos}:QE X (.Constant (.str x) j pos) (gC (.str x)):=⟨CC⟩
theorem Ah (h:QE X a g):QE X (.UnaryOp .USub a pos) (iG g):=⟨CP h.h⟩
theorem DX {op:Operator}{f:F2}(ho:Q2 X (binaryOp op) f)(ha:QE X a ga)(hb:QE X b gb):QE X (.BinOp a op b pos) (g2 f ga gb):=⟨EE ho.h ha.h hb.h⟩
def Ar:CmpOp→Bool
 | .In=>false
 | .NotIn=>false
 | _=>true
theorem mD {op:CmpOp}{b:Expr}(h:Ar op=true):behindInMarks op b=false:=by
 cases op <;> first|exact CM _|(cases h)
theorem AF {op:CmpOp}{f:F2}(ho:Q2 X (compareOp op) f)(ha:QE X a ga)(hb:QE X b gb)(hm:Ar op=true:=by rfl):QE X (.Compare a [op] [b] pos) (g2 f ga gb):=⟨CF ho.h ha.h hb.h (mD hm)⟩
theorem A0 {op:CmpOp}{f:F2}(ho:Q2 X (compareOp op) f)(ha:QE X a ga)(hb:QE X b gb)(hm:Ar op=true:=by rfl):QT X (.Compare a [op] [b] pos) (aO (g2 f ga gb)):=⟨u9 ho.h ha.h hb.h (mD hm)⟩
theorem zI {op:CmpOp}{f:F2}(ho:Q2 X (compareOp op) f)(ha:QE X a ga)(hb:QE X b gb)(hm:behindInMarks op b=false:=by with_unfolding_all rfl):QT X (.Compare a [op] [b] pos) (aO (g2 f ga gb)):=⟨u9 ho.h ha.h hb.h hm⟩
theorem wO {op op':CmpOp}{f f':F2}(ho:Q2 X (compareOp op) f)(ho':Q2 X (compareOp op') f')(ha:QE X a ga)(hb:QE X b gb)(hc:QE X c gc)(hm:lastMarks [op,op'] [b,c]=false:=by with_unfolding_all rfl):QE X (.Compare a [op,op'] [b,c] pos) (xh f f' ga gb gc):=⟨wJ ho.h ho'.h ha.h hb.h hc.h hm⟩
theorem CB {op}(h:QE X a g):QE X (.BoolOp op [a] pos) g:=⟨Al h.h⟩
theorem AD (ha:QE X a ga)(hb:QE X (.BoolOp .And (b::au) pos) gb):QE X (.BoolOp .And (a::b::au) pos) (jQ ga gb):=⟨Cp ha.h hb.h⟩
theorem yy (ha:QT X a ta):QW X (.BoolOp .And [a] pos) ta:=⟨xv ha.h⟩
theorem AK (ha:QT X a ta):QW X (.BoolOp .Or [a] pos) ta:=⟨AG ha.h⟩
theorem CI (ha:QT X a ta)(hb:QW X (.BoolOp .And (b::au) pos) tb):QW X (.BoolOp .And (a::b::au) pos) (dC ta tb):=⟨Bt ha.h hb.h⟩
theorem Eu (ha:QT X a ta)(hb:QW X (.BoolOp .Or (b::au) pos) tb):QW X (.BoolOp .Or (a::b::au) pos) (en ta tb):=⟨DR ha.h hb.h⟩
theorem Ez (h:QW X a ta):QT X a ta:=⟨PW.pt h.h⟩
theorem CN (h:QT X a ta):QT X (.UnaryOp .Not a pos) (cZ ta):=⟨AR h.h⟩
theorem BD (h:QE X a g)(he:∀whole,isTrue a X.env whole=(do let v ←whole;standAt a.pos;holding [v] (truthy v)):=by intro _;rfl):QT X a (fM g):=⟨Cr h.h he⟩
theorem C6:QA X [] ah:=⟨BS⟩
theorem G0 {gr:GA}(ha:QE X e g)(hr:QA X es gr)(h:aQ e=true:=by rfl):QA X (e::es) (aa g gr):=⟨F7 ha.h hr.h h⟩
theorem B4 {x1}(h:QA X es gA):QE X (.Tuple es x1 pos) (dP gA):=⟨AY h.h⟩
theorem BE (h:QA X es gA):QE X (.List es pos) (cL gA):=⟨Cm h.h⟩
theorem Au (h:QA X es gA):QE X (.List es pos) (jX gA):=⟨Cq h.h⟩
theorem zG:QP X none bJ:=⟨yD⟩
theorem x8 (h:QE X e g):QP X (some e) (aN g):=⟨xF h.h⟩
section
variable {apos cpos:Pos}{k n:Nat}{f:Addr}{fd:FuncData}{ps:List Str}{F:FD}{T:String}{id:String}
theorem uF {lo hi:Option Expr}{gl gh:GO}(he:QE X e g)(hl:QP X lo gl)(hh:QP X hi gh):QE X (.Subscript e (.Slice lo hi none p2) pos) (mP g gl gh):=⟨uw he.h hl.h hh.h⟩
theorem uB (ho:QE X o go)(he:QE X e ge)(h1:aQ e=true:=by rfl)(hbase:attributeBase o "append" X.env (eval o X.env)=eval o X.env:=by rfl)(hline:(apos.endLine==cpos.line)=true:=by rfl):QE X (.Call (.Attribute o "append" apos) [e] [] cpos) (fK go ge):=⟨tq ho.h he.h hbase (lc h1) hline (sE h1) rfl⟩
theorem D2 (Fn:fB X.prog X.w X.K X.mg X.base (jP X.prog X.w) k f fd ps (qG X.K n F))(hr:bW k X.A)(hg:Gl X x)(hm:X.mg x=some (.ref f))(hk:W.keepIn X.K (.ref f)=true)(hb:gP X.K fd ps [])(ha:QA X (e::es) gA)
  (hdb:(x==("__debug__":Str))=false:=by decide) (h1:aQ e=true:=by rfl) (h2:da es=true:=by rfl):QE X (.Call (.Name x p) (e::es) [] pos) (ay n F gA):=⟨EQ Fn hr hg hm hk hb ha.h hdb h1 h2⟩
theorem z4 (hc:QC X (.builtin id) F)(hg:Gl X x)(hm:X.mg x=none)(hv:bootBuiltins x=some (.builtin id))(ha:QA X (e::es) gA)(hn:x≠"__name__":=by decide)(hdb:(x==("__debug__":Str))=false:=by decide)
  (h1:aQ e=true:=by rfl) (h2:da es=true:=by rfl):QE X (.Call (.Name x p) (e::es) [] pos) (aL F gA):=⟨DZ hc.h hg hm hv ha.h hn hdb h1 h2⟩
theorem E5 (hc:QC X (.type T) F)(hg:Gl X x)(hm:X.mg x=none)(hv:bootBuiltins x=some (.type T))(ha:QA X (e::es) gA)(hn:x≠"__name__":=by decide)(hdb:(x==("__debug__":Str))=false:=by decide)
  (h1:aQ e=true:=by rfl) (h2:da es=true:=by rfl):QE X (.Call (.Name x p) (e::es) [] pos) (aL F gA):=⟨FC hc.h hg hm hv ha.h hn hdb h1 h2⟩
theorem DC (hT:i9 T)(hv:bootBuiltins x=some (.type T))(hg:Gl X x)(hm:X.mg x=none)(hgi:Gl X "isinstance")(hmi:X.mg "isinstance"=none)(he:QE X e g)
  (h1:aQ e=true:=by rfl) (hn:x≠"__name__":=by decide) (hd:(x==("__debug__":Str))=false:=by decide):QE X (.Call (.Name "isinstance" p) [e,.Name x p2] [] pos) (iF T g):=⟨DE hT hv hg hm hgi hmi he.h h1 hn hd⟩
end
theorem EZ {tg:Expr}(hg:Gl X "range")(hm:X.mg "range"=none)(ha:QA X [a] gA)(h1:aQ a=true:=by rfl):QI X tg (.Call (.Name "range" p) [a] [] pos) (dB gA):=⟨DS hg hm ha.h h1⟩
theorem DK {tg:Expr}(hg:Gl X "range")(hm:X.mg "range"=none)(ha:QA X [a,b] gA)(h1:aQ a=true:=by rfl)(h2:aQ b=true:=by rfl):QI X tg (.Call (.Name "range" p) [a,b] [] pos) (dD gA):=⟨EI hg hm ha.h h1 h2⟩
section
variable {scope:Scope}{R:List Str}{iter elt:Expr}{ifs:List Expr}{gI:GI}{gC:GT}{px:Pos}{mk:List D→ax→aI D}
theorem tV {xs:List Str}:xi X scope xs R [] bt:=⟨vw⟩
theorem uq {xs:List Str}(h:∀fp s2 H2 C,QT (aC X scope xs R fp s2 H2 C) c ta):xi X scope xs R [c] ta:=⟨wX fun fp s2 H2 C=>(h fp s2 H2 C).h⟩
theorem xJ (hS:bI scope X.env.kindOf [x] R X.N=true)(hm:mk=aH∨mk=bN)(hi:QI X (.Name x px) iter gI)(hts:xi X scope [x] R ifs gC)(he:∀fp s H C,QE (aC X scope [x] R fp s H C) elt ge)
  (hc:X.calm=true:=by rfl) (hs:∀x,foldedSetIterable iter X.env x=pure x:=by intro _;rfl):QE X (.ListComp elt [⟨.Name x px,iter,ifs,0⟩] scope pos) (aR gI gC ge mk):=⟨yY hS hc hm hi.h hts.h (fun fp s H C=>(he fp s H C).h) hs⟩
theorem lh {j:Nat}{y:Str}{py spos:Pos}(hS:bI scope X.env.kindOf [x] R X.N=true)(hm:mk=aH∨mk=bN)(hN:X.N.Nodup)(hi:QI X (.Name x px) iter gI)(hts:xi X scope [x] R ifs gC)(he:∀fp s H C,QE (aC X scope [x] R fp s H C) elt ge)
  (hc:X.calm=true:=by rfl) (hj:X.N[j]?=some y:=by rfl) (hy:X.env.scope.names.lookup y=some .local:=by rfl) (hsw:swapsWith (.ListComp elt [⟨.Name x px,iter,ifs,0⟩] scope pos) (some (.Name y py)) spos.line X.env=pure true:=by rfl)
  (hs:∀x,foldedSetIterable iter X.env x=pure x:=by intro _;rfl):QS X (.Assign [.Name y py] (.ListComp elt [⟨.Name x px,iter,ifs,0⟩] scope pos) spos) (aA j (aR gI gC ge mk)):=⟨pN hS hc hm hi.h hts.h (fun fp s H C=>(he fp s H C).h) hN hj hy hsw hs⟩
theorem Ao (n:Nat){is:List Nat}(h:is.all (fun i=>decide (i<n))=true:=by rfl):QO n (jy is):=⟨xD h⟩
theorem l5 {xs:List Str}{fp:List Addr}{s:Shared}{H:Hp}{C:Addr}{y:Str}(hS:bI scope X.env.kindOf xs R X.N=true)(h:y∈xs):(aC X scope xs R fp s H C).env.scope.names.lookup y=some .local:=lookup_relabel_local ((bB.of hS).own y h)
theorem HI {xs:List Str}{fp:List Addr}{s:Shared}{H:Hp}{C:Addr}{y:Str}(i:Nat)(hS:bI scope X.env.kindOf xs R X.N=true)(hi:(xs++R)[i]?=some y:=by rfl)(hx:y∈xs:=by simp):QG (aC X scope xs R fp s H C) (.Name y pos) (cr i):=
 ⟨nh (X:=aC X scope xs R fp s H C) (bB.of hS).nd hi (.inl (l5 hS hx)) (.inr (l5 hS hx))⟩
theorem u5 {tg:Expr}{sg:GG}(xs:List Str)(hS:bI scope X.env.kindOf xs R X.N=true)(hm:mk=aH∨mk=bN)(own:QO xs.length sg)(hi:QI X tg iter gI)(hg:∀fp s H C,QG (aC X scope xs R fp s H C) tg sg)(hts:xi X scope xs R ifs gC)(he:∀fp s H C,QE (aC X scope xs R fp s H C) elt ge)
  (hc:X.calm=true:=by rfl) (hs:∀x,foldedSetIterable iter X.env x=pure x:=by intro _;rfl):QE X (.ListComp elt [⟨tg,iter,ifs,0⟩] scope pos) (bL gI xs.length sg gC ge mk):=⟨nW hS hc hm hi.h own.h (fun fp s H C=>(hg fp s H C).h) hts.h (fun fp s H C=>(he fp s H C).h) hs⟩
end
def iO:Expr→Bool
 | .ListComp ..=>false
 | .SetComp ..=>false
 | .DictComp ..=>false
 | _=>true
theorem iJ {t:Option Expr}{l:Nat}{env:Env}(h:iO e=true):swapsWith e t l env=pure false:=by
 cases e <;> first|rfl|exact ff h
section
variable {st:Stmt}{stmts:List Stmt}{t u:GS}
theorem Bz:QB X [] bn:=⟨AJ⟩
theorem yr (h1:QS X st t)(h2:QB X stmts u):QB X (st::stmts) (aq t u):=⟨za h1.h h2.h⟩
theorem B2 (h1:QS X st t):QB X [st] t:=⟨AN h1.h⟩
theorem Cv (i:Nat){x:Str}(hN:X.N.Nodup)(he:QE X e g)(hi:X.N[i]?=some x:=by rfl)(hx:pj X.env.scope x:=by first|exact Or.inl rfl|exact Or.inr rfl)(hs:iO e=true:=by rfl)(hf:X.fn x=true∨X.env.scope.names.lookup x=some .local:=by first|exact .inl rfl|exact .inr rfl) :
  QS X (.Assign [.Name x pos'] e pos) (aA i g):=⟨ss i hN he.h hi hx (iJ hs) hf⟩
theorem Cj (he:QE X e g):QS X (.Return (some e) pos) (bD g):=⟨Cw he.h⟩
theorem xP (he:QE X e g)(hs:iO e=true:=by rfl):QS X (.Expr e pos) (cD g):=⟨xE he.h (iJ hs)⟩
theorem D5 {a b:List Stmt}{tc:GT}(hc:QT X c tc)(ha:QB X a t)(hb:QB X b u):QS X (.If c a b pos) (gn tc t u):=⟨ES hc.h ha.h hb.h⟩
theorem qn (i:Nat){x:Str}(hN:X.N.Nodup)(hi:X.N[i]?=some x:=by rfl)(hx:pj X.env.scope x:=by first|exact Or.inl rfl|exact Or.inr rfl)(hf:X.fn x=true∨X.env.scope.names.lookup x=some .local:=by first|exact .inl rfl|exact .inr rfl):QG X (.Name x pos) (cr i):=⟨gg i hN hi hx hf⟩
theorem yl:Ds X [] []:=⟨yJ⟩
theorem EK {i:Nat}{is:List Nat}(h1:QG X e (cr i))(h2:Ds X es is)(hs:(assignEach (e::es) X.env).map (·.2)=assign e X.env::(assignEach es X.env).map (·.2):=by rfl):Ds X (e::es) (i::is):=⟨vj h1.h h2.h hs⟩
theorem Ae {is:List Nat}{k n:Nat}(h:Ds X es is)(hc:X.calm=true:=by rfl)(hl:is.length=n:=by rfl)(hn:(assignEach es X.env).length=n:=by rfl)(hst:(assignEach es X.env).findIdx? (·.1)=none:=by rfl):QG X (.Tuple es k pos) (jy is):=⟨B3 hc h.h hl hn hst⟩
theorem AC {tg:Expr}{s:GG}(he:QE X e g)(hg:QG X tg s)(hs:iO e=true:=by rfl)(hw:swappedStores [tg] e X.env=pure none:=by rfl)(h1:(assignEach [tg] X.env).map (·.2)=[assign tg X.env]:=by rfl):QS X (.Assign [tg] e pos) (jU s g):=⟨A9 he.h hg.h (iJ hs) hw h1⟩
theorem BZ {ip:Pos}(he:QE X e g)(ho:QE X o go)(hi:QE X i gi)
  (ha:∀v,assign (.Subscript o i ip) X.env v=(do
   let ov ←holding [v] (eval o X.env)
   let iv ←holding [v,ov] (eval i X.env)
   standAt ip
   holding [v,ov,iv] (setItem ov iv v)
   release [v,ov,iv] []):=by intro _;rfl)
  (hs:iO e=true:=by rfl) (hw:swappedStores [.Subscript o i ip] e X.env=pure none:=by rfl):QS X (.Assign [.Subscript o i ip] e pos) (i3 go gi g):=⟨CK he.h ho.h hi.h ha (by unfold swapsWithSole;exact iJ hs) hw rfl⟩
theorem Bc {tg iter:Expr}{body:List Stmt}{gI:GI}{sg:GG}{gB:GS}(hp:PassesOwn (model X.prog X.w) X.A X.env X.xe)(hi:QI X tg iter gI)(hg:QG X tg sg)(hb:QB X body gB)(hc:X.calm=true:=by rfl)(hs:∀x,foldedSetIterable iter X.env x=pure x:=by intro _;rfl) :
  QS X (.For tg iter body [] pos) (iw gI sg gB):=⟨Bs hp hc hi.h hg.h hb.h hs⟩
theorem v8 {body:List Stmt}{tc:GT}{gB:GS}{n:Nat}(hp:PassesOwn (model X.prog X.w) X.A X.env X.xe)(hc:QT X c tc)(hb:QB X body gB):QS X (.While c body [] pos) (dh n tc gB):=⟨vR hp hc.h hb.h⟩
theorem ve {x:Str}{C:Addr}{np cpos:Pos}(k:Ec X.K X.mg x C)(hg:Gl X x)(he:QE X e g)(hc:X.calm=true:=by rfl)(h1:aQ e=true:=by rfl)(hd:(x==("__debug__":Str))=false:=by decide):QS X (.Raise (some (.Call (.Name x np) [e] [] cpos)) none pos) (cx x g):=⟨vZ k hc hg he.h h1 hd⟩
end
end
section
variable {X:Cx}{c f m:Str}{C:Addr}{o e value:Expr}{es:List Expr}{g go gv:GE}{gA:GA}{pos pos' apos p:Pos}{k n:Nat}{fa:Addr}{fd:FuncData}{ps:List Str}{F:FD}{pl:Sem Bool}
theorem CT {x:Str}{add:Bool}{op:Operator}(i:Nat)(hN:X.N.Nodup)(hop:op=if add then .Add else .Sub)(he:QE X e g)(hi:X.N[i]?=some x:=by rfl)(hx:pj X.env.scope x:=by first|exact Or.inl rfl|exact Or.inr rfl)(hf:X.fn x=true∨X.env.scope.names.lookup x=some .local:=by first|exact .inl rfl|exact .inr rfl) :
  QS X (.AugAssign (.Name x pos') op e pos) (o4 i add g):=⟨Cu hop hN hi hx he.h hf⟩
end
structure Mf (K:W.Frag)(C:Addr)(x qual:Str)(st:Stmt)(f:Addr)(fd:FuncData)(ps:List Str):Prop where
 F:Be K x qual st f fd
 me:Gd K C x f
 b:gP K fd ps []
theorem Eg {P:Program}{w:World}{K:W.Frag}{mg:Str→Option Value}{base:Heap}{x qual:Str}{st:Stmt}{f:Addr}{fd:FuncData}{N ps:List Str}{k n:Nat}{g:GS}(F:Be K x qual st f fd)(S:g5 N ps (bg st))(hn:ps.length=n)
  (hbody:∀(cdv:Value) (A:Around) (outer:List Env) (s:Shared) (H:Hp) (E:XK),bW k (A.deeper (envOfC qual (bg st) s.heap.objs.size f cdv))→QB (iV (jP P w) P w K mg base N qual (bg st) f cdv A outer s H E) (dA st) g) :
  fB P w K mg base (jP P w) (k+1) f fd ps (qG K n (cV (N.length-n) g)):=G4 F S hn fun cdv A outer s H E hr=>(hbody cdv A outer s H E hr).h
theorem AA {l:W.OpenLaw}{n k:Nat}{q:Program}{loose:List Str}{XP:(Str→Option Value)→Heap→Prop}{YP:World→Heap→Prop}{d:DefRec}{K:Params→W.Frag}{x:Str}{F:FD}
  (hn:l.most=some n) (hn2:n≤sizeLine) (hdf:d.params.defaults=[]) (hr:bW k callerA) (hY:∀(w:World) (h:Heap),YP w h→(K w.params).In h)
  (hF:∀(w:World) (mg:Str→Option Value) (fa:Addr) (h:Heap),(K w.params).In h→h.Ns mainGlobals mg→mg d.name=some (.ref fa)→
   ∃fd:FuncData,(∀(s:Shared) (u:Value),BindsTo s fd ⟨[u],[]⟩ [(x,u)])∧∀base:Heap,(K w.params).In base→base.Ns mainGlobals mg→fB l.prog w (K w.params) mg base (jP l.prog w) k fa fd [x] (qG (K w.params) 1 F))
  (h1:∀w:World,W.nsIn (K w.params) mainGlobals "ink_shown"=some none) (h2:∀w:World,W.nsIn (K w.params) mainGlobals "table_within"=some none)
  (h3:∀w:World,W.nsIn (K w.params) mainGlobals "slots_given"=some none) (h4:∀w:World,W.nsIn (K w.params) mainGlobals "cast_on_slots"=some none)
  (ht:∀ns:List Int,ns.length≤n→∃M',F [.ro (ns.map D.int)] []=.ok (.bl true) M') :
  W.WalkO q loose XP YP l.row.toRowW d [] (fun f vs=>PySem.call f vs):=
 L2.walk_of (CX:=fun w=>jP l.prog w) (sp:=fun w=>qG (K w.params) 1 F) hn hn2 hdf hr hY hF (fun w H a ns hl _ hS=>By (.no fun y hy=>by
  simp only[eF,mem_cons,not_mem_nil,or_false] at hy;rcases hy with rfl|rfl|rfl|rfl
  ·exact h1 w
  ·exact h2 w
  ·exact h3 w
  ·exact h4 w) hS (ht ns hl)) fun w H s e s' z=>Fv z
section
variable {X:Cx}{e a b o:Expr}{x z:Str}{p pos apos cpos:Pos}{g ga gb go ge:GE}{gA:GA}
theorem CD (ha:QE X a ga)(hb:QE X b gb)(hs:m8 b:=by intro _ _;rfl):QE X (.Subscript a b pos) (g2 bx ga gb):=⟨As ha.h hb.h hs⟩
theorem FA:Q2 X (compareOp .In) z9:=⟨Bm⟩
theorem zJ {tg:Expr}(h:QE X e g):QI X tg e (bi g):=⟨ye h.h⟩
theorem yT (hc:X.calm=true:=by rfl):QC X (.type "list") gO:=⟨vT hc⟩
theorem ya (ho:QE X o go)(he:QE X e ge)(h1:aQ e=true:=by rfl)(hbase:attributeBase o "find" X.env (eval o X.env)=eval o X.env:=by rfl)(hline:(apos.endLine==cpos.line)=true:=by rfl):QE X (.Call (.Attribute o "find" apos) [e] [] cpos) (bA kj go ge):=⟨xx ho.h he.h h1 hbase hline⟩
theorem xK (ho:QE X o go)(he:QE X e ge)(h1:aQ e=true:=by rfl)(hbase:attributeBase o "join" X.env (eval o X.env)=eval o X.env:=by rfl)(hline:(apos.endLine==cpos.line)=true:=by rfl):QE X (.Call (.Attribute o "join" apos) [e] [] cpos) (bA dN go ge):=⟨xU ho.h he.h h1 hbase hline⟩
theorem C8 (hm:∃tk,X.mg x=some (.str z tk))(hg:Gl X x:=by rfl)(hd:(x==("__debug__":Str))=false:=by decide):QE X (.Name x pos) (gC (.str z)):=by
 obtain⟨tk,hm⟩:=hm;exact⟨CZ hg hm hd⟩
end
section
variable {X:Cx}{x:Str}{z:Int}{pos:Pos}
theorem ze {tk:Tok}(hg:Gl X x)(hm:X.mg x=some (.int z tk))(hd:(x==("__debug__":Str))=false:=by decide):PE X (.Name x pos) (tE X (gC (.int z))):=
 (rX hg hm (v:=.int z) ⟨tk,rfl⟩ hd).of fun σ H Q h=>by
  obtain⟨ρ,θ,M,_,hw,h⟩:=h;exact h _ θ H (.refl hw) rfl
theorem xZ (hm:∃tk,X.mg x=some (.int z tk))(hg:Gl X x:=by rfl)(hd:(x==("__debug__":Str))=false:=by decide):QE X (.Name x pos) (gC (.int z)):=by
 obtain⟨tk,hm⟩:=hm;exact⟨ze hg hm hd⟩
end
end DL
namespace PySem
end PySem
namespace L2
open PySem PySem.Spec PyProof.Rows List
def E9 (ns:List Int):List Int:=ns.mergeSort fun a b=>decide (a≤b)
end L2
namespace DL
open PySem PySem.Spec PyProof.Rows L2 List
def FE:D→Option dO
 | .int i=>some (.inl i)
 | .str x=>some (.inr x)
 | _=>none
def Gs:List D→Option (List dO)
 | []=>some []
 | d::ds=>match FE d,Gs ds with
  | some k,some ks=>some (k::ks)
  | _,_=>none
section
variable {X:Cx}{pos apos cpos:Pos}{o e f:Expr}
def Fi:List D→Option (List Int)
 | []=>some []
 | .int i::ds=>(Fi ds).map (i::·)
 | _::_=>none
def Hz:FD:=fun ds M=>match ds with
 | [d]=>match gq d M with
  | some xs=>match Fi xs with
   | some ns=>if ns.length<64 then .ok (.lst ((E9 ns).map D.int)) M else .bad
   | none=>.bad
  | none=>.bad
 | _=>.bad
end
end DL
namespace L2
open PySem PySem.Spec PyProof.Rows List
theorem lx:seqSlot? (.type "list") (dunderI "add")=pure (some (.builtin "list.__iadd__")):=PySem.seqSlot_of PySem.F.slot_list_iadd.lookup (by decide +kernel)
theorem js:fillsInplaceSlot (.type "list") "add" (Operator.Add==.Add)=pure false:=by
 unfold fillsInplaceSlot;show(typeLookup (.type "list") (dunderI "add") >>= fun fi=>pure (fi.isSome&&!isSeqSlot fi))=pure false;have e:isSeqSlot (some (Value.builtin "list.__iadd__"))=true:=by decide +kernel
 rw[PySem.F.slot_list_iadd.lookup,pure_bind,e];rfl
section
variable {X:Cx}
theorem m7 {M:Model}{A:Around}{E:Value→Shared→Prop}{s:Shared}{a b:Value}{Q:Value→Shared→Prop}(ha:s.TypeIs a "list")(hb:s.TypeIs b "list")
  (hc:wpAny M A (call (.builtin "list.__iadd__") [a,b]) Q E s):wpAny M A (inplaceOp .Add a b) Q E s:=by
 unfold inplaceOp;refine wpAny_holding ?_;refine wpAny_bind (wpAny_typeOf ha (wpAny_bind (wpAny_of_eq js ?_)));show wpAny M A (if false=true then _ else _) Q E s;rw[if_neg Bool.false_ne_true];refine wpAny_bind (wpAny_binaryOp1_none (nm:="add") ha hb PySem.noFill_list_add ?_);refine wpAny_bind (wpAny_of_eq lx ?_);exact wpAny_bind (wpAny_rule hc)
def E0:V→V→Hp→VK→Prop:=fun x y H Q=>(∃i j,x=.int i∧y=.int j∧Q (.int (i+j)) H)∨
 ∃l b xs zs,x=.ref l∧y=.ref b∧H l=some (.lst xs)∧H b=some (.lst zs)∧xs.length+zs.length≤sizeLine∧Q (.ref l) (cw H l (.lst (xs++zs)))
theorem qM:A3 X .Add E0:=by
 intro ae s σ H x y u v Q I rx ry h;rcases h with⟨i,j,e1,e2,q⟩|⟨l,b,xs,zs,rfl,rfl,hH,hB,hz,q⟩
 ·exact AI ae s σ H x y u v Q I rx ry ⟨i,j,e1,e2,q⟩
 ·cases rx;cases ry;obtain⟨z,its,n,r,hl,e⟩:=I.lstM hH;obtain⟨z2,its2,n2,r2,hl2,e2⟩:=I.lstM hB;have hsz:its.toArray.size+its2.toArray.size≤sizeLine:=by rw[size_toArray,size_toArray];omega
  have hlong:¬(!its.toArray.isEmpty&&Builtin.List.listTooLong (its.toArray.size+its2.toArray.size))=true:=by
   rw[oX hsz,Bool.and_false];exact Bool.false_ne_true
  refine m7 ⟨_,e,rfl⟩ ⟨_,e2,rfl⟩ (call_meets PySem.F.slot_list_iadd ⟨_,e,rfl⟩ PySem.F.entry_list_iadd (PySem.F.args_list_iadd_2 _ _)
   (AutoSeq1.list___iadd___list_list_0 l its.toArray n b its2.toArray n2 hlong (by rw[size_toArray];omega) (by omega)) ⟨e,e2,?_⟩)
  refine⟨.ref l,_,I.lset (its':=its++its2) hH e (by simp) (r.append r2) ?_,rfl,q⟩;rw[length_append];omega
end
end L2
namespace DL
open PySem PySem.Spec PyProof.Rows L2 List
section
variable {X:Cx}{c f:Str}{C:Addr}{o value:Expr}{go gv:GE}{pos pos' tpos:Pos}
def qC (x y:D)(M:ax):aI D:=match x with
 | .int i=>match y with
  | .int j=>.ok (.int (i+j)) M
  | _=>.bad
 | .mr k=>match M[k]? with
  | some (.lst xs)=>match gq y M with
   | some ys=>if xs.length+ys.length≤sizeLine then .ok (.mr k) (M.set k (.lst (xs++ys))) else .bad
   | none=>.bad
  | _=>.bad
 | _=>.bad
def He (X:Cx):V→V→Hp→VK→Prop:=fun x y H Q=>∃θ M dx dy,Wr X.K θ H M∧cQ X.K θ H dx x∧cQ X.K θ H dy y∧aG X θ H Q (qC dx dy M)
theorem AX:A3 X .Add (He X):=by
 intro ae s σ H x y u v Q I rx ry ⟨θ,M,dx,dy,hw,r1,r2,h⟩;unfold qC at h;cases dx with
 | int i=>
  cases dy with
  | int j=>exact qM ae s σ H x y u v Q I rx ry (.inl ⟨i,j,r1,r2,h _ θ H (.refl hw) rfl⟩)
  | _=>exact h.elim
 | mr k=>
  dsimp only at h;cases q:M[k]? with
  | none=>rw[q] at h;exact h.elim
  | some m=>
   cases m with
   | obj _ _=>rw[q] at h;exact h.elim
   | dK _=>rw[q] at h;exact h.elim
   | dT _=>rw[q] at h;exact h.elim
   | lst xs=>
    rw[q] at h;dsimp only at h;cases q2:gq dy M with
    | none=>rw[q2] at h;exact h.elim
    | some ys=>
     rw[q2] at h;dsimp only at h;split at h
     ·rename_i hl;obtain⟨a,ea,ta⟩:=r1;obtain⟨vs,hv,ra⟩:=hw.at_ k a _ ta q;obtain⟨b,ws,eb,tb,rb⟩:=kz hw r2 q2;have gs:=nu (ds:=xs) hw ta (bS ra rb);exact qM ae s σ H x y u v Q I rx ry (.inr ⟨a,b,vs,ws,ea,eb,hv,tb,by rw[←ar ra,←ar rb];exact hl,h _ _ _ gs ⟨a,rfl,ta⟩⟩)
     ·exact h.elim
 | _=>exact h.elim
end
end DL
namespace L2
open PySem PySem.Spec PyProof.Rows List
end L2
namespace DL
open PySem PySem.Spec PyProof.Rows L2 List
section
variable {X:Cx}
theorem kY {K:W.Frag}{θ:List Addr}{H:Hp}{ds:List D}{vs:List V}(h:aU K θ H ds vs):∀k:Nat,aU K θ H (List.replicate k ds).flatten (List.replicate k vs).flatten
 | 0=>rfl
 | k+1=>by
  rw[replicate_succ,replicate_succ,flatten_cons,flatten_cons];exact bS h (kY h k)
end
theorem dF {N ps:List Str}{sc:Scope}(h1:sc.kind=.function:=by rfl)(h2:sc.isCoroutine=false:=by rfl)(h3:sc.isGenerator=false:=by rfl)(h4:N.Nodup:=by decide +kernel)(h5:N.take ps.length=ps:=by rfl)
  (h6:∀x∈ps,sc.names.lookup x=some .local∨sc.names.lookup x=some .cell:=by decide +kernel) (h7:∀y∈sc.names,y.2≠.free:=by decide +kernel):g5 N ps sc:=⟨h1,h2,h3,h4,h5,h6,h7⟩
section
variable {X:Cx}{e:Expr}{es:List Expr}{x:Str}{p pos:Pos}{gA:GA}{k k' n:Nat}{f:Addr}{fd:FuncData}{ps:List Str}{F:FD}{st:Stmt}{id:String}{T:String}
theorem DP (hc:QC X (.builtin id) F)(hm:X.mg x=none)(hv:bootBuiltins x=some (.builtin id))(ha:QA X (e::es) gA)(hg:Gl X x:=by rfl)(hn:x≠"__name__":=by decide)(hdb:(x==("__debug__":Str))=false:=by decide)
  (h1:aQ e=true:=by rfl) (h2:da es=true:=by rfl):QE X (.Call (.Name x p) (e::es) [] pos) (aL F gA):=z4 hc hg hm hv ha hn hdb h1 h2
end
def FF (K:W.Frag)(mg:Str→Option Value)(x:Str)(st:Stmt)(ps:List Str):Prop:=∃f fd,Fn K mg x st f fd ps
def KC (K:W.Frag)(mg:Str→Option Value)(c:Str)(C:Addr):Prop:=Kc K mg c C∧W.makesIn K C=true∧W.keepIn K (.ref C)=true
def MF (K:W.Frag)(mg:Str→Option Value)(c m q:Str)(st:Stmt)(ps:List Str):Prop:=∃C f fd,KC K mg c C∧Mf K C m q st f fd ps
def LF (K:W.Frag)(mg:Str→Option Value)(x:Str)(st:Stmt)(ps:List Str):Prop:=∃f fd c P,Fn K mg x st f fd ps∧W.nsIn K mainGlobals x=some (some (.ref f))∧GW K x c P
def NA (K:W.Frag)(mg:Str→Option Value)(c f:Str):Prop:=∃C,KC K mg c C∧C0 K C f
def EX (K:W.Frag)(mg:Str→Option Value)(x:Str):Prop:=∃C,Ec K mg x C
def IX (K:W.Frag)(mg:Str→Option Value)(x:Str)(tab:List (Str×Bool)):Prop:=∃G,Ec K mg x G∧∀p∈tab,∃C,Ec K mg p.1 C∧W.mroIn K C (.ref G)=some p.2
def IB (K:W.Frag)(mg:Str→Option Value)(x:String)(tab:List (Str×Bool)):Prop:=∀p∈tab,∃C,Ec K mg p.1 C∧W.mroIn K C (.type x)=some p.2
def Ls {α:Type}(P:α→Prop)(l:List α):Prop:=∀t∈l,P t
section
variable {α β γ:Type}{P:α→Prop}{l:List α}{a:α}
theorem Ls.nil:Ls P []:=fun _ h=>by cases h
theorem Ls.cons (h:P a)(t:Ls P l):Ls P (a::l):=fun x hx=>by
 rcases mem_cons.mp hx with e|e
 ·rw[e];exact h
 ·exact t x e
end
structure RN (l c:Nat)(xs R:List Str):Prop
theorem rn (l c:Nat)(xs R:List Str):RN l c xs R:=⟨⟩
def Ok (P:Program)(w:World)(K:W.Frag)(mg:Str→Option Value)(base:Heap)(x:Str)(k n:Nat)(F:FD):Prop:=
 ∃f fd ps,fB P w K mg base (jP P w) k f fd ps (qG K n F)∧mg x=some (.ref f)∧W.keepIn K (.ref f)=true∧gP K fd ps []
section
variable {P:Program}{w:World}{K:W.Frag}{mg:Str→Option Value}{base:Heap}{x c m q:Str}{st:Stmt}{N ps:List Str}{k n:Nat}{g:GS}{F:FD}
theorem mI (h:Ok P w K mg base x k n F):Ok P w K mg base x k n fun ds M=>hZ M.length (F ds M):=by
 obtain⟨f,fd,ps,h1,h2,h3,h4⟩:=h;exact⟨f,fd,ps,Cg h1,h2,h3,h4⟩
theorem hV (T:FF K mg x st ps)(N:List Str)(S:g5 N ps (bg st))(hn:ps.length=n)
  (hb:∀(f:Addr) (cdv:Value) (A:Around) (outer:List Env) (s:Shared) (H:Hp) (E:XK),N.Nodup→bW k (A.deeper (envOfC x (bg st) s.heap.objs.size f cdv))→QB (iV (jP P w) P w K mg base N x (bg st) f cdv A outer s H E) (dA st) g) :
  Ok P w K mg base x (k+1) n (cV (N.length-n) g):=by
 obtain⟨f,fd,T⟩:=T;exact⟨f,fd,ps,Eg T.F S hn fun cdv A outer s H E hr=>hb f cdv A outer s H E S.nd hr,T.m,T.F.kp,T.b⟩
end
section
variable {X:Cx}{e a o value:Expr}{es:List Expr}{x c m f:Str}{p p2 pos apos pos':Pos}{gA:GA}{g go gv:GE}{k k' n:Nat}{F:FD}{tab:List (Str×Bool)}{bs:List Str}
theorem DF (h:Ok X.prog X.w X.K X.mg X.base x k n F)(hr:bW k' X.A)(ha:QA X (e::es) gA)(hk:k≤k':=by first|decide|omega)(hg:Gl X x:=by rfl)
  (hdb:(x==("__debug__":Str))=false:=by decide) (h1:aQ e=true:=by rfl) (h2:da es=true:=by rfl):QE X (.Call (.Name x p) (e::es) [] pos) (ay n F gA):=by
 obtain⟨f,fd,ps,h1',h2',h3,h4⟩:=h;exact D2 h1' (hr.mono hk) hg h2' h3 h4 ha hdb h1 h2
theorem sZ {np cpos:Pos}(h:EX X.K X.mg x)(he:QE X e g)(hg:Gl X x:=by rfl)(hc:X.calm=true:=by rfl)(h1:aQ e=true:=by rfl)(hd:(x==("__debug__":Str))=false:=by decide):QS X (.Raise (some (.Call (.Name x np) [e] [] cpos)) none pos) (cx x g):=by
 obtain⟨C,h⟩:=h;exact ve h hg he hc h1 hd
end
section
variable {X:Cx}{x:Str}{pos px:Pos}{ge:GE}{scope:Scope}{xs R:List Str}{iter elt tg:Expr}{ifs:List Expr}{gI:GI}{gC:GT}{sg:GG}{mk:List D→ax→aI D}{j:Nat}{y:Str}{py spos:Pos}{n:Nat}
theorem wD (hS:bI scope X.env.kindOf [x] X.N X.N=true)(hm:mk=aH∨mk=bN)(hi:QI X (.Name x px) iter gI)(hts:xi X scope [x] X.N ifs gC)(he:∀fp s H C,QE (aC X scope [x] X.N fp s H C) elt ge)
  (hc:X.calm=true:=by rfl) (hs:∀x,foldedSetIterable iter X.env x=pure x:=by intro _;rfl):QE X (.ListComp elt [⟨.Name x px,iter,ifs,0⟩] scope pos) (aR gI gC ge mk):=xJ hS hm hi hts he hc hs
theorem pb (hS:bI scope X.env.kindOf [x] X.N X.N=true)(hm:mk=aH∨mk=bN)(hN:X.N.Nodup)(hi:QI X (.Name x px) iter gI)(hts:xi X scope [x] X.N ifs gC)(he:∀fp s H C,QE (aC X scope [x] X.N fp s H C) elt ge)
  (hc:X.calm=true:=by rfl) (hj:X.N[j]?=some y:=by rfl) (hy:X.env.scope.names.lookup y=some .local:=by rfl) (hsw:swapsWith (.ListComp elt [⟨.Name x px,iter,ifs,0⟩] scope pos) (some (.Name y py)) spos.line X.env=pure true:=by rfl)
  (hs:∀x,foldedSetIterable iter X.env x=pure x:=by intro _;rfl):QS X (.Assign [.Name y py] (.ListComp elt [⟨.Name x px,iter,ifs,0⟩] scope pos) spos) (aA j (aR gI gC ge mk)):=lh hS hm hN hi hts he hc hj hy hsw hs
theorem oU (_:RN pos.line pos.col [x] R)(hS:bI scope X.env.kindOf [x] R X.N=true)(hm:mk=aH∨mk=bN)(hN:X.N.Nodup)(hi:QI X (.Name x px) iter gI)(hts:xi X scope [x] R ifs gC)(he:∀fp s H C,QE (aC X scope [x] R fp s H C) elt ge)
  (hc:X.calm=true:=by rfl) (hj:X.N[j]?=some y:=by rfl) (hy:X.env.scope.names.lookup y=some .local:=by rfl) (hsw:swapsWith (.ListComp elt [⟨.Name x px,iter,ifs,0⟩] scope pos) (some (.Name y py)) spos.line X.env=pure true:=by rfl)
  (hs:∀x,foldedSetIterable iter X.env x=pure x:=by intro _;rfl):QS X (.Assign [.Name y py] (.ListComp elt [⟨.Name x px,iter,ifs,0⟩] scope pos) spos) (aA j (aR gI gC ge mk)):=lh hS hm hN hi hts he hc hj hy hsw hs
theorem ug (_:RN pos.line pos.col xs R)(hS:bI scope X.env.kindOf xs R X.N=true)(hm:mk=aH∨mk=bN)(own:QO xs.length sg)(hi:QI X tg iter gI)(hg:∀fp s H C,QG (aC X scope xs R fp s H C) tg sg)(hts:xi X scope xs R ifs gC)(he:∀fp s H C,QE (aC X scope xs R fp s H C) elt ge)
  (hn:xs.length=n:=by rfl) (hc:X.calm=true:=by rfl) (hs:∀x,foldedSetIterable iter X.env x=pure x:=by intro _;rfl):QE X (.ListComp elt [⟨tg,iter,ifs,0⟩] scope pos) (bL gI n sg gC ge mk):=hn▸u5 xs hS hm own hi hg hts he hc hs
end
structure Tx (tab:List (Str×Stmt×List Str))(mtab:List (Str×Str×Str×Stmt×List Str))(ls:List (Str×Stmt×List Str))(zs es:List Str)(rs:List (Str×List (Str×Bool)))(vt:List (Str×Bool))(nas:List (Str×Str))(cs:List (Str×Str))(ci:List (Str×Int))
  (P:Program) (w:World) (K:W.Frag) (mg:Str→Option Value) (base:Heap):Prop where
 f:Ls (fun t=>FF K mg t.1 t.2.1 t.2.2) tab
 m:Ls (fun t=>MF K mg t.1 t.2.1 t.2.2.1 t.2.2.2.1 t.2.2.2.2) mtab
 l:Ls (fun t=>LF K mg t.1 t.2.1 t.2.2) ls
 z:∀x∈zs,mg x=none
 e:∀x∈es,EX K mg x
 r:Ls (fun t=>IX K mg t.1 t.2) rs
 b:IB K mg "ValueError" vt
 a:∀t∈nas,NA K mg t.1 t.2
 s:Ls (fun t=>∃tk,mg t.1=some (.str t.2 tk)) cs
 i:Ls (fun t=>∃tk,mg t.1=some (.int t.2 tk)) ci
section
variable {K:W.Frag}{mg:Str→Option Value}{x c m q:Str}{st:Stmt}{ps:List Str}{l:List (Str×Stmt×List Str)}{l':List (Str×Str×Str×Stmt×List Str)}
theorem hG (h:Ls (fun t=>FF K mg t.1 t.2.1 t.2.2) l)(i:Nat)(e:l[i]?=some (x,st,ps):=by rfl):FF K mg x st ps:=h _ (mem_of_getElem? e)
theorem HJ {l:List (Str×Str)}{z:Str}(h:Ls (fun t=>∃tk,mg t.1=some (.str t.2 tk)) l)(i:Nat)(e:l[i]?=some (x,z):=by rfl):∃tk,mg x=some (.str z tk):=h _ (mem_of_getElem? e)
theorem HV {l:List (Str×Int)}{z:Int}(h:Ls (fun t=>∃tk,mg t.1=some (.int t.2 tk)) l)(i:Nat)(e:l[i]?=some (x,z):=by rfl):∃tk,mg x=some (.int z tk):=h _ (mem_of_getElem? e)
end
section
variable {K:W.Frag}{h:Heap}{mg:Str→Option Value}{x c m q f':Str}{st:Stmt}{ps:List Str}{f C G:Addr}{oc kV dc pm cd ct:Value}{od an:Option Addr}{sl:Array (Option Value)}
theorem Ei (X:K.In h)(Gm:h.Ns mainGlobals mg)(a:W.nsIn K mainGlobals x=some (some (.ref f)))(l:K.lookup f=some ⟨oc,od,.func (W.fnOf x x (fV st) (dA st) (bg st) .none kV dc pm an cd ct),sl⟩)(c:W.codeIn K cd x=true)(k:W.keepIn K (.ref f)=true)
  (b:∀(kV doc pm:Value) (an:Option Addr) (cdv ct:Value) (us:List Value),us.length=ps.length→bindArgs (W.fnOf x x (fV st) (dA st) (bg st) .none kV doc pm an cdv ct) ⟨us,[]⟩=pure (ps.zip us)):FF K mg x st ps:=
 ⟨f,_,wk (st:=st) l c k,W.mg_of X Gm a,(wk (st:=st) l c k).binds b⟩
theorem E3 (kC:KC K mg c C)(a:W.findIn K (.ref C) f'=some none):NA K mg c f':=⟨C,kC,a⟩
theorem DO (X:K.In h)(Gm:h.Ns mainGlobals mg)(q:W.nsIn K mainGlobals x=some (some (.ref C)))(cl:W.isClsIn K C=true)(ca:W.findIn K (.ref C) "__class__"=some (some (.builtin "object.__class__")))(sp:W.specialIn K (.builtin "object.__class__") "__get__"=some (some (.builtin "getset_descriptor.__get__")))(tk:W.takesIn K (.builtin "object.__class__")=some true)
  (ob:W.mroIn K C (.type "object")=some true) (ga:W.findIn K (.ref C) "__getattribute__"=some (some (.builtin "BaseException.__getattribute__"))) (gh:W.findIn K (.ref C) "__getattr__"=some none) (be:W.mroIn K C (.type "BaseException")=some true)
  (ex:W.excIn K C Eb "ValueError.__new__"=true) (ty:W.typeIn K (.ref C)=some (.type "type")) (sf:W.mroIn K C (.ref C)=some true):Ec K mg x C:=⟨q,W.mg_of X Gm q,⟨cl,ca,sp,tk,ob,ga,gh,be⟩,ex,ty,sf⟩
theorem EU (h:Ec K mg x C):EX K mg x:=⟨C,h⟩
theorem DD {tab:List (Str×Bool)}(h:Ec K mg x G)(t:Ls (fun p=>∃C,Ec K mg p.1 C∧W.mroIn K C (.ref G)=some p.2) tab):IX K mg x tab:=⟨G,h,t⟩
theorem Hf (X:K.In h)(Gm:h.Ns mainGlobals mg)(e:W.nsIn K mainGlobals x=some none):mg x=none:=W.mg_none_of X Gm e
theorem Ew {u:Tok→Value}{tk:Tok}(X:K.In h)(Gm:h.Ns mainGlobals mg)(e:W.nsIn K mainGlobals x=some (some (u tk))):∃tk,mg x=some (u tk):=⟨tk,W.mg_of X Gm e⟩
end
theorem B8 {l:W.OpenLaw}{w:World}{K:W.Frag}{mg:Str→Option Value}{fa:Addr}{st:Stmt}{k:Nat}{F:FD}(hfa:mg "law"=some (.ref fa))(L:FF K mg "law" st ["script"])
  (h:∀(base:Heap) (f:Addr) (fd:FuncData),Fn K mg "law" st f fd ["script"]→fB l.prog w K mg base (jP l.prog w) k f fd ["script"] (qG K 1 F))
  (hb:∀(kV doc pm:Value) (an:Option Addr) (cdv ct:Value) (v:Value),bindArgs (W.fnOf "law" "law" (fV st) (dA st) (bg st) .none kV doc pm an cdv ct) ⟨[v],[]⟩=pure [(("script":Str),v)]) :
  ∃fd:FuncData,(∀(s:Shared) (v:Value),BindsTo s fd ⟨[v],[]⟩ [("script",v)])∧∀base:Heap,K.In base→base.Ns mainGlobals mg→fB l.prog w K mg base (jP l.prog w) k fa fd ["script"] (qG K 1 F):=by
 obtain⟨f,fd,L⟩:=L;have e:=hfa.symm.trans L.m;cases e;refine⟨fd,fun s v=>?_,fun base _ _=>h base _ fd L⟩;obtain⟨oc,od,kV,doc,pm,an,cdv,ct,osl,rfl,lk,hcd⟩:=L.F.ex;exact .of_eq (hb kV doc pm an cdv ct v)
section
variable {X:Cx}{e:Expr}{g:GE}{pos pos':Pos}
def jJ (i:Nat)(g:GE):GS:=fun ρ M=>(af i ρ M).bind fun x M0=>(g ρ M0).bind fun y M1=>(qC x y M1).bind fun z M2=>.ok (.nx (ρ.set i (some z))) M2
theorem yo {i:Nat}{x:Str}(hN:X.N.Nodup)(hi:X.N[i]?=some x)(hx:pj X.env.scope x)(he:PE X e (tE X g))(hf:X.fn x=true∨X.env.scope.names.lookup x=some .local) :
  PS X (.AugAssign (.Name x pos') .Add e pos) (tS X (jJ i g)):=
 (xc hN hi hx he AX hf).of fun D σ H hxx=>by
  obtain⟨ρ,θ,M,hd,hw,h⟩:=hxx;unfold jJ af at h;split at h
  ·rename_i d q;obtain⟨v,e1,r⟩:=hd.at_ i d q;refine⟨v,e1,?_⟩;have h:bC X θ H D ((g ρ M).bind fun y M1=>(qC d y M1).bind fun z M2=>.ok (.nx (ρ.set i (some z))) M2):=h;refine bj hd hw (bC X θ H D) (fun c M' h=>h) (fun h=>h) h fun y M1 vy θ1 H1 g1 r1 h1=>?_
   have h1:=bC.go g1 h1;refine⟨θ1,M1,d,y,g1.wr,r.go g1,r1,?_⟩;cases qa:qC d y M1 with
   | bad=>rw[qa] at h1;exact h1.elim
   | err c2 M3=>rw[qa] at h1;exact h1
   | ok z M3=>
    rw[qa,ai] at h1;intro vz θ3 H3 g3 rz;exact h1 _ θ3 H3 g3 (((hd.go g1).go g3).set rz i)
  ·exact h.elim
theorem zp {x:Str}(i:Nat)(hN:X.N.Nodup)(he:QE X e g)(hi:X.N[i]?=some x:=by rfl)(hx:pj X.env.scope x:=by first|exact Or.inl rfl|exact Or.inr rfl)(hf:X.fn x=true∨X.env.scope.names.lookup x=some .local:=by first|exact .inl rfl|exact .inr rfl) :
  QS X (.AugAssign (.Name x pos') .Add e pos) (jJ i g):=⟨yo hN hi hx he.h hf⟩
end
end DL
namespace DL
open PySem PySem.Spec PyProof.Rows PySem.W L2 List
section
variable {key:Nat→Int}{N:Nat}{s:Shared}{cmp:Nat→Nat→(Bool→Shared→Prop)→Shared→Prop}
def kp (key:Nat→Int)(p:Array Nat)(k:Nat):Int:=key (p.getD k 0)
def tY (N:Nat)(p:Array Nat):Prop:=∀k,p.getD k 0<N
def up (key:Nat→Int)(p:Array Nat)(n:Nat):Prop:=∀k,k+1<n→kp key p k≤kp key p (k+1)
def wd (key:Nat→Int)(p:Array Nat)(n:Nat):Prop:=∀k,k+1<n→kp key p (k+1)≤kp key p k
def og (key:Nat→Int)(N:Nat)(s:Shared)(cmp:Nat→Nat→(Bool→Shared→Prop)→Shared→Prop):Prop:=∀i j C,i<N→j<N→C (decide (key i<key j)) s→cmp i j C s
theorem vn {p q:Array Nat}{i j:Nat}(h:p[i]?=q[j]?):kp key p i=kp key q j:=by
 unfold kp;rw[Array.getD_eq_getD_getElem?,Array.getD_eq_getD_getElem?,h]
theorem CJ {p q:Array Nat}(h:∀k:Nat,∃j:Nat,p[k]?=q[j]?)(i:tY N q):tY N p:=fun k=>by
 obtain⟨j,e⟩:=h k;have:=i j;rw[Array.getD_eq_getD_getElem?] at this ⊢;rw[e];exact this
theorem zT {p:Array Nat}{n:Nat}(h:up key p n):∀(d i:Nat),i+d<n→kp key p i≤kp key p (i+d)
 | 0,i,_=>Int.le_refl _
 | d+1,i,q=>Int.le_trans (zT h d i (by omega)) (h (i+d) (by omega))
theorem u6 {p:Array Nat}{n i j:Nat}(h:up key p n)(hij:i≤j)(hj:j<n):kp key p i≤kp key p j:=by
 have:=zT h (j-i) i (by omega);rwa [show i+(j-i)=j by omega] at this
theorem qh {p:Array Nat}{i j:Nat}(hj:j≤p.size)(k:Nat):(kas_rev p i j)[k]?=if i≤k∧k<j then p[i+j-1-k]? else p[k]?:=getElem?_mirror_all hj k
theorem kr {p:Array Nat}{i j:Nat}(hj:j≤p.size)(h:tY N p):tY N (kas_rev p i j):=CJ (fun k=>by
 rw[qh hj k];split
 ·exact⟨_,rfl⟩
 ·exact⟨_,rfl⟩) h
theorem kO {p:Array Nat}{i j:Nat}(hj:j≤p.size)(e:∀k,i≤k→k<j→kp key p k=kp key p (j-1))(k:Nat):kp key (kas_rev p i j) k=kp key p k:=by
 have h:=qh (i:=i) hj k
 by_cases q:i≤k∧k<j
 ·rw[if_pos q] at h;rw[vn h,e _ (by omega) (by omega),e k q.1 q.2]
 ·rw[if_neg q] at h;exact vn h
theorem pw (hc:og key N s cmp){p:Array Nat}(hp:tY N p){Q:Nat→Shared→Prop}:∀(f n:Nat),1≤n→up key p n→(∀m,n≤m→m≤n+f→up key p m→(m<n+f→kp key p m<kp key p (m-1))→Q m s)→(kas_asc p f n).kasWp cmp Q s
 | 0,n,h1,u,h=>h n (Nat.le_refl _) (Nat.le_refl _) u (fun z=>absurd z (by omega))
 | f+1,n,h1,u,h=>by
  refine hc _ _ _ (hp _) (hp _) ?_
  by_cases q:kp key p n<kp key p (n-1)
  ·rw[decide_eq_true (show key (p.getD n 0)<key (p.getD (n-1) 0) from q)];exact h n (Nat.le_refl _) (by omega) u fun _=>q
  ·rw[decide_eq_false (show¬key (p.getD n 0)<key (p.getD (n-1) 0) from q)];refine pw hc hp f (n+1) (by omega) (fun k hk=>?_) fun m a b c d=>h m (by omega) (by omega) c fun z=>d (by omega)
   by_cases e:k+1<n
   ·exact u k e
   ·have:k=n-1:=by omega
    subst this;rw[show n-1+1=n by omega];omega
theorem j7 (hc:og key N s cmp){Q:Array Nat×Nat×Nat→Shared→Prop}:∀(f:Nat) (p:Array Nat) (n q:Nat),tY N p→n+f≤p.size→q+1≤n→wd key p n→(∀k,n-(q+1)≤k→k<n→kp key p k=kp key p (n-1))→
  (∀p' n' q',p'.size=p.size→p'.Perm p→tY N p'→n≤n'→n'≤n+f→q'+1≤n'→wd key p' n'→(∀k,n'-(q'+1)≤k→k<n'→kp key p' k=kp key p' (n'-1))→Q (p',n',q') s)→(kas_desc f p n q).kasWp cmp Q s
 | 0,p,n,q,hp,hz,hq,hd,he,h=>h p n q rfl (Array.Perm.refl _) hp (Nat.le_refl _) (Nat.le_refl _) hq hd he
 | f+1,p,n,q,hp,hz,hq,hd,he,h=>by
  refine hc _ _ _ (hp _) (hp _) ?_
  by_cases c:kp key p n<kp key p (n-1)
  ·rw[decide_eq_true (show key (p.getD n 0)<key (p.getD (n-1) 0) from c)];dsimp only;rw[if_pos rfl];have hd':wd key p (n+1):=fun k hk=>by
    by_cases e:k+1<n
    ·exact hd k e
    ·have:k=n-1:=by omega
     subst this;rw[show n-1+1=n by omega];omega
   by_cases z:q>0
   ·rw[if_pos z];have sm:=kO (key:=key) (p:=p) (i:=n-(q+1)) (j:=n) (by omega) he;refine j7 hc f (kas_rev p (n-(q+1)) n) (n+1) 0 (kr (by omega) hp) (by rw[kas_rev_size];omega) (by omega) (fun k hk=>by rw[sm,sm];exact hd' k hk) (fun k a b=>by rw[show k=n by omega];rfl) fun p' n' q' a b c1 d e g i j=>h p' n' q' (a.trans (kas_rev_size ..)) (b.trans (mirror_perm ..)) c1 (by omega) (by omega) g i j
   ·rw[if_neg z];exact j7 hc f p (n+1) 0 hp (by omega) (by omega) hd' (fun k a b=>by rw[show k=n by omega];rfl) fun p' n' q' a b c1 d e g i j=>h p' n' q' a b c1 (by omega) (by omega) g i j
  ·rw[decide_eq_false (show¬key (p.getD n 0)<key (p.getD (n-1) 0) from c)];dsimp only;rw[if_neg (by simp)];refine hc _ _ _ (hp _) (hp _) ?_
   by_cases c2:kp key p (n-1)<kp key p n
   ·rw[decide_eq_true (show key (p.getD (n-1) 0)<key (p.getD n 0) from c2)];dsimp only;rw[if_pos rfl];exact h p n q rfl (Array.Perm.refl _) hp (Nat.le_refl _) (by omega) hq hd he
   ·rw[decide_eq_false (show¬key (p.getD (n-1) 0)<key (p.getD n 0) from c2)];dsimp only;rw[if_neg (by simp)];have eq:kp key p n=kp key p (n-1):=by omega
    refine j7 hc f p (n+1) (q+1) hp (by omega) (by omega) (fun k hk=>?_) (fun k a b=>?_) fun p' n' q' a b c1 d e g i j=>h p' n' q' a b c1 (by omega) (by omega) g i j
    ·by_cases e:k+1<n
     ·exact hd k e
     ·have:k=n-1:=by omega
      subst this;rw[show n-1+1=n by omega];omega
    ·show _=kp key p n
     by_cases e:k<n
     ·rw[he k (by omega) e];omega
     ·rw[show k=n by omega]
theorem nN (hc:og key N s cmp){p:Array Nat}{n m:Nat}(hp:tY N p)(h1:1≤n)(hn:n≤m)(hz:m≤p.size)(hd:wd key p n){Q:Nat×Array Nat→Shared→Prop}
  (h:∀k p',p'.size=p.size→p'.Perm p→tY N p'→1≤k→k≤m→up key p' k→Q (k,p') s):(kas_tail3 n m p).kasWp cmp Q s:=by
 unfold kas_tail3;rw[KasT.kasWp_bind];have at':∀k,k<n→kp key (kas_rev p 0 n) k=kp key p (n-1-k):=fun k hk=>by
  have e:=qh (i:=0) (j:=n) (p:=p) (by omega) k;rw[if_pos ⟨by omega,hk⟩] at e;rw[vn e,show 0+n-1-k=n-1-k by omega]
 refine pw hc (kr (by omega) hp) _ n h1 (fun k hk=>?_) fun k a b c _=>h k _ (kas_rev_size ..) (mirror_perm ..) (kr (by omega) hp) (by omega) (by omega) c
 rw[at' k (by omega),at' (k+1) hk];have:=hd (n-1-(k+1)) (by omega);rwa [show n-1-(k+1)+1=n-1-k by omega] at this
theorem jK (hc:og key N s cmp){p:Array Nat}{n m:Nat}(hp:tY N p)(hn:n+1≤m)(hz:m≤p.size)(hd:wd key p (n+1)){Q:Nat×Array Nat→Shared→Prop}
  (h:∀k p',p'.size=p.size→p'.Perm p→tY N p'→1≤k→k≤m→up key p' k→Q (k,p') s):(kas_descPart n m p).kasWp cmp Q s:=by
 unfold kas_descPart;rw[KasT.kasWp_bind];refine j7 hc _ p (n+1) 0 hp (by omega) (by omega) hd (fun k a b=>by rw[show k=n by omega];rfl) fun p' n' q' a b c d e g i j=>?_
 dsimp only;split
 ·have sm:=kO (key:=key) (p:=p') (i:=n'-(q'+1)) (j:=n') (by omega) j;exact nN hc (kr (by omega) c) (by omega) (by omega) (by rw[kas_rev_size];omega) (fun k hk=>by rw[sm,sm];exact i k hk) fun k p2 a2 b2 c2 d2 e2 g2=>h k p2 (a2.trans ((kas_rev_size ..).trans a)) (b2.trans ((mirror_perm ..).trans b)) c2 d2 e2 g2
 ·exact nN hc c (by omega) (by omega) (by omega) i fun k p2 a2 b2 c2 d2 e2 g2=>h k p2 (a2.trans a) (b2.trans b) c2 d2 e2 g2
theorem o5 (hc:og key N s cmp){p:Array Nat}{m:Nat}(hp:tY N p)(h1:1≤m)(hz:m≤p.size){Q:Nat×Array Nat→Shared→Prop}
  (h:∀k p',p'.size=p.size→p'.Perm p→tY N p'→1≤k→k≤m→up key p' k→Q (k,p') s):(kas_count m p).kasWp cmp Q s:=by
 unfold kas_count;rw[KasT.kasWp_bind];refine pw hc hp _ 1 (Nat.le_refl _) (fun k hk=>absurd hk (by omega)) fun n a b c d=>?_
 by_cases e:n=m
 ·rw[if_pos (by simp[e])];exact h n p rfl (Array.Perm.refl _) hp a (by omega) c
 ·rw[if_neg (by simp[e])];have lt:=d (by omega)
  by_cases z:n>1
  ·rw[if_pos z];refine hc _ _ _ (hp _) (hp _) ?_
   by_cases t:kp key p 0<kp key p (n-1)
   ·rw[decide_eq_true (show key (p.getD 0 0)<key (p.getD (n-1) 0) from t)];dsimp only;rw[if_pos rfl];exact h n p rfl (Array.Perm.refl _) hp a (by omega) c
   ·rw[decide_eq_false (show¬key (p.getD 0 0)<key (p.getD (n-1) 0) from t)];dsimp only;rw[if_neg (by simp)];have al:∀k,0≤k→k<n→kp key p k=kp key p (n-1):=fun k _ hk=>by
     have x:=u6 c (show 0≤k by omega) hk;have y:=u6 c (show k≤n-1 by omega) (by omega);omega
    have sm:=kO (key:=key) (p:=p) (i:=0) (j:=n) (by omega) al;refine jK hc (kr (by omega) hp) (by omega) (by rw[kas_rev_size];omega) (fun k hk=>?_) fun k p2 a2 b2 c2 d2 e2 g2=>h k p2 (a2.trans (kas_rev_size ..)) (b2.trans (mirror_perm ..)) c2 d2 e2 g2
    rw[sm,sm]
    by_cases w:k+1<n
    ·rw[al k (by omega) (by omega),al (k+1) (by omega) w];exact Int.le_refl _
    ·have:k=n-1:=by omega
     subst this;rw[show n-1+1=n by omega];omega
  ·rw[if_neg z];have e1:n=1:=by omega
   subst e1;refine jK hc hp (by omega) hz (fun k hk=>?_) h;have:k=0:=by omega
   subst this;exact Int.le_of_lt lt
end
end DL
namespace DL
open PySem PySem.Spec PyProof.Rows L2 List
end DL
namespace DL
open PySem PySem.Spec PyProof.Rows PySem.W L2 List
end DL
namespace DL
open PySem PySem.Spec PyProof.Rows L2 List
def GF (xs ys:List D):List D:=xs.zipWith (fun x y=>D.tup [x,y]) ys
end DL
namespace DL
open PySem PySem.Spec PyProof.Rows L2 List
open AutoSeq1 (wpAny_loadPart')
def HX (ds:List D)(M:ax):aI jY:=match ds with
 | [.lst xs,.lst ys]=>if xs.length=ys.length then .ok ⟨DB (GF xs ys),none⟩ M else .bad
 | _=>.bad
def l6 (d:D)(M:ax):D:=match fH d M with
 | .lst xs=>.lst (xs.map fun x=>fH x M)
 | d=>d
def uJ (neg:Bool):F2:=fun x y M=>if bO 40 (l6 x M)&&bO 40 (l6 y M) then .ok (.bl (mx (l6 x M) (l6 y M) != neg)) M else .bad
section
variable {X:Cx}
theorem iz {ae:List (Addr×Obj)}{s:Shared}{σ:L2.St}{H:Hp}{θ:List Addr}{M:ax}(I:Inv X ae σ H s)(hw:Wr X.K θ H M):∀(ds:List D) (n:Nat) (vs:List V) (us:List Value),aY n (ds.map fun x=>fH x M)=true→aU X.K θ H ds vs→aP vs us→∃as,ReadsAll s.heap us (je (ds.map fun x=>fH x M)) as
 | [],n,vs,us,h,r,q=>by have e:vs=[]:=r;subst e;cases q;exact⟨_,.nil⟩
 | d::ds,n,vs,us,h,r,q=>by
  have h:=Bool.and_eq_true_iff.mp (show(bO n (fH d M)&&aY n (ds.map fun x=>fH x M))=true from h);obtain⟨v,rr,e,r1,r2⟩:=r;subst e;cases q with
  | cons q1 q2=>
   obtain⟨as,R1⟩:=fv I hw h.1 r1 q1;obtain⟨bs,R2⟩:=iz I hw ds n rr _ h.2 r2 q2;exact⟨_,.cons R1 R2⟩
theorem mB {ae:List (Addr×Obj)}{s:Shared}{σ:L2.St}{H:Hp}{θ:List Addr}{M:ax}(I:Inv X ae σ H s)(hw:Wr X.K θ H M){d:D}{n:Nat}{v:V}{u:Value}(h:bO n (l6 d M)=true)(r:cQ X.K θ H d v)(q:aW v u):∃as,Reads s.heap u (jL (l6 d M)) as:=by
 cases d with
 | mr k=>
  obtain⟨a,e,ta⟩:=r;subst e;cases q;cases qm:M[k]? with
  | none=>
   have e:l6 (.mr k) M=.mr k:=by simp[l6,fH,qm]
   rw[e] at h;cases n <;> exact ff h
  | some m=>
   cases m with
   | lst xs=>
    have e:l6 (.mr k) M=.lst (xs.map fun x=>fH x M):=by simp[l6,fH,qm]
    rw[e] at h ⊢;cases n with
    | zero=>exact ff h
    | succ n=>
     obtain⟨vs,hv,ra⟩:=hw.at_ k a _ ta qm;obtain⟨its,rv,⟨o,m,h1,h2,_,h3⟩,_⟩:=I.list (X:=X) (xs:=vs) (.inl (.inl hv));obtain⟨as,R⟩:=iz I hw xs n vs its h ra rv;exact⟨_,.list h1 h2 h3 (by simpa using R)⟩
   | _=>
    have e:l6 (.mr k) M=.mr k:=by simp[l6,fH,qm]
    rw[e] at h;cases n <;> exact ff h
 | lst xs=>
  have e:l6 (.lst xs) M=.lst (xs.map fun x=>fH x M):=rfl;rw[e] at h ⊢;cases n with
  | zero=>exact ff h
  | succ n=>
   obtain⟨a,vs,e,ta,ra⟩:=r;subst e;cases q;obtain⟨its,rv,⟨o,m,h1,h2,_,h3⟩,_⟩:=I.list (ta.sq (K:=X.K));obtain⟨as,R⟩:=iz I hw xs n vs its h ra rv;exact⟨_,.list h1 h2 h3 (by simpa using R)⟩
 | _=>exact kx I _ n v u h r q
theorem BI (hu:X.A.units+64<cLine):eL X (compareOp .NotEq) (rD X (uJ true)):=by
 intro ae s σ H x y v u Q I rx ry h;obtain⟨θ,M,dx,dy,hw,r1,r2,h⟩:=h;unfold uJ at h;split at h
 ·rename_i hc;rw[Bool.and_eq_true] at hc;obtain⟨as,R1⟩:=mB I hw hc.1 r1 rx;obtain⟨bs,R2⟩:=mB I hw hc.2 r2 ry;have l1:=fZ _ _ hc.1;have l2:=fZ _ _ hc.2;refine SeqAt.compareNe_reads R1 R2 l1.1 l2.1 (by have:=l1.2;have:min (jL (l6 dx M)).depth (jL (l6 dy M)).depth≤(jL (l6 dx M)).depth:=Nat.min_le_left _ _;omega) ?_;rw[j9 _ _ _ _ hc.1 hc.2];refine⟨.bl _,H,I,rfl,?_⟩;have:=h _ θ H (.refl hw) rfl;rw[Bool.bne_true] at this;exact this
 ·exact h.elim
theorem E4 {k:Nat}(hr:bW k X.A):Q2 X (compareOp .NotEq) (uJ true):=⟨BI hr.units⟩
end
end DL
namespace DL
open PySem PySem.Spec PyProof.Rows L2 List
section
variable {X:Cx}
def Fg:V→V→Hp→VK→Prop:=fun x y H Q=>∃l k xs,x=.ref l∧y=.int k∧H l=some (.lst xs)∧0≤k∧k≤100000∧xs.length*k.toNat≤100000∧∀p,H p=none→Q (.ref p) (cw H p (.lst (List.replicate k.toNat xs).flatten))
theorem oS {α:Type}:∀k:Nat,(List.replicate k ([]:List α)).flatten=[]
 | 0=>rfl
 | k+1=>by rw[replicate_succ,flatten_cons,oS k];rfl
theorem qV:eL X (binaryOp .Mult) Fg:=by
 intro ae s σ H x y v u Q I rx ry h;obtain⟨l,k,xs,rfl,rfl,hH,h1,h2,hz,q⟩:=h;cases rx;obtain⟨t,rfl⟩:=ry;obtain⟨its,r,pl,z⟩:=I.list (.inl (.inl hH));have hl:=r.length;obtain⟨n,e⟩:∃n,s.heap.get? l=some {cls:=.type "list",dict:=none,data:=.seq its.toArray n,slots:=#[]}:=by
  have:=I.hok l _ hH;obtain⟨_,its',n,r',e⟩:=this;have:its=its':=by
   obtain⟨o,e1,_,m,e2⟩:=pl.isList;rw[e] at e1;cases e1;cases e2;rfl
  subst this;exact⟨n,e⟩
 have hnew:List.foldl (fun x1 x2=>x1++x2) #[] (List.replicate (if its.toArray.isEmpty=true then 0 else k.toNat) its.toArray)=(List.replicate k.toNat its).flatten.toArray:=by
  cases its with
  | nil=>
   rw[oS];rfl
  | cons a b=>
   have:=mh (a::b) k.toNat [];rw[nil_append] at this;exact this
 have fl:(List.replicate k.toNat its).flatten.length≤100000:=by rw[rN,←hl,Nat.mul_comm];exact hz
 have hsz:its.toArray.size*k.toNat≤100000:=by rw[size_toArray,←hl];exact hz
 refine wpAny_binaryOp_repeat_ref (T:="list") (U:="int") (by decide) ⟨_,e,rfl⟩ (fun s'=>typeIs_int s' k t) PySem.noFill_list_mul PySem.F.fills_int_mul PySem.F.slot_int_rmul PySem.repeat_list PySem.F.slot_int_index.lookup
  (call_meets PySem.F.slot_int_rmul (typeIs_int s k t) PySem.F.entry_int_rmul (PySem.F.args_int_rmul_2 _ _) (PySem.int___rmul___int_list k t l its.toArray n)
   ⟨e,rfl,⟨_,e,rfl⟩,call_meets PySem.F.slot_list_mul ⟨_,e,rfl⟩ PySem.F.entry_list_mul (PySem.F.args_list_mul_2 _ _) (AutoListH.list___mul___list_int_3 l its.toArray n k t
    (by unfold Builtin.List.listFitsIndex;simp;omega) (by omega) (by intro hh;unfold Builtin.List.listTooLong at hh;have hh:=of_decide_eq_true hh;rw[sizeLine_eq] at hh;omega)) ⟨e,?_⟩⟩)
 rw[hnew];refine⟨.ref _,_,I.laid (t':=s.toks) (fun _ _ q=>Heap.get?_push_of_some _ q) (Nat.le_refl _) (show cg X.prog X.w _ _ _ (.lst (List.replicate k.toNat xs).flatten) from ?_),rfl,q _ I.fresh⟩;exact⟨by rw[rN,Nat.mul_comm];exact ba (by omega),_,0,r.rep k.toNat,Heap.get?_push_size _ rfl⟩
def lq:F2:=fun x y M=>match gq x M,y with
 | some xs,.int k=>if 0≤k∧k≤100000∧xs.length*k.toNat≤100000 then .ok (.lst (List.replicate k.toNat xs).flatten) M else .bad
 | _,_=>.bad
def lF:F2:=fun x y M=>match gq x M,y with
 | some xs,.int k=>if 0≤k∧k≤100000∧xs.length*k.toNat≤100000 then .ok (.mr M.length) (M++[.lst (List.replicate k.toNat xs).flatten]) else .bad
 | _,_=>.bad
theorem zw:eL X (binaryOp .Mult) (rD X lq):=by
 intro ae s σ H x y v u Q I rx ry h;obtain⟨θ,M,dx,dy,hw,r1,r2,h⟩:=h;unfold lq at h;split at h
 ·rename_i xs k q1;split at h
  ·rename_i hc;obtain⟨a,vs,ea,ta,ra⟩:=kz hw r1 q1;have hl:=ar ra;exact qV ae s σ H x y v u Q I rx ry ⟨a,k,vs,ea,r2,ta,hc.1,hc.2.1,by rw[←hl];exact hc.2.2,fun p hp=>h _ θ _ (dJ hw hp) (eU hw hp (kY ra _))⟩
  ·exact h.elim
 ·exact h.elim
theorem yF:eL X (binaryOp .Mult) (rD X lF):=by
 intro ae s σ H x y v u Q I rx ry h;obtain⟨θ,M,dx,dy,hw,r1,r2,h⟩:=h;unfold lF at h;split at h
 ·rename_i xs k q1;split at h
  ·rename_i hc;obtain⟨a,vs,ea,ta,ra⟩:=kz hw r1 q1;have hl:=ar ra;exact qV ae s σ H x y v u Q I rx ry ⟨a,k,vs,ea,r2,ta,hc.1,hc.2.1,by rw[←hl];exact hc.2.2,fun p hp=>h _ _ _ (qF hw hp (kY ra _)) (ol hw)⟩
  ·exact h.elim
 ·exact h.elim
theorem An:Q2 X (binaryOp .Mult) lq:=⟨zw⟩
theorem BB:Q2 X (binaryOp .Mult) lF:=⟨yF⟩
end
end DL
namespace DL
open PySem PySem.Spec PyProof.Rows L2 List
def ox:D→Bool
 | .int _=>true
 | .str _=>true
 | _=>false
def nr:List D→List D→Option Bool
 | [],[]=>some false
 | [],_::_=>some true
 | _::_,[]=>some false
 | .int a::r,.int b::q=>if a=b then nr r q else some (decide (a<b))
 | .str a::r,.str b::q=>if a=b then nr r q else some (decide (a.cps.toList<b.cps.toList))
 | _::_,_::_=>none
def De:D→D→Option Bool
 | .int a,.int b=>some (decide (a<b))
 | .str a,.str b=>some (decide (a.cps.toList<b.cps.toList))
 | .tup a,.tup b=>if a.all ox&&b.all ox then nr a b else none
 | _,_=>none
inductive qK:List Value→List D→Prop
 | nil:qK [] []
 | int (a:Int) (t:Tok) {vs:List Value} {ds:List D} (h:qK vs ds):qK (.int a t::vs) (.int a::ds)
 | str (a:Str) (t:Tok) {vs:List Value} {ds:List D} (h:qK vs ds):qK (.str a t::vs) (.str a::ds)
theorem qK.length:∀{vs:List Value} {ds:List D},qK vs ds→vs.length=ds.length
 | _,_,.nil=>rfl
 | _,_,.int _ _ h=>by rw[length_cons,length_cons,h.length]
 | _,_,.str _ _ h=>by rw[length_cons,length_cons,h.length]
theorem qx {K:W.Frag}{θ:List Addr}{H:Hp}:∀{ds:List D} {vs:List V} {us:List Value},ds.all ox=true→aU K θ H ds vs→aP vs us→qK us ds
 | [],_,_,_,r,q=>by
  have r:_=[]:=r;subst r;cases q;exact .nil
 | d::ds,_,_,h,r,q=>by
  obtain⟨v,r',rfl,rv,rr⟩:=r;rw[all_cons,Bool.and_eq_true] at h;cases q with
  | cons ru q=>
   have ih:=qx h.2 rr q;cases d with
   | int i=>
    have rv:v=.int i:=rv;subst rv;obtain⟨t,rfl⟩:=ru;exact .int i t ih
   | str i=>
    have rv:v=.str i:=rv;subst rv;obtain⟨t,rfl⟩:=ru;exact .str i t ih
   | _=>cases h.1
section
open PySem.SeqAt
open PySem.AutoSeq1 (wpAny_loadPart')
open PySem.MeetsSeq PySem.MeetsSeq2 PySem.MeetsSeq3
theorem nk (l b:Addr)(items items2:Array Value)(n n2:Nat)(dd dd2:Option Addr)(sl sl2:Array (Option Value))(ds es:List D)(r:Bool)(hi:qK items.toList ds)(hj:qK items2.toList es)(hx:nr ds es=some r) :
  Meets (Builtin.«tuple.__lt__» ⟨[.ref l,.ref b],[]⟩)
   (fun _ R s=>s.heap.get? l=some {cls:=.type "tuple",dict:=dd,data:=.seq items n,slots:=sl}∧s.heap.get? b=some {cls:=.type "tuple",dict:=dd2,data:=.seq items2 n2,slots:=sl2}∧
    R (.ok (.ret (.bool r))) s):=
 .of_wp fun prog w A R s h=>by
  obtain⟨hp,g,d,tk,os⟩:=s;obtain⟨hl,hb,h⟩:=h;have f2:=AutoSeq1.sub_tuple_tuple;have z1:items.size=ds.length:=by rw[←hi.length];simp
  have z2:items2.size=es.length:=by rw[←hj.length];simp
  wp_walk using wpAny_loadPart' hl,wpAny_loadPart' hb,wpAny_forIn_list _ (fun au b s'=>b.1=none∧s'=⟨hp,g,d,tk,os⟩∧∃(vs ws:List Value) (ds' es':List D),au=vs.zip ws∧
   qK vs ds'∧qK ws es'∧ds'.length+items2.size=es'.length+items.size∧nr ds' es'=some r) _
  case turn=>
   rintro ⟨y,x⟩ au b s' ⟨hb',rfl,vs,ws,ds',es',hz,hvi,hwi,hlen,hR⟩;cases hvi with
   | nil=>rw[zip_nil_left] at hz;cases hz
   | int a t hvi'=>
    cases hwi with
    | nil=>rw[zip_nil_right] at hz;cases hz
    | str c u hwi'=>cases hR
    | int c u hwi'=>
     rw[zip_cons_cons] at hz;injection hz with hyx hrest
     injection hyx with hy hx
     subst hy hx;unfold nr at hR;simp only[length_cons] at hlen;refine wpAny_bind (wpAny_eqBool_int ?_)
     by_cases q:a=c
     ·rw[if_pos q] at hR;rw[show(a==c)=true by simp[q]]
      wp_walk
      exact⟨rfl,rfl,_,_,_,_,hrest,hvi',hwi',by omega,hR⟩
     ·rw[if_neg q] at hR;rw[show(a==c)=false by simp[q]];have hri:=HT.rcLt_int A.in1 ⟨hp,g,d,tk,os⟩ a t c u prog w;injection hR with hR
      wp_walk using hri
      exact⟨_,rfl,by simpa[hR] using h⟩
   | str a t hvi'=>
    cases hwi with
    | nil=>rw[zip_nil_right] at hz;cases hz
    | int c u hwi'=>cases hR
    | str c u hwi'=>
     rw[zip_cons_cons] at hz;injection hz with hyx hrest
     injection hyx with hy hx
     subst hy hx;unfold nr at hR;simp only[length_cons] at hlen;refine wpAny_bind (wpAny_eqBool_str ?_)
     by_cases q:a=c
     ·rw[if_pos q] at hR;rw[decide_eq_true q]
      wp_walk
      exact⟨rfl,rfl,_,_,_,_,hrest,hvi',hwi',by omega,hR⟩
     ·rw[if_neg q] at hR;rw[decide_eq_false q];have hri:∀(E:Value→Shared→Prop) (Q:Value→Shared→Prop),Q (.bool (decide (a.cps.toList<c.cps.toList))) ⟨hp,g,d,tk,os⟩→wpAny (model prog w) A.in1 (richCompare .Lt (.str a t) (.str c u)) Q E ⟨hp,g,d,tk,os⟩:=fun E Q hQ=>(PyProof.Rows.lt_str hQ:wpAny (model prog w) A.in1 (compareOp .Lt (.str a t) (.str c u)) Q E _)
      injection hR with hR
      wp_walk using hri
      subst hR;exact⟨_,rfl,h⟩
  case fin=>
   rintro ⟨b1,b2⟩ s' ⟨hb',rfl,vs,ws,ds',es',hz,hvi,hwi,hlen,hR⟩;simp only at hb';subst hb';have hv:r=decide (items.size<items2.size):=by
    cases hvi with
    | nil=>
     cases hwi with
     | nil=>
      simp only[length_nil] at hlen;cases hR;exact(decide_eq_false (by omega)).symm
     | int c u hw=>
      simp only[length_nil,length_cons] at hlen;cases hR;exact(decide_eq_true (by omega)).symm
     | str c u hw=>
      simp only[length_nil,length_cons] at hlen;cases hR;exact(decide_eq_true (by omega)).symm
    | int a t hv=>
     cases hwi with
     | nil=>
      simp only[length_nil,length_cons] at hlen;cases hR;exact(decide_eq_false (by omega)).symm
     | int c u hw=>rw[zip_cons_cons] at hz;cases hz
     | str c u hw=>rw[zip_cons_cons] at hz;cases hz
    | str a t hv=>
     cases hwi with
     | nil=>
      simp only[length_nil,length_cons] at hlen;cases hR;exact(decide_eq_false (by omega)).symm
     | int c u hw=>rw[zip_cons_cons] at hz;cases hz
     | str c u hw=>rw[zip_cons_cons] at hz;cases hz
   rw[hv] at h
   wp_walk
   exact⟨_,rfl,by simpa[Builtin.Tuple.tupleCompareSizes] using h⟩
  case h=>
   exact⟨rfl,rfl,items.toList,items2.toList,ds,es,rfl,hi,hj,by omega,hx⟩
end
theorem tK {prog:Program}{w:World}{A:Around}{E:Value→Shared→Prop}{s:Shared}{l b:Addr}{items items2:Array Value}{ds es:List D}{r:Bool}{Q:Value→Shared→Prop}(hl:IsTup s.heap l items)(hb:IsTup s.heap b items2)(hi:qK items.toList ds)(hj:qK items2.toList es)(hx:nr ds es=some r)
  (hu:A.units<cLine) (h:Q (.bool r) s):wpAny (model prog w) A (compareOp .Lt (.ref l) (.ref b)) Q E s:=by
 obtain⟨⟨cls,dd,data,sl⟩,ho,hc,n,hd⟩:=id hl;obtain⟨⟨cls2,dd2,data2,sl2⟩,ho2,hc2,n2,hd2⟩:=id hb;simp only at hc hd hc2 hd2;subst hc hd hc2 hd2;exact richCompare_meets_room (op:=.Lt) ⟨_,ho,rfl⟩ ⟨_,ho2,rfl⟩ PySem.F.slot_tuple_lt PySem.F.entry_tuple_lt (PySem.F.args_tuple_lt_2 _ _) (nk l b items items2 n n2 dd dd2 sl sl2 ds es r hi hj hx)
  ⟨ho,ho2,show Value.bool r≠Value.notImplemented∧Q (.bool r) s from⟨(fun x=>nomatch x),h⟩⟩ hu
def b0:List D→D→Option D
 | [],b=>some b
 | a::r,b=>match De a b with
  | some true=>b0 r a
  | some false=>b0 r b
  | none=>none
def v4:List D→Option D
 | a::r=>b0 r a
 | _=>none
theorem Co {X:Cx}{ae:List (Addr×Obj)}{σ:L2.St}{θ:List Addr}{H:Hp}{a b:D}{va vb:V}{ua ub:Value}{r:Bool}{A:Around}{s:Shared}{prog:Program}{w:World}{E:Value→Shared→Prop}{Q:Value→Shared→Prop}
  (I:L2.Inv X ae σ H s) (hu:A.units<cLine) (h:De a b=some r) (ra:cQ X.K θ H a va) (rb:cQ X.K θ H b vb) (rua:aW va ua) (rub:aW vb ub) (q:Q (.bool r) s):wpAny (model prog w) A (richCompare .Lt ua ub) Q E s:=by
 cases a with
 | int x=>
  cases b with
  | int y=>
   cases h;have e1:va=.int x:=ra;have e2:vb=.int y:=rb;subst e1 e2;obtain⟨t,rfl⟩:=rua;obtain⟨t',rfl⟩:=rub;exact HT.rcLt_int _ _ _ _ _ _ _ _ _ _ q
  | _=>cases h
 | str x=>
  cases b with
  | str y=>
   cases h;have e1:va=.str x:=ra;have e2:vb=.str y:=rb;subst e1 e2;obtain⟨t,rfl⟩:=rua;obtain⟨t',rfl⟩:=rub;exact(PyProof.Rows.lt_str q:wpAny (model prog w) A (compareOp .Lt (.str x t) (.str y t')) Q E s)
  | _=>cases h
 | tup xs=>
  cases b with
  | tup ys=>
   have h:(if xs.all ox&&ys.all ox then nr xs ys else none)=some r:=h;split at h
   ·rename_i hc;rw[Bool.and_eq_true] at hc;obtain⟨la,vs,rfl,ta,rs⟩:=ra;obtain⟨lb,ws,rfl,tb,rt⟩:=rb;have e1:ua=.ref la:=rua;have e2:ub=.ref lb:=rub;subst e1 e2;obtain⟨i1,r1,p1,_⟩:=I.tuple ta.sq;obtain⟨i2,r2,p2,_⟩:=I.tuple tb.sq;exact(tK p1 p2 (qx hc.1 rs r1) (qx hc.2 rt r2) h hu q:wpAny (model prog w) A (compareOp .Lt (.ref la) (.ref lb)) Q E s)
   ·cases h
  | _=>cases h
 | _=>cases h
theorem tQ (a:Value):argsOk "min" ⟨[a],[]⟩:=by unfold argsOk;kernel_rfl
section
variable {X:Cx}{ae:List (Addr×Obj)}{σ:L2.St}
theorem tL {l it S:Addr}{ds0:List D}{vs:List V}{Q:VK}{R:Result→Shared→Prop}{H:Hp}{θ:List Addr}{M:ax}{db:D}{k:Nat}
  (hr:bW (k+1) X.A) (hcalm:X.calm=true) (hw:Wr X.K θ H M) (ta:jn X.K H l vs) (r:aU X.K θ H ds0 vs)
  (hnI:S≠it) (hR:∀u s',EP X ae σ Q u s'→R (.ok (.ret u)) s') (fi:iB X ae H it) (fS:iB X ae H S) (hQ:∀v,cQ X.K θ H db v→Q v H) :
  ∀(au:List D) (j:Nat) (s:Shared) (b:D) (vb:V) (ub:Value) (n:Nat),ds0.drop j=au→L2.Inv X ae σ H s→s.heap.IsListIter it l j→s.heap.get? S=some (seqObj "list" #[ub,ub] n)→
   cQ X.K θ H b vb→aW vb ub→b0 au b=some db→
   codeAny (model X.prog X.w) X.A (.builtin "min.loop" ⟨[.ref it,.none,.ref S],[]⟩) R s:=by
 have hname:(toString "min"++toString ".loop":String)="min.loop":=by decide
 have hr1:bW k X.A.in1:=hr.in1;intro au
 induction au with
 | nil=>
  intro j s b vb ub n hd I st eS rb rvb h;refine codeAny_builtin PySem.F.entry_min_loop ?_;rw[Around.under_plainId PySem.F.plain_min_loop _];show wpAny _ X.A.in1 (seqItems? (.ref S) >>= _) _ _ _;refine wpAny_bind (wpAny_seqItems eS rfl ?_);obtain⟨its,rv,p,hz⟩:=I.list ta;have hlen:vs.length≤j:=by rw[←ar r];exact drop_eq_nil_iff.mp hd
  have hl:=rv.length;show wpAny _ X.A.in1 (tryCatch (pyNext (.ref it)) _ >>= _) _ _ _;refine wpAny_bind (wpAny_tryCatch (wpAny_pyNext_list_end (show X.A.in1.handled=none from I.ok.hd hcalm) st p.isList (by simp;omega) fun h' eb=>?_));have I1:L2.Inv X ae σ H {s with heap:=h'}:=I.turned (t':=s.toks) (fun b o hb e=>eb b o hb e) fi.1 fi.2.1 fi.2.2.2.1 fi.2.2.2.2.1 fi.2.2.2.2.2;have eS':h'.get? S=some (seqObj "list" #[ub,ub] n):=eb S _ hnI eS;show wpAny _ X.A.in1 (updateSeq S (fun _=>#[]) >>= _) _ _ _;refine wpAny_bind (wpAny_updateSeq eS' rfl (wpAny_bind (wpAny_letGo (wpAny_pure ?_))));have I2:L2.Inv X ae σ H {s with heap:=h'.update S (Obj.mapSeq fun _=>#[])}:=I1.turned (t':=s.toks) (fun b o hb e=>(Heap.get?_update_other h' _ (Ne.symm hb)).trans e) fS.1 fS.2.1 fS.2.2.2.1 fS.2.2.2.2.1 fS.2.2.2.2.2;have h:some b=some db:=h;cases h;exact hR ub _ ⟨vb,H,I2,rvb,hQ vb rb⟩
 | cons d au ih=>
  intro j s b vb ub n hd I st eS rb rvb h;have hj:ds0[j]?=some d:=by
   have:=congrArg (·[0]?) hd;simpa using this
  have hd':ds0.drop (j+1)=au:=by
   rw[←drop_drop,hd];rfl
  obtain⟨v,ev,rdv⟩:=dH r hj;refine codeAny_builtin PySem.F.entry_min_loop ?_;rw[Around.under_plainId PySem.F.plain_min_loop _];show wpAny _ X.A.in1 (seqItems? (.ref S) >>= _) _ _ _;refine wpAny_bind (wpAny_seqItems eS rfl ?_);obtain⟨its,rv,p,hz⟩:=I.list ta;obtain⟨u,eu,ru⟩:=rv.get ev;show wpAny _ X.A.in1 (tryCatch (pyNext (.ref it)) _ >>= _) _ _ _;refine wpAny_bind (wpAny_tryCatch (wpAny_pyNext_list_item st p.isList (x:=u) (by simpa using eu) fun h' st' sb=>?_));have I1:L2.Inv X ae σ H {s with heap:=h'}:=I.turned (t':=s.toks) (fun b o hb e=>(sb.2 b hb).trans e) fi.1 fi.2.1 fi.2.2.2.1 fi.2.2.2.2.1 fi.2.2.2.2.2;have eS1:h'.get? S=some (seqObj "list" #[ub,ub] n):=(sb.2 S hnI).trans eS;have h:(match De d b with|some true=>b0 au d|some false=>b0 au b|none=>none)=some db:=h;cases q:De d b with
  | none=>rw[q] at h;cases h
  | some r0=>
   rw[q] at h;refine wpAny_bind (wpAny_pure ?_);show wpAny _ X.A.in1 (tryCatch (holding [u,u] (richCompare .Lt u ub >>= _)) _ >>= _) _ _ _;refine wpAny_bind (wpAny_tryCatch (wpAny_holding (wpAny_bind (Co I1 hr1.units0 q rdv rb ru rvb ?_))));refine wpAny_bind (wpAny_holding (wpAny_truthy_bool ?_));refine wpAny_bind (wpAny_letGo (wpAny_pure ?_));cases r0 with
   | true=>
    simp only[if_true];refine wpAny_bind (wpAny_updateSeq eS1 rfl (wpAny_bind (wpAny_letGo ?_)));rw[hname];obtain⟨n3,eS3⟩:∃n3,(h'.update S (Obj.mapSeq fun _=>#[u,u])).get? S=some (seqObj "list" #[u,u] n3):=⟨_,get?_update_seq eS1 fun _=>#[u,u]⟩;have kp:∀b o,b≠S→h'.get? b=some o→(h'.update S (Obj.mapSeq fun _=>#[u,u])).get? b=some o:=fun b o hb e=>(Heap.get?_update_other h' _ (Ne.symm hb)).trans e
    have I3:L2.Inv X ae σ H {s with heap:=h'.update S (Obj.mapSeq fun _=>#[u,u])}:=I1.turned (t':=s.toks) kp fS.1 fS.2.1 fS.2.2.2.1 fS.2.2.2.2.1 fS.2.2.2.2.2;obtain⟨oI,hoI,cI,dI⟩:=id st';exact wpAny_pure ⟨plainId_quiet PySem.F.plain_min_loop _,ih (j+1) _ d _ u n3 hd' I3 ⟨oI,kp it oI (Ne.symm hnI) hoI,cI,dI⟩ eS3 rdv ru h⟩
   | false=>
    simp only[Bool.false_eq_true,if_false];refine wpAny_bind (wpAny_letGo ?_);rw[hname];exact wpAny_pure ⟨plainId_quiet PySem.F.plain_min_loop _,ih (j+1) _ b _ ub n hd' I1 st' eS1 rb rvb h⟩
theorem uH {l:Addr}{ds0:List D}{vs:List V}{Q:VK}{H:Hp}{θ:List Addr}{M:ax}{db:D}{k:Nat}{s:Shared}
  (hr:bW (k+1) X.A) (hcalm:X.calm=true) (I:L2.Inv X ae σ H s) (hw:Wr X.K θ H M) (ta:jn X.K H l vs) (r:aU X.K θ H ds0 vs) (h:v4 ds0=some db) (hQ:∀v,cQ X.K θ H db v→Q v H) :
  wpAny (model X.prog X.w) X.A (call (.builtin "min") [.ref l] []) (EP X ae σ Q) X.xe s:=by
 have hname:(toString "min"++toString ".loop":String)="min.loop":=by decide
 cases ds0 with
 | nil=>cases h
 | cons d au=>
   have h:b0 au d=some db:=h;obtain⟨v,ev,rdv⟩:=dH (i:=0) r rfl;obtain⟨its,rv,p,hz⟩:=I.list ta;refine kmk_tree PySem.F.kind_min PySem.F.plain_min PySem.F.entry_min (tQ _) ?_;show wpAny _ X.A.in1 (Builtin.Builtins.bindParams "min" ["key","default"] 0 ⟨[],[]⟩ >>= _) _ _ s;refine wpAny_bind (wpAny_of_eq (show Builtin.Builtins.bindParams "min" ["key","default"] 0 ⟨[],[]⟩=pure [none,none] from rfl) ?_);refine wpAny_bind (wpAny_pure ?_);refine wpAny_bind (wpAny_pyIter_list p.isList ?_);refine wpAny_bind (wpAny_newList ?_ (Nat.zero_le _));rw[hname];have hS:(s.heap.push {cls:=.type "list_iterator",data:=.fields #[.ref l,.int 0 0]}).objs.size=s.heap.objs.size+1:=size_push' ..;have fi:iB X ae H s.heap.objs.size:=I.fpOk (Nat.le_refl _) (I.hok.fresh (Nat.le_refl _));have leS:s.heap.objs.size≤(s.heap.push {cls:=.type "list_iterator",data:=.fields #[.ref l,.int 0 0]}).objs.size:=by rw[hS];exact Nat.le_succ _
   have fS:iB X ae H (s.heap.push {cls:=.type "list_iterator",data:=.fields #[.ref l,.int 0 0]}).objs.size:=I.fpOk leS (I.hok.fresh leS);have hnI:(s.heap.push {cls:=.type "list_iterator",data:=.fields #[.ref l,.int 0 0]}).objs.size≠s.heap.objs.size:=by rw[hS];exact Nat.ne_of_gt (Nat.lt_succ_self _)
   have gI:((s.heap.push {cls:=.type "list_iterator",data:=.fields #[.ref l,.int 0 0]}).push (seqObj "list" #[] 0)).get? s.heap.objs.size=some {cls:=.type "list_iterator",data:=.fields #[.ref l,.int 0 0]}:=Heap.get?_push_of_some _ (Heap.get?_push_size _ rfl);have gS:((s.heap.push {cls:=.type "list_iterator",data:=.fields #[.ref l,.int 0 0]}).push (seqObj "list" #[] 0)).get? (s.heap.push {cls:=.type "list_iterator",data:=.fields #[.ref l,.int 0 0]}).objs.size=some (seqObj "list" #[] 0):=Heap.get?_push_size _ rfl;have I0:L2.Inv X ae σ H {s with heap:=(s.heap.push {cls:=.type "list_iterator",data:=.fields #[.ref l,.int 0 0]}).push (seqObj "list" #[] 0)}:=I.kept (t':=s.toks) fun b o e=>Heap.get?_push_of_some _ (Heap.get?_push_of_some _ e)
   generalize (s.heap.push {cls:=.type "list_iterator",data:=.fields #[.ref l,.int 0 0]}).objs.size=S at *;generalize hit:s.heap.objs.size=it at *;refine wpAny_pure ⟨plainId_quiet PySem.F.plain_min_loop _,?_⟩;refine codeAny_builtin PySem.F.entry_min_loop ?_;rw[Around.under_plainId PySem.F.plain_min_loop _];show wpAny _ X.A.in1 (seqItems? (.ref S) >>= _) _ _ _;refine wpAny_bind (wpAny_seqItems gS rfl ?_);obtain⟨its',rv',p',hz'⟩:=I0.list ta;obtain⟨u',eu',ru'⟩:=rv'.get ev;show wpAny _ X.A.in1 (tryCatch (pyNext (.ref it)) _ >>= _) _ _ _;refine wpAny_bind (wpAny_tryCatch (wpAny_pyNext_list_item (i:=0) ⟨_,gI,rfl,rfl⟩ p'.isList (x:=u') (by simpa using eu') fun h' st' sb=>?_));have I1:L2.Inv X ae σ H {s with heap:=h'}:=I0.turned (t':=s.toks) (fun b o hb e=>(sb.2 b hb).trans e) fi.1 fi.2.1 fi.2.2.2.1 fi.2.2.2.2.1 fi.2.2.2.2.2;have eS1:h'.get? S=some (seqObj "list" #[] 0):=(sb.2 S hnI).trans gS;obtain⟨oI,hoI,cI,dI⟩:=id st';refine wpAny_bind (wpAny_pure ?_);refine wpAny_bind ?_;show wpAny _ X.A.in1 (updateSeq S (fun _=>#[u',u'])) _ _ _;refine wpAny_updateSeq eS1 rfl ?_;rw[hname];obtain⟨n3,eS3⟩:∃n3,(h'.update S (Obj.mapSeq fun _=>#[u',u'])).get? S=some (seqObj "list" #[u',u'] n3):=⟨_,get?_update_seq eS1 fun _=>#[u',u']⟩;have kp:∀b o,b≠S→h'.get? b=some o→(h'.update S (Obj.mapSeq fun _=>#[u',u'])).get? b=some o:=fun b o hb e=>(Heap.get?_update_other h' _ (Ne.symm hb)).trans e
   have I3:L2.Inv X ae σ H {s with heap:=h'.update S (Obj.mapSeq fun _=>#[u',u'])}:=I1.turned (t':=s.toks) kp fS.1 fS.2.1 fS.2.2.2.1 fS.2.2.2.2.1 fS.2.2.2.2.2;exact wpAny_pure ⟨plainId_quiet PySem.F.plain_min_loop _,tL hr hcalm hw ta r hnI (fun u s' e=>e) fi fS hQ au 1 _ d v u' n3 rfl I3 ⟨oI,kp it oI (Ne.symm hnI) hoI,cI,dI⟩ eS3 rdv ru' h⟩
def gk:FD:=fun ds M=>match ds with
 | [x]=>match gq x M with
  | some xs=>match v4 xs with
   | some d=>.ok d M
   | none=>.bad
  | none=>.bad
 | _=>.bad
theorem yx {k:Nat}(hr:bW (k+1) X.A)(hc:X.calm=true):cA X (.builtin "min") (rC X gk):=by
 intro ae s σ H xs us Q I r h;obtain⟨θ,M,ds,hw,rd,h⟩:=h;unfold gk at h;split at h
 ·rename_i x;split at h
  ·rename_i ys em;split at h
   ·rename_i d q;obtain⟨v,rr,e,rx,er⟩:=rd;have er:rr=[]:=er;subst er e;obtain⟨a,vs,ea,ta,rs⟩:=kz hw rx em;subst ea;obtain⟨u,rfl,ru⟩:=jI r;have ru:u=.ref a:=ru;subst ru;exact uH hr hc I hw (.inl (.inl ta)) rs q fun v rv=>h v θ H (.refl hw) rv
   ·exact h.elim
  ·exact h.elim
 ·exact h.elim
theorem BA {k:Nat}(hr:bW (k+1) X.A)(hc:X.calm=true:=by rfl):QC X (.builtin "min") gk:=⟨yx hr hc⟩
end
section
variable {X:Cx}
def cW (z:Str)(lo hi:Option Int):Str:=⟨((z.cps.toList.drop (HT.sIx z.length 0 lo)).take (HT.sIx z.length z.length hi-HT.sIx z.length 0 lo)).toArray⟩
theorem qk (lo hi:Option Int)(n:Nat):Builtin.Str.strSliceIndices lo hi 1 n=(List.range (HT.sIx n n hi-HT.sIx n 0 lo)).map (HT.sIx n 0 lo+·):=by
 rw[←sliceRange_one];unfold Builtin.Str.strSliceIndices;have key:∀(o:Option Int) (d:Nat),(match o with|none=>(d:Int)|some i=>max 0 (min (if i<0 then i+(n:Int) else i) (n:Int)))=((HT.sIx n d o:Nat):Int):=by
  intro o d;cases o with
  | none=>rfl
  | some v=>
   show max 0 (min (if v<0 then v+(n:Int) else v) (n:Int))=(((if v<0 then(v+(n:Int)).toNat else min v.toNat n):Nat):Int)
   by_cases hv:v<0
   ·simp only[if_pos hv];omega
   ·simp only[if_neg hv];omega
 have h1:=key lo 0;have h2:=key hi n;simp only[show(1:Int)>0 by decide,if_true];rw[←h1,←h2];cases lo <;> cases hi <;> rfl
theorem lO (z:Str)(lo hi:Option Int):Txt.slice z lo hi=cW z lo hi:=by
 unfold Txt.slice cW;rw[qk,pick_run];split
 ·rename_i h;have h:(HT.sIx z.length z.length hi-HT.sIx z.length 0 lo==z.length)=true:=by simpa using h
  have h:=eq_of_beq h;have l1:=HT.sIx_le z.length z.length (Nat.le_refl _) hi
  by_cases h0:z.length=0
  ·have:z.cps.toList=[]:=length_eq_zero_iff.mp (by simpa[Str.length] using h0);cases z with
   | mk c=>simp only at this;simp[this];exact Array.toList_eq_nil_iff.mp this
  ·have e:HT.sIx z.length 0 lo=0:=by omega
   rw[e,Nat.sub_zero];have:HT.sIx z.length z.length hi=z.length:=by omega
   rw[this,drop_zero,take_of_length_le (by simp[Str.length])]
 ·rfl
def ik (d:D)(lo hi:Option Int)(M:ax):aI D:=match d with
 | .str z=>if z.length≤sizeLine then .ok (.str (cW z lo hi)) M else .bad
 | d=>jw d lo hi M
def dj (g:GE)(gl gh:GO):GE:=fun ρ M=>(g ρ M).bind fun x M1=>(gl ρ M1).bind fun lo M2=>(gh ρ M2).bind fun hi M3=>ik x lo hi M3
def GD (X:Cx):V→Option Int→Option Int→Hp→VK→Prop:=fun x lo hi H Q=>∃θ M d,Wr X.K θ H M∧cQ X.K θ H d x∧aG X θ H Q (ik d lo hi M)
theorem qU {v:Value}{o:Option Int}(p:IsPart v o):∃q:Option (Int×Tok),v=partValue q∧q.map (·.1)=o:=by
 cases p with
 | none=>exact⟨none,rfl,rfl⟩
 | int i t=>exact⟨some (i,t),rfl,rfl⟩
theorem Fy:Dm X (GD X):=by
 intro ae s σ H x v vl vu lo hi sl Q I rx hs pl pu h;obtain⟨θ,M,d,hw,r,h⟩:=h;have au:aG X θ H Q (jw d lo hi M)→_:=fun h=>Gc ae s σ H x v vl vu lo hi sl Q I rx hs pl pu ⟨θ,M,d,hw,r,h⟩
 cases d with
 | str z=>
  have h:aG X θ H Q (if z.length≤sizeLine then .ok (.str (cW z lo hi)) M else .bad):=h;split at h
  ·rename_i hz;have ev:x=.str z:=r;subst ev;obtain⟨t,rfl⟩:=rx;obtain⟨ql,rfl,el⟩:=qU pl;obtain⟨qu,rfl,eu⟩:=qU pu;subst el eu;refine⟨"str",_,PySem.F.slot_str_getitem.lookup,typeIs_str _ _ _,wpAny_getItem_str_slice (l:=ql) (u:=qu) (st:=none) hs rfl ?_⟩;refine post_val_or_str (y:=z) (z:=⟨((slicePicked z ql qu none).filterMap (z.cps[·]?)).toArray⟩) (c:=((1:Int)==1&&(slicePicked z ql qu none).length==z.length)=true) ?_;have e:(if((1:Int)==1&&(slicePicked z ql qu none).length==z.length)=true then z else⟨((slicePicked z ql qu none).filterMap (z.cps[·]?)).toArray⟩)=cW z (ql.map (·.1)) (qu.map (·.1)):=lO z _ _;rw[e];refine⟨Nat.le_trans (by rw[←lO];exact Txt.slice_le z _ _) hz,fun t' k=>⟨.str (cW z (ql.map (Prod.fst:Int×Tok→Int)) (qu.map (Prod.fst:Int×Tok→Int))),H,I.tok k,⟨t',rfl⟩,h _ θ H (.refl hw) rfl⟩⟩
  ·exact h.elim
 | _=>exact au h
theorem BJ {e:Expr}{g:GE}{p2 pos:Pos}{lo hi:Option Expr}{gl gh:GO}(he:QE X e g)(hl:QP X lo gl)(hh:QP X hi gh):QE X (.Subscript e (.Slice lo hi none p2) pos) (dj g gl gh):=
 ⟨(oy Fy he.h hl.h hh.h).of fun σ H Q hxx=>by
  obtain⟨ρ,θ,M,hd,hw,h⟩:=hxx;refine bj hd hw (aG X θ H Q) (fun c M' h=>h) (fun h=>h) h fun d M1 v θ1 H1 g1 r1 h1=>?_
  refine rP (hd.go g1) g1.wr (aG X θ1 H1 Q) (fun c M' h=>h) (fun h=>h) (h1.go g1) fun l M2 θ2 H2 g2 h2=>?_
  refine rP ((hd.go g1).go g2) g2.wr (aG X θ2 H2 Q) (fun c M' h=>h) (fun h=>h) (h2.go g2) fun u M3 θ3 H3 g3 h3=>?_
  exact⟨θ3,M3,d,g3.wr,r1.go (g2.trans g3),h3.go g3⟩⟩
def fQ (x:Str)(d:D)(M:ax):aI D:=match d with
 | .str y=>if x.length≤sizeLine then .ok (.str (Txt.lstripChars x y)) M else .bad
 | _=>.bad
def qO:V→List V→Hp→VK→Prop:=fun x vs H Q=>∃a b,x=.str a∧vs=[.str b]∧a.length≤sizeLine∧Q (.str (Txt.lstripChars a b)) H
theorem tR:F6 X "str.lstrip" qO:=by
 intro ae s σ H x vs v us Q I rx rv h;obtain⟨a,b,rfl,rfl,hz,q⟩:=h;obtain⟨t,rfl⟩:=rx;obtain⟨u,rfl,ru⟩:=rv.one;obtain⟨t',rfl⟩:=ru;exact SC.lstripChars (fun t' k=>⟨.str _,H,I.tok k,⟨t',rfl⟩,q⟩) hz
theorem ut {θ:List Addr}{H:Hp}{M:ax}{x:Str}{d:D}{y:V}{Q:VK}(hw:Wr X.K θ H M)(ry:cQ X.K θ H d y)(h:aG X θ H Q (fQ x d M)):qO (.str x) [y] H Q:=by
 cases d with
 | str z=>
  have ev:y=.str z:=ry;subst ev;have h:aG X θ H Q (if x.length≤sizeLine then .ok (.str (Txt.lstripChars x z)) M else .bad):=h;split at h
  ·rename_i hz;exact⟨x,z,rfl,rfl,hz,h _ θ H (.refl hw) rfl⟩
  ·exact h.elim
 | _=>exact h.elim
variable {o e:Expr}{go ge:GE}{gA:GA}{apos cpos:Pos}
theorem tz (ho:QE X o go)(he:QE X e ge)(h1:aQ e=true:=by rfl)(hbase:attributeBase o "lstrip" X.env (eval o X.env)=eval o X.env:=by rfl)(hline:(apos.endLine==cpos.line)=true:=by rfl) :
  QE X (.Call (.Attribute o "lstrip" apos) [e] [] cpos) (bA fQ go ge):=
 ⟨(o3 PySem.F.plainAttrs_str PySem.F.slot_str_lstrip PySem.F.type_str_lstrip tR ho.h (eW he.h iq (sE h1)) hbase (lc h1) hline (sE h1) rfl).of fun σ H Q h=>kF (fun θ H M x d y Q=>ut) h⟩
def jx (xs ds:List D):Option (D×List D):=match ds with
 | [.lst ys]=>if xs.length+ys.length≤sizeLine then some (.non,xs++ys) else none
 | _=>none
theorem AM {θ:List Addr}{H:Hp}{M:ax}{a:Addr}{k:Nat}{xs:List D}{vs:List V}{ds:List D}{us:List V}{r:D×List D}{Q:VK}(hw:Wr X.K θ H M)(ta:θ[k]?=some a)(em:M[k]?=some (.lst xs))(hv:H a=some (.lst vs))(ra:aU X.K θ H xs vs)(ru:aU X.K θ H ds us)
  (hF:jx xs ds=some r) (h:aG X θ H Q (.ok r.1 (M.set k (.lst r.2)))):sH (.ref a) us H Q:=by
 unfold jx at hF;split at hF
 ·rename_i ys;split at hF
  ·rename_i hi;cases hF;obtain⟨v1,r1,e1,⟨b,ws,eb,tb,rb⟩,q2⟩:=ru;have e3:r1=[]:=q2;subst e3 e1 eb;have gs:=nu (ds:=xs) hw ta (bS ra rb);exact⟨a,b,vs,ws,rfl,rfl,hv,tb.1,by rw[←ar ra,←ar rb];exact hi,h _ θ _ gs rfl⟩
  ·cases hF
 ·cases hF
theorem tZ (ho:QE X o go)(ha:QA X [e] gA)(h1:aQ e=true:=by rfl)(hbase:attributeBase o "extend" X.env (eval o X.env)=eval o X.env:=by rfl)(hline:(apos.endLine==cpos.line)=true:=by rfl) :
  QE X (.Call (.Attribute o "extend" apos) [e] [] cpos) (pL jx go gA):=
 ⟨(o3 PySem.F.plainAttrs_list PySem.F.slot_list_extend PySem.F.type_list_extend sW ho.h ha.h hbase (lc h1) hline (sE h1) rfl).of fun σ H Q h=>Em (fun θ H M a k xs vs ds us r Q=>AM) h⟩
end
section
theorem jR:isSubtype (.type "range_iterator") (.type "reversed")=pure false:=by rw[isSubtype_type];kernel_rfl
theorem lD:bootBuiltins "reversed"=some (.type "reversed"):=by decide +kernel
variable {prog:Program}{w:World}{A:Around}{E:Value→Shared→Prop}{s:Shared}
theorem kN {r:Addr}{n:Int}{t u v:Tok}{Q:Value→Shared→Prop}(hr:IsRange s.heap r 0 n 1 t u v)(h0:0≤n)(h1:n≤100000)
  (h:Q (.ref s.heap.objs.size) {s with heap:=s.heap.push {cls:=.type "range_iterator",data:=.fields #[rawInt (n-1),rawInt n,rawInt (-1)]}}):wpAny (model prog w) A (call (.builtin "range.__reversed__") [.ref r]) Q E s:=by
 have hT:s.TypeIs (.ref r) "range":=⟨_,hr,rfl⟩;refine wpAny_call_entry PySem.F.slot_range_reversed hT PySem.F.entry_range_reversed ?_ (PySem.F.args_range_reversed_1 _);unfold Builtin.«range.__reversed__»;refine wpAny_bind (wpAny_of_eq (a:=Value.ref r) rfl ?_);unfold Builtin.Range.rangeFields;refine wpAny_bind ?_;refine wpAny_bind (wpAny_field hr rfl (x:=.int 0 t) rfl ?_);refine wpAny_bind (wpAny_of_eq (a:=some 0) rfl ?_);refine wpAny_bind (wpAny_field hr rfl (x:=.int n u) rfl ?_);refine wpAny_bind (wpAny_of_eq (a:=some n) rfl ?_);refine wpAny_bind (wpAny_field hr rfl (x:=.int 1 v) rfl ?_);refine wpAny_bind (wpAny_of_eq (a:=some 1) rfl ?_);refine wpAny_pure ?_;have e:Builtin.Range.rangeSize 0 n 1=n:=by rw[rangeSize_one];split <;> omega
 dsimp only;rw[e];have small:(Builtin.Range.rangeFitsLong 0&&Builtin.Range.rangeFitsLong n&&Builtin.Range.rangeFitsLong 1&&Builtin.Range.rangeFitsLong (-1)&&Builtin.Range.rangeFitsLong (0-1)&&Builtin.Range.rangeFitsLong n)=true:=by
  simp only[Builtin.Range.rangeFitsLong,Bool.and_eq_true,decide_eq_true_eq];omega
 rw[small];have e2:0+(n-1)*1=n-1:=by omega
 rw[e2];exact wpAny_bind (wpAny_newObj_type (wpAny_pure ⟨_,rfl,h⟩))
theorem iU {r:Addr}{n:Int}{t u v:Tok}{Q₁:Value→Shared→Prop}(hr:IsRange s.heap r 0 n 1 t u v)(h0:0≤n)(h1:n≤100000)
  (h:Q₁ (.ref s.heap.objs.size) {s with heap:=s.heap.push {cls:=.type "range_iterator",data:=.fields #[rawInt (n-1),rawInt n,rawInt (-1)]}}) :
  codeAny (model prog w) A (.call (.builtin "reversed.__new__") ⟨[.type "reversed",.ref r],[]⟩) (wants Q₁ E) s:=by
 have hT:s.TypeIs (.ref r) "range":=⟨_,hr,rfl⟩;refine codeAny_of_tree ?_;show wpAny _ A.in1 (do checkBuiltinCall "reversed.__new__" ⟨[.type "reversed",.ref r],[]⟩;again (.builtin "reversed.__new__" ⟨[.type "reversed",.ref r],[]⟩)) _ _ s;refine wpAny_bind (wpAny_of_eq (PySem.F.newCall_reversed_1 _) (wpAny_pure ⟨plainId_quiet PySem.F.plain_reversed_new _,codeAny_builtin PySem.F.entry_reversed_new ?_⟩));rw[Around.under_plainId PySem.F.plain_reversed_new _];unfold Builtin.«reversed.__new__»;refine wpAny_bind (wpAny_of_eq (newClass_reversed _) ?_)
 try dsimp only
 refine wpAny_bind (wpAny_of_eq (a:=()) (by first|rfl|kernel_rfl) ?_);refine wpAny_bind (wpAny_of_eq (a:=()) (by first|rfl|kernel_rfl) ?_)
 try dsimp only
 refine wpAny_bind (wpAny_specialOf hT PySem.F.slot_range_reversed.lookup ?_)
 try dsimp only
 refine wpAny_bind (wpAny_of_eq (PySem.F.slot_range_reversed.bind _) ?_)
 try dsimp only
 first
 | rw[if_neg (show¬((Value.builtin "range.__reversed__"==Value.none)=true) from Bool.false_ne_true)]
 | (show wpAny _ _ (if(Value.builtin "range.__reversed__"==Value.none)=true then _ else _) _ _ _;rw[if_neg (show¬((Value.builtin "range.__reversed__"==Value.none)=true) from Bool.false_ne_true)])
 refine wpAny_bind (wpAny_rule ?_);refine wpAny_bind (m:=runValue (.call (.builtin "range.__reversed__") ⟨[.ref r],[]⟩)) (show wpAny _ _ (call (.builtin "range.__reversed__") [.ref r]) _ _ _ from kN hr h0 h1 ?_)
 first
 | exact wpAny_pure h
 | exact wpAny_bind (wpAny_pure (wpAny_pure h))
theorem iL {r:Addr}{n:Int}{t u v:Tok}{Q:Value→Shared→Prop}(hr:IsRange s.heap r 0 n 1 t u v)(h0:0≤n)(h1:n≤100000)
  (h:Q (.ref s.heap.objs.size) {s with heap:=s.heap.push {cls:=.type "range_iterator",data:=.fields #[rawInt (n-1),rawInt n,rawInt (-1)]}}):wpAny (model prog w) A (call (.type "reversed") [.ref r]) Q E s:=by
 refine callType_other (U:="range_iterator") (Q₁:=fun obj s₁=>obj=.ref s.heap.objs.size∧s₁={s with heap:=s.heap.push {cls:=.type "range_iterator",data:=.fields #[rawInt (n-1),rawInt n,rawInt (-1)]}}) (by decide +kernel) PySem.F.create_reversed ⟨_,_,PySem.F.mro_reversed⟩ PySem.F.made_reversed jR (PySem.F.typeCall_reversed_1 _) (iU hr h0 h1 ⟨rfl,rfl⟩) ?_;rintro obj s₁ ⟨rfl,rfl⟩;exact⟨⟨_,Heap.get?_push_size _ rfl,rfl⟩,h⟩
end
section
variable {X:Cx}{tg:Expr}
def F0 (lo c:Int)(n:Nat):It:=⟨fun i _=>i<n,fun i H x H'=>H'=H∧x=.int (lo+(i:Int)*c),fun i _=>n≤i⟩
theorem jO {P:Program}{w:World}{K:W.Frag}{tg:Expr}(it:Addr)(lo c:Int)(n:Nat):pU P w K tg (F0 lo c n) [it] it (fun i h=>IsRangeIter h it (lo+(i:Nat)*c) ((n:Int)-(i:Nat)) c) where
 mem:=by simp
 obj:=fun i h st b hb=>by
  have e:b=it:=by simpa using hb
  subst e;exact⟨_,st,fun v z=>by
   have z':Data.fields _=Data.cell v:=z;cases z'⟩
 keep:=fun i h h' st k=>k it (by simp) _ st
 item:=by
  intro X hP hw hK hc i ae s σ H E I hf st hg;subst hP hw hK;obtain⟨f0,f1,f2,f3,f4,f5⟩:=hf it (by simp);have W:=Walks.range (prog:=X.prog) (w:=X.w) (I.ok.hd hc) it lo c n;refine W.item i s _ _ hg st fun v h' tk hv st' kk=>?_
  obtain⟨t,rfl⟩:=hv;have I1:L2.Inv X ae σ H {s with heap:=h',toks:=tk}:=I.turned (fun b o hb e=>kk b o (by simpa using hb) e) f0 f1 f3 f4 f5;exact⟨_,rfl,nO (s:={s with heap:=h',toks:=tk}) (n:="range_iterator") st' rfl rfl (by decide) ⟨.int (lo+i*c),H,I1,⟨t,rfl⟩,⟨rfl,rfl⟩,st',fun b hb=>(hf b hb).1⟩⟩
 done:=by
  intro X hP hw hK hc i ae s σ H E I hf st hg;subst hP hw hK;obtain⟨f0,f1,f2,f3,f4,f5⟩:=hf it (by simp);exact wpAny_pyNext_range_end (I.ok.hd hc) st (by have:n≤i:=hg;omega) fun h' eb=>⟨rfl,I.turned (t':=s.toks) (fun b o hb e=>eb b o hb e) f0 f1 f3 f4 f5⟩
 self:=fun _ _ _ _ _ st h=>wpAny_pyIter_rangeiter st h
def GZ (ta:TA):TI:=fun σ H R=>ta σ H fun vs H1=>∃j:Int,vs=[.int j]∧0≤j∧j≤100000∧R (F0 (j-1) (-1) j.toNat) H1
theorem Aj {a:Expr}{ta:TA}{p p2 pos pos2:Pos}(hg:Gl X "reversed")(hm:X.mg "reversed"=none)(hg2:Gl X "range")(hm2:X.mg "range"=none)(ha:PA X [a] ta)
  (hs0:starEach [.Call (.Name "range" p2) [a] [] pos2] X.env=[(false,eval (.Call (.Name "range" p2) [a] [] pos2) X.env)]:=by rfl) (hs:starEach [a] X.env=[(false,eval a X.env)]:=by rfl) :
  PI X tg (.Call (.Name "reversed" p) [.Call (.Name "range" p2) [a] [] pos2] [] pos) (GZ ta):=by
 intro ae s σ H R I h;refine Call_ (gQ I hg hm lD (PyProof.Rows.callWith_type1 ?_ hs0 rfl));rw[hs0];show wpAny _ _ (spliced ((false,eval (.Call (.Name "range" p2) [a] [] pos2) X.env)::backTo pos [])) _ _ s;refine Calls.spliced_cons (Call_ (gQ I hg2 hm2 boot_range (PyProof.Rows.callWith_type1 (b5 (ha pos2 ae s σ H _ I h) fun us s1 hxx=>?_) hs rfl)));obtain⟨vs,H1,I1,r1,q1⟩:=hxx;obtain⟨j,e,q1,q2,q⟩:=q1;subst e;cases r1 with
 | cons r rr=>
  cases rr;obtain⟨t,rfl⟩:=r;refine call_range_1 (Calls.spliced_nil ?_);refine iL (IsRange.new ..) q1 q2 ?_;have I2:L2.Inv X ae σ H1 {s1 with heap:=s1.heap.push {cls:=.type "range",data:=.fields #[.int 0 s1.toks,.int j t,.int 1 (s1.toks+1)]},toks:=s1.toks+1+1}:=I1.kept fun b o e=>Heap.get?_push_of_some _ e
  generalize s1.heap.push {cls:=.type "range",data:=.fields #[.int 0 s1.toks,.int j t,.int 1 (s1.toks+1)]}=hh at I2 ⊢;have st0:IsRangeIter (hh.push {cls:=.type "range_iterator",data:=.fields #[rawInt (j-1),rawInt j,rawInt (-1)]}) hh.objs.size (j-1+((0:Nat):Int)*(-1)) (((j.toNat:Nat):Int)-((0:Nat):Int)) (-1):=by
   have e1:j-1+((0:Nat):Int)*(-1)=j-1:=by omega
   have e2:((j.toNat:Nat):Int)-((0:Nat):Int)=j:=by omega
   rw[e1,e2];exact Heap.get?_push_size _ rfl
  refine wpAny_pyIter_rangeiter (x:=j-1+((0:Nat):Int)*(-1)) (left:=((j.toNat:Nat):Int)-((0:Nat):Int)) (step:=-1) st0 ?_;refine⟨hh.objs.size,[hh.objs.size],_,_,H1,rfl,I2.kept (t':=s1.toks+1+1) fun b o e=>Heap.get?_push_of_some _ e,jO _ (j-1) (-1) j.toNat,st0,fun b hb=>?_,q⟩;have e:b=hh.objs.size:=by simpa using hb
  subst e;exact I2.fpOk (Nat.le_refl _) (I2.hok.fresh (Nat.le_refl _))
def iP (lo c:Int)(n:Nat):List D:=(List.range n).map fun(i:Nat)=>D.int (lo+(i:Int)*c)
theorem nM {K:W.Frag}{θ:List Addr}{H:Hp}(lo c:Int)(n:Nat):xj K (F0 lo c n) θ H ⟨iP lo c n,none⟩:=by
 intro θ1 H1 M1 g _ i;refine⟨fun d e=>?_,fun hl=>?_⟩
 ·have hi:i<n:=by
   have:=(List.getElem?_eq_some_iff.mp e).1;simpa[iP] using this
  refine⟨hi,fun x H2 y=>?_⟩;obtain⟨eH,y⟩:=y;subst eH;refine⟨.refl g.wr,?_⟩;have e:((List.range n).map fun(i:Nat)=>D.int (lo+(i:Int)*c))[i]?=some d:=e;simp[hi] at e;subst e;exact y
 ·have hl:(iP lo c n).length≤i:=hl;have:n≤i:=by simpa[iP] using hl
  exact this
def Ea (ds:List D)(M:ax):aI jY:=match ds with
 | [.int j]=>if 0≤j∧j≤100000 then .ok ⟨iP (j-1) (-1) j.toNat,none⟩ M else .bad
 | _=>.bad
def om (g:GA):GI:=fun ρ M=>(g ρ M).bind Ea
theorem Aw {a:Expr}{g:GA}{p p2 pos pos2:Pos}(hg:Gl X "reversed")(hm:X.mg "reversed"=none)(hg2:Gl X "range")(hm2:X.mg "range"=none)(ha:QA X [a] g)(h1:aQ a=true:=by rfl) :
  QI X tg (.Call (.Name "reversed" p) [.Call (.Name "range" p2) [a] [] pos2] [] pos) (om g):=by
 refine⟨?_⟩;intro ae s σ H R I h;refine Aj hg hm hg2 hm2 ha.h rfl (by rw[sE h1];rfl) ae s σ H R I ?_;obtain⟨ρ,θ,M,hd,hw,h⟩:=h;refine gL hd hw (pY X θ H R) (fun c M' h=>h) (fun h=>h) h fun ds M1 vs θ1 H1 g1 r1 h1=>?_
 unfold Ea at h1;split at h1
 ·rename_i j;obtain⟨v,r,e,rv,rr⟩:=r1;have rr:r=[]:=rr;have rv:v=.int j:=rv;subst rr rv;split at h1
  ·rename_i hj;exact⟨j,e,hj.1,hj.2,h1 _ θ1 H1 g1 (nM (j-1) (-1) j.toNat)⟩
  ·exact h1.elim
 ·exact h1.elim
end
section
variable {prog:Program}{w:World}{A:Around}{E:Value→Shared→Prop}{s:Shared}
theorem mF {it l:Addr}{items:Array Value}(hne:l≠it):∀(n i:Nat) (s:Shared) (Q:List Value→Shared→Prop),s.heap.IsListIter it l i→s.heap.IsList l items→i+n≤items.size→
  (∀h',h'.IsListIter it l (i+n)→Heap.SameBut it s.heap h'→Q ((items.toList.drop i).take n) {s with heap:=h'})→wpAny (model prog w) A (draw (.ref it) n) Q E s
 | 0,i,s,Q,hit,_,_,hQ=>by
  show wpAny _ _ (pure []) Q E s;exact wpAny_pure (by simpa using hQ s.heap hit (Heap.SameBut.refl ..))
 | n+1,i,s,Q,hit,ht,hle,hQ=>by
  have hlt:i<items.size:=by omega
  show wpAny _ _ (pyNext (.ref it) >>= _) Q E s;refine wpAny_bind (wpAny_pyNext_list_item hit ht (x:=items[i]) (by simp[hlt]) fun h₁ hit₁ hs₁=>?_);have ht₁:h₁.IsList l items:=by obtain⟨o,ho,r⟩:=ht;exact⟨o,(hs₁.2 l hne).trans ho,r⟩
  refine wpAny_bind (wpAny_holding (mF hne n (i+1) _ _ hit₁ ht₁ (by omega) fun h₂ hit₂ hs₂=>wpAny_pure ?_));have hd:items.toList.drop i=items[i]::items.toList.drop (i+1):=by simp[drop_eq_getElem_cons,hlt]
  have:=hQ h₂ (by rw[show i+(n+1)=i+1+n by omega];exact hit₂) (hs₁.trans hs₂);rw[hd,take_succ_cons] at this;exact this
theorem o0 {l:Addr}{items:Array Value}{elts:List Expr}{x1}{pos:Pos}{env:Env}{Q:Unit→Shared→Prop}(hh:A.handled=none)(ht:s.heap.IsList l items)
  (hn:(assignEach elts env).length=items.size) (hstar:(assignEach elts env).findIdx? (·.1)=none)
  (h:∀h',Heap.ExtBut s.heap.objs.size s.heap h'→wpAny (model prog w) A (assignInOrder ((assignEach elts env).map (·.2)) items.toList) Q E {s with heap:=h'}) :
  wpAny (model prog w) A (assign (.Tuple elts x1 pos) env (.ref l)) Q E s:=by
 rw[assign_Tuple];refine wpAny_bind (wpAny_standAt ?_);unfold unpack;rw[hn,hstar];refine wpAny_bind (wpAny_holding ?_);have hlt:l≠s.heap.objs.size:=by obtain⟨o,ho,_⟩:=ht;exact Nat.ne_of_lt (Heap.lt_size ho)
 unfold unpackItems;refine wpAny_bind ?_
 ·unfold notIterableAtAll;refine wpAny_bind (wpAny_specialOf ht.typeIs PySem.F.slot_list_iter.lookup ?_);refine wpAny_pure ?_;simp only[Bool.false_eq_true,if_false];refine wpAny_bind (wpAny_holding (wpAny_pyIter_list ht ?_));have htp:(s.heap.push {cls:=.type "list_iterator",data:=.fields #[.ref l,.int 0 0]}).IsList l items:=by obtain⟨o,ho,r⟩:=ht;exact⟨o,Heap.get?_push_of_some _ ho,r⟩
  refine wpAny_bind (wpAny_holding (mF hlt items.size 0 _ _ ⟨_,Heap.get?_push_size _ rfl,rfl,rfl⟩ htp (by omega) fun h₁ hit₁ hs₁=>?_));have hall:List.take items.size (List.drop 0 items.toList)=items.toList:=by
   rw[drop_zero];exact take_of_length_le (by simp)
  rw[hall];rw[if_neg (by simp)];have ht₁:h₁.IsList l items:=by obtain⟨o,ho,r⟩:=htp;exact⟨o,(hs₁.2 l hlt).trans ho,r⟩
  refine wpAny_bind (wpAny_holding (wpAny_pyNext_list_end hh hit₁ ht₁ (by simp) fun h₂ he₂=>?_));simp only[Option.isSome_none,Bool.false_eq_true,if_false];refine wpAny_pure (h h₂ fun b o hb e=>he₂ b o hb (hs₁.extBut b o hb (Heap.get?_push_of_some _ e)))
end
section
variable {X:Cx}
def zk (is:List Nat):GG:=fun d ρ=>match d with
 | .lst ds=>gU is ds ρ
 | _=>none
theorem Bd {es:List Expr}{is:List Nat}{k n:Nat}{pos:Pos}(h:Ds X es is)(hc:X.calm=true:=by rfl)(hl:is.length=n:=by rfl)(hn:(assignEach es X.env).length=n:=by rfl)(hst:(assignEach es X.env).findIdx? (·.1)=none:=by rfl):QG X (.Tuple es k pos) (zk is):=by
 refine⟨?_⟩;intro ae s σ H v u Q I r hw;obtain⟨ρ,θ,M,d,hd,hwr,rd,ρ',e1,hw⟩:=hw;cases d with
 | lst ds=>
  obtain⟨a,vs,e2,ta,rs⟩:=rd;have hlen:ds.length=is.length:=by
   have e1:gU is ds ρ=some ρ':=e1;clear hw hd hwr rs hn hst h hl
   induction is generalizing ds ρ with
   | nil=>
    cases ds with
    | nil=>rfl
    | cons _ _=>cases e1
   | cons i is ih=>
    cases ds with
    | nil=>cases e1
    | cons d ds=>rw[length_cons,length_cons,ih _ ds e1 e1]
  subst e2;cases r;obtain⟨its,rv,p,hz⟩:=I.list ta.sq;refine o0 (I.ok.hd hc) p.isList (by rw[hn,size_toArray,←rv.length,←ar rs,hlen,hl]) hst fun h' hx=>?_
  have I1:L2.Inv X ae σ H {s with heap:=h'}:=I.kept (t':=s.toks) fun b o e=>hx b o (Nat.ne_of_lt (Heap.lt_size e)) e
  exact h.h ae _ σ H vs _ Q I1 (by simpa using rv) ⟨ρ,θ,M,ds,hd,hwr,rs,ρ',e1,hw⟩
 | _=>cases e1
end
end DL
namespace DL
open PySem PySem.Spec PyProof.Rows L2 List
section
variable {M:Model}
theorem jm {Γ:PySem.Ctx}{p:Pos}{t:Sem Fin}{fs:List Frame}{s:Shared}{e:End}{s':Shared}(h:Runs M Γ p t fs s e s'):s.toks≤s'.toks:=by
 induction h <;> first|exact Nat.le_refl _|assumption|(simp only[Shared.setGen] at *;omega)|omega
theorem qt {Γ:PySem.Ctx}{p:Pos}{g:Nat}{r:Resume}{s:Shared}{res:GenResult}{s':Shared}(h:Wakes M Γ p g r s res s'):s.toks≤s'.toks:=by
 unfold Wakes at h;split at h
 ·exact h.elim
 ·split at h
  ·obtain⟨e1,s1,hr,_,_,rfl⟩:=h;have q:=jm hr;exact q
  ·rw[h.2];exact Nat.le_refl _
  ·rw[h.2];exact Nat.le_refl _
 ·obtain⟨e1,s1,hr,_,_,rfl⟩:=h;have q:=jm hr;exact q
 ·rw[h.2];exact Nat.le_refl _
 ·rw[h.2];exact Nat.le_refl _
theorem mR {α:Type}{Γ:PySem.Ctx}{n:Nat}{E:Value→Pos→Shared→Prop}{Q:α→Pos→Shared→Prop}(t:Sem α):∀{p:Pos} {s:Shared},n≤s.toks→Sem.wp M Γ t Q E p s→Sem.wp M Γ t (fun a p' s'=>Q a p' s'∧n≤s'.toks) E p s:=by
 induction t <;> intro p s hn h <;> simp only[Sem.wp] at h ⊢
 all_goals first|exact h|exact⟨h,hn⟩|skip
 all_goals rename_i ih
 all_goals first
  | exact ih _ hn h
  | exact ih _ (Nat.le_succ_of_le hn) h
  | exact⟨h.1,ih _ hn h.2⟩
  | (obtain⟨o,e,h⟩:=h;exact⟨o,e,ih _ hn h⟩)
  | (obtain⟨r,s1,hr,h⟩:=h;exact⟨r,s1,hr,ih _ (Nat.le_trans hn (jm hr)) h⟩)
  | (obtain⟨r,s1,hr,h⟩:=h;exact⟨r,s1,hr,ih _ (Nat.le_trans hn (qt hr)) h⟩)
theorem pF {α:Type}{A:Around}{t:Sem α}{Q:α→Shared→Prop}{E:Value→Shared→Prop}{s:Shared}(hp:0<s.toks)(h:wpAny M A t Q E s):wpAny M A t (fun a s'=>Q a s'∧0<s'.toks) E s:=
 fun Γ p hΓ=>mR t hp (h Γ p hΓ)
def Bp (M:Model){α:Type}(t:Sem α):Prop:=∀(Γ:PySem.Ctx) (Q:α→Pos→Shared→Prop) (E:Value→Pos→Shared→Prop) (p:Pos) (s:Shared),Sem.wp M Γ t Q E p s→Sem.wp M Γ t (fun a p' s'=>Q a p' s'∧0<s'.toks) E p s
theorem vH {α β:Type}{m:Sem α}{f:α→Sem β}(h:Bp M m):Bp M (m >>= f):=fun Γ Q E p s hw=>by
 rw[Sem.wp_bind'] at hw ⊢;exact Sem.wp_mono M Γ _ (fun a p' s' q=>mR (f a) q.2 q.1) (fun _ _ _ q=>q) _ _ (h Γ _ _ _ _ hw)
theorem A8 {α β:Type}{m:Sem α}{f:α→Sem β}(h:∀a,Bp M (f a)):Bp M (m >>= f):=fun Γ Q E p s hw=>by
 rw[Sem.wp_bind'] at hw ⊢;exact Sem.wp_mono M Γ _ (fun a p' s' q=>h a Γ _ _ _ _ q) (fun _ _ _ q=>q) _ _ hw
theorem rZ {α:Type}{vs:List Value}{m:Sem α}(h:Bp M m):Bp M (holding vs m):=fun Γ Q E p s hw=>by
 rw[Sem.wp_holding] at hw ⊢;exact h Γ _ _ _ _ hw
theorem xa {α:Type}{k:Tok→Sem α}:Bp M (.fresh k):=fun Γ Q E p s hw=>by
 simp only[Sem.wp] at hw ⊢;exact mR _ (Nat.succ_le_succ (Nat.zero_le _)) hw
theorem Bv {i:Int}{k:Nat}{pos:Pos}{env:Env}:Bp M (eval (.Constant (.int i) k pos) env):=xa
theorem Az {v:Expr}{i:Int}{k:Nat}{p pos:Pos}{env:Env}:Bp M (eval (.Subscript v (.Constant (.int i) k p) pos) env):=by
 rw[arm_eval_Subscript];exact A8 fun o=>vH (rZ Bv)
theorem xf {x:Str}{e:Expr}{p pos:Pos}{env:Env}(h:Bp M (eval e env))(hs:starEach [e] env=[(false,eval e env)]:=by rfl):Bp M (eval (.Call (.Name x p) [e] [] pos) env):=by
 show Bp M (eval (.Name x p) env >>= fun f=>callWith pos f [] (backTo pos (starEach [e] env)) []);refine A8 fun f=>?_
 rw[hs];refine vH (rZ ?_);unfold evalArgs;refine vH ?_;show Bp M (eval e env >>= _);exact vH h
end
section
variable {X:Cx}{o:Expr}{go:GE}{apos cpos pos p1 p2 pos':Pos}{y z:Str}
structure Hy (X:Cx)(st:Stmt)(g:GS):Prop where
 h:∀(ae:List (Addr×Obj)) (s:Shared) (σ:L2.St) (H:Hp) (D:m5),L2.Inv X ae σ H s→0<s.toks→tS X g D σ H→wpAny (model X.prog X.w) X.A (exec st X.env) (SP X ae D) X.xe s
structure Hx (X:Cx)(st:Stmt):Prop where
 h:Bp (model X.prog X.w) (exec st X.env)
theorem xL {x:Str}{e:Expr}(h:Bp (model X.prog X.w) (eval e X.env))(hs:swapsWith e (some (.Name x pos')) pos.line X.env=pure false:=by rfl):Hx X (.Assign [.Name x pos'] e pos):=⟨by
 rw[exec_Assign_Name (env:=X.env) x pos' e pos hs];exact A8 fun _=>vH h⟩
def uR (y z:Str)(go:GE):GE:=fun ρ M=>(go ρ M).bind fun d M1=>match d with
 | .str x=>if x.length≤100000 then .ok (.str (Txt.replace x y z)) M1 else .bad
 | _=>.bad
theorem xn {i:Nat}{x:Str}{k1 k2}(hN:X.N.Nodup)(ho:QE X o go)(hi:X.N[i]?=some x:=by rfl)(hx:pj X.env.scope x:=by first|exact Or.inl rfl|exact Or.inr rfl)(hf:X.fn x=true∨X.env.scope.names.lookup x=some .local:=by first|exact .inl rfl|exact .inr rfl)
  (hyz:(y==z)=false:=by rfl) (hz:z.length≤14:=by decide)
  (hbase:attributeBase o "replace" X.env (eval o X.env)=eval o X.env:=by rfl) (hline:(apos.endLine==cpos.line)=true:=by rfl)
  (hs:swapsWith (.Call (.Attribute o "replace" apos) [.Constant (.str y) k1 p1,.Constant (.str z) k2 p2] [] cpos) (some (.Name x pos')) pos.line X.env=pure false:=by rfl) :
  Hy X (.Assign [.Name x pos'] (.Call (.Attribute o "replace" apos) [.Constant (.str y) k1 p1,.Constant (.str z) k2 p2] [] cpos) pos) (aA i (uR y z go)):=by
 refine⟨?_⟩;intro ae s σ H Dn I hp h;refine wpAny_Assign_Name ?_ hs;refine wpAny_Call_method_late hbase rfl hline rfl ?_;obtain⟨ρ,θ,M,hd,hw,h⟩:=h;have h:bC X θ H Dn (((go ρ M).bind fun d M1=>match d with | .str x=>if x.length≤100000 then aI.ok (.str (Txt.replace x y z)) M1 else .bad|_=>.bad).bind fun d M1=>.ok (.nx (ρ.set i (some d))) M1):=h;have hE:tE X go σ H (fun v H1=>∃x0,v=.str x0∧x0.length≤100000∧Dn.nx (σ.set i (some (.str (Txt.replace x0 y z)))) H1):=by
  refine bj hd hw (bC X θ H Dn) (fun c M' h=>h) (fun h=>h) (g:=go) (f:=fun d M1=>(match d with | .str x=>if x.length≤100000 then aI.ok (.str (Txt.replace x y z)) M1 else .bad|_=>.bad:aI D).bind fun d M1=>.ok (.nx (ρ.set i (some d))) M1) ?_ fun d M1 v θ1 H1 g1 r1 h1=>?_
  ·cases q:go ρ M with
   | ok d M1=>rw[q] at h;exact h
   | err c M1=>rw[q] at h;exact h
   | bad=>rw[q] at h;exact h
  ·cases d with
   | str x0=>
    have h1:bC X θ H Dn ((if x0.length≤100000 then aI.ok (.str (Txt.replace x0 y z)) M1 else .bad:aI D).bind fun d M1=>.ok (.nx (ρ.set i (some d))) M1):=h1;have ev:v=.str x0:=r1;split at h1
    ·rename_i hl;exact⟨x0,ev,hl,h1 _ θ1 H1 g1 ((hd.go g1).set (d:=.str (Txt.replace x0 y z)) rfl i)⟩
    ·exact h1.elim
   | _=>exact h1.elim
 refine b5 (pF hp (ho.h ae s σ H _ I hE)) fun v s1 hxx=>?_
 obtain⟨⟨x1,H1,I1,r1,x0,rfl,hl,q⟩,hp1⟩:=hxx;obtain⟨t,rfl⟩:=r1;refine⟨"str",_,PySem.F.plainAttrs_str,PySem.F.slot_str_replace,PySem.F.type_str_replace,typeIs_str _ _ _,(fun _ e=>nomatch e),?_⟩;refine Calls.callWith_builtin rfl (Calls.evalArgs_plain ?_);show wpAny _ _ (spliced [(false,eval (.Constant (.str y) k1 p1) X.env),(false,eval (.Constant (.str z) k2 p2) X.env)]) _ _ s1;refine Calls.spliced_cons (Calls.Constant_str (Calls.spliced_cons (Calls.Constant_str (Calls.spliced_nil ?_))));refine SC.replaceW (Nat.ne_of_gt hp1) (Nat.succ_ne_zero _) (Nat.ne_of_lt (Nat.lt_succ_self _)) hyz (by omega) hz fun t' k=>?_
 exact ja (I1.tok k) hN hi hx (v:=.str (Txt.replace x0 y z)) ⟨t',rfl⟩ (fun s2 I2=>⟨_,H1,I2,q⟩) hf
theorem lR {t u:GS}{D:m5}{σ:L2.St}{H:Hp}(h:tS X (aq t u) D σ H):AU (tS X t) (tS X u) D σ H:=by
 obtain⟨ρ,θ,M,hd,hw,h⟩:=h;refine⟨ρ,θ,M,hd,hw,?_⟩;unfold aq at h;cases q:t ρ M with
 | ok f M1=>
  rw[q] at h;cases f with
  | nx ρ1=>exact fun σ1 θ1 H1 g1 d1=>⟨ρ1,θ1,M1,d1,g1.wr,bC.go g1 h⟩
  | rt d=>exact h
  | bk ρ1=>exact h
  | ct ρ1=>exact h
 | err c M1=>rw[q] at h;exact h
 | bad=>rw[q] at h;exact h
theorem Bu {st1 st2:Stmt}{au:List Stmt}{g1 g2 gr:GS}(h1:QS X st1 g1)(hb:Hx X st1)(h2:Hy X st2 g2)(hr:QB X au gr):QB X (st1::st2::au) (aq g1 (aq g2 gr)):=by
 have hs2:∀(ae:List (Addr×Obj)) (s:Shared) (σ:L2.St) (H:Hp) (D:m5),L2.Inv X ae σ H s→0<s.toks→AU (tS X g2) (tS X gr) D σ H→wpAny (model X.prog X.w) X.A (execs (st2::au) X.env) (SP X ae D) X.xe s:=by
  intro ae s σ H D I hp h;refine wpAny_execs_cons (b5 (h2.h ae s σ H {D with nx:=tS X gr D} I hp h) fun f s1 q=>?_);cases f with
  | next=>
   obtain⟨σ',H',I',q⟩:=q;exact hr.h ae s1 σ' H' D I' q
  | ret v=>exact q
  | brk=>exact q
  | cont=>exact q
 refine⟨?_⟩;intro ae s σ H D I h;have h':=lR h;have hw:wpAny (model X.prog X.w) X.A (exec st1 X.env) (fun f s1=>SP X ae {D with nx:=fun σ H=>tS X (aq g2 gr) D σ H} f s1∧0<s1.toks) X.xe s:=
  fun Γ p hΓ=>hb.h Γ (fun f _ s1=>SP X ae {D with nx:=fun σ H=>tS X (aq g2 gr) D σ H} f s1) _ p s (h1.h ae s σ H {D with nx:=fun σ H=>tS X (aq g2 gr) D σ H} I h' Γ p hΓ)
 refine wpAny_execs_cons (b5 hw fun f s1 q=>?_);obtain⟨q,hp⟩:=q;cases f with
 | next=>
  obtain⟨σ',H',I',q⟩:=q;exact hs2 ae s1 σ' H' D I' hp (lR q)
 | ret v=>exact q
 | brk=>exact q
 | cont=>exact q
end
section
variable {X:Cx}{tg:Expr}
theorem rV {a:Int}(h:-1≤a):Builtin.Range.rangeSize a (-1) (-1)=a+1:=by
 unfold Builtin.Range.rangeSize;rw[if_neg (by decide)];split
 ·rw[show(- -1:Int)=1 from rfl,Int.ediv_one];omega
 ·omega
theorem vc {a:Int}(h:-1≤a)(h2:a≤100000):Builtin.Range.small a (-1) (-1)=true:=by
 unfold Builtin.Range.small;rw[rV h];simp only[Builtin.Range.rangeFitsLong,Bool.and_eq_true,Bool.or_eq_true,decide_eq_true_eq,beq_iff_eq,show¬(-1:Int)>0 by decide,if_false];omega
def EL (ta:TA):TI:=fun σ H R=>ta σ H fun vs H1=>∃j:Int,vs=[.int j,.int (-1),.int (-1)]∧-1≤j∧j≤100000∧R (F0 j (-1) (j+1).toNat) H1
theorem t9 {a b c:Expr}{ta:TA}{p pos:Pos}(hg:Gl X "range")(hm:X.mg "range"=none)(ha:PA X [a,b,c] ta)(hs:starEach [a,b,c] X.env=[(false,eval a X.env),(false,eval b X.env),(false,eval c X.env)]:=by rfl)(hs2:starEach [b,c] X.env=[(false,eval b X.env),(false,eval c X.env)]:=by rfl) :
  PI X tg (.Call (.Name "range" p) [a,b,c] [] pos) (EL ta):=by
 intro ae s σ H R I h;refine Call_ (gQ I hg hm boot_range (PyProof.Rows.callWith_type1 (b5 (ha pos ae s σ H _ I h) fun us s1 hxx=>?_) (by rw[hs,hs2]) (by rw[hs2];rfl)));obtain⟨vs,H1,I1,r1,q1⟩:=hxx;obtain⟨j,e,q1,q2,q⟩:=q1;subst e;cases r1 with
 | cons r rr=>
  cases rr with
  | cons r' rr=>
   cases rr with
   | cons r'' rr=>
    cases rr;obtain⟨t,rfl⟩:=r;obtain⟨t',rfl⟩:=r';obtain⟨t'',rfl⟩:=r'';refine call_range_3 (by decide) ?_ (Or.inl (PyProof.noPylong_of_log2 (by decide +kernel)));have I2:L2.Inv X ae σ H1 {s1 with heap:=s1.heap.push {cls:=.type "range",data:=.fields #[.int j t,.int (-1) t',.int (-1) t'']},toks:=s1.toks}:=I1.kept (t':=s1.toks) fun b o e=>Heap.get?_push_of_some _ e
    refine wpAny_pyIter_range (IsRange.new ..) (vc q1 q2) ?_;rw[rV q1];generalize s1.heap.push {cls:=.type "range",data:=.fields #[.int j t,.int (-1) t',.int (-1) t'']}=hh at I2 ⊢;have st0:IsRangeIter (hh.push {cls:=.type "range_iterator",data:=.fields #[rawInt j,rawInt (j+1),rawInt (-1)]}) hh.objs.size (j+((0:Nat):Int)*(-1)) ((((j+1).toNat:Nat):Int)-((0:Nat):Int)) (-1):=by
     have e1:j+((0:Nat):Int)*(-1)=j:=by omega
     have e2:(((j+1).toNat:Nat):Int)-((0:Nat):Int)=j+1:=by omega
     rw[e1,e2];exact Heap.get?_push_size _ rfl
    refine⟨hh.objs.size,[hh.objs.size],_,_,H1,rfl,I2.kept (t':=s1.toks) fun b o e=>Heap.get?_push_of_some _ e,jO _ j (-1) (j+1).toNat,st0,fun b hb=>?_,q⟩;have e:b=hh.objs.size:=by simpa using hb
    subst e;exact I2.fpOk (Nat.le_refl _) (I2.hok.fresh (Nat.le_refl _))
def FK (ds:List D)(M:ax):aI jY:=match ds with
 | [.int j,.int b,.int c]=>if -1≤j∧j≤100000∧b=-1∧c=-1 then .ok ⟨iP j (-1) (j+1).toNat,none⟩ M else .bad
 | _=>.bad
def oF (g:GA):GI:=fun ρ M=>(g ρ M).bind FK
theorem DH {a b c:Expr}{g:GA}{p pos:Pos}(hg:Gl X "range")(hm:X.mg "range"=none)(ha:QA X [a,b,c] g)(h1:aQ a=true:=by rfl)(h2:aQ b=true:=by rfl)(h3:aQ c=true:=by rfl) :
  QI X tg (.Call (.Name "range" p) [a,b,c] [] pos) (oF g):=by
 refine⟨?_⟩;intro ae s σ H R I h;refine t9 hg hm ha.h (by rw[sE h1,sE h2,sE h3];rfl) (by rw[sE h2,sE h3];rfl) ae s σ H R I ?_;obtain⟨ρ,θ,M,hd,hw,h⟩:=h;refine gL hd hw (pY X θ H R) (fun c M' h=>h) (fun h=>h) h fun ds M1 vs θ1 H1 g1 r1 h1=>?_
 unfold FK at h1;split at h1
 ·rename_i j b' c';split at h1
  ·rename_i hj;obtain⟨hj1,hj2,hj3,hj4⟩:=hj;subst hj3 hj4;obtain⟨v,r,e,rv,v2,r2,e2,rv2,v3,r3,e3,rv3,rr⟩:=r1;have rr:r3=[]:=rr;have rv:v=.int j:=rv;have rv2:v2=.int (-1):=rv2;have rv3:v3=.int (-1):=rv3;subst e3 e2 rr rv rv2 rv3;exact⟨j,e,hj1,hj2,h1 _ θ1 H1 g1 (nM j (-1) (j+1).toNat)⟩
  ·exact h1.elim
 ·exact h1.elim
end
structure Dk (θ:List Addr)(H H':Hp):Prop where
 keep:∀b o,H b=some o→(∀kvs,o≠.dK kvs)→H' b=some o
 tr:∀b,b∈θ→H' b=H b
section
variable {K:W.Frag}{θ:List Addr}{H H':Hp}
theorem lG.dk {a:Addr}{xs:List V}(g:Dk θ H H')(h:lG K θ H a xs):lG K θ H' a xs:=by
 rcases h with⟨h|⟨o,h⟩,n⟩|h
 ·exact .inl ⟨.inl (g.keep _ _ h (by intro _ z;cases z)),n⟩
 ·exact .inl ⟨.inr ⟨o,g.keep _ _ h (by intro _ z;cases z)⟩,n⟩
 ·exact .inr h
mutual
theorem jA (g:Dk θ H H'):∀(d:D) (v:V),cQ K θ H d v→cQ K θ H' d v
 | .non,v,h=>h
 | .bl b,v,h=>h
 | .int i,v,h=>h
 | .str x,v,h=>h
 | .tup ds,v,h=>by
  obtain⟨a,vs,e,t,r⟩:=h;exact⟨a,vs,e,⟨g.keep _ _ t.1 (by intro _ z;cases z),t.2⟩,jc g ds vs r⟩
 | .lst ds,v,h=>by
  obtain⟨a,vs,e,t,r⟩:=h;exact⟨a,vs,e,⟨g.keep _ _ t.1 (by intro _ z;cases z),t.2⟩,jc g ds vs r⟩
 | .ro ds,v,h=>by
  obtain⟨a,vs,e,t,r⟩:=h;exact⟨a,vs,e,t.dk g,jc g ds vs r⟩
 | .mr i,v,h=>h
 | .exc c,v,h=>by
  obtain⟨a,C,e,k,t,n⟩:=h;exact⟨a,C,e,k,g.keep _ _ t (by intro _ z;cases z),n⟩
 | .any,v,h=>h
theorem jc (g:Dk θ H H'):∀(ds:List D) (vs:List V),aU K θ H ds vs→aU K θ H' ds vs
 | [],vs,h=>h
 | d::ds,vs,h=>by
  obtain⟨v,r,e,h1,h2⟩:=h;exact⟨v,r,e,jA g d v h1,jc g ds r h2⟩
end
theorem rK (g:Dk θ H H'):∀{fs:List (Str×D)} {vs:List (Str×V)},oW K θ H fs vs→oW K θ H' fs vs
 | [],vs,h=>h
 | (f,d)::fs,vs,h=>by
  obtain⟨v,r,e,h1,h2⟩:=h;exact⟨v,r,e,jA g d v h1,rK g h2⟩
theorem mQ {κ:Type}(g:Dk θ H H'):∀{fs:List (κ×D)} {vs:List (κ×V)},mO K θ H fs vs→mO K θ H' fs vs
 | [],vs,h=>h
 | (f,d)::fs,vs,h=>by
  obtain⟨v,r,e,h1,h2⟩:=h;exact⟨v,r,e,jA g d v h1,mQ g h2⟩
theorem ED {M:ax}(g:Dk θ H H')(w:Wr K θ H M):Wr K θ H' M:=by
 refine⟨w.len,w.nd,fun i a m h1 h2=>?_,w.tb.of (fun b ps e=>g.keep _ _ e (by intro _ z;cases z)) (fun b φ e=>g.keep _ _ e (by intro _ z;cases z)) fun b o u e=>g.keep _ _ e (by intro _ z;cases z)⟩;have h:=w.at_ i a m h1 h2;have hs:=g.tr a (mem_of_getElem? h1);cases m with
 | lst ds=>
  obtain⟨vs,e,r⟩:=h;exact⟨vs,by rw[hs];exact e,jc g ds vs r⟩
 | obj c fs=>
  obtain⟨C,dx,vs,k,e,r⟩:=h;exact⟨C,dx,vs,k,by rw[hs];exact e,rK g r⟩
 | dK kvs=>
  obtain⟨vs,e,r⟩:=h;exact⟨vs,by rw[hs];exact e,mQ g r⟩
 | dT kvs=>
  obtain⟨vs,e,r⟩:=h;exact⟨vs,by rw[hs];exact e,mQ g r⟩
end
def ph (k0 k1 k2:Str)(g0 g1 g2 g:GE):GE:=fun ρ M=>(g0 ρ M).bind fun d0 M0=>(g1 ρ M0).bind fun d1 M1=>(g2 ρ M1).bind fun d2 M2=>(g ρ M2).bind fun d M3=>match d with
 | .str x=>if x=k0 then .ok d0 M3 else if x=k1 then .ok d1 M3 else if x=k2 then .ok d2 M3 else .bad
 | _=>.bad
section
variable {X:Cx}{e0 e1 e2 i:Expr}{g0 g1 g2 g:GE}{pos dpos p0 p1 p2:Pos}
theorem Bq {k0 k1 k2:Str}{v0 v1 v2:V}(n01:k0≠k1)(n02:k0≠k2)(n12:k1≠k2):iC [] [((Sum.inr k0:dO),v0),(Sum.inr k1,v1),(Sum.inr k2,v2)]=[(Sum.inr k0,v0),(Sum.inr k1,v1),(Sum.inr k2,v2)]:=by
 have a:¬(Sum.inr k0:dO)=Sum.inr k1:=fun z=>n01 (Sum.inr.inj z)
 have b:¬(Sum.inr k0:dO)=Sum.inr k2:=fun z=>n02 (Sum.inr.inj z)
 have c:¬(Sum.inr k1:dO)=Sum.inr k2:=fun z=>n12 (Sum.inr.inj z)
 simp[iC,nv,a,b,c]
theorem xB {k:Nat}{k0 k1 k2:Str}{j0 j1 j2}(hr:bW k X.A)(h0:QE X e0 g0)(h1:QE X e1 g1)(h2:QE X e2 g2)(hi:QE X i g)(n01:k0≠k1:=by decide +kernel)(n02:k0≠k2:=by decide +kernel)(n12:k1≠k2:=by decide +kernel)(hs:BW i:=by intro _ _;rfl) :
  QE X (.Subscript (.Dict [some (.Constant (.str k0) j0 p0),some (.Constant (.str k1) j1 p1),some (.Constant (.str k2) j2 p2)] [e0,e1,e2] dpos) i pos) (ph k0 k1 k2 g0 g1 g2 g):=⟨(xo (EC hr) (xM (kI m4 h0.h (kI m4 h1.h (kI m4 h2.h zq))) rfl rfl (by simp) (show 3≤15 by decide)) hi.h hs).of fun σ H Q hxx=>by
 obtain⟨ρ,θ,M,hd,hw,h⟩:=hxx;intro p hp;have ga:Go X.K θ H θ (cw H p (.dK [])) M:=dJ hw hp;have np:=hw.fresh hp;have Fe:∀{θ':List Addr} {H':Hp} {M':ax},Go X.K θ H θ' H' M'→∀c M1,aG X θ H Q (.err c M1)→cn X θ' H' c M1:=fun g' c M1 h=>cn.go (c:=c) (M:=M1) g' h
 show tE X g0 σ (cw H p (.dK [])) _;refine bj (hd.go ga) ga.wr (aG X θ H Q) (Fe ga) (fun h=>h) h fun d0 M0 v0 θ0 H0 gb r0 h=>?_
 have gb':=ga.trans gb;show tE X g1 σ H0 _;refine bj (hd.go gb') gb'.wr (aG X θ H Q) (Fe gb') (fun h=>h) h fun d1 M1 v1 θ1 H1 gc r1 h=>?_
 have gc':=gb'.trans gc;show tE X g2 σ H1 _;refine bj (hd.go gc') gc'.wr (aG X θ H Q) (Fe gc') (fun h=>h) h fun d2 M2 v2 θ2 H2 gd r2 h=>?_
 have gd':=gc'.trans gd;have a0:H0 p=some (.dK []):=gb.keep p _ cG np (by intro _ z;cases z);have n0:p∉θ0:=gb.toGrow.notin cG np;have a1:H1 p=some (.dK []):=gc.keep p _ a0 n0 (by intro _ z;cases z);have n1:p∉θ1:=gc.toGrow.notin a0 n0;have a2:H2 p=some (.dK []):=gd.keep p _ a1 n1 (by intro _ z;cases z);have n2:p∉θ2:=gd.toGrow.notin a1 n1;refine⟨a2,[(Sum.inr k0,v0),(Sum.inr k1,v1),(Sum.inr k2,v2)],rfl,by show 3≤15;decide,?_⟩;rw[Bq n01 n02 n12];have dk:Dk θ2 H2 (cw H2 p (.dK [(Sum.inr k0,v0),(Sum.inr k1,v1),(Sum.inr k2,v2)])):=⟨fun b o e ho=>by
  rw[aK (fun z=>by subst z;rw[a2] at e;cases e;exact ho _ rfl)];exact e,fun b hb=>aK (fun z=>n2 (z▸hb))⟩
 have ge:Go X.K θ H θ2 (cw H2 p (.dK [(Sum.inr k0,v0),(Sum.inr k1,v1),(Sum.inr k2,v2)])) M2:=⟨⟨gd'.ext,fun b o e nb ho=>by
  rw[aK (a7 e hp)];exact gd'.keep b o e nb ho,fun b ps e=>by
  rw[aK (a7 e hp)];exact gd'.tkeep b ps e⟩,ED dk gd'.wr⟩
 have r0':=jA dk _ _ ((r0.go gc).go gd);have r1':=jA dk _ _ (r1.go gd);have r2':=jA dk _ _ r2;refine bj (hd.go ge) ge.wr (aG X θ H Q) (Fe ge) (fun h=>h) h fun d M3 v θ3 H3 gf r3 h=>?_
 have gf':=ge.trans gf;have a3:H3 p=some (.dK [(Sum.inr k0,v0),(Sum.inr k1,v1),(Sum.inr k2,v2)]):=gf.keep p _ cG n2 (by intro _ z;cases z);cases d with
 | str x=>
  have ev:v=.str x:=r3;subst ev;have h:aG X θ H Q (if x=k0 then .ok d0 M3 else if x=k1 then .ok d1 M3 else if x=k2 then .ok d2 M3 else .bad):=h
  by_cases q0:x=k0
  ·rw[if_pos q0] at h;refine⟨p,v0,rfl,?_,h _ θ3 H3 gf' (r0'.go gf)⟩;have:=n8.k (k:=Sum.inr x) a3;rw[gM (by rw[q0])] at this;exact this
  ·rw[if_neg q0] at h
   by_cases q1:x=k1
   ·rw[if_pos q1] at h;refine⟨p,v1,rfl,?_,h _ θ3 H3 gf' (r1'.go gf)⟩;have:=n8.k (k:=Sum.inr x) a3;rw[gH (fun z=>q0 (Sum.inr.inj z).symm),gM (by rw[q1])] at this;exact this
   ·rw[if_neg q1] at h
    by_cases q2:x=k2
    ·rw[if_pos q2] at h;refine⟨p,v2,rfl,?_,h _ θ3 H3 gf' (r2'.go gf)⟩;have:=n8.k (k:=Sum.inr x) a3;rw[gH (fun z=>q0 (Sum.inr.inj z).symm),gH (fun z=>q1 (Sum.inr.inj z).symm),gM (by rw[q2])] at this;exact this
    ·rw[if_neg q2] at h;exact h.elim
 | _=>exact False.elim h⟩
end
end DL
namespace DL
open PySem L2
def bv:Nat→D→Bool
 | 0,_=>false
 | f+1,d=>match d with
  | .mr _=>false
  | .tup xs=>xs.all (bv f)
  | .lst xs=>xs.all (bv f)
  | .ro xs=>xs.all (bv f)
  | _=>true
theorem cT {f:D→Option D}:∀{xs:List D},(∀x∈xs,f x=some x)→bh f xs=some xs
 | [],_=>rfl
 | x::xs,h=>by
  unfold bh;rw[h x List.mem_cons_self,cT fun y hy=>h y (List.mem_cons_of_mem _ hy)]
theorem cY {n:Nat}{M:ax}:∀(f:Nat) (d:D),bv f d=true→frz n M f d=some d
 | 0,d,h=>by cases h
 | f+1,d,h=>by
  cases d with
  | mr k=>cases h
  | tup xs=>
   have h:xs.all (bv f)=true:=h;show(bh (frz n M f) xs).map D.tup=_;rw[cT fun x hx=>cY f x (List.all_eq_true.mp h x hx)];rfl
  | lst xs=>
   have h:xs.all (bv f)=true:=h;show(bh (frz n M f) xs).map D.lst=_;rw[cT fun x hx=>cY f x (List.all_eq_true.mp h x hx)];rfl
  | ro xs=>
   have h:xs.all (bv f)=true:=h;show(bh (frz n M f) xs).map D.ro=_;rw[cT fun x hx=>cY f x (List.all_eq_true.mp h x hx)];rfl
  | _=>rfl
def cS:MO→Bool
 | .lst xs=>xs.all (bv 30)
 | .obj _ fs=>fs.all fun p=>bv 30 p.2
 | .dK fs=>fs.all fun p=>bv 30 p.2
 | .dT fs=>fs.all fun p=>bv 30 p.2
theorem jz {κ:Type}{f:D→Option D}:∀{fs:List (κ×D)},(∀p∈fs,f p.2=some p.2)→lL f fs=some fs
 | [],_=>rfl
 | (x,d)::fs,h=>by
  unfold lL;rw[h (x,d) List.mem_cons_self,jz fun y hy=>h y (List.mem_cons_of_mem _ hy)]
theorem mz {f:D→Option D}:∀{fs:List (Str×D)},(∀p∈fs,f p.2=some p.2)→oZ f fs=some fs
 | [],_=>rfl
 | (x,d)::fs,h=>by
  unfold oZ;rw[h (x,d) List.mem_cons_self,mz fun y hy=>h y (List.mem_cons_of_mem _ hy)]
theorem eB {n:Nat}{M:ax}:∀{l:List MO},l.all cS=true→eo n M l=some l
 | [],_=>rfl
 | .lst xs::r,h=>by
  rw[List.all_cons,Bool.and_eq_true] at h;unfold eo;rw[eB h.2];have h1:xs.all (bv 30)=true:=h.1;rw[cT fun x hx=>cY 30 x (List.all_eq_true.mp h1 x hx)]
 | .obj c fs::r,h=>by
  rw[List.all_cons,Bool.and_eq_true] at h;unfold eo;rw[eB h.2];have h1:(fs.all fun p=>bv 30 p.2)=true:=h.1;rw[mz fun p hp=>cY 30 p.2 (List.all_eq_true.mp h1 p hp)]
 | .dK fs::r,h=>by
  rw[List.all_cons,Bool.and_eq_true] at h;unfold eo;rw[eB h.2];have h1:(fs.all fun p=>bv 30 p.2)=true:=h.1;rw[jz fun p hp=>cY 30 p.2 (List.all_eq_true.mp h1 p hp)]
 | .dT fs::r,h=>by
  rw[List.all_cons,Bool.and_eq_true] at h;unfold eo;rw[eB h.2];have h1:(fs.all fun p=>bv 30 p.2)=true:=h.1;rw[jz fun p hp=>cY 30 p.2 (List.all_eq_true.mp h1 p hp)]
theorem lP {d:D}{M E:ax}(hd:bv 30 d=true)(hM:M.all cS=true):hZ M.length (.ok d (M++E))=.ok d M:=by
 unfold hZ
 by_cases h:(M++E).length=M.length
 ·have:E=[]:=by
   rw[List.length_append] at h;exact List.length_eq_zero_iff.mp (by omega)
  subst this;simp
 ·simp only[if_neg h];rw[List.take_left,cY 30 d hd,eB hM]
@[simp] theorem Dv (f:Nat) (i:Int):bv (f+1) (.int i)=true:=rfl
@[simp] theorem ER (f:Nat) (i:Bool):bv (f+1) (.bl i)=true:=rfl
@[simp] theorem Dl (f:Nat):bv (f+1) .non=true:=rfl
@[simp] theorem Dj (f:Nat) (x:Str):bv (f+1) (.str x)=true:=rfl
theorem Dw (f:Nat)(xs:List D):bv (f+1) (.tup xs)=xs.all (bv f):=rfl
theorem lX (f:Nat)(xs:List D):bv (f+1) (.lst xs)=xs.all (bv f):=rfl
theorem jj (f:Nat)(l:List Int):(l.map D.int).all (bv (f+1))=true:=by
 rw[List.all_map];exact List.all_eq_true.mpr fun x _=>rfl
theorem jb {t:GT}{b:GS}{n:Nat}{ρ ρ2:a8}{M M1 M2:ax}(h1:t ρ M=.ok true M1)(h2:b ρ M1=.ok (.nx ρ2) M2):br t b (n+1) ρ M=br t b n ρ2 M2:=by
 rw[br,h1,ai,if_pos rfl,h2,ai]
theorem eI {t:GT}{b:GS}{n:Nat}{ρ:a8}{M M1:ax}(h1:t ρ M=.ok false M1):br t b (n+1) ρ M=.ok (.nx ρ) M1:=by
 rw[br,h1,ai,if_neg Bool.false_ne_true]
theorem qW {M:ax}{xs:List D}(hx:xs.all (bv 29)=true)(hM:M.all cS=true):hZ M.length (.ok (.mr M.length) (M++[.lst xs]))=.ok (.lst xs) M:=by
 have f1:=eB (n:=M.length) (M:=M++[.lst xs]) hM;have f2:frz M.length (M++[.lst xs]) 30 (.mr M.length)=some (.lst xs):=by
  have o:bh (frz M.length (M++[.lst xs]) 29) xs=some xs:=cT fun x h=>cY 29 x (List.all_eq_true.mp hx x h)
  show(if M.length<M.length then some (D.mr M.length) else match (M++[MO.lst xs])[M.length]? with|some (MO.lst ys)=>(bh (frz M.length (M++[MO.lst xs]) 29) ys).map D.lst|_=>none)=_;rw[if_neg (Nat.lt_irrefl _)];simp;rw[o]
 show(if(M++[MO.lst xs]).length=M.length then aI.ok (D.mr M.length) (M++[MO.lst xs]) else match frz M.length (M++[MO.lst xs]) 30 (.mr M.length),eo M.length (M++[MO.lst xs]) ((M++[MO.lst xs]).take M.length) with|some d',some M'=>.ok d' M'|_,_=>.bad)=_;rw[if_neg (by simp),List.take_left,f1,f2]
end DL
namespace DL
open PySem L2
theorem aB {a b:GS}{ρ ρ1:a8}{M M1:ax}(h:a ρ M=.ok (.nx ρ1) M1):aq a b ρ M=b ρ1 M1:=by
 unfold aq;rw[h];rfl
theorem Es {a b:GS}{ρ:a8}{d:D}{M M1:ax}(h:a ρ M=.ok (.rt d) M1):aq a b ρ M=.ok (.rt d) M1:=by
 unfold aq;rw[h];rfl
theorem ia {a b:GS}{ρ:a8}{c:Str}{M M1:ax}(h:a ρ M=.err c M1):aq a b ρ M=.err c M1:=by
 unfold aq;rw[h];rfl
theorem lJ {t:GT}{a b:GS}{ρ:a8}{M M1:ax}(h:t ρ M=.ok true M1):gn t a b ρ M=a ρ M1:=by
 unfold gn;rw[h,ai,if_pos rfl]
theorem i5 {t:GT}{a b:GS}{ρ:a8}{M M1:ax}(h:t ρ M=.ok false M1):gn t a b ρ M=b ρ M1:=by
 unfold gn;rw[h,ai,if_neg Bool.false_ne_true]
theorem aD {i:Nat}{g:GE}{ρ:a8}{M M1:ax}{d:D}(h:g ρ M=.ok d M1):aA i g ρ M=.ok (.nx (ρ.set i (some d))) M1:=by
 unfold aA;rw[h,ai]
theorem fW {g:GE}{ρ:a8}{M M1:ax}{d:D}(h:g ρ M=.ok d M1):cD g ρ M=.ok (.nx ρ) M1:=by
 unfold cD;rw[h,ai]
theorem iA {g:GE}{ρ:a8}{M M1:ax}{d:D}(h:g ρ M=.ok d M1):bD g ρ M=.ok (.rt d) M1:=by
 unfold bD;rw[h,ai]
theorem df {a b:GT}{ρ:a8}{M:ax}{x y:Bool}(ha:a ρ M=.ok x M)(hb:x=true→b ρ M=.ok y M):dC a b ρ M=.ok (x&&y) M:=by
 unfold dC;rw[ha,ai];cases x with
 | true=>exact hb rfl
 | false=>rfl
theorem gx {a b:GT}{ρ:a8}{M:ax}{x y:Bool}(ha:a ρ M=.ok x M)(hb:x=false→b ρ M=.ok y M):en a b ρ M=.ok (x||y) M:=by
 unfold en;rw[ha,ai];cases x with
 | true=>rfl
 | false=>exact hb rfl
theorem iW {a:GT}{ρ:a8}{M:ax}{x:Bool}(ha:a ρ M=.ok x M):cZ a ρ M=.ok (!x) M:=by
 unfold cZ;rw[ha,ai]
theorem kh {a:GE}{ρ:a8}{M M1:ax}{x:Bool}(ha:a ρ M=.ok (.bl x) M1):fM a ρ M=.ok x M1:=by
 unfold fM;rw[ha,ai];rfl
theorem a5 {a:GE}{ρ:a8}{M M1:ax}{x:Bool}(ha:a ρ M=.ok (.bl x) M1):aO a ρ M=.ok x M1:=by
 unfold aO;rw[ha,ai];rfl
theorem ao {f:F2}{a b:GE}{ρ:a8}{M M1 M2:ax}{x y:D}{o:aI D}(ha:a ρ M=.ok x M1)(hb:b ρ M1=.ok y M2)(h:f x y M2=o):g2 f a b ρ M=o:=by
 unfold g2;rw[ha,ai,hb,ai,h]
theorem dq {F:FD}{a:GE}{ρ:a8}{M M1:ax}{x:D}{o:aI D}(ha:a ρ M=.ok x M1)(h:F [x] M1=o):aL F (aa a ah) ρ M=o:=by
 unfold aL aa ah;rw[ha,ai,ai,ai,h]
theorem fw {F:FD}{a:GE}{ρ:a8}{M M1:ax}{x:D}{o:aI D}(ha:a ρ M=.ok x M1)(h:F [x] M1=o):ay 1 F (aa a ah) ρ M=o:=by
 unfold ay aa ah;rw[ha,ai,ai,ai,if_pos (show [x].length=1 from rfl),h]
theorem eO {F:FD}{a b:GE}{ρ:a8}{M M1 M2:ax}{x y:D}{o:aI D}(ha:a ρ M=.ok x M1)(hb:b ρ M1=.ok y M2)(h:F [x,y] M2=o):ay 2 F (aa a (aa b ah)) ρ M=o:=by
 unfold ay aa ah;rw[ha,ai,hb,ai,ai,ai,ai,if_pos (show [x,y].length=2 from rfl),h]
theorem v6 {F:FD}{a b c:GE}{ρ:a8}{M M1 M2 M3:ax}{x y z:D}{o:aI D}(ha:a ρ M=.ok x M1)(hb:b ρ M1=.ok y M2)(hc:c ρ M2=.ok z M3)(h:F [x,y,z] M3=o):ay 3 F (aa a (aa b (aa c ah))) ρ M=o:=by
 unfold ay aa ah;rw[ha,ai,hb,ai,hc,ai,ai,ai,ai,ai,if_pos (show [x,y,z].length=3 from rfl),h]
theorem zW {F:FD}{a b c d:GE}{ρ:a8}{M M1 M2 M3 M4:ax}{x y z u:D}{o:aI D}(ha:a ρ M=.ok x M1)(hb:b ρ M1=.ok y M2)(hc:c ρ M2=.ok z M3)(hd:d ρ M3=.ok u M4)(h:F [x,y,z,u] M4=o):ay 4 F (aa a (aa b (aa c (aa d ah)))) ρ M=o:=by
 unfold ay aa ah;rw[ha,ai,hb,ai,hc,ai,hd,ai,ai,ai,ai,ai,ai,if_pos (show [x,y,z,u].length=4 from rfl),h]
theorem xb {p:D→Bool}:∀xs:List D,cJ (xs.map fun d=>D.bl (p d))=some (xs.map p)
 | []=>rfl
 | x::xs=>by
  show(cJ (xs.map fun d=>D.bl (p d))).map (p x::·)=_;rw[xb xs];rfl
theorem uS {gi:GI}{ge:GE}{ρ:a8}{M:ax}{xs:List D}{p:D→Bool}(hi:gi ρ M=.ok ⟨xs,none⟩ M)(hl:xs.length≤100000)(h:∀x∈xs,ge (some x::ρ) M=.ok (.bl (p x)) M) :
  aL jS (aa (aR gi bt ge aH) ah) ρ M=.ok (.bl (xs.all p)) M:=by
 have c:=gD (ds0:=xs) (ge:=ge) (ρ:=ρ) (f:=fun d=>D.bl (p d)) (M:=M) xs h;have l1:(xs.map fun d=>D.bl (p d)).length≤sizeLine:=by rw[List.length_map];exact ba (by omega)
 refine dq (x:=.lst (xs.map fun d=>D.bl (p d))) (M1:=M) ?_ ?_
 ·unfold aR;rw[hi,ai];dsimp only;rw[c,ai];unfold aH;rw[if_pos l1]
 ·show(match bK (.lst (xs.map fun d=>D.bl (p d))) M with|some xs=>(match cJ xs with|some bs=>aI.ok (D.bl (bs.all id)) M|none=>.bad)|none=>.bad)=_;show(match cJ (xs.map fun d=>D.bl (p d)) with|some bs=>aI.ok (D.bl (bs.all id)) M|none=>.bad)=_;rw[xb];dsimp only;rw[List.all_map];rfl
theorem jG (a b:Int)(M:ax):bc false (.int a) (.int b) M=.ok (.bl (decide (a=b))) M:=by
 show aI.ok (D.bl ((a==b) != false)) M=_
 by_cases q:a=b <;> simp[q]
theorem sB (a b:Int)(M:ax):bc true (.int a) (.int b) M=.ok (.bl (!decide (a=b))) M:=by
 show aI.ok (D.bl ((a==b) != true)) M=_
 by_cases q:a=b <;> simp[q]
theorem jh (M:ax)(E:List D):(M++[MO.lst E])[M.length]?=some (.lst E):=by simp
theorem kt (M:ax)(E E':List D):(M++[MO.lst E]).set M.length (.lst E')=M++[MO.lst E']:=by simp
theorem Ck {M:ax}{E:List D}{d:D}(h:E.length<1000000):lB M.length d (M++[MO.lst E])=.ok .non (M++[MO.lst (E++[d])]):=by
 have l:E.length<sizeLine:=Nat.lt_of_lt_of_le h (by rw[sizeLine_eq];decide);unfold lB;rw[jh];dsimp only;rw[if_pos l,kt]
theorem wo {go ge:GE}{ρ:a8}{M:ax}{E:List D}{d:D}(h1:go ρ (M++[MO.lst E])=.ok (.mr M.length) (M++[MO.lst E]))(h2:ge ρ (M++[MO.lst E])=.ok d (M++[MO.lst E]))(h:E.length<1000000) :
  fK go ge ρ (M++[MO.lst E])=.ok .non (M++[MO.lst (E++[d])]):=by
 unfold fK;rw[h1,ai];dsimp only;rw[jh];dsimp only;rw[h2,ai,Ck h]
theorem im {xs:List D}{k:Nat}{d:D}{M:ax}(h:xs[k]?=some d):qB (.lst xs) (.int k) M=.ok d M:=by
 have a:=gZ (xs:=xs) (j:=k) h;unfold qB bK;dsimp only;rw[a]
theorem yN {xs:List D}{k:Nat}{d:D}{M:ax}(h:xs[k]?=some d):qB (.tup xs) (.int k) M=.ok d M:=by
 have a:=gZ (xs:=xs) (j:=k) h;unfold qB bK;dsimp only;rw[a]
theorem qP {ρ:a8}{M:ax}:jX ah ρ M=.ok (.mr M.length) (M++[.lst []]):=by
 show(if([]:List D).length≤sizeLine then aI.ok (D.mr M.length) (M++[.lst []]) else .bad)=_;rw[if_pos (show([]:List D).length≤sizeLine from Nat.zero_le _)]
theorem nw {ga:GA}{ρ:a8}{M M1:ax}{ds:List D}(h:ga ρ M=.ok ds M1)(hl:ds.length≤100000:=by exact Nat.le_of_ble_eq_true rfl):dP ga ρ M=.ok (.tup ds) M1:=by
 have:ds.length≤sizeLine:=ba (by omega);unfold dP;rw[h,ai];unfold ko;rw[if_pos this]
theorem fh {ga:GA}{ρ:a8}{M M1:ax}{ds:List D}(h:ga ρ M=.ok ds M1)(hl:ds.length≤100000:=by exact Nat.le_of_ble_eq_true rfl):cL ga ρ M=.ok (.lst ds) M1:=by
 have:ds.length≤sizeLine:=ba (by omega);unfold cL;rw[h,ai];unfold aH;rw[if_pos this]
theorem aX {g:GE}{r:GA}{ρ:a8}{M M1 M2:ax}{d:D}{ds:List D}(h:g ρ M=.ok d M1)(hr:r ρ M1=.ok ds M2):aa g r ρ M=.ok (d::ds) M2:=by
 unfold aa;rw[h,ai,hr,ai]
theorem wV {go ge:GE}{ρ:a8}{M M1:ax}{k:Nat}{E E1:List D}{d:D}(h1:go ρ M=.ok (.mr k) M)(h2:M[k]?=some (.lst E))(h3:ge ρ M=.ok d M1)(h4:M1[k]?=some (.lst E1))(h:E1.length<1000000) :
  fK go ge ρ M=.ok .non (M1.set k (.lst (E1++[d]))):=by
 have l:E1.length<sizeLine:=Nat.lt_of_lt_of_le h (by rw[sizeLine_eq];decide);unfold fK;rw[h1,ai];dsimp only;rw[h2];dsimp only;rw[h3,ai];unfold lB;rw[h4];dsimp only;rw[if_pos l]
theorem iN {ga:GA}{ρ:a8}{M M1:ax}{n:Nat}(h:ga ρ M=.ok [.int (n:Int)] M1)(hn:n≤1000000):dB ga ρ M=.ok ⟨aT 0 n,none⟩ M1:=by
 unfold dB;rw[h,ai,wL hn]
theorem jr {gi:GI}{sg:GG}{b:GS}{ρ:a8}{M M1:ax}{t:jY}{o:aI Fl}(h:gi ρ M=.ok t M1)(e:bT t sg b t.ds ρ M1=o):iw gi sg b ρ M=o:=by
 unfold iw;rw[h,ai,e]
theorem pP {i j:Int}(h0:-1000000≤i)(h1:i≤1000000)(M:ax):gp (.int i) (.int j) M=.ok (.int (i*j)) M:=by
 have a:-(2 ^ 64:Int)<i:=Int.lt_of_lt_of_le (by decide) h0;have b:i<(2 ^ 64:Int):=Int.lt_of_le_of_lt h1 (by decide);unfold gp;dsimp only;rw[if_pos (.inl ⟨a,b⟩)]
end DL
namespace DL
open PySem L2
end DL
namespace Hd
open PySem PySem.W PySem.Calls PyProof.Rows
def topRunT (tb:String→Option Builtin)(p:Program)(w:World)(n0:Nat)(ann:Option Value):Nat→SharedT→Thread→Option SharedT
 | 0,_,_=>none
 | n+1,s,t=>match through t with
  | true=>some s
  | false=>match stepOk n0 ann t with
   | false=>none
   | true=>match stepT (denote tb) p w s t with
    | some (s',t')=>topRunT tb p w n0 ann n s' t'
    | none=>none
theorem lY {tb:String→Option Builtin}{p:Program}{w:World}{n0:Nat}{ann:Option Value}:∀{n:Nat} {s s':SharedT} {t:Thread},topRunT tb p w n0 ann n s t=some s'→topRun tb p w n0 ann n s.abs t=some s'.abs
 | 0,_,_,_,h=>by cases h
 | n+1,s,s',t,h=>by
  unfold topRunT at h;unfold topRun;cases he:through t with
  | true=>rw[he] at h;cases h;rfl
  | false=>
   rw[he] at h;cases hk:stepOk n0 ann t with
   | false=>rw[hk] at h;cases h
   | true=>
    rw[hk] at h;cases hs:stepT (denote tb) p w s t with
    | none=>rw[hs] at h;cases h
    | some r=>obtain⟨s2,t2⟩:=r;rw[hs] at h;rw[stepT_spec hs];exact lY h
def grow:List Obj→BT→Nat→BT
 | [],t,_=>t
 | o::r,t,n=>grow r (t.ins n o) (n+1)
def zZ:List Obj→BT→Nat→Bool
 | [],_,_=>true
 | o::r,t,n=>((t.ins n o).get n).isSome&&zZ r (t.ins n o) (n+1)
theorem pf (life:Life):∀(l:List Obj) (t:BT) (n:Nat),zZ l t n=true→absHeap (grow l t n) (n+l.length) life=⟨(absHeap t n life).objs++l.toArray,life⟩
 | [],t,n,_=>by simp[grow,absHeap]
 | o::r,t,n,h=>by
  obtain⟨h1,h2⟩:=Bool.and_eq_true_iff.mp h;have e:=pf life r (t.ins n o) (n+1) h2;have e2:absHeap (t.ins n o) (n+1) life=(absHeap t n life).push o:=absHeap_ins h1;show absHeap (grow r (t.ins n o) (n+1)) (n+(r.length+1)) life=_;rw[show n+(r.length+1)=n+1+r.length by omega,e,e2];simp[Heap.push]
theorem qI {p q:Program}{loose:List Str}{Xt:Shared→Bool}{A:Type}{Yf:Shared→A}{Ya:World→A}{N:Nat}{g0:Bool}{H:Params→Heap}{gs:Array GenState}{d:Drawn}{k:Nat}{m:Nat}{ann:Option Value}{T:Params→BT}{lf:Life}
  (open_:∀w:World,(fencedOpening treeTable p w N).map (fun s=>(s.heap,s.gens,s.drawn,s.toks))=some (H w.params,gs,d,k))
  (size:∀w:World,((H w.params).isNs mainGlobals&&gs.size==0,(H w.params).objs.size,(H w.params).nsMap mainGlobals "__annotations__")=(true,m,ann))
  (tree:∀P,H P=absHeap (T P) m lf)
  (run:∀(w:World) (os:OsState),(topRunT treeTable p w m ann N ⟨T w.params,m,lf,gs,d,k,os⟩ (topStub p)).map (fun s=>
    ((staticsOk (importedModules p.main.body) (H w.params) s.abs.heap&&namesBound p s.abs.heap&&gensDone s.abs&&laidKept (H w.params) s.abs.heap),
    openSeen q loose (importedModules p.main.body) Xt g0 s.abs,Yf s.abs))=some (true,openGood q loose,Ya w)):LeftO p q loose Xt Yf Ya N g0:=fun w=>by
 obtain⟨⟨h,gs',d',k',os⟩,e,e'⟩:=Option.map_eq_some_iff.mp (open_ w);obtain⟨rfl,rfl,rfl,rfl⟩:h=H w.params∧gs'=gs∧d'=d∧k'=k:=by simpa using e'
 obtain⟨z1,z2,z3⟩:_∧_∧_:=by simpa only[Prod.mk.injEq] using size w
 obtain⟨s,r1,r2⟩:=Option.map_eq_some_iff.mp (run w os);obtain⟨l1,l2,l3⟩:_∧_∧_:=by simpa only[Prod.mk.injEq] using r2
 have r:=lY r1;have ea:SharedT.abs ⟨T w.params,m,lf,gs',d',k',os⟩=⟨H w.params,gs',d',k',os⟩:=by rw[tree];rfl
 rw[ea] at r;have t:topFrom treeTable p w N ⟨H w.params,gs',d',k',os⟩=some s.abs:=by
  unfold topFrom;dsimp only;rw[z1,z2,z3,r];show(match staticsOk (importedModules p.main.body) (H w.params) s.abs.heap&&namesBound p s.abs.heap&&gensDone s.abs&&laidKept (H w.params) s.abs.heap with|true=>_|false=>_)=_;rw[l1]
 unfold openEnds;rw[e];show(topFrom treeTable p w N _).map _=_;rw[t];exact congrArg some (Prod.ext l2 l3)
noncomputable def bootT (P:Params):BT:=grow (boot_heap P).objs.toList .nil 0
lay_quick Hd.topRunT W.topStub
theorem uh (P:Params):boot_heap P=absHeap (bootT P) 11 {}:=by
 have h:=pf {} (boot_heap P).objs.toList .nil 0 (by kernel_rfl);exact h.symm
noncomputable def RT (p:Program) (w:World) (N:Nat) (os:OsState):Option SharedT:=topRunT treeTable p w 11 (some (Value.ref 6)) N ⟨bootT w.params,11,{},Array.mk [],boot_drawn,boot_toks,os⟩ (topStub p)
noncomputable def pA (p:Program) (P:Params) (s:Shared):Bool:=staticsOk (importedModules p.main.body) (boot_heap P) s.heap&&namesBound p s.heap&&gensDone s&&laidKept (boot_heap P) s.heap
def pB (q:Program)(mods:List Str)(Xt:Shared→Bool)(s:Shared):Bool:=(s.heap.keysOk (looseW q []) ((recsOf q).map (·.name)) ((litsOf q).map (·.1)) ((clssOf q (looseW q [])).map (·.name))&&s.heap.accountedOkI mods&&s.heap.isNs mainGlobals&&s.heap.isNs builtinsNs&&tablesOk q s.heap&&Xt s&&(if true then s.gens.size==0 else !leftWithCleanup s.gens))&&tabsOk q s
def pC (q:Program)(s:Shared):=(seen ((recsOf q).map (·.name)) (ownsOf q) [] {s with gens:=#[]},s.heap.bltView,wideSeen q s)
def pD (q:Program)(s:Shared):=(pinSeenD q (drecsOf q) s,plainSeenE q (looseW q []) s,plainSeenD q [] s,clsSeenW q [] s)
lay_quick Hd.pB
lay_quick Hd.pC
lay_quick Hd.pD
theorem nq {α A B:Type}{x:Option α}{f:α→A}{g:α→B}{a:A}{b:B}(h1:x.map f=some a)(h2:x.map g=some b):x.map (fun s=>(f s,g s))=some (a,b):=by
 cases x with
 | none=>cases h1
 | some s=>exact congrArg some (Prod.ext (Option.some.inj h1) (Option.some.inj h2))
theorem qw {p q:Program}{Xt:Shared→Bool}{A:Type}{Yf:Shared→A}{Ya:World→A}{N:Nat}
  (open_:∀w:World,(fencedOpening treeTable p w N).map (fun s=>(s.heap,s.gens,s.drawn,s.toks))=some (boot_heap w.params,Array.mk [],boot_drawn,boot_toks))
  (size:∀w:World,((boot_heap w.params).isNs mainGlobals&&(Array.mk ([]:List GenState)).size==0,(boot_heap w.params).objs.size,(boot_heap w.params).nsMap mainGlobals "__annotations__")=(true,11,some (Value.ref 6)))
  (r1:∀(w:World) (os:OsState),(RT p w N os).map (fun s=>pA p w.params s.abs&&pB q (importedModules p.main.body) Xt s.abs)=some true)
  (r2:∀(w:World) (os:OsState),(RT p w N os).map (fun s=>pC q s.abs)=some (expectedOf q,bltViewBooted,wideGood q))
  (r3:∀(w:World) (os:OsState),(RT p w N os).map (fun s=>pD q s.abs)=some (pinGoodD (drecsOf q),plainGoodE q (looseW q []),plainGoodD q [],clsGoodW q []))
  (r4:∀(w:World) (os:OsState),(RT p w N os).map (fun s=>Yf s.abs)=some (Ya w)):LeftO p q [] Xt Yf Ya N true:=
 qI open_ size uh fun w os=>by
  show(RT p w N os).map _=_;have h:=nq (nq (r1 w os) (r2 w os)) (nq (r3 w os) (r4 w os));cases e:RT p w N os with
  | none=>rw[e] at h;cases h
  | some s=>
   rw[e] at h;obtain⟨h1,h2⟩:=Prod.mk.inj (Option.some.inj h);obtain⟨h1,h3⟩:=Prod.mk.inj h1;obtain⟨h4,h5⟩:=Prod.mk.inj h2;obtain⟨a,b⟩:=Bool.and_eq_true_iff.mp h1;obtain⟨b,c⟩:=Bool.and_eq_true_iff.mp b;obtain⟨c1,c2⟩:=Prod.mk.inj h3;obtain⟨c2,c3⟩:=Prod.mk.inj c2;obtain⟨d1,d2⟩:=Prod.mk.inj h4;obtain⟨d2,d3⟩:=Prod.mk.inj d2;obtain⟨d3,d4⟩:=Prod.mk.inj d3;exact congrArg some (Prod.ext a (Prod.ext (Prod.ext c1 (Prod.ext c2 (Prod.ext b (Prod.ext c (Prod.ext d1 (Prod.ext d2 (Prod.ext d3 (Prod.ext c3 d4)))))))) h5))
def lk (s:SharedT)(a:Nat):Option Obj:=match Nat.blt a s.n with
 | true=>(match s.tree.get a with
  | some o=>alive o
  | none=>none)
 | false=>none
theorem Ft {s:SharedT}{a:Nat}{o:Obj}(h:lk s a=some o):s.abs.heap.get? a=some o:=by
 unfold lk at h;cases b:Nat.blt a s.n with
 | false=>rw[b] at h;cases h
 | true=>
  rw[b] at h;cases g:s.tree.get a with
  | none=>rw[g] at h;cases h
  | some x=>rw[g] at h;exact(abs_get (Nat.blt_eq.mp b) g).trans h
theorem wF {s:SharedT}{β:Type}{f:β→Obj}:∀{as:List Nat} {l:List β},as.map (lk s)=l.map (fun p=>some (f p))→as.map s.abs.heap.get?=l.map (fun p=>some (f p))
 | [],[],_=>rfl
 | [],_::_,h=>by cases h
 | _::_,[],h=>by cases h
 | a::as,p::l,h=>by
  obtain⟨x,y⟩:=List.cons.inj h;show s.abs.heap.get? a::as.map s.abs.heap.get?=_;rw[Ft x,wF y];rfl
theorem left_k {p q:Program}{Xt:Shared→Bool}{N:Nat}{K:Params→Frag}{as:List Addr}{e:∀P,as=(K P).map (·.1)}
  (open_:∀w:World,(fencedOpening treeTable p w N).map (fun s=>(s.heap,s.gens,s.drawn,s.toks))=some (boot_heap w.params,Array.mk [],boot_drawn,boot_toks))
  (size:∀w:World,((boot_heap w.params).isNs mainGlobals&&(Array.mk ([]:List GenState)).size==0,(boot_heap w.params).objs.size,(boot_heap w.params).nsMap mainGlobals "__annotations__")=(true,11,some (Value.ref 6)))
  (r1:∀(w:World) (os:OsState),(RT p w N os).map (fun s=>pA p w.params s.abs&&pB q (importedModules p.main.body) Xt s.abs)=some true)
  (r2:∀(w:World) (os:OsState),(RT p w N os).map (fun s=>pC q s.abs)=some (expectedOf q,bltViewBooted,wideGood q))
  (r3:∀(w:World) (os:OsState),(RT p w N os).map (fun s=>pD q s.abs)=some (pinGoodD (drecsOf q),plainGoodE q (looseW q []),plainGoodD q [],clsGoodW q []))
  (r4:∀(w:World) (os:OsState),(RT p w N os).map (fun s=>as.map (lk s))=some ((K w.params).map (fun p=>some p.2))) :
  LeftO p q [] Xt (kHook K as e).obs (kHook K as e).val N true:=
 qw open_ size r1 r2 r3 fun w os=>by
  obtain⟨s,h1,h2⟩:=Option.map_eq_some_iff.mp (r4 w os);rw[h1];exact congrArg some (wF h2)
end Hd
namespace K38
open PySem PySem.Spec PyProof.Rows L2 DL List
noncomputable def top (i:Nat):Stmt:=PySem.Challenge.pw_glowrow_k38_packings_least.main.body.getD i (.Pass ⟨0,0,0,0⟩)
noncomputable abbrev zO:Stmt:=top 24
noncomputable abbrev TX:=Tx (("_law_draw",top 21,["tape","many"])::("_law_picture",top 22,["tape","most"])::("best_tail",top 11,["parts","tails","at"])::("signs_of",top 5,["numbers"])::("picture_text",top 7,["picture"])::("many_alike",top 13,["spots","at"])::("many_as_above",top 14,["spots","wide","at"])::("parts_at",top 12,["spots","wide","at"])::("packed",top 10,["picture"])::("read_signs",top 6,["text"])::("read_size",top 16,["text"])::("exactly",top 19,["numbers","many"])::("read_count",top 18,["text"])::("read_part",top 17,["text","at","wide","hues"])::("unpacked",top 15,["text"])::("_law_least",top 23,["picture"])::[])
 ([])
 []
 ("all"::"int"::"isinstance"::"len"::"list"::"min"::"range"::"reversed"::"str"::[]) ["NoText"]
 ([]) []
 ([]) [("SIGNS","0123456789abcdefghijklmnopqrstuvwxyzABCDEFGHIJKLMNOPQRSTUVWXYZ+-")] [("MOST_COUNT",63)]
set_option hygiene false
local macro_rules | `(tactic| walk_at "o") => `(tactic| first | with_reducible exact E6 | with_reducible exact q_addM | with_reducible exact D8 | with_reducible exact Fo | with_reducible exact B1 | with_reducible exact Fa | with_reducible exact DG | with_reducible exact GR | with_reducible exact Ho | with_reducible exact GV | with_reducible exact Hc | with_reducible exact q_is | with_reducible exact q_isnot | with_reducible exact q_in | with_reducible exact q_notin | with_reducible exact q_mulT | with_reducible exact FA | with_reducible exact An | with_reducible exact BB | with_reducible exact q_ninA | ((with_reducible show Q2 _ _ (dIn _)); first | exact q_din hr | exact q_dnotin hr) | ((with_reducible show Q2 _ _ (uJ _)); first | exact q_eqL hr | exact E4 hr) | ((with_reducible show Q2 _ (compareOp .Eq) _); exact Hm hr) | exact Gk hr)
local macro_rules | `(tactic| walk_at "c") => `(tactic| first | ((with_reducible refine FG ?_); rfl) | ((with_reducible refine Dy)) | ((with_reducible refine q_lenT)) | ((with_reducible refine DT)) | ((with_reducible refine q_listT ?_); rfl) | ((with_reducible refine q_listMA ?_); rfl) | ((with_reducible refine yT ?_); rfl) | ((with_reducible refine q_listM)) | ((with_reducible refine q_list)) | ((with_reducible refine Ek ?_); rfl))
local macro_rules | `(tactic| walk_at "b") => `(tactic| with_reducible first | exact Boot.«all» | exact Boot.«int» | exact Boot.«isinstance» | exact Boot.«len» | exact Boot.«list» | exact Boot.«min» | exact Boot.«range» | exact Boot.«reversed» | exact Boot.«str»)
local macro_rules | `(tactic| walk_at "E") => `(tactic| first
  | ((with_reducible show QE _ _ (af _));exact qv _)
  | ((with_reducible show QE _ _ (gC _));first|exact Bn|exact B0|exact C3|exact E7|exact C8 (HJ T.s 0)|exact xZ (HV T.i 0))
  | ((with_reducible show QE _ _ (g2 dGet _ _));refine qe_dget hr ?_ ?_)
  | ((with_reducible show QE _ _ (g2 bx _ _));refine CD ?_ ?_)
  | ((with_reducible show QE _ _ (g2 _ _ _));first|refine DX (by walk_at "o") ?_ ?_|refine AF (by walk_at "o") ?_ ?_|refine qe_cmpI (by walk_at "o") ?_ ?_)
  | ((with_reducible show QE _ _ (ay _ _ _));refine DF (by assumption) hr ?_)
  | ((with_reducible show QE _ _ (dP _));refine B4 ?_)
  | ((with_reducible show QE _ _ (iF _ _));refine DC (by first|exact .inl rfl|exact .inr (.inl rfl)|exact .inr (.inr (.inl rfl))|exact .inr (.inr (.inr (.inl rfl)))|exact .inr (.inr (.inr (.inr rfl)))) (by walk_at "b") (by rfl) (T.z _ (by decide +kernel)) (by rfl) (T.z _ (by decide +kernel)) ?_)
  | ((with_reducible show QE _ _ (aL gk _));refine z4 (BA (k:=0) (hr.mono (by decide))) (by rfl) (T.z _ (by decide +kernel)) (by walk_at "b") ?_)
  | ((with_reducible show QE _ _ (dj _ _ _));refine BJ ?_ ?_ ?_)
  | ((with_reducible show QE _ _ (bA fQ _ _));refine tz ?_ ?_)
  | ((with_reducible show QE _ _ (pL jx _ _));refine tZ ?_ ?_)
  | ((with_reducible show QE _ _ (ph _ _ _ _ _ _ _));refine xB hr ?_ ?_ ?_ ?_)
  | ((with_reducible show QE _ _ (aL _ _));first|refine DP (by walk_at "c") (T.z _ (by decide +kernel)) (by walk_at "b") ?_|refine E5 (by walk_at "c") (by rfl) (T.z _ (by decide +kernel)) (by walk_at "b") ?_)
  | ((with_reducible show QE _ _ (cL _));refine BE ?_)
  | ((with_reducible show QE _ _ (jX _));refine Au ?_)
  | ((with_reducible show QE _ _ (iG _));refine Ah ?_)
  | ((with_reducible show QE _ _ (xh _ _ _ _ _));refine wO (by walk_at "o") (by walk_at "o") ?_ ?_ ?_)
  | ((with_reducible show QE _ _ (mP _ _ _));refine uF ?_ ?_ ?_)
  | ((with_reducible show QE _ _ (aR _ _ _ _));first|refine qe_compR (by assumption) (by kernel_rfl) (by first|exact .inl rfl|exact .inr rfl) ?_ ?_ ?_|refine wD (by kernel_rfl) (by first|exact .inl rfl|exact .inr rfl) ?_ ?_ ?_)
  | ((with_reducible show QE _ _ (bL _ _ _ _ _ _));refine ug (by assumption) (by kernel_rfl) (by first|exact .inl rfl|exact .inr rfl) ?_ ?_ ?_ ?_ ?_)
  | ((with_reducible show QE _ _ (fK _ _));refine uB ?_ ?_)
  | ((with_reducible show QE _ _ (bA _ _ _));first|refine ya ?_ ?_|refine qe_indexS ?_ ?_|refine qe_splitM ?_ ?_|refine qe_split ?_ ?_|refine xK ?_ ?_)
  | ((with_reducible show QE _ _ (pL _ _ _));first|refine qe_popAt ?_ ?_|refine qe_insert ?_ ?_))
local macro_rules | `(tactic| walk_at "S") => `(tactic| first
  | ((with_reducible show QS _ _ (bD _));refine Cj ?_)
  | ((with_reducible show QS _ _ (gn _ _ _));refine D5 ?_ ?_ ?_)
  | ((with_reducible show QS _ _ (aA _ (aR _ _ _ _)));first|refine oU (by assumption) (by kernel_rfl) (by first|exact .inl rfl|exact .inr rfl) nd ?_ ?_ ?_|refine pb (by kernel_rfl) (by first|exact .inl rfl|exact .inr rfl) nd ?_ ?_ ?_|refine qs_setC _ nd ?_)
  | ((with_reducible show QS _ _ (aA _ (bL _ _ _ _ _ _)));first|refine qs_setCompTR (by assumption) (by kernel_rfl) (by first|exact .inl rfl|exact .inr rfl) ?_ nd ?_ ?_ ?_ ?_|refine qs_setC _ nd ?_)
  | ((with_reducible show QS _ _ (aA _ _));refine Cv _ nd ?_)
  | ((with_reducible show QS _ _ (jU _ _));refine AC ?_ ?_)
  | ((with_reducible show QS _ _ (iw _ _ _));refine Bc PassesOwn.leaving ?_ ?_ ?_)
  | ((with_reducible show QS _ _ (cD _));refine xP ?_)
  | ((with_reducible show QS _ _ (i3 _ _ _));refine BZ ?_ ?_ ?_)
  | ((with_reducible show QS _ _ (bn));first|exact qs_pass|exact qs_doc)
  | ((with_reducible show QS _ _ (dh _ _ _));refine v8 PassesOwn.leaving ?_ ?_)
  | ((with_reducible show QS _ _ (cx _ _));refine sZ (T.e _ (by decide +kernel)) ?_)
  | ((with_reducible show QS _ _ (o4 _ _ _));refine CT _ nd rfl ?_)
  | ((with_reducible show QS _ _ (jJ _ _));refine zp _ nd ?_))
local macro_rules | `(tactic| walk_at "Q") => `(tactic| first
  | ((with_reducible show QE _ _ _);first|walk_at "E"|refine CB ?_|refine AD ?_ ?_|refine qe_or ?_ ?_|refine qe_fstr1 ?_)
  | ((with_reducible show QA _ _ _);first|exact C6|refine G0 ?_ ?_)
  | ((with_reducible show QT _ _ _);first
  | ((with_reducible show QT _ _ (aO (xh _ _ _ _ _)));refine qt_chain (by walk_at "o") (by walk_at "o") ?_ ?_ ?_)
  | ((with_reducible show QT _ _ (aO _));first|refine A0 (by walk_at "o") ?_ ?_|refine zI (by walk_at "o") ?_ ?_)
  | ((with_reducible show QT _ _ (cZ _));refine CN ?_)
  | ((with_reducible show QT _ _ (fM _));refine BD ?_)
  | ((with_reducible show QT _ _ (dC _ _));refine Ez ?_)
  | ((with_reducible show QT _ _ (en _ _));refine Ez ?_))
  | ((with_reducible show QB _ _ _);first|((with_reducible show QB _ _ (aq _ (aq (aA _ (uR _ _ _)) _)));refine Bu ?_ (xL (xf Az)) (xn nd ?_) ?_)|exact Bz|refine B2 ?_|refine yr ?_ ?_)
  | ((with_reducible show QS _ _ _);walk_at "S")
  | ((with_reducible show QW _ _ _);first|refine CI ?_ ?_|refine Eu ?_ ?_|refine yy ?_|refine AK ?_)
  | ((with_reducible show QI _ _ _ _);first|((with_reducible show QI _ _ _ (dB _));refine EZ (by rfl) (T.z _ (by decide +kernel)) ?_)|((with_reducible show QI _ _ _ (dD _));refine DK (by rfl) (T.z _ (by decide +kernel)) ?_)|((with_reducible show QI _ _ _ (gEnum _));refine qi_enum (by rfl) (T.z _ (by decide +kernel)) (by walk_at "b") ?_)|((with_reducible show QI _ _ _ (om _));refine Aw (by rfl) (T.z _ (by decide +kernel)) (by rfl) (T.z _ (by decide +kernel)) ?_)|((with_reducible show QI _ _ _ (oF _));refine DH (by rfl) (T.z _ (by decide +kernel)) ?_)|((with_reducible show QI _ _ _ (gEz _));refine qi_ez (by rfl) (T.z _ (by decide +kernel)) (by walk_at "b") (by rfl) (T.z _ (by decide +kernel)) (by walk_at "b") ?_)|refine qi_seq ?_|refine zJ ?_)
  | ((with_reducible show QG _ _ _);first|exact qn _ nd|exact HI _ (by kernel_rfl) |((with_reducible show QG _ _ (zk _));refine Bd ?_)|refine Ae ?_|refine qg_tupG ?_)
  | ((with_reducible show Ds _ _ _);first|exact yl|refine EK ?_ ?_)
  | ((with_reducible show QGG _ _ _);first|exact qgg_nil|refine qgg_c ?_ ?_)
  | ((with_reducible show QP _ _ _);first|exact zG|refine x8 ?_)
  | ((with_reducible show xi _ _ _ _ _ _);first|exact tV|refine uq ?_)
  | ((with_reducible show QO _ _);first|exact qo_one _ _|exact Ao _|refine qo_tupG ?_)
  | ((with_reducible show QOs _ _);first|exact qos_nil|refine qos_c ?_ ?_)
  | ((with_reducible show QF _ _ _);first|exact qf_nil|refine qf_c ?_ ?_)
  | ((with_reducible show QD _ _ _ _ _);first|exact qd_nil|refine qd_c ?_)
  | ((with_reducible show QDV _ _ _ _ _);first|exact qdv_nil|refine qdv_c ?_|refine qdv_v _ ?_)
  | intro _)
section
variable {P:Program}{w:World}{K:W.Frag}{mg:Str→Option Value}{base:Heap}
noncomputable def cO:GS:=(aq (aA 2 (gC (.int 2305843009213693951))) (aq (gn (aO (g2 j6 (g2 bx (af 0) (gC (.int 2))) (af 1))) (aq (aA 3 (gC (.int 0))) (aq (gn (aO (g2 Ce (aL bq (aa (g2 bx (af 0) (gC (.int 0))) ah)) (gC (.int 0)))) (aA 3 (g2 bx (g2 bx (af 0) (gC (.int 0))) (g2 kf (g2 bx (af 0) (gC (.int 1))) (aL bq (aa (g2 bx (af 0) (gC (.int 0))) ah))))) bn) (aq (gn (en (aO (g2 xV (g2 bx (af 0) (gC (.int 1))) (aL bq (aa (g2 bx (af 0) (gC (.int 0))) ah)))) (aO (g2 j6 (af 3) (g2 pv (gC (.int 10)) (gC (.int 18)))))) (aq (aA 3 (g2 kf (g2 az (af 3) (g2 gp (gC (.int 1000003)) (g2 bx (af 0) (gC (.int 1))))) (af 2))) (aq (aA 3 (g2 kf (g2 az (g2 az (g2 gp (af 3) (af 3)) (g2 gp (gC (.int 1181783497276652981)) (af 3))) (gC (.int 2049848353892358983))) (af 2))) (aA 3 (g2 kf (g2 az (g2 gp (af 3) (af 3)) (gC (.int 1442695040888963407))) (af 2))))) bn) (aq (i3 (af 0) (gC (.int 1)) (g2 az (g2 bx (af 0) (gC (.int 1))) (gC (.int 1)))) (i3 (af 0) (gC (.int 2)) (af 3)))))) bn) (aq (aA 4 (g2 kf (g2 bx (af 0) (gC (.int 2))) (af 1))) (aq (i3 (af 0) (gC (.int 2)) (g2 kL (g2 bx (af 0) (gC (.int 2))) (af 1))) (bD (af 4))))))
noncomputable def av:FD:=cV 3 cO
theorem iX (T:TX P w K mg base):Ok P w K mg base "_law_draw" 1 2 av:=hV (hG T.f 0 rfl) ["tape","many","prime","cell","found"] dF rfl fun f _ A _ s H E nd hr=>by delta cO;repeat' walk_at "Q"
noncomputable def b7:GE:=(g2 az (af 6) (ay 2 av (aa (af 1) (aa (af 5) ah))))
noncomputable def bo:GS:=(aq (aA 8 (ay 2 av (aa (af 0) (aa (gC (.int 4)) ah)))) (aq (aA 9 (aR (dB (aa (af 2) ah)) bt b7 aH)) (aq (gn (dC (aO (g2 j6 (af 8) (gC (.int 2)))) (aO (g2 (bc true) (af 6) (cL ah)))) (aA 9 (aL gO (aa (g2 bx (af 6) (ay 2 av (aa (af 0) (aa (aL bq (aa (af 6) ah)) ah)))) ah))) bn) (aq (gn (en (aO (g2 (bc false) (af 8) (gC (.int 1)))) (aO (g2 (bc false) (af 8) (gC (.int 2))))) (aq (aA 10 (ay 2 av (aa (af 0) (aa (af 2) ah)))) (aq (aA 11 (g2 az (af 10) (ay 2 av (aa (af 0) (aa (g2 dr (g2 az (af 2) (gC (.int 1))) (af 10)) ah))))) (aA 9 (g2 az (g2 az (dj (af 9) bJ (aN (af 10))) (g2 lq (cL (aa (g2 az (af 5) (ay 2 av (aa (af 0) (aa (af 4) ah)))) ah)) (g2 dr (af 11) (af 10)))) (dj (af 9) (aN (af 11)) bJ))))) bn) (cD (fK (af 6) (af 9)))))))
noncomputable def bP:GS:=(aq (aA 2 (g2 az (gC (.int 1)) (ay 2 av (aa (af 0) (aa (af 1) ah))))) (aq (aA 3 (g2 az (gC (.int 1)) (ay 2 av (aa (af 0) (aa (af 1) ah))))) (aq (aA 4 (g2 bx (cL (aa (gC (.int 2)) (aa (gC (.int 3)) (aa (gC (.int 64)) ah)))) (ay 2 av (aa (af 0) (aa (gC (.int 3)) ah))))) (aq (aA 5 (ay 2 av (aa (af 0) (aa (g2 dr (gC (.int 65)) (af 4)) ah)))) (aq (aA 6 (jX ah)) (aq (iw (dB (aa (af 3) ah)) (cr 7) bo) (bD (af 6))))))))
noncomputable def de:FD:=fun ds M=>hZ M.length (cV 10 bP ds M)
theorem jZ (T:TX P w K mg base):Ok P w K mg base "_law_picture" 2 2 de:=mI (F:=cV 10 bP) <| hV (hG T.f 1 rfl) ["tape","most","wide","high","hues","first","rows","k","way","row","begin","end"] dF rfl fun f _ A _ s H E nd hr=>by have:=iX T;delta bP b7 bo;repeat' walk_at "Q"
noncomputable def ej:GE:=(g2 az (aL bq (aa (af 0) ah)) (aL bq (aa (g2 bx (af 3) (g2 az (af 4) (af 1))) ah)))
noncomputable def dX:GE:=(g2 az (af 0) (g2 bx (af 3) (g2 az (af 4) (af 1))))
noncomputable def dZ:GT:=(aO (g2 (bc false) (g2 az (aL bq (aa (af 0) ah)) (aL bq (aa (g2 bx (af 3) (g2 az (af 4) (af 1))) ah))) (af 5)))
noncomputable def eV:GS:=(aq (aA 3 (aL gk (aa (bL (bi (af 0)) 2 (jy [0,1]) bt ej aH) ah))) (bD (aL gk (aa (bL (bi (af 0)) 2 (jy [0,1]) dZ dX aH) ah))))
noncomputable def eQ:FD:=cV 1 eV
theorem nB (T:TX P w K mg base):Ok P w K mg base "best_tail" 2 3 eQ:=hV (hG T.f 2 rfl) ["parts","tails","at","fewest"] dF rfl fun f _ A _ s H E nd hr=>by have:=rn 27 17 ["text","many"] ["parts","tails","at","fewest"];have:=rn 28 15 ["text","many"] ["parts","tails","at","fewest"];delta eV ej dX dZ;repeat' walk_at "Q"
noncomputable def gz:GE:=(g2 bx (gC (.str "0123456789abcdefghijklmnopqrstuvwxyzABCDEFGHIJKLMNOPQRSTUVWXYZ+-")) (af 0))
noncomputable def ir:GS:=(bD (bA dN (gC (.str "")) (aR (bi (af 0)) bt gz aH)))
noncomputable def cM:FD:=cV 0 ir
theorem jM (T:TX P w K mg base):Ok P w K mg base "signs_of" 1 1 cM:=hV (hG T.f 3 rfl) ["numbers"] dF rfl fun f _ A _ s H E nd hr=>by delta ir gz;repeat' walk_at "Q"
noncomputable def dL:GE:=(ay 1 cM (aa (af 0) ah))
noncomputable def eD:GS:=(bD (bA dN (gC (.str "\n")) (aR (bi (af 0)) bt dL aH)))
noncomputable def ck:FD:=cV 0 eD
theorem jT (T:TX P w K mg base):Ok P w K mg base "picture_text" 2 1 ck:=hV (hG T.f 4 rfl) ["picture"] dF rfl fun f _ A _ s H E nd hr=>by have:=jM T;delta eD dL;repeat' walk_at "Q"
noncomputable def dW:GS:=(aq (aA 2 (dj (af 0) (aN (af 1)) (aN (g2 az (af 1) (gC (.int 63)))))) (bD (g2 dr (aL bq (aa (af 2) ah)) (aL bq (aa (bA fQ (af 2) (g2 bx (af 0) (af 1))) ah)))))
noncomputable def dY:FD:=cV 1 dW
theorem lE (T:TX P w K mg base):Ok P w K mg base "many_alike" 1 2 dY:=hV (hG T.f 5 rfl) ["spots","at","rest"] dF rfl fun f _ A _ s H E nd hr=>by delta dW;repeat' walk_at "Q"
noncomputable def bR:GS:=(o4 3 true (gC (.int 1)))
noncomputable def bw:GT:=(dC (aO (g2 j6 (af 3) (gC (.int 63)))) (dC (aO (g2 j6 (g2 az (af 2) (af 3)) (aL bq (aa (af 0) ah)))) (aO (g2 (bc false) (g2 bx (af 0) (g2 az (af 2) (af 3))) (g2 bx (af 0) (g2 dr (g2 az (af 2) (af 3)) (af 1)))))))
noncomputable def cK:GS:=(aq (gn (aO (g2 j6 (af 2) (af 1))) (bD (gC (.int 0))) bn) (aq (aA 3 (gC (.int 0))) (aq (dh 5000 bw bR) (bD (af 3)))))
noncomputable def cH:FD:=cV 1 cK
theorem jt (T:TX P w K mg base):Ok P w K mg base "many_as_above" 1 3 cH:=hV (hG T.f 6 rfl) ["spots","wide","at","many"] dF rfl fun f _ A _ s H E nd hr=>by delta cK bR bw;repeat' walk_at "Q"
noncomputable def fc:GE:=(dP (aa (g2 az (g2 az (gC (.str "!")) (g2 bx (gC (.str "0123456789abcdefghijklmnopqrstuvwxyzABCDEFGHIJKLMNOPQRSTUVWXYZ+-")) (af 0))) (dj (af 1) (aN (af 3)) (aN (g2 az (af 3) (af 0))))) (aa (af 0) ah)))
noncomputable def eM:GE:=(dP (aa (g2 az (g2 az (gC (.str "*")) (g2 bx (gC (.str "0123456789abcdefghijklmnopqrstuvwxyzABCDEFGHIJKLMNOPQRSTUVWXYZ+-")) (af 0))) (g2 bx (af 1) (af 3))) (aa (af 0) ah)))
noncomputable def eZ:GE:=(dP (aa (g2 az (gC (.str "^")) (g2 bx (gC (.str "0123456789abcdefghijklmnopqrstuvwxyzABCDEFGHIJKLMNOPQRSTUVWXYZ+-")) (af 0))) (aa (af 0) ah)))
noncomputable def eE:GS:=(aq (aA 3 (aR (dD (aa (gC (.int 1)) (aa (g2 az (aL lz (aa (gC (.int 63)) (aa (g2 dr (aL bq (aa (af 0) ah)) (af 2)) ah))) (gC (.int 1))) ah))) bt fc bN)) (aq (jJ 3 (aR (dD (aa (gC (.int 1)) (aa (g2 az (ay 2 dY (aa (af 0) (aa (af 2) ah))) (gC (.int 1))) ah))) bt eM aH)) (aq (jJ 3 (aR (dD (aa (gC (.int 1)) (aa (g2 az (ay 3 cH (aa (af 0) (aa (af 1) (aa (af 2) ah)))) (gC (.int 1))) ah))) bt eZ aH)) (bD (af 3)))))
noncomputable def fP:FD:=fun ds M=>hZ M.length (cV 1 eE ds M)
theorem oh (T:TX P w K mg base):Ok P w K mg base "parts_at" 2 3 fP:=mI (F:=cV 1 eE) <| hV (hG T.f 7 rfl) ["spots","wide","at","told"] dF rfl fun f _ A _ s H E nd hr=>by have:=lE T;have:=jt T;delta eE fc eM eZ;repeat' walk_at "Q"
noncomputable def eA:GS:=(i3 (af 3) (af 4) (ay 3 eQ (aa (ay 3 fP (aa (af 2) (aa (af 1) (aa (af 4) ah)))) (aa (af 3) (aa (af 4) ah)))))
noncomputable def fD:GS:=(aq (aA 1 (aL bq (aa (g2 bx (af 0) (gC (.int 0))) ah))) (aq (aA 2 (uR "\n" "" (ay 1 ck (aa (af 0) ah)))) (aq (aA 3 (g2 lF (cL (aa (gC (.str "")) ah)) (g2 az (aL bq (aa (af 2) ah)) (gC (.int 1))))) (aq (iw (om (aa (aL bq (aa (af 2) ah)) ah)) (cr 4) eA) (bD (g2 az (ay 1 cM (aa (cL (aa (af 1) (aa (aL bq (aa (af 0) ah)) ah))) ah)) (g2 bx (af 3) (gC (.int 0)))))))))
noncomputable def iQ:FD:=fun ds M=>hZ M.length (cV 4 fD ds M)
theorem ud (T:TX P w K mg base):Ok P w K mg base "packed" 3 1 iQ:=mI (F:=cV 4 fD) <| hV (hG T.f 8 rfl) ["picture","wide","spots","tails","at"] dF rfl fun f _ A _ s H E nd hr=>by have:=nB T;have:=jM T;have:=jT T;have:=oh T;delta fD eA;repeat' walk_at "Q"
noncomputable def fo:GE:=(bA kj (gC (.str "0123456789abcdefghijklmnopqrstuvwxyzABCDEFGHIJKLMNOPQRSTUVWXYZ+-")) (af 0))
noncomputable def fL:GS:=(aq (aA 1 (aR (bi (af 0)) bt fo aH)) (aq (gn (aO (g2 z9 (iG (gC (.int 1))) (af 1))) (cx "NoText" (gC (.str "there is a sign that writes no number"))) bn) (bD (af 1))))
noncomputable def aV:FD:=cV 1 fL
theorem fm (T:TX P w K mg base):Ok P w K mg base "read_signs" 1 1 aV:=hV (hG T.f 9 rfl) ["text","numbers"] dF rfl fun f _ A _ s H E nd hr=>by delta fL fo;repeat' walk_at "Q"
noncomputable def bV:GE:=(xh tD tD (gC (.int 1)) (af 0) (gC (.int 40)))
noncomputable def eP:GS:=(aq (aA 1 (ay 1 aV (aa (af 0) ah))) (aq (gn (en (aO (g2 (bc true) (aL bq (aa (af 1) ah)) (gC (.int 2)))) (cZ (fM (aL jS (aa (aR (bi (af 1)) bt bV aH) ah))))) (cx "NoText" (gC (.str "a picture has 1 to 40 rows of 1 to 40 spots"))) bn) (bD (af 1))))
noncomputable def eT:FD:=cV 1 eP
theorem nj (T:TX P w K mg base):Ok P w K mg base "read_size" 2 1 eT:=hV (hG T.f 10 rfl) ["text","numbers"] dF rfl fun f _ A _ s H E nd hr=>by have:=fm T;delta eP bV;repeat' walk_at "Q"
noncomputable def g6:GS:=(aq (gn (aO (g2 (bc true) (aL bq (aa (af 0) ah)) (af 1))) (cx "NoText" (gC (.str "the text ends amid a part"))) bn) (bD (af 0)))
noncomputable def cb:FD:=cV 0 g6
theorem kB (T:TX P w K mg base):Ok P w K mg base "exactly" 1 2 cb:=hV (hG T.f 11 rfl) ["numbers","many"] dF rfl fun f _ A _ s H E nd hr=>by delta g6;repeat' walk_at "Q"
noncomputable def ek:GS:=(aq (aA 1 (g2 bx (ay 2 cb (aa (ay 1 aV (aa (af 0) ah)) (aa (gC (.int 1)) ah))) (gC (.int 0)))) (aq (gn (aO (g2 (bc false) (af 1) (gC (.int 0)))) (cx "NoText" (gC (.str "a count is 1 or more"))) bn) (bD (af 1))))
noncomputable def dR:FD:=cV 1 ek
theorem lI (T:TX P w K mg base):Ok P w K mg base "read_count" 2 1 dR:=hV (hG T.f 12 rfl) ["text","number"] dF rfl fun f _ A _ s H E nd hr=>by have:=fm T;have:=kB T;delta ek;repeat' walk_at "Q"
noncomputable def cu:GS:=(cD (fK (af 3) (g2 bx (af 3) (iG (af 2)))))
noncomputable def eX:GS:=(aq (aA 4 (g2 bx (af 0) (af 1))) (aq (aA 5 (ay 1 dR (aa (dj (af 0) (aN (g2 az (af 1) (gC (.int 1)))) (aN (g2 az (af 1) (gC (.int 2))))) ah))) (aq (aA 6 (g2 az (af 1) (gC (.int 2)))) (aq (gn (aO (g2 (bc false) (af 4) (gC (.str "!")))) (aq (cD (pL jx (af 3) (aa (ay 2 cb (aa (ay 1 aV (aa (dj (af 0) (aN (af 6)) (aN (g2 az (af 6) (af 5)))) ah)) (aa (af 5) ah))) ah))) (bD (g2 az (af 6) (af 5)))) bn) (aq (gn (aO (g2 (bc false) (af 4) (gC (.str "*")))) (aq (cD (pL jx (af 3) (aa (g2 lq (ay 2 cb (aa (ay 1 aV (aa (dj (af 0) (aN (af 6)) (aN (g2 az (af 6) (gC (.int 1))))) ah)) (aa (gC (.int 1)) ah))) (af 5)) ah))) (bD (g2 az (af 6) (gC (.int 1))))) bn) (aq (gn (en (aO (g2 (bc true) (af 4) (gC (.str "^")))) (aO (g2 j6 (aL bq (aa (af 3) ah)) (af 2)))) (cx "NoText" (gC (.str "there is no such part, or nothing above its spots"))) bn) (aq (iw (dB (aa (af 5) ah)) (cr 7) cu) (bD (af 6)))))))))
noncomputable def eY:FD:=cV 4 eX
theorem ni (T:TX P w K mg base):Ok P w K mg base "read_part" 3 4 eY:=hV (hG T.f 13 rfl) ["text","at","wide","hues","word","many","begin","step"] dF rfl fun f _ A _ s H E nd hr=>by have:=fm T;have:=kB T;have:=lI T;delta eX cu;repeat' walk_at "Q"
noncomputable def cP:GS:=(aA 4 (ay 4 eY (aa (af 0) (aa (af 4) (aa (af 1) (aa (af 3) ah))))))
noncomputable def cR:GT:=(aO (g2 j6 (af 4) (aL bq (aa (af 0) ah))))
noncomputable def eN:GE:=(mP (af 4) (aN (g2 gp (af 0) (af 2))) (aN (g2 gp (g2 az (af 0) (gC (.int 1))) (af 2))))
noncomputable def f9:GS:=(aq (gn (cZ (fM (iF "str" (af 0)))) (cx "NoText" (gC (.str "that is no text"))) bn) (aq (jU (zk [1,2]) (ay 1 eT (aa (dj (af 0) bJ (aN (gC (.int 2)))) ah))) (aq (aA 3 (jX ah)) (aq (aA 4 (gC (.int 2))) (aq (dh 5000 cR cP) (aq (gn (aO (g2 (bc true) (aL bq (aa (af 3) ah)) (g2 gp (af 1) (af 2)))) (cx "NoText" (gC (.str "the parts lay more or fewer spots than there are"))) bn) (bD (aR (dB (aa (af 2) ah)) bt eN aH))))))))
noncomputable def dn:FD:=cV 4 f9
theorem oT (T:TX P w K mg base):Ok P w K mg base "unpacked" 4 1 dn:=hV (hG T.f 14 rfl) ["text","wide","high","hues","at"] dF rfl fun f _ A _ s H E nd hr=>by have:=nj T;have:=ni T;delta f9 cP cR eN;repeat' walk_at "Q"
noncomputable def bF:GS:=(aA 3 (g2 az (af 3) (af 4)))
noncomputable def du:GE:=(dP (aa (g2 az (g2 az (gC (.int 2)) (af 0)) (g2 bx (af 7) (g2 az (af 9) (af 0)))) (aa (g2 az (gC (.str "!")) (g2 bx (af 2) (af 0))) (aa (af 0) ah))))
noncomputable def cE:GS:=(aq (cD (fK (af 9) (dP (aa (g2 az (gC (.int 3)) (g2 bx (af 6) (g2 az (af 8) (af 10)))) (aa (g2 az (gC (.str "*")) (g2 bx (af 1) (af 10))) (aa (af 10) ah)))))) (aA 10 (g2 az (af 10) (gC (.int 1)))))
noncomputable def dt:GT:=(dC (aO (g2 j6 (af 10) (gC (.int 64)))) (dC (aO (g2 tD (g2 az (af 8) (af 10)) (af 5))) (aO (g2 (bc false) (g2 bx (af 3) (g2 dr (g2 az (af 8) (af 10)) (gC (.int 1)))) (g2 bx (af 3) (af 8))))))
noncomputable def cC:GS:=(aq (cD (fK (af 9) (dP (aa (g2 az (gC (.int 2)) (g2 bx (af 6) (g2 az (af 8) (af 10)))) (aa (g2 az (gC (.str "^")) (g2 bx (af 1) (af 10))) (aa (af 10) ah)))))) (aA 10 (g2 az (af 10) (gC (.int 1)))))
noncomputable def dz:GT:=(dC (aO (g2 xV (af 8) (af 2))) (dC (aO (g2 j6 (af 10) (gC (.int 64)))) (dC (aO (g2 tD (g2 az (af 8) (af 10)) (af 5))) (aO (g2 (bc false) (g2 bx (af 3) (g2 dr (g2 az (af 8) (af 10)) (gC (.int 1)))) (g2 bx (af 3) (g2 dr (g2 dr (g2 az (af 8) (af 10)) (gC (.int 1))) (af 2))))))))
noncomputable def bu:GS:=(aq (aA 9 (aR (dD (aa (gC (.int 1)) (aa (g2 az (aL lz (aa (gC (.int 63)) (aa (g2 dr (af 5) (af 8)) ah))) (gC (.int 1))) ah))) bt du bN)) (aq (aA 10 (gC (.int 1))) (aq (dh 5000 dt cE) (aq (aA 10 (gC (.int 1))) (aq (dh 5000 dz cC) (aq (aA 11 (aL gk (aa (af 9) ah))) (aq (i3 (af 6) (af 8) (g2 bx (af 11) (gC (.int 0)))) (i3 (af 7) (af 8) (dj (af 11) (aN (gC (.int 1))) bJ)))))))))
noncomputable def ce:GE:=(g2 bx (af 2) (af 0))
noncomputable def b9:GS:=(aq (jU (jy [13,10]) (g2 bx (af 7) (af 8))) (aq (aA 14 (ph "!" "*" "^" (dj (af 3) (aN (af 8)) (aN (g2 az (af 8) (af 10)))) (dj (af 3) (aN (af 8)) (aN (g2 az (af 8) (gC (.int 1))))) (cL ah) (g2 bx (af 13) (gC (.int 0))))) (aq (aA 12 (g2 az (g2 az (af 12) (af 13)) (bA dN (gC (.str "")) (aR (bi (af 14)) bt ce aH)))) (aA 8 (g2 az (af 8) (af 10))))))
noncomputable def cF:GT:=(aO (g2 j6 (af 8) (af 5)))
noncomputable def cX:GS:=(aq (aA 1 (gC (.str "0123456789abcdefghijklmnopqrstuvwxyzABCDEFGHIJKLMNOPQRSTUVWXYZ+-"))) (aq (aA 2 (aL bq (aa (g2 bx (af 0) (gC (.int 0))) ah))) (aq (aA 3 (cL ah)) (aq (iw (bi (af 0)) (cr 4) bF) (aq (aA 5 (aL bq (aa (af 3) ah))) (aq (aA 6 (g2 lF (cL (aa (gC (.int 0)) ah)) (g2 az (af 5) (gC (.int 1))))) (aq (aA 7 (g2 lF (cL (aa (gC .non) ah)) (g2 az (af 5) (gC (.int 1))))) (aq (iw (oF (aa (g2 dr (af 5) (gC (.int 1))) (aa (iG (gC (.int 1))) (aa (iG (gC (.int 1))) ah)))) (cr 8) bu) (aq (aA 12 (g2 az (g2 bx (af 1) (af 2)) (g2 bx (af 1) (aL bq (aa (af 0) ah))))) (aq (aA 8 (gC (.int 0))) (aq (dh 5000 cF b9) (bD (af 12)))))))))))))
noncomputable def dU:FD:=fun ds M=>hZ M.length (cV 14 cX ds M)
theorem lA (T:TX P w K mg base):Ok P w K mg base "_law_least" 2 1 dU:=mI (F:=cV 14 cX) <| hV (hG T.f 15 rfl) ["picture","signs","wide","spots","row","many","few","ways","at","options","k","best","text","head","told"] dF rfl fun f _ A _ s H E nd hr=>by have:=rn 127 18 ["k"] ["picture","signs","wide","spots","row","many","few","ways","at","options","k.","best","text","head","told"];delta cX bF du cE dt cC dz bu ce b9 cF;repeat' walk_at "Q"
noncomputable def mU:GE:=(aL gO (aa (af 0) ah))
noncomputable def nD:GE:=(iF "list" (af 0))
noncomputable def kP:GS:=(aq (aA 3 (ay 2 de (aa (af 1) (aa (g2 bx (cL (aa (gC (.int 12)) (aa (gC (.int 40)) ah))) (aL lu (aa (jQ (g2 (bc false) (af 2) (gC (.int 0))) (g2 (bc false) (ay 2 av (aa (af 1) (aa (gC (.int 6)) ah))) (gC (.int 0)))) ah))) ah)))) (aq (aA 4 (aR (bi (af 3)) bt mU aH)) (aq (aA 5 (ay 1 iQ (aa (af 4) ah))) (aq (gn (en (cZ (fM (iF "str" (af 5)))) (en (aO (g2 (bc true) (af 5) (ay 1 dU (aa (af 3) ah)))) (aO (g2 (uJ true) (af 4) (af 3))))) (bD (gC (.bl false))) bn) (aq (aA 6 (ay 1 dn (aa (af 5) ah))) (aq (gn (en (aO (g2 (uJ true) (af 6) (af 3))) (en (cZ (fM (iF "list" (af 6)))) (cZ (fM (aL jS (aa (aR (bi (af 6)) bt nD aH) ah)))))) (bD (gC (.bl false))) bn) (aq (cD (fK (g2 bx (af 6) (gC (.int 0))) (gC (.int 0)))) (gn (aO (g2 (uJ true) (ay 1 dn (aa (af 5) ah)) (af 3))) (bD (gC (.bl false))) bn))))))))
noncomputable def qX:GS:=(aq (aA 1 (jX (aa (aL gO (aa (af 0) ah)) (aa (gC (.int 0)) (aa (gC (.int 0)) ah))))) (aq (iw (dB (aa (gC (.int 3)) ah)) (cr 2) kP) (bD (gC (.bl true)))))
noncomputable def rT:FD:=cV 6 qX
theorem A1 (T:TX P w K mg base){f:Addr}{fd:FuncData}(F:Fn K mg "law" zO f fd ["script"]):fB P w K mg base (jP P w) 5 f fd ["script"] (qG K 1 rT):=Eg F.F (N:=["script","tape","turn","picture","handed","found","told"]) dF rfl fun _ A _ s H E hr=>by
 have nd:(["script","tape","turn","picture","handed","found","told"]:List Str).Nodup:=by decide +kernel
 have:=iX T;have:=jZ T;have:=ud T;have:=oT T;have:=lA T;delta qX mU nD kP;repeat' walk_at "Q"
end
end K38
section
open PySem PySem.W PyProof.Rows
noncomputable abbrev K38.VV:Program:=(view PySem.Challenge.pw_glowrow_k38_packings_least [1,2,4,5,6,7,9,10,11,12,13,14,15,16,17,18,19,21,22,23,24])
set_option maxHeartbeats 0 in
theorem K38.h1:∀(w:World) (os:OsState),(Hd.RT (OpenLaw.row PySem.Challenge.rw_glowrow_k38_packings_least).prog w 2002 os).map (fun s=>Hd.pA (OpenLaw.row PySem.Challenge.rw_glowrow_k38_packings_least).prog w.params s.abs&&Hd.pB K38.VV (importedModules (OpenLaw.row PySem.Challenge.rw_glowrow_k38_packings_least).prog.main.body) (fun s=>xlAt K38.VV [] s&&recOk (RowW.records (OpenRow.toRowW (OpenLaw.row PySem.Challenge.rw_glowrow_k38_packings_least))) s) s.abs)=some true:=by
 intro w os;unfold Hd.RT;rw[W.Fast.te15732481512506401174,W.Fast.te2530740449226627131,W.Fast.te13930993214811372802];kernel_rfl
set_option maxHeartbeats 0 in
theorem K38.h2:∀(w:World) (os:OsState),(Hd.RT (OpenLaw.row PySem.Challenge.rw_glowrow_k38_packings_least).prog w 2002 os).map (fun s=>Hd.pC K38.VV s.abs)=some (expectedOf K38.VV,bltViewBooted,wideGood K38.VV):=by
 intro w os;unfold Hd.RT;rw[W.Fast.te15732481512506401174,W.Fast.te2530740449226627131,W.Fast.te7338995916957470747];kernel_rfl
set_option maxHeartbeats 0 in
theorem K38.h3:∀(w:World) (os:OsState),(Hd.RT (OpenLaw.row PySem.Challenge.rw_glowrow_k38_packings_least).prog w 2002 os).map (fun s=>Hd.pD K38.VV s.abs)=some (pinGoodD (drecsOf K38.VV),plainGoodE K38.VV (looseW K38.VV []),plainGoodD K38.VV [],clsGoodW K38.VV []):=by
 intro w os;unfold Hd.RT;rw[W.Fast.te15732481512506401174,W.Fast.te2530740449226627131,W.Fast.te4913325751328045840];kernel_rfl
local macro_rules | `(tactic| o_head $H) => `(tactic| (
 refine holds_open (q:=K38.VV) (loose:=[]) (Xt:=(fun s=>xlAt K38.VV [] s&&recOk (RowW.records (OpenRow.toRowW (OpenLaw.row PySem.Challenge.rw_glowrow_k38_packings_least))) s)) (XP:=XL K38.VV []) (Yf:=Hook.obs $H) (Ya:=Hook.val $H) (YP:=Hook.says $H) (N:=2002) ?hl (Hook.of $H) (Hook.keeps $H) (fun s e=>xl_of s (Bool.and_eq_true_iff.mp e).1) XL.keeps (by rfl) (by rfl) (by rfl) (fun s e=>recFacts_of (Bool.and_eq_true_iff.mp e).2) (by rfl) (by first|assumption|decide +kernel) (by decide +kernel) ⟨rfl,rfl,rfl,rfl,rfl,by decide +kernel⟩ ?hw ?hc;
 (case hl=>
  refine Hd.left_k (boot_open (by kernel_rfl) rfl (fun s=>by kernel_rfl)) (fun w=>by kernel_rfl) K38.h1 K38.h2 K38.h3 ?_;intro w os;unfold Hd.RT;rw[W.Fast.te15732481512506401174,W.Fast.te2530740449226627131];kernel_rfl)))
set_option hygiene false
local macro_rules | `(tactic| walk_at "us") => `(tactic| first | rfl | (exfalso; simp at hl; done) | (cases us with | nil => (first | rfl | cases hl) | cons _ us => walk_at "us"))
local macro_rules | `(tactic| walk_at "kc") => `(tactic| refine' DL.kc_mk KX G ?y0 ?y1 ?y2 ?y3 ?y4 ?y5 ?y6; (case y0 => k_is); (case y1 => k_is); (case y2 => k_is); (case y3 => k_is); (case y4 => k_is); (case y5 => k_is); (case y6 => k_is))
local macro_rules | `(tactic| walk_at "ec") => `(tactic| refine' DL.DO KX G ?w0 ?w1 ?w2 ?w3 ?w4 ?w5 ?w6 ?w7 ?w8 ?w9 ?w10 ?w11; (case w0 => k_is); (case w1 => k_is); (case w2 => k_is); (case w3 => k_is); (case w4 => k_is); (case w5 => k_is); (case w6 => k_is); (case w7 => k_is); (case w8 => k_is); (case w9 => k_exc); (case w10 => k_is); (case w11 => k_is))
local macro_rules | `(tactic| walk_at "ff") => `(tactic| (refine' DL.Ei KX G ?x0 ?x1 ?x2 ?x3 ?x4; (case x0 => k_is); (case x1 => k_is); (case x2 => k_is); (case x3 => k_is); (case x4 => (intro _ _ _ _ _ _ us hl; walk_at "us"))))
local macro_rules | `(tactic| walk_at "mf") => `(tactic| (refine' DL.mf_mk ?x0 ?x1 ?x2 ?x3 ?x4 ?x5 ?x6; (case x0 => walk_at "kc"); (case x1 => k_is); (case x2 => k_is); (case x3 => k_is); (case x4 => k_is); (case x5 => k_is); (case x6 => (intro _ _ _ _ _ _ us hl; walk_at "us"))))
local macro_rules | `(tactic| walk_at "im") => `(tactic| (refine' DL.im_mk ?v0 ?v1; (case v0 => walk_at "ec"); (case v1 => k_is)))
set_option maxRecDepth 100000 in
set_option maxHeartbeats 0 in
theorem K38.pre (ht:∀ns:List Int,ns.length≤63→∃M',K38.rT [.ro (ns.map DL.D.int)] []=.ok (.bl true) M'):PySem.Challenge.rw_glowrow_k38_packings_least.Holds:=by
 w_on;o_law;k_head;(case hw=>w_witness2)
 k_fill
 refine DL.AA (l:=PySem.Challenge.rw_glowrow_k38_packings_least) (n:=63) (k:=5) (x:="script") (F:=K38.rT) rfl (by decide) rfl ⟨rfl,by decide,by decide⟩ (fun w h Y=>W.kIn_of Y) ?F ?t1 ?t2 ?t3 ?t4 ht
 case F=>
  intro w mg fa h KX G hmg;refine DL.B8 (st:=K38.zO) hmg ?L (fun base f fd L=>K38.A1 ?TT L) (fun _ _ _ _ _ _ _=>rfl)
  (case TT=>
   refine DL.Tx.mk ?q0 ?q1 ?q2 ?q3 ?q4 ?q5 ?q6 ?q7 ?q8 ?q9
   (case q0=>((repeat (refine' DL.Ls.cons ?x ?_;(case x=>(walk_at "ff"))));exact DL.Ls.nil))
   (case q1=>((repeat (refine' DL.Ls.cons ?x ?_;(case x=>(walk_at "mf"))));exact DL.Ls.nil))
   (case q2=>((repeat (refine' DL.Ls.cons ?x ?_;(case x=>(walk_at "lf"))));exact DL.Ls.nil))
   (case q3=>((repeat (refine' DL.Ls.cons ?x ?_;(case x=>(refine' DL.Hf KX G ?x0;(case x0=>k_is)))));exact DL.Ls.nil))
   (case q4=>((repeat (refine' DL.Ls.cons ?x ?_;(case x=>(refine' DL.EU ?x0;(case x0=>walk_at "ec")))));exact DL.Ls.nil))
   (case q5=>((repeat (refine' DL.Ls.cons ?x ?_;(case x=>(refine' DL.DD ?u0 ?u1;(case u0=>walk_at "ec");(case u1=>((repeat (refine' DL.Ls.cons ?u2 ?_;(case u2=>walk_at "im")));exact DL.Ls.nil))))));exact DL.Ls.nil))
   (case q6=>((repeat (refine' DL.Ls.cons ?x ?_;(case x=>(walk_at "im"))));exact DL.Ls.nil))
   (case q7=>((repeat (refine' DL.Ls.cons ?x ?_;(case x=>(refine' DL.E3 ?x0 ?x1;(case x0=>walk_at "kc");(case x1=>k_is)))));exact DL.Ls.nil))
   (case q8=>((repeat (refine' DL.Ls.cons ?x ?_;(case x=>(refine' DL.Ew (u:=PySem.Value.str _) KX G ?x0;(case x0=>k_is)))));exact DL.Ls.nil))
   (case q9=>((repeat (refine' DL.Ls.cons ?x ?_;(case x=>(refine' DL.Ew (u:=PySem.Value.int _) KX G ?x0;(case x0=>k_is)))));exact DL.Ls.nil)))
  (case L=>walk_at "ff")
 case t1=>(intro w;k_is)
 case t2=>(intro w;k_is)
 case t3=>(intro w;k_is)
 case t4=>(intro w;k_is)
end
namespace K38
open PySem PySem.Spec PyProof.Rows L2 DL List
local macro_rules | `(tactic| simp_arith [$args,*] $[$loc]?) => `(tactic| first | (dsimp only [aI.bind, aq, aA, gn, bD, i3, cD, bn, jU, af, gC, DL.g2, ay, aL, aa, ah, aO, Dt, fM, yU, en, dC, cZ, jQ, dP, cL, jX, ko, aH, bN, iG, xh, iF, F4, oB, aZ, cV, ju, uD, az, dr, gp, kL, kf, pv, j6, tD, Ce, xV, qB, bK, bq, lz, lu, lg, jS, ms, dB, dD, cr, jy, gU, aN, bJ, jw, oH, eJ, bt, cx, jN, lB, fK, wj, wb, gq, o4, wc, fX, mP, qL, bA, kj, dN, bx, z9, bi, qH, gO, pL, pG] $[$loc]?; simp [aq, aA, gn, bD, i3, cD, bn, jU, af, gC, DL.g2, ay, aL, aa, ah, aO, Dt, fM, yU, en, dC, cZ, jQ, dP, cL, jX, ko, aH, bN, iG, xh, iF, F4, oB, aZ, cV, ju, uD, az, dr, gp, kL, kf, pv, j6, tD, Ce, xV, qB, bK, bq, lz, lu, lg, jS, ms, dB, dD, cr, jy, gU, aN, bJ, jw, oH, eJ, bt, cx, jN, lB, fK, wj, wb, gq, o4, wc, fX, mP, qL, bA, kj, dN, bx, z9, bi, qH, gO, pL, pG, $args,*] $[$loc]?) | simp [aq, aA, gn, bD, i3, cD, bn, jU, af, gC, DL.g2, ay, aL, aa, ah, aO, Dt, fM, yU, en, dC, cZ, jQ, dP, cL, jX, ko, aH, bN, iG, xh, iF, F4, oB, aZ, cV, ju, uD, az, dr, gp, kL, kf, pv, j6, tD, Ce, xV, qB, bK, bq, lz, lu, lg, jS, ms, dB, dD, cr, jy, gU, aN, bJ, jw, oH, eJ, bt, cx, jN, lB, fK, wj, wb, gq, o4, wc, fX, mP, qL, bA, kj, dN, bx, z9, bi, qH, gO, pL, pG, $args,*] $[$loc]?)
noncomputable def tp (l:List Int)(i c:Int):MO:=.lst [.lst (l.map D.int),.int i,.int c]
noncomputable def cN (l:List Int)(au:ax)(M:ax):Prop:=∃i c,0≤i∧M=tp l i c::au
noncomputable def oM (v i:Int):Int:=
 ((((v+1000003*i) % 2305843009213693951*((v+1000003*i) % 2305843009213693951)+1181783497276652981*((v+1000003*i) % 2305843009213693951)+2049848353892358983) % 2305843009213693951) *
  (((v+1000003*i) % 2305843009213693951*((v+1000003*i) % 2305843009213693951)+1181783497276652981*((v+1000003*i) % 2305843009213693951)+2049848353892358983) % 2305843009213693951)+1442695040888963407) % 2305843009213693951
theorem uW {l:List Int}{k:Int}(h0:0≤k)(h1:k<l.length):∃v,li (l.map D.int) k=some (.int v):=by
 obtain⟨n,rfl⟩:=Int.eq_ofNat_of_zero_le h0;have hn:n<l.length:=by omega
 exact⟨l[n],gZ (by simp[hn])⟩
set_option maxRecDepth 100000 in
theorem dg {l:List Int}{au M:ax}{many:Int}(hm:0<many)(hlog:many.natAbs.log2<9000)(h:cN l au M) :
  ∃f M',0≤f∧f<many∧cN l au M'∧av [.mr 0,.int many] M=.ok (.int f) M':=by
 obtain⟨i,c,hi,rfl⟩:=h;have hp:(0:Int)<2305843009213693951:=by decide
 have fin:∀c' i',0≤i'→∃f M',0≤f∧f<many∧cN l au M'∧(aI.ok (D.int (c' % many)) (tp l i' (c' / many)::au):aI D)=.ok (.int f) M':=fun c' i' hi'=>
  ⟨c' % many,_,Int.emod_nonneg _ (by omega),Int.emod_lt_of_pos _ hm,⟨i',c' / many,hi',rfl⟩,rfl⟩
 have i0:pW 3 0=some 0:=by decide
 have i1:pW 3 1=some 1:=by decide
 have i2:pW 3 2=some 2:=by decide
 have a0:∀x y z:D,li [x,y,z] 0=some x:=fun _ _ _=>rfl
 have a1:∀x y z:D,li [x,y,z] 1=some y:=fun _ _ _=>rfl
 have a2:∀x y z:D,li [x,y,z] 2=some z:=fun _ _ _=>rfl
 have b1:∀x:Int,-18446744073709551616<x % 2305843009213693951∧x % 2305843009213693951<18446744073709551616:=fun x=>by
  have h0:=Int.emod_nonneg x (show(2305843009213693951:Int)≠0 by decide);have h1:=Int.emod_lt_of_pos x hp;omega
 by_cases h1:c<many
 ·by_cases hl:l=[]
  ·subst hl;have e:av [.mr 0,.int many] (tp [] i c::au)=.ok (.int (oM 0 i % many)) (tp [] (i+1) (oM 0 i / many)::au):=by
    unfold av cO;simp_arith [oM,tp,a0,a1,a2,i0,i1,i2,h1,hm,hlog,hi,b1]
   rw[e];exact fin _ _ (by omega)
  ·have hl0:0<l.length:=length_pos_iff.mpr hl;obtain⟨v,hv⟩:=uW (l:=l) (k:=i % l.length) (Int.emod_nonneg _ (by omega)) (Int.emod_lt_of_pos _ (by omega))
   by_cases h2:(l.length:Int)≤i∨v<1000000000000000000
   ·have e:av [.mr 0,.int many] (tp l i c::au)=.ok (.int (oM v i % many)) (tp l (i+1) (oM v i / many)::au):=by
     unfold av cO;rcases h2 with h2|h2
     ·simp_arith [oM,tp,a0,a1,a2,i0,i1,i2,h1,h2,hm,hlog,hi,b1,hl0,hv]
     ·by_cases h3:(l.length:Int)≤i
      ·simp_arith [oM,tp,a0,a1,a2,i0,i1,i2,h1,h2,h3,hm,hlog,hi,b1,hl0,hv]
      ·simp_arith [oM,tp,a0,a1,a2,i0,i1,i2,h1,h2,h3,hm,hlog,hi,b1,hl0,hv]
    rw[e];exact fin _ _ (by omega)
   ·have h3:¬(l.length:Int)≤i:=fun z=>h2 (.inl z)
    have h4:¬v<1000000000000000000:=fun z=>h2 (.inr z)
    have e:av [.mr 0,.int many] (tp l i c::au)=.ok (.int (v % many)) (tp l (i+1) (v / many)::au):=by
     unfold av cO;simp_arith [tp,a0,a1,a2,i0,i1,i2,h1,h3,h4,hm,hlog,hi,b1,hl0,hv]
    rw[e];exact fin _ _ (by omega)
 ·have e:av [.mr 0,.int many] (tp l i c::au)=.ok (.int (c % many)) (tp l i (c / many)::au):=by
   unfold av cO;simp_arith [tp,a0,a1,a2,i0,i1,i2,h1,hm,hlog]
  rw[e];exact fin _ _ hi
noncomputable def dm:Str:="0123456789abcdefghijklmnopqrstuvwxyzABCDEFGHIJKLMNOPQRSTUVWXYZ+-"
theorem qZ:dm.cps.toList.length=64:=by decide +kernel
noncomputable def cq (k:Int):Str:=⟨#[dm.cps.toList.getD k.toNat 0]⟩
theorem Ba {k:Int}(h0:0≤k)(h1:k<64):li dm.cps.toList k=some (dm.cps.toList.getD k.toNat 0):=by
 obtain⟨n,rfl⟩:=Int.eq_ofNat_of_zero_le h0;have hn:n<dm.cps.toList.length:=by rw[qZ];omega
 refine gZ ?_;rw[Int.toNat_natCast,List.getD,getElem?_eq_getElem hn];rfl
theorem tm:dm.length≤sizeLine:=by
 have:dm.length=64:=by decide +kernel
 rw[this];exact ba (by decide)
theorem gX {α:Type}(f:α→Str):∀xs:List α,gu (xs.map fun x=>D.str (f x))=some (xs.map f)
 | []=>rfl
 | x::xs=>by
  show(gu (xs.map fun x=>D.str (f x))).map (f x::·)=_;rw[gX f xs];rfl
theorem oQ {sep:Str}{ys:List Str}{n:Nat}(hy:∀y∈ys,y.length≤n)(h:ys.length*n+ys.length*sep.length≤16777216):JoinOk sep ys=true:=by
 unfold JoinOk;rw[StrLaws.joinFits hy h];rfl
noncomputable def ag (ks:List Int):Str:=Txt.join "" (ks.map cq)
theorem i4 (k:Int):(cq k).length=1:=rfl
theorem fO {k:Int}{M:ax}(h0:0≤k)(h1:k<64):bx (.str dm) (.int k) M=.ok (.str (cq k)) M:=by
 have e:=Ba h0 h1;unfold bx;dsimp only;rw[if_pos tm,e];rfl
theorem kJ {ks:List Int}(hk:∀k∈ks,0≤k∧k<64)(hl:ks.length≤1000):JoinOk "" (ks.map cq)=true:=by
 refine oQ (n:=1) (fun y hy=>?_) ?_
 ·obtain⟨k,_,rfl⟩:=mem_map.mp hy;exact Nat.le_of_eq (i4 k)
 ·have:("":Str).length=0:=by decide +kernel
  rw[this,length_map];omega
theorem mi {ks:List Int}{M:ax}(hk:∀k∈ks,0≤k∧k<64)(hl:ks.length≤1000):cM [.lst (ks.map D.int)] M=.ok (.str (ag ks)) M:=by
 have c:=gD (ds0:=ks.map D.int) (ge:=gz) (ρ:=[some (.lst (ks.map D.int))]) (f:=fun d=>match d with | .int k=>.str (cq k)|d=>d) (M:=M) (ks.map D.int) fun d hd=>by
  obtain⟨k,hk',rfl⟩:=mem_map.mp hd;have e:=fO (M:=M) (hk k hk').1 (hk k hk').2;unfold dm at e;show g2 bx _ _ _ _=_;unfold DL.g2 gC af;exact e
 rw[map_map] at c;have ec:(List.map ((fun d=>match d with | .int k=>D.str (cq k)|d=>d) ∘ D.int) ks)=ks.map fun k=>D.str (cq k):=map_congr_left fun _ _=>rfl
 rw[ec] at c;have l1:ks.length≤sizeLine:=ba (by omega);have s1:=gX cq ks;have j1:=kJ hk hl;unfold cM ir ag;simp[aR,c,l1,s1,j1,bD,bA,dN,gC,bi,qH,ms,af,cV,ju,aZ,aH,jN,ai]
noncomputable def aw (c:Nat):Int:=Txt.find dm ⟨#[c]⟩
noncomputable def bp (x:Str):List Int:=x.cps.toList.map aw
theorem zH (ks:List Int):((ks.map D.int).any fun y=>mx y (.int (-1)))=ks.any (·==-1):=by
 rw[any_map];rfl
theorem my:∀ks:List Int,(ks.map D.int).all eJ=true
 | []=>rfl
 | k::ks=>by rw[map_cons,all_cons,my ks];rfl
theorem wW {x:Str}{M:ax}(hx:x.cps.size≤100000) :
  aV [.str x] M=if(bp x).any (·==-1) then .err "NoText" M else .ok (.lst ((bp x).map D.int)) M:=by
 have c:=gD (ds0:=dM x) (ge:=fo) (ρ:=[some (.str x),none]) (f:=fun d=>match d with | .str ⟨cs⟩=>.int (Txt.find dm ⟨cs⟩)|d=>d) (M:=M) (dM x) fun d hd=>by
  obtain⟨n,_,rfl⟩:=mem_map.mp hd;rfl
 have ec:(dM x).map (fun d=>match d with | .str ⟨cs⟩=>.int (Txt.find dm ⟨cs⟩)|d=>d)=(bp x).map D.int:=by
  unfold dM bp;rw[map_map,map_map];exact map_congr_left fun _ _=>rfl
 rw[ec] at c;have l0:(bp x).length=x.cps.size:=by simp[bp]
 have l1:(bp x).length≤sizeLine:=by rw[l0];exact ba (by omega)
 have f1:=my (bp x);have a1:=zH (bp x);have i1:z9 (.int (-1)) (.lst ((bp x).map D.int)) M=.ok (.bl ((bp x).any (·==-1))) M:=by
  unfold z9;dsimp only;unfold oH;show(if eJ (.int (-1))&&((bp x).map D.int).all eJ then aI.ok (D.bl ((((bp x).map D.int).any fun y=>mx y (.int (-1))) != false)) M else .bad)=_;rw[f1,a1];simp[eJ]
 generalize (bp x).any (·==-1)=b at i1 ⊢;unfold aV fL;cases b <;> simp[aR,c,l1,i1,aq,aA,gn,bD,bn,cx,aO,Dt,DL.g2,iG,gC,bi,qH,af,cV,ju,aZ,aH,ai]
theorem pc:∀ks:List Int,((ks.map cq).map (·.length)).sum=ks.length
 | []=>rfl
 | k::ks=>by
  rw[map_cons,map_cons,sum_cons,pc ks,i4,length_cons];omega
theorem oq (ks:List Int):(ag ks).length≤ks.length:=by
 have h:=StrLaws.join_length_le "" (ks.map cq);have z:("":Str).length=0:=by decide +kernel
 rw[z,Nat.mul_zero,Nat.add_zero,pc] at h;unfold ag Txt.join;rw[StrLaws.glued_eq_join];exact h
noncomputable def fb (rs:List (List Int)):Str:=Txt.join "\n" (rs.map ag)
noncomputable def aj (rs:List (List Int)):List D:=rs.map fun r=>D.lst (r.map D.int)
theorem pH {rs:List (List Int)}{M:ax}(hr:∀r∈rs,r.length≤40∧∀k∈r,0≤k∧k<64)(hl:rs.length≤40):ck [.lst (aj rs)] M=.ok (.str (fb rs)) M:=by
 have c:=gD (ds0:=aj rs) (ge:=dL) (ρ:=[some (.lst (aj rs))]) (f:=fun d=>match d with | .lst xs=>.str (ag (xs.map fun d=>match d with | .int k=>k|_=>0))|d=>d) (M:=M) (aj rs) fun d hd=>by
  obtain⟨r,hr',rfl⟩:=mem_map.mp hd;have e:=mi (M:=M) (hr r hr').2 (by have:=(hr r hr').1;omega);have er:(r.map D.int).map (fun d=>match d with | .int k=>k|_=>(0:Int))=r:=by rw[map_map];exact map_id' _ |>.symm▸rfl
  show cM [.lst (r.map D.int)] M=.ok (.str (ag ((r.map D.int).map fun d=>match d with | .int k=>k|_=>0))) M;rw[er,e]
 have em:(aj rs).map (fun d=>match d with | .lst xs=>D.str (ag (xs.map fun d=>match d with | .int k=>k|_=>0))|d=>d)=rs.map fun r=>D.str (ag r):=by
  unfold aj;rw[map_map];refine map_congr_left fun r _=>?_
  show D.str (ag ((r.map D.int).map fun d=>match d with | .int k=>k|_=>0))=_;rw[map_map];congr 2;exact map_id'' (fun _=>rfl) r
 rw[em] at c;have l0:(aj rs).length=rs.length:=length_map ..;have s1:=gX ag rs;have j1:JoinOk "\n" (rs.map ag)=true:=by
  refine oQ (n:=40) (fun y hy=>?_) ?_
  ·obtain⟨r,hr',rfl⟩:=mem_map.mp hy;exact Nat.le_trans (oq r) (hr r hr').1
  ·have:("\n":Str).length=1:=by decide +kernel
   rw[this,length_map];omega
 have lb:(rs.map fun r=>D.str (ag r)).length≤sizeLine:=by rw[length_map];exact ba (by omega)
 generalize rs.map (fun r=>D.str (ag r))=bd at *;generalize aj rs=rd at *;unfold ck eD fb;simp[aR,c,lb,s1,j1,bD,bA,dN,gC,bi,qH,ms,af,cV,ju,aZ,aH,jN,ai]
theorem vN {x y:Str}(h:Builtin.Str.occurrences x y 0 x.length 1=[]):Txt.find x y=-1:=by simp[Txt.find,h]
theorem tB {x y:Str}{i:Nat}{r:List Nat}(h:Builtin.Str.occurrences x y 0 x.length 1=i::r):Txt.find x y=(i:Int):=by simp[Txt.find,h]
noncomputable def ft (x:Str):Prop:=∀c∈x.cps.toList,c<0x110000
theorem iR {x:Str}(h:ft x):PyData.strOk x=true:=by
 unfold PyData.strOk;rw[←Array.all_toList,all_eq_true];intro c hc;exact decide_eq_true (h c hc)
theorem bY {a b:Str}(h:a.cps.toList=b.cps.toList):a=b:=Str.ext' (Array.toList_inj.mp h)
theorem nG (sep:Str)(ps:List Str):Txt.join sep ps=Str.join sep ps:=StrLaws.glued_eq_join sep ps
theorem nT:∀ps:List Str,(Txt.join "" ps).cps.toList=(ps.map fun p=>p.cps.toList).flatten:=by
 intro ps;rw[nG]
 induction ps with
 | nil=>rfl
 | cons p r ih=>
  cases r with
  | nil=>simp[Str.join]
  | cons q r=>
   show(p++""++Str.join "" (q::r)).cps.toList=_;simp only[Str.cps_append,Array.toList_append];rw[ih];simp only[map_cons,flatten_cons];have:(("":Str).cps.toList:List Nat)=[]:=by decide +kernel
   rw[this,append_nil]
theorem aF (x:Str):x.cps.toList.length=x.cps.size:=Array.length_toList
theorem jl {x:Str}{n c:Nat}(h:x.cps.toList[n]?=some c)(hx:x.cps.size≤90000)(M:ax):bx (.str x) (.int n) M=.ok (.str ⟨#[c]⟩) M:=by
 have e:=gZ (xs:=x.cps.toList) (j:=n) h;have hl:x.length≤sizeLine:=ba (show x.cps.size≤1000000 by omega);show(if x.length≤sizeLine then(match li x.cps.toList (n:Int) with|some c=>aI.ok (D.str ⟨#[c]⟩) M|none=>.bad) else .bad)=_;rw[if_pos hl,e]
theorem iM {c:Nat}(h:c<0x110000):ft ⟨#[c]⟩:=fun d hd=>by
 have hd:d∈[c]:=hd;rw[mem_singleton] at hd;rw[hd];exact h
theorem fT {x:Str}(hx:x.cps.size≤90000)(M:ax):bq [.str x] M=.ok (.int x.cps.size) M:=by
 have hl:x.length≤sizeLine:=ba (show x.cps.size≤1000000 by omega);show(if x.length≤sizeLine then aI.ok (D.int x.length) M else .bad)=_;rw[if_pos hl];rfl
theorem Hv {a b:Str}(ha:ft a)(hb:ft b)(M:ax):bc true (.str a) (.str b) M=.ok (.bl (!decide (a=b))) M:=by
 have h1:=iR ha;have h2:=iR hb;show(if(PyData.strOk a&&PyData.strOk b)=true then aI.ok (D.bl ((a==b) != true)) M else .bad)=_;rw[h1,h2]
 by_cases q:a=b <;> simp[q]
theorem HM {a b:Str}(ha:ft a)(hb:ft b)(M:ax):bc false (.str a) (.str b) M=.ok (.bl (decide (a=b))) M:=by
 have h1:=iR ha;have h2:=iR hb;show(if(PyData.strOk a&&PyData.strOk b)=true then aI.ok (D.bl ((a==b) != false)) M else .bad)=_;rw[h1,h2]
 by_cases q:a=b <;> simp[q]
theorem oN {x:Str}(h:(x.cps.toList.all fun c=>decide (c<0x110000))=true):ft x:=fun c hc=>of_decide_eq_true (all_eq_true.mp h c hc)
theorem xp {n k:Nat}(h:k<n):pW n (k:Int)=some k:=by
 unfold pW;rw[if_pos (by omega)];simp[h]
theorem jh (M:ax)(E:List D):(M++[MO.lst E])[M.length]?=some (.lst E):=by simp
theorem kt (M:ax)(E E':List D):(M++[MO.lst E]).set M.length (.lst E')=M++[MO.lst E']:=by simp
theorem wn {F:List D→List D→Option (D×List D)}{go:GE}{ga:GA}{ρ:a8}{M:ax}{k:Nat}{xs ds:List D}{r:D×List D}(h1:go ρ M=.ok (.mr k) M)(h2:pG M k=some xs)(h3:ga ρ M=.ok ds M)(h4:F xs ds=some r):pL F go ga ρ M=.ok r.1 (M.set k (.lst r.2)):=by
 unfold pL;rw[h1,ai];dsimp only;rw[h2];dsimp only;rw[h3,ai,h2];dsimp only;rw[h4]
theorem bM {x:Int}(h0:0<x)(h1:x≤1000000):x.natAbs.log2<9000:=by
 have h2:x.natAbs<2 ^ 20:=by omega
 have h3:x.natAbs≠0:=by omega
 have:=(Nat.log2_lt h3).mpr h2;omega
theorem nU {l:List Int}{au M:ax}(h:cN l au M):M.length=au.length+1:=by obtain⟨i,c,_,rfl⟩:=h;rfl
theorem k8 {l:List Int}{au M:ax}(h:cN l au M)(E:ax):cN l (au++E) (M++E):=by obtain⟨i,c,hi,rfl⟩:=h;exact⟨i,c,hi,rfl⟩
theorem Bf:ft "":=oN (by decide +kernel)
theorem fA {gi:GI}{gc:GT}{ge:GE}{ρ:a8}{ds es:List D}{M M1 M2:ax}(hi:gi ρ M=.ok ⟨ds,none⟩ M1)(he:cj ⟨ds,none⟩ gc ge ds ρ M1=.ok es M2)(hl:es.length≤1000000):aR gi gc ge aH ρ M=.ok (.lst es) M2:=by
 unfold aR;rw[hi,ai];dsimp only;rw[he,ai];unfold aH;rw[if_pos (ba hl)]
noncomputable def jW (k:Int):Prop:=0≤k∧k<64
noncomputable def pK (w:Nat)(r:List Int):Prop:=r.length=w∧∀k∈r,jW k
theorem mK {P:Int→Prop}:∀{es:List D},(∀e∈es,∃k,e=.int k∧P k)→∃r:List Int,es=r.map D.int∧∀k∈r,P k
 | [],_=>⟨[],rfl,fun _ h=>by cases h⟩
 | e::es,h=>by
  obtain⟨k,rfl,hk⟩:=h e mem_cons_self;obtain⟨r,rfl,hr⟩:=mK fun e' h'=>h e' (mem_cons_of_mem _ h')
  refine⟨k::r,rfl,fun x hx=>?_⟩;rcases mem_cons.mp hx with rfl|hx
  ·exact hk
  ·exact hr x hx
noncomputable abbrev pE (most wide high hues first:Int)(k:Nat)(a b c d e:Option D):a8:=[some (.mr 0),some (.int most),some (.int wide),some (.int high),some (.int hues),some (.int first),some (.mr k),a,b,c,d,e]
section
variable {l:List Int}{au M:ax}{most high hues first:Int}{w k:Nat}{a b c d e:Option D}
theorem uC {ρ:a8}(h1:ρ[0]?=some (some (.mr 0)))(h2:ρ[4]?=some (some (.int hues)))(h3:ρ[5]?=some (some (.int first)))(f0:0≤first)(u0:1≤hues)(fu:first+hues≤64)(hM:cN l au M) :
  ∃v M',jW v∧cN l au M'∧g2 az (af 5) (ay 2 av (aa (af 0) (aa (af 4) ah))) ρ M=.ok (.int v) M':=by
 obtain⟨f,M1,a1,b1,t1,e1⟩:=dg (many:=hues) (by omega) (bM (by omega) (by omega)) hM;refine⟨first+f,M1,⟨by omega,by omega⟩,t1,?_⟩;refine ao (x:=.int first) (M1:=M) ?_ (eO (x:=.mr 0) (M1:=M) ?_ (y:=.int hues) (M2:=M) ?_ e1) rfl
 ·unfold af;rw[h3]
 ·unfold af;rw[h1]
 ·unfold af;rw[h2]
theorem sL (f0:0≤first)(u0:1≤hues)(fu:first+hues≤64)(hw:w≤1000)(hM:cN l au M) :
  ∃r M',pK w r∧cN l au M'∧aR (dB (aa (af 2) ah)) bt b7 aH (pE most w high hues first k a b c d e) M=.ok (.lst (r.map D.int)) M':=by
 obtain⟨es,M1,t1,l1,q1,e1⟩:=nQ (ds0:=aT 0 w) (ge:=b7) (ρ:=pE most w high hues first k a b c d e) (P:=cN l au) (Q:=fun e=>∃k,e=.int k∧jW k) (aT 0 w) (fun d' _ M hM=>by
  obtain⟨f,M1,a1,b1,t1,e1⟩:=dg (many:=hues) (by omega) (bM (by omega) (by omega)) hM;exact⟨.int (first+f),M1,t1,⟨first+f,rfl,by omega,by omega⟩,ao (x:=.int first) (M1:=M) rfl (eO (x:=.mr 0) (M1:=M) rfl (y:=.int hues) (M2:=M) rfl e1) rfl⟩) M hM
 obtain⟨r,rfl,hr⟩:=mK q1;have lr:r.length=w:=by
  rw[length_map] at l1;rw[l1];simp[aT]
 refine⟨r,M1,⟨lr,hr⟩,t1,fA (iN (n:=w) (aX (d:=.int w) (M1:=M) rfl rfl) (by omega)) e1 (by rw[length_map,lr];omega)⟩
noncomputable def fE (w:Nat)(rs:List (List Int)):Prop:=∀r∈rs,pK w r
theorem oK:∀(n:Nat) (r:List Int),aY n (r.map D.int)=true
 | _,[]=>by rw[map_nil];unfold aY;rfl
 | n,k::r=>by
  rw[map_cons];unfold aY;rw[oK n r];unfold bO;rfl
theorem kS:∀(n:Nat) (rs:List (List Int)),aY (n+1) (aj rs)=true
 | _,[]=>by unfold aj;rw[map_nil];unfold aY;rfl
 | n,r::rs=>by
  have ih:=kS n rs;have c:=oK n r;show aY (n+1) (D.lst (r.map D.int)::aj rs)=true;unfold aY;rw[ih];show(aY n (r.map D.int)&&true)=true;rw[c];rfl
theorem C1 {rs:List (List Int)}(hm:M[k]?=some (.lst (aj rs))):bc true (.mr k) (.lst []) M=.ok (.bl (!rs.isEmpty)) M:=by
 have e:fH (.mr k) M=.lst (aj rs):=by simp[fH,hm]
 unfold bc;rw[e];show(if(aY 39 (aj rs)&&aY 39 [])=true then aI.ok (D.bl (mx (.lst (aj rs)) (.lst []) != true)) M else .bad)=_;rw[kS 38 rs];cases rs with
 | nil=>rfl
 | cons r rs=>rfl
theorem kU {xs:List D}(hm:M[k]?=some (.lst xs)):bK (.mr k) M=some xs:=by simp[bK,hm]
theorem qq {xs:List D}(hm:M[k]?=some (.lst xs)):bq [.mr k] M=.ok (.int xs.length) M:=by
 show(match bK (.mr k) M with|some xs=>aI.ok (D.int xs.length) M|none=>.bad)=_;rw[kU hm]
theorem ng {xs:List D}{n:Nat}{x:D}(hm:M[k]?=some (.lst xs))(h:xs[n]?=some x):bx (.mr k) (.int n) M=.ok x M:=by
 have a:=gZ (xs:=xs) (j:=n) h;show qB (.mr k) (.int n) M=_;unfold qB;rw[kU hm];dsimp only;rw[a]
theorem iS {xs:List D}(h:cN l (au++[.lst xs]) M):M[au.length+1]?=some (.lst xs):=by
 obtain⟨i,c,_,rfl⟩:=h;simp
theorem vf {xs ys:List D}(h:cN l (au++[.lst xs]) M):cN l (au++[.lst ys]) (M.set (au.length+1) (.lst ys)):=by
 obtain⟨i,c,hi,rfl⟩:=h;refine⟨i,c,hi,?_⟩;rw[set_cons_succ,set_append_right _ _ (Nat.le_refl _),Nat.sub_self];rfl
noncomputable def Gq:GT:=(dC (aO (g2 j6 (af 8) (gC (.int 2)))) (aO (g2 (bc true) (af 6) (cL ah))))
noncomputable def HB:GE:=(aL gO (aa (g2 bx (af 6) (ay 2 av (aa (af 0) (aa (aL bq (aa (af 6) ah)) ah)))) ah))
theorem uM {rs:List (List Int)}{r:List Int}{way:Int}(hrs:fE w rs)(hl:rs.length≤1000)(hr:pK w r)(hM:cN l (au++[.lst (aj rs)]) M) :
  ∃r' M',pK w r'∧cN l (au++[.lst (aj rs)]) M'∧gn Gq (aA 9 HB) bn (pE most w high hues first (au.length+1) a (some (.int way)) (some (.lst (r.map D.int))) d e) M=.ok (.nx (pE most w high hues first (au.length+1) a (some (.int way)) (some (.lst (r'.map D.int))) d e)) M':=by
 have hc:Gq (pE most w high hues first (au.length+1) a (some (.int way)) (some (.lst (r.map D.int))) d e) M=.ok (decide (way<2)&&!rs.isEmpty) M:=
  df (a5 (ao (x:=.int way) (M1:=M) rfl (y:=.int 2) (M2:=M) rfl rfl)) fun _=>a5 (ao (x:=.mr (au.length+1)) (M1:=M) rfl (y:=.lst []) (M2:=M) (fh rfl) (C1 (iS hM)))
 by_cases h:way<2∧rs≠[]
 ·have h0:0<rs.length:=length_pos_iff.mpr h.2;obtain⟨f,M1,a1,b1,t1,e1⟩:=dg (many:=(rs.length:Int)) (by omega) (bM (by omega) (by omega)) hM;obtain⟨n,rfl⟩:=Int.eq_ofNat_of_zero_le a1;have hn:n<rs.length:=by omega
  refine⟨rs[n],M1,hrs _ (getElem_mem hn),t1,?_⟩;have he:rs.isEmpty=false:=by cases rs with|nil=>exact absurd rfl h.2|cons _ _=>rfl
  rw[lJ (hc.trans (by rw[decide_eq_true h.1,he];rfl))];have l1:=qq (iS hM);rw[show(aj rs).length=rs.length from length_map ..] at l1;have i1:=ng (n:=n) (x:=.lst (rs[n].map D.int)) (iS t1) (by unfold aj;rw[getElem?_map,getElem?_eq_getElem hn];rfl);exact aD (i:=9) (dq (ao (x:=.mr (au.length+1)) (M1:=M) rfl (eO (x:=.mr 0) (M1:=M) rfl (dq (x:=.mr (au.length+1)) (M1:=M) rfl l1) e1) i1) rfl)
 ·refine⟨r,M,hr,hM,?_⟩;rw[i5 (hc.trans (by
   by_cases q:way<2
   ·have:rs=[]:=Classical.byContradiction fun z=>h ⟨q,z⟩
    rw[this,decide_eq_true q];rfl
   ·rw[decide_eq_false q];rfl))]
  rfl
noncomputable def Gx:GT:=(en (aO (g2 (bc false) (af 8) (gC (.int 1)))) (aO (g2 (bc false) (af 8) (gC (.int 2)))))
noncomputable def Gu:GE:=(ay 2 av (aa (af 0) (aa (af 2) ah)))
noncomputable def FR:GE:=(g2 az (af 10) (ay 2 av (aa (af 0) (aa (g2 dr (g2 az (af 2) (gC (.int 1))) (af 10)) ah))))
noncomputable def DY:GE:=(g2 az (g2 az (dj (af 9) bJ (aN (af 10))) (g2 lq (cL (aa (g2 az (af 5) (ay 2 av (aa (af 0) (aa (af 4) ah)))) ah)) (g2 dr (af 11) (af 10)))) (dj (af 9) (aN (af 11)) bJ))
theorem uL {xs:List D}{n:Nat}(h:n≤xs.length)(M:ax):ik (.lst xs) none (some (n:Int)) M=.ok (.lst (xs.take n)) M:=by
 show aI.ok (D.lst (gT xs none (some (n:Int)))) M=_;unfold gT;rw[HT.sIx_none,HT.sIx_nat,drop_zero,Nat.sub_zero,Nat.min_eq_left h]
theorem wt {xs:List D}{n:Nat}(h:n≤xs.length)(M:ax):ik (.lst xs) (some (n:Int)) none M=.ok (.lst (xs.drop n)) M:=by
 show aI.ok (D.lst (gT xs (some (n:Int)) none)) M=_;unfold gT;rw[HT.sIx_none,HT.sIx_nat,Nat.min_eq_left h,take_of_length_le (by rw[length_drop];exact Nat.le_refl _)]
theorem fq {g:GE}{gl gh:GO}{ρ:a8}{M M1 M2 M3:ax}{x:D}{lo hi:Option Int}{o:aI D}(h1:g ρ M=.ok x M1)(h2:gl ρ M1=.ok lo M2)(h3:gh ρ M2=.ok hi M3)(h:ik x lo hi M3=o):dj g gl gh ρ M=o:=by
 unfold dj;rw[h1,ai,h2,ai,h3,ai,h]
theorem ny (v:Int)(n:Nat):(List.replicate n [D.int v]).flatten=(List.replicate n v).map D.int:=by
 induction n with
 | zero=>rfl
 | succ n ih=>rw[replicate_succ,flatten_cons,ih];rfl
theorem zf {r:List Int}{way:Int}(f0:0≤first)(u0:1≤hues)(fu:first+hues≤64)(hw0:0<w)(hw:w≤1000)(hr:pK w r)(hM:cN l au M) :
  ∃r' M' d' e',pK w r'∧cN l au M'∧gn Gx (aq (aA 10 Gu) (aq (aA 11 FR) (aA 9 DY))) bn (pE most w high hues first k a (some (.int way)) (some (.lst (r.map D.int))) d e) M=.ok (.nx (pE most w high hues first k a (some (.int way)) (some (.lst (r'.map D.int))) d' e')) M':=by
 have hc:Gx (pE most w high hues first k a (some (.int way)) (some (.lst (r.map D.int))) d e) M=.ok (decide (way=1)||decide (way=2)) M:=
  gx (a5 (ao (x:=.int way) (M1:=M) rfl (y:=.int 1) (M2:=M) rfl (jG _ _ M))) fun _=>a5 (ao (x:=.int way) (M1:=M) rfl (y:=.int 2) (M2:=M) rfl (jG _ _ M))
 by_cases h:(decide (way=1)||decide (way=2))=true
 ·obtain⟨f1,M1,a1,b1,t1,e1⟩:=dg (many:=(w:Int)) (by omega) (bM (by omega) (by omega)) hM;obtain⟨f2,M2,a2,b2,t2,e2⟩:=dg (many:=(w:Int)+1-f1) (by omega) (bM (by omega) (by omega)) t1;obtain⟨v,M3,hv,t3,e3⟩:=uC (ρ:=pE most w high hues first k a (some (.int way)) (some (.lst (r.map D.int))) (some (.int f1)) (some (.int (f1+f2)))) rfl rfl rfl f0 u0 fu t2;obtain⟨n,rfl⟩:=Int.eq_ofNat_of_zero_le a1;obtain⟨m,rfl⟩:=Int.eq_ofNat_of_zero_le a2;have hl:=hr.1;refine⟨r.take n++List.replicate m v++r.drop (n+m),M3,some (.int n),some (.int ((n:Int)+m)),⟨?_,fun x hx=>?_⟩,t3,?_⟩
  ·rw[length_append,length_append,length_take,length_replicate,length_drop];omega
  ·rw[mem_append,mem_append] at hx;rcases hx with(hx|hx)|hx
   ·exact hr.2 x (mem_of_mem_take hx)
   ·rw[(mem_replicate.mp hx).2];exact hv
   ·exact hr.2 x (mem_of_mem_drop hx)
  ·rw[lJ (hc.trans (by rw[h]))];have q1:Gu (pE most w high hues first k a (some (.int way)) (some (.lst (r.map D.int))) d e) M=.ok (.int n) M1:=eO (x:=.mr 0) (M1:=M) rfl (y:=.int w) (M2:=M) rfl e1;rw[aB (aD q1)];show aq (aA 11 FR) (aA 9 DY) (pE most w high hues first k a (some (.int way)) (some (.lst (r.map D.int))) (some (.int n)) e) M1=_;have q2:FR (pE most w high hues first k a (some (.int way)) (some (.lst (r.map D.int))) (some (.int n)) e) M1=.ok (.int ((n:Int)+m)) M2:=
    ao (x:=.int n) (M1:=M1) rfl (eO (x:=.mr 0) (M1:=M1) rfl (ao (ao (x:=.int w) (M1:=M1) rfl (y:=.int 1) (M2:=M1) rfl rfl) (y:=.int n) (M2:=M1) rfl rfl) e2) rfl
   rw[aB (aD q2)];show aA 9 DY (pE most w high hues first k a (some (.int way)) (some (.lst (r.map D.int))) (some (.int n)) (some (.int ((n:Int)+m)))) M2=_;have lr:(r.map D.int).length=w:=by rw[length_map,hl]
   have c1:=uL (xs:=r.map D.int) (n:=n) (by rw[lr];omega) M2;have c2:=wt (xs:=r.map D.int) (n:=n+m) (by rw[lr];omega) M3;have mu:lq (.lst [.int v]) (.int m) M3=.ok (.lst ((List.replicate m v).map D.int)) M3:=by
    show(if 0≤(m:Int)∧(m:Int)≤100000∧[D.int v].length*(m:Int).toNat≤100000 then aI.ok (D.lst (List.replicate (m:Int).toNat [D.int v]).flatten) M3 else .bad)=_;rw[if_pos ⟨by omega,by omega,by rw[length_singleton,Int.toNat_natCast];omega⟩,Int.toNat_natCast,ny]
   have ad:∀(x y:List D) (N:ax),x.length+y.length≤1000000→az (.lst x) (.lst y) N=.ok (.lst (x++y)) N:=fun x y N h=>by
    show(if x.length+y.length≤sizeLine then aI.ok (D.lst (x++y)) N else .bad)=_;rw[if_pos (ba h)]
   have g1:dj (af 9) bJ (aN (af 10)) (pE most w high hues first k a (some (.int way)) (some (.lst (r.map D.int))) (some (.int n)) (some (.int ((n:Int)+m)))) M2=.ok (.lst ((r.map D.int).take n)) M2:=fq (x:=.lst (r.map D.int)) (M1:=M2) rfl (lo:=none) (M2:=M2) rfl (hi:=some (n:Int)) (M3:=M2) rfl c1;have g3:dj (af 9) (aN (af 11)) bJ (pE most w high hues first k a (some (.int way)) (some (.lst (r.map D.int))) (some (.int n)) (some (.int ((n:Int)+m)))) M3=.ok (.lst ((r.map D.int).drop (n+m))) M3:=fq (x:=.lst (r.map D.int)) (M1:=M3) rfl (lo:=some ((n:Int)+m)) (M2:=M3) rfl (hi:=none) (M3:=M3) rfl c2;have g2':g2 lq (cL (aa (g2 az (af 5) (ay 2 av (aa (af 0) (aa (af 4) ah)))) ah)) (g2 dr (af 11) (af 10)) (pE most w high hues first k a (some (.int way)) (some (.lst (r.map D.int))) (some (.int n)) (some (.int ((n:Int)+m)))) M2=.ok (.lst ((List.replicate m v).map D.int)) M3:=by
    refine ao (fh (aX e3 rfl)) (ao (x:=.int ((n:Int)+m)) (M1:=M3) rfl (y:=.int n) (M2:=M3) rfl (o:=.ok (.int m) M3) ?_) mu;show aI.ok (D.int ((n:Int)+m-n)) M3=_;rw[show(n:Int)+m-n=m by omega]
   have s1:=ad ((r.map D.int).take n) ((List.replicate m v).map D.int) M3 (by simp only[length_take,length_map,length_replicate];omega);have s2:=ad ((r.map D.int).take n++(List.replicate m v).map D.int) ((r.map D.int).drop (n+m)) M3 (by simp only[length_append,length_take,length_map,length_replicate,length_drop];omega);have q3:DY (pE most w high hues first k a (some (.int way)) (some (.lst (r.map D.int))) (some (.int n)) (some (.int ((n:Int)+m)))) M2=.ok (.lst ((r.take n++List.replicate m v++r.drop (n+m)).map D.int)) M3:=by
    refine ao (ao g1 g2' s1) g3 (s2.trans ?_);rw[map_append,map_append,map_take,map_drop]
   exact aD (i:=9) q3
 ·refine⟨r,M,d,e,hr,hM,?_⟩;rw[i5 (hc.trans (by rw[Bool.eq_false_iff.mpr h]))];rfl
end
section
variable {l:List Int}{au M:ax}{most high hues first:Int}{w:Nat}
theorem DU (ρ:a8)(M:ax):bo ρ M=aq (aA 8 (ay 2 av (aa (af 0) (aa (gC (.int 4)) ah)))) (aq (aA 9 (aR (dB (aa (af 2) ah)) bt b7 aH)) (aq (gn Gq (aA 9 HB) bn) (aq (gn Gx (aq (aA 10 Gu) (aq (aA 11 FR) (aA 9 DY))) bn) (cD (fK (af 6) (af 9)))))) ρ M:=rfl
theorem u3 {rs:List (List Int)}{a b c d e:Option D}(f0:0≤first)(u0:1≤hues)(fu:first+hues≤64)(hw0:0<w)(hw:w≤1000)(hrs:fE w rs)(hl:rs.length≤1000)(hM:cN l (au++[.lst (aj rs)]) M) :
  ∃r M' b' c' d' e',pK w r∧cN l (au++[.lst (aj (rs++[r]))]) M'∧bo (pE most w high hues first (au.length+1) a b c d e) M=.ok (.nx (pE most w high hues first (au.length+1) a b' c' d' e')) M':=by
 obtain⟨f1,M1,a1,b1,t1,e1⟩:=dg (many:=4) (by decide) (bM (by decide) (by decide)) hM;obtain⟨r1,M2,hr1,t2,e2⟩:=sL (most:=most) (high:=high) (k:=au.length+1) (a:=a) (b:=some (.int f1)) (c:=c) (d:=d) (e:=e) f0 u0 fu hw t1;obtain⟨r2,M3,hr2,t3,e3⟩:=uM (most:=most) (high:=high) (hues:=hues) (first:=first) (a:=a) (d:=d) (e:=e) (way:=f1) hrs hl hr1 t2;obtain⟨r3,M4,d',e',hr3,t4,e4⟩:=zf (most:=most) (high:=high) (k:=au.length+1) (a:=a) (d:=d) (e:=e) (way:=f1) f0 u0 fu hw0 hw hr2 t3;refine⟨r3,M4.set (au.length+1) (.lst (aj rs++[.lst (r3.map D.int)])),some (.int f1),some (.lst (r3.map D.int)),d',e',hr3,?_,?_⟩
 ·have:=vf (ys:=aj (rs++[r3])) t4;have e:aj (rs++[r3])=aj rs++[.lst (r3.map D.int)]:=by unfold aj;rw[map_append];rfl
  rw[e] at this ⊢;exact this
 ·rw[DU,aB (aD (i:=8) (d:=.int f1) (eO (x:=.mr 0) (M1:=M) rfl (y:=.int 4) (M2:=M) rfl e1))];show aq _ _ (pE most w high hues first (au.length+1) a (some (.int f1)) c d e) M1=_;rw[aB (aD (i:=9) e2)];show aq _ _ (pE most w high hues first (au.length+1) a (some (.int f1)) (some (.lst (r1.map D.int))) d e) M2=_;rw[aB e3,aB e4];have hl2:(aj rs).length<1000000:=by rw[show(aj rs).length=rs.length from length_map ..];omega
  exact fW (wV (k:=au.length+1) rfl (iS t4) rfl (iS t4) hl2)
theorem mq {ds0:List D}(f0:0≤first)(u0:1≤hues)(fu:first+hues≤64)(hw0:0<w)(hw:w≤1000):∀(ds:List D) (rs:List (List Int)) (a b c d e:Option D) (M:ax),fE w rs→rs.length+ds.length≤1000→cN l (au++[.lst (aj rs)]) M→
  ∃rs' M' a' b' c' d' e',fE w rs'∧rs'.length=rs.length+ds.length∧cN l (au++[.lst (aj rs')]) M'∧bT ⟨ds0,none⟩ (cr 7) bo ds (pE most w high hues first (au.length+1) a b c d e) M=.ok (.nx (pE most w high hues first (au.length+1) a' b' c' d' e')) M'
 | [],rs,a,b,c,d,e,M,h1,h2,h3=>⟨rs,M,a,b,c,d,e,h1,rfl,h3,rfl⟩
 | x::ds,rs,a,b,c,d,e,M,h1,h2,h3=>by
  rw[length_cons] at h2;obtain⟨r,M1,b1,c1,d1,e1,hr,t1,q1⟩:=u3 (most:=most) (high:=high) (a:=some x) (b:=b) (c:=c) (d:=d) (e:=e) f0 u0 fu hw0 hw h1 (by omega) h3;obtain⟨rs',M2,a2,b2,c2,d2,e2,hr2,l2,t2,q2⟩:=mq (ds0:=ds0) f0 u0 fu hw0 hw ds (rs++[r]) (some x) b1 c1 d1 e1 M1 (fun y hy=>by
   rcases mem_append.mp hy with h|h
   ·exact h1 y h
   ·rw[mem_singleton.mp h];exact hr) (by rw[length_append,length_singleton];omega) t1
  refine⟨rs',M2,a2,b2,c2,d2,e2,hr2,by rw[l2,length_append,length_singleton,length_cons];omega,t2,?_⟩;rw[bT,if_pos fe];show(bo (pE most w high hues first (au.length+1) (some x) b c d e) M).bind _=_;rw[q1,ai];exact q2
theorem ur:∀rs:List (List Int),(aj rs).all (bv 29)=true:=fun rs=>by
 unfold aj;rw[all_map];exact all_eq_true.mpr fun r _=>by
  show bv 29 (.lst (r.map D.int))=true;rw[lX];exact jj 27 r
theorem rq {l:List Int}{i c:Int}{au:ax}(hr:au.all cS=true):(tp l i c::au).all cS=true:=by
 have h:cS (tp l i c)=true:=by
  show(D.lst (l.map D.int)::[D.int i,D.int c]).all (bv 30)=true;have:=jj 28 l;simp[lX,this,bv]
 rw[all_cons,h,hr];rfl
theorem yB {f:Int}(h0:0≤f)(h1:f<3):∃u,1≤u∧u≤64∧∀M,bx (.lst [.int 2,.int 3,.int 64]) (.int f) M=.ok (.int u) M:=by
 have:f=0∨f=1∨f=2:=by omega
 rcases this with rfl|rfl|rfl
 ·exact⟨2,by decide,by decide,fun _=>rfl⟩
 ·exact⟨3,by decide,by decide,fun _=>rfl⟩
 ·exact⟨64,by decide,by decide,fun _=>rfl⟩
theorem xm {most:Int}(h0:1≤most)(h1:most≤40)(hp:au.all cS=true)(hM:cN l au M) :
  ∃(rs:List (List Int)) (w:Nat) (M':ax),1≤w∧(w:Int)≤most∧1≤rs.length∧(rs.length:Int)≤most∧fE w rs∧cN l au M'∧de [.mr 0,.int most] M=.ok (.lst (aj rs)) M':=by
 obtain⟨f1,M1,a1,b1,t1,e1⟩:=dg (many:=most) (by omega) (bM (by omega) (by omega)) hM;obtain⟨f2,M2,a2,b2,t2,e2⟩:=dg (many:=most) (by omega) (bM (by omega) (by omega)) t1;obtain⟨f3,M3,a3,b3,t3,e3⟩:=dg (many:=3) (by decide) (bM (by decide) (by decide)) t2;obtain⟨u,u1,u2,k3⟩:=yB a3 b3;obtain⟨f4,M4,a4,b4,t4,e4⟩:=dg (many:=65-u) (by omega) (bM (by omega) (by omega)) t3;obtain⟨n1,rfl⟩:=Int.eq_ofNat_of_zero_le a1;obtain⟨n2,rfl⟩:=Int.eq_ofNat_of_zero_le a2;have t5:cN l (au++[.lst (aj [])]) (M4++[.lst []]):=k8 t4 _;obtain⟨rs,M6,a6,b6,c6,d6,e6,hrs,lrs,t6,q6⟩:=mq (most:=most) (high:=((n2+1:Nat):Int)) (ds0:=aT 0 (n2+1)) (first:=f4) (hues:=u) (w:=n1+1) a4 u1 (by omega) (by omega) (by omega) (aT 0 (n2+1)) [] none none none none none (M4++[.lst []]) (fun _ h=>by cases h) (by simp[aT];omega) t5;have lr:rs.length=n2+1:=by rw[lrs];simp[aT]
 obtain⟨i6,c6',h6,rfl⟩:=t6;refine⟨rs,n1+1,tp l i6 c6'::au,by omega,by omega,by omega,by omega,hrs,⟨i6,c6',h6,rfl⟩,?_⟩;have lM:M.length=(tp l i6 c6'::au).length:=by rw[nU hM];rfl
 have l4:M4.length=au.length+1:=nU t4;show hZ M.length (aZ (bP [some (.mr 0),some (.int most),none,none,none,none,none,none,none,none,none,none] M))=_;have q:bP [some (.mr 0),some (.int most),none,none,none,none,none,none,none,none,none,none] M=.ok (.rt (.mr (au.length+1))) (tp l i6 c6'::(au++[.lst (aj rs)])):=by
  unfold bP;have n1e:(1:Int)+n1=((n1+1:Nat):Int):=by omega
  have n2e:(1:Int)+n2=((n2+1:Nat):Int):=by omega
  rw[aB (aD (d:=.int ((n1+1:Nat):Int)) (ao (x:=.int 1) (M1:=M) rfl (eO (x:=.mr 0) (M1:=M) rfl (y:=.int most) (M2:=M) rfl e1) (by show aI.ok (D.int (1+(n1:Int))) M1=_;rw[n1e])))];show aq _ _ [some (.mr 0),some (.int most),some (.int ((n1+1:Nat):Int)),none,none,none,none,none,none,none,none,none] M1=_;rw[aB (aD (d:=.int ((n2+1:Nat):Int)) (ao (x:=.int 1) (M1:=M1) rfl (eO (x:=.mr 0) (M1:=M1) rfl (y:=.int most) (M2:=M1) rfl e2) (by show aI.ok (D.int (1+(n2:Int))) M2=_;rw[n2e])))];show aq _ _ [some (.mr 0),some (.int most),some (.int ((n1+1:Nat):Int)),some (.int ((n2+1:Nat):Int)),none,none,none,none,none,none,none,none] M2=_;rw[aB (aD (d:=.int u) (ao (x:=.lst [.int 2,.int 3,.int 64]) (M1:=M2) (fh rfl) (eO (x:=.mr 0) (M1:=M2) rfl (y:=.int 3) (M2:=M2) rfl e3) (k3 M3)))];show aq _ _ [some (.mr 0),some (.int most),some (.int ((n1+1:Nat):Int)),some (.int ((n2+1:Nat):Int)),some (.int u),none,none,none,none,none,none,none] M3=_;rw[aB (aD (d:=.int f4) (eO (x:=.mr 0) (M1:=M3) rfl (ao (x:=.int 65) (M1:=M3) rfl (y:=.int u) (M2:=M3) rfl rfl) e4))];show aq _ _ [some (.mr 0),some (.int most),some (.int ((n1+1:Nat):Int)),some (.int ((n2+1:Nat):Int)),some (.int u),some (.int f4),none,none,none,none,none,none] M4=_;have qm:∀ρ,jX ah ρ M4=.ok (.mr (au.length+1)) (M4++[.lst []]):=fun ρ=>by rw[←l4];exact qP
  rw[aB (aD (qm _))];have hE:([some (D.mr 0),some (D.int most),some (D.int ((n1+1:Nat):Int)),some (D.int ((n2+1:Nat):Int)),some (D.int u),some (D.int f4),none,none,none,none,none,none]:a8).set 6 (some (D.mr (au.length+1)))=pE most ((n1+1:Nat):Int) ((n2+1:Nat):Int) u f4 (au.length+1) none none none none none:=rfl;rw[hE];have hF:=jr (b:=bo) (sg:=cr 7) (iN (n:=n2+1) (aX (d:=.int ((n2+1:Nat):Int)) (g:=af 3) (r:=ah) (ρ:=pE most ((n1+1:Nat):Int) ((n2+1:Nat):Int) u f4 (au.length+1) none none none none none) (M1:=M4++[MO.lst []]) rfl rfl) (by omega)) q6;rw[aB hF];exact iA (d:=.mr (au.length+1)) rfl
 rw[q,lM];exact qW (M:=tp l i6 c6'::au) (ur rs) (rq hp)
end
theorem fY {x:Str}{i j:Nat}(hij:i≤j):(cW x (some (i:Int)) (some (j:Int))).cps.toList=(x.cps.toList.drop i).take (j-i):=by
 unfold cW;rw[HT.sIx_nat,HT.sIx_nat];show((x.cps.toList.drop (min i x.length)).take (min j x.length-min i x.length)).toArray.toList=_;rw[toList_toArray];have hl:x.cps.toList.length=x.length:=aF x
 by_cases h:i≤x.length
 ·rw[Nat.min_eq_left h]
  by_cases h2:j≤x.length
  ·rw[Nat.min_eq_left h2]
  ·rw[Nat.min_eq_right (by omega),take_of_length_le (by rw[length_drop,hl];exact Nat.le_refl _),take_of_length_le (by rw[length_drop,hl];omega)]
 ·rw[Nat.min_eq_right (show x.length≤i by omega),drop_of_length_le (i:=x.length) (by rw[hl];exact Nat.le_refl _),drop_of_length_le (i:=i) (by rw[hl];omega)];simp
theorem mL {x:Str}{i j:Nat}(hij:i≤j):cW x (some (i:Int)) (some (j:Int))=⟨((x.cps.toList.drop i).take (j-i)).toArray⟩:=bY (by rw[fY hij])
theorem jD {x:Str}{lo hi:Option Int}:(cW x lo hi).cps.size≤x.cps.size:=by
 unfold cW;simp only[size_toArray,length_take,length_drop,aF];omega
theorem zh {x:Str}{lo hi:Option Int}(h:ft x):ft (cW x lo hi):=fun c hc=>by
 unfold cW at hc;rw[toList_toArray] at hc;exact h c (mem_of_mem_drop (mem_of_mem_take hc))
theorem gW {x:Str}{lo hi:Option Int}(hx:x.cps.size≤90000)(M:ax):ik (.str x) lo hi M=.ok (.str (cW x lo hi)) M:=by
 have hl:x.length≤sizeLine:=ba (show x.cps.size≤1000000 by omega);show(if x.length≤sizeLine then aI.ok (D.str (cW x lo hi)) M else .bad)=_;rw[if_pos hl]
theorem pJ (z:Str)(c:Nat):(Txt.lstripChars z ⟨#[c]⟩).cps.size+(z.cps.toList.takeWhile (·==c)).length=z.cps.size:=by
 have e:(fun d=>(#[c]:Array Nat).contains d)=(·==c):=by
  funext d
  by_cases q:d=c
  ·subst q;simp
  ·have q2:¬c=d:=fun z=>q z.symm
   simp[q,q2]
 have hl:(z.cps.toList.takeWhile (·==c)).length≤z.cps.size:=by rw[←aF];exact(takeWhile_sublist _).length_le
 unfold Txt.lstripChars Txt.stripBy;show(if stripSame (fun d=>(#[c]:Array Nat).contains d) true false z then z else stripped (fun d=>(#[c]:Array Nat).contains d) true false z).cps.size+_=_;rw[e];split
 ·rename_i h;simp only[stripSame,Bool.and_eq_true,beq_iff_eq] at h;have h1:(z.cps.toList.takeWhile (·==c)).length=0:=h.1;rw[h1];rfl
 ·show(Builtin.Str.strSub z (z.cps.toList.takeWhile (·==c)).length z.length).cps.size+_=_;rw[←aF,StrLaws.strSub_toList,length_take,length_drop,aF];show min (z.cps.size-_) (z.cps.size-_)+_=_;omega
noncomputable def bG (cs:List Nat)(at_:Nat):Nat:=(((cs.drop at_).take 63).takeWhile (·==cs.getD at_ 0)).length
theorem cB (cs:List Nat)(at_:Nat):bG cs at_≤min 63 (cs.length-at_):=by
 unfold bG;have:=(takeWhile_sublist (l:=(cs.drop at_).take 63) (·==cs.getD at_ 0)).length_le;rw[length_take,length_drop] at this;exact this
theorem vU {x:Str}{at_:Nat}{M:ax}(hx:x.cps.size≤5000)(ha:at_<x.cps.size):dY [.str x,.int at_] M=.ok (.int (bG x.cps.toList at_)) M:=by
 have hl:at_<x.cps.toList.length:=by rw[aF];exact ha
 have eg:x.cps.toList[at_]?=some (x.cps.toList.getD at_ 0):=by rw[List.getD,getElem?_eq_getElem hl];rfl
 have c1:=mL (x:=x) (i:=at_) (j:=at_+63) (by omega);rw[show at_+63-at_=63 by omega] at c1;have zl:=jD (x:=x) (lo:=some (at_:Int)) (hi:=some ((at_+63:Nat):Int));rw[c1] at zl;generalize hz:(⟨((x.cps.toList.drop at_).take 63).toArray⟩:Str)=z at *;have zc:z.cps.toList=(x.cps.toList.drop at_).take 63:=by rw[←hz]
 have s1:ik (.str x) (some (at_:Int)) (some ((at_:Int)+63)) M=.ok (.str z) M:=by
  rw[gW (by omega),show((at_:Int)+63)=((at_+63:Nat):Int) by omega,c1]
 have ls:=pJ z (x.cps.toList.getD at_ 0);have an:bG x.cps.toList at_=(z.cps.toList.takeWhile (·==x.cps.toList.getD at_ 0)).length:=by unfold bG;rw[zc]
 rw[←an] at ls;have hz2:z.length≤sizeLine:=ba (show z.cps.size≤1000000 by omega);have lf:fQ z (.str ⟨#[x.cps.toList.getD at_ 0]⟩) M=.ok (.str (Txt.lstripChars z ⟨#[x.cps.toList.getD at_ 0]⟩)) M:=by
  show(if z.length≤sizeLine then aI.ok (D.str _) M else .bad)=_;rw[if_pos hz2]
 show aZ (dW [some (.str x),some (.int at_),none] M)=_;unfold dW;rw[aB (aD (fq (x:=.str x) (M1:=M) rfl (lo:=some (at_:Int)) (M2:=M) rfl (hi:=some ((at_:Int)+63)) (M3:=M) rfl s1))];show aZ (bD _ [some (.str x),some (.int at_),some (.str z)] M)=_;have q:(g2 dr (aL bq (aa (af 2) ah)) (aL bq (aa (bA fQ (af 2) (g2 bx (af 0) (af 1))) ah))) [some (.str x),some (.int at_),some (.str z)] M=.ok (.int (bG x.cps.toList at_)) M:=by
  refine ao (dq (x:=.str z) (M1:=M) rfl (fT (by omega) M)) (dq (x:=.str (Txt.lstripChars z ⟨#[x.cps.toList.getD at_ 0]⟩)) (M1:=M) ?_ (fT (by omega) M)) ?_
  ·unfold bA;show((aI.ok (D.str z) M).bind fun o M1=>match o with | .str x'=>(g2 bx (af 0) (af 1) [some (.str x),some (.int at_),some (.str z)] M1).bind fun d M2=>fQ x' d M2|_=>.bad)=_;rw[ai];dsimp only;rw[ao (x:=.str x) (M1:=M) rfl (y:=.int at_) (M2:=M) rfl (jl eg (by omega) M),ai,lf]
  ·show aI.ok (D.int ((z.cps.size:Int)-((Txt.lstripChars z ⟨#[x.cps.toList.getD at_ 0]⟩).cps.size:Int))) M=_;rw[show(z.cps.size:Int)-((Txt.lstripChars z ⟨#[x.cps.toList.getD at_ 0]⟩).cps.size:Int)=(bG x.cps.toList at_:Int) by omega]
 rw[iA q];rfl
noncomputable def iu (cs:List Nat)(w at_:Nat):Nat→Nat→Nat
 | 0,k=>k
 | f+1,k=>if cs.getD (at_+k) 0=cs.getD (at_+k-w) 0 then iu cs w at_ f (k+1) else k
noncomputable def a9 (w:Nat)(cs:List Nat)(at_:Nat):Nat:=if at_<w then 0 else iu cs w at_ (min 63 (cs.length-at_)) 0
theorem rG (cs:List Nat)(w at_:Nat):∀f k,iu cs w at_ f k≤k+f
 | 0,k=>Nat.le_refl _
 | f+1,k=>by
  unfold iu;split
  ·have:=rG cs w at_ f (k+1);omega
  ·omega
theorem dG (w:Nat)(cs:List Nat)(at_:Nat):a9 w cs at_≤min 63 (cs.length-at_):=by
 unfold a9;split
 ·exact Nat.zero_le _
 ·have:=rG cs w at_ (min 63 (cs.length-at_)) 0;omega
theorem kH {x:Str}{n:Nat}(h:n<x.cps.size):x.cps.toList[n]?=some (x.cps.toList.getD n 0):=by
 have hl:n<x.cps.toList.length:=by rw[aF];exact h
 rw[List.getD,getElem?_eq_getElem hl];rfl
theorem su {x:Str}(h:ft x){n:Nat}(hn:n<x.cps.size):x.cps.toList.getD n 0<0x110000:=by
 have hl:n<x.cps.toList.length:=by rw[aF];exact hn
 have:x.cps.toList.getD n 0=x.cps.toList[n]:=by rw[List.getD,getElem?_eq_getElem hl];rfl
 rw[this];exact h _ (getElem_mem hl)
theorem sj {a b:Nat}:((⟨#[a]⟩:Str)=⟨#[b]⟩)↔a=b:=by
 constructor
 ·intro h;have:=congrArg (fun s:Str=>s.cps.toList) h;simpa using this
 ·intro h;rw[h]
theorem vA {a b:Nat}(ha:a<0x110000)(hb:b<0x110000)(M:ax):bc false (.str ⟨#[a]⟩) (.str ⟨#[b]⟩) M=.ok (.bl (decide (a=b))) M:=by
 rw[HM (iM ha) (iM hb)];congr 2;exact decide_eq_decide.mpr sj
section
variable {x:Str}{w at_:Nat}{M:ax}
noncomputable abbrev aE (x:Str)(w at_ k:Nat):a8:=[some (.str x),some (.int w),some (.int at_),some (.int k)]
theorem sC {k:Nat}(ho:ft x)(hx:x.cps.size≤5000)(hw:w≤at_)(hk:k≤63):bw (aE x w at_ k) M=.ok (decide (k<63∧at_+k<x.cps.size∧x.cps.toList.getD (at_+k) 0=x.cps.toList.getD (at_+k-w) 0)) M:=by
 have t1:(aO (g2 j6 (af 3) (gC (.int 63)))) (aE x w at_ k) M=.ok (decide ((k:Int)<63)) M:=a5 (ao (x:=.int k) (M1:=M) rfl (y:=.int 63) (M2:=M) rfl rfl);have t2:(aO (g2 j6 (g2 az (af 2) (af 3)) (aL bq (aa (af 0) ah)))) (aE x w at_ k) M=.ok (decide (((at_:Int)+k)<(x.cps.size:Int))) M:=
  a5 (ao (ao (x:=.int at_) (M1:=M) rfl (y:=.int k) (M2:=M) rfl rfl) (dq (x:=.str x) (M1:=M) rfl (fT (by omega) M)) rfl)
 by_cases h1:k<63
 ·by_cases h2:at_+k<x.cps.size
  ·have i1:=jl (kH h2) (show x.cps.size≤90000 by omega) M;have i2:=jl (kH (show at_+k-w<x.cps.size by omega)) (show x.cps.size≤90000 by omega) M;have t3:(aO (g2 (bc false) (g2 bx (af 0) (g2 az (af 2) (af 3))) (g2 bx (af 0) (g2 dr (g2 az (af 2) (af 3)) (af 1))))) (aE x w at_ k) M=.ok (decide (x.cps.toList.getD (at_+k) 0=x.cps.toList.getD (at_+k-w) 0)) M:=by
    refine a5 (ao (ao (x:=.str x) (M1:=M) rfl (ao (x:=.int at_) (M1:=M) rfl (y:=.int k) (M2:=M) rfl (o:=.ok (.int ((at_+k:Nat):Int)) M) rfl) i1) (ao (x:=.str x) (M1:=M) rfl (ao (ao (x:=.int at_) (M1:=M) rfl (y:=.int k) (M2:=M) rfl rfl) (y:=.int w) (M2:=M) rfl (o:=.ok (.int ((at_+k-w:Nat):Int)) M) ?_) i2) (vA (su ho h2) (su ho (by omega)) M));show aI.ok (D.int ((at_:Int)+k-w)) M=_;rw[show((at_:Int)+k-w)=((at_+k-w:Nat):Int) by omega]
   refine(df t1 fun _=>df t2 fun _=>t3).trans ?_;congr 1;rw[decide_eq_true (show(k:Int)<63 by omega),decide_eq_true (show((at_:Int)+k)<(x.cps.size:Int) by omega),Bool.true_and,Bool.true_and];exact decide_eq_decide.mpr ⟨fun z=>⟨h1,h2,z⟩,fun z=>z.2.2⟩
  ·refine(df t1 fun _=>df (y:=false) t2 fun z=>?_).trans ?_
   ·exact absurd (of_decide_eq_true z) (by omega)
   ·congr 1;rw[decide_eq_false (show¬((at_:Int)+k)<(x.cps.size:Int) by omega),Bool.false_and,Bool.and_false];exact(decide_eq_false fun z=>h2 z.2.1).symm
 ·refine(df (y:=false) t1 fun z=>absurd (of_decide_eq_true z) (by omega)).trans ?_;congr 1;rw[Bool.and_false];exact(decide_eq_false fun z=>h1 z.1).symm
theorem sG (ho:ft x)(hx:x.cps.size≤5000)(hw:w≤at_)(ha:at_<x.cps.size):∀(f k n:Nat),k+f=min 63 (x.cps.size-at_)→f<n→br bw bR n (aE x w at_ k) M=.ok (.nx (aE x w at_ (iu x.cps.toList w at_ f k))) M
 | 0,k,n+1,h,_=>by
  rw[eI (M1:=M) ((sC ho hx hw (by omega)).trans (by rw[decide_eq_false];omega))];rfl
 | f+1,k,n+1,h,hn=>by
  have t:=sC (M:=M) (k:=k) ho hx hw (by omega);unfold iu
  by_cases q:x.cps.toList.getD (at_+k) 0=x.cps.toList.getD (at_+k-w) 0
  ·rw[if_pos q,jb (ρ2:=aE x w at_ (k+1)) (M1:=M) (M2:=M) (t.trans (by rw[decide_eq_true];exact⟨by omega,by omega,q⟩)) rfl];exact sG ho hx hw ha f (k+1) n (by omega) (by omega)
  ·rw[if_neg q,eI (M1:=M) (t.trans (by rw[decide_eq_false];exact fun z=>q z.2.2))]
theorem vg (ho:ft x)(hx:x.cps.size≤5000)(ha:at_<x.cps.size):cH [.str x,.int w,.int at_] M=.ok (.int (a9 w x.cps.toList at_)) M:=by
 show aZ (cK [some (.str x),some (.int w),some (.int at_),none] M)=_;unfold cK;have t1:(aO (g2 j6 (af 2) (af 1))) [some (.str x),some (.int w),some (.int at_),none] M=.ok (decide ((at_:Int)<w)) M:=a5 (ao (x:=.int at_) (M1:=M) rfl (y:=.int w) (M2:=M) rfl rfl)
 by_cases h:at_<w
 ·have e:a9 w x.cps.toList at_=0:=by unfold a9;rw[if_pos h]
  rw[Es (d:=.int 0) (M1:=M) ((lJ (t1.trans (by rw[decide_eq_true];omega))).trans rfl),e];rfl
 ·rw[aB (ρ1:=[some (.str x),some (.int w),some (.int at_),none]) (M1:=M) ((i5 (t1.trans (by rw[decide_eq_false];omega))).trans rfl)];rw[aB (aD (d:=.int 0) (M1:=M) rfl)];have lp:=sG (M:=M) ho hx (show w≤at_ by omega) ha (min 63 (x.cps.size-at_)) 0 5000 (by omega) (by omega);have e:a9 w x.cps.toList at_=iu x.cps.toList w at_ (min 63 (x.cps.size-at_)) 0:=by unfold a9;rw[if_neg h,aF]
  rw[←e] at lp;show aZ (aq (dh 5000 bw bR) (bD (af 3)) (aE x w at_ 0) M)=_;rw[aB (a:=dh 5000 bw bR) lp];rfl
end
theorem rh {g:GE}{ρ:a8}{M:ax}{E zs:List D}{i:Nat}(hi:ρ[i]?=some (some (.mr M.length)))(hg:g ρ (M++[.lst E])=.ok (.lst zs) (M++[.lst E]))(hl:E.length+zs.length≤1000000) :
  jJ i g ρ (M++[.lst E])=.ok (.nx (ρ.set i (some (.mr M.length)))) (M++[.lst (E++zs)]):=by
 have v:af i ρ (M++[.lst E])=.ok (.mr M.length) (M++[.lst E]):=by
  unfold af;rw[hi]
 have a:qC (.mr M.length) (.lst zs) (M++[.lst E])=.ok (.mr M.length) (M++[.lst (E++zs)]):=by
  unfold qC;dsimp only;rw[jh];dsimp only;have e:gq (.lst zs) (M++[MO.lst E])=some zs:=rfl;rw[e];dsimp only;rw[if_pos (ba hl),kt]
 unfold jJ;rw[v,ai,hg,ai,a,ai]
theorem f7 {α:Type}{ds0:List D}{ge:GE}{ρ:a8}{M:ax}{g h:α→D}:∀l:List α,(∀a∈l,ge (some (g a)::ρ) M=.ok (h a) M)→cj ⟨ds0,none⟩ bt ge (l.map g) ρ M=.ok (l.map h) M
 | [],_=>rfl
 | a::l,k=>by
  have ih:=f7 (ds0:=ds0) (ge:=ge) (ρ:=ρ) (M:=M) (g:=g) (h:=h) l fun x hx=>k x (mem_cons_of_mem _ hx)
  show cj ⟨ds0,none⟩ bt ge (g a::l.map g) ρ M=_;unfold cj;rw[show jY.ok ⟨ds0,none⟩ M=true from rfl,if_pos rfl,show bt (some (g a)::ρ) M=.ok true M from rfl];dsimp only;rw[k a mem_cons_self];dsimp only;rw[ih];rfl
theorem oo {α:Type}{ds0:List D}{n:Nat}{sg:GG}{ge:GE}{ρ:a8}{M:ax}{g h:α→D}:∀l:List α,(∀a∈l,∃ρ1,sg (g a) (List.replicate n none++ρ)=some ρ1∧ge ρ1 M=.ok (h a) M)→aM ⟨ds0,none⟩ n sg bt ge (l.map g) ρ M=.ok (l.map h) M
 | [],_=>rfl
 | a::l,k=>by
  obtain⟨ρ1,e1,e2⟩:=k a mem_cons_self;have ih:=oo (ds0:=ds0) (n:=n) (sg:=sg) (ge:=ge) (ρ:=ρ) (M:=M) (g:=g) (h:=h) l fun x hx=>k x (mem_cons_of_mem _ hx)
  show aM ⟨ds0,none⟩ n sg bt ge (g a::l.map g) ρ M=_;unfold aM;rw[show jY.ok ⟨ds0,none⟩ M=true from rfl,if_pos rfl,e1];dsimp only;rw[show bt ρ1 M=.ok true M from rfl];dsimp only;rw[e2];dsimp only;rw[ih];rfl
noncomputable def Dr (x:Str)(at_:Nat):Str:=⟨#[x.cps.toList.getD at_ 0]⟩
noncomputable def k9 (x:Str)(at_ m:Nat):Str:=("!":Str)++cq m++cW x (some (at_:Int)) (some ((at_:Int)+m))
noncomputable def lj (x:Str)(at_ m:Nat):Str:=("*":Str)++cq m++Dr x at_
noncomputable def lw (m:Nat):Str:=("^":Str)++cq m
noncomputable def aJ (x:Str)(w at_:Nat):List (Str×Nat):=((List.range (min 63 (x.cps.size-at_))).map fun i=>(k9 x at_ (i+1),i+1))++((List.range (bG x.cps.toList at_)).map fun i=>(lj x at_ (i+1),i+1))++((List.range (a9 w x.cps.toList at_)).map fun i=>(lw (i+1),i+1))
noncomputable def gj (p:Str×Nat):D:=.tup [.str p.1,.int p.2]
theorem c0 {a b:Str}(ha:a.length≤90000)(hb:b.length≤90000)(M:ax):az (.str a) (.str b) M=.ok (.str (a++b)) M:=by
 show(if a.length+b.length≤sizeLine then aI.ok (D.str (a++b)) M else .bad)=_;rw[if_pos (ba (by omega))]
theorem bf (a b:Str):(a++b).cps.size=a.cps.size+b.cps.size:=by
 show(a++b).length=_;rw[strLen_append];rfl
section
variable {x:Str}{w at_:Nat}{M:ax}{d:Option D}
noncomputable abbrev qE (x:Str)(w at_:Nat)(d:Option D):a8:=[some (.str x),some (.int w),some (.int at_),d]
theorem uQ {m:Nat}(h:m<64)(ρ:a8)(hm:ρ[0]?=some (some (.int m))):g2 bx (gC (.str "0123456789abcdefghijklmnopqrstuvwxyzABCDEFGHIJKLMNOPQRSTUVWXYZ+-")) (af 0) ρ M=.ok (.str (cq m)) M:=by
 have e:=fO (M:=M) (k:=(m:Int)) (by omega) (by omega);refine ao (x:=.str dm) (M1:=M) rfl (y:=.int m) (M2:=M) ?_ e;unfold af;rw[hm]
theorem HY {m:Nat}(hx:x.cps.size≤5000)(h:m<64):fc (some (.int m)::qE x w at_ d) M=.ok (gj (k9 x at_ m,m)) M:=by
 have z:=jD (x:=x) (lo:=some (at_:Int)) (hi:=some ((at_:Int)+m));have c1:=c0 (a:="!") (b:=cq m) (by decide +kernel) (by rw[i4];decide) M;have c2:=c0 (a:="!"++cq m) (b:=cW x (some (at_:Int)) (some ((at_:Int)+m))) (show(("!":Str)++cq m).cps.size≤90000 by rw[bf];exact Nat.le_trans (show 1+1≤2 by decide) (by decide)) (show(cW x (some (at_:Int)) (some ((at_:Int)+m))).cps.size≤90000 by omega) M;refine nw (aX (ao (ao (x:=.str "!") (M1:=M) rfl (uQ h _ rfl) c1) (fq (x:=.str x) (M1:=M) rfl (lo:=some (at_:Int)) (M2:=M) rfl (hi:=some ((at_:Int)+m)) (M3:=M) rfl (gW (by omega) M)) c2) (aX (d:=.int m) (M1:=M) rfl rfl))
theorem HP {m:Nat}(hx:x.cps.size≤5000)(ha:at_<x.cps.size)(h:m<64):eM (some (.int m)::qE x w at_ d) M=.ok (gj (lj x at_ m,m)) M:=by
 have c1:=c0 (a:="*") (b:=cq m) (by decide +kernel) (by rw[i4];decide) M;have c2:=c0 (a:="*"++cq m) (b:=Dr x at_) (show(("*":Str)++cq m).cps.size≤90000 by rw[bf];exact Nat.le_trans (show 1+1≤2 by decide) (by decide)) (show(Dr x at_).cps.size≤90000 from(by decide:1≤90000)) M;exact nw (aX (ao (ao (x:=.str "*") (M1:=M) rfl (uQ h _ rfl) c1) (ao (x:=.str x) (M1:=M) rfl (y:=.int at_) (M2:=M) rfl (jl (kH ha) (by omega) M)) c2) (aX (d:=.int m) (M1:=M) rfl rfl))
theorem HW {m:Nat}(h:m<64):eZ (some (.int m)::qE x w at_ d) M=.ok (gj (lw m,m)) M:=by
 have c1:=c0 (a:="^") (b:=cq m) (by decide +kernel) (by rw[i4];decide) M;exact nw (aX (ao (x:=.str "^") (M1:=M) rfl (uQ h _ rfl) c1) (aX (d:=.int m) (M1:=M) rfl rfl))
theorem Fh {F:FD}{a b:GE}{ρ:a8}{M M1 M2:ax}{x y:D}{o:aI D}(ha:a ρ M=.ok x M1)(hb:b ρ M1=.ok y M2)(h:F [x,y] M2=o):aL F (aa a (aa b ah)) ρ M=o:=by
 unfold aL aa ah;rw[ha,ai,hb,ai,ai,ai,ai,h]
theorem j8 {ga:GA}{ρ:a8}{M M1:ax}{n:Nat}(h:ga ρ M=.ok [.int 1,.int ((n:Int)+1)] M1)(hn:n≤1000):dD ga ρ M=.ok ⟨aT 1 n,none⟩ M1:=by
 unfold dD;rw[h,ai,yv ⟨by omega,by omega,by omega,by omega⟩];rw[show((n:Int)+1-1).toNat=n by omega]
theorem gY (n:Nat):aT 1 n=(List.range n).map fun i=>D.int ((i+1:Nat):Int):=by
 unfold aT;refine map_congr_left fun i _=>?_
 rw[show(1:Int)+(i:Int)=((i+1:Nat):Int) by omega]
theorem n6 {gi:GI}{gc:GT}{ge:GE}{ρ:a8}{ds es:List D}{M M1 M2:ax}(hi:gi ρ M=.ok ⟨ds,none⟩ M1)(he:cj ⟨ds,none⟩ gc ge ds ρ M1=.ok es M2)(hl:es.length≤1000000):aR gi gc ge bN ρ M=.ok (.mr M2.length) (M2++[.lst es]):=by
 unfold aR;rw[hi,ai];dsimp only;rw[he,ai];unfold bN;rw[if_pos (ba hl)]
theorem pT (l:List (Str×Nat)):(l.map gj).all (bv 29)=true:=by
 rw[all_map];exact all_eq_true.mpr fun p _=>rfl
theorem wN (ho:ft x)(hx:x.cps.size≤5000)(ha:at_<x.cps.size)(hM:M.all cS=true):fP [.str x,.int w,.int at_] M=.ok (.lst ((aJ x w at_).map gj)) M:=by
 have k1:min 63 (x.cps.size-at_)≤63:=Nat.min_le_left _ _;have k2:=cB x.cps.toList at_;have k3:=dG w x.cps.toList at_;rw[aF] at k2 k3;have ak:=fun N=>vU (M:=N) hx ha
 have ab:=fun N=>vg (w:=w) (M:=N) ho hx ha
 unfold aJ;generalize hk:min 63 (x.cps.size-at_)=n1 at *;generalize bG x.cps.toList at_=n2 at *;generalize a9 w x.cps.toList at_=n3 at *;have c1:aR (dD (aa (gC (.int 1)) (aa (g2 az (aL lz (aa (gC (.int 63)) (aa (g2 dr (aL bq (aa (af 0) ah)) (af 2)) ah))) (gC (.int 1))) ah))) bt fc bN (qE x w at_ none) M=.ok (.mr M.length) (M++[.lst (((List.range n1).map fun i=>(k9 x at_ (i+1),i+1)).map gj)]):=by
  refine n6 (j8 (n:=n1) (aX (d:=.int 1) (M1:=M) rfl (aX (ao (x:=.int n1) (M1:=M) ?_ (y:=.int 1) (M2:=M) rfl rfl) rfl)) (by omega)) ?_ (by simp;omega)
  ·refine Fh (x:=.int 63) (M1:=M) rfl (ao (dq (x:=.str x) (M1:=M) rfl (fT (by omega) M)) (y:=.int at_) (M2:=M) rfl rfl) ?_;show aI.ok (D.int (if(x.cps.size:Int)-at_<63 then(x.cps.size:Int)-at_ else 63)) M=_;rw[show(if(x.cps.size:Int)-at_<63 then(x.cps.size:Int)-at_ else 63)=(n1:Int) by split <;> omega]
  ·rw[gY,map_map];exact f7 _ fun i hi=>HY hx (by have:=mem_range.mp hi;omega)
 have c2:∀(E:List D),aR (dD (aa (gC (.int 1)) (aa (g2 az (ay 2 dY (aa (af 0) (aa (af 2) ah))) (gC (.int 1))) ah))) bt eM aH (qE x w at_ (some (.mr M.length))) (M++[.lst E])=.ok (.lst (((List.range n2).map fun i=>(lj x at_ (i+1),i+1)).map gj)) (M++[.lst E]):=fun E=>by
  refine fA (j8 (n:=n2) (aX (d:=.int 1) (M1:=M++[.lst E]) rfl (aX (ao (eO (x:=.str x) (M1:=M++[.lst E]) rfl (y:=.int at_) (M2:=M++[.lst E]) rfl (ak _)) (y:=.int 1) (M2:=M++[.lst E]) rfl rfl) rfl)) (by omega)) ?_ (by simp;omega);rw[gY,map_map];exact f7 _ fun i hi=>HP hx ha (by have:=mem_range.mp hi;omega)
 have c3:∀(E:List D),aR (dD (aa (gC (.int 1)) (aa (g2 az (ay 3 cH (aa (af 0) (aa (af 1) (aa (af 2) ah)))) (gC (.int 1))) ah))) bt eZ aH (qE x w at_ (some (.mr M.length))) (M++[.lst E])=.ok (.lst (((List.range n3).map fun i=>(lw (i+1),i+1)).map gj)) (M++[.lst E]):=fun E=>by
  refine fA (j8 (n:=n3) (aX (d:=.int 1) (M1:=M++[.lst E]) rfl (aX (ao (v6 (x:=.str x) (M1:=M++[.lst E]) rfl (y:=.int w) (M2:=M++[.lst E]) rfl (z:=.int at_) (M3:=M++[.lst E]) rfl (ab _)) (y:=.int 1) (M2:=M++[.lst E]) rfl rfl) rfl)) (by omega)) ?_ (by simp;omega);rw[gY,map_map];exact f7 _ fun i hi=>HW (by have:=mem_range.mp hi;omega)
 show hZ M.length (aZ (eE (qE x w at_ none) M))=_;unfold eE;rw[aB (aD c1)];show hZ M.length (aZ (aq _ _ (qE x w at_ (some (.mr M.length))) _))=_;rw[aB (rh (i:=3) rfl (c2 _) (by simp;omega))];show hZ M.length (aZ (aq _ _ (qE x w at_ (some (.mr M.length))) _))=_;rw[aB (rh (i:=3) rfl (c3 _) (by simp;omega))];rw[←map_append,←map_append];exact qW (pT _) hM
end
theorem o6 {α:Type}{f g:α→D}{b:α→Bool}{n:Nat}{sg:GG}{gc:GT}{ge:GE}{ρ:a8}{M:ax}{ds0:List D}:∀l:List α,(∀a∈l,∃ρ1,sg (f a) (List.replicate n none++ρ)=some ρ1∧gc ρ1 M=.ok (b a) M∧(b a=true→ge ρ1 M=.ok (g a) M))→aM ⟨ds0,none⟩ n sg gc ge (l.map f) ρ M=.ok ((l.filter b).map g) M
 | [],_=>rfl
 | a::l,h=>by
  obtain⟨ρ1,h0,h1,h2⟩:=h a mem_cons_self;have ih:=o6 (ds0:=ds0) l fun b hb=>h b (mem_cons_of_mem _ hb)
  rw[map_cons,aM,if_pos fe,h0];dsimp only;rw[h1];cases q:b a with
  | true=>
   rw[filter_cons_of_pos q,map_cons];show(match ge ρ1 M with | .ok e M2=>(aM ⟨ds0,none⟩ n sg gc ge (l.map f) ρ M2).bind fun es M3=>.ok (e::es) M3|_=>.bad)=_;rw[h2 q];dsimp only;rw[ih,ai]
  | false=>
   rw[filter_cons_of_neg (by rw[q];exact Bool.false_ne_true)];exact ih
theorem oE {gi:GI}{n:Nat}{sg:GG}{gc:GT}{ge:GE}{ρ:a8}{ds es:List D}{M M1 M2:ax}(hi:gi ρ M=.ok ⟨ds,none⟩ M1)(he:aM ⟨ds,none⟩ n sg gc ge ds ρ M1=.ok es M2)(hl:es.length≤1000000):bL gi n sg gc ge aH ρ M=.ok (.lst es) M2:=by
 unfold bL;rw[hi,ai];dsimp only;rw[he,ai];unfold aH;rw[if_pos (ba hl)]
theorem kd:∀(l:List Int) (b:Int),∃v,b0 (l.map D.int) (.int b)=some (.int v)∧(v=b∨v∈l)∧v≤b∧∀x∈l,v≤x
 | [],b=>⟨b,rfl,.inl rfl,Int.le_refl _,fun _ h=>by cases h⟩
 | a::l,b=>by
  show∃v,(match De (.int a) (.int b) with|some true=>b0 (l.map D.int) (.int a)|some false=>b0 (l.map D.int) (.int b)|none=>none)=some (.int v)∧_;show∃v,(match some (decide (a<b)) with|some true=>b0 (l.map D.int) (.int a)|some false=>b0 (l.map D.int) (.int b)|none=>none)=some (.int v)∧_
  by_cases h:a<b
  ·obtain⟨v,e,m,h1,h2⟩:=kd l a;rw[decide_eq_true h];refine⟨v,e,.inr ?_,by omega,fun x hx=>?_⟩
   ·rcases m with rfl|m
    ·exact mem_cons_self
    ·exact mem_cons_of_mem _ m
   ·rcases mem_cons.mp hx with rfl|hx
    ·exact h1
    ·exact h2 x hx
  ·obtain⟨v,e,m,h1,h2⟩:=kd l b;rw[decide_eq_false h];refine⟨v,e,?_,h1,fun x hx=>?_⟩
   ·rcases m with m|m
    ·exact .inl m
    ·exact .inr (mem_cons_of_mem _ m)
   ·rcases mem_cons.mp hx with rfl|hx
    ·omega
    ·exact h2 x hx
theorem kD:∀(l:List Str) (b:Str),∃v,b0 (l.map D.str) (.str b)=some (.str v)∧(v=b∨v∈l)∧v.cps.toList≤b.cps.toList∧∀x∈l,v.cps.toList≤x.cps.toList
 | [],b=>⟨b,rfl,.inl rfl,List.le_refl _,fun _ h=>by cases h⟩
 | a::l,b=>by
  show∃v,(match some (decide (a.cps.toList<b.cps.toList)) with|some true=>b0 (l.map D.str) (.str a)|some false=>b0 (l.map D.str) (.str b)|none=>none)=some (.str v)∧_
  by_cases h:a.cps.toList<b.cps.toList
  ·obtain⟨v,e,m,h1,h2⟩:=kD l a;rw[decide_eq_true h];refine⟨v,e,.inr ?_,List.le_trans h1 (List.le_of_lt h),fun x hx=>?_⟩
   ·rcases m with rfl|m
    ·exact mem_cons_self
    ·exact mem_cons_of_mem _ m
   ·rcases mem_cons.mp hx with rfl|hx
    ·exact h1
    ·exact h2 x hx
  ·obtain⟨v,e,m,h1,h2⟩:=kD l b;rw[decide_eq_false h];refine⟨v,e,?_,h1,fun x hx=>?_⟩
   ·rcases m with m|m
    ·exact .inl m
    ·exact .inr (mem_cons_of_mem _ m)
   ·rcases mem_cons.mp hx with rfl|hx
    ·exact List.le_trans h1 (List.not_lt.mp h)
    ·exact h2 x hx
noncomputable def b8 (T:List Str)(at_:Nat)(p:Str×Nat):Str:=p.1++T.getD (at_+p.2) ""
noncomputable def t7 (a b:Str):Prop:=a.cps.size≤b.cps.size∧(a.cps.size=b.cps.size→a.cps.toList≤b.cps.toList)
section
variable {P:List (Str×Nat)}{T:List Str}{k at_:Nat}{M:ax}
noncomputable abbrev uE (P:List (Str×Nat))(k at_:Nat)(d:Option D):a8:=[some (.lst (P.map gj)),some (.mr k),some (.int at_),d]
theorem mV (hm:M[k]?=some (.lst (T.map D.str))){n:Nat}(h:n<T.length):bx (.mr k) (.int n) M=.ok (.str (T.getD n "")) M:=by
 refine ng hm ?_;rw[getElem?_map,getElem?_eq_getElem h,List.getD,getElem?_eq_getElem h];rfl
theorem iZ (p:Str×Nat):(b8 T at_ p).cps.size=p.1.cps.size+(T.getD (at_+p.2) "").cps.size:=bf _ _
theorem vS {p:Str×Nat}{d:Option D}(hm:M[k]?=some (.lst (T.map D.str)))(h:at_+p.2<T.length)(h1:p.1.cps.size≤40000)(h2:(T.getD (at_+p.2) "").cps.size≤40000) :
  ej (some (.str p.1)::some (.int p.2)::uE P k at_ d) M=.ok (.int (b8 T at_ p).cps.size) M:=by
 refine ao (dq (x:=.str p.1) (M1:=M) rfl (fT (by omega) M)) (dq (ao (x:=.mr k) (M1:=M) rfl (ao (x:=.int at_) (M1:=M) rfl (y:=.int p.2) (M2:=M) rfl (o:=.ok (.int ((at_+p.2:Nat):Int)) M) rfl) (mV hm h)) (fT (by omega) M)) ?_;rw[iZ];rfl
theorem Bo {p:Str×Nat}{d:Option D}(hm:M[k]?=some (.lst (T.map D.str)))(h:at_+p.2<T.length)(h1:p.1.cps.size≤40000)(h2:(T.getD (at_+p.2) "").cps.size≤40000) :
  dX (some (.str p.1)::some (.int p.2)::uE P k at_ d) M=.ok (.str (b8 T at_ p)) M:=
 ao (x:=.str p.1) (M1:=M) rfl (ao (x:=.mr k) (M1:=M) rfl (ao (x:=.int at_) (M1:=M) rfl (y:=.int p.2) (M2:=M) rfl (o:=.ok (.int ((at_+p.2:Nat):Int)) M) rfl) (mV hm h)) (c0 (Nat.le_trans h1 (by decide)) (Nat.le_trans h2 (by decide)) M)
theorem y9 (hm:M[k]?=some (.lst (T.map D.str)))(hP:P≠[])(hPl:P.length≤1000)(h:∀p∈P,at_+p.2<T.length∧p.1.cps.size≤40000∧(T.getD (at_+p.2) "").cps.size≤40000) :
  ∃p∈P,(∀q∈P,t7 (b8 T at_ p) (b8 T at_ q))∧eQ [.lst (P.map gj),.mr k,.int at_] M=.ok (.str (b8 T at_ p)) M:=by
 have ic:∀d,bi (af 0) (uE P k at_ d) M=.ok ⟨P.map gj,none⟩ M:=fun d=>rfl
 have c1:bL (bi (af 0)) 2 (jy [0,1]) bt ej aH (uE P k at_ none) M=.ok (.lst (P.map fun p=>D.int (b8 T at_ p).cps.size)) M:=
  oE (ic _) (oo _ fun p hp=>⟨some (.str p.1)::some (.int p.2)::uE P k at_ none,rfl,vS hm (h p hp).1 (h p hp).2.1 (h p hp).2.2⟩) (by simp;omega)
 obtain⟨few,mf,hf⟩:∃few:Int,gk [.lst (P.map fun p=>D.int (b8 T at_ p).cps.size)] M=.ok (.int few) M∧(∃p∈P,few=((b8 T at_ p).cps.size:Int))∧∀p∈P,few≤((b8 T at_ p).cps.size:Int):=by
  cases P with
  | nil=>exact absurd rfl hP
  | cons p0 P=>
   obtain⟨v,e,m,h1,h2⟩:=kd (P.map fun p=>((b8 T at_ p).cps.size:Int)) ((b8 T at_ p0).cps.size:Int);rw[map_map] at e;refine⟨v,?_,?_,fun p hp=>?_⟩
   ·show(match b0 (P.map fun p=>D.int (b8 T at_ p).cps.size) (D.int (b8 T at_ p0).cps.size) with|some d=>aI.ok d M|none=>.bad)=_;rw[show(P.map fun p=>D.int (b8 T at_ p).cps.size)=P.map (D.int ∘ fun p=>((b8 T at_ p).cps.size:Int)) from rfl,e]
   ·rcases m with m|m
    ·exact⟨p0,mem_cons_self,m⟩
    ·obtain⟨p,hp,e⟩:=mem_map.mp m;exact⟨p,mem_cons_of_mem _ hp,e.symm⟩
   ·rcases mem_cons.mp hp with rfl|hp
    ·exact h1
    ·exact h2 _ (mem_map.mpr ⟨p,hp,rfl⟩)
 obtain⟨⟨p1,hp1,ep1⟩,hmin⟩:=hf;have tst:∀p∈P,dZ (some (.str p.1)::some (.int p.2)::uE P k at_ (some (.int few))) M=.ok (decide (((b8 T at_ p).cps.size:Int)=few)) M:=fun p hp=>
  a5 (ao (vS hm (h p hp).1 (h p hp).2.1 (h p hp).2.2) (y:=.int few) (M2:=M) rfl (jG _ _ M))
 have c2:bL (bi (af 0)) 2 (jy [0,1]) dZ dX aH (uE P k at_ (some (.int few))) M=.ok (.lst ((P.filter fun p=>decide (((b8 T at_ p).cps.size:Int)=few)).map fun p=>D.str (b8 T at_ p))) M:=
  oE (ic _) (o6 P fun p hp=>⟨some (.str p.1)::some (.int p.2)::uE P k at_ (some (.int few)),rfl,tst p hp,fun _=>Bo hm (h p hp).1 (h p hp).2.1 (h p hp).2.2⟩) (by rw[length_map];have:=length_filter_le (fun p=>decide (((b8 T at_ p).cps.size:Int)=few)) P;omega)
 have memF:∀p,p∈P.filter (fun p=>decide (((b8 T at_ p).cps.size:Int)=few))↔p∈P∧((b8 T at_ p).cps.size:Int)=few:=fun p=>by rw[mem_filter,decide_eq_true_eq]
 generalize hF:P.filter (fun p=>decide (((b8 T at_ p).cps.size:Int)=few))=Fl at *;have hne:Fl≠[]:=fun z=>by
  have:=(memF p1).mpr ⟨hp1,ep1.symm⟩;rw[z] at this;cases this
 obtain⟨p2,hp2,e2,m2⟩:∃p∈Fl,gk [.lst (Fl.map fun p=>D.str (b8 T at_ p))] M=.ok (.str (b8 T at_ p)) M∧∀q∈Fl,(b8 T at_ p).cps.toList≤(b8 T at_ q).cps.toList:=by
  cases Fl with
  | nil=>exact absurd rfl hne
  | cons p0 Fl=>
   obtain⟨v,e,m,h1,h2⟩:=kD (Fl.map fun p=>b8 T at_ p) (b8 T at_ p0);rw[map_map] at e;have ee:gk [.lst ((p0::Fl).map fun p=>D.str (b8 T at_ p))] M=.ok (.str v) M:=by
    show(match b0 (Fl.map fun p=>D.str (b8 T at_ p)) (D.str (b8 T at_ p0)) with|some d=>aI.ok d M|none=>.bad)=_;rw[show(Fl.map fun p=>D.str (b8 T at_ p))=Fl.map (D.str ∘ fun p=>b8 T at_ p) from rfl,e]
   have all:∀q∈p0::Fl,v.cps.toList≤(b8 T at_ q).cps.toList:=fun q hq=>by
    rcases mem_cons.mp hq with rfl|hq
    ·exact h1
    ·exact h2 _ (mem_map.mpr ⟨q,hq,rfl⟩)
   rcases m with m|m
   ·subst m;exact⟨p0,mem_cons_self,ee,all⟩
   ·obtain⟨p,hp,e⟩:=mem_map.mp m;subst e;exact⟨p,mem_cons_of_mem _ hp,ee,all⟩
 obtain⟨hpP,epf⟩:=(memF p2).mp hp2;refine⟨p2,hpP,fun q hq=>⟨?_,fun e=>m2 q ((memF q).mpr ⟨hq,by omega⟩)⟩,?_⟩
 ·have:=hmin q hq;omega
 ·show aZ (eV (uE P k at_ none) M)=_;unfold eV;rw[aB (aD (dq c1 mf))];show aZ (bD _ (uE P k at_ (some (.int few))) M)=_;rw[iA (dq c2 e2)];rfl
end
theorem nY {c:Nat}:∀{a b A B:List Nat},c∉a→c∉b→a++c::A=b++c::B→a=b∧A=B
 | [],[],A,B,_,_,h=>⟨rfl,(List.cons.inj h).2⟩
 | [],y::b,A,B,_,hb,h=>absurd (by rw[(List.cons.inj h).1];exact mem_cons_self ..) hb
 | x::a,[],A,B,ha,_,h=>absurd (by rw[←(List.cons.inj h).1];exact mem_cons_self ..) ha
 | x::a,y::b,A,B,ha,hb,h=>by
  obtain⟨h1,h2⟩:=List.cons.inj h;obtain⟨h3,h4⟩:=nY (fun z=>ha (mem_cons_of_mem _ z)) (fun z=>hb (mem_cons_of_mem _ z)) h2;exact⟨by rw[h1,h3],h4⟩
theorem iK (c:Nat)(p q:Str)(r:List Str):(Str.join ⟨#[c]⟩ (p::q::r)).cps.toList=p.cps.toList++c::(Str.join ⟨#[c]⟩ (q::r)).cps.toList:=by
 show(p++⟨#[c]⟩++Str.join ⟨#[c]⟩ (q::r)).cps.toList=_;simp only[Str.cps_append,Array.toList_append];simp
theorem nV {c:Nat}:∀{ps qs:List Str},ps≠[]→qs≠[]→(∀p∈ps,c∉p.cps.toList)→(∀p∈qs,c∉p.cps.toList)→(Str.join ⟨#[c]⟩ ps).cps.toList=(Str.join ⟨#[c]⟩ qs).cps.toList→ps=qs
 | [],_,h,_,_,_,_=>absurd rfl h
 | _,[],_,h,_,_,_=>absurd rfl h
 | [p],[q],_,_,_,_,h=>by rw[bY (a:=p) (b:=q) h]
 | [p],q::q2::r,_,_,hp,_,h=>by
  rw[iK] at h;have:c∈p.cps.toList:=by
   show c∈(Str.join ⟨#[c]⟩ [p]).cps.toList;rw[h];simp
  exact absurd this (hp p (mem_cons_self ..))
 | p::p2::r,[q],_,_,_,hq,h=>by
  rw[iK] at h;have:c∈q.cps.toList:=by
   show c∈(Str.join ⟨#[c]⟩ [q]).cps.toList;rw[←h];simp
  exact absurd this (hq q (mem_cons_self ..))
 | p::p2::r,q::q2::r2,_,_,hp,hq,h=>by
  rw[iK,iK] at h;obtain⟨h1,h2⟩:=nY (hp p (mem_cons_self ..)) (hq q (mem_cons_self ..)) h;rw[bY h1,nV (by simp) (by simp) (fun x hx=>hp x (mem_cons_of_mem _ hx)) (fun x hx=>hq x (mem_cons_of_mem _ hx)) h2]
theorem uT (x y:Str):Txt.split x y≠[]:=fun h=>by
 have:=split_pos x y;rw[h] at this;simp at this
theorem pM {c:Nat}{ps:List Str}(hne:ps≠[])(hf:∀p∈ps,c∉p.cps.toList):Txt.split (Str.join ⟨#[c]⟩ ps) ⟨#[c]⟩=ps:=
 nV (uT _ _) hne (StrLaws.split_free _ c) hf (by rw[StrLaws.join_split])
theorem zL:(dm.cps.toList.all fun c=>decide (c<128)&&decide (c≠10))=true:=by decide +kernel
theorem xq {k:Nat}(h:k<64):dm.cps.toList.getD k 0∈dm.cps.toList:=by
 have hl:k<dm.cps.toList.length:=by rw[qZ];exact h
 rw[List.getD,getElem?_eq_getElem hl];exact getElem_mem hl
theorem jp {k:Nat}(h:k<64):dm.cps.toList.getD k 0<128∧dm.cps.toList.getD k 0≠10:=by
 have:=all_eq_true.mp zL _ (xq h);rw[Bool.and_eq_true,decide_eq_true_eq,decide_eq_true_eq] at this;exact this
noncomputable def sQ (k:Int):Nat:=dm.cps.toList.getD k.toNat 0
theorem bZ (ks:List Int):(ag ks).cps.toList=ks.map sQ:=by
 unfold ag;rw[nT,map_map]
 induction ks with
 | nil=>rfl
 | cons k ks ih=>rw[map_cons,flatten_cons,ih];rfl
theorem kE {ks:List Int}(h:∀k∈ks,jW k):ft (ag ks):=fun c hc=>by
 rw[bZ] at hc;obtain⟨k,hk,rfl⟩:=mem_map.mp hc;have:=(jp (k:=k.toNat) (by have:=h k hk;unfold jW at this;omega)).1;exact Nat.lt_trans this (by decide)
theorem B9 {ks:List Int}(h:∀k∈ks,jW k):10∉(ag ks).cps.toList:=fun hc=>by
 rw[bZ] at hc;obtain⟨k,hk,e⟩:=mem_map.mp hc;exact(jp (k:=k.toNat) (by have:=h k hk;unfold jW at this;omega)).2 e
theorem DI:("\n":Str)=⟨#[10]⟩:=by decide +kernel
theorem yX (x:Str):decide (Builtin.Str.strKind x<Builtin.Str.strKind ("\n":Str))=false:=by
 have e:Builtin.Str.strKind ("\n":Str)=1:=by decide +kernel
 rw[e];refine decide_eq_false ?_;unfold Builtin.Str.strKind;split
 ·decide
 ·split <;> decide
theorem sY (x:Str):Txt.replace x "\n" ""=Str.join "" (Txt.split x "\n"):=by
 unfold Txt.replace Txt.split;have k:=yX x;have l1:("\n":Str).length=1:=by decide +kernel
 have l0:("":Str).length=0:=by decide +kernel
 rw[k,Bool.or_false]
 by_cases h0:x.length<1
 ·have hx:x=⟨#[]⟩:=bY (length_eq_zero_iff.mp (by rw[aF];show x.length=0;omega));subst hx;decide +kernel
 ·have e1:decide (x.length<("\n":Str).length)=false:=decide_eq_false (by rw[l1];exact h0);have e2:(("\n":Str).length==0&&("":Str).length==0)=false:=by rw[l1];rfl
  rw[e1,e2,Bool.or_false];cases q:(Builtin.Str.occurrences x "\n" 0 x.length (x.length+1)).isEmpty with
  | true=>rfl
  | false=>simp only[Bool.false_eq_true,if_false];exact nG "" _
theorem vp {ps:List Str}(h0:ps≠[])(h:∀p∈ps,10∉p.cps.toList):Txt.replace (Txt.join "\n" ps) "\n" ""=Txt.join "" ps:=by
 rw[sY,nG,nG,DI,pM h0 h]
noncomputable def bz (rs:List (List Int)):Str:=ag rs.flatten
theorem uV {rs:List (List Int)}(h0:rs≠[])(h:∀r∈rs,∀k∈r,jW k):Txt.replace (fb rs) "\n" ""=bz rs:=by
 unfold fb;rw[vp (fun z=>h0 (map_eq_nil_iff.mp z)) fun p hp=>by obtain⟨r,hr,rfl⟩:=mem_map.mp hp;exact B9 (h r hr)];refine bY ?_;unfold bz;rw[nT,bZ,map_map,map_flatten];congr 1;exact map_congr_left fun r _=>bZ r
theorem p9 {go gi g:GE}{ρ:a8}{M:ax}{k i:Nat}{xs:List D}{x:D}(hg:g ρ M=.ok x M)(ho:go ρ M=.ok (.mr k) M)(hi:gi ρ M=.ok (.int i) M)(hk:M[k]?=some (.lst xs))(hl:i<xs.length):i3 go gi g ρ M=.ok (.nx ρ) (M.set k (.lst (xs.set i x))):=by
 unfold i3;rw[hg,ai,ho,ai,hi,ai];unfold uD;dsimp only;rw[hk];dsimp only;rw[xp hl];rfl
noncomputable def Cd (x:Str)(w:Nat)(T:List Str)(i:Nat):Prop:=∃p∈aJ x w i,T.getD i ""=b8 T i p∧∀q∈aJ x w i,t7 (b8 T i p) (b8 T i q)
structure cy (x:Str)(w:Nat)(T:List Str)(j:Nat):Prop where
 len:T.length=x.cps.size+1
 last:T.getD x.cps.size ""=""
 best:∀i,j≤i→i<x.cps.size→Cd x w T i
 size:∀i,j≤i→i≤x.cps.size→(T.getD i "").cps.size≤3*(x.cps.size-i)
 ok:∀i,j≤i→i≤x.cps.size→ft (T.getD i "")
theorem fI {x:Str}{w at_:Nat}{p:Str×Nat}(ho:ft x)(ha:at_<x.cps.size)(hp:p∈aJ x w at_):1≤p.2∧p.2≤63∧at_+p.2≤x.cps.size∧p.1.cps.size≤2+p.2∧ft p.1:=by
 have k2:=cB x.cps.toList at_;have k3:=dG w x.cps.toList at_;rw[aF] at k2 k3;have okm:∀(c:Str) (m:Nat),ft c→m<64→ft (c++cq m):=fun c m hc hm d hd=>by
  rw[Str.cps_append,Array.toList_append,mem_append] at hd;rcases hd with hd|hd
  ·exact hc d hd
  ·have hd:d∈[dm.cps.toList.getD (m:Int).toNat 0]:=hd;rw[mem_singleton.mp hd,Int.toNat_natCast];exact Nat.lt_trans (jp hm).1 (by decide)
 have oka:∀a b:Str,ft a→ft b→ft (a++b):=fun a b h1 h2 d hd=>by
  rw[Str.cps_append,Array.toList_append,mem_append] at hd;rcases hd with hd|hd
  ·exact h1 d hd
  ·exact h2 d hd
 unfold aJ at hp;rw[mem_append,mem_append,mem_map,mem_map,mem_map] at hp;rcases hp with(⟨i,hi,rfl⟩|⟨i,hi,rfl⟩)|⟨i,hi,rfl⟩
 ·have hi:=mem_range.mp hi;refine⟨by show 1≤i+1;omega,by show i+1≤63;omega,by show at_+(i+1)≤_;omega,?_,?_⟩
  ·show(k9 x at_ (i+1)).cps.size≤2+(i+1);unfold k9;rw[bf,bf];have:=mL (x:=x) (i:=at_) (j:=at_+(i+1)) (by omega);rw[show((at_:Int)+((i+1:Nat):Int))=((at_+(i+1):Nat):Int) by omega,this];have e1:("!":Str).cps.size=1:=by decide +kernel
   have e2:(cq ((i+1:Nat):Int)).cps.size=1:=rfl;rw[e1,e2,size_toArray,length_take];omega
  ·exact oka _ _ (okm _ _ (oN (by decide +kernel)) (by omega)) (zh ho)
 ·have hi:=mem_range.mp hi;refine⟨by show 1≤i+1;omega,by show i+1≤63;omega,by show at_+(i+1)≤_;omega,?_,?_⟩
  ·show(lj x at_ (i+1)).cps.size≤2+(i+1);unfold lj;rw[bf,bf];have e1:("*":Str).cps.size=1:=by decide +kernel
   have e2:(cq ((i+1:Nat):Int)).cps.size=1:=rfl;have e3:(Dr x at_).cps.size=1:=rfl;rw[e1,e2,e3];omega
  ·exact oka _ _ (okm _ _ (oN (by decide +kernel)) (by omega)) (iM (su ho ha))
 ·have hi:=mem_range.mp hi;refine⟨by show 1≤i+1;omega,by show i+1≤63;omega,by show at_+(i+1)≤_;omega,?_,?_⟩
  ·show(lw (i+1)).cps.size≤2+(i+1);unfold lw;rw[bf];have e1:("^":Str).cps.size=1:=by decide +kernel
   have e2:(cq ((i+1:Nat):Int)).cps.size=1:=rfl;rw[e1,e2];omega
  ·exact okm _ _ (oN (by decide +kernel)) (by omega)
theorem oV {x:Str}{w at_:Nat}(ha:at_<x.cps.size):aJ x w at_≠[]:=fun z=>by
 unfold aJ at z;rw[append_assoc,append_eq_nil_iff,map_eq_nil_iff] at z;have:=congrArg List.length z.1;rw[length_range] at this;simp at this;omega
theorem uk {x:Str}{w at_:Nat}:(aJ x w at_).length≤189:=by
 have k2:=cB x.cps.toList at_;have k3:=dG w x.cps.toList at_;unfold aJ;simp only[length_append,length_map,length_range];omega
theorem oj {T:List Str}{j i:Nat}{y:Str}:(T.set j y).getD i ""=if i=j∧j<T.length then y else T.getD i "":=by
 rw[List.getD,List.getD,getElem?_set]
 by_cases h:j=i
 ·subst h
  by_cases h2:j<T.length
  ·simp[h2]
  ·simp[h2]
 ·have h':¬i=j:=fun z=>h z.symm
  simp[h,h']
theorem u4 {x:Str}{w j:Nat}{T:List Str}{p:Str×Nat}(ho:ft x)(hj:j<x.cps.size)(h:cy x w T (j+1))(hp:p∈aJ x w j)(hb:∀q∈aJ x w j,t7 (b8 T j p) (b8 T j q)):cy x w (T.set j (b8 T j p)) j:=by
 have hl:=h.len;have gt:∀i,j<i→(T.set j (b8 T j p)).getD i ""=T.getD i "":=fun i hi=>by rw[oj,if_neg (by omega)]
 have ge:(T.set j (b8 T j p)).getD j ""=b8 T j p:=by rw[oj,if_pos ⟨rfl,by omega⟩]
 have tt:∀i (q:Str×Nat),j≤i→i<x.cps.size→q∈aJ x w i→b8 (T.set j (b8 T j p)) i q=b8 T i q:=fun i q h1 h2 hq=>by
  have:=(fI ho h2 hq).1;show q.1++(T.set j (b8 T j p)).getD (i+q.2) ""=q.1++T.getD (i+q.2) "";rw[gt _ (by omega)]
 obtain⟨p1,p2,p3,p4,p5⟩:=fI ho hj hp;refine⟨by rw[length_set,hl],by rw[gt _ hj];exact h.last,fun i h1 h2=>?_,fun i h1 h2=>?_,fun i h1 h2=>?_⟩
 ·by_cases hij:i=j
  ·subst hij;exact⟨p,hp,by rw[ge,tt _ _ (Nat.le_refl _) h2 hp],fun q hq=>by rw[tt _ _ (Nat.le_refl _) h2 hp,tt _ _ (Nat.le_refl _) h2 hq];exact hb q hq⟩
  ·obtain⟨r,hr,e,hs⟩:=h.best i (by omega) h2;exact⟨r,hr,by rw[gt _ (by omega),tt _ _ h1 h2 hr];exact e,fun q hq=>by rw[tt _ _ h1 h2 hr,tt _ _ h1 h2 hq];exact hs q hq⟩
 ·by_cases hij:i=j
  ·subst hij;have:=h.size (i+p.2) (by omega) p3;rw[ge,iZ];omega
  ·rw[gt _ (by omega)];exact h.size i (by omega) h2
 ·by_cases hij:i=j
  ·subst hij;rw[ge];intro d hd;unfold b8 at hd;rw[Str.cps_append,Array.toList_append,mem_append] at hd;rcases hd with hd|hd
   ·exact p5 d hd
   ·exact h.ok (i+p.2) (by omega) p3 d hd
  ·rw[gt _ (by omega)];exact h.ok i (by omega) h2
noncomputable def gR:Nat→List D
 | 0=>[]
 | j+1=>.int (j:Nat)::gR j
theorem m9:∀n:Nat,iP ((n:Int)-1) (-1) n=gR n
 | 0=>rfl
 | n+1=>by
  show(List.range (n+1)).map (fun(i:Nat)=>D.int ((((n+1:Nat):Int)-1)+(i:Int)*(-1)))=.int (n:Nat)::gR n;rw[←m9 n,range_succ_eq_map,map_cons,map_map];have e0:(((n+1:Nat):Int)-1)+((0:Nat):Int)*(-1)=(n:Int):=by omega
  rw[e0];congr 1;refine map_congr_left fun i _=>?_
  show D.int ((((n+1:Nat):Int)-1)+((i+1:Nat):Int)*(-1))=D.int (((n:Int)-1)+(i:Int)*(-1));congr 1;omega
section
variable {x:Str}{w:Nat}{M:ax}{a0:Option D}
noncomputable abbrev vE (a0:Option D)(w:Nat)(x:Str)(k:Nat)(d:Option D):a8:=[a0,some (.int w),some (.str x),some (.mr k),d]
theorem s0 (T:List Str):cS (.lst (T.map D.str))=true:=by
 show(T.map D.str).all (bv 30)=true;rw[all_map];exact all_eq_true.mpr fun _ _=>rfl
theorem zg {T:List Str}{j:Nat}(ho:ft x)(hx:x.cps.size≤5000)(hj:j<x.cps.size)(hM:M.all cS=true)(h:cy x w T (j+1)) :
  ∃T',cy x w T' j∧eA (vE a0 w x M.length (some (.int j))) (M++[MO.lst (T.map D.str)])=.ok (.nx (vE a0 w x M.length (some (.int j)))) (M++[MO.lst (T'.map D.str)]):=by
 have hN:(M++[MO.lst (T.map D.str)]).all cS=true:=by rw[all_append,hM,all_cons,s0];rfl
 have hm:=jh M (T.map D.str);have hs:∀T':List Str,(M++[MO.lst (T.map D.str)]).set M.length (.lst (T'.map D.str))=M++[MO.lst (T'.map D.str)]:=fun T'=>kt M _ _
 generalize M++[MO.lst (T.map D.str)]=N at *;have pk:=wN (w:=w) ho hx hj hN;obtain⟨p,hp,hb,e⟩:=y9 (P:=aJ x w j) (at_:=j) hm (oV hj) (Nat.le_trans uk (by decide)) fun p hp=>by
  obtain⟨p1,p2,p3,p4,_⟩:=fI ho hj hp;have:=h.size (j+p.2) (by omega) p3;have:=h.len;exact⟨by omega,by omega,by omega⟩
 refine⟨_,u4 ho hj h hp hb,?_⟩;generalize (aJ x w j).map gj=PD at *;have g:ay 3 eQ (aa (ay 3 fP (aa (af 2) (aa (af 1) (aa (af 4) ah)))) (aa (af 3) (aa (af 4) ah))) (vE a0 w x M.length (some (.int j))) N=.ok (.str (b8 T j p)) N:=
  v6 (v6 (x:=.str x) (M1:=N) rfl (y:=.int w) (M2:=N) rfl (z:=.int j) (M3:=N) rfl pk) (y:=.mr M.length) (M2:=N) rfl (z:=.int j) (M3:=N) rfl e
 have s:=p9 (go:=af 3) (gi:=af 4) (i:=j) g rfl rfl hm (by rw[length_map,h.len];omega);rw[←map_set,hs] at s;exact s
theorem rM {ds0:List D}(ho:ft x)(hx:x.cps.size≤5000)(hM:M.all cS=true):∀(j:Nat) (T:List Str) (d:Option D),j≤x.cps.size→cy x w T j→
  ∃T' d',cy x w T' 0∧bT ⟨ds0,none⟩ (cr 4) eA (gR j) (vE a0 w x M.length d) (M++[MO.lst (T.map D.str)])=.ok (.nx (vE a0 w x M.length d')) (M++[MO.lst (T'.map D.str)])
 | 0,T,d,_,h=>⟨T,d,h,rfl⟩
 | j+1,T,d,hj,h=>by
  obtain⟨T1,h1,e1⟩:=zg (a0:=a0) ho hx (show j<x.cps.size by omega) hM h;obtain⟨T2,d2,h2,e2⟩:=rM (ds0:=ds0) ho hx hM j T1 (some (.int j)) (by omega) h1;refine⟨T2,d2,h2,?_⟩;show bT ⟨ds0,none⟩ (cr 4) eA (.int (j:Nat)::gR j) _ _=_;rw[bT,if_pos fe];show(eA (vE a0 w x M.length (some (.int j))) _).bind _=_;rw[e1,ai];exact e2
end
theorem gw {w:Nat}:∀{rs:List (List Int)},fE w rs→rs.flatten.length=w*rs.length
 | [],_=>by simp
 | r::rs,h=>by
  rw[flatten_cons,length_append,gw (rs:=rs) fun y hy=>h y (mem_cons_of_mem _ hy),(h r mem_cons_self).1,length_cons,Nat.mul_succ];omega
theorem iY {w:Nat}{rs:List (List Int)}(h:fE w rs):∀k∈rs.flatten,jW k:=fun k hk=>by
 obtain⟨r,hr,hk⟩:=mem_flatten.mp hk;exact(h r hr).2 k hk
theorem aS (ks:List Int):(ag ks).cps.size=ks.length:=by rw[←aF,bZ,length_map]
theorem wQ {rs:List (List Int)}{w:Nat}(h:fE w rs)(hw:w≤40)(hl:rs.length≤40):(fb rs).length≤100000:=by
 unfold fb;rw[nG];have h1:=StrLaws.join_length_le "\n" (rs.map ag);have h2:((rs.map ag).map (·.length)).sum≤(rs.map ag).length*40:=StrLaws.sumLen_le _ fun y hy=>by
  obtain⟨r,hr,rfl⟩:=mem_map.mp hy;show(ag r).cps.size≤40;rw[aS,(h r hr).1];exact hw
 have l1:("\n":Str).length=1:=by decide +kernel
 rw[l1,length_map] at h1;rw[length_map] at h2;omega
theorem yO (n:Nat):(List.replicate n [D.str ""]).flatten=(List.replicate n ("":Str)).map D.str:=by
 induction n with
 | zero=>rfl
 | succ n ih=>rw[replicate_succ,flatten_cons,ih];rfl
theorem tH (x:Str)(w:Nat):cy x w (List.replicate (x.cps.size+1) "") x.cps.size:=by
 have g:∀i,(List.replicate (x.cps.size+1) ("":Str)).getD i ""="":=fun i=>by
  rw[List.getD,getElem?_replicate];split <;> rfl
 have z:("":Str).cps.size=0:=by decide +kernel
 refine⟨length_replicate,g _,fun i h1 h2=>absurd h1 (by omega),fun i h1 h2=>?_,fun i h1 h2=>?_⟩
 ·rw[g,z];exact Nat.zero_le _
 ·rw[g];exact Bf
theorem uc {rs:List (List Int)}{w:Nat}{M:ax}(hrs:fE w rs)(h0:rs≠[])(hw:w≤40)(hl:rs.length≤40)(hM:M.all cS=true) :
  ∃T,cy (bz rs) w T 0∧iQ [.lst (aj rs)] M=.ok (.str (ag [(w:Int),(rs.length:Int)]++T.getD 0 "")) M:=by
 have hx0:(bz rs).cps.size=w*rs.length:=by unfold bz;rw[aS,gw hrs]
 have hx:(bz rs).cps.size≤1600:=by rw[hx0];exact Nat.mul_le_mul hw hl
 have ho:ft (bz rs):=kE (iY hrs);obtain⟨T,d',hT,lp⟩:=rM (w:=w) (M:=M) (a0:=some (.lst (aj rs))) (ds0:=gR (bz rs).cps.size) ho (by omega) hM (bz rs).cps.size _ none (Nat.le_refl _) (tH (bz rs) w);refine⟨T,hT,?_⟩;have ts:=hT.size 0 (Nat.le_refl _) (Nat.zero_le _);have tl:=hT.len;have lr:(aj rs).length=rs.length:=length_map ..;have q1:aL bq (aa (g2 bx (af 0) (gC (.int 0))) ah) [some (.lst (aj rs)),none,none,none,none] M=.ok (.int w) M:=by
  cases rs with
  | nil=>exact absurd rfl h0
  | cons r rs=>
   refine dq (ao (x:=.lst (aj (r::rs))) (M1:=M) rfl (y:=.int 0) (M2:=M) rfl (o:=.ok (.lst (r.map D.int)) M) (im (xs:=aj (r::rs)) (k:=0) rfl)) ?_;show aI.ok (D.int ((r.map D.int).length:Int)) M=_;rw[length_map,(hrs r mem_cons_self).1]
 have q2:∀(a b c:Option D),uR "\n" "" (ay 1 ck (aa (af 0) ah)) [some (.lst (aj rs)),some (.int w),a,b,c] M=.ok (.str (bz rs)) M:=fun a b c=>by
  unfold uR;rw[fw (x:=.lst (aj rs)) (M1:=M) rfl (pH (fun r hr=>⟨by rw[(hrs r hr).1];exact hw,(hrs r hr).2⟩) hl),ai];show(if(fb rs).length≤100000 then aI.ok (D.str (Txt.replace (fb rs) "\n" "")) M else .bad)=_;rw[if_pos (wQ hrs hw hl),uV h0 fun r hr=>(hrs r hr).2]
 have q5:∀(N:ax) (k:Nat) (d:Option D),ay 1 cM (aa (cL (aa (af 1) (aa (aL bq (aa (af 0) ah)) ah))) ah) (vE (some (.lst (aj rs))) w (bz rs) k d) N=.ok (.str (ag [(w:Int),(rs.length:Int)])) N:=fun N k d=>by
  refine fw (fh (aX (d:=.int w) (M1:=N) rfl (aX (d:=.int rs.length) (M1:=N) (dq (x:=.lst (aj rs)) (M1:=N) rfl ?_) rfl))) (mi (ks:=[(w:Int),(rs.length:Int)]) (fun k hk=>?_) (show 2≤1000 by decide))
  ·show aI.ok (D.int ((aj rs).length:Int)) N=_;rw[lr]
  ·rcases mem_cons.mp hk with rfl|hk
   ·exact⟨by omega,by omega⟩
   ·rw[mem_singleton.mp hk];exact⟨by omega,by omega⟩
 have t0:∀N:ax,N[M.length]?=some (.lst (T.map D.str))→bx (.mr M.length) (.int 0) N=.ok (.str (T.getD 0 "")) N:=fun N hN=>mV (n:=0) hN (by omega)
 generalize bz rs=x at *;generalize hn:x.cps.size=n at *;have q3:g2 lF (cL (aa (gC (.str "")) ah)) (g2 az (aL bq (aa (af 2) ah)) (gC (.int 1))) [some (.lst (aj rs)),some (.int w),some (.str x),none,none] M=.ok (.mr M.length) (M++[MO.lst ((List.replicate (n+1) ("":Str)).map D.str)]):=by
  refine ao (fh (ds:=[.str ""]) rfl) (ao (dq (x:=.str x) (M1:=M) rfl (fT (by omega) M)) (y:=.int 1) (M2:=M) rfl rfl) ?_;show(if 0≤((x.cps.size:Int)+1)∧((x.cps.size:Int)+1)≤100000∧[D.str ""].length*((x.cps.size:Int)+1).toNat≤100000 then aI.ok (D.mr M.length) (M++[MO.lst (List.replicate ((x.cps.size:Int)+1).toNat [D.str ""]).flatten]) else .bad)=_;rw[hn,show((n:Int)+1).toNat=n+1 by omega,if_pos ⟨by omega,by omega,by rw[length_singleton];omega⟩,yO]
 have q4:∀N:ax,om (aa (aL bq (aa (af 2) ah)) ah) (vE (some (.lst (aj rs))) w x M.length none) N=.ok ⟨gR n,none⟩ N:=fun N=>by
  unfold om;rw[aX (dq (x:=.str x) (M1:=N) rfl (fT (by omega) N)) (ds:=[]) (M2:=N) rfl,ai];show(if 0≤(x.cps.size:Int)∧(x.cps.size:Int)≤100000 then aI.ok (⟨iP ((x.cps.size:Int)-1) (-1) (x.cps.size:Int).toNat,none⟩:jY) N else .bad)=_;rw[hn,if_pos ⟨by omega,by omega⟩,Int.toNat_natCast,m9]
 have q:fD [some (.lst (aj rs)),none,none,none,none] M=.ok (.rt (.str (ag [(w:Int),(rs.length:Int)]++T.getD 0 ""))) (M++[MO.lst (T.map D.str)]):=by
  unfold fD;rw[aB (aD q1)];show aq _ _ [some (.lst (aj rs)),some (.int w),none,none,none] M=_;rw[aB (aD (q2 _ _ _))];show aq _ _ [some (.lst (aj rs)),some (.int w),some (.str x),none,none] M=_;rw[aB (aD q3)];show aq _ _ (vE (some (.lst (aj rs))) w x M.length none) _=_;rw[aB (jr (q4 _) lp)];have hm:=jh M (T.map D.str);generalize M++[MO.lst (T.map D.str)]=N at *;refine iA (ao (q5 N M.length d') (ao (x:=.mr M.length) (M1:=N) rfl (y:=.int 0) (M2:=N) rfl (t0 N hm)) (c0 ?_ ?_ N))
  ·show(ag [(w:Int),(rs.length:Int)]).cps.size≤90000;rw[aS];exact(show 2≤90000 by decide)
  ·show(T.getD 0 "").cps.size≤90000;omega
 show hZ M.length (aZ (fD [some (.lst (aj rs)),none,none,none,none] M))=_;rw[q];exact lP (d:=.str _) (E:=[MO.lst (T.map D.str)]) rfl hM
theorem o8 (c:Nat):aw c=-1∨0≤aw c∧aw c<64:=by
 unfold aw;rcases StrLaws.occ_head dm ⟨#[c]⟩ 1 (Nat.le_refl _) with⟨h,_⟩|⟨i,r,h,ha,_⟩
 ·exact .inl (vN h)
 ·right;rw[tB h];have h1:=ha.1;have l1:(⟨#[c]⟩:Str).length=1:=rfl;have l2:dm.length=64:=by decide +kernel
  rw[l1,l2] at h1;omega
noncomputable def ig (t:List Nat):Bool:=t.all fun c=>aw c != -1
theorem yA (x:Str):((bp x).any (·==-1))=!ig x.cps.toList:=by
 unfold bp ig;rw[any_map]
 induction x.cps.toList with
 | nil=>rfl
 | cons c t ih=>
  rw[any_cons,all_cons,Bool.not_and,ih];show((aw c==-1)||_)=((!(aw c != -1))||_);rw[show(aw c != -1)=!(aw c==-1) from rfl,Bool.not_not]
noncomputable def eR (t:List Nat):D:=.lst ((t.map aw).map D.int)
theorem zX {x:Str}{M:ax}(hx:x.cps.size≤100000):aV [.str x] M=if ig x.cps.toList then .ok (eR x.cps.toList) M else .err "NoText" M:=by
 rw[wW hx,yA];cases ig x.cps.toList with
 | true=>rfl
 | false=>rfl
theorem vX {xs:List D}{m:Nat}{M:ax}:cb [.lst xs,.int m] M=if xs.length=m then .ok (.lst xs) M else .err "NoText" M:=by
 have t:(aO (g2 (bc true) (aL bq (aa (af 0) ah)) (af 1))) [some (.lst xs),some (.int m)] M=.ok (!decide ((xs.length:Int)=m)) M:=a5 (ao (dq (x:=.lst xs) (M1:=M) rfl rfl) (y:=.int m) (M2:=M) rfl (sB _ _ M));show aZ (g6 [some (.lst xs),some (.int m)] M)=_;unfold g6
 by_cases h:xs.length=m
 ·rw[aB (ρ1:=[some (.lst xs),some (.int m)]) (M1:=M) ((i5 (t.trans (by rw[decide_eq_true (show(xs.length:Int)=m by omega)];rfl))).trans rfl),if_pos h];rfl
 ·rw[ia (c:="NoText") (M1:=M) ((lJ (t.trans (by rw[decide_eq_false (show¬(xs.length:Int)=m by omega)];rfl))).trans rfl),if_neg h];rfl
theorem xr {n:Nat}{F:FD}{a:GE}{r:GA}{ρ:a8}{M M1:ax}{c:Str}(h:a ρ M=.err c M1):ay n F (aa a r) ρ M=.err c M1:=by
 unfold ay;have e:aa a r ρ M=.err c M1:=by
  unfold aa;rw[h];rfl
 rw[e];rfl
theorem wA {x:Str}{m:Nat}{M:ax}{ρ:a8}{g gm:GE}(hx:x.cps.size≤100000)(h1:g ρ M=.ok (.str x) M)(h2:gm ρ M=.ok (.int m) M) :
  ay 2 cb (aa (ay 1 aV (aa g ah)) (aa gm ah)) ρ M=if ig x.cps.toList∧x.cps.size=m then .ok (eR x.cps.toList) M else .err "NoText" M:=by
 have r:=zX (M:=M) hx;cases q:ig x.cps.toList with
 | true=>
  rw[q,if_pos rfl] at r;refine(eO (fw h1 r) h2 (o:=if x.cps.size=m then .ok (eR x.cps.toList) M else .err "NoText" M) ?_).trans ?_
  ·unfold eR;rw[vX,length_map,length_map,aF]
  ·simp
 | false=>
  rw[q,if_neg Bool.false_ne_true] at r;have c:=fw h1 r;rw[if_neg (fun z=>by cases z.1)];exact xr c
noncomputable def nF (t:List Nat):Option Nat:=if ig t∧t.length=1∧aw (t.getD 0 0)≠0 then some (aw (t.getD 0 0)).toNat else none
theorem vJ {t:List Nat}{m:Nat}(h:nF t=some m):1≤m∧m<64∧ig t=true∧t.length=1∧aw (t.getD 0 0)=m:=by
 unfold nF at h;split at h
 ·rename_i hc;cases h
  match t,hc with
  | [c],hc=>
   have:=o8 c;have h2:(aw c != -1)=true:=by have:=hc.1;unfold ig at this;simpa using this
   have h3:aw c≠-1:=by simpa using h2
   have h4:aw c≠0:=hc.2.2;refine⟨?_,?_,hc.1,rfl,?_⟩
   ·show 1≤(aw c).toNat;omega
   ·show(aw c).toNat<64;omega
   ·show aw c=((aw c).toNat:Int);omega
 ·cases h
theorem o5 {z:Str}{M:ax}(hz:z.cps.size≤100000):dR [.str z] M=match nF z.cps.toList with|some m=>.ok (.int (m:Nat)) M|none=>.err "NoText" M:=by
 have r:=wA (M:=M) (m:=1) (ρ:=[some (.str z),none]) (g:=af 0) (gm:=gC (.int 1)) hz rfl rfl;show aZ (ek [some (.str z),none] M)=_;unfold ek nF
 by_cases h:ig z.cps.toList=true∧z.cps.size=1
 ·rw[if_pos h] at r;have h2:z.cps.toList.length=1:=by rw[aF];exact h.2
  generalize z.cps.toList=t at *
  match t,h2 with
  | [c],_=>
   have ix:bx (eR [c]) (.int 0) M=.ok (.int (aw c)) M:=im (xs:=[.int (aw c)]) (k:=0) rfl;rw[aB (aD (ao r (y:=.int 0) (M2:=M) rfl ix))];show aZ (aq _ _ [some (.str z),some (.int (aw c))] M)=_;have tt:(aO (g2 (bc false) (af 1) (gC (.int 0)))) [some (.str z),some (.int (aw c))] M=.ok (decide (aw c=0)) M:=a5 (ao (x:=.int (aw c)) (M1:=M) rfl (y:=.int 0) (M2:=M) rfl (jG _ _ M))
   by_cases hc:aw c=0
   ·rw[ia (c:="NoText") (M1:=M) ((lJ (tt.trans (by rw[decide_eq_true hc]))).trans rfl),if_neg (fun z=>z.2.2 hc)];rfl
   ·have f:=o8 c;have h3:aw c≠-1:=by have:=h.1;unfold ig at this;simpa using this
    rw[aB (ρ1:=[some (.str z),some (.int (aw c))]) (M1:=M) ((i5 (tt.trans (by rw[decide_eq_false hc]))).trans rfl),if_pos ⟨h.1,rfl,hc⟩];show aI.ok (D.int (aw c)) M=.ok (.int (((aw c).toNat:Nat):Int)) M;rw[show(((aw c).toNat:Nat):Int)=aw c by omega]
 ·rw[if_neg h] at r;have e:g2 bx (ay 2 cb (aa (ay 1 aV (aa (af 0) ah)) (aa (gC (.int 1)) ah))) (gC (.int 0)) [some (.str z),none] M=.err "NoText" M:=by
   unfold DL.g2;rw[r];rfl
  have e2:aA 1 (g2 bx (ay 2 cb (aa (ay 1 aV (aa (af 0) ah)) (aa (gC (.int 1)) ah))) (gC (.int 0))) [some (.str z),none] M=.err "NoText" M:=by
   unfold aA;rw[e];rfl
  rw[ia e2,if_neg (fun q=>h ⟨q.1,by rw[←aF];exact q.2.1⟩)];rfl
noncomputable def xy (w:Nat):Nat→List Int→List Int
 | 0,hs=>hs
 | m+1,hs=>xy w m (hs++[hs.getD (hs.length-w) 0])
noncomputable def ie (x:Str)(w at_:Nat)(hs:List Int):Option (Nat×List Int):=
 match nF ((x.cps.toList.drop (at_+1)).take 1) with
 | none=>none
 | some m=>
  if x.cps.toList.getD at_ 0=33 then(if ig ((x.cps.toList.drop (at_+2)).take m)∧((x.cps.toList.drop (at_+2)).take m).length=m then some (at_+2+m,hs++((x.cps.toList.drop (at_+2)).take m).map aw) else none)
  else if x.cps.toList.getD at_ 0=42 then(if ig ((x.cps.toList.drop (at_+2)).take 1)∧((x.cps.toList.drop (at_+2)).take 1).length=1 then some (at_+3,hs++List.replicate m (aw (((x.cps.toList.drop (at_+2)).take 1).getD 0 0))) else none)
  else if x.cps.toList.getD at_ 0=94∧w≤hs.length then some (at_+2,xy w m hs) else none
theorem rW (w:Nat):∀(m:Nat) (hs:List Int),(xy w m hs).length=hs.length+m
 | 0,hs=>rfl
 | m+1,hs=>by
  show(xy w m (hs++[hs.getD (hs.length-w) 0])).length=_;rw[rW w m,length_append,length_singleton];omega
theorem wv {F:List D→List D→Option (D×List D)}{go:GE}{ga:GA}{ρ:a8}{M M1:ax}{k:Nat}{xs:List D}{c:Str}(h1:go ρ M=.ok (.mr k) M)(h2:pG M k=some xs)(h3:ga ρ M=.err c M1):pL F go ga ρ M=.err c M1:=by
 unfold pL;rw[h1,ai];dsimp only;rw[h2];dsimp only;rw[h3];rfl
theorem sk {g:GE}{r:GA}{ρ:a8}{M M1:ax}{c:Str}(h:g ρ M=.err c M1):aa g r ρ M=.err c M1:=by
 unfold aa;rw[h];rfl
theorem sd {g:GE}{ρ:a8}{M M1:ax}{c:Str}(h:g ρ M=.err c M1):cD g ρ M=.err c M1:=by
 unfold cD;rw[h];rfl
theorem pX {i:Nat}{g:GE}{ρ:a8}{M M1:ax}{c:Str}(h:g ρ M=.err c M1):aA i g ρ M=.err c M1:=by
 unfold aA;rw[h];rfl
theorem BF {f:F2}{a b:GE}{ρ:a8}{M M1:ax}{c:Str}(h:a ρ M=.err c M1):g2 f a b ρ M=.err c M1:=by
 unfold DL.g2;rw[h];rfl
theorem wl {xs ys:List D}(h:xs.length+ys.length≤1000000):jx xs [.lst ys]=some (.non,xs++ys):=by
 show(if xs.length+ys.length≤sizeLine then some (D.non,xs++ys) else none)=_;rw[if_pos (ba h)]
theorem rQ {M:ax}{k:Nat}{xs:List D}(h:M[k]?=some (.lst xs)):pG M k=some xs:=by simp[pG,h]
theorem Av {xs:List D}{w:Nat}{d:D}{M:ax}{k:Nat}(hm:M[k]?=some (.lst xs))(h1:1≤w)(h2:w≤xs.length)(h:xs[xs.length-w]?=some d):bx (.mr k) (.int (-(w:Int))) M=.ok d M:=by
 have a:li xs (-(w:Int))=some d:=by
  unfold li pW;rw[if_neg (by omega),if_pos (by omega)];show xs[(-(w:Int)+(xs.length:Int)).toNat]?=some d;rw[show(-(w:Int)+(xs.length:Int)).toNat=xs.length-w by omega];exact h
 show qB (.mr k) (.int (-(w:Int))) M=_;unfold qB;rw[kU hm];dsimp only;rw[a]
section
variable {x:Str}{w at_ k:Nat}{M:ax}{hs:List Int}
noncomputable abbrev rE (x:Str)(w at_ k:Nat)(a b c d:Option D):a8:=[some (.str x),some (.int at_),some (.int w),some (.mr k),a,b,c,d]
theorem v9 {ds0:List D}{a b c:Option D}(h1:1≤w):∀(ds:List D) (hs:List Int) (d:Option D) (M:ax),w≤hs.length→hs.length+ds.length≤900000→M[k]?=some (.lst (hs.map D.int))→
  ∃d',bT ⟨ds0,none⟩ (cr 7) cu ds (rE x w at_ k a b c d) M=.ok (.nx (rE x w at_ k a b c d')) (M.set k (.lst ((xy w ds.length hs).map D.int)))
 | [],hs,d,M,h2,h3,hm=>⟨d,by
   have:M.set k (.lst (hs.map D.int))=M:=by
    apply ext_getElem?;intro i;rw[getElem?_set];split
    ·rename_i e;subst e;split
     ·exact hm.symm
     ·rename_i hl;rw[getElem?_eq_none (by omega)]
    ·rfl
   show aI.ok _ M=_;show aI.ok _ M=.ok _ (M.set k (.lst (hs.map D.int)));rw[this]⟩
 | e::ds,hs,d,M,h2,h3,hm=>by
  rw[length_cons] at h3;have hn:hs.length-w<hs.length:=by omega
  have v:bx (.mr k) (.int (-(w:Int))) M=.ok (.int (hs.getD (hs.length-w) 0)) M:=Av hm h1 (by rw[length_map];exact h2) (by rw[length_map,getElem?_map,getElem?_eq_getElem hn,List.getD,getElem?_eq_getElem hn];rfl);have ap:fK (af 3) (g2 bx (af 3) (iG (af 2))) (rE x w at_ k a b c (some e)) M=.ok .non (M.set k (.lst (hs.map D.int++[.int (hs.getD (hs.length-w) 0)]))):=
   wV (k:=k) rfl hm (ao (x:=.mr k) (M1:=M) rfl (y:=.int (-(w:Int))) (M2:=M) rfl v) hm (by rw[length_map];omega)
  have kl:k<M.length:=(List.getElem?_eq_some_iff.mp hm).1;obtain⟨d',q⟩:=v9 (ds0:=ds0) (a:=a) (b:=b) (c:=c) h1 ds (hs++[hs.getD (hs.length-w) 0]) (some e) (M.set k (.lst ((hs++[hs.getD (hs.length-w) 0]).map D.int))) (by rw[length_append];omega) (by rw[length_append,length_singleton];omega) (by rw[getElem?_set,if_pos rfl,if_pos kl]);refine⟨d',?_⟩;rw[bT,if_pos fe];show(cu (rE x w at_ k a b c (some e)) M).bind _=_;have bb:cu (rE x w at_ k a b c (some e)) M=.ok (.nx (rE x w at_ k a b c (some e))) (M.set k (.lst ((hs++[hs.getD (hs.length-w) 0]).map D.int))):=by
   rw[map_append];exact fW ap
  rw[bb,ai];rw[set_set] at q;exact q
end
section
variable {x:Str}{w at_ k:Nat}{M:ax}{hs:List Int}
theorem HH:("!":Str)=⟨#[33]⟩:=by decide +kernel
theorem HL:("*":Str)=⟨#[42]⟩:=by decide +kernel
theorem HF:("^":Str)=⟨#[94]⟩:=by decide +kernel
theorem ww {c n:Nat}{v:Str}{ρ:a8}(hv:v=⟨#[n]⟩)(hn:n<0x110000)(hc:c<0x110000)(h:ρ[4]?=some (some (.str ⟨#[c]⟩))):(aO (g2 (bc false) (af 4) (gC (.str v)))) ρ M=.ok (decide (c=n)) M:=by
 subst hv;exact a5 (ao (x:=.str ⟨#[c]⟩) (M1:=M) (by unfold af;rw[h]) (y:=.str ⟨#[n]⟩) (M2:=M) rfl (vA hc hn M))
theorem Ag {c n:Nat}{v:Str}{ρ:a8}(hv:v=⟨#[n]⟩)(hn:n<0x110000)(hc:c<0x110000)(h:ρ[4]?=some (some (.str ⟨#[c]⟩))):(aO (g2 (bc true) (af 4) (gC (.str v)))) ρ M=.ok (!decide (c=n)) M:=by
 subst hv;refine a5 (ao (x:=.str ⟨#[c]⟩) (M1:=M) (by unfold af;rw[h]) (y:=.str ⟨#[n]⟩) (M2:=M) rfl ?_);rw[Hv (iM hc) (iM hn)];congr 2;congr 1;exact decide_eq_decide.mpr sj
noncomputable def Df:GS:=(aq (cD (pL jx (af 3) (aa (ay 2 cb (aa (ay 1 aV (aa (dj (af 0) (aN (af 6)) (aN (g2 az (af 6) (af 5)))) ah)) (aa (af 5) ah))) ah))) (bD (g2 az (af 6) (af 5))))
noncomputable def Do:GS:=(aq (cD (pL jx (af 3) (aa (g2 lq (ay 2 cb (aa (ay 1 aV (aa (dj (af 0) (aN (af 6)) (aN (g2 az (af 6) (gC (.int 1))))) ah)) (aa (gC (.int 1)) ah))) (af 5)) ah))) (bD (g2 az (af 6) (gC (.int 1)))))
noncomputable def HA:GT:=(en (aO (g2 (bc true) (af 4) (gC (.str "^")))) (aO (g2 j6 (aL bq (aa (af 3) ah)) (af 2))))
noncomputable def GP:GS:=(aq (gn HA (cx "NoText" (gC (.str "there is no such part, or nothing above its spots"))) bn) (aq (iw (dB (aa (af 5) ah)) (cr 7) cu) (bD (af 6))))
theorem Fz (ρ:a8)(M:ax):eX ρ M=aq (aA 4 (g2 bx (af 0) (af 1))) (aq (aA 5 (ay 1 dR (aa (dj (af 0) (aN (g2 az (af 1) (gC (.int 1)))) (aN (g2 az (af 1) (gC (.int 2))))) ah))) (aq (aA 6 (g2 az (af 1) (gC (.int 2)))) (aq (gn (aO (g2 (bc false) (af 4) (gC (.str "!")))) Df bn) (aq (gn (aO (g2 (bc false) (af 4) (gC (.str "*")))) Do bn) GP)))) ρ M:=rfl
noncomputable abbrev rF (x:Str)(w at_ k c m:Nat):a8:=rE x w at_ k (some (.str ⟨#[c]⟩)) (some (.int m)) (some (.int ((at_+2:Nat):Int))) none
noncomputable def zy (M:ax)(k:Nat):Option (Nat×List Int)→aI D
 | some (a,hs)=>.ok (.int (a:Nat)) (M.set k (.lst (hs.map D.int)))
 | none=>.err "NoText" M
theorem Ha {c m:Nat}(hx:x.cps.size≤5000)(hm:m<64)(hh:hs.length≤500000)(hM:M[k]?=some (.lst (hs.map D.int))) :
  aZ (Df (rF x w at_ k c m) M)=zy M k (if ig ((x.cps.toList.drop (at_+2)).take m)∧((x.cps.toList.drop (at_+2)).take m).length=m then some (at_+2+m,hs++((x.cps.toList.drop (at_+2)).take m).map aw) else none):=by
 have cs:=mL (x:=x) (i:=at_+2) (j:=at_+2+m) (by omega);have cc:=fY (x:=x) (i:=at_+2) (j:=at_+2+m) (by omega);rw[show at_+2+m-(at_+2)=m by omega] at cc;have sl:dj (af 0) (aN (af 6)) (aN (g2 az (af 6) (af 5))) (rF x w at_ k c m) M=.ok (.str (cW x (some ((at_+2:Nat):Int)) (some ((at_+2+m:Nat):Int)))) M:=
  fq (x:=.str x) (M1:=M) rfl (lo:=some ((at_+2:Nat):Int)) (M2:=M) rfl (hi:=some ((at_+2+m:Nat):Int)) (M3:=M) rfl (gW (by omega) M)
 have z:=jD (x:=x) (lo:=some ((at_+2:Nat):Int)) (hi:=some ((at_+2+m:Nat):Int));have r:=wA (m:=m) (gm:=af 5) (by omega) sl rfl;have ll:=aF (cW x (some ((at_+2:Nat):Int)) (some ((at_+2+m:Nat):Int)));rw[←ll,cc] at r;generalize ht:(x.cps.toList.drop (at_+2)).take m=t at *;unfold Df
 by_cases q:ig t=true∧t.length=m
 ·rw[if_pos q] at r ⊢;have g:=wn (F:=jx) (go:=af 3) (ρ:=rF x w at_ k c m) (ds:=[eR t]) rfl (rQ hM) (aX (r:=ah) r rfl) (wl (ys:=(t.map aw).map D.int) (by rw[length_map,length_map,length_map,q.2];omega));rw[aB (fW g)];show aZ (bD _ (rF x w at_ k c m) _)=_;show aI.ok (D.int ((at_+2+m:Nat):Int)) (M.set k (.lst (hs.map D.int++(t.map aw).map D.int)))=_;rw[←map_append];rfl
 ·rw[if_neg q] at r ⊢;rw[ia (sd (wv (F:=jx) (go:=af 3) rfl (rQ hM) (sk r)))];rfl
theorem Ga {c m:Nat}(hx:x.cps.size≤5000)(hm:m<64)(hh:hs.length≤500000)(hM:M[k]?=some (.lst (hs.map D.int))) :
  aZ (Do (rF x w at_ k c m) M)=zy M k (if ig ((x.cps.toList.drop (at_+2)).take 1)∧((x.cps.toList.drop (at_+2)).take 1).length=1 then some (at_+3,hs++List.replicate m (aw (((x.cps.toList.drop (at_+2)).take 1).getD 0 0))) else none):=by
 have cc:=fY (x:=x) (i:=at_+2) (j:=at_+3) (by omega);rw[show at_+3-(at_+2)=1 by omega] at cc;have sl:dj (af 0) (aN (af 6)) (aN (g2 az (af 6) (gC (.int 1)))) (rF x w at_ k c m) M=.ok (.str (cW x (some ((at_+2:Nat):Int)) (some ((at_+3:Nat):Int)))) M:=
  fq (x:=.str x) (M1:=M) rfl (lo:=some ((at_+2:Nat):Int)) (M2:=M) rfl (hi:=some ((at_+3:Nat):Int)) (M3:=M) rfl (gW (by omega) M)
 have z:=jD (x:=x) (lo:=some ((at_+2:Nat):Int)) (hi:=some ((at_+3:Nat):Int));have r:=wA (m:=1) (gm:=gC (.int 1)) (by omega) sl rfl;have ll:=aF (cW x (some ((at_+2:Nat):Int)) (some ((at_+3:Nat):Int)));rw[←ll,cc] at r;generalize ht:(x.cps.toList.drop (at_+2)).take 1=t at *;unfold Do
 by_cases q:ig t=true∧t.length=1
 ·rw[if_pos q] at r ⊢
  match t,q.2 with
  | [v],_=>
   have mu:lq (eR [v]) (.int m) M=.ok (.lst ((List.replicate m (aw v)).map D.int)) M:=by
    show(if 0≤(m:Int)∧(m:Int)≤100000∧[D.int (aw v)].length*(m:Int).toNat≤100000 then aI.ok (D.lst (List.replicate (m:Int).toNat [D.int (aw v)]).flatten) M else .bad)=_;rw[if_pos ⟨by omega,by omega,by rw[length_singleton,Int.toNat_natCast];omega⟩,Int.toNat_natCast,ny]
   have g:=wn (F:=jx) (go:=af 3) (ρ:=rF x w at_ k c m) (ds:=[.lst ((List.replicate m (aw v)).map D.int)]) rfl (rQ hM) (aX (r:=ah) (ao r (b:=af 5) (y:=.int m) (M2:=M) rfl mu) rfl) (wl (ys:=(List.replicate m (aw v)).map D.int) (by rw[length_map,length_map,length_replicate];omega));rw[aB (fW g)];show aI.ok (D.int ((at_+3:Nat):Int)) (M.set k (.lst (hs.map D.int++(List.replicate m (aw v)).map D.int)))=_;rw[←map_append];rfl
 ·rw[if_neg q] at r ⊢;rw[ia (sd (wv (F:=jx) (go:=af 3) rfl (rQ hM) (sk (BF r))))];rfl
theorem G9 {c m:Nat}(h1:1≤w)(hc:c<0x110000)(hm:m<64)(hh:hs.length≤500000)(hM:M[k]?=some (.lst (hs.map D.int))) :
  aZ (GP (rF x w at_ k c m) M)=zy M k (if c=94∧w≤hs.length then some (at_+2,xy w m hs) else none):=by
 have t:HA (rF x w at_ k c m) M=.ok (!decide (c=94)||decide ((hs.length:Int)<w)) M:=by
  refine gx (Ag HF (by decide) hc rfl) fun _=>a5 (ao (dq (x:=.mr k) (M1:=M) rfl (qq hM)) (y:=.int w) (M2:=M) rfl ?_)
  rw[length_map];rfl
 unfold GP
 by_cases q:c=94∧w≤hs.length
 ·rw[if_pos q,aB (ρ1:=rF x w at_ k c m) (M1:=M) ((i5 (t.trans (by rw[decide_eq_true q.1,decide_eq_false (show¬(hs.length:Int)<w by omega)];rfl))).trans rfl)];obtain⟨d',f⟩:=v9 (x:=x) (at_:=at_) (k:=k) (ds0:=aT 0 m) (a:=some (.str ⟨#[c]⟩)) (b:=some (.int m)) (c:=some (.int ((at_+2:Nat):Int))) h1 (aT 0 m) hs none M q.2 (by simp[aT];omega) hM;have lm:(aT 0 m).length=m:=by simp[aT]
  rw[lm] at f;rw[aB (jr (iN (n:=m) (aX (d:=.int m) (M1:=M) rfl rfl) (by omega)) f)];rfl
 ·rw[if_neg q,ia (c:="NoText") (M1:=M) ((lJ (t.trans (by
   by_cases q2:c=94
   ·rw[decide_eq_true q2,decide_eq_true (show(hs.length:Int)<w by have:¬w≤hs.length:=fun z=>q ⟨q2,z⟩;omega)];rfl
   ·rw[decide_eq_false q2];rfl))).trans rfl)]
  rfl
noncomputable def yc (o:aI Fl):Prop:=∀ρ M,o≠.ok (.nx ρ) M
theorem rB {a b:GS}{ρ:a8}{M:ax}(h:yc (a ρ M)):aZ (aq a b ρ M)=aZ (a ρ M):=by
 unfold aq;cases q:a ρ M with
 | err c M1=>rfl
 | bad=>rfl
 | ok f M1=>
  cases f with
  | nx ρ1=>exact absurd q (h ρ1 M1)
  | rt d=>rfl
  | bk ρ1=>rfl
  | ct ρ1=>rfl
theorem oi {a:GS}{g:GE}{ρ:a8}{M:ax}:yc (aq a (bD g) ρ M):=fun ρ' M' h=>by
 unfold aq at h;cases q:a ρ M with
 | err c M1=>rw[q] at h;cases h
 | bad=>rw[q] at h;cases h
 | ok f M1=>
  rw[q] at h;cases f with
  | nx ρ1=>
   have h:bD g ρ1 M1=.ok (.nx ρ') M':=h;unfold bD at h;cases q2:g ρ1 M1 with
   | ok d M2=>rw[q2] at h;cases h
   | err c M2=>rw[q2] at h;cases h
   | bad=>rw[q2] at h;cases h
  | rt d=>cases h
  | bk ρ1=>cases h
  | ct ρ1=>cases h
theorem x9 {ρ:a8}{M:ax}:yc (Df ρ M):=oi
theorem yH {ρ:a8}{M:ax}:yc (Do ρ M):=oi
theorem yZ (ho:ft x)(hx:x.cps.size≤5000)(ha:at_<x.cps.size)(h1:1≤w)(hh:hs.length≤500000)(hM:M[k]?=some (.lst (hs.map D.int))) :
  eY [.str x,.int at_,.int w,.mr k] M=zy M k (ie x w at_ hs):=by
 have hc:=su ho ha;have cc:=fY (x:=x) (i:=at_+1) (j:=at_+2) (by omega);rw[show at_+2-(at_+1)=1 by omega] at cc;have z:=jD (x:=x) (lo:=some ((at_+1:Nat):Int)) (hi:=some ((at_+2:Nat):Int));have ct:=o5 (M:=M) (z:=cW x (some ((at_+1:Nat):Int)) (some ((at_+2:Nat):Int))) (by omega);rw[cc] at ct;have sl:∀a b c d,dj (af 0) (aN (g2 az (af 1) (gC (.int 1)))) (aN (g2 az (af 1) (gC (.int 2)))) (rE x w at_ k a b c d) M=.ok (.str (cW x (some ((at_+1:Nat):Int)) (some ((at_+2:Nat):Int)))) M:=fun a b c d=>
  fq (x:=.str x) (M1:=M) rfl (lo:=some ((at_+1:Nat):Int)) (M2:=M) rfl (hi:=some ((at_+2:Nat):Int)) (M3:=M) rfl (gW (by omega) M)
 show aZ (eX (rE x w at_ k none none none none) M)=_;have i0:=jl (kH ha) (show x.cps.size≤90000 by omega) M;unfold ie;rw[Fz,aB (aD (ao (x:=.str x) (M1:=M) rfl (y:=.int at_) (M2:=M) rfl i0))];show aZ (aq _ _ (rE x w at_ k (some (.str ⟨#[x.cps.toList.getD at_ 0]⟩)) none none none) M)=_;generalize x.cps.toList.getD at_ 0=c at *;cases q:nF ((x.cps.toList.drop (at_+1)).take 1) with
 | none=>
  rw[q] at ct;rw[ia (pX (fw (sl _ _ _ _) ct))];rfl
 | some m=>
  rw[q] at ct;have hm:=(vJ q).2.1;rw[aB (aD (fw (sl _ _ _ _) ct))];show aZ (aq _ _ (rE x w at_ k (some (.str ⟨#[c]⟩)) (some (.int m)) none none) M)=_;rw[aB (aD (d:=.int ((at_+2:Nat):Int)) (M1:=M) rfl)];show aZ (aq _ _ (rF x w at_ k c m) M)=_;have t1:=ww (M:=M) (c:=c) (ρ:=rF x w at_ k c m) HH (by decide) hc rfl;have t2:=ww (M:=M) (c:=c) (ρ:=rF x w at_ k c m) HL (by decide) hc rfl;dsimp only
  by_cases q1:c=33
  ·rw[if_pos q1];have e:=Ha (x:=x) (w:=w) (at_:=at_) (c:=c) hx hm hh hM;have s:gn (aO (g2 (bc false) (af 4) (gC (.str "!")))) Df bn (rF x w at_ k c m) M=Df (rF x w at_ k c m) M:=lJ (t1.trans (by rw[decide_eq_true q1]));rw[←e,←s];exact rB (by rw[s];exact x9)
  ·rw[if_neg q1,aB (ρ1:=rF x w at_ k c m) (M1:=M) ((i5 (t1.trans (by rw[decide_eq_false q1]))).trans rfl)]
   by_cases q2:c=42
   ·rw[if_pos q2];have e:=Ga (x:=x) (w:=w) (at_:=at_) (c:=c) hx hm hh hM;have s:gn (aO (g2 (bc false) (af 4) (gC (.str "*")))) Do bn (rF x w at_ k c m) M=Do (rF x w at_ k c m) M:=lJ (t2.trans (by rw[decide_eq_true q2]));rw[←e,←s];exact rB (by rw[s];exact yH)
   ·rw[if_neg q2,aB (ρ1:=rF x w at_ k c m) (M1:=M) ((i5 (t2.trans (by rw[decide_eq_false q2]))).trans rfl)];exact G9 h1 hc hm hh hM
end
noncomputable def jB (x:Str)(w:Nat):Nat→Nat→List Int→Option (List Int)
 | 0,_,_=>none
 | f+1,a,hs=>if a<x.cps.size then(match ie x w a hs with|some (b,hs')=>jB x w f b hs'|none=>none) else some hs
theorem sI {x:Str}{w a b:Nat}{hs hs':List Int}(h:ie x w a hs=some (b,hs')):a+2≤b∧hs'.length≤hs.length+63∧hs.length≤hs'.length:=by
 unfold ie at h;split at h
 ·cases h
 ·rename_i m q;have hm:=(vJ q).2.1;split at h
  ·split at h
   ·rename_i hc;cases h;refine⟨by omega,?_,?_⟩ <;> rw[length_append,length_map,hc.2] <;> omega
   ·cases h
  ·split at h
   ·split at h
    ·cases h;refine⟨by omega,?_,?_⟩ <;> rw[length_append,length_replicate] <;> omega
    ·cases h
   ·split at h
    ·cases h;refine⟨by omega,?_,?_⟩ <;> rw[rW] <;> omega
    ·cases h
section
variable {x:Str}{w:Nat}{M:ax}
noncomputable abbrev nE (x:Str)(w h k a:Nat):a8:=[some (.str x),some (.int w),some (.int h),some (.mr k),some (.int a)]
theorem u7 {t:GT}{b:GS}{n:Nat}{ρ:a8}{M M1 M2:ax}{c:Str}(h1:t ρ M=.ok true M1)(h2:b ρ M1=.err c M2):br t b (n+1) ρ M=.err c M2:=by
 rw[br,h1,ai,if_pos rfl,h2];rfl
theorem sv {h:Nat}(ho:ft x)(hx:x.cps.size≤5000)(h1:1≤w):∀(f a:Nat) (hs:List Int) (n:Nat),x.cps.size<a+f→1≤f→hs.length≤63*a→f<n→
  (∃hs' a',jB x w f a hs=some hs'∧br cR cP n (nE x w h M.length a) (M++[MO.lst (hs.map D.int)])=.ok (.nx (nE x w h M.length a')) (M++[MO.lst (hs'.map D.int)]))∨
  (∃E,jB x w f a hs=none∧br cR cP n (nE x w h M.length a) (M++[MO.lst (hs.map D.int)])=.err "NoText" (M++E))
 | f,a,hs,0,hf,hf1,hl,hn=>absurd hn (Nat.not_lt_zero _)
 | f,a,hs,n+1,hf,hf1,hl,hn=>by
  have t:∀N,cR (nE x w h M.length a) N=.ok (decide ((a:Int)<x.cps.size)) N:=fun N=>a5 (ao (x:=.int a) (M1:=N) rfl (dq (x:=.str x) (M1:=N) rfl (fT (by omega) N)) rfl)
  have hm:=jh M (hs.map D.int)
  by_cases ha:a<x.cps.size
  ·cases f with
   | zero=>omega
   | succ f=>
    have p:=yZ (M:=M++[MO.lst (hs.map D.int)]) (k:=M.length) (w:=w) ho hx ha h1 (by omega) hm;have hr:jB x w (f+1) a hs=match ie x w a hs with|some (b,hs')=>jB x w f b hs'|none=>none:=by rw[jB,if_pos ha]
    have tt:=(t (M++[MO.lst (hs.map D.int)])).trans (by rw[decide_eq_true (show(a:Int)<x.cps.size by omega)]);cases q:ie x w a hs with
    | none=>
     rw[q] at p hr;refine .inr ⟨[MO.lst (hs.map D.int)],hr,?_⟩;refine u7 tt ?_;exact pX (zW (x:=.str x) (M1:=M++[MO.lst (hs.map D.int)]) rfl (y:=.int a) (M2:=M++[MO.lst (hs.map D.int)]) rfl (z:=.int w) (M3:=M++[MO.lst (hs.map D.int)]) rfl (u:=.mr M.length) (M4:=M++[MO.lst (hs.map D.int)]) rfl p)
    | some r=>
     obtain⟨b,hs'⟩:=r;rw[q] at p hr;obtain⟨s1,s2,_⟩:=sI q;have p:eY [.str x,.int a,.int w,.mr M.length] (M++[MO.lst (hs.map D.int)])=.ok (.int (b:Nat)) ((M++[MO.lst (hs.map D.int)]).set M.length (.lst (hs'.map D.int))):=p;rw[kt] at p;have bb:cP (nE x w h M.length a) (M++[MO.lst (hs.map D.int)])=.ok (.nx (nE x w h M.length b)) (M++[MO.lst (hs'.map D.int)]):=aD (i:=4) (zW (x:=.str x) (M1:=M++[MO.lst (hs.map D.int)]) rfl (y:=.int a) (M2:=M++[MO.lst (hs.map D.int)]) rfl (z:=.int w) (M3:=M++[MO.lst (hs.map D.int)]) rfl (u:=.mr M.length) (M4:=M++[MO.lst (hs.map D.int)]) rfl p);rw[jb tt bb,hr];exact sv ho hx h1 f b hs' n (by omega) (by omega) (by omega) (by omega)
  ·refine .inl ⟨hs,a,?_,eI ((t _).trans (by rw[decide_eq_false (show¬(a:Int)<x.cps.size by omega)]))⟩;cases f with
   | zero=>omega
   | succ f=>rw[jB,if_neg ha]
end
noncomputable def sT (w h:Nat)(hs:List Int):List (List Int):=(List.range h).map fun i=>(hs.drop (i*w)).take w
noncomputable def se (x:Str):Option (List (List Int)):=
 if ig (x.cps.toList.take 2)∧(x.cps.toList.take 2).length=2∧(1≤aw (x.cps.toList.getD 0 0)∧aw (x.cps.toList.getD 0 0)≤40)∧(1≤aw (x.cps.toList.getD 1 0)∧aw (x.cps.toList.getD 1 0)≤40) then
  match jB x (aw (x.cps.toList.getD 0 0)).toNat (x.cps.size+1) 2 [] with
  | some hs=>if hs.length=(aw (x.cps.toList.getD 0 0)).toNat*(aw (x.cps.toList.getD 1 0)).toNat then some (sT (aw (x.cps.toList.getD 0 0)).toNat (aw (x.cps.toList.getD 1 0)).toNat hs) else none
  | none=>none
 else none
theorem yd (x:Str):(cW x none (some 2)).cps.toList=x.cps.toList.take 2:=by
 unfold cW;rw[HT.sIx_none,show(2:Int)=((2:Nat):Int) from rfl,HT.sIx_nat,drop_zero,Nat.sub_zero,toList_toArray]
 by_cases h:2≤x.length
 ·rw[Nat.min_eq_left h]
 ·have hl:x.cps.toList.length=x.length:=aF x;rw[Nat.min_eq_right (by omega),take_of_length_le (by omega),take_of_length_le (by omega)]
theorem D0 {k:Int}{ρ:a8}{M:ax}:bV (some (.int k)::ρ) M=.ok (.bl (decide (1≤k)&&decide (k≤40))) M:=by
 unfold bV xh
 by_cases h:1≤k <;> simp[gC,af,tD,ai,h]
theorem yP {x:Str}{M:ax}(hx:x.cps.size≤5000) :
  eT [.str (cW x none (some 2))] M=if ig (x.cps.toList.take 2)∧(x.cps.toList.take 2).length=2∧(1≤aw (x.cps.toList.getD 0 0)∧aw (x.cps.toList.getD 0 0)≤40)∧(1≤aw (x.cps.toList.getD 1 0)∧aw (x.cps.toList.getD 1 0)≤40) then .ok (.lst [.int (aw (x.cps.toList.getD 0 0)),.int (aw (x.cps.toList.getD 1 0))]) M else .err "NoText" M:=by
 have z:=jD (x:=x) (lo:=none) (hi:=some 2);have r:=zX (M:=M) (x:=cW x none (some 2)) (by omega);have c2:=yd x;rw[c2] at r;generalize cW x none (some 2)=y at *;show aZ (eP [some (.str y),none] M)=_;unfold eP;cases q:ig (x.cps.toList.take 2) with
 | false=>
  rw[q,if_neg Bool.false_ne_true] at r;rw[ia (pX (fw (x:=.str y) (M1:=M) rfl r)),if_neg (fun q=>by cases q.1)];rfl
 | true=>
  rw[q,if_pos rfl] at r;rw[aB (aD (fw (x:=.str y) (M1:=M) rfl r))];show aZ (aq _ _ [some (.str y),some (eR (x.cps.toList.take 2))] M)=_
  by_cases hl:(x.cps.toList.take 2).length=2
  ·have hl2:2≤x.cps.toList.length:=by rw[length_take] at hl;omega
   have et:x.cps.toList.take 2=[x.cps.toList.getD 0 0,x.cps.toList.getD 1 0]:=by
    match x.cps.toList,hl2 with
    | a::b::r,_=>rfl
   rw[et];generalize x.cps.toList.getD 0 0=a at *;generalize x.cps.toList.getD 1 0=b at *;have al:=uS (gi:=bi (af 1)) (ge:=bV) (ρ:=[some (.str y),some (eR [a,b])]) (M:=M) (xs:=[.int (aw a),.int (aw b)]) (p:=fun d=>match d with | .int k=>decide (1≤k)&&decide (k≤40)|_=>false) rfl (show 2≤100000 by decide) (fun d hd=>by
    rcases mem_cons.mp hd with rfl|hd
    ·exact D0
    ·rw[mem_singleton.mp hd];exact D0)
   have tt:(en (aO (g2 (bc true) (aL bq (aa (af 1) ah)) (gC (.int 2)))) (cZ (fM (aL jS (aa (aR (bi (af 1)) bt bV aH) ah))))) [some (.str y),some (eR [a,b])] M=.ok (!decide ((1≤aw a∧aw a≤40)∧(1≤aw b∧aw b≤40))) M:=by
    refine(gx (x:=false) (a5 (ao (dq (x:=eR [a,b]) (M1:=M) rfl rfl) (y:=.int 2) (M2:=M) rfl (sB _ _ M))) fun _=>iW (kh al)).trans ?_;congr 1;rw[Bool.false_or];congr 1
    by_cases p1:1≤aw a <;> by_cases p2:aw a≤40 <;> by_cases p3:1≤aw b <;> by_cases p4:aw b≤40 <;> simp[p1,p2,p3,p4]
   by_cases hc:(1≤aw a∧aw a≤40)∧(1≤aw b∧aw b≤40)
   ·rw[aB (ρ1:=[some (.str y),some (eR [a,b])]) (M1:=M) ((i5 (tt.trans (by rw[decide_eq_true hc];rfl))).trans rfl),if_pos ⟨rfl,rfl,hc.1,hc.2⟩];rfl
   ·rw[ia (c:="NoText") (M1:=M) ((lJ (tt.trans (by rw[decide_eq_false hc];rfl))).trans rfl),if_neg (fun q=>hc ⟨q.2.2.1,q.2.2.2⟩)];rfl
  ·have tt:(en (aO (g2 (bc true) (aL bq (aa (af 1) ah)) (gC (.int 2)))) (cZ (fM (aL jS (aa (aR (bi (af 1)) bt bV aH) ah))))) [some (.str y),some (eR (x.cps.toList.take 2))] M=.ok true M:=by
    refine(gx (y:=true) (a5 (ao (dq (x:=eR (x.cps.toList.take 2)) (M1:=M) rfl (o:=.ok (.int (x.cps.toList.take 2).length) M) ?_) (y:=.int 2) (M2:=M) rfl (sB _ _ M))) fun z=>?_).trans ?_
    ·show aI.ok (D.int (((x.cps.toList.take 2).map aw).map D.int).length) M=_;rw[length_map,length_map]
    ·exact absurd (show((x.cps.toList.take 2).length:Int)=2 from of_decide_eq_true (by simpa using z)) (by omega)
    ·rw[decide_eq_false (show¬((x.cps.toList.take 2).length:Int)=2 by omega)];rfl
   rw[ia (c:="NoText") (M1:=M) ((lJ tt).trans rfl),if_neg (fun q=>hl q.2.1)];rfl
section
variable {x:Str}{M:ax}
theorem n5 {hs:List Int}{i j:Nat}(hij:i≤j):gT (hs.map D.int) (some (i:Int)) (some (j:Int))=((hs.drop i).take (j-i)).map D.int:=by
 unfold gT;rw[HT.sIx_nat,HT.sIx_nat,length_map,map_take,map_drop];have hl:(hs.map D.int).length=hs.length:=length_map ..
 by_cases h:i≤hs.length
 ·rw[Nat.min_eq_left h]
  by_cases h2:j≤hs.length
  ·rw[Nat.min_eq_left h2]
  ·rw[Nat.min_eq_right (by omega),take_of_length_le (by rw[length_drop,hl];exact Nat.le_refl _),take_of_length_le (by rw[length_drop,hl];omega)]
 ·rw[Nat.min_eq_right (show hs.length≤i by omega),drop_of_length_le (i:=hs.length) (by rw[hl];exact Nat.le_refl _),drop_of_length_le (i:=i) (by rw[hl];omega)];simp
noncomputable def fF (r:List Int):MO:=.lst (r.map D.int)
theorem Bi {hs:List Int}{k:Nat}{i j:Nat}(hij:i≤j)(hm:M[k]?=some (.lst (hs.map D.int))):fX (.mr k) (some (i:Int)) (some (j:Int)) M=.ok (.mr M.length) (M++[fF ((hs.drop i).take (j-i))]):=by
 have e:gq (.mr k) M=some (hs.map D.int):=by
  unfold gq;dsimp only;rw[hm]
 unfold fX;rw[e];dsimp only;rw[n5 hij];rfl
theorem CG {g:GE}{gl gh:GO}{ρ:a8}{M M1 M2 M3:ax}{x:D}{lo hi:Option Int}{o:aI D}(h1:g ρ M=.ok x M1)(h2:gl ρ M1=.ok lo M2)(h3:gh ρ M2=.ok hi M3)(h:fX x lo hi M3=o):mP g gl gh ρ M=o:=by
 unfold mP;rw[h1,ai,h2,ai,h3,ai,h]
noncomputable def sh (hs:List Int)(w i:Nat):List Int:=(hs.drop (i*w)).take w
theorem Ca {hs:List Int}{w h k a i:Nat}(hw:w≤40)(hi:i<40)(hm:M[k]?=some (.lst (hs.map D.int))):eN (some (.int i)::nE x w h k a) M=.ok (.mr M.length) (M++[fF (sh hs w i)]):=by
 have m1:=pP (i:=(i:Int)) (j:=(w:Int)) (by omega) (by omega) M;have m2:=pP (i:=(i:Int)+1) (j:=(w:Int)) (by omega) (by omega) M;have e1:(i:Int)*w=((i*w:Nat):Int):=by rw[Int.natCast_mul]
 have e2:((i:Int)+1)*w=(((i+1)*w:Nat):Int):=by rw[Int.natCast_mul];rfl
 rw[e1] at m1;rw[e2] at m2;have le:i*w≤(i+1)*w:=Nat.mul_le_mul_right _ (by omega);have s:=Bi (M:=M) le hm;rw[show(i+1)*w-i*w=w by rw[Nat.succ_mul];omega] at s;have p1:aN (g2 gp (af 0) (af 2)) (some (.int i)::nE x w h k a) M=.ok (some ((i*w:Nat):Int)) M:=by
  unfold aN;rw[ao (x:=.int i) (M1:=M) rfl (y:=.int w) (M2:=M) rfl m1];rfl
 have p2:aN (g2 gp (g2 az (af 0) (gC (.int 1))) (af 2)) (some (.int i)::nE x w h k a) M=.ok (some (((i+1)*w:Nat):Int)) M:=by
  unfold aN;rw[ao (ao (x:=.int i) (M1:=M) rfl (y:=.int 1) (M2:=M) rfl rfl) (y:=.int w) (M2:=M) rfl m2];rfl
 exact CG (x:=.mr k) (M1:=M) rfl p1 p2 s
noncomputable def dQ (n k:Nat):List D:=(List.range k).map fun j=>D.mr (n+j)
theorem ot (n k:Nat):dQ n (k+1)=.mr n::dQ (n+1) k:=by
 unfold dQ;rw[range_succ_eq_map,map_cons,map_map];refine congrArg (D.mr n::·) (map_congr_left fun j _=>?_);show D.mr (n+(j+1))=D.mr (n+1+j);rw[show n+(j+1)=n+1+j by omega]
theorem nH {ds0:List D}{ge:GE}{ρ:a8}{g:Nat→D}{f:Nat→MO}{P:ax→Prop}(hP:∀N o,P N→P (N++[o])):∀(l:List Nat) (N:ax),(∀i∈l,∀N,P N→ge (some (g i)::ρ) N=.ok (.mr N.length) (N++[f i]))→P N→
  cj ⟨ds0,none⟩ bt ge (l.map g) ρ N=.ok (dQ N.length l.length) (N++l.map f)
 | [],N,_,_=>by rw[map_nil,map_nil,append_nil];rfl
 | i::l,N,h,hN=>by
  have ih:=nH (ds0:=ds0) hP l (N++[f i]) (fun j hj=>h j (mem_cons_of_mem _ hj)) (hP N (f i) hN);have e:=h i mem_cons_self N hN;have el:(N++[f i]).length=N.length+1:=by rw[length_append];rfl
  rw[el] at ih;rw[map_cons,cj,if_pos fe,show bt (some (g i)::ρ) N=.ok true N from rfl];dsimp only;rw[e];dsimp only;rw[ih,ai,show(i::l).length=l.length+1 from rfl,ot,map_cons,append_assoc];rfl
theorem ux {ds0:List D}{hs:List Int}{w h k a:Nat}(hw:w≤40)(l:List Nat)(N:ax)(hl:∀i∈l,i<40)(hm:N[k]?=some (.lst (hs.map D.int))) :
  cj ⟨ds0,none⟩ bt eN (l.map fun(i:Nat)=>D.int (i:Int)) (nE x w h k a) N=.ok (dQ N.length l.length) (N++l.map fun i=>fF (sh hs w i)):=
 nH (g:=fun(i:Nat)=>D.int (i:Int)) (f:=fun i=>fF (sh hs w i)) (P:=fun N=>N[k]?=some (.lst (hs.map D.int))) (fun N o h=>by
  rw[getElem?_append_left (List.getElem?_eq_some_iff.mp h).1];exact h) l N (fun i hi N h=>Ca hw (hl i hi) h) hm
noncomputable def h8 (hs:List Int)(rs:List (List Int)):ax:=MO.lst (hs.map D.int)::rs.map fF
theorem vI {rs:List (List Int)}(ho:ft x)(hx:x.cps.size≤4000)(hp:se x=some rs):∃hs,dn [.str x] M=.ok (.lst (dQ (M.length+1) rs.length)) (M++h8 hs rs):=by
 have sz:=yP (x:=x) (M:=M) (by omega);have sl:dj (af 0) bJ (aN (gC (.int 2))) [some (.str x),none,none,none,none] M=.ok (.str (cW x none (some 2))) M:=fq (x:=.str x) (M1:=M) rfl (lo:=none) (M2:=M) rfl (hi:=some 2) (M3:=M) rfl (gW (by omega) M);show∃hs,aZ (f9 [some (.str x),none,none,none,none] M)=_;unfold se at hp;unfold f9;have t0:(cZ (fM (iF "str" (af 0)))) [some (.str x),none,none,none,none] M=.ok false M:=iW (x:=true) (kh rfl);rw[aB (ρ1:=[some (.str x),none,none,none,none]) (M1:=M) ((i5 t0).trans rfl)]
 by_cases hc:ig (x.cps.toList.take 2)∧(x.cps.toList.take 2).length=2∧(1≤aw (x.cps.toList.getD 0 0)∧aw (x.cps.toList.getD 0 0)≤40)∧(1≤aw (x.cps.toList.getD 1 0)∧aw (x.cps.toList.getD 1 0)≤40)
 ·rw[if_pos hc] at sz hp;obtain⟨_,_,hw,hh⟩:=hc;generalize aw (x.cps.toList.getD 0 0)=wi at *;generalize aw (x.cps.toList.getD 1 0)=hi at *;obtain⟨w,rfl⟩:=Int.eq_ofNat_of_zero_le (show 0≤wi by omega);obtain⟨h,rfl⟩:=Int.eq_ofNat_of_zero_le (show 0≤hi by omega);rw[Int.toNat_natCast,Int.toNat_natCast] at hp;have as:jU (zk [1,2]) (ay 1 eT (aa (dj (af 0) bJ (aN (gC (.int 2)))) ah)) [some (.str x),none,none,none,none] M=.ok (.nx [some (.str x),some (.int w),some (.int h),none,none]) M:=by
   unfold jU;rw[fw sl sz];rfl
  rw[aB as,aB (aD qP)];show∃hs,aZ (aq _ _ [some (.str x),some (.int w),some (.int h),some (.mr M.length),none] (M++[MO.lst []]))=_;rw[aB (aD (d:=.int 2) (M1:=M++[MO.lst []]) rfl)];show∃hs,aZ (aq _ _ (nE x w h M.length 2) (M++[MO.lst (([]:List Int).map D.int)]))=_;rcases sv (x:=x) (w:=w) (M:=M) (h:=h) ho (by omega) (by omega) (x.cps.size+1) 2 [] 5000 (by omega) (by omega) (Nat.zero_le _) (by omega) with⟨hs,a',er,ew⟩|⟨E,er,ew⟩
  ·rw[er] at hp;rw[aB (a:=dh 5000 cR cP) ew];dsimp only at hp;have hm:=jh M (hs.map D.int);have mw:=pP (i:=(w:Int)) (j:=(h:Int)) (by omega) (by omega) (M++[MO.lst (hs.map D.int)]);have tt:(aO (g2 (bc true) (aL bq (aa (af 3) ah)) (g2 gp (af 1) (af 2)))) (nE x w h M.length a') (M++[MO.lst (hs.map D.int)])=.ok (!decide ((hs.length:Int)=(w:Int)*h)) (M++[MO.lst (hs.map D.int)]):=by
    refine a5 (ao (dq (x:=.mr M.length) (M1:=M++[MO.lst (hs.map D.int)]) rfl (qq hm)) (ao (x:=.int w) (M1:=M++[MO.lst (hs.map D.int)]) rfl (y:=.int h) (M2:=M++[MO.lst (hs.map D.int)]) rfl mw) ?_);rw[sB,length_map]
   by_cases hl:hs.length=w*h
   ·rw[if_pos hl] at hp;rw[aB (ρ1:=nE x w h M.length a') (M1:=M++[MO.lst (hs.map D.int)]) ((i5 (tt.trans (by rw[decide_eq_true (show(hs.length:Int)=(w:Int)*h by rw[hl,Int.natCast_mul])];rfl))).trans rfl)];have er:aT 0 h=(List.range h).map fun(i:Nat)=>D.int (i:Int):=by
     unfold aT;refine map_congr_left fun i _=>?_
     rw[show(0:Int)+(i:Int)=(i:Int) by omega]
    have rc:=ux (x:=x) (ds0:=aT 0 h) (h:=h) (a:=a') (show w≤40 by omega) (List.range h) (M++[MO.lst (hs.map D.int)]) (fun i hi=>by have:=mem_range.mp hi;omega) hm;rw[←er] at rc;have cm:=fA (iN (n:=h) (aX (d:=.int h) (g:=af 2) (r:=ah) (ρ:=nE x w h M.length a') (M1:=M++[MO.lst (hs.map D.int)]) rfl rfl) (by omega)) rc (by unfold dQ;rw[length_map,length_range,length_range];omega);have hrs:rs=sT w h hs:=(Option.some.inj hp).symm;have lrs:rs.length=h:=by rw[hrs];unfold sT;rw[length_map,length_range]
    refine⟨hs,?_⟩;rw[iA cm];have e1:((List.range h).map fun i=>fF (sh hs w i))=rs.map fF:=by rw[hrs];unfold sT;rw[map_map];rfl
    unfold h8;rw[e1,lrs,length_append,length_range,append_assoc];rfl
   ·rw[if_neg hl] at hp;cases hp
  ·rw[er] at hp;cases hp
 ·rw[if_neg hc] at hp;cases hp
end
inductive xk (x:Str) (w:Nat):Nat→Str→Prop
 | nil:xk x w 0 ""
 | snoc {a:Nat} {t:Str} {p:Str×Nat} (h:xk x w a t) (ha:a<x.cps.size) (hp:p∈aJ x w a):xk x w (a+p.2) (t++p.1)
theorem pp (a b c:Str):a++b++c=a++(b++c):=bY (by simp only[Str.cps_append,Array.toList_append,append_assoc])
theorem bQ (a b:Str):(a++b).cps.toList=a.cps.toList++b.cps.toList:=by rw[Str.cps_append,Array.toList_append]
theorem rS (a:Str):a++""=a:=bY (by rw[bQ];rw[show(("":Str).cps.toList)=[] by decide +kernel,append_nil])
theorem Ep (a:Str):""++a=a:=bY (by rw[bQ];rw[show(("":Str).cps.toList)=[] by decide +kernel,nil_append])
theorem jd {k:Nat}(h:k<64):aw (dm.cps.toList.getD k 0)=k:=by
 have:∀k:Fin 64,aw (dm.cps.toList.getD k.1 0)=k.1:=by decide +kernel
 exact this ⟨k,h⟩
theorem BO {m:Nat}(h1:1≤m)(h2:m<64):nF [dm.cps.toList.getD m 0]=some m:=by
 unfold nF ig;rw[getD_cons_zero,jd h2,if_pos]
 ·rw[Int.toNat_natCast]
 ·refine⟨?_,rfl,by omega⟩;rw[all_cons,all_nil,Bool.and_true,jd h2];simp
theorem kq {X:Str}{w A c m:Nat}{u:List Nat}{hs:List Int}(d0:X.cps.toList.drop A=c::dm.cps.toList.getD m 0::u)(h1:1≤m)(h2:m<64) :
  ie X w A hs=if c=33 then(if ig (u.take m)∧(u.take m).length=m then some (A+2+m,hs++(u.take m).map aw) else none)
   else if c=42 then(if ig (u.take 1)∧(u.take 1).length=1 then some (A+3,hs++List.replicate m (aw ((u.take 1).getD 0 0))) else none)
   else if c=94∧w≤hs.length then some (A+2,xy w m hs) else none:=by
 have g0:X.cps.toList.getD A 0=c:=by
  have:=congrArg (·[0]?) d0;rw[getElem?_drop] at this;rw[List.getD,show A=A+0 from rfl,this];rfl
 have d1:X.cps.toList.drop (A+1)=dm.cps.toList.getD m 0::u:=by rw[←drop_drop,d0];rfl
 have d2:X.cps.toList.drop (A+2)=u:=by rw[←drop_drop,d0];rfl
 unfold ie;rw[g0,d1,d2,take_succ_cons,take_zero,BO h1 h2]
noncomputable def d7 (x:Str):List Int:=x.cps.toList.map aw
theorem kK (x:Str):(d7 x).length=x.cps.size:=by unfold d7;rw[length_map,aF]
theorem rJ {t u:List Nat}(h:ig t=true)(hs:∀c∈u,c∈t):ig u=true:=all_eq_true.mpr fun c hc=>all_eq_true.mp h c (hs c hc)
theorem uN {p:Nat→Bool}:∀{l:List Nat} {m:Nat},m≤(l.takeWhile p).length→∀c∈l.take m,p c=true
 | [],_,_,c,hc=>by simp at hc
 | a::l,0,_,c,hc=>by simp at hc
 | a::l,m+1,h,c,hc=>by
  cases q:p a with
  | false=>rw[takeWhile_cons_of_neg (by rw[q];exact Bool.false_ne_true)] at h;simp at h
  | true=>
   rw[takeWhile_cons_of_pos q,length_cons] at h;rw[take_succ_cons] at hc;rcases mem_cons.mp hc with rfl|hc
   ·exact q
   ·exact uN (Nat.le_of_succ_le_succ h) c hc
theorem jq {cs:List Nat}{a m:Nat}(h:m≤bG cs a):(cs.drop a).take m=List.replicate m (cs.getD a 0):=by
 have hl:=cB cs a;refine eq_replicate_iff.mpr ⟨by rw[length_take,length_drop];omega,fun c hc=>?_⟩;have:c∈(((cs.drop a).take 63).take m):=by rw[take_take,Nat.min_eq_left (by omega)];exact hc
 exact eq_of_beq (uN (p:=(·==cs.getD a 0)) h c this)
theorem m6 {cs:List Nat}{w a:Nat}:∀(f k j:Nat),k≤j→j<iu cs w a f k→cs.getD (a+j) 0=cs.getD (a+j-w) 0
 | 0,k,j,h1,h2=>by unfold iu at h2;omega
 | f+1,k,j,h1,h2=>by
  unfold iu at h2
  by_cases q:cs.getD (a+k) 0=cs.getD (a+k-w) 0
  ·rw[if_pos q] at h2
   by_cases e:j=k
   ·subst e;exact q
   ·exact m6 f (k+1) j (by omega) h2
  ·rw[if_neg q] at h2;omega
theorem sU {l:List Int}{n:Nat}(h:n<l.length):l.take (n+1)=l.take n++[l.getD n 0]:=by
 rw[take_add_one,getElem?_eq_getElem h,List.getD,getElem?_eq_getElem h];rfl
theorem nL {l:List Int}{w:Nat}(hw:1≤w):∀(m n:Nat),w≤n→n+m≤l.length→(∀j,j<m→l.getD (n+j) 0=l.getD (n+j-w) 0)→xy w m (l.take n)=l.take (n+m)
 | 0,n,_,_,_=>rfl
 | m+1,n,h1,h2,h=>by
  have e:(l.take n).getD ((l.take n).length-w) 0=l.getD n 0:=by
   have:=h 0 (by omega);rw[Nat.add_zero] at this;rw[this,length_take,Nat.min_eq_left (by omega),List.getD,List.getD,getElem?_take,if_pos (by omega)]
  show xy w m (l.take n++[(l.take n).getD ((l.take n).length-w) 0])=_;rw[e,←sU (by omega),nL hw m (n+1) (by omega) (by omega) fun j hj=>?_,show n+1+m=n+(m+1) by omega];have:=h (j+1) (by omega);rw[show n+(j+1)=n+1+j by omega] at this;exact this
theorem qf (m:Nat):(cq (m:Int)).cps.toList=[dm.cps.toList.getD m 0]:=by
 unfold cq;rw[Int.toNat_natCast]
theorem um {X x:Str}{w a A:Nat}{p:Str×Nat}{r:List Nat}(hv:ig x.cps.toList=true)(h1:1≤w)(ha:a<x.cps.size)(hp:p∈aJ x w a)(hX:X.cps.toList.drop A=p.1.cps.toList++r) :
  ie X w A ((d7 x).take a)=some (A+p.1.cps.size,(d7 x).take (a+p.2)):=by
 have k2:=cB x.cps.toList a;have k3:=dG w x.cps.toList a;rw[aF] at k2 k3;unfold aJ at hp;rw[mem_append,mem_append,mem_map,mem_map,mem_map] at hp;have nl:=kK x;rcases hp with(⟨i,hi,rfl⟩|⟨i,hi,rfl⟩)|⟨i,hi,rfl⟩
 ·have hi:=mem_range.mp hi;have e:(k9 x a (i+1)).cps.toList=33::dm.cps.toList.getD (i+1) 0::(x.cps.toList.drop a).take (i+1):=by
   unfold k9;have e1:("!":Str).cps.toList=[33]:=by decide +kernel
   rw[bQ,bQ,e1,qf,show((a:Int)+((i+1:Nat):Int))=((a+(i+1):Nat):Int) by omega,fY (by omega),show a+(i+1)-a=i+1 by omega];rfl
  have ul:((x.cps.toList.drop a).take (i+1)).length=i+1:=by rw[length_take,length_drop,aF];omega
  have sz:(k9 x a (i+1)).cps.size=2+(i+1):=by rw[←aF,e,length_cons,length_cons,ul];omega
  have sz':((k9 x a (i+1),i+1):Str×Nat).1.cps.size=2+(i+1):=sz;rw[sz'];have hX:X.cps.toList.drop A=(k9 x a (i+1)).cps.toList++r:=hX;rw[e,cons_append,cons_append] at hX;rw[kq hX (by omega) (by omega),if_pos rfl,take_left' ul,if_pos ⟨rJ hv fun c hc=>mem_of_mem_drop (mem_of_mem_take hc),ul⟩];show some (A+2+(i+1),_)=some (A+(2+(i+1)),(d7 x).take (a+(i+1)));rw[show(d7 x).take (a+(i+1))=(d7 x).take a++((d7 x).drop a).take (i+1) from take_add ..,Nat.add_assoc];unfold d7;rw[map_take,map_drop]
 ·have hi:=mem_range.mp hi;have e:(lj x a (i+1)).cps.toList=[42,dm.cps.toList.getD (i+1) 0,x.cps.toList.getD a 0]:=by
   unfold lj Dr;have e1:("*":Str).cps.toList=[42]:=by decide +kernel
   rw[bQ,bQ,e1,qf];rfl
  have sz:((lj x a (i+1),i+1):Str×Nat).1.cps.size=3:=by
   show(lj x a (i+1)).cps.size=3;rw[←aF,e];rfl
  rw[sz];have hX:X.cps.toList.drop A=(lj x a (i+1)).cps.toList++r:=hX;rw[e,cons_append,cons_append] at hX;have ok1:ig [x.cps.toList.getD a 0]=true:=rJ hv fun c hc=>by
   rw[mem_singleton.mp hc];exact mem_of_getElem? (kH ha)
  have rp:=jq (cs:=x.cps.toList) (a:=a) (m:=i+1) (by omega);rw[kq hX (by omega) (by omega),if_neg (by decide),if_pos rfl,cons_append,take_succ_cons,take_zero,if_pos ⟨ok1,rfl⟩];show some (A+3,_)=some (A+3,(d7 x).take (a+(i+1)));rw[show(d7 x).take (a+(i+1))=(d7 x).take a++((d7 x).drop a).take (i+1) from take_add ..];have rn:((d7 x).drop a).take (i+1)=List.replicate (i+1) (aw (x.cps.toList.getD a 0)):=by
   unfold d7;rw[←map_drop,←map_take,rp,map_replicate]
  rw[rn];rfl
 ·have hi:=mem_range.mp hi;have e:(lw (i+1)).cps.toList=[94,dm.cps.toList.getD (i+1) 0]:=by
   unfold lw;have e1:("^":Str).cps.toList=[94]:=by decide +kernel
   rw[bQ,e1,qf];rfl
  have sz:((lw (i+1),i+1):Str×Nat).1.cps.size=2:=by
   show(lw (i+1)).cps.size=2;rw[←aF,e];rfl
  rw[sz];have hX:X.cps.toList.drop A=(lw (i+1)).cps.toList++r:=hX;rw[e,cons_append,cons_append,nil_append] at hX;have hw:w≤a:=by
   by_cases q:a<w
   ·unfold a9 at hi;rw[if_pos q] at hi;omega
   ·omega
  have tl:((d7 x).take a).length=a:=by rw[length_take,nl];omega
  rw[kq hX (by omega) (by omega),if_neg (by decide),if_neg (by decide),if_pos ⟨rfl,by rw[tl];exact hw⟩];show some (A+2,_)=some (A+2,(d7 x).take (a+(i+1)));rw[nL h1 (i+1) a hw (by rw[nl];omega) fun j hj=>?_];have ga:∀n,(d7 x).getD n (aw 0)=aw (x.cps.toList.getD n 0):=fun n=>by
   unfold d7;rw[List.getD,List.getD,getElem?_map];cases x.cps.toList[n]? <;> rfl
  have hab:x.cps.toList.getD (a+j) 0=x.cps.toList.getD (a+j-w) 0:=by
   unfold a9 at hi;rw[if_neg (by omega)] at hi;exact m6 (min 63 (x.cps.toList.length-a)) 0 j (Nat.zero_le _) (by omega)
  have gb:∀n,n<x.cps.size→(d7 x).getD n 0=aw (x.cps.toList.getD n 0):=fun n hn=>by
   rw[←ga];rw[List.getD,List.getD,getElem?_eq_getElem (by rw[nl];exact hn)];rfl
  rw[gb _ (by omega),gb _ (by omega),hab]
theorem sr {X x:Str}{w:Nat}(ho:ft x)(hv:ig x.cps.toList=true)(h1:1≤w):∀{a:Nat} {t:Str},xk x w a t→∀r:List Nat,X.cps.toList.drop 2=t.cps.toList++r→
  a≤x.cps.size∧∃n,2*n≤t.cps.size∧∀f,jB X w (f+n) 2 []=jB X w f (2+t.cps.size) ((d7 x).take a)
 | _,_,.nil,r,hX=>⟨Nat.zero_le _,0,Nat.zero_le _,fun f=>rfl⟩
 | _,_,.snoc (a:=a) (t:=t) (p:=p) h ha hp,r,hX=>by
  rw[bQ,append_assoc] at hX;obtain⟨_,n,hn,e⟩:=sr ho hv h1 h _ hX;obtain⟨_,_,k,_,_⟩:=fI ho ha hp;have d:X.cps.toList.drop (2+t.cps.size)=p.1.cps.toList++r:=by
   rw[←drop_drop,hX,←aF,drop_left]
  have s:=um hv h1 ha hp d;have pz:2≤p.1.cps.size:=by
   have:=(sI s).1;omega
  have xl:2+t.cps.size<X.cps.size:=by
   have:=congrArg List.length d;rw[length_drop,length_append,aF,aF] at this;omega
  refine⟨k,n+1,by rw[bf];omega,fun f=>?_⟩;rw[show f+(n+1)=(f+1)+n by omega,e (f+1),jB,if_pos xl,s,bf,Nat.add_assoc]
theorem dE {k:Int}(h:jW k):aw (sQ k)=k:=by
 unfold sQ;obtain⟨n,rfl⟩:=Int.eq_ofNat_of_zero_le h.1;rw[Int.toNat_natCast,jd (by have:=h.2;omega)]
theorem uZ {ks:List Int}(h:∀k∈ks,jW k):d7 (ag ks)=ks:=by
 unfold d7;rw[bZ,map_map];refine(map_congr_left fun k hk=>?_).trans (map_id ks);exact dE (h k hk)
theorem rj {ks:List Int}(h:∀k∈ks,jW k):ig (ag ks).cps.toList=true:=by
 rw[bZ];refine all_eq_true.mpr fun c hc=>?_
 obtain⟨k,hk,rfl⟩:=mem_map.mp hc;rw[dE (h k hk)];have:=(h k hk).1;simp;omega
theorem qJ {w:Nat}:∀{rs:List (List Int)},fE w rs→∀i,i<rs.length→(rs.flatten.drop (i*w)).take w=rs.getD i []
 | [],_,i,hi=>by cases hi
 | r::rs,h,i,hi=>by
  have hr:=(h r mem_cons_self).1;cases i with
  | zero=>
   rw[Nat.zero_mul,drop_zero,flatten_cons,take_left' hr];rfl
  | succ i=>
   rw[flatten_cons,Nat.succ_mul,Nat.add_comm (i*w) w,←drop_drop,drop_left' hr,qJ (fun r' h'=>h r' (mem_cons_of_mem _ h')) i (by simpa using hi)];rfl
theorem ym {w:Nat}{rs:List (List Int)}(h:fE w rs):sT w rs.length rs.flatten=rs:=by
 unfold sT;refine ext_getElem (by rw[length_map,length_range]) fun i h1 h2=>?_
 rw[getElem_map,getElem_range,qJ h i h2,List.getD,getElem?_eq_getElem h2];rfl
theorem qD {x:Str}{w:Nat}(ho:ft x):∀{a:Nat} {t:Str},xk x w a t→ft t∧t.cps.size≤3*a
 | _,_,.nil=>⟨oN (by decide +kernel),by decide +kernel⟩
 | _,_,.snoc (a:=a) (t:=t) (p:=p) h ha hp=>by
  obtain⟨h1,h2⟩:=qD ho h;obtain⟨k1,_,_,k4,k5⟩:=fI ho ha hp;refine⟨fun d hd=>?_,by rw[bf];omega⟩;rw[bQ] at hd;rcases mem_append.mp hd with hd|hd
  ·exact h1 d hd
  ·exact k5 d hd
theorem wC {rs:List (List Int)}{w:Nat}{t:Str}(hrs:fE w rs)(r1:1≤rs.length)(r2:rs.length≤40)(w1:1≤w)(w2:w≤40)(hP:xk (bz rs) w (bz rs).cps.size t):se (ag [(w:Int),(rs.length:Int)]++t)=some rs:=by
 have hh:=iY hrs;have ho:ft (bz rs):=kE hh;have hv:ig (bz rs).cps.toList=true:=rj hh;have nx:d7 (bz rs)=rs.flatten:=uZ hh;have sx:(bz rs).cps.size=w*rs.length:=by unfold bz;rw[aS,gw hrs]
 have hw:jW (w:Int):=⟨by omega,by omega⟩;have hl:jW (rs.length:Int):=⟨by omega,by omega⟩;have e:(ag [(w:Int),(rs.length:Int)]++t).cps.toList=sQ w::sQ rs.length::t.cps.toList:=by rw[bQ,bZ];rfl
 have d2:(ag [(w:Int),(rs.length:Int)]++t).cps.toList.drop 2=t.cps.toList++[]:=by rw[e,append_nil];rfl
 obtain⟨_,n,hn,er⟩:=sr ho hv w1 hP [] d2;have sX:(ag [(w:Int),(rs.length:Int)]++t).cps.size=2+t.cps.size:=by rw[bf,aS];rfl
 have e0:(ag [(w:Int),(rs.length:Int)]++t).cps.toList.getD 0 0=sQ w:=by rw[e];rfl
 have e1:(ag [(w:Int),(rs.length:Int)]++t).cps.toList.getD 1 0=sQ rs.length:=by rw[e];rfl
 have e2:(ag [(w:Int),(rs.length:Int)]++t).cps.toList.take 2=[sQ w,sQ rs.length]:=by rw[e];rfl
 have f0:=dE hw;have f1:=dE hl;have o2:ig [sQ w,sQ rs.length]=true:=by
  have:=rj (ks:=[(w:Int),(rs.length:Int)]) (fun k hk=>by
   rcases mem_cons.mp hk with rfl|hk
   ·exact hw
   ·rw[mem_singleton.mp hk];exact hl)
  rw[bZ] at this;exact this
 have run:jB (ag [(w:Int),(rs.length:Int)]++t) w ((ag [(w:Int),(rs.length:Int)]++t).cps.size+1) 2 []=some rs.flatten:=by
  have:=er (2+t.cps.size-n);rw[sX,show 2+t.cps.size+1=(2+t.cps.size-n+n)+1 by omega];have e3:=er (2+t.cps.size-n+1);rw[show 2+t.cps.size-n+1+n=2+t.cps.size-n+n+1 by omega] at e3;rw[e3,jB,if_neg (by rw[sX];exact Nat.lt_irrefl _),take_of_length_le (by rw[kK];exact Nat.le_refl _),nx]
 unfold se;rw[e2,e0,e1,f0,f1,if_pos ⟨o2,rfl,⟨by omega,by omega⟩,by omega,by omega⟩,Int.toNat_natCast,Int.toNat_natCast,run];dsimp only;rw[if_pos (by rw[←nx,kK,sx]),ym hrs]
section
variable {hs:List Int}{w a:Nat}{M:ax}
noncomputable def Gb (hs:List Int)(a m:Nat):Prop:=m≤min 63 (hs.length-a)∧∀j,j<m→hs.getD (a+j) 0=hs.getD a 0
noncomputable def Gp (hs:List Int)(w a m:Nat):Prop:=m≤min 63 (hs.length-a)∧(1≤m→w≤a)∧∀j,j<m→hs.getD (a+j) 0=hs.getD (a+j-w) 0
theorem rR {n:Nat}(h:n<hs.length)(M:ax):bx (.lst (hs.map D.int)) (.int n) M=.ok (.int (hs.getD n 0)) M:=
 im (by rw[getElem?_map,getElem?_eq_getElem h,List.getD,getElem?_eq_getElem h];rfl)
end
theorem fR {hs:List Int}{n:Nat}(h:n<hs.length):(ag hs).cps.toList.getD n 0=sQ (hs.getD n 0):=by
 rw[bZ,List.getD,List.getD,getElem?_map,getElem?_eq_getElem h];rfl
theorem vB {p:Nat→Bool}:∀{l:List Nat} {m:Nat},m≤l.length→(∀c∈l.take m,p c=true)→m≤(l.takeWhile p).length
 | _,0,_,_=>Nat.zero_le _
 | [],m+1,h,_=>by simp at h
 | a::l,m+1,h,hp=>by
  rw[takeWhile_cons_of_pos (hp a (by rw[take_succ_cons];exact mem_cons_self)),length_cons];have:=vB (p:=p) (l:=l) (m:=m) (by simpa using h) fun c hc=>hp c (by rw[take_succ_cons];exact mem_cons_of_mem _ hc)
  omega
theorem C7 {hs:List Int}{a m:Nat}(h:Gb hs a m):m≤bG (ag hs).cps.toList a:=by
 have hl:(ag hs).cps.toList.length=hs.length:=by rw[aF,aS]
 have h1:=h.1;unfold bG;refine vB (by rw[length_take,length_drop,hl];omega) fun c hc=>?_
 rw[take_take,Nat.min_eq_left (by omega)] at hc;obtain⟨j,hj,rfl⟩:=getElem_of_mem hc;rw[length_take,length_drop,hl] at hj;rw[getElem_take,getElem_drop];have e:(ag hs).cps.toList[a+j]'(by rw[hl];omega)=(ag hs).cps.toList.getD (a+j) 0:=by rw[List.getD,getElem?_eq_getElem (by rw[hl];omega)];rfl
 rw[e,fR (by omega),fR (by omega),h.2 j (by omega)];exact beq_self_eq_true _
theorem re {cs:List Nat}{w a m:Nat}:∀(f k:Nat),m≤k+f→(∀j,k≤j→j<m→cs.getD (a+j) 0=cs.getD (a+j-w) 0)→k≤m→m≤iu cs w a f k
 | 0,k,h,_,hk=>by unfold iu;omega
 | f+1,k,h,hj,hk=>by
  unfold iu
  by_cases e:k=m
  ·split
   ·have:=abGo_ge cs w a f (k+1);omega
   ·omega
  ·rw[if_pos (hj k (Nat.le_refl _) (by omega))];exact re f (k+1) (by omega) (fun j h1 h2=>hj j (by omega) h2) (by omega)
where
 abGo_ge (cs:List Nat) (w a:Nat):∀f k,k≤iu cs w a f k
  | 0,k=>Nat.le_refl _
  | f+1,k=>by
   unfold iu;split
   ·have:=abGo_ge cs w a f (k+1);omega
   ·omega
theorem BP {hs:List Int}{w a m:Nat}(h:Gp hs w a m)(h1:1≤m):m≤a9 w (ag hs).cps.toList a:=by
 have hl:(ag hs).cps.toList.length=hs.length:=by rw[aF,aS]
 have h2:=h.1;have h3:=h.2.1 h1;unfold a9;rw[if_neg (by omega),hl];refine re _ 0 (by omega) (fun j _ hj=>?_) (Nat.zero_le _);rw[fR (by omega),fR (by omega),h.2.2 j hj]
theorem in1 {x:Str}{w a m:Nat}(h1:1≤m)(h2:m≤min 63 (x.cps.size-a)):(k9 x a m,m)∈aJ x w a:=by
 obtain⟨i,rfl⟩:∃i,m=i+1:=⟨m-1,by omega⟩;unfold aJ;exact mem_append_left _ (mem_append_left _ (mem_map.mpr ⟨i,mem_range.mpr (by omega),rfl⟩))
section
variable {hs:List Int}{w a:Nat}{M:ax}
noncomputable def fj (hs:List Int)(a m wy:Nat):List Int:=[(hs.drop a).take m,(hs.drop a).take 1,[]].getD wy []
noncomputable def ib (wy:Nat):Str:=[("!":Str),"*","^"].getD wy ""
theorem E8 {wy:Nat}(hw:wy<3):(ib wy).cps.size=1:=by
 match wy,hw with
 | 0,_=>decide +kernel
 | 1,_=>decide +kernel
 | 2,_=>decide +kernel
theorem C4 {m wy:Nat}:∀k∈fj hs a m wy,k∈hs:=fun k hk=>by
 unfold fj at hk
 match wy with
 | 0=>exact mem_of_mem_drop (mem_of_mem_take hk)
 | 1=>exact mem_of_mem_drop (mem_of_mem_take hk)
 | 2=>cases hk
 | _+3=>cases hk
theorem yV {m wy:Nat}(h1:1≤m):(fj hs a m wy).length≤m:=by
 unfold fj
 match wy with
 | 0=>exact length_take_le ..
 | 1=>exact Nat.le_trans (length_take_le ..) h1
 | 2=>exact Nat.zero_le _
 | _+3=>exact Nat.zero_le _
end
theorem pZ {hs:List Int}{a i:Nat}(hh:∀k∈hs,jW k)(h:i≤bG (ag hs).cps.toList a)(ha:a<hs.length):decide (i<bG (ag hs).cps.toList a)=(decide (i+1<64)&&(decide (a+(i+1)≤hs.length)&&decide (hs.getD (a+i) 0=hs.getD a 0))):=by
 have hl:(ag hs).cps.toList.length=hs.length:=by rw[aF,aS]
 have rp:=jq (cs:=(ag hs).cps.toList) (a:=a) h;have at_:∀j,j<bG (ag hs).cps.toList a→hs.getD (a+j) 0=hs.getD a 0:=fun j hj=>by
  have rp:=jq (cs:=(ag hs).cps.toList) (a:=a) (m:=j+1) hj;have le:=cB (ag hs).cps.toList a;rw[hl] at le;have e:(((ag hs).cps.toList.drop a).take (j+1))[j]?=some ((ag hs).cps.toList.getD a 0):=by rw[rp,getElem?_replicate,if_pos (Nat.lt_succ_self _)]
  rw[getElem?_take,if_pos (Nat.lt_succ_self _),getElem?_drop] at e;have e2:(ag hs).cps.toList.getD (a+j) 0=(ag hs).cps.toList.getD a 0:=by rw[List.getD,e];rfl
  rw[fR (by omega),fR ha] at e2;have i1:hs.getD (a+j) 0∈hs:=by rw[List.getD,getElem?_eq_getElem (by omega)];exact getElem_mem _
  have i2:hs.getD a 0∈hs:=by rw[List.getD,getElem?_eq_getElem ha];exact getElem_mem _
  rw[←dE (hh _ i1),←dE (hh _ i2),e2]
 have le:=cB (ag hs).cps.toList a;rw[hl] at le
 by_cases q:i<bG (ag hs).cps.toList a
 ·rw[decide_eq_true q,decide_eq_true (show i+1<64 by omega),decide_eq_true (show a+(i+1)≤hs.length by omega),decide_eq_true (at_ i q)];rfl
 ·rw[decide_eq_false q]
  by_cases q1:i+1<64
  ·by_cases q2:a+(i+1)≤hs.length
   ·by_cases q3:hs.getD (a+i) 0=hs.getD a 0
    ·refine absurd (C7 (hs:=hs) (a:=a) (m:=i+1) ⟨by omega,fun j hj=>?_⟩) (by omega)
     by_cases e:j=i
     ·rw[e];exact q3
     ·exact at_ j (by omega)
    ·rw[decide_eq_false q3,Bool.and_false,Bool.and_false]
   ·rw[decide_eq_false q2,Bool.false_and,Bool.and_false]
  ·rw[decide_eq_false q1,Bool.false_and]
theorem pr {hs:List Int}{w a i:Nat}(hh:∀k∈hs,jW k)(h:i≤a9 w (ag hs).cps.toList a)(ha:a<hs.length):decide (i<a9 w (ag hs).cps.toList a)=(decide (w≤a)&&(decide (i+1<64)&&(decide (a+(i+1)≤hs.length)&&decide (hs.getD (a+i) 0=hs.getD (a+i-w) 0)))):=by
 have hl:(ag hs).cps.toList.length=hs.length:=by rw[aF,aS]
 have le:=dG w (ag hs).cps.toList a;rw[hl] at le
 by_cases hw:a<w
 ·have e:a9 w (ag hs).cps.toList a=0:=by unfold a9;rw[if_pos hw]
  rw[e,decide_eq_false (Nat.not_lt_zero _),decide_eq_false (show¬w≤a by omega),Bool.false_and]
 ·have at_:∀j,j<a9 w (ag hs).cps.toList a→hs.getD (a+j) 0=hs.getD (a+j-w) 0:=fun j hj=>by
   have e2:(ag hs).cps.toList.getD (a+j) 0=(ag hs).cps.toList.getD (a+j-w) 0:=by
    have hj2:=hj;unfold a9 at hj2;rw[if_neg hw] at hj2;exact m6 _ 0 j (Nat.zero_le _) hj2
   rw[fR (by omega),fR (by omega)] at e2;have i1:hs.getD (a+j) 0∈hs:=by rw[List.getD,getElem?_eq_getElem (by omega)];exact getElem_mem _
   have i2:hs.getD (a+j-w) 0∈hs:=by rw[List.getD,getElem?_eq_getElem (by omega)];exact getElem_mem _
   rw[←dE (hh _ i1),←dE (hh _ i2),e2]
  rw[decide_eq_true (show w≤a by omega),Bool.true_and]
  by_cases q:i<a9 w (ag hs).cps.toList a
  ·rw[decide_eq_true q,decide_eq_true (show i+1<64 by omega),decide_eq_true (show a+(i+1)≤hs.length by omega),decide_eq_true (at_ i q)];rfl
  ·rw[decide_eq_false q]
   by_cases q1:i+1<64
   ·by_cases q2:a+(i+1)≤hs.length
    ·by_cases q3:hs.getD (a+i) 0=hs.getD (a+i-w) 0
     ·refine absurd (BP (hs:=hs) (w:=w) (a:=a) (m:=i+1) ⟨by omega,fun _=>by omega,fun j hj=>?_⟩ (by omega)) (by omega)
      by_cases e:j=i
      ·rw[e];exact q3
      ·exact at_ j (by omega)
     ·rw[decide_eq_false q3,Bool.and_false,Bool.and_false]
    ·rw[decide_eq_false q2,Bool.false_and,Bool.and_false]
   ·rw[decide_eq_false q1,Bool.false_and]
noncomputable def ke (p:Str×Nat):Str:=⟨(p.1.cps.toList.take 2).toArray⟩
noncomputable def bH (T:List Str)(i:Nat)(p:Str×Nat):D:=.tup [.int (b8 T i p).cps.size,.str (ke p),.int p.2]
noncomputable def uK (T:List Str)(i:Nat)(p q:Str×Nat):Prop:=(b8 T i p).cps.size≤(b8 T i q).cps.size∧((b8 T i p).cps.size=(b8 T i q).cps.size→(ke p).cps.toList≤(ke q).cps.toList)
theorem lZ {T:List Str}{i:Nat}{a b c:Str×Nat}(h1:uK T i a b)(h2:uK T i b c):uK T i a c:=by
 refine⟨Nat.le_trans h1.1 h2.1,fun e=>?_⟩;have:=h1.1;have:=h2.1;exact List.le_trans (h1.2 (by omega)) (h2.2 (by omega))
theorem vG {T:List Str}{i:Nat}{a:Str×Nat}:uK T i a a:=⟨Nat.le_refl _,fun _=>List.le_refl _⟩
theorem Cf {T:List Str}{i:Nat}{p q:Str×Nat}:∃b,De (bH T i p) (bH T i q)=some b∧(b=true→uK T i p q)∧(b=false→uK T i q p):=by
 show∃b,(if((b8 T i p).cps.size:Int)=((b8 T i q).cps.size:Int) then(if ke p=ke q then(if(p.2:Int)=(q.2:Int) then some false else some (decide ((p.2:Int)<q.2))) else some (decide ((ke p).cps.toList<(ke q).cps.toList))) else some (decide (((b8 T i p).cps.size:Int)<((b8 T i q).cps.size:Int))))=some b∧_
 by_cases e1:((b8 T i p).cps.size:Int)=((b8 T i q).cps.size:Int)
 ·rw[if_pos e1];have e1':(b8 T i p).cps.size=(b8 T i q).cps.size:=by omega
  by_cases e2:ke p=ke q
  ·rw[if_pos e2];have a1:uK T i p q:=⟨Nat.le_of_eq e1',fun _=>by rw[e2];exact List.le_refl _⟩;have a2:uK T i q p:=⟨Nat.le_of_eq e1'.symm,fun _=>by rw[e2];exact List.le_refl _⟩;split
   ·exact⟨_,rfl,fun _=>a1,fun _=>a2⟩
   ·exact⟨_,rfl,fun _=>a1,fun _=>a2⟩
  ·rw[if_neg e2];refine⟨_,rfl,fun h=>⟨Nat.le_of_eq e1',fun _=>List.le_of_lt (of_decide_eq_true h)⟩,fun h=>⟨Nat.le_of_eq e1'.symm,fun _=>List.not_lt.mp (of_decide_eq_false h)⟩⟩
 ·rw[if_neg e1];refine⟨_,rfl,fun h=>?_,fun h=>?_⟩
  ·have:=of_decide_eq_true h;exact⟨by omega,fun e=>by omega⟩
  ·have:=of_decide_eq_false h;exact⟨by omega,fun e=>by omega⟩
theorem ku {T:List Str}{i:Nat}:∀(l:List (Str×Nat)) (b:Str×Nat),∃p,b0 (l.map (bH T i)) (bH T i b)=some (bH T i p)∧(p=b∨p∈l)∧uK T i p b∧∀q∈l,uK T i p q
 | [],b=>⟨b,rfl,.inl rfl,vG,fun _ h=>by cases h⟩
 | a::l,b=>by
  obtain⟨r,e,h1,h2⟩:=Cf (T:=T) (i:=i) (p:=a) (q:=b);rw[map_cons,b0,e];cases r with
  | true=>
   obtain⟨p,e,m,k1,k2⟩:=ku (T:=T) (i:=i) l a;refine⟨p,e,.inr ?_,lZ k1 (h1 rfl),fun q hq=>?_⟩
   ·rcases m with rfl|m
    ·exact mem_cons_self
    ·exact mem_cons_of_mem _ m
   ·rcases mem_cons.mp hq with rfl|hq
    ·exact k1
    ·exact k2 q hq
  | false=>
   obtain⟨p,e,m,k1,k2⟩:=ku (T:=T) (i:=i) l b;refine⟨p,e,?_,k1,fun q hq=>?_⟩
   ·rcases m with m|m
    ·exact .inl m
    ·exact .inr (mem_cons_of_mem _ m)
   ·rcases mem_cons.mp hq with rfl|hq
    ·exact lZ k1 (h2 rfl)
    ·exact k2 q hq
theorem i8 {hs:List Int}{w a:Nat}{p:Str×Nat}(ha:a<hs.length)(hp:p∈aJ (ag hs) w a):∃wy m:Nat,wy<3∧1≤m∧m<64∧a+m≤hs.length∧p=(ib wy++cq m++ag (fj hs a m wy),m):=by
 have sz:=aS hs;have k2:=cB (ag hs).cps.toList a;have k3:=dG w (ag hs).cps.toList a;rw[aF,sz] at k2 k3;unfold aJ at hp;rw[mem_append,mem_append,mem_map,mem_map,mem_map] at hp;rcases hp with(⟨i,hi,rfl⟩|⟨i,hi,rfl⟩)|⟨i,hi,rfl⟩
 ·have hi:=mem_range.mp hi;rw[sz] at hi;refine⟨0,i+1,by decide,by omega,by omega,by omega,?_⟩;have e:ib 0++cq ((i+1:Nat):Int)++ag (fj hs a (i+1) 0)=k9 (ag hs) a (i+1):=by
   unfold k9;refine bY ?_;rw[bQ,bQ (_++_),show((a:Int)+((i+1:Nat):Int))=((a+(i+1):Nat):Int) by omega,fY (by omega),bZ,bZ,show a+(i+1)-a=i+1 by omega,←map_drop,←map_take];rfl
  rw[e]
 ·have hi:=mem_range.mp hi;refine⟨1,i+1,by decide,by omega,by omega,by omega,?_⟩;have e:ib 1++cq ((i+1:Nat):Int)++ag (fj hs a (i+1) 1)=lj (ag hs) a (i+1):=by
   unfold lj Dr;refine bY ?_;rw[bQ,bQ (_++_),bZ,fR ha];show _++((hs.drop a).take 1).map sQ=_;rw[drop_eq_getElem_cons ha,take_succ_cons,take_zero,List.getD,getElem?_eq_getElem ha];rfl
  rw[e]
 ·have hi:=mem_range.mp hi;refine⟨2,i+1,by decide,by omega,by omega,by omega,?_⟩;have e:ib 2++cq ((i+1:Nat):Int)++ag (fj hs a (i+1) 2)=lw (i+1):=by
   unfold lw;have:ag (fj hs a (i+1) 2)="":=bY (by rw[bZ];show([]:List Nat)=_;decide +kernel);rw[this,rS];rfl
  rw[e]
noncomputable def zY (wy:Nat):Nat:=[33,42,94].getD wy 0
theorem mj {wy:Nat}(h:wy<3):(ib wy).cps.toList=[zY wy]:=by
 match wy,h with
 | 0,_=>decide +kernel
 | 1,_=>decide +kernel
 | 2,_=>decide +kernel
theorem xN {hs:List Int}{a wy m:Nat}(h:wy<3):(ke (ib wy++cq m++ag (fj hs a m wy),m)).cps.toList=[zY wy,dm.cps.toList.getD m 0]:=by
 show((ib wy++cq m++ag (fj hs a m wy)).cps.toList.take 2).toArray.toList=_;rw[toList_toArray,bQ,bQ,mj h,qf];rfl
theorem BR {hs:List Int}{w a:Nat}{p q:Str×Nat}(ha:a<hs.length)(hp:p∈aJ (ag hs) w a)(hq:q∈aJ (ag hs) w a)(e:(ke p).cps.toList=(ke q).cps.toList):p=q:=by
 obtain⟨y1,m1,a1,_,c1,_,rfl⟩:=i8 ha hp;obtain⟨y2,m2,a2,_,c2,_,rfl⟩:=i8 ha hq;rw[xN a1,xN a2] at e;have e1:zY y1=zY y2:=(List.cons.inj e).1;have e2:=(List.cons.inj (List.cons.inj e).2).1;have e3:(m1:Int)=m2:=by rw[←jd c1,←jd c2,e2]
 have e3:m1=m2:=by omega
 have e4:y1=y2:=by
  have:∀i j:Fin 3,zY i.1=zY j.1→i=j:=by decide
  exact congrArg Fin.val (this ⟨y1,a1⟩ ⟨y2,a2⟩ e1)
 rw[e3,e4]
theorem BV {a b c d:Nat}{s t:List Nat}(h:[a,b]≤[c,d])(n:[a,b]≠[c,d]):a::b::s≤c::d::t:=by
 refine List.le_of_lt ?_;have h2:[a,b]<[c,d]:=by
  refine Classical.byContradiction fun z=>n ?_
  exact List.le_antisymm h (List.not_lt.mp z)
 rcases cons_lt_cons_iff.mp h2 with h3|⟨rfl,h3⟩
 ·exact cons_lt_cons_iff.mpr (.inl h3)
 ·rcases cons_lt_cons_iff.mp h3 with h4|⟨rfl,h4⟩
  ·exact cons_lt_cons_iff.mpr (.inr ⟨rfl,cons_lt_cons_iff.mpr (.inl h4)⟩)
  ·exact absurd h4 (by simp)
theorem wq {hs:List Int}{w a:Nat}{T:List Str}{p q:Str×Nat}(ha:a<hs.length)(hp:p∈aJ (ag hs) w a)(hq:q∈aJ (ag hs) w a)(h:uK T a p q):t7 (b8 T a p) (b8 T a q):=by
 refine⟨h.1,fun e=>?_⟩;have h2:=h.2 e
 by_cases n:(ke p).cps.toList=(ke q).cps.toList
 ·rw[BR ha hp hq n];exact List.le_refl _
 ·obtain⟨y1,m1,a1,_,c1,_,rfl⟩:=i8 ha hp;obtain⟨y2,m2,a2,_,c2,_,rfl⟩:=i8 ha hq;rw[xN a1,xN a2] at h2 n;unfold b8;dsimp only;rw[bQ,bQ,bQ,mj a1,qf,bQ,bQ,bQ,mj a2,qf];exact BV h2 n
theorem uf {a b:Str}(h1:t7 a b)(h2:t7 b a):a=b:=by
 have e:=Nat.le_antisymm h1.1 h2.1;exact bY (List.le_antisymm (h1.2 e) (h2.2 e.symm))
theorem pQ {hs:List Int}{w a:Nat}{T:List Str}(hT:cy (ag hs) w T 0)(ha:a<hs.length){M:ax}{k:Nat}(hm:M[k]?=some (.lst ((aJ (ag hs) w a).map (bH T a)))) :
  ∃p∈aJ (ag hs) w a,T.getD a ""=b8 T a p∧gk [.mr k] M=.ok (bH T a p) M:=by
 have sx:(ag hs).cps.size=hs.length:=aS hs;obtain⟨b,hb,eb,bb⟩:=hT.best a (Nat.zero_le _) (by omega);have ml:gq (.mr k) M=some ((aJ (ag hs) w a).map (bH T a)):=by
  unfold gq;dsimp only;rw[hm]
 have ne:=oV (x:=ag hs) (w:=w) (at_:=a) (by omega);obtain⟨p,hp,e,le⟩:∃p∈aJ (ag hs) w a,v4 ((aJ (ag hs) w a).map (bH T a))=some (bH T a p)∧∀q∈aJ (ag hs) w a,uK T a p q:=by
  generalize aJ (ag hs) w a=P at *;cases P with
  | nil=>exact absurd rfl ne
  | cons c P=>
   obtain⟨p,e,m,h1,h2⟩:=ku (T:=T) (i:=a) P c;refine⟨p,?_,e,fun q hq=>?_⟩
   ·rcases m with rfl|m
    ·exact mem_cons_self
    ·exact mem_cons_of_mem _ m
   ·rcases mem_cons.mp hq with rfl|hq
    ·exact h1
    ·exact h2 q hq
 refine⟨p,hp,?_,?_⟩
 ·rw[eb];exact uf (bb p hp) (wq ha hp hb (le b hb))
 ·unfold gk;dsimp only;rw[ml];dsimp only;rw[e]
section
variable {R:D}{hs F:List Int}{w a f:Nat}{T:List Str}{M:ax}{d4 d9 d10 d11 d12 d13 d14:Option D}
noncomputable abbrev zE (R:D)(w:Nat)(hs:List Int)(d4:Option D)(f:Nat)(a:Option D)(d9 d10 d11 d12 d13 d14:Option D):a8:=[some R,some (.str dm),some (.int w),some (.lst (hs.map D.int)),d4,some (.int hs.length),some (.mr f),some (.mr (f+1)),a,d9,d10,d11,d12,d13,d14]
noncomputable def gE (T:List Str)(n:Nat)(F:List Int)(j:Nat):Prop:=F.length=n+1∧∀i,j≤i→i≤n→F.getD i 0=(T.getD i "").cps.size
theorem wf {j i:Nat}(hF:gE T hs.length F j)(h1:j≤i)(h2:i≤hs.length)(hm:M[f]?=some (.lst (F.map D.int))):bx (.mr f) (.int i) M=.ok (.int ((T.getD i "").cps.size:Int)) M:=by
 refine ng hm ?_;have hl:=hF.1;rw[getElem?_map,getElem?_eq_getElem (by omega)];have:=hF.2 i h1 h2;rw[List.getD,getElem?_eq_getElem (by omega)] at this;exact congrArg (fun z=>some (D.int z)) this
theorem qA {s:Str}{c m:Nat}(h:s.cps.toList=[c])(hm:m<64)(t:Str):ke (s++cq m++t,m)=s++cq m:=by
 refine bY ?_;show((s++cq m++t).cps.toList.take 2).toArray.toList=_;rw[toList_toArray,bQ,bQ,h,qf];rfl
theorem D3 {g1 g2 g3:GE}{ρ:a8}{x y z:D}(h1:g1 ρ M=.ok x M)(h2:g2 ρ M=.ok y M)(h3:g3 ρ M=.ok z M):dP (aa g1 (aa g2 (aa g3 ah))) ρ M=.ok (.tup [x,y,z]) M:=
 nw (aX h1 (aX h2 (aX h3 rfl)))
theorem xg {s:Str}(m:Nat)(hs:s.cps.size=1)(M:ax):az (.str s) (.str (cq (m:Int))) M=.ok (.str (s++cq m)) M:=
 c0 (show s.cps.size≤90000 by omega) (show(cq (m:Int)).cps.size≤90000 from(by decide:1≤90000)) M
theorem HK {m:Nat}(hF:gE T hs.length F (a+1))(h1:1≤m)(h2:m<64)(h3:a+m≤hs.length)(hm:M[f]?=some (.lst (F.map D.int))) :
  du (some (.int m)::zE R w hs d4 f (some (.int a)) d9 d10 d11 d12 d13 d14) M=.ok (bH T a (k9 (ag hs) a m,m)) M:=by
 have fa:=wf (i:=a+m) hF (by omega) h3 hm;have sz:(b8 T a (k9 (ag hs) a m,m)).cps.size=2+m+(T.getD (a+m) "").cps.size:=by
  have e0:(k9 (ag hs) a m).cps.size=2+m:=by
   unfold k9;have e1:("!":Str).cps.size=1:=by decide +kernel
   have e2:(cq (m:Int)).cps.size=1:=rfl;rw[bf,bf,e1,e2,show((a:Int)+(m:Int))=((a+m:Nat):Int) by omega,←aF,fY (by omega),length_take,length_drop,aF,aS];omega
  rw[iZ,e0]
 have eh:ke (k9 (ag hs) a m,m)="!"++cq m:=qA (c:=33) (by decide +kernel) h2 _;unfold bH;rw[sz,eh];refine D3 (ao (ao (x:=.int 2) (M1:=M) rfl (y:=.int m) (M2:=M) rfl rfl) (ao (x:=.mr f) (M1:=M) rfl (ao (x:=.int a) (M1:=M) rfl (y:=.int m) (M2:=M) rfl (o:=.ok (.int ((a+m:Nat):Int)) M) rfl) fa) ?_) (ao (x:=.str "!") (M1:=M) rfl (ao (x:=.str dm) (M1:=M) rfl (y:=.int m) (M2:=M) rfl (fO (k:=(m:Int)) (by omega) (by omega))) (xg m (by decide +kernel) M)) rfl;show aI.ok (D.int (2+(m:Int)+((T.getD (a+m) "").cps.size:Int))) M=_;rw[show(2+(m:Int)+((T.getD (a+m) "").cps.size:Int))=((2+m+(T.getD (a+m) "").cps.size:Nat):Int) by omega]
theorem Ff {s:Str}{c m:Nat}{z:Int}{p:Str}{ρ:a8}(hs1:s.cps.toList=[c])(hF:gE T hs.length F (a+1))(h1:1≤m)(h2:m<64)(h3:a+m≤hs.length)(hm:M[f]?=some (.lst (F.map D.int)))(hz:(p.cps.size:Int)=z)(hp:∃t,p=s++cq m++t)
  (r1:ρ[1]?=some (some (.str dm))) (r6:ρ[6]?=some (some (.mr f))) (r8:ρ[8]?=some (some (.int a))) (r10:ρ[10]?=some (some (.int m))) :
  dP (aa (g2 az (gC (.int z)) (g2 bx (af 6) (g2 az (af 8) (af 10)))) (aa (g2 az (gC (.str s)) (g2 bx (af 1) (af 10))) (aa (af 10) ah))) ρ M=.ok (bH T a (p,m)) M:=by
 have fa:=wf (i:=a+m) hF (by omega) h3 hm;have sz:(b8 T a (p,m)).cps.size=p.cps.size+(T.getD (a+m) "").cps.size:=iZ _;obtain⟨t,rfl⟩:=hp;have eh:ke (s++cq m++t,m)=s++cq m:=qA hs1 h2 _;have s1:s.cps.size=1:=by rw[←aF,hs1];rfl
 have v:∀(i:Nat) (d:D),ρ[i]?=some (some d)→af i ρ M=.ok d M:=fun i d h=>by unfold af;rw[h]
 unfold bH;rw[sz,eh];refine D3 (ao (x:=.int z) (M1:=M) rfl (ao (v 6 _ r6) (ao (v 8 _ r8) (v 10 _ r10) (o:=.ok (.int ((a+m:Nat):Int)) M) rfl) fa) ?_) (ao (x:=.str s) (M1:=M) rfl (ao (v 1 _ r1) (v 10 _ r10) (fO (k:=(m:Int)) (by omega) (by omega))) (xg m s1 M)) (v 10 _ r10);show aI.ok (D.int (z+((T.getD (a+m) "").cps.size:Int))) M=_;rw[←hz,←Int.natCast_add]
theorem gV {t:GT}{b:GS}{ρ:Nat→a8}{N:Nat→ax}{A:Nat}(ht:∀i,i≤A→t (ρ i) (N i)=.ok (decide (i<A)) (N i))(hb:∀i,i<A→b (ρ i) (N i)=.ok (.nx (ρ (i+1))) (N (i+1))):∀n i,i≤A→A<i+n→br t b n (ρ i) (N i)=.ok (.nx (ρ A)) (N A)
 | 0,i,h1,h2=>by omega
 | n+1,i,h1,h2=>by
  by_cases q:i<A
  ·rw[jb ((ht i h1).trans (by rw[decide_eq_true q])) (hb i q)];exact gV ht hb n (i+1) q (by omega)
  ·have e:i=A:=by omega
   subst e;exact eI ((ht i h1).trans (by rw[decide_eq_false q]))
theorem oz {α:Type}(g:Nat→α)(i:Nat):(List.range (i+1)).map g=(List.range i).map g++[g i]:=by rw[range_succ,map_append];rfl
theorem tj {N:ax}{E:List D}(hh:∀k∈hs,jW k)(hF:gE T hs.length F (a+1))(ha:a<hs.length)(hm:N[f]?=some (.lst (F.map D.int)))(hE:E.length≤1000) :
  br dt cE 5000 (zE R w hs d4 f (some (.int a)) (some (.mr N.length)) (some (.int ((0+1:Nat):Int))) d11 d12 d13 d14) (N++[.lst (E++(List.range 0).map fun i=>bH T a (lj (ag hs) a (i+1),i+1))]) =
   .ok (.nx (zE R w hs d4 f (some (.int a)) (some (.mr N.length)) (some (.int ((bG (ag hs).cps.toList a+1:Nat):Int))) d11 d12 d13 d14)) (N++[.lst (E++(List.range (bG (ag hs).cps.toList a)).map fun i=>bH T a (lj (ag hs) a (i+1),i+1))]):=by
 have le:=cB (ag hs).cps.toList a;rw[aF,aS] at le;have hk:f<N.length:=(List.getElem?_eq_some_iff.mp hm).1;refine gV (A:=bG (ag hs).cps.toList a) (ρ:=fun i=>zE R w hs d4 f (some (.int a)) (some (.mr N.length)) (some (.int ((i+1:Nat):Int))) d11 d12 d13 d14) (N:=fun i=>N++[.lst (E++(List.range i).map fun i=>bH T a (lj (ag hs) a (i+1),i+1))]) (fun i hi=>?_) (fun i hi=>?_) 5000 0 (Nat.zero_le _) (by omega)
 ·generalize N++[MO.lst (E++(List.range i).map fun i=>bH T a (lj (ag hs) a (i+1),i+1))]=Q;have t1:(aO (g2 j6 (af 10) (gC (.int 64)))) (zE R w hs d4 f (some (.int a)) (some (.mr N.length)) (some (.int ((i+1:Nat):Int))) d11 d12 d13 d14) Q=.ok (decide (((i+1:Nat):Int)<64)) Q:=a5 (ao (x:=.int ((i+1:Nat):Int)) (M1:=Q) rfl (y:=.int 64) (M2:=Q) rfl rfl);have t2:(aO (g2 tD (g2 az (af 8) (af 10)) (af 5))) (zE R w hs d4 f (some (.int a)) (some (.mr N.length)) (some (.int ((i+1:Nat):Int))) d11 d12 d13 d14) Q=.ok (decide ((a:Int)+((i+1:Nat):Int)≤hs.length)) Q:=a5 (ao (ao (x:=.int a) (M1:=Q) rfl (y:=.int ((i+1:Nat):Int)) (M2:=Q) rfl rfl) (y:=.int hs.length) (M2:=Q) rfl rfl);rw[pZ hh hi ha];refine(df t1 fun _=>df (y:=decide (hs.getD (a+i) 0=hs.getD a 0)) t2 fun z=>?_).trans ?_
  ·have z:=of_decide_eq_true z;refine a5 (ao (ao (x:=.lst (hs.map D.int)) (M1:=Q) rfl (ao (ao (x:=.int a) (M1:=Q) rfl (y:=.int ((i+1:Nat):Int)) (M2:=Q) rfl rfl) (y:=.int 1) (M2:=Q) rfl (o:=.ok (.int ((a+i:Nat):Int)) Q) ?_) (rR (by omega) Q)) (ao (x:=.lst (hs.map D.int)) (M1:=Q) rfl (y:=.int a) (M2:=Q) rfl (rR ha Q)) (jG _ _ Q));show aI.ok (D.int ((a:Int)+((i+1:Nat):Int)-1)) Q=_;rw[show((a:Int)+((i+1:Nat):Int)-1)=((a+i:Nat):Int) by omega]
  ·rw[show decide (((i+1:Nat):Int)<64)=decide (i+1<64) from decide_eq_decide.mpr (by omega),show decide ((a:Int)+((i+1:Nat):Int)≤hs.length)=decide (a+(i+1)≤hs.length) from decide_eq_decide.mpr (by omega)]
 ·have o:=Ff (s:="*") (c:=42) (m:=i+1) (z:=3) (p:=lj (ag hs) a (i+1)) (ρ:=zE R w hs d4 f (some (.int a)) (some (.mr N.length)) (some (.int ((i+1:Nat):Int))) d11 d12 d13 d14) (T:=T) (M:=N++[MO.lst (E++(List.range i).map fun i=>bH T a (lj (ag hs) a (i+1),i+1))]) (by decide +kernel) hF (by omega) (by omega) (by omega) (by rw[getElem?_append_left hk];exact hm) (by
   show((lj (ag hs) a (i+1)).cps.size:Int)=3;unfold lj;rw[bf,bf];rfl) ⟨_,rfl⟩ rfl rfl rfl rfl
  unfold cE;rw[aB (fW (wo (go:=af 9) rfl o (by rw[length_append,length_map,length_range];omega)))];rw[oz,←append_assoc];exact aD (i:=10) rfl
theorem uG {N:ax}{E:List D}(hh:∀k∈hs,jW k)(hF:gE T hs.length F (a+1))(ha:a<hs.length)(hm:N[f]?=some (.lst (F.map D.int)))(hE:E.length≤1000) :
  br dz cC 5000 (zE R w hs d4 f (some (.int a)) (some (.mr N.length)) (some (.int ((0+1:Nat):Int))) d11 d12 d13 d14) (N++[.lst (E++(List.range 0).map fun i=>bH T a (lw (i+1),i+1))]) =
   .ok (.nx (zE R w hs d4 f (some (.int a)) (some (.mr N.length)) (some (.int ((a9 w (ag hs).cps.toList a+1:Nat):Int))) d11 d12 d13 d14)) (N++[.lst (E++(List.range (a9 w (ag hs).cps.toList a)).map fun i=>bH T a (lw (i+1),i+1))]):=by
 have le:=dG w (ag hs).cps.toList a;rw[aF,aS] at le;have hk:f<N.length:=(List.getElem?_eq_some_iff.mp hm).1;refine gV (A:=a9 w (ag hs).cps.toList a) (ρ:=fun i=>zE R w hs d4 f (some (.int a)) (some (.mr N.length)) (some (.int ((i+1:Nat):Int))) d11 d12 d13 d14) (N:=fun i=>N++[.lst (E++(List.range i).map fun i=>bH T a (lw (i+1),i+1))]) (fun i hi=>?_) (fun i hi=>?_) 5000 0 (Nat.zero_le _) (by omega)
 ·generalize N++[MO.lst (E++(List.range i).map fun i=>bH T a (lw (i+1),i+1))]=Q;have t0:(aO (g2 xV (af 8) (af 2))) (zE R w hs d4 f (some (.int a)) (some (.mr N.length)) (some (.int ((i+1:Nat):Int))) d11 d12 d13 d14) Q=.ok (decide ((w:Int)≤a)) Q:=a5 (ao (x:=.int a) (M1:=Q) rfl (y:=.int w) (M2:=Q) rfl rfl);have t1:(aO (g2 j6 (af 10) (gC (.int 64)))) (zE R w hs d4 f (some (.int a)) (some (.mr N.length)) (some (.int ((i+1:Nat):Int))) d11 d12 d13 d14) Q=.ok (decide (((i+1:Nat):Int)<64)) Q:=a5 (ao (x:=.int ((i+1:Nat):Int)) (M1:=Q) rfl (y:=.int 64) (M2:=Q) rfl rfl);have t2:(aO (g2 tD (g2 az (af 8) (af 10)) (af 5))) (zE R w hs d4 f (some (.int a)) (some (.mr N.length)) (some (.int ((i+1:Nat):Int))) d11 d12 d13 d14) Q=.ok (decide ((a:Int)+((i+1:Nat):Int)≤hs.length)) Q:=a5 (ao (ao (x:=.int a) (M1:=Q) rfl (y:=.int ((i+1:Nat):Int)) (M2:=Q) rfl rfl) (y:=.int hs.length) (M2:=Q) rfl rfl);rw[pr hh hi ha];refine(df t0 fun z0=>df t1 fun _=>df (y:=decide (hs.getD (a+i) 0=hs.getD (a+i-w) 0)) t2 fun z=>?_).trans ?_
  ·have z:=of_decide_eq_true z;have z0:=of_decide_eq_true z0;have q1:g2 dr (g2 az (af 8) (af 10)) (gC (.int 1)) (zE R w hs d4 f (some (.int a)) (some (.mr N.length)) (some (.int ((i+1:Nat):Int))) d11 d12 d13 d14) Q=.ok (.int ((a+i:Nat):Int)) Q:=by
    refine ao (ao (x:=.int a) (M1:=Q) rfl (y:=.int ((i+1:Nat):Int)) (M2:=Q) rfl rfl) (y:=.int 1) (M2:=Q) rfl ?_;show aI.ok (D.int ((a:Int)+((i+1:Nat):Int)-1)) Q=_;rw[show((a:Int)+((i+1:Nat):Int)-1)=((a+i:Nat):Int) by omega]
   refine a5 (ao (ao (x:=.lst (hs.map D.int)) (M1:=Q) rfl q1 (rR (by omega) Q)) (ao (x:=.lst (hs.map D.int)) (M1:=Q) rfl (ao q1 (y:=.int w) (M2:=Q) rfl (o:=.ok (.int ((a+i-w:Nat):Int)) Q) ?_) (rR (by omega) Q)) (jG _ _ Q));show aI.ok (D.int (((a+i:Nat):Int)-w)) Q=_;rw[show(((a+i:Nat):Int)-w)=((a+i-w:Nat):Int) by omega]
  ·rw[show decide (((i+1:Nat):Int)<64)=decide (i+1<64) from decide_eq_decide.mpr (by omega),show decide ((a:Int)+((i+1:Nat):Int)≤hs.length)=decide (a+(i+1)≤hs.length) from decide_eq_decide.mpr (by omega),show decide ((w:Int)≤a)=decide (w≤a) from decide_eq_decide.mpr (by omega)]
 ·have o:=Ff (s:="^") (c:=94) (m:=i+1) (z:=2) (p:=lw (i+1)) (ρ:=zE R w hs d4 f (some (.int a)) (some (.mr N.length)) (some (.int ((i+1:Nat):Int))) d11 d12 d13 d14) (T:=T) (M:=N++[MO.lst (E++(List.range i).map fun i=>bH T a (lw (i+1),i+1))]) (by decide +kernel) hF (by omega) (by omega) (by omega) (by rw[getElem?_append_left hk];exact hm) (by
   show((lw (i+1)).cps.size:Int)=2;unfold lw;rw[bf];rfl) ⟨"",(rS _).symm⟩ rfl rfl rfl rfl
  unfold cC;rw[aB (fW (wo (go:=af 9) rfl o (by rw[length_append,length_map,length_range];omega)))];rw[oz,←append_assoc];exact aD (i:=10) rfl
end
section
variable {R:D}{hs F:List Int}{w a:Nat}{T:List Str}{M X:ax}{W:List D}{d4 d8 d9 d10 d11 d12 d13 d14:Option D}
noncomputable def iE (hs:List Int)(w:Nat)(T:List Str)(W:List D)(j:Nat):Prop:=W.length=hs.length+1∧∀i,j≤i→i<hs.length→∃p∈aJ (ag hs) w i,W[i]?=some (.tup [.str (ke p),.int p.2])∧T.getD i ""=b8 T i p
noncomputable def dS (M:ax)(F:List Int)(W:List D)(X:ax):ax:=M++MO.lst (F.map D.int)::MO.lst W::X
theorem vq:(dS M F W X)[M.length]?=some (.lst (F.map D.int)):=by
 unfold dS;rw[getElem?_append_right (Nat.le_refl _),Nat.sub_self];rfl
theorem D1:(dS M F W X)[M.length+1]?=some (.lst W):=by
 unfold dS;rw[getElem?_append_right (Nat.le_add_right _ _),Nat.add_sub_cancel_left];rfl
theorem yI {F':List Int}:(dS M F W X).set M.length (.lst (F'.map D.int))=dS M F' W X:=by
 unfold dS;rw[set_append_right _ _ (Nat.le_refl _),Nat.sub_self];rfl
theorem zm {W':List D}:(dS M F W X).set (M.length+1) (.lst W')=dS M F W' X:=by
 unfold dS;rw[set_append_right _ _ (Nat.le_add_right _ _),Nat.add_sub_cancel_left];rfl
theorem wI {E:ax}:dS M F W X++E=dS M F W (X++E):=by
 unfold dS;rw[append_assoc];rfl
theorem xO {j:Nat}{v:Int}(hF:gE T hs.length F (j+1))(hj:j<hs.length)(hv:v=(T.getD j "").cps.size):gE T hs.length (F.set j v) j:=by
 have hl:=hF.1;refine⟨by rw[length_set];exact hl,fun i h1 h2=>?_⟩;rw[List.getD,getElem?_set]
 by_cases e:j=i
 ·subst e;rw[if_pos rfl,if_pos (by omega)];exact hv
 ·rw[if_neg e];exact hF.2 i (by omega) h2
theorem yw {j:Nat}{p:Str×Nat}(hW:iE hs w T W (j+1))(hj:j<hs.length)(hp:p∈aJ (ag hs) w j)(e:T.getD j ""=b8 T j p):iE hs w T (W.set j (.tup [.str (ke p),.int p.2])) j:=by
 have hl:=hW.1;refine⟨by rw[length_set];exact hl,fun i h1 h2=>?_⟩;rw[getElem?_set]
 by_cases q:j=i
 ·subst q;rw[if_pos rfl,if_pos (by omega)];exact⟨p,hp,rfl,e⟩
 ·rw[if_neg q];exact hW.2 i (by omega) h2
theorem xG (hh:∀k∈hs,jW k)(hT:cy (ag hs) w T 0)(ha:a<hs.length)(hF:gE T hs.length F (a+1))(hW:iE hs w T W (a+1)) :
  ∃F' W' X' e9 e10 e11,gE T hs.length F' a∧iE hs w T W' a∧bu (zE R w hs d4 M.length (some (.int a)) d9 d10 d11 d12 d13 d14) (dS M F W X)=.ok (.nx (zE R w hs d4 M.length (some (.int a)) e9 e10 e11 d12 d13 d14)) (dS M F' W' X'):=by
 have k2:=cB (ag hs).cps.toList a;have k3:=dG w (ag hs).cps.toList a;have lt:=pQ (a:=a) hT ha (M:=dS M F W X++[.lst ((aJ (ag hs) w a).map (bH T a))]) (k:=(dS M F W X).length) (jh _ _);obtain⟨p,hp,ep,emin⟩:=lt;have hf:∀E,(dS M F W X++E)[M.length]?=some (.lst (F.map D.int)):=fun E=>by rw[wI];exact vq
 have c1:aR (dD (aa (gC (.int 1)) (aa (g2 az (aL lz (aa (gC (.int 63)) (aa (g2 dr (af 5) (af 8)) ah))) (gC (.int 1))) ah))) bt du bN (zE R w hs d4 M.length (some (.int a)) d9 d10 d11 d12 d13 d14) (dS M F W X)=.ok (.mr (dS M F W X).length) (dS M F W X++[.lst ((List.range (min 63 (hs.length-a))).map fun i=>bH T a (k9 (ag hs) a (i+1),i+1))]):=by
  have hm:=vq (M:=M) (F:=F) (W:=W) (X:=X);generalize dS M F W X=N at *;have mn:min 63 (hs.length-a)≤63:=Nat.min_le_left _ _;generalize hn:min 63 (hs.length-a)=n1 at *;refine n6 (j8 (n:=n1) (aX (d:=.int 1) (M1:=N) rfl (aX (ao (x:=.int n1) (M1:=N) ?_ (y:=.int 1) (M2:=N) rfl rfl) rfl)) (by omega)) ?_ (by rw[length_map,length_range];omega)
  ·refine Fh (x:=.int 63) (M1:=N) rfl (ao (x:=.int hs.length) (M1:=N) rfl (y:=.int a) (M2:=N) rfl rfl) ?_;show aI.ok (D.int (if(hs.length:Int)-a<63 then(hs.length:Int)-a else 63)) N=_;rw[show(if(hs.length:Int)-a<63 then(hs.length:Int)-a else 63)=(n1:Int) by split <;> omega]
  ·rw[gY];exact f7 _ fun i hi=>HK hF (by omega) (by have:=mem_range.mp hi;omega) (by have:=mem_range.mp hi;omega) hm
 have l2:=tj (R:=R) (w:=w) (d4:=d4) (d11:=d11) (d12:=d12) (d13:=d13) (d14:=d14) (T:=T) (N:=dS M F W X) (E:=(List.range (min 63 (hs.length-a))).map fun i=>bH T a (k9 (ag hs) a (i+1),i+1)) hh hF ha vq (by rw[length_map,length_range];omega);have l3:=uG (R:=R) (w:=w) (d4:=d4) (d11:=d11) (d12:=d12) (d13:=d13) (d14:=d14) (T:=T) (N:=dS M F W X) (E:=((List.range (min 63 (hs.length-a))).map fun i=>bH T a (k9 (ag hs) a (i+1),i+1))++(List.range (bG (ag hs).cps.toList a)).map fun i=>bH T a (lj (ag hs) a (i+1),i+1)) hh hF ha vq (by rw[length_append,length_map,length_map,length_range,length_range];omega);have eq:(((List.range (min 63 (hs.length-a))).map fun i=>bH T a (k9 (ag hs) a (i+1),i+1))++(List.range (bG (ag hs).cps.toList a)).map fun i=>bH T a (lj (ag hs) a (i+1),i+1))++((List.range (a9 w (ag hs).cps.toList a)).map fun i=>bH T a (lw (i+1),i+1))=(aJ (ag hs) w a).map (bH T a):=by
  unfold aJ;rw[map_append,map_append,map_map,map_map,map_map,aS];rfl
 rw[eq] at l3;rw[range_zero,map_nil,append_nil] at l2 l3;refine⟨F.set a ((b8 T a p).cps.size:Int),W.set a (.tup [.str (ke p),.int p.2]),X++[.lst ((aJ (ag hs) w a).map (bH T a))],some (.mr (dS M F W X).length),some (.int ((a9 w (ag hs).cps.toList a+1:Nat):Int)),some (bH T a p),xO hF ha (by rw[ep]),yw hW ha hp ep,?_⟩;have s10:∀(b:GS) (e10:Option D) (Q:ax),aq (aA 10 (gC (.int 1))) b (zE R w hs d4 M.length (some (.int a)) (some (.mr (dS M F W X).length)) e10 d11 d12 d13 d14) Q=b (zE R w hs d4 M.length (some (.int a)) (some (.mr (dS M F W X).length)) (some (.int ((0+1:Nat):Int))) d11 d12 d13 d14) Q:=fun b e10 Q=>aB (aD rfl)
 unfold bu;rw[aB (aD c1)];show aq _ _ (zE R w hs d4 M.length (some (.int a)) (some (.mr (dS M F W X).length)) d10 d11 d12 d13 d14) _=_;rw[s10,aB (a:=dh 5000 dt cE) l2,s10,aB (a:=dh 5000 dz cC) l3];rw[aB (aD (dq (a:=af 9) (x:=.mr (dS M F W X).length) rfl emin))];show aq _ _ (zE R w hs d4 M.length (some (.int a)) (some (.mr (dS M F W X).length)) (some (.int ((a9 w (ag hs).cps.toList a+1:Nat):Int))) (some (bH T a p)) d12 d13 d14) _=_;generalize (aJ (ag hs) w a).map (bH T a)=P at *;generalize (dS M F W X).length=n at *;rw[wI];have i0:∀Q:ax,bx (bH T a p) (.int 0) Q=.ok (.int ((b8 T a p).cps.size:Int)) Q:=fun Q=>yN (xs:=[.int (b8 T a p).cps.size,.str (ke p),.int p.2]) (k:=0) rfl
 have g1:=p9 (go:=af 6) (gi:=af 8) (g:=g2 bx (af 11) (gC (.int 0))) (ρ:=zE R w hs d4 M.length (some (.int a)) (some (.mr n)) (some (.int ((a9 w (ag hs).cps.toList a+1:Nat):Int))) (some (bH T a p)) d12 d13 d14) (M:=dS M F W (X++[MO.lst P])) (x:=.int ((b8 T a p).cps.size:Int)) (ao (x:=bH T a p) rfl (y:=.int 0) rfl (i0 _)) rfl rfl (vq (F:=F)) (by rw[length_map,hF.1];omega);rw[←map_set,yI] at g1;rw[aB g1];have g2:=p9 (go:=af 7) (gi:=af 8) (g:=dj (af 11) (aN (gC (.int 1))) bJ) (ρ:=zE R w hs d4 M.length (some (.int a)) (some (.mr n)) (some (.int ((a9 w (ag hs).cps.toList a+1:Nat):Int))) (some (bH T a p)) d12 d13 d14) (M:=dS M (F.set a ((b8 T a p).cps.size:Int)) W (X++[MO.lst P])) (x:=.tup [.str (ke p),.int p.2]) (fq (x:=bH T a p) rfl (lo:=some 1) rfl (hi:=none) rfl rfl) rfl rfl (D1 (W:=W)) (by rw[hW.1];omega);rw[zm] at g2;exact g2
theorem qN {ds0:List D}(hh:∀k∈hs,jW k)(hT:cy (ag hs) w T 0):∀(j:Nat) (F:List Int) (W:List D) (X:ax) (d8 d9 d10 d11:Option D),j≤hs.length→gE T hs.length F j→iE hs w T W j→
  ∃F' W' X' e8 e9 e10 e11,iE hs w T W' 0∧bT ⟨ds0,none⟩ (cr 8) bu (gR j) (zE R w hs d4 M.length d8 d9 d10 d11 d12 d13 d14) (dS M F W X)=.ok (.nx (zE R w hs d4 M.length e8 e9 e10 e11 d12 d13 d14)) (dS M F' W' X')
 | 0,F,W,X,d8,d9,d10,d11,_,hF,hW=>⟨F,W,X,d8,d9,d10,d11,hW,rfl⟩
 | j+1,F,W,X,d8,d9,d10,d11,hj,hF,hW=>by
  obtain⟨F1,W1,X1,e9,e10,e11,f1,w1,e1⟩:=xG (R:=R) (M:=M) (X:=X) (d4:=d4) (d9:=d9) (d10:=d10) (d11:=d11) (d12:=d12) (d13:=d13) (d14:=d14) hh hT (show j<hs.length by omega) hF hW;obtain⟨F2,W2,X2,g8,g9,g10,g11,w2,e2⟩:=qN (ds0:=ds0) hh hT j F1 W1 X1 (some (.int j)) e9 e10 e11 (by omega) f1 w1;refine⟨F2,W2,X2,g8,g9,g10,g11,w2,?_⟩;show bT ⟨ds0,none⟩ (cr 8) bu (.int (j:Nat)::gR j) _ _=_;rw[bT,if_pos fe];show(bu (zE R w hs d4 M.length (some (.int j)) d9 d10 d11 d12 d13 d14) _).bind _=_;rw[e1,ai];exact e2
end
section
variable {R:D}{hs:List Int}{w a f:Nat}{T:List Str}{M:ax}{W:List D}{d4 d8 d9 d10 d11 d12 d13 d14:Option D}
theorem zd {k0 k1 k2 x:Str}{g0 g1 g2 g:GE}{ρ:a8}{e0 e1 e2:D}{o:aI D}(h0:g0 ρ M=.ok e0 M)(h1:g1 ρ M=.ok e1 M)(h2:g2 ρ M=.ok e2 M)(h:g ρ M=.ok (.str x) M)(he:(if x=k0 then aI.ok e0 M else if x=k1 then .ok e1 M else if x=k2 then .ok e2 M else .bad)=o):ph k0 k1 k2 g0 g1 g2 g ρ M=o:=by
 unfold ph;rw[h0,ai,h1,ai,h2,ai,h,ai];exact he
theorem xu {U:List Int}{ρ:a8}(h1:ρ[1]?=some (some (.str dm)))(h14:ρ[14]?=some (some (.lst (U.map D.int))))(hU:∀k∈U,jW k)(hl:U.length≤1000) :
  bA dN (gC (.str "")) (aR (bi (af 14)) bt ce aH) ρ M=.ok (.str (ag U)) M:=by
 have cm:aR (bi (af 14)) bt ce aH ρ M=.ok (.lst (U.map fun k=>D.str (cq k))) M:=by
  refine fA (ds:=U.map D.int) (M1:=M) ?_ (f7 _ fun k hk=>ao (x:=.str dm) (M1:=M) ?_ (y:=.int k) (M2:=M) rfl (fO (hU k hk).1 (hU k hk).2)) (by rw[length_map];omega)
  ·unfold bi af;rw[h14];rfl
  ·unfold af;show(match ρ[1]? with|some (some d)=>aI.ok d M|_=>.bad)=_;rw[h1]
 have so:gu (U.map fun k=>D.str (cq k))=some (U.map cq):=gX cq U;have jo:=kJ hU hl;show((aR (bi (af 14)) bt ce aH) ρ M).bind (fun d M2=>dN "" d M2)=_;rw[cm,ai];unfold dN;show(match some (U.map fun k=>D.str (cq k)) with|some xs=>(match gu xs with|some ys=>if JoinOk "" ys=true then aI.ok (D.str (Txt.join "" ys)) M else .bad|none=>.bad)|none=>.bad)=_;dsimp only;rw[so];dsimp only;rw[if_pos jo];rfl
theorem Ay {wy:Nat}(h:wy<3):(⟨#[zY wy]⟩:Str)=ib wy:=bY (by rw[mj h])
theorem yg {X:Str}(hh:∀k∈hs,jW k)(hW:iE hs w T W 0)(ha:a<hs.length)(hm:M[f+1]?=some (.lst W))(hX:X.cps.size≤10000) :
  ∃p∈aJ (ag hs) w a,T.getD a ""=b8 T a p∧∃e10 e13 e14,b9 (zE R w hs d4 f (some (.int a)) d9 d10 d11 (some (.str X)) d13 d14) M=.ok (.nx (zE R w hs d4 f (some (.int ((a+p.2:Nat):Int))) d9 e10 d11 (some (.str (X++p.1))) e13 e14)) M:=by
 obtain⟨p,hp,wp,tp⟩:=hW.2 a (Nat.zero_le _) ha;obtain⟨wy,m,y3,m1,m63,am,rfl⟩:=i8 ha hp;have tl:=yV (hs:=hs) (a:=a) (wy:=wy) m1;have eh:ke (ib wy++cq (m:Int)++ag (fj hs a m wy),m)=ib wy++cq (m:Int):=qA (mj y3) m63 _;rw[eh] at wp;refine⟨_,hp,tp,some (.int m),some (.str (ib wy++cq (m:Int))),some (.lst ((fj hs a m wy).map D.int)),?_⟩;have wx:bx (.mr (f+1)) (.int a) M=.ok (.tup [.str (ib wy++cq (m:Int)),.int m]) M:=ng hm wp;have hz:(ib wy++cq (m:Int)).cps.size=2:=by rw[bf,E8 y3];rfl
 have h0:bx (.str (ib wy++cq (m:Int))) (.int ((0:Nat):Int)) M=.ok (.str ⟨#[zY wy]⟩) M:=jl (by rw[bQ,mj y3];rfl) (by omega) M;have as:jU (jy [13,10]) (g2 bx (af 7) (af 8)) (zE R w hs d4 f (some (.int a)) d9 d10 d11 (some (.str X)) d13 d14) M=.ok (.nx (zE R w hs d4 f (some (.int a)) d9 (some (.int m)) d11 (some (.str X)) (some (.str (ib wy++cq (m:Int)))) d14)) M:=by
  unfold jU;rw[ao (x:=.mr (f+1)) (M1:=M) rfl (y:=.int a) (M2:=M) rfl wx];rfl
 have sl:∀(k:Nat) (g:GE),g (zE R w hs d4 f (some (.int a)) d9 (some (.int m)) d11 (some (.str X)) (some (.str (ib wy++cq (m:Int)))) d14) M=.ok (.int ((a+k:Nat):Int)) M→dj (af 3) (aN (af 8)) (aN g) (zE R w hs d4 f (some (.int a)) d9 (some (.int m)) d11 (some (.str X)) (some (.str (ib wy++cq (m:Int)))) d14) M=.ok (.lst (((hs.drop a).take k).map D.int)) M:=fun k g hg=>by
  refine fq (x:=.lst (hs.map D.int)) (M1:=M) rfl (lo:=some (a:Int)) (M2:=M) rfl (hi:=some ((a+k:Nat):Int)) (M3:=M) ?_ ?_
  ·unfold aN;rw[hg];rfl
  ·show aI.ok (D.lst (gT (hs.map D.int) (some (a:Int)) (some ((a+k:Nat):Int)))) M=_;rw[n5 (by omega),show a+k-a=k by omega]
 have dx:=zd (k0:="!") (k1:="*") (k2:="^") (o:=.ok (.lst ((fj hs a m wy).map D.int)) M) (sl m (g2 az (af 8) (af 10)) (ao (x:=.int a) (M1:=M) rfl (y:=.int m) (M2:=M) rfl rfl)) (sl 1 (g2 az (af 8) (gC (.int 1))) (ao (x:=.int a) (M1:=M) rfl (y:=.int 1) (M2:=M) rfl rfl)) (show cL ah _ M=.ok (.lst []) M from fh rfl) (ao (f:=bx) (a:=af 13) (b:=gC (.int 0)) (x:=.str (ib wy++cq (m:Int))) (M1:=M) rfl (y:=.int 0) (M2:=M) rfl h0) (by
  rw[Ay y3]
  match wy,y3 with
  | 0,_=>rw[if_pos (show ib 0="!" from rfl)];rfl
  | 1,_=>rw[if_neg (show¬ib 1="!" by decide +kernel),if_pos (show ib 1="*" from rfl)];rfl
  | 2,_=>rw[if_neg (show¬ib 2="!" by decide +kernel),if_neg (show¬ib 2="*" by decide +kernel),if_pos (show ib 2="^" from rfl)];rfl)
 have j:=xu (M:=M) (ρ:=zE R w hs d4 f (some (.int a)) d9 (some (.int m)) d11 (some (.str X)) (some (.str (ib wy++cq (m:Int)))) (some (.lst ((fj hs a m wy).map D.int)))) (U:=fj hs a m wy) rfl rfl (fun k hk=>hh k (C4 k hk)) (by omega);have zn:(ag (fj hs a m wy)).cps.size≤64:=by rw[aS];omega
 have tx:g2 az (g2 az (af 12) (af 13)) (bA dN (gC (.str "")) (aR (bi (af 14)) bt ce aH)) (zE R w hs d4 f (some (.int a)) d9 (some (.int m)) d11 (some (.str X)) (some (.str (ib wy++cq (m:Int)))) (some (.lst ((fj hs a m wy).map D.int)))) M=.ok (.str (X++(ib wy++cq (m:Int)++ag (fj hs a m wy)))) M:=by
  rw[←pp X];exact ao (ao (x:=.str X) (M1:=M) rfl (y:=.str (ib wy++cq (m:Int))) (M2:=M) rfl (c0 (show X.cps.size≤90000 by omega) (show(ib wy++cq (m:Int)).cps.size≤90000 by omega) M)) j (c0 (show(X++(ib wy++cq (m:Int))).cps.size≤90000 by rw[bf];omega) (show(ag (fj hs a m wy)).cps.size≤90000 by omega) M)
 unfold b9;rw[aB as,aB (aD dx)];show aq _ _ (zE R w hs d4 f (some (.int a)) d9 (some (.int m)) d11 (some (.str X)) (some (.str (ib wy++cq (m:Int)))) (some (.lst ((fj hs a m wy).map D.int)))) M=_;rw[aB (aD tx)];exact aD (i:=8) (ao (x:=.int a) (M1:=M) rfl (y:=.int m) (M2:=M) rfl rfl)
theorem rH {H0:Str}(hH:H0.cps.size=2)(ho:ft (ag hs))(hh:∀k∈hs,jW k)(hl:hs.length≤1600)(hT:cy (ag hs) w T 0)(hW:iE hs w T W 0)(hm:M[f+1]?=some (.lst W)):∀(n a:Nat) (u:Str) (d10 d13 d14:Option D),xk (ag hs) w a u→u++T.getD a ""=T.getD 0 ""→a≤hs.length→hs.length<a+n→
  xk (ag hs) w hs.length (T.getD 0 "")∧∃ρ',ρ'[12]?=some (some (.str (H0++T.getD 0 "")))∧br cF b9 n (zE R w hs d4 f (some (.int a)) d9 d10 d11 (some (.str (H0++u))) d13 d14) M=.ok (.nx ρ') M
 | 0,a,u,d10,d13,d14,hP,eu,ha,hn=>by omega
 | n+1,a,u,d10,d13,d14,hP,eu,ha,hn=>by
  have tt:cF (zE R w hs d4 f (some (.int a)) d9 d10 d11 (some (.str (H0++u))) d13 d14) M=.ok (decide ((a:Int)<hs.length)) M:=a5 (ao (x:=.int a) (M1:=M) rfl (y:=.int hs.length) (M2:=M) rfl rfl)
  by_cases h:a<hs.length
  ·have us:=(qD ho hP).2;have sx:(ag hs).cps.size=hs.length:=aS hs;obtain⟨p,hp,tp,e10,e13,e14,e⟩:=yg (R:=R) (d4:=d4) (d9:=d9) (d10:=d10) (d11:=d11) (d13:=d13) (d14:=d14) (X:=H0++u) hh hW h hm (by rw[bf];omega);obtain⟨k1,_,k3,_,_⟩:=fI ho (by omega) hp;rw[pp] at e;have eu2:u++p.1++T.getD (a+p.2) ""=T.getD 0 "":=by
    rw[←eu,tp,pp];rfl
   obtain⟨hP',ρ',hρ,e'⟩:=rH hH ho hh hl hT hW hm n (a+p.2) (u++p.1) e10 e13 e14 (.snoc hP (by omega) hp) eu2 (by omega) (by omega);refine⟨hP',ρ',hρ,?_⟩;rw[jb (tt.trans (by rw[decide_eq_true (show(a:Int)<hs.length by omega)])) e];exact e'
  ·have e:a=hs.length:=by omega
   subst e;have la:=hT.last;rw[aS] at la;rw[la,rS] at eu;subst eu;exact⟨hP,_,rfl,eI (tt.trans (by rw[decide_eq_false (show¬(hs.length:Int)<hs.length by omega)]))⟩
theorem vO {ds0:List D}{tail:a8}{R:D}{w:Nat}:∀(rs:List (List Int)) (acc:List Int) (d4:Option D),acc.length+rs.flatten.length≤100000→
  ∃d',bT ⟨ds0,none⟩ (cr 4) bF (aj rs) (some R::some (.str dm)::some (.int w)::some (.lst (acc.map D.int))::d4::tail) M=.ok (.nx (some R::some (.str dm)::some (.int w)::some (.lst ((acc++rs.flatten).map D.int))::d'::tail)) M
 | [],acc,d4,_=>⟨d4,by rw[flatten_nil,append_nil];rfl⟩
 | r::rs,acc,d4,h=>by
  rw[flatten_cons,length_append] at h;obtain⟨d',e⟩:=vO (ds0:=ds0) (tail:=tail) (w:=w) (R:=R) rs (acc++r) (some (.lst (r.map D.int))) (by rw[length_append];omega);refine⟨d',?_⟩;show bT ⟨ds0,none⟩ (cr 4) bF (D.lst (r.map D.int)::aj rs) _ M=_;rw[bT,if_pos fe];have bb:bF (some R::some (.str dm)::some (.int w)::some (.lst (acc.map D.int))::some (.lst (r.map D.int))::tail) M=.ok (.nx (some R::some (.str dm)::some (.int w)::some (.lst ((acc++r).map D.int))::some (.lst (r.map D.int))::tail)) M:=by
   refine aD (i:=3) (ao (x:=.lst (acc.map D.int)) (M1:=M) rfl (y:=.lst (r.map D.int)) (M2:=M) rfl ?_);show(if(acc.map D.int).length+(r.map D.int).length≤sizeLine then aI.ok (D.lst (acc.map D.int++r.map D.int)) M else .bad)=_;rw[if_pos (ba (by rw[length_map,length_map];omega)),←map_append]
  show(bF (some R::some (.str dm)::some (.int w)::some (.lst (acc.map D.int))::some (.lst (r.map D.int))::tail) M).bind _=_;rw[bb,ai,flatten_cons,←append_assoc];exact e
theorem yh (n:Nat):(List.replicate n [D.non]).flatten=List.replicate n D.non:=by
 induction n with
 | zero=>rfl
 | succ n ih=>rw[replicate_succ,flatten_cons,ih];rfl
theorem rf {x:D}{n:Nat}(hn:n≤10000)(M:ax):lF (.lst [x]) (.int n) M=.ok (.mr M.length) (M++[.lst (List.replicate n [x]).flatten]):=by
 show(if 0≤(n:Int)∧(n:Int)≤100000∧[x].length*(n:Int).toNat≤100000 then aI.ok (D.mr M.length) (M++[MO.lst (List.replicate (n:Int).toNat [x]).flatten]) else .bad)=_;rw[if_pos ⟨by omega,by omega,by rw[length_singleton,Int.toNat_natCast];omega⟩,Int.toNat_natCast]
theorem wa {rs:List (List Int)}(hrs:fE w rs)(r1:1≤rs.length)(r2:rs.length≤40)(w2:w≤40)(hT:cy (bz rs) w T 0)(hM:M.all cS=true) :
  xk (bz rs) w (bz rs).cps.size (T.getD 0 "")∧dU [.lst (aj rs)] M=.ok (.str (ag [(w:Int),(rs.length:Int)]++T.getD 0 "")) M:=by
 have hh:=iY hrs;have ho:ft (bz rs):=kE hh;have f16:rs.flatten.length≤1600:=by rw[gw hrs];exact Nat.mul_le_mul w2 r2
 have sx:(bz rs).cps.size=rs.flatten.length:=by unfold bz;rw[aS]
 rw[sx];show xk (ag rs.flatten) _ _ _∧_;have ho:ft (ag rs.flatten):=ho;have hT:cy (ag rs.flatten) w T 0:=hT;obtain⟨d4,ef⟩:=vO (M:=M) (ds0:=aj rs) (tail:=[none,none,none,none,none,none,none,none,none,none]) (w:=w) (R:=.lst (aj rs)) rs [] none (by rw[length_nil];omega);rw[nil_append] at ef;have la:=hT.last;rw[aS] at la;generalize rs.flatten=hs at *;have hF:gE T hs.length (List.replicate (hs.length+1) 0) hs.length:=⟨length_replicate,fun i h1 h2=>by
  have e:i=hs.length:=by omega
  rw[List.getD,getElem?_replicate,if_pos (by omega),e,la];decide +kernel⟩
 have hW:iE hs w T (List.replicate (hs.length+1) D.non) hs.length:=⟨length_replicate,fun i h1 h2=>by omega⟩;obtain⟨F',W',X',e8,e9,e10,e11,hW',el⟩:=qN (R:=.lst (aj rs)) (M:=M) (d4:=d4) (d12:=none) (d13:=none) (d14:=none) (ds0:=gR hs.length) hh hT hs.length _ _ [] none none none none (Nat.le_refl _) hF hW;have hH:(ag [(w:Int),(rs.length:Int)]).cps.size=2:=by rw[aS];rfl
 obtain⟨hP,ρ',hρ,ew⟩:=rH (R:=.lst (aj rs)) (d4:=d4) (d9:=e9) (d11:=e11) (f:=M.length) (H0:=ag [(w:Int),(rs.length:Int)]) hH ho hh f16 hT hW' (M:=dS M F' W' X') D1 5000 0 "" e10 none none .nil (Ep _) (Nat.zero_le _) (by omega);rw[rS] at ew;refine⟨hP,?_⟩;have s1:∀b:GS,aq (aA 1 (gC (.str "0123456789abcdefghijklmnopqrstuvwxyzABCDEFGHIJKLMNOPQRSTUVWXYZ+-"))) b [some (.lst (aj rs)),none,none,none,none,none,none,none,none,none,none,none,none,none,none] M=b [some (.lst (aj rs)),some (.str dm),none,none,none,none,none,none,none,none,none,none,none,none,none] M:=fun b=>aB (aD rfl)
 have s2:∀b:GS,aq (aA 2 (aL bq (aa (g2 bx (af 0) (gC (.int 0))) ah))) b [some (.lst (aj rs)),some (.str dm),none,none,none,none,none,none,none,none,none,none,none,none,none] M=b [some (.lst (aj rs)),some (.str dm),some (.int w),none,none,none,none,none,none,none,none,none,none,none,none] M:=fun b=>by
  cases rs with
  | nil=>cases r1
  | cons r rs=>
   refine aB (aD (d:=.int w) (M1:=M) (dq (ao (x:=.lst (aj (r::rs))) (M1:=M) rfl (y:=.int 0) (M2:=M) rfl (o:=.ok (.lst (r.map D.int)) M) (im (xs:=aj (r::rs)) (k:=0) rfl)) ?_));show aI.ok (D.int ((r.map D.int).length:Int)) M=_;rw[length_map,(hrs r mem_cons_self).1]
 have s3:∀b:GS,aq (aA 3 (cL ah)) b [some (.lst (aj rs)),some (.str dm),some (.int w),none,none,none,none,none,none,none,none,none,none,none,none] M=b [some (.lst (aj rs)),some (.str dm),some (.int w),some (.lst (([]:List Int).map D.int)),none,none,none,none,none,none,none,none,none,none,none] M:=fun b=>aB (aD (fh rfl))
 have s4:∀b:GS,aq (iw (bi (af 0)) (cr 4) bF) b [some (.lst (aj rs)),some (.str dm),some (.int w),some (.lst (([]:List Int).map D.int)),none,none,none,none,none,none,none,none,none,none,none] M=b [some (.lst (aj rs)),some (.str dm),some (.int w),some (.lst (hs.map D.int)),d4,none,none,none,none,none,none,none,none,none,none] M:=fun b=>aB (jr (t:=⟨aj rs,none⟩) rfl ef)
 have s5:∀b:GS,aq (aA 5 (aL bq (aa (af 3) ah))) b [some (.lst (aj rs)),some (.str dm),some (.int w),some (.lst (hs.map D.int)),d4,none,none,none,none,none,none,none,none,none,none] M=b [some (.lst (aj rs)),some (.str dm),some (.int w),some (.lst (hs.map D.int)),d4,some (.int hs.length),none,none,none,none,none,none,none,none,none] M:=fun b=>by
  refine aB (aD (d:=.int hs.length) (M1:=M) (dq (x:=.lst (hs.map D.int)) (M1:=M) rfl ?_));show aI.ok (D.int ((hs.map D.int).length:Int)) M=_;rw[length_map]
 have m1:=rf (x:=.int 0) (n:=hs.length+1) (by omega) M;rw[ny] at m1;have m2:=rf (x:=.non) (n:=hs.length+1) (by omega) (M++[MO.lst ((List.replicate (hs.length+1) (0:Int)).map D.int)]);rw[yh,length_append] at m2;have s6:∀b:GS,aq (aA 6 (g2 lF (cL (aa (gC (.int 0)) ah)) (g2 az (af 5) (gC (.int 1))))) b [some (.lst (aj rs)),some (.str dm),some (.int w),some (.lst (hs.map D.int)),d4,some (.int hs.length),none,none,none,none,none,none,none,none,none] M=b [some (.lst (aj rs)),some (.str dm),some (.int w),some (.lst (hs.map D.int)),d4,some (.int hs.length),some (.mr M.length),none,none,none,none,none,none,none,none] (M++[MO.lst ((List.replicate (hs.length+1) (0:Int)).map D.int)]):=fun b=>
  aB (aD (ao (fh (ds:=[.int 0]) rfl) (ao (x:=.int hs.length) (M1:=M) rfl (y:=.int 1) (M2:=M) rfl rfl) m1))
 have s7:∀b:GS,aq (aA 7 (g2 lF (cL (aa (gC .non) ah)) (g2 az (af 5) (gC (.int 1))))) b [some (.lst (aj rs)),some (.str dm),some (.int w),some (.lst (hs.map D.int)),d4,some (.int hs.length),some (.mr M.length),none,none,none,none,none,none,none,none] (M++[MO.lst ((List.replicate (hs.length+1) (0:Int)).map D.int)])=b (zE (.lst (aj rs)) w hs d4 M.length none none none none none none none) (dS M (List.replicate (hs.length+1) 0) (List.replicate (hs.length+1) D.non) []):=fun b=>by
  have e:M++[MO.lst ((List.replicate (hs.length+1) (0:Int)).map D.int)]++[MO.lst (List.replicate (hs.length+1) D.non)]=dS M (List.replicate (hs.length+1) 0) (List.replicate (hs.length+1) D.non) []:=by
   unfold dS;rw[append_assoc];rfl
  rw[e] at m2;generalize M++[MO.lst ((List.replicate (hs.length+1) (0:Int)).map D.int)]=Q at *;exact aB (aD (ao (fh (ds:=[.non]) rfl) (ao (x:=.int hs.length) (M1:=Q) rfl (y:=.int 1) (M2:=Q) rfl rfl) m2))
 have s8:∀b:GS,aq (iw (oF (aa (g2 dr (af 5) (gC (.int 1))) (aa (iG (gC (.int 1))) (aa (iG (gC (.int 1))) ah)))) (cr 8) bu) b (zE (.lst (aj rs)) w hs d4 M.length none none none none none none none) (dS M (List.replicate (hs.length+1) 0) (List.replicate (hs.length+1) D.non) [])=b (zE (.lst (aj rs)) w hs d4 M.length e8 e9 e10 e11 none none none) (dS M F' W' X'):=fun b=>by
  refine aB (jr (t:=⟨gR hs.length,none⟩) ?_ el);generalize dS M (List.replicate (hs.length+1) 0) (List.replicate (hs.length+1) D.non) []=Q;unfold oF;rw[aX (d:=.int ((hs.length:Int)-1)) (M1:=Q) rfl (aX (d:=.int (-1)) (M1:=Q) rfl (aX (d:=.int (-1)) (M1:=Q) rfl rfl)),ai];show(if -1≤(hs.length:Int)-1∧(hs.length:Int)-1≤100000∧(-1:Int)=-1∧(-1:Int)=-1 then aI.ok (⟨iP ((hs.length:Int)-1) (-1) ((hs.length:Int)-1+1).toNat,none⟩:jY) Q else .bad)=_;rw[if_pos ⟨by omega,by omega,rfl,rfl⟩,show((hs.length:Int)-1+1).toNat=hs.length by omega,m9]
 have nt:cq (w:Int)++cq (rs.length:Int)=ag [(w:Int),(rs.length:Int)]:=bY (by rw[bQ,bZ];rfl);have s12:∀b:GS,aq (aA 12 (g2 az (g2 bx (af 1) (af 2)) (g2 bx (af 1) (aL bq (aa (af 0) ah))))) b (zE (.lst (aj rs)) w hs d4 M.length e8 e9 e10 e11 none none none) (dS M F' W' X')=b (zE (.lst (aj rs)) w hs d4 M.length e8 e9 e10 e11 (some (.str (ag [(w:Int),(rs.length:Int)]))) none none) (dS M F' W' X'):=fun b=>by
  generalize dS M F' W' X'=Q;have ll:bq [.lst (aj rs)] Q=.ok (.int (rs.length:Int)) Q:=by
   show aI.ok (D.int ((aj rs).length:Int)) Q=_;unfold aj;rw[length_map]
  rw[←nt];exact aB (aD (ao (ao (x:=.str dm) (M1:=Q) rfl (y:=.int w) (M2:=Q) rfl (fO (k:=(w:Int)) (by omega) (by omega))) (ao (x:=.str dm) (M1:=Q) rfl (dq (x:=.lst (aj rs)) (M1:=Q) rfl ll) (fO (k:=(rs.length:Int)) (by omega) (by omega))) (c0 (show(cq (w:Int)).cps.size≤90000 from(by decide:1≤90000)) (show(cq (rs.length:Int)).cps.size≤90000 from(by decide:1≤90000)) Q)))
 have s9:∀b:GS,aq (aA 8 (gC (.int 0))) b (zE (.lst (aj rs)) w hs d4 M.length e8 e9 e10 e11 (some (.str (ag [(w:Int),(rs.length:Int)]))) none none) (dS M F' W' X')=b (zE (.lst (aj rs)) w hs d4 M.length (some (.int ((0:Nat):Int))) e9 e10 e11 (some (.str (ag [(w:Int),(rs.length:Int)]))) none none) (dS M F' W' X'):=fun b=>aB (aD rfl)
 show hZ M.length (aZ (cX [some (.lst (aj rs)),none,none,none,none,none,none,none,none,none,none,none,none,none,none] M))=_;unfold cX;rw[s1,s2,s3,s4,s5,s6,s7,s8,s12,s9,aB (a:=dh 5000 cF b9) ew];have v:af 12 ρ' (dS M F' W' X')=.ok (.str (ag [(w:Int),(rs.length:Int)]++T.getD 0 "")) (dS M F' W' X'):=by unfold af;rw[hρ]
 rw[iA v];exact lP (d:=.str _) (E:=MO.lst (F'.map D.int)::MO.lst W'::X') rfl hM
end
theorem wG {ds0:List D}{s:GG}{body:GS}{W:Nat→a8→ax→Prop}:∀(ds:List D) (i:Nat),(∀j d,ds[j]?=some d→∀ρ M,W (i+j) ρ M→∃ρ1 ρ2 M2,s d ρ=some ρ1∧body ρ1 M=.ok (.nx ρ2) M2∧W (i+j+1) ρ2 M2)→∀ρ M,W i ρ M→
  ∃ρ' M',W (i+ds.length) ρ' M'∧bT ⟨ds0,none⟩ s body ds ρ M=.ok (.nx ρ') M'
 | [],i,h,ρ,M,hW=>⟨ρ,M,hW,rfl⟩
 | d::ds,i,h,ρ,M,hW=>by
  obtain⟨ρ1,ρ2,M2,e1,e2,h2⟩:=h 0 d rfl ρ M hW;obtain⟨ρ',M',h3,e3⟩:=wG (ds0:=ds0) (s:=s) (body:=body) (W:=W) ds (i+1) (fun j d' hd ρ M hW=>by
   have e:i+1+j=i+(j+1):=by omega
   rw[e] at hW ⊢;exact h (j+1) d' hd ρ M hW) ρ2 M2 h2
  refine⟨ρ',M',?_,by simp[bT,fe,e1,e2,e3]⟩;have e:i+(d::ds).length=i+1+ds.length:=by simp;omega
  rw[e];exact h3
section
variable {l:List Int}{au M:ax}
theorem zA (xs:List D)(M:ax):fH (.lst xs) M=.lst xs:=rfl
theorem i7 (rs:List (List Int))(M:ax):l6 (.lst (aj rs)) M=.lst (aj rs):=by
 show D.lst ((aj rs).map fun x=>fH x M)=_;unfold aj;rw[map_map];rfl
theorem qY {n:Nat}{rs:List (List Int)}(h:∀(k:Nat) (r:List Int),rs[k]?=some r→M[n+k]?=some (fF r)):l6 (.lst (dQ n rs.length)) M=.lst (aj rs):=by
 show D.lst ((dQ n rs.length).map fun x=>fH x M)=_;refine congrArg D.lst ?_;apply ext_getElem?;intro k;unfold dQ aj;rw[map_map,getElem?_map,getElem?_map]
 by_cases hk:k<rs.length
 ·rw[getElem?_range hk,getElem?_eq_getElem hk];show some (match M[n+k]? with|some (.lst xs)=>D.lst xs|_=>.mr (n+k))=some (.lst (rs[k].map D.int));rw[h k _ (getElem?_eq_getElem hk)];rfl
 ·rw[getElem?_eq_none (by rw[length_range];omega),getElem?_eq_none (by omega)];rfl
theorem pd:∀r:List Int,fg (r.map D.int) (r.map D.int)=true
 | []=>rfl
 | k::r=>by
  show((k==k)&&fg (r.map D.int) (r.map D.int))=true;rw[pd r,beq_self_eq_true];rfl
theorem oO:∀rs:List (List Int),fg (aj rs) (aj rs)=true
 | []=>rfl
 | r::rs=>by
  show(fg (r.map D.int) (r.map D.int)&&fg (aj rs) (aj rs))=true;rw[pd r,oO rs];rfl
theorem km {x y:D}{rs:List (List Int)}(hx:l6 x M=.lst (aj rs))(hy:l6 y M=.lst (aj rs)):uJ true x y M=.ok (.bl false) M:=by
 unfold uJ;rw[hx,hy];have c:bO 40 (.lst (aj rs))=true:=kS 38 rs;rw[c];show aI.ok (D.bl (fg (aj rs) (aj rs) != true)) M=_;rw[oO];rfl
theorem Aa {hs:List Int}{rs:List (List Int)}(k:Nat)(r:List Int)(h:rs[k]?=some r):(M++h8 hs rs)[M.length+1+k]?=some (fF r):=by
 rw[getElem?_append_right (by omega),show M.length+1+k-M.length=k+1 by omega];show(rs.map fF)[k]?=_;rw[getElem?_map,h];rfl
theorem B5 {hs:List Int}{r r':List Int}{rs:List (List Int)}:(M++h8 hs (r::rs)).set (M.length+1) (fF r')=M++h8 hs (r'::rs):=by
 rw[set_append_right _ _ (by omega),show M.length+1-M.length=1 by omega];rfl
theorem rO {hs:List Int}{rs:List (List Int)}:(h8 hs rs).all cS=true:=by
 have p:∀r:List Int,cS (fF r)=true:=fun r=>jj 29 r
 unfold h8;rw[all_cons,Bool.and_eq_true];refine⟨p hs,all_eq_true.mpr fun o ho=>?_⟩;obtain⟨r,_,rfl⟩:=mem_map.mp ho;exact p r
theorem qR {x:Str}{w:Nat}{T:List Str}(ho:ft x)(hT:cy x w T 0):∀(n i:Nat),i+n=x.cps.size→(T.getD i "").cps.size≤n+2*((n+62) / 63)
 | 0,i,h=>by
  rw[show i=x.cps.size by omega,hT.last];have:("":Str).cps.size=0:=by decide +kernel
  omega
 | n+1,i,h=>by
  obtain⟨p,hp,e,b⟩:=hT.best i (Nat.zero_le _) (by omega);have m1:1≤min 63 (n+1):=by omega
  have q:=(b _ (in1 (x:=x) (w:=w) (a:=i) (m:=min 63 (n+1)) m1 (by omega))).1;have ih:=qR ho hT (n+1-min 63 (n+1)) (i+min 63 (n+1)) (by omega);have pi:=(fI ho (show i<x.cps.size by omega) (in1 (x:=x) (w:=w) (a:=i) (m:=min 63 (n+1)) m1 (by omega))).2.2.2.1;rw[e];rw[iZ (at_:=i) (p:=(k9 x i (min 63 (n+1)),min 63 (n+1)))] at q;dsimp only at q pi;omega
theorem tu {x:Str}{w:Nat}{T:List Str}(ho:ft x)(hT:cy x w T 0):(T.getD 0 "").cps.size≤x.cps.size+2*((x.cps.size+62) / 63):=qR ho hT x.cps.size 0 (by omega)
noncomputable abbrev yE (sc d2 d3 d4 d5 d6:Option D):a8:=[sc,some (.mr 0),d2,d3,d4,d5,d6]
theorem zB {sc d3 d4 d5 d6:Option D}{j:Int}(t:cN l au M):∃(most:Int) (M':ax),1≤most∧most≤40∧cN l au M'∧g2 bx (cL (aa (gC (.int 12)) (aa (gC (.int 40)) ah))) (aL lu (aa (jQ (g2 (bc false) (af 2) (gC (.int 0))) (g2 (bc false) (ay 2 av (aa (af 1) (aa (gC (.int 6)) ah))) (gC (.int 0)))) ah)) (yE sc (some (.int j)) d3 d4 d5 d6) M=.ok (.int most) M':=by
 have e0:g2 (bc false) (af 2) (gC (.int 0)) (yE sc (some (.int j)) d3 d4 d5 d6) M=.ok (.bl (decide (j=0))) M:=ao (x:=.int j) (M1:=M) rfl (y:=.int 0) (M2:=M) rfl (jG j 0 M);have el:∀N:ax,cL (aa (gC (.int 12)) (aa (gC (.int 40)) ah)) (yE sc (some (.int j)) d3 d4 d5 d6) N=.ok (.lst [.int 12,.int 40]) N:=fun N=>fh rfl
 have fin:∀(N:ax) (b:Bool),jQ (g2 (bc false) (af 2) (gC (.int 0))) (g2 (bc false) (ay 2 av (aa (af 1) (aa (gC (.int 6)) ah))) (gC (.int 0))) (yE sc (some (.int j)) d3 d4 d5 d6) M=.ok (.bl b) N→g2 bx (cL (aa (gC (.int 12)) (aa (gC (.int 40)) ah))) (aL lu (aa (jQ (g2 (bc false) (af 2) (gC (.int 0))) (g2 (bc false) (ay 2 av (aa (af 1) (aa (gC (.int 6)) ah))) (gC (.int 0)))) ah)) (yE sc (some (.int j)) d3 d4 d5 d6) M=.ok (.int (if b then 40 else 12)) N:=fun N b hb=>by
  cases b with
  | true=>exact ao (el M) (dq hb (o:=.ok (.int 1) N) rfl) (im (xs:=[.int 12,.int 40]) (k:=1) rfl)
  | false=>exact ao (el M) (dq hb (o:=.ok (.int 0) N) rfl) (im (xs:=[.int 12,.int 40]) (k:=0) rfl)
 by_cases h:j=0
 ·obtain⟨f,M1,a1,b1,t1,e1⟩:=dg (many:=6) (by decide) (bM (by decide) (by decide)) t;refine⟨_,M1,?_,?_,t1,fin M1 (decide (f=0)) ?_⟩
  ·split <;> decide
  ·split <;> decide
  ·unfold jQ;rw[e0,ai,decide_eq_true h];exact ao (eO (x:=.mr 0) (M1:=M) rfl (y:=.int 6) (M2:=M) rfl e1) (y:=.int 0) (M2:=M1) rfl (jG f 0 M1)
 ·refine⟨_,M,?_,?_,t,fin M false ?_⟩
  ·decide
  ·decide
  ·unfold jQ;rw[e0,ai,decide_eq_false h]
theorem wg {sc d3 d4 d5 d6:Option D}{j:Int}(hp:au.all cS=true)(t:cN l au M):∃d3' d4' d5' d6' rest' M',rest'.all cS=true∧cN l rest' M'∧kP (yE sc (some (.int j)) d3 d4 d5 d6) M=.ok (.nx (yE sc (some (.int j)) d3' d4' d5' d6')) M':=by
 obtain⟨most,M0,o1,o2,t0,e0⟩:=zB (sc:=sc) (d3:=d3) (d4:=d4) (d5:=d5) (d6:=d6) (j:=j) t;obtain⟨rs,w,M1,w1,w2,r1,r2,hrs,t1,e1⟩:=xm o1 o2 hp t0;have p1:M1.all cS=true:=by
  obtain⟨i,c,_,rfl⟩:=t1;exact rq hp
 obtain⟨T,hT,e2⟩:=uc (M:=M1) hrs (fun z=>by rw[z] at r1;cases r1) (by omega) (by omega) p1;obtain⟨hP,e3⟩:=wa (M:=M1) hrs r1 (by omega) (by omega) hT p1;have rd:=wC hrs r1 (by omega) w1 (by omega) hP;have ho:ft (bz rs):=kE (iY hrs);obtain⟨ou,zu⟩:=qD ho hP;have sx:(bz rs).cps.size=w*rs.length:=by unfold bz;rw[aS,gw hrs]
 have s16:(bz rs).cps.size≤1600:=by rw[sx];exact Nat.mul_le_mul (show w≤40 by omega) (show rs.length≤40 by omega)
 have zt:=tu ho hT;have hw:jW (w:Int):=⟨by omega,by omega⟩;have hl:jW (rs.length:Int):=⟨by omega,by omega⟩;have okx:ft (ag [(w:Int),(rs.length:Int)]++T.getD 0 ""):=fun c hc=>by
  rw[bQ] at hc;rcases mem_append.mp hc with hc|hc
  ·refine kE (fun k hk=>?_) c hc;rcases mem_cons.mp hk with rfl|hk
   ·exact hw
   ·rw[mem_singleton.mp hk];exact hl
  ·exact ou c hc
 have zx:(ag [(w:Int),(rs.length:Int)]++T.getD 0 "").cps.size≤4000:=by
  rw[bf,aS];show 2+_≤_;omega
 generalize ag [(w:Int),(rs.length:Int)]++T.getD 0 ""=x at *;obtain⟨hs,u1⟩:=vI (M:=M1) okx zx rd;cases rs with
 | nil=>cases r1
 | cons r rs=>
 obtain⟨hs2,u2⟩:=vI (M:=M1++h8 hs ((r++[0])::rs)) okx zx rd;refine⟨some (.lst (aj (r::rs))),some (.lst (aj (r::rs))),some (.str x),some (.lst (dQ (M1.length+1) (r::rs).length)),au++h8 hs ((r++[0])::rs)++h8 hs2 (r::rs),M1++h8 hs ((r++[0])::rs)++h8 hs2 (r::rs),?_,k8 (k8 t1 _) _,?_⟩
 ·rw[all_append,all_append,hp,rO,rO];rfl
 have k3:∀b:GS,aq (aA 3 (ay 2 de (aa (af 1) (aa (g2 bx (cL (aa (gC (.int 12)) (aa (gC (.int 40)) ah))) (aL lu (aa (jQ (g2 (bc false) (af 2) (gC (.int 0))) (g2 (bc false) (ay 2 av (aa (af 1) (aa (gC (.int 6)) ah))) (gC (.int 0)))) ah))) ah)))) b (yE sc (some (.int j)) d3 d4 d5 d6) M=b (yE sc (some (.int j)) (some (.lst (aj (r::rs)))) d4 d5 d6) M1:=fun b=>aB (aD (eO (x:=.mr 0) (M1:=M) rfl e0 e1))
 have cp:aR (bi (af 3)) bt mU aH (yE sc (some (.int j)) (some (.lst (aj (r::rs)))) d4 d5 d6) M1=.ok (.lst (aj (r::rs))) M1:=by
  refine fA (ds:=aj (r::rs)) (M1:=M1) rfl ?_ (by unfold aj;rw[length_map];omega);unfold aj;exact f7 _ fun r hr=>rfl
 have k4:∀b:GS,aq (aA 4 (aR (bi (af 3)) bt mU aH)) b (yE sc (some (.int j)) (some (.lst (aj (r::rs)))) d4 d5 d6) M1=b (yE sc (some (.int j)) (some (.lst (aj (r::rs)))) (some (.lst (aj (r::rs)))) d5 d6) M1:=fun b=>aB (aD cp)
 have k5:∀b:GS,aq (aA 5 (ay 1 iQ (aa (af 4) ah))) b (yE sc (some (.int j)) (some (.lst (aj (r::rs)))) (some (.lst (aj (r::rs)))) d5 d6) M1=b (yE sc (some (.int j)) (some (.lst (aj (r::rs)))) (some (.lst (aj (r::rs)))) (some (.str x)) d6) M1:=fun b=>aB (aD (fw (x:=.lst (aj (r::rs))) (M1:=M1) rfl e2))
 have q1:(en (cZ (fM (iF "str" (af 5)))) (en (aO (g2 (bc true) (af 5) (ay 1 dU (aa (af 3) ah)))) (aO (g2 (uJ true) (af 4) (af 3))))) (yE sc (some (.int j)) (some (.lst (aj (r::rs)))) (some (.lst (aj (r::rs)))) (some (.str x)) d6) M1=.ok false M1:=
  gx (x:=false) (y:=false) (iW (x:=true) (kh rfl)) fun _=>gx (x:=false) (y:=false) (a5 (ao (x:=.str x) (M1:=M1) rfl (fw (x:=.lst (aj (r::rs))) (M1:=M1) rfl e3) ((Hv okx okx M1).trans (by rw[decide_eq_true rfl];rfl)))) fun _=>a5 (ao (x:=.lst (aj (r::rs))) (M1:=M1) rfl (y:=.lst (aj (r::rs))) (M2:=M1) rfl (km (i7 _ _) (i7 _ _)))
 have k6:∀b:GS,aq (aA 6 (ay 1 dn (aa (af 5) ah))) b (yE sc (some (.int j)) (some (.lst (aj (r::rs)))) (some (.lst (aj (r::rs)))) (some (.str x)) d6) M1=b (yE sc (some (.int j)) (some (.lst (aj (r::rs)))) (some (.lst (aj (r::rs)))) (some (.str x)) (some (.lst (dQ (M1.length+1) (r::rs).length)))) (M1++h8 hs (r::rs)):=fun b=>aB (aD (fw (x:=.str x) (M1:=M1) rfl u1))
 have ua:=Aa (M:=M1) (hs:=hs) (rs:=r::rs);have n1:=qY (M:=M1++h8 hs (r::rs)) (n:=M1.length+1) (rs:=r::rs) ua;have q2:(en (aO (g2 (uJ true) (af 6) (af 3))) (en (cZ (fM (iF "list" (af 6)))) (cZ (fM (aL jS (aa (aR (bi (af 6)) bt nD aH) ah)))))) (yE sc (some (.int j)) (some (.lst (aj (r::rs)))) (some (.lst (aj (r::rs)))) (some (.str x)) (some (.lst (dQ (M1.length+1) (r::rs).length)))) (M1++h8 hs (r::rs))=.ok false (M1++h8 hs (r::rs)):=by
  have al:=uS (gi:=bi (af 6)) (ge:=nD) (ρ:=yE sc (some (.int j)) (some (.lst (aj (r::rs)))) (some (.lst (aj (r::rs)))) (some (.str x)) (some (.lst (dQ (M1.length+1) (r::rs).length)))) (M:=M1++h8 hs (r::rs)) (xs:=dQ (M1.length+1) (r::rs).length) (p:=fun _=>true) rfl (by unfold dQ;rw[length_map,length_range];omega) (fun d hd=>by
   unfold dQ at hd;obtain⟨k,hk,rfl⟩:=mem_map.mp hd;have hk:=mem_range.mp hk;have:=ua k _ (getElem?_eq_getElem hk);show(match wb (.mr (M1.length+1+k)) (M1++h8 hs (r::rs)) with|some t=>aI.ok (D.bl (oB t "list")) (M1++h8 hs (r::rs))|none=>.bad)=_;have ty:wb (.mr (M1.length+1+k)) (M1++h8 hs (r::rs))=some "list":=by
    show(match (M1++h8 hs (r::rs))[M1.length+1+k]? with|some (MO.lst _)=>some "list"|_=>none)=_;rw[this];rfl
   rw[ty];rfl)
  have at_:(dQ (M1.length+1) (r::rs).length).all (fun _=>true)=true:=all_eq_true.mpr fun _ _=>rfl
  rw[at_] at al;exact gx (x:=false) (y:=false) (a5 (ao (x:=.lst (dQ (M1.length+1) (r::rs).length)) (M1:=M1++h8 hs (r::rs)) rfl (y:=.lst (aj (r::rs))) (M2:=M1++h8 hs (r::rs)) rfl (km n1 (i7 _ _)))) fun _=>gx (x:=false) (y:=false) (iW (x:=true) (kh rfl)) fun _=>iW (x:=true) (kh al)
 have k7:∀b:GS,aq (cD (fK (g2 bx (af 6) (gC (.int 0))) (gC (.int 0)))) b (yE sc (some (.int j)) (some (.lst (aj (r::rs)))) (some (.lst (aj (r::rs)))) (some (.str x)) (some (.lst (dQ (M1.length+1) (r::rs).length)))) (M1++h8 hs (r::rs))=b (yE sc (some (.int j)) (some (.lst (aj (r::rs)))) (some (.lst (aj (r::rs)))) (some (.str x)) (some (.lst (dQ (M1.length+1) (r::rs).length)))) (M1++h8 hs ((r++[0])::rs)):=fun b=>by
  have a0:=ua 0 r rfl;rw[Nat.add_zero] at a0;have us:=B5 (M:=M1) (hs:=hs) (r:=r) (r':=r++[0]) (rs:=rs);have rl:=(hrs r mem_cons_self).1;generalize M1++h8 hs (r::rs)=N at *;refine aB (fW (d:=.non) ?_);unfold fK;rw[ao (f:=bx) (x:=.lst (dQ (M1.length+1) (r::rs).length)) (M1:=N) rfl (y:=.int 0) (M2:=N) rfl (o:=.ok (.mr (M1.length+1)) N) (im (xs:=dQ (M1.length+1) (r::rs).length) (k:=0) (by rw[show(r::rs).length=rs.length+1 from rfl,ot];rfl)),ai];dsimp only;rw[a0];show lB (M1.length+1) (.int 0) N=_;unfold lB;rw[a0];show(if(r.map D.int).length<sizeLine then aI.ok D.non (N.set (M1.length+1) (.lst (r.map D.int++[.int 0]))) else .bad)=_;have ll:(r.map D.int).length<sizeLine:=show(r.map D.int).length+1≤sizeLine from ba (by rw[length_map];omega)
  rw[if_pos ll,←us];unfold fF;rw[map_append];rfl
 have q3:aO (g2 (uJ true) (ay 1 dn (aa (af 5) ah)) (af 3)) (yE sc (some (.int j)) (some (.lst (aj (r::rs)))) (some (.lst (aj (r::rs)))) (some (.str x)) (some (.lst (dQ (M1.length+1) (r::rs).length)))) (M1++h8 hs ((r++[0])::rs))=.ok false (M1++h8 hs ((r++[0])::rs)++h8 hs2 (r::rs)):=by
  have ub:=Aa (M:=M1++h8 hs ((r++[0])::rs)) (hs:=hs2) (rs:=r::rs);generalize M1++h8 hs ((r++[0])::rs)=N at *;have n2:=qY (M:=N++h8 hs2 (r::rs)) (n:=N.length+1) (rs:=r::rs) ub;exact a5 (ao (fw (x:=.str x) (M1:=N) rfl u2) (y:=.lst (aj (r::rs))) (M2:=N++h8 hs2 (r::rs)) rfl (km n2 (i7 _ _)))
 unfold kP;rw[k3,k4,k5,aB ((i5 q1).trans rfl),k6,aB ((i5 q2).trans rfl),k7];exact(i5 q3).trans rfl
end
theorem law_true (ns:List Int)(hl:ns.length≤63):∃M',rT [.ro (ns.map D.int)] []=.ok (.bl true) M':=by
 generalize hsc:D.ro (ns.map D.int)=sc;have l3:(3:Nat)≤sizeLine:=ba (by decide);have t0:cN ns [] [tp ns 0 0]:=⟨0,0,by decide,rfl⟩;have s1:∀b:GS,aq (aA 1 (jX (aa (aL gO (aa (af 0) ah)) (aa (gC (.int 0)) (aa (gC (.int 0)) ah))))) b [some sc,none,none,none,none,none,none] []=b (yE (some sc) none none none none none) [tp ns 0 0]:=fun b=>by
  subst hsc;refine aB (aD (d:=.mr 0) (M1:=[tp ns 0 0]) ?_);show(if [D.lst (ns.map D.int),.int 0,.int 0].length≤sizeLine then aI.ok (D.mr 0) [MO.lst [D.lst (ns.map D.int),.int 0,.int 0]] else .bad)=_;rw[if_pos (show [D.lst (ns.map D.int),.int 0,.int 0].length≤sizeLine from l3)];rfl
 obtain⟨ρ',N,_,ef⟩:=wG (ds0:=aT 0 3) (s:=cr 2) (body:=kP) (W:=fun _ ρ N=>∃(d2 d3 d4 d5 d6:Option D) (au:ax),ρ=yE (some sc) d2 d3 d4 d5 d6∧au.all cS=true∧cN ns au N) (aT 0 3) 0 (fun j dd hd ρ N hW=>by
  obtain⟨d2,d3,d4,d5,d6,au,rfl,hp,t⟩:=hW;obtain⟨i,rfl⟩:∃i:Int,dd=.int i:=by
   unfold aT at hd;rw[getElem?_map] at hd;obtain⟨i,_,e⟩:=Option.map_eq_some_iff.mp hd;exact⟨_,e.symm⟩
  obtain⟨d3',d4',d5',d6',rest',N',hp',t',e⟩:=wg (sc:=some sc) (j:=i) (d3:=d3) (d4:=d4) (d5:=d5) (d6:=d6) hp t;exact⟨_,_,N',rfl,e,some (.int i),d3',d4',d5',d6',rest',rfl,hp',t'⟩) (yE (some sc) none none none none none) [tp ns 0 0] ⟨none,none,none,none,none,[],rfl,rfl,t0⟩
 refine⟨N,?_⟩;show aZ (qX [some sc,none,none,none,none,none,none] [])=_;unfold qX;rw[s1];exact congrArg aZ ((aB (jr (t:=⟨aT 0 3,none⟩) (iN (n:=3) (aX rfl rfl) (by decide)) ef)).trans (iA rfl))
end K38
theorem PySem.Challenge.cw_glowrow_k38_packings_least_holds : PySem.Challenge.rw_glowrow_k38_packings_least.Holds :=
 K38.pre K38.law_true
