import PyProof.Rows.All
import Wide.All
import KE.KNestM
import OpenK.KOwn
import OpenK.KRaise
import KE.KIsAll
import KE.KTypeName
import Wide.FinOn
import Lean
import PyProof.EqAt
import PyProof.EqKinds
import PyProof.TupleCall
import PyProof.Draws
import PyProof.EnumMake
import KE.KLam
import KE.KMinKey
import PyProof.StrCalls2
import PyProof.Rows.StrIndexOr
import PyProof.CollectIter
import PyProof.ListStr
import KE.KDictLaws
import PyProof.P3Eq
import KE.KSortTup
import PySem.Challenge.RW_glowrow_k12_refused_in_order
set_option Elab.async false
set_option linter.all false
set_option maxRecDepth 100000
set_option maxHeartbeats 4000000
open Option renaming some → Z,none → Y
noncomputable section
namespace L2
open PySem PySem.Spec PyProof.Rows List
abbrev eC:=Sum Int Str
def vW:eC->Value->Bool
 | .inl k,v=>Value.isInt k v
 | .inr x,v=>Value.isStrOf x v
def Su (w:World):eC->Int
 | .inl k=>hashInt k
 | .inr x=>hashStr w x
theorem dq:∀{k:eC} {v:Value},vW k v=true->(∃i t,k=Sum.inl i/\v=Value.int i t)\/(∃x t,k=Sum.inr x/\v=Value.str x t)
 | .inl i,v,h=>by
  obtain⟨t,e⟩:=Value.isInt_shape (k:=i) (v:=v) h;exact .inl ⟨i,t,rfl,e⟩
 | .inr x,v,h=>by
  obtain⟨t,e⟩:=Value.isStrOf_shape (x:=x) (v:=v) h;exact .inr ⟨x,t,rfl,e⟩
def BX (i:Int)(t:Tok):vW (.inl i) (.int i t)=true:=by simp[vW,Value.isInt]
def CN (x:Str)(t:Tok):vW (.inr x) (.str x t)=true:=by simp[vW,Value.isStrOf]
def NG (a b:Int):decide ((Sum.inl a:eC)=Sum.inl b)=(a==b):=by
 by_cases e:a=b
 ·subst e;simp
 ·have h:¬(Sum.inl a:eC)=Sum.inl b:=λq=>e (Sum.inl.inj q)
  rw[decide_eq_false h];exact(beq_eq_false_iff_ne.mpr e).symm
def NN (a b:Str):decide ((Sum.inr a:eC)=Sum.inr b)=decide (a=b):=by
 by_cases e:a=b
 ·subst e;simp
 ·have h:¬(Sum.inr a:eC)=Sum.inr b:=λq=>e (Sum.inr.inj q)
  rw[decide_eq_false h,decide_eq_false e]
def Lj (a:Int)(b:Str):decide ((Sum.inl a:eC)=Sum.inr b)=false:=decide_eq_false (λq=>nomatch q)
def Lq (a:Str)(b:Int):decide ((Sum.inr a:eC)=Sum.inl b)=false:=decide_eq_false (λq=>nomatch q)
def cT (prog:Program)(w:World):PySem.KeyKind prog w eC where
 is:=vW
 hash:=Su w
 inj:=λv a b ha hb=>by
  rcases dq ha with⟨i,t,rfl,rfl⟩|⟨x,t,rfl,rfl⟩
  ·rcases dq hb with⟨j,u,rfl,e⟩|⟨y,u,rfl,e⟩
   ·injection e with e1 _;rw[e1]
   ·exact nomatch e
  ·rcases dq hb with⟨j,u,rfl,e⟩|⟨y,u,rfl,e⟩
   ·exact nomatch e
   ·injection e with e1 _;rw[e1]
 byValue:=λk v h=>by
  rcases dq h with⟨i,t,rfl,rfl⟩|⟨x,t,rfl,rfl⟩ <;> rfl
 pyHash:=λhv h=>by
  rcases dq hv with⟨i,t,rfl,rfl⟩|⟨x,t,rfl,rfl⟩
  ·exact wpAny_pyHash_int h
  ·exact wpAny_pyHash_str h
 eqBool:=λhu hv h=>by
  rcases dq hu with⟨i,t,rfl,rfl⟩|⟨x,t,rfl,rfl⟩
  ·rcases dq hv with⟨j,u,rfl,rfl⟩|⟨y,u,rfl,rfl⟩
   ·rw[NG] at h;exact wpAny_eqBool_int h
   ·rw[Lj] at h;exact SeqAt.EqAt.int_str i t y u _ _ _ _ h
  ·rcases dq hv with⟨j,u,rfl,rfl⟩|⟨y,u,rfl,rfl⟩
   ·rw[Lq] at h;exact SeqAt.EqAt.str_int x t j u _ _ _ _ h
   ·rw[NN] at h;exact wpAny_eqBool_str h
 «strs»:=λk x t v h=>by
  rcases dq h with⟨i,u,rfl,e⟩|⟨y,u,rfl,e⟩
  ·exact nomatch e
  ·injection e with e1 _
   subst e1;cases v <;> rfl
def xL (prog:Program)(w:World)(i:Int)(t:Tok):(cT prog w).is (.inl i) (.int i t)=true:=BX i t
def yk (prog:Program)(w:World)(x:Str)(t:Tok):(cT prog w).is (.inr x) (.str x t)=true:=CN x t
inductive V where
 | non|bl (b:Bool)|int (i:Int)|str (x:Str)|byt (b:Array UInt8)|flt (b:UInt64)|ref (a:Addr)|ty (n:String)
 deriving DecidableEq
def RelV:V->Value->Prop
 | .non,u=>u=Value.none
 | .bl b,u=>u=Value.bool b
 | .int i,u=>∃t,u=Value.int i t
 | .str x,u=>∃t,u=Value.str x t
 | .byt b,u=>∃t,u=Value.bytes b t
 | .flt b,u=>∃t,u=Value.float b t
 | .ref a,u=>u=Value.ref a
 | .ty n,u=>u=Value.type n
abbrev ba:List V->List Value->Prop:=Paired RelV
variable{xs:List V}{us:List Value}
def ba.length (r:ba xs us):xs.length=us.length:=Paired.length r
theorem ba.get:∀{xs:List V} {us:List Value} {i:Nat} {x:V},ba xs us->xs[i]?=Z x->∃u,us[i]?=Z u/\RelV x u
 | _,_,_,_,.nil,e=>by simp at e
 | _,_,0,_,.cons r _,e=>by simp at e;subst e;exact⟨_,rfl,r⟩
 | _,_,i+1,x,.cons _ t,e=>by
  obtain⟨u,h1,h2⟩:=ba.get (i:=i) (x:=x) t (by simpa using e);exact⟨u,by simpa using h1,h2⟩
variable{u:Value}
theorem ba.set {x:V}(r:RelV x u):∀{xs:List V} {us:List Value} (i:Nat),ba xs us->ba (xs.set i x) (us.set i u)
 | _,_,_,.nil=>.nil
 | _,_,0,.cons _ t=>.cons r t
 | _,_,i+1,.cons q t=>.cons q (ba.set r i t)
theorem ba.append:∀{xs ys:List V} {us ws:List Value},ba xs us->ba ys ws->ba (xs++ys) (us++ws)
 | _,_,_,_,.nil,s=>s
 | _,_,_,_,.cons r t,s=>.cons r (ba.append t s)
theorem ba.take:∀{xs:List V} {us:List Value} (n:Nat),ba xs us->ba (xs.take n) (us.take n)
 | _,_,0,_=>.nil
 | _,_,_+1,.nil=>.nil
 | _,_,n+1,.cons r t=>.cons r (ba.take n t)
theorem ba.drop:∀{xs:List V} {us:List Value} (n:Nat),ba xs us->ba (xs.drop n) (us.drop n)
 | _,_,0,r=>r
 | _,_,_+1,.nil=>.nil
 | _,_,n+1,.cons _ t=>ba.drop n t
def lS:Option V->Option Value->Prop
 | some v,Z u=>RelV v u
 | none,Y=>True
 | _,_=>False
def KV {κ:Type}:List (κ×V)->List (κ×Value)->Prop:=Paired λ(p:κ×V) (q:κ×Value)=>p.1=q.1/\RelV p.2 q.2
def kV:eC->V
 | .inl i=>.int i
 | .inr x=>.str x
inductive HO where
 | lst (xs:List V)
 | tup (xs:List V)
 | dK (kvs:List (eC×V))|dT (kvs:List (List eC×V))
 | set (S:Int->Bool) (n:Nat)
 | ins (C dx:Addr) (fs:List (Str×V))
 | own (x:Addr)
 | xd (fs:List (Str×V))
 | met (f x:Addr)
 | rng (lo hi:Int)
 | frz (o:Obj) (u:HO)
 | tbl (ps:Array Value)
 | ext (φ:Heap->Prop)
abbrev Hp:=Addr->Option HO
def cx (H:Hp)(a:Addr)(o:HO):Hp:=λb=>if b=a then Z o else H b
variable{H:Hp}{a:Addr}{o:HO}
def bJ :cx H a o a=Z o:=by unfold cx;rw[if_pos rfl]
variable{b:Addr}
def aB (h:b≠a):cx H a o b=H b:=by unfold cx;rw[if_neg h]
def xR {u:HO}(h:H a=Z o)(h':H b=Z u)(d:o≠u):a≠b:=by
 intro e;subst e;rw[h] at h';exact d (Option.some.inj h')
def bV (h:H a=Z o)(h':H b=Y):a≠b:=by
 intro e;subst e;rw[h] at h';cases h'
section
variable (P:Program)(w:World)
def cX (H:Hp)(h:Heap)(a:Addr):HO->Prop
 | .lst xs=>xs.length<=sizeLine/\∃(its:List Value) (n:Nat),ba xs its/\h.get? a=Z {cls:=.type "list",data:=.seq its.toArray n}
 | .tup xs=>xs.length<=sizeLine/\∃its:List Value,ba xs its/\IsTup h a its.toArray
 | .dK kvs=>kvs.length<=sizeLine/\(a==sysModules)=false/\∃vs,KV kvs vs/\h.DictOf (cT P w) a vs
 | .dT kvs=>kvs.length<=sizeLine/\(a==sysModules)=false/\∃xs:List (List eC×Addr×Value),
   Paired (λ(p:List eC×V) (q:List eC×Addr×Value)=>p.1=q.1/\H q.2.1=Z (.tup (p.1.map kV))/\RelV p.2 q.2.2) kvs xs/\
   ∃o es ep,h.get? a=Z o/\o.ExactDict/\o.data=.dict es ep/\es.toList=xs.map (entryOfKey (tupleKind (cT P w)))/\(xs.map (·.1)).Nodup
 | .set S n=>h.SetOf (intKind P w) a S n
 | .ins C dx fs=>H dx=Z (.own a)/\fs.length<=1000/\dx≠a/\h.get? a=Z (W.instObj C dx)/\
   ∃mA,h.Ns1 dx mA/\(∀f,lS (fs.lookup f) (mA f))/\PySem.Within mA (fs.map (·.1))
 | .own _=>∃o,h.get? a=Z o
 | .xd fs=>∃mA,h.Ns1 a mA/\∀f,lS (fs.lookup f) (mA f)
 | .rng lo hi=>∃t u v,h.get? a=Z {cls:=.type "range",data:=.fields #[.int lo t,.int hi u,.int 1 v]}
 | .frz o u=>h.get? a=Z o/\cX H h a u
 | .tbl ps=>h.get? a=Z {cls:=.none,data:=.fields ps}
 | .met f x=>h.get? a=Z (W.methodObj (.ref f) (.ref x))
 | .ext φ=>φ h/\(∃o,h.get? a=Z o)/\∀h1 h2:Heap,φ h1->(∀o,h1.get? a=Z o->h2.get? a=Z o)->φ h2
def mz (H:Hp)(h:Heap):Prop:=∀a o,H a=Z o->cX P w H h a o
end
section
variable {P:Program}{w:World}{H H':Hp}{h h':Heap}{a:Addr}{o:HO}
def cX.lt (x:cX P w H h a o):a<h.objs.size:=by
 cases o with
 | lst xs=>obtain⟨_,_,_,_,e⟩:=x;exact Heap.lt_size e
 | tup xs=>obtain⟨_,_,_,p⟩:=x;exact p.lt
 | dK kvs=>obtain⟨_,_,_,_,o,_,_,e,_⟩:=x;exact Heap.lt_size e
 | dT kvs=>obtain⟨_,_,_,_,o,_,_,e,_⟩:=x;exact Heap.lt_size e
 | set S n=>obtain⟨o,_,_,_,e,_⟩:=x;exact Heap.lt_size e
 | ins C dx fs=>obtain⟨_,_,_,e,_⟩:=x;exact Heap.lt_size e
 | own y=>obtain⟨_,e⟩:=x;exact Heap.lt_size e
 | xd fs=>obtain⟨_,⟨_,_,_,e,_⟩,_⟩:=x;exact Heap.lt_size e
 | rng lo hi=>obtain⟨_,_,_,e⟩:=x;exact Heap.lt_size e
 | frz ob u=>obtain⟨e,_⟩:=x;exact Heap.lt_size e
 | tbl ps=>exact Heap.lt_size (show h.get? a=Z _ from x)
 | met f y=>exact Heap.lt_size (show h.get? a=Z _ from x)
 | ext φ=>obtain⟨_,⟨_,e⟩,_⟩:=x;exact Heap.lt_size e
theorem Paired.mapP {α β:Type}{F G:α->β->Prop}:∀{l₁:List α} {l₂:List β},Paired F l₁ l₂->(∀a b,F a b->G a b)->Paired G l₁ l₂
 | _,_,.nil,_=>.nil
 | _,_,.cons r t,f=>.cons (f _ _ r) (Paired.mapP t f)
def cX.stay (x:cX P w H h a o)(k:∀b u,(b=a\/H b=Z (.own a))->h.get? b=Z u->h'.get? b=Z u)
  (ho:∀b,H b=Z (.own a)->H' b=Z (.own a)) (ht:∀b xs,H b=Z (.tup xs)->H' b=Z (.tup xs)):cX P w H' h' a o:=by
 induction o with
 | lst xs=>obtain⟨z,its,n,r,e⟩:=x;exact⟨z,its,n,r,k _ _ (.inl rfl) e⟩
 | tup xs=>obtain⟨z,its,r,ob,e,c⟩:=x;exact⟨z,its,r,ob,k _ _ (.inl rfl) e,c⟩
 | dK kvs=>obtain⟨z,y,vs,r,ob,es,ep,e,c⟩:=x;exact⟨z,y,vs,r,ob,es,ep,k _ _ (.inl rfl) e,c⟩
 | dT kvs=>
  obtain⟨z,y,xs,r,ob,es,ep,e,c⟩:=x;exact⟨z,y,xs,Paired.mapP r λp q z=>⟨z.1,ht _ _ z.2.1,z.2.2⟩,ob,es,ep,k _ _ (.inl rfl) e,c⟩
 | set S n=>obtain⟨ob,es,ep,t,e,c⟩:=x;exact⟨ob,es,ep,t,k _ _ (.inl rfl) e,c⟩
 | ins C dx fs=>
  obtain⟨d,z,ne,e,mA,⟨od,es,ep,e2,c⟩,r⟩:=x;exact⟨ho _ d,z,ne,k _ _ (.inl rfl) e,mA,⟨od,es,ep,k _ _ (.inr d) e2,c⟩,r⟩
 | own y=>obtain⟨ob,e⟩:=x;exact⟨ob,k _ _ (.inl rfl) e⟩
 | xd fs=>obtain⟨mA,⟨od,es,ep,e,c⟩,r⟩:=x;exact⟨mA,⟨od,es,ep,k _ _ (.inl rfl) e,c⟩,r⟩
 | rng lo hi=>obtain⟨t,u,v,e⟩:=x;exact⟨t,u,v,k _ _ (.inl rfl) e⟩
 | frz ob u ih=>obtain⟨e,q⟩:=x;exact⟨k _ _ (.inl rfl) e,ih q⟩
 | tbl ps=>
  have e:h.get? a=Z {cls:=.none,data:=.fields ps}:=x;show h'.get? a=Z {cls:=.none,data:=.fields ps};exact k a _ (.inl rfl) e
 | met f y=>
  have e:h.get? a=Z (W.methodObj (.ref f) (.ref y)):=x;show h'.get? a=Z (W.methodObj (.ref f) (.ref y));exact k a _ (.inl rfl) e
 | ext φ=>obtain⟨p,⟨o,e⟩,st⟩:=x;exact⟨st _ _ p λo q=>k _ _ (.inl rfl) q,⟨o,k _ _ (.inl rfl) e⟩,st⟩
def mz.lt (x:mz P w H h)(e:H a=Z o):a<h.objs.size:=(x a o e).lt
def mz.fresh (x:mz P w H h)(e:h.objs.size<=a):H a=Y:=by
 cases q:H a with
 | none=>rfl
 | some u=>exact absurd (Nat.lt_of_lt_of_le (x.lt q) e) (Nat.lt_irrefl _)
def mz.kept (x:mz P w H h)(k:∀b u,h.get? b=Z u->h'.get? b=Z u):mz P w H h':=λa o e=>
 (x a o e).stay (λb u _ q=>k b u q) (λ_ q=>q) λ_ _ q=>q
def mz.laid (x:mz P w H h)(k:∀b u,h.get? b=Z u->h'.get? b=Z u)(hp:h.objs.size<=a)(new:cX P w (cx H a o) h' a o):mz P w (cx H a o) h':=λb u e=>by
 have hn:=x.fresh hp
 by_cases hb:b=a
 ·subst hb;rw[bJ] at e;cases e;exact new
 ·rw[aB hb] at e;exact(x b u e).stay (λc v _ q=>k c v q) (λc q=>by rw[aB (bV q hn)];exact q) λc xs q=>by rw[aB (bV q hn)];exact q
end
def Rd (H:Hp)(a:Addr)(u:HO):Prop:=H a=Z u\/∃o,H a=Z (.frz o u)
variable{P:Program}{w:World}{h:Heap}
def Rd.ok {u:HO}(r:Rd H a u)(x:mz P w H h):cX P w H h a u:=by
 rcases r with r|⟨o,r⟩
 ·exact x a u r
 ·obtain⟨_,q⟩:=x a _ r;exact q
def O7:Option HO->Prop
 | some (.lst _)=>True
 | some (.dK _)=>True
 | some (.dT _)=>True
 | some (.set _ _)=>True
 | some (.ins _ _ _)=>True
 | some (.ext _)=>True
 | _=>False
section
variable {P:Program}{w:World}{H:Hp}{h h':Heap}{x e:Addr}{o':HO}
def mz.write (ok:mz P w H h)(mu:O7 (H x))(he:e=x\/H e=Z (.own x))(k:∀b u,b≠e->h.get? b=Z u->h'.get? b=Z u)(heo:∃u,h'.get? e=Z u)
  (new:cX P w (cx H x o') h' x o'):mz P w (cx H x o') h':=λb u q=>by
 have nown:∀c y,H c=Z (.own y)->c≠x:=λc y r z=>by subst z;rw[r] at mu;exact mu
 have ntup:∀c xs,H c=Z (.tup xs)->c≠x:=λc xs r z=>by subst z;rw[r] at mu;exact mu
 by_cases hb:b=x
 ·subst hb;rw[bJ] at q;cases q;exact new
 ·rw[aB hb] at q
  by_cases hbe:b=e
  ·have q':H b=Z (.own x):=by
    rcases he with z|z
    ·exact absurd (hbe.trans z) hb
    ·rw[hbe];exact z
   rw[q] at q';cases q';obtain⟨v,hv⟩:=heo;exact⟨v,by rw[hbe];exact hv⟩
  ·refine(ok b u q).stay (λc v hc r=>k c v ?_ r) (λc r=>by rw[aB (nown c b r)];exact r) λc xs r=>by rw[aB (ntup c xs r)];exact r
   rcases hc with rfl|hc
   ·exact hbe
   ·rintro rfl;rcases he with z|z
    ·exact nown c b hc z
    ·rw[hc] at z;cases z;exact hb rfl
end
structure Un (fs ex:List Addr)(H H':Hp)(h h':Heap):Prop where
 keep:∀b o,h.get? b=Z o->H b=Y->b∉fs->b∉ex->h'.get? b=Z o
 slot:∀b o,h.get? b=Z o->H b=Y->b∈fs->b∉ex->∃sl,h'.get? b=Z {o with slots:=sl}
 free:∀b o,h.get? b=Z o->H b=Y->b∉ex->H' b=Y
 there:∀b o,h.get? b=Z o->b∉ex->∃o',h'.get? b=Z o'
 tups:∀b xs,H b=Z (.tup xs)->H' b=Z (.tup xs)
 frzs:∀b o u,H b=Z (.frz o u)->H' b=Z (.frz o u)
 tbls:∀b ps,H b=Z (.tbl ps)->∃more,H' b=Z (.tbl (ps++more))
section
variable {fs fs' ex ex':List Addr}{H H1 H2:Hp}{h h1 h2 h':Heap}{a x e:Addr}{o:HO}
def Un.any (u:Un fs ex H H1 h h1){ob:Obj}(q:h.get? b=Z ob)(n:H b=Y)(hx:b∉ex):∃sl,h1.get? b=Z {ob with slots:=sl}:=by
 by_cases hb:b∈fs
 ·exact u.slot b ob q n hb hx
 ·exact⟨ob.slots,u.keep b ob q n hb hx⟩
def Un.kept (k:∀b u,h.get? b=Z u->h'.get? b=Z u):Un fs ex H H h h':=
 ⟨λb ob q _ _ _=>k b ob q,λb ob q _ _ _=>⟨ob.slots,k b ob q⟩,λ_ _ _ n _=>n,λb ob q _=>⟨ob,k b ob q⟩,λ_ _ q=>q,λ_ _ _ q=>q,λ_ ps q=>⟨#[],by rw[q];simp⟩⟩
def Un.refl:Un fs ex H H h h:=Un.kept λ_ _ q=>q
def Un.laid (k:∀b u,h.get? b=Z u->h'.get? b=Z u)(hp:h.objs.size<=a)(hn:H a=Y):Un fs ex H (cx H a o) h h' where
 keep:=λb u q _ _ _=>k b u q
 slot:=λb u q _ _ _=>⟨u.slots,k b u q⟩
 free:=λb u q n _=>by rw[aB (Nat.ne_of_lt (Nat.lt_of_lt_of_le (Heap.lt_size q) hp))];exact n
 there:=λb u q _=>⟨u,k b u q⟩
 tups:=λb xs q=>by rw[aB (bV q hn)];exact q
 frzs:=λb u xs q=>by rw[aB (bV q hn)];exact q
 tbls:=λb ps q=>⟨#[],by rw[aB (bV q hn),q];simp⟩
def Un.write (mu:O7 (H x))(he:e=x\/H e=Z (.own x))(k:∀b u,b≠e->h.get? b=Z u->h'.get? b=Z u)(heo:∃u,h'.get? e=Z u):Un fs ex H (cx H x o) h h':=by
 have hx:∀b,H b=Y->b≠x:=λb n z=>by subst z;rw[n] at mu;exact mu
 have hb:∀b,H b=Y->b≠e:=λb n z=>by
  subst z;rcases he with r|r
  ·exact hx b n r
  ·rw[n] at r;cases r
 have hm:∀b u,H b=Z u->¬O7 (Z u)->b≠x:=λb u q nm z=>by subst z;rw[q] at mu;exact nm mu
 refine⟨λb u q n _ _=>k b u (hb b n) q,λb u q n _ _=>⟨u.slots,k b u (hb b n) q⟩,λb u q n _=>by rw[aB (hx b n)];exact n,λb u q _=>?_,
  λb xs q=>by rw[aB (hm b _ q λz=>z)];exact q,λb u xs q=>by rw[aB (hm b _ q λz=>z)];exact q,λb ps q=>⟨#[],by rw[aB (hm b _ q λz=>z),q];simp⟩⟩
 by_cases hbe:b=e
 ·subst hbe;exact heo
 ·exact⟨u,k b u hbe q⟩
end
def trk (h:Heap)(H:Hp):List Addr:=(List.range h.objs.size).filter λa=>(H a).isSome
def wW (h:Heap)(H:Hp):Heap:=W.hideAll h (trk h H)
def BM (h:Heap)(H:Hp):(wW h H).objs.size=h.objs.size:=W.hideAll_size _ _
def EO {o:Obj}(e:h.get? b=Z o)(n:H b=Y):(wW h H).get? b=Z o:=
 W.hideAll_get _ e λhm=>by
  have q:(H b).isSome=true:=(mem_filter.mp hm).2;rw[n] at q;simp at q
def JN {o:Obj}(e:(wW h H).get? b=Z o):h.get? b=Z o/\H b=Y:=by
 have e':h.get? b=Z o:=W.of_hideAll (trk h H) e;refine⟨e',?_⟩;cases q:H b with
 | none=>rfl
 | some x=>
  have hm:b∈trk h H:=mem_filter.mpr ⟨mem_range.mpr (Heap.lt_size e'),by simp[q]⟩;have z:(wW h H).get? b=Y:=W.hideAll_none (trk h H) hm;rw[z] at e;cases e
def IT (g h:Heap)(L:Addr):List (Addr×Obj):=(List.range h.objs.size).filterMap λa=>if a=L\/(g.get? a).isSome=true then Y else(h.get? a).map λo=>(a,o)
def rest (g h:Heap)(L d:Addr):List (Addr×Obj):=(IT g h L).filter λp=>decide (p.1≠d)
structure Mod (K:W.Frag)(mg:Str->Option Value)(base:Heap):Prop where
 kin:K.In base
 glob:base.Ns mainGlobals mg
 blt:∃mb,base.Ns builtinsNs mb/\∀x:Str,x≠"__name__"->mb x=bootBuiltins x
 nolimit:base.NoLimit
structure Cx where
 prog:Program
 w:World
 K:W.Frag
 mg:Str->Option Value
 base:Heap
 A:Around
 N:List Str
 s₀:Shared
 H₀:Hp
 env:Env
 outer:List Env
 stack:List Env
 ex:List Addr
 fn:Str->Bool
 calm:Bool
 pn:List (Addr×Obj)
 xe:Value->Shared->Prop
def sG (l:List Env):List Addr:=l.filterMap (·.frame)
abbrev Cx.fs (X:Cx):List Addr:=sG X.outer
def Oz (sc:Scope)(x:Str):Prop:=sc.names.lookup x=Z .local\/sc.names.lookup x=Z .cell\/sc.names.lookup x=Z .free
def Eg (sc:Scope)(x:Str):Prop:=sc.names.lookup x=Z .local\/sc.names.lookup x=Z .cell
def RO (env:Env)(h:Heap)(m:Str->Option Value)(x:Str)(u:Value):Prop:=
 (env.kindOf x=Z .local/\m x=Z u)\/((env.kindOf x=Z .cell\/env.kindOf x=Z .free)/\∃c,env.cells.lookup x=Z c/\h.IsCell c (Z u))
structure Cx.Ok (X:Cx):Prop where
 mod:Mod X.K X.mg X.base
 kind:X.env.scope.kind=.function
 glob:X.env.globals=mainGlobals
 blt:X.env.builtins=builtinsNs
 above:X.s₀.heap.objs.size<=X.env.locals
 inj:∀x y c,X.env.cells.lookup x=Z c->X.env.cells.lookup y=Z c->x=y
 has:∀x,(X.env.kindOf x=Z .cell\/X.env.kindOf x=Z .free)->∃c,X.env.cells.lookup x=Z c
 cab:∀x c,X.fn x=true->X.env.cells.lookup x=Z c->X.s₀.heap.objs.size<=c
 hd:X.calm=true->X.A.handled=Y
 frames:X.A.frames=Z X.stack
 stk:X.stack=X.outer\/(X.stack=X.env::X.outer/\X.env.frame=Z X.env.locals)
 exf:∀b∈X.ex,b≠X.env.locals/\∀x c,X.env.cells.lookup x=Z c->c≠b
 bs:∀b o,X.base.get? b=Z o->X.s₀.heap.get? b=Z o/\X.H₀ b=Y
 bsz:X.base.objs.size<=X.s₀.heap.objs.size
 noex:∀b o,X.base.get? b=Z o->b∉X.ex
 exfs:∀b∈X.ex,b∉X.fs
 funs:X.s₀.heap.FunFrames X.base X.outer
 frf:∀b∈X.fs,X.H₀ b=Y
structure Inv (X:Cx)(ag:List (Addr×Obj))(σ:List (Option V))(H:Hp)(s:Shared):Prop where
 ok:X.Ok
 os:s.os=X.s₀.os
 bare:AllBare s.gens
 base:Un X.fs X.ex X.H₀ H X.s₀.heap s.heap
 loc:∃m,s.heap.Ns X.env.locals m/\∀(i:Nat) (x:Str) (v:V),X.N[i]?=Z x->σ[i]?=Z (Z v)->Oz X.env.scope x->∃u,RelV v u/\RO X.env s.heap m x u
 cell:∀x c,X.env.cells.lookup x=Z c->∃v,s.heap.IsCell c v
 free:H X.env.locals=Y
 freeC:∀x c,X.env.cells.lookup x=Z c->H c=Y
 pin:∀p∈X.pn++ag,s.heap.get? p.1=Z p.2/\H p.1=Y/\p.1≠X.env.locals/\p.1∉X.fs/\∀v,p.2.data≠.cell v
 hok:mz X.prog X.w H s.heap
 len:σ.length=X.N.length
variable{x:Str}{ch:List Addr}{i:Nat}{v:V}
section
variable {X:Cx}{ag:List (Addr×Obj)}{σ:List (Option V)}{H H':Hp}{s:Shared}{h':Heap}
def Cx.Ok.nofr (ok:X.Ok){o:Obj}(e:X.base.get? b=Z o):b∉X.fs:=λhb=>by
 have:=(ok.funs.mem hb).1;rw[e] at this;cases this
def Inv.bs (I:Inv X ag σ H s):∀b o,X.base.get? b=Z o->s.heap.get? b=Z o/\H b=Y:=λb o e=>
 ⟨I.base.keep b o (I.ok.bs b o e).1 (I.ok.bs b o e).2 (I.ok.nofr e) (I.ok.noex b o e),I.base.free b o (I.ok.bs b o e).1 (I.ok.bs b o e).2 (I.ok.noex b o e)⟩
def Inv.bk (I:Inv X ag σ H s):∀b o,X.base.get? b=Z o->s.heap.get? b=Z o:=λb o e=>(I.bs b o e).1
def Inv.mod (I:Inv X ag σ H s):Mod X.K X.mg X.base:=I.ok.mod
def Inv.kIn (I:Inv X ag σ H s):X.K.In s.heap:=I.ok.mod.kin.keeps I.bk
def Inv.lt (I:Inv X ag σ H s):X.env.locals<s.heap.objs.size:=let ⟨_,hn,_⟩:=I.loc;hn.lt
def Inv.sz (I:Inv X ag σ H s):X.s₀.heap.objs.size<=s.heap.objs.size:=Nat.le_trans I.ok.above (Nat.le_of_lt I.lt)
def Inv.nofs (I:Inv X ag σ H s)(h:s.heap.objs.size<=a):a∉X.fs:=λhb=>by
 obtain⟨_,o,ho,_⟩:=I.ok.funs.mem hb;exact absurd (Nat.lt_of_lt_of_le (Heap.lt_size ho) (Nat.le_trans I.sz h)) (Nat.lt_irrefl _)
def Inv.cne (I:Inv X ag σ H s):∀x c,X.env.cells.lookup x=Z c->c≠X.env.locals:=λx c e z=>by
 obtain⟨v,o,ho,hd⟩:=I.cell x c e;obtain⟨m,⟨o',es,ep,ho',hd',_⟩,_⟩:=I.loc;rw[z,ho'] at ho;cases ho;rw[hd'] at hd;cases hd
def Inv.funs (I:Inv X ag σ H s):s.heap.FunFrames X.base X.outer:=by
 have all:∀(l:List Env),(∀b∈sG l,b∈X.fs)->X.s₀.heap.FunFrames X.base l->s.heap.FunFrames X.base l:=by
  intro l
  induction l with
  | nil=>intro _ _;trivial
  | cons env r ih=>
   intro hs hl;obtain⟨hk,⟨L,o,hf,hn,ho,hd⟩,hr⟩:=hl;have hL:L∈X.fs:=hs L (by unfold sG;rw[filterMap_cons,hf];exact mem_cons_self);obtain⟨sl,e⟩:=I.base.slot L o ho (I.ok.frf L hL) hL λz=>I.ok.exfs L z hL
   exact⟨hk,⟨L,_,hf,hn,e,hd⟩,ih (λb hb=>hs b (by unfold sG;rw[filterMap_cons,hf];exact mem_cons_of_mem _ hb)) hr⟩
 exact all X.outer (λ_ hb=>hb) I.ok.funs
def Inv.stack (I:Inv X ag σ H s):s.heap.FunFrames X.base X.stack:=by
 rcases I.ok.stk with e|⟨e,hf⟩
 ·rw[e];exact I.funs
 ·rw[e];obtain⟨m,hn,_⟩:=I.loc;refine .cons (by rw[I.ok.kind];decide) hf hn ?_ I.funs;exact Heap.get?_none_of_le (Nat.le_trans I.ok.bsz I.ok.above)
def Inv.stkSub (I:Inv X ag σ H s):∀b∈sG X.stack,b∈X.env.locals::X.fs:=λb hb=>by
 rcases I.ok.stk with e|⟨e,hf⟩
 ·rw[e] at hb;exact mem_cons_of_mem _ hb
 ·rw[e] at hb;unfold sG at hb;rw[filterMap_cons,hf] at hb;exact hb
def Inv.stkFree (I:Inv X ag σ H s):∀b∈sG X.stack,H b=Y:=λb hb=>by
 rcases mem_cons.mp (I.stkSub b hb) with e|hb
 ·rw[e];exact I.free
 ·obtain⟨_,o,ho,_⟩:=I.ok.funs.mem hb;exact I.base.free b o ho (I.ok.frf b hb) λz=>I.ok.exfs b z hb
def Inv.step {g':Array GenState}{t':Nat}{d':Drawn}(I:Inv X ag σ H s)
  (hch:∀b∈ch,(b∈X.ex\/X.s₀.heap.objs.size<=b)/\b≠X.env.locals/\(∀x c,X.env.cells.lookup x=Z c->c≠b)/\∀p∈X.pn++ag,p.1≠b)
  (keep:∀b o,b≠X.env.locals->b∉X.fs->b∉ch->s.heap.get? b=Z o->H b=Y->h'.get? b=Z o)
  (slot:∀b o,b≠X.env.locals->b∈X.fs->b∉ch->s.heap.get? b=Z o->H b=Y->∃sl,h'.get? b=Z {o with slots:=sl}) (free:∀b o,b∉ch->s.heap.get? b=Z o->H b=Y->H' b=Y)
  (there:∀b o,b∉ch->s.heap.get? b=Z o->∃o',h'.get? b=Z o')
  (tups:∀b xs,H b=Z (.tup xs)->H' b=Z (.tup xs)) (frzs:∀b o u,H b=Z (.frz o u)->H' b=Z (.frz o u)) (tbls:∀b ps,H b=Z (.tbl ps)->∃more,H' b=Z (.tbl (ps++more)))
  (ns:∀m,s.heap.Ns X.env.locals m->h'.Ns X.env.locals m) (hok:mz X.prog X.w H' h') (hg:AllBare g') :
  Inv X ag σ H' {s with heap:=h',gens:=g',drawn:=d',toks:=t'}:=by
 have neL:∀b o,X.s₀.heap.get? b=Z o->b≠X.env.locals:=λb o e=>Nat.ne_of_lt (Nat.lt_of_lt_of_le (Heap.lt_size e) I.ok.above)
 have neC:∀b o,X.s₀.heap.get? b=Z o->b∉X.ex->b∉ch:=λb o e hx hb=>by
  rcases(hch b hb).1 with z|z
  ·exact hx z
  ·exact absurd (Nat.lt_of_lt_of_le (Heap.lt_size e) z) (Nat.lt_irrefl _)
 have cellK:∀x c,X.env.cells.lookup x=Z c->∀v,s.heap.IsCell c v->h'.IsCell c v:=λx c e v hxx=>by
  obtain⟨o,ho,hd⟩:=hxx;have nch:c∉ch:=λz=>(hch c z).2.2.1 x c e rfl
  by_cases hc:c∈X.fs
  ·obtain⟨sl,q⟩:=slot c o (I.cne x c e) hc nch ho (I.freeC x c e);exact⟨_,q,hd⟩
  ·exact⟨o,keep c o (I.cne x c e) hc nch ho (I.freeC x c e),hd⟩
 refine⟨I.ok,I.os,hg,⟨λb o e n hb hx=>?_,λb o e n hb hx=>?_,λb o e n hx=>?_,λb o e hx=>?_,λb xs e=>tups b xs (I.base.tups b xs e),λb o xs e=>frzs b o xs (I.base.frzs b o xs e),λb ps e=>?_⟩,?_,λx c e=>?_,?_,λx c e=>?_,λp hp=>?_,hok,I.len⟩
 ·exact keep b o (neL b o e) hb (neC b o e hx) (I.base.keep b o e n hb hx) (I.base.free b o e n hx)
 ·obtain⟨sl,e1⟩:=I.base.slot b o e n hb hx;obtain⟨sl',e2⟩:=slot b _ (neL b o e) hb (neC b o e hx) e1 (I.base.free b o e n hx);exact⟨sl',e2⟩
 ·obtain⟨o',e1⟩:=I.base.there b o e hx;exact free b o' (neC b o e hx) e1 (I.base.free b o e n hx)
 ·obtain⟨o',e1⟩:=I.base.there b o e hx;exact there b o' (neC b o e hx) e1
 ·obtain⟨m1,e1⟩:=I.base.tbls b ps e;obtain⟨m2,e2⟩:=tbls b _ e1;exact⟨m1++m2,by rw[e2,Array.append_assoc]⟩
 ·obtain⟨m,hn,hl⟩:=I.loc;refine⟨m,ns m hn,λi x v e1 e2 e3=>?_⟩;obtain⟨u,r,l⟩:=hl i x v e1 e2 e3;refine⟨u,r,?_⟩;rcases l with l|⟨k,c,e,z⟩
  ·exact .inl l
  ·exact .inr ⟨k,c,e,cellK x c e _ z⟩
 ·obtain⟨v,z⟩:=I.cell x c e;exact⟨v,cellK x c e v z⟩
 ·obtain⟨m,⟨o,_,_,ho,_⟩,_⟩:=I.loc;exact free _ o (λz=>(hch _ z).2.1 rfl) ho I.free
 ·obtain⟨v,o,ho,hd⟩:=I.cell x c e;exact free c o (λz=>(hch c z).2.2.1 x c e rfl) ho (I.freeC x c e)
 ·obtain⟨e,n,ne,nf,d⟩:=I.pin p hp;have nch:p.1∉ch:=λz=>(hch p.1 z).2.2.2 p hp rfl
  exact⟨keep p.1 p.2 ne nf nch e n,free p.1 p.2 nch e n,ne,nf,d⟩
def Inv.un {t':Nat}(I:Inv X ag σ H s)(u:Un X.fs [] H H' s.heap h')(hok:mz X.prog X.w H' h'):Inv X ag σ H' {s with heap:=h',toks:=t'}:=by
 obtain⟨m,⟨o,es,ep,ho,r⟩,_⟩:=id I.loc;obtain⟨sl,hL⟩:=u.any ho I.free (by simp);exact I.step (g':=s.gens) (d':=s.drawn) (ch:=[]) (λ_ z=>nomatch z) (λb o _ hb _ e n=>u.keep b o e n hb (by simp)) (λb o _ hb _ e n=>u.slot b o e n hb (by simp)) (λb o _ e n=>u.free b o e n (by simp)) (λb o _ e=>u.there b o e (by simp)) u.tups u.frzs u.tbls (λm' hm=>by
  obtain⟨o',es',ep',ho',r'⟩:=hm;rw[ho] at ho';cases ho';exact⟨_,es',ep',hL,r'⟩) hok I.bare
def Inv.call {g':Array GenState}{t':Nat}{d':Drawn}(I:Inv X ag σ H s)(u:Un (sG X.stack) ch H H' s.heap h')(hok:mz X.prog X.w H' h')(hg:AllBare g')
  (hch:∀b∈ch,(b∈X.ex\/X.s₀.heap.objs.size<=b)/\b≠X.env.locals/\(∀x c,X.env.cells.lookup x=Z c->c≠b)/\∀p∈X.pn++ag,p.1≠b) :
  Inv X ag σ H' {s with heap:=h',gens:=g',drawn:=d',toks:=t'}:=by
 obtain⟨m,⟨o,es,ep,ho,r⟩,_⟩:=id I.loc;obtain⟨sl,hL⟩:=u.any ho I.free λz=>(hch _ z).2.1 rfl
 exact I.step (ch:=ch) hch (λb o hL hb hc e n=>u.keep b o e n (λz=>(mem_cons.mp (I.stkSub b z)).elim hL hb) hc) (λb o _ _ hc e n=>u.any e n hc) (λb o hc e n=>u.free b o e n hc) (λb o hc e=>u.there b o e hc) u.tups u.frzs u.tbls (λm' hm=>by
  obtain⟨o',es',ep',ho',r'⟩:=hm;rw[ho] at ho';cases ho';exact⟨_,es',ep',hL,r'⟩) hok hg
def Inv.turned {t':Nat}{it:Addr}(I:Inv X ag σ H s)(k:∀b o,b≠it->s.heap.get? b=Z o->h'.get? b=Z o)(hn:H it=Y)(hL:it≠X.env.locals)
  (h1:it∈X.ex\/X.s₀.heap.objs.size<=it) (h2:∀x c,X.env.cells.lookup x=Z c->c≠it) (h3:∀p∈X.pn++ag,p.1≠it):Inv X ag σ H {s with heap:=h',toks:=t'}:=by
 have nit:∀b u,H b=Z u->b≠it:=λb u e z=>by rw[z,hn] at e;cases e
 refine I.step (g':=s.gens) (d':=s.drawn) (ch:=[it]) (λb hb=>?_) (λb o _ _ hc e _=>k b o (λz=>hc (by simp[z])) e) (λb o _ _ hc e _=>⟨o.slots,k b o (λz=>hc (by simp[z])) e⟩) (λ_ _ _ _ n=>n)
  (λb o hc e=>⟨o,k b o (λz=>hc (by simp[z])) e⟩) (λ_ _ e=>e) (λ_ _ _ e=>e) (λb ps e=>⟨#[],by rw[e];simp⟩) (λm hm=>?_) (λb u e=>?_) I.bare
 ·have e:b=it:=by simpa using hb
  subst e;exact⟨h1,hL,h2,h3⟩
 ·obtain⟨o,es,ep,ho,r⟩:=hm;exact⟨o,es,ep,k _ o (Ne.symm hL) ho,r⟩
 ·refine(I.hok b u e).stay (λc v hc q=>k c v ?_ q) (λ_ q=>q) λ_ _ q=>q
  rcases hc with z|z
  ·rw[z];exact nit b u e
  ·exact nit c _ z
def Inv.tok (I:Inv X ag σ H s)(t:Nat):Inv X ag σ H {s with toks:=t}:=I.un (h':=s.heap) (t':=t) Un.refl I.hok
def Inv.kept {t':Nat}(I:Inv X ag σ H s)(k:∀b u,s.heap.get? b=Z u->h'.get? b=Z u):Inv X ag σ H {s with heap:=h',toks:=t'}:=I.un (Un.kept k) (I.hok.kept k)
def Inv.laid {t':Nat}(I:Inv X ag σ H s)(k:∀b u,s.heap.get? b=Z u->h'.get? b=Z u)(hp:s.heap.objs.size<=a)(new:cX X.prog X.w (cx H a o) h' a o) :
  Inv X ag σ (cx H a o) {s with heap:=h',toks:=t'}:=I.un (Un.laid k hp (I.hok.fresh hp)) (I.hok.laid k hp new)
def Inv.write {x e:Addr}{t':Nat}(I:Inv X ag σ H s)(mu:O7 (H x))(he:e=x\/H e=Z (.own x))(k:∀b u,b≠e->s.heap.get? b=Z u->h'.get? b=Z u)(heo:∃u,h'.get? e=Z u)
  (new:cX X.prog X.w (cx H x o) h' x o):Inv X ag σ (cx H x o) {s with heap:=h',toks:=t'}:=I.un (Un.write mu he k heo) (I.hok.write mu he k heo new)
def Inv.pins_of {pins':List (Addr×Obj)}(I:Inv X ag σ H s)(h:∀p∈pins',s.heap.get? p.1=Z p.2/\H p.1=Y/\p.1≠X.env.locals/\p.1∉X.fs/\∀v,p.2.data≠.cell v):Inv X pins' σ H s:=
 ⟨I.ok,I.os,I.bare,I.base,I.loc,I.cell,I.free,I.freeC,λp hp=>(mem_append.mp hp).elim (λz=>I.pin p (mem_append_left _ z)) (h p),I.hok,I.len⟩
def sj {N:List Str}(hN:N.Nodup){j:Nat}(a:N[i]?=Z x)(b:N[j]?=Z x):i=j:=by
 obtain⟨h1,e1⟩:=List.getElem?_eq_some_iff.mp a;obtain⟨h2,e2⟩:=List.getElem?_eq_some_iff.mp b;exact(getElem_inj hN).mp (e1.trans e2.symm)
def wa {M:Model}{A:Around}{E:Value->Shared->Prop}{Q:Unit->Shared->Prop}(I:Inv X ag σ H s)(hN:X.N.Nodup)(hi:X.N[i]?=Z x)(hx:Eg X.env.scope x)(r:RelV v u)
  (h:∀s',Inv X ag (σ.set i (Z v)) H s'->(∃a,Heap.SameBut a s.heap s'.heap/\(a=X.env.locals\/X.env.cells.lookup x=Z a))->Q () s') (hf:X.fn x=true\/X.env.scope.names.lookup x=Z .local:=by first|exact .inl rfl|exact .inr rfl|assumption):wpAny M A (storeName X.env x u) Q E s:=by
 obtain⟨m,hn,hl⟩:=id I.loc;have hcls:(X.env.scope.kind==.class||(X.env.scope.kind==.module&&X.env.locals != X.env.globals))=false:=by rw[I.ok.kind];rfl
 have hiσ:i<σ.length:=by rw[I.len];exact(List.getElem?_eq_some_iff.mp hi).1
 have cne:=I.cne;have tracked:∀{a:Addr} {h':Heap},(∃o,s.heap.get? a=Z o/\H a=Y)->Heap.SameBut a s.heap h'->mz X.prog X.w H h':=λ{a h'} ha hs b ob e=>by
  obtain⟨_,_,hfree⟩:=ha;refine(I.hok b ob e).stay (λc w' hc q=>(hs.2 c ?_).trans q) (λ_ q=>q) λ_ _ q=>q
  rintro rfl;rcases hc with rfl|hc
  ·rw[hfree] at e;cases e
  ·rw[hfree] at hc;cases hc
 rcases hx with hk|hk
 ·refine wpAny_storeName_local hk hn (λh' hn' hs=>?_) hcls;obtain⟨oL,_,_,hoL,_⟩:=id hn;refine h _ ⟨I.ok,I.os,I.bare,⟨λb o e n hb hx=>?_,λb o e n hb hx=>?_,I.base.free,λb o e hx=>?_,I.base.tups,I.base.frzs,I.base.tbls⟩,⟨_,hn',λj y v' e1 e2 e3=>?_⟩,λy c e=>?_,I.free,I.freeC,λp hp=>?_,tracked ⟨oL,hoL,I.free⟩ hs,by simpa using I.len⟩ ⟨_,hs,.inl rfl⟩
  ·exact(hs.2 b (Nat.ne_of_lt (Nat.lt_of_lt_of_le (Heap.lt_size e) I.ok.above))).trans (I.base.keep b o e n hb hx)
  ·obtain⟨sl,e1⟩:=I.base.slot b o e n hb hx;exact⟨sl,(hs.2 b (Nat.ne_of_lt (Nat.lt_of_lt_of_le (Heap.lt_size e) I.ok.above))).trans e1⟩
  ·obtain⟨o',e1⟩:=I.base.there b o e hx;exact⟨o',(hs.2 b (Nat.ne_of_lt (Nat.lt_of_lt_of_le (Heap.lt_size e) I.ok.above))).trans e1⟩
  ·by_cases hj:j=i
   ·subst hj;rw[hi] at e1;cases e1;rw[getElem?_set_self hiσ] at e2;cases e2;exact⟨u,r,.inl ⟨hk,by simp⟩⟩
   ·rw[getElem?_set_ne (Ne.symm hj)] at e2;obtain⟨u',r',q⟩:=hl j y v' e1 e2 e3;refine⟨u',r',?_⟩;rcases q with⟨k,e⟩|⟨k,c,e,z⟩
    ·refine .inl ⟨k,?_⟩;have:y≠x:=λe=>hj (sj hN e1 (e▸hi))
     simp[this,e]
    ·exact .inr ⟨k,c,e,z.sameBut hs (cne y c e)⟩
  ·obtain⟨w',z⟩:=I.cell y c e;exact⟨w',z.sameBut hs (cne y c e)⟩
  ·obtain⟨e,n,ne,nf,d⟩:=I.pin p hp;exact⟨(hs.2 p.1 ne).trans e,n,ne,nf,d⟩
 ·have hfn:X.fn x=true:=by
   rcases hf with z|z
   ·exact z
   ·rw[z] at hk;cases hk
  obtain⟨c,hc⟩:=I.ok.has x (.inl hk);obtain⟨w',z⟩:=I.cell x c hc;refine wpAny_storeName_cell I.ok.kind hk hc z (λh' hc' hs=>?_);obtain⟨oc,hoc,hocd⟩:=id z;refine h {s with heap:=h'} ⟨I.ok,I.os,I.bare,⟨λb o e n hb hx=>?_,λb o e n hb hx=>?_,I.base.free,λb o e hx=>?_,I.base.tups,I.base.frzs,I.base.tbls⟩,⟨m,hn.sameBut hs (Ne.symm (cne x c hc)),λj y v' e1 e2 e3=>?_⟩,λy c' e=>?_,I.free,I.freeC,λp hp=>?_,tracked ⟨oc,hoc,I.freeC x c hc⟩ hs,by simpa using I.len⟩ ⟨c,hs,.inr hc⟩
  ·exact(hs.2 b (Nat.ne_of_lt (Nat.lt_of_lt_of_le (Heap.lt_size e) (I.ok.cab x c hfn hc)))).trans (I.base.keep b o e n hb hx)
  ·obtain⟨sl,e1⟩:=I.base.slot b o e n hb hx;exact⟨sl,(hs.2 b (Nat.ne_of_lt (Nat.lt_of_lt_of_le (Heap.lt_size e) (I.ok.cab x c hfn hc)))).trans e1⟩
  ·obtain⟨o',e1⟩:=I.base.there b o e hx;exact⟨o',(hs.2 b (Nat.ne_of_lt (Nat.lt_of_lt_of_le (Heap.lt_size e) (I.ok.cab x c hfn hc)))).trans e1⟩
  ·by_cases hj:j=i
   ·subst hj;rw[hi] at e1;cases e1;rw[getElem?_set_self hiσ] at e2;cases e2;exact⟨u,r,.inr ⟨.inl hk,c,hc,hc'⟩⟩
   ·rw[getElem?_set_ne (Ne.symm hj)] at e2;obtain⟨u',r',q⟩:=hl j y v' e1 e2 e3;refine⟨u',r',?_⟩;rcases q with q|⟨k,c',e,z'⟩
    ·exact .inl q
    ·refine .inr ⟨k,c',e,z'.sameBut hs ?_⟩;rintro rfl;exact hj (sj hN e1 (I.ok.inj _ _ _ e hc▸hi))
  ·by_cases hcc:c'=c
   ·subst hcc;exact⟨_,hc'⟩
   ·obtain⟨w2,z2⟩:=I.cell y c' e;exact⟨w2,z2.sameBut hs hcc⟩
  ·obtain⟨e,n,ne,nf,d⟩:=I.pin p hp;refine⟨(hs.2 p.1 ?_).trans e,n,ne,nf,d⟩;intro q;rw[q,hoc] at e;have q':oc=p.2:=Option.some.inj e;exact d w' (by rw[<-q'];exact hocd)
def mE {M:Model}{A:Around}{E:Value->Shared->Prop}{Q:Unit->Shared->Prop}(I:Inv X ag σ H s)(hN:X.N.Nodup)(hi:X.N[i]?=Z x)(hx:Eg X.env.scope x)(r:RelV v u)
  (h:∀s',Inv X ag (σ.set i (Z v)) H s'->Q () s') (hf:X.fn x=true\/X.env.scope.names.lookup x=Z .local:=by first|exact .inl rfl|exact .inr rfl|assumption):wpAny M A (storeName X.env x u) Q E s:=
 wa I hN hi hx r (λs' I' _=>h s' I') hf
def Inv.call' {s':Shared}(I:Inv X ag σ H s)(ho:s'.os=s.os)(u:Un (sG X.stack) ch H H' s.heap s'.heap)(hok:mz X.prog X.w H' s'.heap)(hg:AllBare s'.gens)
  (hch:∀b∈ch,(b∈X.ex\/X.s₀.heap.objs.size<=b)/\b≠X.env.locals/\(∀x c,X.env.cells.lookup x=Z c->c≠b)/\∀p∈X.pn++ag,p.1≠b):Inv X ag σ H' s':=by
 obtain⟨h',g',d',t',o'⟩:=s';have e:o'=s.os:=ho;subst e;exact I.call (g':=g') (t':=t') (d':=d') u hok hg hch
end
abbrev XK:=Value->Option Addr->Hp->Prop
abbrev St:=List (Option V)
abbrev VK:=V->Hp->Prop
abbrev TE:=St->Hp->VK->Prop
abbrev TT:=St->Hp->(Bool->Hp->Prop)->Prop
abbrev TA:=St->Hp->(List V->Hp->Prop)->Prop
structure Cr where
 nx:St->Hp->Prop
 rt:VK
 bk:St->Hp->Prop:=λ_ _=>False
 ct:St->Hp->Prop:=λ_ _=>False
abbrev TS:=Cr->St->Hp->Prop
def EP (X:Cx)(ag:List (Addr×Obj))(σ:St)(Q:VK)(u:Value)(s':Shared):Prop:=∃v H',Inv X ag σ H' s'/\RelV v u/\Q v H'
def TP (X:Cx)(ag:List (Addr×Obj))(σ:St)(Q:Bool->Hp->Prop)(b:Bool)(s':Shared):Prop:=∃H',Inv X ag σ H' s'/\Q b H'
def AP (X:Cx)(ag:List (Addr×Obj))(σ:St)(Q:List V->Hp->Prop)(us:List Value)(s':Shared):Prop:=∃vs H',Inv X ag σ H' s'/\ba vs us/\Q vs H'
def SP (X:Cx)(ag:List (Addr×Obj))(D:Cr)(f:Flow)(s':Shared):Prop:=
 match f with
 | .next=>∃σ' H',Inv X ag σ' H' s'/\D.nx σ' H'
 | .brk=>∃σ' H',Inv X ag σ' H' s'/\D.bk σ' H'
 | .cont=>∃σ' H',Inv X ag σ' H' s'/\D.ct σ' H'
 | .ret u=>∃v σ' H',Inv X ag σ' H' s'/\RelV v u/\D.rt v H'
def PE (X:Cx)(e:Expr)(t:TE):Prop:=
 ∀(ag:List (Addr×Obj)) (s:Shared) (σ:St) (H:Hp) (Q:VK),Inv X ag σ H s->t σ H Q->wpAny (model X.prog X.w) X.A (eval e X.env) (EP X ag σ Q) X.xe s
def PT (X:Cx)(e:Expr)(t:TT):Prop:=
 ∀(ag:List (Addr×Obj)) (s:Shared) (σ:St) (H:Hp) (Q:Bool->Hp->Prop),Inv X ag σ H s->t σ H Q->wpAny (model X.prog X.w) X.A (isTrue e X.env (eval e X.env)) (TP X ag σ Q) X.xe s
def PW (X:Cx)(e:Expr)(t:TT):Prop:=
 ∀(whole:Sem Value) (ag:List (Addr×Obj)) (s:Shared) (σ:St) (H:Hp) (Q:Bool->Hp->Prop),Inv X ag σ H s->t σ H Q->wpAny (model X.prog X.w) X.A (isTrue e X.env whole) (TP X ag σ Q) X.xe s
variable{e:Expr}
def PW.pt {X:Cx}{t:TT}(h:PW X e t):PT X e t:=h _
def PA (X:Cx)(es:List Expr)(t:TA):Prop:=
 ∀(pos:Pos) (ag:List (Addr×Obj)) (s:Shared) (σ:St) (H:Hp) (Q:List V->Hp->Prop),Inv X ag σ H s->t σ H Q->wpAny (model X.prog X.w) X.A (spliced (backTo pos (starEach es X.env))) (AP X ag σ Q) X.xe s
def PS (X:Cx)(st:Stmt)(t:TS):Prop:=
 ∀(ag:List (Addr×Obj)) (s:Shared) (σ:St) (H:Hp) (D:Cr),Inv X ag σ H s->t D σ H->wpAny (model X.prog X.w) X.A (exec st X.env) (SP X ag D) X.xe s
def PSs (X:Cx)(st:List Stmt)(t:TS):Prop:=
 ∀(ag:List (Addr×Obj)) (s:Shared) (σ:St) (H:Hp) (D:Cr),Inv X ag σ H s->t D σ H->wpAny (model X.prog X.w) X.A (execs st X.env) (SP X ag D) X.xe s
variable{A:Around}{E:Value->Shared->Prop}{s:Shared}
def cK {α:Type}{t:Sem α}{Q Q':α->Shared->Prop}{M:Model}(h:wpAny M A t Q E s)(hQ:∀a s,Q a s->Q' a s):wpAny M A t Q' E s:=wpAny_mono h hQ λ_ _ x=>x
variable{Q:Value->Shared->Prop}{ag:List (Addr×Obj)}{σ:St}{c:Expr}
section
variable {X:Cx}
def Qm (i:Nat):TE:=λσ H Q=>∃v,σ[i]?=Z (Z v)/\Q v H
def tC (v:V):TE:=λ_ H Q=>Q v H
def LK {pos:Pos}(hN:X.N[i]?=Z x)(hv:Oz X.env.scope x)(hd:(x==("__debug__":Str))=false:=by decide)(hcd:(x==("__classdict__":Str))=false:=by decide):PE X (.Name x pos) (Qm i):=by
 intro ag s σ H Q I h;obtain⟨v,e,h⟩:=h;obtain⟨m,hn,hl⟩:=I.loc;obtain⟨u,r,l⟩:=hl i x v hN e hv;have fin:EP X ag σ Q u s:=⟨v,H,I,r,h⟩;rcases l with⟨hk,hm⟩|⟨hk,c,hc,hcell⟩
 ·exact wpAny_Name (wpAny_loadName_local I.ok.kind hk hn hm fin) hd
 ·rcases hk with hk|hk
  ·exact wpAny_Name (wpAny_loadName_cell I.ok.kind hk hc hcell fin) hd
  ·exact wpAny_Name (wpAny_loadName_free I.ok.kind hk hc hcell fin hcd) hd
def Gr {i j pos}:PE X (.Constant (.int i) j pos) (tC (.int i)):=λ_ _ _ H _ I h=>wpAny_Constant_int ⟨.int i,H,I.tok _,⟨_,rfl⟩,h⟩
def PN {b j pos}:PE X (.Constant (.bool b) j pos) (tC (.bl b)):=λ_ _ _ H _ I h=>Constant_bool ⟨.bl b,H,I,rfl,h⟩
def MI {j pos}:PE X (.Constant .none j pos) (tC .non):=λ_ _ _ H _ I h=>Constant_none ⟨.non,H,I,rfl,h⟩
def Mi {x j pos}:PE X (.Constant (.str x) j pos) (tC (.str x)):=λ_ _ _ H _ I h=>Calls.Constant_str ⟨.str x,H,I.tok _,⟨_,rfl⟩,h⟩
def Gl (X:Cx)(x:Str):Prop:=X.env.kindOf x=Z .globalImplicit
def pv {E:Value->Shared->Prop}{pos:Pos}(I:Inv X ag σ H s)(hg:Gl X x)(hm:X.mg x=Z u)(h:Q u s)
  (hd:(x==("__debug__":Str))=false:=by decide):wpAny (model X.prog X.w) X.A (eval (.Name x pos) X.env) Q E s:=
 Calls.Name_function_global I.ok.kind hg (Calls.loadGlobal_global (by rw[I.ok.glob];exact I.mod.glob.keeps I.bk) hm h) hd
def qx {E:Value->Shared->Prop}{pos:Pos}(I:Inv X ag σ H s)(hg:Gl X x)(hm:X.mg x=Y)(hv:bootBuiltins x=Z u)(h:Q u s)
  (hn:x≠"__name__":=by decide) (hd:(x==("__debug__":Str))=false:=by decide):wpAny (model X.prog X.w) X.A (eval (.Name x pos) X.env) Q E s:=by
 obtain⟨mb,h1,h2⟩:=I.mod.blt;exact Calls.Name_function_global I.ok.kind hg (Calls.loadGlobal_builtin (by rw[I.ok.glob];exact I.mod.glob.keeps I.bk) hm (by rw[I.ok.blt];exact h1.keeps I.bk) ((h2 x hn).trans hv) h) hd
def IM {pos:Pos}(hg:Gl X x)(hm:X.mg x=Z u)(r:RelV v u)(hd:(x==("__debug__":Str))=false:=by decide):PE X (.Name x pos) (tC v):=
 λ_ _ _ H _ I h=>pv I hg hm ⟨v,H,I,r,h⟩ hd
def Bi {pos:Pos}(hg:Gl X x)(hm:X.mg x=Y)(hv:bootBuiltins x=Z u)(r:RelV v u)(hn:x≠"__name__":=by decide)(hd:(x==("__debug__":Str))=false:=by decide):PE X (.Name x pos) (tC v):=
 λ_ _ _ H _ I h=>qx I hg hm hv ⟨v,H,I,r,h⟩ hn hd
variable {a b:Expr}{ta tb:TE}{pos:Pos}
variable {tA tB':TT}{rest:List Expr}
def Rc (t u:TT):TT:=λσ H Q=>t σ H λc H1=>if c=true then u σ H1 Q else Q false H1
def SV (t u:TT):TT:=λσ H Q=>t σ H λc H1=>if c=true then Q true H1 else u σ H1 Q
def Sl (t:TT):TT:=λσ H Q=>t σ H λc H1=>Q (!c) H1
def IH (ha:PT X a tA):PW X (.BoolOp .And [a] pos) tA:=by
 intro wh ag s σ H Q I h;refine isTrue_and (cK (ha ag s σ H Q I h) λc s1 e=>?_);cases c with
 | true=>exact isTrue_and_nil e
 | false=>exact e
def L9 (ha:PT X a tA):PW X (.BoolOp .Or [a] pos) tA:=by
 intro wh ag s σ H Q I h;refine isTrue_or (cK (ha ag s σ H Q I h) λc s1 e=>?_);cases c with
 | false=>exact isTrue_or_nil e
 | true=>exact e
def LY (ha:PT X a tA)(hb:PW X (.BoolOp .And (b::rest) pos) tB'):PW X (.BoolOp .And (a::b::rest) pos) (Rc tA tB'):=by
 intro wh ag s σ H Q I h;refine isTrue_and (cK (ha ag s σ H _ I h) λc s1 hxx=>?_);obtain⟨H1,I1,q1⟩:=hxx;cases c with
 | true=>exact hb wh ag s1 σ H1 Q I1 q1
 | false=>exact⟨H1,I1,q1⟩
def PP (ha:PT X a tA)(hb:PW X (.BoolOp .Or (b::rest) pos) tB'):PW X (.BoolOp .Or (a::b::rest) pos) (SV tA tB'):=by
 intro wh ag s σ H Q I h;refine isTrue_or (cK (ha ag s σ H _ I h) λc s1 hxx=>?_);obtain⟨H1,I1,q1⟩:=hxx;cases c with
 | true=>exact⟨H1,I1,q1⟩
 | false=>exact hb wh ag s1 σ H1 Q I1 q1
def Le (ha:PT X a tA):PT X (.UnaryOp .Not a pos) (Sl tA):=by
 intro ag s σ H Q I h;exact isTrue_not (ha ag s σ H (λc H1=>Q (!c) H1) I h)
def OJ (ta tb:TE):TE:=λσ H Q=>ta σ H λx H1=>∃c,x=.bl c/\if c=true then tb σ H1 Q else Q (.bl false) H1
def R6 (ta tb:TE):TE:=λσ H Q=>ta σ H λx H1=>∃c,x=.bl c/\if c=true then Q (.bl true) H1 else tb σ H1 Q
def Pu (ta:TE):TE:=λσ H Q=>ta σ H λx H1=>∃c,x=.bl c/\Q (.bl (!c)) H1
def LD {op}{t:TE}(h:PE X a t):PE X (.BoolOp op [a] pos) t:=λag s σ H Q I hw=>BoolOp_one (h ag s σ H Q I hw)
def Ks (ha:PE X a ta)(hb:PE X (.BoolOp .And (b::rest) pos) tb):PE X (.BoolOp .And (a::b::rest) pos) (OJ ta tb):=by
 intro ag s σ H Q I h;refine BoolOp_and (cK (ha ag s σ H _ I h) λv s1 hxx=>?_);obtain⟨x,H1,I1,r1,q1⟩:=hxx;obtain⟨c,rfl,q1⟩:=q1;cases r1;refine wpAny_truthy_bool ?_;cases c with
 | true=>exact hb ag s1 σ H1 Q I1 q1
 | false=>exact⟨.bl false,H1,I1,rfl,q1⟩
def PR (ha:PE X a ta)(hb:PE X (.BoolOp .Or (b::rest) pos) tb):PE X (.BoolOp .Or (a::b::rest) pos) (R6 ta tb):=by
 intro ag s σ H Q I h;refine BoolOp_or (cK (ha ag s σ H _ I h) λv s1 hxx=>?_);obtain⟨x,H1,I1,r1,q1⟩:=hxx;obtain⟨c,rfl,q1⟩:=q1;cases r1;refine wpAny_truthy_bool ?_;cases c with
 | false=>exact hb ag s1 σ H1 Q I1 q1
 | true=>exact⟨.bl true,H1,I1,rfl,q1⟩
def Nu (ha:PE X a ta):PE X (.UnaryOp .Not a pos) (Pu ta):=by
 intro ag s σ H Q I h;refine UnaryOp_ (cK (ha ag s σ H _ I h) λv s1 hxx=>?_);obtain⟨x,H1,I1,r1,q1⟩:=hxx;obtain⟨c,rfl,q1⟩:=q1;cases r1;exact not_of (wpAny_truthy_bool ⟨.bl (!c),H1,I1,rfl,q1⟩)
def S0 (t:TT)(ta tb:TE):TE:=λσ H Q=>t σ H λc H1=>if c=true then ta σ H1 Q else tb σ H1 Q
def EJ (hc:PT X c tA)(ha:PE X a ta)(hb:PE X b tb):PE X (.IfExp c a b pos) (S0 tA ta tb):=by
 intro ag s σ H Q I h;refine wpAny_IfExp (cK (hc ag s σ H _ I h) λd s1 hxx=>?_);obtain⟨H1,I1,q1⟩:=hxx;cases d with
 | true=>exact ha ag s1 σ H1 Q I1 q1
 | false=>exact hb ag s1 σ H1 Q I1 q1
end
def nj (K:W.Frag)(H:Hp)(a:Addr)(xs:List V):Prop:=
 Rd H a (.lst xs)\/
  ∃(o:Obj) (its:Array Value) (n:Nat),K.lookup a=Z o/\o.cls=.type "list"/\o.dict=Y/\o.data=.seq its n/\its.size<=sizeLine/\ba xs its.toList
def rF (K:W.Frag)(H:Hp)(a:Addr)(xs:List V):Prop:=
 Rd H a (.tup xs)\/
  ∃(o:Obj) (its:Array Value) (n:Nat),K.lookup a=Z o/\o.cls=.type "tuple"/\o.data=.seq its n/\its.size<=sizeLine/\ba xs its.toList
def SD:Value->Option V
 | .none=>Z .non
 | .bool b=>Z (.bl b)
 | .int i _=>Z (.int i)
 | .str x _=>Z (.str x)
 | .bytes b _=>Z (.byt b)
 | .float b _=>Z (.flt b)
 | .ref a=>Z (.ref a)
 | .type n=>Z (.ty n)
 | _=>Y
def RelV.abs {x:V}(r:RelV x u):SD u=Z x:=by
 cases x with
 | non=>cases r;rfl
 | bl _=>cases r;rfl
 | int _=>obtain⟨t,rfl⟩:=r;rfl
 | str _=>obtain⟨t,rfl⟩:=r;rfl
 | byt _=>obtain⟨t,rfl⟩:=r;rfl
 | flt _=>obtain⟨t,rfl⟩:=r;rfl
 | ref _=>cases r;rfl
 | ty _=>cases r;rfl
def RelV.inj {x y:V}(r:RelV x u)(q:RelV y u):x=y:=Option.some.inj (r.abs.symm.trans q.abs)
theorem ba.inj:∀{xs ys:List V} {us:List Value},ba xs us->ba ys us->xs=ys
 | _,_,_,.nil,.nil=>rfl
 | _,_,_,.cons r t,.cons r' t'=>by rw[r.inj r',ba.inj t t']
section
variable {X:Cx}{ag:List (Addr×Obj)}{σ:St}{H:Hp}{s:Shared}{a:Addr}{xs ys:List V}
def Inv.list (I:Inv X ag σ H s)(h:nj X.K H a xs):∃its:List Value,ba xs its/\PlainL s.heap a its.toArray/\xs.length<=sizeLine:=by
 rcases h with h|⟨o,its,n,hk,hc,hd,hs,hz,r⟩
 ·obtain⟨z,its,n,r,e⟩:=h.ok I.hok;exact⟨its,r,⟨_,n,e,rfl,rfl,rfl⟩,z⟩
 ·refine⟨its.toList,r,⟨o,n,I.kIn a o hk,hc,hd,by simpa using hs⟩,?_⟩;have e:=r.length;simp only[Array.length_toList] at e;omega
def Inv.tuple (I:Inv X ag σ H s)(h:rF X.K H a xs):∃its:List Value,ba xs its/\IsTup s.heap a its.toArray/\xs.length<=sizeLine:=by
 rcases h with h|⟨o,its,n,hk,hc,hs,hz,r⟩
 ·obtain⟨z,its,r,p⟩:=h.ok I.hok;exact⟨its,r,p,z⟩
 ·refine⟨its.toList,r,⟨o,I.kIn a o hk,hc,n,by simpa using hs⟩,?_⟩;have e:=r.length;simp only[Array.length_toList] at e;omega
def Inv.list_inj (I:Inv X ag σ H s)(h:nj X.K H a xs)(h':nj X.K H a ys):xs=ys:=by
 obtain⟨its,r,⟨o,n,e,_,_,d⟩,_⟩:=I.list h;obtain⟨its',r',⟨o',n',e',_,_,d'⟩,_⟩:=I.list h';rw[e] at e';cases e';rw[d] at d';injection d' with d1 _
 have:its=its':=by simpa using congrArg Array.toList d1
 subst this;exact r.inj r'
def Inv.tuple_inj (I:Inv X ag σ H s)(h:rF X.K H a xs)(h':rF X.K H a ys):xs=ys:=by
 obtain⟨its,r,⟨o,e,_,n,d⟩,_⟩:=I.tuple h;obtain⟨its',r',⟨o',e',_,n',d'⟩,_⟩:=I.tuple h';rw[e] at e';cases e';rw[d] at d';injection d' with d1 _
 have:its=its':=by simpa using congrArg Array.toList d1
 subst this;exact r.inj r'
end
section
variable {X:Cx}{st:Stmt}{rest:List Stmt}{t u:TS}{e:Expr}{te:TE}{pos:Pos}
def O0:TS:=λD σ H=>D.nx σ H
def Rw (t u:TS):TS:=λD σ H=>t {D with nx:=u D} σ H
def Hs:PSs X [] O0:=λ_ _ σ H _ I h=>wpAny_execs_nil ⟨σ,H,I,h⟩
def Dx (h1:PS X st t)(h2:PSs X rest u):PSs X (st::rest) (Rw t u):=by
 intro ag s σ H D I h;refine wpAny_execs_cons (cK (h1 ag s σ H {D with nx:=u D} I h) λf s1 q=>?_);cases f with
 | next=>
  obtain⟨σ',H',I',q⟩:=q;exact h2 ag s1 σ' H' D I' q
 | ret v=>exact q
 | brk=>exact q
 | cont=>exact q
def Ho (h1:PS X st t):PSs X [st] t:=by
 intro ag s σ H D I h;refine wpAny_execs_cons (cK (h1 ag s σ H D I h) λf s1 q=>?_);cases f with
 | next=>exact wpAny_execs_nil q
 | ret v=>exact q
 | brk=>exact q
 | cont=>exact q
def Inv.quiet (I:Inv X ag σ H s):interactive X.env=false:=by simp[interactive,I.ok.kind]
def PC (te:TE):TS:=λD σ H=>te σ H λ_ H1=>D.nx σ H1
def IE (he:PE X e te)(hs:swapsWith e Y pos.line X.env=pure false:=by rfl):PS X (.Expr e pos) (PC te):=by
 intro ag s σ H D I h;exact wpAny_Expr_any (cK (he ag s σ H _ I h) λv s1 ⟨x,H1,I1,r1,q1⟩=>⟨σ,H1,I1,q1⟩) I.quiet hs
def RP (te:TE):TS:=λD σ H=>te σ H D.rt
def Lf (he:PE X e te):PS X (.Return (Z e) pos) (RP te):=by
 intro ag s σ H D I h;exact wpAny_Return_some (cK (he ag s σ H _ I h) λv s1 ⟨x,H1,I1,r1,q1⟩=>⟨x,σ,H1,I1,r1,q1⟩)
def Sq (c:TT)(t u:TS):TS:=λD σ H=>c σ H λb H1=>if b=true then t D σ H1 else u D σ H1
def Qs {a b:List Stmt}{tc:TT}(hc:PT X c tc)(ha:PSs X a t)(hb:PSs X b u):PS X (.If c a b pos) (Sq tc t u):=by
 intro ag s σ H D I h;refine wpAny_If (cK (hc ag s σ H _ I h) λd s1 hxx=>?_);obtain⟨H1,I1,q1⟩:=hxx;cases d with
 | true=>exact ha ag s1 σ H1 D I1 q1
 | false=>exact hb ag s1 σ H1 D I1 q1
end
abbrev TG:=V->St->Hp->(St->Hp->Prop)->Prop
abbrev IW:=List V->St->Hp->(St->Hp->Prop)->Prop
def PG (X:Cx)(target:Expr)(t:TG):Prop:=
 ∀(ag:List (Addr×Obj)) (s:Shared) (σ:St) (H:Hp) (v:V) (u:Value) (Q:St->Hp->Prop),Inv X ag σ H s->RelV v u->t v σ H Q->
  wpAny (model X.prog X.w) X.A (assign target X.env u) (λ_ s'=>∃σ' H',Inv X ag σ' H' s'/\Q σ' H') X.xe s
def A5 (X:Cx)(ts:List Expr)(t:IW):Prop:=
 ∀(ag:List (Addr×Obj)) (s:Shared) (σ:St) (H:Hp) (vs:List V) (us:List Value) (Q:St->Hp->Prop),Inv X ag σ H s->ba vs us->t vs σ H Q->
  wpAny (model X.prog X.w) X.A (assignInOrder ((assignEach ts X.env).map (·.2)) us) (λ_ s'=>∃σ' H',Inv X ag σ' H' s'/\Q σ' H') X.xe s
abbrev MP:=V->V->V->Hp->(Hp->Prop)->Prop
def Qb (X:Cx)(t:MP):Prop:=
 ∀(ag:List (Addr×Obj)) (s:Shared) (σ:St) (H:Hp) (o i v:V) (ov iv u:Value) (Q:Hp->Prop),Inv X ag σ H s->RelV o ov->RelV i iv->RelV v u->t o i v H Q->
  wpAny (model X.prog X.w) X.A (setItem ov iv u) (λ_ s'=>∃H',Inv X ag σ H' s'/\Q H') X.xe s
variable{es:List Expr}{tg:Expr}
section
variable {X:Cx}{pos:Pos}
def JS (i:Nat):TG:=λv σ H Q=>Q (σ.set i (Z v)) H
def JM (hN:X.N.Nodup)(hi:X.N[i]?=Z x)(hx:Eg X.env.scope x)(hf:X.fn x=true\/X.env.scope.names.lookup x=Z .local:=by first|exact .inl rfl|exact .inr rfl|assumption):PG X (.Name x pos) (JS i):=by
 intro ag s σ H v u Q I r h;exact wpAny_assign_Name (mE I hN hi hx r (λs' I'=>⟨_,H,I',h⟩) hf)
def RD:IW:=λvs σ H Q=>vs=[]/\Q σ H
def Pp (t:TG)(u:IW):IW:=λvs σ H Q=>∃v r,vs=v::r/\t v σ H λσ' H'=>u r σ' H' Q
def Bw:A5 X [] RD:=by
 intro ag s σ H vs us Q I r h;obtain⟨e,h⟩:=h;subst e;cases r;exact assignInOrder_nil ⟨σ,H,I,h⟩
def yZ {t:TG}{u:IW}(h1:PG X e t)(h2:A5 X es u)
  (hs:(assignEach (e::es) X.env).map (·.2)=assign e X.env::(assignEach es X.env).map (·.2):=by rfl):A5 X (e::es) (Pp t u):=by
 intro ag s σ H vs us Q I r h;obtain⟨v,vr,e1,h⟩:=h;subst e1;cases r with
 | cons r rr=>
  rw[hs];refine assignInOrder_cons (cK (h1 ag s σ H _ _ _ I r h) λ_ s1 hxx=>?_);obtain⟨σ1,H1,I1,q1⟩:=hxx;exact h2 ag s1 σ1 H1 _ _ Q I1 rr q1
def Sb (K:W.Frag)(n:Nat)(t:IW):TG:=λv σ H Q=>∃a xs,v=.ref a/\rF K H a xs/\xs.length=n/\t xs σ H Q
def FQ {k:Nat}{t:IW}{n:Nat}(hc:X.calm=true)(h:A5 X es t)
  (hn:(assignEach es X.env).length=n:=by rfl) (hst:(assignEach es X.env).findIdx? (·.1)=Y:=by rfl):PG X (.Tuple es k pos) (Sb X.K n t):=by
 intro ag s σ H v u Q I r hw;obtain⟨a,xs,e1,hq,hl,hw⟩:=hw;subst e1;cases r;obtain⟨its,rv,ht,hz⟩:=I.tuple hq;refine assign_Tuple_tuple (I.ok.hd hc) ht (by simp[hn,<-hl,rv.length]) hst λh' hx=>?_
 have I1:Inv X ag σ H {s with heap:=h'}:=I.kept (t':=s.toks) λb o e=>hx b o (Nat.ne_of_lt (Heap.lt_size e)) e
 exact h ag _ σ H xs _ Q I1 (by simpa using rv) hw
def Sg (to ti:TE)(t:MP):TG:=λv σ H Q=>to σ H λo H1=>ti σ H1 λi H2=>t o i v H2 λH3=>Q σ H3
def Kk {o i:Expr}{to ti:TE}{t:MP}(ho:PE X o to)(hi:PE X i ti)(hs:Qb X t)
  (ha:∀v,assign (.Subscript o i pos) X.env v=(do
   let ov <-holding [v] (eval o X.env)
   let iv <-holding [v,ov] (eval i X.env)
   standAt pos
   holding [v,ov,iv] (setItem ov iv v)
   release [v,ov,iv] []):=by intro _;rfl):PG X (.Subscript o i pos) (Sg to ti t):=by
 intro ag s σ H v u Q I r h;rw[ha];refine wpAny_bind (wpAny_holding (cK (ho ag s σ H _ I h) λov s1 hxx=>?_));obtain⟨x,H1,I1,r1,q1⟩:=hxx;refine wpAny_bind (wpAny_holding (cK (hi ag s1 σ H1 _ I1 q1) λiv s2 hxx=>?_));obtain⟨y,H2,I2,r2,q2⟩:=hxx;refine wpAny_bind (wpAny_standAt (wpAny_bind (wpAny_holding (cK (hs ag s2 σ H2 x y v ov iv u _ I2 r1 r2 r q2) λ_ s3 hxx=>?_))));obtain⟨H3,I3,q3⟩:=hxx;exact wpAny_release ⟨σ,H3,I3,q3⟩
def OI (te:TE)(g:TG):TS:=λD σ H=>te σ H λx H1=>g x σ H1 D.nx
def EI {te:TE}{g:TG}(he:PE X e te)(hg:PG X tg g)(hs:swapsWithSole [tg] e pos.line X.env=pure false:=by rfl)(hw:swappedStores [tg] e X.env=pure Y:=by rfl)
  (h1:(assignEach [tg] X.env).map (·.2)=[assign tg X.env]:=by rfl):PS X (.Assign [tg] e pos) (OI te g):=by
 intro ag s σ H D I h;refine wpAny_Assign_stores (cK (he ag s σ H _ I h) λv s1 hxx=>?_) hs hw;obtain⟨x,H1,I1,r1,q1⟩:=hxx;rw[h1];exact cK (hg ag s1 σ H1 x v _ I1 r1 q1) λ_ s2 q=>q
def NK {te:TE}{pos':Pos}(hN:X.N.Nodup)(hi:X.N[i]?=Z x)(hx:Eg X.env.scope x)(he:PE X e te)(hs:swapsWith e (Z (.Name x pos')) pos.line X.env=pure false:=by rfl)(hf:X.fn x=true\/X.env.scope.names.lookup x=Z .local:=by first|exact .inl rfl|exact .inr rfl|assumption) :
  PS X (.Assign [.Name x pos'] e pos) (OI te (JS i)):=by
 intro ag s σ H D I h;refine wpAny_Assign_Name (cK (he ag s σ H _ I h) λv s1 hxx=>?_) hs;obtain⟨y,H1,I1,r1,q1⟩:=hxx;exact mE I1 hN hi hx r1 (λs2 I2=>⟨_,H1,I2,q1⟩) hf
def Rx (i j:Nat)(ta:TA):TS:=λD σ H=>ta σ H λvs H1=>∃v w,vs=[v,w]/\D.nx ((σ.set i (Z v)).set j (Z w)) H1
def Mh {j:Nat}{y:Str}{a b:Expr}{ta:TA}{px py pt:Pos}{kt k2 pt2}(hc:X.calm=true)(hN:X.N.Nodup)(hi:X.N[i]?=Z x)(hj:X.N[j]?=Z y)(hij:i≠j)
  (hx:X.env.scope.names.lookup x=Z .local) (hy:X.env.scope.names.lookup y=Z .local) (ha:PA X [a,b] ta)
  (hw:swappedStores [.Tuple [.Name x px,.Name y py] kt pt] (.Tuple [a,b] k2 pt2) X.env=pure (Z [x,y]))
  (hs:swapsWithSole [.Tuple [.Name x px,.Name y py] kt pt] (.Tuple [a,b] k2 pt2) pos.line X.env=pure false:=by rfl) :
  PS X (.Assign [.Tuple [.Name x px,.Name y py] kt pt] (.Tuple [a,b] k2 pt2) pos) (Rx i j ta):=by
 intro ag s σ H D I h;rw[exec_Assign_arm];refine wpAny_bind (wpAny_standAt ?_);rw[hs];refine wpAny_bind (wpAny_pure ?_);rw[if_neg (by decide)];refine wpAny_bind (Tuple_ (cK (ha _ ag s σ H _ I h) λus s1 hxx=>?_));obtain⟨vs,H1,I1,r1,q1⟩:=hxx;obtain⟨v,w,e1,q1⟩:=q1;subst e1;obtain⟨u1,u2,rfl,rv,rw'⟩:∃u1 u2,us=[u1,u2]/\RelV v u1/\RelV w u2:=by
  cases r1 with
  | cons p q=>
   cases q with
   | cons p' q'=>
    cases q';exact⟨_,_,rfl,p,p'⟩
 refine wpAny_newObj_type ?_ (by show 2<=sizeLine;decide);have I2:Inv X ag σ H1 {s1 with heap:=s1.heap.push {cls:=.type "tuple",data:=.seq [u1,u2].toArray}}:=I1.kept (t':=s1.toks) λb o e=>Heap.get?_push_of_some _ e
 rw[hw];refine wpAny_bind (wpAny_pure ?_);show wpAny (model X.prog X.w) X.A (do rule "assign.swapped-stores";let items <-unpackItems (.ref s1.heap.objs.size) 2 Y;assignInOrder [λv=>bindName X.env y v,λv=>bindName X.env x v] items.reverse;pure Flow.next) _ _ _;refine wpAny_bind (wpAny_rule (wpAny_bind (unpackItems_tuple (items:=#[u1,u2]) (I.ok.hd hc) (IsTup.new s1.heap _) λh' hx'=>?_)));have I3:=I2.kept (h':=h') (t':=s1.toks) λb o e=>hx' b o (Nat.ne_of_lt (Heap.lt_size e)) e
 show wpAny _ _ (assignInOrder [λv=>bindName X.env y v,λv=>bindName X.env x v] [u2,u1] >>= λ_=>pure Flow.next) _ _ _;refine wpAny_bind (assignInOrder_cons (wpAny_bindName (mE I3 hN hj (.inl hy) rw' (λs2 I4=>?_) (.inr hy))));refine assignInOrder_cons (wpAny_bindName (mE I4 hN hi (.inl hx) rv (λs3 I5=>assignInOrder_nil (wpAny_pure ?_)) (.inr hx)));rw[set_comm _ _ (Ne.symm hij)] at I5;exact⟨_,H1,I5,q1⟩
end
variable{body:List Stmt}
section
variable {X:Cx}{pos:Pos}
def Ln (c:TT)(tb:TS):TS:=λD σ H=>∃W:Nat->St->Hp->Prop,(∃m,W m σ H)/\∀m σ H,W m σ H->
 c σ H λb H1=>if b=true then∃N:St->Hp->Prop,(∀σ' H',N σ' H'->∃m',m'<m/\W m' σ' H')/\tb {D with nx:=N,ct:=N,bk:=D.nx} σ H1 else D.nx σ H1
def F9 {tc:TT}{tb:TS}(hp:PassesOwn (model X.prog X.w) X.A X.env X.xe)(hc:PT X c tc)(hb:PSs X body tb):PS X (.While c body [] pos) (Ln tc tb):=by
 intro ag s σ H D I h;obtain⟨W,⟨m0,w0⟩,turn⟩:=h;refine wpAny_While (codeAny_whileLoop (λn s'=>∃σ' H',Inv X ag σ' H' s'/\W n σ' H') ?_ m0 ⟨σ,H,I,w0⟩);rintro n s1 ⟨σ1,H1,I1,w1⟩;refine wpAny_passesOwn hp (cK (hc ag s1 σ1 H1 _ I1 (turn n σ1 H1 w1)) λb s2 hxx=>?_);obtain⟨H2,I2,q2⟩:=hxx;cases b with
 | true=>
  obtain⟨N,hN,q2⟩:=q2;rw[if_pos rfl];refine wpAny_passesOwn hp (cK (hb ag s2 σ1 H2 _ I2 q2) λf s3 q3=>?_);cases f with
  | next=>
   obtain⟨σ3,H3,I3,n3⟩:=q3;obtain⟨m',hm,w3⟩:=hN σ3 H3 n3;exact⟨m',hm,σ3,H3,I3,w3⟩
  | cont=>
   obtain⟨σ3,H3,I3,n3⟩:=q3;obtain⟨m',hm,w3⟩:=hN σ3 H3 n3;exact⟨m',hm,σ3,H3,I3,w3⟩
  | brk=>exact q3
  | ret v=>exact q3
 | false=>
  rw[if_neg Bool.false_ne_true];exact wpAny_execs_nil ⟨σ1,H2,I2,q2⟩
end
structure It where
 go:Nat->Hp->Prop
 yld:Nat->Hp->V->Hp->Prop
 stop:Nat->Hp->Prop
def ky (X:Cx)(ag:List (Addr×Obj))(H:Hp)(b:Addr):Prop:=
 H b=Y/\b≠X.env.locals/\b∉X.fs/\(b∈X.ex\/X.s₀.heap.objs.size<=b)/\(∀x c,X.env.cells.lookup x=Z c->c≠b)/\∀p∈X.pn++ag,p.1≠b
def Inv.fpOk {X:Cx}{H':Hp}(I:Inv X ag σ H s)(hb:s.heap.objs.size<=b)(hn:H' b=Y):ky X ag H' b:=by
 refine⟨hn,Nat.ne_of_gt (Nat.lt_of_lt_of_le I.lt hb),I.nofs hb,.inr (Nat.le_trans I.sz hb),λx c e z=>?_,λp hp z=>?_⟩
 ·obtain⟨v,q⟩:=I.cell x c e;exact absurd (Nat.lt_of_lt_of_le q.lt (by rw[z];exact hb)) (Nat.lt_irrefl _)
 ·exact absurd (Nat.lt_of_lt_of_le (Heap.lt_size (I.pin p hp).1) (by rw[z];exact hb)) (Nat.lt_irrefl _)
structure Cm (P:Program)(w:World)(K:W.Frag)(tg:Expr)(J:It)(fp:List Addr)(it:Addr)(tn:Nat->Heap->Prop):Prop where
 mem:it∈fp
 obj:∀i h,tn i h->∀b∈fp,∃o,h.get? b=Z o/\∀v,o.data≠.cell v
 keep:∀i h h',tn i h->(∀b∈fp,∀o,h.get? b=Z o->h'.get? b=Z o)->tn i h'
 item:∀(X:Cx),X.prog=P->X.w=w->X.K=K->X.calm=true->∀(i:Nat) (ag:List (Addr×Obj)) (s:Shared) (σ:St) (H:Hp) (E:Value->Shared->Prop),Inv X ag σ H s->(∀b∈fp,ky X ag H b)->tn i s.heap->J.go i H->
  wpAny (model P w) X.A (pyNext (.ref it)) (λr s1=>∃u,r=Z u/\
   wpAny (model P w) X.A (letOwnedTupleGo tg (.ref it) u) (λ_ s2=>∃x H',Inv X ag σ H' s2/\RelV x u/\J.yld i H x H'/\tn (i+1) s2.heap/\∀b∈fp,H' b=Y) E s1) E s
 done:∀(X:Cx),X.prog=P->X.w=w->X.K=K->X.calm=true->∀(i:Nat) (ag:List (Addr×Obj)) (s:Shared) (σ:St) (H:Hp) (E:Value->Shared->Prop),Inv X ag σ H s->(∀b∈fp,ky X ag H b)->tn i s.heap->J.stop i H->
  wpAny (model P w) X.A (pyNext (.ref it)) (λr s1=>r=Y/\Inv X ag σ H s1) E s
 self:∀(A:Around) (i:Nat) (s:Shared) (Q:Value->Shared->Prop) (E:Value->Shared->Prop),tn i s.heap->Q (.ref it) s->wpAny (model P w) A (pyIter (.ref it)) Q E s
abbrev TI:=St->Hp->(It->Hp->Prop)->Prop
def Rm (X:Cx)(ag:List (Addr×Obj))(σ:St)(tg:Expr)(R:It->Hp->Prop)(itv:Value)(s2:Shared):Prop:=
 ∃(it:Addr) (fp:List Addr) (tn:Nat->Heap->Prop) (J:It) (H':Hp),itv=.ref it/\Inv X ag σ H' s2/\Cm X.prog X.w X.K tg J fp it tn/\tn 0 s2.heap/\(∀b∈fp,ky X ag H' b)/\R J H'
def PI (X:Cx)(tg iter:Expr)(wi:TI):Prop:=
 ∀(ag:List (Addr×Obj)) (s:Shared) (σ:St) (H:Hp) (R:It->Hp->Prop),Inv X ag σ H s->wi σ H R->
  wpAny (model X.prog X.w) X.A (eval iter X.env) (λv s1=>wpAny (model X.prog X.w) X.A (pyIter v) (Rm X ag σ tg R) X.xe s1) X.xe s
def DG {M:Model}{it:Addr}{o:Obj}{n:String}{vs:Array Value}{Q:Unit->Shared->Prop}(ho:s.heap.get? it=Z o)(hc:o.cls=.type n)(hd:o.data=.fields vs)
  (hn:["enumerate","zip","dict_itemiterator","dict_reverseitemiterator","odict_iterator","itertools.zip_longest","itertools.pairwise"].contains n=false) (hQ:Q () s):wpAny M A (letOwnedTupleGo tg (.ref it) u) Q E s:=by
 unfold letOwnedTupleGo;cases tg <;> first
  | exact wpAny_pure hQ
  | (cases u <;> first
    | exact wpAny_pure hQ
    | (refine wpAny_bind (wpAny_load ho ?_)
       rw[hc,hd];show wpAny M A (if(["enumerate","zip","dict_itemiterator","dict_reverseitemiterator","odict_iterator","itertools.zip_longest","itertools.pairwise"].contains n&&vs[0]?==Z (rawInt _))=true then _ else _) Q E s;rw[if_neg (by intro h;rw[hn,Bool.false_and] at h;cases h)];exact wpAny_pure hQ))
def QQ (K:W.Frag)(a:Addr):It:=
 ⟨λi H=>∃xs x,nj K H a xs/\xs[i]?=Z x,λi H x H'=>H'=H/\∀xs,nj K H a xs->xs[i]?=Z x,λi H=>∃xs,nj K H a xs/\xs.length<=i⟩
def R4 (K:W.Frag)(a:Addr):It:=
 ⟨λi H=>∃xs x,rF K H a xs/\xs[i]?=Z x,λi H x H'=>H'=H/\∀xs,rF K H a xs->xs[i]?=Z x,λi H=>∃xs,rF K H a xs/\xs.length<=i⟩
def QZ (lo:Int)(n:Nat):It:=⟨λi _=>i<n,λi H x H'=>H'=H/\x=.int (lo+i),λi _=>n<=i⟩
variable{K:W.Frag}
def Cs (a it:Addr):Cm P w K tg (QQ K a) [it] it (λi h=>h.IsListIter it a i) where
 mem:=by simp
 obj:=λi h st b hb=>by
  have e:b=it:=by simpa using hb
  subst e;obtain⟨o,e,c,d⟩:=st;exact⟨o,e,λv z=>by rw[d] at z;cases z⟩
 keep:=λi h h' st k=>st.at λo e=>k it (by simp) o e
 item:=by
  intro X hP hw hK hc i ag s σ H E I hf st hg;subst hP hw hK;obtain⟨xs,x,hq,hx⟩:=hg;obtain⟨its,rv,p,hz⟩:=I.list hq;obtain⟨u,hu,ru⟩:=rv.get hx;obtain⟨f0,f1,f2,f3,f4,f5⟩:=hf it (by simp);refine wpAny_pyNext_list_item st p.isList (x:=u) (by simpa using hu) λh' st' sb=>?_
  have I1:Inv X ag σ H {s with heap:=h'}:=I.turned (t':=s.toks) (λb o hb e=>(sb.2 b hb).trans e) f0 f1 f3 f4 f5;obtain⟨o,e,c,d⟩:=id st';exact⟨u,rfl,DG (s:={s with heap:=h'}) e c d (by decide) ⟨x,H,I1,ru,⟨rfl,λys hy=>by rw[I.list_inj hy hq];exact hx⟩,st',λb hb=>(hf b hb).1⟩⟩
 done:=by
  intro X hP hw hK hc i ag s σ H E I hf st hg;subst hP hw hK;obtain⟨xs,hq,hx⟩:=hg;obtain⟨its,rv,p,hz⟩:=I.list hq;obtain⟨f0,f1,f2,f3,f4,f5⟩:=hf it (by simp);have hl:=rv.length;exact wpAny_pyNext_list_end (I.ok.hd hc) st p.isList (by simp;omega) λh' eb=>⟨rfl,I.turned (t':=s.toks) (λb o hb e=>eb b o hb e) f0 f1 f3 f4 f5⟩
 self:=λ_ _ _ _ _ st h=>wpAny_pyIter_listiter st h
def Az (a it:Addr):Cm P w K tg (R4 K a) [it] it (λi h=>h.IsTupleIter it a i) where
 mem:=by simp
 obj:=λi h st b hb=>by
  have e:b=it:=by simpa using hb
  subst e;obtain⟨o,e,c,d⟩:=st;exact⟨o,e,λv z=>by rw[d] at z;cases z⟩
 keep:=λi h h' st k=>st.at λo e=>k it (by simp) o e
 item:=by
  intro X hP hw hK hc i ag s σ H E I hf st hg;subst hP hw hK;obtain⟨xs,x,hq,hx⟩:=hg;obtain⟨its,rv,p,hz⟩:=I.tuple hq;obtain⟨u,hu,ru⟩:=rv.get hx;obtain⟨f0,f1,f2,f3,f4,f5⟩:=hf it (by simp);refine wpAny_pyNext_tuple_item st (show s.heap.IsTuple a its.toArray from p) (x:=u) (by simpa using hu) λh' st' sb=>?_
  have I1:Inv X ag σ H {s with heap:=h'}:=I.turned (t':=s.toks) (λb o hb e=>(sb.2 b hb).trans e) f0 f1 f3 f4 f5;obtain⟨o,e,c,d⟩:=id st';exact⟨u,rfl,DG (s:={s with heap:=h'}) e c d (by decide) ⟨x,H,I1,ru,⟨rfl,λys hy=>by rw[I.tuple_inj hy hq];exact hx⟩,st',λb hb=>(hf b hb).1⟩⟩
 done:=by
  intro X hP hw hK hc i ag s σ H E I hf st hg;subst hP hw hK;obtain⟨xs,hq,hx⟩:=hg;obtain⟨its,rv,p,hz⟩:=I.tuple hq;obtain⟨f0,f1,f2,f3,f4,f5⟩:=hf it (by simp);have hl:=rv.length;exact wpAny_pyNext_tuple_end (I.ok.hd hc) st (show s.heap.IsTuple a its.toArray from p) (by simp;omega) λh' eb=>⟨rfl,I.turned (t':=s.toks) (λb o hb e=>eb b o hb e) f0 f1 f3 f4 f5⟩
 self:=λ_ _ _ _ _ st h=>wpAny_pyIter_tupleiter st h
def zT (it:Addr)(lo:Int)(n:Nat):Cm P w K tg (QZ lo n) [it] it (λi h=>IsRangeIter h it (lo+(i:Nat)*1) ((n:Int)-(i:Nat)) 1) where
 mem:=by simp
 obj:=λi h st b hb=>by
  have e:b=it:=by simpa using hb
  subst e;exact⟨_,st,λv z=>by
   have z':Data.fields _=Data.cell v:=z;cases z'⟩
 keep:=λi h h' st k=>k it (by simp) _ st
 item:=by
  intro X hP hw hK hc i ag s σ H E I hf st hg;subst hP hw hK;obtain⟨f0,f1,f2,f3,f4,f5⟩:=hf it (by simp);have W:=Walks.range (prog:=X.prog) (w:=X.w) (I.ok.hd hc) it lo 1 n;refine W.item i s _ _ hg st λv h' tk hv st' kk=>?_
  obtain⟨t,rfl⟩:=hv;have I1:Inv X ag σ H {s with heap:=h',toks:=tk}:=I.turned (λb o hb e=>kk b o (by simpa using hb) e) f0 f1 f3 f4 f5;refine⟨_,rfl,DG (s:={s with heap:=h',toks:=tk}) (n:="range_iterator") st' rfl rfl (by decide) ⟨.int (lo+i),H,I1,⟨t,?_⟩,⟨rfl,rfl⟩,st',λb hb=>(hf b hb).1⟩⟩;rw[Int.mul_one]
 done:=by
  intro X hP hw hK hc i ag s σ H E I hf st hg;subst hP hw hK;obtain⟨f0,f1,f2,f3,f4,f5⟩:=hf it (by simp);exact wpAny_pyNext_range_end (I.ok.hd hc) st (by have:n<=i:=hg;omega) λh' eb=>⟨rfl,I.turned (t':=s.toks) (λb o hb e=>eb b o hb e) f0 f1 f3 f4 f5⟩
 self:=λ_ _ _ _ _ st h=>wpAny_pyIter_rangeiter st h
variable{fp:List Addr}
section
variable {X:Cx}{tg:Expr}
def Dy {R:It->Hp->Prop}{lo hi:Int}{t u v:Tok}{tk:Nat}(I:Inv X ag σ H s)(h1:-(2 ^ 62)<=lo)(h2:lo<2 ^ 62)(h3:-(2 ^ 62)<=hi)(h4:hi<2 ^ 62)
  (q:R (QZ lo (hi-lo).toNat) H):wpAny (model X.prog X.w) X.A (pyIter (.ref s.heap.objs.size)) (Rm X ag σ tg R) E {s with heap:=s.heap.push {cls:=.type "range",data:=.fields #[.int lo t,.int hi u,.int 1 v]},toks:=tk}:=by
 refine wpAny_pyIter_range (IsRange.new ..) (small_one h1 h2 h3 h4) ?_;have I1:Inv X ag σ H {s with heap:=s.heap.push {cls:=.type "range",data:=.fields #[.int lo t,.int hi u,.int 1 v]},toks:=tk}:=I.kept λb o e=>Heap.get?_push_of_some _ e
 refine⟨(s.heap.push {cls:=.type "range",data:=.fields #[.int lo t,.int hi u,.int 1 v]}).objs.size,[(s.heap.push {cls:=.type "range",data:=.fields #[.int lo t,.int hi u,.int 1 v]}).objs.size],_,_,H,rfl,
  I1.kept (t':=tk) λb o e=>Heap.get?_push_of_some _ e,zT _ lo (hi-lo).toNat,?_,λb hb=>?_,q⟩
 ·have e1:lo+((0:Nat):Int)*1=lo:=by simp
  have e2:(((hi-lo).toNat:Nat):Int)-((0:Nat):Int)=Builtin.Range.rangeSize lo hi 1:=by rw[rangeSize_one];split <;> omega
  show IsRangeIter _ _ (lo+((0:Nat):Int)*1) ((((hi-lo).toNat:Nat):Int)-((0:Nat):Int)) 1;rw[e1,e2];exact Heap.get?_push_size _ rfl
 ·have e:b=(s.heap.push {cls:=.type "range",data:=.fields #[.int lo t,.int hi u,.int 1 v]}).objs.size:=by simpa using hb
  subst e;exact I1.fpOk (Nat.le_refl _) (I1.hok.fresh (Nat.le_refl _))
def Ov (ta:TA):TI:=λσ H R=>ta σ H λvs H1=>∃j:Int,vs=[.int j]/\-(2 ^ 62)<=j/\j<2 ^ 62/\R (QZ 0 j.toNat) H1
def Dg {a:Expr}{ta:TA}{p pos:Pos}(hg:Gl X "range")(hm:X.mg "range"=Y)(ha:PA X [a] ta)(hs:starEach [a] X.env=[(false,eval a X.env)]:=by rfl):PI X tg (.Call (.Name "range" p) [a] [] pos) (Ov ta):=by
 intro ag s σ H R I h;refine Call_ (qx I hg hm boot_range (PyProof.Rows.callWith_type1 (cK (ha pos ag s σ H _ I h) λus s1 hxx=>?_) hs rfl));obtain⟨vs,H1,I1,r1,q1⟩:=hxx;obtain⟨j,e,q1,q2,q⟩:=q1;subst e;cases r1 with
 | cons r rr=>
  cases rr;obtain⟨t,rfl⟩:=r;exact call_range_1 (Dy I1 (by omega) (by omega) q1 q2 (by simpa using q))
def Sf (wi:TI)(g:TG)(tb:TS):TS:=λD σ H=>wi σ H λJ H1=>∃W:Nat->Nat->St->Hp->Prop,(∃m,W 0 m σ H1)/\∀i m σ H,W i m σ H->
 (J.stop i H/\D.nx σ H)\/(J.go i H/\∃N:St->Hp->Prop,(∀σ' H',N σ' H'->∃m',m'<m/\W (i+1) m' σ' H')/\∀x H',J.yld i H x H'->g x σ H' λσ2 H2=>tb {D with nx:=N,ct:=N,bk:=D.nx} σ2 H2)
def tX (fp:List Addr)(h:Heap):List (Addr×Obj):=fp.filterMap λb=>(h.get? b).map λo=>(b,o)
def lA {o:Obj}(hb:b∈fp)(e:h.get? b=Z o):(b,o)∈tX fp h:=mem_filterMap.mpr ⟨b,hb,by rw[e];rfl⟩
def Cp {p:Addr×Obj}(hp:p∈tX fp h):p.1∈fp/\h.get? p.1=Z p.2:=by
 obtain⟨b,hb,e⟩:=mem_filterMap.mp hp;cases q:h.get? b with
 | none=>rw[q] at e;cases e
 | some o=>
  rw[q] at e;have e':(b,o)=p:=Option.some.inj e;subst e';exact⟨hb,q⟩
def Inv.pinned (I:Inv X ag σ H s)(hf:∀b∈fp,ky X ag H b)(ho:∀b∈fp,∃o,s.heap.get? b=Z o/\∀v,o.data≠.cell v):Inv X (ag++tX fp s.heap) σ H s:=
 I.pins_of λp hp=>(mem_append.mp hp).elim (λz=>I.pin p (mem_append_right _ z)) λz=>by
  obtain⟨hb,e⟩:=Cp z;obtain⟨f0,f1,f2,_⟩:=hf p.1 hb;obtain⟨o,e',d⟩:=ho p.1 hb;rw[e] at e';cases e';exact⟨e,f0,f1,f2,d⟩
def Inv.unpinned {pl:List (Addr×Obj)}(I:Inv X (ag++pl) σ H s):Inv X ag σ H s:=I.pins_of λp hp=>I.pin p (mem_append_right _ (mem_append_left _ hp))
def Mn {iter:Expr}{wi:TI}{g:TG}{tb:TS}{pos:Pos}(hp:PassesOwn (model X.prog X.w) X.A X.env X.xe)(hc:X.calm=true)(hi:PI X tg iter wi)(hg:PG X tg g)(hb:PSs X body tb)
  (hs:∀x,foldedSetIterable iter X.env x=pure x:=by intro _;rfl):PS X (.For tg iter body [] pos) (Sf wi g tb):=by
 intro ag s σ H D I h;refine wpAny_For (cK (hi ag s σ H _ I h) λv s1 h1=>cK h1 λitv s2 h2=>?_) hs;obtain⟨it,fp,tn,J,H2,e,I2,T,BZ,f2,W,⟨m0,w0⟩,turn⟩:=h2;subst e;have stat:∀{H':Hp},(∀b∈fp,H' b=Y)->∀b∈fp,ky X ag H' b:=λhn b hb=>⟨hn b hb,(f2 b hb).2⟩
 refine codeAny_forLoop_any (λn s'=>∃i σ' H',Inv X ag σ' H' s'/\tn i s'.heap/\(∀b∈fp,H' b=Y)/\W i n σ' H') ?_ m0 ⟨0,σ,H2,I2,BZ,λb hb=>(f2 b hb).1,w0⟩;rintro n s3 ⟨i,σ3,H3,I3,Qt,fr3,w3⟩;rcases turn i n σ3 H3 w3 with⟨stop,qn⟩|⟨go,N,hN,step⟩
 ·refine wpAny_passesOwn hp (cK (T.done X rfl rfl rfl hc i ag s3 σ3 H3 X.xe I3 (stat fr3) Qt stop) λr s4 hxx=>?_);obtain⟨hr,I4⟩:=hxx;subst hr;exact wpAny_execs_nil ⟨σ3,H3,I4,qn⟩
 ·refine wpAny_passesOwn hp (cK (T.item X rfl rfl rfl hc i ag s3 σ3 H3 X.xe I3 (stat fr3) Qt go) λr s4 hxx=>?_);obtain⟨u,hr,h4⟩:=hxx;subst hr;refine wpAny_passesOwn hp (cK h4 λ_ s5 hxx=>?_);obtain⟨x,H5,I5,r5,y5,st5,fr5⟩:=hxx;have I5':=I5.pinned (stat fr5) (T.obj _ _ st5);refine wpAny_passesOwn hp (cK (hg _ s5 σ3 H5 x u _ I5' r5 (step x H5 y5)) λ_ s6 hxx=>?_);obtain⟨σ6,H6,I6,q6⟩:=hxx;refine wpAny_passesOwn hp (cK (hb _ s6 σ6 H6 _ I6 q6) λf s7 q7=>?_);have again:∀{σ7:St} {H7:Hp},Inv X (ag++tX fp s5.heap) σ7 H7 s7->N σ7 H7->∃m,m<n/\∃i σ' H',Inv X ag σ' H' s7/\tn i s7.heap/\(∀b∈fp,H' b=Y)/\W i m σ' H':=λ{σ7 H7} I7 n7=>by
   obtain⟨m',hm,w7⟩:=hN σ7 H7 n7;refine⟨m',hm,i+1,σ7,H7,I7.unpinned,T.keep _ _ _ st5 λb hb o e=>(I7.pin (b,o) (mem_append_right _ (mem_append_right _ (lA hb e)))).1,λb hb=>?_,w7⟩;obtain⟨o,e,d⟩:=T.obj _ _ st5 b hb;exact(I7.pin (b,o) (mem_append_right _ (mem_append_right _ (lA hb e)))).2.1
  cases f with
  | next=>obtain⟨σ7,H7,I7,n7⟩:=q7;exact again I7 n7
  | cont=>obtain⟨σ7,H7,I7,n7⟩:=q7;exact again I7 n7
  | brk=>obtain⟨σ7,H7,I7,q7⟩:=q7;exact⟨σ7,H7,I7.unpinned,q7⟩
  | ret v=>obtain⟨x7,σ7,H7,I7,r7,q7⟩:=q7;exact⟨x7,σ7,H7,I7.unpinned,r7,q7⟩
end
abbrev R2:=V->V->Hp->VK->Prop
def iV (X:Cx)(f:Value->Value->Sem Value)(r:R2):Prop:=
 ∀(ag:List (Addr×Obj)) (s:Shared) (σ:St) (H:Hp) (x y:V) (v u:Value) (Q:VK),Inv X ag σ H s->RelV x v->RelV y u->r x y H Q->
  wpAny (model X.prog X.w) X.A (f v u) (EP X ag σ Q) X.xe s
def Sx (X:Cx)(f:Value->Sem Value)(r:V->Hp->VK->Prop):Prop:=
 ∀(ag:List (Addr×Obj)) (s:Shared) (σ:St) (H:Hp) (x:V) (v:Value) (Q:VK),Inv X ag σ H s->RelV x v->r x H Q->
  wpAny (model X.prog X.w) X.A (f v) (EP X ag σ Q) X.xe s
def d9 (X:Cx)(f:Value)(r:List V->Hp->VK->Prop):Prop:=
 ∀(ag:List (Addr×Obj)) (s:Shared) (σ:St) (H:Hp) (xs:List V) (us:List Value) (Q:VK),Inv X ag σ H s->ba xs us->r xs H Q->
  wpAny (model X.prog X.w) X.A (call f us) (EP X ag σ Q) X.xe s
def So (X:Cx)(r:V->Hp->(Bool->Hp->Prop)->Prop):Prop:=
 ∀(ag:List (Addr×Obj)) (s:Shared) (σ:St) (H:Hp) (x:V) (v:Value) (Q:Bool->Hp->Prop),Inv X ag σ H s->RelV x v->r x H Q->
  wpAny (model X.prog X.w) X.A (truthy v) (TP X ag σ Q) X.xe s
def OC (r:R2)(ta tb:TE):TE:=λσ H Q=>ta σ H λx H1=>tb σ H1 λy H2=>r x y H2 Q
def S4 (r:V->Hp->VK->Prop)(ta:TE):TE:=λσ H Q=>ta σ H λx H1=>r x H1 Q
def rI (C:Int->Int->Prop)(g:Int->Int->V):R2:=λx y H Q=>∃i j,x=.int i/\y=.int j/\C i j/\Q (g i j) H
def JU (g:Int->Int->V):R2:=λx y H Q=>∃i j,x=.int i/\y=.int j/\Q (g i j) H
def rU (g:Int->V):V->Hp->VK->Prop:=λx H Q=>∃i,x=.int i/\Q (g i) H
variable{f:Value->Value->Sem Value}{r:R2}{g:Int->Int->Int}
section
variable {X:Cx}{a b c:Expr}{ta tb tc:TE}{pos:Pos}
def Nz (ha:PE X a ta)(hb:PE X b tb){R:V->V->Hp->Prop}(I:Inv X ag σ H s)
  (h:ta σ H λx H1=>tb σ H1 λy H2=>R x y H2)  
  (hf:∀v u s2 x y H2,Inv X ag σ H2 s2->RelV x v->RelV y u->R x y H2->wpAny (model X.prog X.w) X.A (f v u) Q X.xe s2) :
  wpAny (model X.prog X.w) X.A (eval a X.env) (λv s₁=>wpAny (model X.prog X.w) X.A (eval b X.env) (λu s₂=>wpAny (model X.prog X.w) X.A (f v u) Q X.xe s₂) X.xe s₁) X.xe s:=by
 refine cK (ha ag s σ H _ I h) λv s1 hxx=>?_
 obtain⟨x,H1,I1,r1,q1⟩:=hxx;refine cK (hb ag s1 σ H1 _ I1 q1) λu s2 hxx=>?_
 obtain⟨y,H2,I2,r2,q2⟩:=hxx;exact hf v u s2 x y H2 I2 r1 r2 q2
def Of {op:Operator}(ho:iV X (binaryOp op) r)(ha:PE X a ta)(hb:PE X b tb):PE X (.BinOp a op b pos) (OC r ta tb):=by
 intro ag s σ H Q I h;exact wpAny_BinOp (Nz ha hb I h λv u s2 x y H2 I2 rx ry q=>ho ag s2 σ H2 x y v u Q I2 rx ry q)
def Kj {op:UnaryOp}{r:V->Hp->VK->Prop}(ho:Sx X (unaryOp op) r)(ha:PE X a ta):PE X (.UnaryOp op a pos) (S4 r ta):=by
 intro ag s σ H Q I h;exact UnaryOp_ (cK (ha ag s σ H _ I h) λv s1 ⟨x,H1,I1,r1,q1⟩=>ho ag s1 σ H1 x v Q I1 r1 q1)
def R5 {f:Value->Value->Sem Value}{C:Int->Int->Prop}
  (rule:∀(i j:Int) (t u:Tok) (s:Shared) (Q:Value->Shared->Prop) (E:Value->Shared->Prop),C i j->Q (.int (g i j) s.toks) {s with toks:=s.toks+1}->wpAny (model X.prog X.w) X.A (f (.int i t) (.int j u)) Q E s) :
  iV X f (rI C λi j=>.int (g i j)):=by
 intro ag s σ H x y v u Q I rx ry h;obtain⟨i,j,rfl,rfl,hc,q⟩:=h;obtain⟨t,rfl⟩:=rx;obtain⟨t',rfl⟩:=ry;exact rule i j t t' s _ _ hc ⟨.int (g i j),H,I.tok _,⟨_,rfl⟩,q⟩
def Pw {f:Value->Value->Sem Value}
  (rule:∀(i j:Int) (t u:Tok) (s:Shared) (Q:Value->Shared->Prop) (E:Value->Shared->Prop),Q (.int (g i j) s.toks) {s with toks:=s.toks+1}->wpAny (model X.prog X.w) X.A (f (.int i t) (.int j u)) Q E s) :
  iV X f (JU λi j=>.int (g i j)):=by
 intro ag s σ H x y v u Q I rx ry h;obtain⟨i,j,rfl,rfl,q⟩:=h;obtain⟨t,rfl⟩:=rx;obtain⟨t',rfl⟩:=ry;exact rule i j t t' s _ _ ⟨.int (g i j),H,I.tok _,⟨_,rfl⟩,q⟩
def JO {g:Int->Int->Bool}
  (rule:∀(i j:Int) (t u:Tok) (s:Shared) (Q:Value->Shared->Prop) (E:Value->Shared->Prop),Q (.bool (g i j)) s->wpAny (model X.prog X.w) X.A (f (.int i t) (.int j u)) Q E s) :
  iV X f (JU λi j=>.bl (g i j)):=by
 intro ag s σ H x y v u Q I rx ry h;obtain⟨i,j,rfl,rfl,q⟩:=h;obtain⟨t,rfl⟩:=rx;obtain⟨t',rfl⟩:=ry;exact rule i j t t' s _ _ ⟨.bl (g i j),H,I,rfl,q⟩
def RE (i j:Int):Prop:=0<=j/\j<=1000000/\i.natAbs<2 ^ 64
def MK (i j:Int):Prop:=(-(2 ^ 64)<i/\i<2 ^ 64)\/(-(2 ^ 64)<j/\j<2 ^ 64)
def MK.ok {i j:Int}(h:MK i j):IntMulOk i j:=by
 rcases h with⟨h1,h2⟩|⟨h1,h2⟩
 ·exact .of_left (intBits_le_64 h1 h2)
 ·exact .of_right (intBits_le_64 h1 h2)
def Ml:iV X (binaryOp .Add) (JU λi j=>.int (i+j)):=Pw λ_ _ _ _ _ _ _ q=>add_int q
def KI:iV X (binaryOp .Sub) (JU λi j=>.int (i-j)):=Pw λ_ _ _ _ _ _ _ q=>sub_int q
def Kt:iV X (binaryOp .Mult) (rI MK λi j=>.int (i*j)):=R5 λ_ _ _ _ _ _ _ hc q=>mul_int q hc.ok
def K2:iV X (binaryOp .Mod) (rI (λ_ j=>0<j) λi j=>.int (i % j)):=R5 λi j _ _ _ _ _ hc q=>by
 have h1:(0:Int)<j:=hc;exact mod_int' (by omega) (by rw[Int.fmod_eq_emod_of_nonneg i (by omega)];exact q)
def Ni:iV X (binaryOp .Pow) (rI RE λi j=>.int (i ^ j.toNat)):=R5 λ_ _ _ _ _ _ _ hc q=>pow_int_small hc.1 hc.2.1 hc.2.2 q
def SU {f:Value->Sem Value}{g:Int->Int}
  (rule:∀(i:Int) (t:Tok) (s:Shared) (Q:Value->Shared->Prop) (E:Value->Shared->Prop),Q (.int (g i) s.toks) {s with toks:=s.toks+1}->wpAny (model X.prog X.w) X.A (f (.int i t)) Q E s) :
  Sx X f (rU λi=>.int (g i)):=by
 intro ag s σ H x v Q I rx h;obtain⟨i,rfl,q⟩:=h;obtain⟨t,rfl⟩:=rx;exact rule i t s _ _ ⟨.int (g i),H,I.tok _,⟨_,rfl⟩,q⟩
def Ey:Sx X (unaryOp .USub) (rU λi=>.int (-i)):=SU λ_ _ _ _ _ q=>neg_int q
end
variable{op:CmpOp}
section
variable {X:Cx}{a b c:Expr}{ta tb tc:TE}{pos:Pos}
def Qe:iV X (compareOp .Lt) (JU λi j=>.bl (decide (i<j))):=JO λ_ _ _ _ _ _ _ q=>lt_int q
def Oh:iV X (compareOp .LtE) (JU λi j=>.bl (decide (i<=j))):=JO λ_ _ _ _ _ _ _ q=>le_int q
def O9:iV X (compareOp .Gt) (JU λi j=>.bl (decide (j<i))):=JO λ_ _ _ _ _ _ _ q=>gt_int q
def Ps:iV X (compareOp .GtE) (JU λi j=>.bl (decide (j<=i))):=JO λ_ _ _ _ _ _ _ q=>ge_int q
def QK:HO->Bool
 | .lst _=>true
 | .ins _ _ _=>true
 | _=>false
def NZ {a:Addr}(I:Inv X ag σ H s)(h:H a=Z o)(p:QK o=true):∃ob,s.heap.get? a=Z ob/\ob.cls≠.type "tuple":=by
 cases o with
 | lst xs=>
  obtain⟨_,its,n,_,e⟩:xs.length<=sizeLine/\∃(its:List Value) (n:Nat),ba xs its/\s.heap.get? a=Z {cls:=.type "list",data:=.seq its.toArray n}:=I.hok a _ h;exact⟨_,e,(by show Value.type "list"≠.type "tuple";decide +kernel)⟩
 | ins C dx fs=>
  have x:=I.hok a _ h;obtain⟨_,_,_,e,_⟩:=x;exact⟨_,e,(by show Value.ref C≠.type "tuple";exact λz=>by cases z)⟩
 | _=>exact absurd (show false=true from p) Bool.false_ne_true
def NE (b:Expr)(h:op≠.In:=by decide)(h2:op≠.NotIn:=by decide):behindInMarks op b=false:=by
 have e1:(op==CmpOp.In)=false:=by cases op <;> first|rfl|exact absurd rfl h
 have e2:(op==CmpOp.NotIn)=false:=by cases op <;> first|rfl|exact absurd rfl h2
 cases b <;> simp[behindInMarks,e1,e2]
def Je (ho:iV X (compareOp op) r)(ha:PE X a ta)(hb:PE X b tb)(hm:behindInMarks op b=false):PE X (.Compare a [op] [b] pos) (OC r ta tb):=by
 intro ag s σ H Q I h;exact wpAny_Compare1 (Nz ha hb I h λv u s2 x y H2 I2 rx ry q=>ho ag s2 σ H2 x y v u Q I2 rx ry q) hm
def J9 (t:TE):TT:=λσ H Q=>t σ H λx H'=>∃k,x=.bl k/\Q k H'
def HN (ho:iV X (compareOp op) r)(ha:PE X a ta)(hb:PE X b tb)(hm:behindInMarks op b=false):PT X (.Compare a [op] [b] pos) (J9 (OC r ta tb)):=by
 intro ag s σ H Q I h;refine wpAny_isTrue_Compare1 (cK (ha ag s σ H _ I h) λv s1 ⟨x,H1,I1,r1,q1⟩=>cK (hb ag s1 σ H1 _ I1 q1) λu s2 ⟨y,H2,I2,r2,q2⟩=>
  cK (ho ag s2 σ H2 x y v u _ I2 r1 r2 q2) λc s3 hxx=>?_) hm
 obtain⟨z,H3,I3,r3,k,e,q3⟩:=hxx;subst e;cases r3;exact wpAny_truthy_bool ⟨H3,I3,q3⟩
def zD (r r':R2)(ta tb tc:TE):TE:=λσ H Q=>ta σ H λx H1=>tb σ H1 λy H2=>r x y H2 λz H3=>∃k,z=.bl k/\
 (if k=true then tc σ H3 λw' H4=>r' y w' H4 Q else Q (.bl false) H3)
def Fq {op':CmpOp}{r':R2}(ho:iV X (compareOp op) r)(ho':iV X (compareOp op') r')(ha:PE X a ta)(hb:PE X b tb)(hc:PE X c tc)
  (hm:lastMarks [op,op'] [b,c]=false:=by with_unfolding_all rfl):PE X (.Compare a [op,op'] [b,c] pos) (zD r r' ta tb tc):=by
 intro ag s σ H Q I h;refine Compare_chain (cK (ha ag s σ H _ I h) λv s1 ⟨x,H1,I1,r1,q1⟩=>chain_link (cK (hb ag s1 σ H1 _ I1 q1) λu s2 ⟨y,H2,I2,r2,q2⟩=>
  cK (ho ag s2 σ H2 x y v u _ I2 r1 r2 q2) λd s3 hxx=>?_)) hm
 obtain⟨z,H3,I3,r3,k,e,q3⟩:=hxx;subst e;cases r3;refine wpAny_truthy_bool ?_;cases k with
 | false=>exact ite_ff ⟨.bl false,H3,I3,rfl,q3⟩
 | true=>exact ite_tt (chain_last (cK (hc ag s3 σ H3 _ I3 q3) λw' s4 ⟨z',H4,I4,r4,q4⟩=>ho' ag s4 σ H4 y z' u w' Q I4 r2 r4 q4))
def FE {op':CmpOp}{r':R2}(ho:iV X (compareOp op) r)(ho':iV X (compareOp op') r')(ha:PE X a ta)(hb:PE X b tb)(hc:PE X c tc)
  (hm:lastMarks [op,op'] [b,c]=false:=by with_unfolding_all rfl):PT X (.Compare a [op,op'] [b,c] pos) (J9 (zD r r' ta tb tc)):=by
 intro ag s σ H Q I h;refine isTrue_chain (cK (ha ag s σ H _ I h) λv s1 ⟨x,H1,I1,r1,q1⟩=>test_link (cK (hb ag s1 σ H1 _ I1 q1) λu s2 ⟨y,H2,I2,r2,q2⟩=>
  cK (ho ag s2 σ H2 x y v u _ I2 r1 r2 q2) λd s3 hxx=>?_)) hm
 obtain⟨z,H3,I3,r3,k,e,q3⟩:=hxx;subst e;cases r3;refine wpAny_truthy_bool ?_;cases k with
 | false=>
  obtain⟨k',e',q'⟩:=q3;cases e';exact ite_ff ⟨H3,I3,q'⟩
 | true=>
  refine ite_tt (test_last (cK (hc ag s3 σ H3 _ I3 q3) λw' s4 ⟨z',H4,I4,r4,q4⟩=>cK (ho' ag s4 σ H4 y z' u w' _ I4 r2 r4 q4) λd' s5 hxx=>?_));obtain⟨z2,H5,I5,r5,k2,e2,q5⟩:=hxx;subst e2;cases r5;exact wpAny_truthy_bool ⟨H5,I5,q5⟩
def Qf (K:W.Frag)(x:V)(H:Hp)(k:Bool):Prop:=
 match x with
 | .non=>k=false
 | .bl b=>k=b
 | .int i=>k=(i != 0)
 | .str y=>y.length<=sizeLine/\k=((y.length:Int) != 0)
 | .byt y=>y.size<=sizeLine/\k=((y.size:Int) != 0)
 | .ref p=>(∃xs,nj K H p xs/\k=!xs.isEmpty)\/(∃xs,rF K H p xs/\k=!xs.isEmpty)\/∃kvs,H p=Z (.dK kvs)/\k=!kvs.isEmpty
 | _=>False
def Av {κ:Type}{kvs:List (κ×V)}{vs:List (κ×Value)}(r:KV kvs vs):(!vs.isEmpty)=!kvs.isEmpty:=by
 cases r <;> rfl
def rV {its:List Value}(r:ba xs its):(!its.toArray.isEmpty)=!xs.isEmpty:=by
 cases r <;> simp
def nM:(sizeLine:Nat)<2 ^ 63:=by rw[sizeLine_eq];decide
def LG:So X (λx H Q=>∃k,Qf X.K x H k/\Q k H):=by
 intro ag s σ H x v Q I rx h;obtain⟨k,e,q⟩:=h;have hl:=nM;have hs:sizeLine=16777216:=sizeLine_eq;cases x with
 | non=>
  cases rx;have e':k=false:=e;subst e';exact truthy_none ⟨H,I,q⟩
 | bl b=>
  cases rx;have e':k=b:=e;subst e';exact wpAny_truthy_bool ⟨H,I,q⟩
 | int i=>
  obtain⟨t,rfl⟩:=rx;have e':k=(i != 0):=e;subst e';exact PySem.P.truthy_int ⟨H,I,q⟩
 | str y=>
  obtain⟨t,rfl⟩:=rx;obtain⟨hy,e'⟩:y.length<=sizeLine/\k=((y.length:Int) != 0):=e;subst e';exact PySem.P.truthy_str (by omega) ⟨H,I.tok _,q⟩
 | byt y=>
  obtain⟨t,rfl⟩:=rx;obtain⟨hy,e'⟩:y.size<=sizeLine/\k=((y.size:Int) != 0):=e;subst e';exact W.truthy_bytes (by omega) ⟨H,I.tok _,q⟩
 | ref p=>
  cases rx;have e':(∃xs,nj X.K H p xs/\k=!xs.isEmpty)\/(∃xs,rF X.K H p xs/\k=!xs.isEmpty)\/∃kvs,H p=Z (.dK kvs)/\k=!kvs.isEmpty:=e;rcases e' with⟨xs,hx,e'⟩|⟨xs,hx,e'⟩|⟨kvs,hx,e'⟩
  ·subst e';obtain⟨its,r,pl,hz⟩:=I.list hx;have hlen:=r.length;exact wpAny_truthy_list pl.isList (by simp only[size_toArray];omega) ⟨H,I.tok _,by rw[rV r];exact q⟩
  ·subst e';obtain⟨its,r,pl,hz⟩:=I.tuple hx;have hlen:=r.length;exact truthy_tuple pl (by simp only[size_toArray];omega) ⟨H,I.tok _,by rw[rV r];exact q⟩
  ·subst e';obtain⟨hz,hS,vs,r,m⟩:kvs.length<=sizeLine/\(p==sysModules)=false/\∃vs,KV kvs vs/\s.heap.DictOf (cT X.prog X.w) p vs:=I.hok p _ hx;have hlen:kvs.length=vs.length:=Paired.length r;exact wpAny_truthy_dict hS m (by omega) ⟨H,I.tok _,by rw[Av r];exact q⟩
 | _=>exact(show False from e).elim
def ED (ha:PE X a ta)(he:∀whole,isTrue a X.env whole=(do let v <-whole;standAt a.pos;holding [v] (truthy v))) :
  PT X a (λσ H Q=>ta σ H λx H'=>∃k,Qf X.K x H' k/\Q k H'):=by
 intro ag s σ H Q I h;exact isTrue_plain (cK (ha ag s σ H _ I h) λv s1 ⟨x,H1,I1,r1,q1⟩=>LG ag s1 σ H1 x v Q I1 r1 q1) (he _)
def zK:iV X (binaryOp .Add) (λx y H Q=>∃i j,x=.str i/\y=.str j/\i.length+j.length<=sizeLine/\Q (.str (i++j)) H):=by
 intro ag s σ H x y v u Q I rx ry h;obtain⟨i,j,rfl,rfl,hz,q⟩:=h;obtain⟨t,rfl⟩:=rx;obtain⟨t',rfl⟩:=ry;exact add_str (λt' tk=>⟨.str (i++j),H,I.tok _,⟨_,rfl⟩,q⟩) hz
def nC {x:V}(r:ba [x] us):∃u,us=[u]/\RelV x u:=by
 cases r with
 | cons r1 r2=>cases r2;exact⟨_,rfl,r1⟩
def A1 {x y:V}(r:ba [x,y] us):∃u w',us=[u,w']/\RelV x u/\RelV y w':=by
 cases r with
 | cons r1 r2=>
  cases r2 with
  | cons r3 r4=>cases r4;exact⟨_,_,rfl,r1,r3⟩
def BU (hc:X.calm=true):d9 X (.builtin "min") (λxs H Q=>∃i j,xs=[.int i,.int j]/\Q (.int (if j<i then j else i)) H):=by
 intro ag s σ H xs us Q I r h;obtain⟨i,j,rfl,q⟩:=h;obtain⟨u,w',rfl,⟨t,rfl⟩,⟨t',rfl⟩⟩:=A1 r;refine min_two_ints (I.ok.hd hc) λh' tk k=>⟨_,H,I.kept k,?_,q⟩
 by_cases hj:j<i
 ·rw[if_pos hj,if_pos hj];exact⟨_,rfl⟩
 ·rw[if_neg hj,if_neg hj];exact⟨_,rfl⟩
def vV:d9 X (.type "int") (λxs H Q=>(∃i,xs=[.int i]/\Q (.int i) H)\/∃k,xs=[.bl k]/\Q (.int (if k then 1 else 0)) H):=by
 intro ag s σ H xs us Q I r h;rcases h with⟨i,rfl,q⟩|⟨k,rfl,q⟩
 ·obtain⟨u,rfl,t,rfl⟩:=nC r;exact call_int_int ⟨.int i,H,I,⟨_,rfl⟩,q⟩
 ·obtain⟨u,rfl,r1⟩:=nC r;cases r1;exact call_int_bool ⟨.int (if k then 1 else 0),H,I.tok _,⟨_,rfl⟩,q⟩
end
structure AK (h:Heap)(x dx C:Addr)(mA:Str->Option Value):Prop where
 obj:h.get? x=Z (W.instObj C dx)
 ns:h.Ns1 dx mA
 ne:dx≠x
variable{mA:Str->Option Value}
def CO {dx:Addr}(n:h.Ns1 dx mA):∃od,h.get? dx=Z od/\∀name,W.lookIn name od=Z (mA name):=by
 obtain⟨o,es,ep,ho,hd,hk,_,hm⟩:=n;refine⟨o,ho,λname=>?_⟩;have e:=hm name;unfold nsFind findBy at e;rw[<-Array.find?_toList] at e;unfold W.lookIn;rw[hd];dsimp only;split
 ·rename_i y q;rw[q] at e;exact congrArg Z e
 ·rename_i q;rw[q] at e;have a:es.toList.any (·.refKey)=false:=by
   rw[any_eq_false];intro y hy;obtain⟨z,t,hkey⟩:=hk y (Array.mem_toList_iff.mp hy);simp[DictEntry.refKey,hkey]
  have a':¬es.toList.any (·.refKey)=true:=by rw[a];exact Bool.false_ne_true
  rw[if_neg a'];exact congrArg Z e
variable{C:Addr}
def AK.look {x dx:Addr}(I:AK h x dx C mA):∃od,W.InstAt h x (W.instObj C dx) C (Z od)/\∀name,W.lookIn name od=Z (mA name):=
 let ⟨od,ho,hl⟩:=CO I.ns
 ⟨od,⟨I.obj,rfl,rfl,ho⟩,hl⟩
variable{pl:Sem Bool}{kw:List (Str×Value)}
section
variable {prog:Program}{w:World}{A:Around}{E:Value->Shared->Prop}{s:Shared}{K:W.Frag}{x dx C f:Addr}{mA:Str->Option Value}{name:Str}{v:Value}
def Hv {expr:Bool}(X:K.In s.heap)(I:AK s.heap x dx C mA)(hg:W.plainGet K C name=true)(hh:W.hasDictIn K C=true)
  (ha:W.findIn K (.ref C) name=Z Y) (hv:mA name=Z v) (hv':W.handedIn v=true) (h:Q v {s with toks:=s.toks+1}) :
  wpAny (model prog w) A (getAttr (.ref x) name expr) Q E s:=by
 obtain⟨od,J,hl⟩:=I.look;exact W.get_value X J (W.plainGet_of hg).1 (W.findObj_own hh ha rfl (by rw[hl,hv])) hv' h
def EA {Q:Value×List Value->Shared->Prop}(X:K.In s.heap)(I:AK s.heap x dx C mA)(hg:W.plainGet K C name=true)
  (hf:W.findIn K (.ref C) name=Z (Z (.ref f))) (ht:W.isFn K (.ref f)=true) (hv:mA name=Y) (h:Q (.ref f,[.ref x]) s) :
  wpAny (model prog w) A (getMethod (.ref x) name pl) Q E s:=by
 obtain⟨od,J,hl⟩:=I.look;exact W.method_fn X J (W.plainGet_of hg).1 (W.plainGet_of hg).2 hf (beq_iff_eq.mp ht) (by show(W.lookIn name od).map (·.isSome)=Z false;rw[hl,hv];rfl) h
def IG {ns:List Str}{Q:Unit->Shared->Prop}(X:K.In s.heap)(I:AK s.heap x dx C mA)
  (hs:W.findIn K (.ref C) "__setattr__"=Z (Z (.builtin "object.__setattr__"))) (hp:W.plainOver K C=true) (ht:W.takerIn K C name=Z Y) (hh:W.hasDictIn K C=true)
  (hw:PySem.Within mA ns) (hsz:ns.length<=sizeLine)
  (h:∀h',AK h' x dx C (λy=>if y=name then Z v else mA y)->Heap.SameBut dx s.heap h'->Q () {s with heap:=h',toks:=s.toks+2}) :
  wpAny (model prog w) A (setAttr (.ref x) name v) Q E s:=by
 obtain⟨od,J,hl⟩:=I.look;refine W.set_plain X J hs (W.osa_open (s:={s with toks:=s.toks+1}) (r:=Y) X J hp ht λb=>?_);obtain⟨cd,hc,hd'⟩:=W.any_some hh;have hx:s.heap.get? x=Z ⟨.ref C,Z dx,.plain,#[]⟩:=I.obj;refine wpAny_bind (wpAny_pure (wpAny_bind (wpAny_bind (wpAny_loadPart hx (wpAny_bind (W.Looks.here (s:={s with toks:=s.toks+1}) (W.looks_clsIn X hc) ?_))))));rw[hd'];refine wpAny_pure (a:=Z dx) (wpAny_bind (wpAny_pure (wpAny_bind ?_)));refine wpAny_nsSet1 (s:={s with toks:=s.toks+1}) I.ns λh' hn2 hs2=>?_
 obtain⟨oD,esD,epD,hoD,hdD,hcD⟩:=hn2.count (PySem.Within.cons name v hw);refine wpAny_bind (wpAny_lookBehind hoD (by rw[hdD];exact pastItsLine_dict (Nat.le_trans hcD (by rw[length_cons];omega))) ?_);exact wpAny_pure (h _ ⟨(hs2.2 _ (Ne.symm I.ne)).trans I.obj,hn2,I.ne⟩ hs2)
def Gf {R:Result->Shared->Prop}{vs:List Value}(X:K.In s.heap)(hm:W.makesIn K C=true)
  (hi:W.findIn K (.ref C) "__init__"=Z (Z (.ref f))) (hf:W.typeIn K (.ref f)=Z (.type "function"))
  (h:codeAny (model prog w) (A.under (.builtin "type.__call__" ⟨.ref C::vs,kw⟩)) (.call (.ref f) ⟨.ref (s.heap.objs.size+1)::vs,kw⟩) (W.InitBack (s.heap.objs.size+1) R)
   {s with heap:=(s.heap.push W.emptyDict).push (W.instObj C s.heap.objs.size)}) :
  codeAny (model prog w) A (.call (.ref C) ⟨vs,kw⟩) R s:=by
 obtain⟨hh,g,d,t,os⟩:=s;exact W.make_core (W.makes_of X hm) (W.looks_findIn X hi) (λself=>W.bind_fn X self hf) (.inl rfl) h
end
def ka (f:Str)(v:V):List (Str×V)->List (Str×V)
 | []=>[(f,v)]
 | (g,x)::r=>if g=f then(g,v)::r else(g,x)::ka f v r
theorem qF (f g:Str)(v:V):∀fs:List (Str×V),(ka f v fs).lookup g=if g=f then Z v else fs.lookup g
 | []=>by
  show List.lookup g [(f,v)]=_
  by_cases h:g=f
  ·have hb:(g==f)=true:=beq_iff_eq.mpr h;simp only[List.lookup,hb,if_pos h]
  ·have hb:(g==f)=false:=beq_eq_false_iff_ne.mpr h;simp only[List.lookup,hb,if_neg h]
 | (k,x)::r=>by
  have ih:=qF f g v r;rw[show ka f v ((k,x)::r)=(if k=f then(k,v)::r else(k,x)::ka f v r) from rfl]
  by_cases hk:k=f
  ·rw[if_pos hk]
   by_cases h:g=k
   ·have hb:(g==k)=true:=beq_iff_eq.mpr h;simp only[List.lookup,hb,if_pos (h.trans hk)]
   ·have hb:(g==k)=false:=beq_eq_false_iff_ne.mpr h;simp only[List.lookup,hb,if_neg (λe:g=f=>h (e.trans hk.symm))]
  ·rw[if_neg hk]
   by_cases h:g=k
   ·have hb:(g==k)=true:=beq_iff_eq.mpr h;simp only[List.lookup,hb,if_neg (λe:g=f=>hk (h.symm.trans e))]
   ·have hb:(g==k)=false:=beq_eq_false_iff_ne.mpr h;simp only[List.lookup,hb];exact ih
theorem pL (f:Str)(v:V):∀fs:List (Str×V),f∈(ka f v fs).map (·.1)/\∀g,g∈fs.map (·.1)->g∈(ka f v fs).map (·.1)
 | []=>⟨by simp[ka],λg h=>by simp at h⟩
 | (k,x)::r=>by
  obtain⟨i1,i2⟩:=pL f v r;rw[show ka f v ((k,x)::r)=(if k=f then(k,v)::r else(k,x)::ka f v r) from rfl]
  by_cases hk:k=f
  ·rw[if_pos hk];subst hk;exact⟨by simp,λg h=>by simpa using h⟩
  ·rw[if_neg hk];refine⟨?_,λg h=>?_⟩
   ·rw[map_cons];exact mem_cons_of_mem _ i1
   ·rw[map_cons] at h ⊢;rcases mem_cons.mp h with e|e
    ·exact mem_cons.mpr (.inl e)
    ·exact mem_cons_of_mem _ (i2 g e)
theorem qR (f:Str)(v:V):∀fs:List (Str×V),(ka f v fs).length<=fs.length+1
 | []=>by simp[ka]
 | (k,x)::r=>by
  have ih:=qR f v r;rw[show ka f v ((k,x)::r)=(if k=f then(k,v)::r else(k,x)::ka f v r) from rfl]
  by_cases hk:k=f
  ·rw[if_pos hk,length_cons,length_cons];omega
  ·rw[if_neg hk,length_cons,length_cons];omega
def lS.some_of {o:Option Value}(r:lS (Z v) o):∃u,o=Z u/\RelV v u:=by
 cases o with
 | none=>exact(show False from r).elim
 | some u=>exact⟨u,rfl,r⟩
def lS.none_of {o:Option Value}(r:lS Y o):o=Y:=by
 cases o with
 | none=>rfl
 | some u=>exact(show False from r).elim
def Dc (r:RelV v u):W.handedIn u=true:=by
 cases v with
 | non=>cases (show u=Value.none from r);rfl
 | bl b=>cases (show u=Value.bool b from r);rfl
 | int i=>obtain⟨t,e⟩:=(show∃t,u=Value.int i t from r);cases e;rfl
 | str x=>obtain⟨t,e⟩:=(show∃t,u=Value.str x t from r);cases e;rfl
 | byt b=>obtain⟨t,e⟩:=(show∃t,u=Value.bytes b t from r);cases e;rfl
 | flt b=>obtain⟨t,e⟩:=(show∃t,u=Value.float b t from r);cases e;rfl
 | ref a=>cases (show u=Value.ref a from r);rfl
 | ty n=>cases (show u=Value.type n from r);rfl
section
variable {P:Program}{w:World}{H H':Hp}{h h':Heap}{a C dx:Addr}{fs fs':List (Str×V)}
def wZ (hok:mz P w H h)(e:H a=Z (.ins C dx fs)):∃mA,AK h a dx C mA/\(∀f,lS (fs.lookup f) (mA f))/\PySem.Within mA (fs.map (·.1))/\fs.length<=1000/\H dx=Z (.own a):=by
 obtain⟨d,z,ne,ob,mA,n,r,q⟩:=(show cX P w H h a (.ins C dx fs) from hok a _ e);exact⟨mA,⟨ob,n,ne⟩,r,q,z,d⟩
end
structure Fa (K:W.Frag)(C:Addr):Prop where
 pg:W.plainGet K C Str.empty=true
 hd:W.hasDictIn K C=true
 po:W.plainOver K C=true
 sa:W.findIn K (.ref C) "__setattr__"=Z (Z (.builtin "object.__setattr__"))
def Fa.get (c:Fa K C)(f:Str):W.plainGet K C f=true:=c.pg
def gO (K:W.Frag)(C:Addr)(f:Str):Prop:=W.findIn K (.ref C) f=Z Y
def gO.taker {f:Str}(n:gO K C f):W.takerIn K C f=Z Y:=by
 unfold W.takerIn;rw[show W.findIn K (.ref C) f=Z Y from n];rfl
structure wx (K:W.Frag)(C:Addr)(m:Str)(f:Addr):Prop where
 at_:W.findIn K (.ref C) m=Z (Z (.ref f))
 fn:W.isFn K (.ref f)=true
 kp:W.keepIn K (.ref f)=true
section
variable {X:Cx}{ag:List (Addr×Obj)}{σ:St}{H:Hp}{s:Shared}{a C dx:Addr}{fs:List (Str×V)}{f:Str}{v:V}{A:Around}{E:Value->Shared->Prop}
def tZ {b:Bool}(I:Inv X ag σ H s)(e:H a=Z (.ins C dx fs))(c:Fa X.K C)(n:gO X.K C f)(l:fs.lookup f=Z v)
  (h:∀u s',Inv X ag σ H s'->RelV v u->Q u s'):wpAny (model X.prog X.w) A (getAttr (.ref a) f b) Q E s:=by
 obtain⟨mA,O,r,_,_,_⟩:=wZ I.hok e;obtain⟨u,hu,ru⟩:=lS.some_of (v:=v) (o:=mA f) (by rw[<-l];exact r f);exact Hv I.kIn O (c.get f) c.hd n hu (Dc ru) (h u _ (I.tok _) ru)
def sk {m:Str}{g:Addr}{Q:Value×List Value->Shared->Prop}(I:Inv X ag σ H s)(e:H a=Z (.ins C dx fs))(c:Fa X.K C)(k:wx X.K C m g)(l:fs.lookup m=Y)
  (h:Q (.ref g,[.ref a]) s):wpAny (model X.prog X.w) A (getMethod (.ref a) m pl) Q E s:=by
 obtain⟨mA,O,r,_,_,_⟩:=wZ I.hok e;have hn:mA m=Y:=lS.none_of (by rw[<-l];exact r m);exact EA I.kIn O (c.get m) k.at_ k.fn hn h
def tK {y:V}{Q:Unit->Shared->Prop}(I:Inv X ag σ H s)(e:H a=Z (.ins C dx fs))(c:Fa X.K C)(n:gO X.K C f)(hl:fs.length<1000)(ry:RelV y u)
  (h:∀s',Inv X ag σ (cx H a (.ins C dx (ka f y fs))) s'->Q () s'):wpAny (model X.prog X.w) A (setAttr (.ref a) f u) Q E s:=by
 obtain⟨mA,O,r,wi,_,ho⟩:=wZ I.hok e;have hz:(fs.map (·.1)).length<=sizeLine:=by rw[length_map,sizeLine_eq];omega
 refine IG I.kIn O c.sa c.po n.taker c.hd wi hz λh' O' sb=>h _ ?_
 have hd:∃o,h'.get? dx=Z o:=let ⟨o,_,_,e',_⟩:=O'.ns;⟨o,e'⟩
 refine I.write (x:=a) (e:=dx) (by rw[e];exact True.intro) (.inr ho) (λb q hb z=>(sb.2 b hb).trans z) hd ?_;refine⟨by rw[aB O.ne];exact ho,?_,O.ne,O'.obj,_,O'.ns,λg=>?_,λg hg=>?_⟩
 ·have:=qR f y fs;omega
 ·show lS ((ka f y fs).lookup g) (if g=f then Z u else mA g);rw[qF]
  by_cases q:g=f
  ·rw[if_pos q,if_pos q];exact ry
  ·rw[if_neg q,if_neg q];exact r g
 ·by_cases q:g=f
  ·rw[q];exact(pL f y fs).1
  ·refine(pL f y fs).2 g (wi g λz=>hg ?_);show(if g=f then Z u else mA g)=Y;rw[if_neg q];exact z
def Inv.made (I:Inv X ag σ H s):Inv X ag σ (cx (cx H s.heap.objs.size (.own (s.heap.objs.size+1))) (s.heap.objs.size+1) (.ins C s.heap.objs.size []))
  {s with heap:=(s.heap.push W.emptyDict).push (W.instObj C s.heap.objs.size)}:=by
 have e1:(s.heap.push W.emptyDict).get? s.heap.objs.size=Z W.emptyDict:=Heap.get?_push_size s.heap rfl;have e2:((s.heap.push W.emptyDict).push (W.instObj C s.heap.objs.size)).get? (s.heap.objs.size+1)=Z (W.instObj C s.heap.objs.size):=by
  have:=Heap.get?_push_size (s.heap.push W.emptyDict) (o:=W.instObj C s.heap.objs.size) rfl;rwa [Heap.size_push] at this
 have e3:(s.heap.push W.emptyDict).Ns s.heap.objs.size (λ_=>Y):=⟨W.emptyDict,#[],_,e1,rfl,(λe he=>absurd he (by simp)),λ_=>rfl⟩;have I1:=I.laid (a:=s.heap.objs.size) (o:=.own (s.heap.objs.size+1)) (h':=s.heap.push W.emptyDict) (t':=s.toks) (λb u q=>Heap.get?_push_of_some _ q) (Nat.le_refl _) ⟨_,e1⟩;refine I1.laid (a:=s.heap.objs.size+1) (o:=.ins C s.heap.objs.size []) (t':=s.toks) (λb u q=>Heap.get?_push_of_some _ q) (Nat.le_of_eq (Heap.size_push _ _)) ?_;have ne:s.heap.objs.size≠s.heap.objs.size+1:=Nat.ne_of_lt (Nat.lt_succ_self _);refine⟨by rw[aB ne,bJ],Nat.zero_le _,ne,e2,λ_=>Y,(Heap.Ns1.of_empty e3).at λo q=>Heap.get?_push_of_some _ q,λ_=>True.intro,λy hy=>absurd rfl hy⟩
def Jr {prog:Program}{env:Env}{f:Str}{pos:Pos}{s:Shared}(hb:attributeBase e f env (eval e env)=eval e env)
  (h:wpAny (model prog w) A (eval e env) (λo s₁=>wpAny (model prog w) A (getAttr o f true) Q E s₁) E s):wpAny (model prog w) A (eval (.Attribute e f pos) env) Q E s:=
 Attribute_any_ h (by rw[arm_eval_Attribute,hb])
end
def Ri (K:W.Frag)(ta:TE)(f:Str):TE:=λσ H Q=>ta σ H λx H1=>∃a C dx fs v,x=.ref a/\H1 a=Z (.ins C dx fs)/\Fa K C/\gO K C f/\fs.lookup f=Z v/\Q v H1
def Rr (K:W.Frag)(ta tv:TE)(f:Str):TS:=λD σ H=>tv σ H λy H1=>ta σ H1 λx H2=>∃a C dx fs,x=.ref a/\H2 a=Z (.ins C dx fs)/\Fa K C/\gO K C f/\fs.length<1000/\
 D.nx σ (cx H2 a (.ins C dx (ka f y fs)))
def HH (X:Cx)(op:Operator)(rd:V->V->Hp->VK->Prop):Prop:=
 ∀(ag:List (Addr×Obj)) (s:Shared) (σ:St) (H:Hp) (x y:V) (u v:Value) (Q:VK),Inv X ag σ H s->RelV x u->RelV y v->rd x y H Q->wpAny (model X.prog X.w) X.A (inplaceOp op u v) (EP X ag σ Q) X.xe s
def IY (K:W.Frag)(ta tv:TE)(rd:V->V->Hp->VK->Prop)(f:Str):TS:=λD σ H=>ta σ H λx H1=>∃a C dx fs v,x=.ref a/\H1 a=Z (.ins C dx fs)/\Fa K C/\gO K C f/\fs.lookup f=Z v/\
 tv σ H1 λy H2=>rd v y H2 λz H3=>∃dx' fs',H3 a=Z (.ins C dx' fs')/\fs'.length<1000/\D.nx σ (cx H3 a (.ins C dx' (ka f z fs')))
section
variable {X:Cx}{o e value:Expr}{f:Str}{pos pos' tpos:Pos}{ta tv:TE}
def ME (he:PE X e ta)(hb:attributeBase e f X.env (eval e X.env)=eval e X.env):PE X (.Attribute e f pos) (Ri X.K ta f):=by
 intro ag s σ H Q I h;refine Jr hb (cK (he ag s σ H _ I h) λu s1 hxx=>?_);obtain⟨x,H1,I1,rx,a,C,dx,fs,v,ex,ea,c,n,l,q⟩:=hxx;subst ex;obtain rfl:u=Value.ref a:=rx;exact tZ I1 ea c n l λu' s2 I2 ru=>⟨v,H1,I2,ru,q⟩
def K0 (ha:PE X o ta)(hv:PE X value tv)(hs:swapsWith value (Z (.Attribute o f pos')) pos.line X.env=pure false):PS X (.Assign [.Attribute o f pos'] value pos) (Rr X.K ta tv f):=by
 intro ag s σ H D I h;refine plainObj_wpAny_Assign_Attribute (cK (hv ag s σ H _ I h) λu s1 ⟨y,H1,I1,ry,q⟩=>cK (ha ag s1 σ H1 _ I1 q) λov s2 hxx=>?_) hs;obtain⟨x,H2,I2,rx,a,C,dx,fs,ex,ea,c,n,l,q2⟩:=hxx;subst ex;obtain rfl:ov=Value.ref a:=rx;exact tK I2 ea c n l ry λs3 I3=>⟨σ,_,I3,q2⟩
def C1 {op:Operator}{rd:V->V->Hp->VK->Prop}(ha:PE X o ta)(hv:PE X value tv)(hop:HH X op rd):PS X (.AugAssign (.Attribute o f tpos) op value pos) (IY X.K ta tv rd f):=by
 intro ag s σ H D I h;refine wpAny_AugAssign_AttributeAny (cK (ha ag s σ H _ I h) λov s1 hxx=>?_);obtain⟨x,H1,I1,rx,a,C,dx,fs,v,ex,ea,c,n,l,q⟩:=hxx;subst ex;obtain rfl:ov=Value.ref a:=rx;refine tZ I1 ea c n l λu s2 I2 ru=>cK (hv ag s2 σ H1 _ I2 q) λw3 s3 ⟨y,H2,I3,ry,q3⟩=>cK (hop ag s3 σ H2 v y u w3 _ I3 ru ry q3) λw4 s4 hxx=>?_
 obtain⟨z,H3,I4,rz,dx',fs',ea',l',q4⟩:=hxx;exact tK I4 ea' c n l' rz λs5 I5=>⟨σ,_,I5,q4⟩
def RY:V->V->Hp->VK->Prop:=λx y H Q=>∃i j,x=.int i/\y=.int j/\Q (.int (i+j)) H
def K3:HH X .Add RY:=by
 rintro ag s σ H x y u v Q I rx ry ⟨i,j,rfl,rfl,q⟩;obtain⟨t,rfl⟩:=(show∃t,u=Value.int i t from rx);obtain⟨t',rfl⟩:=(show∃t',v=Value.int j t' from ry);exact PyProof.Rows.iadd_int ⟨.int (i+j),H,I.tok _,⟨_,rfl⟩,q⟩
end
structure bM (k:Nat)(A:Around):Prop where
 hd:A.handled=Y
 dp:A.depth+3*k+5<recursionLimit
 un:A.units+16*k+200<cLine
variable{k:Nat}
def bM.mono {j:Nat}(r:bM k A)(h:j<=k):bM j A:=⟨r.hd,by have:=r.dp;omega,by have:=r.un;omega⟩
def bM.deeper (r:bM (k+1) A)(env:Env):bM k (A.deeper env):=
 ⟨r.hd,by have:=r.dp;show A.depth+1+3*k+5<_;omega,by have:=r.un;show A.units+3+16*k+200<_;omega⟩
def bM.in1 (r:bM (k+1) A):bM k A.in1:=
 ⟨r.hd,by have:=r.dp;show A.depth+3*k+5<_;omega,by have:=r.un;show A.units+1+16*k+200<_;omega⟩
def AL :(A.under (.builtin "type.__call__" ⟨.ref C::us,kw⟩)).depth=A.depth+1:=by
 first|rfl|simp[Around.under,Code.weight,Code.isCreation,Code.isGuard,Code.isCaller,Code.frames,Code.isFrame,guardIds]
def AC :(A.under (.builtin "type.__call__" ⟨.ref C::us,kw⟩)).units=A.units+1:=by
 first|rfl|simp[Around.under,Code.cUnits,Code.frames,Code.isFrame]
def bM.make (r:bM (k+1) A)(C:Addr)(us:List Value)(kw:List (Str×Value)):bM k (A.under (.builtin "type.__call__" ⟨.ref C::us,kw⟩)):=
 ⟨r.hd,by have:=r.dp;rw[AL];omega,by have:=r.un;rw[AC];omega⟩
def bM.depth (r:bM k A):A.depth<recursionLimit:=by have:=r.dp;omega
def bM.units (r:bM k A):A.units+64<cLine:=by have:=r.un;omega
def bM.units0 (r:bM k A):A.units<cLine:=by have:=r.un;omega
def Ex:TA:=λ_ H Q=>Q [] H
def ym (ta:TE)(tr:TA):TA:=λσ H Q=>ta σ H λx H1=>tr σ H1 λxs H2=>Q (x::xs) H2
section
variable {X:Cx}{e:Expr}{es:List Expr}{te:TE}{t:TA}{pos:Pos}
def kT:PA X [] Ex:=λ_ _ _ _ H Q I h=>Calls.spliced_nil ⟨[],H,I,.nil,h⟩
def fP (ha:PE X e te)(hr:PA X es t)(hs:starEach (e::es) X.env=(false,eval e X.env)::starEach es X.env:=by rfl):PA X (e::es) (ym te t):=by
 intro pos ag s σ H Q I h;rw[hs];show wpAny _ _ (spliced ((false,eval e X.env)::backTo pos (starEach es X.env))) _ _ s;refine Calls.spliced_cons (cK (ha ag s σ H _ I h) λu s1 hxx=>?_);obtain⟨x,H1,I1,r1,q1⟩:=hxx;exact cK (hr pos ag s1 σ H1 _ I1 q1) λus s2 ⟨xs,H2,I2,r2,q2⟩=>⟨x::xs,H2,I2,.cons r1 r2,q2⟩
def RU (t:TA):TE:=λσ H Q=>t σ H λxs H1=>xs.length<=sizeLine/\∀p,H1 p=Y->Q (.ref p) (cx H1 p (.tup xs))
def Rj (t:TA):TE:=λσ H Q=>t σ H λxs H1=>xs.length<=sizeLine/\∀p,H1 p=Y->Q (.ref p) (cx H1 p (.lst xs))
def Ld {x1}(h:PA X es t):PE X (.Tuple es x1 pos) (RU t):=by
 intro ag s σ H Q I hq;refine wpAny_Tuple_spliced (cK (h pos ag s σ H _ I hq) λus s1 ⟨xs,H1,I1,r,z,q⟩=>⟨by rw[<-r.length];exact z,?_⟩);have hf:H1 s1.heap.objs.size=Y:=I1.hok.fresh (Nat.le_refl _);refine⟨.ref s1.heap.objs.size,cx H1 s1.heap.objs.size (.tup xs),I1.laid (t':=s1.toks) (λb u e=>Heap.get?_push_of_some _ e) (Nat.le_refl _) ?_,rfl,q _ hf⟩;exact⟨z,us,r,⟨_,Heap.get?_push_size _ rfl,rfl,_,rfl⟩⟩
def Gh (h:PA X es t):PE X (.List es pos) (Rj t):=by
 intro ag s σ H Q I hq;refine wpAny_List_spliced (cK (h pos ag s σ H _ I hq) λus s1 ⟨xs,H1,I1,r,z,q⟩=>⟨by rw[<-r.length];exact z,?_⟩);have hf:H1 s1.heap.objs.size=Y:=I1.hok.fresh (Nat.le_refl _);refine⟨.ref s1.heap.objs.size,cx H1 s1.heap.objs.size (.lst xs),I1.laid (t':=s1.toks) (λb u e=>Heap.get?_push_of_some _ e) (Nat.le_refl _) ?_,rfl,q _ hf⟩;exact⟨z,us,0,r,Heap.get?_push_size _ rfl⟩
end
abbrev Sp:=List V->Hp->VK->XK->Prop
abbrev BW:=List Env->Hp->Shared->XK->Value->Shared->Prop
structure uR (P:Program)(w:World)(K:W.Frag)(mg:Str->Option Value)(base:Heap)(A:Around)(outer:List Env)(s:Shared)(H:Hp):Prop where
 frames:A.frames=Z outer
 mod:Mod K mg base
 bs:∀b o,base.get? b=Z o->s.heap.get? b=Z o/\H b=Y
 bsz:base.objs.size<=s.heap.objs.size
 funs:s.heap.FunFrames base outer
 frf:∀b∈sG outer,H b=Y
 hok:mz P w H s.heap
 bare:AllBare s.gens
def CE (outer:List Env)(P:Program)(w:World)(H:Hp)(s:Shared)(Q:VK)(u:Value)(s':Shared):Prop:=
 ∃v H',s'.os=s.os/\AllBare s'.gens/\Un (sG outer) [] H H' s.heap s'.heap/\mz P w H' s'.heap/\RelV v u/\Q v H'
def CR (CX:BW)(outer:List Env)(P:Program)(w:World)(H:Hp)(s:Shared)(Q:VK)(E:XK)(r:Result)(s':Shared):Prop:=
 match r with
 | .ok (.ret u)=>CE outer P w H s Q u s'
 | .ok _=>False
 | .error e=>CX outer H s E e s'
structure eB (P:Program)(w:World)(K:W.Frag)(mg:Str->Option Value)(base:Heap)(CX:BW)(k:Nat)(f:Addr)(fd:FuncData)(ps:List Str)(sp:Sp):Prop where
 len:∀vs H Q E,sp vs H Q E->vs.length=ps.length
 run:∀(A:Around) (outer:List Env) (s:Shared) (H:Hp) (args:Args) (us:List Value) (vs:List V) (Q:VK) (E:XK),bM k A->uR P w K mg base A outer s H->BindsTo s fd args (ps.zip us)->ba vs us->sp vs H Q E->
  codeAny (model P w) A (.call (.ref f) args) (CR CX outer P w H s Q E) s
variable{mg:Str->Option Value}{base:Heap}{CX:BW}{fd:FuncData}{ps:List Str}
def eB.imp {f:Addr}{sp sp':Sp}(F:eB P w K mg base CX k f fd ps sp)
  (h:∀vs H Q E,sp' vs H Q E->sp vs H Q E):eB P w K mg base CX k f fd ps sp':=
 ⟨λvs H Q E q=>F.len vs H Q E (h _ _ _ _ q),λA outer s H args us vs Q E hr he hb hv hs=>F.run A outer s H args us vs Q E hr he hb hv (h _ _ _ _ hs)⟩
variable{outer:List Env}
def uR.make (e:uR P w K mg base A outer s H)(C:Addr)(us:List Value)(kw:List (Str×Value)) :
  uR P w K mg base (A.under (.builtin "type.__call__" ⟨.ref C::us,kw⟩)) outer s H:=⟨by first|exact e.frames|(simpa[Around.under,Code.envs,Code.isFrame,pushEnvs] using e.frames),e.mod,e.bs,e.bsz,e.funs,e.frf,e.hok,e.bare⟩
def uR.in1 (e:uR P w K mg base A outer s H) :
  uR P w K mg base A.in1 outer s H:=⟨e.frames,e.mod,e.bs,e.bsz,e.funs,e.frf,e.hok,e.bare⟩
section
variable {X:Cx}{ag:List (Addr×Obj)}{σ:St}{H:Hp}{s s':Shared}
def Inv.env0 (I:Inv X ag σ H s):uR X.prog X.w X.K X.mg X.base X.A X.stack s H:=
 ⟨I.ok.frames,I.ok.mod,I.bs,Nat.le_trans I.ok.bsz I.sz,I.stack,I.stkFree,I.hok,I.bare⟩
def Inv.after {Q:VK}(I:Inv X ag σ H s)(h:CE X.stack X.prog X.w H s Q u s'):EP X ag σ Q u s':=by
 obtain⟨v,H',os,bare,un,hok,r,q⟩:=h;obtain⟨hh,g,d,t,os'⟩:=s';obtain rfl:os'=s.os:=os;exact⟨v,H',I.call (h':=hh) (g':=g) (d':=d) (t':=t) (ch:=[]) un hok bare (λb z=>absurd z (by simp)),r,q⟩
end
def ON (sp:Sp)(dvs:List V)(E:XK)(t:TA):TE:=λσ H Q=>t σ H λvs H1=>sp (vs++dvs) H1 Q E
def Ez (C:Addr)(m:Str)(sp:Sp)(dvs:List V)(E:XK)(ta:TE)(t:TA):TE:=λσ H Q=>ta σ H λx H1=>∃a dx fs,x=.ref a/\H1 a=Z (.ins C dx fs)/\fs.lookup m=Y/\
 t σ H1 λvs H2=>sp (x::(vs++dvs)) H2 Q E
def Kg (C:Addr)(sp:Sp)(dvs:List V)(E:XK)(t:TA):TE:=λσ H Q=>t σ H λvs H1=>∀x dx,H1 x=Y->H1 dx=Y->dx≠x->
 sp (.ref x::(vs++dvs)) (cx (cx H1 dx (.own x)) x (.ins C dx [])) (λv H2=>v=.non/\Q (.ref x) H2) E
def fz (K:W.Frag)(fd:FuncData)(ps:List Str)(ds:List Value):Prop:=
 ∀(s:Shared) (us:List Value),K.In s.heap->(us++ds).length=ps.length->BindsTo s fd ⟨us,[]⟩ (ps.zip (us++ds))
def fz.all (h:∀us:List Value,us.length=ps.length->bindArgs fd ⟨us,[]⟩=pure (ps.zip us)):fz K fd ps []:=λs us _ hl=>by
 rw[append_nil] at hl ⊢;exact .of_eq (h us hl)
def nT (CX:BW)(X:Cx)(E:XK):Prop:=∀(ag:List (Addr×Obj)) (σ:St) (H:Hp) (s:Shared) (e:Value) (s':Shared),Inv X ag σ H s->CX X.stack H s E e s'->X.xe e s'
variable{vs:List V}
section
variable {X:Cx}{CX:BW}{k:Nat}{f C:Addr}{fd:FuncData}{ps:List Str}{sp:Sp}{dvs:List V}{ds:List Value}{E:XK}{x m:Str}{p pos apos:Pos}{e o:Expr}{es:List Expr}{ta:TE}{t:TA}
def AS {Q:VK}(F:eB X.prog X.w X.K X.mg X.base CX k f fd ps sp)(hr:bM k X.A)(hb:fz X.K fd ps ds)(hd:ba dvs ds)(hx:nT CX X E)
  (I:Inv X ag σ H s) (r:ba vs us) (h:sp (vs++dvs) H Q E):wpAny (model X.prog X.w) X.A (call (.ref f) us) (EP X ag σ Q) X.xe s:=by
 have r2:ba (vs++dvs) (us++ds):=r.append hd;have hl:(us++ds).length=ps.length:=by rw[<-r2.length];exact F.len _ _ _ _ h
 refine wpAny_call (codeAny_mono (F.run X.A X.stack s H ⟨us,[]⟩ (us++ds) (vs++dvs) Q E hr I.env0 (hb s us I.kIn hl) r2 h) λr s' hq=>?_);cases r with
 | error e=>exact hx ag σ H s e s' I hq
 | ok fl=>
  cases fl with
  | ret u=>exact I.after hq
  | next=>exact False.elim hq
  | brk=>exact False.elim hq
  | cont=>exact False.elim hq
def HG (F:eB X.prog X.w X.K X.mg X.base CX k f fd ps sp)(hr:bM k X.A)(hg:Gl X x)(hm:X.mg x=Z (.ref f))(hk:W.keepIn X.K (.ref f)=true)(hb:fz X.K fd ps ds)(hd:ba dvs ds)(hx:nT CX X E)
  (ha:PA X (e::es) t) (hdb:(x==("__debug__":Str))=false:=by decide) (he:starEach (e::es) X.env=(false,eval e X.env)::starEach es X.env:=by rfl) (hpl:(backTo pos (starEach es X.env)).any (·.1)=false:=by rfl) :
  PE X (.Call (.Name x p) (e::es) [] pos) (ON sp dvs E t):=by
 intro ag s σ H Q I h;refine wpAny_Call_Name_kw (pv I hg hm ?_ hdb);refine W.callWith_K (h₀:=X.base) I.ok.mod.kin hk (cK (ha pos ag s σ H _ I h) λus s1 ⟨vs,H1,I1,r,q⟩=>⟨I1.kIn,?_⟩) he hpl;exact AS F hr hb hd hx I1 r q
def HF {pl:Sem Bool}(he:PE X o ta)(c:Fa X.K C)(hm:wx X.K C m f)(F:eB X.prog X.w X.K X.mg X.base CX k f fd ps sp)(hr:bM k X.A)(hb:fz X.K fd ps ds)(hd:ba dvs ds)(hx:nT CX X E)(ha:PA X (e::es) t)
  (hst:starEach (e::es) X.env=(false,eval e X.env)::starEach es X.env:=by rfl) (hpl:(backTo pos (starEach es X.env)).any (·.1)=false:=by rfl)
  (ht:eval (.Call (.Attribute o m apos) (e::es) [] pos) X.env=(do
   let ov <-eval o X.env
   standAt apos.atName
   let (f,first) <-holding [ov] (getMethod ov m pl)
   callWith pos f first (backTo pos (starEach (e::es) X.env)) (backToKw pos (keywordEach [] X.env))):=by rfl) :
  PE X (.Call (.Attribute o m apos) (e::es) [] pos) (Ez C m sp dvs E ta t):=by
 intro ag s σ H Q I h;refine W.methodCall_KW (pl:=pl) (cK (he ag s σ H _ I h) λu s1 hxx=>?_) ht;obtain⟨x,H1,I1,rx,a,dx,fs,ex,ea,l,q⟩:=hxx;subst ex;obtain rfl:u=Value.ref a:=rx;refine sk I1 ea c hm l ?_;refine W.callWith_K (first:=[.ref a]) (h₀:=X.base) I.ok.mod.kin hm.kp (cK (ha pos ag s1 σ H1 _ I1 q) λus s2 ⟨vs,H2,I2,r,q2⟩=>⟨I2.kIn,?_⟩) hst hpl;exact AS (us:=.ref a::us) (vs:=.ref a::vs) F hr hb hd hx I2 (.cons rfl r) q2
def D1 (he:PE X o ta)(c:Fa X.K C)(hm:wx X.K C m f)(F:eB X.prog X.w X.K X.mg X.base CX k f fd ps sp)(hr:bM k X.A)(hb:fz X.K fd ps ds)(hd:ba dvs ds)(hx:nT CX X E)
  (ht:eval (.Call (.Attribute o m apos) [] [] pos) X.env=(do
   let ov <-eval o X.env
   standAt apos.atName
   let (f,first) <-holding [ov] (getMethod ov m pl)
   callWith pos f first (backTo pos (starEach [] X.env)) (backToKw pos (keywordEach [] X.env))):=by rfl) :
  PE X (.Call (.Attribute o m apos) [] [] pos) (Ez C m sp dvs E ta Ex):=by
 intro ag s σ H Q I h;refine W.methodCall_KW (pl:=pl) (cK (he ag s σ H _ I h) λu s1 hxx=>?_) ht;obtain⟨x,H1,I1,rx,a,dx,fs,ex,ea,l,q⟩:=hxx;subst ex;obtain rfl:u=Value.ref a:=rx;refine sk I1 ea c hm l ?_;exact W.callWith_K0 (first:=[.ref a]) I1.kIn hm.kp (AS (us:=[.ref a]) (vs:=[.ref a]) F hr hb hd hx I1 (.cons rfl .nil) q)
structure Mk (K:W.Frag)(C f:Addr):Prop where
 makes:W.makesIn K C=true
 init:W.findIn K (.ref C) "__init__"=Z (Z (.ref f))
 fn:W.isFn K (.ref f)=true
 kp:W.keepIn K (.ref C)=true
def DD {Q:VK}(M:Mk X.K C f)(F:eB X.prog X.w X.K X.mg X.base CX k f fd ps sp)(hr:bM (k+1) X.A)(hb:fz X.K fd ps ds)(hd:ba dvs ds)
  (hx:nT CX X E) (I:Inv X ag σ H s) (r:ba vs us)
  (h:∀x dx,H x=Y->H dx=Y->dx≠x->sp (.ref x::(vs++dvs)) (cx (cx H dx (.own x)) x (.ins C dx [])) (λv H2=>v=.non/\Q (.ref x) H2) E) :
  wpAny (model X.prog X.w) X.A (call (.ref C) us) (EP X ag σ Q) X.xe s:=by
 have hq:=h (s.heap.objs.size+1) s.heap.objs.size (I.hok.fresh (Nat.le_succ _)) (I.hok.fresh (Nat.le_refl _)) (Nat.ne_of_lt (Nat.lt_succ_self _));have I2:=Inv.made (C:=C) I;have r2:ba (V.ref (s.heap.objs.size+1)::(vs++dvs)) (Value.ref (s.heap.objs.size+1)::(us++ds)):=.cons rfl (r.append hd);have hl:(Value.ref (s.heap.objs.size+1)::us++ds).length=ps.length:=by
  have e:=r2.length;rw[F.len _ _ _ _ hq] at e;exact e.symm
 refine wpAny_call (Gf (f:=f) I.kIn M.makes M.init (beq_iff_eq.mp M.fn) (codeAny_mono (F.run _ X.stack _ _ ⟨Value.ref (s.heap.objs.size+1)::us,[]⟩ (Value.ref (s.heap.objs.size+1)::(us++ds)) _ _ E (hr.make C us [])
  (I2.env0.make C us []) (hb _ (Value.ref (s.heap.objs.size+1)::us) I2.kIn hl) r2 hq) λr s' hq'=>?_))
 cases r with
 | error e=>exact hx ag σ _ _ e s' I2 hq'
 | ok fl=>
  cases fl with
  | ret u=>
   obtain⟨v,H',I3,rv,ev,q3⟩:=I2.after hq';subst ev;exact⟨rv,⟨V.ref (s.heap.objs.size+1),H',I3,rfl,q3⟩⟩
  | next=>exact False.elim hq'
  | brk=>exact False.elim hq'
  | cont=>exact False.elim hq'
def Il (M:Mk X.K C f)(F:eB X.prog X.w X.K X.mg X.base CX k f fd ps sp)(hr:bM (k+1) X.A)(hg:Gl X x)(hm:X.mg x=Z (.ref C))(hb:fz X.K fd ps ds)(hd:ba dvs ds)(hx:nT CX X E)
  (ha:PA X (e::es) t) (hdb:(x==("__debug__":Str))=false:=by decide) (he:starEach (e::es) X.env=(false,eval e X.env)::starEach es X.env:=by rfl) (hpl:(backTo pos (starEach es X.env)).any (·.1)=false:=by rfl) :
  PE X (.Call (.Name x p) (e::es) [] pos) (Kg C sp dvs E t):=by
 intro ag s σ H Q I h;refine wpAny_Call_Name_kw (pv I hg hm ?_ hdb);refine W.callWith_K (h₀:=X.base) I.ok.mod.kin M.kp (cK (ha pos ag s σ H _ I h) λus s1 ⟨vs,H1,I1,r,q⟩=>⟨I1.kIn,?_⟩) he hpl;exact DD M F hr hb hd hx I1 r q
end
structure ft (N P:List Str)(sc:Scope):Prop where
 kind:sc.kind=.function
 co:sc.isCoroutine=false
 gen:sc.isGenerator=false
 nd:N.Nodup
 pre:N.take P.length=P
 par:∀x∈P,sc.names.lookup x=Z .local\/sc.names.lookup x=Z .cell
 nofree:∀y∈sc.names,y.2≠.free
theorem vU {kindOf:Str->Option NameKind}{x:Str}:∀{binds:List (Str×Value)} {m:Str->Option Value},(∀v,(x,v)∉binds)->bindL kindOf binds m x=m x
 | [],_,_=>rfl
 | (n,v)::r,m,h=>by
  unfold bindL;rw[vU λw hw=>h w (mem_cons_of_mem _ hw)];split
  ·have:x≠n:=by rintro rfl;exact h v mem_cons_self
   simp[this]
  ·rfl
theorem wo {kindOf:Str->Option NameKind}{x:Str}:∀{binds:List (Str×Value)} {m:Str->Option Value},(∀v,(x,v)∉binds)->bindC kindOf binds m x=m x
 | [],_,_=>rfl
 | (n,v)::r,m,h=>by
  unfold bindC;rw[wo λw hw=>h w (mem_cons_of_mem _ hw)];split
  ·rfl
  ·have:x≠n:=by rintro rfl;exact h v mem_cons_self
   simp[this]
theorem vG {kindOf:Str->Option NameKind}{x:Str}{v:Value}:∀{P:List Str} {vs:List Value} {i:Nat} {m:Str->Option Value},P.Nodup->P[i]?=Z x->vs[i]?=Z v->kindOf x=Z .local->
  bindL kindOf (P.zip vs) m x=Z v
 | [],_,_,_,_,h,_,_=>by simp at h
 | _::_,[],_,_,_,_,h,_=>by simp at h
 | p::P,w::vs,0,m,nd,h1,h2,hk=>by
  simp at h1 h2;subst h1;subst h2;show bindL kindOf ((p,w)::P.zip vs) m p=_;unfold bindL;rw[vU λv hv=>(nodup_cons.mp nd).1 (of_mem_zip hv).1,if_pos hk];simp
 | p::P,w::vs,i+1,m,nd,h1,h2,hk=>by
  show bindL kindOf ((p,w)::P.zip vs) m x=_;unfold bindL;exact vG (i:=i) (nodup_cons.mp nd).2 (by simpa using h1) (by simpa using h2) hk
theorem wn {kindOf:Str->Option NameKind}{x:Str}{v:Value}:∀{P:List Str} {vs:List Value} {i:Nat} {m:Str->Option Value},P.Nodup->P[i]?=Z x->vs[i]?=Z v->kindOf x≠Z .local->
  bindC kindOf (P.zip vs) m x=Z v
 | [],_,_,_,_,h,_,_=>by simp at h
 | _::_,[],_,_,_,_,h,_=>by simp at h
 | p::P,w::vs,0,m,nd,h1,h2,hk=>by
  simp at h1 h2;subst h1;subst h2;show bindC kindOf ((p,w)::P.zip vs) m p=_;unfold bindC;rw[wo λv hv=>(nodup_cons.mp nd).1 (of_mem_zip hv).1,if_neg hk];simp
 | p::P,w::vs,i+1,m,nd,h1,h2,hk=>by
  show bindC kindOf ((p,w)::P.zip vs) m x=_;unfold bindC;exact wn (i:=i) (nodup_cons.mp nd).2 (by simpa using h1) (by simpa using h2) hk
def start (N:List Str)(vs:List V):St:=vs.map Z++List.replicate (N.length-vs.length) Y
def iy (CX:BW)(P:Program)(w:World)(K:W.Frag)(mg:Str->Option Value)(base:Heap)(N:List Str)(qual:Str)(scope:Scope)(f:Addr)(cd:Value)(A:Around)(outer:List Env)(s:Shared)(H:Hp)(E:XK):Cx where
 prog:=P
 w:=w
 K:=K
 mg:=mg
 base:=base
 A:=A.deeper (envOfC qual scope s.heap.objs.size f cd)
 N:=N
 s₀:=s
 H₀:=H
 env:=envOfC qual scope s.heap.objs.size f cd
 outer:=outer
 stack:=envOfC qual scope s.heap.objs.size f cd::outer
 ex:=[]
 calm:=true
 fn:=λ_=>true
 pn:=[]
 xe:=λe s'=>wpAny (model P w) (A.deeper (envOfC qual scope s.heap.objs.size f cd)) (leaving (envOfC qual scope s.heap.objs.size f cd) e) (λ_ s''=>CX outer H s E e s'') (λe' s''=>CX outer H s E e' s'') s'
def yb {sc:Scope}{n:Nat}(h:sc.names.lookup x=Z .cell):∃c,(cellsFrom n sc.names []).lookup x=Z c:=by
 have q:=W.cellsFrom_some sc.names n [] (.inl h);exact Option.isSome_iff_exists.mp q
variable{scope:Scope}
def vS {N:List Str}{qual:Str}{f:Addr}{cd:Value}{s1:Shared}{E:XK}
  (S:ft N ps scope) (hd:A.handled=Y) (e0:uR P w K mg base A outer s H) (hl:vs.length=ps.length) (r:ba vs us)
  (x:InCallC s s.heap.objs.size (bindL (envOfC qual scope s.heap.objs.size f cd).kindOf (ps.zip us) λ_=>Y) (cellsFrom (s.heap.objs.size+1) scope.names []) (bindC (envOfC qual scope s.heap.objs.size f cd).kindOf (ps.zip us) λ_=>Y) s1) :
  Inv (iy CX P w K mg base N qual scope f cd A outer s H E) [] (start N vs) H s1:=by
 have hpl:ps.length<=N.length:=by have:=congrArg List.length S.pre;rw[length_take] at this;omega
 obtain⟨h1,tk,rfl,hk⟩:=x.done;have noA:∀b:Addr,b∉(iy CX P w K mg base N qual scope f cd A outer s H E).ex:=λb z=>absurd (show b∈([]:List Addr) from z) (by simp)
 refine⟨⟨e0.mod,S.kind,rfl,rfl,Nat.le_refl _,λy z c h1 h2=>?_,λy hy=>?_,λy c _ h=>?_,λ_=>hd,Around.frames_deeper e0.frames,.inr ⟨rfl,rfl⟩,λb z=>absurd z (noA b),e0.bs,e0.bsz,λb _ _=>noA b,λb z=>absurd z (noA b),e0.funs,e0.frf⟩,
  rfl,e0.bare,Un.kept hk,⟨_,x.toInCall.ns,λi y v h1 h2 h3=>?_⟩,λy c h=>⟨_,x.cell y c h⟩,e0.hok.fresh (Nat.le_refl _),λy c h=>?_,λp hp=>absurd (show p∈([]:List (Addr×Obj)) from hp) (by simp),e0.hok.kept hk,?_⟩
 ·exact name_of_addr x.apart (PySem.mem_of_lookup h1) (PySem.mem_of_lookup h2)
 ·have hy:scope.names.lookup y=Z .cell\/scope.names.lookup y=Z .free:=hy;rcases hy with hy|hy
  ·exact yb hy
  ·exact absurd rfl (S.nofree _ (PySem.mem_of_lookup hy))
 ·exact Nat.le_of_lt (x.above y c (PySem.mem_of_lookup h))
 ·have hi:i<vs.length:=by
   unfold start at h2
   by_cases hi:i<vs.length
   ·exact hi
   ·rw[getElem?_append_right (by simpa using hi)] at h2;rw[getElem?_replicate] at h2;split at h2 <;> cases h2
  have ha:vs[i]?=Z v:=by
   unfold start at h2;rw[getElem?_append_left (by simpa using hi),getElem?_map] at h2;cases e:vs[i]? with
   | none=>rw[e] at h2;cases h2
   | some a=>rw[e] at h2;cases h2;rfl
  obtain⟨u,hu,rv⟩:=r.get ha;have hp:ps[i]?=Z y:=by
   rw[<-S.pre,getElem?_take_of_lt (by omega)];exact h1
  have ndP:ps.Nodup:=by rw[<-S.pre];exact S.nd.sublist (take_sublist _ _)
  refine⟨u,rv,?_⟩;rcases S.par y (mem_of_getElem? hp) with k|k
  ·exact .inl ⟨k,vG ndP hp hu k⟩
  ·obtain⟨c,e⟩:=yb (n:=s.heap.objs.size+1) k;refine .inr ⟨.inl k,c,e,?_⟩;have q:=x.cell y c e;rw[wn ndP hp hu (by show scope.names.lookup y≠_;rw[k];decide)] at q;exact q
 ·exact e0.hok.fresh (Nat.le_of_lt (x.above y c (PySem.mem_of_lookup h)))
 ·unfold start;show _=N.length;rw[length_append,length_map,length_replicate];omega
def JR {f:Addr}{name qual:Str}{params:Arguments}{dV kV doc pm cdv ct oc:Value}{an od:Option Addr}
  {osl:Array (Option Value)} {N:List Str} {sp:Sp} (lk:K.lookup f=Z ⟨oc,od,.func (W.fnOf name qual params body scope dV kV doc pm an cdv ct),osl⟩) (hcd:W.codeIn K cdv qual=true) (S:ft N ps scope)
  (len:∀vs H Q E,sp vs H Q E->vs.length=ps.length)
  (hbody:∀(A:Around) (outer:List Env) (s:Shared) (H:Hp) (vs:List V) (Q:VK) (E:XK),bM k (A.deeper (envOfC qual scope s.heap.objs.size f cdv))->sp vs H Q E->
   ∃t,PSs (iy CX P w K mg base N qual scope f cdv A outer s H E) body t/\t {nx:=λ_ H'=>Q .non H',rt:=Q} (start N vs) H) :
  eB P w K mg base CX (k+1) f (W.fnOf name qual params body scope dV kV doc pm an cdv ct) ps sp:=by
 refine⟨len,λA outer s H args us vs Q E hr e0 hb r hsp=>?_⟩;have hl:=len _ _ _ _ hsp;have KX:K.In s.heap:=e0.mod.kin.keeps λb o e=>(e0.bs b o e).1
 have lim:s.heap.NoLimit:=e0.mod.nolimit.keeps λb o e=>(e0.bs b o e).1
 have hkind:∀y∈ps.zip us,scope.names.lookup y.1=Z .local\/(scope.names.lookup y.1=Z .cell/\((cellsFrom (s.heap.objs.size+1) scope.names []).lookup y.1).isSome=true):=λ⟨n,v⟩ hy=>by
  rcases S.par n (of_mem_zip hy).1 with q|q
  ·exact .inl q
  ·exact .inr ⟨q,W.cellsFrom_some _ _ _ (.inl q)⟩
 refine codeAny_call_function hr.depth (KX _ _ lk) rfl S.co S.gen rfl (W.codeRec_of KX hcd) (hb _ _ _ _ ?_);refine wpAny_newFunctionEnv_cells S.kind hkind λenv he s1 x=>?_
 subst he;refine⟨lim.keeps x.toInCall.keep,codeAny_func ?_⟩;obtain⟨t,ht,hq⟩:=hbody A outer s H vs Q E (hr.deeper _) hsp;have I:Inv (iy CX P w K mg base N qual scope f cdv A outer s H E) [] (start N vs) H s1:=vS S hr.hd e0 hl r x;refine wpAny_mono (ht [] s1 (start N vs) H _ I hq) (λfl s' hs=>?_) λe s' hs=>hs
 have fin:∀{σ':St} {H':Hp} {v:V} {u:Value},Inv (iy CX P w K mg base N qual scope f cdv A outer s H E) [] σ' H' s'->RelV v u->Q v H'->CE outer P w H s Q u s':=
  λ{σ' H' v u} J rv q=>⟨v,H',J.os,J.bare,J.base,J.hok,rv,q⟩
 cases fl with
 | ret u=>
  obtain⟨v,σ',H',J,rv,q⟩:=hs;exact fin J rv q
 | next=>
  obtain⟨σ',H',J,q⟩:=hs;exact fin (v:=V.non) (u:=Value.none) J rfl q
 | brk=>
  obtain⟨_,_,_,q⟩:=hs;exact False.elim q
 | cont=>
  obtain⟨_,_,_,q⟩:=hs;exact False.elim q
section
variable {X:Cx}{x:Str}{p pos:Pos}{e:Expr}{es:List Expr}{t:TA}{id T:String}{r:List V->Hp->VK->Prop}
def Q1 (r:List V->Hp->VK->Prop)(t:TA):TE:=λσ H Q=>t σ H λvs H1=>r vs H1 Q
def ph (hc:d9 X (.builtin id) r)(hg:Gl X x)(hm:X.mg x=Y)(hv:bootBuiltins x=Z (.builtin id))(ha:PA X (e::es) t)(hn:x≠"__name__":=by decide)(hdb:(x==("__debug__":Str))=false:=by decide)
  (he:starEach (e::es) X.env=(false,eval e X.env)::starEach es X.env:=by rfl) (hpl:(backTo pos (starEach es X.env)).any (·.1)=false:=by rfl):PE X (.Call (.Name x p) (e::es) [] pos) (Q1 r t):=by
 intro ag s σ H Q I h;refine wpAny_Call_Name_kw (qx I hg hm hv ?_ hn hdb);exact PyProof.Rows.callWith_builtin1 (cK (ha pos ag s σ H _ I h) λus s1 ⟨vs,H1,I1,r1,q1⟩=>hc ag s1 σ H1 vs us Q I1 r1 q1) he hpl
def CW (hc:d9 X (.type T) r)(hg:Gl X x)(hm:X.mg x=Y)(hv:bootBuiltins x=Z (.type T))(ha:PA X (e::es) t)(hn:x≠"__name__":=by decide)(hdb:(x==("__debug__":Str))=false:=by decide)
  (he:starEach (e::es) X.env=(false,eval e X.env)::starEach es X.env:=by rfl) (hpl:(backTo pos (starEach es X.env)).any (·.1)=false:=by rfl):PE X (.Call (.Name x p) (e::es) [] pos) (Q1 r t):=by
 intro ag s σ H Q I h;refine wpAny_Call_Name_kw (qx I hg hm hv ?_ hn hdb);exact PyProof.Rows.callWith_type1 (cK (ha pos ag s σ H _ I h) λus s1 ⟨vs,H1,I1,r1,q1⟩=>hc ag s1 σ H1 vs us Q I1 r1 q1) he hpl
end
end L2
namespace HT
open PySem PyProof.Rows
def lexLt:List Int->List Int->Bool
 | [],[]=>false
 | [],_::_=>true
 | _::_,[]=>false
 | x::xs,y::ys=>if x=y then lexLt xs ys else decide (x<y)
theorem lexLt_cons (x y:Int)(xs ys:List Int):lexLt (x::xs) (y::ys)=if x=y then lexLt xs ys else decide (x<y):=rfl
theorem uO:lexLt [] []=false:=rfl
theorem tm (y:Int)(ys:List Int):lexLt [] (y::ys)=true:=rfl
theorem ug (x:Int)(xs:List Int):lexLt (x::xs) []=false:=rfl
def EV (A:Around)(s:Shared)(a:Int)(t:Tok)(c:Int)(u:Tok):∃e,SeqAt.EqAt A s (.int a t) (.int c u) e/\(e=true↔a=c):=
 ⟨(a==c),SeqAt.EqAt.int_int a t c u,by simp⟩
def Dr (A:Around)(s:Shared)(a:Int)(t:Tok)(c:Int)(u:Tok)(prog:Program)(w:World)(E:Value->Shared->Prop)(Q:Value->Shared->Prop)(h:Q (.bool (decide (a<c))) s) :
  wpAny (model prog w) A (richCompare .Lt (.int a t) (.int c u)) Q E s:=
 (PyProof.Rows.lt_int h:wpAny (model prog w) A (compareOp .Lt (.int a t) (.int c u)) Q E s)
section
open PySem.SeqAt
open PySem.AutoSeq1 (wpAny_loadPart')
open PySem.MeetsSeq PySem.MeetsSeq2 PySem.MeetsSeq3
def u9 (l b:Addr)(items items2:Array Value)(n n2:Nat)(dd dd2:Option Addr)(sl sl2:Array (Option Value))(ns ms:List Int)(hi:IntsAre items.toList ns)(hj:IntsAre items2.toList ms) :
  Meets (Builtin.«tuple.__lt__» ⟨[.ref l,.ref b],[]⟩)
   (λ_ R s=>s.heap.get? l=Z {cls:=.type "tuple",dict:=dd,data:=.seq items n,slots:=sl}/\s.heap.get? b=Z {cls:=.type "tuple",dict:=dd2,data:=.seq items2 n2,slots:=sl2}/\
    R (.ok (.ret (.bool (lexLt ns ms)))) s):=
 .of_wp λprog w A R s h=>by
  obtain⟨hp,g,d,tk,os⟩:=s;obtain⟨hl,hb,h⟩:=h;have f2:=AutoSeq1.sub_tuple_tuple;have z1:items.size=ns.length:=by rw[<-hi.length];simp
  have z2:items2.size=ms.length:=by rw[<-hj.length];simp
  wp_walk using wpAny_loadPart' hl,wpAny_loadPart' hb,wpAny_forIn_list _ (λrest b s'=>b.1=Y/\s'=⟨hp,g,d,tk,os⟩/\∃(vs ws:List Value) (ns' ms':List Int),rest=vs.zip ws/\
   IntsAre vs ns'/\IntsAre ws ms'/\ns'.length+items2.size=ms'.length+items.size/\R (.ok (.ret (.bool (lexLt ns' ms')))) ⟨hp,g,d,tk,os⟩) _
  case turn=>
   rintro ⟨y,x⟩ rest b s' ⟨hb',rfl,vs,ws,ns',ms',hz,hvi,hwi,hlen,hR⟩;cases hvi with
   | nil=>rw[List.zip_nil_left] at hz;cases hz
   | cons a t hvi'=>
    cases hwi with
    | nil=>rw[List.zip_nil_right] at hz;cases hz
    | cons c u hwi'=>
     rw[List.zip_cons_cons] at hz;injection hz with hyx hrest
     injection hyx with hy hx
     subst hy hx;rw[lexLt_cons] at hR;simp only[List.length_cons] at hlen;obtain⟨e,he,hiff⟩:=EV A.in1 ⟨hp,g,d,tk,os⟩ a t c u;refine wpAny_bind (he prog w _ _ ?_);cases e with
     | true=>
      rw[if_pos (hiff.mp rfl)] at hR
      wp_walk
      exact⟨rfl,rfl,_,_,_,_,hrest,hvi',hwi',by omega,hR⟩
     | false=>
      rw[if_neg (λq=>absurd (hiff.mpr q) Bool.false_ne_true)] at hR;have hri:=Dr A.in1 ⟨hp,g,d,tk,os⟩ a t c u prog w
      wp_walk using hri
      exact⟨_,rfl,by simpa using hR⟩
  case fin=>
   rintro ⟨b1,b2⟩ s' ⟨hb',rfl,vs,ws,ns',ms',hz,hvi,hwi,hlen,hR⟩;simp only at hb';subst hb';have hv:lexLt ns' ms'=decide (items.size<items2.size):=by
    cases hvi with
    | nil=>
     cases hwi with
     | nil=>
      simp only[List.length_nil] at hlen;rw[uO];exact(decide_eq_false (by omega)).symm
     | cons c u hw=>
      simp only[List.length_nil,List.length_cons] at hlen;rw[tm];exact(decide_eq_true (by omega)).symm
    | cons a t hv=>
     cases hwi with
     | nil=>
      simp only[List.length_nil,List.length_cons] at hlen;rw[ug];exact(decide_eq_false (by omega)).symm
     | cons c u hw=>
      rw[List.zip_cons_cons] at hz;cases hz
   rw[hv] at hR
   wp_walk
   exact⟨_,rfl,by simpa[Builtin.Tuple.tupleCompareSizes] using hR⟩
  case h=>
   exact⟨rfl,rfl,items.toList,items2.toList,ns,ms,rfl,hi,hj,by omega,h⟩
end
variable{Q:Value->Shared->Prop}
section
variable {prog:Program}{w:World}{A:Around}{E:Value->Shared->Prop}{s:Shared}
def lt_tupInts {l b:Addr}{items items2:Array Value}{ns ms:List Int}(hl:IsTup s.heap l items)(hb:IsTup s.heap b items2)(hi:IntsAre items.toList ns)(hj:IntsAre items2.toList ms)
  (hu:A.units<cLine) (h:Q (.bool (lexLt ns ms)) s):wpAny (model prog w) A (compareOp .Lt (.ref l) (.ref b)) Q E s:=by
 obtain⟨⟨cls,dd,data,sl⟩,ho,hc,n,hd⟩:=id hl;obtain⟨⟨cls2,dd2,data2,sl2⟩,ho2,hc2,n2,hd2⟩:=id hb;simp only at hc hd hc2 hd2;subst hc hd hc2 hd2;exact richCompare_meets_room (op:=.Lt) ⟨_,ho,rfl⟩ ⟨_,ho2,rfl⟩ PySem.F.slot_tuple_lt PySem.F.entry_tuple_lt (PySem.F.args_tuple_lt_2 _ _) (u9 l b items items2 n n2 dd dd2 sl sl2 ns ms hi hj)
  ⟨ho,ho2,show Value.bool (lexLt ns ms)≠Value.notImplemented/\Q (.bool (lexLt ns ms)) s from⟨(λx=>nomatch x),h⟩⟩ hu
def cat_tup {t b:Addr}{vs ws:List Value}(ht:IsTup s.heap t vs.toArray)(hb:IsTup s.heap b ws.toArray)(hv:vs≠[])
  (h1:ws=[]->Q (.ref t) s) (h2:ws≠[]->Q (.ref s.heap.objs.size) {s with heap:=s.heap.push {cls:=.type "tuple",data:=.seq (vs++ws).toArray}})
  (hsz:vs.length+ws.length<=sizeLine):wpAny (model prog w) A (binaryOp .Add (.ref t) (.ref b)) Q E s:=by
 obtain⟨⟨cls,dd,data,sl⟩,ho,hc,n,hd⟩:=id ht;obtain⟨⟨cls2,dd2,data2,sl2⟩,ho2,hc2,n2,hd2⟩:=id hb;simp only at hc hd hc2 hd2;subst hc hd hc2 hd2;have e:vs.toArray++ws.toArray=(vs++ws).toArray:=by simp
 by_cases hw:ws=[]
 ·exact concat_meets ⟨_,ho,rfl⟩ ⟨_,ho2,rfl⟩ noFill_tuple_add seq_tuple_add PySem.F.slot_tuple_add PySem.F.entry_tuple_add (PySem.F.args_tuple_add_2 _ _)
   (tuple_addW1 t b vs.toArray ws.toArray n n2 dd dd2 sl sl2 (by simpa using hv) (by simp[hw])) ⟨ho,ho2,h1 hw⟩
 ·refine concat_meets ⟨_,ho,rfl⟩ ⟨_,ho2,rfl⟩ noFill_tuple_add seq_tuple_add PySem.F.slot_tuple_add PySem.F.entry_tuple_add (PySem.F.args_tuple_add_2 _ _)
   (tuple_addW2 t b vs.toArray ws.toArray n n2 dd dd2 sl sl2 (by simpa using hv) (by simpa using hw) (by rw[List.size_toArray,List.size_toArray];exact hsz)) ⟨ho,ho2,?_⟩
  rw[e];exact h2 hw
def sIx (n d:Nat):Option Int->Nat
 | none=>d
 | some v=>if v<0 then(v+(n:Int)).toNat else min v.toNat n
theorem sIx_none (n d:Nat):sIx n d Y=d:=rfl
def sIx_nat (n d k:Nat):sIx n d (Z (k:Int))=min k n:=by
 show(if(k:Int)<0 then((k:Int)+(n:Int)).toNat else min (k:Int).toNat n)=min k n;rw[if_neg (by omega),Int.toNat_natCast]
def LX (n d:Nat)(hd:d<=n)(o:Option Int):sIx n d o<=n:=by
 cases o with
 | none=>exact hd
 | some v=>
  show(if v<0 then(v+(n:Int)).toNat else min v.toNat n)<=n
  by_cases hv:v<0
  ·rw[if_pos hv];omega
  ·rw[if_neg hv];exact Nat.min_le_right _ _
def AZ (v:Int)(n d:Nat):(if v<0 then max (v+(n:Int)) 0 else min v (n:Int))=((sIx n d (Z v):Nat):Int):=by
 show(if v<0 then max (v+(n:Int)) 0 else min v (n:Int))=(((if v<0 then(v+(n:Int)).toNat else min v.toNat n):Nat):Int)
 by_cases hv:v<0
 ·simp only[if_pos hv];omega
 ·simp only[if_neg hv];omega
def zO (lo hi:Option Int)(n:Nat):Builtin.Slice.sliceAdjust lo hi 1 (n:Int)=(((sIx n 0 lo:Nat):Int),((sIx n n hi:Nat):Int)):=by
 have h1:¬((1:Int)<0):=by omega
 unfold Builtin.Slice.sliceAdjust;simp only[h1,if_false];refine Prod.ext ?_ ?_
 ·cases lo with
  | none=>rfl
  | some v=>exact AZ v n 0
 ·cases hi with
  | none=>rfl
  | some v=>exact AZ v n n
def Aj (i j:Nat):Builtin.Slice.slicePlaces (i:Int) (j:Int) 1=j-i:=by
 unfold Builtin.Slice.slicePlaces;have h1:(1:Int)>0:=by omega
 simp only[h1,if_true,Int.ediv_one];split <;> omega
def um {v:Value}{o:Option Int}{Q:Option Int->Shared->Prop}(p:IsPart v o)(h:Q o s):wpAny (model prog w) A (Builtin.Slice.slicePartIndex v) Q E s:=by
 cases p with
 | none=>exact slicePart_none h
 | int i t=>exact slicePart_int h
def sliceApplied_gen {sl:Addr}{vl vu:Value}{lo hi:Option Int}{n:Nat}{Q:Int×Int×Nat->Shared->Prop}(hs:s.heap.IsSliceOf sl vl vu .none)(pl:IsPart vl lo)(pu:IsPart vu hi)
  (h:Q (((sIx n 0 lo:Nat):Int),1,sIx n n hi-sIx n 0 lo) s):wpAny (model prog w) A (Builtin.Slice.sliceApplied (.ref sl) (pure (n:Int))) Q E s:=by
 obtain⟨os,hos,hcs,hds⟩:=id hs;unfold Builtin.Slice.sliceApplied Builtin.Slice.sliceFields;refine wpAny_bind (wpAny_bind (wpAny_field hos hds (x:=vl) rfl (wpAny_bind (wpAny_field hos hds (x:=vu) rfl (wpAny_bind (wpAny_field hos hds (x:=.none) rfl (wpAny_pure ?_)))))));refine wpAny_bind (slicePart_none ?_);show wpAny _ _ (if((1:Int)==0)=true then _ else _) _ _ s;rw[if_neg (by decide)];refine wpAny_bind (um pl (wpAny_bind (um pu (wpAny_bind (wpAny_pure ?_)))));show wpAny _ _ (match Builtin.Slice.sliceAdjust lo hi 1 (n:Int) with|(lo,hi)=>pure (lo,(1:Int),Builtin.Slice.slicePlaces lo hi 1)) _ _ s;rw[zO lo hi n];show wpAny _ _ (pure (((sIx n 0 lo:Nat):Int),(1:Int),Builtin.Slice.slicePlaces ((sIx n 0 lo:Nat):Int) ((sIx n n hi:Nat):Int) 1)) _ _ s;rw[Aj];exact wpAny_pure h
def Ff (xs:Array Value)(i k:Nat):((List.range k).filterMap λ(m:Nat)=>xs[((i:Int)+(m:Int)*1).toNat]?).toArray=((xs.toList.drop i).take k).toArray:=by
 have e:(λ(m:Nat)=>xs[((i:Int)+(m:Int)*1).toNat]?)=λm=>xs[i+m]?:=by
  funext m;have:((i:Int)+(m:Int)*1).toNat=i+m:=by omega
  rw[this]
 rw[e];have:=pick_run xs i k;rw[List.filterMap_map] at this;have e2:((λx=>xs[x]?) ∘ λx=>i+x)=λm=>xs[i+m]?:=rfl
 rw[e2] at this;rw[this]
def getItem_tuple_cut {t sl:Addr}{items:Array Value}{vl vu:Value}{lo hi:Option Int}(ht:IsTup s.heap t items)(hs:s.heap.IsSliceOf sl vl vu .none)(pl:IsPart vl lo)(pu:IsPart vu hi)
  (hw:¬(sIx items.size 0 lo=0/\sIx items.size items.size hi=items.size))
  (h:Q (.ref s.heap.objs.size) {s with heap:=s.heap.push {cls:=.type "tuple",data:=.seq ((items.toList.drop (sIx items.size 0 lo)).take (sIx items.size items.size hi-sIx items.size 0 lo)).toArray}})
  (hsz:items.size<=sizeLine):wpAny (model prog w) A (getItem (.ref t) (.ref sl)) Q E s:=by
 have htake:sizeOk (.seq ((items.toList.drop (sIx items.size 0 lo)).take (sIx items.size items.size hi-sIx items.size 0 lo)).toArray):=by
  show((items.toList.drop (sIx items.size 0 lo)).take (sIx items.size items.size hi-sIx items.size 0 lo)).toArray.size<=sizeLine;rw[List.size_toArray,List.length_take,List.length_drop,Array.length_toList];omega
 have hj:sIx items.size items.size hi<=items.size:=LX _ _ (Nat.le_refl _) hi;obtain⟨os,hos,hcs,hds⟩:=id hs;have hTs:s.TypeIs (.ref sl) "slice":=⟨os,hos,hcs⟩;unfold getItem
 try with_reducible refine wpAny_holding ?_
 first|refine wpAny_bind (wpAny_pure ?_)|skip
 refine wpAny_bind (wpAny_sequenceKey ht.typeIs (by decide) ?_);refine wpAny_bind (wpAny_callSpecial?_slot (name:=Str.ofString "__getitem__") ht.typeIs PyProof.Rows.slot_tuple_getitem
  (wpAny_call_entry PyProof.Rows.slot_tuple_getitem ht.typeIs entry_tuple_getitem ?_ (args_tuple_getitem _ _)))
 show wpAny _ _ (Builtin.Tuple.tupleItemsOf (.ref t) >>= _) _ _ s;refine wpAny_bind (tupleItemsOf_ ht ?_);refine wpAny_bind (wpAny_typeOf hTs ?_);rw[if_pos (by decide)];refine wpAny_bind (sliceApplied_gen hs pl pu ?_);have hno:¬((((sIx items.size 0 lo:Nat):Int)==0&&(1:Int)==1&&(sIx items.size items.size hi-sIx items.size 0 lo)==items.size)=true):=by
  intro q;rw[Bool.and_eq_true,Bool.and_eq_true] at q;have q1:((sIx items.size 0 lo:Nat):Int)=0:=eq_of_beq q.1.1;have q2:sIx items.size items.size hi-sIx items.size 0 lo=items.size:=eq_of_beq q.2;exact hw ⟨by omega,by omega⟩
 show wpAny _ _ (if(((sIx items.size 0 lo:Nat):Int)==0&&(1:Int)==1&&(sIx items.size items.size hi-sIx items.size 0 lo)==items.size)=true then _ else _) _ _ s;rw[if_neg hno,Ff]
 first
  | exact wpAny_bind (m:=Builtin.Tuple.tupleExact _) (wpAny_newObj_type (wpAny_pure ⟨_,rfl,wpAny_pure h⟩) htake)
  | exact wpAny_bind (m:=Builtin.Tuple.tupleExact _) (wpAny_newObj_type (wpAny_bind (wpAny_pure (wpAny_pure ⟨_,rfl,wpAny_pure h⟩))) htake)
  | exact wpAny_bind (wpAny_bind (m:=Builtin.Tuple.tupleExact _) (wpAny_newObj_type (wpAny_pure (wpAny_pure ⟨_,rfl,wpAny_pure h⟩)) htake))
  | exact wpAny_bind (wpAny_bind (m:=Builtin.Tuple.tupleExact _) (wpAny_newObj_type (wpAny_pure ⟨_,rfl,wpAny_pure h⟩) htake))
end
end HT
namespace L2
open PySem PySem.Spec PyProof.Rows List
abbrev TO:=St->Hp->(Option Int->Hp->Prop)->Prop
def PO (X:Cx)(e:Option Expr)(t:TO):Prop:=
 ∀(ag:List (Addr×Obj)) (s:Shared) (σ:St) (H:Hp) (Q:Option Int->Hp->Prop),Inv X ag σ H s->t σ H Q->
  wpAny (model X.prog X.w) X.A (evalPart e X.env) (λu s'=>∃o H',Inv X ag σ H' s'/\IsPart u o/\Q o H') X.xe s
def Jn:TO:=λ_ H Q=>Q Y H
def OR (t:TE):TO:=λσ H Q=>t σ H λx H1=>∃i,x=.int i/\Q (Z i) H1
def nZ {ns:List Int}:∀{us:List Value},ba (ns.map V.int) us->IntsAre us ns:=by
 induction ns with
 | nil=>intro us r;rw[map_nil] at r;cases r;exact .nil
 | cons n ns ih=>
  intro us r;rw[map_cons] at r;cases r with
  | cons r1 r2=>
   obtain⟨t,e⟩:=r1;subst e;exact .cons n t (ih r2)
variable{xs:List V}{us:List Value}
section
variable {X:Cx}{e:Expr}{te:TE}{lo hi:Option Expr}{tl th:TO}{pos p2:Pos}
def HY:PO X Y Jn:=by
 intro ag s σ H Q I h;rw[evalPart_none];exact wpAny_pure ⟨Y,H,I,.none,h⟩
def IF (h:PE X e te):PO X (Z e) (OR te):=by
 intro ag s σ H Q I hw;rw[evalPart_some];refine cK (h ag s σ H _ I hw) λu s1 hxx=>?_
 obtain⟨x,H1,I1,r1,q1⟩:=hxx;obtain⟨i,rfl,q⟩:=q1;obtain⟨t,rfl⟩:=r1;exact⟨Z i,H1,I1,.int i t,q⟩
def QV (X:Cx)(r:V->Option Int->Option Int->Hp->VK->Prop):Prop:=
 ∀(ag:List (Addr×Obj)) (s:Shared) (σ:St) (H:Hp) (x:V) (v vl vu:Value) (lo hi:Option Int) (sl:Addr) (Q:VK),Inv X ag σ H s->RelV x v->s.heap.IsSliceOf sl vl vu .none->IsPart vl lo->IsPart vu hi->r x lo hi H Q->
  ∃T id,typeLookup (.type T) "__getitem__"=pure (Z (.builtin id))/\s.TypeIs v T/\wpAny (model X.prog X.w) X.A (getItem v (.ref sl)) (EP X ag σ Q) X.xe s
def S3 (r:V->Option Int->Option Int->Hp->VK->Prop)(te:TE)(tl th:TO):TE:=λσ H Q=>te σ H λx H1=>tl σ H1 λl H2=>th σ H2 λu H3=>r x l u H3 Q
def EY {r:V->Option Int->Option Int->Hp->VK->Prop}(hr:QV X r)(he:PE X e te)(hl:PO X lo tl)(hu:PO X hi th):PE X (.Subscript e (.Slice lo hi Y p2) pos) (S3 r te tl th):=by
 intro ag s σ H Q I h;refine Subscript_ (cK (he ag s σ H _ I h) λv s1 hxx=>?_);obtain⟨x,H1,I1,r1,q1⟩:=hxx;refine wpAny_Slice (cK (hl ag s1 σ H1 _ I1 q1) λvl s2 ⟨l,H2,I2,pl,q2⟩=>cK (hu ag s2 σ H2 _ I2 q2) λvu s3 hxx=>?_);obtain⟨u,H3,I3,pu,q3⟩:=hxx;rw[evalPart_none];refine wpAny_pure ?_;have I4:Inv X ag σ H3 {s3 with heap:=s3.heap.push {cls:=.type "slice",data:=.fields #[vl,vu,.none]}}:=I3.kept (t':=s3.toks) λb ob q=>Heap.get?_push_of_some _ q
 obtain⟨T,id,hT,ht,hg⟩:=hr ag {s3 with heap:=s3.heap.push {cls:=.type "slice",data:=.fields #[vl,vu,.none]}} σ H3 x v vl vu l u s3.heap.objs.size Q I4 r1 (Heap.IsSliceOf.new ..) pl pu q3;show wpAny (model X.prog X.w) X.A (subscriptTail e (.Slice lo hi Y p2) v (.ref s3.heap.objs.size)) (EP X ag σ Q) X.xe {s3 with heap:=s3.heap.push {cls:=.type "slice",data:=.fields #[vl,vu,.none]}};exact tail_any (ops:=[.ref s3.heap.objs.size,v]) ht hT hg (by with_unfolding_all rfl)
def yc (xs:List V)(lo hi:Option Int):List V:=(xs.drop (HT.sIx xs.length 0 lo)).take (HT.sIx xs.length xs.length hi-HT.sIx xs.length 0 lo)
def qG (xs:List V)(lo hi:Option Int):(yc xs lo hi).length<=xs.length:=by
 unfold yc;rw[length_take,length_drop];omega
def R9 (K:W.Frag):V->Option Int->Option Int->Hp->VK->Prop:=λx lo hi H Q=>∃a xs,x=.ref a/\rF K H a xs/\
 ¬(HT.sIx xs.length 0 lo=0/\HT.sIx xs.length xs.length hi=xs.length)/\∀p,H p=Y->Q (.ref p) (cx H p (.tup (yc xs lo hi)))
def LH:QV X (R9 X.K):=by
 intro ag s σ H x v vl vu lo hi sl Q I rx hs pl pu h;obtain⟨a,xs,rfl,hx,hw,q⟩:=h;cases rx;obtain⟨its,r,ht,hz⟩:=I.tuple hx;have hlen:its.toArray.size=xs.length:=by rw[size_toArray];exact r.length.symm
 refine⟨"tuple",_,PyProof.Rows.slot_tuple_getitem.lookup,ht.typeIs,?_⟩;refine HT.getItem_tuple_cut ht hs pl pu (by rw[hlen];exact hw) ?_ (by rw[hlen];exact hz);rw[hlen];refine⟨.ref s.heap.objs.size,_,I.laid (t':=s.toks) (o:=.tup (yc xs lo hi)) (λb ob q=>Heap.get?_push_of_some _ q) (Nat.le_refl _) ?_,rfl,q _ (I.hok.fresh (Nat.le_refl _))⟩;exact⟨Nat.le_trans (qG xs lo hi) hz,_,(r.drop (HT.sIx xs.length 0 lo)).take (HT.sIx xs.length xs.length hi-HT.sIx xs.length 0 lo),IsTup.new _ _⟩
def OT (K:W.Frag):R2:=λx y H Q=>∃a b xs ys,x=.ref a/\y=.ref b/\rF K H a xs/\rF K H b ys/\xs≠[]/\xs.length+ys.length<=sizeLine/\
 (ys=[]->Q (.ref a) H)/\(ys≠[]->∀p,H p=Y->Q (.ref p) (cx H p (.tup (xs++ys))))
def ba.nil_iff (r:ba xs us):us=[]↔xs=[]:=by
 cases r with
 | nil=>simp
 | cons _ _=>simp
def HL:iV X (binaryOp .Add) (OT X.K):=by
 intro ag s σ H x y v u Q I rx ry h;obtain⟨a,b,xs,ys,rfl,rfl,ha,hb,hx,hz,q1,q2⟩:=h;cases rx;cases ry;obtain⟨its,r1,p1,_⟩:=I.tuple ha;obtain⟨its2,r2,p2,_⟩:=I.tuple hb;refine HT.cat_tup p1 p2 (λz=>hx (r1.nil_iff.mp z)) (λz=>⟨.ref a,H,I,rfl,q1 (r2.nil_iff.mp z)⟩) (λz=>?_) (by rw[<-r1.length,<-r2.length];exact hz);refine⟨.ref s.heap.objs.size,_,I.laid (t':=s.toks) (o:=.tup (xs++ys)) (λb ob q=>Heap.get?_push_of_some _ q) (Nat.le_refl _) ?_,rfl,q2 (λw=>z (r2.nil_iff.mpr w)) _ (I.hok.fresh (Nat.le_refl _))⟩;exact⟨by rw[length_append];exact hz,_,r1.append r2,IsTup.new _ _⟩
end
def GW (n:Nat)(i:Int):Option Nat:=if 0<=i then(if i<n then Z i.toNat else Y) else if -(n:Int)<=i then Z (i+n).toNat else Y
def pN {α:Type}(xs:List α)(i:Int):Option α:=(GW xs.length i).bind λj=>xs[j]?
def Bb {n:Nat}{i:Int}{j:Nat}(h:GW n i=Z j):seqIndex? i n=Z j/\j<n/\-(n:Int)<=i/\i<n:=by
 unfold GW at h
 by_cases h0:0<=i
 ·rw[if_pos h0] at h
  by_cases h1:i<n
  ·rw[if_pos h1] at h;have e:i.toNat=j:=Option.some.inj h;exact⟨by rw[seqIndex_of h0 h1,e],by omega,by omega,h1⟩
  ·rw[if_neg h1] at h;cases h
 ·rw[if_neg h0] at h
  by_cases h1:-(n:Int)<=i
  ·rw[if_pos h1] at h;have e:(i+n).toNat=j:=Option.some.inj h;exact⟨by rw[seqIndex_neg (by omega) h1,e],by omega,h1,by omega⟩
  ·rw[if_neg h1] at h;cases h
def A2 {α:Type}{xs:List α}{i:Int}{v:α}(h:pN xs i=Z v):∃j,seqIndex? i xs.length=Z j/\xs[j]?=Z v/\j<xs.length/\-(xs.length:Int)<=i/\i<xs.length:=by
 unfold pN at h;cases e:GW xs.length i with
 | none=>rw[e] at h;cases h
 | some j=>
  rw[e] at h;obtain⟨h1,h2,h3,h4⟩:=Bb e;exact⟨j,h1,h,h2,h3,h4⟩
def rR {α:Type}{xs:List α}{j:Nat}{v:α}(h:xs[j]?=Z v):pN xs (j:Int)=Z v:=by
 have hj:j<xs.length:=(List.getElem?_eq_some_iff.mp h).1;have e:GW xs.length (j:Int)=Z j:=by
  unfold GW;rw[if_pos (by omega),if_pos (by omega)];simp
 unfold pN;rw[e];exact h
def xh (b:Expr):Prop:=∀o i,subscripted b false o i=operate [o,i] (getItem o i)
def QL (X:Cx)(r:R2):Prop:=
 ∀(value slice:Expr) (ag:List (Addr×Obj)) (s:Shared) (σ:St) (H:Hp) (x y:V) (v u:Value) (Q:VK),Inv X ag σ H s->RelV x v->RelV y u->r x y H Q->
  subscripted slice false v u=operate [v,u] (getItem v u)->wpAny (model X.prog X.w) X.A (subscriptTail value slice v u) (EP X ag σ Q) X.xe s
def Sz (X:Cx)(id:String)(r:V->List V->Hp->VK->Prop):Prop:=
 ∀(ag:List (Addr×Obj)) (s:Shared) (σ:St) (H:Hp) (x:V) (xs:List V) (v:Value) (us:List Value) (Q:VK),Inv X ag σ H s->RelV x v->ba xs us->r x xs H Q->
  wpAny (model X.prog X.w) X.A (call (.builtin id) (v::us)) (EP X ag σ Q) X.xe s
variable{ag:List (Addr×Obj)}{σ:St}{H:Hp}{s:Shared}
section
variable {X:Cx}{a b:Expr}{ta tb:TE}{pos:Pos}
def Pb {r:R2}(hr:QL X r)(ha:PE X a ta)(hb:PE X b tb)(hs:xh b):PE X (.Subscript a b pos) (OC r ta tb):=by
 intro ag s σ H Q I h;exact Subscript_ (Nz ha hb I h λv u s2 x y H2 I2 rx ry q=>hr a b ag s2 σ H2 x y v u Q I2 rx ry q (hs _ _))
def R0 (K:W.Frag):R2:=λx y H Q=>∃p xs i v,x=.ref p/\y=.int i/\nj K H p xs/\pN xs i=Z v/\Q v H
def Rf (K:W.Frag):R2:=λx y H Q=>∃p xs i v,x=.ref p/\y=.int i/\rF K H p xs/\pN xs i=Z v/\Q v H
def Ib:QL X (R0 X.K):=by
 intro value slice ag s σ H x y v u Q I rx ry h hs;obtain⟨p,xs,i,z,rfl,rfl,hq,he,q⟩:=h;cases rx;obtain⟨t,rfl⟩:=ry;obtain⟨its,r,pl,hz⟩:=I.list hq;obtain⟨j,h1,h2,h3,h4,h5⟩:=A2 he;obtain⟨w,ew,rw'⟩:=r.get h2;have hl:=r.length;have hn:=nM;have fin:EP X ag σ Q w s:=⟨z,H,I,rw',q⟩
 by_cases h0:0<=i
 ·have hj:i.toNat=j:=by
   rw[seqIndex_of h0 h5] at h1;exact Option.some.inj h1
  exact item_listR pl.isList h0 (by omega) (by rw[hj];simpa using ew) fin hs
 ·have hj:(i+(its.toArray.size:Int)).toNat=j:=by
   rw[seqIndex_neg (by omega) h4] at h1;rw[size_toArray,<-hl];exact Option.some.inj h1
  exact subscriptTail_builtinR (x:=w) pl.isList.typeIs slot_list_getitem.lookup
   (wpAny_getItem_list_neg (Q:=λr s'=>r=w/\EP X ag σ Q r s') pl.isList (by omega) (by rw[size_toArray] <;> omega) (by omega) (by rw[hj];simpa using ew) ⟨rfl,fin⟩) hs
def MB:QL X (Rf X.K):=by
 intro value slice ag s σ H x y v u Q I rx ry h hs;obtain⟨p,xs,i,z,rfl,rfl,hq,he,q⟩:=h;cases rx;obtain⟨t,rfl⟩:=ry;obtain⟨its,r,pl,hz⟩:=I.tuple hq;obtain⟨j,h1,h2,h3,h4,h5⟩:=A2 he;obtain⟨w,ew,rw'⟩:=r.get h2;have hl:=r.length;have hn:=nM;have fin:EP X ag σ Q w s:=⟨z,H,I,rw',q⟩;exact subscriptTail_builtinR (x:=w) pl.typeIs slot_tuple_getitem.lookup
  (getItem_tuple (j:=j) (Q:=λr s'=>r=w/\EP X ag σ Q r s') pl (by omega) (by omega) (by rw[size_toArray,<-hl];exact h1) (by simpa using ew) ⟨rfl,fin⟩) hs
def zG (its:List Value)(n j:Nat)(u:Value):Obj.mapSeq (·.setIfInBounds j u) {cls:=.type "list",data:=.seq its.toArray n}={cls:=.type "list",data:=.seq (its.set j u).toArray n}:=by
 simp[Obj.mapSeq]
def Inv.lst {p:Addr}(I:Inv X ag σ H s)(h:H p=Z (.lst xs)) :
  ∃(its:List Value) (n:Nat),ba xs its/\s.heap.get? p=Z {cls:=.type "list",data:=.seq its.toArray n}/\xs.length<=sizeLine:=by
 obtain⟨z,its,n,r,e⟩:=I.hok p _ h;exact⟨its,n,r,e,z⟩
def Inv.lstUpd {p:Addr}{ys:List V}{its its':List Value}{n n':Nat}{f:Obj->Obj}(I:Inv X ag σ H s)(h:H p=Z (.lst xs))
  (ho:s.heap.get? p=Z {cls:=.type "list",data:=.seq its.toArray n}) (hf:f {cls:=.type "list",data:=.seq its.toArray n}={cls:=.type "list",data:=.seq its'.toArray n'}) (r:ba ys its') (hz:ys.length<=sizeLine) (t:Nat) :
  Inv X ag σ (cx H p (.lst ys)) {s with heap:=s.heap.update p f,toks:=t}:=by
 have e:(s.heap.update p f).get? p=Z {cls:=.type "list",data:=.seq its'.toArray n'}:=by
  rw[Heap.get?_update_self f ho (by rw[hf] <;> rfl),hf]
 refine I.write (x:=p) (e:=p) (by rw[h];trivial) (.inl rfl) (λb u hb q=>(Heap.get?_update_other _ _ (Ne.symm hb)).trans q) ⟨_,e⟩ ?_;exact⟨hz,its',n',r,e⟩
def Oy:V->V->V->Hp->(Hp->Prop)->Prop:=λo i v H Q=>∃p xs k j,o=.ref p/\i=.int k/\H p=Z (.lst xs)/\GW xs.length k=Z j/\Q (cx H p (.lst (xs.set j v)))
def Gs:Qb X Oy:=by
 intro ag s σ H o i v ov iv u Q I ro ri rv h;obtain⟨p,xs,k,j,rfl,rfl,hp,hj,q⟩:=h;cases ro;obtain⟨t,rfl⟩:=ri;obtain⟨its,n,r,ho,hz⟩:=I.lst hp;obtain⟨h1,h2,h3,h4⟩:=Bb hj;have hl:=r.length;have hn:=nM;have I':Inv X ag σ (cx H p (.lst (xs.set j v))) {s with heap:=s.heap.update p (Obj.mapSeq (·.setIfInBounds j u))}:=
  I.lstUpd hp ho (zG its n j u) (r.set rv j) (by rw[length_set];exact hz) s.toks
 by_cases h0:0<=k
 ·have hk:k.toNat=j:=by
   rw[seqIndex_of h0 h4] at h1;exact Option.some.inj h1
  exact W.ki_setAt ho h0 (by omega) (by rw[size_toArray,<-hl];exact h4) (by rw[hk];exact⟨_,I',q⟩)
 ·have hk:(k+(its.toArray.size:Int)).toNat=j:=by
   rw[seqIndex_neg (by omega) h3] at h1;rw[size_toArray,<-hl];exact Option.some.inj h1
  exact W.ki_setBack ho (by omega) (by rw[size_toArray,<-hl];exact h3) (by omega) (by rw[hk];exact⟨_,I',q⟩)
def xj (lo hi:Option Int)(n:Nat):(sliceBounds lo hi Y n).1=((HT.sIx n 0 lo:Nat):Int)/\(sliceBounds lo hi Y n).2.1=((HT.sIx n n hi:Nat):Int)/\(sliceBounds lo hi Y n).2.2=1:=by
 refine⟨?_,?_,rfl⟩
 ·cases lo with
  | none=>simp[sliceBounds,HT.sIx]
  | some i=>
   simp only[sliceBounds,HT.sIx,Option.getD_none,show(1:Int)>0 by decide,if_true]
   by_cases h:i<0
   ·simp only[h,if_true] <;> omega
   ·simp only[h,if_false] <;> omega
 ·cases hi with
  | none=>simp[sliceBounds,HT.sIx]
  | some i=>
   simp only[sliceBounds,HT.sIx,Option.getD_none,show(1:Int)>0 by decide,if_true]
   by_cases h:i<0
   ·simp only[h,if_true] <;> omega
   ·simp only[h,if_false] <;> omega
def uL (its:List Value)(lo hi:Option Int):slicePick its.toArray lo hi Y=((its.drop (HT.sIx its.length 0 lo)).take (HT.sIx its.length its.length hi-HT.sIx its.length 0 lo)).toArray:=by
 obtain⟨h1,h2,h3⟩:=xj lo hi its.toArray.size;unfold slicePick;rw[h1,h2,h3];simp only[sliceRange_one,pick_run,size_toArray] <;> rfl
def RI (K:W.Frag):V->Option Int->Option Int->Hp->VK->Prop:=λx lo hi H Q=>∃a xs,x=.ref a/\nj K H a xs/\∀p,H p=Y->Q (.ref p) (cx H p (.lst (yc xs lo hi)))
def wC:QV X (RI X.K):=by
 intro ag s σ H x v vl vu lo hi sl Q I rx hs pl pu h;obtain⟨a,xs,rfl,hx,q⟩:=h;cases rx;obtain⟨its,r,ht,hz⟩:=I.list hx;have hlen:=r.length;refine⟨"list",_,slot_list_getitem.lookup,ht.isList.typeIs,?_⟩;refine wpAny_getItem_list_slice ht.isList hs pl pu .none (by simp) ?_ (by rw[size_toArray] <;> omega);rw[uL,<-hlen];refine⟨.ref s.heap.objs.size,_,I.laid (t':=s.toks) (o:=.lst (yc xs lo hi)) (λb ob q=>Heap.get?_push_of_some _ q) (Nat.le_refl _) ?_,rfl,q _ (I.hok.fresh (Nat.le_refl _))⟩;exact⟨Nat.le_trans (qG xs lo hi) hz,_,0,(r.drop (HT.sIx xs.length 0 lo)).take (HT.sIx xs.length xs.length hi-HT.sIx xs.length 0 lo),Heap.get?_push_size _ rfl⟩
def iF:V->Bool
 | .non=>true
 | .bl _=>true
 | .int _=>true
 | .str _=>true
 | _=>false
def zg:V->V->Bool
 | .non,.non=>true
 | .bl a,.bl b=>a==b
 | .bl a,.int b=>(if a then 1 else 0)==b
 | .int a,.bl b=>a==(if b then 1 else 0)
 | .int a,.int b=>a==b
 | .str a,.str b=>a==b
 | _,_=>false
def LR {A:Around}{y x:V}{u v:Value}(ry:RelV y u)(rx:RelV x v)(fy:iF y=true)(fx:iF x=true):SeqAt.EqAt A s u v (zg y x):=by
 cases y with
 | non=>
  cases ry;cases x with
  | non=>cases rx;exact SeqAt.EqAt.same _
  | bl b=>cases rx;exact SeqAt.EqAt.none_bool b
  | int b=>obtain⟨t,rfl⟩:=rx;exact SeqAt.EqAt.none_int b t
  | str b=>obtain⟨t,rfl⟩:=rx;exact SeqAt.EqAt.none_str b t
  | _=>exact absurd (show false=true from fx) Bool.false_ne_true
 | bl a=>
  cases ry;cases x with
  | non=>cases rx;exact SeqAt.EqAt.bool_none a
  | bl b=>cases rx;exact SeqAt.EqAt.bool_bool a b
  | int b=>obtain⟨t,rfl⟩:=rx;exact SeqAt.EqAt.bool_int a b t
  | str b=>obtain⟨t,rfl⟩:=rx;exact SeqAt.EqAt.bool_str a b t
  | _=>exact absurd (show false=true from fx) Bool.false_ne_true
 | int a=>
  obtain⟨t',rfl⟩:=ry;cases x with
  | non=>cases rx;exact SeqAt.EqAt.int_none a t'
  | bl b=>cases rx;exact SeqAt.EqAt.int_bool a t' b
  | int b=>obtain⟨t,rfl⟩:=rx;exact SeqAt.EqAt.int_int a t' b t
  | str b=>obtain⟨t,rfl⟩:=rx;exact SeqAt.EqAt.int_str a t' b t
  | _=>exact absurd (show false=true from fx) Bool.false_ne_true
 | str a=>
  obtain⟨t',rfl⟩:=ry;cases x with
  | non=>cases rx;exact SeqAt.EqAt.str_none a t'
  | bl b=>cases rx;exact SeqAt.EqAt.str_bool a t' b
  | int b=>obtain⟨t,rfl⟩:=rx;exact SeqAt.EqAt.str_int a t' b t
  | str b=>obtain⟨t,rfl⟩:=rx;exact SeqAt.EqAt.str_str a t' b t
  | _=>exact absurd (show false=true from fx) Bool.false_ne_true
 | _=>exact absurd (show false=true from fy) Bool.false_ne_true
def CP (x:V)(u:Value):Bool:=match u with
 | .none=>zg .non x
 | .bool b=>zg (.bl b) x
 | .int i _=>zg (.int i) x
 | .str z _=>zg (.str z) x
 | _=>false
def wH {x y:V}{u:Value}(r:RelV y u)(f:iF y=true):CP x u=zg y x:=by
 cases y with
 | non=>cases r;rfl
 | bl b=>cases r;rfl
 | int i=>obtain⟨t,rfl⟩:=r;rfl
 | str z=>obtain⟨t,rfl⟩:=r;rfl
 | _=>exact absurd (show false=true from f) Bool.false_ne_true
theorem wX {x:V}:∀{xs:List V} {us:List Value},ba xs us->xs.all iF=true->us.any (CP x)=xs.any λy=>zg y x
 | _,_,.nil,_=>rfl
 | y::xs,u::us,.cons r t,f=>by
  rw[all_cons,Bool.and_eq_true] at f;rw[any_cons,any_cons,wH r f.1,wX t f.2]
theorem lX {A:Around}{s:Shared}{x:V}{v:Value}(rx:RelV x v)(fx:iF x=true):∀{xs:List V} {us:List Value},ba xs us->xs.all iF=true->∀u∈us,SeqAt.EqAt A s u v (CP x u)
 | _,_,.nil,_=>λu hu=>by cases hu
 | y::xs,u::us,.cons r t,f=>λu' hu=>by
  rw[all_cons,Bool.and_eq_true] at f;rcases mem_cons.mp hu with rfl|hu
  ·rw[wH r f.1];exact LR r rx f.1 fx
  ·exact lX rx fx t f.2 u' hu
def QX (x:V)(xs:List V):Bool:=xs.any λy=>zg y x
def S1 (K:W.Frag)(neg:Bool):R2:=λx y H Q=>∃p xs,y=.ref p/\(nj K H p xs\/rF K H p xs)/\iF x=true/\xs.all iF=true/\Q (.bl (if neg then !QX x xs else QX x xs)) H
def C3:iV X (compareOp .In) (S1 X.K false):=by
 intro ag s σ H x y v u Q I rx ry h;obtain⟨p,xs,rfl,hq,fx,fs,q⟩:=h;cases ry;rcases hq with hq|hq
 ·obtain⟨its,r,pl,hz⟩:=I.list hq;refine SeqAt.in_listAt (CP x) pl.isList (λw hw=>lX rx fx r fs w (by simpa using hw)) ⟨.bl _,H,I,rfl,?_⟩;rw[show its.toArray.any (CP x)=its.any (CP x) by simp,wX r fs];exact q
 ·obtain⟨its,r,pl,hz⟩:=I.tuple hq;refine SeqAt.in_tupleAt (CP x) pl (λw hw=>lX rx fx r fs w (by simpa using hw)) ⟨.bl _,H,I,rfl,?_⟩;rw[show its.toArray.any (CP x)=its.any (CP x) by simp,wX r fs];exact q
def wM:d9 X (.builtin "len") (λxs H Q=>∃p ys,xs=[.ref p]/\(nj X.K H p ys\/rF X.K H p ys)/\Q (.int ys.length) H):=by
 intro ag s σ H xs us Q I r h;obtain⟨p,ys,rfl,hq,q⟩:=h;obtain⟨u,rfl,rx⟩:=nC r;cases rx;have hn:=nM;rcases hq with hq|hq
 ·obtain⟨its,r',pl,hz⟩:=I.list hq;have hlen:=r'.length;exact Calls.call_len_list pl.isList (by simp only[size_toArray] <;> omega) ⟨.int ys.length,H,I.tok _,⟨s.toks+1,by rw[size_toArray,hlen]⟩,q⟩
 ·obtain⟨its,r',pl,hz⟩:=I.tuple hq;have hlen:=r'.length;exact len_tuple pl (by simp only[size_toArray] <;> omega) ⟨.int ys.length,H,I.tok _,⟨s.toks+1,by rw[size_toArray,hlen]⟩,q⟩
def wQ:d9 X (.builtin "len") (λxs H Q=>∃z,xs=[.str z]/\z.length<=sizeLine/\Q (.int z.length) H):=by
 intro ag s σ H xs us Q I r h;obtain⟨z,rfl,hz,q⟩:=h;obtain⟨u,rfl,t,rfl⟩:=nC r;have hn:=nM;exact len_str (by omega) ⟨.int z.length,H,I.tok _,⟨_,rfl⟩,q⟩
def xG:d9 X (.type "list") (λxs H Q=>∃p ys,xs=[.ref p]/\(nj X.K H p ys\/rF X.K H p ys)/\∀l,H l=Y->Q (.ref l) (cx H l (.lst ys))):=by
 intro ag s σ H xs us Q I r h;obtain⟨p,ys,rfl,hq,q⟩:=h;obtain⟨u,rfl,rx⟩:=nC r;cases rx;have fin:∀(its:List Value),ba ys its->ys.length<=sizeLine->∀(h':Heap) (c':Nat),(∀b o',s.heap.get? b=Z o'->h'.get? b=Z o')->
   h'.get? s.heap.objs.size=Z {cls:=.type "list",dict:=Y,data:=.seq its.toArray c',slots:=#[]}->EP X ag σ Q (.ref s.heap.objs.size) {s with heap:=h'}:=λits r' hz h' c' kp e=>
  ⟨.ref s.heap.objs.size,_,I.laid (t':=s.toks) kp (Nat.le_refl _) (show cX X.prog X.w _ h' _ (.lst ys) from⟨hz,its,c',r',e⟩),rfl,q _ (I.hok.fresh (Nat.le_refl _))⟩
 rcases hq with hq|hq
 ·obtain⟨its,r',pl,hz⟩:=I.list hq;have hlen:=r'.length;obtain⟨o,ho,hc,n,hd⟩:=pl.isList;exact call_list_seq p (.inl rfl) ho hc hd (λh' c' kp e=>fin its r' hz h' c' kp e) (by simp only[size_toArray] <;> omega)
 ·obtain⟨its,r',pl,hz⟩:=I.tuple hq;have hlen:=r'.length;obtain⟨o,ho,hc,n,hd⟩:=pl;exact call_list_seq p (.inr rfl) ho hc hd (λh' c' kp e=>fin its r' hz h' c' kp e) (by simp only[size_toArray] <;> omega)
def ie:d9 X (.type "tuple") (λxs H Q=>∃p ys,xs=[.ref p]/\((nj X.K H p ys/\∀l,H l=Y->Q (.ref l) (cx H l (.tup ys)))\/(rF X.K H p ys/\Q (.ref p) H))):=by
 intro ag s σ H xs us Q I r h;obtain⟨p,ys,rfl,h⟩:=h;obtain⟨u,rfl,rx⟩:=nC r;cases rx;rcases h with⟨hq,q⟩|⟨hq,q⟩
 ·obtain⟨its,r',pl,hz⟩:=I.list hq;have hlen:=r'.length;refine call_tuple_list pl.isList (λh' kp=>?_) (by simp only[size_toArray] <;> omega);have I1:Inv X ag σ H {s with heap:=h'}:=I.kept (t':=s.toks) kp;have I2:Inv X ag σ (cx H h'.objs.size (.tup ys)) {s with heap:=h'.push {cls:=.type "tuple",data:=.seq its.toArray}}:=
   I1.laid (t':=s.toks) (λb o e=>Heap.get?_push_of_some _ e) (Nat.le_refl _) (show cX X.prog X.w _ _ _ (.tup ys) from⟨hz,its,r',IsTup.new _ _⟩)
  exact⟨.ref h'.objs.size,_,I2,rfl,q _ (I1.hok.fresh (Nat.le_refl _))⟩
 ·obtain⟨its,r',pl,hz⟩:=I.tuple hq;exact call_tuple_same pl ⟨.ref p,H,I,rfl,q⟩
def SQ (K:W.Frag)(T:String)(x:V)(H:Hp):Prop:=match x with
 | .str _=>T="str"
 | .int _=>T="int"
 | .ref p=>(T="list"/\∃xs,nj K H p xs)\/(T="tuple"/\∃o,K.lookup p=Z o/\o.cls=.type "tuple"/\o.dict=Y)\/
   (T="dict"/\((∃kvs,H p=Z (.dK kvs))\/∃kvs,H p=Z (.dT kvs)))\/(T="set"/\∃S n,H p=Z (.set S n))
 | _=>False
def Lu {T:String}{x:V}{v:Value}(I:Inv X ag σ H s)(r:RelV x v)(ty:SQ X.K T x H) :
  s.TypeIs v T/\∀a,v=.ref a->∃ob,s.heap.get? a=Z ob/\ob.dict=Y:=by
 cases x with
 | str z=>
  obtain⟨t,rfl⟩:=r;cases (show T="str" from ty);exact⟨typeIs_str s z t,λ_ e=>nomatch e⟩
 | int i=>
  obtain⟨t,rfl⟩:=r;cases (show T="int" from ty);exact⟨typeIs_int s i t,λ_ e=>nomatch e⟩
 | ref p=>
  cases r;rcases ty with⟨rfl,xs,hq⟩|⟨rfl,o,hk,hc,hd⟩|⟨rfl,hk⟩|⟨rfl,S,n,hk⟩
  ·obtain⟨its,_,pl,_⟩:=I.list hq;refine⟨pl.isList.typeIs,λa e=>?_⟩;cases e;obtain⟨o,n,e,c,hd,_⟩:=pl;exact⟨o,e,hd⟩
  ·refine⟨⟨o,I.kIn p o hk,hc⟩,λa e=>?_⟩;cases e;exact⟨o,I.kIn _ o hk,hd⟩
  ·have z:∃o,s.heap.get? p=Z o/\o.ExactDict:=by
    rcases hk with⟨kvs,hk⟩|⟨kvs,hk⟩
    ·obtain⟨_,_,_,_,o,_,_,e,ex,_⟩:=I.hok p _ hk;exact⟨o,e,ex⟩
    ·obtain⟨_,_,_,_,o,_,_,e,ex,_⟩:=I.hok p _ hk;exact⟨o,e,ex⟩
   obtain⟨o,e,ex⟩:=z;refine⟨⟨o,e,ex.1⟩,λa e2=>?_⟩;cases e2;exact⟨o,e,ex.2.1⟩
  ·obtain⟨o,_,_,_,e,ex,_⟩:=I.hok p _ hk;refine⟨⟨o,e,ex.1⟩,λa e2=>?_⟩;cases e2;exact⟨o,e,ex.2.1⟩
 | _=>exact False.elim ty
def RB (K:W.Frag)(T:String)(r:V->List V->Hp->VK->Prop)(to:TE)(t:TA):TE:=λσ H Q=>to σ H λx H1=>SQ K T x H1/\t σ H1 λxs H2=>r x xs H2 Q
variable {o e:Expr}{es:List Expr}{to:TE}{t:TA}{name:Str}{apos cpos:Pos}{T id:String}{r:V->List V->Hp->VK->Prop}
def Bz (pa:PlainAttrs T)(slot:Slot T name id)(hty:typeOf (.builtin id)=pure (.type "method_descriptor"))(hm:Sz X id r)(ho:PE X o to)(ha:PA X (e::es) t)
  (hbase:attributeBase o name X.env (eval o X.env)=eval o X.env:=by rfl)
  (hfew:((backTo cpos (starEach (e::es) X.env)).all (λx=>!x.1)&&(backToKw cpos (keywordEach [] X.env)).all (λx=>x.1.isSome)
   && decide ((e::es).length+([]:List Keyword).length+(if([]:List Keyword).isEmpty then 0 else 1)<30))=true:=by rfl)
  (hline:(apos.endLine==cpos.line)=true:=by rfl) (hs:starEach (e::es) X.env=(false,eval e X.env)::starEach es X.env:=by rfl) (hplain:(backTo cpos (starEach es X.env)).any (·.1)=false:=by rfl) :
  PE X (.Call (.Attribute o name apos) (e::es) [] cpos) (RB X.K T r to t):=by
 intro ag s σ H Q I h;refine wpAny_Call_method_late hbase hfew hline rfl (cK (ho ag s σ H _ I h) λv s1 hxx=>?_);obtain⟨x,H1,I1,r1,ty,q1⟩:=hxx;obtain⟨h1,h2⟩:=Lu I1 r1 ty;refine⟨T,id,pa,slot,hty,h1,h2,?_⟩;have hA:=ha cpos ag s1 σ H1 _ I1 q1;rw[hs] at hA ⊢;refine Calls.callWith_builtin (by show(false||(backTo cpos (starEach es X.env)).any (·.1))=false;rw[hplain] <;> rfl) (Calls.evalArgs_plain ?_);exact cK hA λus s2 ⟨vs,H2,I2,r2,q2⟩=>hm ag s2 σ H2 x vs v us Q I2 r1 r2 q2
end
def SR (X:Cx)(id:String)(r:V->List V->Hp->VK->Prop):Prop:=
 ∀(ag:List (Addr×Obj)) (s:Shared) (σ:St) (H:Hp) (x:V) (xs:List V) (v:Value) (us:List Value) (Q:VK),Inv X ag σ H s->RelV x v->ba xs us->r x xs H Q->
  wpAny (model X.prog X.w) X.A (call (.builtin id) (v::us)) (EP X ag σ Q) X.xe s
theorem ba.one:∀{x:V} {us:List Value},ba [x] us->∃u,us=[u]/\RelV x u
 | _,_,.cons r .nil=>⟨_,rfl,r⟩
theorem ba.two:∀{x y:V} {us:List Value},ba [x,y] us->∃u v,us=[u,v]/\RelV x u/\RelV y v
 | _,_,_,.cons r (.cons q .nil)=>⟨_,_,rfl,r,q⟩
def ba.reverse (h:ba xs us):ba xs.reverse us.reverse:=by
 induction h with
 | nil=>exact .nil
 | cons r t ih=>rw[reverse_cons,reverse_cons];exact ba.append ih (.cons r .nil)
section
variable {X:Cx}{ag:List (Addr×Obj)}{σ:St}{H:Hp}{s:Shared}{l b:Addr}{xs ys zs:List V}
def Inv.lset {its its':List Value}{n:Nat}{f:Array Value->Array Value}{t':Nat}(I:Inv X ag σ H s)(hH:H l=Z (.lst xs))
  (e:s.heap.get? l=Z {cls:=.type "list",data:=.seq its.toArray n}) (hf:f its.toArray=its'.toArray) (hv:ba ys its') (hz:ys.length<=sizeLine) :
  Inv X ag σ (cx H l (.lst ys)) {s with heap:=s.heap.update l (Obj.mapSeq f),toks:=t'}:=by
 have q:=PySem.IsL.update e f;rw[hf] at q;refine I.write (x:=l) (e:=l) (by rw[hH];exact trivial) (.inl rfl) (λb' u hb hu=>(Heap.get?_update_other s.heap (Obj.mapSeq f) (Ne.symm hb)).trans hu) ⟨_,q⟩ ?_;exact⟨hz,its',_,hv,q⟩
def Inv.lnew {its:List Value}{t':Nat}(I:Inv X ag σ H s)(hv:ba ys its)(hz:ys.length<=sizeLine) :
  Inv X ag σ (cx H s.heap.objs.size (.lst ys)) {s with heap:=s.heap.push {cls:=.type "list",data:=.seq its.toArray},toks:=t'}:=
 I.laid (λ_ _ q=>Heap.get?_push_of_some _ q) (Nat.le_refl _) ⟨hz,its,0,hv,Heap.get?_push_size _ rfl⟩
def Inv.fresh (I:Inv X ag σ H s):H s.heap.objs.size=Y:=I.hok.fresh (Nat.le_refl _)
def Inv.lstM (I:Inv X ag σ H s)(hH:H l=Z (.lst xs)):xs.length<=sizeLine/\∃(its:List Value) (n:Nat),ba xs its/\xs.length=its.length/\s.heap.get? l=Z {cls:=.type "list",data:=.seq its.toArray n}:=by
 obtain⟨z,its,n,r,e⟩:=I.hok l _ hH;exact⟨z,its,n,r,r.length,e⟩
def tQ {n:Nat}(h:n<=sizeLine):Builtin.List.listTooLong n=false:=by
 unfold Builtin.List.listTooLong;exact decide_eq_false (by omega)
end
section
variable {X:Cx}
def IA:V->List V->Hp->VK->Prop:=λx vs H Q=>∃l xs y,x=.ref l/\vs=[y]/\H l=Z (.lst xs)/\xs.length<sizeLine/\Q .non (cx H l (.lst (xs++[y])))
def Cw:SR X "list.append" IA:=by
 intro ag s σ H x vs v us Q I rx rv h;obtain⟨l,xs,y,rfl,rfl,hH,hz,q⟩:=h;cases rx;obtain⟨u,rfl,ru⟩:=rv.one;obtain⟨z,its,n,r,hl,e⟩:=I.lstM hH;refine call_meets F.slot_list_append ⟨_,e,rfl⟩ F.entry_list_append (F.args_list_append_2 _ _) (PySem.list_append l its.toArray n u (by rw[size_toArray];omega)) ⟨e,?_⟩;refine⟨.non,_,I.lset (its':=its++[u]) hH e (by simp) (r.append (.cons ru .nil)) ?_,rfl,q⟩;rw[length_append,length_singleton];omega
def Sa:R2:=λx y H Q=>∃l b xs zs,x=.ref l/\y=.ref b/\H l=Z (.lst xs)/\H b=Z (.lst zs)/\xs.length+zs.length<=sizeLine/\∀p,H p=Y->Q (.ref p) (cx H p (.lst (xs++zs)))
def EU:iV X (binaryOp .Add) Sa:=by
 intro ag s σ H x y v u Q I rx ry h;obtain⟨l,b,xs,zs,rfl,rfl,hH,hB,hz,q⟩:=h;cases rx;cases ry;obtain⟨z,its,n,r,hl,e⟩:=I.lstM hH;obtain⟨z2,its2,n2,r2,hl2,e2⟩:=I.lstM hB;refine PySem.P.add_list e e2 ?_ (by rw[size_toArray,size_toArray];omega);have ea:its.toArray++its2.toArray=(its++its2).toArray:=by simp
 rw[ea];exact⟨.ref _,_,I.lnew (t':=s.toks) (r.append r2) (by rw[length_append];omega),rfl,q _ I.fresh⟩
end
section
variable {prog:Program}{w:World}{A:Around}{E:Value->Shared->Prop}{s:Shared}
def Dm (its its2:List Value)(a c:Nat):its.toArray.extract 0 a++its2.toArray++its.toArray.extract c its.toArray.size=(its.take a++its2++its.drop c).toArray:=by
 apply Array.toList_inj.mp
 first
  | (simp
     exact take_of_length_le (by simp))
  | simp[take_of_length_le]
  | simp
def zF {a c n:Nat}(hac:a<=c)(hc:c<=n):sliceBounds (Z (a:Int)) (Z (c:Int)) Y n=((a:Int),(c:Int),1):=by
 simp only[sliceBounds,Option.getD_none];have h1:¬((a:Int)<0):=by omega
 have h2:¬((c:Int)<0):=by omega
 simp only[h1,h2,if_false,show(1:Int)>0 by decide,if_true];congr 1
 ·omega
 ·congr 1;omega
set_option maxRecDepth 100000 in
def u7 {l b sl:Addr}{items new:Array Value}{n n2:Nat}{vl vu:Value}{a c:Nat}{Q:Unit->Shared->Prop}
  (e:s.heap.get? l=Z {cls:=.type "list",data:=.seq items n}) (e2:s.heap.get? b=Z {cls:=.type "list",data:=.seq new n2}) (hne:l≠b)
  (hs:s.heap.IsSliceOf sl vl vu .none) (pl:IsPart vl (Z (a:Int))) (pu:IsPart vu (Z (c:Int))) (hac:a<=c) (hc:c<=items.size)
  (hsz:items.size+new.size<=sizeLine) (h:Q () {s with heap:=s.heap.update l (Obj.mapSeq λxs=>xs.extract 0 a++new++xs.extract c xs.size)}) :
  wpAny (model prog w) A (setItem (.ref l) (.ref sl) (.ref b)) Q E s:=by
 have hl:s.heap.IsList l items:=PySem.IsL.isList e;have hb:s.heap.IsList b new:=PySem.IsL.isList e2;obtain⟨os,hos,hcs,hds⟩:=id hs;have hTs:s.TypeIs (.ref sl) "slice":=⟨os,hos,hcs⟩;have hstep:¬((rawPart Y==rawInt 0)=true):=Bool.false_ne_true;have hsame:Builtin.List.listSameRef (.ref l) (.ref b)=false:=by
  unfold Builtin.List.listSameRef;exact beq_eq_false_iff_ne.mpr hne
 have hmax:(max (a:Int) (c:Int)).toNat=c:=by omega
 have hz':((λxs:Array Value=>xs.extract 0 a++new++xs.extract c xs.size) items).size<=sizeLine+1:=by
  simp only[Array.size_append,Array.size_extract];omega
 unfold setItem
 try with_reducible refine wpAny_holding ?_
 first|refine wpAny_bind (wpAny_pure ?_)|skip
 refine wpAny_bind (wpAny_sequenceKey hl.typeIs (by decide) ?_);refine wpAny_bind (wpAny_callSpecial?_slot (name:=Str.ofString "__setitem__") hl.typeIs slot_list_setitem
  (wpAny_call_entry slot_list_setitem hl.typeIs entry_list_setitem ?_ (args_list_setitem _ _ _)))
 show wpAny _ _ (Builtin.List.listSubscript? (.ref sl) >>= _) _ _ s;refine wpAny_bind ?_;unfold Builtin.List.listSubscript?;refine wpAny_bind (wpAny_specialOf hTs slice_no_index ?_);simp only[Option.isNone_none,if_true];refine wpAny_pure ?_;show wpAny _ _ (typeOf (.ref sl) >>= _) _ _ s;refine wpAny_bind (wpAny_typeOf hTs ?_)
 first
  | rw[if_neg (by decide)]
  | refine W.KFB.if_not (by decide) ?_
 rw[listSliceParts_eq];refine wpAny_bind (wpAny_bind (wpAny_field hos hds (x:=.none) rfl (wpAny_bind (wpAny_listPart .none ?_))));rw[if_neg hstep];refine wpAny_bind (wpAny_field hos hds (x:=vl) rfl (wpAny_bind (wpAny_listPart pl ?_)));refine wpAny_bind (wpAny_field hos hds (x:=vu) rfl (wpAny_bind (wpAny_listPart pu (wpAny_pure ?_))))
 first
  | simp only[hsame,Bool.false_eq_true,if_false]
  | refine W.KFB.if_not hsame ?_
  | (dsimp only
     rw[if_neg (by rw[hsame];exact Bool.false_ne_true)])
 refine wpAny_bind (m:=Builtin.List.listAllItems (.ref b) "must assign iterable to extended slice") ?_;unfold Builtin.List.listAllItems;refine wpAny_bind (wpAny_typeOf hb.typeIs ?_)
 first
  | refine W.KFB.if_so (by decide) ?_
  | rw[if_pos (by decide)]
  | simp only[beq_self_eq_true,Bool.true_or,if_true]
 unfold Builtin.List.listItems;refine wpAny_bind (wpAny_seqItems e2 rfl (wpAny_pure ?_));refine wpAny_bind (wpAny_bind (wpAny_seqItems e rfl (wpAny_pure ?_)));refine wpAny_bind (wpAny_of_eq ((sliceIndices_raw (Z (a:Int)) (Z (c:Int)) Y items.size (by simp)).trans (congrArg (pure:Int×Int×Int->Sem (Int×Int×Int)) (zF hac hc))) ?_);show wpAny _ _ (if((1:Int)==1)=true then _ else _) _ _ s;rw[if_pos (by decide)];refine wpAny_bind (wpAny_rule ?_)
 first
  | simp only[tQ hsz,Bool.false_eq_true,if_false]
  | refine W.KFB.if_not (tQ hsz) ?_
 first|refine wpAny_bind (wpAny_pure ?_)|skip
 show wpAny _ _ (updateSeq l (λxs=>xs.extract 0 ((a:Int)).toNat++new++xs.extract (max (a:Int) (c:Int)).toNat xs.size) >>= _) _ _ s;rw[hmax,Int.toNat_natCast];refine wpAny_bind (wpAny_updateSeq (hz:=Nat.le_trans (Nat.le_add_right _ _) hsz) (_hz':=hz') e rfl ?_);refine wpAny_bind (wpAny_letGo ?_)
 first
  | exact wpAny_bind (wpAny_pure (wpAny_pure ⟨.none,rfl,wpAny_pure h⟩))
  | exact wpAny_pure ⟨.none,rfl,wpAny_pure h⟩
end
section
variable {X:Cx}
def Ce {l b sl:Addr}{ys:List V}{a c:Int}{vl vu:Value}{Q:Unit->Shared->Prop}(I:Inv X ag σ H s)
  (hH:H l=Z (.lst xs)) (hB:H b=Z (.lst ys)) (hne:l≠b) (hs:s.heap.IsSliceOf sl vl vu .none) (ra:RelV (.int a) vl) (rc:RelV (.int c) vu) (h0:0<=a) (hac:a<=c) (hc:c<=xs.length)
  (hz:xs.length+ys.length<=sizeLine) (h:∀s',Inv X ag σ (cx H l (.lst (xs.take a.toNat++ys++xs.drop c.toNat))) s'->Q () s') :
  wpAny (model X.prog X.w) X.A (setItem (.ref l) (.ref sl) (.ref b)) Q X.xe s:=by
 obtain⟨ta,rfl⟩:=ra;obtain⟨tc,rfl⟩:=rc;obtain⟨z,its,n,r,hl,e⟩:=I.lstM hH;obtain⟨z2,its2,n2,r2,hl2,e2⟩:=I.lstM hB;obtain⟨a',rfl⟩:=Int.eq_ofNat_of_zero_le h0;obtain⟨c',rfl⟩:=Int.eq_ofNat_of_zero_le (Int.le_trans h0 hac);simp only[Int.toNat_natCast] at h;refine u7 (a:=a') (c:=c') e e2 hne hs (.int _ _) (.int _ _) (by omega) (by rw[size_toArray];omega) (by rw[size_toArray,size_toArray];omega) (h _ ?_);refine I.lset (its':=its.take a'++its2++its.drop c') (t':=s.toks) hH e ?_ (ba.append (ba.append (r.take _) r2) (r.drop _)) ?_
 ·exact Dm its its2 a' c'
 ·rw[length_append,length_append,length_take,length_drop];omega
end
end L2
namespace Att
open PySem PySem.W PySem.Calls PyProof.Rows
variable{P:Params}
def rp {h:Heap}:∀(ns:List Int) (vs:List Value),WellAll P h vs (ns.map WData.int)->IntsAre vs ns:=by
 intro ns
 induction ns with
 | nil=>
  intro vs w;rw[List.map_nil] at w;cases w;exact .nil
 | cons n ns ih=>
  intro vs w;rw[List.map_cons] at w;cases w with
  | cons a b=>
   cases a;exact .cons _ _ (ih _ b)
variable{l:OpenLaw}
def Df {n:Nat}(hn:l.most=Z n){h:Heap}{args:List WData}{vals:List Value}
  (hpre:l.row.toRowW.claim.pre args=true) (hwl:WellAll P h vals args) :
  ∃a vs ns,vals=[Value.ref a]/\args=[WData.list (ns.map WData.int)]/\h.get? a=Z {cls:=.type "list",data:=.seq vs.toArray}/\IntsAre vs ns/\ns.length<=n:=by
 have hsh:WShape.hasAll [] args [.list .int]=true:=(pre_splitW hpre).1;have hc:l.pre.holds [] {args:=args}=true:=(pre_splitW hpre).2;obtain⟨d,r,rfl,h1,h2⟩:=hasAllW_cons hsh;obtain rfl:=hasAllW_nil h2;obtain⟨xs,rfl,h3⟩:=hasW_list h1;obtain⟨ns,rfl⟩:=items_int h3;have hlen:ns.length<=n:=by
  unfold OpenLaw.pre at hc;have h4:(WTm.not (.lt (.lit (.int (n:Int))) (.len (.arg 0)))).holds [] {args:=[.list (ns.map .int)]}=true:=by
   have h4:=(holds_andW hc).1;rw[hn] at h4;exact h4
  have h5:=condW_of h4 (w_not (w_lt w_lit (w_len_list (w_arg rfl))));rw[List.length_map] at h5;refine Nat.le_of_not_lt λq=>?_
  have q':(n:Int)<((ns.length:Nat):Int):=by omega
  first
   | (rw[decide_eq_true q'] at h5;exact absurd h5 (by decide))
   | (simp at h5;omega)
 cases hwl with
 | cons w1 w2=>
  cases w2;cases w1 with
  | list ho hall=>exact⟨_,_,ns,rfl,rfl,ho,rp ns _ hall,hlen⟩
def Cy (l:OpenLaw)(args:List WData):l.row.toRowW.claim.post args (.bool true) args=true:=
 postW_of (r:=l.row.toRowW) (X:=(true==true))
  (show WShape.has [] (.bool true) .bool=true by first|rfl|decide|simp[WShape.has,WShape.arms,WShape.armsAll])
  (show(WTm.eq .res (.lit (.bool true))).value [] {args:=args,res:=Z (.bool true),after:=args}=Z (.bool (true==true)) from w_eq_bool (w_res rfl) w_lit) rfl
def attach_call {n:Nat}{q:Program}{loose:List Str}{XP:(Str->Option Value)->Heap->Prop}{YP:World->Heap->Prop}{d:DefRec}
  (hn:l.most=Z n) (hdf:d.params.defaults=[])
  (call:∀(w:World) (s₀ s₁:Shared) (mg mb:Str->Option Value) (fa:Addr) (o:Obj) (pm cd doc:Value) (a:Addr) (vs:List Value) (ns:List Int),
   Ground q loose [] XP w s₀ mg mb s₁.heap->YP w s₁.heap->
   s₁.heap.get? fa=Z o->o.data=.func (docDef d.name d.params d.body d.scope pm cd doc)->s₁.heap.CodeRec cd d.name->mg d.name=Z (.ref fa)->
   s₁.heap.get? a=Z {cls:=.type "list",data:=.seq vs.toArray}->IntsAre vs ns->ns.length<=n->s₁.gens=#[]->
   codeAny (model l.prog w) callerA (.call (.ref fa) ⟨[.ref a],[]⟩) (λr s'=>r=.ok (.ret (.bool true))/\OldK s₁.heap s'.heap/\s'.os=s₁.os/\AllBare s'.gens) s₁) :
  WalkO q loose XP YP l.row.toRowW d [] (λf vs=>PySem.call f vs):=by
 intro w s₀ s₁ mg mb G Y fa o pm cd doc dV kV ho hd hcd hD hmg hg args vals as hpre hlay hrd hwl hlo;obtain rfl:dV=.none:=Dflts.none hD hdf;obtain rfl:kV=.none:=Dflts.noKw hD;obtain⟨a,vs,ns,rfl,rfl,hobj,hints,hlen⟩:=Df hn hpre hwl;refine enter_call (codeAny_mono (call w s₀ s₁ mg mb fa o pm cd doc a vs ns G Y ho (fd_plain hd) hcd hmg hobj hints hlen hg) λr s' hq=>?_);obtain⟨rfl,h2,h3,h4⟩:=hq;exact⟨.inl ⟨.bool true,.bool true,[],rfl,λ_=>rfl,.bool true,Cy l _,λ_=>⟨List.Pairwise.nil,λ_ hm=>(nomatch hm)⟩⟩,h2,h3,h4⟩
end Att
namespace L2
open PySem PySem.Spec PyProof.Rows List
theorem vm:∀{vs:List Value} {ns:List Int},IntsAre vs ns->ba (ns.map V.int) vs
 | _,_,.nil=>.nil
 | _,_,.cons n t h=>.cons ⟨t,rfl⟩ (vm h)
def gu (s:Stmt)(j:Nat):Stmt:=match s with
 | .ClassDef _ _ _ body _ _ _ _ _ _ _=>body.getD j (.Pass ⟨0,0,0,0⟩)
 | _=>.Pass ⟨0,0,0,0⟩
def gJ (s:Stmt):Arguments:=match s with
 | .FunctionDef _ a _ _ _ _ _ _ _ _=>a
 | _=>{posonlyargs:=[],args:=[],vararg:=Y,kwonlyargs:=[],kw_defaults:=[],kwarg:=Y,defaults:=[]}
def cW (s:Stmt):List Stmt:=match s with
 | .FunctionDef _ _ b _ _ _ _ _ _ _=>b
 | _=>[]
def aR (s:Stmt):Scope:=match s with
 | .FunctionDef _ _ _ _ _ _ sc _ _ _=>sc
 | _=>{kind:=.function,names:=[],isGenerator:=false,isCoroutine:=false}
abbrev E0:XK:=λ_ _ _=>False
structure HJ (K:W.Frag)(x qual:Str)(st:Stmt)(f:Addr)(fd:FuncData):Prop where
 ex:∃(oc:Value) (od:Option Addr) (kV doc pm:Value) (an:Option Addr) (cdv ct:Value) (osl:Array (Option Value)),
  fd=W.fnOf x qual (gJ st) (cW st) (aR st) .none kV doc pm an cdv ct/\K.lookup f=Z ⟨oc,od,.func fd,osl⟩/\W.codeIn K cdv qual=true
 kp:W.keepIn K (.ref f)=true
section
variable {P:Program}{w:World}{K:W.Frag}{mg:Str->Option Value}{base:Heap}
def HJ.binds {x qual:Str}{st:Stmt}{f:Addr}{fd:FuncData}{ps:List Str}(F:HJ K x qual st f fd)
  (h:∀(kV doc pm:Value) (an:Option Addr) (cdv ct:Value) (us:List Value),us.length=ps.length->bindArgs (W.fnOf x qual (gJ st) (cW st) (aR st) .none kV doc pm an cdv ct) ⟨us,[]⟩=pure (ps.zip us)):fz K fd ps []:=by
 obtain⟨oc,od,kV,doc,pm,an,cdv,ct,osl,rfl,lk,hcd⟩:=F.ex;exact .all (h kV doc pm an cdv ct)
def qu {x qual:Str}{st:Stmt}{f:Addr}{oc:Value}{od an:Option Addr}{osl:Array (Option Value)}{kV doc pm cdv ct:Value}(l:K.lookup f=Z ⟨oc,od,.func (W.fnOf x qual (gJ st) (cW st) (aR st) .none kV doc pm an cdv ct),osl⟩)
  (c:W.codeIn K cdv qual=true) (k:W.keepIn K (.ref f)=true):HJ K x qual st f (W.fnOf x qual (gJ st) (cW st) (aR st) .none kV doc pm an cdv ct):=⟨⟨oc,od,kV,doc,pm,an,cdv,ct,osl,rfl,l,c⟩,k⟩
end
def Pn {A:Around}{k:Nat}(hr:bM k A):A.units+1<cLine:=Nat.lt_of_le_of_lt (Nat.add_le_add_left (by decide:1<=64) _) hr.units
variable{y:V}{u:Value}
section
variable {κ:Type}[DecidableEq κ]
def nS (kvs:List (κ×V))(k:κ):Option V:=(kvs.find? λkv=>decide (kv.1=k)).map (·.2)
def rA (kvs:List (κ×V))(k:κ)(v:V):List (κ×V):=
 if(kvs.any λkv=>decide (kv.1=k))=true then kvs.map (λkv=>if kv.1=k then(kv.1,v) else kv) else kvs++[(k,v)]
def o5 {p:κ×V}{r:List (κ×V)}{k:κ}(e:p.1=k):nS (p::r) k=Z p.2:=by simp[nS,find?_cons,e]
def oT {p:κ×V}{r:List (κ×V)}{k:κ}(e:¬p.1=k):nS (p::r) k=nS r k:=by simp[nS,find?_cons,e]
theorem sI (k:κ):∀kvs:List (κ×V),(kvs.any λkv=>decide (kv.1=k))=(nS kvs k).isSome
 | []=>rfl
 | p::r=>by
  rw[any_cons]
  by_cases e:p.1=k
  ·simp only[o5 e,decide_eq_true e,Bool.true_or,Option.isSome_some]
  ·rw[oT e,decide_eq_false e,Bool.false_or];exact sI k r
def qW (kvs:List (κ×V))(k:κ)(v:V):(rA kvs k v).length<=kvs.length+1:=by
 unfold rA;split
 ·rw[length_map];omega
 ·rw[length_append,length_cons,length_nil];omega
def yh {kvs:List (κ×V)}{k:κ}(v:V)(h:nS kvs k=Y):rA kvs k v=kvs++[(k,v)]:=by
 unfold rA;rw[sI,h];exact if_neg (by decide)
def lS.isSome_eq {o:Option V}{u:Option Value}(r:lS o u):o.isSome=u.isSome:=by
 cases o with
 | none=>cases u with
  | none=>rfl
  | some _=>exact(show False from r).elim
 | some _=>cases u with
  | none=>exact(show False from r).elim
  | some _=>rfl
def KV.val {kvs:List (κ×V)}{vs:List (κ×Value)}(r:KV kvs vs)(k:κ):lS (nS kvs k) (valueAt vs k):=by
 unfold KV at r
 induction r with
 | nil=>exact True.intro
 | @cons p q ps qs h t ih=>
  obtain⟨h1,h2⟩:=h
  by_cases e:p.1=k
  ·have e':q.1=k:=h1.symm.trans e;have b:valueAt (q::qs) k=Z q.2:=by simp[valueAt,find?_cons,e']
   rw[o5 e,b];exact h2
  ·have e':¬q.1=k:=λz=>e (h1.trans z)
   have b:valueAt (q::qs) k=valueAt qs k:=by simp[valueAt,find?_cons,e']
   rw[oT e,b];exact ih
def KV.any {kvs:List (κ×V)}{vs:List (κ×Value)}(r:KV kvs vs)(k:κ):(kvs.any λkv=>decide (kv.1=k))=vs.any λkv=>decide (kv.1=k):=by
 unfold KV at r
 induction r with
 | nil=>rfl
 | cons h t ih=>rw[any_cons,any_cons,ih,h.1]
def KV.repl {kvs:List (κ×V)}{vs:List (κ×Value)}(r:KV kvs vs)(k:κ)(ry:RelV y u) :
  KV (kvs.map λkv=>if kv.1=k then(kv.1,y) else kv) (vs.map λkv=>if kv.1=k then(kv.1,u) else kv):=by
 unfold KV at r ⊢
 induction r with
 | nil=>exact .nil
 | @cons p q ps qs h t ih=>
  rw[map_cons,map_cons];refine .cons ?_ ih;obtain⟨h1,h2⟩:=h
  by_cases e:p.1=k
  ·rw[if_pos e,if_pos (h1.symm.trans e)];exact⟨h1,ry⟩
  ·rw[if_neg e,if_neg (λz=>e (h1.trans z))];exact⟨h1,h2⟩
def KV.put {kvs:List (κ×V)}{vs:List (κ×Value)}(r:KV kvs vs)(k:κ)(ry:RelV y u):KV (rA kvs k y) (stored vs k u):=by
 unfold rA stored;rw[r.any k]
 by_cases e:(vs.any λkv=>decide (kv.1=k))=true
 ·rw[if_pos e,if_pos e];exact r.repl k ry
 ·rw[if_neg e,if_neg e];exact Paired.snoc r ⟨rfl,ry⟩
def KV.length {kvs:List (κ×V)}{vs:List (κ×Value)}(r:KV kvs vs):kvs.length=vs.length:=Paired.length r
end
variable{P:Program}{w:World}
def GN {k:eC}(r:RelV (kV k) u):(cT P w).is k u=true:=by
 cases k with
 | inl i=>obtain⟨t,e⟩:=(show∃t,u=Value.int i t from r);subst e;exact xL P w i t
 | inr x=>obtain⟨t,e⟩:=(show∃t,u=Value.str x t from r);subst e;exact yk P w x t
theorem vF {P:Program}{w:World}:∀{ks:List eC} {us:List Value},ba (ks.map kV) us->ItemsAre (cT P w) ks us
 | [],_,r=>by rw[map_nil] at r;cases r;exact .nil
 | k::ks,_,r=>by
  rw[map_cons] at r;cases r with
  | cons h t=>exact .cons (GN h) (vF t)
abbrev KT (H:Hp):List (List eC×V)->List (List eC×Addr×Value)->Prop:=Paired λp q=>p.1=q.1/\H q.2.1=Z (.tup (p.1.map kV))/\RelV p.2 q.2.2
variable{H:Hp}{kvs:List (List eC×V)}{xs:List (List eC×Addr×Value)}
def KT.val (r:KT H kvs xs)(k:List eC):lS (nS kvs k) ((atKey xs k).map (·.2)):=by
 induction r with
 | nil=>exact True.intro
 | @cons p q ps qs h t ih=>
  obtain⟨h1,_,h2⟩:=h
  by_cases e:p.1=k
  ·have e':q.1=k:=h1.symm.trans e;have b:atKey (q::qs) k=Z q.2:=by simp[atKey,find?_cons,e']
   rw[o5 e,b];exact h2
  ·have e':¬q.1=k:=λz=>e (h1.trans z)
   have b:atKey (q::qs) k=atKey qs k:=by simp[atKey,find?_cons,e']
   rw[oT e,b];exact ih
def KT.repl (r:KT H kvs xs)(k:List eC)(ry:RelV y u) :
  KT H (kvs.map λkv=>if kv.1=k then(kv.1,y) else kv) (xs.map (putAt k u)):=by
 induction r with
 | nil=>exact .nil
 | @cons p q ps qs h t ih=>
  rw[map_cons,map_cons];refine .cons ?_ ih;obtain⟨h1,h2,h3⟩:=h;unfold putAt
  by_cases e:p.1=k
  ·rw[if_pos e,if_pos (h1.symm.trans e)];exact⟨h1,h2,ry⟩
  ·rw[if_neg e,if_neg (λz=>e (h1.trans z))];exact⟨h1,h2,h3⟩
def KT.put (r:KT H kvs xs)(k:List eC){b:Addr}(hb:H b=Z (.tup (k.map kV)))(ry:RelV y u) :
  KT H (rA kvs k y) (storedH xs k b u):=by
 have e:(kvs.any λkv=>decide (kv.1=k))=(atKey xs k).isSome:=by
  rw[sI,(r.val k).isSome_eq,Option.isSome_map]
 unfold rA storedH;rw[e]
 by_cases q:(atKey xs k).isSome=true
 ·rw[if_pos q,if_pos q];exact r.repl k ry
 ·rw[if_neg q,if_neg q];exact Paired.snoc r ⟨rfl,hb,ry⟩
def KT.keeps {H':Hp}(r:KT H kvs xs)(ht:∀b ys,H b=Z (.tup ys)->H' b=Z (.tup ys)):KT H' kvs xs:=
 Paired.mapP r λ_ _ z=>⟨z.1,ht _ _ z.2.1,z.2.2⟩
section
variable {P:Program}{w:World}{H:Hp}{h:Heap}{a:Addr}
def Ki {u:HO}(ok:mz P w H h)(e:Rd H a u):cX P w H h a u:=e.ok ok
def GP {kvs:List (eC×V)}(ok:mz P w H h)(e:Rd H a (.dK kvs)):kvs.length<=sizeLine/\(a==sysModules)=false/\∃vs,KV kvs vs/\h.DictOf (cT P w) a vs:=
 show cX P w H h a (.dK kvs) from Ki ok e
def PX {kvs:List (eC×V)}(ok:mz P w H h)(e:H a=Z (.dK kvs)):kvs.length<=sizeLine/\(a==sysModules)=false/\∃vs,KV kvs vs/\h.DictOf (cT P w) a vs:=GP ok (.inl e)
def An {ks:List eC}(ok:mz P w H h)(e:H a=Z (.tup (ks.map kV))):(tupleKind (cT P w)).is h ks a:=by
 obtain⟨_,its,r,o,h1,h2,n,h3⟩:=(show cX P w H h a (.tup (ks.map kV)) from ok a _ e);exact⟨o,its.toArray,n,h1,h2,h3,by simpa using vF r⟩
def F7 (ok:mz P w H h)(e:Rd H a (.dT kvs)):kvs.length<=sizeLine/\(a==sysModules)=false/\
  ∃xs,KT H kvs xs/\h.DictOfH (tupleKind (cT P w)) a xs:=by
 obtain⟨z,y,xs,r,o,es,ep,h1,h2,h3,h4,h5⟩:=(show cX P w H h a (.dT kvs) from Ki ok e);refine⟨z,y,xs,r,o,es,ep,h1,h2,h3,h4,λx hx=>?_,h5⟩;have all:∀{l:List (List eC×V)} {m:List (List eC×Addr×Value)},KT H l m->∀x∈m,(tupleKind (cT P w)).is h x.1 x.2.1:=by
  intro l m q
  induction q with
  | nil=>intro x hx;exact nomatch hx
  | @cons p q ps qs hq t ih=>
   intro x hx;rcases mem_cons.mp hx with e|hx
   ·subst e;exact An ok (by rw[<-hq.1];exact hq.2.1)
   ·exact ih x hx
 exact all r x hx
def Ow (ok:mz P w H h)(e:H a=Z (.dT kvs)):kvs.length<=sizeLine/\(a==sysModules)=false/\
  ∃xs,KT H kvs xs/\h.DictOfH (tupleKind (cT P w)) a xs:=F7 ok (.inl e)
end
def Rz (H:Hp)(a:Addr)(y:V)(r:Option V):Prop:=
 (∃kvs k,Rd H a (.dK kvs)/\y=kV k/\r=nS kvs k)\/∃kvs k b,Rd H a (.dT kvs)/\y=.ref b/\H b=Z (.tup (k.map kV))/\r=nS kvs k
section
variable {X:Cx}{ag:List (Addr×Obj)}{σ:St}{H:Hp}{s:Shared}{a:Addr}{y v:V}{u r:Value}{o:Option V}{A:Around}{E:Value->Shared->Prop}
def Inv.big (I:Inv X ag σ H s):sysModules<s.heap.objs.size:=by
 have h:mainGlobals<s.heap.objs.size:=(I.mod.glob.keeps I.bk).lt;exact Nat.lt_trans (by decide) h
def AX {h':Heap}{t':Nat}{ob:HO}(I:Inv X ag σ H s)(mu:O7 (H a))(hs:Heap.SameBut a s.heap h')(he:∃q,h'.get? a=Z q)(new:cX X.prog X.w (cx H a ob) h' a ob) :
  Inv X ag σ (cx H a ob) {s with heap:=h',toks:=t'}:=
 I.write (x:=a) (e:=a) mu (.inl rfl) (λb q hb z=>(hs.2 b hb).trans z) he new
def KU {H':Hp}{h':Heap}{kvs:List (eC×V)}{vs:List (eC×Value)}(z:kvs.length<=sizeLine)(hd:(a==sysModules)=false)(rel:KV kvs vs)(dd:h'.DictOf (cT P w) a vs) :
  cX P w H' h' a (.dK kvs):=⟨z,hd,vs,rel,dd⟩
end
def Et (h:Heap)(hb:sysModules<h.objs.size):cX P w H (h.push {cls:=.type "dict",data:=.dict #[]}) h.objs.size (.dK []):=
 ⟨Nat.zero_le _,beq_eq_false_iff_ne.mpr (Ne.symm (Nat.ne_of_lt hb)),[],.nil,Heap.DictOf.new h⟩
def E5 (h:Heap)(hb:sysModules<h.objs.size):cX P w H (h.push {cls:=.type "dict",data:=.dict #[]}) h.objs.size (.dT []):=
 ⟨Nat.zero_le _,beq_eq_false_iff_ne.mpr (Ne.symm (Nat.ne_of_lt hb)),[],.nil,_,#[],0,Heap.get?_push_size _ rfl,⟨rfl,rfl,rfl⟩,rfl,rfl,nodup_nil⟩
def ML:TE:=λ_ H Q=>∀p,H p=Y->Q (.ref p) (cx H p (.dK []))
def LS:TE:=λ_ H Q=>∀p,H p=Y->Q (.ref p) (cx H p (.dT []))
section
variable {X:Cx}{pos:Pos}
def El:PE X (.Dict [] [] pos) ML:=λag s σ H Q I h=>
 wpAny_Dict_empty ⟨.ref s.heap.objs.size,_,I.laid (a:=s.heap.objs.size) (o:=.dK []) (t':=s.toks) (λ_ _ q=>Heap.get?_push_of_some _ q) (Nat.le_refl _) (Et s.heap I.big),rfl,h _ (I.hok.fresh (Nat.le_refl _))⟩
def Gg:PE X (.Dict [] [] pos) LS:=λag s σ H Q I h=>
 wpAny_Dict_empty ⟨.ref s.heap.objs.size,_,I.laid (a:=s.heap.objs.size) (o:=.dT []) (t':=s.toks) (λ_ _ q=>Heap.get?_push_of_some _ q) (Nat.le_refl _) (E5 s.heap I.big),rfl,h _ (I.hok.fresh (Nat.le_refl _))⟩
end
abbrev VV:List (V×V)->List (Value×Value)->Prop:=Paired λp q=>RelV p.1 q.1/\RelV p.2 q.2
structure M1 (X:Cx)(o:Expr)(m:Str)(apos:Pos)(e:Expr)(cpos:Pos):Prop where
 base:attributeBase o m X.env (eval o X.env)=eval o X.env
 few:((backTo cpos (starEach [e] X.env)).all (λx=>!x.1)&&(backToKw cpos (keywordEach [] X.env)).all (λx=>x.1.isSome)
  && decide (([e]:List Expr).length+([]:List Keyword).length+(if([]:List Keyword).isEmpty then 0 else 1)<30))=true
 line:(apos.endLine==cpos.line)=true
 trees:backTo cpos (starEach [e] X.env)=[(false,eval e X.env)]
structure M2 (X:Cx)(o:Expr)(m:Str)(apos:Pos)(e f:Expr)(cpos:Pos):Prop where
 base:attributeBase o m X.env (eval o X.env)=eval o X.env
 few:((backTo cpos (starEach [e,f] X.env)).all (λx=>!x.1)&&(backToKw cpos (keywordEach [] X.env)).all (λx=>x.1.isSome)
  && decide (([e,f]:List Expr).length+([]:List Keyword).length+(if([]:List Keyword).isEmpty then 0 else 1)<30))=true
 line:(apos.endLine==cpos.line)=true
 trees:backTo cpos (starEach [e,f] X.env)=[(false,eval e X.env),(false,eval f X.env)]
def Ru (H:Hp)(a:Addr):Prop:=(∃kvs,Rd H a (.dK kvs))\/∃kvs,Rd H a (.dT kvs)
def MC {X:Cx}{ag:List (Addr×Obj)}{σ:St}{s:Shared}{a:Addr}(I:Inv X ag σ H s)(d:Ru H a) :
  s.TypeIs (.ref a) "dict"/\(∀b,Value.ref a=.ref b->∃ob,s.heap.get? b=Z ob/\ob.dict=Y)/\(a==sysModules)=false:=by
 rcases d with⟨kvs,e⟩|⟨kvs,e⟩
 ·obtain⟨_,hd,vs,_,dd⟩:=GP I.hok e;refine⟨dd.typeIs,λb q=>?_,hd⟩;cases q;obtain⟨ob,_,_,h1,h2,_⟩:=dd;exact⟨ob,h1,h2.2.1⟩
 ·obtain⟨_,hd,xs,_,dd⟩:=F7 I.hok e;refine⟨dd.typeIs,λb q=>?_,hd⟩;cases q;obtain⟨ob,_,_,h1,h2,_⟩:=dd;exact⟨ob,h1,h2.2.1⟩
end L2
namespace Att
open PySem PySem.W PySem.Calls PyProof.Rows
end Att
namespace L2
open PySem PySem.Spec PyProof.Rows List
end L2
namespace DL
open PySem PySem.Spec PyProof.Rows L2 List
structure Lv (X:Cx)(ag:List (Addr×Obj))(H:Hp)(B:Heap):Prop where
 trk:∀b o,H b=Z o->∃o',B.get? b=Z o'
 pin:∀p∈X.pn++ag,∃o',B.get? p.1=Z o'
 old:∀b o,X.s₀.heap.get? b=Z o->b∉X.ex->b∉sG X.stack->∃o',B.get? b=Z o'
def RQ (X:Cx)(H:Hp)(a C:Addr)(s:Shared):Prop:=∃ag σ,
 (∃h vs,L2.Inv X ag σ H {s with heap:=h}/\Heap.MadeExcOf h s.heap a (.ref C) vs)\/
 (L2.Inv X ag σ H s/\H a=Y/\∃B a0,Heap.FlyingW B X.stack a (.ref C) a0 s.heap/\Lv X ag H B)\/
 (L2.Inv X ag σ H s/\H a=Y/\∃B a0 L,X.env.frame=Z L/\Heap.HeldW B X.stack a (.ref C) a0 L s.heap/\Lv X ag H B)
def dR (K:W.Frag)(c:Str)(C:Addr):Prop:=W.nsIn K mainGlobals c=Z (Z (.ref C))
variable{K:W.Frag}
def dR.inj {c:Str}{C C':Addr}(a:dR K c C)(b:dR K c C'):C=C':=by
 unfold dR at a b;rw[a] at b;cases b;rfl
variable{P:Program}{w:World}{H:Hp}{a:Addr}{o:HO}
def ut {h:Heap}(x:cX P w H h a o):∃u,h.get? a=Z u:=by
 cases o with
 | lst xs=>obtain⟨_,_,_,_,e⟩:=x;exact⟨_,e⟩
 | tup xs=>obtain⟨_,_,_,o,e,_⟩:=x;exact⟨_,e⟩
 | dK kvs=>obtain⟨_,_,_,_,o,_,_,e,_⟩:=x;exact⟨_,e⟩
 | dT kvs=>obtain⟨_,_,_,_,o,_,_,e,_⟩:=x;exact⟨_,e⟩
 | set S n=>obtain⟨o,_,_,_,e,_⟩:=x;exact⟨_,e⟩
 | ins C dx fs=>obtain⟨_,_,_,e,_⟩:=x;exact⟨_,e⟩
 | own y=>obtain⟨_,e⟩:=x;exact⟨_,e⟩
 | xd fs=>obtain⟨_,⟨_,_,_,e,_⟩,_⟩:=x;exact⟨_,e⟩
 | rng lo hi=>obtain⟨_,_,_,e⟩:=x;exact⟨_,e⟩
 | frz ob u=>obtain⟨e,_⟩:=x;exact⟨_,e⟩
 | tbl ps=>exact⟨_,show h.get? a=Z _ from x⟩
 | met f y=>exact⟨_,show h.get? a=Z _ from x⟩
 | ext φ=>obtain⟨_,⟨_,e⟩,_⟩:=x;exact⟨_,e⟩
section
variable {X:Cx}{ag:List (Addr×Obj)}{σ:List (Option V)}{H:Hp}{s:Shared}{B h':Heap}{a C:Addr}
def rH (I:L2.Inv X ag σ H s){b:Addr}{o:Obj}(e:X.s₀.heap.get? b=Z o)(n:b∉X.fs):b∉sG X.stack:=λz=>by
 rcases mem_cons.mp (I.stkSub b z) with q|q
 ·have h1:=Heap.lt_size e;rw[q] at h1;exact absurd (Nat.lt_of_lt_of_le h1 I.ok.above) (Nat.lt_irrefl _)
 ·exact n q
def BF {h h':Heap}{c:Addr}{v:Option Value}(u:h.UpToSlots h')(x:h.IsCell c v):h'.IsCell c v:=by
 obtain⟨o,e,d⟩:=x;obtain⟨sl,e'⟩:=u c o e λvs q=>by rw[d] at q;cases q
 exact⟨_,e',d⟩
def lT (I:L2.Inv X ag σ H s)(f6:Lv X ag H B)(hB:B.StaysIn s.heap)(hB':B.StaysIn h')(up:s.heap.UpToSlots h'):L2.Inv X ag σ H {s with heap:=h'}:=by
 have keepB:∀b o o',B.get? b=Z o'->s.heap.get? b=Z o->h'.get? b=Z o:=λb o o' e1 e2=>by
  have:=hB b o' e1;rw[e2] at this;cases this;exact hB' b _ e1
 refine⟨I.ok,I.os,I.bare,⟨λb o e n nf nx=>?_,λb o e n hf nx=>?_,λb o e n nx=>I.base.free b o e n nx,λb o e nx=>?_,I.base.tups,I.base.frzs,I.base.tbls⟩,?_,λx c e=>?_,I.free,I.freeC,λp hp=>?_,λb o e=>?_,I.len⟩
 ·obtain⟨o',e'⟩:=f6.old b o e nx (rH I e nf);exact keepB b o o' e' (I.base.keep b o e n nf nx)
 ·obtain⟨sl,e1⟩:=I.base.slot b o e n hf nx;obtain⟨_,ob,e2,nf⟩:=I.funs.mem hf;rw[e1] at e2;cases e2;obtain⟨sl',e3⟩:=up b _ e1 nf;exact⟨sl',e3⟩
 ·by_cases hf:b∈X.fs
  ·obtain⟨_,ob,e2,nf⟩:=I.funs.mem hf;obtain⟨sl',e3⟩:=up b _ e2 nf;exact⟨_,e3⟩
  ·obtain⟨o',e'⟩:=f6.old b o e nx (rH I e hf);exact⟨o',hB' b o' e'⟩
 ·obtain⟨m,hn,hl⟩:=I.loc;refine⟨m,up.ns hn,λi x v e1 e2 e3=>?_⟩;obtain⟨u,r,lk⟩:=hl i x v e1 e2 e3;refine⟨u,r,?_⟩;rcases lk with lk|⟨k,c,ec,ic⟩
  ·exact .inl lk
  ·exact .inr ⟨k,c,ec,BF up ic⟩
 ·obtain⟨v,ic⟩:=I.cell x c e;exact⟨v,BF up ic⟩
 ·obtain⟨e,n,ne,nf,d⟩:=I.pin p hp;obtain⟨o',e'⟩:=f6.pin p hp;exact⟨keepB p.1 p.2 o' e' e,n,ne,nf,d⟩
 ·refine(I.hok b o e).stay (λc u hc q=>?_) (λ_ q=>q) λ_ _ q=>q
  have:∃o,H c=Z o:=by
   rcases hc with z|z
   ·exact⟨o,by rw[z];exact e⟩
   ·exact⟨_,z⟩
  obtain⟨oc,ec⟩:=this;obtain⟨o',e'⟩:=f6.trk c oc ec;exact keepB c u o' e' q
def yt (I:L2.Inv X ag σ H s):Lv X ag H (W.hideAll s.heap (sG X.stack)):=by
 refine⟨λb o e=>?_,λp hp=>?_,λb o e nx nf=>?_⟩
 ·obtain⟨u,q⟩:=ut (I.hok b o e);exact⟨u,W.hideAll_get _ q λz=>by rw[I.stkFree b z] at e;cases e⟩
 ·obtain⟨e,n,ne,nf,d⟩:=I.pin p hp;exact⟨p.2,W.hideAll_get _ e λz=>by
   rcases mem_cons.mp (I.stkSub _ z) with q|q
   ·exact ne q
   ·exact nf q⟩
 ·obtain⟨o',e'⟩:=I.base.there b o e nx;exact⟨o',W.hideAll_get _ e' nf⟩
def qL (I:L2.Inv X ag σ H s):s.heap.FunFrames (W.hideAll s.heap (sG X.stack)) X.stack:=
 W.funFrames_hide I.stack λenv he b hb=>mem_filterMap.mpr ⟨env,he,hb⟩
def vO {vs:List Value}{h:Heap}(I:L2.Inv X ag σ H {s with heap:=h})(m:Heap.MadeExcOf h s.heap a (.ref C) vs):H a=Y:=by
 cases q:H a with
 | none=>rfl
 | some o=>
  obtain⟨u,e⟩:=ut (I.hok a o q);have e:h.get? a=Z u:=e;rw[m.new] at e;cases e
end
def iz (P:Program)(w:World):BW:=λouter H s E e s'=>∃a C H' B a0,e=.ref a/\s'.os=s.os/\AllBare s'.gens/\Un (sG outer) [] H H' s.heap s'.heap/\mz P w H' s'.heap/\H' a=Y/\
 Heap.FlyingW B outer a (.ref C) a0 s'.heap/\(∀b o,H' b=Z o->∃o',B.get? b=Z o')/\(∀b o,s.heap.get? b=Z o->b∉sG outer->∃o',B.get? b=Z o')/\E (.ref C) (Z a) H'
variable{mg:Str->Option Value}{base:Heap}{scope:Scope}{f:Addr}{A:Around}{s:Shared}{E:XK}
def nW {N:List Str}{qual:Str}{cdv:Value}{outer:List Env}{s':Shared}{H':Hp}{C:Addr}
  (fl:RQ (iy (iz P w) P w K mg base N qual scope f cdv A outer s H E) H' a C s') (hE:E (.ref C) (Z a) H'):(iy (iz P w) P w K mg base N qual scope f cdv A outer s H E).xe (.ref a) s':=by
 show wpAny (model P w) (A.deeper (envOfC qual scope s.heap.objs.size f cdv)) (leaving (envOfC qual scope s.heap.objs.size f cdv) (.ref a)) (λ_ s''=>iz P w outer H s E (.ref a) s'') (λe' s''=>iz P w outer H s E e' s'') s';obtain⟨ag,σ,fl⟩:=fl;have key:∀(B:Heap) (a0:Value) (h':Heap) (I:L2.Inv (iy (iz P w) P w K mg base N qual scope f cdv A outer s H E) ag σ H' s'),B.StaysIn s'.heap->Lv (iy (iz P w) P w K mg base N qual scope f cdv A outer s H E) ag H' B->H' a=Y->
   Heap.FlyingW B outer a (.ref C) a0 h'->s'.heap.UpToSlots h'->iz P w outer H s E (.ref a) {s' with heap:=h'}:=λB a0 h' I hB f6 hn fl' up=>by
  have I':=lT I f6 hB fl'.1 up;refine⟨a,C,H',B,a0,rfl,I'.os,I'.bare,I'.base,I'.hok,hn,fl',f6.trk,λb o e nf=>?_,hE⟩;exact f6.old b o e (by show b∉([]:List Addr);simp) (rH I e nf)
 rcases fl with⟨h,vs,I,m⟩|⟨I,hn,B,a0,fl,f6⟩|⟨I,hn,B,a0,L,hL,held,f6⟩
 ·have f6:=yt I;have hid:∀b o,(W.hideAll h (sG (iy (iz P w) P w K mg base N qual scope f cdv A outer s H E).stack)).get? b=Z o->h.get? b=Z o:=λb o q=>W.of_hideAll _ q
  refine wpAny_leaves_madeW (env:=envOfC qual scope s.heap.objs.size f cdv) (outer:=outer) I.ok.frames rfl hid (qL I) m λh' t x1 x2 x3 x4=>?_
  exact key _ _ h' (I.kept (t':=s'.toks) (h':=s'.heap) m.keeps) (λb o q=>m.keeps b o (hid b o q)) f6 (vO I m) x1 x4
 ·refine wpAny_leaves_onW (env:=envOfC qual scope s.heap.objs.size f cdv) (outer:=outer) I.ok.frames rfl fl λh' x1 x2=>?_
  exact key B a0 h' I fl.1 f6 hn x1 x2
 ·unfold leaving;refine wpAny_bind (wpAny_noteFrame_againW hL held.2.2.2 ?_);refine wpAny_landsW held λh' x1 x2=>?_
  obtain⟨k1,k2,⟨_,_,k3⟩,k4⟩:=x1;exact key B a0 h' I held.1 f6 hn ⟨k1,k2,k3,k4⟩ x2
variable{ag:List (Addr×Obj)}{σ:L2.St}
def BY {X:Cx}{e:Value}{s':Shared}(I:L2.Inv X ag σ H s)(h:iz X.prog X.w X.stack H s E e s'):∃a C H',e=.ref a/\RQ X H' a C s'/\E (.ref C) (Z a) H':=by
 obtain⟨a,C,H',B,a0,rfl,os,bare,un,hok,hn,fl,trk,old,hE⟩:=h;refine⟨a,C,H',rfl,⟨ag,σ,.inr (.inl ⟨I.call' os un hok bare (λb z=>absurd z (by simp)),hn,B,a0,fl,trk,λp hp=>?_,λb o eb nx nf=>?_⟩)⟩,hE⟩
 ·obtain⟨eb,n,ne,nf,d⟩:=I.pin p hp;exact old p.1 p.2 eb λz=>by
   rcases mem_cons.mp (I.stkSub _ z) with q|q
   ·exact ne q
   ·exact nf q
 ·obtain⟨o',e'⟩:=I.base.there b o eb nx;exact old b o' e' nf
inductive D where
 | non|bl (b:Bool)|int (i:Int)|str (x:Str)|tup (xs:List D)|lst (xs:List D)|ro (xs:List D)|mr (i:Nat)|exc (c:Str)|any
instance:Inhabited D:=⟨.non⟩
inductive MO where
 | lst (xs:List D)|obj (c:Str) (fs:List (Str×D))|dK (kvs:List (eC×D))|dT (kvs:List (List eC×D))
instance:Inhabited MO:=⟨.lst []⟩
abbrev az:=List MO
abbrev bK:=List (Option D)
inductive aX (α:Type) where
 | ok (a:α) (M:az)
 | err (c:Str) (M:az)
 | bad
noncomputable def aX.bind {α β:Type}(o:aX α)(f:α->az->aX β):aX β:=
 match o with
 | .ok a M=>f a M
 | .err c M=>.err c M
 | .bad=>.bad
@[simp] theorem ah {α β:Type} (a:α) (M:az) (f:α->az->aX β):(aX.ok a M).bind f=f a M:=by rw[aX.bind]
@[simp] theorem O8 {α β:Type} (c:Str) (M:az) (f:α->az->aX β):(aX.err c M:aX α).bind f=.err c M:=by rw[aX.bind]
@[simp] theorem Pk {α β:Type} (f:α->az->aX β):(aX.bad:aX α).bind f=.bad:=by rw[aX.bind]
def S8 (K:W.Frag)(a:Addr)(xs:List V):Prop:=∃(o:Obj) (its:Array Value) (n:Nat),K.lookup a=Z o/\o.cls=.type "tuple"/\o.data=.seq its n/\its.size<=sizeLine/\ba xs its.toList
def KL (K:W.Frag)(a:Addr)(xs:List V):Prop:=∃(o:Obj) (its:Array Value) (n:Nat),K.lookup a=Z o/\o.cls=.type "list"/\o.dict=Y/\o.data=.seq its n/\its.size<=sizeLine/\ba xs its.toList
def ou (K:W.Frag)(θ:List Addr)(H:Hp)(a:Addr)(xs:List V):Prop:=H a=Z (.tup xs)/\a∉θ
def vK (θ:List Addr)(H:Hp)(a:Addr)(xs:List V):Prop:=H a=Z (.lst xs)/\a∉θ
def uU (K:W.Frag)(θ:List Addr)(H:Hp)(a:Addr)(xs:List V):Prop:=(Rd H a (.lst xs)/\a∉θ)\/KL K a xs
variable{θ:List Addr}{xs:List V}
def ou.sq (h:ou K θ H a xs):rF K H a xs:=.inl (.inl h.1)
def vK.sq (h:vK θ H a xs):nj K H a xs:=.inl (.inl h.1)
def uU.sq (h:uU K θ H a xs):nj K H a xs:=by
 rcases h with⟨h,_⟩|h
 ·exact .inl h
 ·exact .inr h
def HU (a C:Addr):HO:=.ext λh=>∃o,h.get? a=Z o/\o.cls=.ref C
mutual
def dC (K:W.Frag)(θ:List Addr)(H:Hp):D->V->Prop
 | .non,v=>v=.non
 | .bl b,v=>v=.bl b
 | .int i,v=>v=.int i
 | .str x,v=>v=.str x
 | .tup ds,v=>∃a vs,v=.ref a/\ou K θ H a vs/\bt K θ H ds vs
 | .lst ds,v=>∃a vs,v=.ref a/\vK θ H a vs/\bt K θ H ds vs
 | .ro ds,v=>∃a vs,v=.ref a/\uU K θ H a vs/\bt K θ H ds vs
 | .mr i,v=>∃a,v=.ref a/\θ[i]?=Z a
 | .exc c,v=>∃a C,v=.ref a/\dR K c C/\H a=Z (HU a C)/\a∉θ
 | .any,_=>True
def bt (K:W.Frag)(θ:List Addr)(H:Hp):List D->List V->Prop
 | [],vs=>vs=[]
 | d::ds,vs=>∃v r,vs=v::r/\dC K θ H d v/\bt K θ H ds r
end
def o8 (K:W.Frag)(θ:List Addr)(H:Hp):List (Str×D)->List (Str×V)->Prop
 | [],vs=>vs=[]
 | (f,d)::fs,vs=>∃v r,vs=(f,v)::r/\dC K θ H d v/\o8 K θ H fs r
def sw {κ:Type}(K:W.Frag)(θ:List Addr)(H:Hp):List (κ×D)->List (κ×V)->Prop
 | [],vs=>vs=[]
 | (k,d)::fs,vs=>∃v r,vs=(k,v)::r/\dC K θ H d v/\sw K θ H fs r
def uX (K:W.Frag)(θ:List Addr)(H:Hp):MO->Addr->Prop
 | .lst ds,a=>∃vs,H a=Z (.lst vs)/\bt K θ H ds vs
 | .obj c fs,a=>∃C dx vs,dR K c C/\H a=Z (.ins C dx vs)/\o8 K θ H fs vs
 | .dK kvs,a=>∃vs,H a=Z (.dK vs)/\sw K θ H kvs vs
 | .dT kvs,a=>∃vs,H a=Z (.dT vs)/\sw K θ H kvs vs
def cN:List Str:=["ink_shown","table_within","slots_given","cast_on_slots"]
def cz (x:Str):Str:=x++(".<locals>.<lambda>":Str)
def jH (c:Addr)(q:Str):HO:=.ext λh=>h.CodeRec (.ref c) q
def RM (ob:Obj):HO:=.frz ob (.ext λ_=>True)
structure nF (K:W.Frag)(H:Hp):Prop where
 tab:∀x,x∈cN->∀c P,W.tabIn K x=Z (c,P)->∃ps,H P=Z (.tbl ps)/\TriplesOk ps.toList/\∀pos cv,codeAmong pos ps.toList=Z cv->∃c',cv=.ref c'/\H c'=Z (jH c' (cz x))
 bm:∀x,x∈cN->∀c P,W.tabIn K x=Z (c,P)->∃bm ob,W.nsIn K mainGlobals "__builtins__"=Z (Z (.ref bm))/\H bm=Z (RM ob)/\ob.cls=.type "module"/\ob.dict=Z builtinsNs/\ob.data=.plain/\bm≠builtinsNs/\bm≠mainGlobals
def nF.of {H':Hp}(t:nF K H)(k1:∀b ps,H b=Z (.tbl ps)->H' b=Z (.tbl ps))(k2:∀b φ,H b=Z (.ext φ)->H' b=Z (.ext φ))(k3:∀b o u,H b=Z (.frz o u)->H' b=Z (.frz o u)):nF K H':=
 ⟨λx hx c P e=>by
  obtain⟨ps,h1,h2,h3⟩:=t.tab x hx c P e;refine⟨ps,k1 _ _ h1,h2,λpos cv q=>?_⟩;obtain⟨c',e1,e2⟩:=h3 pos cv q;exact⟨c',e1,k2 _ _ e2⟩,λx hx c P e=>by
  obtain⟨bm,ob,e1,e2,r⟩:=t.bm x hx c P e;exact⟨bm,ob,e1,k3 _ _ _ e2,r⟩⟩
def nF.new {p:Addr}(t:nF K H)(hp:H p=Y):nF K (cx H p o):=
 t.of (λb ps e=>by rw[aB (bV e hp)];exact e) (λb φ e=>by rw[aB (bV e hp)];exact e) λb o u e=>by rw[aB (bV e hp)];exact e
def zB:HO->Bool
 | .tbl _=>false
 | .ext _=>false
 | .frz _ _=>false
 | _=>true
def nF.at_ {u:HO}(t:nF K H)(ha:H a=Z u)(hu:zB u=true):nF K (cx H a o):=
 t.of (λb ps e=>by rw[aB (xR e ha (by intro z;subst z;cases hu))];exact e) (λb φ e=>by rw[aB (xR e ha (by intro z;subst z;cases hu))];exact e) λb o u e=>by rw[aB (xR e ha (by intro z;subst z;cases hu))];exact e
structure Wr (K:W.Frag)(θ:List Addr)(H:Hp)(M:az):Prop where
 len:θ.length=M.length
 nd:θ.Nodup
 at_:∀(i:Nat) a m,θ[i]?=Z a->M[i]?=Z m->uX K θ H m a
 tb:nF K H
structure j9 (K:W.Frag)(θ:List Addr)(H:Hp)(σ:L2.St)(ρ:bK):Prop where
 len:ρ.length=σ.length
 at_:∀(i:Nat) d,ρ[i]?=Z (Z d)->∃v,σ[i]?=Z (Z v)/\dC K θ H d v
structure Grow (θ:List Addr)(H:Hp)(θ':List Addr)(H':Hp):Prop where
 ext:∃more,θ'=θ++more/\∀a∈more,H a=Y
 keep:∀b o,H b=Z o->b∉θ->(∀ps,o≠.tbl ps)->H' b=Z o
 tkeep:∀b ps,H b=Z (.tbl ps)->∃ps',H' b=Z (.tbl ps')
structure Go (K:W.Frag)(θ:List Addr)(H:Hp)(θ':List Addr)(H':Hp)(M':az):Prop extends Grow θ H θ' H' where
 wr:Wr K θ' H' M'
variable{m:MO}{i:Nat}{d:D}{v:V}{ds:List D}{vs:List V}
section
variable {K:W.Frag}{θ θ' θ1 θ2:List Addr}{H H' H1 H2:Hp}{M M' M1 M2:az}{a p:Addr}{σ:L2.St}{ρ:bK}
def Wr.tracked (w:Wr K θ H M)(h:a∈θ):H a≠Y:=by
 obtain⟨i,hi,e⟩:=mem_iff_getElem.mp h;have h1:θ[i]?=Z a:=by rw[getElem?_eq_getElem hi,e]
 have h2:i<M.length:=by rw[<-w.len];exact hi
 have h3:=w.at_ i a _ h1 (getElem?_eq_getElem h2);cases q:M[i] with
 | lst ds=>
  rw[q] at h3;obtain⟨vs,e,_⟩:=h3;rw[e];simp
 | obj c fs=>
  rw[q] at h3;obtain⟨C,dx,vs,_,e,_⟩:=h3;rw[e];simp
 | dK kvs=>
  rw[q] at h3;obtain⟨vs,e,_⟩:=h3;rw[e];simp
 | dT kvs=>
  rw[q] at h3;obtain⟨vs,e,_⟩:=h3;rw[e];simp
def uX.plain (h:uX K θ H m a):∃o,H a=Z o/\zB o=true:=by
 cases m with
 | lst ds=>obtain⟨vs,e,_⟩:=h;exact⟨_,e,rfl⟩
 | obj c fs=>obtain⟨C,dx,vs,_,e,_⟩:=h;exact⟨_,e,rfl⟩
 | dK kvs=>obtain⟨vs,e,_⟩:=h;exact⟨_,e,rfl⟩
 | dT kvs=>obtain⟨vs,e,_⟩:=h;exact⟨_,e,rfl⟩
def Wr.plain (w:Wr K θ H M)(h:θ[i]?=Z a):∃o,H a=Z o/\zB o=true:=by
 have h2:i<M.length:=by rw[<-w.len];exact(List.getElem?_eq_some_iff.mp h).1
 exact(w.at_ i a _ h (getElem?_eq_getElem h2)).plain
def Wr.fresh (w:Wr K θ H M)(h:H p=Y):p∉θ:=λz=>w.tracked z h
def Grow.refl (θ:List Addr)(H:Hp):Grow θ H θ H:=⟨⟨[],by simp,λ_ z=>by cases z⟩,λ_ _ h _ _=>h,λb ps e=>⟨ps,e⟩⟩
def Go.refl (w:Wr K θ H M):Go K θ H θ H M:=⟨.refl θ H,w⟩
def Go.trans (a:Go K θ H θ1 H1 M1)(b:Go K θ1 H1 θ2 H2 M2):Go K θ H θ2 H2 M2:=by
 obtain⟨m1,e1,f1⟩:=a.ext;obtain⟨m2,e2,f2⟩:=b.ext;refine⟨⟨⟨m1++m2,by rw[e2,e1,append_assoc],λx hx=>?_⟩,λx o hx nx nt=>?_,λx ps e=>?_⟩,b.wr⟩
 ·rcases mem_append.mp hx with z|z
  ·exact f1 x z
  ·cases q:H x with
   | none=>rfl
   | some o=>
    have nx:x∉θ:=by
     intro y;have nd:=b.wr.nd;rw[e2] at nd;have y1:x∈θ1:=by rw[e1];exact mem_append_left _ y
     exact(nodup_append.mp nd).2.2 x y1 x z rfl
    exfalso
    by_cases nt:∃ps,o=.tbl ps
    ·obtain⟨ps,rfl⟩:=nt;obtain⟨ps',e'⟩:=a.tkeep x ps q;rw[f2 x z] at e';cases e'
    ·have:=a.keep x o q nx λps e'=>nt ⟨ps,e'⟩
     rw[f2 x z] at this;cases this
 ·have h1:=a.keep x o hx nx nt;refine b.keep x o h1 ?_ nt;rw[e1];intro z;rcases mem_append.mp z with z|z
  ·exact nx z
  ·rw[f1 x z] at hx;cases hx
 ·obtain⟨ps',e'⟩:=a.tkeep x ps e;exact b.tkeep x ps' e'
def Grow.notin (g:Grow θ H θ' H')(h:H a=Z o)(n:a∉θ):a∉θ':=by
 obtain⟨m,e,f⟩:=g.ext;rw[e];intro z;rcases mem_append.mp z with z|z
 ·exact n z
 ·rw[f a z] at h;cases h
def ou.grow (g:Grow θ H θ' H')(h:ou K θ H a xs):ou K θ' H' a xs:=⟨g.keep _ _ h.1 h.2 (by intro _ z;cases z),g.notin h.1 h.2⟩
def vK.grow (g:Grow θ H θ' H')(h:vK θ H a xs):vK θ' H' a xs:=⟨g.keep _ _ h.1 h.2 (by intro _ z;cases z),g.notin h.1 h.2⟩
def uU.grow (g:Grow θ H θ' H')(h:uU K θ H a xs):uU K θ' H' a xs:=by
 rcases h with⟨h|⟨o,h⟩,n⟩|h
 ·exact .inl ⟨.inl (g.keep _ _ h n (by intro _ z;cases z)),g.notin h n⟩
 ·exact .inl ⟨.inr ⟨o,g.keep _ _ h n (by intro _ z;cases z)⟩,g.notin h n⟩
 ·exact .inr h
mutual
theorem oC (g:Grow θ H θ' H'):∀(d:D) (v:V),dC K θ H d v->dC K θ' H' d v
 | .non,v,h=>h
 | .bl b,v,h=>h
 | .int i,v,h=>h
 | .str x,v,h=>h
 | .tup ds,v,h=>by
  obtain⟨a,vs,e,t,r⟩:=h;exact⟨a,vs,e,t.grow g,eI g ds vs r⟩
 | .lst ds,v,h=>by
  obtain⟨a,vs,e,t,r⟩:=h;exact⟨a,vs,e,t.grow g,eI g ds vs r⟩
 | .ro ds,v,h=>by
  obtain⟨a,vs,e,t,r⟩:=h;exact⟨a,vs,e,t.grow g,eI g ds vs r⟩
 | .mr i,v,h=>by
  obtain⟨a,e,t⟩:=h;obtain⟨m,em,_⟩:=g.ext;refine⟨a,e,?_⟩;rw[em,getElem?_append_left (List.getElem?_eq_some_iff.mp t).1];exact t
 | .exc c,v,h=>by
  obtain⟨a,C,e,k,t,n⟩:=h;exact⟨a,C,e,k,g.keep _ _ t n (by intro _ z;cases z),g.notin t n⟩
 | .any,v,h=>h
theorem eI (g:Grow θ H θ' H'):∀(ds:List D) (vs:List V),bt K θ H ds vs->bt K θ' H' ds vs
 | [],vs,h=>h
 | d::ds,vs,h=>by
  obtain⟨v,r,e,h1,h2⟩:=h;exact⟨v,r,e,oC g d v h1,eI g ds r h2⟩
end
def dC.go (h:dC K θ H d v)(g:Go K θ H θ' H' M'):dC K θ' H' d v:=oC g.toGrow d v h
def bt.go (h:bt K θ H ds vs)(g:Go K θ H θ' H' M'):bt K θ' H' ds vs:=eI g.toGrow ds vs h
def j9.go (h:j9 K θ H σ ρ)(g:Go K θ H θ' H' M'):j9 K θ' H' σ ρ:=⟨h.len,λi d e=>let ⟨v,e1,e2⟩:=h.at_ i d e;⟨v,e1,e2.go g⟩⟩
theorem aA:∀{ds:List D} {vs:List V},bt K θ H ds vs->ds.length=vs.length
 | [],vs,h=>by cases (show vs=[] from h);rfl
 | d::ds,vs,h=>by
  obtain⟨v,r,e,_,h2⟩:=h;subst e;rw[length_cons,length_cons,aA h2]
theorem ck:∀{ds es:List D} {vs us:List V},bt K θ H ds vs->bt K θ H es us->bt K θ H (ds++es) (vs++us)
 | [],es,vs,us,h,k=>by cases (show vs=[] from h);exact k
 | d::ds,es,vs,us,h,k=>by
  obtain⟨v,r,e,h1,h2⟩:=h;subst e;exact⟨v,r++us,rfl,h1,ck h2 k⟩
theorem gQ:∀{ds:List D} {vs:List V} {i:Nat} {d:D},bt K θ H ds vs->ds[i]?=Z d->∃v,vs[i]?=Z v/\dC K θ H d v
 | [],vs,i,d,h,e=>by simp at e
 | x::ds,vs,0,d,h,e=>by
  obtain⟨v,r,e1,h1,h2⟩:=h;subst e1;simp at e;subst e;exact⟨v,rfl,h1⟩
 | x::ds,vs,i+1,d,h,e=>by
  obtain⟨v,r,e1,h1,h2⟩:=h;subst e1;obtain⟨u,e2,h3⟩:=gQ (i:=i) h2 (by simpa using e);exact⟨u,by simpa using e2,h3⟩
theorem mW:∀{ds:List D} {vs:List V} (n:Nat),bt K θ H ds vs->bt K θ H (ds.take n) (vs.take n)
 | ds,vs,0,h=>by rw[take_zero,take_zero];exact rfl
 | [],vs,n+1,h=>by cases (show vs=[] from h);exact rfl
 | d::ds,vs,n+1,h=>by
  obtain⟨v,r,e,h1,h2⟩:=h;subst e;exact⟨v,r.take n,rfl,h1,mW n h2⟩
theorem mY:∀{ds:List D} {vs:List V} (n:Nat),bt K θ H ds vs->bt K θ H (ds.drop n) (vs.drop n)
 | ds,vs,0,h=>h
 | [],vs,n+1,h=>by cases (show vs=[] from h);exact rfl
 | d::ds,vs,n+1,h=>by
  obtain⟨v,r,e,h1,h2⟩:=h;subst e;exact mY n h2
theorem yA {d:D}{v:V}(hd:dC K θ H d v):∀{ds:List D} {vs:List V} (i:Nat),bt K θ H ds vs->bt K θ H (ds.set i d) (vs.set i v)
 | [],vs,i,h=>by cases (show vs=[] from h);exact rfl
 | x::ds,vs,0,h=>by
  obtain⟨u,r,e,h1,h2⟩:=h;subst e;exact⟨v,r,rfl,hd,h2⟩
 | x::ds,vs,i+1,h=>by
  obtain⟨u,r,e,h1,h2⟩:=h;subst e;exact⟨u,r.set i v,rfl,h1,yA hd i h2⟩
def oS (w:Wr K θ H M)(hp:H p=Y):Grow θ H θ (cx H p o):=
 ⟨⟨[],by simp,λ_ z=>by cases z⟩,λb u h _ _=>by rw[aB (bV h hp)];exact h,λb ps h=>⟨ps,by rw[aB (bV h hp)];exact h⟩⟩
theorem p0 (g:Grow θ H θ' H'):∀{fs:List (Str×D)} {vs:List (Str×V)},o8 K θ H fs vs->o8 K θ' H' fs vs
 | [],vs,h=>h
 | (f,d)::fs,vs,h=>by
  obtain⟨v,r,e,h1,h2⟩:=h;exact⟨v,r,e,oC g d v h1,p0 g h2⟩
theorem ko {κ:Type}(g:Grow θ H θ' H'):∀{fs:List (κ×D)} {vs:List (κ×V)},sw K θ H fs vs->sw K θ' H' fs vs
 | [],vs,h=>h
 | (f,d)::fs,vs,h=>by
  obtain⟨v,r,e,h1,h2⟩:=h;exact⟨v,r,e,oC g d v h1,ko g h2⟩
def uX.grow (g:Grow θ H θ' H')(hs:H' a=H a)(h:uX K θ H m a):uX K θ' H' m a:=by
 cases m with
 | lst ds=>
  obtain⟨vs,e,r⟩:=h;exact⟨vs,by rw[hs];exact e,eI g ds vs r⟩
 | obj c fs=>
  obtain⟨C,dx,vs,k,e,r⟩:=h;exact⟨C,dx,vs,k,by rw[hs];exact e,p0 g r⟩
 | dK kvs=>
  obtain⟨vs,e,r⟩:=h;exact⟨vs,by rw[hs];exact e,ko g r⟩
 | dT kvs=>
  obtain⟨vs,e,r⟩:=h;exact⟨vs,by rw[hs];exact e,ko g r⟩
def dX (w:Wr K θ H M)(hp:H p=Y):Go K θ H θ (cx H p o) M:=
 ⟨oS w hp,w.len,w.nd,λi a m h1 h2=>by
  have ha:a≠p:=λe=>w.fresh hp (by rw[<-e];exact mem_of_getElem? h1)
  exact(w.at_ i a m h1 h2).grow (oS w hp) (aB ha),w.tb.new hp⟩
def iJ (w:Wr K θ H M)(hp:H p=Y)(r:bt K θ H ds vs):dC K θ (cx H p (.tup vs)) (.tup ds) (.ref p):=
 ⟨p,vs,rfl,⟨bJ,w.fresh hp⟩,eI (oS w hp) ds vs r⟩
def jx (w:Wr K θ H M)(hp:H p=Y)(r:bt K θ H ds vs):dC K θ (cx H p (.lst vs)) (.lst ds) (.ref p):=
 ⟨p,vs,rfl,⟨bJ,w.fresh hp⟩,eI (oS w hp) ds vs r⟩
def v6 (hp:H p=Y):Grow θ H (θ++[p]) (cx H p o):=
 ⟨⟨[p],rfl,λa ha=>by rw[mem_singleton.mp ha];exact hp⟩,λb u h _ _=>by rw[aB (bV h hp)];exact h,λb ps h=>⟨ps,by rw[aB (bV h hp)];exact h⟩⟩
def ww (w:Wr K θ H M)(hp:H p=Y)(hm:uX K (θ++[p]) (cx H p o) m p):Go K θ H (θ++[p]) (cx H p o) (M++[m]):=by
 have np:=w.fresh hp;have g:Grow θ H (θ++[p]) (cx H p o):=v6 hp;refine⟨g,by rw[length_append,length_append,w.len];rfl,?_,λi a m' h1 h2=>?_,w.tb.new hp⟩
 ·rw[nodup_append];exact⟨w.nd,by simp,λx hx y hy e=>np (by rw[mem_singleton.mp hy] at e;rw[<-e];exact hx)⟩
 ·by_cases hi:i<θ.length
  ·rw[getElem?_append_left hi] at h1;rw[getElem?_append_left (by rw[<-w.len];exact hi)] at h2;have ha:a≠p:=λe=>np (by rw[<-e];exact mem_of_getElem? h1)
   exact(w.at_ i a m' h1 h2).grow g (aB ha)
  ·have hi':i=θ.length:=by
    have:=(List.getElem?_eq_some_iff.mp h1).1;rw[length_append,length_singleton] at this;omega
   subst hi';rw[getElem?_append_right (Nat.le_refl _)] at h1;rw[getElem?_append_right (by rw[w.len];exact Nat.le_refl _)] at h2;simp only[Nat.sub_self,w.len,getElem?_cons_zero,Option.some.injEq] at h1 h2;subst h1;subst h2;exact hm
def GD (w:Wr K θ H M)(hp:H p=Y)(r:bt K θ H ds vs):Go K θ H (θ++[p]) (cx H p (.lst vs)) (M++[.lst ds]):=
 ww w hp ⟨vs,bJ,eI (v6 hp) ds vs r⟩
def pq (w:Wr K θ H M)(hi:θ[i]?=Z a):Grow θ H θ (cx H a o):=by
 have ha:a∈θ:=mem_of_getElem? hi;obtain⟨u,hu,pu⟩:=w.plain hi;exact⟨⟨[],by simp,λ_ z=>by cases z⟩,λb u h n _=>by rw[aB (λe=>n (by rw[e];exact ha))];exact h,λb ps h=>⟨ps,by rw[aB (xR h hu (by intro z;subst z;cases pu))];exact h⟩⟩
def rN (w:Wr K θ H M)(hi:θ[i]?=Z a)(hm:uX K θ (cx H a o) m a):Go K θ H θ (cx H a o) (M.set i m):=by
 have g:Grow θ H θ (cx H a o):=pq w hi;obtain⟨u,hu,pu⟩:=w.plain hi;refine⟨g,by rw[length_set];exact w.len,w.nd,λj b m' h1 h2=>?_,w.tb.at_ hu pu⟩
 by_cases hj:j=i
 ·subst hj;rw[hi] at h1;cases h1;have hl:j<M.length:=by rw[<-w.len];exact(List.getElem?_eq_some_iff.mp hi).1
  rw[getElem?_set_self hl] at h2;cases h2;exact hm
 ·rw[getElem?_set_ne (Ne.symm hj)] at h2;have hb:b≠a:=λe=>by
   subst e;obtain⟨h3,e3⟩:=List.getElem?_eq_some_iff.mp h1;obtain⟨h4,e4⟩:=List.getElem?_eq_some_iff.mp hi;exact hj ((getElem_inj w.nd).mp (e3.trans e4.symm))
  exact(w.at_ j b m' h1 h2).grow g (aB hb)
def uj {ds ds':List D}{vs':List V}(w:Wr K θ H M)(hi:θ[i]?=Z a)(r:bt K θ H ds' vs'):Go K θ H θ (cx H a (.lst vs')) (M.set i (.lst ds')):=
 rN w hi ⟨vs',bJ,eI (pq w hi) ds' vs' r⟩
end
abbrev GE:=bK->az->aX D
abbrev GT:=bK->az->aX Bool
abbrev GA:=bK->az->aX (List D)
inductive Fl where
 | nx (ρ:bK)|rt (d:D)|bk (ρ:bK)|ct (ρ:bK)
abbrev GS:=bK->az->aX Fl
def fJ (X:Cx)(θ:List Addr)(H:Hp)(c:Str)(M:az):Prop:=∀C θ' H' a s',dR X.K c C->Go X.K θ H θ' H' M->RQ X H' a C s'->X.xe (.ref a) s'
def aM (X:Cx)(θ:List Addr)(H:Hp)(Q:VK):aX D->Prop
 | .ok d M'=>∀v θ' H',Go X.K θ H θ' H' M'->dC X.K θ' H' d v->Q v H'
 | .err c M'=>fJ X θ H c M'
 | .bad=>False
def pJ (X:Cx)(θ:List Addr)(H:Hp)(Q:Bool->Hp->Prop):aX Bool->Prop
 | .ok b M'=>∀θ' H',Go X.K θ H θ' H' M'->Q b H'
 | .err c M'=>fJ X θ H c M'
 | .bad=>False
def CY (X:Cx)(θ:List Addr)(H:Hp)(Q:List V->Hp->Prop):aX (List D)->Prop
 | .ok ds M'=>∀vs θ' H',Go X.K θ H θ' H' M'->bt X.K θ' H' ds vs->Q vs H'
 | .err c M'=>fJ X θ H c M'
 | .bad=>False
def bZ (X:Cx)(θ:List Addr)(H:Hp)(D:Cr):aX Fl->Prop
 | .ok (.nx ρ) M'=>∀σ θ' H',Go X.K θ H θ' H' M'->j9 X.K θ' H' σ ρ->D.nx σ H'
 | .ok (.bk ρ) M'=>∀σ θ' H',Go X.K θ H θ' H' M'->j9 X.K θ' H' σ ρ->D.bk σ H'
 | .ok (.ct ρ) M'=>∀σ θ' H',Go X.K θ H θ' H' M'->j9 X.K θ' H' σ ρ->D.ct σ H'
 | .ok (.rt d) M'=>∀v θ' H',Go X.K θ H θ' H' M'->dC X.K θ' H' d v->D.rt v H'
 | .err c M'=>fJ X θ H c M'
 | .bad=>False
def tE (X:Cx)(g:GE):TE:=λσ H Q=>∃ρ θ M,j9 X.K θ H σ ρ/\Wr X.K θ H M/\aM X θ H Q (g ρ M)
def tT (X:Cx)(g:GT):TT:=λσ H Q=>∃ρ θ M,j9 X.K θ H σ ρ/\Wr X.K θ H M/\pJ X θ H Q (g ρ M)
def tA (X:Cx)(g:GA):TA:=λσ H Q=>∃ρ θ M,j9 X.K θ H σ ρ/\Wr X.K θ H M/\CY X θ H Q (g ρ M)
def tS (X:Cx)(g:GS):TS:=λD σ H=>∃ρ θ M,j9 X.K θ H σ ρ/\Wr X.K θ H M/\bZ X θ H D (g ρ M)
variable{M:az}{Q:Bool->Hp->Prop}
section
variable {X:Cx}{θ θ':List Addr}{H H':Hp}{M':az}
def fJ.go {c:Str}(g:Go X.K θ H θ' H' M')(h:fJ X θ H c M):fJ X θ' H' c M:=λC θ2 H2 a s' k g2 fl=>h C θ2 H2 a s' k (g.trans g2) fl
def aM.go {Q:VK}{o:aX D}(g:Go X.K θ H θ' H' M')(h:aM X θ H Q o):aM X θ' H' Q o:=by
 cases o with
 | ok d M=>exact λv θ2 H2 g2=>h v θ2 H2 (g.trans g2)
 | err c M=>exact fJ.go (c:=c) (M:=M) g h
 | bad=>exact h
def pJ.go {o:aX Bool}(g:Go X.K θ H θ' H' M')(h:pJ X θ H Q o):pJ X θ' H' Q o:=by
 cases o with
 | ok d M=>exact λθ2 H2 g2=>h θ2 H2 (g.trans g2)
 | err c M=>exact fJ.go (c:=c) (M:=M) g h
 | bad=>exact h
def CY.go {Q:List V->Hp->Prop}{o:aX (List D)}(g:Go X.K θ H θ' H' M')(h:CY X θ H Q o):CY X θ' H' Q o:=by
 cases o with
 | ok d M=>exact λv θ2 H2 g2=>h v θ2 H2 (g.trans g2)
 | err c M=>exact fJ.go (c:=c) (M:=M) g h
 | bad=>exact h
def bZ.go {D:Cr}{o:aX Fl}(g:Go X.K θ H θ' H' M')(h:bZ X θ H D o):bZ X θ' H' D o:=by
 cases o with
 | ok f M=>cases f <;> exact λv θ2 H2 g2=>h v θ2 H2 (g.trans g2)
 | err c M=>exact fJ.go (c:=c) (M:=M) g h
 | bad=>exact h
end
variable{c:Expr}{es:List Expr}{g ga gb:GE}{ρ:bK}{pos:Pos}{op:CmpOp}
section
variable {X:Cx}{e:Expr}
def _root_.L2.PE.of {t t':TE}(h:PE X e t)(w:∀σ H Q,t' σ H Q->t σ H Q):PE X e t':=λag s σ H Q I q=>h ag s σ H Q I (w σ H Q q)
def _root_.L2.PT.of {t t':TT}(h:PT X e t)(w:∀σ H Q,t' σ H Q->t σ H Q):PT X e t':=λag s σ H Q I q=>h ag s σ H Q I (w σ H Q q)
def _root_.L2.PW.of {t t':TT}(h:PW X e t)(w:∀σ H Q,t' σ H Q->t σ H Q):PW X e t':=λwh ag s σ H Q I q=>h wh ag s σ H Q I (w σ H Q q)
def _root_.L2.PA.of {t t':TA}(h:PA X es t)(w:∀σ H Q,t' σ H Q->t σ H Q):PA X es t':=λpos ag s σ H Q I q=>h pos ag s σ H Q I (w σ H Q q)
def _root_.L2.PS.of {st:Stmt}{t t':TS}(h:PS X st t)(w:∀D σ H,t' D σ H->t D σ H):PS X st t':=λag s σ H D I q=>h ag s σ H D I (w D σ H q)
def _root_.L2.PSs.of {st:List Stmt}{t t':TS}(h:PSs X st t)(w:∀D σ H,t' D σ H->t D σ H):PSs X st t':=λag s σ H D I q=>h ag s σ H D I (w D σ H q)
def bD {Q:VK}{α:Type}(hd:j9 X.K θ H σ ρ)(hw:Wr X.K θ H M)(F:aX α->Prop)(Fe:∀c M',F (.err c M')->fJ X θ H c M')(Fb:F .bad->False)
  {f:D->az->aX α} (h:F ((g ρ M).bind f))
  (k:∀d M1 v θ1 H1,Go X.K θ H θ1 H1 M1->dC X.K θ1 H1 d v->F (f d M1)->Q v H1):tE X g σ H Q:=by
 refine⟨ρ,θ,M,hd,hw,?_⟩;cases q:g ρ M with
 | ok d M1=>
  rw[q] at h;exact λv θ1 H1 g1 r1=>k d M1 v θ1 H1 g1 r1 h
 | err c M1=>rw[q] at h;exact Fe c M1 h
 | bad=>rw[q] at h;exact(Fb h).elim
def ae (i:Nat):GE:=λρ M=>match ρ[i]? with
 | some (Z d)=>.ok d M
 | _=>.bad
def gC (d:D):GE:=λ_ M=>.ok d M
def NX (h:PE X e (Qm i)):PE X e (tE X (ae i)):=h.of λσ H Q hxx=>by
 obtain⟨ρ,θ,M,hd,hw,f⟩:=hxx;unfold ae at f;split at f
 ·rename_i d q;obtain⟨v,e1,r⟩:=hd.at_ i d q;exact⟨v,e1,f v θ H (.refl hw) r⟩
 ·exact f.elim
def La {i j pos}:PE X (.Constant (.int i) j pos) (tE X (gC (.int i))):=Gr.of λσ H Q ⟨ρ,θ,M,hd,hw,f⟩=>f _ θ H (.refl hw) rfl
def Pr {b j pos}:PE X (.Constant (.bool b) j pos) (tE X (gC (.bl b))):=PN.of λσ H Q ⟨ρ,θ,M,hd,hw,f⟩=>f _ θ H (.refl hw) rfl
def Kw {j pos}:PE X (.Constant .none j pos) (tE X (gC .non)):=MI.of λσ H Q ⟨ρ,θ,M,hd,hw,f⟩=>f _ θ H (.refl hw) rfl
def Nv {x j pos}:PE X (.Constant (.str x) j pos) (tE X (gC (.str x))):=Mi.of λσ H Q ⟨ρ,θ,M,hd,hw,f⟩=>f _ θ H (.refl hw) rfl
abbrev F2:=D->D->az->aX D
def g2 (f:F2)(ga gb:GE):GE:=λρ M=>(ga ρ M).bind λx M1=>(gb ρ M1).bind λy M2=>f x y M2
def rD (X:Cx)(f:F2):R2:=λx y H Q=>∃θ M dx dy,Wr X.K θ H M/\dC X.K θ H dx x/\dC X.K θ H dy y/\aM X θ H Q (f dx dy M)
def Bu {f:F2}{Q:VK}(h:tE X (g2 f ga gb) σ H Q):OC (rD X f) (tE X ga) (tE X gb) σ H Q:=by
 obtain⟨ρ,θ,M,hd,hw,h⟩:=h;refine bD hd hw (aM X θ H Q) (λc M' h=>h) (λh=>h) h λdx M1 x θ1 H1 g1 r1 h1=>?_
 refine bD (hd.go g1) g1.wr (aM X θ1 H1 Q) (λc M' h=>h) (λh=>h) (h1.go g1) λdy M2 y θ2 H2 g2 r2 h2=>?_
 exact⟨θ2,M2,dx,dy,g2.wr,r1.go g2,r2,h2.go g2⟩
def Po {a b:Expr}{op:Operator}{f:F2}(ho:iV X (binaryOp op) (rD X f))(ha:PE X a (tE X ga))(hb:PE X b (tE X gb)):PE X (.BinOp a op b pos) (tE X (g2 f ga gb)):=
 (Of ho ha hb).of λ_ _ _ h=>Bu h
def Nx {a b:Expr}{f:F2}(ho:iV X (compareOp op) (rD X f))(ha:PE X a (tE X ga))(hb:PE X b (tE X gb))(hm:behindInMarks op b=false):PE X (.Compare a [op] [b] pos) (tE X (g2 f ga gb)):=
 (Je ho ha hb hm).of λ_ _ _ h=>Bu h
def Qh:D->az->aX Bool
 | .bl b,M=>.ok b M
 | _,_=>.bad
def aI (g:GE):GT:=λρ M=>(g ρ M).bind Qh
def DR {o:aX D}(h:pJ X θ H Q (o.bind Qh)):aM X θ H (λx H'=>∃k,x=.bl k/\Q k H') o:=by
 cases o with
 | ok d M=>
  cases d with
  | bl b=>exact λv θ1 H1 g1 r1=>⟨b,r1,h θ1 H1 g1⟩
  | _=>exact h.elim
 | err c M=>exact h
 | bad=>exact h
def FP (h:tT X (aI g) σ H Q):tE X g σ H λx H'=>∃k,x=.bl k/\Q k H':=by
 obtain⟨ρ,θ,M,hd,hw,h⟩:=h;exact⟨ρ,θ,M,hd,hw,DR h⟩
def D3 {a b:Expr}{f:F2}(ho:iV X (compareOp op) (rD X f))(ha:PE X a (tE X ga))(hb:PE X b (tE X gb))(hm:behindInMarks op b=false):PT X (.Compare a [op] [b] pos) (tT X (aI (g2 f ga gb))):=
 (HN ho ha hb hm).of λσ H Q h=>Bu (FP h)
def qJ (f f':F2)(ga gb gc:GE):GE:=λρ M=>(ga ρ M).bind λx M1=>(gb ρ M1).bind λy M2=>(f x y M2).bind λz M3=>match z with
 | .bl true=>(gc ρ M3).bind λw M4=>f' y w M4
 | .bl false=>.ok (.bl false) M3
 | _=>.bad
def JW {f f':F2}{gc:GE}{Q:VK}(h:tE X (qJ f f' ga gb gc) σ H Q):zD (rD X f) (rD X f') (tE X ga) (tE X gb) (tE X gc) σ H Q:=by
 obtain⟨ρ,θ,M,hd,hw,h⟩:=h;refine bD hd hw (aM X θ H Q) (λc M' h=>h) (λh=>h) h λdx M1 x θ1 H1 g1 r1 h1=>?_
 refine bD (hd.go g1) g1.wr (aM X θ1 H1 Q) (λc M' h=>h) (λh=>h) (h1.go g1) λdy M2 y θ2 H2 g2 r2 h2=>?_
 refine⟨θ2,M2,dx,dy,g2.wr,r1.go g2,r2,?_⟩;have h3:=h2.go g2;cases q:f dx dy M2 with
 | ok z M3=>
  rw[q] at h3;intro v θ3 H3 g3 r3;cases z with
  | bl k=>
   refine⟨k,r3,?_⟩;cases k with
   | true=>
    rw[if_pos rfl];refine bD ((hd.go g1).go (g2.trans g3)) g3.wr (aM X θ3 H3 Q) (λc M' h=>h) (λh=>h) (h3.go g3) λdw M4 w θ4 H4 g4 r4 h4=>?_
    exact⟨θ4,M4,dy,dw,g4.wr,r2.go (g3.trans g4),r4,h4.go g4⟩
   | false=>
    rw[if_neg Bool.false_ne_true];exact h3 _ θ3 H3 g3 rfl
  | _=>exact h3.elim
 | err c M3=>rw[q] at h3;exact h3
 | bad=>rw[q] at h3;exact h3
def Gu {a b:Expr}{op':CmpOp}{pos:Pos}{f f':F2}{gc:GE}(ho:iV X (compareOp op) (rD X f))(ho':iV X (compareOp op') (rD X f'))(ha:PE X a (tE X ga))(hb:PE X b (tE X gb))(hc:PE X c (tE X gc))
  (hm:lastMarks [op,op'] [b,c]=false:=by with_unfolding_all rfl):PE X (.Compare a [op,op'] [b,c] pos) (tE X (qJ f f' ga gb gc)):=(Fq ho ho' ha hb hc hm).of λ_ _ _ h=>JW h
def D4 {a b:Expr}{op':CmpOp}{pos:Pos}{f f':F2}{gc:GE}(ho:iV X (compareOp op) (rD X f))(ho':iV X (compareOp op') (rD X f'))(ha:PE X a (tE X ga))(hb:PE X b (tE X gb))(hc:PE X c (tE X gc))
  (hm:lastMarks [op,op'] [b,c]=false:=by with_unfolding_all rfl):PT X (.Compare a [op,op'] [b,c] pos) (tT X (aI (qJ f f' ga gb gc))):=(FE ho ho' ha hb hc hm).of λσ H Q h=>JW (FP h)
def dN (a b:GT):GT:=λρ M=>(a ρ M).bind λc M1=>if c then b ρ M1 else .ok false M1
def iS (a b:GT):GT:=λρ M=>(a ρ M).bind λc M1=>if c then .ok true M1 else b ρ M1
def eU (a:GT):GT:=λρ M=>(a ρ M).bind λc M1=>.ok (!c) M1
def wc {g:GT}{α:Type}(hd:j9 X.K θ H σ ρ)(hw:Wr X.K θ H M)(F:aX α->Prop)(Fe:∀c M',F (.err c M')->fJ X θ H c M')(Fb:F .bad->False)
  {f:Bool->az->aX α} (h:F ((g ρ M).bind f)) (k:∀d M1 θ1 H1,Go X.K θ H θ1 H1 M1->F (f d M1)->Q d H1):tT X g σ H Q:=by
 refine⟨ρ,θ,M,hd,hw,?_⟩;cases q:g ρ M with
 | ok d M1=>
  rw[q] at h;exact λθ1 H1 g1=>k d M1 θ1 H1 g1 h
 | err c M1=>rw[q] at h;exact Fe c M1 h
 | bad=>rw[q] at h;exact(Fb h).elim
variable {a b:Expr}{pos:Pos}{rest:List Expr}{ta tb:GT}{ga gb:GE}
def G3 (ha:PT X a (tT X ta)):PW X (.BoolOp .And [a] pos) (tT X ta):=IH ha
def K1 (ha:PT X a (tT X ta)):PW X (.BoolOp .Or [a] pos) (tT X ta):=L9 ha
def LN (ha:PT X a (tT X ta))(hb:PW X (.BoolOp .And (b::rest) pos) (tT X tb)):PW X (.BoolOp .And (a::b::rest) pos) (tT X (dN ta tb)):=(LY ha hb).of λσ H Q hxx=>by
 obtain⟨ρ,θ,M,hd,hw,h⟩:=hxx;refine wc hd hw (pJ X θ H Q) (λc M' h=>h) (λh=>h) h λc M1 θ1 H1 g1 h1=>?_
 cases c with
 | true=>exact⟨ρ,θ1,M1,hd.go g1,g1.wr,pJ.go g1 h1⟩
 | false=>exact h1 θ1 H1 g1
def OE (ha:PT X a (tT X ta))(hb:PW X (.BoolOp .Or (b::rest) pos) (tT X tb)):PW X (.BoolOp .Or (a::b::rest) pos) (tT X (iS ta tb)):=(PP ha hb).of λσ H Q hxx=>by
 obtain⟨ρ,θ,M,hd,hw,h⟩:=hxx;refine wc hd hw (pJ X θ H Q) (λc M' h=>h) (λh=>h) h λc M1 θ1 H1 g1 h1=>?_
 cases c with
 | true=>exact h1 θ1 H1 g1
 | false=>exact⟨ρ,θ1,M1,hd.go g1,g1.wr,pJ.go g1 h1⟩
def Lb (ha:PT X a (tT X ta)):PT X (.UnaryOp .Not a pos) (tT X (eU ta)):=(Le ha).of λσ H Q hxx=>by
 obtain⟨ρ,θ,M,hd,hw,h⟩:=hxx;exact wc hd hw (pJ X θ H Q) (λc M' h=>h) (λh=>h) h λc M1 θ1 H1 g1 h1=>h1 θ1 H1 g1
def fg (a b:GE):GE:=λρ M=>(a ρ M).bind λx M1=>match x with
 | .bl true=>b ρ M1
 | .bl false=>.ok (.bl false) M1
 | _=>.bad
def Kf (a b:GE):GE:=λρ M=>(a ρ M).bind λx M1=>match x with
 | .bl true=>.ok (.bl true) M1
 | .bl false=>b ρ M1
 | _=>.bad
def yE (a:GT):GE:=λρ M=>(a ρ M).bind λc M1=>.ok (.bl (!c)) M1
def Ku {op}(h:PE X a (tE X g)):PE X (.BoolOp op [a] pos) (tE X g):=LD h
def MV (ha:PE X a (tE X ga))(hb:PE X (.BoolOp .And (b::rest) pos) (tE X gb)):PE X (.BoolOp .And (a::b::rest) pos) (tE X (fg ga gb)):=(Ks ha hb).of λσ H Q hxx=>by
 obtain⟨ρ,θ,M,hd,hw,h⟩:=hxx;refine bD hd hw (aM X θ H Q) (λc M' h=>h) (λh=>h) h λd M1 v θ1 H1 g1 r1 h1=>?_
 cases d with
 | bl c=>
  refine⟨c,r1,?_⟩;cases c with
  | true=>rw[if_pos rfl];exact⟨ρ,θ1,M1,hd.go g1,g1.wr,aM.go g1 h1⟩
  | false=>rw[if_neg Bool.false_ne_true];exact h1 _ θ1 H1 g1 rfl
 | _=>exact h1.elim
def Py (ha:PE X a (tE X ga))(hb:PE X (.BoolOp .Or (b::rest) pos) (tE X gb)):PE X (.BoolOp .Or (a::b::rest) pos) (tE X (Kf ga gb)):=(PR ha hb).of λσ H Q hxx=>by
 obtain⟨ρ,θ,M,hd,hw,h⟩:=hxx;refine bD hd hw (aM X θ H Q) (λc M' h=>h) (λh=>h) h λd M1 v θ1 H1 g1 r1 h1=>?_
 cases d with
 | bl c=>
  refine⟨c,r1,?_⟩;cases c with
  | true=>rw[if_pos rfl];exact h1 _ θ1 H1 g1 rfl
  | false=>rw[if_neg Bool.false_ne_true];exact⟨ρ,θ1,M1,hd.go g1,g1.wr,aM.go g1 h1⟩
 | _=>exact h1.elim
def sF (t:GT)(a b:GE):GE:=λρ M=>(t ρ M).bind λc M1=>if c then a ρ M1 else b ρ M1
def Qy (hc:PT X c (tT X ta))(ha:PE X a (tE X ga))(hb:PE X b (tE X gb)):PE X (.IfExp c a b pos) (tE X (sF ta ga gb)):=(EJ hc ha hb).of λσ H Q hxx=>by
 obtain⟨ρ,θ,M,hd,hw,h⟩:=hxx;refine wc hd hw (aM X θ H Q) (λc M' h=>h) (λh=>h) h λc M1 θ1 H1 g1 h1=>?_
 cases c with
 | true=>rw[if_pos rfl];exact⟨ρ,θ1,M1,hd.go g1,g1.wr,aM.go g1 h1⟩
 | false=>rw[if_neg Bool.false_ne_true];exact⟨ρ,θ1,M1,hd.go g1,g1.wr,aM.go g1 h1⟩
def af:GA:=λ_ M=>.ok [] M
def aa (g:GE)(r:GA):GA:=λρ M=>(g ρ M).bind λd M1=>(r ρ M1).bind λds M2=>.ok (d::ds) M2
def lJ {g:GA}{Q:List V->Hp->Prop}{α:Type}(hd:j9 X.K θ H σ ρ)(hw:Wr X.K θ H M)(F:aX α->Prop)(Fe:∀c M',F (.err c M')->fJ X θ H c M')(Fb:F .bad->False)
  {f:List D->az->aX α} (h:F ((g ρ M).bind f)) (k:∀ds M1 vs θ1 H1,Go X.K θ H θ1 H1 M1->bt X.K θ1 H1 ds vs->F (f ds M1)->Q vs H1):tA X g σ H Q:=by
 refine⟨ρ,θ,M,hd,hw,?_⟩;cases q:g ρ M with
 | ok d M1=>
  rw[q] at h;exact λv θ1 H1 g1 r1=>k d M1 v θ1 H1 g1 r1 h
 | err c M1=>rw[q] at h;exact Fe c M1 h
 | bad=>rw[q] at h;exact(Fb h).elim
def Mp:PA X [] (tA X af):=kT.of λσ H Q ⟨ρ,θ,M,hd,hw,f⟩=>f [] θ H (.refl hw) rfl
def Iq {gr:GA}(ha:PE X e (tE X ga))(hr:PA X es (tA X gr))(hs:starEach (e::es) X.env=(false,eval e X.env)::starEach es X.env:=by rfl):PA X (e::es) (tA X (aa ga gr)):=
 (fP ha hr hs).of λσ H Q hxx=>by
  obtain⟨ρ,θ,M,hd,hw,h⟩:=hxx;refine bD hd hw (CY X θ H Q) (λc M' h=>h) (λh=>h) h λd M1 v θ1 H1 g1 r1 h1=>?_
  refine lJ (hd.go g1) g1.wr (CY X θ1 H1 Q) (λc M' h=>h) (λh=>h) (h1.go g1) λds M2 vs θ2 H2 g2 r2 h2=>?_
  exact h2 (v::vs) θ2 H2 g2 ⟨v,vs,rfl,r1.go g2,r2⟩
def sD (ds:List D)(M:az):aX D:=if ds.length<=sizeLine then .ok (.tup ds) M else .bad
def aP (ds:List D)(M:az):aX D:=if ds.length<=sizeLine then .ok (.lst ds) M else .bad
def dS (ds:List D)(M:az):aX D:=if ds.length<=sizeLine then .ok (.mr M.length) (M++[.lst ds]) else .bad
def aD (g:GA):GE:=λρ M=>(g ρ M).bind sD
def dM (g:GA):GE:=λρ M=>(g ρ M).bind aP
def kr (g:GA):GE:=λρ M=>(g ρ M).bind dS
def aM.tup {Q:VK}(h:aM X θ H Q (sD ds M))(hw:Wr X.K θ H M)(r:bt X.K θ H ds vs):vs.length<=sizeLine/\∀p,H p=Y->Q (.ref p) (cx H p (.tup vs)):=by
 unfold sD at h
 by_cases hl:ds.length<=sizeLine
 ·rw[if_pos hl] at h;exact⟨by rw[<-aA r];exact hl,λp hp=>h _ θ _ (dX hw hp) (iJ hw hp r)⟩
 ·rw[if_neg hl] at h;exact h.elim
def aM.lst {Q:VK}(h:aM X θ H Q (aP ds M))(hw:Wr X.K θ H M)(r:bt X.K θ H ds vs):vs.length<=sizeLine/\∀p,H p=Y->Q (.ref p) (cx H p (.lst vs)):=by
 unfold aP at h
 by_cases hl:ds.length<=sizeLine
 ·rw[if_pos hl] at h;exact⟨by rw[<-aA r];exact hl,λp hp=>h _ θ _ (dX hw hp) (jx hw hp r)⟩
 ·rw[if_neg hl] at h;exact h.elim
def aM.mut {Q:VK}(h:aM X θ H Q (dS ds M))(hw:Wr X.K θ H M)(r:bt X.K θ H ds vs):vs.length<=sizeLine/\∀p,H p=Y->Q (.ref p) (cx H p (.lst vs)):=by
 unfold dS at h
 by_cases hl:ds.length<=sizeLine
 ·rw[if_pos hl] at h;refine⟨by rw[<-aA r];exact hl,λp hp=>h _ (θ++[p]) _ (GD hw hp r) ⟨p,rfl,?_⟩⟩;rw[<-hw.len,getElem?_append_right (Nat.le_refl _)];simp
 ·rw[if_neg hl] at h;exact h.elim
def Lh {x1}{g:GA}(h:PA X es (tA X g)):PE X (.Tuple es x1 pos) (tE X (aD g)):=(Ld h).of λσ H Q ⟨ρ,θ,M,hd,hw,h⟩=>
 lJ hd hw (aM X θ H Q) (λc M' h=>h) (λh=>h) h λds M1 vs θ1 H1 g1 r1 h1=>aM.tup (aM.go g1 h1) g1.wr r1
def MU {g:GA}(h:PA X es (tA X g)):PE X (.List es pos) (tE X (dM g)):=(Gh h).of λσ H Q ⟨ρ,θ,M,hd,hw,h⟩=>
 lJ hd hw (aM X θ H Q) (λc M' h=>h) (λh=>h) h λds M1 vs θ1 H1 g1 r1 h1=>aM.lst (aM.go g1 h1) g1.wr r1
def MW {g:GA}(h:PA X es (tA X g)):PE X (.List es pos) (tE X (kr g)):=(Gh h).of λσ H Q ⟨ρ,θ,M,hd,hw,h⟩=>
 lJ hd hw (aM X θ H Q) (λc M' h=>h) (λh=>h) h λds M1 vs θ1 H1 g1 r1 h1=>aM.mut (aM.go g1 h1) g1.wr r1
end
section
variable {K:W.Frag}{θ:List Addr}{H:Hp}{σ:L2.St}{ρ:bK}
def j9.set (h:j9 K θ H σ ρ)(r:dC K θ H d v)(i:Nat):j9 K θ H (σ.set i (Z v)) (ρ.set i (Z d)):=by
 refine⟨by rw[length_set,length_set];exact h.len,λj d' e=>?_⟩
 by_cases hj:j=i
 ·subst hj;have hl:j<ρ.length:=by
   have:=(List.getElem?_eq_some_iff.mp e).1;rw[length_set] at this;exact this
  rw[getElem?_set_self hl] at e;have e':d=d':=by simpa using e
  subst e';exact⟨v,getElem?_set_self (by rw[<-h.len];exact hl),r⟩
 ·rw[getElem?_set_ne (Ne.symm hj)] at e;obtain⟨u,e1,r1⟩:=h.at_ j d' e;exact⟨u,by rw[getElem?_set_ne (Ne.symm hj)];exact e1,r1⟩
end
def aG:GS:=λρ M=>.ok (.nx ρ) M
def av (a b:GS):GS:=λρ M=>(a ρ M).bind λf M1=>match f with
 | .nx ρ1=>b ρ1 M1
 | .rt d=>.ok (.rt d) M1
 | .bk ρ1=>.ok (.bk ρ1) M1
 | .ct ρ1=>.ok (.ct ρ1) M1
def aL (i:Nat)(g:GE):GS:=λρ M=>(g ρ M).bind λd M1=>.ok (.nx (ρ.set i (Z d))) M1
def aK (g:GE):GS:=λρ M=>(g ρ M).bind λd M1=>.ok (.rt d) M1
def bA (g:GE):GS:=λρ M=>(g ρ M).bind λ_ M1=>.ok (.nx ρ) M1
def cO (t:GT)(a b:GS):GS:=λρ M=>(t ρ M).bind λc M1=>if c then a ρ M1 else b ρ M1
variable{x:Str}{is:List Nat}{n:Nat}
section
variable {X:Cx}{st:Stmt}{rest:List Stmt}{e:Expr}{g:GE}{t u:GS}{pos:Pos}
def K4:PSs X [] (tS X aG):=Hs.of λD σ H ⟨ρ,θ,M,hd,hw,f⟩=>f σ θ H (.refl hw) hd
def Jd (h1:PS X st (tS X t))(h2:PSs X rest (tS X u)):PSs X (st::rest) (tS X (av t u)):=(Dx h1 h2).of λD σ H hxx=>by
 obtain⟨ρ,θ,M,hd,hw,h⟩:=hxx;refine⟨ρ,θ,M,hd,hw,?_⟩;unfold av at h;cases q:t ρ M with
 | ok f M1=>
  rw[q] at h;cases f with
  | nx ρ1=>exact λσ1 θ1 H1 g1 d1=>⟨ρ1,θ1,M1,d1,g1.wr,bZ.go g1 h⟩
  | rt d=>exact h
  | bk ρ1=>exact h
  | ct ρ1=>exact h
 | err c M1=>rw[q] at h;exact h
 | bad=>rw[q] at h;exact h
def K8 (h1:PS X st (tS X t)):PSs X [st] (tS X t):=Ho h1
def Lc {pos':Pos}(hN:X.N.Nodup)(hi:X.N[i]?=Z x)(hx:Eg X.env.scope x)(he:PE X e (tE X g))(hs:swapsWith e (Z (.Name x pos')) pos.line X.env=pure false:=by rfl)(hf:X.fn x=true\/X.env.scope.names.lookup x=Z .local:=by first|exact .inl rfl|exact .inr rfl|assumption) :
  PS X (.Assign [.Name x pos'] e pos) (tS X (aL i g)):=(NK hN hi hx he hs hf).of λD σ H ⟨ρ,θ,M,hd,hw,h⟩=>
 bD hd hw (bZ X θ H D) (λc M' h=>h) (λh=>h) h λd M1 v θ1 H1 g1 r1 h1=>h1 _ θ1 H1 g1 ((hd.go g1).set r1 i)
def Ng (he:PE X e (tE X g)):PS X (.Return (Z e) pos) (tS X (aK g)):=(Lf he).of λD σ H ⟨ρ,θ,M,hd,hw,h⟩=>
 bD hd hw (bZ X θ H D) (λc M' h=>h) (λh=>h) h λd M1 v θ1 H1 g1 r1 h1=>h1 v θ1 H1 g1 r1
def He (he:PE X e (tE X g))(hs:swapsWith e Y pos.line X.env=pure false:=by rfl):PS X (.Expr e pos) (tS X (bA g)):=(IE he hs).of λD σ H ⟨ρ,θ,M,hd,hw,h⟩=>
 bD hd hw (bZ X θ H D) (λc M' h=>h) (λh=>h) h λd M1 v θ1 H1 g1 r1 h1=>h1 σ θ1 H1 g1 (hd.go g1)
def PH {a b:List Stmt}{tc:GT}(hc:PT X c (tT X tc))(ha:PSs X a (tS X t))(hb:PSs X b (tS X u)):PS X (.If c a b pos) (tS X (cO tc t u)):=(Qs hc ha hb).of λD σ H hxx=>by
 obtain⟨ρ,θ,M,hd,hw,h⟩:=hxx;refine wc hd hw (bZ X θ H D) (λc M' h=>h) (λh=>h) h λc M1 θ1 H1 g1 h1=>?_
 cases c with
 | true=>rw[if_pos rfl];exact⟨ρ,θ1,M1,hd.go g1,g1.wr,bZ.go g1 h1⟩
 | false=>rw[if_neg Bool.false_ne_true];exact⟨ρ,θ1,M1,hd.go g1,g1.wr,bZ.go g1 h1⟩
abbrev GG:=D->bK->Option bK
def tG (X:Cx)(s:GG):TG:=λv σ H Q=>∃ρ θ M d,j9 X.K θ H σ ρ/\Wr X.K θ H M/\dC X.K θ H d v/\∃ρ',s d ρ=Z ρ'/\∀σ',j9 X.K θ H σ' ρ'->Q σ' H
def dY (i:Nat):GG:=λd ρ=>Z (ρ.set i (Z d))
def pe:List Nat->List D->bK->Option bK
 | [],[],ρ=>Z ρ
 | i::is,d::ds,ρ=>pe is ds (ρ.set i (Z d))
 | _,_,_=>Y
def bB (is:List Nat):GG:=λd ρ=>match d with
 | .tup ds=>pe is ds ρ
 | _=>Y
def xm (hN:X.N.Nodup)(hi:X.N[i]?=Z x)(hx:Eg X.env.scope x)(hf:X.fn x=true\/X.env.scope.names.lookup x=Z .local:=by first|exact .inl rfl|exact .inr rfl|assumption):PG X (.Name x pos) (tG X (dY i)):=by
 intro ag s σ H v u Q I r h;obtain⟨ρ,θ,M,d,hd,hw,rd,ρ',e,h⟩:=h;cases e;exact JM hN hi hx hf ag s σ H v u Q I r (h _ (hd.set rd i))
def Qj (X:Cx)(is:List Nat):IW:=λvs σ H Q=>∃ρ θ M ds,j9 X.K θ H σ ρ/\Wr X.K θ H M/\bt X.K θ H ds vs/\∃ρ',pe is ds ρ=Z ρ'/\∀σ',j9 X.K θ H σ' ρ'->Q σ' H
def Iy:A5 X [] (Qj X []):=by
 intro ag s σ H vs us Q I r h;obtain⟨ρ,θ,M,ds,hd,hw,rd,ρ',e,h⟩:=h;cases ds with
 | cons d ds=>cases e
 | nil=>
  have e2:vs=[]:=rd;subst e2;cases e;exact Bw ag s σ H [] us Q I r ⟨rfl,h σ hd⟩
def Ee (h1:PG X e (tG X (dY i)))(h2:A5 X es (Qj X is))
  (hs:(assignEach (e::es) X.env).map (·.2)=assign e X.env::(assignEach es X.env).map (·.2):=by rfl):A5 X (e::es) (Qj X (i::is)):=by
 intro ag s σ H vs us Q I r h;obtain⟨ρ,θ,M,ds,hd,hw,rd,ρ',e1,h⟩:=h;cases ds with
 | nil=>cases e1
 | cons d ds=>
  obtain⟨v,vr,e2,rv,rr⟩:=rd;subst e2;refine yZ h1 h2 hs ag s σ H _ us Q I r ⟨v,vr,rfl,ρ,θ,M,d,hd,hw,rv,_,rfl,λσ1 d1=>?_⟩;exact⟨_,θ,M,ds,d1,hw,rr,ρ',e1,h⟩
def My {k:Nat}(hc:X.calm=true)(h:A5 X es (Qj X is))(hl:is.length=n:=by rfl)
  (hn:(assignEach es X.env).length=n:=by rfl) (hst:(assignEach es X.env).findIdx? (·.1)=Y:=by rfl):PG X (.Tuple es k pos) (tG X (bB is)):=by
 intro ag s σ H v u Q I r hw;obtain⟨ρ,θ,M,d,hd,hwr,rd,ρ',e1,hw⟩:=hw;cases d with
 | tup ds=>
  obtain⟨a,vs,e2,ta,rs⟩:=rd;have hlen:ds.length=is.length:=by
   have e1:pe is ds ρ=Z ρ':=e1;clear hw hd hwr rs hn hst h hl
   induction is generalizing ds ρ with
   | nil=>
    cases ds with
    | nil=>rfl
    | cons _ _=>cases e1
   | cons i is ih=>
    cases ds with
    | nil=>cases e1
    | cons d ds=>rw[length_cons,length_cons,ih _ ds e1 e1]
  refine FQ (n:=n) hc h hn hst ag s σ H v u Q I r ⟨a,vs,e2,ta.sq,by rw[<-aA rs,hlen,hl],?_⟩;exact⟨ρ,θ,M,ds,hd,hwr,rs,ρ',e1,hw⟩
 | _=>cases e1
def oq:List GG->List D->bK->Option bK
 | [],[],ρ=>Z ρ
 | s::ss,d::ds,ρ=>match s d ρ with
  | some ρ1=>oq ss ds ρ1
  | none=>Y
 | _,_,_=>Y
def rh (ss:List GG):GG:=λd ρ=>match d with
 | .tup ds=>oq ss ds ρ
 | _=>Y
theorem vR:∀{ss:List GG} {ds:List D} {ρ ρ':bK},oq ss ds ρ=Z ρ'->ds.length=ss.length
 | [],[],_,_,_=>rfl
 | [],_::_,_,_,h=>by cases h
 | _::_,[],_,_,h=>by cases h
 | s::ss,d::ds,ρ,ρ',h=>by
  unfold oq at h;split at h
  ·rw[length_cons,length_cons,vR h]
  ·cases h
def EL (X:Cx)(ss:List GG):IW:=λvs σ H Q=>∃ρ θ M ds,j9 X.K θ H σ ρ/\Wr X.K θ H M/\bt X.K θ H ds vs/\∃ρ',oq ss ds ρ=Z ρ'/\∀σ',j9 X.K θ H σ' ρ'->Q σ' H
def FA:A5 X [] (EL X []):=by
 intro ag s σ H vs us Q I r h;obtain⟨ρ,θ,M,ds,hd,hw,rd,ρ',e,h⟩:=h;cases ds with
 | cons d ds=>cases e
 | nil=>
  have e2:vs=[]:=rd;subst e2;cases e;exact Bw ag s σ H [] us Q I r ⟨rfl,h σ hd⟩
def Di {sg:GG}{ss:List GG}(h1:PG X e (tG X sg))(h2:A5 X es (EL X ss))
  (hs:(assignEach (e::es) X.env).map (·.2)=assign e X.env::(assignEach es X.env).map (·.2):=by rfl):A5 X (e::es) (EL X (sg::ss)):=by
 intro ag s σ H vs us Q I r h;obtain⟨ρ,θ,M,ds,hd,hw,rd,ρ',e1,h⟩:=h;cases ds with
 | nil=>cases e1
 | cons d ds=>
  obtain⟨v,vr,e2,rv,rr⟩:=rd;subst e2;unfold oq at e1;split at e1
  ·rename_i ρ1 q1;refine yZ h1 h2 hs ag s σ H _ us Q I r ⟨v,vr,rfl,ρ,θ,M,d,hd,hw,rv,ρ1,q1,λσ1 d1=>?_⟩;exact⟨ρ1,θ,M,ds,d1,hw,rr,ρ',e1,h⟩
  ·cases e1
def G6 {ss:List GG}{k:Nat}(hc:X.calm=true)(h:A5 X es (EL X ss))(hl:ss.length=n:=by rfl)
  (hn:(assignEach es X.env).length=n:=by rfl) (hst:(assignEach es X.env).findIdx? (·.1)=Y:=by rfl):PG X (.Tuple es k pos) (tG X (rh ss)):=by
 intro ag s σ H v u Q I r hw;obtain⟨ρ,θ,M,d,hd,hwr,rd,ρ',e1,hw⟩:=hw;cases d with
 | tup ds=>
  obtain⟨a,vs,e2,ta,rs⟩:=rd;have hlen:ds.length=ss.length:=vR e1;refine FQ (n:=n) hc h hn hst ag s σ H v u Q I r ⟨a,vs,e2,ta.sq,by rw[<-aA rs,hlen,hl],?_⟩;exact⟨ρ,θ,M,ds,hd,hwr,rs,ρ',e1,hw⟩
 | _=>cases e1
def dE (s:GG)(g:GE):GS:=λρ M=>(g ρ M).bind λd M1=>match s d ρ with
 | some ρ1=>.ok (.nx ρ1) M1
 | none=>.bad
def Lx {tg:Expr}{s:GG}(he:PE X e (tE X g))(hg:PG X tg (tG X s))(hs:swapsWithSole [tg] e pos.line X.env=pure false:=by rfl)(hw:swappedStores [tg] e X.env=pure Y:=by rfl)
  (h1:(assignEach [tg] X.env).map (·.2)=[assign tg X.env]:=by rfl):PS X (.Assign [tg] e pos) (tS X (dE s g)):=(EI he hg hs hw h1).of λD σ H hxx=>by
 obtain⟨ρ,θ,M,hd,hwr,h⟩:=hxx;refine bD hd hwr (bZ X θ H D) (λc M' h=>h) (λh=>h) h λd M1 v θ1 H1 g1 r1 h1=>?_
 cases q:s d ρ with
 | some ρ1=>
  rw[q] at h1;exact⟨ρ,θ1,M1,d,hd.go g1,g1.wr,r1,ρ1,q,λσ' d'=>h1 σ' θ1 H1 g1 d'⟩
 | none=>rw[q] at h1;exact h1.elim
def Dj (o i x:D)(M:az):aX Unit:=match o,i with
 | .mr k,.int j=>match M[k]? with
  | some (.lst xs)=>match GW xs.length j with
   | some n=>.ok () (M.set k (.lst (xs.set n x)))
   | none=>.bad
  | _=>.bad
 | _,_=>.bad
def nk (go gi g:GE):GS:=λρ M=>(g ρ M).bind λx M1=>(go ρ M1).bind λo M2=>(gi ρ M2).bind λi M3=>(Dj o i x M3).bind λ_ M4=>.ok (.nx ρ) M4
def NC {o i:Expr}{ip:Pos}{go gi:GE}(he:PE X e (tE X g))(ho:PE X o (tE X go))(hi:PE X i (tE X gi))
  (ha:∀v,assign (.Subscript o i ip) X.env v=(do
   let ov <-holding [v] (eval o X.env)
   let iv <-holding [v,ov] (eval i X.env)
   standAt ip
   holding [v,ov,iv] (setItem ov iv v)
   release [v,ov,iv] []):=by intro _;rfl)
  (hs:swapsWithSole [.Subscript o i ip] e pos.line X.env=pure false:=by rfl) (hw:swappedStores [.Subscript o i ip] e X.env=pure Y:=by rfl)
  (h1:(assignEach [.Subscript o i ip] X.env).map (·.2)=[assign (.Subscript o i ip) X.env]:=by rfl):PS X (.Assign [.Subscript o i ip] e pos) (tS X (nk go gi g)):=
 (EI he (Kk ho hi Gs ha) hs hw h1).of λD σ H hxx=>by
  obtain⟨ρ,θ,M,hd,hwr,h⟩:=hxx;refine bD hd hwr (bZ X θ H D) (λc M' h=>h) (λh=>h) h λdx M1 vx θ1 H1 g1 r1 h1=>?_
  refine bD (hd.go g1) g1.wr (bZ X θ1 H1 D) (λc M' h=>h) (λh=>h) (h1.go g1) λdob M2 vo θ2 H2 g2 r2 h2=>?_
  refine bD ((hd.go g1).go g2) g2.wr (bZ X θ2 H2 D) (λc M' h=>h) (λh=>h) (h2.go g2) λdi M3 vi θ3 H3 g3 r3 h3=>?_
  have h4:=h3.go g3;unfold Dj at h4;split at h4
  ·rename_i k j;split at h4
   ·rename_i xs q;split at h4
    ·rename_i n hn;obtain⟨a,ea,ta⟩:=r2.go g3;obtain⟨vs,ev,rv⟩:=g3.wr.at_ k a _ ta q;have ei:vi=.int j:=r3;refine⟨a,vs,j,n,ea,ei,ev,by rw[<-aA rv];exact hn,?_⟩;have gs:=uj (ds:=xs) g3.wr ta (yA (r1.go (g2.trans g3)) n rv);exact h4 σ θ3 _ gs ((((hd.go g1).go g2).go g3).go gs)
    ·exact h4.elim
   ·exact h4.elim
  ·exact h4.elim
end
mutual
def HM:D->D->Bool
 | .non,.non=>true
 | .bl a,.bl b=>a==b
 | .int a,.int b=>a==b
 | .str a,.str b=>a==b
 | .tup a,.tup b=>nA a b
 | .lst a,.lst b=>nA a b
 | .ro a,.ro b=>nA a b
 | .mr a,.mr b=>a==b
 | .exc a,.exc b=>a==b
 | .any,.any=>true
 | _,_=>false
def nA:List D->List D->Bool
 | [],[]=>true
 | a::as,b::bs=>HM a b&&nA as bs
 | _,_=>false
end
def ff {P:Prop}(h:false=true):P:=absurd h Bool.false_ne_true
mutual
theorem IC:∀(a b:D),HM a b=true->a=b
 | .non,b,h=>by
  cases b with
  | non=>rfl
  | _=>exact ff h
 | .bl x,b,h=>by
  cases b with
  | bl y=>rw[eq_of_beq (show(x==y)=true from h)]
  | _=>exact ff h
 | .int x,b,h=>by
  cases b with
  | int y=>rw[eq_of_beq (show(x==y)=true from h)]
  | _=>exact ff h
 | .str x,b,h=>by
  cases b with
  | str y=>rw[eq_of_beq (show(x==y)=true from h)]
  | _=>exact ff h
 | .tup x,b,h=>by
  cases b with
  | tup y=>rw[mh x y h]
  | _=>exact ff h
 | .lst x,b,h=>by
  cases b with
  | lst y=>rw[mh x y h]
  | _=>exact ff h
 | .ro x,b,h=>by
  cases b with
  | ro y=>rw[mh x y h]
  | _=>exact ff h
 | .mr x,b,h=>by
  cases b with
  | mr y=>rw[eq_of_beq (show(x==y)=true from h)]
  | _=>exact ff h
 | .exc x,b,h=>by
  cases b with
  | exc y=>rw[eq_of_beq (show(x==y)=true from h)]
  | _=>exact ff h
 | .any,b,h=>by
  cases b with
  | any=>rfl
  | _=>exact ff h
theorem mh:∀(a b:List D),nA a b=true->a=b
 | [],b,h=>by
  cases b with
  | nil=>rfl
  | cons _ _=>exact ff h
 | x::xs,b,h=>by
  cases b with
  | nil=>exact ff h
  | cons y ys=>
   have h:=Bool.and_eq_true_iff.mp (show(HM x y&&nA xs ys)=true from h);rw[IC x y h.1,mh xs ys h.2]
end
mutual
theorem B9:∀(a:D),HM a a=true
 | .non=>rfl
 | .bl x=>beq_self_eq_true x
 | .int x=>beq_self_eq_true x
 | .str x=>beq_self_eq_true x
 | .tup x=>g9 x
 | .lst x=>g9 x
 | .ro x=>g9 x
 | .mr x=>beq_self_eq_true x
 | .exc x=>beq_self_eq_true x
 | .any=>rfl
theorem g9:∀(a:List D),nA a a=true
 | []=>rfl
 | x::xs=>Bool.and_eq_true_iff.mpr ⟨B9 x,g9 xs⟩
end
structure uH where
 ds:List D
 m:Option Nat
def uH.ok (t:uH)(M:az):Bool:=match t.m with
 | none=>true
 | some i=>match M[i]? with
  | some (.lst xs)=>nA xs t.ds
  | _=>false
abbrev GI:=bK->az->aX uH
def Ip (K:W.Frag)(J:It)(θ:List Addr)(H:Hp)(t:uH):Prop:=∀θ1 H1 M1,Go K θ H θ1 H1 M1->t.ok M1=true->∀i:Nat,
 (∀d,t.ds[i]?=Z d->J.go i H1/\∀x H2,J.yld i H1 x H2->Go K θ1 H1 θ1 H2 M1/\dC K θ1 H2 d x)/\(t.ds.length<=i->J.stop i H1)
def EH (X:Cx)(θ:List Addr)(H:Hp)(R:It->Hp->Prop):aX uH->Prop
 | .ok t M'=>∀J θ' H',Go X.K θ H θ' H' M'->Ip X.K J θ' H' t->R J H'
 | .err c M'=>fJ X θ H c M'
 | .bad=>False
def tI (X:Cx)(g:GI):TI:=λσ H R=>∃ρ θ M,j9 X.K θ H σ ρ/\Wr X.K θ H M/\EH X θ H R (g ρ M)
def v7 (d:D)(M:az):aX uH:=match d with
 | .lst ds=>.ok ⟨ds,Y⟩ M
 | .ro ds=>.ok ⟨ds,Y⟩ M
 | .tup ds=>.ok ⟨ds,Y⟩ M
 | .mr k=>match M[k]? with
  | some (.lst ds)=>.ok ⟨ds,Z k⟩ M
  | _=>.bad
 | _=>.bad
def cj (g:GE):GI:=λρ M=>(g ρ M).bind v7
variable{body:List Stmt}
section
variable {X:Cx}{tg:Expr}
def OF {l:Expr}{tl:TE}(hl:PE X l tl):PI X tg l (λσ H R=>tl σ H λx H1=>∃a,x=.ref a/\(((∃xs,nj X.K H1 a xs)/\R (QQ X.K a) H1)\/((∃xs,rF X.K H1 a xs)/\R (R4 X.K a) H1))):=by
 intro ag s σ H R I h;refine cK (hl ag s σ H _ I h) λv s1 hxx=>?_
 obtain⟨x,H1,I1,r1,q1⟩:=hxx;obtain⟨a,e,q1⟩:=q1;subst e;cases r1;rcases q1 with⟨⟨xs,hq⟩,q⟩|⟨⟨xs,hq⟩,q⟩
 ·obtain⟨its,rv,p,hz⟩:=I1.list hq;refine wpAny_pyIter_list p.isList ?_;refine⟨s1.heap.objs.size,[s1.heap.objs.size],_,_,H1,rfl,I1.kept (t':=s1.toks) λb o e=>Heap.get?_push_of_some _ e,Cs a _,⟨_,Heap.get?_push_size _ rfl,rfl,rfl⟩,λb hb=>?_,q⟩;have e:b=s1.heap.objs.size:=by simpa using hb
  subst e;exact I1.fpOk (Nat.le_refl _) (I1.hok.fresh (Nat.le_refl _))
 ·obtain⟨its,rv,p,hz⟩:=I1.tuple hq;refine wpAny_pyIter_tuple (show s1.heap.IsTuple a its.toArray from p) ?_;refine⟨s1.heap.objs.size,[s1.heap.objs.size],_,_,H1,rfl,I1.kept (t':=s1.toks) λb o e=>Heap.get?_push_of_some _ e,Az a _,⟨_,Heap.get?_push_size _ rfl,rfl,rfl⟩,λb hb=>?_,q⟩;have e:b=s1.heap.objs.size:=by simpa using hb
  subst e;exact I1.fpOk (Nat.le_refl _) (I1.hok.fresh (Nat.le_refl _))
def AY (ta:uU K θ H a vs)(r:bt K θ H ds vs):Ip K (QQ K a) θ H ⟨ds,Y⟩:=by
 intro θ1 H1 M1 g _ i;have t1:=(ta.grow g.toGrow).sq;have r1:=r.go g;refine⟨λd e=>?_,λhl=>⟨vs,t1,by rw[<-aA r1];exact hl⟩⟩;obtain⟨v,e1,rv⟩:=gQ r1 e;refine⟨⟨vs,v,t1,e1⟩,λx H2 y=>?_⟩;obtain⟨eH,y⟩:=y;subst eH;have e2:=y vs t1;rw[e1] at e2;cases e2;exact⟨.refl g.wr,rv⟩
def G7 (ta:ou K θ H a vs)(r:bt K θ H ds vs):Ip K (R4 K a) θ H ⟨ds,Y⟩:=by
 intro θ1 H1 M1 g _ i;have t1:=(ta.grow g.toGrow).sq;have r1:=r.go g;refine⟨λd e=>?_,λhl=>⟨vs,t1,by rw[<-aA r1];exact hl⟩⟩;obtain⟨v,e1,rv⟩:=gQ r1 e;refine⟨⟨vs,v,t1,e1⟩,λx H2 y=>?_⟩;obtain⟨eH,y⟩:=y;subst eH;have e2:=y vs t1;rw[e1] at e2;cases e2;exact⟨.refl g.wr,rv⟩
def HW {k:Nat}(ta:θ[k]?=Z a):Ip K (QQ K a) θ H ⟨ds,Z k⟩:=by
 intro θ1 H1 M1 g hok i;have t1:θ1[k]?=Z a:=by
  obtain⟨m,em,_⟩:=g.ext;rw[em,getElem?_append_left (List.getElem?_eq_some_iff.mp ta).1];exact ta
 have hok':(match M1[k]? with|some (.lst xs)=>nA xs ds|_=>false)=true:=hok;cases q:M1[k]? with
 | none=>rw[q] at hok';cases hok'
 | some m=>
  cases m with
  | lst xs=>
   rw[q] at hok';have e:xs=ds:=mh xs ds hok';subst e;obtain⟨vs,hv,r1⟩:=g.wr.at_ k a _ t1 q;have s1:nj K H1 a vs:=.inl (.inl hv);refine⟨λd e=>?_,λhl=>⟨vs,s1,by rw[<-aA r1];exact hl⟩⟩;obtain⟨v,e1,rv⟩:=gQ r1 e;refine⟨⟨vs,v,s1,e1⟩,λx H2 y=>?_⟩;obtain⟨eH,y⟩:=y;subst eH;have e2:=y vs s1;rw[e1] at e2;cases e2;exact⟨.refl g.wr,rv⟩
  | _=>rw[q] at hok';cases hok'
def NP {l:Expr}(hl:PE X l (tE X g)):PI X tg l (tI X (cj g)):=by
 intro ag s σ H R I h;refine OF hl ag s σ H R I ?_;obtain⟨ρ,θ,M,hd,hw,h⟩:=h;refine bD hd hw (EH X θ H R) (λc M' h=>h) (λh=>h) h λd M1 v θ1 H1 g1 r1 h1=>?_
 cases d with
 | lst ds=>
  obtain⟨a,vs,e,ta,r⟩:=r1;exact⟨a,e,.inl ⟨⟨vs,ta.sq⟩,h1 _ θ1 H1 g1 (AY (.inl ⟨.inl ta.1,ta.2⟩) r)⟩⟩
 | ro ds=>
  obtain⟨a,vs,e,ta,r⟩:=r1;exact⟨a,e,.inl ⟨⟨vs,ta.sq⟩,h1 _ θ1 H1 g1 (AY ta r)⟩⟩
 | tup ds=>
  obtain⟨a,vs,e,ta,r⟩:=r1;exact⟨a,e,.inr ⟨⟨vs,ta.sq⟩,h1 _ θ1 H1 g1 (G7 ta r)⟩⟩
 | mr k=>
  obtain⟨a,e,ta⟩:=r1;have h2:EH X θ H R (match M1[k]? with|some (.lst ds)=>.ok ⟨ds,Z k⟩ M1|_=>.bad):=h1;cases q:M1[k]? with
  | none=>rw[q] at h2;exact h2.elim
  | some m=>
   cases m with
   | lst ds=>
    rw[q] at h2;obtain⟨vs,hv,r⟩:=g1.wr.at_ k a _ ta q;exact⟨a,e,.inl ⟨⟨vs,.inl (.inl hv)⟩,h2 _ θ1 H1 g1 (HW ta)⟩⟩
   | _=>rw[q] at h2;exact h2.elim
 | _=>exact h1.elim
def bj (lo:Int)(n:Nat):List D:=(List.range n).map λ(k:Nat)=>D.int (lo+(k:Int))
def Jj (lo:Int)(n:Nat):Ip K (QZ lo n) θ H ⟨bj lo n,Y⟩:=by
 intro θ1 H1 M1 g _ i;refine⟨λd e=>?_,λhl=>?_⟩
 ·have hi:i<n:=by
   have:=(List.getElem?_eq_some_iff.mp e).1;simpa[bj] using this
  refine⟨hi,λx H2 y=>?_⟩;obtain⟨eH,y⟩:=y;subst eH;refine⟨.refl g.wr,?_⟩;have e':D.int (lo+(i:Int))=d:=by
   have:(bj lo n)[i]?=Z (D.int (lo+(i:Int))):=by simp[bj,hi]
   rw[this] at e;exact Option.some.inj e
  subst e';exact y
 ·have h2:(bj lo n).length<=i:=hl;have h3:n<=i:=by simpa[bj] using h2
  exact h3
def Ed (ds:List D)(M:az):aX uH:=match ds with
 | [.int j]=>if -(2 ^ 62)<=j/\j<2 ^ 62 then .ok ⟨bj 0 j.toNat,Y⟩ M else .bad
 | _=>.bad
def dQ (g:GA):GI:=λρ M=>(g ρ M).bind Ed
def B4 {a:Expr}{g:GA}{p pos:Pos}(hg:Gl X "range")(hm:X.mg "range"=Y)(ha:PA X [a] (tA X g))(hs:starEach [a] X.env=[(false,eval a X.env)]:=by rfl):PI X tg (.Call (.Name "range" p) [a] [] pos) (tI X (dQ g)):=by
 intro ag s σ H R I h;refine Dg hg hm ha hs ag s σ H R I ?_;obtain⟨ρ,θ,M,hd,hw,h⟩:=h;refine lJ hd hw (EH X θ H R) (λc M' h=>h) (λh=>h) h λds M1 vs θ1 H1 g1 r1 h1=>?_
 unfold Ed at h1;split at h1
 ·rename_i j;obtain⟨v,r,e,rv,rr⟩:=r1;have e2:r=[]:=rr;have e3:v=.int j:=rv;subst e2;subst e3;split at h1
  ·rename_i hj;exact⟨j,e,hj.1,hj.2,h1 _ θ1 H1 g1 (Jj 0 j.toNat)⟩
  ·exact h1.elim
 ·exact h1.elim
def fW (t:uH)(s:GG)(body:GS):List D->bK->az->aX Fl
 | [],ρ,M=>if t.ok M then .ok (.nx ρ) M else .bad
 | d::r,ρ,M=>if t.ok M then
   match s d ρ with
   | none=>.bad
   | some ρ1=>(body ρ1 M).bind λf M1=>match f with
    | .nx ρ2=>fW t s body r ρ2 M1
    | .ct ρ2=>fW t s body r ρ2 M1
    | .bk ρ2=>.ok (.nx ρ2) M1
    | .rt d=>.ok (.rt d) M1
  else .bad
def js (gi:GI)(s:GG)(body:GS):GS:=λρ M=>(gi ρ M).bind λt M1=>fW t s body t.ds ρ M1
def LM {iter:Expr}{gi:GI}{sg:GG}{gb:GS}{pos:Pos}(hp:PassesOwn (model X.prog X.w) X.A X.env X.xe)(hc:X.calm=true)(hi:PI X tg iter (tI X gi))(hg:PG X tg (tG X sg))(hb:PSs X body (tS X gb))
  (hs:∀x,foldedSetIterable iter X.env x=pure x:=by intro _;rfl):PS X (.For tg iter body [] pos) (tS X (js gi sg gb)):=(Mn hp hc hi hg hb hs).of λD σ H hxx=>by
 obtain⟨ρ,θ,M,hd,hw,h⟩:=hxx;refine⟨ρ,θ,M,hd,hw,?_⟩;unfold js at h;cases q:gi ρ M with
 | err c M1=>rw[q] at h;exact h
 | bad=>rw[q] at h;exact h
 | ok t M1=>
  rw[q] at h;intro J θ1 H1 g1 hJ;have h:bZ X θ H D (fW t sg gb t.ds ρ M1):=h;refine⟨λi m σ' H'=>m=t.ds.length-i/\i<=t.ds.length/\∃ρ' θ' M',Go X.K θ1 H1 θ' H' M'/\j9 X.K θ' H' σ' ρ'/\bZ X θ' H' D (fW t sg gb (t.ds.drop i) ρ' M'),
   ⟨t.ds.length,by simp,Nat.zero_le _,ρ,θ1,M1,.refl g1.wr,hd.go g1,bZ.go g1 h⟩,?_⟩
  rintro i m σ' H' ⟨rfl,hil,ρ',θ',M',g',hd',h'⟩
  by_cases hok:t.ok M'=true
  ·obtain⟨hy,hst⟩:=hJ θ' H' M' g' hok i
   by_cases hlt:i<t.ds.length
   ·refine .inr ?_;have e1:t.ds[i]?=Z t.ds[i]:=getElem?_eq_getElem hlt;obtain⟨hgo,hyl⟩:=hy _ e1;rw[drop_eq_getElem_cons hlt,fW,if_pos hok] at h';refine⟨hgo,λσ2 H2=>∃ρ2 θ2 M2,Go X.K θ' H' θ2 H2 M2/\j9 X.K θ2 H2 σ2 ρ2/\bZ X θ2 H2 D (fW t sg gb (t.ds.drop (i+1)) ρ2 M2),λσ2 H2 ⟨ρ2,θ2,M2,g2,d2,h2⟩=>?_,λx H2 y=>?_⟩
    ·exact⟨t.ds.length-(i+1),by omega,rfl,hlt,ρ2,θ2,M2,g'.trans g2,d2,h2⟩
    ·obtain⟨gy,rx⟩:=hyl x H2 y;cases qs:sg t.ds[i] ρ' with
     | none=>rw[qs] at h';exact h'.elim
     | some ρ1=>
      rw[qs] at h';refine⟨ρ',θ',M',_,hd'.go gy,gy.wr,rx,ρ1,qs,λσ1 d1=>⟨ρ1,θ',M',d1,gy.wr,?_⟩⟩;have h':bZ X θ' H2 D ((gb ρ1 M').bind _):=bZ.go gy h';cases qb:gb ρ1 M' with
      | err c M2=>rw[qb] at h';exact h'
      | bad=>rw[qb] at h';exact h'
      | ok f M2=>
       rw[qb] at h';cases f with
       | nx ρ2=>exact λσ2 θ2 H3 g2 d2=>⟨ρ2,θ2,M2,gy.trans g2,d2,bZ.go g2 h'⟩
       | ct ρ2=>exact λσ2 θ2 H3 g2 d2=>⟨ρ2,θ2,M2,gy.trans g2,d2,bZ.go g2 h'⟩
       | bk ρ2=>exact h'
       | rt d=>exact h'
   ·have e:i=t.ds.length:=by omega
    subst e;rw[drop_length,fW,if_pos hok] at h';exact .inl ⟨hst (Nat.le_refl _),h' σ' θ' H' (.refl g'.wr) hd'⟩
  ·have hz:bZ X θ' H' D .bad:=by
    cases hdr:t.ds.drop i with
    | nil=>rw[hdr,fW,if_neg hok] at h';exact h'
    | cons d r=>rw[hdr,fW,if_neg hok] at h';exact h'
   exact hz.elim
end
def FZ (K:W.Frag)(θ:List Addr)(H:Hp)(E:XK)(c:Str)(M:az):Prop:=∀C θ' H' a,dR K c C->Go K θ H θ' H' M->E (.ref C) (Z a) H'
def zR (K:W.Frag)(θ:List Addr)(H:Hp)(Q:VK)(E:XK):aX D->Prop
 | .ok d M'=>∀v θ' H',Go K θ H θ' H' M'->dC K θ' H' d v->Q v H'
 | .err c M'=>FZ K θ H E c M'
 | .bad=>False
abbrev FD:=List D->az->aX D
def og (K:W.Frag)(n:Nat)(F:FD):Sp:=λvs H Q E=>∃θ M ds,ds.length=n/\bt K θ H ds vs/\Wr K θ H M/\zR K θ H Q E (F ds M)
variable{F:FD}{ps:List Str}
def oG (hn:ps.length=n):∀vs H Q E,og K n F vs H Q E->vs.length=ps.length:=λvs H Q E ⟨θ,M,ds,hl,r,_⟩=>by rw[hn,<-hl,aA r]
def mI (k:Nat)(ds:List D):bK:=ds.map Z++List.replicate k Y
def aC (o:aX Fl):aX D:=o.bind λf M=>match f with
 | .rt d=>.ok d M
 | .nx _=>.ok .non M
 | _=>.bad
def bn (k:Nat)(g:GS):FD:=λds M=>aC (g (mI k ds) M)
def Nh (r:bt K θ H ds vs)(N:List Str):j9 K θ H (L2.start N vs) (mI (N.length-vs.length) ds):=by
 have hl:=aA r;refine⟨by simp[L2.start,mI,hl],λi d e=>?_⟩;unfold mI at e
 by_cases hi:i<ds.length
 ·rw[getElem?_append_left (by simpa using hi),getElem?_map] at e;cases q:ds[i]? with
  | none=>rw[q] at e;cases e
  | some d'=>
   rw[q] at e;have e':d'=d:=by simpa using e
   subst e';obtain⟨v,e1,rv⟩:=gQ r q;refine⟨v,?_,rv⟩;unfold L2.start;rw[getElem?_append_left (by rw[length_map,<-hl];exact hi),getElem?_map,e1];rfl
 ·rw[getElem?_append_right (by simpa using hi),getElem?_replicate] at e;split at e <;> cases e
variable{fd:FuncData}
section
variable {P:Program}{w:World}{K:W.Frag}{mg:Str->Option Value}{base:Heap}
def Sd {qual:Str}{st:Stmt}{N:List Str}{k:Nat}{g:GS}(F:HJ K x qual st f fd)(S:ft N ps (aR st))(hn:ps.length=n)
  (hbody:∀(cdv:Value) (A:Around) (outer:List Env) (s:Shared) (H:Hp) (E:XK),bM k (A.deeper (envOfC qual (aR st) s.heap.objs.size f cdv))->
   PSs (iy (iz P w) P w K mg base N qual (aR st) f cdv A outer s H E) (cW st) (tS (iy (iz P w) P w K mg base N qual (aR st) f cdv A outer s H E) g)) :
  eB P w K mg base (iz P w) (k+1) f fd ps (og K n (bn (N.length-n) g)):=by
 obtain⟨oc,od,kV,doc,pm,an,cdv,ct,osl,rfl,lk,hcd⟩:=F.ex;refine JR lk hcd S (oG hn) λA outer s H vs Q E hr h=>⟨_,hbody cdv A outer s H E hr,?_⟩
 obtain⟨θ,M,ds,hl,r,hw,h⟩:=h;have hv:vs.length=n:=by rw[<-aA r];exact hl
 refine⟨mI (N.length-n) ds,θ,M,by rw[<-hv];exact Nh r N,hw,?_⟩;have h:zR K θ H Q E (aC (g (mI (N.length-n) ds) M)):=h;unfold aC at h;cases q:g (mI (N.length-n) ds) M with
 | bad=>rw[q] at h;exact h
 | err c M1=>
  rw[q] at h;have h:FZ K θ H E c M1:=h;exact λC θ' H' a s' kC g1 fl=>nW fl (h C θ' H' a kC g1)
 | ok fl M1=>
  rw[q] at h;cases fl with
  | rt d=>exact h
  | nx ρ1=>exact λσ1 θ1 H1 g1 _=>h .non θ1 H1 g1 rfl
  | bk ρ1=>exact h.elim
  | ct ρ1=>exact h.elim
end
variable{T:String}
section
variable {X:Cx}{e:Expr}{es:List Expr}{x:Str}{p pos:Pos}{k n:Nat}{f:Addr}{fd:FuncData}{ps:List Str}{F:FD}{ga:GA}
def aj (n:Nat)(F:FD)(ga:GA):GE:=λρ M=>(ga ρ M).bind λds M1=>if ds.length=n then F ds M1 else .bad
def Jq (X:Cx):XK:=λcls oa H'=>∃a C c θ M,oa=Z a/\cls=.ref C/\dR X.K c C/\Wr X.K θ H' M/\fJ X θ H' c M
def jG:nT (iz X.prog X.w) X (Jq X):=λag σ H s e s' I h=>by
 obtain⟨a,C,H',rfl,fl,a',C',c,θ,M,e1,e2,kC,hw,ok⟩:=BY I h;cases e1;cases e2;exact ok C θ H' a s' kC (.refl hw) fl
def xF {c:Str}(h:fJ X θ H c M):FZ X.K θ H (Jq X) c M:=λC θ' H' a kC g=>⟨a,C,c,θ',M,rfl,rfl,kC,g.wr,h.go g⟩
def Jm (Fn:eB X.prog X.w X.K X.mg X.base (iz X.prog X.w) k f fd ps (og X.K n F))(hr:bM k X.A)(hg:Gl X x)(hm:X.mg x=Z (.ref f))(hk:W.keepIn X.K (.ref f)=true)(hb:fz X.K fd ps [])
  (ha:PA X (e::es) (tA X ga)) (hdb:(x==("__debug__":Str))=false:=by decide) (he:starEach (e::es) X.env=(false,eval e X.env)::starEach es X.env:=by rfl) (hpl:(backTo pos (starEach es X.env)).any (·.1)=false:=by rfl) :
  PE X (.Call (.Name x p) (e::es) [] pos) (tE X (aj n F ga)):=(HG Fn hr hg hm hk hb .nil jG ha hdb he hpl).of λσ H Q hxx=>by
 obtain⟨ρ,θ,M,hd,hw,h⟩:=hxx;refine lJ hd hw (aM X θ H Q) (λc M' h=>h) (λh=>h) h λds M1 vs θ1 H1 g1 r1 h1=>?_
 by_cases hl:ds.length=n
 ·rw[if_pos hl] at h1;refine⟨θ1,M1,ds,hl,by rw[append_nil];exact r1,g1.wr,?_⟩;have h2:=aM.go g1 h1;cases q:F ds M1 with
  | ok d M2=>rw[q] at h2;exact h2
  | err c M2=>rw[q] at h2;exact xF h2
  | bad=>rw[q] at h2;exact h2
 ·rw[if_neg hl] at h1;exact h1.elim
def rC (X:Cx)(F:FD):List V->Hp->VK->Prop:=λxs H Q=>∃θ M ds,Wr X.K θ H M/\bt X.K θ H ds xs/\aM X θ H Q (F ds M)
def aQ (F:FD)(ga:GA):GE:=λρ M=>(ga ρ M).bind F
def ER {Q:VK}(h:tE X (aQ F ga) σ H Q):Q1 (rC X F) (tA X ga) σ H Q:=by
 obtain⟨ρ,θ,M,hd,hw,h⟩:=h;exact lJ hd hw (aM X θ H Q) (λc M' h=>h) (λh=>h) h λds M1 vs θ1 H1 g1 r1 h1=>⟨θ1,M1,ds,g1.wr,r1,aM.go g1 h1⟩
def FV {id:String}(hc:d9 X (.builtin id) (rC X F))(hg:Gl X x)(hm:X.mg x=Y)(hv:bootBuiltins x=Z (.builtin id))(ha:PA X (e::es) (tA X ga))(hn:x≠"__name__":=by decide)(hdb:(x==("__debug__":Str))=false:=by decide)
  (he:starEach (e::es) X.env=(false,eval e X.env)::starEach es X.env:=by rfl) (hpl:(backTo pos (starEach es X.env)).any (·.1)=false:=by rfl):PE X (.Call (.Name x p) (e::es) [] pos) (tE X (aQ F ga)):=
 (ph hc hg hm hv ha hn hdb he hpl).of λσ H Q h=>ER h
def Cd (hc:d9 X (.type T) (rC X F))(hg:Gl X x)(hm:X.mg x=Y)(hv:bootBuiltins x=Z (.type T))(ha:PA X (e::es) (tA X ga))(hn:x≠"__name__":=by decide)(hdb:(x==("__debug__":Str))=false:=by decide)
  (he:starEach (e::es) X.env=(false,eval e X.env)::starEach es X.env:=by rfl) (hpl:(backTo pos (starEach es X.env)).any (·.1)=false:=by rfl):PE X (.Call (.Name x p) (e::es) [] pos) (tE X (aQ F ga)):=
 (CW hc hg hm hv ha hn hdb he hpl).of λσ H Q h=>ER h
end
variable{items:Array Value}
section
variable {prog:Program}{w:World}{A:Around}{E:Value->Shared->Prop}{s:Shared}
def GH {t b:Addr}{ws:List Value}{Q:Value->Shared->Prop}(ht:IsTup s.heap t #[])(hb:IsTup s.heap b ws.toArray)
  (h:Q (.ref b) s):wpAny (model prog w) A (binaryOp .Add (.ref t) (.ref b)) Q E s:=by
 obtain⟨⟨cls,dd,data,sl⟩,ho,hc,n,hd⟩:=id ht;obtain⟨⟨cls2,dd2,data2,sl2⟩,ho2,hc2,n2,hd2⟩:=id hb;simp only at hc hd hc2 hd2;subst hc hd hc2 hd2;exact concat_meets ⟨_,ho,rfl⟩ ⟨_,ho2,rfl⟩ noFill_tuple_add seq_tuple_add PySem.F.slot_tuple_add PySem.F.entry_tuple_add (PySem.F.args_tuple_add_2 _ _)
   (tuple_addW0 t b #[] ws.toArray n n2 dd dd2 sl sl2 (by simp)) ⟨ho,ho2,h⟩
def nr {t sl:Addr}{vl vu:Value}{lo hi:Option Int}{Q:Value->Shared->Prop}(ht:IsTup s.heap t items)(hs:s.heap.IsSliceOf sl vl vu .none)(pl:IsPart vl lo)(pu:IsPart vu hi)
  (hw:HT.sIx items.size 0 lo=0/\HT.sIx items.size items.size hi=items.size) (h:Q (.ref t) s):wpAny (model prog w) A (getItem (.ref t) (.ref sl)) Q E s:=by
 obtain⟨os,hos,hcs,hds⟩:=id hs;have hTs:s.TypeIs (.ref sl) "slice":=⟨os,hos,hcs⟩;unfold getItem
 try with_reducible refine wpAny_holding ?_
 first|refine wpAny_bind (wpAny_pure ?_)|skip
 refine wpAny_bind (wpAny_sequenceKey ht.typeIs (by decide) ?_);refine wpAny_bind (wpAny_callSpecial?_slot (name:=Str.ofString "__getitem__") ht.typeIs PyProof.Rows.slot_tuple_getitem
  (wpAny_call_entry PyProof.Rows.slot_tuple_getitem ht.typeIs entry_tuple_getitem ?_ (args_tuple_getitem _ _)))
 show wpAny _ _ (Builtin.Tuple.tupleItemsOf (.ref t) >>= _) _ _ s;refine wpAny_bind (tupleItemsOf_ ht ?_);refine wpAny_bind (wpAny_typeOf hTs ?_);rw[if_pos (by decide)];refine wpAny_bind (HT.sliceApplied_gen hs pl pu ?_);have hyes:(((HT.sIx items.size 0 lo:Nat):Int)==0&&(1:Int)==1&&(HT.sIx items.size items.size hi-HT.sIx items.size 0 lo)==items.size)=true:=by
  rw[hw.1,hw.2];simp
 show wpAny _ _ (if(((HT.sIx items.size 0 lo:Nat):Int)==0&&(1:Int)==1&&(HT.sIx items.size items.size hi-HT.sIx items.size 0 lo)==items.size)=true then _ else _) _ _ s;rw[if_pos hyes];unfold Builtin.Tuple.tupleIsExact;refine wpAny_bind (wpAny_bind (wpAny_typeOf ht.typeIs (wpAny_pure ?_)));rw[if_pos (by decide)]
 first
  | exact wpAny_bind (wpAny_rule (wpAny_bind (wpAny_pure ⟨_,rfl,wpAny_pure h⟩)))
  | exact wpAny_bind (wpAny_rule (wpAny_pure ⟨_,rfl,wpAny_pure h⟩))
  | exact wpAny_bind (wpAny_rule (wpAny_bind (wpAny_pure (wpAny_pure ⟨_,rfl,wpAny_pure h⟩))))
end
def qt (d:D)(M:az):Option (List D):=match d with
 | .lst xs=>Z xs
 | .mr k=>match M[k]? with
  | some (.lst xs)=>Z xs
  | _=>Y
 | _=>Y
def bC:F2:=λx y M=>match x,y with
 | .int i,.int j=>.ok (.int (i+j)) M
 | .str a,.str b=>if a.length+b.length<=sizeLine then .ok (.str (a++b)) M else .bad
 | .tup a,.tup b=>if a.length+b.length<=sizeLine then .ok (.tup (a++b)) M else .bad
 | .bl a,.int j=>.ok (.int ((if a=true then 1 else 0)+j)) M
 | x,y=>match qt x M,qt y M with
  | some a,Z b=>if a.length+b.length<=sizeLine then .ok (.lst (a++b)) M else .bad
  | _,_=>.bad
def wO:F2:=λx y M=>match qt x M,qt y M with
 | some a,Z b=>if a.length+b.length<=sizeLine then .ok (.mr M.length) (M++[.lst (a++b)]) else .bad
 | _,_=>.bad
def sP {xs:List D}(hw:Wr K θ H M)(r:dC K θ H d v)(e:qt d M=Z xs):∃a vs,v=.ref a/\H a=Z (.lst vs)/\bt K θ H xs vs:=by
 cases d with
 | lst ys=>cases e;obtain⟨a,vs,ea,ta,ra⟩:=r;exact⟨a,vs,ea,ta.1,ra⟩
 | mr k=>
  obtain⟨a,ea,ta⟩:=r;have e:(match M[k]? with|some (.lst xs)=>Z xs|_=>Y)=Z xs:=e;cases q:M[k]? with
  | none=>rw[q] at e;cases e
  | some m=>
   cases m with
   | lst ys=>
    rw[q] at e;cases e;obtain⟨vs,hv,ra⟩:=hw.at_ k a _ ta q;exact⟨a,vs,ea,hv,ra⟩
   | _=>rw[q] at e;cases e
 | _=>cases e
def eY:F2:=λx y M=>match x,y with
 | .int i,.int j=>.ok (.int (i-j)) M
 | _,_=>.bad
def gf:F2:=λx y M=>match x,y with
 | .int i,.int j=>if(-(2 ^ 64)<i/\i<2 ^ 64)\/(-(2 ^ 64)<j/\j<2 ^ 64) then .ok (.int (i*j)) M else .bad
 | _,_=>.bad
def iE:F2:=λx y M=>match x,y with
 | .int i,.int j=>if 0<j/\j.natAbs.log2<9000 then .ok (.int (i / j)) M else .bad
 | _,_=>.bad
def gV:F2:=λx y M=>match x,y with
 | .int i,.int j=>if 0<j then .ok (.int (i % j)) M else .bad
 | _,_=>.bad
def oB:F2:=λx y M=>match x,y with
 | .int i,.int j=>if 0<=j/\j<=1000000/\i.natAbs<2 ^ 64 then .ok (.int (i ^ j.toNat)) M else .bad
 | _,_=>.bad
variable{u:Value}{b:Bool}{e:Expr}
section
variable {X:Cx}
def Lz:iV X (binaryOp .Add) (rD X bC):=by
 intro ag s σ H x y v u Q I rx ry h;obtain⟨θ,M,dx,dy,hw,r1,r2,h⟩:=h;unfold bC at h;split at h
 ·rename_i i j;exact Ml ag s σ H x y v u Q I rx ry ⟨i,j,r1,r2,h _ θ H (.refl hw) rfl⟩
 ·rename_i a b;split at h
  ·rename_i hl;exact zK ag s σ H x y v u Q I rx ry ⟨a,b,r1,r2,hl,h _ θ H (.refl hw) rfl⟩
  ·exact h.elim
 ·rename_i as bs;split at h
  ·rename_i hl;obtain⟨a,vs,ea,ta,ra⟩:=r1;obtain⟨b,us,eb,tb,rb⟩:=r2
   by_cases hv:vs=[]
   ·subst hv;have e0:as=[]:=length_eq_zero_iff.mp (aA ra);subst e0;subst ea;subst eb;cases rx;cases ry;obtain⟨its,q1,p1,_⟩:=I.tuple ta.sq;obtain⟨its2,q2,p2,_⟩:=I.tuple tb.sq;cases q1;exact GH p1 p2 ⟨.ref b,H,I,rfl,h _ θ H (.refl hw) ⟨b,us,rfl,tb,rb⟩⟩
   ·refine HL ag s σ H x y v u Q I rx ry ⟨a,b,vs,us,ea,eb,ta.sq,tb.sq,hv,by rw[<-aA ra,<-aA rb];exact hl,λhu=>?_,λ_ p hp=>h _ θ _ (dX hw hp) (iJ hw hp (ck ra rb))⟩;subst hu;have e0:bs=[]:=length_eq_zero_iff.mp (aA rb);subst e0;exact h _ θ H (.refl hw) ⟨a,vs,rfl,ta,by rw[append_nil];exact ra⟩
  ·exact h.elim
 ·rename_i a j;have e1:x=.bl a:=r1;have e2:y=.int j:=r2;subst e1;subst e2;cases rx;obtain⟨t',rfl⟩:=ry;exact IntBool.add_bool_int ⟨.int _,H,I.tok _,⟨_,rfl⟩,h _ θ H (.refl hw) rfl⟩
 ·split at h
  ·rename_i as bs q1 q2;split at h
   ·rename_i hl;obtain⟨a,vs,ea,ta,ra⟩:=sP hw r1 q1;obtain⟨b,us,eb,tb,rb⟩:=sP hw r2 q2;exact EU ag s σ H x y v u Q I rx ry ⟨a,b,vs,us,ea,eb,ta,tb,by rw[<-aA ra,<-aA rb];exact hl,λp hp=>h _ θ _ (dX hw hp) (jx hw hp (ck ra rb))⟩
   ·exact h.elim
  ·exact h.elim
def oQ {H':Hp}{p:Addr}(hw:Wr K θ H M):dC K (θ++[p]) H' (.mr M.length) (.ref p):=by
 refine⟨p,rfl,?_⟩;rw[<-hw.len,getElem?_append_right (Nat.le_refl _)];simp
def Ig:iV X (binaryOp .Add) (rD X wO):=by
 intro ag s σ H x y v u Q I rx ry h;obtain⟨θ,M,dx,dy,hw,r1,r2,h⟩:=h;unfold wO at h;split at h
 ·rename_i as bs q1 q2;split at h
  ·rename_i hl;obtain⟨a,vs,ea,ta,ra⟩:=sP hw r1 q1;obtain⟨b,us,eb,tb,rb⟩:=sP hw r2 q2;exact EU ag s σ H x y v u Q I rx ry ⟨a,b,vs,us,ea,eb,ta,tb,by rw[<-aA ra,<-aA rb];exact hl,λp hp=>h _ _ _ (GD hw hp (ck ra rb)) (oQ hw)⟩
  ·exact h.elim
 ·exact h.elim
def Mj:iV X (binaryOp .Sub) (rD X eY):=by
 intro ag s σ H x y v u Q I rx ry h;obtain⟨θ,M,dx,dy,hw,r1,r2,h⟩:=h;unfold eY at h;split at h
 ·rename_i i j;exact KI ag s σ H x y v u Q I rx ry ⟨i,j,r1,r2,h _ θ H (.refl hw) rfl⟩
 ·exact h.elim
def ND:iV X (binaryOp .Mult) (rD X gf):=by
 intro ag s σ H x y v u Q I rx ry h;obtain⟨θ,M,dx,dy,hw,r1,r2,h⟩:=h;unfold gf at h;split at h
 ·rename_i i j;split at h
  ·rename_i hc;exact Kt ag s σ H x y v u Q I rx ry ⟨i,j,r1,r2,hc,h _ θ H (.refl hw) rfl⟩
  ·exact h.elim
 ·exact h.elim
def G1:iV X (binaryOp .FloorDiv) (rD X iE):=by
 intro ag s σ H x y v u Q I rx ry h;obtain⟨θ,M,dx,dy,hw,r1,r2,h⟩:=h;unfold iE at h;split at h
 ·rename_i i j;split at h
  ·rename_i hc;have e1:x=.int i:=r1;have e2:y=.int j:=r2;subst e1;subst e2;obtain⟨t,rfl⟩:=rx;obtain⟨t',rfl⟩:=ry;have h1:(0:Int)<j:=hc.1;exact floordiv_int (by omega) (by rw[Int.fdiv_eq_ediv_of_nonneg i (by omega)];exact⟨.int (i / j),H,I.tok _,⟨_,rfl⟩,h _ θ H (.refl hw) rfl⟩) (.inl (PyProof.noPylong_of_log2 hc.2))
  ·exact h.elim
 ·exact h.elim
def K9:iV X (binaryOp .Mod) (rD X gV):=by
 intro ag s σ H x y v u Q I rx ry h;obtain⟨θ,M,dx,dy,hw,r1,r2,h⟩:=h;unfold gV at h;split at h
 ·rename_i i j;split at h
  ·rename_i hc;exact K2 ag s σ H x y v u Q I rx ry ⟨i,j,r1,r2,hc,h _ θ H (.refl hw) rfl⟩
  ·exact h.elim
 ·exact h.elim
def Kz:iV X (binaryOp .Pow) (rD X oB):=by
 intro ag s σ H x y v u Q I rx ry h;obtain⟨θ,M,dx,dy,hw,r1,r2,h⟩:=h;unfold oB at h;split at h
 ·rename_i i j;split at h
  ·rename_i hc;exact Ni ag s σ H x y v u Q I rx ry ⟨i,j,r1,r2,hc,h _ θ H (.refl hw) rfl⟩
  ·exact h.elim
 ·exact h.elim
def lO (g:GE):GE:=λρ M=>(g ρ M).bind λx M1=>match x with
 | .int i=>.ok (.int (-i)) M1
 | _=>.bad
def NH {a:Expr}(ha:PE X a (tE X g)):PE X (.UnaryOp .USub a pos) (tE X (lO g)):=(Kj Ey ha).of λσ H Q hxx=>by
 obtain⟨ρ,θ,M,hd,hw,h⟩:=hxx;refine bD hd hw (aM X θ H Q) (λc M' h=>h) (λh=>h) h λd M1 v θ1 H1 g1 r1 h1=>?_
 split at h1
 ·rename_i i;exact⟨i,r1,h1 _ θ1 H1 g1 rfl⟩
 ·exact h1.elim
def Nd {a:Expr}(ha:PE X a (tE X g)):PE X (.UnaryOp .Not a pos) (tE X (yE (aI g))):=(Nu ha).of λσ H Q hxx=>by
 obtain⟨ρ,θ,M,hd,hw,h⟩:=hxx;refine⟨ρ,θ,M,hd,hw,?_⟩;unfold yE aI at h;cases q:g ρ M with
 | ok d M1=>
  rw[q] at h;cases d with
  | bl b=>exact λv θ1 H1 g1 r1=>⟨b,r1,h _ θ1 H1 g1 rfl⟩
  | _=>exact h.elim
 | err c M1=>rw[q] at h;exact h
 | bad=>rw[q] at h;exact h
def qK:F2:=λx y M=>match x,y with
 | .int i,.int j=>.ok (.bl (decide (i<j))) M
 | _,_=>.bad
def oj:F2:=λx y M=>match x,y with
 | .int i,.int j=>.ok (.bl (decide (i<=j))) M
 | _,_=>.bad
def xI:F2:=λx y M=>match x,y with
 | .int i,.int j=>.ok (.bl (decide (j<i))) M
 | _,_=>.bad
def ze:F2:=λx y M=>match x,y with
 | .int i,.int j=>.ok (.bl (decide (j<=i))) M
 | _,_=>.bad
def Qk:iV X (compareOp .Lt) (rD X qK):=by
 intro ag s σ H x y v u Q I rx ry h;obtain⟨θ,M,dx,dy,hw,r1,r2,h⟩:=h;unfold qK at h;split at h
 ·rename_i i j;exact Qe ag s σ H x y v u Q I rx ry ⟨i,j,r1,r2,h _ θ H (.refl hw) rfl⟩
 ·exact h.elim
def PB:iV X (compareOp .LtE) (rD X oj):=by
 intro ag s σ H x y v u Q I rx ry h;obtain⟨θ,M,dx,dy,hw,r1,r2,h⟩:=h;unfold oj at h;split at h
 ·rename_i i j;exact Oh ag s σ H x y v u Q I rx ry ⟨i,j,r1,r2,h _ θ H (.refl hw) rfl⟩
 ·exact h.elim
def OV:iV X (compareOp .Gt) (rD X xI):=by
 intro ag s σ H x y v u Q I rx ry h;obtain⟨θ,M,dx,dy,hw,r1,r2,h⟩:=h;unfold xI at h;split at h
 ·rename_i i j;exact O9 ag s σ H x y v u Q I rx ry ⟨i,j,r1,r2,h _ θ H (.refl hw) rfl⟩
 ·exact h.elim
def Qr:iV X (compareOp .GtE) (rD X ze):=by
 intro ag s σ H x y v u Q I rx ry h;obtain⟨θ,M,dx,dy,hw,r1,r2,h⟩:=h;unfold ze at h;split at h
 ·rename_i i j;exact Ps ag s σ H x y v u Q I rx ry ⟨i,j,r1,r2,h _ θ H (.refl hw) rfl⟩
 ·exact h.elim
def Oe (d c:D):Option Bool:=match c,d with
 | .non,.non=>Z true
 | .non,.any=>Y
 | .non,_=>Z false
 | .bl b,.bl b'=>Z (b'==b)
 | .bl _,.non=>Z false
 | .bl _,.int _=>Z false
 | .bl _,.str _=>Z false
 | .bl _,.tup _=>Z false
 | .bl _,.lst _=>Z false
 | .bl _,.ro _=>Z false
 | .bl _,.mr _=>Z false
 | _,_=>Y
def kI (neg:Bool):F2:=λx y M=>match Oe x y with
 | some b=>.ok (.bl (b != neg)) M
 | none=>.bad
def VS:D->Value->Prop
 | .non,v=>v=.none
 | .bl b,v=>v=.bool b
 | .int i,v=>∃t,v=.int i t
 | .str i,v=>∃t,v=.str i t
 | .any,_=>True
 | _,v=>∃a,v=.ref a
def JP {x:V}{v:Value}(r:dC K θ H d x)(q:RelV x v):VS d v:=by
 cases d with
 | non=>have e:x=.non:=r;rw[e] at q;exact q
 | bl b=>have e:x=.bl b:=r;rw[e] at q;exact q
 | int i=>have e:x=.int i:=r;rw[e] at q;exact q
 | str i=>have e:x=.str i:=r;rw[e] at q;exact q
 | any=>trivial
 | tup ds=>obtain⟨a,_,e,_⟩:=r;rw[e] at q;exact⟨a,q⟩
 | lst ds=>obtain⟨a,_,e,_⟩:=r;rw[e] at q;exact⟨a,q⟩
 | ro ds=>obtain⟨a,_,e,_⟩:=r;rw[e] at q;exact⟨a,q⟩
 | mr k=>obtain⟨a,e,_⟩:=r;rw[e] at q;exact⟨a,q⟩
 | exc c=>obtain⟨a,_,e,_⟩:=r;rw[e] at q;exact⟨a,q⟩
def fn {α:Type}{b:α}{P:Prop}(h:Y=Z b):P:=nomatch h
def BA {v:Value}(h:Z false=Z b)(k:plainIs v u=true/\(v==u)=false):plainIs v u=true/\(v==u)=b:=Option.some.inj h▸k
def Pi {dx dy:D}{v:Value}(p:VS dx v)(q:VS dy u)(h:Oe dx dy=Z b):plainIs v u=true/\(v==u)=b:=by
 cases dy with
 | non=>
  rw[show u=.none from q];cases dx with
  | non=>rw[show v=.none from p];exact Option.some.inj (show Z true=Z b from h)▸⟨rfl,rfl⟩
  | bl b=>rw[show v=.bool b from p];exact BA h ⟨rfl,rfl⟩
  | any=>exact fn h
  | _=>obtain⟨t,e⟩:=p;rw[e];exact BA h ⟨rfl,rfl⟩
 | bl c=>
  rw[show u=.bool c from q];cases dx with
  | non=>rw[show v=.none from p];exact BA h ⟨rfl,rfl⟩
  | bl b=>
   rw[show v=.bool b from p,<-Option.some.inj h];refine⟨rfl,?_⟩;cases b <;> cases c <;> rfl
  | any=>exact fn h
  | exc _=>exact fn h
  | _=>obtain⟨t,e⟩:=p;rw[e];exact BA h ⟨rfl,rfl⟩
 | _=>exact fn h
def GU {dx dy:D}{x y:V}{v:Value}(r1:dC K θ H dx x)(r2:dC K θ H dy y)(rx:RelV x v)(ry:RelV y u)(h:Oe dx dy=Z b) :
  plainIs v u=true/\(v==u)=b:=Pi (JP r1 rx) (JP r2 ry) h
def Pc:iV X (compareOp .Is) (rD X (kI false)):=by
 intro ag s σ H x y v u Q I rx ry h;obtain⟨θ,M,dx,dy,hw,r1,r2,h⟩:=h;unfold kI at h;split at h
 ·rename_i b q;obtain⟨hp,e⟩:=GU r1 r2 rx ry q;refine wpAny_is_plain hp ?_;rw[e];refine⟨.bl b,H,I,rfl,?_⟩;have:=h (.bl (b != false)) θ H (.refl hw) rfl;rw[Bool.bne_false] at this;exact this
 ·exact h.elim
def Fc:iV X (compareOp .IsNot) (rD X (kI true)):=by
 intro ag s σ H x y v u Q I rx ry h;obtain⟨θ,M,dx,dy,hw,r1,r2,h⟩:=h;unfold kI at h;split at h
 ·rename_i b q;obtain⟨hp,e⟩:=GU r1 r2 rx ry q;refine wpAny_isNot_plain hp ?_;rw[e];refine⟨.bl (!b),H,I,rfl,?_⟩;have:=h (.bl (b != true)) θ H (.refl hw) rfl;rw[Bool.bne_true] at this;exact this
 ·exact h.elim
mutual
def m6:D->PyData
 | .non=>.none
 | .bl b=>.bool b
 | .int i=>.int i
 | .str x=>.str x
 | .tup ds=>.tuple (qw ds)
 | .lst ds=>.list (qw ds)
 | .ro ds=>.list (qw ds)
 | .mr _=>.dict []
 | .exc _=>.dict []
 | .any=>.dict []
def qw:List D->List PyData
 | []=>[]
 | d::ds=>m6 d::qw ds
end
mutual
def bi:Nat->D->Bool
 | _,.non=>true
 | _,.bl _=>true
 | _,.int _=>true
 | _,.str x=>PyData.strOk x
 | n+1,.tup ds=>cD n ds
 | n+1,.lst ds=>cD n ds
 | n+1,.ro ds=>cD n ds
 | _,_=>false
def cD:Nat->List D->Bool
 | _,[]=>true
 | n,d::ds=>bi n d&&cD n ds
end
mutual
def mJ:D->D->Bool
 | .non,.non=>true
 | .bl a,.bl b=>a==b
 | .bl a,.int j=>(if a then 1 else 0)==j
 | .int i,.bl b=>i==(if b then 1 else 0)
 | .int i,.int j=>i==j
 | .str x,.str y=>x==y
 | .lst xs,.lst ys=>ki xs ys
 | .lst xs,.ro ys=>ki xs ys
 | .ro xs,.lst ys=>ki xs ys
 | .ro xs,.ro ys=>ki xs ys
 | .tup xs,.tup ys=>ki xs ys
 | _,_=>false
def ki:List D->List D->Bool
 | [],[]=>true
 | x::xs,y::ys=>mJ x y&&ki xs ys
 | _,_=>false
end
mutual
theorem rS:∀(x y:D) (n m:Nat),bi n x=true->bi m y=true->PyData.eqv (m6 x) (m6 y)=mJ x y
 | .non,y,n,m,hx,hy=>by cases y <;> rfl
 | .bl a,y,n,m,hx,hy=>by cases y <;> rfl
 | .int a,y,n,m,hx,hy=>by cases y <;> rfl
 | .str a,y,n,m,hx,hy=>by cases y <;> rfl
 | .tup xs,y,n,m,hx,hy=>by
  cases n with
  | zero=>exact ff hx
  | succ n=>
   cases y with
   | tup ys=>
    cases m with
    | zero=>exact ff hy
    | succ m=>
     exact kj xs ys n m hx hy
   | _=>rfl
 | .lst xs,y,n,m,hx,hy=>by
  cases n with
  | zero=>exact ff hx
  | succ n=>
   cases y with
   | lst ys=>
    cases m with
    | zero=>exact ff hy
    | succ m=>
     exact kj xs ys n m hx hy
   | ro ys=>
    cases m with
    | zero=>exact ff hy
    | succ m=>
     exact kj xs ys n m hx hy
   | _=>rfl
 | .ro xs,y,n,m,hx,hy=>by
  cases n with
  | zero=>exact ff hx
  | succ n=>
   cases y with
   | lst ys=>
    cases m with
    | zero=>exact ff hy
    | succ m=>
     exact kj xs ys n m hx hy
   | ro ys=>
    cases m with
    | zero=>exact ff hy
    | succ m=>
     exact kj xs ys n m hx hy
   | _=>rfl
 | .mr a,y,n,m,hx,hy=>by cases n <;> exact ff hx
 | .exc a,y,n,m,hx,hy=>by cases n <;> exact ff hx
 | .any,y,n,m,hx,hy=>by cases n <;> exact ff hx
theorem kj:∀(x y:List D) (n m:Nat),cD n x=true->cD m y=true->PyData.eqvAll (qw x) (qw y)=ki x y
 | [],y,n,m,hx,hy=>by cases y <;> rfl
 | x::xs,y,n,m,hx,hy=>by
  cases y with
  | nil=>rfl
  | cons y ys=>
   have hx:=Bool.and_eq_true_iff.mp (show(bi n x&&cD n xs)=true from hx);have hy:=Bool.and_eq_true_iff.mp (show(bi m y&&cD m ys)=true from hy);show(PyData.eqv (m6 x) (m6 y)&&PyData.eqvAll (qw xs) (qw ys))=(mJ x y&&ki xs ys);rw[rS x y n m hx.1 hy.1,kj xs ys n m hx.2 hy.2]
end
mutual
theorem lu:∀(d:D) (n:Nat),bi n d=true->(m6 d).canLay0=true/\(m6 d).depth<=n
 | .non,n,h=>by simp[m6,PyData.canLay0,PyData.depth]
 | .bl a,n,h=>by simp[m6,PyData.canLay0,PyData.depth]
 | .int a,n,h=>by simp[m6,PyData.canLay0,PyData.depth]
 | .str a,n,h=>by
  have:PyData.strOk a=true:=by cases n <;> exact h
  simp[m6,PyData.canLay0,PyData.depth,this]
 | .tup xs,n,h=>by
  cases n with
  | zero=>exact ff h
  | succ n=>
   have:=oz xs n h;simp only[m6,PyData.canLay0,PyData.depth];exact⟨this.1,by omega⟩
 | .lst xs,n,h=>by
  cases n with
  | zero=>exact ff h
  | succ n=>
   have:=oz xs n h;simp only[m6,PyData.canLay0,PyData.depth];exact⟨this.1,by omega⟩
 | .ro xs,n,h=>by
  cases n with
  | zero=>exact ff h
  | succ n=>
   have:=oz xs n h;simp only[m6,PyData.canLay0,PyData.depth];exact⟨this.1,by omega⟩
 | .mr a,n,h=>by cases n <;> exact ff h
 | .exc a,n,h=>by cases n <;> exact ff h
 | .any,n,h=>by cases n <;> exact ff h
theorem oz:∀(ds:List D) (n:Nat),cD n ds=true->PyData.canLayAll0 (qw ds)=true/\PyData.depthAll (qw ds)<=n
 | [],n,h=>by simp[qw,PyData.canLayAll0,PyData.depthAll]
 | d::ds,n,h=>by
  have h:=Bool.and_eq_true_iff.mp (show(bi n d&&cD n ds)=true from h);have h1:=lu d n h.1;have h2:=oz ds n h.2;simp only[qw,PyData.canLayAll0,PyData.depthAll,Bool.and_eq_true];exact⟨⟨h1.1,h2.1⟩,by omega⟩
end
mutual
theorem oN {ag:List (Addr×Obj)}{s:Shared}{σ:L2.St}{H:Hp}{θ:List Addr}(I:Inv X ag σ H s):∀(d:D) (n:Nat) (v:V) (u:Value),bi n d=true->dC X.K θ H d v->RelV v u->∃as,Reads s.heap u (m6 d) as
 | .non,n,v,u,h,r,q=>by have e:v=.non:=r;subst e;cases q;exact⟨_,.none⟩
 | .bl a,n,v,u,h,r,q=>by have e:v=.bl a:=r;subst e;cases q;exact⟨_,.bool a⟩
 | .int a,n,v,u,h,r,q=>by have e:v=.int a:=r;subst e;obtain⟨t,rfl⟩:=q;exact⟨_,.int a t⟩
 | .str a,n,v,u,h,r,q=>by have e:v=.str a:=r;subst e;obtain⟨t,rfl⟩:=q;exact⟨_,.str a t⟩
 | .tup xs,n,v,u,h,r,q=>by
  cases n with
  | zero=>exact ff h
  | succ n=>
   obtain⟨a,vs,e,ta,ra⟩:=r;subst e;cases q;obtain⟨its,rv,⟨o,h1,h2,m,h3⟩,_⟩:=I.tuple ta.sq;obtain⟨as,R⟩:=jW I xs n vs its h ra rv;exact⟨_,.tuple h1 h2 h3 (by simpa using R)⟩
 | .lst xs,n,v,u,h,r,q=>by
  cases n with
  | zero=>exact ff h
  | succ n=>
   obtain⟨a,vs,e,ta,ra⟩:=r;subst e;cases q;obtain⟨its,rv,⟨o,m,h1,h2,_,h3⟩,_⟩:=I.list (ta.sq (K:=X.K));obtain⟨as,R⟩:=jW I xs n vs its h ra rv;exact⟨_,.list h1 h2 h3 (by simpa using R)⟩
 | .ro xs,n,v,u,h,r,q=>by
  cases n with
  | zero=>exact ff h
  | succ n=>
   obtain⟨a,vs,e,ta,ra⟩:=r;subst e;cases q;obtain⟨its,rv,⟨o,m,h1,h2,_,h3⟩,_⟩:=I.list ta.sq;obtain⟨as,R⟩:=jW I xs n vs its h ra rv;exact⟨_,.list h1 h2 h3 (by simpa using R)⟩
 | .mr a,n,v,u,h,r,q=>by cases n <;> exact ff h
 | .exc a,n,v,u,h,r,q=>by cases n <;> exact ff h
 | .any,n,v,u,h,r,q=>by cases n <;> exact ff h
theorem jW {ag:List (Addr×Obj)}{s:Shared}{σ:L2.St}{H:Hp}{θ:List Addr}(I:Inv X ag σ H s):∀(ds:List D) (n:Nat) (vs:List V) (us:List Value),cD n ds=true->bt X.K θ H ds vs->ba vs us->∃as,ReadsAll s.heap us (qw ds) as
 | [],n,vs,us,h,r,q=>by have e:vs=[]:=r;subst e;cases q;exact⟨_,.nil⟩
 | d::ds,n,vs,us,h,r,q=>by
  have h:=Bool.and_eq_true_iff.mp (show(bi n d&&cD n ds)=true from h);obtain⟨v,rr,e,r1,r2⟩:=r;subst e;cases q with
  | cons q1 q2=>
   obtain⟨as,R1⟩:=oN I d n v _ h.1 r1 q1;obtain⟨bs,R2⟩:=jW I ds n rr _ h.2 r2 q2;exact⟨_,.cons R1 R2⟩
end
def now (d:D)(M:az):D:=match d with
 | .mr k=>match M[k]? with
  | some (.lst xs)=>.lst xs
  | _=>.mr k
 | d=>d
def aV (neg:Bool):F2:=λx y M=>if bi 40 (now x M)&&bi 40 (now y M) then .ok (.bl (mJ (now x M) (now y M) != neg)) M else .bad
def mT (I:Inv X ag σ H s)(hw:Wr X.K θ H M)(h:bi n (now d M)=true)(r:dC X.K θ H d v)(q:RelV v u):∃as,Reads s.heap u (m6 (now d M)) as:=by
 cases d with
 | mr k=>
  obtain⟨a,e,ta⟩:=r;subst e;cases q;cases qm:M[k]? with
  | none=>
   have e:now (.mr k) M=.mr k:=by simp[now,qm]
   rw[e] at h;cases n <;> exact ff h
  | some m=>
   cases m with
   | lst xs=>
    have e:now (.mr k) M=.lst xs:=by simp[now,qm]
    rw[e] at h ⊢;cases n with
    | zero=>exact ff h
    | succ n=>
     obtain⟨vs,hv,ra⟩:=hw.at_ k a _ ta qm;obtain⟨its,rv,⟨o,m,h1,h2,_,h3⟩,_⟩:=I.list (X:=X) (xs:=vs) (.inl (.inl hv));obtain⟨as,R⟩:=jW I xs n vs its h ra rv;exact⟨_,.list h1 h2 h3 (by simpa using R)⟩
   | _=>
    have e:now (.mr k) M=.mr k:=by simp[now,qm]
    rw[e] at h;cases n <;> exact ff h
 | _=>exact oN I _ n v u h r q
def PM (hu:X.A.units+64<cLine):iV X (compareOp .Eq) (rD X (aV false)):=by
 intro ag s σ H x y v u Q I rx ry h;obtain⟨θ,M,dx,dy,hw,r1,r2,h⟩:=h;unfold aV at h;split at h
 ·rename_i hc;rw[Bool.and_eq_true] at hc;obtain⟨as,R1⟩:=mT I hw hc.1 r1 rx;obtain⟨bs,R2⟩:=mT I hw hc.2 r2 ry;have l1:=lu _ _ hc.1;have l2:=lu _ _ hc.2;refine SeqAt.compareEq_reads R1 R2 l1.1 l2.1 (by have:=l1.2;have:min (m6 (now dx M)).depth (m6 (now dy M)).depth<=(m6 (now dx M)).depth:=Nat.min_le_left _ _;omega) ?_;rw[rS _ _ _ _ hc.1 hc.2];refine⟨.bl _,H,I,rfl,?_⟩;have:=h _ θ H (.refl hw) rfl;rw[Bool.bne_false] at this;exact this
 ·exact h.elim
def O3 (hu:X.A.units+64<cLine):iV X (compareOp .NotEq) (rD X (aV true)):=by
 intro ag s σ H x y v u Q I rx ry h;obtain⟨θ,M,dx,dy,hw,r1,r2,h⟩:=h;unfold aV at h;split at h
 ·rename_i hc;rw[Bool.and_eq_true] at hc;obtain⟨as,R1⟩:=mT I hw hc.1 r1 rx;obtain⟨bs,R2⟩:=mT I hw hc.2 r2 ry;have l1:=lu _ _ hc.1;have l2:=lu _ _ hc.2;refine SeqAt.compareNe_reads R1 R2 l1.1 l2.1 (by have:=l1.2;have:min (m6 (now dx M)).depth (m6 (now dy M)).depth<=(m6 (now dx M)).depth:=Nat.min_le_left _ _;omega) ?_;rw[rS _ _ _ _ hc.1 hc.2];refine⟨.bl _,H,I,rfl,?_⟩;have:=h _ θ H (.refl hw) rfl;rw[Bool.bne_true] at this;exact this
 ·exact h.elim
def bN (d:D)(M:az):Option (List D):=match d with
 | .tup xs=>Z xs
 | .lst xs=>Z xs
 | .ro xs=>Z xs
 | .mr k=>match M[k]? with
  | some (.lst xs)=>Z xs
  | _=>Y
 | _=>Y
def bb:F2:=λx y M=>match bN x M,y with
 | some xs,.int i=>match pN xs i with
  | some d=>.ok d M
  | none=>.bad
 | _,_=>.bad
def Ef {i:Int}(r:bt K θ H ds vs)(e:pN ds i=Z d):∃v,pN vs i=Z v/\dC K θ H d v:=by
 unfold pN at e ⊢;rw[<-aA r];cases q:GW ds.length i with
 | none=>rw[q] at e;cases e
 | some j=>
  rw[q] at e;exact gQ r e
def pW {xs:List D}(hw:Wr K θ H M)(r:dC K θ H d v)(e:bN d M=Z xs):∃a vs,v=.ref a/\(nj K H a vs\/rF K H a vs)/\bt K θ H xs vs:=by
 cases d with
 | tup ds=>obtain⟨a,vs,e1,ta,ra⟩:=r;cases e;exact⟨a,vs,e1,.inr ta.sq,ra⟩
 | lst ds=>obtain⟨a,vs,e1,ta,ra⟩:=r;cases e;exact⟨a,vs,e1,.inl ta.sq,ra⟩
 | ro ds=>obtain⟨a,vs,e1,ta,ra⟩:=r;cases e;exact⟨a,vs,e1,.inl ta.sq,ra⟩
 | mr k=>
  obtain⟨a,e1,ta⟩:=r;have e:(match M[k]? with|some (.lst xs)=>Z xs|_=>Y)=Z xs:=e;cases qm:M[k]? with
  | none=>rw[qm] at e;cases e
  | some m=>
   cases m with
   | lst ys=>
    rw[qm] at e;cases e;obtain⟨vs,hv,ra⟩:=hw.at_ k a _ ta qm;exact⟨a,vs,e1,.inl (.inl (.inl hv)),ra⟩
   | _=>rw[qm] at e;cases e
 | _=>cases e
def OP:QL X (rD X bb):=by
 intro value slice ag s σ H x y v u Q I rx ry h hs;obtain⟨θ,M,dx,dy,hw,r1,r2,h⟩:=h;unfold bb at h;split at h
 ·rename_i xs i q;split at h
  ·rename_i d qd;obtain⟨a,vs,ea,sq,ra⟩:=pW hw r1 q;obtain⟨z,ez,rz⟩:=Ef ra qd;have hq:=h z θ H (.refl hw) rz;rcases sq with sq|sq
   ·exact Ib value slice ag s σ H x y v u Q I rx ry ⟨a,vs,i,z,ea,r2,sq,ez,hq⟩ hs
   ·exact MB value slice ag s σ H x y v u Q I rx ry ⟨a,vs,i,z,ea,r2,sq,ez,hq⟩ hs
  ·exact h.elim
 ·exact h.elim
def Ox {a b:Expr}{pos:Pos}(ha:PE X a (tE X ga))(hb:PE X b (tE X gb))(hs:xh b:=by intro _ _;rfl):PE X (.Subscript a b pos) (tE X (g2 bb ga gb)):=
 (Pb OP ha hb hs).of λ_ _ _ h=>Bu h
def g5 (xs:List D)(lo hi:Option Int):List D:=(xs.drop (HT.sIx xs.length 0 lo)).take (HT.sIx xs.length xs.length hi-HT.sIx xs.length 0 lo)
def ur (x:D)(lo hi:Option Int)(M:az):aX D:=match x with
 | .tup xs=>.ok (.tup (g5 xs lo hi)) M
 | .lst xs=>.ok (.lst (g5 xs lo hi)) M
 | .ro xs=>.ok (.lst (g5 xs lo hi)) M
 | .mr k=>match M[k]? with
  | some (.lst xs)=>.ok (.lst (g5 xs lo hi)) M
  | _=>.bad
 | _=>.bad
abbrev GO:=bK->az->aX (Option Int)
def bu:GO:=λ_ M=>.ok Y M
def dg (g:GE):GO:=λρ M=>(g ρ M).bind λd M1=>match d with
 | .int i=>.ok (Z i) M1
 | _=>.bad
def QH (X:Cx)(θ:List Addr)(H:Hp)(Q:Option Int->Hp->Prop):aX (Option Int)->Prop
 | .ok b M'=>∀θ' H',Go X.K θ H θ' H' M'->Q b H'
 | .err c M'=>fJ X θ H c M'
 | .bad=>False
def tO (X:Cx)(g:GO):TO:=λσ H Q=>∃ρ θ M,j9 X.K θ H σ ρ/\Wr X.K θ H M/\QH X θ H Q (g ρ M)
def _root_.L2.PO.of {e:Option Expr}{t t':TO}(h:PO X e t)(w:∀σ H Q,t' σ H Q->t σ H Q):PO X e t':=λag s σ H Q I q=>h ag s σ H Q I (w σ H Q q)
def Ir:PO X Y (tO X bu):=HY.of λσ H Q ⟨ρ,θ,M,hd,hw,f⟩=>f θ H (.refl hw)
def Hf (h:PE X e (tE X g)):PO X (Z e) (tO X (dg g)):=(IF h).of λσ H Q hxx=>by
 obtain⟨ρ,θ,M,hd,hw,h⟩:=hxx;refine bD hd hw (QH X θ H Q) (λc M' h=>h) (λh=>h) h λd M1 v θ1 H1 g1 r1 h1=>?_
 split at h1
 ·rename_i i;exact⟨i,r1,h1 θ1 H1 g1⟩
 ·exact h1.elim
def Ka {g:GO}{Q:Option Int->Hp->Prop}{α:Type}(hd:j9 X.K θ H σ ρ)(hw:Wr X.K θ H M)(F:aX α->Prop)(Fe:∀c M',F (.err c M')->fJ X θ H c M')(Fb:F .bad->False)
  {f:Option Int->az->aX α} (h:F ((g ρ M).bind f)) (k:∀d M1 θ1 H1,Go X.K θ H θ1 H1 M1->F (f d M1)->Q d H1):tO X g σ H Q:=by
 refine⟨ρ,θ,M,hd,hw,?_⟩;cases q:g ρ M with
 | ok d M1=>
  rw[q] at h;exact λθ1 H1 g1=>k d M1 θ1 H1 g1 h
 | err c M1=>rw[q] at h;exact Fe c M1 h
 | bad=>rw[q] at h;exact(Fb h).elim
def oo (g:GE)(gl gh:GO):GE:=λρ M=>(g ρ M).bind λx M1=>(gl ρ M1).bind λlo M2=>(gh ρ M2).bind λhi M3=>ur x lo hi M3
def S2 (X:Cx):V->Option Int->Option Int->Hp->VK->Prop:=λx lo hi H Q=>∃θ M d,Wr X.K θ H M/\dC X.K θ H d x/\aM X θ H Q (ur d lo hi M)
def oO (r:bt K θ H ds vs)(lo hi:Option Int):bt K θ H (g5 ds lo hi) (yc vs lo hi):=by
 unfold g5 yc;rw[<-aA r];exact mW _ (mY _ r)
def Rg:QV X (S2 X):=by
 intro ag s σ H x v vl vu lo hi sl Q I rx hs pl pu h;obtain⟨θ,M,d,hw,r,h⟩:=h;cases d with
 | tup ds=>
  obtain⟨a,vs,e,ta,ra⟩:=r
  by_cases hc:HT.sIx vs.length 0 lo=0/\HT.sIx vs.length vs.length hi=vs.length
  ·subst e;cases rx;obtain⟨its,rv,ht,hz⟩:=I.tuple ta.sq;have hlen:its.toArray.size=vs.length:=by rw[size_toArray];exact rv.length.symm
   refine⟨"tuple",_,PyProof.Rows.slot_tuple_getitem.lookup,ht.typeIs,?_⟩;refine nr ht hs pl pu (by rw[hlen];exact hc) ⟨.ref a,H,I,rfl,h _ θ H (.refl hw) ⟨a,vs,rfl,ta,?_⟩⟩;have e:g5 ds lo hi=ds:=by
    unfold g5;rw[aA ra,hc.1,hc.2,drop_zero,Nat.sub_zero,<-aA ra,take_length]
   rw[e];exact ra
  ·exact LH ag s σ H x v vl vu lo hi sl Q I rx hs pl pu ⟨a,vs,e,ta.sq,hc,λp hp=>h _ θ _ (dX hw hp) (iJ hw hp (oO ra lo hi))⟩
 | lst ds=>
  obtain⟨a,vs,e,ta,ra⟩:=r;exact wC ag s σ H x v vl vu lo hi sl Q I rx hs pl pu ⟨a,vs,e,ta.sq,λp hp=>h _ θ _ (dX hw hp) (jx hw hp (oO ra lo hi))⟩
 | ro ds=>
  obtain⟨a,vs,e,ta,ra⟩:=r;exact wC ag s σ H x v vl vu lo hi sl Q I rx hs pl pu ⟨a,vs,e,ta.sq,λp hp=>h _ θ _ (dX hw hp) (jx hw hp (oO ra lo hi))⟩
 | mr k=>
  obtain⟨a,e,ta⟩:=r;have h:aM X θ H Q (match M[k]? with|some (.lst xs)=>.ok (.lst (g5 xs lo hi)) M|_=>.bad):=h;cases qm:M[k]? with
  | none=>rw[qm] at h;exact h.elim
  | some m=>
   cases m with
   | lst ys=>
    rw[qm] at h;obtain⟨vs,hv,ra⟩:=hw.at_ k a _ ta qm;exact wC ag s σ H x v vl vu lo hi sl Q I rx hs pl pu ⟨a,vs,e,.inl (.inl hv),λp hp=>h _ θ _ (dX hw hp) (jx hw hp (oO ra lo hi))⟩
   | _=>rw[qm] at h;exact h.elim
 | _=>exact h.elim
def F3 {lo hi:Option Expr}{gl gh:GO}{p2:Pos}(he:PE X e (tE X g))(hl:PO X lo (tO X gl))(hh:PO X hi (tO X gh)):PE X (.Subscript e (.Slice lo hi Y p2) pos) (tE X (oo g gl gh)):=
 (EY Rg he hl hh).of λσ H Q hxx=>by
  obtain⟨ρ,θ,M,hd,hw,h⟩:=hxx;refine bD hd hw (aM X θ H Q) (λc M' h=>h) (λh=>h) h λd M1 v θ1 H1 g1 r1 h1=>?_
  refine Ka (hd.go g1) g1.wr (aM X θ1 H1 Q) (λc M' h=>h) (λh=>h) (h1.go g1) λl M2 θ2 H2 g2 h2=>?_
  refine Ka ((hd.go g1).go g2) g2.wr (aM X θ2 H2 Q) (λc M' h=>h) (λh=>h) (h2.go g2) λu M3 θ3 H3 g3 h3=>?_
  exact⟨θ3,M3,d,g3.wr,r1.go (g2.trans g3),h3.go g3⟩
def IL (d:D)(M:az):aX Bool:=match d with
 | .non=>.ok false M
 | .bl b=>.ok b M
 | .int i=>.ok (i != 0) M
 | .str x=>if x.length<=sizeLine then .ok ((x.length:Int) != 0) M else .bad
 | .tup xs=>.ok (!xs.isEmpty) M
 | .lst xs=>.ok (!xs.isEmpty) M
 | .ro xs=>.ok (!xs.isEmpty) M
 | .mr k=>match M[k]? with
  | some (.lst xs)=>.ok (!xs.isEmpty) M
  | _=>.bad
 | .exc _=>.bad
 | .any=>.bad
def eJ (g:GE):GT:=λρ M=>(g ρ M).bind IL
def kS (r:bt K θ H ds vs):(!vs.isEmpty)=!ds.isEmpty:=by
 have:=aA r;cases ds <;> cases vs <;> simp_all
def Na {a:Expr}(ha:PE X a (tE X g))(he:∀whole,isTrue a X.env whole=(do let v <-whole;standAt a.pos;holding [v] (truthy v)):=by intro _;rfl):PT X a (tT X (eJ g)):=
 (ED ha he).of λσ H Q hxx=>by
  obtain⟨ρ,θ,M,hd,hw,h⟩:=hxx;refine bD hd hw (pJ X θ H Q) (λc M' h=>h) (λh=>h) h λd M1 v θ1 H1 g1 r1 h1=>?_
  cases d with
  | non=>have e:v=.non:=r1;subst e;exact⟨false,rfl,h1 θ1 H1 g1⟩
  | bl b=>have e:v=.bl b:=r1;subst e;exact⟨b,rfl,h1 θ1 H1 g1⟩
  | int i=>have e:v=.int i:=r1;subst e;exact⟨i != 0,rfl,h1 θ1 H1 g1⟩
  | str x=>
   have e:v=.str x:=r1;subst e;have h1:pJ X θ H Q (if x.length<=sizeLine then .ok ((x.length:Int) != 0) M1 else .bad):=h1;split at h1
   ·rename_i hl;exact⟨_,⟨hl,rfl⟩,h1 θ1 H1 g1⟩
   ·exact h1.elim
  | tup xs=>
   obtain⟨a,vs,e,ta,ra⟩:=r1;subst e;exact⟨_,.inr (.inl ⟨vs,ta.sq,(kS ra).symm⟩),h1 θ1 H1 g1⟩
  | lst xs=>
   obtain⟨a,vs,e,ta,ra⟩:=r1;subst e;exact⟨_,.inl ⟨vs,ta.sq,(kS ra).symm⟩,h1 θ1 H1 g1⟩
  | ro xs=>
   obtain⟨a,vs,e,ta,ra⟩:=r1;subst e;exact⟨_,.inl ⟨vs,ta.sq,(kS ra).symm⟩,h1 θ1 H1 g1⟩
  | mr k=>
   obtain⟨a,e,ta⟩:=r1;subst e;have h1:pJ X θ H Q (match M1[k]? with|some (.lst xs)=>.ok (!xs.isEmpty) M1|_=>.bad):=h1;cases qm:M1[k]? with
   | none=>rw[qm] at h1;exact h1.elim
   | some m=>
    cases m with
    | lst ys=>
     rw[qm] at h1;obtain⟨vs,hv,ra⟩:=g1.wr.at_ k a _ ta qm;exact⟨_,.inl ⟨vs,.inl (.inl hv),(kS ra).symm⟩,h1 θ1 H1 g1⟩
    | _=>rw[qm] at h1;exact h1.elim
  | exc c=>exact h1.elim
  | any=>exact h1.elim
def bE:FD:=λds M=>match ds with
 | [.str x]=>if x.length<=sizeLine then .ok (.int x.length) M else .bad
 | [d]=>match bN d M with
  | some xs=>.ok (.int xs.length) M
  | none=>.bad
 | _=>.bad
def zA:FD:=λds M=>match ds with
 | [.int i,.int j]=>.ok (.int (if j<i then j else i)) M
 | _=>.bad
def zk:FD:=λds M=>match ds with
 | [.int i]=>.ok (.int i) M
 | [.bl b]=>.ok (.int (if b then 1 else 0)) M
 | _=>.bad
def lN:FD:=λds M=>match ds with
 | [d]=>match bN d M with
  | some xs=>.ok (.lst xs) M
  | none=>.bad
 | _=>.bad
def eX:FD:=λds M=>match ds with
 | [d]=>match bN d M with
  | some xs=>.ok (.tup xs) M
  | none=>.bad
 | _=>.bad
def jP (r:bt K θ H [d] xs):∃v,xs=[v]/\dC K θ H d v:=by
 obtain⟨v,rr,e,h1,h2⟩:=r;have e2:rr=[]:=h2;subst e2;exact⟨v,e,h1⟩
def E3 {d':D}(r:bt K θ H [d,d'] xs):∃v v',xs=[v,v']/\dC K θ H d v/\dC K θ H d' v':=by
 obtain⟨v,rr,e,h1,h2⟩:=r;obtain⟨v',e2,h3⟩:=jP h2;subst e2;exact⟨v,v',e,h1,h3⟩
def NI:d9 X (.builtin "len") (rC X bE):=by
 intro ag s σ H xs us Q I r h;obtain⟨θ,M,ds,hw,rd,h⟩:=h;unfold bE at h;split at h
 ·rename_i x;split at h
  ·rename_i hl;obtain⟨v,e,rv⟩:=jP rd;exact wQ ag s σ H xs us Q I r ⟨x,by rw[e,show v=.str x from rv],hl,h _ θ H (.refl hw) rfl⟩
  ·exact h.elim
 ·rename_i d _;split at h
  ·rename_i ys q;obtain⟨v,e,rv⟩:=jP rd;obtain⟨a,vs,ea,sq,ra⟩:=pW hw rv q;refine wM ag s σ H xs us Q I r ⟨a,vs,by rw[e,ea],sq,?_⟩;rw[<-aA ra];exact h _ θ H (.refl hw) rfl
  ·exact h.elim
 ·exact h.elim
def KA (hc:X.calm=true):d9 X (.builtin "min") (rC X zA):=by
 intro ag s σ H xs us Q I r h;obtain⟨θ,M,ds,hw,rd,h⟩:=h;unfold zA at h;split at h
 ·rename_i i j;obtain⟨v,v',e,rv,rv'⟩:=E3 rd;exact BU hc ag s σ H xs us Q I r ⟨i,j,by rw[e,show v=.int i from rv,show v'=.int j from rv'],h _ θ H (.refl hw) rfl⟩
 ·exact h.elim
def Mq:d9 X (.type "int") (rC X zk):=by
 intro ag s σ H xs us Q I r h;obtain⟨θ,M,ds,hw,rd,h⟩:=h;unfold zk at h;split at h
 ·rename_i i;obtain⟨v,e,rv⟩:=jP rd;exact vV ag s σ H xs us Q I r (.inl ⟨i,by rw[e,show v=.int i from rv],h _ θ H (.refl hw) rfl⟩)
 ·rename_i b;obtain⟨v,e,rv⟩:=jP rd;exact vV ag s σ H xs us Q I r (.inr ⟨b,by rw[e,show v=.bl b from rv],h _ θ H (.refl hw) rfl⟩)
 ·exact h.elim
def II:d9 X (.type "list") (rC X lN):=by
 intro ag s σ H xs us Q I r h;obtain⟨θ,M,ds,hw,rd,h⟩:=h;unfold lN at h;split at h
 ·rename_i d;split at h
  ·rename_i ys q;obtain⟨v,e,rv⟩:=jP rd;obtain⟨a,vs,ea,sq,ra⟩:=pW hw rv q;exact xG ag s σ H xs us Q I r ⟨a,vs,by rw[e,ea],sq,λl hl=>h _ θ _ (dX hw hl) (jx hw hl ra)⟩
  ·exact h.elim
 ·exact h.elim
def FJ:d9 X (.type "tuple") (rC X eX):=by
 intro ag s σ H xs us Q I r h;obtain⟨θ,M,ds,hw,rd,h⟩:=h;unfold eX at h;split at h
 ·rename_i d;obtain⟨v,e,rv⟩:=jP rd;cases d with
  | tup ys=>
   obtain⟨a,vs,ea,ta,ra⟩:=rv;exact ie ag s σ H xs us Q I r ⟨a,vs,by rw[e,ea],.inr ⟨ta.sq,h _ θ H (.refl hw) ⟨a,vs,rfl,ta,ra⟩⟩⟩
  | lst ys=>
   obtain⟨a,vs,ea,ta,ra⟩:=rv;exact ie ag s σ H xs us Q I r ⟨a,vs,by rw[e,ea],.inl ⟨ta.sq,λl hl=>h _ θ _ (dX hw hl) (iJ hw hl ra)⟩⟩
  | ro ys=>
   obtain⟨a,vs,ea,ta,ra⟩:=rv;exact ie ag s σ H xs us Q I r ⟨a,vs,by rw[e,ea],.inl ⟨ta.sq,λl hl=>h _ θ _ (dX hw hl) (iJ hw hl ra)⟩⟩
  | mr k=>
   obtain⟨a,ea,ta⟩:=rv;cases qm:M[k]? with
   | none=>simp[bN,qm] at h;exact h.elim
   | some m=>
    cases m with
    | lst ys=>
     simp only[bN,qm] at h;obtain⟨vs,hv,ra⟩:=hw.at_ k a _ ta qm;exact ie ag s σ H xs us Q I r ⟨a,vs,by rw[e,ea],.inl ⟨.inl (.inl hv),λl hl=>h _ θ _ (dX hw hl) (iJ hw hl ra)⟩⟩
    | _=>simp[bN,qm] at h;exact h.elim
  | _=>exact h.elim
 ·exact h.elim
end
def fD (cells:List (Str×Addr)):List (Str×NameKind)->List (Str×Addr)->List (Str×Addr)
 | [],acc=>acc
 | (n,k)::r,acc=>if k==.free then fD cells r ((n,(cells.lookup n).getD 0)::acc) else fD cells r acc
theorem sA {env:Env}:∀(l:List (Str×NameKind)) (cs:List (Str×Addr)),(∀p∈l,p.2=.free->∃c,env.cells.lookup p.1=Z c)->
  (forIn (m:=Sem) l cs λx r=>match x with
   | (name,kind)=>if(kind==NameKind.free)=true then do let __do_lift <-cellOf env name;pure (ForInStep.yield ((name,__do_lift)::r)) else pure (ForInStep.yield r))=pure (fD env.cells l cs)
 | [],cs,h=>rfl
 | (n,k)::r,cs,h=>by
  have ih:=λcs=>sA (env:=env) r cs λp hp=>h p (mem_cons_of_mem _ hp)
  rw[forIn_cons]
  by_cases hk:(k==NameKind.free)=true
  ·obtain⟨c,hc⟩:=h (n,k) mem_cons_self (by simpa using hk);have e:cellOf env n=pure c:=by unfold cellOf;rw[show List.lookup n env.cells=Z c from hc]
   simp only[hk,if_true,fD,e,pure_bind];rw[ih,show List.lookup n env.cells=Z c from hc];rfl
  ·simp only[hk,if_false,fD,pure_bind,Bool.false_eq_true];exact ih cs
def pb {env:Env}(h:∀p∈scope.names,p.2=.free->∃c,env.cells.lookup p.1=Z c):closureFor scope env=pure (fD env.cells scope.names []):=by
 have:=sA (env:=env) scope.names [] h;unfold closureFor;simp only[bind_pure_comp] at this ⊢
 first
  | (rw[this];rfl)
  | (simp[this])
  | exact this
theorem ul {cells:List (Str×Addr)}:∀(l:List (Str×NameKind)) (acc:List (Str×Addr)),(∀p∈acc,cells.lookup p.1=Z p.2)->(∀p∈l,p.2=.free->∃c,cells.lookup p.1=Z c)->
  ∀p∈fD cells l acc,cells.lookup p.1=Z p.2
 | [],acc,ha,h=>ha
 | (n,k)::r,acc,ha,h=>by
  have hr:∀p∈r,p.2=.free->∃c,cells.lookup p.1=Z c:=λp hp=>h p (mem_cons_of_mem _ hp)
  unfold fD
  by_cases hk:(k==NameKind.free)=true
  ·rw[if_pos hk];refine ul r _ (λp hp=>?_) hr;rcases mem_cons.mp hp with e|hp
   ·subst e;obtain⟨c,hc⟩:=h (n,k) mem_cons_self (by simpa using hk);have hc':cells.lookup n=Z c:=hc;show cells.lookup n=Z ((cells.lookup n).getD 0);rw[hc'];rfl
   ·exact ha p hp
  ·rw[if_neg hk];exact ul r acc ha hr
theorem tD {cells:List (Str×Addr)}:∀(l:List (Str×NameKind)) (acc:List (Str×Addr)),∀p∈acc,p∈fD cells l acc
 | [],acc,p,h=>h
 | (n,k)::r,acc,p,h=>by
  unfold fD
  by_cases hk:(k==NameKind.free)=true
  ·rw[if_pos hk];exact tD r _ p (mem_cons_of_mem _ h)
  ·rw[if_neg hk];exact tD r acc p h
theorem ua {cells:List (Str×Addr)}:∀(l:List (Str×NameKind)) (acc:List (Str×Addr)) (n:Str),(n,NameKind.free)∈l->∃c,(n,c)∈fD cells l acc
 | [],acc,n,h=>by cases h
 | (m,k)::r,acc,n,h=>by
  unfold fD;rcases mem_cons.mp h with e|h
  ·cases e;rw[if_pos (by rfl)];exact⟨_,tD r _ _ mem_cons_self⟩
  ·by_cases hk:(k==NameKind.free)=true
   ·rw[if_pos hk];exact ua r _ n h
   ·rw[if_neg hk];exact ua r acc n h
def nY {l:List (Str×Addr)}{n:Str}{c:Addr}(h:(n,c)∈l):∃c',l.lookup n=Z c':=by
 induction l with
 | nil=>cases h
 | cons p r ih=>
  obtain⟨m,d⟩:=p
  by_cases e:(n==m)=true
  ·exact⟨d,by simp[List.lookup,e]⟩
  ·have e':(n==m)=false:=by simpa using e
   rcases mem_cons.mp h with q|q
   ·cases q;simp at e
   ·obtain⟨c',hc⟩:=ih q;exact⟨c',by simp only[List.lookup,e'];exact hc⟩
theorem jc {env:Env}:∀{names:List (Str×NameKind)} {x:Str} {k:NameKind},
  (names.map λ(n,k)=>if(k==NameKind.free&&env.scope.kind==.function&&env.kindOf n==Z .cell) then(n,NameKind.cell) else(n,k)).lookup x=Z k->
   names.lookup x=Z k\/(k=.cell/\names.lookup x=Z .free)
 | [],_,_,h=>by simp at h
 | (n,k')::r,x,k,h=>by
  have ih:=@jc env r x k;have h:List.lookup x ((if(k'==NameKind.free&&env.scope.kind==.function&&env.kindOf n==Z .cell)=true then(n,NameKind.cell) else(n,k'))::_)=Z k:=h
  by_cases hc:(k'==NameKind.free&&env.scope.kind==.function&&env.kindOf n==Z .cell)=true
  ·rw[if_pos hc] at h;cases hx:x==n with
   | true=>
    simp only[lookup_cons,hx] at h ⊢;cases h;have:k'=.free:=by
     rw[Bool.and_eq_true,Bool.and_eq_true] at hc;simpa using hc.1.1
    subst this;exact .inr ⟨rfl,rfl⟩
   | false=>
    simp only[lookup_cons,hx] at h ⊢;exact ih h
  ·rw[if_neg hc] at h;cases hx:x==n with
   | true=>
    simp only[lookup_cons,hx] at h ⊢;exact .inl h
   | false=>
    simp only[lookup_cons,hx] at h ⊢;exact ih h
def cR (sc:Scope)(fk:Str->Option NameKind)(xs:List Str)(R N:List Str):Bool:=
 decide (sc.kind=.function)&&xs.all (λx=>sc.names.lookup x==Z .local) &&
 sc.names.all (λp=>match p.2 with
  | .cell=>false
  | .local=>(xs.contains p.1||p.1==(".0":Str))&&sc.names.lookup p.1==Z .local
  | .free=>fk p.1==Z .cell||fk p.1==Z .free
  | _=>true) &&
 decide ((xs++R).Nodup)&&!(R.contains (".0":Str))&&R.length==N.length &&
 (R.zip N).all (λp=>p.1==p.2||sc.names.lookup p.1 != Z .free)
structure cZ (sc:Scope)(fk:Str->Option NameKind)(xs:List Str)(R N:List Str):Prop where
 kind:sc.kind=.function
 own:∀x∈xs,sc.names.lookup x=Z .local
 nocell:∀p∈sc.names,p.2≠.cell
 locs:∀p∈sc.names,p.2=.local->p.1∈xs\/p.1=(".0":Str)
 lnames:∀p∈sc.names,p.2=.local->sc.names.lookup p.1=Z .local
 free:∀p∈sc.names,p.2=.free->fk p.1=Z .cell\/fk p.1=Z .free
 nd:(xs++R).Nodup
 no0:(".0":Str)∉R
 len:R.length=N.length
 same:∀(i:Nat) y,R[i]?=Z y->sc.names.lookup y=Z .free->N[i]?=Z y
def cZ.of {sc:Scope}{fk:Str->Option NameKind}{xs:List Str}{R N:List Str}(h:cR sc fk xs R N=true):cZ sc fk xs R N:=by
 unfold cR at h;simp only[Bool.and_eq_true,decide_eq_true_eq,all_eq_true,Bool.not_eq_true',beq_iff_eq] at h;obtain⟨⟨⟨⟨⟨⟨h1,h2⟩,h3⟩,h4⟩,h5⟩,h6⟩,h7⟩:=h;refine⟨h1,h2,λp hp e=>?_,λp hp e=>?_,λp hp e=>?_,λp hp e=>?_,h4,?_,h6,λi y hy hf=>?_⟩
 ·have:=h3 p hp;rw[e] at this;simp at this
 ·have:=h3 p hp;rw[e] at this;simp at this;exact this.1
 ·have:=h3 p hp;rw[e] at this;simp at this;exact this.2
 ·have:=h3 p hp;rw[e] at this;simp at this;exact this
 ·intro hm;have:R.contains (".0":Str)=true:=by simpa using hm
  rw[this] at h5;cases h5
 ·obtain⟨hi,e⟩:=List.getElem?_eq_some_iff.mp hy;have hn:i<N.length:=by rw[<-h6];exact hi
  have hz:(R[i],N[i])∈R.zip N:=by
   rw[mem_iff_getElem];exact⟨i,by simp;omega,by simp⟩
  have:=h7 _ hz;simp only[Bool.or_eq_true,beq_iff_eq,bne_iff_ne,ne_eq] at this;rcases this with q|q
  ·rw[getElem?_eq_getElem hn,<-q,e]
  ·rw[e] at q;exact absurd hf q
def aN (X:Cx)(scope:Scope)(xs:List Str)(R:List Str)(fp:List Addr)(s:Shared)(H:Hp)(C:Addr):Cx where
 prog:=X.prog
 w:=X.w
 K:=X.K
 mg:=X.mg
 base:=X.base
 A:=X.A
 N:=xs++R
 s₀:=s
 H₀:=H
 env:=compEnvC scope (fD X.env.cells scope.names []) C X.env
 outer:=X.stack
 stack:=X.stack
 ex:=fp
 fn:=λ_=>false
 calm:=X.calm
 pn:=[]
 xe:=λ_ _=>False
variable{y:Str}
section
variable {X:Cx}{ag:List (Addr×Obj)}{σ:L2.St}{H:Hp}{s:Shared}{scope:Scope}{xs:List Str}{R:List Str}{fp:List Addr}{C:Addr}
def cZ.cells (S:cZ scope X.env.kindOf xs R X.N)(I:L2.Inv X ag σ H s):∀p∈scope.names,p.2=.free->∃c,X.env.cells.lookup p.1=Z c:=λp hp e=>I.ok.has p.1 (S.free p hp e)
def dU (S:cZ scope X.env.kindOf xs R X.N)(I:L2.Inv X ag σ H s){c:Addr}(h:(fD X.env.cells scope.names []).lookup y=Z c):X.env.cells.lookup y=Z c:=
 ul scope.names [] (λ_ z=>by cases z) (S.cells I) (y,c) (PySem.mem_of_lookup h)
def DM {h4:Heap}{m:Str->Option Value}{tk:Nat}(S:cZ scope X.env.kindOf xs R X.N)(I:L2.Inv X ag σ H s)(hC:s.heap.objs.size<=C)(k:∀b o,s.heap.get? b=Z o->h4.get? b=Z o)(hn:h4.Ns C m)
  (hf:∀b∈fp,ky X ag H b) (hfl:∀b∈fp,b<s.heap.objs.size):L2.Inv (aN X scope xs R fp s H C) [] (List.replicate xs.length Y++σ) H {s with heap:=h4,toks:=tk}:=by
 have hkn:∀y kk,(relabel scope X.env).names.lookup y=Z kk->(kk=.cell\/kk=.free)->scope.names.lookup y=Z .free:=λy kk e hk=>by
  rcases jc e with q|q
  ·rcases hk with z|z
   ·subst z;exact absurd rfl (S.nocell _ (PySem.mem_of_lookup q))
   ·subst z;exact q
  ·exact q.2
 have hasc:∀y,scope.names.lookup y=Z .free->∃c,(fD X.env.cells scope.names []).lookup y=Z c:=λy e=>by
  obtain⟨c,hc⟩:=ua (cells:=X.env.cells) scope.names [] y (PySem.mem_of_lookup e);exact nY hc
 refine⟨⟨I.ok.mod,S.kind,I.ok.glob,I.ok.blt,hC,λy z c h1 h2=>I.ok.inj y z c (dU S I h1) (dU S I h2),λy hy=>?_,λy c z=>absurd (show false=true from z) Bool.false_ne_true,I.ok.hd,I.ok.frames,.inl rfl,λb hb=>⟨?_,λy c e=>?_⟩,I.bs,Nat.le_trans I.ok.bsz I.sz,λb o e hb=>?_,λb hb z=>?_,I.stack,I.stkFree⟩,
  rfl,I.bare,Un.kept k,⟨m,hn,λi y v h1 h2 h3=>?_⟩,λy c e=>?_,I.hok.fresh hC,λy c e=>I.freeC y c (dU S I e),λp hp=>absurd (show p∈([]:List (Addr×Obj)) from hp) (by simp),I.hok.kept k,?_⟩
 ·rcases hy with e|e
  ·exact hasc y (hkn y _ e (.inl rfl))
  ·exact hasc y (hkn y _ e (.inr rfl))
 ·exact Nat.ne_of_lt (Nat.lt_of_lt_of_le (hfl b hb) hC)
 ·exact(hf b hb).2.2.2.2.1 y c (dU S I e)
 ·rcases(hf b hb).2.2.2.1 with z|z
  ·exact I.ok.noex b o e z
  ·exact absurd (Nat.lt_of_lt_of_le (Heap.lt_size e) (Nat.le_trans I.ok.bsz z)) (Nat.lt_irrefl _)
 ·rcases mem_cons.mp (I.stkSub b z) with e|e
  ·exact(hf b hb).2.1 e
  ·exact(hf b hb).2.2.1 e
 ·by_cases hi:i<xs.length
  ·exfalso;rw[getElem?_append_left (by rw[length_replicate];exact hi),getElem?_replicate,if_pos hi] at h2;cases h2
  ·obtain⟨i,rfl⟩:∃j,i=xs.length+j:=⟨i-xs.length,by omega⟩;have h1:R[i]?=Z y:=by
    have h1:(xs++R)[xs.length+i]?=Z y:=h1;rw[getElem?_append_right (by omega)] at h1;simpa using h1
   have h2:σ[i]?=Z (Z v):=by
    rw[getElem?_append_right (by rw[length_replicate];omega)] at h2;simpa using h2
   have hyR:y∈R:=mem_of_getElem? h1;have hf':scope.names.lookup y=Z .free/\((relabel scope X.env).names.lookup y=Z .cell\/(relabel scope X.env).names.lookup y=Z .free):=by
    have h3:(relabel scope X.env).names.lookup y=Z .local\/(relabel scope X.env).names.lookup y=Z .cell\/(relabel scope X.env).names.lookup y=Z .free:=h3;rcases h3 with e|e|e
    ·rcases jc e with q|q
     ·exfalso;rcases S.locs _ (PySem.mem_of_lookup q) rfl with z|z
      ·exact(nodup_append.mp S.nd).2.2 y z y hyR rfl
      ·have z:y=(".0":Str):=z;rw[z] at hyR;exact S.no0 hyR
     ·exact absurd q.1 (by intro z;cases z)
    ·exact⟨hkn y _ e (.inl rfl),.inl e⟩
    ·exact⟨hkn y _ e (.inr rfl),.inr e⟩
   have hN:=S.same i y h1 hf'.1;have hk:=S.free (y,.free) (PySem.mem_of_lookup hf'.1) rfl;obtain⟨mX,hnX,hl⟩:=I.loc;have vis:Oz X.env.scope y:=by
    rcases hk with z|z
    ·exact .inr (.inl z)
    ·exact .inr (.inr z)
   obtain⟨u,r,l⟩:=hl i y v hN h2 vis;refine⟨u,r,.inr ⟨hf'.2,?_⟩⟩;rcases l with⟨z,_⟩|⟨_,c,hc,o,ho,hod⟩
   ·exfalso;rcases hk with q|q
    ·have q:X.env.kindOf y=Z .cell:=q;rw[z] at q;cases q
    ·have q:X.env.kindOf y=Z .free:=q;rw[z] at q;cases q
   ·obtain⟨c',hc'⟩:=hasc y hf'.1;have:c'=c:=by
     have:=dU S I hc';rw[hc] at this;exact(Option.some.inj this).symm
    subst this;exact⟨c',hc',o,k _ _ ho,hod⟩
 ·obtain⟨v,o,ho,hd⟩:=I.cell y c (dU S I e);exact⟨v,o,k _ _ ho,hd⟩
 ·show(List.replicate xs.length Y++σ).length=(xs++R).length;rw[length_append,length_append,length_replicate,I.len,S.len]
end
def gU (t:uH)(gc:GT)(ge:GE):List D->bK->az->aX (List D)
 | [],ρ,M=>if t.ok M then .ok [] M else .bad
 | d::r,ρ,M=>if t.ok M then
   match gc (Z d::ρ) M with
   | .ok true M1=>match ge (Z d::ρ) M1 with
    | .ok e M2=>(gU t gc ge r ρ M2).bind λes M3=>.ok (e::es) M3
    | _=>.bad
   | .ok false M1=>gU t gc ge r ρ M1
   | _=>.bad
  else .bad
def cb:GT:=λ_ M=>.ok true M
def bF (t:uH)(n:Nat)(sg:GG)(gc:GT)(ge:GE):List D->bK->az->aX (List D)
 | [],ρ,M=>if t.ok M then .ok [] M else .bad
 | d::r,ρ,M=>if t.ok M then
   match sg d (List.replicate n Y++ρ) with
   | none=>.bad
   | some ρ1=>match gc ρ1 M with
    | .ok true M1=>match ge ρ1 M1 with
     | .ok e M2=>(bF t n sg gc ge r ρ M2).bind λes M3=>.ok (e::es) M3
     | _=>.bad
    | .ok false M1=>bF t n sg gc ge r ρ M1
    | _=>.bad
  else .bad
def bY (gi:GI)(n:Nat)(sg:GG)(gc:GT)(ge:GE)(mk:List D->az->aX D):GE:=λρ M=>(gi ρ M).bind λt M1=>(bF t n sg gc ge t.ds ρ M1).bind mk
theorem xW (t:uH)(gc:GT)(ge:GE):∀(ds:List D) (ρ:bK) (M:az),gU t gc ge ds ρ M=bF t 1 (dY 0) gc ge ds ρ M
 | [],ρ,M=>rfl
 | d::r,ρ,M=>by
  have ih:=xW t gc ge r;unfold gU bF;show _=(if t.ok M=true then(match gc (Z d::ρ) M with
    | .ok true M1=>match ge (Z d::ρ) M1 with
     | .ok e M2=>(bF t 1 (dY 0) gc ge r ρ M2).bind λes M3=>.ok (e::es) M3
     | _=>.bad
    | .ok false M1=>bF t 1 (dY 0) gc ge r ρ M1
    | _=>.bad) else .bad)
  simp only[ih]
def xO (n:Nat)(sg:GG):Prop:=∀d ρ ρ',sg d ρ=Z ρ'->ρ'.length=ρ.length/\∀i:Nat,n<=i->ρ'[i]?=ρ[i]?
def Ba (h:i<n):xO n (dY i):=λd ρ ρ' e=>by
 have e:Z (ρ.set i (Z d))=Z ρ':=e;cases e;exact⟨by rw[length_set],λj hj=>by rw[getElem?_set_ne (by omega)]⟩
theorem yC {n:Nat}:∀{is:List Nat} {ds:List D} {ρ ρ':bK},is.all (λi=>decide (i<n))=true->pe is ds ρ=Z ρ'->ρ'.length=ρ.length/\∀i:Nat,n<=i->ρ'[i]?=ρ[i]?
 | [],[],ρ,ρ',_,e=>by cases e;exact⟨rfl,λ_ _=>rfl⟩
 | [],_::_,_,_,_,e=>by cases e
 | _::_,[],_,_,_,e=>by cases e
 | i::is,d::ds,ρ,ρ',h,e=>by
  rw[all_cons,Bool.and_eq_true] at h;have hi:i<n:=by simpa using h.1
  obtain⟨a,b⟩:=yC h.2 (show pe is ds (ρ.set i (Z d))=Z ρ' from e);exact⟨by rw[a,length_set],λj hj=>by rw[b j hj,getElem?_set_ne (by omega)]⟩
def G8 (h:is.all (λi=>decide (i<n))=true):xO n (bB is):=λd ρ ρ' e=>by
 cases d with
 | tup ds=>exact yC h e
 | _=>cases e
def xO.back {sg:GG}{τ:L2.St}{ρ1:bK}(o:xO n sg)(e:sg d (List.replicate n Y++ρ)=Z ρ1)(h:j9 K θ H τ ρ1):j9 K θ H τ (List.replicate n Y++ρ):=by
 obtain⟨a,b⟩:=o _ _ _ e;refine⟨by rw[<-a];exact h.len,λi d' q=>?_⟩
 by_cases hi:i<n
 ·rw[getElem?_append_left (by rw[length_replicate];exact hi),getElem?_replicate,if_pos hi] at q;cases q
 ·rw[<-b i (by omega)] at q;exact h.at_ i d' q
def bq (gi:GI)(gc:GT)(ge:GE)(mk:List D->az->aX D):GE:=λρ M=>(gi ρ M).bind λt M1=>(gU t gc ge t.ds ρ M1).bind mk
def yF (elt target iter:Expr)(ifs:List Expr)(scope:Scope)(pos:Pos)(it acc:Value)(env:Env)(cond:Sem Bool)
  (hc:(forIn (m:=Sem) ifs true λc r=>if r=true then do let ok <-isTrue c env (eval c env);pure (ForInStep.yield ok) else pure (ForInStep.yield r))=cond) :
  compTurn (.ListComp elt [⟨target,iter,ifs,0⟩] scope pos) 0 it acc env=(standAt iter.pos >>= λ_=>pyNext it >>= λr=>match r with
   | none=>pure (.done .next)
   | some v=>letOwnedTupleGo target it v >>= λ_=>assign target env v >>= λ_=>cond >>= λok=>
    if ok=true then((eval elt env >>= λx=>call (.builtin "list.append") [acc,x] >>= λ_=>pure ()) >>= λ_=>
     again (.compLoop (.ListComp elt [⟨target,iter,ifs,0⟩] scope pos) 0 it acc env)) else again (.compLoop (.ListComp elt [⟨target,iter,ifs,0⟩] scope pos) 0 it acc env)):=by
 subst hc;rfl
section
variable {prog:Program}{w:World}{A:Around}{R:Result->Shared->Prop}{s:Shared}
def mB {elt target iter:Expr}{ifs:List Expr}{scope:Scope}{pos:Pos}{it acc:Value}{env:Env}{cond:Sem Bool}
  (hc:(forIn (m:=Sem) ifs true λc r=>if r=true then do let ok <-isTrue c env (eval c env);pure (ForInStep.yield ok) else pure (ForInStep.yield r))=cond) (I:Nat->Shared->Prop)
  (turn:∀n s,I n s->wpAny (model prog w) A (pyNext it) (λr s₁=>match r with
   | none=>R (.ok .next) s₁
   | some v=>wpAny (model prog w) A (letOwnedTupleGo target it v) (λ_ s₂=>wpAny (model prog w) A (assign target env v) (λ_ s₃=>wpAny (model prog w) A cond (λok s₄=>if ok=true then
     wpAny (model prog w) A (eval elt env) (λx s₅=>wpAny (model prog w) A (call (.builtin "list.append") [acc,x]) (λ_ s₆=>∃m,m<n/\I m s₆) (λ_ _=>False) s₅) (λ_ _=>False) s₄
     else∃m,m<n/\I m s₄) (λ_ _=>False) s₃) (λ_ _=>False) s₂) (λ_ _=>False) s₁) (λ_ _=>False) s)
  (n:Nat) (h:I n s):codeAny (model prog w) A (.compLoop (.ListComp elt [⟨target,iter,ifs,0⟩] scope pos) 0 it acc env) R s:=by
 refine codeAny_loop rfl I (λn s hI=>?_) n h;show wpAny _ _ ((compTurn (.ListComp elt [⟨target,iter,ifs,0⟩] scope pos) 0 it acc env).onRaise (λx=>do noteFrame x env;theTreesLotGoes x)) _ _ s;refine wpAny_noted ?_;rw[yF _ _ _ _ _ _ _ _ _ _ hc];refine wpAny_bind (wpAny_standAt (wpAny_bind (wpAny_mono (turn n s hI) (λr s₁ h₁=>?_) λ_ _ z=>z.elim)));cases r with
 | none=>exact wpAny_pure h₁
 | some v=>
  refine wpAny_bind (wpAny_mono h₁ (λ_ s₂ h₂=>?_) λ_ _ z=>z.elim);refine wpAny_bind (wpAny_mono h₂ (λ_ s₃ h₃=>?_) λ_ _ z=>z.elim);refine wpAny_bind (wpAny_mono h₃ (λok s₄ h₄=>?_) λ_ _ z=>z.elim);cases ok with
  | true=>
   rw[if_pos rfl] at h₄;rw[if_pos rfl];exact wpAny_bind (wpAny_bind (wpAny_mono h₄ (λx s₅ h₅=>wpAny_bind (wpAny_mono h₅ (λ_ s₆ h₆=>wpAny_pure (wpAny_pure ⟨rfl,h₆⟩)) λ_ _ z=>z.elim)) λ_ _ z=>z.elim))
  | false=>
   rw[if_neg Bool.false_ne_true] at h₄;rw[if_neg Bool.false_ne_true];exact wpAny_pure ⟨rfl,h₄⟩
theorem zZ {env:Env}:(forIn (m:=Sem) ([]:List Expr) true λc r=>if r=true then do let ok <-isTrue c env (eval c env);pure (ForInStep.yield ok) else pure (ForInStep.yield r))=pure true:=rfl
end
def Jt {b a c:Nat}(h:b<a)(e:c=a+1):b≠c:=by omega
def Ft {b a c:Nat}(h:b<c)(e:c=a):a≠b:=by omega
def wR {b a c:Nat}(h:b<c)(e:c=a):b≠a:=by omega
abbrev jh (its:List Value)(n:Nat):Obj:={cls:=.type "list",data:=.seq its.toArray n}
section
variable {X:Cx}{ag:List (Addr×Obj)}{σ:L2.St}{s:Shared}{scope:Scope}{xs:List Str}{tg:Expr}{sg:GG}{R:List Str}{elt iter:Expr}{ifs:List Expr}{pos:Pos}{E:Value->Shared->Prop}
def HC {σ:L2.St}(h:j9 K θ H σ ρ):j9 K θ H (List.replicate n Y++σ) (List.replicate n Y++ρ):=by
 refine⟨by rw[length_append,length_append,length_replicate,length_replicate,h.len],λi d e=>?_⟩
 by_cases hi:i<n
 ·rw[getElem?_append_left (by rw[length_replicate];exact hi),getElem?_replicate,if_pos hi] at e;cases e
 ·rw[getElem?_append_right (by rw[length_replicate];omega),length_replicate] at e ⊢;exact h.at_ _ d e
inductive S6 (X0:Cx) (fp:List Addr) (tn:Nat->Heap->Prop) (K:W.Frag) (acc:Addr) (t:uH) (ρ0:bK) (θ1:List Addr) (H2:Hp) (es:List D) (go:List D->az->aX (List D)) (Mend:az) (n:Nat) (s':Shared):Prop
 | mk (i:Nat) (τ:L2.St) (H':Hp) (θ':List Addr) (M':az) (ds rest:List D) (vs:List V) (its:List Value) (na:Nat) (e1:n=t.ds.length-i) (e2:i<=t.ds.length)
   (e3:L2.Inv X0 [(acc,jh its na)] τ H' s') (e4:j9 K θ' H' τ ρ0) (e5:tn i s'.heap) (e6:∀b∈fp,H' b=Y) (e7:Go K θ1 H2 θ' H' M') (e8:bt K θ' H' ds vs) (e9:ba vs its) (e10:go (t.ds.drop i) M'=.ok rest Mend) (e11:ds++rest=es)
theorem sQ {fp:List Addr}{it:Addr}{tn:Nat->Heap->Prop}{J:It}{H2:Hp}{s2:Shared}{t:uH}{M1:az}{θ1:List Addr}{gc:GT}{ge:GE}{es:List D}{Mend:az}{RR:Value->Addr->Result->Shared->Prop}
  (S:cZ scope X.env.kindOf xs R X.N) (hc:X.calm=true) (I2:L2.Inv X ag σ H2 s2) (T:Cm X.prog X.w X.K tg J fp it tn) (BZ:tn 0 s2.heap) (f2:∀b∈fp,ky X ag H2 b)
  (hw1:Wr X.K θ1 H2 M1) (hd1:j9 X.K θ1 H2 σ ρ) (hJ:Ip X.K J θ1 H2 t) (hgo:bF t xs.length sg gc ge t.ds ρ M1=.ok es Mend) (hlen:es.length<=sizeLine)
  (hcd:∀C,∃cond,(forIn (m:=Sem) ifs true λc r=>if r=true then do let ok <-isTrue c (aN X scope xs R fp s2 H2 C).env (eval c (aN X scope xs R fp s2 H2 C).env);pure (ForInStep.yield ok) else pure (ForInStep.yield r))=cond/\
   ∀(ag:List (Addr×Obj)) (s:Shared) (σ:L2.St) (H:Hp) (Q:Bool->Hp->Prop),L2.Inv (aN X scope xs R fp s2 H2 C) ag σ H s->tT (aN X scope xs R fp s2 H2 C) gc σ H Q->wpAny (model X.prog X.w) X.A cond (TP (aN X scope xs R fp s2 H2 C) ag σ Q) (λ_ _=>False) s)
  (own:xO xs.length sg) (hg:∀C,PG (aN X scope xs R fp s2 H2 C) tg (tG (aN X scope xs R fp s2 H2 C) sg))
  (he:∀C,PE (aN X scope xs R fp s2 H2 C) elt (tE (aN X scope xs R fp s2 H2 C) ge))
  (fin:∀(acc C:Addr) (s':Shared) (H':Hp) (θ':List Addr) (vs:List V) (m:Str->Option Value),L2.Inv X ag σ (cx H' acc (.lst vs)) s'->s'.heap.Ns C m->ky X ag (cx H' acc (.lst vs)) C->Go X.K θ1 H2 θ' H' Mend->H' acc=Y->bt X.K θ' H' es vs->RR (.ref acc) C (.ok .next) s') :
  wpAny (model X.prog X.w) X.A (newList []) (λacc s₃=>wpAny (model X.prog X.w) X.A (newFunctionEnv scope X.env.globals (fD X.env.cells scope.names []) [] X.env.qual Y .none (Z X.env)) (λcenv s₄=>
   codeAny (model X.prog X.w) X.A (.compStart (.ListComp elt [⟨tg,iter,ifs,0⟩] scope pos) 0 (.ref it) acc {cenv with scope:=relabel scope X.env}) (RR acc cenv.locals) s₄) E s₃) E s2:=by
 refine wpAny_newObj_type (wpAny_newFunctionEnv S.nocell (by intro y hy;simp at hy) (λh₁ hns₁ hsb₁=>?_) S.kind);dsimp only at hns₁ hsb₁ ⊢;generalize hHp:s2.heap.push {cls:=.type "list",dict:=Y,data:=.seq ([]:List Value).toArray}=Hp2 at hns₁ hsb₁ ⊢;have hCe:Hp2.objs.size=s2.heap.objs.size+1:=by rw[<-hHp,Heap.size_push]
 generalize hCd:Hp2.objs.size=C at hns₁ hsb₁ hCe ⊢;generalize hAd:s2.heap.objs.size=acc at hCe ⊢;have hDC:acc≠C:=by rw[hCe];exact Nat.ne_of_lt (Nat.lt_succ_self _)
 have old:∀b o,s2.heap.get? b=Z o->h₁.get? b=Z o:=λb o e=>by
  have hb:b<acc:=by rw[<-hAd];exact Heap.lt_size e
  refine hsb₁.extBut b o (Jt hb hCe) (Heap.get?_push_of_some _ ?_);rw[<-hHp];exact Heap.get?_push_of_some _ e
 have hacc0:h₁.get? acc=Z (jh [] 0):=by
  refine hsb₁.extBut acc _ hDC (Heap.get?_push_of_some _ ?_);rw[<-hHp,<-hAd];exact Heap.get?_push_size _ rfl
 have hfl:∀b∈fp,b<s2.heap.objs.size:=λb hb=>by
  obtain⟨o,e,_⟩:=T.obj 0 _ BZ b hb;exact Heap.lt_size e
 have hCs:s2.heap.objs.size<=C:=by omega
 have IY0:L2.Inv (aN X scope xs R fp s2 H2 C) [] (List.replicate xs.length Y++σ) H2 {s2 with heap:=h₁,toks:=s2.toks+([]:List (Str×Value)).length}:=DM S I2 hCs old hns₁ f2 hfl;obtain⟨cond,hcond,hct⟩:=hcd C;have fpY:∀{H':Hp} {p:Obj},(∀b∈fp,H' b=Y)->∀b∈fp,ky (aN X scope xs R fp s2 H2 C) [(acc,p)] H' b:=λ{H' p} hn b hb=>by
  refine⟨hn b hb,?_,λz=>?_,.inl hb,λy c e=>?_,λq hq=>?_⟩
  ·exact Nat.ne_of_lt (Nat.lt_of_lt_of_le (hfl b hb) hCs)
  ·rcases mem_cons.mp (I2.stkSub b z) with e|e
   ·exact(f2 b hb).2.1 e
   ·exact(f2 b hb).2.2.1 e
  ·exact(f2 b hb).2.2.2.2.1 y c (dU S I2 e)
  ·have hq:q∈([]:List (Addr×Obj))++[(acc,p)]:=hq;have e:q=(acc,p):=by simpa using hq
   rw[e];exact Ft (hfl b hb) hAd
 have accF:∀b∈sG X.stack,acc≠b:=λb hb e=>by
  have:acc∉X.env.locals::X.fs:=by
   intro z;rcases mem_cons.mp z with z|z
   ·exact Ft I2.lt hAd z
   ·exact I2.nofs (Nat.le_of_eq hAd) z
  exact this (e▸I2.stkSub b hb)
 have loop:∀s₃:Shared,s₃={s2 with heap:=h₁,toks:=s2.toks+([]:List (Str×Value)).length}->
   codeAny (model X.prog X.w) X.A (.compLoop (.ListComp elt [⟨tg,iter,ifs,0⟩] scope pos) 0 (.ref it) (.ref acc) (aN X scope xs R fp s2 H2 C).env) (RR (.ref acc) C) s₃:=by
  rintro s₃ rfl;have pin0:∀{σ':L2.St} {H':Hp} {s':Shared} {its:List Value} {n:Nat},L2.Inv (aN X scope xs R fp s2 H2 C) [] σ' H' s'->s'.heap.get? acc=Z (jh its n)->H' acc=Y->L2.Inv (aN X scope xs R fp s2 H2 C) [(acc,jh its n)] σ' H' s':=λ{σ' H' s' its n} I' e hn=>
   I'.pins_of λp hp=>by
    have ep:p=(acc,jh its n):=by simpa using hp
    subst ep;exact⟨e,hn,hDC,λz=>accF acc z rfl,λv z=>by cases z⟩
  refine mB hcond (S6 (aN X scope xs R fp s2 H2 C) fp tn X.K acc t (List.replicate xs.length Y++ρ) θ1 H2 es (λl N=>bF t xs.length sg gc ge l ρ N) Mend) ?_ t.ds.length
   ⟨0,_,H2,θ1,M1,[],es,[],[],0,rfl,Nat.zero_le _,pin0 IY0 hacc0 (I2.hok.fresh (Nat.le_of_eq hAd)),HC hd1,T.keep 0 _ _ BZ (λb hb o e=>old b o e),λb hb=>(f2 b hb).1,.refl hw1,rfl,.nil,hgo,rfl⟩
  rintro n s' ⟨i,τ,H',θ',M',ds,rest,vs,its,na,rfl,hil,I',dn',st',fr',g',rd',rv',hrest,hes⟩;have hok:t.ok M'=true:=by
   cases hq:t.ok M' with
   | true=>rfl
   | false=>
    exfalso;cases hdr:t.ds.drop i with
    | nil=>rw[hdr,bF,if_neg (by rw[hq];exact Bool.false_ne_true)] at hrest;cases hrest
    | cons d r=>rw[hdr,bF,if_neg (by rw[hq];exact Bool.false_ne_true)] at hrest;cases hrest
  obtain⟨hy,hst⟩:=hJ θ' H' M' g' hok i
  by_cases hlt:i<t.ds.length
  ·have e1:t.ds[i]?=Z t.ds[i]:=getElem?_eq_getElem hlt;obtain⟨hgo',hyl⟩:=hy _ e1;rw[drop_eq_getElem_cons hlt,bF,if_pos hok] at hrest;refine cK (T.item (aN X scope xs R fp s2 H2 C) rfl rfl rfl hc i _ s' _ H' _ I' (fpY fr') st' hgo') λr s4 hxx=>?_
   obtain⟨u,hr,h4⟩:=hxx;subst hr;refine cK h4 λ_ s5 hxx=>?_
   obtain⟨v,H5,I5,r5,y5,st5,fr5⟩:=hxx;obtain⟨gy,rx⟩:=hyl v H5 y5;have I5':=I5.pinned (fpY fr5) (T.obj _ _ st5);cases qs:sg t.ds[i] (List.replicate xs.length Y++ρ) with
   | none=>rw[qs] at hrest;cases hrest
   | some ρ1=>
   rw[qs] at hrest;dsimp only at hrest;refine cK (hg C _ s5 _ H5 v u (λσ6 H6=>j9 X.K θ' H6 σ6 ρ1/\H6=H5) I5' r5 ⟨_,θ',M',t.ds[i],dn'.go gy,gy.wr,rx,ρ1,qs,λσ6 d6=>⟨d6,rfl⟩⟩) λ_ s6 hxx=>?_
   obtain⟨σ6,H6,I6,hdY,eH6⟩:=hxx;subst eH6;cases qc:gc ρ1 M' with
   | bad=>rw[qc] at hrest;cases hrest
   | err c Mx=>rw[qc] at hrest;cases hrest
   | ok b Mb=>
    refine cK (hct _ s6 _ H6 (λb' H7=>b'=b/\∃θ7,Go X.K θ' H6 θ7 H7 Mb) I6 ⟨_,θ',M',hdY,gy.wr,?_⟩) λok s7 ⟨H7,I7,eb,θ7,g7⟩=>?_
    ·rw[qc];exact λθ7 H7 g7=>⟨rfl,θ7,g7⟩
    subst eb;have fpk:∀{s8:Shared} {σ8:L2.St} {H8:Hp},L2.Inv (aN X scope xs R fp s2 H2 C) ([(acc,jh its na)]++tX fp s5.heap) σ8 H8 s8->(∀b∈fp,H8 b=Y)/\(∀b∈fp,∀o,s5.heap.get? b=Z o->s8.heap.get? b=Z o)/\s8.heap.get? acc=Z (jh its na)/\H8 acc=Y:=λ{s8 σ8 H8} I8=>by
     have pa:=I8.pin (acc,jh its na) (mem_append_right _ (mem_append_left _ (by simp)));refine⟨λb hb=>?_,λb hb o e=>(I8.pin (b,o) (mem_append_right _ (mem_append_right _ (lA hb e)))).1,pa.1,pa.2.1⟩;obtain⟨o,e,d⟩:=T.obj _ _ st5 b hb;exact(I8.pin (b,o) (mem_append_right _ (mem_append_right _ (lA hb e)))).2.1
    cases ok with
    | false=>
     rw[if_neg Bool.false_ne_true];rw[qc] at hrest;obtain⟨k1,k2,k3,k4⟩:=fpk I7;exact⟨t.ds.length-(i+1),by omega,i+1,σ6,H7,θ7,Mb,ds,rest,vs,its,na,rfl,hlt,I7.unpinned,own.back qs (hdY.go g7),T.keep _ _ _ st5 k2,k1,g'.trans (gy.trans g7),rd'.go (gy.trans g7),rv',hrest,hes⟩
    | true=>
     rw[if_pos rfl];rw[qc] at hrest;have hrest:(match ge ρ1 Mb with
      | .ok e M2=>(bF t xs.length sg gc ge (t.ds.drop (i+1)) ρ M2).bind λes M3=>.ok (e::es) M3
      | _=>.bad)=aX.ok rest Mend:=hrest
     cases qe:ge ρ1 Mb with
     | bad=>rw[qe] at hrest;cases hrest
     | err c Mx=>rw[qe] at hrest;cases hrest
     | ok dv Mv=>
      rw[qe] at hrest;have hrest:((bF t xs.length sg gc ge (t.ds.drop (i+1)) ρ Mv).bind λes M3=>aX.ok (dv::es) M3)=aX.ok rest Mend:=hrest;refine cK (he C _ s7 _ H7 (λw H8=>∃θ8,Go X.K θ7 H7 θ8 H8 Mv/\dC X.K θ8 H8 dv w) I7 ⟨_,θ7,Mb,hdY.go g7,g7.wr,?_⟩) λuv s8 ⟨w,H8,I8,rw8,θ8,g8,rd8⟩=>?_
      ·rw[qe];exact λw θ8 H8 g8 rd8=>⟨θ8,g8,rd8⟩
      obtain⟨k1,k2,k3,k4⟩:=fpk I8;cases qr:bF t xs.length sg gc ge (t.ds.drop (i+1)) ρ Mv with
      | bad=>rw[qr] at hrest;cases hrest
      | err c Mx=>rw[qr] at hrest;cases hrest
      | ok rest' Mr=>
       rw[qr] at hrest;have hrest:aX.ok (dv::rest') Mr=aX.ok rest Mend:=hrest;cases hrest;have hsz:its.length<sizeLine:=by
        have e2:(ds++dv::rest').length<=sizeLine:=by rw[hes];exact hlen
        rw[length_append,length_cons,aA rd',rv'.length] at e2;omega
       refine call_meets F.slot_list_append ⟨_,k3,rfl⟩ F.entry_list_append (F.args_list_append_2 _ _) (PySem.list_append acc its.toArray na uv (by rw[size_toArray];omega)) ⟨k3,?_⟩;have qup:=PySem.IsL.update k3 (λa=>a.push uv);have eup:(its.toArray.push uv)=(its++[uv]).toArray:=by simp
       have keepb:∀b o,b≠acc->s8.heap.get? b=Z o->(s8.heap.update acc (Obj.mapSeq λa=>a.push uv)).get? b=Z o:=λb o hb e=>(Heap.get?_update_other s8.heap _ (Ne.symm hb)).trans e
       have I9:L2.Inv (aN X scope xs R fp s2 H2 C) [] σ6 H8 {s8 with heap:=s8.heap.update acc (Obj.mapSeq λa=>a.push uv),toks:=s8.toks}:=by
        refine Inv.turned (it:=acc) (I8.pins_of (pins':=[]) λp hp=>absurd hp (by simp)) keepb k4 hDC (.inr (Nat.le_of_eq hAd)) (λy c e z=>?_) λp hp=>absurd (show p∈([]:List (Addr×Obj)) from hp) (by simp)
        obtain⟨v',o,ho,hdd⟩:=I2.cell y c (dU S I2 e);exact wR (Heap.lt_size ho) hAd z
       obtain⟨n',eq'⟩:∃n',(s8.heap.update acc (Obj.mapSeq λa=>a.push uv)).get? acc=Z (jh (its++[uv]) n'):=by
        have q2:=qup;rw[eup] at q2;exact⟨_,q2⟩
       exact⟨t.ds.length-(i+1),by omega,i+1,σ6,H8,θ8,Mv,ds++[dv],rest',vs++[w],its++[uv],n',rfl,hlt,pin0 I9 eq' k4,own.back qs (hdY.go (g7.trans g8)),T.keep _ _ _ st5 (λb hb o e=>keepb b o (wR (hfl b hb) hAd) (k2 b hb o e)),k1,g'.trans (gy.trans (g7.trans g8)),ck (rd'.go (gy.trans (g7.trans g8))) ⟨w,[],rfl,rd8,rfl⟩,rv'.append (.cons rw8 .nil),qr,by rw[<-hes];simp⟩
  ·have e:i=t.ds.length:=by omega
   subst e;rw[drop_length,bF,if_pos hok] at hrest;cases hrest;have hes:ds=es:=by rw[<-hes];simp
   subst hes;refine cK (T.done (aN X scope xs R fp s2 H2 C) rfl rfl rfl hc _ _ s' _ H' _ I' (fpY fr') st' (hst (Nat.le_refl _))) λr s4 hxx=>?_
   obtain⟨hr,I4⟩:=hxx;subst hr;have pa:=I4.pin (acc,jh its na) (mem_append_right _ (by simp));have e4:s4.heap.get? acc=Z (jh its na):=pa.1;have n4:H' acc=Y:=pa.2.1;have lv:vs.length<=sizeLine:=by rw[<-aA rd'];exact hlen
   obtain⟨mC,hnC,_⟩:=I4.loc;have hHC:H' C=Y:=I4.free;have CV:Un (sG X.stack) fp H2 H' s2.heap s4.heap:=I4.base;have neA:∀{b:Addr} {o:Obj},s2.heap.get? b=Z o->b≠acc:=λ{b o} e=>wR (Heap.lt_size e) hAd
   have neH:∀{b:Addr} {u:HO},H' b=Z u->b≠acc:=λ{b u} e z=>by rw[z,n4] at e;cases e
   have un4:Un (sG X.stack) fp H2 (cx H' acc (.lst vs)) s2.heap s4.heap:=by
    refine⟨CV.keep,CV.slot,λb o e n hx=>?_,CV.there,λb xs e=>?_,λb o u e=>?_,λb ps e=>?_⟩
    ·rw[aB (neA e)];exact CV.free b o e n hx
    ·have z:=CV.tups b xs e;rw[aB (neH z)];exact z
    ·have z:=CV.frzs b o u e;rw[aB (neH z)];exact z
    ·obtain⟨more,z⟩:=CV.tbls b ps e;exact⟨more,by rw[aB (neH z)];exact z⟩
   have hok4:mz X.prog X.w (cx H' acc (.lst vs)) s4.heap:=λb u e=>by
    by_cases hb:b=acc
    ·subst hb;rw[bJ] at e;cases e;exact⟨lv,its,na,rv',e4⟩
    ·rw[aB hb] at e;exact(I4.hok b u e).stay (λc v _ q=>q) (λc q=>by rw[aB (neH q)];exact q) λc xs q=>by rw[aB (neH q)];exact q
   have IX:L2.Inv X ag σ (cx H' acc (.lst vs)) s4:=I2.call' (ch:=fp) I4.os un4 hok4 I4.bare λb hb=>⟨(f2 b hb).2.2.2.1,(f2 b hb).2.1,(f2 b hb).2.2.2.2.1,(f2 b hb).2.2.2.2.2⟩
   refine fin acc C s4 H' θ' vs mC IX hnC (I2.fpOk hCs ?_) g' n4 rd';rw[aB (Ne.symm hDC)];exact hHC
 exact codeAny_compStart_list (loop _ rfl) (T.self _ 0 _ _ _ (T.keep 0 _ _ BZ λb hb o e=>old b o e) (loop _ rfl))
end
variable{mk:List D->az->aX D}
section
variable {X:Cx}{scope:Scope}{xs:List Str}{tg:Expr}{sg:GG}{x:Str}{px:Pos}{R:List Str}{elt iter:Expr}{ifs:List Expr}{pos:Pos}{gi:GI}{gc:GT}{ge:GE}
def NM (mk:List D->az->aX D):Prop:=∀(X:Cx) (θ:List Addr) (H:Hp) (Q:VK) (ds:List D) (M:az) (vs:List V),aM X θ H Q (mk ds M)->Wr X.K θ H M->bt X.K θ H ds vs->vs.length<=sizeLine/\∀p,H p=Y->Q (.ref p) (cx H p (.lst vs))
def E6:NM aP:=λX θ H Q ds M vs h hw r=>aM.lst h hw r
def F5:NM dS:=λX θ H Q ds M vs h hw r=>aM.mut h hw r
def Gv (hm:mk=aP\/mk=dS){X:Cx}{Q:VK}(h:aM X θ H Q (mk ds M)):ds.length<=sizeLine:=by
 rcases hm with e|e <;> subst e
 ·unfold aP at h;split at h
  ·assumption
  ·exact h.elim
 ·unfold dS at h;split at h
  ·assumption
  ·exact h.elim
def Kh (hm:mk=aP\/mk=dS):NM mk:=by
 rcases hm with e|e <;> subst e
 ·exact E6
 ·exact F5
def mV (X:Cx)(scope:Scope)(xs:List Str)(R:List Str)(ifs:List Expr)(gc:GT):Prop:=∀fp s2 H2 C,∃cond,(forIn (m:=Sem) ifs true λc r=>if r=true then do let ok <-isTrue c (aN X scope xs R fp s2 H2 C).env (eval c (aN X scope xs R fp s2 H2 C).env);pure (ForInStep.yield ok) else pure (ForInStep.yield r))=cond/\
   ∀(ag:List (Addr×Obj)) (s:Shared) (σ:L2.St) (H:Hp) (Q:Bool->Hp->Prop),L2.Inv (aN X scope xs R fp s2 H2 C) ag σ H s->tT (aN X scope xs R fp s2 H2 C) gc σ H Q->wpAny (model X.prog X.w) X.A cond (TP (aN X scope xs R fp s2 H2 C) ag σ Q) (λ_ _=>False) s
def Ej:mV X scope xs R [] cb:=λfp s2 H2 C=>⟨_,zZ,λag s σ H Q I ⟨ρ,θ,M,hd,hw,h⟩=>wpAny_pure ⟨H,I,h θ H (.refl hw)⟩⟩
theorem kD {t:uH}{n:Nat}{sg:GG}{gc:GT}{ge:GE}{ρ:bK}{c:Str}{M':az}:∀(ds:List D) (M:az),bF t n sg gc ge ds ρ M=.err c M'->False
 | [],M,h=>by
  unfold bF at h;split at h <;> cases h
 | d::r,M,h=>by
  unfold bF at h;split at h
  ·split at h
   ·cases h
   ·split at h
    ·rename_i M1 q1;split at h
     ·rename_i e M2 q2;cases q:bF t n sg gc ge r ρ M2 with
      | ok es M3=>rw[q] at h;cases h
      | err c2 M3=>exact kD r M2 q
      | bad=>rw[q] at h;cases h
     ·cases h
    ·rename_i M1 q1;exact kD r M1 h
    ·cases h
  ·cases h
def xZ (hS:cR scope X.env.kindOf xs R X.N=true)(hc:X.calm=true)(hm:mk=aP\/mk=dS)(hi:PI X tg iter (tI X gi))(own:xO xs.length sg)(hg:∀fp s H C,PG (aN X scope xs R fp s H C) tg (tG (aN X scope xs R fp s H C) sg))(hts:mV X scope xs R ifs gc)
  (he:∀fp s H C,PE (aN X scope xs R fp s H C) elt (tE (aN X scope xs R fp s H C) ge))
  (hs:∀x,foldedSetIterable iter X.env x=pure x:=by intro _;rfl):PE X (.ListComp elt [⟨tg,iter,ifs,0⟩] scope pos) (tE X (bY gi xs.length sg gc ge mk)):=by
 have S:=cZ.of hS;intro ag s σ H Q I h;obtain⟨ρ,θ,M,hd,hw,h⟩:=h;rw[eval_ListComp];refine wpAny_comprehension_free (use:=Y) rfl hs (pb (S.cells I)) S.kind S.lnames ?_;refine cK (hi ag s σ H (λJ H2=>∃t M1 θ1,gi ρ M=.ok t M1/\Go X.K θ H θ1 H2 M1/\Ip X.K J θ1 H2 t) I ⟨ρ,θ,M,hd,hw,?_⟩) λv s1 h1=>cK h1 λitv s2 h2=>?_
 ·cases q:gi ρ M with
  | ok t M1=>exact λJ θ1 H1 g1 hJ=>⟨t,M1,θ1,rfl,g1,hJ⟩
  | err c M1=>unfold bY at h;rw[q] at h;exact h
  | bad=>unfold bY at h;rw[q] at h;exact h
 obtain⟨it,fp,tn,J,H2,rfl,I2,T,BZ,f2,t,M1,θ1,eg,g1,hJ⟩:=h2;unfold bY at h;rw[eg] at h;have h:aM X θ H Q ((bF t xs.length sg gc ge t.ds ρ M1).bind mk):=h;cases q:bF t xs.length sg gc ge t.ds ρ M1 with
 | bad=>rw[q] at h;exact h.elim
 | err c Mx=>exact(kD _ _ q).elim
 | ok es Mend=>
  rw[q] at h;have h:aM X θ H Q (mk es Mend):=h;refine sQ (RR:=λacc C=>compPost (model X.prog X.w) X.A X.xe Y (EP X ag σ Q) acc C) S hc I2 T BZ f2 g1.wr (hd.go g1) hJ q (Gv hm h) (λC=>hts fp s2 H2 C) own (λC=>hg fp s2 H2 C) (λC=>he fp s2 H2 C) ?_;intro acc C s' H' θ' vs m IX hnC fC g' na rd;refine⟨m,hnC,λh' sb=>?_⟩;have I3:L2.Inv X ag σ (cx H' acc (.lst vs)) {s' with heap:=h',toks:=s'.toks}:=IX.turned (it:=C) (λb o hb e=>(sb.2 b hb).trans e) fC.1 fC.2.1 fC.2.2.2.1 fC.2.2.2.2.1 fC.2.2.2.2.2;exact⟨.ref acc,_,I3,rfl,(Kh hm X θ' H' Q es Mend vs (aM.go (g1.trans g') h) g'.wr rd).2 acc na⟩
def qQ {j:Nat}{py spos:Pos}(hS:cR scope X.env.kindOf xs R X.N=true)(hc:X.calm=true)(hm:mk=aP\/mk=dS)(hi:PI X tg iter (tI X gi))(own:xO xs.length sg)(hg:∀fp s H C,PG (aN X scope xs R fp s H C) tg (tG (aN X scope xs R fp s H C) sg))(hts:mV X scope xs R ifs gc)
  (he:∀fp s H C,PE (aN X scope xs R fp s H C) elt (tE (aN X scope xs R fp s H C) ge))
  (hN:X.N.Nodup) (hj:X.N[j]?=Z y) (hy:X.env.scope.names.lookup y=Z .local)
  (hsw:swapsWith (.ListComp elt [⟨tg,iter,ifs,0⟩] scope pos) (Z (.Name y py)) spos.line X.env=pure true)
  (hs:∀x,foldedSetIterable iter X.env x=pure x:=by intro _;rfl):PS X (.Assign [.Name y py] (.ListComp elt [⟨tg,iter,ifs,0⟩] scope pos) spos) (tS X (aL j (bY gi xs.length sg gc ge mk))):=by
 have S:=cZ.of hS;intro ag s σ H Q I h;obtain⟨ρ,θ,M,hd,hw,h⟩:=h;rw[exec_Assign_Name_used _ _ _ _ hsw];refine wpAny_bind (wpAny_standAt (wpAny_bind ?_));show wpAny _ X.A (do let _ <-comprehension (.ListComp elt [⟨tg,iter,ifs,0⟩] scope pos) scope X.env _ (newList []) false (eval iter X.env) (Z (assign (.Name y py) X.env))) _ _ s;refine wpAny_bind (wpAny_mono (wpAny_comprehension_free (use:=Z (assign (.Name y py) X.env)) (Q:=λ_ s'=>SP X ag Q .next s') rfl hs (pb (S.cells I)) S.kind S.lnames ?_) (λ_ s' hq=>wpAny_pure (wpAny_pure hq)) λ_ _ e=>e);refine cK (hi ag s σ H (λJ H2=>∃t M1 θ1,gi ρ M=.ok t M1/\Go X.K θ H θ1 H2 M1/\Ip X.K J θ1 H2 t) I ⟨ρ,θ,M,hd,hw,?_⟩) λv s1 h1=>cK h1 λitv s2 h2=>?_
 ·cases q:gi ρ M with
  | ok t M1=>exact λJ θ1 H1 g1 hJ=>⟨t,M1,θ1,rfl,g1,hJ⟩
  | err c M1=>unfold aL bY at h;rw[q] at h;exact h
  | bad=>unfold aL bY at h;rw[q] at h;exact h
 obtain⟨it,fp,tn,J,H2,rfl,I2,T,BZ,f2,t,M1,θ1,eg,g1,hJ⟩:=h2;unfold aL bY at h;rw[eg] at h;have h:bZ X θ H Q (((bF t xs.length sg gc ge t.ds ρ M1).bind mk).bind λd M2=>.ok (.nx (ρ.set j (Z d))) M2):=h;cases q:bF t xs.length sg gc ge t.ds ρ M1 with
 | bad=>rw[q] at h;exact h.elim
 | err c Mx=>exact(kD _ _ q).elim
 | ok es Mend=>
  rw[q] at h;have h:bZ X θ H Q ((mk es Mend).bind λd M2=>.ok (.nx (ρ.set j (Z d))) M2):=h;have hE:aM X θ H (λv H'=>∃θ' M',Go X.K θ H θ' H' M'/\∃d,mk es Mend=.ok d M'/\dC X.K θ' H' d v) (mk es Mend):=by
   cases qm:mk es Mend with
   | ok d M2=>exact λv θ' H' g' r=>⟨θ',M2,g',d,rfl,r⟩
   | err c M2=>rw[qm] at h;exact h
   | bad=>rw[qm] at h;exact h
  refine sQ (RR:=λacc C=>compPost (model X.prog X.w) X.A X.xe (Z (assign (.Name y py) X.env)) (λ_ s'=>SP X ag Q .next s') acc C) S hc I2 T BZ f2 g1.wr (hd.go g1) hJ q (Gv hm hE) (λC=>hts fp s2 H2 C) own (λC=>hg fp s2 H2 C) (λC=>he fp s2 H2 C) ?_;intro acc C s' H' θ' vs m IX hnC fC g' na rd;obtain⟨θe,Me,ge',d,ed,rde⟩:=(Kh hm X θ' H' _ es Mend vs (aM.go (g1.trans g') hE) g'.wr rd).2 acc na;show wpAny _ X.A (assign (.Name y py) X.env (.ref acc)) _ _ s';refine wpAny_assign_Name (wa IX hN hj (.inl hy) (v:=.ref acc) rfl (λs3 I3 hxx=>?_) (.inr hy));obtain⟨a,sa,ha⟩:=hxx;have hCa:C≠a:=by
   rcases ha with e|e
   ·rw[e];exact fC.2.1
   ·exact λz=>fC.2.2.2.2.1 y a e z.symm
  refine⟨m,hnC.sameBut sa hCa,λh' sb=>?_⟩;have I4:L2.Inv X ag (σ.set j (Z (.ref acc))) (cx H' acc (.lst vs)) {s3 with heap:=h',toks:=s3.toks}:=I3.turned (it:=C) (λb o hb e=>(sb.2 b hb).trans e) fC.1 fC.2.1 fC.2.2.2.1 fC.2.2.2.2.1 fC.2.2.2.2.2;rw[ed] at h;exact⟨_,_,I4,h _ θe _ ge' ((hd.go ge').set rde j)⟩
def BK {px:Pos}(hS:cR scope X.env.kindOf [x] R X.N=true)(fp:List Addr)(s:Shared)(H:Hp)(C:Addr):PG (aN X scope [x] R fp s H C) (.Name x px) (tG (aN X scope [x] R fp s H C) (dY 0)):=
 have S:=cZ.of hS
 xm (X:=aN X scope [x] R fp s H C) S.nd rfl (.inl (lookup_relabel_local (S.own x (by simp)))) (.inr (lookup_relabel_local (S.own x (by simp))))
def A7 (mk:List D->az->aX D):bq gi gc ge mk=bY gi 1 (dY 0) gc ge mk:=by
 funext ρ M;unfold bq bY;simp only[xW]
def Jb (hS:cR scope X.env.kindOf [x] R X.N=true)(hc:X.calm=true)(hm:mk=aP\/mk=dS)(hi:PI X (.Name x px) iter (tI X gi))(hts:mV X scope [x] R ifs gc)
  (he:∀fp s H C,PE (aN X scope [x] R fp s H C) elt (tE (aN X scope [x] R fp s H C) ge))
  (hs:∀x,foldedSetIterable iter X.env x=pure x:=by intro _;rfl):PE X (.ListComp elt [⟨.Name x px,iter,ifs,0⟩] scope pos) (tE X (bq gi gc ge mk)):=by
 rw[A7];exact xZ (xs:=[x]) hS hc hm hi (Ba (Nat.zero_lt_one)) (BK hS) hts he hs
def zE {j:Nat}{py spos:Pos}(hS:cR scope X.env.kindOf [x] R X.N=true)(hc:X.calm=true)(hm:mk=aP\/mk=dS)(hi:PI X (.Name x px) iter (tI X gi))(hts:mV X scope [x] R ifs gc)
  (he:∀fp s H C,PE (aN X scope [x] R fp s H C) elt (tE (aN X scope [x] R fp s H C) ge))
  (hN:X.N.Nodup) (hj:X.N[j]?=Z y) (hy:X.env.scope.names.lookup y=Z .local)
  (hsw:swapsWith (.ListComp elt [⟨.Name x px,iter,ifs,0⟩] scope pos) (Z (.Name y py)) spos.line X.env=pure true)
  (hs:∀x,foldedSetIterable iter X.env x=pure x:=by intro _;rfl):PS X (.Assign [.Name y py] (.ListComp elt [⟨.Name x px,iter,ifs,0⟩] scope pos) spos) (tS X (aL j (bq gi gc ge mk))):=by
 rw[A7];exact qQ (xs:=[x]) hS hc hm hi (Ba (Nat.zero_lt_one)) (BK hS) hts he hN hj hy hsw hs
end
def cU:List D->Option (List Bool)
 | []=>Z []
 | .bl b::r=>(cU r).map (b::·)
 | _=>Y
def kL:FD:=λds M=>match ds with
 | [d]=>match bN d M with
  | some xs=>match cU xs with
   | some bs=>.ok (.bl (bs.all id)) M
   | none=>.bad
  | none=>.bad
 | _=>.bad
theorem nH {K:W.Frag}{θ:List Addr}{H:Hp}:∀{ds:List D} {vs:List V} {us:List Value} {bs:List Bool},bt K θ H ds vs->ba vs us->cU ds=Z bs->us=bs.map Value.bool
 | [],vs,us,bs,r,q,e=>by
  have e1:vs=[]:=r;subst e1;cases q;cases e;rfl
 | d::ds,vs,us,bs,r,q,e=>by
  obtain⟨v,rr,e1,h1,h2⟩:=r;subst e1;cases d with
  | bl b=>
   cases qb:cU ds with
   | none=>simp[cU,qb] at e
   | some bs'=>
    simp[cU,qb] at e;subst e;have e2:v=.bl b:=h1;subst e2;cases q with
    | cons q1 q2=>
     cases q1;rw[map_cons,nH h2 q2 qb]
  | _=>simp[cU] at e
def C9 (bs:List Bool):(List.range bs.length).all (λi=>bs.getD i false)=bs.all id:=by
 rw[Bool.eq_iff_iff];simp only[all_eq_true,mem_range,id];constructor
 ·intro h b hb;obtain⟨i,hi,e⟩:=mem_iff_getElem.mp hb;have:=h i hi;rw[getD_eq_getElem?_getD,getElem?_eq_getElem hi] at this;rw[<-e];exact this
 ·intro h i hi;rw[getD_eq_getElem?_getD,getElem?_eq_getElem hi];exact h _ (getElem_mem hi)
section
variable {X:Cx}
def qH {prog:Program}(bs:List Bool):TruthOf prog w A (λi v=>((bs.map Value.bool).toArray)[i]?=Z v) (λi=>bs.getD i false):=λi v s Q E hP hQ=>by
 have hP:(bs.map Value.bool)[i]?=Z v:=by simpa using hP
 rw[getElem?_map] at hP;cases q:bs[i]? with
 | none=>rw[q] at hP;cases hP
 | some b=>
  rw[q] at hP;cases hP;have e:bs.getD i false=b:=by rw[getD_eq_getElem?_getD,q];rfl
  dsimp only at hQ;rw[e] at hQ;exact wpAny_truthy_bool hQ
def zl {xs:List D}{bs:List Bool}(hc:X.calm=true)(I:L2.Inv X ag σ H s)(hw:Wr X.K θ H M)(rv:dC X.K θ H d v)(ru:RelV v u)(q:bN d M=Z xs)(qb:cU xs=Z bs){Q:Bool->Hp->Prop}{f:(Nat->Bool)->Nat->Bool}{E:Value->Shared->Prop}
  (h:∀h' tk,L2.Inv X ag σ H {s with heap:=h',toks:=tk}->Q (f (λi=>bs.getD i false) bs.length) H) :
  wpAny (model X.prog X.w) X.A.in1 (pyIter u) (λit s₂=>∃I fp wr n P St tr,it=.ref I/\Walks X.prog X.w X.A.in1 I fp wr n P St/\St 0 s₂.heap/\TruthOf X.prog X.w X.A.in1 P tr/\
   ∀h' tk,(∀b o,b∉wr->s₂.heap.get? b=Z o->h'.get? b=Z o)->EP X ag σ (λv H=>∃b,v=.bl b/\Q b H) (.bool (f tr n)) {s₂ with heap:=h',toks:=tk}) E s:=by
 have hh:X.A.in1.handled=Y:=I.ok.hd hc;obtain⟨a,vs,ea,sq,ra⟩:=pW hw rv q;subst ea;cases ru;rcases sq with sq|sq
 ·obtain⟨its,r1,p,hz⟩:=I.list sq;have e:=nH ra r1 qb;subst e;have hlt:a<s.heap.objs.size:=by obtain⟨o,n,e,_⟩:=p;exact Heap.lt_size e
  refine wpAny_pyIter_list p.isList ⟨s.heap.objs.size,_,_,_,_,_,_,rfl,Walks.list hh s.heap.objs.size a (Nat.ne_of_lt hlt) _,⟨⟨_,Heap.get?_push_size _ rfl,rfl,rfl⟩,p.isList.push _⟩,qH bs,λh' tk k=>?_⟩;have I':L2.Inv X ag σ H {s with heap:=h',toks:=tk}:=I.kept λb o e=>k b o (by have:=Heap.lt_size e;simp;exact Nat.ne_of_lt this) (Heap.get?_push_of_some _ e)
  refine⟨.bl _,H,I',rfl,_,rfl,?_⟩;have:=h h' tk I';simpa using this
 ·obtain⟨its,r1,p,hz⟩:=I.tuple sq;have e:=nH ra r1 qb;subst e;have hlt:a<s.heap.objs.size:=by obtain⟨o,e,_⟩:=p;exact Heap.lt_size e
  have pt:s.heap.IsTuple a (bs.map Value.bool).toArray:=p;refine wpAny_pyIter_tuple pt ⟨s.heap.objs.size,_,_,_,_,_,_,rfl,Walks.tuple hh s.heap.objs.size a (Nat.ne_of_lt hlt) _,⟨⟨_,Heap.get?_push_size _ rfl,rfl,rfl⟩,?_⟩,qH bs,λh' tk k=>?_⟩
  ·obtain⟨o,e,r⟩:=p;exact⟨o,Heap.get?_push_of_some _ e,r⟩
  have I':L2.Inv X ag σ H {s with heap:=h',toks:=tk}:=I.kept λb o e=>k b o (by have:=Heap.lt_size e;simp;exact Nat.ne_of_lt this) (Heap.get?_push_of_some _ e)
  refine⟨.bl _,H,I',rfl,_,rfl,?_⟩;have:=h h' tk I';simpa using this
def Lr (hc:X.calm=true):d9 X (.builtin "all") (rC X kL):=by
 intro ag s σ H xs us Q I r h;obtain⟨θ,M,ds,hw,rd,h⟩:=h;unfold kL at h;split at h
 ·rename_i d;obtain⟨v,e,rv⟩:=jP rd;subst e;obtain⟨u,rfl,ru⟩:=nC r;split at h
  ·rename_i ys q;split at h
   ·rename_i bs qb;refine cK (call_all_walk (zl hc I hw rv ru q qb (Q:=λb H=>Q (.bl b) H) (f:=λtr n=>(List.range n).all tr) (λh' tk I'=>?_))) λu' s' ⟨v',H',I',r',b,eb,q'⟩=>⟨v',H',I',r',by rw[eb];exact q'⟩
    rw[C9];exact h _ θ H (.refl hw) rfl
   ·exact h.elim
  ·exact h.elim
 ·exact h.elim
def Od:D->Option String
 | .non=>Z "NoneType"
 | .bl _=>Z "bool"
 | .int _=>Z "int"
 | .str _=>Z "str"
 | .tup _=>Z "tuple"
 | .lst _=>Z "list"
 | .ro _=>Z "list"
 | _=>Y
def GX (d:D)(M:az):Option String:=match d with
 | .mr k=>match M[k]? with
  | some (.lst _)=>Z "list"
  | _=>Y
 | d=>Od d
def yB (t T:String):Bool:=t==T||(t=="bool"&&T=="int")
def jL (T:String)(g:GE):GE:=λρ M=>(g ρ M).bind λd M1=>match GX d M1 with
 | some t=>.ok (.bl (yB t T)) M1
 | none=>.bad
def o0 (T:String):Prop:=T="int"\/T="bool"\/T="str"\/T="tuple"\/T="list"
def f9 (K:W.Frag)(hT:o0 T):∀t∈["NoneType","bool","int","str","tuple","list"],W.kitOne K (.type t) (.type T)=Z (yB t T):=by
 intro t ht;simp only[mem_cons,mem_nil_iff,or_false] at ht;rcases hT with rfl|rfl|rfl|rfl|rfl <;> rcases ht with rfl|rfl|rfl|rfl|rfl|rfl <;> rfl
def MG (hT:o0 T):d9 X (.builtin "isinstance") (λxs H Q=>∃θ M d v,Wr X.K θ H M/\dC X.K θ H d v/\xs=[v,.ty T]/\aM X θ H Q (match GX d M with|some t=>.ok (.bl (yB t T)) M|none=>.bad)):=by
 intro ag s σ H xs us Q I r h;obtain⟨θ,M,d,v,hw,rv,e,h⟩:=h;subst e;obtain⟨u,c,rfl,ru,rc⟩:=A1 r;cases rc;have fin:∀t tk,GX d M=Z t->EP X ag σ Q (.bool (yB t T)) {s with toks:=tk}:=λt tk e=>by
  rw[e] at h;exact⟨.bl _,H,I.tok _,rfl,h _ θ H (.refl hw) rfl⟩
 cases d with
 | non=>have e:v=.non:=rv;subst e;cases ru;exact W.kia_one W.kitx_none I.kIn True.intro (f9 X.K hT "NoneType" (by simp)) (λz=>nomatch z) λtk=>fin _ tk rfl
 | bl b=>have e:v=.bl b:=rv;subst e;cases ru;exact W.kia_one W.kitx_bool I.kIn True.intro (f9 X.K hT "bool" (by simp)) (λz=>nomatch z) λtk=>fin _ tk rfl
 | int i=>have e:v=.int i:=rv;subst e;obtain⟨t,rfl⟩:=ru;exact W.kia_one W.kitx_int I.kIn True.intro (f9 X.K hT "int" (by simp)) (λz=>nomatch z) λtk=>fin _ tk rfl
 | str i=>have e:v=.str i:=rv;subst e;obtain⟨t,rfl⟩:=ru;exact W.kia_one W.kitx_str I.kIn True.intro (f9 X.K hT "str" (by simp)) (λz=>nomatch z) λtk=>fin _ tk rfl
 | tup ds=>
  obtain⟨a,vs,e,ta,ra⟩:=rv;subst e;cases ru;obtain⟨its,_,⟨o,h1,h2,_⟩,_⟩:=I.tuple ta.sq;exact W.kia_one W.kitx_tuple I.kIn ⟨o,h1,h2⟩ (f9 X.K hT "tuple" (by simp)) (λz=>nomatch z) λtk=>fin _ tk rfl
 | lst ds=>
  obtain⟨a,vs,e,ta,ra⟩:=rv;subst e;cases ru;obtain⟨its,_,⟨o,n,h1,h2,_⟩,_⟩:=I.list (ta.sq (K:=X.K));exact W.kia_one W.kitx_list I.kIn ⟨o,h1,h2⟩ (f9 X.K hT "list" (by simp)) (λz=>nomatch z) λtk=>fin _ tk rfl
 | ro ds=>
  obtain⟨a,vs,e,ta,ra⟩:=rv;subst e;cases ru;obtain⟨its,_,⟨o,n,h1,h2,_⟩,_⟩:=I.list ta.sq;exact W.kia_one W.kitx_list I.kIn ⟨o,h1,h2⟩ (f9 X.K hT "list" (by simp)) (λz=>nomatch z) λtk=>fin _ tk rfl
 | mr k=>
  obtain⟨a,e,ta⟩:=rv;subst e;cases ru;cases qm:M[k]? with
  | none=>simp only[GX,qm] at h;exact h.elim
  | some m=>
   cases m with
   | lst ys=>
    obtain⟨vs,hv,_⟩:=hw.at_ k a _ ta qm;obtain⟨its,_,⟨o,n,h1,h2,_⟩,_⟩:=I.list (X:=X) (xs:=vs) (.inl (.inl hv));exact W.kia_one W.kitx_list I.kIn ⟨o,h1,h2⟩ (f9 X.K hT "list" (by simp)) (λz=>nomatch z) λtk=>fin _ tk (by simp only[GX,qm])
   | _=>simp only[GX,qm] at h;exact h.elim
 | exc c=>exact h.elim
 | any=>exact h.elim
def KJ {p p2 pos:Pos}(hT:o0 T)(hv:bootBuiltins x=Z (.type T))(hg:Gl X x)(hm:X.mg x=Y)(hgi:Gl X "isinstance")(hmi:X.mg "isinstance"=Y)(he:PE X e (tE X g))
  (hn:x≠"__name__":=by decide) (hd:(x==("__debug__":Str))=false:=by decide) (hbi:bootBuiltins "isinstance"=Z (.builtin "isinstance"):=by kernel_rfl) (hs:starEach [e,.Name x p2] X.env=(false,eval e X.env)::starEach [.Name x p2] X.env:=by rfl)
  (hs2:starEach [.Name x p2] X.env=(false,eval (.Name x p2) X.env)::starEach [] X.env:=by rfl) (hpl:(backTo pos (starEach [.Name x p2] X.env)).any (·.1)=false:=by rfl) :
  PE X (.Call (.Name "isinstance" p) [e,.Name x p2] [] pos) (tE X (jL T g)):=
 (ph (MG hT) hgi hmi hbi (fP he (fP (Bi hg hm hv (v:=.ty T) rfl hn hd) kT hs2) hs) (by decide) (by decide) hs hpl).of λσ H Q hxx=>by
  obtain⟨ρ,θ,M,hd,hw,h⟩:=hxx;refine bD hd hw (aM X θ H Q) (λc M' h=>h) (λh=>h) h λd M1 v θ1 H1 g1 r1 h1=>?_
  exact⟨θ1,M1,d,v,g1.wr,r1,rfl,aM.go g1 h1⟩
end
def gL:D->Bool
 | .non=>true
 | .bl _=>true
 | .int _=>true
 | .str _=>true
 | _=>false
def GV:D->V
 | .non=>.non
 | .bl b=>.bl b
 | .int i=>.int i
 | .str x=>.str x
 | _=>.non
def rO (r:dC K θ H d v)(f:gL d=true):v=GV d/\iF v=true:=by
 cases d with
 | non=>have e:v=.non:=r;subst e;exact⟨rfl,rfl⟩
 | bl b=>have e:v=.bl b:=r;subst e;exact⟨rfl,rfl⟩
 | int b=>have e:v=.int b:=r;subst e;exact⟨rfl,rfl⟩
 | str b=>have e:v=.str b:=r;subst e;exact⟨rfl,rfl⟩
 | _=>cases f
theorem oX {K:W.Frag}{θ:List Addr}{H:Hp}:∀{ds:List D} {vs:List V},bt K θ H ds vs->ds.all gL=true->vs=ds.map GV/\vs.all iF=true
 | [],vs,r,f=>by have e:vs=[]:=r;subst e;exact⟨rfl,rfl⟩
 | d::ds,vs,r,f=>by
  obtain⟨v,rr,e,h1,h2⟩:=r;subst e;rw[all_cons,Bool.and_eq_true] at f;obtain⟨e1,f1⟩:=rO h1 f.1;obtain⟨e2,f2⟩:=oX h2 f.2;exact⟨by rw[map_cons,<-e1,<-e2],by rw[all_cons,f1,f2];rfl⟩
def xa {x y:D}(fx:gL x=true)(fy:gL y=true):zg (GV x) (GV y)=mJ x y:=by
 cases x <;> first|exact ff fx|(cases y <;> first|exact ff fy|rfl)
theorem BE {x:D}:∀{ds:List D},gL x=true->ds.all gL=true->QX (GV x) (ds.map GV)=ds.any λy=>mJ y x
 | [],fx,fs=>rfl
 | d::ds,fx,fs=>by
  rw[all_cons,Bool.and_eq_true] at fs;have ih:=BE (x:=x) (ds:=ds) fx fs.2;unfold QX at ih ⊢;rw[map_cons,any_cons,any_cons,ih,xa fs.1 fx]
def tu (neg:Bool):F2:=λx y M=>match bN y M with
 | some xs=>if gL x&&xs.all gL then .ok (.bl ((xs.any λy=>mJ y x) != neg)) M else .bad
 | none=>.bad
section
variable {X:Cx}
def Qz:iV X (compareOp .In) (rD X (tu false)):=by
 intro ag s σ H x y v u Q I rx ry h;obtain⟨θ,M,dx,dy,hw,r1,r2,h⟩:=h;unfold tu at h;split at h
 ·rename_i xs q;split at h
  ·rename_i hc;rw[Bool.and_eq_true] at hc;obtain⟨a,vs,ea,sq,ra⟩:=pW hw r2 q;obtain⟨e1,f1⟩:=rO r1 hc.1;obtain⟨e2,f2⟩:=oX ra hc.2;refine C3 ag s σ H x y v u Q I rx ry ⟨a,vs,ea,sq,f1,f2,?_⟩;have:=h _ θ H (.refl hw) rfl;rw[Bool.bne_false] at this;rw[if_neg (by decide),e1,e2,BE hc.1 hc.2];exact this
  ·exact h.elim
 ·exact h.elim
end
section
variable {prog:Program}{w:World}{A:Around}{E:Value->Shared->Prop}{s:Shared}
theorem nz {α β:Type}{f:α->Option β}{g:α->β}:∀(l:List α),(∀k∈l,f k=Z (g k))->l.filterMap f=l.map g
 | [],_=>rfl
 | k::l,h=>by rw[filterMap_cons,h k mem_cons_self,map_cons,nz l λk' hk=>h k' (mem_cons_of_mem _ hk)]
def Es (xs:Array Value):((List.range xs.size).filterMap λ(k:Nat)=>xs[(((xs.size:Int)-1)+(k:Int)*(-1)).toNat]?).toArray=xs.toList.reverse.toArray:=by
 congr 1;have e:∀k∈List.range xs.size,xs[(((xs.size:Int)-1)+(k:Int)*(-1)).toNat]?=Z (xs.toList.reverse.getD k .none):=λk hk=>by
  have hk:=mem_range.mp hk;have e1:(((xs.size:Int)-1)+(k:Int)*(-1)).toNat=xs.size-1-k:=by omega
  rw[e1,getD_eq_getElem?_getD,getElem?_reverse (by simpa using hk)];simp;rw[Array.getElem?_eq_getElem (by omega)];rfl
 rw[nz _ e];apply ext_getElem
 ·simp
 ·intro i h1 h2;simp at h1 h2 ⊢;rw[getElem?_eq_getElem (by simpa using h2)];simp
def oH {t sl:Addr}{tk:Tok}{Q:Value->Shared->Prop}(ht:IsTup s.heap t items)(hs:s.heap.IsSliceOf sl .none .none (.int (-1) tk))
  (h:Q (.ref s.heap.objs.size) {s with heap:=s.heap.push {cls:=.type "tuple",data:=.seq items.toList.reverse.toArray}}) (hsz:items.size<=sizeLine):wpAny (model prog w) A (getItem (.ref t) (.ref sl)) Q E s:=by
 have hrev:sizeOk (.seq items.toList.reverse.toArray):=by
  show items.toList.reverse.toArray.size<=sizeLine;simpa using hsz
 obtain⟨os,hos,hcs,hds⟩:=id hs;have hTs:s.TypeIs (.ref sl) "slice":=⟨os,hos,hcs⟩;unfold getItem
 try with_reducible refine wpAny_holding ?_
 first|refine wpAny_bind (wpAny_pure ?_)|skip
 refine wpAny_bind (wpAny_sequenceKey ht.typeIs (by decide) ?_);refine wpAny_bind (wpAny_callSpecial?_slot (name:=Str.ofString "__getitem__") ht.typeIs PyProof.Rows.slot_tuple_getitem
  (wpAny_call_entry PyProof.Rows.slot_tuple_getitem ht.typeIs entry_tuple_getitem ?_ (args_tuple_getitem _ _)))
 show wpAny _ _ (Builtin.Tuple.tupleItemsOf (.ref t) >>= _) _ _ s;refine wpAny_bind (tupleItemsOf_ ht ?_);refine wpAny_bind (wpAny_typeOf hTs ?_);rw[if_pos (by decide)];refine wpAny_bind ?_;unfold Builtin.Slice.sliceApplied Builtin.Slice.sliceFields;refine wpAny_bind (wpAny_bind (wpAny_field hos hds (x:=.none) rfl (wpAny_bind (wpAny_field hos hds (x:=.none) rfl (wpAny_bind (wpAny_field hos hds (x:=.int (-1) tk) rfl (wpAny_pure ?_)))))));refine wpAny_bind (slicePart_int ?_);show wpAny _ _ (if((-1:Int)==0)=true then _ else _) _ _ s;rw[if_neg (by decide)];refine wpAny_bind (slicePart_none (wpAny_bind (slicePart_none (wpAny_bind (wpAny_pure ?_)))));have ea:Builtin.Slice.sliceAdjust Y Y (-1) (items.size:Int)=((items.size:Int)-1,-1):=by
  unfold Builtin.Slice.sliceAdjust;simp
 have ep:Builtin.Slice.slicePlaces ((items.size:Int)-1) (-1) (-1)=items.size:=by
  unfold Builtin.Slice.slicePlaces;simp only[show¬((-1:Int)>0) by decide,if_false]
  by_cases hz:items.size=0
  ·rw[hz];decide
  ·rw[if_pos (by omega)];simp
 show wpAny _ _ (match Builtin.Slice.sliceAdjust Y Y (-1) (items.size:Int) with|(lo,hi)=>pure (lo,(-1:Int),Builtin.Slice.slicePlaces lo hi (-1))) _ _ s;rw[ea];show wpAny _ _ (pure ((items.size:Int)-1,(-1:Int),Builtin.Slice.slicePlaces ((items.size:Int)-1) (-1) (-1))) _ _ s;rw[ep];refine wpAny_pure ?_;have hno:¬((((items.size:Int)-1)==0&&(-1:Int)==1&&items.size==items.size)=true):=by
  intro q;rw[Bool.and_eq_true,Bool.and_eq_true] at q;exact absurd q.1.2 (by decide)
 show wpAny _ _ (if((((items.size:Int)-1)==0&&(-1:Int)==1&&items.size==items.size))=true then _ else _) _ _ s;rw[if_neg hno,Es]
 first
  | exact wpAny_bind (m:=Builtin.Tuple.tupleExact _) (wpAny_newObj_type (wpAny_pure ⟨_,rfl,wpAny_pure h⟩) hrev)
  | exact wpAny_bind (m:=Builtin.Tuple.tupleExact _) (wpAny_newObj_type (wpAny_bind (wpAny_pure (wpAny_pure ⟨_,rfl,wpAny_pure h⟩))) hrev)
  | exact wpAny_bind (wpAny_bind (m:=Builtin.Tuple.tupleExact _) (wpAny_newObj_type (wpAny_pure (wpAny_pure ⟨_,rfl,wpAny_pure h⟩)) hrev))
  | exact wpAny_bind (wpAny_bind (m:=Builtin.Tuple.tupleExact _) (wpAny_newObj_type (wpAny_pure ⟨_,rfl,wpAny_pure h⟩) hrev))
end
def AM (g:GE):GE:=λρ M=>(g ρ M).bind λx M1=>match x with
 | .tup xs=>.ok (.tup xs.reverse) M1
 | _=>.bad
theorem pj {K:W.Frag}{θ:List Addr}{H:Hp}:∀{ds:List D} {vs:List V},bt K θ H ds vs->bt K θ H ds.reverse vs.reverse
 | [],vs,r=>by have e:vs=[]:=r;subst e;exact rfl
 | d::ds,vs,r=>by
  obtain⟨v,rr,e,h1,h2⟩:=r;subst e;rw[reverse_cons,reverse_cons];exact ck (pj h2) ⟨v,[],rfl,h1,rfl⟩
section
variable {X:Cx}
def Kp {i j p1 p2 p3 pos}(hi:i=1)(he:PE X e (tE X g)):PE X (.Subscript e (.Slice Y Y (Z (.UnaryOp .USub (.Constant (.int i) j p1) p2)) p3) pos) (tE X (AM g)):=by
 subst hi;intro ag s σ H Q I h;obtain⟨ρ,θ,M,hd,hw,h⟩:=h;have h2:tE X g σ H (λx H1=>∃a vs,x=.ref a/\rF X.K H1 a vs/\∀p,H1 p=Y->Q (.ref p) (cx H1 p (.tup vs.reverse))):=by
  refine bD hd hw (aM X θ H Q) (λc M' h=>h) (λh=>h) h λd M1 v θ1 H1 g1 r1 h1=>?_
  split at h1
  ·rename_i xs;obtain⟨a,vs,e1,ta,ra⟩:=r1;exact⟨a,vs,e1,ta.sq,λp hp=>h1 _ θ1 _ (g1.trans (dX g1.wr hp)) (iJ g1.wr hp (pj ra))⟩
  ·exact h1.elim
 refine Subscript_ (cK (he ag s σ H _ I h2) λv s1 hxx=>?_);obtain⟨x,H1,I1,r1,a,vs,ex,sq,q1⟩:=hxx;subst ex;cases r1;refine wpAny_Slice ?_;rw[evalPart_none];refine wpAny_pure (wpAny_pure ?_);rw[evalPart_some];refine cK ((Kj Ey Gr) ag s1 σ H1 (λy H'=>y=.int (-1)/\H'=H1) I1 ⟨1,rfl,rfl,rfl⟩) λvst s3 hxx=>?_
 obtain⟨y,H3,I3,r3,ey,eH⟩:=hxx;subst ey;subst eH;obtain⟨tk,rfl⟩:=r3;have I4:L2.Inv X ag σ H3 {s3 with heap:=s3.heap.push {cls:=.type "slice",data:=.fields #[.none,.none,.int (-1) tk]}}:=I3.kept (t':=s3.toks) λb ob q=>Heap.get?_push_of_some _ q
 obtain⟨its,rv,ht,hz⟩:=I4.tuple sq;have hlen:its.toArray.size=vs.length:=by rw[size_toArray];exact rv.length.symm
 refine tail_any (ops:=[.ref a,.ref s3.heap.objs.size]) ht.typeIs PyProof.Rows.slot_tuple_getitem.lookup (oH ht (Heap.IsSliceOf.new ..) ?_ (by rw[hlen];exact hz)) (by with_unfolding_all rfl);refine⟨.ref _,_,I4.laid (t':=s3.toks) (o:=.tup vs.reverse) (λb ob q=>Heap.get?_push_of_some _ q) (Nat.le_refl _) ?_,rfl,q1 _ (I4.hok.fresh (Nat.le_refl _))⟩;exact⟨by rw[length_reverse];exact hz,_,rv.reverse,IsTup.new _ _⟩
def uN (k:Nat)(x:D)(M:az):aX D:=match M[k]? with
 | some (.lst xs)=>if xs.length<sizeLine then .ok .non (M.set k (.lst (xs++[x]))) else .bad
 | _=>.bad
def lP (go ge:GE):GE:=λρ M=>(go ρ M).bind λo M1=>match o with
 | .mr k=>match M1[k]? with
  | some (.lst _)=>(ge ρ M1).bind (uN k)
  | _=>.bad
 | _=>.bad
def Ck {o:Expr}{go ge:GE}{apos cpos:Pos}(ho:PE X o (tE X go))(he:PE X e (tE X ge))
  (hbase:attributeBase o "append" X.env (eval o X.env)=eval o X.env:=by rfl)
  (hfew:((backTo cpos (starEach [e] X.env)).all (λx=>!x.1)&&(backToKw cpos (keywordEach [] X.env)).all (λx=>x.1.isSome)
   && decide ([e].length+([]:List Keyword).length+(if([]:List Keyword).isEmpty then 0 else 1)<30))=true:=by rfl)
  (hline:(apos.endLine==cpos.line)=true:=by rfl) (hs:starEach [e] X.env=(false,eval e X.env)::starEach [] X.env:=by rfl) (hplain:(backTo cpos (starEach [] X.env)).any (·.1)=false:=by rfl) :
  PE X (.Call (.Attribute o "append" apos) [e] [] cpos) (tE X (lP go ge)):=
 (Bz PySem.F.plainAttrs_list PySem.F.slot_list_append PySem.F.type_list_append Cw ho (fP he kT hs) hbase hfew hline hs hplain).of λσ H Q hxx=>by
  obtain⟨ρ,θ,M,hd,hw,h⟩:=hxx;refine bD hd hw (aM X θ H Q) (λc M' h=>h) (λh=>h) h λd M1 v θ1 H1 g1 r1 h1=>?_
  have h2:=aM.go g1 h1;cases d with
  | mr k=>
   have h2:aM X θ1 H1 Q (match M1[k]? with|some (.lst _)=>(ge ρ M1).bind (uN k)|_=>.bad):=h2;cases qm1:M1[k]? with
   | none=>rw[qm1] at h2;exact h2.elim
   | some m1=>
    cases m1 with
    | obj _ _=>rw[qm1] at h2;exact h2.elim
    | dK _=>rw[qm1] at h2;exact h2.elim
    | dT _=>rw[qm1] at h2;exact h2.elim
    | lst ys1=>
     rw[qm1] at h2;obtain⟨a1,ea1,ta1⟩:=id r1;obtain⟨vs1,hv1,_⟩:=g1.wr.at_ k a1 _ ta1 qm1;refine⟨by rw[ea1];exact .inl ⟨rfl,vs1,.inl (.inl hv1)⟩,?_⟩;refine bD (hd.go g1) g1.wr (aM X θ1 H1 Q) (λc M' h=>h) (λh=>h) h2 λdx M2 vx θ2 H2 g2 r2 h3=>?_
     have h3:aM X θ1 H1 Q (match M2[k]? with|some (.lst xs)=>if xs.length<sizeLine then .ok .non (M2.set k (.lst (xs++[dx]))) else .bad|_=>.bad):=h3;obtain⟨a,ea,ta⟩:=r1.go g2;cases qm:M2[k]? with
     | none=>rw[qm] at h3;exact h3.elim
     | some m=>
      cases m with
      | obj _ _=>rw[qm] at h3;exact h3.elim
      | dK _=>rw[qm] at h3;exact h3.elim
      | dT _=>rw[qm] at h3;exact h3.elim
      | lst ys=>
       rw[qm] at h3;obtain⟨vs,hv,ra⟩:=g2.wr.at_ k a _ ta qm;have h3:aM X θ1 H1 Q (if ys.length<sizeLine then .ok .non (M2.set k (.lst (ys++[dx]))) else .bad):=h3;split at h3
       ·rename_i hl;have gs:=uj (ds:=ys) g2.wr ta (ck ra (show bt X.K θ2 H2 [dx] [vx] from⟨vx,[],rfl,r2,rfl⟩));exact⟨a,vs,vx,ea,rfl,hv,by rw[<-aA ra];exact hl,h3 _ θ2 _ (g2.trans gs) rfl⟩
       ·exact h3.elim
  | _=>exact h2.elim
end
def bP (f:D->Option D):List D->Option (List D)
 | []=>Z []
 | d::ds=>match f d,bP f ds with
  | some x,Z xs=>Z (x::xs)
  | _,_=>Y
def frz (n:Nat)(M:az):Nat->D->Option D
 | 0,_=>Y
 | f+1,d=>match d with
  | .mr k=>if k<n then Z (.mr k) else match M[k]? with
   | some (.lst xs)=>(bP (frz n M f) xs).map .lst
   | _=>Y
  | .tup xs=>(bP (frz n M f) xs).map .tup
  | .lst xs=>(bP (frz n M f) xs).map .lst
  | .ro xs=>(bP (frz n M f) xs).map .ro
  | d=>Z d
def yO (f:D->Option D):List (Str×D)->Option (List (Str×D))
 | []=>Z []
 | (x,d)::r=>match f d,yO f r with
  | some e,Z r'=>Z ((x,e)::r')
  | _,_=>Y
def u5 {κ:Type}(f:D->Option D):List (κ×D)->Option (List (κ×D))
 | []=>Z []
 | (x,d)::r=>match f d,u5 f r with
  | some e,Z r'=>Z ((x,e)::r')
  | _,_=>Y
def iT (n:Nat)(M:az):List MO->Option (List MO)
 | []=>Z []
 | .lst xs::r=>match bP (frz n M 30) xs,iT n M r with
  | some ys,Z r'=>Z (.lst ys::r')
  | _,_=>Y
 | .obj c fs::r=>match yO (frz n M 30) fs,iT n M r with
  | some gs,Z r'=>Z (.obj c gs::r')
  | _,_=>Y
 | .dK fs::r=>match u5 (frz n M 30) fs,iT n M r with
  | some gs,Z r'=>Z (.dK gs::r')
  | _,_=>Y
 | .dT fs::r=>match u5 (frz n M 30) fs,iT n M r with
  | some gs,Z r'=>Z (.dT gs::r')
  | _,_=>Y
def jZ (n:Nat)(o:aX D):aX D:=match o with
 | .ok d M=>if M.length=n then .ok d M else match frz n M 30 d,iT n M (M.take n) with
  | some d',Z M'=>.ok d' M'
  | _,_=>.bad
 | .err c M=>if M.length=n then .err c M else match iT n M (M.take n) with
  | some M'=>.err c M'
  | none=>.bad
 | .bad=>.bad
section
variable {K:W.Frag}{θ more:List Addr}{H:Hp}{M:az}{n:Nat}
theorem iU {f:D->Option D}{θ':List Addr}:∀{ds es:List D} {vs:List V},bP f ds=Z es->bt K θ' H ds vs->(∀d∈ds,∀e v,f d=Z e->dC K θ' H d v->dC K θ H e v)->bt K θ H es vs
 | [],es,vs,h,r,k=>by cases h;exact r
 | d::ds,es,vs,h,r,k=>by
  obtain⟨v,rr,e,h1,h2⟩:=r;unfold bP at h;cases q1:f d with
  | none=>rw[q1] at h;cases h
  | some x=>
   cases q2:bP f ds with
   | none=>rw[q1,q2] at h;cases h
   | some xs=>
    rw[q1,q2] at h;cases h;exact⟨v,rr,e,k d mem_cons_self x v q1 h1,iU q2 h2 λd' hd=>k d' (mem_cons_of_mem _ hd)⟩
theorem qD (hw:Wr K (θ++more) H M)(hn:θ.length=n):∀(f:Nat) (d e:D) (v:V),frz n M f d=Z e->dC K (θ++more) H d v->dC K θ H e v
 | 0,d,e,v,h,r=>by cases h
 | f+1,d,e,v,h,r=>by
  have ih:=qD hw hn f;have sub:∀{a:Addr},a∉θ++more->a∉θ:=λ{a} z y=>z (mem_append_left _ y)
  cases d with
  | mr k=>
   obtain⟨a,ea,ta⟩:=r
   by_cases hk:k<n
   ·have h:(if k<n then Z (D.mr k) else _)=Z e:=h;rw[if_pos hk] at h;cases h;exact⟨a,ea,by rw[getElem?_append_left (by rw[hn];exact hk)] at ta;exact ta⟩
   ·have h:(if k<n then Z (D.mr k) else match M[k]? with|some (.lst xs)=>(bP (frz n M f) xs).map .lst|_=>Y)=Z e:=h;rw[if_neg hk] at h;cases qm:M[k]? with
    | none=>rw[qm] at h;cases h
    | some m=>
     cases m with
     | lst xs=>
      rw[qm] at h;have h:(bP (frz n M f) xs).map D.lst=Z e:=h;obtain⟨vs,hv,ra⟩:=hw.at_ k a _ ta qm;cases qo:bP (frz n M f) xs with
      | none=>rw[qo] at h;cases h
      | some ys=>
       rw[qo] at h;cases h;refine⟨a,vs,ea,⟨hv,λz=>?_⟩,iU qo ra λd _ e v=>ih d e v⟩;rw[getElem?_append_right (by omega)] at ta;have hm:=mem_of_getElem? ta;exact(nodup_append.mp hw.nd).2.2 a z a hm rfl
     | _=>rw[qm] at h;cases h
  | tup xs=>
   have h:(bP (frz n M f) xs).map D.tup=Z e:=h;cases qo:bP (frz n M f) xs with
   | none=>rw[qo] at h;cases h
   | some ys=>
    rw[qo] at h;cases h;obtain⟨a,vs,ea,ta,ra⟩:=r;exact⟨a,vs,ea,⟨ta.1,sub ta.2⟩,iU qo ra λd _ e v=>ih d e v⟩
  | lst xs=>
   have h:(bP (frz n M f) xs).map D.lst=Z e:=h;cases qo:bP (frz n M f) xs with
   | none=>rw[qo] at h;cases h
   | some ys=>
    rw[qo] at h;cases h;obtain⟨a,vs,ea,ta,ra⟩:=r;exact⟨a,vs,ea,⟨ta.1,sub ta.2⟩,iU qo ra λd _ e v=>ih d e v⟩
  | ro xs=>
   have h:(bP (frz n M f) xs).map D.ro=Z e:=h;cases qo:bP (frz n M f) xs with
   | none=>rw[qo] at h;cases h
   | some ys=>
    rw[qo] at h;cases h;obtain⟨a,vs,ea,ta,ra⟩:=r;refine⟨a,vs,ea,?_,iU qo ra λd _ e v=>ih d e v⟩;rcases ta with⟨t1,t2⟩|t
    ·exact .inl ⟨t1,sub t2⟩
    ·exact .inr t
  | non=>cases h;exact r
  | bl b=>cases h;exact r
  | int b=>cases h;exact r
  | str b=>cases h;exact r
  | exc c=>
   cases h;obtain⟨a,C,ea,kc,t1,t2⟩:=r;exact⟨a,C,ea,kc,t1,sub t2⟩
  | any=>cases h;exact r
theorem BD {f:D->Option D}{θ':List Addr}:∀{fs gs:List (Str×D)} {vs:List (Str×V)},yO f fs=Z gs->o8 K θ' H fs vs->(∀d e v,f d=Z e->dC K θ' H d v->dC K θ H e v)->o8 K θ H gs vs
 | [],gs,vs,h,r,k=>by cases h;exact r
 | (x,d)::fs,gs,vs,h,r,k=>by
  obtain⟨v,rr,e,h1,h2⟩:=r;unfold yO at h;cases q1:f d with
  | none=>rw[q1] at h;cases h
  | some y=>
   cases q2:yO f fs with
   | none=>rw[q1,q2] at h;cases h
   | some ys=>
    rw[q1,q2] at h;cases h;exact⟨v,rr,e,k d y v q1 h1,BD q2 h2 k⟩
theorem wy {κ:Type}{f:D->Option D}{θ':List Addr}:∀{fs gs:List (κ×D)} {vs:List (κ×V)},u5 f fs=Z gs->sw K θ' H fs vs->(∀d e v,f d=Z e->dC K θ' H d v->dC K θ H e v)->sw K θ H gs vs
 | [],gs,vs,h,r,k=>by cases h;exact r
 | (x,d)::fs,gs,vs,h,r,k=>by
  obtain⟨v,rr,e,h1,h2⟩:=r;unfold u5 at h;cases q1:f d with
  | none=>rw[q1] at h;cases h
  | some y=>
   cases q2:u5 f fs with
   | none=>rw[q1,q2] at h;cases h
   | some ys=>
    rw[q1,q2] at h;cases h;exact⟨v,rr,e,k d y v q1 h1,wy q2 h2 k⟩
theorem o9 (hw:Wr K (θ++more) H M)(hn:θ.length=n):∀(l l':List MO),iT n M l=Z l'->l'.length=l.length/\∀(i:Nat) m m' a,l[i]?=Z m->l'[i]?=Z m'->uX K (θ++more) H m a->uX K θ H m' a
 | [],l',h=>by cases h;exact⟨rfl,λi m m' a e=>by simp at e⟩
 | .lst xs::r,l',h=>by
  unfold iT at h;cases q1:bP (frz n M 30) xs with
  | none=>rw[q1] at h;cases h
  | some ys=>
   cases q2:iT n M r with
   | none=>rw[q1,q2] at h;cases h
   | some r'=>
    rw[q1,q2] at h;cases h;obtain⟨hl,hr⟩:=o9 hw hn r r' q2;refine⟨by rw[length_cons,length_cons,hl],λi m m' a e1 e2 ok=>?_⟩;cases i with
    | zero=>
     have e1:Z (MO.lst xs)=Z m:=e1;have e2:Z (MO.lst ys)=Z m':=e2;cases e1;cases e2;obtain⟨vs,hv,ra⟩:=ok;exact⟨vs,hv,iU q1 ra λd _ e v=>qD hw hn 30 d e v⟩
    | succ i=>exact hr i m m' a e1 e2 ok
 | .obj c fs::r,l',h=>by
  unfold iT at h;cases q1:yO (frz n M 30) fs with
  | none=>rw[q1] at h;cases h
  | some gs=>
   cases q2:iT n M r with
   | none=>rw[q1,q2] at h;cases h
   | some r'=>
    rw[q1,q2] at h;cases h;obtain⟨hl,hr⟩:=o9 hw hn r r' q2;refine⟨by rw[length_cons,length_cons,hl],λi m m' a e1 e2 ok=>?_⟩;cases i with
    | zero=>
     have e1:Z (MO.obj c fs)=Z m:=e1;have e2:Z (MO.obj c gs)=Z m':=e2;cases e1;cases e2;obtain⟨C,dx,vs,kC,hv,ra⟩:=ok;exact⟨C,dx,vs,kC,hv,BD q1 ra λd e v=>qD hw hn 30 d e v⟩
    | succ i=>exact hr i m m' a e1 e2 ok
 | .dK fs::r,l',h=>by
  unfold iT at h;cases q1:u5 (frz n M 30) fs with
  | none=>rw[q1] at h;cases h
  | some gs=>
   cases q2:iT n M r with
   | none=>rw[q1,q2] at h;cases h
   | some r'=>
    rw[q1,q2] at h;cases h;obtain⟨hl,hr⟩:=o9 hw hn r r' q2;refine⟨by rw[length_cons,length_cons,hl],λi m m' a e1 e2 ok=>?_⟩;cases i with
    | zero=>
     have e1:Z (MO.dK fs)=Z m:=e1;have e2:Z (MO.dK gs)=Z m':=e2;cases e1;cases e2;obtain⟨vs,hv,ra⟩:=ok;exact⟨vs,hv,wy q1 ra λd e v=>qD hw hn 30 d e v⟩
    | succ i=>exact hr i m m' a e1 e2 ok
 | .dT fs::r,l',h=>by
  unfold iT at h;cases q1:u5 (frz n M 30) fs with
  | none=>rw[q1] at h;cases h
  | some gs=>
   cases q2:iT n M r with
   | none=>rw[q1,q2] at h;cases h
   | some r'=>
    rw[q1,q2] at h;cases h;obtain⟨hl,hr⟩:=o9 hw hn r r' q2;refine⟨by rw[length_cons,length_cons,hl],λi m m' a e1 e2 ok=>?_⟩;cases i with
    | zero=>
     have e1:Z (MO.dT fs)=Z m:=e1;have e2:Z (MO.dT gs)=Z m':=e2;cases e1;cases e2;obtain⟨vs,hv,ra⟩:=ok;exact⟨vs,hv,wy q1 ra λd e v=>qD hw hn 30 d e v⟩
    | succ i=>exact hr i m m' a e1 e2 ok
def GC {θ0:List Addr}{H0:Hp}{θ':List Addr}{H':Hp}{M' M2:az}{n:Nat}(hn:θ0.length=n)(g:Go K θ0 H0 θ' H' M')(h:iT n M' (M'.take n)=Z M2):Go K θ0 H0 θ0 H' M2:=by
 obtain⟨m,em,hm⟩:=g.ext;have hw:=g.wr;rw[em] at hw;obtain⟨hl,hr⟩:=o9 hw hn _ _ h;have hlen:n<=M'.length:=by rw[<-g.wr.len,em,length_append];omega
 refine⟨⟨⟨[],by simp,λ_ z=>by cases z⟩,g.keep,g.tkeep⟩,by rw[hl,length_take];omega,(nodup_append.mp hw.nd).1,λi a mo e1 e2=>?_,g.wr.tb⟩;have hi:i<n:=by rw[<-hn];exact(List.getElem?_eq_some_iff.mp e1).1
 have hiM:i<M'.length:=by omega
 refine hr i M'[i] mo a (by rw[getElem?_take_of_lt hi];exact getElem?_eq_getElem hiM) e2 (hw.at_ i a _ ?_ (getElem?_eq_getElem hiM));rw[getElem?_append_left (by rw[hn];exact hi)];exact e1
end
def MM {k:Nat}{CX:BW}(h:eB P w K mg base CX k f fd ps (og K n F)) :
  eB P w K mg base CX k f fd ps (og K n λds M=>jZ M.length (F ds M)):=h.imp λvs H Q E hxx=>by
 obtain⟨θ,M,ds,hl,r,hw,q⟩:=hxx;refine⟨θ,M,ds,hl,r,hw,?_⟩;have q:zR K θ H Q E (jZ M.length (F ds M)):=q;cases e:F ds M with
 | bad=>rw[e] at q;exact q
 | err c M1=>
  rw[e] at q;have q:zR K θ H Q E (if M1.length=M.length then .err c M1 else match iT M.length M1 (M1.take M.length) with|some M'=>.err c M'|none=>.bad):=q;split at q
  ·exact q
  ·split at q
   ·rename_i M2 e2;exact λC θ' H' a kC g=>q C θ H' a kC (GC hw.len g e2)
   ·exact q.elim
 | ok d M1=>
  rw[e] at q;have q:zR K θ H Q E (if M1.length=M.length then .ok d M1 else match frz M.length M1 30 d,iT M.length M1 (M1.take M.length) with|some d',Z M'=>.ok d' M'|_,_=>.bad):=q;split at q
  ·exact q
  ·split at q
   ·rename_i d' M2 e1 e2;intro v θ' H' g rd;refine q v θ H' (GC hw.len g e2) ?_;obtain⟨m,em,_⟩:=g.ext;have hw':=g.wr;rw[em] at hw' rd;exact qD hw' hw.len 30 d d' v e1 rd
   ·exact q.elim
structure Fn (K:W.Frag)(mg:Str->Option Value)(x:Str)(st:Stmt)(f:Addr)(fd:FuncData)(ps:List Str):Prop where
 F:HJ K x x st f fd
 m:mg x=Z (.ref f)
 b:fz K fd ps []
section
variable {X:Cx}
def vv (i:Nat){pos:Pos}(hN:X.N[i]?=Z x:=by rfl)(hv:Oz X.env.scope x:=by first|exact Or.inl rfl|exact Or.inr (Or.inl rfl)|exact Or.inr (Or.inr rfl))(hd:(x==("__debug__":Str))=false:=by decide)
  (hcd:(x==("__classdict__":Str))=false:=by decide):PE X (.Name x pos) (tE X (ae i)):=NX (LK hN hv hd hcd)
def ss (i:Nat){pos pos':Pos}(hN:X.N.Nodup)(he:PE X e (tE X g))(hi:X.N[i]?=Z x:=by rfl)(hx:Eg X.env.scope x:=by first|exact Or.inl rfl|exact Or.inr rfl)
  (hs:swapsWith e (Z (.Name x pos')) pos.line X.env=pure false:=by rfl) (hf:X.fn x=true\/X.env.scope.names.lookup x=Z .local:=by first|exact .inl rfl|exact .inr rfl) :
  PS X (.Assign [.Name x pos'] e pos) (tS X (aL i g)):=Lc hN hi hx he hs hf
def gg (i:Nat){pos:Pos}(hN:X.N.Nodup)(hi:X.N[i]?=Z x:=by rfl)(hx:Eg X.env.scope x:=by first|exact Or.inl rfl|exact Or.inr rfl)(hf:X.fn x=true\/X.env.scope.names.lookup x=Z .local:=by first|exact .inl rfl|exact .inr rfl):PG X (.Name x pos) (tG X (dY i)):=xm hN hi hx hf
end
def LU {ns:List Int}(tb:nF K H)(hS:nj K H a (ns.map V.int))(h:∃M',F [.ro (ns.map D.int)] []=.ok (.bl true) M'):og K 1 F [.ref a] H (λv _=>v=.bl true) E:=by
 obtain⟨M',e⟩:=h;refine⟨[],[],[.ro (ns.map D.int)],rfl,⟨_,[],rfl,⟨a,ns.map V.int,rfl,?_,?_⟩,rfl⟩,⟨rfl,nodup_nil,λi a m e=>by simp at e,tb⟩,?_⟩
 ·rcases hS with h|h
  ·exact .inl ⟨h,by simp⟩
  ·exact .inr h
 ·clear e
  induction ns with
  | nil=>exact rfl
  | cons n ns ih=>
   refine⟨.int n,ns.map V.int,rfl,rfl,?_⟩;have gen:∀l:List Int,bt K [] H (l.map D.int) (l.map V.int):=by
    intro l
    induction l with
    | nil=>exact rfl
    | cons m l ih=>exact⟨_,_,rfl,rfl,ih⟩
   exact gen ns
 ·rw[e];exact λv θ' H' g r=>r
def fM (t:GT)(b:GS):Nat->bK->az->aX Fl
 | 0,_,_=>.bad
 | n+1,ρ,M=>(t ρ M).bind λc M1=>if c then(b ρ M1).bind λf M2=>match f with
   | .nx ρ2=>fM t b n ρ2 M2
   | .ct ρ2=>fM t b n ρ2 M2
   | .bk ρ2=>.ok (.nx ρ2) M2
   | .rt d=>.ok (.rt d) M2
  else .ok (.nx ρ) M1
def xE (n:Nat)(t:GT)(b:GS):GS:=fM t b n
def ES {X:Cx}{tc:GT}{gb:GS}(hp:PassesOwn (model X.prog X.w) X.A X.env X.xe)(hc:PT X c (tT X tc))(hb:PSs X body (tS X gb)):PS X (.While c body [] pos) (tS X (xE n tc gb)):=
 (F9 hp hc hb).of λD σ H hxx=>by
  obtain⟨ρ,θ,M,hd,hw,h⟩:=hxx;refine⟨λm σ' H'=>∃ρ' θ' M',j9 X.K θ' H' σ' ρ'/\Wr X.K θ' H' M'/\bZ X θ' H' D (fM tc gb m ρ' M'),⟨n,ρ,θ,M,hd,hw,h⟩,?_⟩;rintro m σ' H' ⟨ρ',θ',M',hd',hw',h'⟩;cases m with
  | zero=>exact h'.elim
  | succ m=>
   have h':bZ X θ' H' D ((tc ρ' M').bind _):=h';refine wc hd' hw' (bZ X θ' H' D) (λc M' h=>h) (λh=>h) h' λc M1 θ1 H1 g1 h1=>?_
   cases c with
   | false=>
    rw[if_neg Bool.false_ne_true];exact h1 σ' θ1 H1 g1 (hd'.go g1)
   | true=>
    rw[if_pos rfl];refine⟨λσ2 H2=>∃ρ2 θ2 M2,j9 X.K θ2 H2 σ2 ρ2/\Wr X.K θ2 H2 M2/\bZ X θ2 H2 D (fM tc gb m ρ2 M2),λσ2 H2 q=>⟨m,Nat.lt_succ_self _,q⟩,ρ',θ1,M1,hd'.go g1,g1.wr,?_⟩;have h2:=bZ.go g1 h1;have h2:bZ X θ1 H1 D ((gb ρ' M1).bind _):=h2;cases q:gb ρ' M1 with
    | bad=>rw[q] at h2;exact h2
    | err c M2=>rw[q] at h2;exact h2
    | ok f M2=>
     rw[q] at h2;cases f with
     | nx ρ2=>exact λσ2 θ2 H2 g2 d2=>⟨ρ2,θ2,M2,d2,g2.wr,bZ.go g2 h2⟩
     | ct ρ2=>exact λσ2 θ2 H2 g2 d2=>⟨ρ2,θ2,M2,d2,g2.wr,bZ.go g2 h2⟩
     | bk ρ2=>exact h2
     | rt d=>exact h2
def LV {k:Nat}{CX:BW}(hn:ps.length=n):eB P w K mg base CX k f fd ps (og K n λ_ _=>.bad):=
 ⟨oG hn,λ_ _ _ _ _ _ _ _ _ _ _ _ _ ⟨_,_,_,_,_,_,h⟩=>h.elim⟩
def aW:Expr->Bool
 | .Starred _ _=>false
 | _=>true
def dj (es:List Expr):Bool:=es.all aW
def sE {env:Env}(h:aW e=true):starEach (e::es) env=(false,eval e env)::starEach es env:=by
 cases e <;> first|rfl|(simp[aW] at h)
theorem sS {pos:Pos}{env:Env}:∀{es:List Expr},dj es=true->(backTo pos (starEach es env)).any (·.1)=false
 | [],_=>rfl
 | e::es,h=>by
  unfold dj at h;rw[all_cons,Bool.and_eq_true] at h;have ih:=sS (pos:=pos) (env:=env) (es:=es) h.2;rw[sE h.1];unfold backTo at ih ⊢;rw[map_cons,any_cons,ih];rfl
section
variable {X:Cx}{e:Expr}{es:List Expr}{x:Str}{p pos:Pos}{k n:Nat}{f:Addr}{fd:FuncData}{ps:List Str}{F:FD}{ga:GA}{g:GE}{tg:Expr}
def Rb {gr:GA}(ha:PE X e (tE X g))(hr:PA X es (tA X gr))(h:aW e=true:=by rfl):PA X (e::es) (tA X (aa g gr)):=Iq ha hr (sE h)
def PD (Fn:eB X.prog X.w X.K X.mg X.base (iz X.prog X.w) k f fd ps (og X.K n F))(hr:bM k X.A)(hg:Gl X x)(hm:X.mg x=Z (.ref f))(hk:W.keepIn X.K (.ref f)=true)(hb:fz X.K fd ps [])
  (ha:PA X (e::es) (tA X ga)) (hdb:(x==("__debug__":Str))=false:=by decide) (h1:aW e=true:=by rfl) (h2:dj es=true:=by rfl) :
  PE X (.Call (.Name x p) (e::es) [] pos) (tE X (aj n F ga)):=Jm Fn hr hg hm hk hb ha hdb (sE h1) (sS h2)
def OL {id:String}(hc:d9 X (.builtin id) (rC X F))(hg:Gl X x)(hm:X.mg x=Y)(hv:bootBuiltins x=Z (.builtin id))(ha:PA X (e::es) (tA X ga))(hn:x≠"__name__":=by decide)(hdb:(x==("__debug__":Str))=false:=by decide)
  (h1:aW e=true:=by rfl) (h2:dj es=true:=by rfl):PE X (.Call (.Name x p) (e::es) [] pos) (tE X (aQ F ga)):=FV hc hg hm hv ha hn hdb (sE h1) (sS h2)
def Qv (hc:d9 X (.type T) (rC X F))(hg:Gl X x)(hm:X.mg x=Y)(hv:bootBuiltins x=Z (.type T))(ha:PA X (e::es) (tA X ga))(hn:x≠"__name__":=by decide)(hdb:(x==("__debug__":Str))=false:=by decide)
  (h1:aW e=true:=by rfl) (h2:dj es=true:=by rfl):PE X (.Call (.Name x p) (e::es) [] pos) (tE X (aQ F ga)):=Cd hc hg hm hv ha hn hdb (sE h1) (sS h2)
def Oo {p2:Pos}(hT:o0 T)(hv:bootBuiltins x=Z (.type T))(hg:Gl X x)(hm:X.mg x=Y)(hgi:Gl X "isinstance")(hmi:X.mg "isinstance"=Y)(he:PE X e (tE X g))
  (h1:aW e=true:=by rfl) (hn:x≠"__name__":=by decide) (hd:(x==("__debug__":Str))=false:=by decide):PE X (.Call (.Name "isinstance" p) [e,.Name x p2] [] pos) (tE X (jL T g)):=
 KJ hT hv hg hm hgi hmi he hn hd boot_isinstance (sE h1) (sE rfl) (sS rfl)
def OG {a:Expr}(hg:Gl X "range")(hm:X.mg "range"=Y)(ha:PA X [a] (tA X ga))(h1:aW a=true:=by rfl):PI X tg (.Call (.Name "range" p) [a] [] pos) (tI X (dQ ga)):=B4 hg hm ha (sE h1)
end
end DL
namespace DL
open PySem L2
def xA {j:Int}(h:-(2 ^ 62)<=j/\j<2 ^ 62)(M:az):Ed [.int j] M=.ok ⟨bj 0 j.toNat,Y⟩ M:=by
 unfold Ed;exact if_pos h
variable{n:Nat}
def Gx (h:n<=1000000)(M:az):Ed [.int (n:Int)] M=.ok ⟨bj 0 n,Y⟩ M:=by
 have:=xA (j:=(n:Int)) (by omega) M;rw[this];rfl
variable{ds:List D}
theorem wV {M:az}:uH.ok ⟨ds,Y⟩ M=true:=rfl
theorem il {ds0:List D}{ge:GE}{ρ:bK}{P:az->Prop}{Q:D->Prop}:∀(ds:List D),(∀d∈ds,∀M,P M->∃e M',P M'/\Q e/\ge (Z d::ρ) M=.ok e M')->∀M,P M->
  ∃es M',P M'/\es.length=ds.length/\(∀e∈es,Q e)/\gU ⟨ds0,Y⟩ cb ge ds ρ M=.ok es M'
 | [],h,M,hM=>⟨[],M,hM,rfl,(λe he=>by cases he),rfl⟩
 | d::ds,h,M,hM=>by
  obtain⟨e,M1,h1,q1,e1⟩:=h d List.mem_cons_self M hM;obtain⟨es,M2,h2,l2,q2,e2⟩:=il (ds0:=ds0) ds (λd' hd=>h d' (List.mem_cons_of_mem _ hd)) M1 h1;refine⟨e::es,M2,h2,by simp[l2],λx hx=>?_,?_⟩
  ·rcases List.mem_cons.mp hx with z|z
   ·subst z;exact q1
   ·exact q2 x z
  ·simp[gU,wV,cb,e1,e2]
theorem l8 {ds0:List D}{ge:GE}{ρ:bK}{f:D->D}{M:az}:∀(ds:List D),(∀d∈ds,ge (Z d::ρ) M=.ok (f d) M)->gU ⟨ds0,Y⟩ cb ge ds ρ M=.ok (ds.map f) M
 | [],h=>rfl
 | d::ds,h=>by
  have e1:=h d List.mem_cons_self;have e2:=l8 (ds0:=ds0) ds λd' hd=>h d' (List.mem_cons_of_mem _ hd)
  simp[gU,wV,cb,e1,e2]
def sR {d:D}{lo:Int}(h:d∈bj lo n):∃k:Int,d=.int k/\lo<=k/\k<lo+n:=by
 unfold bj at h;obtain⟨k,hk,e⟩:=List.mem_map.mp h;have:=List.mem_range.mp hk;exact⟨lo+k,e.symm,by omega,by omega⟩
def bI (lo:Int)(n:Nat):(bj lo n).length=n:=by simp[bj]
def Hl {Q:Int->Prop}(h:∀d∈ds,∃k,d=.int k/\Q k):∃ks:List Int,ds=ks.map D.int/\∀k∈ks,Q k:=by
 induction ds with
 | nil=>exact⟨[],rfl,λk hk=>by cases hk⟩
 | cons d ds ih=>
  obtain⟨k,e,q⟩:=h d List.mem_cons_self;obtain⟨ks,e2,q2⟩:=ih λd' hd=>h d' (List.mem_cons_of_mem _ hd)
  refine⟨k::ks,by rw[e,e2];rfl,λx hx=>?_⟩;rcases List.mem_cons.mp hx with z|z
  ·subst z;exact q
  ·exact q2 x z
def JJ {Q:List Int->Prop}(h:∀d∈ds,∃ks:List Int,d=.tup (ks.map D.int)/\Q ks):∃rs:List (List Int),ds=rs.map (λr=>D.tup (r.map D.int))/\∀r∈rs,Q r:=by
 induction ds with
 | nil=>exact⟨[],rfl,λk hk=>by cases hk⟩
 | cons d ds ih=>
  obtain⟨k,e,q⟩:=h d List.mem_cons_self;obtain⟨ks,e2,q2⟩:=ih λd' hd=>h d' (List.mem_cons_of_mem _ hd)
  refine⟨k::ks,by rw[e,e2];rfl,λx hx=>?_⟩;rcases List.mem_cons.mp hx with z|z
  ·subst z;exact q
  ·exact q2 x z
def a7 (h:n<=1000000):n<=sizeLine:=Nat.le_trans h (by rw[sizeLine_eq];decide)
end DL
namespace DL
@[simp] theorem Sw (i j:Int):mJ (.int i) (.int j)=(i==j):=rfl
@[simp] theorem RK (i j:Bool):mJ (.bl i) (.bl j)=(i==j):=rfl
@[simp] theorem SA (i j:PySem.Str):mJ (.str i) (.str j)=(i==j):=rfl
@[simp] theorem Rv:mJ .non .non=true:=rfl
@[simp] theorem Se (i:Int):mJ (.int i) .non=false:=rfl
@[simp] theorem Rh (i:Int):mJ .non (.int i)=false:=rfl
@[simp] theorem Rk (xs ys:List D):mJ (.tup xs) (.tup ys)=ki xs ys:=rfl
@[simp] theorem Sr (xs ys:List D):mJ (.lst xs) (.lst ys)=ki xs ys:=rfl
@[simp] theorem Pl:ki [] []=true:=rfl
@[simp] theorem Q8 (y:D) (ys:List D):ki [] (y::ys)=false:=rfl
@[simp] theorem QU (y:D) (ys:List D):ki (y::ys) []=false:=rfl
@[simp] theorem QR (x y:D) (xs ys:List D):ki (x::xs) (y::ys)=(mJ x y&&ki xs ys):=rfl
@[simp] theorem N9 (n:Nat) (i:Int):bi n (.int i)=true:=by cases n <;> rfl
@[simp] theorem PJ (n:Nat) (i:Bool):bi n (.bl i)=true:=by cases n <;> rfl
@[simp] theorem Ob (n:Nat):bi n .non=true:=by cases n <;> rfl
@[simp] theorem Oa (n:Nat) (x:PySem.Str):bi n (.str x)=PySem.PyData.strOk x:=by cases n <;> rfl
@[simp] theorem C6 (n:Nat) (xs:List D):bi (n+1) (.tup xs)=cD n xs:=rfl
@[simp] theorem CI (n:Nat) (xs:List D):bi (n+1) (.lst xs)=cD n xs:=rfl
@[simp] theorem Kd (xs:List D):bi 40 (.tup xs)=cD 39 xs:=C6 39 xs
@[simp] theorem Ke (xs:List D):bi 40 (.lst xs)=cD 39 xs:=CI 39 xs
@[simp] theorem Ma (n:Nat):cD n []=true:=by cases n <;> rfl
@[simp] theorem JY (n:Nat) (x:D) (xs:List D):cD n (x::xs)=(bi n x&&cD n xs):=by cases n <;> rfl
@[simp] theorem Ra (i:Int) (M:az):now (.int i) M=.int i:=rfl
@[simp] theorem RJ (i:Bool) (M:az):now (.bl i) M=.bl i:=rfl
@[simp] theorem QY (M:az):now .non M=.non:=rfl
@[simp] theorem QN (x:PySem.Str) (M:az):now (.str x) M=.str x:=rfl
@[simp] theorem Q3 (xs:List D) (M:az):now (.tup xs) M=.tup xs:=rfl
@[simp] theorem Q6 (xs:List D) (M:az):now (.lst xs) M=.lst xs:=rfl
end DL
namespace DL
open PySem PySem.Spec PyProof.Rows L2 PySem.W PySem.Builtin PySem.Builtin.ObjectAttr PySem.Builtin.Getset_descriptor List
structure nR (K:Frag)(C:Addr):Prop where
 cl:(clsIn K C).isSome=true
 ca:findIn K (.ref C) "__class__"=Z (Z (.builtin "object.__class__"))
 sp:specialIn K (.builtin "object.__class__") "__get__"=Z (Z (.builtin "getset_descriptor.__get__"))
 tk:takesIn K (.builtin "object.__class__")=Z true
 ob:mroIn K C (.type "object")=Z true
 ga:findIn K (.ref C) "__getattribute__"=Z (Z (.builtin "BaseException.__getattribute__"))
 gh:findIn K (.ref C) "__getattr__"=Z Y
 be:mroIn K C (.type "BaseException")=Z true
def IQ (a C:Addr)(h:Heap):Prop:=∃o,h.get? a=Z o/\o.cls=.ref C
section
variable {prog:Program}{w:World}{A:Around}{E:Value->Shared->Prop}{K:Frag}{a C:Addr}{h:Heap}{g:Array GenState}{d:Drawn}{t:Nat}{os:OsState}
def IQ.type {M:Model}(I:IQ a C h):Looks M h (typeOf (.ref a)) (.ref C):=by
 obtain⟨o,e,c⟩:=I;exact c▸(Looks.ld e).andThen .now
def HQ {R:Result->Shared->Prop}{tp:Value}(X:K.In h)(I:IQ a C h)(k:nR K C)(hq:R (.ok (.ret (.ref C))) ⟨h,g,d,t,os⟩) :
  codeAny (model prog w) A (.call (.builtin "getset_descriptor.__get__") ⟨[.builtin "object.__class__",.ref a,tp],[]⟩) R ⟨h,g,d,t,os⟩:=by
 have L0:=I.type (M:=model prog w);have L1:=looks_mroIn (M:=model prog w) X k.ob;have go:=KF.slot_gs.check (model prog w) A.in1;refine codeAny_call_builtin KF.slot_gs.plain KF.entry_gs ?_;refine go _ _ _ _ _ _ KF.type_class (KF.args_gs _ _ _) ?_;unfold Builtin.«getset_descriptor.__get__» descrGet;rw[dga_obj];refine wpAny_bind (wpAny_pure ?_);unfold descrGetter descrCheckInstance descrNameAndClass isInstance;simp only[KF.owner_class]
 repeat lk
 refine⟨Code.quiet_builtin _ (by decide +kernel),codeAny_builtin KF.entry_class ?_⟩;unfold Builtin.«object.__class__» shownTypeOf
 repeat lk
 exact hq
def Fk (X:K.In h)(I:IQ a C h)(k:nR K C):Looks (model prog w) h (Builtin.ObjectAttr.find (.ref a) (.ref C) "__class__") (.bind (.builtin "getset_descriptor.__get__") (.builtin "object.__class__")):=by
 have L1:=looks_findIn (M:=model prog w) X k.ca;have L2:Looks (model prog w) h (Builtin.ObjectAttr.getOf (Z (.builtin "object.__class__"))) (Z (.builtin "getset_descriptor.__get__")):=looks_specialIn X k.sp;unfold Builtin.ObjectAttr.find;refine L1.andThen (L2.andThen ?_);have L3:=looks_takesIn (M:=model prog w) X k.tk;have L4:Looks (model prog w) h (Builtin.ObjectAttr.dataDescriptor? (Z (.builtin "object.__class__")) (Z (.builtin "getset_descriptor.__get__"))) (Z (.builtin "getset_descriptor.__get__",.builtin "object.__class__")):=L3.andThen .now;exact L4.andThen (Looks.tag .now)
def CF {tk:Tok}{Q:PySem.Fin->Shared->Prop}(X:K.In h)(I:IQ a C h)(k:nR K C)(hq:Q (.done (.ret (.ref C))) ⟨h,g,d,t,os⟩) :
  wpAny (model prog w) A (Builtin.«object.__getattribute__» ⟨[.ref a,.str "__class__" tk],[]⟩) Q E ⟨h,g,d,t,os⟩:=by
 unfold Builtin.«object.__getattribute__»;refine wpAny_bind (wpAny_pure ?_);refine wpAny_bind (wpAny_pure ?_);refine wpAny_bind (I.type.at ?_);refine wpAny_bind ((Fk X I k).at ?_);show wpAny (model prog w) A (Builtin.ObjectAttr.bindTo _ _ _ _) Q E _;unfold Builtin.ObjectAttr.bindTo;refine wpAny_bind (wpAny_holding (wpAny_call (HQ X I k ?_)));exact wpAny_pure hq
def KP {tk:Tok}{Q:Value->Shared->Prop}(X:K.In h)(I:IQ a C h)(k:nR K C)(hq:Q (.ref C) ⟨h,g,d,t,os⟩):wpAny (model prog w) A (getAttrBy (.ref a) (.str "__class__" tk) false) Q E ⟨h,g,d,t,os⟩:=by
 have L0:=I.type (M:=model prog w);have L1:=looks_findIn (M:=model prog w) X k.ga;have L2:=looks_findIn (M:=model prog w) X k.gh;have hkind:builtinKind "BaseException.__getattribute__"=Z .slot:=by decide +kernel
 have hcut:splitId "BaseException.__getattribute__"=Z ("BaseException","__getattribute__"):=by decide +kernel
 have hargs:=F.args_bexc_ga (.ref a) (.str "__class__" tk);have LB:=looks_mroIn (M:=model prog w) X k.be;have chk:∀{A':Around} {E':Value->Shared->Prop} {Q':Unit->Shared->Prop},Q' () ⟨h,g,d,t,os⟩->wpAny (model prog w) A' (checkBuiltinCall "BaseException.__getattribute__" ⟨[.ref a,.str "__class__" tk],[]⟩) Q' E' ⟨h,g,d,t,os⟩:=λhq'=>by
  simp only[checkBuiltinCall,hkind,hcut];refine wpAny_bind ?_;unfold isInstance;refine wpAny_bind (L0.at (LB.at ?_))
  repeat (first|wp_step)
  exact hq'
 have f3:=PySem.F.attr_ValueError.ga.bind (.ref a);unfold getAttrBy;refine wpAny_holding (wpAny_bind (L0.at (wpAny_bind (L1.at ?_))));show wpAny _ _ (getAttrByItsOwn _ _ _ _ _ _) _ _ _;unfold getAttrByItsOwn hookBefore;refine wpAny_bind ?_;rw[if_pos (show onTheHeap (Value.ref C)=true from rfl)];refine L2.at ?_;refine wpAny_bind (wpAny_attempt (wpAny_holding ?_));unfold callGetattribute;rw[if_neg (by simp)];unfold boundAndCalled;rw[f3];refine wpAny_bind (wpAny_pure ?_);refine wpAny_call (codeAny_call_builtin PySem.F.attr_ValueError.ga.plain F.entry_bexc_ga (chk (CF X I k ?_)));exact wpAny_pure hq
def Do {Q:Option Value->Shared->Prop}(X:K.In h)(I:IQ a C h)(k:nR K C)(hq:Q (Z (.ref C)) ⟨h,g,d,t+1,os⟩):wpAny (model prog w) A (getAttr? (.ref a) "__class__") Q E ⟨h,g,d,t,os⟩:=by
 unfold getAttr? getAttrBy?;refine wpAny_bind (wpAny_mkText ?_);refine wpAny_bind (wpAny_attempt (KP X I k ?_));exact wpAny_pure hq
def Ep (k:nR K C):KitX K (.ref a) (.ref C) (IQ a C) where
 ty:=λM h _ I=>I.type
 it:=λM h X I=>by
  have hc:=k.cl;obtain⟨cd,hc⟩:=Option.isSome_iff_exists.mp hc;unfold clsIn at hc;split at hc
  ·rename_i ho;intro A' Q' E' s' k' q;unfold isType loadHead;exact wpAny_bind (wpAny_loadPart (k' _ _ (X _ _ ho)) (wpAny_pure q))
  ·cases hc
 ne:=λh tp dd its n sl X htp=>by
  refine Bool.eq_false_iff.mpr λq=>?_
  obtain⟨cd,hc⟩:=Option.isSome_iff_exists.mp k.cl;have e:C=tp:=Value.ref.inj (beq_iff_eq.mp q);subst e;unfold clsIn at hc;split at hc
  ·rename_i ho;have z:=(X _ _ ho).symm.trans htp;cases z
  ·cases hc
 ca:=λ{prog w A E Q s} X I hq=>by
  obtain⟨h,g,d,t,os⟩:=s;exact Do X I k hq
end
end DL
namespace DL
open PySem PySem.Spec PyProof.Rows L2 List
abbrev OS:List Value:=[.type "ValueError",.type "Exception",.type "BaseException",.type "object"]
structure Ec (K:W.Frag)(mg:Str->Option Value)(c:Str)(C:Addr):Prop where
 at_:dR K c C
 m:mg c=Z (.ref C)
 k:nR K C
 ex:W.excIn K C OS "ValueError.__new__"=true
 ty:W.typeIn K (.ref C)=Z (.type "type")
 sf:W.mroIn K C (.ref C)=Z true
variable{K:W.Frag}{C:Addr}
def Kn {h:Heap}{bmB:List Value}{newId:String}(X:K.In h)(q:W.excIn K C bmB newId=true) :
  ∃bm N nm qn bs hdct sn sub ab col dd k0 k1 k2 k3 k5 mN,h.get? C=Z (excClassObj nm qn C N bs bm hdct sn sub ab col dd k0 k1 k2 k3 k5 newId)/\h.Ns N mN/\mN "__init__"=Y/\OwnTail h bmB bm:=by
 unfold W.excIn at q;split at q
 ·rename_i d1 cd s1 at1;split at q
  ·rename_i C2 rest j0 j1 j2 j3 nn j5 e1 e2;simp only[Bool.and_eq_true,beq_iff_eq,Bool.not_eq_true'] at q;obtain⟨⟨⟨⟨⟨r1,r2⟩,r3⟩,r4⟩,r5⟩,r6⟩:=q;subst r1;subst r2;cases cd with
   | mk c1 c2 c3 c4 c5 c6 c7 c8 c9 c10 c11=>
    dsimp only at e1 r3 r5 r6;subst e1;subst r3;have e3:s1=#[j0,j1,j2,j3,Z (.builtin nn),j5]:=by
     cases s1 with
     | mk l=>
      have e4:l=_:=e2;rw[e4]
    subst e3;refine⟨rest,c4,c1,c5,c2,c6,c7,c8,c9,c10,d1,j0,j1,j2,j3,j5,h.nsMap c4,X _ _ at1,?_,W.nsMap_none_of_in X r5 r6,W.tail_of_in X r4⟩;exact Heap.Ns.of_isNs (W.isNs_of_in X r5)
  ·cases q
 ·cases q
def fV (c:Str)(g:GE):GS:=λρ M=>(g ρ M).bind λ_ M1=>.err c M1
def Fi {X:Cx}{c:Str}{e:Expr}{g:GE}{np cpos pos:Pos}(k:Ec X.K X.mg c C)(hc:X.calm=true)(hg:Gl X c)(he:PE X e (tE X g))(h1:aW e=true:=by rfl)(hd:(c==("__debug__":Str))=false:=by decide) :
  PS X (.Raise (Z (.Call (.Name c np) [e] [] cpos)) Y pos) (tS X (fV c g)):=by
 intro ag s σ H D I h;obtain⟨ρ,θ,M,hdn,hw,h⟩:=h;obtain⟨bm,N,nm,qn,bs,hdct,sn,sub,ab,col,dd,k0,k1,k2,k3,k5,mN,hC,hN,hni,T⟩:=Kn I.ok.mod.kin k.ex;have hs:starEach [e] X.env=(false,eval e X.env)::starEach [] X.env:=sE h1;have hplain:(backTo cpos (starEach [e] X.env)).any (·.1)=false:=sS (by unfold dj;simp[h1]);refine wpAny_Raise_call_subT (C:=C) (nm:=nm) (q:=qn) (N:=N) (bs:=bs) (bm:=bm) (hdct:=hdct) (sn:=sn) (sub:=sub) (ab:=ab) (col:=col) (dd:=dd) (k0:=k0) (k1:=k1) (k2:=k2) (k3:=k3) (k5:=k5)
  PySem.F.excBase_ValueError (mN:=mN) (T.hasType PySem.F.excBase_ValueError.hasBase) (I.ok.hd hc) hplain hni (pv I hg k.m ⟨rfl,?_⟩ hd)
 have hv:=fP he kT hs cpos ag s σ H (λvs H1=>vs.length=1/\∃θ1 M1,Go X.K θ H θ1 H1 M1/\fJ X θ1 H1 c M1) I (by
  refine bD hdn hw (bZ X θ H D) (λc M' h=>h) (λh=>h) h λd M1 v θ1 H1 g1 r1 h2=>?_
  exact⟨rfl,θ1,M1,g1,fJ.go g1 h2⟩)
 rw[hs] at hv ⊢;refine Calls.evalArgs_plain (wpAny_mono hv (λus s2 hq=>⟨rfl,?_⟩) λ_ _ y=>y);obtain⟨vs,H1,I1,rv,hl,θ1,M1,g1,ok⟩:=hq;refine⟨by show us.length<=sizeLine;rw[<-rv.length,hl];exact Nat.le_trans (by decide:1<=1000000) (by rw[sizeLine_eq];decide),I1.bk _ _ hC,hN.keeps I1.bk,T.keeps I1.bk,λh' e' hm=>?_⟩;exact ok C θ1 H1 e' _ k.at_ (.refl g1.wr) ⟨ag,σ,.inl ⟨s2.heap,us,I1,hm⟩⟩
variable{b:Bool}
section
variable {M:Model}{A:Around}{E:Value->Shared->Prop}{K:W.Frag}{a C G:Addr}{h:Heap}{g:Array GenState}{d:Drawn}{t:Nat}{os:OsState}
def xC (X:K.In h)(k:(W.clsIn K G).isSome=true):W.Looks M h (isType (.ref G)) true:=by
 obtain⟨cd,hc⟩:=Option.isSome_iff_exists.mp k;unfold W.clsIn at hc;split at hc
 ·rename_i ho;intro A' Q' E' s' k' q;unfold isType loadHead;exact wpAny_bind (wpAny_loadPart (k' _ _ (X _ _ ho)) (wpAny_pure q))
 ·cases hc
def yT {Q:Bool->Shared->Prop}(X:K.In h)(I:IQ a C h)(kG:nR K G)(tG:W.typeIn K (.ref G)=Z (.type "type"))(hm:W.mroIn K C (.ref G)=Z b)
  (hq:Q b ⟨h,g,d,t,os⟩):wpAny M A (excMatches (.ref a) (.ref G)) Q E ⟨h,g,d,t,os⟩:=by
 have L0:W.Looks M h (typeOf (.ref a)) (.ref C):=I.type;have L1:=W.looks_typeIn (M:=M) X tG;have L2:W.Looks M h (isSubtype (.type "type") (.type "tuple")) false:=W.Looks.of_pure tc_notTuple;have L3:=W.looks_mroIn (M:=M) X kG.be;have L4:=W.looks_mroIn (M:=M) X hm;have L5:W.Looks M h (isInstance (.ref G) (.type "tuple")) false:=L1.andThen L2;have L6:W.Looks M h (isType (.ref G)) true:=xC X kG.cl;unfold excMatches;refine wpAny_bind (L5.at ?_);simp only[Bool.false_eq_true,if_false];refine wpAny_bind (wpAny_pure ?_);simp only[forIn_cons,forIn_nil];unfold isExcClass;refine wpAny_bind (wpAny_bind (wpAny_bind (wpAny_bind (L6.at ?_))));simp only[if_true];refine L3.at ?_;simp only[Bool.not_true,Bool.false_eq_true,if_false];refine wpAny_pure ?_;refine wpAny_pure ?_;refine wpAny_bind (L0.at ?_);refine wpAny_bind (wpAny_bind (wpAny_bind (L4.at ?_)));cases b with
 | true=>
  simp only[if_true];exact wpAny_pure (wpAny_pure (wpAny_pure hq))
 | false=>
  simp only[Bool.false_eq_true,if_false];exact wpAny_pure (wpAny_pure (wpAny_pure hq))
end
variable{A:Around}{Q:Unit->Shared->Prop}
section
variable {X:Cx}{ag:List (Addr×Obj)}{σ:L2.St}{H:Hp}{s:Shared}{B:Heap}{a C:Addr}{a0:Value}
def CK (I:L2.Inv X ag σ H s)(f6:Lv X ag H B)(fl:Heap.FlyingW B X.stack a (.ref C) a0 s.heap)(hn:H a=Y):L2.Inv X ag σ (cx H a (HU a C)) s:=by
 obtain⟨oe,vs,he,hcl,hd,_⟩:=fl.first;have hBa:B.get? a=Y:=fl.2.1;have nfld:∀b o,s.heap.get? b=Z o->(∀ws,o.data≠.fields ws)->b≠a:=λb o e n z=>by
  subst z;rw[he] at e;cases e;exact n vs hd
 have nB:∀b o,B.get? b=Z o->b≠a:=λb o e z=>by rw[z,hBa] at e;cases e
 have nloc:X.env.locals≠a:=by
  obtain⟨m,⟨o,es,ep,ho,hdat,_⟩,_⟩:=I.loc;exact nfld _ o ho λws q=>by rw[hdat] at q;cases q
 have nold:∀b o,X.s₀.heap.get? b=Z o->b∉X.ex->b≠a:=λb o e nx=>by
  by_cases hf:b∈X.fs
  ·obtain⟨_,ob,e2,nf⟩:=I.funs.mem hf;exact nfld b ob e2 nf
  ·obtain⟨o',e'⟩:=f6.old b o e nx (rH I e hf);exact nB b o' e'
 refine⟨I.ok,I.os,I.bare,⟨I.base.keep,I.base.slot,λb o e n nx=>?_,I.base.there,λb xs e=>?_,λb o u e=>?_,λb ps e=>?_⟩,I.loc,I.cell,?_,λx c e=>?_,λp hp=>?_,λb o e=>?_,I.len⟩
 ·rw[aB (nold b o e nx)];exact I.base.free b o e n nx
 ·have q:=I.base.tups b xs e;rw[aB (λz=>by rw[z,hn] at q;cases q)];exact q
 ·have q:=I.base.frzs b o u e;rw[aB (λz=>by rw[z,hn] at q;cases q)];exact q
 ·obtain⟨m,q⟩:=I.base.tbls b ps e;exact⟨m,by rw[aB (λz=>by rw[z,hn] at q;cases q)];exact q⟩
 ·rw[aB nloc];exact I.free
 ·obtain⟨v,o,ho,hdat⟩:=I.cell x c e;rw[aB (nfld c o ho λws q=>by rw[hdat] at q;cases q)];exact I.freeC x c e
 ·obtain⟨e,n,ne,nf,d⟩:=I.pin p hp;obtain⟨o',e'⟩:=f6.pin p hp;exact⟨e,by rw[aB (nB _ _ e')];exact n,ne,nf,d⟩
 ·by_cases hb:b=a
  ·subst hb;rw[bJ] at e;cases e;exact⟨⟨oe,he,hcl⟩,⟨oe,he⟩,λh1 h2 ⟨o,e1,e2⟩ k=>⟨o,k o e1,e2⟩⟩
  ·rw[aB hb] at e;exact(I.hok b o e).stay (λ_ _ _ q=>q) (λc q=>by rw[aB (λz=>by rw[z,hn] at q;cases q)];exact q) λc xs q=>by rw[aB (λz=>by rw[z,hn] at q;cases q)];exact q
def m4 {M:Model}{E:Value->Shared->Prop}{i:Nat}{n:Str}{pos:Pos}(I:L2.Inv X ag σ H s)(hN:X.N.Nodup)(hi:X.N[i]?=Z n)(hl:X.env.kindOf n=Z .local)
  (h:∀s',L2.Inv X ag (σ.set i Y) H s'->Q () s'):wpAny M A (do bindName X.env n .none;unbindBehindTheSuite X.env n pos) Q E s:=by
 obtain⟨m,hn,lk⟩:=I.loc;have hcls:(X.env.scope.kind==.class||(X.env.scope.kind==.module&&X.env.locals != X.env.globals))=false:=by rw[I.ok.kind];rfl
 have hiσ:i<σ.length:=by rw[I.len];exact(List.getElem?_eq_some_iff.mp hi).1
 refine wpAny_nameGoes_keeps hl hn hcls λh' v hn' hs=>h _ ?_
 have old:∀b o,X.s₀.heap.get? b=Z o->b≠X.env.locals:=λb o e=>Nat.ne_of_lt (Nat.lt_of_lt_of_le (Heap.lt_size e) I.ok.above)
 refine⟨I.ok,I.os,I.bare,⟨λb o e n hb hx=>(hs.2 b (old b o e)).trans (I.base.keep b o e n hb hx),λb o e n hb hx=>?_,I.base.free,λb o e hx=>?_,I.base.tups,I.base.frzs,I.base.tbls⟩,⟨_,hn',λj y v' e1 e2 e3=>?_⟩,λy c e=>?_,I.free,I.freeC,λp hp=>?_,λb o e=>?_,?_⟩
 ·obtain⟨sl,e1⟩:=I.base.slot b o e n hb hx;exact⟨sl,(hs.2 b (old b o e)).trans e1⟩
 ·obtain⟨o',e1⟩:=I.base.there b o e hx;exact⟨o',(hs.2 b (old b o e)).trans e1⟩
 ·by_cases hj:j=i
  ·subst hj;rw[getElem?_set_self hiσ] at e2;cases e2
  ·rw[getElem?_set_ne (Ne.symm hj)] at e2;obtain⟨u',r',q⟩:=lk j y v' e1 e2 e3;refine⟨u',r',?_⟩;rcases q with⟨k,e⟩|⟨k,c,e,z⟩
   ·have ny:y≠n:=λe=>hj (sj hN e1 (e▸hi))
    exact .inl ⟨k,by show(if y=n then v else m y)=Z u';rw[if_neg ny];exact e⟩
   ·exact .inr ⟨k,c,e,z.sameBut hs (I.cne y c e)⟩
 ·obtain⟨w',z⟩:=I.cell y c e;exact⟨w',z.sameBut hs (I.cne y c e)⟩
 ·obtain⟨e,n,ne,nf,d⟩:=I.pin p hp;exact⟨(hs.2 p.1 ne).trans e,n,ne,nf,d⟩
 ·refine(I.hok b o e).stay (λc w' hc q=>(hs.2 c ?_).trans q) (λ_ q=>q) λ_ _ q=>q
  rintro z;have hf:=I.free;rw[<-z] at hf;rcases hc with hc|hc
  ·rw[<-hc,hf] at e;cases e
  ·rw[hf] at hc;cases hc
 ·rw[length_set];exact I.len
def Ac {M:Model}{E:Value->Shared->Prop}{env:Env}{outer:List Env}{L:Addr}{base h:Heap}{vs:List Value}
  (hfr:A.frames=Z (env::outer)) (hf:env.frame=Z L) (hkb:base.StaysIn h) (hl:h.FunFrames base (env::outer)) (m:Heap.MadeExcOf h s.heap a (.ref C) vs)
  (hQ:∀h' t,Heap.HeldW base (env::outer) a (.ref C) (.ref t) L h'->s.heap.UpToSlots h'->Q () {s with heap:=h'}):wpAny M A (noteFrame (.ref a) env) Q E s:=by
 obtain⟨t,he,htn,ht⟩:=m.there;have fresh:base.get? a=Y:=by
  cases hq:base.get? a with
  | none=>rfl
  | some o'=>have z:=hkb a o' hq;rw[m.new] at z;cases z
 unfold noteFrame;simp only[hf];refine wpAny_bind (wpAny_field he rfl (x:=.none) rfl ?_);rw[if_neg (by decide)];refine wpAny_entryW (a0:=.ref t) hfr (hl.of_keeps λb o hb _=>⟨o,m.keeps b o hb,rfl⟩) hf he (λb o hb=>m.keeps b o (hkb b o hb)) fresh rfl (by show 1<6;decide) rfl λh' hN=>?_
 obtain⟨x1,x2,x3,x4⟩:=hN;exact hQ h' t ⟨x1,fresh,x2,x3⟩ x4
end
def CV (i:Nat):Fl->Fl
 | .nx ρ=>.nx (ρ.set i Y)
 | .bk ρ=>.bk (ρ.set i Y)
 | .ct ρ=>.ct (ρ.set i Y)
 | .rt d=>.rt d
def oJ (i:Nat)(ok:Str->Bool)(gb gh:GS):GS:=λρ M=>match gb ρ M with
 | .err c M1=>if ok c then match gh ((List.replicate ρ.length Y).set i (Z (.exc c))) M1 with
   | .ok f M2=>.ok (CV i f) M2
   | _=>.bad
  else .bad
 | o=>o
abbrev sY (X:Cx)(pn:List (Addr×Obj))(E:Value->Shared->Prop):Cx:={X with pn:=pn,xe:=E}
abbrev n9 (X:Cx)(pn:List (Addr×Obj))(a:Addr):Cx:={X with A:=X.A.mark (Z (.ref a)),calm:=false,pn:=pn,xe:=λ_ _=>False}
section
variable {X:Cx}{ag pins' pn:List (Addr×Obj)}{σ:L2.St}{H:Hp}{s:Shared}{E:Value->Shared->Prop}{a:Addr}
def Nl (k:X.Ok):(sY X pn E).Ok:=⟨k.mod,k.kind,k.glob,k.blt,k.above,k.inj,k.has,k.cab,k.hd,k.frames,k.stk,k.exf,k.bs,k.bsz,k.noex,k.exfs,k.funs,k.frf⟩
def Hh (k:X.Ok):(n9 X pn a).Ok:=⟨k.mod,k.kind,k.glob,k.blt,k.above,k.inj,k.has,k.cab,(λz=>by cases z),k.frames,k.stk,k.exf,k.bs,k.bsz,k.noex,k.exfs,k.funs,k.frf⟩
def yN (k:(sY X pn E).Ok):X.Ok:=⟨k.mod,k.kind,k.glob,k.blt,k.above,k.inj,k.has,k.cab,k.hd,k.frames,k.stk,k.exf,k.bs,k.bsz,k.noex,k.exfs,k.funs,k.frf⟩
def IP (I:L2.Inv X ag σ H s):L2.Inv (sY X (X.pn++ag) E) [] σ H s:=⟨Nl I.ok,I.os,I.bare,I.base,I.loc,I.cell,I.free,I.freeC,λp hp=>I.pin p (by simpa using hp),I.hok,I.len⟩
def nh (I:L2.Inv (sY X (X.pn++ag) E) pins' σ H s):L2.Inv X ag σ H s:=⟨yN I.ok,I.os,I.bare,I.base,I.loc,I.cell,I.free,I.freeC,λp hp=>I.pin p (mem_append_left _ hp),I.hok,I.len⟩
def Gp (I:L2.Inv (sY X pn E) pins' σ H s):L2.Inv (n9 X pn a) pins' σ H s:=⟨Hh (yN I.ok),I.os,I.bare,I.base,I.loc,I.cell,I.free,I.freeC,I.pin,I.hok,I.len⟩
def kz (k:X.Ok)(I:L2.Inv (n9 X (X.pn++ag) a) pins' σ H s):L2.Inv X ag σ H s:=⟨k,I.os,I.bare,I.base,I.loc,I.cell,I.free,I.freeC,λp hp=>I.pin p (mem_append_left _ hp),I.hok,I.len⟩
end
variable{θ:List Addr}{H:Hp}{σ:L2.St}
def j9.clear {ρ:bK}(h:j9 K θ H σ ρ)(i:Nat):j9 K θ H (σ.set i Y) (ρ.set i Y):=by
 refine⟨by rw[length_set,length_set];exact h.len,λj d e=>?_⟩
 by_cases hj:j=i
 ·subst hj;have hl:j<ρ.length:=by have:=(List.getElem?_eq_some_iff.mp e).1;rw[length_set] at this;exact this
  rw[getElem?_set_self hl] at e;cases e
 ·rw[getElem?_set_ne (Ne.symm hj)] at e;obtain⟨u,e1,r1⟩:=h.at_ j d e;exact⟨u,by rw[getElem?_set_ne (Ne.symm hj)];exact e1,r1⟩
def Gw {n i:Nat}{d:D}{v:V}(hl:σ.length=n)(r:dC K θ H d v):j9 K θ H (σ.set i (Z v)) ((List.replicate n Y).set i (Z d)):=by
 refine⟨by rw[length_set,length_set,length_replicate,hl],λj d' e=>?_⟩
 by_cases hj:j=i
 ·subst hj;have hlt:j<n:=by have:=(List.getElem?_eq_some_iff.mp e).1;rw[length_set,length_replicate] at this;exact this
  rw[getElem?_set_self (by rw[length_replicate];exact hlt)] at e;have e':d=d':=by simpa using e
  subst e';exact⟨v,getElem?_set_self (by rw[hl];exact hlt),r⟩
 ·rw[getElem?_set_ne (Ne.symm hj),getElem?_replicate] at e;split at e <;> cases e
def Ny {X:Cx}{G n:Str}{Ga:Addr}{i:Nat}{ok:Str->Bool}{gb gh:GS}{body suite:List Stmt}{b0:Stmt}{np hpos pos:Pos}(kG:Ec X.K X.mg G Ga)(hok:∀c C,ok c=true->dR X.K c C->W.mroIn X.K C (.ref Ga)=Z true)
  (hg:Gl X G) (hst:X.stack=X.env::X.outer) (hf:X.env.frame=Z X.env.locals) (hN:X.N.Nodup) (hi:X.N[i]?=Z n) (hl:X.env.kindOf n=Z .local) (hfn:X.fn n=true\/X.env.scope.names.lookup n=Z .local)
  (hb:∀pn E,PSs (sY X pn E) body (tS (sY X pn E) gb)) (hh:∀pn a,PSs (n9 X pn a) (b0::suite) (tS (n9 X pn a) gh)) (hd:(G==("__debug__":Str))=false:=by decide) :
  PS X (.Try body [.ExceptHandler (Z (.Name G np)) (Z n) (b0::suite) hpos] [] [] pos) (tS X (oJ i ok gb gh)):=by
 intro ag s σ H D I h;obtain⟨ρ,θ,M,hdn,hw,h⟩:=h;have fin:∀(f:Flow) (s1:Shared) (E:Value->Shared->Prop),SP (sY X (X.pn++ag) E) [] D f s1->SP X ag D f s1:=λf s1 E q=>by
  cases f with
  | next=>obtain⟨σ',H',I',q⟩:=q;exact⟨σ',H',nh I',q⟩
  | brk=>obtain⟨σ',H',I',q⟩:=q;exact⟨σ',H',nh I',q⟩
  | cont=>obtain⟨σ',H',I',q⟩:=q;exact⟨σ',H',nh I',q⟩
  | ret u=>obtain⟨v,σ',H',I',r,q⟩:=q;exact⟨v,σ',H',nh I',r,q⟩
 refine wpAny_Try_except ?_;obtain⟨E,hE⟩:∃E:Value->Shared->Prop,E=(λe s₁=>wpAny (model X.prog X.w) X.A (noteFrame e X.env) (λ_ s₂=>wpAny (model X.prog X.w) X.A (setFlight e Y) (λ_ s₃=>wpAny (model X.prog X.w) X.A (handleBy e X.env [.ExceptHandler (Z (.Name G np)) (Z n) (b0::suite) hpos]) (SP X ag D) X.xe s₃) X.xe s₂) X.xe s₁):=⟨_,rfl⟩;refine wpAny_mono (hb (X.pn++ag) E [] s σ H D (IP I) ⟨ρ,θ,M,hdn,hw,?_⟩) (λf s1 q=>?_) λe s₁ y=>by rw[hE] at y;exact y
 ·unfold oJ at h;cases q:gb ρ M with
  | ok f M1=>rw[q] at h;cases f <;> exact h
  | bad=>rw[q] at h;exact h
  | err c M1=>
   rw[q] at h;have h:bZ X θ H D (if ok c=true then(match gh ((List.replicate ρ.length Y).set i (Z (.exc c))) M1 with | .ok f M2=>.ok (CV i f) M2|_=>.bad) else .bad):=h
   by_cases hc:ok c=true
   ·rw[if_pos hc] at h;intro C θ1 H1 a s1 kC g1 fl;obtain⟨pins',σ',fl⟩:=fl;show E (.ref a) s1;rw[hE];have land:∀(B:Heap) (a0:Value) (s5:Shared),L2.Inv (sY X (X.pn++ag) E) pins' σ' H1 s5->H1 a=Y->
      Heap.FlyingW B X.stack a (.ref C) a0 s5.heap->Lv (n9 X (X.pn++ag) a) pins' H1 B->wpAny (model X.prog X.w) X.A (handleBy (.ref a) X.env [.ExceptHandler (Z (.Name G np)) (Z n) (b0::suite) hpos]) (SP X ag D) X.xe s5:=λB a0 s5 I5 hn fl5 f6=>by
     have J5:L2.Inv (n9 X (X.pn++ag) a) pins' σ' H1 s5:=Gp I5;refine wpAny_handleBy_cons (codeAny_handlers_test (pv (X:=n9 X (X.pn++ag) a) J5 hg kG.m ?_ hd)) (by intro q;cases q);obtain⟨hp5,gg5,dd5,tt5,os5⟩:=s5;refine yT J5.kIn fl5.there kG.k kG.ty (hok c C hc kC) (codeAny_handlers_suite_as ?_);refine lands_againW fl5 λh6 fl6 up6=>?_
     have J6:=lT J5 f6 fl5.1 fl6.1 up6;have J7:=CK J6 f6 fl6 hn;refine mE (X:=n9 X (X.pn++ag) a) J7 hN hi (.inl hl) (v:=.ref a) rfl (λs8 J8=>?_) hfn;have g7:Go X.K θ1 H1 θ1 (cx H1 a (HU a C)) M1:=dX g1.wr hn;have ra:dC X.K θ1 (cx H1 a (HU a C)) (.exc c) (.ref a):=⟨a,C,rfl,kC,bJ,g1.wr.fresh hn⟩;have hlen:σ'.length=ρ.length:=by rw[hdn.len,J7.len];exact I.len.symm
     refine wpAny_mono (hh (X.pn++ag) a pins' s8 _ _ {nx:=λσ2 H2=>D.nx (σ2.set i Y) H2,bk:=λσ2 H2=>D.bk (σ2.set i Y) H2,ct:=λσ2 H2=>D.ct (σ2.set i Y) H2,rt:=D.rt} J8 ⟨_,θ1,M1,Gw hlen ra,g7.wr,?_⟩) (λf s9 q9=>?_) λ_ _ z=>z.elim
     ·cases qg:gh ((List.replicate ρ.length Y).set i (Z (.exc c))) M1 with
      | bad=>rw[qg] at h;exact h
      | err c2 M2=>rw[qg] at h;exact h.elim
      | ok f M2=>
       rw[qg] at h;have gg:=g1.trans g7;cases f with
       | nx ρ2=>exact λσ2 θ2 H2 g2 d2=>h (σ2.set i Y) θ2 H2 (gg.trans g2) (d2.clear i)
       | bk ρ2=>exact λσ2 θ2 H2 g2 d2=>h (σ2.set i Y) θ2 H2 (gg.trans g2) (d2.clear i)
       | ct ρ2=>exact λσ2 θ2 H2 g2 d2=>h (σ2.set i Y) θ2 H2 (gg.trans g2) (d2.clear i)
       | rt d=>exact λv θ2 H2 g2 r2=>h v θ2 H2 (gg.trans g2) r2
     ·cases f with
      | next=>
       obtain⟨σ9,H9,I9,q9⟩:=q9;exact m4 (X:=n9 X (X.pn++ag) a) I9 hN hi hl λs' I'=>⟨_,H9,kz I.ok I',q9⟩
      | brk=>
       obtain⟨σ9,H9,I9,q9⟩:=q9;exact m4 (X:=n9 X (X.pn++ag) a) I9 hN hi hl λs' I'=>⟨_,H9,kz I.ok I',q9⟩
      | cont=>
       obtain⟨σ9,H9,I9,q9⟩:=q9;exact m4 (X:=n9 X (X.pn++ag) a) I9 hN hi hl λs' I'=>⟨_,H9,kz I.ok I',q9⟩
      | ret u=>
       obtain⟨v9,σ9,H9,I9,r9,q9⟩:=q9;exact m4 (X:=n9 X (X.pn++ag) a) I9 hN hi hl λs' I'=>⟨v9,_,H9,kz I.ok I',r9,q9⟩
    have hfrm:X.A.frames=Z (X.env::X.outer):=by rw[<-hst];exact I.ok.frames
    rcases fl with⟨h0,vs,I0,m⟩|⟨I0,hn,B,a0,fl,f6⟩|⟨I0,hn,B,a0,L,hL,held,f6⟩
    ·have f6:=yt I0;have hid:∀b o,(W.hideAll h0 (sG X.stack)).get? b=Z o->h0.get? b=Z o:=λb o q=>W.of_hideAll _ q
     have ff:h0.FunFrames (W.hideAll h0 (sG X.stack)) (X.env::X.outer):=by rw[<-hst];exact qL I0
     refine Ac hfrm hf hid ff m λh4 t held4 up4=>?_
     refine wpAny_landsW held4 λh5 fl5 up5=>?_
     have I1:=I0.kept (t':=s1.toks) (h':=s1.heap) m.keeps;have I5:=lT (s:=s1) (h':=h5) I1 f6 (λb o q=>m.keeps b o (hid b o q)) fl5.1 (up4.trans up5);have fl6:=fl5;rw[<-hst] at fl6;exact land _ _ _ I5 (vO I0 m) fl6 ⟨f6.trk,f6.pin,f6.old⟩
    ·have fl:Heap.FlyingW B (X.env::X.outer) a (.ref C) a0 s1.heap:=by rw[<-hst];exact fl
     refine wpAny_looks_onW hfrm hf fl λh4 held4 up4=>?_
     refine wpAny_landsW held4 λh5 fl5 up5=>?_
     have I5:=lT (s:=s1) (h':=h5) I0 f6 fl.1 fl5.1 (up4.trans up5);have fl6:=fl5;rw[<-hst] at fl6;exact land B a0 _ I5 hn fl6 ⟨f6.trk,f6.pin,f6.old⟩
    ·refine wpAny_noteFrame_againW hL held.2.2.2 ?_;refine wpAny_landsW held λh5 fl5 up5=>?_
     have I5:=lT (s:=s1) (h':=h5) I0 f6 held.1 fl5.1 up5;exact land B a0 _ I5 hn fl5 ⟨f6.trk,f6.pin,f6.old⟩
   ·rw[if_neg hc] at h;exact h.elim
 ·cases f with
  | next=>exact wpAny_execs_nil (fin .next s1 _ q)
  | brk=>exact fin .brk s1 _ q
  | cont=>exact fin .cont s1 _ q
  | ret u=>exact fin (.ret u) s1 _ q
variable{es:List Expr}{gs:List GE}{M:az}{xs:List D}{c0:Value}{T:String}
section
variable {X:Cx}
def AJ:FD:=λds M=>match ds with
 | [.int i,.int j]=>if 0<j/\j.natAbs.log2<9000 then .ok (.tup [.int (i / j),.int (i % j)]) M else .bad
 | _=>.bad
def B8:d9 X (.builtin "divmod") (rC X AJ):=by
 intro ag s σ H xs us Q I r h;obtain⟨θ,M,ds,hw,rd,h⟩:=h;unfold AJ at h;split at h
 ·rename_i i j;obtain⟨v,v',e,r1,r2⟩:=E3 rd;have e1:v=.int i:=r1;have e2:v'=.int j:=r2;subst e;subst e1;subst e2;obtain⟨u,u',rfl,⟨t,rfl⟩,⟨t',rfl⟩⟩:=A1 r;split at h
  ·rename_i hc;have h1:(0:Int)<j:=hc.1;refine divmod_int (by omega) ?_ (.inl (PyProof.noPylong_of_log2 hc.2));rw[Int.fdiv_eq_ediv_of_nonneg i (by omega),Int.fmod_eq_emod_of_nonneg i (by omega)];have hp:H s.heap.objs.size=Y:=I.hok.fresh (Nat.le_refl _);refine⟨.ref s.heap.objs.size,_,I.laid (t':=s.toks+1+1) (λb o e=>Heap.get?_push_of_some _ e) (Nat.le_refl _) (show cX X.prog X.w _ _ _ (.tup [.int (i / j),.int (i % j)]) from⟨Nat.le_trans (by decide:2<=1000000) (by rw[sizeLine_eq];decide),[.int (i / j) s.toks,.int (i % j) (s.toks+1)],.cons ⟨_,rfl⟩ (.cons ⟨_,rfl⟩ .nil),IsTup.new _ _⟩),rfl,?_⟩;exact h _ θ _ (dX hw hp) (iJ hw hp (show bt X.K θ H [.int (i / j),.int (i % j)] [.int (i / j),.int (i % j)] from⟨_,_,rfl,rfl,_,_,rfl,rfl,rfl⟩))
  ·exact h.elim
 ·exact h.elim
def zr:D->Option Str
 | .int a=>if a.natAbs.log2<1920 then Z (toString a) else Y
 | .str x=>if x.length<=sizeLine then Z x else Y
 | _=>Y
def Ap (g:GE):GE:=λρ M=>(g ρ M).bind λd M1=>match zr d with
 | some x=>.ok (.str x) M1
 | none=>.bad
def Nq {e:Expr}{g:GE}{pos:Pos}{i:Int}(he:PE X e (tE X g))(hi:i=-1:=by rfl):PE X (.FormattedValue e i Y pos) (tE X (Ap g)):=by
 subst hi;intro ag s σ H Q I h;obtain⟨ρ,θ,M,hd,hw,h⟩:=h;refine FormattedValue_plain (wpAny_mono (he ag s σ H (λv H1=>∃d M1 θ1,Go X.K θ H θ1 H1 M1/\dC X.K θ1 H1 d v/\aM X θ1 H1 Q (match zr d with|some x=>.ok (.str x) M1|none=>.bad)) I ?_) (λu s1 hq=>?_) λ_ _ y=>y)
 ·exact bD hd hw (aM X θ H Q) (λc M' h=>h) (λh=>h) h λd M1 v θ1 H1 g1 r1 h1=>⟨d,M1,θ1,g1,r1,aM.go g1 h1⟩
 ·obtain⟨v,H1,I1,rv,d,M1,θ1,g1,r1,h1⟩:=hq;cases d with
  | int a=>
   have e:v=.int a:=r1;subst e;obtain⟨t,rfl⟩:=rv;unfold zr at h1
   by_cases hc:a.natAbs.log2<1920
   ·simp only[if_pos hc] at h1;exact formatField_int_small hc ⟨.str (toString a),H1,I1.tok _,⟨_,rfl⟩,h1 _ θ1 H1 (.refl g1.wr) rfl⟩
   ·simp only[if_neg hc] at h1;exact h1.elim
  | str x=>
   have e:v=.str x:=r1;subst e;obtain⟨t,rfl⟩:=rv;unfold zr at h1
   by_cases hc:x.length<=sizeLine
   ·simp only[if_pos hc] at h1;exact formatField_str (λt' tk=>⟨.str x,H1,I1.tok _,⟨_,rfl⟩,h1 _ θ1 H1 (.refl g1.wr) rfl⟩) hc
   ·simp only[if_neg hc] at h1;exact h1.elim
  | _=>exact h1.elim
inductive NY (X:Cx):List Expr->List GE->Prop where
 | nil:NY X [] []
 | cons {e:Expr} {es:List Expr} {g:GE} {gs:List GE}:PE X e (tE X g)->NY X es gs->NY X (e::es) (g::gs)
def nE:List GE->Str->GE
 | [],acc=>λ_ M=>.ok (.str acc) M
 | g::gs,acc=>λρ M=>(g ρ M).bind λd M1=>match d with
  | .str y=>if(acc++y).length<=sizeLine then nE gs (acc++y) ρ M1 else .bad
  | _=>.bad
def Jg (h:NY X es gs):∀(acc:Str) (ag:List (Addr×Obj)) (s:Shared) (σ:L2.St) (H:Hp) (Q:VK),acc.length<=sizeLine->L2.Inv X ag σ H s->tE X (nE gs acc) σ H Q->wpAny (model X.prog X.w) X.A (joinParts acc (evalEach es X.env)) (EP X ag σ Q) X.xe s:=by
 induction h with
 | nil=>
  intro acc ag s σ H Q hl I h;obtain⟨ρ,θ,M,hd,hw,h⟩:=h;exact joinParts_nil ⟨.str acc,H,I.tok _,⟨_,rfl⟩,h _ θ H (.refl hw) rfl⟩ hl
 | @cons e es g gs he hes ih=>
  intro acc ag s σ H Q hl I h;obtain⟨ρ,θ,M,hd,hw,h⟩:=h;show wpAny _ _ (joinParts acc (eval e X.env::evalEach es X.env)) _ _ _;refine joinParts_cons (wpAny_mono (he ag s σ H (λv H1=>∃d M1 θ1,Go X.K θ H θ1 H1 M1/\dC X.K θ1 H1 d v/\aM X θ1 H1 Q (match d with | .str y=>if(acc++y).length<=sizeLine then nE gs (acc++y) ρ M1 else .bad|_=>.bad)) I ?_) (λu s1 hq=>?_) λ_ _ y=>y)
  ·exact bD hd hw (aM X θ H Q) (λc M' h=>h) (λh=>h) h λd M1 v θ1 H1 g1 r1 h1=>⟨d,M1,θ1,g1,r1,aM.go g1 h1⟩
  ·obtain⟨v,H1,I1,rv,d,M1,θ1,g1,r1,h1⟩:=hq;cases d with
   | str y=>
    have e:v=.str y:=r1;subst e;obtain⟨t,rfl⟩:=rv
    by_cases hc:(acc++y).length<=sizeLine
    ·simp only[if_pos hc] at h1;exact⟨hc,ih (acc++y) ag s1 σ H1 Q hc I1 ⟨ρ,θ1,M1,hd.go g1,g1.wr,h1⟩⟩
    ·simp only[if_neg hc] at h1;exact h1.elim
   | _=>exact h1.elim
def Io {e1 e2:Expr}{pos:Pos}(h:NY X (e1::e2::es) gs):PE X (.JoinedStr (e1::e2::es) pos) (tE X (nE gs Str.empty)):=by
 intro ag s σ H Q I q;exact JoinedStr_many (Jg h Str.empty ag s σ H Q (Nat.zero_le _) I q)
theorem uf {x:V}:∀{xs:List V} {us:List Value},ba xs us->xs.all iF=true->us.countP (CP x)=xs.countP λy=>zg y x
 | _,_,.nil,_=>rfl
 | y::xs,u::us,.cons r t,f=>by
  rw[all_cons,Bool.and_eq_true] at f;rw[countP_cons,countP_cons,wH r f.1,uf t f.2]
theorem Bk {x:V}:∀{xs:List V} {us:List Value},ba xs us->xs.all iF=true->us.findIdx? (CP x)=xs.findIdx? λy=>zg y x
 | _,_,.nil,_=>rfl
 | y::xs,u::us,.cons r t,f=>by
  rw[all_cons,Bool.and_eq_true] at f;rw[findIdx?_cons,findIdx?_cons,wH r f.1,Bk t f.2]
def lK (d:D)(M:az):Option (List D):=match d with
 | .lst xs=>Z xs
 | .ro xs=>Z xs
 | .mr k=>match M[k]? with
  | some (.lst xs)=>Z xs
  | _=>Y
 | _=>Y
def z9 {d:D}{v:V}(hw:Wr K θ H M)(r:dC K θ H d v)(e:lK d M=Z xs):∃a vs,v=.ref a/\nj K H a vs/\bt K θ H xs vs:=by
 cases d with
 | lst ys=>cases e;obtain⟨a,vs,ea,ta,ra⟩:=r;exact⟨a,vs,ea,ta.sq,ra⟩
 | ro ys=>cases e;obtain⟨a,vs,ea,ta,ra⟩:=r;exact⟨a,vs,ea,ta.sq,ra⟩
 | mr k=>
  obtain⟨a,ea,ta⟩:=r;have e:(match M[k]? with|some (.lst xs)=>Z xs|_=>Y)=Z xs:=e;cases q:M[k]? with
  | none=>rw[q] at e;cases e
  | some m=>
   cases m with
   | lst ys=>
    rw[q] at e;cases e;obtain⟨vs,hv,ra⟩:=hw.at_ k a _ ta q;exact⟨a,vs,ea,.inl (.inl hv),ra⟩
   | _=>rw[q] at e;cases e
 | _=>cases e
def EW (K:W.Frag):V->List V->Hp->VK->Prop:=λx vs H Q=>∃p xs y,x=.ref p/\vs=[y]/\nj K H p xs/\iF y=true/\xs.all iF=true/\Q (.int (xs.countP λz=>zg z y)) H
def En:Sz X "list.count" (EW X.K):=by
 intro ag s σ H x vs v us Q I rx rv h;obtain⟨p,xs,y,rfl,rfl,hq,fy,fs,q⟩:=h;cases rx;obtain⟨u,rfl,ru⟩:=rv.one;obtain⟨its,r,⟨o,n,h1,h2,h3,h4⟩,hz⟩:=I.list hq;obtain⟨c,dd,dat,sl⟩:=o;have e1:c=.type "list":=h2;have e2:dat=.seq its.toArray n:=h4;subst e1;subst e2;refine call_meets F.slot_list_count ⟨_,h1,rfl⟩ F.entry_list_count (F.args_list_count_2 _ _) (SeqAt.list_countAt p its.toArray n dd sl u (CP y)) ⟨h1,λw hw=>lX ru fy r fs w (by simpa using hw),?_⟩;refine⟨.int (xs.countP λz=>zg z y),H,I.tok _,⟨s.toks,?_⟩,q⟩;rw[<-uf r fs]
def Fs (K:W.Frag):V->List V->Hp->VK->Prop:=λx vs H Q=>∃p xs y j,x=.ref p/\vs=[y]/\nj K H p xs/\iF y=true/\xs.all iF=true/\(xs.findIdx? λz=>zg z y)=Z j/\Q (.int (j:Nat)) H
def Fu:Sz X "list.index" (Fs X.K):=by
 intro ag s σ H x vs v us Q I rx rv h;obtain⟨p,xs,y,j,rfl,rfl,hq,fy,fs,hj,q⟩:=h;cases rx;obtain⟨u,rfl,ru⟩:=rv.one;obtain⟨its,r,⟨o,n,h1,h2,h3,h4⟩,hz⟩:=I.list hq;obtain⟨c,dd,dat,sl⟩:=o;have e1:c=.type "list":=h2;have e2:dat=.seq its.toArray n:=h4;subst e1;subst e2;rw[<-Bk r fs] at hj;obtain⟨hlt,hhit,hno⟩:=findIdx?_eq_some_iff_getElem.mp hj;have hsz:j<its.toArray.size:=by simpa using hlt
 have hsmall:(j:Int)<2 ^ 63-1:=by
  have l1:=r.length;have l2:=nM;omega
 refine call_meets F.slot_list_index ⟨_,h1,rfl⟩ F.entry_list_index (F.args_list_index_2 _ _) (SeqAt.list_indexAt p its.toArray n dd sl u (CP y) j hsz hsmall (by simpa using hhit) (λm hm hmj=>by have:=hno m hmj;simpa using this)) ⟨h1,λw hw=>lX ru fy r fs w (by simpa using hw),?_⟩;exact⟨.int j,H,I.tok _,⟨s.toks,rfl⟩,q⟩
def jV (F:List D->D->az->aX D)(go ge:GE):GE:=λρ M=>(go ρ M).bind λo M1=>match lK o M1 with
 | some _=>(ge ρ M1).bind λx M2=>match lK o M2 with
  | some xs=>F xs x M2
  | none=>.bad
 | none=>.bad
def kY (xs:List D)(x:D)(M:az):aX D:=if gL x&&xs.all gL then .ok (.int (xs.countP λy=>mJ y x)) M else .bad
def kO (xs:List D)(x:D)(M:az):aX D:=if gL x&&xs.all gL then(match xs.findIdx? λy=>mJ y x with|some j=>.ok (.int (j:Nat)) M|none=>.bad) else .bad
theorem sW {x:D}:∀{ds:List D},gL x=true->ds.all gL=true->(ds.map GV).countP (λz=>zg z (GV x))=ds.countP λy=>mJ y x
 | [],_,_=>rfl
 | d::ds,fx,f=>by
  rw[all_cons,Bool.and_eq_true] at f;rw[map_cons,countP_cons,countP_cons,sW fx f.2,xa f.1 fx]
theorem Bm {x:D}:∀{ds:List D},gL x=true->ds.all gL=true->(ds.map GV).findIdx? (λz=>zg z (GV x))=ds.findIdx? λy=>mJ y x
 | [],_,_=>rfl
 | d::ds,fx,f=>by
  rw[all_cons,Bool.and_eq_true] at f;rw[map_cons,findIdx?_cons,findIdx?_cons,Bm fx f.2,xa f.1 fx]
section
variable {o e:Expr}{go ge:GE}{apos cpos:Pos}
def Bo {F:List D->D->az->aX D}{rr:V->List V->Hp->VK->Prop}{Q:VK}(hs:starEach [e] X.env=(false,eval e X.env)::starEach [] X.env)
  (hF:∀θ H M o x xs v y Q,Wr X.K θ H M->dC X.K θ H o v->lK o M=Z xs->dC X.K θ H x y->aM X θ H Q (F xs x M)->rr v [y] H Q) (h:tE X (jV F go ge) σ H Q):RB X.K "list" rr (tE X go) (ym (tE X ge) Ex) σ H Q:=by
 obtain⟨ρ,θ,M,hd,hw,h⟩:=h;refine bD hd hw (aM X θ H Q) (λc M' h=>h) (λh=>h) h λd M1 v θ1 H1 g1 r1 h1=>?_
 have h2:=aM.go g1 h1;cases ql:lK d M1 with
 | none=>rw[ql] at h2;exact h2.elim
 | some xs0=>
  rw[ql] at h2;obtain⟨a,vs,ea,sq,ra⟩:=z9 g1.wr r1 ql;refine⟨by rw[ea];exact .inl ⟨rfl,vs,sq⟩,?_⟩;refine bD (hd.go g1) g1.wr (aM X θ1 H1 Q) (λc M' h=>h) (λh=>h) h2 λdx M2 vx θ2 H2 g2 r2 h3=>?_
  have h4:=aM.go g2 h3;cases ql2:lK d M2 with
  | none=>rw[ql2] at h4;exact h4.elim
  | some xs=>
   rw[ql2] at h4;exact hF θ2 H2 M2 d dx xs v vx Q g2.wr (r1.go g2) ql2 r2 h4
def F8 {o x:D}{v y:V}{Q:VK}(hw:Wr X.K θ H M)(r:dC X.K θ H o v)(el:lK o M=Z xs)(ry:dC X.K θ H x y)(h:aM X θ H Q (kY xs x M)):EW X.K v [y] H Q:=by
 obtain⟨a,vs,ea,sq,ra⟩:=z9 hw r el;unfold kY at h;split at h
 ·rename_i hc;rw[Bool.and_eq_true] at hc;obtain⟨e1,f1⟩:=rO ry hc.1;obtain⟨e2,f2⟩:=oX ra hc.2;refine⟨a,vs,y,ea,rfl,sq,f1,f2,?_⟩;rw[e1,e2,sW hc.1 hc.2];exact h _ θ H (.refl hw) rfl
 ·exact h.elim
def DE {o x:D}{v y:V}{Q:VK}(hw:Wr X.K θ H M)(r:dC X.K θ H o v)(el:lK o M=Z xs)(ry:dC X.K θ H x y)(h:aM X θ H Q (kO xs x M)):Fs X.K v [y] H Q:=by
 obtain⟨a,vs,ea,sq,ra⟩:=z9 hw r el;unfold kO at h;split at h
 ·rename_i hc;rw[Bool.and_eq_true] at hc;obtain⟨e1,f1⟩:=rO ry hc.1;obtain⟨e2,f2⟩:=oX ra hc.2;split at h
  ·rename_i j hj;exact⟨a,vs,y,j,ea,rfl,sq,f1,f2,by rw[e1,e2,Bm hc.1 hc.2];exact hj,h _ θ H (.refl hw) rfl⟩
  ·exact h.elim
 ·exact h.elim
def AH {env:Env}(h:aW e=true):((backTo cpos (starEach [e] env)).all (λx=>!x.1)&&(backToKw cpos (keywordEach [] env)).all (λx=>x.1.isSome)
   && decide ([e].length+([]:List Keyword).length+(if([]:List Keyword).isEmpty then 0 else 1)<30))=true:=by
 rw[sE h];rfl
def Eu (ho:PE X o (tE X go))(he:PE X e (tE X ge))(h1:aW e=true:=by rfl)(hbase:attributeBase o "count" X.env (eval o X.env)=eval o X.env:=by rfl)(hline:(apos.endLine==cpos.line)=true:=by rfl) :
  PE X (.Call (.Attribute o "count" apos) [e] [] cpos) (tE X (jV kY go ge)):=
 (Bz PySem.F.plainAttrs_list PySem.F.slot_list_count PySem.F.type_list_count En ho (fP he kT (sE h1)) hbase (AH h1) hline (sE h1) rfl).of λσ H Q h=>Bo (sE h1) (λθ H M o x xs v y Q=>F8) h
def Ei (ho:PE X o (tE X go))(he:PE X e (tE X ge))(h1:aW e=true:=by rfl)(hbase:attributeBase o "index" X.env (eval o X.env)=eval o X.env:=by rfl)(hline:(apos.endLine==cpos.line)=true:=by rfl) :
  PE X (.Call (.Attribute o "index" apos) [e] [] cpos) (tE X (jV kO go ge)):=
 (Bz PySem.F.plainAttrs_list PySem.F.slot_list_index PySem.F.type_list_index Fu ho (fP he kT (sE h1)) hbase (AH h1) hline (sE h1) rfl).of λσ H Q h=>Bo (sE h1) (λθ H M o x xs v y Q=>DE) h
end
def jf (ok:Str->Option Bool)(g:GE):GE:=λρ M=>(g ρ M).bind λd M1=>match d with
 | .exc c=>match ok c with
  | some b=>.ok (.bl b) M1
  | none=>.bad
 | _=>.bad
def FO {v0:V}{ok:Str->Option Bool}(r0:∀c,L2.RelV v0 c->c=c0)(hk:∀c b C,ok c=Z b->dR X.K c C->nR X.K C/\W.kitOne X.K (.ref C) c0=Z b) :
  d9 X (.builtin "isinstance") (λxs H Q=>∃θ M d v,Wr X.K θ H M/\dC X.K θ H d v/\xs=[v,v0]/\aM X θ H Q (match d with | .exc c=>(match ok c with|some b=>.ok (.bl b) M|none=>.bad)|_=>.bad)):=by
 intro ag s σ H xs us Q I r h;obtain⟨θ,M,d,v,hw,rv,e,h⟩:=h;subst e;obtain⟨u,c,rfl,ru,rc⟩:=A1 r;have ec:c=c0:=r0 c rc;subst ec;cases d with
 | exc c=>
  obtain⟨a,C,ea,kC,t,na⟩:=rv;subst ea;cases ru;cases q:ok c with
  | none=>simp only[q] at h;exact h.elim
  | some b=>
   simp only[q] at h;obtain⟨kx,e1⟩:=hk c b C q kC;obtain⟨p,_,_⟩:=I.hok a _ t;exact W.kia_one (Ep kx) I.kIn p e1 (λz=>nomatch z) λtk=>⟨.bl b,H,I.tok _,rfl,h _ θ H (.refl hw) rfl⟩
 | _=>exact h.elim
def vY (l:List (Str×Bool))(c:Str):Option Bool:=l.lookup c
def Fg {l:List (Str×Bool)}(h:∀p∈l,∃C,dR K p.1 C/\nR K C/\W.kitOne K (.ref C) c0=Z p.2):∀c b C,vY l c=Z b->dR K c C->nR K C/\W.kitOne K (.ref C) c0=Z b:=λc b C e kC=>by
 obtain⟨C',k1,k2,k3⟩:=h (c,b) (PySem.mem_of_lookup e);have:=k1.inj kC;subst this;exact⟨k2,k3⟩
def Ja {mg:Str->Option Value}{g:Str}{G:Addr}(kG:Ec K mg g G)(hm:W.mroIn K C (.ref G)=Z b):W.kitOne K (.ref C) (.ref G)=Z b:=by
 unfold W.kitOne;split
 ·rename_i q;have e:C=G:=Value.ref.inj (beq_iff_eq.mp q);subst e;rw[kG.sf] at hm;exact hm
 ·show(if((W.clsIn K G).isSome&&W.typeIn K (.ref G)==Z (.type "type"))=true then W.subIn K (.ref C) (.ref G) else Y)=Z b;rw[if_pos (by rw[kG.k.cl,kG.ty];rfl)];exact hm
def Dn (hT:W.kitMeta T=true)(hm:W.mroIn K C (.type T)=Z b):W.kitOne K (.ref C) (.type T)=Z b:=by
 unfold W.kitOne;rw[if_neg (by intro q;cases beq_iff_eq.mp q)];show(if W.kitMeta T=true then W.subIn K (.ref C) (.type T) else Y)=Z b;rw[if_pos hT];exact hm
section
variable {e:Expr}{g:GE}{p p2 pos:Pos}{x:Str}{ok:Str->Option Bool}
def D9 {v0:V}{Q:VK}(h:tE X (jf ok g) σ H Q):Q1 (λxs H Q=>∃θ M d v,Wr X.K θ H M/\dC X.K θ H d v/\xs=[v,v0]/\aM X θ H Q (match d with | .exc c=>(match ok c with|some b=>.ok (.bl b) M|none=>.bad)|_=>.bad)) (ym (tE X g) (ym (tC v0) Ex)) σ H Q:=by
 obtain⟨ρ,θ,M,hd,hw,h⟩:=h;refine bD hd hw (aM X θ H Q) (λc M' h=>h) (λh=>h) h λd M1 v θ1 H1 g1 r1 h1=>?_
 exact⟨θ1,M1,d,v,g1.wr,r1,rfl,aM.go g1 h1⟩
def Kl {G:Addr}(hm:X.mg x=Z (.ref G))(hk:∀c b C,ok c=Z b->dR X.K c C->nR X.K C/\W.kitOne X.K (.ref C) (.ref G)=Z b)(hg:Gl X x)(hgi:Gl X "isinstance")(hmi:X.mg "isinstance"=Y)(he:PE X e (tE X g))
  (h1:aW e=true:=by rfl) (hd:(x==("__debug__":Str))=false:=by decide):PE X (.Call (.Name "isinstance" p) [e,.Name x p2] [] pos) (tE X (jf ok g)):=
 (ph (FO (v0:=.ref G) (λc z=>z) hk) hgi hmi boot_isinstance (fP he (fP (IM hg hm (v:=.ref G) rfl hd) kT (sE rfl)) (sE h1)) (by decide) (by decide) (sE h1) (sS rfl)).of λσ H Q h=>D9 h
def Jv (hv:bootBuiltins x=Z (.type T))(hm:X.mg x=Y)(hk:∀c b C,ok c=Z b->dR X.K c C->nR X.K C/\W.kitOne X.K (.ref C) (.type T)=Z b)(hg:Gl X x)(hgi:Gl X "isinstance")(hmi:X.mg "isinstance"=Y)(he:PE X e (tE X g))
  (h1:aW e=true:=by rfl) (hn:x≠"__name__":=by decide) (hd:(x==("__debug__":Str))=false:=by decide):PE X (.Call (.Name "isinstance" p) [e,.Name x p2] [] pos) (tE X (jf ok g)):=
 (ph (FO (v0:=.ty T) (λc z=>z) hk) hgi hmi boot_isinstance (fP he (fP (Bi hg hm hv (v:=.ty T) rfl hn hd) kT (sE rfl)) (sE h1)) (by decide) (by decide) (sE h1) (sS rfl)).of λσ H Q h=>D9 h
end
def SZ {l:List Str}{Ga:Addr}(h:∀c∈l,∃C,dR K c C/\W.mroIn K C (.ref Ga)=Z true):∀c C,l.contains c=true->dR K c C->W.mroIn K C (.ref Ga)=Z true:=λc C e kC=>by
 obtain⟨C',k1,k2⟩:=h c (contains_iff_mem.mp e);have:=k1.inj kC;subst this;exact k2
end
end DL
namespace DL
open PySem L2
def Qo {P:Program}{w:World}{H:Hp}{s:Shared}{e:Value}{s':Shared}(z:iz P w [] H s (λ_ _ _=>False) e s'):False:=by
 obtain⟨_,_,_,_,_,_,_,_,_,_,_,_,_,_,h⟩:=z;exact h
end DL
namespace DL
open PySem PySem.Spec PyProof.Rows L2 List
variable{fs:List (Str×D)}
section
variable {K:W.Frag}{θ:List Addr}{H:Hp}{M:az}
def fL (f:Str)(d:D):List (Str×D)->List (Str×D)
 | []=>[(f,d)]
 | (g,x)::r=>if g=f then(g,d)::r else(g,x)::fL f d r
theorem Ao {f:Str}{d:D}:∀{fs:List (Str×D)} {vs:List (Str×V)},o8 K θ H fs vs->fs.lookup f=Z d->∃v,vs.lookup f=Z v/\dC K θ H d v
 | [],vs,h,e=>by cases e
 | (g,x)::fs,vs,h,e=>by
  obtain⟨v,r,rfl,h1,h2⟩:=h;rw[lookup_cons] at e ⊢;cases q:f==g with
  | true=>rw[q] at e;cases e;exact⟨v,rfl,h1⟩
  | false=>rw[q] at e;exact Ao h2 e
theorem BG {f:Str}:∀{fs:List (Str×D)} {vs:List (Str×V)},o8 K θ H fs vs->fs.lookup f=Y->vs.lookup f=Y
 | [],vs,h,e=>by cases (show vs=[] from h);rfl
 | (g,x)::fs,vs,h,e=>by
  obtain⟨v,r,rfl,h1,h2⟩:=h;rw[lookup_cons] at e ⊢;cases q:f==g with
  | true=>rw[q] at e;cases e
  | false=>rw[q] at e;exact BG h2 e
theorem zi:∀{fs:List (Str×D)} {vs:List (Str×V)},o8 K θ H fs vs->fs.length=vs.length
 | [],vs,h=>by cases (show vs=[] from h);rfl
 | (g,x)::fs,vs,h=>by
  obtain⟨v,r,rfl,h1,h2⟩:=h;rw[length_cons,length_cons,zi h2]
theorem Fj {f:Str}{d:D}{v:V}(hd:dC K θ H d v):∀{fs:List (Str×D)} {vs:List (Str×V)},o8 K θ H fs vs->o8 K θ H (fL f d fs) (ka f v vs)
 | [],vs,h=>by cases (show vs=[] from h);exact⟨v,[],rfl,hd,rfl⟩
 | (g,x)::fs,vs,h=>by
  obtain⟨u,r,rfl,h1,h2⟩:=h;show o8 K θ H (if g=f then(g,d)::fs else(g,x)::fL f d fs) (if g=f then(g,v)::r else(g,u)::ka f v r)
  by_cases q:g=f
  ·rw[if_pos q,if_pos q];exact⟨v,r,rfl,hd,h2⟩
  ·rw[if_neg q,if_neg q];exact⟨u,_,rfl,h1,Fj hd h2⟩
def BC {i:Nat}{a C dx:Addr}{c f:Str}{vs:List (Str×V)}{d:D}{v:V}(w:Wr K θ H M)(hi:θ[i]?=Z a)(k:dR K c C)(r:o8 K θ H fs vs)(hd:dC K θ H d v) :
  Go K θ H θ (cx H a (.ins C dx (ka f v vs))) (M.set i (.obj c (fL f d fs))):=
 rN w hi ⟨C,dx,_,k,bJ,p0 (pq w hi) (Fj hd r)⟩
def Jk {x dx C:Addr}{c:Str}(w:Wr K θ H M)(hx:H x=Y)(hdx:H dx=Y)(ne:dx≠x)(k:dR K c C):Go K θ H (θ++[x]) (cx (cx H dx (.own x)) x (.ins C dx [])) (M++[.obj c []]):=by
 have np:=w.fresh hx;have hx':∀b u,H b=Z u->b≠x/\b≠dx:=λb u h=>⟨bV h hx,bV h hdx⟩
 have g:Grow θ H (θ++[x]) (cx (cx H dx (.own x)) x (.ins C dx [])):=⟨⟨[x],rfl,λa ha=>by rw[mem_singleton.mp ha];exact hx⟩,λb u h _ _=>by rw[aB (hx' b u h).1,aB (hx' b u h).2];exact h,λb ps h=>⟨ps,by rw[aB (hx' b _ h).1,aB (hx' b _ h).2];exact h⟩⟩;refine⟨g,by rw[length_append,length_append,w.len];rfl,?_,λi a m h1 h2=>?_,(w.tb.new hdx).new (by rw[aB (Ne.symm ne)];exact hx)⟩
 ·rw[nodup_append];exact⟨w.nd,by simp,λy hy z hz e=>np (by rw[mem_singleton.mp hz] at e;rw[<-e];exact hy)⟩
 ·by_cases hi:i<θ.length
  ·rw[getElem?_append_left hi] at h1;rw[getElem?_append_left (by rw[<-w.len];exact hi)] at h2;have hm:=mem_of_getElem? h1;have ha:a≠x:=λe=>np (by rw[<-e];exact hm)
   have ha2:a≠dx:=λe=>w.fresh hdx (by rw[<-e];exact hm)
   exact(w.at_ i a m h1 h2).grow g (by rw[aB ha,aB ha2])
  ·have hi':i=θ.length:=by
    have:=(List.getElem?_eq_some_iff.mp h1).1;rw[length_append,length_singleton] at this;omega
   subst hi';rw[getElem?_append_right (Nat.le_refl _)] at h1;rw[getElem?_append_right (by rw[w.len];exact Nat.le_refl _)] at h2;simp only[Nat.sub_self,w.len,getElem?_cons_zero,Option.some.injEq] at h1 h2;subst h1;subst h2;exact⟨C,dx,[],k,bJ,rfl⟩
end
structure Kc (K:W.Frag)(mg:Str->Option Value)(c:Str)(C:Addr):Prop where
 at_:dR K c C
 m:mg c=Z (.ref C)
 cl:Fa K C
def jo (c:Str)(o:D)(M:az):Option (Nat×List (Str×D)):=match o with
 | .mr k=>match M[k]? with
  | some (.obj c' fs)=>if c'=c then Z (k,fs) else Y
  | _=>Y
 | _=>Y
variable{H:Hp}
def su {K:W.Frag}{θ:List Addr}{M:az}{c:Str}{C:Addr}{o:D}{v:V}{k:Nat}(hw:Wr K θ H M)(kC:dR K c C)(r:dC K θ H o v)(e:jo c o M=Z (k,fs)) :
  ∃a dx vs,v=.ref a/\θ[k]?=Z a/\H a=Z (.ins C dx vs)/\o8 K θ H fs vs/\M[k]?=Z (.obj c fs):=by
 cases o with
 | mr j=>
  obtain⟨a,ea,ta⟩:=r;have e:(match M[j]? with|some (.obj c' fs)=>if c'=c then Z (j,fs) else Y|_=>Y)=Z (k,fs):=e;cases q:M[j]? with
  | none=>rw[q] at e;cases e
  | some m=>
   cases m with
   | lst ys=>rw[q] at e;cases e
   | dK _=>rw[q] at e;cases e
   | dT _=>rw[q] at e;cases e
   | obj c' gs=>
    rw[q] at e;have e:(if c'=c then Z (j,gs) else Y)=Z (k,fs):=e
    by_cases hc:c'=c
    ·rw[if_pos hc] at e;cases e;subst hc;obtain⟨C',dx,vs,kC',hv,rf⟩:=hw.at_ _ a _ ta q;have:=kC'.inj kC;subst this;exact⟨a,dx,vs,ea,ta,hv,rf,q⟩
    ·rw[if_neg hc] at e;cases e
 | _=>cases e
variable{σ:L2.St}
section
variable {X:Cx}{c f:Str}{C:Addr}{o e value:Expr}{g go gv:GE}{pos pos' apos p:Pos}
def d7 (c f:Str)(g:GE):GE:=λρ M=>(g ρ M).bind λo M1=>match jo c o M1 with
 | some (_,fs)=>match fs.lookup f with
  | some d=>.ok d M1
  | none=>.bad
 | none=>.bad
def MZ (k:Kc X.K X.mg c C)(n:gO X.K C f)(he:PE X e (tE X g))(hb:attributeBase e f X.env (eval e X.env)=eval e X.env:=by rfl):PE X (.Attribute e f pos) (tE X (d7 c f g)):=
 (ME he hb).of λσ H Q hxx=>by
  obtain⟨ρ,θ,M,hd,hw,h⟩:=hxx;refine bD hd hw (aM X θ H Q) (λc M' h=>h) (λh=>h) h λd M1 v θ1 H1 g1 r1 h1=>?_
  have h2:=aM.go g1 h1;cases q:jo c d M1 with
  | none=>simp only[q] at h2;exact h2.elim
  | some p=>
   obtain⟨j,fs⟩:=p;simp only[q] at h2;obtain⟨a,dx,vs,ea,ta,hv,rf,_⟩:=su g1.wr k.at_ r1 q;cases ql:fs.lookup f with
   | none=>simp only[ql] at h2;exact h2.elim
   | some y=>
    simp only[ql] at h2;obtain⟨u,eu,ru⟩:=Ao rf ql;exact⟨a,C,dx,vs,u,ea,hv,k.cl,n,eu,h2 u θ1 H1 (.refl g1.wr) ru⟩
def wJ (c f:Str)(o y:D)(M:az):aX Unit:=match jo c o M with
 | some (k,fs)=>if fs.length<1000 then .ok () (M.set k (.obj c (fL f y fs))) else .bad
 | none=>.bad
def fX (c f:Str)(go gv:GE):GS:=λρ M=>(gv ρ M).bind λy M1=>(go ρ M1).bind λo M2=>(wJ c f o y M2).bind λ_ M3=>.ok (.nx ρ) M3
def Nj (k:Kc X.K X.mg c C)(n:gO X.K C f)(ho:PE X o (tE X go))(hv:PE X value (tE X gv))(hs:swapsWith value (Z (.Attribute o f pos')) pos.line X.env=pure false:=by rfl):PS X (.Assign [.Attribute o f pos'] value pos) (tS X (fX c f go gv)):=
 (K0 ho hv hs).of λD σ H hxx=>by
  obtain⟨ρ,θ,M,hd,hw,h⟩:=hxx;refine bD hd hw (bZ X θ H D) (λc M' h=>h) (λh=>h) h λy M1 vy θ1 H1 g1 r1 h1=>?_
  refine bD (hd.go g1) g1.wr (bZ X θ1 H1 D) (λc M' h=>h) (λh=>h) (h1.go g1) λd M2 v θ2 H2 g2 r2 h2=>?_
  have h3:=h2.go g2;unfold wJ at h3;cases q:jo c d M2 with
  | none=>simp only[q] at h3;exact h3.elim
  | some p=>
   obtain⟨j,fs⟩:=p;simp only[q] at h3
   by_cases hl:fs.length<1000
   ·simp only[if_pos hl] at h3;obtain⟨a,dx,vs,ea,ta,hv,rf,_⟩:=su g2.wr k.at_ r2 q;have gs:=BC (f:=f) (dx:=dx) g2.wr ta k.at_ rf (r1.go g2);exact⟨a,C,dx,vs,ea,hv,k.cl,n,by rw[<-zi rf];exact hl,h3 σ θ2 _ gs (((hd.go g1).go g2).go gs)⟩
   ·simp only[if_neg hl] at h3;exact h3.elim
def eO (c m:Str)(n:Nat)(F:FD)(go:GE)(ga:GA):GE:=λρ M=>(go ρ M).bind λo M1=>match jo c o M1 with
 | some (_,fs)=>if fs.lookup m=Y then(ga ρ M1).bind λds M2=>if ds.length+1=n then F (o::ds) M2 else .bad else .bad
 | none=>.bad
def DU {m:Str}{n:Nat}{F:FD}{ga:GA}{Q:VK}(k:Kc X.K X.mg c C)(h:tE X (eO c m n F go ga) σ H Q):Ez C m (og X.K n F) [] (Jq X) (tE X go) (tA X ga) σ H Q:=by
 obtain⟨ρ,θ,M,hd,hw,h⟩:=h;refine bD hd hw (aM X θ H Q) (λc M' h=>h) (λh=>h) h λd M1 v θ1 H1 g1 r1 h1=>?_
 have h2:=aM.go g1 h1;cases q:jo c d M1 with
 | none=>simp only[q] at h2;exact h2.elim
 | some p=>
  obtain⟨j,fs⟩:=p;simp only[q] at h2;obtain⟨a,dx,vs,ea,ta,hv,rf,_⟩:=su g1.wr k.at_ r1 q
  by_cases hl:fs.lookup m=Y
  ·simp only[if_pos hl] at h2;refine⟨a,dx,vs,ea,hv,BG rf hl,?_⟩;refine lJ (hd.go g1) g1.wr (aM X θ1 H1 Q) (λc M' h=>h) (λh=>h) h2 λds M2 us θ2 H2 g2 r2 h3=>?_
   by_cases hn:ds.length+1=n
   ·rw[if_pos hn] at h3;have h4:=aM.go g2 h3;refine⟨θ2,M2,d::ds,hn,⟨v,us++[],rfl,r1.go g2,by rw[append_nil];exact r2⟩,g2.wr,?_⟩;cases qf:F (d::ds) M2 with
    | ok d2 M3=>rw[qf] at h4;exact h4
    | err c2 M3=>rw[qf] at h4;exact xF h4
    | bad=>rw[qf] at h4;exact h4
   ·rw[if_neg hn] at h3;exact h3.elim
  ·simp only[if_neg hl] at h2;exact h2.elim
section
variable {m:Str}{k n:Nat}{fa:Addr}{fd:FuncData}{ps:List Str}{F:FD}{ga:GA}{es:List Expr}{pl:Sem Bool}
def Np (kc:Kc X.K X.mg c C)(hm:wx X.K C m fa)(Fn:eB X.prog X.w X.K X.mg X.base (iz X.prog X.w) k fa fd ps (og X.K n F))(hr:bM k X.A)(hb:fz X.K fd ps [])(ho:PE X o (tE X go))(ha:PA X (e::es) (tA X ga))
  (h1:aW e=true:=by rfl) (h2:dj es=true:=by rfl)
  (ht:eval (.Call (.Attribute o m apos) (e::es) [] pos) X.env=(do
   let ov <-eval o X.env
   standAt apos.atName
   let (f,first) <-holding [ov] (getMethod ov m pl)
   callWith pos f first (backTo pos (starEach (e::es) X.env)) (backToKw pos (keywordEach [] X.env))):=by rfl) :
  PE X (.Call (.Attribute o m apos) (e::es) [] pos) (tE X (eO c m n F go ga)):=
 (HF (pl:=pl) ho kc.cl hm Fn hr hb .nil jG ha (sE h1) (sS h2) ht).of λσ H Q h=>DU kc h
def Hc (kc:Kc X.K X.mg c C)(hm:wx X.K C m fa)(Fn:eB X.prog X.w X.K X.mg X.base (iz X.prog X.w) k fa fd ps (og X.K n F))(hr:bM k X.A)(hb:fz X.K fd ps [])(ho:PE X o (tE X go))
  (ht:eval (.Call (.Attribute o m apos) [] [] pos) X.env=(do
   let ov <-eval o X.env
   standAt apos.atName
   let (f,first) <-holding [ov] (getMethod ov m pl)
   callWith pos f first (backTo pos (starEach [] X.env)) (backToKw pos (keywordEach [] X.env))):=by rfl) :
  PE X (.Call (.Attribute o m apos) [] [] pos) (tE X (eO c m n F go af)):=
 (D1 (pl:=pl) ho kc.cl hm Fn hr hb .nil jG ht).of λσ H Q h=>by
  obtain⟨ρ,θ,M,hd,hw,h⟩:=DU kc h;refine⟨ρ,θ,M,hd,hw,?_⟩;cases q:go ρ M with
  | ok d M1=>
   rw[q] at h;intro v θ1 H1 g1 r1;obtain⟨a,dx,fs,e1,e2,e3,h⟩:=h v θ1 H1 g1 r1;refine⟨a,dx,fs,e1,e2,e3,?_⟩;obtain⟨ρ',θ',M',hd',hw',h'⟩:=h;exact h' [] θ' H1 (.refl hw') rfl
  | err c2 M1=>rw[q] at h;exact h
  | bad=>rw[q] at h;exact h
end
def iC (c:Str)(n:Nat)(F:FD)(ga:GA):GE:=λρ M=>(ga ρ M).bind λds M1=>if ds.length+1=n then(F (.mr M1.length::ds) (M1++[.obj c []])).bind λd M2=>match d with
  | .non=>.ok (.mr M1.length) M2
  | _=>.bad
 else .bad
def Jw {n:Nat}{F:FD}{ga:GA}{Q:VK}(k:dR X.K c C)(h:tE X (iC c n F ga) σ H Q):Kg C (og X.K n F) [] (Jq X) (tA X ga) σ H Q:=by
 obtain⟨ρ,θ,M,hd,hw,h⟩:=h;refine lJ hd hw (aM X θ H Q) (λc M' h=>h) (λh=>h) h λds M1 us θ1 H1 g1 r1 h1=>?_
 intro x dx hx hdx ne;have h2:=aM.go g1 h1
 by_cases hn:ds.length+1=n
 ·simp only[if_pos hn] at h2;have gm:=Jk (C:=C) g1.wr hx hdx ne k;have rx:dC X.K (θ1++[x]) (cx (cx H1 dx (.own x)) x (.ins C dx [])) (.mr M1.length) (.ref x):=oQ g1.wr;refine⟨θ1++[x],M1++[.obj c []],.mr M1.length::ds,hn,⟨.ref x,us++[],rfl,rx,by rw[append_nil];exact r1.go gm⟩,gm.wr,?_⟩;have h3:=aM.go gm h2;cases qf:F (.mr M1.length::ds) (M1++[.obj c []]) with
  | bad=>rw[qf] at h3;exact h3
  | err c2 M3=>rw[qf] at h3;exact xF h3
  | ok d2 M3=>
   rw[qf] at h3;intro v θ2 H2 g2 r2;cases d2 with
   | non=>exact⟨r2,h3 _ θ2 H2 g2 (rx.go g2)⟩
   | _=>exact h3.elim
 ·simp only[if_neg hn] at h2;exact h2.elim
section
variable {x:Str}{k n:Nat}{fa:Addr}{fd:FuncData}{ps:List Str}{F:FD}{ga:GA}{es:List Expr}
def HX (kc:Kc X.K X.mg x C)(Mc:Mk X.K C fa)(Fn:eB X.prog X.w X.K X.mg X.base (iz X.prog X.w) k fa fd ps (og X.K n F))(hr:bM (k+1) X.A)(hg:Gl X x)(hb:fz X.K fd ps [])(ha:PA X (e::es) (tA X ga))
  (hdb:(x==("__debug__":Str))=false:=by decide) (h1:aW e=true:=by rfl) (h2:dj es=true:=by rfl):PE X (.Call (.Name x p) (e::es) [] pos) (tE X (iC x n F ga)):=
 (Il Mc Fn hr hg kc.m hb .nil jG ha hdb (sE h1) (sS h2)).of λσ H Q h=>Jw kc.at_ h
end
end
end DL
namespace DL
open PySem PySem.Spec PyProof.Rows L2 List
variable{a:Addr}{its:Array Value}{Q:Value->Shared->Prop}
section
variable {prog:Program}{w:World}{A:Around}{E:Value->Shared->Prop}{s:Shared}
def Ai {I:Addr}{k:Nat}{x:Value}(st:s.heap.IsTupleIter I a k)(ta:s.heap.IsTuple a its)(hx:its[k]?=Z x)
  (q:∀h',h'.IsTupleIter I a (k+1)->Heap.SameBut I s.heap h'->Q x {s with heap:=h'}):wpAny (model prog w) A (Builtin.SmallTypes.nextOf (.ref I)) Q E s:=by
 obtain⟨u,hu,uc,ud⟩:=id st;obtain⟨oa,hoa,_,na,da⟩:=ta;unfold Builtin.SmallTypes.nextOf;refine wpAny_bind (wpAny_callSpecial?_slot (name:=Str.ofString "__next__") st.typeIs F.slot_tuple_iterator_next (wpAny_call_entry F.slot_tuple_iterator_next st.typeIs F.entry_tuple_iterator_next ?_ (F.args_tuple_iterator_next_1 _)));show wpAny _ _ (field (.ref I) 0 >>= _) _ _ s;refine wpAny_bind (wpAny_field hu ud (x:=.ref a) rfl ?_);show wpAny _ _ (if(Value.ref a==Value.none)=true then _ else _) _ _ s;rw[if_neg (show¬((Value.ref a==Value.none)=true) from Bool.false_ne_true)];show wpAny _ _ (field (.ref I) 1 >>= _) _ _ s;refine wpAny_bind (wpAny_field hu ud (x:=.int k 0) rfl ?_);show wpAny _ _ (seqItems? (.ref a) >>= _) _ _ s;refine wpAny_bind (wpAny_seqItems hoa da ?_);simp only[Int.toNat_natCast,hx];refine wpAny_bind (wpAny_setField hu ud (by simp) (wpAny_pure ⟨x,rfl,wpAny_pure (q _ ?_ (Heap.SameBut.update ..))⟩));exact⟨_,Heap.get?_update_self _ hu (Obj.isFreed_of_fields (Obj.data_mapFields ud _)),(Obj.cls_mapFields ..).trans uc,by rw[Obj.data_mapFields ud];simp[rawInt]⟩
def mf {I:Addr}{k:Nat}{Q:Value->Shared->Prop}(hh:A.handled=Y)(st:s.heap.IsTupleIter I a k)(ta:s.heap.IsTuple a its)(hx:its[k]?=Y)
  (q:∀h' e,Heap.ExtBut I s.heap h'->(∃o,h'.get? e=Z o/\o.cls=.type "StopIteration")->E (.ref e) {s with heap:=h'}):wpAny (model prog w) A (Builtin.SmallTypes.nextOf (.ref I)) Q E s:=by
 obtain⟨u,hu,uc,ud⟩:=id st;obtain⟨oa,hoa,_,na,da⟩:=ta;unfold Builtin.SmallTypes.nextOf;refine wpAny_bind (wpAny_callSpecial?_slot (name:=Str.ofString "__next__") st.typeIs F.slot_tuple_iterator_next (wpAny_call_entry F.slot_tuple_iterator_next st.typeIs F.entry_tuple_iterator_next ?_ (F.args_tuple_iterator_next_1 _)));show wpAny _ _ (field (.ref I) 0 >>= _) _ _ s;refine wpAny_bind (wpAny_field hu ud (x:=.ref a) rfl ?_);show wpAny _ _ (if(Value.ref a==Value.none)=true then _ else _) _ _ s;rw[if_neg (show¬((Value.ref a==Value.none)=true) from Bool.false_ne_true)];show wpAny _ _ (field (.ref I) 1 >>= _) _ _ s;refine wpAny_bind (wpAny_field hu ud (x:=.int k 0) rfl ?_);show wpAny _ _ (seqItems? (.ref a) >>= _) _ _ s;refine wpAny_bind (wpAny_seqItems hoa da ?_);simp only[Int.toNat_natCast,hx];refine wpAny_bind (wpAny_rule (wpAny_bind (wpAny_setField hu ud (by simp) ?_)));show wpAny _ _ (newExc (.type "StopIteration") [] >>= _) _ _ _;refine wpAny_bind ?_;simp only[newExc,newTuple];refine wpAny_bind (wpAny_newObj_type ?_ (by size_fits));refine wpAny_bind (m:=firstArgMember _ _) (wpAny_of_eq (a:=Value.none) (by first|rfl|(simp only[firstArgMember];rfl)) ?_);refine wpAny_newObj_type ?_ (by size_fits);simp only[raiseNew];refine wpAny_bind (wpAny_handled ?_)
 first|rw[show A.in1.handled=Y from hh]|rw[hh]
 exact wpAny_bind (wpAny_pure (wpAny_throw (q _ _ (((Heap.SameBut.update ..).extBut.push _).push _) ⟨_,Heap.get?_push_size _ rfl,rfl⟩)))
end
def Cc {prog:Program}{w:World}{A:Around}(hh:A.handled=Y)(I a:Addr)(hne:a≠I)(its:Array Value) :
  Draws prog w A I [I,a] its.size (λi v=>its[i]?=Z v) (λi h=>h.IsTupleIter I a i/\h.IsTuple a its) where
 live:=λ_ _ st=>let ⟨o,ho,_⟩:=st.1;⟨o,ho⟩
 frame:=λ_ _ _ st hk=>⟨st.1.at λo e=>hk I (by simp) o e,let ⟨o,ho,r⟩:=st.2;⟨o,hk a (by simp) o ho,r⟩⟩
 item:=λi s Q E hi st hQ=>Ai st.1 st.2 (x:=its[i]) (by simp[hi]) λh' hit' hs'=>hQ _ h' s.toks (by simp[hi]) ⟨hit',st.2.extBut hs'.extBut hne⟩ hs'
 done:=λs Q E st hE=>mf hh st.1 st.2 (by simp) hE
open AutoSeq1 (wpAny_loadPart') in
def wD (a:Addr)(its:Array Value)(n:Nat)(dct:Option Addr)(sl:Array (Option Value)) :
  Meets (Builtin.«enumerate.__new__» ⟨[.type "enumerate",.ref a],[]⟩) (λ_ R s=>s.heap.get? a=Z {cls:=.type "tuple",dict:=dct,data:=.seq its n,slots:=sl}/\
   R (.ok (.ret (.ref (s.heap.push {cls:=.type "tuple_iterator",data:=.fields #[.ref a,.int 0 0]}).objs.size)))
    {s with heap:=(s.heap.push {cls:=.type "tuple_iterator",data:=.fields #[.ref a,.int 0 0]}).push {cls:=.type "enumerate",data:=.fields #[.none,.bool false,.ref s.heap.objs.size,rawInt 0,.none,.none]}}):=
 .of_wp λprog w A R s hh=>by
  obtain⟨hp,g,d,tk,os⟩:=s;obtain⟨ha,hr⟩:=hh;have hsub:=sub_enumerate;have hT:Heap.IsTuple (Shared.heap ⟨hp,g,d,tk,os⟩) a its:=⟨_,ha,rfl,n,rfl⟩
  wp_walk using wpAny_loadPart' ha
  refine wpAny_stack_any λst=>wpAny_pure ?_
  split
  ·rename_i c _ _ _ _ _;cases (c==Value.type "enumerate")
   all_goals
    wp_walk using wpAny_loadPart' ha,wpAny_pyIter_tuple hT
    exact⟨_,rfl,hr⟩
  ·wp_walk using wpAny_loadPart' ha,wpAny_pyIter_tuple hT
   exact⟨_,rfl,hr⟩
def uZ {prog:Program}{w:World}{A:Around}{E:Value->Shared->Prop}{s:Shared}(hT:s.heap.IsTuple a its)
  (q:∀h',IsEnum h' (s.heap.objs.size+1) s.heap.objs.size 0 .none->h'.IsTupleIter s.heap.objs.size a 0->h'.objs.size=s.heap.objs.size+2->
   (∀b o,s.heap.get? b=Z o->h'.get? b=Z o)->Q (.ref (s.heap.objs.size+1)) {s with heap:=h'}):wpAny (model prog w) A (call (.type "enumerate") [.ref a]) Q E s:=by
 obtain⟨⟨c,dct,dt,sl⟩,ha,hc,n,hd⟩:=hT;have hc:c=.type "tuple":=hc;have hd:dt=.seq its n:=hd;subst hc hd;refine callType_new F.called_enumerate (by decide) (F.typeCall_enumerate_1 _) (F.newCall_enumerate_1 _) (λobj=>F.args_object_init_2 obj _) F.entry_enumerate_new (wD a its n dct sl) ⟨ha,?_⟩;have hz:(s.heap.push {cls:=.type "tuple_iterator",data:=.fields #[.ref a,.int 0 0]}).objs.size=s.heap.objs.size+1:=Heap.size_push ..;show _/\_;rw[hz];have he:IsEnum ((s.heap.push {cls:=.type "tuple_iterator",data:=.fields #[.ref a,.int 0 0]}).push {cls:=.type "enumerate",data:=.fields #[.none,.bool false,.ref s.heap.objs.size,rawInt 0,.none,.none]}) (s.heap.objs.size+1) s.heap.objs.size 0 .none:=by
  have z:=Heap.get?_push_size (s.heap.push {cls:=.type "tuple_iterator",data:=.fields #[.ref a,.int 0 0]}) (o:={cls:=.type "enumerate",data:=.fields #[.none,.bool false,.ref s.heap.objs.size,rawInt 0,.none,.none]}) rfl;rw[hz] at z;exact z
 exact⟨⟨_,he,rfl⟩,q _ he ⟨_,Heap.get?_push_of_some _ (Heap.get?_push_size _ rfl),rfl,rfl⟩ (by rw[Heap.size_push,hz]) λb o z=>Heap.get?_push_of_some _ (Heap.get?_push_of_some _ z)⟩
variable{ch:List Addr}{h':Heap}
section
variable {X:Cx}{ag:List (Addr×Obj)}{σ:L2.St}{H:Hp}{s:Shared}
def wU {o:HO}{t':Nat}(I:L2.Inv X ag σ H s)(hf:∀b∈ch,ky X ag H b)(k:∀b u,b∉ch->s.heap.get? b=Z u->h'.get? b=Z u)
  (hp:s.heap.objs.size<=a) (new:cX X.prog X.w (cx H a o) h' a o):L2.Inv X ag σ (cx H a o) {s with heap:=h',toks:=t'}:=by
 have hn:H a=Y:=I.hok.fresh hp;have ne:∀{b:Addr} {u:HO},H b=Z u->b≠a:=λ{b u} e z=>by rw[z,hn] at e;cases e
 have nch:∀b u,H b=Z u->b∉ch:=λb u e z=>by rw[(hf b z).1] at e;cases e
 refine I.step (g':=s.gens) (d':=s.drawn) (ch:=ch) (λb hb=>⟨(hf b hb).2.2.2.1,(hf b hb).2.1,(hf b hb).2.2.2.2.1,(hf b hb).2.2.2.2.2⟩) (λb u _ _ hc e _=>k b u hc e) (λb u _ _ hc e _=>⟨u.slots,k b u hc e⟩)
  (λb u _ e n=>by rw[aB (Nat.ne_of_lt (Nat.lt_of_lt_of_le (Heap.lt_size e) hp))];exact n) (λb u hc e=>⟨u,k b u hc e⟩) (λb xs e=>by rw[aB (ne e)];exact e) (λb u v e=>by rw[aB (ne e)];exact e)
  (λb ps e=>⟨#[],by rw[aB (ne e),e];simp⟩) (λm hm=>?_) (λb u e=>?_) I.bare
 ·obtain⟨u,es,ep,ho,r⟩:=hm;exact⟨u,es,ep,k _ u (λz=>(hf _ z).2.1 rfl) ho,r⟩
 ·by_cases hb:b=a
  ·subst hb;rw[bJ] at e;cases e;exact new
  ·rw[aB hb] at e;refine(I.hok b u e).stay (λc v hc q=>k c v ?_ q) (λc q=>by rw[aB (ne q)];exact q) λc xs q=>by rw[aB (ne q)];exact q
   rcases hc with z|z
   ·rw[z];exact nch b u e
   ·exact nch c _ z
def CT {t':Nat}(I:L2.Inv X ag σ H s)(hf:∀b∈ch,ky X ag H b)(k:∀b u,b∉ch->s.heap.get? b=Z u->h'.get? b=Z u):L2.Inv X ag σ H {s with heap:=h',toks:=t'}:=by
 have nch:∀b u,H b=Z u->b∉ch:=λb u e z=>by rw[(hf b z).1] at e;cases e
 refine I.step (g':=s.gens) (d':=s.drawn) (ch:=ch) (λb hb=>⟨(hf b hb).2.2.2.1,(hf b hb).2.1,(hf b hb).2.2.2.2.1,(hf b hb).2.2.2.2.2⟩) (λb u _ _ hc e _=>k b u hc e) (λb u _ _ hc e _=>⟨u.slots,k b u hc e⟩)
  (λb u _ e n=>n) (λb u hc e=>⟨u,k b u hc e⟩) (λb xs e=>e) (λb u v e=>e) (λb ps e=>⟨#[],by rw[e];simp⟩) (λm hm=>?_) (λb u e=>?_) I.bare
 ·obtain⟨u,es,ep,ho,r⟩:=hm;exact⟨u,es,ep,k _ u (λz=>(hf _ z).2.1 rfl) ho,r⟩
 ·refine(I.hok b u e).stay (λc v hc q=>k c v ?_ q) (λc q=>q) λc xs q=>q
  rcases hc with z|z
  ·rw[z];exact nch b u e
  ·exact nch c _ z
end
def Oi (K:W.Frag)(b:Bool)(H:Hp)(a:Addr)(xs:List V):Prop:=match b with
 | true=>rF K H a xs
 | false=>nj K H a xs
def CL (K:W.Frag)(b:Bool)(a:Addr):It:=
 ⟨λi H=>∃xs x,Oi K b H a xs/\xs[i]?=Z x,λi H x H'=>∃p y,H p=Y/\H'=cx H p (.tup [.int (i:Int),y])/\x=.ref p/\∀xs,Oi K b H a xs->xs[i]?=Z y,λi H=>∃xs,Oi K b H a xs/\xs.length<=i⟩
def iH (b:Bool)(h:Heap)(it a:Addr)(i:Nat):Prop:=match b with
 | true=>h.IsTupleIter it a i
 | false=>h.IsListIter it a i
variable{b:Bool}{i:Nat}
def iH.at {h:Heap}{it:Addr}(x:iH b h it a i)(e:∀o,h.get? it=Z o->h'.get? it=Z o):iH b h' it a i:=by
 cases b with
 | true=>exact Heap.IsTupleIter.at x e
 | false=>exact Heap.IsListIter.at x e
def iH.obj {h:Heap}{it:Addr}(x:iH b h it a i):∃o,h.get? it=Z o/\(o.cls=.type "tuple_iterator"\/o.cls=.type "list_iterator")/\∃vs,o.data=.fields vs:=by
 cases b with
 | true=>obtain⟨o,e,c,d⟩:=x;exact⟨o,e,.inl c,_,d⟩
 | false=>obtain⟨o,e,c,d⟩:=x;exact⟨o,e,.inr c,_,d⟩
variable{K:W.Frag}
def CD {P:Program}{w:World}{es:List Expr}{kt:Nat}{pos:Pos}(b:Bool)(a e it:Addr):Cm P w K (.Tuple es kt pos) (CL K b a) [e,it] e (λi h=>(∃old,IsEnum h e it (i:Int) old)/\iH b h it a i) where
 mem:=by simp
 obj:=λi h st c hc=>by
  obtain⟨⟨old,he⟩,hs⟩:=st;obtain⟨o,ho,_,vs,hd⟩:=hs.obj;rcases mem_cons.mp hc with q|q
  ·subst q;exact⟨_,he,λv z=>by cases z⟩
  ·rw[mem_singleton.mp q];exact⟨o,ho,λv z=>by rw[hd] at z;cases z⟩
 keep:=λi h h' st k=>⟨st.1.imp λold he=>k e (by simp) _ he,st.2.at λo q=>k it (by simp) o q⟩
 item:=by
  intro X hP hw hK hc i ag s σ H E I hf st hg;subst hP hw hK;obtain⟨⟨old,he⟩,hs⟩:=st;obtain⟨xs,x,hq,hx⟩:=hg;have hei:e≠it:=λz=>by
   obtain⟨o,ho,hcl,_⟩:=hs.obj;rw[<-z,he] at ho;cases ho;rcases hcl with q|q <;> simp at q
  have main:∀(its:List Value) (fp:List Addr) (St:Nat->Heap->Prop),ba xs its->Draws X.prog X.w X.A.in1 it fp its.length (λi v=>its[i]?=Z v) St->e∉fp->St i s.heap->(∀h,St (i+1) h->iH b h it a (i+1))->
    wpAny (model X.prog X.w) X.A (pyNext (.ref e)) (λr s1=>∃u,r=Z u/\
     wpAny (model X.prog X.w) X.A (letOwnedTupleGo (.Tuple es kt pos) (.ref e) u) (λ_ s2=>∃x H',L2.Inv X ag σ H' s2/\RelV x u/\(CL X.K b a).yld i H x H'/\((∃old,IsEnum s2.heap e it ((i+1:Nat):Int) old)/\iH b s2.heap it a (i+1))/\∀b∈[e,it],H' b=Y) E s1) E s:=by
   intro its fp St rv D hef hst hback;have hil:i<its.length:=by rw[<-rv.length];exact(List.getElem?_eq_some_iff.mp hx).1
   obtain⟨u,hu,ru⟩:=rv.get hx;refine wpAny_pyNext_enum_itemD D he hst hil hei hef λy h' tk hP ho hs' hT hsz hk=>?_
   have ey:y=u:=by
    have hP:its[i]?=Z y:=hP;rw[hu] at hP;exact(Option.some.inj hP).symm
   subst ey;have helt:e<s.heap.objs.size:=Heap.lt_size he;refine⟨_,rfl,wpAny_letOwnedTupleGo_enum ho λh2 he2 hs2=>?_⟩;have hs2:Heap.SameBut e h' h2:=hs2;have hT2:h2.get? s.heap.objs.size=Z {cls:=.type "tuple",data:=.seq #[.int i tk,y]}:=(hs2.2 _ (Nat.ne_of_gt helt)).trans hT;have fr:H s.heap.objs.size=Y:=I.hok.fresh (Nat.le_refl _);have new:cX X.prog X.w (cx H s.heap.objs.size (.tup [.int (i:Int),x])) h2 s.heap.objs.size (.tup [.int (i:Int),x]):=
    ⟨Nat.le_trans (by decide:2<=1000) (by rw[sizeLine_eq];decide),[.int i tk,y],.cons ⟨tk,rfl⟩ (.cons ru .nil),⟨_,hT2,rfl,_,rfl⟩⟩
   have I2:=wU (t':=tk+1) I hf (λc o hc q=>(hs2.2 c (λz=>hc (by simp[z]))).trans (hk c o (λz=>hc (by simp[z])) (λz=>hc (by simp[z])) q)) (Nat.le_refl _) new;have inj:∀ys,Oi X.K b H a ys->ys[i]?=Z x:=λys hy=>by
    cases b with
    | true=>rw[I.tuple_inj hy hq];exact hx
    | false=>rw[I.list_inj hy hq];exact hx
   refine⟨.ref s.heap.objs.size,_,I2,rfl,⟨_,x,fr,rfl,rfl,inj⟩,⟨⟨y,by simpa using he2⟩,(hback h' hs').at λo q=>(hs2.2 it (Ne.symm hei)).trans q⟩,λc hc=>?_⟩;have:c≠s.heap.objs.size:=by
    obtain⟨o,ho2,_⟩:=hs.obj;rcases mem_cons.mp hc with q|q
    ·rw[q];exact Nat.ne_of_lt helt
    ·rw[mem_singleton.mp q];exact Nat.ne_of_lt (Heap.lt_size ho2)
   rw[aB this];exact(hf c hc).1
  cases b with
  | false=>
   obtain⟨its,rv,p,hz⟩:=I.list (show nj X.K H a xs from hq);have hli:a≠it:=λz=>by
    obtain⟨o,ho,hcl,_⟩:=hs.obj;obtain⟨ol,hol,hlc,_⟩:=p.isList;rw[z,ho] at hol;cases hol;rw[hlc] at hcl;rcases hcl with q|q <;> simp at q
   have hle:e≠a:=λz=>by
    obtain⟨ol,hol,hlc,_⟩:=p.isList;rw[<-z,he] at hol;cases hol;simp at hlc
   have D:=Draws.list (prog:=X.prog) (w:=X.w) (A:=X.A.in1) (show X.A.in1.handled=Y from I.ok.hd hc) it a hli its.toArray;rw[size_toArray] at D;exact main its [it,a] (λi h=>h.IsListIter it a i/\h.IsList a its.toArray) rv (by simpa using D) (by simp[hei,hle]) (show s.heap.IsListIter it a i/\s.heap.IsList a its.toArray from⟨hs,p.isList⟩) λh q=>q.1
  | true=>
   obtain⟨its,rv,p,hz⟩:=I.tuple (show rF X.K H a xs from hq);have p:s.heap.IsTuple a its.toArray:=p;have hli:a≠it:=λz=>by
    obtain⟨o,ho,hcl,_⟩:=hs.obj;obtain⟨ol,hol,hlc,_⟩:=id p;rw[z,ho] at hol;cases hol;rw[hlc] at hcl;rcases hcl with q|q <;> simp at q
   have hle:e≠a:=λz=>by
    obtain⟨ol,hol,hlc,_⟩:=id p;rw[<-z,he] at hol;cases hol;simp at hlc
   have D:=Cc (prog:=X.prog) (w:=X.w) (A:=X.A.in1) (show X.A.in1.handled=Y from I.ok.hd hc) it a hli its.toArray;rw[size_toArray] at D;exact main its [it,a] (λi h=>h.IsTupleIter it a i/\h.IsTuple a its.toArray) rv (by simpa using D) (by simp[hei,hle]) (show s.heap.IsTupleIter it a i/\s.heap.IsTuple a its.toArray from⟨hs,p⟩) λh q=>q.1
 done:=by
  intro X hP hw hK hc i ag s σ H E I hf st hg;subst hP hw hK;obtain⟨⟨old,he⟩,hs⟩:=st;obtain⟨xs,hq,hx⟩:=hg;have hnx:∀h',Heap.ExtBut it s.heap h'->(Y:Option Value)=Y/\L2.Inv X ag σ H {s with heap:=h'}:=λh' hb=>
   ⟨rfl,CT (t':=s.toks) I hf λc o hc q=>hb c o (λz=>hc (by simp[z])) q⟩
  have hT:s.TypeIs (.ref e) "enumerate":=⟨_,he,rfl⟩;unfold pyNext;refine wpAny_bind (wpAny_attempt (wpAny_callSpecial?_slot (name:=Str.ofString "__next__") hT F.slot_enumerate_next (wpAny_call_entry F.slot_enumerate_next hT F.entry_enumerate_next ?_ (F.args_enumerate_next_1 _))));show wpAny _ _ (field (.ref e) 2 >>= _) _ _ _;refine wpAny_bind (wpAny_field he rfl (x:=.ref it) rfl (wpAny_bind ?_));have stp:∀h' x,Heap.ExtBut it s.heap h'->(∃o,h'.get? x=Z o/\o.cls=.type "StopIteration")->wpAny (model X.prog X.w) X.A (isInstance (.ref x) (.type "StopIteration") >>= λb=>if b=true then pure Y else throw (Value.ref x)) (λ(r:Option Value) s1=>r=Y/\L2.Inv X ag σ H s1) E {s with heap:=h'}:=λh' x hb hx'=>by
   obtain⟨o,ho,hcl⟩:=hx';refine wpAny_bind (wpAny_isInstance (T:="StopIteration") (b:=true) ⟨o,ho,hcl⟩ isSubtype_stop ?_);exact wpAny_pure (hnx _ hb)
  cases b with
  | false=>
   obtain⟨its,rv,p,hz⟩:=I.list (show nj X.K H a xs from hq);have hl:=rv.length;exact wpAny_nextOf_list_end (show X.A.in1.handled=Y from I.ok.hd hc) hs p.isList (by simp;omega) stp
  | true=>
   obtain⟨its,rv,p,hz⟩:=I.tuple (show rF X.K H a xs from hq);have p:s.heap.IsTuple a its.toArray:=p;have hl:=rv.length;exact mf (show X.A.in1.handled=Y from I.ok.hd hc) hs p (by simp;omega) stp
 self:=λ_ _ _ _ _ st h=>by
  obtain⟨⟨old,he⟩,_⟩:=st;exact wpAny_pyIter_enum he h
def HS {X:Cx}{es:List Expr}{kt:Nat}{tp:Pos}{l:Expr}{tl:TA}{p pos:Pos}(hg:Gl X "enumerate")(hm:X.mg "enumerate"=Y)(hv:bootBuiltins "enumerate"=Z (.type "enumerate"))(hl:PA X [l] tl)(hs:starEach [l] X.env=[(false,eval l X.env)]:=by rfl) :
  PI X (.Tuple es kt tp) (.Call (.Name "enumerate" p) [l] [] pos) (λσ H R=>tl σ H λxs H1=>∃a,xs=[.ref a]/\(((∃xs,nj X.K H1 a xs)/\R (CL X.K false a) H1)\/((∃xs,rF X.K H1 a xs)/\R (CL X.K true a) H1))):=by
 intro ag s σ H R I h;refine Call_ (qx I hg hm hv (PyProof.Rows.callWith_type1 (cK (hl pos ag s σ H _ I h) λus s1 hxx=>?_) hs rfl));obtain⟨vs,H1,I1,r1,q1⟩:=hxx;obtain⟨a,e,q1⟩:=q1;subst e;cases r1 with
 | cons r rr=>
  cases rr;have r:_=Value.ref a:=r;subst r;have fin:∀(b:Bool) (h':Heap),IsEnum h' (s1.heap.objs.size+1) s1.heap.objs.size 0 .none->iH b h' s1.heap.objs.size a 0->h'.objs.size=s1.heap.objs.size+2->(∀c o,s1.heap.get? c=Z o->h'.get? c=Z o)->R (CL X.K b a) H1->
    wpAny (model X.prog X.w) X.A (pyIter (.ref (s1.heap.objs.size+1))) (Rm X ag σ (.Tuple es kt tp) R) X.xe {s1 with heap:=h'}:=λb h' he hi hz hk q=>by
   refine wpAny_pyIter_enum he ⟨_,[s1.heap.objs.size+1,s1.heap.objs.size],_,_,H1,rfl,I1.kept (t':=s1.toks) hk,CD b a _ _,⟨⟨_,he⟩,hi⟩,λc hc=>?_,q⟩;have hb:s1.heap.objs.size<=c:=by
    rcases mem_cons.mp hc with z|z
    ·rw[z];exact Nat.le_succ _
    ·rw[mem_singleton.mp z];exact Nat.le_refl _
   exact I1.fpOk hb (I1.hok.fresh hb)
  rcases q1 with⟨⟨xs,hq⟩,q⟩|⟨⟨xs,hq⟩,q⟩
  ·obtain⟨its,rv,p,hz⟩:=I1.list hq;exact call_enumerate_list p.isList λh' he hi hz hk=>fin false h' he hi hz hk q
  ·obtain⟨its,rv,p,hz⟩:=I1.tuple hq;exact uZ (show s1.heap.IsTuple a its.toArray from p) λh' he hi hz hk=>fin true h' he hi hz hk q
def ik (ds:List D):List D:=(List.range ds.length).zipWith (λ(k:Nat) d=>D.tup [.int (k:Int),d]) ds
variable{ds:List D}
def ni {d:D}(h:(ik ds)[i]?=Z d):∃x,ds[i]?=Z x/\d=.tup [.int (i:Int),x]:=by
 unfold ik at h;rw[getElem?_zipWith] at h;cases q:ds[i]? with
 | none=>rw[q] at h;simp at h
 | some x=>
  have hi:=(List.getElem?_eq_some_iff.mp q).1;rw[q,getElem?_range hi] at h;exact⟨x,rfl,(Option.some.inj h).symm⟩
def kQ (ds:List D):(ik ds).length=ds.length:=by simp[ik]
def EZ (ds:List D)(M:az):aX uH:=match ds with
 | [.lst xs]=>.ok ⟨ik xs,Y⟩ M
 | [.ro xs]=>.ok ⟨ik xs,Y⟩ M
 | [.tup xs]=>.ok ⟨ik xs,Y⟩ M
 | _=>.bad
def lU (g:GA):GI:=λρ M=>(g ρ M).bind EZ
def tN {θ:List Addr}{H:Hp}{vs:List V}(ta:∀θ1 H1,Grow θ H θ1 H1->Oi K b H1 a vs)(r:bt K θ H ds vs):Ip K (CL K b a) θ H ⟨ik ds,Y⟩:=by
 intro θ1 H1 M1 g _ i;have t1:=ta θ1 H1 g.toGrow;have r1:=r.go g;refine⟨λd e=>?_,λhl=>⟨vs,t1,by rw[<-aA r1];rw[kQ] at hl;exact hl⟩⟩;obtain⟨x,ex,ed⟩:=ni e;subst ed;obtain⟨v,e1,rv⟩:=gQ r1 ex;refine⟨⟨vs,v,t1,e1⟩,λx' H2 y=>?_⟩;obtain⟨p,y',np,eH,exr,hy⟩:=y;have e2:=hy vs t1;rw[e1] at e2;cases e2;subst eH exr;exact⟨dX g.wr np,iJ (ds:=[.int (i:Int),x]) g.wr np ⟨_,_,rfl,rfl,_,_,rfl,rv,rfl⟩⟩
def IV {X:Cx}{es:List Expr}{kt:Nat}{tp:Pos}{l:Expr}{g:GA}{p pos:Pos}(hg:Gl X "enumerate")(hm:X.mg "enumerate"=Y)(hv:bootBuiltins "enumerate"=Z (.type "enumerate"))(hl:PA X [l] (tA X g))(hs:starEach [l] X.env=[(false,eval l X.env)]:=by rfl) :
  PI X (.Tuple es kt tp) (.Call (.Name "enumerate" p) [l] [] pos) (tI X (lU g)):=by
 intro ag s σ H R I h;refine HS hg hm hv hl hs ag s σ H R I ?_;obtain⟨ρ,θ,M,hd,hw,h⟩:=h;refine lJ hd hw (EH X θ H R) (λc M' h=>h) (λh=>h) h λds M1 vs θ1 H1 g1 r1 h1=>?_
 unfold EZ at h1;split at h1
 ·obtain⟨v,r,e,⟨a,us,e2,ta,rs⟩,rr⟩:=r1;have rr:r=[]:=rr;subst rr e2;exact⟨a,e,.inl ⟨⟨us,ta.sq⟩,h1 _ θ1 H1 g1 (tN (b:=false) (λθ2 H2 g2=>(ta.grow g2).sq) rs)⟩⟩
 ·obtain⟨v,r,e,⟨a,us,e2,ta,rs⟩,rr⟩:=r1;have rr:r=[]:=rr;subst rr e2;exact⟨a,e,.inl ⟨⟨us,ta.sq⟩,h1 _ θ1 H1 g1 (tN (b:=false) (λθ2 H2 g2=>(ta.grow g2).sq) rs)⟩⟩
 ·obtain⟨v,r,e,⟨a,us,e2,ta,rs⟩,rr⟩:=r1;have rr:r=[]:=rr;subst rr e2;exact⟨a,e,.inr ⟨⟨us,ta.sq⟩,h1 _ θ1 H1 g1 (tN (b:=true) (λθ2 H2 g2=>(ta.grow g2).sq) rs)⟩⟩
 ·exact h1.elim
end DL
namespace DL
open PySem PySem.Spec PyProof.Rows L2 List
def mw (o x:D)(lo hi:Int)(M:az):aX Unit:=match o,x with
 | .mr k,.lst ys=>match M[k]? with
  | some (.lst xs)=>if 0<=lo/\lo<=hi/\hi<=(xs.length:Int)/\xs.length+ys.length<=sizeLine then .ok () (M.set k (.lst (xs.take lo.toNat++ys++xs.drop hi.toNat))) else .bad
  | _=>.bad
 | _,_=>.bad
def iZ (o x l h:D)(M:az):aX Unit:=match l,h with
 | .int l,.int h=>mw o x l h M
 | _,_=>.bad
def uM (go gl gh g:GE):GS:=λρ M=>(g ρ M).bind λx M1=>(go ρ M1).bind λo M2=>(gl ρ M2).bind λl M3=>(gh ρ M3).bind λh M4=>(iZ o x l h M4).bind λ_ M5=>.ok (.nx ρ) M5
def P0 (d2 d1 d3 d4:D)(M:az):Prop:=∃l h k ys xs,(d3=.int l/\d4=.int h)/\(d2=.mr k/\d1=.lst ys)/\M[k]?=Z (.lst xs)/\(0<=l/\l<=h/\h<=(xs.length:Int)/\xs.length+ys.length<=sizeLine)/\iZ d2 d1 d3 d4 M=.ok () (M.set k (.lst (xs.take l.toNat++ys++xs.drop h.toNat)))
def NW (d2 d1 d3 d4:D)(M:az):iZ d2 d1 d3 d4 M=.bad\/P0 d2 d1 d3 d4 M:=by
 cases d3 with
 | int l=>
  cases d4 with
  | int h=>
   cases d2 with
   | mr k=>
    cases d1 with
    | lst ys=>
     cases q:M[k]? with
     | none=>exact .inl (by unfold iZ mw;dsimp only;rw[q])
     | some m=>
      cases m with
      | lst xs=>
       by_cases hc:0<=l/\l<=h/\h<=(xs.length:Int)/\xs.length+ys.length<=sizeLine
       ·exact .inr ⟨l,h,k,ys,xs,⟨rfl,rfl⟩,⟨rfl,rfl⟩,q,hc,by unfold iZ mw;dsimp only;rw[q];exact if_pos hc⟩
       ·exact .inl (by unfold iZ mw;dsimp only;rw[q];exact if_neg hc)
      | _=>exact .inl (by unfold iZ mw;dsimp only;rw[q])
    | _=>exact .inl rfl
   | _=>exact .inl rfl
  | _=>exact .inl rfl
 | _=>exact .inl rfl
variable{x:Str}
section
variable {X:Cx}{e o lo hi:Expr}{g go gl gh:GE}{pos ip sp:Pos}
def Ly (he:PE X e (tE X g))(ho:PE X o (tE X go))(hl:PE X lo (tE X gl))(hh:PE X hi (tE X gh))
  (hs:swapsWithSole [.Subscript o (.Slice (Z lo) (Z hi) Y sp) ip] e pos.line X.env=pure false:=by rfl) (hw:swappedStores [.Subscript o (.Slice (Z lo) (Z hi) Y sp) ip] e X.env=pure Y:=by rfl) :
  PS X (.Assign [.Subscript o (.Slice (Z lo) (Z hi) Y sp) ip] e pos) (tS X (uM go gl gh g)):=by
 intro ag s σ H D I h;obtain⟨ρ,θ,M,hd,hwr,h⟩:=h;refine wpAny_Assign_stores (cK (he ag s σ H (λx H1=>∃d1 θ1 M1,Go X.K θ H θ1 H1 M1/\dC X.K θ1 H1 d1 x/\bZ X θ H D (aX.bind (go ρ M1) λo M2=>(gl ρ M2).bind λl M3=>(gh ρ M3).bind λh M4=>(iZ o d1 l h M4).bind λ_ M5=>.ok (.nx ρ) M5)) I
  (bD hd hwr (bZ X θ H D) (λc M' h=>h) (λh=>h) h λd1 M1 v θ1 H1 g1 r1 h1=>⟨d1,θ1,M1,g1,r1,h1⟩)) λv s1 hxx=>?_) hs hw
 obtain⟨x,H1,I1,r1,d1,θ1,M1,g1,rd1,h1⟩:=hxx;show wpAny _ X.A (do
   let ov <-holding [v] (eval o X.env)
   let iv <-holding [v,ov] (eval (.Slice (Z lo) (Z hi) Y sp) X.env)
   standAt ip
   holding [v,ov,iv] (setItem ov iv v)
   release [iv,v,ov] []) _ _ s1
 have h1:=bZ.go g1 h1;refine wpAny_bind (wpAny_holding (cK (ho ag s1 σ H1 (λy H2=>∃d2 θ2 M2,Go X.K θ1 H1 θ2 H2 M2/\dC X.K θ2 H2 d2 y/\bZ X θ1 H1 D (aX.bind (gl ρ M2) λl M3=>(gh ρ M3).bind λh M4=>(iZ d2 d1 l h M4).bind λ_ M5=>.ok (.nx ρ) M5)) I1
  (bD (hd.go g1) g1.wr (bZ X θ1 H1 D) (λc M' h=>h) (λh=>h) h1 λd2 M2 v θ2 H2 g2 r2 h2=>⟨d2,θ2,M2,g2,r2,h2⟩)) λov s2 hxx=>?_))
 obtain⟨y,H2,I2,r2,d2,θ2,M2,g2,rd2,h2⟩:=hxx;have h2:=bZ.go g2 h2;refine wpAny_bind (wpAny_holding (wpAny_Slice ?_));rw[evalPart_some];refine cK (hl ag s2 σ H2 (λz H3=>∃d3 θ3 M3,Go X.K θ2 H2 θ3 H3 M3/\dC X.K θ3 H3 d3 z/\bZ X θ2 H2 D (aX.bind (gh ρ M3) λh M4=>(iZ d2 d1 d3 h M4).bind λ_ M5=>.ok (.nx ρ) M5)) I2
  (bD ((hd.go g1).go g2) g2.wr (bZ X θ2 H2 D) (λc M' h=>h) (λh=>h) h2 λd3 M3 v θ3 H3 g3 r3 h3=>⟨d3,θ3,M3,g3,r3,h3⟩)) λvl s3 hxx=>?_
 obtain⟨z,H3,I3,r3,d3,θ3,M3,g3,rd3,h3⟩:=hxx;have h3:=bZ.go g3 h3;rw[evalPart_some];refine cK (hh ag s3 σ H3 (λz H4=>∃d4 θ4 M4,Go X.K θ3 H3 θ4 H4 M4/\dC X.K θ4 H4 d4 z/\bZ X θ3 H3 D ((iZ d2 d1 d3 d4 M4).bind λ_ M5=>.ok (.nx ρ) M5)) I3
  (bD (((hd.go g1).go g2).go g3) g3.wr (bZ X θ3 H3 D) (λc M' h=>h) (λh=>h) h3 λd4 M4 v θ4 H4 g4 r4 h4=>⟨d4,θ4,M4,g4,r4,h4⟩)) λvu s4 hxx=>?_
 obtain⟨z4,H4,I4,r4,d4,θ4,M4,g4,rd4,h4⟩:=hxx;have h4:=bZ.go g4 h4;rw[evalPart_none];refine wpAny_pure ?_;have I5:L2.Inv X ag σ H4 {s4 with heap:=s4.heap.push {cls:=.type "slice",data:=.fields #[vl,vu,.none]}}:=I4.kept (t':=s4.toks) λb ob q=>Heap.get?_push_of_some _ q
 rcases NW d2 d1 d3 d4 M4 with e|⟨l,h,k,ys,xs,e34,e21,q,hc,e⟩
 ·rw[e] at h4;exact False.elim h4
 rw[e] at h4;have rd3':z=.int l:=by rw[e34.1] at rd3;exact rd3
 have rd4':z4=.int h:=by rw[e34.2] at rd4;exact rd4
 rw[rd3'] at r3;rw[rd4'] at r4;rw[e21.2] at rd1;rw[e21.1] at rd2;obtain⟨b,us,eb,tb,rus⟩:=(rd1.go (g2.trans (g3.trans g4)));obtain⟨a,ea,ta⟩:=rd2.go (g3.trans g4);obtain⟨vs,ev,rvs⟩:=g4.wr.at_ k a _ ta q;rw[eb] at r1;rw[ea] at r2;have e1:v=.ref b:=r1;have e2:ov=.ref a:=r2;rw[e1,e2];have hne:a≠b:=λz=>tb.2 (by rw[<-z];exact mem_of_getElem? ta)
 have lx:=aA rvs;have ly:=aA rus;refine wpAny_bind (wpAny_standAt (wpAny_bind (wpAny_holding (Ce I5 ev tb.1 hne (Heap.IsSliceOf.new ..) r3 r4 hc.1 hc.2.1 (by rw[<-lx];exact hc.2.2.1) (by rw[<-lx,<-ly];exact hc.2.2.2) λs' I'=>?_))));have gs:=uj (ds:=xs) (ds':=xs.take l.toNat++ys++xs.drop h.toNat) g4.wr ta (ck (ck (mW _ rvs) rus) (mY _ rvs));exact wpAny_release ⟨σ,_,I',h4 σ θ4 _ gs (((((hd.go g1).go g2).go g3).go g4).go gs)⟩
def AF (i j:Nat)(ga:GA):GS:=λρ M=>(ga ρ M).bind λds M1=>match ds with
 | [d,e]=>.ok (.nx ((ρ.set i (Z d)).set j (Z e))) M1
 | _=>.bad
def KN {i j:Nat}{y:Str}{a b:Expr}{ga:GA}{px py pt:Pos}{kt k2 pt2}(hc:X.calm=true)(hN:X.N.Nodup)(hi:X.N[i]?=Z x)(hj:X.N[j]?=Z y)(hij:i≠j)
  (hx:X.env.scope.names.lookup x=Z .local) (hy:X.env.scope.names.lookup y=Z .local) (ha:PA X [a,b] (tA X ga))
  (hw:swappedStores [.Tuple [.Name x px,.Name y py] kt pt] (.Tuple [a,b] k2 pt2) X.env=pure (Z [x,y]))
  (hs:swapsWithSole [.Tuple [.Name x px,.Name y py] kt pt] (.Tuple [a,b] k2 pt2) pos.line X.env=pure false:=by rfl) :
  PS X (.Assign [.Tuple [.Name x px,.Name y py] kt pt] (.Tuple [a,b] k2 pt2) pos) (tS X (AF i j ga)):=(Mh hc hN hi hj hij hx hy ha hw hs).of λD σ H hxx=>by
 obtain⟨ρ,θ,M,hd,hwr,h⟩:=hxx;refine lJ hd hwr (bZ X θ H D) (λc M' h=>h) (λh=>h) h λds M1 vs θ1 H1 g1 r1 h1=>?_
 match ds,r1,h1 with
 | [d,e],⟨v,r,e1,rv,v2,r2,e2,rv2,e3⟩,h1=>
  have e3:r2=[]:=e3;subst e3 e2;exact⟨v,v2,e1,h1 _ θ1 H1 g1 (((hd.go g1).set rv i).set rv2 j)⟩
 | [],_,h1=>exact False.elim h1
 | [_],_,h1=>exact False.elim h1
 | _::_::_::_,_,h1=>exact False.elim h1
end
def H0 (K:W.Frag)(a:Addr)(so:Obj)(xs:List V)(ts:List Addr)(bm:Addr)(ob:Obj):Hp:=λb=>
 if b=a then(if K.lookup a=Y then Z (.frz so (.lst xs)) else Y) else if b∈ts then Z (.tbl #[]) else if b=bm then Z (RM ob) else Y
structure Ry (K:W.Frag)(h:Heap)(ts:List Addr)(bm:Addr)(ob:Obj):Prop where
 tab:∀P∈ts,h.get? P=Z (W.tabObj #[])/\isCodeTable h P/\K.lookup P=Y
 names:∀x,x∈cN->∀c P,W.tabIn K x=Z (c,P)->P∈ts
 bmk:W.nsIn K mainGlobals "__builtins__"=Z (Z (.ref bm))
 bmh:h.get? bm=Z ob
 bmc:ob.cls=.type "module"/\ob.dict=Z builtinsNs/\ob.data=.plain
 bmn:bm≠builtinsNs/\bm≠mainGlobals
 bml:K.lookup bm=Y
variable{K:W.Frag}{h:Heap}{a:Addr}
def EF {so:Obj}{xs:List V}{ts:List Addr}{bm:Addr}{ob:Obj}(L:Ry K h ts bm ob)(ha:h.get? a=Z so)(sc:so.cls=.type "list"):nF K (H0 K a so xs ts bm ob):=by
 have neT:∀P∈ts,P≠a:=λP hP e=>by
  have:=(L.tab P hP).1;rw[e,ha] at this;cases this;cases sc
 have neB:bm≠a:=λe=>by
  have:=L.bmh;rw[e,ha] at this;cases this;have:=L.bmc.1;rw[sc] at this;simp at this
 have nBT:bm∉ts:=λhb=>by
  have:=(L.tab bm hb).1;rw[L.bmh] at this;cases this;have:=L.bmc.1;simp at this
 refine⟨λx hx c P e=>?_,λx hx c P e=>⟨bm,ob,L.bmk,?_,L.bmc.1,L.bmc.2.1,L.bmc.2.2,L.bmn⟩⟩
 ·have hP:=L.names x hx c P e;refine⟨#[],?_,by simp[TriplesOk],λpos cv q=>by simp[codeAmong] at q⟩;unfold H0;rw[if_neg (neT P hP),if_pos hP]
 ·unfold H0;rw[if_neg neB,if_neg nBT,if_pos rfl]
variable{mg:Str->Option Value}
def BO {P:Program}{w:World}{mb:Str->Option Value}{CX:BW}{k:Nat}{fa:Addr}{fd:FuncData}{sp:Sp}{s₁:Shared}{vs:List Value}{ns:List Int}{ts:List Addr}{bm:Addr}{ob:Obj}
  (KX:K.In s₁.heap) (hns:s₁.heap.Ns mainGlobals mg) (hb:s₁.heap.Ns builtinsNs mb) (hbb:∀x:Str,x≠"__name__"->mb x=bootBuiltins x) (hlim:s₁.heap.NoLimit) (hg:s₁.gens=#[])
  (ha:s₁.heap.get? a=Z {cls:=.type "list",data:=.seq vs.toArray}) (hi:IntsAre vs ns) (hl:ns.length<=sizeLine) (hr:bM k callerA) (L:Ry K s₁.heap ts bm ob)
  (F:∀base:Heap,K.In base->base.Ns mainGlobals mg->eB P w K mg base CX k fa fd [x] sp) (hbind:∀(s:Shared) (u:Value),BindsTo s fd ⟨[u],[]⟩ [(x,u)])
  (hsp:∀H:Hp,nF K H->nj K H a (ns.map V.int)->sp [.ref a] H (λv _=>v=.bl true) λ_ _ _=>False)
  (hCX:∀H e s',CX [] H s₁ (λ_ _ _=>False) e s'->False) :
  codeAny (model P w) callerA (.call (.ref fa) ⟨[.ref a],[]⟩) (λr s'=>r=.ok (.ret (.bool true))/\OldK s₁.heap s'.heap/\s'.os=s₁.os/\AllBare s'.gens) s₁:=by
 have rv:=vm hi;have lenV:=hi.length;have hH:∃H:Hp,H=H0 K a {cls:=.type "list",data:=.seq vs.toArray} (ns.map V.int) ts bm ob:=⟨_,rfl⟩;obtain⟨H,eH⟩:=hH;have tb:nF K H:=by rw[eH];exact EF L ha rfl
 have at_:∀b u,H b=Z u->(b=a/\K.lookup a=Y/\u=.frz {cls:=.type "list",data:=.seq vs.toArray} (.lst (ns.map V.int)))\/(b≠a/\b∈ts/\u=.tbl #[])\/(b=bm/\u=RM ob):=λb u e=>by
  rw[eH] at e;unfold H0 at e
  by_cases h1:b=a
  ·rw[if_pos h1] at e
   by_cases h2:K.lookup a=Y
   ·rw[if_pos h2] at e;cases e;exact .inl ⟨h1,h2,rfl⟩
   ·rw[if_neg h2] at e;cases e
  ·rw[if_neg h1] at e
   by_cases h2:b∈ts
   ·rw[if_pos h2] at e;cases e;exact .inr (.inl ⟨h1,h2,rfl⟩)
   ·rw[if_neg h2] at e
    by_cases h3:b=bm
    ·rw[if_pos h3] at e;cases e;exact .inr (.inr ⟨h3,rfl⟩)
    ·rw[if_neg h3] at e;cases e
 have hok:mz P w H s₁.heap:=λb u e=>by
  rcases at_ b u e with⟨h1,_,h3⟩|⟨_,h2,h3⟩|⟨h1,h3⟩
  ·subst h1 h3;exact⟨ha,by rw[length_map];exact hl,vs,_,rv,ha⟩
  ·subst h3;exact(L.tab b h2).1
  ·subst h1 h3;exact⟨L.bmh,trivial,⟨_,L.bmh⟩,λ_ _ _ _=>trivial⟩
 have hS:nj K H a (ns.map V.int):=by
  cases hk:K.lookup a with
  | some o=>
   have e:=KX a o hk;rw[ha] at e;cases e;exact .inr ⟨_,vs.toArray,_,hk,rfl,rfl,rfl,by rw[size_toArray,lenV];exact hl,by simpa using rv⟩
  | none=>exact .inl (.inr ⟨{cls:=.type "list",data:=.seq vs.toArray},by rw[eH];unfold H0;rw[if_pos rfl,if_pos hk]⟩)
 have base_of:∀{b:Addr} {o:Obj},s₁.heap.get? b=Z o->H b=Y->(wW s₁.heap H).get? b=Z o:=λe n=>EO e n
 have noA:∀{b:Addr} {o:Obj} {es:Array DictEntry} {ep:Nat},s₁.heap.get? b=Z o->o.data=.dict es ep->H b=Y:=λ{b o es ep} e d=>by
  cases q:H b with
  | none=>rfl
  | some u=>
   exfalso;rcases at_ b u q with⟨h1,_,_⟩|⟨_,h2,_⟩|⟨h1,_⟩
   ·subst h1;rw[ha] at e;cases e;have d':Data.seq vs.toArray _=Data.dict es ep:=d;cases d'
   ·rw[(L.tab b h2).1] at e;cases e;cases d
   ·subst h1;rw[L.bmh] at e;cases e;rw[L.bmc.2.2] at d;cases d
 have nsK:∀{b:Addr} {m:Str->Option Value},s₁.heap.Ns b m->(wW s₁.heap H).Ns b m:=λ{b m} ⟨o,es,ep,e,d,r⟩=>⟨o,es,ep,base_of e (noA e d),d,r⟩
 have hKb:K.In (wW s₁.heap H):=λb o e=>base_of (KX b o e) (by
  cases q:H b with
  | none=>rfl
  | some u=>
   exfalso;rcases at_ b u q with⟨h1,h2,_⟩|⟨_,h2,_⟩|⟨h1,_⟩
   ·subst h1;rw[h2] at e;cases e
   ·rw[(L.tab b h2).2.2] at e;cases e
   ·subst h1;rw[L.bml] at e;cases e)
 have hM:Mod K mg (wW s₁.heap H):=⟨hKb,nsK hns,⟨mb,nsK hb,hbb⟩,let ⟨mc,h1,h2⟩:=hlim;⟨mc,nsK h1,h2⟩⟩;have e0:uR P w K mg (wW s₁.heap H) callerA [] s₁ H:=⟨rfl,hM,λb o e=>JN e,Nat.le_of_eq (BM _ _),trivial,λb hb=>absurd (show b∈([]:List Addr) from hb) (by simp),hok,.of_eq hg⟩;refine codeAny_mono ((F _ hKb (nsK hns)).run callerA [] s₁ H ⟨[.ref a],[]⟩ [.ref a] [.ref a] _ _ hr e0 (hbind s₁ (.ref a)) (.cons rfl .nil) (hsp H tb hS)) λr s' h=>?_
 cases r with
 | error e=>exact(hCX H e s' h).elim
 | ok fl=>
  cases fl with
  | next=>exact False.elim h
  | brk=>exact False.elim h
  | cont=>exact False.elim h
  | ret u=>
   obtain⟨v,H',os,bare,un,hok',r',q⟩:=h;have q':v=.bl true:=q;subst q';obtain rfl:u=Value.bool true:=r';refine⟨rfl,⟨λb o e=>?_,λb o e=>?_⟩,os,bare⟩
   ·cases q:H b with
    | none=>exact .inl (un.keep b o e q (by intro z;exact absurd (show b∈([]:List Addr) from z) (by simp)) (by simp))
    | some u=>
     rcases at_ b u q with⟨h1,_,h3⟩|⟨_,h2,h3⟩|⟨h1,h3⟩
     ·subst h3;have z2:=un.frzs b _ _ q;obtain⟨e1,_⟩:=hok b _ q;obtain⟨e2,_⟩:=hok' b _ z2;rw[e] at e1;cases e1;exact .inl e2
     ·subst h3;obtain⟨more,z2⟩:=un.tbls b _ q;have e1:s₁.heap.get? b=Z {cls:=.none,data:=.fields #[]}:=hok b _ q;have e2:s'.heap.get? b=Z {cls:=.none,data:=.fields (#[]++more)}:=hok' b _ z2;rw[e] at e1;cases e1;exact .inr (.inl ⟨(L.tab b h2).2.1,rfl,#[],more,rfl,e2⟩)
     ·subst h3;have z2:=un.frzs b _ _ q;obtain⟨e1,_⟩:=hok b _ q;obtain⟨e2,_⟩:=hok' b _ z2;rw[e] at e1;cases e1;exact .inl e2
   ·exact un.there b o e (by simp)
def Kv {l:W.OpenLaw}{n k:Nat}{q:Program}{loose:List Str}{XP:(Str->Option Value)->Heap->Prop}{YP:World->Heap->Prop}{d:DefRec}{K:Params->W.Frag}{CX:World->BW}{sp:World->Sp}
  (hn:l.most=Z n) (hn2:n<=sizeLine) (hdf:d.params.defaults=[]) (hr:bM k callerA)
  (hY:∀(w:World) (h:Heap),YP w h->(K w.params).In h)
  (F:∀(w:World) (mg:Str->Option Value) (fa:Addr) (h:Heap),(K w.params).In h->h.Ns mainGlobals mg->mg d.name=Z (.ref fa)->
   ∃fd:FuncData,(∀(s:Shared) (u:Value),BindsTo s fd ⟨[u],[]⟩ [(x,u)])/\
    ∀base:Heap,(K w.params).In base->base.Ns mainGlobals mg->eB l.prog w (K w.params) mg base (CX w) k fa fd [x] (sp w))
  (tabs:∀w:World,∃(ls:List (Str×DefRec×Addr×Addr)) (bm:Addr),(∀p∈ls,(recsOf q).find? (λe=>e.name==p.1)=Z p.2.1/\W.tabIn (K w.params) p.1=Z (p.2.2.1,p.2.2.2)/\(K w.params).lookup p.2.2.2=Y)/\
   (∀y,y∈cN->W.nsIn (K w.params) mainGlobals y=Z Y\/∃p∈ls,p.1=y)/\W.nsIn (K w.params) mainGlobals "__builtins__"=Z (Z (.ref bm))/\(K w.params).lookup bm=Y)
  (hsp:∀(w:World) (H:Hp) (a:Addr) (ns:List Int),ns.length<=n->nF (K w.params) H->nj (K w.params) H a (ns.map V.int)->sp w [.ref a] H (λv _=>v=.bl true) λ_ _ _=>False)
  (hCX:∀(w:World) (H:Hp) (s:Shared) (e:Value) (s':Shared),CX w [] H s (λ_ _ _=>False) e s'->False) :
  W.WalkO q loose XP YP l.row.toRowW d [] (λf vs=>PySem.call f vs):=by
 refine Att.attach_call hn hdf λw s₀ s₁ mg mb fa o pm cd doc a vs ns G Y ho hd hcd hmg hobj hints hlen hg=>?_
 have KX:=hY w _ Y;obtain⟨fd,hb,hF⟩:=F w mg fa _ KX G.T.g hmg;obtain⟨ls,bm,hls,hnm,hbm,hbl⟩:=tabs w;obtain⟨bm',ob,b1,b2,b3,b4,b5,b6⟩:=G.T.bmain;have eb:bm'=bm:=by
  have:=W.mg_of KX G.T.g hbm;rw[b1] at this;cases this;rfl
 subst eb;have L:Ry (K w.params) s₁.heap (ls.map (·.2.2.2)) bm' ob:=by
  refine⟨λP hP=>?_,λy hy c P e=>?_,hbm,?_,?_,?_,hbl⟩
  ·obtain⟨p,hp,rfl⟩:=mem_map.mp hP;obtain⟨h1,h2,h3⟩:=hls p hp;obtain⟨c1,c2⟩:=W.tab_of G.T KX h1 h2;exact⟨c2,(c1.tab c2).isCodeTable,h3⟩
  ·rcases hnm y hy with q|⟨p,hp,q⟩
   ·unfold W.tabIn at e;rw[q] at e;cases e
   ·subst q;obtain⟨h1,h2,h3⟩:=hls p hp;rw[h2] at e;cases e;exact mem_map.mpr ⟨p,hp,rfl⟩
  ·exact b3
  ·exact⟨b4,b5,b6⟩
  ·refine⟨b2,λz=>?_⟩;obtain⟨o',es,ep,e1,e2,_⟩:=G.T.g;rw[<-z,b3] at e1;cases e1;rw[b6] at e2;cases e2
 exact BO KX G.T.g G.T.b G.T.builtins G.T.nolimit hg hobj hints (Nat.le_trans hlen hn2) hr L hF hb (λH hT hS=>hsp w H a ns hlen hT hS) λH e s'=>hCX w H s₁ e s'
def BB (q:Addr)(fd:FuncData):HO:=.ext λh=>h.get? q=Z {cls:=.type "function",data:=.func fd}
abbrev v4 (qual:Str)(params:Arguments)(body:Expr)(scope:Scope)(pm cv ctv:Value):FuncData:=W.kla_fn "<lambda>" qual params body scope [] pm cv ctv
variable{P:Program}{w:World}{H:Hp}
def Jf {c:Addr}{q:Str}(ok:mz P w H h)(e:H c=Z (jH c q)):h.CodeRec (.ref c) q:=(ok c _ e).1
variable{fd:FuncData}
def P4 {q:Addr}(ok:mz P w H h)(e:H q=Z (BB q fd)):h.get? q=Z {cls:=.type "function",data:=.func fd}:=(ok q _ e).1
def zf (k:Nat)(g:GE):FD:=λds M=>g (mI k ds) M
variable{base:Heap}{params:Arguments}{body:Expr}{scope:Scope}
def NO {qual:Str}{pm ctv:Value}{q c:Addr}{N ps:List Str}{k n:Nat}{g:GE}
  (S:ft N ps scope) (hn:ps.length=n)
  (hbody:∀(A:Around) (outer:List Env) (s:Shared) (H:Hp) (E:XK),bM k (A.deeper (envOfC qual scope s.heap.objs.size q (.ref c)))->
   PE (iy (iz P w) P w K mg base N qual scope q (.ref c) A outer s H E) body (tE (iy (iz P w) P w K mg base N qual scope q (.ref c) A outer s H E) g)) :
  eB P w K mg base (iz P w) (k+1) q (v4 qual params body scope pm (.ref c) ctv) ps (λvs H Q E=>H q=Z (BB q (v4 qual params body scope pm (.ref c) ctv))/\H c=Z (jH c qual)/\og K n (zf (N.length-n) g) vs H Q E):=by
 refine⟨λvs H Q E h=>oG hn vs H Q E h.2.2,λA outer s H args us vs Q E hr e0 hb r hsp=>?_⟩;obtain⟨hq,hc,hsp⟩:=hsp;have hl:vs.length=ps.length:=oG hn vs H Q E hsp;have lim:s.heap.NoLimit:=e0.mod.nolimit.keeps λb o e=>(e0.bs b o e).1
 have hkind:∀y∈ps.zip us,scope.names.lookup y.1=Z .local\/(scope.names.lookup y.1=Z .cell/\((cellsFrom (s.heap.objs.size+1) scope.names []).lookup y.1).isSome=true):=λ⟨m,v⟩ hy=>by
  rcases S.par m (of_mem_zip hy).1 with z|z
  ·exact .inl z
  ·exact .inr ⟨z,W.cellsFrom_some _ _ _ (.inl z)⟩
 refine W.kla_callFunE hr.depth (P4 e0.hok hq) rfl S.co S.gen rfl (Jf e0.hok hc) (hb _ _ _ _ ?_);refine wpAny_newFunctionEnv_cells S.kind hkind λenv he s1 x=>?_
 subst he;refine⟨lim.keeps x.toInCall.keep,W.kla_codeExpr ?_⟩;have I:L2.Inv (iy (iz P w) P w K mg base N qual scope q (.ref c) A outer s H E) [] (L2.start N vs) H s1:=vS S hr.hd e0 hl r x;obtain⟨θ,M,ds,hld,rd,hw,h⟩:=hsp;have hv:vs.length=n:=by rw[<-aA rd];exact hld
 refine wpAny_mono (hbody A outer s H E (hr.deeper _) [] s1 (L2.start N vs) H Q I ⟨mI (N.length-n) ds,θ,M,by rw[<-hv];exact Nh rd N,hw,?_⟩) (λu s' hs=>?_) λe s' hs=>hs
 ·have h:zR K θ H Q E (g (mI (N.length-n) ds) M):=h;cases q:g (mI (N.length-n) ds) M with
  | bad=>rw[q] at h;exact h
  | err c M1=>
   rw[q] at h;have h:FZ K θ H E c M1:=h;exact λC θ' H' a s' kC g1 fl=>nW fl (h C θ' H' a kC g1)
  | ok d M1=>rw[q] at h;exact h
 ·obtain⟨v,H',J,rv,q⟩:=hs;exact⟨v,H',J.os,J.bare,J.base,J.hok,rv,q⟩
structure yJ (K:W.Frag)(x:Str)(c P:Addr):Prop where
 mem:x∈cN
 tab:W.tabIn K x=Z (c,P)
 uniq:∀y,y∈cN->y≠x->∀c2,W.tabIn K y≠Z (c2,P)
 hd:∃o vs file tf flags tg inF text tt,K.lookup c=Z o/\o.cls=.type "code"/\o.data=.fields vs/\vs[11]?=Z (.ref P)/\vs.getD 11 .none=.ref P/\vs.getD 18 .none=.str file tf/\
  vs.getD 7 .none=.int flags tg/\vs.getD 9 .none=.bool inF/\vs.getD 10 .none=.int text tt/\c≠P
variable{pos:Pos}
def zM {a b:Int}{c cv:Value}(l:List Value)(h:TriplesOk l)(e:codeAmong pos (l++[rawInt a,rawInt b,c])=Z cv):codeAmong pos l=Z cv\/cv=c:=by
 fun_induction TriplesOk l with
 | case1=>
  simp only[nil_append,codeAmong,rawInt] at e;split at e
  ·exact .inr (Option.some.inj e).symm
  ·cases e
 | case2 a' t b' u x rest ih=>
  simp only[cons_append,codeAmong] at e ⊢;split at e
  ·rename_i hc;rw[if_pos hc];exact .inl e
  ·rename_i hc;rw[if_neg hc];exact ih h e
 | case3 l h1 h2=>exact h.elim
structure RW (X:Cx)(θ:List Addr)(H:Hp)(M:az)(qual:Str)(params:Arguments)(body:Expr)(scope:Scope)(u:Value)(H':Hp):Prop where
 ex:∃q c pm ctv,u=.ref q/\H q=Y/\H' q=Z (BB q (v4 qual params body scope pm (.ref c) ctv))/\H' c=Z (jH c qual)
 go:Go X.K θ H θ H' M
def zw {φ:Heap->Prop}(h1:φ h)(h2:∃o,h.get? a=Z o)(h3:∀h1 h2:Heap,φ h1->(∀o,h1.get? a=Z o->h2.get? a=Z o)->φ h2):cX P w H h a (.ext φ):=⟨h1,h2,h3⟩
variable{s:Shared}{θ:List Addr}
def Gc {X:Cx}{ag:List (Addr×Obj)}{σ:L2.St}{M:az}{c P:Addr}
  (I:L2.Inv X ag σ H s) (hw:Wr X.K θ H M) (T:yJ X.K x c P) (hcode:X.env.code=.ref c) (hglob:X.env.globals=mainGlobals) (hq:X.env.qual++("<lambda>":Str)=cz x)
  (hcl:closureFor scope X.env=pure []) (hd:defaultsOf params X.env=([],[])) :
  wpAny (model X.prog X.w) X.A (eval (.Lambda params body scope pos) X.env) (λu s'=>∃H',L2.Inv X ag σ H' s'/\RW X θ H M (cz x) params body scope u H') X.xe s:=by
 obtain⟨ps,hP,hT,hC⟩:=hw.tb.tab x T.mem c P T.tab;obtain⟨bm,ob,b1,b2,b3,b4,b5,b6,b7⟩:=hw.tb.bm x T.mem c P T.tab;have hPo:s.heap.get? P=Z (W.tabObj ps):=I.hok P _ hP;have CH:W.CodeHd s.heap c P:=by
  obtain⟨o,vs,file,tf,flags,tg,inF,text,tt,e,r⟩:=T.hd;exact⟨o,vs,file,tf,flags,tg,inF,text,tt,I.kIn _ _ e,r⟩
 have hbo:s.heap.get? bm=Z ob:=(I.hok bm _ b2).1;have hg:s.heap.Ns mainGlobals X.mg:=I.mod.glob.keeps I.bk;have hmgb:X.mg "__builtins__"=Z (.ref bm):=W.mg_of I.kIn hg b1;have nbP:bm≠P:=λz=>by rw[z,hP] at b2;cases b2
 have hb:s.heap.BuiltinsAt X.mg P:=⟨bm,ob,hmgb,b6,b7,nbP,hbo,b3,b4,b5⟩;have hgP:mainGlobals≠P:=λz=>by
  obtain⟨o,es,ep,e1,e2,_⟩:=hg;rw[z,hPo] at e1;cases e1;cases e2
 rw[arm_eval_Lambda,hd];refine wpAny_bind (wpAny_evalAll_nil ?_);refine wpAny_bind (wpAny_holding (wpAny_pure ?_));rw[hq];have neP:∀b u,H b=Z u->(∀ps,u≠.tbl ps)->b≠P:=λb u e n z=>by rw[z,hP] at e;cases e;exact n _ rfl
 cases hf:codeAmong pos ps.toList with
 | some cv=>
  obtain⟨c',rfl,hc'⟩:=hC pos cv hf;refine W.kla_makeFunctionHit hcl hglob hg hcode CH hPo hT hf hb λctv h' tk hk hz=>?_
  have nq:H h'.objs.size=Y:=I.hok.fresh hz;have nec:c'≠h'.objs.size:=λz=>by rw[<-z,hc'] at nq;cases nq
  refine⟨cx H h'.objs.size (BB h'.objs.size _),I.laid (t':=tk) (λb o e=>Heap.get?_push_of_some _ (hk b o e)) hz (zw (Heap.get?_push_size _ rfl) ⟨_,Heap.get?_push_size _ rfl⟩ λh1 h2 e k=>k _ e),⟨_,c',_,ctv,rfl,nq,bJ,by rw[aB nec];exact hc'⟩,dX hw nq⟩
 | none=>
  refine W.kla_makeFunction hcl hglob hg hcode CH hPo hT hf hgP hb λc' ctv h' tk hx hge hlt hrec htab=>?_
  have szle:s.heap.objs.size<=h'.objs.size:=Nat.le_of_lt (Nat.lt_of_le_of_lt hge hlt);have nq:H h'.objs.size=Y:=I.hok.fresh szle;have nc:H c'=Y:=I.hok.fresh hge;have ncq:c'≠h'.objs.size:=Nat.ne_of_lt hlt;have nPc:P≠c':=λz=>by rw[<-z,hP] at nc;cases nc
  have nPq:P≠h'.objs.size:=λz=>by rw[<-z,hP] at nq;cases nq
  let fd:FuncData:=v4 (cz x) params body scope ((X.mg "__name__").getD .none) (.ref c') ctv
  let H':Hp:=cx (cx (cx H P (.tbl (ps++#[rawInt pos.line,rawInt pos.col,.ref c']))) c' (jH c' (cz x))) h'.objs.size (BB h'.objs.size fd)
  have atq:H' h'.objs.size=Z (BB h'.objs.size fd):=bJ;have atc:H' c'=Z (jH c' (cz x)):=by show cx _ _ _ c'=_;rw[aB ncq,bJ]
  have atP:H' P=Z (.tbl (ps++#[rawInt pos.line,rawInt pos.col,.ref c'])):=by show cx _ _ _ P=_;rw[aB nPq,aB nPc,bJ]
  have atb:∀b u,H b=Z u->b≠P->H' b=Z u:=λb u e n=>by
   have n1:b≠h'.objs.size:=λz=>by rw[z,nq] at e;cases e
   have n2:b≠c':=λz=>by rw[z,nc] at e;cases e
   show cx _ _ _ b=_;rw[aB n1,aB n2,aB n];exact e
  have kp:∀b o,b≠P->s.heap.get? b=Z o->(h'.push (W.kla_obj "<lambda>" (cz x) params body scope [] ((X.mg "__name__").getD .none) c' ctv)).get? b=Z o:=λb o n e=>Heap.get?_push_of_some _ (hx b o n e)
  have un:Un X.fs [] H H' s.heap (h'.push (W.kla_obj "<lambda>" (cz x) params body scope [] ((X.mg "__name__").getD .none) c' ctv)):=by
   have ne:∀b o,s.heap.get? b=Z o->H b=Y->b≠P:=λb o _ n z=>by rw[z,hP] at n;cases n
   refine⟨λb o e n _ _=>kp b o (ne b o e n) e,λb o e n _ _=>⟨o.slots,kp b o (ne b o e n) e⟩,λb o e n _=>?_,λb o e _=>?_,λb xs e=>atb b _ e (neP b _ e (by intro _ z;cases z)),λb o u e=>atb b _ e (neP b _ e (by intro _ z;cases z)),λb qs e=>?_⟩
   ·have n1:b≠h'.objs.size:=Nat.ne_of_lt (Nat.lt_of_lt_of_le (Heap.lt_size e) szle);have n2:b≠c':=Nat.ne_of_lt (Nat.lt_of_lt_of_le (Heap.lt_size e) hge);show cx _ _ _ b=_;rw[aB n1,aB n2,aB (ne b o e n)];exact n
   ·by_cases hb:b=P
    ·exact⟨_,by rw[hb];exact Heap.get?_push_of_some _ htab⟩
    ·exact⟨o,kp b o hb e⟩
   ·by_cases hb:b=P
    ·subst hb;rw[hP] at e;cases e;exact⟨_,atP⟩
    ·exact⟨#[],by rw[atb b _ e hb];simp⟩
  have hok:mz X.prog X.w H' (h'.push (W.kla_obj "<lambda>" (cz x) params body scope [] ((X.mg "__name__").getD .none) c' ctv)):=λb u e=>by
   by_cases h1:b=h'.objs.size
   ·subst h1;rw[atq] at e;cases e;exact zw (Heap.get?_push_size _ rfl) ⟨_,Heap.get?_push_size _ rfl⟩ λh1 h2 e k=>k _ e
   ·by_cases h2:b=c'
    ·subst h2;rw[atc] at e;cases e;refine zw (hrec.keeps λb o e=>Heap.get?_push_of_some _ e) ?_ λh1 h2 e k=>e.at k
     obtain⟨c2,o,vs,t,e1,e2,_⟩:=hrec;cases e1;exact⟨o,Heap.get?_push_of_some _ e2⟩
    ·by_cases h3:b=P
     ·subst h3;rw[atP] at e;cases e;exact Heap.get?_push_of_some _ htab
     ·have e:cx (cx (cx H P _) c' _) h'.objs.size _ b=Z u:=e;rw[aB h1,aB h2,aB h3] at e;refine(I.hok b u e).stay (λb' v hb' z=>kp b' v ?_ z) (λb' z=>atb b' _ z (neP b' _ z (by intro _ y;cases y))) λb' xs z=>atb b' _ z (neP b' _ z (by intro _ y;cases y))
      rcases hb' with z|z
      ·rw[z];exact h3
      ·exact neP b' _ z (by intro _ y;cases y)
  refine⟨H',I.un (t':=tk) un hok,⟨h'.objs.size,c',_,ctv,rfl,nq,atq,atc⟩,?_⟩;have gr:Grow θ H θ H':=⟨⟨[],by simp,λ_ z=>by cases z⟩,λb u e _ n=>atb b u e (neP b u e n),λb qs e=>by
   by_cases hb:b=P
   ·rw[hb];exact⟨_,atP⟩
   ·exact⟨qs,atb b _ e hb⟩⟩
  refine⟨gr,hw.len,hw.nd,λi a m h1 h2=>?_,?_,?_⟩
  ·have ok:=hw.at_ i a m h1 h2;obtain⟨o,eo,po⟩:=ok.plain;have e:H' a=H a:=by
    rw[eo];exact atb a o eo (neP a o eo (by intro qs z;subst z;cases po))
   exact ok.grow gr e
  ·intro y hy c2 P2 e2;obtain⟨qs,q1,q2,q3⟩:=hw.tb.tab y hy c2 P2 e2
   by_cases hPP:P2=P
   ·have hyx:y=x:=by
     refine Classical.byContradiction λz=>?_
     rw[hPP] at e2;exact T.uniq y hy z c2 e2
    subst hyx hPP;rw[hP] at q1;cases q1;refine⟨_,atP,?_,λpos' cv z=>?_⟩
    ·rw[Array.toList_append];exact TriplesOk_snoc _ _ _ _ q2
    ·rw[Array.toList_append] at z;rcases zM _ q2 z with z|z
     ·obtain⟨c3,e3,e4⟩:=q3 pos' cv z;exact⟨c3,e3,atb c3 _ e4 (neP c3 _ e4 (by intro _ y;cases y))⟩
     ·exact⟨c',z,atc⟩
   ·refine⟨qs,atb P2 _ q1 hPP,q2,λpos' cv z=>?_⟩;obtain⟨c3,e3,e4⟩:=q3 pos' cv z;exact⟨c3,e3,atb c3 _ e4 (neP c3 _ e4 (by intro _ y;cases y))⟩
  ·intro y hy c2 P2 e2;obtain⟨bm2,ob2,z1,z2,r⟩:=hw.tb.bm y hy c2 P2 e2;exact⟨bm2,ob2,z1,atb bm2 _ z2 (neP bm2 _ z2 (by intro _ y;cases y)),r⟩
def rZ:List D->Option (List Int)
 | []=>Z []
 | .int i::r=>(rZ r).map (i::·)
 | _=>Y
def qU:D->Option (List Int)
 | .tup ds=>rZ ds
 | _=>Y
theorem ye {K:W.Frag}{θ:List Addr}{H:Hp}:∀{ds:List D} {ks:List Int} {vs:List V},rZ ds=Z ks->bt K θ H ds vs->vs=ks.map V.int
 | [],ks,vs,h,r=>by cases h;exact r
 | d::ds,ks,vs,h,r=>by
  obtain⟨v,rr,e,h1,h2⟩:=r;cases d with
  | int i=>
   cases q:rZ ds with
   | none=>simp[rZ,q] at h
   | some l=>
    simp[rZ,q] at h;subst h;have h1:v=.int i:=h1;rw[e,h1,ye q h2];rfl
  | _=>cases h
def tw {d:D}{ks:List Int}{v:V}(h:qU d=Z ks)(r:dC K θ H d v):∃a,v=.ref a/\ou K θ H a (ks.map V.int):=by
 cases d with
 | tup ds=>
  obtain⟨a,vs,e,t,rs⟩:=r;have:=ye (show rZ ds=Z ks from h) rs;subst this;exact⟨a,e,t⟩
 | _=>cases h
def qN (F:FD):List D->D->List Int->az->aX D
 | [],b,_,M=>.ok b M
 | d::r,b,kb,M=>match F [d] M with
  | .ok k M1=>match qU k with
   | some ks=>if HT.lexLt ks kb then qN F r d ks M1 else qN F r b kb M1
   | none=>.bad
  | _=>.bad
def pV (F:FD)(ds:List D)(M:az):aX D:=match ds with
 | []=>.bad
 | d::r=>match F [d] M with
  | .ok k M1=>match qU k with
   | some ks=>qN F r d ks M1
   | none=>.bad
  | _=>.bad
variable{Q:VK}{ds0:List D}
section
variable {X:Cx}{ag:List (Addr×Obj)}{σ:L2.St}{q c:Addr}{fd:FuncData}{px qual:Str}{k:Nat}{F:FD}
def yr {u:Value}{v:V}{E:Value->Shared->Prop}{M M1:az}{d kd:D}
  (Fn:eB X.prog X.w X.K X.mg X.base (iz X.prog X.w) k q fd [px] (λvs H Q E=>H q=Z (BB q fd)/\H c=Z (jH c qual)/\og X.K 1 F vs H Q E)) (hr:bM k X.A.in1) (hb:∀(s:Shared) (u:Value),BindsTo s fd ⟨[u],[]⟩ [(px,u)])
  (I:L2.Inv X ag σ H s) (hq:H q=Z (BB q fd)) (hc:H c=Z (jH c qual)) (hw:Wr X.K θ H M) (rv:RelV v u) (rd:dC X.K θ H d v) (e:F [d] M=.ok kd M1)
  (hQ:∀v' θ' H',Go X.K θ H θ' H' M1->dC X.K θ' H' kd v'->Q v' H'):wpAny (model X.prog X.w) X.A.in1 (call (.ref q) [u]) (EP X ag σ Q) E s:=by
 refine wpAny_call (codeAny_mono (Fn.run X.A.in1 X.stack s H ⟨[u],[]⟩ [u] [v] Q (λ_ _ _=>False) hr I.env0.in1 (hb s u) (.cons rv .nil) ⟨hq,hc,θ,M,[d],rfl,⟨v,[],rfl,rd,rfl⟩,hw,by rw[e];exact hQ⟩) λr s' hq=>?_);cases r with
 | error e=>
  have hq:iz X.prog X.w X.stack H s (λ_ _ _=>False) e s':=hq;obtain⟨_,_,_,_,_,_,_,_,_,_,_,_,_,_,z⟩:=hq;exact z.elim
 | ok fl=>
  cases fl with
  | ret u=>exact I.after hq
  | next=>exact False.elim hq
  | brk=>exact False.elim hq
  | cont=>exact False.elim hq
def Bp {H':Hp}{b:Addr}(h:ky X ag H b)(n:H' b=Y):ky X ag H' b:=⟨n,h.2⟩
def P7 {b:Addr}{oa ob:Obj}(I:L2.Inv X ag σ H s)(fa:ky X ag H a)(fb:ky X ag H b)(ea:s.heap.get? a=Z oa)(eb:s.heap.get? b=Z ob)(da:∀v,oa.data≠.cell v)(db:∀v,ob.data≠.cell v) :
  L2.Inv X (ag++[(a,oa),(b,ob)]) σ H s:=I.pins_of λp hp=>by
 rcases mem_append.mp hp with z|z
 ·exact I.pin p (mem_append_right _ z)
 ·simp only[mem_cons,mem_nil_iff,or_false] at z;rcases z with z|z <;> subst z
  ·exact⟨ea,fa.1,fa.2.1,fa.2.2.1,da⟩
  ·exact⟨eb,fb.1,fb.2.1,fb.2.2.1,db⟩
def Gz {b:Addr}{oa ob:Obj}(I:L2.Inv X (ag++[(a,oa),(b,ob)]) σ H s):L2.Inv X ag σ H s/\(s.heap.get? a=Z oa/\H a=Y)/\(s.heap.get? b=Z ob/\H b=Y):=by
 have p1:=I.pin (a,oa) (mem_append_right _ (mem_append_right _ (by simp)));have p2:=I.pin (b,ob) (mem_append_right _ (mem_append_right _ (by simp)));exact⟨I.unpinned,⟨p1.1,p1.2.1⟩,p2.1,p2.2.1⟩
def Dq {l it S:Addr}{R:Result->Shared->Prop}
  (Fn:eB X.prog X.w X.K X.mg X.base (iz X.prog X.w) k q fd [px] (λvs H Q E=>H q=Z (BB q fd)/\H c=Z (jH c qual)/\og X.K 1 F vs H Q E)) (hr:bM (k+1) X.A) (hb:∀(s:Shared) (u:Value),BindsTo s fd ⟨[u],[]⟩ [(px,u)]) (hcalm:X.calm=true)
  (hnI:S≠it) (hR:∀u s',EP X ag σ Q u s'->R (.ok (.ret u)) s') :
  ∀(rest:List D) (j:Nat) (s:Shared) (H:Hp) (θ:List Addr) (M:az) (b:D) (kb:List Int) (vb ukb:V) (ub ukv:Value) (n:Nat) (vs:List V),ds0.drop j=rest->L2.Inv X ag σ H s->ky X ag H it->ky X ag H S->s.heap.IsListIter it l j->s.heap.get? S=Z (seqObj "list" #[ub,ukv] n)->
   Wr X.K θ H M->uU X.K θ H l vs->bt X.K θ H ds0 vs->H q=Z (BB q fd)->H c=Z (jH c qual)->dC X.K θ H b vb->RelV vb ub->(∃a,ukb=.ref a/\ou X.K θ H a (kb.map V.int))->RelV ukb ukv->aM X θ H Q (qN F rest b kb M)->
   codeAny (model X.prog X.w) X.A (.builtin "min.loop" ⟨[.ref it,.ref q,.ref S],[]⟩) R s:=by
 have hname:(toString "min"++toString ".loop":String)="min.loop":=by decide
 have hr1:bM k X.A.in1:=hr.in1;intro rest
 induction rest with
 | nil=>
  intro j s H θ M b kb vb ukb ub ukv n vs hd I fi fS st eS hw ta r hq hc rb rvb rk rvk h;refine codeAny_builtin PySem.F.entry_min_loop ?_;rw[Around.under_plainId PySem.F.plain_min_loop _];show wpAny _ X.A.in1 (seqItems? (.ref S) >>= _) _ _ _;refine wpAny_bind (wpAny_seqItems eS rfl ?_);obtain⟨its,rv,p,hz⟩:=I.list ta.sq;have hlen:vs.length<=j:=by rw[<-aA r];exact drop_eq_nil_iff.mp hd
  have hl:=rv.length;show wpAny _ X.A.in1 (tryCatch (pyNext (.ref it)) _ >>= _) _ _ _;refine wpAny_bind (wpAny_tryCatch (wpAny_pyNext_list_end (show X.A.in1.handled=Y from I.ok.hd hcalm) st p.isList (by simp;omega) λh' eb=>?_));have I1:L2.Inv X ag σ H {s with heap:=h'}:=I.turned (t':=s.toks) (λb o hb e=>eb b o hb e) fi.1 fi.2.1 fi.2.2.2.1 fi.2.2.2.2.1 fi.2.2.2.2.2;have eS':h'.get? S=Z (seqObj "list" #[ub,ukv] n):=eb S _ hnI eS;show wpAny _ X.A.in1 (updateSeq S (λ_=>#[]) >>= _) _ _ _;refine wpAny_bind (wpAny_updateSeq eS' rfl (wpAny_bind (wpAny_letGo (wpAny_pure ?_))));have I2:L2.Inv X ag σ H {s with heap:=h'.update S (Obj.mapSeq λ_=>#[])}:=I1.turned (t':=s.toks) (λb o hb e=>(Heap.get?_update_other h' _ (Ne.symm hb)).trans e) fS.1 fS.2.1 fS.2.2.2.1 fS.2.2.2.2.1 fS.2.2.2.2.2;exact hR ub _ ⟨vb,H,I2,rvb,h vb θ H (.refl hw) rb⟩
 | cons d rest ih=>
  intro j s H θ M b kb vb ukb ub ukv n vs hd I fi fS st eS hw ta r hq hc rb rvb rk rvk h;have hj:ds0[j]?=Z d:=by
   have:=congrArg (·[0]?) hd;simpa using this
  have hd':ds0.drop (j+1)=rest:=by
   rw[<-drop_drop,hd];rfl
  obtain⟨v,ev,rdv⟩:=gQ r hj;refine codeAny_builtin PySem.F.entry_min_loop ?_;rw[Around.under_plainId PySem.F.plain_min_loop _];show wpAny _ X.A.in1 (seqItems? (.ref S) >>= _) _ _ _;refine wpAny_bind (wpAny_seqItems eS rfl ?_);obtain⟨its,rv,p,hz⟩:=I.list ta.sq;obtain⟨u,eu,ru⟩:=rv.get ev;show wpAny _ X.A.in1 (tryCatch (pyNext (.ref it)) _ >>= _) _ _ _;refine wpAny_bind (wpAny_tryCatch (wpAny_pyNext_list_item st p.isList (x:=u) (by simpa using eu) λh' st' sb=>?_));have I1:L2.Inv X ag σ H {s with heap:=h'}:=I.turned (t':=s.toks) (λb o hb e=>(sb.2 b hb).trans e) fi.1 fi.2.1 fi.2.2.2.1 fi.2.2.2.2.1 fi.2.2.2.2.2;have eS1:h'.get? S=Z (seqObj "list" #[ub,ukv] n):=(sb.2 S hnI).trans eS;obtain⟨oI,hoI,cI,dI⟩:=id st';have I1p:=P7 I1 fS fi eS1 hoI (by intro v z;cases z) (by intro v z;rw[dI] at z;cases z);unfold qN at h;cases eF:F [d] M with
  | bad=>rw[eF] at h;exact h.elim
  | err _ _=>rw[eF] at h;exact h.elim
  | ok kd M1=>
   rw[eF] at h;dsimp only at h;cases eK:qU kd with
   | none=>rw[eK] at h;exact h.elim
   | some ks=>
    rw[eK] at h;dsimp only at h;show wpAny _ X.A.in1 (tryCatch (holding [u] (call (.ref q) [u])) _ >>= _) _ _ _;refine wpAny_bind (wpAny_tryCatch (wpAny_holding (cK (yr (Q:=λv' H'=>∃θ',Go X.K θ H θ' H' M1/\dC X.K θ' H' kd v') Fn hr1 hb I1p hq hc hw ru rdv eF λv' θ' H' g rd=>⟨θ',g,rd⟩) λuk s2 hxx=>?_)));obtain⟨vk,H2,I2p,rvk2,θ2,g2,rk2⟩:=hxx;obtain⟨I2,⟨eS2,nS2⟩,eI2,nI2⟩:=Gz I2p;have fS2:=Bp fS nS2;have fi2:=Bp fi nI2;have BZ:s2.heap.IsListIter it l (j+1):=⟨oI,eI2,cI,dI⟩;obtain⟨ak,eak,tk2⟩:=tw eK rk2;obtain⟨ab,eab,tb2⟩:=rk;have tb2:=tb2.grow g2.toGrow;subst eak eab;have ek:uk=.ref ak:=rvk2;have eb':ukv=.ref ab:=rvk;subst ek eb';obtain⟨i1,r1,p1,_⟩:=I2.tuple tk2.sq;obtain⟨i2,r2,p2,_⟩:=I2.tuple tb2.sq;have hq2:H2 q=Z (BB q fd):=g2.keep q _ hq (λz=>by
     obtain⟨i,hi,e⟩:=mem_iff_getElem.mp z;obtain⟨o,eo,po⟩:=hw.plain (i:=i) (by rw[getElem?_eq_getElem hi,e]);rw[hq] at eo;cases eo;cases po) (by intro _ z;cases z)
    have hc2:H2 c=Z (jH c qual):=g2.keep c _ hc (λz=>by
     obtain⟨i,hi,e⟩:=mem_iff_getElem.mp z;obtain⟨o,eo,po⟩:=hw.plain (i:=i) (by rw[getElem?_eq_getElem hi,e]);rw[hc] at eo;cases eo;cases po) (by intro _ z;cases z)
    have h2:=aM.go g2 h;show wpAny _ X.A.in1 (tryCatch (holding [u,.ref ak] (richCompare .Lt (.ref ak) (.ref ab) >>= _)) _ >>= _) _ _ _;refine wpAny_bind (wpAny_tryCatch (wpAny_holding (wpAny_bind (HT.lt_tupInts p1 p2 (nZ r1) (nZ r2) hr1.units0 ?_))));refine wpAny_bind (wpAny_holding (wpAny_truthy_bool ?_));refine wpAny_bind (wpAny_letGo (wpAny_pure ?_))
    by_cases hlt:HT.lexLt ks kb=true
    ·rw[if_pos hlt] at h2;simp only[hlt,if_true];refine wpAny_bind (wpAny_updateSeq eS2 rfl (wpAny_bind (wpAny_letGo ?_)));rw[hname];obtain⟨n3,eS3⟩:∃n3,(s2.heap.update S (Obj.mapSeq λ_=>#[u,.ref ak])).get? S=Z (seqObj "list" #[u,.ref ak] n3):=⟨_,get?_update_seq eS2 λ_=>#[u,.ref ak]⟩;have kp:∀b o,b≠S->s2.heap.get? b=Z o->(s2.heap.update S (Obj.mapSeq λ_=>#[u,.ref ak])).get? b=Z o:=λb o hb e=>(Heap.get?_update_other s2.heap _ (Ne.symm hb)).trans e
     have I3:L2.Inv X ag σ H2 {s2 with heap:=s2.heap.update S (Obj.mapSeq λ_=>#[u,.ref ak])}:=I2.turned (t':=s2.toks) kp fS2.1 fS2.2.1 fS2.2.2.2.1 fS2.2.2.2.2.1 fS2.2.2.2.2.2;exact wpAny_pure ⟨plainId_quiet PySem.F.plain_min_loop _,ih (j+1) _ H2 θ2 M1 d ks v _ u (.ref ak) n3 vs hd' I3 fi2 fS2 ⟨oI,kp it oI (Ne.symm hnI) eI2,cI,dI⟩ eS3 g2.wr (ta.grow g2.toGrow) (r.go g2) hq2 hc2 (rdv.go g2) ru ⟨ak,rfl,tk2⟩ rfl h2⟩
    ·have hlt':HT.lexLt ks kb=false:=by simpa using hlt
     rw[if_neg hlt] at h2;simp only[hlt',Bool.false_eq_true,if_false];refine wpAny_bind (wpAny_letGo ?_);rw[hname];exact wpAny_pure ⟨plainId_quiet PySem.F.plain_min_loop _,ih (j+1) s2 H2 θ2 M1 b kb vb _ ub (.ref ab) n vs hd' I2 fi2 fS2 BZ eS2 g2.wr (ta.grow g2.toGrow) (r.go g2) hq2 hc2 (rb.go g2) rvb ⟨ab,rfl,tb2⟩ rfl h2⟩
end
section
variable {X:Cx}{ag:List (Addr×Obj)}{σ:L2.St}{q c:Addr}{fd:FuncData}{px qual:Str}{k:Nat}{F:FD}
def D8 {l:Addr}{M:az}{vs:List V}
  (Fn:eB X.prog X.w X.K X.mg X.base (iz X.prog X.w) k q fd [px] (λvs H Q E=>H q=Z (BB q fd)/\H c=Z (jH c qual)/\og X.K 1 F vs H Q E)) (hr:bM (k+1) X.A) (hb:∀(s:Shared) (u:Value),BindsTo s fd ⟨[u],[]⟩ [(px,u)]) (hcalm:X.calm=true)
  (I:L2.Inv X ag σ H s) (hw:Wr X.K θ H M) (ta:uU X.K θ H l vs) (r:bt X.K θ H ds0 vs) (hq:H q=Z (BB q fd)) (hc:H c=Z (jH c qual)) (h:aM X θ H Q (pV F ds0 M)) :
  wpAny (model X.prog X.w) X.A (call (.builtin "min") [.ref l] [(Str.ofString "key",.ref q)]) (EP X ag σ Q) X.xe s:=by
 have hname:(toString "min"++toString ".loop":String)="min.loop":=by decide
 have hr1:bM k X.A.in1:=hr.in1;cases ds0 with
 | nil=>exact h.elim
 | cons d rest=>
  unfold pV at h;dsimp only at h;cases eF:F [d] M with
  | bad=>rw[eF] at h;exact h.elim
  | err _ _=>rw[eF] at h;exact h.elim
  | ok kd M1=>
   rw[eF] at h;dsimp only at h;cases eK:qU kd with
   | none=>rw[eK] at h;exact h.elim
   | some ks=>
    rw[eK] at h;dsimp only at h;obtain⟨v,ev,rdv⟩:=gQ (i:=0) r rfl;obtain⟨its,rv,p,hz⟩:=I.list ta.sq;obtain⟨u,eu,ru⟩:=rv.get ev;refine kmk_tree PySem.F.kind_min PySem.F.plain_min PySem.F.entry_min (kmk_min_key _ _) ?_;show wpAny _ X.A.in1 (Builtin.Builtins.bindParams "min" ["key","default"] 0 ⟨[],[(Str.ofString "key",.ref q)]⟩ >>= _) _ _ s;refine wpAny_bind (wpAny_of_eq (show Builtin.Builtins.bindParams "min" ["key","default"] 0 ⟨[],[(Str.ofString "key",.ref q)]⟩=pure [Z (.ref q),Y] from rfl) ?_);refine wpAny_bind (wpAny_pure ?_);refine wpAny_bind (wpAny_pyIter_list p.isList ?_);refine wpAny_bind (wpAny_newList ?_ (Nat.zero_le _));rw[hname];have hS:(s.heap.push {cls:=.type "list_iterator",data:=.fields #[.ref l,.int 0 0]}).objs.size=s.heap.objs.size+1:=size_push' ..;have fi:ky X ag H s.heap.objs.size:=I.fpOk (Nat.le_refl _) (I.hok.fresh (Nat.le_refl _));have leS:s.heap.objs.size<=(s.heap.push {cls:=.type "list_iterator",data:=.fields #[.ref l,.int 0 0]}).objs.size:=by rw[hS];exact Nat.le_succ _
    have fS:ky X ag H (s.heap.push {cls:=.type "list_iterator",data:=.fields #[.ref l,.int 0 0]}).objs.size:=I.fpOk leS (I.hok.fresh leS);have hnI:(s.heap.push {cls:=.type "list_iterator",data:=.fields #[.ref l,.int 0 0]}).objs.size≠s.heap.objs.size:=by rw[hS];exact Nat.ne_of_gt (Nat.lt_succ_self _)
    have gI:((s.heap.push {cls:=.type "list_iterator",data:=.fields #[.ref l,.int 0 0]}).push (seqObj "list" #[] 0)).get? s.heap.objs.size=Z {cls:=.type "list_iterator",data:=.fields #[.ref l,.int 0 0]}:=Heap.get?_push_of_some _ (Heap.get?_push_size _ rfl);have gS:((s.heap.push {cls:=.type "list_iterator",data:=.fields #[.ref l,.int 0 0]}).push (seqObj "list" #[] 0)).get? (s.heap.push {cls:=.type "list_iterator",data:=.fields #[.ref l,.int 0 0]}).objs.size=Z (seqObj "list" #[] 0):=Heap.get?_push_size _ rfl;have I0:L2.Inv X ag σ H {s with heap:=(s.heap.push {cls:=.type "list_iterator",data:=.fields #[.ref l,.int 0 0]}).push (seqObj "list" #[] 0)}:=I.kept (t':=s.toks) λb o e=>Heap.get?_push_of_some _ (Heap.get?_push_of_some _ e)
    generalize (s.heap.push {cls:=.type "list_iterator",data:=.fields #[.ref l,.int 0 0]}).objs.size=S at *;generalize hit:s.heap.objs.size=it at *;refine wpAny_pure ⟨plainId_quiet PySem.F.plain_min_loop _,?_⟩;refine codeAny_builtin PySem.F.entry_min_loop ?_;rw[Around.under_plainId PySem.F.plain_min_loop _];show wpAny _ X.A.in1 (seqItems? (.ref S) >>= _) _ _ _;refine wpAny_bind (wpAny_seqItems gS rfl ?_);obtain⟨its',rv',p',hz'⟩:=I0.list ta.sq;obtain⟨u',eu',ru'⟩:=rv'.get ev;show wpAny _ X.A.in1 (tryCatch (pyNext (.ref it)) _ >>= _) _ _ _;refine wpAny_bind (wpAny_tryCatch (wpAny_pyNext_list_item (i:=0) ⟨_,gI,rfl,rfl⟩ p'.isList (x:=u') (by simpa using eu') λh' st' sb=>?_));have I1:L2.Inv X ag σ H {s with heap:=h'}:=I0.turned (t':=s.toks) (λb o hb e=>(sb.2 b hb).trans e) fi.1 fi.2.1 fi.2.2.2.1 fi.2.2.2.2.1 fi.2.2.2.2.2;have eS1:h'.get? S=Z (seqObj "list" #[] 0):=(sb.2 S hnI).trans gS;obtain⟨oI,hoI,cI,dI⟩:=id st';have I1p:=P7 I1 fS fi eS1 hoI (by intro v z;cases z) (by intro v z;rw[dI] at z;cases z);show wpAny _ X.A.in1 (tryCatch (holding [u'] (call (.ref q) [u'])) _ >>= _) _ _ _;refine wpAny_bind (wpAny_tryCatch (wpAny_holding (cK (yr (Q:=λv' H'=>∃θ',Go X.K θ H θ' H' M1/\dC X.K θ' H' kd v') Fn hr1 hb I1p hq hc hw ru' rdv eF λv' θ' H' g rd=>⟨θ',g,rd⟩) λuk s2 hxx=>?_)));obtain⟨vk,H2,I2p,rvk2,θ2,g2,rk2⟩:=hxx;obtain⟨I2,⟨eS2,nS2⟩,eI2,nI2⟩:=Gz I2p;have fS2:=Bp fS nS2;have fi2:=Bp fi nI2;obtain⟨ak,eak,tk2⟩:=tw eK rk2;have notin:∀(a:Addr) (φ:Heap->Prop),H a=Z (.ext φ)->a∉θ:=λa φ e z=>by
     obtain⟨i,hi,e'⟩:=mem_iff_getElem.mp z;obtain⟨o,eo,po⟩:=hw.plain (i:=i) (by rw[getElem?_eq_getElem hi,e']);rw[e] at eo;cases eo;cases po
    have hq2:H2 q=Z (BB q fd):=g2.keep q _ hq (notin q _ hq) (by intro _ z;cases z);have hc2:H2 c=Z (jH c qual):=g2.keep c _ hc (notin c _ hc) (by intro _ z;cases z);have h2:=aM.go g2 h;refine wpAny_bind ?_;show wpAny _ X.A.in1 (updateSeq S (λ_=>#[u',uk])) _ _ _;refine wpAny_updateSeq eS2 rfl ?_;rw[hname];obtain⟨n3,eS3⟩:∃n3,(s2.heap.update S (Obj.mapSeq λ_=>#[u',uk])).get? S=Z (seqObj "list" #[u',uk] n3):=⟨_,get?_update_seq eS2 λ_=>#[u',uk]⟩;have kp:∀b o,b≠S->s2.heap.get? b=Z o->(s2.heap.update S (Obj.mapSeq λ_=>#[u',uk])).get? b=Z o:=λb o hb e=>(Heap.get?_update_other s2.heap _ (Ne.symm hb)).trans e
    have I3:L2.Inv X ag σ H2 {s2 with heap:=s2.heap.update S (Obj.mapSeq λ_=>#[u',uk])}:=I2.turned (t':=s2.toks) kp fS2.1 fS2.2.1 fS2.2.2.2.1 fS2.2.2.2.2.1 fS2.2.2.2.2.2;exact wpAny_pure ⟨plainId_quiet PySem.F.plain_min_loop _,Dq (ds0:=d::rest) Fn hr hb hcalm hnI (λu s' e=>e) rest 1 _ H2 θ2 M1 d ks v vk u' uk n3 vs rfl I3 fi2 fS2 ⟨oI,kp it oI (Ne.symm hnI) eI2,cI,dI⟩ eS3 g2.wr (ta.grow g2.toGrow) (r.go g2) hq2 hc2 (rdv.go g2) ru' ⟨ak,eak,tk2⟩ rvk2 h2⟩
end
def ow (F:FD)(g:GE):GE:=λρ M=>(g ρ M).bind λd M1=>match d with
 | .lst ds=>pV F ds M1
 | .ro ds=>pV F ds M1
 | _=>.bad
def HE {X:Cx}{px:Str}{c P:Addr}{e:Expr}{g gb:GE}{p lpos kpos:Pos}{k:Nat}{N:List Str}
  (T:yJ X.K x c P) (hr:bM (k+2) X.A) (hg:Gl X "min") (hm:X.mg "min"=Y) (hv:bootBuiltins "min"=Z (.builtin "min")) (he:PE X e (tE X g)) (hcode:X.env.code=.ref c) (hglob:X.env.globals=mainGlobals) (hq:X.env.qual++("<lambda>":Str)=cz x)
  (hcl:closureFor scope X.env=pure []) (hd:defaultsOf params X.env=([],[])) (hcalm:X.calm=true) (S:ft N [px] scope)
  (hbody:∀(q c':Addr) (A:Around) (outer:List Env) (s:Shared) (H:Hp) (E:XK),bM k (A.deeper (envOfC (cz x) scope s.heap.objs.size q (.ref c')))->
   PE (iy (iz X.prog X.w) X.prog X.w X.K X.mg X.base N (cz x) scope q (.ref c') A outer s H E) body (tE (iy (iz X.prog X.w) X.prog X.w X.K X.mg X.base N (cz x) scope q (.ref c') A outer s H E) gb))
  (hb:∀(pm cv ctv:Value) (s:Shared) (u:Value),BindsTo s (v4 (cz x) params body scope pm cv ctv) ⟨[u],[]⟩ [(px,u)]) (h1:aW e=true) :
  PE X (.Call (.Name "min" p) [e] [⟨Z "key",.Lambda params body scope lpos,kpos⟩] pos) (tE X (ow (zf (N.length-1) gb) g)):=by
 intro ag s σ H Q I h;obtain⟨ρ,θ,M,hden,hw,h⟩:=h;have hs:starEach [e] X.env=[(false,eval e X.env)]:=by rw[sE h1];rfl
 refine wpAny_Call_Name_kw (qx I hg hm hv ?_);refine callWith_kw (e:=e) (rest:=[]) (cK ((fP he kT hs) pos ag s σ H _ I (show ym (tE X g) Ex σ H (λxs H1=>∃v d θ1 M1,xs=[v]/\Go X.K θ H θ1 H1 M1/\dC X.K θ1 H1 d v/\aM X θ H Q (match d with | .lst ds=>pV (zf (N.length-1) gb) ds M1 | .ro ds=>pV (zf (N.length-1) gb) ds M1|_=>.bad)) from
  bD hden hw (aM X θ H Q) (λc M' h=>h) (λh=>h) h λd M1 v θ1 H1 g1 r1 h1=>⟨v,d,θ1,M1,rfl,g1,r1,h1⟩)) λus s1 hxx=>?_) (by rw[hs];rfl) (by rw[hs];rfl)
 obtain⟨xs,H1,I1,rx,v,d,θ1,M1,ex,g1,r1,h1⟩:=hxx;subst ex;obtain⟨u,rfl,ru⟩:=nC rx;refine kws_cons (cK (Gc I1 g1.wr T hcode hglob hq hcl hd) λuq s2 ⟨H2,I2,Md⟩=>kws_nil ?_);obtain⟨⟨q,c',pm,ctv,rfl,nq,hfq,hfc⟩,g2⟩:=Md;have h2:=aM.go (g1.trans g2) h1;have Fn:=NO (P:=X.prog) (w:=X.w) (K:=X.K) (mg:=X.mg) (base:=X.base) (qual:=cz x) (params:=params) (body:=body) (scope:=scope) (pm:=pm) (ctv:=ctv) (q:=q) (c:=c') (n:=1) S rfl (λA outer s H E hr=>hbody q c' A outer s H E hr);have run:∀(l:Addr) (ds:List D) (vs:List V),u=.ref l->uU X.K θ1 H2 l vs->bt X.K θ1 H2 ds vs->aM X θ1 H2 Q (pV (zf (N.length-1) gb) ds M1)->wpAny (model X.prog X.w) X.A (call (.builtin "min") [u] [(Str.ofString "key",.ref q)]) (EP X ag σ Q) X.xe s2:=λl ds vs eu ta r hh=>by
  rw[eu];exact D8 Fn hr (hb pm _ ctv) hcalm I2 g2.wr ta r hfq hfc hh
 show wpAny _ X.A (call (.builtin "min") [u] [(Str.ofString "key",.ref q)]) _ _ s2;cases d with
 | lst ds=>
  obtain⟨a,vs,ea,ta,rs⟩:=r1.go g2;subst ea;exact run a ds vs ru (.inl ⟨.inl ta.1,ta.2⟩) rs h2
 | ro ds=>
  obtain⟨a,vs,ea,ta,rs⟩:=r1.go g2;subst ea;exact run a ds vs ru ta rs h2
 | _=>exact h2.elim
def Pm {st:Stmt}{f c Pt:Addr}{N ps:List Str}{k n:Nat}{g:GS}(F:HJ K x x st f fd)(hns:W.nsIn K mainGlobals x=Z (Z (.ref f)))(T:yJ K x c Pt)(S:ft N ps (aR st))(hn:ps.length=n)
  (hbody:∀(A:Around) (outer:List Env) (s:Shared) (H:Hp) (E:XK),bM k (A.deeper (envOfC x (aR st) s.heap.objs.size f (.ref c)))->PSs (iy (iz P w) P w K mg base N x (aR st) f (.ref c) A outer s H E) (cW st) (tS (iy (iz P w) P w K mg base N x (aR st) f (.ref c) A outer s H E) g)) :
  eB P w K mg base (iz P w) (k+1) f fd ps (og K n (bn (N.length-n) g)):=by
 obtain⟨oc,od,kV,doc,pm,an,cdv,ct,osl,rfl,lk,hcd⟩:=F.ex;have ec:cdv=.ref c:=by
  have t:=T.tab;unfold W.tabIn at t;rw[hns] at t;dsimp only at t;rw[lk] at t;dsimp only at t;cases cdv with
  | ref c'=>
   dsimp only at t;split at t
   ·split at t
    ·cases t;rfl
    ·cases t
   ·cases t
  | _=>cases t
 subst ec;refine JR lk hcd S (oG hn) λA outer s H vs Q E hr h=>⟨_,hbody A outer s H E hr,?_⟩
 obtain⟨θ,M,ds,hl,r,hw,h⟩:=h;have hv:vs.length=n:=by rw[<-aA r];exact hl
 refine⟨mI (N.length-n) ds,θ,M,by rw[<-hv];exact Nh r N,hw,?_⟩;have h:zR K θ H Q E (aC (g (mI (N.length-n) ds) M)):=h;unfold aC at h;cases q:g (mI (N.length-n) ds) M with
 | bad=>rw[q] at h;exact h
 | err c M1=>
  rw[q] at h;have h:FZ K θ H E c M1:=h;exact λC θ' H' a s' kC g1 fl=>nW fl (h C θ' H' a kC g1)
 | ok fl M1=>
  rw[q] at h;cases fl with
  | rt d=>exact h
  | nx ρ1=>exact λσ1 θ1 H1 g1 _=>h .non θ1 H1 g1 rfl
  | bk ρ1=>exact h.elim
  | ct ρ1=>exact h.elim
end DL
namespace DL
open PySem PySem.Spec PyProof.Rows L2 List
section
open PySem.SeqAt
open PySem.AutoSeq1 (wpAny_loadPart')
open PySem.MeetsSeq PySem.MeetsSeq2 PySem.MeetsSeq3
end
def JK {K:W.Frag}{x:Str}{f c P:Addr}{oc occ:Value}{od odc:Option Addr}{fd:FuncData}{sl slc:Array (Option Value)}{vs:Array Value}{file:Str}{tf tg tt:Tok}{flags text:Int}{inF:Bool}
  (hm:x∈cN) (a:W.nsIn K mainGlobals x=Z (Z (.ref f))) (l:K.lookup f=Z ⟨oc,od,.func fd,sl⟩) (ec:fd.code=.ref c) (lc:K.lookup c=Z ⟨occ,odc,.fields vs,slc⟩) (hcc:occ=.type "code")
  (h11:vs[11]?=Z (.ref P)) (h18:vs.getD 18 .none=.str file tf) (h7:vs.getD 7 .none=.int flags tg) (h9:vs.getD 9 .none=.bool inF) (h10:vs.getD 10 .none=.int text tt) (ne:c≠P)
  (un:∀y,y∈cN->y≠x->W.nsIn K mainGlobals y=Z Y\/∃c' P',W.tabIn K y=Z (c',P')/\P'≠P):yJ K x c P:=by
 have g11:vs.getD 11 .none=.ref P:=by rw[Array.getD_eq_getD_getElem?,h11];rfl
 refine⟨hm,?_,λy hy nx c2 e=>?_,_,vs,file,tf,flags,tg,inF,text,tt,lc,hcc,rfl,h11,g11,h18,h7,h9,h10,ne⟩
 ·unfold W.tabIn;rw[a];dsimp only;rw[l];dsimp only;rw[ec];dsimp only;rw[lc];dsimp only;rw[h11]
 ·rcases un y hy nx with q|⟨c',P',q,n⟩
  ·unfold W.tabIn at e;rw[q] at e;cases e
  ·rw[q] at e;cases e;exact n rfl
end DL
namespace DL
open PySem PySem.Spec PyProof.Rows L2 List
end DL
namespace DL
open PySem PySem.Spec PyProof.Rows L2 List
def Nt (x:Str):List D:=x.cps.toList.map λc=>D.str ⟨#[c]⟩
section
open Builtin Builtin.Str
end
end DL
namespace DL
open PySem PySem.Spec PyProof.Rows L2 List
variable{k:Nat}{H:Hp}
section
variable {X:Cx}
def F0:FD:=λds M=>match ds with
 | [.str x]=>if x.cps.size<=sizeLine then .ok (.lst (Nt x)) M else .bad
 | ds=>lN ds M
def zt (M:az)(k:Nat):Option (List D):=match M[k]? with
 | some (.lst xs)=>Z xs
 | _=>Y
def qq {M:az}{xs:List D}(h:zt M k=Z xs):M[k]?=Z (.lst xs):=by
 unfold zt at h;split at h
 ·rename_i ys e;cases h;exact e
 ·cases h
def A8 (F:List D->List D->Option (D×List D))(go:GE)(ga:GA):GE:=λρ M=>(go ρ M).bind λo M1=>match o with
 | .mr k=>match zt M1 k with
  | some _=>(ga ρ M1).bind λds M2=>match zt M2 k with
   | some xs=>match F xs ds with
    | some r=>.ok r.1 (M2.set k (.lst r.2))
    | none=>.bad
   | none=>.bad
  | none=>.bad
 | _=>.bad
def O4 {F:List D->List D->Option (D×List D)}{rr:V->List V->Hp->VK->Prop}{σ:L2.St}{Q:VK}{go:GE}{ga:GA}
  (hF:∀θ H M a (k:Nat) xs vs ds us r Q,Wr X.K θ H M->θ[k]?=Z a->M[k]?=Z (.lst xs)->H a=Z (.lst vs)->bt X.K θ H xs vs->bt X.K θ H ds us->F xs ds=Z r->aM X θ H Q (.ok r.1 (M.set k (.lst r.2)))->rr (.ref a) us H Q)
  (h:tE X (A8 F go ga) σ H Q):RB X.K "list" rr (tE X go) (tA X ga) σ H Q:=by
 obtain⟨ρ,θ,M,hd,hw,h⟩:=h;refine bD hd hw (aM X θ H Q) (λc M' h=>h) (λh=>h) h λd M1 v θ1 H1 g1 r1 h1=>?_
 have h2:=aM.go g1 h1;cases d with
 | mr k=>
  have h2:aM X θ1 H1 Q (match zt M1 k with
   | some _=>(ga ρ M1).bind λds M2=>match zt M2 k with
    | some xs=>match F xs ds with
     | some r=>.ok r.1 (M2.set k (.lst r.2))
     | none=>.bad
    | none=>.bad
   | none=>.bad):=h2
  cases q1:zt M1 k with
  | none=>rw[q1] at h2;exact h2.elim
  | some ys=>
   rw[q1] at h2;obtain⟨a,ea,ta⟩:=id r1;obtain⟨vs1,hv1,_⟩:=g1.wr.at_ k a _ ta (qq q1);refine⟨by rw[ea];exact .inl ⟨rfl,vs1,.inl (.inl hv1)⟩,?_⟩;refine lJ (hd.go g1) g1.wr (aM X θ1 H1 Q) (λc M' h=>h) (λh=>h) h2 λds M2 us θ2 H2 g2 r2 h3=>?_
   have h4:=aM.go g2 h3;cases q2:zt M2 k with
   | none=>rw[q2] at h4;exact h4.elim
   | some xs=>
    rw[q2] at h4;dsimp only at h4;cases q3:F xs ds with
    | none=>rw[q3] at h4;exact h4.elim
    | some r=>
     rw[q3] at h4;obtain⟨a2,ea2,ta2⟩:=r1.go g2;rw[ea] at ea2;cases ea2;obtain⟨vs,hv,ra⟩:=g2.wr.at_ k a _ ta2 (qq q2);rw[ea];exact hF θ2 H2 M2 a k xs vs ds us r Q g2.wr ta2 (qq q2) hv ra r2 q3 h4
 | _=>exact h2.elim
def SY (xs ds:List D):Option (D×List D):=match ds with
 | [.int i]=>if 0<=i/\i<2 ^ 62 then(xs[i.toNat]?).map λd=>(d,xs.eraseIdx i.toNat) else Y
 | _=>Y
def Be:V->List V->Hp->VK->Prop:=λx vs H Q=>∃l xs i y,x=.ref l/\vs=[.int i,y]/\H l=Z (.lst xs)/\0<=i/\i<2 ^ 62/\xs.length<sizeLine/\Q .non (cx H l (.lst (xs.take i.toNat++y::xs.drop i.toNat)))
def CZ:SR X "list.insert" Be:=by
 intro ag s σ H x vs v us Q I rx rv h;obtain⟨l,xs,i,y,rfl,rfl,hH,i0,i1,hz,q⟩:=h;cases rx;obtain⟨u1,u2,rfl,r1,r2⟩:=rv.two;obtain⟨t,rfl⟩:=r1;obtain⟨z,its,n,r,hl,e⟩:=I.lstM hH;have fit:¬(!Builtin.List.listFitsIndex i)=true:=by
  unfold Builtin.List.listFitsIndex;simp;omega
 refine call_meets F.slot_list_insert ⟨_,e,rfl⟩ F.entry_list_insert (F.args_list_insert_3 _ _ _) (AutoSeq1.list_insert_list_int_val_1 l its.toArray n i t u2 fit (by rw[size_toArray];omega)) ⟨e,?_⟩;have nn:¬i<0:=by omega
 refine⟨.non,_,I.lset (its':=its.take i.toNat++u2::its.drop i.toNat) hH e ?_ ((r.take i.toNat).append (.cons r2 (r.drop i.toNat))) ?_,rfl,q⟩
 ·show((its.toArray.extract 0 (if i<0 then(i+((its.toArray.size:Nat):Int)).toNat else min i.toNat its.toArray.size)).push u2++its.toArray.extract (if i<0 then(i+((its.toArray.size:Nat):Int)).toNat else min i.toNat its.toArray.size))=_;rw[if_neg nn,size_toArray];apply Array.toList_inj.mp;rcases Nat.le_total i.toNat its.length with h|h
  ·rw[Nat.min_eq_left h];simp;exact take_of_length_le (by rw[length_drop];exact Nat.le_refl _)
  ·rw[Nat.min_eq_right h];simp[take_of_length_le h,drop_of_length_le h]
 ·rw[length_append,length_cons,length_take,length_drop];omega
def uu (xs ds:List D):Option (D×List D):=match ds with
 | [.int i,d]=>if 0<=i/\i<2 ^ 62/\xs.length<sizeLine then Z (.non,xs.take i.toNat++d::xs.drop i.toNat) else Y
 | _=>Y
def MN {θ:List Addr}{M:az}{a:Addr}{xs:List D}{vs:List V}{ds:List D}{us:List V}{r:D×List D}{Q:VK}(hw:Wr X.K θ H M)(ta:θ[k]?=Z a)(em:M[k]?=Z (.lst xs))(hv:H a=Z (.lst vs))(ra:bt X.K θ H xs vs)(ru:bt X.K θ H ds us)
  (hF:uu xs ds=Z r) (h:aM X θ H Q (.ok r.1 (M.set k (.lst r.2)))):Be (.ref a) us H Q:=by
 unfold uu at hF;split at hF
 ·rename_i i d;split at hF
  ·rename_i hi;cases hF;obtain⟨v1,r1,e1,q1,q2⟩:=ru;obtain⟨v2,r2,e2,q3,q4⟩:=q2;have e3:r2=[]:=q4;subst e3 e2 e1;have ev:v1=.int i:=q1;subst ev;have gs:=uj (ds:=xs) hw ta (ck (mW i.toNat ra) (show bt X.K θ H (d::xs.drop i.toNat) (v2::vs.drop i.toNat) from⟨v2,_,rfl,q3,mY i.toNat ra⟩));exact⟨a,vs,i,v2,rfl,rfl,hv,hi.1,hi.2.1,by rw[<-aA ra];exact hi.2.2,h _ θ _ gs rfl⟩
  ·cases hF
 ·cases hF
variable {o e e2:Expr}{go:GE}{ga:GA}{apos cpos:Pos}
def NT {env:Env}(h:aW e=true)(h2:aW e2=true):((backTo cpos (starEach [e,e2] env)).all (λx=>!x.1)&&(backToKw cpos (keywordEach [] env)).all (λx=>x.1.isSome)
   && decide ([e,e2].length+([]:List Keyword).length+(if([]:List Keyword).isEmpty then 0 else 1)<30))=true:=by
 rw[sE h,sE h2];rfl
def Dk (ho:PE X o (tE X go))(ha:PA X [e,e2] (tA X ga))(h1:aW e=true:=by rfl)(h2:aW e2=true:=by rfl)(hbase:attributeBase o "insert" X.env (eval o X.env)=eval o X.env:=by rfl)(hline:(apos.endLine==cpos.line)=true:=by rfl) :
  PE X (.Call (.Attribute o "insert" apos) [e,e2] [] cpos) (tE X (A8 uu go ga)):=
 (Bz PySem.F.plainAttrs_list PySem.F.slot_list_insert PySem.F.type_list_insert CZ ho ha hbase (NT h1 h2) hline (sE h1) (by rw[sE h2];rfl)).of λσ H Q h=>O4 (λθ H M a k xs vs ds us r Q=>MN) h
end
structure QE (X:Cx)(e:Expr)(g:GE):Prop where
 h:PE X e (tE X g)
structure QT (X:Cx)(e:Expr)(g:GT):Prop where
 h:PT X e (tT X g)
structure QW (X:Cx)(e:Expr)(g:GT):Prop where
 h:PW X e (tT X g)
structure QA (X:Cx)(es:List Expr)(g:GA):Prop where
 h:PA X es (tA X g)
structure QS (X:Cx)(st:Stmt)(g:GS):Prop where
 h:PS X st (tS X g)
structure QB (X:Cx)(st:List Stmt)(g:GS):Prop where
 h:PSs X st (tS X g)
structure QI (X:Cx)(tg e:Expr)(g:GI):Prop where
 h:PI X tg e (tI X g)
structure QG (X:Cx)(tg:Expr)(s:GG):Prop where
 h:PG X tg (tG X s)
structure P8 (X:Cx)(tgs:List Expr)(is:List Nat):Prop where
 h:A5 X tgs (Qj X is)
structure QP (X:Cx)(e:Option Expr)(g:GO):Prop where
 h:PO X e (tO X g)
structure Q2 (X:Cx)(f:Value->Value->Sem Value)(F:F2):Prop where
 h:iV X f (rD X F)
structure QC (X:Cx)(f:Value)(F:FD):Prop where
 h:d9 X f (rC X F)
structure EE (X:Cx)(scope:Scope)(xs:List Str)(R:List Str)(ifs:List Expr)(gc:GT):Prop where
 h:mV X scope xs R ifs gc
structure Qp (X:Cx)(tgs:List Expr)(ss:List GG):Prop where
 h:A5 X tgs (EL X ss)
structure QO (n:Nat)(sg:GG):Prop where
 h:xO n sg
structure QF (X:Cx)(es:List Expr)(gs:List GE):Prop where
 h:NY X es gs
variable{xs:List Str}{f:F2}{op:CmpOp}{gs:List GE}{ok:Str->Option Bool}{tg:Expr}{is:List Nat}{sg:GG}{ss:List GG}{body:List Stmt}{gB:GS}
section
variable {X:Cx}{e a b c o i:Expr}{es rest:List Expr}{x:Str}{p p2 pos pos':Pos}{g ga gb gc go gi ge:GE}{ta tb:GT}{gA:GA}
def P5:Q2 X (binaryOp .Add) bC:=⟨Lz⟩
def NL:Q2 X (binaryOp .Add) wO:=⟨Ig⟩
def OQ:Q2 X (binaryOp .Sub) eY:=⟨Mj⟩
def Qg:Q2 X (binaryOp .Mult) gf:=⟨ND⟩
def Mu:Q2 X (binaryOp .FloorDiv) iE:=⟨G1⟩
def P9:Q2 X (binaryOp .Mod) gV:=⟨K9⟩
def Ou:Q2 X (binaryOp .Pow) oB:=⟨Kz⟩
def RZ:Q2 X (compareOp .Lt) qK:=⟨Qk⟩
def Sv:Q2 X (compareOp .LtE) oj:=⟨PB⟩
def R3:Q2 X (compareOp .Gt) xI:=⟨OV⟩
def Sh:Q2 X (compareOp .GtE) ze:=⟨Qr⟩
def Ss (hr:bM k X.A):Q2 X (compareOp .Eq) (aV false):=⟨PM hr.units⟩
def Rp (hr:bM k X.A):Q2 X (compareOp .NotEq) (aV true):=⟨O3 hr.units⟩
def RG:Q2 X (compareOp .Is) (kI false):=⟨Pc⟩
def Ht:Q2 X (compareOp .IsNot) (kI true):=⟨Fc⟩
def Rq:Q2 X (compareOp .In) (tu false):=⟨Qz⟩
def OH:QC X (.builtin "len") bE:=⟨NI⟩
def O2 (hc:X.calm=true:=by rfl):QC X (.builtin "min") zA:=⟨KA hc⟩
def Qw (hc:X.calm=true:=by rfl):QC X (.builtin "all") kL:=⟨Lr hc⟩
def Gq:QC X (.builtin "divmod") AJ:=⟨B8⟩
def Og:QC X (.type "int") zk:=⟨Mq⟩
def MD:QC X (.type "list") lN:=⟨II⟩
def Hy:QC X (.type "tuple") eX:=⟨FJ⟩
def qv (i:Nat){x:Str}{pos:Pos}(hN:X.N[i]?=Z x:=by rfl)(hv:Oz X.env.scope x:=by first|exact Or.inl rfl|exact Or.inr (Or.inl rfl)|exact Or.inr (Or.inr rfl))(hd:(x==("__debug__":Str))=false:=by decide)
  (hcd:(x==("__classdict__":Str))=false:=by decide):QE X (.Name x pos) (ae i):=⟨vv i hN hv hd hcd⟩
def LI {i:Int}{j pos}:QE X (.Constant (.int i) j pos) (gC (.int i)):=⟨La⟩
def P6 {b j pos}:QE X (.Constant (.bool b) j pos) (gC (.bl b)):=⟨Pr⟩
def NR {j pos}:QE X (.Constant .none j pos) (gC .non):=⟨Kw⟩
def Mt {x j pos}:QE X (.Constant (.str x) j pos) (gC (.str x)):=⟨Nv⟩
def Kr (h:QE X a g):QE X (.UnaryOp .USub a pos) (lO g):=⟨NH h.h⟩
def NJ (h:QE X a g):QE X (.UnaryOp .Not a pos) (yE (aI g)):=⟨Nd h.h⟩
def OK {op:Operator}(ho:Q2 X (binaryOp op) f)(ha:QE X a ga)(hb:QE X b gb):QE X (.BinOp a op b pos) (g2 f ga gb):=⟨Po ho.h ha.h hb.h⟩
def KD:CmpOp->Bool
 | .In=>false
 | .NotIn=>false
 | _=>true
def wm {b:Expr}(h:KD op=true):behindInMarks op b=false:=by
 cases op <;> first|exact NE _|(cases h)
def KY (ho:Q2 X (compareOp op) f)(ha:QE X a ga)(hb:QE X b gb)(hm:KD op=true:=by rfl):QE X (.Compare a [op] [b] pos) (g2 f ga gb):=⟨Nx ho.h ha.h hb.h (wm hm)⟩
def Lk (ho:Q2 X (compareOp op) f)(ha:QE X a ga)(hb:QE X b gb)(hm:KD op=true:=by rfl):QT X (.Compare a [op] [b] pos) (aI (g2 f ga gb)):=⟨D3 ho.h ha.h hb.h (wm hm)⟩
def JL (ho:Q2 X (compareOp op) f)(ha:QE X a ga)(hb:QE X b gb)(hm:behindInMarks op b=false:=by with_unfolding_all rfl):QT X (.Compare a [op] [b] pos) (aI (g2 f ga gb)):=⟨D3 ho.h ha.h hb.h hm⟩
def GF {op':CmpOp}{f':F2}(ho:Q2 X (compareOp op) f)(ho':Q2 X (compareOp op') f')(ha:QE X a ga)(hb:QE X b gb)(hc:QE X c gc)(hm:lastMarks [op,op'] [b,c]=false:=by with_unfolding_all rfl):QE X (.Compare a [op,op'] [b,c] pos) (qJ f f' ga gb gc):=⟨Gu ho.h ho'.h ha.h hb.h hc.h hm⟩
def DN {op':CmpOp}{f':F2}(ho:Q2 X (compareOp op) f)(ho':Q2 X (compareOp op') f')(ha:QE X a ga)(hb:QE X b gb)(hc:QE X c gc)(hm:lastMarks [op,op'] [b,c]=false:=by with_unfolding_all rfl):QT X (.Compare a [op,op'] [b,c] pos) (aI (qJ f f' ga gb gc)):=⟨D4 ho.h ho'.h ha.h hb.h hc.h hm⟩
def Nk {op}(h:QE X a g):QE X (.BoolOp op [a] pos) g:=⟨Ku h.h⟩
def KS (ha:QE X a ga)(hb:QE X (.BoolOp .And (b::rest) pos) gb):QE X (.BoolOp .And (a::b::rest) pos) (fg ga gb):=⟨MV ha.h hb.h⟩
def PV (ha:QE X a ga)(hb:QE X (.BoolOp .Or (b::rest) pos) gb):QE X (.BoolOp .Or (a::b::rest) pos) (Kf ga gb):=⟨Py ha.h hb.h⟩
def O5 (hc:QT X c ta)(ha:QE X a ga)(hb:QE X b gb):QE X (.IfExp c a b pos) (sF ta ga gb):=⟨Qy hc.h ha.h hb.h⟩
def Ih (ha:QT X a ta):QW X (.BoolOp .And [a] pos) ta:=⟨G3 ha.h⟩
def K7 (ha:QT X a ta):QW X (.BoolOp .Or [a] pos) ta:=⟨K1 ha.h⟩
def NB (ha:QT X a ta)(hb:QW X (.BoolOp .And (b::rest) pos) tb):QW X (.BoolOp .And (a::b::rest) pos) (dN ta tb):=⟨LN ha.h hb.h⟩
def Pf (ha:QT X a ta)(hb:QW X (.BoolOp .Or (b::rest) pos) tb):QW X (.BoolOp .Or (a::b::rest) pos) (iS ta tb):=⟨OE ha.h hb.h⟩
def Pj (h:QW X a ta):QT X a ta:=⟨PW.pt h.h⟩
def NF (h:QT X a ta):QT X (.UnaryOp .Not a pos) (eU ta):=⟨Lb h.h⟩
def L7 (h:QE X a g)(he:∀whole,isTrue a X.env whole=(do let v <-whole;standAt a.pos;holding [v] (truthy v)):=by intro _;rfl):QT X a (eJ g):=⟨Na h.h he⟩
def NU:QA X [] af:=⟨Mp⟩
def R7 {gr:GA}(ha:QE X e g)(hr:QA X es gr)(h:aW e=true:=by rfl):QA X (e::es) (aa g gr):=⟨Rb ha.h hr.h h⟩
def MA {x1}(h:QA X es gA):QE X (.Tuple es x1 pos) (aD gA):=⟨Lh h.h⟩
def L8 (h:QA X es gA):QE X (.List es pos) (dM gA):=⟨MU h.h⟩
def KH (h:QA X es gA):QE X (.List es pos) (kr gA):=⟨MW h.h⟩
def MX:QF X [] []:=⟨.nil⟩
def RL (h:QE X e g)(t:QF X es gs):QF X (e::es) (g::gs):=⟨.cons h.h t.h⟩
def Kx {i:Int}(h:QE X e g)(hi:i=-1:=by rfl):QE X (.FormattedValue e i Y pos) (Ap g):=⟨Nq h.h hi⟩
def HB (h:QF X (a::b::es) gs):QE X (.JoinedStr (a::b::es) pos) (nE gs Str.empty):=⟨Io h.h⟩
def KW {i:Int}{j p1 p2 p3 pos}(hi:i=1)(he:QE X e g):QE X (.Subscript e (.Slice Y Y (Z (.UnaryOp .USub (.Constant (.int i) j p1) p2)) p3) pos) (AM g):=⟨Kp hi he.h⟩
def JE:QP X Y bu:=⟨Ir⟩
def HD (h:QE X e g):QP X (Z e) (dg g):=⟨Hf h.h⟩
def Gj {lo hi:Option Expr}{gl gh:GO}(he:QE X e g)(hl:QP X lo gl)(hh:QP X hi gh):QE X (.Subscript e (.Slice lo hi Y p2) pos) (oo g gl gh):=⟨F3 he.h hl.h hh.h⟩
def Pe (ha:QE X a ga)(hb:QE X b gb)(hs:xh b:=by intro _ _;rfl):QE X (.Subscript a b pos) (g2 bb ga gb):=⟨Ox ha.h hb.h hs⟩
section
variable {apos cpos:Pos}{k n:Nat}{f:Addr}{fd:FuncData}{ps:List Str}{F:FD}{T:String}{id:String}
def Dh (ho:QE X o go)(he:QE X e ge)(h1:aW e=true:=by rfl)(hbase:attributeBase o "append" X.env (eval o X.env)=eval o X.env:=by rfl)(hline:(apos.endLine==cpos.line)=true:=by rfl):QE X (.Call (.Attribute o "append" apos) [e] [] cpos) (lP go ge):=⟨Ck ho.h he.h hbase (AH h1) hline (sE h1) rfl⟩
def E9 (ho:QE X o go)(he:QE X e ge)(h1:aW e=true:=by rfl)(hbase:attributeBase o "count" X.env (eval o X.env)=eval o X.env:=by rfl)(hline:(apos.endLine==cpos.line)=true:=by rfl):QE X (.Call (.Attribute o "count" apos) [e] [] cpos) (jV kY go ge):=⟨Eu ho.h he.h h1 hbase hline⟩
def Gk (ho:QE X o go)(he:QE X e ge)(h1:aW e=true:=by rfl)(hbase:attributeBase o "index" X.env (eval o X.env)=eval o X.env:=by rfl)(hline:(apos.endLine==cpos.line)=true:=by rfl):QE X (.Call (.Attribute o "index" apos) [e] [] cpos) (jV kO go ge):=⟨Ei ho.h he.h h1 hbase hline⟩
def OM (Fn:eB X.prog X.w X.K X.mg X.base (iz X.prog X.w) k f fd ps (og X.K n F))(hr:bM k X.A)(hg:Gl X x)(hm:X.mg x=Z (.ref f))(hk:W.keepIn X.K (.ref f)=true)(hb:fz X.K fd ps [])(ha:QA X (e::es) gA)
  (hdb:(x==("__debug__":Str))=false:=by decide) (h1:aW e=true:=by rfl) (h2:dj es=true:=by rfl):QE X (.Call (.Name x p) (e::es) [] pos) (aj n F gA):=⟨PD Fn hr hg hm hk hb ha.h hdb h1 h2⟩
def Pz (hc:QC X (.builtin id) F)(hg:Gl X x)(hm:X.mg x=Y)(hv:bootBuiltins x=Z (.builtin id))(ha:QA X (e::es) gA)(hn:x≠"__name__":=by decide)(hdb:(x==("__debug__":Str))=false:=by decide)
  (h1:aW e=true:=by rfl) (h2:dj es=true:=by rfl):QE X (.Call (.Name x p) (e::es) [] pos) (aQ F gA):=⟨OL hc.h hg hm hv ha.h hn hdb h1 h2⟩
def P1 (hc:QC X (.type T) F)(hg:Gl X x)(hm:X.mg x=Y)(hv:bootBuiltins x=Z (.type T))(ha:QA X (e::es) gA)(hn:x≠"__name__":=by decide)(hdb:(x==("__debug__":Str))=false:=by decide)
  (h1:aW e=true:=by rfl) (h2:dj es=true:=by rfl):QE X (.Call (.Name x p) (e::es) [] pos) (aQ F gA):=⟨Qv hc.h hg hm hv ha.h hn hdb h1 h2⟩
def Oj (hT:o0 T)(hv:bootBuiltins x=Z (.type T))(hg:Gl X x)(hm:X.mg x=Y)(hgi:Gl X "isinstance")(hmi:X.mg "isinstance"=Y)(he:QE X e g)
  (h1:aW e=true:=by rfl) (hn:x≠"__name__":=by decide) (hd:(x==("__debug__":Str))=false:=by decide):QE X (.Call (.Name "isinstance" p) [e,.Name x p2] [] pos) (jL T g):=⟨Oo hT hv hg hm hgi hmi he.h h1 hn hd⟩
def LO {G:Addr}(hm:X.mg x=Z (.ref G))(hk:∀c b C,ok c=Z b->dR X.K c C->nR X.K C/\W.kitOne X.K (.ref C) (.ref G)=Z b)(hg:Gl X x)(hgi:Gl X "isinstance")(hmi:X.mg "isinstance"=Y)(he:QE X e g)
  (h1:aW e=true:=by rfl) (hd:(x==("__debug__":Str))=false:=by decide):QE X (.Call (.Name "isinstance" p) [e,.Name x p2] [] pos) (jf ok g):=⟨Kl hm hk hg hgi hmi he.h h1 hd⟩
def Hj (hv:bootBuiltins x=Z (.type T))(hm:X.mg x=Y)(hk:∀c b C,ok c=Z b->dR X.K c C->nR X.K C/\W.kitOne X.K (.ref C) (.type T)=Z b)(hg:Gl X x)(hgi:Gl X "isinstance")(hmi:X.mg "isinstance"=Y)(he:QE X e g)
  (h1:aW e=true:=by rfl) (hn:x≠"__name__":=by decide) (hd:(x==("__debug__":Str))=false:=by decide):QE X (.Call (.Name "isinstance" p) [e,.Name x p2] [] pos) (jf ok g):=⟨Jv hv hm hk hg hgi hmi he.h h1 hn hd⟩
end
def PQ {tg:Expr}(hg:Gl X "range")(hm:X.mg "range"=Y)(ha:QA X [a] gA)(h1:aW a=true:=by rfl):QI X tg (.Call (.Name "range" p) [a] [] pos) (dQ gA):=⟨OG hg hm ha.h h1⟩
def Lm (h:QE X e g):QI X tg e (cj g):=⟨NP h.h⟩
def IR {es:List Expr}{kt:Nat}{tp:Pos}(hg:Gl X "enumerate")(hm:X.mg "enumerate"=Y)(hv:bootBuiltins "enumerate"=Z (.type "enumerate"))(ha:QA X [a] gA)(h1:aW a=true:=by rfl):QI X (.Tuple es kt tp) (.Call (.Name "enumerate" p) [a] [] pos) (lU gA):=⟨IV hg hm hv ha.h (sE h1)⟩
section
variable {scope:Scope}{R:List Str}{iter elt:Expr}{ifs:List Expr}{gI:GI}{gC:GT}{px:Pos}{mk:List D->az->aX D}
def Cu :EE X scope xs R [] cb:=⟨Ej⟩
def Hg (hS:cR scope X.env.kindOf [x] R X.N=true)(hm:mk=aP\/mk=dS)(hi:QI X (.Name x px) iter gI)(hts:EE X scope [x] R ifs gC)(he:∀fp s H C,QE (aN X scope [x] R fp s H C) elt ge)
  (hc:X.calm=true:=by rfl) (hs:∀x,foldedSetIterable iter X.env x=pure x:=by intro _;rfl):QE X (.ListComp elt [⟨.Name x px,iter,ifs,0⟩] scope pos) (bq gI gC ge mk):=⟨Jb hS hc hm hi.h hts.h (λfp s H C=>(he fp s H C).h) hs⟩
def uG {j:Nat}{y:Str}{py spos:Pos}(hS:cR scope X.env.kindOf [x] R X.N=true)(hm:mk=aP\/mk=dS)(hN:X.N.Nodup)(hi:QI X (.Name x px) iter gI)(hts:EE X scope [x] R ifs gC)(he:∀fp s H C,QE (aN X scope [x] R fp s H C) elt ge)
  (hc:X.calm=true:=by rfl) (hj:X.N[j]?=Z y:=by rfl) (hy:X.env.scope.names.lookup y=Z .local:=by rfl) (hsw:swapsWith (.ListComp elt [⟨.Name x px,iter,ifs,0⟩] scope pos) (Z (.Name y py)) spos.line X.env=pure true:=by rfl)
  (hs:∀x,foldedSetIterable iter X.env x=pure x:=by intro _;rfl):QS X (.Assign [.Name y py] (.ListComp elt [⟨.Name x px,iter,ifs,0⟩] scope pos) spos) (aL j (bq gI gC ge mk)):=⟨zE hS hc hm hi.h hts.h (λfp s H C=>(he fp s H C).h) hN hj hy hsw hs⟩
def Ky (n:Nat)(h:is.all (λi=>decide (i<n))=true:=by rfl):QO n (bB is):=⟨G8 h⟩
def vQ {fp:List Addr}{s:Shared}{C:Addr}{y:Str}(hS:cR scope X.env.kindOf xs R X.N=true)(h:y∈xs):(aN X scope xs R fp s H C).env.scope.names.lookup y=Z .local:=lookup_relabel_local ((cZ.of hS).own y h)
def SW {fp:List Addr}{s:Shared}{H:Hp}{C:Addr}{y:Str}(i:Nat)(hS:cR scope X.env.kindOf xs R X.N=true)(hi:(xs++R)[i]?=Z y:=by rfl)(hx:y∈xs:=by simp):QG (aN X scope xs R fp s H C) (.Name y pos) (dY i):=
 ⟨xm (X:=aN X scope xs R fp s H C) (cZ.of hS).nd hi (.inl (vQ hS hx)) (.inr (vQ hS hx))⟩
def DW (xs:List Str)(hS:cR scope X.env.kindOf xs R X.N=true)(hm:mk=aP\/mk=dS)(own:QO xs.length sg)(hi:QI X tg iter gI)(hg:∀fp s H C,QG (aN X scope xs R fp s H C) tg sg)(hts:EE X scope xs R ifs gC)(he:∀fp s H C,QE (aN X scope xs R fp s H C) elt ge)
  (hc:X.calm=true:=by rfl) (hs:∀x,foldedSetIterable iter X.env x=pure x:=by intro _;rfl):QE X (.ListComp elt [⟨tg,iter,ifs,0⟩] scope pos) (bY gI xs.length sg gC ge mk):=⟨xZ hS hc hm hi.h own.h (λfp s H C=>(hg fp s H C).h) hts.h (λfp s H C=>(he fp s H C).h) hs⟩
def yD (xs:List Str){j:Nat}{y:Str}{py spos:Pos}(hS:cR scope X.env.kindOf xs R X.N=true)(hm:mk=aP\/mk=dS)(own:QO xs.length sg)(hN:X.N.Nodup)(hi:QI X tg iter gI)(hg:∀fp s H C,QG (aN X scope xs R fp s H C) tg sg)(hts:EE X scope xs R ifs gC)(he:∀fp s H C,QE (aN X scope xs R fp s H C) elt ge)
  (hc:X.calm=true:=by rfl) (hj:X.N[j]?=Z y:=by rfl) (hy:X.env.scope.names.lookup y=Z .local:=by rfl) (hsw:swapsWith (.ListComp elt [⟨tg,iter,ifs,0⟩] scope pos) (Z (.Name y py)) spos.line X.env=pure true:=by rfl)
  (hs:∀x,foldedSetIterable iter X.env x=pure x:=by intro _;rfl):QS X (.Assign [.Name y py] (.ListComp elt [⟨tg,iter,ifs,0⟩] scope pos) spos) (aL j (bY gI xs.length sg gC ge mk)):=⟨qQ hS hc hm hi.h own.h (λfp s H C=>(hg fp s H C).h) hts.h (λfp s H C=>(he fp s H C).h) hN hj hy hsw hs⟩
end
def jz:Expr->Bool
 | .ListComp ..=>false
 | .SetComp ..=>false
 | .DictComp ..=>false
 | _=>true
def jT {t:Option Expr}{l:Nat}{env:Env}(h:jz e=true):swapsWith e t l env=pure false:=by
 cases e <;> first|rfl|exact ff h
section
variable {st:Stmt}{stmts:List Stmt}{t u:GS}
def LW:QB X [] aG:=⟨K4⟩
def Ia (h1:QS X st t)(h2:QB X stmts u):QB X (st::stmts) (av t u):=⟨Jd h1.h h2.h⟩
def Mw (h1:QS X st t):QB X [st] t:=⟨K8 h1.h⟩
theorem Nf (i:Nat){x:Str}(hN:X.N.Nodup)(he:QE X e g)(hi:X.N[i]?=Z x:=by rfl)(hx:Eg X.env.scope x:=by first|exact Or.inl rfl|exact Or.inr rfl)(hs:jz e=true:=by rfl)(hf:X.fn x=true\/X.env.scope.names.lookup x=Z .local:=by first|exact .inl rfl|exact .inr rfl) :
  QS X (.Assign [.Name x pos'] e pos) (aL i g):=⟨ss i hN he.h hi hx (jT hs) hf⟩
theorem A0 (i:Nat){x:Str}(hN:X.N.Nodup)(he:QE X e g)(hi:X.N[i]?=Z x:=by rfl)(hx:Eg X.env.scope x:=by first|exact Or.inl rfl|exact Or.inr rfl)(hs:swapsWith e (Z (.Name x pos')) pos.line X.env=pure false:=by rfl)(hf:X.fn x=true\/X.env.scope.names.lookup x=Z .local:=by first|exact .inl rfl|exact .inr rfl) :
  QS X (.Assign [.Name x pos'] e pos) (aL i g):=⟨ss i hN he.h hi hx hs hf⟩
def MS (he:QE X e g):QS X (.Return (Z e) pos) (aK g):=⟨Ng he.h⟩
def Hn (he:QE X e g)(hs:jz e=true:=by rfl):QS X (.Expr e pos) (bA g):=⟨He he.h (jT hs)⟩
def OO {a b:List Stmt}{tc:GT}(hc:QT X c tc)(ha:QB X a t)(hb:QB X b u):QS X (.If c a b pos) (cO tc t u):=⟨PH hc.h ha.h hb.h⟩
def qn (i:Nat){x:Str}(hN:X.N.Nodup)(hi:X.N[i]?=Z x:=by rfl)(hx:Eg X.env.scope x:=by first|exact Or.inl rfl|exact Or.inr rfl)(hf:X.fn x=true\/X.env.scope.names.lookup x=Z .local:=by first|exact .inl rfl|exact .inr rfl):QG X (.Name x pos) (dY i):=⟨gg i hN hi hx hf⟩
def HP:P8 X [] []:=⟨Iy⟩
def Px {i:Nat}(h1:QG X e (dY i))(h2:P8 X es is)(hs:(assignEach (e::es) X.env).map (·.2)=assign e X.env::(assignEach es X.env).map (·.2):=by rfl):P8 X (e::es) (i::is):=⟨Ee h1.h h2.h hs⟩
def Km {k n:Nat}(h:P8 X es is)(hc:X.calm=true:=by rfl)(hl:is.length=n:=by rfl)(hn:(assignEach es X.env).length=n:=by rfl)(hst:(assignEach es X.env).findIdx? (·.1)=Y:=by rfl):QG X (.Tuple es k pos) (bB is):=⟨My hc h.h hl hn hst⟩
def IN:Qp X [] []:=⟨FA⟩
def Pq (h1:QG X e sg)(h2:Qp X es ss)(hs:(assignEach (e::es) X.env).map (·.2)=assign e X.env::(assignEach es X.env).map (·.2):=by rfl):Qp X (e::es) (sg::ss):=⟨Di h1.h h2.h hs⟩
def Ie {k n:Nat}(h:Qp X es ss)(hc:X.calm=true:=by rfl)(hl:ss.length=n:=by rfl)(hn:(assignEach es X.env).length=n:=by rfl)(hst:(assignEach es X.env).findIdx? (·.1)=Y:=by rfl):QG X (.Tuple es k pos) (rh ss):=⟨G6 hc h.h hl hn hst⟩
def KR {s:GG}(he:QE X e g)(hg:QG X tg s)(hs:jz e=true:=by rfl)(hw:swappedStores [tg] e X.env=pure Y:=by rfl)(h1:(assignEach [tg] X.env).map (·.2)=[assign tg X.env]:=by rfl):QS X (.Assign [tg] e pos) (dE s g):=⟨Lx he.h hg.h (jT hs) hw h1⟩
def Ms {ip:Pos}(he:QE X e g)(ho:QE X o go)(hi:QE X i gi)
  (ha:∀v,assign (.Subscript o i ip) X.env v=(do
   let ov <-holding [v] (eval o X.env)
   let iv <-holding [v,ov] (eval i X.env)
   standAt ip
   holding [v,ov,iv] (setItem ov iv v)
   release [v,ov,iv] []):=by intro _;rfl)
  (hs:jz e=true:=by rfl) (hw:swappedStores [.Subscript o i ip] e X.env=pure Y:=by rfl):QS X (.Assign [.Subscript o i ip] e pos) (nk go gi g):=⟨NC he.h ho.h hi.h ha (by unfold swapsWithSole;exact jT hs) hw rfl⟩
def LA {iter:Expr}{gI:GI}(hp:PassesOwn (model X.prog X.w) X.A X.env X.xe)(hi:QI X tg iter gI)(hg:QG X tg sg)(hb:QB X body gB)(hc:X.calm=true:=by rfl)(hs:∀x,foldedSetIterable iter X.env x=pure x:=by intro _;rfl) :
  QS X (.For tg iter body [] pos) (js gI sg gB):=⟨LM hp hc hi.h hg.h hb.h hs⟩
def Fz {tc:GT}{n:Nat}(hp:PassesOwn (model X.prog X.w) X.A X.env X.xe)(hc:QT X c tc)(hb:QB X body gB):QS X (.While c body [] pos) (xE n tc gB):=⟨ES hp hc.h hb.h⟩
def D7 {x:Str}{C:Addr}{np cpos:Pos}(k:Ec X.K X.mg x C)(hg:Gl X x)(he:QE X e g)(hc:X.calm=true:=by rfl)(h1:aW e=true:=by rfl)(hd:(x==("__debug__":Str))=false:=by decide):QS X (.Raise (Z (.Call (.Name x np) [e] [] cpos)) Y pos) (fV x g):=⟨Fi k hc hg he.h h1 hd⟩
def KZ {G n:Str}{Ga:Addr}{i:Nat}{ok:Str->Bool}{gh:GS}{suite:List Stmt}{b0:Stmt}{np hpos:Pos}(kG:Ec X.K X.mg G Ga)(hok:∀c C,ok c=true->dR X.K c C->W.mroIn X.K C (.ref Ga)=Z true)(hN:X.N.Nodup)
  (hb:∀pn E,QB (sY X pn E) body gB) (hh:∀pn a,QB (n9 X pn a) (b0::suite) gh)
  (hg:Gl X G:=by rfl) (hst:X.stack=X.env::X.outer:=by rfl) (hf:X.env.frame=Z X.env.locals:=by rfl) (hi:X.N[i]?=Z n:=by rfl) (hl:X.env.kindOf n=Z .local:=by rfl) (hfn:X.fn n=true\/X.env.scope.names.lookup n=Z .local:=by first|exact .inl rfl|exact .inr rfl)
  (hd:(G==("__debug__":Str))=false:=by decide):QS X (.Try body [.ExceptHandler (Z (.Name G np)) (Z n) (b0::suite) hpos] [] [] pos) (oJ i ok gB gh):=⟨Ny kG hok hg hst hf hN hi hl hfn (λpn E=>(hb pn E).h) (λpn a=>(hh pn a).h) hd⟩
end
end
section
variable {X:Cx}{c f m:Str}{C:Addr}{o e value:Expr}{es:List Expr}{g go gv:GE}{gA:GA}{pos pos' apos p:Pos}{k n:Nat}{fa:Addr}{fd:FuncData}{ps:List Str}{F:FD}{pl:Sem Bool}
def MQ (kc:Kc X.K X.mg c C)(na:gO X.K C f)(he:QE X e g)(hb:attributeBase e f X.env (eval e X.env)=eval e X.env:=by rfl):QE X (.Attribute e f pos) (d7 c f g):=⟨MZ kc na he.h hb⟩
def Nw (kc:Kc X.K X.mg c C)(na:gO X.K C f)(ho:QE X o go)(hv:QE X value gv)(hs:jz value=true:=by rfl):QS X (.Assign [.Attribute o f pos'] value pos) (fX c f go gv):=⟨Nj kc na ho.h hv.h (jT hs)⟩
def Mz (kc:Kc X.K X.mg c C)(hm:wx X.K C m fa)(Fn:eB X.prog X.w X.K X.mg X.base (iz X.prog X.w) k fa fd ps (og X.K n F))(hr:bM k X.A)(hb:fz X.K fd ps [])(ho:QE X o go)(ha:QA X (e::es) gA)
  (h1:aW e=true:=by rfl) (h2:dj es=true:=by rfl)
  (ht:eval (.Call (.Attribute o m apos) (e::es) [] pos) X.env=(do
   let ov <-eval o X.env
   standAt apos.atName
   let (f,first) <-holding [ov] (getMethod ov m pl)
   callWith pos f first (backTo pos (starEach (e::es) X.env)) (backToKw pos (keywordEach [] X.env))):=by rfl):QE X (.Call (.Attribute o m apos) (e::es) [] pos) (eO c m n F go gA):=⟨Np (pl:=pl) kc hm Fn hr hb ho.h ha.h h1 h2 ht⟩
def G0 (kc:Kc X.K X.mg c C)(hm:wx X.K C m fa)(Fn:eB X.prog X.w X.K X.mg X.base (iz X.prog X.w) k fa fd ps (og X.K n F))(hr:bM k X.A)(hb:fz X.K fd ps [])(ho:QE X o go)
  (ht:eval (.Call (.Attribute o m apos) [] [] pos) X.env=(do
   let ov <-eval o X.env
   standAt apos.atName
   let (f,first) <-holding [ov] (getMethod ov m pl)
   callWith pos f first (backTo pos (starEach [] X.env)) (backToKw pos (keywordEach [] X.env))):=by rfl):QE X (.Call (.Attribute o m apos) [] [] pos) (eO c m n F go af):=⟨Hc (pl:=pl) kc hm Fn hr hb ho.h ht⟩
def JH (kc:Kc X.K X.mg c C)(Mc:Mk X.K C fa)(Fn:eB X.prog X.w X.K X.mg X.base (iz X.prog X.w) k fa fd ps (og X.K n F))(hr:bM (k+1) X.A)(hg:Gl X c)(hb:fz X.K fd ps [])(ha:QA X (e::es) gA)
  (hdb:(c==("__debug__":Str))=false:=by decide) (h1:aW e=true:=by rfl) (h2:dj es=true:=by rfl):QE X (.Call (.Name c p) (e::es) [] pos) (iC c n F gA):=⟨HX kc Mc Fn hr hg hb ha.h hdb h1 h2⟩
end
section
variable {X:Cx}{e o lo hi i:Expr}{g go gl gh:GE}{pos ip sp dpos p1 p2:Pos}{keys:List (Option Expr)}{values:List Expr}{tab:List (Str×Int)}
def MY (he:QE X e g)(ho:QE X o go)(hl:QE X lo gl)(hh:QE X hi gh)(hs:jz e=true:=by rfl)(hw:swappedStores [.Subscript o (.Slice (Z lo) (Z hi) Y sp) ip] e X.env=pure Y:=by rfl) :
  QS X (.Assign [.Subscript o (.Slice (Z lo) (Z hi) Y sp) ip] e pos) (uM go gl gh g):=⟨Ly he.h ho.h hl.h hh.h (by unfold swapsWithSole;exact jT hs) hw⟩
def KQ {i j:Nat}{x y:Str}{a b:Expr}{ga:GA}{px py pt:Pos}{kt k2 pt2}(hN:X.N.Nodup)(ha:QA X [a,b] ga)(hc:X.calm=true:=by rfl)(hi:X.N[i]?=Z x:=by rfl)(hj:X.N[j]?=Z y:=by rfl)(hij:i≠j:=by decide)
  (hx:X.env.scope.names.lookup x=Z .local:=by rfl) (hy:X.env.scope.names.lookup y=Z .local:=by rfl)
  (hw:swappedStores [.Tuple [.Name x px,.Name y py] kt pt] (.Tuple [a,b] k2 pt2) X.env=pure (Z [x,y]):=by rfl) :
  QS X (.Assign [.Tuple [.Name x px,.Name y py] kt pt] (.Tuple [a,b] k2 pt2) pos) (AF i j ga):=⟨KN hc hN hi hj hij hx hy ha.h hw rfl⟩
end
structure Mf (K:W.Frag)(C:Addr)(x qual:Str)(st:Stmt)(f:Addr)(fd:FuncData)(ps:List Str):Prop where
 F:HJ K x qual st f fd
 me:wx K C x f
 b:fz K fd ps []
variable{P:Program}{K:W.Frag}{mg:Str->Option Value}{base:Heap}{x:Str}{fd:FuncData}
def LC {w:World}{qual:Str}{st:Stmt}{f:Addr}{N ps:List Str}{n:Nat}{g:GS}(F:HJ K x qual st f fd)(S:ft N ps (aR st))(hn:ps.length=n)
  (hbody:∀(cdv:Value) (A:Around) (outer:List Env) (s:Shared) (H:Hp) (E:XK),bM k (A.deeper (envOfC qual (aR st) s.heap.objs.size f cdv))->QB (iy (iz P w) P w K mg base N qual (aR st) f cdv A outer s H E) (cW st) g) :
  eB P w K mg base (iz P w) (k+1) f fd ps (og K n (bn (N.length-n) g)):=Sd F S hn λcdv A outer s H E hr=>(hbody cdv A outer s H E hr).h
def Ko {w:World}{st:Stmt}{f c Pt:Addr}{N ps:List Str}{n:Nat}{g:GS}(F:HJ K x x st f fd)(hns:W.nsIn K mainGlobals x=Z (Z (.ref f)))(T:yJ K x c Pt)(S:ft N ps (aR st))(hn:ps.length=n)
  (hbody:∀(A:Around) (outer:List Env) (s:Shared) (H:Hp) (E:XK),bM k (A.deeper (envOfC x (aR st) s.heap.objs.size f (.ref c)))->QB (iy (iz P w) P w K mg base N x (aR st) f (.ref c) A outer s H E) (cW st) g) :
  eB P w K mg base (iz P w) (k+1) f fd ps (og K n (bn (N.length-n) g)):=Pm F hns T S hn λA outer s H E hr=>(hbody A outer s H E hr).h
def Jy {X:Cx}{px:Str}{c P:Addr}{params:Arguments}{body:Expr}{scope:Scope}{e:Expr}{g gb:GE}{p pos lpos kpos:Pos}{N:List Str}
  (T:yJ X.K x c P) (hr:bM (k+2) X.A) (hg:Gl X "min") (hm:X.mg "min"=Y) (hv:bootBuiltins "min"=Z (.builtin "min")) (S:ft N [px] scope) (he:QE X e g)
  (hbody:∀(q c':Addr) (A:Around) (outer:List Env) (s:Shared) (H:Hp) (E:XK),bM k (A.deeper (envOfC (cz x) scope s.heap.objs.size q (.ref c')))->
   QE (iy (iz X.prog X.w) X.prog X.w X.K X.mg X.base N (cz x) scope q (.ref c') A outer s H E) body gb)
  (hb:∀(pm cv ctv:Value) (s:Shared) (u:Value),BindsTo s (v4 (cz x) params body scope pm cv ctv) ⟨[u],[]⟩ [(px,u)]:=by intros;exact .of_eq rfl)
  (hcode:X.env.code=.ref c:=by rfl) (hglob:X.env.globals=mainGlobals:=by rfl) (hq:X.env.qual++("<lambda>":Str)=cz x:=by rfl)
  (hcl:closureFor scope X.env=pure []:=by rfl) (hd:defaultsOf params X.env=([],[]):=by rfl) (hcalm:X.calm=true:=by rfl) (h1:aW e=true:=by rfl) :
  QE X (.Call (.Name "min" p) [e] [⟨Z "key",.Lambda params body scope lpos,kpos⟩] pos) (ow (zf (N.length-1) gb) g):=⟨HE T hr hg hm hv he.h hcode hglob hq hcl hd hcalm S (λq c' A outer s H E hr=>(hbody q c' A outer s H E hr).h) hb h1⟩
variable{q:Program}{d:DefRec}
def Hz {l:W.OpenLaw}{n:Nat}{loose:List Str}{XP:(Str->Option Value)->Heap->Prop}{YP:World->Heap->Prop}{K:Params->W.Frag}{F:FD}
  (hn:l.most=Z n) (hn2:n<=sizeLine) (hdf:d.params.defaults=[]) (hr:bM k callerA) (hY:∀(w:World) (h:Heap),YP w h->(K w.params).In h)
  (hF:∀(w:World) (mg:Str->Option Value) (fa:Addr) (h:Heap),(K w.params).In h->h.Ns mainGlobals mg->mg d.name=Z (.ref fa)->
   ∃fd:FuncData,(∀(s:Shared) (u:Value),BindsTo s fd ⟨[u],[]⟩ [(x,u)])/\∀base:Heap,(K w.params).In base->base.Ns mainGlobals mg->eB l.prog w (K w.params) mg base (iz l.prog w) k fa fd [x] (og (K w.params) 1 F))
  (tabs:∀w:World,∃(ls:List (Str×DefRec×Addr×Addr)) (bm:Addr),(∀p∈ls,(recsOf q).find? (λe=>e.name==p.1)=Z p.2.1/\W.tabIn (K w.params) p.1=Z (p.2.2.1,p.2.2.2)/\(K w.params).lookup p.2.2.2=Y)/\
   (∀y,y∈cN->W.nsIn (K w.params) mainGlobals y=Z Y\/∃p∈ls,p.1=y)/\W.nsIn (K w.params) mainGlobals "__builtins__"=Z (Z (.ref bm))/\(K w.params).lookup bm=Y)
  (ht:∀ns:List Int,ns.length<=n->∃M',F [.ro (ns.map D.int)] []=.ok (.bl true) M') :
  W.WalkO q loose XP YP l.row.toRowW d [] (λf vs=>PySem.call f vs):=
 Kv (CX:=λw=>iz l.prog w) (sp:=λw=>og (K w.params) 1 F) hn hn2 hdf hr hY hF tabs (λw H a ns hl tb hS=>LU tb hS (ht ns hl)) λw H s e s' z=>Qo z
def Fx :∀p∈([]:List (Str×DefRec×Addr×Addr)),(recsOf q).find? (λe=>e.name==p.1)=Z p.2.1/\W.tabIn K p.1=Z (p.2.2.1,p.2.2.2)/\K.lookup p.2.2.2=Y:=λ_ h=>by cases h
variable{ls:List (Str×DefRec×Addr×Addr)}
def CG {c P:Addr}(h1:(recsOf q).find? (λe=>e.name==x)=Z d)(h2:W.tabIn K x=Z (c,P))(h3:K.lookup P=Y)
  (h:∀p∈ls,(recsOf q).find? (λe=>e.name==p.1)=Z p.2.1/\W.tabIn K p.1=Z (p.2.2.1,p.2.2.2)/\K.lookup p.2.2.2=Y) :
  ∀p∈(x,d,c,P)::ls,(recsOf q).find? (λe=>e.name==p.1)=Z p.2.1/\W.tabIn K p.1=Z (p.2.2.1,p.2.2.2)/\K.lookup p.2.2.2=Y:=λp hp=>by
 rcases mem_cons.mp hp with rfl|hp
 ·exact⟨h1,h2,h3⟩
 ·exact h p hp
def xX {φ:Str->Prop}(h1:φ "ink_shown")(h2:φ "table_within")(h3:φ "slots_given")(h4:φ "cast_on_slots"):∀y,y∈cN->φ y:=λy hy=>by
 simp only[cN,mem_cons,not_mem_nil,or_false] at hy;rcases hy with rfl|rfl|rfl|rfl <;> assumption
def Ii {bm:Addr}(h:∀p∈ls,(recsOf q).find? (λe=>e.name==p.1)=Z p.2.1/\W.tabIn K p.1=Z (p.2.2.1,p.2.2.2)/\K.lookup p.2.2.2=Y)
  (h2:∀y,y∈cN->W.nsIn K mainGlobals y=Z Y\/∃p∈ls,p.1=y) (h3:W.nsIn K mainGlobals "__builtins__"=Z (Z (.ref bm))) (h4:K.lookup bm=Y) :
  ∃(ls:List (Str×DefRec×Addr×Addr)) (bm:Addr),(∀p∈ls,(recsOf q).find? (λe=>e.name==p.1)=Z p.2.1/\W.tabIn K p.1=Z (p.2.2.1,p.2.2.2)/\K.lookup p.2.2.2=Y)/\
   (∀y,y∈cN->W.nsIn K mainGlobals y=Z Y\/∃p∈ls,p.1=y)/\W.nsIn K mainGlobals "__builtins__"=Z (Z (.ref bm))/\K.lookup bm=Y:=⟨ls,bm,h,h2,h3,h4⟩
def KG {f c P:Addr}{oc occ:Value}{od odc:Option Addr}{sl slc:Array (Option Value)}{vs:Array Value}
  (a:W.nsIn K mainGlobals x=Z (Z (.ref f))) (l:K.lookup f=Z ⟨oc,od,.func fd,sl⟩) (ec:fd.code=.ref c) (lc:K.lookup c=Z ⟨occ,odc,.fields vs,slc⟩) (h11:vs[11]?=Z (.ref P)):W.tabIn K x=Z (c,P):=by
 unfold W.tabIn;rw[a];dsimp only;rw[l];dsimp only;rw[ec];dsimp only;rw[lc];dsimp only;rw[h11]
section
variable {X:Cx}{e a b o:Expr}{x z:Str}{p pos apos cpos:Pos}{g ga gb go ge:GE}{gA:GA}
def Cv (ho:QE X o go)(ha:QA X [e,a] gA)(h1:aW e=true:=by rfl)(h2:aW a=true:=by rfl)(hbase:attributeBase o "insert" X.env (eval o X.env)=eval o X.env:=by rfl)(hline:(apos.endLine==cpos.line)=true:=by rfl):QE X (.Call (.Attribute o "insert" apos) [e,a] [] cpos) (A8 uu go gA):=⟨Dk ho.h ha.h h1 h2 hbase hline⟩
end
end DL
namespace PySem
section
variable {prog:Program}{w:World}{K:Type}[DecidableEq K]{knd:HeapKind prog w K}{A:Around}{E:Value->Shared->Prop}{s:Shared}
def hk_setDefault {d a:Addr}{xs:List (K×Addr×Value)}{k:K}{v:Value}{Q:Value->Shared->Prop}(hu:knd.room A)(hkey:knd.is s.heap k a)(hm:s.heap.DictOfH knd d xs)
  (h1:∀p,atKey xs k=Z p->Q p.2 {s with toks:=s.toks+knd.draws k})
  (h2:atKey xs k=Y->∀h',h'.DictOfH knd d (storedH xs k a v)->Heap.SameBut d s.heap h'->Q v {s with heap:=h',toks:=s.toks+knd.draws k})
  (hsz:xs.length<=sizeLine):wpAny (model prog w) A (dictSetDefault d (.ref a) v) Q E s:=by
 obtain⟨o,es,ep,ho,hc,hd,he,his,hn⟩:=hm;unfold dictSetDefault
 try with_reducible refine wpAny_holding ?_
 refine wpAny_bind (knd.pyHash hu hkey ?_);refine wpAny_bind (wpAny_dictFind_heap (s:={s with toks:=s.toks+knd.draws k}) hu hkey ho hd he his hn ?_ ?_)
 ·intro hno;have hnot:k∉xs.map (·.1):=not_mem_keys_of_get hno;have none_:=atKey_none_of_get hno;refine wpAny_bind (wpAny_rule ?_);refine wpAny_bind (wpAny_updateDictKeys (hz:=by have e:=size_of_entries he;omega) (s:={s with toks:=s.toks+knd.draws k}) ho hd (wpAny_pure (h2 none_ _ ⟨_,_,ep+1,Heap.get?_update_self _ ho (Obj.isFreed_of_dict (Obj.data_mapDictKeys hd _)),
   hc.mapDictKeys _,Obj.data_mapDictKeys hd _,?_,?_,?_⟩ (Heap.SameBut.update ..))))
  ·rw[storedH_new none_];simp[he,entryOfKey]
  ·rw[storedH_new none_];intro x hx;rcases List.mem_append.mp hx with hx|hx
   ·exact knd.keeps (his x hx) ho hd (Heap.SameBut.update ..)
   ·simp only[List.mem_singleton] at hx;subst hx;exact knd.keeps hkey ho hd (Heap.SameBut.update ..)
  ·rw[storedH_new none_];rw[List.map_append,List.nodup_append];refine⟨hn,by simp,?_⟩;intro x hx y hy;simp only[List.map_cons,List.map_nil,List.mem_singleton] at hy;subst hy;exact λe=>hnot (e▸hx)
 ·intro j p hj;have at_:=atKey_of_get hn hj;refine wpAny_bind (wpAny_dictEntries (s:={s with toks:=s.toks+knd.draws k}) ho hd ?_);rw[entry_at he j,hj];exact wpAny_bind (wpAny_rule (wpAny_pure (h1 _ at_)))
def hk_meets_setdefault (knd:HeapKind prog w K)(d a:Addr)(hd:(d==sysModules)=false)(dflt:Value) :
  MeetsIn prog w (Builtin.«dict.setdefault» ⟨[.ref d,.ref a,dflt],[]⟩) (λA R s=>knd.room A.in1/\∃k xs,knd.is s.heap k a/\s.heap.DictOfH knd d xs/\xs.length<=sizeLine/\
   (∀p,atKey xs k=Z p->R (.ok (.ret p.2)) {s with toks:=s.toks+knd.draws k})/\
   (atKey xs k=Y->∀h',h'.DictOfH knd d (storedH xs k a dflt)->Heap.SameBut d s.heap h'->R (.ok (.ret dflt)) {s with heap:=h',toks:=s.toks+knd.draws k})):=
 .of_wp λA R s hxx=>by
  obtain⟨hu,k,xs,hkey,hm,hz,h1,h2⟩:=hxx;unfold Builtin.«dict.setdefault»;refine wpAny_bind ?_;unfold Builtin.Dict.keyAndDefault;refine wpAny_bind (wpAny_notOrdered_dict hm.typeIs ?_);show wpAny _ _ (pure (d,Value.ref a,Z dflt)) _ _ s;refine wpAny_pure ?_;show wpAny _ _ (if(d==sysModules)=true then _ else(dictSetDefault d (.ref a) dflt >>= _)) _ _ s;rw[if_neg (by rw[hd];exact Bool.false_ne_true)];exact wpAny_bind (hk_setDefault (hsz:=hz) hu hkey hm (λp hp=>wpAny_pure ⟨p.2,rfl,h1 p hp⟩) λhn h' hm' hs'=>wpAny_pure ⟨dflt,rfl,h2 hn h' hm' hs'⟩)
end
end PySem
namespace L2
open PySem PySem.Spec PyProof.Rows List
def SG (H:Hp)(a:Addr)(y z r:V)(H':Hp):Prop:=
 (Rz H a y (Z r)/\H'=H)\/(∃kvs k,H a=Z (.dK kvs)/\y=kV k/\nS kvs k=Y/\kvs.length<sizeLine/\r=z/\H'=cx H a (.dK (rA kvs k z)))\/
 ∃kvs k b,H a=Z (.dT kvs)/\y=.ref b/\H b=Z (.tup (k.map kV))/\nS kvs k=Y/\kvs.length<sizeLine/\r=z/\H'=cx H a (.dT (rA kvs k z))
section
variable {X:Cx}{ag:List (Addr×Obj)}{σ:St}{H H':Hp}{s:Shared}{a:Addr}{y z r:V}{u d:Value}{A:Around}{E:Value->Shared->Prop}
def DI {Q:Value->Shared->Prop}(hu:A.units+1<cLine)(I:Inv X ag σ H s)(g:SG H a y z r H')(ry:RelV y u)(rz:RelV z d)(h:∀w' s',Inv X ag σ H' s'->RelV r w'->Q w' s') :
  wpAny (model X.prog X.w) A (call (.builtin "dict.setdefault") [.ref a,u,d]) Q E s:=by
 rcases g with⟨g,rfl⟩|⟨kvs,k,e,ey,l,hl,er,rfl⟩|⟨kvs,k,b,e,ey,eb,l,hl,er,rfl⟩
 ·rcases g with⟨kvs,k,e,ey,l⟩|⟨kvs,k,b,e,ey,eb,l⟩
  ·subst ey;obtain⟨z',hd,vs,rel,dd⟩:=GP I.hok e;obtain⟨w',hw,rw'⟩:=lS.some_of (v:=r) (o:=valueAt vs k) (by rw[l];exact rel.val k);refine call_meetsIn PySem.F.slot_dict_setdefault dd.typeIs PySem.F.entry_dict_setdefault (PySem.F.args_dict_setdefault_3 _ _ _) (kt_meets_setdefault (cT X.prog X.w) a (GN ry) hd d) ⟨vs,dd,by rw[<-rel.length];exact z',λv hv=>?_,λhn=>?_⟩
   ·rw[hw] at hv;cases hv;exact h _ _ (I.tok _) rw'
   ·rw[hw] at hn;cases hn
  ·subst ey;cases (show u=Value.ref b from ry);obtain⟨z',hd,xs,rel,dd⟩:=F7 I.hok e;obtain⟨w',hw,rw'⟩:=lS.some_of (v:=r) (o:=(atKey xs k).map (·.2)) (by rw[l];exact rel.val k);obtain⟨p,hp,hp2⟩:=Option.map_eq_some_iff.mp hw;refine call_meetsIn PySem.F.slot_dict_setdefault dd.typeIs PySem.F.entry_dict_setdefault (PySem.F.args_dict_setdefault_3 _ _ _) (hk_meets_setdefault (tupleKind (cT X.prog X.w)) a b hd d) ⟨tupleKind_room_in1 hu,k,xs,An I.hok eb,dd,by rw[<-Paired.length rel];exact z',λq hq=>?_,λhn=>?_⟩
   ·rw[hp] at hq;cases hq;rw[hp2];exact h _ _ (I.tok _) rw'
   ·rw[hp] at hn;cases hn
 ·subst ey er;obtain⟨z',hd,vs,rel,dd⟩:=PX I.hok e;have hn:valueAt vs k=Y:=lS.none_of (by rw[<-l];exact rel.val k);have hl':(rA kvs k r).length<=sizeLine:=by have:=qW kvs k r;omega
  refine call_meetsIn PySem.F.slot_dict_setdefault dd.typeIs PySem.F.entry_dict_setdefault (PySem.F.args_dict_setdefault_3 _ _ _) (kt_meets_setdefault (cT X.prog X.w) a (GN ry) hd d) ⟨vs,dd,by rw[<-rel.length];exact z',λv hv=>?_,λ_ h' dd' hs=>h _ _ ?_ rz⟩
  ·rw[hn] at hv;cases hv
  ·have he:∃q,h'.get? a=Z q:=let ⟨q,_,_,hq,_⟩:=dd';⟨q,hq⟩
   exact AX I (by rw[e];exact True.intro) hs he (KU hl' hd (rel.put k rz) dd')
 ·subst ey er;cases (show u=Value.ref b from ry);obtain⟨z',hd,xs,rel,dd⟩:=Ow I.hok e;have hn:(atKey xs k).map (·.2)=Y:=lS.none_of (by rw[<-l];exact rel.val k);have hl':(rA kvs k r).length<=sizeLine:=by have:=qW kvs k r;omega
  refine call_meetsIn PySem.F.slot_dict_setdefault dd.typeIs PySem.F.entry_dict_setdefault (PySem.F.args_dict_setdefault_3 _ _ _) (hk_meets_setdefault (tupleKind (cT X.prog X.w)) a b hd d) ⟨tupleKind_room_in1 hu,k,xs,An I.hok eb,dd,by rw[<-Paired.length rel];exact z',λq hq=>?_,λ_ h' dd' hs=>h _ _ ?_ rz⟩
  ·rw[hq] at hn;cases hn
  ·obtain⟨q,es,ep,hq,h2,h3,h4,_,h5⟩:=dd';refine AX I (by rw[e];exact True.intro) hs ⟨q,hq⟩ ⟨hl',hd,_,(rel.put k eb rz).keeps λc ys ec=>?_,q,es,ep,hq,h2,h3,h4,h5⟩;rw[aB (xR ec e (λz=>nomatch z))];exact ec
end
section
variable {X:Cx}{o e f:Expr}{td ty tx:TE}{apos cpos:Pos}
def OY (td ty tx:TE):TE:=λσ H Q=>td σ H λx H1=>∃a,x=.ref a/\Ru H1 a/\ty σ H1 λy H2=>tx σ H2 λz H3=>∃r H4,SG H3 a y z r H4/\Q r H4
def Ax (hu:X.A.units+1<cLine)(ho:PE X o td)(he:PE X e ty)(hf:PE X f tx)(m:M2 X o "setdefault" apos e f cpos):PE X (.Call (.Attribute o "setdefault" apos) [e,f] [] cpos) (OY td ty tx):=by
 intro ag s σ H Q I h;refine wpAny_Call_method m.base m.few m.line PySem.F.plainAttrs_dict PySem.F.slot_dict_setdefault PySem.F.type_dict_setdefault (cK (ho ag s σ H _ I h) λu s1 hxx=>?_);obtain⟨x,H1,I1,rx,a,ex,d,q1⟩:=hxx;subst ex;obtain rfl:u=Value.ref a:=rx;obtain⟨t1,t2,_⟩:=MC I1 d;refine⟨t1,t2,?_⟩;rw[m.trees];refine Calls.callWith_builtin rfl (Calls.evalArgs_plain (Calls.spliced_cons (cK (he ag s1 σ H1 _ I1 q1) λiv s2 ⟨y,H2,I2,ry,q2⟩=>
  Calls.spliced_cons (cK (hf ag s2 σ H2 _ I2 q2) λfv s3 ⟨z,H3,I3,rz,r,H4,g,q3⟩=>Calls.spliced_nil ?_))))
 exact DI hu I3 g ry rz λw' s4 I4 rw'=>⟨_,H4,I4,rw',q3⟩
end
def sortI (ns:List Int):List Int:=ns.mergeSort λa b=>decide (a<=b)
def nU (ns:List Int):(sortI ns).Perm ns:=mergeSort_perm ns _
def uo (ns:List Int):(sortI ns).Pairwise (·<=·):=by
 have h:(sortI ns).Pairwise (λa b=>decide (a<=b)=true):=pairwise_mergeSort (le:=λa b=>decide (a<=b)) (λa b c h1 h2=>by simp at *;omega) (λa b=>by simp;omega) ns;exact h.imp λh=>by simpa using h
theorem pK:∀{a b:List Int},a.Perm b->a.Pairwise (·<=·)->b.Pairwise (·<=·)->a=b
 | [],b,p,_,_=>(List.Perm.nil_eq p)
 | x::a,[],p,_,_=>absurd p.symm.nil_eq (by simp)
 | x::a,y::b,p,ha,hb=>by
  have h1:x<=y:=by
   rcases mem_cons.mp (p.symm.subset (mem_cons_self ..):y∈x::a) with e|e
   ·omega
   ·exact(pairwise_cons.mp ha).1 y e
  have h2:y<=x:=by
   rcases mem_cons.mp (p.subset (mem_cons_self ..):x∈y::b) with e|e
   ·omega
   ·exact(pairwise_cons.mp hb).1 x e
  have e:x=y:=by omega
  subst e;rw[pK (perm_cons x |>.mp p) (pairwise_cons.mp ha).2 (pairwise_cons.mp hb).2]
theorem wb:∀{ns:List Int} {us:List Value},ba (ns.map V.int) us->IntsAre us ns
 | [],us,r=>by cases r;exact .nil
 | n::ns,us,r=>by
  cases r with
  | cons h t=>
   obtain⟨tk,e⟩:=(show∃t,_=Value.int n t from h);subst e;exact .cons n tk (wb t)
theorem sT:∀{us:List Value} {ns:List Int},IntsAre us ns->ba (ns.map V.int) us
 | _,_,.nil=>.nil
 | _,_,.cons n t r=>.cons ⟨t,rfl⟩ (sT r)
section
variable {X:Cx}
def yn:d9 X (.builtin "sorted") (λxs H Q=>∃p ns,xs=[.ref p]/\nj X.K H p (ns.map V.int)/\ns.length<64/\∀l,H l=Y->Q (.ref l) (cx H l (.lst ((sortI ns).map V.int)))):=by
 intro ag s σ H xs us Q I r h;obtain⟨p,ns,rfl,hq,h64,q⟩:=h;obtain⟨u,rfl,rx⟩:=nC r;cases rx;obtain⟨its,r',pl,hz⟩:=I.list hq;have hlen:=r'.length;rw[length_map] at hlen;refine sorted_ints pl.isList (wb r') (by omega) λout ns' a1 a2 a3=>?_
 have e:ns'=sortI ns:=pK (a2.trans (nU ns).symm) a3 (uo ns);subst e;obtain⟨c,he⟩:=sortedAll_at s.heap its out;have hl2:(sortI ns).length<=sizeLine:=by rw[(nU ns).length_eq,sizeLine_eq];omega
 exact⟨.ref (s.heap.objs.size+1),_,I.laid (t':=s.toks) (λ_ _=>sortedAll_old) (Nat.le_succ _) (show cX X.prog X.w _ _ _ (.lst ((sortI ns).map V.int)) from⟨by rw[length_map];exact hl2,out.toList,c,sT a1,by simpa using he⟩),rfl,q _ (I.hok.fresh (Nat.le_succ _))⟩
end
end L2
namespace DL
open PySem PySem.Spec PyProof.Rows L2 List
def pp:D->Option eC
 | .int i=>Z (.inl i)
 | .str x=>Z (.inr x)
 | _=>Y
def Cb:List D->Option (List eC)
 | []=>Z []
 | d::ds=>match pp d,Cb ds with
  | some k,Z ks=>Z (k::ks)
  | _,_=>Y
def qA:D->Option (List eC)
 | .tup ds=>Cb ds
 | _=>Y
def lR {κ:Type}[DecidableEq κ](kvs:List (κ×D))(k:κ):Option D:=(kvs.find? λkv=>decide (kv.1=k)).map (·.2)
section
variable {K:W.Frag}{θ:List Addr}{H:Hp}
def J0 {d:D}{k:eC}{v:V}(e:pp d=Z k)(r:dC K θ H d v):v=kV k:=by
 cases d <;> simp only[pp,Option.some.injEq,reduceCtorEq] at e
 ·subst e;exact r
 ·subst e;exact r
theorem F6:∀{ds:List D} {ks:List eC} {vs:List V},Cb ds=Z ks->bt K θ H ds vs->vs=ks.map kV
 | [],ks,vs,e,r=>by
  simp only[Cb,Option.some.injEq] at e;subst e;exact r
 | d::ds,ks,vs,e,r=>by
  obtain⟨v,us,e1,r1,r2⟩:=r;simp only[Cb] at e;cases q1:pp d with
  | none=>rw[q1] at e;cases e
  | some k=>
   cases q2:Cb ds with
   | none=>rw[q1,q2] at e;cases e
   | some ks'=>
    rw[q1,q2] at e;cases e;rw[e1,J0 q1 r1,F6 q2 r2];rfl
def LP {d:D}{ks:List eC}{v:V}(e:qA d=Z ks)(r:dC K θ H d v):∃b,v=.ref b/\H b=Z (.tup (ks.map kV))/\b∉θ:=by
 cases d with
 | tup ds=>
  obtain⟨a,vs,e1,t,r1⟩:=r;rw[F6 e r1] at t;exact⟨a,e1,t.1,t.2⟩
 | _=>cases e
section
variable {κ:Type}[DecidableEq κ]
def Dp {p:κ×D}{r:List (κ×D)}{k:κ}(e:p.1=k):lR (p::r) k=Z p.2:=by simp[lR,find?_cons,e]
def Du {p:κ×D}{r:List (κ×D)}{k:κ}(e:¬p.1=k):lR (p::r) k=lR r k:=by simp[lR,find?_cons,e]
theorem uA:∀{fs:List (κ×D)} {vs:List (κ×V)} (k:κ),sw K θ H fs vs->(∀d,lR fs k=Z d->∃v,nS vs k=Z v/\dC K θ H d v)/\(lR fs k=Y->nS vs k=Y)
 | [],vs,k,r=>by
  have e:vs=[]:=r;subst e;exact⟨λd h=>(by cases h),λ_=>rfl⟩
 | p::fs,vs,k,r=>by
  obtain⟨k0,d0⟩:=p;obtain⟨v,us,e,h1,h2⟩:=r;subst e
  by_cases q:k0=k
  ·rw[Dp (p:=(k0,d0)) q,o5 (p:=(k0,v)) q];exact⟨λd h=>(by cases h;exact⟨v,rfl,h1⟩),λh=>(by cases h)⟩
  ·rw[Du (p:=(k0,d0)) q,oT (p:=(k0,v)) q];exact uA k h2
theorem pG {k:κ}{d:D}{v:V}(h:dC K θ H d v):∀{fs:List (κ×D)} {vs:List (κ×V)},sw K θ H fs vs->sw K θ H (fs++[(k,d)]) (vs++[(k,v)])
 | [],vs,r=>by
  have e:vs=[]:=r;subst e;exact⟨v,[],rfl,h,rfl⟩
 | (k0,d0)::fs,vs,r=>by
  obtain⟨u,us,e,h1,h2⟩:=r;subst e;exact⟨u,us++[(k,v)],rfl,h1,pG h h2⟩
theorem l7:∀{fs:List (κ×D)} {vs:List (κ×V)},sw K θ H fs vs->fs.length=vs.length
 | [],vs,r=>by
  have e:vs=[]:=r;subst e;rfl
 | (k0,d0)::fs,vs,r=>by
  obtain⟨u,us,e,h1,h2⟩:=r;subst e;rw[length_cons,length_cons,l7 h2]
end
end
section
variable {X:Cx}{pos apos cpos:Pos}{o e f:Expr}
def yH:GE:=λ_ M=>.ok (.mr M.length) (M++[.dK []])
def yQ:GE:=λ_ M=>.ok (.mr M.length) (M++[.dT []])
def Hk:PE X (.Dict [] [] pos) (tE X yH):=El.of λσ H Q ⟨ρ,θ,M,hd,hw,h⟩ p hp=>by
 have h:aM X θ H Q (.ok (.mr M.length) (M++[.dK []])):=h;exact h _ _ _ (ww hw hp ⟨[],bJ,rfl⟩) (oQ hw)
def JG:PE X (.Dict [] [] pos) (tE X yQ):=Gg.of λσ H Q ⟨ρ,θ,M,hd,hw,h⟩ p hp=>by
 have h:aM X θ H Q (.ok (.mr M.length) (M++[.dT []])):=h;exact h _ _ _ (ww hw hp ⟨[],bJ,rfl⟩) (oQ hw)
def xb:Option MO->Bool
 | some (.dK _)=>true
 | some (.dT _)=>true
 | _=>false
def gw (i:Nat)(y z:D)(M:az):aX D:=match M[i]? with
 | some (.dK kvs)=>match pp y with
  | some k=>match lR kvs k with
   | some r=>.ok r M
   | none=>if kvs.length<sizeLine then .ok z (M.set i (.dK (kvs++[(k,z)]))) else .bad
  | none=>.bad
 | some (.dT kvs)=>match qA y with
  | some k=>match lR kvs k with
   | some r=>.ok r M
   | none=>if kvs.length<sizeLine then .ok z (M.set i (.dT (kvs++[(k,z)]))) else .bad
  | none=>.bad
 | _=>.bad
def kB (go gy gz:GE):GE:=λρ M=>(go ρ M).bind λo M1=>match o with
 | .mr i=>if xb M1[i]?=true then(gy ρ M1).bind λy M2=>(gz ρ M2).bind λz M3=>gw i y z M3 else .bad
 | _=>.bad
def BS {K:W.Frag}{θ:List Addr}{H:Hp}{M:az}{i:Nat}{a:Addr}(hw:Wr K θ H M)(ta:θ[i]?=Z a)(h:xb M[i]?=true):Ru H a:=by
 cases q:M[i]? with
 | none=>rw[q] at h;cases h
 | some m=>
  cases m with
  | lst _=>rw[q] at h;cases h
  | obj _ _=>rw[q] at h;cases h
  | dK kvs=>obtain⟨vs,e,_⟩:=hw.at_ i a _ ta q;exact .inl ⟨vs,.inl e⟩
  | dT kvs=>obtain⟨vs,e,_⟩:=hw.at_ i a _ ta q;exact .inr ⟨vs,.inl e⟩
def BQ {go gy gz:GE}(hu:X.A.units+1<cLine)(ho:PE X o (tE X go))(he:PE X e (tE X gy))(hf:PE X f (tE X gz))(m:M2 X o "setdefault" apos e f cpos) :
  PE X (.Call (.Attribute o "setdefault" apos) [e,f] [] cpos) (tE X (kB go gy gz)):=(Ax hu ho he hf m).of λσ H Q hxx=>by
 obtain⟨ρ,θ,M,hd,hw,h⟩:=hxx;refine bD hd hw (aM X θ H Q) (λc M' h=>h) (λh=>h) h λd M1 v θ1 H1 g1 r1 h1=>?_
 have h2:=aM.go g1 h1;cases d with
 | mr i=>
  have h2:aM X θ1 H1 Q (if xb M1[i]?=true then(gy ρ M1).bind λy M2=>(gz ρ M2).bind λz M3=>gw i y z M3 else .bad):=h2;obtain⟨a,ea,ta⟩:=id r1;split at h2
  ·rename_i hD;refine⟨a,ea,BS g1.wr ta hD,?_⟩;refine bD (hd.go g1) g1.wr (aM X θ1 H1 Q) (λc M' h=>h) (λh=>h) h2 λdy M2 vy θ2 H2 g2 r2 h3=>?_
   refine bD ((hd.go g1).go g2) g2.wr (aM X θ2 H2 Q) (λc M' h=>h) (λh=>h) (aM.go g2 h3) λdz M3 vz θ3 H3 g3 r3 h4=>?_
   have h4:=aM.go g3 h4;have ry:dC X.K θ3 H3 dy vy:=r2.go g3;obtain⟨a',ea',ta3⟩:dC X.K θ3 H3 (.mr i) v:=r1.go (g2.trans g3);obtain rfl:a=a':=by rw[ea] at ea';injection ea'
   unfold gw at h4;cases q:M3[i]? with
   | none=>rw[q] at h4;exact h4.elim
   | some mo=>
    cases mo with
    | lst _=>rw[q] at h4;exact h4.elim
    | obj _ _=>rw[q] at h4;exact h4.elim
    | dK kvs=>
     rw[q] at h4;dsimp only at h4;obtain⟨vs,hv,ra⟩:=g3.wr.at_ i a _ ta3 q;cases qk:pp dy with
     | none=>rw[qk] at h4;exact h4.elim
     | some k=>
      rw[qk] at h4;dsimp only at h4;have ek:=J0 qk ry;obtain⟨i1,i2⟩:=uA k ra;cases qg:lR kvs k with
      | some r=>
       rw[qg] at h4;obtain⟨vr,hvr,rr⟩:=i1 r qg;exact⟨vr,H3,.inl ⟨.inl ⟨vs,k,.inl hv,ek,hvr.symm⟩,rfl⟩,h4 _ _ _ (.refl g3.wr) rr⟩
      | none=>
       rw[qg] at h4;dsimp only at h4;split at h4
       ·rename_i hl;have nv:=i2 qg;refine⟨vz,_,.inr (.inl ⟨vs,k,hv,ek,nv,by rw[<-l7 ra];exact hl,rfl,rfl⟩),?_⟩;rw[yh vz nv];have gs:=rN (m:=.dK (kvs++[(k,dz)])) (o:=.dK (vs++[(k,vz)])) g3.wr ta3 ⟨_,bJ,ko (pq g3.wr ta3) (pG r3 ra)⟩;exact h4 _ _ _ gs (r3.go gs)
       ·exact h4.elim
    | dT kvs=>
     rw[q] at h4;dsimp only at h4;obtain⟨vs,hv,ra⟩:=g3.wr.at_ i a _ ta3 q;cases qk:qA dy with
     | none=>rw[qk] at h4;exact h4.elim
     | some k=>
      rw[qk] at h4;dsimp only at h4;obtain⟨b,eb,hb,_⟩:=LP qk ry;obtain⟨i1,i2⟩:=uA k ra;cases qg:lR kvs k with
      | some r=>
       rw[qg] at h4;obtain⟨vr,hvr,rr⟩:=i1 r qg;exact⟨vr,H3,.inl ⟨.inr ⟨vs,k,b,.inl hv,eb,hb,hvr.symm⟩,rfl⟩,h4 _ _ _ (.refl g3.wr) rr⟩
      | none=>
       rw[qg] at h4;dsimp only at h4;split at h4
       ·rename_i hl;have nv:=i2 qg;refine⟨vz,_,.inr (.inr ⟨vs,k,b,hv,eb,hb,nv,by rw[<-l7 ra];exact hl,rfl,rfl⟩),?_⟩;rw[yh vz nv];have gs:=rN (m:=.dT (kvs++[(k,dz)])) (o:=.dT (vs++[(k,vz)])) g3.wr ta3 ⟨_,bJ,ko (pq g3.wr ta3) (pG r3 ra)⟩;exact h4 _ _ _ gs (r3.go gs)
       ·exact h4.elim
  ·exact h2.elim
 | _=>exact h2.elim
def rj:List D->Option (List Int)
 | []=>Z []
 | .int i::ds=>(rj ds).map (i::·)
 | _::_=>Y
theorem Ea {K:W.Frag}{θ:List Addr}{H:Hp}:∀{ds:List D} {ns:List Int} {vs:List V},rj ds=Z ns->bt K θ H ds vs->vs=ns.map V.int
 | [],ns,vs,e,r=>by
  simp only[rj,Option.some.injEq] at e;subst e;exact r
 | d::ds,ns,vs,e,r=>by
  obtain⟨v,us,e1,r1,r2⟩:=r;cases d with
  | int i=>
   simp only[rj] at e;obtain⟨ms,e2,e3⟩:=Option.map_eq_some_iff.mp e;subst e3;rw[e1,Ea e2 r2,show v=V.int i from r1];rfl
  | _=>cases e
theorem pS {K:W.Frag}{θ:List Addr}{H:Hp}:∀ns:List Int,bt K θ H (ns.map D.int) (ns.map V.int)
 | []=>rfl
 | n::ns=>⟨_,_,rfl,rfl,pS ns⟩
def tL:FD:=λds M=>match ds with
 | [d]=>match qt d M with
  | some xs=>match rj xs with
   | some ns=>if ns.length<64 then .ok (.lst ((sortI ns).map D.int)) M else .bad
   | none=>.bad
  | none=>.bad
 | _=>.bad
def vh:d9 X (.builtin "sorted") (rC X tL):=by
 intro ag s σ H xs us Q I r h;obtain⟨θ,M,ds,hw,rd,h⟩:=h;unfold tL at h;split at h
 ·rename_i d;split at h
  ·rename_i ys q;split at h
   ·rename_i ns qn;split at h
    ·rename_i hl;obtain⟨v,e,rv⟩:=jP rd;obtain⟨a,vs,ea,ta,ra⟩:=sP hw rv q;have ev:=Ea qn ra;subst ev;exact yn ag s σ H xs us Q I r ⟨a,ns,by rw[e,ea],.inl (.inl ta),hl,λl hp=>h _ θ _ (dX hw hp) (jx hw hp (pS _))⟩
    ·exact h.elim
   ·exact h.elim
  ·exact h.elim
 ·exact h.elim
end
section
variable {X:Cx}{pos apos cpos:Pos}{o e f:Expr}{go gy gz:GE}
def G4:QE X (.Dict [] [] pos) yH:=⟨Hk⟩
def HA:QE X (.Dict [] [] pos) yQ:=⟨JG⟩
def FR:QC X (.builtin "sorted") tL:=⟨vh⟩
def Cj {k:Nat}(hr:bM k X.A)(ho:QE X o go)(he:QE X e gy)(hf:QE X f gz)
  (base:attributeBase o "setdefault" X.env (eval o X.env)=eval o X.env:=by rfl)
  (few:((backTo cpos (starEach [e,f] X.env)).all (λx=>!x.1)&&(backToKw cpos (keywordEach [] X.env)).all (λx=>x.1.isSome)
   && decide (([e,f]:List Expr).length+([]:List Keyword).length+(if([]:List Keyword).isEmpty then 0 else 1)<30))=true:=by rfl)
  (line:(apos.endLine==cpos.line)=true:=by rfl) (trees:backTo cpos (starEach [e,f] X.env)=[(false,eval e X.env),(false,eval f X.env)]:=by rfl) :
  QE X (.Call (.Attribute o "setdefault" apos) [e,f] [] cpos) (kB go gy gz):=⟨BQ (Pn hr) ho.h he.h hf.h ⟨base,few,line,trees⟩⟩
end
end DL
namespace L2
open PySem PySem.Spec PyProof.Rows List
def uK:seqSlot? (.type "list") (dunderI "add")=pure (Z (.builtin "list.__iadd__")):=PySem.seqSlot_of PySem.F.slot_list_iadd.lookup (by decide +kernel)
def pU:fillsInplaceSlot (.type "list") "add" (Operator.Add==.Add)=pure false:=by
 unfold fillsInplaceSlot;show(typeLookup (.type "list") (dunderI "add") >>= λfi=>pure (fi.isSome&&!isSeqSlot fi))=pure false;have e:isSeqSlot (Z (Value.builtin "list.__iadd__"))=true:=by decide +kernel
 rw[PySem.F.slot_list_iadd.lookup,pure_bind,e];rfl
section
variable {X:Cx}
def xg {M:Model}{A:Around}{E:Value->Shared->Prop}{s:Shared}{a b:Value}{Q:Value->Shared->Prop}(ha:s.TypeIs a "list")(hb:s.TypeIs b "list")
  (hc:wpAny M A (call (.builtin "list.__iadd__") [a,b]) Q E s):wpAny M A (inplaceOp .Add a b) Q E s:=by
 unfold inplaceOp;refine wpAny_holding ?_;refine wpAny_bind (wpAny_typeOf ha (wpAny_bind (wpAny_of_eq pU ?_)));show wpAny M A (if false=true then _ else _) Q E s;rw[if_neg Bool.false_ne_true];refine wpAny_bind (wpAny_binaryOp1_none (nm:="add") ha hb PySem.noFill_list_add ?_);refine wpAny_bind (wpAny_of_eq uK ?_);exact wpAny_bind (wpAny_rule hc)
def PU:V->V->Hp->VK->Prop:=λx y H Q=>(∃i j,x=.int i/\y=.int j/\Q (.int (i+j)) H)\/
 ∃l b xs zs,x=.ref l/\y=.ref b/\H l=Z (.lst xs)/\H b=Z (.lst zs)/\xs.length+zs.length<=sizeLine/\Q (.ref l) (cx H l (.lst (xs++zs)))
def AU:HH X .Add PU:=by
 intro ag s σ H x y u v Q I rx ry h;rcases h with⟨i,j,e1,e2,q⟩|⟨l,b,xs,zs,rfl,rfl,hH,hB,hz,q⟩
 ·exact K3 ag s σ H x y u v Q I rx ry ⟨i,j,e1,e2,q⟩
 ·cases rx;cases ry;obtain⟨z,its,n,r,hl,e⟩:=I.lstM hH;obtain⟨z2,its2,n2,r2,hl2,e2⟩:=I.lstM hB;have hsz:its.toArray.size+its2.toArray.size<=sizeLine:=by rw[size_toArray,size_toArray];omega
  have hlong:¬(!its.toArray.isEmpty&&Builtin.List.listTooLong (its.toArray.size+its2.toArray.size))=true:=by
   rw[tQ hsz,Bool.and_false];exact Bool.false_ne_true
  refine xg ⟨_,e,rfl⟩ ⟨_,e2,rfl⟩ (call_meets PySem.F.slot_list_iadd ⟨_,e,rfl⟩ PySem.F.entry_list_iadd (PySem.F.args_list_iadd_2 _ _)
   (AutoSeq1.list___iadd___list_list_0 l its.toArray n b its2.toArray n2 hlong (by rw[size_toArray];omega) (by omega)) ⟨e,e2,?_⟩)
  refine⟨.ref l,_,I.lset (its':=its++its2) hH e (by simp) (r.append r2) ?_,rfl,q⟩;rw[length_append];omega
end
end L2
namespace DL
open PySem PySem.Spec PyProof.Rows L2 List
section
variable {X:Cx}{c f:Str}{C:Addr}{o value:Expr}{go gv:GE}{pos pos' tpos:Pos}
def AB (x y:D)(M:az):aX D:=match x with
 | .int i=>match y with
  | .int j=>.ok (.int (i+j)) M
  | _=>.bad
 | .mr k=>match M[k]? with
  | some (.lst xs)=>match qt y M with
   | some ys=>if xs.length+ys.length<=sizeLine then .ok (.mr k) (M.set k (.lst (xs++ys))) else .bad
   | none=>.bad
  | _=>.bad
 | _=>.bad
def Si (X:Cx):V->V->Hp->VK->Prop:=λx y H Q=>∃θ M dx dy,Wr X.K θ H M/\dC X.K θ H dx x/\dC X.K θ H dy y/\aM X θ H Q (AB dx dy M)
def Lg:HH X .Add (Si X):=by
 intro ag s σ H x y u v Q I rx ry ⟨θ,M,dx,dy,hw,r1,r2,h⟩;unfold AB at h;cases dx with
 | int i=>
  cases dy with
  | int j=>exact AU ag s σ H x y u v Q I rx ry (.inl ⟨i,j,r1,r2,h _ θ H (.refl hw) rfl⟩)
  | _=>exact h.elim
 | mr k=>
  dsimp only at h;cases q:M[k]? with
  | none=>rw[q] at h;exact h.elim
  | some m=>
   cases m with
   | obj _ _=>rw[q] at h;exact h.elim
   | dK _=>rw[q] at h;exact h.elim
   | dT _=>rw[q] at h;exact h.elim
   | lst xs=>
    rw[q] at h;dsimp only at h;cases q2:qt dy M with
    | none=>rw[q2] at h;exact h.elim
    | some ys=>
     rw[q2] at h;dsimp only at h;split at h
     ·rename_i hl;obtain⟨a,ea,ta⟩:=r1;obtain⟨vs,hv,ra⟩:=hw.at_ k a _ ta q;obtain⟨b,ws,eb,tb,rb⟩:=sP hw r2 q2;have gs:=uj (ds:=xs) hw ta (ck ra rb);exact AU ag s σ H x y u v Q I rx ry (.inr ⟨a,b,vs,ws,ea,eb,hv,tb,by rw[<-aA ra,<-aA rb];exact hl,h _ _ _ gs ⟨a,rfl,ta⟩⟩)
     ·exact h.elim
 | _=>exact h.elim
def Iw (c f:Str)(go gv:GE):GS:=λρ M=>(go ρ M).bind λo M1=>match jo c o M1 with
 | some (_,fs)=>match fs.lookup f with
  | some v=>(gv ρ M1).bind λy M2=>(AB v y M2).bind λz M3=>(wJ c f o z M3).bind λ_ M4=>.ok (.nx ρ) M4
  | none=>.bad
 | none=>.bad
def OD (k:Kc X.K X.mg c C)(n:gO X.K C f)(ho:PE X o (tE X go))(hv:PE X value (tE X gv)):PS X (.AugAssign (.Attribute o f tpos) .Add value pos) (tS X (Iw c f go gv)):=
 (C1 ho hv Lg).of λD σ H hxx=>by
  obtain⟨ρ,θ,M,hd,hw,h⟩:=hxx;refine bD hd hw (bZ X θ H D) (λc M' h=>h) (λh=>h) h λd M1 v θ1 H1 g1 r1 h1=>?_
  have h2:=bZ.go g1 h1;cases q:jo c d M1 with
  | none=>simp only[q] at h2;exact h2.elim
  | some p=>
   obtain⟨j,fs⟩:=p;simp only[q] at h2;obtain⟨a,dx,vs,ea,ta,hv,rf,_⟩:=su g1.wr k.at_ r1 q;cases ql:fs.lookup f with
   | none=>simp only[ql] at h2;exact h2.elim
   | some y=>
    simp only[ql] at h2;obtain⟨u,eu,ru⟩:=Ao rf ql;refine⟨a,C,dx,vs,u,ea,hv,k.cl,n,eu,?_⟩;refine bD (hd.go g1) g1.wr (bZ X θ1 H1 D) (λc M' h=>h) (λh=>h) h2 λw M2 vw θ2 H2 g2 r2 h3=>?_
    have h3:=bZ.go g2 h3;refine⟨θ2,M2,y,w,g2.wr,ru.go g2,r2,?_⟩;cases qa:AB y w M2 with
    | bad=>rw[qa] at h3;exact h3.elim
    | err c2 M3=>rw[qa] at h3;exact h3
    | ok z M3=>
     rw[qa] at h3;rw[ah] at h3;intro vz θ3 H3 g3 rz;have h4:=bZ.go g3 h3;have r3:=r1.go (g2.trans g3);unfold wJ at h4;cases q4:jo c d M3 with
     | none=>simp only[q4] at h4;exact h4.elim
     | some p4=>
      obtain⟨j4,fs4⟩:=p4;simp only[q4] at h4
      by_cases hl:fs4.length<1000
      ·simp only[if_pos hl] at h4;obtain⟨a4,dx4,vs4,ea4,ta4,hv4,rf4,_⟩:=su g3.wr k.at_ r3 q4;obtain rfl:a=a4:=by rw[ea] at ea4;injection ea4
       have gs:=BC (f:=f) (dx:=dx4) g3.wr ta4 k.at_ rf4 rz;exact⟨dx4,vs4,hv4,by rw[<-zi rf4];exact hl,h4 σ θ3 _ gs ((((hd.go g1).go g2).go g3).go gs)⟩
      ·simp only[if_neg hl] at h4;exact h4.elim
def Pg (kc:Kc X.K X.mg c C)(na:gO X.K C f)(ho:QE X o go)(hv:QE X value gv):QS X (.AugAssign (.Attribute o f tpos) .Add value pos) (Iw c f go gv):=⟨OD kc na ho.h hv.h⟩
end
end DL
namespace L2
open PySem PySem.Spec PyProof.Rows List
end L2
namespace DL
open PySem PySem.Spec PyProof.Rows L2 List
def aU {N ps:List Str}{sc:Scope}(h1:sc.kind=.function:=by rfl)(h2:sc.isCoroutine=false:=by rfl)(h3:sc.isGenerator=false:=by rfl)(h4:N.Nodup:=by decide +kernel)(h5:N.take ps.length=ps:=by rfl)
  (h6:∀x∈ps,sc.names.lookup x=Z .local\/sc.names.lookup x=Z .cell:=by decide +kernel) (h7:∀y∈sc.names,y.2≠.free:=by decide +kernel):ft N ps sc:=⟨h1,h2,h3,h4,h5,h6,h7⟩
section
variable {X:Cx}{e:Expr}{es:List Expr}{x:Str}{p pos:Pos}{gA:GA}{k k' n:Nat}{f:Addr}{fd:FuncData}{ps:List Str}{F:FD}{st:Stmt}{id:String}{T:String}
def OB (hc:QC X (.builtin id) F)(hm:X.mg x=Y)(hv:bootBuiltins x=Z (.builtin id))(ha:QA X (e::es) gA)(hg:Gl X x:=by rfl)(hn:x≠"__name__":=by decide)(hdb:(x==("__debug__":Str))=false:=by decide)
  (h1:aW e=true:=by rfl) (h2:dj es=true:=by rfl):QE X (.Call (.Name x p) (e::es) [] pos) (aQ F gA):=Pz hc hg hm hv ha hn hdb h1 h2
end
def FF (K:W.Frag)(mg:Str->Option Value)(x:Str)(st:Stmt)(ps:List Str):Prop:=∃f fd,Fn K mg x st f fd ps
def KC (K:W.Frag)(mg:Str->Option Value)(c:Str)(C:Addr):Prop:=Kc K mg c C/\W.makesIn K C=true/\W.keepIn K (.ref C)=true
def MF (K:W.Frag)(mg:Str->Option Value)(c m q:Str)(st:Stmt)(ps:List Str):Prop:=∃C f fd,KC K mg c C/\Mf K C m q st f fd ps
def LF (K:W.Frag)(mg:Str->Option Value)(x:Str)(st:Stmt)(ps:List Str):Prop:=∃f fd c P,Fn K mg x st f fd ps/\W.nsIn K mainGlobals x=Z (Z (.ref f))/\yJ K x c P
def NA (K:W.Frag)(mg:Str->Option Value)(c f:Str):Prop:=∃C,KC K mg c C/\gO K C f
def EX (K:W.Frag)(mg:Str->Option Value)(x:Str):Prop:=∃C,Ec K mg x C
def IX (K:W.Frag)(mg:Str->Option Value)(x:Str)(tab:List (Str×Bool)):Prop:=∃G,Ec K mg x G/\∀p∈tab,∃C,Ec K mg p.1 C/\W.mroIn K C (.ref G)=Z p.2
def IB (K:W.Frag)(mg:Str->Option Value)(x:String)(tab:List (Str×Bool)):Prop:=∀p∈tab,∃C,Ec K mg p.1 C/\W.mroIn K C (.type x)=Z p.2
def Ls {α:Type}(P:α->Prop)(l:List α):Prop:=∀t∈l,P t
section
variable {α β γ:Type}{P:α->Prop}{l:List α}{a:α}
def Ls.nil:Ls P []:=λ_ h=>by cases h
def Ls.cons (h:P a)(t:Ls P l):Ls P (a::l):=λx hx=>by
 rcases mem_cons.mp hx with e|e
 ·rw[e];exact h
 ·exact t x e
end
structure RN (l c:Nat)(xs R:List Str):Prop
def rn (l c:Nat)(xs R:List Str):RN l c xs R:=⟨⟩
def Ok (P:Program)(w:World)(K:W.Frag)(mg:Str->Option Value)(base:Heap)(x:Str)(k n:Nat)(F:FD):Prop:=
 ∃f fd ps,eB P w K mg base (iz P w) k f fd ps (og K n F)/\mg x=Z (.ref f)/\W.keepIn K (.ref f)=true/\fz K fd ps []
def Om (P:Program)(w:World)(K:W.Frag)(mg:Str->Option Value)(base:Heap)(c m:Str)(k n:Nat)(F:FD):Prop:=
 ∃C f fd ps,eB P w K mg base (iz P w) k f fd ps (og K n F)/\KC K mg c C/\wx K C m f/\fz K fd ps []
section
variable {P:Program}{w:World}{K:W.Frag}{mg:Str->Option Value}{base:Heap}{x c m q:Str}{st:Stmt}{N ps:List Str}{k n:Nat}{g:GS}{F:FD}
def se (h:Ok P w K mg base x k n F):Ok P w K mg base x k n λds M=>jZ M.length (F ds M):=by
 obtain⟨f,fd,ps,h1,h2,h3,h4⟩:=h;exact⟨f,fd,ps,MM h1,h2,h3,h4⟩
def NQ (T:FF K mg x st ps)(hn:ps.length=n:=by rfl):Ok P w K mg base x k n λ_ _=>.bad:=by
 obtain⟨f,fd,T⟩:=T;exact⟨f,fd,ps,LV hn,T.m,T.F.kp,T.b⟩
def cu (T:FF K mg x st ps)(N:List Str)(S:ft N ps (aR st))(hn:ps.length=n)
  (hb:∀(f:Addr) (cdv:Value) (A:Around) (outer:List Env) (s:Shared) (H:Hp) (E:XK),N.Nodup->bM k (A.deeper (envOfC x (aR st) s.heap.objs.size f cdv))->QB (iy (iz P w) P w K mg base N x (aR st) f cdv A outer s H E) (cW st) g) :
  Ok P w K mg base x (k+1) n (bn (N.length-n) g):=by
 obtain⟨f,fd,T⟩:=T;exact⟨f,fd,ps,LC T.F S hn λcdv A outer s H E hr=>hb f cdv A outer s H E S.nd hr,T.m,T.F.kp,T.b⟩
def tM (T:MF K mg c m q st ps)(N:List Str)(S:ft N ps (aR st))(hn:ps.length=n)
  (hb:∀(f:Addr) (cdv:Value) (A:Around) (outer:List Env) (s:Shared) (H:Hp) (E:XK),N.Nodup->bM k (A.deeper (envOfC q (aR st) s.heap.objs.size f cdv))->QB (iy (iz P w) P w K mg base N q (aR st) f cdv A outer s H E) (cW st) g) :
  Om P w K mg base c m (k+1) n (bn (N.length-n) g):=by
 obtain⟨C,f,fd,kC,T⟩:=T;exact⟨C,f,fd,ps,LC T.F S hn λcdv A outer s H E hr=>hb f cdv A outer s H E S.nd hr,kC,T.me,T.b⟩
def RV (T:LF K mg x st ps)(N:List Str)(S:ft N ps (aR st))(hn:ps.length=n)
  (hb:∀(f c Pt:Addr) (A:Around) (outer:List Env) (s:Shared) (H:Hp) (E:XK),N.Nodup->yJ K x c Pt->bM k (A.deeper (envOfC x (aR st) s.heap.objs.size f (.ref c)))->QB (iy (iz P w) P w K mg base N x (aR st) f (.ref c) A outer s H E) (cW st) g) :
  Ok P w K mg base x (k+1) n (bn (N.length-n) g):=by
 obtain⟨f,fd,c,Pt,T,hns,tb⟩:=T;exact⟨f,fd,ps,Ko T.F hns tb S hn λA outer s H E hr=>hb f c Pt A outer s H E S.nd tb hr,T.m,T.F.kp,T.b⟩
end
section
variable {X:Cx}{e a o value:Expr}{es:List Expr}{x c m f:Str}{p p2 pos apos pos':Pos}{gA:GA}{g go gv:GE}{k k' n:Nat}{F:FD}{tab:List (Str×Bool)}{bs:List Str}
def Oq (h:Ok X.prog X.w X.K X.mg X.base x k n F)(hr:bM k' X.A)(ha:QA X (e::es) gA)(hk:k<=k':=by first|decide|omega)(hg:Gl X x:=by rfl)
  (hdb:(x==("__debug__":Str))=false:=by decide) (h1:aW e=true:=by rfl) (h2:dj es=true:=by rfl):QE X (.Call (.Name x p) (e::es) [] pos) (aj n F gA):=by
 obtain⟨f,fd,ps,h1',h2',h3,h4⟩:=h;exact OM h1' (hr.mono hk) hg h2' h3 h4 ha hdb h1 h2
def IZ {pl:Sem Bool}(h:Om X.prog X.w X.K X.mg X.base c m k n F)(hr:bM k' X.A)(ho:QE X o go)(ha:QA X (e::es) gA)(hk:k<=k':=by first|decide|omega)(h1:aW e=true:=by rfl)(h2:dj es=true:=by rfl)
  (ht:eval (.Call (.Attribute o m apos) (e::es) [] pos) X.env=(do
   let ov <-eval o X.env
   standAt apos.atName
   let (f,first) <-holding [ov] (getMethod ov m pl)
   callWith pos f first (backTo pos (starEach (e::es) X.env)) (backToKw pos (keywordEach [] X.env))):=by rfl):QE X (.Call (.Attribute o m apos) (e::es) [] pos) (eO c m n F go gA):=by
 obtain⟨C,f,fd,ps,a1,a2,a3,a4⟩:=h;exact Mz (pl:=pl) a2.1 a3 a1 (hr.mono hk) a4 ho ha h1 h2 ht
def Ds {pl:Sem Bool}(h:Om X.prog X.w X.K X.mg X.base c m k n F)(hr:bM k' X.A)(ho:QE X o go)(hk:k<=k':=by first|decide|omega)
  (ht:eval (.Call (.Attribute o m apos) [] [] pos) X.env=(do
   let ov <-eval o X.env
   standAt apos.atName
   let (f,first) <-holding [ov] (getMethod ov m pl)
   callWith pos f first (backTo pos (starEach [] X.env)) (backToKw pos (keywordEach [] X.env))):=by rfl):QE X (.Call (.Attribute o m apos) [] [] pos) (eO c m n F go af):=by
 obtain⟨C,f,fd,ps,a1,a2,a3,a4⟩:=h;exact G0 (pl:=pl) a2.1 a3 a1 (hr.mono hk) a4 ho ht
def FN (h:Om X.prog X.w X.K X.mg X.base c "__init__" k n F)(hr:bM k' X.A)(ha:QA X (e::es) gA)(hk:k+1<=k':=by first|decide|omega)(hg:Gl X c:=by rfl)
  (hdb:(c==("__debug__":Str))=false:=by decide) (h1:aW e=true:=by rfl) (h2:dj es=true:=by rfl):QE X (.Call (.Name c p) (e::es) [] pos) (iC c n F gA):=by
 obtain⟨C,f,fd,ps,a1,a2,a3,a4⟩:=h;exact JH a2.1 ⟨a2.2.1,a3.at_,a3.fn,a2.2.2⟩ a1 (hr.mono hk) hg a4 ha hdb h1 h2
def Jl (h:NA X.K X.mg c f)(he:QE X e g)(hb:attributeBase e f X.env (eval e X.env)=eval e X.env:=by rfl):QE X (.Attribute e f pos) (d7 c f g):=by
 obtain⟨C,h1,h2⟩:=h;exact MQ h1.1 h2 he hb
def JC (h:NA X.K X.mg c f)(ho:QE X o go)(hv:QE X value gv)(hs:jz value=true:=by rfl):QS X (.Assign [.Attribute o f pos'] value pos) (fX c f go gv):=by
 obtain⟨C,h1,h2⟩:=h;exact Nw h1.1 h2 ho hv hs
def Mm {tpos:Pos}(h:NA X.K X.mg c f)(ho:QE X o go)(hv:QE X value gv):QS X (.AugAssign (.Attribute o f tpos) .Add value pos) (Iw c f go gv):=by
 obtain⟨C,h1,h2⟩:=h;exact Pg h1.1 h2 ho hv
def Ci {np cpos:Pos}(h:EX X.K X.mg x)(he:QE X e g)(hg:Gl X x:=by rfl)(hc:X.calm=true:=by rfl)(h1:aW e=true:=by rfl)(hd:(x==("__debug__":Str))=false:=by decide):QS X (.Raise (Z (.Call (.Name x np) [e] [] cpos)) Y pos) (fV x g):=by
 obtain⟨C,h⟩:=h;exact D7 h hg he hc h1 hd
def HI (h:IX X.K X.mg x tab)(hmi:X.mg "isinstance"=Y)(he:QE X e g)(hg:Gl X x:=by rfl)(hgi:Gl X "isinstance":=by rfl)
  (h1:aW e=true:=by rfl) (hd:(x==("__debug__":Str))=false:=by decide):QE X (.Call (.Name "isinstance" p) [e,.Name x p2] [] pos) (jf (vY tab) g):=by
 obtain⟨G,h,t⟩:=h;exact LO h.m (Fg λp hp=>(t p hp).elim λC q=>⟨C,q.1.at_,q.1.k,Ja h q.2⟩) hg hgi hmi he h1 hd
def FT {T:String}(h:IB X.K X.mg T tab)(hm:X.mg x=Y)(hmi:X.mg "isinstance"=Y)(he:QE X e g)(hT:W.kitMeta T=true)(hv:bootBuiltins x=Z (.type T))(hg:Gl X x:=by rfl)(hgi:Gl X "isinstance":=by rfl)
  (h1:aW e=true:=by rfl) (hn:x≠"__name__":=by decide) (hd:(x==("__debug__":Str))=false:=by decide):QE X (.Call (.Name "isinstance" p) [e,.Name x p2] [] pos) (jf (vY tab) g):=
 Hj hv hm (Fg λp hp=>(h p hp).elim λC q=>⟨C,q.1.at_,q.1.k,Dn hT q.2⟩) hg hgi hmi he h1 hn hd
def IS {l:List Str}{G n:Str}{i:Nat}{gB gh:GS}{body suite:List Stmt}{b0:Stmt}{np hpos:Pos}(h:IX X.K X.mg G tab)(hN:X.N.Nodup)
  (hb:∀pn E,QB (sY X pn E) body gB) (hh:∀pn a,QB (n9 X pn a) (b0::suite) gh) (hl:tab=l.map (·,true):=by rfl)
  (hg:Gl X G:=by rfl) (hst:X.stack=X.env::X.outer:=by rfl) (hf:X.env.frame=Z X.env.locals:=by rfl) (hi:X.N[i]?=Z n:=by rfl) (hl:X.env.kindOf n=Z .local:=by rfl) (hfn:X.fn n=true\/X.env.scope.names.lookup n=Z .local:=by first|exact .inl rfl|exact .inr rfl)
  (hd:(G==("__debug__":Str))=false:=by decide):QS X (.Try body [.ExceptHandler (Z (.Name G np)) (Z n) (b0::suite) hpos] [] [] pos) (oJ i (List.contains l) gB gh):=by
 obtain⟨C,h,t⟩:=h;refine KZ h (SZ (l:=l) λc hc=>?_) hN hb hh hg hst hf hi hl hfn hd;subst tab;obtain⟨D,q1,q2⟩:=t (c,true) (mem_map.mpr ⟨c,hc,rfl⟩);exact⟨D,q1.at_,q2⟩
end
section
variable {X:Cx}{x:Str}{pos px:Pos}{ge:GE}{scope:Scope}{xs R:List Str}{iter elt tg:Expr}{ifs:List Expr}{gI:GI}{gC:GT}{sg:GG}{mk:List D->az->aX D}{j:Nat}{y:Str}{py spos:Pos}{n:Nat}
def Gn (hS:cR scope X.env.kindOf [x] X.N X.N=true)(hm:mk=aP\/mk=dS)(hi:QI X (.Name x px) iter gI)(hts:EE X scope [x] X.N ifs gC)(he:∀fp s H C,QE (aN X scope [x] X.N fp s H C) elt ge)
  (hc:X.calm=true:=by rfl) (hs:∀x,foldedSetIterable iter X.env x=pure x:=by intro _;rfl):QE X (.ListComp elt [⟨.Name x px,iter,ifs,0⟩] scope pos) (bq gI gC ge mk):=Hg hS hm hi hts he hc hs
def yY (hS:cR scope X.env.kindOf [x] X.N X.N=true)(hm:mk=aP\/mk=dS)(hN:X.N.Nodup)(hi:QI X (.Name x px) iter gI)(hts:EE X scope [x] X.N ifs gC)(he:∀fp s H C,QE (aN X scope [x] X.N fp s H C) elt ge)
  (hc:X.calm=true:=by rfl) (hj:X.N[j]?=Z y:=by rfl) (hy:X.env.scope.names.lookup y=Z .local:=by rfl) (hsw:swapsWith (.ListComp elt [⟨.Name x px,iter,ifs,0⟩] scope pos) (Z (.Name y py)) spos.line X.env=pure true:=by rfl)
  (hs:∀x,foldedSetIterable iter X.env x=pure x:=by intro _;rfl):QS X (.Assign [.Name y py] (.ListComp elt [⟨.Name x px,iter,ifs,0⟩] scope pos) spos) (aL j (bq gI gC ge mk)):=uG hS hm hN hi hts he hc hj hy hsw hs
def yM (_:RN pos.line pos.col [x] R)(hS:cR scope X.env.kindOf [x] R X.N=true)(hm:mk=aP\/mk=dS)(hN:X.N.Nodup)(hi:QI X (.Name x px) iter gI)(hts:EE X scope [x] R ifs gC)(he:∀fp s H C,QE (aN X scope [x] R fp s H C) elt ge)
  (hc:X.calm=true:=by rfl) (hj:X.N[j]?=Z y:=by rfl) (hy:X.env.scope.names.lookup y=Z .local:=by rfl) (hsw:swapsWith (.ListComp elt [⟨.Name x px,iter,ifs,0⟩] scope pos) (Z (.Name y py)) spos.line X.env=pure true:=by rfl)
  (hs:∀x,foldedSetIterable iter X.env x=pure x:=by intro _;rfl):QS X (.Assign [.Name y py] (.ListComp elt [⟨.Name x px,iter,ifs,0⟩] scope pos) spos) (aL j (bq gI gC ge mk)):=uG hS hm hN hi hts he hc hj hy hsw hs
def CQ (_:RN pos.line pos.col xs R)(hS:cR scope X.env.kindOf xs R X.N=true)(hm:mk=aP\/mk=dS)(own:QO xs.length sg)(hi:QI X tg iter gI)(hg:∀fp s H C,QG (aN X scope xs R fp s H C) tg sg)(hts:EE X scope xs R ifs gC)(he:∀fp s H C,QE (aN X scope xs R fp s H C) elt ge)
  (hn:xs.length=n:=by rfl) (hc:X.calm=true:=by rfl) (hs:∀x,foldedSetIterable iter X.env x=pure x:=by intro _;rfl):QE X (.ListComp elt [⟨tg,iter,ifs,0⟩] scope pos) (bY gI n sg gC ge mk):=hn▸DW xs hS hm own hi hg hts he hc hs
def xv (_:RN pos.line pos.col xs R)(hS:cR scope X.env.kindOf xs R X.N=true)(hm:mk=aP\/mk=dS)(own:QO xs.length sg)(hN:X.N.Nodup)(hi:QI X tg iter gI)(hg:∀fp s H C,QG (aN X scope xs R fp s H C) tg sg)(hts:EE X scope xs R ifs gC)(he:∀fp s H C,QE (aN X scope xs R fp s H C) elt ge)
  (hn:xs.length=n:=by rfl) (hc:X.calm=true:=by rfl) (hj:X.N[j]?=Z y:=by rfl) (hy:X.env.scope.names.lookup y=Z .local:=by rfl) (hsw:swapsWith (.ListComp elt [⟨tg,iter,ifs,0⟩] scope pos) (Z (.Name y py)) spos.line X.env=pure true:=by rfl)
  (hs:∀x,foldedSetIterable iter X.env x=pure x:=by intro _;rfl):QS X (.Assign [.Name y py] (.ListComp elt [⟨tg,iter,ifs,0⟩] scope pos) spos) (aL j (bY gI n sg gC ge mk)):=hn▸yD xs hS hm own hN hi hg hts he hc hj hy hsw hs
end
structure Tx (tab:List (Str×Stmt×List Str))(mtab:List (Str×Str×Str×Stmt×List Str))(ls:List (Str×Stmt×List Str))(zs es:List Str)(rs:List (Str×List (Str×Bool)))(vt:List (Str×Bool))(nas:List (Str×Str))(cs:List (Str×Str))(ci:List (Str×Int))
  (P:Program) (w:World) (K:W.Frag) (mg:Str->Option Value) (base:Heap):Prop where
 f:Ls (λt=>FF K mg t.1 t.2.1 t.2.2) tab
 m:Ls (λt=>MF K mg t.1 t.2.1 t.2.2.1 t.2.2.2.1 t.2.2.2.2) mtab
 l:Ls (λt=>LF K mg t.1 t.2.1 t.2.2) ls
 z:∀x∈zs,mg x=Y
 e:∀x∈es,EX K mg x
 r:Ls (λt=>IX K mg t.1 t.2) rs
 b:IB K mg "ValueError" vt
 a:∀t∈nas,NA K mg t.1 t.2
 s:Ls (λt=>∃tk,mg t.1=Z (.str t.2 tk)) cs
 i:Ls (λt=>∃tk,mg t.1=Z (.int t.2 tk)) ci
variable{K:W.Frag}{mg:Str->Option Value}
def Bc {l:List (Str×Str)}(h:∀t∈l,NA K mg t.1 t.2)(c f:Str)(e:(c,f)∈l:=by decide +kernel):NA K mg c f:=h (c,f) e
def ve {l:List (Str×List (Str×Bool))}{x:Str}{t:List (Str×Bool)}(h:Ls (λt=>IX K mg t.1 t.2) l)(e:l.lookup x=Z t):IX K mg x t:=by
 refine h (x,t) ?_
 induction l with
 | nil=>cases e
 | cons p l ih=>
  obtain⟨y,u⟩:=p;rw[lookup_cons] at e;split at e
  ·rename_i q;cases e;rw[eq_of_beq q];exact .head _
  ·exact .tail _ (ih (λt ht=>h t (.tail _ ht)) e)
section
variable {K:W.Frag}{mg:Str->Option Value}{x c m q:Str}{st:Stmt}{ps:List Str}{l:List (Str×Stmt×List Str)}{l':List (Str×Str×Str×Stmt×List Str)}
def cr (h:Ls (λt=>FF K mg t.1 t.2.1 t.2.2) l)(i:Nat)(e:l[i]?=Z (x,st,ps):=by rfl):FF K mg x st ps:=h _ (mem_of_getElem? e)
def RF (h:Ls (λt=>LF K mg t.1 t.2.1 t.2.2) l)(i:Nat)(e:l[i]?=Z (x,st,ps):=by rfl):LF K mg x st ps:=h _ (mem_of_getElem? e)
def tj (h:Ls (λt=>MF K mg t.1 t.2.1 t.2.2.1 t.2.2.2.1 t.2.2.2.2) l')(i:Nat)(e:l'[i]?=Z (c,m,q,st,ps):=by rfl):MF K mg c m q st ps:=h _ (mem_of_getElem? e)
end
section
variable {K:W.Frag}{h:Heap}{mg:Str->Option Value}{x c m q f':Str}{st:Stmt}{ps:List Str}{f C G:Addr}{oc kV dc pm cd ct:Value}{od an:Option Addr}{sl:Array (Option Value)}
def OZ (X:K.In h)(Gm:h.Ns mainGlobals mg)(a:W.nsIn K mainGlobals x=Z (Z (.ref f)))(l:K.lookup f=Z ⟨oc,od,.func (W.fnOf x x (gJ st) (cW st) (aR st) .none kV dc pm an cd ct),sl⟩)(c:W.codeIn K cd x=true)(k:W.keepIn K (.ref f)=true)
  (b:∀(kV doc pm:Value) (an:Option Addr) (cdv ct:Value) (us:List Value),us.length=ps.length->bindArgs (W.fnOf x x (gJ st) (cW st) (aR st) .none kV doc pm an cdv ct) ⟨us,[]⟩=pure (ps.zip us)):FF K mg x st ps:=
 ⟨f,_,qu (st:=st) l c k,W.mg_of X Gm a,(qu (st:=st) l c k).binds b⟩
def PZ (X:K.In h)(Gm:h.Ns mainGlobals mg)(q:W.nsIn K mainGlobals c=Z (Z (.ref C)))(pg:W.plainGet K C Str.empty=true)(hd:W.hasDictIn K C=true)(po:W.plainOver K C=true)(sa:W.findIn K (.ref C) "__setattr__"=Z (Z (.builtin "object.__setattr__")))
  (mi:W.makesIn K C=true) (kp:W.keepIn K (.ref C)=true):KC K mg c C:=⟨⟨q,W.mg_of X Gm q,pg,hd,po,sa⟩,mi,kp⟩
def Qn (kC:KC K mg c C)(a:W.findIn K (.ref C) m=Z (Z (.ref f)))(l:K.lookup f=Z ⟨oc,od,.func (W.fnOf m q (gJ st) (cW st) (aR st) .none kV dc pm an cd ct),sl⟩)(cc:W.codeIn K cd q=true)(k:W.keepIn K (.ref f)=true)(n:W.isFn K (.ref f)=true)
  (b:∀(kV doc pm:Value) (an:Option Addr) (cdv ct:Value) (us:List Value),us.length=ps.length->bindArgs (W.fnOf m q (gJ st) (cW st) (aR st) .none kV doc pm an cdv ct) ⟨us,[]⟩=pure (ps.zip us)):MF K mg c m q st ps:=
 ⟨C,f,_,kC,qu (st:=st) l cc k,⟨a,n,k⟩,(qu (st:=st) l cc k).binds b⟩
def PY (kC:KC K mg c C)(a:W.findIn K (.ref C) f'=Z Y):NA K mg c f':=⟨C,kC,a⟩
def OA (X:K.In h)(Gm:h.Ns mainGlobals mg)(q:W.nsIn K mainGlobals x=Z (Z (.ref C)))(cl:W.isClsIn K C=true)(ca:W.findIn K (.ref C) "__class__"=Z (Z (.builtin "object.__class__")))(sp:W.specialIn K (.builtin "object.__class__") "__get__"=Z (Z (.builtin "getset_descriptor.__get__")))(tk:W.takesIn K (.builtin "object.__class__")=Z true)
  (ob:W.mroIn K C (.type "object")=Z true) (ga:W.findIn K (.ref C) "__getattribute__"=Z (Z (.builtin "BaseException.__getattribute__"))) (gh:W.findIn K (.ref C) "__getattr__"=Z Y) (be:W.mroIn K C (.type "BaseException")=Z true)
  (ex:W.excIn K C OS "ValueError.__new__"=true) (ty:W.typeIn K (.ref C)=Z (.type "type")) (sf:W.mroIn K C (.ref C)=Z true):Ec K mg x C:=⟨q,W.mg_of X Gm q,⟨cl,ca,sp,tk,ob,ga,gh,be⟩,ex,ty,sf⟩
def PL (h:Ec K mg x C):EX K mg x:=⟨C,h⟩
def Ol {tab:List (Str×Bool)}(h:Ec K mg x G)(t:Ls (λp=>∃C,Ec K mg p.1 C/\W.mroIn K C (.ref G)=Z p.2) tab):IX K mg x tab:=⟨G,h,t⟩
def Pa {T:Value}{b:Bool}(h:Ec K mg x C)(e:W.mroIn K C T=Z b):∃C,Ec K mg x C/\W.mroIn K C T=Z b:=⟨C,h,e⟩
def Sj (X:K.In h)(Gm:h.Ns mainGlobals mg)(e:W.nsIn K mainGlobals x=Z Y):mg x=Y:=W.mg_none_of X Gm e
def Ph {u:Tok->Value}{tk:Tok}(X:K.In h)(Gm:h.Ns mainGlobals mg)(e:W.nsIn K mainGlobals x=Z (Z (u tk))):∃tk,mg x=Z (u tk):=⟨tk,W.mg_of X Gm e⟩
end
def OW {h:Heap}{x:Str}{st:Stmt}{ps:List Str}{f c P:Addr}{oc occ kV dc pm ct:Value}{od odc an:Option Addr}{sl slc:Array (Option Value)}{vs:Array Value}{file:Str}{tf tg tt:Tok}{flags text:Int}{inF:Bool}
  (X:K.In h) (Gm:h.Ns mainGlobals mg) (a:W.nsIn K mainGlobals x=Z (Z (.ref f))) (l:K.lookup f=Z ⟨oc,od,.func (W.fnOf x x (gJ st) (cW st) (aR st) .none kV dc pm an (.ref c) ct),sl⟩) (cc:W.codeIn K (.ref c) x=true) (k:W.keepIn K (.ref f)=true)
  (lc:K.lookup c=Z ⟨occ,odc,.fields vs,slc⟩) (hcc:occ=.type "code") (h11:vs[11]?=Z (.ref P)) (h18:vs.getD 18 .none=.str file tf) (h7:vs.getD 7 .none=.int flags tg) (h9:vs.getD 9 .none=.bool inF) (h10:vs.getD 10 .none=.int text tt) (ne:c≠P)
  (hm:x∈cN) (un:∀y,y∈cN->y≠x->W.nsIn K mainGlobals y=Z Y)
  (b:∀(kV doc pm:Value) (an:Option Addr) (cdv ct:Value) (us:List Value),us.length=ps.length->bindArgs (W.fnOf x x (gJ st) (cW st) (aR st) .none kV doc pm an cdv ct) ⟨us,[]⟩=pure (ps.zip us)):LF K mg x st ps:=
 ⟨f,_,c,P,⟨qu (st:=st) l cc k,W.mg_of X Gm a,(qu (st:=st) l cc k).binds b⟩,a,JK hm a l rfl lc hcc h11 h18 h7 h9 h10 ne λy hy n=>.inl (un y hy n)⟩
def MH {l:W.OpenLaw}{w:World}{fa:Addr}{st:Stmt}{k:Nat}{F:FD}(hfa:mg "law"=Z (.ref fa))(L:FF K mg "law" st ["script"])
  (h:∀(base:Heap) (f:Addr) (fd:FuncData),Fn K mg "law" st f fd ["script"]->eB l.prog w K mg base (iz l.prog w) k f fd ["script"] (og K 1 F))
  (hb:∀(kV doc pm:Value) (an:Option Addr) (cdv ct:Value) (v:Value),bindArgs (W.fnOf "law" "law" (gJ st) (cW st) (aR st) .none kV doc pm an cdv ct) ⟨[v],[]⟩=pure [(("script":Str),v)]) :
  ∃fd:FuncData,(∀(s:Shared) (v:Value),BindsTo s fd ⟨[v],[]⟩ [("script",v)])/\∀base:Heap,K.In base->base.Ns mainGlobals mg->eB l.prog w K mg base (iz l.prog w) k fa fd ["script"] (og K 1 F):=by
 obtain⟨f,fd,L⟩:=L;have e:=hfa.symm.trans L.m;cases e;refine⟨fd,λs v=>?_,λbase _ _=>h base _ fd L⟩;obtain⟨oc,od,kV,doc,pm,an,cdv,ct,osl,rfl,lk,hcd⟩:=L.F.ex;exact .of_eq (hb kV doc pm an cdv ct v)
end DL
namespace DL
open PySem PySem.Spec PyProof.Rows PySem.W L2 List
variable{p:Array Nat}{n:Nat}{Q:Nat×Array Nat->Shared->Prop}
section
variable {key:Nat->Int}{N:Nat}{s:Shared}{cmp:Nat->Nat->(Bool->Shared->Prop)->Shared->Prop}
def kp (key:Nat->Int)(p:Array Nat)(k:Nat):Int:=key (p.getD k 0)
def zh (N:Nat)(p:Array Nat):Prop:=∀k,p.getD k 0<N
def up (key:Nat->Int)(p:Array Nat)(n:Nat):Prop:=∀k,k+1<n->kp key p k<=kp key p (k+1)
def down (key:Nat->Int)(p:Array Nat)(n:Nat):Prop:=∀k,k+1<n->kp key p (k+1)<=kp key p k
def oP (key:Nat->Int)(N:Nat)(s:Shared)(cmp:Nat->Nat->(Bool->Shared->Prop)->Shared->Prop):Prop:=∀i j C,i<N->j<N->C (decide (key i<key j)) s->cmp i j C s
def vJ {q:Array Nat}{i j:Nat}(h:p[i]?=q[j]?):kp key p i=kp key q j:=by
 unfold kp;rw[Array.getD_eq_getD_getElem?,Array.getD_eq_getD_getElem?,h]
def Gd {q:Array Nat}(h:∀k:Nat,∃j:Nat,p[k]?=q[j]?)(i:zh N q):zh N p:=λk=>by
 obtain⟨j,e⟩:=h k;have:=i j;rw[Array.getD_eq_getD_getElem?] at this ⊢;rw[e];exact this
theorem J2 {p:Array Nat}{n:Nat}(h:up key p n):∀(d i:Nat),i+d<n->kp key p i<=kp key p (i+d)
 | 0,i,_=>Int.le_refl _
 | d+1,i,q=>Int.le_trans (J2 h d i (by omega)) (h (i+d) (by omega))
def sv {i j:Nat}(h:up key p n)(hij:i<=j)(hj:j<n):kp key p i<=kp key p j:=by
 have:=J2 h (j-i) i (by omega);rwa [show i+(j-i)=j by omega] at this
def Ag {i j:Nat}(hj:j<=p.size)(k:Nat):(kas_rev p i j)[k]?=if i<=k/\k<j then p[i+j-1-k]? else p[k]?:=getElem?_mirror_all hj k
def sK {i j:Nat}(hj:j<=p.size)(h:zh N p):zh N (kas_rev p i j):=Gd (λk=>by
 rw[Ag hj k];split
 ·exact⟨_,rfl⟩
 ·exact⟨_,rfl⟩) h
def tJ {i j:Nat}(hj:j<=p.size)(e:∀k,i<=k->k<j->kp key p k=kp key p (j-1))(k:Nat):kp key (kas_rev p i j) k=kp key p k:=by
 have h:=Ag (i:=i) hj k
 by_cases q:i<=k/\k<j
 ·rw[if_pos q] at h;rw[vJ h,e _ (by omega) (by omega),e k q.1 q.2]
 ·rw[if_neg q] at h;exact vJ h
theorem zo (hc:oP key N s cmp){p:Array Nat}(hp:zh N p){Q:Nat->Shared->Prop}:∀(f n:Nat),1<=n->up key p n->(∀m,n<=m->m<=n+f->up key p m->(m<n+f->kp key p m<kp key p (m-1))->Q m s)->(kas_asc p f n).kasWp cmp Q s
 | 0,n,h1,u,h=>h n (Nat.le_refl _) (Nat.le_refl _) u (λz=>absurd z (by omega))
 | f+1,n,h1,u,h=>by
  refine hc _ _ _ (hp _) (hp _) ?_
  by_cases q:kp key p n<kp key p (n-1)
  ·rw[decide_eq_true (show key (p.getD n 0)<key (p.getD (n-1) 0) from q)];exact h n (Nat.le_refl _) (by omega) u λ_=>q
  ·rw[decide_eq_false (show¬key (p.getD n 0)<key (p.getD (n-1) 0) from q)];refine zo hc hp f (n+1) (by omega) (λk hk=>?_) λm a b c d=>h m (by omega) (by omega) c λz=>d (by omega)
   by_cases e:k+1<n
   ·exact u k e
   ·have:k=n-1:=by omega
    subst this;rw[show n-1+1=n by omega];omega
theorem rM (hc:oP key N s cmp){Q:Array Nat×Nat×Nat->Shared->Prop}:∀(f:Nat) (p:Array Nat) (n q:Nat),zh N p->n+f<=p.size->q+1<=n->down key p n->(∀k,n-(q+1)<=k->k<n->kp key p k=kp key p (n-1))->
  (∀p' n' q',p'.size=p.size->p'.Perm p->zh N p'->n<=n'->n'<=n+f->q'+1<=n'->down key p' n'->(∀k,n'-(q'+1)<=k->k<n'->kp key p' k=kp key p' (n'-1))->Q (p',n',q') s)->(kas_desc f p n q).kasWp cmp Q s
 | 0,p,n,q,hp,hz,hq,hd,he,h=>h p n q rfl (Array.Perm.refl _) hp (Nat.le_refl _) (Nat.le_refl _) hq hd he
 | f+1,p,n,q,hp,hz,hq,hd,he,h=>by
  refine hc _ _ _ (hp _) (hp _) ?_
  by_cases c:kp key p n<kp key p (n-1)
  ·rw[decide_eq_true (show key (p.getD n 0)<key (p.getD (n-1) 0) from c)];dsimp only;rw[if_pos rfl];have hd':down key p (n+1):=λk hk=>by
    by_cases e:k+1<n
    ·exact hd k e
    ·have:k=n-1:=by omega
     subst this;rw[show n-1+1=n by omega];omega
   by_cases z:q>0
   ·rw[if_pos z];have sm:=tJ (key:=key) (p:=p) (i:=n-(q+1)) (j:=n) (by omega) he;refine rM hc f (kas_rev p (n-(q+1)) n) (n+1) 0 (sK (by omega) hp) (by rw[kas_rev_size];omega) (by omega) (λk hk=>by rw[sm,sm];exact hd' k hk) (λk a b=>by rw[show k=n by omega];rfl) λp' n' q' a b c1 d e g i j=>h p' n' q' (a.trans (kas_rev_size ..)) (b.trans (mirror_perm ..)) c1 (by omega) (by omega) g i j
   ·rw[if_neg z];exact rM hc f p (n+1) 0 hp (by omega) (by omega) hd' (λk a b=>by rw[show k=n by omega];rfl) λp' n' q' a b c1 d e g i j=>h p' n' q' a b c1 (by omega) (by omega) g i j
  ·rw[decide_eq_false (show¬key (p.getD n 0)<key (p.getD (n-1) 0) from c)];dsimp only;rw[if_neg (by simp)];refine hc _ _ _ (hp _) (hp _) ?_
   by_cases c2:kp key p (n-1)<kp key p n
   ·rw[decide_eq_true (show key (p.getD (n-1) 0)<key (p.getD n 0) from c2)];dsimp only;rw[if_pos rfl];exact h p n q rfl (Array.Perm.refl _) hp (Nat.le_refl _) (by omega) hq hd he
   ·rw[decide_eq_false (show¬key (p.getD (n-1) 0)<key (p.getD n 0) from c2)];dsimp only;rw[if_neg (by simp)];have eq:kp key p n=kp key p (n-1):=by omega
    refine rM hc f p (n+1) (q+1) hp (by omega) (by omega) (λk hk=>?_) (λk a b=>?_) λp' n' q' a b c1 d e g i j=>h p' n' q' a b c1 (by omega) (by omega) g i j
    ·by_cases e:k+1<n
     ·exact hd k e
     ·have:k=n-1:=by omega
      subst this;rw[show n-1+1=n by omega];omega
    ·show _=kp key p n
     by_cases e:k<n
     ·rw[he k (by omega) e];omega
     ·rw[show k=n by omega]
def xS (hc:oP key N s cmp){m:Nat}(hp:zh N p)(h1:1<=n)(hn:n<=m)(hz:m<=p.size)(hd:down key p n)
  (h:∀k p',p'.size=p.size->p'.Perm p->zh N p'->1<=k->k<=m->up key p' k->Q (k,p') s):(kas_tail3 n m p).kasWp cmp Q s:=by
 unfold kas_tail3;rw[KasT.kasWp_bind];have at':∀k,k<n->kp key (kas_rev p 0 n) k=kp key p (n-1-k):=λk hk=>by
  have e:=Ag (i:=0) (j:=n) (p:=p) (by omega) k;rw[if_pos ⟨by omega,hk⟩] at e;rw[vJ e,show 0+n-1-k=n-1-k by omega]
 refine zo hc (sK (by omega) hp) _ n h1 (λk hk=>?_) λk a b c _=>h k _ (kas_rev_size ..) (mirror_perm ..) (sK (by omega) hp) (by omega) (by omega) c
 rw[at' k (by omega),at' (k+1) hk];have:=hd (n-1-(k+1)) (by omega);rwa [show n-1-(k+1)+1=n-1-k by omega] at this
def qS (hc:oP key N s cmp){m:Nat}(hp:zh N p)(hn:n+1<=m)(hz:m<=p.size)(hd:down key p (n+1))
  (h:∀k p',p'.size=p.size->p'.Perm p->zh N p'->1<=k->k<=m->up key p' k->Q (k,p') s):(kas_descPart n m p).kasWp cmp Q s:=by
 unfold kas_descPart;rw[KasT.kasWp_bind];refine rM hc _ p (n+1) 0 hp (by omega) (by omega) hd (λk a b=>by rw[show k=n by omega];rfl) λp' n' q' a b c d e g i j=>?_
 dsimp only;split
 ·have sm:=tJ (key:=key) (p:=p') (i:=n'-(q'+1)) (j:=n') (by omega) j;exact xS hc (sK (by omega) c) (by omega) (by omega) (by rw[kas_rev_size];omega) (λk hk=>by rw[sm,sm];exact i k hk) λk p2 a2 b2 c2 d2 e2 g2=>h k p2 (a2.trans ((kas_rev_size ..).trans a)) (b2.trans ((mirror_perm ..).trans b)) c2 d2 e2 g2
 ·exact xS hc c (by omega) (by omega) (by omega) i λk p2 a2 b2 c2 d2 e2 g2=>h k p2 (a2.trans a) (b2.trans b) c2 d2 e2 g2
def Ge (hc:oP key N s cmp){m:Nat}(hp:zh N p)(h1:1<=m)(hz:m<=p.size)
  (h:∀k p',p'.size=p.size->p'.Perm p->zh N p'->1<=k->k<=m->up key p' k->Q (k,p') s):(kas_count m p).kasWp cmp Q s:=by
 unfold kas_count;rw[KasT.kasWp_bind];refine zo hc hp _ 1 (Nat.le_refl _) (λk hk=>absurd hk (by omega)) λn a b c d=>?_
 by_cases e:n=m
 ·rw[if_pos (by simp[e])];exact h n p rfl (Array.Perm.refl _) hp a (by omega) c
 ·rw[if_neg (by simp[e])];have lt:=d (by omega)
  by_cases z:n>1
  ·rw[if_pos z];refine hc _ _ _ (hp _) (hp _) ?_
   by_cases t:kp key p 0<kp key p (n-1)
   ·rw[decide_eq_true (show key (p.getD 0 0)<key (p.getD (n-1) 0) from t)];dsimp only;rw[if_pos rfl];exact h n p rfl (Array.Perm.refl _) hp a (by omega) c
   ·rw[decide_eq_false (show¬key (p.getD 0 0)<key (p.getD (n-1) 0) from t)];dsimp only;rw[if_neg (by simp)];have al:∀k,0<=k->k<n->kp key p k=kp key p (n-1):=λk _ hk=>by
     have x:=sv c (show 0<=k by omega) hk;have y:=sv c (show k<=n-1 by omega) (by omega);omega
    have sm:=tJ (key:=key) (p:=p) (i:=0) (j:=n) (by omega) al;refine qS hc (sK (by omega) hp) (by omega) (by rw[kas_rev_size];omega) (λk hk=>?_) λk p2 a2 b2 c2 d2 e2 g2=>h k p2 (a2.trans (kas_rev_size ..)) (b2.trans (mirror_perm ..)) c2 d2 e2 g2
    rw[sm,sm]
    by_cases w:k+1<n
    ·rw[al k (by omega) (by omega),al (k+1) (by omega) w];exact Int.le_refl _
    ·have:k=n-1:=by omega
     subst this;rw[show n-1+1=n by omega];omega
  ·rw[if_neg z];have e1:n=1:=by omega
   subst e1;refine qS hc hp (by omega) hz (λk hk=>?_) h;have:k=0:=by omega
   subst this;exact Int.le_of_lt lt
theorem sZ (hc:oP key N s cmp){p:Array Nat}{k:Nat}(hp:zh N p)(hu:up key p k){Q:Nat->Shared->Prop}:∀(f l r:Nat),l<=r->r<=k->r-l<=f->(∀i,i<l->kp key p i<=kp key p k)->(∀i,r<=i->i<k->kp key p k<=kp key p i)->
  (∀m,m<=k->(∀i,i<m->kp key p i<=kp key p k)->(∀i,m<=i->i<k->kp key p k<=kp key p i)->Q m s)->(kas_place p k f l r).kasWp cmp Q s
 | 0,l,r,h1,h2,h3,a,b,h=>h l (by omega) a λi x y=>b i (by omega) y
 | f+1,l,r,h1,h2,h3,a,b,h=>by
  unfold kas_place
  by_cases e:l≥r
  ·rw[if_pos e];exact h l (by omega) a λi x y=>b i (by omega) y
  ·rw[if_neg e];refine hc _ _ _ (hp _) (hp _) ?_
   by_cases t:kp key p k<kp key p ((l+r) / 2)
   ·rw[decide_eq_true (show key (p.getD k 0)<key (p.getD ((l+r) / 2) 0) from t)];dsimp only;rw[if_pos rfl];exact sZ hc hp hu f l _ (by omega) (by omega) (by omega) a (λi x y=>by
     have:=sv hu x y;omega) h
   ·rw[decide_eq_false (show¬key (p.getD k 0)<key (p.getD ((l+r) / 2) 0) from t)];dsimp only;rw[if_neg (by simp)];exact sZ hc hp hu f _ r (by omega) h2 (by omega) (λi x=>by
     have:=sv hu (show i<=(l+r) / 2 by omega) (by omega);omega) b h
theorem D5 (hc:oP key N s cmp){Q:Array Nat->Shared->Prop}:∀(f:Nat) (p:Array Nat) (k:Nat),zh N p->k+f=p.size->up key p k->(∀p',p'.Perm p->up key p' p.size->Q p' s)->(kas_bin f p k).kasWp cmp Q s
 | 0,p,k,hp,hz,hu,h=>h p (Array.Perm.refl _) (by rw[<-hz];exact hu)
 | f+1,p,k,hp,hz,hu,h=>by
  unfold kas_bin;rw[KasT.kasWp_bind];refine sZ hc hp hu k 0 k (Nat.zero_le _) (Nat.le_refl _) (by omega) (λi x=>absurd x (by omega)) (λi x y=>absurd x (by omega)) λm hm a b=>?_
  have at':=getElem?_bubble (xs:=p) (src:=k) (by omega) (k-m) (by omega);have sz:(bubble p k (k-m)).size=p.size:=bubble_size ..;have e1:k-(k-m)=m:=by omega
  rw[e1] at at';refine D5 hc f _ (k+1) (Gd (λi=>by
   rw[at' i];split
   ·exact⟨_,rfl⟩
   ·split
    ·exact⟨_,rfl⟩
    ·exact⟨_,rfl⟩) hp) (by rw[sz];omega) (λi hi=>?_) λp' x y=>h p' (x.trans (bubble_perm ..)) (by rw[sz] at y;exact y)
  have g:∀i,i<=k->kp key (bubble p k (k-m)) i=if i=m then kp key p k else if m<i then kp key p (i-1) else kp key p i:=λi hi=>by
   have:=at' i
   by_cases q1:i=m
   ·rw[if_pos q1] at this ⊢;exact vJ this
   ·rw[if_neg q1] at this ⊢
    by_cases q2:m<i
    ·rw[if_pos ⟨q2,hi⟩] at this;rw[if_pos q2];exact vJ this
    ·rw[if_neg (by omega)] at this;rw[if_neg q2];exact vJ this
  rw[g i (by omega),g (i+1) (by omega)]
  by_cases q1:i=m
  ·rw[if_pos q1,if_neg (by omega),if_pos (by omega),show i+1-1=i by omega];exact b i (by omega) (by omega)
  ·rw[if_neg q1]
   by_cases q2:m<i
   ·rw[if_pos q2,if_neg (by omega),if_pos (by omega),show i+1-1=i by omega];have:=hu (i-1) (by omega);rwa [show i-1+1=i by omega] at this
   ·rw[if_neg q2]
    by_cases q3:i+1=m
    ·rw[if_pos q3];exact a i (by omega)
    ·rw[if_neg q3,if_neg (by omega)];exact hu i (by omega)
def IJ (hc:oP key n s cmp)(h2:1<=n){Q:Array Nat->Shared->Prop}(h:∀p:Array Nat,p.Perm (List.toArray (List.range n))->up key p n->Q p s):(kas_sort n).kasWp cmp Q s:=by
 unfold kas_sort;rw[KasT.kasWp_bind];have h0:zh n (List.toArray (List.range n)):=λk=>by
  rw[Array.getD_eq_getD_getElem?,getElem?_toArray]
  by_cases q:k<n
  ·rw[getElem?_range q];exact q
  ·rw[getElem?_eq_none (by rw[length_range];omega)];exact h2
 have hz:(List.toArray (List.range n)).size=n:=by simp
 refine Ge hc h0 h2 (by omega) λk p' a b c d e g=>?_
 dsimp only
 by_cases z:k<n
 ·rw[if_pos z];have em:max k 1=k:=by omega
  rw[em];exact D5 hc _ p' k c (by omega) g λp2 x y=>h p2 (x.trans b) (by rw[a,hz] at y;exact y)
 ·rw[if_neg z];have:k=n:=by omega
  subst this;exact h p' b g
end
variable{zs:List (List Int)}
section
theorem oF:∀a:List Int,HT.lexLt a a=false
 | []=>rfl
 | x::a=>by rw[HT.lexLt_cons,if_pos rfl];exact oF a
theorem rK:∀a b:List Int,HT.lexLt a b=false->HT.lexLt b a=false->a=b
 | [],[],_,_=>rfl
 | [],_::_,h,_=>by cases h
 | _::_,[],_,h=>by cases h
 | x::a,y::b,h1,h2=>by
  rw[HT.lexLt_cons] at h1 h2
  by_cases e:x=y
  ·subst e;rw[if_pos rfl] at h1 h2;rw[rK a b h1 h2]
  ·rw[if_neg e,decide_eq_false_iff_not] at h1;rw[if_neg (λz=>e z.symm),decide_eq_false_iff_not] at h2;omega
theorem kq:∀a b c:List Int,HT.lexLt a b=true->HT.lexLt b c=true->HT.lexLt a c=true
 | [],[],_,h,_=>by cases h
 | [],_::_,[],_,h=>by cases h
 | [],_::_,_::_,_,_=>rfl
 | _::_,[],_,h,_=>by cases h
 | _::_,_::_,[],_,h=>by cases h
 | x::a,y::b,z::c,h1,h2=>by
  rw[HT.lexLt_cons] at h1 h2 ⊢
  by_cases e:x=y
  ·subst e;rw[if_pos rfl] at h1
   by_cases e2:x=z
   ·subst e2;rw[if_pos rfl] at h2 ⊢;exact kq a b c h1 h2
   ·rw[if_neg e2] at h2 ⊢;exact h2
  ·rw[if_neg e,decide_eq_true_iff] at h1
   by_cases e2:y=z
   ·subst e2;rw[if_neg e,decide_eq_true_iff];exact h1
   ·rw[if_neg e2,decide_eq_true_iff] at h2;rw[if_neg (by omega),decide_eq_true_iff];omega
def rank (zs:List (List Int))(z:List Int):Int:=(zs.countP λy=>HT.lexLt y z:Nat)
theorem BH {α:Type}{p q:α->Bool}:∀{l:List α} {x:α},(∀y,p y=true->q y=true)->x∈l->p x=false->q x=true->l.countP p<l.countP q
 | a::l,x,hs,hx,h1,h2=>by
  rw[countP_cons,countP_cons];rcases mem_cons.mp hx with e|e
  ·subst e;have:=countP_mono_left (l:=l) (λy _=>hs y);rw[if_neg (by simp[h1]),if_pos h2];omega
  ·have:=BH hs e h1 h2;have h3:=hs a;cases q1:p a with
   | true=>rw[h3 q1];simp only[if_true];omega
   | false=>cases q a <;> simp <;> omega
def FS {a b:List Int}(ha:a∈zs):HT.lexLt a b=decide (rank zs a<rank zs b):=by
 cases h:HT.lexLt a b with
 | true=>
  have:=BH (l:=zs) (x:=a) (p:=λy=>HT.lexLt y a) (q:=λy=>HT.lexLt y b) (λy q=>kq y a b q h) ha (oF a) h;exact(decide_eq_true (by unfold rank;omega)).symm
 | false=>
  have:zs.countP (λy=>HT.lexLt y b)<=zs.countP (λy=>HT.lexLt y a):=countP_mono_left (l:=zs) (p:=λy=>HT.lexLt y b) (q:=λy=>HT.lexLt y a) λy _ q=>by
   have q:HT.lexLt y b=true:=q;show HT.lexLt y a=true;cases h2:HT.lexLt b a with
   | true=>exact kq y b a q h2
   | false=>rw[rK a b h h2];exact q
  exact(decide_eq_false (by unfold rank;omega)).symm
def iq (zs:List (List Int)):List (List Int):=zs.mergeSort λa b=>!HT.lexLt b a
def jm (zs:List (List Int)):(iq zs).Perm zs:=mergeSort_perm zs _
def yi (zs:List (List Int)):(iq zs).Pairwise λa b=>HT.lexLt b a=false:=by
 have h:(iq zs).Pairwise (λa b=>(!HT.lexLt b a)=true):=pairwise_mergeSort (le:=λa b=>!HT.lexLt b a) (λa b c h1 h2=>by
  simp only[Bool.not_eq_true'] at h1 h2 ⊢;cases q:HT.lexLt c a with
  | false=>rfl
  | true=>
   cases q2:HT.lexLt a b with
   | true=>rw[kq c a b q q2] at h2;cases h2
   | false=>have:=rK a b q2 h1;subst this;rw[q] at h2;cases h2) (λa b=>by
  cases q:HT.lexLt b a with
  | false=>rfl
  | true=>
   cases q2:HT.lexLt a b with
   | false=>rfl
   | true=>have:=kq a b a q2 q;rw[oF] at this;cases this) zs
 exact h.imp λh=>by simpa using h
theorem tV:∀{a b:List (List Int)},a.Perm b->a.Pairwise (λx y=>HT.lexLt y x=false)->b.Pairwise (λx y=>HT.lexLt y x=false)->a=b
 | [],b,p,_,_=>(List.Perm.nil_eq p)
 | x::a,[],p,_,_=>absurd p.symm.nil_eq (by simp)
 | x::a,y::b,p,ha,hb=>by
  have h1:HT.lexLt y x=false:=by
   rcases mem_cons.mp (p.symm.subset (mem_cons_self ..):y∈x::a) with e|e
   ·rw[e];exact oF x
   ·exact(pairwise_cons.mp ha).1 y e
  have h2:HT.lexLt x y=false:=by
   rcases mem_cons.mp (p.subset (mem_cons_self ..):x∈y::b) with e|e
   ·rw[e];exact oF y
   ·exact(pairwise_cons.mp hb).1 x e
  have e:=rK x y h2 h1;subst e;rw[tV (perm_cons x |>.mp p) (pairwise_cons.mp ha).2 (pairwise_cons.mp hb).2]
end
variable{h:Heap}{vs:List Value}
section
variable {prog:Program}{w:World}{A:Around}{E:Value->Shared->Prop}{s:Shared}
theorem yI {b fin:Bool}{Q:Bool->Shared->Prop}:∀{vs ws:List Value} {ns ms:List Int} (i:Nat),IntsAre vs ns->IntsAre ws ms->fin=decide (ns.length<ms.length)->Q (HT.lexLt ns ms) s->KatLex prog w A b fin Q (vs.zip ws) i s
 | _,_,_,_,i,.nil,.nil,e,h=>by
  rw[zip_nil_left];refine kat_nil ?_;rw[e];exact h
 | _,_,_,_,i,.nil,.cons _ _ _,e,h=>by
  rw[zip_nil_left];refine kat_nil ?_;rw[e,decide_eq_true (by simp)];exact h
 | _,_,_,_,i,.cons _ _ _,.nil,e,h=>by
  rw[zip_nil_right];refine kat_nil ?_;rw[e,decide_eq_false (by simp)];exact h
 | _,_,_,_,i,.cons (ns:=ns) x t r1,.cons (ns:=ms) y u r2,e,h=>by
  rw[zip_cons_cons];refine kat_cons (wpAny_eqBool_int ?_);rw[HT.lexLt_cons] at h
  by_cases q:x=y
  ·rw[if_pos q] at h;rw[show(x==y)=true by simp[q]];exact kat_yes (yI (i+1) r1 r2 (by rw[e];simp) h)
  ·rw[if_neg q] at h;rw[show(x==y)=false by simp[q]];refine kat_no ?_;cases (b&&i==0) with
   | true=>exact oneLt_int h
   | false=>exact kat_one _ _ (PyProof.Rows.lt_int (show W.BoolBack _ (.bool _) _ from h))
def ma (h:Heap):List Value->List (List Int)->Prop
 | [],[]=>True
 | v::vs,z::zs=>(∃b o xs k,v=.ref b/\h.get? b=Z o/\o.cls=.type "tuple"/\o.data=.seq xs k/\IntsAre xs.toList z/\z≠[])/\ma h vs zs
 | _,_=>False
theorem ma.length :∀{vs:List Value} {zs:List (List Int)},ma h vs zs->vs.length=zs.length
 | [],[],_=>rfl
 | [],_::_,t=>t.elim
 | _::_,[],t=>t.elim
 | _::_,_::_,t=>by rw[length_cons,length_cons,t.2.length]
theorem ma.keep {h':Heap}(k:∀b o,h.get? b=Z o->h'.get? b=Z o):∀{vs:List Value} {zs:List (List Int)},ma h vs zs->ma h' vs zs
 | [],[],_=>trivial
 | [],_::_,t=>t.elim
 | _::_,[],t=>t.elim
 | _::_,_::_,⟨⟨b,o,xs,n,e,g,r⟩,t⟩=>⟨⟨b,o,xs,n,e,k _ _ g,r⟩,t.keep k⟩
theorem ma.at' :∀{vs:List Value} {zs:List (List Int)} (i:Nat),ma h vs zs->i<vs.length->∃b o xs k,vs.getD i Value.none=.ref b/\h.get? b=Z o/\o.data=.seq xs k/\IntsAre xs.toList (zs.getD i [])
 | [],_,i,_,q=>absurd q (by simp)
 | _::_,[],_,t,_=>t.elim
 | _::_,_::_,0,⟨⟨b,o,xs,n,e,g,_,d,r,_⟩,_⟩,_=>⟨b,o,xs,n,e,g,d,r⟩
 | _::_,_::_,i+1,⟨_,t⟩,q=>t.at' i (by simpa using q)
theorem ma.firsts :∀{vs:List Value} {zs:List (List Int)},ma h vs zs->∃fs,KatTups h vs fs/\fs.length=vs.length/\∀v∈fs,∃n t,v=Value.int n t
 | [],[],_=>⟨[],.nil,rfl,λv hv=>by cases hv⟩
 | [],_::_,t=>t.elim
 | _::_,[],t=>t.elim
 | _::_,z::_,⟨⟨b,o,xs,n,e,g,c,d,r,z0⟩,t⟩=>by
  obtain⟨fs,k,l,f⟩:=t.firsts;subst e;cases r':xs.toList with
  | nil=>rw[r'] at r;cases r;exact absurd rfl z0
  | cons x ys=>
   rw[r'] at r;cases r with
   | cons m tk r2=>
    refine⟨Value.int m tk::fs,.cons g c d (by rw[<-Array.getElem?_toList,r'];rfl) k,by rw[length_cons,length_cons,l],λv hv=>?_⟩;rcases mem_cons.mp hv with e|e
    ·exact⟨m,tk,e⟩
    ·exact f v e
def GQ (t:ma s.heap vs zs):oP (λi=>rank zs (zs.getD i [])) vs.length s (kas_ask prog w A (tuples' true) vs):=λi j C hi hj h=>by
 obtain⟨b,o,xs,k,e1,g1,d1,r1⟩:=t.at' i hi;obtain⟨c,o2,ys,k2,e2,g2,d2,r2⟩:=t.at' j hj;show wpAny (model prog w) A (keyLt' (tuples' true) (vs.getD i Value.none) (vs.getD j Value.none)) C (λ_ _=>False) s;rw[e1,e2];refine kat_lt g1 d1 g2 d2 (yI 0 r1 r2 (by rw[<-r1.length,<-r2.length];simp) ?_);have mem:zs.getD i []∈zs:=by
  rw[t.length] at hi;rw[getD_eq_getElem?_getD,getElem?_eq_getElem hi];exact getElem_mem hi
 rw[FS mem];exact h
def sJ {a:Addr}{P:PySem.Fin->Shared->Prop}(ho:s.heap.get? a=Z (seqObj "list" vs.toArray n))(t:ma s.heap vs zs)(h64:vs.length<64)
  (h:∀p:Array Nat,p.Perm (List.toArray (List.range vs.length))->up (λi=>rank zs (zs.getD i [])) p vs.length->P (.done (.ret .none)) {s with heap:=sortedHeap s.heap a vs (List.toArray (p.toList.map λi=>vs.getD i Value.none))}) :
  wpAny (model prog w) A (Builtin.«list.sort» ⟨[.ref a],[]⟩) P E s:=by
 rw[list_sort_plain];have ha:a<s.heap.objs.size:=Heap.lt_size ho;have hsz:vs.toArray.size=vs.length:=by simp
 refine wpAny_bind (listItems_at ho rfl ?_);refine wpAny_bind (listUpdate_at ho rfl ?_ (by rw[size_toArray,sizeLine_eq];omega) (Nat.zero_le _));obtain⟨e1,ho1⟩:∃e1,(s.heap.update a (Obj.mapSeq λ_=>#[])).get? a=Z (seqObj "list" #[] e1):=⟨_,get?_update_seq ho (λ_=>#[])⟩;refine wpAny_bind (seqEpoch_at ho1 rfl ?_);refine wpAny_bind (wpAny_newTuple ?_ (by show vs.length<=_;rw[sizeLine_eq];omega));refine wpAny_bind (wpAny_newList ?_ (Nat.zero_le _));refine wpAny_holding ?_;have ho6:(((s.heap.update a (Obj.mapSeq λ_=>#[])).push (seqObj "tuple" vs.toArray 0)).push (seqObj "list" #[] 0)).get? a=Z (seqObj "list" #[] e1):=by
  rw[Heap.get?_push_ne _ _ _ (by rw[size_push',Heap.size_update];exact Nat.ne_of_lt (Nat.lt_succ_of_lt ha)),Heap.get?_push_ne _ _ _ (by rw[Heap.size_update];exact Nat.ne_of_lt ha)];exact ho1
 have t6:ma (((s.heap.update a (Obj.mapSeq λ_=>(#[]:Array Value))).push (seqObj "tuple" vs.toArray 0)).push (seqObj "list" #[] 0)) vs zs:=by
  have go:∀{vs':List Value} {zs':List (List Int)},ma s.heap vs' zs'->ma (((s.heap.update a (Obj.mapSeq λ_=>(#[]:Array Value))).push (seqObj "tuple" vs.toArray 0)).push (seqObj "list" #[] 0)) vs' zs':=λ{vs'}=>by
   induction vs' with
   | nil=>intro zs' x;cases zs' <;> first|exact trivial|exact x.elim
   | cons v vs' ih=>
    intro zs' x;cases zs' with
    | nil=>exact x.elim
    | cons z zs'=>
     obtain⟨⟨b,o,xs,k,e,g,c,d,r⟩,x⟩:=x;have hb:b≠a:=λz=>by
      subst z;rw[g] at ho;cases ho;simp at c
     exact⟨⟨b,o,xs,k,e,Heap.get?_push_of_some _ (Heap.get?_push_of_some _ (by rw[Heap.get?_update_ne _ _ _ _ hb];exact g)),c,d,r⟩,ih x⟩
  exact go t
 show wpAny (model prog w) A _ P E {s with heap:=((s.heap.update a (Obj.mapSeq λ_=>#[])).push (seqObj "tuple" vs.toArray 0)).push (seqObj "list" #[] 0)};dsimp only
 by_cases h2:vs.toArray.size<2
 ·rw[if_pos h2,if_pos h2];refine wpAny_bind (wpAny_pure ?_);rw[StateT.run_pure];refine wpAny_bind (wpAny_pure ?_);dsimp only;have e:((vs.toArray.zip vs.toArray).map λp=>p.2)=List.toArray ((List.toArray (List.range vs.length)).toList.map λi=>vs.getD i Value.none):=by
   match vs,hsz,h2 with
   | [],_,_=>simp
   | [x],_,_=>simp[range_succ]
   | _::_::_,_,h2=>exact absurd h2 (by simp)
  refine wpAny_bind (seqEpoch_at ho6 rfl ?_);refine wpAny_bind (listUpdate_at ho6 rfl ?_ (Nat.zero_le _) (by rw[Array.size_map];show(pairsOf vs).size<=_;rw[pairsOf_size,sizeLine_eq];omega));simp only[bne_self_eq_false,Bool.false_eq_true,if_false];refine wpAny_pure ?_;have:=h (List.toArray (List.range vs.length)) (Array.Perm.refl _) (λk hk=>absurd hk (by omega));rw[<-e] at this;exact this
 ·rw[if_neg h2,if_neg h2];obtain⟨fs,kt,kl,kf⟩:=t6.firsts;refine wpAny_bind (wpAny_mono (kat_kind (T:=.type "int") (Q:=λκ s'=>κ=tuples' true/\s'={s with heap:=((s.heap.update a (Obj.mapSeq λ_=>#[])).push (seqObj "tuple" vs.toArray 0)).push (seqObj "list" #[] 0)}) kt (by omega) (λv hv=>?_) rfl ⟨rfl,rfl⟩) (λκ s' hk=>?_) λ_ _ x=>x)
  ·obtain⟨m,tk,rfl⟩:=kf v hv;exact .now
  ·obtain⟨rfl,rfl⟩:=hk;refine wpAny_bind (wpAny_mono (kat_run (ks:=vs) (vs:=vs) (G:=λp s'=>p.Perm (List.toArray (List.range vs.length))/\up (λi=>rank zs (zs.getD i [])) p vs.length/\s'={s with heap:=((s.heap.update a (Obj.mapSeq λ_=>#[])).push (seqObj "tuple" vs.toArray 0)).push (seqObj "list" #[] 0)})
    (Q:=λst' s'=>∃p:Array Nat,arrOf st'=p.map (kas_item (vs.toArray.zip vs.toArray))/\p.size=vs.length/\failedOf st'=Y/\p.Perm (List.toArray (List.range vs.length))/\up (λi=>rank zs (zs.getD i [])) p vs.length/\s'={s with heap:=((s.heap.update a (Obj.mapSeq λ_=>#[])).push (seqObj "tuple" vs.toArray 0)).push (seqObj "list" #[] 0)}) rfl (by omega) h64
    (λp st' s' a1 a2 a3 a4=>⟨p,a2,a1,a3,a4⟩) (IJ (GQ (s:={s with heap:=((s.heap.update a (Obj.mapSeq λ_=>#[])).push (seqObj "tuple" vs.toArray 0)).push (seqObj "list" #[] 0)}) t6) (by omega) λp hp hu=>⟨hp,hu,rfl⟩)) ?_ λ_ _ e=>e)
   rintro ⟨⟨⟩,st'⟩ s' ⟨p,har,hp,hf,a4,a5,rfl⟩;dsimp only;rw[kat_snds rfl har];refine wpAny_bind (seqEpoch_at ho6 rfl ?_);refine wpAny_bind (listUpdate_at ho6 rfl ?_ (Nat.zero_le _) (by rw[size_toArray,length_map,Array.length_toList,hp,sizeLine_eq];omega));rw[hf];simp only[bne_self_eq_false,Bool.false_eq_true,if_false];exact wpAny_pure (h p a4 a5)
def yv {l:Addr}{Q:Value->Shared->Prop}(hl:s.heap.IsList l vs.toArray)(t:ma s.heap vs zs)(h64:vs.length<64)
  (h:∀p:Array Nat,p.Perm (List.toArray (List.range vs.length))->up (λi=>rank zs (zs.getD i [])) p vs.length->Q (.ref (s.heap.objs.size+1)) {s with heap:=sortedAll s.heap vs (List.toArray (p.toList.map λi=>vs.getD i Value.none))}) :
  wpAny (model prog w) A (call (.builtin "sorted") [.ref l]) Q E s:=by
 refine Calls.call_function_entry kind_sorted plain_sorted entry_sorted (args_sorted1 _) ?_;unfold Builtin.«sorted»;refine wpAny_bind (m:=checkCount "sorted" 1 1 _) (wpAny_pure ?_);refine wpAny_bind (collect_list hl ?_ (by rw[sizeLine_eq];omega));refine wpAny_bind (wpAny_newList ?_ (by rw[sizeLine_eq];omega));have hsz:((s.heap.push (seqObj "list" #[] 0)).update s.heap.objs.size (Obj.mapSeq (·++vs.toArray))).objs.size=s.heap.objs.size+1:=by
  rw[Heap.size_update,size_push']
 have hoL:(((s.heap.push (seqObj "list" #[] 0)).update s.heap.objs.size (Obj.mapSeq (·++vs.toArray))).push (seqObj "list" vs.toArray 0)).get? (s.heap.objs.size+1)=Z (seqObj "list" vs.toArray 0):=by
  rw[<-hsz];exact Heap.get?_push_size _ rfl
 have keep:∀b o,s.heap.get? b=Z o->(((s.heap.push (seqObj "list" #[] 0)).update s.heap.objs.size (Obj.mapSeq (·++vs.toArray))).push (seqObj "list" vs.toArray 0)).get? b=Z o:=λb o q=>by
  have hlt:b<s.heap.objs.size:=Heap.lt_size q;rw[Heap.get?_push_ne _ _ _ (by rw[hsz];exact Nat.ne_of_lt (Nat.lt_succ_of_lt hlt)),Heap.get?_update_ne _ _ _ _ (Nat.ne_of_lt hlt),Heap.get?_push_ne _ _ _ (Nat.ne_of_lt hlt)];exact q
 show wpAny _ _ _ _ _ {s with heap:=((s.heap.push (seqObj "list" #[] 0)).update s.heap.objs.size (Obj.mapSeq (·++vs.toArray))).push (seqObj "list" vs.toArray 0)};rw[hsz];refine wpAny_bind (wpAny_holding (wpAny_call_entry slot_list_sort ⟨_,hoL,rfl⟩ entry_list_sort (sJ hoL (t.keep keep) h64 λp a1 a2=>⟨_,rfl,?_⟩) (args_list_sort _)));exact wpAny_pure ⟨_,rfl,h p a1 a2⟩
end
def jp (z:List Int):D:=.tup (z.map D.int)
def qT:List D->Option (List (List Int))
 | []=>Z []
 | d::ds=>match qU d,qT ds with
  | some (i::z),Z zs=>Z ((i::z)::zs)
  | _,_=>Y
def tF:FD:=λds M=>match ds with
 | [d]=>match qt d M with
  | some xs=>match rj xs with
   | some ns=>if ns.length<64 then .ok (.lst ((L2.sortI ns).map D.int)) M else .bad
   | none=>match qT xs with
    | some zs=>if zs.length<64 then .ok (.lst ((iq zs).map jp)) M else .bad
    | none=>.bad
  | none=>.bad
 | _=>.bad
theorem vj {K:W.Frag}{θ:List Addr}{H:Hp}{f:Nat->D}{g:Nat->V}:∀l:List Nat,(∀i∈l,dC K θ H (f i) (g i))->bt K θ H (l.map f) (l.map g)
 | [],_=>rfl
 | i::l,h=>⟨_,_,rfl,h i (.head _),vj l λj hj=>h j (.tail _ hj)⟩
theorem vD {g:Nat->V}{u:Nat->Value}:∀l:List Nat,(∀i∈l,RelV (g i) (u i))->ba (l.map g) (l.map u)
 | [],_=>.nil
 | i::l,h=>.cons (h i (.head _)) (vD l λj hj=>h j (.tail _ hj))
def BP (hp:p.Perm (List.toArray (List.range zs.length)))(hu:up (λi=>rank zs (zs.getD i [])) p zs.length):p.toList.map (λi=>zs.getD i [])=iq zs:=by
 have hl:p.toList.Perm (List.range zs.length):=by simpa using Array.perm_iff_toList_perm.mp hp
 have hlen:p.toList.length=zs.length:=by rw[hl.length_eq,length_range]
 refine tV ?_ ?_ (yi zs)
 ·refine(hl.map _).trans (.trans (.of_eq ?_) (jm zs).symm);apply ext_getElem
  ·simp
  ·intro i h1 h2;simp[h2]
 ·rw[pairwise_iff_getElem];intro i j hi hj hij;rw[length_map] at hi hj;rw[getElem_map,getElem_map];have mem:zs.getD p.toList[j] []∈zs:=by
   have:p.toList[j]<zs.length:=mem_range.mp (hl.subset (getElem_mem hj));rw[getD_eq_getElem?_getD,getElem?_eq_getElem this];exact getElem_mem this
  have le:=sv hu (Nat.le_of_lt hij) (by omega);have at':∀k (hk:k<p.toList.length),p.getD k 0=p.toList[k]:=λk hk=>by
   rw[Array.getD_eq_getD_getElem?,<-Array.getElem?_toList,getElem?_eq_getElem hk];rfl
  unfold kp at le;rw[at' i hi,at' j hj] at le;dsimp only at le;rw[FS mem];exact decide_eq_false (by omega)
section
variable {X:Cx}{ag:List (Addr×Obj)}{σ:L2.St}{H:Hp}{s:Shared}{θ:List Addr}
theorem ya (I:L2.Inv X ag σ H s):∀{xs:List D} {zs:List (List Int)} {vs:List V} {us:List Value},qT xs=Z zs->bt X.K θ H xs vs->ba vs us->
  ma s.heap us zs/\us.length=zs.length/\∀i,i<zs.length->dC X.K θ H (jp (zs.getD i [])) (vs.getD i .non)/\RelV (vs.getD i .non) (us.getD i Value.none)
 | [],zs,vs,us,e,r,v=>by
  simp only[qT,Option.some.injEq] at e;subst e;have:vs=[]:=r;subst this;cases v;exact⟨trivial,rfl,λi h=>absurd h (by simp)⟩
 | d::xs,zs,vs,us,e,r,v=>by
  simp only[qT] at e;split at e
  ·rename_i i z zs' q1 q2;cases e;obtain⟨v1,vr,e1,r1,r2⟩:=r;subst e1;cases v with
   | cons h1 h2=>
    obtain⟨t,l,f⟩:=ya I q2 r2 h2;obtain⟨b,eb,tb⟩:=tw q1 r1;subst eb;have eu:_=Value.ref b:=h1;subst eu;obtain⟨its,rr,⟨o,ho,hc,n,hd⟩,_⟩:=I.tuple tb.sq;refine⟨⟨⟨b,o,its.toArray,n,rfl,ho,hc,hd,nZ rr,by simp⟩,t⟩,by rw[length_cons,length_cons,l],λk hk=>?_⟩;cases k with
    | zero=>exact⟨⟨b,_,rfl,tb,pS _⟩,rfl⟩
    | succ k=>exact f k (by simpa using hk)
  ·cases e
def Aq:d9 X (.builtin "sorted") (rC X tF):=by
 intro ag s σ H xs us Q I r h;obtain⟨θ,M,ds,hw,rd,h⟩:=h;unfold tF at h;split at h
 ·rename_i d;split at h
  ·rename_i ys q;split at h
   ·rename_i ns qn;refine vh ag s σ H xs us Q I r ⟨θ,M,_,hw,rd,?_⟩;unfold tL;simp only[q,qn];exact h
   ·rename_i qn;split at h
    ·rename_i zs qz;split at h
     ·rename_i hl;obtain⟨v,e,rv⟩:=jP rd;obtain⟨a,vs,ea,ta,ra⟩:=sP hw rv q;subst e ea;obtain⟨u,rfl,rx⟩:=nC r;cases rx;obtain⟨its,r',pl,hz⟩:=I.list (show nj X.K H a vs from .inl (.inl ta));obtain⟨T,lz,f⟩:=ya I qz ra r';refine yv pl.isList T (by omega) λp hp hu=>?_
      rw[lz] at hp hu;have hpl:p.toList.Perm (List.range zs.length):=by simpa using Array.perm_iff_toList_perm.mp hp
      have es:=BP hp hu;have inR:∀i∈p.toList,i<zs.length:=λi hi=>mem_range.mp (hpl.subset hi)
      obtain⟨c,he⟩:=sortedAll_at s.heap its (List.toArray (p.toList.map λi=>its.getD i Value.none));have hl2:(p.toList.map λi=>vs.getD i V.non).length<=sizeLine:=by rw[length_map,hpl.length_eq,length_range,sizeLine_eq];omega
      have hV:ba (p.toList.map λi=>vs.getD i V.non) (p.toList.map λi=>its.getD i Value.none):=vD _ λi hi=>(f i (inR i hi)).2
      have fr:=I.hok.fresh (Nat.le_succ s.heap.objs.size);refine⟨.ref (s.heap.objs.size+1),_,I.laid (t':=s.toks) (λ_ _=>sortedAll_old) (Nat.le_succ _) (show cX X.prog X.w _ _ _ (.lst (p.toList.map λi=>vs.getD i V.non)) from⟨hl2,_,c,hV,by simpa using he⟩),rfl,?_⟩;refine h _ θ _ (dX hw fr) (jx hw fr ?_);rw[<-es,map_map];exact vj _ λi hi=>(f i (inR i hi)).1
     ·exact h.elim
    ·exact h.elim
  ·exact h.elim
 ·exact h.elim
end
section
variable {X:Cx}
def B3:QC X (.builtin "sorted") tF:=⟨Aq⟩
end
def Hm (neg:Bool):F2:=λx y M=>match bN y M with
 | some xs=>if bi 40 x&&xs.all (bi 40) then .ok (.bl ((xs.any λy=>mJ y x) != neg)) M else .bad
 | none=>.bad
section
variable {X:Cx}{ag:List (Addr×Obj)}{σ:L2.St}{H:Hp}{s:Shared}{θ:List Addr}
noncomputable def inE (h:Heap) (px:PyData) (u:Value):Bool:=open Classical in decide (∃d as,Reads h u d as/\PyData.eqv d px=true)
def GR {px d:PyData}{u:Value}{as:List Addr}(r:Reads h u d as)(l:d.canLay0=true):inE h px u=PyData.eqv d px:=by
 unfold inE;cases e:PyData.eqv d px with
 | true=>exact @decide_eq_true _ (Classical.propDecidable _) ⟨d,as,r,e⟩
 | false=>
  refine @decide_eq_false _ (Classical.propDecidable _) λhxx=>?_
  obtain⟨d',as',r',e'⟩:=hxx;have:=SeqAt.Reads.unique d d' u as as' l r r';subst this;rw[e] at e';cases e'
theorem A3 (I:L2.Inv X ag σ H s){x:D}(hx:bi 40 x=true):∀{ds:List D} {vs:List V} {us:List Value},ds.all (bi 40)=true->bt X.K θ H ds vs->ba vs us->us.any (inE s.heap (m6 x))=(ds.any λy=>mJ y x)/\∀u∈us,∃d as,Reads s.heap u d as/\d.canLay0=true/\d.depth<=40
 | [],vs,us,_,r,v=>by
  have e:vs=[]:=r;subst e;cases v;exact⟨rfl,λu hu=>by cases hu⟩
 | d::ds,vs,us,c,r,v=>by
  rw[all_cons,Bool.and_eq_true] at c;obtain⟨v1,vr,e1,r1,r2⟩:=r;subst e1;cases v with
  | cons h1 h2=>
   obtain⟨a,b⟩:=A3 I hx c.2 r2 h2;obtain⟨as,R⟩:=oN I d 40 _ _ c.1 r1 h1;have l:=lu d 40 c.1;refine⟨?_,λu hu=>?_⟩
   ·rw[any_cons,any_cons,a,GR R l.1,rS d x 40 40 c.1 hx]
   ·rcases mem_cons.mp hu with e|e
    ·rw[e];exact⟨_,as,R,l.1,l.2⟩
    ·exact b u e
def LQ (hu:X.A.units+64<cLine):iV X (compareOp .In) (rD X (Hm false)):=by
 intro ag s σ H x y v u Q I rx ry h;obtain⟨θ,M,dx,dy,hw,r1,r2,h⟩:=h;unfold Hm at h;split at h
 ·rename_i xs q;split at h
  ·rename_i hc;rw[Bool.and_eq_true] at hc;obtain⟨a,vs,ea,sq,ra⟩:=pW hw r2 q;subst ea;cases ry;obtain⟨bs,RX⟩:=oN I dx 40 x v hc.1 r1 rx;have lx:=lu dx 40 hc.1;have k:=h _ θ H (.refl hw) rfl;rw[Bool.bne_false] at k;have go:∀{its:List Value},ba vs its->(its.any (inE s.heap (m6 dx))=xs.any λy=>mJ y dx)/\∀w∈its,SeqAt.EqAt X.A.in1 s w v (inE s.heap (m6 dx) w):=λ{its} r=>by
    obtain⟨e,f⟩:=A3 I hc.1 hc.2 ra r;refine⟨e,λw hw=>?_⟩;obtain⟨d,as,R,l1,l2⟩:=f w hw;rw[GR R l1];exact SeqAt.eqAt_reads d (m6 dx) X.A.in1 s w v as bs R RX l1 lx.1 (by
     show X.A.units+1+min d.depth (m6 dx).depth<cLine;have:min d.depth (m6 dx).depth<=d.depth:=Nat.min_le_left _ _;omega)
   rcases sq with sq|sq
   ·obtain⟨its,r,pl,hz⟩:=I.list sq;obtain⟨e,f⟩:=go r;refine SeqAt.in_listAt (inE s.heap (m6 dx)) pl.isList (λw hw=>f w (by simpa using hw)) ⟨.bl _,H,I,rfl,?_⟩;rw[show its.toArray.any (inE s.heap (m6 dx))=its.any (inE s.heap (m6 dx)) by simp,e];exact k
   ·obtain⟨its,r,pl,hz⟩:=I.tuple sq;obtain⟨e,f⟩:=go r;refine SeqAt.in_tupleAt (inE s.heap (m6 dx)) pl (λw hw=>f w (by simpa using hw)) ⟨.bl _,H,I,rfl,?_⟩;rw[show its.toArray.any (inE s.heap (m6 dx))=its.any (inE s.heap (m6 dx)) by simp,e];exact k
  ·exact h.elim
 ·exact h.elim
def Qi {k:Nat}(hr:bM k X.A):Q2 X (compareOp .In) (Hm false):=⟨LQ hr.units⟩
end
end DL
namespace DL
open PySem L2
def aT:Nat->D->Bool
 | 0,_=>false
 | f+1,d=>match d with
  | .mr _=>false
  | .tup xs=>xs.all (aT f)
  | .lst xs=>xs.all (aT f)
  | .ro xs=>xs.all (aT f)
  | _=>true
theorem cJ {f:D->Option D}:∀{xs:List D},(∀x∈xs,f x=Z x)->bP f xs=Z xs
 | [],_=>rfl
 | x::xs,h=>by
  unfold bP;rw[h x List.mem_cons_self,cJ λy hy=>h y (List.mem_cons_of_mem _ hy)]
theorem jS {n:Nat}{M:az}:∀(f:Nat) (d:D),aT f d=true->frz n M f d=Z d
 | 0,d,h=>by cases h
 | f+1,d,h=>by
  cases d with
  | mr k=>cases h
  | tup xs=>
   have h:xs.all (aT f)=true:=h;show(bP (frz n M f) xs).map D.tup=_;rw[cJ λx hx=>jS f x (List.all_eq_true.mp h x hx)];rfl
  | lst xs=>
   have h:xs.all (aT f)=true:=h;show(bP (frz n M f) xs).map D.lst=_;rw[cJ λx hx=>jS f x (List.all_eq_true.mp h x hx)];rfl
  | ro xs=>
   have h:xs.all (aT f)=true:=h;show(bP (frz n M f) xs).map D.ro=_;rw[cJ λx hx=>jS f x (List.all_eq_true.mp h x hx)];rfl
  | _=>rfl
def qO:MO->Bool
 | .lst xs=>xs.all (aT 30)
 | .obj _ fs=>fs.all λp=>aT 30 p.2
 | .dK fs=>fs.all λp=>aT 30 p.2
 | .dT fs=>fs.all λp=>aT 30 p.2
theorem qB {κ:Type}{f:D->Option D}:∀{fs:List (κ×D)},(∀p∈fs,f p.2=Z p.2)->u5 f fs=Z fs
 | [],_=>rfl
 | (x,d)::fs,h=>by
  unfold u5;rw[h (x,d) List.mem_cons_self,qB λy hy=>h y (List.mem_cons_of_mem _ hy)]
theorem wj {f:D->Option D}:∀{fs:List (Str×D)},(∀p∈fs,f p.2=Z p.2)->yO f fs=Z fs
 | [],_=>rfl
 | (x,d)::fs,h=>by
  unfold yO;rw[h (x,d) List.mem_cons_self,wj λy hy=>h y (List.mem_cons_of_mem _ hy)]
@[simp] theorem Oc (f:Nat) (i:Int):aT (f+1) (.int i)=true:=rfl
@[simp] theorem PF (f:Nat) (i:Bool):aT (f+1) (.bl i)=true:=rfl
@[simp] theorem N8 (f:Nat):aT (f+1) .non=true:=rfl
@[simp] theorem N0 (f:Nat) (x:Str):aT (f+1) (.str x)=true:=rfl
theorem iW (f:Nat)(xs:List D):aT (f+1) (.tup xs)=xs.all (aT f):=rfl
theorem Cg (f:Nat)(xs:List D):aT (f+1) (.lst xs)=xs.all (aT f):=rfl
def fc (f:Nat)(l:List Int):(l.map D.int).all (aT (f+1))=true:=by
 rw[List.all_map];exact List.all_eq_true.mpr λx _=>rfl
def Jx {α:Type}(xs:List α)(x:α):pN (xs++[x]) (-1)=Z x:=by
 unfold pN GW;have h:-((xs++[x]).length:Int)<=-1:=by simp;omega
 rw[if_neg (by decide),if_pos h];have e:(-1+((xs++[x]).length:Int)).toNat=xs.length:=by simp;omega
 rw[e];simp
def FH {t:GT}{b:GS}{n:Nat}{ρ ρ2:bK}{M M1 M2:az}(h1:t ρ M=.ok true M1)(h2:b ρ M1=.ok (.nx ρ2) M2):fM t b (n+1) ρ M=fM t b n ρ2 M2:=by
 rw[fM,h1,ah,if_pos rfl,h2,ah]
def z7 {t:GT}{b:GS}{n:Nat}{ρ:bK}{M M1:az}(h1:t ρ M=.ok false M1):fM t b (n+1) ρ M=.ok (.nx ρ) M1:=by
 rw[fM,h1,ah,if_neg Bool.false_ne_true]
end DL
namespace DL
open PySem L2
variable{b:GS}{ρ:bK}{M M1:az}
def ao {a:GS}{ρ1:bK}(h:a ρ M=.ok (.nx ρ1) M1):av a b ρ M=b ρ1 M1:=by
 unfold av;rw[h];rfl
variable{d:D}
def bT {a:GS}(h:a ρ M=.ok (.rt d) M1):av a b ρ M=.ok (.rt d) M1:=by
 unfold av;rw[h];rfl
def vE {a:GS}{c:Str}(h:a ρ M=.err c M1):av a b ρ M=.err c M1:=by
 unfold av;rw[h];rfl
def bH {t:GT}{a:GS}(h:t ρ M=.ok true M1):cO t a b ρ M=a ρ M1:=by
 unfold cO;rw[h,ah,if_pos rfl]
def bp {t:GT}{a:GS}(h:t ρ M=.ok false M1):cO t a b ρ M=b ρ M1:=by
 unfold cO;rw[h,ah,if_neg Bool.false_ne_true]
variable{i:Nat}{g:GE}
def aH (h:g ρ M=.ok d M1):aL i g ρ M=.ok (.nx (ρ.set i (Z d))) M1:=by
 unfold aL;rw[h,ah]
def bG (h:g ρ M=.ok d M1):bA g ρ M=.ok (.nx ρ) M1:=by
 unfold bA;rw[h,ah]
def aO (h:g ρ M=.ok d M1):aK g ρ M=.ok (.rt d) M1:=by
 unfold aK;rw[h,ah]
variable{a:GE}{x:Bool}
def bR {b:GE}{y:Bool}(ha:a ρ M=.ok (.bl x) M)(hb:x=true->b ρ M=.ok (.bl y) M):fg a b ρ M=.ok (.bl (x&&y)) M:=by
 unfold fg;rw[ha,ah];cases x with
 | true=>exact hb rfl
 | false=>rfl
def JV {b:GE}{y:Bool}(ha:a ρ M=.ok (.bl x) M)(hb:x=false->b ρ M=.ok (.bl y) M):Kf a b ρ M=.ok (.bl (x||y)) M:=by
 unfold Kf;rw[ha,ah];cases x with
 | true=>rfl
 | false=>exact hb rfl
def jF {a b:GT}{y:Bool}(ha:a ρ M=.ok x M)(hb:x=true->b ρ M=.ok y M):dN a b ρ M=.ok (x&&y) M:=by
 unfold dN;rw[ha,ah];cases x with
 | true=>exact hb rfl
 | false=>rfl
def gk {a b:GT}{y:Bool}(ha:a ρ M=.ok x M)(hb:x=false->b ρ M=.ok y M):iS a b ρ M=.ok (x||y) M:=by
 unfold iS;rw[ha,ah];cases x with
 | true=>rfl
 | false=>exact hb rfl
def bL {a:GT}(ha:a ρ M=.ok x M):eU a ρ M=.ok (!x) M:=by
 unfold eU;rw[ha,ah]
def bv (ha:a ρ M=.ok (.bl x) M1):eJ a ρ M=.ok x M1:=by
 unfold eJ;rw[ha,ah];rfl
def aZ (ha:a ρ M=.ok (.bl x) M1):aI a ρ M=.ok x M1:=by
 unfold aI;rw[ha,ah];rfl
variable{o:aX D}
def aw {f:F2}{b:GE}{M2:az}{x y:D}(ha:a ρ M=.ok x M1)(hb:b ρ M1=.ok y M2)(h:f x y M2=o):g2 f a b ρ M=o:=by
 unfold g2;rw[ha,ah,hb,ah,h]
variable{F:FD}
def jQ {x:D}(ha:a ρ M=.ok x M1)(h:F [x] M1=o):aQ F (aa a af) ρ M=o:=by
 unfold aQ aa af;rw[ha,ah,ah,ah,h]
def cG {x:D}(ha:a ρ M=.ok x M1)(h:F [x] M1=o):aj 1 F (aa a af) ρ M=o:=by
 unfold aj aa af;rw[ha,ah,ah,ah,if_pos (show [x].length=1 from rfl),h]
def bh {b:GE}{M2:az}{x y:D}(ha:a ρ M=.ok x M1)(hb:b ρ M1=.ok y M2)(h:F [x,y] M2=o):aj 2 F (aa a (aa b af)) ρ M=o:=by
 unfold aj aa af;rw[ha,ah,hb,ah,ah,ah,ah,if_pos (show [x,y].length=2 from rfl),h]
def cq {b c:GE}{M2 M3:az}{x y z:D}(ha:a ρ M=.ok x M1)(hb:b ρ M1=.ok y M2)(hc:c ρ M2=.ok z M3)(h:F [x,y,z] M3=o):aj 3 F (aa a (aa b (aa c af))) ρ M=o:=by
 unfold aj aa af;rw[ha,ah,hb,ah,hc,ah,ah,ah,ah,ah,if_pos (show [x,y,z].length=3 from rfl),h]
def J3 {b c d:GE}{M2 M3 M4:az}{x y z u:D}(ha:a ρ M=.ok x M1)(hb:b ρ M1=.ok y M2)(hc:c ρ M2=.ok z M3)(hd:d ρ M3=.ok u M4)(h:F [x,y,z,u] M4=o):aj 4 F (aa a (aa b (aa c (aa d af)))) ρ M=o:=by
 unfold aj aa af;rw[ha,ah,hb,ah,hc,ah,hd,ah,ah,ah,ah,ah,ah,if_pos (show [x,y,z,u].length=4 from rfl),h]
theorem AR {p:D->Bool}:∀xs:List D,cU (xs.map λd=>D.bl (p d))=Z (xs.map p)
 | []=>rfl
 | x::xs=>by
  show(cU (xs.map λd=>D.bl (p d))).map (p x::·)=_;rw[AR xs];rfl
variable{xs:List D}
def lV {gi:GI}{ge:GE}{p:D->Bool}(hi:gi ρ M=.ok ⟨xs,Y⟩ M)(hl:xs.length<=100000)(h:∀x∈xs,ge (Z x::ρ) M=.ok (.bl (p x)) M) :
  aQ kL (aa (bq gi cb ge aP) af) ρ M=.ok (.bl (xs.all p)) M:=by
 have c:=l8 (ds0:=xs) (ge:=ge) (ρ:=ρ) (f:=λd=>D.bl (p d)) (M:=M) xs h;have l1:(xs.map λd=>D.bl (p d)).length<=sizeLine:=by rw[List.length_map];exact a7 (by omega)
 refine jQ (x:=.lst (xs.map λd=>D.bl (p d))) (M1:=M) ?_ ?_
 ·unfold bq;rw[hi,ah];dsimp only;rw[c,ah];unfold aP;rw[if_pos l1]
 ·show(match bN (.lst (xs.map λd=>D.bl (p d))) M with|some xs=>(match cU xs with|some bs=>aX.ok (D.bl (bs.all id)) M|none=>.bad)|none=>.bad)=_;show(match cU (xs.map λd=>D.bl (p d)) with|some bs=>aX.ok (D.bl (bs.all id)) M|none=>.bad)=_;rw[AR];dsimp only;rw[List.all_map];rfl
def jw (h:ρ[i]?=Z (Z (.tup xs))):cj (ae i) ρ M=.ok ⟨xs,Y⟩ M:=by
 unfold cj ae;rw[h];rfl
def kP (h:ρ[i]?=Z (Z (.lst xs))):cj (ae i) ρ M=.ok ⟨xs,Y⟩ M:=by
 unfold cj ae;rw[h];rfl
def l5 (a b:Int)(M:az):aV false (.int a) (.int b) M=.ok (.bl (decide (a=b))) M:=by
 show aX.ok (D.bl ((a==b) != false)) M=_
 by_cases q:a=b <;> simp[q]
def wk (a b:Int)(M:az):aV true (.int a) (.int b) M=.ok (.bl (!decide (a=b))) M:=by
 show aX.ok (D.bl ((a==b) != true)) M=_
 by_cases q:a=b <;> simp[q]
def BL (M:az)(E:List D):(M++[MO.lst E])[M.length]?=Z (.lst E):=by simp
def Lo (M:az)(E E':List D):(M++[MO.lst E]).set M.length (.lst E')=M++[MO.lst E']:=by simp
variable{E:List D}
def MT (h:E.length<1000000):uN M.length d (M++[MO.lst E])=.ok .non (M++[MO.lst (E++[d])]):=by
 have l:E.length<sizeLine:=Nat.lt_of_lt_of_le h (by rw[sizeLine_eq];decide);unfold uN;rw[BL];dsimp only;rw[if_pos l,Lo]
def Aw {go ge:GE}(h1:go ρ (M++[MO.lst E])=.ok (.mr M.length) (M++[MO.lst E]))(h2:ge ρ (M++[MO.lst E])=.ok d (M++[MO.lst E]))(h:E.length<1000000) :
  lP go ge ρ (M++[MO.lst E])=.ok .non (M++[MO.lst (E++[d])]):=by
 unfold lP;rw[h1,ah];dsimp only;rw[BL];dsimp only;rw[h2,ah,MT h]
variable{k:Nat}
def dZ (h:xs[k]?=Z d):bb (.lst xs) (.int k) M=.ok d M:=by
 have a:=rR (xs:=xs) (j:=k) h;unfold bb bN;dsimp only;rw[a]
def cV (h:xs[k]?=Z d):bb (.tup xs) (.int k) M=.ok d M:=by
 have a:=rR (xs:=xs) (j:=k) h;unfold bb bN;dsimp only;rw[a]
def oy :kr af ρ M=.ok (.mr M.length) (M++[.lst []]):=by
 show(if([]:List D).length<=sizeLine then aX.ok (D.mr M.length) (M++[.lst []]) else .bad)=_;rw[if_pos (show([]:List D).length<=sizeLine from Nat.zero_le _)]
variable{ga:GA}{ds:List D}
def bg (h:ga ρ M=.ok ds M1)(hl:ds.length<=100000:=by exact Nat.le_of_ble_eq_true rfl):aD ga ρ M=.ok (.tup ds) M1:=by
 have:ds.length<=sizeLine:=a7 (by omega);unfold aD;rw[h,ah];unfold sD;rw[if_pos this]
def eL (h:ga ρ M=.ok ds M1)(hl:ds.length<=100000:=by exact Nat.le_of_ble_eq_true rfl):dM ga ρ M=.ok (.lst ds) M1:=by
 have:ds.length<=sizeLine:=a7 (by omega);unfold dM;rw[h,ah];unfold aP;rw[if_pos this]
def ay {r:GA}{M2:az}(h:g ρ M=.ok d M1)(hr:r ρ M1=.ok ds M2):aa g r ρ M=.ok (d::ds) M2:=by
 unfold aa;rw[h,ah,hr,ah]
def GJ {go ge:GE}{E1:List D}(h1:go ρ M=.ok (.mr k) M)(h2:M[k]?=Z (.lst E))(h3:ge ρ M=.ok d M1)(h4:M1[k]?=Z (.lst E1))(h:E1.length<1000000) :
  lP go ge ρ M=.ok .non (M1.set k (.lst (E1++[d]))):=by
 have l:E1.length<sizeLine:=Nat.lt_of_lt_of_le h (by rw[sizeLine_eq];decide);unfold lP;rw[h1,ah];dsimp only;rw[h2];dsimp only;rw[h3,ah];unfold uN;rw[h4];dsimp only;rw[if_pos l]
def hU {n:Nat}(h:ga ρ M=.ok [.int (n:Int)] M1)(hn:n<=1000000):dQ ga ρ M=.ok ⟨bj 0 n,Y⟩ M1:=by
 unfold dQ;rw[h,ah,Gx hn]
def jM {gi:GI}{sg:GG}{t:uH}{o:aX Fl}(h:gi ρ M=.ok t M1)(e:fW t sg b t.ds ρ M1=o):js gi sg b ρ M=o:=by
 unfold js;rw[h,ah,e]
def zH {i j:Int}(h0:-1000000<=i)(h1:i<=1000000)(M:az):gf (.int i) (.int j) M=.ok (.int (i*j)) M:=by
 have a:-(2 ^ 64:Int)<i:=Int.lt_of_lt_of_le (by decide) h0;have b:i<(2 ^ 64:Int):=Int.lt_of_le_of_lt h1 (by decide);unfold gf;dsimp only;rw[if_pos (.inl ⟨a,b⟩)]
def Js {i j:Int}(h0:0<j)(h1:j<=1000000)(M:az):iE (.int i) (.int j) M=.ok (.int (i / j)) M:=by
 have h2:j.natAbs<2 ^ 20:=by omega
 have h3:j.natAbs≠0:=by omega
 have h4:=(Nat.log2_lt h3).mpr h2;unfold iE;dsimp only;rw[if_pos ⟨h0,by omega⟩]
def Hu (h:bi 40 d=true)(hs:mJ d d=true)(hm:∀M,now d M=d)(M:az):aV true d d M=.ok (.bl false) M:=by
 unfold aV;rw[hm,h,hs];rfl
end DL
namespace DL
open PySem L2
def gT (n:Nat):Nat->D->Bool
 | 0,_=>false
 | f+1,d=>match d with
  | .mr k=>decide (k<n)
  | .tup xs=>xs.all (gT n f)
  | .lst xs=>xs.all (gT n f)
  | .ro xs=>xs.all (gT n f)
  | _=>true
theorem lB {n:Nat}{M:az}:∀(f:Nat) (d:D),gT n f d=true->frz n M f d=Z d
 | 0,d,h=>by cases h
 | f+1,d,h=>by
  cases d with
  | mr k=>
   have h:decide (k<n)=true:=h;show(if k<n then Z (D.mr k) else _)=_;rw[if_pos (of_decide_eq_true h)]
  | tup xs=>
   have h:xs.all (gT n f)=true:=h;show(bP (frz n M f) xs).map D.tup=_;rw[cJ λx hx=>lB f x (List.all_eq_true.mp h x hx)];rfl
  | lst xs=>
   have h:xs.all (gT n f)=true:=h;show(bP (frz n M f) xs).map D.lst=_;rw[cJ λx hx=>lB f x (List.all_eq_true.mp h x hx)];rfl
  | ro xs=>
   have h:xs.all (gT n f)=true:=h;show(bP (frz n M f) xs).map D.ro=_;rw[cJ λx hx=>lB f x (List.all_eq_true.mp h x hx)];rfl
  | _=>rfl
theorem dL {n:Nat}:∀(f:Nat) (d:D),aT f d=true->gT n f d=true
 | 0,d,h=>by cases h
 | f+1,d,h=>by
  cases d with
  | mr k=>cases h
  | tup xs=>exact List.all_eq_true.mpr λx hx=>dL f x (List.all_eq_true.mp (show xs.all (aT f)=true from h) x hx)
  | lst xs=>exact List.all_eq_true.mpr λx hx=>dL f x (List.all_eq_true.mp (show xs.all (aT f)=true from h) x hx)
  | ro xs=>exact List.all_eq_true.mpr λx hx=>dL f x (List.all_eq_true.mp (show xs.all (aT f)=true from h) x hx)
  | _=>rfl
theorem jb {n m:Nat}(hn:n<=m):∀(f:Nat) (d:D),gT n f d=true->gT m f d=true
 | 0,d,h=>by cases h
 | f+1,d,h=>by
  cases d with
  | mr k=>exact decide_eq_true (Nat.lt_of_lt_of_le (of_decide_eq_true (show decide (k<n)=true from h)) hn)
  | tup xs=>exact List.all_eq_true.mpr λx hx=>jb hn f x (List.all_eq_true.mp (show xs.all (gT n f)=true from h) x hx)
  | lst xs=>exact List.all_eq_true.mpr λx hx=>jb hn f x (List.all_eq_true.mp (show xs.all (gT n f)=true from h) x hx)
  | ro xs=>exact List.all_eq_true.mpr λx hx=>jb hn f x (List.all_eq_true.mp (show xs.all (gT n f)=true from h) x hx)
  | _=>rfl
def FI (n:Nat):MO->Bool
 | .lst xs=>xs.all (gT n 30)
 | .obj _ fs=>fs.all λp=>gT n 30 p.2
 | .dK fs=>fs.all λp=>gT n 30 p.2
 | .dT fs=>fs.all λp=>gT n 30 p.2
variable{o:MO}
def pP {n m:Nat}(hn:n<=m)(h:FI n o=true):FI m o=true:=by
 cases o with
 | lst xs=>exact List.all_eq_true.mpr λx hx=>jb hn 30 x (List.all_eq_true.mp (show xs.all (gT n 30)=true from h) x hx)
 | obj c fs=>exact List.all_eq_true.mpr λx hx=>jb hn 30 x.2 (List.all_eq_true.mp (show(fs.all λp=>gT n 30 p.2)=true from h) x hx)
 | dK fs=>exact List.all_eq_true.mpr λx hx=>jb hn 30 x.2 (List.all_eq_true.mp (show(fs.all λp=>gT n 30 p.2)=true from h) x hx)
 | dT fs=>exact List.all_eq_true.mpr λx hx=>jb hn 30 x.2 (List.all_eq_true.mp (show(fs.all λp=>gT n 30 p.2)=true from h) x hx)
def pE {n:Nat}(h:qO o=true):FI n o=true:=by
 cases o with
 | lst xs=>exact List.all_eq_true.mpr λx hx=>dL 30 x (List.all_eq_true.mp (show xs.all (aT 30)=true from h) x hx)
 | obj c fs=>exact List.all_eq_true.mpr λx hx=>dL 30 x.2 (List.all_eq_true.mp (show(fs.all λp=>aT 30 p.2)=true from h) x hx)
 | dK fs=>exact List.all_eq_true.mpr λx hx=>dL 30 x.2 (List.all_eq_true.mp (show(fs.all λp=>aT 30 p.2)=true from h) x hx)
 | dT fs=>exact List.all_eq_true.mpr λx hx=>dL 30 x.2 (List.all_eq_true.mp (show(fs.all λp=>aT 30 p.2)=true from h) x hx)
theorem i9 {n:Nat}{M:az}:∀{l:List MO},l.all (FI n)=true->iT n M l=Z l
 | [],_=>rfl
 | .lst xs::r,h=>by
  rw[List.all_cons,Bool.and_eq_true] at h;unfold iT;rw[i9 h.2];have h1:xs.all (gT n 30)=true:=h.1;rw[cJ λx hx=>lB 30 x (List.all_eq_true.mp h1 x hx)]
 | .obj c fs::r,h=>by
  rw[List.all_cons,Bool.and_eq_true] at h;unfold iT;rw[i9 h.2];have h1:(fs.all λp=>gT n 30 p.2)=true:=h.1;rw[wj λp hp=>lB 30 p.2 (List.all_eq_true.mp h1 p hp)]
 | .dK fs::r,h=>by
  rw[List.all_cons,Bool.and_eq_true] at h;unfold iT;rw[i9 h.2];have h1:(fs.all λp=>gT n 30 p.2)=true:=h.1;rw[qB λp hp=>lB 30 p.2 (List.all_eq_true.mp h1 p hp)]
 | .dT fs::r,h=>by
  rw[List.all_cons,Bool.and_eq_true] at h;unfold iT;rw[i9 h.2];have h1:(fs.all λp=>gT n 30 p.2)=true:=h.1;rw[qB λp hp=>lB 30 p.2 (List.all_eq_true.mp h1 p hp)]
def dB (M:az):Prop:=M.all (FI M.length)=true
variable{M:az}
def dB.pure (h:M.all qO=true):dB M:=List.all_eq_true.mpr λx hx=>pE (List.all_eq_true.mp h x hx)
def wA {d:D}{E:az}(hd:aT 30 d=true)(hM:dB M):jZ M.length (.ok d (M++E))=.ok d M:=by
 unfold jZ
 by_cases h:(M++E).length=M.length
 ·have:E=[]:=by
   rw[List.length_append] at h;exact List.length_eq_zero_iff.mp (by omega)
  subst this;simp
 ·simp only[if_neg h];rw[List.take_left,jS 30 d hd,i9 hM]
def yX {xs:List D}(hx:xs.all (aT 29)=true)(hM:dB M):jZ M.length (.ok (.mr M.length) (M++[.lst xs]))=.ok (.lst xs) M:=by
 have f1:=i9 (n:=M.length) (M:=M++[.lst xs]) hM;have f2:frz M.length (M++[.lst xs]) 30 (.mr M.length)=Z (.lst xs):=by
  have o:bP (frz M.length (M++[.lst xs]) 29) xs=Z xs:=cJ λx h=>jS 29 x (List.all_eq_true.mp hx x h)
  show(if M.length<M.length then Z (D.mr M.length) else match (M++[MO.lst xs])[M.length]? with|some (MO.lst ys)=>(bP (frz M.length (M++[MO.lst xs]) 29) ys).map D.lst|_=>Y)=_;rw[if_neg (Nat.lt_irrefl _)];simp;rw[o]
 show(if(M++[MO.lst xs]).length=M.length then aX.ok (D.mr M.length) (M++[MO.lst xs]) else match frz M.length (M++[MO.lst xs]) 30 (.mr M.length),iT M.length (M++[MO.lst xs]) ((M++[MO.lst xs]).take M.length) with|some d',Z M'=>.ok d' M'|_,_=>.bad)=_;rw[if_neg (by simp),List.take_left,f1,f2]
variable{c:Str}{k:Nat}{fs:List (Str×D)}
def sH (h:M[k]?=Z (.obj c fs)):jo c (.mr k) M=Z (k,fs):=by
 unfold jo;dsimp only;rw[h];dsimp only;rw[if_pos rfl]
variable{ρ:bK}
def dP {g:GE}{f:Str}{d:D}(h:g ρ M=.ok (.mr k) M)(hM:M[k]?=Z (.obj c fs))(hf:fs.lookup f=Z d):d7 c f g ρ M=.ok d M:=by
 unfold d7;rw[h,ah,sH hM];dsimp only;rw[hf]
def jj {go:GE}{ga:GA}{F:FD}{n:Nat}{M1:az}{m:Str}{ds:List D}{r:aX D}(h:go ρ M=.ok (.mr k) M)(hM:M[k]?=Z (.obj c fs))(hn:fs.lookup m=Y)
  (ha:ga ρ M=.ok ds M1) (hl:ds.length+1=n) (hF:F (.mr k::ds) M1=r):eO c m n F go ga ρ M=r:=by
 unfold eO;rw[h,ah,sH hM];dsimp only;rw[if_pos hn,ha,ah,if_pos hl,hF]
variable{y:D}
def AT {f:Str}(hM:M[k]?=Z (.obj c fs))(hl:fs.length<1000):wJ c f (.mr k) y M=.ok () (M.set k (.obj c (fL f y fs))):=by
 unfold wJ;rw[sH hM];dsimp only;rw[if_pos hl]
def wY {go gv:GE}{M1:az}{f:Str}(hv:gv ρ M=.ok y M1)(ho:go ρ M1=.ok (.mr k) M1)(hM:M1[k]?=Z (.obj c fs))(hl:fs.length<1000) :
  fX c f go gv ρ M=.ok (.nx ρ) (M1.set k (.obj c (fL f y fs))):=by
 unfold fX;rw[hv,ah,ho,ah,AT hM hl,ah]
variable{z:D}
def J4 {go gv:GE}{M1 M2:az}{f:Str}{fs2:List (Str×D)}{v:D}(ho:go ρ M=.ok (.mr k) M)(hM:M[k]?=Z (.obj c fs))(hf:fs.lookup f=Z v)(hv:gv ρ M=.ok y M1)
  (ha:AB v y M1=.ok z M2) (hM2:M2[k]?=Z (.obj c fs2)) (hl:fs2.length<1000):Iw c f go gv ρ M=.ok (.nx ρ) (M2.set k (.obj c (fL f z fs2))):=by
 unfold Iw;rw[ho,ah,sH hM];dsimp only;rw[hf];dsimp only;rw[hv,ah,ha,ah,AT hM2 hl,ah]
def Iu {xs ys:List D}(h:M[k]?=Z (.lst xs))(hl:xs.length+ys.length<=100000):AB (.mr k) (.lst ys) M=.ok (.mr k) (M.set k (.lst (xs++ys))):=by
 unfold AB;dsimp only;rw[h];dsimp only;rw[show qt (.lst ys) M=Z ys from rfl];dsimp only;rw[if_pos (a7 (by omega))]
variable{i:Nat}
def zc {kvs:List (eC×D)}{k:eC}(h:M[i]?=Z (.dK kvs))(hk:pp y=Z k)(hg:lR kvs k=Y)(hl:kvs.length<1000000):gw i y z M=.ok z (M.set i (.dK (kvs++[(k,z)]))):=by
 unfold gw;rw[h];dsimp only;rw[hk];dsimp only;rw[hg];dsimp only;rw[if_pos (Nat.lt_of_lt_of_le hl (a7 (by decide)))]
def yg {kvs:List (eC×D)}{r:D}{k:eC}(h:M[i]?=Z (.dK kvs))(hk:pp y=Z k)(hg:lR kvs k=Z r):gw i y z M=.ok r M:=by
 unfold gw;rw[h];dsimp only;rw[hk];dsimp only;rw[hg]
variable{kvs:List (List eC×D)}
def xQ {k:List eC}(h:M[i]?=Z (.dT kvs))(hk:qA y=Z k)(hg:lR kvs k=Y)(hl:kvs.length<1000000):gw i y z M=.ok z (M.set i (.dT (kvs++[(k,z)]))):=by
 unfold gw;rw[h];dsimp only;rw[hk];dsimp only;rw[hg];dsimp only;rw[if_pos (Nat.lt_of_lt_of_le hl (a7 (by decide)))]
def yl {r:D}{k:List eC}(h:M[i]?=Z (.dT kvs))(hk:qA y=Z k)(hg:lR kvs k=Z r):gw i y z M=.ok r M:=by
 unfold gw;rw[h];dsimp only;rw[hk];dsimp only;rw[hg]
def zv {κ:Type}[DecidableEq κ](kvs:List (κ×D))(k:κ)(z:D):List (κ×D):=match lR kvs k with
 | some _=>kvs
 | none=>kvs++[(k,z)]
def Im {κ:Type}[DecidableEq κ](kvs:List (κ×D))(k:κ)(z:D):(zv kvs k z).length<=kvs.length+1:=by
 unfold zv;split
 ·omega
 ·rw[List.length_append];simp
def tH (h:M[i]?=Z o):M.set i o=M:=by
 obtain⟨hi,e⟩:=List.getElem?_eq_some_iff.mp h;rw[<-e];exact List.set_getElem_self hi
def AG {kvs:List (eC×D)}{k:eC}(h:M[i]?=Z (.dK kvs))(hk:pp y=Z k)(hl:kvs.length<1000000):∃r,gw i y z M=.ok r (M.set i (.dK (zv kvs k z))):=by
 unfold zv;cases hg:lR kvs k with
 | some r=>exact⟨r,by rw[yg h hk hg,tH h]⟩
 | none=>exact⟨z,zc h hk hg hl⟩
def zJ {k:List eC}(h:M[i]?=Z (.dT kvs))(hk:qA y=Z k)(hl:kvs.length<1000000):∃r,gw i y z M=.ok r (M.set i (.dT (zv kvs k z))):=by
 unfold zv;cases hg:lR kvs k with
 | some r=>exact⟨r,by rw[yl h hk hg,tH h]⟩
 | none=>exact⟨z,xQ h hk hg hl⟩
def vq {go gy gz:GE}{o:aX D}(h1:go ρ M=.ok (.mr i) M)(h2:xb M[i]?=true)(h3:gy ρ M=.ok y M)(h4:gz ρ M=.ok z M)(h:gw i y z M=o):kB go gy gz ρ M=o:=by
 unfold kB;rw[h1,ah];dsimp only;rw[if_pos h2,h3,ah,h4,ah,h]
end DL
namespace Hd
open PySem PySem.W PySem.Calls PyProof.Rows
def topRunT (tb:String->Option Builtin)(p:Program)(w:World)(n0:Nat)(ann:Option Value):Nat->SharedT->Thread->Option SharedT
 | 0,_,_=>Y
 | n+1,s,t=>match through t with
  | true=>Z s
  | false=>match stepOk n0 ann t with
   | false=>Y
   | true=>match stepT (denote tb) p w s t with
    | some (s',t')=>topRunT tb p w n0 ann n s' t'
    | none=>Y
theorem vP {tb:String->Option Builtin}{p:Program}{w:World}{n0:Nat}{ann:Option Value}:∀{n:Nat} {s s':SharedT} {t:Thread},topRunT tb p w n0 ann n s t=Z s'->topRun tb p w n0 ann n s.abs t=Z s'.abs
 | 0,_,_,_,h=>by cases h
 | n+1,s,s',t,h=>by
  unfold topRunT at h;unfold topRun;cases he:through t with
  | true=>rw[he] at h;cases h;rfl
  | false=>
   rw[he] at h;cases hk:stepOk n0 ann t with
   | false=>rw[hk] at h;cases h
   | true=>
    rw[hk] at h;cases hs:stepT (denote tb) p w s t with
    | none=>rw[hs] at h;cases h
    | some r=>obtain⟨s2,t2⟩:=r;rw[hs] at h;rw[stepT_spec hs];exact vP h
def grow:List Obj->BT->Nat->BT
 | [],t,_=>t
 | o::r,t,n=>grow r (t.ins n o) (n+1)
def Kb:List Obj->BT->Nat->Bool
 | [],_,_=>true
 | o::r,t,n=>((t.ins n o).get n).isSome&&Kb r (t.ins n o) (n+1)
theorem za (life:Life):∀(l:List Obj) (t:BT) (n:Nat),Kb l t n=true->absHeap (grow l t n) (n+l.length) life=⟨(absHeap t n life).objs++l.toArray,life⟩
 | [],t,n,_=>by simp[grow,absHeap]
 | o::r,t,n,h=>by
  obtain⟨h1,h2⟩:=Bool.and_eq_true_iff.mp h;have e:=za life r (t.ins n o) (n+1) h2;have e2:absHeap (t.ins n o) (n+1) life=(absHeap t n life).push o:=absHeap_ins h1;show absHeap (grow r (t.ins n o) (n+1)) (n+(r.length+1)) life=_;rw[show n+(r.length+1)=n+1+r.length by omega,e,e2];simp[Heap.push]
variable{Xt:Shared->Bool}{N:Nat}
def AN {p q:Program}{loose:List Str}{A:Type}{Yf:Shared->A}{Ya:World->A}{g0:Bool}{H:Params->Heap}{gs:Array GenState}{d:Drawn}{k:Nat}{m:Nat}{ann:Option Value}{T:Params->BT}{lf:Life}
  (open_:∀w:World,(fencedOpening treeTable p w N).map (λs=>(s.heap,s.gens,s.drawn,s.toks))=Z (H w.params,gs,d,k))
  (size:∀w:World,((H w.params).isNs mainGlobals&&gs.size==0,(H w.params).objs.size,(H w.params).nsMap mainGlobals "__annotations__")=(true,m,ann))
  (tree:∀P,H P=absHeap (T P) m lf)
  (run:∀(w:World) (os:OsState),(topRunT treeTable p w m ann N ⟨T w.params,m,lf,gs,d,k,os⟩ (topStub p)).map (λs=>
    ((staticsOk (importedModules p.main.body) (H w.params) s.abs.heap&&namesBound p s.abs.heap&&gensDone s.abs&&laidKept (H w.params) s.abs.heap),
    openSeen q loose (importedModules p.main.body) Xt g0 s.abs,Yf s.abs))=Z (true,openGood q loose,Ya w)):LeftO p q loose Xt Yf Ya N g0:=λw=>by
 obtain⟨⟨h,gs',d',k',os⟩,e,e'⟩:=Option.map_eq_some_iff.mp (open_ w);obtain⟨rfl,rfl,rfl,rfl⟩:h=H w.params/\gs'=gs/\d'=d/\k'=k:=by simpa using e'
 obtain⟨z1,z2,z3⟩:_/\_/\_:=by simpa only[Prod.mk.injEq] using size w
 obtain⟨s,r1,r2⟩:=Option.map_eq_some_iff.mp (run w os);obtain⟨l1,l2,l3⟩:_/\_/\_:=by simpa only[Prod.mk.injEq] using r2
 have r:=vP r1;have ea:SharedT.abs ⟨T w.params,m,lf,gs',d',k',os⟩=⟨H w.params,gs',d',k',os⟩:=by rw[tree];rfl
 rw[ea] at r;have t:topFrom treeTable p w N ⟨H w.params,gs',d',k',os⟩=Z s.abs:=by
  unfold topFrom;dsimp only;rw[z1,z2,z3,r];show(match staticsOk (importedModules p.main.body) (H w.params) s.abs.heap&&namesBound p s.abs.heap&&gensDone s.abs&&laidKept (H w.params) s.abs.heap with|true=>_|false=>_)=_;rw[l1]
 unfold openEnds;rw[e];show(topFrom treeTable p w N _).map _=_;rw[t];exact congrArg Z (Prod.ext l2 l3)
noncomputable def bootT (P:Params):BT:=grow (boot_heap P).objs.toList .nil 0
lay_quick Hd.topRunT W.topStub
def CS (P:Params):boot_heap P=absHeap (bootT P) 11 {}:=by
 have h:=za {} (boot_heap P).objs.toList .nil 0 (by kernel_rfl);exact h.symm
noncomputable def RT (p:Program) (w:World) (N:Nat) (os:OsState):Option SharedT:=topRunT treeTable p w 11 (Z (Value.ref 6)) N ⟨bootT w.params,11,{},Array.mk [],boot_drawn,boot_toks,os⟩ (topStub p)
noncomputable def pA (p:Program) (P:Params) (s:Shared):Bool:=staticsOk (importedModules p.main.body) (boot_heap P) s.heap&&namesBound p s.heap&&gensDone s&&laidKept (boot_heap P) s.heap
def pB (q:Program)(mods:List Str)(Xt:Shared->Bool)(s:Shared):Bool:=(s.heap.keysOk (looseW q []) ((recsOf q).map (·.name)) ((litsOf q).map (·.1)) ((clssOf q (looseW q [])).map (·.name))&&s.heap.accountedOkI mods&&s.heap.isNs mainGlobals&&s.heap.isNs builtinsNs&&tablesOk q s.heap&&Xt s&&(if true then s.gens.size==0 else !leftWithCleanup s.gens))&&tabsOk q s
def pC (q:Program)(s:Shared):=(seen ((recsOf q).map (·.name)) (ownsOf q) [] {s with gens:=#[]},s.heap.bltView,wideSeen q s)
def pD (q:Program)(s:Shared):=(pinSeenD q (drecsOf q) s,plainSeenE q (looseW q []) s,plainSeenD q [] s,clsSeenW q [] s)
lay_quick Hd.pB
lay_quick Hd.pC
lay_quick Hd.pD
def xx {α A B:Type}{x:Option α}{f:α->A}{g:α->B}{a:A}{b:B}(h1:x.map f=Z a)(h2:x.map g=Z b):x.map (λs=>(f s,g s))=Z (a,b):=by
 cases x with
 | none=>cases h1
 | some s=>exact congrArg Z (Prod.ext (Option.some.inj h1) (Option.some.inj h2))
def As {p q:Program}{A:Type}{Yf:Shared->A}{Ya:World->A}
  (open_:∀w:World,(fencedOpening treeTable p w N).map (λs=>(s.heap,s.gens,s.drawn,s.toks))=Z (boot_heap w.params,Array.mk [],boot_drawn,boot_toks))
  (size:∀w:World,((boot_heap w.params).isNs mainGlobals&&(Array.mk ([]:List GenState)).size==0,(boot_heap w.params).objs.size,(boot_heap w.params).nsMap mainGlobals "__annotations__")=(true,11,Z (Value.ref 6)))
  (r1:∀(w:World) (os:OsState),(RT p w N os).map (λs=>pA p w.params s.abs&&pB q (importedModules p.main.body) Xt s.abs)=Z true)
  (r2:∀(w:World) (os:OsState),(RT p w N os).map (λs=>pC q s.abs)=Z (expectedOf q,bltViewBooted,wideGood q))
  (r3:∀(w:World) (os:OsState),(RT p w N os).map (λs=>pD q s.abs)=Z (pinGoodD (drecsOf q),plainGoodE q (looseW q []),plainGoodD q [],clsGoodW q []))
  (r4:∀(w:World) (os:OsState),(RT p w N os).map (λs=>Yf s.abs)=Z (Ya w)):LeftO p q [] Xt Yf Ya N true:=
 AN open_ size CS λw os=>by
  show(RT p w N os).map _=_;have h:=xx (xx (r1 w os) (r2 w os)) (xx (r3 w os) (r4 w os));cases e:RT p w N os with
  | none=>rw[e] at h;cases h
  | some s=>
   rw[e] at h;obtain⟨h1,h2⟩:=Prod.mk.inj (Option.some.inj h);obtain⟨h1,h3⟩:=Prod.mk.inj h1;obtain⟨h4,h5⟩:=Prod.mk.inj h2;obtain⟨a,b⟩:=Bool.and_eq_true_iff.mp h1;obtain⟨b,c⟩:=Bool.and_eq_true_iff.mp b;obtain⟨c1,c2⟩:=Prod.mk.inj h3;obtain⟨c2,c3⟩:=Prod.mk.inj c2;obtain⟨d1,d2⟩:=Prod.mk.inj h4;obtain⟨d2,d3⟩:=Prod.mk.inj d2;obtain⟨d3,d4⟩:=Prod.mk.inj d3;exact congrArg Z (Prod.ext a (Prod.ext (Prod.ext c1 (Prod.ext c2 (Prod.ext b (Prod.ext c (Prod.ext d1 (Prod.ext d2 (Prod.ext d3 (Prod.ext c3 d4)))))))) h5))
def lk (s:SharedT)(a:Nat):Option Obj:=match Nat.blt a s.n with
 | true=>(match s.tree.get a with
  | some o=>alive o
  | none=>Y)
 | false=>Y
def Ql {s:SharedT}{a:Nat}{o:Obj}(h:lk s a=Z o):s.abs.heap.get? a=Z o:=by
 unfold lk at h;cases b:Nat.blt a s.n with
 | false=>rw[b] at h;cases h
 | true=>
  rw[b] at h;cases g:s.tree.get a with
  | none=>rw[g] at h;cases h
  | some x=>rw[g] at h;exact(abs_get (Nat.blt_eq.mp b) g).trans h
theorem AE {s:SharedT}{β:Type}{f:β->Obj}:∀{as:List Nat} {l:List β},as.map (lk s)=l.map (λp=>Z (f p))->as.map s.abs.heap.get?=l.map (λp=>Z (f p))
 | [],[],_=>rfl
 | [],_::_,h=>by cases h
 | _::_,[],h=>by cases h
 | a::as,p::l,h=>by
  obtain⟨x,y⟩:=List.cons.inj h;show s.abs.heap.get? a::as.map s.abs.heap.get?=_;rw[Ql x,AE y];rfl
def left_km {p q:Program}{K:Params->Frag}{as:List Addr}{e:∀P,as=(K P).map (·.1)}{ts:List Addr}
  (open_:∀w:World,(fencedOpening treeTable p w N).map (λs=>(s.heap,s.gens,s.drawn,s.toks))=Z (boot_heap w.params,Array.mk [],boot_drawn,boot_toks))
  (size:∀w:World,((boot_heap w.params).isNs mainGlobals&&(Array.mk ([]:List GenState)).size==0,(boot_heap w.params).objs.size,(boot_heap w.params).nsMap mainGlobals "__annotations__")=(true,11,Z (Value.ref 6)))
  (r1:∀(w:World) (os:OsState),(RT p w N os).map (λs=>pA p w.params s.abs&&pB q (importedModules p.main.body) Xt s.abs)=Z true)
  (r2:∀(w:World) (os:OsState),(RT p w N os).map (λs=>pC q s.abs)=Z (expectedOf q,bltViewBooted,wideGood q))
  (r3:∀(w:World) (os:OsState),(RT p w N os).map (λs=>pD q s.abs)=Z (pinGoodD (drecsOf q),plainGoodE q (looseW q []),plainGoodD q [],clsGoodW q []))
  (r4:∀(w:World) (os:OsState),(RT p w N os).map (λs=>(as.map (lk s),ts.map (lk s)))=Z ((K w.params).map (λp=>Z p.2),ts.map λ_=>Z (tabObj #[]))) :
  LeftO p q [] Xt (kmHook K as e ts).obs (kmHook K as e ts).val N true:=
 As open_ size r1 r2 r3 λw os=>by
  obtain⟨s,h1,h2⟩:=Option.map_eq_some_iff.mp (r4 w os);obtain⟨a,b⟩:=Prod.mk.inj h2;rw[h1];exact congrArg Z (Prod.ext (AE a) (AE b))
end Hd
namespace K12
open PySem PySem.Spec PyProof.Rows L2 DL List
open D renaming int → I,tup → U,mr → R,str → S,bl → G
open aX renaming ok → O
def top (i:Nat):Stmt:=PySem.Challenge.pw_glowrow_k12_refused_in_order.main.body.getD i (.Pass ⟨0,0,0,0⟩)
abbrev JQ:Stmt:=top 74
abbrev TX:=Tx (("_law_draw",top 61,["tape","many"])::("_law_size",top 62,["tape","most"])::("_law_frame",top 63,["tape","most"])::("_law_inks",top 64,["tape","wide","thin"])::("_law_inked",top 65,["tape","most"])::("_law_far",top 66,["tape","size"])::("_law_mover",top 67,["tape","frame","shapes"])::("_law_stand",top 68,["tape","frame","movers_most"])::("_law_deed",top 69,["tape","frame","stand"])::("_law_timed",top 70,["tape","frame","stand","most"])::("_law_put",top 71,["thing","path","other"])::("_law_word",top 72,["error"])::("is_whole",top 14,["thing"])::("is_within",top 15,["thing","low","high"])::("is_frame",top 17,["thing"])::("is_ink",top 22,["thing"])::("is_ink_row",top 23,["thing"])::("is_ink_block",top 24,["thing","most"])::("is_shape",top 25,["thing"])::("is_book",top 41,["thing"])::("is_shape_number",top 42,["book","thing"])::("is_place_pair",top 40,["thing"])::("is_rank",top 39,["thing"])::("is_turn",top 26,["thing"])::("is_mover",top 43,["book","thing"])::("are_movers",top 44,["book","thing"])::("is_hue",top 38,["thing"])::("are_pots",top 45,["thing"])::("is_stand",top 46,["thing"])::("check_begin",top 53,["frame","stand"])::("row_ticks",top 18,["frame"])::("ticks_of",top 19,["frame"])::("ticks_hold",top 56,["frame","timed"])::("is_mover_deed",top 48,["stand","word","parts"])::("is_deed",top 47,["stand","thing"])::("check_plan",top 57,["frame","stand","timed"])::("place_of",top 20,["frame","tick"])::("strip_of",top 27,["shape","turn","row"])::("strip_taken",top 34,["stand","number","row"])::("floor_inks",top 33,["frame","stand","row"])::("lying_on",top 29,["stand","row"])::("kept_on",top 30,["frame","stand","row"])::("taken",top 32,["frame","stand","row"])::("lost_on",top 31,["frame","stand","row"])::("covers_at",top 35,["row_taken","x"])::("mover_behind",top 50,["mover","word","parts"])::("with_part",top 51,["things","at","part"])::("stand_behind",top 49,["stand","deed"])::("laid",top 58,["frame","stand","timed"])::("slips",top 59,["frame","stand","timed"])::("_law_tried",top 73,["way","frame","stand","timed"])::[])
 (("Beam","__init__","Beam.__init__",gu (top 54) 0,["self","frame","stand"])::("Beam","take_row","Beam.take_row",gu (top 54) 7,["self","row"])::("Beam","keep_touches","Beam.keep_touches",gu (top 54) 9,["self","numbers","row","spot"])::("Beam","keep_grounds","Beam.keep_grounds",gu (top 54) 10,["self","numbers","row","spot"])::("Beam","lay_spot","Beam.lay_spot",gu (top 54) 8,["self","row","spot"])::("Beam","go_tick","Beam.go_tick",gu (top 54) 6,["self"])::("Beam","go","Beam.go",gu (top 54) 5,["self","many"])::("Beam","is_over","Beam.is_over",gu (top 54) 3,["self"])::("Beam","deed","Beam.deed",gu (top 54) 4,["self","deed"])::("Beam","tick","Beam.tick",gu (top 54) 1,["self"])::("Beam","picture","Beam.picture",gu (top 54) 11,["self"])::[])
 [("ink_shown",top 36,["floor_ink","covers"])]
 ("ValueError"::"all"::"bool"::"divmod"::"enumerate"::"int"::"isinstance"::"len"::"list"::"min"::"range"::"sorted"::"tuple"::[]) ["NoDeed","NoFrame","NoStand","NoTick","Over"]
 (("Clash",[("NoDeed",false),("NoFrame",false),("NoStand",false),("NoTick",false),("Over",false)])::("GlowError",[("NoDeed",true),("NoFrame",true),("NoStand",true),("NoTick",true),("Over",true)])::("NoDeed",[("NoDeed",true),("NoFrame",false),("NoStand",false),("NoTick",false),("Over",false)])::("NoFilm",[("NoDeed",false),("NoFrame",false),("NoStand",false),("NoTick",false),("Over",false)])::("NoFrame",[("NoDeed",false),("NoFrame",true),("NoStand",false),("NoTick",false),("Over",false)])::("NoRow",[("NoDeed",false),("NoFrame",false),("NoStand",false),("NoTick",false),("Over",false)])::("NoScore",[("NoDeed",false),("NoFrame",false),("NoStand",false),("NoTick",false),("Over",false)])::("NoStand",[("NoDeed",false),("NoFrame",false),("NoStand",true),("NoTick",false),("Over",false)])::("NoText",[("NoDeed",false),("NoFrame",false),("NoStand",false),("NoTick",false),("Over",false)])::("NoTick",[("NoDeed",false),("NoFrame",false),("NoStand",false),("NoTick",true),("Over",false)])::("Over",[("NoDeed",false),("NoFrame",false),("NoStand",false),("NoTick",false),("Over",true)])::[]) [("NoDeed",true),("NoFrame",true),("NoStand",true),("NoTick",true),("Over",true)]
 (("Beam","ahead")::("Beam","first_grounds")::("Beam","first_touches")::("Beam","frame")::("Beam","laid_rows")::("Beam","lost_pairs")::("Beam","row_taken")::("Beam","standing")::[]) [] []
set_option hygiene false
local macro_rules | `(tactic| walk_at "o") => `(tactic| first | with_reducible exact P5 | with_reducible exact NL | with_reducible exact OQ | with_reducible exact Qg | with_reducible exact Mu | with_reducible exact P9 | with_reducible exact Ou | with_reducible exact RZ | with_reducible exact Sv | with_reducible exact R3 | with_reducible exact Sh | with_reducible exact RG | with_reducible exact Ht | with_reducible exact Rq | with_reducible exact q_notin | with_reducible exact q_mulT | with_reducible exact q_inA | ((with_reducible show Q2 _ _ (Hm _)); exact Qi hr) | ((with_reducible show Q2 _ (compareOp .Eq) _); exact Ss hr) | exact Rp hr)
local macro_rules | `(tactic| walk_at "c") => `(tactic| first | ((with_reducible refine Qw ?_); rfl) | ((with_reducible refine Gq)) | ((with_reducible refine Og)) | ((with_reducible refine OH)) | ((with_reducible refine q_listM)) | ((with_reducible refine MD)) | ((with_reducible refine O2 ?_); rfl) | ((with_reducible refine FR)) | ((with_reducible refine B3)) | ((with_reducible refine Hy)))
local macro_rules | `(tactic| walk_at "b") => `(tactic| with_reducible first | exact Boot.«ValueError» | exact Boot.«all» | exact Boot.«bool» | exact Boot.«divmod» | exact Boot.«enumerate» | exact Boot.«int» | exact Boot.«isinstance» | exact Boot.«len» | exact Boot.«list» | exact Boot.«min» | exact Boot.«range» | exact Boot.«sorted» | exact Boot.«tuple»)
local macro_rules | `(tactic| walk_at "E") => `(tactic| first
  | ((with_reducible show QE _ _ (ae _));exact qv _)
  | ((with_reducible show QE _ _ (gC _));first|exact LI|exact Mt|exact NR|exact P6)
  | ((with_reducible show QE _ _ (g2 bb _ _));refine Pe ?_ ?_)
  | ((with_reducible show QE _ _ (g2 _ _ _));first|refine OK (by walk_at "o") ?_ ?_|refine KY (by walk_at "o") ?_ ?_|refine qe_cmpI (by walk_at "o") ?_ ?_)
  | ((with_reducible show QE _ _ (aj _ _ _));refine Oq (by assumption) hr ?_)
  | ((with_reducible show QE _ _ (aD _));refine MA ?_)
  | ((with_reducible show QE _ _ (jL _ _));refine Oj (by first|exact .inl rfl|exact .inr (.inl rfl)|exact .inr (.inr (.inl rfl))|exact .inr (.inr (.inr (.inl rfl)))|exact .inr (.inr (.inr (.inr rfl)))) (by walk_at "b") (by rfl) (T.z _ (by decide +kernel)) (by rfl) (T.z _ (by decide +kernel)) ?_)
  | ((with_reducible show QE _ _ (aQ _ _));first|refine OB (by walk_at "c") (T.z _ (by decide +kernel)) (by walk_at "b") ?_|refine P1 (by walk_at "c") (by rfl) (T.z _ (by decide +kernel)) (by walk_at "b") ?_)
  | ((with_reducible show QE _ _ (dM _));refine L8 ?_)
  | ((with_reducible show QE _ _ (kr _));refine KH ?_)
  | ((with_reducible show QE _ _ (lO _));refine Kr ?_)
  | ((with_reducible show QE _ _ (yE _));refine NJ ?_)
  | ((with_reducible show QE _ _ (qJ _ _ _ _ _));refine GF (by walk_at "o") (by walk_at "o") ?_ ?_ ?_)
  | ((with_reducible show QE _ _ (sF _ _ _));refine O5 ?_ ?_ ?_)
  | ((with_reducible show QE _ _ (oo _ _ _));refine Gj ?_ ?_ ?_)
  | ((with_reducible show QE _ _ (AM _));refine KW rfl ?_)
  | ((with_reducible show QE _ _ (bq _ _ _ _));first|refine qe_compR (by assumption) (by kernel_rfl) (by first|exact .inl rfl|exact .inr rfl) ?_ ?_ ?_|refine Gn (by kernel_rfl) (by first|exact .inl rfl|exact .inr rfl) ?_ ?_ ?_)
  | ((with_reducible show QE _ _ (bY _ _ _ _ _ _));refine CQ (by assumption) (by kernel_rfl) (by first|exact .inl rfl|exact .inr rfl) ?_ ?_ ?_ ?_ ?_)
  | ((with_reducible show QE _ _ (d7 _ _ _));refine Jl (Bc T.a _ _) ?_)
  | ((with_reducible show QE _ _ (eO _ _ _ _ _ af));refine Ds (by assumption) hr ?_)
  | ((with_reducible show QE _ _ (eO _ _ _ _ _ _));refine IZ (by assumption) hr ?_ ?_)
  | ((with_reducible show QE _ _ (iC _ _ _ af));refine qe_make0A (by assumption) hr)
  | ((with_reducible show QE _ _ (iC _ _ _ _));refine FN (by assumption) hr ?_)
  | ((with_reducible show QE _ _ (lP _ _));refine Dh ?_ ?_)
  | ((with_reducible show QE _ _ (jV _ _ _));first|refine E9 ?_ ?_|refine Gk ?_ ?_)
  | ((with_reducible show QE _ _ (A8 _ _ _));first|refine qe_popAt ?_ ?_|refine Cv ?_ ?_)
  | ((with_reducible show QE _ _ (kB _ _ _));refine Cj hr ?_ ?_ ?_)
  | ((with_reducible show QE _ _ (yH));exact G4)
  | ((with_reducible show QE _ _ (yQ));exact HA)
  | ((with_reducible show QE _ _ (jf _ _));first|refine HI (ve T.r rfl) (T.z _ (by decide +kernel)) ?_|refine FT T.b (T.z _ (by decide +kernel)) (T.z _ (by decide +kernel)) ?_ (by kernel_rfl) (by walk_at "b"))
  | ((with_reducible show QE _ _ (Ap _));refine Kx ?_)
  | ((with_reducible show QE _ _ (nE _ _));refine HB ?_)
  | ((with_reducible show QE _ _ (ow _ _));refine Jy (px:="cover") (N:=["cover"]) (by assumption) (k:=0) (hr.mono (by decide)) (by rfl) (T.z _ (by decide +kernel)) (by walk_at "b") ⟨rfl,rfl,rfl,by decide +kernel,rfl,by decide +kernel,by decide +kernel⟩ ?_ λ_ _ _ _ _ _ _ hr=>?_))
local macro_rules | `(tactic| walk_at "S") => `(tactic| first
  | ((with_reducible show QS _ _ (aK _));refine MS ?_)
  | ((with_reducible show QS _ _ (cO _ _ _));refine OO ?_ ?_ ?_)
  | ((with_reducible show QS _ _ (aL _ (bq _ _ _ _)));first|refine yM (by assumption) (by kernel_rfl) (by first|exact .inl rfl|exact .inr rfl) nd ?_ ?_ ?_|refine yY (by kernel_rfl) (by first|exact .inl rfl|exact .inr rfl) nd ?_ ?_ ?_|refine A0 _ nd ?_)
  | ((with_reducible show QS _ _ (aL _ (bY _ _ _ _ _ _)));first|refine xv (by assumption) (by kernel_rfl) (by first|exact .inl rfl|exact .inr rfl) ?_ nd ?_ ?_ ?_ ?_|refine A0 _ nd ?_)
  | ((with_reducible show QS _ _ (aL _ _));refine Nf _ nd ?_)
  | ((with_reducible show QS _ _ (dE _ _));refine KR ?_ ?_)
  | ((with_reducible show QS _ _ (js _ _ _));refine LA PassesOwn.leaving ?_ ?_ ?_)
  | ((with_reducible show QS _ _ (bA _));refine Hn ?_)
  | ((with_reducible show QS _ _ (nk _ _ _));refine Ms ?_ ?_ ?_)
  | ((with_reducible show QS _ _ (aG));first|exact qs_pass|exact qs_doc)
  | ((with_reducible show QS _ _ (xE _ _ _));refine Fz PassesOwn.leaving ?_ ?_)
  | ((with_reducible show QS _ _ (fV _ _));refine Ci (T.e _ (by decide +kernel)) ?_)
  | ((with_reducible show QS _ _ (oJ _ _ _ _));refine IS (ve T.r rfl) nd ?_ ?_)
  | ((with_reducible show QS _ _ (AF _ _ _));refine KQ nd ?_)
  | ((with_reducible show QS _ _ (fX _ _ _ _));first|refine JC (Bc T.a _ _) ?_ ?_|refine qs_fldCA (Bc T.a _ _) ?_ ?_)
  | ((with_reducible show QS _ _ (Iw _ _ _ _));refine Mm (Bc T.a _ _) ?_ ?_)
  | ((with_reducible show QS _ _ (uM _ _ _ _));refine MY ?_ ?_ ?_ ?_))
local macro_rules | `(tactic| walk_at "Q") => `(tactic| first
  | ((with_reducible show QE _ _ _);first|walk_at "E"|refine Nk ?_|refine KS ?_ ?_|refine PV ?_ ?_|refine qe_fstr1 ?_)
  | ((with_reducible show QA _ _ _);first|exact NU|refine R7 ?_ ?_)
  | ((with_reducible show QT _ _ _);first
  | ((with_reducible show QT _ _ (aI (qJ _ _ _ _ _)));refine DN (by walk_at "o") (by walk_at "o") ?_ ?_ ?_)
  | ((with_reducible show QT _ _ (aI _));first|refine Lk (by walk_at "o") ?_ ?_|refine JL (by walk_at "o") ?_ ?_)
  | ((with_reducible show QT _ _ (eU _));refine NF ?_)
  | ((with_reducible show QT _ _ (eJ _));refine L7 ?_)
  | ((with_reducible show QT _ _ (dN _ _));refine Pj ?_)
  | ((with_reducible show QT _ _ (iS _ _));refine Pj ?_))
  | ((with_reducible show QB _ _ _);first|exact LW|refine Mw ?_|refine Ia ?_ ?_)
  | ((with_reducible show QS _ _ _);walk_at "S")
  | ((with_reducible show QW _ _ _);first|refine NB ?_ ?_|refine Pf ?_ ?_|refine Ih ?_|refine K7 ?_)
  | ((with_reducible show QI _ _ _ _);first|((with_reducible show QI _ _ _ (dQ _));refine PQ (by rfl) (T.z _ (by decide +kernel)) ?_)|((with_reducible show QI _ _ _ (gRng2 _));refine qi_r2 (by rfl) (T.z _ (by decide +kernel)) ?_)|((with_reducible show QI _ _ _ (lU _));refine IR (by rfl) (T.z _ (by decide +kernel)) (by walk_at "b") ?_)|refine Lm ?_)
  | ((with_reducible show QG _ _ _);first|exact qn _ nd|exact SW _ (by kernel_rfl)|refine Km ?_|refine Ie ?_)
  | ((with_reducible show P8 _ _ _);first|exact HP|refine Px ?_ ?_)
  | ((with_reducible show Qp _ _ _);first|exact IN|refine Pq ?_ ?_)
  | ((with_reducible show QP _ _ _);first|exact JE|refine HD ?_)
  | ((with_reducible show EE _ _ _ _ _ _);first|exact Cu|refine q_onetest ?_)
  | ((with_reducible show QO _ _);first|exact qo_one _ _|exact Ky _|refine qo_tupG ?_)
  | ((with_reducible show QOs _ _);first|exact qos_nil|refine qos_c ?_ ?_)
  | ((with_reducible show QF _ _ _);first|exact MX|refine RL ?_ ?_)
  | ((with_reducible show QD _ _ _ _ _);first|exact qd_nil|refine qd_c ?_)
  | intro _)
local macro_rules | `(tactic| walk_at "R") => `(tactic| repeat' walk_at "Q")
section
variable {P:Program}{w:World}{K:W.Frag}{mg:Str->Option Value}{base:Heap}
def ju:GS:=(av (aL 2 (gC (I 2305843009213693951))) (av (cO (aI (g2 qK (g2 bb (ae 0) (gC (I 2))) (ae 1))) (av (aL 3 (gC (I 0))) (av (cO (aI (g2 xI (aQ bE (aa (g2 bb (ae 0) (gC (I 0))) af)) (gC (I 0)))) (aL 3 (g2 bb (g2 bb (ae 0) (gC (I 0))) (g2 gV (g2 bb (ae 0) (gC (I 1))) (aQ bE (aa (g2 bb (ae 0) (gC (I 0))) af))))) aG) (av (cO (iS (aI (g2 ze (g2 bb (ae 0) (gC (I 1))) (aQ bE (aa (g2 bb (ae 0) (gC (I 0))) af)))) (aI (g2 qK (ae 3) (g2 oB (gC (I 10)) (gC (I 18)))))) (av (aL 3 (g2 gV (g2 bC (ae 3) (g2 gf (gC (I 1000003)) (g2 bb (ae 0) (gC (I 1))))) (ae 2))) (av (aL 3 (g2 gV (g2 bC (g2 bC (g2 gf (ae 3) (ae 3)) (g2 gf (gC (I 1181783497276652981)) (ae 3))) (gC (I 2049848353892358983))) (ae 2))) (aL 3 (g2 gV (g2 bC (g2 gf (ae 3) (ae 3)) (gC (I 1442695040888963407))) (ae 2))))) aG) (av (nk (ae 0) (gC (I 1)) (g2 bC (g2 bb (ae 0) (gC (I 1))) (gC (I 1)))) (nk (ae 0) (gC (I 2)) (ae 3)))))) aG) (av (aL 4 (g2 gV (g2 bb (ae 0) (gC (I 2))) (ae 1))) (av (nk (ae 0) (gC (I 2)) (g2 iE (g2 bb (ae 0) (gC (I 2))) (ae 1))) (aK (ae 4))))))
def ar:FD:=bn 3 ju
variable (T:TX P w K mg base)
include T
def cg:Ok P w K mg base "_law_draw" 1 2 ar:=cu (cr T.f 0 rfl) ["tape","many","prime","cell","found"] aU rfl λf _ A _ s H E nd hr=>by delta ju;walk_at "R"
def mO:GS:=(aK (g2 bC (gC (I 1)) (g2 bb (dM (aa (aj 2 ar (aa (ae 0) (aa (aQ zA (aa (ae 1) (aa (gC (I 6)) af))) af))) (aa (aj 2 ar (aa (ae 0) (aa (ae 1) af))) (aa (g2 eY (ae 1) (gC (I 1))) af)))) (g2 iE (g2 gf (aj 2 ar (aa (ae 0) (aa (gC (I 8)) af))) (gC (I 3))) (gC (I 10))))))
def eV:FD:=bn 0 mO
def oA:Ok P w K mg base "_law_size" 2 2 eV:=cu (cr T.f 1 rfl) ["tape","most"] aU rfl λf _ A _ s H E nd hr=>by have:=cg T;delta mO;walk_at "R"
def kF:GS:=(av (aL 2 (g2 bb (dM (aa (gC (I 0)) (aa (aj 2 ar (aa (ae 0) (aa (gC (I 21)) af))) af))) (aj 2 ar (aa (ae 0) (aa (gC (I 2)) af))))) (aK (aD (aa (aj 2 eV (aa (ae 0) (aa (ae 1) af))) (aa (aj 2 eV (aa (ae 0) (aa (ae 1) af))) (aa (ae 2) (aa (aj 2 ar (aa (ae 0) (aa (gC (I 13)) af))) af)))))))
def iQ:FD:=bn 1 kF
def uV:Ok P w K mg base "_law_frame" 3 2 iQ:=cu (cr T.f 2 rfl) ["tape","most","gap"] aU rfl λf _ A _ s H E nd hr=>by have:=cg T;have:=oA T;delta kF;walk_at "R"
def gH:GE:=(g2 gf (aj 2 ar (aa (ae 1) (aa (gC (I 16)) af))) (aQ zk (aa (g2 xI (aj 2 ar (aa (ae 1) (aa (ae 3) af))) (gC (I 0))) af)))
def l6:GS:=(aK (aQ eX (aa (bq (dQ (aa (ae 1) af)) cb gH aP) af)))
def jI:FD:=bn 0 l6
def xf:Ok P w K mg base "_law_inks" 2 3 jI:=cu (cr T.f 3 rfl) ["tape","wide","thin"] aU rfl λf _ A _ s H E nd hr=>by have:=cg T;delta l6 gH;walk_at "R"
def ii:GE:=(aj 3 jI (aa (ae 1) (aa (ae 3) (aa (ae 4) af))))
def kK:GS:=(av (aL 2 (aj 2 eV (aa (ae 0) (aa (ae 1) af)))) (av (aL 3 (g2 bC (gC (I 1)) (aj 2 ar (aa (ae 0) (aa (gC (I 4)) af))))) (aK (aQ eX (aa (bq (dQ (aa (aj 2 eV (aa (ae 0) (aa (ae 1) af))) af)) cb ii aP) af)))))
def gF:FD:=bn 2 kK
def uW:Ok P w K mg base "_law_inked" 3 2 gF:=cu (cr T.f 4 rfl) ["tape","most","wide","thin"] aU rfl λf _ A _ s H E nd hr=>by have:=cg T;have:=oA T;have:=xf T;delta kK ii;walk_at "R"
def nN:GS:=(aK (g2 bb (dM (aa (g2 eY (aj 2 ar (aa (ae 0) (aa (g2 bC (ae 1) (gC (I 16))) af))) (gC (I 8))) (aa (g2 eY (aj 2 ar (aa (ae 0) (aa (gC (I 2001)) af))) (gC (I 1000))) af))) (g2 iE (aj 2 ar (aa (ae 0) (aa (gC (I 8)) af))) (gC (I 7)))))
def bQ:FD:=bn 0 nN
def mn:Ok P w K mg base "_law_far" 2 2 bQ:=cu (cr T.f 5 rfl) ["tape","size"] aU rfl λf _ A _ s H E nd hr=>by have:=cg T;delta nN;walk_at "R"
def df:GS:=(av (aL 3 (gC .non)) (av (cO (dN (aI (g2 xI (ae 2) (gC (I 0)))) (aI (g2 xI (aj 2 ar (aa (ae 0) (aa (gC (I 8)) af))) (gC (I 0))))) (aL 3 (aj 2 ar (aa (ae 0) (aa (ae 2) af)))) aG) (aK (aD (aa (ae 3) (aa (aj 2 bQ (aa (ae 0) (aa (g2 bb (ae 1) (gC (I 0))) af))) (aa (aj 2 bQ (aa (ae 0) (aa (g2 bb (ae 1) (gC (I 1))) af))) (aa (aj 2 ar (aa (ae 0) (aa (gC (I 4)) af))) (aa (aj 2 ar (aa (ae 0) (aa (gC (I 4)) af))) af)))))))))
def iI:FD:=bn 1 df
def nD:Ok P w K mg base "_law_mover" 3 3 iI:=cu (cr T.f 6 rfl) ["tape","frame","shapes","shape"] aU rfl λf _ A _ s H E nd hr=>by have:=cg T;have:=mn T;delta df;walk_at "R"
def hX:GE:=(aj 2 gF (aa (ae 1) (aa (gC (I 8)) af)))
def hZ:GE:=(aj 3 iI (aa (ae 1) (aa (ae 2) (aa (aQ bE (aa (ae 7) af)) af))))
def ia:GE:=(aj 2 ar (aa (ae 1) (aa (gC (I 64)) af)))
def iG:GS:=(av (aL 3 (aj 2 gF (aa (ae 0) (aa (gC (I 16)) af)))) (av (aL 4 (aD (aa (aj 2 bQ (aa (ae 0) (aa (gC (I 9)) af))) (aa (aj 2 bQ (aa (ae 0) (aa (gC (I 9)) af))) af)))) (av (aL 5 (g2 bb (dM (aa (aj 2 ar (aa (ae 0) (aa (gC (I 4)) af))) (aa (aj 2 ar (aa (ae 0) (aa (gC (I 9)) af))) af))) (g2 iE (aj 2 ar (aa (ae 0) (aa (gC (I 4)) af))) (gC (I 3))))) (av (aL 6 (aQ eX (aa (bq (dQ (aa (ae 5) af)) cb hX aP) af))) (av (aL 7 (aQ eX (aa (bq (dQ (aa (aj 2 ar (aa (ae 0) (aa (g2 bC (ae 2) (gC (I 1))) af))) af)) cb hZ aP) af))) (aK (aD (aa (ae 3) (aa (ae 4) (aa (ae 6) (aa (ae 7) (aa (aQ eX (aa (bq (dQ (aa (gC (I 16)) af)) cb ia aP) af)) af))))))))))))
def kA:FD:=bn 5 iG
def uS:Ok P w K mg base "_law_stand" 4 3 kA:=cu (cr T.f 7 rfl) ["tape","frame","movers_most","floor","shift","shapes","book","movers"] aU rfl λf _ A _ s H E nd hr=>by have:=cg T;have:=uW T;have:=mn T;have:=nD T;delta iG hX hZ ia;walk_at "R"
def jJ:GS:=(av (aL 3 (aj 2 ar (aa (ae 0) (aa (gC (I 8)) af)))) (av (cO (iS (aI (g2 qK (ae 3) (gC (I 2)))) (aI (g2 (aV false) (g2 bb (ae 2) (gC (I 3))) (aD af)))) (av (aL 4 (dM (aa (aD (aa (gC (S "shift")) (aa (aj 2 bQ (aa (ae 0) (aa (gC (I 9)) af))) (aa (aj 2 bQ (aa (ae 0) (aa (gC (I 9)) af))) af)))) (aa (aD (aa (gC (S "pot")) (aa (aj 2 ar (aa (ae 0) (aa (gC (I 16)) af))) (aa (aj 2 ar (aa (ae 0) (aa (gC (I 64)) af))) af)))) af)))) (aK (g2 bb (ae 4) (g2 gV (ae 3) (gC (I 2)))))) aG) (av (aL 5 (aj 2 ar (aa (ae 0) (aa (aQ bE (aa (g2 bb (ae 2) (gC (I 3))) af)) af)))) (av (aL 6 (aj 3 iI (aa (ae 0) (aa (ae 1) (aa (aQ bE (aa (g2 bb (ae 2) (gC (I 2))) af)) af))))) (av (cO (aI (g2 qK (ae 3) (gC (I 5)))) (aK (aD (aa (gC (S "move")) (aa (ae 5) (aa (g2 bb (ae 6) (gC (I 1))) (aa (g2 bb (ae 6) (gC (I 2))) af)))))) aG) (aK (g2 bb (dM (aa (aD (aa (gC (S "shape")) (aa (ae 5) (aa (g2 bb (ae 6) (gC (I 0))) af)))) (aa (aD (aa (gC (S "rank")) (aa (ae 5) (aa (g2 bb (ae 6) (gC (I 3))) af)))) (aa (aD (aa (gC (S "turn")) (aa (ae 5) (aa (g2 bb (ae 6) (gC (I 4))) af)))) af)))) (g2 eY (ae 3) (gC (I 5))))))))))
def mj:FD:=bn 4 jJ
def xy:Ok P w K mg base "_law_deed" 4 3 mj:=cu (cr T.f 8 rfl) ["tape","frame","stand","way","some","number","mover"] aU rfl λf _ A _ s H E nd hr=>by have:=cg T;have:=mn T;have:=nD T;delta jJ;walk_at "R"
def fE:GE:=(aD (aa (aj 2 ar (aa (ae 1) (aa (ae 5) af))) (aa (aj 3 mj (aa (ae 1) (aa (ae 2) (aa (ae 3) af)))) af)))
def fH:GE:=(aD (aa (g2 bb (g2 bb (ae 6) (ae 0)) (gC (I 0))) (aa (ae 0) af)))
def ib:GE:=(g2 bb (ae 7) (ae 1))
def iK:GS:=(av (aL 4 (g2 gf (g2 bb (ae 1) (gC (I 1))) (g2 bC (g2 bb (ae 1) (gC (I 0))) (g2 bb (ae 1) (gC (I 2)))))) (av (aL 5 (bq (dQ (aa (aj 2 ar (aa (ae 0) (aa (g2 bC (ae 3) (gC (I 1))) af))) af)) cb fE aP)) (av (aL 6 (aQ tF (aa (bq (dQ (aa (aQ bE (aa (ae 5) af)) af)) cb fH aP) af))) (aK (bY (cj (ae 6)) 2 (bB [0,1]) cb ib dS)))))
def kJ:FD:=bn 3 iK
def uJ:Ok P w K mg base "_law_timed" 5 4 kJ:=cu (cr T.f 9 rfl) ["tape","frame","stand","most","ticks","found","places"] aU rfl λf _ A _ s H E nd hr=>by have:=cg T;have:=xy T;have:=rn 350 11 ["tick","k"] ["tape","frame","stand","most","ticks","found","places"];delta iK fE fH ib;walk_at "R"
def gW (F:FD):GS:=(av (cO (aI (g2 (aV false) (ae 1) (dM af))) (aK (ae 2)) aG) (av (aL 3 (g2 bb (ae 1) (gC (I 0)))) (av (aL 4 (aj 3 F (aa (g2 bb (ae 0) (ae 3)) (aa (oo (ae 1) (dg (gC (I 1))) bu) (aa (ae 2) af))))) (aK (g2 bC (g2 bC (oo (ae 0) bu (dg (ae 3))) (aD (aa (ae 4) af))) (oo (ae 0) (dg (g2 bC (ae 3) (gC (I 1)))) bu))))))
def cQ:Nat->FD
 | 0=>λ_ _=>.bad
 | n+1=>bn 2 (gW (cQ n))
theorem qY:∀n:Nat,Ok P w K mg base "_law_put" (n+1) 3 (cQ n)
 | 0=>NQ (cr T.f 10 rfl)
 | n+1=>by
  have e:n+1+1=n+1+1:=by omega
  rw[e];have:=qY n;exact cu (cr T.f 10 rfl) ["thing","path","other","at","inner"] aU rfl λf _ A _ s H E nd hr=>by delta gW;walk_at "R"
def fY:GS:=(av (aL 1 (kr (aa (jf (vY [("NoDeed",false),("NoFrame",true),("NoStand",false),("NoTick",false),("Over",false)]) (ae 0)) (aa (jf (vY [("NoDeed",false),("NoFrame",false),("NoStand",true),("NoTick",false),("Over",false)]) (ae 0)) (aa (jf (vY [("NoDeed",false),("NoFrame",false),("NoStand",false),("NoTick",true),("Over",false)]) (ae 0)) af))))) (av (aL 1 (g2 wO (ae 1) (dM (aa (jf (vY [("NoDeed",true),("NoFrame",false),("NoStand",false),("NoTick",false),("Over",false)]) (ae 0)) (aa (jf (vY [("NoDeed",false),("NoFrame",false),("NoStand",false),("NoTick",false),("Over",true)]) (ae 0)) (aa (jf (vY [("NoDeed",false),("NoFrame",false),("NoStand",false),("NoTick",false),("Over",false)]) (ae 0)) af)))))) (av (aL 1 (g2 wO (ae 1) (dM (aa (jf (vY [("NoDeed",false),("NoFrame",false),("NoStand",false),("NoTick",false),("Over",false)]) (ae 0)) (aa (jf (vY [("NoDeed",false),("NoFrame",false),("NoStand",false),("NoTick",false),("Over",false)]) (ae 0)) (aa (jf (vY [("NoDeed",false),("NoFrame",false),("NoStand",false),("NoTick",false),("Over",false)]) (ae 0)) af)))))) (av (bA (lP (ae 1) (jf (vY [("NoDeed",false),("NoFrame",false),("NoStand",false),("NoTick",false),("Over",false)]) (ae 0)))) (av (cO (iS (eU (eJ (jf (vY [("NoDeed",true),("NoFrame",true),("NoStand",true),("NoTick",true),("Over",true)]) (ae 0)))) (aI (g2 (aV true) (jV kY (ae 1) (gC (G true))) (gC (I 1))))) (aK (aD (aa (gC (S "another")) af))) aG) (av (aL 2 (dM (aa (gC (S "frame")) (aa (gC (S "stand")) (aa (gC (S "tick")) (aa (gC (S "deed")) (aa (gC (S "over")) (aa (gC (S "score")) (aa (gC (S "clash")) (aa (gC (S "text")) (aa (gC (S "film")) (aa (gC (S "row")) af)))))))))))) (aK (aD (aa (g2 bb (ae 2) (jV kO (ae 1) (gC (G true)))) af)))))))))
def im:FD:=λds M=>jZ M.length (bn 2 fY ds M)
def xD:Ok P w K mg base "_law_word" 1 1 im:=se (F:=bn 2 fY) <| cu (cr T.f 11 rfl) ["error","kinds","words"] aU rfl λf _ A _ s H E nd hr=>by delta fY;walk_at "R"
def sL:GS:=(aK (fg (jL "int" (ae 0)) (yE (aI (jL "bool" (ae 0))))))
def nO:FD:=bn 0 sL
def yW:Ok P w K mg base "is_whole" 1 1 nO:=cu (cr T.f 12 rfl) ["thing"] aU rfl λf _ A _ s H E nd hr=>by delta sL;walk_at "R"
def jA:GS:=(aK (fg (aj 1 nO (aa (ae 0) af)) (qJ oj oj (ae 1) (ae 0) (ae 2))))
def bS:FD:=bn 0 jA
def du:Ok P w K mg base "is_within" 2 3 bS:=cu (cr T.f 13 rfl) ["thing","low","high"] aU rfl λf _ A _ s H E nd hr=>by have:=yW T;delta jA;walk_at "R"
def kR:GS:=(av (cO (iS (eU (eJ (jL "tuple" (ae 0)))) (aI (g2 (aV true) (aQ bE (aa (ae 0) af)) (gC (I 4))))) (aK (gC (G false))) aG) (av (dE (bB [1,2,3,4]) (ae 0)) (aK (fg (aj 3 bS (aa (ae 1) (aa (gC (I 1)) (aa (gC (I 40)) af)))) (fg (aj 3 bS (aa (ae 2) (aa (gC (I 1)) (aa (gC (I 40)) af)))) (fg (aj 3 bS (aa (ae 3) (aa (gC (I 0)) (aa (gC (I 20)) af)))) (aj 3 bS (aa (ae 4) (aa (gC (I 0)) (aa (gC (I 12)) af))))))))))
def oh:FD:=bn 4 kR
def yj:Ok P w K mg base "is_frame" 3 1 oh:=cu (cr T.f 14 rfl) ["thing","wide","high","gap","most"] aU rfl λf _ A _ s H E nd hr=>by have:=du T;delta kR;walk_at "R"
def xN:GS:=(aK (aj 3 bS (aa (ae 0) (aa (gC (I 0)) (aa (gC (I 15)) af)))))
def mq:FD:=bn 0 xN
def wg:Ok P w K mg base "is_ink" 3 1 mq:=cu (cr T.f 15 rfl) ["thing"] aU rfl λf _ A _ s H E nd hr=>by have:=du T;delta xN;walk_at "R"
def ij:GE:=(aj 1 mq (aa (ae 0) af))
def iR:GS:=(aK (fg (jL "tuple" (ae 0)) (aQ kL (aa (bq (cj (ae 0)) cb ij aP) af))))
def kH:FD:=bn 0 iR
def u4:Ok P w K mg base "is_ink_row" 4 1 kH:=cu (cr T.f 16 rfl) ["thing"] aU rfl λf _ A _ s H E nd hr=>by have:=wg T;delta iR ij;walk_at "R"
def fT:GE:=(aj 1 kH (aa (ae 0) af))
def eE:GE:=(g2 (aV false) (aQ bE (aa (ae 0) af)) (ae 3))
def gN:GS:=(av (cO (iS (eU (eJ (jL "tuple" (ae 0)))) (eU (aI (qJ oj oj (gC (I 1)) (aQ bE (aa (ae 0) af)) (ae 1))))) (aK (gC (G false))) aG) (av (cO (eU (eJ (aQ kL (aa (bq (cj (ae 0)) cb fT aP) af)))) (aK (gC (G false))) aG) (av (aL 2 (aQ bE (aa (g2 bb (ae 0) (gC (I 0))) af))) (aK (fg (qJ oj oj (gC (I 1)) (ae 2) (ae 1)) (aQ kL (aa (bq (cj (ae 0)) cb eE aP) af)))))))
def gq:FD:=bn 1 gN
def lL:Ok P w K mg base "is_ink_block" 5 2 gq:=cu (cr T.f 17 rfl) ["thing","most","length"] aU rfl λf _ A _ s H E nd hr=>by have:=u4 T;delta gN fT eE;walk_at "R"
def lC:GS:=(aK (aj 2 gq (aa (ae 0) (aa (gC (I 8)) af))))
def nG:FD:=bn 0 lC
def yx:Ok P w K mg base "is_shape" 6 1 nG:=cu (cr T.f 18 rfl) ["thing"] aU rfl λf _ A _ s H E nd hr=>by have:=lL T;delta lC;walk_at "R"
def kZ:GE:=(aj 1 nG (aa (ae 0) af))
def m8:GS:=(aK (fg (jL "tuple" (ae 0)) (fg (g2 oj (aQ bE (aa (ae 0) af)) (gC (I 8))) (aQ kL (aa (bq (cj (ae 0)) cb kZ aP) af)))))
def p5:FD:=bn 0 m8
def zN:Ok P w K mg base "is_book" 7 1 p5:=cu (cr T.f 19 rfl) ["thing"] aU rfl λf _ A _ s H E nd hr=>by have:=yx T;delta m8 kZ;walk_at "R"
def eM:GS:=(aK (Kf (g2 (kI false) (ae 1) (gC .non)) (aj 3 bS (aa (ae 1) (aa (gC (I 0)) (aa (g2 eY (aQ bE (aa (ae 0) af)) (gC (I 1))) af))))))
def dA:FD:=bn 0 eM
def ja:Ok P w K mg base "is_shape_number" 3 2 dA:=cu (cr T.f 20 rfl) ["book","thing"] aU rfl λf _ A _ s H E nd hr=>by have:=du T;delta eM;walk_at "R"
def ke:GE:=(aj 3 bS (aa (ae 0) (aa (lO (gC (I 1000))) (aa (gC (I 1000)) af))))
def eG:GS:=(aK (fg (jL "tuple" (ae 0)) (fg (g2 (aV false) (aQ bE (aa (ae 0) af)) (gC (I 2))) (aQ kL (aa (bq (cj (ae 0)) cb ke aP) af)))))
def br:FD:=bn 0 eG
def fj:Ok P w K mg base "is_place_pair" 3 1 br:=cu (cr T.f 21 rfl) ["thing"] aU rfl λf _ A _ s H E nd hr=>by have:=du T;delta eG ke;walk_at "R"
def wl:GS:=(aK (aj 3 bS (aa (ae 0) (aa (gC (I 0)) (aa (gC (I 3)) af)))))
def jX:FD:=bn 0 wl
def uh:Ok P w K mg base "is_rank" 3 1 jX:=cu (cr T.f 22 rfl) ["thing"] aU rfl λf _ A _ s H E nd hr=>by have:=du T;delta wl;walk_at "R"
def vM:GS:=(aK (aj 3 bS (aa (ae 0) (aa (gC (I 0)) (aa (gC (I 3)) af)))))
def jY:FD:=bn 0 vM
def uD:Ok P w K mg base "is_turn" 3 1 jY:=cu (cr T.f 23 rfl) ["thing"] aU rfl λf _ A _ s H E nd hr=>by have:=du T;delta vM;walk_at "R"
def lF:GS:=(av (cO (iS (eU (eJ (jL "tuple" (ae 1)))) (aI (g2 (aV true) (aQ bE (aa (ae 1) af)) (gC (I 5))))) (aK (gC (G false))) aG) (av (dE (bB [2,3,4,5,6]) (ae 1)) (aK (fg (aj 2 dA (aa (ae 0) (aa (ae 2) af))) (fg (aj 1 br (aa (aD (aa (ae 3) (aa (ae 4) af))) af)) (fg (aj 1 jX (aa (ae 5) af)) (aj 1 jY (aa (ae 6) af))))))))
def n5:FD:=bn 5 lF
def yS:Ok P w K mg base "is_mover" 4 2 n5:=cu (cr T.f 24 rfl) ["book","thing","shape","x","y","rank","turn"] aU rfl λf _ A _ s H E nd hr=>by have:=ja T;have:=fj T;have:=uh T;have:=uD T;delta lF;walk_at "R"
def hG:GE:=(aj 2 n5 (aa (ae 1) (aa (ae 0) af)))
def iM:GS:=(aK (fg (jL "tuple" (ae 1)) (fg (g2 oj (aQ bE (aa (ae 1) af)) (gC (I 12))) (aQ kL (aa (bq (cj (ae 1)) cb hG aP) af)))))
def kX:FD:=bn 0 iM
def u6:Ok P w K mg base "are_movers" 5 2 kX:=cu (cr T.f 25 rfl) ["book","thing"] aU rfl λf _ A _ s H E nd hr=>by have:=yS T;delta iM hG;walk_at "R"
def yw:GS:=(aK (aj 3 bS (aa (ae 0) (aa (gC (I 0)) (aa (gC (I 63)) af)))))
def mD:FD:=bn 0 yw
def wf:Ok P w K mg base "is_hue" 3 1 mD:=cu (cr T.f 26 rfl) ["thing"] aU rfl λf _ A _ s H E nd hr=>by have:=du T;delta yw;walk_at "R"
def jE:GE:=(aj 1 mD (aa (ae 0) af))
def lD:GS:=(aK (fg (jL "tuple" (ae 0)) (fg (g2 (aV false) (aQ bE (aa (ae 0) af)) (gC (I 16))) (aQ kL (aa (bq (cj (ae 0)) cb jE aP) af)))))
def nV:FD:=bn 0 lD
def yp:Ok P w K mg base "are_pots" 4 1 nV:=cu (cr T.f 27 rfl) ["thing"] aU rfl λf _ A _ s H E nd hr=>by have:=wf T;delta lD jE;walk_at "R"
def lh:GS:=(av (cO (iS (eU (eJ (jL "tuple" (ae 0)))) (aI (g2 (aV true) (aQ bE (aa (ae 0) af)) (gC (I 5))))) (aK (gC (G false))) aG) (av (dE (bB [1,2,3,4,5]) (ae 0)) (av (cO (eU (dN (eJ (aj 2 gq (aa (ae 1) (aa (gC (I 16)) af)))) (dN (eJ (aj 1 br (aa (ae 2) af))) (eJ (aj 1 nV (aa (ae 5) af)))))) (aK (gC (G false))) aG) (aK (fg (aj 1 p5 (aa (ae 3) af)) (aj 2 kX (aa (ae 3) (aa (ae 4) af))))))))
def nK:FD:=bn 5 lh
def yu:Ok P w K mg base "is_stand" 8 1 nK:=cu (cr T.f 28 rfl) ["thing","floor","shift","book","movers","pots"] aU rfl λf _ A _ s H E nd hr=>by have:=lL T;have:=zN T;have:=fj T;have:=u6 T;have:=yp T;delta lh;walk_at "R"
def cF:GS:=(av (cO (eU (eJ (aj 1 oh (aa (ae 0) af)))) (fV "NoFrame" (gC (S "that is no frame"))) aG) (cO (eU (eJ (aj 1 nK (aa (ae 1) af)))) (fV "NoStand" (gC (S "that is no stand"))) aG))
def aE:FD:=bn 0 cF
def mH:Ok P w K mg base "check_begin" 9 2 aE:=cu (cr T.f 29 rfl) ["frame","stand"] aU rfl λf _ A _ s H E nd hr=>by have:=yj T;have:=yu T;delta cF;walk_at "R"
def cY:GS:=(av (bA (aj 2 aE (aa (ae 1) (aa (ae 2) af)))) (av (fX "Beam" "frame" (ae 0) (ae 1)) (av (fX "Beam" "standing" (ae 0) (ae 2)) (av (fX "Beam" "ahead" (ae 0) (gC (I 0))) (av (fX "Beam" "row_taken" (ae 0) (aD (aa (aD af) (aa (aD af) af)))) (av (fX "Beam" "laid_rows" (ae 0) (kr af)) (av (fX "Beam" "first_touches" (ae 0) yQ) (av (fX "Beam" "first_grounds" (ae 0) yH) (fX "Beam" "lost_pairs" (ae 0) (kr af))))))))))
def bX:FD:=bn 0 cY
def jU:Om P w K mg base "Beam" "__init__" 10 3 bX:=tM (tj T.m 0 rfl) ["self","frame","stand"] aU rfl λf _ A _ s H E nd hr=>by have:=mH T;delta cY;walk_at "R"
def qP:GS:=(av (dE (bB [1,2,3,4]) (ae 0)) (aK (g2 bC (ae 1) (ae 3))))
def jC:FD:=bn 4 qP
def oE:Ok P w K mg base "row_ticks" 1 1 jC:=cu (cr T.f 30 rfl) ["frame","wide","high","gap","most"] aU rfl λf _ A _ s H E nd hr=>by delta qP;walk_at "R"
def li:GS:=(av (dE (bB [1,2,3,4]) (ae 0)) (aK (g2 gf (ae 2) (aj 1 jC (aa (ae 0) af)))))
def cL:FD:=bn 4 li
def iw:Ok P w K mg base "ticks_of" 2 1 cL:=cu (cr T.f 31 rfl) ["frame","wide","high","gap","most"] aU rfl λf _ A _ s H E nd hr=>by have:=oE T;delta li;walk_at "R"
def jR:GE:=(ae 0)
def jO:GE:=(qJ oj qK (gC (I 0)) (ae 0) (aj 1 cL (aa (ae 1) af)))
def iN:GS:=(av (aL 2 (bY (cj (ae 1)) 2 (bB [0,1]) cb jR aP)) (aK (fg (g2 (aV false) (ae 2) (aQ tL (aa (ae 2) af))) (aQ kL (aa (bq (cj (ae 2)) cb jO aP) af)))))
def dm:FD:=bn 1 iN
def vd:Ok P w K mg base "ticks_hold" 3 2 dm:=cu (cr T.f 32 rfl) ["frame","timed","ticks"] aU rfl λf _ A _ s H E nd hr=>by have:=iw T;have:=rn 269 12 ["tick","deed"] ["frame","timed","ticks"];delta iN jR jO;walk_at "R"
def fO:GS:=(av (dE (bB [3,4,5,6,7]) (ae 0)) (av (cO (eU (eJ (aj 3 bS (aa (g2 bb (ae 2) (gC (I 0))) (aa (gC (I 0)) (aa (g2 eY (aQ bE (aa (ae 6) af)) (gC (I 1))) af)))))) (aK (gC (G false))) aG) (av (cO (aI (g2 (aV false) (ae 1) (gC (S "move")))) (aK (aj 1 br (aa (oo (ae 2) (dg (gC (I 1))) bu) af))) aG) (av (cO (aI (g2 (aV true) (aQ bE (aa (ae 2) af)) (gC (I 2)))) (aK (gC (G false))) aG) (av (cO (aI (g2 (aV false) (ae 1) (gC (S "shape")))) (aK (aj 2 dA (aa (ae 5) (aa (g2 bb (ae 2) (gC (I 1))) af)))) aG) (av (cO (aI (g2 (aV false) (ae 1) (gC (S "rank")))) (aK (aj 1 jX (aa (g2 bb (ae 2) (gC (I 1))) af))) aG) (aK (fg (g2 (aV false) (ae 1) (gC (S "turn"))) (aj 1 jY (aa (g2 bb (ae 2) (gC (I 1))) af))))))))))
def fN:FD:=bn 5 fO
def pO:Ok P w K mg base "is_mover_deed" 4 3 fN:=cu (cr T.f 33 rfl) ["stand","word","parts","floor","shift","book","movers","pots"] aU rfl λf _ A _ s H E nd hr=>by have:=du T;have:=ja T;have:=fj T;have:=uh T;have:=uD T;delta fO;walk_at "R"
def vA:GS:=(av (cO (iS (eU (eJ (jL "tuple" (ae 1)))) (aI (g2 qK (aQ bE (aa (ae 1) af)) (gC (I 3))))) (aK (gC (G false))) aG) (av (AF 2 3 (aa (g2 bb (ae 1) (gC (I 0))) (aa (oo (ae 1) (dg (gC (I 1))) bu) af))) (av (cO (aI (g2 (aV false) (ae 2) (gC (S "shift")))) (aK (aj 1 br (aa (ae 3) af))) aG) (av (cO (aI (g2 (aV false) (ae 2) (gC (S "pot")))) (aK (fg (g2 (aV false) (aQ bE (aa (ae 3) af)) (gC (I 2))) (fg (aj 1 mq (aa (g2 bb (ae 3) (gC (I 0))) af)) (aj 1 mD (aa (g2 bb (ae 3) (gC (I 1))) af))))) aG) (aK (aj 3 fN (aa (ae 0) (aa (ae 2) (aa (ae 3) af)))))))))
def aS:FD:=bn 2 vA
def uB:Ok P w K mg base "is_deed" 5 2 aS:=cu (cr T.f 34 rfl) ["stand","thing","word","parts"] aU rfl λf _ A _ s H E nd hr=>by have:=wg T;have:=fj T;have:=wf T;have:=pO T;delta vA;walk_at "R"
def cH:GE:=(aj 2 aS (aa (ae 3) (aa (ae 1) af)))
def ce:GS:=(av (bA (aj 2 aE (aa (ae 0) (aa (ae 1) af)))) (av (cO (eU (eJ (aj 2 dm (aa (ae 0) (aa (ae 2) af))))) (fV "NoTick" (gC (S "a tick isn't one of the frame, or is less than the one ahead"))) aG) (cO (eU (eJ (aQ kL (aa (bY (cj (ae 2)) 2 (bB [0,1]) cb cH aP) af)))) (fV "NoDeed" (gC (S "there is no such deed of the stand"))) aG)))
def cA:FD:=bn 0 ce
def uY:Ok P w K mg base "check_plan" 10 3 cA:=cu (cr T.f 35 rfl) ["frame","stand","timed"] aU rfl λf _ A _ s H E nd hr=>by have:=mH T;have:=vd T;have:=uB T;have:=rn 275 15 ["tick","deed"] ["frame","stand","timed"];delta ce cH;walk_at "R"
def oi:GS:=(av (cO (iS (aI (g2 qK (ae 1) (gC (I 0)))) (aI (g2 ze (ae 1) (aj 1 cL (aa (ae 0) af))))) (fV "NoTick" (nE [(gC (S "the frame has no tick ")),(Ap (ae 1))] Str.empty)) aG) (av (dE (bB [2,3,4,5]) (ae 0)) (av (dE (bB [6,7]) (aQ AJ (aa (ae 1) (aa (aj 1 jC (aa (ae 0) af)) af)))) (av (cO (aI (g2 ze (ae 7) (ae 2))) (aK (aD (aa (ae 6) (aa (gC .non) af)))) aG) (aK (aD (aa (ae 6) (aa (ae 7) af))))))))
def ji:FD:=bn 6 oi
def yU:Ok P w K mg base "place_of" 3 2 ji:=cu (cr T.f 36 rfl) ["frame","tick","wide","high","gap","most","row","spot"] aU rfl λf _ A _ s H E nd hr=>by have:=oE T;have:=iw T;delta oi;walk_at "R"
def kU:GS:=(av (cO (iS (aI (g2 qK (ae 2) (gC (I 0)))) (aI (g2 ze (ae 2) (aQ bE (aa (ae 0) af))))) (aK (aD af)) aG) (av (aL 3 (sF (aI (g2 (tu false) (ae 1) (aD (aa (gC (I 2)) (aa (gC (I 3)) af))))) (g2 bb (ae 0) (g2 eY (g2 eY (aQ bE (aa (ae 0) af)) (gC (I 1))) (ae 2))) (g2 bb (ae 0) (ae 2)))) (aK (sF (aI (g2 (tu false) (ae 1) (aD (aa (gC (I 1)) (aa (gC (I 3)) af))))) (AM (ae 3)) (ae 3)))))
def kE:FD:=bn 1 kU
def zd:Ok P w K mg base "strip_of" 1 3 kE:=cu (cr T.f 37 rfl) ["shape","turn","row","strip"] aU rfl λf _ A _ s H E nd hr=>by delta kU;walk_at "R"
def hO:GS:=(av (dE (bB [3,4,5,6,7]) (ae 0)) (av (dE (bB [8,9,10,11,12]) (g2 bb (ae 6) (ae 1))) (aK (aD (aa (ae 1) (aa (ae 9) (aa (ae 11) (aa (aj 3 kE (aa (g2 bb (ae 5) (ae 8)) (aa (ae 12) (aa (g2 eY (ae 2) (ae 10)) af)))) af))))))))
def jN:FD:=bn 10 hO
def sX:Ok P w K mg base "strip_taken" 2 3 jN:=cu (cr T.f 38 rfl) ["stand","number","row","floor","shift","book","movers","pots","shape","x","y","rank","turn"] aU rfl λf _ A _ s H E nd hr=>by have:=zd T;delta hO;walk_at "R"
def fG:GE:=(g2 bb (ae 14) (g2 gV (g2 bC (ae 0) (ae 9)) (aQ bE (aa (ae 14) af))))
def iO:GS:=(av (dE (bB [3,4,5,6]) (ae 0)) (av (dE (rh [(dY 7),(bB [8,9]),(dY 10),(dY 11),(dY 12)]) (ae 1)) (av (aL 13 (g2 bb (ae 7) (g2 gV (g2 bC (ae 2) (ae 9)) (aQ bE (aa (ae 7) af))))) (aK (aQ eX (aa (bq (dQ (aa (ae 3) af)) cb fG aP) af))))))
def la:FD:=bn 11 iO
def uI:Ok P w K mg base "floor_inks" 1 3 la:=cu (cr T.f 39 rfl) ["frame","stand","row","wide","high","gap","most","floor","across","down","book","movers","pots","inks"] aU rfl λf _ A _ s H E nd hr=>by delta iO fG;walk_at "R"
def fZ:GS:=(cO (dN (aI (g2 (kI true) (ae 9) (gC .non))) (aI (qJ oj qK (ae 11) (ae 1) (g2 bC (ae 11) (aQ bE (aa (g2 bb (ae 4) (ae 9)) af)))))) (bA (lP (ae 7) (ae 8))) aG)
def jd:GS:=(av (dE (bB [2,3,4,5,6]) (ae 0)) (av (aL 7 (kr af)) (av (js (lU (aa (ae 5) af)) (rh [(dY 8),(bB [9,10,11,12,13])]) fZ) (aK (ae 7)))))
def lG:FD:=λds M=>jZ M.length (bn 12 jd ds M)
def qV:Ok P w K mg base "lying_on" 1 2 lG:=se (F:=bn 12 jd) <| cu (cr T.f 40 rfl) ["stand","row","floor","shift","book","movers","pots","told","number","shape","x","y","rank","turn"] aU rfl λf _ A _ s H E nd hr=>by delta jd fZ;walk_at "R"
def pY:GS:=(av (dE (bB [3,4,5,6]) (ae 0)) (aK (oo (aj 2 lG (aa (ae 1) (aa (ae 2) af))) bu (dg (ae 6)))))
def mU:FD:=bn 4 pY
def zC:Ok P w K mg base "kept_on" 2 3 mU:=cu (cr T.f 41 rfl) ["frame","stand","row","wide","high","gap","most"] aU rfl λf _ A _ s H E nd hr=>by have:=qV T;delta pY;walk_at "R"
def oV:GE:=(aj 3 jN (aa (ae 2) (aa (ae 0) (aa (ae 3) af))))
def xq:GS:=(av (aL 3 (bq (cj (aj 3 mU (aa (ae 0) (aa (ae 1) (aa (ae 2) af))))) cb oV aP)) (aK (aD (aa (aj 3 la (aa (ae 0) (aa (ae 1) (aa (ae 2) af)))) (aa (aQ eX (aa (ae 3) af)) af)))))
def oR:FD:=bn 1 xq
def Ew:Ok P w K mg base "taken" 3 3 oR:=cu (cr T.f 42 rfl) ["frame","stand","row","strips"] aU rfl λf _ A _ s H E nd hr=>by have:=sX T;have:=uI T;have:=zC T;delta xq oV;walk_at "R"
def pT:GS:=(av (dE (bB [3,4,5,6]) (ae 0)) (aK (oo (aj 2 lG (aa (ae 1) (aa (ae 2) af))) (dg (ae 6)) bu)))
def gY:FD:=bn 4 pT
def zq:Ok P w K mg base "lost_on" 2 3 gY:=cu (cr T.f 43 rfl) ["frame","stand","row","wide","high","gap","most"] aU rfl λf _ A _ s H E nd hr=>by have:=qV T;delta pT;walk_at "R"
def fh:GE:=(aD (aa (ae 2) (aa (ae 0) af)))
def fR:GS:=(av (fX "Beam" "row_taken" (ae 0) (aj 3 oR (aa (d7 "Beam" "frame" (ae 0)) (aa (d7 "Beam" "standing" (ae 0)) (aa (ae 1) af))))) (av (bA (lP (d7 "Beam" "laid_rows" (ae 0)) (kr af))) (Iw "Beam" "lost_pairs" (ae 0) (bq (cj (aj 3 gY (aa (d7 "Beam" "frame" (ae 0)) (aa (d7 "Beam" "standing" (ae 0)) (aa (ae 1) af))))) cb fh aP))))
def ej:FD:=bn 0 fR
def pI:Om P w K mg base "Beam" "take_row" 4 2 ej:=tM (tj T.m 1 rfl) ["self","row"] aU rfl λf _ A _ s H E nd hr=>by have:=Ew T;have:=zq T;delta fR fh;walk_at "R"
def fm:GS:=(cO (dN (aI (qJ oj qK (ae 6) (ae 1) (g2 bC (ae 6) (aQ bE (aa (ae 8) af))))) (aI (g2 (aV true) (g2 bb (ae 8) (g2 eY (ae 1) (ae 6))) (gC (I 0))))) (bA (lP (ae 4) (aD (aa (ae 7) (aa (ae 5) (aa (g2 bb (ae 8) (g2 eY (ae 1) (ae 6))) af)))))) aG)
def iu:GS:=(av (dE (bB [2,3]) (ae 0)) (av (aL 4 (kr af)) (av (js (cj (ae 3)) (bB [5,6,7,8]) fm) (aK (ae 4)))))
def jB:FD:=λds M=>jZ M.length (bn 7 iu ds M)
def wu:Ok P w K mg base "covers_at" 1 2 jB:=se (F:=bn 7 iu) <| cu (cr T.f 44 rfl) ["row_taken","x","inks","strips","told","number","left","rank","strip"] aU rfl λf _ A _ s H E nd hr=>by delta iu fm;walk_at "R"
def de:GS:=(bA (kB (d7 "Beam" "first_touches" (ae 0)) (aD (aa (ae 5) (aa (ae 6) af))) (aD (aa (ae 2) (aa (ae 3) af)))))
def dh:GS:=(js (cj (oo (ae 1) (dg (g2 bC (ae 4) (gC (I 1)))) bu)) (dY 6) de)
def dG:GS:=(js (lU (aa (ae 1) af)) (bB [4,5]) dh)
def fB:FD:=bn 3 dG
def mG:Om P w K mg base "Beam" "keep_touches" 1 4 fB:=tM (tj T.m 2 rfl) ["self","numbers","row","spot","at","one","other"] aU rfl λf _ A _ s H E nd hr=>by delta dG de dh;walk_at "R"
def eT:GS:=(bA (kB (d7 "Beam" "first_grounds" (ae 0)) (ae 4) (aD (aa (ae 2) (aa (ae 3) af)))))
def dF:GS:=(js (cj (ae 1)) (dY 4) eT)
def fA:FD:=bn 1 dF
def mP:Om P w K mg base "Beam" "keep_grounds" 1 4 fA:=tM (tj T.m 3 rfl) ["self","numbers","row","spot","number"] aU rfl λf _ A _ s H E nd hr=>by delta dF eT;walk_at "R"
def cC:GE:=(aD (aa (lO (g2 bb (ae 0) (gC (I 0)))) (aa (g2 bb (ae 0) (gC (I 1))) af)))
def jv:GS:=(av (cO (eJ (ae 1)) (av (dE (bB [2,3,4]) (ow (zf 0 cC) (ae 1))) (cO (iS (aI (g2 ze (ae 2) (gC (I 1)))) (aI (g2 (aV false) (ae 0) (gC (I 0))))) (aK (ae 4)) aG)) aG) (aK (ae 0)))
def eW:FD:=bn 3 jv
def wz:Ok P w K mg base "ink_shown" 3 2 eW:=RV (RF T.l 0 rfl) ["floor_ink","covers","rank","number","ink"] aU rfl λf _ _ A _ s H E nd tb hr=>by delta jv cC;walk_at "R"
def fo:GE:=(ae 1)
def fQ:GS:=(av (dE (bB [3,4]) (d7 "Beam" "row_taken" (ae 0))) (av (aL 5 (aj 2 jB (aa (d7 "Beam" "row_taken" (ae 0)) (aa (ae 2) af)))) (av (dE (bB [6,7,8,9,10]) (d7 "Beam" "standing" (ae 0))) (av (bA (lP (g2 bb (d7 "Beam" "laid_rows" (ae 0)) (lO (gC (I 1)))) (g2 bb (ae 10) (aj 2 eW (aa (g2 bb (ae 3) (ae 2)) (aa (ae 5) af)))))) (av (aL 11 (bY (cj (ae 5)) 3 (bB [0,1,2]) cb fo aP)) (av (bA (eO "Beam" "keep_touches" 4 fB (ae 0) (aa (ae 11) (aa (ae 1) (aa (ae 2) af))))) (cO (aI (g2 (aV true) (g2 bb (ae 3) (ae 2)) (gC (I 0)))) (bA (eO "Beam" "keep_grounds" 4 fA (ae 0) (aa (ae 11) (aa (ae 1) (aa (ae 2) af))))) aG)))))))
def eA:FD:=bn 9 fQ
def pZ:Om P w K mg base "Beam" "lay_spot" 4 3 eA:=tM (tj T.m 4 rfl) ["self","row","spot","inks","strips","covers","floor","shift","book","movers","pots","numbers"] aU rfl λf _ A _ s H E nd hr=>by have:=wu T;have:=mG T;have:=mP T;have:=wz T;have:=rn 242 18 ["rank","number","ink"] ["self","row","spot","inks","strips","covers","floor","shift","book","movers","pots","numbers"];delta fQ fo;walk_at "R"
def dO:GS:=(av (dE (bB [1,2]) (aj 2 ji (aa (d7 "Beam" "frame" (ae 0)) (aa (d7 "Beam" "ahead" (ae 0)) af)))) (av (cO (aI (g2 (aV false) (ae 2) (gC (I 0)))) (bA (eO "Beam" "take_row" 2 ej (ae 0) (aa (ae 1) af))) aG) (av (cO (aI (g2 (kI true) (ae 2) (gC .non))) (bA (eO "Beam" "lay_spot" 3 eA (ae 0) (aa (ae 1) (aa (ae 2) af)))) aG) (Iw "Beam" "ahead" (ae 0) (gC (I 1))))))
def eZ:FD:=bn 2 dO
def rm:Om P w K mg base "Beam" "go_tick" 5 1 eZ:=tM (tj T.m 5 rfl) ["self","row","spot"] aU rfl λf _ A _ s H E nd hr=>by have:=yU T;have:=pI T;have:=pZ T;delta dO;walk_at "R"
def iX:GS:=(bA (eO "Beam" "go_tick" 1 eZ (ae 0) af))
def gX:GT:=(aI (g2 qK (d7 "Beam" "ahead" (ae 0)) (ae 2)))
def m5:GS:=(av (aL 2 (g2 bC (d7 "Beam" "ahead" (ae 0)) (ae 1))) (av (cO (aI (g2 xI (ae 2) (aj 1 cL (aa (d7 "Beam" "frame" (ae 0)) af)))) (fV "Over" (gC (S "fewer ticks are left than that"))) aG) (xE 5000 gX iX)))
def m9:FD:=bn 1 m5
def Af:Om P w K mg base "Beam" "go" 6 2 m9:=tM (tj T.m 6 rfl) ["self","many","end"] aU rfl λf _ A _ s H E nd hr=>by have:=iw T;have:=rm T;delta m5 iX gX;walk_at "R"
def gE:GS:=(aK (g2 (aV false) (d7 "Beam" "ahead" (ae 0)) (aj 1 cL (aa (d7 "Beam" "frame" (ae 0)) af))))
def iY:FD:=bn 0 gE
def rg:Om P w K mg base "Beam" "is_over" 3 1 iY:=tM (tj T.m 7 rfl) ["self"] aU rfl λf _ A _ s H E nd hr=>by have:=iw T;delta gE;walk_at "R"
def mR:GS:=(av (dE (bB [3,4,5,6,7]) (ae 0)) (av (cO (aI (g2 (aV false) (ae 1) (gC (S "move")))) (aK (aD (aa (ae 3) (aa (g2 bb (ae 2) (gC (I 0))) (aa (g2 bb (ae 2) (gC (I 1))) (aa (ae 6) (aa (ae 7) af))))))) aG) (av (cO (aI (g2 (aV false) (ae 1) (gC (S "shape")))) (aK (aD (aa (g2 bb (ae 2) (gC (I 0))) (aa (ae 4) (aa (ae 5) (aa (ae 6) (aa (ae 7) af))))))) aG) (av (cO (aI (g2 (aV false) (ae 1) (gC (S "rank")))) (aK (aD (aa (ae 3) (aa (ae 4) (aa (ae 5) (aa (g2 bb (ae 2) (gC (I 0))) (aa (ae 7) af))))))) aG) (aK (aD (aa (ae 3) (aa (ae 4) (aa (ae 5) (aa (ae 6) (aa (g2 bb (ae 2) (gC (I 0))) af)))))))))))
def bW:FD:=bn 5 mR
def qZ:Ok P w K mg base "mover_behind" 1 3 bW:=cu (cr T.f 45 rfl) ["mover","word","parts","shape","x","y","rank","turn"] aU rfl λf _ A _ s H E nd hr=>by delta mR;walk_at "R"
def my:GS:=(aK (g2 bC (g2 bC (oo (ae 0) bu (dg (ae 1))) (aD (aa (ae 2) af))) (oo (ae 0) (dg (g2 bC (ae 1) (gC (I 1)))) bu)))
def eQ:FD:=bn 0 my
def wL:Ok P w K mg base "with_part" 1 3 eQ:=cu (cr T.f 46 rfl) ["things","at","part"] aU rfl λf _ A _ s H E nd hr=>by delta my;walk_at "R"
def gK:GS:=(av (cO (eU (eJ (aj 2 aS (aa (ae 0) (aa (ae 1) af))))) (fV "NoDeed" (gC (S "that is no deed of the stand"))) aG) (av (dE (bB [2,3,4,5,6]) (ae 0)) (av (aL 7 (g2 bb (ae 1) (gC (I 0)))) (av (cO (aI (g2 (aV false) (ae 7) (gC (S "shift")))) (aK (aD (aa (ae 2) (aa (oo (ae 1) (dg (gC (I 1))) bu) (aa (ae 4) (aa (ae 5) (aa (ae 6) af))))))) aG) (av (cO (aI (g2 (aV false) (ae 7) (gC (S "pot")))) (aK (aD (aa (ae 2) (aa (ae 3) (aa (ae 4) (aa (ae 5) (aa (aj 3 eQ (aa (ae 6) (aa (g2 bb (ae 1) (gC (I 1))) (aa (g2 bb (ae 1) (gC (I 2))) af)))) af))))))) aG) (av (aL 8 (g2 bb (ae 1) (gC (I 1)))) (av (aL 9 (aj 3 bW (aa (g2 bb (ae 5) (ae 8)) (aa (ae 7) (aa (oo (ae 1) (dg (gC (I 2))) bu) af))))) (aK (aD (aa (ae 2) (aa (ae 3) (aa (ae 4) (aa (aj 3 eQ (aa (ae 5) (aa (ae 8) (aa (ae 9) af)))) (aa (ae 6) af))))))))))))))
def dH:FD:=bn 8 gK
def rq:Ok P w K mg base "stand_behind" 6 2 dH:=cu (cr T.f 47 rfl) ["stand","deed","floor","shift","book","movers","pots","word","number","mover"] aU rfl λf _ A _ s H E nd hr=>by have:=uB T;have:=qZ T;have:=wL T;delta gK;walk_at "R"
def jy:GS:=(av (cO (eJ (eO "Beam" "is_over" 1 iY (ae 0) af)) (fV "Over" (gC (S "no tick is left to do a deed ahead of"))) aG) (fX "Beam" "standing" (ae 0) (aj 2 dH (aa (d7 "Beam" "standing" (ae 0)) (aa (ae 1) af)))))
def lY:FD:=bn 0 jy
def wK:Om P w K mg base "Beam" "deed" 7 2 lY:=tM (tj T.m 8 rfl) ["self","deed"] aU rfl λf _ A _ s H E nd hr=>by have:=rg T;have:=rq T;delta jy;walk_at "R"
def jK:GS:=(aK (d7 "Beam" "ahead" (ae 0)))
def f7:FD:=bn 0 jK
def xl:Om P w K mg base "Beam" "tick" 1 1 f7:=tM (tj T.m 9 rfl) ["self"] aU rfl λf _ A _ s H E nd hr=>by delta jK;walk_at "R"
def ng:GS:=(av (bA (eO "Beam" "go" 2 m9 (ae 3) (aa (g2 eY (ae 4) (eO "Beam" "tick" 1 f7 (ae 3) af)) af))) (bA (eO "Beam" "deed" 2 lY (ae 3) (aa (ae 5) af))))
def qj:GS:=(av (bA (aj 3 cA (aa (ae 0) (aa (ae 1) (aa (ae 2) af))))) (av (aL 3 (iC "Beam" 3 bX (aa (ae 0) (aa (ae 1) af)))) (av (js (cj (ae 2)) (bB [4,5]) ng) (av (bA (eO "Beam" "go" 2 m9 (ae 3) (aa (g2 eY (aj 1 cL (aa (ae 0) af)) (eO "Beam" "tick" 1 f7 (ae 3) af)) af))) (aK (ae 3))))))
def fU:FD:=bn 3 qj
def AV:Ok P w K mg base "laid" 12 3 fU:=cu (cr T.f 48 rfl) ["frame","stand","timed","beam","tick","deed"] aU rfl λf _ A _ s H E nd hr=>by have:=jU T;have:=iw T;have:=uY T;have:=Af T;have:=wK T;have:=xl T;delta qj ng;walk_at "R"
def eD:GE:=(aQ lN (aa (ae 0) af))
def gD:GS:=(aK (bq (cj (d7 "Beam" "laid_rows" (ae 0))) cb eD aP))
def cP:FD:=bn 0 gD
def re:Om P w K mg base "Beam" "picture" 1 1 cP:=tM (tj T.m 10 rfl) ["self"] aU rfl λf _ A _ s H E nd hr=>by delta gD eD;walk_at "R"
def l9:GS:=(av (aL 8 (g2 bC (oo (ae 2) bu (dg (ae 5))) (oo (ae 2) (dg (g2 bC (ae 5) (gC (I 1)))) bu))) (av (aL 9 (eO "Beam" "picture" 1 cP (aj 3 fU (aa (ae 0) (aa (ae 1) (aa (ae 8) af)))) af)) (av (aL 10 (eO "Beam" "picture" 1 cP (aj 3 fU (aa (ae 0) (aa (ae 1) (aa (g2 bC (dM (aa (aD (aa (gC (I 0)) (aa (ae 7) af))) af)) (ae 8)) af)))) af)) (cO (dN (aI (g2 (aV true) (ae 3) (ae 9))) (aI (g2 (aV true) (ae 3) (ae 10)))) (bA (lP (ae 4) (ae 5))) aG))))
def kW:GS:=(av (aL 3 (eO "Beam" "picture" 1 cP (aj 3 fU (aa (ae 0) (aa (ae 1) (aa (ae 2) af)))) af)) (av (aL 4 (kr af)) (av (js (lU (aa (ae 2) af)) (rh [(dY 5),(bB [6,7])]) l9) (aK (ae 4)))))
def lE:FD:=λds M=>jZ M.length (bn 8 kW ds M)
def EC:Ok P w K mg base "slips" 13 3 lE:=se (F:=bn 8 kW) <| cu (cr T.f 49 rfl) ["frame","stand","timed","picture","told","at","tick","deed","others","without","at_first"] aU rfl λf _ A _ s H E nd hr=>by have:=AV T;have:=re T;delta kW l9;walk_at "R"
def gG:GS:=(av (aL 4 (gC .non)) (av (oJ 5 (List.contains ["NoDeed","NoFrame","NoStand","NoTick","Over"]) (cO (aI (g2 (aV false) (ae 0) (gC (I 0)))) (bA (iC "Beam" 3 bX (aa (ae 1) (aa (ae 2) af)))) (cO (aI (g2 (aV false) (ae 0) (gC (I 1)))) (bA (aj 3 fU (aa (ae 1) (aa (ae 2) (aa (ae 3) af))))) (bA (aj 3 lE (aa (ae 1) (aa (ae 2) (aa (ae 3) af))))))) (aL 4 (ae 5))) (av (cO (aI (g2 (kI false) (ae 4) (gC .non))) (aK (aD (aa (gC (S "told")) af))) aG) (aK (aj 1 im (aa (ae 4) af))))))
def cB:FD:=λds M=>jZ M.length (bn 2 gG ds M)
def uT:Ok P w K mg base "_law_tried" 14 4 cB:=se (F:=bn 2 gG) <| cu (cr T.f 50 rfl) ["way","frame","stand","timed","error","e"] aU rfl λf _ A _ s H E nd hr=>by have:=xD T;have:=jU T;have:=AV T;have:=EC T;delta gG;walk_at "R"
def zW:GE:=(g2 (aV false) (aj 2 ar (aa (ae 2) (aa (gC (I 4)) af))) (gC (I 0)))
def xH:GE:=(g2 bb (ae 0) (gC (I 0)))
def tR:GS:=(cO (eJ (g2 bb (ae 7) (g2 eY (gC (I 3)) (ae 13)))) (aL 12 (g2 bb (dM (aa (aD (aa (gC (S "deed")) af)) (aa (aD (aa (gC (S "tick")) af)) (aa (aD (aa (gC (S "stand")) af)) (aa (aD (aa (gC (S "frame")) af)) af))))) (ae 13))) aG)
def uE:GS:=(av (aL 15 (ae 12)) (av (cO (dN (aI (g2 (aV false) (ae 14) (gC (I 0)))) (aI (g2 (Hm false) (ae 12) (dM (aa (aD (aa (gC (S "tick")) af)) (aa (aD (aa (gC (S "deed")) af)) af)))))) (aL 15 (aD (aa (gC (S "told")) af))) aG) (cO (iS (aI (g2 (aV true) (aj 4 cB (aa (ae 14) (aa (ae 3) (aa (ae 4) (aa (ae 11) af))))) (ae 15))) (aI (g2 (aV true) (ae 11) (ae 5)))) (aK (gC (G false))) aG)))
def rY:GS:=(av (aL 3 (aj 2 iQ (aa (ae 1) (aa (gC (I 5)) af)))) (av (aL 4 (aj 3 kA (aa (ae 1) (aa (ae 3) (aa (gC (I 3)) af))))) (av (aL 5 (aj 4 kJ (aa (ae 1) (aa (ae 3) (aa (ae 4) (aa (gC (I 4)) af)))))) (av (aL 6 (g2 gf (g2 bb (ae 3) (gC (I 1))) (g2 bC (g2 bb (ae 3) (gC (I 0))) (g2 bb (ae 3) (gC (I 2)))))) (av (aL 7 (bq (dQ (aa (gC (I 4)) af)) cb zW aP)) (av (aL 8 (aj 2 ar (aa (ae 1) (aa (g2 bC (aQ bE (aa (ae 5) af)) (gC (I 1))) af)))) (av (aL 9 (g2 bb (g2 bC (dM (aa (gC (I 0)) af)) (bq (cj (ae 5)) cb xH aP)) (ae 8))) (av (cO (eJ (g2 bb (ae 7) (gC (I 3)))) (bA (A8 uu (ae 5) (aa (ae 8) (aa (aD (aa (ae 9) (aa (g2 bb (dM (aa (aD (aa (gC (S "halt")) af)) (aa (aD (aa (gC (S "pot")) (aa (gC (I 0)) (aa (gC (I 64)) af)))) (aa (dM (aa (gC (S "pot")) (aa (gC (I 0)) (aa (gC (I 0)) af)))) (aa (gC .non) af))))) (aj 2 ar (aa (ae 1) (aa (gC (I 4)) af)))) af))) af)))) aG) (av (cO (eJ (g2 bb (ae 7) (gC (I 2)))) (av (aL 8 (aj 2 ar (aa (ae 1) (aa (g2 bC (aQ bE (aa (ae 5) af)) (gC (I 1))) af)))) (av (aL 10 (g2 bb (dM (aa (lO (gC (I 1))) (aa (ae 6) (aa (g2 bC (ae 6) (aj 2 ar (aa (ae 1) (aa (g2 oB (gC (I 10)) (gC (I 40))) af)))) (aa (g2 eY (lO (gC (I 1))) (aj 2 ar (aa (ae 1) (aa (g2 oB (gC (I 10)) (gC (I 40))) af)))) af))))) (aj 2 ar (aa (ae 1) (aa (gC (I 4)) af))))) (av (bA (A8 uu (ae 5) (aa (ae 8) (aa (aD (aa (ae 10) (aa (aD (aa (gC (S "pot")) (aa (gC (I 0)) (aa (gC (I 0)) af)))) af))) af)))) (cO (dN (aI (g2 (aV false) (aj 2 ar (aa (ae 1) (aa (gC (I 2)) af))) (gC (I 0)))) (aI (g2 xI (ae 6) (gC (I 1))))) (uM (ae 5) (ae 8) (g2 bC (ae 8) (gC (I 1))) (dM (aa (aD (aa (g2 eY (ae 6) (gC (I 1))) (aa (aD (aa (gC (S "pot")) (aa (gC (I 0)) (aa (gC (I 0)) af)))) af))) (aa (aD (aa (g2 eY (ae 6) (gC (I 2))) (aa (aD (aa (gC (S "pot")) (aa (gC (I 0)) (aa (gC (I 0)) af)))) af))) af)))) aG)))) aG) (av (cO (eJ (g2 bb (ae 7) (gC (I 1)))) (aL 4 (aj 3 (cQ 20) (aa (ae 4) (aa (dM (aa (aj 2 ar (aa (ae 1) (aa (gC (I 5)) af))) af)) (aa (gC .non) af))))) aG) (av (cO (eJ (g2 bb (ae 7) (gC (I 0)))) (aL 3 (aj 3 (cQ 20) (aa (ae 3) (aa (dM (aa (aj 2 ar (aa (ae 1) (aa (gC (I 4)) af))) af)) (aa (lO (gC (I 1))) af))))) aG) (av (aL 11 (aQ lN (aa (ae 5) af))) (av (aL 12 (aD (aa (gC (S "told")) af))) (av (js (dQ (aa (gC (I 4)) af)) (dY 13) tR) (js (dQ (aa (gC (I 3)) af)) (dY 14) uE)))))))))))))))
def A4:GS:=(av (aL 1 (kr (aa (aQ lN (aa (ae 0) af)) (aa (gC (I 0)) (aa (gC (I 0)) af))))) (av (js (dQ (aa (gC (I 4)) af)) (dY 2) rY) (aK (gC (G true)))))
def Bn:FD:=bn 15 A4
def Ll{f:Addr}{fd:FuncData} (F:Fn K mg "law" JQ f fd ["script"]):eB P w K mg base (iz P w) 22 f fd ["script"] (og K 1 Bn):=LC F.F (N:=["script","tape","turn","frame","stand","timed","total","bad","at","tick","far","handed","word","k","way","due"]) aU rfl λ_ A _ s H E hr=>by
 have nd:(["script","tape","turn","frame","stand","timed","total","bad","at","tick","far","handed","word","k","way","due"]:List Str).Nodup:=by decide +kernel
 have:=cg T;have:=uV T;have:=uS T;have:=uJ T;have:=qY T 20;have:=uT T;have:=rn 387 14 ["k"] ["script","tape","turn","frame","stand","timed","total","bad","at","tick","far","handed","word","k.","way","due"];delta A4 zW xH tR uE rY;walk_at "R"
end
end K12
section
open PySem PySem.W PyProof.Rows
noncomputable abbrev K12.VV:Program:=(view PySem.Challenge.pw_glowrow_k12_refused_in_order [0,2,3,4,5,6,7,8,9,10,11,12,14,15,17,18,19,20,22,23,24,25,26,27,29,30,31,32,33,34,35,36,38,39,40,41,42,43,44,45,46,47,48,49,50,51,53,54,56,57,58,59,61,62,63,64,65,66,67,68,69,70,71,72,73,74])
set_option maxHeartbeats 0 in
def K12.h1:∀(w:World) (os:OsState),(Hd.RT (OpenLaw.row PySem.Challenge.rw_glowrow_k12_refused_in_order).prog w 9610 os).map (λs=>Hd.pA (OpenLaw.row PySem.Challenge.rw_glowrow_k12_refused_in_order).prog w.params s.abs&&Hd.pB K12.VV (importedModules (OpenLaw.row PySem.Challenge.rw_glowrow_k12_refused_in_order).prog.main.body) (λs=>xlAt K12.VV [] s&&recOk (RowW.records (OpenRow.toRowW (OpenLaw.row PySem.Challenge.rw_glowrow_k12_refused_in_order))) s) s.abs)=Z true:=by
 intro w os;unfold Hd.RT;rw[W.Fast.te15732481512506401174,W.Fast.te2530740449226627131,W.Fast.te13930993214811372802];kernel_rfl
set_option maxHeartbeats 0 in
def K12.h2:∀(w:World) (os:OsState),(Hd.RT (OpenLaw.row PySem.Challenge.rw_glowrow_k12_refused_in_order).prog w 9610 os).map (λs=>Hd.pC K12.VV s.abs)=Z (expectedOf K12.VV,bltViewBooted,wideGood K12.VV):=by
 intro w os;unfold Hd.RT;rw[W.Fast.te15732481512506401174,W.Fast.te2530740449226627131,W.Fast.te7338995916957470747];kernel_rfl
set_option maxHeartbeats 0 in
def K12.h3:∀(w:World) (os:OsState),(Hd.RT (OpenLaw.row PySem.Challenge.rw_glowrow_k12_refused_in_order).prog w 9610 os).map (λs=>Hd.pD K12.VV s.abs)=Z (pinGoodD (drecsOf K12.VV),plainGoodE K12.VV (looseW K12.VV []),plainGoodD K12.VV [],clsGoodW K12.VV []):=by
 intro w os;unfold Hd.RT;rw[W.Fast.te15732481512506401174,W.Fast.te2530740449226627131,W.Fast.te4913325751328045840];kernel_rfl
local macro_rules | `(tactic| o_head $H) => `(tactic| (
 refine holds_open (q:=K12.VV) (loose:=[]) (Xt:=(λs=>xlAt K12.VV [] s&&recOk (RowW.records (OpenRow.toRowW (OpenLaw.row PySem.Challenge.rw_glowrow_k12_refused_in_order))) s)) (XP:=XL K12.VV []) (Yf:=Hook.obs $H) (Ya:=Hook.val $H) (YP:=Hook.says $H) (N:=9610) ?hl (Hook.of $H) (Hook.keeps $H) (λs e=>xl_of s (Bool.and_eq_true_iff.mp e).1) XL.keeps (by rfl) (by rfl) (by rfl) (λs e=>recFacts_of (Bool.and_eq_true_iff.mp e).2) (by rfl) (by first|assumption|decide +kernel) (by decide +kernel) ⟨rfl,rfl,rfl,rfl,rfl,by decide +kernel⟩ ?hw ?hc;
 (case hl=>
  refine Hd.left_km (boot_open (by kernel_rfl) rfl (λs=>by kernel_rfl)) (λw=>by kernel_rfl) K12.h1 K12.h2 K12.h3 ?_;intro w os;unfold Hd.RT;rw[W.Fast.te15732481512506401174,W.Fast.te2530740449226627131];kernel_rfl)))
set_option hygiene false
local macro_rules | `(tactic| walk_at "us") => `(tactic| first | rfl | (exfalso; simp at hl; done) | (cases us with | nil => (first | rfl | cases hl) | cons _ us => walk_at "us"))
local macro_rules | `(tactic| walk_at "kc") => `(tactic| refine' DL.PZ KX G ?y0 ?y1 ?y2 ?y3 ?y4 ?y5 ?y6; (case y0 => k_is); (case y1 => k_is); (case y2 => k_is); (case y3 => k_is); (case y4 => k_is); (case y5 => k_is); (case y6 => k_is))
local macro_rules | `(tactic| walk_at "ec") => `(tactic| refine' DL.OA KX G ?w0 ?w1 ?w2 ?w3 ?w4 ?w5 ?w6 ?w7 ?w8 ?w9 ?w10 ?w11; (case w0 => k_is); (case w1 => k_is); (case w2 => k_is); (case w3 => k_is); (case w4 => k_is); (case w5 => k_is); (case w6 => k_is); (case w7 => k_is); (case w8 => k_is); (case w9 => k_exc); (case w10 => k_is); (case w11 => k_is))
local macro_rules | `(tactic| walk_at "ff") => `(tactic| (refine' DL.OZ KX G ?x0 ?x1 ?x2 ?x3 ?x4; (case x0 => k_is); (case x1 => k_is); (case x2 => k_is); (case x3 => k_is); (case x4 => (intro _ _ _ _ _ _ us hl; walk_at "us"))))
local macro_rules | `(tactic| walk_at "mf") => `(tactic| (refine' DL.Qn ?x0 ?x1 ?x2 ?x3 ?x4 ?x5 ?x6; (case x0 => walk_at "kc"); (case x1 => k_is); (case x2 => k_is); (case x3 => k_is); (case x4 => k_is); (case x5 => k_is); (case x6 => (intro _ _ _ _ _ _ us hl; walk_at "us"))))
local macro_rules | `(tactic| walk_at "im") => `(tactic| (refine' DL.Pa ?v0 ?v1; (case v0 => walk_at "ec"); (case v1 => k_is)))
local macro_rules | `(tactic| walk_at "lf") => `(tactic| (refine' DL.OW KX G ?x0 ?x1 ?x2 ?x3 ?x4 ?x5 ?x6 ?x7 ?x8 ?x9 ?x10 ?x11 ?x12 ?x13 ?x14; (case x0 => k_is); (case x1 => k_is); (case x2 => k_is); (case x3 => k_is); (case x4 => k_is); (case x5 => rfl); (case x6 => rfl); (case x7 => rfl); (case x8 => rfl); (case x9 => rfl); (case x10 => rfl); (case x11 => decide); (case x12 => decide); (case x13 => (refine DL.xX (fun z => absurd rfl z) (fun _ => ?y_table_within) (fun _ => ?y_slots_given) (fun _ => ?y_cast_on_slots); (case y_table_within => k_is); (case y_slots_given => k_is); (case y_cast_on_slots => k_is))); (case x14 => (intro _ _ _ _ _ _ us hl; walk_at "us"))))
set_option maxRecDepth 100000 in
set_option maxHeartbeats 0 in
def K12.pre (ht:∀ns:List Int,ns.length<=63->∃M',K12.Bn [.ro (ns.map DL.D.int)] []=.ok (.bl true) M'):PySem.Challenge.rw_glowrow_k12_refused_in_order.Holds:=by
 w_on;o_law;k_head;(case hw=>w_witness2)
 k_fill
 refine DL.Hz (l:=PySem.Challenge.rw_glowrow_k12_refused_in_order) (n:=63) (k:=22) (x:="script") (F:=K12.Bn) rfl (by decide) rfl ⟨rfl,by decide,by decide⟩ (λw h Y=>W.km_in_of Y) ?F ?T ht
 case F=>
  intro w mg fa h KX G hmg;refine DL.MH (st:=K12.JQ) hmg ?L (λbase f fd L=>K12.Ll ?TT L) (λ_ _ _ _ _ _ _=>rfl)
  (case TT=>
   refine DL.Tx.mk ?q0 ?q1 ?q2 ?q3 ?q4 ?q5 ?q6 ?q7 ?q8 ?q9
   (case q0=>((repeat (refine' DL.Ls.cons ?x ?_;(case x=>(walk_at "ff"))));exact DL.Ls.nil))
   (case q1=>((repeat (refine' DL.Ls.cons ?x ?_;(case x=>(walk_at "mf"))));exact DL.Ls.nil))
   (case q2=>((repeat (refine' DL.Ls.cons ?x ?_;(case x=>(walk_at "lf"))));exact DL.Ls.nil))
   (case q3=>((repeat (refine' DL.Ls.cons ?x ?_;(case x=>(refine' DL.Sj KX G ?x0;(case x0=>k_is)))));exact DL.Ls.nil))
   (case q4=>((repeat (refine' DL.Ls.cons ?x ?_;(case x=>(refine' DL.PL ?x0;(case x0=>walk_at "ec")))));exact DL.Ls.nil))
   (case q5=>((repeat (refine' DL.Ls.cons ?x ?_;(case x=>(refine' DL.Ol ?u0 ?u1;(case u0=>walk_at "ec");(case u1=>((repeat (refine' DL.Ls.cons ?u2 ?_;(case u2=>walk_at "im")));exact DL.Ls.nil))))));exact DL.Ls.nil))
   (case q6=>((repeat (refine' DL.Ls.cons ?x ?_;(case x=>(walk_at "im"))));exact DL.Ls.nil))
   (case q7=>((repeat (refine' DL.Ls.cons ?x ?_;(case x=>(refine' DL.PY ?x0 ?x1;(case x0=>walk_at "kc");(case x1=>k_is)))));exact DL.Ls.nil))
   (case q8=>((repeat (refine' DL.Ls.cons ?x ?_;(case x=>(refine' DL.Ph (u:=PySem.Value.str _) KX G ?x0;(case x0=>k_is)))));exact DL.Ls.nil))
   (case q9=>((repeat (refine' DL.Ls.cons ?x ?_;(case x=>(refine' DL.Ph (u:=PySem.Value.int _) KX G ?x0;(case x0=>k_is)))));exact DL.Ls.nil)))
  (case L=>walk_at "ff")
 case T=>
  intro w;refine' DL.Ii (DL.CG (x:="ink_shown") ?yK (DL.KG ?wN ?xr ?xi ?wG ?xc) ?y7 DL.Fx) (DL.xX (.inr ⟨_,.head _,rfl⟩) (.inl ?e_table_within) (.inl ?e_slots_given) (.inl ?e_cast_on_slots)) ?bm ?bl
  (case yK=>rfl)
  (case wN=>k_is)
  (case xr=>k_is)
  (case xi=>rfl)
  (case wG=>k_is)
  (case xc=>rfl)
  (case y7=>kernel_rfl)
  (case e_table_within=>k_is)
  (case e_slots_given=>k_is)
  (case e_cast_on_slots=>k_is)
  (case bm=>k_is)
  (case bl=>kernel_rfl)
end
namespace K12
open PySem PySem.Spec PyProof.Rows L2 DL List
open D renaming int → I,tup → U,mr → R,str → S,bl → G
open aX renaming ok → O
local macro_rules | `(tactic| simp_arith [$args,*] $[$loc]?) => `(tactic| first | (dsimp only [aX.bind, av, aL, cO, aK, nk, bA, aG, dE, ae, gC, DL.g2, aj, aQ, aa, af, aI, Qh, eJ, IL, iS, dN, eU, fg, Kf, yE, sF, aD, dM, kr, sD, aP, dS, lO, AM, qJ, jL, Od, yB, aC, bn, mI, Dj, bC, eY, gf, iE, gV, oB, qK, oj, xI, ze, bb, bN, bE, zA, zk, lN, eX, kL, cj, v7, dQ, dY, bB, pe, dg, bu, oo, ur, tu, gL, kI, Oe, cb, fV, jf, vY, AJ, Ap, zr, nE, jV, kY, kO, lK, uN, lP, wO, oJ, CV, GX, qt, jo, d7, wJ, fX, eO, iC, fL, rh, oq, lU, EZ, AF, uM, iZ, mw, ow, pV, zf, F0, A8, zt] $[$loc]?; simp [av, aL, cO, aK, nk, bA, aG, dE, ae, gC, DL.g2, aj, aQ, aa, af, aI, Qh, eJ, IL, iS, dN, eU, fg, Kf, yE, sF, aD, dM, kr, sD, aP, dS, lO, AM, qJ, jL, Od, yB, aC, bn, mI, Dj, bC, eY, gf, iE, gV, oB, qK, oj, xI, ze, bb, bN, bE, zA, zk, lN, eX, kL, cj, v7, dQ, dY, bB, pe, dg, bu, oo, ur, tu, gL, kI, Oe, cb, fV, jf, vY, AJ, Ap, zr, nE, jV, kY, kO, lK, uN, lP, wO, oJ, CV, GX, qt, jo, d7, wJ, fX, eO, iC, fL, rh, oq, lU, EZ, AF, uM, iZ, mw, ow, pV, zf, F0, A8, zt, $args,*] $[$loc]?) | simp [av, aL, cO, aK, nk, bA, aG, dE, ae, gC, DL.g2, aj, aQ, aa, af, aI, Qh, eJ, IL, iS, dN, eU, fg, Kf, yE, sF, aD, dM, kr, sD, aP, dS, lO, AM, qJ, jL, Od, yB, aC, bn, mI, Dj, bC, eY, gf, iE, gV, oB, qK, oj, xI, ze, bb, bN, bE, zA, zk, lN, eX, kL, cj, v7, dQ, dY, bB, pe, dg, bu, oo, ur, tu, gL, kI, Oe, cb, fV, jf, vY, AJ, Ap, zr, nE, jV, kY, kO, lK, uN, lP, wO, oJ, CV, GX, qt, jo, d7, wJ, fX, eO, iC, fL, rh, oq, lU, EZ, AF, uM, iZ, mw, ow, pV, zf, F0, A8, zt, $args,*] $[$loc]?)
def tp (l:List Int)(i c:Int):MO:=.lst [.lst (l.map I),I i,I c]
def bU (l:List Int)(rest:az)(M:az):Prop:=∃i c,0<=i/\M=tp l i c::rest
variable{l:List Int}{k:Int}
def DO (h0:0<=k)(h1:k<l.length):∃v,pN (l.map I) k=Z (I v):=by
 obtain⟨n,rfl⟩:=Int.eq_ofNat_of_zero_le h0;have hn:n<l.length:=by omega
 exact⟨l[n],rR (by simp[hn])⟩
def RC:GS:=av (aL 4 (g2 gV (g2 bb (ae 0) (gC (I 2))) (ae 1))) (av (nk (ae 0) (gC (I 2)) (g2 iE (g2 bb (ae 0) (gC (I 2))) (ae 1))) (aK (ae 4)))
def Q9:GS:=av (aL 3 (g2 gV (g2 bC (ae 3) (g2 gf (gC (I 1000003)) (g2 bb (ae 0) (gC (I 1))))) (ae 2))) (av (aL 3 (g2 gV (g2 bC (g2 bC (g2 gf (ae 3) (ae 3)) (g2 gf (gC (I 1181783497276652981)) (ae 3))) (gC (I 2049848353892358983))) (ae 2))) (aL 3 (g2 gV (g2 bC (g2 gf (ae 3) (ae 3)) (gC (I 1442695040888963407))) (ae 2))))
def Rt:GS:=cO (aI (g2 xI (aQ bE (aa (g2 bb (ae 0) (gC (I 0))) af)) (gC (I 0)))) (aL 3 (g2 bb (g2 bb (ae 0) (gC (I 0))) (g2 gV (g2 bb (ae 0) (gC (I 1))) (aQ bE (aa (g2 bb (ae 0) (gC (I 0))) af))))) aG
def SH:GT:=iS (aI (g2 ze (g2 bb (ae 0) (gC (I 1))) (aQ bE (aa (g2 bb (ae 0) (gC (I 0))) af)))) (aI (g2 qK (ae 3) (g2 oB (gC (I 10)) (gC (I 18)))))
def RA:GS:=av (aL 3 (gC (I 0))) (av Rt (av (cO SH Q9 aG) (av (nk (ae 0) (gC (I 1)) (g2 bC (g2 bb (ae 0) (gC (I 1))) (gC (I 1)))) (nk (ae 0) (gC (I 2)) (ae 3)))))
theorem Qd (ρ:bK)(M:az):ju ρ M=av (aL 2 (gC (I 2305843009213693951))) (av (cO (aI (g2 qK (g2 bb (ae 0) (gC (I 2))) (ae 1))) RA aG) RC) ρ M:=rfl
def o6 {i j:Int}(h:0<j)(M:az):gV (I i) (I j) M=O (I (i % j)) M:=by
 unfold gV;dsimp only;rw[if_pos h]
def rG {i j:Int}(h:-18446744073709551616<i/\i<18446744073709551616)(M:az):gf (I i) (I j) M=O (I (i*j)) M:=by
 unfold gf;dsimp only;rw[if_pos (.inl ⟨Int.lt_of_le_of_lt (by decide) h.1,Int.lt_of_lt_of_le h.2 (by decide)⟩)]
variable{go:GE}{ρ:bK}{M M1:az}
def xB {gi g:GE}{x:D}(h:g ρ M=O x M)(h2:(go ρ M).bind (λo M2=>(gi ρ M2).bind λi M3=>(Dj o i x M3).bind λ_ M4=>O (Fl.nx ρ) M4)=O (Fl.nx ρ) M1):nk go gi g ρ M=O (.nx ρ) M1:=by
 unfold nk;rw[h,ah,h2]
variable{rest:az}
def aY {many:Int}(hm:0<many)(hlog:many.natAbs.log2<9000)(h:bU l rest M) :
  ∃f M',0<=f/\f<many/\bU l rest M'/\ar [R 0,I many] M=O (I f) M':=by
 obtain⟨i,c,hi,rfl⟩:=h;have i0:∀(i c:Int) (x1 x2 x3 x4:Option D),g2 bb (ae 0) (gC (I 0)) [Z (R 0),x1,x2,x3,x4] (tp l i c::rest)=O (.lst (l.map I)) (tp l i c::rest):=λ_ _ _ _ _ _=>rfl
 have i1:∀(i c:Int) (x1 x2 x3 x4:Option D),g2 bb (ae 0) (gC (I 1)) [Z (R 0),x1,x2,x3,x4] (tp l i c::rest)=O (I i) (tp l i c::rest):=λ_ _ _ _ _ _=>rfl
 have i2:∀(i c:Int) (x1 x2 x3 x4:Option D),g2 bb (ae 0) (gC (I 2)) [Z (R 0),x1,x2,x3,x4] (tp l i c::rest)=O (I c) (tp l i c::rest):=λ_ _ _ _ _ _=>rfl
 have ln:∀(i c:Int) (x1 x2 x3 x4:Option D),aQ bE (aa (g2 bb (ae 0) (gC (I 0))) af) [Z (R 0),x1,x2,x3,x4] (tp l i c::rest)=O (I (l.length:Int)) (tp l i c::rest):=λi c x1 x2 x3 x4=>by
  refine jQ (i0 i c x1 x2 x3 x4) ?_;show aX.ok (I ((l.map I).length:Int)) _=_;rw[length_map]
 have tail:∀(c i:Int) (x2 x3 x4:Option D),0<=i->∃f M',0<=f/\f<many/\bU l rest M'/\aC (RC [Z (R 0),Z (I many),x2,x3,x4] (tp l i c::rest))=O (I f) M':=λc i x2 x3 x4 hi=>by
  refine⟨c % many,tp l i (c / many)::rest,Int.emod_nonneg _ (by omega),Int.emod_lt_of_pos _ hm,⟨i,c / many,hi,rfl⟩,?_⟩;unfold RC;rw[ao (aH (aw (i2 i c (Z (I many)) x2 x3 x4) rfl (o6 hm _)))];have fd:iE (I c) (I many) (tp l i c::rest)=O (I (c / many)) (tp l i c::rest):=by
   unfold iE;dsimp only;rw[if_pos ⟨hm,hlog⟩]
  have k:nk (ae 0) (gC (I 2)) (g2 iE (g2 bb (ae 0) (gC (I 2))) (ae 1)) [Z (R 0),Z (I many),x2,x3,Z (I (c % many))] (tp l i c::rest)=O (.nx [Z (R 0),Z (I many),x2,x3,Z (I (c % many))]) (tp l i (c / many)::rest):=
   xB (aw (i2 i c (Z (I many)) x2 x3 _) rfl fd) rfl
  exact(congrArg aC (ao k)).trans rfl
 show∃f M',_/\_/\_/\aC (ju [Z (R 0),Z (I many),Y,Y,Y] (tp l i c::rest))=_;rw[Qd];have e0:∀b:GS,av (aL 2 (gC (I 2305843009213693951))) b [Z (R 0),Z (I many),Y,Y,Y] (tp l i c::rest)=b [Z (R 0),Z (I many),Z (I 2305843009213693951),Y,Y] (tp l i c::rest):=λb=>ao rfl
 rw[e0];have tst:aI (g2 qK (g2 bb (ae 0) (gC (I 2))) (ae 1)) [Z (R 0),Z (I many),Z (I 2305843009213693951),Y,Y] (tp l i c::rest)=O (decide (c<many)) (tp l i c::rest):=aZ (aw (i2 i c _ _ _ _) rfl rfl)
 by_cases h1:c<many
 ·rw[decide_eq_true h1] at tst;obtain⟨v,ev⟩:∃v:Int,Rt [Z (R 0),Z (I many),Z (I 2305843009213693951),Z (I 0),Y] (tp l i c::rest)=O (.nx [Z (R 0),Z (I many),Z (I 2305843009213693951),Z (I v),Y]) (tp l i c::rest):=by
   unfold Rt;have t0:aI (g2 xI (aQ bE (aa (g2 bb (ae 0) (gC (I 0))) af)) (gC (I 0))) [Z (R 0),Z (I many),Z (I 2305843009213693951),Z (I 0),Y] (tp l i c::rest)=O (decide ((l.length:Int)>0)) (tp l i c::rest):=aZ (aw (ln i c _ _ _ _) rfl rfl)
   by_cases hl:(l.length:Int)>0
   ·rw[decide_eq_true hl] at t0;obtain⟨v,hv⟩:=DO (l:=l) (Int.emod_nonneg _ (by omega)) (Int.emod_lt_of_pos _ hl);refine⟨v,(bH t0).trans (aH (aw (f:=bb) (i0 i c _ _ _ _) (aw (i1 i c _ _ _ _) (ln i c _ _ _ _) (o6 hl _)) ?_))⟩;show(match pN (l.map I) (i % (l.length:Int)) with|some d=>aX.ok d (tp l i c::rest)|none=>.bad)=_;rw[hv]
   ·rw[decide_eq_false hl] at t0;exact⟨0,(bp t0).trans rfl⟩
  have bd:∀x:Int,-18446744073709551616<x % 2305843009213693951/\x % 2305843009213693951<18446744073709551616:=λx=>by
   have h0:=Int.emod_nonneg x (show(2305843009213693951:Int)≠0 by decide);have h1:=Int.emod_lt_of_pos x (show(0:Int)<2305843009213693951 by decide);omega
  have md:∀x:Int,∀M,gV (I x) (I 2305843009213693951) M=O (I (x % 2305843009213693951)) M:=λx M=>o6 (by decide) M
  obtain⟨u,eu⟩:∃u:Int,cO SH Q9 aG [Z (R 0),Z (I many),Z (I 2305843009213693951),Z (I v),Y] (tp l i c::rest)=O (.nx [Z (R 0),Z (I many),Z (I 2305843009213693951),Z (I u),Y]) (tp l i c::rest):=by
   have po:∀ρ,g2 oB (gC (I 10)) (gC (I 18)) ρ (tp l i c::rest)=O (I (10 ^ 18)) (tp l i c::rest):=λρ=>by
    refine aw rfl rfl ?_;unfold oB;dsimp only;rw[if_pos (by decide)];rfl
   have to:=gk (aZ (aw (f:=ze) (i1 i c (Z (I many)) (Z (I 2305843009213693951)) (Z (I v)) Y) (ln i c _ _ _ _) rfl)) λ_=>aZ (aw (f:=qK) (a:=ae 3) rfl (po _) rfl)
   generalize (decide (i≥(l.length:Int))||decide (v<10 ^ 18))=b at to;cases b with
   | false=>exact⟨v,(bp to).trans rfl⟩
   | true=>
    suffices hs:∃u:Int,Q9 [Z (R 0),Z (I many),Z (I 2305843009213693951),Z (I v),Y] (tp l i c::rest)=O (.nx [Z (R 0),Z (I many),Z (I 2305843009213693951),Z (I u),Y]) (tp l i c::rest) from hs.elim λu e=>⟨u,(bH to).trans e⟩
    unfold Q9;rw[ao (aH (aw (aw (f:=bC) (a:=ae 3) rfl (aw (f:=gf) (a:=gC (I 1000003)) rfl (i1 i c _ _ _ _) (rG (by decide) _)) rfl) rfl (md _ _)))];generalize hz:(v+1000003*i) % 2305843009213693951=z;have bz:=hz▸bd (v+1000003*i);have k2:aL 3 (g2 gV (g2 bC (g2 bC (g2 gf (ae 3) (ae 3)) (g2 gf (gC (I 1181783497276652981)) (ae 3))) (gC (I 2049848353892358983))) (ae 2)) [Z (R 0),Z (I many),Z (I 2305843009213693951),Z (I z),Y] (tp l i c::rest)=O (.nx [Z (R 0),Z (I many),Z (I 2305843009213693951),Z (I ((z*z+1181783497276652981*z+2049848353892358983) % 2305843009213693951)),Y]) (tp l i c::rest):=
     aH (aw (aw (f:=bC) (aw (f:=bC) (aw (f:=gf) (a:=ae 3) rfl rfl (rG bz _)) (aw (f:=gf) (a:=gC (I 1181783497276652981)) rfl rfl (rG (by decide) _)) rfl) rfl rfl) rfl (md _ _))
    refine Exists.imp (λu e=>(ao k2).trans e) ?_;generalize hy:(z*z+1181783497276652981*z+2049848353892358983) % 2305843009213693951=y;have byy:=hy▸bd (z*z+1181783497276652981*z+2049848353892358983);exact⟨_,aH (aw (aw (f:=bC) (aw (f:=gf) (a:=ae 3) rfl rfl (rG byy _)) rfl rfl) rfl (md _ _))⟩
  have kb:RA [Z (R 0),Z (I many),Z (I 2305843009213693951),Y,Y] (tp l i c::rest)=O (.nx [Z (R 0),Z (I many),Z (I 2305843009213693951),Z (I u),Y]) (tp l (i+1) u::rest):=by
   unfold RA;have e3:∀b:GS,av (aL 3 (gC (I 0))) b [Z (R 0),Z (I many),Z (I 2305843009213693951),Y,Y] (tp l i c::rest)=b [Z (R 0),Z (I many),Z (I 2305843009213693951),Z (I 0),Y] (tp l i c::rest):=λb=>ao rfl
   rw[e3,ao ev,ao eu];have k1:nk (ae 0) (gC (I 1)) (g2 bC (g2 bb (ae 0) (gC (I 1))) (gC (I 1))) [Z (R 0),Z (I many),Z (I 2305843009213693951),Z (I u),Y] (tp l i c::rest)=O (.nx [Z (R 0),Z (I many),Z (I 2305843009213693951),Z (I u),Y]) (tp l (i+1) c::rest):=
    xB (aw (i1 i c _ _ _ _) rfl rfl) rfl
   rw[ao k1];exact xB rfl rfl
  rw[ao ((bH tst).trans kb)];exact tail u (i+1) _ _ _ (by omega)
 ·rw[decide_eq_false h1] at tst;rw[ao ((bp tst).trans rfl)];exact tail c i _ _ _ hi
variable{x:Int}
def aJ (h0:0<x)(h1:x<=1000000):x.natAbs.log2<9000:=by
 have h2:x.natAbs<2 ^ 20:=by omega
 have h3:x.natAbs≠0:=by omega
 have:=(Nat.log2_lt h3).mpr h2;omega
variable{most:Int}
def rQ (hm:1<=most)(hm2:most<=1000)(h:bU l rest M) :
  ∃f M',1<=f/\f<=most/\bU l rest M'/\eV [R 0,I most] M=O (I f) M':=by
 have lg:∀x:Int,0<x->x<=1000->x.natAbs.log2<9000:=λx h0 h1=>by
  have h2:x.natAbs<2 ^ 10:=by omega
  have h3:x.natAbs≠0:=by omega
  have:=(Nat.log2_lt h3).mpr h2;omega
 have hmin:0<(if 6<most then 6 else most)/\(if 6<most then 6 else most)<=most/\(if 6<most then(6:Int) else most)<=1000:=by split <;> omega
 obtain⟨f1,M1,a1,b1,t1,e1⟩:=aY hmin.1 (lg _ hmin.1 hmin.2.2) h;obtain⟨f2,M2,a2,b2,t2,e2⟩:=aY (many:=most) (by omega) (lg _ (by omega) hm2) t1;obtain⟨f3,M3,a3,b3,t3,e3⟩:=aY (many:=8) (by decide) (lg _ (by decide) (by decide)) t2;have l3:(3:Nat)<=sizeLine:=a7 (by decide);have hix:0<=f3*3 / 10/\f3*3 / 10<3:=by omega
 have c3:Nat.log2 10<9000:=by decide
 have c4:-18446744073709551616<f3/\f3<18446744073709551616:=by omega
 have pick:∃f,1<=f/\f<=most/\∃y,f=1+y/\pN [I f1,I f2,I (most-1)] (f3*3 / 10)=Z (I y):=by
  have:f3*3 / 10=0\/f3*3 / 10=1\/f3*3 / 10=2:=by omega
  rcases this with q|q|q <;> rw[q]
  ·exact⟨1+f1,by omega,by omega,f1,rfl,rfl⟩
  ·exact⟨1+f2,by omega,by omega,f2,rfl,rfl⟩
  ·exact⟨1+(most-1),by omega,by omega,most-1,rfl,rfl⟩
 obtain⟨f,hf1,hf2,y,ey,ha⟩:=pick;refine⟨f,M3,hf1,hf2,t3,?_⟩;unfold eV mO;simp_arith [e1,e2,e3,l3,c3,c4,ha,ey]
def Hw {wide thin:Int}(hw:0<=wide)(hw2:wide<=1000)(ht:1<=thin)(ht2:thin<=1000)(h:bU l rest M) :
  ∃(ks:List Int) (M':az),(ks.length:Int)=wide/\(∀k∈ks,0<=k/\k<=15)/\bU l rest M'/\jI [R 0,I wide,I thin] M=O (U (ks.map I)) M':=by
 obtain⟨es,M',t',le,qe,ee⟩:=il (ds0:=bj 0 wide.toNat) (ge:=gH) (ρ:=[Z (R 0),Z (I wide),Z (I thin)])
  (P:=bU l rest) (Q:=λe=>∃k,e=I k/\0<=k/\k<=15) (bj 0 wide.toNat) (λd hd M hM=>by
   obtain⟨f1,M1,a1,b1,t1,e1⟩:=aY (many:=16) (by decide) (aJ (by decide) (by decide)) hM;obtain⟨f2,M2,a2,b2,t2,e2⟩:=aY (many:=thin) (by omega) (aJ (by omega) (by omega)) t1;have c4:-18446744073709551616<f1/\f1<18446744073709551616:=by omega
   by_cases hz:0<f2
   ·exact⟨I (f1*1),M2,t2,⟨_,rfl,by omega,by omega⟩,by simp_arith [gH,e1,e2,c4,hz]⟩
   ·exact⟨I (f1*0),M2,t2,⟨_,rfl,by omega,by omega⟩,by simp_arith [gH,e1,e2,c4,hz]⟩) M h
 obtain⟨ks,ek,qk⟩:=Hl qe;refine⟨ks,M',?_,qk,t',?_⟩
 ·have:ks.length=es.length:=by rw[ek];simp
  rw[bI] at le;omega
 ·have l3:es.length<=sizeLine:=by rw[le,bI];exact a7 (by omega)
  have l4:ks.length<=sizeLine:=by rw[ek] at l3;simpa using l3
  have b1:=λM=>xA (j:=wide) (by omega) M
  unfold jI l6;simp_arith [bq,b1,ee,l4,ek]
def yL (hm:1<=most)(hm2:most<=1000)(h:bU l rest M) :
  ∃(rs:List (List Int)) (w:Nat) (M':az),1<=rs.length/\(rs.length:Int)<=most/\1<=w/\(w:Int)<=most/\(∀r∈rs,r.length=w/\∀k∈r,0<=k/\k<=15)/\bU l rest M'/\
   gF [R 0,I most] M=O (U (rs.map λr=>D.tup (r.map I))) M':=by
 obtain⟨wide,M1,w1,w2,t1,e1⟩:=rQ hm hm2 h;obtain⟨f4,M2,a2,b2,t2,e2⟩:=aY (many:=4) (by decide) (aJ (by decide) (by decide)) t1;obtain⟨high,M3,h1,h2,t3,e3⟩:=rQ hm hm2 t2;obtain⟨es,M',t',le,qe,ee⟩:=il (ds0:=bj 0 high.toNat) (ge:=ii) (ρ:=[Z (R 0),Z (I most),Z (I wide),Z (I (1+f4))])
  (P:=bU l rest) (Q:=λe=>∃ks:List Int,e=U (ks.map I)/\(ks.length:Int)=wide/\∀k∈ks,0<=k/\k<=15) (bj 0 high.toNat) (λd hd M hM=>by
   obtain⟨ks,M1,lk,qk,t1,e1⟩:=Hw (wide:=wide) (thin:=1+f4) (by omega) (by omega) (by omega) (by omega) hM;exact⟨_,M1,t1,⟨ks,rfl,lk,qk⟩,by simp_arith [ii,e1]⟩) M3 t3
 obtain⟨rs,er,qr⟩:=JJ qe;refine⟨rs,wide.toNat,M',?_,?_,by omega,by omega,λr hr=>⟨by have:=(qr r hr).1;omega,(qr r hr).2⟩,t',?_⟩
 ·have:rs.length=es.length:=by rw[er];simp
  rw[bI] at le;omega
 ·have:rs.length=es.length:=by rw[er];simp
  rw[bI] at le;omega
 ·have l3:es.length<=sizeLine:=by rw[le,bI];exact a7 (by omega)
  have l4:rs.length<=sizeLine:=by rw[er] at l3;simpa using l3
  have b1:=λM=>xA (j:=high) (by omega) M
  unfold gF kK;simp_arith [bq,b1,e1,e2,e3,ee,l4,er]
def Er (hm:1<=most)(hm2:most<=1000)(h:bU l rest M) :
  ∃(w hh g m:Int) (M':az),(1<=w/\w<=most)/\(1<=hh/\hh<=most)/\(0<=g/\g<=20)/\(0<=m/\m<=12)/\bU l rest M'/\iQ [R 0,I most] M=O (U [I w,I hh,I g,I m]) M':=by
 obtain⟨f1,M1,a1,b1,t1,e1⟩:=aY (many:=21) (by decide) (aJ (by decide) (by decide)) h;obtain⟨f2,M2,a2,b2,t2,e2⟩:=aY (many:=2) (by decide) (aJ (by decide) (by decide)) t1;obtain⟨w,M3,a3,b3,t3,e3⟩:=rQ hm hm2 t2;obtain⟨hh,M4,a4,b4,t4,e4⟩:=rQ hm hm2 t3;obtain⟨m,M5,a5,b5,t5,e5⟩:=aY (many:=13) (by decide) (aJ (by decide) (by decide)) t4;have l3:(2:Nat)<=sizeLine:=a7 (by decide);have l4:(4:Nat)<=sizeLine:=a7 (by decide);have pick:∃g,0<=g/\g<=20/\pN [I 0,I f1] f2=Z (I g):=by
  have:f2=0\/f2=1:=by omega
  rcases this with q|q <;> rw[q]
  ·exact⟨0,by omega,by omega,rfl⟩
  ·exact⟨f1,by omega,by omega,rfl⟩
 obtain⟨g,g1,g2,ha⟩:=pick;refine⟨w,hh,g,m,M5,⟨a3,b3⟩,⟨a4,b4⟩,⟨g1,g2⟩,⟨a5,by omega⟩,t5,?_⟩;unfold iQ kF;simp_arith [e1,e2,e3,e4,e5,l3,l4,ha]
def qh {size:Int}(hm:0<=size)(hm2:size<=900)(h:bU l rest M) :
  ∃(f:Int) (M':az),(-1000<=f/\f<=1000)/\bU l rest M'/\bQ [R 0,I size] M=O (I f) M':=by
 obtain⟨f1,M1,a1,b1,t1,e1⟩:=aY (many:=size+16) (by omega) (aJ (by omega) (by omega)) h;obtain⟨f2,M2,a2,b2,t2,e2⟩:=aY (many:=2001) (by decide) (aJ (by decide) (by decide)) t1;obtain⟨f3,M3,a3,b3,t3,e3⟩:=aY (many:=8) (by decide) (aJ (by decide) (by decide)) t2;have l3:(2:Nat)<=sizeLine:=a7 (by decide);have c3:Nat.log2 7<9000:=by decide
 have pick:∃g,-1000<=g/\g<=1000/\pN [I (f1-8),I (f2-1000)] (f3 / 7)=Z (I g):=by
  have:f3 / 7=0\/f3 / 7=1:=by omega
  rcases this with q|q <;> rw[q]
  ·exact⟨_,by omega,by omega,rfl⟩
  ·exact⟨_,by omega,by omega,rfl⟩
 obtain⟨g,g1,g2,ha⟩:=pick;refine⟨g,M3,⟨g1,g2⟩,t3,?_⟩;unfold bQ nN;simp_arith [e1,e2,e3,l3,c3,ha]
structure Mv where
 shape:Option Nat
 x:Int
 y:Int
 rank:Int
 turn:Int
def Mv.d (m:Mv):D:=U [match m.shape with|some k=>I k|none=>.non,I m.x,I m.y,I m.rank,I m.turn]
structure zP (n:Nat)(m:Mv):Prop where
 s:∀k,m.shape=Z k->k<n
 x:-1000<=m.x/\m.x<=1000
 y:-1000<=m.y/\m.y<=1000
 r:0<=m.rank/\m.rank<=3
 t:0<=m.turn/\m.turn<=3
def Bt {a b:Int}(h:b<a):xI (I a) (I b) M=O (G true) M:=by
 show aX.ok (D.bl (decide (a>b))) M=_;rw[decide_eq_true h]
def GK {a b:Int}(h:¬b<a):xI (I a) (I b) M=O (G false) M:=by
 show aX.ok (D.bl (decide (a>b))) M=_;rw[decide_eq_false h]
def Bh {a b:GT}(ha:a ρ M=O false M1):dN a b ρ M=O false M1:=by
 unfold dN;rw[ha,ah];rfl
def xK {a b:GT}{y:Bool}(ha:a ρ M=O true M)(hb:b ρ M=O y M1):dN a b ρ M=O y M1:=by
 unfold dN;rw[ha,ah];exact hb
variable{gi:GI}{ge:GE}{ds:List D}
def o7 {es:List D}{M2:az}(hi:gi ρ M=O ⟨ds,Y⟩ M1)(he:gU ⟨ds,Y⟩ cb ge ds ρ M1=O es M2)(hl:es.length<=1000000):bq gi cb ge aP ρ M=O (.lst es) M2:=by
 unfold bq;rw[hi,ah];dsimp only;rw[he,ah];unfold aP;rw[if_pos (a7 hl)]
variable{hh y t:Int}{more:List D}
def Ay {w r:Int}{d2 d3:D}{M2 M3 M4 M5:az}(q1:bQ [R 0,I w] M=O (I x) M2)(q2:bQ [R 0,I hh] M2=O (I y) M3)(q3:ar [R 0,I 4] M3=O (I r) M4)(q4:ar [R 0,I 4] M4=O (I t) M5) :
  aK (aD (aa (ae 3) (aa (aj 2 bQ (aa (ae 0) (aa (g2 bb (ae 1) (gC (I 0))) af))) (aa (aj 2 bQ (aa (ae 0) (aa (g2 bb (ae 1) (gC (I 1))) af))) (aa (aj 2 ar (aa (ae 0) (aa (gC (I 4)) af))) (aa (aj 2 ar (aa (ae 0) (aa (gC (I 4)) af))) af)))))) [Z (R 0),Z (U (I w::I hh::more)),Z d2,Z d3] M=O (.rt (U [d3,I x,I y,I r,I t])) M5:=
 aO (bg (ay rfl (ay (bh rfl (aw rfl rfl (cV rfl)) q1) (ay (bh rfl (aw rfl rfl (cV rfl)) q2) (ay (bh rfl rfl q3) (ay (bh rfl rfl q4) rfl))))))
variable{n:Nat}
def yG {w:Int}(hw:0<=w/\w<=900)(hh2:0<=hh/\hh<=900)(hn:n<=1000)(h:bU l rest M) :
  ∃(m:Mv) (M':az),zP n m/\bU l rest M'/\iI [R 0,U (I w::I hh::more),I n] M=O m.d M':=by
 have go:∀(s:Option Nat) (M:az),bU l rest M->(∀k,s=Z k->k<n)->∃(m:Mv) (M':az),zP n m/\m.shape=s/\bU l rest M'/\
   ∃M2 M3 M4,bQ [R 0,I w] M=O (I m.x) M2/\bQ [R 0,I hh] M2=O (I m.y) M3/\ar [R 0,I 4] M3=O (I m.rank) M4/\ar [R 0,I 4] M4=O (I m.turn) M':=by
  intro s M h hs;obtain⟨x,M2,a2,t2,e2⟩:=qh hw.1 hw.2 h;obtain⟨y,M3,a3,t3,e3⟩:=qh hh2.1 hh2.2 t2;obtain⟨r,M4,a4,b4,t4,e4⟩:=aY (many:=4) (by decide) (aJ (by decide) (by decide)) t3;obtain⟨t,M5,a5,b5,t5,e5⟩:=aY (many:=4) (by decide) (aJ (by decide) (by decide)) t4;have r3:r<=3:=by omega
  have q3:t<=3:=by omega
  exact⟨⟨s,x,y,r,t⟩,M5,⟨hs,a2,a3,⟨a4,r3⟩,⟨a5,q3⟩⟩,rfl,t5,M2,M3,M4,e2,e3,e4,e5⟩
 by_cases h0:0<n
 ·obtain⟨f1,M1,a1,b1,t1,e1⟩:=aY (many:=8) (by decide) (aJ (by decide) (by decide)) h;have h0':(0:Int)<n:=by omega
  by_cases hf:0<f1
  ·obtain⟨f2,M2,a2,b2,t2,e2⟩:=aY (many:=(n:Int)) (by omega) (aJ (by omega) (by omega)) t1;obtain⟨k,rfl⟩:=Int.eq_ofNat_of_zero_le a2;obtain⟨m,M',ok,sm,t',M3,M4,M5,q1,q2,q3,q4⟩:=go (Z k) M2 t2 (λj hj=>by cases hj;omega);refine⟨m,M',ok,t',?_⟩;show aC (df [Z (R 0),Z (U (I w::I hh::more)),Z (I n),Y] M)=_;unfold df;rw[ao (aH rfl)];rw[ao ((bH (xK (aZ (aw rfl rfl (Bt (by omega)))) (aZ (aw (bh rfl rfl e1) rfl (Bt hf))))).trans (aH (bh rfl rfl e2)))];refine(congrArg aC (Ay q1 q2 q3 q4)).trans ?_;unfold Mv.d;rw[sm];rfl
  ·obtain⟨m,M',ok,sm,t',M3,M4,M5,q1,q2,q3,q4⟩:=go Y M1 t1 (λj hj=>by cases hj);refine⟨m,M',ok,t',?_⟩;show aC (df [Z (R 0),Z (U (I w::I hh::more)),Z (I n),Y] M)=_;unfold df;rw[ao (aH rfl)];rw[ao ((bp (xK (aZ (aw rfl rfl (Bt (by omega)))) (aZ (aw (bh rfl rfl e1) rfl (GK hf))))).trans rfl)];refine(congrArg aC (Ay q1 q2 q3 q4)).trans ?_;unfold Mv.d;rw[sm];rfl
 ·have h0':¬(0:Int)<n:=by omega
  obtain⟨m,M',ok,sm,t',M3,M4,M5,q1,q2,q3,q4⟩:=go Y M h (λj hj=>by cases hj);refine⟨m,M',ok,t',?_⟩;show aC (df [Z (R 0),Z (U (I w::I hh::more)),Z (I n),Y] M)=_;unfold df;rw[ao (aH rfl)];rw[ao ((bp (Bh (aZ (aw rfl rfl (GK h0'))))).trans rfl)];refine(congrArg aC (Ay q1 q2 q3 q4)).trans ?_;unfold Mv.d;rw[sm];rfl
theorem pM {α:Type}{f:α->D}{P:α->Prop}:∀{es:List D},(∀e∈es,∃a,e=f a/\P a)->∃as:List α,es=as.map f/\∀a∈as,P a
 | [],_=>⟨[],rfl,λ_ z=>by cases z⟩
 | e::es,h=>by
  obtain⟨a,ea,pa⟩:=h e (mem_cons_self ..);obtain⟨as,eas,pas⟩:=pM λe' he=>h e' (mem_cons_of_mem _ he)
  refine⟨a::as,by rw[ea,eas];rfl,λb hb=>?_⟩;rcases mem_cons.mp hb with q|q
  ·rw[q];exact pa
  ·exact pas b q
def aF (rs:List (List Int)):D:=U (rs.map λr=>D.tup (r.map I))
def oZ (most:Int)(rs:List (List Int)):Prop:=1<=rs.length/\(rs.length:Int)<=most/\∃w:Nat,1<=w/\(w:Int)<=most/\∀r∈rs,r.length=w/\∀k∈r,0<=k/\k<=15
structure cS where
 floor:List (List Int)
 sx:Int
 sy:Int
 book:List (List (List Int))
 movers:List Mv
 pots:List Int
def cS.d (s:cS):D:=U [aF s.floor,U [I s.sx,I s.sy],U (s.book.map aF),U (s.movers.map Mv.d),U (s.pots.map I)]
structure bO (most:Int)(s:cS):Prop where
 floor:oZ 16 s.floor
 sx:-1000<=s.sx/\s.sx<=1000
 sy:-1000<=s.sy/\s.sy<=1000
 bl:s.book.length<=8
 book:∀b∈s.book,oZ 8 b
 ml:(s.movers.length:Int)<=most
 movers:∀m∈s.movers,zP s.book.length m
 pl:s.pots.length=16
 pots:∀k∈s.pots,0<=k/\k<=63
theorem sC :af ρ M=O [] M:=rfl
variable{xs:List D}
def ve {i:Int}{d:D}(h:pN xs i=Z d):bb (.lst xs) (I i) M=O d M:=by
 unfold bb bN;dsimp only;rw[h]
variable{mm:Int}
def F4 {w:Int}(hw:0<=w/\w<=900)(hh2:0<=hh/\hh<=900)(hm:0<=mm/\mm<=900)(h:bU l rest M) :
  ∃(s:cS) (M':az),bO mm s/\bU l rest M'/\kA [R 0,U (I w::I hh::more),I mm] M=O s.d M':=by
 obtain⟨fl,fw,M1,f1,f2,f3,f4,f5,t1,e1⟩:=yL (most:=16) (by decide) (by decide) h;obtain⟨sx,M2,a2,t2,e2⟩:=qh (size:=9) (by decide) (by decide) t1;obtain⟨sy,M3,a3,t3,e3⟩:=qh (size:=9) (by decide) (by decide) t2;obtain⟨d4,M4,a4,b4,t4,e4⟩:=aY (many:=4) (by decide) (aJ (by decide) (by decide)) t3;obtain⟨d5,M5,a5,b5,t5,e5⟩:=aY (many:=9) (by decide) (aJ (by decide) (by decide)) t4;obtain⟨d6,M6,a6,b6,t6,e6⟩:=aY (many:=4) (by decide) (aJ (by decide) (by decide)) t5;have pick:∃g,0<=g/\g<=8/\pN [I d4,I d5] (d6 / 3)=Z (I g):=by
  have:d6 / 3=0\/d6 / 3=1:=by omega
  rcases this with q|q <;> rw[q]
  ·exact⟨_,by omega,by omega,rfl⟩
  ·exact⟨_,by omega,by omega,rfl⟩
 obtain⟨g,g1,g2,ha⟩:=pick;obtain⟨eb,M7,t7,lb,qb,ee1⟩:=il (ds0:=bj 0 g.toNat) (ge:=hX) (ρ:=[Z (R 0),Z (U (I w::I hh::more)),Z (I mm),Z (aF fl),Z (U [I sx,I sy]),Z (I g),Y,Y])
  (P:=bU l rest) (Q:=λe=>∃b,e=aF b/\oZ 8 b) (bj 0 g.toNat) (λd hd M hM=>by
   obtain⟨rs,rw',M1,q1,q2,q3,q4,q5,t1,e1⟩:=yL (most:=8) (by decide) (by decide) hM;exact⟨_,M1,t1,⟨rs,rfl,q1,q2,rw',q3,q4,q5⟩,by simp_arith [hX,e1,aF]⟩) M6 t6
 obtain⟨book,hb,okb⟩:=pM qb;have lbk:book.length=g.toNat:=by rw[<-bI 0 g.toNat,<-lb,hb,length_map]
 obtain⟨d8,M8,a8,b8,t8,e8⟩:=aY (many:=mm+1) (by omega) (aJ (by omega) (by omega)) t7;obtain⟨em,M9,t9,lm,qm,ee2⟩:=il (ds0:=bj 0 d8.toNat) (ge:=hZ) (ρ:=[Z (R 0),Z (U (I w::I hh::more)),Z (I mm),Z (aF fl),Z (U [I sx,I sy]),Z (I g),Z (U (book.map aF)),Y])
  (P:=bU l rest) (Q:=λe=>∃m,e=Mv.d m/\zP book.length m) (bj 0 d8.toNat) (λd hd M hM=>by
   obtain⟨m,M1,ok,t1,e1⟩:=yG (more:=more) (n:=book.length) hw hh2 (by omega) hM;exact⟨_,M1,t1,⟨m,rfl,ok⟩,by simp_arith [hZ,e1]⟩) M8 t8
 obtain⟨movers,hmv,okm⟩:=pM qm;have lmv:movers.length=d8.toNat:=by rw[<-bI 0 d8.toNat,<-lm,hmv,length_map]
 obtain⟨ep,M10,t10,lp,qp,ee3⟩:=il (ds0:=bj 0 16) (ge:=ia) (ρ:=[Z (R 0),Z (U (I w::I hh::more)),Z (I mm),Z (aF fl),Z (U [I sx,I sy]),Z (I g),Z (U (book.map aF)),Z (U (movers.map Mv.d))])
  (P:=bU l rest) (Q:=λe=>∃k,e=I k/\0<=k/\k<=63) (bj 0 16) (λd hd M hM=>by
   obtain⟨f1,M1,a1,b1,t1,e1⟩:=aY (many:=64) (by decide) (aJ (by decide) (by decide)) hM;exact⟨_,M1,t1,⟨f1,rfl,a1,by omega⟩,by simp_arith [ia,e1]⟩) M9 t9
 obtain⟨pots,hp,okp⟩:=pM qp;have lpt:pots.length=16:=by rw[<-bI 0 16,<-lp,hp,length_map]
 refine⟨⟨fl,sx,sy,book,movers,pots⟩,M10,⟨⟨f1,f2,fw,f3,f4,f5⟩,a2,a3,?_,okb,?_,okm,lpt,okp⟩,t10,?_⟩
 ·show book.length<=8;omega
 ·show(movers.length:Int)<=mm;omega
 ·rw[hb] at ee1;rw[hmv] at ee2;rw[hp] at ee3;obtain⟨gn,rfl⟩:=Int.eq_ofNat_of_zero_le g1;obtain⟨dn,rfl⟩:=Int.eq_ofNat_of_zero_le a8;rw[Int.toNat_natCast] at ee1 ee2;show aC (iG [Z (R 0),Z (U (I w::I hh::more)),Z (I mm),Y,Y,Y,Y,Y] M)=_;unfold iG;rw[ao (aH (bh rfl rfl e1))];rw[ao (aH (bg (ay (bh rfl rfl e2) (ay (bh rfl rfl e3) sC))))];rw[ao (aH (aw (eL (ay (bh rfl rfl e4) (ay (bh rfl rfl e5) sC))) (aw (bh rfl rfl e6) rfl (Js (by decide) (by decide) M6)) (ve ha)))];show aC (av _ _ [Z (R 0),Z (U (I w::I hh::more)),Z (I mm),Z (aF fl),Z (U [I sx,I sy]),Z (I gn),Y,Y] M6)=_;rw[ao (aH (jQ (F:=eX) (o7 (hU (n:=gn) (ay (g:=ae 5) rfl sC) (by omega)) ee1 (by rw[length_map];omega)) rfl))];show aC (av _ _ [Z (R 0),Z (U (I w::I hh::more)),Z (I mm),Z (aF fl),Z (U [I sx,I sy]),Z (I gn),Z (U (book.map aF)),Y] M7)=_;rw[ao (aH (jQ (F:=eX) (o7 (hU (n:=dn) (ay (bh rfl rfl e8) sC) (by omega)) ee2 (by rw[length_map];omega)) rfl))];show aC (aK _ [Z (R 0),Z (U (I w::I hh::more)),Z (I mm),Z (aF fl),Z (U [I sx,I sy]),Z (I gn),Z (U (book.map aF)),Z (U (movers.map Mv.d))] M9)=_;refine(congrArg aC (aO (bg (ds:=[aF fl,U [I sx,I sy],U (book.map aF),U (movers.map Mv.d),U (pots.map I)]) (ay rfl (ay rfl (ay rfl (ay rfl (ay (jQ (F:=eX) (o7 (hU (n:=16) (ay (g:=gC (I 16)) rfl sC) (by decide)) ee3 (by rw[length_map];omega)) rfl) rfl)))))))).trans ?_;rfl
theorem n8 {ds0:List D}{s:GG}{body:GS}{W:Nat->bK->az->Prop}:∀(ds:List D) (i:Nat),(∀j d,ds[j]?=Z d->∀ρ M,W (i+j) ρ M->∃ρ1 ρ2 M2,s d ρ=Z ρ1/\body ρ1 M=O (.nx ρ2) M2/\W (i+j+1) ρ2 M2)->∀ρ M,W i ρ M->
  ∃ρ' M',W (i+ds.length) ρ' M'/\fW ⟨ds0,Y⟩ s body ds ρ M=O (.nx ρ') M'
 | [],i,h,ρ,M,hW=>⟨ρ,M,hW,rfl⟩
 | d::ds,i,h,ρ,M,hW=>by
  obtain⟨ρ1,ρ2,M2,e1,e2,h2⟩:=h 0 d rfl ρ M hW;obtain⟨ρ',M',h3,e3⟩:=n8 (ds0:=ds0) (body:=body) (W:=W) ds (i+1) (λj d' hd ρ M hW=>by
   have e:i+1+j=i+(j+1):=by omega
   rw[e] at hW ⊢;exact h (j+1) d' hd ρ M hW) ρ2 M2 h2
  refine⟨ρ',M',?_,by simp[fW,wV,e1,e2,e3]⟩;have e:i+(d::ds).length=i+1+ds.length:=by simp;omega
  rw[e];exact h3
variable{lo:Int}{j:Nat}
def zp {d:D}(h:(bj lo n)[j]?=Z d):j<n/\d=I (lo+j):=by
 unfold bj at h;rw[getElem?_map] at h;cases q:(List.range n)[j]? with
 | none=>rw[q] at h;cases h
 | some k=>
  rw[q] at h;obtain⟨hj,ek⟩:=List.getElem?_eq_some_iff.mp q;rw[length_range] at hj;rw[getElem_range] at ek;subst ek;cases h;exact⟨hj,rfl⟩
def z8 (s:cS)(row:Int)(m:Mv):Bool:=match m.shape with
 | none=>false
 | some k=>decide (m.y<=row)&&decide (row<m.y+((s.book.getD k []).length:Int))
def rE (s:cS)(row:Int):Nat->List Int
 | 0=>[]
 | n+1=>rE s row n++(match s.movers[n]? with|some m=>if z8 s row m then [(n:Int)] else []|none=>[])
theorem oY (s:cS)(row:Int):∀n,(rE s row n).length<=n
 | 0=>Nat.le_refl _
 | n+1=>by
  have:=oY s row n;unfold rE;rw[length_append];split
  ·split <;> simp <;> omega
  ·simp;omega
def cM (s:cS)(row:Int):List Int:=rE s row s.movers.length
abbrev Nb (rs:List (List Int)):D:=U (rs.map λr=>D.tup (r.map I))
def nP (rs:List (List Int))(way:Int)(n:Nat):List Int:=
 let r:=if way=2\/way=3 then rs.getD (rs.length-1-n) [] else rs.getD n []
 if way=1\/way=3 then r.reverse else r
variable{way:Int}
def Rl (h0:0<=way)(h1:way<4):way=0\/way=1\/way=2\/way=3:=by omega
theorem ui {s:cS}{row:Int}:∀{j:Nat} {n:Int},n∈rE s row j->∃i:Nat,n=i/\i<j/\∃m,s.movers[i]?=Z m/\z8 s row m=true
 | 0,n,h=>by cases h
 | j+1,n,h=>by
  unfold rE at h;rcases mem_append.mp h with z|z
  ·obtain⟨i,e,hi,r⟩:=ui z;exact⟨i,e,by omega,r⟩
  ·split at z
   ·rename_i m hm;split at z
    ·rename_i hl;exact⟨j,by simpa using z,by omega,m,hm,hl⟩
    ·cases z
   ·cases z
def Eo (xs:List Int)(lo hi:Option Int):∃ys:List Int,g5 (xs.map I) lo hi=ys.map I/\ys.length<=xs.length/\∀y∈ys,y∈xs:=by
 refine⟨(xs.drop (HT.sIx xs.length 0 lo)).take (HT.sIx xs.length xs.length hi-HT.sIx xs.length 0 lo),by simp[g5],?_,λy hy=>mem_of_mem_drop (mem_of_mem_take hy)⟩;rw[length_take,length_drop];omega
def ig (s:cS)(row n:Int):D:=match s.movers[n.toNat]? with
 | some m=>U [I n,I m.x,I m.rank,U ((nP (s.book.getD (m.shape.getD 0) []) m.turn (row-m.y).toNat).map I)]
 | none=>.non
def cn (s:cS)(row:Int):List Int:=s.floor.getD ((row+s.sy) % (s.floor.length:Int)).toNat []
def fI (s:cS)(row x:Int):Int:=(cn s row).getD ((x+s.sx) % ((cn s row).length:Int)).toNat 0
def uw (s:cS)(m row:Int):List D:=(g5 ((cM s row).map I) Y (Z m)).map λd=>match d with | .int n=>ig s row n|d=>d
def gj (s:cS)(w m row:Int):D:=U [U ((List.range w.toNat).map λ(x:Nat)=>I (fI s row x)),U (uw s m row)]
def JT {a b c:GE}{z:Int}(ha:a ρ M=O (I x) M)(hb:b ρ M=O (I y) M)(hc:x<=y->c ρ M=O (I z) M):qJ oj qK a b c ρ M=O (G (decide (x<=y)&&decide (y<z))) M:=by
 unfold qJ;rw[ha,ah,hb,ah];show(aX.ok (D.bl (decide (x<=y))) M).bind _=_;rw[ah]
 by_cases q:x<=y
 ·rw[decide_eq_true q];dsimp only;rw[hc q,ah];rfl
 ·rw[decide_eq_false q];rfl
variable{sg:GG}
def pH {g:GE}{ρ1:bK}{d:D}(h:g ρ M=O d M1)(h2:sg d ρ=Z ρ1):dE sg g ρ M=O (.nx ρ1) M1:=by
 unfold dE;rw[h,ah,h2]
variable{s:cS}{row:Int}
theorem Nn :dE (bB [2,3,4,5,6]) (ae 0) [Z s.d,Z (I row),Y,Y,Y,Y,Y,Y,Y,Y,Y,Y,Y,Y] M=O (.nx [Z s.d,Z (I row),Z (aF s.floor),Z (U [I s.sx,I s.sy]),Z (U (s.book.map aF)),Z (U (s.movers.map Mv.d)),Z (U (s.pots.map I)),Y,Y,Y,Y,Y,Y,Y]) M:=rfl
def Q5 (o:Option Nat):D:=match o with|some k=>I k|none=>.non
def Qc (bk:List (List (List Int)))(row y:Int):Option Nat->Bool
 | none=>false
 | some k=>decide (y<=row)&&decide (row<y+((bk.getD k []).length:Int))
variable{b:Bool}
def Hr {x0 x2 x3 x5 x6 x10 x12 x13:Option D}{bk:List (List (List Int))}{o:Option Nat}{E:List Int}(ho:∀k,o=Z k->k<bk.length)(hE:E.length<1000)
  (hb:b=Qc bk row y o) :
  fZ [x0,Z (I row),x2,x3,Z (U (bk.map aF)),x5,x6,Z (R M.length),Z (I j),Z (Q5 o),x10,Z (I y),x12,x13] (M++[.lst (E.map I)]) =
   O (.nx [x0,Z (I row),x2,x3,Z (U (bk.map aF)),x5,x6,Z (R M.length),Z (I j),Z (Q5 o),x10,Z (I y),x12,x13]) (M++[.lst ((E++if b then [(j:Int)] else []).map I)]):=by
 unfold fZ;have t:dN (aI (g2 (kI true) (ae 9) (gC .non))) (aI (qJ oj qK (ae 11) (ae 1) (g2 bC (ae 11) (aQ bE (aa (g2 bb (ae 4) (ae 9)) af))))) [x0,Z (I row),x2,x3,Z (U (bk.map aF)),x5,x6,Z (R M.length),Z (I j),Z (Q5 o),x10,Z (I y),x12,x13] (M++[.lst (E.map I)])=O b (M++[.lst (E.map I)]):=by
  subst hb;cases o with
  | none=>exact jF (x:=false) (y:=true) rfl (λz=>by cases z)
  | some k=>
   have hk:=ho k rfl;have gb:bk[k]?=Z bk[k]:=getElem?_eq_getElem hk;have e:bk.getD k []=bk[k]:=by rw[List.getD,gb];rfl
   have ln:aQ bE (aa (g2 bb (ae 4) (ae 9)) af) [x0,Z (I row),x2,x3,Z (U (bk.map aF)),x5,x6,Z (R M.length),Z (I j),Z (I k),x10,Z (I y),x12,x13] (M++[.lst (E.map I)])=O (I (bk[k].length:Int)) (M++[.lst (E.map I)]):=by
    refine jQ (aw (x:=U (bk.map aF)) (y:=I k) rfl rfl (cV (by rw[getElem?_map,gb];rfl))) ?_;show aX.ok (I ((bk[k].map λr=>D.tup (r.map I)).length:Int)) _=_;rw[length_map]
   show _=aX.ok (decide (y<=row)&&decide (row<y+((bk.getD k []).length:Int))) _;rw[e];exact jF (x:=true) rfl λ_=>aZ (JT (x:=y) (y:=row) (z:=y+(bk[k].length:Int)) rfl rfl λ_=>aw (x:=I y) rfl ln rfl)
 cases b with
 | false=>
  refine(bp t).trans ?_;rw[if_neg Bool.false_ne_true,append_nil];rfl
 | true=>
  refine(bH t).trans ?_;rw[if_pos rfl,map_append];exact bG (Aw (go:=ae 7) (d:=I j) rfl rfl (by rw[length_map];omega))
def DJ (ok:bO mm s)(hm:mm<=900)(hM:dB M):lG [s.d,I row] M=O (.lst ((cM s row).map I)) M:=by
 have lm:=ok.ml;generalize hx0:Z s.d=x0;generalize hx2:Z (aF s.floor)=x2;generalize hx3:Z (D.tup [I s.sx,I s.sy])=x3;generalize hx6:Z (D.tup (s.pots.map I))=x6;obtain⟨ρ',M',⟨y,rfl,rfl⟩,ef⟩:=n8 (ds0:=ik (s.movers.map Mv.d)) (s:=rh [(dY 8),(bB [9,10,11,12,13])]) (body:=fZ)
  (W:=λi ρ N=>∃y:Nat->Option D,ρ=[x0,Z (I row),x2,x3,Z (U (s.book.map aF)),Z (U (s.movers.map Mv.d)),x6,Z (R M.length),y 0,y 1,y 2,y 3,y 4,y 5]/\N=M++[.lst ((rE s row i).map I)])
  (ik (s.movers.map Mv.d)) 0 (λj d hd ρ N hW=>by
   obtain⟨y,rfl,rfl⟩:=hW;obtain⟨dx,ex,rfl⟩:=ni hd;rw[Nat.zero_add];rw[getElem?_map] at ex;cases gm:s.movers[j]? with
   | none=>rw[gm] at ex;cases ex
   | some m=>
   rw[gm] at ex;cases ex;have hj:=(List.getElem?_eq_some_iff.mp gm).1;have om:=ok.movers _ (mem_of_getElem? gm);have ll:(rE s row j).length<1000:=Nat.lt_of_le_of_lt (oY s row j) (by omega);have e:=Hr (x0:=x0) (x2:=x2) (x3:=x3) (x5:=Z (U (s.movers.map Mv.d))) (x6:=x6) (x10:=Z (I m.x)) (x12:=Z (I m.rank)) (x13:=Z (I m.turn)) (row:=row) (bk:=s.book) (j:=j) (M:=M) (E:=rE s row j) (b:=z8 s row m) om.s ll (by unfold z8 Qc;cases m.shape <;> rfl);have ey:rE s row (j+1)=rE s row j++(if z8 s row m then [(j:Int)] else []):=by
    show rE s row j++(match s.movers[j]? with|some m=>if z8 s row m then [(j:Int)] else []|none=>[])=_;rw[gm]
   exact⟨_,_,_,rfl,e,λi=>[Z (I j),Z (Q5 m.shape),Z (I m.x),Z (I m.y),Z (I m.rank),Z (I m.turn)][i]?.getD Y,rfl,by rw[ey]⟩)
  [x0,Z (I row),x2,x3,Z (U (s.book.map aF)),Z (U (s.movers.map Mv.d)),x6,Z (R M.length),Y,Y,Y,Y,Y,Y] (M++[.lst []]) ⟨λ_=>Y,rfl,rfl⟩
 rw[kQ,length_map,Nat.zero_add] at ef;have rt:=yX (M:=M) (xs:=(cM s row).map I) (fc 28 _) hM;have a1:=Nn (s:=s) (row:=row) (M:=M);rw[hx0,hx2,hx3,hx6] at a1;show jZ M.length (aC (jd [Z s.d,Z (I row),Y,Y,Y,Y,Y,Y,Y,Y,Y,Y,Y,Y] M))=_;rw[hx0];unfold jd;have s7:∀b:GS,av (aL 7 (kr af)) b [x0,Z (I row),x2,x3,Z (U (s.book.map aF)),Z (U (s.movers.map Mv.d)),x6,Y,Y,Y,Y,Y,Y,Y] M=b [x0,Z (I row),x2,x3,Z (U (s.book.map aF)),Z (U (s.movers.map Mv.d)),x6,Z (R M.length),Y,Y,Y,Y,Y,Y] (M++[.lst []]):=λb=>ao (aH oy)
 have kf:js (lU (aa (ae 5) af)) (rh [(dY 8),(bB [9,10,11,12,13])]) fZ [x0,Z (I row),x2,x3,Z (U (s.book.map aF)),Z (U (s.movers.map Mv.d)),x6,Z (R M.length),Y,Y,Y,Y,Y,Y] (M++[.lst []])=_:=jM (t:=⟨ik (s.movers.map Mv.d),Y⟩) rfl ef;rw[ao a1,s7,ao kf];exact rt
def DK {t:GT}{a b:GE}{x:Bool}{o:aX D}(h:t ρ M=O x M)(hk:(if x then a ρ M else b ρ M)=o):sF t a b ρ M=o:=by
 unfold sF;rw[h,ah];exact hk
variable{rs:List (List Int)}
def SL (h:n<rs.length):bb (Nb rs) (I n) M=O (U ((rs.getD n []).map I)) M:=cV (by rw[getElem?_map,List.getD,getElem?_eq_getElem h];rfl)
def pw {a:Bool}(ha:tu false (I way) (U [I 2,I 3]) M=O (G a) M)(hb:tu false (I way) (U [I 1,I 3]) M=O (G b) M)(hn:n<rs.length) :
  kE [Nb rs,I way,I n] M=O (U ((if b then(if a then rs.getD (rs.length-1-n) [] else rs.getD n []).reverse else(if a then rs.getD (rs.length-1-n) [] else rs.getD n [])).map I)) M:=by
 have ln:aQ bE (aa (ae 0) af) [Z (Nb rs),Z (I way),Z (I n),Y] M=O (I rs.length) M:=by
  show aX.ok (I ((rs.map λr=>D.tup (r.map I)).length:Int)) M=_;rw[length_map]
 have e2:(rs.length:Int)-1-n=((rs.length-1-n:Nat):Int):=by omega
 have t1:iS (aI (g2 qK (ae 2) (gC (I 0)))) (aI (g2 ze (ae 2) (aQ bE (aa (ae 0) af)))) [Z (Nb rs),Z (I way),Z (I n),Y] M=O (false||false) M:=gk (aZ (aw rfl rfl (by show aX.ok (D.bl (decide ((n:Int)<0))) M=_;rw[decide_eq_false (by omega)]))) λ_=>aZ (aw rfl ln (by show aX.ok (D.bl (decide ((rs.length:Int)<=n))) M=_;rw[decide_eq_false (by omega)]))
 have two:∀(u v:Int) (ρ:bK),aD (aa (gC (I u)) (aa (gC (I v)) af)) ρ M=O (U [I u,I v]) M:=λu v ρ=>bg rfl
 have k3:sF (aI (g2 (tu false) (ae 1) (aD (aa (gC (I 2)) (aa (gC (I 3)) af))))) (g2 bb (ae 0) (g2 eY (g2 eY (aQ bE (aa (ae 0) af)) (gC (I 1))) (ae 2))) (g2 bb (ae 0) (ae 2)) [Z (Nb rs),Z (I way),Z (I n),Y] M=O (U ((if a then rs.getD (rs.length-1-n) [] else rs.getD n []).map I)) M:=by
  refine DK (aZ (aw rfl (two 2 3 _) ha)) ?_;cases a with
  | true=>exact aw rfl (aw (aw ln rfl rfl) rfl (by show aX.ok (I ((rs.length:Int)-1-n)) M=_;rw[e2])) (SL (by omega))
  | false=>exact aw rfl rfl (SL hn)
 show aC (kU [Z (Nb rs),Z (I way),Z (I n),Y] M)=_;unfold kU;refine(congrArg aC ((ao ((bp t1).trans rfl)).trans ((ao (aH k3)).trans (aO (DK (aZ (aw rfl (two 1 3 _) hb)) ?_))))).trans rfl;cases b with
 | true=>exact congrArg (λz=>aX.ok (D.tup z) M) (map_reverse ..).symm
 | false=>rfl
def Ek (h0:0<=way)(h1:way<4)(hn:n<rs.length) :
  kE [Nb rs,I way,I n] M=O (U ((nP rs way n).map I)) M:=by
 rcases Rl h0 h1 with rfl|rfl|rfl|rfl
 ·exact pw rfl rfl hn
 ·exact pw rfl rfl hn
 ·exact pw rfl rfl hn
 ·exact pw rfl rfl hn
def Dl {n:Int}(ok:bO mm s)(hn:n∈cM s row):jN [s.d,I n,I row] M=O (ig s row n) M:=by
 obtain⟨i,rfl,hi,m,gm,lz⟩:=ui hn;have om:=ok.movers m (mem_of_getElem? gm);unfold z8 at lz;cases hs:m.shape with
 | none=>rw[hs] at lz;cases lz
 | some k=>
  rw[hs] at lz;have hk:=om.s k hs;have gb:s.book[k]?=Z s.book[k]:=getElem?_eq_getElem hk;have gd:s.book.getD k []=s.book[k]:=by rw[List.getD,gb];rfl
  have lz:(decide (m.y<=row)&&decide (row<m.y+((s.book.getD k []).length:Int)))=true:=lz;rw[gd,Bool.and_eq_true,decide_eq_true_eq,decide_eq_true_eq] at lz;obtain⟨r,hr⟩:=Int.eq_ofNat_of_zero_le (by omega:0<=row-m.y);have ls:=Ek (rs:=s.book[k]) (way:=m.turn) (n:=r) (M:=M) om.t.1 (by have:=om.t.2;omega) (by omega);have es:ig s row (i:Int)=U [I i,I m.x,I m.rank,U ((nP s.book[k] m.turn r).map I)]:=by
   unfold ig;rw[Int.toNat_natCast,gm];have:(row-m.y).toNat=r:=by omega
   simp only[hs,Option.getD_some,gd,this]
  rw[es];clear es;have md:m.d=U [I k,I m.x,I m.y,I m.rank,I m.turn]:=by unfold Mv.d;rw[hs]
  show aC (hO [Z s.d,Z (I i),Z (I row),Y,Y,Y,Y,Y,Y,Y,Y,Y,Y] M)=_;unfold hO;have k1:dE (bB [3,4,5,6,7]) (ae 0) [Z s.d,Z (I i),Z (I row),Y,Y,Y,Y,Y,Y,Y,Y,Y,Y] M=O (.nx [Z s.d,Z (I i),Z (I row),Z (aF s.floor),Z (U [I s.sx,I s.sy]),Z (U (s.book.map aF)),Z (U (s.movers.map Mv.d)),Z (U (s.pots.map I)),Y,Y,Y,Y,Y]) M:=rfl;refine(congrArg aC ((ao k1).trans ((ao (pH (aw rfl rfl (cV (by rw[getElem?_map,gm];exact congrArg Z md))) rfl)).trans (aO (bg (ds:=[I i,I m.x,I m.rank,U ((nP s.book[k] m.turn r).map I)]) (ay rfl (ay rfl (ay rfl (ay (cq (aw rfl rfl (cV (by rw[getElem?_map,gb];rfl))) rfl (aw rfl rfl (by show aX.ok (I (row-m.y)) M=_;rw[hr])) ls) rfl))))))))).trans rfl
abbrev fe (s:cS)(row w hh g m:Int)(x:Option D):bK:=[Z (U [I w,I hh,I g,I m]),Z s.d,Z (I row),Z (I w),Z (I hh),Z (I g),Z (I m),Z (aF s.floor),Z (I s.sx),Z (I s.sy),Z (U (s.book.map aF)),Z (U (s.movers.map Mv.d)),Z (U (s.pots.map I)),x]
variable{i:Nat}
def BI {α:Type}{f:α->D}{l:List α}(h:ρ[i]?=Z (Z (U (l.map f)))):aQ bE (aa (ae i) af) ρ M=O (I (l.length:Int)) M:=by
 refine jQ (x:=U (l.map f)) (M1:=M) (by unfold ae;rw[h]) ?_;show aX.ok (I ((l.map f).length:Int)) M=_;rw[length_map]
variable{g m:Int}
def BR {w:Int}(ok:bO mm s)(hw:1<=w/\w<=900) :
  la [U [I w,I hh,I g,I m],s.d,I row] M=O (U ((List.range w.toNat).map λ(x:Nat)=>I (fI s row x))) M:=by
 obtain⟨f1,f2,fw,f3,f4,f5⟩:=ok.floor;have hfl:0<=(row+s.sy) % (s.floor.length:Int)/\(row+s.sy) % (s.floor.length:Int)<s.floor.length:=⟨Int.emod_nonneg _ (by omega),Int.emod_lt_of_pos _ (by omega)⟩;obtain⟨r,hr⟩:=Int.eq_ofNat_of_zero_le hfl.1;have hr2:r<s.floor.length:=by omega
 have er:cn s row=s.floor[r]:=by
  unfold cn;rw[hr,Int.toNat_natCast,List.getD,getElem?_eq_getElem hr2];rfl
 obtain⟨lw,lk⟩:=f5 _ (getElem_mem hr2);rw[<-er] at lw lk;have kx:∀x:Int,fG (Z (I x)::fe s row w hh g m (Z (U ((cn s row).map I)))) M=O (I (fI s row x)) M:=λx=>by
  have hx:0<=(x+s.sx) % ((cn s row).length:Int)/\(x+s.sx) % ((cn s row).length:Int)<(cn s row).length:=⟨Int.emod_nonneg _ (by omega),Int.emod_lt_of_pos _ (by omega)⟩;obtain⟨q,hq⟩:=Int.eq_ofNat_of_zero_le hx.1;refine aw (f:=bb) (a:=ae 14) (x:=U ((cn s row).map I)) (y:=I q) rfl (aw (f:=gV) (x:=I (x+s.sx)) rfl (BI (l:=cn s row) rfl) ((o6 (by omega) M).trans (by rw[hq]))) (cV ?_);unfold fI;rw[hq,Int.toNat_natCast,getElem?_map,List.getD,getElem?_eq_getElem (by omega)];rfl
 have ec:=l8 (ds0:=bj 0 w.toNat) (ge:=fG) (ρ:=fe s row w hh g m (Z (U ((cn s row).map I)))) (f:=λd=>match d with | .int x=>I (fI s row x)|d=>d) (M:=M) (bj 0 w.toNat) (λd hd=>by
  obtain⟨x,rfl,x0,x1⟩:=sR hd;exact kx x)
 have em:(bj 0 w.toNat).map (λd=>match d with | .int x=>I (fI s row x)|d=>d)=(List.range w.toNat).map λ(x:Nat)=>I (fI s row x):=by
  unfold bj;rw[map_map];apply map_congr_left;intro x _;simp
 rw[em] at ec;show aC (iO [Z (U [I w,I hh,I g,I m]),Z s.d,Z (I row),Y,Y,Y,Y,Y,Y,Y,Y,Y,Y,Y] M)=_;have k2:iO [Z (U [I w,I hh,I g,I m]),Z s.d,Z (I row),Y,Y,Y,Y,Y,Y,Y,Y,Y,Y,Y] M=(av (aL 13 (g2 bb (ae 7) (g2 gV (g2 bC (ae 2) (ae 9)) (aQ bE (aa (ae 7) af))))) (aK (aQ eX (aa (bq (dQ (aa (ae 3) af)) cb fG aP) af)))) (fe s row w hh g m Y) M:=(ao (show dE (bB [3,4,5,6]) (ae 0) _ M=O (.nx [Z (U [I w,I hh,I g,I m]),Z s.d,Z (I row),Z (I w),Z (I hh),Z (I g),Z (I m),Y,Y,Y,Y,Y,Y,Y]) M from rfl)).trans (ao (show dE (rh [(dY 7),(bB [8,9]),(dY 10),(dY 11),(dY 12)]) (ae 1) _ M=O (.nx (fe s row w hh g m Y)) M from rfl));rw[k2];refine(congrArg aC ((ao (aH (d:=U ((cn s row).map I)) (aw (f:=bb) (a:=ae 7) (x:=aF s.floor) (y:=I r) rfl (aw (f:=gV) (x:=I (row+s.sy)) rfl (BI (l:=s.floor) rfl) ((o6 (by omega) M).trans (by rw[hr]))) (cV (by rw[getElem?_map,getElem?_eq_getElem hr2,er];rfl))))).trans (aO (jQ (x:=.lst ((List.range w.toNat).map λ(x:Nat)=>I (fI s row x))) (o7 (ρ:=fe s row w hh g m (Z (U ((cn s row).map I)))) (hU (n:=w.toNat) (ay (d:=I (w.toNat:Int)) (by show aX.ok (I w) M=_;rw[Int.toNat_of_nonneg (by omega)]) rfl) (by omega)) ec (by rw[length_map,length_range];omega)) rfl)))).trans rfl
def F1 {w:Int}(ok:bO mm s)(hm:mm<=900)(hM:dB M) :
  mU [U [I w,I hh,I g,I m],s.d,I row] M=O (.lst (g5 ((cM s row).map I) Y (Z m))) M:=by
 have e:=DJ (row:=row) ok hm hM;unfold mU pY;simp_arith [e]
def Gy {w:Int}(ok:bO mm s)(hm:mm<=900)(hw:1<=w/\w<=900)(hmo:0<=m/\m<=12)(hM:dB M) :
  oR [U [I w,I hh,I g,I m],s.d,I row] M=O (gj s w m row) M:=by
 obtain⟨ys,ey,ly,qy⟩:=Eo (cM s row) Y (Z m);have ll:(cM s row).length<=900:=by
  have:=oY s row s.movers.length;have:=ok.ml;unfold cM;omega
 have etk:uw s m row=ys.map (ig s row):=by unfold uw;rw[ey,map_map];rfl
 have ek:=F1 (w:=w) (hh:=hh) (g:=g) (m:=m) (row:=row) ok hm hM;rw[ey] at ek;have ef:=BR (w:=w) (hh:=hh) (g:=g) (m:=m) (row:=row) (M:=M) ok hw;have ec:=l8 (ds0:=ys.map I) (ge:=oV) (ρ:=[Z (U [I w,I hh,I g,I m]),Z s.d,Z (I row),Y])
  (f:=λd=>match d with | .int n=>ig s row n|d=>d) (M:=M) (ys.map I) (λd hd=>by
   obtain⟨n,hn,rfl⟩:=mem_map.mp hd;have e:=Dl (M:=M) ok (qy n hn);simp_arith [oV,e])
 have em:(ys.map I).map (λd=>match d with | .int n=>ig s row n|d=>d)=ys.map (ig s row):=by
  rw[map_map];rfl
 rw[em] at ec;have l1:ys.length<=sizeLine:=a7 (by omega);have l2:(2:Nat)<=sizeLine:=a7 (by decide);unfold gj oR xq;rw[etk];simp_arith [bq,ek,ef,ec,l1,l2]
structure Sn where
 n:Int
 x:Int
 r:Int
 ks:List Int
def Sn.d (s:Sn):D:=U [I s.n,I s.x,I s.r,U (s.ks.map I)]
def eN (x:Int)(s:Sn):Int:=if s.x<=x/\x<s.x+(s.ks.length:Int) then s.ks.getD (x-s.x).toNat 0 else 0
def f6 (x:Int)(ss:List Sn):List Sn:=ss.filter λs=>eN x s != 0
def mL (x:Int)(s:Sn):D:=U [I s.r,I s.n,I (eN x s)]
def wF (x:Int)(ss:List Sn):(f6 x ss).length<=ss.length:=length_filter_le _ _
variable{ss:List Sn}
def D0 {s:Sn}(h:ss[j]?=Z s):f6 x (ss.take (j+1))=f6 x (ss.take j)++(if eN x s=0 then [] else [s]):=by
 rw[take_succ,h];unfold f6;rw[filter_append];congr 1
 by_cases hz:eN x s=0 <;> simp[hz]
def FW {s:Sn}(h1:s.x<=x)(h2:x<s.x+(s.ks.length:Int)):∃i:Nat,x-s.x=i/\pN (s.ks.map I) (i:Int)=Z (I (eN x s)):=by
 obtain⟨i,hi⟩:=Int.eq_ofNat_of_zero_le (by omega:0<=x-s.x);have hl:i<s.ks.length:=by omega
 refine⟨i,hi,?_⟩;have e:eN x s=s.ks[i]:=by
  unfold eN;rw[if_pos ⟨h1,h2⟩,hi,Int.toNat_natCast,List.getD,getElem?_eq_getElem hl];rfl
 rw[e];exact rR (by simp[hl])
def C8 {s:Sn}(h:¬(s.x<=x/\x<s.x+(s.ks.length:Int))):eN x s=0:=by unfold eN;rw[if_neg h]
def Jz {f:Sn->D}(h:∀s,aT 29 (f s)=true)(l:List Sn):(l.map f).all (aT 29)=true:=by
 rw[all_eq_true];intro d hd;obtain⟨s,_,e⟩:=mem_map.mp hd;rw[<-e];exact h s
def EG {x0 x2 x3:Option D}{s:Sn}{E:List D}(hE:E.length<1000) :
  fm [x0,Z (I x),x2,x3,Z (R M.length),Z (I s.n),Z (I s.x),Z (I s.r),Z (U (s.ks.map I))] (M++[.lst E]) =
   O (.nx [x0,Z (I x),x2,x3,Z (R M.length),Z (I s.n),Z (I s.x),Z (I s.r),Z (U (s.ks.map I))]) (M++[.lst (E++if eN x s=0 then [] else [mL x s])]):=by
 unfold fm;have ln:aQ bE (aa (ae 8) af) [x0,Z (I x),x2,x3,Z (R M.length),Z (I s.n),Z (I s.x),Z (I s.r),Z (U (s.ks.map I))] (M++[.lst E])=O (I (s.ks.length:Int)) (M++[.lst E]):=by
  refine jQ (a:=ae 8) rfl ?_;show aX.ok (I ((s.ks.map I).length:Int)) _=_;rw[length_map]
 have c1:=aZ (JT (a:=ae 6) (b:=ae 1) (y:=x) (z:=s.x+(s.ks.length:Int)) rfl rfl λ_=>aw (f:=bC) (a:=ae 6) rfl ln rfl)
 by_cases h:s.x<=x/\x<s.x+(s.ks.length:Int)
 ·obtain⟨i,hi,ai⟩:=FW h.1 h.2;have ix:g2 bb (ae 8) (g2 eY (ae 1) (ae 6)) [x0,Z (I x),x2,x3,Z (R M.length),Z (I s.n),Z (I s.x),Z (I s.r),Z (U (s.ks.map I))] (M++[.lst E])=O (I (eN x s)) (M++[.lst E]):=by
   refine aw (f:=bb) (a:=ae 8) (y:=I (x-s.x)) rfl rfl ?_;rw[hi];show(match pN (s.ks.map I) (i:Int) with|some d=>aX.ok d (M++[MO.lst E])|none=>.bad)=_;rw[ai]
  have t:=jF c1 λ_=>aZ (aw (f:=aV true) ix (b:=gC (I 0)) (y:=I 0) rfl (wk (eN x s) 0 _))
  rw[decide_eq_true h.1,decide_eq_true h.2] at t
  by_cases hz:eN x s=0
  ·rw[decide_eq_true hz] at t;rw[if_pos hz,append_nil];exact(bp t).trans rfl
  ·rw[decide_eq_false hz] at t;rw[if_neg hz];exact(bH t).trans (bG (Aw (go:=ae 4) (d:=mL x s) rfl (bg (ay rfl (ay rfl (ay ix rfl))) (by simp)) (by omega)))
 ·have hz:=C8 h;have b:(decide (s.x<=x)&&decide (x<s.x+(s.ks.length:Int)))=false:=by
   rw[<-Bool.decide_and];exact decide_eq_false h
  rw[b] at c1;rw[if_pos hz,append_nil];exact(bp ((jF (y:=true) c1 λz=>by cases z).trans rfl)).trans rfl
def zx {fl:D}(hs:ss.length<=900)(hM:dB M) :
  jB [U [fl,U (ss.map Sn.d)],I x] M=O (.lst ((f6 x ss).map (mL x))) M:=by
 obtain⟨ρ',M',⟨x5,x6,x7,x8,rfl,rfl⟩,ef⟩:=n8 (ds0:=ss.map Sn.d) (s:=bB [5,6,7,8]) (body:=fm)
  (W:=λi ρ N=>∃x5 x6 x7 x8,ρ=[Z (U [fl,U (ss.map Sn.d)]),Z (I x),Z fl,Z (U (ss.map Sn.d)),Z (R M.length),x5,x6,x7,x8]/\N=M++[.lst ((f6 x (ss.take i)).map (mL x))])
  (ss.map Sn.d) 0 (λj d hd ρ N hW=>by
   obtain⟨x5,x6,x7,x8,rfl,rfl⟩:=hW;rw[Nat.zero_add];rw[getElem?_map] at hd;cases gs:ss[j]? with
   | none=>rw[gs] at hd;cases hd
   | some s=>
   rw[gs] at hd;cases hd;rw[D0 gs];have ll:((f6 x (ss.take j)).map (mL x)).length<1000:=by
    rw[length_map];exact Nat.lt_of_le_of_lt (wF x _) (by rw[length_take];omega)
   have e:=EG (x0:=Z (U [fl,U (ss.map Sn.d)])) (x2:=Z fl) (x3:=Z (U (ss.map Sn.d))) (x:=x) (s:=s) (M:=M) ll;refine⟨_,_,_,rfl,e,_,_,_,_,rfl,?_⟩;rw[map_append]
   by_cases hz:eN x s=0
   ·rw[if_pos hz,if_pos hz];rfl
   ·rw[if_neg hz,if_neg hz];rfl)
  [Z (U [fl,U (ss.map Sn.d)]),Z (I x),Z fl,Z (U (ss.map Sn.d)),Z (R M.length),Y,Y,Y,Y] (M++[.lst []]) ⟨_,_,_,_,rfl,rfl⟩
 have e0:(0:Nat)+(ss.map Sn.d).length=ss.length:=by simp
 rw[e0,take_length] at ef;have rt:=yX (M:=M) (xs:=(f6 x ss).map (mL x)) (Jz (λ_=>rfl) _) hM;show jZ M.length (aC (iu [Z (U [fl,U (ss.map Sn.d)]),Z (I x),Y,Y,Y,Y,Y,Y,Y] M))=_;unfold iu;have a1:dE (bB [2,3]) (ae 0) [Z (U [fl,U (ss.map Sn.d)]),Z (I x),Y,Y,Y,Y,Y,Y,Y] M=O (.nx [Z (U [fl,U (ss.map Sn.d)]),Z (I x),Z fl,Z (U (ss.map Sn.d)),Y,Y,Y,Y,Y]) M:=rfl;have s4:∀b:GS,av (aL 4 (kr af)) b [Z (U [fl,U (ss.map Sn.d)]),Z (I x),Z fl,Z (U (ss.map Sn.d)),Y,Y,Y,Y,Y] M=b [Z (U [fl,U (ss.map Sn.d)]),Z (I x),Z fl,Z (U (ss.map Sn.d)),Z (R M.length),Y,Y,Y,Y] (M++[.lst []]):=λb=>ao (aH oy)
 have kf:js (cj (ae 3)) (bB [5,6,7,8]) fm [Z (U [fl,U (ss.map Sn.d)]),Z (I x),Z fl,Z (U (ss.map Sn.d)),Z (R M.length),Y,Y,Y,Y] (M++[.lst []])=_:=jM (t:=⟨ss.map Sn.d,Y⟩) (jw rfl) ef;rw[ao a1,s4,ao kf];exact rt
def Ha (a b:Sn):Prop:=b.r<a.r\/(a.r=b.r/\a.n<=b.n)
def DT {s:Sn}:zf 0 cC [mL x s] M=O (U [I (-s.r),I s.n]) M:=by
 have l2:(2:Nat)<=sizeLine:=a7 (by decide);have a0:∀a b c:D,pN [a,b,c] 0=Z a:=λ_ _ _=>rfl
 have a1:∀a b c:D,pN [a,b,c] 1=Z b:=λ_ _ _=>rfl
 simp_arith [cC,mL,a0,a1,l2]
def Qx (a b c d:Int):HT.lexLt [a,b] [c,d]=decide (a<c\/(a=c/\b<d)):=by
 by_cases h1:a<c <;> by_cases h2:a=c <;> by_cases h3:b<d <;> simp[HT.lexLt,h1,h2,h3] <;> omega
def Ji (b:Sn):∀s∈[b],Ha b s:=λs hs=>by
 rcases mem_cons.mp hs with z|z
 ·subst z;exact .inr ⟨rfl,Int.le_refl _⟩
 ·cases z
theorem zU {x:Int}{M:az}:∀(cs:List Sn) (b:Sn),∃b',b'∈b::cs/\(∀s∈b::cs,Ha b' s)/\qN (zf 0 cC) (cs.map (mL x)) (mL x b) [-b.r,b.n] M=O (mL x b') M
 | [],b=>⟨b,mem_cons_self ..,Ji b,rfl⟩
 | s::r,b=>by
  have hk:=DT (x:=x) (s:=s) (M:=M);have hi:qU (U [I (-s.r),I s.n])=Z [-s.r,s.n]:=rfl
  by_cases h:-s.r < -b.r\/(-s.r=-b.r/\s.n<b.n)
  ·obtain⟨b',h1,h2,h3⟩:=zU (x:=x) (M:=M) r s;refine⟨b',mem_cons_of_mem _ h1,λt ht=>?_,?_⟩
   ·rcases mem_cons.mp ht with z|z
    ·subst z;have:=h2 s (mem_cons_self ..);unfold Ha at *;omega
    ·exact h2 t z
   ·rw[map_cons];unfold qN;rw[hk];dsimp only;rw[hi];dsimp only;rw[Qx,if_pos (decide_eq_true h)];exact h3
  ·obtain⟨b',h1,h2,h3⟩:=zU (x:=x) (M:=M) r b;have hb:=h2 b (mem_cons_self ..);refine⟨b',?_,λt ht=>?_,?_⟩
   ·rcases mem_cons.mp h1 with z|z
    ·exact z▸mem_cons_self ..
    ·exact mem_cons_of_mem _ (mem_cons_of_mem _ z)
   ·rcases mem_cons.mp ht with z|z
    ·exact z▸hb
    ·rcases mem_cons.mp z with z|z
     ·subst z;unfold Ha at *;omega
     ·exact h2 t (mem_cons_of_mem _ z)
   ·rw[map_cons];unfold qN;rw[hk];dsimp only;rw[hi];dsimp only;rw[Qx,if_neg (by simpa using h)];exact h3
variable{cs:List Sn}
def DY {fl:Int}:(cs=[]/\eW [I fl,.lst (cs.map (mL x))] M=O (I fl) M)\/
  ∃b∈cs,(∀s∈cs,Ha b s)/\eW [I fl,.lst (cs.map (mL x))] M=O (I (if 1<=b.r\/fl=0 then eN x b else fl)) M:=by
 cases cs with
 | nil=>
  exact .inl ⟨rfl,rfl⟩
 | cons s r=>
  obtain⟨b,h1,h2,h3⟩:=zU (x:=x) (M:=M) r s;refine .inr ⟨b,h1,h2,?_⟩;have hk:=DT (x:=x) (s:=s) (M:=M);have hm:pV (zf 0 cC) (mL x s::r.map (mL x)) M=O (mL x b) M:=by
   unfold pV;dsimp only;rw[hk];exact h3
  have hg:∀ρ,ow (zf 0 cC) (ae 1) (Z (I fl)::Z (.lst (mL x s::r.map (mL x)))::ρ) M=O (U [I b.r,I b.n,I (eN x b)]) M:=λρ=>by
   show pV (zf 0 cC) (mL x s::r.map (mL x)) M=_;exact hm
  rw[map_cons];show aC (jv [Z (I fl),Z (.lst (mL x s::r.map (mL x))),Y,Y,Y] M)=_;unfold jv;have t:=gk (aZ (aw (f:=ze) (a:=ae 2) (b:=gC (I 1)) (ρ:=[Z (I fl),Z (.lst (mL x s::r.map (mL x))),Z (I b.r),Z (I b.n),Z (I (eN x b))]) (x:=I b.r) (M:=M) rfl rfl rfl)) λ_=>aZ (aw (f:=aV false) (a:=ae 0) (b:=gC (I 0)) (x:=I fl) rfl rfl (l5 fl 0 M))
  have run:∀{o},_=o->cO (eJ (ae 1)) (av (dE (bB [2,3,4]) (ow (zf 0 cC) (ae 1))) (cO (iS (aI (g2 ze (ae 2) (gC (I 1)))) (aI (g2 (aV false) (ae 0) (gC (I 0))))) (aK (ae 4)) aG)) aG [Z (I fl),Z (.lst (mL x s::r.map (mL x))),Y,Y,Y] M=o:=λ{o} ho=>((bH (M1:=M) rfl).trans (ao (pH (hg [Y,Y,Y]) rfl))).trans ho
  by_cases q:1<=b.r\/fl=0
  ·rw[if_pos q,bT (run ((bH (t.trans (by rw[<-Bool.decide_or,decide_eq_true q]))).trans (aO rfl)))];rfl
  ·rw[if_neg q,ao (run ((bp (t.trans (by rw[<-Bool.decide_or,decide_eq_false q]))).trans rfl))];rfl
mutual
theorem tU:∀(d:D) (n:Nat),bi n d=true->mJ d d=true
 | .non,n,h=>rfl
 | .bl a,n,h=>beq_self_eq_true a
 | .int a,n,h=>beq_self_eq_true a
 | .str a,n,h=>beq_self_eq_true a
 | .tup xs,n,h=>by
  cases n with
  | zero=>exact ff h
  | succ n=>exact m7 xs n h
 | .lst xs,n,h=>by
  cases n with
  | zero=>exact ff h
  | succ n=>exact m7 xs n h
 | .ro xs,n,h=>by
  cases n with
  | zero=>exact ff h
  | succ n=>exact m7 xs n h
 | .mr a,n,h=>by cases n <;> exact ff h
 | .exc a,n,h=>by cases n <;> exact ff h
 | .any,n,h=>by cases n <;> exact ff h
theorem m7:∀(ds:List D) (n:Nat),cD n ds=true->ki ds ds=true
 | [],n,h=>rfl
 | d::ds,n,h=>
  have h:=Bool.and_eq_true_iff.mp (show(bi n d&&cD n ds)=true from h)
  Bool.and_eq_true_iff.mpr ⟨tU d n h.1,m7 ds n h.2⟩
end
theorem dW {n:Nat}:∀{ds:List D},(∀d∈ds,bi n d=true)->cD n ds=true
 | [],_=>rfl
 | d::ds,h=>Bool.and_eq_true_iff.mpr ⟨h d mem_cons_self,dW λe he=>h e (mem_cons_of_mem _ he)⟩
def bx (lo hi:Int):D->Bool
 | .int i=>decide (lo<=i)&&decide (i<=hi)
 | _=>false
def nI (d:D):Prop:=∃t,Od d=Z t
def lr {g:GE}{d:D}(h:g ρ M=O d M):aC (aK g ρ M)=O d M:=by rw[aO h];rfl
def wv {a b c:GE}{z:Int}(ha:a ρ M=O (I x) M)(hb:b ρ M=O (I y) M)(hc:c ρ M=O (I z) M):qJ oj oj a b c ρ M=O (G (decide (x<=y)&&decide (y<=z))) M:=by
 unfold qJ;rw[ha,ah,hb,ah];show(aX.ok (D.bl (decide (x<=y))) M).bind _=_;rw[ah]
 by_cases q:x<=y
 ·rw[decide_eq_true q];dsimp only;rw[hc,ah];rfl
 ·rw[decide_eq_false q];rfl
def Sm:D->Bool
 | .int _=>true
 | _=>false
def dJ {d:D}{hi:Int}(h:nI d):bS [d,I lo,I hi] M=O (G (bx lo hi d)) M:=by
 obtain⟨t,ht⟩:=h;have w:nO [d] M=O (G (Sm d)) M:=by
  cases d <;> first|rfl|cases ht
 clear ht;show aC (jA [Z d,Z (I lo),Z (I hi)] M)=_;unfold jA;cases d with
 | int i=>exact lr (bR (y:=decide (lo<=i)&&decide (i<=hi)) (cG rfl w) λ_=>wv rfl rfl rfl)
 | _=>exact lr (bR (y:=false) (cG rfl w) λz=>by cases z)
theorem vB {p:D->Bool}:∀xs:List D,cU (xs.map λd=>D.bl (p d))=Z (xs.map p)
 | []=>rfl
 | x::xs=>by
  show(cU (xs.map λd=>D.bl (p d))).map (p x::·)=_;rw[vB xs];rfl
def xk (h:∀x∈xs,nI x)(hl:xs.length<=3000):br [U xs] M=O (G (decide (xs.length=2)&&xs.all (bx (-1000) 1000))) M:=by
 have e:decide ((xs.length:Int)=2)=decide (xs.length=2):=decide_eq_decide.mpr (by omega);rw[<-e];show aC (eG [Z (U xs)] M)=_;exact lr (bR (x:=true) rfl λ_=>bR (aw (x:=I xs.length) rfl rfl (l5 _ _ _)) λ_=>lV (jw rfl) (by omega) λx hx=>cq rfl rfl rfl (dJ (h x hx)))
def AO {d:D}(h:nI d):mq [d] M=O (G (bx 0 15 d)) M:=by
 exact lr (cq rfl rfl rfl (dJ h))
def zu {d:D}(h:nI d):mD [d] M=O (G (bx 0 63 d)) M:=by
 exact lr (cq rfl rfl rfl (dJ h))
def Bg {d:D}(h:nI d):jX [d] M=O (G (bx 0 3 d)) M:=by
 exact lr (cq rfl rfl rfl (dJ h))
def wq {d:D}(h:nI d):jY [d] M=O (G (bx 0 3 d)) M:=by
 exact lr (cq rfl rfl rfl (dJ h))
def FG (n:Nat):D->Bool
 | .non=>true
 | d=>bx 0 ((n:Int)-1) d
variable{bk:List D}
def vH {d:D}(h:nI d):dA [U bk,d] M=O (G (FG bk.length d)) M:=by
 have w:=dJ (lo:=0) (hi:=(bk.length:Int)-1) (M:=M) h;obtain⟨t,ht⟩:=h;show aC (eM [Z (U bk),Z d] M)=_;have w2:=cq (a:=ae 1) (b:=gC (I 0)) (c:=g2 eY (aQ bE (aa (ae 0) af)) (gC (I 1))) (ρ:=[Z (U bk),Z d]) rfl rfl rfl w;clear w;unfold eM;cases d with
 | non=>exact lr (JV (x:=true) (y:=true) rfl λz=>by cases z)
 | any=>cases ht
 | mr _=>cases ht
 | exc _=>cases ht
 | _=>exact lr (JV (x:=false) rfl λ_=>w2)
def yq:D->Bool
 | .tup xs=>xs.all (bx 0 15)
 | _=>false
def lW:D->Nat
 | .tup xs=>xs.length
 | _=>0
def gM (most:Int):D->Bool
 | .tup rows=>(decide (1<=rows.length)&&decide ((rows.length:Int)<=most))&&(rows.all yq&&((decide (1<=lW (rows.getD 0 .non))&&decide ((lW (rows.getD 0 .non):Int)<=most))&&rows.all λr=>decide (lW r=lW (rows.getD 0 .non))))
 | _=>false
def b9:Nat->D->Prop
 | 0,d=>nI d
 | n+1,d=>nI d/\∀xs,d=U xs->xs.length<=3000/\∀x∈xs,b9 n x
theorem b9.down:∀{n:Nat} {d:D},b9 (n+1) d->b9 n d
 | 0,_,h=>h.1
 | _+1,_,h=>⟨h.1,λxs e=>⟨(h.2 xs e).1,λx hx=>((h.2 xs e).2 x hx).down⟩⟩
def lZ:D->Bool
 | .tup _=>true
 | _=>false
def xw {d:D}(h:lZ d=true):∃y,d=U y:=by cases d <;> first|exact⟨_,rfl⟩|(cases h)
def iL {d:D}(h:nI d)(hv:ae i ρ M=O d M):jL "tuple" (ae i) ρ M=O (G (lZ d)) M:=by
 obtain⟨t,ht⟩:=h;unfold jL;rw[hv,ah];cases d <;> first|(simp[GX,Od,yB,lZ];done)|cases ht
def CB {d:D}(h:b9 1 d):kH [d] M=O (G (yq d)) M:=by
 have g1:=iL (i:=0) (ρ:=[Z d]) (M:=M) h.1 rfl;show aC (iR [Z d] M)=_;unfold iR;cases d with
 | tup xs=>
  have hx:=h.2 xs rfl;have a:=lV (ge:=ij) (p:=bx 0 15) (jw (i:=0) (ρ:=[Z (U xs)]) (M:=M) rfl) (by omega) λx hm=>by
   unfold ij;exact cG rfl (AO (hx.2 x hm))
  rw[aO (bR g1 λ_=>a)];rfl
 | _=>rw[aO (bR (y:=false) g1 λz=>by cases z)];rfl
def xP {d:D}(h:b9 2 d):gq [d,I most] M=O (G (gM most d)) M:=by
 have g1:=iL (i:=0) (ρ:=[Z d,Z (I most),Y]) (M:=M) h.1 rfl;show aC (gN [Z d,Z (I most),Y] M)=_;unfold gN;cases ht:lZ d with
 | false=>
  rw[ht] at g1;rw[bT ((bH (gk (y:=false) (bL (bv g1)) λz=>by cases z)).trans rfl)];clear g1;revert h ht;cases d <;> intro h ht <;> first|rfl|(cases ht)
 | true=>
  obtain⟨rows,rfl⟩:=xw ht;have hx:=h.2 rows rfl;have ln:aQ bE (aa (ae 0) af) [Z (U rows),Z (I most),Y] M=O (I rows.length) M:=rfl;have ch:qJ oj oj (gC (I 1)) (aQ bE (aa (ae 0) af)) (ae 1) [Z (U rows),Z (I most),Y] M=O (G (decide (1<=rows.length)&&decide ((rows.length:Int)<=most))) M:=by
   refine(wv rfl ln rfl).trans ?_;rw[show decide ((1:Int)<=(rows.length:Int))=decide (1<=rows.length) from decide_eq_decide.mpr (by omega)]
  have t1:=gk (bL (bv g1)) λ_=>bL (aZ ch)
  by_cases k:1<=rows.length/\(rows.length:Int)<=most
  ·have hk:(decide (1<=rows.length)&&decide ((rows.length:Int)<=most))=true:=by simp[k.1,k.2]
   rw[hk] at t1;rw[ao ((bp t1).trans rfl)];have a:=lV (ge:=fT) (p:=yq) (jw (i:=0) (ρ:=[Z (U rows),Z (I most),Y]) (M:=M) rfl) (by omega) λx hm=>by
    unfold fT;exact cG rfl (CB (hx.2 x hm))
   cases ha:rows.all yq with
   | false=>
    rw[ha] at a;have e:gM most (U rows)=false:=by simp[gM,ha]
    rw[bT ((bH (bL (bv a))).trans rfl),e];rfl
   | true=>
    rw[ha] at a;rw[ao ((bp (bL (bv a))).trans rfl)];cases rows with
    | nil=>exact absurd k.1 (by simp)
    | cons r0 rs=>
     have hr:=all_eq_true.mp ha;obtain⟨x0,e0⟩:∃x0,r0=U x0:=by
      have:=hr r0 mem_cons_self;cases r0 <;> first|exact⟨_,rfl⟩|cases this
     subst e0;have s2:aQ bE (aa (g2 bb (ae 0) (gC (I 0))) af) [Z (U (U x0::rs)),Z (I most),Y] M=O (I x0.length) M:=
      jQ (aw rfl rfl (cV (k:=0) rfl)) rfl
     rw[ao (aH s2)];have b:=lV (ge:=eE) (p:=λr=>decide (lW r=x0.length)) (jw (i:=0) (ρ:=[Z (U (U x0::rs)),Z (I most),Z (I x0.length)]) (M:=M) rfl) (by omega) λx hm=>by
      obtain⟨y,ey⟩:∃y,x=U y:=by
       have:=hr x hm;cases x <;> first|exact⟨_,rfl⟩|cases this
      subst ey;unfold eE;refine aw (y:=I x0.length) rfl rfl ((l5 _ _ _).trans ?_);congr 2;exact decide_eq_decide.mpr (by show _↔y.length=_;omega)
     have ch2:qJ oj oj (gC (I 1)) (ae 2) (ae 1) [Z (U (U x0::rs)),Z (I most),Z (I x0.length)] M=O (G (decide (1<=x0.length)&&decide ((x0.length:Int)<=most))) M:=by
      refine(wv (y:=x0.length) rfl rfl rfl).trans ?_;rw[show decide ((1:Int)<=(x0.length:Int))=decide (1<=x0.length) from decide_eq_decide.mpr (by omega)]
     have f:=aO (bR ch2 λ_=>b);have e:gM most (U (U x0::rs))=((decide (1<=x0.length)&&decide ((x0.length:Int)<=most))&&(D.tup x0::rs).all λr=>decide (lW r=x0.length)):=by
      show((decide (1<=(D.tup x0::rs).length)&&decide (((D.tup x0::rs).length:Int)<=most))&&((D.tup x0::rs).all yq&&_))=_;rw[hk,ha];rfl
     rw[e];show aC (aK (fg (qJ oj oj (gC (I 1)) (ae 2) (ae 1)) (aQ kL (aa (bq (cj (ae 0)) cb eE aP) af))) [Z (U (U x0::rs)),Z (I most),Z (I x0.length)] M)=_;rw[f];rfl
  ·have hk:(decide (1<=rows.length)&&decide ((rows.length:Int)<=most))=false:=by
    by_cases k1:1<=rows.length
    ·have:¬(rows.length:Int)<=most:=λz=>k ⟨k1,z⟩
     simp[this]
    ·simp[k1]
   rw[hk] at t1;have e:gM most (U rows)=false:=by
    show((decide (1<=rows.length)&&decide ((rows.length:Int)<=most))&&_)=false;rw[hk];rfl
   rw[bT ((bH t1).trans rfl),e];rfl
def Ar {d:D}(h:b9 2 d):nG [d] M=O (G (gM 8 d)) M:=by
 show aC (lC [Z d] M)=_;unfold lC;rw[aO (bh rfl rfl (xP h))];rfl
def qE:D->Bool
 | .tup xs=>decide (xs.length<=8)&&xs.all (gM 8)
 | _=>false
def Cq {d:D}(h:b9 3 d):p5 [d] M=O (G (qE d)) M:=by
 have g1:=iL (i:=0) (ρ:=[Z d]) (M:=M) h.1 rfl;show aC (m8 [Z d] M)=_;unfold m8;cases d with
 | tup xs=>
  have hx:=h.2 xs rfl;have l:g2 oj (aQ bE (aa (ae 0) af)) (gC (I 8)) [Z (U xs)] M=O (G (decide (xs.length<=8))) M:=by
   show aX.ok (D.bl (decide ((xs.length:Int)<=8))) M=_;congr 2;exact decide_eq_decide.mpr (by omega)
  have a:=lV (ge:=kZ) (p:=gM 8) (jw (i:=0) (ρ:=[Z (U xs)]) (M:=M) rfl) (by omega) λx hm=>by
   unfold kZ;exact cG rfl (Ar (hx.2 x hm))
  rw[aO (bR g1 λ_=>bR l λ_=>a)];rfl
 | _=>rw[aO (bR (y:=false) g1 λz=>by cases z)];rfl
def sU:D->Bool
 | .tup xs=>decide (xs.length=2)&&xs.all (bx (-1000) 1000)
 | _=>false
def G5 {d:D}(h:nI d)(ht:lZ d=false):br [d] M=O (G false) M:=by
 have g1:=iL (i:=0) (ρ:=[Z d]) (M:=M) h rfl;rw[ht] at g1;show aC (eG [Z d] M)=_;unfold eG;rw[aO (bR (y:=false) g1 λz=>by cases z)];rfl
def Co {d:D}(h:b9 1 d):br [d] M=O (G (sU d)) M:=by
 cases d with
 | tup xs=>exact xk (λx hx=>((h.2 xs rfl).2 x hx)) (h.2 xs rfl).1
 | _=>exact G5 h.1 rfl
def nX (nb:Nat):D->Bool
 | .tup [s,x,y,r,t]=>FG nb s&&((bx (-1000) 1000 x&&bx (-1000) 1000 y)&&(bx 0 3 r&&bx 0 3 t))
 | _=>false
def Ad {d:D}(h:b9 1 d):n5 [U bk,d] M=O (G (nX bk.length d)) M:=by
 have g1:=iL (i:=1) (ρ:=[Z (U bk),Z d,Y,Y,Y,Y,Y]) (M:=M) h.1 rfl;show aC (lF [Z (U bk),Z d,Y,Y,Y,Y,Y] M)=_;unfold lF;cases ht:lZ d with
 | false=>
  rw[ht] at g1;rw[bT ((bH (gk (y:=false) (bL (bv g1)) λz=>by cases z)).trans rfl)];clear g1;revert h ht;cases d <;> intro h ht <;> first|rfl|(cases ht)
 | true=>
  obtain⟨xs,rfl⟩:=xw ht;have hx:=h.2 xs rfl;have ne:g2 (aV true) (aQ bE (aa (ae 1) af)) (gC (I 5)) [Z (U bk),Z (U xs),Y,Y,Y,Y,Y] M=O (G (!decide ((xs.length:Int)=5))) M:=aw (y:=I 5) rfl rfl (wk _ _ _);have t1:=gk (bL (bv g1)) λ_=>aZ ne
  match xs,hx,t1 with
  | [s,x,y,r,t],hx,t1=>
   rw[ao ((bp t1).trans rfl)];have q:∀z∈[s,x,y,r,t],nI z:=λz hz=>hx.2 z hz
   have k1:=vH (bk:=bk) (M:=M) (q s (by simp));have k2:=xk (xs:=[x,y]) (M:=M) (λz hz=>q z (by rcases mem_cons.mp hz with h|h <;> simp_all)) (by simp);have k3:=Bg (M:=M) (q r (by simp));have k4:=wq (M:=M) (q t (by simp));have two:(2:Nat)<=sizeLine:=a7 (by decide);have asg:dE (bB [2,3,4,5,6]) (ae 1) [Z (U bk),Z (U [s,x,y,r,t]),Y,Y,Y,Y,Y] M=O (.nx [Z (U bk),Z (U [s,x,y,r,t]),Z s,Z x,Z y,Z r,Z t]) M:=rfl;rw[ao asg];have tp2:aD (aa (ae 3) (aa (ae 4) af)) [Z (U bk),Z (U [s,x,y,r,t]),Z s,Z x,Z y,Z r,Z t] M=O (U [x,y]) M:=by
    show(if [x,y].length<=sizeLine then aX.ok (D.tup [x,y]) M else .bad)=_;rw[if_pos (show [x,y].length<=sizeLine from two)]
   rw[aO (bR (bh (y:=s) rfl rfl k1) λ_=>bR (cG tp2 k2) λ_=>bR (cG rfl k3) λ_=>cG rfl k4)];show aX.ok (D.bl _) M=_;unfold nX;simp
  | [],_,t1=>rw[bT ((bH t1).trans rfl)];rfl
  | [_],_,t1=>rw[bT ((bH t1).trans rfl)];rfl
  | [_,_],_,t1=>rw[bT ((bH t1).trans rfl)];rfl
  | [_,_,_],_,t1=>rw[bT ((bH t1).trans rfl)];rfl
  | [_,_,_,_],_,t1=>rw[bT ((bH t1).trans rfl)];rfl
  | _::_::_::_::_::_::r,_,t1=>
   have z:(!decide (((r.length+1+1+1+1+1+1:Nat):Int)=5))=true:=by simp;omega
   simp only[length_cons] at t1;rw[z] at t1;rw[bT ((bH t1).trans rfl)];rfl
def kM (nb:Nat):D->Bool
 | .tup xs=>decide (xs.length<=12)&&xs.all (nX nb)
 | _=>false
def xu {d:D}(h:b9 2 d):kX [U bk,d] M=O (G (kM bk.length d)) M:=by
 have g1:=iL (i:=1) (ρ:=[Z (U bk),Z d]) (M:=M) h.1 rfl;show aC (iM [Z (U bk),Z d] M)=_;unfold iM;cases d with
 | tup xs=>
  have hx:=h.2 xs rfl;have l:g2 oj (aQ bE (aa (ae 1) af)) (gC (I 12)) [Z (U bk),Z (U xs)] M=O (G (decide (xs.length<=12))) M:=by
   show aX.ok (D.bl (decide ((xs.length:Int)<=12))) M=_;congr 2;exact decide_eq_decide.mpr (by omega)
  have a:=lV (ge:=hG) (p:=nX bk.length) (jw (i:=1) (ρ:=[Z (U bk),Z (U xs)]) (M:=M) rfl) (by omega) λx hm=>by
   unfold hG;exact bh (y:=x) rfl rfl (Ad (hx.2 x hm))
  rw[aO (bR g1 λ_=>bR l λ_=>a)];rfl
 | _=>rw[aO (bR (y:=false) g1 λz=>by cases z)];rfl
def si:D->Bool
 | .tup xs=>decide (xs.length=16)&&xs.all (bx 0 63)
 | _=>false
def zY {d:D}(h:b9 1 d):nV [d] M=O (G (si d)) M:=by
 have g1:=iL (i:=0) (ρ:=[Z d]) (M:=M) h.1 rfl;show aC (lD [Z d] M)=_;unfold lD;cases d with
 | tup xs=>
  have hx:=h.2 xs rfl;have l:g2 (aV false) (aQ bE (aa (ae 0) af)) (gC (I 16)) [Z (U xs)] M=O (G (decide (xs.length=16))) M:=by
   refine(aw (y:=I 16) rfl rfl (l5 _ _ _)).trans ?_;congr 2;exact decide_eq_decide.mpr (by omega)
  have a:=lV (ge:=jE) (p:=bx 0 63) (jw (i:=0) (ρ:=[Z (U xs)]) (M:=M) rfl) (by omega) λx hm=>by
   unfold jE;exact cG rfl (zu (hx.2 x hm))
  rw[aO (bR g1 λ_=>bR l λ_=>a)];rfl
 | _=>rw[aO (bR (y:=false) g1 λz=>by cases z)];rfl
def gZ:D->Bool
 | .tup [f,s,b,m,p]=>(gM 16 f&&(sU s&&si p))&&(qE b&&kM (lW b) m)
 | _=>false
def BN {d:D}(h:qE d=true):∃b,d=U b:=by
 cases d <;> first|exact⟨_,rfl⟩|cases h
def tz {d:D}(h:b9 4 d):nK [d] M=O (G (gZ d)) M:=by
 have g1:=iL (i:=0) (ρ:=[Z d,Y,Y,Y,Y,Y]) (M:=M) h.1 rfl;show aC (lh [Z d,Y,Y,Y,Y,Y] M)=_;unfold lh;cases ht:lZ d with
 | false=>
  rw[ht] at g1;rw[bT ((bH (gk (y:=false) (bL (bv g1)) λz=>by cases z)).trans rfl)];clear g1;revert h ht;cases d <;> intro h ht <;> first|rfl|(cases ht)
 | true=>
  obtain⟨xs,rfl⟩:=xw ht;have hx:=h.2 xs rfl;have ne:g2 (aV true) (aQ bE (aa (ae 0) af)) (gC (I 5)) [Z (U xs),Y,Y,Y,Y,Y] M=O (G (!decide ((xs.length:Int)=5))) M:=aw (y:=I 5) rfl rfl (wk _ _ _);have t1:=gk (bL (bv g1)) λ_=>aZ ne
  match xs,hx,t1 with
  | [f,s,b,m,p],hx,t1=>
   rw[ao ((bp t1).trans rfl)];have q:∀z∈[f,s,b,m,p],b9 3 z:=λz hz=>hx.2 z hz
   have k1:=xP (most:=16) (M:=M) (q f (by simp)).down;have k2:=Co (M:=M) (q s (by simp)).down.down;have k3:=zY (M:=M) (q p (by simp)).down.down;have k4:=Cq (M:=M) (q b (by simp));have asg:dE (bB [1,2,3,4,5]) (ae 0) [Z (U [f,s,b,m,p]),Y,Y,Y,Y,Y] M=O (.nx [Z (U [f,s,b,m,p]),Z f,Z s,Z b,Z m,Z p]) M:=rfl;rw[ao asg];have t2:=bL (jF (bv (bh (ρ:=[Z (U [f,s,b,m,p]),Z f,Z s,Z b,Z m,Z p]) (a:=ae 1) (b:=gC (I 16)) rfl rfl k1)) λ_=>jF (bv (cG (a:=ae 2) rfl k2)) λ_=>bv (cG (a:=ae 5) rfl k3));cases hk:(gM 16 f&&(sU s&&si p)) with
   | false=>
    rw[hk] at t2;rw[bT ((bH t2).trans rfl)];have e:gZ (U [f,s,b,m,p])=false:=by
     simp[gZ,hk]
    rw[e];rfl
   | true=>
    rw[hk] at t2;rw[ao ((bp t2).trans rfl)];cases hb:qE b with
    | false=>
     rw[hb] at k4;rw[aO (bR (y:=false) (cG (a:=ae 3) rfl k4) λz=>by cases z)];have e:gZ (U [f,s,b,m,p])=false:=by
      simp[gZ,hb]
     rw[e];rfl
    | true=>
     obtain⟨bs,rfl⟩:=BN hb;have k5:=xu (bk:=bs) (M:=M) (q m (by simp)).down;rw[hb] at k4;rw[aO (bR (cG (a:=ae 3) rfl k4) λ_=>bh (a:=ae 3) (b:=ae 4) rfl rfl k5)];have e:gZ (U [f,s,U bs,m,p])=kM bs.length m:=by
      simp[gZ,hk,hb,lW]
     rw[e];rfl
  | [],_,t1=>rw[bT ((bH t1).trans rfl)];rfl
  | [_],_,t1=>rw[bT ((bH t1).trans rfl)];rfl
  | [_,_],_,t1=>rw[bT ((bH t1).trans rfl)];rfl
  | [_,_,_],_,t1=>rw[bT ((bH t1).trans rfl)];rfl
  | [_,_,_,_],_,t1=>rw[bT ((bH t1).trans rfl)];rfl
  | _::_::_::_::_::_::r,_,t1=>
   have z:(!decide (((r.length+1+1+1+1+1+1:Nat):Int)=5))=true:=by simp;omega
   simp only[length_cons] at t1;rw[z] at t1;rw[bT ((bH t1).trans rfl)];rfl
def cy {hi i:Int}(h:lo<=i/\i<=hi):bx lo hi (I i)=true:=by simp[bx,h.1,h.2]
def sN {hi:Int}{r:List Int}(h:∀k∈r,lo<=k/\k<=hi):(r.map I).all (bx lo hi)=true:=by
 rw[all_map];exact all_eq_true.mpr λk hk=>cy (h k hk)
def ux (h:oZ most rs):gM most (aF rs)=true:=by
 obtain⟨h1,h2,w,h3,h4,h5⟩:=h;have hr:∀r∈rs.map λr=>D.tup (r.map I),yq r=true/\lW r=w:=λr hr=>by
  obtain⟨q,hq,rfl⟩:=mem_map.mp hr;exact⟨sN (h5 q hq).2,by show(q.map I).length=w;rw[length_map];exact(h5 q hq).1⟩
 have l:(rs.map λr=>D.tup (r.map I)).length=rs.length:=length_map ..;unfold aF;generalize (rs.map λr=>D.tup (r.map I))=ds at *;cases ds with
 | nil=>simp at l;omega
 | cons d0 dr=>
  have e0:=(hr d0 mem_cons_self).2;show((decide (1<=(d0::dr).length)&&decide (((d0::dr).length:Int)<=most))&&((d0::dr).all yq&&((decide (1<=lW d0)&&decide ((lW d0:Int)<=most))&&(d0::dr).all λr=>decide (lW r=lW d0))))=true;have a1:(d0::dr).all yq=true:=all_eq_true.mpr λr h=>(hr r h).1
  have a2:((d0::dr).all λr=>decide (lW r=lW d0))=true:=all_eq_true.mpr λr h=>decide_eq_true (by rw[(hr r h).2,e0])
  rw[a1,a2,e0,l];simp[h1,h2,h3,h4]
def b9.int {i:Int}:b9 n (I i):=by
 cases n with
 | zero=>exact⟨_,rfl⟩
 | succ n=>exact⟨⟨_,rfl⟩,λxs e=>by cases e⟩
def b9.tup (hl:xs.length<=3000)(h:∀x∈xs,b9 n x):b9 (n+1) (U xs):=
 ⟨⟨_,rfl⟩,λys e=>by cases e;exact⟨hl,h⟩⟩
def vf (hm:most<=3000)(h:oZ most rs):b9 (n+2) (aF rs):=by
 obtain⟨h1,h2,w,h3,h4,h5⟩:=h;refine b9.tup (by rw[length_map];omega) λx hx=>?_
 obtain⟨r,hr,rfl⟩:=mem_map.mp hx;refine b9.tup (by rw[length_map,(h5 r hr).1];omega) λx hx=>?_
 obtain⟨k,_,rfl⟩:=mem_map.mp hx;exact b9.int
def Ah (m:Mv):b9 (n+1) m.d:=by
 refine b9.tup (by simp) λx hx=>?_
 have hx:x∈[(match m.shape with|some k=>I k|none=>.non),I m.x,I m.y,I m.rank,I m.turn]:=hx;simp only[mem_cons,not_mem_nil,or_false] at hx;rcases hx with rfl|rfl|rfl|rfl|rfl
 ·cases m.shape with
  | some k=>exact b9.int
  | none=>
   cases n with
   | zero=>exact⟨_,rfl⟩
   | succ n=>exact⟨⟨_,rfl⟩,λxs e=>by cases e⟩
 all_goals exact b9.int
def oU (ok:bO mm s)(hm:mm<=900):b9 4 s.d:=by
 refine b9.tup (by simp) λx hx=>?_
 have hx:x∈[aF s.floor,U [I s.sx,I s.sy],U (s.book.map aF),U (s.movers.map Mv.d),U (s.pots.map I)]:=hx;simp only[mem_cons,not_mem_nil,or_false] at hx;rcases hx with rfl|rfl|rfl|rfl|rfl
 ·exact vf (by decide) ok.floor
 ·refine b9.tup (by simp) λx hx=>?_
  simp only[mem_cons,not_mem_nil,or_false] at hx;rcases hx with rfl|rfl <;> exact b9.int
 ·refine b9.tup (by rw[length_map];have:=ok.bl;omega) λx hx=>?_
  obtain⟨b,hb,rfl⟩:=mem_map.mp hx;exact vf (by decide) (ok.book b hb)
 ·refine b9.tup (by rw[length_map];have:=ok.ml;omega) λx hx=>?_
  obtain⟨m,_,rfl⟩:=mem_map.mp hx;exact Ah m
 ·refine b9.tup (by rw[length_map];have:=ok.pl;omega) λx hx=>?_
  obtain⟨k,_,rfl⟩:=mem_map.mp hx;exact b9.int
def DF {m:Mv}(h:zP n m):nX n m.d=true:=by
 have e:FG n (match m.shape with|some k=>I k|none=>.non)=true:=by
  cases hs:m.shape with
  | none=>rfl
  | some k=>
   have:=h.s k hs;exact cy (lo:=0) (hi:=(n:Int)-1) (i:=(k:Int)) ⟨by omega,by omega⟩
 show(FG n (match m.shape with|some k=>I k|none=>.non)&&_)=true;rw[e,cy h.x,cy h.y,cy h.r,cy h.t];rfl
def tY (ok:bO mm s)(hm:mm<=12):gZ s.d=true:=by
 have f:=ux ok.floor;have p:sU (U [I s.sx,I s.sy])=true:=by
  show(true&&([I s.sx,I s.sy].all (bx (-1000) 1000)))=true;simp[cy ok.sx,cy ok.sy]
 have po:si (U (s.pots.map I))=true:=by
  show(decide ((s.pots.map I).length=16)&&(s.pots.map I).all (bx 0 63))=true;rw[sN ok.pots,length_map,ok.pl];rfl
 have b:qE (U (s.book.map aF))=true:=by
  show(decide ((s.book.map aF).length<=8)&&(s.book.map aF).all (gM 8))=true;have:(s.book.map aF).all (gM 8)=true:=all_eq_true.mpr λx hx=>by
   obtain⟨q,hq,rfl⟩:=mem_map.mp hx;exact ux (ok.book q hq)
  rw[this,length_map];simp[ok.bl]
 have m:kM (lW (U (s.book.map aF))) (U (s.movers.map Mv.d))=true:=by
  show(decide ((s.movers.map Mv.d).length<=12)&&(s.movers.map Mv.d).all (nX (s.book.map aF).length))=true;have:(s.movers.map Mv.d).all (nX (s.book.map aF).length)=true:=all_eq_true.mpr λx hx=>by
   obtain⟨q,hq,rfl⟩:=mem_map.mp hx;rw[length_map];exact DF (ok.movers q hq)
  have l:s.movers.length<=12:=by have:=ok.ml;omega
  rw[this,length_map];simp[l]
 show((gM 16 (aF s.floor)&&(sU (U [I s.sx,I s.sy])&&si (U (s.pots.map I))))&&(qE (U (s.book.map aF))&&kM (lW (U (s.book.map aF))) (U (s.movers.map Mv.d))))=true;rw[f,p,po,b,m];rfl
def mQ:D->Bool
 | .tup [w,h,g,m]=>bx 1 40 w&&(bx 1 40 h&&(bx 0 20 g&&bx 0 12 m))
 | _=>false
def nQ {d:D}(h:b9 1 d):oh [d] M=O (G (mQ d)) M:=by
 have g1:=iL (i:=0) (ρ:=[Z d,Y,Y,Y,Y]) (M:=M) h.1 rfl;show aC (kR [Z d,Y,Y,Y,Y] M)=_;unfold kR;cases ht:lZ d with
 | false=>
  rw[ht] at g1;rw[bT ((bH (gk (y:=false) (bL (bv g1)) λz=>by cases z)).trans rfl)];clear g1;revert h ht;cases d <;> intro h ht <;> first|rfl|(cases ht)
 | true=>
  obtain⟨xs,rfl⟩:=xw ht;have hx:=h.2 xs rfl;have ne:g2 (aV true) (aQ bE (aa (ae 0) af)) (gC (I 4)) [Z (U xs),Y,Y,Y,Y] M=O (G (!decide ((xs.length:Int)=4))) M:=aw (y:=I 4) rfl rfl (wk _ _ _);have t1:=gk (bL (bv g1)) λ_=>aZ ne
  match xs,hx,t1 with
  | [w,h,g,m],hx,t1=>
   rw[ao ((bp t1).trans rfl)];have q:∀z∈[w,h,g,m],nI z:=λz hz=>hx.2 z hz
   have k1:=dJ (lo:=1) (hi:=40) (M:=M) (q w (by simp));have k2:=dJ (lo:=1) (hi:=40) (M:=M) (q h (by simp));have k3:=dJ (lo:=0) (hi:=20) (M:=M) (q g (by simp));have k4:=dJ (lo:=0) (hi:=12) (M:=M) (q m (by simp));have asg:dE (bB [1,2,3,4]) (ae 0) [Z (U [w,h,g,m]),Y,Y,Y,Y] M=O (.nx [Z (U [w,h,g,m]),Z w,Z h,Z g,Z m]) M:=rfl;rw[ao asg];rw[aO (bR (cq (y:=I 1) (z:=I 40) rfl rfl rfl k1) λ_=>bR (cq (y:=I 1) (z:=I 40) rfl rfl rfl k2) λ_=>bR (cq (y:=I 0) (z:=I 20) rfl rfl rfl k3) λ_=>cq (y:=I 0) (z:=I 12) rfl rfl rfl k4)];rfl
  | [],_,t1=>rw[bT ((bH t1).trans rfl)];rfl
  | [_],_,t1=>rw[bT ((bH t1).trans rfl)];rfl
  | [_,_],_,t1=>rw[bT ((bH t1).trans rfl)];rfl
  | [_,_,_],_,t1=>rw[bT ((bH t1).trans rfl)];rfl
  | _::_::_::_::_::r,_,t1=>
   have z:(!decide (((r.length+1+1+1+1+1:Nat):Int)=4))=true:=by simp;omega
   simp only[length_cons] at t1;rw[z] at t1;rw[bT ((bH t1).trans rfl)];rfl
structure gR (w h g m:Int):Prop where
 w:1<=w/\w<=40
 h:1<=h/\h<=40
 g:0<=g/\g<=20
 m:0<=m/\m<=12
def bc (w h g m:Int):D:=U [I w,I h,I g,I m]
variable{h:Int}
def rW {w:Int}(k:gR w h g m):mQ (bc w h g m)=true:=by
 show(bx 1 40 (I w)&&(bx 1 40 (I h)&&(bx 0 20 (I g)&&bx 0 12 (I m))))=true;rw[cy k.w,cy k.h,cy k.g,cy k.m];rfl
def lq {w:Int}:b9 (n+1) (bc w h g m):=by
 refine b9.tup (by simp) λx hx=>?_
 simp only[mem_cons,not_mem_nil,or_false] at hx;rcases hx with rfl|rfl|rfl|rfl <;> exact b9.int
def uF {f s:D}(hf:b9 1 f)(hs:b9 4 s)(bf:mQ f=true)(bs:gZ s=true):aE [f,s] M=O .non M:=by
 have k1:=nQ (M:=M) hf;have k2:=tz (M:=M) hs;rw[bf] at k1;rw[bs] at k2;show aC (cF [Z f,Z s] M)=_;unfold cF;rw[ao ((bp (bL (bv (cG rfl k1)))).trans rfl),bp (bL (bv (cG rfl k2)))];rfl
def va {f s:D}(hf:b9 1 f)(bf:mQ f=false):aE [f,s] M=.err "NoFrame" M:=by
 have k1:=nQ (M:=M) hf;rw[bf] at k1;show aC (cF [Z f,Z s] M)=_;unfold cF;rw[vE ((bH (bL (bv (cG rfl k1)))).trans rfl)];rfl
def vc {f s:D}(hf:b9 1 f)(hs:b9 4 s)(bf:mQ f=true)(bs:gZ s=false):aE [f,s] M=.err "NoStand" M:=by
 have k1:=nQ (M:=M) hf;have k2:=tz (M:=M) hs;rw[bf] at k1;rw[bs] at k2;show aC (cF [Z f,Z s] M)=_;unfold cF;rw[ao ((bp (bL (bv (cG rfl k1)))).trans rfl),bH (bL (bv (cG rfl k2)))];rfl
def ue (xs:List D)(k:Nat):g5 xs (Z (k:Int)) Y=xs.drop k:=by
 unfold g5;rw[HT.sIx_nat,HT.sIx_none]
 by_cases h:k<=xs.length
 ·rw[Nat.min_eq_left h];exact take_of_length_le (by simp)
 ·rw[Nat.min_eq_right (by omega),drop_eq_nil_of_le (Nat.le_refl _),drop_eq_nil_of_le (by omega),take_nil]
def rT (xs:List D)(k:Nat):g5 xs Y (Z (k:Int))=xs.take k:=by
 unfold g5;rw[HT.sIx_nat,HT.sIx_none,drop_zero,Nat.sub_zero]
 by_cases h:k<=xs.length
 ·rw[Nat.min_eq_left h]
 ·rw[Nat.min_eq_right (by omega),take_of_length_le (Nat.le_refl _),take_of_length_le (by omega)]
inductive Dd where
 | shift (x y:Int)|pot (k h:Int)|move (i:Nat) (x y:Int)|shape (i:Nat) (o:Option Nat)|rank (i:Nat) (r:Int)|turn (i:Nat) (t:Int)
def rX (o:Option Nat):D:=match o with|some k=>I k|none=>.non
def Dd.d:Dd->D
 | .shift x y=>U [S "shift",I x,I y]
 | .pot k h=>U [S "pot",I k,I h]
 | .move i x y=>U [S "move",I i,I x,I y]
 | .shape i o=>U [S "shape",I i,rX o]
 | .rank i r=>U [S "rank",I i,I r]
 | .turn i t=>U [S "turn",I i,I t]
def jq (s:cS):Dd->Prop
 | .shift x y=>(-1000<=x/\x<=1000)/\(-1000<=y/\y<=1000)
 | .pot k h=>(0<=k/\k<=15)/\(0<=h/\h<=63)
 | .move i x y=>i<s.movers.length/\(-1000<=x/\x<=1000)/\(-1000<=y/\y<=1000)
 | .shape i o=>i<s.movers.length/\∀k,o=Z k->k<s.book.length
 | .rank i r=>i<s.movers.length/\(0<=r/\r<=3)
 | .turn i t=>i<s.movers.length/\(0<=t/\t<=3)
def iB (s:cS)(i:Nat)(f:Mv->Mv):cS:=match s.movers[i]? with
 | some m=>{s with movers:=s.movers.set i (f m)}
 | none=>s
def fq (s:cS):Dd->cS
 | .shift x y=>{s with sx:=x,sy:=y}
 | .pot k h=>{s with pots:=s.pots.set k.toNat h}
 | .move i x y=>iB s i λm=>{m with x:=x,y:=y}
 | .shape i o=>iB s i λm=>{m with shape:=o}
 | .rank i r=>iB s i λm=>{m with rank:=r}
 | .turn i t=>iB s i λm=>{m with turn:=t}
def xo (x:Int):nI (I x):=⟨_,rfl⟩
def wB {hi:Int}(h:lo<=x/\x<=hi):bx lo hi (I x)=true:=by
 show(decide (lo<=x)&&decide (x<=hi))=true;rw[decide_eq_true h.1,decide_eq_true h.2];rfl
def BJ (hx:-1000<=x/\x<=1000)(hy:-1000<=y/\y<=1000):br [U [I x,I y]] M=O (G true) M:=by
 rw[xk (λd hd=>by
  rcases mem_cons.mp hd with e|e
  ·rw[e];exact xo x
  ·rw[mem_singleton.mp e];exact xo y) (by simp)]
 rw[all_cons,all_cons,wB hx,wB hy];rfl
variable{w:Str}{o:aX Fl}{r:List D}
def AW (hi:i<s.movers.length)
  (h:av (cO (aI (g2 (aV false) (ae 1) (gC (S "move")))) (aK (aj 1 br (aa (oo (ae 2) (dg (gC (I 1))) bu) af))) aG) (av (cO (aI (g2 (aV true) (aQ bE (aa (ae 2) af)) (gC (I 2)))) (aK (gC (G false))) aG) (av (cO (aI (g2 (aV false) (ae 1) (gC (S "shape")))) (aK (aj 2 dA (aa (ae 5) (aa (g2 bb (ae 2) (gC (I 1))) af)))) aG) (av (cO (aI (g2 (aV false) (ae 1) (gC (S "rank")))) (aK (aj 1 jX (aa (g2 bb (ae 2) (gC (I 1))) af))) aG) (aK (fg (g2 (aV false) (ae 1) (gC (S "turn"))) (aj 1 jY (aa (g2 bb (ae 2) (gC (I 1))) af)))))))
   [Z s.d,Z (S w),Z (U (I i::r)),Z (aF s.floor),Z (U [I s.sx,I s.sy]),Z (U (s.book.map aF)),Z (U (s.movers.map Mv.d)),Z (U (s.pots.map I))] M=o) :
  fN [s.d,S w,U (I i::r)] M=aC o:=by
 show aC (fO [Z s.d,Z (S w),Z (U (I i::r)),Y,Y,Y,Y,Y] M)=_;unfold fO;rw[ao (show dE (bB [3,4,5,6,7]) (ae 0) [Z s.d,Z (S w),Z (U (I i::r)),Y,Y,Y,Y,Y] M=O (.nx [Z s.d,Z (S w),Z (U (I i::r)),Z (aF s.floor),Z (U [I s.sx,I s.sy]),Z (U (s.book.map aF)),Z (U (s.movers.map Mv.d)),Z (U (s.pots.map I))]) M from rfl)];have ln:aQ bE (aa (ae 6) af) [Z s.d,Z (S w),Z (U (I i::r)),Z (aF s.floor),Z (U [I s.sx,I s.sy]),Z (U (s.book.map aF)),Z (U (s.movers.map Mv.d)),Z (U (s.pots.map I))] M=O (I (s.movers.length:Int)) M:=by
  refine jQ rfl ?_;show aX.ok (I ((s.movers.map Mv.d).length:Int)) M=_;rw[length_map]
 have w1:=dJ (lo:=0) (hi:=(s.movers.length:Int)-1) (M:=M) (xo i);rw[wB ⟨by omega,by omega⟩] at w1;rw[ao ((bp (bL (bv (cq (aw rfl rfl (cV (k:=0) rfl)) rfl (aw ln rfl rfl) w1)))).trans rfl),h]
def SF {v:Str}{M:az}(k:(PyData.strOk w&&PyData.strOk v&&(decide (w=v)==b))=true:=by decide +kernel):aV false (S w) (S v) M=O (G b) M:=by
 obtain⟨k1,k3⟩:=Bool.and_eq_true_iff.mp k;obtain⟨k1,k2⟩:=Bool.and_eq_true_iff.mp k1;have k3:=beq_iff_eq.mp k3;subst k3;have c:∀x:Str,PyData.strOk x=true->bi 40 (S x)=true:=λx h=>by simpa using h
 unfold aV;show(if(bi 40 (S w)&&bi 40 (S v))=true then aX.ok (D.bl (mJ (S w) (S v) != false)) M else .bad)=_;rw[c w k1,c v k2,if_pos (by rfl)];have e:mJ (S w) (S v)=decide (w=v):=by rw[Bool.eq_iff_iff];simp
 rw[e,Bool.bne_false]
def tW {v:Str}{M:az}(h:ρ[n]?=Z (Z (S w)))(k:(PyData.strOk w&&PyData.strOk v&&(decide (w=v)==b))=true:=by decide +kernel):aI (g2 (aV false) (ae n) (gC (S v))) ρ M=O b M:=by
 refine aZ (aw ?_ rfl (SF k));unfold ae;rw[h]
def GZ:GS:=(av (cO (aI (g2 (aV false) (ae 2) (gC (S "shift")))) (aK (aj 1 br (aa (ae 3) af))) aG) (av (cO (aI (g2 (aV false) (ae 2) (gC (S "pot")))) (aK (fg (g2 (aV false) (aQ bE (aa (ae 3) af)) (gC (I 2))) (fg (aj 1 mq (aa (g2 bb (ae 3) (gC (I 0))) af)) (aj 1 mD (aa (g2 bb (ae 3) (gC (I 1))) af))))) aG) (aK (aj 3 fN (aa (ae 0) (aa (ae 2) (aa (ae 3) af)))))))
theorem Cf {s:D}{a b:D}:aS [s,U [S w,a,b]] M=aC (GZ [Z s,Z (U [S w,a,b]),Z (S w),Z (U [a,b])] M):=rfl
theorem Sy {s:D}{a b c:D}:aS [s,U [S w,a,b,c]] M=aC (GZ [Z s,Z (U [S w,a,b,c]),Z (S w),Z (U [a,b,c])] M):=rfl
def K6 {o:Option Nat}(h:∀k,o=Z k->k<n):FG n (rX o)=true:=by
 cases o with
 | none=>rfl
 | some k=>
  have:=h k rfl;show(decide ((0:Int)<=(k:Int))&&decide ((k:Int)<=(n:Int)-1))=true;rw[decide_eq_true (by omega),decide_eq_true (by omega)];rfl
def NS (o:Option Nat):nI (rX o):=by cases o <;> exact⟨_,rfl⟩
variable{dd:Dd}
def pR (h:jq s dd):aS [s.d,dd.d] M=O (G true) M:=by
 cases dd with
 | shift x y=>
  show aS [s.d,U [S "shift",I x,I y]] M=_;rw[Cf];unfold GZ;rw[bT ((bH (tW rfl)).trans (aO (cG rfl (BJ h.1 h.2))))];rfl
 | pot k hu=>
  have k1:=AO (M:=M) (xo k);have k2:=zu (M:=M) (xo hu);rw[wB h.1] at k1;rw[wB h.2] at k2;show aS [s.d,U [S "pot",I k,I hu]] M=_;rw[Cf];unfold GZ;rw[ao ((bp (tW rfl)).trans rfl),bT ((bH (tW rfl)).trans (aO (bR (x:=true) rfl λ_=>bR (x:=true) (cG rfl k1) λ_=>cG rfl k2)))];rfl
 | move i x y=>
  have md:=AW (s:=s) (w:="move") (r:=[I x,I y]) (M:=M) h.1 (bT ((bH (tW rfl)).trans (aO (cG (x:=U [I x,I y]) rfl (BJ h.2.1 h.2.2)))));show aS [s.d,U [S "move",I i,I x,I y]] M=_;rw[Sy];unfold GZ;rw[ao ((bp (tW rfl)).trans rfl),ao ((bp (tW rfl)).trans rfl),aO (cq rfl rfl rfl md)];rfl
 | shape i o=>
  have nn:=vH (bk:=s.book.map aF) (M:=M) (NS o);rw[length_map,K6 h.2] at nn;have md:=AW (s:=s) (w:="shape") (r:=[rX o]) (M:=M) h.1 ((ao ((bp (tW rfl)).trans rfl)).trans ((ao ((bp (M1:=M) rfl).trans rfl)).trans (bT ((bH (tW rfl)).trans (aO (bh rfl rfl nn))))));show aS [s.d,U [S "shape",I i,rX o]] M=_;rw[Cf];unfold GZ;rw[ao ((bp (tW rfl)).trans rfl),ao ((bp (tW rfl)).trans rfl),aO (cq rfl rfl rfl md)];rfl
 | rank i r=>
  have nn:=Bg (M:=M) (xo r);rw[wB h.2] at nn;have md:=AW (s:=s) (w:="rank") (r:=[I r]) (M:=M) h.1 ((ao ((bp (tW rfl)).trans rfl)).trans ((ao ((bp (M1:=M) rfl).trans rfl)).trans ((ao ((bp (tW rfl)).trans rfl)).trans (bT ((bH (tW rfl)).trans (aO (cG (x:=I r) rfl nn)))))));show aS [s.d,U [S "rank",I i,I r]] M=_;rw[Cf];unfold GZ;rw[ao ((bp (tW rfl)).trans rfl),ao ((bp (tW rfl)).trans rfl),aO (cq rfl rfl rfl md)];rfl
 | turn i r=>
  have nn:=wq (M:=M) (xo r);rw[wB h.2] at nn;have md:=AW (s:=s) (w:="turn") (r:=[I r]) (M:=M) h.1 ((ao ((bp (tW rfl)).trans rfl)).trans ((ao ((bp (M1:=M) rfl).trans rfl)).trans ((ao ((bp (tW rfl)).trans rfl)).trans ((ao ((bp (tW rfl)).trans rfl)).trans (aO (bR (x:=true) (aw (x:=S "turn") rfl rfl SF) λ_=>cG (x:=I r) rfl nn))))));show aS [s.d,U [S "turn",I i,I r]] M=_;rw[Cf];unfold GZ;rw[ao ((bp (tW rfl)).trans rfl),ao ((bp (tW rfl)).trans rfl),aO (cq rfl rfl rfl md)];rfl
def C4 (m:Mv):m.d=U [rX m.shape,I m.x,I m.y,I m.rank,I m.turn]:=by
 unfold Mv.d rX;cases m.shape <;> rfl
def Hq {i:Int}(M:az):gV (I i) (I 2) M=O (I (i % 2)) M:=by
 simp_arith [show Nat.log2 2<9000 by decide]
def Am {w:Int}(ok:bO mm s)(hm:mm<=900)(hw:0<=w/\w<=900)(hh2:0<=hh/\hh<=900)(hM:bU l rest M) :
  ∃dd M',jq s dd/\bU l rest M'/\mj [R 0,U (I w::I hh::more),s.d] M=O dd.d M':=by
 obtain⟨way,M1,a1,b1,t1,e1⟩:=aY (many:=8) (by decide) (aJ (by decide) (by decide)) hM;have ml:=ok.ml;have cm:cD 39 (s.movers.map Mv.d)=true:=dW λd hd=>by
  obtain⟨m,_,rfl⟩:=mem_map.mp hd;rw[C4];have:bi 38 (rX m.shape)=true:=by cases m.shape <;> rfl
  simp[this]
 have en:mJ (U (s.movers.map Mv.d)) (U [])=decide (s.movers=[]):=by
  cases s.movers <;> simp
 have tq:aI (g2 (aV false) (g2 bb (ae 2) (gC (I 3))) (aD af)) [Z (R 0),Z (U (I w::I hh::more)),Z s.d,Z (I way),Y,Y,Y] M1=O (decide (s.movers=[])) M1:=by
  refine aZ (aw rfl (bg (ds:=[]) rfl) ?_);unfold aV;show(if(cD 39 (s.movers.map Mv.d)&&true)=true then aX.ok (D.bl (mJ (U (s.movers.map Mv.d)) (U []) != false)) M1 else .bad)=_;rw[cm,if_pos (by rfl),en,Bool.bne_false]
 have tst:iS (aI (g2 qK (ae 3) (gC (I 2)))) (aI (g2 (aV false) (g2 bb (ae 2) (gC (I 3))) (aD af))) [Z (R 0),Z (U (I w::I hh::more)),Z s.d,Z (I way),Y,Y,Y] M1=O (decide (way<2)||decide (s.movers=[])) M1:=gk (aZ rfl) λ_=>tq
 show∃dd M',jq s dd/\bU l rest M'/\aC (jJ [Z (R 0),Z (U (I w::I hh::more)),Z s.d,Y,Y,Y,Y] M)=O dd.d M';unfold jJ;rw[ao (aH (bh rfl rfl e1))]
 by_cases hc:way<2\/s.movers=[]
 ·obtain⟨x,M2,a2,t2,e2⟩:=qh (size:=9) (by decide) (by decide) t1;obtain⟨y,M3,a3,t3,e3⟩:=qh (size:=9) (by decide) (by decide) t2;obtain⟨k,M4,a4,b4,t4,e4⟩:=aY (many:=16) (by decide) (aJ (by decide) (by decide)) t3;obtain⟨hu,M5,a5,b5,t5,e5⟩:=aY (many:=64) (by decide) (aJ (by decide) (by decide)) t4;have tt:(decide (way<2)||decide (s.movers=[]))=true:=by
   rcases hc with q|q
   ·rw[decide_eq_true q];rfl
   ·rw[decide_eq_true q,Bool.or_true]
  rw[tt] at tst;obtain⟨dd,hd,kd⟩:∃dd:Dd,pN [(Dd.shift x y).d,(Dd.pot k hu).d] (way % 2)=Z dd.d/\jq s dd:=by
   have w2:way % 2=0\/way % 2=1:=by omega
   rcases w2 with w2|w2 <;> rw[w2]
   ·exact⟨.shift x y,rfl,a2,a3⟩
   ·exact⟨.pot k hu,rfl,⟨a4,by omega⟩,a5,by omega⟩
  refine⟨dd,M5,kd,t5,?_⟩;exact(congrArg aC (bT ((bH tst).trans ((ao (aH (eL (ds:=[(Dd.shift x y).d,(Dd.pot k hu).d]) (ay (bg (ds:=[S "shift",I x,I y]) (ay rfl (ay (bh rfl rfl e2) (ay (bh rfl rfl e3) rfl)))) (ay (bg (ds:=[S "pot",I k,I hu]) (ay rfl (ay (bh rfl rfl e4) (ay (bh rfl rfl e5) rfl)))) rfl))))).trans (aO (aw rfl (aw rfl rfl (Hq M5)) (ve hd))))))).trans rfl
 ·have h2:¬way<2:=λz=>hc (.inl z)
  have h0:¬s.movers=[]:=λz=>hc (.inr z)
  have hp:0<s.movers.length:=length_pos_iff.mpr h0;rw[decide_eq_false h2,decide_eq_false h0] at tst;obtain⟨n,M2,a2,b2,t2,e2⟩:=aY (many:=(s.movers.length:Int)) (by omega) (aJ (by omega) (by omega)) t1;obtain⟨m,M3,mo,t3,e3⟩:=yG (more:=more) (n:=s.book.length) hw hh2 (by have:=ok.bl;omega) t2;obtain⟨i,rfl⟩:=Int.eq_ofNat_of_zero_le a2;have hi:i<s.movers.length:=by omega
  have ln3:aQ bE (aa (g2 bb (ae 2) (gC (I 3))) af) [Z (R 0),Z (U (I w::I hh::more)),Z s.d,Z (I way),Y,Y,Y] M1=O (I (s.movers.length:Int)) M1:=by
   refine jQ rfl ?_;show aX.ok (I ((s.movers.map Mv.d).length:Int)) M1=_;rw[length_map]
  have ln2:aQ bE (aa (g2 bb (ae 2) (gC (I 2))) af) [Z (R 0),Z (U (I w::I hh::more)),Z s.d,Z (I way),Y,Z (I i),Y] M2=O (I (s.book.length:Int)) M2:=by
   refine jQ rfl ?_;show aX.ok (I ((s.book.map aF).length:Int)) M2=_;rw[length_map]
  show∃dd M',jq s dd/\bU l rest M'/\aC (av _ _ [Z (R 0),Z (U (I w::I hh::more)),Z s.d,Z (I way),Y,Y,Y] M1)=O dd.d M';rw[ao ((bp tst).trans rfl),ao (aH (bh rfl ln3 e2))];show∃dd M',jq s dd/\bU l rest M'/\aC (av _ _ [Z (R 0),Z (U (I w::I hh::more)),Z s.d,Z (I way),Y,Z (I i),Y] M2)=O dd.d M';rw[ao (aH (cq rfl rfl ln2 e3))];show∃dd M',jq s dd/\bU l rest M'/\aC (av _ _ [Z (R 0),Z (U (I w::I hh::more)),Z s.d,Z (I way),Y,Z (I i),Z m.d] M3)=O dd.d M'
  by_cases h5:way<5
  ·refine⟨.move i m.x m.y,M3,⟨hi,mo.x,mo.y⟩,t3,?_⟩;exact(congrArg aC (bT ((bH (aZ (aw rfl rfl (by show aX.ok (D.bl (decide (way<5))) M3=_;rw[decide_eq_true h5])))).trans (aO (bg (ds:=[S "move",I i,I m.x,I m.y]) rfl))))).trans rfl
  ·obtain⟨dd,hd,kd⟩:∃dd:Dd,pN [(Dd.shape i m.shape).d,(Dd.rank i m.rank).d,(Dd.turn i m.turn).d] (way-5)=Z dd.d/\jq s dd:=by
    have w3:way-5=0\/way-5=1\/way-5=2:=by omega
    rcases w3 with w3|w3|w3 <;> rw[w3]
    ·exact⟨.shape i m.shape,rfl,hi,mo.s⟩
    ·exact⟨.rank i m.rank,rfl,hi,mo.r⟩
    ·exact⟨.turn i m.turn,rfl,hi,mo.t⟩
   refine⟨dd,M3,kd,t3,?_⟩;rw[ao ((bp (aZ (aw rfl rfl (by show aX.ok (D.bl (decide (way<5))) M3=_;rw[decide_eq_false h5])))).trans rfl)];exact(congrArg aC (aO (aw (eL (ds:=[(Dd.shape i m.shape).d,(Dd.rank i m.rank).d,(Dd.turn i m.turn).d]) (ay (bg (ds:=[S "shape",I i,rX m.shape]) rfl) (ay (bg (ds:=[S "rank",I i,I m.rank]) rfl) (ay (bg (ds:=[S "turn",I i,I m.turn]) rfl) rfl)))) rfl (ve hd)))).trans rfl
variable{f:Mv->Mv}
def o4 (ok:bO mm s)(hf:∀m,zP s.book.length m->zP s.book.length (f m)):bO mm (iB s i f):=by
 unfold iB;split
 ·rename_i m hm;refine⟨ok.floor,ok.sx,ok.sy,ok.bl,ok.book,by simpa using ok.ml,λm' h'=>?_,ok.pl,ok.pots⟩;rcases mem_or_eq_of_mem_set h' with q|q
  ·exact ok.movers m' q
  ·rw[q];exact hf m (ok.movers m (mem_of_getElem? hm))
 ·exact ok
def xt (ok:bO mm s)(h:jq s dd):bO mm (fq s dd):=by
 cases dd with
 | shift x y=>exact⟨ok.floor,h.1,h.2,ok.bl,ok.book,ok.ml,ok.movers,ok.pl,ok.pots⟩
 | pot k hu=>
  refine⟨ok.floor,ok.sx,ok.sy,ok.bl,ok.book,ok.ml,ok.movers,by simpa[fq] using ok.pl,λq hq=>?_⟩;rcases mem_or_eq_of_mem_set hq with z|z
  ·exact ok.pots q z
  ·rw[z];exact h.2
 | move i x y=>exact o4 ok λm hm=>⟨hm.s,h.2.1,h.2.2,hm.r,hm.t⟩
 | shape i o=>exact o4 ok λm hm=>⟨h.2,hm.x,hm.y,hm.r,hm.t⟩
 | rank i r=>exact o4 ok λm hm=>⟨hm.s,hm.x,hm.y,h.2,hm.t⟩
 | turn i t=>exact o4 ok λm hm=>⟨hm.s,hm.x,hm.y,hm.r,h.2⟩
def vX (xs:List D)(i:Nat)(x:D)(h:i<xs.length):xs.take i++[x]++xs.drop (i+1)=xs.set i x:=by
 rw[set_eq_take_append_cons_drop,if_pos h];simp
def qX {x:D}(h:i<xs.length)(hl:xs.length<=2000):eQ [U xs,I i,x] M=O (U (xs.set i x)) M:=by
 have c1:=rT xs i;have c2:g5 xs (Z ((i:Int)+1)) Y=xs.drop (i+1):=ue xs (i+1);have sp:=vX xs i x h;have l1:(1:Nat)<=sizeLine:=a7 (by decide);have l2:min i xs.length+1<=sizeLine:=a7 (by omega);have l3:min i xs.length+1+(xs.length-(i+1))<=sizeLine:=a7 (by omega);simp only[append_assoc] at sp;unfold eQ my;simp_arith [c1,c2,l1,l2,l3];simpa using sp
def we (n:Nat)(rs:List (List Int)):aT (n+3) (aF rs)=true:=by
 unfold aF;rw[iW,all_map,all_eq_true];intro r _;show aT (n+2) (U (r.map I))=true;rw[iW];exact fc n r
def HR (n:Nat)(m:Mv):aT (n+2) m.d=true:=by
 unfold Mv.d;rw[iW];cases m.shape <;> rfl
def yy (s:cS):aT 30 s.d=true:=by
 have p1:=we 26 s.floor;have p2:(s.book.map aF).all (aT 28)=true:=by
  rw[all_map,all_eq_true];intro b _;exact we 25 b
 have p3:(s.movers.map Mv.d).all (aT 28)=true:=by
  rw[all_map,all_eq_true];intro m _;exact HR 26 m
 have p4:=fc 27 s.pots;unfold cS.d;simp only[iW,all_cons,all_nil,p1,p2,p3,p4];rfl
def rL {m:Mv}(gm:s.movers[i]?=Z m):(iB s i f).d=U [aF s.floor,U [I s.sx,I s.sy],U (s.book.map aF),U ((s.movers.map Mv.d).set i (f m).d),U (s.pots.map I)]:=by
 have e:iB s i f={s with movers:=s.movers.set i (f m)}:=by unfold iB;rw[gm]
 rw[e];unfold cS.d;simp only[map_set]
def Q0:GS:=(av (cO (aI (g2 (aV false) (ae 7) (gC (S "shift")))) (aK (aD (aa (ae 2) (aa (oo (ae 1) (dg (gC (I 1))) bu) (aa (ae 4) (aa (ae 5) (aa (ae 6) af))))))) aG) (av (cO (aI (g2 (aV false) (ae 7) (gC (S "pot")))) (aK (aD (aa (ae 2) (aa (ae 3) (aa (ae 4) (aa (ae 5) (aa (aj 3 eQ (aa (ae 6) (aa (g2 bb (ae 1) (gC (I 1))) (aa (g2 bb (ae 1) (gC (I 2))) af)))) af))))))) aG) (av (aL 8 (g2 bb (ae 1) (gC (I 1)))) (av (aL 9 (aj 3 bW (aa (g2 bb (ae 5) (ae 8)) (aa (ae 7) (aa (oo (ae 1) (dg (gC (I 2))) bu) af))))) (aK (aD (aa (ae 2) (aa (ae 3) (aa (ae 4) (aa (aj 3 eQ (aa (ae 5) (aa (ae 8) (aa (ae 9) af)))) (aa (ae 6) af)))))))))))
def DV (h:aS [s.d,U (S w::r)] M=O (G true) M)(e:Q0 [Z s.d,Z (U (S w::r)),Z (aF s.floor),Z (U [I s.sx,I s.sy]),Z (U (s.book.map aF)),Z (U (s.movers.map Mv.d)),Z (U (s.pots.map I)),Z (S w),Y,Y] M=o):dH [s.d,U (S w::r)] M=aC o:=by
 show aC (gK [Z s.d,Z (U (S w::r)),Y,Y,Y,Y,Y,Y,Y,Y] M)=_;unfold gK;rw[ao ((bp (bL (bv (bh rfl rfl h)))).trans rfl)];rw[ao (show dE (bB [2,3,4,5,6]) (ae 0) [Z s.d,Z (U (S w::r)),Y,Y,Y,Y,Y,Y,Y,Y] M=O (.nx [Z s.d,Z (U (S w::r)),Z (aF s.floor),Z (U [I s.sx,I s.sy]),Z (U (s.book.map aF)),Z (U (s.movers.map Mv.d)),Z (U (s.pots.map I)),Y,Y,Y]) M from rfl)];rw[ao (aH (aw rfl rfl (cV rfl)))];exact congrArg aC e
def Bq {m m2:D}(h:aS [s.d,U (S w::I i::r)] M=O (G true) M)(hl:(s.movers.map Mv.d).length<=2000)(k1:(PyData.strOk w&&PyData.strOk "shift"&&(decide (w="shift")==false))=true)(k2:(PyData.strOk w&&PyData.strOk "pot"&&(decide (w="pot")==false))=true)
  (gm:(s.movers.map Mv.d)[i]?=Z m) (sl:g5 (S w::I i::r) (Z 2) Y=r) (mb:bW [m,S w,U r] M=O m2 M) :
  dH [s.d,U (S w::I i::r)] M=O (U [aF s.floor,U [I s.sx,I s.sy],U (s.book.map aF),U ((s.movers.map Mv.d).set i m2),U (s.pots.map I)]) M:=by
 have hi:=(List.getElem?_eq_some_iff.mp gm).1;refine DV (o:=O (.rt (U [aF s.floor,U [I s.sx,I s.sy],U (s.book.map aF),U ((s.movers.map Mv.d).set i m2),U (s.pots.map I)])) M) h ?_;unfold Q0;rw[ao ((bp (tW rfl k1)).trans rfl),ao ((bp (tW rfl k2)).trans rfl)];rw[ao (aH (aw (y:=I 1) (o:=O (I i) M) rfl rfl (cV rfl)))];have c3:oo (ae 1) (dg (gC (I 2))) bu [Z s.d,Z (U (S w::I i::r)),Z (aF s.floor),Z (U [I s.sx,I s.sy]),Z (U (s.book.map aF)),Z (U (s.movers.map Mv.d)),Z (U (s.pots.map I)),Z (S w),Z (I i),Y] M=O (U r) M:=by
  show aX.ok (D.tup (g5 (S w::I i::r) (Z 2) Y)) M=_;rw[sl]
 show av _ _ [Z s.d,Z (U (S w::I i::r)),Z (aF s.floor),Z (U [I s.sx,I s.sy]),Z (U (s.book.map aF)),Z (U (s.movers.map Mv.d)),Z (U (s.pots.map I)),Z (S w),Z (I i),Y] M=_;rw[ao (aH (cq (aw (y:=I i) (o:=O m M) rfl rfl (cV gm)) rfl c3 mb))];exact aO (bg (ay rfl (ay rfl (ay rfl (ay (cq rfl rfl rfl (qX hi hl)) (ay rfl rfl))))))
def Q4 {a b c d e:D}(h:(av (cO (aI (g2 (aV false) (ae 1) (gC (S "move")))) (aK (aD (aa (ae 3) (aa (g2 bb (ae 2) (gC (I 0))) (aa (g2 bb (ae 2) (gC (I 1))) (aa (ae 6) (aa (ae 7) af))))))) aG) (av (cO (aI (g2 (aV false) (ae 1) (gC (S "shape")))) (aK (aD (aa (g2 bb (ae 2) (gC (I 0))) (aa (ae 4) (aa (ae 5) (aa (ae 6) (aa (ae 7) af))))))) aG) (av (cO (aI (g2 (aV false) (ae 1) (gC (S "rank")))) (aK (aD (aa (ae 3) (aa (ae 4) (aa (ae 5) (aa (g2 bb (ae 2) (gC (I 0))) (aa (ae 7) af))))))) aG) (aK (aD (aa (ae 3) (aa (ae 4) (aa (ae 5) (aa (ae 6) (aa (g2 bb (ae 2) (gC (I 0))) af))))))))))
  [Z (U [a,b,c,d,e]),Z (S w),Z (U r),Z a,Z b,Z c,Z d,Z e] M=o):bW [U [a,b,c,d,e],S w,U r] M=aC o:=by rw[<-h];rfl
def G2 {a b c d e x y:D}:bW [U [a,b,c,d,e],S "move",U [x,y]] M=O (U [a,x,y,d,e]) M:=
 Q4 (o:=O (.rt (U [a,x,y,d,e])) M) (bT ((bH (tW rfl)).trans (aO (bg rfl))))
def Eh {a b c d e x:D}:bW [U [a,b,c,d,e],S "shape",U [x]] M=O (U [x,b,c,d,e]) M:=
 Q4 (o:=O (.rt (U [x,b,c,d,e])) M) ((ao ((bp (tW rfl)).trans rfl)).trans (bT ((bH (tW rfl)).trans (aO (bg rfl)))))
def Hi {a b c d e x:D}:bW [U [a,b,c,d,e],S "rank",U [x]] M=O (U [a,b,c,x,e]) M:=
 Q4 (o:=O (.rt (U [a,b,c,x,e])) M) ((ao ((bp (tW rfl)).trans rfl)).trans ((ao ((bp (tW rfl)).trans rfl)).trans (bT ((bH (tW rfl)).trans (aO (bg rfl))))))
def Hb {a b c d e x:D}:bW [U [a,b,c,d,e],S "turn",U [x]] M=O (U [a,b,c,d,x]) M:=
 Q4 (o:=O (.rt (U [a,b,c,d,x])) M) ((ao ((bp (tW rfl)).trans rfl)).trans ((ao ((bp (tW rfl)).trans rfl)).trans ((ao ((bp (tW rfl)).trans rfl)).trans (aO (bg rfl)))))
def Ak (ok:bO mm s)(hm:mm<=900)(h:jq s dd):dH [s.d,dd.d] M=O (fq s dd).d M:=by
 have id1:=pR (M:=M) h;have ml:=ok.ml;have hl:(s.movers.map Mv.d).length<=2000:=by rw[length_map];omega
 have mv:∀(i:Nat) (hi:i<s.movers.length),∃m,s.movers[i]?=Z m/\(s.movers.map Mv.d)[i]?=Z (U [rX m.shape,I m.x,I m.y,I m.rank,I m.turn]):=λi hi=>
  ⟨s.movers[i],getElem?_eq_getElem hi,by rw[getElem?_map,getElem?_eq_getElem hi,<-C4];rfl⟩
 cases dd with
 | shift x y=>
  refine DV (w:="shift") (r:=[I x,I y]) (o:=O (.rt (fq s (.shift x y)).d) M) id1 ?_;unfold Q0;exact bT ((bH (tW rfl)).trans (aO (bg (ds:=[aF s.floor,U [I x,I y],U (s.book.map aF),U (s.movers.map Mv.d),U (s.pots.map I)]) rfl)))
 | pot k hu=>
  obtain⟨kn,rfl⟩:=Int.eq_ofNat_of_zero_le h.1.1;have hk:kn<16:=by have:=h.1.2;omega
  have w:=qX (xs:=s.pots.map I) (i:=kn) (x:=I hu) (M:=M) (by rw[length_map,ok.pl];omega) (by rw[length_map,ok.pl];omega);have e:(fq s (.pot kn hu)).d=U [aF s.floor,U [I s.sx,I s.sy],U (s.book.map aF),U (s.movers.map Mv.d),U ((s.pots.map I).set kn (I hu))]:=by
   show D.tup [aF s.floor,U [I s.sx,I s.sy],U (s.book.map aF),U (s.movers.map Mv.d),U ((s.pots.set kn hu).map I)]=_;rw[map_set]
  rw[e];refine DV (w:="pot") (r:=[I kn,I hu]) (o:=O (.rt (U [aF s.floor,U [I s.sx,I s.sy],U (s.book.map aF),U (s.movers.map Mv.d),U ((s.pots.map I).set kn (I hu))])) M) id1 ?_;unfold Q0;rw[ao ((bp (tW rfl)).trans rfl)];exact bT ((bH (tW rfl)).trans (aO (bg (ds:=[aF s.floor,U [I s.sx,I s.sy],U (s.book.map aF),U (s.movers.map Mv.d),U ((s.pots.map I).set kn (I hu))]) (ay rfl (ay rfl (ay rfl (ay rfl (ay (cq rfl rfl rfl w) rfl))))))))
 | move i x y=>
  obtain⟨m,gm,am⟩:=mv i h.1;show _=aX.ok (iB s i λm=>{m with x:=x,y:=y}).d M;rw[rL gm,C4];exact Bq (w:="move") (r:=[I x,I y]) id1 hl (by decide +kernel) (by decide +kernel) am rfl G2
 | shape i o=>
  obtain⟨m,gm,am⟩:=mv i h.1;show _=aX.ok (iB s i λm=>{m with shape:=o}).d M;rw[rL gm,C4];exact Bq (w:="shape") (r:=[rX o]) id1 hl (by decide +kernel) (by decide +kernel) am rfl Eh
 | rank i r=>
  obtain⟨m,gm,am⟩:=mv i h.1;show _=aX.ok (iB s i λm=>{m with rank:=r}).d M;rw[rL gm,C4];exact Bq (w:="rank") (r:=[I r]) id1 hl (by decide +kernel) (by decide +kernel) am rfl Hi
 | turn i t=>
  obtain⟨m,gm,am⟩:=mv i h.1;show _=aX.ok (iB s i λm=>{m with turn:=t}).d M;rw[rL gm,C4];exact Bq (w:="turn") (r:=[I t]) id1 hl (by decide +kernel) (by decide +kernel) am rfl Hb
structure Bs where
 st:D
 t:Int
 tk:D
 rows:List (List Int)
 tch:List (List eC×D)
 grd:List (eC×D)
 lost:List D
def cE (fr:D)(b:Nat)(B:Bs):List (Str×D):=[("frame",fr),("standing",B.st),("ahead",I B.t),("row_taken",B.tk),("laid_rows",R (b+1)),("first_touches",R (b+2)),("first_grounds",R (b+3)),("lost_pairs",R (b+4))]
def io (b n:Nat):List D:=(List.range n).map λi=>D.mr (b+5+i)
def xJ (r:List Int):MO:=.lst (r.map I)
def vN (fr:D)(b:Nat)(B:Bs):az:=.obj "Beam" (cE fr b B)::.lst (io b B.rows.length)::.dT B.tch::.dK B.grd::.lst B.lost::B.rows.map xJ
def aq (M0:az)(fr:D)(B:Bs):az:=M0++vN fr M0.length B
variable{st:D}
section
variable {M0:az}{fr:D}{B:Bs}
def vT (k:Nat):(aq M0 fr B)[M0.length+k]?=(vN fr M0.length B)[k]?:=by
 unfold aq;rw[getElem?_append_right (by omega),Nat.add_sub_cancel_left]
def nJ (k:Nat)(o:MO):(aq M0 fr B).set (M0.length+k) o=M0++(vN fr M0.length B).set k o:=by
 unfold aq;rw[set_append_right _ _ (by omega),Nat.add_sub_cancel_left]
def fF:(aq M0 fr B)[M0.length]?=Z (.obj "Beam" (cE fr M0.length B)):=vT 0
def Gi:(aq M0 fr B)[M0.length+1]?=Z (.lst (io M0.length B.rows.length)):=vT 1
def Qa:(aq M0 fr B)[M0.length+2]?=Z (.dT B.tch):=vT 2
def Ot:(aq M0 fr B)[M0.length+3]?=Z (.dK B.grd):=vT 3
def RH:(aq M0 fr B)[M0.length+4]?=Z (.lst B.lost):=vT 4
def AI {r:List Int}(h:B.rows[i]?=Z r):(aq M0 fr B)[M0.length+5+i]?=Z (xJ r):=by
 rw[Nat.add_assoc,vT,show 5+i=i+5 by omega];show(B.rows.map xJ)[i]?=_;rw[getElem?_map,h];rfl
def zL:(aq M0 fr B).length=M0.length+5+B.rows.length:=by
 unfold aq vN;simp only[length_append,length_cons,length_map];omega
theorem o3 {b:Nat}:(cE fr b B).lookup ("frame":Str)=Z (fr:D):=rfl
theorem Dv {b:Nat}:(cE fr b B).lookup ("standing":Str)=Z (B.st:D):=rfl
theorem AD {b:Nat}:(cE fr b B).lookup ("ahead":Str)=Z ((I B.t):D):=rfl
theorem JX {b:Nat}:(cE fr b B).lookup ("row_taken":Str)=Z (B.tk:D):=rfl
theorem wI {b:Nat}:(cE fr b B).lookup ("laid_rows":Str)=Z ((R (b+1)):D):=rfl
theorem MR {b:Nat}:(cE fr b B).lookup ("first_touches":Str)=Z ((R (b+2)):D):=rfl
theorem Mg {b:Nat}:(cE fr b B).lookup ("first_grounds":Str)=Z ((R (b+3)):D):=rfl
theorem IU {b:Nat}:(cE fr b B).lookup ("lost_pairs":Str)=Z ((R (b+4)):D):=rfl
def Qq :(aq M0 fr B).set M0.length (.obj "Beam" (fL "ahead" (I t) (cE fr M0.length B)))=aq M0 fr {B with t:=t}:=by
 have e:fL "ahead" (I t) (cE fr M0.length B)=cE fr M0.length {B with t:=t}:=rfl;rw[e];exact nJ 0 _
def Li {tk:D}:(aq M0 fr B).set M0.length (.obj "Beam" (fL "row_taken" tk (cE fr M0.length B)))=aq M0 fr {B with tk:=tk}:=by
 have e:fL "row_taken" tk (cE fr M0.length B)=cE fr M0.length {B with tk:=tk}:=rfl;rw[e];exact nJ 0 _
def Lp :(aq M0 fr B).set M0.length (.obj "Beam" (fL "standing" st (cE fr M0.length B)))=aq M0 fr {B with st:=st}:=by
 have e:fL "standing" st (cE fr M0.length B)=cE fr M0.length {B with st:=st}:=rfl;rw[e];exact nJ 0 _
def C7:(aq M0 fr B).set M0.length (.obj "Beam" (fL "lost_pairs" (R (M0.length+4)) (cE fr M0.length B)))=aq M0 fr B:=by
 have e:fL "lost_pairs" (R (M0.length+4)) (cE fr M0.length B)=cE fr M0.length B:=rfl;rw[e];exact tH fF
def JI {x:List (List eC×D)}:(aq M0 fr B).set (M0.length+2) (.dT x)=aq M0 fr {B with tch:=x}:=nJ 2 _
def Ic {x:List (eC×D)}:(aq M0 fr B).set (M0.length+3) (.dK x)=aq M0 fr {B with grd:=x}:=nJ 3 _
def EM {x:List D}:(aq M0 fr B).set (M0.length+4) (.lst x)=aq M0 fr {B with lost:=x}:=nJ 4 _
def HK {r:List Int}:(aq M0 fr B).set (M0.length+5+i) (xJ r)=aq M0 fr {B with rows:=B.rows.set i r}:=by
 rw[Nat.add_assoc,nJ,show 5+i=i+5 by omega];show M0++(_::_::_::_::_::(B.rows.map xJ).set i (xJ r))=_;rw[<-map_set];unfold aq vN cE;rw[length_set]
def HZ:((aq M0 fr B)++[MO.lst []]).set (M0.length+1) (MO.lst (io M0.length B.rows.length++[D.mr (aq M0 fr B).length]))=aq M0 fr {B with rows:=B.rows++[[]]}:=by
 rw[zL];unfold aq;rw[append_assoc,set_append_right _ _ (by omega),Nat.add_sub_cancel_left];have e:io M0.length B.rows.length++[D.mr (M0.length+5+B.rows.length)]=io M0.length (B.rows++[[]]).length:=by
  unfold io;rw[length_append,length_singleton,range_succ,map_append];rfl
 rw[e];show M0++(_::_::_::_::_::(B.rows.map xJ++[.lst []]))=M0++(_::_::_::_::_::((B.rows++[[]]).map xJ));rw[map_append];rfl
structure Bs.Pure (B:Bs):Prop where
 st:aT 30 B.st=true
 tk:aT 30 B.tk=true
 tch:∀p∈B.tch,aT 30 p.2=true
 grd:∀p∈B.grd,aT 30 p.2=true
 lost:∀p∈B.lost,aT 30 p=true
def m3 (h0:dB M0)(hf:aT 30 fr=true)(p:B.Pure):dB (aq M0 fr B):=by
 have hl:(aq M0 fr B).length=M0.length+5+B.rows.length:=zL;unfold dB;rw[hl];unfold aq;rw[all_append,Bool.and_eq_true];refine⟨all_eq_true.mpr λx hx=>pP (by omega) (all_eq_true.mp h0 x hx),?_⟩;unfold vN;simp only[all_cons,Bool.and_eq_true];have f:∀k:Nat,k<=4->gT (M0.length+5+B.rows.length) 30 (R (M0.length+k))=true:=λk hk=>decide_eq_true (by omega)
 refine⟨?_,?_,?_,?_,?_,?_⟩
 ·show(cE fr M0.length B).all (λp=>gT (M0.length+5+B.rows.length) 30 p.2)=true;unfold cE;simp only[all_cons,all_nil,Bool.and_eq_true];exact⟨dL 30 _ hf,dL 30 _ p.st,rfl,dL 30 _ p.tk,f 1 (by decide),f 2 (by decide),f 3 (by decide),f 4 (by decide),trivial⟩
 ·show(io M0.length B.rows.length).all (gT (M0.length+5+B.rows.length) 30)=true;refine all_eq_true.mpr λx hx=>?_
  obtain⟨i,hi,rfl⟩:=mem_map.mp hx;exact decide_eq_true (by have:=mem_range.mp hi;omega)
 ·exact all_eq_true.mpr λx hx=>dL 30 _ (p.tch x hx)
 ·exact all_eq_true.mpr λx hx=>dL 30 _ (p.grd x hx)
 ·exact all_eq_true.mpr λx hx=>dL 30 _ (p.lost x hx)
 ·refine all_eq_true.mpr λx hx=>?_
  obtain⟨r,_,rfl⟩:=mem_map.mp hx;exact pE (fc 29 r)
end
theorem qM {w:Int}:jC [bc w h g m] M=O (I (w+g)) M:=rfl
def fK {w:Int}(k:gR w h g m):cL [bc w h g m] M=O (I (h*(w+g))) M:=by
 have mu:=zH (i:=h) (j:=w+g) (by have:=k.h;omega) (by have:=k.h;omega) M;show aC (li [Z (bc w h g m),Y,Y,Y,Y] M)=_;unfold li;have asg:dE (bB [1,2,3,4]) (ae 0) [Z (bc w h g m),Y,Y,Y,Y] M=O (.nx [Z (bc w h g m),Z (I w),Z (I h),Z (I g),Z (I m)]) M:=rfl;rw[ao asg,aO (aw rfl (cG rfl qM) mu)];rfl
def nL (w g t:Int):D:=if t % (w+g)<w then U [I (t / (w+g)),I (t % (w+g))] else U [I (t / (w+g)),.non]
def FY {w:Int}(f:gR w h g m)(h0:0<=t)(h1:t<h*(w+g)):ji [bc w h g m,I t] M=O (nL w g t) M:=by
 have e:=qM (w:=w) (h:=h) (g:=g) (m:=m) (M:=M);have e2:=fK (M:=M) f;have p:0<w+g:=by have:=f.w;have:=f.g;omega
 have q:(w+g).natAbs.log2<9000:=aJ p (by have:=f.w;have:=f.g;omega);have n1:¬t<0:=by omega
 have n2:¬h*(w+g)<=t:=by omega
 have l2:(2:Nat)<=sizeLine:=a7 (by decide);unfold bc at *;unfold ji oi nL
 by_cases hz:t % (w+g)<w
 ·have hz':¬w<=t % (w+g):=by omega
  simp_arith [e,e2,p,q,n1,n2,l2,hz,hz']
 ·have hz':w<=t % (w+g):=by omega
  simp_arith [e,e2,p,q,n1,n2,l2,hz,hz']
def lQ (xs:List Int)(lo hi:Option Int):List Int:=(xs.drop (HT.sIx xs.length 0 lo)).take (HT.sIx xs.length xs.length hi-HT.sIx xs.length 0 lo)
def tB (xs:List Int)(lo hi:Option Int):g5 (xs.map I) lo hi=(lQ xs lo hi).map I:=by simp[g5,lQ]
def uC (xs:List Int)(lo hi:Option Int):(lQ xs lo hi).length<=xs.length:=by
 unfold lQ;rw[length_take,length_drop];omega
def Fp {xs:List Int}{lo hi:Option Int}(h:y∈lQ xs lo hi):y∈xs:=mem_of_mem_drop (mem_of_mem_take h)
def uQ (s:cS)(row n:Int):Sn:=match s.movers[n.toNat]? with
 | some m=>⟨n,m.x,m.rank,nP (s.book.getD (m.shape.getD 0) []) m.turn (row-m.y).toNat⟩
 | none=>⟨n,0,0,[]⟩
def fu (s:cS)(m row:Int):List Sn:=(lQ (cM s row) Y (Z m)).map (uQ s row)
def FK {n:Int}(h:n∈cM s row):ig s row n=(uQ s row n).d:=by
 obtain⟨i,rfl,hi,m,gm,lz⟩:=ui h;unfold ig uQ;rw[Int.toNat_natCast,gm];rfl
def Cz (s:cS)(m row:Int):uw s m row=(fu s m row).map Sn.d:=by
 unfold uw fu;rw[tB,map_map,map_map];apply map_congr_left;intro n hn;exact FK (Fp hn)
def GY (s:cS)(w row:Int):List Int:=(List.range w.toNat).map λ(x:Nat)=>fI s row x
def vg (s:cS)(w m row:Int):gj s w m row=U [U ((GY s w row).map I),U ((fu s m row).map Sn.d)]:=by
 unfold gj;rw[Cz];unfold GY;rw[map_map];rfl
def zI (ok:bO mm s)(hm:mm<=12):(cM s row).length<=12:=by
 have:=oY s row s.movers.length;have:=ok.ml;unfold cM;omega
def Bj (ok:bO mm s)(hm:mm<=12):(fu s m row).length<=12:=by
 unfold fu;rw[length_map];exact Nat.le_trans (uC _ _ _) (zI ok hm)
def uz (s:cS)(w m row:Int):aT 30 (gj s w m row)=true:=by
 rw[vg];have a:=fc 27 (GY s w row);have b:((fu s m row).map Sn.d).all (aT 28)=true:=all_eq_true.mpr λx hx=>by
  obtain⟨q,_,rfl⟩:=mem_map.mp hx;unfold Sn.d;have:=fc 25 q.ks;simp only[iW,all_cons,all_nil,this];rfl
 simp only[iW,all_cons,all_nil,a,b];rfl
def HV {w:Int}(ok:bO mm s):∀k∈GY s w row,0<=k/\k<=15:=by
 intro k hk;obtain⟨x,_,rfl⟩:=mem_map.mp hk;obtain⟨f1,f2,fw,f3,f4,f5⟩:=ok.floor;unfold fI;have fr:∀k∈cn s row,0<=k/\k<=15:=by
  intro k hk;unfold cn at hk;rw[List.getD] at hk;cases q:s.floor[((row+s.sy) % (s.floor.length:Int)).toNat]? with
  | none=>rw[q] at hk;cases hk
  | some r=>
   rw[q] at hk;exact(f5 r (mem_of_getElem? q)).2 k hk
 rw[List.getD];cases q:(cn s row)[((↑x+s.sx) % ((cn s row).length:Int)).toNat]? with
 | none=>exact⟨by simp,by simp⟩
 | some r=>exact fr r (mem_of_getElem? q)
def B5 (h:∀r∈rs,∀k∈r,0<=k/\k<=15):∀k∈nP rs way n,0<=k/\k<=15:=by
 have g:∀(i:Nat),∀k∈rs.getD i [],0<=k/\k<=15:=by
  intro i k hk;rw[List.getD] at hk;cases q:rs[i]? with
  | none=>rw[q] at hk;cases hk
  | some r=>rw[q] at hk;exact h r (mem_of_getElem? q) k hk
 intro k hk;unfold nP at hk;dsimp only at hk;split at hk
 ·rw[mem_reverse] at hk;split at hk
  ·exact g _ k hk
  ·exact g _ k hk
 ·split at hk
  ·exact g _ k hk
  ·exact g _ k hk
def MJ (ok:bO mm s):∀q∈fu s m row,0<=eN x q/\eN x q<=15:=by
 intro q hq;obtain⟨n,_,rfl⟩:=mem_map.mp hq;have a:∀k∈(uQ s row n).ks,0<=k/\k<=15:=by
  intro k hk;unfold uQ at hk;split at hk
  ·refine B5 (λr hr k hk=>?_) k hk;rename_i m' _ _;rw[List.getD] at hr;cases e:s.book[m'.shape.getD 0]? with
   | none=>rw[e] at hr;cases hr
   | some b=>
    rw[e] at hr;obtain⟨b1,b2,bw,b3,b4,b5⟩:=ok.book b (mem_of_getElem? e);exact(b5 r hr).2 k hk
  ·cases hk
 unfold eN;split
 ·rw[List.getD];cases e:(uQ s row n).ks[(x-(uQ s row n).x).toNat]? with
  | none=>exact⟨by simp,by simp⟩
  | some k=>exact a k (mem_of_getElem? e)
 ·exact⟨by simp,by simp⟩
def oM (x fl:Int)(cs:List Sn)(k:Int):Prop:=(cs=[]/\k=fl)\/∃b∈cs,(∀s∈cs,Ha b s)/\k=if 1<=b.r\/fl=0 then eN x b else fl
def Em {fl:Int}:∃k,oM x fl cs k/\eW [I fl,.lst (cs.map (mL x))] M=O (I k) M:=by
 rcases DY (fl:=fl) (cs:=cs) with⟨e,h⟩|⟨b,hb,hl,h⟩
 ·exact⟨fl,.inl ⟨e,rfl⟩,h⟩
 ·exact⟨_,.inr ⟨b,hb,hl,rfl⟩,h⟩
def oM.rng {fl:Int}(h:oM x fl cs k)(hf:0<=fl/\fl<=15)(hc:∀q∈cs,0<=eN x q/\eN x q<=15):0<=k/\k<=15:=by
 rcases h with⟨_,rfl⟩|⟨b,hb,_,rfl⟩
 ·exact hf
 ·split
  ·exact hc b hb
  ·exact hf
def DZ {w:Int}(ok:bO mm s)(hm:mm<=12)(hM:dB M):gY [bc w h g m,s.d,I row] M=O (.lst ((lQ (cM s row) (Z m) Y).map I)) M:=by
 have e:=DJ (row:=row) ok (by omega:mm<=900) hM;unfold bc gY pT;simp_arith [e,tB]
variable{fr:D}{B:Bs}
def xp {b:Nat}:(cE fr b B).length<1000:=by show 8<1000;decide
def lI (row:Int)(ns:List Int):List D:=ns.map λn=>D.tup [I row,I n]
variable{M0:az}
def Jc {w:Int}(h0:dB M0)(p:B.Pure)(hs:B.st=s.d)(ok:bO mm s)(hm:mm<=12)(f:gR w h g m)(hl:B.lost.length<=90000)(hr:B.rows.length<100000) :
  ej [R M0.length,I row] (aq M0 (bc w h g m) B)=O .non (aq M0 (bc w h g m) {B with tk:=gj s w m row,rows:=B.rows++[[]],lost:=B.lost++lI row (lQ (cM s row) (Z m) Y)}):=by
 have pf:aT 30 (bc w h g m)=true:=rfl;have sh:=m3 (fr:=bc w h g m) h0 pf p;have et:=Gy (w:=w) (hh:=h) (g:=g) (m:=m) (row:=row) ok (by omega) (by have:=f.w;omega) f.m sh;show aC (fR [Z (R M0.length),Z (I row)] _)=_;unfold fR;have f1:=λ(B:Bs)=>dP (g:=ae 0) (ρ:=[Z (R M0.length),Z (I row)]) (M:=aq M0 (bc w h g m) B) (f:="frame") rfl fF o3
 have f2:=λ(B:Bs)=>dP (g:=ae 0) (ρ:=[Z (R M0.length),Z (I row)]) (M:=aq M0 (bc w h g m) B) (f:="standing") rfl fF Dv
 have f3:=λ(B:Bs)=>dP (g:=ae 0) (ρ:=[Z (R M0.length),Z (I row)]) (M:=aq M0 (bc w h g m) B) (f:="laid_rows") rfl fF wI
 have c1:=cq (F:=oR) (o:=O (gj s w m row) (aq M0 (bc w h g m) B)) (f1 B) (f2 B) (c:=ae 1) rfl (by rw[hs];exact et);have s1:=wY (c:="Beam") (f:="row_taken") (go:=ae 0) (fs:=cE (bc w h g m) M0.length B) c1 rfl fF xp;rw[ao s1,Li];generalize hB1:({B with tk:=gj s w m row}:Bs)=B1;have p1:B1.Pure:=by rw[<-hB1];exact⟨p.st,uz s w m row,p.tch,p.grd,p.lost⟩
 have hs1:B1.st=s.d:=by rw[<-hB1];exact hs
 have a1:=GJ (f3 B1) Gi oy (by rw[getElem?_append_left (by rw[zL];omega)];exact Gi) (by unfold io;rw[length_map,length_range,<-hB1];show B.rows.length<1000000;omega);rw[HZ] at a1;rw[ao (bG a1)];generalize hB2:({B1 with rows:=B1.rows++[[]]}:Bs)=B2;have p2:B2.Pure:=by rw[<-hB2];exact⟨p1.st,p1.tk,p1.tch,p1.grd,p1.lost⟩
 have hs2:B2.st=s.d:=by rw[<-hB2];exact hs1
 have hl2:B2.lost=B.lost:=by rw[<-hB2,<-hB1]
 have sh2:=m3 (fr:=bc w h g m) h0 pf p2;have el:=DZ (w:=w) (h:=h) (g:=g) (m:=m) (row:=row) ok hm sh2;have ll:(lQ (cM s row) (Z m) Y).length<=12:=Nat.le_trans (uC _ _ _) (zI ok hm);have c2:=cq (F:=gY) (o:=O (.lst ((lQ (cM s row) (Z m) Y).map I)) (aq M0 (bc w h g m) B2)) (f1 B2) (f2 B2) (c:=ae 1) rfl (by rw[hs2];exact el);have ec:=l8 (ds0:=(lQ (cM s row) (Z m) Y).map I) (ge:=fh) (ρ:=[Z (R M0.length),Z (I row)]) (f:=λd=>U [I row,d]) (M:=aq M0 (bc w h g m) B2) ((lQ (cM s row) (Z m) Y).map I) (λd hd=>rfl);have em:((lQ (cM s row) (Z m) Y).map I).map (λd=>D.tup [I row,d])=lI row (lQ (cM s row) (Z m) Y):=by rw[map_map];rfl
 rw[em] at ec;generalize lQ (cM s row) (Z m) Y=ls at *;have gi:cj (aj 3 gY (aa (d7 "Beam" "frame" (ae 0)) (aa (d7 "Beam" "standing" (ae 0)) (aa (ae 1) af)))) [Z (R M0.length),Z (I row)] (aq M0 (bc w h g m) B2)=O ⟨ls.map I,Y⟩ (aq M0 (bc w h g m) B2):=by
  unfold cj;rw[c2];rfl
 have gv:bq (cj (aj 3 gY (aa (d7 "Beam" "frame" (ae 0)) (aa (d7 "Beam" "standing" (ae 0)) (aa (ae 1) af))))) cb fh aP [Z (R M0.length),Z (I row)] (aq M0 (bc w h g m) B2)=O (.lst (lI row ls)) (aq M0 (bc w h g m) B2):=by
  unfold bq;rw[gi,ah];dsimp only;rw[ec,ah];unfold aP;rw[if_pos (a7 (by unfold lI;rw[length_map];omega))]
 have au:=Iu (ys:=lI row ls) (RH (M0:=M0) (fr:=bc w h g m) (B:=B2)) (by rw[hl2];unfold lI;rw[length_map];omega);rw[EM] at au;have s3:=J4 (c:="Beam") (f:="lost_pairs") (go:=ae 0) (ρ:=[Z (R M0.length),Z (I row)]) rfl fF IU gv au fF xp;rw[s3];have fin:=C7 (M0:=M0) (fr:=bc w h g m) (B:={B2 with lost:=B2.lost++lI row ls});show aX.ok D.non ((aq M0 (bc w h g m) {B2 with lost:=B2.lost++lI row ls}).set M0.length (.obj "Beam" (fL "lost_pairs" (R (M0.length+4)) (cE (bc w h g m) M0.length {B2 with lost:=B2.lost++lI row ls}))))=_;rw[fin,<-hB2,<-hB1]
theorem mF {κ α:Type}[DecidableEq κ](key:α->κ)(z:D):∀(os:List α) (acc:List (κ×D)),(os.foldl (λa o=>zv a (key o) z) acc).length<=acc.length+os.length
 | [],acc=>Nat.le_refl _
 | o::os,acc=>by
  rw[foldl_cons];have:=mF key z os (zv acc (key o) z);have:=Im acc (key o) z;rw[length_cons];omega
def DP {κ:Type}[DecidableEq κ]{acc:List (κ×D)}{k:κ}{z:D}(hz:aT 30 z=true)(h:∀p∈acc,aT 30 p.2=true):∀p∈zv acc k z,aT 30 p.2=true:=by
 unfold zv;split
 ·exact h
 ·intro p hp;rcases mem_append.mp hp with q|q
  ·exact h p q
  ·rw[mem_singleton] at q;rw[q];exact hz
theorem pF {κ α:Type}[DecidableEq κ](key:α->κ){z:D}(hz:aT 30 z=true):∀(os:List α) (acc:List (κ×D)),(∀p∈acc,aT 30 p.2=true)->∀p∈os.foldl (λa o=>zv a (key o) z) acc,aT 30 p.2=true
 | [],acc,h=>h
 | o::os,acc,h=>pF key hz os _ (DP hz h)
def uP (ns:List Int)(z:D)(g:List (eC×D)):List (eC×D):=ns.foldl (λa n=>zv a (Sum.inl n) z) g
def lH (n:Int)(os:List Int)(z:D)(t:List (List eC×D)):List (List eC×D):=os.foldl (λa o=>zv a [Sum.inl n,Sum.inl o] z) t
def iD (ns:List Int)(z:D)(t0:List (List eC×D)):Nat->List (List eC×D)
 | 0=>t0
 | j+1=>match ns[j]? with
  | some n=>lH n (ns.drop (j+1)) z (iD ns z t0 j)
  | none=>iD ns z t0 j
theorem qi (ns:List Int)(z:D)(t0:List (List eC×D)):∀j,(iD ns z t0 j).length<=t0.length+j*ns.length
 | 0=>by show t0.length<=_;omega
 | j+1=>by
  have ih:=qi ns z t0 j;have e:(j+1)*ns.length=j*ns.length+ns.length:=Nat.succ_mul _ _;unfold iD;split
  ·rename_i n _;have:=mF (κ:=List eC) (λo=>[Sum.inl n,Sum.inl o]) z (ns.drop (j+1)) (iD ns z t0 j);unfold lH;rw[length_drop] at this;omega
  ·omega
theorem sO {ns:List Int}{z:D}{t0:List (List eC×D)}(hz:aT 30 z=true)(h:∀p∈t0,aT 30 p.2=true):∀j,∀p∈iD ns z t0 j,aT 30 p.2=true
 | 0=>h
 | j+1=>by
  have ih:=sO (ns:=ns) hz h j;unfold iD;split
  ·exact pF _ hz _ _ ih
  ·exact ih
variable{ns:List Int}
def E4 (hj:j<ns.length):g5 (ns.map I) (Z ((j:Int)+1)) Y=(ns.drop (j+1)).map I:=by
 rw[tB];unfold lQ;rw[show((j:Int)+1)=((j+1:Nat):Int) from by omega,HT.sIx_nat,HT.sIx_none,Nat.min_eq_left (by omega)];rw[take_of_length_le (by rw[length_drop];omega)]
def zQ (hl:B.grd.length+ns.length<1000000) :
  fA [R M0.length,.lst (ns.map I),I row,I x] (aq M0 fr B)=O .non (aq M0 fr {B with grd:=uP ns (U [I row,I x]) B.grd}):=by
 obtain⟨ρ',M',⟨x4,rfl,rfl⟩,ef⟩:=n8 (ds0:=ns.map I) (s:=dY 4) (body:=eT)
  (W:=λi ρ N=>∃x4,ρ=[Z (R M0.length),Z (.lst (ns.map I)),Z (I row),Z (I x),x4]/\N=aq M0 fr {B with grd:=uP (ns.take i) (U [I row,I x]) B.grd})
  (ns.map I) 0 (λj d hd ρ N hW=>by
   obtain⟨x4,rfl,rfl⟩:=hW;rw[Nat.zero_add];rw[getElem?_map] at hd;cases gs:ns[j]? with
   | none=>rw[gs] at hd;cases hd
   | some n=>
   rw[gs] at hd;cases hd;have hj:=(List.getElem?_eq_some_iff.mp gs).1;have e1:uP (ns.take (j+1)) (U [I row,I x]) B.grd=zv (uP (ns.take j) (U [I row,I x]) B.grd) (Sum.inl n) (U [I row,I x]):=by
    unfold uP;rw[take_succ,gs,foldl_append];rfl
   have lb:(uP (ns.take j) (U [I row,I x]) B.grd).length<1000000:=by
    have:=mF (κ:=eC) (λn=>Sum.inl n) (U [I row,I x]) (ns.take j) B.grd;rw[length_take] at this;unfold uP;omega
   rw[e1];generalize uP (ns.take j) (U [I row,I x]) B.grd=gd at *;have fl:=dP (g:=ae 0) (ρ:=[Z (R M0.length),Z (.lst (ns.map I)),Z (I row),Z (I x),Z (I n)]) (M:=aq M0 fr {B with grd:=gd}) rfl fF Mg;obtain⟨r,er⟩:=AG (y:=I n) (z:=U [I row,I x]) (Ot (M0:=M0) (fr:=fr) (B:={B with grd:=gd})) rfl lb;rw[Ic] at er;have tp:=bg (ga:=aa (ae 2) (aa (ae 3) af)) (ρ:=[Z (R M0.length),Z (.lst (ns.map I)),Z (I row),Z (I x),Z (I n)]) (M:=aq M0 fr {B with grd:=gd}) (M1:=aq M0 fr {B with grd:=gd}) (ds:=[I row,I x]) rfl (by simp);exact⟨_,_,_,rfl,bG (vq fl (by rw[Ot];rfl) rfl tp er),_,rfl,rfl⟩)
  [Z (R M0.length),Z (.lst (ns.map I)),Z (I row),Z (I x),Y] (aq M0 fr B) ⟨_,rfl,rfl⟩
 rw[length_map,Nat.zero_add,take_length] at ef;show aC (dF [Z (R M0.length),Z (.lst (ns.map I)),Z (I row),Z (I x),Y] _)=_;unfold dF;rw[jM (kP (i:=1) rfl) ef];rfl
def Fw {os:List Int}{n at_:Int}{t:List (List eC×D)}{x6:Option D}(hl:t.length+os.length<1000000) :
  ∃y6,fW ⟨os.map I,Y⟩ (dY 6) de (os.map I) [Z (R M0.length),Z (.lst (ns.map I)),Z (I row),Z (I x),Z (I at_),Z (I n),x6] (aq M0 fr {B with tch:=t}) =
   O (.nx [Z (R M0.length),Z (.lst (ns.map I)),Z (I row),Z (I x),Z (I at_),Z (I n),y6]) (aq M0 fr {B with tch:=lH n os (U [I row,I x]) t}):=by
 obtain⟨ρ',M',⟨y6,rfl,rfl⟩,ef⟩:=n8 (ds0:=os.map I) (s:=dY 6) (body:=de)
  (W:=λi ρ N=>∃x6,ρ=[Z (R M0.length),Z (.lst (ns.map I)),Z (I row),Z (I x),Z (I at_),Z (I n),x6]/\N=aq M0 fr {B with tch:=lH n (os.take i) (U [I row,I x]) t})
  (os.map I) 0 (λj d hd ρ N hW=>by
   obtain⟨x6,rfl,rfl⟩:=hW;rw[Nat.zero_add];rw[getElem?_map] at hd;cases gs:os[j]? with
   | none=>rw[gs] at hd;cases hd
   | some o=>
   rw[gs] at hd;cases hd;have hj:=(List.getElem?_eq_some_iff.mp gs).1;have e1:lH n (os.take (j+1)) (U [I row,I x]) t=zv (lH n (os.take j) (U [I row,I x]) t) [Sum.inl n,Sum.inl o] (U [I row,I x]):=by
    unfold lH;rw[take_succ,gs,foldl_append];rfl
   have lb:(lH n (os.take j) (U [I row,I x]) t).length<1000000:=by
    have:=mF (κ:=List eC) (λo=>[Sum.inl n,Sum.inl o]) (U [I row,I x]) (os.take j) t;rw[length_take] at this;unfold lH;omega
   rw[e1];generalize lH n (os.take j) (U [I row,I x]) t=gd at *;have fl:=dP (g:=ae 0) (ρ:=[Z (R M0.length),Z (.lst (ns.map I)),Z (I row),Z (I x),Z (I at_),Z (I n),Z (I o)]) (M:=aq M0 fr {B with tch:=gd}) rfl fF MR;obtain⟨r,er⟩:=zJ (y:=U [I n,I o]) (k:=[Sum.inl n,Sum.inl o]) (z:=U [I row,I x]) (Qa (M0:=M0) (fr:=fr) (B:={B with tch:=gd})) rfl lb;rw[JI] at er;have tp:=bg (ga:=aa (ae 2) (aa (ae 3) af)) (ρ:=[Z (R M0.length),Z (.lst (ns.map I)),Z (I row),Z (I x),Z (I at_),Z (I n),Z (I o)]) (M:=aq M0 fr {B with tch:=gd}) (M1:=aq M0 fr {B with tch:=gd}) (ds:=[I row,I x]) rfl (by simp);have tp2:=bg (ga:=aa (ae 5) (aa (ae 6) af)) (ρ:=[Z (R M0.length),Z (.lst (ns.map I)),Z (I row),Z (I x),Z (I at_),Z (I n),Z (I o)]) (M:=aq M0 fr {B with tch:=gd}) (M1:=aq M0 fr {B with tch:=gd}) (ds:=[I n,I o]) rfl (by simp);exact⟨_,_,_,rfl,bG (vq fl (by rw[Qa];rfl) tp2 tp er),_,rfl,rfl⟩)
  [Z (R M0.length),Z (.lst (ns.map I)),Z (I row),Z (I x),Z (I at_),Z (I n),x6] (aq M0 fr {B with tch:=t}) ⟨_,rfl,rfl⟩
 rw[length_map,Nat.zero_add,take_length] at ef;exact⟨y6,ef⟩
def zj (hn:ns.length<=12)(hl:B.tch.length<900000) :
  fB [R M0.length,.lst (ns.map I),I row,I x] (aq M0 fr B)=O .non (aq M0 fr {B with tch:=iD ns (U [I row,I x]) B.tch ns.length}):=by
 obtain⟨ρ',M',⟨x4,x5,x6,rfl,rfl⟩,ef⟩:=n8 (ds0:=ik (ns.map I)) (s:=bB [4,5]) (body:=dh)
  (W:=λi ρ N=>∃x4 x5 x6,ρ=[Z (R M0.length),Z (.lst (ns.map I)),Z (I row),Z (I x),x4,x5,x6]/\N=aq M0 fr {B with tch:=iD ns (U [I row,I x]) B.tch i})
  (ik (ns.map I)) 0 (λj d hd ρ N hW=>by
   obtain⟨x4,x5,x6,rfl,rfl⟩:=hW;obtain⟨dx,ex,rfl⟩:=ni hd;rw[Nat.zero_add];rw[getElem?_map] at ex;cases gs:ns[j]? with
   | none=>rw[gs] at ex;cases ex
   | some n=>
   rw[gs] at ex;cases ex;have hj:=(List.getElem?_eq_some_iff.mp gs).1;have e1:iD ns (U [I row,I x]) B.tch (j+1)=lH n (ns.drop (j+1)) (U [I row,I x]) (iD ns (U [I row,I x]) B.tch j):=by
    show(match ns[j]? with|some n=>lH n (ns.drop (j+1)) (U [I row,I x]) (iD ns (U [I row,I x]) B.tch j)|none=>_)=_;rw[gs]
   have lb:=qi ns (U [I row,I x]) B.tch j;have lj:j*ns.length<=12*12:=Nat.mul_le_mul (by omega) hn;rw[e1];generalize iD ns (U [I row,I x]) B.tch j=td at *;obtain⟨y6,ei⟩:=Fw (M0:=M0) (B:=B) (fr:=fr) (ns:=ns) (os:=ns.drop (j+1)) (n:=n) (row:=row) (at_:=(j:Int)) (t:=td) (x6:=x6) (by rw[length_drop];omega);refine⟨[Z (R M0.length),Z (.lst (ns.map I)),Z (I row),Z (I x),Z (I (j:Int)),Z (I n),x6],[Z (R M0.length),Z (.lst (ns.map I)),Z (I row),Z (I x),Z (I (j:Int)),Z (I n),y6],_,rfl,?_,_,_,_,rfl,rfl⟩;unfold dh;refine jM (t:=⟨(ns.drop (j+1)).map I,Y⟩) ?_ ei;have cf:=E4 hj;unfold cj;have sl:oo (ae 1) (dg (g2 bC (ae 4) (gC (I 1)))) bu [Z (R M0.length),Z (.lst (ns.map I)),Z (I row),Z (I x),Z (I (j:Int)),Z (I n),x6] (aq M0 fr {B with tch:=td})=O (.lst ((ns.drop (j+1)).map I)) (aq M0 fr {B with tch:=td}):=by
    rw[<-cf];rfl
   rw[sl];rfl)
  [Z (R M0.length),Z (.lst (ns.map I)),Z (I row),Z (I x),Y,Y,Y] (aq M0 fr B) ⟨_,_,_,rfl,rfl⟩
 rw[kQ,length_map,Nat.zero_add] at ef;show aC (dG [Z (R M0.length),Z (.lst (ns.map I)),Z (I row),Z (I x),Y,Y,Y] _)=_;unfold dG;have ge:lU (aa (ae 1) af) [Z (R M0.length),Z (.lst (ns.map I)),Z (I row),Z (I x),Y,Y,Y] (aq M0 fr B)=O ⟨ik (ns.map I),Y⟩ (aq M0 fr B):=rfl;rw[jM ge ef];rfl
theorem mZ {ds0:List D}{n:Nat}{sg:GG}{ge:GE}{ρ:bK}{f:D->D}{M:az}:∀(ds:List D),(∀d∈ds,∃ρ1,sg d (List.replicate n Y++ρ)=Z ρ1/\ge ρ1 M=O (f d) M)->bF ⟨ds0,Y⟩ n sg cb ge ds ρ M=O (ds.map f) M
 | [],h=>rfl
 | d::ds,h=>by
  obtain⟨ρ1,e1,e2⟩:=h d mem_cons_self;have ih:=mZ (ds0:=ds0) (sg:=sg) ds λx hx=>h x (mem_cons_of_mem _ hx)
  unfold bF;rw[wV,if_pos rfl,e1];dsimp only;rw[show cb ρ1 M=O true M from rfl];dsimp only;rw[e2];dsimp only;rw[ih];rfl
def OX {k:Nat}{x d:D}{i:Int}(h:M[k]?=Z (.lst xs))(ha:pN xs i=Z d):bb (R k) (I i) M=O d M:=by
 unfold bb bN;dsimp only;rw[h];dsimp only;rw[ha]
def CM {b:Nat}:pN (io b (n+1)) (-1)=Z (R (b+5+n)):=by
 unfold io;rw[range_succ,map_append];exact Jx _ _
def Bs.laid (B:Bs)(s0:cS)(w m row x hue:Int)(rs:List (List Int))(last:List Int):Bs:=
 {B with rows:=rs++[last++[hue]],tch:=iD ((f6 x (fu s0 m row)).map Sn.n) (U [I row,I x]) B.tch ((f6 x (fu s0 m row)).map Sn.n).length,grd:=if(GY s0 w row).getD x.toNat 0=0 then B.grd else uP ((f6 x (fu s0 m row)).map Sn.n) (U [I row,I x]) B.grd}
variable{last:List Int}
def E7 {s0:cS}{w:Int}(h0:dB M0)(p:B.Pure)(hs:B.st=s.d)(ok:bO mm s)(ok0:bO mm s0)(hm:mm<=12)(f:gR w h g m)
  (htk:B.tk=gj s0 w m row) (hx:0<=x/\x<w) (hr:B.rows=rs++[last]) (hl:last.length<100000) (ht:B.tch.length<900000) (hg:B.grd.length<900000) :
  ∃ink hue,oM x ((GY s0 w row).getD x.toNat 0) (f6 x (fu s0 m row)) ink/\s.pots[ink.toNat]?=Z hue/\0<=ink/\
   eA [R M0.length,I row,I x] (aq M0 (bc w h g m) B)=O .non (aq M0 (bc w h g m) (B.laid s0 w m row x hue rs last)):=by
 have pf:aT 30 (bc w h g m)=true:=rfl;have sh:=m3 (fr:=bc w h g m) h0 pf p;have fin:=HV (w:=w) (row:=row) ok0;have sin:=MJ (m:=m) (row:=row) (x:=x) ok0;have sl:=Bj (m:=m) (row:=row) ok0 hm;unfold Bs.laid;rw[vg] at htk;have fll:(GY s0 w row).length=w.toNat:=by unfold GY;rw[length_map,length_range]
 generalize GY s0 w row=fl at *;generalize fu s0 m row=ss at *;obtain⟨xn,rfl⟩:=Int.eq_ofNat_of_zero_le hx.1;have hxl:xn<fl.length:=by omega
 have gx:fl[xn]?=Z fl[xn]:=getElem?_eq_getElem hxl;have gxd:fl.getD (xn:Int).toNat 0=fl[xn]:=by rw[Int.toNat_natCast,List.getD,gx];rfl
 rw[gxd];have fkr:=fin _ (getElem_mem hxl);generalize fl[xn]=fk at *;have ax:∀M,bb (U (fl.map I)) (I (xn:Int)) M=O (I fk) M:=λM=>cV (by rw[getElem?_map,gx];rfl)
 have ecov:=zx (fl:=U (fl.map I)) (ss:=ss) (x:=(xn:Int)) (by omega) sh;obtain⟨ink,hsh,eink⟩:=Em (x:=(xn:Int)) (fl:=fk) (cs:=f6 xn ss) (M:=aq M0 (bc w h g m) B);have csub:∀q∈f6 (xn:Int) ss,q∈ss:=λq hq=>(mem_filter.mp hq).1
 have ir:=hsh.rng fkr (λq hq=>sin q (csub q hq));have cl:(f6 (xn:Int) ss).length<=12:=Nat.le_trans (wF _ _) sl;generalize f6 (xn:Int) ss=cs at *;obtain⟨kn,rfl⟩:=Int.eq_ofNat_of_zero_le ir.1;have hk:kn<s.pots.length:=by rw[ok.pl];omega
 have gp:s.pots[kn]?=Z s.pots[kn]:=getElem?_eq_getElem hk;refine⟨kn,s.pots[kn],hsh,by rw[Int.toNat_natCast];exact gp,ir.1,?_⟩;generalize s.pots[kn]=hue at *;have ap:∀M,bb (U (s.pots.map I)) (I (kn:Int)) M=O (I hue) M:=λM=>cV (by rw[getElem?_map,gp];rfl)
 generalize hfr:bc w h g m=fr at *;show aC (fQ [Z (R M0.length),Z (I row),Z (I (xn:Int)),Y,Y,Y,Y,Y,Y,Y,Y,Y] _)=_;unfold fQ;have q0:(aq M0 fr B)[M0.length]?=Z (.obj "Beam" (cE fr M0.length B)):=fF;have k1:=pH (sg:=bB [3,4]) (dP (g:=ae 0) (ρ:=[Z (R M0.length),Z (I row),Z (I (xn:Int)),Y,Y,Y,Y,Y,Y,Y,Y,Y]) (f:="row_taken") rfl q0 JX)
  (ρ1:=[Z (R M0.length),Z (I row),Z (I (xn:Int)),Z (U (fl.map I)),Z (U (ss.map Sn.d)),Y,Y,Y,Y,Y,Y,Y]) (by rw[htk];rfl)
 rw[ao k1];have k2:=aH (i:=5) (bh (F:=jB) (dP (g:=ae 0) (ρ:=[Z (R M0.length),Z (I row),Z (I (xn:Int)),Z (U (fl.map I)),Z (U (ss.map Sn.d)),Y,Y,Y,Y,Y,Y,Y]) (f:="row_taken") rfl q0 JX) (b:=ae 2) rfl (by rw[htk];exact ecov));rw[ao k2];have k3:=pH (sg:=bB [6,7,8,9,10]) (dP (g:=ae 0) (ρ:=[Z (R M0.length),Z (I row),Z (I (xn:Int)),Z (U (fl.map I)),Z (U (ss.map Sn.d)),Z (.lst (cs.map (mL xn))),Y,Y,Y,Y,Y,Y]) (f:="standing") rfl q0 Dv)
  (ρ1:=[Z (R M0.length),Z (I row),Z (I (xn:Int)),Z (U (fl.map I)),Z (U (ss.map Sn.d)),Z (.lst (cs.map (mL xn))),Z (aF s.floor),Z (U [I s.sx,I s.sy]),Z (U (s.book.map aF)),Z (U (s.movers.map Mv.d)),Z (U (s.pots.map I)),Y]) (by rw[hs];rfl)
 refine(congrArg aC (ao k3)).trans ?_;generalize hρ:([Z (R M0.length),Z (I row),Z (I (xn:Int)),Z (U (fl.map I)),Z (U (ss.map Sn.d)),Z (.lst (cs.map (mL xn))),Z (aF s.floor),Z (U [I s.sx,I s.sy]),Z (U (s.book.map aF)),Z (U (s.movers.map Mv.d)),Z (U (s.pots.map I)),Y]:bK)=ρ;have v0:∀M,ae 0 ρ M=O (R M0.length) M:=λM=>by rw[<-hρ];rfl
 have v2:∀M,ae 2 ρ M=O (I (xn:Int)) M:=λM=>by rw[<-hρ];rfl
 have v3:∀M,ae 3 ρ M=O (U (fl.map I)) M:=λM=>by rw[<-hρ];rfl
 have v5:∀M,ae 5 ρ M=O (.lst (cs.map (mL xn))) M:=λM=>by rw[<-hρ];rfl
 have v10:∀M,ae 10 ρ M=O (U (s.pots.map I)) M:=λM=>by rw[<-hρ];rfl
 have hrl:B.rows.length=rs.length+1:=by rw[hr,length_append];rfl
 have grow:B.rows[rs.length]?=Z last:=by rw[hr];simp
 have go:=aw (f:=bb) (dP (g:=ae 0) (ρ:=ρ) (f:="laid_rows") (v0 _) q0 wI) (b:=lO (gC (I 1))) (M2:=aq M0 fr B) rfl (OX (x:=.non) Gi (by rw[hrl];exact CM));have gi:=aw (f:=bb) (v10 _) (bh (F:=eW) (aw (f:=bb) (v3 _) (v2 _) (ax _)) (v5 _) eink) (ap _);have k4:=GJ go (AI grow) gi (AI grow) (by rw[length_map];omega);have em:last.map I++[I hue]=(last++[hue]).map I:=by rw[map_append];rfl
 have er:B.rows.set rs.length (last++[hue])=rs++[last++[hue]]:=by rw[hr];simp
 have sr:=HK (M0:=M0) (fr:=fr) (B:=B) (i:=rs.length) (r:=last++[hue]);rw[er] at sr;rw[em] at k4;have k4':lP (g2 bb (d7 "Beam" "laid_rows" (ae 0)) (lO (gC (I 1)))) (g2 bb (ae 10) (aj 2 eW (aa (g2 bb (ae 3) (ae 2)) (aa (ae 5) af)))) ρ (aq M0 fr B)=O .non (aq M0 fr {B with rows:=rs++[last++[hue]]}):=k4.trans (congrArg (aX.ok D.non) sr);rw[ao (bG k4')];generalize hB1:({B with rows:=rs++[last++[hue]]}:Bs)=B1;have t1:B1.tch=B.tch:=by rw[<-hB1]
 have g1:B1.grd=B.grd:=by rw[<-hB1]
 have gits:cj (ae 5) ρ (aq M0 fr B1)=O ⟨cs.map (mL xn),Y⟩ (aq M0 fr B1):=by
  unfold cj;rw[v5];rfl
 have ec:=mZ (ds0:=cs.map (mL xn)) (n:=3) (sg:=bB [0,1,2]) (ge:=fo) (ρ:=ρ) (f:=λd=>match d with | .tup [_,n,_]=>n|d=>d) (M:=aq M0 fr B1) (cs.map (mL xn)) (λd hd=>by
  obtain⟨q,_,rfl⟩:=mem_map.mp hd;exact⟨[Z (I q.r),Z (I q.n),Z (I (eN xn q))]++ρ,rfl,rfl⟩)
 have em2:(cs.map (mL xn)).map (λd=>match d with | .tup [_,n,_]=>n|d=>d)=(cs.map Sn.n).map I:=by
  rw[map_map,map_map];rfl
 rw[em2] at ec;have lns:(cs.map Sn.n).length<=12:=by rw[length_map];exact cl
 generalize cs.map Sn.n=ns at *;have k5:bY (cj (ae 5)) 3 (bB [0,1,2]) cb fo aP ρ (aq M0 fr B1)=O (.lst (ns.map I)) (aq M0 fr B1):=by
  unfold bY;rw[gits,ah];dsimp only;rw[ec,ah];unfold aP;rw[if_pos (a7 (by rw[length_map];omega))]
 rw[ao (aH k5)];generalize hρ2:ρ.set 11 (Z (.lst (ns.map I)))=ρ2;have u0:∀M,ae 0 ρ2 M=O (R M0.length) M:=λM=>by rw[<-hρ2,<-hρ];rfl
 have u1:∀M,ae 1 ρ2 M=O (I row) M:=λM=>by rw[<-hρ2,<-hρ];rfl
 have u2:∀M,ae 2 ρ2 M=O (I (xn:Int)) M:=λM=>by rw[<-hρ2,<-hρ];rfl
 have u3:∀M,ae 3 ρ2 M=O (U (fl.map I)) M:=λM=>by rw[<-hρ2,<-hρ];rfl
 have u11:∀M,ae 11 ρ2 M=O (.lst (ns.map I)) M:=λM=>by rw[<-hρ2,<-hρ];rfl
 have args:∀M,aa (ae 11) (aa (ae 1) (aa (ae 2) af)) ρ2 M=O [.lst (ns.map I),I row,I (xn:Int)] M:=λM=>ay (u11 M) (ay (u1 M) (ay (u2 M) rfl))
 have k6:=jj (c:="Beam") (m:="keep_touches") (n:=4) (u0 _) (fF (M0:=M0) (fr:=fr) (B:=B1)) rfl (args _) rfl (zj (row:=row) (x:=(xn:Int)) lns (by rw[t1];exact ht));rw[ao (bG k6),t1];have tst:∀M,aI (g2 (aV true) (g2 bb (ae 3) (ae 2)) (gC (I 0))) ρ2 M=O (!decide (fk=0)) M:=λM=>aZ (aw (aw (f:=bb) (u3 M) (u2 M) (ax M)) rfl (wk fk 0 M))
 by_cases hz:fk=0
 ·rw[bp ((tst _).trans (by rw[hz];rfl)),if_pos hz,<-hB1];rfl
 ·rw[bH ((tst _).trans (by rw[decide_eq_false hz];rfl)),if_neg hz];have k7:=jj (c:="Beam") (m:="keep_grounds") (n:=4) (u0 _) (fF (M0:=M0) (fr:=fr) (B:={B1 with tch:=iD ns (U [I row,I (xn:Int)]) B.tch ns.length})) rfl (args _) rfl (zQ (row:=row) (x:=(xn:Int)) (ns:=ns) (by show B1.grd.length+_<_;rw[g1];omega));rw[bG k7,<-hB1];rfl
def xM {p:Int}(hp:0<p):((t+1) / p=t / p/\(t+1) % p=t % p+1)\/(t+1) % p=0:=by
 have a:=Int.emod_add_mul_ediv (t+1) p;have b:=Int.emod_add_mul_ediv t p;have c1:=Int.emod_nonneg t (Int.ne_of_gt hp);have c2:=Int.emod_lt_of_pos t hp;have c3:=Int.emod_nonneg (t+1) (Int.ne_of_gt hp);have c4:=Int.emod_lt_of_pos (t+1) hp;have e1:p*((t+1) / p)-p*(t / p)=1+t % p-(t+1) % p:=by omega
 rw[<-Int.mul_sub] at e1;rcases Int.lt_trichotomy ((t+1) / p-t / p) 0 with z|z|z
 ·have:p*((t+1) / p-t / p)<=p*(-1):=Int.mul_le_mul_of_nonneg_left (by omega) (by omega);omega
 ·rw[z] at e1;exact .inl ⟨by omega,by omega⟩
 ·have:p*1<=p*((t+1) / p-t / p):=Int.mul_le_mul_of_nonneg_left (by omega) (by omega);exact .inr (by omega)
structure pX (w g m mm:Int)(s:cS)(t:Int)(B:Bs):Prop where
 te:B.t=t
 st:B.st=s.d
 p:B.Pure
 tch:B.tch.length<=144*t.toNat
 grd:B.grd.length<=12*t.toNat
 lost:B.lost.length<=12*t.toNat
 rl:B.rows.length<=t.toNat
 rr:∀r∈B.rows,r.length<=t.toNat
 row:0<t % (w+g)->t % (w+g)<w->∃s0,bO mm s0/\B.tk=gj s0 w m (t / (w+g))/\B.rows≠[]
def yf {M0:az}{s0:cS}{w hue:Int}{fs:cS}(hm:mm<=12)(ok0:bO mm s0)(h0:0<=t)(hp:0<w+g)
  (i1:B.t=t) (i2:B.st=s.d) (i3:B.Pure) (i4:B.tch.length<=144*t.toNat) (i5:B.grd.length<=12*t.toNat) (i6:B.lost.length<=12*(t.toNat+1)) (i7:B.rows.length<=t.toNat+1) (i8:∀r∈B.rows,r.length<=t.toNat)
  (htk:B.tk=gj s0 w m (t / (w+g))) (hr:B.rows=rs++[last]):pX w g m mm s (t+1) {B.laid s0 w m (t / (w+g)) (t % (w+g)) hue rs last with t:=t+1}:=by
 have e:(t+1).toNat=t.toNat+1:=by omega
 have pz:aT 30 (U [I (t / (w+g)),I (t % (w+g))])=true:=rfl;have sl:((f6 (t % (w+g)) (fu s0 m (t / (w+g)))).map Sn.n).length<=12:=by
  rw[length_map];exact Nat.le_trans (wF _ _) (Bj ok0 hm)
 refine⟨rfl,i2,⟨i3.st,i3.tk,sO pz i3.tch _,?_,i3.lost⟩,?_,?_,?_,?_,?_,?_⟩
 ·unfold Bs.laid;dsimp only;split
  ·exact i3.grd
  ·exact pF _ pz _ _ i3.grd
 ·show(iD _ _ B.tch _).length<=_;have:=qi ((f6 (t % (w+g)) (fu s0 m (t / (w+g)))).map Sn.n) (U [I (t / (w+g)),I (t % (w+g))]) B.tch ((f6 (t % (w+g)) (fu s0 m (t / (w+g)))).map Sn.n).length;have b:((f6 (t % (w+g)) (fu s0 m (t / (w+g)))).map Sn.n).length*((f6 (t % (w+g)) (fu s0 m (t / (w+g)))).map Sn.n).length<=12*12:=Nat.mul_le_mul sl sl;omega
 ·unfold Bs.laid;dsimp only;split
  ·omega
  ·have:=mF (κ:=eC) (λn=>Sum.inl n) (U [I (t / (w+g)),I (t % (w+g))]) ((f6 (t % (w+g)) (fu s0 m (t / (w+g)))).map Sn.n) B.grd;unfold uP;omega
 ·show B.lost.length<=_;omega
 ·show(rs++[last++[hue]]).length<=_;rw[hr,length_append] at i7;rw[length_append];simp only[length_singleton] at *;omega
 ·show∀r∈rs++[last++[hue]],_;intro r hr';rcases mem_append.mp hr' with q|q
  ·have:=i8 r (by rw[hr];exact mem_append_left _ q);omega
  ·rw[mem_singleton] at q;have:=i8 last (by rw[hr];simp);rw[q,length_append,length_singleton];omega
 ·intro h1 h2;have d:(t+1) / (w+g)=t / (w+g):=by
   rcases xM hp with⟨q,_⟩|q
   ·exact q
   ·omega
  refine⟨s0,ok0,?_,?_⟩
  ·show B.tk=_;rw[htk,d]
  ·show rs++[last++[hue]]≠[];simp
variable{fs:List (Str×D)}
def jD {f:Str}{gv:GE}{L L':az}{y:D}(hv:gv ρ (M0++(.obj "Beam" fs::L))=O y (M0++(.obj "Beam" fs::L')))(hρ:∀M,ae 0 ρ M=O (R M0.length) M)(hl:fs.length<1000) :
  fX "Beam" f (ae 0) gv ρ (M0++(.obj "Beam" fs::L))=O (.nx ρ) (M0++(.obj "Beam" (fL f y fs)::L')):=by
 have e:(M0++(MO.obj "Beam" fs::L'))[M0.length]?=Z (.obj "Beam" fs):=by rw[getElem?_append_right (Nat.le_refl _)];simp
 rw[wY hv (hρ _) e hl];congr 1;rw[set_append_right _ _ (Nat.le_refl _),Nat.sub_self];rfl
def Bv {L:az}:kr af ρ (M0++L)=O (R (M0.length+L.length)) (M0++(L++[.lst []])):=by
 rw[oy,length_append,append_assoc]
def O6 {L:az}:yH ρ (M0++L)=O (R (M0.length+L.length)) (M0++(L++[.dK []])):=by
 show aX.ok (D.mr (M0++L).length) (M0++L++[.dK []])=_;rw[length_append,append_assoc]
def O1 {L:az}:yQ ρ (M0++L)=O (R (M0.length+L.length)) (M0++(L++[.dT []])):=by
 show aX.ok (D.mr (M0++L).length) (M0++L++[.dT []])=_;rw[length_append,append_assoc]
def vC (st:D):Bs:=⟨st,0,U [U [],U []],[],[],[],[]⟩
def JD (hc:∀M,aE [fr,st] M=O .non M):bX [R M0.length,fr,st] (M0++[.obj "Beam" []])=O .non (aq M0 fr (vC st)):=by
 show aC (cY [Z (R M0.length),Z fr,Z st] _)=_;unfold cY;have hρ:∀M,ae 0 [Z (R M0.length),Z fr,Z st] M=O (R M0.length) M:=λM=>rfl
 have k0:=bG (bh (F:=aE) (a:=ae 1) (b:=ae 2) (ρ:=[Z (R M0.length),Z fr,Z st]) (M:=M0++[MO.obj "Beam" []]) rfl rfl (hc _));rw[ao k0];rw[ao (jD (gv:=ae 1) rfl hρ (by decide))];rw[ao (jD (gv:=ae 2) rfl hρ (Nat.lt_of_lt_of_eq (by decide:1<1000) rfl))];rw[ao (jD (gv:=gC (I 0)) rfl hρ (Nat.lt_of_lt_of_eq (by decide:2<1000) rfl))];rw[ao (jD (bg (ds:=[U [],U []]) rfl (by decide)) hρ (Nat.lt_of_lt_of_eq (by decide:3<1000) rfl))];rw[ao (jD Bv hρ (Nat.lt_of_lt_of_eq (by decide:4<1000) rfl))];rw[ao (jD O1 hρ (Nat.lt_of_lt_of_eq (by decide:5<1000) rfl))];rw[ao (jD O6 hρ (Nat.lt_of_lt_of_eq (by decide:6<1000) rfl))];rw[jD Bv hρ (Nat.lt_of_lt_of_eq (by decide:7<1000) rfl)];rfl
variable{c:Str}
def DQ (hc:∀M,aE [fr,st] M=.err c M):bX [R M0.length,fr,st] (M0++[.obj "Beam" []])=.err c (M0++[.obj "Beam" []]):=by
 show aC (cY [Z (R M0.length),Z fr,Z st] _)=_;unfold cY;have k0:bA (aj 2 aE (aa (ae 1) (aa (ae 2) af))) [Z (R M0.length),Z fr,Z st] (M0++[.obj "Beam" []])=.err c (M0++[.obj "Beam" []]):=by
  unfold bA;rw[bh rfl rfl (hc _)];rfl
 rw[vE k0];rfl
variable{ga:GA}
def Bl (ha:ga ρ M0=O [fr,st] M0)(hc:∀M,aE [fr,st] M=O .non M):iC "Beam" 3 bX ga ρ M0=O (R M0.length) (aq M0 fr (vC st)):=by
 unfold iC;rw[ha,ah,if_pos (show [fr,st].length+1=3 from rfl),JD hc,ah]
def Fm (ha:ga ρ M0=O [fr,st] M0)(hc:∀M,aE [fr,st] M=.err c M):iC "Beam" 3 bX ga ρ M0=.err c (M0++[.obj "Beam" []]):=by
 unfold iC;rw[ha,ah,if_pos (show [fr,st].length+1=3 from rfl),DQ hc];rfl
def Rn {w:Int}(ps:aT 30 s.d=true):pX w g m mm s 0 (vC s.d):=
 ⟨rfl,rfl,⟨ps,rfl,λ_ h=>(by cases h),λ_ h=>(by cases h),λ_ h=>(by cases h)⟩,Nat.zero_le _,Nat.zero_le _,Nat.zero_le _,Nat.zero_le _,λ_ h=>(by cases h),λh=>(by simp at h)⟩
def oM.uniq {fl k':Int}(h:oM x fl (f6 x (fu s m row)) k)(h':oM x fl (f6 x (fu s m row)) k'):k=k':=by
 have nf:∀b∈f6 x (fu s m row),b=uQ s row b.n:=λb hb=>by
  obtain⟨n,_,rfl⟩:=mem_map.mp (mem_filter.mp hb).1;have e:(uQ s row n).n=n:=by
   unfold uQ;split <;> rfl
  rw[e]
 rcases h with⟨e,rfl⟩|⟨b,hb,hl,rfl⟩
 ·rcases h' with⟨_,rfl⟩|⟨b,hb,_⟩
  ·rfl
  ·rw[e] at hb;cases hb
 ·rcases h' with⟨e,rfl⟩|⟨b',hb',hl',rfl⟩
  ·rw[e] at hb;cases hb
  ·have a1:Ha b b':=hl b' hb';have a2:Ha b' b:=hl' b hb;unfold Ha at a1 a2;have e:b.n=b'.n:=by omega
   have e2:b=b':=by rw[nf b hb,nf b' hb',e]
   rw[e2]
def A9 {s0:cS}{w:Int}(p:B.Pure)(hs:B.st=s.d)(ok:bO mm s)(ok0:bO mm s0)(hm:mm<=12)(f:gR w h g m)
  (htk:B.tk=gj s0 w m row) (hx:0<=x/\x<w) (hr:B.rows=rs++[last]) (hl:last.length<100000) (ht:B.tch.length<900000) (hg:B.grd.length<900000) :
  ∃ink hue,oM x ((GY s0 w row).getD x.toNat 0) (f6 x (fu s0 m row)) ink/\s.pots[ink.toNat]?=Z hue/\0<=ink/\
   ∀M0,dB M0->eA [R M0.length,I row,I x] (aq M0 (bc w h g m) B)=O .non (aq M0 (bc w h g m) (B.laid s0 w m row x hue rs last)):=by
 obtain⟨ink,hue,h1,h2,h3,_⟩:=E7 (M0:=[]) (row:=row) rfl p hs ok ok0 hm f htk hx hr hl ht hg;refine⟨ink,hue,h1,h2,h3,λM0 h0=>?_⟩;obtain⟨ink',hue',k1,k2,_,e⟩:=E7 (M0:=M0) (row:=row) h0 p hs ok ok0 hm f htk hx hr hl ht hg;have e1:=oM.uniq h1 k1;subst e1;rw[h2] at k2;cases k2;exact e
section
variable {M0:az}{B B2:Bs}{w h g m t:Int}
def D6 (x1 x2:Option D)(hB:B.t=t):Iw "Beam" "ahead" (ae 0) (gC (I 1)) [Z (R M0.length),x1,x2] (aq M0 (bc w h g m) B)=O (.nx [Z (R M0.length),x1,x2]) (aq M0 (bc w h g m) {B with t:=t+1}):=by
 have a:=J4 (go:=ae 0) (gv:=gC (I 1)) (ρ:=[Z (R M0.length),x1,x2]) (M:=aq M0 (bc w h g m) B) rfl fF AD rfl (by rw[hB];rfl) fF xp;rw[a,Qq]
def xY (f:gR w h g m)(h0:0<=t)(h1:t<h*(w+g))(te:B.t=t):aj 2 ji (aa (d7 "Beam" "frame" (ae 0)) (aa (d7 "Beam" "ahead" (ae 0)) af)) [Z (R M0.length),Y,Y] (aq M0 (bc w h g m) B)=O (nL w g t) (aq M0 (bc w h g m) B):=
 bh (dP rfl fF o3) (dP rfl fF AD) (by rw[te];exact FY f h0 h1)
def E8 (f:gR w h g m)(h0:0<=t)(h1:t<h*(w+g))(te:B.t=t)(hz:¬t % (w+g)<w):eZ [R M0.length] (aq M0 (bc w h g m) B)=O .non (aq M0 (bc w h g m) {B with t:=t+1}):=by
 have c1:=xY (M0:=M0) f h0 h1 te;have pl:nL w g t=U [I (t / (w+g)),.non]:=by unfold nL;rw[if_neg hz]
 rw[pl] at c1;show aC (dO [Z (R M0.length),Y,Y] _)=_;unfold dO;rw[ao (pH (sg:=bB [1,2]) c1 (ρ1:=[Z (R M0.length),Z (I (t / (w+g))),Z .non]) rfl)];have tst:∀M,aI (g2 (aV false) (ae 2) (gC (I 0))) [Z (R M0.length),Z (I (t / (w+g))),Z .non] M=O false M:=λM=>rfl
 have tst2:∀M,aI (g2 (kI true) (ae 2) (gC .non)) [Z (R M0.length),Z (I (t / (w+g))),Z .non] M=O false M:=λM=>rfl
 rw[ao ((bp (tst _)).trans rfl),ao ((bp (tst2 _)).trans rfl),D6 _ _ te];rfl
def Br {B1:Bs}(f:gR w h g m)(h0:0<=t)(h1:t<h*(w+g))(te:B.t=t)(te2:B2.t=t)(hz:t % (w+g)<w)
  (h2:(t % (w+g)=0/\ej [R M0.length,I (t / (w+g))] (aq M0 (bc w h g m) B)=O .non (aq M0 (bc w h g m) B1))\/(t % (w+g)≠0/\B1=B))
  (h3:eA [R M0.length,I (t / (w+g)),I (t % (w+g))] (aq M0 (bc w h g m) B1)=O .non (aq M0 (bc w h g m) B2)) :
  eZ [R M0.length] (aq M0 (bc w h g m) B)=O .non (aq M0 (bc w h g m) {B2 with t:=t+1}):=by
 have c1:=xY (M0:=M0) (B:=B) f h0 h1 te;have pl:nL w g t=U [I (t / (w+g)),I (t % (w+g))]:=by unfold nL;rw[if_pos hz]
 rw[pl] at c1;show aC (dO [Z (R M0.length),Y,Y] _)=_;unfold dO;rw[ao (pH (sg:=bB [1,2]) c1 (ρ1:=[Z (R M0.length),Z (I (t / (w+g))),Z (I (t % (w+g)))]) rfl)];have tst:∀M,aI (g2 (aV false) (ae 2) (gC (I 0))) [Z (R M0.length),Z (I (t / (w+g))),Z (I (t % (w+g)))] M=O (decide (t % (w+g)=0)) M:=λM=>aZ (aw rfl rfl (l5 _ 0 M))
 have tst2:∀M,aI (g2 (kI true) (ae 2) (gC .non)) [Z (R M0.length),Z (I (t / (w+g))),Z (I (t % (w+g)))] M=O true M:=λM=>rfl
 have e2:cO (aI (g2 (aV false) (ae 2) (gC (I 0)))) (bA (eO "Beam" "take_row" 2 ej (ae 0) (aa (ae 1) af))) aG [Z (R M0.length),Z (I (t / (w+g))),Z (I (t % (w+g)))] (aq M0 (bc w h g m) B)=O (.nx [Z (R M0.length),Z (I (t / (w+g))),Z (I (t % (w+g)))]) (aq M0 (bc w h g m) B1):=by
  rcases h2 with⟨hx,k⟩|⟨hx,k⟩
  ·exact(bH ((tst (aq M0 (bc w h g m) B)).trans (by rw[decide_eq_true hx]))).trans (bG (jj (m:="take_row") (n:=2) (go:=ae 0) (ga:=aa (ae 1) af) (ρ:=[Z (R M0.length),Z (I (t / (w+g))),Z (I (t % (w+g)))]) rfl fF rfl (ds:=[I (t / (w+g))]) rfl rfl k))
  ·rw[k];exact(bp ((tst (aq M0 (bc w h g m) B)).trans (by rw[decide_eq_false hx]))).trans rfl
 rw[ao e2];have k3:=jj (m:="lay_spot") (n:=3) (go:=ae 0) (ga:=aa (ae 1) (aa (ae 2) af)) (ρ:=[Z (R M0.length),Z (I (t / (w+g))),Z (I (t % (w+g)))]) rfl fF rfl (ds:=[I (t / (w+g)),I (t % (w+g))]) rfl rfl h3;rw[ao ((bH (tst2 (aq M0 (bc w h g m) B1))).trans (bG k3)),D6 _ _ te2];rfl
end
def EQ {w:Int}(ok:bO mm s)(hm:mm<=12)(f:gR w h g m)(ht0:0<=t)(ht1:t<h*(w+g))(ht2:t<=3000)(iv:pX w g m mm s t B) :
  ∃B',pX w g m mm s (t+1) B'/\∀M0,dB M0->eZ [R M0.length] (aq M0 (bc w h g m) B)=O .non (aq M0 (bc w h g m) B'):=by
 have hp:0<w+g:=by have:=f.w;have:=f.g;omega
 by_cases hz:t % (w+g)<w
 ·have x0:=Int.emod_nonneg t (Int.ne_of_gt hp)
  by_cases hx:t % (w+g)=0
  ·generalize hB1:({B with tk:=gj s w m (t / (w+g)),rows:=B.rows++[[]],lost:=B.lost++lI (t / (w+g)) (lQ (cM s (t / (w+g))) (Z m) Y)}:Bs)=B1;have j1:B1.t=t:=by rw[<-hB1];exact iv.te
   have j2:B1.st=s.d:=by rw[<-hB1];exact iv.st
   have jl:(lI (t / (w+g)) (lQ (cM s (t / (w+g))) (Z m) Y)).length<=12:=by
    unfold lI;rw[length_map];exact Nat.le_trans (uC _ _ _) (zI ok hm)
   have j3:B1.Pure:=by
    rw[<-hB1];refine⟨iv.p.st,uz s w m _,iv.p.tch,iv.p.grd,λp hp'=>?_⟩;rcases mem_append.mp hp' with q|q
    ·exact iv.p.lost p q
    ·obtain⟨n,_,rfl⟩:=mem_map.mp q;rfl
   have j6:B1.lost.length<=12*(t.toNat+1):=by
    rw[<-hB1];show(B.lost++_).length<=_;rw[length_append];have:=iv.lost;omega
   have j7:B1.rows.length<=t.toNat+1:=by
    rw[<-hB1];show(B.rows++[[]]).length<=_;rw[length_append];have:=iv.rl;simp only[length_singleton];omega
   have j8:∀r∈B1.rows,r.length<=t.toNat:=by
    rw[<-hB1];intro r hr;rcases mem_append.mp hr with q|q
    ·exact iv.rr r q
    ·rw[mem_singleton] at q;rw[q];exact Nat.zero_le _
   have jt:B1.tch=B.tch:=by rw[<-hB1]
   have jg:B1.grd=B.grd:=by rw[<-hB1]
   have jk:B1.tk=gj s w m (t / (w+g)):=by rw[<-hB1]
   have jr:B1.rows=B.rows++[[]]:=by rw[<-hB1]
   obtain⟨ink,hue,_,_,_,ey⟩:=A9 (row:=t / (w+g)) j3 j2 ok ok hm f jk ⟨x0,hz⟩ jr (by decide) (by rw[jt];have:=iv.tch;omega) (by rw[jg];have:=iv.grd;omega);refine⟨_,yf (M0:=[]) (fs:=s) (hue:=hue) hm ok ht0 hp j1 j2 j3 (by rw[jt];exact iv.tch) (by rw[jg];exact iv.grd) j6 j7 j8 jk jr,λM0 h0=>?_⟩;have tk:=Jc (row:=t / (w+g)) h0 iv.p iv.st ok hm f (by have:=iv.lost;omega) (by have:=iv.rl;omega);rw[hB1] at tk;exact Br f ht0 ht1 iv.te j1 hz (.inl ⟨hx,tk⟩) (ey M0 h0)
  ·obtain⟨s0,ok0,jk,jn⟩:=iv.row (by omega) hz;obtain⟨rs,last,jr⟩:∃rs last,B.rows=rs++[last]:=⟨B.rows.dropLast,B.rows.getLast jn,(dropLast_concat_getLast jn).symm⟩;have jll:last.length<100000:=by
    have:=iv.rr last (by rw[jr];simp);omega
   obtain⟨ink,hue,_,_,_,ey⟩:=A9 (row:=t / (w+g)) iv.p iv.st ok ok0 hm f jk ⟨x0,hz⟩ jr jll (by have:=iv.tch;omega) (by have:=iv.grd;omega);refine⟨_,yf (M0:=[]) (fs:=s) (hue:=hue) hm ok0 ht0 hp iv.te iv.st iv.p iv.tch iv.grd (by have:=iv.lost;omega) (by have:=iv.rl;omega) iv.rr jk jr,λM0 h0=>?_⟩;exact Br f ht0 ht1 iv.te iv.te hz (.inr ⟨hx,rfl⟩) (ey M0 h0)
 ·refine⟨{B with t:=t+1},⟨rfl,iv.st,⟨iv.p.st,iv.p.tk,iv.p.tch,iv.p.grd,iv.p.lost⟩,by have:=iv.tch;show B.tch.length<=_;omega,by have:=iv.grd;show B.grd.length<=_;omega,by have:=iv.lost;show B.lost.length<=_;omega,by have:=iv.rl;show B.rows.length<=_;omega,λr hr=>by have:=iv.rr r hr;omega,?_⟩,λM0 _=>E8 f ht0 ht1 iv.te hz⟩;intro h1 h2;exfalso;rcases xM (t:=t) hp with⟨_,q⟩|q <;> omega
theorem vZ {s:cS}{w h g m mm e:Int}(ok:bO mm s)(hm:mm<=12)(f:gR w h g m)(he:e<=h*(w+g))(he2:e<=3000){x1:Option D}:∀(n fuel:Nat) (t:Int) (B:Bs),0<=t->t+n=e->n<fuel->pX w g m mm s t B->
  ∃B',pX w g m mm s e B'/\∀M0,dB M0->fM gX iX fuel [Z (R M0.length),x1,Z (I e)] (aq M0 (bc w h g m) B)=O (.nx [Z (R M0.length),x1,Z (I e)]) (aq M0 (bc w h g m) B')
 | n,0,t,B,_,_,hf,_=>by omega
 | 0,fuel+1,t,B,h1,h2,_,iv=>by
  have e1:t=e:=by omega
  subst e1;refine⟨B,iv,λM0 h0=>z7 ?_⟩;unfold gX;exact aZ (aw (dP rfl fF AD) rfl (by rw[iv.te];show aX.ok (D.bl (decide (t<t))) _=_;rw[decide_eq_false (by omega)]))
 | n+1,fuel+1,t,B,h1,h2,hf,iv=>by
  obtain⟨B1,iv1,e1⟩:=EQ ok hm f h1 (by omega) (by omega) iv;obtain⟨B',iv',e2⟩:=vZ ok hm f he he2 (x1:=x1) n fuel (t+1) B1 (by omega) (by omega) (by omega) iv1;refine⟨B',iv',λM0 h0=>?_⟩;rw[<-e2 M0 h0];refine FH (M1:=aq M0 (bc w h g m) B) ?_ ?_
  ·unfold gX;exact aZ (aw (dP rfl fF AD) rfl (by rw[iv.te];show aX.ok (D.bl (decide (t<e))) _=_;rw[decide_eq_true (by omega)]))
  ·unfold iX;exact bG (jj (go:=ae 0) rfl fF rfl rfl rfl (e1 M0 h0))
def Dw {w:Int}(ok:bO mm s)(hm:mm<=12)(f:gR w h g m)(ht0:0<=t)(hk:0<=k)(he:t+k<=h*(w+g))(iv:pX w g m mm s t B) :
  ∃B',pX w g m mm s (t+k) B'/\∀M0,dB M0->m9 [R M0.length,I k] (aq M0 (bc w h g m) B)=O .non (aq M0 (bc w h g m) B'):=by
 have hb:h*(w+g)<=40*60:=by
  have a:=f.w;have b:=f.g;have c:=f.h;exact Int.mul_le_mul (by omega) (by omega) (by omega) (by omega)
 obtain⟨B',iv',ew⟩:=vZ (x1:=Z (I k)) ok hm f he (by omega) k.toNat 5000 t B ht0 (by omega) (by omega) iv;refine⟨B',iv',λM0 h0=>?_⟩;show aC (m5 [Z (R M0.length),Z (I k),Y] _)=_;unfold m5;have q0:(aq M0 (bc w h g m) B)[M0.length]?=Z (.obj "Beam" (cE (bc w h g m) M0.length B)):=fF;have k1:=aH (i:=2) (aw (f:=bC) (dP (g:=ae 0) (ρ:=[Z (R M0.length),Z (I k),Y]) (f:="ahead") rfl q0 AD) (b:=ae 1) rfl (by rw[iv.te];rfl));rw[ao k1];have c1:=cG (F:=cL) (dP (g:=ae 0) (ρ:=[Z (R M0.length),Z (I k),Z (I (t+k))]) (f:="frame") rfl q0 o3) (fK f);have tst:=aZ (aw (f:=xI) (a:=ae 2) (ρ:=[Z (R M0.length),Z (I k),Z (I (t+k))]) rfl c1 (by show aX.ok (D.bl (decide (t+k>h*(w+g)))) _=_;rw[decide_eq_false (by omega)]));refine(congrArg aC (ao ((bp tst).trans rfl))).trans ?_;show aC (fM gX iX 5000 [Z (R M0.length),Z (I k),Z (I (t+k))] _)=_;rw[ew M0 h0];rfl
def Iz {w:Int}(f:gR w h g m):iY [R M0.length] (aq M0 (bc w h g m) B)=O (G (decide (B.t=h*(w+g)))) (aq M0 (bc w h g m) B):=by
 show aC (gE [Z (R M0.length)] _)=_;unfold gE;have q0:(aq M0 (bc w h g m) B)[M0.length]?=Z (.obj "Beam" (cE (bc w h g m) M0.length B)):=fF;rw[aO (aw (dP rfl q0 AD) (cG (dP rfl q0 o3) (fK f)) (l5 _ _ _))];rfl
def Dz {w:Int}(ok:bO mm s)(hm:mm<=900)(f:gR w h g m)(hs:B.st=s.d)(hd:jq s dd)(ht:B.t≠h*(w+g)) :
  lY [R M0.length,dd.d] (aq M0 (bc w h g m) B)=O .non (aq M0 (bc w h g m) {B with st:=(fq s dd).d}):=by
 show aC (jy [Z (R M0.length),Z dd.d] _)=_;unfold jy;have q0:(aq M0 (bc w h g m) B)[M0.length]?=Z (.obj "Beam" (cE (bc w h g m) M0.length B)):=fF;have k1:=bv (jj (c:="Beam") (m:="is_over") (n:=1) (go:=ae 0) (ga:=af) (ρ:=[Z (R M0.length),Z dd.d]) rfl q0 rfl (ds:=[]) rfl rfl (Iz (M0:=M0) (B:=B) f));rw[decide_eq_false ht] at k1;rw[ao ((bp k1).trans rfl)];have k2:=bh (F:=dH) (o:=O (fq s dd).d (aq M0 (bc w h g m) B)) (dP (g:=ae 0) (ρ:=[Z (R M0.length),Z dd.d]) rfl q0 Dv) (b:=ae 1) (y:=dd.d) rfl (by rw[hs];exact Ak ok hm hd);rw[wY k2 (rfl:ae 0 [Z (R M0.length),Z dd.d] (aq M0 (bc w h g m) B)=O (R M0.length) (aq M0 (bc w h g m) B)) q0 xp,Lp];rfl
def DB {w:Int}(iv:pX w g m mm s t B):pX w g m mm (fq s dd) t {B with st:=(fq s dd).d}:=
 ⟨iv.te,rfl,⟨yy _,iv.p.tk,iv.p.tch,iv.p.grd,iv.p.lost⟩,iv.tch,iv.grd,iv.lost,iv.rl,iv.rr,iv.row⟩
def DH (b:Nat)(n:Nat):nA (io b n) (io b n)=true:=g9 _
theorem mS {t:uH}{ge:GE}{ρ:bK}{f:D->D}{M:az}(ht:t.ok M=true):∀(ds:List D),(∀d∈ds,ge (Z d::ρ) M=O (f d) M)->gU t cb ge ds ρ M=O (ds.map f) M
 | [],h=>by
  unfold gU;rw[ht,if_pos rfl];rfl
 | d::ds,h=>by
  have ih:=mS ht ds λx hx=>h x (mem_cons_of_mem _ hx)
  unfold gU;rw[ht,if_pos rfl,show cb (Z d::ρ) M=O true M from rfl];dsimp only;rw[h d mem_cons_self];dsimp only;rw[ih];rfl
def zy (hr:B.rows.length<=90000):cP [R M0.length] (aq M0 fr B)=O (.lst (B.rows.map λr=>.lst (r.map I))) (aq M0 fr B):=by
 show aC (gD [Z (R M0.length)] _)=_;unfold gD;have fl:=dP (g:=ae 0) (ρ:=[Z (R M0.length)]) (M:=aq M0 fr B) (f:="laid_rows") rfl fF wI;have gi:cj (d7 "Beam" "laid_rows" (ae 0)) [Z (R M0.length)] (aq M0 fr B)=O ⟨io M0.length B.rows.length,Z (M0.length+1)⟩ (aq M0 fr B):=by
  unfold cj;rw[fl,ah];unfold v7;dsimp only;rw[Gi]
 have ht:(⟨io M0.length B.rows.length,Z (M0.length+1)⟩:uH).ok (aq M0 fr B)=true:=by
  unfold uH.ok;dsimp only;rw[Gi];exact DH _ _
 have ec:=mS (ge:=eD) (ρ:=[Z (R M0.length)]) (f:=λd=>match d with | .mr k=>.lst ((B.rows.getD (k-(M0.length+5)) []).map I)|d=>d) ht (io M0.length B.rows.length) (λd hd=>by
  obtain⟨i,hi,rfl⟩:=mem_map.mp hd;have hi:=mem_range.mp hi;have gr:B.rows[i]?=Z B.rows[i]:=getElem?_eq_getElem hi;unfold eD;refine jQ rfl ?_;unfold lN bN;dsimp only;rw[AI gr];show aX.ok (D.lst (B.rows[i].map I)) _=_;have e:(B.rows.getD (M0.length+5+i-(M0.length+5)) [])=B.rows[i]:=by
   rw[Nat.add_sub_cancel_left,List.getD,gr];rfl
  rw[e])
 have em:(io M0.length B.rows.length).map (λd=>match d with | .mr k=>.lst ((B.rows.getD (k-(M0.length+5)) []).map I)|d=>d)=B.rows.map λr=>D.lst (r.map I):=by
  unfold io;rw[map_map];apply ext_getElem
  ·simp
  ·intro i q1 q2;simp at q1 q2 ⊢;simp[q2]
 rw[em] at ec;have gc:bq (cj (d7 "Beam" "laid_rows" (ae 0))) cb eD aP [Z (R M0.length)] (aq M0 fr B)=O (.lst (B.rows.map λr=>.lst (r.map I))) (aq M0 fr B):=by
  unfold bq;rw[gi,ah];dsimp only;rw[ec,ah];unfold aP;rw[if_pos (a7 (by rw[length_map];omega))]
 rw[aO gc];rfl
def Ik {F:FD}{M2:az}{k:Nat}{m:Str}{r:aX D}(h:go ρ M=O (R k) M1)(hM:M1[k]?=Z (.obj c fs))(hn:fs.lookup m=Y)
  (ha:ga ρ M1=O ds M2) (hl:ds.length+1=n) (hF:F (R k::ds) M2=r):eO c m n F go ga ρ M=r:=by
 unfold eO;rw[h,ah,sH hM];dsimp only;rw[if_pos hn,ha,ah,if_pos hl,hF]
def eP (td:List (Int×Dd)):List D:=td.map λp=>U [I p.1,p.2.d]
structure eR (T:Int)(s:cS)(td:List (Int×Dd)):Prop where
 rng:∀p∈td,0<=p.1/\p.1<T
 ord:(td.map (·.1)).Pairwise (·<=·)
 dd:∀p∈td,jq s p.2
 len:td.length<64
def pQ {f:D->D}(hi:gi ρ M=O ⟨ds,Y⟩ M)(hl:ds.length<=100000)(h:∀d∈ds,∃ρ1,sg d (List.replicate n Y++ρ)=Z ρ1/\ge ρ1 M=O (f d) M) :
  bY gi n sg cb ge aP ρ M=O (.lst (ds.map f)) M:=by
 unfold bY;rw[hi,ah];dsimp only;rw[mZ ds h,ah];unfold aP;rw[if_pos (a7 (by rw[length_map];omega))]
theorem vI:∀ns:List Int,rj (ns.map I)=Z ns
 | []=>rfl
 | n::ns=>by
  show(rj (ns.map I)).map (n::·)=_;rw[vI ns];rfl
def vL (h:ns.Pairwise (·<=·)):sortI ns=ns:=pK (nU ns) (uo ns) h
def Ae (hl:ns.length<64):tL [.lst (ns.map I)] M=O (.lst ((sortI ns).map I)) M:=by
 show(match rj (ns.map I) with|some ns=>if ns.length<64 then aX.ok (D.lst ((sortI ns).map I)) M else .bad|none=>.bad)=_;rw[vI];show(if ns.length<64 then _ else _)=_;rw[if_pos hl]
def Ij {a b:List Int}:aV false (.lst (a.map I)) (.lst (b.map I)) M=O (G (decide (a=b))) M:=by
 have co:∀l:List Int,bi 40 (.lst (l.map I))=true:=λl=>dW λd hd=>by
  obtain⟨i,_,rfl⟩:=mem_map.mp hd;rfl
 have eb:∀a b:List Int,ki (a.map I) (b.map I)=decide (a=b):=by
  intro a
  induction a with
  | nil=>intro b;cases b with
   | nil=>rfl
   | cons x b=>rw[decide_eq_false (by simp)];rfl
  | cons x a ih=>intro b;cases b with
   | nil=>rw[decide_eq_false (by simp)];rfl
   | cons y b=>
    have e:ki ((x::a).map I) ((y::b).map I)=(decide (x=y)&&ki (a.map I) (b.map I)):=rfl;rw[e,ih,<-Bool.decide_and];exact decide_eq_decide.mpr (by simp)
 unfold aV;show(if(bi 40 (.lst (a.map I))&&bi 40 (.lst (b.map I)))=true then aX.ok (D.bl (mJ (.lst (a.map I)) (.lst (b.map I)) != false)) M else .bad)=_;rw[co,co];have e:mJ (.lst (a.map I)) (.lst (b.map I))=ki (a.map I) (b.map I):=rfl;rw[e,eb];simp
def dD (l:List (Int×D)):List D:=l.map λp=>U [I p.1,p.2]
def Fv (td:List (Int×Dd)):eP td=dD (td.map λp=>(p.1,p.2.d)):=by
 unfold eP dD;rw[map_map];rfl
def yo {T:List (Int×D)}{w:Int}(f:gR w h g m)(hl:T.length<64) :
  dm [bc w h g m,.lst (dD T)] M=O (G (decide (T.map (·.1)=sortI (T.map (·.1)))&&(T.map (·.1)).all λt=>decide (0<=t)&&decide (t<h*(w+g)))) M:=by
 show aC (iN [Z (bc w h g m),Z (.lst (dD T)),Y] M)=_;unfold iN;have ll:(dD T).length<=100000:=by unfold dD;rw[length_map];omega
 have c1:=pQ (gi:=cj (ae 1)) (n:=2) (sg:=bB [0,1]) (ge:=jR) (ρ:=[Z (bc w h g m),Z (.lst (dD T)),Y]) (M:=M) (f:=λd=>match d with | .tup [t,_]=>t|d=>d) (kP rfl) ll (λd hd=>by
  obtain⟨p,_,rfl⟩:=mem_map.mp hd;exact⟨[Z (I p.1),Z p.2,Z (bc w h g m),Z (.lst (dD T)),Y],rfl,rfl⟩)
 have em:(dD T).map (λd=>match d with | .tup [t,_]=>t|d=>d)=(T.map (·.1)).map I:=by
  unfold dD;rw[map_map,map_map];rfl
 rw[em] at c1;rw[ao (aH c1)];generalize hn:T.map (·.1)=ns at *;have nl:ns.length<64:=by rw[<-hn,length_map];exact hl
 have k1:g2 (aV false) (ae 2) (aQ tL (aa (ae 2) af)) [Z (bc w h g m),Z (.lst (dD T)),Z (.lst (ns.map I))] M=O (G (decide (ns=sortI ns))) M:=
  aw rfl (jQ (a:=ae 2) rfl (Ae nl)) Ij
 have k2:=lV (gi:=cj (ae 2)) (ge:=jO) (ρ:=[Z (bc w h g m),Z (.lst (dD T)),Z (.lst (ns.map I))]) (M:=M) (xs:=ns.map I) (p:=λd=>match d with | .int t=>decide (0<=t)&&decide (t<h*(w+g))|_=>true) (kP rfl) (by rw[length_map];omega) (λd hd=>by
  obtain⟨t,_,rfl⟩:=mem_map.mp hd;have tc:=cG (F:=cL) (a:=ae 1) (ρ:=[Z (I t),Z (bc w h g m),Z (.lst (dD T)),Z (.lst (ns.map I))]) (M:=M) rfl (fK f);show qJ oj qK (gC (I 0)) (ae 0) (aj 1 cL (aa (ae 1) af)) [Z (I t),Z (bc w h g m),Z (.lst (dD T)),Z (.lst (ns.map I))] M=_;unfold qJ;show(aX.ok (I 0) M).bind _=_;rw[ah];show(aX.ok (I t) M).bind _=_;rw[ah];show(aX.ok (D.bl (decide (0<=t))) M).bind _=_;rw[ah]
  by_cases q:0<=t
  ·rw[decide_eq_true q];dsimp only;rw[tc,ah];show aX.ok (D.bl (decide (t<h*(w+g)))) M=_;rw[decide_eq_true q,Bool.true_and]
  ·rw[decide_eq_false q];dsimp only;rw[decide_eq_false q,Bool.false_and])
 have ea:(ns.map I).all (λd=>match d with | .int t=>decide (0<=t)&&decide (t<h*(w+g))|_=>true)=ns.all λt=>decide (0<=t)&&decide (t<h*(w+g)):=by rw[all_map];rfl
 rw[ea] at k2;show aC (aK _ [Z (bc w h g m),Z (.lst (dD T)),Z (.lst (ns.map I))] M)=_;rw[aO (bR k1 λ_=>k2)];rfl
def Hx {T:List (Int×Dd)}{w:Int}(f:gR w h g m)(hl:T.length<64) :
  dm [bc w h g m,.lst (eP T)] M=O (G (decide (T.map (·.1)=sortI (T.map (·.1)))&&(T.map (·.1)).all λt=>decide (0<=t)&&decide (t<h*(w+g)))) M:=by
 rw[Fv,yo f (by rw[length_map];exact hl),map_map];rfl
variable{td:List (Int×Dd)}
def eR.hold {w:Int}(f:gR w h g m)(p:eR (h*(w+g)) s td):dm [bc w h g m,.lst (eP td)] M=O (G true) M:=by
 rw[Hx f p.len,vL p.ord,decide_eq_true rfl,Bool.true_and];have e:((td.map (·.1)).all λt=>decide (0<=t)&&decide (t<h*(w+g)))=true:=all_eq_true.mpr λt ht=>by
  obtain⟨q,hq,rfl⟩:=mem_map.mp ht;have:=p.rng q hq;simp[this.1,this.2]
 rw[e]
def xV (h:∀p∈td,jq s p.2)(hl:td.length<64) :
  aQ kL (aa (bY (cj (ae 2)) 2 (bB [0,1]) cb cH aP) af) [Z fr,Z s.d,Z (.lst (eP td))] M=O (G true) M:=by
 have ll:(eP td).length<=100000:=by unfold eP;rw[length_map];omega
 have c1:=pQ (gi:=cj (ae 2)) (n:=2) (sg:=bB [0,1]) (ge:=cH) (ρ:=[Z fr,Z s.d,Z (.lst (eP td))]) (M:=M) (f:=λ_=>G true) (kP rfl) ll (λd hd=>by
  obtain⟨p,hp,rfl⟩:=mem_map.mp hd;refine⟨[Z (I p.1),Z p.2.d,Z fr,Z s.d,Z (.lst (eP td))],rfl,?_⟩;unfold cH;exact bh rfl rfl (pR (h p hp)))
 refine jQ c1 ?_;have bo:∀ds:List D,cU (ds.map λ_=>D.bl true)=Z (ds.map λ_=>true):=λds=>AR (p:=λ_=>true) ds
 show(match cU ((eP td).map λ_=>D.bl true) with|some bs=>aX.ok (D.bl (bs.all id)) M|none=>.bad)=_;rw[bo];have e:((eP td).map λ_=>true).all id=true:=by simp
 show aX.ok (D.bl (((eP td).map λ_=>true).all id)) M=_;rw[e]
def JA {w:Int}(f:gR w h g m)(ok:bO mm s)(hm:mm<=12)(p:eR (h*(w+g)) s td):cA [bc w h g m,s.d,.lst (eP td)] M=O .non M:=by
 show aC (ce [Z (bc w h g m),Z s.d,Z (.lst (eP td))] M)=_;unfold ce;have hc:aE [bc w h g m,s.d] M=O .non M:=uF lq (oU ok (by omega)) (rW f) (tY ok hm);rw[ao (bG (bh (a:=ae 0) (b:=ae 1) (ρ:=[Z (bc w h g m),Z s.d,Z (.lst (eP td))]) rfl rfl hc))];have k1:=bL (bv (bh (a:=ae 0) (b:=ae 2) (ρ:=[Z (bc w h g m),Z s.d,Z (.lst (eP td))]) rfl rfl (p.hold (M:=M) f)));rw[ao ((bp k1).trans rfl),bp (bL (bv (xV p.dd p.len)))];rfl
def zz (s:cS)(dd:Dd):(fq s dd).movers.length=s.movers.length/\(fq s dd).book=s.book:=by
 have sm:∀i f,(iB s i f).movers.length=s.movers.length/\(iB s i f).book=s.book:=λi f=>by
  unfold iB;split
  ·exact⟨by simp,rfl⟩
  ·exact⟨rfl,rfl⟩
 cases dd <;> first|exact⟨rfl,rfl⟩|exact sm _ _
def C5 {d2:Dd}(h:jq s d2):jq (fq s dd) d2:=by
 obtain⟨e1,e2⟩:=zz s dd;cases d2 <;> simp only[jq,e1,e2] at*<;> exact h
def iP {ds0:List D}{b:GS}{d:D}{ρ1 ρ2:bK}(h1:sg d ρ=Z ρ1)(h2:b ρ1 M=O (.nx ρ2) M1):fW ⟨ds0,Y⟩ sg b (d::ds) ρ M=fW ⟨ds0,Y⟩ sg b ds ρ2 M1:=by
 show(match sg d ρ with|none=>aX.bad|some ρ1=>(b ρ1 M).bind λf M1=>match f with | .nx ρ2=>fW ⟨ds0,Y⟩ sg b ds ρ2 M1 | .ct ρ2=>fW ⟨ds0,Y⟩ sg b ds ρ2 M1 | .bk ρ2=>O (.nx ρ2) M1 | .rt d=>O (.rt d) M1)=_;rw[h1];dsimp only;rw[h2,ah]
def vp :f7 [R M0.length] (aq M0 fr B)=O (I B.t) (aq M0 fr B):=by
 show aC (jK [Z (R M0.length)] _)=_;unfold jK;rw[aO (dP rfl fF AD)];rfl
theorem yd {w h g m mm:Int}(hm:mm<=12)(f:gR w h g m)(x0 x1 x2:Option D)(ds0:List D):∀(td:List (Int×Dd)) (s:cS) (t:Int) (B:Bs),bO mm s->0<=t->t<=h*(w+g)->(∀p∈td,t<=p.1/\p.1<h*(w+g))->(td.map (·.1)).Pairwise (·<=·)->(∀p∈td,jq s p.2)->pX w g m mm s t B->
  ∃B' s' t',bO mm s'/\0<=t'/\t'<=h*(w+g)/\pX w g m mm s' t' B'/\∀M0,dB M0->∀x4 x5,∃y4 y5,fW ⟨ds0,Y⟩ (bB [4,5]) ng (eP td) [x0,x1,x2,Z (R M0.length),x4,x5] (aq M0 (bc w h g m) B)=O (.nx [x0,x1,x2,Z (R M0.length),y4,y5]) (aq M0 (bc w h g m) B')
 | [],s,t,B,ok,h0,hT,_,_,_,iv=>⟨B,s,t,ok,h0,hT,iv,λM0 _ x4 x5=>⟨x4,x5,rfl⟩⟩
 | p::td,s,t,B,ok,h0,hT,hr,ho,hd,iv=>by
  obtain⟨a1,a2⟩:=hr p (mem_cons_self ..);obtain⟨o1,o2⟩:=pairwise_cons.mp ho;obtain⟨B1,iv1,e1⟩:=Dw (k:=p.1-t) ok hm f h0 (by omega) (by omega) iv;rw[show t+(p.1-t)=p.1 by omega] at iv1;have d0:=hd p (mem_cons_self ..);have iv2:=DB (dd:=p.2) iv1;have ok2:=xt ok d0;obtain⟨B',s',t',ok',h0',hl',iv',e2⟩:=yd hm f x0 x1 x2 ds0 td (fq s p.2) p.1 _ ok2 (by omega) (by omega) (λq hq=>⟨o1 q.1 (mem_map.mpr ⟨q,hq,rfl⟩),(hr q (mem_cons_of_mem _ hq)).2⟩) o2 (λq hq=>C5 (hd q (mem_cons_of_mem _ hq))) iv2;refine⟨B',s',t',ok',h0',hl',iv',λM0 hM x4 x5=>?_⟩;obtain⟨y4,y5,e3⟩:=e2 M0 hM (Z (I p.1)) (Z p.2.d);refine⟨y4,y5,?_⟩;rw[<-e3];refine iP (ρ1:=[x0,x1,x2,Z (R M0.length),Z (I p.1),Z p.2.d]) rfl ?_;unfold ng;have kt:=jj (m:="tick") (n:=1) (go:=ae 3) (ga:=af) (ρ:=[x0,x1,x2,Z (R M0.length),Z (I p.1),Z p.2.d]) (M:=aq M0 (bc w h g m) B) rfl fF rfl (ds:=[]) rfl rfl (vp (M0:=M0) (B:=B));have ks:=aw (f:=eY) (o:=O (I (p.1-t)) (aq M0 (bc w h g m) B)) (a:=ae 4) rfl kt (by rw[iv.te];rfl);have kg:=jj (m:="go") (n:=2) (go:=ae 3) (ga:=aa (g2 eY (ae 4) (eO "Beam" "tick" 1 f7 (ae 3) af)) af) (ρ:=[x0,x1,x2,Z (R M0.length),Z (I p.1),Z p.2.d]) (M:=aq M0 (bc w h g m) B) rfl fF rfl (ds:=[I (p.1-t)]) (ay ks rfl) rfl (e1 M0 hM);rw[ao (bG kg)];exact bG (jj (m:="deed") (n:=2) (go:=ae 3) (ga:=aa (ae 5) af) (ρ:=[x0,x1,x2,Z (R M0.length),Z (I p.1),Z p.2.d]) (M:=aq M0 (bc w h g m) B1) rfl fF rfl (ds:=[p.2.d]) rfl rfl (Dz ok (by omega) f iv1.st d0 (by rw[iv1.te];omega)))
def yR {w:Int}(hm:mm<=12)(f:gR w h g m)(ok:bO mm s)(p:eR (h*(w+g)) s td) :
  ∃B' s',pX w g m mm s' (h*(w+g)) B'/\∀M0,dB M0->fU [bc w h g m,s.d,.lst (eP td)] M0=O (R M0.length) (aq M0 (bc w h g m) B'):=by
 have hp:0<=h*(w+g):=Int.mul_nonneg (by have:=f.h;omega) (by have:=f.w;have:=f.g;omega);have hc:∀M,aE [bc w h g m,s.d] M=O .non M:=λM=>uF lq (oU ok (by omega)) (rW f) (tY ok hm)
 obtain⟨B1,s1,t1,ok1,h1,h2,iv1,e1⟩:=yd hm f (Z (bc w h g m)) (Z s.d) (Z (.lst (eP td))) (eP td) td s 0 (vC s.d) ok (Int.le_refl 0) hp p.rng p.ord p.dd (Rn (yy s));obtain⟨B',iv',e2⟩:=Dw (k:=h*(w+g)-t1) ok1 hm f h1 (by omega) (by omega) iv1;rw[show t1+(h*(w+g)-t1)=h*(w+g) by omega] at iv';refine⟨B',s1,iv',λM0 h0=>?_⟩;obtain⟨y4,y5,e3⟩:=e1 M0 h0 Y Y;show aC (qj [Z (bc w h g m),Z s.d,Z (.lst (eP td)),Y,Y,Y] M0)=_;unfold qj;rw[ao (bG (cq (a:=ae 0) (ρ:=[Z (bc w h g m),Z s.d,Z (.lst (eP td)),Y,Y,Y]) rfl rfl rfl (JA f ok hm p)))];rw[ao (aH (Bl (ga:=aa (ae 0) (aa (ae 1) af)) (ρ:=[Z (bc w h g m),Z s.d,Z (.lst (eP td)),Y,Y,Y]) rfl hc))];have kf:js (cj (ae 2)) (bB [4,5]) ng [Z (bc w h g m),Z s.d,Z (.lst (eP td)),Z (R M0.length),Y,Y] (aq M0 (bc w h g m) (vC s.d))=_:=jM (t:=⟨eP td,Y⟩) (kP rfl) e3;rw[ao (show js (cj (ae 2)) (bB [4,5]) ng ([Z (bc w h g m),Z s.d,Z (.lst (eP td)),Y,Y,Y].set 3 (Z (R M0.length))) (aq M0 (bc w h g m) (vC s.d))=_ from kf)];have kt:=jj (m:="tick") (n:=1) (go:=ae 3) (ga:=af) (ρ:=[Z (bc w h g m),Z s.d,Z (.lst (eP td)),Z (R M0.length),y4,y5]) (M:=aq M0 (bc w h g m) B1) rfl fF rfl (ds:=[]) rfl rfl (vp (M0:=M0) (B:=B1));have ks:=aw (f:=eY) (o:=O (I (h*(w+g)-t1)) (aq M0 (bc w h g m) B1)) (cG (a:=ae 0) (ρ:=[Z (bc w h g m),Z s.d,Z (.lst (eP td)),Z (R M0.length),y4,y5]) rfl (fK (M:=aq M0 (bc w h g m) B1) f)) kt (by rw[iv1.te];rfl);have kg:=jj (m:="go") (n:=2) (go:=ae 3) (ρ:=[Z (bc w h g m),Z s.d,Z (.lst (eP td)),Z (R M0.length),y4,y5]) (M:=aq M0 (bc w h g m) B1) rfl fF rfl (ga:=aa (g2 eY (aj 1 cL (aa (ae 0) af)) (eO "Beam" "tick" 1 f7 (ae 3) af)) af) (ds:=[I (h*(w+g)-t1)]) (ay ks rfl) rfl (e2 M0 h0);rw[ao (bG kg)];rfl
def AQ {E:az}{k:Nat}(hM:dB M)(hk:M.length<=k)(he:(M++E)[k]?=Z (.lst xs))(hx:xs.all (aT 29)=true):jZ M.length (O (R k) (M++E))=O (.lst xs) M:=by
 have hlt:=(List.getElem?_eq_some_iff.mp he).1;have nl:¬(M++E).length=M.length:=by omega
 have f2:frz M.length (M++E) 30 (R k)=Z (.lst xs):=by
  have o:bP (frz M.length (M++E) 29) xs=Z xs:=cJ λx h=>jS 29 x (all_eq_true.mp hx x h)
  show(if k<M.length then Z (D.mr k) else match (M++E)[k]? with|some (MO.lst ys)=>(bP (frz M.length (M++E) 29) ys).map D.lst|_=>Y)=_;rw[if_neg (by omega),he];dsimp only;rw[o];rfl
 unfold jZ;dsimp only;rw[if_neg nl,take_left,f2,i9 hM]
def je (B:Bs):D:=.lst (B.rows.map λr=>.lst (r.map I))
def By (B:Bs):bi 40 (je B)=true:=dW λd hd=>by
 obtain⟨r,_,rfl⟩:=mem_map.mp hd;exact dW λd hd=>by
  obtain⟨i,_,rfl⟩:=mem_map.mp hd;rfl
def Fy (A B:Bs):∃b,∀M,aV true (je A) (je B) M=O (G b) M:=⟨_,λM=>by
 unfold aV;show(if(bi 40 (je A)&&bi 40 (je B))=true then aX.ok (D.bl (mJ (je A) (je B) != true)) M else .bad)=_;rw[By A,By B,if_pos (by rfl)]⟩
variable{N:az}
def FL {k:Nat}(h:dB N)(hx:xs.all (aT 30)=true):dB (N.set k (.lst xs)):=all_eq_true.mpr λo ho=>by
 rw[length_set];rcases mem_or_eq_of_mem_set ho with q|q
 ·exact all_eq_true.mp h o q
 ·rw[q];exact pE hx
def ID (td:List (Int×Dd))(n:Nat):(eP td).take n=eP (td.take n):=by unfold eP;rw[map_take]
def JF (td:List (Int×Dd))(n:Nat):(eP td).drop n=eP (td.drop n):=by unfold eP;rw[map_drop]
def GL (a b:List (Int×Dd)):eP a++eP b=eP (a++b):=by unfold eP;rw[map_append]
variable{T:Int}
def GB {td':List (Int×Dd)}(p:eR T s td)(h:td'.Sublist td):eR T s td':=
 ⟨λq hq=>p.rng q (h.subset hq),p.ord.sublist (h.map _),λq hq=>p.dd q (h.subset hq),Nat.lt_of_le_of_lt h.length_le p.len⟩
def oW (p:eR T s td)(i:Nat):eR T s (td.take i++td.drop (i+1)):=by
 refine GB p ?_;have h:(td.take i++td.drop (i+1)).Sublist (td.take i++td.drop i):=by
  refine List.Sublist.append (List.Sublist.refl _) ?_;rw[show i+1=i+1 from rfl,<-drop_drop];exact drop_sublist 1 _
 rwa [take_append_drop] at h
def Al {d:Dd}(p:eR T s td)(hd:jq s d)(h0:0<T)(hl:td.length+1<64):eR T s ((0,d)::td):=by
 refine⟨λq hq=>?_,?_,λq hq=>?_,by simpa using hl⟩
 ·rcases mem_cons.mp hq with e|e
  ·rw[e];exact⟨Int.le_refl 0,h0⟩
  ·exact p.rng q e
 ·rw[map_cons,pairwise_cons];refine⟨λx hx=>?_,p.ord⟩;obtain⟨q,hq,rfl⟩:=mem_map.mp hx;exact(p.rng q hq).1
 ·rcases mem_cons.mp hq with e|e
  ·rw[e];exact hd
  ·exact p.dd q e
def LL {a b:List D}(h:a.length+b.length<=1000000):bC (.lst a) (.lst b) M=O (.lst (a++b)) M:=by
 show(if a.length+b.length<=sizeLine then aX.ok (D.lst (a++b)) M else .bad)=_;rw[if_pos (a7 h)]
def sB {w:Int}(hm:mm<=12)(f:gR w h g m)(ok:bO mm s)(p:eR (h*(w+g)) s td):∃B:Bs,∀(N:az) (ρ:bK) (c:GE),dB N->ρ[0]?=Z (Z (bc w h g m))->ρ[1]?=Z (Z s.d)->c ρ N=O (.lst (eP td)) N->
  dB (aq N (bc w h g m) B)/\eO "Beam" "picture" 1 cP (aj 3 fU (aa (ae 0) (aa (ae 1) (aa c af)))) af ρ N=O (je B) (aq N (bc w h g m) B):=by
 obtain⟨B,s1,iv,e⟩:=yR hm f ok p;have hb:h*(w+g)<=40*60:=by
  have a:=f.w;have b:=f.g;have c:=f.h;exact Int.mul_le_mul (by omega) (by omega) (by omega) (by omega)
 have rl:=iv.rl;refine⟨B,λN ρ c hN h0 h1 hc=>⟨m3 hN rfl iv.p,?_⟩⟩;have v0:ae 0 ρ N=O (bc w h g m) N:=by unfold ae;rw[h0]
 have v1:ae 1 ρ N=O s.d N:=by unfold ae;rw[h1]
 exact Ik (cq v0 v1 hc (e N hN)) fF rfl rfl rfl (zy (by omega))
abbrev es (fr sd tl pc:D)(k:Nat)(x5 x6 x7 x8 x9 x10:Option D):bK:=[Z fr,Z sd,Z tl,Z pc,Z (R k),x5,x6,x7,x8,x9,x10]
def Ca {w:Int}{E:az}{B0:Bs}{k0:Nat}{q:Int×Dd}(hm:mm<=12)(f:gR w h g m)(ok:bO mm s)(p:eR (h*(w+g)) s td)(hl:td.length<=50)(hk0:M.length<=k0)(z2:dB (M++E))(z3:(M++E)[k0]?=Z (.lst (ns.map I)))(z6:ns.length<=j)(eq:td[j]?=Z q)(x8 x9 x10:Option D) :
  ∃(ns':List Int) (E':az) (y8 y9 y10:Option D),l9 (es (bc w h g m) s.d (.lst (eP td)) (je B0) k0 (Z (I j)) (Z (I q.1)) (Z q.2.d) x8 x9 x10) (M++E)=O (.nx (es (bc w h g m) s.d (.lst (eP td)) (je B0) k0 (Z (I j)) (Z (I q.1)) (Z q.2.d) y8 y9 y10)) (M++E')/\dB (M++E')/\(M++E')[k0]?=Z (.lst (ns'.map I))/\ns'.length<=j+1:=by
 have hT:0<h*(w+g):=Int.mul_pos (by have:=f.h;omega) (by have:=f.w;have:=f.g;omega);have hj:=(List.getElem?_eq_some_iff.mp eq).1;have hlo:(td.take j++td.drop (j+1)).length<=50:=by rw[length_append,length_take,length_drop];omega
 obtain⟨B1,q1⟩:=sB hm f ok (oW p j);obtain⟨B2,q2⟩:=sB hm f ok (Al (oW p j) (p.dd q (mem_of_getElem? eq)) hT (by omega));obtain⟨b1,n1⟩:=Fy B0 B1;obtain⟨b2,n2⟩:=Fy B0 B2;have ot:g2 bC (oo (ae 2) bu (dg (ae 5))) (oo (ae 2) (dg (g2 bC (ae 5) (gC (I 1)))) bu) (es (bc w h g m) s.d (.lst (eP td)) (je B0) k0 (Z (I j)) (Z (I q.1)) (Z q.2.d) x8 x9 x10) (M++E)=O (.lst (eP (td.take j++td.drop (j+1)))) (M++E):=by
  rw[<-GL,<-ID,<-JF];refine aw (M1:=M++E) (M2:=M++E) ?_ ?_ (LL (by rw[length_take,length_drop];unfold eP;rw[length_map];omega))
  ·show aX.ok (D.lst (g5 (eP td) Y (Z (j:Int)))) _=_;rw[rT]
  ·show aX.ok (D.lst (g5 (eP td) (Z ((j:Int)+1)) Y)) _=_;rw[show(j:Int)+1=((j+1:Nat):Int) by omega,ue]
 obtain⟨s1,k1⟩:=q1 (M++E) (es (bc w h g m) s.d (.lst (eP td)) (je B0) k0 (Z (I j)) (Z (I q.1)) (Z q.2.d) (Z (.lst (eP (td.take j++td.drop (j+1))))) x9 x10) (ae 8) z2 rfl rfl rfl;obtain⟨s2,k2⟩:=q2 (aq (M++E) (bc w h g m) B1) (es (bc w h g m) s.d (.lst (eP td)) (je B0) k0 (Z (I j)) (Z (I q.1)) (Z q.2.d) (Z (.lst (eP (td.take j++td.drop (j+1))))) (Z (je B1)) x10) (g2 bC (dM (aa (aD (aa (gC (I 0)) (aa (ae 7) af))) af)) (ae 8)) s1 rfl rfl
  (aw (eL (ds:=eP [(0,q.2)]) (ay (bg (ds:=[I 0,q.2.d]) rfl) rfl)) rfl (by rw[LL (by unfold eP;rw[length_map,length_map];show 1+_<=_;omega),GL];rfl))
 obtain⟨E2,e2⟩:∃E2,aq (aq (M++E) (bc w h g m) B1) (bc w h g m) B2=M++E2:=⟨_,by unfold aq;rw[append_assoc,append_assoc]⟩;have ek:(M++E2)[k0]?=Z (.lst (ns.map I)):=by
  rw[<-e2];unfold aq;rw[append_assoc,getElem?_append_left (List.getElem?_eq_some_iff.mp z3).1];exact z3
 rw[e2] at k2 s2;have run:∀{o},_=o->l9 (es (bc w h g m) s.d (.lst (eP td)) (je B0) k0 (Z (I j)) (Z (I q.1)) (Z q.2.d) x8 x9 x10) (M++E)=o:=λ{o} ho=>((ao (aH ot)).trans ((ao (aH k1)).trans (ao (aH k2)))).trans ho
 have t1:dN (aI (g2 (aV true) (ae 3) (ae 9))) (aI (g2 (aV true) (ae 3) (ae 10))) (es (bc w h g m) s.d (.lst (eP td)) (je B0) k0 (Z (I j)) (Z (I q.1)) (Z q.2.d) (Z (.lst (eP (td.take j++td.drop (j+1))))) (Z (je B1)) (Z (je B2))) (M++E2)=O (b1&&b2) (M++E2):=jF (aZ (aw rfl rfl (n1 _))) λ_=>aZ (aw rfl rfl (n2 _))
 cases hb:b1&&b2 with
 | false=>
  rw[hb] at t1;exact⟨ns,E2,_,_,_,run ((bp t1).trans rfl),s2,ek,by omega⟩
 | true=>
  rw[hb] at t1;have ap:lP (ae 4) (ae 5) (es (bc w h g m) s.d (.lst (eP td)) (je B0) k0 (Z (I j)) (Z (I q.1)) (Z q.2.d) (Z (.lst (eP (td.take j++td.drop (j+1))))) (Z (je B1)) (Z (je B2))) (M++E2)=O .non ((M++E2).set k0 (.lst ((ns++[(j:Int)]).map I))):=by
   show(match (M++E2)[k0]? with|some (.lst _)=>(aX.ok (I j) (M++E2)).bind (uN k0)|_=>.bad)=_;rw[ek];dsimp only;rw[ah];unfold uN;rw[ek];dsimp only;rw[if_pos (Nat.lt_of_lt_of_le (show(ns.map I).length<1000000 by rw[length_map];omega) (a7 (Nat.le_refl _))),map_append];rfl
  have e3:(M++E2).set k0 (.lst ((ns++[(j:Int)]).map I))=M++E2.set (k0-M.length) (.lst ((ns++[(j:Int)]).map I)):=set_append_right _ _ hk0;have s3:=FL (k:=k0) s2 (fc 29 (ns++[(j:Int)]));have e4:((M++E2).set k0 (MO.lst ((ns++[(j:Int)]).map I)))[k0]?=Z (.lst ((ns++[(j:Int)]).map I)):=getElem?_set_self (List.getElem?_eq_some_iff.mp ek).1;rw[e3] at ap s3 e4;exact⟨_,_,_,_,_,run ((bH t1).trans (bG ap)),s3,e4,by rw[length_append];show ns.length+1<=_;omega⟩
def DX {w:Int}(hm:mm<=12)(f:gR w h g m)(ok:bO mm s)(p:eR (h*(w+g)) s td)(hl:td.length<=50)(hM:dB M):∃told,lE [bc w h g m,s.d,.lst (eP td)] M=O (.lst told) M:=by
 obtain⟨B0,q0⟩:=sB hm f ok p;obtain⟨sh0,e0⟩:=q0 M [Z (bc w h g m),Z s.d,Z (.lst (eP td)),Y,Y,Y,Y,Y,Y,Y,Y] (ae 2) hM rfl rfl rfl;obtain⟨E0,eE0⟩:∃E,aq M (bc w h g m) B0=M++E:=⟨_,rfl⟩;have shI:dB (aq M (bc w h g m) B0++[.lst []]):=by
  refine all_eq_true.mpr λo ho=>?_
  rw[length_append];rcases mem_append.mp ho with q|q
  ·exact pP (Nat.le_add_right _ _) (all_eq_true.mp sh0 o q)
  ·rw[mem_singleton.mp q];rfl
 generalize hk:(aq M (bc w h g m) B0).length=k0 at *;have hk0:M.length<=k0:=by rw[<-hk,eE0,length_append];omega
 obtain⟨ρ',N',⟨ns,E,z2,z3,_,z1,y,z5⟩,ef⟩:=n8 (ds0:=ik (eP td)) (s:=rh [(dY 5),(bB [6,7])]) (body:=l9)
  (W:=λj ρ N=>∃(ns:List Int) (E:az),dB (M++E)/\(M++E)[k0]?=Z (.lst (ns.map I))/\ns.length<=j/\N=M++E/\∃y:Nat->Option D,ρ=es (bc w h g m) s.d (.lst (eP td)) (je B0) k0 (y 5) (y 6) (y 7) (y 8) (y 9) (y 10))
  (ik (eP td)) 0 (λj d hd ρ N hW=>by
   obtain⟨ns,E,z2,z3,z6,rfl,y,rfl⟩:=hW;obtain⟨x,ex,rfl⟩:=ni hd;unfold eP at ex;rw[getElem?_map] at ex;obtain⟨q,eq,rfl⟩:=Option.map_eq_some_iff.mp ex;obtain⟨ns',E',a8,a9,a10,e,k2,k3,k4⟩:=Ca (j:=j) (B0:=B0) hm f ok p hl hk0 z2 z3 (by omega) eq (y 8) (y 9) (y 10);exact⟨_,_,_,rfl,e,ns',E',k2,k3,by omega,rfl,λi=>[Z (I j),Z (I q.1),Z q.2.d,a8,a9,a10][i-5]?.getD Y,rfl⟩) (es (bc w h g m) s.d (.lst (eP td)) (je B0) k0 Y Y Y Y Y Y) (aq M (bc w h g m) B0++[.lst []]) ⟨[],E0++[.lst []],by rw[<-append_assoc,<-eE0];exact shI,by rw[<-append_assoc,<-eE0,<-hk];simp,Nat.zero_le _,by rw[eE0,append_assoc],λ_=>Y,rfl⟩
 refine⟨ns.map I,?_⟩;show jZ M.length (aC (kW [Z (bc w h g m),Z s.d,Z (.lst (eP td)),Y,Y,Y,Y,Y,Y,Y,Y] M))=_;unfold kW;rw[ao (aH e0),ao (aH oy),hk];refine(congrArg (λo=>jZ M.length (aC o)) (ao (jM (t:=⟨ik (eP td),Y⟩) rfl ef))).trans ?_;subst z5 z1;exact AQ hM hk0 z3 (fc 28 _)
def Au {l:D}(h:aE [fr,st] M=.err c M):cA [fr,st,l] M=.err c M:=by
 show aC (ce [Z fr,Z st,Z l] M)=_;unfold ce;have k:bA (aj 2 aE (aa (ae 0) (aa (ae 1) af))) [Z fr,Z st,Z l] M=.err c M:=by
  unfold bA;rw[bh rfl rfl h];rfl
 rw[vE k];rfl
def CA {w:Int}{l:D}(hb:aE [bc w h g m,st] M=O .non M)(ht:dm [bc w h g m,l] M=O (G false) M):cA [bc w h g m,st,l] M=.err "NoTick" M:=by
 show aC (ce [Z (bc w h g m),Z st,Z l] M)=_;unfold ce;rw[ao (bG (bh rfl rfl hb)),vE ((bH (bL (bv (bh rfl rfl ht)))).trans rfl)];rfl
def CC {w:Int}{l:List (Int×D)}(hb:aE [bc w h g m,s.d] M=O .non M)(ht:dm [bc w h g m,.lst (dD l)] M=O (G true) M)(hl:l.length<64)(hd:∀p∈l,∃b,aS [s.d,p.2] M=O (G b) M)(hx:∃p∈l,aS [s.d,p.2] M=O (G false) M):cA [bc w h g m,s.d,.lst (dD l)] M=.err "NoDeed" M:=by
 have ll:(dD l).length<=100000:=by unfold dD;rw[length_map];omega
 have c1:=pQ (gi:=cj (ae 2)) (n:=2) (sg:=bB [0,1]) (ge:=cH) (ρ:=[Z (bc w h g m),Z s.d,Z (.lst (dD l))]) (M:=M) (f:=λd=>match d with | .tup [_,x]=>(match aS [s.d,x] M with | .ok b _=>b|_=>.non)|d=>d) (kP rfl) ll (λd hd'=>by
  obtain⟨p,hp,rfl⟩:=mem_map.mp hd';obtain⟨b,eb⟩:=hd p hp;refine⟨[Z (I p.1),Z p.2,Z (bc w h g m),Z s.d,Z (.lst (dD l))],rfl,?_⟩;unfold cH;refine bh rfl rfl ?_;show aS [s.d,p.2] M=O (match aS [s.d,p.2] M with | .ok b _=>b|_=>.non) M;rw[eb])
 have e:∃bs:List Bool,(dD l).map (λd=>match d with | .tup [_,x]=>(match aS [s.d,x] M with | .ok b _=>b|_=>.non)|d=>d)=bs.map D.bl/\bs.all id=false:=by
  clear c1 ll ht hl
  induction l with
  | nil=>obtain⟨p,hp,_⟩:=hx;cases hp
  | cons p l ih=>
   obtain⟨b,eb⟩:=hd p (mem_cons_self ..);have hd':∀q∈l,∃b,aS [s.d,q.2] M=O (G b) M:=λq hq=>hd q (mem_cons_of_mem _ hq)
   have allb:∃bs:List Bool,(dD l).map (λd=>match d with | .tup [_,x]=>(match aS [s.d,x] M with | .ok b _=>b|_=>.non)|d=>d)=bs.map D.bl:=by
    clear ih hx hd eb
    induction l with
    | nil=>exact⟨[],rfl⟩
    | cons q l ih2=>
     obtain⟨b2,e2⟩:=hd' q (mem_cons_self ..);obtain⟨bs,ebs⟩:=ih2 λr hr=>hd' r (mem_cons_of_mem _ hr)
     refine⟨b2::bs,?_⟩;show(match aS [s.d,q.2] M with | .ok b _=>b|_=>.non)::(dD l).map _=_;rw[e2,ebs];rfl
   have hd0:∀xs:List D,(match aS [s.d,p.2] M with | .ok b _=>b|_=>.non)::xs=D.bl b::xs:=λxs=>by rw[eb]
   cases b with
   | false=>
    obtain⟨bs,ebs⟩:=allb;refine⟨false::bs,?_,rfl⟩;show(match aS [s.d,p.2] M with | .ok b _=>b|_=>.non)::(dD l).map _=_;rw[hd0,ebs];rfl
   | true=>
    have hx':∃q∈l,aS [s.d,q.2] M=O (G false) M:=by
     obtain⟨q,hq,eq⟩:=hx;rcases mem_cons.mp hq with z|z
     ·rw[z,eb] at eq;cases eq
     ·exact⟨q,z,eq⟩
    obtain⟨bs,ebs,hb2⟩:=ih hd' hx';refine⟨true::bs,?_,by rw[all_cons,hb2];rfl⟩;show(match aS [s.d,p.2] M with | .ok b _=>b|_=>.non)::(dD l).map _=_;rw[hd0,ebs];rfl
 obtain⟨bs,ebs,hbs⟩:=e;rw[ebs] at c1;have bo:cU (bs.map D.bl)=Z bs:=by
  have:=vB (p:=λd=>match d with | .bl b=>b|_=>false) (bs.map D.bl);rw[map_map,map_map] at this;have i1:(bs.map ((λd=>D.bl (match d with | .bl b=>b|_=>false)) ∘ D.bl))=bs.map D.bl:=map_congr_left λb _=>rfl
  have i2:(bs.map ((λd=>match d with | .bl b=>b|_=>false) ∘ D.bl))=bs:=(map_congr_left λb _=>rfl).trans (map_id bs);rw[i1,i2] at this;exact this
 have al:aQ kL (aa (bY (cj (ae 2)) 2 (bB [0,1]) cb cH aP) af) [Z (bc w h g m),Z s.d,Z (.lst (dD l))] M=O (G false) M:=by
  refine jQ c1 ?_;show(match cU (bs.map D.bl) with|some bs=>aX.ok (D.bl (bs.all id)) M|none=>.bad)=_;rw[bo];dsimp only;rw[hbs]
 show aC (ce [Z (bc w h g m),Z s.d,Z (.lst (dD l))] M)=_;unfold ce;rw[ao (bG (bh rfl rfl hb)),ao ((bp (bL (bv (bh rfl rfl ht)))).trans rfl),(bH (bL (bv al))).trans rfl];rfl
def wt {l:D}(h:cA [fr,st,l] M=.err c M):fU [fr,st,l] M=.err c M:=by
 show aC (qj [Z fr,Z st,Z l,Y,Y,Y] M)=_;unfold qj;have k:bA (aj 3 cA (aa (ae 0) (aa (ae 1) (aa (ae 2) af)))) [Z fr,Z st,Z l,Y,Y,Y] M=.err c M:=by
  unfold bA;rw[cq rfl rfl rfl h];rfl
 rw[vE k];rfl
def tP {l:D}(h:fU [fr,st,l] M=.err c M):lE [fr,st,l] M=.err c M:=by
 show jZ M.length (aC (kW [Z fr,Z st,Z l,Y,Y,Y,Y,Y,Y,Y,Y] M))=_;unfold kW;have k0:aL 3 (eO "Beam" "picture" 1 cP (aj 3 fU (aa (ae 0) (aa (ae 1) (aa (ae 2) af)))) af) [Z fr,Z st,Z l,Y,Y,Y,Y,Y,Y,Y,Y] M=.err c M:=by
  unfold aL eO;rw[cq rfl rfl rfl h];rfl
 rw[vE k0];show(if M.length=M.length then aX.err c M else _)=_;rw[if_pos rfl]
def zb {d:D}(h:d∈[D.tup [S "halt"],U [S "pot",I 0,I 64],.lst [S "pot",I 0,I 0],.non]):aS [s.d,d] M=O (G false) M:=by
 simp only[mem_cons,not_mem_nil,or_false] at h;rcases h with rfl|rfl|rfl|rfl
 ·rfl
 ·have k1:=AO (M:=M) (xo 0);have k2:=zu (M:=M) (xo 64);rw[Cf];unfold GZ;rw[ao ((bp (tW rfl)).trans rfl),bT ((bH (tW rfl)).trans (aO (bR rfl λ_=>bR (cG rfl k1) λ_=>cG rfl k2)))];rfl
 ·rfl
 ·rfl
def D2 (h:ga ρ M=O ds M1)(hl:ds.length<=100000:=by exact Nat.le_of_ble_eq_true rfl):kr ga ρ M=O (R M1.length) (M1++[.lst ds]):=by
 unfold kr;rw[h,ah];exact if_pos (a7 (by omega))
def Bf {ys:List D}(h:xs.length+ys.length<=1000):wO (R M.length) (.lst ys) (M++[.lst xs])=O (R (M++[MO.lst xs]).length) ((M++[MO.lst xs])++[.lst (xs++ys)]):=by
 show(match (match (M++[MO.lst xs])[M.length]? with|some (.lst xs)=>Z xs|_=>Y),Z ys with|some a,Z b=>if a.length+b.length<=sizeLine then aX.ok (D.mr (M++[MO.lst xs]).length) ((M++[MO.lst xs])++[MO.lst (a++b)]) else .bad|_,_=>.bad)=_;rw[BL];exact if_pos (a7 (by omega))
def Bd {F:List D->D->az->aX D}{d:D}{o:aX D}(h1:ρ[1]?=Z (Z (R M.length)))(h:F xs d (M++[.lst xs])=o):jV F (ae 1) (gC d) ρ (M++[.lst xs])=o:=by
 have l:lK (R M.length) (M++[MO.lst xs])=Z xs:=by
  show(match (M++[MO.lst xs])[M.length]? with|some (.lst xs)=>Z xs|_=>Y)=_;rw[BL]
 have v:ae 1 ρ (M++[.lst xs])=O (R M.length) (M++[.lst xs]):=by unfold ae;rw[h1]
 unfold jV;rw[v,ah,l];dsimp only;rw[show gC d ρ (M++[.lst xs])=O d (M++[.lst xs]) from rfl,ah,l];exact h
def A6 (p:Bool->Bool->Bool->Bool->Bool):List D:=[G (p false true false false),G (p false false true false),G (p false false false true),G (p true false false false),G (p false false false false),G (p false false false false),G (p false false false false),G (p false false false false),G (p false false false false),G (p false false false false)]
def R8:List D:=[S "frame",S "stand",S "tick",S "deed",S "over",S "score",S "clash",S "text",S "film",S "row"]
def rP {x:Str}{p:Bool->Bool->Bool->Bool->Bool}(hM:dB M)(hp:∀a b d e f,vY [("NoDeed",a),("NoFrame",b),("NoStand",d),("NoTick",e),("Over",f)] c=Z (p a b d e))(ht:p true true true true=true)(hc:∀M,kY (A6 p) (G true) M=O (I 1) M)(hi:∀M,kO (A6 p) (G true) M=O (I i) M)(hx:R8[i]?=Z (S x)):im [.exc c] M=O (U [S x]) M:=by
 have z:∀{a b d e f:Bool} {r:bK} {N:az},jf (vY [("NoDeed",a),("NoFrame",b),("NoStand",d),("NoTick",e),("Over",f)]) (ae 0) (Z (.exc c)::r) N=O (G (p a b d e)) N:=λ{a b d e f r N}=>by
  show(match vY [("NoDeed",a),("NoFrame",b),("NoStand",d),("NoTick",e),("Over",f)] c with|some b=>aX.ok (D.bl b) N|none=>.bad)=_;rw[hp]
 have e:∃E,fY [Z (.exc c),Y,Y] M=O (.rt (U [S x])) (M++E):=by
  unfold fY;refine⟨[.lst ((A6 p).take 3),.lst ((A6 p).take 6),.lst (A6 p)],?_⟩;refine(ao (aH (D2 (ds:=(A6 p).take 3) (ay z (ay z (ay z rfl)))))).trans ?_;refine(ao (aH (aw (x:=R M.length) rfl (eL (ds:=((A6 p).drop 3).take 3) (ay z (ay z (ay z rfl)))) (Bf (xs:=(A6 p).take 3) (show 3+3<=1000 by decide))))).trans ?_;refine(ao (aH (aw (x:=R (M++[MO.lst ((A6 p).take 3)]).length) rfl (eL (ds:=((A6 p).drop 6).take 3) (ay z (ay z (ay z rfl)))) (Bf (xs:=(A6 p).take 6) (show 6+3<=1000 by decide))))).trans ?_;refine(ao (bG (Aw (go:=ae 1) (E:=(A6 p).take 9) rfl z (show 9<1000000 by decide)))).trans ?_;refine(ao ((bp (gk (x:=false) ((bL (bv z)).trans (by rw[ht];rfl)) λ_=>aZ (aw (Bd (xs:=A6 p) rfl (hc _)) rfl (wk 1 1 _)))).trans rfl)).trans ?_;refine(ao (aH (eL (ds:=R8) rfl))).trans ?_;refine(aO (bg (ds:=[S x]) (ay (aw (x:=.lst R8) rfl (Bd (xs:=A6 p) rfl (hi _)) (dZ hx)) rfl))).trans ?_;rw[append_assoc,append_assoc];rfl
 obtain⟨E,e⟩:=e;show jZ M.length (aC (fY [Z (.exc c),Y,Y] M))=_;rw[e];exact wA rfl hM
def EB {x:Str}(hM:dB M)(hc:(c,x)∈[(("NoFrame":Str),("frame":Str)),("NoStand","stand"),("NoTick","tick"),("NoDeed","deed")]):im [.exc c] M=O (U [S x]) M:=by
 simp only[mem_cons,not_mem_nil,or_false,Prod.mk.injEq] at hc;rcases hc with⟨rfl,rfl⟩|⟨rfl,rfl⟩|⟨rfl,rfl⟩|⟨rfl,rfl⟩
 ·exact rP (p:=λ_ b _ _=>b) hM (λ_ _ _ _ _=>rfl) rfl (λ_=>rfl) (λ_=>rfl) rfl
 ·exact rP (p:=λ_ _ b _=>b) hM (λ_ _ _ _ _=>rfl) rfl (λ_=>rfl) (λ_=>rfl) rfl
 ·exact rP (p:=λ_ _ _ b=>b) hM (λ_ _ _ _ _=>rfl) rfl (λ_=>rfl) (λ_=>rfl) rfl
 ·exact rP (p:=λb _ _ _=>b) hM (λ_ _ _ _ _=>rfl) rfl (λ_=>rfl) (λ_=>rfl) rfl
def DC (hM:dB M):dB (M++[.obj "Beam" []]):=by
 unfold dB at *;rw[all_append,Bool.and_eq_true];exact⟨all_eq_true.mpr λx hx=>pP (by simp) (all_eq_true.mp hM x hx),rfl⟩
def FC :b9 n .non:=by
 cases n with
 | zero=>exact⟨_,rfl⟩
 | succ n=>exact⟨⟨_,rfl⟩,λxs e=>by cases e⟩
def ET:GS:=(cO (aI (g2 (aV false) (ae 0) (gC (I 0)))) (bA (iC "Beam" 3 bX (aa (ae 1) (aa (ae 2) af)))) (cO (aI (g2 (aV false) (ae 0) (gC (I 1)))) (bA (aj 3 fU (aa (ae 1) (aa (ae 2) (aa (ae 3) af))))) (bA (aj 3 lE (aa (ae 1) (aa (ae 2) (aa (ae 3) af)))))))
theorem DS (ρ:bK)(M:az):gG ρ M=(av (aL 4 (gC .non)) (av (oJ 5 (List.contains ["NoDeed","NoFrame","NoStand","NoTick","Over"]) ET (aL 4 (ae 5))) (av (cO (aI (g2 (kI false) (ae 4) (gC .non))) (aK (aD (aa (gC (S "told")) af))) aG) (aK (aj 1 im (aa (ae 4) af)))))) ρ M:=rfl
def mM {l:D}{x:Str}(hM:dB M)(hs:(∃E,ET [Z (I k),Z fr,Z st,Z l,Z .non,Y] M=O (.nx [Z (I k),Z fr,Z st,Z l,Z .non,Y]) (M++E)/\x="told")\/
  (∃c E,ET [Z (I k),Z fr,Z st,Z l,Z .non,Y] M=.err c (M++E)/\(c,x)∈[(("NoFrame":Str),("frame":Str)),("NoStand","stand"),("NoTick","tick"),("NoDeed","deed")]/\dB (M++E))) :
  cB [I k,fr,st,l] M=O (U [S x]) M:=by
 show jZ M.length (aC (gG [Z (I k),Z fr,Z st,Z l,Y,Y] M))=_;rw[DS];rw[ao (show aL 4 (gC .non) [Z (I k),Z fr,Z st,Z l,Y,Y] M=O (.nx [Z (I k),Z fr,Z st,Z l,Z .non,Y]) M from rfl)];rcases hs with⟨E,e,ex⟩|⟨c,E,e,hc,hE⟩
 ·subst ex;have k1:oJ 5 (List.contains ["NoDeed","NoFrame","NoStand","NoTick","Over"]) ET (aL 4 (ae 5)) [Z (I k),Z fr,Z st,Z l,Z .non,Y] M=O (.nx [Z (I k),Z fr,Z st,Z l,Z .non,Y]) (M++E):=by
   unfold oJ;rw[e]
  rw[ao k1];have k2:cO (aI (g2 (kI false) (ae 4) (gC .non))) (aK (aD (aa (gC (S "told")) af))) aG [Z (I k),Z fr,Z st,Z l,Z .non,Y] (M++E)=O (.rt (U [S "told"])) (M++E):=(bH rfl).trans (aO (bg rfl (by decide)));rw[bT k2];exact wA rfl hM
 ·have wd:=EB hE hc;have inl:List.contains (["NoDeed","NoFrame","NoStand","NoTick","Over"]:List Str) c=true:=by
   simp only[mem_cons,not_mem_nil,or_false,Prod.mk.injEq] at hc;rcases hc with⟨rfl,_⟩|⟨rfl,_⟩|⟨rfl,_⟩|⟨rfl,_⟩ <;> decide
  have k1:oJ 5 (List.contains ["NoDeed","NoFrame","NoStand","NoTick","Over"]) ET (aL 4 (ae 5)) [Z (I k),Z fr,Z st,Z l,Z .non,Y] M=O (.nx [Y,Y,Y,Y,Z (.exc c),Y]) (M++E):=by
   unfold oJ;rw[e];dsimp only;rw[inl,if_pos rfl];rfl
  rw[ao k1];have k2:cO (aI (g2 (kI false) (ae 4) (gC .non))) (aK (aD (aa (gC (S "told")) af))) aG [Y,Y,Y,Y,Z (.exc c),Y] (M++E)=O (.nx [Y,Y,Y,Y,Z (.exc c),Y]) (M++E):=(bp rfl).trans rfl;rw[ao k2,aO (cG rfl wd)];exact wA rfl hM
section
variable {M:az}{k:Int}{fr st l:D}
def t0:aI (g2 (aV false) (ae 0) (gC (I 0))) [Z (I k),Z fr,Z st,Z l,Z .non,Y] M=O (decide (k=0)) M:=aZ (aw rfl rfl (l5 k 0 M))
def t1:aI (g2 (aV false) (ae 0) (gC (I 1))) [Z (I k),Z fr,Z st,Z l,Z .non,Y] M=O (decide (k=1)) M:=aZ (aw rfl rfl (l5 k 1 M))
def Qu (hk:k=0)(hc:∀M,aE [fr,st] M=O .non M):∃E,ET [Z (I k),Z fr,Z st,Z l,Z .non,Y] M=O (.nx [Z (I k),Z fr,Z st,Z l,Z .non,Y]) (M++E):=by
 have q:=t0 (M:=M) (k:=k) (fr:=fr) (st:=st) (l:=l);rw[decide_eq_true hk] at q;exact⟨_,(bH q).trans (bG (Bl (ga:=aa (ae 1) (aa (ae 2) af)) rfl hc))⟩
def FU (hk:k=0)(hc:∀M,aE [fr,st] M=.err c M):ET [Z (I k),Z fr,Z st,Z l,Z .non,Y] M=.err c (M++[.obj "Beam" []]):=by
 have q:=t0 (M:=M) (k:=k) (fr:=fr) (st:=st) (l:=l);rw[decide_eq_true hk] at q;refine(bH q).trans ?_;unfold bA;rw[Fm (ga:=aa (ae 1) (aa (ae 2) af)) rfl hc];rfl
def Ro {d:D}{E:az}(hk:k=1)(h:fU [fr,st,l] M=O d (M++E)):ET [Z (I k),Z fr,Z st,Z l,Z .non,Y] M=O (.nx [Z (I k),Z fr,Z st,Z l,Z .non,Y]) (M++E):=by
 have q:=t0 (M:=M) (k:=k) (fr:=fr) (st:=st) (l:=l);have q1:=t1 (M:=M) (k:=k) (fr:=fr) (st:=st) (l:=l);rw[decide_eq_false (by omega)] at q;rw[decide_eq_true hk] at q1;exact(bp q).trans ((bH q1).trans (bG (cq rfl rfl rfl h)))
def yP (hk:k=1)(h:fU [fr,st,l] M=.err c M):ET [Z (I k),Z fr,Z st,Z l,Z .non,Y] M=.err c M:=by
 have q:=t0 (M:=M) (k:=k) (fr:=fr) (st:=st) (l:=l);have q1:=t1 (M:=M) (k:=k) (fr:=fr) (st:=st) (l:=l);rw[decide_eq_false (by omega)] at q;rw[decide_eq_true hk] at q1;refine(bp q).trans ((bH q1).trans ?_);unfold bA;rw[cq rfl rfl rfl h];rfl
def Sk {d:D}(hk:k=2)(h:lE [fr,st,l] M=O d M):ET [Z (I k),Z fr,Z st,Z l,Z .non,Y] M=O (.nx [Z (I k),Z fr,Z st,Z l,Z .non,Y]) M:=by
 have q:=t0 (M:=M) (k:=k) (fr:=fr) (st:=st) (l:=l);have q1:=t1 (M:=M) (k:=k) (fr:=fr) (st:=st) (l:=l);rw[decide_eq_false (by omega)] at q q1;exact(bp q).trans ((bp q1).trans (bG (cq rfl rfl rfl h)))
def yV (hk:k=2)(h:lE [fr,st,l] M=.err c M):ET [Z (I k),Z fr,Z st,Z l,Z .non,Y] M=.err c M:=by
 have q:=t0 (M:=M) (k:=k) (fr:=fr) (st:=st) (l:=l);have q1:=t1 (M:=M) (k:=k) (fr:=fr) (st:=st) (l:=l);rw[decide_eq_false (by omega)] at q q1;refine(bp q).trans ((bp q1).trans ?_);unfold bA;rw[cq rfl rfl rfl h];rfl
end
def qI {l:D}{x:Str}(hM:dB M)(hk:k=0\/k=1\/k=2)(hc:∀M,aE [fr,st] M=.err c M)(hx:(c,x)∈[(("NoFrame":Str),("frame":Str)),("NoStand","stand"),("NoTick","tick"),("NoDeed","deed")]):cB [I k,fr,st,l] M=O (U [S x]) M:=by
 have e1:fU [fr,st,l] M=.err c M:=wt (Au (hc M));refine mM hM (.inr ?_);rcases hk with hk|hk|hk
 ·exact⟨c,_,FU hk hc,hx,DC hM⟩
 ·exact⟨c,[],by rw[append_nil];exact yP hk e1,hx,by rw[append_nil];exact hM⟩
 ·exact⟨c,[],by rw[append_nil];exact yV hk (tP e1),hx,by rw[append_nil];exact hM⟩
def sV {l:D}{x:Str}(hM:dB M)(hk:k=0\/k=1\/k=2)(hb:∀M,aE [fr,st] M=O .non M)(hc:cA [fr,st,l] M=.err c M)(hx:(c,x)∈[(("NoFrame":Str),("frame":Str)),("NoStand","stand"),("NoTick","tick"),("NoDeed","deed")]):cB [I k,fr,st,l] M=O (U [S (if k=0 then "told" else x)]) M:=by
 have e1:fU [fr,st,l] M=.err c M:=wt hc;rcases hk with hk|hk|hk
 ·rw[if_pos hk];obtain⟨E,e⟩:=Qu (l:=l) hk hb;exact mM hM (.inl ⟨E,e,rfl⟩)
 ·rw[if_neg (by omega)];exact mM hM (.inr ⟨c,[],by rw[append_nil];exact yP hk e1,hx,by rw[append_nil];exact hM⟩)
 ·rw[if_neg (by omega)];exact mM hM (.inr ⟨c,[],by rw[append_nil];exact yV hk (tP e1),hx,by rw[append_nil];exact hM⟩)
def zn {w:Int}(hM:dB M)(hk:k=0\/k=1\/k=2)(hm:mm<=12)(f:gR w h g m)(ok:bO mm s)(p:eR (h*(w+g)) s td)(hl:td.length<=50)(hb:∀M,aE [bc w h g m,s.d] M=O .non M):cB [I k,bc w h g m,s.d,.lst (eP td)] M=O (U [S "told"]) M:=by
 obtain⟨B,s1,iv,el⟩:=yR hm f ok p;obtain⟨told,es⟩:=DX hm f ok p hl hM;refine mM hM (.inl ?_);rcases hk with hk|hk|hk
 ·obtain⟨E,e⟩:=Qu (l:=.lst (eP td)) hk hb;exact⟨E,e,rfl⟩
 ·exact⟨_,Ro hk (el M hM),rfl⟩
 ·exact⟨[],by rw[append_nil];exact Sk hk es,rfl⟩
def CU {f:D->D}(hi:gi ρ M=O ⟨ds,Y⟩ M)(hl:ds.length<=100000)(h:∀d∈ds,∃ρ1,sg d (List.replicate n Y++ρ)=Z ρ1/\ge ρ1 M=O (f d) M) :
  bY gi n sg cb ge dS ρ M=O (R M.length) (M++[.lst (ds.map f)]):=by
 unfold bY;rw[hi,ah];dsimp only;rw[mZ ds h,ah];unfold dS;rw[if_pos (a7 (by rw[length_map];omega))]
def Mo {w:Int}(k:gR w h g m):h*(w+g)<=2400:=by
 have h1:=k.h;have h2:=k.w;have h3:=k.g;exact Int.le_trans (Int.mul_le_mul (by omega:h<=40) (by omega:w+g<=60) (by omega) (by omega)) (by decide)
def ku (p:Int×Dd):D:=U [I p.1,p.2.d]
def ox (fs:List (Int×Dd))(k:Nat):Int×Dd:=fs.getD k (0,.pot 0 0)
def iA (fs:List (Int×Dd))(k:Nat):List Int:=[(ox fs k).1,(k:Int)]
theorem vn (fs:List (Int×Dd)):∀l:List Nat,qT (l.map λk=>jp (iA fs k))=Z (l.map (iA fs))
 | []=>rfl
 | k::l=>by
  show(match qU (jp (iA fs k)),qT (l.map λk=>jp (iA fs k)) with|some (i::z),Z zs=>Z ((i::z)::zs)|_,_=>Y)=_;rw[vn fs l];rfl
theorem Ct (fs:List (Int×Dd))(k:Nat)(l:List D):rj (jp (iA fs k)::l)=Y:=rfl
def CJ (n:Nat)(f:D->D):(bj 0 n).map f=(List.range n).map λ(k:Nat)=>f (I k):=by
 apply ext_getElem
 ·simp[bI]
 ·intro i h1 h2;simp at h1 h2;rw[getElem_map,getElem_map,getElem_range];obtain⟨_,e⟩:=zp (getElem?_eq_getElem h1);rw[e,show(0:Int)+(i:Int)=i by omega]
def zV {fs:List (Int×Dd)}(hn:n<64):tF [.lst ((List.range n).map λk=>jp (iA fs k))] M=O (.lst ((iq ((List.range n).map (iA fs))).map jp)) M:=by
 unfold tF;show(match rj ((List.range n).map λk=>jp (iA fs k)) with
   | some ns=>if ns.length<64 then aX.ok (D.lst ((sortI ns).map I)) M else .bad
   | none=>match qT ((List.range n).map λk=>jp (iA fs k)) with
    | some zs=>if zs.length<64 then O (.lst ((iq zs).map jp)) M else .bad
    | none=>.bad)=_
 cases n with
 | zero=>
  show aX.ok (D.lst ((sortI []).map I)) M=O (.lst ((iq []).map jp)) M;rw[show sortI []=[] from mergeSort_nil,show iq []=[] from mergeSort_nil];rfl
 | succ n=>
  have e:(List.range (n+1)).map (λk=>jp (iA fs k))=jp (iA fs 0)::(List.range n).map λk=>jp (iA fs (k+1)):=by
   rw[range_succ_eq_map,map_cons,map_map];rfl
  have e2:rj ((List.range (n+1)).map λk=>jp (iA fs k))=Y:=by rw[e];exact Ct fs 0 _
  rw[e2,vn];dsimp only;rw[if_pos (by rw[length_map,length_range];exact hn)]
def Fd {w:Int}(f:gR w h g m)(ok:bO mm s)(hm:mm<=12)(h1:0<=most)(h2:most<=60)(t:bU l rest M) :
  ∃td M',eR (h*(w+g)) s td/\(td.length:Int)<=most/\bU l (rest++[.lst (eP td)]) M'/\kJ [R 0,bc w h g m,s.d,I most] M=O (R (rest.length+1)) M':=by
 have kw:=f.w;have kh:=f.h;have kg:=f.g;have tl:=Mo f;have tp:0<h*(w+g):=Int.mul_pos (by omega) (by omega);obtain⟨f1,M1,a1,b1,t1,e1⟩:=aY (many:=most+1) (by omega) (aJ (by omega) (by omega)) t;obtain⟨n,rfl⟩:=Int.eq_ofNat_of_zero_le a1;obtain⟨es,M2,t2,le,qe,ee1⟩:=il (ds0:=bj 0 n) (ge:=fE) (ρ:=[Z (R 0),Z (bc w h g m),Z s.d,Z (I most),Z (I (h*(w+g))),Y,Y])
  (P:=bU l rest) (Q:=λe=>∃p:Int×Dd,e=ku p/\(0<=p.1/\p.1<h*(w+g))/\jq s p.2) (bj 0 n) (λd hd M hM=>by
   obtain⟨k,N1,c1,c2,u1,x1⟩:=aY (many:=h*(w+g)) tp (aJ tp (by omega)) hM;obtain⟨dd,N2,dk,u2,x2⟩:=Am (w:=w) (hh:=h) (more:=[I g,I m]) ok (by omega) ⟨by omega,by omega⟩ ⟨by omega,by omega⟩ u1;refine⟨ku (k,dd),N2,u2,⟨(k,dd),rfl,⟨c1,c2⟩,dk⟩,?_⟩;unfold fE;exact bg (ay (bh rfl rfl x1) (ay (cq rfl rfl rfl x2) rfl)) (by simp)) M1 t1
 obtain⟨fs,hf,okf⟩:=pM qe;have lf:fs.length=n:=by rw[<-bI 0 n,<-le,hf,length_map]
 rw[hf] at ee1;have at':∀k,k<n->(fs.map ku)[k]?=Z (ku (ox fs k)):=λk hk=>by
  rw[getElem?_map,getElem?_eq_getElem (by omega)];unfold ox;rw[getD_eq_getElem?_getD,getElem?_eq_getElem (by omega)];rfl
 have mem:∀k,k<n->ox fs k∈fs:=λk hk=>by
  unfold ox;rw[getD_eq_getElem?_getD,getElem?_eq_getElem (by omega)];exact getElem_mem _
 have zm:∀z∈iq ((List.range n).map (iA fs)),∃k,k<n/\z=iA fs k:=λz hz=>by
  obtain⟨k,hk,rfl⟩:=mem_map.mp ((jm _).subset hz);exact⟨k,mem_range.mp hk,rfl⟩
 generalize hT:h*(w+g)=T at *;refine⟨(iq ((List.range n).map (iA fs))).map λz=>ox fs (z.getD 1 0).toNat,M2++[.lst (eP ((iq ((List.range n).map (iA fs))).map λz=>ox fs (z.getD 1 0).toNat))],⟨λp hp=>?_,?_,λp hp=>?_,?_⟩,?_,?_,?_⟩
 ·obtain⟨z,hz,rfl⟩:=mem_map.mp hp;obtain⟨k,hk,rfl⟩:=zm z hz;exact(okf _ (mem k hk)).1
 ·rw[map_map,pairwise_map];refine(yi _).imp_of_mem λ{a b} ha hb q=>?_
  obtain⟨i,hi,rfl⟩:=zm a ha;obtain⟨j,hj,rfl⟩:=zm b hb;show(ox fs i).1<=(ox fs j).1;unfold iA at q;rw[HT.lexLt_cons] at q
  by_cases e:(ox fs j).1=(ox fs i).1
  ·omega
  ·rw[if_neg e,decide_eq_false_iff_not] at q;omega
 ·obtain⟨z,hz,rfl⟩:=mem_map.mp hp;obtain⟨k,hk,rfl⟩:=zm z hz;exact(okf _ (mem k hk)).2
 ·rw[length_map,(jm _).length_eq,length_map,length_range];omega
 ·rw[length_map,(jm _).length_eq,length_map,length_range];omega
 ·obtain⟨i,c,hi,rfl⟩:=t2;exact⟨i,c,hi,rfl⟩
 ·show aC (iK [Z (R 0),Z (bc w h g m),Z s.d,Z (I most),Y,Y,Y] M)=_;unfold iK;rw[ao (aH (aw (f:=gf) rfl rfl (zH (by omega) (by omega) M)))];rw[hT];show aC (av _ _ [Z (R 0),Z (bc w h g m),Z s.d,Z (I most),Z (I T),Y,Y] M)=_;have k1:bq (dQ (aa (aj 2 ar (aa (ae 0) (aa (g2 bC (ae 3) (gC (I 1))) af))) af)) cb fE aP [Z (R 0),Z (bc w h g m),Z s.d,Z (I most),Z (I T),Y,Y] M=O (.lst (fs.map ku)) M2:=by
   unfold bq;rw[hU (n:=n) (ay (bh rfl rfl e1) rfl) (by omega),ah];dsimp only;rw[ee1,ah];unfold aP;rw[if_pos (a7 (by rw[length_map];omega))]
  rw[ao (aH k1)];show aC (av _ _ [Z (R 0),Z (bc w h g m),Z s.d,Z (I most),Z (I T),Z (.lst (fs.map ku)),Y] M2)=_;have ln:aQ bE (aa (ae 5) af) [Z (R 0),Z (bc w h g m),Z s.d,Z (I most),Z (I T),Z (.lst (fs.map ku)),Y] M2=O (I (n:Int)) M2:=by
   refine jQ rfl ?_;show aX.ok (I ((fs.map ku).length:Int)) M2=_;rw[length_map,lf]
  have k2:bq (dQ (aa (aQ bE (aa (ae 5) af)) af)) cb fH aP [Z (R 0),Z (bc w h g m),Z s.d,Z (I most),Z (I T),Z (.lst (fs.map ku)),Y] M2=O (.lst ((List.range n).map λk=>jp (iA fs k))) M2:=by
   unfold bq;rw[hU (n:=n) (ay ln rfl) (by omega),ah];dsimp only;rw[mS (t:=⟨bj 0 n,Y⟩) (ge:=fH) (f:=λd=>match d with | .int k=>jp (iA fs k.toNat)|d=>d) rfl (bj 0 n) (λd hd=>by
    obtain⟨k,rfl,c1,c2⟩:=sR hd;obtain⟨k,rfl⟩:=Int.eq_ofNat_of_zero_le c1;have hk:k<n:=by omega
    unfold fH;exact bg (ay (aw (f:=bb) (aw (f:=bb) rfl rfl (dZ (at' k hk))) rfl (cV (k:=0) rfl)) (ay rfl rfl))),ah,CJ]
   unfold aP;rw[if_pos (a7 (by rw[length_map,length_range];omega))];rfl
  have k3:=zV (fs:=fs) (n:=n) (M:=M2) (by omega);rw[ao (aH (jQ (F:=tF) k2 k3))];show aC (aK _ [Z (R 0),Z (bc w h g m),Z s.d,Z (I most),Z (I T),Z (.lst (fs.map ku)),Z (.lst ((iq ((List.range n).map (iA fs))).map jp))] M2)=_;have k4:=CU (gi:=cj (ae 6)) (n:=2) (sg:=bB [0,1]) (ge:=ib) (ρ:=[Z (R 0),Z (bc w h g m),Z s.d,Z (I most),Z (I T),Z (.lst (fs.map ku)),Z (.lst ((iq ((List.range n).map (iA fs))).map jp))]) (M:=M2)
   (f:=λd=>match d with | .tup [_,I k]=>ku (ox fs k.toNat)|d=>d) (ds:=(iq ((List.range n).map (iA fs))).map jp) (kP rfl) (by rw[length_map,(jm _).length_eq,length_map,length_range];omega) (λd hd=>by
    obtain⟨z,hz,rfl⟩:=mem_map.mp hd;obtain⟨k,hk,rfl⟩:=zm z hz;refine⟨_,rfl,?_⟩;unfold ib;exact aw (f:=bb) rfl rfl (dZ (at' k hk)))
  have ef:((iq ((List.range n).map (iA fs))).map jp).map (λd=>match d with | .tup [_,I k]=>ku (ox fs k.toNat)|d=>d)=eP ((iq ((List.range n).map (iA fs))).map λz=>ox fs (z.getD 1 0).toNat):=by
   unfold eP;rw[map_map,map_map];apply map_congr_left;intro z hz;obtain⟨k,hk,rfl⟩:=zm z hz;rfl
  rw[ef] at k4;have lM:M2.length=rest.length+1:=by obtain⟨i,c,_,rfl⟩:=t2;rfl
  rw[aO k4,lM];rfl
def PK {a b:List D}(h:a.length+b.length<=1000):bC (U a) (U b) M=O (U (a++b)) M:=by
 unfold bC;dsimp only;rw[if_pos (a7 (by omega))]
def G9 {d o:D}:cQ (n+1) [d,.lst [],o] M=O o M:=by
 show aC (gW (cQ n) [Z d,Z (.lst []),Z o,Y,Y] M)=_;unfold gW;rw[bT ((bH (aZ (aw rfl (eL (ds:=[]) rfl) (by rfl)))).trans (aO (g:=ae 2) rfl))];rfl
def Bx {o d:D}(h:xs[i]?=Z d)(hl:xs.length<=100):cQ 20 [U xs,.lst [I i],o] M=O (U (xs.set i o)) M:=by
 have hi:=(List.getElem?_eq_some_iff.mp h).1;show aC (gW (cQ 19) [Z (U xs),Z (.lst [I i]),Z o,Y,Y] M)=_;unfold gW;rw[ao ((bp (aZ (aw (a:=ae 1) rfl (eL (ds:=[]) rfl) (by rfl)))).trans rfl)];rw[ao (aH (aw (a:=ae 1) (b:=gC (I 0)) rfl rfl (dZ (k:=0) rfl)))];have c2:oo (ae 1) (dg (gC (I 1))) bu [Z (U xs),Z (.lst [I i]),Z o,Z (I i),Y] M=O (.lst []) M:=rfl;have k4:=cq (F:=cQ 19) (c:=ae 2) (aw (a:=ae 0) (b:=ae 3) (ρ:=[Z (U xs),Z (.lst [I i]),Z o,Z (I i),Y]) rfl rfl (cV h)) c2 rfl (G9 (n:=18));refine(congrArg aC (ao (aH k4))).trans ?_;have e1:oo (ae 0) bu (dg (ae 3)) [Z (U xs),Z (.lst [I i]),Z o,Z (I i),Z o] M=O (U (xs.take i)) M:=by
  show aX.ok (D.tup (g5 xs Y (Z (i:Int)))) M=_;rw[rT]
 have e2:oo (ae 0) (dg (g2 bC (ae 3) (gC (I 1)))) bu [Z (U xs),Z (.lst [I i]),Z o,Z (I i),Z o] M=O (U (xs.drop (i+1))) M:=by
  show aX.ok (D.tup (g5 xs (Z ((i:Int)+1)) Y)) M=_;rw[show(i:Int)+1=((i+1:Nat):Int) by omega,ue]
 have e3:=aO (aw (aw e1 (bg (ga:=aa (ae 4) af) (ds:=[o]) rfl) (PK (by rw[length_take];show min i xs.length+1<=1000;omega))) e2 (PK (by rw[length_append,length_take,length_drop];show min i xs.length+1+_<=1000;omega)));rw[vX xs i o hi] at e3;exact(congrArg aC e3).trans rfl
def De (hi:i<5)(ok:bO mm s)(hm:mm<=900):∃xs:List D,s.d=U xs/\xs.length=5/\gZ (U (xs.set i .non))=false/\b9 4 (U (xs.set i .non)):=by
 refine⟨_,rfl,rfl,?_,?_⟩
 ·have:i=0\/i=1\/i=2\/i=3\/i=4:=by omega
  rcases this with rfl|rfl|rfl|rfl|rfl
  ·rfl
  ·show((_&&(sU .non&&_))&&_)=false;rw[show sU .non=false from rfl,Bool.false_and,Bool.and_false,Bool.false_and]
  ·show(_&&(qE .non&&_))=false;rw[show qE .non=false from rfl,Bool.false_and,Bool.and_false]
  ·show(_&&(_&&kM _ .non))=false;rw[show∀n,kM n .non=false from λ_=>rfl,Bool.and_false,Bool.and_false]
  ·show((_&&(_&&si .non))&&_)=false;rw[show si .non=false from rfl,Bool.and_false,Bool.and_false,Bool.false_and]
 ·have dp:=oU ok hm;obtain⟨_,f⟩:=dp;obtain⟨_,f⟩:=f _ rfl;refine b9.tup (by simp) λx hx=>?_
  rcases mem_or_eq_of_mem_set hx with q|q
  ·exact f x q
  ·rw[q];exact FC
def C0 {w:Int}(hi:i<4):∃xs:List D,bc w h g m=U xs/\xs.length=4/\mQ (U (xs.set i (I (-1))))=false/\b9 1 (U (xs.set i (I (-1)))):=by
 refine⟨_,rfl,rfl,?_,?_⟩
 ·have:i=0\/i=1\/i=2\/i=3:=by omega
  rcases this with rfl|rfl|rfl|rfl
  ·rfl
  ·show(_&&(bx 1 40 (I (-1))&&_))=false;rw[show bx 1 40 (I (-1))=false from rfl,Bool.false_and,Bool.and_false]
  ·show(_&&(_&&(bx 0 20 (I (-1))&&_)))=false;rw[show bx 0 20 (I (-1))=false from rfl,Bool.false_and,Bool.and_false,Bool.and_false]
  ·show(_&&(_&&(_&&bx 0 12 (I (-1)))))=false;rw[show bx 0 12 (I (-1))=false from rfl,Bool.and_false,Bool.and_false,Bool.and_false]
 ·refine b9.tup (by simp) λx hx=>?_
  rcases mem_or_eq_of_mem_set hx with q|q
  ·simp only[mem_cons,not_mem_nil,or_false] at q;rcases q with rfl|rfl|rfl|rfl <;> exact b9.int
  ·rw[q];exact b9.int
def RS {i:Int}(h:i<1000000):i<2 ^ 62:=Int.lt_trans h (by decide)
def kN {o:MO}(t:bU l (rest++[o]) N):N[rest.length+1]?=Z o:=by
 obtain⟨i,c,_,rfl⟩:=t;rw[getElem?_cons_succ,getElem?_append_right (Nat.le_refl _),Nat.sub_self];rfl
def yz {o o':MO}(t:bU l (rest++[o]) N):bU l (rest++[o']) (N.set (rest.length+1) o'):=by
 obtain⟨i,c,hi,rfl⟩:=t;refine⟨i,c,hi,?_⟩;rw[set_cons_succ,set_append_right _ _ (Nat.le_refl _),Nat.sub_self];rfl
def qq (t:bU l (rest++[.lst xs]) N):zt N (rest.length+1)=Z xs:=by
 unfold zt;rw[kN t]
def LJ {d:D}(h1:i<1000000)(h2:xs.length<1000000):uu xs [I i,d]=Z (.non,xs.take i++d::xs.drop i):=by
 have b2:=RS (i:=i) (by omega);have b1:xs.length<sizeLine:=Nat.lt_of_lt_of_le h2 (a7 (Nat.le_refl _));have b0:(0:Int)<=i:=by omega
 unfold uu;split
 ·rename_i j x e;cases e;rw[if_pos ⟨b0,b2,b1⟩,Int.toNat_natCast]
 ·rename_i e;exact absurd rfl (e i d)
def IK {F:List D->List D->Option (D×List D)}{M2:az}{k:Nat}{xs2:List D}{r:D×List D}(h1:go ρ M=O (R k) M)(h2:zt M k=Z xs)(h3:ga ρ M=O ds M2)(h4:zt M2 k=Z xs2)(h5:F xs2 ds=Z r):A8 F go ga ρ M=O r.1 (M2.set k (.lst r.2)):=by
 unfold A8;rw[h1,ah];dsimp only;rw[h2];dsimp only;rw[h3,ah,h4];dsimp only;rw[h5]
def EK {N2:az}{d:D}(t:bU l (rest++[.lst xs]) N)(hv:ρ[5]?=Z (Z (R (rest.length+1))))(ha:ga ρ N=O [I i,d] N2)(t2:bU l (rest++[.lst xs]) N2)(hi:i<=1000)(hl:xs.length<=1000) :
  ∃N3,bU l (rest++[.lst (xs.take i++d::xs.drop i)]) N3/\A8 uu (ae 5) ga ρ N=O .non N3:=by
 have v:ae 5 ρ N=O (R (rest.length+1)) N:=by unfold ae;rw[hv]
 have e:=LJ (xs:=xs) (i:=i) (d:=d) (by omega) (by omega);exact⟨_,yz t2,IK v (qq t) ha (qq t2) e⟩
def LZ {ys:List D}{g:GE}(t:bU l (rest++[.lst xs]) N)(hv:ρ[5]?=Z (Z (R (rest.length+1))))(h8:ρ[8]?=Z (Z (I i)))(hg:g ρ N=O (.lst ys) N)(hi:i+1<=xs.length)(hl:xs.length+ys.length<=1000) :
  ∃N3,bU l (rest++[.lst (xs.take i++ys++xs.drop (i+1))]) N3/\uM (ae 5) (ae 8) (g2 bC (ae 8) (gC (I 1))) g ρ N=O (.nx ρ) N3:=by
 refine⟨_,yz t,?_⟩;have v5:ae 5 ρ N=O (R (rest.length+1)) N:=by unfold ae;rw[hv]
 have v8:ae 8 ρ N=O (I i) N:=by unfold ae;rw[h8]
 have v9:g2 bC (ae 8) (gC (I 1)) ρ N=O (I ((i:Int)+1)) N:=aw v8 rfl rfl;unfold uM;rw[hg,ah,v5,ah,v8,ah,v9,ah];have e:iZ (R (rest.length+1)) (.lst ys) (I i) (I ((i:Int)+1)) N=O () (N.set (rest.length+1) (.lst (xs.take i++ys++xs.drop (i+1)))):=by
  show(match N[rest.length+1]? with|some (.lst xs)=>if 0<=(i:Int)/\(i:Int)<=(i:Int)+1/\(i:Int)+1<=(xs.length:Int)/\xs.length+ys.length<=sizeLine then aX.ok () (N.set (rest.length+1) (.lst (xs.take (i:Int).toNat++ys++xs.drop ((i:Int)+1).toNat))) else .bad|_=>.bad)=_;rw[kN t];dsimp only;rw[if_pos ⟨by omega,by omega,by omega,a7 (by omega)⟩,Int.toNat_natCast,show((i:Int)+1).toNat=i+1 by omega]
 rw[e];rfl
def xT (t:bU l (rest++[.lst xs]) N)(hv:ρ[5]?=Z (Z (R (rest.length+1)))):aQ bE (aa (ae 5) af) ρ N=O (I (xs.length:Int)) N:=by
 have v5:ae 5 ρ N=O (R (rest.length+1)) N:=by unfold ae;rw[hv]
 refine jQ v5 ?_;show(match bN (R (rest.length+1)) N with|some xs=>aX.ok (I xs.length) N|none=>.bad)=_;unfold bN;dsimp only;rw[kN t]
def AA {T:List (Int×D)}(t:bU l (rest++[.lst (dD T)]) N)(hv:ρ[5]?=Z (Z (R (rest.length+1))))(hl:T.length<=1000):bq (cj (ae 5)) cb xH aP ρ N=O (.lst (T.map λp=>I p.1)) N:=by
 have v5:ae 5 ρ N=O (R (rest.length+1)) N:=by unfold ae;rw[hv]
 have gi:cj (ae 5) ρ N=O ⟨dD T,Z (rest.length+1)⟩ N:=by
  unfold cj;rw[v5,ah];unfold v7;dsimp only;rw[kN t]
 have ht:(⟨dD T,Z (rest.length+1)⟩:uH).ok N=true:=by
  unfold uH.ok;dsimp only;rw[kN t];exact g9 _
 unfold bq;rw[gi,ah];dsimp only;rw[mS (f:=λd=>match d with | .tup [x,_]=>x|d=>d) ht (dD T) (λd hd=>by
  obtain⟨p,_,rfl⟩:=mem_map.mp hd;exact aw (f:=bb) rfl rfl (cV rfl)),ah]
 unfold aP;have e:(dD T).map (λd=>match d with | .tup [x,_]=>x|d=>d)=T.map λp=>I p.1:=by unfold dD;rw[map_map];rfl
 rw[e,if_pos (a7 (by rw[length_map];omega))]
variable{ts:List Int}
def zX (hs:ts.Pairwise (·<=·))(h1:∀a∈ts.take n,a<=x)(h2:∀a∈ts.drop n,x<=a):(ts.take n++x::ts.drop n).Pairwise (·<=·):=by
 have p:=hs;rw[<-take_append_drop n ts,pairwise_append] at p;rw[pairwise_append,pairwise_cons];refine⟨p.1,⟨h2,p.2.1⟩,λa ha b hb=>?_⟩;rcases mem_cons.mp hb with e|e
 ·rw[e];exact h1 a ha
 ·exact p.2.2 a ha b e
def Eb (hs:ts.Pairwise (·<=·))(hr:∀a∈ts,0<=a/\a<T)(hT:0<T)(hx:(0::ts)[n]?=Z x):(ts.take n++x::ts.drop n).Pairwise (·<=·)/\∀a∈ts.take n++x::ts.drop n,0<=a/\a<T:=by
 have key:(∀a∈ts.take n,a<=x)/\(∀a∈ts.drop n,x<=a)/\0<=x/\x<T:=by
  cases n with
  | zero=>
   have e:x=0:=(Option.some.inj hx).symm;subst e;exact⟨λa ha=>(by cases ha),λa ha=>(hr a ha).1,Int.le_refl 0,hT⟩
  | succ n=>
   have hx:ts[n]?=Z x:=hx;obtain⟨hn,e⟩:=List.getElem?_eq_some_iff.mp hx;have mx:x∈ts:=mem_of_getElem? hx;have pg:=pairwise_iff_getElem.mp hs;refine⟨λa ha=>?_,λa ha=>?_,hr x mx⟩
   ·obtain⟨k,hk,ek⟩:=mem_iff_getElem.mp ha;rw[length_take] at hk;rw[getElem_take] at ek
    by_cases q:k=n
    ·subst q;omega
    ·have:=pg k n (by omega) hn (by omega);omega
   ·obtain⟨k,hk,ek⟩:=mem_iff_getElem.mp ha;rw[length_drop] at hk;rw[getElem_drop] at ek;have:=pg n (n+1+k) hn (by omega) (by omega);omega
 refine⟨zX hs key.1 key.2.1,λa ha=>?_⟩;rcases mem_append.mp ha with q|q
 ·exact hr a (mem_of_mem_take q)
 ·rcases mem_cons.mp q with e|e
  ·rw[e];exact key.2.2
  ·exact hr a (mem_of_mem_drop e)
def pd (T:Int)(ts:List Int):Bool:=decide (ts=sortI ts)&&ts.all λt=>decide (0<=t)&&decide (t<T)
def Fo (hs:ts.Pairwise (·<=·))(hr:∀a∈ts,0<=a/\a<T):pd T ts=true:=by
 unfold pd;rw[vL hs,decide_eq_true rfl,Bool.true_and];refine all_eq_true.mpr λt ht=>?_
 rw[decide_eq_true (hr t ht).1,decide_eq_true (hr t ht).2];rfl
def Gb (hx:x∈ts)(h:¬(0<=x/\x<T)):pd T ts=false:=by
 unfold pd;have:(ts.all λt=>decide (0<=t)&&decide (t<T))=false:=by
  rw[Bool.eq_false_iff];intro e;have:=all_eq_true.mp e x hx;rw[Bool.and_eq_true,decide_eq_true_iff,decide_eq_true_iff] at this;exact h this
 rw[this,Bool.and_false]
def B7 {a b:List Int}(h:y<x):pd T (a++x::y::b)=false:=by
 unfold pd;have:decide (a++x::y::b=sortI (a++x::y::b))=false:=decide_eq_false λe=>by
  have p:=uo (a++x::y::b);rw[<-e,pairwise_append,pairwise_cons] at p;have:=p.2.1.1 y (mem_cons_self ..);omega
 rw[this,Bool.false_and]
def OU:Nat->Str
 | 0=>"deed"|1=>"tick"|2=>"stand"|_=>"frame"
abbrev en (r:Nat)(T:Int)(bs:List D)(x0 x2 x3 x4 x8 x9 x10:Option D)(q:bK):bK:=x0::Z (R 0)::x2::x3::x4::Z (R (r+1))::Z (I T)::Z (.lst bs)::x8::x9::x10::q
variable{bs:List D}
section
variable {x0 x2 x3 x4 x8 x9 x10 x11 x12 x13 x14 x15:Option D}{M:az}{r:Nat}{T:Int}
def rJ {k:Nat}(hk:k<4)(hb:bs[3-k]?=Z (G b)):tR (en r T bs x0 x2 x3 x4 x8 x9 x10 [x11,x12,Z (I k),x14,x15]) M=O (.nx (en r T bs x0 x2 x3 x4 x8 x9 x10 [x11,if b=true then Z (U [S (OU k)]) else x12,Z (I k),x14,x15])) M:=by
 unfold tR;have t:eJ (g2 bb (ae 7) (g2 eY (gC (I 3)) (ae 13))) (en r T bs x0 x2 x3 x4 x8 x9 x10 [x11,x12,Z (I k),x14,x15]) M=O b M:=by
  refine bv (aw rfl (aw rfl rfl ?_) (dZ hb));show aX.ok (I (3-(k:Int))) M=_;rw[show 3-(k:Int)=((3-k:Nat):Int) by omega]
 cases b with
 | false=>exact(bp t).trans rfl
 | true=>
  refine(bH t).trans ((aH (aw (eL (ds:=[U [S "deed"],U [S "tick"],U [S "stand"],U [S "frame"]]) (ay (bg (ds:=[S "deed"]) rfl) (ay (bg (ds:=[S "tick"]) rfl) (ay (bg (ds:=[S "stand"]) rfl) (ay (bg (ds:=[S "frame"]) rfl) rfl))))) rfl (dZ ?_))).trans rfl);have:k=0\/k=1\/k=2\/k=3:=by omega
  rcases this with rfl|rfl|rfl|rfl <;> rfl
def nu (b0 b1 b2 b3:Bool):Str:=if b0=true then "frame" else if b1=true then "stand" else if b2=true then "tick" else if b3=true then "deed" else "told"
def QM {v:Str}:(if b=true then Z (D.tup [S w]) else Z (U [S v]))=Z (U [S (if b=true then w else v)]):=by cases b <;> rfl
def BV {b0 b1 b2 b3:Bool}:js (dQ (aa (gC (I 4)) af)) (dY 13) tR (en r T [G b0,G b1,G b2,G b3] x0 x2 x3 x4 x8 x9 x10 [x11,Z (U [S "told"]),x13,x14,x15]) M=O (.nx (en r T [G b0,G b1,G b2,G b3] x0 x2 x3 x4 x8 x9 x10 [x11,Z (U [S (nu b0 b1 b2 b3)]),Z (I 3),x14,x15])) M:=by
 refine jM (hU (ay rfl rfl) (by decide)) ?_;refine(iP rfl (rJ (by decide) rfl)).trans ((iP rfl (rJ (by decide) rfl)).trans ((iP rfl (rJ (by decide) rfl)).trans ((iP rfl (rJ (by decide) rfl)).trans ?_)));rw[QM,QM,QM,QM];rfl
end
def oK (k:Int)(w:Str):Str:=if k=0/\(w="tick"\/w="deed") then "told" else w
def S5 (k:(bi 40 (U [S w])&&([D.tup [S "tick"],U [S "deed"]].all (bi 40))&&(([D.tup [S "tick"],U [S "deed"]].any λy=>mJ y (U [S w]))==b))=true):Hm false (U [S w]) (.lst [U [S "tick"],U [S "deed"]]) M=O (G b) M:=by
 obtain⟨k1,k2⟩:=Bool.and_eq_true_iff.mp k;have k2:=beq_iff_eq.mp k2;show(if(bi 40 (U [S w])&&([D.tup [S "tick"],U [S "deed"]].all (bi 40)))=true then aX.ok (D.bl (([D.tup [S "tick"],U [S "deed"]].any λy=>mJ y (U [S w])) != false)) M else .bad)=_;rw[if_pos k1,k2,Bool.bne_false]
def W5 (w:Str):Prop:=w∈(["frame","stand","tick","deed","told"]:List Str)
def Pd (b0 b1 b2 b3:Bool):W5 (nu b0 b1 b2 b3):=by
 unfold W5;cases b0 <;> cases b1 <;> cases b2 <;> cases b3 <;> decide
def EN (h:W5 w):bi 40 (U [S w])=true:=by
 simp only[W5,mem_cons,not_mem_nil,or_false] at h;rcases h with rfl|rfl|rfl|rfl|rfl <;> decide +kernel
def QJ (h:W5 w):Hm false (U [S w]) (.lst [U [S "tick"],U [S "deed"]]) M=O (G (decide (w="tick"\/w="deed"))) M:=by
 simp only[W5,mem_cons,not_mem_nil,or_false] at h;rcases h with rfl|rfl|rfl|rfl|rfl <;> exact S5 (by decide +kernel)
def Nc (h:W5 w):W5 (oK k w):=by
 unfold oK;split
 ·unfold W5;decide
 ·exact h
def Jp (h:W5 w):aV true (U [S w]) (U [S w]) M=O (G false) M:=Hu (EN h) (tU _ _ (EN h)) (λ_=>rfl) M
def SJ:GE:=dM (aa (aD (aa (gC (S "tick")) af)) (aa (aD (aa (gC (S "deed")) af)) af))
section
variable {x0 x2 x8 x9 x10 x13 x14 x15:Option D}{T:Int}{bs:List D}
def uy {l:List (Int×D)}(hw:W5 w)(t:bU ns (rest++[.lst (dD l)]) N)(hc:bi 40 (.lst (dD l))=true)(hT:cB [I k,fr,st,.lst (dD l)] N=O (U [S (oK k w)]) N) :
  uE (en rest.length T bs x0 x2 (Z fr) (Z st) x8 x9 x10 [Z (.lst (dD l)),Z (U [S w]),x13,Z (I k),x15]) N=O (.nx (en rest.length T bs x0 x2 (Z fr) (Z st) x8 x9 x10 [Z (.lst (dD l)),Z (U [S w]),x13,Z (I k),Z (U [S (oK k w)])])) N:=by
 have t1:dN (aI (g2 (aV false) (ae 14) (gC (I 0)))) (aI (g2 (Hm false) (ae 12) SJ)) (en rest.length T bs x0 x2 (Z fr) (Z st) x8 x9 x10 [Z (.lst (dD l)),Z (U [S w]),x13,Z (I k),Z (U [S w])]) N=O (decide (k=0)&&decide (w="tick"\/w="deed")) N:=
  jF (aZ (aw rfl rfl (l5 k 0 N))) λ_=>aZ (aw rfl (eL (ay (bg rfl) (ay (bg rfl) rfl))) (QJ hw))
 have k2:cO (dN (aI (g2 (aV false) (ae 14) (gC (I 0)))) (aI (g2 (Hm false) (ae 12) SJ))) (aL 15 (aD (aa (gC (S "told")) af))) aG (en rest.length T bs x0 x2 (Z fr) (Z st) x8 x9 x10 [Z (.lst (dD l)),Z (U [S w]),x13,Z (I k),Z (U [S w])]) N=O (.nx (en rest.length T bs x0 x2 (Z fr) (Z st) x8 x9 x10 [Z (.lst (dD l)),Z (U [S w]),x13,Z (I k),Z (U [S (oK k w)])])) N:=by
  by_cases q:k=0/\(w="tick"\/w="deed")
  ·rw[decide_eq_true q.1,decide_eq_true q.2] at t1;rw[show oK k w="told" from if_pos q];exact(bH t1).trans (aH (bg rfl))
  ·rw[<-Bool.decide_and,decide_eq_false q] at t1;rw[show oK k w=w from if_neg q];exact(bp t1).trans rfl
 have nw:now (R (rest.length+1)) N=.lst (dD l):=by
  show(match N[rest.length+1]? with|some (.lst xs)=>D.lst xs|_=>R (rest.length+1))=_;rw[kN t]
 have eh:aV true (.lst (dD l)) (R (rest.length+1)) N=O (G false) N:=by
  unfold aV;rw[nw];show(if(bi 40 (.lst (dD l))&&bi 40 (.lst (dD l)))=true then aX.ok (D.bl (mJ (.lst (dD l)) (.lst (dD l)) != true)) N else .bad)=_;rw[hc,tU _ _ hc];rfl
 unfold uE;exact(ao (aH rfl)).trans ((ao k2).trans ((bp (gk (aZ (aw (J3 rfl rfl rfl rfl hT) rfl (Jp (Nc hw)))) λ_=>aZ (aw rfl rfl eh))).trans rfl))
def DA {l:List (Int×D)}(hw:W5 w)(t:bU ns (rest++[.lst (dD l)]) N)(hc:bi 40 (.lst (dD l))=true)(hT:∀k:Int,k=0\/k=1\/k=2->cB [I k,fr,st,.lst (dD l)] N=O (U [S (oK k w)]) N) :
  js (dQ (aa (gC (I 3)) af)) (dY 14) uE (en rest.length T bs x0 x2 (Z fr) (Z st) x8 x9 x10 [Z (.lst (dD l)),Z (U [S w]),x13,x14,x15]) N=O (.nx (en rest.length T bs x0 x2 (Z fr) (Z st) x8 x9 x10 [Z (.lst (dD l)),Z (U [S w]),x13,Z (I 2),Z (U [S (oK 2 w)])])) N:=by
 refine jM (hU (ay rfl rfl) (by decide)) ?_;exact(iP rfl (uy hw t hc (hT 0 (.inl rfl)))).trans ((iP rfl (uy hw t hc (hT 1 (.inr (.inl rfl))))).trans ((iP rfl (uy hw t hc (hT 2 (.inr (.inr rfl))))).trans rfl))
end
def qC:List D:=[U [S "halt"],U [S "pot",I 0,I 64],.lst [S "pot",I 0,I 0],.non]
def mK (s:cS)(d:D):Prop:=(∃dd:Dd,d=dd.d/\jq s dd)\/d∈qC
def Qt:GS:=(cO (eJ (g2 bb (ae 7) (gC (I 3)))) (bA (A8 uu (ae 5) (aa (ae 8) (aa (aD (aa (ae 9) (aa (g2 bb (dM (aa (aD (aa (gC (S "halt")) af)) (aa (aD (aa (gC (S "pot")) (aa (gC (I 0)) (aa (gC (I 64)) af)))) (aa (dM (aa (gC (S "pot")) (aa (gC (I 0)) (aa (gC (I 0)) af)))) (aa (gC .non) af))))) (aj 2 ar (aa (ae 1) (aa (gC (I 4)) af)))) af))) af)))) aG)
def Iv {f:Int}(h0:0<=f)(h1:f<4):∃d,d∈qC/\∀M,bb (.lst qC) (I f) M=O d M:=by
 have:f=0\/f=1\/f=2\/f=3:=by omega
 rcases this with rfl|rfl|rfl|rfl
 ·exact⟨U [S "halt"],by simp[qC],λM=>dZ rfl⟩
 ·exact⟨U [S "pot",I 0,I 64],by simp[qC],λM=>dZ rfl⟩
 ·exact⟨.lst [S "pot",I 0,I 0],by simp[qC],λM=>dZ rfl⟩
 ·exact⟨.non,by simp[qC],λM=>dZ rfl⟩
def Dt (l:List (Int×D))(i:Nat)(p:Int×D):(dD l).take i++D.tup [I p.1,p.2]::(dD l).drop i=dD (l.take i++p::l.drop i):=by
 unfold dD;rw[map_append,map_cons,map_take,map_drop]
variable{a:Nat}
def Nm {l:List (Int×D)}(t:bU ns (rest++[.lst (dD l)]) N)(h1:ρ[1]?=Z (Z (R 0)))(h5:ρ[5]?=Z (Z (R (rest.length+1))))(h7:g2 bb (ae 7) (gC (I 3)) ρ N=O (G b) N)(h8:ρ[8]?=Z (Z (I a)))(h9:ρ[9]?=Z (Z (I x)))
  (ha:a<=l.length) (hl:l.length<=100) (hs:(l.map (·.1)).Pairwise (·<=·)) (hr:∀q∈l.map (·.1),0<=q/\q<T) (hT:0<T) (hx:(0::l.map (·.1))[a]?=Z x) (hg:∀p∈l,∃dd:Dd,p.2=dd.d/\jq s dd) :
  ∃l1 N1,bU ns (rest++[.lst (dD l1)]) N1/\Qt ρ N=O (.nx ρ) N1/\(l1.map (·.1)).Pairwise (·<=·)/\(∀q∈l1.map (·.1),0<=q/\q<T)/\l1.length<=l.length+1/\(∀p∈l1,mK s p.2)/\(b=true->∃p∈l1,p.2∈qC)/\(b=false->l1=l):=by
 have v1:∀M,ae 1 ρ M=O (R 0) M:=λM=>by unfold ae;rw[h1]
 have v8:∀M,ae 8 ρ M=O (I a) M:=λM=>by unfold ae;rw[h8]
 have v9:∀M,ae 9 ρ M=O (I x) M:=λM=>by unfold ae;rw[h9]
 unfold Qt;cases b with
 | false=>exact⟨l,N,t,(bp (bv h7)).trans rfl,hs,hr,Nat.le_succ _,λp hp=>.inl (hg p hp),(λz=>by cases z),λ_=>rfl⟩
 | true=>
  obtain⟨f,N2,c1,c2,t2,e2⟩:=aY (many:=4) (by decide) (aJ (by decide) (by decide)) t;obtain⟨d,hd,ed⟩:=Iv c1 c2;have th:(dM (aa (aD (aa (gC (S "halt")) af)) (aa (aD (aa (gC (S "pot")) (aa (gC (I 0)) (aa (gC (I 64)) af)))) (aa (dM (aa (gC (S "pot")) (aa (gC (I 0)) (aa (gC (I 0)) af)))) (aa (gC .non) af))))) ρ N=O (.lst qC) N:=eL (ds:=qC) (ay (bg (ds:=[S "halt"]) rfl) (ay (bg (ds:=[S "pot",I 0,I 64]) rfl) (ay (eL (ds:=[S "pot",I 0,I 0]) rfl) (ay rfl rfl))));obtain⟨N3,t3,e3⟩:=EK (ga:=aa (ae 8) (aa (aD (aa (ae 9) (aa (g2 bb (dM (aa (aD (aa (gC (S "halt")) af)) (aa (aD (aa (gC (S "pot")) (aa (gC (I 0)) (aa (gC (I 64)) af)))) (aa (dM (aa (gC (S "pot")) (aa (gC (I 0)) (aa (gC (I 0)) af)))) (aa (gC .non) af))))) (aj 2 ar (aa (ae 1) (aa (gC (I 4)) af)))) af))) af)) (i:=a) (N2:=N2) t h5 (ay (v8 N) (ay (bg (ds:=[I x,d]) (ay (v9 N) (ay (aw th (bh (v1 N) rfl e2) (ed N2)) rfl))) rfl)) t2 (by omega) (by unfold dD;rw[length_map];omega);rw[Dt l a (x,d)] at t3;have tk:(l.take a++(x,d)::l.drop a).map (·.1)=(l.map (·.1)).take a++x::(l.map (·.1)).drop a:=by rw[map_append,map_cons,map_take,map_drop]
  obtain⟨k1,k2⟩:=Eb hs hr hT hx;refine⟨l.take a++(x,d)::l.drop a,N3,t3,(bH (bv h7)).trans (bG e3),by rw[tk];exact k1,by rw[tk];exact k2,?_,λp hp=>?_,λ_=>⟨(x,d),mem_append_right _ (mem_cons_self ..),hd⟩,(λz=>by cases z)⟩
  ·rw[length_append,length_cons,length_take,length_drop];omega
  ·rcases mem_append.mp hp with q|q
   ·exact .inl (hg p (mem_of_mem_take q))
   ·rcases mem_cons.mp q with e|e
    ·rw[e];exact .inr hd
    ·exact .inl (hg p (mem_of_mem_drop e))
def Nr (l m:List (Int×D))(a:Nat):(dD l).take a++dD m++(dD l).drop (a+1)=dD (l.take a++m++l.drop (a+1)):=by
 unfold dD;rw[map_append,map_append,map_take,map_drop]
def Fh {a b:GT}{M2:az}{y:Bool}(ha:a ρ M=O true M1)(hb:b ρ M1=O y M2):dN a b ρ M=O y M2:=by
 unfold dN;rw[ha,ah];exact hb
def rB:D:=U [S "pot",I 0,I 0]
def gP:GE:=aD (aa (gC (S "pot")) (aa (gC (I 0)) (aa (gC (I 0)) af)))
def Q7 (g:GE):GE:=aD (aa g (aa gP af))
def Aa {g:GE}(h:g ρ M=O (I x) M):Q7 g ρ M=O (U [I x,rB]) M:=bg (ay h (ay (bg rfl) rfl))
def dw (n:GE):GE:=aj 2 ar (aa (ae 1) (aa n af))
def SO:GE:=g2 oB (gC (I 10)) (gC (I 40))
def SM:GS:=aL 8 (dw (g2 bC (aQ bE (aa (ae 5) af)) (gC (I 1))))
def SE:GS:=aL 10 (g2 bb (dM (aa (lO (gC (I 1))) (aa (ae 6) (aa (g2 bC (ae 6) (dw SO)) (aa (g2 eY (lO (gC (I 1))) (dw SO)) af))))) (dw (gC (I 4))))
def SN:GA:=aa (ae 8) (aa (Q7 (ae 10)) af)
def SX:GT:=dN (aI (g2 (aV false) (dw (gC (I 2))) (gC (I 0)))) (aI (g2 xI (ae 6) (gC (I 1))))
def SI:GE:=dM (aa (Q7 (g2 eY (ae 6) (gC (I 1)))) (aa (Q7 (g2 eY (ae 6) (gC (I 2)))) af))
def SK:GS:=cO SX (uM (ae 5) (ae 8) (g2 bC (ae 8) (gC (I 1))) SI) aG
def BZ:GS:=cO (eJ (g2 bb (ae 7) (gC (I 2)))) (av SM (av SE (av (bA (A8 uu (ae 5) SN)) SK))) aG
section
variable {x0 x1 x2 x3 x4 x5 x6 x7 x8 x9 x10 x11 x12 x13 x14 x15:Option D}{q:bK}
def J1 :g2 oB (gC (I 10)) (gC (I 40)) ρ M=O (I (10 ^ 40)) M:=by
 refine aw rfl rfl ?_;show(if 0<=(40:Int)/\(40:Int)<=1000000/\(10:Int).natAbs<2 ^ 64 then aX.ok (I (10 ^ (40:Int).toNat)) M else .bad)=_;rw[if_pos ⟨by decide,by decide,by decide⟩];rfl
def NV {p q f:Int}(hT:0<T)(hp:0<=p)(hq:0<=q)(h0:0<=f)(h1:f<4):∃fx,¬(0<=fx/\fx<T)/\∀M,bb (.lst [I (-1),I T,I (T+p),I (-1-q)]) (I f) M=O (I fx) M:=by
 have:f=0\/f=1\/f=2\/f=3:=by omega
 rcases this with rfl|rfl|rfl|rfl
 ·exact⟨-1,by omega,λM=>dZ rfl⟩
 ·exact⟨T,by omega,λM=>dZ rfl⟩
 ·exact⟨T+p,by omega,λM=>dZ rfl⟩
 ·exact⟨-1-q,by omega,λM=>dZ rfl⟩
def Jh {α:Type}{l:List α}{z:α}(h:a<=l.length):(l.take a++z::l.drop a).length=l.length+1:=by
 rw[length_append,length_cons,length_take,length_drop];omega
def Jo {α:Type}{P:α->Prop}{l:List α}{z:α}(h:∀p∈l,P p)(hz:P z):∀p∈l.take a++z::l.drop a,P p:=λp hp=>by
 rcases mem_append.mp hp with z|z
 ·exact h p (mem_of_mem_take z)
 ·rcases mem_cons.mp z with e|e
  ·rw[e];exact hz
  ·exact h p (mem_of_mem_drop e)
def K5 {l:List (Int×D)}(t:bU ns (rest++[.lst (dD l)]) N)(ha:a<l.length)(hl:l.length<=101) :
  ∃l2 N2,bU ns (rest++[.lst (dD l2)]) N2/\SK (en rest.length T bs x0 x2 x3 x4 (Z (I a)) x9 x10 q) N=O (.nx (en rest.length T bs x0 x2 x3 x4 (Z (I a)) x9 x10 q)) N2/\(l2=l\/l2=l.take a++[(T-1,rB),(T-2,rB)]++l.drop (a+1)):=by
 obtain⟨f,N1,a6,b6,t6,e6⟩:=aY (many:=2) (by decide) (aJ (by decide) (by decide)) t;have ll:(dD l).length=l.length:=by unfold dD;rw[length_map]
 have tf:∀y,decide (f=0)=y->aI (g2 (aV false) (dw (gC (I 2))) (gC (I 0))) (en rest.length T bs x0 x2 x3 x4 (Z (I a)) x9 x10 q) N=O y N1:=λy hy=>aZ (aw (bh rfl rfl e6) rfl (by rw[l5,hy]))
 by_cases c:f=0
 ·by_cases d:T>1
  ·obtain⟨N7,t7,e7⟩:=LZ (ρ:=en rest.length T bs x0 x2 x3 x4 (Z (I a)) x9 x10 q) (i:=a) (g:=SI) (ys:=dD [(T-1,rB),(T-2,rB)]) t6 rfl rfl (eL (ds:=dD [(T-1,rB),(T-2,rB)]) (ay (Aa rfl) (ay (Aa rfl) rfl))) (by omega) (by rw[ll];show l.length+2<=1000;omega);rw[Nr] at t7;exact⟨_,N7,t7,(bH (Fh (tf true (decide_eq_true c)) (aZ (aw rfl rfl (Bt d))))).trans e7,.inr rfl⟩
  ·exact⟨l,N1,t6,(bp (Fh (tf true (decide_eq_true c)) (aZ (aw rfl rfl (GK d))))).trans rfl,.inl rfl⟩
 ·exact⟨l,N1,t6,(bp (Bh (tf false (decide_eq_false c)))).trans rfl,.inl rfl⟩
def KO {l:List (Int×D)}(t:bU ns (rest++[.lst (dD l)]) N)(h7:bs[2]?=Z (G b))(hl:l.length<=100)(hT:0<T)(hg:∀p∈l,mK s p.2)(x0 x2 x3 x4 x8 x9 x10:Option D)(q:bK) :
  ∃l2 N2 y8 y10,bU ns (rest++[.lst (dD l2)]) N2/\BZ (en rest.length T bs x0 x2 x3 x4 x8 x9 x10 q) N=O (.nx (en rest.length T bs x0 x2 x3 x4 y8 x9 y10 q)) N2/\l2.length<=l.length+2/\(∀p∈l2,mK s p.2)/\(b=true->pd T (l2.map (·.1))=false)/\(b=false->l2=l):=by
 have h7':g2 bb (ae 7) (gC (I 2)) (en rest.length T bs x0 x2 x3 x4 x8 x9 x10 q) N=O (G b) N:=aw (a:=ae 7) (x:=.lst bs) (y:=I 2) rfl rfl (dZ (k:=2) h7);cases b with
 | false=>exact⟨l,N,x8,x10,t,(bp (bv h7')).trans rfl,by omega,hg,(λz=>by cases z),λ_=>rfl⟩
 | true=>
  have gp:mK s rB:=.inl ⟨.pot 0 0,rfl,by decide,by decide⟩;have ll:(dD l).length=l.length:=by unfold dD;rw[length_map]
  obtain⟨f1,N1,a1,b1,t1,e1⟩:=aY (many:=(l.length:Int)+1) (by omega) (aJ (by omega) (by omega)) t;obtain⟨a,rfl⟩:=Int.eq_ofNat_of_zero_le a1;have ln:=xT (ρ:=en rest.length T bs x0 x2 x3 x4 x8 x9 x10 q) t rfl;rw[ll] at ln;obtain⟨p,N2,a2,b2,t2,e2⟩:=aY (many:=10 ^ 40) (by decide) (by decide +kernel) t1;obtain⟨r,N3,a3,b3,t3,e3⟩:=aY (many:=10 ^ 40) (by decide) (by decide +kernel) t2;obtain⟨f,N4,a4,b4,t4,e4⟩:=aY (many:=4) (by decide) (aJ (by decide) (by decide)) t3;obtain⟨fx,hfx,ex⟩:=NV hT a2 a3 a4 b4;have k8:SM (en rest.length T bs x0 x2 x3 x4 x8 x9 x10 q) N=O (.nx (en rest.length T bs x0 x2 x3 x4 (Z (I a)) x9 x10 q)) N1:=aH (bh (a:=ae 1) rfl (aw ln (y:=I 1) rfl rfl) e1);have k10:SE (en rest.length T bs x0 x2 x3 x4 (Z (I a)) x9 x10 q) N1=O (.nx (en rest.length T bs x0 x2 x3 x4 (Z (I a)) x9 (Z (I fx)) q)) N4:=aH (aw (eL (ds:=[I (-1),I T,I (T+p),I (-1-r)]) (ay rfl (ay rfl (ay (aw (a:=ae 6) (x:=I T) rfl (bh (a:=ae 1) rfl J1 e2) rfl) (ay (aw (a:=lO (gC (I 1))) (x:=I (-1)) rfl (bh (a:=ae 1) rfl J1 e3) rfl) rfl))))) (bh (a:=ae 1) rfl rfl e4) (ex N4));obtain⟨N5,t5,e5⟩:=EK (ρ:=en rest.length T bs x0 x2 x3 x4 (Z (I a)) x9 (Z (I fx)) q) (ga:=SN) (i:=a) (d:=U [I fx,rB]) (N2:=N4) t4 rfl (ay rfl (ay (Aa rfl) rfl)) t4 (by omega) (by omega);rw[Dt l a (fx,rB)] at t5;have ha:a<=l.length:=by omega
  have l1l:=Jh (z:=(fx,rB)) ha;have g1:=Jo (a:=a) (z:=(fx,rB)) hg gp;obtain⟨l2,N6,t6,e6,k⟩:=K5 (T:=T) (bs:=bs) (x0:=x0) (x2:=x2) (x3:=x3) (x4:=x4) (x9:=x9) (x10:=Z (I fx)) (q:=q) (a:=a) t5 (by omega) (by omega);refine⟨l2,N6,_,_,t6,(bH (bv h7')).trans ((ao k8).trans ((ao k10).trans ((ao (bG e5)).trans e6))),?_,?_,λ_=>?_,(λz=>by cases z)⟩
  ·rcases k with rfl|rfl
   ·omega
   ·rw[length_append,length_append,length_take,length_drop,l1l];show min a _+2+_<=_;omega
  ·rcases k with rfl|rfl
   ·exact g1
   ·intro p hp;rcases mem_append.mp hp with z|z
    ·rcases mem_append.mp z with z|z
     ·exact g1 p (mem_of_mem_take z)
     ·rcases mem_cons.mp z with e|e
      ·rw[e];exact gp
      ·rw[mem_singleton.mp e];exact gp
    ·exact g1 p (mem_of_mem_drop z)
  ·rcases k with rfl|rfl
   ·refine Gb (x:=fx) ?_ hfx;rw[map_append,map_cons];exact mem_append_right _ (mem_cons_self ..)
   ·rw[map_append,map_append,append_assoc];exact B7 (x:=T-1) (y:=T-2) (by omega)
end
def SS:GS:=(cO (eJ (g2 bb (ae 7) (gC (I 1)))) (aL 4 (aj 3 (cQ 20) (aa (ae 4) (aa (dM (aa (aj 2 ar (aa (ae 1) (aa (gC (I 5)) af))) af)) (aa (gC .non) af))))) aG)
def S7:GS:=(cO (eJ (g2 bb (ae 7) (gC (I 0)))) (aL 3 (aj 3 (cQ 20) (aa (ae 3) (aa (dM (aa (aj 2 ar (aa (ae 1) (aa (gC (I 4)) af))) af)) (aa (lO (gC (I 1))) af))))) aG)
section
variable {T:Int}{bs:List D}{r:Nat}
def Kq (t:bU ns rest N)(h7:bs[1]?=Z (G b))(ok:bO mm s)(hm:mm<=900)(x0 x2 x3 x8 x9 x10:Option D)(q:bK) :
  ∃st N1,bU ns rest N1/\SS (en r T bs x0 x2 x3 (Z s.d) x8 x9 x10 q) N=O (.nx (en r T bs x0 x2 x3 (Z st) x8 x9 x10 q)) N1/\(b=true->gZ st=false/\b9 4 st)/\(b=false->st=s.d):=by
 have h7':g2 bb (ae 7) (gC (I 1)) (en r T bs x0 x2 x3 (Z s.d) x8 x9 x10 q) N=O (G b) N:=aw (y:=I 1) rfl rfl (dZ (k:=1) h7);cases b with
 | false=>exact⟨s.d,N,t,(bp (bv h7')).trans rfl,(λz=>by cases z),λ_=>rfl⟩
 | true=>
  obtain⟨f,N1,a1,b1,t1,e1⟩:=aY (many:=5) (by decide) (aJ (by decide) (by decide)) t;obtain⟨i,rfl⟩:=Int.eq_ofNat_of_zero_le a1;obtain⟨xs,ex,hl,k1,k2⟩:=De (s:=s) (i:=i) (by omega) ok hm;have pu:=Bx (o:=.non) (M:=N1) (getElem?_eq_getElem (show i<xs.length by omega)) (by omega);rw[<-ex] at pu;exact⟨_,N1,t1,(bH (bv h7')).trans (aH (cq rfl (eL (ds:=[I i]) (ay (bh rfl rfl e1) rfl)) rfl pu)),(λ_=>⟨k1,k2⟩),(λz=>by cases z)⟩
def Lw {w:Int}(t:bU ns rest N)(h7:bs[0]?=Z (G b))(x0 x2 x4 x8 x9 x10:Option D)(q:bK) :
  ∃fr N1,bU ns rest N1/\S7 (en r T bs x0 x2 (Z (bc w h g m)) x4 x8 x9 x10 q) N=O (.nx (en r T bs x0 x2 (Z fr) x4 x8 x9 x10 q)) N1/\(b=true->mQ fr=false/\b9 1 fr)/\(b=false->fr=bc w h g m):=by
 have h7':g2 bb (ae 7) (gC (I 0)) (en r T bs x0 x2 (Z (bc w h g m)) x4 x8 x9 x10 q) N=O (G b) N:=aw (y:=I 0) rfl rfl (dZ (k:=0) h7);cases b with
 | false=>exact⟨bc w h g m,N,t,(bp (bv h7')).trans rfl,(λz=>by cases z),λ_=>rfl⟩
 | true=>
  obtain⟨f,N1,a1,b1,t1,e1⟩:=aY (many:=4) (by decide) (aJ (by decide) (by decide)) t;obtain⟨i,rfl⟩:=Int.eq_ofNat_of_zero_le a1;obtain⟨xs,ex,hl,k1,k2⟩:=C0 (w:=w) (h:=h) (g:=g) (m:=m) (i:=i) (by omega);have pu:=Bx (o:=I (-1)) (M:=N1) (getElem?_eq_getElem (show i<xs.length by omega)) (by omega);rw[<-ex] at pu;exact⟨_,N1,t1,(bH (bv h7')).trans (aH (cq rfl (eL (ds:=[I i]) (ay (bh rfl rfl e1) rfl)) rfl pu)),(λ_=>⟨k1,k2⟩),(λz=>by cases z)⟩
end
def cw (k:PyData.strOk w=true):bi (n+1) (S w)=true:=by simpa using k
def c3 {a b:D}(k:PyData.strOk w=true)(ha:bi 37 a=true)(hb:bi 37 b=true):bi 38 (U [S w,a,b])=true:=dW λx hx=>by
 simp only[mem_cons,not_mem_nil,or_false] at hx;rcases hx with rfl|rfl|rfl
 ·exact cw k
 ·exact ha
 ·exact hb
def FX {d:D}(h:mK s d):bi 38 d=true:=by
 rcases h with⟨dd,rfl,_⟩|h
 ·cases dd with
  | shift x y=>exact c3 (by decide +kernel) rfl rfl
  | pot x y=>exact c3 (by decide +kernel) rfl rfl
  | rank x y=>exact c3 (by decide +kernel) rfl rfl
  | turn x y=>exact c3 (by decide +kernel) rfl rfl
  | shape i o=>exact c3 (by decide +kernel) rfl (by cases o <;> rfl)
  | move i x y=>
   refine dW λz hz=>?_
   simp only[mem_cons,not_mem_nil,or_false] at hz;rcases hz with rfl|rfl|rfl|rfl
   ·exact cw (by decide +kernel)
   ·rfl
   ·rfl
   ·rfl
 ·simp only[qC,mem_cons,not_mem_nil,or_false] at h;rcases h with rfl|rfl|rfl|rfl <;> decide +kernel
def xU {d:D}(h:mK s d):aT 29 d=true:=by
 rcases h with⟨dd,rfl,_⟩|h
 ·cases dd with
  | shape i o=>cases o <;> rfl
  | _=>rfl
 ·simp only[qC,mem_cons,not_mem_nil,or_false] at h;rcases h with rfl|rfl|rfl|rfl <;> rfl
def Ab {l:List (Int×D)}(pr:rest.all qO=true)(h:∀p∈l,mK s p.2):(rest++[MO.lst (dD l)]).all qO=true:=by
 rw[all_append,pr];have:qO (.lst (dD l))=true:=all_eq_true.mpr λx hx=>by
  obtain⟨p,hp,rfl⟩:=mem_map.mp hx;show [I p.1,p.2].all (aT 29)=true;have:=xU (h p hp);rw[all_cons,all_cons,this];rfl
 rw[all_cons,this];rfl
def JB (p:eR T s td):∀q∈td.map (λp=>(p.1,p.2.d)),∃dd:Dd,q.2=dd.d/\jq s dd:=λq hq=>by
 obtain⟨r,hr,rfl⟩:=mem_map.mp hq;exact⟨r.2,rfl,p.dd r hr⟩
def zS (h:w≠"tick"/\w≠"deed"):oK k w=w:=if_neg λz=>z.2.elim h.1 h.2
def JZ (h:w="tick"\/w="deed"):oK k w=(if k=0 then("told":Str) else w):=by
 unfold oK
 by_cases q:k=0
 ·rw[if_pos q,if_pos ⟨q,h⟩]
 ·rw[if_neg q,if_neg (λz=>q z.1)]
def B6 {w:Int}{l1 l2:List (Int×D)}{b0 b1 b2 b3:Bool}(f:gR w h g m)(ok:bO 3 s)(pk:eR (h*(w+g)) s td)(tl:td.length<=50)(s6:(l1.map (·.1)).Pairwise (·<=·))(r6:∀q∈l1.map (·.1),0<=q/\q<h*(w+g))(g7:∀p∈l2,mK s p.2)(n7:l2.length<=60)(p6:b3=true->∃p∈l1,p.2∈qC)(q6:b3=false->l1=td.map λp=>(p.1,p.2.d))(p7:b2=true->pd (h*(w+g)) (l2.map (·.1))=false)(q7:b2=false->l2=l1)(p8:b1=true->gZ st=false/\b9 4 st)(q8:b1=false->st=s.d)(p9:b0=true->mQ fr=false/\b9 1 fr)(q9:b0=false->fr=bc w h g m)(sM:dB M)(k:Int)(hk:k=0\/k=1\/k=2):cB [I k,fr,st,.lst (dD l2)] M=O (U [S (oK k (nu b0 b1 b2 b3))]) M:=by
 have fb:=rW f;cases b0 with
 | true=>
  rw[show nu true b1 b2 b3="frame" from rfl,zS (by decide)];exact qI sM hk (λM=>va (p9 rfl).2 (p9 rfl).1) (by simp)
 | false=>
  rw[q9 rfl];cases b1 with
  | true=>
   rw[show nu false true b2 b3="stand" from rfl,zS (by decide)];exact qI sM hk (λM=>vc lq (p8 rfl).2 fb (p8 rfl).1) (by simp)
  | false=>
   rw[q8 rfl];have hb:∀M,aE [bc w h g m,s.d] M=O .non M:=λM=>uF lq (oU ok (by decide)) fb (tY ok (by decide:(3:Int)<=12))
   have hh:dm [bc w h g m,.lst (dD l2)] M=O (G (pd (h*(w+g)) (l2.map (·.1)))) M:=yo f (by omega);cases b2 with
   | true=>
    rw[p7 rfl] at hh;rw[show nu false false true b3="tick" from rfl,JZ (.inl rfl)];exact sV sM hk hb (CA (hb M) hh) (by simp)
   | false=>
    rw[q7 rfl,Fo s6 r6] at hh;rw[q7 rfl] at g7 n7 ⊢;cases b3 with
    | true=>
     obtain⟨p,hp,hbd⟩:=p6 rfl;rw[show nu false false false true="deed" from rfl,JZ (.inr rfl)];exact sV sM hk hb (CC (hb M) hh (by omega) (λp hp=>by
      rcases g7 p hp with⟨dd,e,k⟩|e
      ·exact⟨true,by rw[e];exact pR k⟩
      ·exact⟨false,zb e⟩) ⟨p,hp,zb hbd⟩) (by simp)
    | false=>
     rw[q6 rfl,<-Fv,show nu false false false false="told" from rfl,zS (by decide)];exact zn sM hk (by decide) f ok pk tl hb
abbrev ef (x0 x2:Option D)(f:Nat->Option D):bK:=[x0,Z (R 0),x2,f 3,f 4,f 5,f 6,f 7,f 8,f 9,f 10,f 11,f 12,f 13,f 14,f 15]
def Ju (t0:bU ns rest M)(pr:rest.all qO=true)(x0 x2:Option D)(v:Nat->Option D) :
  ∃u rest' M',bU ns rest' M'/\rest'.all qO=true/\rY (ef x0 x2 v) M=O (.nx (ef x0 x2 u)) M':=by
 obtain⟨w,h,g,m,M1,kw,kh,kg,km,t1,e1⟩:=Er (most:=5) (by decide) (by decide) t0;have f:gR w h g m:=⟨⟨kw.1,by omega⟩,⟨kh.1,by omega⟩,kg,km⟩;obtain⟨s,M2,ok,t2,e2⟩:=F4 (w:=w) (hh:=h) (more:=[I g,I m]) (mm:=3) ⟨by omega,by omega⟩ ⟨by omega,by omega⟩ (by decide) t1;obtain⟨td,M3,pk,tl,t3,e3⟩:=Fd (most:=4) f ok (by decide) (by decide) (by decide) t2;have hT:0<h*(w+g):=Int.mul_pos (by omega) (by omega);rw[Fv] at t3;have lg:=JB pk;have ll:(td.map λp=>(p.1,p.2.d)).length=td.length:=length_map ..;have tks:(td.map λp=>(p.1,p.2.d)).map (·.1)=td.map (·.1):=by rw[map_map];rfl
 obtain⟨l0,hl0⟩:∃l0,l0=td.map λp=>(p.1,p.2.d):=⟨_,rfl⟩
 rw[<-hl0] at t3 lg ll tks;obtain⟨es,M4,t4,le,qe,ee⟩:=il (ds0:=bj 0 4) (ge:=zW) (ρ:=ef x0 x2 λi=>[Z (bc w h g m),Z s.d,Z (R (rest.length+1)),Z (I (h*(w+g))),v 7,v 8,v 9,v 10,v 11,v 12,v 13,v 14,v 15][i-3]?.getD Y) (P:=bU ns (rest++[.lst (dD l0)])) (Q:=λe=>∃b:Bool,e=G b) (bj 0 4) (λd hd M hM=>by
  obtain⟨k,N1,c1,c2,u1,y1⟩:=aY (many:=4) (by decide) (aJ (by decide) (by decide)) hM;exact⟨_,N1,u1,⟨_,rfl⟩,aw (bh rfl rfl y1) (y:=I 0) rfl (l5 k 0 N1)⟩) M3 t3
 obtain⟨bl,hb,_⟩:=pM (P:=λ_=>True) λe he=>let ⟨b,eb⟩:=qe e he;⟨b,eb,trivial⟩
 have lb:bl.length=4:=by rw[<-bI 0 4,<-le,hb,length_map]
 obtain⟨b0,b1,b2,b3,rfl⟩:∃b0 b1 b2 b3,bl=[b0,b1,b2,b3]:=by
  match bl,lb with
  | [b0,b1,b2,b3],_=>exact⟨b0,b1,b2,b3,rfl⟩
 subst hb;obtain⟨f5,M5,a5,b5,t5,e5⟩:=aY (many:=(l0.length:Int)+1) (by omega) (aJ (by omega) (by omega)) t4;obtain⟨a,rfl⟩:=Int.eq_ofNat_of_zero_le a5;have lt:(dD l0).length=l0.length:=by unfold dD;rw[length_map]
 have ln:=xT (ρ:=en rest.length (h*(w+g)) [G b0,G b1,G b2,G b3] x0 x2 (Z (bc w h g m)) (Z s.d) (v 8) (v 9) (v 10) [v 11,v 12,v 13,v 14,v 15]) t4 rfl;rw[lt] at ln;obtain⟨x,hx⟩:∃x,(0::l0.map (·.1))[a]?=Z x:=⟨_,getElem?_eq_getElem (by rw[length_cons,length_map];omega)⟩;have k9:g2 bb (g2 bC (dM (aa (gC (I 0)) af)) (bq (cj (ae 5)) cb xH aP)) (ae 8) (en rest.length (h*(w+g)) [G b0,G b1,G b2,G b3] x0 x2 (Z (bc w h g m)) (Z s.d) (Z (I a)) (v 9) (v 10) [v 11,v 12,v 13,v 14,v 15]) M5=O (I x) M5:=by
  refine aw (y:=I a) (aw (eL (ds:=[I 0]) rfl) (AA t5 rfl (by omega)) ?_) rfl (dZ (by rw[getElem?_map,hx];rfl));rw[LL (by rw[length_map];show 1+_<=_;omega),map_cons,map_map];rfl
 obtain⟨l1,M6,t6,e6,s6,r6,n6,g6,p6,q6⟩:=Nm (s:=s) (T:=h*(w+g)) (ρ:=en rest.length (h*(w+g)) [G b0,G b1,G b2,G b3] x0 x2 (Z (bc w h g m)) (Z s.d) (Z (I a)) (Z (I x)) (v 10) [v 11,v 12,v 13,v 14,v 15]) t5 rfl rfl (aw (y:=I 3) rfl rfl (dZ (k:=3) rfl)) rfl rfl (by omega) (by omega) (by rw[tks];exact pk.ord) (by rw[tks];intro q hq;obtain⟨r,hr,rfl⟩:=mem_map.mp hq;exact pk.rng r hr) hT hx lg;obtain⟨l2,M7,y8,y10,t7,e7,n7,g7,p7,q7⟩:=KO (s:=s) (T:=h*(w+g)) (bs:=[G b0,G b1,G b2,G b3]) t6 rfl (by omega) hT g6 x0 x2 (Z (bc w h g m)) (Z s.d) (Z (I a)) (Z (I x)) (v 10) [v 11,v 12,v 13,v 14,v 15];obtain⟨st,M8,t8,e8,p8,q8⟩:=Kq (s:=s) (r:=rest.length) (T:=h*(w+g)) (bs:=[G b0,G b1,G b2,G b3]) t7 rfl ok (by decide) x0 x2 (Z (bc w h g m)) y8 (Z (I x)) y10 [v 11,v 12,v 13,v 14,v 15];obtain⟨fr,M9,t9,e9,p9,q9⟩:=Lw (w:=w) (h:=h) (g:=g) (m:=m) (r:=rest.length) (T:=h*(w+g)) (bs:=[G b0,G b1,G b2,G b3]) t8 rfl x0 x2 (Z st) y8 (Z (I x)) y10 [v 11,v 12,v 13,v 14,v 15];have cp:=Ab (l:=l2) pr g7;have sM:dB M9:=by
  obtain⟨i,c,_,rfl⟩:=t9;refine dB.pure ?_;rw[all_cons,cp,Bool.and_true];show(D.lst (ns.map I)::[I i,I c]).all (aT 30)=true;have:=fc 28 ns;simp[Cg,this,aT]
 have hc:bi 40 (.lst (dD l2))=true:=dW (n:=39) λd hd=>by
  obtain⟨p,hp,rfl⟩:=mem_map.mp hd;refine dW (n:=38) λz hz=>?_
  rcases mem_cons.mp hz with rfl|hz
  ·rfl
  ·rw[mem_singleton.mp hz];exact FX (g7 p hp)
 have hT9:=B6 (b0:=b0) (b1:=b1) (b2:=b2) (b3:=b3) f ok pk (by omega) s6 r6 g7 (by omega) p6 (λz=>(q6 z).trans hl0) p7 q7 p8 q8 p9 q9 sM;refine⟨λi=>[Z fr,Z st,Z (R (rest.length+1)),Z (I (h*(w+g))),Z (.lst [G b0,G b1,G b2,G b3]),y8,Z (I x),y10,Z (.lst (dD l2)),Z (U [S (nu b0 b1 b2 b3)]),Z (I 3),Z (I 2),Z (U [S (oK 2 (nu b0 b1 b2 b3))])][i-3]?.getD Y,_,M9,t9,cp,?_⟩;unfold rY;refine(ao (aH (bh rfl rfl e1))).trans ?_;refine(ao (aH (cq rfl rfl rfl e2))).trans ?_;refine(ao (aH (J3 (d:=gC (I 4)) rfl rfl rfl rfl e3))).trans ?_;refine(ao (aH (aw (y:=I (w+g)) rfl rfl (zH (by omega) (by omega) M3)))).trans ?_;refine(ao (aH (o7 (hU (n:=4) (ay (d:=I 4) rfl rfl) (by decide)) ee (by rw[length_map];show 4<=1000000;decide)))).trans ?_;refine(ao (aH (bh rfl (aw ln (y:=I 1) rfl rfl) e5))).trans ?_;refine(ao (aH k9)).trans ?_;refine(ao e6).trans ((ao e7).trans ((ao e8).trans ((ao e9).trans ?_)));refine(ao (aH (d:=.lst (dD l2)) (M1:=M9) (jQ (F:=lN) (M1:=M9) rfl ?_))).trans ?_
 ·show(match bN (R (rest.length+1)) M9 with|some xs=>aX.ok (D.lst xs) M9|none=>.bad)=_;unfold bN;dsimp only;rw[kN t9]
 refine(ao (aH (bg (ds:=[S "told"]) rfl))).trans ?_;exact(ao BV).trans (DA (Pd b0 b1 b2 b3) t9 hc hT9)
def law_true (ns:List Int)(hl:ns.length<=63):∃M',Bn [.ro (ns.map I)] []=O (G true) M':=by
 have go:∀(ds:List D) (M rest:az) (x2:Option D) (v:Nat->Option D),bU ns rest M->rest.all qO=true->∃y2 u M',fW ⟨bj 0 4,Y⟩ (dY 2) rY ds (ef (Z (.ro (ns.map I))) x2 v) M=O (.nx (ef (Z (.ro (ns.map I))) y2 u)) M':=by
  intro ds
  induction ds with
  | nil=>intro M rest x2 v _ _;exact⟨x2,v,M,rfl⟩
  | cons d ds ih=>
   intro M rest x2 v t pr;obtain⟨u,rest',M',t',pr',e⟩:=Ju t pr (Z (.ro (ns.map I))) (Z d) v;obtain⟨y2,u2,M2,e2⟩:=ih M' rest' (Z d) u t' pr';exact⟨y2,u2,M2,(iP rfl e).trans e2⟩
 obtain⟨y2,u,M',ef'⟩:=go (bj 0 4) [tp ns 0 0] [] Y (λ_=>Y) ⟨0,0,by decide,rfl⟩ rfl;refine⟨M',?_⟩;show aC (A4 [Z (.ro (ns.map I)),Y,Y,Y,Y,Y,Y,Y,Y,Y,Y,Y,Y,Y,Y,Y] [])=_;unfold A4;refine(congrArg aC ((ao (aH (D2 (ds:=[.lst (ns.map I),I 0,I 0]) rfl))).trans (ao (jM (t:=⟨bj 0 4,Y⟩) (hU (n:=4) (ay rfl rfl) (by decide)) ef')))).trans ?_;rfl
end K12
theorem PySem.Challenge.cw_glowrow_k12_refused_in_order_holds : PySem.Challenge.rw_glowrow_k12_refused_in_order.Holds :=
 K12.pre K12.law_true
