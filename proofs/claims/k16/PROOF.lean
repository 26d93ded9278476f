import PyProof.Rows.All
import Wide.All
import KE.KNestM
import OpenK.KOwn
import OpenK.KRaise
import KE.KIsAll
import KE.KTypeName
import Wide.FinOn
import Lean
import PyProof.EqAt
import PyProof.EqKinds
import PyProof.TupleCall
import PyProof.Draws
import PyProof.EnumMake
import KE.KLam
import KE.KMinKey
import PyProof.StrCalls2
import PyProof.Rows.StrIndexOr
import PyProof.CollectIter
import PyProof.ListStr
import KE.KDictLaws
import PyProof.P3Eq
import KE.KSortTup
import KE.KDictList
import PyProof.ZipIter
import PyProof.Rows.ZipGen
import KE.KSortKey
import PyProof.DictItems
import PyProof.SetKind
import PyProof.SetRoads
import PySem.Challenge.RW_glowrow_k16_whole_table_or_crowd
set_option Elab.async false
set_option linter.all false
set_option maxRecDepth 100000
set_option maxHeartbeats 4000000
open Option renaming some → Z,none → Y
noncomputable section
section
variable{c:Prop}{A B C E F H J L K:Sort _}
def q0x2{p p1:Prop}(h:p/\p1)(k:p->p1->c):c:=by obtain⟨h,h1⟩:=h;exact k h h1
def q0x3{p p1 p2:Prop}(h:p/\p1/\p2)(k:p->p1->p2->c):c:=by obtain⟨h,h1,h2⟩:=h;exact k h h1 h2
def q0x4{p p1 p2 p3:Prop}(h:p/\p1/\p2/\p3)(k:p->p1->p2->p3->c):c:=by obtain⟨h,h1,h2,h3⟩:=h;exact k h h1 h2 h3
def q0x5{p p1 p2 p3 p4:Prop}(h:p/\p1/\p2/\p3/\p4)(k:p->p1->p2->p3->p4->c):c:=by obtain⟨h,h1,h2,h3,h4⟩:=h;exact k h h1 h2 h3 h4
def q0x6{p p1 p2 p3 p4 p5:Prop}(h:p/\p1/\p2/\p3/\p4/\p5)(k:p->p1->p2->p3->p4->p5->c):c:=by obtain⟨h,h1,h2,h3,h4,h5⟩:=h;exact k h h1 h2 h3 h4 h5
def q1x1{p:A->Prop}(h:∃x,p x)(k:∀x,p x->c):c:=by obtain⟨x,h⟩:=h;exact k _ h
def q1x2{p p1:A->Prop}(h:∃x,p x/\p1 x)(k:∀x,p x->p1 x->c):c:=by obtain⟨x,h,h1⟩:=h;exact k _ h h1
def q1x3{p p1 p2:A->Prop}(h:∃x,p x/\p1 x/\p2 x)(k:∀x,p x->p1 x->p2 x->c):c:=by obtain⟨x,h,h1,h2⟩:=h;exact k _ h h1 h2
def q2x1{p:A->B->Prop}(h:∃x y,p x y)(k:∀x y,p x y->c):c:=by obtain⟨x,y,h⟩:=h;exact k _ _ h
def q2x2{p p1:A->B->Prop}(h:∃x y,p x y/\p1 x y)(k:∀x y,p x y->p1 x y->c):c:=by obtain⟨x,y,h,h1⟩:=h;exact k _ _ h h1
def q2x3{p p1 p2:A->B->Prop}(h:∃x y,p x y/\p1 x y/\p2 x y)(k:∀x y,p x y->p1 x y->p2 x y->c):c:=by obtain⟨x,y,h,h1,h2⟩:=h;exact k _ _ h h1 h2
def q2x4{p p1 p2 p3:A->B->Prop}(h:∃x y,p x y/\p1 x y/\p2 x y/\p3 x y)(k:∀x y,p x y->p1 x y->p2 x y->p3 x y->c):c:=by obtain⟨x,y,h,h1,h2,h3⟩:=h;exact k _ _ h h1 h2 h3
def q2x5{p p1 p2 p3 p4:A->B->Prop}(h:∃x y,p x y/\p1 x y/\p2 x y/\p3 x y/\p4 x y)(k:∀x y,p x y->p1 x y->p2 x y->p3 x y->p4 x y->c):c:=by obtain⟨x,y,h,h1,h2,h3,h4⟩:=h;exact k _ _ h h1 h2 h3 h4
def q2x6{p p1 p2 p3 p4 p5:A->B->Prop}(h:∃x y,p x y/\p1 x y/\p2 x y/\p3 x y/\p4 x y/\p5 x y)(k:∀x y,p x y->p1 x y->p2 x y->p3 x y->p4 x y->p5 x y->c):c:=by obtain⟨x,y,h,h1,h2,h3,h4,h5⟩:=h;exact k _ _ h h1 h2 h3 h4 h5
def q3x2{p p1:A->B->C->Prop}(h:∃x y z,p x y z/\p1 x y z)(k:∀x y z,p x y z->p1 x y z->c):c:=by obtain⟨x,y,z,h,h1⟩:=h;exact k _ _ _ h h1
def q3x3{p p1 p2:A->B->C->Prop}(h:∃x y z,p x y z/\p1 x y z/\p2 x y z)(k:∀x y z,p x y z->p1 x y z->p2 x y z->c):c:=by obtain⟨x,y,z,h,h1,h2⟩:=h;exact k _ _ _ h h1 h2
def q3x4{p p1 p2 p3:A->B->C->Prop}(h:∃x y z,p x y z/\p1 x y z/\p2 x y z/\p3 x y z)(k:∀x y z,p x y z->p1 x y z->p2 x y z->p3 x y z->c):c:=by obtain⟨x,y,z,h,h1,h2,h3⟩:=h;exact k _ _ _ h h1 h2 h3
def q3x6{p p1 p2 p3 p4 p5:A->B->C->Prop}(h:∃x y z,p x y z/\p1 x y z/\p2 x y z/\p3 x y z/\p4 x y z/\p5 x y z)(k:∀x y z,p x y z->p1 x y z->p2 x y z->p3 x y z->p4 x y z->p5 x y z->c):c:=by obtain⟨x,y,z,h,h1,h2,h3,h4,h5⟩:=h;exact k _ _ _ h h1 h2 h3 h4 h5
def q4x2{p p1:A->B->C->E->Prop}(h:∃x y z u,p x y z u/\p1 x y z u)(k:∀x y z u,p x y z u->p1 x y z u->c):c:=by obtain⟨x,y,z,u,h,h1⟩:=h;exact k _ _ _ _ h h1
def q4x3{p p1 p2:A->B->C->E->Prop}(h:∃x y z u,p x y z u/\p1 x y z u/\p2 x y z u)(k:∀x y z u,p x y z u->p1 x y z u->p2 x y z u->c):c:=by obtain⟨x,y,z,u,h,h1,h2⟩:=h;exact k _ _ _ _ h h1 h2
def q4x4{p p1 p2 p3:A->B->C->E->Prop}(h:∃x y z u,p x y z u/\p1 x y z u/\p2 x y z u/\p3 x y z u)(k:∀x y z u,p x y z u->p1 x y z u->p2 x y z u->p3 x y z u->c):c:=by obtain⟨x,y,z,u,h,h1,h2,h3⟩:=h;exact k _ _ _ _ h h1 h2 h3
def q4x5{p p1 p2 p3 p4:A->B->C->E->Prop}(h:∃x y z u,p x y z u/\p1 x y z u/\p2 x y z u/\p3 x y z u/\p4 x y z u)(k:∀x y z u,p x y z u->p1 x y z u->p2 x y z u->p3 x y z u->p4 x y z u->c):c:=by obtain⟨x,y,z,u,h,h1,h2,h3,h4⟩:=h;exact k _ _ _ _ h h1 h2 h3 h4
def q9x3{p p1 p2:A->B->C->E->F->H->J->L->K->Prop}(h:∃x y z u v w a b d,p x y z u v w a b d/\p1 x y z u v w a b d/\p2 x y z u v w a b d)(k:∀x y z u v w a b d,p x y z u v w a b d->p1 x y z u v w a b d->p2 x y z u v w a b d->c):c:=by obtain⟨x,y,z,u,v,w,a,b,d,h,h1,h2⟩:=h;exact k _ _ _ _ _ _ _ _ _ h h1 h2
end
namespace L2
open PySem PySem.Spec PyProof.Rows List
abbrev cr:=Sum Int Str
def jZ:cr->Value->Bool
 | .inl k,v=>Value.isInt k v
 | .inr x,v=>Value.isStrOf x v
def IU (w:World):cr->Int
 | .inl k=>hashInt k
 | .inr x=>hashStr w x
theorem bg:∀{k:cr} {v:Value},jZ k v=true->(∃i t,k=Sum.inl i/\v=Value.int i t)\/(∃x t,k=Sum.inr x/\v=Value.str x t)
 | .inl i,v,h=>by
  refine q1x1 (Value.isInt_shape (k:=i) (v:=v) h) λt e=>?_;exact .inl ⟨i,t,rfl,e⟩
 | .inr x,v,h=>by
  refine q1x1 (Value.isStrOf_shape (x:=x) (v:=v) h) λt e=>?_;exact .inr ⟨x,t,rfl,e⟩
def uZ (i:Int)(t:Tok):jZ (.inl i) (.int i t)=true:=by simp[jZ,Value.isInt]
def vU (x:Str)(t:Tok):jZ (.inr x) (.str x t)=true:=by simp[jZ,Value.isStrOf]
def Eo (a b:Int):decide ((Sum.inl a:cr)=Sum.inl b)=(a==b):=by
 by_cases e:a=b
 ·subst e;simp
 ·have h:¬(Sum.inl a:cr)=Sum.inl b:=λq=>e (Sum.inl.inj q)
  rw[decide_eq_false h];exact(beq_eq_false_iff_ne.mpr e).symm
def Ew (a b:Str):decide ((Sum.inr a:cr)=Sum.inr b)=decide (a=b):=by
 by_cases e:a=b
 ·subst e;simp
 ·have h:¬(Sum.inr a:cr)=Sum.inr b:=λq=>e (Sum.inr.inj q)
  rw[decide_eq_false h,decide_eq_false e]
def CI (a:Int)(b:Str):decide ((Sum.inl a:cr)=Sum.inr b)=false:=decide_eq_false (λq=>nomatch q)
def CP (a:Str)(b:Int):decide ((Sum.inr a:cr)=Sum.inl b)=false:=decide_eq_false (λq=>nomatch q)
def aS (prog:Program)(w:World):PySem.KeyKind prog w cr where
 is:=jZ
 hash:=IU w
 inj:=λv a b ha hb=>by
  rcases bg ha with⟨i,t,rfl,rfl⟩|⟨x,t,rfl,rfl⟩
  ·rcases bg hb with⟨j,u,rfl,e⟩|⟨y,u,rfl,e⟩
   ·injection e with e1 _;rw[e1]
   ·exact nomatch e
  ·rcases bg hb with⟨j,u,rfl,e⟩|⟨y,u,rfl,e⟩
   ·exact nomatch e
   ·injection e with e1 _;rw[e1]
 byValue:=λk v h=>by
  rcases bg h with⟨i,t,rfl,rfl⟩|⟨x,t,rfl,rfl⟩ <;> rfl
 pyHash:=λhv h=>by
  rcases bg hv with⟨i,t,rfl,rfl⟩|⟨x,t,rfl,rfl⟩
  ·exact wpAny_pyHash_int h
  ·exact wpAny_pyHash_str h
 eqBool:=λhu hv h=>by
  rcases bg hu with⟨i,t,rfl,rfl⟩|⟨x,t,rfl,rfl⟩
  ·rcases bg hv with⟨j,u,rfl,rfl⟩|⟨y,u,rfl,rfl⟩
   ·rw[Eo] at h;exact wpAny_eqBool_int h
   ·rw[CI] at h;exact SeqAt.EqAt.int_str i t y u _ _ _ _ h
  ·rcases bg hv with⟨j,u,rfl,rfl⟩|⟨y,u,rfl,rfl⟩
   ·rw[CP] at h;exact SeqAt.EqAt.str_int x t j u _ _ _ _ h
   ·rw[Ew] at h;exact wpAny_eqBool_str h
 «strs»:=λk x t v h=>by
  rcases bg h with⟨i,u,rfl,e⟩|⟨y,u,rfl,e⟩
  ·exact nomatch e
  ·injection e with e1 _
   subst e1;cases v <;> rfl
def pL (prog:Program)(w:World)(i:Int)(t:Tok):(aS prog w).is (.inl i) (.int i t)=true:=uZ i t
def qt (prog:Program)(w:World)(x:Str)(t:Tok):(aS prog w).is (.inr x) (.str x t)=true:=vU x t
inductive V where
 | non|bl (b:Bool)|int (i:Int)|str (x:Str)|byt (b:Array UInt8)|flt (b:UInt64)|ref (a:Addr)|ty (n:String)
 deriving DecidableEq
def aI:V->Value->Prop
 | .non,u=>u=Value.none
 | .bl b,u=>u=Value.bool b
 | .int i,u=>∃t,u=Value.int i t
 | .str x,u=>∃t,u=Value.str x t
 | .byt b,u=>∃t,u=Value.bytes b t
 | .flt b,u=>∃t,u=Value.float b t
 | .ref a,u=>u=Value.ref a
 | .ty n,u=>u=Value.type n
abbrev aJ:List V->List Value->Prop:=Paired aI
variable{xs:List V}{us:List Value}
def aJ.length (r:aJ xs us):xs.length=us.length:=Paired.length r
theorem aJ.get:∀{xs:List V} {us:List Value} {i:Nat} {x:V},aJ xs us->xs[i]?=Z x->∃u,us[i]?=Z u/\aI x u
 | _,_,_,_,.nil,e=>by simp at e
 | _,_,0,_,.cons r _,e=>by simp at e;subst e;exact⟨_,rfl,r⟩
 | _,_,i+1,x,.cons _ t,e=>by
  refine q1x2 (aJ.get (i:=i) (x:=x) t (by simpa using e)) λu h1 h2=>?_;exact⟨u,by simpa using h1,h2⟩
variable{u:Value}
theorem aJ.set {x:V}(r:aI x u):∀{xs:List V} {us:List Value} (i:Nat),aJ xs us->aJ (xs.set i x) (us.set i u)
 | _,_,_,.nil=>.nil
 | _,_,0,.cons _ t=>.cons r t
 | _,_,i+1,.cons q t=>.cons q (aJ.set r i t)
theorem aJ.append:∀{xs ys:List V} {us ws:List Value},aJ xs us->aJ ys ws->aJ (xs++ys) (us++ws)
 | _,_,_,_,.nil,s=>s
 | _,_,_,_,.cons r t,s=>.cons r (aJ.append t s)
theorem aJ.take:∀{xs:List V} {us:List Value} (n:Nat),aJ xs us->aJ (xs.take n) (us.take n)
 | _,_,0,_=>.nil
 | _,_,_+1,.nil=>.nil
 | _,_,n+1,.cons r t=>.cons r (aJ.take n t)
theorem aJ.drop:∀{xs:List V} {us:List Value} (n:Nat),aJ xs us->aJ (xs.drop n) (us.drop n)
 | _,_,0,r=>r
 | _,_,_+1,.nil=>.nil
 | _,_,n+1,.cons _ t=>aJ.drop n t
def iG:Option V->Option Value->Prop
 | some v,Z u=>aI v u
 | none,Y=>True
 | _,_=>False
def KV {κ:Type}:List (κ×V)->List (κ×Value)->Prop:=Paired λ(p:κ×V) (q:κ×Value)=>p.1=q.1/\aI p.2 q.2
def kV:cr->V
 | .inl i=>.int i
 | .inr x=>.str x
inductive HO where
 | lst (xs:List V)
 | tup (xs:List V)
 | dK (kvs:List (cr×V))|dT (kvs:List (List cr×V))
 | set (S:Int->Bool) (n:Nat)
 | ins (C dx:Addr) (fs:List (Str×V))
 | own (x:Addr)
 | xd (fs:List (Str×V))
 | met (f x:Addr)
 | rng (lo hi:Int)
 | frz (o:Obj) (u:HO)
 | tbl (ps:Array Value)
 | ext (φ:Heap->Prop)
abbrev Hp:=Addr->Option HO
def bu (H:Hp)(a:Addr)(o:HO):Hp:=λb=>if b=a then Z o else H b
variable{H:Hp}{a:Addr}{o:HO}
def aX :bu H a o a=Z o:=by unfold bu;rw[if_pos rfl]
variable{b:Addr}
def aj (h:b≠a):bu H a o b=H b:=by unfold bu;rw[if_neg h]
def pO {u:HO}(h:H a=Z o)(h':H b=Z u)(d:o≠u):a≠b:=by
 intro e;subst e;rw[h] at h';exact d (Option.some.inj h')
def br (h:H a=Z o)(h':H b=Y):a≠b:=by
 intro e;subst e;rw[h] at h';cases h'
section
variable (P:Program)(w:World)
def bB (H:Hp)(h:Heap)(a:Addr):HO->Prop
 | .lst xs=>xs.length<=sizeLine/\∃(its:List Value) (n:Nat),aJ xs its/\h.get? a=Z {cls:=.type "list",data:=.seq its.toArray n}
 | .tup xs=>xs.length<=sizeLine/\∃its:List Value,aJ xs its/\IsTup h a its.toArray
 | .dK kvs=>kvs.length<=sizeLine/\(a==sysModules)=false/\∃vs,KV kvs vs/\h.DictOf (aS P w) a vs
 | .dT kvs=>kvs.length<=sizeLine/\(a==sysModules)=false/\∃xs:List (List cr×Addr×Value),
   Paired (λ(p:List cr×V) (q:List cr×Addr×Value)=>p.1=q.1/\H q.2.1=Z (.tup (p.1.map kV))/\aI p.2 q.2.2) kvs xs/\
   ∃o es ep,h.get? a=Z o/\o.ExactDict/\o.data=.dict es ep/\es.toList=xs.map (entryOfKey (tupleKind (aS P w)))/\(xs.map (·.1)).Nodup
 | .set S n=>h.SetOf (intKind P w) a S n
 | .ins C dx fs=>H dx=Z (.own a)/\fs.length<=1000/\dx≠a/\h.get? a=Z (W.instObj C dx)/\
   ∃mA,h.Ns1 dx mA/\(∀f,iG (fs.lookup f) (mA f))/\PySem.Within mA (fs.map (·.1))
 | .own _=>∃o,h.get? a=Z o
 | .xd fs=>∃mA,h.Ns1 a mA/\∀f,iG (fs.lookup f) (mA f)
 | .rng lo hi=>∃t u v,h.get? a=Z {cls:=.type "range",data:=.fields #[.int lo t,.int hi u,.int 1 v]}
 | .frz o u=>h.get? a=Z o/\bB H h a u
 | .tbl ps=>h.get? a=Z {cls:=.none,data:=.fields ps}
 | .met f x=>h.get? a=Z (W.methodObj (.ref f) (.ref x))
 | .ext φ=>φ h/\(∃o,h.get? a=Z o)/\∀h1 h2:Heap,φ h1->(∀o,h1.get? a=Z o->h2.get? a=Z o)->φ h2
def hO (H:Hp)(h:Heap):Prop:=∀a o,H a=Z o->bB P w H h a o
end
section
variable {P:Program}{w:World}{H H':Hp}{h h':Heap}{a:Addr}{o:HO}
def bB.lt (x:bB P w H h a o):a<h.objs.size:=by
 cases o with
 | lst xs=>obtain⟨_,_,_,_,e⟩:=x;exact Heap.lt_size e
 | tup xs=>obtain⟨_,_,_,p⟩:=x;exact p.lt
 | dK kvs=>obtain⟨_,_,_,_,o,_,_,e,_⟩:=x;exact Heap.lt_size e
 | dT kvs=>obtain⟨_,_,_,_,o,_,_,e,_⟩:=x;exact Heap.lt_size e
 | set S n=>refine q4x2 x λo _ _ _ e _=>?_;exact Heap.lt_size e
 | ins C dx fs=>refine q0x5 x λ_ _ _ e _=>?_;exact Heap.lt_size e
 | own y=>refine q1x1 x λ_ e=>?_;exact Heap.lt_size e
 | xd fs=>obtain⟨_,⟨_,_,_,e,_⟩,_⟩:=x;exact Heap.lt_size e
 | rng lo hi=>obtain⟨_,_,_,e⟩:=x;exact Heap.lt_size e
 | frz ob u=>refine q0x2 x λe _=>?_;exact Heap.lt_size e
 | tbl ps=>exact Heap.lt_size (show h.get? a=Z _ from x)
 | met f y=>exact Heap.lt_size (show h.get? a=Z _ from x)
 | ext φ=>obtain⟨_,⟨_,e⟩,_⟩:=x;exact Heap.lt_size e
theorem Paired.mapP {α β:Type}{F G:α->β->Prop}:∀{l₁:List α} {l₂:List β},Paired F l₁ l₂->(∀a b,F a b->G a b)->Paired G l₁ l₂
 | _,_,.nil,_=>.nil
 | _,_,.cons r t,f=>.cons (f _ _ r) (Paired.mapP t f)
def bB.stay (x:bB P w H h a o)(k:∀b u,(b=a\/H b=Z (.own a))->h.get? b=Z u->h'.get? b=Z u)
  (ho:∀b,H b=Z (.own a)->H' b=Z (.own a)) (ht:∀b xs,H b=Z (.tup xs)->H' b=Z (.tup xs)):bB P w H' h' a o:=by
 induction o with
 | lst xs=>obtain⟨z,its,n,r,e⟩:=x;exact⟨z,its,n,r,k _ _ (.inl rfl) e⟩
 | tup xs=>obtain⟨z,its,r,ob,e,c⟩:=x;exact⟨z,its,r,ob,k _ _ (.inl rfl) e,c⟩
 | dK kvs=>obtain⟨z,y,vs,r,ob,es,ep,e,c⟩:=x;exact⟨z,y,vs,r,ob,es,ep,k _ _ (.inl rfl) e,c⟩
 | dT kvs=>
  obtain⟨z,y,xs,r,ob,es,ep,e,c⟩:=x;exact⟨z,y,xs,Paired.mapP r λp q z=>⟨z.1,ht _ _ z.2.1,z.2.2⟩,ob,es,ep,k _ _ (.inl rfl) e,c⟩
 | set S n=>refine q4x2 x λob es ep t e c=>?_;exact⟨ob,es,ep,t,k _ _ (.inl rfl) e,c⟩
 | ins C dx fs=>
  obtain⟨d,z,ne,e,mA,⟨od,es,ep,e2,c⟩,r⟩:=x;exact⟨ho _ d,z,ne,k _ _ (.inl rfl) e,mA,⟨od,es,ep,k _ _ (.inr d) e2,c⟩,r⟩
 | own y=>refine q1x1 x λob e=>?_;exact⟨ob,k _ _ (.inl rfl) e⟩
 | xd fs=>obtain⟨mA,⟨od,es,ep,e,c⟩,r⟩:=x;exact⟨mA,⟨od,es,ep,k _ _ (.inl rfl) e,c⟩,r⟩
 | rng lo hi=>obtain⟨t,u,v,e⟩:=x;exact⟨t,u,v,k _ _ (.inl rfl) e⟩
 | frz ob u ih=>refine q0x2 x λe q=>?_;exact⟨k _ _ (.inl rfl) e,ih q⟩
 | tbl ps=>
  have e:h.get? a=Z {cls:=.none,data:=.fields ps}:=x;show h'.get? a=Z {cls:=.none,data:=.fields ps};exact k a _ (.inl rfl) e
 | met f y=>
  have e:h.get? a=Z (W.methodObj (.ref f) (.ref y)):=x;show h'.get? a=Z (W.methodObj (.ref f) (.ref y));exact k a _ (.inl rfl) e
 | ext φ=>obtain⟨p,⟨o,e⟩,st⟩:=x;exact⟨st _ _ p λo q=>k _ _ (.inl rfl) q,⟨o,k _ _ (.inl rfl) e⟩,st⟩
def hO.lt (x:hO P w H h)(e:H a=Z o):a<h.objs.size:=(x a o e).lt
def hO.fresh (x:hO P w H h)(e:h.objs.size<=a):H a=Y:=by
 cases q:H a with
 | none=>rfl
 | some u=>exact absurd (Nat.lt_of_lt_of_le (x.lt q) e) (Nat.lt_irrefl _)
def hO.kept (x:hO P w H h)(k:∀b u,h.get? b=Z u->h'.get? b=Z u):hO P w H h':=λa o e=>
 (x a o e).stay (λb u _ q=>k b u q) (λ_ q=>q) λ_ _ q=>q
def hO.laid (x:hO P w H h)(k:∀b u,h.get? b=Z u->h'.get? b=Z u)(hp:h.objs.size<=a)(new:bB P w (bu H a o) h' a o):hO P w (bu H a o) h':=λb u e=>by
 have hn:=x.fresh hp
 by_cases hb:b=a
 ·subst hb;rw[aX] at e;cases e;exact new
 ·rw[aj hb] at e;exact(x b u e).stay (λc v _ q=>k c v q) (λc q=>by rw[aj (br q hn)];exact q) λc xs q=>by rw[aj (br q hn)];exact q
end
def Rd (H:Hp)(a:Addr)(u:HO):Prop:=H a=Z u\/∃o,H a=Z (.frz o u)
variable{P:Program}{w:World}{h:Heap}
def Rd.ok {u:HO}(r:Rd H a u)(x:hO P w H h):bB P w H h a u:=by
 rcases r with r|⟨o,r⟩
 ·exact x a u r
 ·refine q0x2 (x a _ r) λ_ q=>?_;exact q
def FQ:Option HO->Prop
 | some (.lst _)=>True
 | some (.dK _)=>True
 | some (.dT _)=>True
 | some (.set _ _)=>True
 | some (.ins _ _ _)=>True
 | some (.ext _)=>True
 | _=>False
section
variable {P:Program}{w:World}{H:Hp}{h h':Heap}{x e:Addr}{o':HO}
def hO.write (ok:hO P w H h)(mu:FQ (H x))(he:e=x\/H e=Z (.own x))(k:∀b u,b≠e->h.get? b=Z u->h'.get? b=Z u)(heo:∃u,h'.get? e=Z u)
  (new:bB P w (bu H x o') h' x o'):hO P w (bu H x o') h':=λb u q=>by
 have nown:∀c y,H c=Z (.own y)->c≠x:=λc y r z=>by subst z;rw[r] at mu;exact mu
 have ntup:∀c xs,H c=Z (.tup xs)->c≠x:=λc xs r z=>by subst z;rw[r] at mu;exact mu
 by_cases hb:b=x
 ·subst hb;rw[aX] at q;cases q;exact new
 ·rw[aj hb] at q
  by_cases hbe:b=e
  ·have q':H b=Z (.own x):=by
    rcases he with z|z
    ·exact absurd (hbe.trans z) hb
    ·rw[hbe];exact z
   rw[q] at q';cases q';refine q1x1 heo λv hv=>?_;exact⟨v,by rw[hbe];exact hv⟩
  ·refine(ok b u q).stay (λc v hc r=>k c v ?_ r) (λc r=>by rw[aj (nown c b r)];exact r) λc xs r=>by rw[aj (ntup c xs r)];exact r
   rcases hc with rfl|hc
   ·exact hbe
   ·rintro rfl;rcases he with z|z
    ·exact nown c b hc z
    ·rw[hc] at z;cases z;exact hb rfl
end
structure Un (fs ex:List Addr)(H H':Hp)(h h':Heap):Prop where
 keep:∀b o,h.get? b=Z o->H b=Y->b∉fs->b∉ex->h'.get? b=Z o
 slot:∀b o,h.get? b=Z o->H b=Y->b∈fs->b∉ex->∃sl,h'.get? b=Z {o with slots:=sl}
 free:∀b o,h.get? b=Z o->H b=Y->b∉ex->H' b=Y
 there:∀b o,h.get? b=Z o->b∉ex->∃o',h'.get? b=Z o'
 tups:∀b xs,H b=Z (.tup xs)->H' b=Z (.tup xs)
 frzs:∀b o u,H b=Z (.frz o u)->H' b=Z (.frz o u)
 tbls:∀b ps,H b=Z (.tbl ps)->∃more,H' b=Z (.tbl (ps++more))
section
variable {fs fs' ex ex':List Addr}{H H1 H2:Hp}{h h1 h2 h':Heap}{a x e:Addr}{o:HO}
def Un.any (u:Un fs ex H H1 h h1){ob:Obj}(q:h.get? b=Z ob)(n:H b=Y)(hx:b∉ex):∃sl,h1.get? b=Z {ob with slots:=sl}:=by
 by_cases hb:b∈fs
 ·exact u.slot b ob q n hb hx
 ·exact⟨ob.slots,u.keep b ob q n hb hx⟩
def Un.kept (k:∀b u,h.get? b=Z u->h'.get? b=Z u):Un fs ex H H h h':=
 ⟨λb ob q _ _ _=>k b ob q,λb ob q _ _ _=>⟨ob.slots,k b ob q⟩,λ_ _ _ n _=>n,λb ob q _=>⟨ob,k b ob q⟩,λ_ _ q=>q,λ_ _ _ q=>q,λ_ ps q=>⟨#[],by rw[q];simp⟩⟩
def Un.refl:Un fs ex H H h h:=Un.kept λ_ _ q=>q
def Un.laid (k:∀b u,h.get? b=Z u->h'.get? b=Z u)(hp:h.objs.size<=a)(hn:H a=Y):Un fs ex H (bu H a o) h h' where
 keep:=λb u q _ _ _=>k b u q
 slot:=λb u q _ _ _=>⟨u.slots,k b u q⟩
 free:=λb u q n _=>by rw[aj (Nat.ne_of_lt (Nat.lt_of_lt_of_le (Heap.lt_size q) hp))];exact n
 there:=λb u q _=>⟨u,k b u q⟩
 tups:=λb xs q=>by rw[aj (br q hn)];exact q
 frzs:=λb u xs q=>by rw[aj (br q hn)];exact q
 tbls:=λb ps q=>⟨#[],by rw[aj (br q hn),q];simp⟩
def Un.write (mu:FQ (H x))(he:e=x\/H e=Z (.own x))(k:∀b u,b≠e->h.get? b=Z u->h'.get? b=Z u)(heo:∃u,h'.get? e=Z u):Un fs ex H (bu H x o) h h':=by
 have hx:∀b,H b=Y->b≠x:=λb n z=>by subst z;rw[n] at mu;exact mu
 have hb:∀b,H b=Y->b≠e:=λb n z=>by
  subst z;rcases he with r|r
  ·exact hx b n r
  ·rw[n] at r;cases r
 have hm:∀b u,H b=Z u->¬FQ (Z u)->b≠x:=λb u q nm z=>by subst z;rw[q] at mu;exact nm mu
 refine⟨λb u q n _ _=>k b u (hb b n) q,λb u q n _ _=>⟨u.slots,k b u (hb b n) q⟩,λb u q n _=>by rw[aj (hx b n)];exact n,λb u q _=>?_,
  λb xs q=>by rw[aj (hm b _ q λz=>z)];exact q,λb u xs q=>by rw[aj (hm b _ q λz=>z)];exact q,λb ps q=>⟨#[],by rw[aj (hm b _ q λz=>z),q];simp⟩⟩
 by_cases hbe:b=e
 ·subst hbe;exact heo
 ·exact⟨u,k b u hbe q⟩
end
def trk (h:Heap)(H:Hp):List Addr:=(List.range h.objs.size).filter λa=>(H a).isSome
def oP (h:Heap)(H:Hp):Heap:=W.hideAll h (trk h H)
def uR (h:Heap)(H:Hp):(oP h H).objs.size=h.objs.size:=W.hideAll_size _ _
def xT {o:Obj}(e:h.get? b=Z o)(n:H b=Y):(oP h H).get? b=Z o:=
 W.hideAll_get _ e λhm=>by
  have q:(H b).isSome=true:=(mem_filter.mp hm).2;rw[n] at q;simp at q
def Bj {o:Obj}(e:(oP h H).get? b=Z o):h.get? b=Z o/\H b=Y:=by
 have e':h.get? b=Z o:=W.of_hideAll (trk h H) e;refine⟨e',?_⟩;cases q:H b with
 | none=>rfl
 | some x=>
  have hm:b∈trk h H:=mem_filter.mpr ⟨mem_range.mpr (Heap.lt_size e'),by simp[q]⟩;have z:(oP h H).get? b=Y:=W.hideAll_none (trk h H) hm;rw[z] at e;cases e
def AO (g h:Heap)(L:Addr):List (Addr×Obj):=(List.range h.objs.size).filterMap λa=>if a=L\/(g.get? a).isSome=true then Y else(h.get? a).map λo=>(a,o)
def rest (g h:Heap)(L d:Addr):List (Addr×Obj):=(AO g h L).filter λp=>decide (p.1≠d)
structure Mod (K:W.Frag)(mg:Str->Option Value)(base:Heap):Prop where
 kin:K.In base
 glob:base.Ns mainGlobals mg
 blt:∃mb,base.Ns builtinsNs mb/\∀x:Str,x≠"__name__"->mb x=bootBuiltins x
 nolimit:base.NoLimit
structure Cx where
 prog:Program
 w:World
 K:W.Frag
 mg:Str->Option Value
 base:Heap
 A:Around
 N:List Str
 s₀:Shared
 H₀:Hp
 env:Env
 outer:List Env
 stack:List Env
 ex:List Addr
 fn:Str->Bool
 calm:Bool
 pn:List (Addr×Obj)
 xe:Value->Shared->Prop
def kG (l:List Env):List Addr:=l.filterMap (·.frame)
abbrev Cx.fs (X:Cx):List Addr:=kG X.outer
def EK (sc:Scope)(x:Str):Prop:=sc.names.lookup x=Z .local\/sc.names.lookup x=Z .cell\/sc.names.lookup x=Z .free
def rH (sc:Scope)(x:Str):Prop:=sc.names.lookup x=Z .local\/sc.names.lookup x=Z .cell
def Ih (env:Env)(h:Heap)(m:Str->Option Value)(x:Str)(u:Value):Prop:=
 (env.kindOf x=Z .local/\m x=Z u)\/((env.kindOf x=Z .cell\/env.kindOf x=Z .free)/\∃c,env.cells.lookup x=Z c/\h.IsCell c (Z u))
structure Cx.Ok (X:Cx):Prop where
 mod:Mod X.K X.mg X.base
 kind:X.env.scope.kind=.function
 glob:X.env.globals=mainGlobals
 blt:X.env.builtins=builtinsNs
 above:X.s₀.heap.objs.size<=X.env.locals
 inj:∀x y c,X.env.cells.lookup x=Z c->X.env.cells.lookup y=Z c->x=y
 has:∀x,(X.env.kindOf x=Z .cell\/X.env.kindOf x=Z .free)->∃c,X.env.cells.lookup x=Z c
 cab:∀x c,X.fn x=true->X.env.cells.lookup x=Z c->X.s₀.heap.objs.size<=c
 hd:X.calm=true->X.A.handled=Y
 frames:X.A.frames=Z X.stack
 stk:X.stack=X.outer\/(X.stack=X.env::X.outer/\X.env.frame=Z X.env.locals)
 exf:∀b∈X.ex,b≠X.env.locals/\∀x c,X.env.cells.lookup x=Z c->c≠b
 bs:∀b o,X.base.get? b=Z o->X.s₀.heap.get? b=Z o/\X.H₀ b=Y
 bsz:X.base.objs.size<=X.s₀.heap.objs.size
 noex:∀b o,X.base.get? b=Z o->b∉X.ex
 exfs:∀b∈X.ex,b∉X.fs
 funs:X.s₀.heap.FunFrames X.base X.outer
 frf:∀b∈X.fs,X.H₀ b=Y
structure Inv (X:Cx)(aa:List (Addr×Obj))(σ:List (Option V))(H:Hp)(s:Shared):Prop where
 ok:X.Ok
 os:s.os=X.s₀.os
 bare:AllBare s.gens
 base:Un X.fs X.ex X.H₀ H X.s₀.heap s.heap
 loc:∃m,s.heap.Ns X.env.locals m/\∀(i:Nat) (x:Str) (v:V),X.N[i]?=Z x->σ[i]?=Z (Z v)->EK X.env.scope x->∃u,aI v u/\Ih X.env s.heap m x u
 cell:∀x c,X.env.cells.lookup x=Z c->∃v,s.heap.IsCell c v
 free:H X.env.locals=Y
 freeC:∀x c,X.env.cells.lookup x=Z c->H c=Y
 pin:∀p∈X.pn++aa,s.heap.get? p.1=Z p.2/\H p.1=Y/\p.1≠X.env.locals/\p.1∉X.fs/\∀v,p.2.data≠.cell v
 hok:hO X.prog X.w H s.heap
 len:σ.length=X.N.length
variable{x:Str}{ch:List Addr}{i:Nat}{v:V}
section
variable {X:Cx}{aa:List (Addr×Obj)}{σ:List (Option V)}{H H':Hp}{s:Shared}{h':Heap}
def Cx.Ok.nofr (ok:X.Ok){o:Obj}(e:X.base.get? b=Z o):b∉X.fs:=λhb=>by
 have:=(ok.funs.mem hb).1;rw[e] at this;cases this
def Inv.bs (I:Inv X aa σ H s):∀b o,X.base.get? b=Z o->s.heap.get? b=Z o/\H b=Y:=λb o e=>
 ⟨I.base.keep b o (I.ok.bs b o e).1 (I.ok.bs b o e).2 (I.ok.nofr e) (I.ok.noex b o e),I.base.free b o (I.ok.bs b o e).1 (I.ok.bs b o e).2 (I.ok.noex b o e)⟩
def Inv.bk (I:Inv X aa σ H s):∀b o,X.base.get? b=Z o->s.heap.get? b=Z o:=λb o e=>(I.bs b o e).1
def Inv.mod (I:Inv X aa σ H s):Mod X.K X.mg X.base:=I.ok.mod
def Inv.kIn (I:Inv X aa σ H s):X.K.In s.heap:=I.ok.mod.kin.keeps I.bk
def Inv.nolimit (I:Inv X aa σ H s):s.heap.NoLimit:=I.ok.mod.nolimit.keeps I.bk
def Inv.lt (I:Inv X aa σ H s):X.env.locals<s.heap.objs.size:=let ⟨_,hn,_⟩:=I.loc;hn.lt
def Inv.sz (I:Inv X aa σ H s):X.s₀.heap.objs.size<=s.heap.objs.size:=Nat.le_trans I.ok.above (Nat.le_of_lt I.lt)
def Inv.nofs (I:Inv X aa σ H s)(h:s.heap.objs.size<=a):a∉X.fs:=λhb=>by
 obtain⟨_,o,ho,_⟩:=I.ok.funs.mem hb;exact absurd (Nat.lt_of_lt_of_le (Heap.lt_size ho) (Nat.le_trans I.sz h)) (Nat.lt_irrefl _)
def Inv.cne (I:Inv X aa σ H s):∀x c,X.env.cells.lookup x=Z c->c≠X.env.locals:=λx c e z=>by
 refine q2x2 (I.cell x c e) λv o ho hd=>?_;obtain⟨m,⟨o',es,ep,ho',hd',_⟩,_⟩:=I.loc;rw[z,ho'] at ho;cases ho;rw[hd'] at hd;cases hd
def Inv.funs (I:Inv X aa σ H s):s.heap.FunFrames X.base X.outer:=by
 have all:∀(l:List Env),(∀b∈kG l,b∈X.fs)->X.s₀.heap.FunFrames X.base l->s.heap.FunFrames X.base l:=by
  intro l
  induction l with
  | nil=>intro _ _;trivial
  | cons env r ih=>
   intro hs hl;obtain⟨hk,⟨L,o,hf,hn,ho,hd⟩,hr⟩:=hl;have hL:L∈X.fs:=hs L (by unfold kG;rw[filterMap_cons,hf];exact mem_cons_self);refine q1x1 (I.base.slot L o ho (I.ok.frf L hL) hL λz=>I.ok.exfs L z hL) λsl e=>?_
   exact⟨hk,⟨L,_,hf,hn,e,hd⟩,ih (λb hb=>hs b (by unfold kG;rw[filterMap_cons,hf];exact mem_cons_of_mem _ hb)) hr⟩
 exact all X.outer (λ_ hb=>hb) I.ok.funs
def Inv.stack (I:Inv X aa σ H s):s.heap.FunFrames X.base X.stack:=by
 rcases I.ok.stk with e|⟨e,hf⟩
 ·rw[e];exact I.funs
 ·rw[e];refine q1x2 I.loc λm hn _=>?_;refine .cons (by rw[I.ok.kind];decide) hf hn ?_ I.funs;exact Heap.get?_none_of_le (Nat.le_trans I.ok.bsz I.ok.above)
def Inv.stkSub (I:Inv X aa σ H s):∀b∈kG X.stack,b∈X.env.locals::X.fs:=λb hb=>by
 rcases I.ok.stk with e|⟨e,hf⟩
 ·rw[e] at hb;exact mem_cons_of_mem _ hb
 ·rw[e] at hb;unfold kG at hb;rw[filterMap_cons,hf] at hb;exact hb
def Inv.stkFree (I:Inv X aa σ H s):∀b∈kG X.stack,H b=Y:=λb hb=>by
 rcases mem_cons.mp (I.stkSub b hb) with e|hb
 ·rw[e];exact I.free
 ·obtain⟨_,o,ho,_⟩:=I.ok.funs.mem hb;exact I.base.free b o ho (I.ok.frf b hb) λz=>I.ok.exfs b z hb
def Inv.step {g':Array GenState}{t':Nat}{d':Drawn}(I:Inv X aa σ H s)
  (hch:∀b∈ch,(b∈X.ex\/X.s₀.heap.objs.size<=b)/\b≠X.env.locals/\(∀x c,X.env.cells.lookup x=Z c->c≠b)/\∀p∈X.pn++aa,p.1≠b)
  (keep:∀b o,b≠X.env.locals->b∉X.fs->b∉ch->s.heap.get? b=Z o->H b=Y->h'.get? b=Z o)
  (slot:∀b o,b≠X.env.locals->b∈X.fs->b∉ch->s.heap.get? b=Z o->H b=Y->∃sl,h'.get? b=Z {o with slots:=sl}) (free:∀b o,b∉ch->s.heap.get? b=Z o->H b=Y->H' b=Y)
  (there:∀b o,b∉ch->s.heap.get? b=Z o->∃o',h'.get? b=Z o')
  (tups:∀b xs,H b=Z (.tup xs)->H' b=Z (.tup xs)) (frzs:∀b o u,H b=Z (.frz o u)->H' b=Z (.frz o u)) (tbls:∀b ps,H b=Z (.tbl ps)->∃more,H' b=Z (.tbl (ps++more)))
  (ns:∀m,s.heap.Ns X.env.locals m->h'.Ns X.env.locals m) (hok:hO X.prog X.w H' h') (hg:AllBare g') :
  Inv X aa σ H' {s with heap:=h',gens:=g',drawn:=d',toks:=t'}:=by
 have neL:∀b o,X.s₀.heap.get? b=Z o->b≠X.env.locals:=λb o e=>Nat.ne_of_lt (Nat.lt_of_lt_of_le (Heap.lt_size e) I.ok.above)
 have neC:∀b o,X.s₀.heap.get? b=Z o->b∉X.ex->b∉ch:=λb o e hx hb=>by
  rcases(hch b hb).1 with z|z
  ·exact hx z
  ·exact absurd (Nat.lt_of_lt_of_le (Heap.lt_size e) z) (Nat.lt_irrefl _)
 have cellK:∀x c,X.env.cells.lookup x=Z c->∀v,s.heap.IsCell c v->h'.IsCell c v:=λx c e v hxx=>by
  refine q1x2 hxx λo ho hd=>?_;have nch:c∉ch:=λz=>(hch c z).2.2.1 x c e rfl
  by_cases hc:c∈X.fs
  ·refine q1x1 (slot c o (I.cne x c e) hc nch ho (I.freeC x c e)) λsl q=>?_;exact⟨_,q,hd⟩
  ·exact⟨o,keep c o (I.cne x c e) hc nch ho (I.freeC x c e),hd⟩
 refine⟨I.ok,I.os,hg,⟨λb o e n hb hx=>?_,λb o e n hb hx=>?_,λb o e n hx=>?_,λb o e hx=>?_,λb xs e=>tups b xs (I.base.tups b xs e),λb o xs e=>frzs b o xs (I.base.frzs b o xs e),λb ps e=>?_⟩,?_,λx c e=>?_,?_,λx c e=>?_,λp hp=>?_,hok,I.len⟩
 ·exact keep b o (neL b o e) hb (neC b o e hx) (I.base.keep b o e n hb hx) (I.base.free b o e n hx)
 ·refine q1x1 (I.base.slot b o e n hb hx) λsl e1=>?_;refine q1x1 (slot b _ (neL b o e) hb (neC b o e hx) e1 (I.base.free b o e n hx)) λsl' e2=>?_;exact⟨sl',e2⟩
 ·refine q1x1 (I.base.there b o e hx) λo' e1=>?_;exact free b o' (neC b o e hx) e1 (I.base.free b o e n hx)
 ·refine q1x1 (I.base.there b o e hx) λo' e1=>?_;exact there b o' (neC b o e hx) e1
 ·refine q1x1 (I.base.tbls b ps e) λm1 e1=>?_;refine q1x1 (tbls b _ e1) λm2 e2=>?_;exact⟨m1++m2,by rw[e2,Array.append_assoc]⟩
 ·refine q1x2 I.loc λm hn hl=>?_;refine⟨m,ns m hn,λi x v e1 e2 e3=>?_⟩;refine q1x2 (hl i x v e1 e2 e3) λu r l=>?_;refine⟨u,r,?_⟩;rcases l with l|⟨k,c,e,z⟩
  ·exact .inl l
  ·exact .inr ⟨k,c,e,cellK x c e _ z⟩
 ·refine q1x1 (I.cell x c e) λv z=>?_;exact⟨v,cellK x c e v z⟩
 ·obtain⟨m,⟨o,_,_,ho,_⟩,_⟩:=I.loc;exact free _ o (λz=>(hch _ z).2.1 rfl) ho I.free
 ·refine q2x2 (I.cell x c e) λv o ho hd=>?_;exact free c o (λz=>(hch c z).2.2.1 x c e rfl) ho (I.freeC x c e)
 ·refine q0x5 (I.pin p hp) λe n ne nf d=>?_;have nch:p.1∉ch:=λz=>(hch p.1 z).2.2.2 p hp rfl
  exact⟨keep p.1 p.2 ne nf nch e n,free p.1 p.2 nch e n,ne,nf,d⟩
def Inv.un {t':Nat}(I:Inv X aa σ H s)(u:Un X.fs [] H H' s.heap h')(hok:hO X.prog X.w H' h'):Inv X aa σ H' {s with heap:=h',toks:=t'}:=by
 obtain⟨m,⟨o,es,ep,ho,r⟩,_⟩:=id I.loc;refine q1x1 (u.any ho I.free (by simp)) λsl hL=>?_;exact I.step (g':=s.gens) (d':=s.drawn) (ch:=[]) (λ_ z=>nomatch z) (λb o _ hb _ e n=>u.keep b o e n hb (by simp)) (λb o _ hb _ e n=>u.slot b o e n hb (by simp)) (λb o _ e n=>u.free b o e n (by simp)) (λb o _ e=>u.there b o e (by simp)) u.tups u.frzs u.tbls (λm' hm=>by
  refine q3x2 hm λo' es' ep' ho' r'=>?_;rw[ho] at ho';cases ho';exact⟨_,es',ep',hL,r'⟩) hok I.bare
def Inv.call {g':Array GenState}{t':Nat}{d':Drawn}(I:Inv X aa σ H s)(u:Un (kG X.stack) ch H H' s.heap h')(hok:hO X.prog X.w H' h')(hg:AllBare g')
  (hch:∀b∈ch,(b∈X.ex\/X.s₀.heap.objs.size<=b)/\b≠X.env.locals/\(∀x c,X.env.cells.lookup x=Z c->c≠b)/\∀p∈X.pn++aa,p.1≠b) :
  Inv X aa σ H' {s with heap:=h',gens:=g',drawn:=d',toks:=t'}:=by
 obtain⟨m,⟨o,es,ep,ho,r⟩,_⟩:=id I.loc;refine q1x1 (u.any ho I.free λz=>(hch _ z).2.1 rfl) λsl hL=>?_
 exact I.step (ch:=ch) hch (λb o hL hb hc e n=>u.keep b o e n (λz=>(mem_cons.mp (I.stkSub b z)).elim hL hb) hc) (λb o _ _ hc e n=>u.any e n hc) (λb o hc e n=>u.free b o e n hc) (λb o hc e=>u.there b o e hc) u.tups u.frzs u.tbls (λm' hm=>by
  refine q3x2 hm λo' es' ep' ho' r'=>?_;rw[ho] at ho';cases ho';exact⟨_,es',ep',hL,r'⟩) hok hg
def Inv.turned {t':Nat}{it:Addr}(I:Inv X aa σ H s)(k:∀b o,b≠it->s.heap.get? b=Z o->h'.get? b=Z o)(hn:H it=Y)(hL:it≠X.env.locals)
  (h1:it∈X.ex\/X.s₀.heap.objs.size<=it) (h2:∀x c,X.env.cells.lookup x=Z c->c≠it) (h3:∀p∈X.pn++aa,p.1≠it):Inv X aa σ H {s with heap:=h',toks:=t'}:=by
 have nit:∀b u,H b=Z u->b≠it:=λb u e z=>by rw[z,hn] at e;cases e
 refine I.step (g':=s.gens) (d':=s.drawn) (ch:=[it]) (λb hb=>?_) (λb o _ _ hc e _=>k b o (λz=>hc (by simp[z])) e) (λb o _ _ hc e _=>⟨o.slots,k b o (λz=>hc (by simp[z])) e⟩) (λ_ _ _ _ n=>n)
  (λb o hc e=>⟨o,k b o (λz=>hc (by simp[z])) e⟩) (λ_ _ e=>e) (λ_ _ _ e=>e) (λb ps e=>⟨#[],by rw[e];simp⟩) (λm hm=>?_) (λb u e=>?_) I.bare
 ·have e:b=it:=by simpa using hb
  subst e;exact⟨h1,hL,h2,h3⟩
 ·refine q3x2 hm λo es ep ho r=>?_;exact⟨o,es,ep,k _ o (Ne.symm hL) ho,r⟩
 ·refine(I.hok b u e).stay (λc v hc q=>k c v ?_ q) (λ_ q=>q) λ_ _ q=>q
  rcases hc with z|z
  ·rw[z];exact nit b u e
  ·exact nit c _ z
def Inv.tok (I:Inv X aa σ H s)(t:Nat):Inv X aa σ H {s with toks:=t}:=I.un (h':=s.heap) (t':=t) Un.refl I.hok
def Inv.kept {t':Nat}(I:Inv X aa σ H s)(k:∀b u,s.heap.get? b=Z u->h'.get? b=Z u):Inv X aa σ H {s with heap:=h',toks:=t'}:=I.un (Un.kept k) (I.hok.kept k)
def Inv.laid {t':Nat}(I:Inv X aa σ H s)(k:∀b u,s.heap.get? b=Z u->h'.get? b=Z u)(hp:s.heap.objs.size<=a)(new:bB X.prog X.w (bu H a o) h' a o) :
  Inv X aa σ (bu H a o) {s with heap:=h',toks:=t'}:=I.un (Un.laid k hp (I.hok.fresh hp)) (I.hok.laid k hp new)
def Inv.write {x e:Addr}{t':Nat}(I:Inv X aa σ H s)(mu:FQ (H x))(he:e=x\/H e=Z (.own x))(k:∀b u,b≠e->s.heap.get? b=Z u->h'.get? b=Z u)(heo:∃u,h'.get? e=Z u)
  (new:bB X.prog X.w (bu H x o) h' x o):Inv X aa σ (bu H x o) {s with heap:=h',toks:=t'}:=I.un (Un.write mu he k heo) (I.hok.write mu he k heo new)
def Inv.pins_of {pins':List (Addr×Obj)}(I:Inv X aa σ H s)(h:∀p∈pins',s.heap.get? p.1=Z p.2/\H p.1=Y/\p.1≠X.env.locals/\p.1∉X.fs/\∀v,p.2.data≠.cell v):Inv X pins' σ H s:=
 ⟨I.ok,I.os,I.bare,I.base,I.loc,I.cell,I.free,I.freeC,λp hp=>(mem_append.mp hp).elim (λz=>I.pin p (mem_append_left _ z)) (h p),I.hok,I.len⟩
def pU {N:List Str}(hN:N.Nodup){j:Nat}(a:N[i]?=Z x)(b:N[j]?=Z x):i=j:=by
 refine q1x1 (List.getElem?_eq_some_iff.mp a) λh1 e1=>?_;refine q1x1 (List.getElem?_eq_some_iff.mp b) λh2 e2=>?_;exact(getElem_inj hN).mp (e1.trans e2.symm)
def n8 {M:Model}{A:Around}{E:Value->Shared->Prop}{Q:Unit->Shared->Prop}(I:Inv X aa σ H s)(hN:X.N.Nodup)(hi:X.N[i]?=Z x)(hx:rH X.env.scope x)(r:aI v u)
  (h:∀s',Inv X aa (σ.set i (Z v)) H s'->(∃a,Heap.SameBut a s.heap s'.heap/\(a=X.env.locals\/X.env.cells.lookup x=Z a))->Q () s') (hf:X.fn x=true\/X.env.scope.names.lookup x=Z .local:=by first|exact .inl rfl|exact .inr rfl|assumption):wpAny M A (storeName X.env x u) Q E s:=by
 refine q1x2 (id I.loc) λm hn hl=>?_;have hcls:(X.env.scope.kind==.class||(X.env.scope.kind==.module&&X.env.locals != X.env.globals))=false:=by rw[I.ok.kind];rfl
 have hiσ:i<σ.length:=by rw[I.len];exact(List.getElem?_eq_some_iff.mp hi).1
 have cne:=I.cne;have tracked:∀{a:Addr} {h':Heap},(∃o,s.heap.get? a=Z o/\H a=Y)->Heap.SameBut a s.heap h'->hO X.prog X.w H h':=λ{a h'} ha hs b ob e=>by
  refine q1x2 ha λ_ _ hfree=>?_;refine(I.hok b ob e).stay (λc w' hc q=>(hs.2 c ?_).trans q) (λ_ q=>q) λ_ _ q=>q
  rintro rfl;rcases hc with rfl|hc
  ·rw[hfree] at e;cases e
  ·rw[hfree] at hc;cases hc
 rcases hx with hk|hk
 ·refine wpAny_storeName_local hk hn (λh' hn' hs=>?_) hcls;refine q3x2 (id hn) λoL _ _ hoL _=>?_;refine h _ ⟨I.ok,I.os,I.bare,⟨λb o e n hb hx=>?_,λb o e n hb hx=>?_,I.base.free,λb o e hx=>?_,I.base.tups,I.base.frzs,I.base.tbls⟩,⟨_,hn',λj y v' e1 e2 e3=>?_⟩,λy c e=>?_,I.free,I.freeC,λp hp=>?_,tracked ⟨oL,hoL,I.free⟩ hs,by simpa using I.len⟩ ⟨_,hs,.inl rfl⟩
  ·exact(hs.2 b (Nat.ne_of_lt (Nat.lt_of_lt_of_le (Heap.lt_size e) I.ok.above))).trans (I.base.keep b o e n hb hx)
  ·refine q1x1 (I.base.slot b o e n hb hx) λsl e1=>?_;exact⟨sl,(hs.2 b (Nat.ne_of_lt (Nat.lt_of_lt_of_le (Heap.lt_size e) I.ok.above))).trans e1⟩
  ·refine q1x1 (I.base.there b o e hx) λo' e1=>?_;exact⟨o',(hs.2 b (Nat.ne_of_lt (Nat.lt_of_lt_of_le (Heap.lt_size e) I.ok.above))).trans e1⟩
  ·by_cases hj:j=i
   ·subst hj;rw[hi] at e1;cases e1;rw[getElem?_set_self hiσ] at e2;cases e2;exact⟨u,r,.inl ⟨hk,by simp⟩⟩
   ·rw[getElem?_set_ne (Ne.symm hj)] at e2;refine q1x2 (hl j y v' e1 e2 e3) λu' r' q=>?_;refine⟨u',r',?_⟩;rcases q with⟨k,e⟩|⟨k,c,e,z⟩
    ·refine .inl ⟨k,?_⟩;have:y≠x:=λe=>hj (pU hN e1 (e▸hi))
     simp[this,e]
    ·exact .inr ⟨k,c,e,z.sameBut hs (cne y c e)⟩
  ·refine q1x1 (I.cell y c e) λw' z=>?_;exact⟨w',z.sameBut hs (cne y c e)⟩
  ·refine q0x5 (I.pin p hp) λe n ne nf d=>?_;exact⟨(hs.2 p.1 ne).trans e,n,ne,nf,d⟩
 ·have hfn:X.fn x=true:=by
   rcases hf with z|z
   ·exact z
   ·rw[z] at hk;cases hk
  refine q1x1 (I.ok.has x (.inl hk)) λc hc=>?_;refine q1x1 (I.cell x c hc) λw' z=>?_;refine wpAny_storeName_cell I.ok.kind hk hc z (λh' hc' hs=>?_);refine q1x2 (id z) λoc hoc hocd=>?_;refine h {s with heap:=h'} ⟨I.ok,I.os,I.bare,⟨λb o e n hb hx=>?_,λb o e n hb hx=>?_,I.base.free,λb o e hx=>?_,I.base.tups,I.base.frzs,I.base.tbls⟩,⟨m,hn.sameBut hs (Ne.symm (cne x c hc)),λj y v' e1 e2 e3=>?_⟩,λy c' e=>?_,I.free,I.freeC,λp hp=>?_,tracked ⟨oc,hoc,I.freeC x c hc⟩ hs,by simpa using I.len⟩ ⟨c,hs,.inr hc⟩
  ·exact(hs.2 b (Nat.ne_of_lt (Nat.lt_of_lt_of_le (Heap.lt_size e) (I.ok.cab x c hfn hc)))).trans (I.base.keep b o e n hb hx)
  ·refine q1x1 (I.base.slot b o e n hb hx) λsl e1=>?_;exact⟨sl,(hs.2 b (Nat.ne_of_lt (Nat.lt_of_lt_of_le (Heap.lt_size e) (I.ok.cab x c hfn hc)))).trans e1⟩
  ·refine q1x1 (I.base.there b o e hx) λo' e1=>?_;exact⟨o',(hs.2 b (Nat.ne_of_lt (Nat.lt_of_lt_of_le (Heap.lt_size e) (I.ok.cab x c hfn hc)))).trans e1⟩
  ·by_cases hj:j=i
   ·subst hj;rw[hi] at e1;cases e1;rw[getElem?_set_self hiσ] at e2;cases e2;exact⟨u,r,.inr ⟨.inl hk,c,hc,hc'⟩⟩
   ·rw[getElem?_set_ne (Ne.symm hj)] at e2;refine q1x2 (hl j y v' e1 e2 e3) λu' r' q=>?_;refine⟨u',r',?_⟩;rcases q with q|⟨k,c',e,z'⟩
    ·exact .inl q
    ·refine .inr ⟨k,c',e,z'.sameBut hs ?_⟩;rintro rfl;exact hj (pU hN e1 (I.ok.inj _ _ _ e hc▸hi))
  ·by_cases hcc:c'=c
   ·subst hcc;exact⟨_,hc'⟩
   ·refine q1x1 (I.cell y c' e) λw2 z2=>?_;exact⟨w2,z2.sameBut hs hcc⟩
  ·refine q0x5 (I.pin p hp) λe n ne nf d=>?_;refine⟨(hs.2 p.1 ?_).trans e,n,ne,nf,d⟩;intro q;rw[q,hoc] at e;have q':oc=p.2:=Option.some.inj e;exact d w' (by rw[<-q'];exact hocd)
def mw {M:Model}{A:Around}{E:Value->Shared->Prop}{Q:Unit->Shared->Prop}(I:Inv X aa σ H s)(hN:X.N.Nodup)(hi:X.N[i]?=Z x)(hx:rH X.env.scope x)(r:aI v u)
  (h:∀s',Inv X aa (σ.set i (Z v)) H s'->Q () s') (hf:X.fn x=true\/X.env.scope.names.lookup x=Z .local:=by first|exact .inl rfl|exact .inr rfl|assumption):wpAny M A (storeName X.env x u) Q E s:=
 n8 I hN hi hx r (λs' I' _=>h s' I') hf
def Inv.call' {s':Shared}(I:Inv X aa σ H s)(ho:s'.os=s.os)(u:Un (kG X.stack) ch H H' s.heap s'.heap)(hok:hO X.prog X.w H' s'.heap)(hg:AllBare s'.gens)
  (hch:∀b∈ch,(b∈X.ex\/X.s₀.heap.objs.size<=b)/\b≠X.env.locals/\(∀x c,X.env.cells.lookup x=Z c->c≠b)/\∀p∈X.pn++aa,p.1≠b):Inv X aa σ H' s':=by
 obtain⟨h',g',d',t',o'⟩:=s';have e:o'=s.os:=ho;subst e;exact I.call (g':=g') (t':=t') (d':=d') u hok hg hch
end
abbrev XK:=Value->Option Addr->Hp->Prop
abbrev St:=List (Option V)
abbrev VK:=V->Hp->Prop
abbrev TE:=St->Hp->VK->Prop
abbrev TT:=St->Hp->(Bool->Hp->Prop)->Prop
abbrev TA:=St->Hp->(List V->Hp->Prop)->Prop
structure vJ where
 nx:St->Hp->Prop
 rt:VK
 bk:St->Hp->Prop:=λ_ _=>False
 ct:St->Hp->Prop:=λ_ _=>False
abbrev TS:=vJ->St->Hp->Prop
def EP (X:Cx)(aa:List (Addr×Obj))(σ:St)(Q:VK)(u:Value)(s':Shared):Prop:=∃v H',Inv X aa σ H' s'/\aI v u/\Q v H'
def TP (X:Cx)(aa:List (Addr×Obj))(σ:St)(Q:Bool->Hp->Prop)(b:Bool)(s':Shared):Prop:=∃H',Inv X aa σ H' s'/\Q b H'
def AP (X:Cx)(aa:List (Addr×Obj))(σ:St)(Q:List V->Hp->Prop)(us:List Value)(s':Shared):Prop:=∃vs H',Inv X aa σ H' s'/\aJ vs us/\Q vs H'
def SP (X:Cx)(aa:List (Addr×Obj))(D:vJ)(f:Flow)(s':Shared):Prop:=
 match f with
 | .next=>∃σ' H',Inv X aa σ' H' s'/\D.nx σ' H'
 | .brk=>∃σ' H',Inv X aa σ' H' s'/\D.bk σ' H'
 | .cont=>∃σ' H',Inv X aa σ' H' s'/\D.ct σ' H'
 | .ret u=>∃v σ' H',Inv X aa σ' H' s'/\aI v u/\D.rt v H'
def PE (X:Cx)(e:Expr)(t:TE):Prop:=
 ∀(aa:List (Addr×Obj)) (s:Shared) (σ:St) (H:Hp) (Q:VK),Inv X aa σ H s->t σ H Q->wpAny (model X.prog X.w) X.A (eval e X.env) (EP X aa σ Q) X.xe s
def PT (X:Cx)(e:Expr)(t:TT):Prop:=
 ∀(aa:List (Addr×Obj)) (s:Shared) (σ:St) (H:Hp) (Q:Bool->Hp->Prop),Inv X aa σ H s->t σ H Q->wpAny (model X.prog X.w) X.A (isTrue e X.env (eval e X.env)) (TP X aa σ Q) X.xe s
def PW (X:Cx)(e:Expr)(t:TT):Prop:=
 ∀(whole:Sem Value) (aa:List (Addr×Obj)) (s:Shared) (σ:St) (H:Hp) (Q:Bool->Hp->Prop),Inv X aa σ H s->t σ H Q->wpAny (model X.prog X.w) X.A (isTrue e X.env whole) (TP X aa σ Q) X.xe s
variable{X:Cx}{e:Expr}
def PW.pt {t:TT}(h:PW X e t):PT X e t:=h _
def PA (X:Cx)(es:List Expr)(t:TA):Prop:=
 ∀(pos:Pos) (aa:List (Addr×Obj)) (s:Shared) (σ:St) (H:Hp) (Q:List V->Hp->Prop),Inv X aa σ H s->t σ H Q->wpAny (model X.prog X.w) X.A (spliced (backTo pos (starEach es X.env))) (AP X aa σ Q) X.xe s
def PS (X:Cx)(st:Stmt)(t:TS):Prop:=
 ∀(aa:List (Addr×Obj)) (s:Shared) (σ:St) (H:Hp) (D:vJ),Inv X aa σ H s->t D σ H->wpAny (model X.prog X.w) X.A (exec st X.env) (SP X aa D) X.xe s
def PSs (X:Cx)(st:List Stmt)(t:TS):Prop:=
 ∀(aa:List (Addr×Obj)) (s:Shared) (σ:St) (H:Hp) (D:vJ),Inv X aa σ H s->t D σ H->wpAny (model X.prog X.w) X.A (execs st X.env) (SP X aa D) X.xe s
variable{A:Around}{E:Value->Shared->Prop}{s:Shared}
def bM {α:Type}{t:Sem α}{Q Q':α->Shared->Prop}{M:Model}(h:wpAny M A t Q E s)(hQ:∀a s,Q a s->Q' a s):wpAny M A t Q' E s:=wpAny_mono h hQ λ_ _ x=>x
variable{Q:Value->Shared->Prop}{aa:List (Addr×Obj)}{σ:St}
section
variable {X:Cx}
def GX (i:Nat):TE:=λσ H Q=>∃v,σ[i]?=Z (Z v)/\Q v H
def tC (v:V):TE:=λ_ H Q=>Q v H
def C3 {pos:Pos}(hN:X.N[i]?=Z x)(hv:EK X.env.scope x)(hd:(x==("__debug__":Str))=false:=by decide)(hcd:(x==("__classdict__":Str))=false:=by decide):PE X (.Name x pos) (GX i):=by
 intro aa s σ H Q I h;refine q1x2 h λv e h=>?_;refine q1x2 I.loc λm hn hl=>?_;refine q1x2 (hl i x v hN e hv) λu r l=>?_;have fin:EP X aa σ Q u s:=⟨v,H,I,r,h⟩;rcases l with⟨hk,hm⟩|⟨hk,c,hc,hcell⟩
 ·exact wpAny_Name (wpAny_loadName_local I.ok.kind hk hn hm fin) hd
 ·rcases hk with hk|hk
  ·exact wpAny_Name (wpAny_loadName_cell I.ok.kind hk hc hcell fin) hd
  ·exact wpAny_Name (wpAny_loadName_free I.ok.kind hk hc hcell fin hcd) hd
def Ex {i j pos}:PE X (.Constant (.int i) j pos) (tC (.int i)):=λ_ _ _ H _ I h=>wpAny_Constant_int ⟨.int i,H,I.tok _,⟨_,rfl⟩,h⟩
def Gk {b j pos}:PE X (.Constant (.bool b) j pos) (tC (.bl b)):=λ_ _ _ H _ I h=>Constant_bool ⟨.bl b,H,I,rfl,h⟩
def DM {j pos}:PE X (.Constant .none j pos) (tC .non):=λ_ _ _ H _ I h=>Constant_none ⟨.non,H,I,rfl,h⟩
def Dm {x j pos}:PE X (.Constant (.str x) j pos) (tC (.str x)):=λ_ _ _ H _ I h=>Calls.Constant_str ⟨.str x,H,I.tok _,⟨_,rfl⟩,h⟩
def Gl (X:Cx)(x:Str):Prop:=X.env.kindOf x=Z .globalImplicit
def uN {E:Value->Shared->Prop}{pos:Pos}(I:Inv X aa σ H s)(hg:Gl X x)(hm:X.mg x=Z u)(h:Q u s)
  (hd:(x==("__debug__":Str))=false:=by decide):wpAny (model X.prog X.w) X.A (eval (.Name x pos) X.env) Q E s:=
 Calls.Name_function_global I.ok.kind hg (Calls.loadGlobal_global (by rw[I.ok.glob];exact I.mod.glob.keeps I.bk) hm h) hd
def mJ {E:Value->Shared->Prop}{pos:Pos}(I:Inv X aa σ H s)(hg:Gl X x)(hm:X.mg x=Y)(hv:bootBuiltins x=Z u)(h:Q u s)
  (hn:x≠"__name__":=by decide) (hd:(x==("__debug__":Str))=false:=by decide):wpAny (model X.prog X.w) X.A (eval (.Name x pos) X.env) Q E s:=by
 refine q1x2 I.mod.blt λmb h1 h2=>?_;exact Calls.Name_function_global I.ok.kind hg (Calls.loadGlobal_builtin (by rw[I.ok.glob];exact I.mod.glob.keeps I.bk) hm (by rw[I.ok.blt];exact h1.keeps I.bk) ((h2 x hn).trans hv) h) hd
def Aq {pos:Pos}(hg:Gl X x)(hm:X.mg x=Y)(hv:bootBuiltins x=Z u)(r:aI v u)(hn:x≠"__name__":=by decide)(hd:(x==("__debug__":Str))=false:=by decide):PE X (.Name x pos) (tC v):=
 λ_ _ _ H _ I h=>mJ I hg hm hv ⟨v,H,I,r,h⟩ hn hd
variable {a b:Expr}{ta tb:TE}{pos:Pos}
variable {tA tB':TT}{rest:List Expr}
def Hu (t u:TT):TT:=λσ H Q=>t σ H λc H1=>if c=true then u σ H1 Q else Q false H1
def Jj (t u:TT):TT:=λσ H Q=>t σ H λc H1=>if c=true then Q true H1 else u σ H1 Q
def IP (t:TT):TT:=λσ H Q=>t σ H λc H1=>Q (!c) H1
def AJ (ha:PT X a tA):PW X (.BoolOp .And [a] pos) tA:=by
 intro wh aa s σ H Q I h;refine isTrue_and (bM (ha aa s σ H Q I h) λc s1 e=>?_);cases c with
 | true=>exact isTrue_and_nil e
 | false=>exact e
def Dh (ha:PT X a tA):PW X (.BoolOp .Or [a] pos) tA:=by
 intro wh aa s σ H Q I h;refine isTrue_or (bM (ha aa s σ H Q I h) λc s1 e=>?_);cases c with
 | false=>exact isTrue_or_nil e
 | true=>exact e
def Dd (ha:PT X a tA)(hb:PW X (.BoolOp .And (b::rest) pos) tB'):PW X (.BoolOp .And (a::b::rest) pos) (Hu tA tB'):=by
 intro wh aa s σ H Q I h;refine isTrue_and (bM (ha aa s σ H _ I h) λc s1 hxx=>?_);refine q1x2 hxx λH1 I1 q1=>?_;cases c with
 | true=>exact hb wh aa s1 σ H1 Q I1 q1
 | false=>exact⟨H1,I1,q1⟩
def Gn (ha:PT X a tA)(hb:PW X (.BoolOp .Or (b::rest) pos) tB'):PW X (.BoolOp .Or (a::b::rest) pos) (Jj tA tB'):=by
 intro wh aa s σ H Q I h;refine isTrue_or (bM (ha aa s σ H _ I h) λc s1 hxx=>?_);refine q1x2 hxx λH1 I1 q1=>?_;cases c with
 | true=>exact⟨H1,I1,q1⟩
 | false=>exact hb wh aa s1 σ H1 Q I1 q1
def CC (ha:PT X a tA):PT X (.UnaryOp .Not a pos) (IP tA):=by
 intro aa s σ H Q I h;exact isTrue_not (ha aa s σ H (λc H1=>Q (!c) H1) I h)
end
def jt (K:W.Frag)(H:Hp)(a:Addr)(xs:List V):Prop:=
 Rd H a (.lst xs)\/
  ∃(o:Obj) (its:Array Value) (n:Nat),K.lookup a=Z o/\o.cls=.type "list"/\o.dict=Y/\o.data=.seq its n/\its.size<=sizeLine/\aJ xs its.toList
def oo (K:W.Frag)(H:Hp)(a:Addr)(xs:List V):Prop:=
 Rd H a (.tup xs)\/
  ∃(o:Obj) (its:Array Value) (n:Nat),K.lookup a=Z o/\o.cls=.type "tuple"/\o.data=.seq its n/\its.size<=sizeLine/\aJ xs its.toList
def Ja:Value->Option V
 | .none=>Z .non
 | .bool b=>Z (.bl b)
 | .int i _=>Z (.int i)
 | .str x _=>Z (.str x)
 | .bytes b _=>Z (.byt b)
 | .float b _=>Z (.flt b)
 | .ref a=>Z (.ref a)
 | .type n=>Z (.ty n)
 | _=>Y
def aI.abs {x:V}(r:aI x u):Ja u=Z x:=by
 cases x with
 | non=>cases r;rfl
 | bl _=>cases r;rfl
 | int _=>refine q1x1 r λt zz1=>?_;subst zz1;rfl
 | str _=>refine q1x1 r λt zz1=>?_;subst zz1;rfl
 | byt _=>refine q1x1 r λt zz1=>?_;subst zz1;rfl
 | flt _=>refine q1x1 r λt zz1=>?_;subst zz1;rfl
 | ref _=>cases r;rfl
 | ty _=>cases r;rfl
def aI.inj {x y:V}(r:aI x u)(q:aI y u):x=y:=Option.some.inj (r.abs.symm.trans q.abs)
theorem aJ.inj:∀{xs ys:List V} {us:List Value},aJ xs us->aJ ys us->xs=ys
 | _,_,_,.nil,.nil=>rfl
 | _,_,_,.cons r t,.cons r' t'=>by rw[r.inj r',aJ.inj t t']
section
variable {X:Cx}{aa:List (Addr×Obj)}{σ:St}{H:Hp}{s:Shared}{a:Addr}{xs ys:List V}
def Inv.list (I:Inv X aa σ H s)(h:jt X.K H a xs):∃its:List Value,aJ xs its/\PlainL s.heap a its.toArray/\xs.length<=sizeLine:=by
 rcases h with h|⟨o,its,n,hk,hc,hd,hs,hz,r⟩
 ·obtain⟨z,its,n,r,e⟩:=h.ok I.hok;exact⟨its,r,⟨_,n,e,rfl,rfl,rfl⟩,z⟩
 ·refine⟨its.toList,r,⟨o,n,I.kIn a o hk,hc,hd,by simpa using hs⟩,?_⟩;have e:=r.length;simp only[Array.length_toList] at e;omega
def Inv.tuple (I:Inv X aa σ H s)(h:oo X.K H a xs):∃its:List Value,aJ xs its/\IsTup s.heap a its.toArray/\xs.length<=sizeLine:=by
 rcases h with h|⟨o,its,n,hk,hc,hs,hz,r⟩
 ·obtain⟨z,its,r,p⟩:=h.ok I.hok;exact⟨its,r,p,z⟩
 ·refine⟨its.toList,r,⟨o,I.kIn a o hk,hc,n,by simpa using hs⟩,?_⟩;have e:=r.length;simp only[Array.length_toList] at e;omega
def Inv.list_inj (I:Inv X aa σ H s)(h:jt X.K H a xs)(h':jt X.K H a ys):xs=ys:=by
 obtain⟨its,r,⟨o,n,e,_,_,d⟩,_⟩:=I.list h;obtain⟨its',r',⟨o',n',e',_,_,d'⟩,_⟩:=I.list h';rw[e] at e';cases e';rw[d] at d';injection d' with d1 _
 have:its=its':=by simpa using congrArg Array.toList d1
 subst this;exact r.inj r'
def Inv.tuple_inj (I:Inv X aa σ H s)(h:oo X.K H a xs)(h':oo X.K H a ys):xs=ys:=by
 obtain⟨its,r,⟨o,e,_,n,d⟩,_⟩:=I.tuple h;obtain⟨its',r',⟨o',e',_,n',d'⟩,_⟩:=I.tuple h';rw[e] at e';cases e';rw[d] at d';injection d' with d1 _
 have:its=its':=by simpa using congrArg Array.toList d1
 subst this;exact r.inj r'
end
section
variable {X:Cx}{st:Stmt}{rest:List Stmt}{t u:TS}{e:Expr}{te:TE}{pos:Pos}
def FN:TS:=λD σ H=>D.nx σ H
def HL (t u:TS):TS:=λD σ H=>t {D with nx:=u D} σ H
def zQ:PSs X [] FN:=λ_ _ σ H _ I h=>wpAny_execs_nil ⟨σ,H,I,h⟩
def wA (h1:PS X st t)(h2:PSs X rest u):PSs X (st::rest) (HL t u):=by
 intro aa s σ H D I h;refine wpAny_execs_cons (bM (h1 aa s σ H {D with nx:=u D} I h) λf s1 q=>?_);cases f with
 | next=>
  refine q2x2 q λσ' H' I' q=>?_;exact h2 aa s1 σ' H' D I' q
 | ret v=>exact q
 | brk=>exact q
 | cont=>exact q
def zP (h1:PS X st t):PSs X [st] t:=by
 intro aa s σ H D I h;refine wpAny_execs_cons (bM (h1 aa s σ H D I h) λf s1 q=>?_);cases f with
 | next=>exact wpAny_execs_nil q
 | ret v=>exact q
 | brk=>exact q
 | cont=>exact q
def Inv.quiet (I:Inv X aa σ H s):interactive X.env=false:=by simp[interactive,I.ok.kind]
def Gc (te:TE):TS:=λD σ H=>te σ H λ_ H1=>D.nx σ H1
def AG (he:PE X e te)(hs:swapsWith e Y pos.line X.env=pure false:=by rfl):PS X (.Expr e pos) (Gc te):=by
 intro aa s σ H D I h;exact wpAny_Expr_any (bM (he aa s σ H _ I h) λv s1 ⟨x,H1,I1,r1,q1⟩=>⟨σ,H1,I1,q1⟩) I.quiet hs
def Ii (te:TE):TS:=λD σ H=>te σ H D.rt
def CD (he:PE X e te):PS X (.Return (Z e) pos) (Ii te):=by
 intro aa s σ H D I h;exact wpAny_Return_some (bM (he aa s σ H _ I h) λv s1 ⟨x,H1,I1,r1,q1⟩=>⟨x,σ,H1,I1,r1,q1⟩)
def IR (c:TT)(t u:TS):TS:=λD σ H=>c σ H λb H1=>if b=true then t D σ H1 else u D σ H1
def G1 {c:Expr}{a b:List Stmt}{tc:TT}(hc:PT X c tc)(ha:PSs X a t)(hb:PSs X b u):PS X (.If c a b pos) (IR tc t u):=by
 intro aa s σ H D I h;refine wpAny_If (bM (hc aa s σ H _ I h) λd s1 hxx=>?_);refine q1x2 hxx λH1 I1 q1=>?_;cases d with
 | true=>exact ha aa s1 σ H1 D I1 q1
 | false=>exact hb aa s1 σ H1 D I1 q1
end
abbrev TG:=V->St->Hp->(St->Hp->Prop)->Prop
abbrev BI:=List V->St->Hp->(St->Hp->Prop)->Prop
def PG (X:Cx)(target:Expr)(t:TG):Prop:=
 ∀(aa:List (Addr×Obj)) (s:Shared) (σ:St) (H:Hp) (v:V) (u:Value) (Q:St->Hp->Prop),Inv X aa σ H s->aI v u->t v σ H Q->
  wpAny (model X.prog X.w) X.A (assign target X.env u) (λ_ s'=>∃σ' H',Inv X aa σ' H' s'/\Q σ' H') X.xe s
def zT (X:Cx)(ts:List Expr)(t:BI):Prop:=
 ∀(aa:List (Addr×Obj)) (s:Shared) (σ:St) (H:Hp) (vs:List V) (us:List Value) (Q:St->Hp->Prop),Inv X aa σ H s->aJ vs us->t vs σ H Q->
  wpAny (model X.prog X.w) X.A (assignInOrder ((assignEach ts X.env).map (·.2)) us) (λ_ s'=>∃σ' H',Inv X aa σ' H' s'/\Q σ' H') X.xe s
abbrev DS:=V->V->V->Hp->(Hp->Prop)->Prop
def GC (X:Cx)(t:DS):Prop:=
 ∀(aa:List (Addr×Obj)) (s:Shared) (σ:St) (H:Hp) (o i v:V) (ov iv u:Value) (Q:Hp->Prop),Inv X aa σ H s->aI o ov->aI i iv->aI v u->t o i v H Q->
  wpAny (model X.prog X.w) X.A (setItem ov iv u) (λ_ s'=>∃H',Inv X aa σ H' s'/\Q H') X.xe s
abbrev G9:=V->V->Hp->VK->Prop
def Hk (X:Cx)(op:Operator)(t:G9):Prop:=
 ∀(aa:List (Addr×Obj)) (s:Shared) (σ:St) (H:Hp) (x y:V) (v u:Value) (Q:VK),Inv X aa σ H s->aI x v->aI y u->t x y H Q->
  wpAny (model X.prog X.w) X.A (inplaceOp op v u) (EP X aa σ Q) X.xe s
variable{es:List Expr}{tg:Expr}{te:TE}
section
variable {X:Cx}{pos:Pos}
def Bp (i:Nat):TG:=λv σ H Q=>Q (σ.set i (Z v)) H
def Bi (hN:X.N.Nodup)(hi:X.N[i]?=Z x)(hx:rH X.env.scope x)(hf:X.fn x=true\/X.env.scope.names.lookup x=Z .local:=by first|exact .inl rfl|exact .inr rfl|assumption):PG X (.Name x pos) (Bp i):=by
 intro aa s σ H v u Q I r h;exact wpAny_assign_Name (mw I hN hi hx r (λs' I'=>⟨_,H,I',h⟩) hf)
def HS:BI:=λvs σ H Q=>vs=[]/\Q σ H
def F5 (t:TG)(u:BI):BI:=λvs σ H Q=>∃v r,vs=v::r/\t v σ H λσ' H'=>u r σ' H' Q
def AU:zT X [] HS:=by
 intro aa s σ H vs us Q I r h;obtain⟨e,h⟩:=h;subst e;cases r;exact assignInOrder_nil ⟨σ,H,I,h⟩
def zj {t:TG}{u:BI}(h1:PG X e t)(h2:zT X es u)
  (hs:(assignEach (e::es) X.env).map (·.2)=assign e X.env::(assignEach es X.env).map (·.2):=by rfl):zT X (e::es) (F5 t u):=by
 intro aa s σ H vs us Q I r h;obtain⟨v,vr,e1,h⟩:=h;subst e1;cases r with
 | cons r rr=>
  rw[hs];refine assignInOrder_cons (bM (h1 aa s σ H _ _ _ I r h) λ_ s1 hxx=>?_);obtain⟨σ1,H1,I1,q1⟩:=hxx;exact h2 aa s1 σ1 H1 _ _ Q I1 rr q1
def IE (K:W.Frag)(n:Nat)(t:BI):TG:=λv σ H Q=>∃a xs,v=.ref a/\oo K H a xs/\xs.length=n/\t xs σ H Q
def D1 {k:Nat}{t:BI}{n:Nat}(hc:X.calm=true)(h:zT X es t)
  (hn:(assignEach es X.env).length=n:=by rfl) (hst:(assignEach es X.env).findIdx? (·.1)=Y:=by rfl):PG X (.Tuple es k pos) (IE X.K n t):=by
 intro aa s σ H v u Q I r hw;obtain⟨a,xs,e1,hq,hl,hw⟩:=hw;subst e1;cases r;obtain⟨its,rv,ht,hz⟩:=I.tuple hq;refine assign_Tuple_tuple (I.ok.hd hc) ht (by simp[hn,<-hl,rv.length]) hst λh' hx=>?_
 have I1:Inv X aa σ H {s with heap:=h'}:=I.kept (t':=s.toks) λb o e=>hx b o (Nat.ne_of_lt (Heap.lt_size e)) e
 exact h aa _ σ H xs _ Q I1 (by simpa using rv) hw
def IK (to ti:TE)(t:DS):TG:=λv σ H Q=>to σ H λo H1=>ti σ H1 λi H2=>t o i v H2 λH3=>Q σ H3
def BR {o i:Expr}{to ti:TE}{t:DS}(ho:PE X o to)(hi:PE X i ti)(hs:GC X t)
  (ha:∀v,assign (.Subscript o i pos) X.env v=(do
   let ov <-holding [v] (eval o X.env)
   let iv <-holding [v,ov] (eval i X.env)
   standAt pos
   holding [v,ov,iv] (setItem ov iv v)
   release [v,ov,iv] []):=by intro _;rfl):PG X (.Subscript o i pos) (IK to ti t):=by
 intro aa s σ H v u Q I r h;rw[ha];refine wpAny_bind (wpAny_holding (bM (ho aa s σ H _ I h) λov s1 hxx=>?_));refine q2x3 hxx λx H1 I1 r1 q1=>?_;refine wpAny_bind (wpAny_holding (bM (hi aa s1 σ H1 _ I1 q1) λiv s2 hxx=>?_));refine q2x3 hxx λy H2 I2 r2 q2=>?_;refine wpAny_bind (wpAny_standAt (wpAny_bind (wpAny_holding (bM (hs aa s2 σ H2 x y v ov iv u _ I2 r1 r2 r q2) λ_ s3 hxx=>?_))));refine q1x2 hxx λH3 I3 q3=>?_;exact wpAny_release ⟨σ,H3,I3,q3⟩
def Fj (te:TE)(g:TG):TS:=λD σ H=>te σ H λx H1=>g x σ H1 D.nx
def De {g:TG}(he:PE X e te)(hg:PG X tg g)(hs:swapsWithSole [tg] e pos.line X.env=pure false:=by rfl)(hw:swappedStores [tg] e X.env=pure Y:=by rfl)
  (h1:(assignEach [tg] X.env).map (·.2)=[assign tg X.env]:=by rfl):PS X (.Assign [tg] e pos) (Fj te g):=by
 intro aa s σ H D I h;refine wpAny_Assign_stores (bM (he aa s σ H _ I h) λv s1 hxx=>?_) hs hw;refine q2x3 hxx λx H1 I1 r1 q1=>?_;rw[h1];exact bM (hg aa s1 σ H1 x v _ I1 r1 q1) λ_ s2 q=>q
def Et {pos':Pos}(hN:X.N.Nodup)(hi:X.N[i]?=Z x)(hx:rH X.env.scope x)(he:PE X e te)(hs:swapsWith e (Z (.Name x pos')) pos.line X.env=pure false:=by rfl)(hf:X.fn x=true\/X.env.scope.names.lookup x=Z .local:=by first|exact .inl rfl|exact .inr rfl|assumption) :
  PS X (.Assign [.Name x pos'] e pos) (Fj te (Bp i)):=by
 intro aa s σ H D I h;refine wpAny_Assign_Name (bM (he aa s σ H _ I h) λv s1 hxx=>?_) hs;refine q2x3 hxx λy H1 I1 r1 q1=>?_;exact mw I1 hN hi hx r1 (λs2 I2=>⟨_,H1,I2,q1⟩) hf
def IZ (i:Nat)(te:TE)(ti:G9):TS:=λD σ H=>∃x,σ[i]?=Z (Z x)/\te σ H λy H1=>ti x y H1 λz H2=>D.nx (σ.set i (Z z)) H2
def zo {op:Operator}{ti:G9}{pos':Pos}(hN:X.N.Nodup)(hi:X.N[i]?=Z x)(hx:rH X.env.scope x)(he:PE X e te)(ho:Hk X op ti)(hf:X.fn x=true\/X.env.scope.names.lookup x=Z .local:=by first|exact .inl rfl|exact .inr rfl|assumption) :
  PS X (.AugAssign (.Name x pos') op e pos) (IZ i te ti):=by
 intro aa s σ H D I h;refine q1x2 h λv e1 h=>?_;refine q1x2 I.loc λm hn hl=>?_;have vis:EK X.env.scope x:=by rcases hx with k|k;exact .inl k;exact .inr (.inl k)
 refine q1x2 (hl i x v hi e1 vis) λu r l=>?_;refine wpAny_AugAssign_Name ?_;have go:wpAny (model X.prog X.w) X.A (eval e X.env) (λw s₂=>wpAny (model X.prog X.w) X.A (inplaceOp op u w) (λr s₃=>wpAny (model X.prog X.w) X.A (storeName X.env x r) (λ_=>SP X aa D .next) X.xe s₃) X.xe s₂) X.xe s:=by
  refine bM (he aa s σ H _ I h) λw s1 hxx=>?_
  refine q2x3 hxx λy H1 I1 r1 q1=>?_;refine bM (ho aa s1 σ H1 v y u w _ I1 r r1 q1) λz s2 hxx=>?_
  refine q2x3 hxx λzv H2 I2 r2 q2=>?_;exact mw I2 hN hi hx r2 (λs3 I3=>⟨_,H2,I3,q2⟩) hf
 rcases l with⟨hk,hm⟩|⟨hk,c,hc,hcell⟩
 ·exact wpAny_loadName_local I.ok.kind hk hn hm go
 ·rcases hk with hk|hk
  ·exact wpAny_loadName_cell I.ok.kind hk hc hcell go
  ·rcases hx with k|k
   ·have:X.env.scope.names.lookup x=Z .free:=hk;rw[k] at this;cases this
   ·have:X.env.scope.names.lookup x=Z .free:=hk;rw[k] at this;cases this
def HB (f:Int->Int->Int):G9:=λx y H Q=>∃i j,x=.int i/\y=.int j/\Q (.int (f i j)) H
def Er:Hk X .Add (HB λi j=>i+j):=by
 intro aa s σ H x y v u Q I r1 r2 h;refine q2x3 h λi j e1 e2 q=>?_;subst e1;subst e2;refine q1x1 r1 λt zz1=>?_;subst zz1;refine q1x1 r2 λt' zz1=>?_;subst zz1;exact iadd_int ⟨.int _,H,I.tok _,⟨_,rfl⟩,q⟩
def Cs:Hk X .Sub (HB λi j=>i-j):=by
 intro aa s σ H x y v u Q I r1 r2 h;refine q2x3 h λi j e1 e2 q=>?_;subst e1;subst e2;refine q1x1 r1 λt zz1=>?_;subst zz1;refine q1x1 r2 λt' zz1=>?_;subst zz1;exact isub_int ⟨.int _,H,I.tok _,⟨_,rfl⟩,q⟩
end
variable{body:List Stmt}
section
variable {X:Cx}{pos:Pos}
def CN (c:TT)(tb:TS):TS:=λD σ H=>∃W:Nat->St->Hp->Prop,(∃m,W m σ H)/\∀m σ H,W m σ H->
 c σ H λb H1=>if b=true then∃N:St->Hp->Prop,(∀σ' H',N σ' H'->∃m',m'<m/\W m' σ' H')/\tb {D with nx:=N,ct:=N,bk:=D.nx} σ H1 else D.nx σ H1
def yS {c:Expr}{tc:TT}{tb:TS}(hp:PassesOwn (model X.prog X.w) X.A X.env X.xe)(hc:PT X c tc)(hb:PSs X body tb):PS X (.While c body [] pos) (CN tc tb):=by
 intro aa s σ H D I h;obtain⟨W,⟨m0,w0⟩,turn⟩:=h;refine wpAny_While (codeAny_whileLoop (λn s'=>∃σ' H',Inv X aa σ' H' s'/\W n σ' H') ?_ m0 ⟨σ,H,I,w0⟩);rintro n s1 ⟨σ1,H1,I1,w1⟩;refine wpAny_passesOwn hp (bM (hc aa s1 σ1 H1 _ I1 (turn n σ1 H1 w1)) λb s2 hxx=>?_);refine q1x2 hxx λH2 I2 q2=>?_;cases b with
 | true=>
  refine q1x2 q2 λN hN q2=>?_;rw[if_pos rfl];refine wpAny_passesOwn hp (bM (hb aa s2 σ1 H2 _ I2 q2) λf s3 q3=>?_);cases f with
  | next=>
   refine q2x2 q3 λσ3 H3 I3 n3=>?_;refine q1x2 (hN σ3 H3 n3) λm' hm w3=>?_;exact⟨m',hm,σ3,H3,I3,w3⟩
  | cont=>
   refine q2x2 q3 λσ3 H3 I3 n3=>?_;refine q1x2 (hN σ3 H3 n3) λm' hm w3=>?_;exact⟨m',hm,σ3,H3,I3,w3⟩
  | brk=>exact q3
  | ret v=>exact q3
 | false=>
  rw[if_neg Bool.false_ne_true];exact wpAny_execs_nil ⟨σ1,H2,I2,q2⟩
end
structure It where
 go:Nat->Hp->Prop
 yld:Nat->Hp->V->Hp->Prop
 stop:Nat->Hp->Prop
def fV (X:Cx)(aa:List (Addr×Obj))(H:Hp)(b:Addr):Prop:=
 H b=Y/\b≠X.env.locals/\b∉X.fs/\(b∈X.ex\/X.s₀.heap.objs.size<=b)/\(∀x c,X.env.cells.lookup x=Z c->c≠b)/\∀p∈X.pn++aa,p.1≠b
def Inv.fpOk {H':Hp}(I:Inv X aa σ H s)(hb:s.heap.objs.size<=b)(hn:H' b=Y):fV X aa H' b:=by
 refine⟨hn,Nat.ne_of_gt (Nat.lt_of_lt_of_le I.lt hb),I.nofs hb,.inr (Nat.le_trans I.sz hb),λx c e z=>?_,λp hp z=>?_⟩
 ·refine q1x1 (I.cell x c e) λv q=>?_;exact absurd (Nat.lt_of_lt_of_le q.lt (by rw[z];exact hb)) (Nat.lt_irrefl _)
 ·exact absurd (Nat.lt_of_lt_of_le (Heap.lt_size (I.pin p hp).1) (by rw[z];exact hb)) (Nat.lt_irrefl _)
structure TurnF (P:Program)(w:World)(K:W.Frag)(tg:Expr)(J:It)(fp:List Addr)(it:Addr)(tn:Nat->Heap->Prop):Prop where
 mem:it∈fp
 obj:∀i h,tn i h->∀b∈fp,∃o,h.get? b=Z o/\∀v,o.data≠.cell v
 keep:∀i h h',tn i h->(∀b∈fp,∀o,h.get? b=Z o->h'.get? b=Z o)->tn i h'
 item:∀(X:Cx),X.prog=P->X.w=w->X.K=K->X.calm=true->∀(i:Nat) (aa:List (Addr×Obj)) (s:Shared) (σ:St) (H:Hp) (E:Value->Shared->Prop),Inv X aa σ H s->(∀b∈fp,fV X aa H b)->tn i s.heap->J.go i H->
  wpAny (model P w) X.A (pyNext (.ref it)) (λr s1=>∃u,r=Z u/\
   wpAny (model P w) X.A (letOwnedTupleGo tg (.ref it) u) (λ_ s2=>∃x H',Inv X aa σ H' s2/\aI x u/\J.yld i H x H'/\tn (i+1) s2.heap/\∀b∈fp,H' b=Y) E s1) E s
 done:∀(X:Cx),X.prog=P->X.w=w->X.K=K->X.calm=true->∀(i:Nat) (aa:List (Addr×Obj)) (s:Shared) (σ:St) (H:Hp) (E:Value->Shared->Prop),Inv X aa σ H s->(∀b∈fp,fV X aa H b)->tn i s.heap->J.stop i H->
  wpAny (model P w) X.A (pyNext (.ref it)) (λr s1=>r=Y/\Inv X aa σ H s1) E s
structure vA (P:Program)(w:World)(K:W.Frag)(tg:Expr)(J:It)(fp:List Addr)(it:Addr)(tn:Nat->Heap->Prop):Prop extends TurnF P w K tg J fp it tn where
 self:∀(A:Around) (i:Nat) (s:Shared) (Q:Value->Shared->Prop) (E:Value->Shared->Prop),tn i s.heap->Q (.ref it) s->wpAny (model P w) A (pyIter (.ref it)) Q E s
abbrev TI:=St->Hp->(It->Hp->Prop)->Prop
def Jb (X:Cx)(aa:List (Addr×Obj))(σ:St)(tg:Expr)(R:It->Hp->Prop)(itv:Value)(s2:Shared):Prop:=
 ∃(it:Addr) (fp:List Addr) (tn:Nat->Heap->Prop) (J:It) (H':Hp),itv=.ref it/\Inv X aa σ H' s2/\vA X.prog X.w X.K tg J fp it tn/\tn 0 s2.heap/\(∀b∈fp,fV X aa H' b)/\R J H'
def PI (X:Cx)(tg iter:Expr)(wi:TI):Prop:=
 ∀(aa:List (Addr×Obj)) (s:Shared) (σ:St) (H:Hp) (R:It->Hp->Prop),Inv X aa σ H s->wi σ H R->
  wpAny (model X.prog X.w) X.A (eval iter X.env) (λv s1=>wpAny (model X.prog X.w) X.A (pyIter v) (Jb X aa σ tg R) X.xe s1) X.xe s
def IA (X:Cx)(aa:List (Addr×Obj))(σ:St)(tg:Expr)(R:It->Hp->Prop)(itv:Value)(s2:Shared):Prop:=
 ∃(it:Addr) (fp:List Addr) (tn:Nat->Heap->Prop) (J:It) (H':Hp),itv=.ref it/\Inv X aa σ H' s2/\TurnF X.prog X.w X.K tg J fp it tn/\tn 0 s2.heap/\(∀b∈fp,fV X aa H' b)/\R J H'
def FC (X:Cx)(tg iter:Expr)(wi:TI):Prop:=
 ∀(aa:List (Addr×Obj)) (s:Shared) (σ:St) (H:Hp) (R:It->Hp->Prop),Inv X aa σ H s->wi σ H R->
  wpAny (model X.prog X.w) X.A (eval iter X.env) (λv s1=>wpAny (model X.prog X.w) X.A (pyIter v) (IA X aa σ tg R) X.xe s1) X.xe s
def PI.toF {iter:Expr}{wi:TI}(h:PI X tg iter wi):FC X tg iter wi:=λaa s σ H R I q=>bM (h aa s σ H R I q) λv s1 h1=>bM h1 λitv s2 h2=>by
 obtain⟨it,fp,tn,J,H2,e,I2,T,r⟩:=h2;exact⟨it,fp,tn,J,H2,e,I2,T.toTurnF,r⟩
def wH {M:Model}{it:Addr}{o:Obj}{n:String}{vs:Array Value}{Q:Unit->Shared->Prop}(ho:s.heap.get? it=Z o)(hc:o.cls=.type n)(hd:o.data=.fields vs)
  (hn:["enumerate","zip","dict_itemiterator","dict_reverseitemiterator","odict_iterator","itertools.zip_longest","itertools.pairwise"].contains n=false) (hQ:Q () s):wpAny M A (letOwnedTupleGo tg (.ref it) u) Q E s:=by
 unfold letOwnedTupleGo;cases tg <;> first
  | exact wpAny_pure hQ
  | (cases u <;> first
    | exact wpAny_pure hQ
    | (refine wpAny_bind (wpAny_load ho ?_)
       rw[hc,hd];show wpAny M A (if(["enumerate","zip","dict_itemiterator","dict_reverseitemiterator","odict_iterator","itertools.zip_longest","itertools.pairwise"].contains n&&vs[0]?==Z (rawInt _))=true then _ else _) Q E s;rw[if_neg (by intro h;rw[hn,Bool.false_and] at h;cases h)];exact wpAny_pure hQ))
def Hb (K:W.Frag)(a:Addr):It:=
 ⟨λi H=>∃xs x,jt K H a xs/\xs[i]?=Z x,λi H x H'=>H'=H/\∀xs,jt K H a xs->xs[i]?=Z x,λi H=>∃xs,jt K H a xs/\xs.length<=i⟩
def Iv (K:W.Frag)(a:Addr):It:=
 ⟨λi H=>∃xs x,oo K H a xs/\xs[i]?=Z x,λi H x H'=>H'=H/\∀xs,oo K H a xs->xs[i]?=Z x,λi H=>∃xs,oo K H a xs/\xs.length<=i⟩
def Hj (lo:Int)(n:Nat):It:=⟨λi _=>i<n,λi H x H'=>H'=H/\x=.int (lo+i),λi _=>n<=i⟩
variable{K:W.Frag}
def vK (a it:Addr):vA P w K tg (Hb K a) [it] it (λi h=>h.IsListIter it a i) where
 mem:=by simp
 obj:=λi h st b hb=>by
  have e:b=it:=by simpa using hb
  subst e;refine q1x3 st λo e c d=>?_;exact⟨o,e,λv z=>by rw[d] at z;cases z⟩
 keep:=λi h h' st k=>st.at λo e=>k it (by simp) o e
 item:=by
  intro X hP hw hK hc i aa s σ H E I hf st hg;subst hP hw hK;refine q2x2 hg λxs x hq hx=>?_;refine q1x3 (I.list hq) λits rv p hz=>?_;refine q1x2 (rv.get hx) λu hu ru=>?_;refine q0x6 (hf it (by simp)) λf0 f1 f2 f3 f4 f5=>?_;refine wpAny_pyNext_list_item st p.isList (x:=u) (by simpa using hu) λh' st' sb=>?_
  have I1:Inv X aa σ H {s with heap:=h'}:=I.turned (t':=s.toks) (λb o hb e=>(sb.2 b hb).trans e) f0 f1 f3 f4 f5;refine q1x3 (id st') λo e c d=>?_;exact⟨u,rfl,wH (s:={s with heap:=h'}) e c d (by decide) ⟨x,H,I1,ru,⟨rfl,λys hy=>by rw[I.list_inj hy hq];exact hx⟩,st',λb hb=>(hf b hb).1⟩⟩
 done:=by
  intro X hP hw hK hc i aa s σ H E I hf st hg;subst hP hw hK;refine q1x2 hg λxs hq hx=>?_;refine q1x3 (I.list hq) λits rv p hz=>?_;refine q0x6 (hf it (by simp)) λf0 f1 f2 f3 f4 f5=>?_;have hl:=rv.length;exact wpAny_pyNext_list_end (I.ok.hd hc) st p.isList (by simp;omega) λh' eb=>⟨rfl,I.turned (t':=s.toks) (λb o hb e=>eb b o hb e) f0 f1 f3 f4 f5⟩
 self:=λ_ _ _ _ _ st h=>wpAny_pyIter_listiter st h
def sR (a it:Addr):vA P w K tg (Iv K a) [it] it (λi h=>h.IsTupleIter it a i) where
 mem:=by simp
 obj:=λi h st b hb=>by
  have e:b=it:=by simpa using hb
  subst e;refine q1x3 st λo e c d=>?_;exact⟨o,e,λv z=>by rw[d] at z;cases z⟩
 keep:=λi h h' st k=>st.at λo e=>k it (by simp) o e
 item:=by
  intro X hP hw hK hc i aa s σ H E I hf st hg;subst hP hw hK;refine q2x2 hg λxs x hq hx=>?_;refine q1x3 (I.tuple hq) λits rv p hz=>?_;refine q1x2 (rv.get hx) λu hu ru=>?_;refine q0x6 (hf it (by simp)) λf0 f1 f2 f3 f4 f5=>?_;refine wpAny_pyNext_tuple_item st (show s.heap.IsTuple a its.toArray from p) (x:=u) (by simpa using hu) λh' st' sb=>?_
  have I1:Inv X aa σ H {s with heap:=h'}:=I.turned (t':=s.toks) (λb o hb e=>(sb.2 b hb).trans e) f0 f1 f3 f4 f5;refine q1x3 (id st') λo e c d=>?_;exact⟨u,rfl,wH (s:={s with heap:=h'}) e c d (by decide) ⟨x,H,I1,ru,⟨rfl,λys hy=>by rw[I.tuple_inj hy hq];exact hx⟩,st',λb hb=>(hf b hb).1⟩⟩
 done:=by
  intro X hP hw hK hc i aa s σ H E I hf st hg;subst hP hw hK;refine q1x2 hg λxs hq hx=>?_;refine q1x3 (I.tuple hq) λits rv p hz=>?_;refine q0x6 (hf it (by simp)) λf0 f1 f2 f3 f4 f5=>?_;have hl:=rv.length;exact wpAny_pyNext_tuple_end (I.ok.hd hc) st (show s.heap.IsTuple a its.toArray from p) (by simp;omega) λh' eb=>⟨rfl,I.turned (t':=s.toks) (λb o hb e=>eb b o hb e) f0 f1 f3 f4 f5⟩
 self:=λ_ _ _ _ _ st h=>wpAny_pyIter_tupleiter st h
def sr (it:Addr)(lo:Int)(n:Nat):vA P w K tg (Hj lo n) [it] it (λi h=>IsRangeIter h it (lo+(i:Nat)*1) ((n:Int)-(i:Nat)) 1) where
 mem:=by simp
 obj:=λi h st b hb=>by
  have e:b=it:=by simpa using hb
  subst e;exact⟨_,st,λv z=>by
   have z':Data.fields _=Data.cell v:=z;cases z'⟩
 keep:=λi h h' st k=>k it (by simp) _ st
 item:=by
  intro X hP hw hK hc i aa s σ H E I hf st hg;subst hP hw hK;refine q0x6 (hf it (by simp)) λf0 f1 f2 f3 f4 f5=>?_;have W:=Walks.range (prog:=X.prog) (w:=X.w) (I.ok.hd hc) it lo 1 n;refine W.item i s _ _ hg st λv h' tk hv st' kk=>?_
  refine q1x1 hv λt zz1=>?_;subst zz1;have I1:Inv X aa σ H {s with heap:=h',toks:=tk}:=I.turned (λb o hb e=>kk b o (by simpa using hb) e) f0 f1 f3 f4 f5;refine⟨_,rfl,wH (s:={s with heap:=h',toks:=tk}) (n:="range_iterator") st' rfl rfl (by decide) ⟨.int (lo+i),H,I1,⟨t,?_⟩,⟨rfl,rfl⟩,st',λb hb=>(hf b hb).1⟩⟩;rw[Int.mul_one]
 done:=by
  intro X hP hw hK hc i aa s σ H E I hf st hg;subst hP hw hK;refine q0x6 (hf it (by simp)) λf0 f1 f2 f3 f4 f5=>?_;exact wpAny_pyNext_range_end (I.ok.hd hc) st (by have:n<=i:=hg;omega) λh' eb=>⟨rfl,I.turned (t':=s.toks) (λb o hb e=>eb b o hb e) f0 f1 f3 f4 f5⟩
 self:=λ_ _ _ _ _ st h=>wpAny_pyIter_rangeiter st h
variable{fp:List Addr}
section
variable {X:Cx}{tg:Expr}
def wB {R:It->Hp->Prop}{lo hi:Int}{t u v:Tok}{tk:Nat}(I:Inv X aa σ H s)(h1:-(2 ^ 62)<=lo)(h2:lo<2 ^ 62)(h3:-(2 ^ 62)<=hi)(h4:hi<2 ^ 62)
  (q:R (Hj lo (hi-lo).toNat) H):wpAny (model X.prog X.w) X.A (pyIter (.ref s.heap.objs.size)) (Jb X aa σ tg R) E {s with heap:=s.heap.push {cls:=.type "range",data:=.fields #[.int lo t,.int hi u,.int 1 v]},toks:=tk}:=by
 refine wpAny_pyIter_range (IsRange.new ..) (small_one h1 h2 h3 h4) ?_;have I1:Inv X aa σ H {s with heap:=s.heap.push {cls:=.type "range",data:=.fields #[.int lo t,.int hi u,.int 1 v]},toks:=tk}:=I.kept λb o e=>Heap.get?_push_of_some _ e
 refine⟨(s.heap.push {cls:=.type "range",data:=.fields #[.int lo t,.int hi u,.int 1 v]}).objs.size,[(s.heap.push {cls:=.type "range",data:=.fields #[.int lo t,.int hi u,.int 1 v]}).objs.size],_,_,H,rfl,
  I1.kept (t':=tk) λb o e=>Heap.get?_push_of_some _ e,sr _ lo (hi-lo).toNat,?_,λb hb=>?_,q⟩
 ·have e1:lo+((0:Nat):Int)*1=lo:=by simp
  have e2:(((hi-lo).toNat:Nat):Int)-((0:Nat):Int)=Builtin.Range.rangeSize lo hi 1:=by rw[rangeSize_one];split <;> omega
  show IsRangeIter _ _ (lo+((0:Nat):Int)*1) ((((hi-lo).toNat:Nat):Int)-((0:Nat):Int)) 1;rw[e1,e2];exact Heap.get?_push_size _ rfl
 ·have e:b=(s.heap.push {cls:=.type "range",data:=.fields #[.int lo t,.int hi u,.int 1 v]}).objs.size:=by simpa using hb
  subst e;exact I1.fpOk (Nat.le_refl _) (I1.hok.fresh (Nat.le_refl _))
def E5 (ta:TA):TI:=λσ H R=>ta σ H λvs H1=>∃j:Int,vs=[.int j]/\-(2 ^ 62)<=j/\j<2 ^ 62/\R (Hj 0 j.toNat) H1
def wl {a:Expr}{ta:TA}{p pos:Pos}(hg:Gl X "range")(hm:X.mg "range"=Y)(ha:PA X [a] ta)(hs:starEach [a] X.env=[(false,eval a X.env)]:=by rfl):PI X tg (.Call (.Name "range" p) [a] [] pos) (E5 ta):=by
 intro aa s σ H R I h;refine Call_ (mJ I hg hm boot_range (PyProof.Rows.callWith_type1 (bM (ha pos aa s σ H _ I h) λus s1 hxx=>?_) hs rfl));obtain⟨vs,H1,I1,r1,q1⟩:=hxx;obtain⟨j,e,q1,q2,q⟩:=q1;subst e;cases r1 with
 | cons r rr=>
  cases rr;obtain⟨t,rfl⟩:=r;exact call_range_1 (wB I1 (by omega) (by omega) q1 q2 (by simpa using q))
def II (wi:TI)(g:TG)(tb:TS):TS:=λD σ H=>wi σ H λJ H1=>∃W:Nat->Nat->St->Hp->Prop,(∃m,W 0 m σ H1)/\∀i m σ H,W i m σ H->
 (J.stop i H/\D.nx σ H)\/(J.go i H/\∃N:St->Hp->Prop,(∀σ' H',N σ' H'->∃m',m'<m/\W (i+1) m' σ' H')/\∀x H',J.yld i H x H'->g x σ H' λσ2 H2=>tb {D with nx:=N,ct:=N,bk:=D.nx} σ2 H2)
def jK (fp:List Addr)(h:Heap):List (Addr×Obj):=fp.filterMap λb=>(h.get? b).map λo=>(b,o)
def dJ {o:Obj}(hb:b∈fp)(e:h.get? b=Z o):(b,o)∈jK fp h:=mem_filterMap.mpr ⟨b,hb,by rw[e];rfl⟩
def vE {p:Addr×Obj}(hp:p∈jK fp h):p.1∈fp/\h.get? p.1=Z p.2:=by
 refine q1x2 (mem_filterMap.mp hp) λb hb e=>?_;cases q:h.get? b with
 | none=>rw[q] at e;cases e
 | some o=>
  rw[q] at e;have e':(b,o)=p:=Option.some.inj e;subst e';exact⟨hb,q⟩
def Inv.pinned (I:Inv X aa σ H s)(hf:∀b∈fp,fV X aa H b)(ho:∀b∈fp,∃o,s.heap.get? b=Z o/\∀v,o.data≠.cell v):Inv X (aa++jK fp s.heap) σ H s:=
 I.pins_of λp hp=>(mem_append.mp hp).elim (λz=>I.pin p (mem_append_right _ z)) λz=>by
  refine q0x2 (vE z) λhb e=>?_;refine q0x4 (hf p.1 hb) λf0 f1 f2 _=>?_;refine q1x2 (ho p.1 hb) λo e' d=>?_;rw[e] at e';cases e';exact⟨e,f0,f1,f2,d⟩
def Inv.unpinned {pl:List (Addr×Obj)}(I:Inv X (aa++pl) σ H s):Inv X aa σ H s:=I.pins_of λp hp=>I.pin p (mem_append_right _ (mem_append_left _ hp))
def Dq {iter:Expr}{wi:TI}{g:TG}{tb:TS}{pos:Pos}(hp:PassesOwn (model X.prog X.w) X.A X.env X.xe)(hc:X.calm=true)(hi:FC X tg iter wi)(hg:PG X tg g)(hb:PSs X body tb)
  (hs:∀x,foldedSetIterable iter X.env x=pure x:=by intro _;rfl):PS X (.For tg iter body [] pos) (II wi g tb):=by
 intro aa s σ H D I h;refine wpAny_For (bM (hi aa s σ H _ I h) λv s1 h1=>bM h1 λitv s2 h2=>?_) hs;obtain⟨it,fp,tn,J,H2,e,I2,T,st2,f2,W,⟨m0,w0⟩,turn⟩:=h2;subst e;have stat:∀{H':Hp},(∀b∈fp,H' b=Y)->∀b∈fp,fV X aa H' b:=λhn b hb=>⟨hn b hb,(f2 b hb).2⟩
 refine codeAny_forLoop_any (λn s'=>∃i σ' H',Inv X aa σ' H' s'/\tn i s'.heap/\(∀b∈fp,H' b=Y)/\W i n σ' H') ?_ m0 ⟨0,σ,H2,I2,st2,λb hb=>(f2 b hb).1,w0⟩;rintro n s3 ⟨i,σ3,H3,I3,st3,fr3,w3⟩;rcases turn i n σ3 H3 w3 with⟨stop,qn⟩|⟨go,N,hN,step⟩
 ·refine wpAny_passesOwn hp (bM (T.done X rfl rfl rfl hc i aa s3 σ3 H3 X.xe I3 (stat fr3) st3 stop) λr s4 hxx=>?_);refine q0x2 hxx λhr I4=>?_;subst hr;exact wpAny_execs_nil ⟨σ3,H3,I4,qn⟩
 ·refine wpAny_passesOwn hp (bM (T.item X rfl rfl rfl hc i aa s3 σ3 H3 X.xe I3 (stat fr3) st3 go) λr s4 hxx=>?_);refine q1x2 hxx λu hr h4=>?_;subst hr;refine wpAny_passesOwn hp (bM h4 λ_ s5 hxx=>?_);refine q2x5 hxx λx H5 I5 r5 y5 st5 fr5=>?_;have I5':=I5.pinned (stat fr5) (T.obj _ _ st5);refine wpAny_passesOwn hp (bM (hg _ s5 σ3 H5 x u _ I5' r5 (step x H5 y5)) λ_ s6 hxx=>?_);refine q2x2 hxx λσ6 H6 I6 q6=>?_;refine wpAny_passesOwn hp (bM (hb _ s6 σ6 H6 _ I6 q6) λf s7 q7=>?_);have again:∀{σ7:St} {H7:Hp},Inv X (aa++jK fp s5.heap) σ7 H7 s7->N σ7 H7->∃m,m<n/\∃i σ' H',Inv X aa σ' H' s7/\tn i s7.heap/\(∀b∈fp,H' b=Y)/\W i m σ' H':=λ{σ7 H7} I7 n7=>by
   refine q1x2 (hN σ7 H7 n7) λm' hm w7=>?_;refine⟨m',hm,i+1,σ7,H7,I7.unpinned,T.keep _ _ _ st5 λb hb o e=>(I7.pin (b,o) (mem_append_right _ (mem_append_right _ (dJ hb e)))).1,λb hb=>?_,w7⟩;refine q1x2 (T.obj _ _ st5 b hb) λo e d=>?_;exact(I7.pin (b,o) (mem_append_right _ (mem_append_right _ (dJ hb e)))).2.1
  cases f with
  | next=>refine q2x2 q7 λσ7 H7 I7 n7=>?_;exact again I7 n7
  | cont=>refine q2x2 q7 λσ7 H7 I7 n7=>?_;exact again I7 n7
  | brk=>refine q2x2 q7 λσ7 H7 I7 q7=>?_;exact⟨σ7,H7,I7.unpinned,q7⟩
  | ret v=>refine q3x3 q7 λx7 σ7 H7 I7 r7 q7=>?_;exact⟨x7,σ7,H7,I7.unpinned,r7,q7⟩
end
abbrev R2:=V->V->Hp->VK->Prop
def fN (X:Cx)(f:Value->Value->Sem Value)(r:R2):Prop:=
 ∀(aa:List (Addr×Obj)) (s:Shared) (σ:St) (H:Hp) (x y:V) (v u:Value) (Q:VK),Inv X aa σ H s->aI x v->aI y u->r x y H Q->
  wpAny (model X.prog X.w) X.A (f v u) (EP X aa σ Q) X.xe s
def cG (X:Cx)(f:Value)(r:List V->Hp->VK->Prop):Prop:=
 ∀(aa:List (Addr×Obj)) (s:Shared) (σ:St) (H:Hp) (xs:List V) (us:List Value) (Q:VK),Inv X aa σ H s->aJ xs us->r xs H Q->
  wpAny (model X.prog X.w) X.A (call f us) (EP X aa σ Q) X.xe s
def IQ (X:Cx)(r:V->Hp->(Bool->Hp->Prop)->Prop):Prop:=
 ∀(aa:List (Addr×Obj)) (s:Shared) (σ:St) (H:Hp) (x:V) (v:Value) (Q:Bool->Hp->Prop),Inv X aa σ H s->aI x v->r x H Q->
  wpAny (model X.prog X.w) X.A (truthy v) (TP X aa σ Q) X.xe s
def Fd (r:R2)(ta tb:TE):TE:=λσ H Q=>ta σ H λx H1=>tb σ H1 λy H2=>r x y H2 Q
def rI (C:Int->Int->Prop)(g:Int->Int->V):R2:=λx y H Q=>∃i j,x=.int i/\y=.int j/\C i j/\Q (g i j) H
def Bq (g:Int->Int->V):R2:=λx y H Q=>∃i j,x=.int i/\y=.int j/\Q (g i j) H
variable{f:Value->Value->Sem Value}{r:R2}{g:Int->Int->Int}
section
variable {X:Cx}{a b c:Expr}{ta tb tc:TE}{pos:Pos}
def Eg (ha:PE X a ta)(hb:PE X b tb){R:V->V->Hp->Prop}(I:Inv X aa σ H s)
  (h:ta σ H λx H1=>tb σ H1 λy H2=>R x y H2)  
  (hf:∀v u s2 x y H2,Inv X aa σ H2 s2->aI x v->aI y u->R x y H2->wpAny (model X.prog X.w) X.A (f v u) Q X.xe s2) :
  wpAny (model X.prog X.w) X.A (eval a X.env) (λv s₁=>wpAny (model X.prog X.w) X.A (eval b X.env) (λu s₂=>wpAny (model X.prog X.w) X.A (f v u) Q X.xe s₂) X.xe s₁) X.xe s:=by
 refine bM (ha aa s σ H _ I h) λv s1 hxx=>?_
 refine q2x3 hxx λx H1 I1 r1 q1=>?_;refine bM (hb aa s1 σ H1 _ I1 q1) λu s2 hxx=>?_
 refine q2x3 hxx λy H2 I2 r2 q2=>?_;exact hf v u s2 x y H2 I2 r1 r2 q2
def EV {op:Operator}(ho:fN X (binaryOp op) r)(ha:PE X a ta)(hb:PE X b tb):PE X (.BinOp a op b pos) (Fd r ta tb):=by
 intro aa s σ H Q I h;exact wpAny_BinOp (Eg ha hb I h λv u s2 x y H2 I2 rx ry q=>ho aa s2 σ H2 x y v u Q I2 rx ry q)
def Iw {f:Value->Value->Sem Value}{C:Int->Int->Prop}
  (rule:∀(i j:Int) (t u:Tok) (s:Shared) (Q:Value->Shared->Prop) (E:Value->Shared->Prop),C i j->Q (.int (g i j) s.toks) {s with toks:=s.toks+1}->wpAny (model X.prog X.w) X.A (f (.int i t) (.int j u)) Q E s) :
  fN X f (rI C λi j=>.int (g i j)):=by
 intro aa s σ H x y v u Q I rx ry h;refine q2x4 h λi j zz2 zz3 hc q=>?_;subst zz2;subst zz3;refine q1x1 rx λt zz1=>?_;subst zz1;refine q1x1 ry λt' zz1=>?_;subst zz1;exact rule i j t t' s _ _ hc ⟨.int (g i j),H,I.tok _,⟨_,rfl⟩,q⟩
def F9 {f:Value->Value->Sem Value}
  (rule:∀(i j:Int) (t u:Tok) (s:Shared) (Q:Value->Shared->Prop) (E:Value->Shared->Prop),Q (.int (g i j) s.toks) {s with toks:=s.toks+1}->wpAny (model X.prog X.w) X.A (f (.int i t) (.int j u)) Q E s) :
  fN X f (Bq λi j=>.int (g i j)):=by
 intro aa s σ H x y v u Q I rx ry h;refine q2x3 h λi j zz2 zz3 q=>?_;subst zz2;subst zz3;refine q1x1 rx λt zz1=>?_;subst zz1;refine q1x1 ry λt' zz1=>?_;subst zz1;exact rule i j t t' s _ _ ⟨.int (g i j),H,I.tok _,⟨_,rfl⟩,q⟩
def Bk {g:Int->Int->Bool}
  (rule:∀(i j:Int) (t u:Tok) (s:Shared) (Q:Value->Shared->Prop) (E:Value->Shared->Prop),Q (.bool (g i j)) s->wpAny (model X.prog X.w) X.A (f (.int i t) (.int j u)) Q E s) :
  fN X f (Bq λi j=>.bl (g i j)):=by
 intro aa s σ H x y v u Q I rx ry h;refine q2x3 h λi j zz2 zz3 q=>?_;subst zz2;subst zz3;refine q1x1 rx λt zz1=>?_;subst zz1;refine q1x1 ry λt' zz1=>?_;subst zz1;exact rule i j t t' s _ _ ⟨.bl (g i j),H,I,rfl,q⟩
def HU (i j:Int):Prop:=0<=j/\j<=1000000/\i.natAbs<2 ^ 64
def DO (i j:Int):Prop:=(-(2 ^ 64)<i/\i<2 ^ 64)\/(-(2 ^ 64)<j/\j<2 ^ 64)
def DO.ok {i j:Int}(h:DO i j):IntMulOk i j:=by
 rcases h with⟨h1,h2⟩|⟨h1,h2⟩
 ·exact .of_left (intBits_le_64 h1 h2)
 ·exact .of_right (intBits_le_64 h1 h2)
def Do:fN X (binaryOp .Add) (Bq λi j=>.int (i+j)):=F9 λ_ _ _ _ _ _ _ q=>add_int q
def Ca:fN X (binaryOp .Sub) (Bq λi j=>.int (i-j)):=F9 λ_ _ _ _ _ _ _ q=>sub_int q
def BZ:fN X (binaryOp .Mult) (rI DO λi j=>.int (i*j)):=Iw λ_ _ _ _ _ _ _ hc q=>mul_int q hc.ok
def Cm:fN X (binaryOp .Mod) (rI (λ_ j=>0<j) λi j=>.int (i % j)):=Iw λi j _ _ _ _ _ hc q=>by
 have h1:(0:Int)<j:=hc;exact mod_int' (by omega) (by rw[Int.fmod_eq_emod_of_nonneg i (by omega)];exact q)
def D9:fN X (binaryOp .Pow) (rI HU λi j=>.int (i ^ j.toNat)):=Iw λ_ _ _ _ _ _ _ hc q=>pow_int_small hc.1 hc.2.1 hc.2.2 q
end
variable{op:CmpOp}
section
variable {X:Cx}{a b c:Expr}{ta tb tc:TE}{pos:Pos}
def GJ:fN X (compareOp .Lt) (Bq λi j=>.bl (decide (i<j))):=Bk λ_ _ _ _ _ _ _ q=>lt_int q
def EW:fN X (compareOp .LtE) (Bq λi j=>.bl (decide (i<=j))):=Bk λ_ _ _ _ _ _ _ q=>le_int q
def FS:fN X (compareOp .Gt) (Bq λi j=>.bl (decide (j<i))):=Bk λ_ _ _ _ _ _ _ q=>gt_int q
def F8:fN X (compareOp .GtE) (Bq λi j=>.bl (decide (j<=i))):=Bk λ_ _ _ _ _ _ _ q=>ge_int q
def G6:HO->Bool
 | .lst _=>true
 | .ins _ _ _=>true
 | _=>false
def EJ {a:Addr}(I:Inv X aa σ H s)(h:H a=Z o)(p:G6 o=true):∃ob,s.heap.get? a=Z ob/\ob.cls≠.type "tuple":=by
 cases o with
 | lst xs=>
  obtain⟨_,its,n,_,e⟩:xs.length<=sizeLine/\∃(its:List Value) (n:Nat),aJ xs its/\s.heap.get? a=Z {cls:=.type "list",data:=.seq its.toArray n}:=I.hok a _ h;exact⟨_,e,(by show Value.type "list"≠.type "tuple";decide +kernel)⟩
 | ins C dx fs=>
  have x:=I.hok a _ h;refine q0x5 x λ_ _ _ e _=>?_;exact⟨_,e,(by show Value.ref C≠.type "tuple";exact λz=>by cases z)⟩
 | _=>exact absurd (show false=true from p) Bool.false_ne_true
def El (b:Expr)(h:op≠.In:=by decide)(h2:op≠.NotIn:=by decide):behindInMarks op b=false:=by
 have e1:(op==CmpOp.In)=false:=by cases op <;> first|rfl|exact absurd rfl h
 have e2:(op==CmpOp.NotIn)=false:=by cases op <;> first|rfl|exact absurd rfl h2
 cases b <;> simp[behindInMarks,e1,e2]
def AW (ho:fN X (compareOp op) r)(ha:PE X a ta)(hb:PE X b tb)(hm:behindInMarks op b=false):PE X (.Compare a [op] [b] pos) (Fd r ta tb):=by
 intro aa s σ H Q I h;exact wpAny_Compare1 (Eg ha hb I h λv u s2 x y H2 I2 rx ry q=>ho aa s2 σ H2 x y v u Q I2 rx ry q) hm
def Bz (t:TE):TT:=λσ H Q=>t σ H λx H'=>∃k,x=.bl k/\Q k H'
def Ah (ho:fN X (compareOp op) r)(ha:PE X a ta)(hb:PE X b tb)(hm:behindInMarks op b=false):PT X (.Compare a [op] [b] pos) (Bz (Fd r ta tb)):=by
 intro aa s σ H Q I h;refine wpAny_isTrue_Compare1 (bM (ha aa s σ H _ I h) λv s1 ⟨x,H1,I1,r1,q1⟩=>bM (hb aa s1 σ H1 _ I1 q1) λu s2 ⟨y,H2,I2,r2,q2⟩=>
  bM (ho aa s2 σ H2 x y v u _ I2 r1 r2 q2) λc s3 hxx=>?_) hm
 obtain⟨z,H3,I3,r3,k,e,q3⟩:=hxx;subst e;cases r3;exact wpAny_truthy_bool ⟨H3,I3,q3⟩
def GK (K:W.Frag)(x:V)(H:Hp)(k:Bool):Prop:=
 match x with
 | .non=>k=false
 | .bl b=>k=b
 | .int i=>k=(i != 0)
 | .str y=>y.length<=sizeLine/\k=((y.length:Int) != 0)
 | .byt y=>y.size<=sizeLine/\k=((y.size:Int) != 0)
 | .ref p=>(∃xs,jt K H p xs/\k=!xs.isEmpty)\/(∃xs,oo K H p xs/\k=!xs.isEmpty)\/∃kvs,H p=Z (.dK kvs)/\k=!kvs.isEmpty
 | _=>False
def sO {κ:Type}{kvs:List (κ×V)}{vs:List (κ×Value)}(r:KV kvs vs):(!vs.isEmpty)=!kvs.isEmpty:=by
 cases r <;> rfl
def kP {its:List Value}(r:aJ xs its):(!its.toArray.isEmpty)=!xs.isEmpty:=by
 cases r <;> simp
def jD:(sizeLine:Nat)<2 ^ 63:=by rw[sizeLine_eq];decide
def CY:IQ X (λx H Q=>∃k,GK X.K x H k/\Q k H):=by
 intro aa s σ H x v Q I rx h;refine q1x2 h λk e q=>?_;have hl:=jD;have hs:sizeLine=16777216:=sizeLine_eq;cases x with
 | non=>
  cases rx;have e':k=false:=e;subst e';exact truthy_none ⟨H,I,q⟩
 | bl b=>
  cases rx;have e':k=b:=e;subst e';exact wpAny_truthy_bool ⟨H,I,q⟩
 | int i=>
  refine q1x1 rx λt zz1=>?_;subst zz1;have e':k=(i != 0):=e;subst e';exact PySem.P.truthy_int ⟨H,I,q⟩
 | str y=>
  refine q1x1 rx λt zz1=>?_;subst zz1;obtain⟨hy,e'⟩:y.length<=sizeLine/\k=((y.length:Int) != 0):=e;subst e';exact PySem.P.truthy_str (by omega) ⟨H,I.tok _,q⟩
 | byt y=>
  refine q1x1 rx λt zz1=>?_;subst zz1;obtain⟨hy,e'⟩:y.size<=sizeLine/\k=((y.size:Int) != 0):=e;subst e';exact W.truthy_bytes (by omega) ⟨H,I.tok _,q⟩
 | ref p=>
  cases rx;have e':(∃xs,jt X.K H p xs/\k=!xs.isEmpty)\/(∃xs,oo X.K H p xs/\k=!xs.isEmpty)\/∃kvs,H p=Z (.dK kvs)/\k=!kvs.isEmpty:=e;rcases e' with⟨xs,hx,e'⟩|⟨xs,hx,e'⟩|⟨kvs,hx,e'⟩
  ·subst e';refine q1x3 (I.list hx) λits r pl hz=>?_;have hlen:=r.length;exact wpAny_truthy_list pl.isList (by simp only[size_toArray];omega) ⟨H,I.tok _,by rw[kP r];exact q⟩
  ·subst e';refine q1x3 (I.tuple hx) λits r pl hz=>?_;have hlen:=r.length;exact truthy_tuple pl (by simp only[size_toArray];omega) ⟨H,I.tok _,by rw[kP r];exact q⟩
  ·subst e';obtain⟨hz,hS,vs,r,m⟩:kvs.length<=sizeLine/\(p==sysModules)=false/\∃vs,KV kvs vs/\s.heap.DictOf (aS X.prog X.w) p vs:=I.hok p _ hx;have hlen:kvs.length=vs.length:=Paired.length r;exact wpAny_truthy_dict hS m (by omega) ⟨H,I.tok _,by rw[sO r];exact q⟩
 | _=>exact(show False from e).elim
def xI (ha:PE X a ta)(he:∀whole,isTrue a X.env whole=(do let v <-whole;standAt a.pos;holding [v] (truthy v))) :
  PT X a (λσ H Q=>ta σ H λx H'=>∃k,GK X.K x H' k/\Q k H'):=by
 intro aa s σ H Q I h;exact isTrue_plain (bM (ha aa s σ H _ I h) λv s1 ⟨x,H1,I1,r1,q1⟩=>CY aa s1 σ H1 x v Q I1 r1 q1) (he _)
def rZ:fN X (binaryOp .Add) (λx y H Q=>∃i j,x=.str i/\y=.str j/\i.length+j.length<=sizeLine/\Q (.str (i++j)) H):=by
 intro aa s σ H x y v u Q I rx ry h;refine q2x4 h λi j zz2 zz3 hz q=>?_;subst zz2;subst zz3;refine q1x1 rx λt zz1=>?_;subst zz1;refine q1x1 ry λt' zz1=>?_;subst zz1;exact add_str (λt' tk=>⟨.str (i++j),H,I.tok _,⟨_,rfl⟩,q⟩) hz
def iI {x:V}(r:aJ [x] us):∃u,us=[u]/\aI x u:=by
 cases r with
 | cons r1 r2=>cases r2;exact⟨_,rfl,r1⟩
def Bt {x y:V}(r:aJ [x,y] us):∃u w',us=[u,w']/\aI x u/\aI y w':=by
 cases r with
 | cons r1 r2=>
  cases r2 with
  | cons r3 r4=>cases r4;exact⟨_,_,rfl,r1,r3⟩
def uW (hc:X.calm=true):cG X (.builtin "min") (λxs H Q=>∃i j,xs=[.int i,.int j]/\Q (.int (if j<i then j else i)) H):=by
 intro aa s σ H xs us Q I r h;refine q2x2 h λi j zz2 q=>?_;subst zz2;obtain⟨u,w',rfl,⟨t,rfl⟩,⟨t',rfl⟩⟩:=Bt r;refine min_two_ints (I.ok.hd hc) λh' tk k=>⟨_,H,I.kept k,?_,q⟩
 by_cases hj:j<i
 ·rw[if_pos hj,if_pos hj];exact⟨_,rfl⟩
 ·rw[if_neg hj,if_neg hj];exact⟨_,rfl⟩
end
def iG.some_of {o:Option Value}(r:iG (Z v) o):∃u,o=Z u/\aI v u:=by
 cases o with
 | none=>exact(show False from r).elim
 | some u=>exact⟨u,rfl,r⟩
def iG.none_of {o:Option Value}(r:iG Y o):o=Y:=by
 cases o with
 | none=>rfl
 | some u=>exact(show False from r).elim
structure Jm (K:W.Frag)(C:Addr):Prop where
 pg:W.plainGet K C Str.empty=true
 hd:W.hasDictIn K C=true
 po:W.plainOver K C=true
 sa:W.findIn K (.ref C) "__setattr__"=Z (Z (.builtin "object.__setattr__"))
def EA (K:W.Frag)(C:Addr)(f:Str):Prop:=W.findIn K (.ref C) f=Z Y
structure Hz (K:W.Frag)(C:Addr)(m:Str)(f:Addr):Prop where
 at_:W.findIn K (.ref C) m=Z (Z (.ref f))
 fn:W.isFn K (.ref f)=true
 kp:W.keepIn K (.ref f)=true
def CO (X:Cx)(op:Operator)(rd:V->V->Hp->VK->Prop):Prop:=
 ∀(aa:List (Addr×Obj)) (s:Shared) (σ:St) (H:Hp) (x y:V) (u v:Value) (Q:VK),Inv X aa σ H s->aI x u->aI y v->rd x y H Q->wpAny (model X.prog X.w) X.A (inplaceOp op u v) (EP X aa σ Q) X.xe s
section
variable {X:Cx}{o e value:Expr}{f:Str}{pos pos' tpos:Pos}{ta tv:TE}
def Io:V->V->Hp->VK->Prop:=λx y H Q=>∃i j,x=.int i/\y=.int j/\Q (.int (i+j)) H
def Co:CO X .Add Io:=by
 rintro aa s σ H x y u v Q I rx ry ⟨i,j,rfl,rfl,q⟩;refine q1x1 ((show∃t,u=Value.int i t from rx)) λt zz1=>?_;subst zz1;refine q1x1 ((show∃t',v=Value.int j t' from ry)) λt' zz1=>?_;subst zz1;exact PyProof.Rows.iadd_int ⟨.int (i+j),H,I.tok _,⟨_,rfl⟩,q⟩
end
structure bJ (k:Nat)(A:Around):Prop where
 hd:A.handled=Y
 dp:A.depth+3*k+5<recursionLimit
 un:A.units+16*k+200<cLine
variable{k:Nat}
def bJ.mono {j:Nat}(r:bJ k A)(h:j<=k):bJ j A:=⟨r.hd,by have:=r.dp;omega,by have:=r.un;omega⟩
def bJ.deeper (r:bJ (k+1) A)(env:Env):bJ k (A.deeper env):=
 ⟨r.hd,by have:=r.dp;show A.depth+1+3*k+5<_;omega,by have:=r.un;show A.units+3+16*k+200<_;omega⟩
def bJ.in1 (r:bJ (k+1) A):bJ k A.in1:=
 ⟨r.hd,by have:=r.dp;show A.depth+3*k+5<_;omega,by have:=r.un;show A.units+1+16*k+200<_;omega⟩
def bJ.depth (r:bJ k A):A.depth<recursionLimit:=by have:=r.dp;omega
def bJ.units (r:bJ k A):A.units+64<cLine:=by have:=r.un;omega
def CW:TA:=λ_ H Q=>Q [] H
def xw (ta:TE)(tr:TA):TA:=λσ H Q=>ta σ H λx H1=>tr σ H1 λxs H2=>Q (x::xs) H2
section
variable {X:Cx}{e:Expr}{es:List Expr}{te:TE}{t:TA}{pos:Pos}
def iS:PA X [] CW:=λ_ _ _ _ H Q I h=>Calls.spliced_nil ⟨[],H,I,.nil,h⟩
def fB (ha:PE X e te)(hr:PA X es t)(hs:starEach (e::es) X.env=(false,eval e X.env)::starEach es X.env:=by rfl):PA X (e::es) (xw te t):=by
 intro pos aa s σ H Q I h;rw[hs];show wpAny _ _ (spliced ((false,eval e X.env)::backTo pos (starEach es X.env))) _ _ s;refine Calls.spliced_cons (bM (ha aa s σ H _ I h) λu s1 hxx=>?_);refine q2x3 hxx λx H1 I1 r1 q1=>?_;exact bM (hr pos aa s1 σ H1 _ I1 q1) λus s2 ⟨xs,H2,I2,r2,q2⟩=>⟨x::xs,H2,I2,.cons r1 r2,q2⟩
def Ik (t:TA):TE:=λσ H Q=>t σ H λxs H1=>xs.length<=sizeLine/\∀p,H1 p=Y->Q (.ref p) (bu H1 p (.tup xs))
def HC (t:TA):TE:=λσ H Q=>t σ H λxs H1=>xs.length<=sizeLine/\∀p,H1 p=Y->Q (.ref p) (bu H1 p (.lst xs))
def CB {x1}(h:PA X es t):PE X (.Tuple es x1 pos) (Ik t):=by
 intro aa s σ H Q I hq;refine wpAny_Tuple_spliced (bM (h pos aa s σ H _ I hq) λus s1 ⟨xs,H1,I1,r,z,q⟩=>⟨by rw[<-r.length];exact z,?_⟩);have hf:H1 s1.heap.objs.size=Y:=I1.hok.fresh (Nat.le_refl _);refine⟨.ref s1.heap.objs.size,bu H1 s1.heap.objs.size (.tup xs),I1.laid (t':=s1.toks) (λb u e=>Heap.get?_push_of_some _ e) (Nat.le_refl _) ?_,rfl,q _ hf⟩;exact⟨z,us,r,⟨_,Heap.get?_push_size _ rfl,rfl,_,rfl⟩⟩
def yX (h:PA X es t):PE X (.List es pos) (HC t):=by
 intro aa s σ H Q I hq;refine wpAny_List_spliced (bM (h pos aa s σ H _ I hq) λus s1 ⟨xs,H1,I1,r,z,q⟩=>⟨by rw[<-r.length];exact z,?_⟩);have hf:H1 s1.heap.objs.size=Y:=I1.hok.fresh (Nat.le_refl _);refine⟨.ref s1.heap.objs.size,bu H1 s1.heap.objs.size (.lst xs),I1.laid (t':=s1.toks) (λb u e=>Heap.get?_push_of_some _ e) (Nat.le_refl _) ?_,rfl,q _ hf⟩;exact⟨z,us,0,r,Heap.get?_push_size _ rfl⟩
end
abbrev Sp:=List V->Hp->VK->XK->Prop
abbrev wo:=List Env->Hp->Shared->XK->Value->Shared->Prop
structure Ae (P:Program)(w:World)(K:W.Frag)(mg:Str->Option Value)(base:Heap)(A:Around)(outer:List Env)(s:Shared)(H:Hp):Prop where
 frames:A.frames=Z outer
 mod:Mod K mg base
 bs:∀b o,base.get? b=Z o->s.heap.get? b=Z o/\H b=Y
 bsz:base.objs.size<=s.heap.objs.size
 funs:s.heap.FunFrames base outer
 frf:∀b∈kG outer,H b=Y
 hok:hO P w H s.heap
 bare:AllBare s.gens
def CE (outer:List Env)(P:Program)(w:World)(H:Hp)(s:Shared)(Q:VK)(u:Value)(s':Shared):Prop:=
 ∃v H',s'.os=s.os/\AllBare s'.gens/\Un (kG outer) [] H H' s.heap s'.heap/\hO P w H' s'.heap/\aI v u/\Q v H'
def CR (CX:wo)(outer:List Env)(P:Program)(w:World)(H:Hp)(s:Shared)(Q:VK)(E:XK)(r:Result)(s':Shared):Prop:=
 match r with
 | .ok (.ret u)=>CE outer P w H s Q u s'
 | .ok _=>False
 | .error e=>CX outer H s E e s'
structure fm (P:Program)(w:World)(K:W.Frag)(mg:Str->Option Value)(base:Heap)(CX:wo)(k:Nat)(f:Addr)(fd:FuncData)(ps:List Str)(sp:Sp):Prop where
 len:∀vs H Q E,sp vs H Q E->vs.length=ps.length
 run:∀(A:Around) (outer:List Env) (s:Shared) (H:Hp) (args:Args) (us:List Value) (vs:List V) (Q:VK) (E:XK),bJ k A->Ae P w K mg base A outer s H->BindsTo s fd args (ps.zip us)->aJ vs us->sp vs H Q E->
  codeAny (model P w) A (.call (.ref f) args) (CR CX outer P w H s Q E) s
variable{mg:Str->Option Value}{base:Heap}{CX:wo}{fd:FuncData}{ps:List Str}
def fm.imp {f:Addr}{sp sp':Sp}(F:fm P w K mg base CX k f fd ps sp)
  (h:∀vs H Q E,sp' vs H Q E->sp vs H Q E):fm P w K mg base CX k f fd ps sp':=
 ⟨λvs H Q E q=>F.len vs H Q E (h _ _ _ _ q),λA outer s H args us vs Q E hr he hb hv hs=>F.run A outer s H args us vs Q E hr he hb hv (h _ _ _ _ hs)⟩
section
variable {X:Cx}{aa:List (Addr×Obj)}{σ:St}{H:Hp}{s s':Shared}
def Inv.env0 (I:Inv X aa σ H s):Ae X.prog X.w X.K X.mg X.base X.A X.stack s H:=
 ⟨I.ok.frames,I.ok.mod,I.bs,Nat.le_trans I.ok.bsz I.sz,I.stack,I.stkFree,I.hok,I.bare⟩
def Inv.after {Q:VK}(I:Inv X aa σ H s)(h:CE X.stack X.prog X.w H s Q u s'):EP X aa σ Q u s':=by
 refine q2x6 h λv H' os bare un hok r q=>?_;obtain⟨hh,g,d,t,os'⟩:=s';obtain rfl:os'=s.os:=os;exact⟨v,H',I.call (h':=hh) (g':=g) (d':=d) (t':=t) (ch:=[]) un hok bare (λb z=>absurd z (by simp)),r,q⟩
end
def Ft (sp:Sp)(dvs:List V)(E:XK)(t:TA):TE:=λσ H Q=>t σ H λvs H1=>sp (vs++dvs) H1 Q E
def ik (K:W.Frag)(fd:FuncData)(ps:List Str)(ds:List Value):Prop:=
 ∀(s:Shared) (us:List Value),K.In s.heap->(us++ds).length=ps.length->BindsTo s fd ⟨us,[]⟩ (ps.zip (us++ds))
def ik.all (h:∀us:List Value,us.length=ps.length->bindArgs fd ⟨us,[]⟩=pure (ps.zip us)):ik K fd ps []:=λs us _ hl=>by
 rw[append_nil] at hl ⊢;exact .of_eq (h us hl)
def sF (CX:wo)(X:Cx)(E:XK):Prop:=∀(aa:List (Addr×Obj)) (σ:St) (H:Hp) (s:Shared) (e:Value) (s':Shared),Inv X aa σ H s->CX X.stack H s E e s'->X.xe e s'
variable{vs:List V}
section
variable {X:Cx}{CX:wo}{k:Nat}{f C:Addr}{fd:FuncData}{ps:List Str}{sp:Sp}{dvs:List V}{ds:List Value}{E:XK}{x m:Str}{p pos apos:Pos}{e o:Expr}{es:List Expr}{ta:TE}{t:TA}
def EF {Q:VK}(F:fm X.prog X.w X.K X.mg X.base CX k f fd ps sp)(hr:bJ k X.A)(hb:ik X.K fd ps ds)(hd:aJ dvs ds)(hx:sF CX X E)
  (I:Inv X aa σ H s) (r:aJ vs us) (h:sp (vs++dvs) H Q E):wpAny (model X.prog X.w) X.A (call (.ref f) us) (EP X aa σ Q) X.xe s:=by
 have r2:aJ (vs++dvs) (us++ds):=r.append hd;have hl:(us++ds).length=ps.length:=by rw[<-r2.length];exact F.len _ _ _ _ h
 refine wpAny_call (codeAny_mono (F.run X.A X.stack s H ⟨us,[]⟩ (us++ds) (vs++dvs) Q E hr I.env0 (hb s us I.kIn hl) r2 h) λr s' hq=>?_);cases r with
 | error e=>exact hx aa σ H s e s' I hq
 | ok fl=>
  cases fl with
  | ret u=>exact I.after hq
  | next=>exact False.elim hq
  | brk=>exact False.elim hq
  | cont=>exact False.elim hq
def Ab (F:fm X.prog X.w X.K X.mg X.base CX k f fd ps sp)(hr:bJ k X.A)(hg:Gl X x)(hm:X.mg x=Z (.ref f))(hk:W.keepIn X.K (.ref f)=true)(hb:ik X.K fd ps ds)(hd:aJ dvs ds)(hx:sF CX X E)
  (ha:PA X (e::es) t) (hdb:(x==("__debug__":Str))=false:=by decide) (he:starEach (e::es) X.env=(false,eval e X.env)::starEach es X.env:=by rfl) (hpl:(backTo pos (starEach es X.env)).any (·.1)=false:=by rfl) :
  PE X (.Call (.Name x p) (e::es) [] pos) (Ft sp dvs E t):=by
 intro aa s σ H Q I h;refine wpAny_Call_Name_kw (uN I hg hm ?_ hdb);refine W.callWith_K (h₀:=X.base) I.ok.mod.kin hk (bM (ha pos aa s σ H _ I h) λus s1 ⟨vs,H1,I1,r,q⟩=>⟨I1.kIn,?_⟩) he hpl;exact EF F hr hb hd hx I1 r q
end
structure eG (N P:List Str)(sc:Scope):Prop where
 kind:sc.kind=.function
 co:sc.isCoroutine=false
 gen:sc.isGenerator=false
 nd:N.Nodup
 pre:N.take P.length=P
 par:∀x∈P,sc.names.lookup x=Z .local\/sc.names.lookup x=Z .cell
 nofree:∀y∈sc.names,y.2≠.free
theorem nV {kindOf:Str->Option NameKind}{x:Str}:∀{binds:List (Str×Value)} {m:Str->Option Value},(∀v,(x,v)∉binds)->bindL kindOf binds m x=m x
 | [],_,_=>rfl
 | (n,v)::r,m,h=>by
  unfold bindL;rw[nV λw hw=>h w (mem_cons_of_mem _ hw)];split
  ·have:x≠n:=by rintro rfl;exact h v mem_cons_self
   simp[this]
  ·rfl
theorem ol {kindOf:Str->Option NameKind}{x:Str}:∀{binds:List (Str×Value)} {m:Str->Option Value},(∀v,(x,v)∉binds)->bindC kindOf binds m x=m x
 | [],_,_=>rfl
 | (n,v)::r,m,h=>by
  unfold bindC;rw[ol λw hw=>h w (mem_cons_of_mem _ hw)];split
  ·rfl
  ·have:x≠n:=by rintro rfl;exact h v mem_cons_self
   simp[this]
theorem nJ {kindOf:Str->Option NameKind}{x:Str}{v:Value}:∀{P:List Str} {vs:List Value} {i:Nat} {m:Str->Option Value},P.Nodup->P[i]?=Z x->vs[i]?=Z v->kindOf x=Z .local->
  bindL kindOf (P.zip vs) m x=Z v
 | [],_,_,_,_,h,_,_=>by simp at h
 | _::_,[],_,_,_,_,h,_=>by simp at h
 | p::P,w::vs,0,m,nd,h1,h2,hk=>by
  simp at h1 h2;subst h1;subst h2;show bindL kindOf ((p,w)::P.zip vs) m p=_;unfold bindL;rw[nV λv hv=>(nodup_cons.mp nd).1 (of_mem_zip hv).1,if_pos hk];simp
 | p::P,w::vs,i+1,m,nd,h1,h2,hk=>by
  show bindL kindOf ((p,w)::P.zip vs) m x=_;unfold bindL;exact nJ (i:=i) (nodup_cons.mp nd).2 (by simpa using h1) (by simpa using h2) hk
theorem oj {kindOf:Str->Option NameKind}{x:Str}{v:Value}:∀{P:List Str} {vs:List Value} {i:Nat} {m:Str->Option Value},P.Nodup->P[i]?=Z x->vs[i]?=Z v->kindOf x≠Z .local->
  bindC kindOf (P.zip vs) m x=Z v
 | [],_,_,_,_,h,_,_=>by simp at h
 | _::_,[],_,_,_,_,h,_=>by simp at h
 | p::P,w::vs,0,m,nd,h1,h2,hk=>by
  simp at h1 h2;subst h1;subst h2;show bindC kindOf ((p,w)::P.zip vs) m p=_;unfold bindC;rw[ol λv hv=>(nodup_cons.mp nd).1 (of_mem_zip hv).1,if_neg hk];simp
 | p::P,w::vs,i+1,m,nd,h1,h2,hk=>by
  show bindC kindOf ((p,w)::P.zip vs) m x=_;unfold bindC;exact oj (i:=i) (nodup_cons.mp nd).2 (by simpa using h1) (by simpa using h2) hk
def start (N:List Str)(vs:List V):St:=vs.map Z++List.replicate (N.length-vs.length) Y
def gQ (CX:wo)(P:Program)(w:World)(K:W.Frag)(mg:Str->Option Value)(base:Heap)(N:List Str)(qual:Str)(scope:Scope)(f:Addr)(cd:Value)(A:Around)(outer:List Env)(s:Shared)(H:Hp)(E:XK):Cx where
 prog:=P
 w:=w
 K:=K
 mg:=mg
 base:=base
 A:=A.deeper (envOfC qual scope s.heap.objs.size f cd)
 N:=N
 s₀:=s
 H₀:=H
 env:=envOfC qual scope s.heap.objs.size f cd
 outer:=outer
 stack:=envOfC qual scope s.heap.objs.size f cd::outer
 ex:=[]
 calm:=true
 fn:=λ_=>true
 pn:=[]
 xe:=λe s'=>wpAny (model P w) (A.deeper (envOfC qual scope s.heap.objs.size f cd)) (leaving (envOfC qual scope s.heap.objs.size f cd) e) (λ_ s''=>CX outer H s E e s'') (λe' s''=>CX outer H s E e' s'') s'
def p8 {sc:Scope}{n:Nat}(h:sc.names.lookup x=Z .cell):∃c,(cellsFrom n sc.names []).lookup x=Z c:=by
 have q:=W.cellsFrom_some sc.names n [] (.inl h);exact Option.isSome_iff_exists.mp q
variable{scope:Scope}
def vH {N:List Str}{qual:Str}{f:Addr}{cd:Value}{outer:List Env}{s1:Shared}{E:XK}
  (S:eG N ps scope) (hd:A.handled=Y) (e0:Ae P w K mg base A outer s H) (hl:vs.length=ps.length) (r:aJ vs us)
  (x:InCallC s s.heap.objs.size (bindL (envOfC qual scope s.heap.objs.size f cd).kindOf (ps.zip us) λ_=>Y) (cellsFrom (s.heap.objs.size+1) scope.names []) (bindC (envOfC qual scope s.heap.objs.size f cd).kindOf (ps.zip us) λ_=>Y) s1) :
  Inv (gQ CX P w K mg base N qual scope f cd A outer s H E) [] (start N vs) H s1:=by
 have hpl:ps.length<=N.length:=by have:=congrArg List.length S.pre;rw[length_take] at this;omega
 refine q2x2 x.done λh1 tk zz2 hk=>?_;subst zz2;have noA:∀b:Addr,b∉(gQ CX P w K mg base N qual scope f cd A outer s H E).ex:=λb z=>absurd (show b∈([]:List Addr) from z) (by simp)
 refine⟨⟨e0.mod,S.kind,rfl,rfl,Nat.le_refl _,λy z c h1 h2=>?_,λy hy=>?_,λy c _ h=>?_,λ_=>hd,Around.frames_deeper e0.frames,.inr ⟨rfl,rfl⟩,λb z=>absurd z (noA b),e0.bs,e0.bsz,λb _ _=>noA b,λb z=>absurd z (noA b),e0.funs,e0.frf⟩,
  rfl,e0.bare,Un.kept hk,⟨_,x.toInCall.ns,λi y v h1 h2 h3=>?_⟩,λy c h=>⟨_,x.cell y c h⟩,e0.hok.fresh (Nat.le_refl _),λy c h=>?_,λp hp=>absurd (show p∈([]:List (Addr×Obj)) from hp) (by simp),e0.hok.kept hk,?_⟩
 ·exact name_of_addr x.apart (PySem.mem_of_lookup h1) (PySem.mem_of_lookup h2)
 ·have hy:scope.names.lookup y=Z .cell\/scope.names.lookup y=Z .free:=hy;rcases hy with hy|hy
  ·exact p8 hy
  ·exact absurd rfl (S.nofree _ (PySem.mem_of_lookup hy))
 ·exact Nat.le_of_lt (x.above y c (PySem.mem_of_lookup h))
 ·have hi:i<vs.length:=by
   unfold start at h2
   by_cases hi:i<vs.length
   ·exact hi
   ·rw[getElem?_append_right (by simpa using hi)] at h2;rw[getElem?_replicate] at h2;split at h2 <;> cases h2
  have ha:vs[i]?=Z v:=by
   unfold start at h2;rw[getElem?_append_left (by simpa using hi),getElem?_map] at h2;cases e:vs[i]? with
   | none=>rw[e] at h2;cases h2
   | some a=>rw[e] at h2;cases h2;rfl
  refine q1x2 (r.get ha) λu hu rv=>?_;have hp:ps[i]?=Z y:=by
   rw[<-S.pre,getElem?_take_of_lt (by omega)];exact h1
  have ndP:ps.Nodup:=by rw[<-S.pre];exact S.nd.sublist (take_sublist _ _)
  refine⟨u,rv,?_⟩;rcases S.par y (mem_of_getElem? hp) with k|k
  ·exact .inl ⟨k,nJ ndP hp hu k⟩
  ·refine q1x1 (p8 (n:=s.heap.objs.size+1) k) λc e=>?_;refine .inr ⟨.inl k,c,e,?_⟩;have q:=x.cell y c e;rw[oj ndP hp hu (by show scope.names.lookup y≠_;rw[k];decide)] at q;exact q
 ·exact e0.hok.fresh (Nat.le_of_lt (x.above y c (PySem.mem_of_lookup h)))
 ·unfold start;show _=N.length;rw[length_append,length_map,length_replicate];omega
def Bo {f:Addr}{name qual:Str}{params:Arguments}{dV kV doc pm cdv ct oc:Value}{an od:Option Addr}
  {osl:Array (Option Value)} {N:List Str} {sp:Sp} (lk:K.lookup f=Z ⟨oc,od,.func (W.fnOf name qual params body scope dV kV doc pm an cdv ct),osl⟩) (hcd:W.codeIn K cdv qual=true) (S:eG N ps scope)
  (len:∀vs H Q E,sp vs H Q E->vs.length=ps.length)
  (hbody:∀(A:Around) (outer:List Env) (s:Shared) (H:Hp) (vs:List V) (Q:VK) (E:XK),bJ k (A.deeper (envOfC qual scope s.heap.objs.size f cdv))->sp vs H Q E->
   ∃t,PSs (gQ CX P w K mg base N qual scope f cdv A outer s H E) body t/\t {nx:=λ_ H'=>Q .non H',rt:=Q} (start N vs) H) :
  fm P w K mg base CX (k+1) f (W.fnOf name qual params body scope dV kV doc pm an cdv ct) ps sp:=by
 refine⟨len,λA outer s H args us vs Q E hr e0 hb r hsp=>?_⟩;have hl:=len _ _ _ _ hsp;have KX:K.In s.heap:=e0.mod.kin.keeps λb o e=>(e0.bs b o e).1
 have lim:s.heap.NoLimit:=e0.mod.nolimit.keeps λb o e=>(e0.bs b o e).1
 have hkind:∀y∈ps.zip us,scope.names.lookup y.1=Z .local\/(scope.names.lookup y.1=Z .cell/\((cellsFrom (s.heap.objs.size+1) scope.names []).lookup y.1).isSome=true):=λ⟨n,v⟩ hy=>by
  rcases S.par n (of_mem_zip hy).1 with q|q
  ·exact .inl q
  ·exact .inr ⟨q,W.cellsFrom_some _ _ _ (.inl q)⟩
 refine codeAny_call_function hr.depth (KX _ _ lk) rfl S.co S.gen rfl (W.codeRec_of KX hcd) (hb _ _ _ _ ?_);refine wpAny_newFunctionEnv_cells S.kind hkind λenv he s1 x=>?_
 subst he;refine⟨lim.keeps x.toInCall.keep,codeAny_func ?_⟩;refine q1x2 (hbody A outer s H vs Q E (hr.deeper _) hsp) λt ht hq=>?_;have I:Inv (gQ CX P w K mg base N qual scope f cdv A outer s H E) [] (start N vs) H s1:=vH S hr.hd e0 hl r x;refine wpAny_mono (ht [] s1 (start N vs) H _ I hq) (λfl s' hs=>?_) λe s' hs=>hs
 have fin:∀{σ':St} {H':Hp} {v:V} {u:Value},Inv (gQ CX P w K mg base N qual scope f cdv A outer s H E) [] σ' H' s'->aI v u->Q v H'->CE outer P w H s Q u s':=
  λ{σ' H' v u} J rv q=>⟨v,H',J.os,J.bare,J.base,J.hok,rv,q⟩
 cases fl with
 | ret u=>
  refine q3x3 hs λv σ' H' J rv q=>?_;exact fin J rv q
 | next=>
  refine q2x2 hs λσ' H' J q=>?_;exact fin (v:=V.non) (u:=Value.none) J rfl q
 | brk=>
  refine q2x2 hs λ_ _ _ q=>?_;exact False.elim q
 | cont=>
  refine q2x2 hs λ_ _ _ q=>?_;exact False.elim q
section
variable {X:Cx}{x:Str}{p pos:Pos}{e:Expr}{es:List Expr}{t:TA}{id T:String}{r:List V->Hp->VK->Prop}
def IH (r:List V->Hp->VK->Prop)(t:TA):TE:=λσ H Q=>t σ H λvs H1=>r vs H1 Q
def mS (hc:cG X (.builtin id) r)(hg:Gl X x)(hm:X.mg x=Y)(hv:bootBuiltins x=Z (.builtin id))(ha:PA X (e::es) t)(hn:x≠"__name__":=by decide)(hdb:(x==("__debug__":Str))=false:=by decide)
  (he:starEach (e::es) X.env=(false,eval e X.env)::starEach es X.env:=by rfl) (hpl:(backTo pos (starEach es X.env)).any (·.1)=false:=by rfl):PE X (.Call (.Name x p) (e::es) [] pos) (IH r t):=by
 intro aa s σ H Q I h;refine wpAny_Call_Name_kw (mJ I hg hm hv ?_ hn hdb);exact PyProof.Rows.callWith_builtin1 (bM (ha pos aa s σ H _ I h) λus s1 ⟨vs,H1,I1,r1,q1⟩=>hc aa s1 σ H1 vs us Q I1 r1 q1) he hpl
def v3 (hc:cG X (.type T) r)(hg:Gl X x)(hm:X.mg x=Y)(hv:bootBuiltins x=Z (.type T))(ha:PA X (e::es) t)(hn:x≠"__name__":=by decide)(hdb:(x==("__debug__":Str))=false:=by decide)
  (he:starEach (e::es) X.env=(false,eval e X.env)::starEach es X.env:=by rfl) (hpl:(backTo pos (starEach es X.env)).any (·.1)=false:=by rfl):PE X (.Call (.Name x p) (e::es) [] pos) (IH r t):=by
 intro aa s σ H Q I h;refine wpAny_Call_Name_kw (mJ I hg hm hv ?_ hn hdb);exact PyProof.Rows.callWith_type1 (bM (ha pos aa s σ H _ I h) λus s1 ⟨vs,H1,I1,r1,q1⟩=>hc aa s1 σ H1 vs us Q I1 r1 q1) he hpl
end
end L2
namespace HT
open PySem PyProof.Rows
def lexLt:List Int->List Int->Bool
 | [],[]=>false
 | [],_::_=>true
 | _::_,[]=>false
 | x::xs,y::ys=>if x=y then lexLt xs ys else decide (x<y)
theorem lexLt_cons (x y:Int)(xs ys:List Int):lexLt (x::xs) (y::ys)=if x=y then lexLt xs ys else decide (x<y):=rfl
section
open PySem.SeqAt
open PySem.AutoSeq1 (wpAny_loadPart')
open PySem.MeetsSeq PySem.MeetsSeq2 PySem.MeetsSeq3
end
variable{Q:Value->Shared->Prop}
section
variable {prog:Program}{w:World}{A:Around}{E:Value->Shared->Prop}{s:Shared}
def cat_tup {t b:Addr}{vs ws:List Value}(ht:IsTup s.heap t vs.toArray)(hb:IsTup s.heap b ws.toArray)(hv:vs≠[])
  (h1:ws=[]->Q (.ref t) s) (h2:ws≠[]->Q (.ref s.heap.objs.size) {s with heap:=s.heap.push {cls:=.type "tuple",data:=.seq (vs++ws).toArray}})
  (hsz:vs.length+ws.length<=sizeLine):wpAny (model prog w) A (binaryOp .Add (.ref t) (.ref b)) Q E s:=by
 obtain⟨⟨cls,dd,data,sl⟩,ho,hc,n,hd⟩:=id ht;obtain⟨⟨cls2,dd2,data2,sl2⟩,ho2,hc2,n2,hd2⟩:=id hb;simp only at hc hd hc2 hd2;subst hc hd hc2 hd2;have e:vs.toArray++ws.toArray=(vs++ws).toArray:=by simp
 by_cases hw:ws=[]
 ·exact concat_meets ⟨_,ho,rfl⟩ ⟨_,ho2,rfl⟩ noFill_tuple_add seq_tuple_add PySem.F.slot_tuple_add PySem.F.entry_tuple_add (PySem.F.args_tuple_add_2 _ _)
   (tuple_addW1 t b vs.toArray ws.toArray n n2 dd dd2 sl sl2 (by simpa using hv) (by simp[hw])) ⟨ho,ho2,h1 hw⟩
 ·refine concat_meets ⟨_,ho,rfl⟩ ⟨_,ho2,rfl⟩ noFill_tuple_add seq_tuple_add PySem.F.slot_tuple_add PySem.F.entry_tuple_add (PySem.F.args_tuple_add_2 _ _)
   (tuple_addW2 t b vs.toArray ws.toArray n n2 dd dd2 sl sl2 (by simpa using hv) (by simpa using hw) (by rw[List.size_toArray,List.size_toArray];exact hsz)) ⟨ho,ho2,?_⟩
  rw[e];exact h2 hw
def sIx (n d:Nat):Option Int->Nat
 | none=>d
 | some v=>if v<0 then(v+(n:Int)).toNat else min v.toNat n
theorem sIx_none (n d:Nat):sIx n d Y=d:=rfl
def sIx_nat (n d k:Nat):sIx n d (Z (k:Int))=min k n:=by
 show(if(k:Int)<0 then((k:Int)+(n:Int)).toNat else min (k:Int).toNat n)=min k n;rw[if_neg (by omega),Int.toNat_natCast]
def Dc (n d:Nat)(hd:d<=n)(o:Option Int):sIx n d o<=n:=by
 cases o with
 | none=>exact hd
 | some v=>
  show(if v<0 then(v+(n:Int)).toNat else min v.toNat n)<=n
  by_cases hv:v<0
  ·rw[if_pos hv];omega
  ·rw[if_neg hv];exact Nat.min_le_right _ _
def tV (v:Int)(n d:Nat):(if v<0 then max (v+(n:Int)) 0 else min v (n:Int))=((sIx n d (Z v):Nat):Int):=by
 show(if v<0 then max (v+(n:Int)) 0 else min v (n:Int))=(((if v<0 then(v+(n:Int)).toNat else min v.toNat n):Nat):Int)
 by_cases hv:v<0
 ·simp only[if_pos hv];omega
 ·simp only[if_neg hv];omega
def si (lo hi:Option Int)(n:Nat):Builtin.Slice.sliceAdjust lo hi 1 (n:Int)=(((sIx n 0 lo:Nat):Int),((sIx n n hi:Nat):Int)):=by
 have h1:¬((1:Int)<0):=by omega
 unfold Builtin.Slice.sliceAdjust;simp only[h1,if_false];refine Prod.ext ?_ ?_
 ·cases lo with
  | none=>rfl
  | some v=>exact tV v n 0
 ·cases hi with
  | none=>rfl
  | some v=>exact tV v n n
def sK (i j:Nat):Builtin.Slice.slicePlaces (i:Int) (j:Int) 1=j-i:=by
 unfold Builtin.Slice.slicePlaces;have h1:(1:Int)>0:=by omega
 simp only[h1,if_true,Int.ediv_one];split <;> omega
def mO {v:Value}{o:Option Int}{Q:Option Int->Shared->Prop}(p:IsPart v o)(h:Q o s):wpAny (model prog w) A (Builtin.Slice.slicePartIndex v) Q E s:=by
 cases p with
 | none=>exact slicePart_none h
 | int i t=>exact slicePart_int h
def sliceApplied_gen {sl:Addr}{vl vu:Value}{lo hi:Option Int}{n:Nat}{Q:Int×Int×Nat->Shared->Prop}(hs:s.heap.IsSliceOf sl vl vu .none)(pl:IsPart vl lo)(pu:IsPart vu hi)
  (h:Q (((sIx n 0 lo:Nat):Int),1,sIx n n hi-sIx n 0 lo) s):wpAny (model prog w) A (Builtin.Slice.sliceApplied (.ref sl) (pure (n:Int))) Q E s:=by
 refine q1x3 (id hs) λos hos hcs hds=>?_;unfold Builtin.Slice.sliceApplied Builtin.Slice.sliceFields;refine wpAny_bind (wpAny_bind (wpAny_field hos hds (x:=vl) rfl (wpAny_bind (wpAny_field hos hds (x:=vu) rfl (wpAny_bind (wpAny_field hos hds (x:=.none) rfl (wpAny_pure ?_)))))));refine wpAny_bind (slicePart_none ?_);show wpAny _ _ (if((1:Int)==0)=true then _ else _) _ _ s;rw[if_neg (by decide)];refine wpAny_bind (mO pl (wpAny_bind (mO pu (wpAny_bind (wpAny_pure ?_)))));show wpAny _ _ (match Builtin.Slice.sliceAdjust lo hi 1 (n:Int) with|(lo,hi)=>pure (lo,(1:Int),Builtin.Slice.slicePlaces lo hi 1)) _ _ s;rw[si lo hi n];show wpAny _ _ (pure (((sIx n 0 lo:Nat):Int),(1:Int),Builtin.Slice.slicePlaces ((sIx n 0 lo:Nat):Int) ((sIx n n hi:Nat):Int) 1)) _ _ s;rw[sK];exact wpAny_pure h
def yp (xs:Array Value)(i k:Nat):((List.range k).filterMap λ(m:Nat)=>xs[((i:Int)+(m:Int)*1).toNat]?).toArray=((xs.toList.drop i).take k).toArray:=by
 have e:(λ(m:Nat)=>xs[((i:Int)+(m:Int)*1).toNat]?)=λm=>xs[i+m]?:=by
  funext m;have:((i:Int)+(m:Int)*1).toNat=i+m:=by omega
  rw[this]
 rw[e];have:=pick_run xs i k;rw[List.filterMap_map] at this;have e2:((λx=>xs[x]?) ∘ λx=>i+x)=λm=>xs[i+m]?:=rfl
 rw[e2] at this;rw[this]
def getItem_tuple_cut {t sl:Addr}{items:Array Value}{vl vu:Value}{lo hi:Option Int}(ht:IsTup s.heap t items)(hs:s.heap.IsSliceOf sl vl vu .none)(pl:IsPart vl lo)(pu:IsPart vu hi)
  (hw:¬(sIx items.size 0 lo=0/\sIx items.size items.size hi=items.size))
  (h:Q (.ref s.heap.objs.size) {s with heap:=s.heap.push {cls:=.type "tuple",data:=.seq ((items.toList.drop (sIx items.size 0 lo)).take (sIx items.size items.size hi-sIx items.size 0 lo)).toArray}})
  (hsz:items.size<=sizeLine):wpAny (model prog w) A (getItem (.ref t) (.ref sl)) Q E s:=by
 have htake:sizeOk (.seq ((items.toList.drop (sIx items.size 0 lo)).take (sIx items.size items.size hi-sIx items.size 0 lo)).toArray):=by
  show((items.toList.drop (sIx items.size 0 lo)).take (sIx items.size items.size hi-sIx items.size 0 lo)).toArray.size<=sizeLine;rw[List.size_toArray,List.length_take,List.length_drop,Array.length_toList];omega
 have hj:sIx items.size items.size hi<=items.size:=Dc _ _ (Nat.le_refl _) hi;refine q1x3 (id hs) λos hos hcs hds=>?_;have hTs:s.TypeIs (.ref sl) "slice":=⟨os,hos,hcs⟩;unfold getItem
 try with_reducible refine wpAny_holding ?_
 first|refine wpAny_bind (wpAny_pure ?_)|skip
 refine wpAny_bind (wpAny_sequenceKey ht.typeIs (by decide) ?_);refine wpAny_bind (wpAny_callSpecial?_slot (name:=Str.ofString "__getitem__") ht.typeIs PyProof.Rows.slot_tuple_getitem
  (wpAny_call_entry PyProof.Rows.slot_tuple_getitem ht.typeIs entry_tuple_getitem ?_ (args_tuple_getitem _ _)))
 show wpAny _ _ (Builtin.Tuple.tupleItemsOf (.ref t) >>= _) _ _ s;refine wpAny_bind (tupleItemsOf_ ht ?_);refine wpAny_bind (wpAny_typeOf hTs ?_);rw[if_pos (by decide)];refine wpAny_bind (sliceApplied_gen hs pl pu ?_);have hno:¬((((sIx items.size 0 lo:Nat):Int)==0&&(1:Int)==1&&(sIx items.size items.size hi-sIx items.size 0 lo)==items.size)=true):=by
  intro q;rw[Bool.and_eq_true,Bool.and_eq_true] at q;have q1:((sIx items.size 0 lo:Nat):Int)=0:=eq_of_beq q.1.1;have q2:sIx items.size items.size hi-sIx items.size 0 lo=items.size:=eq_of_beq q.2;exact hw ⟨by omega,by omega⟩
 show wpAny _ _ (if(((sIx items.size 0 lo:Nat):Int)==0&&(1:Int)==1&&(sIx items.size items.size hi-sIx items.size 0 lo)==items.size)=true then _ else _) _ _ s;rw[if_neg hno,yp]
 first
  | exact wpAny_bind (m:=Builtin.Tuple.tupleExact _) (wpAny_newObj_type (wpAny_pure ⟨_,rfl,wpAny_pure h⟩) htake)
  | exact wpAny_bind (m:=Builtin.Tuple.tupleExact _) (wpAny_newObj_type (wpAny_bind (wpAny_pure (wpAny_pure ⟨_,rfl,wpAny_pure h⟩))) htake)
  | exact wpAny_bind (wpAny_bind (m:=Builtin.Tuple.tupleExact _) (wpAny_newObj_type (wpAny_pure (wpAny_pure ⟨_,rfl,wpAny_pure h⟩)) htake))
  | exact wpAny_bind (wpAny_bind (m:=Builtin.Tuple.tupleExact _) (wpAny_newObj_type (wpAny_pure ⟨_,rfl,wpAny_pure h⟩) htake))
end
end HT
namespace L2
open PySem PySem.Spec PyProof.Rows List
abbrev TO:=St->Hp->(Option Int->Hp->Prop)->Prop
def PO (X:Cx)(e:Option Expr)(t:TO):Prop:=
 ∀(aa:List (Addr×Obj)) (s:Shared) (σ:St) (H:Hp) (Q:Option Int->Hp->Prop),Inv X aa σ H s->t σ H Q->
  wpAny (model X.prog X.w) X.A (evalPart e X.env) (λu s'=>∃o H',Inv X aa σ H' s'/\IsPart u o/\Q o H') X.xe s
def A4:TO:=λ_ H Q=>Q Y H
def Fy (t:TE):TO:=λσ H Q=>t σ H λx H1=>∃i,x=.int i/\Q (Z i) H1
def sZ {ns:List Int}:∀{us:List Value},aJ (ns.map V.int) us->IntsAre us ns:=by
 induction ns with
 | nil=>intro us r;rw[map_nil] at r;cases r;exact .nil
 | cons n ns ih=>
  intro us r;rw[map_cons] at r;cases r with
  | cons r1 r2=>
   refine q1x1 r1 λt e=>?_;subst e;exact .cons n t (ih r2)
variable{xs:List V}
section
variable {X:Cx}{e:Expr}{te:TE}{lo hi:Option Expr}{tl th:TO}{pos p2:Pos}
def Am:PO X Y A4:=by
 intro aa s σ H Q I h;rw[evalPart_none];exact wpAny_pure ⟨Y,H,I,.none,h⟩
def AI (h:PE X e te):PO X (Z e) (Fy te):=by
 intro aa s σ H Q I hw;rw[evalPart_some];refine bM (h aa s σ H _ I hw) λu s1 hxx=>?_
 refine q2x3 hxx λx H1 I1 r1 q1=>?_;refine q1x2 q1 λi zz1 q=>?_;subst zz1;refine q1x1 r1 λt zz1=>?_;subst zz1;exact⟨Z i,H1,I1,.int i t,q⟩
def Hg (X:Cx)(r:V->Option Int->Option Int->Hp->VK->Prop):Prop:=
 ∀(aa:List (Addr×Obj)) (s:Shared) (σ:St) (H:Hp) (x:V) (v vl vu:Value) (lo hi:Option Int) (sl:Addr) (Q:VK),Inv X aa σ H s->aI x v->s.heap.IsSliceOf sl vl vu .none->IsPart vl lo->IsPart vu hi->r x lo hi H Q->
  ∃T id,typeLookup (.type T) "__getitem__"=pure (Z (.builtin id))/\s.TypeIs v T/\wpAny (model X.prog X.w) X.A (getItem v (.ref sl)) (EP X aa σ Q) X.xe s
def Jo (r:V->Option Int->Option Int->Hp->VK->Prop)(te:TE)(tl th:TO):TE:=λσ H Q=>te σ H λx H1=>tl σ H1 λl H2=>th σ H2 λu H3=>r x l u H3 Q
def xZ {r:V->Option Int->Option Int->Hp->VK->Prop}(hr:Hg X r)(he:PE X e te)(hl:PO X lo tl)(hu:PO X hi th):PE X (.Subscript e (.Slice lo hi Y p2) pos) (Jo r te tl th):=by
 intro aa s σ H Q I h;refine Subscript_ (bM (he aa s σ H _ I h) λv s1 hxx=>?_);refine q2x3 hxx λx H1 I1 r1 q1=>?_;refine wpAny_Slice (bM (hl aa s1 σ H1 _ I1 q1) λvl s2 ⟨l,H2,I2,pl,q2⟩=>bM (hu aa s2 σ H2 _ I2 q2) λvu s3 hxx=>?_);refine q2x3 hxx λu H3 I3 pu q3=>?_;rw[evalPart_none];refine wpAny_pure ?_;have I4:Inv X aa σ H3 {s3 with heap:=s3.heap.push {cls:=.type "slice",data:=.fields #[vl,vu,.none]}}:=I3.kept (t':=s3.toks) λb ob q=>Heap.get?_push_of_some _ q
 refine q2x3 (hr aa {s3 with heap:=s3.heap.push {cls:=.type "slice",data:=.fields #[vl,vu,.none]}} σ H3 x v vl vu l u s3.heap.objs.size Q I4 r1 (Heap.IsSliceOf.new ..) pl pu q3) λT id hT ht hg=>?_;show wpAny (model X.prog X.w) X.A (subscriptTail e (.Slice lo hi Y p2) v (.ref s3.heap.objs.size)) (EP X aa σ Q) X.xe {s3 with heap:=s3.heap.push {cls:=.type "slice",data:=.fields #[vl,vu,.none]}};exact tail_any (ops:=[.ref s3.heap.objs.size,v]) ht hT hg (by with_unfolding_all rfl)
def qf (xs:List V)(lo hi:Option Int):List V:=(xs.drop (HT.sIx xs.length 0 lo)).take (HT.sIx xs.length xs.length hi-HT.sIx xs.length 0 lo)
def jU (xs:List V)(lo hi:Option Int):(qf xs lo hi).length<=xs.length:=by
 unfold qf;rw[length_take,length_drop];omega
def IC (K:W.Frag):V->Option Int->Option Int->Hp->VK->Prop:=λx lo hi H Q=>∃a xs,x=.ref a/\oo K H a xs/\
 ¬(HT.sIx xs.length 0 lo=0/\HT.sIx xs.length xs.length hi=xs.length)/\∀p,H p=Y->Q (.ref p) (bu H p (.tup (qf xs lo hi)))
def C0:Hg X (IC X.K):=by
 intro aa s σ H x v vl vu lo hi sl Q I rx hs pl pu h;refine q2x4 h λa xs zz2 hx hw q=>?_;subst zz2;cases rx;refine q1x3 (I.tuple hx) λits r ht hz=>?_;have hlen:its.toArray.size=xs.length:=by rw[size_toArray];exact r.length.symm
 refine⟨"tuple",_,PyProof.Rows.slot_tuple_getitem.lookup,ht.typeIs,?_⟩;refine HT.getItem_tuple_cut ht hs pl pu (by rw[hlen];exact hw) ?_ (by rw[hlen];exact hz);rw[hlen];refine⟨.ref s.heap.objs.size,_,I.laid (t':=s.toks) (o:=.tup (qf xs lo hi)) (λb ob q=>Heap.get?_push_of_some _ q) (Nat.le_refl _) ?_,rfl,q _ (I.hok.fresh (Nat.le_refl _))⟩;exact⟨Nat.le_trans (jU xs lo hi) hz,_,(r.drop (HT.sIx xs.length 0 lo)).take (HT.sIx xs.length xs.length hi-HT.sIx xs.length 0 lo),IsTup.new _ _⟩
def FA (K:W.Frag):R2:=λx y H Q=>∃a b xs ys,x=.ref a/\y=.ref b/\oo K H a xs/\oo K H b ys/\xs≠[]/\xs.length+ys.length<=sizeLine/\
 (ys=[]->Q (.ref a) H)/\(ys≠[]->∀p,H p=Y->Q (.ref p) (bu H p (.tup (xs++ys))))
def aJ.nil_iff {us:List Value}(r:aJ xs us):us=[]↔xs=[]:=by
 cases r with
 | nil=>simp
 | cons _ _=>simp
def Ad:fN X (binaryOp .Add) (FA X.K):=by
 intro aa s σ H x y v u Q I rx ry h;obtain⟨a,b,xs,ys,rfl,rfl,ha,hb,hx,hz,q1,q2⟩:=h;cases rx;cases ry;refine q1x3 (I.tuple ha) λits r1 p1 _=>?_;refine q1x3 (I.tuple hb) λits2 r2 p2 _=>?_;refine HT.cat_tup p1 p2 (λz=>hx (r1.nil_iff.mp z)) (λz=>⟨.ref a,H,I,rfl,q1 (r2.nil_iff.mp z)⟩) (λz=>?_) (by rw[<-r1.length,<-r2.length];exact hz);refine⟨.ref s.heap.objs.size,_,I.laid (t':=s.toks) (o:=.tup (xs++ys)) (λb ob q=>Heap.get?_push_of_some _ q) (Nat.le_refl _) ?_,rfl,q2 (λw=>z (r2.nil_iff.mpr w)) _ (I.hok.fresh (Nat.le_refl _))⟩;exact⟨by rw[length_append];exact hz,_,r1.append r2,IsTup.new _ _⟩
end
def xN (n:Nat)(i:Int):Option Nat:=if 0<=i then(if i<n then Z i.toNat else Y) else if -(n:Int)<=i then Z (i+n).toNat else Y
def uc {α:Type}(xs:List α)(i:Int):Option α:=(xN xs.length i).bind λj=>xs[j]?
def ug {n:Nat}{i:Int}{j:Nat}(h:xN n i=Z j):seqIndex? i n=Z j/\j<n/\-(n:Int)<=i/\i<n:=by
 unfold xN at h
 by_cases h0:0<=i
 ·rw[if_pos h0] at h
  by_cases h1:i<n
  ·rw[if_pos h1] at h;have e:i.toNat=j:=Option.some.inj h;exact⟨by rw[seqIndex_of h0 h1,e],by omega,by omega,h1⟩
  ·rw[if_neg h1] at h;cases h
 ·rw[if_neg h0] at h
  by_cases h1:-(n:Int)<=i
  ·rw[if_pos h1] at h;have e:(i+n).toNat=j:=Option.some.inj h;exact⟨by rw[seqIndex_neg (by omega) h1,e],by omega,h1,by omega⟩
  ·rw[if_neg h1] at h;cases h
def tX {α:Type}{xs:List α}{i:Int}{v:α}(h:uc xs i=Z v):∃j,seqIndex? i xs.length=Z j/\xs[j]?=Z v/\j<xs.length/\-(xs.length:Int)<=i/\i<xs.length:=by
 unfold uc at h;cases e:xN xs.length i with
 | none=>rw[e] at h;cases h
 | some j=>
  rw[e] at h;refine q0x4 (ug e) λh1 h2 h3 h4=>?_;exact⟨j,h1,h,h2,h3,h4⟩
def o7 {α:Type}{xs:List α}{j:Nat}{v:α}(h:xs[j]?=Z v):uc xs (j:Int)=Z v:=by
 have hj:j<xs.length:=(List.getElem?_eq_some_iff.mp h).1;have e:xN xs.length (j:Int)=Z j:=by
  unfold xN;rw[if_pos (by omega),if_pos (by omega)];simp
 unfold uc;rw[e];exact h
def oU (b:Expr):Prop:=∀o i,subscripted b false o i=operate [o,i] (getItem o i)
def G7 (X:Cx)(r:R2):Prop:=
 ∀(value slice:Expr) (aa:List (Addr×Obj)) (s:Shared) (σ:St) (H:Hp) (x y:V) (v u:Value) (Q:VK),Inv X aa σ H s->aI x v->aI y u->r x y H Q->
  subscripted slice false v u=operate [v,u] (getItem v u)->wpAny (model X.prog X.w) X.A (subscriptTail value slice v u) (EP X aa σ Q) X.xe s
def Ji (X:Cx)(id:String)(r:V->List V->Hp->VK->Prop):Prop:=
 ∀(aa:List (Addr×Obj)) (s:Shared) (σ:St) (H:Hp) (x:V) (xs:List V) (v:Value) (us:List Value) (Q:VK),Inv X aa σ H s->aI x v->aJ xs us->r x xs H Q->
  wpAny (model X.prog X.w) X.A (call (.builtin id) (v::us)) (EP X aa σ Q) X.xe s
variable{aa:List (Addr×Obj)}{σ:St}{H:Hp}{s:Shared}
section
variable {X:Cx}{a b:Expr}{ta tb:TE}{pos:Pos}
def FT {r:R2}(hr:G7 X r)(ha:PE X a ta)(hb:PE X b tb)(hs:oU b):PE X (.Subscript a b pos) (Fd r ta tb):=by
 intro aa s σ H Q I h;exact Subscript_ (Eg ha hb I h λv u s2 x y H2 I2 rx ry q=>hr a b aa s2 σ H2 x y v u Q I2 rx ry q (hs _ _))
def Ir (K:W.Frag):R2:=λx y H Q=>∃p xs i v,x=.ref p/\y=.int i/\jt K H p xs/\uc xs i=Z v/\Q v H
def Hv (K:W.Frag):R2:=λx y H Q=>∃p xs i v,x=.ref p/\y=.int i/\oo K H p xs/\uc xs i=Z v/\Q v H
def Ao:G7 X (Ir X.K):=by
 intro value slice aa s σ H x y v u Q I rx ry h hs;refine q4x5 h λp xs i z zz4 zz5 hq he q=>?_;subst zz4;subst zz5;cases rx;refine q1x1 ry λt zz1=>?_;subst zz1;refine q1x3 (I.list hq) λits r pl hz=>?_;obtain⟨j,h1,h2,h3,h4,h5⟩:=tX he;refine q1x2 (r.get h2) λw ew rw'=>?_;have hl:=r.length;have hn:=jD;have fin:EP X aa σ Q w s:=⟨z,H,I,rw',q⟩
 by_cases h0:0<=i
 ·have hj:i.toNat=j:=by
   rw[seqIndex_of h0 h5] at h1;exact Option.some.inj h1
  exact item_listR pl.isList h0 (by omega) (by rw[hj];simpa using ew) fin hs
 ·have hj:(i+(its.toArray.size:Int)).toNat=j:=by
   rw[seqIndex_neg (by omega) h4] at h1;rw[size_toArray,<-hl];exact Option.some.inj h1
  exact subscriptTail_builtinR (x:=w) pl.isList.typeIs slot_list_getitem.lookup
   (wpAny_getItem_list_neg (Q:=λr s'=>r=w/\EP X aa σ Q r s') pl.isList (by omega) (by rw[size_toArray] <;> omega) (by omega) (by rw[hj];simpa using ew) ⟨rfl,fin⟩) hs
def DE:G7 X (Hv X.K):=by
 intro value slice aa s σ H x y v u Q I rx ry h hs;refine q4x5 h λp xs i z zz4 zz5 hq he q=>?_;subst zz4;subst zz5;cases rx;refine q1x1 ry λt zz1=>?_;subst zz1;refine q1x3 (I.tuple hq) λits r pl hz=>?_;obtain⟨j,h1,h2,h3,h4,h5⟩:=tX he;refine q1x2 (r.get h2) λw ew rw'=>?_;have hl:=r.length;have hn:=jD;have fin:EP X aa σ Q w s:=⟨z,H,I,rw',q⟩;exact subscriptTail_builtinR (x:=w) pl.typeIs slot_tuple_getitem.lookup
  (getItem_tuple (j:=j) (Q:=λr s'=>r=w/\EP X aa σ Q r s') pl (by omega) (by omega) (by rw[size_toArray,<-hl];exact h1) (by simpa using ew) ⟨rfl,fin⟩) hs
def rU (its:List Value)(n j:Nat)(u:Value):Obj.mapSeq (·.setIfInBounds j u) {cls:=.type "list",data:=.seq its.toArray n}={cls:=.type "list",data:=.seq (its.set j u).toArray n}:=by
 simp[Obj.mapSeq]
def Inv.lst {p:Addr}(I:Inv X aa σ H s)(h:H p=Z (.lst xs)) :
  ∃(its:List Value) (n:Nat),aJ xs its/\s.heap.get? p=Z {cls:=.type "list",data:=.seq its.toArray n}/\xs.length<=sizeLine:=by
 obtain⟨z,its,n,r,e⟩:=I.hok p _ h;exact⟨its,n,r,e,z⟩
def Inv.lstUpd {p:Addr}{ys:List V}{its its':List Value}{n n':Nat}{f:Obj->Obj}(I:Inv X aa σ H s)(h:H p=Z (.lst xs))
  (ho:s.heap.get? p=Z {cls:=.type "list",data:=.seq its.toArray n}) (hf:f {cls:=.type "list",data:=.seq its.toArray n}={cls:=.type "list",data:=.seq its'.toArray n'}) (r:aJ ys its') (hz:ys.length<=sizeLine) (t:Nat) :
  Inv X aa σ (bu H p (.lst ys)) {s with heap:=s.heap.update p f,toks:=t}:=by
 have e:(s.heap.update p f).get? p=Z {cls:=.type "list",data:=.seq its'.toArray n'}:=by
  rw[Heap.get?_update_self f ho (by rw[hf] <;> rfl),hf]
 refine I.write (x:=p) (e:=p) (by rw[h];trivial) (.inl rfl) (λb u hb q=>(Heap.get?_update_other _ _ (Ne.symm hb)).trans q) ⟨_,e⟩ ?_;exact⟨hz,its',n',r,e⟩
def Fa:V->V->V->Hp->(Hp->Prop)->Prop:=λo i v H Q=>∃p xs k j,o=.ref p/\i=.int k/\H p=Z (.lst xs)/\xN xs.length k=Z j/\Q (bu H p (.lst (xs.set j v)))
def zb:GC X Fa:=by
 intro aa s σ H o i v ov iv u Q I ro ri rv h;refine q4x5 h λp xs k j zz4 zz5 hp hj q=>?_;subst zz4;subst zz5;cases ro;refine q1x1 ri λt zz1=>?_;subst zz1;refine q2x3 (I.lst hp) λits n r ho hz=>?_;refine q0x4 (ug hj) λh1 h2 h3 h4=>?_;have hl:=r.length;have hn:=jD;have I':Inv X aa σ (bu H p (.lst (xs.set j v))) {s with heap:=s.heap.update p (Obj.mapSeq (·.setIfInBounds j u))}:=
  I.lstUpd hp ho (rU its n j u) (r.set rv j) (by rw[length_set];exact hz) s.toks
 by_cases h0:0<=k
 ·have hk:k.toNat=j:=by
   rw[seqIndex_of h0 h4] at h1;exact Option.some.inj h1
  exact W.ki_setAt ho h0 (by omega) (by rw[size_toArray,<-hl];exact h4) (by rw[hk];exact⟨_,I',q⟩)
 ·have hk:(k+(its.toArray.size:Int)).toNat=j:=by
   rw[seqIndex_neg (by omega) h3] at h1;rw[size_toArray,<-hl];exact Option.some.inj h1
  exact W.ki_setBack ho (by omega) (by rw[size_toArray,<-hl];exact h3) (by omega) (by rw[hk];exact⟨_,I',q⟩)
def oW (lo hi:Option Int)(n:Nat):(sliceBounds lo hi Y n).1=((HT.sIx n 0 lo:Nat):Int)/\(sliceBounds lo hi Y n).2.1=((HT.sIx n n hi:Nat):Int)/\(sliceBounds lo hi Y n).2.2=1:=by
 refine⟨?_,?_,rfl⟩
 ·cases lo with
  | none=>simp[sliceBounds,HT.sIx]
  | some i=>
   simp only[sliceBounds,HT.sIx,Option.getD_none,show(1:Int)>0 by decide,if_true]
   by_cases h:i<0
   ·simp only[h,if_true] <;> omega
   ·simp only[h,if_false] <;> omega
 ·cases hi with
  | none=>simp[sliceBounds,HT.sIx]
  | some i=>
   simp only[sliceBounds,HT.sIx,Option.getD_none,show(1:Int)>0 by decide,if_true]
   by_cases h:i<0
   ·simp only[h,if_true] <;> omega
   ·simp only[h,if_false] <;> omega
def nh (its:List Value)(lo hi:Option Int):slicePick its.toArray lo hi Y=((its.drop (HT.sIx its.length 0 lo)).take (HT.sIx its.length its.length hi-HT.sIx its.length 0 lo)).toArray:=by
 refine q0x3 (oW lo hi its.toArray.size) λh1 h2 h3=>?_;unfold slicePick;rw[h1,h2,h3];simp only[sliceRange_one,pick_run,size_toArray] <;> rfl
def HY (K:W.Frag):V->Option Int->Option Int->Hp->VK->Prop:=λx lo hi H Q=>∃a xs,x=.ref a/\jt K H a xs/\∀p,H p=Y->Q (.ref p) (bu H p (.lst (qf xs lo hi)))
def oy:Hg X (HY X.K):=by
 intro aa s σ H x v vl vu lo hi sl Q I rx hs pl pu h;refine q2x3 h λa xs zz2 hx q=>?_;subst zz2;cases rx;refine q1x3 (I.list hx) λits r ht hz=>?_;have hlen:=r.length;refine⟨"list",_,slot_list_getitem.lookup,ht.isList.typeIs,?_⟩;refine wpAny_getItem_list_slice ht.isList hs pl pu .none (by simp) ?_ (by rw[size_toArray] <;> omega);rw[nh,<-hlen];refine⟨.ref s.heap.objs.size,_,I.laid (t':=s.toks) (o:=.lst (qf xs lo hi)) (λb ob q=>Heap.get?_push_of_some _ q) (Nat.le_refl _) ?_,rfl,q _ (I.hok.fresh (Nat.le_refl _))⟩;exact⟨Nat.le_trans (jU xs lo hi) hz,_,0,(r.drop (HT.sIx xs.length 0 lo)).take (HT.sIx xs.length xs.length hi-HT.sIx xs.length 0 lo),Heap.get?_push_size _ rfl⟩
def fO:V->Bool
 | .non=>true
 | .bl _=>true
 | .int _=>true
 | .str _=>true
 | _=>false
def vc:V->V->Bool
 | .non,.non=>true
 | .bl a,.bl b=>a==b
 | .bl a,.int b=>(if a then 1 else 0)==b
 | .int a,.bl b=>a==(if b then 1 else 0)
 | .int a,.int b=>a==b
 | .str a,.str b=>a==b
 | _,_=>false
def C7 {A:Around}{y x:V}{u v:Value}(ry:aI y u)(rx:aI x v)(fy:fO y=true)(fx:fO x=true):SeqAt.EqAt A s u v (vc y x):=by
 cases y with
 | non=>
  cases ry;cases x with
  | non=>cases rx;exact SeqAt.EqAt.same _
  | bl b=>cases rx;exact SeqAt.EqAt.none_bool b
  | int b=>refine q1x1 rx λt zz1=>?_;subst zz1;exact SeqAt.EqAt.none_int b t
  | str b=>refine q1x1 rx λt zz1=>?_;subst zz1;exact SeqAt.EqAt.none_str b t
  | _=>exact absurd (show false=true from fx) Bool.false_ne_true
 | bl a=>
  cases ry;cases x with
  | non=>cases rx;exact SeqAt.EqAt.bool_none a
  | bl b=>cases rx;exact SeqAt.EqAt.bool_bool a b
  | int b=>refine q1x1 rx λt zz1=>?_;subst zz1;exact SeqAt.EqAt.bool_int a b t
  | str b=>refine q1x1 rx λt zz1=>?_;subst zz1;exact SeqAt.EqAt.bool_str a b t
  | _=>exact absurd (show false=true from fx) Bool.false_ne_true
 | int a=>
  refine q1x1 ry λt' zz1=>?_;subst zz1;cases x with
  | non=>cases rx;exact SeqAt.EqAt.int_none a t'
  | bl b=>cases rx;exact SeqAt.EqAt.int_bool a t' b
  | int b=>refine q1x1 rx λt zz1=>?_;subst zz1;exact SeqAt.EqAt.int_int a t' b t
  | str b=>refine q1x1 rx λt zz1=>?_;subst zz1;exact SeqAt.EqAt.int_str a t' b t
  | _=>exact absurd (show false=true from fx) Bool.false_ne_true
 | str a=>
  refine q1x1 ry λt' zz1=>?_;subst zz1;cases x with
  | non=>cases rx;exact SeqAt.EqAt.str_none a t'
  | bl b=>cases rx;exact SeqAt.EqAt.str_bool a t' b
  | int b=>refine q1x1 rx λt zz1=>?_;subst zz1;exact SeqAt.EqAt.str_int a t' b t
  | str b=>refine q1x1 rx λt zz1=>?_;subst zz1;exact SeqAt.EqAt.str_str a t' b t
  | _=>exact absurd (show false=true from fx) Bool.false_ne_true
 | _=>exact absurd (show false=true from fy) Bool.false_ne_true
def yD (x:V)(u:Value):Bool:=match u with
 | .none=>vc .non x
 | .bool b=>vc (.bl b) x
 | .int i _=>vc (.int i) x
 | .str z _=>vc (.str z) x
 | _=>false
def rX {x y:V}{u:Value}(r:aI y u)(f:fO y=true):yD x u=vc y x:=by
 cases y with
 | non=>cases r;rfl
 | bl b=>cases r;rfl
 | int i=>refine q1x1 r λt zz1=>?_;subst zz1;rfl
 | str z=>refine q1x1 r λt zz1=>?_;subst zz1;rfl
 | _=>exact absurd (show false=true from f) Bool.false_ne_true
theorem oR {x:V}:∀{xs:List V} {us:List Value},aJ xs us->xs.all fO=true->us.any (yD x)=xs.any λy=>vc y x
 | _,_,.nil,_=>rfl
 | y::xs,u::us,.cons r t,f=>by
  rw[all_cons,Bool.and_eq_true] at f;rw[any_cons,any_cons,rX r f.1,oR t f.2]
theorem i8 {A:Around}{s:Shared}{x:V}{v:Value}(rx:aI x v)(fx:fO x=true):∀{xs:List V} {us:List Value},aJ xs us->xs.all fO=true->∀u∈us,SeqAt.EqAt A s u v (yD x u)
 | _,_,.nil,_=>λu hu=>by cases hu
 | y::xs,u::us,.cons r t,f=>λu' hu=>by
  rw[all_cons,Bool.and_eq_true] at f;rcases mem_cons.mp hu with rfl|hu
  ·rw[rX r f.1];exact C7 r rx f.1 fx
  ·exact i8 rx fx t f.2 u' hu
def Hh (x:V)(xs:List V):Bool:=xs.any λy=>vc y x
def Jl (K:W.Frag)(neg:Bool):R2:=λx y H Q=>∃p xs,y=.ref p/\(jt K H p xs\/oo K H p xs)/\fO x=true/\xs.all fO=true/\Q (.bl (if neg then !Hh x xs else Hh x xs)) H
def wa:fN X (compareOp .In) (Jl X.K false):=by
 intro aa s σ H x y v u Q I rx ry h;refine q2x5 h λp xs zz2 hq fx fs q=>?_;subst zz2;cases ry;rcases hq with hq|hq
 ·refine q1x3 (I.list hq) λits r pl hz=>?_;refine SeqAt.in_listAt (yD x) pl.isList (λw hw=>i8 rx fx r fs w (by simpa using hw)) ⟨.bl _,H,I,rfl,?_⟩;rw[show its.toArray.any (yD x)=its.any (yD x) by simp,oR r fs];exact q
 ·refine q1x3 (I.tuple hq) λits r pl hz=>?_;refine SeqAt.in_tupleAt (yD x) pl (λw hw=>i8 rx fx r fs w (by simpa using hw)) ⟨.bl _,H,I,rfl,?_⟩;rw[show its.toArray.any (yD x)=its.any (yD x) by simp,oR r fs];exact q
def oH:cG X (.builtin "len") (λxs H Q=>∃p ys,xs=[.ref p]/\(jt X.K H p ys\/oo X.K H p ys)/\Q (.int ys.length) H):=by
 intro aa s σ H xs us Q I r h;refine q2x3 h λp ys zz2 hq q=>?_;subst zz2;refine q1x2 (iI r) λu zz1 rx=>?_;subst zz1;cases rx;have hn:=jD;rcases hq with hq|hq
 ·refine q1x3 (I.list hq) λits r' pl hz=>?_;have hlen:=r'.length;exact Calls.call_len_list pl.isList (by simp only[size_toArray] <;> omega) ⟨.int ys.length,H,I.tok _,⟨s.toks+1,by rw[size_toArray,hlen]⟩,q⟩
 ·refine q1x3 (I.tuple hq) λits r' pl hz=>?_;have hlen:=r'.length;exact len_tuple pl (by simp only[size_toArray] <;> omega) ⟨.int ys.length,H,I.tok _,⟨s.toks+1,by rw[size_toArray,hlen]⟩,q⟩
def oK:cG X (.builtin "len") (λxs H Q=>∃z,xs=[.str z]/\z.length<=sizeLine/\Q (.int z.length) H):=by
 intro aa s σ H xs us Q I r h;refine q1x3 h λz zz1 hz q=>?_;subst zz1;obtain⟨u,rfl,t,rfl⟩:=iI r;have hn:=jD;exact len_str (by omega) ⟨.int z.length,H,I.tok _,⟨_,rfl⟩,q⟩
def js:cG X (.type "list") (λxs H Q=>∃p ys,xs=[.ref p]/\(jt X.K H p ys\/oo X.K H p ys)/\∀l,H l=Y->Q (.ref l) (bu H l (.lst ys))):=by
 intro aa s σ H xs us Q I r h;refine q2x3 h λp ys zz2 hq q=>?_;subst zz2;refine q1x2 (iI r) λu zz1 rx=>?_;subst zz1;cases rx;have fin:∀(its:List Value),aJ ys its->ys.length<=sizeLine->∀(h':Heap) (c':Nat),(∀b o',s.heap.get? b=Z o'->h'.get? b=Z o')->
   h'.get? s.heap.objs.size=Z {cls:=.type "list",dict:=Y,data:=.seq its.toArray c',slots:=#[]}->EP X aa σ Q (.ref s.heap.objs.size) {s with heap:=h'}:=λits r' hz h' c' kp e=>
  ⟨.ref s.heap.objs.size,_,I.laid (t':=s.toks) kp (Nat.le_refl _) (show bB X.prog X.w _ h' _ (.lst ys) from⟨hz,its,c',r',e⟩),rfl,q _ (I.hok.fresh (Nat.le_refl _))⟩
 rcases hq with hq|hq
 ·refine q1x3 (I.list hq) λits r' pl hz=>?_;have hlen:=r'.length;obtain⟨o,ho,hc,n,hd⟩:=pl.isList;exact call_list_seq p (.inl rfl) ho hc hd (λh' c' kp e=>fin its r' hz h' c' kp e) (by simp only[size_toArray] <;> omega)
 ·refine q1x3 (I.tuple hq) λits r' pl hz=>?_;have hlen:=r'.length;obtain⟨o,ho,hc,n,hd⟩:=pl;exact call_list_seq p (.inr rfl) ho hc hd (λh' c' kp e=>fin its r' hz h' c' kp e) (by simp only[size_toArray] <;> omega)
def dP:cG X (.type "tuple") (λxs H Q=>∃p ys,xs=[.ref p]/\((jt X.K H p ys/\∀l,H l=Y->Q (.ref l) (bu H l (.tup ys)))\/(oo X.K H p ys/\Q (.ref p) H))):=by
 intro aa s σ H xs us Q I r h;obtain⟨p,ys,rfl,h⟩:=h;obtain⟨u,rfl,rx⟩:=iI r;cases rx;rcases h with⟨hq,q⟩|⟨hq,q⟩
 ·obtain⟨its,r',pl,hz⟩:=I.list hq;have hlen:=r'.length;refine call_tuple_list pl.isList (λh' kp=>?_) (by simp only[size_toArray] <;> omega);have I1:Inv X aa σ H {s with heap:=h'}:=I.kept (t':=s.toks) kp;have I2:Inv X aa σ (bu H h'.objs.size (.tup ys)) {s with heap:=h'.push {cls:=.type "tuple",data:=.seq its.toArray}}:=
   I1.laid (t':=s.toks) (λb o e=>Heap.get?_push_of_some _ e) (Nat.le_refl _) (show bB X.prog X.w _ _ _ (.tup ys) from⟨hz,its,r',IsTup.new _ _⟩)
  exact⟨.ref h'.objs.size,_,I2,rfl,q _ (I1.hok.fresh (Nat.le_refl _))⟩
 ·obtain⟨its,r',pl,hz⟩:=I.tuple hq;exact call_tuple_same pl ⟨.ref p,H,I,rfl,q⟩
def Jh (K:W.Frag)(T:String)(x:V)(H:Hp):Prop:=match x with
 | .str _=>T="str"
 | .int _=>T="int"
 | .ref p=>(T="list"/\∃xs,jt K H p xs)\/(T="tuple"/\∃o,K.lookup p=Z o/\o.cls=.type "tuple"/\o.dict=Y)\/
   (T="dict"/\((∃kvs,H p=Z (.dK kvs))\/∃kvs,H p=Z (.dT kvs)))\/(T="set"/\∃S n,H p=Z (.set S n))
 | _=>False
def CS {T:String}{x:V}{v:Value}(I:Inv X aa σ H s)(r:aI x v)(ty:Jh X.K T x H) :
  s.TypeIs v T/\∀a,v=.ref a->∃ob,s.heap.get? a=Z ob/\ob.dict=Y:=by
 cases x with
 | str z=>
  refine q1x1 r λt zz1=>?_;subst zz1;cases (show T="str" from ty);exact⟨typeIs_str s z t,λ_ e=>nomatch e⟩
 | int i=>
  refine q1x1 r λt zz1=>?_;subst zz1;cases (show T="int" from ty);exact⟨typeIs_int s i t,λ_ e=>nomatch e⟩
 | ref p=>
  cases r;rcases ty with⟨rfl,xs,hq⟩|⟨rfl,o,hk,hc,hd⟩|⟨rfl,hk⟩|⟨rfl,S,n,hk⟩
  ·refine q1x3 (I.list hq) λits _ pl _=>?_;refine⟨pl.isList.typeIs,λa e=>?_⟩;cases e;refine q2x4 pl λo n e c hd _=>?_;exact⟨o,e,hd⟩
  ·refine⟨⟨o,I.kIn p o hk,hc⟩,λa e=>?_⟩;cases e;exact⟨o,I.kIn _ o hk,hd⟩
  ·have z:∃o,s.heap.get? p=Z o/\o.ExactDict:=by
    rcases hk with⟨kvs,hk⟩|⟨kvs,hk⟩
    ·obtain⟨_,_,_,_,o,_,_,e,ex,_⟩:=I.hok p _ hk;exact⟨o,e,ex⟩
    ·obtain⟨_,_,_,_,o,_,_,e,ex,_⟩:=I.hok p _ hk;exact⟨o,e,ex⟩
   refine q1x2 z λo e ex=>?_;refine⟨⟨o,e,ex.1⟩,λa e2=>?_⟩;cases e2;exact⟨o,e,ex.2.1⟩
  ·refine q4x3 (I.hok p _ hk) λo _ _ _ e ex _=>?_;refine⟨⟨o,e,ex.1⟩,λa e2=>?_⟩;cases e2;exact⟨o,e,ex.2.1⟩
 | _=>exact False.elim ty
def Je (K:W.Frag)(T:String)(r:V->List V->Hp->VK->Prop)(to:TE)(t:TA):TE:=λσ H Q=>to σ H λx H1=>Jh K T x H1/\t σ H1 λxs H2=>r x xs H2 Q
variable {o e:Expr}{es:List Expr}{to:TE}{t:TA}{name:Str}{apos cpos:Pos}{T id:String}{r:V->List V->Hp->VK->Prop}
def BO (pa:PlainAttrs T)(slot:Slot T name id)(hty:typeOf (.builtin id)=pure (.type "method_descriptor"))(hm:Ji X id r)(ho:PE X o to)(ha:PA X (e::es) t)
  (hbase:attributeBase o name X.env (eval o X.env)=eval o X.env:=by rfl)
  (hfew:((backTo cpos (starEach (e::es) X.env)).all (λx=>!x.1)&&(backToKw cpos (keywordEach [] X.env)).all (λx=>x.1.isSome)
   && decide ((e::es).length+([]:List Keyword).length+(if([]:List Keyword).isEmpty then 0 else 1)<30))=true:=by rfl)
  (hline:(apos.endLine==cpos.line)=true:=by rfl) (hs:starEach (e::es) X.env=(false,eval e X.env)::starEach es X.env:=by rfl) (hplain:(backTo cpos (starEach es X.env)).any (·.1)=false:=by rfl) :
  PE X (.Call (.Attribute o name apos) (e::es) [] cpos) (Je X.K T r to t):=by
 intro aa s σ H Q I h;refine wpAny_Call_method_late hbase hfew hline rfl (bM (ho aa s σ H _ I h) λv s1 hxx=>?_);refine q2x4 hxx λx H1 I1 r1 ty q1=>?_;refine q0x2 (CS I1 r1 ty) λh1 h2=>?_;refine⟨T,id,pa,slot,hty,h1,h2,?_⟩;have hA:=ha cpos aa s1 σ H1 _ I1 q1;rw[hs] at hA ⊢;refine Calls.callWith_builtin (by show(false||(backTo cpos (starEach es X.env)).any (·.1))=false;rw[hplain] <;> rfl) (Calls.evalArgs_plain ?_);exact bM hA λus s2 ⟨vs,H2,I2,r2,q2⟩=>hm aa s2 σ H2 x vs v us Q I2 r1 r2 q2
end
def Js (X:Cx)(id:String)(r:V->List V->Hp->VK->Prop):Prop:=
 ∀(aa:List (Addr×Obj)) (s:Shared) (σ:St) (H:Hp) (x:V) (xs:List V) (v:Value) (us:List Value) (Q:VK),Inv X aa σ H s->aI x v->aJ xs us->r x xs H Q->
  wpAny (model X.prog X.w) X.A (call (.builtin id) (v::us)) (EP X aa σ Q) X.xe s
theorem aJ.one:∀{x:V} {us:List Value},aJ [x] us->∃u,us=[u]/\aI x u
 | _,_,.cons r .nil=>⟨_,rfl,r⟩
section
variable {X:Cx}{aa:List (Addr×Obj)}{σ:St}{H:Hp}{s:Shared}{l b:Addr}{xs ys zs:List V}
def Inv.lset {its its':List Value}{n:Nat}{f:Array Value->Array Value}{t':Nat}(I:Inv X aa σ H s)(hH:H l=Z (.lst xs))
  (e:s.heap.get? l=Z {cls:=.type "list",data:=.seq its.toArray n}) (hf:f its.toArray=its'.toArray) (hv:aJ ys its') (hz:ys.length<=sizeLine) :
  Inv X aa σ (bu H l (.lst ys)) {s with heap:=s.heap.update l (Obj.mapSeq f),toks:=t'}:=by
 have q:=PySem.IsL.update e f;rw[hf] at q;refine I.write (x:=l) (e:=l) (by rw[hH];exact trivial) (.inl rfl) (λb' u hb hu=>(Heap.get?_update_other s.heap (Obj.mapSeq f) (Ne.symm hb)).trans hu) ⟨_,q⟩ ?_;exact⟨hz,its',_,hv,q⟩
def Inv.lnew {its:List Value}{t':Nat}(I:Inv X aa σ H s)(hv:aJ ys its)(hz:ys.length<=sizeLine) :
  Inv X aa σ (bu H s.heap.objs.size (.lst ys)) {s with heap:=s.heap.push {cls:=.type "list",data:=.seq its.toArray},toks:=t'}:=
 I.laid (λ_ _ q=>Heap.get?_push_of_some _ q) (Nat.le_refl _) ⟨hz,its,0,hv,Heap.get?_push_size _ rfl⟩
def Inv.fresh (I:Inv X aa σ H s):H s.heap.objs.size=Y:=I.hok.fresh (Nat.le_refl _)
def Inv.lstM (I:Inv X aa σ H s)(hH:H l=Z (.lst xs)):xs.length<=sizeLine/\∃(its:List Value) (n:Nat),aJ xs its/\xs.length=its.length/\s.heap.get? l=Z {cls:=.type "list",data:=.seq its.toArray n}:=by
 obtain⟨z,its,n,r,e⟩:=I.hok l _ hH;exact⟨z,its,n,r,r.length,e⟩
def yK {n:Nat}(h:n<=sizeLine):Builtin.List.listTooLong n=false:=by
 unfold Builtin.List.listTooLong;exact decide_eq_false (by omega)
end
section
variable {X:Cx}
def AE:V->List V->Hp->VK->Prop:=λx vs H Q=>∃l xs y,x=.ref l/\vs=[y]/\H l=Z (.lst xs)/\xs.length<sizeLine/\Q .non (bu H l (.lst (xs++[y])))
def vM:Js X "list.append" AE:=by
 intro aa s σ H x vs v us Q I rx rv h;obtain⟨l,xs,y,rfl,rfl,hH,hz,q⟩:=h;cases rx;refine q1x2 rv.one λu zz1 ru=>?_;subst zz1;obtain⟨z,its,n,r,hl,e⟩:=I.lstM hH;refine call_meets F.slot_list_append ⟨_,e,rfl⟩ F.entry_list_append (F.args_list_append_2 _ _) (PySem.list_append l its.toArray n u (by rw[size_toArray];omega)) ⟨e,?_⟩;refine⟨.non,_,I.lset (its':=its++[u]) hH e (by simp) (r.append (.cons ru .nil)) ?_,rfl,q⟩;rw[length_append,length_singleton];omega
def ID:R2:=λx y H Q=>∃l b xs zs,x=.ref l/\y=.ref b/\H l=Z (.lst xs)/\H b=Z (.lst zs)/\xs.length+zs.length<=sizeLine/\∀p,H p=Y->Q (.ref p) (bu H p (.lst (xs++zs)))
def Dl:fN X (binaryOp .Add) ID:=by
 intro aa s σ H x y v u Q I rx ry h;obtain⟨l,b,xs,zs,rfl,rfl,hH,hB,hz,q⟩:=h;cases rx;cases ry;obtain⟨z,its,n,r,hl,e⟩:=I.lstM hH;obtain⟨z2,its2,n2,r2,hl2,e2⟩:=I.lstM hB;refine PySem.P.add_list e e2 ?_ (by rw[size_toArray,size_toArray];omega);have ea:its.toArray++its2.toArray=(its++its2).toArray:=by simp
 rw[ea];exact⟨.ref _,_,I.lnew (t':=s.toks) (r.append r2) (by rw[length_append];omega),rfl,q _ I.fresh⟩
end
end L2
namespace Att
open PySem PySem.W PySem.Calls PyProof.Rows
variable{P:Params}
def ko {h:Heap}:∀(ns:List Int) (vs:List Value),WellAll P h vs (ns.map WData.int)->IntsAre vs ns:=by
 intro ns
 induction ns with
 | nil=>
  intro vs w;rw[List.map_nil] at w;cases w;exact .nil
 | cons n ns ih=>
  intro vs w;rw[List.map_cons] at w;cases w with
  | cons a b=>
   cases a;exact .cons _ _ (ih _ b)
variable{l:OpenLaw}
def wk {n:Nat}(hn:l.most=Z n){h:Heap}{args:List WData}{vals:List Value}
  (hpre:l.row.toRowW.claim.pre args=true) (hwl:WellAll P h vals args) :
  ∃a vs ns,vals=[Value.ref a]/\args=[WData.list (ns.map WData.int)]/\h.get? a=Z {cls:=.type "list",data:=.seq vs.toArray}/\IntsAre vs ns/\ns.length<=n:=by
 have hsh:WShape.hasAll [] args [.list .int]=true:=(pre_splitW hpre).1;have hc:l.pre.holds [] {args:=args}=true:=(pre_splitW hpre).2;refine q2x3 (hasAllW_cons hsh) λd r zz2 h1 h2=>?_;subst zz2;obtain rfl:=hasAllW_nil h2;refine q1x2 (hasW_list h1) λxs zz1 h3=>?_;subst zz1;refine q1x1 (items_int h3) λns zz1=>?_;subst zz1;have hlen:ns.length<=n:=by
  unfold OpenLaw.pre at hc;have h4:(WTm.not (.lt (.lit (.int (n:Int))) (.len (.arg 0)))).holds [] {args:=[.list (ns.map .int)]}=true:=by
   have h4:=(holds_andW hc).1;rw[hn] at h4;exact h4
  have h5:=condW_of h4 (w_not (w_lt w_lit (w_len_list (w_arg rfl))));rw[List.length_map] at h5;refine Nat.le_of_not_lt λq=>?_
  have q':(n:Int)<((ns.length:Nat):Int):=by omega
  first
   | (rw[decide_eq_true q'] at h5;exact absurd h5 (by decide))
   | (simp at h5;omega)
 cases hwl with
 | cons w1 w2=>
  cases w2;cases w1 with
  | list ho hall=>exact⟨_,_,ns,rfl,rfl,ho,ko ns _ hall,hlen⟩
def vN (l:OpenLaw)(args:List WData):l.row.toRowW.claim.post args (.bool true) args=true:=
 postW_of (r:=l.row.toRowW) (X:=(true==true))
  (show WShape.has [] (.bool true) .bool=true by first|rfl|decide|simp[WShape.has,WShape.arms,WShape.armsAll])
  (show(WTm.eq .res (.lit (.bool true))).value [] {args:=args,res:=Z (.bool true),after:=args}=Z (.bool (true==true)) from w_eq_bool (w_res rfl) w_lit) rfl
def attach_call {n:Nat}{q:Program}{loose:List Str}{XP:(Str->Option Value)->Heap->Prop}{YP:World->Heap->Prop}{d:DefRec}
  (hn:l.most=Z n) (hdf:d.params.defaults=[])
  (call:∀(w:World) (s₀ s₁:Shared) (mg mb:Str->Option Value) (fa:Addr) (o:Obj) (pm cd doc:Value) (a:Addr) (vs:List Value) (ns:List Int),
   Ground q loose [] XP w s₀ mg mb s₁.heap->YP w s₁.heap->
   s₁.heap.get? fa=Z o->o.data=.func (docDef d.name d.params d.body d.scope pm cd doc)->s₁.heap.CodeRec cd d.name->mg d.name=Z (.ref fa)->
   s₁.heap.get? a=Z {cls:=.type "list",data:=.seq vs.toArray}->IntsAre vs ns->ns.length<=n->s₁.gens=#[]->
   codeAny (model l.prog w) callerA (.call (.ref fa) ⟨[.ref a],[]⟩) (λr s'=>r=.ok (.ret (.bool true))/\OldK s₁.heap s'.heap/\s'.os=s₁.os/\AllBare s'.gens) s₁) :
  WalkO q loose XP YP l.row.toRowW d [] (λf vs=>PySem.call f vs):=by
 intro w s₀ s₁ mg mb G Y fa o pm cd doc dV kV ho hd hcd hD hmg hg args vals as hpre hlay hrd hwl hlo;obtain rfl:dV=.none:=Dflts.none hD hdf;obtain rfl:kV=.none:=Dflts.noKw hD;obtain⟨a,vs,ns,rfl,rfl,hobj,hints,hlen⟩:=wk hn hpre hwl;refine enter_call (codeAny_mono (call w s₀ s₁ mg mb fa o pm cd doc a vs ns G Y ho (fd_plain hd) hcd hmg hobj hints hlen hg) λr s' hq=>?_);refine q0x4 hq λzz0 h2 h3 h4=>?_;subst zz0;exact⟨.inl ⟨.bool true,.bool true,[],rfl,λ_=>rfl,.bool true,vN l _,λ_=>⟨List.Pairwise.nil,λ_ hm=>(nomatch hm)⟩⟩,h2,h3,h4⟩
end Att
namespace L2
open PySem PySem.Spec PyProof.Rows List
theorem nC:∀{vs:List Value} {ns:List Int},IntsAre vs ns->aJ (ns.map V.int) vs
 | _,_,.nil=>.nil
 | _,_,.cons n t h=>.cons ⟨t,rfl⟩ (nC h)
def eC (s:Stmt):Arguments:=match s with
 | .FunctionDef _ a _ _ _ _ _ _ _ _=>a
 | _=>{posonlyargs:=[],args:=[],vararg:=Y,kwonlyargs:=[],kw_defaults:=[],kwarg:=Y,defaults:=[]}
def bV (s:Stmt):List Stmt:=match s with
 | .FunctionDef _ _ b _ _ _ _ _ _ _=>b
 | _=>[]
def aD (s:Stmt):Scope:=match s with
 | .FunctionDef _ _ _ _ _ _ sc _ _ _=>sc
 | _=>{kind:=.function,names:=[],isGenerator:=false,isCoroutine:=false}
structure Ac (K:W.Frag)(x qual:Str)(st:Stmt)(f:Addr)(fd:FuncData):Prop where
 ex:∃(oc:Value) (od:Option Addr) (kV doc pm:Value) (an:Option Addr) (cdv ct:Value) (osl:Array (Option Value)),
  fd=W.fnOf x qual (eC st) (bV st) (aD st) .none kV doc pm an cdv ct/\K.lookup f=Z ⟨oc,od,.func fd,osl⟩/\W.codeIn K cdv qual=true
 kp:W.keepIn K (.ref f)=true
section
variable {P:Program}{w:World}{K:W.Frag}{mg:Str->Option Value}{base:Heap}
def Ac.binds {x qual:Str}{st:Stmt}{f:Addr}{fd:FuncData}{ps:List Str}(F:Ac K x qual st f fd)
  (h:∀(kV doc pm:Value) (an:Option Addr) (cdv ct:Value) (us:List Value),us.length=ps.length->bindArgs (W.fnOf x qual (eC st) (bV st) (aD st) .none kV doc pm an cdv ct) ⟨us,[]⟩=pure (ps.zip us)):ik K fd ps []:=by
 refine q9x3 F.ex λoc od kV doc pm an cdv ct osl zz9 lk hcd=>?_;subst zz9;exact .all (h kV doc pm an cdv ct)
def o9 {x qual:Str}{st:Stmt}{f:Addr}{oc:Value}{od an:Option Addr}{osl:Array (Option Value)}{kV doc pm cdv ct:Value}(l:K.lookup f=Z ⟨oc,od,.func (W.fnOf x qual (eC st) (bV st) (aD st) .none kV doc pm an cdv ct),osl⟩)
  (c:W.codeIn K cdv qual=true) (k:W.keepIn K (.ref f)=true):Ac K x qual st f (W.fnOf x qual (eC st) (bV st) (aD st) .none kV doc pm an cdv ct):=⟨⟨oc,od,kV,doc,pm,an,cdv,ct,osl,rfl,l,c⟩,k⟩
end
variable{A:Around}
def BA {k:Nat}(hr:bJ k A):A.units+1<cLine:=Nat.lt_of_le_of_lt (Nat.add_le_add_left (by decide:1<=64) _) hr.units
variable{o:Option V}{y:V}{u:Value}
section
variable {κ:Type}[DecidableEq κ]
def iD (kvs:List (κ×V))(k:κ):Option V:=(kvs.find? λkv=>decide (kv.1=k)).map (·.2)
def kr (kvs:List (κ×V))(k:κ)(v:V):List (κ×V):=
 if(kvs.any λkv=>decide (kv.1=k))=true then kvs.map (λkv=>if kv.1=k then(kv.1,v) else kv) else kvs++[(k,v)]
def jk {p:κ×V}{r:List (κ×V)}{k:κ}(e:p.1=k):iD (p::r) k=Z p.2:=by simp[iD,find?_cons,e]
def jg {p:κ×V}{r:List (κ×V)}{k:κ}(e:¬p.1=k):iD (p::r) k=iD r k:=by simp[iD,find?_cons,e]
theorem lC (k:κ):∀kvs:List (κ×V),(kvs.any λkv=>decide (kv.1=k))=(iD kvs k).isSome
 | []=>rfl
 | p::r=>by
  rw[any_cons]
  by_cases e:p.1=k
  ·simp only[jk e,decide_eq_true e,Bool.true_or,Option.isSome_some]
  ·rw[jg e,decide_eq_false e,Bool.false_or];exact lC k r
def j4 (kvs:List (κ×V))(k:κ)(v:V):(kr kvs k v).length<=kvs.length+1:=by
 unfold kr;split
 ·rw[length_map];omega
 ·rw[length_append,length_cons,length_nil];omega
def qj {kvs:List (κ×V)}{k:κ}(v:V)(h:iD kvs k=Y):kr kvs k v=kvs++[(k,v)]:=by
 unfold kr;rw[lC,h];exact if_neg (by decide)
def iG.isSome_eq {u:Option Value}(r:iG o u):o.isSome=u.isSome:=by
 cases o with
 | none=>cases u with
  | none=>rfl
  | some _=>exact(show False from r).elim
 | some _=>cases u with
  | none=>exact(show False from r).elim
  | some _=>rfl
def KV.val {kvs:List (κ×V)}{vs:List (κ×Value)}(r:KV kvs vs)(k:κ):iG (iD kvs k) (valueAt vs k):=by
 unfold KV at r
 induction r with
 | nil=>exact True.intro
 | @cons p q ps qs h t ih=>
  refine q0x2 h λh1 h2=>?_
  by_cases e:p.1=k
  ·have e':q.1=k:=h1.symm.trans e;have b:valueAt (q::qs) k=Z q.2:=by simp[valueAt,find?_cons,e']
   rw[jk e,b];exact h2
  ·have e':¬q.1=k:=λz=>e (h1.trans z)
   have b:valueAt (q::qs) k=valueAt qs k:=by simp[valueAt,find?_cons,e']
   rw[jg e,b];exact ih
def KV.any {kvs:List (κ×V)}{vs:List (κ×Value)}(r:KV kvs vs)(k:κ):(kvs.any λkv=>decide (kv.1=k))=vs.any λkv=>decide (kv.1=k):=by
 unfold KV at r
 induction r with
 | nil=>rfl
 | cons h t ih=>rw[any_cons,any_cons,ih,h.1]
def KV.repl {kvs:List (κ×V)}{vs:List (κ×Value)}(r:KV kvs vs)(k:κ)(ry:aI y u) :
  KV (kvs.map λkv=>if kv.1=k then(kv.1,y) else kv) (vs.map λkv=>if kv.1=k then(kv.1,u) else kv):=by
 unfold KV at r ⊢
 induction r with
 | nil=>exact .nil
 | @cons p q ps qs h t ih=>
  rw[map_cons,map_cons];refine .cons ?_ ih;refine q0x2 h λh1 h2=>?_
  by_cases e:p.1=k
  ·rw[if_pos e,if_pos (h1.symm.trans e)];exact⟨h1,ry⟩
  ·rw[if_neg e,if_neg (λz=>e (h1.trans z))];exact⟨h1,h2⟩
def KV.put {kvs:List (κ×V)}{vs:List (κ×Value)}(r:KV kvs vs)(k:κ)(ry:aI y u):KV (kr kvs k y) (stored vs k u):=by
 unfold kr stored;rw[r.any k]
 by_cases e:(vs.any λkv=>decide (kv.1=k))=true
 ·rw[if_pos e,if_pos e];exact r.repl k ry
 ·rw[if_neg e,if_neg e];exact Paired.snoc r ⟨rfl,ry⟩
def KV.keys {kvs:List (κ×V)}{vs:List (κ×Value)}(r:KV kvs vs):kvs.map (·.1)=vs.map (·.1):=by
 unfold KV at r
 induction r with
 | nil=>rfl
 | cons h t ih=>rw[map_cons,map_cons,ih,h.1]
def KV.length {kvs:List (κ×V)}{vs:List (κ×Value)}(r:KV kvs vs):kvs.length=vs.length:=Paired.length r
end
variable{P:Program}{w:World}
def uO {k:cr}(r:aI (kV k) u):(aS P w).is k u=true:=by
 cases k with
 | inl i=>refine q1x1 ((show∃t,u=Value.int i t from r)) λt e=>?_;subst e;exact pL P w i t
 | inr x=>refine q1x1 ((show∃t,u=Value.str x t from r)) λt e=>?_;subst e;exact qt P w x t
theorem nI {P:Program}{w:World}:∀{ks:List cr} {us:List Value},aJ (ks.map kV) us->ItemsAre (aS P w) ks us
 | [],_,r=>by rw[map_nil] at r;cases r;exact .nil
 | k::ks,_,r=>by
  rw[map_cons] at r;cases r with
  | cons h t=>exact .cons (uO h) (nI t)
abbrev KT (H:Hp):List (List cr×V)->List (List cr×Addr×Value)->Prop:=Paired λp q=>p.1=q.1/\H q.2.1=Z (.tup (p.1.map kV))/\aI p.2 q.2.2
variable{H:Hp}{kvs:List (List cr×V)}{xs:List (List cr×Addr×Value)}
def KT.val (r:KT H kvs xs)(k:List cr):iG (iD kvs k) ((atKey xs k).map (·.2)):=by
 induction r with
 | nil=>exact True.intro
 | @cons p q ps qs h t ih=>
  refine q0x3 h λh1 _ h2=>?_
  by_cases e:p.1=k
  ·have e':q.1=k:=h1.symm.trans e;have b:atKey (q::qs) k=Z q.2:=by simp[atKey,find?_cons,e']
   rw[jk e,b];exact h2
  ·have e':¬q.1=k:=λz=>e (h1.trans z)
   have b:atKey (q::qs) k=atKey qs k:=by simp[atKey,find?_cons,e']
   rw[jg e,b];exact ih
def KT.repl (r:KT H kvs xs)(k:List cr)(ry:aI y u) :
  KT H (kvs.map λkv=>if kv.1=k then(kv.1,y) else kv) (xs.map (putAt k u)):=by
 induction r with
 | nil=>exact .nil
 | @cons p q ps qs h t ih=>
  rw[map_cons,map_cons];refine .cons ?_ ih;refine q0x3 h λh1 h2 h3=>?_;unfold putAt
  by_cases e:p.1=k
  ·rw[if_pos e,if_pos (h1.symm.trans e)];exact⟨h1,h2,ry⟩
  ·rw[if_neg e,if_neg (λz=>e (h1.trans z))];exact⟨h1,h2,h3⟩
def KT.put (r:KT H kvs xs)(k:List cr){b:Addr}(hb:H b=Z (.tup (k.map kV)))(ry:aI y u) :
  KT H (kr kvs k y) (storedH xs k b u):=by
 have e:(kvs.any λkv=>decide (kv.1=k))=(atKey xs k).isSome:=by
  rw[lC,(r.val k).isSome_eq,Option.isSome_map]
 unfold kr storedH;rw[e]
 by_cases q:(atKey xs k).isSome=true
 ·rw[if_pos q,if_pos q];exact r.repl k ry
 ·rw[if_neg q,if_neg q];exact Paired.snoc r ⟨rfl,hb,ry⟩
def KT.keeps {H':Hp}(r:KT H kvs xs)(ht:∀b ys,H b=Z (.tup ys)->H' b=Z (.tup ys)):KT H' kvs xs:=
 Paired.mapP r λ_ _ z=>⟨z.1,ht _ _ z.2.1,z.2.2⟩
section
variable {P:Program}{w:World}{H:Hp}{h:Heap}{a:Addr}
def BK {u:HO}(ok:hO P w H h)(e:Rd H a u):bB P w H h a u:=e.ok ok
def rF {kvs:List (cr×V)}(ok:hO P w H h)(e:Rd H a (.dK kvs)):kvs.length<=sizeLine/\(a==sysModules)=false/\∃vs,KV kvs vs/\h.DictOf (aS P w) a vs:=
 show bB P w H h a (.dK kvs) from BK ok e
def Gs {kvs:List (cr×V)}(ok:hO P w H h)(e:H a=Z (.dK kvs)):kvs.length<=sizeLine/\(a==sysModules)=false/\∃vs,KV kvs vs/\h.DictOf (aS P w) a vs:=rF ok (.inl e)
def o4 {ks:List cr}(ok:hO P w H h)(e:H a=Z (.tup (ks.map kV))):(tupleKind (aS P w)).is h ks a:=by
 obtain⟨_,its,r,o,h1,h2,n,h3⟩:=(show bB P w H h a (.tup (ks.map kV)) from ok a _ e);exact⟨o,its.toArray,n,h1,h2,h3,by simpa using nI r⟩
def re (ok:hO P w H h)(e:Rd H a (.dT kvs)):kvs.length<=sizeLine/\(a==sysModules)=false/\
  ∃xs,KT H kvs xs/\h.DictOfH (tupleKind (aS P w)) a xs:=by
 obtain⟨z,y,xs,r,o,es,ep,h1,h2,h3,h4,h5⟩:=(show bB P w H h a (.dT kvs) from BK ok e);refine⟨z,y,xs,r,o,es,ep,h1,h2,h3,h4,λx hx=>?_,h5⟩;have all:∀{l:List (List cr×V)} {m:List (List cr×Addr×Value)},KT H l m->∀x∈m,(tupleKind (aS P w)).is h x.1 x.2.1:=by
  intro l m q
  induction q with
  | nil=>intro x hx;exact nomatch hx
  | @cons p q ps qs hq t ih=>
   intro x hx;rcases mem_cons.mp hx with e|hx
   ·subst e;exact o4 ok (by rw[<-hq.1];exact hq.2.1)
   ·exact ih x hx
 exact all r x hx
def E6 (ok:hO P w H h)(e:H a=Z (.dT kvs)):kvs.length<=sizeLine/\(a==sysModules)=false/\
  ∃xs,KT H kvs xs/\h.DictOfH (tupleKind (aS P w)) a xs:=re ok (.inl e)
end
def rV (H:Hp)(a:Addr)(y:V)(r:Option V):Prop:=
 (∃kvs k,Rd H a (.dK kvs)/\y=kV k/\r=iD kvs k)\/∃kvs k b,Rd H a (.dT kvs)/\y=.ref b/\H b=Z (.tup (k.map kV))/\r=iD kvs k
theorem rV.k {H:Hp}{a:Addr}{kvs:List (cr×V)}{k:cr}(e:H a=Z (.dK kvs)):rV H a (kV k) (iD kvs k):=.inl ⟨kvs,k,.inl e,rfl,rfl⟩
variable{Q:Value->Shared->Prop}
section
variable {X:Cx}{aa:List (Addr×Obj)}{σ:St}{H:Hp}{s:Shared}{a:Addr}{y v:V}{u r:Value}{o:Option V}{A:Around}{E:Value->Shared->Prop}
def Inv.big (I:Inv X aa σ H s):sysModules<s.heap.objs.size:=by
 have h:mainGlobals<s.heap.objs.size:=(I.mod.glob.keeps I.bk).lt;exact Nat.lt_trans (by decide) h
def vI (hu:A.units+1<cLine)(I:Inv X aa σ H s)(g:rV H a y (Z v))(ry:aI y u)(h:∀w' s',Inv X aa σ H s'->aI v w'->Q w' s') :
  wpAny (model X.prog X.w) A (getItem (.ref a) u) Q E s:=by
 rcases g with⟨kvs,k,e,ey,l⟩|⟨kvs,k,b,e,ey,eb,l⟩
 ·subst ey;obtain⟨z,hd,vs,rel,dd⟩:=rF I.hok e;refine q1x2 (iG.some_of (v:=v) (o:=valueAt vs k) (by rw[l];exact rel.val k)) λw' hw rw'=>?_;exact wpAny_getItem_of (uO ry) dd.mapOf hw (h w' _ (I.tok _) rw')
 ·subst ey;cases (show u=Value.ref b from ry);obtain⟨z,hd,xs,rel,dd⟩:=re I.hok e;refine q1x2 (iG.some_of (v:=v) (o:=(atKey xs k).map (·.2)) (by rw[l];exact rel.val k)) λw' hw rw'=>?_;refine q1x2 (Option.map_eq_some_iff.mp hw) λp hp hp2=>?_;refine wpAny_getItem_heap (tupleKind_room_in1 hu) (o4 I.hok eb) dd hp ?_;rw[hp2];exact h w' _ (I.tok _) rw'
def tR {h':Heap}{t':Nat}{ob:HO}(I:Inv X aa σ H s)(mu:FQ (H a))(hs:Heap.SameBut a s.heap h')(he:∃q,h'.get? a=Z q)(new:bB X.prog X.w (bu H a ob) h' a ob) :
  Inv X aa σ (bu H a ob) {s with heap:=h',toks:=t'}:=
 I.write (x:=a) (e:=a) mu (.inl rfl) (λb q hb z=>(hs.2 b hb).trans z) he new
def Cc {H':Hp}{h':Heap}{kvs:List (cr×V)}{vs:List (cr×Value)}(z:kvs.length<=sizeLine)(hd:(a==sysModules)=false)(rel:KV kvs vs)(dd:h'.DictOf (aS P w) a vs) :
  bB P w H' h' a (.dK kvs):=⟨z,hd,vs,rel,dd⟩
end
def AB (i:Expr):Prop:=∀ov iv,subscripted i false ov iv=operate [ov,iv] (getItem ov iv)
variable{s:Shared}
def Ba {prog:Program}{E:Value->Shared->Prop}{env:Env}{value slice:Expr}{pos:Pos}{T id:String}
  (hl:typeLookup (.type T) "__getitem__"=pure (Z (.builtin id))) (hs:AB slice)
  (h:wpAny (model prog w) A (eval value env) (λo s₁=>wpAny (model prog w) A (eval slice env) (λi s₂=>s₂.TypeIs o T/\wpAny (model prog w) A (getItem o i) Q E s₂) E s₁) E s) :
  wpAny (model prog w) A (eval (.Subscript value slice pos) env) Q E s:=by
 refine Subscript_ (wpAny_mono h (λo s₁ h₁=>wpAny_mono h₁ (λi s₂ h₂=>?_) λ_ _ x=>x) λ_ _ x=>x);refine q0x2 h₂ λhT h₂=>?_;unfold subscriptTail;refine wpAny_bind ?_;rw[getitemInPython_of_ne hT.not_modules];refine wpAny_bind (wpAny_specialOf hT hl ?_);have fin:wpAny (model prog w) A (subscripted slice false o i) (λr s₃=>wpAny (model prog w) A (letTemporaryGo value o r >>= λ_=>pure r) Q E s₃) E s₂:=by
  rw[hs o i];exact wpAny_operating (wpAny_mono h₂ (λr s₃ h₃=>wpAny_bind (wpAny_letTemporaryGo (wpAny_pure h₃))) λ_ _ x=>x)
 first
  | exact wpAny_pure (wpAny_bind fin)
  | exact wpAny_bind (wpAny_pure (wpAny_bind fin))
  | exact wpAny_bind fin
variable{aa:List (Addr×Obj)}
def qH {X:Cx}{σ:St}{a:Addr}(I:Inv X aa σ H s)(g:rV H a y o):s.TypeIs (.ref a) "dict":=by
 rcases g with⟨kvs,k,e,_,_⟩|⟨kvs,k,b,e,_,_,_⟩
 ·obtain⟨_,_,vs,_,dd⟩:=rF I.hok e;exact dd.typeIs
 ·obtain⟨_,_,xs,_,dd⟩:=re I.hok e;exact dd.typeIs
def Fv (td ty:TE):TE:=λσ H Q=>td σ H λx H1=>ty σ H1 λy H2=>∃a v,x=.ref a/\rV H2 a y (Z v)/\Q v H2
section
variable {X:Cx}{o i e value:Expr}{pos pos' tpos:Pos}{td ty tv:TE}
def zx (hu:X.A.units+1<cLine)(ho:PE X o td)(hi:PE X i ty)(hs:AB i):PE X (.Subscript o i pos) (Fv td ty):=by
 intro aa s σ H Q I h;refine Ba PySem.F.slot_dict_getitem.lookup hs (bM (ho aa s σ H _ I h) λu s1 ⟨x,H1,I1,rx,q1⟩=>bM (hi aa s1 σ H1 _ I1 q1) λiv s2 hxx=>?_);obtain⟨y,H2,I2,ry,a,v,ex,g,q2⟩:=hxx;subst ex;obtain rfl:u=Value.ref a:=rx;exact⟨qH I2 g,vI hu I2 g ry λw' s3 I3 rw'=>⟨v,H2,I3,rw',q2⟩⟩
end
def xD (h:Heap)(hb:sysModules<h.objs.size):bB P w H (h.push {cls:=.type "dict",data:=.dict #[]}) h.objs.size (.dK []):=
 ⟨Nat.zero_le _,beq_eq_false_iff_ne.mpr (Ne.symm (Nat.ne_of_lt hb)),[],.nil,Heap.DictOf.new h⟩
def DP:TE:=λ_ H Q=>∀p,H p=Y->Q (.ref p) (bu H p (.dK []))
section
variable {X:Cx}{pos:Pos}
def xq:PE X (.Dict [] [] pos) DP:=λaa s σ H Q I h=>
 wpAny_Dict_empty ⟨.ref s.heap.objs.size,_,I.laid (a:=s.heap.objs.size) (o:=.dK []) (t':=s.toks) (λ_ _ q=>Heap.get?_push_of_some _ q) (Nat.le_refl _) (xD s.heap I.big),rfl,h _ (I.hok.fresh (Nat.le_refl _))⟩
end
abbrev VV:List (V×V)->List (Value×Value)->Prop:=Paired λp q=>aI p.1 q.1/\aI p.2 q.2
structure M1 (X:Cx)(o:Expr)(m:Str)(apos:Pos)(e:Expr)(cpos:Pos):Prop where
 base:attributeBase o m X.env (eval o X.env)=eval o X.env
 few:((backTo cpos (starEach [e] X.env)).all (λx=>!x.1)&&(backToKw cpos (keywordEach [] X.env)).all (λx=>x.1.isSome)
  && decide (([e]:List Expr).length+([]:List Keyword).length+(if([]:List Keyword).isEmpty then 0 else 1)<30))=true
 line:(apos.endLine==cpos.line)=true
 trees:backTo cpos (starEach [e] X.env)=[(false,eval e X.env)]
structure M2 (X:Cx)(o:Expr)(m:Str)(apos:Pos)(e f:Expr)(cpos:Pos):Prop where
 base:attributeBase o m X.env (eval o X.env)=eval o X.env
 few:((backTo cpos (starEach [e,f] X.env)).all (λx=>!x.1)&&(backToKw cpos (keywordEach [] X.env)).all (λx=>x.1.isSome)
  && decide (([e,f]:List Expr).length+([]:List Keyword).length+(if([]:List Keyword).isEmpty then 0 else 1)<30))=true
 line:(apos.endLine==cpos.line)=true
 trees:backTo cpos (starEach [e,f] X.env)=[(false,eval e X.env),(false,eval f X.env)]
def HJ (H:Hp)(a:Addr):Prop:=(∃kvs,Rd H a (.dK kvs))\/∃kvs,Rd H a (.dT kvs)
def DF {X:Cx}{σ:St}{a:Addr}(I:Inv X aa σ H s)(d:HJ H a) :
  s.TypeIs (.ref a) "dict"/\(∀b,Value.ref a=.ref b->∃ob,s.heap.get? b=Z ob/\ob.dict=Y)/\(a==sysModules)=false:=by
 rcases d with⟨kvs,e⟩|⟨kvs,e⟩
 ·obtain⟨_,hd,vs,_,dd⟩:=rF I.hok e;refine⟨dd.typeIs,λb q=>?_,hd⟩;cases q;refine q3x3 dd λob _ _ h1 h2 _=>?_;exact⟨ob,h1,h2.2.1⟩
 ·obtain⟨_,hd,xs,_,dd⟩:=re I.hok e;refine⟨dd.typeIs,λb q=>?_,hd⟩;cases q;refine q3x3 dd λob _ _ h1 h2 _=>?_;exact⟨ob,h1,h2.2.1⟩
end L2
namespace Att
open PySem PySem.W PySem.Calls PyProof.Rows
end Att
namespace L2
open PySem PySem.Spec PyProof.Rows List
end L2
namespace DL
open PySem PySem.Spec PyProof.Rows L2 List
structure FE (X:Cx)(aa:List (Addr×Obj))(H:Hp)(B:Heap):Prop where
 trk:∀b o,H b=Z o->∃o',B.get? b=Z o'
 pin:∀p∈X.pn++aa,∃o',B.get? p.1=Z o'
 old:∀b o,X.s₀.heap.get? b=Z o->b∉X.ex->b∉kG X.stack->∃o',B.get? b=Z o'
def Ij (X:Cx)(H:Hp)(a C:Addr)(s:Shared):Prop:=∃aa σ,
 (∃h vs,L2.Inv X aa σ H {s with heap:=h}/\Heap.MadeExcOf h s.heap a (.ref C) vs)\/
 (L2.Inv X aa σ H s/\H a=Y/\∃B a0,Heap.FlyingW B X.stack a (.ref C) a0 s.heap/\FE X aa H B)\/
 (L2.Inv X aa σ H s/\H a=Y/\∃B a0 L,X.env.frame=Z L/\Heap.HeldW B X.stack a (.ref C) a0 L s.heap/\FE X aa H B)
def lJ (K:W.Frag)(c:Str)(C:Addr):Prop:=W.nsIn K mainGlobals c=Z (Z (.ref C))
variable{P:Program}{w:World}{H:Hp}{a:Addr}{o:HO}
def mR {h:Heap}(x:bB P w H h a o):∃u,h.get? a=Z u:=by
 cases o with
 | lst xs=>obtain⟨_,_,_,_,e⟩:=x;exact⟨_,e⟩
 | tup xs=>obtain⟨_,_,_,o,e,_⟩:=x;exact⟨_,e⟩
 | dK kvs=>obtain⟨_,_,_,_,o,_,_,e,_⟩:=x;exact⟨_,e⟩
 | dT kvs=>obtain⟨_,_,_,_,o,_,_,e,_⟩:=x;exact⟨_,e⟩
 | set S n=>refine q4x2 x λo _ _ _ e _=>?_;exact⟨_,e⟩
 | ins C dx fs=>refine q0x5 x λ_ _ _ e _=>?_;exact⟨_,e⟩
 | own y=>refine q1x1 x λ_ e=>?_;exact⟨_,e⟩
 | xd fs=>obtain⟨_,⟨_,_,_,e,_⟩,_⟩:=x;exact⟨_,e⟩
 | rng lo hi=>obtain⟨_,_,_,e⟩:=x;exact⟨_,e⟩
 | frz ob u=>refine q0x2 x λe _=>?_;exact⟨_,e⟩
 | tbl ps=>exact⟨_,show h.get? a=Z _ from x⟩
 | met f y=>exact⟨_,show h.get? a=Z _ from x⟩
 | ext φ=>obtain⟨_,⟨_,e⟩,_⟩:=x;exact⟨_,e⟩
variable{c:Addr}
section
variable {X:Cx}{aa:List (Addr×Obj)}{σ:List (Option V)}{H:Hp}{s:Shared}{B h':Heap}{a C:Addr}
def ou (I:L2.Inv X aa σ H s){b:Addr}{o:Obj}(e:X.s₀.heap.get? b=Z o)(n:b∉X.fs):b∉kG X.stack:=λz=>by
 rcases mem_cons.mp (I.stkSub b z) with q|q
 ·have h1:=Heap.lt_size e;rw[q] at h1;exact absurd (Nat.lt_of_lt_of_le h1 I.ok.above) (Nat.lt_irrefl _)
 ·exact n q
def uI {h h':Heap}{v:Option Value}(u:h.UpToSlots h')(x:h.IsCell c v):h'.IsCell c v:=by
 obtain⟨o,e,d⟩:=x;obtain⟨sl,e'⟩:=u c o e λvs q=>by rw[d] at q;cases q
 exact⟨_,e',d⟩
def ww (I:L2.Inv X aa σ H s)(cov:FE X aa H B)(hB:B.StaysIn s.heap)(hB':B.StaysIn h')(up:s.heap.UpToSlots h'):L2.Inv X aa σ H {s with heap:=h'}:=by
 have keepB:∀b o o',B.get? b=Z o'->s.heap.get? b=Z o->h'.get? b=Z o:=λb o o' e1 e2=>by
  have:=hB b o' e1;rw[e2] at this;cases this;exact hB' b _ e1
 refine⟨I.ok,I.os,I.bare,⟨λb o e n nf nx=>?_,λb o e n hf nx=>?_,λb o e n nx=>I.base.free b o e n nx,λb o e nx=>?_,I.base.tups,I.base.frzs,I.base.tbls⟩,?_,λx c e=>?_,I.free,I.freeC,λp hp=>?_,λb o e=>?_,I.len⟩
 ·refine q1x1 (cov.old b o e nx (ou I e nf)) λo' e'=>?_;exact keepB b o o' e' (I.base.keep b o e n nf nx)
 ·refine q1x1 (I.base.slot b o e n hf nx) λsl e1=>?_;obtain⟨_,ob,e2,nf⟩:=I.funs.mem hf;rw[e1] at e2;cases e2;refine q1x1 (up b _ e1 nf) λsl' e3=>?_;exact⟨sl',e3⟩
 ·by_cases hf:b∈X.fs
  ·obtain⟨_,ob,e2,nf⟩:=I.funs.mem hf;refine q1x1 (up b _ e2 nf) λsl' e3=>?_;exact⟨_,e3⟩
  ·refine q1x1 (cov.old b o e nx (ou I e hf)) λo' e'=>?_;exact⟨o',hB' b o' e'⟩
 ·refine q1x2 I.loc λm hn hl=>?_;refine⟨m,up.ns hn,λi x v e1 e2 e3=>?_⟩;refine q1x2 (hl i x v e1 e2 e3) λu r lk=>?_;refine⟨u,r,?_⟩;rcases lk with lk|⟨k,c,ec,ic⟩
  ·exact .inl lk
  ·exact .inr ⟨k,c,ec,uI up ic⟩
 ·refine q1x1 (I.cell x c e) λv ic=>?_;exact⟨v,uI up ic⟩
 ·refine q0x5 (I.pin p hp) λe n ne nf d=>?_;refine q1x1 (cov.pin p hp) λo' e'=>?_;exact⟨keepB p.1 p.2 o' e' e,n,ne,nf,d⟩
 ·refine(I.hok b o e).stay (λc u hc q=>?_) (λ_ q=>q) λ_ _ q=>q
  have:∃o,H c=Z o:=by
   rcases hc with z|z
   ·exact⟨o,by rw[z];exact e⟩
   ·exact⟨_,z⟩
  refine q1x1 this λoc ec=>?_;refine q1x1 (cov.trk c oc ec) λo' e'=>?_;exact keepB c u o' e' q
def xR (I:L2.Inv X aa σ H s):FE X aa H (W.hideAll s.heap (kG X.stack)):=by
 refine⟨λb o e=>?_,λp hp=>?_,λb o e nx nf=>?_⟩
 ·refine q1x1 (mR (I.hok b o e)) λu q=>?_;exact⟨u,W.hideAll_get _ q λz=>by rw[I.stkFree b z] at e;cases e⟩
 ·refine q0x5 (I.pin p hp) λe n ne nf d=>?_;exact⟨p.2,W.hideAll_get _ e λz=>by
   rcases mem_cons.mp (I.stkSub _ z) with q|q
   ·exact ne q
   ·exact nf q⟩
 ·refine q1x1 (I.base.there b o e nx) λo' e'=>?_;exact⟨o',W.hideAll_get _ e' nf⟩
def qB (I:L2.Inv X aa σ H s):s.heap.FunFrames (W.hideAll s.heap (kG X.stack)) X.stack:=
 W.funFrames_hide I.stack λenv he b hb=>mem_filterMap.mpr ⟨env,he,hb⟩
def vB {vs:List Value}{h:Heap}(I:L2.Inv X aa σ H {s with heap:=h})(m:Heap.MadeExcOf h s.heap a (.ref C) vs):H a=Y:=by
 cases q:H a with
 | none=>rfl
 | some o=>
  refine q1x1 (mR (I.hok a o q)) λu e=>?_;have e:h.get? a=Z u:=e;rw[m.new] at e;cases e
end
def iM (P:Program)(w:World):wo:=λouter H s E e s'=>∃a C H' B a0,e=.ref a/\s'.os=s.os/\AllBare s'.gens/\Un (kG outer) [] H H' s.heap s'.heap/\hO P w H' s'.heap/\H' a=Y/\
 Heap.FlyingW B outer a (.ref C) a0 s'.heap/\(∀b o,H' b=Z o->∃o',B.get? b=Z o')/\(∀b o,s.heap.get? b=Z o->b∉kG outer->∃o',B.get? b=Z o')/\E (.ref C) (Z a) H'
variable{K:W.Frag}{mg:Str->Option Value}{base:Heap}{scope:Scope}{f:Addr}{A:Around}{s:Shared}{E:XK}
def mB {N:List Str}{qual:Str}{cdv:Value}{outer:List Env}{s':Shared}{H':Hp}{C:Addr}
  (fl:Ij (gQ (iM P w) P w K mg base N qual scope f cdv A outer s H E) H' a C s') (hE:E (.ref C) (Z a) H'):(gQ (iM P w) P w K mg base N qual scope f cdv A outer s H E).xe (.ref a) s':=by
 show wpAny (model P w) (A.deeper (envOfC qual scope s.heap.objs.size f cdv)) (leaving (envOfC qual scope s.heap.objs.size f cdv) (.ref a)) (λ_ s''=>iM P w outer H s E (.ref a) s'') (λe' s''=>iM P w outer H s E e' s'') s';refine q2x1 fl λaa σ fl=>?_;have key:∀(B:Heap) (a0:Value) (h':Heap) (I:L2.Inv (gQ (iM P w) P w K mg base N qual scope f cdv A outer s H E) aa σ H' s'),B.StaysIn s'.heap->FE (gQ (iM P w) P w K mg base N qual scope f cdv A outer s H E) aa H' B->H' a=Y->
   Heap.FlyingW B outer a (.ref C) a0 h'->s'.heap.UpToSlots h'->iM P w outer H s E (.ref a) {s' with heap:=h'}:=λB a0 h' I hB cov hn fl' up=>by
  have I':=ww I cov hB fl'.1 up;refine⟨a,C,H',B,a0,rfl,I'.os,I'.bare,I'.base,I'.hok,hn,fl',cov.trk,λb o e nf=>?_,hE⟩;exact cov.old b o e (by show b∉([]:List Addr);simp) (ou I e nf)
 rcases fl with⟨h,vs,I,m⟩|⟨I,hn,B,a0,fl,cov⟩|⟨I,hn,B,a0,L,hL,held,cov⟩
 ·have cov:=xR I;have hid:∀b o,(W.hideAll h (kG (gQ (iM P w) P w K mg base N qual scope f cdv A outer s H E).stack)).get? b=Z o->h.get? b=Z o:=λb o q=>W.of_hideAll _ q
  refine wpAny_leaves_madeW (env:=envOfC qual scope s.heap.objs.size f cdv) (outer:=outer) I.ok.frames rfl hid (qB I) m λh' t x1 x2 x3 x4=>?_
  exact key _ _ h' (I.kept (t':=s'.toks) (h':=s'.heap) m.keeps) (λb o q=>m.keeps b o (hid b o q)) cov (vB I m) x1 x4
 ·refine wpAny_leaves_onW (env:=envOfC qual scope s.heap.objs.size f cdv) (outer:=outer) I.ok.frames rfl fl λh' x1 x2=>?_
  exact key B a0 h' I fl.1 cov hn x1 x2
 ·unfold leaving;refine wpAny_bind (wpAny_noteFrame_againW hL held.2.2.2 ?_);refine wpAny_landsW held λh' x1 x2=>?_
  obtain⟨k1,k2,⟨_,_,k3⟩,k4⟩:=x1;exact key B a0 h' I held.1 cov hn ⟨k1,k2,k3,k4⟩ x2
variable{aa:List (Addr×Obj)}{σ:L2.St}
def u3 {X:Cx}{e:Value}{s':Shared}(I:L2.Inv X aa σ H s)(h:iM X.prog X.w X.stack H s E e s'):∃a C H',e=.ref a/\Ij X H' a C s'/\E (.ref C) (Z a) H':=by
 obtain⟨a,C,H',B,a0,rfl,os,bare,un,hok,hn,fl,trk,old,hE⟩:=h;refine⟨a,C,H',rfl,⟨aa,σ,.inr (.inl ⟨I.call' os un hok bare (λb z=>absurd z (by simp)),hn,B,a0,fl,trk,λp hp=>?_,λb o eb nx nf=>?_⟩)⟩,hE⟩
 ·refine q0x5 (I.pin p hp) λeb n ne nf d=>?_;exact old p.1 p.2 eb λz=>by
   rcases mem_cons.mp (I.stkSub _ z) with q|q
   ·exact ne q
   ·exact nf q
 ·refine q1x1 (I.base.there b o eb nx) λo' e'=>?_;exact old b o' e' nf
inductive D where
 | non|bl (b:Bool)|int (i:Int)|str (x:Str)|tup (xs:List D)|lst (xs:List D)|ro (xs:List D)|mr (i:Nat)|exc (c:Str)|any
instance:Inhabited D:=⟨.non⟩
inductive MO where
 | lst (xs:List D)|obj (c:Str) (fs:List (Str×D))|dK (kvs:List (cr×D))|dT (kvs:List (List cr×D))
instance:Inhabited MO:=⟨.lst []⟩
abbrev aw:=List MO
abbrev bv:=List (Option D)
inductive aN (α:Type) where
 | ok (a:α) (M:aw)
 | err (c:Str) (M:aw)
 | bad
noncomputable def aN.bind {α β:Type}(o:aN α)(f:α->aw->aN β):aN β:=
 match o with
 | .ok a M=>f a M
 | .err c M=>.err c M
 | .bad=>.bad
@[simp] theorem ai {α β:Type} (a:α) (M:aw) (f:α->aw->aN β):(aN.ok a M).bind f=f a M:=by rw[aN.bind]
@[simp] theorem FR {α β:Type} (c:Str) (M:aw) (f:α->aw->aN β):(aN.err c M:aN α).bind f=.err c M:=by rw[aN.bind]
@[simp] theorem F0 {α β:Type} (f:α->aw->aN β):(aN.bad:aN α).bind f=.bad:=by rw[aN.bind]
def Jt (K:W.Frag)(a:Addr)(xs:List V):Prop:=∃(o:Obj) (its:Array Value) (n:Nat),K.lookup a=Z o/\o.cls=.type "tuple"/\o.data=.seq its n/\its.size<=sizeLine/\aJ xs its.toList
def KL (K:W.Frag)(a:Addr)(xs:List V):Prop:=∃(o:Obj) (its:Array Value) (n:Nat),K.lookup a=Z o/\o.cls=.type "list"/\o.dict=Y/\o.data=.seq its n/\its.size<=sizeLine/\aJ xs its.toList
def jT (K:W.Frag)(θ:List Addr)(H:Hp)(a:Addr)(xs:List V):Prop:=H a=Z (.tup xs)/\a∉θ
def nM (θ:List Addr)(H:Hp)(a:Addr)(xs:List V):Prop:=H a=Z (.lst xs)/\a∉θ
def lN (K:W.Frag)(θ:List Addr)(H:Hp)(a:Addr)(xs:List V):Prop:=(Rd H a (.lst xs)/\a∉θ)\/KL K a xs
variable{θ:List Addr}{xs:List V}
def jT.sq (h:jT K θ H a xs):oo K H a xs:=.inl (.inl h.1)
def nM.sq (h:nM θ H a xs):jt K H a xs:=.inl (.inl h.1)
def lN.sq (h:lN K θ H a xs):jt K H a xs:=by
 rcases h with⟨h,_⟩|h
 ·exact .inl h
 ·exact .inr h
def HV (a C:Addr):HO:=.ext λh=>∃o,h.get? a=Z o/\o.cls=.ref C
mutual
def isD (K:W.Frag)(θ:List Addr)(H:Hp):D->V->Prop
 | .non,v=>v=.non
 | .bl b,v=>v=.bl b
 | .int i,v=>v=.int i
 | .str x,v=>v=.str x
 | .tup ds,v=>∃a vs,v=.ref a/\jT K θ H a vs/\isDs K θ H ds vs
 | .lst ds,v=>∃a vs,v=.ref a/\nM θ H a vs/\isDs K θ H ds vs
 | .ro ds,v=>∃a vs,v=.ref a/\lN K θ H a vs/\isDs K θ H ds vs
 | .mr i,v=>∃a,v=.ref a/\θ[i]?=Z a
 | .exc c,v=>∃a C,v=.ref a/\lJ K c C/\H a=Z (HV a C)/\a∉θ
 | .any,_=>True
def isDs (K:W.Frag)(θ:List Addr)(H:Hp):List D->List V->Prop
 | [],vs=>vs=[]
 | d::ds,vs=>∃v r,vs=v::r/\isD K θ H d v/\isDs K θ H ds r
end
def isFs (K:W.Frag)(θ:List Addr)(H:Hp):List (Str×D)->List (Str×V)->Prop
 | [],vs=>vs=[]
 | (f,d)::fs,vs=>∃v r,vs=(f,v)::r/\isD K θ H d v/\isFs K θ H fs r
def isKs {κ:Type}(K:W.Frag)(θ:List Addr)(H:Hp):List (κ×D)->List (κ×V)->Prop
 | [],vs=>vs=[]
 | (k,d)::fs,vs=>∃v r,vs=(k,v)::r/\isD K θ H d v/\isKs K θ H fs r
def ke (K:W.Frag)(θ:List Addr)(H:Hp):MO->Addr->Prop
 | .lst ds,a=>∃vs,H a=Z (.lst vs)/\isDs K θ H ds vs
 | .obj c fs,a=>∃C dx vs,lJ K c C/\H a=Z (.ins C dx vs)/\isFs K θ H fs vs
 | .dK kvs,a=>∃vs,H a=Z (.dK vs)/\isKs K θ H kvs vs
 | .dT kvs,a=>∃vs,H a=Z (.dT vs)/\isKs K θ H kvs vs
def bC:List Str:=["ink_shown","table_within","slots_given","cast_on_slots"]
def cB (x:Str):Str:=x++(".<locals>.<lambda>":Str)
def qT (c:Addr)(q:Str):HO:=.ext λh=>h.CodeRec (.ref c) q
def Ig (ob:Obj):HO:=.frz ob (.ext λ_=>True)
structure iO (K:W.Frag)(H:Hp):Prop where
 tab:∀x,x∈bC->∀c P,W.tabIn K x=Z (c,P)->∃ps,H P=Z (.tbl ps)/\TriplesOk ps.toList/\∀pos cv,codeAmong pos ps.toList=Z cv->∃c',cv=.ref c'/\H c'=Z (qT c' (cB x))
 bm:∀x,x∈bC->∀c P,W.tabIn K x=Z (c,P)->∃bm ob,W.nsIn K mainGlobals "__builtins__"=Z (Z (.ref bm))/\H bm=Z (Ig ob)/\ob.cls=.type "module"/\ob.dict=Z builtinsNs/\ob.data=.plain/\bm≠builtinsNs/\bm≠mainGlobals
def iO.of {H':Hp}(t:iO K H)(k1:∀b ps,H b=Z (.tbl ps)->H' b=Z (.tbl ps))(k2:∀b φ,H b=Z (.ext φ)->H' b=Z (.ext φ))(k3:∀b o u,H b=Z (.frz o u)->H' b=Z (.frz o u)):iO K H':=
 ⟨λx hx c P e=>by
  refine q1x3 (t.tab x hx c P e) λps h1 h2 h3=>?_;refine⟨ps,k1 _ _ h1,h2,λpos cv q=>?_⟩;refine q1x2 (h3 pos cv q) λc' e1 e2=>?_;exact⟨c',e1,k2 _ _ e2⟩,λx hx c P e=>by
  refine q2x3 (t.bm x hx c P e) λbm ob e1 e2 r=>?_;exact⟨bm,ob,e1,k3 _ _ _ e2,r⟩⟩
def iO.new {p:Addr}(t:iO K H)(hp:H p=Y):iO K (bu H p o):=
 t.of (λb ps e=>by rw[aj (br e hp)];exact e) (λb φ e=>by rw[aj (br e hp)];exact e) λb o u e=>by rw[aj (br e hp)];exact e
def rS:HO->Bool
 | .tbl _=>false
 | .ext _=>false
 | .frz _ _=>false
 | _=>true
def iO.at_ {u:HO}(t:iO K H)(ha:H a=Z u)(hu:rS u=true):iO K (bu H a o):=
 t.of (λb ps e=>by rw[aj (pO e ha (by intro z;subst z;cases hu))];exact e) (λb φ e=>by rw[aj (pO e ha (by intro z;subst z;cases hu))];exact e) λb o u e=>by rw[aj (pO e ha (by intro z;subst z;cases hu))];exact e
structure Wr (K:W.Frag)(θ:List Addr)(H:Hp)(M:aw):Prop where
 len:θ.length=M.length
 nd:θ.Nodup
 at_:∀(i:Nat) a m,θ[i]?=Z a->M[i]?=Z m->ke K θ H m a
 tb:iO K H
structure gq (K:W.Frag)(θ:List Addr)(H:Hp)(σ:L2.St)(ρ:bv):Prop where
 len:ρ.length=σ.length
 at_:∀(i:Nat) d,ρ[i]?=Z (Z d)->∃v,σ[i]?=Z (Z v)/\isD K θ H d v
structure Grow (θ:List Addr)(H:Hp)(θ':List Addr)(H':Hp):Prop where
 ext:∃more,θ'=θ++more/\∀a∈more,H a=Y
 keep:∀b o,H b=Z o->b∉θ->(∀ps,o≠.tbl ps)->H' b=Z o
 tkeep:∀b ps,H b=Z (.tbl ps)->∃ps',H' b=Z (.tbl ps')
structure Go (K:W.Frag)(θ:List Addr)(H:Hp)(θ':List Addr)(H':Hp)(M':aw):Prop extends Grow θ H θ' H' where
 wr:Wr K θ' H' M'
variable{m:MO}{i:Nat}{d:D}{v:V}{ds:List D}{vs:List V}
section
variable {K:W.Frag}{θ θ' θ1 θ2:List Addr}{H H' H1 H2:Hp}{M M' M1 M2:aw}{a p:Addr}{σ:L2.St}{ρ:bv}
def Wr.tracked (w:Wr K θ H M)(h:a∈θ):H a≠Y:=by
 obtain⟨i,hi,e⟩:=mem_iff_getElem.mp h;have h1:θ[i]?=Z a:=by rw[getElem?_eq_getElem hi,e]
 have h2:i<M.length:=by rw[<-w.len];exact hi
 have h3:=w.at_ i a _ h1 (getElem?_eq_getElem h2);cases q:M[i] with
 | lst ds=>
  rw[q] at h3;refine q1x2 h3 λvs e _=>?_;rw[e];simp
 | obj c fs=>
  rw[q] at h3;refine q3x3 h3 λC dx vs _ e _=>?_;rw[e];simp
 | dK kvs=>
  rw[q] at h3;refine q1x2 h3 λvs e _=>?_;rw[e];simp
 | dT kvs=>
  rw[q] at h3;refine q1x2 h3 λvs e _=>?_;rw[e];simp
def ke.plain (h:ke K θ H m a):∃o,H a=Z o/\rS o=true:=by
 cases m with
 | lst ds=>refine q1x2 h λvs e _=>?_;exact⟨_,e,rfl⟩
 | obj c fs=>refine q3x3 h λC dx vs _ e _=>?_;exact⟨_,e,rfl⟩
 | dK kvs=>refine q1x2 h λvs e _=>?_;exact⟨_,e,rfl⟩
 | dT kvs=>refine q1x2 h λvs e _=>?_;exact⟨_,e,rfl⟩
def Wr.plain (w:Wr K θ H M)(h:θ[i]?=Z a):∃o,H a=Z o/\rS o=true:=by
 have h2:i<M.length:=by rw[<-w.len];exact(List.getElem?_eq_some_iff.mp h).1
 exact(w.at_ i a _ h (getElem?_eq_getElem h2)).plain
def Wr.fresh (w:Wr K θ H M)(h:H p=Y):p∉θ:=λz=>w.tracked z h
def Grow.refl (θ:List Addr)(H:Hp):Grow θ H θ H:=⟨⟨[],by simp,λ_ z=>by cases z⟩,λ_ _ h _ _=>h,λb ps e=>⟨ps,e⟩⟩
def Go.refl (w:Wr K θ H M):Go K θ H θ H M:=⟨.refl θ H,w⟩
def Go.trans (a:Go K θ H θ1 H1 M1)(b:Go K θ1 H1 θ2 H2 M2):Go K θ H θ2 H2 M2:=by
 refine q1x2 a.ext λm1 e1 f1=>?_;refine q1x2 b.ext λm2 e2 f2=>?_;refine⟨⟨⟨m1++m2,by rw[e2,e1,append_assoc],λx hx=>?_⟩,λx o hx nx nt=>?_,λx ps e=>?_⟩,b.wr⟩
 ·rcases mem_append.mp hx with z|z
  ·exact f1 x z
  ·cases q:H x with
   | none=>rfl
   | some o=>
    have nx:x∉θ:=by
     intro y;have nd:=b.wr.nd;rw[e2] at nd;have y1:x∈θ1:=by rw[e1];exact mem_append_left _ y
     exact(nodup_append.mp nd).2.2 x y1 x z rfl
    exfalso
    by_cases nt:∃ps,o=.tbl ps
    ·refine q1x1 nt λps zz1=>?_;subst zz1;refine q1x1 (a.tkeep x ps q) λps' e'=>?_;rw[f2 x z] at e';cases e'
    ·have:=a.keep x o q nx λps e'=>nt ⟨ps,e'⟩
     rw[f2 x z] at this;cases this
 ·have h1:=a.keep x o hx nx nt;refine b.keep x o h1 ?_ nt;rw[e1];intro z;rcases mem_append.mp z with z|z
  ·exact nx z
  ·rw[f1 x z] at hx;cases hx
 ·refine q1x1 (a.tkeep x ps e) λps' e'=>?_;exact b.tkeep x ps' e'
def Grow.notin (g:Grow θ H θ' H')(h:H a=Z o)(n:a∉θ):a∉θ':=by
 refine q1x2 g.ext λm e f=>?_;rw[e];intro z;rcases mem_append.mp z with z|z
 ·exact n z
 ·rw[f a z] at h;cases h
def jT.grow (g:Grow θ H θ' H')(h:jT K θ H a xs):jT K θ' H' a xs:=⟨g.keep _ _ h.1 h.2 (by intro _ z;cases z),g.notin h.1 h.2⟩
def nM.grow (g:Grow θ H θ' H')(h:nM θ H a xs):nM θ' H' a xs:=⟨g.keep _ _ h.1 h.2 (by intro _ z;cases z),g.notin h.1 h.2⟩
def lN.grow (g:Grow θ H θ' H')(h:lN K θ H a xs):lN K θ' H' a xs:=by
 rcases h with⟨h|⟨o,h⟩,n⟩|h
 ·exact .inl ⟨.inl (g.keep _ _ h n (by intro _ z;cases z)),g.notin h n⟩
 ·exact .inl ⟨.inr ⟨o,g.keep _ _ h n (by intro _ z;cases z)⟩,g.notin h n⟩
 ·exact .inr h
mutual
theorem i5 (g:Grow θ H θ' H'):∀(d:D) (v:V),isD K θ H d v->isD K θ' H' d v
 | .non,v,h=>h
 | .bl b,v,h=>h
 | .int i,v,h=>h
 | .str x,v,h=>h
 | .tup ds,v,h=>by
  refine q2x3 h λa vs e t r=>?_;exact⟨a,vs,e,t.grow g,cj g ds vs r⟩
 | .lst ds,v,h=>by
  refine q2x3 h λa vs e t r=>?_;exact⟨a,vs,e,t.grow g,cj g ds vs r⟩
 | .ro ds,v,h=>by
  refine q2x3 h λa vs e t r=>?_;exact⟨a,vs,e,t.grow g,cj g ds vs r⟩
 | .mr i,v,h=>by
  refine q1x2 h λa e t=>?_;refine q1x2 g.ext λm em _=>?_;refine⟨a,e,?_⟩;rw[em,getElem?_append_left (List.getElem?_eq_some_iff.mp t).1];exact t
 | .exc c,v,h=>by
  refine q2x4 h λa C e k t n=>?_;exact⟨a,C,e,k,g.keep _ _ t n (by intro _ z;cases z),g.notin t n⟩
 | .any,v,h=>h
theorem cj (g:Grow θ H θ' H'):∀(ds:List D) (vs:List V),isDs K θ H ds vs->isDs K θ' H' ds vs
 | [],vs,h=>h
 | d::ds,vs,h=>by
  refine q2x3 h λv r e h1 h2=>?_;exact⟨v,r,e,i5 g d v h1,cj g ds r h2⟩
end
def isD.go (h:isD K θ H d v)(g:Go K θ H θ' H' M'):isD K θ' H' d v:=i5 g.toGrow d v h
def isDs.go (h:isDs K θ H ds vs)(g:Go K θ H θ' H' M'):isDs K θ' H' ds vs:=cj g.toGrow ds vs h
def gq.go (h:gq K θ H σ ρ)(g:Go K θ H θ' H' M'):gq K θ' H' σ ρ:=⟨h.len,λi d e=>let ⟨v,e1,e2⟩:=h.at_ i d e;⟨v,e1,e2.go g⟩⟩
theorem ao:∀{ds:List D} {vs:List V},isDs K θ H ds vs->ds.length=vs.length
 | [],vs,h=>by cases (show vs=[] from h);rfl
 | d::ds,vs,h=>by
  refine q2x3 h λv r e _ h2=>?_;subst e;rw[length_cons,length_cons,ao h2]
theorem cZ:∀{ds es:List D} {vs us:List V},isDs K θ H ds vs->isDs K θ H es us->isDs K θ H (ds++es) (vs++us)
 | [],es,vs,us,h,k=>by cases (show vs=[] from h);exact k
 | d::ds,es,vs,us,h,k=>by
  refine q2x3 h λv r e h1 h2=>?_;subst e;exact⟨v,r++us,rfl,h1,cZ h2 k⟩
theorem cQ:∀{ds:List D} {vs:List V} {i:Nat} {d:D},isDs K θ H ds vs->ds[i]?=Z d->∃v,vs[i]?=Z v/\isD K θ H d v
 | [],vs,i,d,h,e=>by simp at e
 | x::ds,vs,0,d,h,e=>by
  refine q2x3 h λv r e1 h1 h2=>?_;subst e1;simp at e;subst e;exact⟨v,rfl,h1⟩
 | x::ds,vs,i+1,d,h,e=>by
  refine q2x3 h λv r e1 h1 h2=>?_;subst e1;refine q1x2 (cQ (i:=i) h2 (by simpa using e)) λu e2 h3=>?_;exact⟨u,by simpa using e2,h3⟩
theorem nE:∀{ds:List D} {vs:List V} (n:Nat),isDs K θ H ds vs->isDs K θ H (ds.take n) (vs.take n)
 | ds,vs,0,h=>by rw[take_zero,take_zero];exact rfl
 | [],vs,n+1,h=>by cases (show vs=[] from h);exact rfl
 | d::ds,vs,n+1,h=>by
  refine q2x3 h λv r e h1 h2=>?_;subst e;exact⟨v,r.take n,rfl,h1,nE n h2⟩
theorem nH:∀{ds:List D} {vs:List V} (n:Nat),isDs K θ H ds vs->isDs K θ H (ds.drop n) (vs.drop n)
 | ds,vs,0,h=>h
 | [],vs,n+1,h=>by cases (show vs=[] from h);exact rfl
 | d::ds,vs,n+1,h=>by
  refine q2x3 h λv r e h1 h2=>?_;subst e;exact nH n h2
theorem qJ {d:D}{v:V}(hd:isD K θ H d v):∀{ds:List D} {vs:List V} (i:Nat),isDs K θ H ds vs->isDs K θ H (ds.set i d) (vs.set i v)
 | [],vs,i,h=>by cases (show vs=[] from h);exact rfl
 | x::ds,vs,0,h=>by
  refine q2x3 h λu r e h1 h2=>?_;subst e;exact⟨v,r,rfl,hd,h2⟩
 | x::ds,vs,i+1,h=>by
  refine q2x3 h λu r e h1 h2=>?_;subst e;exact⟨u,r.set i v,rfl,h1,qJ hd i h2⟩
def jf (w:Wr K θ H M)(hp:H p=Y):Grow θ H θ (bu H p o):=
 ⟨⟨[],by simp,λ_ z=>by cases z⟩,λb u h _ _=>by rw[aj (br h hp)];exact h,λb ps h=>⟨ps,by rw[aj (br h hp)];exact h⟩⟩
theorem nU (g:Grow θ H θ' H'):∀{fs:List (Str×D)} {vs:List (Str×V)},isFs K θ H fs vs->isFs K θ' H' fs vs
 | [],vs,h=>h
 | (f,d)::fs,vs,h=>by
  refine q2x3 h λv r e h1 h2=>?_;exact⟨v,r,e,i5 g d v h1,nU g h2⟩
theorem fT {κ:Type}(g:Grow θ H θ' H'):∀{fs:List (κ×D)} {vs:List (κ×V)},isKs K θ H fs vs->isKs K θ' H' fs vs
 | [],vs,h=>h
 | (f,d)::fs,vs,h=>by
  refine q2x3 h λv r e h1 h2=>?_;exact⟨v,r,e,i5 g d v h1,fT g h2⟩
def ke.grow (g:Grow θ H θ' H')(hs:H' a=H a)(h:ke K θ H m a):ke K θ' H' m a:=by
 cases m with
 | lst ds=>
  refine q1x2 h λvs e r=>?_;exact⟨vs,by rw[hs];exact e,cj g ds vs r⟩
 | obj c fs=>
  refine q3x3 h λC dx vs k e r=>?_;exact⟨C,dx,vs,k,by rw[hs];exact e,nU g r⟩
 | dK kvs=>
  refine q1x2 h λvs e r=>?_;exact⟨vs,by rw[hs];exact e,fT g r⟩
 | dT kvs=>
  refine q1x2 h λvs e r=>?_;exact⟨vs,by rw[hs];exact e,fT g r⟩
def cJ (w:Wr K θ H M)(hp:H p=Y):Go K θ H θ (bu H p o) M:=
 ⟨jf w hp,w.len,w.nd,λi a m h1 h2=>by
  have ha:a≠p:=λe=>w.fresh hp (by rw[<-e];exact mem_of_getElem? h1)
  exact(w.at_ i a m h1 h2).grow (jf w hp) (aj ha),w.tb.new hp⟩
def gw (w:Wr K θ H M)(hp:H p=Y)(r:isDs K θ H ds vs):isD K θ (bu H p (.tup vs)) (.tup ds) (.ref p):=
 ⟨p,vs,rfl,⟨aX,w.fresh hp⟩,cj (jf w hp) ds vs r⟩
def f6 (w:Wr K θ H M)(hp:H p=Y)(r:isDs K θ H ds vs):isD K θ (bu H p (.lst vs)) (.lst ds) (.ref p):=
 ⟨p,vs,rfl,⟨aX,w.fresh hp⟩,cj (jf w hp) ds vs r⟩
def n6 (hp:H p=Y):Grow θ H (θ++[p]) (bu H p o):=
 ⟨⟨[p],rfl,λa ha=>by rw[mem_singleton.mp ha];exact hp⟩,λb u h _ _=>by rw[aj (br h hp)];exact h,λb ps h=>⟨ps,by rw[aj (br h hp)];exact h⟩⟩
def tM (w:Wr K θ H M)(hp:H p=Y)(hm:ke K (θ++[p]) (bu H p o) m p):Go K θ H (θ++[p]) (bu H p o) (M++[m]):=by
 have np:=w.fresh hp;have g:Grow θ H (θ++[p]) (bu H p o):=n6 hp;refine⟨g,by rw[length_append,length_append,w.len];rfl,?_,λi a m' h1 h2=>?_,w.tb.new hp⟩
 ·rw[nodup_append];exact⟨w.nd,by simp,λx hx y hy e=>np (by rw[mem_singleton.mp hy] at e;rw[<-e];exact hx)⟩
 ·by_cases hi:i<θ.length
  ·rw[getElem?_append_left hi] at h1;rw[getElem?_append_left (by rw[<-w.len];exact hi)] at h2;have ha:a≠p:=λe=>np (by rw[<-e];exact mem_of_getElem? h1)
   exact(w.at_ i a m' h1 h2).grow g (aj ha)
  ·have hi':i=θ.length:=by
    have:=(List.getElem?_eq_some_iff.mp h1).1;rw[length_append,length_singleton] at this;omega
   subst hi';rw[getElem?_append_right (Nat.le_refl _)] at h1;rw[getElem?_append_right (by rw[w.len];exact Nat.le_refl _)] at h2;simp only[Nat.sub_self,w.len,getElem?_cons_zero,Option.some.injEq] at h1 h2;subst h1;subst h2;exact hm
def zh (w:Wr K θ H M)(hp:H p=Y)(r:isDs K θ H ds vs):Go K θ H (θ++[p]) (bu H p (.lst vs)) (M++[.lst ds]):=
 tM w hp ⟨vs,aX,cj (n6 hp) ds vs r⟩
def kN (w:Wr K θ H M)(hi:θ[i]?=Z a):Grow θ H θ (bu H a o):=by
 have ha:a∈θ:=mem_of_getElem? hi;refine q1x2 (w.plain hi) λu hu pu=>?_;exact⟨⟨[],by simp,λ_ z=>by cases z⟩,λb u h n _=>by rw[aj (λe=>n (by rw[e];exact ha))];exact h,λb ps h=>⟨ps,by rw[aj (pO h hu (by intro z;subst z;cases pu))];exact h⟩⟩
def oM (w:Wr K θ H M)(hi:θ[i]?=Z a)(hm:ke K θ (bu H a o) m a):Go K θ H θ (bu H a o) (M.set i m):=by
 have g:Grow θ H θ (bu H a o):=kN w hi;refine q1x2 (w.plain hi) λu hu pu=>?_;refine⟨g,by rw[length_set];exact w.len,w.nd,λj b m' h1 h2=>?_,w.tb.at_ hu pu⟩
 by_cases hj:j=i
 ·subst hj;rw[hi] at h1;cases h1;have hl:j<M.length:=by rw[<-w.len];exact(List.getElem?_eq_some_iff.mp hi).1
  rw[getElem?_set_self hl] at h2;cases h2;exact hm
 ·rw[getElem?_set_ne (Ne.symm hj)] at h2;have hb:b≠a:=λe=>by
   subst e;refine q1x1 (List.getElem?_eq_some_iff.mp h1) λh3 e3=>?_;refine q1x1 (List.getElem?_eq_some_iff.mp hi) λh4 e4=>?_;exact hj ((getElem_inj w.nd).mp (e3.trans e4.symm))
  exact(w.at_ j b m' h1 h2).grow g (aj hb)
def sT {ds ds':List D}{vs':List V}(w:Wr K θ H M)(hi:θ[i]?=Z a)(r:isDs K θ H ds' vs'):Go K θ H θ (bu H a (.lst vs')) (M.set i (.lst ds')):=
 oM w hi ⟨vs',aX,cj (kN w hi) ds' vs' r⟩
end
abbrev GE:=bv->aw->aN D
abbrev GT:=bv->aw->aN Bool
abbrev GA:=bv->aw->aN (List D)
inductive Fl where
 | nx (ρ:bv)|rt (d:D)|bk (ρ:bv)|ct (ρ:bv)
abbrev GS:=bv->aw->aN Fl
def cH (X:Cx)(θ:List Addr)(H:Hp)(c:Str)(M:aw):Prop:=∀C θ' H' a s',lJ X.K c C->Go X.K θ H θ' H' M->Ij X H' a C s'->X.xe (.ref a) s'
def aC (X:Cx)(θ:List Addr)(H:Hp)(Q:VK):aN D->Prop
 | .ok d M'=>∀v θ' H',Go X.K θ H θ' H' M'->isD X.K θ' H' d v->Q v H'
 | .err c M'=>cH X θ H c M'
 | .bad=>False
def jz (X:Cx)(θ:List Addr)(H:Hp)(Q:Bool->Hp->Prop):aN Bool->Prop
 | .ok b M'=>∀θ' H',Go X.K θ H θ' H' M'->Q b H'
 | .err c M'=>cH X θ H c M'
 | .bad=>False
def v4 (X:Cx)(θ:List Addr)(H:Hp)(Q:List V->Hp->Prop):aN (List D)->Prop
 | .ok ds M'=>∀vs θ' H',Go X.K θ H θ' H' M'->isDs X.K θ' H' ds vs->Q vs H'
 | .err c M'=>cH X θ H c M'
 | .bad=>False
def bT (X:Cx)(θ:List Addr)(H:Hp)(D:vJ):aN Fl->Prop
 | .ok (.nx ρ) M'=>∀σ θ' H',Go X.K θ H θ' H' M'->gq X.K θ' H' σ ρ->D.nx σ H'
 | .ok (.bk ρ) M'=>∀σ θ' H',Go X.K θ H θ' H' M'->gq X.K θ' H' σ ρ->D.bk σ H'
 | .ok (.ct ρ) M'=>∀σ θ' H',Go X.K θ H θ' H' M'->gq X.K θ' H' σ ρ->D.ct σ H'
 | .ok (.rt d) M'=>∀v θ' H',Go X.K θ H θ' H' M'->isD X.K θ' H' d v->D.rt v H'
 | .err c M'=>cH X θ H c M'
 | .bad=>False
def tE (X:Cx)(g:GE):TE:=λσ H Q=>∃ρ θ M,gq X.K θ H σ ρ/\Wr X.K θ H M/\aC X θ H Q (g ρ M)
def tT (X:Cx)(g:GT):TT:=λσ H Q=>∃ρ θ M,gq X.K θ H σ ρ/\Wr X.K θ H M/\jz X θ H Q (g ρ M)
def tA (X:Cx)(g:GA):TA:=λσ H Q=>∃ρ θ M,gq X.K θ H σ ρ/\Wr X.K θ H M/\v4 X θ H Q (g ρ M)
def tS (X:Cx)(g:GS):TS:=λD σ H=>∃ρ θ M,gq X.K θ H σ ρ/\Wr X.K θ H M/\bT X θ H D (g ρ M)
variable{M:aw}{Q:Bool->Hp->Prop}
section
variable {X:Cx}{θ θ':List Addr}{H H':Hp}{M':aw}
def cH.go {c:Str}(g:Go X.K θ H θ' H' M')(h:cH X θ H c M):cH X θ' H' c M:=λC θ2 H2 a s' k g2 fl=>h C θ2 H2 a s' k (g.trans g2) fl
def aC.go {Q:VK}{o:aN D}(g:Go X.K θ H θ' H' M')(h:aC X θ H Q o):aC X θ' H' Q o:=by
 cases o with
 | ok d M=>exact λv θ2 H2 g2=>h v θ2 H2 (g.trans g2)
 | err c M=>exact cH.go (c:=c) (M:=M) g h
 | bad=>exact h
def jz.go {o:aN Bool}(g:Go X.K θ H θ' H' M')(h:jz X θ H Q o):jz X θ' H' Q o:=by
 cases o with
 | ok d M=>exact λθ2 H2 g2=>h θ2 H2 (g.trans g2)
 | err c M=>exact cH.go (c:=c) (M:=M) g h
 | bad=>exact h
def v4.go {Q:List V->Hp->Prop}{o:aN (List D)}(g:Go X.K θ H θ' H' M')(h:v4 X θ H Q o):v4 X θ' H' Q o:=by
 cases o with
 | ok d M=>exact λv θ2 H2 g2=>h v θ2 H2 (g.trans g2)
 | err c M=>exact cH.go (c:=c) (M:=M) g h
 | bad=>exact h
def bT.go {D:vJ}{o:aN Fl}(g:Go X.K θ H θ' H' M')(h:bT X θ H D o):bT X θ' H' D o:=by
 cases o with
 | ok f M=>cases f <;> exact λv θ2 H2 g2=>h v θ2 H2 (g.trans g2)
 | err c M=>exact cH.go (c:=c) (M:=M) g h
 | bad=>exact h
end
variable{es:List Expr}{g:GE}{ρ:bv}{pos:Pos}{op:CmpOp}
section
variable {X:Cx}{e:Expr}
def _root_.L2.PE.of {t t':TE}(h:PE X e t)(w:∀σ H Q,t' σ H Q->t σ H Q):PE X e t':=λaa s σ H Q I q=>h aa s σ H Q I (w σ H Q q)
def _root_.L2.PT.of {t t':TT}(h:PT X e t)(w:∀σ H Q,t' σ H Q->t σ H Q):PT X e t':=λaa s σ H Q I q=>h aa s σ H Q I (w σ H Q q)
def _root_.L2.PW.of {t t':TT}(h:PW X e t)(w:∀σ H Q,t' σ H Q->t σ H Q):PW X e t':=λwh aa s σ H Q I q=>h wh aa s σ H Q I (w σ H Q q)
def _root_.L2.PA.of {t t':TA}(h:PA X es t)(w:∀σ H Q,t' σ H Q->t σ H Q):PA X es t':=λpos aa s σ H Q I q=>h pos aa s σ H Q I (w σ H Q q)
def _root_.L2.PS.of {st:Stmt}{t t':TS}(h:PS X st t)(w:∀D σ H,t' D σ H->t D σ H):PS X st t':=λaa s σ H D I q=>h aa s σ H D I (w D σ H q)
def _root_.L2.PSs.of {st:List Stmt}{t t':TS}(h:PSs X st t)(w:∀D σ H,t' D σ H->t D σ H):PSs X st t':=λaa s σ H D I q=>h aa s σ H D I (w D σ H q)
def bo {Q:VK}{α:Type}(hd:gq X.K θ H σ ρ)(hw:Wr X.K θ H M)(F:aN α->Prop)(Fe:∀c M',F (.err c M')->cH X θ H c M')(Fb:F .bad->False)
  {f:D->aw->aN α} (h:F ((g ρ M).bind f))
  (k:∀d M1 v θ1 H1,Go X.K θ H θ1 H1 M1->isD X.K θ1 H1 d v->F (f d M1)->Q v H1):tE X g σ H Q:=by
 refine⟨ρ,θ,M,hd,hw,?_⟩;cases q:g ρ M with
 | ok d M1=>
  rw[q] at h;exact λv θ1 H1 g1 r1=>k d M1 v θ1 H1 g1 r1 h
 | err c M1=>rw[q] at h;exact Fe c M1 h
 | bad=>rw[q] at h;exact(Fb h).elim
def af (i:Nat):GE:=λρ M=>match ρ[i]? with
 | some (Z d)=>.ok d M
 | _=>.bad
def gC (d:D):GE:=λ_ M=>.ok d M
def EE (h:PE X e (GX i)):PE X e (tE X (af i)):=h.of λσ H Q hxx=>by
 refine q3x3 hxx λρ θ M hd hw f=>?_;unfold af at f;split at f
 ·rename_i d q;refine q1x2 (hd.at_ i d q) λv e1 r=>?_;exact⟨v,e1,f v θ H (.refl hw) r⟩
 ·exact f.elim
def Cv {i j pos}:PE X (.Constant (.int i) j pos) (tE X (gC (.int i))):=Ex.of λσ H Q ⟨ρ,θ,M,hd,hw,f⟩=>f _ θ H (.refl hw) rfl
def F7 {b j pos}:PE X (.Constant (.bool b) j pos) (tE X (gC (.bl b))):=Gk.of λσ H Q ⟨ρ,θ,M,hd,hw,f⟩=>f _ θ H (.refl hw) rfl
def B2 {j pos}:PE X (.Constant .none j pos) (tE X (gC .non)):=DM.of λσ H Q ⟨ρ,θ,M,hd,hw,f⟩=>f _ θ H (.refl hw) rfl
def Ee {x j pos}:PE X (.Constant (.str x) j pos) (tE X (gC (.str x))):=Dm.of λσ H Q ⟨ρ,θ,M,hd,hw,f⟩=>f _ θ H (.refl hw) rfl
abbrev F2:=D->D->aw->aN D
def g2 (f:F2)(ga gb:GE):GE:=λρ M=>(ga ρ M).bind λx M1=>(gb ρ M1).bind λy M2=>f x y M2
def rD (X:Cx)(f:F2):R2:=λx y H Q=>∃θ M dx dy,Wr X.K θ H M/\isD X.K θ H dx x/\isD X.K θ H dy y/\aC X θ H Q (f dx dy M)
def uz {f:F2}{ga gb:GE}{Q:VK}(h:tE X (g2 f ga gb) σ H Q):Fd (rD X f) (tE X ga) (tE X gb) σ H Q:=by
 refine q3x3 h λρ θ M hd hw h=>?_;refine bo hd hw (aC X θ H Q) (λc M' h=>h) (λh=>h) h λdx M1 x θ1 H1 g1 r1 h1=>?_
 refine bo (hd.go g1) g1.wr (aC X θ1 H1 Q) (λc M' h=>h) (λh=>h) (h1.go g1) λdy M2 y θ2 H2 g2 r2 h2=>?_
 exact⟨θ2,M2,dx,dy,g2.wr,r1.go g2,r2,h2.go g2⟩
def F4 {a b:Expr}{op:Operator}{f:F2}{ga gb:GE}(ho:fN X (binaryOp op) (rD X f))(ha:PE X a (tE X ga))(hb:PE X b (tE X gb)):PE X (.BinOp a op b pos) (tE X (g2 f ga gb)):=
 (EV ho ha hb).of λ_ _ _ h=>uz h
def Ef {a b:Expr}{f:F2}{ga gb:GE}(ho:fN X (compareOp op) (rD X f))(ha:PE X a (tE X ga))(hb:PE X b (tE X gb))(hm:behindInMarks op b=false):PE X (.Compare a [op] [b] pos) (tE X (g2 f ga gb)):=
 (AW ho ha hb hm).of λ_ _ _ h=>uz h
def GP:D->aw->aN Bool
 | .bl b,M=>.ok b M
 | _,_=>.bad
def aB (g:GE):GT:=λρ M=>(g ρ M).bind GP
def wN {o:aN D}(h:jz X θ H Q (o.bind GP)):aC X θ H (λx H'=>∃k,x=.bl k/\Q k H') o:=by
 cases o with
 | ok d M=>
  cases d with
  | bl b=>exact λv θ1 H1 g1 r1=>⟨b,r1,h θ1 H1 g1⟩
  | _=>exact h.elim
 | err c M=>exact h
 | bad=>exact h
def yG (h:tT X (aB g) σ H Q):tE X g σ H λx H'=>∃k,x=.bl k/\Q k H':=by
 refine q3x3 h λρ θ M hd hw h=>?_;exact⟨ρ,θ,M,hd,hw,wN h⟩
def wY {a b:Expr}{f:F2}{ga gb:GE}(ho:fN X (compareOp op) (rD X f))(ha:PE X a (tE X ga))(hb:PE X b (tE X gb))(hm:behindInMarks op b=false):PT X (.Compare a [op] [b] pos) (tT X (aB (g2 f ga gb))):=
 (Ah ho ha hb hm).of λσ H Q h=>uz (yG h)
def dA (a b:GT):GT:=λρ M=>(a ρ M).bind λc M1=>if c then b ρ M1 else .ok false M1
def eJ (a b:GT):GT:=λρ M=>(a ρ M).bind λc M1=>if c then .ok true M1 else b ρ M1
def d7 (a:GT):GT:=λρ M=>(a ρ M).bind λc M1=>.ok (!c) M1
def qW {g:GT}{α:Type}(hd:gq X.K θ H σ ρ)(hw:Wr X.K θ H M)(F:aN α->Prop)(Fe:∀c M',F (.err c M')->cH X θ H c M')(Fb:F .bad->False)
  {f:Bool->aw->aN α} (h:F ((g ρ M).bind f)) (k:∀d M1 θ1 H1,Go X.K θ H θ1 H1 M1->F (f d M1)->Q d H1):tT X g σ H Q:=by
 refine⟨ρ,θ,M,hd,hw,?_⟩;cases q:g ρ M with
 | ok d M1=>
  rw[q] at h;exact λθ1 H1 g1=>k d M1 θ1 H1 g1 h
 | err c M1=>rw[q] at h;exact Fe c M1 h
 | bad=>rw[q] at h;exact(Fb h).elim
variable {a b:Expr}{pos:Pos}{rest:List Expr}{ta tb:GT}{ga gb:GE}
def zz (ha:PT X a (tT X ta)):PW X (.BoolOp .And [a] pos) (tT X ta):=AJ ha
def Ck (ha:PT X a (tT X ta)):PW X (.BoolOp .Or [a] pos) (tT X ta):=Dh ha
def C5 (ha:PT X a (tT X ta))(hb:PW X (.BoolOp .And (b::rest) pos) (tT X tb)):PW X (.BoolOp .And (a::b::rest) pos) (tT X (dA ta tb)):=(Dd ha hb).of λσ H Q hxx=>by
 refine q3x3 hxx λρ θ M hd hw h=>?_;refine qW hd hw (jz X θ H Q) (λc M' h=>h) (λh=>h) h λc M1 θ1 H1 g1 h1=>?_
 cases c with
 | true=>exact⟨ρ,θ1,M1,hd.go g1,g1.wr,jz.go g1 h1⟩
 | false=>exact h1 θ1 H1 g1
def Ff (ha:PT X a (tT X ta))(hb:PW X (.BoolOp .Or (b::rest) pos) (tT X tb)):PW X (.BoolOp .Or (a::b::rest) pos) (tT X (eJ ta tb)):=(Gn ha hb).of λσ H Q hxx=>by
 refine q3x3 hxx λρ θ M hd hw h=>?_;refine qW hd hw (jz X θ H Q) (λc M' h=>h) (λh=>h) h λc M1 θ1 H1 g1 h1=>?_
 cases c with
 | true=>exact h1 θ1 H1 g1
 | false=>exact⟨ρ,θ1,M1,hd.go g1,g1.wr,jz.go g1 h1⟩
def Cy (ha:PT X a (tT X ta)):PT X (.UnaryOp .Not a pos) (tT X (d7 ta)):=(CC ha).of λσ H Q hxx=>by
 refine q3x3 hxx λρ θ M hd hw h=>?_;exact qW hd hw (jz X θ H Q) (λc M' h=>h) (λh=>h) h λc M1 θ1 H1 g1 h1=>h1 θ1 H1 g1
def ah:GA:=λ_ M=>.ok [] M
def ae (g:GE)(r:GA):GA:=λρ M=>(g ρ M).bind λd M1=>(r ρ M1).bind λds M2=>.ok (d::ds) M2
def ml {g:GA}{Q:List V->Hp->Prop}{α:Type}(hd:gq X.K θ H σ ρ)(hw:Wr X.K θ H M)(F:aN α->Prop)(Fe:∀c M',F (.err c M')->cH X θ H c M')(Fb:F .bad->False)
  {f:List D->aw->aN α} (h:F ((g ρ M).bind f)) (k:∀ds M1 vs θ1 H1,Go X.K θ H θ1 H1 M1->isDs X.K θ1 H1 ds vs->F (f ds M1)->Q vs H1):tA X g σ H Q:=by
 refine⟨ρ,θ,M,hd,hw,?_⟩;cases q:g ρ M with
 | ok d M1=>
  rw[q] at h;exact λv θ1 H1 g1 r1=>k d M1 v θ1 H1 g1 r1 h
 | err c M1=>rw[q] at h;exact Fe c M1 h
 | bad=>rw[q] at h;exact(Fb h).elim
def Dr:PA X [] (tA X ah):=iS.of λσ H Q ⟨ρ,θ,M,hd,hw,f⟩=>f [] θ H (.refl hw) rfl
def Av {gr:GA}(ha:PE X e (tE X ga))(hr:PA X es (tA X gr))(hs:starEach (e::es) X.env=(false,eval e X.env)::starEach es X.env:=by rfl):PA X (e::es) (tA X (ae ga gr)):=
 (fB ha hr hs).of λσ H Q hxx=>by
  refine q3x3 hxx λρ θ M hd hw h=>?_;refine bo hd hw (v4 X θ H Q) (λc M' h=>h) (λh=>h) h λd M1 v θ1 H1 g1 r1 h1=>?_
  refine ml (hd.go g1) g1.wr (v4 X θ1 H1 Q) (λc M' h=>h) (λh=>h) (h1.go g1) λds M2 vs θ2 H2 g2 r2 h2=>?_
  exact h2 (v::vs) θ2 H2 g2 ⟨v,vs,rfl,r1.go g2,r2⟩
def lA (ds:List D)(M:aw):aN D:=if ds.length<=sizeLine then .ok (.tup ds) M else .bad
def aA (ds:List D)(M:aw):aN D:=if ds.length<=sizeLine then .ok (.lst ds) M else .bad
def dk (ds:List D)(M:aw):aN D:=if ds.length<=sizeLine then .ok (.mr M.length) (M++[.lst ds]) else .bad
def cp (g:GA):GE:=λρ M=>(g ρ M).bind lA
def du (g:GA):GE:=λρ M=>(g ρ M).bind aA
def jp (g:GA):GE:=λρ M=>(g ρ M).bind dk
def aC.tup {Q:VK}(h:aC X θ H Q (lA ds M))(hw:Wr X.K θ H M)(r:isDs X.K θ H ds vs):vs.length<=sizeLine/\∀p,H p=Y->Q (.ref p) (bu H p (.tup vs)):=by
 unfold lA at h
 by_cases hl:ds.length<=sizeLine
 ·rw[if_pos hl] at h;exact⟨by rw[<-ao r];exact hl,λp hp=>h _ θ _ (cJ hw hp) (gw hw hp r)⟩
 ·rw[if_neg hl] at h;exact h.elim
def aC.lst {Q:VK}(h:aC X θ H Q (aA ds M))(hw:Wr X.K θ H M)(r:isDs X.K θ H ds vs):vs.length<=sizeLine/\∀p,H p=Y->Q (.ref p) (bu H p (.lst vs)):=by
 unfold aA at h
 by_cases hl:ds.length<=sizeLine
 ·rw[if_pos hl] at h;exact⟨by rw[<-ao r];exact hl,λp hp=>h _ θ _ (cJ hw hp) (f6 hw hp r)⟩
 ·rw[if_neg hl] at h;exact h.elim
def aC.mut {Q:VK}(h:aC X θ H Q (dk ds M))(hw:Wr X.K θ H M)(r:isDs X.K θ H ds vs):vs.length<=sizeLine/\∀p,H p=Y->Q (.ref p) (bu H p (.lst vs)):=by
 unfold dk at h
 by_cases hl:ds.length<=sizeLine
 ·rw[if_pos hl] at h;refine⟨by rw[<-ao r];exact hl,λp hp=>h _ (θ++[p]) _ (zh hw hp r) ⟨p,rfl,?_⟩⟩;rw[<-hw.len,getElem?_append_right (Nat.le_refl _)];simp
 ·rw[if_neg hl] at h;exact h.elim
def CG {x1}{g:GA}(h:PA X es (tA X g)):PE X (.Tuple es x1 pos) (tE X (cp g)):=(CB h).of λσ H Q ⟨ρ,θ,M,hd,hw,h⟩=>
 ml hd hw (aC X θ H Q) (λc M' h=>h) (λh=>h) h λds M1 vs θ1 H1 g1 r1 h1=>aC.tup (aC.go g1 h1) g1.wr r1
def DV {g:GA}(h:PA X es (tA X g)):PE X (.List es pos) (tE X (du g)):=(yX h).of λσ H Q ⟨ρ,θ,M,hd,hw,h⟩=>
 ml hd hw (aC X θ H Q) (λc M' h=>h) (λh=>h) h λds M1 vs θ1 H1 g1 r1 h1=>aC.lst (aC.go g1 h1) g1.wr r1
def DW {g:GA}(h:PA X es (tA X g)):PE X (.List es pos) (tE X (jp g)):=(yX h).of λσ H Q ⟨ρ,θ,M,hd,hw,h⟩=>
 ml hd hw (aC X θ H Q) (λc M' h=>h) (λh=>h) h λds M1 vs θ1 H1 g1 r1 h1=>aC.mut (aC.go g1 h1) g1.wr r1
end
section
variable {K:W.Frag}{θ:List Addr}{H:Hp}{σ:L2.St}{ρ:bv}
def gq.set (h:gq K θ H σ ρ)(r:isD K θ H d v)(i:Nat):gq K θ H (σ.set i (Z v)) (ρ.set i (Z d)):=by
 refine⟨by rw[length_set,length_set];exact h.len,λj d' e=>?_⟩
 by_cases hj:j=i
 ·subst hj;have hl:j<ρ.length:=by
   have:=(List.getElem?_eq_some_iff.mp e).1;rw[length_set] at this;exact this
  rw[getElem?_set_self hl] at e;have e':d=d':=by simpa using e
  subst e';exact⟨v,getElem?_set_self (by rw[<-h.len];exact hl),r⟩
 ·rw[getElem?_set_ne (Ne.symm hj)] at e;refine q1x2 (h.at_ j d' e) λu e1 r1=>?_;exact⟨u,by rw[getElem?_set_ne (Ne.symm hj)];exact e1,r1⟩
end
def aP:GS:=λρ M=>.ok (.nx ρ) M
def av (a b:GS):GS:=λρ M=>(a ρ M).bind λf M1=>match f with
 | .nx ρ1=>b ρ1 M1
 | .rt d=>.ok (.rt d) M1
 | .bk ρ1=>.ok (.bk ρ1) M1
 | .ct ρ1=>.ok (.ct ρ1) M1
def ay (i:Nat)(g:GE):GS:=λρ M=>(g ρ M).bind λd M1=>.ok (.nx (ρ.set i (Z d))) M1
def bw (g:GE):GS:=λρ M=>(g ρ M).bind λd M1=>.ok (.rt d) M1
def fz (g:GE):GS:=λρ M=>(g ρ M).bind λ_ M1=>.ok (.nx ρ) M1
def dY (t:GT)(a b:GS):GS:=λρ M=>(t ρ M).bind λc M1=>if c then a ρ M1 else b ρ M1
variable{x:Str}{is:List Nat}{n:Nat}
section
variable {X:Cx}{st:Stmt}{rest:List Stmt}{e:Expr}{g:GE}{t u:GS}{pos:Pos}
def Cp:PSs X [] (tS X aP):=zQ.of λD σ H ⟨ρ,θ,M,hd,hw,f⟩=>f σ θ H (.refl hw) hd
def AV (h1:PS X st (tS X t))(h2:PSs X rest (tS X u)):PSs X (st::rest) (tS X (av t u)):=(wA h1 h2).of λD σ H hxx=>by
 refine q3x3 hxx λρ θ M hd hw h=>?_;refine⟨ρ,θ,M,hd,hw,?_⟩;unfold av at h;cases q:t ρ M with
 | ok f M1=>
  rw[q] at h;cases f with
  | nx ρ1=>exact λσ1 θ1 H1 g1 d1=>⟨ρ1,θ1,M1,d1,g1.wr,bT.go g1 h⟩
  | rt d=>exact h
  | bk ρ1=>exact h
  | ct ρ1=>exact h
 | err c M1=>rw[q] at h;exact h
 | bad=>rw[q] at h;exact h
def Ct (h1:PS X st (tS X t)):PSs X [st] (tS X t):=zP h1
def CA {pos':Pos}(hN:X.N.Nodup)(hi:X.N[i]?=Z x)(hx:rH X.env.scope x)(he:PE X e (tE X g))(hs:swapsWith e (Z (.Name x pos')) pos.line X.env=pure false:=by rfl)(hf:X.fn x=true\/X.env.scope.names.lookup x=Z .local:=by first|exact .inl rfl|exact .inr rfl|assumption) :
  PS X (.Assign [.Name x pos'] e pos) (tS X (ay i g)):=(Et hN hi hx he hs hf).of λD σ H ⟨ρ,θ,M,hd,hw,h⟩=>
 bo hd hw (bT X θ H D) (λc M' h=>h) (λh=>h) h λd M1 v θ1 H1 g1 r1 h1=>h1 _ θ1 H1 g1 ((hd.go g1).set r1 i)
def D8 (he:PE X e (tE X g)):PS X (.Return (Z e) pos) (tS X (bw g)):=(CD he).of λD σ H ⟨ρ,θ,M,hd,hw,h⟩=>
 bo hd hw (bT X θ H D) (λc M' h=>h) (λh=>h) h λd M1 v θ1 H1 g1 r1 h1=>h1 v θ1 H1 g1 r1
def zF (he:PE X e (tE X g))(hs:swapsWith e Y pos.line X.env=pure false:=by rfl):PS X (.Expr e pos) (tS X (fz g)):=(AG he hs).of λD σ H ⟨ρ,θ,M,hd,hw,h⟩=>
 bo hd hw (bT X θ H D) (λc M' h=>h) (λh=>h) h λd M1 v θ1 H1 g1 r1 h1=>h1 σ θ1 H1 g1 (hd.go g1)
def Gf {c:Expr}{a b:List Stmt}{tc:GT}(hc:PT X c (tT X tc))(ha:PSs X a (tS X t))(hb:PSs X b (tS X u)):PS X (.If c a b pos) (tS X (dY tc t u)):=(G1 hc ha hb).of λD σ H hxx=>by
 refine q3x3 hxx λρ θ M hd hw h=>?_;refine qW hd hw (bT X θ H D) (λc M' h=>h) (λh=>h) h λc M1 θ1 H1 g1 h1=>?_
 cases c with
 | true=>rw[if_pos rfl];exact⟨ρ,θ1,M1,hd.go g1,g1.wr,bT.go g1 h1⟩
 | false=>rw[if_neg Bool.false_ne_true];exact⟨ρ,θ1,M1,hd.go g1,g1.wr,bT.go g1 h1⟩
abbrev GG:=D->bv->Option bv
def tG (X:Cx)(s:GG):TG:=λv σ H Q=>∃ρ θ M d,gq X.K θ H σ ρ/\Wr X.K θ H M/\isD X.K θ H d v/\∃ρ',s d ρ=Z ρ'/\∀σ',gq X.K θ H σ' ρ'->Q σ' H
def bP (i:Nat):GG:=λd ρ=>Z (ρ.set i (Z d))
def jo:List Nat->List D->bv->Option bv
 | [],[],ρ=>Z ρ
 | i::is,d::ds,ρ=>jo is ds (ρ.set i (Z d))
 | _,_,_=>Y
def dn (is:List Nat):GG:=λd ρ=>match d with
 | .tup ds=>jo is ds ρ
 | _=>Y
def oZ (hN:X.N.Nodup)(hi:X.N[i]?=Z x)(hx:rH X.env.scope x)(hf:X.fn x=true\/X.env.scope.names.lookup x=Z .local:=by first|exact .inl rfl|exact .inr rfl|assumption):PG X (.Name x pos) (tG X (bP i)):=by
 intro aa s σ H v u Q I r h;obtain⟨ρ,θ,M,d,hd,hw,rd,ρ',e,h⟩:=h;cases e;exact Bi hN hi hx hf aa s σ H v u Q I r (h _ (hd.set rd i))
def GR (X:Cx)(is:List Nat):BI:=λvs σ H Q=>∃ρ θ M ds,gq X.K θ H σ ρ/\Wr X.K θ H M/\isDs X.K θ H ds vs/\∃ρ',jo is ds ρ=Z ρ'/\∀σ',gq X.K θ H σ' ρ'->Q σ' H
def AD:zT X [] (GR X []):=by
 intro aa s σ H vs us Q I r h;obtain⟨ρ,θ,M,ds,hd,hw,rd,ρ',e,h⟩:=h;cases ds with
 | cons d ds=>cases e
 | nil=>
  have e2:vs=[]:=rd;subst e2;cases e;exact AU aa s σ H [] us Q I r ⟨rfl,h σ hd⟩
def xm (h1:PG X e (tG X (bP i)))(h2:zT X es (GR X is))
  (hs:(assignEach (e::es) X.env).map (·.2)=assign e X.env::(assignEach es X.env).map (·.2):=by rfl):zT X (e::es) (GR X (i::is)):=by
 intro aa s σ H vs us Q I r h;obtain⟨ρ,θ,M,ds,hd,hw,rd,ρ',e1,h⟩:=h;cases ds with
 | nil=>cases e1
 | cons d ds=>
  refine q2x3 rd λv vr e2 rv rr=>?_;subst e2;refine zj h1 h2 hs aa s σ H _ us Q I r ⟨v,vr,rfl,ρ,θ,M,d,hd,hw,rv,_,rfl,λσ1 d1=>?_⟩;exact⟨_,θ,M,ds,d1,hw,rr,ρ',e1,h⟩
def DB {k:Nat}(hc:X.calm=true)(h:zT X es (GR X is))(hl:is.length=n:=by rfl)
  (hn:(assignEach es X.env).length=n:=by rfl) (hst:(assignEach es X.env).findIdx? (·.1)=Y:=by rfl):PG X (.Tuple es k pos) (tG X (dn is)):=by
 intro aa s σ H v u Q I r hw;obtain⟨ρ,θ,M,d,hd,hwr,rd,ρ',e1,hw⟩:=hw;cases d with
 | tup ds=>
  obtain⟨a,vs,e2,ta,rs⟩:=rd;have hlen:ds.length=is.length:=by
   have e1:jo is ds ρ=Z ρ':=e1;clear hw hd hwr rs hn hst h hl
   induction is generalizing ds ρ with
   | nil=>
    cases ds with
    | nil=>rfl
    | cons _ _=>cases e1
   | cons i is ih=>
    cases ds with
    | nil=>cases e1
    | cons d ds=>rw[length_cons,length_cons,ih _ ds e1 e1]
  refine D1 (n:=n) hc h hn hst aa s σ H v u Q I r ⟨a,vs,e2,ta.sq,by rw[<-ao rs,hlen,hl],?_⟩;exact⟨ρ,θ,M,ds,hd,hwr,rs,ρ',e1,hw⟩
 | _=>cases e1
def tq (o i x:D)(M:aw):aN Unit:=match o,i with
 | .mr k,.int j=>match M[k]? with
  | some (.lst xs)=>match xN xs.length j with
   | some n=>.ok () (M.set k (.lst (xs.set n x)))
   | none=>.bad
  | _=>.bad
 | _,_=>.bad
def gE (go gi g:GE):GS:=λρ M=>(g ρ M).bind λx M1=>(go ρ M1).bind λo M2=>(gi ρ M2).bind λi M3=>(tq o i x M3).bind λ_ M4=>.ok (.nx ρ) M4
def Ej {o i:Expr}{ip:Pos}{go gi:GE}(he:PE X e (tE X g))(ho:PE X o (tE X go))(hi:PE X i (tE X gi))
  (ha:∀v,assign (.Subscript o i ip) X.env v=(do
   let ov <-holding [v] (eval o X.env)
   let iv <-holding [v,ov] (eval i X.env)
   standAt ip
   holding [v,ov,iv] (setItem ov iv v)
   release [v,ov,iv] []):=by intro _;rfl)
  (hs:swapsWithSole [.Subscript o i ip] e pos.line X.env=pure false:=by rfl) (hw:swappedStores [.Subscript o i ip] e X.env=pure Y:=by rfl)
  (h1:(assignEach [.Subscript o i ip] X.env).map (·.2)=[assign (.Subscript o i ip) X.env]:=by rfl):PS X (.Assign [.Subscript o i ip] e pos) (tS X (gE go gi g)):=
 (De he (BR ho hi zb ha) hs hw h1).of λD σ H hxx=>by
  refine q3x3 hxx λρ θ M hd hwr h=>?_;refine bo hd hwr (bT X θ H D) (λc M' h=>h) (λh=>h) h λdx M1 vx θ1 H1 g1 r1 h1=>?_
  refine bo (hd.go g1) g1.wr (bT X θ1 H1 D) (λc M' h=>h) (λh=>h) (h1.go g1) λdob M2 vo θ2 H2 g2 r2 h2=>?_
  refine bo ((hd.go g1).go g2) g2.wr (bT X θ2 H2 D) (λc M' h=>h) (λh=>h) (h2.go g2) λdi M3 vi θ3 H3 g3 r3 h3=>?_
  have h4:=h3.go g3;unfold tq at h4;split at h4
  ·rename_i k j;split at h4
   ·rename_i xs q;split at h4
    ·rename_i n hn;refine q1x2 (r2.go g3) λa ea ta=>?_;refine q1x2 (g3.wr.at_ k a _ ta q) λvs ev rv=>?_;have ei:vi=.int j:=r3;refine⟨a,vs,j,n,ea,ei,ev,by rw[<-ao rv];exact hn,?_⟩;have gs:=sT (ds:=xs) g3.wr ta (qJ (r1.go (g2.trans g3)) n rv);exact h4 σ θ3 _ gs ((((hd.go g1).go g2).go g3).go gs)
    ·exact h4.elim
   ·exact h4.elim
  ·exact h4.elim
end
mutual
def Ag:D->D->Bool
 | .non,.non=>true
 | .bl a,.bl b=>a==b
 | .int a,.int b=>a==b
 | .str a,.str b=>a==b
 | .tup a,.tup b=>iH a b
 | .lst a,.lst b=>iH a b
 | .ro a,.ro b=>iH a b
 | .mr a,.mr b=>a==b
 | .exc a,.exc b=>a==b
 | .any,.any=>true
 | _,_=>false
def iH:List D->List D->Bool
 | [],[]=>true
 | a::as,b::bs=>Ag a b&&iH as bs
 | _,_=>false
end
def ff {P:Prop}(h:false=true):P:=absurd h Bool.false_ne_true
mutual
theorem AF:∀(a b:D),Ag a b=true->a=b
 | .non,b,h=>by
  cases b with
  | non=>rfl
  | _=>exact ff h
 | .bl x,b,h=>by
  cases b with
  | bl y=>rw[eq_of_beq (show(x==y)=true from h)]
  | _=>exact ff h
 | .int x,b,h=>by
  cases b with
  | int y=>rw[eq_of_beq (show(x==y)=true from h)]
  | _=>exact ff h
 | .str x,b,h=>by
  cases b with
  | str y=>rw[eq_of_beq (show(x==y)=true from h)]
  | _=>exact ff h
 | .tup x,b,h=>by
  cases b with
  | tup y=>rw[g9 x y h]
  | _=>exact ff h
 | .lst x,b,h=>by
  cases b with
  | lst y=>rw[g9 x y h]
  | _=>exact ff h
 | .ro x,b,h=>by
  cases b with
  | ro y=>rw[g9 x y h]
  | _=>exact ff h
 | .mr x,b,h=>by
  cases b with
  | mr y=>rw[eq_of_beq (show(x==y)=true from h)]
  | _=>exact ff h
 | .exc x,b,h=>by
  cases b with
  | exc y=>rw[eq_of_beq (show(x==y)=true from h)]
  | _=>exact ff h
 | .any,b,h=>by
  cases b with
  | any=>rfl
  | _=>exact ff h
theorem g9:∀(a b:List D),iH a b=true->a=b
 | [],b,h=>by
  cases b with
  | nil=>rfl
  | cons _ _=>exact ff h
 | x::xs,b,h=>by
  cases b with
  | nil=>exact ff h
  | cons y ys=>
   have h:=Bool.and_eq_true_iff.mp (show(Ag x y&&iH xs ys)=true from h);rw[AF x y h.1,g9 xs ys h.2]
end
mutual
theorem ve:∀(a:D),Ag a a=true
 | .non=>rfl
 | .bl x=>beq_self_eq_true x
 | .int x=>beq_self_eq_true x
 | .str x=>beq_self_eq_true x
 | .tup x=>fh x
 | .lst x=>fh x
 | .ro x=>fh x
 | .mr x=>beq_self_eq_true x
 | .exc x=>beq_self_eq_true x
 | .any=>rfl
theorem fh:∀(a:List D),iH a a=true
 | []=>rfl
 | x::xs=>Bool.and_eq_true_iff.mpr ⟨ve x,fh xs⟩
end
structure jP where
 ds:List D
 m:Option Nat
def jP.ok (t:jP)(M:aw):Bool:=match t.m with
 | none=>true
 | some i=>match M[i]? with
  | some (.lst xs)=>iH xs t.ds
  | _=>false
abbrev GI:=bv->aw->aN jP
def xW (K:W.Frag)(J:It)(θ:List Addr)(H:Hp)(t:jP):Prop:=∀θ1 H1 M1,Go K θ H θ1 H1 M1->t.ok M1=true->∀i:Nat,
 (∀d,t.ds[i]?=Z d->J.go i H1/\∀x H2,J.yld i H1 x H2->Go K θ1 H1 θ1 H2 M1/\isD K θ1 H2 d x)/\(t.ds.length<=i->J.stop i H1)
def xQ (X:Cx)(θ:List Addr)(H:Hp)(R:It->Hp->Prop):aN jP->Prop
 | .ok t M'=>∀J θ' H',Go X.K θ H θ' H' M'->xW X.K J θ' H' t->R J H'
 | .err c M'=>cH X θ H c M'
 | .bad=>False
def tI (X:Cx)(g:GI):TI:=λσ H R=>∃ρ θ M,gq X.K θ H σ ρ/\Wr X.K θ H M/\xQ X θ H R (g ρ M)
def uA (d:D)(M:aw):aN jP:=match d with
 | .lst ds=>.ok ⟨ds,Y⟩ M
 | .ro ds=>.ok ⟨ds,Y⟩ M
 | .tup ds=>.ok ⟨ds,Y⟩ M
 | .mr k=>match M[k]? with
  | some (.lst ds)=>.ok ⟨ds,Z k⟩ M
  | _=>.bad
 | _=>.bad
def aY (g:GE):GI:=λρ M=>(g ρ M).bind uA
variable{iter:Expr}{body:List Stmt}{sg:GG}{gb:GS}
section
variable {X:Cx}{tg:Expr}
def Fg {l:Expr}{tl:TE}(hl:PE X l tl):PI X tg l (λσ H R=>tl σ H λx H1=>∃a,x=.ref a/\(((∃xs,jt X.K H1 a xs)/\R (Hb X.K a) H1)\/((∃xs,oo X.K H1 a xs)/\R (Iv X.K a) H1))):=by
 intro aa s σ H R I h;refine bM (hl aa s σ H _ I h) λv s1 hxx=>?_
 obtain⟨x,H1,I1,r1,q1⟩:=hxx;obtain⟨a,e,q1⟩:=q1;subst e;cases r1;rcases q1 with⟨⟨xs,hq⟩,q⟩|⟨⟨xs,hq⟩,q⟩
 ·obtain⟨its,rv,p,hz⟩:=I1.list hq;refine wpAny_pyIter_list p.isList ?_;refine⟨s1.heap.objs.size,[s1.heap.objs.size],_,_,H1,rfl,I1.kept (t':=s1.toks) λb o e=>Heap.get?_push_of_some _ e,vK a _,⟨_,Heap.get?_push_size _ rfl,rfl,rfl⟩,λb hb=>?_,q⟩;have e:b=s1.heap.objs.size:=by simpa using hb
  subst e;exact I1.fpOk (Nat.le_refl _) (I1.hok.fresh (Nat.le_refl _))
 ·obtain⟨its,rv,p,hz⟩:=I1.tuple hq;refine wpAny_pyIter_tuple (show s1.heap.IsTuple a its.toArray from p) ?_;refine⟨s1.heap.objs.size,[s1.heap.objs.size],_,_,H1,rfl,I1.kept (t':=s1.toks) λb o e=>Heap.get?_push_of_some _ e,sR a _,⟨_,Heap.get?_push_size _ rfl,rfl,rfl⟩,λb hb=>?_,q⟩;have e:b=s1.heap.objs.size:=by simpa using hb
  subst e;exact I1.fpOk (Nat.le_refl _) (I1.hok.fresh (Nat.le_refl _))
def tU (ta:lN K θ H a vs)(r:isDs K θ H ds vs):xW K (Hb K a) θ H ⟨ds,Y⟩:=by
 intro θ1 H1 M1 g _ i;have t1:=(ta.grow g.toGrow).sq;have r1:=r.go g;refine⟨λd e=>?_,λhl=>⟨vs,t1,by rw[<-ao r1];exact hl⟩⟩;refine q1x2 (cQ r1 e) λv e1 rv=>?_;refine⟨⟨vs,v,t1,e1⟩,λx H2 y=>?_⟩;refine q0x2 y λeH y=>?_;subst eH;have e2:=y vs t1;rw[e1] at e2;cases e2;exact⟨.refl g.wr,rv⟩
def zD (ta:jT K θ H a vs)(r:isDs K θ H ds vs):xW K (Iv K a) θ H ⟨ds,Y⟩:=by
 intro θ1 H1 M1 g _ i;have t1:=(ta.grow g.toGrow).sq;have r1:=r.go g;refine⟨λd e=>?_,λhl=>⟨vs,t1,by rw[<-ao r1];exact hl⟩⟩;refine q1x2 (cQ r1 e) λv e1 rv=>?_;refine⟨⟨vs,v,t1,e1⟩,λx H2 y=>?_⟩;refine q0x2 y λeH y=>?_;subst eH;have e2:=y vs t1;rw[e1] at e2;cases e2;exact⟨.refl g.wr,rv⟩
def Ak {k:Nat}(ta:θ[k]?=Z a):xW K (Hb K a) θ H ⟨ds,Z k⟩:=by
 intro θ1 H1 M1 g hok i;have t1:θ1[k]?=Z a:=by
  refine q1x2 g.ext λm em _=>?_;rw[em,getElem?_append_left (List.getElem?_eq_some_iff.mp ta).1];exact ta
 have hok':(match M1[k]? with|some (.lst xs)=>iH xs ds|_=>false)=true:=hok;cases q:M1[k]? with
 | none=>rw[q] at hok';cases hok'
 | some m=>
  cases m with
  | lst xs=>
   rw[q] at hok';have e:xs=ds:=g9 xs ds hok';subst e;refine q1x2 (g.wr.at_ k a _ t1 q) λvs hv r1=>?_;have s1:jt K H1 a vs:=.inl (.inl hv);refine⟨λd e=>?_,λhl=>⟨vs,s1,by rw[<-ao r1];exact hl⟩⟩;refine q1x2 (cQ r1 e) λv e1 rv=>?_;refine⟨⟨vs,v,s1,e1⟩,λx H2 y=>?_⟩;refine q0x2 y λeH y=>?_;subst eH;have e2:=y vs s1;rw[e1] at e2;cases e2;exact⟨.refl g.wr,rv⟩
  | _=>rw[q] at hok';cases hok'
def EB {l:Expr}(hl:PE X l (tE X g)):PI X tg l (tI X (aY g)):=by
 intro aa s σ H R I h;refine Fg hl aa s σ H R I ?_;refine q3x3 h λρ θ M hd hw h=>?_;refine bo hd hw (xQ X θ H R) (λc M' h=>h) (λh=>h) h λd M1 v θ1 H1 g1 r1 h1=>?_
 cases d with
 | lst ds=>
  refine q2x3 r1 λa vs e ta r=>?_;exact⟨a,e,.inl ⟨⟨vs,ta.sq⟩,h1 _ θ1 H1 g1 (tU (.inl ⟨.inl ta.1,ta.2⟩) r)⟩⟩
 | ro ds=>
  refine q2x3 r1 λa vs e ta r=>?_;exact⟨a,e,.inl ⟨⟨vs,ta.sq⟩,h1 _ θ1 H1 g1 (tU ta r)⟩⟩
 | tup ds=>
  refine q2x3 r1 λa vs e ta r=>?_;exact⟨a,e,.inr ⟨⟨vs,ta.sq⟩,h1 _ θ1 H1 g1 (zD ta r)⟩⟩
 | mr k=>
  refine q1x2 r1 λa e ta=>?_;have h2:xQ X θ H R (match M1[k]? with|some (.lst ds)=>.ok ⟨ds,Z k⟩ M1|_=>.bad):=h1;cases q:M1[k]? with
  | none=>rw[q] at h2;exact h2.elim
  | some m=>
   cases m with
   | lst ds=>
    rw[q] at h2;refine q1x2 (g1.wr.at_ k a _ ta q) λvs hv r=>?_;exact⟨a,e,.inl ⟨⟨vs,.inl (.inl hv)⟩,h2 _ θ1 H1 g1 (Ak ta)⟩⟩
   | _=>rw[q] at h2;exact h2.elim
 | _=>exact h1.elim
def bq (lo:Int)(n:Nat):List D:=(List.range n).map λ(k:Nat)=>D.int (lo+(k:Int))
def AZ (lo:Int)(n:Nat):xW K (Hj lo n) θ H ⟨bq lo n,Y⟩:=by
 intro θ1 H1 M1 g _ i;refine⟨λd e=>?_,λhl=>?_⟩
 ·have hi:i<n:=by
   have:=(List.getElem?_eq_some_iff.mp e).1;simpa[bq] using this
  refine⟨hi,λx H2 y=>?_⟩;obtain⟨eH,y⟩:=y;subst eH;refine⟨.refl g.wr,?_⟩;have e':D.int (lo+(i:Int))=d:=by
   have:(bq lo n)[i]?=Z (D.int (lo+(i:Int))):=by simp[bq,hi]
   rw[this] at e;exact Option.some.inj e
  subst e';exact y
 ·have h2:(bq lo n).length<=i:=hl;have h3:n<=i:=by simpa[bq] using h2
  exact h3
def xl (ds:List D)(M:aw):aN jP:=match ds with
 | [.int j]=>if -(2 ^ 62)<=j/\j<2 ^ 62 then .ok ⟨bq 0 j.toNat,Y⟩ M else .bad
 | _=>.bad
def d8 (g:GA):GI:=λρ M=>(g ρ M).bind xl
def u4 {a:Expr}{g:GA}{p pos:Pos}(hg:Gl X "range")(hm:X.mg "range"=Y)(ha:PA X [a] (tA X g))(hs:starEach [a] X.env=[(false,eval a X.env)]:=by rfl):PI X tg (.Call (.Name "range" p) [a] [] pos) (tI X (d8 g)):=by
 intro aa s σ H R I h;refine wl hg hm ha hs aa s σ H R I ?_;refine q3x3 h λρ θ M hd hw h=>?_;refine ml hd hw (xQ X θ H R) (λc M' h=>h) (λh=>h) h λds M1 vs θ1 H1 g1 r1 h1=>?_
 unfold xl at h1;split at h1
 ·rename_i j;refine q2x3 r1 λv r e rv rr=>?_;have e2:r=[]:=rr;have e3:v=.int j:=rv;subst e2;subst e3;split at h1
  ·rename_i hj;exact⟨j,e,hj.1,hj.2,h1 _ θ1 H1 g1 (AZ 0 j.toNat)⟩
  ·exact h1.elim
 ·exact h1.elim
def bb (t:jP)(s:GG)(body:GS):List D->bv->aw->aN Fl
 | [],ρ,M=>if t.ok M then .ok (.nx ρ) M else .bad
 | d::r,ρ,M=>if t.ok M then
   match s d ρ with
   | none=>.bad
   | some ρ1=>(body ρ1 M).bind λf M1=>match f with
    | .nx ρ2=>bb t s body r ρ2 M1
    | .ct ρ2=>bb t s body r ρ2 M1
    | .bk ρ2=>.ok (.nx ρ2) M1
    | .rt d=>.ok (.rt d) M1
  else .bad
def gK (gi:GI)(s:GG)(body:GS):GS:=λρ M=>(gi ρ M).bind λt M1=>bb t s body t.ds ρ M1
def uo {gi:GI}{pos:Pos}(hp:PassesOwn (model X.prog X.w) X.A X.env X.xe)(hc:X.calm=true)(hi:FC X tg iter (tI X gi))(hg:PG X tg (tG X sg))(hb:PSs X body (tS X gb))
  (hs:∀x,foldedSetIterable iter X.env x=pure x:=by intro _;rfl):PS X (.For tg iter body [] pos) (tS X (gK gi sg gb)):=(Dq hp hc hi hg hb hs).of λD σ H hxx=>by
 refine q3x3 hxx λρ θ M hd hw h=>?_;refine⟨ρ,θ,M,hd,hw,?_⟩;unfold gK at h;cases q:gi ρ M with
 | err c M1=>rw[q] at h;exact h
 | bad=>rw[q] at h;exact h
 | ok t M1=>
  rw[q] at h;intro J θ1 H1 g1 hJ;have h:bT X θ H D (bb t sg gb t.ds ρ M1):=h;refine⟨λi m σ' H'=>m=t.ds.length-i/\i<=t.ds.length/\∃ρ' θ' M',Go X.K θ1 H1 θ' H' M'/\gq X.K θ' H' σ' ρ'/\bT X θ' H' D (bb t sg gb (t.ds.drop i) ρ' M'),
   ⟨t.ds.length,by simp,Nat.zero_le _,ρ,θ1,M1,.refl g1.wr,hd.go g1,bT.go g1 h⟩,?_⟩
  rintro i m σ' H' ⟨rfl,hil,ρ',θ',M',g',hd',h'⟩
  by_cases hok:t.ok M'=true
  ·refine q0x2 (hJ θ' H' M' g' hok i) λhy hst=>?_
   by_cases hlt:i<t.ds.length
   ·refine .inr ?_;have e1:t.ds[i]?=Z t.ds[i]:=getElem?_eq_getElem hlt;refine q0x2 (hy _ e1) λhgo hyl=>?_;rw[drop_eq_getElem_cons hlt,bb,if_pos hok] at h';refine⟨hgo,λσ2 H2=>∃ρ2 θ2 M2,Go X.K θ' H' θ2 H2 M2/\gq X.K θ2 H2 σ2 ρ2/\bT X θ2 H2 D (bb t sg gb (t.ds.drop (i+1)) ρ2 M2),λσ2 H2 ⟨ρ2,θ2,M2,g2,d2,h2⟩=>?_,λx H2 y=>?_⟩
    ·exact⟨t.ds.length-(i+1),by omega,rfl,hlt,ρ2,θ2,M2,g'.trans g2,d2,h2⟩
    ·refine q0x2 (hyl x H2 y) λgy rx=>?_;cases qs:sg t.ds[i] ρ' with
     | none=>rw[qs] at h';exact h'.elim
     | some ρ1=>
      rw[qs] at h';refine⟨ρ',θ',M',_,hd'.go gy,gy.wr,rx,ρ1,qs,λσ1 d1=>⟨ρ1,θ',M',d1,gy.wr,?_⟩⟩;have h':bT X θ' H2 D ((gb ρ1 M').bind _):=bT.go gy h';cases qb:gb ρ1 M' with
      | err c M2=>rw[qb] at h';exact h'
      | bad=>rw[qb] at h';exact h'
      | ok f M2=>
       rw[qb] at h';cases f with
       | nx ρ2=>exact λσ2 θ2 H3 g2 d2=>⟨ρ2,θ2,M2,gy.trans g2,d2,bT.go g2 h'⟩
       | ct ρ2=>exact λσ2 θ2 H3 g2 d2=>⟨ρ2,θ2,M2,gy.trans g2,d2,bT.go g2 h'⟩
       | bk ρ2=>exact h'
       | rt d=>exact h'
   ·have e:i=t.ds.length:=by omega
    subst e;rw[drop_length,bb,if_pos hok] at h';exact .inl ⟨hst (Nat.le_refl _),h' σ' θ' H' (.refl g'.wr) hd'⟩
  ·have hz:bT X θ' H' D .bad:=by
    cases hdr:t.ds.drop i with
    | nil=>rw[hdr,bb,if_neg hok] at h';exact h'
    | cons d r=>rw[hdr,bb,if_neg hok] at h';exact h'
   exact hz.elim
def C4 {gi:GI}{pos:Pos}(hp:PassesOwn (model X.prog X.w) X.A X.env X.xe)(hc:X.calm=true)(hi:PI X tg iter (tI X gi))(hg:PG X tg (tG X sg))(hb:PSs X body (tS X gb))
  (hs:∀x,foldedSetIterable iter X.env x=pure x:=by intro _;rfl):PS X (.For tg iter body [] pos) (tS X (gK gi sg gb)):=uo hp hc hi.toF hg hb hs
end
def A0 (K:W.Frag)(θ:List Addr)(H:Hp)(E:XK)(c:Str)(M:aw):Prop:=∀C θ' H' a,lJ K c C->Go K θ H θ' H' M->E (.ref C) (Z a) H'
def vw (K:W.Frag)(θ:List Addr)(H:Hp)(Q:VK)(E:XK):aN D->Prop
 | .ok d M'=>∀v θ' H',Go K θ H θ' H' M'->isD K θ' H' d v->Q v H'
 | .err c M'=>A0 K θ H E c M'
 | .bad=>False
abbrev FD:=List D->aw->aN D
def rB (K:W.Frag)(n:Nat)(F:FD):Sp:=λvs H Q E=>∃θ M ds,ds.length=n/\isDs K θ H ds vs/\Wr K θ H M/\vw K θ H Q E (F ds M)
variable{F:FD}{ps:List Str}
def t9 (hn:ps.length=n):∀vs H Q E,rB K n F vs H Q E->vs.length=ps.length:=λvs H Q E ⟨θ,M,ds,hl,r,_⟩=>by rw[hn,<-hl,ao r]
def jN (k:Nat)(ds:List D):bv:=ds.map Z++List.replicate k Y
def bQ (o:aN Fl):aN D:=o.bind λf M=>match f with
 | .rt d=>.ok d M
 | .nx _=>.ok .non M
 | _=>.bad
def dF (k:Nat)(g:GS):FD:=λds M=>bQ (g (jN k ds) M)
def GH (r:isDs K θ H ds vs)(N:List Str):gq K θ H (L2.start N vs) (jN (N.length-vs.length) ds):=by
 have hl:=ao r;refine⟨by simp[L2.start,jN,hl],λi d e=>?_⟩;unfold jN at e
 by_cases hi:i<ds.length
 ·rw[getElem?_append_left (by simpa using hi),getElem?_map] at e;cases q:ds[i]? with
  | none=>rw[q] at e;cases e
  | some d'=>
   rw[q] at e;have e':d'=d:=by simpa using e
   subst e';refine q1x2 (cQ r q) λv e1 rv=>?_;refine⟨v,?_,rv⟩;unfold L2.start;rw[getElem?_append_left (by rw[length_map,<-hl];exact hi),getElem?_map,e1];rfl
 ·rw[getElem?_append_right (by simpa using hi),getElem?_replicate] at e;split at e <;> cases e
variable{fd:FuncData}
section
variable {P:Program}{w:World}{K:W.Frag}{mg:Str->Option Value}{base:Heap}
def IF {qual:Str}{st:Stmt}{N:List Str}{k:Nat}{g:GS}(F:Ac K x qual st f fd)(S:eG N ps (aD st))(hn:ps.length=n)
  (hbody:∀(cdv:Value) (A:Around) (outer:List Env) (s:Shared) (H:Hp) (E:XK),bJ k (A.deeper (envOfC qual (aD st) s.heap.objs.size f cdv))->
   PSs (gQ (iM P w) P w K mg base N qual (aD st) f cdv A outer s H E) (bV st) (tS (gQ (iM P w) P w K mg base N qual (aD st) f cdv A outer s H E) g)) :
  fm P w K mg base (iM P w) (k+1) f fd ps (rB K n (dF (N.length-n) g)):=by
 refine q9x3 F.ex λoc od kV doc pm an cdv ct osl zz9 lk hcd=>?_;subst zz9;refine Bo lk hcd S (t9 hn) λA outer s H vs Q E hr h=>⟨_,hbody cdv A outer s H E hr,?_⟩
 refine q3x4 h λθ M ds hl r hw h=>?_;have hv:vs.length=n:=by rw[<-ao r];exact hl
 refine⟨jN (N.length-n) ds,θ,M,by rw[<-hv];exact GH r N,hw,?_⟩;have h:vw K θ H Q E (bQ (g (jN (N.length-n) ds) M)):=h;unfold bQ at h;cases q:g (jN (N.length-n) ds) M with
 | bad=>rw[q] at h;exact h
 | err c M1=>
  rw[q] at h;have h:A0 K θ H E c M1:=h;exact λC θ' H' a s' kC g1 fl=>mB fl (h C θ' H' a kC g1)
 | ok fl M1=>
  rw[q] at h;cases fl with
  | rt d=>exact h
  | nx ρ1=>exact λσ1 θ1 H1 g1 _=>h .non θ1 H1 g1 rfl
  | bk ρ1=>exact h.elim
  | ct ρ1=>exact h.elim
end
variable{T:String}
section
variable {X:Cx}{e:Expr}{es:List Expr}{x:Str}{p pos:Pos}{k n:Nat}{f:Addr}{fd:FuncData}{ps:List Str}{F:FD}{ga:GA}
def ax (n:Nat)(F:FD)(ga:GA):GE:=λρ M=>(ga ρ M).bind λds M1=>if ds.length=n then F ds M1 else .bad
def GU (X:Cx):XK:=λcls oa H'=>∃a C c θ M,oa=Z a/\cls=.ref C/\lJ X.K c C/\Wr X.K θ H' M/\cH X θ H' c M
def qR:sF (iM X.prog X.w) X (GU X):=λaa σ H s e s' I h=>by
 obtain⟨a,C,H',rfl,fl,a',C',c,θ,M,e1,e2,kC,hw,ok⟩:=u3 I h;cases e1;cases e2;exact ok C θ H' a s' kC (.refl hw) fl
def Bc {c:Str}(h:cH X θ H c M):A0 X.K θ H (GU X) c M:=λC θ' H' a kC g=>⟨a,C,c,θ',M,rfl,rfl,kC,g.wr,h.go g⟩
def A3 (Fn:fm X.prog X.w X.K X.mg X.base (iM X.prog X.w) k f fd ps (rB X.K n F))(hr:bJ k X.A)(hg:Gl X x)(hm:X.mg x=Z (.ref f))(hk:W.keepIn X.K (.ref f)=true)(hb:ik X.K fd ps [])
  (ha:PA X (e::es) (tA X ga)) (hdb:(x==("__debug__":Str))=false:=by decide) (he:starEach (e::es) X.env=(false,eval e X.env)::starEach es X.env:=by rfl) (hpl:(backTo pos (starEach es X.env)).any (·.1)=false:=by rfl) :
  PE X (.Call (.Name x p) (e::es) [] pos) (tE X (ax n F ga)):=(Ab Fn hr hg hm hk hb .nil qR ha hdb he hpl).of λσ H Q hxx=>by
 refine q3x3 hxx λρ θ M hd hw h=>?_;refine ml hd hw (aC X θ H Q) (λc M' h=>h) (λh=>h) h λds M1 vs θ1 H1 g1 r1 h1=>?_
 by_cases hl:ds.length=n
 ·rw[if_pos hl] at h1;refine⟨θ1,M1,ds,hl,by rw[append_nil];exact r1,g1.wr,?_⟩;have h2:=aC.go g1 h1;cases q:F ds M1 with
  | ok d M2=>rw[q] at h2;exact h2
  | err c M2=>rw[q] at h2;exact Bc h2
  | bad=>rw[q] at h2;exact h2
 ·rw[if_neg hl] at h1;exact h1.elim
def rC (X:Cx)(F:FD):List V->Hp->VK->Prop:=λxs H Q=>∃θ M ds,Wr X.K θ H M/\isDs X.K θ H ds xs/\aC X θ H Q (F ds M)
def aQ (F:FD)(ga:GA):GE:=λρ M=>(ga ρ M).bind F
def xU {Q:VK}(h:tE X (aQ F ga) σ H Q):IH (rC X F) (tA X ga) σ H Q:=by
 refine q3x3 h λρ θ M hd hw h=>?_;exact ml hd hw (aC X θ H Q) (λc M' h=>h) (λh=>h) h λds M1 vs θ1 H1 g1 r1 h1=>⟨θ1,M1,ds,g1.wr,r1,aC.go g1 h1⟩
def yL {id:String}(hc:cG X (.builtin id) (rC X F))(hg:Gl X x)(hm:X.mg x=Y)(hv:bootBuiltins x=Z (.builtin id))(ha:PA X (e::es) (tA X ga))(hn:x≠"__name__":=by decide)(hdb:(x==("__debug__":Str))=false:=by decide)
  (he:starEach (e::es) X.env=(false,eval e X.env)::starEach es X.env:=by rfl) (hpl:(backTo pos (starEach es X.env)).any (·.1)=false:=by rfl):PE X (.Call (.Name x p) (e::es) [] pos) (tE X (aQ F ga)):=
 (mS hc hg hm hv ha hn hdb he hpl).of λσ H Q h=>xU h
def vg (hc:cG X (.type T) (rC X F))(hg:Gl X x)(hm:X.mg x=Y)(hv:bootBuiltins x=Z (.type T))(ha:PA X (e::es) (tA X ga))(hn:x≠"__name__":=by decide)(hdb:(x==("__debug__":Str))=false:=by decide)
  (he:starEach (e::es) X.env=(false,eval e X.env)::starEach es X.env:=by rfl) (hpl:(backTo pos (starEach es X.env)).any (·.1)=false:=by rfl):PE X (.Call (.Name x p) (e::es) [] pos) (tE X (aQ F ga)):=
 (v3 hc hg hm hv ha hn hdb he hpl).of λσ H Q h=>xU h
end
section
variable {prog:Program}{w:World}{A:Around}{E:Value->Shared->Prop}{s:Shared}
def zi {t b:Addr}{ws:List Value}{Q:Value->Shared->Prop}(ht:IsTup s.heap t #[])(hb:IsTup s.heap b ws.toArray)
  (h:Q (.ref b) s):wpAny (model prog w) A (binaryOp .Add (.ref t) (.ref b)) Q E s:=by
 obtain⟨⟨cls,dd,data,sl⟩,ho,hc,n,hd⟩:=id ht;obtain⟨⟨cls2,dd2,data2,sl2⟩,ho2,hc2,n2,hd2⟩:=id hb;simp only at hc hd hc2 hd2;subst hc hd hc2 hd2;exact concat_meets ⟨_,ho,rfl⟩ ⟨_,ho2,rfl⟩ noFill_tuple_add seq_tuple_add PySem.F.slot_tuple_add PySem.F.entry_tuple_add (PySem.F.args_tuple_add_2 _ _)
   (tuple_addW0 t b #[] ws.toArray n n2 dd dd2 sl sl2 (by simp)) ⟨ho,ho2,h⟩
def iF {t sl:Addr}{items:Array Value}{vl vu:Value}{lo hi:Option Int}{Q:Value->Shared->Prop}(ht:IsTup s.heap t items)(hs:s.heap.IsSliceOf sl vl vu .none)(pl:IsPart vl lo)(pu:IsPart vu hi)
  (hw:HT.sIx items.size 0 lo=0/\HT.sIx items.size items.size hi=items.size) (h:Q (.ref t) s):wpAny (model prog w) A (getItem (.ref t) (.ref sl)) Q E s:=by
 refine q1x3 (id hs) λos hos hcs hds=>?_;have hTs:s.TypeIs (.ref sl) "slice":=⟨os,hos,hcs⟩;unfold getItem
 try with_reducible refine wpAny_holding ?_
 first|refine wpAny_bind (wpAny_pure ?_)|skip
 refine wpAny_bind (wpAny_sequenceKey ht.typeIs (by decide) ?_);refine wpAny_bind (wpAny_callSpecial?_slot (name:=Str.ofString "__getitem__") ht.typeIs PyProof.Rows.slot_tuple_getitem
  (wpAny_call_entry PyProof.Rows.slot_tuple_getitem ht.typeIs entry_tuple_getitem ?_ (args_tuple_getitem _ _)))
 show wpAny _ _ (Builtin.Tuple.tupleItemsOf (.ref t) >>= _) _ _ s;refine wpAny_bind (tupleItemsOf_ ht ?_);refine wpAny_bind (wpAny_typeOf hTs ?_);rw[if_pos (by decide)];refine wpAny_bind (HT.sliceApplied_gen hs pl pu ?_);have hyes:(((HT.sIx items.size 0 lo:Nat):Int)==0&&(1:Int)==1&&(HT.sIx items.size items.size hi-HT.sIx items.size 0 lo)==items.size)=true:=by
  rw[hw.1,hw.2];simp
 show wpAny _ _ (if(((HT.sIx items.size 0 lo:Nat):Int)==0&&(1:Int)==1&&(HT.sIx items.size items.size hi-HT.sIx items.size 0 lo)==items.size)=true then _ else _) _ _ s;rw[if_pos hyes];unfold Builtin.Tuple.tupleIsExact;refine wpAny_bind (wpAny_bind (wpAny_typeOf ht.typeIs (wpAny_pure ?_)));rw[if_pos (by decide)]
 first
  | exact wpAny_bind (wpAny_rule (wpAny_bind (wpAny_pure ⟨_,rfl,wpAny_pure h⟩)))
  | exact wpAny_bind (wpAny_rule (wpAny_pure ⟨_,rfl,wpAny_pure h⟩))
  | exact wpAny_bind (wpAny_rule (wpAny_bind (wpAny_pure (wpAny_pure ⟨_,rfl,wpAny_pure h⟩))))
end
def mE (d:D)(M:aw):Option (List D):=match d with
 | .lst xs=>Z xs
 | .mr k=>match M[k]? with
  | some (.lst xs)=>Z xs
  | _=>Y
 | _=>Y
def bO:F2:=λx y M=>match x,y with
 | .int i,.int j=>.ok (.int (i+j)) M
 | .str a,.str b=>if a.length+b.length<=sizeLine then .ok (.str (a++b)) M else .bad
 | .tup a,.tup b=>if a.length+b.length<=sizeLine then .ok (.tup (a++b)) M else .bad
 | .bl a,.int j=>.ok (.int ((if a=true then 1 else 0)+j)) M
 | x,y=>match mE x M,mE y M with
  | some a,Z b=>if a.length+b.length<=sizeLine then .ok (.lst (a++b)) M else .bad
  | _,_=>.bad
def xP {xs:List D}(hw:Wr K θ H M)(r:isD K θ H d v)(e:mE d M=Z xs):∃a vs,v=.ref a/\H a=Z (.lst vs)/\isDs K θ H xs vs:=by
 cases d with
 | lst ys=>cases e;refine q2x3 r λa vs ea ta ra=>?_;exact⟨a,vs,ea,ta.1,ra⟩
 | mr k=>
  refine q1x2 r λa ea ta=>?_;have e:(match M[k]? with|some (.lst xs)=>Z xs|_=>Y)=Z xs:=e;cases q:M[k]? with
  | none=>rw[q] at e;cases e
  | some m=>
   cases m with
   | lst ys=>
    rw[q] at e;cases e;refine q1x2 (hw.at_ k a _ ta q) λvs hv ra=>?_;exact⟨a,vs,ea,hv,ra⟩
   | _=>rw[q] at e;cases e
 | _=>cases e
def mM:F2:=λx y M=>match x,y with
 | .int i,.int j=>.ok (.int (i-j)) M
 | _,_=>.bad
def dC:F2:=λx y M=>match x,y with
 | .int i,.int j=>if(-(2 ^ 64)<i/\i<2 ^ 64)\/(-(2 ^ 64)<j/\j<2 ^ 64) then .ok (.int (i*j)) M else .bad
 | _,_=>.bad
def cM:F2:=λx y M=>match x,y with
 | .int i,.int j=>if 0<j/\j.natAbs.log2<9000 then .ok (.int (i / j)) M else .bad
 | _,_=>.bad
def fF:F2:=λx y M=>match x,y with
 | .int i,.int j=>if 0<j then .ok (.int (i % j)) M else .bad
 | _,_=>.bad
def m8:F2:=λx y M=>match x,y with
 | .int i,.int j=>if 0<=j/\j<=1000000/\i.natAbs<2 ^ 64 then .ok (.int (i ^ j.toNat)) M else .bad
 | _,_=>.bad
variable{u:Value}{b:Bool}{e:Expr}
section
variable {X:Cx}
def CU:fN X (binaryOp .Add) (rD X bO):=by
 intro aa s σ H x y v u Q I rx ry h;obtain⟨θ,M,dx,dy,hw,r1,r2,h⟩:=h;unfold bO at h;split at h
 ·rename_i i j;exact Do aa s σ H x y v u Q I rx ry ⟨i,j,r1,r2,h _ θ H (.refl hw) rfl⟩
 ·rename_i a b;split at h
  ·rename_i hl;exact rZ aa s σ H x y v u Q I rx ry ⟨a,b,r1,r2,hl,h _ θ H (.refl hw) rfl⟩
  ·exact h.elim
 ·rename_i as bs;split at h
  ·rename_i hl;obtain⟨a,vs,ea,ta,ra⟩:=r1;obtain⟨b,us,eb,tb,rb⟩:=r2
   by_cases hv:vs=[]
   ·subst hv;have e0:as=[]:=length_eq_zero_iff.mp (ao ra);subst e0;subst ea;subst eb;cases rx;cases ry;obtain⟨its,q1,p1,_⟩:=I.tuple ta.sq;obtain⟨its2,q2,p2,_⟩:=I.tuple tb.sq;cases q1;exact zi p1 p2 ⟨.ref b,H,I,rfl,h _ θ H (.refl hw) ⟨b,us,rfl,tb,rb⟩⟩
   ·refine Ad aa s σ H x y v u Q I rx ry ⟨a,b,vs,us,ea,eb,ta.sq,tb.sq,hv,by rw[<-ao ra,<-ao rb];exact hl,λhu=>?_,λ_ p hp=>h _ θ _ (cJ hw hp) (gw hw hp (cZ ra rb))⟩;subst hu;have e0:bs=[]:=length_eq_zero_iff.mp (ao rb);subst e0;exact h _ θ H (.refl hw) ⟨a,vs,rfl,ta,by rw[append_nil];exact ra⟩
  ·exact h.elim
 ·rename_i a j;have e1:x=.bl a:=r1;have e2:y=.int j:=r2;subst e1;subst e2;cases rx;obtain⟨t',rfl⟩:=ry;exact IntBool.add_bool_int ⟨.int _,H,I.tok _,⟨_,rfl⟩,h _ θ H (.refl hw) rfl⟩
 ·split at h
  ·rename_i as bs q1 q2;split at h
   ·rename_i hl;obtain⟨a,vs,ea,ta,ra⟩:=xP hw r1 q1;obtain⟨b,us,eb,tb,rb⟩:=xP hw r2 q2;exact Dl aa s σ H x y v u Q I rx ry ⟨a,b,vs,us,ea,eb,ta,tb,by rw[<-ao ra,<-ao rb];exact hl,λp hp=>h _ θ _ (cJ hw hp) (f6 hw hp (cZ ra rb))⟩
   ·exact h.elim
  ·exact h.elim
def qC {H':Hp}{p:Addr}(hw:Wr K θ H M):isD K (θ++[p]) H' (.mr M.length) (.ref p):=by
 refine⟨p,rfl,?_⟩;rw[<-hw.len,getElem?_append_right (Nat.le_refl _)];simp
def Dn:fN X (binaryOp .Sub) (rD X mM):=by
 intro aa s σ H x y v u Q I rx ry h;refine q4x4 h λθ M dx dy hw r1 r2 h=>?_;unfold mM at h;split at h
 ·rename_i i j;exact Ca aa s σ H x y v u Q I rx ry ⟨i,j,r1,r2,h _ θ H (.refl hw) rfl⟩
 ·exact h.elim
def Ek:fN X (binaryOp .Mult) (rD X dC):=by
 intro aa s σ H x y v u Q I rx ry h;refine q4x4 h λθ M dx dy hw r1 r2 h=>?_;unfold dC at h;split at h
 ·rename_i i j;split at h
  ·rename_i hc;exact BZ aa s σ H x y v u Q I rx ry ⟨i,j,r1,r2,hc,h _ θ H (.refl hw) rfl⟩
  ·exact h.elim
 ·exact h.elim
def zy:fN X (binaryOp .FloorDiv) (rD X cM):=by
 intro aa s σ H x y v u Q I rx ry h;obtain⟨θ,M,dx,dy,hw,r1,r2,h⟩:=h;unfold cM at h;split at h
 ·rename_i i j;split at h
  ·rename_i hc;have e1:x=.int i:=r1;have e2:y=.int j:=r2;subst e1;subst e2;obtain⟨t,rfl⟩:=rx;obtain⟨t',rfl⟩:=ry;have h1:(0:Int)<j:=hc.1;exact floordiv_int (by omega) (by rw[Int.fdiv_eq_ediv_of_nonneg i (by omega)];exact⟨.int (i / j),H,I.tok _,⟨_,rfl⟩,h _ θ H (.refl hw) rfl⟩) (.inl (PyProof.noPylong_of_log2 hc.2))
  ·exact h.elim
 ·exact h.elim
def Cu:fN X (binaryOp .Mod) (rD X fF):=by
 intro aa s σ H x y v u Q I rx ry h;refine q4x4 h λθ M dx dy hw r1 r2 h=>?_;unfold fF at h;split at h
 ·rename_i i j;split at h
  ·rename_i hc;exact Cm aa s σ H x y v u Q I rx ry ⟨i,j,r1,r2,hc,h _ θ H (.refl hw) rfl⟩
  ·exact h.elim
 ·exact h.elim
def B5:fN X (binaryOp .Pow) (rD X m8):=by
 intro aa s σ H x y v u Q I rx ry h;refine q4x4 h λθ M dx dy hw r1 r2 h=>?_;unfold m8 at h;split at h
 ·rename_i i j;split at h
  ·rename_i hc;exact D9 aa s σ H x y v u Q I rx ry ⟨i,j,r1,r2,hc,h _ θ H (.refl hw) rfl⟩
  ·exact h.elim
 ·exact h.elim
def B1 (g:GE):GE:=λρ M=>(g ρ M).bind λx M1=>match x with
 | .int i=>.ok (.int (-i)) M1
 | _=>.bad
def qx:F2:=λx y M=>match x,y with
 | .int i,.int j=>.ok (.bl (decide (i<j))) M
 | _,_=>.bad
def nO:F2:=λx y M=>match x,y with
 | .int i,.int j=>.ok (.bl (decide (i<=j))) M
 | _,_=>.bad
def vS:F2:=λx y M=>match x,y with
 | .int i,.int j=>.ok (.bl (decide (j<i))) M
 | _,_=>.bad
def zY:F2:=λx y M=>match x,y with
 | .int i,.int j=>.ok (.bl (decide (j<=i))) M
 | _,_=>.bad
def GV:fN X (compareOp .Lt) (rD X qx):=by
 intro aa s σ H x y v u Q I rx ry h;refine q4x4 h λθ M dx dy hw r1 r2 h=>?_;unfold qx at h;split at h
 ·rename_i i j;exact GJ aa s σ H x y v u Q I rx ry ⟨i,j,r1,r2,h _ θ H (.refl hw) rfl⟩
 ·exact h.elim
def Gb:fN X (compareOp .LtE) (rD X nO):=by
 intro aa s σ H x y v u Q I rx ry h;refine q4x4 h λθ M dx dy hw r1 r2 h=>?_;unfold nO at h;split at h
 ·rename_i i j;exact EW aa s σ H x y v u Q I rx ry ⟨i,j,r1,r2,h _ θ H (.refl hw) rfl⟩
 ·exact h.elim
def FG:fN X (compareOp .Gt) (rD X vS):=by
 intro aa s σ H x y v u Q I rx ry h;refine q4x4 h λθ M dx dy hw r1 r2 h=>?_;unfold vS at h;split at h
 ·rename_i i j;exact FS aa s σ H x y v u Q I rx ry ⟨i,j,r1,r2,h _ θ H (.refl hw) rfl⟩
 ·exact h.elim
def G0:fN X (compareOp .GtE) (rD X zY):=by
 intro aa s σ H x y v u Q I rx ry h;refine q4x4 h λθ M dx dy hw r1 r2 h=>?_;unfold zY at h;split at h
 ·rename_i i j;exact F8 aa s σ H x y v u Q I rx ry ⟨i,j,r1,r2,h _ θ H (.refl hw) rfl⟩
 ·exact h.elim
def EU (d c:D):Option Bool:=match c,d with
 | .non,.non=>Z true
 | .non,.any=>Y
 | .non,_=>Z false
 | .bl b,.bl b'=>Z (b'==b)
 | .bl _,.non=>Z false
 | .bl _,.int _=>Z false
 | .bl _,.str _=>Z false
 | .bl _,.tup _=>Z false
 | .bl _,.lst _=>Z false
 | .bl _,.ro _=>Z false
 | .bl _,.mr _=>Z false
 | _,_=>Y
def p9 (neg:Bool):F2:=λx y M=>match EU x y with
 | some b=>.ok (.bl (b != neg)) M
 | none=>.bad
def VS:D->Value->Prop
 | .non,v=>v=.none
 | .bl b,v=>v=.bool b
 | .int i,v=>∃t,v=.int i t
 | .str i,v=>∃t,v=.str i t
 | .any,_=>True
 | _,v=>∃a,v=.ref a
def Bm {x:V}{v:Value}(r:isD K θ H d x)(q:aI x v):VS d v:=by
 cases d with
 | non=>have e:x=.non:=r;rw[e] at q;exact q
 | bl b=>have e:x=.bl b:=r;rw[e] at q;exact q
 | int i=>have e:x=.int i:=r;rw[e] at q;exact q
 | str i=>have e:x=.str i:=r;rw[e] at q;exact q
 | any=>trivial
 | tup ds=>refine q2x2 r λa _ e _=>?_;rw[e] at q;exact⟨a,q⟩
 | lst ds=>refine q2x2 r λa _ e _=>?_;rw[e] at q;exact⟨a,q⟩
 | ro ds=>refine q2x2 r λa _ e _=>?_;rw[e] at q;exact⟨a,q⟩
 | mr k=>refine q1x2 r λa e _=>?_;rw[e] at q;exact⟨a,q⟩
 | exc c=>refine q2x2 r λa _ e _=>?_;rw[e] at q;exact⟨a,q⟩
def fn {α:Type}{b:α}{P:Prop}(h:Y=Z b):P:=nomatch h
def uC {v:Value}(h:Z false=Z b)(k:plainIs v u=true/\(v==u)=false):plainIs v u=true/\(v==u)=b:=Option.some.inj h▸k
def FY {dx dy:D}{v:Value}(p:VS dx v)(q:VS dy u)(h:EU dx dy=Z b):plainIs v u=true/\(v==u)=b:=by
 cases dy with
 | non=>
  rw[show u=.none from q];cases dx with
  | non=>rw[show v=.none from p];exact Option.some.inj (show Z true=Z b from h)▸⟨rfl,rfl⟩
  | bl b=>rw[show v=.bool b from p];exact uC h ⟨rfl,rfl⟩
  | any=>exact fn h
  | _=>refine q1x1 p λt e=>?_;rw[e];exact uC h ⟨rfl,rfl⟩
 | bl c=>
  rw[show u=.bool c from q];cases dx with
  | non=>rw[show v=.none from p];exact uC h ⟨rfl,rfl⟩
  | bl b=>
   rw[show v=.bool b from p,<-Option.some.inj h];refine⟨rfl,?_⟩;cases b <;> cases c <;> rfl
  | any=>exact fn h
  | exc _=>exact fn h
  | _=>refine q1x1 p λt e=>?_;rw[e];exact uC h ⟨rfl,rfl⟩
 | _=>exact fn h
def EG {dx dy:D}{x y:V}{v:Value}(r1:isD K θ H dx x)(r2:isD K θ H dy y)(rx:aI x v)(ry:aI y u)(h:EU dx dy=Z b) :
  plainIs v u=true/\(v==u)=b:=FY (Bm r1 rx) (Bm r2 ry) h
def FU:fN X (compareOp .Is) (rD X (p9 false)):=by
 intro aa s σ H x y v u Q I rx ry h;refine q4x4 h λθ M dx dy hw r1 r2 h=>?_;unfold p9 at h;split at h
 ·rename_i b q;refine q0x2 (EG r1 r2 rx ry q) λhp e=>?_;refine wpAny_is_plain hp ?_;rw[e];refine⟨.bl b,H,I,rfl,?_⟩;have:=h (.bl (b != false)) θ H (.refl hw) rfl;rw[Bool.bne_false] at this;exact this
 ·exact h.elim
mutual
def iE:D->PyData
 | .non=>.none
 | .bl b=>.bool b
 | .int i=>.int i
 | .str x=>.str x
 | .tup ds=>.tuple (jJ ds)
 | .lst ds=>.list (jJ ds)
 | .ro ds=>.list (jJ ds)
 | .mr _=>.dict []
 | .exc _=>.dict []
 | .any=>.dict []
def jJ:List D->List PyData
 | []=>[]
 | d::ds=>iE d::jJ ds
end
mutual
def bx:Nat->D->Bool
 | _,.non=>true
 | _,.bl _=>true
 | _,.int _=>true
 | _,.str x=>PyData.strOk x
 | n+1,.tup ds=>a8 n ds
 | n+1,.lst ds=>a8 n ds
 | n+1,.ro ds=>a8 n ds
 | _,_=>false
def a8:Nat->List D->Bool
 | _,[]=>true
 | n,d::ds=>bx n d&&a8 n ds
end
mutual
def mH:D->D->Bool
 | .non,.non=>true
 | .bl a,.bl b=>a==b
 | .bl a,.int j=>(if a then 1 else 0)==j
 | .int i,.bl b=>i==(if b then 1 else 0)
 | .int i,.int j=>i==j
 | .str x,.str y=>x==y
 | .lst xs,.lst ys=>ft xs ys
 | .lst xs,.ro ys=>ft xs ys
 | .ro xs,.lst ys=>ft xs ys
 | .ro xs,.ro ys=>ft xs ys
 | .tup xs,.tup ys=>ft xs ys
 | _,_=>false
def ft:List D->List D->Bool
 | [],[]=>true
 | x::xs,y::ys=>mH x y&&ft xs ys
 | _,_=>false
end
mutual
theorem kO:∀(x y:D) (n m:Nat),bx n x=true->bx m y=true->PyData.eqv (iE x) (iE y)=mH x y
 | .non,y,n,m,hx,hy=>by cases y <;> rfl
 | .bl a,y,n,m,hx,hy=>by cases y <;> rfl
 | .int a,y,n,m,hx,hy=>by cases y <;> rfl
 | .str a,y,n,m,hx,hy=>by cases y <;> rfl
 | .tup xs,y,n,m,hx,hy=>by
  cases n with
  | zero=>exact ff hx
  | succ n=>
   cases y with
   | tup ys=>
    cases m with
    | zero=>exact ff hy
    | succ m=>
     exact fR xs ys n m hx hy
   | _=>rfl
 | .lst xs,y,n,m,hx,hy=>by
  cases n with
  | zero=>exact ff hx
  | succ n=>
   cases y with
   | lst ys=>
    cases m with
    | zero=>exact ff hy
    | succ m=>
     exact fR xs ys n m hx hy
   | ro ys=>
    cases m with
    | zero=>exact ff hy
    | succ m=>
     exact fR xs ys n m hx hy
   | _=>rfl
 | .ro xs,y,n,m,hx,hy=>by
  cases n with
  | zero=>exact ff hx
  | succ n=>
   cases y with
   | lst ys=>
    cases m with
    | zero=>exact ff hy
    | succ m=>
     exact fR xs ys n m hx hy
   | ro ys=>
    cases m with
    | zero=>exact ff hy
    | succ m=>
     exact fR xs ys n m hx hy
   | _=>rfl
 | .mr a,y,n,m,hx,hy=>by cases n <;> exact ff hx
 | .exc a,y,n,m,hx,hy=>by cases n <;> exact ff hx
 | .any,y,n,m,hx,hy=>by cases n <;> exact ff hx
theorem fR:∀(x y:List D) (n m:Nat),a8 n x=true->a8 m y=true->PyData.eqvAll (jJ x) (jJ y)=ft x y
 | [],y,n,m,hx,hy=>by cases y <;> rfl
 | x::xs,y,n,m,hx,hy=>by
  cases y with
  | nil=>rfl
  | cons y ys=>
   have hx:=Bool.and_eq_true_iff.mp (show(bx n x&&a8 n xs)=true from hx);have hy:=Bool.and_eq_true_iff.mp (show(bx m y&&a8 m ys)=true from hy);show(PyData.eqv (iE x) (iE y)&&PyData.eqvAll (jJ xs) (jJ ys))=(mH x y&&ft xs ys);rw[kO x y n m hx.1 hy.1,fR xs ys n m hx.2 hy.2]
end
mutual
theorem gG:∀(d:D) (n:Nat),bx n d=true->(iE d).canLay0=true/\(iE d).depth<=n
 | .non,n,h=>by simp[iE,PyData.canLay0,PyData.depth]
 | .bl a,n,h=>by simp[iE,PyData.canLay0,PyData.depth]
 | .int a,n,h=>by simp[iE,PyData.canLay0,PyData.depth]
 | .str a,n,h=>by
  have:PyData.strOk a=true:=by cases n <;> exact h
  simp[iE,PyData.canLay0,PyData.depth,this]
 | .tup xs,n,h=>by
  cases n with
  | zero=>exact ff h
  | succ n=>
   have:=i3 xs n h;simp only[iE,PyData.canLay0,PyData.depth];exact⟨this.1,by omega⟩
 | .lst xs,n,h=>by
  cases n with
  | zero=>exact ff h
  | succ n=>
   have:=i3 xs n h;simp only[iE,PyData.canLay0,PyData.depth];exact⟨this.1,by omega⟩
 | .ro xs,n,h=>by
  cases n with
  | zero=>exact ff h
  | succ n=>
   have:=i3 xs n h;simp only[iE,PyData.canLay0,PyData.depth];exact⟨this.1,by omega⟩
 | .mr a,n,h=>by cases n <;> exact ff h
 | .exc a,n,h=>by cases n <;> exact ff h
 | .any,n,h=>by cases n <;> exact ff h
theorem i3:∀(ds:List D) (n:Nat),a8 n ds=true->PyData.canLayAll0 (jJ ds)=true/\PyData.depthAll (jJ ds)<=n
 | [],n,h=>by simp[jJ,PyData.canLayAll0,PyData.depthAll]
 | d::ds,n,h=>by
  have h:=Bool.and_eq_true_iff.mp (show(bx n d&&a8 n ds)=true from h);have h1:=gG d n h.1;have h2:=i3 ds n h.2;simp only[jJ,PyData.canLayAll0,PyData.depthAll,Bool.and_eq_true];exact⟨⟨h1.1,h2.1⟩,by omega⟩
end
mutual
theorem jc {aa:List (Addr×Obj)}{s:Shared}{σ:L2.St}{H:Hp}{θ:List Addr}(I:Inv X aa σ H s):∀(d:D) (n:Nat) (v:V) (u:Value),bx n d=true->isD X.K θ H d v->aI v u->∃as,Reads s.heap u (iE d) as
 | .non,n,v,u,h,r,q=>by have e:v=.non:=r;subst e;cases q;exact⟨_,.none⟩
 | .bl a,n,v,u,h,r,q=>by have e:v=.bl a:=r;subst e;cases q;exact⟨_,.bool a⟩
 | .int a,n,v,u,h,r,q=>by have e:v=.int a:=r;subst e;refine q1x1 q λt zz1=>?_;subst zz1;exact⟨_,.int a t⟩
 | .str a,n,v,u,h,r,q=>by have e:v=.str a:=r;subst e;refine q1x1 q λt zz1=>?_;subst zz1;exact⟨_,.str a t⟩
 | .tup xs,n,v,u,h,r,q=>by
  cases n with
  | zero=>exact ff h
  | succ n=>
   refine q2x3 r λa vs e ta ra=>?_;subst e;cases q;obtain⟨its,rv,⟨o,h1,h2,m,h3⟩,_⟩:=I.tuple ta.sq;refine q1x1 (fL I xs n vs its h ra rv) λas R=>?_;exact⟨_,.tuple h1 h2 h3 (by simpa using R)⟩
 | .lst xs,n,v,u,h,r,q=>by
  cases n with
  | zero=>exact ff h
  | succ n=>
   refine q2x3 r λa vs e ta ra=>?_;subst e;cases q;obtain⟨its,rv,⟨o,m,h1,h2,_,h3⟩,_⟩:=I.list (ta.sq (K:=X.K));refine q1x1 (fL I xs n vs its h ra rv) λas R=>?_;exact⟨_,.list h1 h2 h3 (by simpa using R)⟩
 | .ro xs,n,v,u,h,r,q=>by
  cases n with
  | zero=>exact ff h
  | succ n=>
   refine q2x3 r λa vs e ta ra=>?_;subst e;cases q;obtain⟨its,rv,⟨o,m,h1,h2,_,h3⟩,_⟩:=I.list ta.sq;refine q1x1 (fL I xs n vs its h ra rv) λas R=>?_;exact⟨_,.list h1 h2 h3 (by simpa using R)⟩
 | .mr a,n,v,u,h,r,q=>by cases n <;> exact ff h
 | .exc a,n,v,u,h,r,q=>by cases n <;> exact ff h
 | .any,n,v,u,h,r,q=>by cases n <;> exact ff h
theorem fL {aa:List (Addr×Obj)}{s:Shared}{σ:L2.St}{H:Hp}{θ:List Addr}(I:Inv X aa σ H s):∀(ds:List D) (n:Nat) (vs:List V) (us:List Value),a8 n ds=true->isDs X.K θ H ds vs->aJ vs us->∃as,ReadsAll s.heap us (jJ ds) as
 | [],n,vs,us,h,r,q=>by have e:vs=[]:=r;subst e;cases q;exact⟨_,.nil⟩
 | d::ds,n,vs,us,h,r,q=>by
  have h:=Bool.and_eq_true_iff.mp (show(bx n d&&a8 n ds)=true from h);refine q2x3 r λv rr e r1 r2=>?_;subst e;cases q with
  | cons q1 q2=>
   refine q1x1 (jc I d n v _ h.1 r1 q1) λas R1=>?_;refine q1x1 (fL I ds n rr _ h.2 r2 q2) λbs R2=>?_;exact⟨_,.cons R1 R2⟩
end
def now (d:D)(M:aw):D:=match d with
 | .mr k=>match M[k]? with
  | some (.lst xs)=>.lst xs
  | _=>.mr k
 | d=>d
def aU (neg:Bool):F2:=λx y M=>if bx 40 (now x M)&&bx 40 (now y M) then .ok (.bl (mH (now x M) (now y M) != neg)) M else .bad
def iu (I:Inv X aa σ H s)(hw:Wr X.K θ H M)(h:bx n (now d M)=true)(r:isD X.K θ H d v)(q:aI v u):∃as,Reads s.heap u (iE (now d M)) as:=by
 cases d with
 | mr k=>
  refine q1x2 r λa e ta=>?_;subst e;cases q;cases qm:M[k]? with
  | none=>
   have e:now (.mr k) M=.mr k:=by simp[now,qm]
   rw[e] at h;cases n <;> exact ff h
  | some m=>
   cases m with
   | lst xs=>
    have e:now (.mr k) M=.lst xs:=by simp[now,qm]
    rw[e] at h ⊢;cases n with
    | zero=>exact ff h
    | succ n=>
     refine q1x2 (hw.at_ k a _ ta qm) λvs hv ra=>?_;obtain⟨its,rv,⟨o,m,h1,h2,_,h3⟩,_⟩:=I.list (X:=X) (xs:=vs) (.inl (.inl hv));refine q1x1 (fL I xs n vs its h ra rv) λas R=>?_;exact⟨_,.list h1 h2 h3 (by simpa using R)⟩
   | _=>
    have e:now (.mr k) M=.mr k:=by simp[now,qm]
    rw[e] at h;cases n <;> exact ff h
 | _=>exact jc I _ n v u h r q
def Gj (hu:X.A.units+64<cLine):fN X (compareOp .Eq) (rD X (aU false)):=by
 intro aa s σ H x y v u Q I rx ry h;refine q4x4 h λθ M dx dy hw r1 r2 h=>?_;unfold aU at h;split at h
 ·rename_i hc;rw[Bool.and_eq_true] at hc;refine q1x1 (iu I hw hc.1 r1 rx) λas R1=>?_;refine q1x1 (iu I hw hc.2 r2 ry) λbs R2=>?_;have l1:=gG _ _ hc.1;have l2:=gG _ _ hc.2;refine SeqAt.compareEq_reads R1 R2 l1.1 l2.1 (by have:=l1.2;have:min (iE (now dx M)).depth (iE (now dy M)).depth<=(iE (now dx M)).depth:=Nat.min_le_left _ _;omega) ?_;rw[kO _ _ _ _ hc.1 hc.2];refine⟨.bl _,H,I,rfl,?_⟩;have:=h _ θ H (.refl hw) rfl;rw[Bool.bne_false] at this;exact this
 ·exact h.elim
def FP (hu:X.A.units+64<cLine):fN X (compareOp .NotEq) (rD X (aU true)):=by
 intro aa s σ H x y v u Q I rx ry h;refine q4x4 h λθ M dx dy hw r1 r2 h=>?_;unfold aU at h;split at h
 ·rename_i hc;rw[Bool.and_eq_true] at hc;refine q1x1 (iu I hw hc.1 r1 rx) λas R1=>?_;refine q1x1 (iu I hw hc.2 r2 ry) λbs R2=>?_;have l1:=gG _ _ hc.1;have l2:=gG _ _ hc.2;refine SeqAt.compareNe_reads R1 R2 l1.1 l2.1 (by have:=l1.2;have:min (iE (now dx M)).depth (iE (now dy M)).depth<=(iE (now dx M)).depth:=Nat.min_le_left _ _;omega) ?_;rw[kO _ _ _ _ hc.1 hc.2];refine⟨.bl _,H,I,rfl,?_⟩;have:=h _ θ H (.refl hw) rfl;rw[Bool.bne_true] at this;exact this
 ·exact h.elim
def aW (d:D)(M:aw):Option (List D):=match d with
 | .tup xs=>Z xs
 | .lst xs=>Z xs
 | .ro xs=>Z xs
 | .mr k=>match M[k]? with
  | some (.lst xs)=>Z xs
  | _=>Y
 | _=>Y
def aT:F2:=λx y M=>match aW x M,y with
 | some xs,.int i=>match uc xs i with
  | some d=>.ok d M
  | none=>.bad
 | _,_=>.bad
def xn {i:Int}(r:isDs K θ H ds vs)(e:uc ds i=Z d):∃v,uc vs i=Z v/\isD K θ H d v:=by
 unfold uc at e ⊢;rw[<-ao r];cases q:xN ds.length i with
 | none=>rw[q] at e;cases e
 | some j=>
  rw[q] at e;exact cQ r e
def iT {xs:List D}(hw:Wr K θ H M)(r:isD K θ H d v)(e:aW d M=Z xs):∃a vs,v=.ref a/\(jt K H a vs\/oo K H a vs)/\isDs K θ H xs vs:=by
 cases d with
 | tup ds=>refine q2x3 r λa vs e1 ta ra=>?_;cases e;exact⟨a,vs,e1,.inr ta.sq,ra⟩
 | lst ds=>refine q2x3 r λa vs e1 ta ra=>?_;cases e;exact⟨a,vs,e1,.inl ta.sq,ra⟩
 | ro ds=>refine q2x3 r λa vs e1 ta ra=>?_;cases e;exact⟨a,vs,e1,.inl ta.sq,ra⟩
 | mr k=>
  refine q1x2 r λa e1 ta=>?_;have e:(match M[k]? with|some (.lst xs)=>Z xs|_=>Y)=Z xs:=e;cases qm:M[k]? with
  | none=>rw[qm] at e;cases e
  | some m=>
   cases m with
   | lst ys=>
    rw[qm] at e;cases e;refine q1x2 (hw.at_ k a _ ta qm) λvs hv ra=>?_;exact⟨a,vs,e1,.inl (.inl (.inl hv)),ra⟩
   | _=>rw[qm] at e;cases e
 | _=>cases e
def Fw:G7 X (rD X aT):=by
 intro value slice aa s σ H x y v u Q I rx ry h hs;refine q4x4 h λθ M dx dy hw r1 r2 h=>?_;unfold aT at h;split at h
 ·rename_i xs i q;split at h
  ·rename_i d qd;refine q2x3 (iT hw r1 q) λa vs ea sq ra=>?_;refine q1x2 (xn ra qd) λz ez rz=>?_;have hq:=h z θ H (.refl hw) rz;rcases sq with sq|sq
   ·exact Ao value slice aa s σ H x y v u Q I rx ry ⟨a,vs,i,z,ea,r2,sq,ez,hq⟩ hs
   ·exact DE value slice aa s σ H x y v u Q I rx ry ⟨a,vs,i,z,ea,r2,sq,ez,hq⟩ hs
  ·exact h.elim
 ·exact h.elim
def E9 {a b:Expr}{pos:Pos}{ga gb:GE}(ha:PE X a (tE X ga))(hb:PE X b (tE X gb))(hs:oU b:=by intro _ _;rfl):PE X (.Subscript a b pos) (tE X (g2 aT ga gb)):=
 (FT Fw ha hb hs).of λ_ _ _ h=>uz h
def jO (xs:List D)(lo hi:Option Int):List D:=(xs.drop (HT.sIx xs.length 0 lo)).take (HT.sIx xs.length xs.length hi-HT.sIx xs.length 0 lo)
def mP (x:D)(lo hi:Option Int)(M:aw):aN D:=match x with
 | .tup xs=>.ok (.tup (jO xs lo hi)) M
 | .lst xs=>.ok (.lst (jO xs lo hi)) M
 | .ro xs=>.ok (.lst (jO xs lo hi)) M
 | .mr k=>match M[k]? with
  | some (.lst xs)=>.ok (.lst (jO xs lo hi)) M
  | _=>.bad
 | _=>.bad
abbrev GO:=bv->aw->aN (Option Int)
def bp:GO:=λ_ M=>.ok Y M
def da (g:GE):GO:=λρ M=>(g ρ M).bind λd M1=>match d with
 | .int i=>.ok (Z i) M1
 | _=>.bad
def G5 (X:Cx)(θ:List Addr)(H:Hp)(Q:Option Int->Hp->Prop):aN (Option Int)->Prop
 | .ok b M'=>∀θ' H',Go X.K θ H θ' H' M'->Q b H'
 | .err c M'=>cH X θ H c M'
 | .bad=>False
def tO (X:Cx)(g:GO):TO:=λσ H Q=>∃ρ θ M,gq X.K θ H σ ρ/\Wr X.K θ H M/\G5 X θ H Q (g ρ M)
def _root_.L2.PO.of {e:Option Expr}{t t':TO}(h:PO X e t)(w:∀σ H Q,t' σ H Q->t σ H Q):PO X e t':=λaa s σ H Q I q=>h aa s σ H Q I (w σ H Q q)
def Aw:PO X Y (tO X bp):=Am.of λσ H Q ⟨ρ,θ,M,hd,hw,f⟩=>f θ H (.refl hw)
def zH (h:PE X e (tE X g)):PO X (Z e) (tO X (da g)):=(AI h).of λσ H Q hxx=>by
 refine q3x3 hxx λρ θ M hd hw h=>?_;refine bo hd hw (G5 X θ H Q) (λc M' h=>h) (λh=>h) h λd M1 v θ1 H1 g1 r1 h1=>?_
 split at h1
 ·rename_i i;exact⟨i,r1,h1 θ1 H1 g1⟩
 ·exact h1.elim
def BC {g:GO}{Q:Option Int->Hp->Prop}{α:Type}(hd:gq X.K θ H σ ρ)(hw:Wr X.K θ H M)(F:aN α->Prop)(Fe:∀c M',F (.err c M')->cH X θ H c M')(Fb:F .bad->False)
  {f:Option Int->aw->aN α} (h:F ((g ρ M).bind f)) (k:∀d M1 θ1 H1,Go X.K θ H θ1 H1 M1->F (f d M1)->Q d H1):tO X g σ H Q:=by
 refine⟨ρ,θ,M,hd,hw,?_⟩;cases q:g ρ M with
 | ok d M1=>
  rw[q] at h;exact λθ1 H1 g1=>k d M1 θ1 H1 g1 h
 | err c M1=>rw[q] at h;exact Fe c M1 h
 | bad=>rw[q] at h;exact(Fb h).elim
def m6 (g:GE)(gl gh:GO):GE:=λρ M=>(g ρ M).bind λx M1=>(gl ρ M1).bind λlo M2=>(gh ρ M2).bind λhi M3=>mP x lo hi M3
def Jn (X:Cx):V->Option Int->Option Int->Hp->VK->Prop:=λx lo hi H Q=>∃θ M d,Wr X.K θ H M/\isD X.K θ H d x/\aC X θ H Q (mP d lo hi M)
def je (r:isDs K θ H ds vs)(lo hi:Option Int):isDs K θ H (jO ds lo hi) (qf vs lo hi):=by
 unfold jO qf;rw[<-ao r];exact nE _ (nH _ r)
def Hx:Hg X (Jn X):=by
 intro aa s σ H x v vl vu lo hi sl Q I rx hs pl pu h;obtain⟨θ,M,d,hw,r,h⟩:=h;cases d with
 | tup ds=>
  obtain⟨a,vs,e,ta,ra⟩:=r
  by_cases hc:HT.sIx vs.length 0 lo=0/\HT.sIx vs.length vs.length hi=vs.length
  ·subst e;cases rx;obtain⟨its,rv,ht,hz⟩:=I.tuple ta.sq;have hlen:its.toArray.size=vs.length:=by rw[size_toArray];exact rv.length.symm
   refine⟨"tuple",_,PyProof.Rows.slot_tuple_getitem.lookup,ht.typeIs,?_⟩;refine iF ht hs pl pu (by rw[hlen];exact hc) ⟨.ref a,H,I,rfl,h _ θ H (.refl hw) ⟨a,vs,rfl,ta,?_⟩⟩;have e:jO ds lo hi=ds:=by
    unfold jO;rw[ao ra,hc.1,hc.2,drop_zero,Nat.sub_zero,<-ao ra,take_length]
   rw[e];exact ra
  ·exact C0 aa s σ H x v vl vu lo hi sl Q I rx hs pl pu ⟨a,vs,e,ta.sq,hc,λp hp=>h _ θ _ (cJ hw hp) (gw hw hp (je ra lo hi))⟩
 | lst ds=>
  obtain⟨a,vs,e,ta,ra⟩:=r;exact oy aa s σ H x v vl vu lo hi sl Q I rx hs pl pu ⟨a,vs,e,ta.sq,λp hp=>h _ θ _ (cJ hw hp) (f6 hw hp (je ra lo hi))⟩
 | ro ds=>
  obtain⟨a,vs,e,ta,ra⟩:=r;exact oy aa s σ H x v vl vu lo hi sl Q I rx hs pl pu ⟨a,vs,e,ta.sq,λp hp=>h _ θ _ (cJ hw hp) (f6 hw hp (je ra lo hi))⟩
 | mr k=>
  obtain⟨a,e,ta⟩:=r;have h:aC X θ H Q (match M[k]? with|some (.lst xs)=>.ok (.lst (jO xs lo hi)) M|_=>.bad):=h;cases qm:M[k]? with
  | none=>rw[qm] at h;exact h.elim
  | some m=>
   cases m with
   | lst ys=>
    rw[qm] at h;obtain⟨vs,hv,ra⟩:=hw.at_ k a _ ta qm;exact oy aa s σ H x v vl vu lo hi sl Q I rx hs pl pu ⟨a,vs,e,.inl (.inl hv),λp hp=>h _ θ _ (cJ hw hp) (f6 hw hp (je ra lo hi))⟩
   | _=>rw[qm] at h;exact h.elim
 | _=>exact h.elim
def yN {lo hi:Option Expr}{gl gh:GO}{p2:Pos}(he:PE X e (tE X g))(hl:PO X lo (tO X gl))(hh:PO X hi (tO X gh)):PE X (.Subscript e (.Slice lo hi Y p2) pos) (tE X (m6 g gl gh)):=
 (xZ Hx he hl hh).of λσ H Q hxx=>by
  refine q3x3 hxx λρ θ M hd hw h=>?_;refine bo hd hw (aC X θ H Q) (λc M' h=>h) (λh=>h) h λd M1 v θ1 H1 g1 r1 h1=>?_
  refine BC (hd.go g1) g1.wr (aC X θ1 H1 Q) (λc M' h=>h) (λh=>h) (h1.go g1) λl M2 θ2 H2 g2 h2=>?_
  refine BC ((hd.go g1).go g2) g2.wr (aC X θ2 H2 Q) (λc M' h=>h) (λh=>h) (h2.go g2) λu M3 θ3 H3 g3 h3=>?_
  exact⟨θ3,M3,d,g3.wr,r1.go (g2.trans g3),h3.go g3⟩
def AM (d:D)(M:aw):aN Bool:=match d with
 | .non=>.ok false M
 | .bl b=>.ok b M
 | .int i=>.ok (i != 0) M
 | .str x=>if x.length<=sizeLine then .ok ((x.length:Int) != 0) M else .bad
 | .tup xs=>.ok (!xs.isEmpty) M
 | .lst xs=>.ok (!xs.isEmpty) M
 | .ro xs=>.ok (!xs.isEmpty) M
 | .mr k=>match M[k]? with
  | some (.lst xs)=>.ok (!xs.isEmpty) M
  | _=>.bad
 | .exc _=>.bad
 | .any=>.bad
def gP (g:GE):GT:=λρ M=>(g ρ M).bind AM
def gk (r:isDs K θ H ds vs):(!vs.isEmpty)=!ds.isEmpty:=by
 have:=ao r;cases ds <;> cases vs <;> simp_all
def DZ {a:Expr}(ha:PE X a (tE X g))(he:∀whole,isTrue a X.env whole=(do let v <-whole;standAt a.pos;holding [v] (truthy v)):=by intro _;rfl):PT X a (tT X (gP g)):=
 (xI ha he).of λσ H Q hxx=>by
  refine q3x3 hxx λρ θ M hd hw h=>?_;refine bo hd hw (jz X θ H Q) (λc M' h=>h) (λh=>h) h λd M1 v θ1 H1 g1 r1 h1=>?_
  cases d with
  | non=>have e:v=.non:=r1;subst e;exact⟨false,rfl,h1 θ1 H1 g1⟩
  | bl b=>have e:v=.bl b:=r1;subst e;exact⟨b,rfl,h1 θ1 H1 g1⟩
  | int i=>have e:v=.int i:=r1;subst e;exact⟨i != 0,rfl,h1 θ1 H1 g1⟩
  | str x=>
   have e:v=.str x:=r1;subst e;have h1:jz X θ H Q (if x.length<=sizeLine then .ok ((x.length:Int) != 0) M1 else .bad):=h1;split at h1
   ·rename_i hl;exact⟨_,⟨hl,rfl⟩,h1 θ1 H1 g1⟩
   ·exact h1.elim
  | tup xs=>
   refine q2x3 r1 λa vs e ta ra=>?_;subst e;exact⟨_,.inr (.inl ⟨vs,ta.sq,(gk ra).symm⟩),h1 θ1 H1 g1⟩
  | lst xs=>
   refine q2x3 r1 λa vs e ta ra=>?_;subst e;exact⟨_,.inl ⟨vs,ta.sq,(gk ra).symm⟩,h1 θ1 H1 g1⟩
  | ro xs=>
   refine q2x3 r1 λa vs e ta ra=>?_;subst e;exact⟨_,.inl ⟨vs,ta.sq,(gk ra).symm⟩,h1 θ1 H1 g1⟩
  | mr k=>
   refine q1x2 r1 λa e ta=>?_;subst e;have h1:jz X θ H Q (match M1[k]? with|some (.lst xs)=>.ok (!xs.isEmpty) M1|_=>.bad):=h1;cases qm:M1[k]? with
   | none=>rw[qm] at h1;exact h1.elim
   | some m=>
    cases m with
    | lst ys=>
     rw[qm] at h1;refine q1x2 (g1.wr.at_ k a _ ta qm) λvs hv ra=>?_;exact⟨_,.inl ⟨vs,.inl (.inl hv),(gk ra).symm⟩,h1 θ1 H1 g1⟩
    | _=>rw[qm] at h1;exact h1.elim
  | exc c=>exact h1.elim
  | any=>exact h1.elim
def cK:FD:=λds M=>match ds with
 | [.str x]=>if x.length<=sizeLine then .ok (.int x.length) M else .bad
 | [d]=>match aW d M with
  | some xs=>.ok (.int xs.length) M
  | none=>.bad
 | _=>.bad
def rQ:FD:=λds M=>match ds with
 | [.int i,.int j]=>.ok (.int (if j<i then j else i)) M
 | _=>.bad
def iN:FD:=λds M=>match ds with
 | [d]=>match aW d M with
  | some xs=>.ok (.lst xs) M
  | none=>.bad
 | _=>.bad
def lL:FD:=λds M=>match ds with
 | [d]=>match aW d M with
  | some xs=>.ok (.mr M.length) (M++[.lst xs])
  | none=>.bad
 | _=>.bad
def gL:FD:=λds M=>match ds with
 | [d]=>match aW d M with
  | some xs=>.ok (.tup xs) M
  | none=>.bad
 | _=>.bad
def gH (r:isDs K θ H [d] xs):∃v,xs=[v]/\isD K θ H d v:=by
 refine q2x3 r λv rr e h1 h2=>?_;have e2:rr=[]:=h2;subst e2;exact⟨v,e,h1⟩
def Ds {d':D}(r:isDs K θ H [d,d'] xs):∃v v',xs=[v,v']/\isD K θ H d v/\isD K θ H d' v':=by
 refine q2x3 r λv rr e h1 h2=>?_;refine q1x2 (gH h2) λv' e2 h3=>?_;subst e2;exact⟨v,v',e,h1,h3⟩
def Ep:cG X (.builtin "len") (rC X cK):=by
 intro aa s σ H xs us Q I r h;refine q3x3 h λθ M ds hw rd h=>?_;unfold cK at h;split at h
 ·rename_i x;split at h
  ·rename_i hl;refine q1x2 (gH rd) λv e rv=>?_;exact oK aa s σ H xs us Q I r ⟨x,by rw[e,show v=.str x from rv],hl,h _ θ H (.refl hw) rfl⟩
  ·exact h.elim
 ·rename_i d _;split at h
  ·rename_i ys q;refine q1x2 (gH rd) λv e rv=>?_;refine q2x3 (iT hw rv q) λa vs ea sq ra=>?_;refine oH aa s σ H xs us Q I r ⟨a,vs,by rw[e,ea],sq,?_⟩;rw[<-ao ra];exact h _ θ H (.refl hw) rfl
  ·exact h.elim
 ·exact h.elim
def B6 (hc:X.calm=true):cG X (.builtin "min") (rC X rQ):=by
 intro aa s σ H xs us Q I r h;refine q3x3 h λθ M ds hw rd h=>?_;unfold rQ at h;split at h
 ·rename_i i j;refine q2x3 (Ds rd) λv v' e rv rv'=>?_;exact uW hc aa s σ H xs us Q I r ⟨i,j,by rw[e,show v=.int i from rv,show v'=.int j from rv'],h _ θ H (.refl hw) rfl⟩
 ·exact h.elim
def AL:cG X (.type "list") (rC X iN):=by
 intro aa s σ H xs us Q I r h;refine q3x3 h λθ M ds hw rd h=>?_;unfold iN at h;split at h
 ·rename_i d;split at h
  ·rename_i ys q;refine q1x2 (gH rd) λv e rv=>?_;refine q2x3 (iT hw rv q) λa vs ea sq ra=>?_;exact js aa s σ H xs us Q I r ⟨a,vs,by rw[e,ea],sq,λl hl=>h _ θ _ (cJ hw hl) (f6 hw hl ra)⟩
  ·exact h.elim
 ·exact h.elim
def wU:cG X (.type "list") (rC X lL):=by
 intro aa s σ H xs us Q I r h;refine q3x3 h λθ M ds hw rd h=>?_;unfold lL at h;split at h
 ·rename_i d;split at h
  ·rename_i ys q;refine q1x2 (gH rd) λv e rv=>?_;refine q2x3 (iT hw rv q) λa vs ea sq ra=>?_;exact js aa s σ H xs us Q I r ⟨a,vs,by rw[e,ea],sq,λl hl=>h _ _ _ (zh hw hl ra) (qC hw)⟩
  ·exact h.elim
 ·exact h.elim
def yz:cG X (.type "tuple") (rC X gL):=by
 intro aa s σ H xs us Q I r h;refine q3x3 h λθ M ds hw rd h=>?_;unfold gL at h;split at h
 ·rename_i d;refine q1x2 (gH rd) λv e rv=>?_;cases d with
  | tup ys=>
   refine q2x3 rv λa vs ea ta ra=>?_;exact dP aa s σ H xs us Q I r ⟨a,vs,by rw[e,ea],.inr ⟨ta.sq,h _ θ H (.refl hw) ⟨a,vs,rfl,ta,ra⟩⟩⟩
  | lst ys=>
   refine q2x3 rv λa vs ea ta ra=>?_;exact dP aa s σ H xs us Q I r ⟨a,vs,by rw[e,ea],.inl ⟨ta.sq,λl hl=>h _ θ _ (cJ hw hl) (gw hw hl ra)⟩⟩
  | ro ys=>
   refine q2x3 rv λa vs ea ta ra=>?_;exact dP aa s σ H xs us Q I r ⟨a,vs,by rw[e,ea],.inl ⟨ta.sq,λl hl=>h _ θ _ (cJ hw hl) (gw hw hl ra)⟩⟩
  | mr k=>
   refine q1x2 rv λa ea ta=>?_;cases qm:M[k]? with
   | none=>simp[aW,qm] at h;exact h.elim
   | some m=>
    cases m with
    | lst ys=>
     simp only[aW,qm] at h;refine q1x2 (hw.at_ k a _ ta qm) λvs hv ra=>?_;exact dP aa s σ H xs us Q I r ⟨a,vs,by rw[e,ea],.inl ⟨.inl (.inl hv),λl hl=>h _ θ _ (cJ hw hl) (gw hw hl ra)⟩⟩
    | _=>simp[aW,qm] at h;exact h.elim
  | _=>exact h.elim
 ·exact h.elim
end
def cA (cells:List (Str×Addr)):List (Str×NameKind)->List (Str×Addr)->List (Str×Addr)
 | [],acc=>acc
 | (n,k)::r,acc=>if k==.free then cA cells r ((n,(cells.lookup n).getD 0)::acc) else cA cells r acc
theorem lb {env:Env}:∀(l:List (Str×NameKind)) (cs:List (Str×Addr)),(∀p∈l,p.2=.free->∃c,env.cells.lookup p.1=Z c)->
  (forIn (m:=Sem) l cs λx r=>match x with
   | (name,kind)=>if(kind==NameKind.free)=true then do let __do_lift <-cellOf env name;pure (ForInStep.yield ((name,__do_lift)::r)) else pure (ForInStep.yield r))=pure (cA env.cells l cs)
 | [],cs,h=>rfl
 | (n,k)::r,cs,h=>by
  have ih:=λcs=>lb (env:=env) r cs λp hp=>h p (mem_cons_of_mem _ hp)
  rw[forIn_cons]
  by_cases hk:(k==NameKind.free)=true
  ·refine q1x1 (h (n,k) mem_cons_self (by simpa using hk)) λc hc=>?_;have e:cellOf env n=pure c:=by unfold cellOf;rw[show List.lookup n env.cells=Z c from hc]
   simp only[hk,if_true,cA,e,pure_bind];rw[ih,show List.lookup n env.cells=Z c from hc];rfl
  ·simp only[hk,if_false,cA,pure_bind,Bool.false_eq_true];exact ih cs
def gM {env:Env}(h:∀p∈scope.names,p.2=.free->∃c,env.cells.lookup p.1=Z c):closureFor scope env=pure (cA env.cells scope.names []):=by
 have:=lb (env:=env) scope.names [] h;unfold closureFor;simp only[bind_pure_comp] at this ⊢
 first
  | (rw[this];rfl)
  | (simp[this])
  | exact this
theorem mL {cells:List (Str×Addr)}:∀(l:List (Str×NameKind)) (acc:List (Str×Addr)),(∀p∈acc,cells.lookup p.1=Z p.2)->(∀p∈l,p.2=.free->∃c,cells.lookup p.1=Z c)->
  ∀p∈cA cells l acc,cells.lookup p.1=Z p.2
 | [],acc,ha,h=>ha
 | (n,k)::r,acc,ha,h=>by
  have hr:∀p∈r,p.2=.free->∃c,cells.lookup p.1=Z c:=λp hp=>h p (mem_cons_of_mem _ hp)
  unfold cA
  by_cases hk:(k==NameKind.free)=true
  ·rw[if_pos hk];refine mL r _ (λp hp=>?_) hr;rcases mem_cons.mp hp with e|hp
   ·subst e;refine q1x1 (h (n,k) mem_cons_self (by simpa using hk)) λc hc=>?_;have hc':cells.lookup n=Z c:=hc;show cells.lookup n=Z ((cells.lookup n).getD 0);rw[hc'];rfl
   ·exact ha p hp
  ·rw[if_neg hk];exact mL r acc ha hr
theorem mm {cells:List (Str×Addr)}:∀(l:List (Str×NameKind)) (acc:List (Str×Addr)),∀p∈acc,p∈cA cells l acc
 | [],acc,p,h=>h
 | (n,k)::r,acc,p,h=>by
  unfold cA
  by_cases hk:(k==NameKind.free)=true
  ·rw[if_pos hk];exact mm r _ p (mem_cons_of_mem _ h)
  ·rw[if_neg hk];exact mm r acc p h
theorem mG {cells:List (Str×Addr)}:∀(l:List (Str×NameKind)) (acc:List (Str×Addr)) (n:Str),(n,NameKind.free)∈l->∃c,(n,c)∈cA cells l acc
 | [],acc,n,h=>by cases h
 | (m,k)::r,acc,n,h=>by
  unfold cA;rcases mem_cons.mp h with e|h
  ·cases e;rw[if_pos (by rfl)];exact⟨_,mm r _ _ mem_cons_self⟩
  ·by_cases hk:(k==NameKind.free)=true
   ·rw[if_pos hk];exact mG r _ n h
   ·rw[if_neg hk];exact mG r acc n h
def iV {l:List (Str×Addr)}{n:Str}(h:(n,c)∈l):∃c',l.lookup n=Z c':=by
 induction l with
 | nil=>cases h
 | cons p r ih=>
  obtain⟨m,d⟩:=p
  by_cases e:(n==m)=true
  ·exact⟨d,by simp[List.lookup,e]⟩
  ·have e':(n==m)=false:=by simpa using e
   rcases mem_cons.mp h with q|q
   ·cases q;simp at e
   ·refine q1x1 (ih q) λc' hc=>?_;exact⟨c',by simp only[List.lookup,e'];exact hc⟩
theorem fb {env:Env}:∀{names:List (Str×NameKind)} {x:Str} {k:NameKind},
  (names.map λ(n,k)=>if(k==NameKind.free&&env.scope.kind==.function&&env.kindOf n==Z .cell) then(n,NameKind.cell) else(n,k)).lookup x=Z k->
   names.lookup x=Z k\/(k=.cell/\names.lookup x=Z .free)
 | [],_,_,h=>by simp at h
 | (n,k')::r,x,k,h=>by
  have ih:=@fb env r x k;have h:List.lookup x ((if(k'==NameKind.free&&env.scope.kind==.function&&env.kindOf n==Z .cell)=true then(n,NameKind.cell) else(n,k'))::_)=Z k:=h
  by_cases hc:(k'==NameKind.free&&env.scope.kind==.function&&env.kindOf n==Z .cell)=true
  ·rw[if_pos hc] at h;cases hx:x==n with
   | true=>
    simp only[lookup_cons,hx] at h ⊢;cases h;have:k'=.free:=by
     rw[Bool.and_eq_true,Bool.and_eq_true] at hc;simpa using hc.1.1
    subst this;exact .inr ⟨rfl,rfl⟩
   | false=>
    simp only[lookup_cons,hx] at h ⊢;exact ih h
  ·rw[if_neg hc] at h;cases hx:x==n with
   | true=>
    simp only[lookup_cons,hx] at h ⊢;exact .inl h
   | false=>
    simp only[lookup_cons,hx] at h ⊢;exact ih h
def bE (sc:Scope)(fk:Str->Option NameKind)(xs:List Str)(R N:List Str):Bool:=
 decide (sc.kind=.function)&&xs.all (λx=>sc.names.lookup x==Z .local) &&
 sc.names.all (λp=>match p.2 with
  | .cell=>false
  | .local=>(xs.contains p.1||p.1==(".0":Str))&&sc.names.lookup p.1==Z .local
  | .free=>fk p.1==Z .cell||fk p.1==Z .free
  | _=>true) &&
 decide ((xs++R).Nodup)&&!(R.contains (".0":Str))&&R.length==N.length &&
 (R.zip N).all (λp=>p.1==p.2||sc.names.lookup p.1 != Z .free)
structure bj (sc:Scope)(fk:Str->Option NameKind)(xs:List Str)(R N:List Str):Prop where
 kind:sc.kind=.function
 own:∀x∈xs,sc.names.lookup x=Z .local
 nocell:∀p∈sc.names,p.2≠.cell
 locs:∀p∈sc.names,p.2=.local->p.1∈xs\/p.1=(".0":Str)
 lnames:∀p∈sc.names,p.2=.local->sc.names.lookup p.1=Z .local
 free:∀p∈sc.names,p.2=.free->fk p.1=Z .cell\/fk p.1=Z .free
 nd:(xs++R).Nodup
 no0:(".0":Str)∉R
 len:R.length=N.length
 same:∀(i:Nat) y,R[i]?=Z y->sc.names.lookup y=Z .free->N[i]?=Z y
def bj.of {sc:Scope}{fk:Str->Option NameKind}{xs:List Str}{R N:List Str}(h:bE sc fk xs R N=true):bj sc fk xs R N:=by
 unfold bE at h;simp only[Bool.and_eq_true,decide_eq_true_eq,all_eq_true,Bool.not_eq_true',beq_iff_eq] at h;obtain⟨⟨⟨⟨⟨⟨h1,h2⟩,h3⟩,h4⟩,h5⟩,h6⟩,h7⟩:=h;refine⟨h1,h2,λp hp e=>?_,λp hp e=>?_,λp hp e=>?_,λp hp e=>?_,h4,?_,h6,λi y hy hf=>?_⟩
 ·have:=h3 p hp;rw[e] at this;simp at this
 ·have:=h3 p hp;rw[e] at this;simp at this;exact this.1
 ·have:=h3 p hp;rw[e] at this;simp at this;exact this.2
 ·have:=h3 p hp;rw[e] at this;simp at this;exact this
 ·intro hm;have:R.contains (".0":Str)=true:=by simpa using hm
  rw[this] at h5;cases h5
 ·refine q1x1 (List.getElem?_eq_some_iff.mp hy) λhi e=>?_;have hn:i<N.length:=by rw[<-h6];exact hi
  have hz:(R[i],N[i])∈R.zip N:=by
   rw[mem_iff_getElem];exact⟨i,by simp;omega,by simp⟩
  have:=h7 _ hz;simp only[Bool.or_eq_true,beq_iff_eq,bne_iff_ne,ne_eq] at this;rcases this with q|q
  ·rw[getElem?_eq_getElem hn,<-q,e]
  ·rw[e] at q;exact absurd hf q
def ak (X:Cx)(scope:Scope)(xs:List Str)(R:List Str)(fp:List Addr)(s:Shared)(H:Hp)(C:Addr):Cx where
 prog:=X.prog
 w:=X.w
 K:=X.K
 mg:=X.mg
 base:=X.base
 A:=X.A
 N:=xs++R
 s₀:=s
 H₀:=H
 env:=compEnvC scope (cA X.env.cells scope.names []) C X.env
 outer:=X.stack
 stack:=X.stack
 ex:=fp
 fn:=λ_=>false
 calm:=X.calm
 pn:=[]
 xe:=λ_ _=>False
variable{y:Str}
section
variable {X:Cx}{aa:List (Addr×Obj)}{σ:L2.St}{H:Hp}{s:Shared}{scope:Scope}{xs:List Str}{R:List Str}{fp:List Addr}{C:Addr}
def bj.cells (S:bj scope X.env.kindOf xs R X.N)(I:L2.Inv X aa σ H s):∀p∈scope.names,p.2=.free->∃c,X.env.cells.lookup p.1=Z c:=λp hp e=>I.ok.has p.1 (S.free p hp e)
def bA (S:bj scope X.env.kindOf xs R X.N)(I:L2.Inv X aa σ H s)(h:(cA X.env.cells scope.names []).lookup y=Z c):X.env.cells.lookup y=Z c:=
 mL scope.names [] (λ_ z=>by cases z) (S.cells I) (y,c) (PySem.mem_of_lookup h)
def pR {h4:Heap}{m:Str->Option Value}{tk:Nat}(S:bj scope X.env.kindOf xs R X.N)(I:L2.Inv X aa σ H s)(hC:s.heap.objs.size<=C)(k:∀b o,s.heap.get? b=Z o->h4.get? b=Z o)(hn:h4.Ns C m)
  (hf:∀b∈fp,fV X aa H b) (hfl:∀b∈fp,b<s.heap.objs.size):L2.Inv (ak X scope xs R fp s H C) [] (List.replicate xs.length Y++σ) H {s with heap:=h4,toks:=tk}:=by
 have hkn:∀y kk,(relabel scope X.env).names.lookup y=Z kk->(kk=.cell\/kk=.free)->scope.names.lookup y=Z .free:=λy kk e hk=>by
  rcases fb e with q|q
  ·rcases hk with z|z
   ·subst z;exact absurd rfl (S.nocell _ (PySem.mem_of_lookup q))
   ·subst z;exact q
  ·exact q.2
 have hasc:∀y,scope.names.lookup y=Z .free->∃c,(cA X.env.cells scope.names []).lookup y=Z c:=λy e=>by
  refine q1x1 (mG (cells:=X.env.cells) scope.names [] y (PySem.mem_of_lookup e)) λc hc=>?_;exact iV hc
 refine⟨⟨I.ok.mod,S.kind,I.ok.glob,I.ok.blt,hC,λy z c h1 h2=>I.ok.inj y z c (bA S I h1) (bA S I h2),λy hy=>?_,λy c z=>absurd (show false=true from z) Bool.false_ne_true,I.ok.hd,I.ok.frames,.inl rfl,λb hb=>⟨?_,λy c e=>?_⟩,I.bs,Nat.le_trans I.ok.bsz I.sz,λb o e hb=>?_,λb hb z=>?_,I.stack,I.stkFree⟩,
  rfl,I.bare,Un.kept k,⟨m,hn,λi y v h1 h2 h3=>?_⟩,λy c e=>?_,I.hok.fresh hC,λy c e=>I.freeC y c (bA S I e),λp hp=>absurd (show p∈([]:List (Addr×Obj)) from hp) (by simp),I.hok.kept k,?_⟩
 ·rcases hy with e|e
  ·exact hasc y (hkn y _ e (.inl rfl))
  ·exact hasc y (hkn y _ e (.inr rfl))
 ·exact Nat.ne_of_lt (Nat.lt_of_lt_of_le (hfl b hb) hC)
 ·exact(hf b hb).2.2.2.2.1 y c (bA S I e)
 ·rcases(hf b hb).2.2.2.1 with z|z
  ·exact I.ok.noex b o e z
  ·exact absurd (Nat.lt_of_lt_of_le (Heap.lt_size e) (Nat.le_trans I.ok.bsz z)) (Nat.lt_irrefl _)
 ·rcases mem_cons.mp (I.stkSub b z) with e|e
  ·exact(hf b hb).2.1 e
  ·exact(hf b hb).2.2.1 e
 ·by_cases hi:i<xs.length
  ·exfalso;rw[getElem?_append_left (by rw[length_replicate];exact hi),getElem?_replicate,if_pos hi] at h2;cases h2
  ·obtain⟨i,rfl⟩:∃j,i=xs.length+j:=⟨i-xs.length,by omega⟩;have h1:R[i]?=Z y:=by
    have h1:(xs++R)[xs.length+i]?=Z y:=h1;rw[getElem?_append_right (by omega)] at h1;simpa using h1
   have h2:σ[i]?=Z (Z v):=by
    rw[getElem?_append_right (by rw[length_replicate];omega)] at h2;simpa using h2
   have hyR:y∈R:=mem_of_getElem? h1;have hf':scope.names.lookup y=Z .free/\((relabel scope X.env).names.lookup y=Z .cell\/(relabel scope X.env).names.lookup y=Z .free):=by
    have h3:(relabel scope X.env).names.lookup y=Z .local\/(relabel scope X.env).names.lookup y=Z .cell\/(relabel scope X.env).names.lookup y=Z .free:=h3;rcases h3 with e|e|e
    ·rcases fb e with q|q
     ·exfalso;rcases S.locs _ (PySem.mem_of_lookup q) rfl with z|z
      ·exact(nodup_append.mp S.nd).2.2 y z y hyR rfl
      ·have z:y=(".0":Str):=z;rw[z] at hyR;exact S.no0 hyR
     ·exact absurd q.1 (by intro z;cases z)
    ·exact⟨hkn y _ e (.inl rfl),.inl e⟩
    ·exact⟨hkn y _ e (.inr rfl),.inr e⟩
   have hN:=S.same i y h1 hf'.1;have hk:=S.free (y,.free) (PySem.mem_of_lookup hf'.1) rfl;refine q1x2 I.loc λmX hnX hl=>?_;have vis:EK X.env.scope y:=by
    rcases hk with z|z
    ·exact .inr (.inl z)
    ·exact .inr (.inr z)
   refine q1x2 (hl i y v hN h2 vis) λu r l=>?_;refine⟨u,r,.inr ⟨hf'.2,?_⟩⟩;rcases l with⟨z,_⟩|⟨_,c,hc,o,ho,hod⟩
   ·exfalso;rcases hk with q|q
    ·have q:X.env.kindOf y=Z .cell:=q;rw[z] at q;cases q
    ·have q:X.env.kindOf y=Z .free:=q;rw[z] at q;cases q
   ·refine q1x1 (hasc y hf'.1) λc' hc'=>?_;have:c'=c:=by
     have:=bA S I hc';rw[hc] at this;exact(Option.some.inj this).symm
    subst this;exact⟨c',hc',o,k _ _ ho,hod⟩
 ·refine q2x2 (I.cell y c (bA S I e)) λv o ho hd=>?_;exact⟨v,o,k _ _ ho,hd⟩
 ·show(List.replicate xs.length Y++σ).length=(xs++R).length;rw[length_append,length_append,length_replicate,I.len,S.len]
end
def dG (t:jP)(gc:GT)(ge:GE):List D->bv->aw->aN (List D)
 | [],ρ,M=>if t.ok M then .ok [] M else .bad
 | d::r,ρ,M=>if t.ok M then
   match gc (Z d::ρ) M with
   | .ok true M1=>match ge (Z d::ρ) M1 with
    | .ok e M2=>(dG t gc ge r ρ M2).bind λes M3=>.ok (e::es) M3
    | _=>.bad
   | .ok false M1=>dG t gc ge r ρ M1
   | _=>.bad
  else .bad
def fo:GT:=λ_ M=>.ok true M
def aM (t:jP)(n:Nat)(sg:GG)(gc:GT)(ge:GE):List D->bv->aw->aN (List D)
 | [],ρ,M=>if t.ok M then .ok [] M else .bad
 | d::r,ρ,M=>if t.ok M then
   match sg d (List.replicate n Y++ρ) with
   | none=>.bad
   | some ρ1=>match gc ρ1 M with
    | .ok true M1=>match ge ρ1 M1 with
     | .ok e M2=>(aM t n sg gc ge r ρ M2).bind λes M3=>.ok (e::es) M3
     | _=>.bad
    | .ok false M1=>aM t n sg gc ge r ρ M1
    | _=>.bad
  else .bad
def cm (gi:GI)(n:Nat)(sg:GG)(gc:GT)(ge:GE)(mk:List D->aw->aN D):GE:=λρ M=>(gi ρ M).bind λt M1=>(aM t n sg gc ge t.ds ρ M1).bind mk
theorem pX (t:jP)(gc:GT)(ge:GE):∀(ds:List D) (ρ:bv) (M:aw),dG t gc ge ds ρ M=aM t 1 (bP 0) gc ge ds ρ M
 | [],ρ,M=>rfl
 | d::r,ρ,M=>by
  have ih:=pX t gc ge r;unfold dG aM;show _=(if t.ok M=true then(match gc (Z d::ρ) M with
    | .ok true M1=>match ge (Z d::ρ) M1 with
     | .ok e M2=>(aM t 1 (bP 0) gc ge r ρ M2).bind λes M3=>.ok (e::es) M3
     | _=>.bad
    | .ok false M1=>aM t 1 (bP 0) gc ge r ρ M1
    | _=>.bad) else .bad)
  simp only[ih]
def ot (n:Nat)(sg:GG):Prop:=∀d ρ ρ',sg d ρ=Z ρ'->ρ'.length=ρ.length/\∀i:Nat,n<=i->ρ'[i]?=ρ[i]?
def oD (h:i<n):ot n (bP i):=λd ρ ρ' e=>by
 have e:Z (ρ.set i (Z d))=Z ρ':=e;cases e;exact⟨by rw[length_set],λj hj=>by rw[getElem?_set_ne (by omega)]⟩
theorem qK {n:Nat}:∀{is:List Nat} {ds:List D} {ρ ρ':bv},is.all (λi=>decide (i<n))=true->jo is ds ρ=Z ρ'->ρ'.length=ρ.length/\∀i:Nat,n<=i->ρ'[i]?=ρ[i]?
 | [],[],ρ,ρ',_,e=>by cases e;exact⟨rfl,λ_ _=>rfl⟩
 | [],_::_,_,_,_,e=>by cases e
 | _::_,[],_,_,_,e=>by cases e
 | i::is,d::ds,ρ,ρ',h,e=>by
  rw[all_cons,Bool.and_eq_true] at h;have hi:i<n:=by simpa using h.1
  refine q0x2 (qK h.2 (show jo is ds (ρ.set i (Z d))=Z ρ' from e)) λa b=>?_;exact⟨by rw[a,length_set],λj hj=>by rw[b j hj,getElem?_set_ne (by omega)]⟩
def zE (h:is.all (λi=>decide (i<n))=true):ot n (dn is):=λd ρ ρ' e=>by
 cases d with
 | tup ds=>exact qK h e
 | _=>cases e
def ot.back {τ:L2.St}{ρ1:bv}(o:ot n sg)(e:sg d (List.replicate n Y++ρ)=Z ρ1)(h:gq K θ H τ ρ1):gq K θ H τ (List.replicate n Y++ρ):=by
 refine q0x2 (o _ _ _ e) λa b=>?_;refine⟨by rw[<-a];exact h.len,λi d' q=>?_⟩
 by_cases hi:i<n
 ·rw[getElem?_append_left (by rw[length_replicate];exact hi),getElem?_replicate,if_pos hi] at q;cases q
 ·rw[<-b i (by omega)] at q;exact h.at_ i d' q
def aK (gi:GI)(gc:GT)(ge:GE)(mk:List D->aw->aN D):GE:=λρ M=>(gi ρ M).bind λt M1=>(dG t gc ge t.ds ρ M1).bind mk
def qO (elt target iter:Expr)(ifs:List Expr)(scope:Scope)(pos:Pos)(it acc:Value)(env:Env)(cond:Sem Bool)
  (hc:(forIn (m:=Sem) ifs true λc r=>if r=true then do let ok <-isTrue c env (eval c env);pure (ForInStep.yield ok) else pure (ForInStep.yield r))=cond) :
  compTurn (.ListComp elt [⟨target,iter,ifs,0⟩] scope pos) 0 it acc env=(standAt iter.pos >>= λ_=>pyNext it >>= λr=>match r with
   | none=>pure (.done .next)
   | some v=>letOwnedTupleGo target it v >>= λ_=>assign target env v >>= λ_=>cond >>= λok=>
    if ok=true then((eval elt env >>= λx=>call (.builtin "list.append") [acc,x] >>= λ_=>pure ()) >>= λ_=>
     again (.compLoop (.ListComp elt [⟨target,iter,ifs,0⟩] scope pos) 0 it acc env)) else again (.compLoop (.ListComp elt [⟨target,iter,ifs,0⟩] scope pos) 0 it acc env)):=by
 subst hc;rfl
section
variable {prog:Program}{w:World}{A:Around}{R:Result->Shared->Prop}{s:Shared}
def ig {elt target iter:Expr}{ifs:List Expr}{scope:Scope}{pos:Pos}{it acc:Value}{env:Env}{cond:Sem Bool}
  (hc:(forIn (m:=Sem) ifs true λc r=>if r=true then do let ok <-isTrue c env (eval c env);pure (ForInStep.yield ok) else pure (ForInStep.yield r))=cond) (I:Nat->Shared->Prop)
  (turn:∀n s,I n s->wpAny (model prog w) A (pyNext it) (λr s₁=>match r with
   | none=>R (.ok .next) s₁
   | some v=>wpAny (model prog w) A (letOwnedTupleGo target it v) (λ_ s₂=>wpAny (model prog w) A (assign target env v) (λ_ s₃=>wpAny (model prog w) A cond (λok s₄=>if ok=true then
     wpAny (model prog w) A (eval elt env) (λx s₅=>wpAny (model prog w) A (call (.builtin "list.append") [acc,x]) (λ_ s₆=>∃m,m<n/\I m s₆) (λ_ _=>False) s₅) (λ_ _=>False) s₄
     else∃m,m<n/\I m s₄) (λ_ _=>False) s₃) (λ_ _=>False) s₂) (λ_ _=>False) s₁) (λ_ _=>False) s)
  (n:Nat) (h:I n s):codeAny (model prog w) A (.compLoop (.ListComp elt [⟨target,iter,ifs,0⟩] scope pos) 0 it acc env) R s:=by
 refine codeAny_loop rfl I (λn s hI=>?_) n h;show wpAny _ _ ((compTurn (.ListComp elt [⟨target,iter,ifs,0⟩] scope pos) 0 it acc env).onRaise (λx=>do noteFrame x env;theTreesLotGoes x)) _ _ s;refine wpAny_noted ?_;rw[qO _ _ _ _ _ _ _ _ _ _ hc];refine wpAny_bind (wpAny_standAt (wpAny_bind (wpAny_mono (turn n s hI) (λr s₁ h₁=>?_) λ_ _ z=>z.elim)));cases r with
 | none=>exact wpAny_pure h₁
 | some v=>
  refine wpAny_bind (wpAny_mono h₁ (λ_ s₂ h₂=>?_) λ_ _ z=>z.elim);refine wpAny_bind (wpAny_mono h₂ (λ_ s₃ h₃=>?_) λ_ _ z=>z.elim);refine wpAny_bind (wpAny_mono h₃ (λok s₄ h₄=>?_) λ_ _ z=>z.elim);cases ok with
  | true=>
   rw[if_pos rfl] at h₄;rw[if_pos rfl];exact wpAny_bind (wpAny_bind (wpAny_mono h₄ (λx s₅ h₅=>wpAny_bind (wpAny_mono h₅ (λ_ s₆ h₆=>wpAny_pure (wpAny_pure ⟨rfl,h₆⟩)) λ_ _ z=>z.elim)) λ_ _ z=>z.elim))
  | false=>
   rw[if_neg Bool.false_ne_true] at h₄;rw[if_neg Bool.false_ne_true];exact wpAny_pure ⟨rfl,h₄⟩
theorem sy {env:Env}:(forIn (m:=Sem) ([]:List Expr) true λc r=>if r=true then do let ok <-isTrue c env (eval c env);pure (ForInStep.yield ok) else pure (ForInStep.yield r))=pure true:=rfl
def uS {env:Env}{c:Expr}:(forIn (m:=Sem) [c] true λc r=>if r=true then do let ok <-isTrue c env (eval c env);pure (ForInStep.yield ok) else pure (ForInStep.yield r))=isTrue c env (eval c env):=by
 rw[forIn_cons];simp
end
def uE {b a c:Nat}(h:b<a)(e:c=a+1):b≠c:=by omega
def oX {b a c:Nat}(h:b<c)(e:c=a):a≠b:=by omega
def iw {b a c:Nat}(h:b<c)(e:c=a):b≠a:=by omega
abbrev fe (its:List Value)(n:Nat):Obj:={cls:=.type "list",data:=.seq its.toArray n}
section
variable {X:Cx}{aa:List (Addr×Obj)}{σ:L2.St}{s:Shared}{scope:Scope}{xs:List Str}{tg:Expr}{sg:GG}{R:List Str}{elt iter:Expr}{ifs:List Expr}{pos:Pos}{E:Value->Shared->Prop}
def ud {σ:L2.St}(h:gq K θ H σ ρ):gq K θ H (List.replicate n Y++σ) (List.replicate n Y++ρ):=by
 refine⟨by rw[length_append,length_append,length_replicate,length_replicate,h.len],λi d e=>?_⟩
 by_cases hi:i<n
 ·rw[getElem?_append_left (by rw[length_replicate];exact hi),getElem?_replicate,if_pos hi] at e;cases e
 ·rw[getElem?_append_right (by rw[length_replicate];omega),length_replicate] at e ⊢;exact h.at_ _ d e
inductive Jr (X0:Cx) (fp:List Addr) (tn:Nat->Heap->Prop) (K:W.Frag) (acc:Addr) (t:jP) (ρ0:bv) (θ1:List Addr) (H2:Hp) (es:List D) (go:List D->aw->aN (List D)) (Mend:aw) (n:Nat) (s':Shared):Prop
 | mk (i:Nat) (τ:L2.St) (H':Hp) (θ':List Addr) (M':aw) (ds rest:List D) (vs:List V) (its:List Value) (na:Nat) (e1:n=t.ds.length-i) (e2:i<=t.ds.length)
   (e3:L2.Inv X0 [(acc,fe its na)] τ H' s') (e4:gq K θ' H' τ ρ0) (e5:tn i s'.heap) (e6:∀b∈fp,H' b=Y) (e7:Go K θ1 H2 θ' H' M') (e8:isDs K θ' H' ds vs) (e9:aJ vs its) (e10:go (t.ds.drop i) M'=.ok rest Mend) (e11:ds++rest=es)
theorem lO {fp:List Addr}{it:Addr}{tn:Nat->Heap->Prop}{J:It}{H2:Hp}{s2:Shared}{t:jP}{M1:aw}{θ1:List Addr}{gc:GT}{ge:GE}{es:List D}{Mend:aw}{RR:Value->Addr->Result->Shared->Prop}
  (S:bj scope X.env.kindOf xs R X.N) (hc:X.calm=true) (I2:L2.Inv X aa σ H2 s2) (T:vA X.prog X.w X.K tg J fp it tn) (st2:tn 0 s2.heap) (f2:∀b∈fp,fV X aa H2 b)
  (hw1:Wr X.K θ1 H2 M1) (hd1:gq X.K θ1 H2 σ ρ) (hJ:xW X.K J θ1 H2 t) (hgo:aM t xs.length sg gc ge t.ds ρ M1=.ok es Mend) (hlen:es.length<=sizeLine)
  (hcd:∀C,∃cond,(forIn (m:=Sem) ifs true λc r=>if r=true then do let ok <-isTrue c (ak X scope xs R fp s2 H2 C).env (eval c (ak X scope xs R fp s2 H2 C).env);pure (ForInStep.yield ok) else pure (ForInStep.yield r))=cond/\
   ∀(aa:List (Addr×Obj)) (s:Shared) (σ:L2.St) (H:Hp) (Q:Bool->Hp->Prop),L2.Inv (ak X scope xs R fp s2 H2 C) aa σ H s->tT (ak X scope xs R fp s2 H2 C) gc σ H Q->wpAny (model X.prog X.w) X.A cond (TP (ak X scope xs R fp s2 H2 C) aa σ Q) (λ_ _=>False) s)
  (own:ot xs.length sg) (hg:∀C,PG (ak X scope xs R fp s2 H2 C) tg (tG (ak X scope xs R fp s2 H2 C) sg))
  (he:∀C,PE (ak X scope xs R fp s2 H2 C) elt (tE (ak X scope xs R fp s2 H2 C) ge))
  (fin:∀(acc C:Addr) (s':Shared) (H':Hp) (θ':List Addr) (vs:List V) (m:Str->Option Value),L2.Inv X aa σ (bu H' acc (.lst vs)) s'->s'.heap.Ns C m->fV X aa (bu H' acc (.lst vs)) C->Go X.K θ1 H2 θ' H' Mend->H' acc=Y->isDs X.K θ' H' es vs->RR (.ref acc) C (.ok .next) s') :
  wpAny (model X.prog X.w) X.A (newList []) (λacc s₃=>wpAny (model X.prog X.w) X.A (newFunctionEnv scope X.env.globals (cA X.env.cells scope.names []) [] X.env.qual Y .none (Z X.env)) (λcenv s₄=>
   codeAny (model X.prog X.w) X.A (.compStart (.ListComp elt [⟨tg,iter,ifs,0⟩] scope pos) 0 (.ref it) acc {cenv with scope:=relabel scope X.env}) (RR acc cenv.locals) s₄) E s₃) E s2:=by
 refine wpAny_newObj_type (wpAny_newFunctionEnv S.nocell (by intro y hy;simp at hy) (λh₁ hns₁ hsb₁=>?_) S.kind);dsimp only at hns₁ hsb₁ ⊢;generalize hHp:s2.heap.push {cls:=.type "list",dict:=Y,data:=.seq ([]:List Value).toArray}=Hp2 at hns₁ hsb₁ ⊢;have hCe:Hp2.objs.size=s2.heap.objs.size+1:=by rw[<-hHp,Heap.size_push]
 generalize hCd:Hp2.objs.size=C at hns₁ hsb₁ hCe ⊢;generalize hAd:s2.heap.objs.size=acc at hCe ⊢;have hDC:acc≠C:=by rw[hCe];exact Nat.ne_of_lt (Nat.lt_succ_self _)
 have old:∀b o,s2.heap.get? b=Z o->h₁.get? b=Z o:=λb o e=>by
  have hb:b<acc:=by rw[<-hAd];exact Heap.lt_size e
  refine hsb₁.extBut b o (uE hb hCe) (Heap.get?_push_of_some _ ?_);rw[<-hHp];exact Heap.get?_push_of_some _ e
 have hacc0:h₁.get? acc=Z (fe [] 0):=by
  refine hsb₁.extBut acc _ hDC (Heap.get?_push_of_some _ ?_);rw[<-hHp,<-hAd];exact Heap.get?_push_size _ rfl
 have hfl:∀b∈fp,b<s2.heap.objs.size:=λb hb=>by
  refine q1x2 (T.obj 0 _ st2 b hb) λo e _=>?_;exact Heap.lt_size e
 have hCs:s2.heap.objs.size<=C:=by omega
 have IY0:L2.Inv (ak X scope xs R fp s2 H2 C) [] (List.replicate xs.length Y++σ) H2 {s2 with heap:=h₁,toks:=s2.toks+([]:List (Str×Value)).length}:=pR S I2 hCs old hns₁ f2 hfl;refine q1x2 (hcd C) λcond hcond hct=>?_;have fpY:∀{H':Hp} {p:Obj},(∀b∈fp,H' b=Y)->∀b∈fp,fV (ak X scope xs R fp s2 H2 C) [(acc,p)] H' b:=λ{H' p} hn b hb=>by
  refine⟨hn b hb,?_,λz=>?_,.inl hb,λy c e=>?_,λq hq=>?_⟩
  ·exact Nat.ne_of_lt (Nat.lt_of_lt_of_le (hfl b hb) hCs)
  ·rcases mem_cons.mp (I2.stkSub b z) with e|e
   ·exact(f2 b hb).2.1 e
   ·exact(f2 b hb).2.2.1 e
  ·exact(f2 b hb).2.2.2.2.1 y c (bA S I2 e)
  ·have hq:q∈([]:List (Addr×Obj))++[(acc,p)]:=hq;have e:q=(acc,p):=by simpa using hq
   rw[e];exact oX (hfl b hb) hAd
 have accF:∀b∈kG X.stack,acc≠b:=λb hb e=>by
  have:acc∉X.env.locals::X.fs:=by
   intro z;rcases mem_cons.mp z with z|z
   ·exact oX I2.lt hAd z
   ·exact I2.nofs (Nat.le_of_eq hAd) z
  exact this (e▸I2.stkSub b hb)
 have loop:∀s₃:Shared,s₃={s2 with heap:=h₁,toks:=s2.toks+([]:List (Str×Value)).length}->
   codeAny (model X.prog X.w) X.A (.compLoop (.ListComp elt [⟨tg,iter,ifs,0⟩] scope pos) 0 (.ref it) (.ref acc) (ak X scope xs R fp s2 H2 C).env) (RR (.ref acc) C) s₃:=by
  rintro s₃ rfl;have pin0:∀{σ':L2.St} {H':Hp} {s':Shared} {its:List Value} {n:Nat},L2.Inv (ak X scope xs R fp s2 H2 C) [] σ' H' s'->s'.heap.get? acc=Z (fe its n)->H' acc=Y->L2.Inv (ak X scope xs R fp s2 H2 C) [(acc,fe its n)] σ' H' s':=λ{σ' H' s' its n} I' e hn=>
   I'.pins_of λp hp=>by
    have ep:p=(acc,fe its n):=by simpa using hp
    subst ep;exact⟨e,hn,hDC,λz=>accF acc z rfl,λv z=>by cases z⟩
  refine ig hcond (Jr (ak X scope xs R fp s2 H2 C) fp tn X.K acc t (List.replicate xs.length Y++ρ) θ1 H2 es (λl N=>aM t xs.length sg gc ge l ρ N) Mend) ?_ t.ds.length
   ⟨0,_,H2,θ1,M1,[],es,[],[],0,rfl,Nat.zero_le _,pin0 IY0 hacc0 (I2.hok.fresh (Nat.le_of_eq hAd)),ud hd1,T.keep 0 _ _ st2 (λb hb o e=>old b o e),λb hb=>(f2 b hb).1,.refl hw1,rfl,.nil,hgo,rfl⟩
  rintro n s' ⟨i,τ,H',θ',M',ds,rest,vs,its,na,rfl,hil,I',dn',st',fr',g',rd',rv',hrest,hes⟩;have hok:t.ok M'=true:=by
   cases hq:t.ok M' with
   | true=>rfl
   | false=>
    exfalso;cases hdr:t.ds.drop i with
    | nil=>rw[hdr,aM,if_neg (by rw[hq];exact Bool.false_ne_true)] at hrest;cases hrest
    | cons d r=>rw[hdr,aM,if_neg (by rw[hq];exact Bool.false_ne_true)] at hrest;cases hrest
  refine q0x2 (hJ θ' H' M' g' hok i) λhy hst=>?_
  by_cases hlt:i<t.ds.length
  ·have e1:t.ds[i]?=Z t.ds[i]:=getElem?_eq_getElem hlt;refine q0x2 (hy _ e1) λhgo' hyl=>?_;rw[drop_eq_getElem_cons hlt,aM,if_pos hok] at hrest;refine bM (T.item (ak X scope xs R fp s2 H2 C) rfl rfl rfl hc i _ s' _ H' _ I' (fpY fr') st' hgo') λr s4 hxx=>?_
   refine q1x2 hxx λu hr h4=>?_;subst hr;refine bM h4 λ_ s5 hxx=>?_
   refine q2x5 hxx λv H5 I5 r5 y5 st5 fr5=>?_;refine q0x2 (hyl v H5 y5) λgy rx=>?_;have I5':=I5.pinned (fpY fr5) (T.obj _ _ st5);cases qs:sg t.ds[i] (List.replicate xs.length Y++ρ) with
   | none=>rw[qs] at hrest;cases hrest
   | some ρ1=>
   rw[qs] at hrest;dsimp only at hrest;refine bM (hg C _ s5 _ H5 v u (λσ6 H6=>gq X.K θ' H6 σ6 ρ1/\H6=H5) I5' r5 ⟨_,θ',M',t.ds[i],dn'.go gy,gy.wr,rx,ρ1,qs,λσ6 d6=>⟨d6,rfl⟩⟩) λ_ s6 hxx=>?_
   refine q2x3 hxx λσ6 H6 I6 hdY eH6=>?_;subst eH6;cases qc:gc ρ1 M' with
   | bad=>rw[qc] at hrest;cases hrest
   | err c Mx=>rw[qc] at hrest;cases hrest
   | ok b Mb=>
    refine bM (hct _ s6 _ H6 (λb' H7=>b'=b/\∃θ7,Go X.K θ' H6 θ7 H7 Mb) I6 ⟨_,θ',M',hdY,gy.wr,?_⟩) λok s7 ⟨H7,I7,eb,θ7,g7⟩=>?_
    ·rw[qc];exact λθ7 H7 g7=>⟨rfl,θ7,g7⟩
    subst eb;have fpk:∀{s8:Shared} {σ8:L2.St} {H8:Hp},L2.Inv (ak X scope xs R fp s2 H2 C) ([(acc,fe its na)]++jK fp s5.heap) σ8 H8 s8->(∀b∈fp,H8 b=Y)/\(∀b∈fp,∀o,s5.heap.get? b=Z o->s8.heap.get? b=Z o)/\s8.heap.get? acc=Z (fe its na)/\H8 acc=Y:=λ{s8 σ8 H8} I8=>by
     have pa:=I8.pin (acc,fe its na) (mem_append_right _ (mem_append_left _ (by simp)));refine⟨λb hb=>?_,λb hb o e=>(I8.pin (b,o) (mem_append_right _ (mem_append_right _ (dJ hb e)))).1,pa.1,pa.2.1⟩;refine q1x2 (T.obj _ _ st5 b hb) λo e d=>?_;exact(I8.pin (b,o) (mem_append_right _ (mem_append_right _ (dJ hb e)))).2.1
    cases ok with
    | false=>
     rw[if_neg Bool.false_ne_true];rw[qc] at hrest;refine q0x4 (fpk I7) λk1 k2 k3 k4=>?_;exact⟨t.ds.length-(i+1),by omega,i+1,σ6,H7,θ7,Mb,ds,rest,vs,its,na,rfl,hlt,I7.unpinned,own.back qs (hdY.go g7),T.keep _ _ _ st5 k2,k1,g'.trans (gy.trans g7),rd'.go (gy.trans g7),rv',hrest,hes⟩
    | true=>
     rw[if_pos rfl];rw[qc] at hrest;have hrest:(match ge ρ1 Mb with
      | .ok e M2=>(aM t xs.length sg gc ge (t.ds.drop (i+1)) ρ M2).bind λes M3=>.ok (e::es) M3
      | _=>.bad)=aN.ok rest Mend:=hrest
     cases qe:ge ρ1 Mb with
     | bad=>rw[qe] at hrest;cases hrest
     | err c Mx=>rw[qe] at hrest;cases hrest
     | ok dv Mv=>
      rw[qe] at hrest;have hrest:((aM t xs.length sg gc ge (t.ds.drop (i+1)) ρ Mv).bind λes M3=>aN.ok (dv::es) M3)=aN.ok rest Mend:=hrest;refine bM (he C _ s7 _ H7 (λw H8=>∃θ8,Go X.K θ7 H7 θ8 H8 Mv/\isD X.K θ8 H8 dv w) I7 ⟨_,θ7,Mb,hdY.go g7,g7.wr,?_⟩) λuv s8 ⟨w,H8,I8,rw8,θ8,g8,rd8⟩=>?_
      ·rw[qe];exact λw θ8 H8 g8 rd8=>⟨θ8,g8,rd8⟩
      refine q0x4 (fpk I8) λk1 k2 k3 k4=>?_;cases qr:aM t xs.length sg gc ge (t.ds.drop (i+1)) ρ Mv with
      | bad=>rw[qr] at hrest;cases hrest
      | err c Mx=>rw[qr] at hrest;cases hrest
      | ok rest' Mr=>
       rw[qr] at hrest;have hrest:aN.ok (dv::rest') Mr=aN.ok rest Mend:=hrest;cases hrest;have hsz:its.length<sizeLine:=by
        have e2:(ds++dv::rest').length<=sizeLine:=by rw[hes];exact hlen
        rw[length_append,length_cons,ao rd',rv'.length] at e2;omega
       refine call_meets F.slot_list_append ⟨_,k3,rfl⟩ F.entry_list_append (F.args_list_append_2 _ _) (PySem.list_append acc its.toArray na uv (by rw[size_toArray];omega)) ⟨k3,?_⟩;have qup:=PySem.IsL.update k3 (λa=>a.push uv);have eup:(its.toArray.push uv)=(its++[uv]).toArray:=by simp
       have keepb:∀b o,b≠acc->s8.heap.get? b=Z o->(s8.heap.update acc (Obj.mapSeq λa=>a.push uv)).get? b=Z o:=λb o hb e=>(Heap.get?_update_other s8.heap _ (Ne.symm hb)).trans e
       have I9:L2.Inv (ak X scope xs R fp s2 H2 C) [] σ6 H8 {s8 with heap:=s8.heap.update acc (Obj.mapSeq λa=>a.push uv),toks:=s8.toks}:=by
        refine Inv.turned (it:=acc) (I8.pins_of (pins':=[]) λp hp=>absurd hp (by simp)) keepb k4 hDC (.inr (Nat.le_of_eq hAd)) (λy c e z=>?_) λp hp=>absurd (show p∈([]:List (Addr×Obj)) from hp) (by simp)
        refine q2x2 (I2.cell y c (bA S I2 e)) λv' o ho hdd=>?_;exact iw (Heap.lt_size ho) hAd z
       obtain⟨n',eq'⟩:∃n',(s8.heap.update acc (Obj.mapSeq λa=>a.push uv)).get? acc=Z (fe (its++[uv]) n'):=by
        have q2:=qup;rw[eup] at q2;exact⟨_,q2⟩
       exact⟨t.ds.length-(i+1),by omega,i+1,σ6,H8,θ8,Mv,ds++[dv],rest',vs++[w],its++[uv],n',rfl,hlt,pin0 I9 eq' k4,own.back qs (hdY.go (g7.trans g8)),T.keep _ _ _ st5 (λb hb o e=>keepb b o (iw (hfl b hb) hAd) (k2 b hb o e)),k1,g'.trans (gy.trans (g7.trans g8)),cZ (rd'.go (gy.trans (g7.trans g8))) ⟨w,[],rfl,rd8,rfl⟩,rv'.append (.cons rw8 .nil),qr,by rw[<-hes];simp⟩
  ·have e:i=t.ds.length:=by omega
   subst e;rw[drop_length,aM,if_pos hok] at hrest;cases hrest;have hes:ds=es:=by rw[<-hes];simp
   subst hes;refine bM (T.done (ak X scope xs R fp s2 H2 C) rfl rfl rfl hc _ _ s' _ H' _ I' (fpY fr') st' (hst (Nat.le_refl _))) λr s4 hxx=>?_
   refine q0x2 hxx λhr I4=>?_;subst hr;have pa:=I4.pin (acc,fe its na) (mem_append_right _ (by simp));have e4:s4.heap.get? acc=Z (fe its na):=pa.1;have n4:H' acc=Y:=pa.2.1;have lv:vs.length<=sizeLine:=by rw[<-ao rd'];exact hlen
   refine q1x2 I4.loc λmC hnC _=>?_;have hHC:H' C=Y:=I4.free;have o8:Un (kG X.stack) fp H2 H' s2.heap s4.heap:=I4.base;have neA:∀{b:Addr} {o:Obj},s2.heap.get? b=Z o->b≠acc:=λ{b o} e=>iw (Heap.lt_size e) hAd
   have neH:∀{b:Addr} {u:HO},H' b=Z u->b≠acc:=λ{b u} e z=>by rw[z,n4] at e;cases e
   have un4:Un (kG X.stack) fp H2 (bu H' acc (.lst vs)) s2.heap s4.heap:=by
    refine⟨o8.keep,o8.slot,λb o e n hx=>?_,o8.there,λb xs e=>?_,λb o u e=>?_,λb ps e=>?_⟩
    ·rw[aj (neA e)];exact o8.free b o e n hx
    ·have z:=o8.tups b xs e;rw[aj (neH z)];exact z
    ·have z:=o8.frzs b o u e;rw[aj (neH z)];exact z
    ·refine q1x1 (o8.tbls b ps e) λmore z=>?_;exact⟨more,by rw[aj (neH z)];exact z⟩
   have hok4:hO X.prog X.w (bu H' acc (.lst vs)) s4.heap:=λb u e=>by
    by_cases hb:b=acc
    ·subst hb;rw[aX] at e;cases e;exact⟨lv,its,na,rv',e4⟩
    ·rw[aj hb] at e;exact(I4.hok b u e).stay (λc v _ q=>q) (λc q=>by rw[aj (neH q)];exact q) λc xs q=>by rw[aj (neH q)];exact q
   have IX:L2.Inv X aa σ (bu H' acc (.lst vs)) s4:=I2.call' (ch:=fp) I4.os un4 hok4 I4.bare λb hb=>⟨(f2 b hb).2.2.2.1,(f2 b hb).2.1,(f2 b hb).2.2.2.2.1,(f2 b hb).2.2.2.2.2⟩
   refine fin acc C s4 H' θ' vs mC IX hnC (I2.fpOk hCs ?_) g' n4 rd';rw[aj (Ne.symm hDC)];exact hHC
 exact codeAny_compStart_list (loop _ rfl) (T.self _ 0 _ _ _ (T.keep 0 _ _ st2 λb hb o e=>old b o e) (loop _ rfl))
end
variable{mk:List D->aw->aN D}
section
variable {X:Cx}{scope:Scope}{xs:List Str}{tg:Expr}{sg:GG}{x:Str}{px:Pos}{R:List Str}{elt iter:Expr}{ifs:List Expr}{pos:Pos}{gi:GI}{gc:GT}{ge:GE}
def Eu (mk:List D->aw->aN D):Prop:=∀(X:Cx) (θ:List Addr) (H:Hp) (Q:VK) (ds:List D) (M:aw) (vs:List V),aC X θ H Q (mk ds M)->Wr X.K θ H M->isDs X.K θ H ds vs->vs.length<=sizeLine/\∀p,H p=Y->Q (.ref p) (bu H p (.lst vs))
def yi:Eu aA:=λX θ H Q ds M vs h hw r=>aC.lst h hw r
def yP:Eu dk:=λX θ H Q ds M vs h hw r=>aC.mut h hw r
def zd (hm:mk=aA\/mk=dk){X:Cx}{Q:VK}(h:aC X θ H Q (mk ds M)):ds.length<=sizeLine:=by
 rcases hm with e|e <;> subst e
 ·unfold aA at h;split at h
  ·assumption
  ·exact h.elim
 ·unfold dk at h;split at h
  ·assumption
  ·exact h.elim
def BJ (hm:mk=aA\/mk=dk):Eu mk:=by
 rcases hm with e|e <;> subst e
 ·exact yi
 ·exact yP
def fW (X:Cx)(scope:Scope)(xs:List Str)(R:List Str)(ifs:List Expr)(gc:GT):Prop:=∀fp s2 H2 C,∃cond,(forIn (m:=Sem) ifs true λc r=>if r=true then do let ok <-isTrue c (ak X scope xs R fp s2 H2 C).env (eval c (ak X scope xs R fp s2 H2 C).env);pure (ForInStep.yield ok) else pure (ForInStep.yield r))=cond/\
   ∀(aa:List (Addr×Obj)) (s:Shared) (σ:L2.St) (H:Hp) (Q:Bool->Hp->Prop),L2.Inv (ak X scope xs R fp s2 H2 C) aa σ H s->tT (ak X scope xs R fp s2 H2 C) gc σ H Q->wpAny (model X.prog X.w) X.A cond (TP (ak X scope xs R fp s2 H2 C) aa σ Q) (λ_ _=>False) s
def xp:fW X scope xs R [] fo:=λfp s2 H2 C=>⟨_,sy,λaa s σ H Q I ⟨ρ,θ,M,hd,hw,h⟩=>wpAny_pure ⟨H,I,h θ H (.refl hw)⟩⟩
def zk {c:Expr}(h:∀fp s2 H2 C,PT (ak X scope xs R fp s2 H2 C) c (tT (ak X scope xs R fp s2 H2 C) gc)):fW X scope xs R [c] gc:=λfp s2 H2 C=>⟨_,uS,λaa s σ H Q I q=>h fp s2 H2 C aa s σ H Q I q⟩
theorem fY {t:jP}{n:Nat}{sg:GG}{gc:GT}{ge:GE}{ρ:bv}{c:Str}{M':aw}:∀(ds:List D) (M:aw),aM t n sg gc ge ds ρ M=.err c M'->False
 | [],M,h=>by
  unfold aM at h;split at h <;> cases h
 | d::r,M,h=>by
  unfold aM at h;split at h
  ·split at h
   ·cases h
   ·split at h
    ·rename_i M1 q1;split at h
     ·rename_i e M2 q2;cases q:aM t n sg gc ge r ρ M2 with
      | ok es M3=>rw[q] at h;cases h
      | err c2 M3=>exact fY r M2 q
      | bad=>rw[q] at h;cases h
     ·cases h
    ·rename_i M1 q1;exact fY r M1 h
    ·cases h
  ·cases h
def pZ (hS:bE scope X.env.kindOf xs R X.N=true)(hc:X.calm=true)(hm:mk=aA\/mk=dk)(hi:PI X tg iter (tI X gi))(own:ot xs.length sg)(hg:∀fp s H C,PG (ak X scope xs R fp s H C) tg (tG (ak X scope xs R fp s H C) sg))(hts:fW X scope xs R ifs gc)
  (he:∀fp s H C,PE (ak X scope xs R fp s H C) elt (tE (ak X scope xs R fp s H C) ge))
  (hs:∀x,foldedSetIterable iter X.env x=pure x:=by intro _;rfl):PE X (.ListComp elt [⟨tg,iter,ifs,0⟩] scope pos) (tE X (cm gi xs.length sg gc ge mk)):=by
 have S:=bj.of hS;intro aa s σ H Q I h;refine q3x3 h λρ θ M hd hw h=>?_;rw[eval_ListComp];refine wpAny_comprehension_free (use:=Y) rfl hs (gM (S.cells I)) S.kind S.lnames ?_;refine bM (hi aa s σ H (λJ H2=>∃t M1 θ1,gi ρ M=.ok t M1/\Go X.K θ H θ1 H2 M1/\xW X.K J θ1 H2 t) I ⟨ρ,θ,M,hd,hw,?_⟩) λv s1 h1=>bM h1 λitv s2 h2=>?_
 ·cases q:gi ρ M with
  | ok t M1=>exact λJ θ1 H1 g1 hJ=>⟨t,M1,θ1,rfl,g1,hJ⟩
  | err c M1=>unfold cm at h;rw[q] at h;exact h
  | bad=>unfold cm at h;rw[q] at h;exact h
 obtain⟨it,fp,tn,J,H2,rfl,I2,T,st2,f2,t,M1,θ1,eg,g1,hJ⟩:=h2;unfold cm at h;rw[eg] at h;have h:aC X θ H Q ((aM t xs.length sg gc ge t.ds ρ M1).bind mk):=h;cases q:aM t xs.length sg gc ge t.ds ρ M1 with
 | bad=>rw[q] at h;exact h.elim
 | err c Mx=>exact(fY _ _ q).elim
 | ok es Mend=>
  rw[q] at h;have h:aC X θ H Q (mk es Mend):=h;refine lO (RR:=λacc C=>compPost (model X.prog X.w) X.A X.xe Y (EP X aa σ Q) acc C) S hc I2 T st2 f2 g1.wr (hd.go g1) hJ q (zd hm h) (λC=>hts fp s2 H2 C) own (λC=>hg fp s2 H2 C) (λC=>he fp s2 H2 C) ?_;intro acc C s' H' θ' vs m IX hnC fC g' na rd;refine⟨m,hnC,λh' sb=>?_⟩;have I3:L2.Inv X aa σ (bu H' acc (.lst vs)) {s' with heap:=h',toks:=s'.toks}:=IX.turned (it:=C) (λb o hb e=>(sb.2 b hb).trans e) fC.1 fC.2.1 fC.2.2.2.1 fC.2.2.2.2.1 fC.2.2.2.2.2;exact⟨.ref acc,_,I3,rfl,(BJ hm X θ' H' Q es Mend vs (aC.go (g1.trans g') h) g'.wr rd).2 acc na⟩
def qL {j:Nat}{py spos:Pos}(hS:bE scope X.env.kindOf xs R X.N=true)(hc:X.calm=true)(hm:mk=aA\/mk=dk)(hi:PI X tg iter (tI X gi))(own:ot xs.length sg)(hg:∀fp s H C,PG (ak X scope xs R fp s H C) tg (tG (ak X scope xs R fp s H C) sg))(hts:fW X scope xs R ifs gc)
  (he:∀fp s H C,PE (ak X scope xs R fp s H C) elt (tE (ak X scope xs R fp s H C) ge))
  (hN:X.N.Nodup) (hj:X.N[j]?=Z y) (hy:X.env.scope.names.lookup y=Z .local)
  (hsw:swapsWith (.ListComp elt [⟨tg,iter,ifs,0⟩] scope pos) (Z (.Name y py)) spos.line X.env=pure true)
  (hs:∀x,foldedSetIterable iter X.env x=pure x:=by intro _;rfl):PS X (.Assign [.Name y py] (.ListComp elt [⟨tg,iter,ifs,0⟩] scope pos) spos) (tS X (ay j (cm gi xs.length sg gc ge mk))):=by
 have S:=bj.of hS;intro aa s σ H Q I h;refine q3x3 h λρ θ M hd hw h=>?_;rw[exec_Assign_Name_used _ _ _ _ hsw];refine wpAny_bind (wpAny_standAt (wpAny_bind ?_));show wpAny _ X.A (do let _ <-comprehension (.ListComp elt [⟨tg,iter,ifs,0⟩] scope pos) scope X.env _ (newList []) false (eval iter X.env) (Z (assign (.Name y py) X.env))) _ _ s;refine wpAny_bind (wpAny_mono (wpAny_comprehension_free (use:=Z (assign (.Name y py) X.env)) (Q:=λ_ s'=>SP X aa Q .next s') rfl hs (gM (S.cells I)) S.kind S.lnames ?_) (λ_ s' hq=>wpAny_pure (wpAny_pure hq)) λ_ _ e=>e);refine bM (hi aa s σ H (λJ H2=>∃t M1 θ1,gi ρ M=.ok t M1/\Go X.K θ H θ1 H2 M1/\xW X.K J θ1 H2 t) I ⟨ρ,θ,M,hd,hw,?_⟩) λv s1 h1=>bM h1 λitv s2 h2=>?_
 ·cases q:gi ρ M with
  | ok t M1=>exact λJ θ1 H1 g1 hJ=>⟨t,M1,θ1,rfl,g1,hJ⟩
  | err c M1=>unfold ay cm at h;rw[q] at h;exact h
  | bad=>unfold ay cm at h;rw[q] at h;exact h
 obtain⟨it,fp,tn,J,H2,rfl,I2,T,st2,f2,t,M1,θ1,eg,g1,hJ⟩:=h2;unfold ay cm at h;rw[eg] at h;have h:bT X θ H Q (((aM t xs.length sg gc ge t.ds ρ M1).bind mk).bind λd M2=>.ok (.nx (ρ.set j (Z d))) M2):=h;cases q:aM t xs.length sg gc ge t.ds ρ M1 with
 | bad=>rw[q] at h;exact h.elim
 | err c Mx=>exact(fY _ _ q).elim
 | ok es Mend=>
  rw[q] at h;have h:bT X θ H Q ((mk es Mend).bind λd M2=>.ok (.nx (ρ.set j (Z d))) M2):=h;have hE:aC X θ H (λv H'=>∃θ' M',Go X.K θ H θ' H' M'/\∃d,mk es Mend=.ok d M'/\isD X.K θ' H' d v) (mk es Mend):=by
   cases qm:mk es Mend with
   | ok d M2=>exact λv θ' H' g' r=>⟨θ',M2,g',d,rfl,r⟩
   | err c M2=>rw[qm] at h;exact h
   | bad=>rw[qm] at h;exact h
  refine lO (RR:=λacc C=>compPost (model X.prog X.w) X.A X.xe (Z (assign (.Name y py) X.env)) (λ_ s'=>SP X aa Q .next s') acc C) S hc I2 T st2 f2 g1.wr (hd.go g1) hJ q (zd hm hE) (λC=>hts fp s2 H2 C) own (λC=>hg fp s2 H2 C) (λC=>he fp s2 H2 C) ?_;intro acc C s' H' θ' vs m IX hnC fC g' na rd;obtain⟨θe,Me,ge',d,ed,rde⟩:=(BJ hm X θ' H' _ es Mend vs (aC.go (g1.trans g') hE) g'.wr rd).2 acc na;show wpAny _ X.A (assign (.Name y py) X.env (.ref acc)) _ _ s';refine wpAny_assign_Name (n8 IX hN hj (.inl hy) (v:=.ref acc) rfl (λs3 I3 hxx=>?_) (.inr hy));refine q1x2 hxx λa sa ha=>?_;have hCa:C≠a:=by
   rcases ha with e|e
   ·rw[e];exact fC.2.1
   ·exact λz=>fC.2.2.2.2.1 y a e z.symm
  refine⟨m,hnC.sameBut sa hCa,λh' sb=>?_⟩;have I4:L2.Inv X aa (σ.set j (Z (.ref acc))) (bu H' acc (.lst vs)) {s3 with heap:=h',toks:=s3.toks}:=I3.turned (it:=C) (λb o hb e=>(sb.2 b hb).trans e) fC.1 fC.2.1 fC.2.2.2.1 fC.2.2.2.2.1 fC.2.2.2.2.2;rw[ed] at h;exact⟨_,_,I4,h _ θe _ ge' ((hd.go ge').set rde j)⟩
def pI {px:Pos}(hS:bE scope X.env.kindOf [x] R X.N=true)(fp:List Addr)(s:Shared)(H:Hp)(C:Addr):PG (ak X scope [x] R fp s H C) (.Name x px) (tG (ak X scope [x] R fp s H C) (bP 0)):=
 have S:=bj.of hS
 oZ (X:=ak X scope [x] R fp s H C) S.nd rfl (.inl (lookup_relabel_local (S.own x (by simp)))) (.inr (lookup_relabel_local (S.own x (by simp))))
def t8 (mk:List D->aw->aN D):aK gi gc ge mk=cm gi 1 (bP 0) gc ge mk:=by
 funext ρ M;unfold aK cm;simp only[pX]
def AS (hS:bE scope X.env.kindOf [x] R X.N=true)(hc:X.calm=true)(hm:mk=aA\/mk=dk)(hi:PI X (.Name x px) iter (tI X gi))(hts:fW X scope [x] R ifs gc)
  (he:∀fp s H C,PE (ak X scope [x] R fp s H C) elt (tE (ak X scope [x] R fp s H C) ge))
  (hs:∀x,foldedSetIterable iter X.env x=pure x:=by intro _;rfl):PE X (.ListComp elt [⟨.Name x px,iter,ifs,0⟩] scope pos) (tE X (aK gi gc ge mk)):=by
 rw[t8];exact pZ (xs:=[x]) hS hc hm hi (oD (Nat.zero_lt_one)) (pI hS) hts he hs
def rT {j:Nat}{py spos:Pos}(hS:bE scope X.env.kindOf [x] R X.N=true)(hc:X.calm=true)(hm:mk=aA\/mk=dk)(hi:PI X (.Name x px) iter (tI X gi))(hts:fW X scope [x] R ifs gc)
  (he:∀fp s H C,PE (ak X scope [x] R fp s H C) elt (tE (ak X scope [x] R fp s H C) ge))
  (hN:X.N.Nodup) (hj:X.N[j]?=Z y) (hy:X.env.scope.names.lookup y=Z .local)
  (hsw:swapsWith (.ListComp elt [⟨.Name x px,iter,ifs,0⟩] scope pos) (Z (.Name y py)) spos.line X.env=pure true)
  (hs:∀x,foldedSetIterable iter X.env x=pure x:=by intro _;rfl):PS X (.Assign [.Name y py] (.ListComp elt [⟨.Name x px,iter,ifs,0⟩] scope pos) spos) (tS X (ay j (aK gi gc ge mk))):=by
 rw[t8];exact qL (xs:=[x]) hS hc hm hi (oD (Nat.zero_lt_one)) (pI hS) hts he hN hj hy hsw hs
end
def cV:List D->Option (List Bool)
 | []=>Z []
 | .bl b::r=>(cV r).map (b::·)
 | _=>Y
def CT:FD:=λds M=>match ds with
 | [d]=>match aW d M with
  | some xs=>match cV xs with
   | some bs=>.ok (.bl (bs.all id)) M
   | none=>.bad
  | none=>.bad
 | _=>.bad
def wf:FD:=λds M=>match ds with
 | [d]=>match aW d M with
  | some xs=>match cV xs with
   | some bs=>.ok (.bl (bs.any id)) M
   | none=>.bad
  | none=>.bad
 | _=>.bad
theorem iR {K:W.Frag}{θ:List Addr}{H:Hp}:∀{ds:List D} {vs:List V} {us:List Value} {bs:List Bool},isDs K θ H ds vs->aJ vs us->cV ds=Z bs->us=bs.map Value.bool
 | [],vs,us,bs,r,q,e=>by
  have e1:vs=[]:=r;subst e1;cases q;cases e;rfl
 | d::ds,vs,us,bs,r,q,e=>by
  refine q2x3 r λv rr e1 h1 h2=>?_;subst e1;cases d with
  | bl b=>
   cases qb:cV ds with
   | none=>simp[cV,qb] at e
   | some bs'=>
    simp[cV,qb] at e;subst e;have e2:v=.bl b:=h1;subst e2;cases q with
    | cons q1 q2=>
     cases q1;rw[map_cons,iR h2 q2 qb]
  | _=>simp[cV] at e
def wn (bs:List Bool):(List.range bs.length).any (λi=>bs.getD i false)=bs.any id:=by
 rw[Bool.eq_iff_iff];simp only[any_eq_true,mem_range,id];constructor
 ·rintro ⟨i,hi,h⟩;rw[getD_eq_getElem?_getD,getElem?_eq_getElem hi] at h;exact⟨_,getElem_mem hi,h⟩
 ·rintro ⟨b,hb,h⟩;obtain⟨i,hi,e⟩:=mem_iff_getElem.mp hb;refine⟨i,hi,?_⟩;rw[getD_eq_getElem?_getD,getElem?_eq_getElem hi];rw[<-e] at h;exact h
section
variable {X:Cx}
def jV {prog:Program}(bs:List Bool):TruthOf prog w A (λi v=>((bs.map Value.bool).toArray)[i]?=Z v) (λi=>bs.getD i false):=λi v s Q E hP hQ=>by
 have hP:(bs.map Value.bool)[i]?=Z v:=by simpa using hP
 rw[getElem?_map] at hP;cases q:bs[i]? with
 | none=>rw[q] at hP;cases hP
 | some b=>
  rw[q] at hP;cases hP;have e:bs.getD i false=b:=by rw[getD_eq_getElem?_getD,q];rfl
  dsimp only at hQ;rw[e] at hQ;exact wpAny_truthy_bool hQ
def rN {xs:List D}{bs:List Bool}(hc:X.calm=true)(I:L2.Inv X aa σ H s)(hw:Wr X.K θ H M)(rv:isD X.K θ H d v)(ru:aI v u)(q:aW d M=Z xs)(qb:cV xs=Z bs){Q:Bool->Hp->Prop}{f:(Nat->Bool)->Nat->Bool}{E:Value->Shared->Prop}
  (h:∀h' tk,L2.Inv X aa σ H {s with heap:=h',toks:=tk}->Q (f (λi=>bs.getD i false) bs.length) H) :
  wpAny (model X.prog X.w) X.A.in1 (pyIter u) (λit s₂=>∃I fp wr n P St tr,it=.ref I/\Walks X.prog X.w X.A.in1 I fp wr n P St/\St 0 s₂.heap/\TruthOf X.prog X.w X.A.in1 P tr/\
   ∀h' tk,(∀b o,b∉wr->s₂.heap.get? b=Z o->h'.get? b=Z o)->EP X aa σ (λv H=>∃b,v=.bl b/\Q b H) (.bool (f tr n)) {s₂ with heap:=h',toks:=tk}) E s:=by
 have hh:X.A.in1.handled=Y:=I.ok.hd hc;refine q2x3 (iT hw rv q) λa vs ea sq ra=>?_;subst ea;cases ru;rcases sq with sq|sq
 ·refine q1x3 (I.list sq) λits r1 p hz=>?_;have e:=iR ra r1 qb;subst e;have hlt:a<s.heap.objs.size:=by refine q2x2 p λo n e _=>?_;exact Heap.lt_size e
  refine wpAny_pyIter_list p.isList ⟨s.heap.objs.size,_,_,_,_,_,_,rfl,Walks.list hh s.heap.objs.size a (Nat.ne_of_lt hlt) _,⟨⟨_,Heap.get?_push_size _ rfl,rfl,rfl⟩,p.isList.push _⟩,jV bs,λh' tk k=>?_⟩;have I':L2.Inv X aa σ H {s with heap:=h',toks:=tk}:=I.kept λb o e=>k b o (by have:=Heap.lt_size e;simp;exact Nat.ne_of_lt this) (Heap.get?_push_of_some _ e)
  refine⟨.bl _,H,I',rfl,_,rfl,?_⟩;have:=h h' tk I';simpa using this
 ·refine q1x3 (I.tuple sq) λits r1 p hz=>?_;have e:=iR ra r1 qb;subst e;have hlt:a<s.heap.objs.size:=by refine q1x2 p λo e _=>?_;exact Heap.lt_size e
  have pt:s.heap.IsTuple a (bs.map Value.bool).toArray:=p;refine wpAny_pyIter_tuple pt ⟨s.heap.objs.size,_,_,_,_,_,_,rfl,Walks.tuple hh s.heap.objs.size a (Nat.ne_of_lt hlt) _,⟨⟨_,Heap.get?_push_size _ rfl,rfl,rfl⟩,?_⟩,jV bs,λh' tk k=>?_⟩
  ·refine q1x2 p λo e r=>?_;exact⟨o,Heap.get?_push_of_some _ e,r⟩
  have I':L2.Inv X aa σ H {s with heap:=h',toks:=tk}:=I.kept λb o e=>k b o (by have:=Heap.lt_size e;simp;exact Nat.ne_of_lt this) (Heap.get?_push_of_some _ e)
  refine⟨.bl _,H,I',rfl,_,rfl,?_⟩;have:=h h' tk I';simpa using this
def D4 (hc:X.calm=true):cG X (.builtin "any") (rC X wf):=by
 intro aa s σ H xs us Q I r h;obtain⟨θ,M,ds,hw,rd,h⟩:=h;unfold wf at h;split at h
 ·rename_i d;obtain⟨v,e,rv⟩:=gH rd;subst e;obtain⟨u,rfl,ru⟩:=iI r;split at h
  ·rename_i ys q;split at h
   ·rename_i bs qb;refine bM (call_any_walk (rN hc I hw rv ru q qb (Q:=λb H=>Q (.bl b) H) (f:=λtr n=>(List.range n).any tr) (λh' tk I'=>?_))) λu' s' ⟨v',H',I',r',b,eb,q'⟩=>⟨v',H',I',r',by rw[eb];exact q'⟩
    rw[wn];exact h _ θ H (.refl hw) rfl
   ·exact h.elim
  ·exact h.elim
 ·exact h.elim
def Hr:D->Option String
 | .non=>Z "NoneType"
 | .bl _=>Z "bool"
 | .int _=>Z "int"
 | .str _=>Z "str"
 | .tup _=>Z "tuple"
 | .lst _=>Z "list"
 | .ro _=>Z "list"
 | _=>Y
def AR (d:D)(M:aw):Option String:=match d with
 | .mr k=>match M[k]? with
  | some (.lst _)=>Z "list"
  | _=>Y
 | d=>Hr d
def sC (t T:String):Bool:=t==T||(t=="bool"&&T=="int")
def iX (T:String)(g:GE):GE:=λρ M=>(g ρ M).bind λd M1=>match AR d M1 with
 | some t=>.ok (.bl (sC t T)) M1
 | none=>.bad
def ji (T:String):Prop:=T="int"\/T="bool"\/T="str"\/T="tuple"\/T="list"
def dm (K:W.Frag)(hT:ji T):∀t∈["NoneType","bool","int","str","tuple","list"],W.kitOne K (.type t) (.type T)=Z (sC t T):=by
 intro t ht;simp only[mem_cons,mem_nil_iff,or_false] at ht;rcases hT with rfl|rfl|rfl|rfl|rfl <;> rcases ht with rfl|rfl|rfl|rfl|rfl|rfl <;> rfl
def DI (hT:ji T):cG X (.builtin "isinstance") (λxs H Q=>∃θ M d v,Wr X.K θ H M/\isD X.K θ H d v/\xs=[v,.ty T]/\aC X θ H Q (match AR d M with|some t=>.ok (.bl (sC t T)) M|none=>.bad)):=by
 intro aa s σ H xs us Q I r h;obtain⟨θ,M,d,v,hw,rv,e,h⟩:=h;subst e;obtain⟨u,c,rfl,ru,rc⟩:=Bt r;cases rc;have fin:∀t tk,AR d M=Z t->EP X aa σ Q (.bool (sC t T)) {s with toks:=tk}:=λt tk e=>by
  rw[e] at h;exact⟨.bl _,H,I.tok _,rfl,h _ θ H (.refl hw) rfl⟩
 cases d with
 | non=>have e:v=.non:=rv;subst e;cases ru;exact W.kia_one W.kitx_none I.kIn True.intro (dm X.K hT "NoneType" (by simp)) (λz=>nomatch z) λtk=>fin _ tk rfl
 | bl b=>have e:v=.bl b:=rv;subst e;cases ru;exact W.kia_one W.kitx_bool I.kIn True.intro (dm X.K hT "bool" (by simp)) (λz=>nomatch z) λtk=>fin _ tk rfl
 | int i=>have e:v=.int i:=rv;subst e;obtain⟨t,rfl⟩:=ru;exact W.kia_one W.kitx_int I.kIn True.intro (dm X.K hT "int" (by simp)) (λz=>nomatch z) λtk=>fin _ tk rfl
 | str i=>have e:v=.str i:=rv;subst e;obtain⟨t,rfl⟩:=ru;exact W.kia_one W.kitx_str I.kIn True.intro (dm X.K hT "str" (by simp)) (λz=>nomatch z) λtk=>fin _ tk rfl
 | tup ds=>
  obtain⟨a,vs,e,ta,ra⟩:=rv;subst e;cases ru;obtain⟨its,_,⟨o,h1,h2,_⟩,_⟩:=I.tuple ta.sq;exact W.kia_one W.kitx_tuple I.kIn ⟨o,h1,h2⟩ (dm X.K hT "tuple" (by simp)) (λz=>nomatch z) λtk=>fin _ tk rfl
 | lst ds=>
  obtain⟨a,vs,e,ta,ra⟩:=rv;subst e;cases ru;obtain⟨its,_,⟨o,n,h1,h2,_⟩,_⟩:=I.list (ta.sq (K:=X.K));exact W.kia_one W.kitx_list I.kIn ⟨o,h1,h2⟩ (dm X.K hT "list" (by simp)) (λz=>nomatch z) λtk=>fin _ tk rfl
 | ro ds=>
  obtain⟨a,vs,e,ta,ra⟩:=rv;subst e;cases ru;obtain⟨its,_,⟨o,n,h1,h2,_⟩,_⟩:=I.list ta.sq;exact W.kia_one W.kitx_list I.kIn ⟨o,h1,h2⟩ (dm X.K hT "list" (by simp)) (λz=>nomatch z) λtk=>fin _ tk rfl
 | mr k=>
  obtain⟨a,e,ta⟩:=rv;subst e;cases ru;cases qm:M[k]? with
  | none=>simp only[AR,qm] at h;exact h.elim
  | some m=>
   cases m with
   | lst ys=>
    obtain⟨vs,hv,_⟩:=hw.at_ k a _ ta qm;obtain⟨its,_,⟨o,n,h1,h2,_⟩,_⟩:=I.list (X:=X) (xs:=vs) (.inl (.inl hv));exact W.kia_one W.kitx_list I.kIn ⟨o,h1,h2⟩ (dm X.K hT "list" (by simp)) (λz=>nomatch z) λtk=>fin _ tk (by simp only[AR,qm])
   | _=>simp only[AR,qm] at h;exact h.elim
 | exc c=>exact h.elim
 | any=>exact h.elim
def Cb {p p2 pos:Pos}(hT:ji T)(hv:bootBuiltins x=Z (.type T))(hg:Gl X x)(hm:X.mg x=Y)(hgi:Gl X "isinstance")(hmi:X.mg "isinstance"=Y)(he:PE X e (tE X g))
  (hn:x≠"__name__":=by decide) (hd:(x==("__debug__":Str))=false:=by decide) (hbi:bootBuiltins "isinstance"=Z (.builtin "isinstance"):=by kernel_rfl) (hs:starEach [e,.Name x p2] X.env=(false,eval e X.env)::starEach [.Name x p2] X.env:=by rfl)
  (hs2:starEach [.Name x p2] X.env=(false,eval (.Name x p2) X.env)::starEach [] X.env:=by rfl) (hpl:(backTo pos (starEach [.Name x p2] X.env)).any (·.1)=false:=by rfl) :
  PE X (.Call (.Name "isinstance" p) [e,.Name x p2] [] pos) (tE X (iX T g)):=
 (mS (DI hT) hgi hmi hbi (fB he (fB (Aq hg hm hv (v:=.ty T) rfl hn hd) iS hs2) hs) (by decide) (by decide) hs hpl).of λσ H Q hxx=>by
  refine q3x3 hxx λρ θ M hd hw h=>?_;refine bo hd hw (aC X θ H Q) (λc M' h=>h) (λh=>h) h λd M1 v θ1 H1 g1 r1 h1=>?_
  exact⟨θ1,M1,d,v,g1.wr,r1,rfl,aC.go g1 h1⟩
end
def dW:D->Bool
 | .non=>true
 | .bl _=>true
 | .int _=>true
 | .str _=>true
 | _=>false
def Bs:D->V
 | .non=>.non
 | .bl b=>.bl b
 | .int i=>.int i
 | .str x=>.str x
 | _=>.non
def oS (r:isD K θ H d v)(f:dW d=true):v=Bs d/\fO v=true:=by
 cases d with
 | non=>have e:v=.non:=r;subst e;exact⟨rfl,rfl⟩
 | bl b=>have e:v=.bl b:=r;subst e;exact⟨rfl,rfl⟩
 | int b=>have e:v=.int b:=r;subst e;exact⟨rfl,rfl⟩
 | str b=>have e:v=.str b:=r;subst e;exact⟨rfl,rfl⟩
 | _=>cases f
theorem mf {K:W.Frag}{θ:List Addr}{H:Hp}:∀{ds:List D} {vs:List V},isDs K θ H ds vs->ds.all dW=true->vs=ds.map Bs/\vs.all fO=true
 | [],vs,r,f=>by have e:vs=[]:=r;subst e;exact⟨rfl,rfl⟩
 | d::ds,vs,r,f=>by
  refine q2x3 r λv rr e h1 h2=>?_;subst e;rw[all_cons,Bool.and_eq_true] at f;refine q0x2 (oS h1 f.1) λe1 f1=>?_;refine q0x2 (mf h2 f.2) λe2 f2=>?_;exact⟨by rw[map_cons,<-e1,<-e2],by rw[all_cons,f1,f2];rfl⟩
def ur {x y:D}(fx:dW x=true)(fy:dW y=true):vc (Bs x) (Bs y)=mH x y:=by
 cases x <;> first|exact ff fx|(cases y <;> first|exact ff fy|rfl)
theorem uH {x:D}:∀{ds:List D},dW x=true->ds.all dW=true->Hh (Bs x) (ds.map Bs)=ds.any λy=>mH y x
 | [],fx,fs=>rfl
 | d::ds,fx,fs=>by
  rw[all_cons,Bool.and_eq_true] at fs;have ih:=uH (x:=x) (ds:=ds) fx fs.2;unfold Hh at ih ⊢;rw[map_cons,any_cons,any_cons,ih,ur fs.1 fx]
def sD (neg:Bool):F2:=λx y M=>match aW y M with
 | some xs=>if dW x&&xs.all dW then .ok (.bl ((xs.any λy=>mH y x) != neg)) M else .bad
 | none=>.bad
section
variable {X:Cx}
def G4:fN X (compareOp .In) (rD X (sD false)):=by
 intro aa s σ H x y v u Q I rx ry h;refine q4x4 h λθ M dx dy hw r1 r2 h=>?_;unfold sD at h;split at h
 ·rename_i xs q;split at h
  ·rename_i hc;rw[Bool.and_eq_true] at hc;refine q2x3 (iT hw r2 q) λa vs ea sq ra=>?_;refine q0x2 (oS r1 hc.1) λe1 f1=>?_;refine q0x2 (mf ra hc.2) λe2 f2=>?_;refine wa aa s σ H x y v u Q I rx ry ⟨a,vs,ea,sq,f1,f2,?_⟩;have:=h _ θ H (.refl hw) rfl;rw[Bool.bne_false] at this;rw[if_neg (by decide),e1,e2,uH hc.1 hc.2];exact this
  ·exact h.elim
 ·exact h.elim
end
section
variable {X:Cx}
def u6 (k:Nat)(x:D)(M:aw):aN D:=match M[k]? with
 | some (.lst xs)=>if xs.length<sizeLine then .ok .non (M.set k (.lst (xs++[x]))) else .bad
 | _=>.bad
def i4 (go ge:GE):GE:=λρ M=>(go ρ M).bind λo M1=>match o with
 | .mr k=>match M1[k]? with
  | some (.lst _)=>(ge ρ M1).bind (u6 k)
  | _=>.bad
 | _=>.bad
def vq {o:Expr}{go ge:GE}{apos cpos:Pos}(ho:PE X o (tE X go))(he:PE X e (tE X ge))
  (hbase:attributeBase o "append" X.env (eval o X.env)=eval o X.env:=by rfl)
  (hfew:((backTo cpos (starEach [e] X.env)).all (λx=>!x.1)&&(backToKw cpos (keywordEach [] X.env)).all (λx=>x.1.isSome)
   && decide ([e].length+([]:List Keyword).length+(if([]:List Keyword).isEmpty then 0 else 1)<30))=true:=by rfl)
  (hline:(apos.endLine==cpos.line)=true:=by rfl) (hs:starEach [e] X.env=(false,eval e X.env)::starEach [] X.env:=by rfl) (hplain:(backTo cpos (starEach [] X.env)).any (·.1)=false:=by rfl) :
  PE X (.Call (.Attribute o "append" apos) [e] [] cpos) (tE X (i4 go ge)):=
 (BO PySem.F.plainAttrs_list PySem.F.slot_list_append PySem.F.type_list_append vM ho (fB he iS hs) hbase hfew hline hs hplain).of λσ H Q hxx=>by
  refine q3x3 hxx λρ θ M hd hw h=>?_;refine bo hd hw (aC X θ H Q) (λc M' h=>h) (λh=>h) h λd M1 v θ1 H1 g1 r1 h1=>?_
  have h2:=aC.go g1 h1;cases d with
  | mr k=>
   have h2:aC X θ1 H1 Q (match M1[k]? with|some (.lst _)=>(ge ρ M1).bind (u6 k)|_=>.bad):=h2;cases qm1:M1[k]? with
   | none=>rw[qm1] at h2;exact h2.elim
   | some m1=>
    cases m1 with
    | obj _ _=>rw[qm1] at h2;exact h2.elim
    | dK _=>rw[qm1] at h2;exact h2.elim
    | dT _=>rw[qm1] at h2;exact h2.elim
    | lst ys1=>
     rw[qm1] at h2;refine q1x2 (id r1) λa1 ea1 ta1=>?_;refine q1x2 (g1.wr.at_ k a1 _ ta1 qm1) λvs1 hv1 _=>?_;refine⟨by rw[ea1];exact .inl ⟨rfl,vs1,.inl (.inl hv1)⟩,?_⟩;refine bo (hd.go g1) g1.wr (aC X θ1 H1 Q) (λc M' h=>h) (λh=>h) h2 λdx M2 vx θ2 H2 g2 r2 h3=>?_
     have h3:aC X θ1 H1 Q (match M2[k]? with|some (.lst xs)=>if xs.length<sizeLine then .ok .non (M2.set k (.lst (xs++[dx]))) else .bad|_=>.bad):=h3;refine q1x2 (r1.go g2) λa ea ta=>?_;cases qm:M2[k]? with
     | none=>rw[qm] at h3;exact h3.elim
     | some m=>
      cases m with
      | obj _ _=>rw[qm] at h3;exact h3.elim
      | dK _=>rw[qm] at h3;exact h3.elim
      | dT _=>rw[qm] at h3;exact h3.elim
      | lst ys=>
       rw[qm] at h3;refine q1x2 (g2.wr.at_ k a _ ta qm) λvs hv ra=>?_;have h3:aC X θ1 H1 Q (if ys.length<sizeLine then .ok .non (M2.set k (.lst (ys++[dx]))) else .bad):=h3;split at h3
       ·rename_i hl;have gs:=sT (ds:=ys) g2.wr ta (cZ ra (show isDs X.K θ2 H2 [dx] [vx] from⟨vx,[],rfl,r2,rfl⟩));exact⟨a,vs,vx,ea,rfl,hv,by rw[<-ao ra];exact hl,h3 _ θ2 _ (g2.trans gs) rfl⟩
       ·exact h3.elim
  | _=>exact h2.elim
end
def aV (f:D->Option D):List D->Option (List D)
 | []=>Z []
 | d::ds=>match f d,aV f ds with
  | some x,Z xs=>Z (x::xs)
  | _,_=>Y
def frz (n:Nat)(M:aw):Nat->D->Option D
 | 0,_=>Y
 | f+1,d=>match d with
  | .mr k=>if k<n then Z (.mr k) else match M[k]? with
   | some (.lst xs)=>(aV (frz n M f) xs).map .lst
   | _=>Y
  | .tup xs=>(aV (frz n M f) xs).map .tup
  | .lst xs=>(aV (frz n M f) xs).map .lst
  | .ro xs=>(aV (frz n M f) xs).map .ro
  | d=>Z d
def qX (f:D->Option D):List (Str×D)->Option (List (Str×D))
 | []=>Z []
 | (x,d)::r=>match f d,qX f r with
  | some e,Z r'=>Z ((x,e)::r')
  | _,_=>Y
def nB {κ:Type}(f:D->Option D):List (κ×D)->Option (List (κ×D))
 | []=>Z []
 | (x,d)::r=>match f d,nB f r with
  | some e,Z r'=>Z ((x,e)::r')
  | _,_=>Y
def eK (n:Nat)(M:aw):List MO->Option (List MO)
 | []=>Z []
 | .lst xs::r=>match aV (frz n M 30) xs,eK n M r with
  | some ys,Z r'=>Z (.lst ys::r')
  | _,_=>Y
 | .obj c fs::r=>match qX (frz n M 30) fs,eK n M r with
  | some gs,Z r'=>Z (.obj c gs::r')
  | _,_=>Y
 | .dK fs::r=>match nB (frz n M 30) fs,eK n M r with
  | some gs,Z r'=>Z (.dK gs::r')
  | _,_=>Y
 | .dT fs::r=>match nB (frz n M 30) fs,eK n M r with
  | some gs,Z r'=>Z (.dT gs::r')
  | _,_=>Y
def fq (n:Nat)(o:aN D):aN D:=match o with
 | .ok d M=>if M.length=n then .ok d M else match frz n M 30 d,eK n M (M.take n) with
  | some d',Z M'=>.ok d' M'
  | _,_=>.bad
 | .err c M=>if M.length=n then .err c M else match eK n M (M.take n) with
  | some M'=>.err c M'
  | none=>.bad
 | .bad=>.bad
section
variable {K:W.Frag}{θ more:List Addr}{H:Hp}{M:aw}{n:Nat}
theorem eO {f:D->Option D}{θ':List Addr}:∀{ds es:List D} {vs:List V},aV f ds=Z es->isDs K θ' H ds vs->(∀d∈ds,∀e v,f d=Z e->isD K θ' H d v->isD K θ H e v)->isDs K θ H es vs
 | [],es,vs,h,r,k=>by cases h;exact r
 | d::ds,es,vs,h,r,k=>by
  refine q2x3 r λv rr e h1 h2=>?_;unfold aV at h;cases q1:f d with
  | none=>rw[q1] at h;cases h
  | some x=>
   cases q2:aV f ds with
   | none=>rw[q1,q2] at h;cases h
   | some xs=>
    rw[q1,q2] at h;cases h;exact⟨v,rr,e,k d mem_cons_self x v q1 h1,eO q2 h2 λd' hd=>k d' (mem_cons_of_mem _ hd)⟩
theorem jS (hw:Wr K (θ++more) H M)(hn:θ.length=n):∀(f:Nat) (d e:D) (v:V),frz n M f d=Z e->isD K (θ++more) H d v->isD K θ H e v
 | 0,d,e,v,h,r=>by cases h
 | f+1,d,e,v,h,r=>by
  have ih:=jS hw hn f;have sub:∀{a:Addr},a∉θ++more->a∉θ:=λ{a} z y=>z (mem_append_left _ y)
  cases d with
  | mr k=>
   refine q1x2 r λa ea ta=>?_
   by_cases hk:k<n
   ·have h:(if k<n then Z (D.mr k) else _)=Z e:=h;rw[if_pos hk] at h;cases h;exact⟨a,ea,by rw[getElem?_append_left (by rw[hn];exact hk)] at ta;exact ta⟩
   ·have h:(if k<n then Z (D.mr k) else match M[k]? with|some (.lst xs)=>(aV (frz n M f) xs).map .lst|_=>Y)=Z e:=h;rw[if_neg hk] at h;cases qm:M[k]? with
    | none=>rw[qm] at h;cases h
    | some m=>
     cases m with
     | lst xs=>
      rw[qm] at h;have h:(aV (frz n M f) xs).map D.lst=Z e:=h;refine q1x2 (hw.at_ k a _ ta qm) λvs hv ra=>?_;cases qo:aV (frz n M f) xs with
      | none=>rw[qo] at h;cases h
      | some ys=>
       rw[qo] at h;cases h;refine⟨a,vs,ea,⟨hv,λz=>?_⟩,eO qo ra λd _ e v=>ih d e v⟩;rw[getElem?_append_right (by omega)] at ta;have hm:=mem_of_getElem? ta;exact(nodup_append.mp hw.nd).2.2 a z a hm rfl
     | _=>rw[qm] at h;cases h
  | tup xs=>
   have h:(aV (frz n M f) xs).map D.tup=Z e:=h;cases qo:aV (frz n M f) xs with
   | none=>rw[qo] at h;cases h
   | some ys=>
    rw[qo] at h;cases h;refine q2x3 r λa vs ea ta ra=>?_;exact⟨a,vs,ea,⟨ta.1,sub ta.2⟩,eO qo ra λd _ e v=>ih d e v⟩
  | lst xs=>
   have h:(aV (frz n M f) xs).map D.lst=Z e:=h;cases qo:aV (frz n M f) xs with
   | none=>rw[qo] at h;cases h
   | some ys=>
    rw[qo] at h;cases h;refine q2x3 r λa vs ea ta ra=>?_;exact⟨a,vs,ea,⟨ta.1,sub ta.2⟩,eO qo ra λd _ e v=>ih d e v⟩
  | ro xs=>
   have h:(aV (frz n M f) xs).map D.ro=Z e:=h;cases qo:aV (frz n M f) xs with
   | none=>rw[qo] at h;cases h
   | some ys=>
    rw[qo] at h;cases h;refine q2x3 r λa vs ea ta ra=>?_;refine⟨a,vs,ea,?_,eO qo ra λd _ e v=>ih d e v⟩;rcases ta with⟨t1,t2⟩|t
    ·exact .inl ⟨t1,sub t2⟩
    ·exact .inr t
  | non=>cases h;exact r
  | bl b=>cases h;exact r
  | int b=>cases h;exact r
  | str b=>cases h;exact r
  | exc c=>
   cases h;refine q2x4 r λa C ea kc t1 t2=>?_;exact⟨a,C,ea,kc,t1,sub t2⟩
  | any=>cases h;exact r
theorem uF {f:D->Option D}{θ':List Addr}:∀{fs gs:List (Str×D)} {vs:List (Str×V)},qX f fs=Z gs->isFs K θ' H fs vs->(∀d e v,f d=Z e->isD K θ' H d v->isD K θ H e v)->isFs K θ H gs vs
 | [],gs,vs,h,r,k=>by cases h;exact r
 | (x,d)::fs,gs,vs,h,r,k=>by
  refine q2x3 r λv rr e h1 h2=>?_;unfold qX at h;cases q1:f d with
  | none=>rw[q1] at h;cases h
  | some y=>
   cases q2:qX f fs with
   | none=>rw[q1,q2] at h;cases h
   | some ys=>
    rw[q1,q2] at h;cases h;exact⟨v,rr,e,k d y v q1 h1,uF q2 h2 k⟩
theorem ox {κ:Type}{f:D->Option D}{θ':List Addr}:∀{fs gs:List (κ×D)} {vs:List (κ×V)},nB f fs=Z gs->isKs K θ' H fs vs->(∀d e v,f d=Z e->isD K θ' H d v->isD K θ H e v)->isKs K θ H gs vs
 | [],gs,vs,h,r,k=>by cases h;exact r
 | (x,d)::fs,gs,vs,h,r,k=>by
  refine q2x3 r λv rr e h1 h2=>?_;unfold nB at h;cases q1:f d with
  | none=>rw[q1] at h;cases h
  | some y=>
   cases q2:nB f fs with
   | none=>rw[q1,q2] at h;cases h
   | some ys=>
    rw[q1,q2] at h;cases h;exact⟨v,rr,e,k d y v q1 h1,ox q2 h2 k⟩
theorem jn (hw:Wr K (θ++more) H M)(hn:θ.length=n):∀(l l':List MO),eK n M l=Z l'->l'.length=l.length/\∀(i:Nat) m m' a,l[i]?=Z m->l'[i]?=Z m'->ke K (θ++more) H m a->ke K θ H m' a
 | [],l',h=>by cases h;exact⟨rfl,λi m m' a e=>by simp at e⟩
 | .lst xs::r,l',h=>by
  unfold eK at h;cases q1:aV (frz n M 30) xs with
  | none=>rw[q1] at h;cases h
  | some ys=>
   cases q2:eK n M r with
   | none=>rw[q1,q2] at h;cases h
   | some r'=>
    rw[q1,q2] at h;cases h;refine q0x2 (jn hw hn r r' q2) λhl hr=>?_;refine⟨by rw[length_cons,length_cons,hl],λi m m' a e1 e2 ok=>?_⟩;cases i with
    | zero=>
     have e1:Z (MO.lst xs)=Z m:=e1;have e2:Z (MO.lst ys)=Z m':=e2;cases e1;cases e2;refine q1x2 ok λvs hv ra=>?_;exact⟨vs,hv,eO q1 ra λd _ e v=>jS hw hn 30 d e v⟩
    | succ i=>exact hr i m m' a e1 e2 ok
 | .obj c fs::r,l',h=>by
  unfold eK at h;cases q1:qX (frz n M 30) fs with
  | none=>rw[q1] at h;cases h
  | some gs=>
   cases q2:eK n M r with
   | none=>rw[q1,q2] at h;cases h
   | some r'=>
    rw[q1,q2] at h;cases h;refine q0x2 (jn hw hn r r' q2) λhl hr=>?_;refine⟨by rw[length_cons,length_cons,hl],λi m m' a e1 e2 ok=>?_⟩;cases i with
    | zero=>
     have e1:Z (MO.obj c fs)=Z m:=e1;have e2:Z (MO.obj c gs)=Z m':=e2;cases e1;cases e2;refine q3x3 ok λC dx vs kC hv ra=>?_;exact⟨C,dx,vs,kC,hv,uF q1 ra λd e v=>jS hw hn 30 d e v⟩
    | succ i=>exact hr i m m' a e1 e2 ok
 | .dK fs::r,l',h=>by
  unfold eK at h;cases q1:nB (frz n M 30) fs with
  | none=>rw[q1] at h;cases h
  | some gs=>
   cases q2:eK n M r with
   | none=>rw[q1,q2] at h;cases h
   | some r'=>
    rw[q1,q2] at h;cases h;refine q0x2 (jn hw hn r r' q2) λhl hr=>?_;refine⟨by rw[length_cons,length_cons,hl],λi m m' a e1 e2 ok=>?_⟩;cases i with
    | zero=>
     have e1:Z (MO.dK fs)=Z m:=e1;have e2:Z (MO.dK gs)=Z m':=e2;cases e1;cases e2;refine q1x2 ok λvs hv ra=>?_;exact⟨vs,hv,ox q1 ra λd e v=>jS hw hn 30 d e v⟩
    | succ i=>exact hr i m m' a e1 e2 ok
 | .dT fs::r,l',h=>by
  unfold eK at h;cases q1:nB (frz n M 30) fs with
  | none=>rw[q1] at h;cases h
  | some gs=>
   cases q2:eK n M r with
   | none=>rw[q1,q2] at h;cases h
   | some r'=>
    rw[q1,q2] at h;cases h;refine q0x2 (jn hw hn r r' q2) λhl hr=>?_;refine⟨by rw[length_cons,length_cons,hl],λi m m' a e1 e2 ok=>?_⟩;cases i with
    | zero=>
     have e1:Z (MO.dT fs)=Z m:=e1;have e2:Z (MO.dT gs)=Z m':=e2;cases e1;cases e2;refine q1x2 ok λvs hv ra=>?_;exact⟨vs,hv,ox q1 ra λd e v=>jS hw hn 30 d e v⟩
    | succ i=>exact hr i m m' a e1 e2 ok
def zg {θ0:List Addr}{H0:Hp}{θ':List Addr}{H':Hp}{M' M2:aw}{n:Nat}(hn:θ0.length=n)(g:Go K θ0 H0 θ' H' M')(h:eK n M' (M'.take n)=Z M2):Go K θ0 H0 θ0 H' M2:=by
 refine q1x2 g.ext λm em hm=>?_;have hw:=g.wr;rw[em] at hw;refine q0x2 (jn hw hn _ _ h) λhl hr=>?_;have hlen:n<=M'.length:=by rw[<-g.wr.len,em,length_append];omega
 refine⟨⟨⟨[],by simp,λ_ z=>by cases z⟩,g.keep,g.tkeep⟩,by rw[hl,length_take];omega,(nodup_append.mp hw.nd).1,λi a mo e1 e2=>?_,g.wr.tb⟩;have hi:i<n:=by rw[<-hn];exact(List.getElem?_eq_some_iff.mp e1).1
 have hiM:i<M'.length:=by omega
 refine hr i M'[i] mo a (by rw[getElem?_take_of_lt hi];exact getElem?_eq_getElem hiM) e2 (hw.at_ i a _ ?_ (getElem?_eq_getElem hiM));rw[getElem?_append_left (by rw[hn];exact hi)];exact e1
end
def DR {k:Nat}{CX:wo}(h:fm P w K mg base CX k f fd ps (rB K n F)) :
  fm P w K mg base CX k f fd ps (rB K n λds M=>fq M.length (F ds M)):=h.imp λvs H Q E hxx=>by
 refine q3x4 hxx λθ M ds hl r hw q=>?_;refine⟨θ,M,ds,hl,r,hw,?_⟩;have q:vw K θ H Q E (fq M.length (F ds M)):=q;cases e:F ds M with
 | bad=>rw[e] at q;exact q
 | err c M1=>
  rw[e] at q;have q:vw K θ H Q E (if M1.length=M.length then .err c M1 else match eK M.length M1 (M1.take M.length) with|some M'=>.err c M'|none=>.bad):=q;split at q
  ·exact q
  ·split at q
   ·rename_i M2 e2;exact λC θ' H' a kC g=>q C θ H' a kC (zg hw.len g e2)
   ·exact q.elim
 | ok d M1=>
  rw[e] at q;have q:vw K θ H Q E (if M1.length=M.length then .ok d M1 else match frz M.length M1 30 d,eK M.length M1 (M1.take M.length) with|some d',Z M'=>.ok d' M'|_,_=>.bad):=q;split at q
  ·exact q
  ·split at q
   ·rename_i d' M2 e1 e2;intro v θ' H' g rd;refine q v θ H' (zg hw.len g e2) ?_;refine q1x2 g.ext λm em _=>?_;have hw':=g.wr;rw[em] at hw' rd;exact jS hw' hw.len 30 d d' v e1 rd
   ·exact q.elim
structure Fn (K:W.Frag)(mg:Str->Option Value)(x:Str)(st:Stmt)(f:Addr)(fd:FuncData)(ps:List Str):Prop where
 F:Ac K x x st f fd
 m:mg x=Z (.ref f)
 b:ik K fd ps []
section
variable {X:Cx}
def vv (i:Nat){pos:Pos}(hN:X.N[i]?=Z x:=by rfl)(hv:EK X.env.scope x:=by first|exact Or.inl rfl|exact Or.inr (Or.inl rfl)|exact Or.inr (Or.inr rfl))(hd:(x==("__debug__":Str))=false:=by decide)
  (hcd:(x==("__classdict__":Str))=false:=by decide):PE X (.Name x pos) (tE X (af i)):=EE (C3 hN hv hd hcd)
def ss (i:Nat){pos pos':Pos}(hN:X.N.Nodup)(he:PE X e (tE X g))(hi:X.N[i]?=Z x:=by rfl)(hx:rH X.env.scope x:=by first|exact Or.inl rfl|exact Or.inr rfl)
  (hs:swapsWith e (Z (.Name x pos')) pos.line X.env=pure false:=by rfl) (hf:X.fn x=true\/X.env.scope.names.lookup x=Z .local:=by first|exact .inl rfl|exact .inr rfl) :
  PS X (.Assign [.Name x pos'] e pos) (tS X (ay i g)):=CA hN hi hx he hs hf
def gg (i:Nat){pos:Pos}(hN:X.N.Nodup)(hi:X.N[i]?=Z x:=by rfl)(hx:rH X.env.scope x:=by first|exact Or.inl rfl|exact Or.inr rfl)(hf:X.fn x=true\/X.env.scope.names.lookup x=Z .local:=by first|exact .inl rfl|exact .inr rfl):PG X (.Name x pos) (tG X (bP i)):=oZ hN hi hx hf
end
def C8 {ns:List Int}(tb:iO K H)(hS:jt K H a (ns.map V.int))(h:∃M',F [.ro (ns.map D.int)] []=.ok (.bl true) M'):rB K 1 F [.ref a] H (λv _=>v=.bl true) E:=by
 refine q1x1 h λM' e=>?_;refine⟨[],[],[.ro (ns.map D.int)],rfl,⟨_,[],rfl,⟨a,ns.map V.int,rfl,?_,?_⟩,rfl⟩,⟨rfl,nodup_nil,λi a m e=>by simp at e,tb⟩,?_⟩
 ·rcases hS with h|h
  ·exact .inl ⟨h,by simp⟩
  ·exact .inr h
 ·clear e
  induction ns with
  | nil=>exact rfl
  | cons n ns ih=>
   refine⟨.int n,ns.map V.int,rfl,rfl,?_⟩;have gen:∀l:List Int,isDs K [] H (l.map D.int) (l.map V.int):=by
    intro l
    induction l with
    | nil=>exact rfl
    | cons m l ih=>exact⟨_,_,rfl,rfl,ih⟩
   exact gen ns
 ·rw[e];exact λv θ' H' g r=>r
def bS (t:GT)(b:GS):Nat->bv->aw->aN Fl
 | 0,_,_=>.bad
 | n+1,ρ,M=>(t ρ M).bind λc M1=>if c then(b ρ M1).bind λf M2=>match f with
   | .nx ρ2=>bS t b n ρ2 M2
   | .ct ρ2=>bS t b n ρ2 M2
   | .bk ρ2=>.ok (.nx ρ2) M2
   | .rt d=>.ok (.rt d) M2
  else .ok (.nx ρ) M1
def iW (n:Nat)(t:GT)(b:GS):GS:=bS t b n
def xX {X:Cx}{c:Expr}{tc:GT}(hp:PassesOwn (model X.prog X.w) X.A X.env X.xe)(hc:PT X c (tT X tc))(hb:PSs X body (tS X gb)):PS X (.While c body [] pos) (tS X (iW n tc gb)):=
 (yS hp hc hb).of λD σ H hxx=>by
  refine q3x3 hxx λρ θ M hd hw h=>?_;refine⟨λm σ' H'=>∃ρ' θ' M',gq X.K θ' H' σ' ρ'/\Wr X.K θ' H' M'/\bT X θ' H' D (bS tc gb m ρ' M'),⟨n,ρ,θ,M,hd,hw,h⟩,?_⟩;rintro m σ' H' ⟨ρ',θ',M',hd',hw',h'⟩;cases m with
  | zero=>exact h'.elim
  | succ m=>
   have h':bT X θ' H' D ((tc ρ' M').bind _):=h';refine qW hd' hw' (bT X θ' H' D) (λc M' h=>h) (λh=>h) h' λc M1 θ1 H1 g1 h1=>?_
   cases c with
   | false=>
    rw[if_neg Bool.false_ne_true];exact h1 σ' θ1 H1 g1 (hd'.go g1)
   | true=>
    rw[if_pos rfl];refine⟨λσ2 H2=>∃ρ2 θ2 M2,gq X.K θ2 H2 σ2 ρ2/\Wr X.K θ2 H2 M2/\bT X θ2 H2 D (bS tc gb m ρ2 M2),λσ2 H2 q=>⟨m,Nat.lt_succ_self _,q⟩,ρ',θ1,M1,hd'.go g1,g1.wr,?_⟩;have h2:=bT.go g1 h1;have h2:bT X θ1 H1 D ((gb ρ' M1).bind _):=h2;cases q:gb ρ' M1 with
    | bad=>rw[q] at h2;exact h2
    | err c M2=>rw[q] at h2;exact h2
    | ok f M2=>
     rw[q] at h2;cases f with
     | nx ρ2=>exact λσ2 θ2 H2 g2 d2=>⟨ρ2,θ2,M2,d2,g2.wr,bT.go g2 h2⟩
     | ct ρ2=>exact λσ2 θ2 H2 g2 d2=>⟨ρ2,θ2,M2,d2,g2.wr,bT.go g2 h2⟩
     | bk ρ2=>exact h2
     | rt d=>exact h2
def bi:Expr->Bool
 | .Starred _ _=>false
 | _=>true
def dB (es:List Expr):Bool:=es.all bi
def sE {env:Env}(h:bi e=true):starEach (e::es) env=(false,eval e env)::starEach es env:=by
 cases e <;> first|rfl|(simp[bi] at h)
theorem sS {pos:Pos}{env:Env}:∀{es:List Expr},dB es=true->(backTo pos (starEach es env)).any (·.1)=false
 | [],_=>rfl
 | e::es,h=>by
  unfold dB at h;rw[all_cons,Bool.and_eq_true] at h;have ih:=sS (pos:=pos) (env:=env) (es:=es) h.2;rw[sE h.1];unfold backTo at ih ⊢;rw[map_cons,any_cons,ih];rfl
section
variable {X:Cx}{e:Expr}{es:List Expr}{x:Str}{p pos:Pos}{k n:Nat}{f:Addr}{fd:FuncData}{ps:List Str}{F:FD}{ga:GA}{g:GE}{tg:Expr}
def Ht {gr:GA}(ha:PE X e (tE X g))(hr:PA X es (tA X gr))(h:bi e=true:=by rfl):PA X (e::es) (tA X (ae g gr)):=Av ha hr (sE h)
def Gd (Fn:fm X.prog X.w X.K X.mg X.base (iM X.prog X.w) k f fd ps (rB X.K n F))(hr:bJ k X.A)(hg:Gl X x)(hm:X.mg x=Z (.ref f))(hk:W.keepIn X.K (.ref f)=true)(hb:ik X.K fd ps [])
  (ha:PA X (e::es) (tA X ga)) (hdb:(x==("__debug__":Str))=false:=by decide) (h1:bi e=true:=by rfl) (h2:dB es=true:=by rfl) :
  PE X (.Call (.Name x p) (e::es) [] pos) (tE X (ax n F ga)):=A3 Fn hr hg hm hk hb ha hdb (sE h1) (sS h2)
def Fq {id:String}(hc:cG X (.builtin id) (rC X F))(hg:Gl X x)(hm:X.mg x=Y)(hv:bootBuiltins x=Z (.builtin id))(ha:PA X (e::es) (tA X ga))(hn:x≠"__name__":=by decide)(hdb:(x==("__debug__":Str))=false:=by decide)
  (h1:bi e=true:=by rfl) (h2:dB es=true:=by rfl):PE X (.Call (.Name x p) (e::es) [] pos) (tE X (aQ F ga)):=yL hc hg hm hv ha hn hdb (sE h1) (sS h2)
def G3 (hc:cG X (.type T) (rC X F))(hg:Gl X x)(hm:X.mg x=Y)(hv:bootBuiltins x=Z (.type T))(ha:PA X (e::es) (tA X ga))(hn:x≠"__name__":=by decide)(hdb:(x==("__debug__":Str))=false:=by decide)
  (h1:bi e=true:=by rfl) (h2:dB es=true:=by rfl):PE X (.Call (.Name x p) (e::es) [] pos) (tE X (aQ F ga)):=vg hc hg hm hv ha hn hdb (sE h1) (sS h2)
def E2 {p2:Pos}(hT:ji T)(hv:bootBuiltins x=Z (.type T))(hg:Gl X x)(hm:X.mg x=Y)(hgi:Gl X "isinstance")(hmi:X.mg "isinstance"=Y)(he:PE X e (tE X g))
  (h1:bi e=true:=by rfl) (hn:x≠"__name__":=by decide) (hd:(x==("__debug__":Str))=false:=by decide):PE X (.Call (.Name "isinstance" p) [e,.Name x p2] [] pos) (tE X (iX T g)):=
 Cb hT hv hg hm hgi hmi he hn hd boot_isinstance (sE h1) (sE rfl) (sS rfl)
def Fh {a:Expr}(hg:Gl X "range")(hm:X.mg "range"=Y)(ha:PA X [a] (tA X ga))(h1:bi a=true:=by rfl):PI X tg (.Call (.Name "range" p) [a] [] pos) (tI X (d8 ga)):=u4 hg hm ha (sE h1)
end
end DL
namespace DL
open PySem L2
def A5 {j:Int}(h:-(2 ^ 62)<=j/\j<2 ^ 62)(M:aw):xl [.int j] M=.ok ⟨bq 0 j.toNat,Y⟩ M:=by
 unfold xl;exact if_pos h
def ze {n:Nat}(h:n<=1000000)(M:aw):xl [.int (n:Int)] M=.ok ⟨bq 0 n,Y⟩ M:=by
 have:=A5 (j:=(n:Int)) (by omega) M;rw[this];rfl
theorem dX {ds:List D}{M:aw}:jP.ok ⟨ds,Y⟩ M=true:=rfl
def fE {n:Nat}(h:n<=1000000):n<=sizeLine:=Nat.le_trans h (by rw[sizeLine_eq];decide)
end DL
namespace DL
@[simp] theorem IW (i j:Int):mH (.int i) (.int j)=(i==j):=rfl
@[simp] theorem Ib (i j:Bool):mH (.bl i) (.bl j)=(i==j):=rfl
@[simp] theorem IY (i j:PySem.Str):mH (.str i) (.str j)=(i==j):=rfl
@[simp] theorem HK:mH .non .non=true:=rfl
@[simp] theorem IG (i:Int):mH (.int i) .non=false:=rfl
@[simp] theorem HA (i:Int):mH .non (.int i)=false:=rfl
@[simp] theorem HD (xs ys:List D):mH (.tup xs) (.tup ys)=ft xs ys:=rfl
@[simp] theorem IS (xs ys:List D):mH (.lst xs) (.lst ys)=ft xs ys:=rfl
@[simp] theorem F1:ft [] []=true:=rfl
@[simp] theorem Ho (y:D) (ys:List D):ft [] (y::ys)=false:=rfl
@[simp] theorem Hf (y:D) (ys:List D):ft (y::ys) []=false:=rfl
@[simp] theorem Hc (x y:D) (xs ys:List D):ft (x::xs) (y::ys)=(mH x y&&ft xs ys):=rfl
@[simp] theorem EN (n:Nat) (i:Int):bx n (.int i)=true:=by cases n <;> rfl
@[simp] theorem Gg (n:Nat) (i:Bool):bx n (.bl i)=true:=by cases n <;> rfl
@[simp] theorem ER (n:Nat):bx n .non=true:=by cases n <;> rfl
@[simp] theorem EQ (n:Nat) (x:PySem.Str):bx n (.str x)=PySem.PyData.strOk x:=by cases n <;> rfl
@[simp] theorem wg (n:Nat) (xs:List D):bx (n+1) (.tup xs)=a8 n xs:=rfl
@[simp] theorem vR (n:Nat) (xs:List D):bx (n+1) (.lst xs)=a8 n xs:=rfl
@[simp] theorem BE (xs:List D):bx 40 (.tup xs)=a8 39 xs:=wg 39 xs
@[simp] theorem BF (xs:List D):bx 40 (.lst xs)=a8 39 xs:=vR 39 xs
@[simp] theorem Di (n:Nat):a8 n []=true:=by cases n <;> rfl
@[simp] theorem Bv (n:Nat) (x:D) (xs:List D):a8 n (x::xs)=(bx n x&&a8 n xs):=by cases n <;> rfl
@[simp] theorem Hs (i:Int) (M:aw):now (.int i) M=.int i:=rfl
@[simp] theorem H9 (i:Bool) (M:aw):now (.bl i) M=.bl i:=rfl
@[simp] theorem Hi (M:aw):now .non M=.non:=rfl
@[simp] theorem Ha (x:PySem.Str) (M:aw):now (.str x) M=.str x:=rfl
@[simp] theorem Hm (xs:List D) (M:aw):now (.tup xs) M=.tup xs:=rfl
@[simp] theorem Hn (xs:List D) (M:aw):now (.lst xs) M=.lst xs:=rfl
end DL
namespace DL
open PySem PySem.Spec PyProof.Rows L2 PySem.W PySem.Builtin PySem.Builtin.ObjectAttr PySem.Builtin.Getset_descriptor List
structure Ip (K:Frag)(C:Addr):Prop where
 cl:(clsIn K C).isSome=true
 ca:findIn K (.ref C) "__class__"=Z (Z (.builtin "object.__class__"))
 sp:specialIn K (.builtin "object.__class__") "__get__"=Z (Z (.builtin "getset_descriptor.__get__"))
 tk:takesIn K (.builtin "object.__class__")=Z true
 ob:mroIn K C (.type "object")=Z true
 ga:findIn K (.ref C) "__getattribute__"=Z (Z (.builtin "BaseException.__getattribute__"))
 gh:findIn K (.ref C) "__getattr__"=Z Y
 be:mroIn K C (.type "BaseException")=Z true
end DL
namespace DL
open PySem PySem.Spec PyProof.Rows L2 List
abbrev Fz:List Value:=[.type "ValueError",.type "Exception",.type "BaseException",.type "object"]
structure Ec (K:W.Frag)(mg:Str->Option Value)(c:Str)(C:Addr):Prop where
 at_:lJ K c C
 m:mg c=Z (.ref C)
 k:Ip K C
 ex:W.excIn K C Fz "ValueError.__new__"=true
 ty:W.typeIn K (.ref C)=Z (.type "type")
 sf:W.mroIn K C (.ref C)=Z true
variable{K:W.Frag}
def BV {h:Heap}{C:Addr}{bmB:List Value}{newId:String}(X:K.In h)(q:W.excIn K C bmB newId=true) :
  ∃bm N nm qn bs hdct sn sub ab col dd k0 k1 k2 k3 k5 mN,h.get? C=Z (excClassObj nm qn C N bs bm hdct sn sub ab col dd k0 k1 k2 k3 k5 newId)/\h.Ns N mN/\mN "__init__"=Y/\OwnTail h bmB bm:=by
 unfold W.excIn at q;split at q
 ·rename_i d1 cd s1 at1;split at q
  ·rename_i C2 rest j0 j1 j2 j3 nn j5 e1 e2;simp only[Bool.and_eq_true,beq_iff_eq,Bool.not_eq_true'] at q;obtain⟨⟨⟨⟨⟨r1,r2⟩,r3⟩,r4⟩,r5⟩,r6⟩:=q;subst r1;subst r2;cases cd with
   | mk c1 c2 c3 c4 c5 c6 c7 c8 c9 c10 c11=>
    dsimp only at e1 r3 r5 r6;subst e1;subst r3;have e3:s1=#[j0,j1,j2,j3,Z (.builtin nn),j5]:=by
     cases s1 with
     | mk l=>
      have e4:l=_:=e2;rw[e4]
    subst e3;refine⟨rest,c4,c1,c5,c2,c6,c7,c8,c9,c10,d1,j0,j1,j2,j3,j5,h.nsMap c4,X _ _ at1,?_,W.nsMap_none_of_in X r5 r6,W.tail_of_in X r4⟩;exact Heap.Ns.of_isNs (W.isNs_of_in X r5)
  ·cases q
 ·cases q
def eR (c:Str)(g:GE):GS:=λρ M=>(g ρ M).bind λ_ M1=>.err c M1
def yq {X:Cx}{c:Str}{C:Addr}{e:Expr}{g:GE}{np cpos pos:Pos}(k:Ec X.K X.mg c C)(hc:X.calm=true)(hg:Gl X c)(he:PE X e (tE X g))(h1:bi e=true:=by rfl)(hd:(c==("__debug__":Str))=false:=by decide) :
  PS X (.Raise (Z (.Call (.Name c np) [e] [] cpos)) Y pos) (tS X (eR c g)):=by
 intro aa s σ H D I h;refine q3x3 h λρ θ M hdn hw h=>?_;obtain⟨bm,N,nm,qn,bs,hdct,sn,sub,ab,col,dd,k0,k1,k2,k3,k5,mN,hC,hN,hni,T⟩:=BV I.ok.mod.kin k.ex;have hs:starEach [e] X.env=(false,eval e X.env)::starEach [] X.env:=sE h1;have hplain:(backTo cpos (starEach [e] X.env)).any (·.1)=false:=sS (by unfold dB;simp[h1]);refine wpAny_Raise_call_subT (C:=C) (nm:=nm) (q:=qn) (N:=N) (bs:=bs) (bm:=bm) (hdct:=hdct) (sn:=sn) (sub:=sub) (ab:=ab) (col:=col) (dd:=dd) (k0:=k0) (k1:=k1) (k2:=k2) (k3:=k3) (k5:=k5)
  PySem.F.excBase_ValueError (mN:=mN) (T.hasType PySem.F.excBase_ValueError.hasBase) (I.ok.hd hc) hplain hni (uN I hg k.m ⟨rfl,?_⟩ hd)
 have hv:=fB he iS hs cpos aa s σ H (λvs H1=>vs.length=1/\∃θ1 M1,Go X.K θ H θ1 H1 M1/\cH X θ1 H1 c M1) I (by
  refine bo hdn hw (bT X θ H D) (λc M' h=>h) (λh=>h) h λd M1 v θ1 H1 g1 r1 h2=>?_
  exact⟨rfl,θ1,M1,g1,cH.go g1 h2⟩)
 rw[hs] at hv ⊢;refine Calls.evalArgs_plain (wpAny_mono hv (λus s2 hq=>⟨rfl,?_⟩) λ_ _ y=>y);obtain⟨vs,H1,I1,rv,hl,θ1,M1,g1,ok⟩:=hq;refine⟨by show us.length<=sizeLine;rw[<-rv.length,hl];exact Nat.le_trans (by decide:1<=1000000) (by rw[sizeLine_eq];decide),I1.bk _ _ hC,hN.keeps I1.bk,T.keeps I1.bk,λh' e' hm=>?_⟩;exact ok C θ1 H1 e' _ k.at_ (.refl g1.wr) ⟨aa,σ,.inl ⟨s2.heap,us,I1,hm⟩⟩
def o8 (i:Nat):Fl->Fl
 | .nx ρ=>.nx (ρ.set i Y)
 | .bk ρ=>.bk (ρ.set i Y)
 | .ct ρ=>.ct (ρ.set i Y)
 | .rt d=>.rt d
variable{es:List Expr}{gs:List GE}{θ:List Addr}{H:Hp}{xs:List D}
section
variable {X:Cx}
def pT:D->Option Str
 | .int a=>if a.natAbs.log2<1920 then Z (toString a) else Y
 | .str x=>if x.length<=sizeLine then Z x else Y
 | _=>Y
def jl (g:GE):GE:=λρ M=>(g ρ M).bind λd M1=>match pT d with
 | some x=>.ok (.str x) M1
 | none=>.bad
def Eb {e:Expr}{g:GE}{pos:Pos}{i:Int}(he:PE X e (tE X g))(hi:i=-1:=by rfl):PE X (.FormattedValue e i Y pos) (tE X (jl g)):=by
 subst hi;intro aa s σ H Q I h;refine q3x3 h λρ θ M hd hw h=>?_;refine FormattedValue_plain (wpAny_mono (he aa s σ H (λv H1=>∃d M1 θ1,Go X.K θ H θ1 H1 M1/\isD X.K θ1 H1 d v/\aC X θ1 H1 Q (match pT d with|some x=>.ok (.str x) M1|none=>.bad)) I ?_) (λu s1 hq=>?_) λ_ _ y=>y)
 ·exact bo hd hw (aC X θ H Q) (λc M' h=>h) (λh=>h) h λd M1 v θ1 H1 g1 r1 h1=>⟨d,M1,θ1,g1,r1,aC.go g1 h1⟩
 ·obtain⟨v,H1,I1,rv,d,M1,θ1,g1,r1,h1⟩:=hq;cases d with
  | int a=>
   have e:v=.int a:=r1;subst e;refine q1x1 rv λt zz1=>?_;subst zz1;unfold pT at h1
   by_cases hc:a.natAbs.log2<1920
   ·simp only[if_pos hc] at h1;exact formatField_int_small hc ⟨.str (toString a),H1,I1.tok _,⟨_,rfl⟩,h1 _ θ1 H1 (.refl g1.wr) rfl⟩
   ·simp only[if_neg hc] at h1;exact h1.elim
  | str x=>
   have e:v=.str x:=r1;subst e;refine q1x1 rv λt zz1=>?_;subst zz1;unfold pT at h1
   by_cases hc:x.length<=sizeLine
   ·simp only[if_pos hc] at h1;exact formatField_str (λt' tk=>⟨.str x,H1,I1.tok _,⟨_,rfl⟩,h1 _ θ1 H1 (.refl g1.wr) rfl⟩) hc
   ·simp only[if_neg hc] at h1;exact h1.elim
  | _=>exact h1.elim
inductive EH (X:Cx):List Expr->List GE->Prop where
 | nil:EH X [] []
 | cons {e:Expr} {es:List Expr} {g:GE} {gs:List GE}:PE X e (tE X g)->EH X es gs->EH X (e::es) (g::gs)
def fD:List GE->Str->GE
 | [],acc=>λ_ M=>.ok (.str acc) M
 | g::gs,acc=>λρ M=>(g ρ M).bind λd M1=>match d with
  | .str y=>if(acc++y).length<=sizeLine then fD gs (acc++y) ρ M1 else .bad
  | _=>.bad
def AY (h:EH X es gs):∀(acc:Str) (aa:List (Addr×Obj)) (s:Shared) (σ:L2.St) (H:Hp) (Q:VK),acc.length<=sizeLine->L2.Inv X aa σ H s->tE X (fD gs acc) σ H Q->wpAny (model X.prog X.w) X.A (joinParts acc (evalEach es X.env)) (EP X aa σ Q) X.xe s:=by
 induction h with
 | nil=>
  intro acc aa s σ H Q hl I h;refine q3x3 h λρ θ M hd hw h=>?_;exact joinParts_nil ⟨.str acc,H,I.tok _,⟨_,rfl⟩,h _ θ H (.refl hw) rfl⟩ hl
 | @cons e es g gs he hes ih=>
  intro acc aa s σ H Q hl I h;refine q3x3 h λρ θ M hd hw h=>?_;show wpAny _ _ (joinParts acc (eval e X.env::evalEach es X.env)) _ _ _;refine joinParts_cons (wpAny_mono (he aa s σ H (λv H1=>∃d M1 θ1,Go X.K θ H θ1 H1 M1/\isD X.K θ1 H1 d v/\aC X θ1 H1 Q (match d with | .str y=>if(acc++y).length<=sizeLine then fD gs (acc++y) ρ M1 else .bad|_=>.bad)) I ?_) (λu s1 hq=>?_) λ_ _ y=>y)
  ·exact bo hd hw (aC X θ H Q) (λc M' h=>h) (λh=>h) h λd M1 v θ1 H1 g1 r1 h1=>⟨d,M1,θ1,g1,r1,aC.go g1 h1⟩
  ·obtain⟨v,H1,I1,rv,d,M1,θ1,g1,r1,h1⟩:=hq;cases d with
   | str y=>
    have e:v=.str y:=r1;subst e;refine q1x1 rv λt zz1=>?_;subst zz1
    by_cases hc:(acc++y).length<=sizeLine
    ·simp only[if_pos hc] at h1;exact⟨hc,ih (acc++y) aa s1 σ H1 Q hc I1 ⟨ρ,θ1,M1,hd.go g1,g1.wr,h1⟩⟩
    ·simp only[if_neg hc] at h1;exact h1.elim
   | _=>exact h1.elim
def Au {e1 e2:Expr}{pos:Pos}(h:EH X (e1::e2::es) gs):PE X (.JoinedStr (e1::e2::es) pos) (tE X (fD gs Str.empty)):=by
 intro aa s σ H Q I q;exact JoinedStr_many (AY h Str.empty aa s σ H Q (Nat.zero_le _) I q)
theorem mI {x:V}:∀{xs:List V} {us:List Value},aJ xs us->xs.all fO=true->us.countP (yD x)=xs.countP λy=>vc y x
 | _,_,.nil,_=>rfl
 | y::xs,u::us,.cons r t,f=>by
  rw[all_cons,Bool.and_eq_true] at f;rw[countP_cons,countP_cons,rX r f.1,mI t f.2]
def iL (d:D)(M:aw):Option (List D):=match d with
 | .lst xs=>Z xs
 | .ro xs=>Z xs
 | .mr k=>match M[k]? with
  | some (.lst xs)=>Z xs
  | _=>Y
 | _=>Y
def yd {M:aw}{d:D}{v:V}(hw:Wr K θ H M)(r:isD K θ H d v)(e:iL d M=Z xs):∃a vs,v=.ref a/\jt K H a vs/\isDs K θ H xs vs:=by
 cases d with
 | lst ys=>cases e;refine q2x3 r λa vs ea ta ra=>?_;exact⟨a,vs,ea,ta.sq,ra⟩
 | ro ys=>cases e;refine q2x3 r λa vs ea ta ra=>?_;exact⟨a,vs,ea,ta.sq,ra⟩
 | mr k=>
  refine q1x2 r λa ea ta=>?_;have e:(match M[k]? with|some (.lst xs)=>Z xs|_=>Y)=Z xs:=e;cases q:M[k]? with
  | none=>rw[q] at e;cases e
  | some m=>
   cases m with
   | lst ys=>
    rw[q] at e;cases e;refine q1x2 (hw.at_ k a _ ta q) λvs hv ra=>?_;exact⟨a,vs,ea,.inl (.inl hv),ra⟩
   | _=>rw[q] at e;cases e
 | _=>cases e
def xY (K:W.Frag):V->List V->Hp->VK->Prop:=λx vs H Q=>∃p xs y,x=.ref p/\vs=[y]/\jt K H p xs/\fO y=true/\xs.all fO=true/\Q (.int (xs.countP λz=>vc z y)) H
def xt:Ji X "list.count" (xY X.K):=by
 intro aa s σ H x vs v us Q I rx rv h;refine q3x6 h λp xs y zz3 zz4 hq fy fs q=>?_;subst zz3;subst zz4;cases rx;refine q1x2 rv.one λu zz1 ru=>?_;subst zz1;obtain⟨its,r,⟨o,n,h1,h2,h3,h4⟩,hz⟩:=I.list hq;obtain⟨c,dd,dat,sl⟩:=o;have e1:c=.type "list":=h2;have e2:dat=.seq its.toArray n:=h4;subst e1;subst e2;refine call_meets F.slot_list_count ⟨_,h1,rfl⟩ F.entry_list_count (F.args_list_count_2 _ _) (SeqAt.list_countAt p its.toArray n dd sl u (yD y)) ⟨h1,λw hw=>i8 ru fy r fs w (by simpa using hw),?_⟩;refine⟨.int (xs.countP λz=>vc z y),H,I.tok _,⟨s.toks,?_⟩,q⟩;rw[<-mI r fs]
def ja (F:List D->D->aw->aN D)(go ge:GE):GE:=λρ M=>(go ρ M).bind λo M1=>match iL o M1 with
 | some _=>(ge ρ M1).bind λx M2=>match iL o M2 with
  | some xs=>F xs x M2
  | none=>.bad
 | none=>.bad
def fH (xs:List D)(x:D)(M:aw):aN D:=if dW x&&xs.all dW then .ok (.int (xs.countP λy=>mH y x)) M else .bad
theorem lX {x:D}:∀{ds:List D},dW x=true->ds.all dW=true->(ds.map Bs).countP (λz=>vc z (Bs x))=ds.countP λy=>mH y x
 | [],_,_=>rfl
 | d::ds,fx,f=>by
  rw[all_cons,Bool.and_eq_true] at f;rw[map_cons,countP_cons,countP_cons,lX fx f.2,ur f.1 fx]
section
variable {o e:Expr}{go ge:GE}{apos cpos:Pos}
def AK {F:List D->D->aw->aN D}{rr:V->List V->Hp->VK->Prop}{σ:L2.St}{Q:VK}(hs:starEach [e] X.env=(false,eval e X.env)::starEach [] X.env)
  (hF:∀θ H M o x xs v y Q,Wr X.K θ H M->isD X.K θ H o v->iL o M=Z xs->isD X.K θ H x y->aC X θ H Q (F xs x M)->rr v [y] H Q) (h:tE X (ja F go ge) σ H Q):Je X.K "list" rr (tE X go) (xw (tE X ge) CW) σ H Q:=by
 refine q3x3 h λρ θ M hd hw h=>?_;refine bo hd hw (aC X θ H Q) (λc M' h=>h) (λh=>h) h λd M1 v θ1 H1 g1 r1 h1=>?_
 have h2:=aC.go g1 h1;cases ql:iL d M1 with
 | none=>rw[ql] at h2;exact h2.elim
 | some xs0=>
  rw[ql] at h2;refine q2x3 (yd g1.wr r1 ql) λa vs ea sq ra=>?_;refine⟨by rw[ea];exact .inl ⟨rfl,vs,sq⟩,?_⟩;refine bo (hd.go g1) g1.wr (aC X θ1 H1 Q) (λc M' h=>h) (λh=>h) h2 λdx M2 vx θ2 H2 g2 r2 h3=>?_
  have h4:=aC.go g2 h3;cases ql2:iL d M2 with
  | none=>rw[ql2] at h4;exact h4.elim
  | some xs=>
   rw[ql2] at h4;exact hF θ2 H2 M2 d dx xs v vx Q g2.wr (r1.go g2) ql2 r2 h4
def yR {M:aw}{o x:D}{v y:V}{Q:VK}(hw:Wr X.K θ H M)(r:isD X.K θ H o v)(el:iL o M=Z xs)(ry:isD X.K θ H x y)(h:aC X θ H Q (fH xs x M)):xY X.K v [y] H Q:=by
 refine q2x3 (yd hw r el) λa vs ea sq ra=>?_;unfold fH at h;split at h
 ·rename_i hc;rw[Bool.and_eq_true] at hc;refine q0x2 (oS ry hc.1) λe1 f1=>?_;refine q0x2 (mf ra hc.2) λe2 f2=>?_;refine⟨a,vs,y,ea,rfl,sq,f1,f2,?_⟩;rw[e1,e2,lX hc.1 hc.2];exact h _ θ H (.refl hw) rfl
 ·exact h.elim
def zf {env:Env}(h:bi e=true):((backTo cpos (starEach [e] env)).all (λx=>!x.1)&&(backToKw cpos (keywordEach [] env)).all (λx=>x.1.isSome)
   && decide ([e].length+([]:List Keyword).length+(if([]:List Keyword).isEmpty then 0 else 1)<30))=true:=by
 rw[sE h];rfl
def xE (ho:PE X o (tE X go))(he:PE X e (tE X ge))(h1:bi e=true:=by rfl)(hbase:attributeBase o "count" X.env (eval o X.env)=eval o X.env:=by rfl)(hline:(apos.endLine==cpos.line)=true:=by rfl) :
  PE X (.Call (.Attribute o "count" apos) [e] [] cpos) (tE X (ja fH go ge)):=
 (BO PySem.F.plainAttrs_list PySem.F.slot_list_count PySem.F.type_list_count xt ho (fB he iS (sE h1)) hbase (zf h1) hline (sE h1) rfl).of λσ H Q h=>AK (sE h1) (λθ H M o x xs v y Q=>yR) h
end
end
end DL
namespace DL
open PySem L2
def GY {P:Program}{w:World}{H:Hp}{s:Shared}{e:Value}{s':Shared}(z:iM P w [] H s (λ_ _ _=>False) e s'):False:=by
 obtain⟨_,_,_,_,_,_,_,_,_,_,_,_,_,_,h⟩:=z;exact h
end DL
namespace DL
open PySem PySem.Spec PyProof.Rows L2 List
structure Kc (K:W.Frag)(mg:Str->Option Value)(c:Str)(C:Addr):Prop where
 at_:lJ K c C
 m:mg c=Z (.ref C)
 cl:Jm K C
section
variable {X:Cx}{c f:Str}{C:Addr}{o e value:Expr}{g go gv:GE}{pos pos' apos p:Pos}
def yx (add:Bool)(x y:D)(M:aw):aN D:=match x,y with
 | .int i,.int j=>.ok (.int (if add then i+j else i-j)) M
 | _,_=>.bad
def qY (i:Nat)(add:Bool)(g:GE):GS:=λρ M=>(af i ρ M).bind λx M0=>(g ρ M0).bind λy M1=>(yx add x y M1).bind λz M2=>.ok (.nx (ρ.set i (Z z))) M2
def D6 {i:Nat}{x:Str}{add:Bool}{op:Operator}(hop:op=if add then .Add else .Sub)(hN:X.N.Nodup)(hi:X.N[i]?=Z x)(hx:rH X.env.scope x)(he:PE X e (tE X g))(hf:X.fn x=true\/X.env.scope.names.lookup x=Z .local:=by first|exact .inl rfl|exact .inr rfl|assumption) :
  PS X (.AugAssign (.Name x pos') op e pos) (tS X (qY i add g)):=by
 have ip:Hk X op (HB λi j=>if add then i+j else i-j):=by
  subst hop;cases add with
  | true=>exact Er
  | false=>exact Cs
 refine(zo hN hi hx he ip hf).of λD σ H hxx=>?_
 refine q3x3 hxx λρ θ M hd hw h=>?_;unfold qY af at h;split at h
 ·rename_i d q;refine q1x2 (hd.at_ i d q) λv e1 r=>?_;refine⟨v,e1,?_⟩;have h:bT X θ H D ((g ρ M).bind λy M1=>(yx add d y M1).bind λz M2=>.ok (.nx (ρ.set i (Z z))) M2):=h;refine bo hd hw (bT X θ H D) (λc M' h=>h) (λh=>h) h λy M1 vy θ1 H1 g1 r1 h1=>?_
  cases d with
  | int a=>
   cases y with
   | int b=>exact⟨a,b,r,r1,h1 _ θ1 H1 g1 ((hd.go g1).set (d:=.int (if add then a+b else a-b)) rfl i)⟩
   | _=>exact h1.elim
  | _=>exact h1.elim
 ·exact h.elim
end
end DL
namespace DL
open PySem PySem.Spec PyProof.Rows L2 List
open AutoSeq1 (wpAny_loadPart')
variable{ch:List Addr}
section
variable {X:Cx}{aa:List (Addr×Obj)}{σ:L2.St}{H:Hp}{s:Shared}
def oN {a:Addr}{o:HO}{h':Heap}{t':Nat}(I:L2.Inv X aa σ H s)(hf:∀b∈ch,fV X aa H b)(k:∀b u,b∉ch->s.heap.get? b=Z u->h'.get? b=Z u)
  (hp:s.heap.objs.size<=a) (new:bB X.prog X.w (bu H a o) h' a o):L2.Inv X aa σ (bu H a o) {s with heap:=h',toks:=t'}:=by
 have hn:H a=Y:=I.hok.fresh hp;have ne:∀{b:Addr} {u:HO},H b=Z u->b≠a:=λ{b u} e z=>by rw[z,hn] at e;cases e
 have nch:∀b u,H b=Z u->b∉ch:=λb u e z=>by rw[(hf b z).1] at e;cases e
 refine I.step (g':=s.gens) (d':=s.drawn) (ch:=ch) (λb hb=>⟨(hf b hb).2.2.2.1,(hf b hb).2.1,(hf b hb).2.2.2.2.1,(hf b hb).2.2.2.2.2⟩) (λb u _ _ hc e _=>k b u hc e) (λb u _ _ hc e _=>⟨u.slots,k b u hc e⟩)
  (λb u _ e n=>by rw[aj (Nat.ne_of_lt (Nat.lt_of_lt_of_le (Heap.lt_size e) hp))];exact n) (λb u hc e=>⟨u,k b u hc e⟩) (λb xs e=>by rw[aj (ne e)];exact e) (λb u v e=>by rw[aj (ne e)];exact e)
  (λb ps e=>⟨#[],by rw[aj (ne e),e];simp⟩) (λm hm=>?_) (λb u e=>?_) I.bare
 ·refine q3x2 hm λu es ep ho r=>?_;exact⟨u,es,ep,k _ u (λz=>(hf _ z).2.1 rfl) ho,r⟩
 ·by_cases hb:b=a
  ·subst hb;rw[aX] at e;cases e;exact new
  ·rw[aj hb] at e;refine(I.hok b u e).stay (λc v hc q=>k c v ?_ q) (λc q=>by rw[aj (ne q)];exact q) λc xs q=>by rw[aj (ne q)];exact q
   rcases hc with z|z
   ·rw[z];exact nch b u e
   ·exact nch c _ z
def vY {h':Heap}{t':Nat}(I:L2.Inv X aa σ H s)(hf:∀b∈ch,fV X aa H b)(k:∀b u,b∉ch->s.heap.get? b=Z u->h'.get? b=Z u):L2.Inv X aa σ H {s with heap:=h',toks:=t'}:=by
 have nch:∀b u,H b=Z u->b∉ch:=λb u e z=>by rw[(hf b z).1] at e;cases e
 refine I.step (g':=s.gens) (d':=s.drawn) (ch:=ch) (λb hb=>⟨(hf b hb).2.2.2.1,(hf b hb).2.1,(hf b hb).2.2.2.2.1,(hf b hb).2.2.2.2.2⟩) (λb u _ _ hc e _=>k b u hc e) (λb u _ _ hc e _=>⟨u.slots,k b u hc e⟩)
  (λb u _ e n=>n) (λb u hc e=>⟨u,k b u hc e⟩) (λb xs e=>e) (λb u v e=>e) (λb ps e=>⟨#[],by rw[e];simp⟩) (λm hm=>?_) (λb u e=>?_) I.bare
 ·refine q3x2 hm λu es ep ho r=>?_;exact⟨u,es,ep,k _ u (λz=>(hf _ z).2.1 rfl) ho,r⟩
 ·refine(I.hok b u e).stay (λc v hc q=>k c v ?_ q) (λc q=>q) λc xs q=>q
  rcases hc with z|z
  ·rw[z];exact nch b u e
  ·exact nch c _ z
end
def EY (ds:List D):List D:=(List.range ds.length).zipWith (λ(k:Nat) d=>D.tup [.int (k:Int),d]) ds
end DL
namespace DL
open PySem PySem.Spec PyProof.Rows L2 List
def H0 (K:W.Frag)(a:Addr)(so:Obj)(xs:List V)(ts:List Addr)(bm:Addr)(ob:Obj):Hp:=λb=>
 if b=a then(if K.lookup a=Y then Z (.frz so (.lst xs)) else Y) else if b∈ts then Z (.tbl #[]) else if b=bm then Z (Ig ob) else Y
structure HM (K:W.Frag)(h:Heap)(ts:List Addr)(bm:Addr)(ob:Obj):Prop where
 tab:∀P∈ts,h.get? P=Z (W.tabObj #[])/\isCodeTable h P/\K.lookup P=Y
 names:∀x,x∈bC->∀c P,W.tabIn K x=Z (c,P)->P∈ts
 bmk:W.nsIn K mainGlobals "__builtins__"=Z (Z (.ref bm))
 bmh:h.get? bm=Z ob
 bmc:ob.cls=.type "module"/\ob.dict=Z builtinsNs/\ob.data=.plain
 bmn:bm≠builtinsNs/\bm≠mainGlobals
 bml:K.lookup bm=Y
variable{K:W.Frag}{h:Heap}{a:Addr}
def xJ {so:Obj}{xs:List V}{ts:List Addr}{bm:Addr}{ob:Obj}(L:HM K h ts bm ob)(ha:h.get? a=Z so)(sc:so.cls=.type "list"):iO K (H0 K a so xs ts bm ob):=by
 have neT:∀P∈ts,P≠a:=λP hP e=>by
  have:=(L.tab P hP).1;rw[e,ha] at this;cases this;cases sc
 have neB:bm≠a:=λe=>by
  have:=L.bmh;rw[e,ha] at this;cases this;have:=L.bmc.1;rw[sc] at this;simp at this
 have nBT:bm∉ts:=λhb=>by
  have:=(L.tab bm hb).1;rw[L.bmh] at this;cases this;have:=L.bmc.1;simp at this
 refine⟨λx hx c P e=>?_,λx hx c P e=>⟨bm,ob,L.bmk,?_,L.bmc.1,L.bmc.2.1,L.bmc.2.2,L.bmn⟩⟩
 ·have hP:=L.names x hx c P e;refine⟨#[],?_,by simp[TriplesOk],λpos cv q=>by simp[codeAmong] at q⟩;unfold H0;rw[if_neg (neT P hP),if_pos hP]
 ·unfold H0;rw[if_neg neB,if_neg nBT,if_pos rfl]
variable{x:Str}
def uT {P:Program}{w:World}{mg mb:Str->Option Value}{CX:wo}{k:Nat}{fa:Addr}{fd:FuncData}{sp:Sp}{s₁:Shared}{vs:List Value}{ns:List Int}{ts:List Addr}{bm:Addr}{ob:Obj}
  (KX:K.In s₁.heap) (hns:s₁.heap.Ns mainGlobals mg) (hb:s₁.heap.Ns builtinsNs mb) (hbb:∀x:Str,x≠"__name__"->mb x=bootBuiltins x) (hlim:s₁.heap.NoLimit) (hg:s₁.gens=#[])
  (ha:s₁.heap.get? a=Z {cls:=.type "list",data:=.seq vs.toArray}) (hi:IntsAre vs ns) (hl:ns.length<=sizeLine) (hr:bJ k callerA) (L:HM K s₁.heap ts bm ob)
  (F:∀base:Heap,K.In base->base.Ns mainGlobals mg->fm P w K mg base CX k fa fd [x] sp) (hbind:∀(s:Shared) (u:Value),BindsTo s fd ⟨[u],[]⟩ [(x,u)])
  (hsp:∀H:Hp,iO K H->jt K H a (ns.map V.int)->sp [.ref a] H (λv _=>v=.bl true) λ_ _ _=>False)
  (hCX:∀H e s',CX [] H s₁ (λ_ _ _=>False) e s'->False) :
  codeAny (model P w) callerA (.call (.ref fa) ⟨[.ref a],[]⟩) (λr s'=>r=.ok (.ret (.bool true))/\OldK s₁.heap s'.heap/\s'.os=s₁.os/\AllBare s'.gens) s₁:=by
 have rv:=nC hi;have lenV:=hi.length;have hH:∃H:Hp,H=H0 K a {cls:=.type "list",data:=.seq vs.toArray} (ns.map V.int) ts bm ob:=⟨_,rfl⟩;refine q1x1 hH λH eH=>?_;have tb:iO K H:=by rw[eH];exact xJ L ha rfl
 have at_:∀b u,H b=Z u->(b=a/\K.lookup a=Y/\u=.frz {cls:=.type "list",data:=.seq vs.toArray} (.lst (ns.map V.int)))\/(b≠a/\b∈ts/\u=.tbl #[])\/(b=bm/\u=Ig ob):=λb u e=>by
  rw[eH] at e;unfold H0 at e
  by_cases h1:b=a
  ·rw[if_pos h1] at e
   by_cases h2:K.lookup a=Y
   ·rw[if_pos h2] at e;cases e;exact .inl ⟨h1,h2,rfl⟩
   ·rw[if_neg h2] at e;cases e
  ·rw[if_neg h1] at e
   by_cases h2:b∈ts
   ·rw[if_pos h2] at e;cases e;exact .inr (.inl ⟨h1,h2,rfl⟩)
   ·rw[if_neg h2] at e
    by_cases h3:b=bm
    ·rw[if_pos h3] at e;cases e;exact .inr (.inr ⟨h3,rfl⟩)
    ·rw[if_neg h3] at e;cases e
 have hok:hO P w H s₁.heap:=λb u e=>by
  rcases at_ b u e with⟨h1,_,h3⟩|⟨_,h2,h3⟩|⟨h1,h3⟩
  ·subst h1 h3;exact⟨ha,by rw[length_map];exact hl,vs,_,rv,ha⟩
  ·subst h3;exact(L.tab b h2).1
  ·subst h1 h3;exact⟨L.bmh,trivial,⟨_,L.bmh⟩,λ_ _ _ _=>trivial⟩
 have hS:jt K H a (ns.map V.int):=by
  cases hk:K.lookup a with
  | some o=>
   have e:=KX a o hk;rw[ha] at e;cases e;exact .inr ⟨_,vs.toArray,_,hk,rfl,rfl,rfl,by rw[size_toArray,lenV];exact hl,by simpa using rv⟩
  | none=>exact .inl (.inr ⟨{cls:=.type "list",data:=.seq vs.toArray},by rw[eH];unfold H0;rw[if_pos rfl,if_pos hk]⟩)
 have base_of:∀{b:Addr} {o:Obj},s₁.heap.get? b=Z o->H b=Y->(oP s₁.heap H).get? b=Z o:=λe n=>xT e n
 have noA:∀{b:Addr} {o:Obj} {es:Array DictEntry} {ep:Nat},s₁.heap.get? b=Z o->o.data=.dict es ep->H b=Y:=λ{b o es ep} e d=>by
  cases q:H b with
  | none=>rfl
  | some u=>
   exfalso;rcases at_ b u q with⟨h1,_,_⟩|⟨_,h2,_⟩|⟨h1,_⟩
   ·subst h1;rw[ha] at e;cases e;have d':Data.seq vs.toArray _=Data.dict es ep:=d;cases d'
   ·rw[(L.tab b h2).1] at e;cases e;cases d
   ·subst h1;rw[L.bmh] at e;cases e;rw[L.bmc.2.2] at d;cases d
 have nsK:∀{b:Addr} {m:Str->Option Value},s₁.heap.Ns b m->(oP s₁.heap H).Ns b m:=λ{b m} ⟨o,es,ep,e,d,r⟩=>⟨o,es,ep,base_of e (noA e d),d,r⟩
 have hKb:K.In (oP s₁.heap H):=λb o e=>base_of (KX b o e) (by
  cases q:H b with
  | none=>rfl
  | some u=>
   exfalso;rcases at_ b u q with⟨h1,h2,_⟩|⟨_,h2,_⟩|⟨h1,_⟩
   ·subst h1;rw[h2] at e;cases e
   ·rw[(L.tab b h2).2.2] at e;cases e
   ·subst h1;rw[L.bml] at e;cases e)
 have hM:Mod K mg (oP s₁.heap H):=⟨hKb,nsK hns,⟨mb,nsK hb,hbb⟩,let ⟨mc,h1,h2⟩:=hlim;⟨mc,nsK h1,h2⟩⟩;have e0:Ae P w K mg (oP s₁.heap H) callerA [] s₁ H:=⟨rfl,hM,λb o e=>Bj e,Nat.le_of_eq (uR _ _),trivial,λb hb=>absurd (show b∈([]:List Addr) from hb) (by simp),hok,.of_eq hg⟩;refine codeAny_mono ((F _ hKb (nsK hns)).run callerA [] s₁ H ⟨[.ref a],[]⟩ [.ref a] [.ref a] _ _ hr e0 (hbind s₁ (.ref a)) (.cons rfl .nil) (hsp H tb hS)) λr s' h=>?_
 cases r with
 | error e=>exact(hCX H e s' h).elim
 | ok fl=>
  cases fl with
  | next=>exact False.elim h
  | brk=>exact False.elim h
  | cont=>exact False.elim h
  | ret u=>
   refine q2x6 h λv H' os bare un hok' r' q=>?_;have q':v=.bl true:=q;subst q';obtain rfl:u=Value.bool true:=r';refine⟨rfl,⟨λb o e=>?_,λb o e=>?_⟩,os,bare⟩
   ·cases q:H b with
    | none=>exact .inl (un.keep b o e q (by intro z;exact absurd (show b∈([]:List Addr) from z) (by simp)) (by simp))
    | some u=>
     rcases at_ b u q with⟨h1,_,h3⟩|⟨_,h2,h3⟩|⟨h1,h3⟩
     ·subst h3;have z2:=un.frzs b _ _ q;refine q0x2 (hok b _ q) λe1 _=>?_;refine q0x2 (hok' b _ z2) λe2 _=>?_;rw[e] at e1;cases e1;exact .inl e2
     ·subst h3;refine q1x1 (un.tbls b _ q) λmore z2=>?_;have e1:s₁.heap.get? b=Z {cls:=.none,data:=.fields #[]}:=hok b _ q;have e2:s'.heap.get? b=Z {cls:=.none,data:=.fields (#[]++more)}:=hok' b _ z2;rw[e] at e1;cases e1;exact .inr (.inl ⟨(L.tab b h2).2.1,rfl,#[],more,rfl,e2⟩)
     ·subst h3;have z2:=un.frzs b _ _ q;refine q0x2 (hok b _ q) λe1 _=>?_;refine q0x2 (hok' b _ z2) λe2 _=>?_;rw[e] at e1;cases e1;exact .inl e2
   ·exact un.there b o e (by simp)
def B0 {l:W.OpenLaw}{n k:Nat}{q:Program}{loose:List Str}{XP:(Str->Option Value)->Heap->Prop}{YP:World->Heap->Prop}{d:DefRec}{K:Params->W.Frag}{CX:World->wo}{sp:World->Sp}
  (hn:l.most=Z n) (hn2:n<=sizeLine) (hdf:d.params.defaults=[]) (hr:bJ k callerA)
  (hY:∀(w:World) (h:Heap),YP w h->(K w.params).In h)
  (F:∀(w:World) (mg:Str->Option Value) (fa:Addr) (h:Heap),(K w.params).In h->h.Ns mainGlobals mg->mg d.name=Z (.ref fa)->
   ∃fd:FuncData,(∀(s:Shared) (u:Value),BindsTo s fd ⟨[u],[]⟩ [(x,u)])/\
    ∀base:Heap,(K w.params).In base->base.Ns mainGlobals mg->fm l.prog w (K w.params) mg base (CX w) k fa fd [x] (sp w))
  (tabs:∀w:World,∃(ls:List (Str×DefRec×Addr×Addr)) (bm:Addr),(∀p∈ls,(recsOf q).find? (λe=>e.name==p.1)=Z p.2.1/\W.tabIn (K w.params) p.1=Z (p.2.2.1,p.2.2.2)/\(K w.params).lookup p.2.2.2=Y)/\
   (∀y,y∈bC->W.nsIn (K w.params) mainGlobals y=Z Y\/∃p∈ls,p.1=y)/\W.nsIn (K w.params) mainGlobals "__builtins__"=Z (Z (.ref bm))/\(K w.params).lookup bm=Y)
  (hsp:∀(w:World) (H:Hp) (a:Addr) (ns:List Int),ns.length<=n->iO (K w.params) H->jt (K w.params) H a (ns.map V.int)->sp w [.ref a] H (λv _=>v=.bl true) λ_ _ _=>False)
  (hCX:∀(w:World) (H:Hp) (s:Shared) (e:Value) (s':Shared),CX w [] H s (λ_ _ _=>False) e s'->False) :
  W.WalkO q loose XP YP l.row.toRowW d [] (λf vs=>PySem.call f vs):=by
 refine Att.attach_call hn hdf λw s₀ s₁ mg mb fa o pm cd doc a vs ns G Y ho hd hcd hmg hobj hints hlen hg=>?_
 have KX:=hY w _ Y;refine q1x2 (F w mg fa _ KX G.T.g hmg) λfd hb hF=>?_;refine q2x4 (tabs w) λls bm hls hnm hbm hbl=>?_;refine q2x6 G.T.bmain λbm' ob b1 b2 b3 b4 b5 b6=>?_;have eb:bm'=bm:=by
  have:=W.mg_of KX G.T.g hbm;rw[b1] at this;cases this;rfl
 subst eb;have L:HM (K w.params) s₁.heap (ls.map (·.2.2.2)) bm' ob:=by
  refine⟨λP hP=>?_,λy hy c P e=>?_,hbm,?_,?_,?_,hbl⟩
  ·refine q1x2 (mem_map.mp hP) λp hp zz2=>?_;subst zz2;refine q0x3 (hls p hp) λh1 h2 h3=>?_;refine q0x2 (W.tab_of G.T KX h1 h2) λc1 c2=>?_;exact⟨c2,(c1.tab c2).isCodeTable,h3⟩
  ·rcases hnm y hy with q|⟨p,hp,q⟩
   ·unfold W.tabIn at e;rw[q] at e;cases e
   ·subst q;refine q0x3 (hls p hp) λh1 h2 h3=>?_;rw[h2] at e;cases e;exact mem_map.mpr ⟨p,hp,rfl⟩
  ·exact b3
  ·exact⟨b4,b5,b6⟩
  ·refine⟨b2,λz=>?_⟩;refine q3x3 G.T.g λo' es ep e1 e2 _=>?_;rw[<-z,b3] at e1;cases e1;rw[b6] at e2;cases e2
 exact uT KX G.T.g G.T.b G.T.builtins G.T.nolimit hg hobj hints (Nat.le_trans hlen hn2) hr L hF hb (λH hT hS=>hsp w H a ns hlen hT hS) λH e s'=>hCX w H s₁ e s'
def GQ (q:Addr)(fd:FuncData):HO:=.ext λh=>h.get? q=Z {cls:=.type "function",data:=.func fd}
abbrev nZ (qual:Str)(params:Arguments)(body:Expr)(scope:Scope)(pm cv ctv:Value):FuncData:=W.kla_fn "<lambda>" qual params body scope [] pm cv ctv
variable{P:Program}{w:World}{H:Hp}
def AX {c:Addr}{q:Str}(ok:hO P w H h)(e:H c=Z (qT c q)):h.CodeRec (.ref c) q:=(ok c _ e).1
variable{fd:FuncData}
def Gw {q:Addr}(ok:hO P w H h)(e:H q=Z (GQ q fd)):h.get? q=Z {cls:=.type "function",data:=.func fd}:=(ok q _ e).1
structure qS (K:W.Frag)(x:Str)(c P:Addr):Prop where
 mem:x∈bC
 tab:W.tabIn K x=Z (c,P)
 uniq:∀y,y∈bC->y≠x->∀c2,W.tabIn K y≠Z (c2,P)
 hd:∃o vs file tf flags tg inF text tt,K.lookup c=Z o/\o.cls=.type "code"/\o.data=.fields vs/\vs[11]?=Z (.ref P)/\vs.getD 11 .none=.ref P/\vs.getD 18 .none=.str file tf/\
  vs.getD 7 .none=.int flags tg/\vs.getD 9 .none=.bool inF/\vs.getD 10 .none=.int text tt/\c≠P
def sd {pos:Pos}{a b:Int}{c cv:Value}(l:List Value)(h:TriplesOk l)(e:codeAmong pos (l++[rawInt a,rawInt b,c])=Z cv):codeAmong pos l=Z cv\/cv=c:=by
 fun_induction TriplesOk l with
 | case1=>
  simp only[nil_append,codeAmong,rawInt] at e;split at e
  ·exact .inr (Option.some.inj e).symm
  ·cases e
 | case2 a' t b' u x rest ih=>
  simp only[cons_append,codeAmong] at e ⊢;split at e
  ·rename_i hc;rw[if_pos hc];exact .inl e
  ·rename_i hc;rw[if_neg hc];exact ih h e
 | case3 l h1 h2=>exact h.elim
structure Im (X:Cx)(θ:List Addr)(H:Hp)(M:aw)(qual:Str)(params:Arguments)(body:Expr)(scope:Scope)(u:Value)(H':Hp):Prop where
 ex:∃q c pm ctv,u=.ref q/\H q=Y/\H' q=Z (GQ q (nZ qual params body scope pm (.ref c) ctv))/\H' c=Z (qT c qual)
 go:Go X.K θ H θ H' M
def oz {φ:Heap->Prop}(h1:φ h)(h2:∃o,h.get? a=Z o)(h3:∀h1 h2:Heap,φ h1->(∀o,h1.get? a=Z o->h2.get? a=Z o)->φ h2):bB P w H h a (.ext φ):=⟨h1,h2,h3⟩
variable{θ:List Addr}
def yT {X:Cx}{aa:List (Addr×Obj)}{σ:L2.St}{s:Shared}{M:aw}{c P:Addr}{params:Arguments}{body:Expr}{scope:Scope}{pos:Pos}
  (I:L2.Inv X aa σ H s) (hw:Wr X.K θ H M) (T:qS X.K x c P) (hcode:X.env.code=.ref c) (hglob:X.env.globals=mainGlobals) (hq:X.env.qual++("<lambda>":Str)=cB x)
  (hcl:closureFor scope X.env=pure []) (hd:defaultsOf params X.env=([],[])) :
  wpAny (model X.prog X.w) X.A (eval (.Lambda params body scope pos) X.env) (λu s'=>∃H',L2.Inv X aa σ H' s'/\Im X θ H M (cB x) params body scope u H') X.xe s:=by
 refine q1x3 (hw.tb.tab x T.mem c P T.tab) λps hP hT hC=>?_;obtain⟨bm,ob,b1,b2,b3,b4,b5,b6,b7⟩:=hw.tb.bm x T.mem c P T.tab;have hPo:s.heap.get? P=Z (W.tabObj ps):=I.hok P _ hP;have CH:W.CodeHd s.heap c P:=by
  obtain⟨o,vs,file,tf,flags,tg,inF,text,tt,e,r⟩:=T.hd;exact⟨o,vs,file,tf,flags,tg,inF,text,tt,I.kIn _ _ e,r⟩
 have hbo:s.heap.get? bm=Z ob:=(I.hok bm _ b2).1;have hg:s.heap.Ns mainGlobals X.mg:=I.mod.glob.keeps I.bk;have hmgb:X.mg "__builtins__"=Z (.ref bm):=W.mg_of I.kIn hg b1;have nbP:bm≠P:=λz=>by rw[z,hP] at b2;cases b2
 have hb:s.heap.BuiltinsAt X.mg P:=⟨bm,ob,hmgb,b6,b7,nbP,hbo,b3,b4,b5⟩;have hgP:mainGlobals≠P:=λz=>by
  refine q3x3 hg λo es ep e1 e2 _=>?_;rw[z,hPo] at e1;cases e1;cases e2
 rw[arm_eval_Lambda,hd];refine wpAny_bind (wpAny_evalAll_nil ?_);refine wpAny_bind (wpAny_holding (wpAny_pure ?_));rw[hq];have neP:∀b u,H b=Z u->(∀ps,u≠.tbl ps)->b≠P:=λb u e n z=>by rw[z,hP] at e;cases e;exact n _ rfl
 cases hf:codeAmong pos ps.toList with
 | some cv=>
  refine q1x2 (hC pos cv hf) λc' zz1 hc'=>?_;subst zz1;refine W.kla_makeFunctionHit hcl hglob hg hcode CH hPo hT hf hb λctv h' tk hk hz=>?_
  have nq:H h'.objs.size=Y:=I.hok.fresh hz;have nec:c'≠h'.objs.size:=λz=>by rw[<-z,hc'] at nq;cases nq
  refine⟨bu H h'.objs.size (GQ h'.objs.size _),I.laid (t':=tk) (λb o e=>Heap.get?_push_of_some _ (hk b o e)) hz (oz (Heap.get?_push_size _ rfl) ⟨_,Heap.get?_push_size _ rfl⟩ λh1 h2 e k=>k _ e),⟨_,c',_,ctv,rfl,nq,aX,by rw[aj nec];exact hc'⟩,cJ hw nq⟩
 | none=>
  refine W.kla_makeFunction hcl hglob hg hcode CH hPo hT hf hgP hb λc' ctv h' tk hx hge hlt hrec htab=>?_
  have szle:s.heap.objs.size<=h'.objs.size:=Nat.le_of_lt (Nat.lt_of_le_of_lt hge hlt);have nq:H h'.objs.size=Y:=I.hok.fresh szle;have nc:H c'=Y:=I.hok.fresh hge;have ncq:c'≠h'.objs.size:=Nat.ne_of_lt hlt;have nPc:P≠c':=λz=>by rw[<-z,hP] at nc;cases nc
  have nPq:P≠h'.objs.size:=λz=>by rw[<-z,hP] at nq;cases nq
  let fd:FuncData:=nZ (cB x) params body scope ((X.mg "__name__").getD .none) (.ref c') ctv
  let H':Hp:=bu (bu (bu H P (.tbl (ps++#[rawInt pos.line,rawInt pos.col,.ref c']))) c' (qT c' (cB x))) h'.objs.size (GQ h'.objs.size fd)
  have atq:H' h'.objs.size=Z (GQ h'.objs.size fd):=aX;have atc:H' c'=Z (qT c' (cB x)):=by show bu _ _ _ c'=_;rw[aj ncq,aX]
  have atP:H' P=Z (.tbl (ps++#[rawInt pos.line,rawInt pos.col,.ref c'])):=by show bu _ _ _ P=_;rw[aj nPq,aj nPc,aX]
  have atb:∀b u,H b=Z u->b≠P->H' b=Z u:=λb u e n=>by
   have n1:b≠h'.objs.size:=λz=>by rw[z,nq] at e;cases e
   have n2:b≠c':=λz=>by rw[z,nc] at e;cases e
   show bu _ _ _ b=_;rw[aj n1,aj n2,aj n];exact e
  have kp:∀b o,b≠P->s.heap.get? b=Z o->(h'.push (W.kla_obj "<lambda>" (cB x) params body scope [] ((X.mg "__name__").getD .none) c' ctv)).get? b=Z o:=λb o n e=>Heap.get?_push_of_some _ (hx b o n e)
  have un:Un X.fs [] H H' s.heap (h'.push (W.kla_obj "<lambda>" (cB x) params body scope [] ((X.mg "__name__").getD .none) c' ctv)):=by
   have ne:∀b o,s.heap.get? b=Z o->H b=Y->b≠P:=λb o _ n z=>by rw[z,hP] at n;cases n
   refine⟨λb o e n _ _=>kp b o (ne b o e n) e,λb o e n _ _=>⟨o.slots,kp b o (ne b o e n) e⟩,λb o e n _=>?_,λb o e _=>?_,λb xs e=>atb b _ e (neP b _ e (by intro _ z;cases z)),λb o u e=>atb b _ e (neP b _ e (by intro _ z;cases z)),λb qs e=>?_⟩
   ·have n1:b≠h'.objs.size:=Nat.ne_of_lt (Nat.lt_of_lt_of_le (Heap.lt_size e) szle);have n2:b≠c':=Nat.ne_of_lt (Nat.lt_of_lt_of_le (Heap.lt_size e) hge);show bu _ _ _ b=_;rw[aj n1,aj n2,aj (ne b o e n)];exact n
   ·by_cases hb:b=P
    ·exact⟨_,by rw[hb];exact Heap.get?_push_of_some _ htab⟩
    ·exact⟨o,kp b o hb e⟩
   ·by_cases hb:b=P
    ·subst hb;rw[hP] at e;cases e;exact⟨_,atP⟩
    ·exact⟨#[],by rw[atb b _ e hb];simp⟩
  have hok:hO X.prog X.w H' (h'.push (W.kla_obj "<lambda>" (cB x) params body scope [] ((X.mg "__name__").getD .none) c' ctv)):=λb u e=>by
   by_cases h1:b=h'.objs.size
   ·subst h1;rw[atq] at e;cases e;exact oz (Heap.get?_push_size _ rfl) ⟨_,Heap.get?_push_size _ rfl⟩ λh1 h2 e k=>k _ e
   ·by_cases h2:b=c'
    ·subst h2;rw[atc] at e;cases e;refine oz (hrec.keeps λb o e=>Heap.get?_push_of_some _ e) ?_ λh1 h2 e k=>e.at k
     refine q4x3 hrec λc2 o vs t e1 e2 _=>?_;cases e1;exact⟨o,Heap.get?_push_of_some _ e2⟩
    ·by_cases h3:b=P
     ·subst h3;rw[atP] at e;cases e;exact Heap.get?_push_of_some _ htab
     ·have e:bu (bu (bu H P _) c' _) h'.objs.size _ b=Z u:=e;rw[aj h1,aj h2,aj h3] at e;refine(I.hok b u e).stay (λb' v hb' z=>kp b' v ?_ z) (λb' z=>atb b' _ z (neP b' _ z (by intro _ y;cases y))) λb' xs z=>atb b' _ z (neP b' _ z (by intro _ y;cases y))
      rcases hb' with z|z
      ·rw[z];exact h3
      ·exact neP b' _ z (by intro _ y;cases y)
  refine⟨H',I.un (t':=tk) un hok,⟨h'.objs.size,c',_,ctv,rfl,nq,atq,atc⟩,?_⟩;have gr:Grow θ H θ H':=⟨⟨[],by simp,λ_ z=>by cases z⟩,λb u e _ n=>atb b u e (neP b u e n),λb qs e=>by
   by_cases hb:b=P
   ·rw[hb];exact⟨_,atP⟩
   ·exact⟨qs,atb b _ e hb⟩⟩
  refine⟨gr,hw.len,hw.nd,λi a m h1 h2=>?_,?_,?_⟩
  ·have ok:=hw.at_ i a m h1 h2;refine q1x2 ok.plain λo eo po=>?_;have e:H' a=H a:=by
    rw[eo];exact atb a o eo (neP a o eo (by intro qs z;subst z;cases po))
   exact ok.grow gr e
  ·intro y hy c2 P2 e2;refine q1x3 (hw.tb.tab y hy c2 P2 e2) λqs q1 q2 q3=>?_
   by_cases hPP:P2=P
   ·have hyx:y=x:=by
     refine Classical.byContradiction λz=>?_
     rw[hPP] at e2;exact T.uniq y hy z c2 e2
    subst hyx hPP;rw[hP] at q1;cases q1;refine⟨_,atP,?_,λpos' cv z=>?_⟩
    ·rw[Array.toList_append];exact TriplesOk_snoc _ _ _ _ q2
    ·rw[Array.toList_append] at z;rcases sd _ q2 z with z|z
     ·refine q1x2 (q3 pos' cv z) λc3 e3 e4=>?_;exact⟨c3,e3,atb c3 _ e4 (neP c3 _ e4 (by intro _ y;cases y))⟩
     ·exact⟨c',z,atc⟩
   ·refine⟨qs,atb P2 _ q1 hPP,q2,λpos' cv z=>?_⟩;refine q1x2 (q3 pos' cv z) λc3 e3 e4=>?_;exact⟨c3,e3,atb c3 _ e4 (neP c3 _ e4 (by intro _ y;cases y))⟩
  ·intro y hy c2 P2 e2;refine q2x3 (hw.tb.bm y hy c2 P2 e2) λbm2 ob2 z1 z2 r=>?_;exact⟨bm2,ob2,z1,atb bm2 _ z2 (neP bm2 _ z2 (by intro _ y;cases y)),r⟩
def iY:List D->Option (List Int)
 | []=>Z []
 | .int i::r=>(iY r).map (i::·)
 | _=>Y
def yE:D->Option (List Int)
 | .tup ds=>iY ds
 | _=>Y
theorem qh {K:W.Frag}{θ:List Addr}{H:Hp}:∀{ds:List D} {ks:List Int} {vs:List V},iY ds=Z ks->isDs K θ H ds vs->vs=ks.map V.int
 | [],ks,vs,h,r=>by cases h;exact r
 | d::ds,ks,vs,h,r=>by
  refine q2x3 r λv rr e h1 h2=>?_;cases d with
  | int i=>
   cases q:iY ds with
   | none=>simp[iY,q] at h
   | some l=>
    simp[iY,q] at h;subst h;have h1:v=.int i:=h1;rw[e,h1,qh q h2];rfl
  | _=>cases h
def ym {d:D}{ks:List Int}{v:V}(h:yE d=Z ks)(r:isD K θ H d v):∃a,v=.ref a/\jT K θ H a (ks.map V.int):=by
 cases d with
 | tup ds=>
  refine q2x3 r λa vs e t rs=>?_;have:=qh (show iY ds=Z ks from h) rs;subst this;exact⟨a,e,t⟩
 | _=>cases h
def F3 {mg:Str->Option Value}{base:Heap}{st:Stmt}{f c Pt:Addr}{N ps:List Str}{k n:Nat}{g:GS}(F:Ac K x x st f fd)(hns:W.nsIn K mainGlobals x=Z (Z (.ref f)))(T:qS K x c Pt)(S:eG N ps (aD st))(hn:ps.length=n)
  (hbody:∀(A:Around) (outer:List Env) (s:Shared) (H:Hp) (E:XK),bJ k (A.deeper (envOfC x (aD st) s.heap.objs.size f (.ref c)))->PSs (gQ (iM P w) P w K mg base N x (aD st) f (.ref c) A outer s H E) (bV st) (tS (gQ (iM P w) P w K mg base N x (aD st) f (.ref c) A outer s H E) g)) :
  fm P w K mg base (iM P w) (k+1) f fd ps (rB K n (dF (N.length-n) g)):=by
 refine q9x3 F.ex λoc od kV doc pm an cdv ct osl zz9 lk hcd=>?_;subst zz9;have ec:cdv=.ref c:=by
  have t:=T.tab;unfold W.tabIn at t;rw[hns] at t;dsimp only at t;rw[lk] at t;dsimp only at t;cases cdv with
  | ref c'=>
   dsimp only at t;split at t
   ·split at t
    ·cases t;rfl
    ·cases t
   ·cases t
  | _=>cases t
 subst ec;refine Bo lk hcd S (t9 hn) λA outer s H vs Q E hr h=>⟨_,hbody A outer s H E hr,?_⟩
 refine q3x4 h λθ M ds hl r hw h=>?_;have hv:vs.length=n:=by rw[<-ao r];exact hl
 refine⟨jN (N.length-n) ds,θ,M,by rw[<-hv];exact GH r N,hw,?_⟩;have h:vw K θ H Q E (bQ (g (jN (N.length-n) ds) M)):=h;unfold bQ at h;cases q:g (jN (N.length-n) ds) M with
 | bad=>rw[q] at h;exact h
 | err c M1=>
  rw[q] at h;have h:A0 K θ H E c M1:=h;exact λC θ' H' a s' kC g1 fl=>mB fl (h C θ' H' a kC g1)
 | ok fl M1=>
  rw[q] at h;cases fl with
  | rt d=>exact h
  | nx ρ1=>exact λσ1 θ1 H1 g1 _=>h .non θ1 H1 g1 rfl
  | bk ρ1=>exact h.elim
  | ct ρ1=>exact h.elim
end DL
namespace DL
open PySem PySem.Spec PyProof.Rows L2 List
def yI (A:Around)(s:Shared)(a:Int)(t:Tok)(c:Int)(u:Tok)(prog:Program)(w:World)(E:Value->Shared->Prop)(Q:Value->Shared->Prop)(h:Q (.bool (decide (c<a))) s) :
  wpAny (model prog w) A (richCompare .Gt (.int a t) (.int c u)) Q E s:=(PyProof.Rows.gt_int h:wpAny (model prog w) A (compareOp .Gt (.int a t) (.int c u)) Q E s)
section
open PySem.SeqAt
open PySem.AutoSeq1 (wpAny_loadPart')
open PySem.MeetsSeq PySem.MeetsSeq2 PySem.MeetsSeq3
end
section
variable {X:Cx}{aa:List (Addr×Obj)}{σ:L2.St}
def vh (a:Value):argsOk "max" ⟨[a],[]⟩:=by unfold argsOk;kernel_rfl
end
def Bg {K:W.Frag}{x:Str}{f c P:Addr}{oc occ:Value}{od odc:Option Addr}{fd:FuncData}{sl slc:Array (Option Value)}{vs:Array Value}{file:Str}{tf tg tt:Tok}{flags text:Int}{inF:Bool}
  (hm:x∈bC) (a:W.nsIn K mainGlobals x=Z (Z (.ref f))) (l:K.lookup f=Z ⟨oc,od,.func fd,sl⟩) (ec:fd.code=.ref c) (lc:K.lookup c=Z ⟨occ,odc,.fields vs,slc⟩) (hcc:occ=.type "code")
  (h11:vs[11]?=Z (.ref P)) (h18:vs.getD 18 .none=.str file tf) (h7:vs.getD 7 .none=.int flags tg) (h9:vs.getD 9 .none=.bool inF) (h10:vs.getD 10 .none=.int text tt) (ne:c≠P)
  (un:∀y,y∈bC->y≠x->W.nsIn K mainGlobals y=Z Y\/∃c' P',W.tabIn K y=Z (c',P')/\P'≠P):qS K x c P:=by
 have g11:vs.getD 11 .none=.ref P:=by rw[Array.getD_eq_getD_getElem?,h11];rfl
 refine⟨hm,?_,λy hy nx c2 e=>?_,_,vs,file,tf,flags,tg,inF,text,tt,lc,hcc,rfl,h11,g11,h18,h7,h9,h10,ne⟩
 ·unfold W.tabIn;rw[a];dsimp only;rw[l];dsimp only;rw[ec];dsimp only;rw[lc];dsimp only;rw[h11]
 ·rcases un y hy nx with q|⟨c',P',q,n⟩
  ·unfold W.tabIn at e;rw[q] at e;cases e
  ·rw[q] at e;cases e;exact n rfl
end DL
namespace DL
open PySem PySem.Spec PyProof.Rows L2 List
end DL
namespace DL
open PySem PySem.Spec PyProof.Rows L2 List
section
open Builtin Builtin.Str
end
end DL
namespace DL
open PySem PySem.Spec PyProof.Rows L2 List
section
variable {M:Model}{A:Around}{E:Value->Shared->Prop}{s:Shared}{env:Env}
def BG (M:Model)(A:Around)(E:Value->Shared->Prop)(use:Option (Value->Sem Unit))(Q:Value->Shared->Prop)(acc:Value)(ce:Env)(r:Result)(s':Shared):Prop:=
 match r with
 | .ok f=>compPost M A E use Q acc ce.locals (.ok f) s'
 | .error x=>∃m,s'.heap.Ns ce.locals m/\∀h',Heap.SameBut ce.locals s'.heap h'->wpAny M A (passOn "comprehension.variables-let-go" x ce:Sem Value) (λ_ _=>False) E {s' with heap:=h'}
def rK {e:Expr}{scope:Scope}{pos:Pos}{mk fst:Sem Value}{c0:Comprehension}{cs:List Comprehension}{cl:List (Str×Addr)}{use:Option (Value->Sem Unit)}{Q:Value->Shared->Prop}
  (k1:clausesOf e=c0::cs) (k2:∀x,foldedSetIterable c0.iter env x=pure x) (k3:closureFor scope env=pure cl) (k4:scope.kind=.function) (k5:∀x∈scope.names,x.2=.local->scope.names.lookup x.1=Z .local)
  (go:wpAny M A fst (λx s1=>wpAny M A (pyIter x) (λit s2=>wpAny M A mk (λacc s3=>wpAny M A (newFunctionEnv scope env.globals cl [] env.qual Y .none (Z env)) (λce s4=>
   codeAny M A (.compStart e 0 it acc {ce with scope:=relabel scope env}) (BG M A E use Q acc {ce with scope:=relabel scope env}) s4) E s3) E s2) E s1) E s) :
  wpAny M A (comprehension e scope env pos mk false fst use) Q E s:=by
 unfold comprehension;rw[k3,k1];refine wpAny_bind (wpAny_mono go (λx s1 g1=>?_) λ_ _ z=>z);refine wpAny_bind (wpAny_standAt (wpAny_bind (wpAny_of_eq (k2 x) (wpAny_bind (wpAny_holding (wpAny_mono g1 (λit s2 g2=>?_) λ_ _ z=>z))))));refine wpAny_standIf (wpAny_bind (wpAny_mono g2 (λacc s3 g3=>?_) λ_ _ z=>z));refine wpAny_bind (wpAny_pure (wpAny_bind (wpAny_mono g3 (λce s4 g4=>?_) λ_ _ z=>z)));dsimp only;have loc:∀y∈(scope.names.filter λy=>(y.2==.local||y.2==.cell)&&y.1 != (".0":Str)).reverse,y.2=.local->Env.kindOf {ce with scope:=relabel scope env} y.1=Z .local:=
  λy hy hl=>lookup_relabel_local (k5 y (mem_filter.mp (mem_reverse.mp hy)).1 hl)
 have loc2:∀y∈(scope.names.filter λy=>(y.2==.local||y.2==.cell)&&y.1 != (".0":Str)).reverse.drop 1++(scope.names.filter λy=>(y.2==.local||y.2==.cell)&&y.1 != (".0":Str)).reverse.take 1,
   y.2=.local->Env.kindOf {ce with scope:=relabel scope env} y.1=Z .local:=λy hy hl=>by
  rcases mem_append.mp hy with z|z
  ·exact loc y (mem_of_mem_drop z) hl
  ·exact loc y (mem_of_mem_take z) hl
 refine wpAny_holding (wpAny_bind (wpAny_attempt (wpAny_holding (wpAny_run (codeAny_mono g4 λr s5 g5=>?_)))));cases r with
 | ok f=>
  cases use with
  | none=>
   refine q1x2 g5 λm hn g6=>?_;exact wpAny_bind (wpAny_holding (wpAny_comp_letGo (cenv:={ce with scope:=relabel scope env}) k4 _ s5 m loc hn λh' m' _ sb=>wpAny_pure (g6 h' sb)))
  | some u=>
   refine wpAny_bind (wpAny_rule (wpAny_bind (wpAny_holding (wpAny_mono g5 (λ_ s6 g6=>?_) λ_ _ z=>z))));refine q1x2 g6 λm hn g7=>?_;exact wpAny_bind (wpAny_comp_letGo (cenv:={ce with scope:=relabel scope env}) k4 _ s6 m loc2 hn λh' m' _ sb=>wpAny_pure (g7 h' sb))
 | error x=>
  refine q1x2 g5 λm hn g6=>?_;exact wpAny_bind (wpAny_holding (wpAny_comp_letGo (cenv:={ce with scope:=relabel scope env}) k4 _ s5 m loc hn λh' m' _ sb=>wpAny_mono (g6 h' sb) (λ_ _ z=>z.elim) λ_ _ z=>z))
end
structure QE (X:Cx)(e:Expr)(g:GE):Prop where
 h:PE X e (tE X g)
structure QT (X:Cx)(e:Expr)(g:GT):Prop where
 h:PT X e (tT X g)
structure QW (X:Cx)(e:Expr)(g:GT):Prop where
 h:PW X e (tT X g)
structure QA (X:Cx)(es:List Expr)(g:GA):Prop where
 h:PA X es (tA X g)
structure QS (X:Cx)(st:Stmt)(g:GS):Prop where
 h:PS X st (tS X g)
structure QB (X:Cx)(st:List Stmt)(g:GS):Prop where
 h:PSs X st (tS X g)
structure QI (X:Cx)(tg e:Expr)(g:GI):Prop where
 h:PI X tg e (tI X g)
structure QG (X:Cx)(tg:Expr)(s:GG):Prop where
 h:PG X tg (tG X s)
structure Gz (X:Cx)(tgs:List Expr)(is:List Nat):Prop where
 h:zT X tgs (GR X is)
structure QP (X:Cx)(e:Option Expr)(g:GO):Prop where
 h:PO X e (tO X g)
structure Q2 (X:Cx)(f:Value->Value->Sem Value)(F:F2):Prop where
 h:fN X f (rD X F)
structure QC (X:Cx)(f:Value)(F:FD):Prop where
 h:cG X f (rC X F)
structure Aj (X:Cx)(scope:Scope)(xs:List Str)(R:List Str)(ifs:List Expr)(gc:GT):Prop where
 h:fW X scope xs R ifs gc
structure QO (n:Nat)(sg:GG):Prop where
 h:ot n sg
structure QF (X:Cx)(es:List Expr)(gs:List GE):Prop where
 h:EH X es gs
variable{k:Nat}{op:CmpOp}{f:F2}{gs:List GE}{tg:Expr}{xs:List Str}{is:List Nat}{body:List Stmt}
section
variable {X:Cx}{e a b c o i:Expr}{es rest:List Expr}{x:Str}{p p2 pos pos':Pos}{g ga gb gc go gi ge:GE}{ta tb:GT}{gA:GA}
def Gx:Q2 X (binaryOp .Add) bO:=⟨CU⟩
def Fx:Q2 X (binaryOp .Sub) mM:=⟨Dn⟩
def GL:Q2 X (binaryOp .Mult) dC:=⟨Ek⟩
def Dx:Q2 X (binaryOp .FloorDiv) cM:=⟨zy⟩
def GB:Q2 X (binaryOp .Mod) fF:=⟨Cu⟩
def E4:Q2 X (binaryOp .Pow) m8:=⟨B5⟩
def Iq:Q2 X (compareOp .Lt) qx:=⟨GV⟩
def IV:Q2 X (compareOp .LtE) nO:=⟨Gb⟩
def Iu:Q2 X (compareOp .Gt) vS:=⟨FG⟩
def IL:Q2 X (compareOp .GtE) zY:=⟨G0⟩
def IT (hr:bJ k X.A):Q2 X (compareOp .Eq) (aU false):=⟨Gj hr.units⟩
def HF (hr:bJ k X.A):Q2 X (compareOp .NotEq) (aU true):=⟨FP hr.units⟩
def HX:Q2 X (compareOp .Is) (p9 false):=⟨FU⟩
def HG:Q2 X (compareOp .In) (sD false):=⟨G4⟩
def Fi:QC X (.builtin "len") cK:=⟨Ep⟩
def FO (hc:X.calm=true:=by rfl):QC X (.builtin "min") rQ:=⟨B6 hc⟩
def Gh (hc:X.calm=true:=by rfl):QC X (.builtin "any") wf:=⟨D4 hc⟩
def DH:QC X (.type "list") iN:=⟨AL⟩
def A9:QC X (.type "list") lL:=⟨wU⟩
def zV:QC X (.type "tuple") gL:=⟨yz⟩
def qv (i:Nat){x:Str}{pos:Pos}(hN:X.N[i]?=Z x:=by rfl)(hv:EK X.env.scope x:=by first|exact Or.inl rfl|exact Or.inr (Or.inl rfl)|exact Or.inr (Or.inr rfl))(hd:(x==("__debug__":Str))=false:=by decide)
  (hcd:(x==("__classdict__":Str))=false:=by decide):QE X (.Name x pos) (af i):=⟨vv i hN hv hd hcd⟩
def C1 {i:Int}{j pos}:QE X (.Constant (.int i) j pos) (gC (.int i)):=⟨Cv⟩
def Gy {b j pos}:QE X (.Constant (.bool b) j pos) (gC (.bl b)):=⟨F7⟩
def EC {j pos}:QE X (.Constant .none j pos) (gC .non):=⟨B2⟩
def Dw {x j pos}:QE X (.Constant (.str x) j pos) (gC (.str x)):=⟨Ee⟩
def Fm {op:Operator}(ho:Q2 X (binaryOp op) f)(ha:QE X a ga)(hb:QE X b gb):QE X (.BinOp a op b pos) (g2 f ga gb):=⟨F4 ho.h ha.h hb.h⟩
def B7:CmpOp->Bool
 | .In=>false
 | .NotIn=>false
 | _=>true
def oi {b:Expr}(h:B7 op=true):behindInMarks op b=false:=by
 cases op <;> first|exact El _|(cases h)
def Ci (ho:Q2 X (compareOp op) f)(ha:QE X a ga)(hb:QE X b gb)(hm:B7 op=true:=by rfl):QE X (.Compare a [op] [b] pos) (g2 f ga gb):=⟨Ef ho.h ha.h hb.h (oi hm)⟩
def CJ (ho:Q2 X (compareOp op) f)(ha:QE X a ga)(hb:QE X b gb)(hm:B7 op=true:=by rfl):QT X (.Compare a [op] [b] pos) (aB (g2 f ga gb)):=⟨wY ho.h ha.h hb.h (oi hm)⟩
def Bh (ho:Q2 X (compareOp op) f)(ha:QE X a ga)(hb:QE X b gb)(hm:behindInMarks op b=false:=by with_unfolding_all rfl):QT X (.Compare a [op] [b] pos) (aB (g2 f ga gb)):=⟨wY ho.h ha.h hb.h hm⟩
def Ar (ha:QT X a ta):QW X (.BoolOp .And [a] pos) ta:=⟨zz ha.h⟩
def Cr (ha:QT X a ta):QW X (.BoolOp .Or [a] pos) ta:=⟨Ck ha.h⟩
def Eh (ha:QT X a ta)(hb:QW X (.BoolOp .And (b::rest) pos) tb):QW X (.BoolOp .And (a::b::rest) pos) (dA ta tb):=⟨C5 ha.h hb.h⟩
def FW (ha:QT X a ta)(hb:QW X (.BoolOp .Or (b::rest) pos) tb):QW X (.BoolOp .Or (a::b::rest) pos) (eJ ta tb):=⟨Ff ha.h hb.h⟩
def FZ (h:QW X a ta):QT X a ta:=⟨PW.pt h.h⟩
def Em (h:QT X a ta):QT X (.UnaryOp .Not a pos) (d7 ta):=⟨Cy h.h⟩
def Df (h:QE X a g)(he:∀whole,isTrue a X.env whole=(do let v <-whole;standAt a.pos;holding [v] (truthy v)):=by intro _;rfl):QT X a (gP g):=⟨DZ h.h he⟩
def ED:QA X [] ah:=⟨Dr⟩
theorem Iy {gr:GA}(ha:QE X e g)(hr:QA X es gr)(h:bi e=true:=by rfl):QA X (e::es) (ae g gr):=⟨Ht ha.h hr.h h⟩
def DC {x1}(h:QA X es gA):QE X (.Tuple es x1 pos) (cp gA):=⟨CG h.h⟩
def Dg (h:QA X es gA):QE X (.List es pos) (du gA):=⟨DV h.h⟩
def B9 (h:QA X es gA):QE X (.List es pos) (jp gA):=⟨DW h.h⟩
def DX:QF X [] []:=⟨.nil⟩
def Ic (h:QE X e g)(t:QF X es gs):QF X (e::es) (g::gs):=⟨.cons h.h t.h⟩
def B3 {i:Int}(h:QE X e g)(hi:i=-1:=by rfl):QE X (.FormattedValue e i Y pos) (jl g):=⟨Eb h.h hi⟩
def zZ (h:QF X (a::b::es) gs):QE X (.JoinedStr (a::b::es) pos) (fD gs Str.empty):=⟨Au h.h⟩
def Bf:QP X Y bp:=⟨Aw⟩
def z9 (h:QE X e g):QP X (Z e) (da g):=⟨zH h.h⟩
def yY {lo hi:Option Expr}{gl gh:GO}(he:QE X e g)(hl:QP X lo gl)(hh:QP X hi gh):QE X (.Subscript e (.Slice lo hi Y p2) pos) (m6 g gl gh):=⟨yN he.h hl.h hh.h⟩
def FV (ha:QE X a ga)(hb:QE X b gb)(hs:oU b:=by intro _ _;rfl):QE X (.Subscript a b pos) (g2 aT ga gb):=⟨E9 ha.h hb.h hs⟩
section
variable {apos cpos:Pos}{k n:Nat}{f:Addr}{fd:FuncData}{ps:List Str}{F:FD}{T:String}{id:String}
def wm (ho:QE X o go)(he:QE X e ge)(h1:bi e=true:=by rfl)(hbase:attributeBase o "append" X.env (eval o X.env)=eval o X.env:=by rfl)(hline:(apos.endLine==cpos.line)=true:=by rfl):QE X (.Call (.Attribute o "append" apos) [e] [] cpos) (i4 go ge):=⟨vq ho.h he.h hbase (zf h1) hline (sE h1) rfl⟩
def yl (ho:QE X o go)(he:QE X e ge)(h1:bi e=true:=by rfl)(hbase:attributeBase o "count" X.env (eval o X.env)=eval o X.env:=by rfl)(hline:(apos.endLine==cpos.line)=true:=by rfl):QE X (.Call (.Attribute o "count" apos) [e] [] cpos) (ja fH go ge):=⟨xE ho.h he.h h1 hbase hline⟩
def Fs (Fn:fm X.prog X.w X.K X.mg X.base (iM X.prog X.w) k f fd ps (rB X.K n F))(hr:bJ k X.A)(hg:Gl X x)(hm:X.mg x=Z (.ref f))(hk:W.keepIn X.K (.ref f)=true)(hb:ik X.K fd ps [])(ha:QA X (e::es) gA)
  (hdb:(x==("__debug__":Str))=false:=by decide) (h1:bi e=true:=by rfl) (h2:dB es=true:=by rfl):QE X (.Call (.Name x p) (e::es) [] pos) (ax n F gA):=⟨Gd Fn hr hg hm hk hb ha.h hdb h1 h2⟩
def BD (hc:QC X (.builtin id) F)(hg:Gl X x)(hm:X.mg x=Y)(hv:bootBuiltins x=Z (.builtin id))(ha:QA X (e::es) gA)(hn:x≠"__name__":=by decide)(hdb:(x==("__debug__":Str))=false:=by decide)
  (h1:bi e=true:=by rfl) (h2:dB es=true:=by rfl):QE X (.Call (.Name x p) (e::es) [] pos) (aQ F gA):=⟨Fq hc.h hg hm hv ha.h hn hdb h1 h2⟩
def Gv (hc:QC X (.type T) F)(hg:Gl X x)(hm:X.mg x=Y)(hv:bootBuiltins x=Z (.type T))(ha:QA X (e::es) gA)(hn:x≠"__name__":=by decide)(hdb:(x==("__debug__":Str))=false:=by decide)
  (h1:bi e=true:=by rfl) (h2:dB es=true:=by rfl):QE X (.Call (.Name x p) (e::es) [] pos) (aQ F gA):=⟨G3 hc.h hg hm hv ha.h hn hdb h1 h2⟩
def EZ (hT:ji T)(hv:bootBuiltins x=Z (.type T))(hg:Gl X x)(hm:X.mg x=Y)(hgi:Gl X "isinstance")(hmi:X.mg "isinstance"=Y)(he:QE X e g)
  (h1:bi e=true:=by rfl) (hn:x≠"__name__":=by decide) (hd:(x==("__debug__":Str))=false:=by decide):QE X (.Call (.Name "isinstance" p) [e,.Name x p2] [] pos) (iX T g):=⟨E2 hT hv hg hm hgi hmi he.h h1 hn hd⟩
end
def Gp {tg:Expr}(hg:Gl X "range")(hm:X.mg "range"=Y)(ha:QA X [a] gA)(h1:bi a=true:=by rfl):QI X tg (.Call (.Name "range" p) [a] [] pos) (d8 gA):=⟨Fh hg hm ha.h h1⟩
def CL (h:QE X e g):QI X tg e (aY g):=⟨EB h.h⟩
section
variable {scope:Scope}{R:List Str}{iter elt:Expr}{ifs:List Expr}{gI:GI}{gC:GT}{px:Pos}{mk:List D->aw->aN D}
def vL :Aj X scope xs R [] fo:=⟨xp⟩
def wb (h:∀fp s2 H2 C,QT (ak X scope xs R fp s2 H2 C) c ta):Aj X scope xs R [c] ta:=⟨zk λfp s2 H2 C=>(h fp s2 H2 C).h⟩
def zK (hS:bE scope X.env.kindOf [x] R X.N=true)(hm:mk=aA\/mk=dk)(hi:QI X (.Name x px) iter gI)(hts:Aj X scope [x] R ifs gC)(he:∀fp s H C,QE (ak X scope [x] R fp s H C) elt ge)
  (hc:X.calm=true:=by rfl) (hs:∀x,foldedSetIterable iter X.env x=pure x:=by intro _;rfl):QE X (.ListComp elt [⟨.Name x px,iter,ifs,0⟩] scope pos) (aK gI gC ge mk):=⟨AS hS hc hm hi.h hts.h (λfp s H C=>(he fp s H C).h) hs⟩
def tF {j:Nat}{y:Str}{py spos:Pos}(hS:bE scope X.env.kindOf [x] R X.N=true)(hm:mk=aA\/mk=dk)(hN:X.N.Nodup)(hi:QI X (.Name x px) iter gI)(hts:Aj X scope [x] R ifs gC)(he:∀fp s H C,QE (ak X scope [x] R fp s H C) elt ge)
  (hc:X.calm=true:=by rfl) (hj:X.N[j]?=Z y:=by rfl) (hy:X.env.scope.names.lookup y=Z .local:=by rfl) (hsw:swapsWith (.ListComp elt [⟨.Name x px,iter,ifs,0⟩] scope pos) (Z (.Name y py)) spos.line X.env=pure true:=by rfl)
  (hs:∀x,foldedSetIterable iter X.env x=pure x:=by intro _;rfl):QS X (.Assign [.Name y py] (.ListComp elt [⟨.Name x px,iter,ifs,0⟩] scope pos) spos) (ay j (aK gI gC ge mk)):=⟨rT hS hc hm hi.h hts.h (λfp s H C=>(he fp s H C).h) hN hj hy hsw hs⟩
def B4 (n:Nat)(h:is.all (λi=>decide (i<n))=true:=by rfl):QO n (dn is):=⟨zE h⟩
def nS {fp:List Addr}{s:Shared}{H:Hp}{C:Addr}{y:Str}(hS:bE scope X.env.kindOf xs R X.N=true)(h:y∈xs):(ak X scope xs R fp s H C).env.scope.names.lookup y=Z .local:=lookup_relabel_local ((bj.of hS).own y h)
def Jk {fp:List Addr}{s:Shared}{H:Hp}{C:Addr}{y:Str}(i:Nat)(hS:bE scope X.env.kindOf xs R X.N=true)(hi:(xs++R)[i]?=Z y:=by rfl)(hx:y∈xs:=by simp):QG (ak X scope xs R fp s H C) (.Name y pos) (bP i):=
 ⟨oZ (X:=ak X scope xs R fp s H C) (bj.of hS).nd hi (.inl (nS hS hx)) (.inr (nS hS hx))⟩
def wO {sg:GG}(xs:List Str)(hS:bE scope X.env.kindOf xs R X.N=true)(hm:mk=aA\/mk=dk)(own:QO xs.length sg)(hi:QI X tg iter gI)(hg:∀fp s H C,QG (ak X scope xs R fp s H C) tg sg)(hts:Aj X scope xs R ifs gC)(he:∀fp s H C,QE (ak X scope xs R fp s H C) elt ge)
  (hc:X.calm=true:=by rfl) (hs:∀x,foldedSetIterable iter X.env x=pure x:=by intro _;rfl):QE X (.ListComp elt [⟨tg,iter,ifs,0⟩] scope pos) (cm gI xs.length sg gC ge mk):=⟨pZ hS hc hm hi.h own.h (λfp s H C=>(hg fp s H C).h) hts.h (λfp s H C=>(he fp s H C).h) hs⟩
end
def kI:Expr->Bool
 | .ListComp ..=>false
 | .SetComp ..=>false
 | .DictComp ..=>false
 | _=>true
def kU {t:Option Expr}{l:Nat}{env:Env}(h:kI e=true):swapsWith e t l env=pure false:=by
 cases e <;> first|rfl|exact ff h
section
variable {st:Stmt}{stmts:List Stmt}{t u:GS}
def C9:QB X [] aP:=⟨Cp⟩
def An (h1:QS X st t)(h2:QB X stmts u):QB X (st::stmts) (av t u):=⟨AV h1.h h2.h⟩
def Dz (h1:QS X st t):QB X [st] t:=⟨Ct h1.h⟩
def D7 (i:Nat){x:Str}(hN:X.N.Nodup)(he:QE X e g)(hi:X.N[i]?=Z x:=by rfl)(hx:rH X.env.scope x:=by first|exact Or.inl rfl|exact Or.inr rfl)(hs:kI e=true:=by rfl)(hf:X.fn x=true\/X.env.scope.names.lookup x=Z .local:=by first|exact .inl rfl|exact .inr rfl) :
  QS X (.Assign [.Name x pos'] e pos) (ay i g):=⟨ss i hN he.h hi hx (kU hs) hf⟩
def tW (i:Nat){x:Str}(hN:X.N.Nodup)(he:QE X e g)(hi:X.N[i]?=Z x:=by rfl)(hx:rH X.env.scope x:=by first|exact Or.inl rfl|exact Or.inr rfl)(hs:swapsWith e (Z (.Name x pos')) pos.line X.env=pure false:=by rfl)(hf:X.fn x=true\/X.env.scope.names.lookup x=Z .local:=by first|exact .inl rfl|exact .inr rfl) :
  QS X (.Assign [.Name x pos'] e pos) (ay i g):=⟨ss i hN he.h hi hx hs hf⟩
def DT (he:QE X e g):QS X (.Return (Z e) pos) (bw g):=⟨D8 he.h⟩
def zN (he:QE X e g)(hs:kI e=true:=by rfl):QS X (.Expr e pos) (fz g):=⟨zF he.h (kU hs)⟩
def Fu {a b:List Stmt}{tc:GT}(hc:QT X c tc)(ha:QB X a t)(hb:QB X b u):QS X (.If c a b pos) (dY tc t u):=⟨Gf hc.h ha.h hb.h⟩
def qn (i:Nat){x:Str}(hN:X.N.Nodup)(hi:X.N[i]?=Z x:=by rfl)(hx:rH X.env.scope x:=by first|exact Or.inl rfl|exact Or.inr rfl)(hf:X.fn x=true\/X.env.scope.names.lookup x=Z .local:=by first|exact .inl rfl|exact .inr rfl):QG X (.Name x pos) (bP i):=⟨gg i hN hi hx hf⟩
def Ai:Gz X [] []:=⟨AD⟩
def Ga {i:Nat}(h1:QG X e (bP i))(h2:Gz X es is)(hs:(assignEach (e::es) X.env).map (·.2)=assign e X.env::(assignEach es X.env).map (·.2):=by rfl):Gz X (e::es) (i::is):=⟨xm h1.h h2.h hs⟩
def BS {k n:Nat}(h:Gz X es is)(hc:X.calm=true:=by rfl)(hl:is.length=n:=by rfl)(hn:(assignEach es X.env).length=n:=by rfl)(hst:(assignEach es X.env).findIdx? (·.1)=Y:=by rfl):QG X (.Tuple es k pos) (dn is):=⟨DB hc h.h hl hn hst⟩
def Dv {ip:Pos}(he:QE X e g)(ho:QE X o go)(hi:QE X i gi)
  (ha:∀v,assign (.Subscript o i ip) X.env v=(do
   let ov <-holding [v] (eval o X.env)
   let iv <-holding [v,ov] (eval i X.env)
   standAt ip
   holding [v,ov,iv] (setItem ov iv v)
   release [v,ov,iv] []):=by intro _;rfl)
  (hs:kI e=true:=by rfl) (hw:swappedStores [.Subscript o i ip] e X.env=pure Y:=by rfl):QS X (.Assign [.Subscript o i ip] e pos) (gE go gi g):=⟨Ej he.h ho.h hi.h ha (by unfold swapsWithSole;exact kU hs) hw rfl⟩
def CV {iter:Expr}{gI:GI}{sg:GG}{gB:GS}(hp:PassesOwn (model X.prog X.w) X.A X.env X.xe)(hi:QI X tg iter gI)(hg:QG X tg sg)(hb:QB X body gB)(hc:X.calm=true:=by rfl)(hs:∀x,foldedSetIterable iter X.env x=pure x:=by intro _;rfl) :
  QS X (.For tg iter body [] pos) (gK gI sg gB):=⟨C4 hp hc hi.h hg.h hb.h hs⟩
def yv {tc:GT}{gB:GS}{n:Nat}(hp:PassesOwn (model X.prog X.w) X.A X.env X.xe)(hc:QT X c tc)(hb:QB X body gB):QS X (.While c body [] pos) (iW n tc gB):=⟨xX hp hc.h hb.h⟩
def xf {x:Str}{C:Addr}{np cpos:Pos}(k:Ec X.K X.mg x C)(hg:Gl X x)(he:QE X e g)(hc:X.calm=true:=by rfl)(h1:bi e=true:=by rfl)(hd:(x==("__debug__":Str))=false:=by decide):QS X (.Raise (Z (.Call (.Name x np) [e] [] cpos)) Y pos) (eR x g):=⟨yq k hc hg he.h h1 hd⟩
end
end
variable{x:Str}
section
variable {X:Cx}{c f m:Str}{C:Addr}{o e value:Expr}{es:List Expr}{g go gv:GE}{gA:GA}{pos pos' apos p:Pos}{k n:Nat}{fa:Addr}{fd:FuncData}{ps:List Str}{F:FD}{pl:Sem Bool}
def Es {add:Bool}{op:Operator}(i:Nat)(hN:X.N.Nodup)(hop:op=if add then .Add else .Sub)(he:QE X e g)(hi:X.N[i]?=Z x:=by rfl)(hx:rH X.env.scope x:=by first|exact Or.inl rfl|exact Or.inr rfl)(hf:X.fn x=true\/X.env.scope.names.lookup x=Z .local:=by first|exact .inl rfl|exact .inr rfl) :
  QS X (.AugAssign (.Name x pos') op e pos) (qY i add g):=⟨D6 hop hN hi hx he.h hf⟩
end
structure Mf (K:W.Frag)(C:Addr)(x qual:Str)(st:Stmt)(f:Addr)(fd:FuncData)(ps:List Str):Prop where
 F:Ac K x qual st f fd
 me:Hz K C x f
 b:ik K fd ps []
variable{P:Program}{K:W.Frag}{mg:Str->Option Value}{base:Heap}{fd:FuncData}
theorem FI {w:World}{qual:Str}{st:Stmt}{f:Addr}{N ps:List Str}{n:Nat}{g:GS}(F:Ac K x qual st f fd)(S:eG N ps (aD st))(hn:ps.length=n)
  (hbody:∀(cdv:Value) (A:Around) (outer:List Env) (s:Shared) (H:Hp) (E:XK),bJ k (A.deeper (envOfC qual (aD st) s.heap.objs.size f cdv))->QB (gQ (iM P w) P w K mg base N qual (aD st) f cdv A outer s H E) (bV st) g) :
  fm P w K mg base (iM P w) (k+1) f fd ps (rB K n (dF (N.length-n) g)):=IF F S hn λcdv A outer s H E hr=>(hbody cdv A outer s H E hr).h
def BX {w:World}{st:Stmt}{f c Pt:Addr}{N ps:List Str}{n:Nat}{g:GS}(F:Ac K x x st f fd)(hns:W.nsIn K mainGlobals x=Z (Z (.ref f)))(T:qS K x c Pt)(S:eG N ps (aD st))(hn:ps.length=n)
  (hbody:∀(A:Around) (outer:List Env) (s:Shared) (H:Hp) (E:XK),bJ k (A.deeper (envOfC x (aD st) s.heap.objs.size f (.ref c)))->QB (gQ (iM P w) P w K mg base N x (aD st) f (.ref c) A outer s H E) (bV st) g) :
  fm P w K mg base (iM P w) (k+1) f fd ps (rB K n (dF (N.length-n) g)):=F3 F hns T S hn λA outer s H E hr=>(hbody A outer s H E hr).h
variable{q:Program}{d:DefRec}
def zW {l:W.OpenLaw}{n:Nat}{loose:List Str}{XP:(Str->Option Value)->Heap->Prop}{YP:World->Heap->Prop}{K:Params->W.Frag}{F:FD}
  (hn:l.most=Z n) (hn2:n<=sizeLine) (hdf:d.params.defaults=[]) (hr:bJ k callerA) (hY:∀(w:World) (h:Heap),YP w h->(K w.params).In h)
  (hF:∀(w:World) (mg:Str->Option Value) (fa:Addr) (h:Heap),(K w.params).In h->h.Ns mainGlobals mg->mg d.name=Z (.ref fa)->
   ∃fd:FuncData,(∀(s:Shared) (u:Value),BindsTo s fd ⟨[u],[]⟩ [(x,u)])/\∀base:Heap,(K w.params).In base->base.Ns mainGlobals mg->fm l.prog w (K w.params) mg base (iM l.prog w) k fa fd [x] (rB (K w.params) 1 F))
  (tabs:∀w:World,∃(ls:List (Str×DefRec×Addr×Addr)) (bm:Addr),(∀p∈ls,(recsOf q).find? (λe=>e.name==p.1)=Z p.2.1/\W.tabIn (K w.params) p.1=Z (p.2.2.1,p.2.2.2)/\(K w.params).lookup p.2.2.2=Y)/\
   (∀y,y∈bC->W.nsIn (K w.params) mainGlobals y=Z Y\/∃p∈ls,p.1=y)/\W.nsIn (K w.params) mainGlobals "__builtins__"=Z (Z (.ref bm))/\(K w.params).lookup bm=Y)
  (ht:∀ns:List Int,ns.length<=n->∃M',F [.ro (ns.map D.int)] []=.ok (.bl true) M') :
  W.WalkO q loose XP YP l.row.toRowW d [] (λf vs=>PySem.call f vs):=
 B0 (CX:=λw=>iM l.prog w) (sp:=λw=>rB (K w.params) 1 F) hn hn2 hdf hr hY hF tabs (λw H a ns hl tb hS=>C8 tb hS (ht ns hl)) λw H s e s' z=>GY z
def yu :∀p∈([]:List (Str×DefRec×Addr×Addr)),(recsOf q).find? (λe=>e.name==p.1)=Z p.2.1/\W.tabIn K p.1=Z (p.2.2.1,p.2.2.2)/\K.lookup p.2.2.2=Y:=λ_ h=>by cases h
variable{ls:List (Str×DefRec×Addr×Addr)}
def vQ {c P:Addr}(h1:(recsOf q).find? (λe=>e.name==x)=Z d)(h2:W.tabIn K x=Z (c,P))(h3:K.lookup P=Y)
  (h:∀p∈ls,(recsOf q).find? (λe=>e.name==p.1)=Z p.2.1/\W.tabIn K p.1=Z (p.2.2.1,p.2.2.2)/\K.lookup p.2.2.2=Y) :
  ∀p∈(x,d,c,P)::ls,(recsOf q).find? (λe=>e.name==p.1)=Z p.2.1/\W.tabIn K p.1=Z (p.2.2.1,p.2.2.2)/\K.lookup p.2.2.2=Y:=λp hp=>by
 rcases mem_cons.mp hp with rfl|hp
 ·exact⟨h1,h2,h3⟩
 ·exact h p hp
def pY {φ:Str->Prop}(h1:φ "ink_shown")(h2:φ "table_within")(h3:φ "slots_given")(h4:φ "cast_on_slots"):∀y,y∈bC->φ y:=λy hy=>by
 simp only[bC,mem_cons,not_mem_nil,or_false] at hy;rcases hy with rfl|rfl|rfl|rfl <;> assumption
def As {bm:Addr}(h:∀p∈ls,(recsOf q).find? (λe=>e.name==p.1)=Z p.2.1/\W.tabIn K p.1=Z (p.2.2.1,p.2.2.2)/\K.lookup p.2.2.2=Y)
  (h2:∀y,y∈bC->W.nsIn K mainGlobals y=Z Y\/∃p∈ls,p.1=y) (h3:W.nsIn K mainGlobals "__builtins__"=Z (Z (.ref bm))) (h4:K.lookup bm=Y) :
  ∃(ls:List (Str×DefRec×Addr×Addr)) (bm:Addr),(∀p∈ls,(recsOf q).find? (λe=>e.name==p.1)=Z p.2.1/\W.tabIn K p.1=Z (p.2.2.1,p.2.2.2)/\K.lookup p.2.2.2=Y)/\
   (∀y,y∈bC->W.nsIn K mainGlobals y=Z Y\/∃p∈ls,p.1=y)/\W.nsIn K mainGlobals "__builtins__"=Z (Z (.ref bm))/\K.lookup bm=Y:=⟨ls,bm,h,h2,h3,h4⟩
def B8 {f c P:Addr}{oc occ:Value}{od odc:Option Addr}{sl slc:Array (Option Value)}{vs:Array Value}
  (a:W.nsIn K mainGlobals x=Z (Z (.ref f))) (l:K.lookup f=Z ⟨oc,od,.func fd,sl⟩) (ec:fd.code=.ref c) (lc:K.lookup c=Z ⟨occ,odc,.fields vs,slc⟩) (h11:vs[11]?=Z (.ref P)):W.tabIn K x=Z (c,P):=by
 unfold W.tabIn;rw[a];dsimp only;rw[l];dsimp only;rw[ec];dsimp only;rw[lc];dsimp only;rw[h11]
end DL
namespace PySem
section
variable {prog:Program}{w:World}{K:Type}[DecidableEq K]{knd:HeapKind prog w K}{A:Around}{E:Value->Shared->Prop}{s:Shared}
def hk_setDefault {d a:Addr}{xs:List (K×Addr×Value)}{k:K}{v:Value}{Q:Value->Shared->Prop}(hu:knd.room A)(hkey:knd.is s.heap k a)(hm:s.heap.DictOfH knd d xs)
  (h1:∀p,atKey xs k=Z p->Q p.2 {s with toks:=s.toks+knd.draws k})
  (h2:atKey xs k=Y->∀h',h'.DictOfH knd d (storedH xs k a v)->Heap.SameBut d s.heap h'->Q v {s with heap:=h',toks:=s.toks+knd.draws k})
  (hsz:xs.length<=sizeLine):wpAny (model prog w) A (dictSetDefault d (.ref a) v) Q E s:=by
 refine q3x6 hm λo es ep ho hc hd he his hn=>?_;unfold dictSetDefault
 try with_reducible refine wpAny_holding ?_
 refine wpAny_bind (knd.pyHash hu hkey ?_);refine wpAny_bind (wpAny_dictFind_heap (s:={s with toks:=s.toks+knd.draws k}) hu hkey ho hd he his hn ?_ ?_)
 ·intro hno;have hnot:k∉xs.map (·.1):=not_mem_keys_of_get hno;have none_:=atKey_none_of_get hno;refine wpAny_bind (wpAny_rule ?_);refine wpAny_bind (wpAny_updateDictKeys (hz:=by have e:=size_of_entries he;omega) (s:={s with toks:=s.toks+knd.draws k}) ho hd (wpAny_pure (h2 none_ _ ⟨_,_,ep+1,Heap.get?_update_self _ ho (Obj.isFreed_of_dict (Obj.data_mapDictKeys hd _)),
   hc.mapDictKeys _,Obj.data_mapDictKeys hd _,?_,?_,?_⟩ (Heap.SameBut.update ..))))
  ·rw[storedH_new none_];simp[he,entryOfKey]
  ·rw[storedH_new none_];intro x hx;rcases List.mem_append.mp hx with hx|hx
   ·exact knd.keeps (his x hx) ho hd (Heap.SameBut.update ..)
   ·simp only[List.mem_singleton] at hx;subst hx;exact knd.keeps hkey ho hd (Heap.SameBut.update ..)
  ·rw[storedH_new none_];rw[List.map_append,List.nodup_append];refine⟨hn,by simp,?_⟩;intro x hx y hy;simp only[List.map_cons,List.map_nil,List.mem_singleton] at hy;subst hy;exact λe=>hnot (e▸hx)
 ·intro j p hj;have at_:=atKey_of_get hn hj;refine wpAny_bind (wpAny_dictEntries (s:={s with toks:=s.toks+knd.draws k}) ho hd ?_);rw[entry_at he j,hj];exact wpAny_bind (wpAny_rule (wpAny_pure (h1 _ at_)))
def hk_meets_setdefault (knd:HeapKind prog w K)(d a:Addr)(hd:(d==sysModules)=false)(dflt:Value) :
  MeetsIn prog w (Builtin.«dict.setdefault» ⟨[.ref d,.ref a,dflt],[]⟩) (λA R s=>knd.room A.in1/\∃k xs,knd.is s.heap k a/\s.heap.DictOfH knd d xs/\xs.length<=sizeLine/\
   (∀p,atKey xs k=Z p->R (.ok (.ret p.2)) {s with toks:=s.toks+knd.draws k})/\
   (atKey xs k=Y->∀h',h'.DictOfH knd d (storedH xs k a dflt)->Heap.SameBut d s.heap h'->R (.ok (.ret dflt)) {s with heap:=h',toks:=s.toks+knd.draws k})):=
 .of_wp λA R s hxx=>by
  obtain⟨hu,k,xs,hkey,hm,hz,h1,h2⟩:=hxx;unfold Builtin.«dict.setdefault»;refine wpAny_bind ?_;unfold Builtin.Dict.keyAndDefault;refine wpAny_bind (wpAny_notOrdered_dict hm.typeIs ?_);show wpAny _ _ (pure (d,Value.ref a,Z dflt)) _ _ s;refine wpAny_pure ?_;show wpAny _ _ (if(d==sysModules)=true then _ else(dictSetDefault d (.ref a) dflt >>= _)) _ _ s;rw[if_neg (by rw[hd];exact Bool.false_ne_true)];exact wpAny_bind (hk_setDefault (hsz:=hz) hu hkey hm (λp hp=>wpAny_pure ⟨p.2,rfl,h1 p hp⟩) λhn h' hm' hs'=>wpAny_pure ⟨dflt,rfl,h2 hn h' hm' hs'⟩)
end
end PySem
namespace L2
open PySem PySem.Spec PyProof.Rows List
def Jc (H:Hp)(a:Addr)(y z r:V)(H':Hp):Prop:=
 (rV H a y (Z r)/\H'=H)\/(∃kvs k,H a=Z (.dK kvs)/\y=kV k/\iD kvs k=Y/\kvs.length<sizeLine/\r=z/\H'=bu H a (.dK (kr kvs k z)))\/
 ∃kvs k b,H a=Z (.dT kvs)/\y=.ref b/\H b=Z (.tup (k.map kV))/\iD kvs k=Y/\kvs.length<sizeLine/\r=z/\H'=bu H a (.dT (kr kvs k z))
section
variable {X:Cx}{aa:List (Addr×Obj)}{σ:St}{H H':Hp}{s:Shared}{a:Addr}{y z r:V}{u d:Value}{A:Around}{E:Value->Shared->Prop}
def wI {Q:Value->Shared->Prop}(hu:A.units+1<cLine)(I:Inv X aa σ H s)(g:Jc H a y z r H')(ry:aI y u)(rz:aI z d)(h:∀w' s',Inv X aa σ H' s'->aI r w'->Q w' s') :
  wpAny (model X.prog X.w) A (call (.builtin "dict.setdefault") [.ref a,u,d]) Q E s:=by
 rcases g with⟨g,rfl⟩|⟨kvs,k,e,ey,l,hl,er,rfl⟩|⟨kvs,k,b,e,ey,eb,l,hl,er,rfl⟩
 ·rcases g with⟨kvs,k,e,ey,l⟩|⟨kvs,k,b,e,ey,eb,l⟩
  ·subst ey;obtain⟨z',hd,vs,rel,dd⟩:=rF I.hok e;refine q1x2 (iG.some_of (v:=r) (o:=valueAt vs k) (by rw[l];exact rel.val k)) λw' hw rw'=>?_;refine call_meetsIn PySem.F.slot_dict_setdefault dd.typeIs PySem.F.entry_dict_setdefault (PySem.F.args_dict_setdefault_3 _ _ _) (kt_meets_setdefault (aS X.prog X.w) a (uO ry) hd d) ⟨vs,dd,by rw[<-rel.length];exact z',λv hv=>?_,λhn=>?_⟩
   ·rw[hw] at hv;cases hv;exact h _ _ (I.tok _) rw'
   ·rw[hw] at hn;cases hn
  ·subst ey;cases (show u=Value.ref b from ry);obtain⟨z',hd,xs,rel,dd⟩:=re I.hok e;refine q1x2 (iG.some_of (v:=r) (o:=(atKey xs k).map (·.2)) (by rw[l];exact rel.val k)) λw' hw rw'=>?_;refine q1x2 (Option.map_eq_some_iff.mp hw) λp hp hp2=>?_;refine call_meetsIn PySem.F.slot_dict_setdefault dd.typeIs PySem.F.entry_dict_setdefault (PySem.F.args_dict_setdefault_3 _ _ _) (hk_meets_setdefault (tupleKind (aS X.prog X.w)) a b hd d) ⟨tupleKind_room_in1 hu,k,xs,o4 I.hok eb,dd,by rw[<-Paired.length rel];exact z',λq hq=>?_,λhn=>?_⟩
   ·rw[hp] at hq;cases hq;rw[hp2];exact h _ _ (I.tok _) rw'
   ·rw[hp] at hn;cases hn
 ·subst ey er;obtain⟨z',hd,vs,rel,dd⟩:=Gs I.hok e;have hn:valueAt vs k=Y:=iG.none_of (by rw[<-l];exact rel.val k);have hl':(kr kvs k r).length<=sizeLine:=by have:=j4 kvs k r;omega
  refine call_meetsIn PySem.F.slot_dict_setdefault dd.typeIs PySem.F.entry_dict_setdefault (PySem.F.args_dict_setdefault_3 _ _ _) (kt_meets_setdefault (aS X.prog X.w) a (uO ry) hd d) ⟨vs,dd,by rw[<-rel.length];exact z',λv hv=>?_,λ_ h' dd' hs=>h _ _ ?_ rz⟩
  ·rw[hn] at hv;cases hv
  ·have he:∃q,h'.get? a=Z q:=let ⟨q,_,_,hq,_⟩:=dd';⟨q,hq⟩
   exact tR I (by rw[e];exact True.intro) hs he (Cc hl' hd (rel.put k rz) dd')
 ·subst ey er;cases (show u=Value.ref b from ry);obtain⟨z',hd,xs,rel,dd⟩:=E6 I.hok e;have hn:(atKey xs k).map (·.2)=Y:=iG.none_of (by rw[<-l];exact rel.val k);have hl':(kr kvs k r).length<=sizeLine:=by have:=j4 kvs k r;omega
  refine call_meetsIn PySem.F.slot_dict_setdefault dd.typeIs PySem.F.entry_dict_setdefault (PySem.F.args_dict_setdefault_3 _ _ _) (hk_meets_setdefault (tupleKind (aS X.prog X.w)) a b hd d) ⟨tupleKind_room_in1 hu,k,xs,o4 I.hok eb,dd,by rw[<-Paired.length rel];exact z',λq hq=>?_,λ_ h' dd' hs=>h _ _ ?_ rz⟩
  ·rw[hq] at hn;cases hn
  ·refine q3x6 dd' λq es ep hq h2 h3 h4 _ h5=>?_;refine tR I (by rw[e];exact True.intro) hs ⟨q,hq⟩ ⟨hl',hd,_,(rel.put k eb rz).keeps λc ys ec=>?_,q,es,ep,hq,h2,h3,h4,h5⟩;rw[aj (pO ec e (λz=>nomatch z))];exact ec
end
section
variable {X:Cx}{o e f:Expr}{td ty tx:TE}{apos cpos:Pos}
def FK (td ty tx:TE):TE:=λσ H Q=>td σ H λx H1=>∃a,x=.ref a/\HJ H1 a/\ty σ H1 λy H2=>tx σ H2 λz H3=>∃r H4,Jc H3 a y z r H4/\Q r H4
def sP (hu:X.A.units+1<cLine)(ho:PE X o td)(he:PE X e ty)(hf:PE X f tx)(m:M2 X o "setdefault" apos e f cpos):PE X (.Call (.Attribute o "setdefault" apos) [e,f] [] cpos) (FK td ty tx):=by
 intro aa s σ H Q I h;refine wpAny_Call_method m.base m.few m.line PySem.F.plainAttrs_dict PySem.F.slot_dict_setdefault PySem.F.type_dict_setdefault (bM (ho aa s σ H _ I h) λu s1 hxx=>?_);obtain⟨x,H1,I1,rx,a,ex,d,q1⟩:=hxx;subst ex;obtain rfl:u=Value.ref a:=rx;refine q0x3 (DF I1 d) λt1 t2 _=>?_;refine⟨t1,t2,?_⟩;rw[m.trees];refine Calls.callWith_builtin rfl (Calls.evalArgs_plain (Calls.spliced_cons (bM (he aa s1 σ H1 _ I1 q1) λiv s2 ⟨y,H2,I2,ry,q2⟩=>
  Calls.spliced_cons (bM (hf aa s2 σ H2 _ I2 q2) λfv s3 ⟨z,H3,I3,rz,r,H4,g,q3⟩=>Calls.spliced_nil ?_))))
 exact wI hu I3 g ry rz λw' s4 I4 rw'=>⟨_,H4,I4,rw',q3⟩
end
def sortI (ns:List Int):List Int:=ns.mergeSort λa b=>decide (a<=b)
end L2
namespace DL
open PySem PySem.Spec PyProof.Rows L2 List
def fj:D->Option cr
 | .int i=>Z (.inl i)
 | .str x=>Z (.inr x)
 | _=>Y
def nr:List D->Option (List cr)
 | []=>Z []
 | d::ds=>match fj d,nr ds with
  | some k,Z ks=>Z (k::ks)
  | _,_=>Y
def s9:D->Option (List cr)
 | .tup ds=>nr ds
 | _=>Y
def fg {κ:Type}[DecidableEq κ](kvs:List (κ×D))(k:κ):Option D:=(kvs.find? λkv=>decide (kv.1=k)).map (·.2)
section
variable {K:W.Frag}{θ:List Addr}{H:Hp}
def xi {d:D}{k:cr}{v:V}(e:fj d=Z k)(r:isD K θ H d v):v=kV k:=by
 cases d <;> simp only[fj,Option.some.injEq,reduceCtorEq] at e
 ·subst e;exact r
 ·subst e;exact r
theorem yQ:∀{ds:List D} {ks:List cr} {vs:List V},nr ds=Z ks->isDs K θ H ds vs->vs=ks.map kV
 | [],ks,vs,e,r=>by
  simp only[nr,Option.some.injEq] at e;subst e;exact r
 | d::ds,ks,vs,e,r=>by
  refine q2x3 r λv us e1 r1 r2=>?_;simp only[nr] at e;cases q1:fj d with
  | none=>rw[q1] at e;cases e
  | some k=>
   cases q2:nr ds with
   | none=>rw[q1,q2] at e;cases e
   | some ks'=>
    rw[q1,q2] at e;cases e;rw[e1,xi q1 r1,yQ q2 r2];rfl
def C6 {d:D}{ks:List cr}{v:V}(e:s9 d=Z ks)(r:isD K θ H d v):∃b,v=.ref b/\H b=Z (.tup (ks.map kV))/\b∉θ:=by
 cases d with
 | tup ds=>
  refine q2x3 r λa vs e1 t r1=>?_;rw[yQ e r1] at t;exact⟨a,e1,t.1,t.2⟩
 | _=>cases e
section
variable {κ:Type}[DecidableEq κ]
def wu {p:κ×D}{r:List (κ×D)}{k:κ}(e:p.1=k):fg (p::r) k=Z p.2:=by simp[fg,find?_cons,e]
def wy {p:κ×D}{r:List (κ×D)}{k:κ}(e:¬p.1=k):fg (p::r) k=fg r k:=by simp[fg,find?_cons,e]
theorem jr:∀{fs:List (κ×D)} {vs:List (κ×V)} (k:κ),isKs K θ H fs vs->(∀d,fg fs k=Z d->∃v,iD vs k=Z v/\isD K θ H d v)/\(fg fs k=Y->iD vs k=Y)
 | [],vs,k,r=>by
  have e:vs=[]:=r;subst e;exact⟨λd h=>(by cases h),λ_=>rfl⟩
 | p::fs,vs,k,r=>by
  obtain⟨k0,d0⟩:=p;refine q2x3 r λv us e h1 h2=>?_;subst e
  by_cases q:k0=k
  ·rw[wu (p:=(k0,d0)) q,jk (p:=(k0,v)) q];exact⟨λd h=>(by cases h;exact⟨v,rfl,h1⟩),λh=>(by cases h)⟩
  ·rw[wy (p:=(k0,d0)) q,jg (p:=(k0,v)) q];exact jr k h2
theorem jx {k:κ}{d:D}{v:V}(h:isD K θ H d v):∀{fs:List (κ×D)} {vs:List (κ×V)},isKs K θ H fs vs->isKs K θ H (fs++[(k,d)]) (vs++[(k,v)])
 | [],vs,r=>by
  have e:vs=[]:=r;subst e;exact⟨v,[],rfl,h,rfl⟩
 | (k0,d0)::fs,vs,r=>by
  refine q2x3 r λu us e h1 h2=>?_;subst e;exact⟨u,us++[(k,v)],rfl,h1,jx h h2⟩
theorem fw:∀{fs:List (κ×D)} {vs:List (κ×V)},isKs K θ H fs vs->fs.length=vs.length
 | [],vs,r=>by
  have e:vs=[]:=r;subst e;rfl
 | (k0,d0)::fs,vs,r=>by
  refine q2x3 r λu us e h1 h2=>?_;subst e;rw[length_cons,length_cons,fw h2]
end
end
section
variable {X:Cx}{pos apos cpos:Pos}{o e f:Expr}
def mj:GE:=λ_ M=>.ok (.mr M.length) (M++[.dK []])
def zL:PE X (.Dict [] [] pos) (tE X mj):=xq.of λσ H Q ⟨ρ,θ,M,hd,hw,h⟩ p hp=>by
 have h:aC X θ H Q (.ok (.mr M.length) (M++[.dK []])):=h;exact h _ _ _ (tM hw hp ⟨[],aX,rfl⟩) (qC hw)
def lZ:Option MO->Bool
 | some (.dK _)=>true
 | some (.dT _)=>true
 | _=>false
def eV (i:Nat)(y z:D)(M:aw):aN D:=match M[i]? with
 | some (.dK kvs)=>match fj y with
  | some k=>match fg kvs k with
   | some r=>.ok r M
   | none=>if kvs.length<sizeLine then .ok z (M.set i (.dK (kvs++[(k,z)]))) else .bad
  | none=>.bad
 | some (.dT kvs)=>match s9 y with
  | some k=>match fg kvs k with
   | some r=>.ok r M
   | none=>if kvs.length<sizeLine then .ok z (M.set i (.dT (kvs++[(k,z)]))) else .bad
  | none=>.bad
 | _=>.bad
def d9 (go gy gz:GE):GE:=λρ M=>(go ρ M).bind λo M1=>match o with
 | .mr i=>if lZ M1[i]?=true then(gy ρ M1).bind λy M2=>(gz ρ M2).bind λz M3=>eV i y z M3 else .bad
 | _=>.bad
def uV {K:W.Frag}{θ:List Addr}{H:Hp}{M:aw}{i:Nat}{a:Addr}(hw:Wr K θ H M)(ta:θ[i]?=Z a)(h:lZ M[i]?=true):HJ H a:=by
 cases q:M[i]? with
 | none=>rw[q] at h;cases h
 | some m=>
  cases m with
  | lst _=>rw[q] at h;cases h
  | obj _ _=>rw[q] at h;cases h
  | dK kvs=>refine q1x2 (hw.at_ i a _ ta q) λvs e _=>?_;exact .inl ⟨vs,.inl e⟩
  | dT kvs=>refine q1x2 (hw.at_ i a _ ta q) λvs e _=>?_;exact .inr ⟨vs,.inl e⟩
def uU {go gy gz:GE}(hu:X.A.units+1<cLine)(ho:PE X o (tE X go))(he:PE X e (tE X gy))(hf:PE X f (tE X gz))(m:M2 X o "setdefault" apos e f cpos) :
  PE X (.Call (.Attribute o "setdefault" apos) [e,f] [] cpos) (tE X (d9 go gy gz)):=(sP hu ho he hf m).of λσ H Q hxx=>by
 refine q3x3 hxx λρ θ M hd hw h=>?_;refine bo hd hw (aC X θ H Q) (λc M' h=>h) (λh=>h) h λd M1 v θ1 H1 g1 r1 h1=>?_
 have h2:=aC.go g1 h1;cases d with
 | mr i=>
  have h2:aC X θ1 H1 Q (if lZ M1[i]?=true then(gy ρ M1).bind λy M2=>(gz ρ M2).bind λz M3=>eV i y z M3 else .bad):=h2;refine q1x2 (id r1) λa ea ta=>?_;split at h2
  ·rename_i hD;refine⟨a,ea,uV g1.wr ta hD,?_⟩;refine bo (hd.go g1) g1.wr (aC X θ1 H1 Q) (λc M' h=>h) (λh=>h) h2 λdy M2 vy θ2 H2 g2 r2 h3=>?_
   refine bo ((hd.go g1).go g2) g2.wr (aC X θ2 H2 Q) (λc M' h=>h) (λh=>h) (aC.go g2 h3) λdz M3 vz θ3 H3 g3 r3 h4=>?_
   have h4:=aC.go g3 h4;have ry:isD X.K θ3 H3 dy vy:=r2.go g3;obtain⟨a',ea',ta3⟩:isD X.K θ3 H3 (.mr i) v:=r1.go (g2.trans g3);obtain rfl:a=a':=by rw[ea] at ea';injection ea'
   unfold eV at h4;cases q:M3[i]? with
   | none=>rw[q] at h4;exact h4.elim
   | some mo=>
    cases mo with
    | lst _=>rw[q] at h4;exact h4.elim
    | obj _ _=>rw[q] at h4;exact h4.elim
    | dK kvs=>
     rw[q] at h4;dsimp only at h4;refine q1x2 (g3.wr.at_ i a _ ta3 q) λvs hv ra=>?_;cases qk:fj dy with
     | none=>rw[qk] at h4;exact h4.elim
     | some k=>
      rw[qk] at h4;dsimp only at h4;have ek:=xi qk ry;refine q0x2 (jr k ra) λi1 i2=>?_;cases qg:fg kvs k with
      | some r=>
       rw[qg] at h4;refine q1x2 (i1 r qg) λvr hvr rr=>?_;exact⟨vr,H3,.inl ⟨.inl ⟨vs,k,.inl hv,ek,hvr.symm⟩,rfl⟩,h4 _ _ _ (.refl g3.wr) rr⟩
      | none=>
       rw[qg] at h4;dsimp only at h4;split at h4
       ·rename_i hl;have nv:=i2 qg;refine⟨vz,_,.inr (.inl ⟨vs,k,hv,ek,nv,by rw[<-fw ra];exact hl,rfl,rfl⟩),?_⟩;rw[qj vz nv];have gs:=oM (m:=.dK (kvs++[(k,dz)])) (o:=.dK (vs++[(k,vz)])) g3.wr ta3 ⟨_,aX,fT (kN g3.wr ta3) (jx r3 ra)⟩;exact h4 _ _ _ gs (r3.go gs)
       ·exact h4.elim
    | dT kvs=>
     rw[q] at h4;dsimp only at h4;refine q1x2 (g3.wr.at_ i a _ ta3 q) λvs hv ra=>?_;cases qk:s9 dy with
     | none=>rw[qk] at h4;exact h4.elim
     | some k=>
      rw[qk] at h4;dsimp only at h4;refine q1x3 (C6 qk ry) λb eb hb _=>?_;refine q0x2 (jr k ra) λi1 i2=>?_;cases qg:fg kvs k with
      | some r=>
       rw[qg] at h4;refine q1x2 (i1 r qg) λvr hvr rr=>?_;exact⟨vr,H3,.inl ⟨.inr ⟨vs,k,b,.inl hv,eb,hb,hvr.symm⟩,rfl⟩,h4 _ _ _ (.refl g3.wr) rr⟩
      | none=>
       rw[qg] at h4;dsimp only at h4;split at h4
       ·rename_i hl;have nv:=i2 qg;refine⟨vz,_,.inr (.inr ⟨vs,k,b,hv,eb,hb,nv,by rw[<-fw ra];exact hl,rfl,rfl⟩),?_⟩;rw[qj vz nv];have gs:=oM (m:=.dT (kvs++[(k,dz)])) (o:=.dT (vs++[(k,vz)])) g3.wr ta3 ⟨_,aX,fT (kN g3.wr ta3) (jx r3 ra)⟩;exact h4 _ _ _ gs (r3.go gs)
       ·exact h4.elim
  ·exact h2.elim
 | _=>exact h2.elim
def kn:List D->Option (List Int)
 | []=>Z []
 | .int i::ds=>(kn ds).map (i::·)
 | _::_=>Y
theorem xj {K:W.Frag}{θ:List Addr}{H:Hp}:∀{ds:List D} {ns:List Int} {vs:List V},kn ds=Z ns->isDs K θ H ds vs->vs=ns.map V.int
 | [],ns,vs,e,r=>by
  simp only[kn,Option.some.injEq] at e;subst e;exact r
 | d::ds,ns,vs,e,r=>by
  refine q2x3 r λv us e1 r1 r2=>?_;cases d with
  | int i=>
   simp only[kn] at e;refine q1x2 (Option.map_eq_some_iff.mp e) λms e2 e3=>?_;subst e3;rw[e1,xj e2 r2,show v=V.int i from r1];rfl
  | _=>cases e
theorem fM {K:W.Frag}{θ:List Addr}{H:Hp}:∀ns:List Int,isDs K θ H (ns.map D.int) (ns.map V.int)
 | []=>rfl
 | n::ns=>⟨_,_,rfl,rfl,fM ns⟩
def Jg:FD:=λds M=>match ds with
 | [d]=>match mE d M with
  | some xs=>match kn xs with
   | some ns=>if ns.length<64 then .ok (.lst ((sortI ns).map D.int)) M else .bad
   | none=>.bad
  | none=>.bad
 | _=>.bad
end
section
variable {X:Cx}{pos apos cpos:Pos}{o e f:Expr}{go gy gz:GE}
def zA:QE X (.Dict [] [] pos) mj:=⟨zL⟩
def vn {k:Nat}(hr:bJ k X.A)(ho:QE X o go)(he:QE X e gy)(hf:QE X f gz)
  (base:attributeBase o "setdefault" X.env (eval o X.env)=eval o X.env:=by rfl)
  (few:((backTo cpos (starEach [e,f] X.env)).all (λx=>!x.1)&&(backToKw cpos (keywordEach [] X.env)).all (λx=>x.1.isSome)
   && decide (([e,f]:List Expr).length+([]:List Keyword).length+(if([]:List Keyword).isEmpty then 0 else 1)<30))=true:=by rfl)
  (line:(apos.endLine==cpos.line)=true:=by rfl) (trees:backTo cpos (starEach [e,f] X.env)=[(false,eval e X.env),(false,eval f X.env)]:=by rfl) :
  QE X (.Call (.Attribute o "setdefault" apos) [e,f] [] cpos) (d9 go gy gz):=⟨uU (BA hr) ho.h he.h hf.h ⟨base,few,line,trees⟩⟩
end
end DL
namespace L2
open PySem PySem.Spec PyProof.Rows List
def m9:seqSlot? (.type "list") (dunderI "add")=pure (Z (.builtin "list.__iadd__")):=PySem.seqSlot_of PySem.F.slot_list_iadd.lookup (by decide +kernel)
def jE:fillsInplaceSlot (.type "list") "add" (Operator.Add==.Add)=pure false:=by
 unfold fillsInplaceSlot;show(typeLookup (.type "list") (dunderI "add") >>= λfi=>pure (fi.isSome&&!isSeqSlot fi))=pure false;have e:isSeqSlot (Z (Value.builtin "list.__iadd__"))=true:=by decide +kernel
 rw[PySem.F.slot_list_iadd.lookup,pure_bind,e];rfl
section
variable {X:Cx}
def oT {M:Model}{A:Around}{E:Value->Shared->Prop}{s:Shared}{a b:Value}{Q:Value->Shared->Prop}(ha:s.TypeIs a "list")(hb:s.TypeIs b "list")
  (hc:wpAny M A (call (.builtin "list.__iadd__") [a,b]) Q E s):wpAny M A (inplaceOp .Add a b) Q E s:=by
 unfold inplaceOp;refine wpAny_holding ?_;refine wpAny_bind (wpAny_typeOf ha (wpAny_bind (wpAny_of_eq jE ?_)));show wpAny M A (if false=true then _ else _) Q E s;rw[if_neg Bool.false_ne_true];refine wpAny_bind (wpAny_binaryOp1_none (nm:="add") ha hb PySem.noFill_list_add ?_);refine wpAny_bind (wpAny_of_eq m9 ?_);exact wpAny_bind (wpAny_rule hc)
def Gr:V->V->Hp->VK->Prop:=λx y H Q=>(∃i j,x=.int i/\y=.int j/\Q (.int (i+j)) H)\/
 ∃l b xs zs,x=.ref l/\y=.ref b/\H l=Z (.lst xs)/\H b=Z (.lst zs)/\xs.length+zs.length<=sizeLine/\Q (.ref l) (bu H l (.lst (xs++zs)))
def tK:CO X .Add Gr:=by
 intro aa s σ H x y u v Q I rx ry h;rcases h with⟨i,j,e1,e2,q⟩|⟨l,b,xs,zs,rfl,rfl,hH,hB,hz,q⟩
 ·exact Co aa s σ H x y u v Q I rx ry ⟨i,j,e1,e2,q⟩
 ·cases rx;cases ry;obtain⟨z,its,n,r,hl,e⟩:=I.lstM hH;obtain⟨z2,its2,n2,r2,hl2,e2⟩:=I.lstM hB;have hsz:its.toArray.size+its2.toArray.size<=sizeLine:=by rw[size_toArray,size_toArray];omega
  have hlong:¬(!its.toArray.isEmpty&&Builtin.List.listTooLong (its.toArray.size+its2.toArray.size))=true:=by
   rw[yK hsz,Bool.and_false];exact Bool.false_ne_true
  refine oT ⟨_,e,rfl⟩ ⟨_,e2,rfl⟩ (call_meets PySem.F.slot_list_iadd ⟨_,e,rfl⟩ PySem.F.entry_list_iadd (PySem.F.args_list_iadd_2 _ _)
   (AutoSeq1.list___iadd___list_list_0 l its.toArray n b its2.toArray n2 hlong (by rw[size_toArray];omega) (by omega)) ⟨e,e2,?_⟩)
  refine⟨.ref l,_,I.lset (its':=its++its2) hH e (by simp) (r.append r2) ?_,rfl,q⟩;rw[length_append];omega
end
end L2
namespace DL
open PySem PySem.Spec PyProof.Rows L2 List
section
variable {X:Cx}{c f:Str}{C:Addr}{o value:Expr}{go gv:GE}{pos pos' tpos:Pos}
def sU (x y:D)(M:aw):aN D:=match x with
 | .int i=>match y with
  | .int j=>.ok (.int (i+j)) M
  | _=>.bad
 | .mr k=>match M[k]? with
  | some (.lst xs)=>match mE y M with
   | some ys=>if xs.length+ys.length<=sizeLine then .ok (.mr k) (M.set k (.lst (xs++ys))) else .bad
   | none=>.bad
  | _=>.bad
 | _=>.bad
def IM (X:Cx):V->V->Hp->VK->Prop:=λx y H Q=>∃θ M dx dy,Wr X.K θ H M/\isD X.K θ H dx x/\isD X.K θ H dy y/\aC X θ H Q (sU dx dy M)
def CF:CO X .Add (IM X):=by
 intro aa s σ H x y u v Q I rx ry ⟨θ,M,dx,dy,hw,r1,r2,h⟩;unfold sU at h;cases dx with
 | int i=>
  cases dy with
  | int j=>exact tK aa s σ H x y u v Q I rx ry (.inl ⟨i,j,r1,r2,h _ θ H (.refl hw) rfl⟩)
  | _=>exact h.elim
 | mr k=>
  dsimp only at h;cases q:M[k]? with
  | none=>rw[q] at h;exact h.elim
  | some m=>
   cases m with
   | obj _ _=>rw[q] at h;exact h.elim
   | dK _=>rw[q] at h;exact h.elim
   | dT _=>rw[q] at h;exact h.elim
   | lst xs=>
    rw[q] at h;dsimp only at h;cases q2:mE dy M with
    | none=>rw[q2] at h;exact h.elim
    | some ys=>
     rw[q2] at h;dsimp only at h;split at h
     ·rename_i hl;refine q1x2 r1 λa ea ta=>?_;refine q1x2 (hw.at_ k a _ ta q) λvs hv ra=>?_;refine q2x3 (xP hw r2 q2) λb ws eb tb rb=>?_;have gs:=sT (ds:=xs) hw ta (cZ ra rb);exact tK aa s σ H x y u v Q I rx ry (.inr ⟨a,b,vs,ws,ea,eb,hv,tb,by rw[<-ao ra,<-ao rb];exact hl,h _ _ _ gs ⟨a,rfl,ta⟩⟩)
     ·exact h.elim
 | _=>exact h.elim
end
end DL
namespace L2
open PySem PySem.Spec PyProof.Rows List
end L2
namespace DL
open PySem PySem.Spec PyProof.Rows L2 List
def gO {N ps:List Str}{sc:Scope}(h1:sc.kind=.function:=by rfl)(h2:sc.isCoroutine=false:=by rfl)(h3:sc.isGenerator=false:=by rfl)(h4:N.Nodup:=by decide +kernel)(h5:N.take ps.length=ps:=by rfl)
  (h6:∀x∈ps,sc.names.lookup x=Z .local\/sc.names.lookup x=Z .cell:=by decide +kernel) (h7:∀y∈sc.names,y.2≠.free:=by decide +kernel):eG N ps sc:=⟨h1,h2,h3,h4,h5,h6,h7⟩
section
variable {X:Cx}{e:Expr}{es:List Expr}{x:Str}{p pos:Pos}{gA:GA}{k k' n:Nat}{f:Addr}{fd:FuncData}{ps:List Str}{F:FD}{st:Stmt}{id:String}{T:String}
def Br (hc:QC X (.builtin id) F)(hm:X.mg x=Y)(hv:bootBuiltins x=Z (.builtin id))(ha:QA X (e::es) gA)(hg:Gl X x:=by rfl)(hn:x≠"__name__":=by decide)(hdb:(x==("__debug__":Str))=false:=by decide)
  (h1:bi e=true:=by rfl) (h2:dB es=true:=by rfl):QE X (.Call (.Name x p) (e::es) [] pos) (aQ F gA):=BD hc hg hm hv ha hn hdb h1 h2
end
def FF (K:W.Frag)(mg:Str->Option Value)(x:Str)(st:Stmt)(ps:List Str):Prop:=∃f fd,Fn K mg x st f fd ps
def KC (K:W.Frag)(mg:Str->Option Value)(c:Str)(C:Addr):Prop:=Kc K mg c C/\W.makesIn K C=true/\W.keepIn K (.ref C)=true
def MF (K:W.Frag)(mg:Str->Option Value)(c m q:Str)(st:Stmt)(ps:List Str):Prop:=∃C f fd,KC K mg c C/\Mf K C m q st f fd ps
def LF (K:W.Frag)(mg:Str->Option Value)(x:Str)(st:Stmt)(ps:List Str):Prop:=∃f fd c P,Fn K mg x st f fd ps/\W.nsIn K mainGlobals x=Z (Z (.ref f))/\qS K x c P
def NA (K:W.Frag)(mg:Str->Option Value)(c f:Str):Prop:=∃C,KC K mg c C/\EA K C f
def EX (K:W.Frag)(mg:Str->Option Value)(x:Str):Prop:=∃C,Ec K mg x C
def IX (K:W.Frag)(mg:Str->Option Value)(x:Str)(tab:List (Str×Bool)):Prop:=∃G,Ec K mg x G/\∀p∈tab,∃C,Ec K mg p.1 C/\W.mroIn K C (.ref G)=Z p.2
def IB (K:W.Frag)(mg:Str->Option Value)(x:String)(tab:List (Str×Bool)):Prop:=∀p∈tab,∃C,Ec K mg p.1 C/\W.mroIn K C (.type x)=Z p.2
def Ls {α:Type}(P:α->Prop)(l:List α):Prop:=∀t∈l,P t
section
variable {α β γ:Type}{P:α->Prop}{l:List α}{a:α}
def Ls.nil:Ls P []:=λ_ h=>by cases h
def Ls.cons (h:P a)(t:Ls P l):Ls P (a::l):=λx hx=>by
 rcases mem_cons.mp hx with e|e
 ·rw[e];exact h
 ·exact t x e
end
structure RN (l c:Nat)(xs R:List Str):Prop
def rn (l c:Nat)(xs R:List Str):RN l c xs R:=⟨⟩
def Ok (P:Program)(w:World)(K:W.Frag)(mg:Str->Option Value)(base:Heap)(x:Str)(k n:Nat)(F:FD):Prop:=
 ∃f fd ps,fm P w K mg base (iM P w) k f fd ps (rB K n F)/\mg x=Z (.ref f)/\W.keepIn K (.ref f)=true/\ik K fd ps []
section
variable {P:Program}{w:World}{K:W.Frag}{mg:Str->Option Value}{base:Heap}{x c m q:Str}{st:Stmt}{N ps:List Str}{k n:Nat}{g:GS}{F:FD}
def jy (h:Ok P w K mg base x k n F):Ok P w K mg base x k n λds M=>fq M.length (F ds M):=by
 refine q3x4 h λf fd ps h1 h2 h3 h4=>?_;exact⟨f,fd,ps,DR h1,h2,h3,h4⟩
def ni (T:FF K mg x st ps)(N:List Str)(S:eG N ps (aD st))(hn:ps.length=n)
  (hb:∀(f:Addr) (cdv:Value) (A:Around) (outer:List Env) (s:Shared) (H:Hp) (E:XK),N.Nodup->bJ k (A.deeper (envOfC x (aD st) s.heap.objs.size f cdv))->QB (gQ (iM P w) P w K mg base N x (aD st) f cdv A outer s H E) (bV st) g) :
  Ok P w K mg base x (k+1) n (dF (N.length-n) g):=by
 refine q2x1 T λf fd T=>?_;exact⟨f,fd,ps,FI T.F S hn λcdv A outer s H E hr=>hb f cdv A outer s H E S.nd hr,T.m,T.F.kp,T.b⟩
def Il (T:LF K mg x st ps)(N:List Str)(S:eG N ps (aD st))(hn:ps.length=n)
  (hb:∀(f c Pt:Addr) (A:Around) (outer:List Env) (s:Shared) (H:Hp) (E:XK),N.Nodup->qS K x c Pt->bJ k (A.deeper (envOfC x (aD st) s.heap.objs.size f (.ref c)))->QB (gQ (iM P w) P w K mg base N x (aD st) f (.ref c) A outer s H E) (bV st) g) :
  Ok P w K mg base x (k+1) n (dF (N.length-n) g):=by
 refine q4x3 T λf fd c Pt T hns tb=>?_;exact⟨f,fd,ps,BX T.F hns tb S hn λA outer s H E hr=>hb f c Pt A outer s H E S.nd tb hr,T.m,T.F.kp,T.b⟩
end
section
variable {X:Cx}{e a o value:Expr}{es:List Expr}{x c m f:Str}{p p2 pos apos pos':Pos}{gA:GA}{g go gv:GE}{k k' n:Nat}{F:FD}{tab:List (Str×Bool)}{bs:List Str}
def E3 (h:Ok X.prog X.w X.K X.mg X.base x k n F)(hr:bJ k' X.A)(ha:QA X (e::es) gA)(hk:k<=k':=by first|decide|omega)(hg:Gl X x:=by rfl)
  (hdb:(x==("__debug__":Str))=false:=by decide) (h1:bi e=true:=by rfl) (h2:dB es=true:=by rfl):QE X (.Call (.Name x p) (e::es) [] pos) (ax n F gA):=by
 refine q3x4 h λf fd ps h1' h2' h3 h4=>?_;exact Fs h1' (hr.mono hk) hg h2' h3 h4 ha hdb h1 h2
def vm {np cpos:Pos}(h:EX X.K X.mg x)(he:QE X e g)(hg:Gl X x:=by rfl)(hc:X.calm=true:=by rfl)(h1:bi e=true:=by rfl)(hd:(x==("__debug__":Str))=false:=by decide):QS X (.Raise (Z (.Call (.Name x np) [e] [] cpos)) Y pos) (eR x g):=by
 refine q1x1 h λC h=>?_;exact xf h hg he hc h1 hd
end
section
variable {X:Cx}{x:Str}{pos px:Pos}{ge:GE}{scope:Scope}{xs R:List Str}{iter elt tg:Expr}{ifs:List Expr}{gI:GI}{gC:GT}{sg:GG}{mk:List D->aw->aN D}{j:Nat}{y:Str}{py spos:Pos}{n:Nat}
def yZ (hS:bE scope X.env.kindOf [x] X.N X.N=true)(hm:mk=aA\/mk=dk)(hi:QI X (.Name x px) iter gI)(hts:Aj X scope [x] X.N ifs gC)(he:∀fp s H C,QE (ak X scope [x] X.N fp s H C) elt ge)
  (hc:X.calm=true:=by rfl) (hs:∀x,foldedSetIterable iter X.env x=pure x:=by intro _;rfl):QE X (.ListComp elt [⟨.Name x px,iter,ifs,0⟩] scope pos) (aK gI gC ge mk):=zK hS hm hi hts he hc hs
def rq (hS:bE scope X.env.kindOf [x] X.N X.N=true)(hm:mk=aA\/mk=dk)(hN:X.N.Nodup)(hi:QI X (.Name x px) iter gI)(hts:Aj X scope [x] X.N ifs gC)(he:∀fp s H C,QE (ak X scope [x] X.N fp s H C) elt ge)
  (hc:X.calm=true:=by rfl) (hj:X.N[j]?=Z y:=by rfl) (hy:X.env.scope.names.lookup y=Z .local:=by rfl) (hsw:swapsWith (.ListComp elt [⟨.Name x px,iter,ifs,0⟩] scope pos) (Z (.Name y py)) spos.line X.env=pure true:=by rfl)
  (hs:∀x,foldedSetIterable iter X.env x=pure x:=by intro _;rfl):QS X (.Assign [.Name y py] (.ListComp elt [⟨.Name x px,iter,ifs,0⟩] scope pos) spos) (ay j (aK gI gC ge mk)):=tF hS hm hN hi hts he hc hj hy hsw hs
def vV (_:RN pos.line pos.col xs R)(hS:bE scope X.env.kindOf xs R X.N=true)(hm:mk=aA\/mk=dk)(own:QO xs.length sg)(hi:QI X tg iter gI)(hg:∀fp s H C,QG (ak X scope xs R fp s H C) tg sg)(hts:Aj X scope xs R ifs gC)(he:∀fp s H C,QE (ak X scope xs R fp s H C) elt ge)
  (hn:xs.length=n:=by rfl) (hc:X.calm=true:=by rfl) (hs:∀x,foldedSetIterable iter X.env x=pure x:=by intro _;rfl):QE X (.ListComp elt [⟨tg,iter,ifs,0⟩] scope pos) (cm gI n sg gC ge mk):=hn▸wO xs hS hm own hi hg hts he hc hs
end
structure Tx (tab:List (Str×Stmt×List Str))(mtab:List (Str×Str×Str×Stmt×List Str))(ls:List (Str×Stmt×List Str))(zs es:List Str)(rs:List (Str×List (Str×Bool)))(vt:List (Str×Bool))(nas:List (Str×Str))(cs:List (Str×Str))(ci:List (Str×Int))
  (P:Program) (w:World) (K:W.Frag) (mg:Str->Option Value) (base:Heap):Prop where
 f:Ls (λt=>FF K mg t.1 t.2.1 t.2.2) tab
 m:Ls (λt=>MF K mg t.1 t.2.1 t.2.2.1 t.2.2.2.1 t.2.2.2.2) mtab
 l:Ls (λt=>LF K mg t.1 t.2.1 t.2.2) ls
 z:∀x∈zs,mg x=Y
 e:∀x∈es,EX K mg x
 r:Ls (λt=>IX K mg t.1 t.2) rs
 b:IB K mg "ValueError" vt
 a:∀t∈nas,NA K mg t.1 t.2
 s:Ls (λt=>∃tk,mg t.1=Z (.str t.2 tk)) cs
 i:Ls (λt=>∃tk,mg t.1=Z (.int t.2 tk)) ci
section
variable {K:W.Frag}{mg:Str->Option Value}{x c m q:Str}{st:Stmt}{ps:List Str}{l:List (Str×Stmt×List Str)}{l':List (Str×Str×Str×Stmt×List Str)}
def m7 (h:Ls (λt=>FF K mg t.1 t.2.1 t.2.2) l)(i:Nat)(e:l[i]?=Z (x,st,ps):=by rfl):FF K mg x st ps:=h _ (mem_of_getElem? e)
def HW (h:Ls (λt=>LF K mg t.1 t.2.1 t.2.2) l)(i:Nat)(e:l[i]?=Z (x,st,ps):=by rfl):LF K mg x st ps:=h _ (mem_of_getElem? e)
end
section
variable {K:W.Frag}{h:Heap}{mg:Str->Option Value}{x c m q f':Str}{st:Stmt}{ps:List Str}{f C G:Addr}{oc kV dc pm cd ct:Value}{od an:Option Addr}{sl:Array (Option Value)}
def FL (X:K.In h)(Gm:h.Ns mainGlobals mg)(a:W.nsIn K mainGlobals x=Z (Z (.ref f)))(l:K.lookup f=Z ⟨oc,od,.func (W.fnOf x x (eC st) (bV st) (aD st) .none kV dc pm an cd ct),sl⟩)(c:W.codeIn K cd x=true)(k:W.keepIn K (.ref f)=true)
  (b:∀(kV doc pm:Value) (an:Option Addr) (cdv ct:Value) (us:List Value),us.length=ps.length->bindArgs (W.fnOf x x (eC st) (bV st) (aD st) .none kV doc pm an cdv ct) ⟨us,[]⟩=pure (ps.zip us)):FF K mg x st ps:=
 ⟨f,_,o9 (st:=st) l c k,W.mg_of X Gm a,(o9 (st:=st) l c k).binds b⟩
def Gu (kC:KC K mg c C)(a:W.findIn K (.ref C) f'=Z Y):NA K mg c f':=⟨C,kC,a⟩
def Fc (X:K.In h)(Gm:h.Ns mainGlobals mg)(q:W.nsIn K mainGlobals x=Z (Z (.ref C)))(cl:W.isClsIn K C=true)(ca:W.findIn K (.ref C) "__class__"=Z (Z (.builtin "object.__class__")))(sp:W.specialIn K (.builtin "object.__class__") "__get__"=Z (Z (.builtin "getset_descriptor.__get__")))(tk:W.takesIn K (.builtin "object.__class__")=Z true)
  (ob:W.mroIn K C (.type "object")=Z true) (ga:W.findIn K (.ref C) "__getattribute__"=Z (Z (.builtin "BaseException.__getattribute__"))) (gh:W.findIn K (.ref C) "__getattr__"=Z Y) (be:W.mroIn K C (.type "BaseException")=Z true)
  (ex:W.excIn K C Fz "ValueError.__new__"=true) (ty:W.typeIn K (.ref C)=Z (.type "type")) (sf:W.mroIn K C (.ref C)=Z true):Ec K mg x C:=⟨q,W.mg_of X Gm q,⟨cl,ca,sp,tk,ob,ga,gh,be⟩,ex,ty,sf⟩
def Gi (h:Ec K mg x C):EX K mg x:=⟨C,h⟩
def E0 {tab:List (Str×Bool)}(h:Ec K mg x G)(t:Ls (λp=>∃C,Ec K mg p.1 C/\W.mroIn K C (.ref G)=Z p.2) tab):IX K mg x tab:=⟨G,h,t⟩
def IN (X:K.In h)(Gm:h.Ns mainGlobals mg)(e:W.nsIn K mainGlobals x=Z Y):mg x=Y:=W.mg_none_of X Gm e
def FX {u:Tok->Value}{tk:Tok}(X:K.In h)(Gm:h.Ns mainGlobals mg)(e:W.nsIn K mainGlobals x=Z (Z (u tk))):∃tk,mg x=Z (u tk):=⟨tk,W.mg_of X Gm e⟩
end
variable{K:W.Frag}{mg:Str->Option Value}{x:Str}
def FH {h:Heap}{st:Stmt}{ps:List Str}{f c P:Addr}{oc occ kV dc pm ct:Value}{od odc an:Option Addr}{sl slc:Array (Option Value)}{vs:Array Value}{file:Str}{tf tg tt:Tok}{flags text:Int}{inF:Bool}
  (X:K.In h) (Gm:h.Ns mainGlobals mg) (a:W.nsIn K mainGlobals x=Z (Z (.ref f))) (l:K.lookup f=Z ⟨oc,od,.func (W.fnOf x x (eC st) (bV st) (aD st) .none kV dc pm an (.ref c) ct),sl⟩) (cc:W.codeIn K (.ref c) x=true) (k:W.keepIn K (.ref f)=true)
  (lc:K.lookup c=Z ⟨occ,odc,.fields vs,slc⟩) (hcc:occ=.type "code") (h11:vs[11]?=Z (.ref P)) (h18:vs.getD 18 .none=.str file tf) (h7:vs.getD 7 .none=.int flags tg) (h9:vs.getD 9 .none=.bool inF) (h10:vs.getD 10 .none=.int text tt) (ne:c≠P)
  (hm:x∈bC) (un:∀y,y∈bC->y≠x->W.nsIn K mainGlobals y=Z Y)
  (b:∀(kV doc pm:Value) (an:Option Addr) (cdv ct:Value) (us:List Value),us.length=ps.length->bindArgs (W.fnOf x x (eC st) (bV st) (aD st) .none kV doc pm an cdv ct) ⟨us,[]⟩=pure (ps.zip us)):LF K mg x st ps:=
 ⟨f,_,c,P,⟨o9 (st:=st) l cc k,W.mg_of X Gm a,(o9 (st:=st) l cc k).binds b⟩,a,Bg hm a l rfl lc hcc h11 h18 h7 h9 h10 ne λy hy n=>.inl (un y hy n)⟩
def DJ {l:W.OpenLaw}{w:World}{fa:Addr}{st:Stmt}{k:Nat}{F:FD}(hfa:mg "law"=Z (.ref fa))(L:FF K mg "law" st ["script"])
  (h:∀(base:Heap) (f:Addr) (fd:FuncData),Fn K mg "law" st f fd ["script"]->fm l.prog w K mg base (iM l.prog w) k f fd ["script"] (rB K 1 F))
  (hb:∀(kV doc pm:Value) (an:Option Addr) (cdv ct:Value) (v:Value),bindArgs (W.fnOf "law" "law" (eC st) (bV st) (aD st) .none kV doc pm an cdv ct) ⟨[v],[]⟩=pure [(("script":Str),v)]) :
  ∃fd:FuncData,(∀(s:Shared) (v:Value),BindsTo s fd ⟨[v],[]⟩ [("script",v)])/\∀base:Heap,K.In base->base.Ns mainGlobals mg->fm l.prog w K mg base (iM l.prog w) k fa fd ["script"] (rB K 1 F):=by
 refine q2x1 L λf fd L=>?_;have e:=hfa.symm.trans L.m;cases e;refine⟨fd,λs v=>?_,λbase _ _=>h base _ fd L⟩;refine q9x3 L.F.ex λoc od kV doc pm an cdv ct osl zz9 lk hcd=>?_;subst zz9;exact .of_eq (hb kV doc pm an cdv ct v)
section
variable {X:Cx}{e:Expr}{g:GE}{pos pos':Pos}
def lY (i:Nat)(g:GE):GS:=λρ M=>(af i ρ M).bind λx M0=>(g ρ M0).bind λy M1=>(sU x y M1).bind λz M2=>.ok (.nx (ρ.set i (Z z))) M2
def Al {i:Nat}(hN:X.N.Nodup)(hi:X.N[i]?=Z x)(hx:rH X.env.scope x)(he:PE X e (tE X g))(hf:X.fn x=true\/X.env.scope.names.lookup x=Z .local) :
  PS X (.AugAssign (.Name x pos') .Add e pos) (tS X (lY i g)):=
 (zo hN hi hx he CF hf).of λD σ H hxx=>by
  refine q3x3 hxx λρ θ M hd hw h=>?_;unfold lY af at h;split at h
  ·rename_i d q;refine q1x2 (hd.at_ i d q) λv e1 r=>?_;refine⟨v,e1,?_⟩;have h:bT X θ H D ((g ρ M).bind λy M1=>(sU d y M1).bind λz M2=>.ok (.nx (ρ.set i (Z z))) M2):=h;refine bo hd hw (bT X θ H D) (λc M' h=>h) (λh=>h) h λy M1 vy θ1 H1 g1 r1 h1=>?_
   have h1:=bT.go g1 h1;refine⟨θ1,M1,d,y,g1.wr,r.go g1,r1,?_⟩;cases qa:sU d y M1 with
   | bad=>rw[qa] at h1;exact h1.elim
   | err c2 M3=>rw[qa] at h1;exact h1
   | ok z M3=>
    rw[qa,ai] at h1;intro vz θ3 H3 g3 rz;exact h1 _ θ3 H3 g3 (((hd.go g1).go g3).set rz i)
  ·exact h.elim
def A7 (i:Nat)(hN:X.N.Nodup)(he:QE X e g)(hi:X.N[i]?=Z x:=by rfl)(hx:rH X.env.scope x:=by first|exact Or.inl rfl|exact Or.inr rfl)(hf:X.fn x=true\/X.env.scope.names.lookup x=Z .local:=by first|exact .inl rfl|exact .inr rfl) :
  QS X (.AugAssign (.Name x pos') .Add e pos) (lY i g):=⟨Al hN hi hx he.h hf⟩
end
end DL
namespace DL
open PySem PySem.Spec PyProof.Rows PySem.W L2 List
variable{p:Array Nat}{Q:Nat×Array Nat->Shared->Prop}
section
variable {key:Nat->Int}{N:Nat}{s:Shared}{cmp:Nat->Nat->(Bool->Shared->Prop)->Shared->Prop}
def kp (key:Nat->Int)(p:Array Nat)(k:Nat):Int:=key (p.getD k 0)
def rJ (N:Nat)(p:Array Nat):Prop:=∀k,p.getD k 0<N
def up (key:Nat->Int)(p:Array Nat)(n:Nat):Prop:=∀k,k+1<n->kp key p k<=kp key p (k+1)
def yB (key:Nat->Int)(p:Array Nat)(n:Nat):Prop:=∀k,k+1<n->kp key p (k+1)<=kp key p k
def gZ (key:Nat->Int)(N:Nat)(s:Shared)(cmp:Nat->Nat->(Bool->Shared->Prop)->Shared->Prop):Prop:=∀i j C,i<N->j<N->C (decide (key i<key j)) s->cmp i j C s
def nL {q:Array Nat}{i j:Nat}(h:p[i]?=q[j]?):kp key p i=kp key q j:=by
 unfold kp;rw[Array.getD_eq_getD_getElem?,Array.getD_eq_getD_getElem?,h]
def yV {q:Array Nat}(h:∀k:Nat,∃j:Nat,p[k]?=q[j]?)(i:rJ N q):rJ N p:=λk=>by
 refine q1x1 (h k) λj e=>?_;have:=i j;rw[Array.getD_eq_getD_getElem?] at this ⊢;rw[e];exact this
theorem Bw {p:Array Nat}{n:Nat}(h:up key p n):∀(d i:Nat),i+d<n->kp key p i<=kp key p (i+d)
 | 0,i,_=>Int.le_refl _
 | d+1,i,q=>Int.le_trans (Bw h d i (by omega)) (h (i+d) (by omega))
def k8 {n i j:Nat}(h:up key p n)(hij:i<=j)(hj:j<n):kp key p i<=kp key p j:=by
 have:=Bw h (j-i) i (by omega);rwa [show i+(j-i)=j by omega] at this
def sG {i j:Nat}(hj:j<=p.size)(k:Nat):(kas_rev p i j)[k]?=if i<=k/\k<j then p[i+j-1-k]? else p[k]?:=getElem?_mirror_all hj k
def lE {i j:Nat}(hj:j<=p.size)(h:rJ N p):rJ N (kas_rev p i j):=yV (λk=>by
 rw[sG hj k];split
 ·exact⟨_,rfl⟩
 ·exact⟨_,rfl⟩) h
def mn {i j:Nat}(hj:j<=p.size)(e:∀k,i<=k->k<j->kp key p k=kp key p (j-1))(k:Nat):kp key (kas_rev p i j) k=kp key p k:=by
 have h:=sG (i:=i) hj k
 by_cases q:i<=k/\k<j
 ·rw[if_pos q] at h;rw[nL h,e _ (by omega) (by omega),e k q.1 q.2]
 ·rw[if_neg q] at h;exact nL h
theorem rO (hc:gZ key N s cmp){p:Array Nat}(hp:rJ N p){Q:Nat->Shared->Prop}:∀(f n:Nat),1<=n->up key p n->(∀m,n<=m->m<=n+f->up key p m->(m<n+f->kp key p m<kp key p (m-1))->Q m s)->(kas_asc p f n).kasWp cmp Q s
 | 0,n,h1,u,h=>h n (Nat.le_refl _) (Nat.le_refl _) u (λz=>absurd z (by omega))
 | f+1,n,h1,u,h=>by
  refine hc _ _ _ (hp _) (hp _) ?_
  by_cases q:kp key p n<kp key p (n-1)
  ·rw[decide_eq_true (show key (p.getD n 0)<key (p.getD (n-1) 0) from q)];exact h n (Nat.le_refl _) (by omega) u λ_=>q
  ·rw[decide_eq_false (show¬key (p.getD n 0)<key (p.getD (n-1) 0) from q)];refine rO hc hp f (n+1) (by omega) (λk hk=>?_) λm a b c d=>h m (by omega) (by omega) c λz=>d (by omega)
   by_cases e:k+1<n
   ·exact u k e
   ·have:k=n-1:=by omega
    subst this;rw[show n-1+1=n by omega];omega
theorem kK (hc:gZ key N s cmp){Q:Array Nat×Nat×Nat->Shared->Prop}:∀(f:Nat) (p:Array Nat) (n q:Nat),rJ N p->n+f<=p.size->q+1<=n->yB key p n->(∀k,n-(q+1)<=k->k<n->kp key p k=kp key p (n-1))->
  (∀p' n' q',p'.size=p.size->p'.Perm p->rJ N p'->n<=n'->n'<=n+f->q'+1<=n'->yB key p' n'->(∀k,n'-(q'+1)<=k->k<n'->kp key p' k=kp key p' (n'-1))->Q (p',n',q') s)->(kas_desc f p n q).kasWp cmp Q s
 | 0,p,n,q,hp,hz,hq,hd,he,h=>h p n q rfl (Array.Perm.refl _) hp (Nat.le_refl _) (Nat.le_refl _) hq hd he
 | f+1,p,n,q,hp,hz,hq,hd,he,h=>by
  refine hc _ _ _ (hp _) (hp _) ?_
  by_cases c:kp key p n<kp key p (n-1)
  ·rw[decide_eq_true (show key (p.getD n 0)<key (p.getD (n-1) 0) from c)];dsimp only;rw[if_pos rfl];have hd':yB key p (n+1):=λk hk=>by
    by_cases e:k+1<n
    ·exact hd k e
    ·have:k=n-1:=by omega
     subst this;rw[show n-1+1=n by omega];omega
   by_cases z:q>0
   ·rw[if_pos z];have sm:=mn (key:=key) (p:=p) (i:=n-(q+1)) (j:=n) (by omega) he;refine kK hc f (kas_rev p (n-(q+1)) n) (n+1) 0 (lE (by omega) hp) (by rw[kas_rev_size];omega) (by omega) (λk hk=>by rw[sm,sm];exact hd' k hk) (λk a b=>by rw[show k=n by omega];rfl) λp' n' q' a b c1 d e g i j=>h p' n' q' (a.trans (kas_rev_size ..)) (b.trans (mirror_perm ..)) c1 (by omega) (by omega) g i j
   ·rw[if_neg z];exact kK hc f p (n+1) 0 hp (by omega) (by omega) hd' (λk a b=>by rw[show k=n by omega];rfl) λp' n' q' a b c1 d e g i j=>h p' n' q' a b c1 (by omega) (by omega) g i j
  ·rw[decide_eq_false (show¬key (p.getD n 0)<key (p.getD (n-1) 0) from c)];dsimp only;rw[if_neg (by simp)];refine hc _ _ _ (hp _) (hp _) ?_
   by_cases c2:kp key p (n-1)<kp key p n
   ·rw[decide_eq_true (show key (p.getD (n-1) 0)<key (p.getD n 0) from c2)];dsimp only;rw[if_pos rfl];exact h p n q rfl (Array.Perm.refl _) hp (Nat.le_refl _) (by omega) hq hd he
   ·rw[decide_eq_false (show¬key (p.getD (n-1) 0)<key (p.getD n 0) from c2)];dsimp only;rw[if_neg (by simp)];have eq:kp key p n=kp key p (n-1):=by omega
    refine kK hc f p (n+1) (q+1) hp (by omega) (by omega) (λk hk=>?_) (λk a b=>?_) λp' n' q' a b c1 d e g i j=>h p' n' q' a b c1 (by omega) (by omega) g i j
    ·by_cases e:k+1<n
     ·exact hd k e
     ·have:k=n-1:=by omega
      subst this;rw[show n-1+1=n by omega];omega
    ·show _=kp key p n
     by_cases e:k<n
     ·rw[he k (by omega) e];omega
     ·rw[show k=n by omega]
def pP (hc:gZ key N s cmp){n m:Nat}(hp:rJ N p)(h1:1<=n)(hn:n<=m)(hz:m<=p.size)(hd:yB key p n)
  (h:∀k p',p'.size=p.size->p'.Perm p->rJ N p'->1<=k->k<=m->up key p' k->Q (k,p') s):(kas_tail3 n m p).kasWp cmp Q s:=by
 unfold kas_tail3;rw[KasT.kasWp_bind];have at':∀k,k<n->kp key (kas_rev p 0 n) k=kp key p (n-1-k):=λk hk=>by
  have e:=sG (i:=0) (j:=n) (p:=p) (by omega) k;rw[if_pos ⟨by omega,hk⟩] at e;rw[nL e,show 0+n-1-k=n-1-k by omega]
 refine rO hc (lE (by omega) hp) _ n h1 (λk hk=>?_) λk a b c _=>h k _ (kas_rev_size ..) (mirror_perm ..) (lE (by omega) hp) (by omega) (by omega) c
 rw[at' k (by omega),at' (k+1) hk];have:=hd (n-1-(k+1)) (by omega);rwa [show n-1-(k+1)+1=n-1-k by omega] at this
def jY (hc:gZ key N s cmp){n m:Nat}(hp:rJ N p)(hn:n+1<=m)(hz:m<=p.size)(hd:yB key p (n+1))
  (h:∀k p',p'.size=p.size->p'.Perm p->rJ N p'->1<=k->k<=m->up key p' k->Q (k,p') s):(kas_descPart n m p).kasWp cmp Q s:=by
 unfold kas_descPart;rw[KasT.kasWp_bind];refine kK hc _ p (n+1) 0 hp (by omega) (by omega) hd (λk a b=>by rw[show k=n by omega];rfl) λp' n' q' a b c d e g i j=>?_
 dsimp only;split
 ·have sm:=mn (key:=key) (p:=p') (i:=n'-(q'+1)) (j:=n') (by omega) j;exact pP hc (lE (by omega) c) (by omega) (by omega) (by rw[kas_rev_size];omega) (λk hk=>by rw[sm,sm];exact i k hk) λk p2 a2 b2 c2 d2 e2 g2=>h k p2 (a2.trans ((kas_rev_size ..).trans a)) (b2.trans ((mirror_perm ..).trans b)) c2 d2 e2 g2
 ·exact pP hc c (by omega) (by omega) (by omega) i λk p2 a2 b2 c2 d2 e2 g2=>h k p2 (a2.trans a) (b2.trans b) c2 d2 e2 g2
def yW (hc:gZ key N s cmp){m:Nat}(hp:rJ N p)(h1:1<=m)(hz:m<=p.size)
  (h:∀k p',p'.size=p.size->p'.Perm p->rJ N p'->1<=k->k<=m->up key p' k->Q (k,p') s):(kas_count m p).kasWp cmp Q s:=by
 unfold kas_count;rw[KasT.kasWp_bind];refine rO hc hp _ 1 (Nat.le_refl _) (λk hk=>absurd hk (by omega)) λn a b c d=>?_
 by_cases e:n=m
 ·rw[if_pos (by simp[e])];exact h n p rfl (Array.Perm.refl _) hp a (by omega) c
 ·rw[if_neg (by simp[e])];have lt:=d (by omega)
  by_cases z:n>1
  ·rw[if_pos z];refine hc _ _ _ (hp _) (hp _) ?_
   by_cases t:kp key p 0<kp key p (n-1)
   ·rw[decide_eq_true (show key (p.getD 0 0)<key (p.getD (n-1) 0) from t)];dsimp only;rw[if_pos rfl];exact h n p rfl (Array.Perm.refl _) hp a (by omega) c
   ·rw[decide_eq_false (show¬key (p.getD 0 0)<key (p.getD (n-1) 0) from t)];dsimp only;rw[if_neg (by simp)];have al:∀k,0<=k->k<n->kp key p k=kp key p (n-1):=λk _ hk=>by
     have x:=k8 c (show 0<=k by omega) hk;have y:=k8 c (show k<=n-1 by omega) (by omega);omega
    have sm:=mn (key:=key) (p:=p) (i:=0) (j:=n) (by omega) al;refine jY hc (lE (by omega) hp) (by omega) (by rw[kas_rev_size];omega) (λk hk=>?_) λk p2 a2 b2 c2 d2 e2 g2=>h k p2 (a2.trans (kas_rev_size ..)) (b2.trans (mirror_perm ..)) c2 d2 e2 g2
    rw[sm,sm]
    by_cases w:k+1<n
    ·rw[al k (by omega) (by omega),al (k+1) (by omega) w];exact Int.le_refl _
    ·have:k=n-1:=by omega
     subst this;rw[show n-1+1=n by omega];omega
  ·rw[if_neg z];have e1:n=1:=by omega
   subst e1;refine jY hc hp (by omega) hz (λk hk=>?_) h;have:k=0:=by omega
   subst this;exact Int.le_of_lt lt
theorem l8 (hc:gZ key N s cmp){p:Array Nat}{k:Nat}(hp:rJ N p)(hu:up key p k){Q:Nat->Shared->Prop}:∀(f l r:Nat),l<=r->r<=k->r-l<=f->(∀i,i<l->kp key p i<=kp key p k)->(∀i,r<=i->i<k->kp key p k<=kp key p i)->
  (∀m,m<=k->(∀i,i<m->kp key p i<=kp key p k)->(∀i,m<=i->i<k->kp key p k<=kp key p i)->Q m s)->(kas_place p k f l r).kasWp cmp Q s
 | 0,l,r,h1,h2,h3,a,b,h=>h l (by omega) a λi x y=>b i (by omega) y
 | f+1,l,r,h1,h2,h3,a,b,h=>by
  unfold kas_place
  by_cases e:l≥r
  ·rw[if_pos e];exact h l (by omega) a λi x y=>b i (by omega) y
  ·rw[if_neg e];refine hc _ _ _ (hp _) (hp _) ?_
   by_cases t:kp key p k<kp key p ((l+r) / 2)
   ·rw[decide_eq_true (show key (p.getD k 0)<key (p.getD ((l+r) / 2) 0) from t)];dsimp only;rw[if_pos rfl];exact l8 hc hp hu f l _ (by omega) (by omega) (by omega) a (λi x y=>by
     have:=k8 hu x y;omega) h
   ·rw[decide_eq_false (show¬key (p.getD k 0)<key (p.getD ((l+r) / 2) 0) from t)];dsimp only;rw[if_neg (by simp)];exact l8 hc hp hu f _ r (by omega) h2 (by omega) (λi x=>by
     have:=k8 hu (show i<=(l+r) / 2 by omega) (by omega);omega) b h
theorem xc (hc:gZ key N s cmp){Q:Array Nat->Shared->Prop}:∀(f:Nat) (p:Array Nat) (k:Nat),rJ N p->k+f=p.size->up key p k->(∀p',p'.Perm p->up key p' p.size->Q p' s)->(kas_bin f p k).kasWp cmp Q s
 | 0,p,k,hp,hz,hu,h=>h p (Array.Perm.refl _) (by rw[<-hz];exact hu)
 | f+1,p,k,hp,hz,hu,h=>by
  unfold kas_bin;rw[KasT.kasWp_bind];refine l8 hc hp hu k 0 k (Nat.zero_le _) (Nat.le_refl _) (by omega) (λi x=>absurd x (by omega)) (λi x y=>absurd x (by omega)) λm hm a b=>?_
  have at':=getElem?_bubble (xs:=p) (src:=k) (by omega) (k-m) (by omega);have sz:(bubble p k (k-m)).size=p.size:=bubble_size ..;have e1:k-(k-m)=m:=by omega
  rw[e1] at at';refine xc hc f _ (k+1) (yV (λi=>by
   rw[at' i];split
   ·exact⟨_,rfl⟩
   ·split
    ·exact⟨_,rfl⟩
    ·exact⟨_,rfl⟩) hp) (by rw[sz];omega) (λi hi=>?_) λp' x y=>h p' (x.trans (bubble_perm ..)) (by rw[sz] at y;exact y)
  have g:∀i,i<=k->kp key (bubble p k (k-m)) i=if i=m then kp key p k else if m<i then kp key p (i-1) else kp key p i:=λi hi=>by
   have:=at' i
   by_cases q1:i=m
   ·rw[if_pos q1] at this ⊢;exact nL this
   ·rw[if_neg q1] at this ⊢
    by_cases q2:m<i
    ·rw[if_pos ⟨q2,hi⟩] at this;rw[if_pos q2];exact nL this
    ·rw[if_neg (by omega)] at this;rw[if_neg q2];exact nL this
  rw[g i (by omega),g (i+1) (by omega)]
  by_cases q1:i=m
  ·rw[if_pos q1,if_neg (by omega),if_pos (by omega),show i+1-1=i by omega];exact b i (by omega) (by omega)
  ·rw[if_neg q1]
   by_cases q2:m<i
   ·rw[if_pos q2,if_neg (by omega),if_pos (by omega),show i+1-1=i by omega];have:=hu (i-1) (by omega);rwa [show i-1+1=i by omega] at this
   ·rw[if_neg q2]
    by_cases q3:i+1=m
    ·rw[if_pos q3];exact a i (by omega)
    ·rw[if_neg q3,if_neg (by omega)];exact hu i (by omega)
def uw {n:Nat}(hc:gZ key n s cmp)(h2:1<=n){Q:Array Nat->Shared->Prop}(h:∀p:Array Nat,p.Perm (List.toArray (List.range n))->up key p n->Q p s):(kas_sort n).kasWp cmp Q s:=by
 unfold kas_sort;rw[KasT.kasWp_bind];have h0:rJ n (List.toArray (List.range n)):=λk=>by
  rw[Array.getD_eq_getD_getElem?,getElem?_toArray]
  by_cases q:k<n
  ·rw[getElem?_range q];exact q
  ·rw[getElem?_eq_none (by rw[length_range];omega)];exact h2
 have hz:(List.toArray (List.range n)).size=n:=by simp
 refine yW hc h0 h2 (by omega) λk p' a b c d e g=>?_
 dsimp only
 by_cases z:k<n
 ·rw[if_pos z];have em:max k 1=k:=by omega
  rw[em];exact xc hc _ p' k c (by omega) g λp2 x y=>h p2 (x.trans b) (by rw[a,hz] at y;exact y)
 ·rw[if_neg z];have:k=n:=by omega
  subst this;exact h p' b g
end
section
theorem i9:∀a:List Int,HT.lexLt a a=false
 | []=>rfl
 | x::a=>by rw[HT.lexLt_cons,if_pos rfl];exact i9 a
theorem kF:∀a b:List Int,HT.lexLt a b=false->HT.lexLt b a=false->a=b
 | [],[],_,_=>rfl
 | [],_::_,h,_=>by cases h
 | _::_,[],_,h=>by cases h
 | x::a,y::b,h1,h2=>by
  rw[HT.lexLt_cons] at h1 h2
  by_cases e:x=y
  ·subst e;rw[if_pos rfl] at h1 h2;rw[kF a b h1 h2]
  ·rw[if_neg e,decide_eq_false_iff_not] at h1;rw[if_neg (λz=>e z.symm),decide_eq_false_iff_not] at h2;omega
theorem fU:∀a b c:List Int,HT.lexLt a b=true->HT.lexLt b c=true->HT.lexLt a c=true
 | [],[],_,h,_=>by cases h
 | [],_::_,[],_,h=>by cases h
 | [],_::_,_::_,_,_=>rfl
 | _::_,[],_,h,_=>by cases h
 | _::_,_::_,[],_,h=>by cases h
 | x::a,y::b,z::c,h1,h2=>by
  rw[HT.lexLt_cons] at h1 h2 ⊢
  by_cases e:x=y
  ·subst e;rw[if_pos rfl] at h1
   by_cases e2:x=z
   ·subst e2;rw[if_pos rfl] at h2 ⊢;exact fU a b c h1 h2
   ·rw[if_neg e2] at h2 ⊢;exact h2
  ·rw[if_neg e,decide_eq_true_iff] at h1
   by_cases e2:y=z
   ·subst e2;rw[if_neg e,decide_eq_true_iff];exact h1
   ·rw[if_neg e2,decide_eq_true_iff] at h2;rw[if_neg (by omega),decide_eq_true_iff];omega
def xV (zs:List (List Int))(z:List Int):Int:=(zs.countP λy=>HT.lexLt y z:Nat)
theorem uL {α:Type}{p q:α->Bool}:∀{l:List α} {x:α},(∀y,p y=true->q y=true)->x∈l->p x=false->q x=true->l.countP p<l.countP q
 | a::l,x,hs,hx,h1,h2=>by
  rw[countP_cons,countP_cons];rcases mem_cons.mp hx with e|e
  ·subst e;have:=countP_mono_left (l:=l) (λy _=>hs y);rw[if_neg (by simp[h1]),if_pos h2];omega
  ·have:=uL hs e h1 h2;have h3:=hs a;cases q1:p a with
   | true=>rw[h3 q1];simp only[if_true];omega
   | false=>cases q a <;> simp <;> omega
def yH {zs:List (List Int)}{a b:List Int}(ha:a∈zs):HT.lexLt a b=decide (xV zs a<xV zs b):=by
 cases h:HT.lexLt a b with
 | true=>
  have:=uL (l:=zs) (x:=a) (p:=λy=>HT.lexLt y a) (q:=λy=>HT.lexLt y b) (λy q=>fU y a b q h) ha (i9 a) h;exact(decide_eq_true (by unfold xV;omega)).symm
 | false=>
  have:zs.countP (λy=>HT.lexLt y b)<=zs.countP (λy=>HT.lexLt y a):=countP_mono_left (l:=zs) (p:=λy=>HT.lexLt y b) (q:=λy=>HT.lexLt y a) λy _ q=>by
   have q:HT.lexLt y b=true:=q;show HT.lexLt y a=true;cases h2:HT.lexLt b a with
   | true=>exact fU y b a q h2
   | false=>rw[kF a b h h2];exact q
  exact(decide_eq_false (by unfold xV;omega)).symm
def a9 (zs:List (List Int)):List (List Int):=zs.mergeSort λa b=>!HT.lexLt b a
def aL (zs:List (List Int)):(a9 zs).Perm zs:=mergeSort_perm zs _
def dR (zs:List (List Int)):(a9 zs).Pairwise λa b=>HT.lexLt b a=false:=by
 have h:(a9 zs).Pairwise (λa b=>(!HT.lexLt b a)=true):=pairwise_mergeSort (le:=λa b=>!HT.lexLt b a) (λa b c h1 h2=>by
  simp only[Bool.not_eq_true'] at h1 h2 ⊢;cases q:HT.lexLt c a with
  | false=>rfl
  | true=>
   cases q2:HT.lexLt a b with
   | true=>rw[fU c a b q q2] at h2;cases h2
   | false=>have:=kF a b q2 h1;subst this;rw[q] at h2;cases h2) (λa b=>by
  cases q:HT.lexLt b a with
  | false=>rfl
  | true=>
   cases q2:HT.lexLt a b with
   | false=>rfl
   | true=>have:=fU a b a q2 q;rw[i9] at this;cases this) zs
 exact h.imp λh=>by simpa using h
theorem dL:∀{a b:List (List Int)},a.Perm b->a.Pairwise (λx y=>HT.lexLt y x=false)->b.Pairwise (λx y=>HT.lexLt y x=false)->a=b
 | [],b,p,_,_=>(List.Perm.nil_eq p)
 | x::a,[],p,_,_=>absurd p.symm.nil_eq (by simp)
 | x::a,y::b,p,ha,hb=>by
  have h1:HT.lexLt y x=false:=by
   rcases mem_cons.mp (p.symm.subset (mem_cons_self ..):y∈x::a) with e|e
   ·rw[e];exact i9 x
   ·exact(pairwise_cons.mp ha).1 y e
  have h2:HT.lexLt x y=false:=by
   rcases mem_cons.mp (p.subset (mem_cons_self ..):x∈y::b) with e|e
   ·rw[e];exact i9 y
   ·exact(pairwise_cons.mp hb).1 x e
  have e:=kF x y h2 h1;subst e;rw[dL (perm_cons x |>.mp p) (pairwise_cons.mp ha).2 (pairwise_cons.mp hb).2]
end
variable{h:Heap}
section
variable {prog:Program}{w:World}{A:Around}{E:Value->Shared->Prop}{s:Shared}
theorem qP {b fin:Bool}{Q:Bool->Shared->Prop}:∀{vs ws:List Value} {ns ms:List Int} (i:Nat),IntsAre vs ns->IntsAre ws ms->fin=decide (ns.length<ms.length)->Q (HT.lexLt ns ms) s->KatLex prog w A b fin Q (vs.zip ws) i s
 | _,_,_,_,i,.nil,.nil,e,h=>by
  rw[zip_nil_left];refine kat_nil ?_;rw[e];exact h
 | _,_,_,_,i,.nil,.cons _ _ _,e,h=>by
  rw[zip_nil_left];refine kat_nil ?_;rw[e,decide_eq_true (by simp)];exact h
 | _,_,_,_,i,.cons _ _ _,.nil,e,h=>by
  rw[zip_nil_right];refine kat_nil ?_;rw[e,decide_eq_false (by simp)];exact h
 | _,_,_,_,i,.cons (ns:=ns) x t r1,.cons (ns:=ms) y u r2,e,h=>by
  rw[zip_cons_cons];refine kat_cons (wpAny_eqBool_int ?_);rw[HT.lexLt_cons] at h
  by_cases q:x=y
  ·rw[if_pos q] at h;rw[show(x==y)=true by simp[q]];exact kat_yes (qP (i+1) r1 r2 (by rw[e];simp) h)
  ·rw[if_neg q] at h;rw[show(x==y)=false by simp[q]];refine kat_no ?_;cases (b&&i==0) with
   | true=>exact oneLt_int h
   | false=>exact kat_one _ _ (PyProof.Rows.lt_int (show W.BoolBack _ (.bool _) _ from h))
def jB (h:Heap):List Value->List (List Int)->Prop
 | [],[]=>True
 | v::vs,z::zs=>(∃b o xs k,v=.ref b/\h.get? b=Z o/\o.cls=.type "tuple"/\o.data=.seq xs k/\IntsAre xs.toList z/\z≠[])/\jB h vs zs
 | _,_=>False
theorem jB.keep {h':Heap}(k:∀b o,h.get? b=Z o->h'.get? b=Z o):∀{vs:List Value} {zs:List (List Int)},jB h vs zs->jB h' vs zs
 | [],[],_=>trivial
 | [],_::_,t=>t.elim
 | _::_,[],t=>t.elim
 | _::_,_::_,⟨⟨b,o,xs,n,e,g,r⟩,t⟩=>⟨⟨b,o,xs,n,e,k _ _ g,r⟩,t.keep k⟩
theorem jB.firsts :∀{vs:List Value} {zs:List (List Int)},jB h vs zs->∃fs,KatTups h vs fs/\fs.length=vs.length/\∀v∈fs,∃n t,v=Value.int n t
 | [],[],_=>⟨[],.nil,rfl,λv hv=>by cases hv⟩
 | [],_::_,t=>t.elim
 | _::_,[],t=>t.elim
 | _::_,z::_,⟨⟨b,o,xs,n,e,g,c,d,r,z0⟩,t⟩=>by
  refine q1x3 t.firsts λfs k l f=>?_;subst e;cases r':xs.toList with
  | nil=>rw[r'] at r;cases r;exact absurd rfl z0
  | cons x ys=>
   rw[r'] at r;cases r with
   | cons m tk r2=>
    refine⟨Value.int m tk::fs,.cons g c d (by rw[<-Array.getElem?_toList,r'];rfl) k,by rw[length_cons,length_cons,l],λv hv=>?_⟩;rcases mem_cons.mp hv with e|e
    ·exact⟨m,tk,e⟩
    ·exact f v e
end
def aR (z:List Int):D:=.tup (z.map D.int)
def iK:List D->Option (List (List Int))
 | []=>Z []
 | d::ds=>match yE d,iK ds with
  | some (i::z),Z zs=>Z ((i::z)::zs)
  | _,_=>Y
def Jf:FD:=λds M=>match ds with
 | [d]=>match mE d M with
  | some xs=>match kn xs with
   | some ns=>if ns.length<64 then .ok (.lst ((L2.sortI ns).map D.int)) M else .bad
   | none=>match iK xs with
    | some zs=>if zs.length<64 then .ok (.lst ((a9 zs).map aR)) M else .bad
    | none=>.bad
  | none=>.bad
 | _=>.bad
theorem jw {K:W.Frag}{θ:List Addr}{H:Hp}{f:Nat->D}{g:Nat->V}:∀l:List Nat,(∀i∈l,isD K θ H (f i) (g i))->isDs K θ H (l.map f) (l.map g)
 | [],_=>rfl
 | i::l,h=>⟨_,_,rfl,h i (.head _),jw l λj hj=>h j (.tail _ hj)⟩
theorem fK {g:Nat->V}{u:Nat->Value}:∀l:List Nat,(∀i∈l,aI (g i) (u i))->aJ (l.map g) (l.map u)
 | [],_=>.nil
 | i::l,h=>.cons (h i (.head _)) (fK l λj hj=>h j (.tail _ hj))
section
variable {X:Cx}{aa:List (Addr×Obj)}{σ:L2.St}{H:Hp}{s:Shared}{θ:List Addr}
theorem p6 (I:L2.Inv X aa σ H s):∀{xs:List D} {zs:List (List Int)} {vs:List V} {us:List Value},iK xs=Z zs->isDs X.K θ H xs vs->aJ vs us->
  jB s.heap us zs/\us.length=zs.length/\∀i,i<zs.length->isD X.K θ H (aR (zs.getD i [])) (vs.getD i .non)/\aI (vs.getD i .non) (us.getD i Value.none)
 | [],zs,vs,us,e,r,v=>by
  simp only[iK,Option.some.injEq] at e;subst e;have:vs=[]:=r;subst this;cases v;exact⟨trivial,rfl,λi h=>absurd h (by simp)⟩
 | d::xs,zs,vs,us,e,r,v=>by
  simp only[iK] at e;split at e
  ·rename_i i z zs' q1 q2;cases e;refine q2x3 r λv1 vr e1 r1 r2=>?_;subst e1;cases v with
   | cons h1 h2=>
    refine q0x3 (p6 I q2 r2 h2) λt l f=>?_;refine q1x2 (ym q1 r1) λb eb tb=>?_;subst eb;have eu:_=Value.ref b:=h1;subst eu;obtain⟨its,rr,⟨o,ho,hc,n,hd⟩,_⟩:=I.tuple tb.sq;refine⟨⟨⟨b,o,its.toArray,n,rfl,ho,hc,hd,sZ rr,by simp⟩,t⟩,by rw[length_cons,length_cons,l],λk hk=>?_⟩;cases k with
    | zero=>exact⟨⟨b,_,rfl,tb,fM _⟩,rfl⟩
    | succ k=>exact f k (by simpa using hk)
  ·cases e
end
def zM (neg:Bool):F2:=λx y M=>match aW y M with
 | some xs=>if bx 40 x&&xs.all (bx 40) then .ok (.bl ((xs.any λy=>mH y x) != neg)) M else .bad
 | none=>.bad
section
variable {X:Cx}{aa:List (Addr×Obj)}{σ:L2.St}{H:Hp}{s:Shared}{θ:List Addr}
noncomputable def inE (h:Heap) (px:PyData) (u:Value):Bool:=open Classical in decide (∃d as,Reads h u d as/\PyData.eqv d px=true)
def zn {px d:PyData}{u:Value}{as:List Addr}(r:Reads h u d as)(l:d.canLay0=true):inE h px u=PyData.eqv d px:=by
 unfold inE;cases e:PyData.eqv d px with
 | true=>exact @decide_eq_true _ (Classical.propDecidable _) ⟨d,as,r,e⟩
 | false=>
  refine @decide_eq_false _ (Classical.propDecidable _) λhxx=>?_
  refine q2x2 hxx λd' as' r' e'=>?_;have:=SeqAt.Reads.unique d d' u as as' l r r';subst this;rw[e] at e';cases e'
theorem kE (I:L2.Inv X aa σ H s){x:D}(hx:bx 40 x=true):∀{ds:List D} {vs:List V} {us:List Value},ds.all (bx 40)=true->isDs X.K θ H ds vs->aJ vs us->us.any (inE s.heap (iE x))=(ds.any λy=>mH y x)/\∀u∈us,∃d as,Reads s.heap u d as/\d.canLay0=true/\d.depth<=40
 | [],vs,us,_,r,v=>by
  have e:vs=[]:=r;subst e;cases v;exact⟨rfl,λu hu=>by cases hu⟩
 | d::ds,vs,us,c,r,v=>by
  rw[all_cons,Bool.and_eq_true] at c;refine q2x3 r λv1 vr e1 r1 r2=>?_;subst e1;cases v with
  | cons h1 h2=>
   refine q0x2 (kE I hx c.2 r2 h2) λa b=>?_;refine q1x1 (jc I d 40 _ _ c.1 r1 h1) λas R=>?_;have l:=gG d 40 c.1;refine⟨?_,λu hu=>?_⟩
   ·rw[any_cons,any_cons,a,zn R l.1,kO d x 40 40 c.1 hx]
   ·rcases mem_cons.mp hu with e|e
    ·rw[e];exact⟨_,as,R,l.1,l.2⟩
    ·exact b u e
end
end DL
namespace DL
open PySem PySem.Spec PyProof.Rows L2 List
end DL
namespace DL
open PySem PySem.Spec PyProof.Rows PySem.W L2 List
def kQ (h:Heap)(d:Addr)(es:Array DictEntry)(ep:Nat):Prop:=∃o,h.get? d=Z o/\o.ExactDict/\o.data=.dict es ep
variable{Q:Option Value->Shared->Prop}
section
variable {prog:Program}{w:World}{A:Around}{E:Value->Shared->Prop}{s:Shared}{d it:Addr}{es:Array DictEntry}{ep i:Nat}
def kQ.typeIs (x:kQ s.heap d es ep):s.TypeIs (.ref d) "dict":=by
 refine q1x3 x λo ho hc _=>?_;exact⟨o,ho,hc.1⟩
def xL {Q:Value->Shared->Prop}(hd:(d==sysModules)=false)(x:kQ s.heap d es ep)
  (hQ:Q (.ref s.heap.objs.size) {s with heap:=s.heap.push {cls:=.type "dict_keyiterator",data:=.fields #[.ref d,.int 0 0,.int es.size 0,.int ep 0]}}):wpAny (model prog w) A (pyIter (.ref d)) Q E s:=by
 have T:=x.typeIs;refine q1x3 x λo ho hc hx=>?_;refine wpAny_pyIter_slot T PySem.F.slot_dict_iter (wpAny_call_entry PySem.F.slot_dict_iter T PySem.F.entry_dict_iter ?_ (PySem.F.args_dict_iter_1 _));unfold Builtin.«dict.__iter__»;refine wpAny_bind ?_;unfold Builtin.Dict.dictSlotNone;refine wpAny_bind (wpAny_notOrdered_dict T ?_);show wpAny _ _ (pure (Value.ref d)) _ _ s;refine wpAny_pure ?_;show wpAny _ _ (Builtin.Dict.showsAll d >>= _) _ _ s;unfold Builtin.Dict.showsAll;rw[if_neg (by rw[hd];exact Bool.false_ne_true)];refine wpAny_bind (wpAny_pure (wpAny_bind (wpAny_dictEntries ho hx (wpAny_bind (wpAny_dictEpoch ho hx (wpAny_bind (wpAny_newObj_type (wpAny_pure ⟨_,rfl,"dict_keyiterator",_,⟨_,Heap.get?_push_size _ rfl,rfl⟩,PySem.F.slot_dict_keyiterator_next.lookup,?_⟩))))))));exact hQ
def kQ.stay {h h':Heap}(x:kQ h d es ep)(k:∀o,h.get? d=Z o->h'.get? d=Z o):kQ h' d es ep:=by
 refine q1x2 x λo ho r=>?_;exact⟨o,k o ho,r⟩
def wx (hit:s.heap.IsKeyIter it d i es.size ep)(x:kQ s.heap d es ep)(hi:i<es.size)
  (hQ:∀h',h'.IsKeyIter it d (i+1) es.size ep->Heap.SameBut it s.heap h'->Q (Z es[i].key) {s with heap:=h'}):wpAny (model prog w) A (pyNext (.ref it)) Q E s:=by
 have T:=hit.typeIs;refine q1x3 hit λo ho hc hd=>?_;refine q1x3 x λod hod hcd hx=>?_;unfold pyNext;refine wpAny_bind (wpAny_attempt (wpAny_callSpecial?_slot (name:=Str.ofString "__next__") T PySem.F.slot_dict_keyiterator_next (wpAny_call_entry PySem.F.slot_dict_keyiterator_next T PySem.F.entry_dict_keyiterator_next ?_ (PySem.F.args_dict_keyiterator_next_1 _))));refine wpAny_bind (wpAny_pure (wpAny_bind (wpAny_bind ?_)))
 first|refine wpAny_bind (wpAny_typeNameOfWhole_keyiter T (wpAny_pure ?_))|refine wpAny_bind (wpAny_typeNameOf_keyiter T (wpAny_pure ?_))
 refine wpAny_bind (wpAny_fieldsOf ho hd ?_);simp only[show Builtin.Dict_items.ownsTuple "dict_keyiterator"=false by decide,Bool.false_eq_true,if_false];show wpAny _ _ (if(Value.ref d==Value.none)=true then _ else _) _ _ s;rw[if_neg (show¬((Value.ref d==Value.none)=true) from Bool.false_ne_true)];refine wpAny_bind (wpAny_pure (wpAny_bind (wpAny_dictEntries hod hx ?_)));rw[if_neg (by simp)];refine wpAny_bind (wpAny_pure (wpAny_bind (wpAny_dictEpoch hod hx ?_)));rw[if_neg (by simp)];refine wpAny_pure ?_;simp only[show¬((i:Int)<0) from by omega,if_false,Int.toNat_natCast,Array.getElem?_eq_getElem hi];refine wpAny_bind ?_
 first|refine wpAny_bind (wpAny_typeNameOfWhole_keyiter T (wpAny_pure ?_))|refine wpAny_bind (wpAny_typeNameOf_keyiter T (wpAny_pure ?_))
 refine wpAny_bind (wpAny_isOneOf_keyiter T ?_);show wpAny _ _ (setField (.ref it) 1 (rawInt ((i:Int)+1)) >>= _) _ _ s;refine wpAny_bind (wpAny_setField ho hd (by simp) ?_);have hit2:(s.heap.update it (Obj.mapFields (·.setIfInBounds 1 (rawInt ((i:Int)+1))))).IsKeyIter it d (i+1) es.size ep:=
  ⟨_,Heap.get?_update_self _ ho (Obj.isFreed_of_fields (Obj.data_mapFields hd _)),(Obj.cls_mapFields ..).trans hc,by rw[Obj.data_mapFields hd];simp[rawInt]⟩
 refine wpAny_bind (wpAny_holding (wpAny_bind (wpAny_isOneOf_keyiter (s:={s with heap:=s.heap.update it (Obj.mapFields (·.setIfInBounds 1 (rawInt ((i:Int)+1))))}) hit2.typeIs ?_)));show wpAny _ _ (pure es[i].key) _ _ _;exact wpAny_pure (wpAny_pure ⟨_,rfl,wpAny_pure (hQ _ hit2 (Heap.SameBut.update ..))⟩)
def Bb (hh:A.handled=Y)(hit:s.heap.IsKeyIter it d es.size es.size ep)(x:kQ s.heap d es ep)
  (hQ:∀h',Heap.ExtBut it s.heap h'->Q Y {s with heap:=h'}):wpAny (model prog w) A (pyNext (.ref it)) Q E s:=by
 have T:=hit.typeIs;refine q1x3 hit λo ho hc hd=>?_;refine q1x3 x λod hod hcd hx=>?_;unfold pyNext;refine wpAny_bind (wpAny_attempt (wpAny_callSpecial?_slot (name:=Str.ofString "__next__") T PySem.F.slot_dict_keyiterator_next (wpAny_call_entry PySem.F.slot_dict_keyiterator_next T PySem.F.entry_dict_keyiterator_next ?_ (PySem.F.args_dict_keyiterator_next_1 _))));refine wpAny_bind (wpAny_pure (wpAny_bind (wpAny_bind ?_)))
 first|refine wpAny_bind (wpAny_typeNameOfWhole_keyiter T (wpAny_pure ?_))|refine wpAny_bind (wpAny_typeNameOf_keyiter T (wpAny_pure ?_))
 refine wpAny_bind (wpAny_fieldsOf ho hd ?_);simp only[show Builtin.Dict_items.ownsTuple "dict_keyiterator"=false by decide,Bool.false_eq_true,if_false];show wpAny _ _ (if(Value.ref d==Value.none)=true then _ else _) _ _ s;rw[if_neg (show¬((Value.ref d==Value.none)=true) from Bool.false_ne_true)];refine wpAny_bind (wpAny_pure (wpAny_bind (wpAny_dictEntries hod hx ?_)));rw[if_neg (by simp)];refine wpAny_bind (wpAny_pure (wpAny_bind (wpAny_dictEpoch hod hx ?_)));rw[if_neg (by simp)];refine wpAny_pure ?_;simp only[show¬((es.size:Int)<0) from by omega,if_false,Int.toNat_natCast,Array.getElem?_eq_none (Nat.le_refl es.size)];refine wpAny_bind ?_
 first|refine wpAny_bind (wpAny_typeNameOfWhole_keyiter T (wpAny_pure ?_))|refine wpAny_bind (wpAny_typeNameOf_keyiter T (wpAny_pure ?_))
 show wpAny _ _ (setField (.ref it) 0 .none >>= _) _ _ s;refine wpAny_bind (wpAny_setField ho hd (by simp) ?_);show wpAny _ _ (newExc (.type "StopIteration") [] >>= _) _ _ _;refine wpAny_bind ?_;simp only[newExc,newTuple];refine wpAny_bind (wpAny_newObj_type ?_ (by size_fits));refine wpAny_bind (m:=firstArgMember _ _) (wpAny_of_eq (a:=Value.none) (by first|rfl|(simp only[firstArgMember];rfl)) (wpAny_newObj_type ?_ (by size_fits)));simp only[raiseNew];refine wpAny_bind (wpAny_handled ?_);rw[show A.in1.handled=Y from hh];refine wpAny_bind (wpAny_pure (wpAny_throw ?_));refine wpAny_bind (wpAny_isInstance (T:="StopIteration") (b:=true) ⟨_,Heap.get?_push_size _ rfl,rfl⟩ isSubtype_stop (wpAny_pure (hQ _ (((Heap.SameBut.update ..).extBut.push _).push _))))
def vp (hh:A.handled=Y)(hne:d≠it):Walks prog w A it [it,d] [it] es.size (λi v=>∃e,es[i]?=Z e/\v=e.key) (λi h=>h.IsKeyIter it d i es.size ep/\kQ h d es ep) where
 sub:=λb hb=>by rw[mem_singleton.mp hb];exact mem_cons_self
 frame:=λ_ _ _ st hk=>⟨st.1.at λo e=>hk it mem_cons_self o e,st.2.stay λo e=>hk d (mem_cons_of_mem _ mem_cons_self) o e⟩
 item:=λi s Q E hi st hQ=>wx st.1 st.2 hi λh' k1 k2=>hQ _ h' s.toks ⟨_,Array.getElem?_eq_getElem hi,rfl⟩ ⟨k1,st.2.stay λo e=>k2.extBut d o hne e⟩ λb o hb e=>k2.extBut b o (λz=>hb (by rw[z];exact mem_cons_self)) e
 done:=λs Q E st hQ=>Bb hh st.1 st.2 λh' k=>hQ h' s.toks λb o hb e=>k b o (λz=>hb (by rw[z];exact mem_cons_self)) e
 self:=λ_ _ _ _ st hQ=>wpAny_pyIter_keyiter st.1 hQ
def AN (lo:(d==sysModules)=false):KdlSrc prog w "dict" d d es.size (λi v=>∃e,es[i]?=Z e/\v=e.key) (λh=>kQ h d es ep) where
 type:=λ_ x=>x.typeIs
 there:=λ_ x=>by refine q1x2 x λo ho _=>?_;exact⟨Heap.lt_size ho,Heap.lt_size ho⟩
 keep:=λ_ _ x hk=>x.stay λo e=>hk d (.inl rfl) o e
 notList:=by decide
 notTuple:=by decide
 hint:=λ_ _ _ _ x hq=>kdl_hint_dict x.typeIs hq
 iter:=λ_ s hh x=>⟨_,_,(λ_ _ hq=>xL lo x hq),vp hh (by refine q1x2 x λo ho _=>?_;exact Nat.ne_of_lt (Heap.lt_size ho)),⟨⟨_,Heap.get?_push_size _ rfl,rfl,rfl⟩,x.stay λo e=>Heap.get?_push_of_some _ e⟩⟩
end
def Ed:cr->D
 | .inl i=>.int i
 | .inr x=>.str x
end DL
namespace DL
open PySem PySem.Spec PyProof.Rows L2 List
def Ie (xs ys:List D):List D:=xs.zipWith (λx y=>D.tup [x,y]) ys
section
variable {X:Cx}{aa:List (Addr×Obj)}{σ:L2.St}{H:Hp}{s:Shared}{θ:List Addr}
def um (hu:X.A.units+64<cLine)(I:L2.Inv X aa σ H s){dx:D}{x:V}{v:Value}{ds:List D}{vs:List V}{its:List Value}(hx:bx 40 dx=true)(hc:ds.all (bx 40)=true)(r1:isD X.K θ H dx x)(rx:aI x v)(ra:isDs X.K θ H ds vs)(r:aJ vs its) :
  ∀w∈its,SeqAt.EqAt X.A.in1 s w v (inE s.heap (iE dx) w):=λw hw=>by
 refine q1x1 (jc I dx 40 x v hx r1 rx) λbs RX=>?_;have lx:=gG dx 40 hx;refine q2x3 ((kE I hx hc ra r).2 w hw) λd as R l1 l2=>?_;rw[zn R l1];exact SeqAt.eqAt_reads d (iE dx) X.A.in1 s w v as bs R RX l1 lx.1 (by
  show X.A.units+1+min d.depth (iE dx).depth<cLine;have:min d.depth (iE dx).depth<=d.depth:=Nat.min_le_left _ _;omega)
def vZ (hu:X.A.units+64<cLine):fN X (compareOp .NotIn) (rD X (zM true)):=by
 intro aa s σ H x y v u Q I rx ry h;obtain⟨θ,M,dx,dy,hw,r1,r2,h⟩:=h;unfold zM at h;cases q:aW dy M with
 | none=>rw[q] at h;exact h.elim
 | some xs=>
  rw[q] at h;dsimp only at h
  by_cases hc:(bx 40 dx&&xs.all (bx 40))=true
  ·rw[if_pos hc] at h;rw[Bool.and_eq_true] at hc;obtain⟨a,vs,ea,sq,ra⟩:=iT hw r2 q;subst ea;cases ry;have k:=h _ θ H (.refl hw) rfl;rw[Bool.bne_true] at k;rcases sq with sq|sq
   ·obtain⟨its,r,pl,hz⟩:=I.list sq;refine SeqAt.notIn_listAt (inE s.heap (iE dx)) pl.isList (λw hw=>um hu I hc.1 hc.2 r1 rx ra r w (by simpa using hw)) ⟨.bl _,H,I,rfl,?_⟩;rw[show its.toArray.any (inE s.heap (iE dx))=its.any (inE s.heap (iE dx)) by simp,(kE I hc.1 hc.2 ra r).1];exact k
   ·obtain⟨its,r,pl,hz⟩:=I.tuple sq;refine SeqAt.notIn_tupleAt (inE s.heap (iE dx)) pl (λw hw=>um hu I hc.1 hc.2 r1 rx ra r w (by simpa using hw)) ⟨.bl _,H,I,rfl,?_⟩;rw[show its.toArray.any (inE s.heap (iE dx))=its.any (inE s.heap (iE dx)) by simp,(kE I hc.1 hc.2 ra r).1];exact k
  ·rw[if_neg hc] at h;exact h.elim
end
section
variable {X:Cx}{k:Nat}{o e:Expr}{go ge:GE}{apos cpos:Pos}
def wW (hr:bJ k X.A):Q2 X (compareOp .NotIn) (zM true):=⟨vZ hr.units⟩
end
end DL
namespace DL
open PySem PySem.Spec PyProof.Rows L2 List
open AutoSeq1 (wpAny_loadPart')
def Jq (ds:List D)(M:aw):aN jP:=match ds with
 | [.lst xs,.lst ys]=>if xs.length=ys.length then .ok ⟨EY (Ie xs ys),Y⟩ M else .bad
 | _=>.bad
def eQ:List D->Int->Option Int
 | [],b=>Z b
 | .int a::r,b=>if b<a then eQ r a else eQ r b
 | _::_,_=>Y
def BH:List D->Option Int
 | .int a::r=>eQ r a
 | _=>Y
variable{ds0:List D}{vs:List V}{θ:List Addr}{k:Nat}
section
variable {X:Cx}{aa:List (Addr×Obj)}{σ:L2.St}
def vd {l it S:Addr}{Q:VK}{R:Result->Shared->Prop}{H:Hp}{M:aw}{db:Int}
  (hr:bJ (k+1) X.A) (hcalm:X.calm=true) (hw:Wr X.K θ H M) (ta:lN X.K θ H l vs) (r:isDs X.K θ H ds0 vs)
  (hnI:S≠it) (hR:∀u s',EP X aa σ Q u s'->R (.ok (.ret u)) s') (fi:fV X aa H it) (fS:fV X aa H S) (hQ:∀v,isD X.K θ H (.int db) v->Q v H) :
  ∀(rest:List D) (j:Nat) (s:Shared) (b:Int) (vb:V) (ub:Value) (n:Nat),ds0.drop j=rest->L2.Inv X aa σ H s->s.heap.IsListIter it l j->s.heap.get? S=Z (seqObj "list" #[ub,ub] n)->
   isD X.K θ H (.int b) vb->aI vb ub->eQ rest b=Z db->
   codeAny (model X.prog X.w) X.A (.builtin "max.loop" ⟨[.ref it,.none,.ref S],[]⟩) R s:=by
 have hname:(toString "max"++toString ".loop":String)="max.loop":=by decide
 have hr1:bJ k X.A.in1:=hr.in1;intro rest
 induction rest with
 | nil=>
  intro j s b vb ub n hd I st eS rb rvb h;refine codeAny_builtin PySem.F.entry_max_loop ?_;rw[Around.under_plainId PySem.F.plain_max_loop _];show wpAny _ X.A.in1 (seqItems? (.ref S) >>= _) _ _ _;refine wpAny_bind (wpAny_seqItems eS rfl ?_);refine q1x3 (I.list ta.sq) λits rv p hz=>?_;have hlen:vs.length<=j:=by rw[<-ao r];exact drop_eq_nil_iff.mp hd
  have hl:=rv.length;show wpAny _ X.A.in1 (tryCatch (pyNext (.ref it)) _ >>= _) _ _ _;refine wpAny_bind (wpAny_tryCatch (wpAny_pyNext_list_end (show X.A.in1.handled=Y from I.ok.hd hcalm) st p.isList (by simp;omega) λh' eb=>?_));have I1:L2.Inv X aa σ H {s with heap:=h'}:=I.turned (t':=s.toks) (λb o hb e=>eb b o hb e) fi.1 fi.2.1 fi.2.2.2.1 fi.2.2.2.2.1 fi.2.2.2.2.2;have eS':h'.get? S=Z (seqObj "list" #[ub,ub] n):=eb S _ hnI eS;show wpAny _ X.A.in1 (updateSeq S (λ_=>#[]) >>= _) _ _ _;refine wpAny_bind (wpAny_updateSeq eS' rfl (wpAny_bind (wpAny_letGo (wpAny_pure ?_))));have I2:L2.Inv X aa σ H {s with heap:=h'.update S (Obj.mapSeq λ_=>#[])}:=I1.turned (t':=s.toks) (λb o hb e=>(Heap.get?_update_other h' _ (Ne.symm hb)).trans e) fS.1 fS.2.1 fS.2.2.2.1 fS.2.2.2.2.1 fS.2.2.2.2.2;have h:Z b=Z db:=h;cases h;exact hR ub _ ⟨vb,H,I2,rvb,hQ vb rb⟩
 | cons d rest ih=>
  intro j s b vb ub n hd I st eS rb rvb h;have hj:ds0[j]?=Z d:=by
   have:=congrArg (·[0]?) hd;simpa using this
  have hd':ds0.drop (j+1)=rest:=by
   rw[<-drop_drop,hd];rfl
  refine q1x2 (cQ r hj) λv ev rdv=>?_;refine codeAny_builtin PySem.F.entry_max_loop ?_;rw[Around.under_plainId PySem.F.plain_max_loop _];show wpAny _ X.A.in1 (seqItems? (.ref S) >>= _) _ _ _;refine wpAny_bind (wpAny_seqItems eS rfl ?_);refine q1x3 (I.list ta.sq) λits rv p hz=>?_;refine q1x2 (rv.get ev) λu eu ru=>?_;show wpAny _ X.A.in1 (tryCatch (pyNext (.ref it)) _ >>= _) _ _ _;refine wpAny_bind (wpAny_tryCatch (wpAny_pyNext_list_item st p.isList (x:=u) (by simpa using eu) λh' st' sb=>?_));have I1:L2.Inv X aa σ H {s with heap:=h'}:=I.turned (t':=s.toks) (λb o hb e=>(sb.2 b hb).trans e) fi.1 fi.2.1 fi.2.2.2.1 fi.2.2.2.2.1 fi.2.2.2.2.2;have eS1:h'.get? S=Z (seqObj "list" #[ub,ub] n):=(sb.2 S hnI).trans eS;cases d with
  | int ki=>
   have h:(if b<ki then eQ rest ki else eQ rest b)=Z db:=h;have e1:v=.int ki:=rdv;have e2:vb=.int b:=rb;subst e1 e2;refine q1x1 ru λtk zz1=>?_;subst zz1;refine q1x1 rvb λtb zz1=>?_;subst zz1;refine wpAny_bind (wpAny_pure ?_);show wpAny _ X.A.in1 (tryCatch (holding [.int ki tk,.int ki tk] (richCompare .Gt (.int ki tk) (.int b tb) >>= _)) _ >>= _) _ _ _;refine wpAny_bind (wpAny_tryCatch (wpAny_holding (wpAny_bind (yI _ _ _ _ _ _ _ _ _ _ ?_))));refine wpAny_bind (wpAny_holding (wpAny_truthy_bool ?_));refine wpAny_bind (wpAny_letGo (wpAny_pure ?_))
   by_cases hlt:b<ki
   ·rw[if_pos hlt] at h;simp only[hlt,decide_true,if_true];refine wpAny_bind (wpAny_updateSeq eS1 rfl (wpAny_bind (wpAny_letGo ?_)));rw[hname];obtain⟨n3,eS3⟩:∃n3,(h'.update S (Obj.mapSeq λ_=>#[.int ki tk,.int ki tk])).get? S=Z (seqObj "list" #[.int ki tk,.int ki tk] n3):=⟨_,get?_update_seq eS1 λ_=>#[.int ki tk,.int ki tk]⟩;have kp:∀b o,b≠S->h'.get? b=Z o->(h'.update S (Obj.mapSeq λ_=>#[.int ki tk,.int ki tk])).get? b=Z o:=λb o hb e=>(Heap.get?_update_other h' _ (Ne.symm hb)).trans e
    have I3:L2.Inv X aa σ H {s with heap:=h'.update S (Obj.mapSeq λ_=>#[.int ki tk,.int ki tk])}:=I1.turned (t':=s.toks) kp fS.1 fS.2.1 fS.2.2.2.1 fS.2.2.2.2.1 fS.2.2.2.2.2;refine q1x3 (id st') λoI hoI cI dI=>?_;exact wpAny_pure ⟨plainId_quiet PySem.F.plain_max_loop _,ih (j+1) _ ki _ (.int ki tk) n3 hd' I3 ⟨oI,kp it oI (Ne.symm hnI) hoI,cI,dI⟩ eS3 rfl ⟨tk,rfl⟩ h⟩
   ·rw[if_neg hlt] at h;simp only[hlt,decide_false,Bool.false_eq_true,if_false];refine wpAny_bind (wpAny_letGo ?_);rw[hname];exact wpAny_pure ⟨plainId_quiet PySem.F.plain_max_loop _,ih (j+1) _ b _ (.int b tb) n hd' I1 st' eS1 rfl ⟨tb,rfl⟩ h⟩
  | _=>cases h
def vO {l:Addr}{Q:VK}{H:Hp}{M:aw}{db:Int}{s:Shared}
  (hr:bJ (k+1) X.A) (hcalm:X.calm=true) (I:L2.Inv X aa σ H s) (hw:Wr X.K θ H M) (ta:lN X.K θ H l vs) (r:isDs X.K θ H ds0 vs) (h:BH ds0=Z db) (hQ:∀v,isD X.K θ H (.int db) v->Q v H) :
  wpAny (model X.prog X.w) X.A (call (.builtin "max") [.ref l] []) (EP X aa σ Q) X.xe s:=by
 have hname:(toString "max"++toString ".loop":String)="max.loop":=by decide
 cases ds0 with
 | nil=>cases h
 | cons d rest=>
  cases d with
  | int ks=>
   have h:eQ rest ks=Z db:=h;refine q1x2 (cQ (i:=0) r rfl) λv ev rdv=>?_;refine q1x3 (I.list ta.sq) λits rv p hz=>?_;refine kmk_tree PySem.F.kind_max PySem.F.plain_max PySem.F.entry_max (vh _) ?_;show wpAny _ X.A.in1 (Builtin.Builtins.bindParams "max" ["key","default"] 0 ⟨[],[]⟩ >>= _) _ _ s;refine wpAny_bind (wpAny_of_eq (show Builtin.Builtins.bindParams "max" ["key","default"] 0 ⟨[],[]⟩=pure [Y,Y] from rfl) ?_);refine wpAny_bind (wpAny_pure ?_);refine wpAny_bind (wpAny_pyIter_list p.isList ?_);refine wpAny_bind (wpAny_newList ?_ (Nat.zero_le _));rw[hname];have hS:(s.heap.push {cls:=.type "list_iterator",data:=.fields #[.ref l,.int 0 0]}).objs.size=s.heap.objs.size+1:=size_push' ..;have fi:fV X aa H s.heap.objs.size:=I.fpOk (Nat.le_refl _) (I.hok.fresh (Nat.le_refl _));have leS:s.heap.objs.size<=(s.heap.push {cls:=.type "list_iterator",data:=.fields #[.ref l,.int 0 0]}).objs.size:=by rw[hS];exact Nat.le_succ _
   have fS:fV X aa H (s.heap.push {cls:=.type "list_iterator",data:=.fields #[.ref l,.int 0 0]}).objs.size:=I.fpOk leS (I.hok.fresh leS);have hnI:(s.heap.push {cls:=.type "list_iterator",data:=.fields #[.ref l,.int 0 0]}).objs.size≠s.heap.objs.size:=by rw[hS];exact Nat.ne_of_gt (Nat.lt_succ_self _)
   have gI:((s.heap.push {cls:=.type "list_iterator",data:=.fields #[.ref l,.int 0 0]}).push (seqObj "list" #[] 0)).get? s.heap.objs.size=Z {cls:=.type "list_iterator",data:=.fields #[.ref l,.int 0 0]}:=Heap.get?_push_of_some _ (Heap.get?_push_size _ rfl);have gS:((s.heap.push {cls:=.type "list_iterator",data:=.fields #[.ref l,.int 0 0]}).push (seqObj "list" #[] 0)).get? (s.heap.push {cls:=.type "list_iterator",data:=.fields #[.ref l,.int 0 0]}).objs.size=Z (seqObj "list" #[] 0):=Heap.get?_push_size _ rfl;have I0:L2.Inv X aa σ H {s with heap:=(s.heap.push {cls:=.type "list_iterator",data:=.fields #[.ref l,.int 0 0]}).push (seqObj "list" #[] 0)}:=I.kept (t':=s.toks) λb o e=>Heap.get?_push_of_some _ (Heap.get?_push_of_some _ e)
   generalize (s.heap.push {cls:=.type "list_iterator",data:=.fields #[.ref l,.int 0 0]}).objs.size=S at *;generalize hit:s.heap.objs.size=it at *;refine wpAny_pure ⟨plainId_quiet PySem.F.plain_max_loop _,?_⟩;refine codeAny_builtin PySem.F.entry_max_loop ?_;rw[Around.under_plainId PySem.F.plain_max_loop _];show wpAny _ X.A.in1 (seqItems? (.ref S) >>= _) _ _ _;refine wpAny_bind (wpAny_seqItems gS rfl ?_);refine q1x3 (I0.list ta.sq) λits' rv' p' hz'=>?_;refine q1x2 (rv'.get ev) λu' eu' ru'=>?_;show wpAny _ X.A.in1 (tryCatch (pyNext (.ref it)) _ >>= _) _ _ _;refine wpAny_bind (wpAny_tryCatch (wpAny_pyNext_list_item (i:=0) ⟨_,gI,rfl,rfl⟩ p'.isList (x:=u') (by simpa using eu') λh' st' sb=>?_));have I1:L2.Inv X aa σ H {s with heap:=h'}:=I0.turned (t':=s.toks) (λb o hb e=>(sb.2 b hb).trans e) fi.1 fi.2.1 fi.2.2.2.1 fi.2.2.2.2.1 fi.2.2.2.2.2;have eS1:h'.get? S=Z (seqObj "list" #[] 0):=(sb.2 S hnI).trans gS;refine q1x3 (id st') λoI hoI cI dI=>?_;refine wpAny_bind (wpAny_pure ?_);refine wpAny_bind ?_;show wpAny _ X.A.in1 (updateSeq S (λ_=>#[u',u'])) _ _ _;refine wpAny_updateSeq eS1 rfl ?_;rw[hname];obtain⟨n3,eS3⟩:∃n3,(h'.update S (Obj.mapSeq λ_=>#[u',u'])).get? S=Z (seqObj "list" #[u',u'] n3):=⟨_,get?_update_seq eS1 λ_=>#[u',u']⟩;have kp:∀b o,b≠S->h'.get? b=Z o->(h'.update S (Obj.mapSeq λ_=>#[u',u'])).get? b=Z o:=λb o hb e=>(Heap.get?_update_other h' _ (Ne.symm hb)).trans e
   have I3:L2.Inv X aa σ H {s with heap:=h'.update S (Obj.mapSeq λ_=>#[u',u'])}:=I1.turned (t':=s.toks) kp fS.1 fS.2.1 fS.2.2.2.1 fS.2.2.2.2.1 fS.2.2.2.2.2;exact wpAny_pure ⟨plainId_quiet PySem.F.plain_max_loop _,vd hr hcalm hw ta r hnI (λu s' e=>e) fi fS hQ rest 1 _ ks v u' n3 rfl I3 ⟨oI,kp it oI (Ne.symm hnI) hoI,cI,dI⟩ eS3 rdv ru' h⟩
  | _=>cases h
def iJ:FD:=λds M=>match ds with
 | [.lst xs]=>match BH xs with
  | some d=>.ok (.int d) M
  | none=>.bad
 | _=>.bad
def zJ (hr:bJ (k+1) X.A)(hc:X.calm=true):cG X (.builtin "max") (rC X iJ):=by
 intro aa s σ H xs us Q I r h;obtain⟨θ,M,ds,hw,rd,h⟩:=h;unfold iJ at h;split at h
 ·rename_i ys;split at h
  ·rename_i d q;obtain⟨v,rr,e,⟨a,vs,ea,ta,rs⟩,er⟩:=rd;have er:rr=[]:=er;subst er e ea;obtain⟨u,rfl,ru⟩:=iI r;have ru:u=.ref a:=ru;subst ru;exact vO hr hc I hw (.inl ⟨.inl ta.1,ta.2⟩) rs q λv rv=>h v θ H (.refl hw) rv
  ·exact h.elim
 ·exact h.elim
def Cf (hr:bJ (k+1) X.A)(hc:X.calm=true:=by rfl):QC X (.builtin "max") iJ:=⟨zJ hr hc⟩
end
end DL
namespace DL
open PySem PySem.Spec PyProof.Rows PySem.W L2 List
def G8 {α:Type}(lt:Nat->Nat->Bool):KasT α->α
 | .ret a=>a
 | .ask i j k=>G8 lt (k (lt i j))
def CZ (N:Nat)(lt:Nat->Nat->Bool)(i j:Nat)(C:Bool->Shared->Prop)(s:Shared):Prop:=i<N/\j<N/\C (lt i j) s
theorem rY {α:Type}{N:Nat}{lt:Nat->Nat->Bool}{s:Shared}{Q:α->Shared->Prop}:∀{t:KasT α},t.kasWp (CZ N lt) Q s->Q (G8 lt t) s/\∀cmp:Nat->Nat->(Bool->Shared->Prop)->Shared->Prop,(∀i j C,i<N->j<N->C (lt i j) s->cmp i j C s)->t.kasWp cmp (λp s'=>p=G8 lt t/\s'=s) s
 | .ret a,h=>⟨h,λ_ _=>⟨rfl,rfl⟩⟩
 | .ask i j k,h=>by
  refine q0x3 h λhi hj h=>?_;refine q0x2 (rY h) λh1 h2=>?_;exact⟨h1,λcmp hc=>hc i j _ hi hj (h2 cmp hc)⟩
def Hw (key:Nat->Int)(i j:Nat):Bool:=decide (key i<key j)
def xB (key:Nat->Int)(n:Nat):Array Nat:=G8 (Hw key) (kas_sort n)
variable{key:Nat->Int}
def kJ {n:Nat}(h:1<=n):(xB key n).Perm (List.toArray (List.range n))/\up key (xB key n) n:=by
 have s:Shared:={};have:=uw (key:=key) (s:=s) (cmp:=CZ n (Hw key)) (n:=n) (λi j C hi hj hC=>⟨hi,hj,hC⟩) h (Q:=λp _=>p.Perm (List.toArray (List.range n))/\up key p n) λp a b=>⟨a,b⟩
 exact(rY this).1
def zG {n:Nat}{s:Shared}{cmp:Nat->Nat->(Bool->Shared->Prop)->Shared->Prop}(h:1<=n)(hc:gZ key n s cmp):(kas_sort n).kasWp cmp (λp s'=>p=xB key n/\s'=s) s:=by
 have:=uw (key:=key) (s:=s) (cmp:=CZ n (Hw key)) (n:=n) (λi j C hi hj hC=>⟨hi,hj,hC⟩) h (Q:=λp _=>True) λp a b=>trivial
 exact(rY this).2 cmp λi j C hi hj hC=>hc i j C hi hj hC
def gT (key:Nat->Int)(n:Nat):List Nat:=if n<2 then List.range n else(xB key n).toList
section
variable {prog:Program}{w:World}{A:Around}{E:Value->Shared->Prop}{s:Shared}{vs ks:List Value}{zs:List (List Int)}{f:Value}{h0:Heap}{a kS:Addr}
def Kp (h0:Heap)(s s':Shared):Prop:=(∃h tk,s'={s with heap:=h,toks:=tk})/\∀b o,h0.get? b=Z o->s'.heap.get? b=Z o
theorem Kp.heap {s s':Shared}{h:Heap}(k:Kp h0 s s')(hh:∀b o,h0.get? b=Z o->h.get? b=Z o):Kp h0 s {s' with heap:=h}:=by
 obtain⟨⟨h1,tk,rfl⟩,_⟩:=k;exact⟨⟨h,tk,rfl⟩,hh⟩
def BQ (prog:Program)(w:World)(A:Around)(h0:Heap)(s:Shared)(f:Value)(vs ks:List Value):Prop:=
 ∀(i:Nat) (v k:Value),vs[i]?=Z v->ks[i]?=Z k->∀s',Kp h0 s s'->wpAny (model prog w) A (call f [v]) (λr s''=>r=k/\(∃h tk,s''={s' with heap:=h,toks:=tk})/\∀b o,s'.heap.get? b=Z o->s''.heap.get? b=Z o) (λ_ _=>False) s'
theorem qN {body:Value->PUnit->Sem (ForInStep PUnit)}(hn:vs.length<64)(hl:ks.length=vs.length)(hkey:BQ prog w A h0 s f vs ks)(h0k:h0.get? kS=Y)
  (hb:∀x k (j:Nat) e (s':Shared),j<64->s'.heap.get? kS=Z (seqObj "list" (List.toArray (ks.take j)) e)->ks[j]?=Z k->Kp h0 s s'->
   wpAny (model prog w) A (call f [x]) (λr s''=>r=k/\(∃h tk,s''={s' with heap:=h,toks:=tk})/\∀b o,s'.heap.get? b=Z o->s''.heap.get? b=Z o) (λ_ _=>False) s'->
   wpAny (model prog w) A (body x ⟨⟩) (λr s''=>r=.yield ⟨⟩/\Kp h0 s s''/\(∃c,s''.heap.get? kS=Z (seqObj "list" (List.toArray (ks.take (j+1))) c))/\∀b o,b≠kS->s'.heap.get? b=Z o->s''.heap.get? b=Z o) E s') :
  ∀(r:List Value) (j e:Nat) (s':Shared),vs.drop j=r->s'.heap.get? kS=Z (seqObj "list" (List.toArray (ks.take j)) e)->Kp h0 s s'->
   wpAny (model prog w) A (forIn r PUnit.unit body) (λ_ s''=>Kp h0 s s''/\(∃c,s''.heap.get? kS=Z (seqObj "list" (List.toArray ks) c))/\∀b o,b≠kS->s'.heap.get? b=Z o->s''.heap.get? b=Z o) E s'
 | [],j,e,s',hd,hk,kp=>by
  rw[forIn_nil];have hj:ks.length<=j:=by rw[hl];exact drop_eq_nil_iff.mp hd
  rw[take_of_length_le hj] at hk;exact wpAny_pure ⟨kp,⟨e,hk⟩,λ_ _ _ e=>e⟩
 | x::r,j,e,s',hd,hk,kp=>by
  have hj:vs[j]?=Z x:=by
   have:=congrArg (·[0]?) hd;simpa using this
  have hd':vs.drop (j+1)=r:=by rw[<-drop_drop,hd];rfl
  have hjl:=(List.getElem?_eq_some_iff.mp hj).1;have hk2:ks[j]?=Z ks[j]:=getElem?_eq_getElem (by omega);rw[forIn_cons];refine wpAny_bind (wpAny_mono (hb x ks[j] j e s' (by omega) hk hk2 kp (hkey j x _ hj hk2 s' kp)) (λq s2 hq=>?_) λ_ _ x=>x);obtain⟨rfl,kp2,⟨c,hc⟩,k2⟩:=hq;show wpAny (model prog w) A (forIn r PUnit.unit body) _ E s2;refine wpAny_mono (qN hn hl hkey h0k hb r (j+1) c s2 hd' hc kp2) (λ_ s3 h3=>?_) λ_ _ x=>x
  refine q0x3 h3 λa1 a2 a3=>?_;exact⟨a1,a2,λb o hb e=>a3 b o hb (k2 b o hb e)⟩
end
end DL
namespace DL
open PySem L2
def aZ:Nat->D->Bool
 | 0,_=>false
 | f+1,d=>match d with
  | .mr _=>false
  | .tup xs=>xs.all (aZ f)
  | .lst xs=>xs.all (aZ f)
  | .ro xs=>xs.all (aZ f)
  | _=>true
theorem bI {f:D->Option D}:∀{xs:List D},(∀x∈xs,f x=Z x)->aV f xs=Z xs
 | [],_=>rfl
 | x::xs,h=>by
  unfold aV;rw[h x List.mem_cons_self,bI λy hy=>h y (List.mem_cons_of_mem _ hy)]
theorem gU {n:Nat}{M:aw}:∀(f:Nat) (d:D),aZ f d=true->frz n M f d=Z d
 | 0,d,h=>by cases h
 | f+1,d,h=>by
  cases d with
  | mr k=>cases h
  | tup xs=>
   have h:xs.all (aZ f)=true:=h;show(aV (frz n M f) xs).map D.tup=_;rw[bI λx hx=>gU f x (List.all_eq_true.mp h x hx)];rfl
  | lst xs=>
   have h:xs.all (aZ f)=true:=h;show(aV (frz n M f) xs).map D.lst=_;rw[bI λx hx=>gU f x (List.all_eq_true.mp h x hx)];rfl
  | ro xs=>
   have h:xs.all (aZ f)=true:=h;show(aV (frz n M f) xs).map D.ro=_;rw[bI λx hx=>gU f x (List.all_eq_true.mp h x hx)];rfl
  | _=>rfl
def dh:MO->Bool
 | .lst xs=>xs.all (aZ 30)
 | .obj _ fs=>fs.all λp=>aZ 30 p.2
 | .dK fs=>fs.all λp=>aZ 30 p.2
 | .dT fs=>fs.all λp=>aZ 30 p.2
theorem jR {κ:Type}{f:D->Option D}:∀{fs:List (κ×D)},(∀p∈fs,f p.2=Z p.2)->nB f fs=Z fs
 | [],_=>rfl
 | (x,d)::fs,h=>by
  unfold nB;rw[h (x,d) List.mem_cons_self,jR λy hy=>h y (List.mem_cons_of_mem _ hy)]
theorem oh {f:D->Option D}:∀{fs:List (Str×D)},(∀p∈fs,f p.2=Z p.2)->qX f fs=Z fs
 | [],_=>rfl
 | (x,d)::fs,h=>by
  unfold qX;rw[h (x,d) List.mem_cons_self,oh λy hy=>h y (List.mem_cons_of_mem _ hy)]
@[simp] theorem ES (f:Nat) (i:Int):aZ (f+1) (.int i)=true:=rfl
@[simp] theorem Ge (f:Nat) (i:Bool):aZ (f+1) (.bl i)=true:=rfl
@[simp] theorem EM (f:Nat):aZ (f+1) .non=true:=rfl
@[simp] theorem EL (f:Nat) (x:Str):aZ (f+1) (.str x)=true:=rfl
theorem ET (f:Nat)(xs:List D):aZ (f+1) (.tup xs)=xs.all (aZ f):=rfl
theorem vj (f:Nat)(xs:List D):aZ (f+1) (.lst xs)=xs.all (aZ f):=rfl
def uY (f:Nat)(l:List Int):(l.map D.int).all (aZ (f+1))=true:=by
 rw[List.all_map];exact List.all_eq_true.mpr λx _=>rfl
def qU {t:GT}{b:GS}{n:Nat}{ρ ρ2:bv}{M M1 M2:aw}(h1:t ρ M=.ok true M1)(h2:b ρ M1=.ok (.nx ρ2) M2):bS t b (n+1) ρ M=bS t b n ρ2 M2:=by
 rw[bS,h1,ai,if_pos rfl,h2,ai]
def l9 {t:GT}{b:GS}{n:Nat}{ρ:bv}{M M1:aw}(h1:t ρ M=.ok false M1):bS t b (n+1) ρ M=.ok (.nx ρ) M1:=by
 rw[bS,h1,ai,if_neg Bool.false_ne_true]
end DL
namespace DL
open PySem L2
variable{ρ:bv}{M M1:aw}
def az {a b:GS}{ρ1:bv}(h:a ρ M=.ok (.nx ρ1) M1):av a b ρ M=b ρ1 M1:=by
 unfold av;rw[h];rfl
variable{d:D}
def uk {a b:GS}(h:a ρ M=.ok (.rt d) M1):av a b ρ M=.ok (.rt d) M1:=by
 unfold av;rw[h];rfl
def jF {t:GT}{a b:GS}(h:t ρ M=.ok true M1):dY t a b ρ M=a ρ M1:=by
 unfold dY;rw[h,ai,if_pos rfl]
def dZ {t:GT}{a b:GS}(h:t ρ M=.ok false M1):dY t a b ρ M=b ρ M1:=by
 unfold dY;rw[h,ai,if_neg Bool.false_ne_true]
variable{g:GE}
def aF {i:Nat}(h:g ρ M=.ok d M1):ay i g ρ M=.ok (.nx (ρ.set i (Z d))) M1:=by
 unfold ay;rw[h,ai]
def kL (h:g ρ M=.ok d M1):fz g ρ M=.ok (.nx ρ) M1:=by
 unfold fz;rw[h,ai]
def fJ (h:g ρ M=.ok d M1):bw g ρ M=.ok (.rt d) M1:=by
 unfold bw;rw[h,ai]
variable{x:Bool}
def eE {a b:GT}{y:Bool}(ha:a ρ M=.ok x M)(hb:x=true->b ρ M=.ok y M):dA a b ρ M=.ok (x&&y) M:=by
 unfold dA;rw[ha,ai];cases x with
 | true=>exact hb rfl
 | false=>rfl
def fZ {a b:GT}{y:Bool}(ha:a ρ M=.ok x M)(hb:x=false->b ρ M=.ok y M):eJ a b ρ M=.ok (x||y) M:=by
 unfold eJ;rw[ha,ai];cases x with
 | true=>rfl
 | false=>exact hb rfl
def oO {a:GT}(ha:a ρ M=.ok x M):d7 a ρ M=.ok (!x) M:=by
 unfold d7;rw[ha,ai]
variable{a:GE}
def rP (ha:a ρ M=.ok (.bl x) M1):gP a ρ M=.ok x M1:=by
 unfold gP;rw[ha,ai];rfl
def aE (ha:a ρ M=.ok (.bl x) M1):aB a ρ M=.ok x M1:=by
 unfold aB;rw[ha,ai];rfl
variable{o:aN D}
def aq {f:F2}{b:GE}{M2:aw}{x y:D}(ha:a ρ M=.ok x M1)(hb:b ρ M1=.ok y M2)(h:f x y M2=o):g2 f a b ρ M=o:=by
 unfold g2;rw[ha,ai,hb,ai,h]
variable{F:FD}
def ij {x:D}(ha:a ρ M=.ok x M1)(h:F [x] M1=o):aQ F (ae a ah) ρ M=o:=by
 unfold aQ ae ah;rw[ha,ai,ai,ai,h]
def xg {x:D}(ha:a ρ M=.ok x M1)(h:F [x] M1=o):ax 1 F (ae a ah) ρ M=o:=by
 unfold ax ae ah;rw[ha,ai,ai,ai,if_pos (show [x].length=1 from rfl),h]
def nD {b:GE}{M2:aw}{x y:D}(ha:a ρ M=.ok x M1)(hb:b ρ M1=.ok y M2)(h:F [x,y] M2=o):ax 2 F (ae a (ae b ah)) ρ M=o:=by
 unfold ax ae ah;rw[ha,ai,hb,ai,ai,ai,ai,if_pos (show [x,y].length=2 from rfl),h]
def Gq {b c:GE}{M2 M3:aw}{x y z:D}(ha:a ρ M=.ok x M1)(hb:b ρ M1=.ok y M2)(hc:c ρ M2=.ok z M3)(h:F [x,y,z] M3=o):ax 3 F (ae a (ae b (ae c ah))) ρ M=o:=by
 unfold ax ae ah;rw[ha,ai,hb,ai,hc,ai,ai,ai,ai,ai,if_pos (show [x,y,z].length=3 from rfl),h]
def Bx {b c d:GE}{M2 M3 M4:aw}{x y z u:D}(ha:a ρ M=.ok x M1)(hb:b ρ M1=.ok y M2)(hc:c ρ M2=.ok z M3)(hd:d ρ M3=.ok u M4)(h:F [x,y,z,u] M4=o):ax 4 F (ae a (ae b (ae c (ae d ah)))) ρ M=o:=by
 unfold ax ae ah;rw[ha,ai,hb,ai,hc,ai,hd,ai,ai,ai,ai,ai,ai,if_pos (show [x,y,z,u].length=4 from rfl),h]
variable{xs:List D}
def cE {i:Nat}(h:ρ[i]?=Z (Z (.lst xs))):aY (af i) ρ M=.ok ⟨xs,Y⟩ M:=by
 unfold aY af;rw[h];rfl
def p0 (a b:Int)(M:aw):aU false (.int a) (.int b) M=.ok (.bl (decide (a=b))) M:=by
 show aN.ok (D.bl ((a==b) != false)) M=_
 by_cases q:a=b <;> simp[q]
def jq (a b:Int)(M:aw):aU true (.int a) (.int b) M=.ok (.bl (!decide (a=b))) M:=by
 show aN.ok (D.bl ((a==b) != true)) M=_
 by_cases q:a=b <;> simp[q]
def Fo {a b:Str}(ha:PyData.strOk a=true)(hb:PyData.strOk b=true)(M:aw):aU false (.str a) (.str b) M=.ok (.bl (a==b)) M:=by
 show(if(PyData.strOk a&&PyData.strOk b)=true then aN.ok (D.bl ((a==b) != false)) M else .bad)=_;rw[ha,hb,Bool.bne_false];rfl
def om (M:aw)(E:List D):(M++[MO.lst E])[M.length]?=Z (.lst E):=by simp
def oF (M:aw)(E E':List D):(M++[MO.lst E]).set M.length (.lst E')=M++[MO.lst E']:=by simp
variable{k:Nat}
def oG (h:xs[k]?=Z d):aT (.lst xs) (.int k) M=.ok d M:=by
 have a:=o7 (xs:=xs) (j:=k) h;unfold aT aW;dsimp only;rw[a]
def bU (h:xs[k]?=Z d):aT (.tup xs) (.int k) M=.ok d M:=by
 have a:=o7 (xs:=xs) (j:=k) h;unfold aT aW;dsimp only;rw[a]
def iZ :jp ah ρ M=.ok (.mr M.length) (M++[.lst []]):=by
 show(if([]:List D).length<=sizeLine then aN.ok (D.mr M.length) (M++[.lst []]) else .bad)=_;rw[if_pos (show([]:List D).length<=sizeLine from Nat.zero_le _)]
variable{ga:GA}{ds:List D}
def io (h:ga ρ M=.ok ds M1)(hl:ds.length<=100000:=by exact Nat.le_of_ble_eq_true rfl):cp ga ρ M=.ok (.tup ds) M1:=by
 have:ds.length<=sizeLine:=fE (by omega);unfold cp;rw[h,ai];unfold lA;rw[if_pos this]
def jH (h:ga ρ M=.ok ds M1)(hl:ds.length<=100000:=by exact Nat.le_of_ble_eq_true rfl):du ga ρ M=.ok (.lst ds) M1:=by
 have:ds.length<=sizeLine:=fE (by omega);unfold du;rw[h,ai];unfold aA;rw[if_pos this]
def dD {r:GA}{M2:aw}(h:g ρ M=.ok d M1)(hr:r ρ M1=.ok ds M2):ae g r ρ M=.ok (d::ds) M2:=by
 unfold ae;rw[h,ai,hr,ai]
def pH {go ge:GE}{E E1:List D}(h1:go ρ M=.ok (.mr k) M)(h2:M[k]?=Z (.lst E))(h3:ge ρ M=.ok d M1)(h4:M1[k]?=Z (.lst E1))(h:E1.length<1000000) :
  i4 go ge ρ M=.ok .non (M1.set k (.lst (E1++[d]))):=by
 have l:E1.length<sizeLine:=Nat.lt_of_lt_of_le h (by rw[sizeLine_eq];decide);unfold i4;rw[h1,ai];dsimp only;rw[h2];dsimp only;rw[h3,ai];unfold u6;rw[h4];dsimp only;rw[if_pos l]
def kH {n:Nat}(h:ga ρ M=.ok [.int (n:Int)] M1)(hn:n<=1000000):d8 ga ρ M=.ok ⟨bq 0 n,Y⟩ M1:=by
 unfold d8;rw[h,ai,ze hn]
def eZ {gi:GI}{sg:GG}{b:GS}{t:jP}{o:aN Fl}(h:gi ρ M=.ok t M1)(e:bb t sg b t.ds ρ M1=o):gK gi sg b ρ M=o:=by
 unfold gK;rw[h,ai,e]
def xh {i j:Int}(h0:-1000000<=i)(h1:i<=1000000)(M:aw):dC (.int i) (.int j) M=.ok (.int (i*j)) M:=by
 have a:-(2 ^ 64:Int)<i:=Int.lt_of_lt_of_le (by decide) h0;have b:i<(2 ^ 64:Int):=Int.lt_of_le_of_lt h1 (by decide);unfold dC;dsimp only;rw[if_pos (.inl ⟨a,b⟩)]
def A8 {i j:Int}(h0:0<j)(h1:j<=1000000)(M:aw):cM (.int i) (.int j) M=.ok (.int (i / j)) M:=by
 have h2:j.natAbs<2 ^ 20:=by omega
 have h3:j.natAbs≠0:=by omega
 have h4:=(Nat.log2_lt h3).mpr h2;unfold cM;dsimp only;rw[if_pos ⟨h0,by omega⟩]
def zU (h:bx 40 d=true)(hs:mH d d=true)(hm:∀M,now d M=d)(M:aw):aU true d d M=.ok (.bl false) M:=by
 unfold aU;rw[hm,h,hs];rfl
end DL
namespace DL
open PySem L2
def fG (n:Nat):Nat->D->Bool
 | 0,_=>false
 | f+1,d=>match d with
  | .mr k=>decide (k<n)
  | .tup xs=>xs.all (fG n f)
  | .lst xs=>xs.all (fG n f)
  | .ro xs=>xs.all (fG n f)
  | _=>true
theorem gJ {n:Nat}{M:aw}:∀(f:Nat) (d:D),fG n f d=true->frz n M f d=Z d
 | 0,d,h=>by cases h
 | f+1,d,h=>by
  cases d with
  | mr k=>
   have h:decide (k<n)=true:=h;show(if k<n then Z (D.mr k) else _)=_;rw[if_pos (of_decide_eq_true h)]
  | tup xs=>
   have h:xs.all (fG n f)=true:=h;show(aV (frz n M f) xs).map D.tup=_;rw[bI λx hx=>gJ f x (List.all_eq_true.mp h x hx)];rfl
  | lst xs=>
   have h:xs.all (fG n f)=true:=h;show(aV (frz n M f) xs).map D.lst=_;rw[bI λx hx=>gJ f x (List.all_eq_true.mp h x hx)];rfl
  | ro xs=>
   have h:xs.all (fG n f)=true:=h;show(aV (frz n M f) xs).map D.ro=_;rw[bI λx hx=>gJ f x (List.all_eq_true.mp h x hx)];rfl
  | _=>rfl
theorem dQ {n:Nat}:∀(f:Nat) (d:D),aZ f d=true->fG n f d=true
 | 0,d,h=>by cases h
 | f+1,d,h=>by
  cases d with
  | mr k=>cases h
  | tup xs=>exact List.all_eq_true.mpr λx hx=>dQ f x (List.all_eq_true.mp (show xs.all (aZ f)=true from h) x hx)
  | lst xs=>exact List.all_eq_true.mpr λx hx=>dQ f x (List.all_eq_true.mp (show xs.all (aZ f)=true from h) x hx)
  | ro xs=>exact List.all_eq_true.mpr λx hx=>dQ f x (List.all_eq_true.mp (show xs.all (aZ f)=true from h) x hx)
  | _=>rfl
def sL (n:Nat):MO->Bool
 | .lst xs=>xs.all (fG n 30)
 | .obj _ fs=>fs.all λp=>fG n 30 p.2
 | .dK fs=>fs.all λp=>fG n 30 p.2
 | .dT fs=>fs.all λp=>fG n 30 p.2
def jv {n:Nat}{o:MO}(h:dh o=true):sL n o=true:=by
 cases o with
 | lst xs=>exact List.all_eq_true.mpr λx hx=>dQ 30 x (List.all_eq_true.mp (show xs.all (aZ 30)=true from h) x hx)
 | obj c fs=>exact List.all_eq_true.mpr λx hx=>dQ 30 x.2 (List.all_eq_true.mp (show(fs.all λp=>aZ 30 p.2)=true from h) x hx)
 | dK fs=>exact List.all_eq_true.mpr λx hx=>dQ 30 x.2 (List.all_eq_true.mp (show(fs.all λp=>aZ 30 p.2)=true from h) x hx)
 | dT fs=>exact List.all_eq_true.mpr λx hx=>dQ 30 x.2 (List.all_eq_true.mp (show(fs.all λp=>aZ 30 p.2)=true from h) x hx)
theorem eU {n:Nat}{M:aw}:∀{l:List MO},l.all (sL n)=true->eK n M l=Z l
 | [],_=>rfl
 | .lst xs::r,h=>by
  rw[List.all_cons,Bool.and_eq_true] at h;unfold eK;rw[eU h.2];have h1:xs.all (fG n 30)=true:=h.1;rw[bI λx hx=>gJ 30 x (List.all_eq_true.mp h1 x hx)]
 | .obj c fs::r,h=>by
  rw[List.all_cons,Bool.and_eq_true] at h;unfold eK;rw[eU h.2];have h1:(fs.all λp=>fG n 30 p.2)=true:=h.1;rw[oh λp hp=>gJ 30 p.2 (List.all_eq_true.mp h1 p hp)]
 | .dK fs::r,h=>by
  rw[List.all_cons,Bool.and_eq_true] at h;unfold eK;rw[eU h.2];have h1:(fs.all λp=>fG n 30 p.2)=true:=h.1;rw[jR λp hp=>gJ 30 p.2 (List.all_eq_true.mp h1 p hp)]
 | .dT fs::r,h=>by
  rw[List.all_cons,Bool.and_eq_true] at h;unfold eK;rw[eU h.2];have h1:(fs.all λp=>fG n 30 p.2)=true:=h.1;rw[jR λp hp=>gJ 30 p.2 (List.all_eq_true.mp h1 p hp)]
def kZ (M:aw):Prop:=M.all (sL M.length)=true
variable{M:aw}
def kZ.pure (h:M.all dh=true):kZ M:=List.all_eq_true.mpr λx hx=>jv (List.all_eq_true.mp h x hx)
def kD {d:D}{E:aw}(hd:aZ 30 d=true)(hM:kZ M):fq M.length (.ok d (M++E))=.ok d M:=by
 unfold fq
 by_cases h:(M++E).length=M.length
 ·have:E=[]:=by
   rw[List.length_append] at h;exact List.length_eq_zero_iff.mp (by omega)
  subst this;simp
 ·simp only[if_neg h];rw[List.take_left,gU 30 d hd,eU hM]
def zI {c:Str}{E:aw}(hM:kZ M):fq M.length (.err c (M++E))=.err c M:=by
 unfold fq
 by_cases h:(M++E).length=M.length
 ·have:E=[]:=by
   rw[List.length_append] at h;exact List.length_eq_zero_iff.mp (by omega)
  subst this;simp
 ·simp only[if_neg h];rw[List.take_left,eU hM]
def mV {xs:List D}(hx:xs.all (aZ 29)=true)(hM:kZ M):fq M.length (.ok (.mr M.length) (M++[.lst xs]))=.ok (.lst xs) M:=by
 have f1:=eU (n:=M.length) (M:=M++[.lst xs]) hM;have f2:frz M.length (M++[.lst xs]) 30 (.mr M.length)=Z (.lst xs):=by
  have o:aV (frz M.length (M++[.lst xs]) 29) xs=Z xs:=bI λx h=>gU 29 x (List.all_eq_true.mp hx x h)
  show(if M.length<M.length then Z (D.mr M.length) else match (M++[MO.lst xs])[M.length]? with|some (MO.lst ys)=>(aV (frz M.length (M++[MO.lst xs]) 29) ys).map D.lst|_=>Y)=_;rw[if_neg (Nat.lt_irrefl _)];simp;rw[o]
 show(if(M++[MO.lst xs]).length=M.length then aN.ok (D.mr M.length) (M++[MO.lst xs]) else match frz M.length (M++[MO.lst xs]) 30 (.mr M.length),eK M.length (M++[MO.lst xs]) ((M++[MO.lst xs]).take M.length) with|some d',Z M'=>.ok d' M'|_,_=>.bad)=_;rw[if_neg (by simp),List.take_left,f1,f2]
def Ay {k:Nat}{xs ys:List D}(h:M[k]?=Z (.lst xs))(hl:xs.length+ys.length<=100000):sU (.mr k) (.lst ys) M=.ok (.mr k) (M.set k (.lst (xs++ys))):=by
 unfold sU;dsimp only;rw[h];dsimp only;rw[show mE (.lst ys) M=Z ys from rfl];dsimp only;rw[if_pos (fE (by omega))]
variable{kvs:List (cr×D)}
def j6 {i:Nat}{y z:D}{k:cr}(h:M[i]?=Z (.dK kvs))(hk:fj y=Z k)(hg:fg kvs k=Y)(hl:kvs.length<1000000):eV i y z M=.ok z (M.set i (.dK (kvs++[(k,z)]))):=by
 unfold eV;rw[h];dsimp only;rw[hk];dsimp only;rw[hg];dsimp only;rw[if_pos (Nat.lt_of_lt_of_le hl (fE (by decide)))]
def jW {i:Nat}{y z r:D}{k:cr}(h:M[i]?=Z (.dK kvs))(hk:fj y=Z k)(hg:fg kvs k=Z r):eV i y z M=.ok r M:=by
 unfold eV;rw[h];dsimp only;rw[hk];dsimp only;rw[hg]
end DL
namespace TS
open PySem PyProof.Rows PySem.W
def gallop':Bool->Keyed->Array Keyed->Nat->Nat->Nat->StateT SortSt Sem (Option Nat):=sortPriv% PySem.Builtin.gallop
variable{arr:Array Keyed}
section
variable {prog:Program}{w:World}{A:Around}{E:Value->Shared->Prop}{s:Shared}{κ:SortKind}{G:Keyed->Prop}{key:Keyed->Int}
def LtOk (prog:Program)(w:World)(A:Around)(s:Shared)(κ:SortKind)(G:Keyed->Prop)(key:Keyed->Int):Prop:=∀x y,G x->G y->∀C:Bool->Shared->Prop,C (decide (key x<key y)) s->wpAny (model prog w) A (keyLt' κ x.1 y.1) C (λ_ _=>False) s
def wpS_lt (hL:LtOk prog w A s κ G key){x y:Keyed}(hx:G x)(hy:G y){st:SortSt}(hk:kindOf st=κ){Q:Option Bool->SortSt->Prop}(h:Q (Z (decide (key x<key y))) st):wpS (model prog w) A E s (lt' x y) Q st:=by
 rw[lt'_eq];refine wpS_bind (wpS_get ?_);rw[hk];refine wpS_bind (wpS_lift (wpAny_attempt (wpAny_mono (hL x y hx hy (λb s'=>b=decide (key x<key y)/\s'=s) ⟨rfl,rfl⟩) (λb s' hb=>?_) λ_ _ hF=>hF.elim)));refine q0x2 hb λzz0 zz1=>?_;subst zz0;subst zz1;exact⟨rfl,wpS_pure h⟩
def wpS_elem {i:Nat}{x:Keyed}(hi:arr[i]?=Z x){st:SortSt}{Q:Keyed->SortSt->Prop}(h:Q x st):wpS (model prog w) A E s (elem' arr i) Q st:=by
 rw[elem'_eq,hi];exact wpS_pure h
def bey (key:Keyed->Int)(left:Bool)(k x:Keyed):Bool:=if left then decide (key x<key k) else !decide (key k<key x)
def wpS_bey (hL:LtOk prog w A s κ G key){l:Bool}{k x:Keyed}{i:Nat}(hk:G k)(hx:G x)(hi:arr[i]?=Z x){st:SortSt}(hst:kindOf st=κ){Q:Option Bool->SortSt->Prop}(h:Q (Z (bey key l k x)) st) :
  wpS (model prog w) A E s (do let x <-elem' arr i;if l=true then lt' x k else do let r <-lt' k x;pure (Option.map (λx=>!x) r)) Q st:=by
 refine wpS_bind (wpS_elem hi ?_);cases l with
 | true=>
  rw[if_pos rfl];exact wpS_lt hL hx hk hst h
 | false=>
  rw[if_neg Bool.false_ne_true];exact wpS_bind (wpS_lt hL hk hx hst (wpS_pure h))
structure Seek (key:Keyed->Int)(G:Keyed->Prop)(l:Bool)(k:Keyed)(arr:Array Keyed)(b n:Nat)(B:Nat->Bool):Prop where
 at_:∀i,i<n->∃x,arr[b+i]?=Z x/\G x/\B i=bey key l k x
 mono:∀i j,i<=j->j<n->B j=true->B i=true
def Found (n:Nat)(B:Nat->Bool)(m:Nat):Prop:=m<=n/\(∀i,i<m->B i=true)/\∀i,m<=i->i<n->B i=false
def gallop_ok (hL:LtOk prog w A s κ G key){l:Bool}{k:Keyed}{b n hint:Nat}{B:Nat->Bool}(hk:G k)(hS:Seek key G l k arr b n B)(hh:hint<n){st:SortSt}(hst:kindOf st=κ){Q:Option Nat->SortSt->Prop}
  (h:∀m,Found n B m->Q (Z m) st):wpS (model prog w) A E s (gallop' l k arr b n hint) Q st:=by
 have be:∀i,i<n->∀{Q:Option Bool->SortSt->Prop},Q (Z (B i)) st->wpS (model prog w) A E s (do let x <-elem' arr (b+i);if l=true then lt' x k else do let r <-lt' k x;pure (Option.map (λx=>!x) r)) Q st:=λi hi Q hq=>by
  refine q1x3 (hS.at_ i hi) λx e gx eb=>?_;rw[eb] at hq;exact wpS_bey hL hk gx e hst hq
 have no:∀i j,i<=j->j<n->B i=false->B j=false:=λi j h1 h2 h3=>by
  cases q:B j with
  | false=>rfl
  | true=>rw[hS.mono i j h1 h2 q] at h3;cases h3
 refine wpS_bind (be hint hh ?_);dsimp only;cases q:B hint with
 | true=>
  rw[if_pos rfl];refine wpS_bind (wpS_mono (wpS_forRange
   (I:=λx c st'=>∃la of_,c=(Y,la,of_)/\st'=st/\(la=0\/la<n-hint)/\la<of_/\x+1<=of_/\(hint+la<n->B (hint+la)=true))
   (Q:=λc st'=>∃la of_,c=(Y,la,of_)/\st'=st/\la<of_/\hint+la<n/\B (hint+la)=true/\(hint+of_<n->B (hint+of_)=false)) ?step ?fin ⟨0,1,rfl,rfl,.inl rfl,by decide,by decide,λ_=>q⟩) ?post)
  case fin=>
   rintro c st' ⟨la,of_,rfl,rfl,h1,h2,h3,h4⟩;rw[show max 0 n=n by omega] at h3;exact⟨la,of_,rfl,rfl,h2,by omega,h4 (by omega),λz=>by omega⟩
  case step=>
   rintro x c st' _ hx ⟨la,of_,rfl,rfl,h1,h2,h3,h4⟩;dsimp only
   by_cases hm:of_≥n-hint
   ·rw[if_pos hm];exact wpS_pure ⟨la,of_,rfl,rfl,h2,by omega,h4 (by omega),λz=>by omega⟩
   ·rw[if_neg hm];refine wpS_bind (be (hint+of_) (by omega) ?_);dsimp only;cases r:B (hint+of_) with
    | true=>exact wpS_pure ⟨of_,2*of_+1,rfl,rfl,.inr (by omega),by omega,by omega,λ_=>r⟩
    | false=>exact wpS_pure ⟨la,of_,rfl,rfl,h2,by omega,h4 (by omega),λ_=>r⟩
  case post=>
   rintro c st' ⟨la,of_,rfl,rfl,h2,h3,h4,h5⟩;dsimp only;refine wpS_bind (wpS_mono (wpS_forRange
    (I:=λx c st''=>∃lo hi,c=(Y,lo,hi)/\st''=st'/\lo<=hi/\hi<=n/\hi-lo<=n-x/\(∀i,i<lo->B i=true)/\∀i,hi<=i->i<n->B i=false)
    (Q:=λc st''=>∃lo hi,c=(Y,lo,hi)/\st''=st'/\Found n B hi) ?step2 ?fin2 ⟨_,_,rfl,rfl,by omega,by omega,by omega,λi hi=>hS.mono i (hint+la) (by omega) h3 h4,λi h6 h7=>?low2⟩) ?post2)
   case low2=>
    by_cases z:of_<=n-hint
    ·rw[Nat.min_eq_left z] at h6;exact no (hint+of_) i h6 h7 (h5 (by omega))
    ·rw[Nat.min_eq_right (by omega)] at h6;omega
   case fin2=>
    rintro c st'' ⟨lo,hi,rfl,rfl,g1,g2,g3,g4,g5⟩;rw[show max 0 n=n by omega] at g3;exact⟨lo,hi,rfl,rfl,g2,λi hi=>g4 i (by omega),g5⟩
   case step2=>
    rintro x c st'' _ hx ⟨lo,hi,rfl,rfl,g1,g2,g3,g4,g5⟩;dsimp only
    by_cases hm:lo≥hi
    ·rw[if_pos hm];exact wpS_pure ⟨lo,hi,rfl,rfl,g2,λi hi=>g4 i (by omega),g5⟩
    ·rw[if_neg hm];refine wpS_bind (be (lo+(hi-lo) / 2) (by omega) ?_);dsimp only;cases r:B (lo+(hi-lo) / 2) with
     | true=>exact wpS_pure ⟨_,_,rfl,rfl,by omega,by omega,by omega,λi hi=>hS.mono i _ (by omega) (by omega) r,g5⟩
     | false=>exact wpS_pure ⟨_,_,rfl,rfl,by omega,by omega,by omega,g4,λi z1 z2=>no _ i z1 z2 r⟩
   case post2=>
    rintro c st'' ⟨lo,hi,rfl,rfl,g⟩;exact wpS_pure (h hi g)
 | false=>
  rw[if_neg Bool.false_ne_true];refine wpS_bind (wpS_mono (wpS_forRange
   (I:=λx c st'=>∃la of_,c=(Y,la,of_)/\st'=st/\la<=hint/\la<of_/\x+1<=of_/\B (hint-la)=false)
   (Q:=λc st'=>∃la of_,c=(Y,la,of_)/\st'=st/\la<of_/\la<=hint/\B (hint-la)=false/\(of_<=hint->B (hint-of_)=true)) ?step3 ?fin3 ⟨0,1,rfl,rfl,by omega,by decide,by decide,q⟩) ?post3)
  case fin3=>
   rintro c st' ⟨la,of_,rfl,rfl,h1,h2,h3,h4⟩;rw[show max 0 n=n by omega] at h3;exact⟨la,of_,rfl,rfl,h2,h1,h4,λz=>by omega⟩
  case step3=>
   rintro x c st' _ hx ⟨la,of_,rfl,rfl,h1,h2,h3,h4⟩;dsimp only
   by_cases hm:of_≥hint+1
   ·rw[if_pos hm];exact wpS_pure ⟨la,of_,rfl,rfl,h2,h1,h4,λz=>by omega⟩
   ·rw[if_neg hm];refine wpS_bind (be (hint-of_) (by omega) ?_);dsimp only;cases r:B (hint-of_) with
    | true=>exact wpS_pure ⟨la,of_,rfl,rfl,h2,h1,h4,λ_=>r⟩
    | false=>exact wpS_pure ⟨of_,2*of_+1,rfl,rfl,by omega,by omega,by omega,r⟩
  case post3=>
   rintro c st' ⟨la,of_,rfl,rfl,h2,h3,h4,h5⟩;dsimp only;refine wpS_bind (wpS_mono (wpS_forRange
    (I:=λx c st''=>∃lo hi,c=(Y,lo,hi)/\st''=st'/\lo<=hi/\hi<=n/\hi-lo<=n-x/\(∀i,i<lo->B i=true)/\∀i,hi<=i->i<n->B i=false)
    (Q:=λc st''=>∃lo hi,c=(Y,lo,hi)/\st''=st'/\Found n B hi) ?step4 ?fin4 ⟨_,_,rfl,rfl,by omega,by omega,by omega,λi hi=>?low4,λi h6 h7=>no _ i h6 h7 h4⟩) ?post4)
   case low4=>
    by_cases z:of_<=hint+1
    ·rw[Nat.min_eq_left z] at hi;exact hS.mono i (hint-of_) (by omega) (by omega) (h5 (by omega))
    ·rw[Nat.min_eq_right (by omega)] at hi;omega
   case fin4=>
    rintro c st'' ⟨lo,hi,rfl,rfl,g1,g2,g3,g4,g5⟩;rw[show max 0 n=n by omega] at g3;exact⟨lo,hi,rfl,rfl,g2,λi hi=>g4 i (by omega),g5⟩
   case step4=>
    rintro x c st'' _ hx ⟨lo,hi,rfl,rfl,g1,g2,g3,g4,g5⟩;dsimp only
    by_cases hm:lo≥hi
    ·rw[if_pos hm];exact wpS_pure ⟨lo,hi,rfl,rfl,g2,λi hi=>g4 i (by omega),g5⟩
    ·rw[if_neg hm];refine wpS_bind (be (lo+(hi-lo) / 2) (by omega) ?_);dsimp only;cases r:B (lo+(hi-lo) / 2) with
     | true=>exact wpS_pure ⟨_,_,rfl,rfl,by omega,by omega,by omega,λi hi=>hS.mono i _ (by omega) (by omega) r,g5⟩
     | false=>exact wpS_pure ⟨_,_,rfl,rfl,by omega,by omega,by omega,g4,λi z1 z2=>no _ i z1 z2 r⟩
   case post4=>
    rintro c st'' ⟨lo,hi,rfl,rfl,g⟩;exact wpS_pure (h hi g)
end
end TS
namespace TS
open PySem PyProof.Rows PySem.W
structure Mg (R:Keyed->Keyed->Prop)(W out RA RB:List Keyed):Prop where
 perm:(out++(RA++RB)).Perm W
 up:out.Pairwise R
 le:∀x∈out,∀y∈RA++RB,R x y
section
variable {R:Keyed->Keyed->Prop}{W out RA RB XS:List Keyed}{x:Keyed}
def Mg.swap (h:Mg R W out RA RB):Mg R W out RB RA:=⟨(List.Perm.append_left _ List.perm_append_comm).trans h.perm,h.up,λx hx y hy=>h.le x hx y (by
 rcases List.mem_append.mp hy with z|z
 ·exact List.mem_append_right _ z
 ·exact List.mem_append_left _ z)⟩
def Mg.as (h:Mg R W out (XS++RA) RB)(hs:(XS++RA).Pairwise R)(hx:∀x∈XS,∀y∈RB,R x y):Mg R W (out++XS) RA RB:=by
 rw[List.pairwise_append] at hs;refine⟨?_,?_,λx hx' y hy=>?_⟩
 ·have:=h.perm;rw[List.append_assoc,<-List.append_assoc XS];exact this
 ·rw[List.pairwise_append];exact⟨h.up,hs.1,λx h1 y h2=>h.le x h1 y (List.mem_append_left _ (List.mem_append_left _ h2))⟩
 ·rcases List.mem_append.mp hx' with z|z
  ·refine h.le x z y ?_;rcases List.mem_append.mp hy with u|u
   ·exact List.mem_append_left _ (List.mem_append_right _ u)
   ·exact List.mem_append_right _ u
  ·rcases List.mem_append.mp hy with u|u
   ·exact hs.2.2 x z y u
   ·exact hx x z y u
def Mg.a (h:Mg R W out (x::RA) RB)(hs:(x::RA).Pairwise R)(hx:∀y∈RB,R x y):Mg R W (out++[x]) RA RB:=
 Mg.as (XS:=[x]) h hs λz hz y hy=>by rw[List.mem_singleton.mp hz];exact hx y hy
def Mg.fin (h:Mg R W out RA [])(hs:RA.Pairwise R):(out++RA).Perm W/\(out++RA).Pairwise R:=by
 refine⟨by have:=h.perm;rwa [List.append_nil] at this,?_⟩;rw[List.pairwise_append];exact⟨h.up,hs,λx h1 y h2=>h.le x h1 y (List.mem_append_left _ h2)⟩
end
variable{i:Nat}{x:Keyed}
def drop_at {a:Array Keyed}(h:a[i]?=Z x):a.toList.drop i=x::a.toList.drop (i+1):=by
 rw[<-Array.getElem?_toList] at h;refine q1x1 (List.getElem?_eq_some_iff.mp h) λhi e=>?_;rw[List.drop_eq_getElem_cons hi,e]
def at_of {a:Array Keyed}(h:i<a.size):∃x,a[i]?=Z x/\x∈a.toList:=⟨a[i],getElem?_pos _ i h,by simp⟩
def mem_drop {a:Array Keyed}(h:x∈a.toList.drop i):∃j,a[i+j]?=Z x:=by
 obtain⟨j,hj,e⟩:=List.getElem_of_mem h;refine⟨j,?_⟩;rw[<-Array.getElem?_toList,<-e,<-List.getElem?_drop,List.getElem?_eq_getElem hj]
def mem_take {a:Array Keyed}{k:Nat}(h:x∈(a.toList.drop i).take k):∃j,j<k/\a[i+j]?=Z x:=by
 obtain⟨j,hj,e⟩:=List.getElem_of_mem h;rw[List.length_take] at hj;refine⟨j,by omega,?_⟩;rw[<-Array.getElem?_toList,<-e,<-List.getElem?_drop,List.getElem_take,List.getElem?_eq_getElem]
def leK (key:Keyed->Int)(x y:Keyed):Prop:=key x<=key y
variable{k:Keyed}
section
variable {key:Keyed->Int}{G:Keyed->Prop}
def up_at {a:Array Keyed}(h:a.toList.Pairwise (leK key)){j:Nat}{y:Keyed}(hij:i<=j)(hx:a[i]?=Z x)(hy:a[j]?=Z y):key x<=key y:=by
 rw[<-Array.getElem?_toList] at hx hy;refine q1x1 (List.getElem?_eq_some_iff.mp hx) λhi ex=>?_;refine q1x1 (List.getElem?_eq_some_iff.mp hy) λhj ey=>?_
 by_cases e:i=j
 ·subst e;rw[<-ex,<-ey];exact Int.le_refl _
 ·rw[<-ex,<-ey];exact(List.pairwise_iff_getElem.mp h) i j hi hj (by omega)
def seekB (key:Keyed->Int)(l:Bool)(k:Keyed)(a:Array Keyed)(b i:Nat):Bool:=match a[b+i]? with
 | some x=>bey key l k x
 | none=>false
def seek_of {a:Array Keyed}{l:Bool}{b n:Nat}(hG:∀i x,b<=i->i<b+n->a[i]?=Z x->G x)(hU:∀i j x y,b<=i->i<=j->j<b+n->a[i]?=Z x->a[j]?=Z y->key x<=key y)(hn:b+n<=a.size):Seek key G l k a b n (seekB key l k a b):=by
 refine⟨λi hi=>?_,λi j hij hj h=>?_⟩
 ·refine q1x2 (at_of (a:=a) (i:=b+i) (by omega)) λx e _=>?_;exact⟨x,e,hG _ x (by omega) (by omega) e,by unfold seekB;rw[e]⟩
 ·refine q1x2 (at_of (a:=a) (i:=b+i) (by omega)) λx e _=>?_;refine q1x2 (at_of (a:=a) (i:=b+j) (by omega)) λy e2 _=>?_;have le:=hU (b+i) (b+j) x y (by omega) (by omega) (by omega) e e2;unfold seekB at h ⊢;rw[e2] at h;rw[e];dsimp only at h ⊢;unfold bey at h ⊢;cases l with
  | true=>
   rw[if_pos rfl] at h ⊢;have:=of_decide_eq_true h;exact decide_eq_true (by omega)
  | false=>
   rw[if_neg Bool.false_ne_true] at h ⊢;rw[Bool.not_eq_true',decide_eq_false_iff_not] at h ⊢;omega
def found_r {a:Array Keyed}{b n m:Nat}(h:Found n (seekB key false k a b) m):(∀i x,i<m->a[b+i]?=Z x->key x<=key k)/\∀i x,m<=i->i<n->a[b+i]?=Z x->key k<key x:=by
 refine⟨λi x hi e=>?_,λi x h1 h2 e=>?_⟩
 ·have:=h.2.1 i hi;unfold seekB at this;rw[e] at this;dsimp only at this;unfold bey at this;rw[if_neg Bool.false_ne_true,Bool.not_eq_true',decide_eq_false_iff_not] at this;omega
 ·have:=h.2.2 i h1 h2;unfold seekB at this;rw[e] at this;dsimp only at this;unfold bey at this;rw[if_neg Bool.false_ne_true,Bool.not_eq_false',decide_eq_true_eq] at this;exact this
def found_l {a:Array Keyed}{b n m:Nat}(h:Found n (seekB key true k a b) m):(∀i x,i<m->a[b+i]?=Z x->key x<key k)/\∀i x,m<=i->i<n->a[b+i]?=Z x->key k<=key x:=by
 refine⟨λi x hi e=>?_,λi x h1 h2 e=>?_⟩
 ·have:=h.2.1 i hi;unfold seekB at this;rw[e] at this;dsimp only at this;unfold bey at this;rw[if_pos rfl,decide_eq_true_eq] at this;exact this
 ·have:=h.2.2 i h1 h2;unfold seekB at this;rw[e] at this;dsimp only at this;unfold bey at this;rw[if_pos rfl,decide_eq_false_iff_not] at this;omega
end
structure Sm (st st':SortSt):Prop where
 kind:kindOf st'=kindOf st
 arr:arrOf st'=arrOf st
 pend:pendingOf st'=pendingOf st
 fail:failedOf st'=failedOf st
def Sm.refl (st:SortSt):Sm st st:=⟨rfl,rfl,rfl,rfl⟩
def mergeLo':Array Keyed->Array Keyed->StateT SortSt Sem (Array Keyed):=sortPriv% PySem.Builtin.mergeLo
def mergeHi':Array Keyed->Array Keyed->StateT SortSt Sem (Array Keyed):=sortPriv% PySem.Builtin.mergeHi
structure Two (key:Keyed->Int)(G:Keyed->Prop)(a b:Array Keyed):Prop where
 ua:a.toList.Pairwise (leK key)
 ub:b.toList.Pairwise (leK key)
 ga:∀x∈a.toList,G x
 gb:∀x∈b.toList,G x
 na:1<=a.size
 nb:1<=b.size
 first:∀y,b[0]?=Z y->∀x∈a.toList,key y<=key x
 last:∀x,a[a.size-1]?=Z x->∀y∈b.toList,key y<=key x
def Good (key:Keyed->Int)(a b:Array Keyed)(r:Array Keyed):Prop:=r.toList.Perm (a.toList++b.toList)/\r.toList.Pairwise (leK key)
section
variable {key:Keyed->Int}{G:Keyed->Prop}{a b out:Array Keyed}{ia ib:Nat}
def ext_l (a:Array Keyed)(i:Nat):(a.extract i a.size).toList=a.toList.drop i:=by
 rw[Array.toList_extract,List.extract_eq_drop_take,List.take_of_length_le];rw[List.length_drop,Array.length_toList];exact Nat.le_refl _
def ext_m (a:Array Keyed)(i k:Nat):(a.extract i (i+k)).toList=(a.toList.drop i).take k:=by
 simp[Array.toList_extract,List.extract_eq_drop_take]
def LI (key:Keyed->Int)(a b out:Array Keyed)(ia ib:Nat):Prop:=Mg (leK key) (a.toList++b.toList) out.toList (a.toList.drop ia) (b.toList.drop ib)/\out.size=ia+ib
def LI.pb (T:Two key G a b)(h:LI key a b out ia ib){y:Keyed}(hy:b[ib]?=Z y)(hle:∀x∈a.toList.drop ia,key y<=key x):LI key a b (out.push y) ia (ib+1):=by
 refine⟨?_,by rw[Array.size_push,h.2];omega⟩;have m:=h.1;rw[drop_at hy] at m;rw[Array.toList_push];exact(Mg.a m.swap (by rw[<-drop_at hy];exact T.ub.drop) hle).swap
def LI.pa (T:Two key G a b)(h:LI key a b out ia ib)(hx:a[ia]?=Z x)(hle:∀y∈b.toList.drop ib,key x<=key y):LI key a b (out.push x) (ia+1) ib:=by
 refine⟨?_,by rw[Array.size_push,h.2];omega⟩;have m:=h.1;rw[drop_at hx] at m;rw[Array.toList_push];exact Mg.a m (by rw[<-drop_at hx];exact T.ua.drop) hle
def LI.as (T:Two key G a b)(h:LI key a b out ia ib){k:Nat}(hk:ia+k<=a.size)(hle:∀x∈(a.toList.drop ia).take k,∀y∈b.toList.drop ib,key x<=key y):LI key a b (out++a.extract ia (ia+k)) (ia+k) ib:=by
 refine⟨?_,by rw[Array.size_append,h.2,Array.size_extract];omega⟩;have m:=h.1;have e:a.toList.drop ia=(a.toList.drop ia).take k++a.toList.drop (ia+k):=by rw[<-List.drop_drop,List.take_append_drop]
 rw[e] at m;rw[Array.toList_append,ext_m];exact Mg.as m (by rw[<-e];exact T.ua.drop) hle
def LI.bs (T:Two key G a b)(h:LI key a b out ia ib){k:Nat}(hk:ib+k<=b.size)(hle:∀y∈(b.toList.drop ib).take k,∀x∈a.toList.drop ia,key y<=key x):LI key a b (out++b.extract ib (ib+k)) ia (ib+k):=by
 refine⟨?_,by rw[Array.size_append,h.2,Array.size_extract];omega⟩;have m:=h.1;have e:b.toList.drop ib=(b.toList.drop ib).take k++b.toList.drop (ib+k):=by rw[<-List.drop_drop,List.take_append_drop]
 rw[e] at m;rw[Array.toList_append,ext_m];exact(Mg.as m.swap (by rw[<-e];exact T.ub.drop) hle).swap
def LI.doneB (T:Two key G a b)(h:LI key a b out ia ib)(hb:ib=b.size):Good key a b (out++a.extract ia a.size++b.extract ib b.size):=by
 have m:=h.1;have e:b.toList.drop ib=[]:=List.drop_of_length_le (by rw[Array.length_toList];omega);rw[e] at m;have f:=m.fin T.ua.drop;unfold Good;rw[Array.toList_append,Array.toList_append,ext_l,ext_l,e,List.append_nil];exact f
def LI.doneA (T:Two key G a b)(h:LI key a b out ia ib)(hb:ia=a.size):Good key a b (out++a.extract ia a.size++b.extract ib b.size):=by
 have m:=h.1;have e:a.toList.drop ia=[]:=List.drop_of_length_le (by rw[Array.length_toList];omega);rw[e] at m;have f:=m.swap.fin T.ub.drop;unfold Good;rw[Array.toList_append,Array.toList_append,ext_l,ext_l,e,List.append_nil];exact f
def LI.last (T:Two key G a b)(h:LI key a b out ia ib)(hb:ia+1=a.size):Good key a b (out++b.extract ib b.size++a.extract ia a.size):=by
 refine q1x2 (at_of (a:=a) (i:=ia) (by omega)) λx e _=>?_;have hl:=T.last x (by rw[<-hb];exact e);have m:=h.1.swap;have e1:a.toList.drop ia=[x]:=by
  rw[drop_at e,List.drop_of_length_le (by rw[Array.length_toList];omega)]
 have u:(b.toList.drop ib++[]).Pairwise (leK key):=by rw[List.append_nil];exact T.ub.drop
 have m2:=Mg.as (XS:=b.toList.drop ib) (RA:=[]) (RB:=a.toList.drop ia) (by rw[List.append_nil];exact m) u λz hz y hy=>by
  rw[e1] at hy;rw[List.mem_singleton.mp hy];exact hl z (List.mem_of_mem_drop hz)
 have f:=m2.swap.fin T.ua.drop;unfold Good;rw[Array.toList_append,Array.toList_append,ext_l,ext_l];exact f
end
end TS
namespace TS
open PySem PyProof.Rows PySem.W
section
variable {prog:Program}{w:World}{A:Around}{E:Value->Shared->Prop}{s:Shared}{κ:SortKind}{G:Keyed->Prop}{key:Keyed->Int}
def setMG':Nat->StateT SortSt Sem Unit:=sortPriv% PySem.Builtin.setMinGallop
def wpS_mg {g:Nat}{st:SortSt}{Q:Unit->SortSt->Prop}(h:∀st',Sm st st'->Q () st'):wpS (model prog w) A E s (setMG' g) Q st:=by
 refine wpS_modify (h _ ⟨rfl,rfl,rfl,rfl⟩)
def Sm.trans {a b c:SortSt}(h1:Sm a b)(h2:Sm b c):Sm a c:=⟨h2.kind.trans h1.kind,h2.arr.trans h1.arr,h2.pend.trans h1.pend,h2.fail.trans h1.fail⟩
def wpS_ite {α:Type}{c:Prop}[Decidable c]{x y:StateT SortSt Sem α}{Q:α->SortSt->Prop}{st:SortSt}(h1:c->wpS (model prog w) A E s x Q st)(h2:¬c->wpS (model prog w) A E s y Q st):wpS (model prog w) A E s (if c then x else y) Q st:=by
 by_cases h:c
 ·rw[if_pos h];exact h1 h
 ·rw[if_neg h];exact h2 h
def seek_in {a:Array Keyed}(hu:a.toList.Pairwise (leK key))(hg:∀x∈a.toList,G x){l:Bool}{k:Keyed}{b n:Nat}(h:b+n<=a.size):Seek key G l k a b n (seekB key l k a b):=
 seek_of (λi x _ _ e=>hg x (by rw[<-Array.getElem?_toList] at e;exact List.mem_of_getElem? e)) (λi j x y _ hij _ ex ey=>up_at hu hij ex ey) h
def mergeLo_ok (hL:LtOk prog w A s κ G key){a b:Array Keyed}(T:Two key G a b){st:SortSt}(hst:kindOf st=κ){Q:Array Keyed->SortSt->Prop}(h:∀r st',Good key a b r->Sm st st'->Q r st') :
  wpS (model prog w) A E s (mergeLo' a b) Q st:=by
 refine wpS_bind (wpS_lift (wpAny_rule ⟨rfl,?_⟩));refine q1x2 (at_of (a:=b) (i:=0) (by have:=T.nb;omega)) λy0 e0 _=>?_;refine wpS_bind (wpS_elem e0 ?_);have l0:LI key a b #[y0] 0 1:=LI.pb (out:=#[]) T ⟨⟨by simp,List.Pairwise.nil,λx hx=>by cases hx⟩,rfl⟩ e0 (T.first y0 e0);have ta:=T.na;have tb:=T.nb;refine wpS_ite (λc1=>?_) (λc1=>?_)
 ·exact wpS_pure (h _ st (l0.doneB T (eq_of_beq c1)) (Sm.refl _))
 refine wpS_ite (λc2=>?_) (λc2=>?_)
 ·exact wpS_pure (h _ st (l0.last T (eq_of_beq c2)) (Sm.refl _))
 have c1:1≠b.size:=λz=>c1 (beq_iff_eq.mpr z)
 have c2:0+1≠a.size:=λz=>c2 (beq_iff_eq.mpr z)
 refine wpS_bind (wpS_get ?_);refine wpS_bind (wpS_mono (wpS_forRange
  (I:=λx c st'=>∃out ia ib mg,c=(Y,out,ia,ib,mg)/\LI key a b out ia ib/\ia+1<a.size/\ib<b.size/\x+1<=out.size/\Sm st st')
  (Q:=λc st'=>∃r,c.1=Z r/\Good key a b r/\Sm st st') ?step ?fin ⟨#[y0],0,1,_,rfl,l0,by omega,by omega,Nat.le_refl _,Sm.refl _⟩) ?post)
 case fin=>
  rintro c st' ⟨out,ia,ib,mg,rfl,l,h1,h2,h3,sm⟩;have:=l.2;omega
 case post=>
  rintro ⟨r',rest⟩ st' ⟨r,e,g,sm⟩;have e:r'=Z r:=e;subst e;exact wpS_pure (h r st' g sm)
 case step=>
  rintro x c st1 _ hx ⟨out,ia,ib,mg,rfl,l,h1,h2,h3,sm⟩;refine wpS_bind (wpS_mono (wpS_forRange
   (I:=λx2 c st'=>∃out' ia' ib' ac bc,c=(Y,out',ia',ib',ac,bc)/\LI key a b out' ia' ib'/\ia'+1<a.size/\ib'<b.size/\out.size+x2<=out'.size/\st'=st1)
   (Q:=λc st'=>st'=st1/\((∃r,c.1=Z r/\Good key a b r)\/∃out' ia' ib' ac bc,c=(Y,out',ia',ib',ac,bc)/\LI key a b out' ia' ib'/\ia'+1<a.size/\ib'<b.size/\out.size+1<=out'.size)) ?step2 ?fin2 ⟨out,ia,ib,0,0,rfl,l,h1,h2,Nat.le_refl _,rfl⟩) ?post2)
  case fin2=>
   rintro c st' ⟨out',ia',ib',ac,bc,rfl,l',g1,g2,g3,rfl⟩;exact⟨rfl,.inr ⟨out',ia',ib',ac,bc,rfl,l',g1,g2,by omega⟩⟩
  case step2=>
   rintro x2 c st' _ hx2 ⟨out',ia',ib',ac,bc,rfl,l',g1,g2,g3,rfl⟩;refine q1x2 (at_of (a:=b) (i:=ib') g2) λy ey my=>?_;refine q1x2 (at_of (a:=a) (i:=ia') (by omega)) λz ez mz=>?_;refine wpS_bind (wpS_elem ey (wpS_bind (wpS_elem ez (wpS_bind (wpS_lt hL (T.gb y my) (T.ga z mz) (sm.kind.trans hst) ?_)))))
   try dsimp only
   by_cases hc:key y<key z
   ·rw[decide_eq_true hc,if_pos rfl];refine wpS_bind (wpS_elem ey ?_);have l2:=l'.pb T ey λu hu=>by
     refine q1x1 (mem_drop hu) λj ej=>?_;have:=up_at T.ua (Nat.le_add_right ia' j) ez ej;omega
    refine wpS_ite (λk1=>?_) (λk1=>?_)
    ·exact wpS_pure ⟨rfl,.inl ⟨_,rfl,l2.doneB T (eq_of_beq k1)⟩⟩
    have k1:ib'+1≠b.size:=λz=>k1 (beq_iff_eq.mpr z)
    by_cases k2:bc+1≥mg
    ·rw[if_pos k2];exact wpS_pure ⟨rfl,.inr ⟨_,_,_,_,_,rfl,l2,g1,by omega,by rw[Array.size_push];omega⟩⟩
    ·rw[if_neg k2];exact wpS_pure ⟨_,_,_,_,_,rfl,l2,g1,by omega,by rw[Array.size_push];omega,rfl⟩
   ·rw[decide_eq_false hc,if_neg Bool.false_ne_true];refine wpS_bind (wpS_elem ez ?_);have l2:=l'.pa T ez λu hu=>by
     refine q1x1 (mem_drop hu) λj ej=>?_;have:=up_at T.ub (Nat.le_add_right ib' j) ey ej;omega
    refine wpS_ite (λk1=>?_) (λk1=>?_)
    ·exact wpS_pure ⟨rfl,.inl ⟨_,rfl,l2.last T (eq_of_beq k1)⟩⟩
    have k1:ia'+1+1≠a.size:=λz=>k1 (beq_iff_eq.mpr z)
    by_cases k2:ac+1≥mg
    ·rw[if_pos k2];exact wpS_pure ⟨rfl,.inr ⟨_,_,_,_,_,rfl,l2,by omega,g2,by rw[Array.size_push];omega⟩⟩
    ·rw[if_neg k2];exact wpS_pure ⟨_,_,_,_,_,rfl,l2,by omega,g2,by rw[Array.size_push];omega,rfl⟩
  case post2=>
   rintro c st' ⟨rfl,⟨r,e,g⟩|⟨out',ia',ib',ac,bc,rfl,l',g1,g2,g3⟩⟩
   ·obtain⟨r',rest⟩:=c;have e:r'=Z r:=e;subst e;exact wpS_pure ⟨r,rfl,g,sm⟩
   ·dsimp only;refine wpS_bind (wpS_lift (wpAny_rule ⟨rfl,?_⟩));refine wpS_bind (wpS_mono (wpS_forRange
     (I:=λx3 c st3=>∃out2 ia2 ib2 mg2 ac2 bc2,c=(Y,out2,ia2,ib2,mg2,ac2,bc2)/\LI key a b out2 ia2 ib2/\ia2+1<a.size/\ib2<b.size/\out.size+1<=out2.size/\Sm st st3)
     (Q:=λc st3=>Sm st st3/\((∃r,c.1=Z r/\Good key a b r)\/∃out2 ia2 ib2 mg2 ac2 bc2,c=(Y,out2,ia2,ib2,mg2,ac2,bc2)/\LI key a b out2 ia2 ib2/\ia2+1<a.size/\ib2<b.size/\out.size+1<=out2.size)) ?step3 ?fin3 ⟨out',ia',ib',_,ac,bc,rfl,l',g1,g2,g3,sm⟩) ?post3)
    case fin3=>
     rintro c st3 ⟨out2,ia2,ib2,mg2,ac2,bc2,rfl,l2,p1,p2,p3,sm3⟩;exact⟨sm3,.inr ⟨out2,ia2,ib2,mg2,ac2,bc2,rfl,l2,p1,p2,p3⟩⟩
    case post3=>
     rintro c st3 ⟨sm3,⟨r,e,g⟩|⟨out2,ia2,ib2,mg2,ac2,bc2,rfl,l2,p1,p2,p3⟩⟩
     ·obtain⟨r',rest⟩:=c;have e:r'=Z r:=e;subst e;exact wpS_pure ⟨r,rfl,g,sm3⟩
     ·try dsimp only
      refine wpS_bind (wpS_mg λst4 sm4=>wpS_pure ⟨out2,ia2,ib2,_,rfl,l2,p1,p2,by omega,sm3.trans sm4⟩)
    case step3=>
     rintro x3 c st3 _ hx3 ⟨out2,ia2,ib2,mg2,ac2,bc2,rfl,l2,p1,p2,p3,sm3⟩
     try dsimp only
     refine q1x2 (at_of (a:=b) (i:=ib2) p2) λy ey my=>?_;refine wpS_ite (λ_=>?_) (λ_=>?_)
     all_goals
      refine wpS_bind (wpS_mg λst4 sm4=>?_);have sm5:Sm st st4:=sm3.trans sm4;have k4:kindOf st4=κ:=sm5.kind.trans hst;refine wpS_bind (wpS_elem ey (wpS_bind (gallop_ok hL (T.gb y my) (seek_in T.ua T.ga (by omega)) (by omega) k4 λk fk=>?_)));refine q0x2 (found_r fk) λf1 f2=>?_;have kle:=fk.1;have hy:∀x∈a.toList.drop (ia2+k),key y<=key x:=λx hx=>by
       refine q1x1 (mem_drop hx) λj ej=>?_;have hj:ia2+k+j<a.size:=by rw[<-Array.getElem?_toList] at ej;have:=(List.getElem?_eq_some_iff.mp ej).1;rwa [Array.length_toList] at this
       have:=f2 (k+j) x (by omega) (by omega) (by rw[<-Nat.add_assoc];exact ej);omega
      apply wpS_ite
      case' h1=>
       intro hk;have l3:=l2.as T (k:=k) (by omega) λx hx z hz=>by
        refine q1x2 (mem_take hx) λj hj ej=>?_;refine q1x1 (mem_drop hz) λi ei=>?_;have h1:=f1 j x hj ej;have h2:=up_at T.ub (Nat.le_add_right ib2 i) ey ei;omega
       have s3:out2.size<=(out2++a.extract ia2 (ia2+k)).size:=by rw[Array.size_append];omega
       generalize out2++a.extract ia2 (ia2+k)=out3 at *;refine wpS_ite (λr1=>?_) (λr1=>?_)
       ·exact wpS_pure ⟨sm5,.inl ⟨_,rfl,l3.last T (eq_of_beq r1)⟩⟩
       refine wpS_ite (λr2=>?_) (λr2=>?_)
       ·exact wpS_pure ⟨sm5,.inl ⟨_,rfl,l3.doneA T (eq_of_beq r2)⟩⟩
       have r1:ia2+k+1≠a.size:=λz=>r1 (beq_iff_eq.mpr z)
       have r2:ia2+k≠a.size:=λz=>r2 (beq_iff_eq.mpr z)
       have q1:ia2+k+1<a.size:=by omega
       generalize ia2+k=ia3 at *
      case' h2=>
       intro hk;have l3:=l2;have q1:=p1;have s3:out2.size<=out2.size:=Nat.le_refl _;rw[show ia2+k=ia2 by omega] at hy;generalize ia2=ia3 at *;generalize out2=out3 at *
      all_goals
       refine wpS_bind (wpS_elem ey ?_);have l4:=l3.pb T ey hy;refine wpS_ite (λr3=>?_) (λr3=>?_)
       ·exact wpS_pure ⟨sm5,.inl ⟨_,rfl,l4.doneB T (eq_of_beq r3)⟩⟩
       have r3:ib2+1≠b.size:=λz=>r3 (beq_iff_eq.mpr z)
       refine q1x2 (at_of (a:=a) (i:=ia3) (by omega)) λz ez mz=>?_;refine wpS_bind (wpS_elem ez (wpS_bind (gallop_ok hL (T.ga z mz) (seek_in T.ub T.gb (by omega)) (by omega) k4 λk' fk'=>?_)));refine q0x2 (found_l fk') λf3 f4=>?_;have kle':=fk'.1;have hz:∀x∈b.toList.drop (ib2+1+k'),key z<=key x:=λx hx=>by
        refine q1x1 (mem_drop hx) λj ej=>?_;have hj:ib2+1+k'+j<b.size:=by rw[<-Array.getElem?_toList] at ej;have:=(List.getElem?_eq_some_iff.mp ej).1;rwa [Array.length_toList] at this
        exact f4 (k'+j) x (by omega) (by omega) (by rw[<-Nat.add_assoc];exact ej)
       apply wpS_ite
       case' h1=>
        intro hk';have l5:=l4.bs T (k:=k') (by omega) λx hx u hu=>by
         refine q1x2 (mem_take hx) λj hj ej=>?_;refine q1x1 (mem_drop hu) λi ei=>?_;have h1:=f3 j x hj ej;have h2:=up_at T.ua (Nat.le_add_right ia3 i) ez ei;omega
        have s5:out3.size<=(out3.push y++b.extract (ib2+1) (ib2+1+k')).size:=by rw[Array.size_append,Array.size_push];omega
        generalize out3.push y++b.extract (ib2+1) (ib2+1+k')=out5 at *;refine wpS_ite (λr4=>?_) (λr4=>?_)
        ·exact wpS_pure ⟨sm5,.inl ⟨_,rfl,l5.doneB T (eq_of_beq r4)⟩⟩
        have r4:ib2+1+k'≠b.size:=λz=>r4 (beq_iff_eq.mpr z)
        have q2:ib2+1+k'<b.size:=by omega
        generalize ib2+1+k'=ib5 at *
       case' h2=>
        intro hk';have l5:=l4;have q2:ib2+1<b.size:=by omega
        have s5:out3.size<=(out3.push y).size:=by rw[Array.size_push];omega
        rw[show ib2+1+k'=ib2+1 by omega] at hz;generalize out3.push y=out5 at *;generalize ib2+1=ib5 at *
       all_goals
        refine wpS_bind (wpS_elem ez ?_);have l6:=l5.pa T ez hz;refine wpS_ite (λr5=>?_) (λr5=>?_)
        ·exact wpS_pure ⟨sm5,.inl ⟨_,rfl,l6.last T (eq_of_beq r5)⟩⟩
        have r5:ia3+1+1≠a.size:=λz=>r5 (beq_iff_eq.mpr z)
        refine wpS_ite (λ_=>?_) (λ_=>?_)
        ·exact wpS_pure ⟨sm5,.inr ⟨_,_,_,_,_,_,rfl,l6,by omega,q2,by rw[Array.size_push];omega⟩⟩
        ·exact wpS_pure ⟨_,_,_,_,_,_,rfl,l6,by omega,q2,by rw[Array.size_push];omega,sm5⟩
end
end TS
namespace TS
open PySem PyProof.Rows PySem.W
def geK (key:Keyed->Int)(x y:Keyed):Prop:=key y<=key x
variable{a:Array Keyed}{x:Keyed}
def take_at {n:Nat}(h1:1<=n)(h:a[n-1]?=Z x):(a.toList.take n).reverse=x::(a.toList.take (n-1)).reverse:=by
 rw[<-Array.getElem?_toList] at h;have e:a.toList.take n=a.toList.take (n-1)++[x]:=by
  rw[show n=n-1+1 by omega,List.take_add_one,h];simp
 rw[e,List.reverse_append];rfl
def mem_first {n:Nat}(h:x∈a.toList.take n):∃j,j<n/\a[j]?=Z x:=by
 refine q1x2 (mem_take (a:=a) (i:=0) (k:=n) (by rw[List.drop_zero];exact h)) λj h1 h2=>?_;rw[Nat.zero_add] at h2;exact⟨j,h1,h2⟩
variable{l:List Keyed}
section
variable {key:Keyed->Int}{G:Keyed->Prop}{a b out:Array Keyed}{na nb:Nat}
def down_of (h:l.Pairwise (leK key)):l.reverse.Pairwise (geK key):=List.pairwise_reverse.mpr h
def HI (key:Keyed->Int)(a b out:Array Keyed)(na nb:Nat):Prop:=Mg (geK key) (a.toList++b.toList) out.toList (a.toList.take na).reverse (b.toList.take nb).reverse/\out.size+na+nb=a.size+b.size
def HI.pa (T:Two key G a b)(h:HI key a b out na nb)(h1:1<=na)(hx:a[na-1]?=Z x)(hle:∀y∈b.toList.take nb,key y<=key x):HI key a b (out.push x) (na-1) nb:=by
 refine⟨?_,by rw[Array.size_push];have:=h.2;omega⟩;have m:=h.1;rw[take_at h1 hx] at m;rw[Array.toList_push];exact Mg.a m (by rw[<-take_at h1 hx];exact down_of T.ua.take) λy hy=>hle y (List.mem_reverse.mp hy)
def HI.pb (T:Two key G a b)(h:HI key a b out na nb){y:Keyed}(h1:1<=nb)(hy:b[nb-1]?=Z y)(hle:∀x∈a.toList.take na,key x<=key y):HI key a b (out.push y) na (nb-1):=by
 refine⟨?_,by rw[Array.size_push];have:=h.2;omega⟩;have m:=h.1;rw[take_at h1 hy] at m;rw[Array.toList_push];exact(Mg.a m.swap (by rw[<-take_at h1 hy];exact down_of T.ub.take) λy hy=>hle y (List.mem_reverse.mp hy)).swap
def take_two (a:Array Keyed){m n:Nat}(h:m<=n):(a.toList.take n).reverse=((a.toList.drop m).take (n-m)).reverse++(a.toList.take m).reverse:=by
 rw[<-List.reverse_append];congr 1;have:n=m+(n-m):=by omega
 conv=>lhs;rw[this,List.take_add]
def ext_r (a:Array Keyed)(m n:Nat):(a.extract m n).reverse.toList=((a.toList.drop m).take (n-m)).reverse:=by
 rw[Array.toList_reverse,Array.toList_extract,List.extract_eq_drop_take]
def HI.as (T:Two key G a b)(h:HI key a b out na nb){m:Nat}(hm:m<=na)(hn:na<=a.size)(hle:∀x∈(a.toList.drop m).take (na-m),∀y∈b.toList.take nb,key y<=key x):HI key a b (out++(a.extract m na).reverse) m nb:=by
 refine⟨?_,by rw[Array.size_append,Array.size_reverse,Array.size_extract];have:=h.2;omega⟩;have t:=h.1;rw[take_two a hm] at t;rw[Array.toList_append,ext_r];exact Mg.as t (by rw[<-take_two a hm];exact down_of T.ua.take) λx hx y hy=>hle x (List.mem_reverse.mp hx) y (List.mem_reverse.mp hy)
def HI.bs (T:Two key G a b)(h:HI key a b out na nb){m:Nat}(hm:m<=nb)(hn:nb<=b.size)(hle:∀y∈(b.toList.drop m).take (nb-m),∀x∈a.toList.take na,key x<=key y):HI key a b (out++(b.extract m nb).reverse) na m:=by
 refine⟨?_,by rw[Array.size_append,Array.size_reverse,Array.size_extract];have:=h.2;omega⟩;have t:=h.1;rw[take_two b hm] at t;rw[Array.toList_append,ext_r];exact(Mg.as t.swap (by rw[<-take_two b hm];exact down_of T.ub.take) λx hx y hy=>hle x (List.mem_reverse.mp hx) y (List.mem_reverse.mp hy)).swap
def ext_f (a:Array Keyed)(n:Nat):(a.extract 0 n).toList=a.toList.take n:=by
 rw[Array.toList_extract,List.extract_eq_drop_take,List.drop_zero,Nat.sub_zero]
def good_rev (h:l.Perm (a.toList++b.toList)/\l.Pairwise (geK key)){r:Array Keyed}(e:r.toList=l.reverse):Good key a b r:=by
 unfold Good;rw[e];exact⟨(List.reverse_perm l).trans h.1,List.pairwise_reverse.mpr h.2⟩
def HI.doneA (T:Two key G a b)(h:HI key a b out na nb)(h0:na=0):Good key a b (a.extract 0 na++b.extract 0 nb++out.reverse):=by
 subst h0;have m:=h.1;rw[List.take_zero,List.reverse_nil] at m;refine good_rev (m.swap.fin (down_of T.ub.take)) ?_;rw[Array.toList_append,Array.toList_append,ext_f,ext_f,Array.toList_reverse,List.reverse_append,List.reverse_reverse];rfl
def HI.doneB (T:Two key G a b)(h:HI key a b out na nb)(h0:nb=0):Good key a b (a.extract 0 na++b.extract 0 nb++out.reverse):=by
 subst h0;have m:=h.1;rw[List.take_zero,List.reverse_nil] at m;refine good_rev (m.fin (down_of T.ua.take)) ?_;rw[Array.toList_append,Array.toList_append,ext_f,ext_f,Array.toList_reverse,List.reverse_append,List.reverse_reverse,List.take_zero,List.append_nil]
def HI.first (T:Two key G a b)(h:HI key a b out na nb)(h0:nb=1):Good key a b (b.extract 0 nb++a.extract 0 na++out.reverse):=by
 subst h0;refine q1x2 (at_of (a:=b) (i:=0) (by have:=T.nb;omega)) λy e _=>?_;have hl:=T.first y e;have e1:(b.toList.take 1).reverse=[y]:=by
  rw[take_at (Nat.le_refl 1) (by exact e)];simp
 have u:((a.toList.take na).reverse++[]).Pairwise (geK key):=by rw[List.append_nil];exact down_of T.ua.take
 have m2:=Mg.as (XS:=(a.toList.take na).reverse) (RA:=[]) (RB:=(b.toList.take 1).reverse) (by rw[List.append_nil];exact h.1) u λz hz x hx=>by
  rw[e1] at hx;rw[List.mem_singleton.mp hx];exact hl z (List.mem_of_mem_take (List.mem_reverse.mp hz))
 refine good_rev (m2.swap.fin (down_of T.ub.take)) ?_;rw[Array.toList_append,Array.toList_append,ext_f,ext_f,Array.toList_reverse,List.reverse_append,List.reverse_append,List.reverse_reverse,List.reverse_reverse,List.append_assoc]
end
section
variable {prog:Program}{w:World}{A:Around}{E:Value->Shared->Prop}{s:Shared}{κ:SortKind}{G:Keyed->Prop}{key:Keyed->Int}
def mergeHi_ok (hL:LtOk prog w A s κ G key){b:Array Keyed}(T:Two key G a b){st:SortSt}(hst:kindOf st=κ){Q:Array Keyed->SortSt->Prop}(h:∀r st',Good key a b r->Sm st st'->Q r st') :
  wpS (model prog w) A E s (mergeHi' a b) Q st:=by
 refine wpS_bind (wpS_lift (wpAny_rule ⟨rfl,?_⟩));have ta:=T.na;have tb:=T.nb;refine q1x2 (at_of (a:=a) (i:=a.size-1) (by omega)) λx0 e0 m0=>?_;refine wpS_bind (wpS_elem e0 ?_);have l0:HI key a b #[x0] (a.size-1) b.size:=HI.pa (out:=#[]) T (na:=a.size) ⟨⟨by
  rw[List.take_of_length_le (by rw[Array.length_toList];exact Nat.le_refl _),List.take_of_length_le (by rw[Array.length_toList];exact Nat.le_refl _)];exact(List.reverse_perm _).append (List.reverse_perm _),List.Pairwise.nil,λx hx=>by cases hx⟩,by simp⟩ ta e0 λy hy=>T.last x0 e0 y (List.mem_of_mem_take hy)
 refine wpS_ite (λc1=>?_) (λc1=>?_)
 ·exact wpS_pure (h _ st (l0.doneA T (eq_of_beq c1)) (Sm.refl _))
 refine wpS_ite (λc2=>?_) (λc2=>?_)
 ·exact wpS_pure (h _ st (l0.first T (eq_of_beq c2)) (Sm.refl _))
 have c1:a.size-1≠0:=λz=>c1 (beq_iff_eq.mpr z)
 have c2:b.size≠1:=λz=>c2 (beq_iff_eq.mpr z)
 refine wpS_bind (wpS_get ?_);refine wpS_bind (wpS_mono (wpS_forRange
  (I:=λx c st'=>∃na nb out mg,c=(Y,na,nb,out,mg)/\HI key a b out na nb/\1<=na/\na<=a.size/\2<=nb/\nb<=b.size/\x+1<=out.size/\Sm st st')
  (Q:=λc st'=>∃r,c.1=Z r/\Good key a b r/\Sm st st') ?step ?fin ⟨_,_,#[x0],_,rfl,l0,by omega,by omega,by omega,by omega,Nat.le_refl _,Sm.refl _⟩) ?post)
 case fin=>
  rintro c st' ⟨na,nb,out,mg,rfl,l,h1,h1',h2,h2',h3,sm⟩;have:=l.2;omega
 case post=>
  rintro ⟨r',rest⟩ st' ⟨r,e,g,sm⟩;have e:r'=Z r:=e;subst e;exact wpS_pure (h r st' g sm)
 case step=>
  rintro x c st1 _ hx ⟨na,nb,out,mg,rfl,l,h1,h1',h2,h2',h3,sm⟩;refine wpS_bind (wpS_mono (wpS_forRange
   (I:=λx2 c st'=>∃na2 nb2 out2 ac bc,c=(Y,na2,nb2,out2,ac,bc)/\HI key a b out2 na2 nb2/\1<=na2/\na2<=a.size/\2<=nb2/\nb2<=b.size/\out.size+x2<=out2.size/\st'=st1)
   (Q:=λc st'=>st'=st1/\((∃r,c.1=Z r/\Good key a b r)\/∃na2 nb2 out2 ac bc,c=(Y,na2,nb2,out2,ac,bc)/\HI key a b out2 na2 nb2/\1<=na2/\na2<=a.size/\2<=nb2/\nb2<=b.size/\out.size+1<=out2.size)) ?step2 ?fin2 ⟨na,nb,out,0,0,rfl,l,h1,h1',h2,h2',Nat.le_refl _,rfl⟩) ?post2)
  case fin2=>
   rintro c st' ⟨na2,nb2,out2,ac,bc,rfl,l',g1,g1',g2,g2',g3,rfl⟩;exact⟨rfl,.inr ⟨na2,nb2,out2,ac,bc,rfl,l',g1,g1',g2,g2',by omega⟩⟩
  case step2=>
   rintro x2 c st' _ hx2 ⟨na2,nb2,out2,ac,bc,rfl,l',g1,g1',g2,g2',g3,rfl⟩;refine q1x2 (at_of (a:=b) (i:=nb2-1) (by omega)) λy ey my=>?_;refine q1x2 (at_of (a:=a) (i:=na2-1) (by omega)) λz ez mz=>?_;refine wpS_bind (wpS_elem ey (wpS_bind (wpS_elem ez (wpS_bind (wpS_lt hL (T.gb y my) (T.ga z mz) (sm.kind.trans hst) ?_)))))
   try dsimp only
   by_cases hc:key y<key z
   ·rw[decide_eq_true hc,if_pos rfl];refine wpS_bind (wpS_elem ez ?_);have l2:=l'.pa T g1 ez λu hu=>by
     refine q1x2 (mem_first hu) λj hj ej=>?_;have:=up_at T.ub (show j<=nb2-1 by omega) ej ey;omega
    refine wpS_ite (λk1=>?_) (λk1=>?_)
    ·exact wpS_pure ⟨rfl,.inl ⟨_,rfl,l2.doneA T (eq_of_beq k1)⟩⟩
    have k1:na2-1≠0:=λz=>k1 (beq_iff_eq.mpr z)
    refine wpS_ite (λ_=>?_) (λ_=>?_)
    ·exact wpS_pure ⟨rfl,.inr ⟨_,_,_,_,_,rfl,l2,by omega,by omega,g2,g2',by rw[Array.size_push];omega⟩⟩
    ·exact wpS_pure ⟨_,_,_,_,_,rfl,l2,by omega,by omega,g2,g2',by rw[Array.size_push];omega,rfl⟩
   ·rw[decide_eq_false hc,if_neg Bool.false_ne_true];refine wpS_bind (wpS_elem ey ?_);have l2:=l'.pb T (by omega) ey λu hu=>by
     refine q1x2 (mem_first hu) λj hj ej=>?_;have:=up_at T.ua (show j<=na2-1 by omega) ej ez;omega
    refine wpS_ite (λk1=>?_) (λk1=>?_)
    ·exact wpS_pure ⟨rfl,.inl ⟨_,rfl,l2.first T (eq_of_beq k1)⟩⟩
    have k1:nb2-1≠1:=λz=>k1 (beq_iff_eq.mpr z)
    refine wpS_ite (λ_=>?_) (λ_=>?_)
    ·exact wpS_pure ⟨rfl,.inr ⟨_,_,_,_,_,rfl,l2,g1,g1',by omega,by omega,by rw[Array.size_push];omega⟩⟩
    ·exact wpS_pure ⟨_,_,_,_,_,rfl,l2,g1,g1',by omega,by omega,by rw[Array.size_push];omega,rfl⟩
  case post2=>
   rintro c st' ⟨rfl,⟨r,e,g⟩|⟨na2,nb2,out2,ac,bc,rfl,l',g1,g1',g2,g2',g3⟩⟩
   ·obtain⟨r',rest⟩:=c;have e:r'=Z r:=e;subst e;exact wpS_pure ⟨r,rfl,g,sm⟩
   ·try dsimp only
    refine wpS_bind (wpS_lift (wpAny_rule ⟨rfl,?_⟩));refine wpS_bind (wpS_mono (wpS_forRange
     (I:=λx3 c st3=>∃na3 nb3 out3 mg3 ac3 bc3,c=(Y,na3,nb3,out3,mg3,ac3,bc3)/\HI key a b out3 na3 nb3/\1<=na3/\na3<=a.size/\2<=nb3/\nb3<=b.size/\out.size+1<=out3.size/\Sm st st3)
     (Q:=λc st3=>Sm st st3/\((∃r,c.1=Z r/\Good key a b r)\/∃na3 nb3 out3 mg3 ac3 bc3,c=(Y,na3,nb3,out3,mg3,ac3,bc3)/\HI key a b out3 na3 nb3/\1<=na3/\na3<=a.size/\2<=nb3/\nb3<=b.size/\out.size+1<=out3.size)) ?step3 ?fin3 ⟨na2,nb2,out2,_,ac,bc,rfl,l',g1,g1',g2,g2',g3,sm⟩) ?post3)
    case fin3=>
     rintro c st3 ⟨na3,nb3,out3,mg3,ac3,bc3,rfl,l2,p1,p1',p2,p2',p3,sm3⟩;exact⟨sm3,.inr ⟨na3,nb3,out3,mg3,ac3,bc3,rfl,l2,p1,p1',p2,p2',p3⟩⟩
    case post3=>
     rintro c st3 ⟨sm3,⟨r,e,g⟩|⟨na3,nb3,out3,mg3,ac3,bc3,rfl,l2,p1,p1',p2,p2',p3⟩⟩
     ·obtain⟨r',rest⟩:=c;have e:r'=Z r:=e;subst e;exact wpS_pure ⟨r,rfl,g,sm3⟩
     ·try dsimp only
      refine wpS_bind (wpS_mg λst4 sm4=>wpS_pure ⟨na3,nb3,out3,_,rfl,l2,p1,p1',p2,p2',by omega,sm3.trans sm4⟩)
    case step3=>
     rintro x3 c st3 _ hx3 ⟨na3,nb3,out3,mg3,ac3,bc3,rfl,l2,p1,p1',p2,p2',p3,sm3⟩
     try dsimp only
     refine q1x2 (at_of (a:=b) (i:=nb3-1) (by omega)) λy ey my=>?_;refine wpS_ite (λ_=>?_) (λ_=>?_)
     all_goals
      refine wpS_bind (wpS_mg λst4 sm4=>?_);have sm5:Sm st st4:=sm3.trans sm4;have k4:kindOf st4=κ:=sm5.kind.trans hst;refine wpS_bind (wpS_elem ey (wpS_bind (gallop_ok hL (T.gb y my) (seek_in T.ua T.ga (by omega)) (by omega) k4 λm fk=>?_)));refine q0x2 (found_r fk) λf1 f2=>?_;have kle:=fk.1;have hy:∀x∈a.toList.take m,key x<=key y:=λx hx=>by
       refine q1x2 (mem_first hx) λj hj ej=>?_;exact f1 j x hj (by rw[Nat.zero_add];exact ej)
      apply wpS_ite
      case' h1=>
       intro hk;have l3:=l2.as T (m:=m) kle p1' λx hx z hz=>by
        refine q1x2 (mem_take hx) λj hj ej=>?_;refine q1x2 (mem_first hz) λi hi ei=>?_;have h1:=f2 (m+j) x (by omega) (by omega) (by rw[Nat.zero_add];exact ej);have h2:=up_at T.ub (show i<=nb3-1 by omega) ei ey;omega
       have s3:out3.size<=(out3++(a.extract m na3).reverse).size:=by rw[Array.size_append];omega
       generalize out3++(a.extract m na3).reverse=out4 at *;refine wpS_ite (λr1=>?_) (λr1=>?_)
       ·exact wpS_pure ⟨sm5,.inl ⟨_,rfl,l3.doneA T (eq_of_beq r1)⟩⟩
       have r1:m≠0:=λz=>r1 (beq_iff_eq.mpr z)
       have q1:1<=m:=by omega
       have q1':m<=a.size:=by omega
       generalize hmm:m=na4 at hy l3 q1 q1' ⊢
      case' h2=>
       intro hk;have l3:=l2;have q1:=p1;have q1':=p1';have s3:out3.size<=out3.size:=Nat.le_refl _;rw[show m=na3 by omega] at hy;generalize hmm:na3=na4 at hy l3 q1 q1' ⊢;generalize out3=out4 at *
      all_goals
       refine wpS_bind (wpS_elem ey ?_);have l4:=l3.pb T (by omega) ey hy;refine wpS_ite (λr3=>?_) (λr3=>?_)
       ·exact wpS_pure ⟨sm5,.inl ⟨_,rfl,l4.first T (eq_of_beq r3)⟩⟩
       have r3:nb3-1≠1:=λz=>r3 (beq_iff_eq.mpr z)
       refine q1x2 (at_of (a:=a) (i:=na4-1) (by omega)) λz ez mz=>?_;refine wpS_bind (wpS_elem ez (wpS_bind (gallop_ok hL (T.ga z mz) (seek_in T.ub T.gb (by omega)) (by omega) k4 λm' fk'=>?_)));refine q0x2 (found_l fk') λf3 f4=>?_;have kle':=fk'.1;have hz:∀x∈b.toList.take m',key x<=key z:=λx hx=>by
        refine q1x2 (mem_first hx) λj hj ej=>?_;have:=f3 j x hj (by rw[Nat.zero_add];exact ej);omega
       apply wpS_ite
       case' h1=>
        intro hk';have l5:=l4.bs T (m:=m') kle' (by omega) λx hx u hu=>by
         refine q1x2 (mem_take hx) λj hj ej=>?_;refine q1x2 (mem_first hu) λi hi ei=>?_;have h1:=f4 (m'+j) x (by omega) (by omega) (by rw[Nat.zero_add];exact ej);have h2:=up_at T.ua (show i<=na4-1 by omega) ei ez;omega
        have s5:out4.size<=(out4.push y++(b.extract m' (nb3-1)).reverse).size:=by rw[Array.size_append,Array.size_push];omega
        generalize out4.push y++(b.extract m' (nb3-1)).reverse=out5 at *;refine wpS_ite (λr4=>?_) (λr4=>?_)
        ·exact wpS_pure ⟨sm5,.inl ⟨_,rfl,l5.first T (eq_of_beq r4)⟩⟩
        refine wpS_ite (λr5=>?_) (λr5=>?_)
        ·exact wpS_pure ⟨sm5,.inl ⟨_,rfl,l5.doneB T (eq_of_beq r5)⟩⟩
        have r4:m'≠1:=λz=>r4 (beq_iff_eq.mpr z)
        have r5:m'≠0:=λz=>r5 (beq_iff_eq.mpr z)
        have q2:2<=m':=by omega
        have q2':m'<=b.size:=by omega
        generalize hmm2:m'=nb5 at hz l5 q2 q2' ⊢
       case' h2=>
        intro hk';have l5:=l4;have q2:2<=nb3-1:=by omega
        have q2':nb3-1<=b.size:=by omega
        have s5:out4.size<=(out4.push y).size:=by rw[Array.size_push];omega
        rw[show m'=nb3-1 by omega] at hz;generalize out4.push y=out5 at *;generalize hmm2:nb3-1=nb5 at hz l5 q2 q2' ⊢
       all_goals
        refine wpS_bind (wpS_elem ez ?_);have l6:=l5.pa T (by omega) ez hz;refine wpS_ite (λr6=>?_) (λr6=>?_)
        ·exact wpS_pure ⟨sm5,.inl ⟨_,rfl,l6.doneA T (eq_of_beq r6)⟩⟩
        have r6:na4-1≠0:=λz=>r6 (beq_iff_eq.mpr z)
        refine wpS_ite (λ_=>?_) (λ_=>?_)
        ·exact wpS_pure ⟨sm5,.inr ⟨_,_,_,_,_,_,rfl,l6,by omega,by omega,q2,q2',by rw[Array.size_push];omega⟩⟩
        ·exact wpS_pure ⟨_,_,_,_,_,_,rfl,l6,by omega,by omega,q2,q2',by rw[Array.size_push];omega,sm5⟩
end
end TS
namespace TS
open PySem PyProof.Rows PySem.W
theorem fold_at {α:Type}(sa:Nat):∀(l:List α) (n:Nat) (a:Array α) (k:Nat),((l.zipIdx n).foldl (λa (p,j)=>a.setIfInBounds (sa+j) p) a)[k]?=if sa+n<=k/\k<sa+n+l.length/\k<a.size then l[k-(sa+n)]? else a[k]?
 | [],n,a,k=>by
  rw[if_neg (by simp;omega)];rfl
 | x::l,n,a,k=>by
  rw[List.zipIdx_cons,List.foldl_cons,fold_at sa l (n+1)];dsimp only;rw[Array.size_setIfInBounds,Array.getElem?_setIfInBounds,List.length_cons]
  by_cases h1:sa+n=k
  ·subst h1;rw[if_neg (by omega),if_pos rfl]
   by_cases h2:sa+n<a.size
   ·rw[if_pos h2,if_pos ⟨by omega,by omega,h2⟩,Nat.sub_self];rfl
   ·rw[if_neg h2,if_neg (by omega)];exact(Array.getElem?_eq_none (by omega)).symm
  ·rw[if_neg h1]
   by_cases h2:sa+(n+1)<=k/\k<sa+(n+1)+l.length/\k<a.size
   ·rw[if_pos h2,if_pos ⟨by omega,by omega,h2.2.2⟩,show k-(sa+n)=k-(sa+(n+1))+1 by omega,List.getElem?_cons_succ]
   ·rw[if_neg h2,if_neg (by omega)]
def fold_list {α:Type}{a:Array α}{m:Array α}{sa:Nat}{P X S:List α}(ha:a.toList=P++(X++S))(hp:P.length=sa)(hx:X.length=m.size):(m.toList.zipIdx.foldl (λa (p,j)=>a.setIfInBounds (sa+j) p) a).toList=P++(m.toList++S):=by
 have hs:a.size=P.length+(X.length+S.length):=by rw[<-Array.length_toList,ha,List.length_append,List.length_append]
 apply List.ext_getElem?;intro k;rw[Array.getElem?_toList,fold_at sa m.toList 0 a k,Nat.add_zero,Array.length_toList,<-Array.getElem?_toList,ha]
 by_cases h1:k<sa
 ·rw[if_neg (by omega),List.getElem?_append_left (by omega),List.getElem?_append_left (by omega)]
 ·have e1:(P++(X++S))[k]?=(X++S)[k-sa]?:=by rw[List.getElem?_append_right (by omega),hp]
  have e2:(P++(m.toList++S))[k]?=(m.toList++S)[k-sa]?:=by rw[List.getElem?_append_right (by omega),hp]
  rw[e1,e2]
  by_cases h2:k<sa+m.size
  ·rw[if_pos ⟨by omega,h2,by omega⟩,List.getElem?_append_left (by rw[Array.length_toList];omega)]
  ·have e3:(X++S)[k-sa]?=S[k-sa-m.size]?:=by rw[List.getElem?_append_right (by omega),hx]
   have e4:(m.toList++S)[k-sa]?=S[k-sa-m.size]?:=by rw[List.getElem?_append_right (by rw[Array.length_toList];omega),Array.length_toList]
   rw[if_neg (by omega),e3,e4]
variable{a:Array Keyed}{U:List Keyed}
def at_mid {L0 R:List Keyed}(ha:a.toList=L0++(U++R))(i:Nat)(hi:i<U.length):a[L0.length+i]?=U[i]?:=by
 rw[<-Array.getElem?_toList,ha,List.getElem?_append_right (by omega),Nat.add_sub_cancel_left,List.getElem?_append_left hi]
def ext_mid {L0 R:List Keyed}(ha:a.toList=L0++(U++R)){i j:Nat}(hi:i=L0.length)(hj:j=L0.length+U.length):(a.extract i j).toList=U:=by
 subst hi hj;rw[Array.toList_extract,List.extract_eq_drop_take,ha,List.drop_left,Nat.add_sub_cancel_left,List.take_left]
section
variable {prog:Program}{w:World}{A:Around}{E:Value->Shared->Prop}{s:Shared}{κ:SortKind}{G:Keyed->Prop}{key:Keyed->Int}
def wpS_set {st x:SortSt}{Q:PUnit->SortSt->Prop}(h:Q ⟨⟩ x):wpS (model prog w) A E s (set x:StateT SortSt Sem PUnit) Q st:=by
 unfold wpS;rw[StateT.run_set];exact wpAny_pure ⟨rfl,h⟩
def wpS_set' {st x:SortSt}{Q:PUnit->SortSt->Prop}(h:∀st2:SortSt,PyProof.Rows.kindOf st2=PyProof.Rows.kindOf x->arrOf st2=arrOf x->pendingOf st2=pendingOf x->failedOf st2=failedOf x->Q ⟨⟩ st2):wpS (model prog w) A E s (set x:StateT SortSt Sem PUnit) Q st:=wpS_set (h x rfl rfl rfl rfl)
def seek_mid {L0 R:List Keyed}(ha:a.toList=L0++(U++R))(hu:U.Pairwise (leK key))(hg:∀x∈U,G x){l:Bool}{k:Keyed}{b n:Nat}(hb:b=L0.length)(hn:n=U.length):Seek key G l k a b n (seekB key l k a b):=by
 subst hb hn;have sz:a.size=L0.length+(U.length+R.length):=by rw[<-Array.length_toList,ha,List.length_append,List.length_append]
 refine seek_of (λi x h1 h2 e=>?_) (λi j x y h1 h2 h3 ex ey=>?_) (by omega)
 ·rw[show i=L0.length+(i-L0.length) by omega,at_mid ha _ (by omega)] at e;exact hg x (List.mem_of_getElem? e)
 ·rw[show i=L0.length+(i-L0.length) by omega,at_mid ha _ (by omega)] at ex;rw[show j=L0.length+(j-L0.length) by omega,at_mid ha _ (by omega)] at ey;refine q1x1 (List.getElem?_eq_some_iff.mp ex) λhi ei=>?_;refine q1x1 (List.getElem?_eq_some_iff.mp ey) λhj ej=>?_;rw[<-ei,<-ej]
  by_cases q:i-L0.length=j-L0.length
  ·simp only[q];exact Int.le_refl _
  ·exact List.pairwise_iff_getElem.mp hu _ _ hi hj (by omega)
def mem_t {k:Nat}{x:Keyed}(h:x∈U.take k):∃i,i<k/\U[i]?=Z x:=by
 obtain⟨i,hi,e⟩:=List.getElem_of_mem h;rw[List.length_take] at hi;exact⟨i,by omega,by rw[<-e,List.getElem_take,List.getElem?_eq_getElem]⟩
def mem_d {k:Nat}{x:Keyed}(h:x∈U.drop k):∃i,k<=i/\i<U.length/\U[i]?=Z x:=by
 obtain⟨i,hi,e⟩:=List.getElem_of_mem h;rw[List.length_drop] at hi;exact⟨k+i,by omega,by omega,by rw[<-e,List.getElem_drop,List.getElem?_eq_getElem]⟩
structure Nx (st st':SortSt)(L:List Keyed)(p:Array (Nat×Nat×Nat)):Prop where
 kind:kindOf st'=kindOf st
 arr:(arrOf st').toList=L
 pend:pendingOf st'=p
 fail:failedOf st'=failedOf st
def mergeAt_ok (hL:LtOk prog w A s κ G key){st:SortSt}(hst:kindOf st=κ)(hf:failedOf st=Y){i sa na pw sb nb pw2:Nat}{L0 V R:List Keyed}(hp1:(pendingOf st)[i]?=Z (sa,na,pw))(hp2:(pendingOf st)[i+1]?=Z (sb,nb,pw2))
  (ha:(arrOf st).toList=L0++(U++(V++R))) (h0:sa=L0.length) (h1:na=U.length) (h2:nb=V.length) (h3:sb=sa+na) (hu:U.Pairwise (leK key)) (hv:V.Pairwise (leK key)) (hU:U≠[]) (hV:V≠[]) (gu:∀x∈U,G x) (gv:∀x∈V,G x) {Q:Bool->SortSt->Prop}
  (h:∀Z st',Z.Perm (U++V)->Z.Pairwise (leK key)->Nx st st' (L0++(Z++R)) (((pendingOf st).setIfInBounds i (sa,na+nb,pw)).eraseIdxIfInBounds (i+1))->Q true st'):wpS (model prog w) A E s (mergeAt' i) Q st:=by
 have u1:=List.length_pos_iff.mpr hU;have v1:=List.length_pos_iff.mpr hV;refine wpS_bind (wpS_get ?_);dsimp only;have e1:(sortPriv% PySem.Builtin.SortState.pending) st=pendingOf st:=rfl;rw[hp1,hp2];dsimp only;refine wpS_bind (wpS_set' λst2 k2 a2 p2 f2=>?_);have k2:kindOf st2=κ:=k2.trans hst;have a2:arrOf st2=arrOf st:=a2;have p2:pendingOf st2=((pendingOf st).setIfInBounds i (sa,na+nb,pw)).eraseIdxIfInBounds (i+1):=p2;have f2:failedOf st2=Y:=f2.trans hf;obtain⟨y,ey⟩:∃y,V[0]?=Z y:=⟨V[0],List.getElem?_eq_getElem v1⟩;have haV:(arrOf st).toList=(L0++U)++(V++R):=by rw[ha,List.append_assoc]
 have ey2:(arrOf st)[sb]?=Z y:=by
  have:=at_mid haV 0 v1;rw[List.length_append,Nat.add_zero] at this;rw[h3,h0,h1,this];exact ey
 refine wpS_bind (wpS_elem ey2 (wpS_bind (gallop_ok (n:=na) (hint:=0) hL (gv y (List.mem_of_getElem? ey)) (seek_mid (L0:=L0) (U:=U) ha hu gu h0 h1) (by omega) k2 λk fk=>?_)));dsimp only;refine q0x2 (found_r fk) λq1 q2=>?_;have kle:=fk.1;have at1:∀j x,U[j]?=Z x->(arrOf st)[sa+j]?=Z x:=λj x e=>by
  rw[h0,at_mid ha j (List.getElem?_eq_some_iff.mp e).1];exact e
 have at2:∀j x,V[j]?=Z x->(arrOf st)[sb+j]?=Z x:=λj x e=>by
  have:=at_mid haV j (List.getElem?_eq_some_iff.mp e).1;rw[List.length_append] at this;rw[h3,h0,h1,this];exact e
 have vy:∀v∈V,key y<=key v:=λv hv'=>by
  cases V with
  | nil=>cases hv'
  | cons v0 V=>
   have:y=v0:=(Option.some.inj ey).symm;subst this;rcases List.mem_cons.mp hv' with rfl|z
   ·exact Int.le_refl _
   ·exact(List.pairwise_cons.mp hv).1 v z
 have lo1:∀u∈U.take k,key u<=key y:=λu hu'=>by
  refine q1x2 (mem_t hu') λj hj e=>?_;exact q1 j u hj (at1 j u e)
 have hi1:∀u∈U.drop k,key y<key u:=λu hu'=>by
  refine q1x3 (mem_d hu') λj hj hj2 e=>?_;exact q2 j u hj (by omega) (at1 j u e)
 have same:(U++V).Pairwise (leK key)->wpS (model prog w) A E s (pure true) Q st2:=λhs=>wpS_pure (h (U++V) st2 (List.Perm.refl _) hs ⟨by rw[k2,hst],by rw[a2,ha,List.append_assoc],p2,by rw[f2,hf]⟩)
 refine wpS_ite (λz1=>?_) (λz1=>?_)
 ·have z1:=eq_of_beq z1;refine same (List.pairwise_append.mpr ⟨hu,hv,λu hu' v hv'=>?_⟩);have:=lo1 u (by rw[List.take_of_length_le (by omega)];exact hu');exact Int.le_trans this (vy v hv')
 have z1:na-k≠0:=λz=>z1 (beq_iff_eq.mpr z)
 obtain⟨x,ex⟩:∃x,U[na-1]?=Z x:=⟨U[na-1]'(by omega),List.getElem?_eq_getElem _⟩;have ex2:(arrOf st)[sa+k+(na-k)-1]?=Z x:=by
  rw[show sa+k+(na-k)-1=sa+(na-1) by omega];exact at1 _ x ex
 refine wpS_bind (wpS_elem ex2 (wpS_bind (gallop_ok (n:=nb) (hint:=nb-1) hL (gu x (List.mem_of_getElem? ex)) (seek_mid (L0:=L0++U) (U:=V) haV hv gv (by rw[List.length_append];omega) h2) (by omega) k2 λk' fk'=>?_)));dsimp only;refine q0x2 (found_l fk') λq3 q4=>?_;have kle':=fk'.1;have ux:∀u∈U,key u<=key x:=λu hu'=>by
  obtain⟨j,hj,e⟩:=List.getElem_of_mem hu';refine q1x1 (List.getElem?_eq_some_iff.mp ex) λhn en=>?_;rw[<-e,<-en]
  by_cases q:j=na-1
  ·simp only[q];exact Int.le_refl _
  ·exact List.pairwise_iff_getElem.mp hu _ _ hj hn (by omega)
 have lo2:∀v∈V.take k',key v<key x:=λv hv'=>by
  refine q1x2 (mem_t hv') λj hj e=>?_;exact q3 j v hj (at2 j v e)
 have hi2:∀v∈V.drop k',key x<=key v:=λv hv'=>by
  refine q1x3 (mem_d hv') λj hj hj2 e=>?_;exact q4 j v hj (by omega) (at2 j v e)
 refine wpS_ite (λz2=>?_) (λz2=>?_)
 ·have z2:=eq_of_beq z2;refine same (List.pairwise_append.mpr ⟨hu,hv,λu hu' v hv'=>?_⟩);subst z2;exact Int.le_trans (ux u hu') (hi2 v (by rw[List.drop_zero];exact hv'))
 have z2:k'≠0:=λz=>z2 (beq_iff_eq.mpr z)
 have haX:(arrOf st).toList=(L0++U.take k)++(U.drop k++(V++R)):=by rw[ha,List.append_assoc,<-List.append_assoc (U.take k),List.take_append_drop]
 have haY:(arrOf st).toList=(L0++U)++(V.take k'++(V.drop k'++R)):=by rw[haV,<-List.append_assoc (V.take k'),List.take_append_drop]
 have lt1:(U.take k).length=k:=by rw[List.length_take];omega
 have lt2:(V.take k').length=k':=by rw[List.length_take];omega
 have ld1:(U.drop k).length=na-k:=by rw[List.length_drop];omega
 have eX:((arrOf st).extract (sa+k) sb).toList=U.drop k:=ext_mid haX (by rw[List.length_append,lt1,h0]) (by rw[List.length_append,lt1,ld1];omega);have eY:((arrOf st).extract sb (sb+k')).toList=V.take k':=ext_mid haY (by rw[List.length_append];omega) (by rw[List.length_append,lt2];omega);generalize hX:(arrOf st).extract (sa+k) sb=XA at *;generalize hY:(arrOf st).extract sb (sb+k')=YA at *;have sX:XA.size=na-k:=by rw[<-Array.length_toList,eX,ld1]
 have sY:YA.size=k':=by rw[<-Array.length_toList,eY,lt2]
 have T:Two key G XA YA:=by
  refine⟨by rw[eX];exact hu.drop,by rw[eY];exact hv.take,λx hx=>gu x ?_,λx hx=>gv x ?_,by omega,by omega,λy' e x' hx=>?_,λx' e y' hy=>?_⟩
  ·rw[eX] at hx;exact List.mem_of_mem_drop hx
  ·rw[eY] at hx;exact List.mem_of_mem_take hx
  ·rw[<-Array.getElem?_toList,eY,List.getElem?_take,if_pos (by omega),ey] at e;cases e;rw[eX] at hx;exact Int.le_of_lt (hi1 x' hx)
  ·rw[<-Array.getElem?_toList,eX,List.getElem?_drop,sX,show k+(na-k-1)=na-1 by omega,ex] at e;cases e;rw[eY] at hy;exact Int.le_of_lt (lo2 y' hy)
 have fin:∀(r:Array Keyed) (st3:SortSt),Good key XA YA r->Sm st2 st3->wpS (model prog w) A E s (do
   modify λst=>setArr st (r.toList.zipIdx.foldl (λa (p,j)=>a.setIfInBounds (sa+k+j) p) (arrOf st))
   let st <-get
   pure (failedOf st).isNone) Q st3:=λr st3 g sm=>by
  refine q0x2 g λgp gs=>?_;rw[eX,eY] at gp;have rl:r.size=(na-k)+k':=by rw[<-Array.length_toList,gp.length_eq,List.length_append,ld1,lt2]
  have fl:=fold_list (a:=arrOf st3) (m:=r) (sa:=sa+k) (P:=L0++U.take k) (X:=U.drop k++V.take k') (S:=V.drop k'++R) (by
   rw[sm.arr,a2,haX,List.append_assoc (U.drop k),<-List.append_assoc (V.take k'),List.take_append_drop]) (by rw[List.length_append,lt1,h0]) (by rw[List.length_append,ld1,lt2,rl])
  refine wpS_bind (wpS_modify (wpS_bind (wpS_get ?_)));have ff:failedOf st3=Y:=by rw[sm.fail,f2]
  show wpS _ _ _ _ (pure (failedOf st3).isNone) Q _;rw[ff];refine wpS_pure (h (U.take k++(r.toList++V.drop k')) _ ?_ ?_ ⟨?_,?_,?_,?_⟩)
  ·refine(List.Perm.append_left _ (List.Perm.append_right _ gp)).trans (.of_eq ?_);rw[List.append_assoc,List.take_append_drop,<-List.append_assoc,List.take_append_drop]
  ·rw[List.pairwise_append,List.pairwise_append];refine⟨hu.take,⟨gs,hv.drop,λc hc v hv'=>?_⟩,λu hu' c hc=>?_⟩
   ·rcases List.mem_append.mp (gp.subset hc) with z|z
    ·exact Int.le_trans (ux c (List.mem_of_mem_drop z)) (hi2 v hv')
    ·exact Int.le_trans (Int.le_of_lt (lo2 c z)) (hi2 v hv')
   ·rcases List.mem_append.mp hc with z|z
    ·rcases List.mem_append.mp (gp.subset z) with z|z
     ·have:=lo1 u hu';have:=hi1 c z;exact(show key u<=key c by omega)
     ·exact Int.le_trans (lo1 u hu') (vy c (List.mem_of_mem_take z))
    ·exact Int.le_trans (lo1 u hu') (vy c (List.mem_of_mem_drop z))
  ·show kindOf st3=_;rw[sm.kind,k2,hst]
  ·show(r.toList.zipIdx.foldl (λa (p,j)=>a.setIfInBounds (sa+k+j) p) (arrOf st3)).toList=_;rw[fl,List.append_assoc,List.append_assoc,List.append_assoc]
  ·show pendingOf st3=_;rw[sm.pend,p2]
  ·show failedOf st3=_;rw[ff,hf]
 refine wpS_ite (λ_=>?_) (λ_=>?_)
 ·exact wpS_bind (mergeLo_ok hL T k2 λr st3 g sm=>fin r st3 g sm)
 ·exact wpS_bind (mergeHi_ok hL T k2 λr st3 g sm=>fin r st3 g sm)
end
end TS
namespace TS
open PySem PyProof.Rows PySem.W
variable{a:Array Keyed}{D:List Keyed}{y:Keyed}{i:Nat}
def at_next {L0 R:List Keyed}(ha:a.toList=L0++(D++y::R))(hi:i=L0.length+D.length):a[i]?=Z y:=by
 subst hi;rw[<-Array.getElem?_toList,ha,List.getElem?_append_right (by omega),Nat.add_sub_cancel_left,List.getElem?_append_right (Nat.le_refl _),Nat.sub_self];rfl
def at_last {L0 R:List Keyed}{z:Keyed}(ha:a.toList=L0++(D++[z]++R))(hi:i=L0.length+D.length):a[i]?=Z z:=
 at_next (R:=R) (by rw[ha,List.append_assoc D];rfl) hi
def mirror_list {P S R:List Keyed}(ha:a.toList=P++(S++R)){j:Nat}(hi:i=P.length)(hj:j=P.length+S.length):(mirror a i j ((j-i) / 2)).toList=P++(S.reverse++R):=by
 have hs:a.size=P.length+(S.length+R.length):=by rw[<-Array.length_toList,ha,List.length_append,List.length_append]
 apply List.ext_getElem?;intro k;rw[Array.getElem?_toList,getElem?_mirror_all (by omega)];subst hi hj
 by_cases h1:P.length<=k/\k<P.length+S.length
 ·rw[if_pos h1,<-Array.getElem?_toList,ha,List.getElem?_append_right (by omega),List.getElem?_append_left (by omega)];have e2:(P++(S.reverse++R))[k]?=(S.reverse++R)[k-P.length]?:=List.getElem?_append_right (by omega);rw[e2,List.getElem?_append_left (by rw[List.length_reverse];omega),List.getElem?_reverse (by omega)];congr 1;omega
 ·rw[if_neg h1,<-Array.getElem?_toList,ha]
  by_cases h2:k<P.length
  ·rw[List.getElem?_append_left h2,List.getElem?_append_left h2]
  ·have e1:(P++(S++R))[k]?=(S++R)[k-P.length]?:=List.getElem?_append_right (by omega);have e2:(P++(S.reverse++R))[k]?=(S.reverse++R)[k-P.length]?:=List.getElem?_append_right (by omega);rw[e1,e2,List.getElem?_append_right (by omega),List.getElem?_append_right (by rw[List.length_reverse];omega),List.length_reverse]
def bubble_list {P X S R:List Keyed}(ha:a.toList=P++(X++(S++y::R))){src d:Nat}(h1:src=P.length+X.length+S.length)(h2:d=S.length):(bubble a src d).toList=P++(X++(y::(S++R))):=by
 have hs:a.size=P.length+(X.length+(S.length+(R.length+1))):=by rw[<-Array.length_toList,ha];simp
 have hy:a[src]?=Z y:=at_next (L0:=P++X) (D:=S) (R:=R) (by rw[ha,List.append_assoc]) (by rw[List.length_append];omega);apply List.ext_getElem?;intro k;rw[Array.getElem?_toList,getElem?_bubble (by omega) d (by omega) k];have e0:P++(X++(y::(S++R)))=(P++X)++([y]++(S++R)):=by rw[List.append_assoc];rfl
 have e1:P++(X++(S++y::R))=(P++X)++(S++([y]++R)):=by rw[List.append_assoc];rfl
 have lp:(P++X).length=src-d:=by rw[List.length_append];omega
 rw[e0];rw[e1] at ha;generalize P++X=PX at *
 by_cases q1:k=src-d
 ·subst q1;rw[if_pos rfl,hy,List.getElem?_append_right (by omega),lp,Nat.sub_self];rfl
 rw[if_neg q1]
 by_cases q2:src-d<k/\k<=src
 ·rw[if_pos q2,<-Array.getElem?_toList,ha];have r1:(PX++(S++([y]++R)))[k-1]?=S[k-1-PX.length]?:=by rw[List.getElem?_append_right (by omega),List.getElem?_append_left (by omega)]
  have r2:(PX++([y]++(S++R)))[k]?=(S++R)[k-PX.length-1]?:=by rw[List.getElem?_append_right (by omega),List.getElem?_append_right (show [y].length<=_ by rw[List.length_singleton];omega),List.length_singleton]
  rw[r1,r2,List.getElem?_append_left (by omega)];congr 1;omega
 ·rw[if_neg q2,<-Array.getElem?_toList,ha]
  by_cases q3:k<PX.length
  ·rw[List.getElem?_append_left q3,List.getElem?_append_left q3]
  ·have r1:(PX++(S++([y]++R)))[k]?=R[k-PX.length-S.length-1]?:=by
    rw[List.getElem?_append_right (by omega),List.getElem?_append_right (by omega),List.getElem?_append_right (show [y].length<=_ by rw[List.length_singleton];omega),List.length_singleton]
   have r2:(PX++([y]++(S++R)))[k]?=R[k-PX.length-1-S.length]?:=by
    rw[List.getElem?_append_right (by omega),List.getElem?_append_right (show [y].length<=_ by rw[List.length_singleton];omega),List.length_singleton,List.getElem?_append_right (by omega)]
   rw[r1,r2];congr 1;omega
section
variable {prog:Program}{w:World}{A:Around}{E:Value->Shared->Prop}{s:Shared}{κ:SortKind}{G:Keyed->Prop}{key:Keyed->Int}
def wpS_at (hL:LtOk prog w A s κ G key){st:SortSt}(hst:kindOf st=κ){j:Nat}{x:Keyed}(hi:(arrOf st)[i]?=Z x)(hj:(arrOf st)[j]?=Z y)(hx:G x)(hy:G y){Q:Option Bool->SortSt->Prop}(h:Q (Z (decide (key x<key y))) st):wpS (model prog w) A E s (ltAt' i j) Q st:=by
 rw[ltAt'_eq];refine wpS_bind (wpS_get ?_);exact wpS_bind (wpS_elem hi (wpS_bind (wpS_elem hj (wpS_lt hL hx hy hst h))))
def up_snoc {z:Keyed}(h:(D++[z]).Pairwise (leK key))(hy:key z<=key y):(D++[z]++[y]).Pairwise (leK key):=by
 rw[List.pairwise_append];refine⟨h,List.pairwise_singleton _ _,λd hd u hu=>?_⟩;rw[List.mem_singleton.mp hu];rcases List.mem_append.mp hd with q|q
 ·exact Int.le_trans ((List.pairwise_append.mp h).2.2 d q z (List.mem_singleton.mpr rfl)) hy
 ·rw[List.mem_singleton.mp q];exact hy
def down_snoc {z:Keyed}(h:(D++[z]).Pairwise (geK key))(hy:key y<=key z):(D++[z]++[y]).Pairwise (geK key):=by
 rw[List.pairwise_append];refine⟨h,List.pairwise_singleton _ _,λd hd u hu=>?_⟩;rw[List.mem_singleton.mp hu];rcases List.mem_append.mp hd with q|q
 ·exact Int.le_trans hy ((List.pairwise_append.mp h).2.2 d q z (List.mem_singleton.mpr rfl))
 ·rw[List.mem_singleton.mp q];exact hy
def AllEq (key:Keyed->Int)(l:List Keyed):Prop:=∀e∈l,∀f∈l,key e=key f
def eq_rev {P Eq:List Keyed}(h:(P++Eq).Pairwise (geK key))(he:AllEq key Eq):(P++Eq.reverse).Pairwise (geK key):=by
 rw[List.pairwise_append] at h ⊢;refine⟨h.1,List.Pairwise.imp_of_mem (R:=λ_ _=>True) (λ{a b} ha hb _=>?_) (List.pairwise_of_forall λ_ _=>trivial),λa ha b hb=>h.2.2 a ha b (List.mem_reverse.mp hb)⟩;exact Int.le_of_eq (he b (List.mem_reverse.mp hb) a (List.mem_reverse.mp ha))
def snoc_of (h:D≠[]):∃D' z,D=D'++[z]:=⟨D.dropLast,D.getLast h,(List.dropLast_concat_getLast h).symm⟩
def Rn (st:SortSt)(L0 R D R':List Keyed)(st':SortSt):Prop:=Nx st st' (L0++(D++R')) (pendingOf st)/\(D++R').Perm R
def wpS_rev (hL:LtOk prog w A s κ G key){st st1:SortSt}{L0 R P S R':List Keyed}(hr:Rn st L0 R (P++S) R' st1){j:Nat}(hi:i=L0.length+P.length)(hj:j=L0.length+P.length+S.length){Q:Unit->SortSt->Prop}(h:∀st2,Rn st L0 R (P++S.reverse) R' st2->Q () st2):wpS (model prog w) A E s (reverseSlice' i j) Q st1:=by
 refine wpS_reverse (h _ ⟨⟨hr.1.kind,?_,hr.1.pend,hr.1.fail⟩,?_⟩)
 ·have:=mirror_list (a:=arrOf st1) (P:=L0++P) (S:=S) (R:=R') (by rw[hr.1.arr,List.append_assoc,List.append_assoc]) (i:=i) (j:=j) (by rw[List.length_append];exact hi) (by rw[List.length_append];exact hj);show(mirror (arrOf st1) i j ((j-i) / 2)).toList=_;rw[this,List.append_assoc,List.append_assoc]
 ·refine List.Perm.trans ?_ hr.2;exact List.Perm.append_right _ (List.Perm.append_left _ (List.reverse_perm S))
def Rn.mem {st st':SortSt}{L0 R R':List Keyed}(h:Rn st L0 R D R' st'){P:Keyed->Prop}(hP:∀x∈R,P x):∀x∈D++R',P x:=λx hx=>hP x (h.2.subset hx)
def countRun_ok (hL:LtOk prog w A s κ G key){st:SortSt}(hst:kindOf st=κ){L0 R:List Keyed}{lo nrem:Nat}(ha:(arrOf st).toList=L0++R)(hlo:lo=L0.length)(hn:nrem=R.length)(hR:R≠[])(gR:∀x∈R,G x){Q:Option Nat->SortSt->Prop}
  (h:∀D R' st',D≠[]->D.Pairwise (leK key)->Rn st L0 R D R' st'->Q (Z D.length) st'):wpS (model prog w) A E s (countRun' lo nrem) Q st:=by
 have R1:=List.length_pos_iff.mpr hR;obtain⟨x0,R0,rfl⟩:∃x0 R0,R=x0::R0:=by
  cases R with
  | nil=>exact absurd rfl hR
  | cons x0 R0=>exact⟨x0,R0,rfl⟩
 have r0:∀D R',D++R'=x0::R0->Rn st L0 (x0::R0) D R' st:=λD R' e=>⟨⟨rfl,by rw[ha,e],rfl,rfl⟩,by rw[e]⟩
 refine wpS_bind (wpS_mono (wpS_forRange
  (I:=λx c st2=>st2=st/\∃D R',c=(Y,x)/\D.length=x/\D≠[]/\D++R'=x0::R0/\D.Pairwise (leK key))
  (Q:=λc st2=>st2=st/\∃D R',c=(Y,D.length)/\D≠[]/\D++R'=x0::R0/\D.Pairwise (leK key)/\(R'=[]\/∃D2 z y R2,D=D2++[z]/\R'=y::R2/\key y<key z)) ?step ?fin ⟨rfl,[x0],R0,rfl,rfl,by simp,rfl,List.pairwise_singleton _ _⟩) ?post)
 case fin=>
  rintro c st2 ⟨rfl,D,R',rfl,e1,e2,e3,e4⟩;refine⟨rfl,D,R',by rw[e1],e2,e3,e4,.inl ?_⟩;have:=congrArg List.length e3;rw[List.length_append,e1] at this;exact List.length_eq_zero_iff.mp (by omega)
 case step=>
  rintro x c st2 _ hx ⟨rfl,D,R',rfl,e1,e2,e3,e4⟩;cases R' with
  | nil=>
   have:=congrArg List.length e3;rw[List.append_nil,e1] at this;omega
  | cons y R2=>
   refine q2x1 (snoc_of e2) λD3 z zz2=>?_;subst zz2;have ar:(arrOf st2).toList=L0++(D3++[z]++y::R2):=by rw[ha,e3]
   rw[List.length_append,List.length_singleton] at e1;have gm:∀u∈D3++[z]++y::R2,G u:=λu hu=>gR u (by rw[<-e3];exact hu)
   refine wpS_bind (wpS_at hL hst (at_next ar (by rw[List.length_append,List.length_singleton];omega)) (at_last ar (by omega)) (gm y (List.mem_append_right _ List.mem_cons_self)) (gm z (List.mem_append_left _ (List.mem_append_right _ (List.mem_singleton.mpr rfl)))) ?_);refine wpS_ite (λhc=>?_) (λhc=>?_)
   ·exact wpS_pure ⟨rfl,D3++[z],y::R2,by rw[List.length_append,List.length_singleton,e1],e2,e3,e4,.inr ⟨D3,z,y,R2,rfl,rfl,of_decide_eq_true hc⟩⟩
   ·have hc:¬key y<key z:=λq=>hc (decide_eq_true q)
    exact wpS_pure ⟨rfl,D3++[z]++[y],R2,rfl,by rw[List.length_append,List.length_append,List.length_singleton,List.length_singleton];omega,by simp,by rw[<-e3,List.append_assoc (D3++[z])];rfl,up_snoc e4 (by omega)⟩
 case post=>
  rintro c st2 ⟨rfl,D,R',rfl,e2,e3,e4,e5⟩;have lD:=congrArg List.length e3;rw[List.length_append] at lD;refine wpS_ite (λ_=>wpS_pure (h D R' st2 e2 e4 (r0 D R' e3))) (λhq=>?_);have hq:D.length≠nrem:=λq=>hq (beq_iff_eq.mpr q)
  refine q4x3 (e5.resolve_left (λq=>hq (by rw[q] at lD;rw[hn,<-lD];rfl))) λD2 z y R2 zz4 zz5 hyz=>?_;subst zz4;subst zz5;have one:(D2++[z]).length≥1:=by rw[List.length_append,List.length_singleton];omega
  apply wpS_ite
  case' h1=>
   intro hg;obtain⟨z0,e0⟩:∃z0,(D2++[z])[0]?=Z z0:=⟨_,List.getElem?_eq_getElem (by omega)⟩;have ar:(arrOf st2).toList=L0++(D2++[z]++y::R2):=by rw[ha,e3]
   have i0:(arrOf st2)[lo]?=Z z0:=by
    have:=at_mid ar 0 (by omega);rw[Nat.add_zero,e0] at this;rw[hlo];exact this
   have iz:(arrOf st2)[lo+(D2++[z]).length-1]?=Z z:=at_last ar (by rw[List.length_append,List.length_singleton];omega);have m0:=List.mem_of_getElem? e0;have gm:∀u∈D2++[z]++y::R2,G u:=λu hu=>gR u (by rw[<-e3];exact hu)
   refine wpS_bind (wpS_at hL hst i0 iz (gm z0 (List.mem_append_left _ m0)) (gm z (List.mem_append_left _ (List.mem_append_right _ (List.mem_singleton.mpr rfl)))) ?_);refine wpS_ite (λ_=>wpS_pure (h _ _ st2 e2 e4 (r0 _ _ e3))) (λhc=>?_);have hc:¬key z0<key z:=λq=>hc (decide_eq_true q)
   have kall:∀u∈D2++[z],key u=key z:=λu hu=>by
    have a1:key u<=key z:=by
     rcases List.mem_append.mp hu with q|q
     ·exact(List.pairwise_append.mp e4).2.2 u q z (List.mem_singleton.mpr rfl)
     ·rw[List.mem_singleton.mp q];exact Int.le_refl _
    have a2:key z0<=key u:=by
     generalize D2++[z]=DD at *;cases DD with
     | nil=>cases hu
     | cons d0 DD=>
      cases e0;rcases List.mem_cons.mp hu with rfl|q
      ·exact Int.le_refl _
      ·exact(List.pairwise_cons.mp e4).1 u q
    omega
   refine wpS_bind (wpS_rev (P:=[]) (S:=D2++[z]) hL (r0 _ _ e3) (by rw[hlo];rfl) (by rw[hlo];rfl) λst3 hr3=>?_);have tt:∃T:List Keyed,T≠[]/\T.length=(D2++[z]).length/\Rn st2 L0 (x0::R0) T (y::R2) st3/\T.Pairwise (geK key)/\∀t∈T,key y<=key t:=by
    refine⟨(D2++[z]).reverse,by simp,List.length_reverse,hr3,eq_rev (P:=[]) ?_ (λe he f hf=>by rw[kall e he,kall f hf]),λt ht=>?_⟩
    ·refine List.Pairwise.imp_of_mem (R:=λ_ _=>True) (λ{p q} hp hq' _=>?_) (List.pairwise_of_forall λ_ _=>trivial);exact Int.le_of_eq ((kall q hq').trans (kall p hp).symm)
    ·rw[kall t (List.mem_reverse.mp ht)];omega
  case' h2=>
   intro hg;have e1:D2=[]:=by
    rw[List.length_append,List.length_singleton] at hg;exact List.length_eq_zero_iff.mp (by omega)
   have tt:∃T:List Keyed,T≠[]/\T.length=(D2++[z]).length/\Rn st2 L0 (x0::R0) T (y::R2) st2/\T.Pairwise (geK key)/\∀t∈T,key y<=key t:=by
    subst e1;exact⟨[z],by simp,rfl,r0 _ _ e3,List.pairwise_singleton _ _,λt ht=>by rw[List.mem_singleton.mp ht];omega⟩
  all_goals
   obtain⟨T,t1,t2,t3,t4,t5⟩:=tt;refine wpS_bind (wpS_lift (wpAny_rule ⟨rfl,?_⟩));have lT:(T++[y]).length=(D2++[z]).length+1:=by rw[List.length_append,t2,List.length_singleton]
   rw[<-lT];have t6:Rn st2 L0 (x0::R0) (T++[y]) R2 _:=⟨⟨t3.1.kind,by rw[t3.1.arr,List.append_assoc T];rfl,t3.1.pend,t3.1.fail⟩,by rw[List.append_assoc];exact t3.2⟩;have t7:(T++[y]).Pairwise (geK key):=by
    rw[List.pairwise_append];exact⟨t4,List.pairwise_singleton _ _,λd hd u hu=>by rw[List.mem_singleton.mp hu];exact t5 d hd⟩
   clear t1 t2 t3 t4 t5 lT hyz hq e2 e3 e4 e5 lD one hg;refine wpS_bind (wpS_mono (wpS_forRange
    (I:=λx c st5=>∃P S R2 neq,c=(Y,x,neq)/\Rn st2 L0 (x0::R0) (P++S) R2 st5/\(P++S).length=x/\S.length=neq+1/\(P++S).Pairwise (geK key)/\AllEq key S)
    (Q:=λc st5=>∃P S R2 neq,c=(Y,(P++S).length,neq)/\Rn st2 L0 (x0::R0) (P++S) R2 st5/\S.length=neq+1/\(P++S).Pairwise (geK key)/\AllEq key S) ?_ ?_ ⟨T,[y],R2,0,rfl,t6,rfl,rfl,t7,λe he g hg=>by rw[List.mem_singleton.mp he,List.mem_singleton.mp hg]⟩) ?_)
   ·rintro x c st5 _ hx ⟨P,S,R2,neq,rfl,e1,e2,e3,e4,e5⟩;have ln:(P++S).length+R2.length=(x0::R0).length:=by rw[<-List.length_append,e1.2.length_eq]
    cases R2 with
    | nil=>rw[List.length_nil] at ln;omega
    | cons y R2=>
     refine q2x1 (snoc_of (show S≠[] from λq=>by rw[q] at e3;simp at e3)) λS' z zz2=>?_;subst zz2;have ar:(arrOf st5).toList=L0++((P++S')++[z]++y::R2):=by rw[e1.1.arr];simp only[List.append_assoc]
     have lx:(P++S').length+1=x:=by rw[<-e2,<-List.append_assoc,List.length_append (as:=P++S')];rfl
     have gm:=e1.mem gR;have gy:=gm y (List.mem_append_right _ List.mem_cons_self);have gz:=gm z (List.mem_append_left _ (List.mem_append_right _ (List.mem_append_right _ (List.mem_singleton.mpr rfl))));have iy:(arrOf st5)[lo+x]?=Z y:=at_next ar (by rw[List.length_append (as:=P++S'),List.length_singleton];omega);have iz:(arrOf st5)[lo+x-1]?=Z z:=at_last ar (by omega);have nx:∀(T:List Keyed) (st3:SortSt),Rn st2 L0 (x0::R0) T (y::R2) st3->Rn st2 L0 (x0::R0) (T++[y]) R2 st3:=λT st3 q=>⟨⟨q.1.kind,by rw[q.1.arr,List.append_assoc T];rfl,q.1.pend,q.1.fail⟩,by rw[List.append_assoc];exact q.2⟩
     have one:AllEq key [y]:=λe he g hg=>by rw[List.mem_singleton.mp he,List.mem_singleton.mp hg]
     have lP:P.length+(S'.length+1)=x:=by rw[<-lx,List.length_append];omega
     refine wpS_bind (wpS_at hL (e1.1.kind.trans hst) iy iz gy gz ?_)
     try dsimp only
     refine wpS_ite (λhc=>?_) (λhc=>?_)
     ·have hc:=of_decide_eq_true hc;have below:∀d∈P++(S'++[z]),key y<=key d:=λd hd=>by
       rw[<-List.append_assoc] at hd e4;rcases List.mem_append.mp hd with q|q
       ·have:=(List.pairwise_append.mp e4).2.2 d q z (List.mem_singleton.mpr rfl);have this:key z<=key d:=this;omega
       ·rw[List.mem_singleton.mp q];omega
      refine wpS_ite (λhq=>?_) (λhq=>?_)
      ·rw[List.length_append,List.length_singleton] at e3;refine wpS_bind (wpS_rev (P:=P) (S:=S'++[z]) hL e1 (by omega) (by rw[List.length_append (as:=S'),List.length_singleton];omega) λst3 hr3=>wpS_pure ⟨P++(S'++[z]).reverse,[y],R2,0,rfl,nx _ _ hr3,?_,rfl,?_,one⟩)
       ·rw[List.length_append,List.length_append,List.length_reverse,List.length_append,List.length_singleton,List.length_singleton];omega
       ·rw[List.pairwise_append];refine⟨eq_rev e4 e5,List.pairwise_singleton _ _,λd hd u hu=>?_⟩;rw[List.mem_singleton.mp hu];refine below d ?_;rcases List.mem_append.mp hd with q|q
        ·exact List.mem_append_left _ q
        ·exact List.mem_append_right _ (List.mem_reverse.mp q)
      ·refine wpS_pure ⟨P++(S'++[z]),[y],R2,0,rfl,nx _ _ e1,?_,rfl,?_,one⟩
       ·rw[List.length_append,e2,List.length_singleton]
       ·rw[List.pairwise_append];exact⟨e4,List.pairwise_singleton _ _,λd hd u hu=>by rw[List.mem_singleton.mp hu];exact below d hd⟩
     ·have hc:¬key y<key z:=λq=>hc (decide_eq_true q)
      refine wpS_bind (wpS_at hL (e1.1.kind.trans hst) iz iy gz gy ?_);refine wpS_ite (λhg=>?_) (λhg=>?_)
      ·exact wpS_pure ⟨P,S'++[z],y::R2,neq,by rw[e2],e1,e3,e4,e5⟩
      ·have hg:¬key z<key y:=λq=>hg (decide_eq_true q)
       have eyz:key y=key z:=by omega
       refine wpS_pure ⟨P,S'++[z]++[y],R2,neq+1,rfl,by rw[<-List.append_assoc];exact nx _ _ e1,by rw[<-List.append_assoc,List.length_append (as:=P++(S'++[z])),e2,List.length_singleton],by rw[List.length_append,e3,List.length_singleton],?_,λe he g hg'=>?_⟩
       ·have:=down_snoc (D:=P++S') (z:=z) (y:=y) (key:=key) (by rw[List.append_assoc];exact e4) (by omega);rw[List.append_assoc P] at this;rw[<-List.append_assoc P];exact this
       ·have kz:∀u∈S'++[z]++[y],key u=key z:=λu hu=>by
         rcases List.mem_append.mp hu with q|q
         ·exact e5 u q z (List.mem_append_right _ (List.mem_singleton.mpr rfl))
         ·rw[List.mem_singleton.mp q];exact eyz
        rw[kz e he,kz g hg']
   ·rintro c st5 ⟨P,S,R2,neq,rfl,e1,e2,e3,e4,e5⟩;exact⟨P,S,R2,neq,by rw[e2],e1,e3,e4,e5⟩
   ·rintro c st5 ⟨P,S,R2,neq,rfl,e1,e3,e4,e5⟩
    try dsimp only
    have ps:(P++S).length=P.length+(neq+1):=by rw[List.length_append,e3]
    apply wpS_ite
    case' h1=>
     intro hz;refine wpS_bind (wpS_rev (P:=P) (S:=S) hL e1 (by omega) (by omega) λst6 e6=>?_);have e:(P++S).length=(P++S.reverse).length:=by rw[List.length_append,List.length_append,List.length_reverse]
     have e7:=eq_rev e4 e5;have e8:P++S.reverse≠[]:=λq=>by rw[q] at e;rw[e] at ps;simp at ps
     rw[e];generalize P++S.reverse=DD at *
    case' h2=>
     intro hz;have e6:=e1;have e7:=e4;have e8:P++S≠[]:=λq=>by rw[q] at ps;simp at ps
     generalize P++S=DD at *
    all_goals
     refine wpS_bind (wpS_rev (P:=[]) (S:=DD) hL e6 (by rw[hlo];rfl) (by rw[hlo];rfl) λst7 e9=>?_);have e9:Rn st2 L0 (x0::R0) DD.reverse R2 st7:=e9;have hl:DD.length+R2.length=(x0::R0).length:=by rw[<-e9.2.length_eq,List.length_append,List.length_reverse]
     refine wpS_bind (wpS_mono (wpS_forRange
      (I:=λx c st3=>st3=st7/\∃D2 R3,c=(Y,x)/\D2.length=x/\D2≠[]/\D2++R3=DD.reverse++R2/\D2.Pairwise (leK key))
      (Q:=λc st3=>st3=st7/\∃D2 R3,c=(Y,D2.length)/\D2≠[]/\D2++R3=DD.reverse++R2/\D2.Pairwise (leK key)) ?_ ?_ ⟨rfl,DD.reverse,R2,rfl,List.length_reverse,λz=>e8 (List.reverse_eq_nil_iff.mp z),rfl,List.pairwise_reverse.mpr e7⟩) ?_)
     ·rintro x c st3 _ hx ⟨rfl,D2,R3,rfl,f1,f2,f3,f4⟩;have ln:D2.length+R3.length=DD.length+R2.length:=by rw[<-List.length_append,f3,List.length_append,List.length_reverse]
      cases R3 with
      | nil=>rw[List.length_nil] at ln;omega
      | cons y R3=>
       refine q2x1 (snoc_of f2) λD3 z zz2=>?_;subst zz2;have ar:(arrOf st3).toList=L0++(D3++[z]++y::R3):=by rw[e9.1.arr,f3]
       rw[List.length_append,List.length_singleton] at f1;have gm:=e9.mem gR;rw[<-f3] at gm;refine wpS_bind (wpS_at hL (e9.1.kind.trans hst) (at_next ar (by rw[List.length_append,List.length_singleton];omega)) (at_last ar (by omega)) (gm y (List.mem_append_right _ List.mem_cons_self)) (gm z (List.mem_append_left _ (List.mem_append_right _ (List.mem_singleton.mpr rfl)))) ?_);refine wpS_ite (λhc=>?_) (λhc=>?_)
       ·exact wpS_pure ⟨rfl,D3++[z],y::R3,by rw[List.length_append,List.length_singleton,f1],f2,f3,f4⟩
       ·have hc:¬key y<key z:=λq=>hc (decide_eq_true q)
        exact wpS_pure ⟨rfl,D3++[z]++[y],R3,rfl,by rw[List.length_append,List.length_append,List.length_singleton,List.length_singleton];omega,by simp,by rw[<-f3,List.append_assoc (D3++[z])];rfl,up_snoc f4 (by omega)⟩
     ·rintro c st3 ⟨rfl,D2,R3,rfl,f1,f2,f3,f4⟩;exact⟨rfl,D2,R3,by rw[f1],f2,f3,f4⟩
     ·rintro c st3 ⟨rfl,D2,R3,rfl,f2,f3,f4⟩;exact wpS_pure (h D2 R3 st3 f2 f4 ⟨⟨e9.1.kind,by rw[e9.1.arr,f3],e9.1.pend,e9.1.fail⟩,by rw[f3];exact e9.2⟩)
end
end TS
namespace TS
open PySem PyProof.Rows PySem.W
section
variable {prog:Program}{w:World}{A:Around}{E:Value->Shared->Prop}{s:Shared}{κ:SortKind}{G:Keyed->Prop}{key:Keyed->Int}
def binarySort_ok (hL:LtOk prog w A s κ G key){st:SortSt}(hst:kindOf st=κ){L0 R:List Keyed}{lo n ok:Nat}(hlo:lo=L0.length)(hn:n<=R.length)(gR:∀x∈R,G x){st1:SortSt}{D R':List Keyed}(hr:Rn st L0 R D R' st1)(hD:D.length=ok)(h1:1<=ok)(hok:ok<=n)(hu:D.Pairwise (leK key)){Q:Bool->SortSt->Prop}
  (h:∀D2 R2 st2,D2.length=n->D2.Pairwise (leK key)->Rn st L0 R D2 R2 st2->Q true st2):wpS (model prog w) A E s (binarySort' lo n ok) Q st1:=by
 refine wpS_bind (wpS_mono (wpS_forRange
  (I:=λk c st2=>c=(Y,())/\∃D2 R2,D2.length=k/\D2.Pairwise (leK key)/\Rn st L0 R D2 R2 st2)
  (Q:=λc st2=>c=(Y,())/\∃D2 R2,D2.length=n/\D2.Pairwise (leK key)/\Rn st L0 R D2 R2 st2) ?_ ?_ ⟨rfl,D,R',by omega,hu,hr⟩) ?_)
 ·rintro k c st2 hk1 hk2 ⟨rfl,D2,R2,l2,u2,r2⟩
  try dsimp only
  have ln:D2.length+R2.length=R.length:=by rw[<-List.length_append,r2.2.length_eq]
  cases R2 with
  | nil=>rw[List.length_nil] at ln;omega
  | cons y R2=>
   have gm:=r2.mem gR;have gy:=gm y (List.mem_append_right _ List.mem_cons_self);have iy:(arrOf st2)[lo+k]?=Z y:=at_next r2.1.arr (by rw[hlo,l2]);refine wpS_bind (wpS_mono (wpS_forRange
    (I:=λx c st3=>st3=st2/\∃l r,c=(Y,l,r)/\l<=r/\r<=k/\r-l<=k-x/\(∀d∈D2.take l,key d<=key y)/\∀d∈D2.drop r,key y<=key d)
    (Q:=λc st3=>st3=st2/\∃l r,c=(Y,l,r)/\l<=k/\(∀d∈D2.take l,key d<=key y)/\∀d∈D2.drop l,key y<=key d) ?_ ?_ ⟨rfl,0,k,rfl,by omega,by omega,by omega,λd hd=>by simp at hd,λd hd=>by rw[List.drop_of_length_le (by omega)] at hd;cases hd⟩) ?_)
   ·rintro x c st3 _ hx ⟨rfl,l,r,rfl,g1,g2,g3,g4,g5⟩
    try dsimp only
    refine wpS_ite (λhc=>?_) (λhc=>?_)
    ·exact wpS_pure ⟨rfl,l,r,rfl,by omega,g4,by rw[show l=r by omega];exact g5⟩
    ·obtain⟨z,ez⟩:∃z,D2[(l+r) / 2]?=Z z:=⟨D2[(l+r) / 2]'(by omega),List.getElem?_eq_getElem _⟩;have iz:(arrOf st3)[lo+(l+r) / 2]?=Z z:=by rw[hlo,at_mid r2.1.arr _ (by omega)];exact ez
     have gz:=gm z (List.mem_append_left _ (List.mem_of_getElem? ez));refine q1x1 (List.getElem?_eq_some_iff.mp ez) λhz ezz=>?_;refine wpS_bind (wpS_at hL (r2.1.kind.trans hst) iy iz gy gz ?_)
     try dsimp only
     refine wpS_ite (λhq=>?_) (λhq=>?_)
     ·have hq:=of_decide_eq_true hq;refine wpS_pure ⟨rfl,_,_,rfl,by omega,by omega,by omega,g4,λd hd=>?_⟩;refine q1x3 (mem_d hd) λi i1 i2 ei=>?_;refine q1x1 (List.getElem?_eq_some_iff.mp ei) λhi eii=>?_;rw[<-eii];rw[<-ezz] at hq
      by_cases e:i=(l+r) / 2
      ·simp only[e];omega
      ·have:key D2[(l+r) / 2]<=key D2[i]:=List.pairwise_iff_getElem.mp u2 _ _ hz hi (by omega);omega
     ·have hq:¬key y<key z:=λq=>hq (decide_eq_true q)
      refine wpS_pure ⟨rfl,_,_,rfl,by omega,by omega,by omega,λd hd=>?_,g5⟩;refine q1x2 (mem_t hd) λi i1 ei=>?_;refine q1x1 (List.getElem?_eq_some_iff.mp ei) λhi eii=>?_;rw[<-eii];rw[<-ezz] at hq
      by_cases e:i=(l+r) / 2
      ·simp only[e];omega
      ·have:key D2[i]<=key D2[(l+r) / 2]:=List.pairwise_iff_getElem.mp u2 _ _ hi hz (by omega);omega
   ·rintro c st3 ⟨rfl,l,r,rfl,g1,g2,g3,g4,g5⟩;rw[show max 0 k=k by omega] at g3;exact⟨rfl,l,r,rfl,by omega,g4,by rw[show l=r by omega];exact g5⟩
   ·rintro c st3 ⟨rfl,l,r,rfl,g1,g4,g5⟩
    try dsimp only
    have lt:(D2.take l).length=l:=by rw[List.length_take];omega
    have ld:(D2.drop l).length=k-l:=by rw[List.length_drop];omega
    have bl:=bubble_list (a:=arrOf st3) (P:=L0) (X:=D2.take l) (S:=D2.drop l) (R:=R2) (y:=y) (by rw[r2.1.arr,<-List.append_assoc (D2.take l),List.take_append_drop]) (src:=lo+k) (d:=lo+k-(lo+l)) (by rw[lt,ld];omega) (by rw[ld];omega);refine wpS_bind (m:=moveDown' (lo+k) (lo+l)) (wpS_modify (wpS_pure ⟨rfl,D2.take l++y::D2.drop l,R2,?_,?_,⟨r2.1.kind,?_,r2.1.pend,r2.1.fail⟩,?_⟩))
    ·rw[List.length_append,List.length_cons,lt,ld];omega
    ·rw[List.pairwise_append,List.pairwise_cons];refine⟨u2.take,⟨λd hd=>g5 d hd,u2.drop⟩,λa ha b hb=>?_⟩;rcases List.mem_cons.mp hb with rfl|hb
     ·exact g4 a ha
     ·exact Int.le_trans (g4 a ha) (g5 b hb)
    ·show(bubble (arrOf st3) (lo+k) (lo+k-(lo+l))).toList=_;rw[bl,List.append_assoc (D2.take l)];rfl
    ·refine List.Perm.trans ?_ r2.2;rw[List.append_assoc];refine(List.Perm.append_left _ (show(y::D2.drop l++R2).Perm (D2.drop l++y::R2) from List.perm_middle.symm)).trans (.of_eq ?_);rw[<-List.append_assoc,List.take_append_drop]
 ·rintro c st2 ⟨rfl,D2,R2,l2,u2,r2⟩;exact⟨rfl,D2,R2,by omega,u2,r2⟩
 ·rintro c st2 ⟨rfl,D2,R2,l2,u2,r2⟩;exact wpS_pure (h D2 R2 st2 l2 u2 r2)
end
def PM (key:Keyed->Int):Nat->List (Nat×Nat×Nat)->List (List Keyed)->Prop
 | _,[],[]=>True
 | b,r::p,R::Rs=>r.1=b/\r.2.1=R.length/\R≠[]/\R.Pairwise (leK key)/\PM key (b+R.length) p Rs
 | _,_,_=>False
section
variable {key:Keyed->Int}
theorem PM.split:∀{q1 q2:List (Nat×Nat×Nat)} {b:Nat} {Rs:List (List Keyed)},PM key b (q1++q2) Rs->∃Rs1 Rs2,Rs=Rs1++Rs2/\PM key b q1 Rs1/\PM key (b+Rs1.flatten.length) q2 Rs2/\Rs1.length=q1.length
 | [],q2,b,Rs,h=>⟨[],Rs,rfl,trivial,h,rfl⟩
 | r::q1,q2,b,[],h=>h.elim
 | r::q1,q2,b,R::Rs,h=>by
  refine q0x5 h λh1 h2 h3 h4 h5=>?_;refine q2x4 (PM.split h5) λRs1 Rs2 zz2 g1 g2 g3=>?_;subst zz2;refine⟨R::Rs1,Rs2,rfl,⟨h1,h2,h3,h4,g1⟩,?_,by rw[List.length_cons,List.length_cons,g3]⟩;rw[List.flatten_cons,List.length_append,<-Nat.add_assoc];exact g2
theorem PM.app:∀{q1 q2:List (Nat×Nat×Nat)} {b:Nat} {Rs1 Rs2:List (List Keyed)},PM key b q1 Rs1->PM key (b+Rs1.flatten.length) q2 Rs2->PM key b (q1++q2) (Rs1++Rs2)
 | [],q2,b,[],Rs2,_,h=>h
 | [],q2,b,R::Rs1,Rs2,h,_=>h.elim
 | r::q1,q2,b,[],Rs2,h,_=>h.elim
 | r::q1,q2,b,R::Rs1,Rs2,⟨h1,h2,h3,h4,h5⟩,h=>by
  rw[List.flatten_cons,List.length_append,<-Nat.add_assoc] at h;exact⟨h1,h2,h3,h4,h5.app h⟩
theorem PM.len:∀{q:List (Nat×Nat×Nat)} {b:Nat} {Rs:List (List Keyed)},PM key b q Rs->q.length=Rs.length/\q.length<=Rs.flatten.length
 | [],b,[],_=>⟨rfl,Nat.zero_le _⟩
 | [],b,R::Rs,h=>h.elim
 | r::q,b,[],h=>h.elim
 | r::q,b,R::Rs,⟨h1,h2,h3,h4,h5⟩=>by
  refine q0x2 h5.len λg1 g2=>?_;have:=List.length_pos_iff.mpr h3;refine⟨by rw[List.length_cons,List.length_cons,g1],?_⟩;rw[List.flatten_cons,List.length_append,List.length_cons];omega
theorem PM.same:∀{q q':List (Nat×Nat×Nat)} {b:Nat} {Rs:List (List Keyed)},PM key b q Rs->q'.map (λr=>(r.1,r.2.1))=q.map (λr=>(r.1,r.2.1))->PM key b q' Rs
 | [],[],b,[],_,_=>trivial
 | [],r::q',b,Rs,h,e=>by cases e
 | r::q,[],b,Rs,h,e=>by cases e
 | [],[],b,R::Rs,h,_=>h
 | r::q,r'::q',b,[],h,e=>h.elim
 | r::q,r'::q',b,R::Rs,⟨h1,h2,h3,h4,h5⟩,e=>by
  rw[List.map_cons,List.map_cons] at e;refine q0x2 (List.cons.inj e) λe1 e2=>?_;refine q0x2 (Prod.mk.inj e1) λe3 e4=>?_;exact⟨e3.trans h1,e4.trans h2,h3,h4,h5.same e2⟩
end
structure SI (key:Keyed->Int)(κ:SortKind)(a0:List Keyed)(st:SortSt)(Rs:List (List Keyed))(Rest:List Keyed):Prop where
 kind:kindOf st=κ
 fail:failedOf st=Y
 arr:(arrOf st).toList=Rs.flatten++Rest
 perm:(Rs.flatten++Rest).Perm a0
 pm:PM key 0 (pendingOf st).toList Rs
section
variable {prog:Program}{w:World}{A:Around}{E:Value->Shared->Prop}{s:Shared}{κ:SortKind}{G:Keyed->Prop}{key:Keyed->Int}
def split_two {α:Type}{q:List α}{i:Nat}(h:i+1<q.length):∃q1 r1 r2 q2,q=q1++r1::r2::q2/\q1.length=i:=by
 refine⟨q.take i,q[i],q[i+1],q.drop (i+2),?_,by rw[List.length_take];omega⟩;rw[<-List.drop_eq_getElem_cons h,<-List.drop_eq_getElem_cons (by omega),List.take_append_drop]
def merge_ok (hL:LtOk prog w A s κ G key){a0:List Keyed}(hG:∀x∈a0,G x){st:SortSt}{Rs:List (List Keyed)}{Rest:List Keyed}(hS:SI key κ a0 st Rs Rest){i:Nat}(hi:i+1<(pendingOf st).size){Q:Bool->SortSt->Prop}
  (h:∀st' Rs',SI key κ a0 st' Rs' Rest->Rs'.flatten.length=Rs.flatten.length->(pendingOf st').size+1=(pendingOf st).size->Q true st'):wpS (model prog w) A E s (mergeAt' i) Q st:=by
 refine q4x2 (split_two (q:=(pendingOf st).toList) (i:=i) (by rw[Array.length_toList];exact hi)) λq1 r1 r2 q2 eq l1=>?_;have pm:=hS.pm;rw[eq] at pm;refine q2x4 pm.split λRs1 Rs2 zz2 p1 p2 ln=>?_;subst zz2
 match Rs2,p2 with
 | [],p2=>exact p2.elim
 | [U],p2=>exact p2.2.2.2.2.elim
 | U::V::Rs2,⟨h1,h2,h3,h4,h5,h6,h7,h8,h9⟩=>
  have i1:(pendingOf st)[i]?=Z r1:=by
   rw[<-Array.getElem?_toList,eq,List.getElem?_append_right (by omega),l1,Nat.sub_self];rfl
  have i2:(pendingOf st)[i+1]?=Z r2:=by
   rw[<-Array.getElem?_toList,eq,List.getElem?_append_right (by omega),l1,show i+1-i=1 by omega];rfl
  have ar:=hS.arr;rw[List.flatten_append,List.flatten_cons,List.flatten_cons] at ar;have ar2:(arrOf st).toList=Rs1.flatten++(U++(V++(Rs2.flatten++Rest))):=by rw[ar];simp only[List.append_assoc]
  have pe:=hS.perm;rw[<-hS.arr,ar2] at pe;have gA:∀x∈Rs1.flatten++(U++(V++(Rs2.flatten++Rest))),G x:=λx hx=>hG x (pe.subset hx)
  rw[Nat.zero_add] at h1 h5;obtain⟨a1,b1,c1⟩:=r1;obtain⟨a2,b2,c2⟩:=r2;refine mergeAt_ok hL hS.kind hS.fail i1 i2 ar2 h1 h2 h6 (by
   have h1:a1=Rs1.flatten.length:=h1;have h2:b1=U.length:=h2;have h5:a2=Rs1.flatten.length+U.length:=h5;omega) h4 h8 h3 h7 (λx hx=>gA x (List.mem_append_right _ (List.mem_append_left _ hx))) (λx hx=>gA x (List.mem_append_right _ (List.mem_append_right _ (List.mem_append_left _ hx)))) λZ st' z1 z2 nx=>?_
  have lz:Z.length=U.length+V.length:=by rw[z1.length_eq,List.length_append]
  have ep:(((pendingOf st).setIfInBounds i (a1,b1+b2,c1)).eraseIdxIfInBounds (i+1)).toList=q1++(a1,b1+b2,c1)::q2:=by
   have:i+1<((pendingOf st).setIfInBounds i (a1,b1+b2,c1)).size:=by rw[Array.size_setIfInBounds];exact hi
   rw[Array.eraseIdxIfInBounds,dif_pos this,Array.toList_eraseIdx,Array.toList_setIfInBounds,eq,<-l1,List.set_append_right _ _ (Nat.le_refl _),Nat.sub_self,List.set_cons_zero,List.eraseIdx_append_of_length_le (by omega),show q1.length+1-q1.length=1 by omega];rfl
  refine h st' (Rs1++Z::Rs2) ⟨nx.kind.trans hS.kind,nx.fail.trans hS.fail,?_,?_,?_⟩ ?_ ?_
  ·rw[nx.arr,List.flatten_append,List.flatten_cons];simp only[List.append_assoc]
  ·refine List.Perm.trans ?_ pe;rw[List.flatten_append,List.flatten_cons];simp only[List.append_assoc];refine List.Perm.append_left _ ?_;have:=List.Perm.append_right (Rs2.flatten++Rest) z1;simp only[List.append_assoc] at this;exact this
  ·rw[nx.pend,ep];refine p1.app ⟨by rw[Nat.zero_add];exact h1,?_,λz=>?_,z2,?_⟩
   ·show b1+b2=Z.length;have h2:b1=U.length:=h2;have h6:b2=V.length:=h6;omega
   ·rw[z] at lz;have:=List.length_pos_iff.mpr h3;simp at lz;omega
   ·rw[lz,<-Nat.add_assoc];exact h9
  ·rw[List.flatten_append,List.flatten_append,List.flatten_cons,List.flatten_cons,List.flatten_cons];simp only[List.length_append];omega
  ·rw[nx.pend,<-Array.length_toList,<-Array.length_toList,ep,eq];simp only[List.length_append,List.length_cons];omega
end
end TS
namespace TS
open PySem PyProof.Rows PySem.W
variable{a0:List Keyed}{Rs:List (List Keyed)}
section
variable {prog:Program}{w:World}{A:Around}{E:Value->Shared->Prop}{s:Shared}{κ:SortKind}{G:Keyed->Prop}{key:Keyed->Int}
def flat_snoc (Rs:List (List Keyed))(D:List Keyed):(Rs++[D]).flatten.length=Rs.flatten.length+D.length:=by
 rw[List.flatten_append,List.length_append,List.flatten_cons,List.flatten_nil,List.append_nil]
def ite_lt {c:Prop}[Decidable c]{a b n:Nat}(h1:a+1<n)(h2:b+1<n):(if c then a else b)+1<n:=by
 split
 ·exact h1
 ·exact h2
def wpS_pw {st:SortSt}{pw:Nat}{Q:PUnit->SortSt->Prop}(h:∀st':SortSt,PyProof.Rows.kindOf st'=PyProof.Rows.kindOf st->arrOf st'=arrOf st->failedOf st'=failedOf st->(pendingOf st').toList.map (λr=>(r.1,r.2.1))=(pendingOf st).toList.map (λr=>(r.1,r.2.1))->Q ⟨⟩ st') :
  wpS (model prog w) A E s (modify λs=>setPending s ((pendingOf s).modify ((pendingOf s).size-1) λx=>(x.1,x.2.1,pw)):StateT SortSt Sem PUnit) Q st:=by
 refine wpS_modify (h _ rfl rfl rfl ?_);show(((pendingOf st).modify ((pendingOf st).size-1) λx=>(x.1,x.2.1,pw)).toList).map (λr=>(r.1,r.2.1))=_;apply List.ext_getElem?;intro k;rw[List.getElem?_map,List.getElem?_map,Array.getElem?_toList,Array.getElem?_toList,Array.getElem?_modify];split
 ·cases (pendingOf st)[k]? <;> rfl
 ·rfl
def SI.rn {st st':SortSt}{Rest D R':List Keyed}(h:SI key κ a0 st Rs Rest)(r:Rn st Rs.flatten Rest D R' st'):SI key κ a0 st' Rs (D++R'):=
 ⟨r.1.kind.trans h.kind,r.1.fail.trans h.fail,r.1.arr,(List.Perm.append_left _ r.2).trans h.perm,by rw[r.1.pend];exact h.pm⟩
def SI.push {st st':SortSt}{D R':List Keyed}(h:SI key κ a0 st Rs (D++R'))(hD:D≠[])(hu:D.Pairwise (leK key)){lo n pw:Nat}(h1:lo=Rs.flatten.length)(h2:n=D.length)(k:kindOf st'=kindOf st)(f:failedOf st'=failedOf st)(a:arrOf st'=arrOf st)(p:(pendingOf st').toList=(pendingOf st).toList++[(lo,n,pw)]):SI key κ a0 st' (Rs++[D]) R':=by
 have e:(Rs++[D]).flatten++R'=Rs.flatten++(D++R'):=by rw[List.flatten_append];simp
 refine⟨k.trans h.kind,f.trans h.fail,by rw[a,h.arr,e],by rw[e];exact h.perm,?_⟩;rw[p];exact h.pm.app ⟨by rw[Nat.zero_add];exact h1,h2,hD,hu,trivial⟩
def sortRuns_ok (hL:LtOk prog w A s κ G key)(hG:∀x∈a0,G x){st:SortSt}(hk:kindOf st=κ)(hf:failedOf st=Y)(hp:pendingOf st=#[])(ha:(arrOf st).toList=a0){Q:Unit->SortSt->Prop}
  (h:∀st',failedOf st'=Y->(arrOf st').toList.Perm a0->(arrOf st').toList.Pairwise (leK key)->Q () st'):wpS (model prog w) A E s sortRuns' Q st:=by
 have sz:(arrOf st).size=a0.length:=by rw[<-Array.length_toList,ha]
 have S0:SI key κ a0 st [] a0:=⟨hk,hf,ha,List.Perm.refl _,by rw[hp];trivial⟩;refine wpS_bind (wpS_get ?_)
 try dsimp only
 refine wpS_bind (wpS_mono (wpS_forRange
  (I:=λx c st'=>∃lo Rs Rest,c=(Y,lo)/\SI key κ a0 st' Rs Rest/\Rs.flatten.length=lo/\x<=lo)
  (Q:=λc st'=>∃lo Rs,c=(Y,lo)/\SI key κ a0 st' Rs []) ?_ ?_ ⟨0,[],a0,rfl,S0,rfl,Nat.le_refl _⟩) ?_)
 ·rintro x c st1 _ hx ⟨lo,Rs,Rest,rfl,S1,l1,x1⟩;have tl:Rs.flatten.length+Rest.length=(arrOf st).size:=by rw[sz,<-List.length_append,S1.perm.length_eq]
  try dsimp only
  refine wpS_ite (λhc=>?_) (λhc=>?_)
  ·have e:Rest=[]:=List.length_eq_zero_iff.mp (by have hc:lo≥(arrOf st).size:=hc;omega);rw[e] at S1;exact wpS_pure ⟨lo,Rs,rfl,S1⟩
  ·have hc:¬lo≥(arrOf st).size:=hc;have gR:∀x∈Rest,G x:=λx hx=>hG x (S1.perm.subset (List.mem_append_right _ hx))
   refine wpS_bind (countRun_ok hL S1.kind (L0:=Rs.flatten) (R:=Rest) S1.arr l1.symm (show(arrOf st).size-lo=Rest.length by omega) (λz=>by rw[z,List.length_nil] at tl;omega) gR λD R' st2 d1 d2 r2=>?_)
   try dsimp only
   have ld:D.length+R'.length=Rest.length:=by rw[<-List.length_append,r2.2.length_eq]
   have dp:=List.length_pos_iff.mpr d1;apply wpS_ite
   case' h1=>
    intro hm;refine wpS_bind (wpS_lift (wpAny_rule ⟨rfl,?_⟩));refine wpS_bind (binarySort_ok hL S1.kind l1.symm (Nat.le_trans (Nat.min_le_left _ _) (show(arrOf st).size-lo<=Rest.length by omega)) gR r2 rfl dp (Nat.le_min.mpr ⟨show D.length<=(arrOf st).size-lo by omega,Nat.le_of_lt hm⟩) d2 λD5 R5 st5 d5 u5 r5=>?_);refine wpS_ite (λz=>by cases z) (λ_=>?_);have n5:D5≠[]:=λz=>by
     have q:D.length<=D5.length:=by rw[d5];exact Nat.le_min.mpr ⟨show D.length<=(arrOf st).size-lo by omega,Nat.le_of_lt hm⟩
     rw[z,List.length_nil] at q;omega
    have S5:=S1.rn r5
   case' h2=>
    intro hm;obtain⟨D5,R5,st5,d5,u5,n5,S5⟩:∃D5 R5 st5,D5.length=D.length/\D5.Pairwise (leK key)/\D5≠[]/\SI key κ a0 st5 Rs (D5++R5)/\st5=st2:=⟨D,R',st2,rfl,d2,d1,S1.rn r2,rfl⟩;obtain⟨S5,rfl⟩:=S5
   all_goals
    rw[<-d5];have np:=List.length_pos_iff.mpr n5;refine wpS_bind (wpS_get ?_);cases hb:(pendingOf st5).back? with
    | none=>
     try dsimp only
     refine wpS_bind (wpS_modify (wpS_pure ⟨_,Rs++[D5],R5,rfl,S5.push (pw:=0) n5 u5 l1.symm rfl rfl rfl rfl ?_,by rw[flat_snoc,l1],by omega⟩));show((pendingOf st5).push (lo,D5.length,0)).toList=_;rw[Array.toList_push]
    | some r=>
     obtain⟨s1,n1,p1⟩:=r
     try dsimp only
     refine wpS_bind (wpS_mono (wpS_forRange
      (I:=λ_ c st6=>c=(Y,())/\∃Rs6,SI key κ a0 st6 Rs6 (D5++R5)/\Rs6.flatten.length=Rs.flatten.length)
      (Q:=λc st6=>c=(Y,())/\∃Rs6,SI key κ a0 st6 Rs6 (D5++R5)/\Rs6.flatten.length=Rs.flatten.length) ?_ (λ_ _ q=>q) ⟨rfl,Rs,S5,rfl⟩) ?_)
     ·rintro x c st6 _ _ ⟨rfl,Rs6,S6,l6⟩;refine wpS_bind (wpS_get ?_)
      by_cases hs:(pendingOf st6).size>1
      ·rw[if_pos hs];obtain⟨r,er⟩:∃r,(pendingOf st6)[(pendingOf st6).size-2]?=Z r:=⟨(pendingOf st6)[(pendingOf st6).size-2]'(by omega),getElem?_pos _ _ (by omega)⟩;obtain⟨a1,a2,a3⟩:=r;rw[er]
       try dsimp only
       refine wpS_ite (λ_=>wpS_pure ⟨rfl,Rs6,S6,l6⟩) (λ_=>?_);refine wpS_bind (merge_ok hL hG S6 (show(pendingOf st6).size-2+1<(pendingOf st6).size by omega) λst7 Rs7 S7 l7 _=>?_);exact wpS_ite (λz=>by cases z) (λ_=>wpS_pure ⟨rfl,Rs7,S7,l7.trans l6⟩)
      ·rw[if_neg hs];exact wpS_pure ⟨rfl,Rs6,S6,l6⟩
     ·rintro c st6 ⟨rfl,Rs6,S6,l6⟩
      try dsimp only
      refine wpS_bind (wpS_pw λst7 k7 a7 f7 p7=>?_);have S7:SI key κ a0 st7 Rs6 (D5++R5):=⟨k7.trans S6.kind,f7.trans S6.fail,by rw[a7];exact S6.arr,S6.perm,S6.pm.same p7⟩;refine wpS_bind (wpS_modify (wpS_pure ⟨_,Rs6++[D5],R5,rfl,S7.push (pw:=0) n5 u5 (l6.trans l1).symm rfl rfl rfl rfl Array.toList_push,by rw[flat_snoc,l6,l1],by omega⟩))
 ·rintro c st1 ⟨lo,Rs,Rest,rfl,S1,l1,x1⟩;have tl:Rs.flatten.length+Rest.length=(arrOf st).size:=by rw[sz,<-List.length_append,S1.perm.length_eq]
  have x1:max 0 (arrOf st).size<=lo:=x1;have e:Rest=[]:=List.length_eq_zero_iff.mp (by omega);rw[e] at S1;exact⟨lo,Rs,rfl,S1⟩
 ·rintro c st1 ⟨lo,Rs,rfl,S1⟩
  try dsimp only
  have tl:Rs.flatten.length=(arrOf st).size:=by rw[sz,<-S1.perm.length_eq,List.append_nil]
  have pl:=S1.pm.len.2;rw[Array.length_toList] at pl;refine wpS_bind (wpS_mono (wpS_forRange
   (I:=λx c st'=>c=(Y,())/\∃Rs,SI key κ a0 st' Rs []/\(pendingOf st').size+x<=(arrOf st).size)
   (Q:=λc st'=>c=(Y,())/\∃Rs,SI key κ a0 st' Rs []/\(pendingOf st').size<=1) ?_ ?_ ⟨rfl,Rs,S1,by omega⟩) ?_)
  ·rintro x c st2 _ hx ⟨rfl,Rs2,S2,l2⟩;refine wpS_bind (wpS_get ?_)
   try dsimp only
   refine wpS_ite (λhs=>wpS_pure ⟨rfl,Rs2,S2,hs⟩) (λhs=>?_);have hs:¬(pendingOf st2).size<=1:=hs;refine wpS_bind (merge_ok hL hG S2 ?_ λst7 Rs7 S7 _ l7=>?_)
   ·exact ite_lt (show(pendingOf st2).size-2-1+1<(pendingOf st2).size by omega) (show(pendingOf st2).size-2+1<(pendingOf st2).size by omega)
   ·exact wpS_ite (λz=>by cases z) (λ_=>wpS_pure ⟨rfl,Rs7,S7,by omega⟩)
  ·rintro c st2 ⟨rfl,Rs2,S2,l2⟩;have l2:(pendingOf st2).size+max 0 (arrOf st).size<=(arrOf st).size:=l2;exact⟨rfl,Rs2,S2,by omega⟩
  ·rintro c st2 ⟨rfl,Rs2,S2,l2⟩;have pl:=S2.pm.len.1;rw[Array.length_toList] at pl;have pm:=S2.pm;refine wpS_pure (h st2 S2.fail (by rw[S2.arr];exact S2.perm) ?_);rw[S2.arr,List.append_nil]
   match Rs2,pl,pm with
   | [],_,_=>exact List.Pairwise.nil
   | [R],pl,pm=>
    rw[List.flatten_cons,List.flatten_nil,List.append_nil];generalize (pendingOf st2).toList=q at pm
    match q,pm with
    | [],pm=>exact pm.elim
    | r::q,pm=>exact pm.2.2.2.1
   | _::_::_,pl,_=>simp at pl;omega
end
end TS
namespace DL
open PySem PySem.Spec PyProof.Rows PySem.W L2 List
def qu {α β:Type}{f:α->β}{l l2:List β}(h:l.Perm l2):∀L:List α,l2=L.map f->∃p:List α,p.Perm L/\l=p.map f:=by
 induction h with
 | nil=>intro L e;exact⟨L,.refl _,e⟩
 | cons x h ih=>
  intro L e;cases L with
  | nil=>cases e
  | cons a L=>
   refine q0x2 (List.cons.inj e) λzz0 e2=>?_;subst zz0;refine q1x2 (ih L e2) λp hp zz2=>?_;subst zz2;exact⟨a::p,hp.cons a,rfl⟩
 | swap x y l=>
  intro L e
  match L,e with
  | [],e=>cases e
  | [_],e=>cases e
  | a::b::L,e=>
   refine q0x2 (List.cons.inj e) λzz0 e2=>?_;subst zz0;refine q0x2 (List.cons.inj e2) λzz0 zz1=>?_;subst zz0;subst zz1;exact⟨b::a::L,.swap _ _ _,rfl⟩
 | trans _ _ ih1 ih2=>
  intro L e;refine q1x2 (ih2 L e) λp hp e2=>?_;refine q1x2 (ih1 p e2) λq hq e3=>?_;exact⟨q,hq.trans hp,e3⟩
abbrev pE (h:Heap)(a:Addr)(vs:List Value):Heap:=((h.update a (Obj.mapSeq λ_=>#[])).push (seqObj "tuple" vs.toArray 0)).push (seqObj "list" #[] 0)
variable{vs:List Value}{zs:List (List Int)}{ns:List Int}
section
variable {prog:Program}{w:World}{A:Around}{E:Value->Shared->Prop}{s:Shared}
def i7 {a:Addr}{n:Nat}{κ:SortKind}{P:PySem.Fin->Shared->Prop}(tup:Value->List Int)(ho:s.heap.get? a=Z (seqObj "list" vs.toArray n))(hz:vs.map tup=zs)(hl:vs.length<=100000)
  (hk:2<=vs.length->∀Q:SortKind->Shared->Prop,Q κ {s with heap:=pE s.heap a vs}->wpAny (model prog w) A (keyKind' vs.toArray) Q E {s with heap:=pE s.heap a vs})
  (hc:∀x∈vs,∀y∈vs,∀C:Bool->Shared->Prop,C (HT.lexLt (tup x) (tup y)) {s with heap:=pE s.heap a vs}->wpAny (model prog w) A (keyLt' κ x y) C (λ_ _=>False) {s with heap:=pE s.heap a vs})
  (h:∀(p:List Nat) (h':Heap) (n':Nat),p.Perm (List.range vs.length)->p.map (λi=>zs.getD i [])=a9 zs->(∀b o,b≠a->s.heap.get? b=Z o->h'.get? b=Z o)->h'.get? a=Z (seqObj "list" (List.toArray (p.map λi=>vs.getD i Value.none)) n')->P (.done (.ret .none)) {s with heap:=h'}) :
  wpAny (model prog w) A (Builtin.«list.sort» ⟨[.ref a],[]⟩) P E s:=by
 rw[list_sort_plain];have ha:a<s.heap.objs.size:=Heap.lt_size ho;have hsz:vs.toArray.size=vs.length:=by simp
 have le:vs.length<=sizeLine:=by rw[sizeLine_eq];omega
 refine wpAny_bind (listItems_at ho rfl ?_);refine wpAny_bind (listUpdate_at ho rfl ?_ (by rw[size_toArray];exact le) (Nat.zero_le _));obtain⟨e1,ho1⟩:∃e1,(s.heap.update a (Obj.mapSeq λ_=>#[])).get? a=Z (seqObj "list" #[] e1):=⟨_,get?_update_seq ho (λ_=>#[])⟩;refine wpAny_bind (seqEpoch_at ho1 rfl ?_);refine wpAny_bind (wpAny_newTuple ?_ (by show vs.length<=_;exact le));refine wpAny_bind (wpAny_newList ?_ (Nat.zero_le _));refine wpAny_holding ?_;have ho6:(pE s.heap a vs).get? a=Z (seqObj "list" #[] e1):=by
  rw[Heap.get?_push_ne _ _ _ (by rw[size_push',Heap.size_update];exact Nat.ne_of_lt (Nat.lt_succ_of_lt ha)),Heap.get?_push_ne _ _ _ (by rw[Heap.size_update];exact Nat.ne_of_lt ha)];exact ho1
 have keep:∀(out:Array Value) (b:Addr) (o:Obj),b≠a->s.heap.get? b=Z o->((pE s.heap a vs).update a (Obj.mapSeq λ_=>out)).get? b=Z o:=λout b o hb e=>by
  rw[Heap.get?_update_ne _ _ _ _ hb];exact Heap.get?_push_of_some _ (Heap.get?_push_of_some _ (by rw[Heap.get?_update_ne _ _ _ _ hb];exact e))
 have vr:vs=(List.range vs.length).map λi=>vs.getD i Value.none:=by
  apply ext_getElem
  ·simp
  ·intro i h1 h2;simp[h1]
 have zr:∀p:List Nat,p.Perm (List.range vs.length)->p.map (λi=>zs.getD i [])=(p.map λi=>vs.getD i Value.none).map tup:=λp hp=>by
  rw[map_map];refine map_congr_left λi hi=>?_
  have hi:=mem_range.mp (hp.subset hi);subst hz;rw[getD_eq_getElem?_getD,getElem?_map,getElem?_eq_getElem hi];show tup vs[i]=tup (vs.getD i Value.none);rw[getD_eq_getElem?_getD,getElem?_eq_getElem hi];rfl
 show wpAny (model prog w) A _ P E {s with heap:=pE s.heap a vs};dsimp only
 by_cases h2:vs.toArray.size<2
 ·rw[if_pos h2,if_pos h2];refine wpAny_bind (wpAny_pure ?_);rw[StateT.run_pure];refine wpAny_bind (wpAny_pure ?_);dsimp only;have e:((vs.toArray.zip vs.toArray).map λp=>p.2)=List.toArray ((List.range vs.length).map λi=>vs.getD i Value.none):=by
   match vs,hsz,h2 with
   | [],_,_=>simp
   | [x],_,_=>simp[range_succ]
   | _::_::_,_,h2=>exact absurd h2 (by simp)
  refine wpAny_bind (seqEpoch_at ho6 rfl ?_);refine wpAny_bind (listUpdate_at ho6 rfl ?_ (Nat.zero_le _) (by rw[Array.size_map];show(pairsOf vs).size<=_;rw[pairsOf_size];exact Nat.le_succ_of_le le));simp only[bne_self_eq_false,Bool.false_eq_true,if_false];refine wpAny_pure (h (List.range vs.length) _ _ (.refl _) ?_ (keep _) (by rw[e];exact get?_update_seq ho6 _));rw[zr _ (.refl _),<-vr,hz];refine dL (aL zs).symm ?_ (dR zs);have:zs.length<2:=by rw[<-hz,length_map];omega
  match zs,this with
  | [],_=>exact .nil
  | [_],_=>exact pairwise_singleton _ _
  | _::_::_,q=>exact absurd q (by simp)
 ·rw[if_neg h2,if_neg h2];refine wpAny_bind (hk (by omega) _ ?_);have prs:(vs.toArray.zip vs.toArray).toList=vs.map λv=>(v,v):=by
   rw[Array.toList_zip];show vs.zip vs=_;clear hz hl hk hc h ho hsz le e1 ho1 ho6 keep vr zr h2
   induction vs with
   | nil=>rfl
   | cons v vs ih=>rw[zip_cons_cons,ih];rfl
  have hL:TS.LtOk prog w A {s with heap:=pE s.heap a vs} κ (λx=>x.1∈vs/\x=(x.1,x.1)) (λx=>xV zs (tup x.1)):=λx y hx hy C q=>by
   refine hc x.1 hx.1 y.1 hy.1 C ?_;have mz:tup x.1∈zs:=by rw[<-hz];exact mem_map.mpr ⟨x.1,hx.1,rfl⟩
   rw[yH mz];exact q
  refine wpAny_bind (wpAny_mono (TS.sortRuns_ok (E:=E) (a0:=vs.map λv=>(v,v)) hL (λx hx=>by
   refine q1x2 (mem_map.mp hx) λv hv zz2=>?_;subst zz2;exact⟨hv,rfl⟩) (st:=SortSt.mk' κ (vs.toArray.zip vs.toArray) #[] 7 Y) rfl rfl rfl prs
   (Q:=λ_ st'=>∃p:List Nat,p.Perm (List.range vs.length)/\p.map (λi=>zs.getD i [])=a9 zs/\failedOf st'=Y/\(arrOf st').map (·.2)=List.toArray (p.map λi=>vs.getD i Value.none)) λst' f1 f2 f3=>?_) (λr s' hr=>?_) λ_ _ x=>x)
  ·refine q1x2 (qu f2 vs rfl) λws hw ew=>?_;refine q1x2 (qu hw (List.range vs.length) vr) λp hp ep=>?_;refine⟨p,hp,?_,f1,?_⟩
   ·rw[zr p hp,<-ep];refine dL ((hw.map tup).trans (.trans (.of_eq hz) (aL zs).symm)) ?_ (dR zs);rw[ew,pairwise_map] at f3;rw[pairwise_map];refine f3.imp_of_mem λ{x y} hx hy le=>?_
    have mz:tup y∈zs:=by rw[<-hz];exact mem_map.mpr ⟨y,hw.subset hy,rfl⟩
    rw[yH mz];exact decide_eq_false (Int.not_lt.mpr le)
   ·apply Array.toList_inj.mp;rw[Array.toList_map,ew,map_map,<-ep];exact map_id _
  ·obtain⟨⟨⟩,st'⟩:=r;obtain⟨rfl,p,p1,p2,p3,p4⟩:=hr;dsimp only at p3 p4 ⊢;rw[p4];refine wpAny_bind (seqEpoch_at ho6 rfl ?_);refine wpAny_bind (listUpdate_at ho6 rfl ?_ (Nat.zero_le _) (by rw[size_toArray,length_map,p1.length_eq,length_range];exact Nat.le_succ_of_le le));rw[p3];simp only[bne_self_eq_false,Bool.false_eq_true,if_false];exact wpAny_pure (h p _ _ p1 p2 (keep _) (get?_update_seq ho6 _))
def oe {x:Value}{κ:SortKind}{Q:Value->Shared->Prop}(tup:Heap->Value->List Int)(hz:vs.map (tup s.heap)=zs)(hl:vs.length<=100000)
  (hcol:∀R:List Value->Shared->Prop,(∀(h':Heap) (tk:Nat),(∀b o,s.heap.get? b=Z o->h'.get? b=Z o)->s.heap.objs.size<=h'.objs.size->R vs {s with heap:=h',toks:=tk})->wpAny (model prog w) A.in1 (collect x) R E s)
  (hk:2<=vs.length->∀(s':Shared),(∀b o,s.heap.get? b=Z o->s'.heap.get? b=Z o)->∀Q:SortKind->Shared->Prop,Q κ s'->∀E,wpAny (model prog w) A.in1.in1 (keyKind' vs.toArray) Q E s')
  (hc:∀x∈vs,∀y∈vs,∀(s':Shared),(∀b o,s.heap.get? b=Z o->s'.heap.get? b=Z o)->∀C:Bool->Shared->Prop,C (HT.lexLt (tup s.heap x) (tup s.heap y)) s'->wpAny (model prog w) A.in1.in1 (keyLt' κ x y) C (λ_ _=>False) s')
  (h:∀(p:List Nat) (h':Heap) (tk l n':Nat),p.Perm (List.range vs.length)->p.map (λi=>zs.getD i [])=a9 zs->(∀b o,s.heap.get? b=Z o->h'.get? b=Z o)->s.heap.objs.size<=l->h'.get? l=Z (seqObj "list" (List.toArray (p.map λi=>vs.getD i Value.none)) n')->Q (.ref l) {s with heap:=h',toks:=tk}) :
  wpAny (model prog w) A (call (.builtin "sorted") [x]) Q E s:=by
 refine Calls.call_function_entry kind_sorted plain_sorted entry_sorted (args_sorted1 _) ?_;unfold Builtin.«sorted»;refine wpAny_bind (m:=checkCount "sorted" 1 1 _) (wpAny_pure ?_);refine wpAny_bind (hcol _ λh1 tk keep1 hs1=>?_);refine wpAny_bind (wpAny_newList ?_ (by rw[sizeLine_eq];omega));have hoL:(h1.push (seqObj "list" vs.toArray 0)).get? h1.objs.size=Z (seqObj "list" vs.toArray 0):=Heap.get?_push_size _ rfl;have keep2:∀b o,s.heap.get? b=Z o->(h1.push (seqObj "list" vs.toArray 0)).get? b=Z o:=λb o e=>Heap.get?_push_of_some _ (keep1 b o e)
 have ne:∀b o,s.heap.get? b=Z o->b≠h1.objs.size:=λb o e=>Nat.ne_of_lt (Heap.lt_size (keep1 b o e))
 have keep3:∀b o,s.heap.get? b=Z o->(pE (h1.push (seqObj "list" vs.toArray 0)) h1.objs.size vs).get? b=Z o:=λb o e=>
  Heap.get?_push_of_some _ (Heap.get?_push_of_some _ (by rw[Heap.get?_update_ne _ _ _ _ (ne b o e)];exact keep2 b o e))
 refine wpAny_bind (wpAny_holding (wpAny_call_entry slot_list_sort ⟨_,hoL,rfl⟩ entry_list_sort (i7 (zs:=zs) (κ:=κ) (tup s.heap) hoL hz hl (λh2 Q q=>hk h2 _ keep3 Q q _) (λx hx y hy C q=>hc x hx y hy _ keep3 C q) λp h3 n3 p1 p2 k3 g3=>⟨_,rfl,?_⟩) (args_list_sort _)));exact wpAny_pure ⟨_,rfl,h p h3 tk h1.objs.size n3 p1 p2 (λb o e=>k3 b o (ne b o e) (keep2 b o e)) hs1 g3⟩
def p5 {T:String}{r d:Addr}{n:Nat}{Pv:Nat->Value->Prop}{OK:Heap->Prop}{R:List Value->Shared->Prop}(K:KdlSrc prog w T r d n Pv OK)(hh:A.handled=Y)(hok:OK s.heap)(hn:n<=sizeLine)
  (h:∀(h':Heap) (tk:Nat) (acc:Array Value),(∀b o,s.heap.get? b=Z o->h'.get? b=Z o)->s.heap.objs.size<=h'.objs.size->ItemsOf Pv acc n->R acc.toList {s with heap:=h',toks:=tk}) :
  wpAny (model prog w) A (collect (.ref r)) R E s:=by
 have hlt:=K.there _ hok;unfold collect;refine wpAny_bind (wpAny_runValue (codeAny_builtin entry_proto_collect' ?_));rw[Around.under_plainId PySem.F.plain_proto_collect _];show wpAny _ A.in1 (newList [] >>= λl=>again (.builtin "list.__iadd__" ⟨[l,.ref r],[]⟩)) _ _ s;refine wpAny_bind (wpAny_newObj_type ?_);refine wpAny_pure ⟨plainId_quiet PySem.F.plain_list_iadd _,codeAny_builtin entry_list_iadd' ?_⟩;rw[Around.under_plainId PySem.F.plain_list_iadd _];have hS₁:(s.heap.push {cls:=.type "list",data:=.seq ([]:List Value).toArray}).get? s.heap.objs.size=Z {cls:=.type "list",data:=.seq #[]}:=Heap.get?_push_size _ rfl;show wpAny _ A.in1 (Builtin.List.listExtendWith (.ref s.heap.objs.size) (.ref r) (.ref s.heap.objs.size)) _ _ _;have key:=kdl_extend (A:=A) (s:={s with heap:=s.heap.push {cls:=.type "list",data:=.seq ([]:List Value).toArray}})
  (R:=λ(q:Result) (s':Shared)=>∃(h':Heap) (tk:Nat) (acc':Array Value) (c':Nat),q=.ok (.ret (.ref s.heap.objs.size))/\s'={s with heap:=h',toks:=tk}/\
   (∀b o,s.heap.get? b=Z o->h'.get? b=Z o)/\h'.get? s.heap.objs.size=Z {cls:=.type "list",dict:=Y,data:=.seq acc' c',slots:=#[]}/\ItemsOf Pv acc' n)
  K hh (K.keep _ _ hok λb _ o e=>Heap.get?_push_of_some _ e) s.heap.objs.size (Nat.ne_of_gt hlt.1) (Nat.ne_of_gt hlt.2) (.ref s.heap.objs.size) 0 hS₁
  (λh' tk acc' c' hk hS' hacc=>⟨h',tk,acc',c',rfl,rfl,λb o e=>hk b o (Nat.ne_of_lt (Heap.lt_size e)) (Heap.get?_push_of_some _ e),hS',hacc⟩) hn
 refine wpAny_mono key (λfin s' x=>?_) λe s' x=>?_
 ·cases fin with
  | done f=>
   refine q4x5 x λh' tk acc' c' e zz5 hk hS' hacc=>?_;subst zz5;cases e;show wpAny _ A (load s.heap.objs.size >>= _) _ _ _;exact wpAny_bind (wpAny_load hS' (wpAny_pure (h h' tk acc' hk (Nat.le_of_lt (Heap.lt_size hS')) hacc)))
  | again c₁=>
   refine⟨x.1,codeAny_mono x.2 λq s₂ y=>?_⟩;refine q4x5 y λh' tk acc' c' zz4 zz5 hk hS' hacc=>?_;subst zz4;subst zz5;show wpAny _ A (load s.heap.objs.size >>= _) _ _ _;exact wpAny_bind (wpAny_load hS' (wpAny_pure (h h' tk acc' hk (Nat.le_of_lt (Heap.lt_size hS')) hacc)))
 ·refine q4x2 x λ_ _ _ _ e' _=>?_;cases e'
def j8 (h:Heap):Value->List Int
 | .int n _=>[n]
 | .ref b=>match h.get? b with
  | some o=>match o.data with
   | .seq xs _=>xs.toList.map numOf
   | _=>[]
  | none=>[]
 | _=>[]
def za (h:IntsAre vs ns):vs.map numOf=ns:=by
 induction h with
 | nil=>rfl
 | cons n t h ih=>rw[map_cons,ih];rfl
theorem jB.tup {h:Heap}:∀{vs:List Value} {zs:List (List Int)},jB h vs zs->vs.map (j8 h)=zs
 | [],[],_=>rfl
 | [],_::_,t=>t.elim
 | _::_,[],t=>t.elim
 | v::vs,z::zs,⟨⟨b,o,xs,k,e,g,c,d,r,_⟩,t⟩=>by
  rw[map_cons,t.tup];congr 1;subst e;show(match h.get? b with|some o=>(match o.data with | .seq xs _=>xs.toList.map numOf|_=>[])|none=>[])=z;rw[g];dsimp only;rw[d];exact za r
theorem jB.mem {h:Heap}:∀{vs:List Value} {zs:List (List Int)} {v:Value},jB h vs zs->v∈vs->∃b o xs k,v=.ref b/\h.get? b=Z o/\o.cls=.type "tuple"/\o.data=.seq xs k/\IntsAre xs.toList (j8 h v)
 | [],_,v,_,q=>by cases q
 | _::_,[],_,t,_=>t.elim
 | u::vs,z::zs,v,t,q=>by
  rcases mem_cons.mp q with rfl|q
  ·have e:=jB.tup (vs:=[v]) (zs:=[z]) ⟨t.1,trivial⟩;obtain⟨⟨b,o,xs,k,e1,g,c,d,r,_⟩,_⟩:=t;have e:j8 h v=z:=(List.cons.inj e).1;exact⟨b,o,xs,k,e1,g,c,d,by rw[e];exact r⟩
  ·exact t.2.mem q
def oB {x:Value}{Q:Value->Shared->Prop}(t:jB s.heap vs zs)(hl:vs.length<=100000)
  (hcol:∀R:List Value->Shared->Prop,(∀(h':Heap) (tk:Nat),(∀b o,s.heap.get? b=Z o->h'.get? b=Z o)->s.heap.objs.size<=h'.objs.size->R vs {s with heap:=h',toks:=tk})->wpAny (model prog w) A.in1 (collect x) R E s)
  (h:∀(p:List Nat) (h':Heap) (tk l n':Nat),p.Perm (List.range vs.length)->p.map (λi=>zs.getD i [])=a9 zs->(∀b o,s.heap.get? b=Z o->h'.get? b=Z o)->s.heap.objs.size<=l->h'.get? l=Z (seqObj "list" (List.toArray (p.map λi=>vs.getD i Value.none)) n')->Q (.ref l) {s with heap:=h',toks:=tk}) :
  wpAny (model prog w) A (call (.builtin "sorted") [x]) Q E s:=by
 refine oe (κ:=tuples' true) j8 t.tup hl hcol (λh2 s' keep Q q E=>?_) (λx hx y hy s' keep C q=>?_) h
 ·refine q1x3 ((t.keep keep).firsts) λfs kt kl kf=>?_;refine kat_kind (T:=.type "int") kt (by omega) (λv hv=>?_) rfl q;refine q2x1 (kf v hv) λm tk zz2=>?_;subst zz2;exact .now
 ·refine q4x5 (t.mem hx) λb o xs k zz4 g1 c1 d1 r1=>?_;subst zz4;refine q4x5 (t.mem hy) λc o2 ys k2 zz4 g2 c2 d2 r2=>?_;subst zz4;exact kat_lt (keep _ _ g1) d1 (keep _ _ g2) d2 (qP 0 r1 r2 (by rw[<-r1.length,<-r2.length];simp) q)
def jj {x:Value}{Q:Value->Shared->Prop}(t:IntsAre vs ns)(hl:vs.length<=100000)
  (hcol:∀R:List Value->Shared->Prop,(∀(h':Heap) (tk:Nat),(∀b o,s.heap.get? b=Z o->h'.get? b=Z o)->s.heap.objs.size<=h'.objs.size->R vs {s with heap:=h',toks:=tk})->wpAny (model prog w) A.in1 (collect x) R E s)
  (h:∀(p:List Nat) (h':Heap) (tk l n':Nat),p.Perm (List.range vs.length)->p.map (λi=>(ns.map λn=>[n]).getD i [])=a9 (ns.map λn=>[n])->(∀b o,s.heap.get? b=Z o->h'.get? b=Z o)->s.heap.objs.size<=l->h'.get? l=Z (seqObj "list" (List.toArray (p.map λi=>vs.getD i Value.none)) n')->Q (.ref l) {s with heap:=h',toks:=tk}) :
  wpAny (model prog w) A (call (.builtin "sorted") [x]) Q E s:=by
 have all:∀{vs:List Value} {ns:List Int},IntsAre vs ns->(∀v∈vs,∃n t,v=Value.int n t)/\vs.map (j8 s.heap)=ns.map λn=>[n]:=λt=>by
  induction t with
  | nil=>exact⟨λv hv=>(by cases hv),rfl⟩
  | cons n u t ih=>
   refine⟨λv hv=>?_,by rw[map_cons,ih.2];rfl⟩;rcases mem_cons.mp hv with rfl|hv
   ·exact⟨n,u,rfl⟩
   ·exact ih.1 v hv
 refine q0x2 (all t) λa1 a2=>?_;refine oe (κ:=oneType') j8 a2 hl hcol (λh2 s' keep Q q E=>?_) (λx hx y hy s' keep C q=>?_) h
 ·refine kas_kind (T:=.type "int") h2 (λv hv=>?_) rfl rfl q;refine q2x1 (a1 v hv) λm tk zz2=>?_;subst zz2;exact .now
 ·refine q2x1 (a1 x hx) λm tk zz2=>?_;subst zz2;refine q2x1 (a1 y hy) λm2 tk2 zz2=>?_;subst zz2;have e:HT.lexLt (j8 s.heap (.int m tk)) (j8 s.heap (.int m2 tk2))=decide (m<m2):=by
   show HT.lexLt [m] [m2]=_;rw[HT.lexLt_cons]
   by_cases z:m=m2
   ·rw[if_pos z,decide_eq_false (by omega)];rfl
   ·rw[if_neg z]
  rw[e] at q;rw[keyLt'_oneType];exact oneLt_int q
end
variable{us:List Value}
section
variable {prog:Program}{w:World}{A:Around}{E:Value->Shared->Prop}{s:Shared}
def i6 (h:IntsAre us ns):us.length=ns.length:=by
 induction h with
 | nil=>rfl
 | cons n t h ih=>rw[length_cons,length_cons,ih]
def pv {d:Addr}{ep:Nat}{ws:List (cr×Value)}{Q:Value->Shared->Prop}(lo:(d==sysModules)=false)(hh:A.handled=Y)(hm:s.heap.DictAt (aS prog w) d ws ep)(hk:ws.map (·.1)=ns.map Sum.inl)(hl:ns.length<=100000)
  (h:∀(vs:List Value),IntsAre vs ns->∀(p:List Nat) (h':Heap) (tk l n':Nat),p.Perm (List.range ns.length)->p.map (λi=>(ns.map λn=>[n]).getD i [])=a9 (ns.map λn=>[n])->(∀b o,s.heap.get? b=Z o->h'.get? b=Z o)->s.heap.objs.size<=l->h'.get? l=Z (seqObj "list" (List.toArray (p.map λi=>vs.getD i Value.none)) n')->Q (.ref l) {s with heap:=h',toks:=tk}) :
  wpAny (model prog w) A (call (.builtin "sorted") [.ref d]) Q E s:=by
 refine q2x6 hm λo es ho hx hd hks hpr hn=>?_;have el:∀{es:List DictEntry} {ws:List (cr×Value)} {ns:List Int},Pairs (aS prog w) es ws->ws.map (·.1)=ns.map Sum.inl->IntsAre (es.map (·.key)) ns:=by
  intro es ws ns q
  induction q generalizing ns with
  | nil=>intro e;cases ns with
   | nil=>exact .nil
   | cons _ _=>cases e
  | cons hq hv t ih=>
   intro e;cases ns with
   | nil=>cases e
   | cons n ns=>
    rw[map_cons,map_cons] at e;refine q0x2 (List.cons.inj e) λe1 e2=>?_;rw[e1] at hq;rcases bg (show jZ (Sum.inl n) _=true from hq) with⟨i,t',ei,ek⟩|⟨_,_,ex,_⟩
    ·cases ei;rw[map_cons,ek];exact .cons _ _ (ih e2)
    ·cases ex
 have ia:=el hpr hk;have li:=i6 ia;rw[length_map,Array.length_toList] at li;have raw:kQ s.heap d es ep:=⟨o,ho,hx,hd⟩;refine jj ia (by rw[length_map,Array.length_toList,li];exact hl) (λR q=>p5 (AN lo) hh raw (by rw[li,sizeLine_eq];omega) λh' tk acc k1 k2 hacc=>?_) λp h' tk l n' p1 p2=>h _ ia p h' tk l n' (by rw[length_map,Array.length_toList,li] at p1;exact p1) p2
 have e:acc.toList=es.toList.map (·.key):=by
  apply ext_getElem?;intro j;rw[Array.getElem?_toList,getElem?_map,Array.getElem?_toList]
  by_cases hj:j<acc.size
  ·refine q1x2 (hacc.2 j _ (Array.getElem?_eq_getElem hj)) λe' he hv=>?_;rw[Array.getElem?_eq_getElem hj,hv,he];rfl
  ·rw[Array.getElem?_eq_none (by omega),Array.getElem?_eq_none (by rw[<-hacc.1];omega)];rfl
 rw[e];exact q h' tk k1 k2
end
def aO (ns:List Int):List Int:=(a9 (ns.map λn=>[n])).map λz=>z.headD 0
def nG {α:Type}:List (cr×α)->Option (List Int)
 | []=>Z []
 | (.inl n,_)::r=>(nG r).map (n::·)
 | _=>Y
def dE:FD:=λds M=>match ds with
 | [.mr i]=>match M[i]? with
  | some (.dK kvs)=>match nG kvs with
   | some ns=>if ns.length<=100000 then .ok (.lst ((aO ns).map D.int)) M else .bad
   | none=>.bad
  | some (.lst xs)=>match kn xs with
   | some ns=>if ns.length<=100000 then .ok (.lst ((aO ns).map D.int)) M else .bad
   | none=>match iK xs with
    | some zs=>if zs.length<=100000 then .ok (.lst ((a9 zs).map aR)) M else .bad
    | none=>.bad
  | _=>.bad
 | [.lst xs]=>match kn xs with
  | some ns=>if ns.length<=100000 then .ok (.lst ((aO ns).map D.int)) M else .bad
  | none=>match iK xs with
   | some zs=>if zs.length<=100000 then .ok (.lst ((a9 zs).map aR)) M else .bad
   | none=>.bad
 | _=>.bad
def BM (xs:List D)(M:aw):aN D:=match kn xs with
 | some ns=>if ns.length<=100000 then .ok (.lst ((aO ns).map D.int)) M else .bad
 | none=>match iK xs with
  | some zs=>if zs.length<=100000 then .ok (.lst ((a9 zs).map aR)) M else .bad
  | none=>.bad
section
variable {X:Cx}{aa:List (Addr×Obj)}{σ:L2.St}{H:Hp}{s:Shared}{θ:List Addr}
theorem lQ:∀{ns:List Int} {us:List Value},aJ (ns.map V.int) us->IntsAre us ns
 | [],_,r=>by rw[map_nil] at r;cases r;exact .nil
 | n::ns,_,r=>by
  rw[map_cons] at r;cases r with
  | cons h t=>
   refine q1x1 ((show∃t,_=Value.int n t from h)) λtk zz1=>?_;subst zz1;exact .cons n tk (lQ t)
def iC (h:IntsAre us ns):∀i,i<ns.length->aI (V.int (ns.getD i 0)) (us.getD i Value.none):=by
 induction h with
 | nil=>intro i hi;cases hi
 | cons n t h ih=>
  intro i hi;cases i with
  | zero=>exact⟨t,rfl⟩
  | succ i=>exact ih i (by simpa using hi)
def gX {p:List Nat}(hp:p.Perm (List.range ns.length))(e:p.map (λi=>(ns.map λn=>[n]).getD i [])=a9 (ns.map λn=>[n])):p.map (λi=>ns.getD i 0)=aO ns:=by
 unfold aO;rw[<-e,map_map];refine map_congr_left λi hi=>?_
 have hi:=mem_range.mp (hp.subset hi);show ns.getD i 0=((ns.map λn=>[n]).getD i []).headD 0;rw[getD_eq_getElem?_getD,getD_eq_getElem?_getD,getElem?_map,getElem?_eq_getElem hi];rfl
def fc {Q:VK}{M:aw}{h':Heap}{tk l n':Nat}{vs:List V}{out:List Value}{ds:List D}(I:L2.Inv X aa σ H s)(hw:Wr X.K θ H M)(hk:∀b o,s.heap.get? b=Z o->h'.get? b=Z o)(hl:s.heap.objs.size<=l)(hg:h'.get? l=Z (seqObj "list" (List.toArray out) n'))(hv:aJ vs out)(hz:vs.length<=sizeLine)(hd:isDs X.K θ H ds vs)
  (h:aC X θ H Q (.ok (.lst ds) M)):∃x H',L2.Inv X aa σ H' {s with heap:=h',toks:=tk}/\aI x (.ref l)/\Q x H':=by
 have fr:=I.hok.fresh hl;exact⟨.ref l,_,I.laid (t':=tk) hk hl (show bB X.prog X.w _ _ _ (.lst vs) from⟨hz,out,n',hv,hg⟩),rfl,h _ θ _ (cJ hw fr) (f6 hw fr hd)⟩
def mD {Q:VK}{M:aw}{a:Addr}{ys:List D}{vs:List V}{u:Value}(I:L2.Inv X aa σ H s)(hw:Wr X.K θ H M)(ta:H a=Z (.lst vs))(ra:isDs X.K θ H ys vs)(hu:u=.ref a)(h:aC X θ H Q (BM ys M)) :
  wpAny (model X.prog X.w) X.A (call (.builtin "sorted") [u]) (λv s'=>∃x H',L2.Inv X aa σ H' s'/\aI x v/\Q x H') X.xe s:=by
 subst hu;refine q1x3 (I.list (show jt X.K H a vs from .inl (.inl ta))) λits r' pl hz=>?_;have col:∀(A:Around) (E:Value->Shared->Prop) (R:List Value->Shared->Prop),(∀(h':Heap) (tk:Nat),(∀b o,s.heap.get? b=Z o->h'.get? b=Z o)->s.heap.objs.size<=h'.objs.size->R its {s with heap:=h',toks:=tk})->wpAny (model X.prog X.w) A (collect (.ref a)) R E s:=λA E R q=>by
  refine collect_list pl.isList (q _ s.toks (λb o e=>?_) (by rw[Heap.size_update,size_push'];exact Nat.le_succ _)) (by rw[<-r'.length];exact hz);have hb:b≠s.heap.objs.size:=Nat.ne_of_lt (Heap.lt_size e);rw[Heap.get?_update_ne _ _ _ _ hb];exact Heap.get?_push_of_some _ e
 unfold BM at h;split at h
 ·rename_i ns qn;split at h
  ·rename_i hl;have ev:=xj qn ra;subst ev;have ia:=lQ r';have li:=i6 ia;refine jj ia (by rw[li];exact hl) (col _ _) λp h' tk l n' p1 p2 k hll g=>?_
   rw[li] at p1;have inR:∀i∈p,i<ns.length:=λi hi=>mem_range.mp (p1.subset hi)
   refine fc (vs:=(aO ns).map V.int) I hw k hll g ?_ (by rw[<-gX p1 p2,length_map,length_map,p1.length_eq,length_range,sizeLine_eq];omega) (fM _) h;rw[<-gX p1 p2,map_map];exact fK _ λi hi=>iC ia i (inR i hi)
  ·exact h.elim
 ·split at h
  ·rename_i zs qz;split at h
   ·rename_i hl;refine q0x3 (p6 I qz ra r') λT lz f=>?_;refine oB T (by rw[lz];exact hl) (col _ _) λp h' tk l n' p1 p2 k hll g=>?_
    rw[lz] at p1;have inR:∀i∈p,i<zs.length:=λi hi=>mem_range.mp (p1.subset hi)
    refine fc (vs:=p.map λi=>vs.getD i V.non) I hw k hll g (fK _ λi hi=>(f i (inR i hi)).2) (by rw[length_map,p1.length_eq,length_range,sizeLine_eq];omega) ?_ h;rw[<-p2,map_map];exact jw _ λi hi=>(f i (inR i hi)).1
   ·exact h.elim
  ·exact h.elim
theorem nQ {K:W.Frag}{κ:Type}:∀{kvs:List (κ×D)} {vs:List (κ×V)},isKs K θ H kvs vs->kvs.map (·.1)=vs.map (·.1)
 | [],vs,r=>by
  have e:vs=[]:=r;subst e;rfl
 | (k,d)::kvs,vs,r=>by
  refine q2x3 r λv r' e _ h2=>?_;subst e;rw[map_cons,map_cons,nQ h2]
def yO {kvs:List (cr×D)}:∀{ns:List Int},nG kvs=Z ns->kvs.map (·.1)=ns.map Sum.inl:=by
 induction kvs with
 | nil=>intro ns e;cases e;rfl
 | cons p r ih=>
  intro ns e;obtain⟨k,d⟩:=p;cases k with
  | inl n=>
   refine q1x2 (Option.map_eq_some_iff.mp (show(nG r).map (n::·)=Z ns from e)) λms e1 zz2=>?_;subst zz2;rw[map_cons,ih e1];rfl
  | inr x=>cases e
def xu (hc:X.calm=true):cG X (.builtin "sorted") (rC X dE):=by
 intro aa s σ H xs us Q I r h;obtain⟨θ,M,ds,hw,rd,h⟩:=h;unfold dE at h;split at h
 ·rename_i i;obtain⟨v,e,a,ea,ta⟩:=gH rd;subst e ea;obtain⟨u,rfl,rx⟩:=iI r;have rx:u=.ref a:=rx;split at h
  ·rename_i kvs qm;split at h
   ·rename_i ns qn;split at h
    ·rename_i hl;subst rx;obtain⟨vs,hv,ra⟩:=hw.at_ i a _ ta qm;obtain⟨z,lo,ws,rel,hd⟩:=(show bB X.prog X.w H s.heap a (.dK vs) from I.hok a _ hv);obtain⟨ep,hat⟩:=hd.dictAt;have kk:ws.map (·.1)=ns.map Sum.inl:=by rw[<-rel.keys,<-nQ ra];exact yO qn
     have lw:ws.length=ns.length:=by rw[<-length_map (f:=(·.1)),kk,length_map]
     refine wpAny_mono (pv lo (show X.A.handled=Y from I.ok.hd hc) hat kk (by omega) λvs2 ia p h' tk l n' p1 p2 k hll g=>?_) (λ_ _ x=>x) (λ_ _ x=>x);have inR:∀i∈p,i<ns.length:=λi hi=>mem_range.mp (p1.subset hi)
     refine fc (vs:=(aO ns).map V.int) I hw k hll g ?_ (by rw[<-gX p1 p2,length_map,length_map,p1.length_eq,length_range,sizeLine_eq];omega) (fM _) h;rw[<-gX p1 p2,map_map];exact fK _ λi hi=>iC ia i (inR i hi)
    ·exact h.elim
   ·exact h.elim
  ·rename_i ys qm;obtain⟨vs,hv,ra⟩:=hw.at_ i a _ ta qm;exact mD I hw hv ra rx h
  ·exact h.elim
 ·rename_i ys;obtain⟨v,e,a,vs,ea,ta,ra⟩:=gH rd;subst e ea;obtain⟨u,rfl,rx⟩:=iI r;exact mD I hw ta.1 ra rx h
 ·exact h.elim
def Be (hc:X.calm=true):QC X (.builtin "sorted") dE:=⟨xu hc⟩
end
end DL
namespace DL
open PySem PySem.Spec PyProof.Rows L2 List
def HE (d:Addr)(o:Obj)(vs:List (cr×V)):It:=
 ⟨λi H=>H d=Z (.frz o (.dK vs))/\i<vs.length,λi H x H'=>∃p k v,H p=Y/\vs[i]?=Z (k,v)/\H'=bu H p (.tup [kV k,v])/\x=.ref p,λi H=>H d=Z (.frz o (.dK vs))/\vs.length<=i⟩
section
variable {X:Cx}{aa:List (Addr×Obj)}{σ:L2.St}{H:Hp}{s:Shared}
def zS {d:Addr}{vs:List (cr×V)}{o:Obj}(I:L2.Inv X aa σ H s)(h:H d=Z (.dK vs))(ho:s.heap.get? d=Z o):L2.Inv X aa σ (bu H d (.frz o (.dK vs))) s:=by
 have nd:∀{b:Addr} {u:HO},H b=Z u->(∀ws,u≠.dK ws)->b≠d:=λ{b u} e n z=>by
  rw[z,h] at e;cases e;exact n _ rfl
 refine I.un (h':=s.heap) (t':=s.toks) ⟨λb o q _ _ _=>q,λb o q _ _ _=>⟨o.slots,q⟩,λb o q n _=>?_,λb o q _=>⟨o,q⟩,λb xs e=>?_,λb o u e=>?_,λb ps e=>⟨#[],?_⟩⟩ λa u e=>?_
 ·rw[aj (λz=>by rw[z,h] at n;cases n)];exact n
 ·rw[aj (nd e (by intro _ z;cases z))];exact e
 ·rw[aj (nd e (by intro _ z;cases z))];exact e
 ·rw[aj (nd e (by intro _ z;cases z)),e];simp
 ·by_cases z:a=d
  ·subst z;rw[aX] at e;cases e;exact⟨ho,(show bB X.prog X.w H s.heap a (.dK vs) from I.hok a _ h)⟩
  ·rw[aj z] at e;refine(I.hok a u e).stay (λc v _ q=>q) (λc q=>?_) λc xs q=>?_
   ·rw[aj (nd q (by intro _ z;cases z))];exact q
   ·rw[aj (nd q (by intro _ z;cases z))];exact q
end
def DN {kvs:List (cr×V)}{ws:List (cr×Value)}(r:KV kvs ws):∀{i:Nat} {k:cr} {v:V},kvs[i]?=Z (k,v)->∃u,ws[i]?=Z (k,u)/\aI v u:=by
 unfold KV at r
 induction r with
 | nil=>intro i k v e;cases e
 | @cons p q ps qs h t ih=>
  intro i k v e;cases i with
  | zero=>
   cases e;obtain⟨k',u⟩:=q;refine q0x2 h λh1 h2=>?_;have h1:k=k':=h1;subst h1;exact⟨u,rfl,h2⟩
  | succ i=>exact ih e
def AT {prog:Program}{w:World}{k:cr}{u:Value}(h:(aS prog w).is k u=true):aI (kV k) u:=by
 rcases bg (show jZ k u=true from h) with⟨i,t,rfl,rfl⟩|⟨x,t,rfl,rfl⟩
 ·exact⟨t,rfl⟩
 ·exact⟨t,rfl⟩
variable{es:List Expr}
def sk {P:Program}{w:World}{K:W.Frag}{kt:Nat}{pos:Pos}(d it:Addr)(o:Obj)(vs:List (cr×V))(ents:Array DictEntry)(ep:Nat)(hne:d≠it)(ho:o.data=.dict ents ep) :
  TurnF P w K (.Tuple es kt pos) (HE d o vs) [it] it (λi h=>∃ok ov,IsItemIter h it d i vs.length ep ok ov) where
 mem:=by simp
 obj:=λi h st c hc=>by
  refine q2x1 st λok ov he=>?_;rw[mem_singleton.mp hc];exact⟨_,he,λv z=>by cases z⟩
 keep:=λi h h' st k=>st.imp λok x=>x.imp λov he=>k it (by simp) _ he
 item:=by
  intro X hP hw hK hc i aa s σ H E I hf st hg;subst hP hw hK;refine q2x1 st λok ov he=>?_;refine q0x2 hg λhd hi=>?_;obtain⟨g,z,lo,ws,rel,o2,es2,ep2,h2,h3,h4,h5,h6,h7⟩:=(show bB X.prog X.w H s.heap d (.frz o (.dK vs)) from I.hok d _ hd);rw[g] at h2;cases h2;rw[ho] at h4;cases h4;have hat:s.heap.DictAt (aS X.prog X.w) d ws ep:=⟨o,ents,g,h3,ho,h5,h6,h7⟩;obtain⟨k,v,hx⟩:∃k v,vs[i]?=Z (k,v):=⟨_,_,getElem?_eq_getElem hi⟩;refine q1x2 (DN rel hx) λu hu ru=>?_;have hel:it<s.heap.objs.size:=Heap.lt_size he;have he':IsItemIter s.heap it d i ws.length ep ok ov:=by rw[<-rel.length];exact he
  refine wpAny_pyNext_items_item he' hat hu λkey h' hkey hout hT hsz hk=>⟨_,rfl,?_⟩
  refine wpAny_letOwnedTupleGo_items hout λh2 he2 hs2=>?_
  have hT2:h2.get? s.heap.objs.size=Z {cls:=.type "tuple",data:=.seq #[key,u]}:=(hs2.2 _ (Nat.ne_of_gt hel)).trans hT;have fr:H s.heap.objs.size=Y:=I.hok.fresh (Nat.le_refl _);have new:bB X.prog X.w (bu H s.heap.objs.size (.tup [kV k,v])) h2 s.heap.objs.size (.tup [kV k,v]):=
   ⟨Nat.le_trans (by decide:2<=1000) (by rw[sizeLine_eq];decide),[key,u],.cons (AT hkey) (.cons ru .nil),⟨_,hT2,rfl,_,rfl⟩⟩
  have I2:=oN (t':=s.toks) I hf (λc o hc q=>(hs2.2 c (λz=>hc (by simp[z]))).trans (hk c o (λz=>hc (by simp[z])) q)) (Nat.le_refl _) new;refine⟨.ref s.heap.objs.size,_,I2,rfl,⟨_,k,v,fr,hx,rfl,rfl⟩,⟨key,u,by rw[rel.length];exact he2⟩,λc hc=>?_⟩;rw[mem_singleton.mp hc,aj (Nat.ne_of_lt hel)];exact(hf it (by simp)).1
 done:=by
  intro X hP hw hK hc i aa s σ H E I hf st hg;subst hP hw hK;refine q2x1 st λok ov he=>?_;refine q0x2 hg λhd hi=>?_;obtain⟨g,z,lo,ws,rel,o2,es2,ep2,h2,h3,h4,h5,h6,h7⟩:=(show bB X.prog X.w H s.heap d (.frz o (.dK vs)) from I.hok d _ hd);rw[g] at h2;cases h2;rw[ho] at h4;cases h4;have hat:s.heap.DictAt (aS X.prog X.w) d ws ep:=⟨o,ents,g,h3,ho,h5,h6,h7⟩;have he':IsItemIter s.heap it d i ws.length ep ok ov:=by rw[<-rel.length];exact he
  exact wpAny_pyNext_items_end (show X.A.handled=Y from I.ok.hd hc) he' hat (getElem?_eq_none (by rw[<-rel.length];exact hi)) λh' hb=>
   ⟨rfl,vY (t':=s.toks) I hf λc o hc q=>hb c o (λz=>hc (by simp[z])) q⟩
variable{X:Cx}{e:Expr}
def xH {es:List Expr}{kt:Nat}{tp:Pos}{te:TE}{apos cpos:Pos}(he:PE X e te)(hbase:attributeBase e "items" X.env (eval e X.env)=eval e X.env:=by rfl)(hline:(apos.endLine==cpos.line)=true:=by rfl) :
  FC X (.Tuple es kt tp) (.Call (.Attribute e "items" apos) [] [] cpos) (λσ H R=>te σ H λx H1=>∃d vs,x=.ref d/\H1 d=Z (.dK vs)/\∀o,R (HE d o vs) (bu H1 d (.frz o (.dK vs)))):=by
 intro aa s σ H R I h;refine wpAny_Call_method0_late hbase hline (bM (he aa s σ H _ I h) λv s1 hxx=>?_);obtain⟨x,H1,I1,r1,d,vs,rfl,hd,q1⟩:=hxx;have r1:v=.ref d:=r1;subst r1;obtain⟨z,lo,ws,rel,hof⟩:=(show bB X.prog X.w H1 s1.heap d (.dK vs) from I1.hok d _ hd);refine q3x6 (id hof) λo ents ep g h3 h4 h5 h6 h7=>?_;refine⟨"dict","dict.items",PySem.F.plainAttrs_dict,PySem.F.slot_dict_items,PySem.F.type_dict_items,hof.typeIs,λb eb=>by cases eb;exact⟨o,g,h3.2.1⟩,Calls.callWith_builtin rfl (PySem.evalArgs_none ?_)⟩;refine call_meetsIn PySem.F.slot_dict_items hof.typeIs PySem.F.entry_dict_items (PySem.F.args_dict_items_1 _) (meets_dict_items (aS X.prog X.w) d lo) ⟨⟨ws,hof⟩,?_⟩;have hat:(s1.heap.push {cls:=.type "dict_items",data:=.fields #[.ref d]}).DictAt (aS X.prog X.w) d ws ep:=Heap.DictAt.push ⟨o,ents,g,h3,h4,h5,h6,h7⟩ _;refine wpAny_pyIter_items (s:={s1 with heap:=s1.heap.push {cls:=.type "dict_items",data:=.fields #[.ref d]}}) ⟨_,Heap.get?_push_size _ rfl,rfl,rfl⟩ hat ?_;have I2:=zS I1 hd g;have hlt:d<s1.heap.objs.size:=Heap.lt_size g;have I3:=I2.kept (h':=(s1.heap.push {cls:=.type "dict_items",data:=.fields #[.ref d]}).push {cls:=.type "dict_itemiterator",data:=.fields #[.none,.bool false,.ref d,.int 0 0,.int ws.length 0,.int ep 0,.none,.none]}) (t':=s1.toks) λb u e=>Heap.get?_push_of_some _ (Heap.get?_push_of_some _ e)
 have sz:(s1.heap.push {cls:=.type "dict_items",data:=.fields #[.ref d]}).objs.size=s1.heap.objs.size+1:=Heap.size_push ..;refine⟨_,[_],_,_,_,rfl,I3,sk d _ o vs ents ep (by rw[sz];exact Nat.ne_of_lt (Nat.lt_succ_of_lt hlt)) h4,⟨.none,.none,by rw[rel.length];exact Heap.get?_push_size _ rfl⟩,λb hb=>?_,q1 o⟩;have hb:b=(s1.heap.push {cls:=.type "dict_items",data:=.fields #[.ref d]}).objs.size:=mem_singleton.mp hb;have le:s1.heap.objs.size<=b:=by rw[hb,sz];exact Nat.le_succ _
 exact I2.fpOk le (I2.hok.fresh le)
def vD:D->D
 | .mr j=>.mr (j-1)
 | d=>d
def HQ (i:Nat):D->Bool
 | .mr j=>decide (i<j)
 | d=>aZ 30 d
def He (kvs:List (cr×D)):List D:=kvs.map λp=>.tup [Ed p.1,vD p.2]
def CM (n:Nat)(x:D)(M:aw):aN jP:=match x with
 | .mr i=>match M[i]? with
  | some (.dK kvs)=>if n<=i/\(M.take i).all (sL i)=true/\(M.drop (i+1)).all dh=true/\kvs.all (λp=>HQ i p.2)=true then .ok ⟨He kvs,Y⟩ (M.eraseIdx i) else .bad
  | _=>.bad
 | _=>.bad
def lB (g:GE):GI:=λρ M=>(g ρ M).bind (CM M.length)
variable{b:Addr}
section
variable {K:W.Frag}{θ:List Addr}{H:Hp}{M:aw}{i:Nat}{a:Addr}{o:Obj}{ws:List (cr×V)}
def kX {l:List Addr}(hn:l.Nodup){i:Nat}{a:Addr}(h:l[i]?=Z a):a∉l.eraseIdx i:=λz=>by
 obtain⟨j,hj,e⟩:=getElem_of_mem z;have e2:(l.eraseIdx i)[j]?=Z a:=by rw[getElem?_eq_getElem hj,e]
 rw[getElem?_eraseIdx] at e2;refine q1x1 (List.getElem?_eq_some_iff.mp h) λhi ei=>?_;split at e2
 ·refine q1x1 (List.getElem?_eq_some_iff.mp e2) λh1 e1=>?_;have:=(getElem_inj hn).mp (e1.trans ei.symm);omega
 ·refine q1x1 (List.getElem?_eq_some_iff.mp e2) λh1 e1=>?_;have:=(getElem_inj hn).mp (e1.trans ei.symm);omega
structure ky (θ:List Addr)(H:Hp)(i:Nat)(a:Addr)(o:Obj)(ws:List (cr×V)):Prop where
 at_:θ[i]?=Z a
 dict:H a=Z (.dK ws)
def ky.ne (p:ky θ H i a o ws){u:HO}(e:H b=Z u)(n:∀ws,u≠.dK ws):bu H a (.frz o (.dK ws)) b=Z u:=by
 rw[aj (λz=>by rw[z,p.dict] at e;cases e;exact n _ rfl)];exact e
def ky.nin (p:ky θ H i a o ws)(n:b∉θ):b∉θ.eraseIdx i:=λz=>n (mem_of_mem_eraseIdx z)
def ky.ro (p:ky θ H i a o ws){xs:List V}(h:lN K θ H b xs):lN K (θ.eraseIdx i) (bu H a (.frz o (.dK ws))) b xs:=by
 rcases h with⟨h|⟨o',h⟩,n⟩|h
 ·exact .inl ⟨.inl (p.ne h (by intro _ z;cases z)),p.nin n⟩
 ·exact .inl ⟨.inr ⟨o',p.ne h (by intro _ z;cases z)⟩,p.nin n⟩
 ·exact .inr h
theorem ky.isD (p:ky θ H i a o ws):∀(f:Nat) (d:D) (v:V),fG i f d=true->isD K θ H d v->isD K (θ.eraseIdx i) (bu H a (.frz o (.dK ws))) d v
 | 0,d,v,hb,_=>by cases hb
 | f+1,d,v,hb,h=>by
  have all:∀(ds:List D) (vs:List V),ds.all (fG i f)=true->isDs K θ H ds vs->isDs K (θ.eraseIdx i) (bu H a (.frz o (.dK ws))) ds vs:=λds=>by
   induction ds with
   | nil=>intro vs _ h;exact h
   | cons d ds ih=>
    intro vs hb h;rw[all_cons,Bool.and_eq_true] at hb;refine q2x3 h λv r e h1 h2=>?_;exact⟨v,r,e,p.isD f d v hb.1 h1,ih r hb.2 h2⟩
  cases d with
  | tup ds=>
   refine q2x3 h λb vs e t r=>?_;exact⟨b,vs,e,⟨p.ne t.1 (by intro _ z;cases z),p.nin t.2⟩,all ds vs hb r⟩
  | lst ds=>
   refine q2x3 h λb vs e t r=>?_;exact⟨b,vs,e,⟨p.ne t.1 (by intro _ z;cases z),p.nin t.2⟩,all ds vs hb r⟩
  | ro ds=>
   refine q2x3 h λb vs e t r=>?_;exact⟨b,vs,e,p.ro t,all ds vs hb r⟩
  | mr j=>
   refine q1x2 h λb e t=>?_;have hj:j<i:=of_decide_eq_true hb;exact⟨b,e,by rw[getElem?_eraseIdx,if_pos hj];exact t⟩
  | exc c=>
   refine q2x4 h λb C e k t n=>?_;exact⟨b,C,e,k,p.ne t (by intro _ z;cases z),p.nin n⟩
  | _=>exact h
theorem ky.isDs (p:ky θ H i a o ws):∀(ds:List D) (vs:List V),ds.all (fG i 30)=true->isDs K θ H ds vs->isDs K (θ.eraseIdx i) (bu H a (.frz o (.dK ws))) ds vs
 | [],vs,_,h=>h
 | d::ds,vs,hb,h=>by
  rw[all_cons,Bool.and_eq_true] at hb;refine q2x3 h λv r e h1 h2=>?_;exact⟨v,r,e,p.isD 30 d v hb.1 h1,p.isDs ds r hb.2 h2⟩
theorem ky.isKs {κ:Type}(p:ky θ H i a o ws):∀{ds:List (κ×D)} {vs:List (κ×V)},ds.all (λq=>fG i 30 q.2)=true->isKs K θ H ds vs->isKs K (θ.eraseIdx i) (bu H a (.frz o (.dK ws))) ds vs
 | [],vs,_,h=>h
 | (k,d)::ds,vs,hb,h=>by
  rw[all_cons,Bool.and_eq_true] at hb;refine q2x3 h λv r e h1 h2=>?_;exact⟨v,r,e,p.isD 30 d v hb.1 h1,p.isKs hb.2 h2⟩
theorem ky.isFs (p:ky θ H i a o ws):∀{ds:List (Str×D)} {vs:List (Str×V)},ds.all (λq=>fG i 30 q.2)=true->isFs K θ H ds vs->isFs K (θ.eraseIdx i) (bu H a (.frz o (.dK ws))) ds vs
 | [],vs,_,h=>h
 | (k,d)::ds,vs,hb,h=>by
  rw[all_cons,Bool.and_eq_true] at hb;refine q2x3 h λv r e h1 h2=>?_;exact⟨v,r,e,p.isD 30 d v hb.1 h1,p.isFs hb.2 h2⟩
def ky.mo (p:ky θ H i a o ws){m:MO}(hb:sL i m=true)(hn:b≠a)(h:ke K θ H m b):ke K (θ.eraseIdx i) (bu H a (.frz o (.dK ws))) m b:=by
 cases m with
 | lst ds=>
  refine q1x2 h λvs e r=>?_;exact⟨vs,by rw[aj hn];exact e,p.isDs ds vs hb r⟩
 | obj c fs=>
  refine q3x3 h λC dx vs k e r=>?_;exact⟨C,dx,vs,k,by rw[aj hn];exact e,p.isFs hb r⟩
 | dK kvs=>
  refine q1x2 h λvs e r=>?_;exact⟨vs,by rw[aj hn];exact e,p.isKs hb r⟩
 | dT kvs=>
  refine q1x2 h λvs e r=>?_;exact⟨vs,by rw[aj hn];exact e,p.isKs hb r⟩
def ky.wr (p:ky θ H i a o ws)(w:Wr K θ H M)(h1:(M.take i).all (sL i)=true)(h2:(M.drop (i+1)).all dh=true):Wr K (θ.eraseIdx i) (bu H a (.frz o (.dK ws))) (M.eraseIdx i):=by
 have hi:i<θ.length:=(List.getElem?_eq_some_iff.mp p.at_).1;have hm:i<M.length:=by rw[<-w.len];exact hi
 refine⟨by rw[length_eraseIdx,length_eraseIdx,if_pos hi,if_pos hm,w.len],w.nd.eraseIdx i,λj b m e1 e2=>?_,w.tb.at_ p.dict rfl⟩;have hb:b≠a:=λz=>kX w.nd p.at_ (by rw[<-z];exact mem_of_getElem? e1)
 rw[getElem?_eraseIdx] at e1 e2
 by_cases hj:j<i
 ·rw[if_pos hj] at e1 e2;refine p.mo (all_eq_true.mp h1 m (mem_of_getElem? (i:=j) ?_)) hb (w.at_ j b m e1 e2);rw[getElem?_take,if_pos hj];exact e2
 ·rw[if_neg hj] at e1 e2;refine p.mo (jv (all_eq_true.mp h2 m (mem_of_getElem? (i:=j-i) ?_))) hb (w.at_ (j+1) b m e1 e2);rw[getElem?_drop,show i+1+(j-i)=j+1 by omega];exact e2
def ky.go {θ0:List Addr}{H0:Hp}(p:ky θ H i a o ws)(g:Go K θ0 H0 θ H M)(hn:θ0.length<=i)(h1:(M.take i).all (sL i)=true)(h2:(M.drop (i+1)).all dh=true):Go K θ0 H0 (θ.eraseIdx i) (bu H a (.frz o (.dK ws))) (M.eraseIdx i):=by
 refine q1x2 g.ext λmore e hm=>?_;have am:a∈more:=by
  have:=p.at_;rw[e,getElem?_append_right hn] at this;exact mem_of_getElem? this
 refine⟨⟨⟨more.eraseIdx (i-θ0.length),by rw[e,eraseIdx_append_of_length_le hn],λb hb=>hm b (mem_of_mem_eraseIdx hb)⟩,λb u h n t=>?_,λb ps h=>?_⟩,p.wr g.wr h1 h2⟩
 ·rw[aj (λz=>by rw[z,hm a am] at h;cases h)];exact g.keep b u h n t
 ·refine q1x1 (g.tkeep b ps h) λps' h'=>?_;exact⟨ps',p.ne h' (by intro _ z;cases z)⟩
theorem qA {κ:Type}:∀{kvs:List (κ×D)} {vs:List (κ×V)},isKs K θ H kvs vs->∀{j:Nat} {k:κ} {d:D},kvs[j]?=Z (k,d)->∃v,vs[j]?=Z (k,v)/\isD K θ H d v
 | [],vs,_,j,k,d,e=>by cases e
 | (k0,d0)::kvs,vs,h,j,k,d,e=>by
  refine q2x3 h λv r e1 h1 h2=>?_;subst e1;cases j with
  | zero=>cases e;exact⟨v,rfl,h1⟩
  | succ j=>exact qA h2 e
def ky.val (p:ky θ H i a o ws){d:D}{v:V}(ho:HQ i d=true)(h:DL.isD K θ H d v):DL.isD K (θ.eraseIdx i) (bu H a (.frz o (.dK ws))) (vD d) v:=by
 have rest:aZ 30 d=true->vD d=d->DL.isD K (θ.eraseIdx i) (bu H a (.frz o (.dK ws))) (vD d) v:=λhp e=>by
  rw[e];exact p.isD 30 d v (dQ 30 d hp) h
 cases d with
 | mr j=>
  have hj:i<j:=of_decide_eq_true ho;refine q1x2 h λb e t=>?_;exact⟨b,e,by rw[getElem?_eraseIdx,if_neg (by omega),show j-1+1=j by omega];exact t⟩
 | _=>exact rest ho rfl
def ky.itd (p:ky θ H i a o ws)(w:Wr K θ H M){kvs:List (cr×D)}(r:DL.isKs K θ H kvs ws)(ho:kvs.all (λq=>HQ i q.2)=true):xW K (HE a o ws) (θ.eraseIdx i) (bu H a (.frz o (.dK ws))) ⟨He kvs,Y⟩:=by
 intro θ1 H1 M1 g _ j;have hz:H1 a=Z (.frz o (.dK ws)):=g.keep a _ aX (kX w.nd p.at_) (by intro _ z;cases z);refine⟨λdd e=>?_,λhl=>⟨hz,by rw[<-fw r];unfold He at hl;rw[length_map] at hl;exact hl⟩⟩;have e:(kvs.map λq=>D.tup [Ed q.1,vD q.2])[j]?=Z dd:=e;rw[getElem?_map] at e;obtain⟨⟨k,d⟩,ek,rfl⟩:=Option.map_eq_some_iff.mp e;refine q1x2 (qA r ek) λv ev rv=>?_;have rv':=(p.val (all_eq_true.mp ho _ (mem_of_getElem? ek)) rv).go g;refine⟨⟨hz,(List.getElem?_eq_some_iff.mp ev).1⟩,λx H2 y=>?_⟩;refine q3x4 y λq k' v' np e2 eH ex=>?_;rw[ev] at e2;cases e2;subst eH ex;exact⟨cJ g.wr np,gw (ds:=[Ed k,vD d]) g.wr np ⟨_,_,rfl,by cases k <;> exact rfl,_,_,rfl,rv',rfl⟩⟩
end
def wG {es:List Expr}{kt:Nat}{tp:Pos}{g:GE}{apos cpos:Pos}(he:PE X e (tE X g))(hbase:attributeBase e "items" X.env (eval e X.env)=eval e X.env:=by rfl)(hline:(apos.endLine==cpos.line)=true:=by rfl) :
  FC X (.Tuple es kt tp) (.Call (.Attribute e "items" apos) [] [] cpos) (tI X (lB g)):=by
 intro aa s σ H R I h;refine xH he hbase hline aa s σ H R I ?_;refine q3x3 h λρ θ M hd hw h=>?_;refine bo hd hw (xQ X θ H R) (λc M' h=>h) (λh=>h) h λd M1 v θ1 H1 g1 r1 h1=>?_
 unfold CM at h1;split at h1
 ·rename_i i;split at h1
  ·rename_i kvs qm;split at h1
   ·rename_i hc;refine q0x4 hc λc1 c2 c3 c4=>?_;refine q1x2 r1 λa e ta=>?_;refine q1x2 (g1.wr.at_ i a _ ta qm) λvs hv ra=>?_;refine⟨a,vs,e,hv,λo=>?_⟩;have p:ky θ1 H1 i a o vs:=⟨ta,hv⟩;exact h1 _ _ _ (p.go g1 (by rw[hw.len];exact c1) c2 c3) (p.itd g1.wr ra c4)
   ·exact h1.elim
  ·exact h1.elim
 ·exact h1.elim
def lm (g:GE)(s:GG)(body:GS):GS:=gK (lB g) s body
def zB {kt:Nat}{tp pos:Pos}{g:GE}{sg:GG}{gB:GS}{body:List Stmt}{apos cpos:Pos}(hp:PassesOwn (model X.prog X.w) X.A X.env X.xe)(he:QE X e g)(hg:QG X (.Tuple es kt tp) sg)(hb:QB X body gB)(hc:X.calm=true:=by rfl)
  (hbase:attributeBase e "items" X.env (eval e X.env)=eval e X.env:=by rfl) (hline:(apos.endLine==cpos.line)=true:=by rfl) (hs:∀x,foldedSetIterable (.Call (.Attribute e "items" apos) [] [] cpos) X.env x=pure x:=by intro _;rfl) :
  QS X (.For (.Tuple es kt tp) (.Call (.Attribute e "items" apos) [] [] cpos) body [] pos) (lm g sg gB):=⟨uo hp hc (wG he.h hbase hline) hg.h hb.h hs⟩
def fP:F2:=λx y M=>match x with
 | .mr i=>match M[i]? with
  | some (.dK kvs)=>match fj y with
   | some k=>match fg kvs k with
    | some r=>.ok r M
    | none=>.bad
   | none=>.bad
  | _=>.bad
 | _=>.bad
def xx {pos:Pos}{o i:Expr}{go gi:GE}(hu:X.A.units+1<cLine)(ho:PE X o (tE X go))(hi:PE X i (tE X gi))(hs:AB i):PE X (.Subscript o i pos) (tE X (g2 fP go gi)):=(zx hu ho hi hs).of λσ H Q hxx=>by
 refine q3x3 hxx λρ θ M hd hw h=>?_;refine bo hd hw (aC X θ H Q) (λc M' h=>h) (λh=>h) h λd1 M1 v1 θ1 H1 g1 r1 h1=>?_
 have h1:=aC.go g1 h1;refine bo (hd.go g1) g1.wr (aC X θ1 H1 Q) (λc M' h=>h) (λh=>h) h1 λd2 M2 v2 θ2 H2 g2 r2 h2=>?_
 have h2:=aC.go g2 h2;have r1:=r1.go g2;unfold fP at h2;cases d1 with
 | mr i=>
  refine q1x2 r1 λa ea ta=>?_;dsimp only at h2;cases q:M2[i]? with
  | none=>rw[q] at h2;exact h2.elim
  | some mo=>
   rw[q] at h2;cases mo with
   | dK kvs=>
    dsimp only at h2;refine q1x2 (g2.wr.at_ i a _ ta q) λvs hv ra=>?_;cases qk:fj d2 with
    | none=>rw[qk] at h2;exact h2.elim
    | some k=>
     rw[qk] at h2;dsimp only at h2;have ek:=xi qk r2;cases qg:fg kvs k with
     | none=>rw[qg] at h2;exact h2.elim
     | some r=>
      rw[qg] at h2;refine q1x2 ((jr k ra).1 r qg) λv ev rv=>?_;refine⟨a,v,ea,?_,h2 v θ2 H2 (.refl g2.wr) rv⟩;rw[ek,<-ev];exact rV.k hv
   | _=>exact h2.elim
 | _=>exact h2.elim
def wv {pos:Pos}{o i:Expr}{go gi:GE}{k:Nat}(hr:bJ k X.A)(ho:QE X o go)(hi:QE X i gi)(hs:AB i:=by intro _ _;rfl):QE X (.Subscript o i pos) (g2 fP go gi):=⟨xx (BA hr) ho.h hi.h hs⟩
end DL
namespace DL
open PySem PySem.Spec PyProof.Rows PySem.W L2 List
section
variable {X:Cx}{a b c d:Expr}{pos:Pos}{ga gb gc gd:GE}
def su (f f' f'':F2)(ga gb gc gd:GE):GE:=λρ M=>(ga ρ M).bind λx M1=>(gb ρ M1).bind λy M2=>(f x y M2).bind λz M3=>match z with
 | .bl true=>(gc ρ M3).bind λw M4=>(f' y w M4).bind λz2 M5=>match z2 with
  | .bl true=>(gd ρ M5).bind λv M6=>f'' w v M6
  | .bl false=>.ok (.bl false) M5
  | _=>.bad
 | .bl false=>.ok (.bl false) M3
 | _=>.bad
def ul (r r' r'':R2)(ta tb tc td:TE):TE:=λσ H Q=>ta σ H λx H1=>tb σ H1 λy H2=>r x y H2 λz H3=>∃k,z=.bl k/\
 (if k=true then tc σ H3 λw' H4=>r' y w' H4 λz2 H5=>∃k2,z2=.bl k2/\(if k2=true then td σ H5 λv H6=>r'' w' v H6 Q else Q (.bl false) H5) else Q (.bl false) H3)
def vF {op op' op'':CmpOp}{r r' r'':R2}{ta tb tc td:TE}(ho:fN X (compareOp op) r)(ho':fN X (compareOp op') r')(ho'':fN X (compareOp op'') r'')(ha:PE X a ta)(hb:PE X b tb)(hc:PE X c tc)(hd:PE X d td)
  (hm:lastMarks [op,op',op''] [b,c,d]=false):PT X (.Compare a [op,op',op''] [b,c,d] pos) (Bz (ul r r' r'' ta tb tc td)):=by
 intro aa s σ H Q I h;refine isTrue_chain (bM (ha aa s σ H _ I h) λv s1 ⟨x,H1,I1,r1,q1⟩=>test_link (bM (hb aa s1 σ H1 _ I1 q1) λu s2 ⟨y,H2,I2,r2,q2⟩=>
  bM (ho aa s2 σ H2 x y v u _ I2 r1 r2 q2) λd s3 hxx=>?_)) hm
 obtain⟨z,H3,I3,r3,k,e,q3⟩:=hxx;subst e;cases r3;refine wpAny_truthy_bool ?_;cases k with
 | false=>
  refine q1x2 q3 λk' e' q'=>?_;cases e';exact ite_ff ⟨H3,I3,q'⟩
 | true=>
  refine ite_tt (test_link (bM (hc aa s3 σ H3 _ I3 q3) λw' s4 ⟨z',H4,I4,r4,q4⟩=>bM (ho' aa s4 σ H4 y z' u w' _ I4 r2 r4 q4) λd' s5 hxx=>?_));obtain⟨z2,H5,I5,r5,k2,e2,q5⟩:=hxx;subst e2;cases r5;refine wpAny_truthy_bool ?_;cases k2 with
  | false=>
   refine q1x2 q5 λk' e' q'=>?_;cases e';exact ite_ff ⟨H5,I5,q'⟩
  | true=>
   refine ite_tt (test_last (bM (hd aa s5 σ H5 _ I5 q5) λv' s6 ⟨z6,H6,I6,r6,q6⟩=>bM (ho'' aa s6 σ H6 z' z6 w' v' _ I6 r4 r6 q6) λd' s7 hxx=>?_));obtain⟨z3,H7,I7,r7,k3,e3,q7⟩:=hxx;subst e3;cases r7;exact wpAny_truthy_bool ⟨H7,I7,q7⟩
def BW {f f' f'':F2}{σ:L2.St}{H:Hp}{Q:VK}(h:tE X (su f f' f'' ga gb gc gd) σ H Q):ul (rD X f) (rD X f') (rD X f'') (tE X ga) (tE X gb) (tE X gc) (tE X gd) σ H Q:=by
 refine q3x3 h λρ θ M hd hw h=>?_;refine bo hd hw (aC X θ H Q) (λc M' h=>h) (λh=>h) h λdx M1 x θ1 H1 g1 r1 h1=>?_
 refine bo (hd.go g1) g1.wr (aC X θ1 H1 Q) (λc M' h=>h) (λh=>h) (h1.go g1) λdy M2 y θ2 H2 g2 r2 h2=>?_
 refine⟨θ2,M2,dx,dy,g2.wr,r1.go g2,r2,?_⟩;have h3:=h2.go g2;cases q:f dx dy M2 with
 | ok z M3=>
  rw[q] at h3;intro v θ3 H3 g3 r3;cases z with
  | bl k=>
   refine⟨k,r3,?_⟩;cases k with
   | true=>
    rw[if_pos rfl];have d3:=(hd.go g1).go (g2.trans g3);refine bo d3 g3.wr (aC X θ3 H3 Q) (λc M' h=>h) (λh=>h) (h3.go g3) λdw M4 w θ4 H4 g4 r4 h4=>?_
    refine⟨θ4,M4,dy,dw,g4.wr,r2.go (g3.trans g4),r4,?_⟩;have h5:=h4.go g4;cases q5:f' dy dw M4 with
    | ok z5 M5=>
     rw[q5] at h5;intro v5 θ5 H5 g5 r5;cases z5 with
     | bl k5=>
      refine⟨k5,r5,?_⟩;cases k5 with
      | true=>
       rw[if_pos rfl];refine bo (d3.go (g4.trans g5)) g5.wr (aC X θ5 H5 Q) (λc M' h=>h) (λh=>h) (h5.go g5) λdv M6 v6 θ6 H6 g6 r6 h6=>?_
       exact⟨θ6,M6,dw,dv,g6.wr,r4.go (g5.trans g6),r6,h6.go g6⟩
      | false=>
       rw[if_neg Bool.false_ne_true];exact h5 _ θ5 H5 g5 rfl
     | _=>exact h5.elim
    | err c M5=>rw[q5] at h5;exact h5
    | bad=>rw[q5] at h5;exact h5
   | false=>
    rw[if_neg Bool.false_ne_true];exact h3 _ θ3 H3 g3 rfl
  | _=>exact h3.elim
 | err c M3=>rw[q] at h3;exact h3
 | bad=>rw[q] at h3;exact h3
def vT {op op' op'':CmpOp}{f f' f'':F2}(ho:Q2 X (compareOp op) f)(ho':Q2 X (compareOp op') f')(ho'':Q2 X (compareOp op'') f'')(ha:QE X a ga)(hb:QE X b gb)(hc:QE X c gc)(hd:QE X d gd)
  (hm:lastMarks [op,op',op''] [b,c,d]=false:=by with_unfolding_all rfl):QT X (.Compare a [op,op',op''] [b,c,d] pos) (aB (su f f' f'' ga gb gc gd)):=⟨(vF ho.h ho'.h ho''.h ha.h hb.h hc.h hd.h hm).of λσ H Q h=>BW (yG h)⟩
end
variable{key:Nat->Int}{zs:List Int}{scope:Scope}
section
variable {prog:Program}{w:World}{A:Around}{E:Value->Shared->Prop}{s:Shared}{vs ks:List Value}{f:Value}{h0:Heap}{a kS:Addr}
def u7 {n:Nat}{P:PySem.Fin->Shared->Prop}(ho:s.heap.get? a=Z (seqObj "list" vs.toArray n))(ha:h0.get? a=Y)(hh:∀b o,h0.get? b=Z o->s.heap.get? b=Z o){κ:SortKind}(hκ:∀s',Kp h0 s s'->2<=ks.length->∀Q:SortKind->Shared->Prop,Q κ s'->wpAny (model prog w) A (keyKind' ks.toArray) Q E s')(hask:∀s',Kp h0 s s'->gZ key vs.length s' (kas_ask prog w A κ ks))(hl:ks.length=vs.length)(h64:vs.length<64)(hkey:BQ prog w A h0 s f vs ks)(hz:h0.objs.size<=s.heap.objs.size)
  (h:∀s' c,Kp h0 s s'->s'.heap.get? a=Z (seqObj "list" (List.toArray ((gT key vs.length).map λi=>vs.getD i Value.none)) c)->P (.done (.ret .none)) s'):wpAny (model prog w) A (ksk_tree a f false) P E s:=by
 have hal:a<s.heap.objs.size:=Heap.lt_size ho;have s1:=Heap.SameBut.update s.heap a (Obj.mapSeq λ_=>(#[]:Array Value));obtain⟨e1,ho1⟩:∃e1,(s.heap.update a (Obj.mapSeq λ_=>(#[]:Array Value))).get? a=Z (seqObj "list" #[] e1):=⟨_,get?_update_seq ho λ_=>#[]⟩;unfold ksk_tree;refine wpAny_bind (listItems_at ho rfl ?_);refine wpAny_bind (listUpdate_at ho rfl ?_ (by rw[size_toArray,sizeLine_eq];omega) (Nat.zero_le _));refine wpAny_bind (seqEpoch_at ho1 rfl ?_);refine wpAny_bind (wpAny_newTuple ?_ (by show vs.length<=_;rw[sizeLine_eq];omega));refine wpAny_bind (wpAny_newList ?_ (Nat.zero_le _));refine wpAny_holding ?_;have hkz:((s.heap.update a (Obj.mapSeq λ_=>(#[]:Array Value))).push (seqObj "tuple" vs.toArray 0)).objs.size=s.heap.objs.size+1:=by rw[size_push',Heap.size_update]
 have hoa:(((s.heap.update a (Obj.mapSeq λ_=>(#[]:Array Value))).push (seqObj "tuple" vs.toArray 0)).push (seqObj "list" #[] 0)).get? a=Z (seqObj "list" #[] e1):=Heap.get?_push_of_some _ (Heap.get?_push_of_some _ ho1);have hok:(((s.heap.update a (Obj.mapSeq λ_=>(#[]:Array Value))).push (seqObj "tuple" vs.toArray 0)).push (seqObj "list" #[] 0)).get? (s.heap.objs.size+1)=Z (seqObj "list" #[] 0):=by rw[<-hkz];exact Heap.get?_push_size _ rfl
 have kp1:Kp h0 s {s with heap:=((s.heap.update a (Obj.mapSeq λ_=>(#[]:Array Value))).push (seqObj "tuple" vs.toArray 0)).push (seqObj "list" #[] 0)}:=⟨⟨_,s.toks,rfl⟩,λb o e=>Heap.get?_push_of_some _ (Heap.get?_push_of_some _ (by rw[Heap.get?_update_ne _ _ _ _ (λz=>by rw[z,ha] at e;cases e)];exact hh b o e))⟩;show wpAny (model prog w) A (ksk_rest a f false vs.toArray e1 (.ref ((s.heap.update a (Obj.mapSeq λ_=>(#[]:Array Value))).push (seqObj "tuple" vs.toArray 0)).objs.size)) P E {s with heap:=((s.heap.update a (Obj.mapSeq λ_=>(#[]:Array Value))).push (seqObj "tuple" vs.toArray 0)).push (seqObj "list" #[] 0)};rw[hkz];generalize hH:((s.heap.update a (Obj.mapSeq λ_=>(#[]:Array Value))).push (seqObj "tuple" vs.toArray 0)).push (seqObj "list" #[] 0)=H1 at hoa hok kp1;have nak:a≠s.heap.objs.size+1:=Nat.ne_of_lt (Nat.lt_succ_of_lt hal);have h0k:h0.get? (s.heap.objs.size+1)=Y:=Heap.get?_none_of_le (Nat.le_succ_of_le hz);generalize s.heap.objs.size+1=kS at hok nak h0k;unfold ksk_rest;refine wpAny_bind (wpAny_rule ?_)
 first
  | rw[forIn_toArray]
  | (rw[<-Array.forIn_toList];simp only[toList_toArray])
  | rw[<-Array.forIn_toList]
 refine wpAny_bind (wpAny_mono (qN (kS:=kS) (E:=E) h64 hl hkey h0k (λx k j e s' hj hk hkj kp hx=>?_) vs 0 0 {s with heap:=H1} rfl hok kp1) (λ_ s' hd=>?_) λ_ _ x=>x)
 ·refine wpAny_bind (wpAny_attempt (wpAny_mono hx (λr s'' hr=>?_) λ_ _ hF=>hF.elim));obtain⟨rfl,⟨h2,tk,rfl⟩,k2⟩:=hr;have nk:h2.get? kS=Z (seqObj "list" (List.toArray (ks.take j)) e):=k2 _ _ hk;have ea:(List.toArray (ks.take j)).push r=List.toArray (ks.take (j+1)):=by rw[take_add_one,hkj];simp
  have lt:(ks.take j).length<64:=by rw[length_take];omega
  try dsimp only
  refine wpAny_bind (listUpdate_at nk rfl ?_ (by rw[size_toArray,sizeLine_eq];omega) (Nat.le_trans (Nat.le_of_eq (Array.size_push ..)) (by rw[size_toArray,sizeLine_eq];omega)));have kb:∀b o,b≠kS->h2.get? b=Z o->(h2.update kS (Obj.mapSeq (·.push r))).get? b=Z o:=λb o hb e=>(Heap.get?_update_other h2 _ (Ne.symm hb)).trans e
  refine wpAny_pure ⟨rfl,?_,⟨_,by rw[<-ea];exact get?_update_seq nk (·.push r)⟩,λb o hb e=>kb b o hb (k2 b o e)⟩;obtain⟨⟨h1,tk1,rfl⟩,kk⟩:=kp;exact⟨⟨_,tk,rfl⟩,λb o e=>kb b o (λz=>by rw[z,h0k] at e;cases e) (k2 b o (kk b o e))⟩
 ·obtain⟨kp2,⟨c,hk⟩,k2⟩:=hd;have hoa2:=k2 a _ nak hoa
  try dsimp only
  refine wpAny_bind (listItems_at hk rfl ?_);have tail:∀(st:SortSt),(arrOf st).map (·.2)=List.toArray ((gT key vs.length).map λi=>vs.getD i Value.none)->failedOf st=Y->wpAny (model prog w) A (ksk_tail a false e1 (.ref kS) st) P E s':=λst hout hf=>by
   obtain⟨ck,hck⟩:∃ck,(s'.heap.update kS (Obj.mapSeq λ_=>(#[]:Array Value))).get? kS=Z (seqObj "list" #[] ck):=⟨_,get?_update_seq hk λ_=>#[]⟩;have hoa3:(s'.heap.update kS (Obj.mapSeq λ_=>(#[]:Array Value))).get? a=Z (seqObj "list" #[] e1):=(Heap.get?_update_other s'.heap _ (Ne.symm nak)).trans hoa2;have lo:((gT key vs.length).map λi=>vs.getD i Value.none).length=vs.length:=by
    rw[length_map];unfold gT;split
    ·exact length_range
    ·have:=(kJ (key:=key) (n:=vs.length) (by omega)).1.size_eq;rw[Array.length_toList,this];simp
   unfold ksk_tail
   try dsimp only
   rw[hout];refine wpAny_bind (listUpdate_at hk rfl ?_ (by rw[size_toArray,sizeLine_eq];omega) (Nat.zero_le _));refine wpAny_bind (wpAny_letGo ?_);refine wpAny_bind (seqEpoch_at hoa3 rfl ?_);simp only[Bool.false_eq_true,if_false];refine wpAny_bind (listUpdate_at hoa3 rfl ?_ (Nat.zero_le _) (by rw[size_toArray,lo,sizeLine_eq];omega));rw[hf];simp only[bne_self_eq_false,Bool.false_eq_true,if_false];refine wpAny_pure (h _ _ (kp2.heap λb o e=>?_) (get?_update_seq hoa3 λ_=>List.toArray ((gT key vs.length).map λi=>vs.getD i Value.none)));rw[Heap.get?_update_other _ _ (λz=>by rw[<-z,ha] at e;cases e),Heap.get?_update_other _ _ (λz=>by rw[<-z,h0k] at e;cases e)];exact kp2.2 b o e
  unfold ksk_end
  try dsimp only
  simp only[Bool.false_eq_true,if_false]
  by_cases h2:vs.length<2
  ·have h2':vs.toArray.size<2:=by rw[size_toArray];exact h2
   rw[if_pos h2',if_pos h2'];refine wpAny_bind (wpAny_pure ?_);rw[StateT.run_pure];refine wpAny_bind (wpAny_pure ?_);refine tail _ ?_ rfl;show(((List.toArray ks).zip vs.toArray).map λp=>p.2)=_;unfold gT;rw[if_pos h2]
   match vs,ks,hl,h2 with
   | [],[],_,_=>simp
   | [x],[y],_,_=>simp[range_succ]
   | _::_::_,_,_,h2=>exact absurd h2 (by simp)
  ·have h2':¬vs.toArray.size<2:=by rw[size_toArray];exact h2
   rw[if_neg h2',if_neg h2'];refine wpAny_bind (wpAny_mono (hκ s' kp2 (by omega) (λκ' s2=>κ'=κ/\s2=s') ⟨rfl,rfl⟩) (λκ' s2 hq=>?_) λ_ _ x=>x)
   ·refine q0x2 hq λzz0 zz1=>?_;subst zz0;subst zz1;have asks:=hask s2 kp2;refine wpAny_bind (wpAny_mono (kat_run (Q:=λst' s3=>((arrOf st').map (·.2)=List.toArray ((gT key vs.length).map λi=>vs.getD i Value.none))/\failedOf st'=Y/\s3=s2) hl (by omega) h64 (λp st' s3 a1 a2 a3 a4=>?_) (zG (by omega) asks)) ?_ λ_ _ x=>x)
    ·refine q0x2 a4 λzz0 zz1=>?_;subst zz0;subst zz1;refine⟨?_,a3,rfl⟩;rw[kat_snds hl a2];unfold gT;rw[if_neg h2]
    ·rintro ⟨⟨⟩,st'⟩ s3 ⟨b1,b2,rfl⟩;exact tail st' b1 b2
def xO (t:IntsAre ks zs)(hl:ks.length=vs.length):gZ (λi=>zs.getD i 0) vs.length s (kas_ask prog w A oneType' ks):=λi j C hi hj h=>by
 have lz:=i6 t;refine q1x1 ((show∃t,ks.getD i Value.none=.int (zs.getD i 0) t from iC t i (by omega))) λt1 e1=>?_;refine q1x1 ((show∃t,ks.getD j Value.none=.int (zs.getD j 0) t from iC t j (by omega))) λt2 e2=>?_;unfold kas_ask;rw[e1,e2,keyLt'_oneType];exact oneLt_int h
def qQ {l q:Addr}{Q:Value->Shared->Prop}(hL:s.heap.IsList l vs.toArray)(h64:vs.length<64)(t:IntsAre ks zs)(hl:ks.length=vs.length)
  (hkey:∀(i:Nat) (u k:Value) (s':Shared),vs[i]?=Z u->ks[i]?=Z k->Kp s.heap s s'->wpAny (model prog w) A.in1.in1 (call (.ref q) [u]) (λr s''=>r=k/\(∃h tk,s''={s' with heap:=h,toks:=tk})/\∀b o,s'.heap.get? b=Z o->s''.heap.get? b=Z o) (λ_ _=>False) s')
  (h:∀(s':Shared) (D:Addr) (c:Nat),Kp s.heap s s'->s.heap.objs.size<=D->s'.heap.get? D=Z (seqObj "list" (List.toArray ((gT (λi=>zs.getD i 0) vs.length).map λi=>vs.getD i Value.none)) c)->Q (.ref D) s') :
  wpAny (model prog w) A (call (.builtin "sorted") [.ref l] [(Str.ofString "key",.ref q)]) Q E s:=by
 refine call_function_entry_kw kind_sorted plain_sorted entry_sorted (ksk_s1 _ _) ?_;unfold Builtin.«sorted»;refine wpAny_bind (m:=checkCount "sorted" 1 1 _) (wpAny_pure ?_);refine wpAny_bind (collect_list hL ?_ (by rw[sizeLine_eq];omega));have hge:s.heap.objs.size<=((s.heap.push (seqObj "list" #[] 0)).update s.heap.objs.size (Obj.mapSeq (·++vs.toArray))).objs.size:=by rw[Heap.size_update,size_push'];exact Nat.le_succ _
 have k1:∀b o,s.heap.get? b=Z o->((s.heap.push (seqObj "list" #[] 0)).update s.heap.objs.size (Obj.mapSeq (·++vs.toArray))).get? b=Z o:=λb o e=>by
  have hb:b≠s.heap.objs.size:=Nat.ne_of_lt (Heap.lt_size e);rw[Heap.get?_update_ne _ _ _ _ hb];exact Heap.get?_push_of_some _ e
 generalize (s.heap.push (seqObj "list" #[] 0)).update s.heap.objs.size (Obj.mapSeq (·++vs.toArray))=h1 at hge k1 ⊢;refine wpAny_bind (wpAny_newList ?_ (by rw[sizeLine_eq];omega));have hoL:(h1.push (seqObj "list" vs.toArray 0)).get? h1.objs.size=Z (seqObj "list" vs.toArray 0):=Heap.get?_push_size _ rfl;have hDn:s.heap.get? h1.objs.size=Y:=Heap.get?_none_of_le hge;refine wpAny_bind (wpAny_holding (wpAny_call_entry_kw slot_list_sort ⟨_,hoL,rfl⟩ entry_list_sort ?body (ksk_l1 _ _)))
 case body=>
  show wpAny (model prog w) A.in1.in1 (Builtin.«list.sort» ⟨[.ref h1.objs.size],[(Str.ofString "key",.ref q)]⟩) _ _ _;rw[ksk_t1];have up:∀{s':Shared},Kp s.heap {s with heap:=h1.push (seqObj "list" vs.toArray 0)} s'->Kp s.heap s s':=λkp=>by
   obtain⟨⟨h2,tk2,rfl⟩,kk⟩:=kp;exact⟨⟨h2,tk2,rfl⟩,kk⟩
  refine u7 (h0:=s.heap) (s:={s with heap:=h1.push (seqObj "list" vs.toArray 0)}) (vs:=vs) (ks:=ks) (κ:=oneType') (key:=λi=>zs.getD i 0) hoL hDn (λb o e=>Heap.get?_push_of_some _ (k1 b o e)) (λs' kp h2 Q q=>?_) (λs' kp=>xO t hl) hl h64 (λi v k e1 e2 s' kp=>hkey i v k s' e1 e2 (up kp)) (by rw[Heap.size_push];exact Nat.le_succ_of_le hge) λs' c kp e=>⟨_,rfl,wpAny_pure ⟨_,rfl,h s' h1.objs.size c (up kp) hge e⟩⟩
  refine kas_kind (T:=.type "int") h2 (λv hv=>?_) rfl rfl q;obtain⟨i,hi,e⟩:=getElem_of_mem hv;refine q1x1 ((show∃tk,ks.getD i Value.none=.int (zs.getD i 0) tk from iC t i (by rw[<-i6 t];exact hi))) λtk e1=>?_;rw[getD_eq_getElem?_getD,getElem?_eq_getElem hi,e] at e1;have e1:v=.int (zs.getD i 0) tk:=e1;rw[e1];exact .now
structure xy (px:Str)(scope:Scope):Prop where
 kind:scope.kind=.function
 co:scope.isCoroutine=false
 gen:scope.isGenerator=false
 nocell:∀x∈scope.names,x.2≠.cell
 loc:scope.names.lookup px=Z .local
 d1:(px==("__debug__":Str))=false
def vf {q c b:Addr}{its:List Value}{px qual:Str}{params:Arguments}{pm ctv k:Value}{p1 p2 p3:Pos}{i kd:Nat}(S:xy px scope)
  (hq:s.heap.get? q=Z {cls:=.type "function",data:=.func (nZ qual params (.Subscript (.Name px p1) (.Constant (.int (i:Int)) kd p2) p3) scope pm (.ref c) ctv)}) (hcd:s.heap.CodeRec (.ref c) qual) (hlim:s.heap.NoLimit) (hd:A.depth<recursionLimit)
  (hb:∀u:Value,BindsTo s (nZ qual params (.Subscript (.Name px p1) (.Constant (.int (i:Int)) kd p2) p3) scope pm (.ref c) ctv) ⟨[u],[]⟩ [(px,u)]) (hl:IsTup s.heap b its.toArray) (hi:its[i]?=Z k) (hi64:i<1000) :
  wpAny (model prog w) A (call (.ref q) [.ref b]) (λr s''=>r=k/\(∃h tk,s''={s with heap:=h,toks:=tk})/\∀b o,s.heap.get? b=Z o->s''.heap.get? b=Z o) (λ_ _=>False) s:=by
 refine wpAny_call (W.kla_callFunE hd hq rfl S.co S.gen rfl hcd (hb _ _ _ _ _ ?_));refine wpAny_newFunctionEnv S.nocell (λx hx=>by rw[mem_singleton] at hx;rw[hx];exact S.loc) (λh' hns hsb=>?_) S.kind;have keep:∀b o,s.heap.get? b=Z o->h'.get? b=Z o:=λb o e=>hsb.extBut b o (Nat.ne_of_lt (Heap.lt_size e)) (Heap.get?_push_of_some _ e)
 refine⟨hlim.keeps keep,W.kla_codeExpr ?_⟩;refine Subscript_Constant ?_ (by intro _ _;rfl);refine wpAny_Name (wpAny_loadName_local (v:=.ref b) S.kind S.loc hns ?_ ?_) S.d1
 ·show([(px,Value.ref b)]:List (Str×Value)).reverse.lookup px=Z (.ref b);simp
 refine wpAny_Constant_int ?_;have hl':IsTup h' b its.toArray:=by
  refine q1x2 hl λo e r=>?_;exact⟨o,keep _ _ e,r⟩
 have hlt:=(List.getElem?_eq_some_iff.mp hi).1;refine⟨"tuple",_,slot_tuple_getitem.lookup,hl'.typeIs,PyProof.Rows.getItem_tuple hl' (by omega) (by omega) (j:=i) ?_ (x:=k) (by simpa using hi) ⟨rfl,⟨h',_,rfl⟩,keep⟩⟩;unfold seqIndex?;simp;omega
end
def rg (i:Nat):D->Option Int
 | .tup ds=>match ds[i]? with
  | some (.int k)=>Z k
  | _=>Y
 | _=>Y
def im (i:Nat):List D->Option (List Int)
 | []=>Z []
 | d::r=>match rg i d with
  | some k=>(im i r).map (k::·)
  | none=>Y
def lU (i:Nat)(d:D)(M:aw):aN D:=match d with
 | .lst xs=>match im i xs with
  | some zs=>if xs.length<64 then .ok (.lst ((gT (λj=>zs.getD j 0) xs.length).map λj=>xs.getD j .non)) M else .bad
  | none=>.bad
 | _=>.bad
def jA (i:Nat)(g:GE):GE:=λρ M=>(g ρ M).bind (lU i)
section
variable {X:Cx}{aa:List (Addr×Obj)}{σ:L2.St}{H:Hp}{s:Shared}{θ:List Addr}
def Cw (I:L2.Inv X aa σ H s){i:Nat}{d:D}{k:Int}{v:V}{u:Value}(e:rg i d=Z k)(r:isD X.K θ H d v)(ru:aI v u):∃b its ku t,u=.ref b/\IsTup s.heap b (List.toArray its)/\its[i]?=Z ku/\ku=Value.int k t:=by
 cases d with
 | tup ds=>
  unfold rg at e;dsimp only at e;cases q:ds[i]? with
  | none=>rw[q] at e;cases e
  | some x=>
   rw[q] at e;cases x with
   | int k'=>
    cases e;refine q2x3 r λb vs zz2 t rs=>?_;subst zz2;have ru:u=.ref b:=ru;refine q1x3 (I.tuple t.sq) λits rv p _=>?_;refine q1x2 (cQ rs q) λv ev rd=>?_;refine q1x2 (rv.get ev) λku eu rk=>?_;have rd:v=.int k:=rd;subst rd;refine q1x1 ((show∃t',ku=Value.int k t' from rk)) λt' e'=>?_;exact⟨b,its,ku,t',ru,p,eu,e'⟩
   | _=>cases e
 | _=>cases e
theorem pW (I:L2.Inv X aa σ H s){i:Nat}:∀{xs:List D} {zs:List Int} {vs:List V} {us:List Value},im i xs=Z zs->isDs X.K θ H xs vs->aJ vs us->
  ∃ks,IntsAre ks zs/\ks.length=us.length/\us.length=xs.length/\∀(j:Nat) (u k:Value),us[j]?=Z u->ks[j]?=Z k->∃b its,u=.ref b/\IsTup s.heap b (List.toArray its)/\its[i]?=Z k
 | [],zs,vs,us,e,r,rv=>by
  cases e;have e:vs=[]:=r;subst e;cases rv;exact⟨[],.nil,rfl,rfl,λj u k e=>by cases e⟩
 | d::xs,zs,vs,us,e,r,rv=>by
  unfold im at e;cases q:rg i d with
  | none=>rw[q] at e;cases e
  | some k0=>
   rw[q] at e;dsimp only at e;cases q2:im i xs with
   | none=>rw[q2] at e;cases e
   | some zs2=>
    rw[q2] at e;cases e;refine q2x3 r λv r2 zz2 h1 h2=>?_;subst zz2;cases rv with
    | cons ru t=>
     refine q4x4 (Cw I q h1 ru) λb its ku tk e1 e2 e3 e4=>?_;obtain⟨ks,a1,a2,a3,a4⟩:=pW I q2 h2 t;refine⟨ku::ks,by rw[e4];exact .cons k0 tk a1,by rw[length_cons,length_cons,a2],by rw[length_cons,length_cons,a3],λj u k z1 z2=>?_⟩;cases j with
     | zero=>cases z1;cases z2;exact⟨b,its,e1,e2,e3⟩
     | succ j=>exact a4 j u k z1 z2
def jb {n i:Nat}(h:i∈gT key n):i<n:=by
 unfold gT at h;split at h
 ·exact mem_range.mp h
 ·have p:=(kJ (key:=key) (n:=n) (by omega)).1;have:=p.toList.mem_iff.mp h;exact mem_range.mp (by simpa using this)
def oq {n:Nat}:(gT key n).Perm (List.range n):=by
 unfold gT;split
 ·exact .refl _
 ·have p:=(kJ (key:=key) (n:=n) (by omega)).1.toList;simpa using p
end
variable{params:Arguments}
def yJ {X:Cx}{x px:Str}{c P:Addr}{e:Expr}{g:GE}{p pos lpos kpos p1 p2 p3:Pos}{k i kd:Nat}
  (T:qS X.K x c P) (hr:bJ (k+2) X.A) (hg:Gl X "sorted") (hm:X.mg "sorted"=Y) (hv:bootBuiltins "sorted"=Z (.builtin "sorted")) (he:PE X e (tE X g)) (hcode:X.env.code=.ref c) (hglob:X.env.globals=mainGlobals) (hq:X.env.qual++("<lambda>":Str)=cB x)
  (hcl:closureFor scope X.env=pure []) (hd:defaultsOf params X.env=([],[])) (S:xy px scope) (hi:i<1000)
  (hb:∀(pm cv ctv:Value) (s:Shared) (u:Value),BindsTo s (nZ (cB x) params (.Subscript (.Name px p1) (.Constant (.int (i:Int)) kd p2) p3) scope pm cv ctv) ⟨[u],[]⟩ [(px,u)]) (h1:bi e=true) :
  PE X (.Call (.Name "sorted" p) [e] [⟨Z "key",.Lambda params (.Subscript (.Name px p1) (.Constant (.int (i:Int)) kd p2) p3) scope lpos,kpos⟩] pos) (tE X (jA i g)):=by
 intro aa s σ H Q I h;refine q3x3 h λρ θ M hden hw h=>?_;have hs:starEach [e] X.env=[(false,eval e X.env)]:=by rw[sE h1];rfl
 refine wpAny_Call_Name_kw (mJ I hg hm hv ?_);refine callWith_kw (e:=e) (rest:=[]) (bM ((fB he iS hs) pos aa s σ H _ I (show xw (tE X g) CW σ H (λxs H1=>∃v d θ1 M1,xs=[v]/\Go X.K θ H θ1 H1 M1/\isD X.K θ1 H1 d v/\aC X θ H Q (lU i d M1)) from
  bo hden hw (aC X θ H Q) (λc M' h=>h) (λh=>h) h λd M1 v θ1 H1 g1 r1 h1=>⟨v,d,θ1,M1,rfl,g1,r1,h1⟩)) λus s1 hxx=>?_) (by rw[hs];rfl) (by rw[hs];rfl)
 obtain⟨xs,H1,I1,rx,v,d,θ1,M1,ex,g1,r1,h1⟩:=hxx;subst ex;refine q1x2 (iI rx) λu zz1 ru=>?_;subst zz1;refine kws_cons (bM (yT I1 g1.wr T hcode hglob hq hcl hd) λuq s2 ⟨H2,I2,Md⟩=>kws_nil ?_);obtain⟨⟨q,c',pm,ctv,rfl,nq,hfq,hfc⟩,g2⟩:=Md;have h2:=aC.go (g1.trans g2) h1;show wpAny _ X.A (call (.builtin "sorted") [u] [(Str.ofString "key",.ref q)]) _ _ s2;cases d with
 | lst xs=>
  unfold lU at h2;dsimp only at h2;refine q2x3 (r1.go g2) λa vs ea ta rs=>?_;subst ea;have ru:u=.ref a:=ru;subst ru;cases qk:im i xs with
  | none=>rw[qk] at h2;exact h2.elim
  | some zs=>
   rw[qk] at h2;dsimp only at h2
   by_cases h64:xs.length<64
   ·rw[if_pos h64] at h2;refine q1x3 (I2.list (show jt X.K H2 a vs from .inl (.inl ta.1))) λits rv pl _=>?_;obtain⟨ks,a1,a2,a3,a4⟩:=pW I2 qk rs rv;refine qQ pl.isList (by omega) a1 a2 (λj u k s' e1 e2 kp=>?_) λs' D cc kp hz eD=>?_
    ·have keep:=kp.2;refine q2x3 (a4 j u k e1 e2) λb its2 zz2 p2 e3=>?_;subst zz2;exact vf S (keep _ _ (Gw I2.hok hfq)) ((AX I2.hok hfc).keeps keep) (I2.nolimit.keeps keep) hr.in1.in1.depth (λu=>hb _ _ _ s' u) (by refine q1x2 p2 λo e r=>?_;exact⟨o,keep _ _ e,r⟩) e3 hi
    ·obtain⟨⟨h3,tk3,rfl⟩,keep⟩:=kp;rw[a3] at eD;have vl:vs.length=xs.length:=(ao rs).symm;refine fc (vs:=(gT (λj=>zs.getD j 0) xs.length).map λj=>vs.getD j V.non) I2 g2.wr keep hz eD (fK _ λj hj=>?_) (by rw[length_map,oq.length_eq,length_range,sizeLine_eq];omega) (jw _ λj hj=>?_) h2
     ·have hj:=jb hj;have e:vs[j]?=Z vs[j]:=getElem?_eq_getElem (by omega);refine q1x2 (rv.get e) λu eu ru=>?_;rw[getD_eq_getElem?_getD,getD_eq_getElem?_getD,e,eu];exact ru
     ·have hj:=jb hj;have e:xs[j]?=Z xs[j]:=getElem?_eq_getElem hj;refine q1x2 (cQ rs e) λv ev rd=>?_;rw[getD_eq_getElem?_getD,getD_eq_getElem?_getD,e,ev];exact rd
   ·rw[if_neg h64] at h2;exact h2.elim
 | _=>exact h2.elim
def xk {X:Cx}{x px:Str}{c P:Addr}{e:Expr}{g:GE}{p pos lpos kpos p1 p2 p3:Pos}{k i kd:Nat}
  (T:qS X.K x c P) (hr:bJ (k+2) X.A) (hg:Gl X "sorted") (hm:X.mg "sorted"=Y) (hv:bootBuiltins "sorted"=Z (.builtin "sorted")) (S:xy px scope) (he:QE X e g)
  (hb:∀(pm cv ctv:Value) (s:Shared) (u:Value),BindsTo s (nZ (cB x) params (.Subscript (.Name px p1) (.Constant (.int (i:Int)) kd p2) p3) scope pm cv ctv) ⟨[u],[]⟩ [(px,u)]:=by intros;exact .of_eq rfl)
  (hcode:X.env.code=.ref c:=by rfl) (hglob:X.env.globals=mainGlobals:=by rfl) (hq:X.env.qual++("<lambda>":Str)=cB x:=by rfl)
  (hcl:closureFor scope X.env=pure []:=by rfl) (hd:defaultsOf params X.env=([],[]):=by rfl) (hi:i<1000:=by decide) (h1:bi e=true:=by rfl) :
  QE X (.Call (.Name "sorted" p) [e] [⟨Z "key",.Lambda params (.Subscript (.Name px p1) (.Constant (.int (i:Int)) kd p2) p3) scope lpos,kpos⟩] pos) (jA i g):=⟨yJ T hr hg hm hv he.h hcode hglob hq hcl hd S hi hb h1⟩
end DL
namespace DL
open PySem PySem.Spec PyProof.Rows PySem.W L2 List
variable{xs:Array Nat}{t:SetTable}
section
structure lH (t:SetTable):Prop where
 dum:t.dummies=#[]
 up:t.plain=true->t.place.toList.Pairwise (·<·)
def rf (h:xs.toList.Pairwise (·<·)){i k x y:Nat}(hik:i<k)(hx:xs[i]?=Z x)(hy:xs[k]?=Z y):x<y:=by
 rw[<-Array.getElem?_toList] at hx hy;refine q1x1 (List.getElem?_eq_some_iff.mp hx) λh1 zz1=>?_;subst zz1;refine q1x1 (List.getElem?_eq_some_iff.mp hy) λh2 zz1=>?_;subst zz1;exact pairwise_iff_getElem.mp h i k h1 h2 hik
def pf (xs:Array Nat)(j k:Nat):Prop:=k<=xs.size/\(∀i x,i<k->xs[i]?=Z x->x<j)/\∀i x,k<=i->xs[i]?=Z x->j<=x
theorem mZ {xs:Array Nat}{j:Nat}(h:xs.toList.Pairwise (·<·)):∀(f lo hi:Nat),hi<=xs.size->lo<=hi->hi-lo<=f->(∀i x,i<lo->xs[i]?=Z x->x<j)->(∀i x,hi<=i->xs[i]?=Z x->j<=x)->pf xs j (SetTable.below.go xs j f lo hi)
 | 0,lo,hi,h1,h2,h3,h4,h5=>by
  have e:lo=hi:=by omega
  subst e;exact⟨h1,h4,h5⟩
 | f+1,lo,hi,h1,h2,h3,h4,h5=>by
  unfold SetTable.below.go
  by_cases hl:lo<hi
  ·rw[if_pos hl];have hm:(lo+hi) / 2<xs.size:=by omega
   have em:xs[(lo+hi) / 2]?=Z xs[(lo+hi) / 2]:=Array.getElem?_eq_getElem hm;have eg:xs.getD ((lo+hi) / 2) j=xs[(lo+hi) / 2]:=by simp[Array.getD,hm]
   dsimp only;rw[eg]
   by_cases hj:xs[(lo+hi) / 2]<j
   ·rw[if_pos hj];refine mZ h f _ _ h1 (by omega) (by omega) (λi x hii e=>?_) h5
    by_cases z:i=(lo+hi) / 2
    ·subst z;rw[em] at e;cases e;exact hj
    ·exact Nat.lt_trans (rf h (by omega) e em) hj
   ·rw[if_neg hj];refine mZ h f _ _ (by omega) (by omega) (by omega) h4 λi x hii e=>?_
    by_cases z:i=(lo+hi) / 2
    ·subst z;rw[em] at e;cases e;omega
    ·have:=rf h (by omega) em e;omega
  ·rw[if_neg hl];have e:lo=hi:=by omega
   subst e;exact⟨h1,h4,h5⟩
def rA {j:Nat}(h:xs.toList.Pairwise (·<·)):pf xs j (SetTable.below xs j):=
 mZ h _ _ _ (Nat.le_refl _) (Nat.zero_le _) (by omega) (λi x hi=>by omega) λi x hi e=>by
  rw[Array.getElem?_eq_none hi] at e;cases e
def sA {j k:Nat}(h:xs.toList.Pairwise (·<·))(hk:pf xs j k):SetTable.below xs j=k:=by
 refine q0x3 (rA (j:=j) h) λa1 a2 a3=>?_;refine q0x3 hk λb1 b2 b3=>?_;rcases Nat.lt_trichotomy (SetTable.below xs j) k with z|z|z
 ·have e:xs[SetTable.below xs j]?=Z xs[SetTable.below xs j]:=Array.getElem?_eq_getElem (by omega);have:=b2 _ _ z e;have:=a3 _ _ (Nat.le_refl _) e;omega
 ·exact z
 ·have e:xs[k]?=Z xs[k]:=Array.getElem?_eq_getElem (by omega);have:=a2 _ _ z e;have:=b3 _ _ (Nat.le_refl _) e;omega
def uK (j:Nat):SetTable.has #[] j=false:=by
 unfold SetTable.has;simp
def Ey {j:Nat}(h:t.place.toList.Pairwise (·<·))(hs:t.slot j=.empty):(t.put j).1.place.toList.Pairwise (·<·):=by
 have hne:t.place[SetTable.below t.place j]?≠Z j:=λz=>by
  unfold SetTable.slot at hs;dsimp only at hs;rw[z] at hs;simp at hs
 show(SetTable.insertAt t.place (SetTable.below t.place j) j).toList.Pairwise (·<·);rw[SetTable.toList_insertAt];refine q0x3 (rA (j:=j) h) λb1 b2 b3=>?_;generalize SetTable.below t.place j=k at *;have at_:∀{x:Nat},x∈t.place.toList.take k->x<j:=λ{x} hx=>by
  obtain⟨i,hi,e⟩:=getElem_of_mem hx;rw[length_take] at hi;refine b2 i x (by omega) ?_;rw[<-Array.getElem?_toList,<-e,getElem_take];exact getElem?_eq_getElem (by omega)
 have gt_:∀{x:Nat},x∈t.place.toList.drop k->j<x:=λ{x} hx=>by
  obtain⟨i,hi,e⟩:=getElem_of_mem hx;rw[length_drop] at hi;have e2:t.place[k+i]?=Z x:=by
   rw[<-Array.getElem?_toList,<-e,getElem_drop];exact getElem?_eq_getElem (by omega)
  have le:=b3 (k+i) x (by omega) e2;rcases Nat.lt_or_eq_of_le le with z|z
  ·exact z
  ·exfalso;subst z;cases i with
   | zero=>exact hne e2
   | succ i=>
    have hk:k<t.place.size:=by rw[Array.length_toList] at hi;omega
    have e3:t.place[k]?=Z t.place[k]:=Array.getElem?_eq_getElem hk;have:=rf h (by omega) e3 e2;have:=b3 k _ (Nat.le_refl _) e3;omega
 refine pairwise_append.mpr ⟨h.sublist (take_sublist _ _),pairwise_cons.mpr ⟨λx hx=>gt_ hx,h.sublist (drop_sublist _ _)⟩,λx hx y hy=>?_⟩;rcases mem_cons.mp hy with z|z
 ·subst z;exact at_ hx
 ·exact Nat.lt_trans (at_ hx) (gt_ z)
theorem mK {t:SetTable}(hd:t.dummies=#[]){ha:Nat->Int}{h:Int}:∀(f:Nat) (p:SetTable.Probe),p.dummy=Y->∀j d,SetTable.probe.go t ha h f p=Z (.empty j d)->d=Y/\t.slot j=.empty
 | 0,p,hp,j,d,e=>by cases e
 | f+1,p,hp,j,d,e=>by
  unfold SetTable.probe.go at e;cases q:t.slot p.j with
  | empty=>
   rw[q] at e;cases e;exact⟨hp,q⟩
  | dummy=>
   exfalso;unfold SetTable.slot at q;rw[hd,uK] at q;dsimp only at q;split at q <;> cases q
  | live i=>
   rw[q] at e;dsimp only at e;split at e
   ·cases e
   ·refine mK hd f _ ?_ j d e;unfold SetTable.advance;split <;> exact hp
def Dy (ok:lH t)(es:Array (Int×Value))(h:Int)(x:Value):lH (layNew t es h x).2.1/\(layNew t es h x).2.1.led=t.led:=by
 unfold layNew;cases q:t.freeSlot h with
 | none=>exact⟨⟨rfl,λz=>by cases z⟩,rfl⟩
 | some p=>
  obtain⟨slot,wd⟩:=p;dsimp only;have ep:lH (t.put slot).1/\(t.put slot).1.led=t.led:=by
   refine⟨⟨?_,λz=>?_⟩,rfl⟩
   ·show(if SetTable.has t.dummies slot then _ else t.dummies)=_;rw[ok.dum,uK];rfl
   ·unfold SetTable.freeSlot at q;split at q
    ·rename_i j d e;cases q;refine q0x2 (mK ok.dum _ _ rfl j d e) λzz0 hs=>?_;subst zz0;exact Ey (ok.up z) hs
    ·cases q
  unfold SetTable.orStandIn;split
  ·exact ep
  ·exact⟨⟨rfl,λz=>by cases z⟩,rfl⟩
theorem rR {f:Nat->Option Nat}:∀l:List Nat,((l.filterMap λj=>(f j).map λk=>(j,k)).map (·.1)).Sublist l
 | []=>.slnil
 | j::l=>by
  cases q:f j with
  | none=>rw[filterMap_cons_none (by rw[q];rfl)];exact(rR l).cons _
  | some k=>rw[filterMap_cons_some (b:=(j,k)) (by rw[q];rfl)];exact(rR l).cons_cons _
def zl (t:SetTable)(es:Array (Int×Value))(n:Nat):lH (relayAll t es n).2.1/\(relayAll t es n).2.1.led=t.led:=by
 have st:∀k,lH (t.standIn k)/\(t.standIn k).led=t.led:=λk=>⟨⟨rfl,λz=>by cases z⟩,rfl⟩
 unfold relayAll;cases q:t.relaid (es.map (·.1)) n with
 | none=>exact st _
 | some p=>
  obtain⟨t',order⟩:=p;dsimp only;split
  ·unfold SetTable.relaid SetTable.laid at q;generalize SetTable.layClean _ _=oc at q;cases oc with
   | none=>cases q
   | some owner=>
    cases q;refine⟨⟨rfl,λ_=>?_⟩,rfl⟩;show((List.toArray _).toList).Pairwise (·<·);rw[toList_toArray];exact List.Pairwise.sublist (rR (f:=λj=>owner.getD j Y) _) pairwise_lt_range
  ·exact st _
end
def dS (prog:Program)(w:World)(o:Obj)(U:List Int):Prop:=
 ∃es ep t,o.ExactSet/\o.data=.set es ep t/\ElemsOf (intKind prog w) es.toList/\(es.toList.map λe=>numOf e.2).Perm U/\es.size<scanBound/\t.fits es.size=true/\lH t/\t.led=!w.params.followText "set-order"
def km (U:List Int)(n:Int):List Int:=if n∈U then U else U++[n]
variable{es:Array (Int×Value)}
section
variable {prog:Program}{w:World}{A:Around}{E:Value->Shared->Prop}{s:Shared}{a:Addr}{o:Obj}{U:List Int}
def pJ {ep:Nat}(ho:s.heap.get? a=Z o)(hd:o.data=.set es ep t)(es':Array (Int×Value))(t':SetTable):(s.heap.update a (Obj.putSet es' t')).get? a=Z {o with data:=.set es' (ep+1) t'}:=by
 have:=Heap.get?_update_self (Obj.putSet es' t') ho (by rw[putSet_of es' t' hd];rfl);rw[putSet_of es' t' hd] at this;exact this
def qV {es:List (Int×Value)}(h:ElemsOf (intKind prog w) es){e:Int×Value}(he:e∈es):∃t,e.2=.int (numOf e.2) t:=by
 obtain⟨⟨k,hk,_⟩,_⟩:=h e he;refine q1x1 (Value.isInt_shape (show Value.isInt k e.2=true from hk)) λt e2=>?_;exact⟨t,by rw[e2];rfl⟩
def pK {g:Bool->Sem Unit}(hg:∀(b:Bool) (s₁:Shared) (Q':Unit->Shared->Prop),Q' () s₁->wpAny (model prog w) A (g b) Q' E s₁)
   {ep:Nat}  (ho:s.heap.get? a=Z o) (hex:o.ExactSet) (hd:o.data=.set es ep t)
  {es1:Array (Int×Value)} {t2:SetTable} (hel:ElemsOf (intKind prog w) es1.toList) (hp1:(es1.toList.map λe=>numOf e.2).Perm U) (hb1:es1.size<scanBound) (hf2:t2.fits es1.size=true) (ok:lH t2) (led:t2.led=!w.params.followText "set-order") {wasDummy:Bool} {R:Option Bool->Shared->Prop}
  (h:∀h' o',Heap.SameBut a s.heap h'->h'.get? a=Z o'->dS prog w o' U->R (Z true) {s with heap:=h'}) :
  wpAny (model prog w) A (do
    storeSet a es1 t2
    if(!wasDummy&&t2.tooFull)=true then do
      g (relayAll t2 es1 (SetTable.grown es1.size)).2.2
      storeSet a (relayAll t2 es1 (SetTable.grown es1.size)).1 (relayAll t2 es1 (SetTable.grown es1.size)).2.1
      pure (Z true)
     else pure (Z true)) R E s:=by
 refine wpAny_bind (wpAny_storeSet_of ho hd ?_ (fits_of_scanBound hb1));have ho1:=pJ ho hd es1 t2;have hsb1:=Heap.SameBut.update s.heap a (Obj.putSet es1 t2);split
 ·have hp:=relayAll_perm t2 es1 (SetTable.grown es1.size);have hfr:=relayAll_fits t2 es1 (SetTable.grown es1.size);refine q0x2 (zl t2 es1 (SetTable.grown es1.size)) λok2 led2=>?_;generalize hRl:relayAll t2 es1 (SetTable.grown es1.size)=Rl at hp hfr ok2 led2 ⊢;obtain⟨es2,t3,gave2⟩:=Rl;dsimp only at hp hfr ok2 led2 ⊢;have hsz:es2.size=es1.size:=by rw[<-Array.length_toList,hp.length_eq,Array.length_toList]
  have hb2:es2.size<scanBound:=by rw[hsz];exact hb1
  refine wpAny_bind (hg _ _ _ ?_);refine wpAny_bind (wpAny_storeSet_of ho1 rfl ?_ (fits_of_scanBound hb2));have ho2:=pJ (s:={s with heap:=s.heap.update a (Obj.putSet es1 t2)}) ho1 rfl es2 t3;exact wpAny_pure (h _ _ (hsb1.trans (Heap.SameBut.update _ a _)) ho2 ⟨es2,_,t3,hex,rfl,hel.perm hp,(hp.map _).trans hp1,hb2,hfr,ok2,led2.trans led⟩)
 ·exact wpAny_pure (h _ _ hsb1 ho1 ⟨es1,_,t2,hex,rfl,hel,hp1,hb1,hf2,ok,led⟩)
def yn {n:Int}{tk:Tok}{Q:Bool->Shared->Prop}(ho:s.heap.get? a=Z o)(hS:dS prog w o U)(hroom:U.length+1<scanBound)
  (h:∀b h' o',Heap.SameBut a s.heap h'->h'.get? a=Z o'->dS prog w o' (km U n)->Q b {s with heap:=h'}) :
  wpAny (model prog w) A (setAddHashed a (.int n tk) ((intKind prog w).hash n)) Q E s:=by
 obtain⟨es,ep,t,hex,hd,hel,hpU,hb,hf,ok,led⟩:=id hS;have hkey:(intKind prog w).is n (.int n tk)=true:=intKind_is _ _ _ _;have hsz:es.size=U.length:=by rw[<-hpU.length_eq,length_map,Array.length_toList]
 have hb1:es.size+1<scanBound:=by omega
 have hmem:n∈U↔∃e∈es.toList,(intKind prog w).is n e.2=true:=by
  rw[<-hpU.mem_iff,mem_map];constructor
  ·rintro ⟨e,he,q⟩;refine q1x1 (qV hel he) λt' e2=>?_;rw[q] at e2;exact⟨e,he,by rw[e2];exact intKind_is _ _ _ _⟩
  ·rintro ⟨e,he,q⟩;refine q1x1 (Value.isInt_shape (show Value.isInt n e.2=true from q)) λt' e2=>?_;exact⟨e,he,by rw[e2];rfl⟩
 unfold setAddHashed setAddHashedIn;refine wpAny_holding (wpAny_bind (wpAny_setState_of ho hd hf ?_));dsimp only;rw[byScan_of (x:=.int n tk) rfl hb hel];simp only[↓reduceIte];unfold setAddByScan;refine wpAny_bind ?_;refine wpAny_bind (wpAny_rule ?_);refine wpAny_bind (wpAny_setScan_of hkey ho hd hf hel ?_);cases hr:List.findIdx? (λe=>(intKind prog w).is n e.2) es.toList with
 | some j=>
  dsimp only;refine q1x2 (findIdx?_eq_some_iff_getElem.mp hr) λhj hpj _=>?_;have hU:n∈U:=hmem.mpr ⟨es.toList[j],getElem_mem hj,hpj⟩;refine wpAny_pure (wpAny_pure ?_);have e:s={s with heap:=s.heap}:=by cases s;rfl
  have:=h false s.heap o (Heap.SameBut.refl a s.heap) ho (by unfold km;rw[if_pos hU];exact hS);rw[e];exact this
 | none=>
  dsimp only;have hU:n∉U:=λz=>by
   refine q1x2 (hmem.mp z) λe he hp=>?_;have:=findIdx?_eq_none_iff.mp hr e he;rw[hp] at this;exact Bool.noConfusion this
  have hgw:∀(b:Bool) {s₁:Shared} {Q':Unit->Shared->Prop},Q' () s₁->wpAny (model prog w) A (match b with|true=>rule "set.scan.the-table-gave-way"|false=>pure ()) Q' E s₁:=
   λb s₁ Q' hq=>by cases b <;> first|exact wpAny_pure hq|exact wpAny_rule hq
  have hperm:=layNew_perm t es ((intKind prog w).hash n) (.int n tk);have hfits:=layNew_fits t es ((intKind prog w).hash n) (.int n tk);refine q0x2 (Dy ok es ((intKind prog w).hash n) (.int n tk)) λok1 led1=>?_;generalize hL:layNew t es ((intKind prog w).hash n) (.int n tk)=L at hperm hfits ok1 led1 ⊢;obtain⟨es1,t1,wasDummy,gave⟩:=L;dsimp only at hperm hfits ok1 led1 ⊢;rw[Array.toList_push] at hperm;have hel1:ElemsOf (intKind prog w) es1.toList:=(hel.push hkey rfl).perm hperm;have hp1:(es1.toList.map λe=>numOf e.2).Perm (km U n):=by
   unfold km;rw[if_neg hU];refine(hperm.map _).trans ?_;rw[map_append];exact hpU.append (.refl _)
  have hb1':es1.size<scanBound:=by rw[<-Array.length_toList,hperm.length_eq,length_append,Array.length_toList];simpa using hb1
  refine wpAny_bind (hgw _ ?_);split
  ·refine wpAny_bind ?_;rw[hashByValue_scannable 8 (x:=.int n tk) rfl];refine wpAny_pure ?_;refine pK ?_ ho hex hd hel1 hp1 hb1' hfits ok1 (led1.trans led) ?_
   ·intro b s₁ Q' hq;cases b <;> first|exact wpAny_pure hq|exact wpAny_rule hq
   ·intro h' o' hsb ho' hS';dsimp only;exact wpAny_pure (h _ _ _ hsb ho' hS')
  ·refine wpAny_bind (wpAny_pure ?_);simp only[↓reduceIte];refine pK ?_ ho hex hd hel1 hp1 hb1' hfits ok1 (led1.trans led) ?_
   ·intro b s₁ Q' hq;cases b <;> first|exact wpAny_pure hq|exact wpAny_rule hq
   ·intro h' o' hsb ho' hS';dsimp only;exact wpAny_pure (h _ _ _ hsb ho' hS')
def jm (ho:s.heap.get? a=Z o)(hS:dS prog w o U):s.TypeIs (.ref a) "set":=by
 refine q3x2 hS λ_ _ _ hex _=>?_;exact⟨o,ho,hex.1⟩
def AA {n:Int}{tk:Tok}{Q:Value->Shared->Prop}(ho:s.heap.get? a=Z o)(hS:dS prog w o U)(hroom:U.length+1<scanBound)
  (h:∀h' o',Heap.SameBut a s.heap h'->h'.get? a=Z o'->dS prog w o' (km U n)->Q .none {s with heap:=h',toks:=s.toks+1}) :
  wpAny (model prog w) A (call (.builtin "set.add") [.ref a,.int n tk]) Q E s:=by
 refine wpAny_call_entry F.slot_set_add (jm ho hS) F.entry_set_add ?_ (F.args_set_add_2 _ _);unfold Builtin.«set.add» Builtin.Frozenset.oneOther;simp only[isEmpty_nil,bind_assoc];unfold Builtin.Frozenset.addrOf setAdd;refine wpAny_bind (wpAny_pure ?_)
 try dsimp only
 refine wpAny_bind (wpAny_pure ?_)
 try dsimp only
 refine wpAny_bind ?_;refine wpAny_holding ?_;refine wpAny_bind ((intKind prog w).pyHash (intKind_is _ _ _ _) ?_);refine yn (s:={s with toks:=s.toks+1}) ho hS hroom λb h' o' hsb ho' hS'=>?_
 show wpAny _ _ (ret Value.none) _ _ _;exact wpAny_pure ⟨_,rfl,h h' o' hsb ho' hS'⟩
def Bd {Q:Value->Shared->Prop}(h:∀o,dS prog w o []->Q (.ref s.heap.objs.size) {s with heap:=s.heap.push o}):wpAny (model prog w) A (newSet (.type "set")) Q E s:=by
 unfold newSet setsByText;refine wpAny_bind (wpAny_bind (wpAny_askSetting (wpAny_pure ?_)));dsimp only;simp only[newObj];exact wpAny_bind (wpAny_alloc (wpAny_pure (h _ ⟨#[],0,_,⟨rfl,rfl,rfl⟩,rfl,λe he=>by simp at he,.refl _,by decide,by rfl,⟨rfl,λ_=>.nil⟩,rfl⟩)))
end
def aG:Slot "set_iterator" "__next__" "set_iterator.__next__":=
 .of (owner:="set_iterator") (n:="__next__") (by rw[typeLookup_type,builtinLookup_eq_fast];kernel_rfl) (by decide +kernel) (by decide +kernel) (by decide +kernel)
  (by first|exact .inl (by decide +kernel)|exact .inr (by decide +kernel)) (by rw[isSubtype_type];kernel_rfl)
def gN:Slot "set_iterator" "__iter__" "set_iterator.__iter__":=
 .of (owner:="set_iterator") (n:="__iter__") (by rw[typeLookup_type,builtinLookup_eq_fast];kernel_rfl) (by decide +kernel) (by decide +kernel) (by decide +kernel)
  (by first|exact .inl (by decide +kernel)|exact .inr (by decide +kernel)) (by rw[isSubtype_type];kernel_rfl)
def cC:entryFor table "set_iterator.__next__"=Z Builtin.«set_iterator.__next__»:=entryFor_of_tree (by kernel_rfl)
def jI:entryFor table "set_iterator.__iter__"=Z Builtin.«dict_keyiterator.__iter__»:=entryFor_alias (id':="dict_keyiterator.__iter__") (by kernel_rfl) rfl (by decide +kernel) (by kernel_rfl)
def lI:entryFor table "set.__iter__"=Z Builtin.«frozenset.__iter__»:=entryFor_alias (id':="frozenset.__iter__") (by kernel_rfl) rfl (by decide +kernel) (by kernel_rfl)
def jX:Manifest.owners.lookup (String.ofList ['r','o','t','a','r','e','t','i','_','t','e','s'].reverse)=Z Manifest.sig_set_iterator:=by kernel_rfl
def cS (a:Value):argsOk "set_iterator.__next__" ⟨[a],[]⟩:=by
 unfold argsOk;rw[signature?_of (id:="set_iterator.__next__") (n:=['_','_','t','x','e','n','_','_']) (o:=['r','o','t','a','r','e','t','i','_','t','e','s']) (by kernel_rfl) jX];kernel_rfl
def kx (a:Value):argsOk "set_iterator.__iter__" ⟨[a],[]⟩:=by
 unfold argsOk;rw[signature?_of (id:="set_iterator.__iter__") (n:=['_','_','r','e','t','i','_','_']) (o:=['r','o','t','a','r','e','t','i','_','t','e','s']) (by kernel_rfl) jX];kernel_rfl
abbrev qF (first:Value)(i:Nat)(a:Addr)(n ep:Nat):Obj:={cls:=.type "set_iterator",data:=.fields #[first,.int i 0,.ref a,.int n 0,.int ep 0]}
variable{Q:Option Value->Shared->Prop}{slot:Nat}{ps:Array Value}
section
variable {prog:Program}{w:World}{A:Around}{E:Value->Shared->Prop}{s:Shared}{a it:Addr}{o:Obj}{es:Array (Int×Value)}{ep i:Nat}{t:SetTable}
def uf {x:Value}{nx:Nat}(hit:s.heap.get? it=Z (qF (.int slot 0) i a es.size ep))(ho:s.heap.get? a=Z o)(hd:o.data=.set es ep t)(hf:t.fits es.size=true)
  (hN:∀(A:Around) (E:Value->Shared->Prop) (Q:Option (Value×Nat)->Shared->Prop),Q (Z (x,nx)) s->wpAny (model prog w) A (setNext a slot i ep) Q E s)
  (hQ:∀h',h'.get? it=Z (qF (.int nx 0) (i+1) a es.size ep)->Heap.SameBut it s.heap h'->Q (Z x) {s with heap:=h'}):wpAny (model prog w) A (pyNext (.ref it)) Q E s:=by
 have T:s.TypeIs (.ref it) "set_iterator":=⟨_,hit,rfl⟩;unfold pyNext;refine wpAny_bind (wpAny_attempt (wpAny_callSpecial?_slot (name:=Str.ofString "__next__") T aG (wpAny_call_entry aG T cC ?_ (cS _))));unfold Builtin.«set_iterator.__next__»;refine wpAny_bind (wpAny_pure (wpAny_bind (wpAny_fieldsOf hit rfl ?_)));show wpAny _ _ (setEntries a >>= _) _ _ s;refine wpAny_bind (wpAny_setEntries_of ho hd hf ?_);dsimp only;rw[if_neg (by simp)];refine wpAny_bind (hN _ _ _ ?_);dsimp only;refine wpAny_bind (wpAny_setField_rec hit (by simp) λh1 he1 hs1=>?_)
 replace he1:h1.get? it=Z (qF (.int nx 0) i a es.size ep):=by simpa[rawInt] using he1
 refine wpAny_bind (wpAny_setField_rec (s:={s with heap:=h1}) he1 (by simp) λh2 he2 hs2=>?_)
 replace he2:h2.get? it=Z (qF (.int nx 0) (i+1) a es.size ep):=by
  unfold qF;rw[show((i+1:Nat):Int)=(i:Int)+1 by omega];simpa[rawInt] using he2
 exact wpAny_pure ⟨_,rfl,wpAny_pure (hQ h2 he2 (Heap.SameBut.trans hs1 hs2))⟩
def wM {tp:Addr}{c:Nat}{p:Nat}{h0:Int}{x:Value}(hit:s.heap.get? it=Z (qF (.ref tp) i a es.size ep))(ho:s.heap.get? a=Z o)(hd:o.data=.set es ep t)(hf:t.fits es.size=true)
  (ht:s.heap.get? tp=Z (seqObj "tuple" ps c)) (hp:ps[i]?=Z (.int p 0)) (hx:es[p]?=Z (h0,x))
  (hQ:∀h',h'.get? it=Z (qF (.ref tp) (i+1) a es.size ep)->Heap.SameBut it s.heap h'->Q (Z x) {s with heap:=h'}):wpAny (model prog w) A (pyNext (.ref it)) Q E s:=by
 have T:s.TypeIs (.ref it) "set_iterator":=⟨_,hit,rfl⟩;unfold pyNext;refine wpAny_bind (wpAny_attempt (wpAny_callSpecial?_slot (name:=Str.ofString "__next__") T aG (wpAny_call_entry aG T cC ?_ (cS _))));unfold Builtin.«set_iterator.__next__»;refine wpAny_bind (wpAny_pure (wpAny_bind (wpAny_fieldsOf hit rfl ?_)));show wpAny _ _ (setEntries a >>= _) _ _ s;refine wpAny_bind (wpAny_setEntries_of ho hd hf ?_);dsimp only;rw[if_neg (by simp)];refine wpAny_bind (wpAny_seqItems ht rfl ?_);dsimp only;rw[Int.toNat_natCast,hp];dsimp only;refine wpAny_bind ?_;unfold setNextDrawn;refine wpAny_bind (wpAny_setState_of ho hd hf ?_);dsimp only;rw[if_neg (by simp),Int.toNat_natCast,hx];refine wpAny_pure ?_;refine wpAny_bind (wpAny_setField_rec hit (by simp) λh1 he1 hs1=>?_)
 replace he1:h1.get? it=Z (qF (.ref tp) (i+1) a es.size ep):=by
  unfold qF;rw[show((i+1:Nat):Int)=(i:Int)+1 by omega];simpa[rawInt] using he1
 exact wpAny_pure ⟨_,rfl,wpAny_pure (hQ h1 he1 hs1)⟩
def uQ {B:Around}{s0:Shared}(hh:B.handled=Y)(hQ:∀h',(∀b o,s.heap.get? b=Z o->h'.get? b=Z o)->Q Y {s with heap:=h'}) :
  wpAny (model prog w) B (newExc (.type "StopIteration") [] >>= raiseNew (α:=PySem.Fin)) (λfin s'=>∃v,fin=Fin.done (Flow.ret v)/\wpAny (model prog w) A (pure (Z v)) Q E s') (λe s'=>wpAny (model prog w) A (do if <-isInstance e (.type "StopIteration") then pure Y else throw e) Q E s') s:=by
 refine wpAny_bind ?_;simp only[newExc,newTuple];refine wpAny_bind (wpAny_newObj_type ?_ (by size_fits));refine wpAny_bind (m:=firstArgMember _ _) (wpAny_of_eq (a:=Value.none) (by first|rfl|(simp only[firstArgMember];rfl)) (wpAny_newObj_type ?_ (by size_fits)));simp only[raiseNew];refine wpAny_bind (wpAny_handled ?_);rw[hh];refine wpAny_bind (wpAny_pure (wpAny_throw ?_));exact wpAny_bind (wpAny_isInstance (T:="StopIteration") (b:=true) ⟨_,Heap.get?_push_size _ rfl,rfl⟩ isSubtype_stop (wpAny_pure (hQ _ λb o e=>Heap.get?_push_of_some _ (Heap.get?_push_of_some _ e))))
def xo (hh:A.handled=Y)(hit:s.heap.get? it=Z (qF (.int slot 0) i a es.size ep))(ho:s.heap.get? a=Z o)(hd:o.data=.set es ep t)(hf:t.fits es.size=true)
  (hN:∀(A:Around) (E:Value->Shared->Prop) (Q:Option (Value×Nat)->Shared->Prop),Q Y s->wpAny (model prog w) A (setNext a slot i ep) Q E s)
  (hQ:∀h',Heap.ExtBut it s.heap h'->Q Y {s with heap:=h'}):wpAny (model prog w) A (pyNext (.ref it)) Q E s:=by
 have T:s.TypeIs (.ref it) "set_iterator":=⟨_,hit,rfl⟩;unfold pyNext;refine wpAny_bind (wpAny_attempt (wpAny_callSpecial?_slot (name:=Str.ofString "__next__") T aG (wpAny_call_entry aG T cC ?_ (cS _))));unfold Builtin.«set_iterator.__next__»;refine wpAny_bind (wpAny_pure (wpAny_bind (wpAny_fieldsOf hit rfl ?_)));show wpAny _ _ (setEntries a >>= _) _ _ s;refine wpAny_bind (wpAny_setEntries_of ho hd hf ?_);dsimp only;rw[if_neg (by simp)];refine wpAny_bind (hN _ _ _ ?_);dsimp only;refine wpAny_bind (wpAny_setField_rec hit (by simp) λh1 he1 hs1=>?_);exact uQ (s:={s with heap:=h1}) (s0:=s) hh λh' k=>hQ h' λb o hb e=>k b o (hs1.extBut b o hb e)
def zC {tp:Addr}{c:Nat}(hh:A.handled=Y)(hit:s.heap.get? it=Z (qF (.ref tp) i a es.size ep))(ho:s.heap.get? a=Z o)(hd:o.data=.set es ep t)(hf:t.fits es.size=true)
  (ht:s.heap.get? tp=Z (seqObj "tuple" ps c)) (hp:ps[i]?=Y)
  (hQ:∀h',Heap.ExtBut it s.heap h'->Q Y {s with heap:=h'}):wpAny (model prog w) A (pyNext (.ref it)) Q E s:=by
 have T:s.TypeIs (.ref it) "set_iterator":=⟨_,hit,rfl⟩;unfold pyNext;refine wpAny_bind (wpAny_attempt (wpAny_callSpecial?_slot (name:=Str.ofString "__next__") T aG (wpAny_call_entry aG T cC ?_ (cS _))));unfold Builtin.«set_iterator.__next__»;refine wpAny_bind (wpAny_pure (wpAny_bind (wpAny_fieldsOf hit rfl ?_)));show wpAny _ _ (setEntries a >>= _) _ _ s;refine wpAny_bind (wpAny_setEntries_of ho hd hf ?_);dsimp only;rw[if_neg (by simp)];refine wpAny_bind (wpAny_seqItems ht rfl ?_);dsimp only;rw[Int.toNat_natCast,hp];dsimp only;refine wpAny_bind (wpAny_setField_rec hit (by simp) λh1 he1 hs1=>?_);refine wpAny_bind (wpAny_setField_rec (s:={s with heap:=h1}) he1 (by simp) λh2 he2 hs2=>?_);exact uQ (s:={s with heap:=h2}) (s0:=s) hh λh' k=>hQ h' λb o hb e=>k b o ((Heap.SameBut.trans hs1 hs2).extBut b o hb e)
def oY {first:Value}{n:Nat}{Q:Value->Shared->Prop}(hit:s.heap.get? it=Z (qF first i a n ep))(h:Q (.ref it) s):wpAny (model prog w) A (pyIter (.ref it)) Q E s:=by
 have hT:s.TypeIs (.ref it) "set_iterator":=⟨_,hit,rfl⟩;refine wpAny_pyIter_slot hT gN (wpAny_call_entry gN hT jI ?_ (kx _));show wpAny _ _ (ret (.ref it)) _ _ s;exact wpAny_pure ⟨_,rfl,"set_iterator",_,hT,aG.lookup,h⟩
end
def qp {α:Type}{l:List α}{i:Nat}(h:i<l.length):(l[i]::l.eraseIdx i).Perm l:=by
 rw[eraseIdx_eq_take_drop_succ];refine(perm_middle (l₁:=l.take i)).symm.trans (.of_eq ?_);rw[getElem_cons_drop,take_append_drop]
theorem nN {α:Type}{nx:Nat->Nat}:∀(f k:Nat) (l:List α) (out:Array α),l.length<=f->(pickOrder.go nx f k l out).toList.Perm (out.toList++l)
 | 0,k,l,out,h=>by
  have e:l=[]:=length_eq_zero_iff.mp (by omega);subst e;rw[append_nil];exact .refl _
 | f+1,k,l,out,h=>by
  unfold pickOrder.go;cases l with
  | nil=>rw[append_nil];exact .refl _
  | cons y ys=>
   have hm:nx k % (y::ys).length<(y::ys).length:=Nat.mod_lt _ (by simp);rw[getElem?_eq_getElem hm];dsimp only;refine(nN f _ _ _ (by rw[length_eraseIdx,if_pos hm];simp at h ⊢;omega)).trans ?_;rw[Array.toList_push,append_assoc];exact(List.Perm.refl _).append (qp hm)
section
variable {prog:Program}{w:World}{A:Around}{E:Value->Shared->Prop}{s:Shared}
def v8 {src:Source}{n:Nat}{Q:Nat->Shared->Prop}(hn:n≠0)(h:∀i,i<n->Q i {s with drawn:=s.drawn.bump src}):wpAny (model prog w) A (choose src n) Q E s:=
 λΓ p _=>⟨hn,h _ (Nat.mod_lt _ (by omega))⟩
theorem gF {α:Type}:∀(n:Nat) (l:List α) {s:Shared} {Q:List α->Shared->Prop},l.length<=n->(∀ys d,ys.Perm l->Q ys {s with drawn:=d})->wpAny (model prog w) A (drawOrder n l) Q E s
 | 0,l,s,Q,hl,h=>by
  have e:l=[]:=length_eq_zero_iff.mp (by omega);subst e;exact wpAny_pure (by have:=h [] s.drawn (.refl _);exact this)
 | n+1,[],s,Q,hl,h=>wpAny_pure (by have:=h [] s.drawn (.refl _);exact this)
 | n+1,y::ys,s,Q,hl,h=>by
  unfold drawOrder;refine wpAny_bind (v8 (by simp) λi hi=>?_);rw[getElem?_eq_getElem hi];dsimp only;refine wpAny_bind (gF n _ (by rw[length_eraseIdx,if_pos hi];simp at hl ⊢;omega) λzs d hz=>wpAny_pure ?_);exact h _ d ((hz.cons _).trans (qp hi))
variable {a it:Addr}{o:Obj}{es:Array (Int×Value)}{ep i:Nat}{t:SetTable}{U:List Int}
def By {k:Nat}{Q:Option (Value×Nat)->Shared->Prop}(hbt:w.params.followText "set-order"=false)(hpl:t.plain=true\/es.size<=1)(hled:t.led=true)(ho:s.heap.get? a=Z o)(hd:o.data=.set es ep t)(hf:t.fits es.size=true)(hk:SetTable.below t.place slot=k)
  (h:Q (match es[k]?,t.place[k]? with|some (_,x),Z j=>Z (x,j+1)|_,_=>Y) s):wpAny (model prog w) A (setNext a slot i ep) Q E s:=by
 unfold setNext setsByText;refine wpAny_bind (wpAny_setState_of ho hd hf ?_);dsimp only;refine wpAny_bind (wpAny_bind (wpAny_askSetting (wpAny_pure ?_)));dsimp only;rw[show(model prog w).w.params.followText "set-order"=false from hbt,if_neg Bool.false_ne_true];have nd:¬((!t.plain&&decide (es.size>1))=true):=by
  rcases hpl with z|z
  ·rw[z];simp
  ·rw[decide_eq_false (by omega)];simp
 refine wpAny_ite_split (λz=>absurd z nd) λ_=>?_
 have nl:¬((!t.led&&!es.isEmpty)=true):=by rw[hled];simp
 refine wpAny_bind ?_;show wpAny _ _ (if(!t.led&&!es.isEmpty)=true then _ else pure ()) _ _ _;rw[if_neg nl];refine wpAny_pure ?_;rw[hk];exact wpAny_pure h
def BL {Q:Option (Value×Nat)->Shared->Prop}(hbt:w.params.followText "set-order"=true)(ho:s.heap.get? a=Z o)(hd:o.data=.set es ep t)(hf:t.fits es.size=true)
  (h:Q (((pickOrder (w.params.setOrder a ep) es)[i]?).map λe=>(e.2,slot)) s):wpAny (model prog w) A (setNext a slot i ep) Q E s:=by
 unfold setNext setWalk setsByText;refine wpAny_bind (wpAny_setState_of ho hd hf ?_);dsimp only;refine wpAny_bind (wpAny_bind (wpAny_askSetting (wpAny_pure ?_)));dsimp only;rw[show(model prog w).w.params.followText "set-order"=true from hbt,if_pos rfl,if_neg (by simp)];refine wpAny_bind (wpAny_bind (wpAny_setState_of ho hd hf ?_));dsimp only;refine wpAny_bind (wpAny_bind (wpAny_askSetting (wpAny_pure ?_)));dsimp only;rw[show(model prog w).w.params.followText "set-order"=true from hbt,if_pos rfl];exact wpAny_bind (wpAny_askSetting (wpAny_pure (wpAny_pure h)))
structure BB (prog:Program)(w:World)(A:Around)(s:Shared)(a:Addr)(U:List Int)(h':Heap)(it:Addr)(ord:List Value)(fp:List Addr)(St:Nat->Heap->Prop):Prop where
 keep:∀b o,s.heap.get? b=Z o->h'.get? b=Z o
 new:s.heap.objs.size<=it
 perm:(ord.map numOf).Perm U
 num:∀v∈ord,∃n t,v=Value.int n t
 walks:Walks prog w A it fp [it] ord.length (λi v=>ord[i]?=Z v) St
 st:St 0 h'
 fps:∀b∈fp,b=a\/s.heap.objs.size<=b
def mW (hel:ElemsOf (intKind prog w) es.toList){l:List (Int×Value)}(hp:l.Perm es.toList):∀v∈l.map (·.2),∃n t,v=Value.int n t:=λv hv=>by
 refine q1x2 (mem_map.mp hv) λe he zz2=>?_;subst zz2;refine q1x1 (qV hel (hp.subset he)) λt e2=>?_;exact⟨_,t,e2⟩
def xF (hh:A.handled=Y)(ho:s.heap.get? a=Z o)(hS:dS prog w o U){Q:Value->Shared->Prop}
  (h:∀h' d it ord fp St,BB prog w A s a U h' it ord fp St->Q (.ref it) {s with heap:=h',drawn:=d}):wpAny (model prog w) A (pyIter (.ref a)) Q E s:=by
 have hT:=jm ho hS;obtain⟨es,ep,t,hex,hd,hel,hpU,hb,hf,ok,led⟩:=hS;have hpl:t.place.size=es.size:=by
  unfold SetTable.fits at hf;rw[Bool.and_eq_true,beq_iff_eq] at hf;exact hf.1
 refine wpAny_pyIter_slot hT F.slot_set_iter (wpAny_call_entry F.slot_set_iter hT lI ?_ (F.args_set_iter_1 _));unfold Builtin.«frozenset.__iter__»;refine wpAny_bind (m:=Builtin.Frozenset.slot0 _ _) (wpAny_of_eq (a:=a) rfl ?_);unfold Builtin.Frozenset.sizeOf;refine wpAny_bind (wpAny_bind (wpAny_setEntries_of ho hd hf (wpAny_pure ?_)));unfold setDrawn setsByText;refine wpAny_bind (wpAny_bind (wpAny_setState_of ho hd hf ?_));dsimp only;refine wpAny_bind (wpAny_bind (wpAny_askSetting (wpAny_pure (wpAny_pure ?_))));dsimp only;show wpAny _ _ (if(!w.params.followText "set-order"&&(!t.plain&&decide (es.size>1)))=true then _ else _) _ _ s;have al:a<s.heap.objs.size:=Heap.lt_size ho;have plain:∀(ord:List Value) (St:Nat->Heap->Prop),(ord.map numOf).Perm U->(∀v∈ord,∃n t,v=Value.int n t)->Walks prog w A s.heap.objs.size [s.heap.objs.size,a] [s.heap.objs.size] ord.length (λi v=>ord[i]?=Z v) St->
   St 0 (s.heap.push (qF (.int 0 0) 0 a es.size ep))->BB prog w A s a U (s.heap.push (qF (.int 0 0) 0 a es.size ep)) s.heap.objs.size ord [s.heap.objs.size,a] St:=λord St h1 h2 h3 h4=>
  ⟨λb o e=>Heap.get?_push_of_some _ e,Nat.le_refl _,h1,h2,h3,h4,λb hb=>by
   simp only[mem_cons,mem_nil_iff,or_false] at hb;rcases hb with z|z
   ·exact .inr (Nat.le_of_eq z.symm)
   ·exact .inl z⟩
 by_cases hbt:w.params.followText "set-order"=true
 ·rw[if_neg (by rw[hbt];simp)];refine wpAny_bind (wpAny_pure (wpAny_bind (wpAny_setEpoch_of ho hd hf (wpAny_bind (wpAny_newObj_type (wpAny_pure ⟨_,rfl,"set_iterator",_,⟨_,Heap.get?_push_size _ rfl,rfl⟩,aG.lookup,?_⟩))))));have pp:(pickOrder (w.params.setOrder a ep) es).toList.Perm es.toList:=nN _ _ _ _ (by simp);have lo:((pickOrder (w.params.setOrder a ep) es).toList.map (·.2)).length=es.size:=by rw[length_map,pp.length_eq,Array.length_toList]
  refine h _ s.drawn _ _ _ _ (plain ((pickOrder (w.params.setOrder a ep) es).toList.map (·.2)) (λi h=>h.get? s.heap.objs.size=Z (qF (.int (0:Nat) 0) i a es.size ep)/\h.get? a=Z o) (by rw[map_map];exact(pp.map _).trans hpU) (mW hel pp) ?_ ⟨Heap.get?_push_size _ rfl,Heap.get?_push_of_some _ ho⟩);have ne:a≠s.heap.objs.size:=Nat.ne_of_lt al;refine⟨λb hb=>by rw[mem_singleton.mp hb];exact mem_cons_self,λ_ _ _ st hk=>⟨hk _ mem_cons_self _ st.1,hk _ (mem_cons_of_mem _ mem_cons_self) _ st.2⟩,λi s1 Q E hi st hQ=>?_,λs1 Q E st hQ=>?_,λ_ _ _ _ st hQ=>oY st.1 hQ⟩
  ·have hi':i<(pickOrder (w.params.setOrder a ep) es).size:=by rw[<-Array.length_toList];rw[length_map] at hi;exact hi
   refine uf (x:=(pickOrder (w.params.setOrder a ep) es)[i].2) (nx:=0) st.1 st.2 hd hf (λA E Q q=>BL hbt st.2 hd hf (by rw[Array.getElem?_eq_getElem hi'];exact q)) λh' k1 k2=>hQ _ h' s1.toks ?_ ⟨k1,k2.extBut a o ne st.2⟩ λb o hb e=>k2.extBut b o (λz=>hb (by rw[z];exact mem_cons_self)) e
   rw[getElem?_map,Array.getElem?_toList,Array.getElem?_eq_getElem hi'];rfl
  ·rw[lo] at st;have hz:(pickOrder (w.params.setOrder a ep) es).size=es.size:=by rw[<-Array.length_toList,pp.length_eq,Array.length_toList]
   exact xo hh st.1 st.2 hd hf (λA E Q q=>BL hbt st.2 hd hf (by rw[Array.getElem?_eq_none (by omega)];exact q)) λh' k=>hQ h' s1.toks λb o hb e=>k b o (λz=>hb (by rw[z];exact mem_cons_self)) e
 ·have hbf:w.params.followText "set-order"=false:=by simpa using hbt
  have hled:t.led=true:=by rw[led,hbf];rfl
  by_cases hdr:(!t.plain&&decide (es.size>1))=true
  ·rw[if_pos (by rw[hbf,hdr];rfl)];refine wpAny_bind (gF es.size (List.range es.size) (by simp) λps d hp=>wpAny_bind (wpAny_newTuple ?_ (by rw[length_map,hp.length_eq,length_range];exact fits_of_scanBound hb)));have ho1:(s.heap.push (seqObj "tuple" (List.toArray (ps.map λ(i:Nat)=>rawInt i)) 0)).get? a=Z o:=Heap.get?_push_of_some _ ho;refine wpAny_bind (wpAny_setEpoch_of (s:={s with heap:=s.heap.push (seqObj "tuple" (List.toArray (ps.map λ(i:Nat)=>rawInt i)) 0),drawn:=d}) ho1 hd hf (wpAny_bind (wpAny_newObj_type (wpAny_pure ⟨_,rfl,"set_iterator",_,⟨_,Heap.get?_push_size _ rfl,rfl⟩,aG.lookup,?_⟩))));have hlp:ps.length=es.size:=by rw[hp.length_eq,length_range]
   have inR:∀p∈ps,p<es.size:=λp hp'=>mem_range.mp (hp.subset hp')
   have pe:(ps.map λp=>es.toList.getD p (0,Value.none)).Perm es.toList:=by
    refine(hp.map _).trans (.of_eq ?_);apply ext_getElem
    ·simp
    ·intro i h1 h2;simp at h1 h2 ⊢;rw[Array.getElem?_eq_getElem h1];rfl
   have zp:(s.heap.push (seqObj "tuple" (List.toArray (ps.map λ(i:Nat)=>rawInt i)) 0)).objs.size=s.heap.objs.size+1:=Heap.size_push ..;have gi:∀ob,((s.heap.push (seqObj "tuple" (List.toArray (ps.map λ(i:Nat)=>rawInt i)) 0)).push ob).get? s.heap.objs.size=Z (seqObj "tuple" (List.toArray (ps.map λ(i:Nat)=>rawInt i)) 0):=λob=>Heap.get?_push_of_some _ (Heap.get?_push_size _ rfl)
   rw[zp];refine h _ d _ ((ps.map λp=>es.toList.getD p (0,Value.none)).map (·.2)) [s.heap.objs.size+1,a,s.heap.objs.size] (λi h=>h.get? (s.heap.objs.size+1)=Z (qF (.ref s.heap.objs.size) i a es.size ep)/\h.get? a=Z o/\h.get? s.heap.objs.size=Z (seqObj "tuple" (List.toArray (ps.map λ(i:Nat)=>rawInt i)) 0)) ⟨λb o e=>Heap.get?_push_of_some _ (Heap.get?_push_of_some _ e),Nat.le_succ _,?_,mW hel pe,?_,⟨?_,Heap.get?_push_of_some _ ho1,gi _⟩,λb hb=>?_⟩
   ·rw[map_map];exact(pe.map _).trans hpU
   ·have ne:a≠s.heap.objs.size+1:=Nat.ne_of_lt (Nat.lt_succ_of_lt al);have ne2:s.heap.objs.size≠s.heap.objs.size+1:=Nat.ne_of_lt (Nat.lt_succ_self _);refine⟨λb hb=>by rw[mem_singleton.mp hb];exact mem_cons_self,λ_ _ _ st hk=>⟨hk _ mem_cons_self _ st.1,hk _ (by simp) _ st.2.1,hk _ (by simp) _ st.2.2⟩,λi s1 Q E hi st hQ=>?_,λs1 Q E st hQ=>?_,λ_ _ _ _ st hQ=>oY st.1 hQ⟩
    ·have hi':i<ps.length:=by rw[length_map,length_map] at hi;exact hi
     have hpi:ps[i]<es.size:=inR _ (getElem_mem hi');refine wM (p:=ps[i]) (h0:=es[ps[i]].1) (x:=es[ps[i]].2) st.1 st.2.1 hd hf st.2.2 (by simp[hi',rawInt]) (Array.getElem?_eq_getElem hpi) λh' k1 k2=>hQ _ h' s1.toks ?_ ⟨k1,k2.extBut a o ne st.2.1,k2.extBut _ _ ne2 st.2.2⟩ λb o hb e=>k2.extBut b o (λz=>hb (by rw[z];exact mem_cons_self)) e
     simp[hi',hpi]
    ·have hl2:((ps.map λp=>es.toList.getD p (0,Value.none)).map (·.2)).length=ps.length:=by simp
     rw[hl2] at st;exact zC hh st.1 st.2.1 hd hf st.2.2 (by simp) λh' k=>hQ h' s1.toks λb o hb e=>k b o (λz=>hb (by rw[z];exact mem_cons_self)) e
   ·rw[<-zp];exact Heap.get?_push_size _ rfl
   ·simp only[mem_cons,mem_nil_iff,or_false] at hb;rcases hb with z|z|z
    ·exact .inr (by rw[z];exact Nat.le_succ _)
    ·exact .inl z
    ·exact .inr (Nat.le_of_eq z.symm)
  ·rw[if_neg (by rw[hbf];simpa using hdr)];refine wpAny_bind (wpAny_pure (wpAny_bind (wpAny_setEpoch_of ho hd hf (wpAny_bind (wpAny_newObj_type (wpAny_pure ⟨_,rfl,"set_iterator",_,⟨_,Heap.get?_push_size _ rfl,rfl⟩,aG.lookup,?_⟩))))));have pl:t.plain=true\/es.size<=1:=by
    cases q:t.plain with
    | true=>exact .inl rfl
    | false=>exact .inr (by rw[q] at hdr;simpa using hdr)
   have up:t.place.toList.Pairwise (·<·):=by
    rcases pl with z|z
    ·exact ok.up z
    ·have:t.place.toList.length<=1:=by rw[Array.length_toList];omega
     match t.place.toList,this with
     | [],_=>exact .nil
     | [_],_=>exact pairwise_singleton _ _
     | _::_::_,q=>exact absurd q (by simp)
   have bl:∀i,i<=es.size->SetTable.below t.place (if i=0 then 0 else t.place.getD (i-1) 0+1)=i:=λi hi=>by
    refine sA up ⟨by omega,λk x hk e=>?_,λk x hk e=>?_⟩
    ·have h0:i≠0:=by omega
     rw[if_neg h0];have e2:t.place[i-1]?=Z (t.place.getD (i-1) 0):=by
      rw[Array.getElem?_eq_getElem (by omega)];simp[Array.getD,show i-1<t.place.size by omega]
     by_cases z:k=i-1
     ·subst z;rw[e2] at e;cases e;omega
     ·have:=rf up (by omega) e e2;omega
    ·by_cases h0:i=0
     ·rw[if_pos h0];exact Nat.zero_le _
     ·rw[if_neg h0];have e2:t.place[i-1]?=Z (t.place.getD (i-1) 0):=by
       rw[Array.getElem?_eq_getElem (by omega)];simp[Array.getD,show i-1<t.place.size by omega]
      exact rf up (by omega) e2 e
   have lo:(es.toList.map (·.2)).length=es.size:=by simp
   refine h _ s.drawn _ _ _ _ (plain (es.toList.map (·.2)) (λi h=>i<=es.size/\h.get? s.heap.objs.size=Z (qF (.int (if i=0 then 0 else t.place.getD (i-1) 0+1:Nat) 0) i a es.size ep)/\h.get? a=Z o) (by rw[map_map];exact hpU) (mW hel (.refl _)) ?_ ⟨Nat.zero_le _,Heap.get?_push_size _ rfl,Heap.get?_push_of_some _ ho⟩);have ne:a≠s.heap.objs.size:=Nat.ne_of_lt al;refine⟨λb hb=>by rw[mem_singleton.mp hb];exact mem_cons_self,λ_ _ _ st hk=>⟨st.1,hk _ mem_cons_self _ st.2.1,hk _ (mem_cons_of_mem _ mem_cons_self) _ st.2.2⟩,λi s1 Q E hi st hQ=>?_,λs1 Q E st hQ=>?_,λ_ _ _ _ st hQ=>oY st.2.1 hQ⟩
   ·rw[lo] at hi;have e2:t.place[i]?=Z (t.place.getD i 0):=by
     rw[Array.getElem?_eq_getElem (by omega)];simp[Array.getD,show i<t.place.size by omega]
    refine uf (x:=es[i].2) (nx:=t.place.getD i 0+1) st.2.1 st.2.2 hd hf (λA E Q q=>By hbf pl hled st.2.2 hd hf (bl i st.1) (by rw[Array.getElem?_eq_getElem hi,e2];exact q)) λh' k1 k2=>hQ _ h' s1.toks ?_ ⟨hi,?_,k2.extBut a o ne st.2.2⟩ λb o hb e=>k2.extBut b o (λz=>hb (by rw[z];exact mem_cons_self)) e
    ·rw[getElem?_map,Array.getElem?_toList,Array.getElem?_eq_getElem hi];rfl
    ·rw[if_neg (Nat.succ_ne_zero i)];exact k1
   ·rw[lo] at st;exact xo hh st.2.1 st.2.2 hd hf (λA E Q q=>By hbf pl hled st.2.2 hd hf (bl es.size st.1) (by rw[Array.getElem?_eq_none (Nat.le_refl _)];exact q)) λh' k=>hQ h' s1.toks λb o hb e=>k b o (λz=>hb (by rw[z];exact mem_cons_self)) e
end
section
variable {prog:Program}{w:World}{A:Around}{E:Value->Shared->Prop}{s:Shared}{a:Addr}{o:Obj}{U:List Int}
def yM {r:Addr}{Q:Bool->Shared->Prop}(hT:s.TypeIs (.ref r) "set")(h:Q false s):wpAny (model prog w) A (Builtin.List.listLengthHint (.ref r)) Q E s:=by
 unfold Builtin.List.listLengthHint;refine wpAny_bind (wpAny_specialOf hT PySem.F.slot_set_len.lookup ?_);generalize hid:("set.__len__":String)=id0
 wp_delta
 rw[show splitId id0=Z ("set","__len__") from by subst hid;decide +kernel];subst hid;refine wpAny_bind (wpAny_isInstance (T:="set") (b:=true) hT (by rw[isSubtype_type];kernel_rfl) ?_);refine wpAny_ite_split (λhab=>absurd hab (by decide)) (λ_=>?_);refine wpAny_ite_split (λ_=>?_) (λhab=>absurd (by decide +kernel) hab);refine wpAny_bind (wpAny_typeOf hT ?_);exact wpAny_pure h
def v7 {ord:List Value}{acc:Array Value}(h:ItemsOf (λi v=>ord[i]?=Z v) acc ord.length):acc.toList=ord:=by
 apply ext_getElem?;intro j;rw[Array.getElem?_toList]
 by_cases hj:j<acc.size
 ·rw[Array.getElem?_eq_getElem hj,h.2 j _ (Array.getElem?_eq_getElem hj)]
 ·rw[Array.getElem?_eq_none (by omega),getElem?_eq_none (by rw[<-h.1];omega)]
def tu {R:Result->Shared->Prop}(hh:A.handled=Y)(ho:s.heap.get? a=Z o)(hS:dS prog w o U)(hU:U.length<=sizeLine){S:Addr}(hSa:S≠a)(res:Value)(c₀:Nat)(hL:s.heap.get? S=Z {cls:=.type "list",data:=.seq #[] c₀})
  (hR:∀h' tk d acc' c',(∀b o,b≠S->s.heap.get? b=Z o->h'.get? b=Z o)->h'.get? S=Z {cls:=.type "list",dict:=Y,data:=.seq acc' c',slots:=#[]}->(acc'.toList.map numOf).Perm U->(∀v∈acc'.toList,∃n t,v=Value.int n t)->R (.ok (.ret res)) {s with heap:=h',toks:=tk,drawn:=d}) :
  wpAny (model prog w) A.in1 (Builtin.List.listExtendWith (.ref S) (.ref a) res)
   (λfin s'=>match fin with | .done f=>R (.ok f) s' | .again c'=>c'.quiet=true/\codeAny (model prog w) A c' R s') (λe s'=>R (.error e) s') s:=by
 have hSl:S<s.heap.objs.size:=Heap.lt_size hL;have al:a<s.heap.objs.size:=Heap.lt_size ho;unfold Builtin.List.listExtendWith;refine wpAny_bind (wpAny_typeOf (T:="set") (jm ho hS) ?_);have h1:Builtin.List.listSameRef (.ref S) (.ref a)=false:=by simp[Builtin.List.listSameRef,hSa]
 simp only[h1,show(Value.type "set"==Value.type "list")=false by decide,show(Value.type "set"==Value.type "tuple")=false by decide,Bool.or_false,Bool.false_eq_true,if_false];refine wpAny_bind (xF (A:=A.in1) hh ho hS λh2 d it ord fp St W=>?_);have hSf:S∉fp:=λz=>by
  rcases W.fps S z with q|q
  ·exact hSa q
  ·exact absurd hSl (Nat.not_lt.mpr q)
 have hn:ord.length<=sizeLine:=by rw[<-length_map numOf,W.perm.length_eq];exact hU
 have key:∀(h:Heap) (c₁ tk:Nat),St 0 h->(∀b o,b≠S->s.heap.get? b=Z o->h.get? b=Z o)->
   h.get? S=Z {cls:=.type "list",data:=.seq #[] c₁}->codeAny (model prog w) A (.builtin "list.extend.loop" ⟨[.ref S,.ref it,res],[]⟩) R {s with heap:=h,toks:=tk,drawn:=d}:=by
  intro h c₁ tk hst hk hS₁;refine codeAny_extend_loopS W.walks.toS hn S hSf res ord.length 0 _ #[] c₁ rfl (Nat.zero_le _) hst hS₁ (ItemsOf.nil _) λs' acc' c' hm hS' hacc=>?_
  rw[Moved.eq_with hm];have ea:=v7 hacc;refine hR s'.heap s'.toks d acc' c' (λb o hb e=>hm.heap b o (λhmem=>?_) (hk b o hb e)) hS' (by rw[ea];exact W.perm) (by rw[ea];exact W.num);rcases mem_cons.mp hmem with e'|hmem
  ·exact hb e'
  ·exact absurd (Heap.lt_size e) (by rw[mem_singleton.mp hmem];exact Nat.not_lt.mpr W.new)
 have hS₁:=W.keep _ _ hL;refine wpAny_bind (wpAny_holding (yM (s:={s with heap:=h2,drawn:=d}) (jm (W.keep _ _ ho) hS) ?_));refine wpAny_ite_split (λ_=>?_) (λ_=>wpAny_pure ⟨plainId_quiet PySem.F.plain_extend_loop _,key _ c₀ _ W.st (λb o _ e=>W.keep b o e) hS₁⟩);refine wpAny_bind (wpAny_rule ?_);refine wpAny_bind ?_;show wpAny _ _ (updateSeq S (·.push .none) >>= λ_=>updateSeq S (·.pop)) _ _ _;refine wpAny_bind (wpAny_updateSeq hS₁ rfl ?_);have hS₂:=Heap.get?_update_self (Obj.mapSeq (·.push Value.none)) hS₁ rfl;refine wpAny_updateSeq (hz:=by seq_fits) hS₂ rfl ?_;have hS₃:=Heap.get?_update_self (Obj.mapSeq (·.pop)) hS₂ rfl;refine wpAny_pure ⟨plainId_quiet PySem.F.plain_extend_loop _,key _ _ _ ?_ (λb o hb e=>?_) hS₃⟩
 ·refine W.walks.frame 0 _ _ W.st λb hb o e=>?_
  have hbS:b≠S:=λh=>hSf (h▸hb)
  exact(Heap.get?_update_other _ _ (Ne.symm hbS)).trans ((Heap.get?_update_other _ _ (Ne.symm hbS)).trans e)
 ·exact(Heap.get?_update_other _ _ (Ne.symm hb)).trans ((Heap.get?_update_other _ _ (Ne.symm hb)).trans (W.keep b o e))
def pS {R:List Value->Shared->Prop}(hh:A.handled=Y)(ho:s.heap.get? a=Z o)(hS:dS prog w o U)(hU:U.length<=sizeLine)
  (h:∀h' tk d ord,(ord.map numOf).Perm U->(∀v∈ord,∃n t,v=Value.int n t)->(∀b o,s.heap.get? b=Z o->h'.get? b=Z o)->s.heap.objs.size<=h'.objs.size->R ord {s with heap:=h',toks:=tk,drawn:=d}) :
  wpAny (model prog w) A (collect (.ref a)) R E s:=by
 unfold collect;refine wpAny_bind (wpAny_runValue (codeAny_builtin entry_proto_collect' ?_));rw[Around.under_plainId PySem.F.plain_proto_collect _];show wpAny _ A.in1 (newList [] >>= λl=>again (.builtin "list.__iadd__" ⟨[l,.ref a],[]⟩)) _ _ s;refine wpAny_bind (wpAny_newObj_type ?_);refine wpAny_pure ⟨plainId_quiet PySem.F.plain_list_iadd _,codeAny_builtin entry_list_iadd' ?_⟩;rw[Around.under_plainId PySem.F.plain_list_iadd _];have hS₁:(s.heap.push {cls:=.type "list",data:=.seq ([]:List Value).toArray}).get? s.heap.objs.size=Z {cls:=.type "list",data:=.seq #[]}:=Heap.get?_push_size _ rfl;show wpAny _ A.in1 (Builtin.List.listExtendWith (.ref s.heap.objs.size) (.ref a) (.ref s.heap.objs.size)) _ _ _;have key:=tu (A:=A) (s:={s with heap:=s.heap.push {cls:=.type "list",data:=.seq ([]:List Value).toArray}})
  (R:=λ(q:Result) (s':Shared)=>∃(h':Heap) (tk:Nat) (d:_) (acc':Array Value) (c':Nat),q=.ok (.ret (.ref s.heap.objs.size))/\s'={s with heap:=h',toks:=tk,drawn:=d}/\
   (∀b o,s.heap.get? b=Z o->h'.get? b=Z o)/\h'.get? s.heap.objs.size=Z {cls:=.type "list",dict:=Y,data:=.seq acc' c',slots:=#[]}/\(acc'.toList.map numOf).Perm U/\∀v∈acc'.toList,∃n t,v=Value.int n t)
  hh (Heap.get?_push_of_some _ ho) hS hU (S:=s.heap.objs.size) (Nat.ne_of_gt (Heap.lt_size ho)) (.ref s.heap.objs.size) 0 hS₁
  (λh' tk d acc' c' hk hS' hp hi=>⟨h',tk,d,acc',c',rfl,rfl,λb o e=>hk b o (Nat.ne_of_lt (Heap.lt_size e)) (Heap.get?_push_of_some _ e),hS',hp,hi⟩)
 refine wpAny_mono key (λfin s' x=>?_) λe s' x=>?_
 ·cases fin with
  | done f=>
   obtain⟨h',tk,d,acc',c',e,rfl,hk,hS',hp,hi⟩:=x;cases e;show wpAny _ A (load s.heap.objs.size >>= _) _ _ _;exact wpAny_bind (wpAny_load hS' (wpAny_pure (h h' tk d _ hp hi hk (Nat.le_of_lt (Heap.lt_size hS')))))
  | again c₁=>
   refine⟨x.1,codeAny_mono x.2 λq s₂ y=>?_⟩;obtain⟨h',tk,d,acc',c',rfl,rfl,hk,hS',hp,hi⟩:=y;show wpAny _ A (load s.heap.objs.size >>= _) _ _ _;exact wpAny_bind (wpAny_load hS' (wpAny_pure (h h' tk d _ hp hi hk (Nat.le_of_lt (Heap.lt_size hS')))))
 ·obtain⟨_,_,_,_,_,e',_⟩:=x;cases e'
theorem uP:∀{vs:List Value},(∀v∈vs,∃n t,v=Value.int n t)->IntsAre vs (vs.map numOf)
 | [],_=>.nil
 | v::vs,h=>by
  refine q2x1 (h v mem_cons_self) λn t zz2=>?_;subst zz2;exact .cons n t (uP λu hu=>h u (mem_cons_of_mem _ hu))
def sI {a b:List Int}(h:a.Perm b):aO a=aO b:=by
 unfold aO;rw[dL ((aL _).trans ((h.map λn=>[n]).trans (aL _).symm)) (dR _) (dR _)]
def rL {Q:Value->Shared->Prop}(hh:A.handled=Y)(ho:s.heap.get? a=Z o)(hS:dS prog w o U)(hU:U.length<=100000)
  (h:∀h' tk d l n' out,(∀b o,s.heap.get? b=Z o->h'.get? b=Z o)->s.heap.objs.size<=l->IntsAre out (aO U)->h'.get? l=Z (seqObj "list" (List.toArray out) n')->Q (.ref l) {s with heap:=h',toks:=tk,drawn:=d}) :
  wpAny (model prog w) A (call (.builtin "sorted") [.ref a]) Q E s:=by
 refine Calls.call_function_entry kind_sorted plain_sorted entry_sorted (args_sorted1 _) ?_;unfold Builtin.«sorted»;refine wpAny_bind (m:=checkCount "sorted" 1 1 _) (wpAny_pure ?_);refine wpAny_bind (pS (A:=A.in1) hh ho hS (by rw[sizeLine_eq];omega) λh1 tk d vs hp hi keep1 hs1=>?_);have lv:vs.length=U.length:=by rw[<-hp.length_eq,length_map]
 refine wpAny_bind (wpAny_newList ?_ (by rw[sizeLine_eq];omega));have hoL:(h1.push (seqObj "list" vs.toArray 0)).get? h1.objs.size=Z (seqObj "list" vs.toArray 0):=Heap.get?_push_size _ rfl;have ne:∀b o,s.heap.get? b=Z o->b≠h1.objs.size:=λb o e=>Nat.ne_of_lt (Heap.lt_size (keep1 b o e))
 have ia:=uP hi;have ez:vs.map (j8 h1)=(vs.map numOf).map λn=>[n]:=by
  rw[map_map];refine map_congr_left λv hv=>?_
  refine q2x1 (hi v hv) λn t zz2=>?_;subst zz2;rfl
 refine wpAny_bind (wpAny_holding (wpAny_call_entry slot_list_sort ⟨_,hoL,rfl⟩ entry_list_sort (i7 (s:={s with heap:=h1.push (seqObj "list" vs.toArray 0),toks:=tk,drawn:=d}) (zs:=(vs.map numOf).map λn=>[n]) (κ:=oneType') (j8 h1) hoL ez (by omega) (λh2 Q q=>?_) (λx hx y hy C q=>?_) λp h3 n3 p1 p2 k3 g3=>⟨_,rfl,?_⟩) (args_list_sort _)))
 ·refine kas_kind (T:=.type "int") h2 (λv hv=>?_) rfl rfl q;refine q2x1 (hi v hv) λm tk zz2=>?_;subst zz2;exact .now
 ·refine q2x1 (hi x hx) λm tk zz2=>?_;subst zz2;refine q2x1 (hi y hy) λm2 tk2 zz2=>?_;subst zz2;have e:HT.lexLt (j8 h1 (.int m tk)) (j8 h1 (.int m2 tk2))=decide (m<m2):=by
   show HT.lexLt [m] [m2]=_;rw[HT.lexLt_cons]
   by_cases z:m=m2
   ·rw[if_pos z,decide_eq_false (by omega)];rfl
   ·rw[if_neg z]
  rw[e] at q;rw[keyLt'_oneType];exact oneLt_int q
 ·have p1':p.Perm (List.range (vs.map numOf).length):=by rw[length_map];exact p1
  refine wpAny_pure ⟨_,rfl,h h3 tk d h1.objs.size n3 _ (λb o e=>k3 b o (ne b o e) (Heap.get?_push_of_some _ (keep1 b o e))) hs1 ?_ g3⟩;rw[<-sI hp,<-gX p1' p2];have go:∀l:List Nat,(∀i∈l,i<(vs.map numOf).length)->IntsAre (l.map λi=>vs.getD i Value.none) (l.map λi=>(vs.map numOf).getD i 0):=λl=>by
   induction l with
   | nil=>intro _;exact .nil
   | cons i l ih=>
    intro hl;refine q1x1 ((show∃t,vs.getD i Value.none=.int ((vs.map numOf).getD i 0) t from iC ia i (hl i mem_cons_self))) λt e=>?_;rw[map_cons,map_cons,e];exact .cons _ t (ih λj hj=>hl j (mem_cons_of_mem _ hj))
  exact go p λi hi=>mem_range.mp (p1'.subset hi)
end
def dg (t:jP)(n:Nat)(sg:GG)(ge:GE):List D->bv->aw->List Int->aN (List Int)
 | [],_,M,U=>if t.ok M then .ok U M else .bad
 | d::r,ρ,M,U=>if t.ok M then
   match sg d (List.replicate n Y++ρ) with
   | none=>.bad
   | some ρ1=>match ge ρ1 M with
    | .ok (.int k) M1=>if U.length+1<4096 then dg t n sg ge r ρ M1 (km U k) else .bad
    | _=>.bad
  else .bad
theorem nT {t:jP}{n:Nat}{sg:GG}{ge:GE}{ρ:bv}{c:Str}{M':aw}:∀(ds:List D) (M:aw) (U:List Int),dg t n sg ge ds ρ M U=.err c M'->False
 | [],M,U,h=>by
  unfold dg at h;split at h <;> cases h
 | d::r,M,U,h=>by
  unfold dg at h;split at h
  ·split at h
   ·cases h
   ·split at h
    ·split at h
     ·exact nT r _ _ h
     ·cases h
    ·cases h
  ·cases h
section
variable {prog:Program}{w:World}{A:Around}{R:Result->Shared->Prop}{s:Shared}
theorem vG (elt target iter:Expr)(scope:Scope)(pos:Pos)(it acc:Value)(env:Env) :
  compTurn (.SetComp elt [⟨target,iter,[],0⟩] scope pos) 0 it acc env=(standAt iter.pos >>= λ_=>pyNext it >>= λr=>match r with
   | none=>pure (.done .next)
   | some x=>letOwnedTupleGo target it x >>= λ_=>assign target env x >>= λ_=>
    ((eval elt env >>= λv=>standAt elt.pos >>= λ_=>call (.builtin "set.add") [acc,v] >>= λ_=>pure ()) >>= λ_=>
     again (.compLoop (.SetComp elt [⟨target,iter,[],0⟩] scope pos) 0 it acc env))):=rfl
theorem jd {elt target iter:Expr}{scope:Scope}{pos:Pos}{it acc:Value}{env:Env}(I:Nat->Shared->Prop)
  (turn:∀n s,I n s->wpAny (model prog w) A (pyNext it) (λr s₁=>match r with
   | none=>R (.ok .next) s₁
   | some x=>wpAny (model prog w) A (letOwnedTupleGo target it x) (λ_ s₂=>wpAny (model prog w) A (assign target env x) (λ_ s₃=>wpAny (model prog w) A (eval elt env) (λv s₄=>
     wpAny (model prog w) A (call (.builtin "set.add") [acc,v]) (λ_ s₆=>∃m,m<n/\I m s₆) (λ_ _=>False) s₄)
     (λ_ _=>False) s₃) (λ_ _=>False) s₂) (λ_ _=>False) s₁) (λ_ _=>False) s)
  (n:Nat) (h:I n s):codeAny (model prog w) A (.compLoop (.SetComp elt [⟨target,iter,[],0⟩] scope pos) 0 it acc env) R s:=by
 refine codeAny_loop rfl I (λn s hI=>?_) n h;show wpAny _ _ ((compTurn (.SetComp elt [⟨target,iter,[],0⟩] scope pos) 0 it acc env).onRaise (λx=>do noteFrame x env;theTreesLotGoes x)) _ _ s;refine wpAny_noted ?_;rw[vG];refine wpAny_bind (wpAny_standAt (wpAny_bind (wpAny_mono (turn n s hI) (λr s₁ h₁=>?_) λ_ _ z=>z.elim)));cases r with
 | none=>exact wpAny_pure h₁
 | some x=>
  refine wpAny_bind (wpAny_mono h₁ (λ_ s₂ h₂=>?_) λ_ _ z=>z.elim);refine wpAny_bind (wpAny_mono h₂ (λ_ s₃ h₃=>?_) λ_ _ z=>z.elim);refine wpAny_bind (wpAny_bind (wpAny_mono h₃ (λv s₄ h₄=>?_) λ_ _ z=>z.elim));exact wpAny_bind (wpAny_standAt (wpAny_bind (wpAny_mono h₄ (λ_ s₆ h₆=>wpAny_pure (wpAny_pure ⟨rfl,h₆⟩)) λ_ _ z=>z.elim)))
def iQ {elt target iter:Expr}{scope:Scope}{pos:Pos}{it acc:Value}{env:Env}
  (h0:codeAny (model prog w) A (.compLoop (.SetComp elt [⟨target,iter,[],0⟩] scope pos) 0 it acc env) R s)
  (h:wpAny (model prog w) A (pyIter it) (λit' s'=>codeAny (model prog w) A (.compLoop (.SetComp elt [⟨target,iter,[],0⟩] scope pos) 0 it' acc env) R s')
   (notedBy (model prog w) A env λx s'=>R (.error x) s') s) :
  codeAny (model prog w) A (.compStart (.SetComp elt [⟨target,iter,[],0⟩] scope pos) 0 it acc env) R s:=by
 refine codeAny_of_tree ?_;show wpAny _ _ ((compStart (.SetComp elt [⟨target,iter,[],0⟩] scope pos) 0 it acc env).onRaise (λx=>do noteFrame x env;standAt theWindowsPlace)) _ _ s;refine wpAny_notedAt ?_;unfold compStart;show wpAny _ _ (ask >>= _) _ _ s;refine wpAny_bind (wpAny_askSetting (wpAny_ite ?_));split
 ·first
   | exact wpAny_bind (wpAny_pure (wpAny_pure (And.intro rfl h0)))
   | exact wpAny_pure (And.intro rfl h0)
 ·first
   | exact wpAny_bind (wpAny_rule (wpAny_bind (wpAny_standAt (wpAny_bind (wpAny_mono h (λit' s' h'=>wpAny_pure (And.intro rfl h')) λ_ _ x=>x)))))
   | exact wpAny_rule (wpAny_bind (wpAny_standAt (wpAny_bind (wpAny_mono h (λit' s' h'=>wpAny_pure (And.intro rfl h')) λ_ _ x=>x))))
end
def nA (a:Addr)(o:Obj):HO:=.ext λh=>h.get? a=Z o
section
variable {X:Cx}{aa:List (Addr×Obj)}{σ:L2.St}{s:Shared}{scope:Scope}{xs:List Str}{tg:Expr}{sg:GG}{R:List Str}{elt iter:Expr}{pos:Pos}{E:Value->Shared->Prop}
inductive Jp (X0:Cx) (fp:List Addr) (tn:Nat->Heap->Prop) (K:W.Frag) (acc:Addr) (t:jP) (ρ0:bv) (θ1:List Addr) (H2:Hp) (go:List D->aw->List Int->aN (List Int)) (Ue:List Int) (Mend:aw) (n:Nat) (s':Shared):Prop
 | mk (i:Nat) (τ:L2.St) (H':Hp) (θ':List Addr) (M':aw) (U:List Int) (ob:Obj) (e1:n=t.ds.length-i) (e2:i<=t.ds.length)
   (e3:L2.Inv X0 [(acc,ob)] τ H' s') (e4:gq K θ' H' τ ρ0) (e5:tn i s'.heap) (e6:∀b∈fp,H' b=Y) (e7:Go K θ1 H2 θ' H' M') (e8:dS X0.prog X0.w ob U) (e10:go (t.ds.drop i) M' U=.ok Ue Mend)
def qG {fp:List Addr}{it:Addr}{tn:Nat->Heap->Prop}{J:It}{H2:Hp}{s2:Shared}{t:jP}{M1:aw}{θ1:List Addr}{ρ:bv}{ge:GE}{Ue:List Int}{Mend:aw}{RR:Value->Env->Result->Shared->Prop}
  (S:bj scope X.env.kindOf xs R X.N) (hc:X.calm=true) (I2:L2.Inv X aa σ H2 s2) (T:vA X.prog X.w X.K tg J fp it tn) (st2:tn 0 s2.heap) (f2:∀b∈fp,fV X aa H2 b)
  (hw1:Wr X.K θ1 H2 M1) (hd1:gq X.K θ1 H2 σ ρ) (hJ:xW X.K J θ1 H2 t) (hgo:dg t xs.length sg ge t.ds ρ M1 []=.ok Ue Mend)
  (own:ot xs.length sg) (hg:∀C,PG (ak X scope xs R fp s2 H2 C) tg (tG (ak X scope xs R fp s2 H2 C) sg))
  (he:∀C,PE (ak X scope xs R fp s2 H2 C) elt (tE (ak X scope xs R fp s2 H2 C) ge))
  (fin:∀(acc:Addr) (ce:Env) (s':Shared) (H':Hp) (θ':List Addr) (ob:Obj) (m:Str->Option Value),L2.Inv X aa σ (bu H' acc (nA acc ob)) s'->s'.heap.Ns ce.locals m->fV X aa (bu H' acc (nA acc ob)) ce.locals->Go X.K θ1 H2 θ' H' Mend->H' acc=Y->dS X.prog X.w ob Ue->RR (.ref acc) ce (.ok .next) s') :
  wpAny (model X.prog X.w) X.A (newSet (.type "set")) (λacc s₃=>wpAny (model X.prog X.w) X.A (newFunctionEnv scope X.env.globals (cA X.env.cells scope.names []) [] X.env.qual Y .none (Z X.env)) (λcenv s₄=>
   codeAny (model X.prog X.w) X.A (.compStart (.SetComp elt [⟨tg,iter,[],0⟩] scope pos) 0 (.ref it) acc {cenv with scope:=relabel scope X.env}) (RR acc {cenv with scope:=relabel scope X.env}) s₄) E s₃) E s2:=by
 refine Bd λob0 hob0=>wpAny_newFunctionEnv S.nocell (by intro y hy;simp at hy) (λh₁ hns₁ hsb₁=>?_) S.kind
 dsimp only at hns₁ hsb₁ ⊢;have nocell:∀{ob:Obj} {U:List Int},dS X.prog X.w ob U->∀v,ob.data≠.cell v:=λh v z=>by
  refine q3x3 h λ_ _ _ _ hd _=>?_;rw[hd] at z;cases z
 have alive:ob0.isFreed=false:=by
  refine q3x3 hob0 λ_ _ _ _ hd _=>?_;obtain⟨c,d,dt,sl⟩:=ob0;cases dt with
  | freed=>cases hd
  | _=>rfl
 generalize hHp:s2.heap.push ob0=Hp2 at hns₁ hsb₁ ⊢;have hCe:Hp2.objs.size=s2.heap.objs.size+1:=by rw[<-hHp,Heap.size_push]
 generalize hCd:Hp2.objs.size=C at hns₁ hsb₁ hCe ⊢;generalize hAd:s2.heap.objs.size=acc at hCe ⊢;have hDC:acc≠C:=by rw[hCe];exact Nat.ne_of_lt (Nat.lt_succ_self _)
 have old:∀b o,s2.heap.get? b=Z o->h₁.get? b=Z o:=λb o e=>by
  have hb:b<acc:=by rw[<-hAd];exact Heap.lt_size e
  refine hsb₁.extBut b o (uE hb hCe) (Heap.get?_push_of_some _ ?_);rw[<-hHp];exact Heap.get?_push_of_some _ e
 have hacc0:h₁.get? acc=Z ob0:=by
  refine hsb₁.extBut acc _ hDC (Heap.get?_push_of_some _ ?_);rw[<-hHp,<-hAd];exact Heap.get?_push_size _ alive
 have hfl:∀b∈fp,b<s2.heap.objs.size:=λb hb=>by
  refine q1x2 (T.obj 0 _ st2 b hb) λo e _=>?_;exact Heap.lt_size e
 have hCs:s2.heap.objs.size<=C:=by omega
 have IY0:L2.Inv (ak X scope xs R fp s2 H2 C) [] (List.replicate xs.length Y++σ) H2 {s2 with heap:=h₁,toks:=s2.toks+([]:List (Str×Value)).length}:=pR S I2 hCs old hns₁ f2 hfl;have fpY:∀{H':Hp} {p:Obj},(∀b∈fp,H' b=Y)->∀b∈fp,fV (ak X scope xs R fp s2 H2 C) [(acc,p)] H' b:=λ{H' p} hn b hb=>by
  refine⟨hn b hb,?_,λz=>?_,.inl hb,λy c e=>?_,λq hq=>?_⟩
  ·exact Nat.ne_of_lt (Nat.lt_of_lt_of_le (hfl b hb) hCs)
  ·rcases mem_cons.mp (I2.stkSub b z) with e|e
   ·exact(f2 b hb).2.1 e
   ·exact(f2 b hb).2.2.1 e
  ·exact(f2 b hb).2.2.2.2.1 y c (bA S I2 e)
  ·have hq:q∈([]:List (Addr×Obj))++[(acc,p)]:=hq;have e:q=(acc,p):=by simpa using hq
   rw[e];exact oX (hfl b hb) hAd
 have accF:∀b∈kG X.stack,acc≠b:=λb hb e=>by
  have:acc∉X.env.locals::X.fs:=by
   intro z;rcases mem_cons.mp z with z|z
   ·exact oX I2.lt hAd z
   ·exact I2.nofs (Nat.le_of_eq hAd) z
  exact this (e▸I2.stkSub b hb)
 have loop:∀s₃:Shared,s₃={s2 with heap:=h₁,toks:=s2.toks+([]:List (Str×Value)).length}->
   codeAny (model X.prog X.w) X.A (.compLoop (.SetComp elt [⟨tg,iter,[],0⟩] scope pos) 0 (.ref it) (.ref acc) (ak X scope xs R fp s2 H2 C).env) (RR (.ref acc) (ak X scope xs R fp s2 H2 C).env) s₃:=by
  rintro s₃ rfl;have pin0:∀{σ':L2.St} {H':Hp} {s':Shared} {ob:Obj} {U:List Int},L2.Inv (ak X scope xs R fp s2 H2 C) [] σ' H' s'->s'.heap.get? acc=Z ob->dS X.prog X.w ob U->H' acc=Y->L2.Inv (ak X scope xs R fp s2 H2 C) [(acc,ob)] σ' H' s':=λ{σ' H' s' ob U} I' e hS hn=>
   I'.pins_of λp hp=>by
    have ep:p=(acc,ob):=by simpa using hp
    subst ep;exact⟨e,hn,hDC,λz=>accF acc z rfl,nocell hS⟩
  refine jd (Jp (ak X scope xs R fp s2 H2 C) fp tn X.K acc t (List.replicate xs.length Y++ρ) θ1 H2 (λl N U=>dg t xs.length sg ge l ρ N U) Ue Mend) ?_ t.ds.length
   ⟨0,_,H2,θ1,M1,[],ob0,rfl,Nat.zero_le _,pin0 IY0 hacc0 hob0 (I2.hok.fresh (Nat.le_of_eq hAd)),ud hd1,T.keep 0 _ _ st2 (λb hb o e=>old b o e),λb hb=>(f2 b hb).1,.refl hw1,hob0,hgo⟩
  rintro n s' ⟨i,τ,H',θ',M',U,ob,rfl,hil,I',dn',st',fr',g',hS',hrest⟩;have hok:t.ok M'=true:=by
   cases hq:t.ok M' with
   | true=>rfl
   | false=>
    exfalso;cases hdr:t.ds.drop i with
    | nil=>rw[hdr,dg,if_neg (by rw[hq];exact Bool.false_ne_true)] at hrest;cases hrest
    | cons d r=>rw[hdr,dg,if_neg (by rw[hq];exact Bool.false_ne_true)] at hrest;cases hrest
  refine q0x2 (hJ θ' H' M' g' hok i) λhy hst=>?_
  by_cases hlt:i<t.ds.length
  ·have e1:t.ds[i]?=Z t.ds[i]:=getElem?_eq_getElem hlt;refine q0x2 (hy _ e1) λhgo' hyl=>?_;rw[drop_eq_getElem_cons hlt,dg,if_pos hok] at hrest;refine bM (T.item (ak X scope xs R fp s2 H2 C) rfl rfl rfl hc i _ s' _ H' _ I' (fpY fr') st' hgo') λr s4 hxx=>?_
   refine q1x2 hxx λu hr h4=>?_;subst hr;refine bM h4 λ_ s5 hxx=>?_
   refine q2x5 hxx λv H5 I5 r5 y5 st5 fr5=>?_;refine q0x2 (hyl v H5 y5) λgy rx=>?_;have I5':=I5.pinned (fpY fr5) (T.obj _ _ st5);cases qs:sg t.ds[i] (List.replicate xs.length Y++ρ) with
   | none=>rw[qs] at hrest;cases hrest
   | some ρ1=>
   rw[qs] at hrest;dsimp only at hrest;refine bM (hg C _ s5 _ H5 v u (λσ6 H6=>gq X.K θ' H6 σ6 ρ1/\H6=H5) I5' r5 ⟨_,θ',M',t.ds[i],dn'.go gy,gy.wr,rx,ρ1,qs,λσ6 d6=>⟨d6,rfl⟩⟩) λ_ s6 hxx=>?_
   refine q2x3 hxx λσ6 H6 I6 hdY eH6=>?_;subst eH6;have fpk:∀{s8:Shared} {σ8:L2.St} {H8:Hp},L2.Inv (ak X scope xs R fp s2 H2 C) ([(acc,ob)]++jK fp s5.heap) σ8 H8 s8->(∀b∈fp,H8 b=Y)/\(∀b∈fp,∀o,s5.heap.get? b=Z o->s8.heap.get? b=Z o)/\s8.heap.get? acc=Z ob/\H8 acc=Y:=λ{s8 σ8 H8} I8=>by
    have pa:=I8.pin (acc,ob) (mem_append_right _ (mem_append_left _ (by simp)));refine⟨λb hb=>?_,λb hb o e=>(I8.pin (b,o) (mem_append_right _ (mem_append_right _ (dJ hb e)))).1,pa.1,pa.2.1⟩;refine q1x2 (T.obj _ _ st5 b hb) λo e d=>?_;exact(I8.pin (b,o) (mem_append_right _ (mem_append_right _ (dJ hb e)))).2.1
   cases qe:ge ρ1 M' with
   | bad=>rw[qe] at hrest;cases hrest
   | err c Mx=>rw[qe] at hrest;cases hrest
   | ok dv Mv=>
    rw[qe] at hrest;cases dv with
    | int k=>
     dsimp only at hrest
     by_cases hl:U.length+1<4096
     ·rw[if_pos hl] at hrest;refine bM (he C _ s6 _ H6 (λw H8=>∃θ8,Go X.K θ' H6 θ8 H8 Mv/\isD X.K θ8 H8 (.int k) w) I6 ⟨_,θ',M',hdY,gy.wr,?_⟩) λuv s8 ⟨w,H8,I8,rw8,θ8,g8,rd8⟩=>?_
      ·rw[qe];exact λw θ8 H8 g8 rd8=>⟨θ8,g8,rd8⟩
      refine q0x4 (fpk I8) λk1 k2 k3 k4=>?_;have rd8:w=.int k:=rd8;subst rd8;refine q1x1 ((show∃tk,uv=Value.int k tk from rw8)) λtk e8=>?_;subst e8;refine AA k3 hS' hl λh' o' sb ho' hS2=>?_
      have keepb:∀b o,b≠acc->s8.heap.get? b=Z o->h'.get? b=Z o:=λb o hb e=>sb.extBut b o hb e
      have I9:L2.Inv (ak X scope xs R fp s2 H2 C) [] σ6 H8 {s8 with heap:=h',toks:=s8.toks+1}:=by
       refine Inv.turned (it:=acc) (I8.pins_of (pins':=[]) λp hp=>absurd hp (by simp)) keepb k4 hDC (.inr (Nat.le_of_eq hAd)) (λy c e z=>?_) λp hp=>absurd (show p∈([]:List (Addr×Obj)) from hp) (by simp)
       refine q2x2 (I2.cell y c (bA S I2 e)) λv' o ho hdd=>?_;exact iw (Heap.lt_size ho) hAd z
      exact⟨t.ds.length-(i+1),by omega,i+1,σ6,H8,θ8,Mv,_,o',rfl,hlt,pin0 I9 ho' hS2 k4,own.back qs (hdY.go g8),T.keep _ _ _ st5 (λb hb o e=>keepb b o (iw (hfl b hb) hAd) (k2 b hb o e)),k1,g'.trans (gy.trans g8),hS2,hrest⟩
     ·rw[if_neg hl] at hrest;cases hrest
    | _=>cases hrest
  ·have e:i=t.ds.length:=by omega
   subst e;rw[drop_length,dg,if_pos hok] at hrest;cases hrest;refine bM (T.done (ak X scope xs R fp s2 H2 C) rfl rfl rfl hc _ _ s' _ H' _ I' (fpY fr') st' (hst (Nat.le_refl _))) λr s4 hxx=>?_
   refine q0x2 hxx λhr I4=>?_;subst hr;have pa:=I4.pin (acc,ob) (mem_append_right _ (by simp));have e4:s4.heap.get? acc=Z ob:=pa.1;have n4:H' acc=Y:=pa.2.1;refine q1x2 I4.loc λmC hnC _=>?_;have hHC:H' C=Y:=I4.free;have o8:Un (kG X.stack) fp H2 H' s2.heap s4.heap:=I4.base;have neA:∀{b:Addr} {o:Obj},s2.heap.get? b=Z o->b≠acc:=λ{b o} e=>iw (Heap.lt_size e) hAd
   have neH:∀{b:Addr} {u:HO},H' b=Z u->b≠acc:=λ{b u} e z=>by rw[z,n4] at e;cases e
   have un4:Un (kG X.stack) fp H2 (bu H' acc (nA acc ob)) s2.heap s4.heap:=by
    refine⟨o8.keep,o8.slot,λb o e n hx=>?_,o8.there,λb xs e=>?_,λb o u e=>?_,λb ps e=>?_⟩
    ·rw[aj (neA e)];exact o8.free b o e n hx
    ·have z:=o8.tups b xs e;rw[aj (neH z)];exact z
    ·have z:=o8.frzs b o u e;rw[aj (neH z)];exact z
    ·refine q1x1 (o8.tbls b ps e) λmore z=>?_;exact⟨more,by rw[aj (neH z)];exact z⟩
   have hok4:hO X.prog X.w (bu H' acc (nA acc ob)) s4.heap:=λb u e=>by
    by_cases hb:b=acc
    ·subst hb;rw[aX] at e;cases e;exact oz e4 ⟨_,e4⟩ λh1 h2 e k=>k _ e
    ·rw[aj hb] at e;exact(I4.hok b u e).stay (λc v _ q=>q) (λc q=>by rw[aj (neH q)];exact q) λc xs q=>by rw[aj (neH q)];exact q
   have IX:L2.Inv X aa σ (bu H' acc (nA acc ob)) s4:=I2.call' (ch:=fp) I4.os un4 hok4 I4.bare λb hb=>⟨(f2 b hb).2.2.2.1,(f2 b hb).2.1,(f2 b hb).2.2.2.2.1,(f2 b hb).2.2.2.2.2⟩
   refine fin acc (ak X scope xs R fp s2 H2 C).env s4 H' θ' ob mC IX hnC (I2.fpOk hCs ?_) g' n4 hS';show bu H' acc (nA acc ob) C=Y;rw[aj (Ne.symm hDC)];exact hHC
 exact iQ (loop _ rfl) (T.self _ 0 _ _ _ (T.keep 0 _ _ st2 λb hb o e=>old b o e) (loop _ rfl))
end
def gW (gi:GI)(ge:GE):GE:=λρ M=>(gi ρ M).bind λt M1=>(dg t 1 (bP 0) ge t.ds ρ M1 []).bind λU M2=>if U.length<=4096 then .ok (.lst ((aO U).map D.int)) M2 else .bad
def DY (X:Cx)(θ:List Addr)(H:Hp)(Q:VK):aN (List Int)->Prop
 | .ok U M'=>∀acc ob θ' H',Go X.K θ H θ' H' M'->H' acc=Y->dS X.prog X.w ob U->Q (.ref acc) (bu H' acc (nA acc ob))
 | .err c M'=>cH X θ H c M'
 | .bad=>False
def HZ (X:Cx)(gi:GI)(ge:GE):TE:=λσ H Q=>∃ρ θ M,gq X.K θ H σ ρ/\Wr X.K θ H M/\DY X θ H Q ((gi ρ M).bind λt M1=>dg t 1 (bP 0) ge t.ds ρ M1 [])
section
variable {X:Cx}{scope:Scope}{x:Str}{px:Pos}{R:List Str}{elt iter:Expr}{pos:Pos}{gi:GI}{ge:GE}
def Dk (hS:bE scope X.env.kindOf [x] R X.N=true)(hc:X.calm=true)(hi:PI X (.Name x px) iter (tI X gi))(he:∀fp s H C,PE (ak X scope [x] R fp s H C) elt (tE (ak X scope [x] R fp s H C) ge))
  (hs:∀x,foldedSetIterable iter X.env x=pure x:=by intro _;rfl):PE X (.SetComp elt [⟨.Name x px,iter,[],0⟩] scope pos) (HZ X gi ge):=by
 have S:=bj.of hS;intro aa s σ H Q I h;refine q3x3 h λρ θ M hd hw h=>?_;show wpAny _ X.A (comprehension (.SetComp elt [⟨.Name x px,iter,[],0⟩] scope pos) scope X.env _ (newSet (.type "set")) false (eval iter X.env)) _ _ s;refine rK (use:=Y) rfl hs (gM (S.cells I)) S.kind S.lnames ?_;refine bM (hi aa s σ H (λJ H2=>∃t M1 θ1,gi ρ M=.ok t M1/\Go X.K θ H θ1 H2 M1/\xW X.K J θ1 H2 t) I ⟨ρ,θ,M,hd,hw,?_⟩) λv s1 h1=>bM h1 λitv s2 h2=>?_
 ·cases q:gi ρ M with
  | ok t M1=>exact λJ θ1 H1 g1 hJ=>⟨t,M1,θ1,rfl,g1,hJ⟩
  | err c M1=>rw[q] at h;exact h
  | bad=>rw[q] at h;exact h
 obtain⟨it,fp,tn,J,H2,rfl,I2,T,st2,f2,t,M1,θ1,eg,g1,hJ⟩:=h2;rw[eg] at h;have h:DY X θ H Q (dg t 1 (bP 0) ge t.ds ρ M1 []):=h;cases q:dg t 1 (bP 0) ge t.ds ρ M1 [] with
 | bad=>rw[q] at h;exact h.elim
 | err c Mx=>exact(nT _ _ _ q).elim
 | ok U Mend=>
  rw[q] at h;refine qG (xs:=[x]) (RR:=λacc ce=>BG (model X.prog X.w) X.A X.xe Y (EP X aa σ Q) acc ce) S hc I2 T st2 f2 g1.wr (hd.go g1) hJ q (oD (Nat.zero_lt_one)) (λC=>pI hS fp s2 H2 C) (λC=>he fp s2 H2 C) ?_;intro acc ce s' H' θ' ob m IX hnC fC g' na hS';refine⟨m,hnC,λh' sb=>?_⟩;have I3:L2.Inv X aa σ (bu H' acc (nA acc ob)) {s' with heap:=h',toks:=s'.toks}:=IX.turned (it:=ce.locals) (λb o hb e=>(sb.2 b hb).trans e) fC.1 fC.2.1 fC.2.2.2.1 fC.2.2.2.2.1 fC.2.2.2.2.2;exact⟨.ref acc,_,I3,rfl,h acc ob θ' H' (g1.trans g') na hS'⟩
def Ia (X:Cx):List V->Hp->VK->Prop:=λxs H Q=>∃acc ob U θ M,xs=[.ref acc]/\H acc=Z (nA acc ob)/\dS X.prog X.w ob U/\U.length<=4096/\Wr X.K θ H M/\aC X θ H Q (.ok (.lst ((aO U).map D.int)) M)
def yy (hc:X.calm=true):cG X (.builtin "sorted") (Ia X):=by
 intro aa s σ H xs us Q I rv h;obtain⟨acc,ob,U,θ,M,rfl,ha,hS,hl,hw,h⟩:=h;obtain⟨u,rfl,ru⟩:=iI rv;have ru:u=.ref acc:=ru;subst ru;have ho:s.heap.get? acc=Z ob:=(I.hok acc _ ha).1;refine rL (I.ok.hd hc) ho hS (by omega) λh' tk d l n' out keep hz hi hg=>?_
 have I':L2.Inv X aa σ H {s with drawn:=d}:=⟨I.ok,I.os,I.bare,I.base,I.loc,I.cell,I.free,I.freeC,I.pin,I.hok,I.len⟩;have le:(aO U).length<=4096:=by
  have e:(aO U).length=U.length:=by
   unfold aO;rw[length_map,(aL _).length_eq,length_map]
  omega
 have vl:aJ ((aO U).map V.int) out:=by
  generalize aO U=ns at hi;clear le h hg
  induction hi with
  | nil=>exact .nil
  | cons n t _ ih=>exact .cons ⟨t,rfl⟩ ih
 exact fc (s:={s with drawn:=d}) (vs:=(aO U).map V.int) I' hw keep hz hg vl (by rw[length_map,sizeLine_eq];omega) (fM _) h
def wX {p cpos:Pos}(hS:bE scope X.env.kindOf [x] R X.N=true)(hc:X.calm=true)(hg:Gl X "sorted")(hm:X.mg "sorted"=Y)(hv:bootBuiltins "sorted"=Z (.builtin "sorted"))(hi:PI X (.Name x px) iter (tI X gi))(he:∀fp s H C,PE (ak X scope [x] R fp s H C) elt (tE (ak X scope [x] R fp s H C) ge))
  (hs:∀x,foldedSetIterable iter X.env x=pure x:=by intro _;rfl):PE X (.Call (.Name "sorted" p) [.SetComp elt [⟨.Name x px,iter,[],0⟩] scope pos] [] cpos) (tE X (gW gi ge)):=by
 refine(mS (yy hc) hg hm hv (fB (Dk hS hc hi he hs) iS (by rw[sE rfl]))).of λσ H Q h=>?_
 refine q3x3 h λρ θ M hd hw h=>?_;refine⟨ρ,θ,M,hd,hw,?_⟩;unfold gW at h;cases q:gi ρ M with
 | bad=>rw[q] at h;exact h
 | err c M1=>rw[q] at h;exact h
 | ok t M1=>
  rw[q] at h;have h:aC X θ H Q ((dg t 1 (bP 0) ge t.ds ρ M1 []).bind λU M2=>if U.length<=4096 then .ok (.lst ((aO U).map D.int)) M2 else .bad):=h;show DY X θ H _ (dg t 1 (bP 0) ge t.ds ρ M1 []);cases q2:dg t 1 (bP 0) ge t.ds ρ M1 [] with
  | bad=>rw[q2] at h;exact h
  | err c M2=>rw[q2] at h;exact h
  | ok U M2=>
   rw[q2] at h;have h:aC X θ H Q (if U.length<=4096 then .ok (.lst ((aO U).map D.int)) M2 else .bad):=h
   by_cases hl:U.length<=4096
   ·rw[if_pos hl] at h;intro acc ob θ' H' g na hS';have g2:Go X.K θ' H' θ' (bu H' acc (nA acc ob)) M2:=cJ g.wr na;exact⟨acc,ob,U,θ',M2,rfl,aX,hS',hl,g2.wr,aC.go (g.trans g2) h⟩
   ·rw[if_neg hl] at h;exact h.elim
def u9 {p cpos:Pos}(hS:bE scope X.env.kindOf [x] X.N X.N=true)(hm:X.mg "sorted"=Y)(hv:bootBuiltins "sorted"=Z (.builtin "sorted"))(hi:QI X (.Name x px) iter gi)(he:∀fp s H C,QE (ak X scope [x] X.N fp s H C) elt ge)
  (hg:Gl X "sorted":=by rfl) (hc:X.calm=true:=by rfl) (hs:∀x,foldedSetIterable iter X.env x=pure x:=by intro _;rfl):QE X (.Call (.Name "sorted" p) [.SetComp elt [⟨.Name x px,iter,[],0⟩] scope pos] [] cpos) (gW gi ge):=⟨wX hS hc hg hm hv hi.h (λfp s H C=>(he fp s H C).h) hs⟩
end
end DL
namespace Hd
open PySem PySem.W PySem.Calls PyProof.Rows
def topRunT (tb:String->Option Builtin)(p:Program)(w:World)(n0:Nat)(ann:Option Value):Nat->SharedT->Thread->Option SharedT
 | 0,_,_=>Y
 | n+1,s,t=>match through t with
  | true=>Z s
  | false=>match stepOk n0 ann t with
   | false=>Y
   | true=>match stepT (denote tb) p w s t with
    | some (s',t')=>topRunT tb p w n0 ann n s' t'
    | none=>Y
theorem nP {tb:String->Option Builtin}{p:Program}{w:World}{n0:Nat}{ann:Option Value}:∀{n:Nat} {s s':SharedT} {t:Thread},topRunT tb p w n0 ann n s t=Z s'->topRun tb p w n0 ann n s.abs t=Z s'.abs
 | 0,_,_,_,h=>by cases h
 | n+1,s,s',t,h=>by
  unfold topRunT at h;unfold topRun;cases he:through t with
  | true=>rw[he] at h;cases h;rfl
  | false=>
   rw[he] at h;cases hk:stepOk n0 ann t with
   | false=>rw[hk] at h;cases h
   | true=>
    rw[hk] at h;cases hs:stepT (denote tb) p w s t with
    | none=>rw[hs] at h;cases h
    | some r=>obtain⟨s2,t2⟩:=r;rw[hs] at h;rw[stepT_spec hs];exact nP h
def grow:List Obj->BT->Nat->BT
 | [],t,_=>t
 | o::r,t,n=>grow r (t.ins n o) (n+1)
def grown:List Obj->BT->Nat->Bool
 | [],_,_=>true
 | o::r,t,n=>((t.ins n o).get n).isSome&&grown r (t.ins n o) (n+1)
theorem rG (life:Life):∀(l:List Obj) (t:BT) (n:Nat),grown l t n=true->absHeap (grow l t n) (n+l.length) life=⟨(absHeap t n life).objs++l.toArray,life⟩
 | [],t,n,_=>by simp[grow,absHeap]
 | o::r,t,n,h=>by
  refine q0x2 (Bool.and_eq_true_iff.mp h) λh1 h2=>?_;have e:=rG life r (t.ins n o) (n+1) h2;have e2:absHeap (t.ins n o) (n+1) life=(absHeap t n life).push o:=absHeap_ins h1;show absHeap (grow r (t.ins n o) (n+1)) (n+(r.length+1)) life=_;rw[show n+(r.length+1)=n+1+r.length by omega,e,e2];simp[Heap.push]
variable{Xt:Shared->Bool}{N:Nat}
def tw {p q:Program}{loose:List Str}{A:Type}{Yf:Shared->A}{Ya:World->A}{g0:Bool}{H:Params->Heap}{gs:Array GenState}{d:Drawn}{k:Nat}{m:Nat}{ann:Option Value}{T:Params->BT}{lf:Life}
  (open_:∀w:World,(fencedOpening treeTable p w N).map (λs=>(s.heap,s.gens,s.drawn,s.toks))=Z (H w.params,gs,d,k))
  (size:∀w:World,((H w.params).isNs mainGlobals&&gs.size==0,(H w.params).objs.size,(H w.params).nsMap mainGlobals "__annotations__")=(true,m,ann))
  (tree:∀P,H P=absHeap (T P) m lf)
  (run:∀(w:World) (os:OsState),(topRunT treeTable p w m ann N ⟨T w.params,m,lf,gs,d,k,os⟩ (topStub p)).map (λs=>
    ((staticsOk (importedModules p.main.body) (H w.params) s.abs.heap&&namesBound p s.abs.heap&&gensDone s.abs&&laidKept (H w.params) s.abs.heap),
    openSeen q loose (importedModules p.main.body) Xt g0 s.abs,Yf s.abs))=Z (true,openGood q loose,Ya w)):LeftO p q loose Xt Yf Ya N g0:=λw=>by
 obtain⟨⟨h,gs',d',k',os⟩,e,e'⟩:=Option.map_eq_some_iff.mp (open_ w);obtain⟨rfl,rfl,rfl,rfl⟩:h=H w.params/\gs'=gs/\d'=d/\k'=k:=by simpa using e'
 obtain⟨z1,z2,z3⟩:_/\_/\_:=by simpa only[Prod.mk.injEq] using size w
 refine q1x2 (Option.map_eq_some_iff.mp (run w os)) λs r1 r2=>?_;obtain⟨l1,l2,l3⟩:_/\_/\_:=by simpa only[Prod.mk.injEq] using r2
 have r:=nP r1;have ea:SharedT.abs ⟨T w.params,m,lf,gs',d',k',os⟩=⟨H w.params,gs',d',k',os⟩:=by rw[tree];rfl
 rw[ea] at r;have t:topFrom treeTable p w N ⟨H w.params,gs',d',k',os⟩=Z s.abs:=by
  unfold topFrom;dsimp only;rw[z1,z2,z3,r];show(match staticsOk (importedModules p.main.body) (H w.params) s.abs.heap&&namesBound p s.abs.heap&&gensDone s.abs&&laidKept (H w.params) s.abs.heap with|true=>_|false=>_)=_;rw[l1]
 unfold openEnds;rw[e];show(topFrom treeTable p w N _).map _=_;rw[t];exact congrArg Z (Prod.ext l2 l3)
noncomputable def bootT (P:Params):BT:=grow (boot_heap P).objs.toList .nil 0
lay_quick Hd.topRunT W.topStub
def vX (P:Params):boot_heap P=absHeap (bootT P) 11 {}:=by
 have h:=rG {} (boot_heap P).objs.toList .nil 0 (by kernel_rfl);exact h.symm
noncomputable def RT (p:Program) (w:World) (N:Nat) (os:OsState):Option SharedT:=topRunT treeTable p w 11 (Z (Value.ref 6)) N ⟨bootT w.params,11,{},Array.mk [],boot_drawn,boot_toks,os⟩ (topStub p)
noncomputable def pA (p:Program) (P:Params) (s:Shared):Bool:=staticsOk (importedModules p.main.body) (boot_heap P) s.heap&&namesBound p s.heap&&gensDone s&&laidKept (boot_heap P) s.heap
def pB (q:Program)(mods:List Str)(Xt:Shared->Bool)(s:Shared):Bool:=(s.heap.keysOk (looseW q []) ((recsOf q).map (·.name)) ((litsOf q).map (·.1)) ((clssOf q (looseW q [])).map (·.name))&&s.heap.accountedOkI mods&&s.heap.isNs mainGlobals&&s.heap.isNs builtinsNs&&tablesOk q s.heap&&Xt s&&(if true then s.gens.size==0 else !leftWithCleanup s.gens))&&tabsOk q s
def pC (q:Program)(s:Shared):=(seen ((recsOf q).map (·.name)) (ownsOf q) [] {s with gens:=#[]},s.heap.bltView,wideSeen q s)
def pD (q:Program)(s:Shared):=(pinSeenD q (drecsOf q) s,plainSeenE q (looseW q []) s,plainSeenD q [] s,clsSeenW q [] s)
lay_quick Hd.pB
lay_quick Hd.pC
lay_quick Hd.pD
def ph {α A B:Type}{x:Option α}{f:α->A}{g:α->B}{a:A}{b:B}(h1:x.map f=Z a)(h2:x.map g=Z b):x.map (λs=>(f s,g s))=Z (a,b):=by
 cases x with
 | none=>cases h1
 | some s=>exact congrArg Z (Prod.ext (Option.some.inj h1) (Option.some.inj h2))
def sN {p q:Program}{A:Type}{Yf:Shared->A}{Ya:World->A}
  (open_:∀w:World,(fencedOpening treeTable p w N).map (λs=>(s.heap,s.gens,s.drawn,s.toks))=Z (boot_heap w.params,Array.mk [],boot_drawn,boot_toks))
  (size:∀w:World,((boot_heap w.params).isNs mainGlobals&&(Array.mk ([]:List GenState)).size==0,(boot_heap w.params).objs.size,(boot_heap w.params).nsMap mainGlobals "__annotations__")=(true,11,Z (Value.ref 6)))
  (r1:∀(w:World) (os:OsState),(RT p w N os).map (λs=>pA p w.params s.abs&&pB q (importedModules p.main.body) Xt s.abs)=Z true)
  (r2:∀(w:World) (os:OsState),(RT p w N os).map (λs=>pC q s.abs)=Z (expectedOf q,bltViewBooted,wideGood q))
  (r3:∀(w:World) (os:OsState),(RT p w N os).map (λs=>pD q s.abs)=Z (pinGoodD (drecsOf q),plainGoodE q (looseW q []),plainGoodD q [],clsGoodW q []))
  (r4:∀(w:World) (os:OsState),(RT p w N os).map (λs=>Yf s.abs)=Z (Ya w)):LeftO p q [] Xt Yf Ya N true:=
 tw open_ size vX λw os=>by
  show(RT p w N os).map _=_;have h:=ph (ph (r1 w os) (r2 w os)) (ph (r3 w os) (r4 w os));cases e:RT p w N os with
  | none=>rw[e] at h;cases h
  | some s=>
   rw[e] at h;refine q0x2 (Prod.mk.inj (Option.some.inj h)) λh1 h2=>?_;refine q0x2 (Prod.mk.inj h1) λh1 h3=>?_;refine q0x2 (Prod.mk.inj h2) λh4 h5=>?_;refine q0x2 (Bool.and_eq_true_iff.mp h1) λa b=>?_;refine q0x2 (Bool.and_eq_true_iff.mp b) λb c=>?_;refine q0x2 (Prod.mk.inj h3) λc1 c2=>?_;refine q0x2 (Prod.mk.inj c2) λc2 c3=>?_;refine q0x2 (Prod.mk.inj h4) λd1 d2=>?_;refine q0x2 (Prod.mk.inj d2) λd2 d3=>?_;refine q0x2 (Prod.mk.inj d3) λd3 d4=>?_;exact congrArg Z (Prod.ext a (Prod.ext (Prod.ext c1 (Prod.ext c2 (Prod.ext b (Prod.ext c (Prod.ext d1 (Prod.ext d2 (Prod.ext d3 (Prod.ext c3 d4)))))))) h5))
def lk (s:SharedT)(a:Nat):Option Obj:=match Nat.blt a s.n with
 | true=>(match s.tree.get a with
  | some o=>alive o
  | none=>Y)
 | false=>Y
def GW {s:SharedT}{a:Nat}{o:Obj}(h:lk s a=Z o):s.abs.heap.get? a=Z o:=by
 unfold lk at h;cases b:Nat.blt a s.n with
 | false=>rw[b] at h;cases h
 | true=>
  rw[b] at h;cases g:s.tree.get a with
  | none=>rw[g] at h;cases h
  | some x=>rw[g] at h;exact(abs_get (Nat.blt_eq.mp b) g).trans h
theorem tm {s:SharedT}{β:Type}{f:β->Obj}:∀{as:List Nat} {l:List β},as.map (lk s)=l.map (λp=>Z (f p))->as.map s.abs.heap.get?=l.map (λp=>Z (f p))
 | [],[],_=>rfl
 | [],_::_,h=>by cases h
 | _::_,[],h=>by cases h
 | a::as,p::l,h=>by
  refine q0x2 (List.cons.inj h) λx y=>?_;show s.abs.heap.get? a::as.map s.abs.heap.get?=_;rw[GW x,tm y];rfl
def left_km {p q:Program}{K:Params->Frag}{as:List Addr}{e:∀P,as=(K P).map (·.1)}{ts:List Addr}
  (open_:∀w:World,(fencedOpening treeTable p w N).map (λs=>(s.heap,s.gens,s.drawn,s.toks))=Z (boot_heap w.params,Array.mk [],boot_drawn,boot_toks))
  (size:∀w:World,((boot_heap w.params).isNs mainGlobals&&(Array.mk ([]:List GenState)).size==0,(boot_heap w.params).objs.size,(boot_heap w.params).nsMap mainGlobals "__annotations__")=(true,11,Z (Value.ref 6)))
  (r1:∀(w:World) (os:OsState),(RT p w N os).map (λs=>pA p w.params s.abs&&pB q (importedModules p.main.body) Xt s.abs)=Z true)
  (r2:∀(w:World) (os:OsState),(RT p w N os).map (λs=>pC q s.abs)=Z (expectedOf q,bltViewBooted,wideGood q))
  (r3:∀(w:World) (os:OsState),(RT p w N os).map (λs=>pD q s.abs)=Z (pinGoodD (drecsOf q),plainGoodE q (looseW q []),plainGoodD q [],clsGoodW q []))
  (r4:∀(w:World) (os:OsState),(RT p w N os).map (λs=>(as.map (lk s),ts.map (lk s)))=Z ((K w.params).map (λp=>Z p.2),ts.map λ_=>Z (tabObj #[]))) :
  LeftO p q [] Xt (kmHook K as e ts).obs (kmHook K as e ts).val N true:=
 sN open_ size r1 r2 r3 λw os=>by
  refine q1x2 (Option.map_eq_some_iff.mp (r4 w os)) λs h1 h2=>?_;refine q0x2 (Prod.mk.inj h2) λa b=>?_;rw[h1];exact congrArg Z (Prod.ext (tm a) (tm b))
end Hd
namespace K16
open PySem PySem.Spec PyProof.Rows L2 DL List
def top (i:Nat):Stmt:=PySem.Challenge.pw_glowrow_k16_whole_table_or_crowd.main.body.getD i (.Pass ⟨0,0,0,0⟩)
abbrev Bn:Stmt:=top 16
abbrev TX:=Tx (("_law_draw",top 10,["tape","many"])::("_law_size",top 11,["tape","most"])::("_law_sound",top 13,["wishes"])::("_law_windows",top 14,["pots","wishes"])::("hues_by_ink",top 4,["wishes"])::("windows",top 5,["pots","wishes"])::("crowd_in",top 8,["room","needed"])::("table_for",top 6,["high","room","pots","wishes"])::("_law_wishes",top 12,["tape","high","inks"])::("_law_makes",top 15,["high","pots","wishes","table"])::[])
 ([])
 [("table_within",top 7,["room","needed"])]
 ("any"::"bool"::"isinstance"::"len"::"list"::"max"::"min"::"range"::"sorted"::"tuple"::[]) ["Clash"]
 ([]) []
 ([]) [] []
set_option hygiene false
local macro_rules | `(tactic| walk_at "o") => `(tactic| first | with_reducible exact Gx | with_reducible exact q_addM | with_reducible exact Fx | with_reducible exact GL | with_reducible exact Dx | with_reducible exact GB | with_reducible exact E4 | with_reducible exact Iq | with_reducible exact IV | with_reducible exact Iu | with_reducible exact IL | with_reducible exact HX | with_reducible exact q_isnot | with_reducible exact HG | with_reducible exact q_notin | with_reducible exact q_mulT | with_reducible exact q_inA | ((with_reducible show Q2 _ _ (zM _)); first | exact q_inG hr | exact wW hr) | ((with_reducible show Q2 _ _ (dIn _)); first | exact q_din hr | exact q_dnotin hr) | ((with_reducible show Q2 _ (compareOp .Eq) _); exact IT hr) | exact HF hr)
local macro_rules | `(tactic| walk_at "c") => `(tactic| first | ((with_reducible refine Gh ?_); rfl) | ((with_reducible refine q_lenT)) | ((with_reducible refine Fi)) | ((with_reducible refine q_listT ?_); rfl) | ((with_reducible refine A9)) | ((with_reducible refine DH)) | ((with_reducible refine q_max ?_); rfl) | ((with_reducible refine FO ?_); rfl) | ((with_reducible refine q_sorted)) | ((with_reducible refine zV)))
local macro_rules | `(tactic| walk_at "b") => `(tactic| with_reducible first | exact Boot.«any» | exact Boot.«bool» | exact Boot.«isinstance» | exact Boot.«len» | exact Boot.«list» | exact Boot.«max» | exact Boot.«min» | exact Boot.«range» | exact Boot.«sorted» | exact Boot.«tuple»)
local macro_rules | `(tactic| walk_at "E") => `(tactic| first
  | ((with_reducible show QE _ _ (af _));exact qv _)
  | ((with_reducible show QE _ _ (gC _));first|exact C1|exact Dw|exact EC|exact Gy)
  | ((with_reducible show QE _ _ (g2 dGet _ _));refine qe_dget hr ?_ ?_)
  | ((with_reducible show QE _ _ (g2 fP _ _));refine wv hr ?_ ?_)
  | ((with_reducible show QE _ _ (aQ dE _));refine Br (Be rfl) (T.z _ (by decide +kernel)) (by walk_at "b") ?_)
  | ((with_reducible show QE _ _ (g2 aT _ _));refine FV ?_ ?_)
  | ((with_reducible show QE _ _ (g2 _ _ _));first|refine Fm (by walk_at "o") ?_ ?_|refine Ci (by walk_at "o") ?_ ?_|refine qe_cmpI (by walk_at "o") ?_ ?_)
  | ((with_reducible show QE _ _ (ax _ _ _));refine E3 (by assumption) hr ?_)
  | ((with_reducible show QE _ _ (cp _));refine DC ?_)
  | ((with_reducible show QE _ _ (iX _ _));refine EZ (by first|exact .inl rfl|exact .inr (.inl rfl)|exact .inr (.inr (.inl rfl))|exact .inr (.inr (.inr (.inl rfl)))|exact .inr (.inr (.inr (.inr rfl)))) (by walk_at "b") (by rfl) (T.z _ (by decide +kernel)) (by rfl) (T.z _ (by decide +kernel)) ?_)
  | ((with_reducible show QE _ _ (aQ iJ _));refine BD (Cf (k:=0) (hr.mono (by decide))) (by rfl) (T.z _ (by decide +kernel)) (by walk_at "b") ?_)
  | ((with_reducible show QE _ _ (aQ _ _));first|refine Br (by walk_at "c") (T.z _ (by decide +kernel)) (by walk_at "b") ?_|refine Gv (by walk_at "c") (by rfl) (T.z _ (by decide +kernel)) (by walk_at "b") ?_)
  | ((with_reducible show QE _ _ (du _));refine Dg ?_)
  | ((with_reducible show QE _ _ (jp _));refine B9 ?_)
  | ((with_reducible show QE _ _ (m6 _ _ _));refine yY ?_ ?_ ?_)
  | ((with_reducible show QE _ _ (aK _ _ _ _));first|refine qe_compR (by assumption) (by kernel_rfl) (by first|exact .inl rfl|exact .inr rfl) ?_ ?_ ?_|refine yZ (by kernel_rfl) (by first|exact .inl rfl|exact .inr rfl) ?_ ?_ ?_)
  | ((with_reducible show QE _ _ (cm _ _ _ _ _ _));refine vV (by assumption) (by kernel_rfl) (by first|exact .inl rfl|exact .inr rfl) ?_ ?_ ?_ ?_ ?_)
  | ((with_reducible show QE _ _ (i4 _ _));refine wm ?_ ?_)
  | ((with_reducible show QE _ _ (ja indexG _ _));refine qe_indexG hr ?_ ?_)
  | ((with_reducible show QE _ _ (ja _ _ _));first|refine yl ?_ ?_|refine qe_index ?_ ?_)
  | ((with_reducible show QE _ _ (d9 _ _ _));refine vn hr ?_ ?_ ?_)
  | ((with_reducible show QE _ _ (mj));exact zA)
  | ((with_reducible show QE _ _ (jl _));refine B3 ?_)
  | ((with_reducible show QE _ _ (fD _ _));refine zZ ?_)
  | ((with_reducible show QE _ _ (jA _ _));refine xk (px:="window") (by assumption) (k:=0) (hr.mono (by decide)) (by rfl) (T.z _ (by decide +kernel)) (by walk_at "b") ⟨rfl,rfl,rfl,by decide +kernel,rfl,by decide +kernel⟩ ?_)
  | ((with_reducible show QE _ _ (gW _ _));first|refine qe_sortSR (by assumption) (by kernel_rfl) (T.z _ (by decide +kernel)) (by walk_at "b") ?_ ?_|refine u9 (by kernel_rfl) (T.z _ (by decide +kernel)) (by walk_at "b") ?_ ?_))
local macro_rules | `(tactic| walk_at "S") => `(tactic| first
  | ((with_reducible show QS _ _ (bw _));refine DT ?_)
  | ((with_reducible show QS _ _ (dY _ _ _));refine Fu ?_ ?_ ?_)
  | ((with_reducible show QS _ _ (ay _ (aK _ _ _ _)));first|refine qs_setCompR (by assumption) (by kernel_rfl) (by first|exact .inl rfl|exact .inr rfl) nd ?_ ?_ ?_|refine rq (by kernel_rfl) (by first|exact .inl rfl|exact .inr rfl) nd ?_ ?_ ?_|refine tW _ nd ?_)
  | ((with_reducible show QS _ _ (ay _ (cm _ _ _ _ _ _)));first|refine qs_setCompTR (by assumption) (by kernel_rfl) (by first|exact .inl rfl|exact .inr rfl) ?_ nd ?_ ?_ ?_ ?_|refine tW _ nd ?_)
  | ((with_reducible show QS _ _ (ay _ _));refine D7 _ nd ?_)
  | ((with_reducible show QS _ _ (lm _ _ _));refine zB PassesOwn.leaving ?_ ?_ ?_)
  | ((with_reducible show QS _ _ (gK _ _ _));refine CV PassesOwn.leaving ?_ ?_ ?_)
  | ((with_reducible show QS _ _ (fz _));refine zN ?_)
  | ((with_reducible show QS _ _ (gE _ _ _));refine Dv ?_ ?_ ?_)
  | ((with_reducible show QS _ _ (aP));first|exact qs_pass|exact qs_doc)
  | ((with_reducible show QS _ _ (iW _ _ _));refine yv PassesOwn.leaving ?_ ?_)
  | ((with_reducible show QS _ _ (eR _ _));refine vm (T.e _ (by decide +kernel)) ?_)
  | ((with_reducible show QS _ _ (qY _ _ _));refine Es _ nd rfl ?_)
  | ((with_reducible show QS _ _ (lY _ _));refine A7 _ nd ?_))
local macro_rules | `(tactic| walk_at "Q") => `(tactic| first
  | ((with_reducible show QE _ _ _);first|walk_at "E"|refine qe_one ?_|refine qe_and ?_ ?_|refine qe_or ?_ ?_|refine qe_fstr1 ?_)
  | ((with_reducible show QA _ _ _);first|exact ED|refine Iy ?_ ?_)
  | ((with_reducible show QT _ _ _);first
  | ((with_reducible show QT _ _ (aB (su _ _ _ _ _ _ _)));refine vT (by walk_at "o") (by walk_at "o") (by walk_at "o") ?_ ?_ ?_ ?_)
  | ((with_reducible show QT _ _ (aB _));first|refine CJ (by walk_at "o") ?_ ?_|refine Bh (by walk_at "o") ?_ ?_)
  | ((with_reducible show QT _ _ (d7 _));refine Em ?_)
  | ((with_reducible show QT _ _ (gP _));refine Df ?_)
  | ((with_reducible show QT _ _ (dA _ _));refine FZ ?_)
  | ((with_reducible show QT _ _ (eJ _ _));refine FZ ?_))
  | ((with_reducible show QB _ _ _);first|exact C9|refine Dz ?_|refine An ?_ ?_)
  | ((with_reducible show QS _ _ _);walk_at "S")
  | ((with_reducible show QW _ _ _);first|refine Eh ?_ ?_|refine FW ?_ ?_|refine Ar ?_|refine Cr ?_)
  | ((with_reducible show QI _ _ _ _);first|((with_reducible show QI _ _ _ (d8 _));refine Gp (by rfl) (T.z _ (by decide +kernel)) ?_)|((with_reducible show QI _ _ _ (gRng2 _));refine qi_r2 (by rfl) (T.z _ (by decide +kernel)) ?_)|((with_reducible show QI _ _ _ (gEnum _));refine qi_enum (by rfl) (T.z _ (by decide +kernel)) (by walk_at "b") ?_)|((with_reducible show QI _ _ _ (gEz _));refine qi_ez (by rfl) (T.z _ (by decide +kernel)) (by walk_at "b") (by rfl) (T.z _ (by decide +kernel)) (by walk_at "b") ?_)|refine CL ?_)
  | ((with_reducible show QG _ _ _);first|exact qn _ nd|exact Jk _ (by kernel_rfl) |refine BS ?_|refine qg_tupG ?_)
  | ((with_reducible show Gz _ _ _);first|exact Ai|refine Ga ?_ ?_)
  | ((with_reducible show QGG _ _ _);first|exact qgg_nil|refine qgg_c ?_ ?_)
  | ((with_reducible show QP _ _ _);first|exact Bf|refine z9 ?_)
  | ((with_reducible show Aj _ _ _ _ _ _);first|exact vL|refine wb ?_)
  | ((with_reducible show QO _ _);first|exact qo_one _ _|exact B4 _|refine qo_tupG ?_)
  | ((with_reducible show QOs _ _);first|exact qos_nil|refine qos_c ?_ ?_)
  | ((with_reducible show QF _ _ _);first|exact DX|refine Ic ?_ ?_)
  | ((with_reducible show QD _ _ _ _ _);first|exact qd_nil|refine qd_c ?_)
  | intro _)
local macro_rules | `(tactic| walk_at "R") => `(tactic| repeat' walk_at "Q")
section
variable {P:Program}{w:World}{K:W.Frag}{mg:Str->Option Value}{base:Heap}
def fu:GS:=(av (ay 2 (gC (.int 2305843009213693951))) (av (dY (aB (g2 qx (g2 aT (af 0) (gC (.int 2))) (af 1))) (av (ay 3 (gC (.int 0))) (av (dY (aB (g2 vS (aQ cK (ae (g2 aT (af 0) (gC (.int 0))) ah)) (gC (.int 0)))) (ay 3 (g2 aT (g2 aT (af 0) (gC (.int 0))) (g2 fF (g2 aT (af 0) (gC (.int 1))) (aQ cK (ae (g2 aT (af 0) (gC (.int 0))) ah))))) aP) (av (dY (eJ (aB (g2 zY (g2 aT (af 0) (gC (.int 1))) (aQ cK (ae (g2 aT (af 0) (gC (.int 0))) ah)))) (aB (g2 qx (af 3) (g2 m8 (gC (.int 10)) (gC (.int 18)))))) (av (ay 3 (g2 fF (g2 bO (af 3) (g2 dC (gC (.int 1000003)) (g2 aT (af 0) (gC (.int 1))))) (af 2))) (av (ay 3 (g2 fF (g2 bO (g2 bO (g2 dC (af 3) (af 3)) (g2 dC (gC (.int 1181783497276652981)) (af 3))) (gC (.int 2049848353892358983))) (af 2))) (ay 3 (g2 fF (g2 bO (g2 dC (af 3) (af 3)) (gC (.int 1442695040888963407))) (af 2))))) aP) (av (gE (af 0) (gC (.int 1)) (g2 bO (g2 aT (af 0) (gC (.int 1))) (gC (.int 1)))) (gE (af 0) (gC (.int 2)) (af 3)))))) aP) (av (ay 4 (g2 fF (g2 aT (af 0) (gC (.int 2))) (af 1))) (av (gE (af 0) (gC (.int 2)) (g2 cM (g2 aT (af 0) (gC (.int 2))) (af 1))) (bw (af 4))))))
def au:FD:=dF 3 fu
variable (T:TX P w K mg base)
include T
def gD:Ok P w K mg base "_law_draw" 1 2 au:=ni (m7 T.f 0 rfl) ["tape","many","prime","cell","found"] gO rfl λf _ A _ s H E nd hr=>by delta fu;walk_at "R"
def il:GS:=(bw (g2 bO (gC (.int 1)) (g2 aT (du (ae (ax 2 au (ae (af 0) (ae (aQ rQ (ae (af 1) (ae (gC (.int 6)) ah))) ah))) (ae (ax 2 au (ae (af 0) (ae (af 1) ah))) (ae (g2 mM (af 1) (gC (.int 1))) ah)))) (g2 cM (g2 dC (ax 2 au (ae (af 0) (ae (gC (.int 8)) ah))) (gC (.int 3))) (gC (.int 10))))))
def df:FD:=dF 0 il
def ow:Ok P w K mg base "_law_size" 2 2 df:=ni (m7 T.f 1 rfl) ["tape","most"] gO rfl λf _ A _ s H E nd hr=>by have:=gD T;delta il;walk_at "R"
def dN:GE:=(af 0)
def cO:GT:=(dA (aB (g2 (aU false) (m6 (af 0) bp (da (gC (.int 2)))) (cp (ae (af 3) (ae (af 4) ah))))) (aB (g2 (aU true) (g2 aT (af 0) (gC (.int 2))) (af 5))))
def b8:GS:=(dY (aB (g2 (aU false) (aK (aY (af 1)) cO dN aA) (du ah))) (fz (i4 (af 1) (cp (ae (af 2) (ae (af 3) (ae (af 4) ah)))))) aP)
def cF:GS:=(av (ay 1 (jp ah)) (av (gK (aY (af 0)) (dn [2,3,4]) b8) (bw (af 1))))
def dr:FD:=λds M=>fq M.length (dF 4 cF ds M)
def ny:Ok P w K mg base "_law_sound" 1 1 dr:=jy (F:=dF 4 cF) <| ni (m7 T.f 2 rfl) ["wishes","found","row","ink","hue"] gO rfl λf _ A _ s H E nd hr=>by delta cF dN cO b8;walk_at "R"
def bZ:GE:=(g2 aT (af 0) (gC (.int 0)))
def bH:GT:=(dA (aB (g2 (aU false) (g2 aT (af 0) (gC (.int 1))) (af 5))) (aB (g2 qx (g2 aT (af 0) (gC (.int 0))) (af 4))))
def bF:GE:=(g2 aT (af 0) (gC (.int 2)))
def bt:GT:=(aB (g2 (aU false) (m6 (af 0) bp (da (gC (.int 2)))) (cp (ae (aQ iJ (ae (af 7) ah)) (ae (af 5) ah)))))
def bG:GS:=(av (ay 6 (aK (aY (af 1)) bH bZ aA)) (av (ay 7 (gC (.int 0))) (av (ay 8 (g2 aT (af 0) (af 4))) (av (dY (aB (g2 (aU true) (af 6) (du ah))) (av (ay 7 (g2 bO (aQ iJ (ae (af 6) ah)) (gC (.int 1)))) (ay 8 (g2 aT (aK (aY (af 1)) bt bF aA) (gC (.int 0))))) aP) (dY (dA (aB (g2 (aU true) (af 8) (af 5))) (aB (g2 (zM true) (cp (ae (af 7) (ae (af 3) (ae (af 4) (ae (af 5) ah))))) (af 2)))) (fz (i4 (af 2) (cp (ae (af 7) (ae (af 3) (ae (af 4) (ae (af 5) ah))))))) aP)))))
def bL:GS:=(av (ay 2 (jp ah)) (av (gK (aY (af 1)) (dn [3,4,5]) bG) (bw (aQ dE (ae (af 2) ah)))))
def bK:FD:=λds M=>fq M.length (dF 7 bL ds M)
def kA:Ok P w K mg base "_law_windows" 2 2 bK:=jy (F:=dF 7 bL) <| ni (m7 T.f 3 rfl) ["pots","wishes","found","row","ink","hue","ahead","first","old"] gO rfl λf _ A _ s H E nd hr=>by delta bL bZ bH bF bt bG;walk_at "R"
def aH:GS:=(av (ay 5 (d9 (af 1) (af 3) mj)) (dY (aB (g2 (aU true) (d9 (af 5) (af 2) (af 4)) (af 4))) (eR "Clash" (fD [(gC (.str "ink ")),(jl (af 3)),(gC (.str " shall have two hues on row ")),(jl (af 2))] Str.empty)) aP))
def cf:GS:=(av (ay 1 mj) (av (gK (aY (af 0)) (dn [2,3,4]) aH) (bw (af 1))))
def ba:FD:=dF 5 cf
def m4:Ok P w K mg base "hues_by_ink" 1 1 ba:=ni (m7 T.f 4 rfl) ["wishes","told","row","ink","hue","hues"] gO rfl λf _ A _ s H E nd hr=>by delta cf aH;walk_at "R"
def cx:GS:=(av (dY (aB (g2 (aU true) (g2 fP (af 4) (af 7)) (af 6))) (fz (i4 (af 2) (cp (ae (af 5) (ae (af 7) (ae (af 3) (ae (g2 fP (af 4) (af 7)) ah))))))) aP) (av (ay 5 (g2 bO (af 7) (gC (.int 1)))) (ay 6 (g2 fP (af 4) (af 7)))))
def cz:GS:=(av (ay 5 (gC (.int 0))) (av (ay 6 (g2 aT (af 0) (af 3))) (gK (aY (aQ dE (ae (af 4) ah))) (bP 7) cx)))
def dM:GS:=(av (ay 2 (jp ah)) (av (lm (ax 1 ba (ae (af 1) ah)) (dn [3,4]) cz) (bw (aQ dE (ae (af 2) ah)))))
def eP:FD:=λds M=>fq M.length (dF 6 dM ds M)
def tj:Ok P w K mg base "windows" 2 2 eP:=jy (F:=dF 6 dM) <| ni (m7 T.f 5 rfl) ["pots","wishes","told","ink","hues","first","hue","row"] gO rfl λf _ A _ s H E nd hr=>by have:=m4 T;delta dM cx cz;walk_at "R"
def cR:GE:=(af 0)
def cX:GT:=(aB (g2 nO (g2 aT (af 0) (gC (.int 0))) (af 5)))
def cW:GE:=(g2 nO (g2 aT (af 0) (gC (.int 1))) (af 5))
def bX:GE:=(cp (ae (af 8) (ae (af 2) (ae (af 3) ah))))
def cT:GE:=(af 0)
def cU:GT:=(aB (g2 vS (g2 aT (af 0) (gC (.int 0))) (af 5)))
def a5:GS:=(av (ay 5 (jA 1 (aK (aY (af 3)) cX cR aA))) (av (ay 6 (m6 (af 5) (da (af 0)) bp)) (av (dY (gP (aQ wf (ae (aK (aY (af 6)) fo cW aA) ah))) (bw (gC .non)) aP) (av (lY 2 (cm (aY (m6 (af 5) bp (da (af 0)))) 4 (dn [0,1,2,3]) fo bX aA)) (av (ay 3 (g2 bO (af 6) (aK (aY (af 3)) cU cT aA))) (qY 4 true (gC (.int 1))))))))
def a6:GT:=(gP (af 3))
def bD:GS:=(av (ay 2 (jp ah)) (av (ay 3 (af 1)) (av (ay 4 (gC (.int 0))) (av (iW 100 a6 a5) (bw (af 2))))))
def bN:FD:=λds M=>fq M.length (dF 5 bD ds M)
def kg:Ok P w K mg base "table_within" 3 2 bN:=jy (F:=dF 5 bD) <| Il (HW T.l 0 rfl) ["room","needed","table","waiting","row","begun","left"] gO rfl λf _ _ A _ s H E nd tb hr=>by have:=rn 40 17 ["first","last","ink","hue"] ["room","needed","table","waiting","row","begun","left"];delta bD cR cX cW bX cT cU a5 a6;walk_at "R"
def gV:GE:=(g2 aT (af 0) (gC (.int 0)))
def gY:GE:=(g2 aT (af 0) (gC (.int 1)))
def hZ:GE:=(af 0)
def ie:GT:=(dA (aB (g2 nO (af 3) (g2 aT (af 0) (gC (.int 0))))) (aB (g2 nO (g2 aT (af 0) (gC (.int 1))) (af 4))))
def dU:GS:=(av (ay 4 (aK (aY (af 1)) ie hZ aA)) (dY (dA (aB (g2 nO (af 2) (af 3))) (aB (g2 vS (aQ cK (ae (af 4) ah)) (g2 dC (af 0) (g2 bO (g2 mM (af 3) (af 2)) (gC (.int 1))))))) (bw (cp (ae (gC (.str "crowd")) (ae (af 2) (ae (af 3) (ae (aQ cK (ae (af 4) ah)) ah)))))) aP))
def cu:GS:=(gK (aY (gW (aY (af 1)) gY)) (bP 3) dU)
def f9:GS:=(av (gK (aY (gW (aY (af 1)) gV)) (bP 2) cu) (bw (gC .non)))
def fX:FD:=dF 3 f9
def rp:Ok P w K mg base "crowd_in" 1 2 fX:=ni (m7 T.f 6 rfl) ["room","needed","first","last","within"] gO rfl λf _ A _ s H E nd hr=>by delta f9 gV gY hZ ie dU cu;walk_at "R"
def fA:GS:=(av (ay 4 (ax 2 eP (ae (af 2) (ae (af 3) ah)))) (av (ay 5 (ax 2 bN (ae (af 1) (ae (af 4) ah)))) (av (dY (aB (g2 (p9 false) (af 5) (gC .non))) (bw (ax 2 fX (ae (af 1) (ae (af 4) ah)))) aP) (bw (cp (ae (gC (.str "table")) (ae (af 5) ah)))))))
def bR:FD:=dF 2 fA
def pF:Ok P w K mg base "table_for" 4 4 bR:=ni (m7 T.f 7 rfl) ["high","room","pots","wishes","needed","table"] gO rfl λf _ A _ s H E nd hr=>by have:=tj T;have:=kg T;have:=rp T;delta fA;walk_at "R"
def cy:GS:=(av (ay 5 (g2 aT (du (ae (ax 2 au (ae (af 0) (ae (gC (.int 3)) ah))) (ae (ax 2 au (ae (af 0) (ae (gC (.int 64)) ah))) ah))) (g2 cM (ax 2 au (ae (af 0) (ae (gC (.int 4)) ah))) (gC (.int 3))))) (fz (i4 (af 3) (cp (ae (ax 2 au (ae (af 0) (ae (af 1) ah))) (ae (ax 2 au (ae (af 0) (ae (af 2) ah))) (ae (af 5) ah)))))))
def b9:GS:=(av (ay 3 (jp ah)) (av (gK (d8 (ae (g2 aT (du (ae (ax 2 au (ae (af 0) (ae (gC (.int 14)) ah))) (ae (ax 2 au (ae (af 0) (ae (gC (.int 201)) ah))) ah))) (g2 cM (ax 2 au (ae (af 0) (ae (gC (.int 3)) ah))) (gC (.int 2)))) ah)) (bP 4) cy) (bw (af 3))))
def cN:FD:=λds M=>fq M.length (dF 3 b9 ds M)
def kT:Ok P w K mg base "_law_wishes" 2 3 cN:=jy (F:=dF 3 b9) <| ni (m7 T.f 8 rfl) ["tape","high","inks","found","k","hue"] gO rfl λf _ A _ s H E nd hr=>by have:=gD T;delta b9 cy;walk_at "R"
def cP:GS:=(av (gE (af 4) (g2 aT (g2 aT (af 3) (af 5)) (gC (.int 1))) (g2 aT (g2 aT (af 3) (af 5)) (gC (.int 2)))) (ay 5 (g2 bO (af 5) (gC (.int 1)))))
def b0:GT:=(dA (aB (g2 qx (af 5) (aQ cK (ae (af 3) ah)))) (aB (g2 (aU false) (g2 aT (g2 aT (af 3) (af 5)) (gC (.int 0))) (af 6))))
def cg:GS:=(dY (dA (aB (g2 (aU false) (af 7) (af 6))) (aB (g2 (aU true) (g2 aT (af 4) (af 8)) (af 9)))) (bw (gC (.bl false))) aP)
def dO:GS:=(av (iW 100 b0 cP) (gK (aY (af 2)) (dn [7,8,9]) cg))
def cD:GS:=(av (ay 4 (aQ lL (ae (af 1) ah))) (av (ay 5 (gC (.int 0))) (av (gK (d8 (ae (af 0) ah)) (bP 6) dO) (bw (g2 (aU false) (af 5) (aQ cK (ae (af 3) ah)))))))
def dq:FD:=λds M=>fq M.length (dF 6 cD ds M)
def nj:Ok P w K mg base "_law_makes" 1 4 dq:=jy (F:=dF 6 cD) <| ni (m7 T.f 9 rfl) ["high","pots","wishes","table","now","at","row","wished","ink","hue"] gO rfl λf _ A _ s H E nd hr=>by delta cD cP b0 cg dO;walk_at "R"
def gf:GE:=(ax 2 au (ae (af 2) (ae (g2 aT (du (ae (gC (.int 3)) (ae (gC (.int 64)) ah))) (g2 fF (af 3) (gC (.int 2)))) ah)))
def tB:GE:=(af 0)
def sB:GT:=(gP (iX "bool" (af 0)))
def pd:GE:=(af 0)
def oQ:GT:=(dA (aB (g2 nO (g2 aT (af 10) (gC (.int 1))) (g2 aT (af 0) (gC (.int 0))))) (aB (g2 nO (g2 aT (af 0) (gC (.int 1))) (g2 aT (af 10) (gC (.int 2))))))
def wK:GE:=(iX "bool" (af 0))
def mh:GE:=(af 0)
def lK:GT:=(aB (g2 (sD false) (gC (.bl true)) (aK (aY (af 0)) fo wK aA)))
def pG:GE:=(g2 aT (af 0) (gC (.int 0)))
def lF:GE:=(af 0)
def jM:GT:=(aB (g2 vS (ja fH (af 12) (af 0)) (af 5)))
def mF:GS:=(av (ay 3 (ax 2 df (ae (af 1) (ae (gC (.int 40)) ah)))) (av (ay 4 (g2 aT (du (ae (ax 2 au (ae (af 1) (ae (gC (.int 4)) ah))) (ae (ax 2 au (ae (af 1) (ae (gC (.int 17)) ah))) ah))) (g2 cM (ax 2 au (ae (af 1) (ae (gC (.int 4)) ah))) (gC (.int 3))))) (av (ay 5 (aQ gL (ae (aK (d8 (ae (gC (.int 16)) ah)) fo gf aA) ah))) (av (ay 6 (ax 1 dr (ae (ax 3 cN (ae (af 1) (ae (af 3) (ae (g2 bO (gC (.int 1)) (ax 2 au (ae (af 1) (ae (gC (.int 16)) ah)))) ah)))) ah))) (av (ay 7 (ax 2 bK (ae (af 5) (ae (af 6) ah)))) (av (ay 8 (aQ iN (ae (af 6) ah))) (av (ay 9 (ax 4 bR (ae (af 3) (ae (af 4) (ae (af 5) (ae (af 8) ah)))))) (av (dY (eJ (d7 (gP (iX "tuple" (af 9)))) (aB (g2 (aU true) (af 8) (af 6)))) (bw (gC (.bl false))) aP) (av (dY (aB (g2 (aU true) (aK (aY (m6 (af 9) (da (gC (.int 1))) bp)) sB tB aA) (du ah))) (bw (gC (.bl false))) aP) (dY (aB (g2 (aU false) (g2 aT (af 9) (gC (.int 0))) (gC (.str "crowd")))) (av (dY (eJ (aB (g2 (aU true) (aQ cK (ae (af 9) ah)) (gC (.int 4)))) (d7 (aB (su nO nO qx (gC (.int 0)) (g2 aT (af 9) (gC (.int 1))) (g2 aT (af 9) (gC (.int 2))) (af 3))))) (bw (gC (.bl false))) aP) (av (ay 10 (aQ cK (ae (aK (aY (af 7)) oQ pd aA) ah))) (dY (eJ (aB (g2 (aU true) (g2 aT (af 9) (gC (.int 3))) (af 10))) (aB (g2 nO (af 10) (g2 dC (af 4) (g2 bO (g2 mM (g2 aT (af 9) (gC (.int 2))) (g2 aT (af 9) (gC (.int 1)))) (gC (.int 1))))))) (bw (gC (.bl false))) aP))) (av (dY (eJ (aB (g2 (aU true) (g2 aT (af 9) (gC (.int 0))) (gC (.str "table")))) (eJ (aB (g2 (aU true) (aQ cK (ae (af 9) ah)) (gC (.int 2)))) (eJ (d7 (gP (iX "list" (g2 aT (af 9) (gC (.int 1)))))) (aB (g2 (aU true) (aQ cK (ae (g2 aT (af 9) (gC (.int 1))) ah)) (aQ cK (ae (af 7) ah))))))) (bw (gC (.bl false))) aP) (av (dY (aB (g2 (aU true) (aK (aY (g2 aT (af 9) (gC (.int 1)))) lK mh aA) (du ah))) (bw (gC (.bl false))) aP) (av (ay 11 (aK (aY (g2 aT (af 9) (gC (.int 1)))) fo pG aA)) (av (dY (eJ (aB (g2 (aU true) (af 11) (aQ dE (ae (af 11) ah)))) (aB (g2 (aU true) (aK (aY (af 11)) jM lF aA) (du ah)))) (bw (gC (.bl false))) aP) (dY (d7 (gP (ax 4 dq (ae (af 3) (ae (af 5) (ae (af 6) (ae (g2 aT (af 9) (gC (.int 1))) ah))))))) (bw (gC (.bl false))) aP)))))))))))))))
def tZ:GS:=(av (ay 1 (jp (ae (aQ iN (ae (af 0) ah)) (ae (gC (.int 0)) (ae (gC (.int 0)) ah))))) (av (gK (d8 (ae (gC (.int 3)) ah)) (bP 2) mF) (bw (gC (.bl true)))))
def uu:FD:=dF 11 tZ
def CK{f:Addr}{fd:FuncData} (F:Fn K mg "law" Bn f fd ["script"]):fm P w K mg base (iM P w) 5 f fd ["script"] (rB K 1 uu):=FI F.F (N:=["script","tape","turn","high","room","pots","wishes","due","handed","found","many","rows"]) gO rfl λ_ A _ s H E hr=>by
 have nd:(["script","tape","turn","high","room","pots","wishes","due","handed","found","many","rows"]:List Str).Nodup:=by decide +kernel
 have:=gD T;have:=ow T;have:=ny T;have:=kA T;have:=pF T;have:=kT T;have:=nj T;delta tZ gf tB sB pd oQ wK mh lK pG lF jM mF;walk_at "R"
end
end K16
section
open PySem PySem.W PyProof.Rows
noncomputable abbrev K16.VV:Program:=(view PySem.Challenge.pw_glowrow_k16_whole_table_or_crowd [1,2,4,5,6,7,8,10,11,12,13,14,15,16])
set_option maxHeartbeats 0 in
def K16.h1:∀(w:World) (os:OsState),(Hd.RT (OpenLaw.row PySem.Challenge.rw_glowrow_k16_whole_table_or_crowd).prog w 1716 os).map (λs=>Hd.pA (OpenLaw.row PySem.Challenge.rw_glowrow_k16_whole_table_or_crowd).prog w.params s.abs&&Hd.pB K16.VV (importedModules (OpenLaw.row PySem.Challenge.rw_glowrow_k16_whole_table_or_crowd).prog.main.body) (λs=>xlAt K16.VV [] s&&recOk (RowW.records (OpenRow.toRowW (OpenLaw.row PySem.Challenge.rw_glowrow_k16_whole_table_or_crowd))) s) s.abs)=Z true:=by
 intro w os;unfold Hd.RT;rw[W.Fast.te15732481512506401174,W.Fast.te2530740449226627131,W.Fast.te13930993214811372802];kernel_rfl
set_option maxHeartbeats 0 in
def K16.h2:∀(w:World) (os:OsState),(Hd.RT (OpenLaw.row PySem.Challenge.rw_glowrow_k16_whole_table_or_crowd).prog w 1716 os).map (λs=>Hd.pC K16.VV s.abs)=Z (expectedOf K16.VV,bltViewBooted,wideGood K16.VV):=by
 intro w os;unfold Hd.RT;rw[W.Fast.te15732481512506401174,W.Fast.te2530740449226627131,W.Fast.te7338995916957470747];kernel_rfl
set_option maxHeartbeats 0 in
def K16.h3:∀(w:World) (os:OsState),(Hd.RT (OpenLaw.row PySem.Challenge.rw_glowrow_k16_whole_table_or_crowd).prog w 1716 os).map (λs=>Hd.pD K16.VV s.abs)=Z (pinGoodD (drecsOf K16.VV),plainGoodE K16.VV (looseW K16.VV []),plainGoodD K16.VV [],clsGoodW K16.VV []):=by
 intro w os;unfold Hd.RT;rw[W.Fast.te15732481512506401174,W.Fast.te2530740449226627131,W.Fast.te4913325751328045840];kernel_rfl
local macro_rules | `(tactic| o_head $H) => `(tactic| (
 refine holds_open (q:=K16.VV) (loose:=[]) (Xt:=(λs=>xlAt K16.VV [] s&&recOk (RowW.records (OpenRow.toRowW (OpenLaw.row PySem.Challenge.rw_glowrow_k16_whole_table_or_crowd))) s)) (XP:=XL K16.VV []) (Yf:=Hook.obs $H) (Ya:=Hook.val $H) (YP:=Hook.says $H) (N:=1716) ?hl (Hook.of $H) (Hook.keeps $H) (λs e=>xl_of s (Bool.and_eq_true_iff.mp e).1) XL.keeps (by rfl) (by rfl) (by rfl) (λs e=>recFacts_of (Bool.and_eq_true_iff.mp e).2) (by rfl) (by first|assumption|decide +kernel) (by decide +kernel) ⟨rfl,rfl,rfl,rfl,rfl,by decide +kernel⟩ ?hw ?hc;
 (case hl=>
  refine Hd.left_km (boot_open (by kernel_rfl) rfl (λs=>by kernel_rfl)) (λw=>by kernel_rfl) K16.h1 K16.h2 K16.h3 ?_;intro w os;unfold Hd.RT;rw[W.Fast.te15732481512506401174,W.Fast.te2530740449226627131];kernel_rfl)))
set_option hygiene false
local macro_rules | `(tactic| walk_at "us") => `(tactic| first | rfl | (exfalso; simp at hl; done) | (cases us with | nil => (first | rfl | cases hl) | cons _ us => walk_at "us"))
local macro_rules | `(tactic| walk_at "kc") => `(tactic| refine' DL.kc_mk KX G ?y0 ?y1 ?y2 ?y3 ?y4 ?y5 ?y6; (case y0 => k_is); (case y1 => k_is); (case y2 => k_is); (case y3 => k_is); (case y4 => k_is); (case y5 => k_is); (case y6 => k_is))
local macro_rules | `(tactic| walk_at "ec") => `(tactic| refine' DL.Fc KX G ?w0 ?w1 ?w2 ?w3 ?w4 ?w5 ?w6 ?w7 ?w8 ?w9 ?w10 ?w11; (case w0 => k_is); (case w1 => k_is); (case w2 => k_is); (case w3 => k_is); (case w4 => k_is); (case w5 => k_is); (case w6 => k_is); (case w7 => k_is); (case w8 => k_is); (case w9 => k_exc); (case w10 => k_is); (case w11 => k_is))
local macro_rules | `(tactic| walk_at "ff") => `(tactic| (refine' DL.FL KX G ?x0 ?x1 ?x2 ?x3 ?x4; (case x0 => k_is); (case x1 => k_is); (case x2 => k_is); (case x3 => k_is); (case x4 => (intro _ _ _ _ _ _ us hl; walk_at "us"))))
local macro_rules | `(tactic| walk_at "mf") => `(tactic| (refine' DL.mf_mk ?x0 ?x1 ?x2 ?x3 ?x4 ?x5 ?x6; (case x0 => walk_at "kc"); (case x1 => k_is); (case x2 => k_is); (case x3 => k_is); (case x4 => k_is); (case x5 => k_is); (case x6 => (intro _ _ _ _ _ _ us hl; walk_at "us"))))
local macro_rules | `(tactic| walk_at "im") => `(tactic| (refine' DL.im_mk ?v0 ?v1; (case v0 => walk_at "ec"); (case v1 => k_is)))
local macro_rules | `(tactic| walk_at "lf") => `(tactic| (refine' DL.FH KX G ?x0 ?x1 ?x2 ?x3 ?x4 ?x5 ?x6 ?x7 ?x8 ?x9 ?x10 ?x11 ?x12 ?x13 ?x14; (case x0 => k_is); (case x1 => k_is); (case x2 => k_is); (case x3 => k_is); (case x4 => k_is); (case x5 => rfl); (case x6 => rfl); (case x7 => rfl); (case x8 => rfl); (case x9 => rfl); (case x10 => rfl); (case x11 => decide); (case x12 => decide); (case x13 => (refine DL.pY (fun _ => ?y_ink_shown) (fun z => absurd rfl z) (fun _ => ?y_slots_given) (fun _ => ?y_cast_on_slots); (case y_ink_shown => k_is); (case y_slots_given => k_is); (case y_cast_on_slots => k_is))); (case x14 => (intro _ _ _ _ _ _ us hl; walk_at "us"))))
set_option maxRecDepth 100000 in
set_option maxHeartbeats 0 in
def K16.pre (ht:∀ns:List Int,ns.length<=63->∃M',K16.uu [.ro (ns.map DL.D.int)] []=.ok (.bl true) M'):PySem.Challenge.rw_glowrow_k16_whole_table_or_crowd.Holds:=by
 w_on;o_law;k_head;(case hw=>w_witness2)
 k_fill
 refine DL.zW (l:=PySem.Challenge.rw_glowrow_k16_whole_table_or_crowd) (n:=63) (k:=5) (x:="script") (F:=K16.uu) rfl (by decide) rfl ⟨rfl,by decide,by decide⟩ (λw h Y=>W.km_in_of Y) ?F ?T ht
 case F=>
  intro w mg fa h KX G hmg;refine DL.DJ (st:=K16.Bn) hmg ?L (λbase f fd L=>K16.CK ?TT L) (λ_ _ _ _ _ _ _=>rfl)
  (case TT=>
   refine DL.Tx.mk ?q0 ?q1 ?q2 ?q3 ?q4 ?q5 ?q6 ?q7 ?q8 ?q9
   (case q0=>((repeat (refine' DL.Ls.cons ?x ?_;(case x=>(walk_at "ff"))));exact DL.Ls.nil))
   (case q1=>((repeat (refine' DL.Ls.cons ?x ?_;(case x=>(walk_at "mf"))));exact DL.Ls.nil))
   (case q2=>((repeat (refine' DL.Ls.cons ?x ?_;(case x=>(walk_at "lf"))));exact DL.Ls.nil))
   (case q3=>((repeat (refine' DL.Ls.cons ?x ?_;(case x=>(refine' DL.IN KX G ?x0;(case x0=>k_is)))));exact DL.Ls.nil))
   (case q4=>((repeat (refine' DL.Ls.cons ?x ?_;(case x=>(refine' DL.Gi ?x0;(case x0=>walk_at "ec")))));exact DL.Ls.nil))
   (case q5=>((repeat (refine' DL.Ls.cons ?x ?_;(case x=>(refine' DL.E0 ?u0 ?u1;(case u0=>walk_at "ec");(case u1=>((repeat (refine' DL.Ls.cons ?u2 ?_;(case u2=>walk_at "im")));exact DL.Ls.nil))))));exact DL.Ls.nil))
   (case q6=>((repeat (refine' DL.Ls.cons ?x ?_;(case x=>(walk_at "im"))));exact DL.Ls.nil))
   (case q7=>((repeat (refine' DL.Ls.cons ?x ?_;(case x=>(refine' DL.Gu ?x0 ?x1;(case x0=>walk_at "kc");(case x1=>k_is)))));exact DL.Ls.nil))
   (case q8=>((repeat (refine' DL.Ls.cons ?x ?_;(case x=>(refine' DL.FX (u:=PySem.Value.str _) KX G ?x0;(case x0=>k_is)))));exact DL.Ls.nil))
   (case q9=>((repeat (refine' DL.Ls.cons ?x ?_;(case x=>(refine' DL.FX (u:=PySem.Value.int _) KX G ?x0;(case x0=>k_is)))));exact DL.Ls.nil)))
  (case L=>walk_at "ff")
 case T=>
  intro w;refine' DL.As (DL.vQ (x:="table_within") ?kW (DL.B8 ?kq ?j9 ?ka ?kh ?j7) ?mx DL.yu) (DL.pY (.inl ?e_ink_shown) (.inr ⟨_,.head _,rfl⟩) (.inl ?e_slots_given) (.inl ?e_cast_on_slots)) ?bm ?bl
  (case kW=>rfl)
  (case kq=>k_is)
  (case j9=>k_is)
  (case ka=>rfl)
  (case kh=>k_is)
  (case j7=>rfl)
  (case mx=>kernel_rfl)
  (case e_ink_shown=>k_is)
  (case e_slots_given=>k_is)
  (case e_cast_on_slots=>k_is)
  (case bm=>k_is)
  (case bl=>kernel_rfl)
end
namespace K16
open PySem PySem.Spec PyProof.Rows L2 DL List
local macro_rules | `(tactic| simp_arith [$args,*] $[$loc]?) => `(tactic| first | (dsimp only [aN.bind, av, ay, dY, bw, gE, fz, aP, af, gC, DL.g2, ax, aQ, ae, ah, aB, GP, gP, AM, eJ, dA, d7, cp, du, jp, lA, aA, dk, B1, iX, Hr, sC, bQ, dF, jN, tq, bO, mM, dC, cM, fF, m8, qx, nO, vS, zY, aT, aW, cK, rQ, iN, gL, CT, aY, uA, d8, bP, dn, jo, da, bp, m6, mP, sD, dW, p9, EU, fo, eR, jl, pT, fD, ja, fH, iL, u6, i4, lL, o8, AR, mE, qY, yx] $[$loc]?; simp [av, ay, dY, bw, gE, fz, aP, af, gC, DL.g2, ax, aQ, ae, ah, aB, GP, gP, AM, eJ, dA, d7, cp, du, jp, lA, aA, dk, B1, iX, Hr, sC, bQ, dF, jN, tq, bO, mM, dC, cM, fF, m8, qx, nO, vS, zY, aT, aW, cK, rQ, iN, gL, CT, aY, uA, d8, bP, dn, jo, da, bp, m6, mP, sD, dW, p9, EU, fo, eR, jl, pT, fD, ja, fH, iL, u6, i4, lL, o8, AR, mE, qY, yx, $args,*] $[$loc]?) | simp [av, ay, dY, bw, gE, fz, aP, af, gC, DL.g2, ax, aQ, ae, ah, aB, GP, gP, AM, eJ, dA, d7, cp, du, jp, lA, aA, dk, B1, iX, Hr, sC, bQ, dF, jN, tq, bO, mM, dC, cM, fF, m8, qx, nO, vS, zY, aT, aW, cK, rQ, iN, gL, CT, aY, uA, d8, bP, dn, jo, da, bp, m6, mP, sD, dW, p9, EU, fo, eR, jl, pT, fD, ja, fH, iL, u6, i4, lL, o8, AR, mE, qY, yx, $args,*] $[$loc]?)
abbrev W3:=Int×Int×Int
def wD (w:W3):D:=.tup [.int w.1,.int w.2.1,.int w.2.2]
def cL (W:List W3):Prop:=∀a,a∈W->∀b,b∈W->a.1=b.1->a.2.1=b.2.1->a.2.2=b.2.2
def nz (w o:W3):Bool:=(decide (o.1=w.1)&&decide (o.2.1=w.2.1))&&!decide (o.2.2=w.2.2)
def iq (acc:List W3)(w:W3):List W3:=if acc.filter (nz w)=[] then acc++[w] else acc
def pj (W:List W3):List W3:=W.foldl iq []
variable{w:W3}
def xS {o:W3}:nz w o=true↔o.1=w.1/\o.2.1=w.2.1/\o.2.2≠w.2.2:=by
 unfold nz;simp[and_assoc]
variable{acc:List W3}
def rM (h:cL acc):cL (iq acc w):=by
 unfold iq
 by_cases q:acc.filter (nz w)=[]
 ·rw[if_pos q];have no:∀o,o∈acc->o.1=w.1->o.2.1=w.2.1->o.2.2=w.2.2:=λo ho e1 e2=>by
   have:=filter_eq_nil_iff.mp q o ho;rw[xS] at this;exact Classical.byContradiction λz=>this ⟨e1,e2,z⟩
  intro a ha b hb e1 e2;rcases mem_append.mp ha with xa|xa <;> rcases mem_append.mp hb with xb|xb
  ·exact h a xa b xb e1 e2
  ·obtain rfl:=mem_singleton.mp xb;exact no a xa e1 e2
  ·obtain rfl:=mem_singleton.mp xa;exact(no b xb e1.symm e2.symm).symm
  ·rw[mem_singleton.mp xa,mem_singleton.mp xb]
 ·rw[if_neg q];exact h
theorem mi:∀(W acc:List W3),cL acc->cL (W.foldl iq acc)
 | [],_,h=>h
 | w::W,acc,h=>mi W (iq acc w) (rM h)
theorem pV:∀(W acc:List W3),(∀x,x∈W.foldl iq acc->x∈acc\/x∈W)/\(W.foldl iq acc).length<=acc.length+W.length
 | [],acc=>⟨λx h=>.inl h,Nat.le_refl _⟩
 | w::W,acc=>by
  obtain⟨h1,h2⟩:=pV W (iq acc w);have a:(∀x,x∈iq acc w->x∈acc\/x=w)/\(iq acc w).length<=acc.length+1:=by
   unfold iq;split
   ·exact⟨λx hx=>(mem_append.mp hx).imp id mem_singleton.mp,by simp⟩
   ·exact⟨λx hx=>.inl hx,by omega⟩
  refine⟨λx hx=>?_,?_⟩
  ·rcases h1 x hx with z|z
   ·rcases a.1 x z with z|z
    ·exact .inl z
    ·exact .inr (by rw[z];exact mem_cons_self)
   ·exact .inr (mem_cons_of_mem _ z)
  ·rw[foldl_cons,length_cons];have:=a.2;omega
variable{W:List W3}
def ut :(∀x,x∈pj W->x∈W)/\(pj W).length<=W.length:=by
 obtain⟨h1,h2⟩:=pV W [];refine⟨λx hx=>(h1 x hx).resolve_left (by simp),?_⟩;have h2:(pj W).length<=0+W.length:=h2;omega
def zt (pot:Int->Int)(W:List W3)(w:W3)(first old:Int):Prop:=
 ((∀o,o∈W->o.2.1=w.2.1->¬o.1<w.1)/\first=0/\old=pot w.2.1)\/
 ∃o,o∈W/\o.2.1=w.2.1/\o.1<w.1/\(∀p,p∈W->p.2.1=w.2.1->p.1<w.1->p.1<=o.1)/\first=o.1+1/\old=o.2.2
variable{pot:Int->Int}
def eI {f o f' o':Int}(ha:cL W)(h:zt pot W w f o)(h':zt pot W w f' o'):f=f'/\o=o':=by
 rcases h with⟨n,rfl,rfl⟩|⟨p,hp,e1,e2,e3,rfl,rfl⟩ <;> rcases h' with⟨n',rfl,rfl⟩|⟨q,hq,g1,g2,g3,rfl,rfl⟩
 ·exact⟨rfl,rfl⟩
 ·exact absurd g2 (n q hq g1)
 ·exact absurd e2 (n' p hp e1)
 ·have a:=e3 q hq g1 g2;have b:=g3 p hp e1 e2;have e:p.1=q.1:=by omega
  exact⟨by omega,ha p hp q hq e (by omega)⟩
def zm (pot:Int->Int)(W:List W3)(ok:W3->Prop)(z:List Int):Prop:=∃w f o,w∈W/\ok w/\zt pot W w f o/\o≠w.2.2/\z=[f,w.1,w.2.1,w.2.2]
def vk {a b:List (List Int)}(ha:a.Nodup)(hb:b.Nodup)(h:∀z,z∈a↔z∈b):a9 a=a9 b:=
 dL ((aL a).trans (((perm_ext_iff_of_nodup ha hb).mpr h).trans (aL b).symm)) (dR a) (dR b)
abbrev En:=Int×Nat×List (Int×Int)
def zu (e:En):cr×D:=(.inl e.1,.mr e.2.1)
def nu (p:Int×Int):cr×D:=(.inl p.1,.int p.2)
structure iU (M N:aw)(told:List En):Prop where
 at_:∃R,N=M++.dK (told.map zu)::R/\R.all dh=true
 ent:∀e,e∈told->M.length<e.2.1/\N[e.2.1]?=Z (.dK (e.2.2.map nu))
 ndi:(told.map λe=>e.1).Nodup
 ndj:(told.map λe=>e.2.1).Nodup
structure wc (P:List W3)(told:List En):Prop where
 nd:∀e,e∈told->(e.2.2.map λp=>p.1).Nodup
 mem:∀e,e∈told->∀r h,(r,h)∈e.2.2↔(r,e.1,h)∈P
 cov:∀w,w∈P->∃e,e∈told/\e.1=w.2.1
def zq (k l:Nat)(told:List En):Prop:=told.length<=k/\∀e,e∈told->e.2.2.length<=l/\0<=e.1/\e.1<16
theorem k9 {α β:Type}{f:α->β}:∀{l:List α},(l.map f).Nodup->∀{a b:α},a∈l->b∈l->f a=f b->a=b
 | [],_,_,_,h,_,_=>by cases h
 | x::l,hn,a,b,ha,hb,e=>by
  rw[map_cons,nodup_cons] at hn;rcases mem_cons.mp ha with xa|xa <;> rcases mem_cons.mp hb with xb|xb
  ·rw[xa,xb]
  ·exact absurd (mem_map.mpr ⟨b,xb,by rw[<-e,xa]⟩) hn.1
  ·exact absurd (mem_map.mpr ⟨a,xa,by rw[e,xb]⟩) hn.1
  ·exact k9 hn.2 xa xb e
variable{d:D}
def jC {α κ:Type}[DecidableEq κ]{f:α->κ×D}{l:List α}{k:κ}(h:fg (l.map f) k=Z d):∃a,a∈l/\(f a).1=k/\(f a).2=d:=by
 unfold fg at h;obtain⟨kv,e1,e2⟩:=Option.map_eq_some_iff.mp h;obtain⟨a,ha,rfl⟩:=mem_map.mp (mem_of_find?_eq_some e1);have:=find?_some e1;exact⟨a,ha,of_decide_eq_true this,e2⟩
def jG {α κ:Type}[DecidableEq κ]{f:α->κ×D}{l:List α}{k:κ}(h:fg (l.map f) k=Y):∀a,a∈l->(f a).1≠k:=by
 unfold fg at h;intro a ha e;have:=find?_eq_none.mp (Option.map_eq_none_iff.mp h) (f a) (mem_map.mpr ⟨a,ha,rfl⟩);rw[decide_eq_true e] at this;exact this rfl
variable{ρ:bv}{M:aw}
def mT {go gy gz:GE}{M1:aw}{i:Nat}{y z:D}(h1:go ρ M=.ok (.mr i) M)(h2:lZ M[i]?=true)(h3:gy ρ M=.ok y M)(h4:gz ρ M=.ok z M1):d9 go gy gz ρ M=eV i y z M1:=by
 unfold d9;rw[h1,ai];dsimp only;rw[if_pos h2,h3,ai,h4,ai]
def AQ (hs:List (Int×Int)):dh (.dK (hs.map nu))=true:=by
 show((hs.map nu).all λp=>aZ 30 p.2)=true;refine all_eq_true.mpr λx hx=>?_
 obtain⟨p,_,rfl⟩:=mem_map.mp hx;rfl
variable{N:aw}{told:List En}
def iU.get (R:iU M N told):N[M.length]?=Z (.dK (told.map zu)):=by
 obtain⟨r,e,_⟩:=R.at_;rw[e];simp
def iU.lt (R:iU M N told):M.length<N.length:=(List.getElem?_eq_some_iff.mp R.get).1
variable{i:Int}{P:List W3}{k:Nat}
def Iz {l:Nat}(R:iU M N told)(H:wc P told)(L:zq k l told)(hk:k<100000)(hi:0<=i/\i<16)(h1:ρ[1]?=Z (Z (.mr M.length)))(h3:ρ[3]?=Z (Z (.int i))) :
  ∃N1 told1 j hs,d9 (af 1) (af 3) mj ρ N=.ok (.mr j) N1/\iU M N1 told1/\wc P told1/\zq (k+1) l told1/\(i,j,hs)∈told1:=by
 have gv:∀(n:Nat) (d:D) (N:aw),ρ[n]?=Z (Z d)->af n ρ N=.ok d N:=λn d N h=>by unfold af;rw[h]
 have e0:=mT (gy:=af 3) (gz:=mj) (M1:=N++[.dK []]) (z:=.mr N.length) (gv 1 _ N h1) (by rw[R.get];rfl) (gv 3 _ N h3) rfl;obtain⟨r,eN,pr⟩:=id R.at_;have eN2:N++[.dK []]=M++.dK (told.map zu)::(r++[.dK []]):=by rw[eN];simp
 have pr2:(r++[MO.dK []]).all dh=true:=by rw[all_append,pr];rfl
 have gl:∀j o,N[j]?=Z o->(N++[MO.dK []])[j]?=Z o:=λj o h=>by rw[getElem?_append_left (List.getElem?_eq_some_iff.mp h).1];exact h
 cases q:fg (told.map zu) (.inl i) with
 | some d=>
  obtain⟨e,he,e1,e2⟩:=jC q;have e1:e.1=i:=by injection e1
  have e2:D.mr e.2.1=d:=e2;refine⟨N++[.dK []],told,e.2.1,e.2.2,?_,⟨⟨_,eN2,pr2⟩,λe he=>⟨(R.ent e he).1,gl _ _ (R.ent e he).2⟩,R.ndi,R.ndj⟩,H,⟨Nat.le_succ_of_le L.1,L.2⟩,by rw[<-e1];exact he⟩;rw[e0,jW (gl _ _ R.get) (show fj (.int i)=Z (.inl i) from rfl) q,e2]
 | none=>
  have no:=jG q;have no:∀e,e∈told->e.1≠i:=λe he z=>no e he (by unfold zu;rw[z])
  refine⟨(N++[MO.dK []]).set M.length (MO.dK (told.map zu++[(Sum.inl i,D.mr N.length)])),told++[(i,N.length,[])],N.length,[],?_,⟨⟨r++[.dK []],?_,pr2⟩,λe he=>?_,?_,?_⟩,⟨λe he=>?_,λe he=>?_,λw hw=>?_⟩,⟨by rw[length_append];exact Nat.add_le_add_right L.1 1,λe he=>?_⟩,mem_append_right _ mem_cons_self⟩
  ·rw[e0];exact j6 (gl _ _ R.get) (show fj (.int i)=Z (.inl i) from rfl) q (by rw[length_map];have:=L.1;omega)
  ·rw[eN2,set_append_right _ _ (Nat.le_refl _),Nat.sub_self,map_append];rfl
  ·have hl:=R.lt;rcases mem_append.mp he with he|he
   ·obtain⟨a,b⟩:=R.ent e he;refine⟨a,?_⟩;rw[getElem?_set_ne (by omega)];exact gl _ _ b
   ·obtain rfl:=mem_singleton.mp he;refine⟨hl,?_⟩;show((N++[MO.dK []]).set M.length _)[N.length]?=_;rw[getElem?_set_ne (by omega)];simp
  ·rw[map_append,nodup_append];refine⟨R.ndi,by simp,λa ha b hb=>?_⟩;obtain⟨e,he,rfl⟩:=mem_map.mp ha;obtain rfl:=mem_singleton.mp hb;exact no e he
  ·rw[map_append,nodup_append];refine⟨R.ndj,by simp,λa ha b hb=>?_⟩;obtain⟨e,he,rfl⟩:=mem_map.mp ha;obtain rfl:=mem_singleton.mp hb;have:=(List.getElem?_eq_some_iff.mp (R.ent e he).2).1;show e.2.1≠N.length;omega
  ·rcases mem_append.mp he with he|he
   ·exact H.nd e he
   ·obtain rfl:=mem_singleton.mp he;simp
  ·rcases mem_append.mp he with he|he
   ·exact H.mem e he
   ·obtain rfl:=mem_singleton.mp he;intro r h;refine⟨λz=>(by cases z),λz=>?_⟩;obtain⟨e,he,e1⟩:=H.cov _ z;exact absurd e1 (no e he)
  ·obtain⟨e,he,e1⟩:=H.cov w hw;exact⟨e,mem_append_left _ he,e1⟩
  ·rcases mem_append.mp he with he|he
   ·exact L.2 e he
   ·obtain rfl:=mem_singleton.mp he;exact⟨Nat.zero_le _,hi⟩
def vP (i r h:Int)(e:En):En:=if e.1=i then(e.1,e.2.1,e.2.2++[(r,h)]) else e
def mQ (i r h:Int)(e:En):(vP i r h e).1=e.1/\(vP i r h e).2.1=e.2.1:=by
 unfold vP;split <;> exact⟨rfl,rfl⟩
variable{r:Int}
def pc {h:Int}{e:En}(q:e.1=i):vP i r h e=(e.1,e.2.1,e.2.2++[(r,h)]):=if_pos q
def kR {h:Int}{e:En}(q:e.1≠i):vP i r h e=e:=if_neg q
variable{j:Nat}{hs:List (Int×Int)}
def Hy {l:Nat}{h:Int}(R:iU M N told)(H:wc P told)(L:zq k l told)(hk:l<100000)(he:(i,j,hs)∈told) :
  (∃h',(r,i,h')∈P/\eV j (.int r) (.int h) N=.ok (.int h') N/\(h'=h->wc (P++[(r,i,h)]) told))\/
  ∃N1 told1,eV j (.int r) (.int h) N=.ok (.int h) N1/\iU M N1 told1/\wc (P++[(r,i,h)]) told1/\zq k (l+1) told1:=by
 obtain⟨hj,gj⟩:=R.ent _ he;have hj:M.length<j:=hj;have gj:N[j]?=Z (.dK (hs.map nu)):=gj;cases q:fg (hs.map nu) (.inl r) with
 | some d=>
  obtain⟨p,hp,e1,e2⟩:=jC q;have e1:p.1=r:=by injection e1
  have e2:D.int p.2=d:=e2;have hP:(r,i,p.2)∈P:=(H.mem _ he r p.2).mp (by rw[<-e1];exact hp);refine .inl ⟨p.2,hP,by rw[jW gj (show fj (.int r)=Z (.inl r) from rfl) q,e2],λz=>⟨H.nd,λe he r' h'=>?_,λw hw=>?_⟩⟩
  ·rw[H.mem e he,mem_append,mem_singleton];refine⟨.inl,λx=>x.elim id λx=>?_⟩;rw[x,<-z];exact hP
  ·rcases mem_append.mp hw with hw|hw
   ·exact H.cov w hw
   ·obtain rfl:=mem_singleton.mp hw;exact⟨_,he,rfl⟩
 | none=>
  have no:=jG q;have no:∀p,p∈hs->p.1≠r:=λp hp z=>no p hp (by unfold nu;rw[z])
  have uq:∀e,e∈told->e.1=i->e=(i,j,hs):=λe h1 h2=>k9 R.ndi h1 he h2
  have uj:∀e,e∈told->e.1≠i->e.2.1≠j:=λe h1 h2 z=>h2 (by rw[k9 R.ndj h1 he z])
  have ki:(told.map (vP i r h)).map (λe=>e.1)=told.map λe=>e.1:=by
   rw[map_map];exact map_congr_left λe _=>(mQ i r h e).1
  have kj:(told.map (vP i r h)).map (λe=>e.2.1)=told.map λe=>e.2.1:=by
   rw[map_map];exact map_congr_left λe _=>(mQ i r h e).2
  have kk:(told.map (vP i r h)).map zu=told.map zu:=by
   rw[map_map];exact map_congr_left λe _=>by show(Sum.inl (vP i r h e).1,D.mr (vP i r h e).2.1)=_;rw[(mQ i r h e).1,(mQ i r h e).2];rfl
  obtain⟨rr,eN,pr⟩:=id R.at_;refine .inr ⟨N.set j (.dK ((hs++[(r,h)]).map nu)),told.map (vP i r h),?_,⟨⟨rr.set (j-M.length-1) (.dK ((hs++[(r,h)]).map nu)),?_,?_⟩,λe hm=>?_,by rw[ki];exact R.ndi,by rw[kj];exact R.ndj⟩,⟨λe hm=>?_,λe hm r' h'=>?_,λw hw=>?_⟩,⟨by rw[length_map];exact L.1,λe hm=>?_⟩⟩
  ·rw[j6 gj (show fj (.int r)=Z (.inl r) from rfl) q (by rw[length_map];have:hs.length<=l:=(L.2 _ he).1;omega),map_append];rfl
  ·rw[kk,eN,set_append_right _ _ (by omega),show j-M.length=(j-M.length-1)+1 by omega];rfl
  ·refine all_eq_true.mpr λx hx=>?_
   rcases mem_or_eq_of_mem_set hx with hx|rfl
   ·exact all_eq_true.mp pr x hx
   ·exact AQ _
  ·obtain⟨e0,h0,rfl⟩:=mem_map.mp hm;obtain⟨a,b⟩:=R.ent e0 h0
   by_cases z:e0.1=i
   ·rw[pc z,uq e0 h0 z];exact⟨hj,by rw[getElem?_set_self (List.getElem?_eq_some_iff.mp gj).1]⟩
   ·rw[kR z];exact⟨a,by rw[getElem?_set_ne (λx=>uj e0 h0 z x.symm)];exact b⟩
  ·obtain⟨e0,h0,rfl⟩:=mem_map.mp hm
   by_cases z:e0.1=i
   ·have n0:=H.nd e0 h0;rw[pc z];rw[uq e0 h0 z] at n0 ⊢;show((hs++[(r,h)]).map λp=>p.1).Nodup;rw[map_append,nodup_append];refine⟨n0,by simp,λa ha b hb=>?_⟩;obtain⟨p,hp,rfl⟩:=mem_map.mp ha;obtain rfl:=mem_singleton.mp hb;exact no p hp
   ·rw[kR z];exact H.nd e0 h0
  ·obtain⟨e0,h0,rfl⟩:=mem_map.mp hm;have m0:=H.mem e0 h0 r' h'
   by_cases z:e0.1=i
   ·rw[pc z];show(r',h')∈e0.2.2++[(r,h)]↔(r',e0.1,h')∈P++[(r,i,h)];rw[mem_append,mem_append,m0,mem_singleton,mem_singleton,z];simp
   ·rw[kR z,m0,mem_append,mem_singleton];refine⟨.inl,λx=>x.elim id λx=>absurd ?_ z⟩;rw[Prod.mk.injEq,Prod.mk.injEq] at x;exact x.2.1
  ·have mk:∀e0,e0∈told->∃e,e∈told.map (vP i r h)/\e.1=e0.1:=λe0 h0=>⟨_,mem_map.mpr ⟨e0,h0,rfl⟩,(mQ i r h e0).1⟩
   rcases mem_append.mp hw with hw|hw
   ·obtain⟨e0,h0,e1⟩:=H.cov w hw;obtain⟨e,a,b⟩:=mk e0 h0;exact⟨e,a,b.trans e1⟩
   ·obtain rfl:=mem_singleton.mp hw;exact mk _ he
  ·obtain⟨e0,h0,rfl⟩:=mem_map.mp hm;have:=L.2 e0 h0;unfold vP;split
   ·refine⟨?_,this.2⟩;show(e0.2.2++[(r,h)]).length<=_;rw[length_append];exact Nat.add_le_add_right this.1 1
   ·exact⟨Nat.le_succ_of_le this.1,this.2⟩
def de (w:W3):Prop:=(0<=w.1/\w.1<40)/\0<=w.2.1/\w.2.1<16
def A6:∀n:Fin 40,((toString ((n.val:Nat):Int):Str)).length<=10:=by decide +kernel
variable{g:GE}
def nF {a:Int}(h0:0<=a)(h1:a<40)(hg:g ρ M=.ok (.int a) M):∃x:Str,jl g ρ M=.ok (.str x) M/\x.length<=10:=by
 obtain⟨n,rfl⟩:=Int.eq_ofNat_of_zero_le h0;have hn:n<40:=by omega
 have l:((n:Int)).natAbs.log2<1920:=by
  have h2:((n:Int)).natAbs<2 ^ 20:=by omega
  by_cases z:((n:Int)).natAbs=0
  ·rw[z];decide
  ·have:=(Nat.log2_lt z).mpr h2;omega
 refine⟨_,?_,A6 ⟨n,hn⟩⟩;unfold jl;rw[hg,ai];unfold pT;dsimp only;rw[if_pos l]
theorem qZ {ρ:bv}{M:aw}:∀(gs:List GE) (acc:Str),(∀g,g∈gs->∃y:Str,g ρ M=.ok (.str y) M/\y.length<=100)->acc.length+100*gs.length<=10000->∃x,fD gs acc ρ M=.ok (.str x) M
 | [],acc,_,_=>⟨acc,rfl⟩
 | g::gs,acc,h,hl=>by
  obtain⟨y,ey,ly⟩:=h g mem_cons_self;rw[length_cons] at hl;have l2:(acc++y).length<=acc.length+100:=by rw[Str.length_append];omega
  obtain⟨x,ex⟩:=qZ gs (acc++y) (λg hg=>h g (mem_cons_of_mem _ hg)) (by omega);refine⟨x,?_⟩;show((g ρ M).bind λd M1=>match d with | .str y=>if(acc++y).length<=sizeLine then fD gs (acc++y) ρ M1 else .bad|_=>.bad)=_;rw[ey,ai];dsimp only;rw[if_pos (fE (by omega)),ex]
def Ez (hr:0<=r/\r<40)(hi:0<=i/\i<16)(h2:ρ[2]?=Z (Z (.int r)))(h3:ρ[3]?=Z (Z (.int i))) :
  ∃x,(fD [(gC (.str "ink ")),(jl (af 3)),(gC (.str " shall have two hues on row ")),(jl (af 2))] Str.empty) ρ M=.ok (.str x) M:=by
 have gv:∀(n:Nat) (d:D) (N:aw),ρ[n]?=Z (Z d)->af n ρ N=.ok d N:=λn d N h=>by unfold af;rw[h]
 obtain⟨x,ex,lx⟩:=nF (g:=af 3) (ρ:=ρ) (M:=M) hi.1 (by omega) (gv 3 _ M h3);obtain⟨y,ey,ly⟩:=nF (g:=af 2) (ρ:=ρ) (M:=M) hr.1 (by omega) (gv 2 _ M h2);have s1:("ink ":Str).length<=100:=by decide
 have s2:(" shall have two hues on row ":Str).length<=100:=by decide
 have s0:(Str.empty).length=0:=by decide
 refine qZ _ _ (λg hg=>?_) (by rw[s0];decide);simp only[mem_cons,not_mem_nil,or_false] at hg;rcases hg with rfl|rfl|rfl|rfl
 ·exact⟨_,rfl,s1⟩
 ·exact⟨x,ex,by omega⟩
 ·exact⟨_,rfl,s2⟩
 ·exact⟨y,ey,by omega⟩
theorem Af {a x:Option D}(R:iU M N told)(H:wc P told)(L:zq k k told)(hk:k<10000)(hw:de w) :
  (∃E h',aH [a,Z (.mr M.length),Z (.int w.1),Z (.int w.2.1),Z (.int w.2.2),x] N=.err "Clash" (M++E)/\(w.1,w.2.1,h')∈P/\h'≠w.2.2)\/
  ∃N1 told1 y,aH [a,Z (.mr M.length),Z (.int w.1),Z (.int w.2.1),Z (.int w.2.2),x] N=.ok (.nx [a,Z (.mr M.length),Z (.int w.1),Z (.int w.2.1),Z (.int w.2.2),y]) N1/\iU M N1 told1/\wc (P++[w]) told1/\zq (k+1) (k+1) told1:=by
 obtain⟨N1,told1,j,hs,e1,R1,H1,L1,he⟩:=Iz (ρ:=[a,Z (.mr M.length),Z (.int w.1),Z (.int w.2.1),Z (.int w.2.2),x]) (i:=w.2.1) R H L (by omega) hw.2 rfl rfl;have dj:lZ N1[j]?=true:=by rw[(R1.ent _ he).2];rfl
 have e2:=mT (ρ:=[a,Z (.mr M.length),Z (.int w.1),Z (.int w.2.1),Z (.int w.2.2),Z (.mr j)]) (M:=N1) (go:=af 5) (gy:=af 2) (gz:=af 4) (y:=.int w.1) (z:=.int w.2.2) rfl dj rfl rfl;have body:∀v N2,eV j (.int w.1) (.int w.2.2) N1=.ok (.int v) N2->aH [a,Z (.mr M.length),Z (.int w.1),Z (.int w.2.1),Z (.int w.2.2),x] N=dY (λ_ M=>.ok (!decide (v=w.2.2)) M) (eR "Clash" (fD [(gC (.str "ink ")),(jl (af 3)),(gC (.str " shall have two hues on row ")),(jl (af 2))] Str.empty)) aP [a,Z (.mr M.length),Z (.int w.1),Z (.int w.2.1),Z (.int w.2.2),Z (.mr j)] N2:=λv N2 e=>by
  unfold aH;refine(az (aF e1)).trans ?_;have t:aB (g2 (aU true) (d9 (af 5) (af 2) (af 4)) (af 4)) [a,Z (.mr M.length),Z (.int w.1),Z (.int w.2.1),Z (.int w.2.2),Z (.mr j)] N1=.ok (!decide (v=w.2.2)) N2:=aE (aq (e2.trans e) rfl (jq _ _ _));show dY _ _ _ [a,Z (.mr M.length),Z (.int w.1),Z (.int w.2.1),Z (.int w.2.2),Z (.mr j)] N1=_;cases q:(!decide (v=w.2.2)) with
  | true=>rw[jF (t.trans (by rw[q])),jF rfl]
  | false=>rw[dZ (t.trans (by rw[q])),dZ rfl]
 rcases Hy (r:=w.1) (h:=w.2.2) R1 H1 L1 (by omega) he with⟨h',hP,e,hH⟩|⟨N2,told2,e,R2,H2,L2⟩
 ·by_cases z:h'=w.2.2
  ·refine .inr ⟨N1,told1,Z (.mr j),?_,R1,hH z,⟨L1.1,λe he=>⟨Nat.le_trans (L1.2 e he).1 (by omega),(L1.2 e he).2⟩⟩⟩;rw[body _ _ e,decide_eq_true z];rfl
  ·obtain⟨m,em⟩:=Ez (ρ:=[a,Z (.mr M.length),Z (.int w.1),Z (.int w.2.1),Z (.int w.2.2),Z (.mr j)]) (M:=N1) hw.1 hw.2 rfl rfl;obtain⟨r,eN,_⟩:=R1.at_;refine .inl ⟨.dK (told1.map zu)::r,h',?_,hP,z⟩;rw[body _ _ e,decide_eq_false z];show eR "Clash" _ _ N1=_;unfold eR;rw[em,ai,eN]
 ·refine .inr ⟨N2,told2,Z (.mr j),?_,R2,H2,L2⟩;rw[body _ _ e,decide_eq_true rfl];rfl
theorem tY {M:aw}{a:Option D}{ds0:List D}:∀(Q P:List W3) (k:Nat) (N:aw) (told:List En) (x2 x3 x4 x5:Option D),iU M N told->wc P told->zq k k told->k+Q.length<10000->(∀w,w∈Q->de w)->
  (∃E,bb ⟨ds0,Y⟩ (dn [2,3,4]) aH (Q.map wD) [a,Z (.mr M.length),x2,x3,x4,x5] N=.err "Clash" (M++E)/\¬cL (P++Q))\/
  ∃N1 told1 y2 y3 y4 y5,bb ⟨ds0,Y⟩ (dn [2,3,4]) aH (Q.map wD) [a,Z (.mr M.length),x2,x3,x4,x5] N=.ok (.nx [a,Z (.mr M.length),y2,y3,y4,y5]) N1/\iU M N1 told1/\wc (P++Q) told1/\zq (k+Q.length) (k+Q.length) told1
 | [],P,k,N,told,x2,x3,x4,x5,R,H,L,_,_=>.inr ⟨N,told,x2,x3,x4,x5,rfl,R,by rw[append_nil];exact H,L⟩
 | w::Q,P,k,N,told,x2,x3,x4,x5,R,H,L,hk,hs=>by
  rw[length_cons] at hk;have st:∀o,aH [a,Z (.mr M.length),Z (.int w.1),Z (.int w.2.1),Z (.int w.2.2),x5] N=o->bb ⟨ds0,Y⟩ (dn [2,3,4]) aH ((w::Q).map wD) [a,Z (.mr M.length),x2,x3,x4,x5] N=o.bind λf M1=>match f with
    | .nx ρ2=>bb ⟨ds0,Y⟩ (dn [2,3,4]) aH (Q.map wD) ρ2 M1
    | .ct ρ2=>bb ⟨ds0,Y⟩ (dn [2,3,4]) aH (Q.map wD) ρ2 M1
    | .bk ρ2=>.ok (.nx ρ2) M1
    | .rt d=>.ok (.rt d) M1:=λo e=>by
   rw[<-e,map_cons,bb,if_pos dX];rfl
  have ap:P++w::Q=P++[w]++Q:=by rw[append_assoc];rfl
  rcases Af (a:=a) (x:=x5) R H L (by omega) (hs w mem_cons_self) with⟨E,h',e,hP,ne⟩|⟨N1,told1,y,e,R1,H1,L1⟩
  ·refine .inl ⟨E,st _ e,λz=>ne ?_⟩;exact z _ (mem_append_left _ hP) w (mem_append_right _ mem_cons_self) rfl rfl
  ·rw[st _ e,ap];have e2:k+(w::Q).length=k+1+Q.length:=by rw[length_cons];omega
   rw[e2];exact tY Q (P++[w]) (k+1) N1 told1 _ _ _ _ R1 H1 L1 (by omega) λv hv=>hs v (mem_cons_of_mem _ hv)
def n9 (H:wc P told):cL P:=λa ha b hb e1 e2=>by
 obtain⟨e,he,ei⟩:=H.cov a ha;have m1:(a.1,a.2.2)∈e.2.2:=(H.mem e he a.1 a.2.2).mpr (by rw[ei];exact ha);have m2:(b.1,b.2.2)∈e.2.2:=(H.mem e he b.1 b.2.2).mpr (by rw[ei,e2];exact hb);have:=k9 (H.nd e he) m1 m2 e1;injection this
def AC (hs:∀w,w∈W->de w)(hl:W.length<=200) :
  (∃E,ba [.lst (W.map wD)] M=.err "Clash" (M++E)/\¬cL W)\/∃N told,ba [.lst (W.map wD)] M=.ok (.mr M.length) N/\iU M N told/\wc W told/\zq 200 200 told:=by
 have R0:iU M (M++[.dK []]) []:=⟨⟨[],rfl,rfl⟩,(λe he=>by cases he),.nil,.nil⟩;have H0:wc [] []:=⟨(λe he=>by cases he),(λe he=>by cases he),(λw hw=>by cases hw)⟩;have g:∀o,bb ⟨W.map wD,Y⟩ (dn [2,3,4]) aH (W.map wD) [Z (.lst (W.map wD)),Z (.mr M.length),Y,Y,Y,Y] (M++[.dK []])=o->cf [Z (.lst (W.map wD)),Y,Y,Y,Y,Y] M=av (λ_ _=>o) (bw (af 1)) [Z (.lst (W.map wD)),Z (.mr M.length),Y,Y,Y,Y] (M++[.dK []]):=λo e=>by
  unfold cf;refine(az (aF (d:=.mr M.length) (M1:=M++[.dK []]) rfl)).trans ?_;show av _ _ [Z (.lst (W.map wD)),Z (.mr M.length),Y,Y,Y,Y] _=_;unfold av;rw[eZ (cE (xs:=W.map wD) rfl) e]
 show(∃E,bQ (cf [Z (.lst (W.map wD)),Y,Y,Y,Y,Y] M)=.err "Clash" (M++E)/\_)\/∃N told,bQ (cf [Z (.lst (W.map wD)),Y,Y,Y,Y,Y] M)=_/\_;rcases tY (M:=M) (a:=Z (.lst (W.map wD))) (ds0:=W.map wD) W [] 0 (M++[.dK []]) [] Y Y Y Y R0 H0 ⟨Nat.le_refl _,λe he=>by cases he⟩ (by omega) hs with⟨E,e,na⟩|⟨N1,told1,y2,y3,y4,y5,e,R1,H1,L1⟩
 ·exact .inl ⟨E,by rw[g _ e];rfl,na⟩
 ·exact .inr ⟨N1,told1,by rw[g _ e];rfl,R1,H1,⟨Nat.le_trans L1.1 (by omega),λe he=>⟨Nat.le_trans (L1.2 e he).1 (by omega),(L1.2 e he).2⟩⟩⟩
theorem nK:∀l:List Int,kn (l.map D.int)=Z l
 | []=>rfl
 | a::l=>by
  show(kn (l.map D.int)).map (a::·)=_;rw[nK l];rfl
theorem mY:∀l:List Int,iY (l.map D.int)=Z l
 | []=>rfl
 | a::l=>by
  show(iY (l.map D.int)).map (a::·)=_;rw[mY l];rfl
theorem mU:∀zs:List (List Int),(∀z,z∈zs->z≠[])->iK (zs.map aR)=Z zs
 | [],_=>rfl
 | z::zs,h=>by
  have ih:=mU zs λy hy=>h y (mem_cons_of_mem _ hy)
  cases z with
  | nil=>exact absurd rfl (h [] mem_cons_self)
  | cons i z=>
   rw[map_cons,iK,show yE (aR (i::z))=Z (i::z) from mY (i::z),ih]
variable{zs:List (List Int)}
def lR (hk:M[k]?=Z (.lst (zs.map aR)))(hz:∀z,z∈zs->z≠[])(hl:zs.length<=100000):dE [.mr k] M=.ok (.lst ((a9 zs).map aR)) M:=by
 cases zs with
 | nil=>
  have e:a9 []=[]:=List.Perm.eq_nil (aL []);have e2:aO []=[]:=by
   show(a9 []).map _=[];rw[e];rfl
  unfold dE;dsimp only;rw[hk,e];show(if(0:Nat)<=100000 then aN.ok (D.lst ((aO []).map D.int)) M else .bad)=_;rw[e2,if_pos (Nat.zero_le _)];rfl
 | cons z zs=>
  unfold dE;dsimp only;rw[hk];dsimp only;rw[show kn ((z::zs).map aR)=Y from rfl];dsimp only;rw[mU _ hz];dsimp only;rw[if_pos hl]
theorem qE:∀hs:List (Int×Int),nG (hs.map nu)=Z (hs.map λp=>p.1)
 | []=>rfl
 | p::hs=>by
  show(nG (hs.map nu)).map (p.1::·)=_;rw[qE hs];rfl
def sM (hk:M[k]?=Z (.dK (hs.map nu)))(hl:hs.length<=100000):dE [.mr k] M=.ok (.lst ((aO (hs.map λp=>p.1)).map D.int)) M:=by
 unfold dE;dsimp only;rw[hk];dsimp only;rw[qE];dsimp only;rw[if_pos (by rw[length_map];exact hl)]
variable{ns:List Int}
def fQ {x:Int}:x∈aO ns↔x∈ns:=by
 unfold aO;have p:((a9 (ns.map λn=>[n])).map λz=>z.headD 0).Perm ((ns.map λn=>[n]).map λz=>z.headD 0):=(aL _).map _;rw[p.mem_iff,map_map];show x∈ns.map (λn=>n)↔_;rw[map_id']
def rm (hn:ns.Nodup):(aO ns).Pairwise (·<·):=by
 have p:(aO ns).Perm ns:=by
  unfold aO;refine((aL _).map _).trans ?_;rw[map_map];show(ns.map λn=>n).Perm ns;rw[map_id']
 have nd:(aO ns).Pairwise (·≠·):=p.nodup_iff.mpr hn;have le:(aO ns).Pairwise (·<=·):=by
  unfold aO;rw[pairwise_map];have up:=dR (ns.map λn=>[n]);refine List.Pairwise.imp_of_mem (λ{a b} ha hb h=>?_) up;obtain⟨x,_,rfl⟩:=mem_map.mp ((aL _).mem_iff.mp ha);obtain⟨y,_,rfl⟩:=mem_map.mp ((aL _).mem_iff.mp hb);show x<=y;refine Int.not_lt.mp λz=>?_
  have:HT.lexLt [y] [x]=true:=by
   simp[HT.lexLt,z];omega
  rw[this] at h;cases h
 exact(List.Pairwise.and le nd).imp λ{a b} h=>by have:=h.1;have:=h.2;omega
def F6 (e:En):D:=.tup [.int e.1,.mr (e.2.1-1)]
def uM {R:aw}{x:MO}{p:Nat}:(M++x::R)[M.length+1+p]?=R[p]?:=by
 rw[getElem?_append_right (by omega),show M.length+1+p-M.length=p+1 by omega,getElem?_cons_succ]
theorem yg {x:MO}(R:iU (M++[x]) N told)(hM:M.all dh=true)(hx:dh x=true)(e:g ρ (M++[x])=.ok (.mr (M++[x]).length) N) :
  ∃R',lB g ρ (M++[x])=.ok ⟨told.map F6,Y⟩ (M++x::R')/\∀e,e∈told->∃p,e.2.1-1=M.length+1+p/\R'[p]?=Z (.dK (e.2.2.map nu)):=by
 obtain⟨r,eN,pr⟩:=R.at_;have pM:(M++[x]).all dh=true:=by rw[all_append,hM];simp[hx]
 refine⟨r,?_,λe he=>?_⟩
 ·unfold lB;rw[e,ai];unfold CM;dsimp only;rw[R.get];dsimp only;rw[if_pos ?_]
  ·have e1:N.eraseIdx (M++[x]).length=M++x::r:=by
    rw[eN,eraseIdx_append_of_length_le (Nat.le_refl _),Nat.sub_self];simp
   rw[e1];unfold He;rw[map_map];rfl
  ·refine⟨Nat.le_refl _,?_,?_,?_⟩
   ·rw[eN,take_left];exact all_eq_true.mpr λy hy=>jv (all_eq_true.mp pM y hy)
   ·rw[eN,show(M++[x]).length+1=(M++[x]).length+1 from rfl,drop_append];simp;exact⟨λy hy=>all_eq_true.mp pM y (mem_of_mem_drop hy),λy hy=>all_eq_true.mp pr y hy⟩
   ·refine all_eq_true.mpr λy hy=>?_
    obtain⟨e,he,rfl⟩:=mem_map.mp hy;exact decide_eq_true (R.ent e he).1
 ·obtain⟨a,b⟩:=R.ent e he;rw[length_append] at a;have a:M.length+1<e.2.1:=a;refine⟨e.2.1-1-(M.length+1),by omega,?_⟩;rw[eN,getElem?_append_right (by rw[length_append];show M.length+1<=_;omega),length_append] at b;have b:(MO.dK (told.map zu)::r)[e.2.1-(M.length+1)]?=_:=b;rw[show e.2.1-(M.length+1)=e.2.1-1-(M.length+1)+1 by omega,getElem?_cons_succ] at b;exact b
def yo {h:Int}(hn:(hs.map λp=>p.1).Nodup)(hm:(r,h)∈hs):fg (hs.map nu) (.inl r)=Z (.int h):=by
 cases q:fg (hs.map nu) (.inl r) with
 | none=>exact absurd rfl (jG q (r,h) hm)
 | some d=>
  obtain⟨p,hp,e1,e2⟩:=jC q;have e1:p.1=r:=by injection e1
  have:p=(r,h):=k9 hn hp hm e1;rw[this] at e2;rw[<-e2];rfl
def Az {h:Int}(hn:(hs.map λp=>p.1).Nodup)(hm:(r,h)∈hs)(hj:N[j]?=Z (.dK (hs.map nu))):fP (.mr j) (.int r) N=.ok (.int h) N:=by
 unfold fP;dsimp only;rw[hj];dsimp only;rw[show fj (.int r)=Z (.inl r) from rfl];dsimp only;rw[yo hn hm]
structure Fp (pot:Int->Int)(W:List W3)(ink:Int)(zs0:List (List Int))(pre:List Int)(zs:List (List Int)):Prop where
 nd:zs.Nodup
 mem:∀z,z∈zs↔z∈zs0\/zm pot W (λw=>w.2.1=ink/\w.1∈pre) z
 len:zs.length<=zs0.length+pre.length
theorem ui {pot:Int->Int}{W:List W3}{ink:Int}{zs0:List (List Int)}{rs:List Int}{hs:List (Int×Int)}{M R:aw}{p:Nat}{ds0:List D}{a0 a1:Option D}(ag:cL W)
  (hz0:∀z,z∈zs0->zm pot W (λw=>w.2.1≠ink) z) (hlt:rs.Pairwise (·<·)) (hmem:∀r,r∈rs->∃h,(r,h)∈hs) (hcov:∀w,w∈W->w.2.1=ink->w.1∈rs) (hnd:(hs.map λp=>p.1).Nodup) (hW:∀r h,(r,h)∈hs->(r,ink,h)∈W) (hp:R[p]?=Z (.dK (hs.map nu))) (hl:zs0.length+rs.length<100000) :
  ∀(suf pre:List Int) (zs:List (List Int)) (first hue:Int) (x7:Option D),rs=pre++suf->Fp pot W ink zs0 pre zs->(∀r t h,suf=r::t->(r,ink,h)∈W->zt pot W (r,ink,h) first hue)->
   ∃zs' f' h' y7,bb ⟨ds0,Y⟩ (bP 7) cx (suf.map D.int) [a0,a1,Z (.mr M.length),Z (.int ink),Z (.mr (M.length+1+p)),Z (.int first),Z (.int hue),x7] (M++.lst (zs.map aR)::R)=.ok (.nx [a0,a1,Z (.mr M.length),Z (.int ink),Z (.mr (M.length+1+p)),Z (.int f'),Z (.int h'),y7]) (M++.lst (zs'.map aR)::R)/\Fp pot W ink zs0 rs zs'
 | [],pre,zs,first,hue,x7,e,I,_=>⟨zs,first,hue,x7,rfl,by rw[e,append_nil];exact I⟩
 | r::t,pre,zs,first,hue,x7,e,I,hpre=>by
  obtain⟨h,hh⟩:=hmem r (by rw[e];exact mem_append_right _ mem_cons_self);have hw:=hW r h hh;have P:=hpre r t h rfl hw;have lt0:=hlt;rw[e] at lt0;obtain⟨_,lt2,lt3⟩:=pairwise_append.mp lt0;have npre:r∉pre:=λz=>by have:=lt3 r z r mem_cons_self;omega
  have uniq:∀w,w∈W->w.2.1=ink->w.1=r->w.2.2=h:=λw hw' e1 e2=>ag w hw' _ hw e2 e1
  have gd:∀(N:aw) (z:Option D) (f u:Int),N[M.length+1+p]?=Z (.dK (hs.map nu))->g2 fP (af 4) (af 7) [a0,a1,Z (.mr M.length),Z (.int ink),Z (.mr (M.length+1+p)),Z (.int f),Z (.int u),Z (.int r)] N=.ok (.int h) N:=λN z f u hN=>aq rfl rfl (Az hnd hh hN)
  have at0:∀zs:List (List Int),(M++MO.lst (zs.map aR)::R)[M.length+1+p]?=Z (.dK (hs.map nu)):=λzs=>uM.trans hp
  have atn:∀zs:List (List Int),(M++MO.lst (zs.map aR)::R)[M.length]?=Z (.lst (zs.map aR)):=λzs=>by simp
  have tail:∀zs:List (List Int),(av (ay 5 (g2 bO (af 7) (gC (.int 1)))) (ay 6 (g2 fP (af 4) (af 7)))) [a0,a1,Z (.mr M.length),Z (.int ink),Z (.mr (M.length+1+p)),Z (.int first),Z (.int hue),Z (.int r)] (M++.lst (zs.map aR)::R)=.ok (.nx [a0,a1,Z (.mr M.length),Z (.int ink),Z (.mr (M.length+1+p)),Z (.int (r+1)),Z (.int h),Z (.int r)]) (M++.lst (zs.map aR)::R):=λzs=>
   (az (aF (d:=.int (r+1)) (aq rfl rfl rfl))).trans (aF (gd _ Y (r+1) hue (at0 zs)))
  have next:∀zs1,Fp pot W ink zs0 (pre++[r]) zs1->cx [a0,a1,Z (.mr M.length),Z (.int ink),Z (.mr (M.length+1+p)),Z (.int first),Z (.int hue),Z (.int r)] (M++.lst (zs.map aR)::R)=.ok (.nx [a0,a1,Z (.mr M.length),Z (.int ink),Z (.mr (M.length+1+p)),Z (.int (r+1)),Z (.int h),Z (.int r)]) (M++.lst (zs1.map aR)::R)->
    ∃zs' f' h' y7,bb ⟨ds0,Y⟩ (bP 7) cx ((r::t).map D.int) [a0,a1,Z (.mr M.length),Z (.int ink),Z (.mr (M.length+1+p)),Z (.int first),Z (.int hue),x7] (M++.lst (zs.map aR)::R)=.ok (.nx [a0,a1,Z (.mr M.length),Z (.int ink),Z (.mr (M.length+1+p)),Z (.int f'),Z (.int h'),y7]) (M++.lst (zs'.map aR)::R)/\Fp pot W ink zs0 rs zs':=λzs1 I1 eb=>by
   obtain⟨zs',f',h',y7,ef,I2⟩:=ui (ds0:=ds0) (a0:=a0) (a1:=a1) (M:=M) ag hz0 hlt hmem hcov hnd hW hp hl t (pre++[r]) zs1 (r+1) h (Z (.int r)) (by rw[e,append_assoc];rfl) I1 λr2 t2 h2 et hw2=>by
    subst et;have a12:r<r2:=(pairwise_cons.mp lt2).1 r2 mem_cons_self;refine .inr ⟨(r,ink,h),hw,rfl,a12,λo ho e1 e2=>?_,rfl,rfl⟩;have e2:o.1<r2:=e2;show o.1<=r;have hm:=hcov o ho e1;rw[e] at hm;rcases mem_append.mp hm with hm|hm
    ·have:=lt3 _ hm r mem_cons_self;omega
    ·rcases mem_cons.mp hm with z|hm
     ·omega
     ·rcases mem_cons.mp hm with z|hm
      ·omega
      ·have:=(pairwise_cons.mp (pairwise_cons.mp lt2).2).1 _ hm;omega
   refine⟨zs',f',h',y7,?_,I2⟩;rw[map_cons,bb,if_pos dX];show(cx [a0,a1,Z (.mr M.length),Z (.int ink),Z (.mr (M.length+1+p)),Z (.int first),Z (.int hue),Z (.int r)] (M++.lst (zs.map aR)::R)).bind _=_;rw[eb,ai];exact ef
  have test:aB (g2 (aU true) (g2 fP (af 4) (af 7)) (af 6)) [a0,a1,Z (.mr M.length),Z (.int ink),Z (.mr (M.length+1+p)),Z (.int first),Z (.int hue),Z (.int r)] (M++.lst (zs.map aR)::R)=.ok (!decide (h=hue)) (M++.lst (zs.map aR)::R):=aE (aq (gd _ Y first hue (at0 zs)) rfl (jq _ _ _))
  by_cases q:h=hue
  ·refine next zs ⟨I.nd,λz=>?_,?_⟩ ?_
   ·rw[I.mem];refine⟨λx=>x.imp id λ⟨w,f,o,h1,h2,h3⟩=>⟨w,f,o,h1,⟨h2.1,mem_append_left _ h2.2⟩,h3⟩,λx=>x.imp id λ⟨w,f,o,h1,h2,h3,h4,h5⟩=>?_⟩;rcases mem_append.mp h2.2 with y|y
    ·exact⟨w,f,o,h1,⟨h2.1,y⟩,h3,h4,h5⟩
    ·have y:=mem_singleton.mp y;have eh:=uniq w h1 h2.1 y;have ew:w=(r,ink,h):=by rw[<-y,<-eh,<-h2.1]
     rw[ew] at h3 h4;exact absurd ((eI ag h3 P).2.trans q.symm) h4
   ·rw[length_append];have:=I.len;omega
   ·unfold cx;exact(az ((dZ (test.trans (by rw[decide_eq_true q];rfl))).trans rfl)).trans (tail zs)
  ·have znot:[first,r,ink,h]∉zs:=λx=>by
    rcases(I.mem _).mp x with x|x
    ·obtain⟨w,f,o,h1,h2,h3,h4,h5⟩:=hz0 _ x;injection h5 with _ h5
     injection h5 with _ h5
     injection h5 with h5 _
     exact h2 h5.symm
    ·obtain⟨w,f,o,h1,h2,h3,h4,h5⟩:=x;injection h5 with _ h5
     injection h5 with h5 _
     exact npre (by rw[h5];exact h2.2)
   refine next (zs++[[first,r,ink,h]]) ⟨?_,λz=>?_,?_⟩ ?_
   ·rw[nodup_append];refine⟨I.nd,by simp,λa ha b hb=>?_⟩;obtain rfl:=mem_singleton.mp hb;exact λz=>znot (by rw[<-z];exact ha)
   ·rw[mem_append,I.mem,mem_singleton];constructor
    ·rintro ((x|⟨w,f,o,h1,h2,h3⟩)|rfl)
     ·exact .inl x
     ·exact .inr ⟨w,f,o,h1,⟨h2.1,mem_append_left _ h2.2⟩,h3⟩
     ·exact .inr ⟨(r,ink,h),first,hue,hw,⟨rfl,mem_append_right _ mem_cons_self⟩,P,λz=>q z.symm,rfl⟩
    ·rintro (x|⟨w,f,o,h1,h2,h3,h4,h5⟩)
     ·exact .inl (.inl x)
     ·rcases mem_append.mp h2.2 with y|y
      ·exact .inl (.inr ⟨w,f,o,h1,⟨h2.1,y⟩,h3,h4,h5⟩)
      ·have y:=mem_singleton.mp y;have eh:=uniq w h1 h2.1 y;have ew:w=(r,ink,h):=by rw[<-y,<-eh,<-h2.1]
       rw[ew] at h3 h5;rw[(eI ag h3 P).1] at h5;exact .inr h5
   ·rw[length_append,length_append];have:=I.len;show zs.length+1<=zs0.length+(pre.length+1);omega
   ·unfold cx;have hlen:zs.length<1000000:=by
     have:=I.len;have:pre.length<=rs.length:=by rw[e,length_append];omega
     omega
    have ea:fz (i4 (af 2) (cp (ae (af 5) (ae (af 7) (ae (af 3) (ae (g2 fP (af 4) (af 7)) ah)))))) [a0,a1,Z (.mr M.length),Z (.int ink),Z (.mr (M.length+1+p)),Z (.int first),Z (.int hue),Z (.int r)] (M++.lst (zs.map aR)::R)=.ok (.nx [a0,a1,Z (.mr M.length),Z (.int ink),Z (.mr (M.length+1+p)),Z (.int first),Z (.int hue),Z (.int r)]) (M++.lst ((zs++[[first,r,ink,h]]).map aR)::R):=by
     refine kL (d:=.non) ((pH (k:=M.length) (d:=aR [first,r,ink,h]) rfl (atn zs) (io (ds:=[.int first,.int r,.int ink,.int h]) (dD rfl (dD rfl (dD rfl (dD (gd _ Y first hue (at0 zs)) rfl))))) (atn zs) (by rw[length_map];exact hlen)).trans ?_);rw[set_append_right _ _ (Nat.le_refl _),Nat.sub_self,map_append];rfl
    exact(az ((jF (test.trans (by rw[decide_eq_false q];rfl))).trans ea)).trans (tail _)
structure Cz (pot:Int->Int)(W:List W3)(pre:List En)(zs:List (List Int)):Prop where
 nd:zs.Nodup
 mem:∀z,z∈zs↔zm pot W (λw=>∃e,e∈pre/\e.1=w.2.1) z
 len:zs.length<=200*pre.length
variable{xs:List D}
def iB {M1:aw}(h:g ρ M=.ok (.lst xs) M1):aY g ρ M=.ok ⟨xs,Y⟩ M1:=by
 unfold aY;rw[h,ai];rfl
def cY (pl:List Int)(i:Int):Int:=pl.getD i.toNat 0
variable{pl:List Int}
def xC (h0:0<=i)(h1:i<pl.length):aT (.tup (pl.map D.int)) (.int i) M=.ok (.int (cY pl i)) M:=by
 obtain⟨n,rfl⟩:=Int.eq_ofNat_of_zero_le h0;have hn:n<pl.length:=by omega
 refine bU (k:=n) ?_;unfold cY;rw[getElem?_map,getElem?_eq_getElem hn];show Z (D.int pl[n])=Z (D.int (pl.getD n 0));rw[List.getD,getElem?_eq_getElem hn];rfl
theorem rE {W:List W3}{pl:List Int}{told:List En}{M R:aw}{ds0:List D}{a1:Option D}(hp:pl.length=16)(H:wc W told)(L:zq 200 200 told)(hni:(told.map λe=>e.1).Nodup)(hR:∀e,e∈told->∃p,e.2.1-1=M.length+1+p/\R[p]?=Z (.dK (e.2.2.map nu))) :
  ∀(suf pre:List En) (zs:List (List Int)) (x3 x4 x5 x6 x7:Option D),told=pre++suf->Cz (cY pl) W pre zs->
   ∃zs' y3 y4 y5 y6 y7,bb ⟨ds0,Y⟩ (dn [3,4]) cz (suf.map F6) [Z (.tup (pl.map D.int)),a1,Z (.mr M.length),x3,x4,x5,x6,x7] (M++.lst (zs.map aR)::R)=.ok (.nx [Z (.tup (pl.map D.int)),a1,Z (.mr M.length),y3,y4,y5,y6,y7]) (M++.lst (zs'.map aR)::R)/\Cz (cY pl) W told zs'
 | [],pre,zs,x3,x4,x5,x6,x7,e,I=>⟨zs,x3,x4,x5,x6,x7,rfl,by rw[e,append_nil];exact I⟩
 | en::t,pre,zs,x3,x4,x5,x6,x7,e,I=>by
  have he:en∈told:=by rw[e];exact mem_append_right _ mem_cons_self
  obtain⟨ink,j,hs⟩:=en;obtain⟨p,ej,hp2⟩:=hR _ he;have ej:j-1=M.length+1+p:=ej;have hp2:R[p]?=Z (.dK (hs.map nu)):=hp2;obtain⟨hl,hi0,hi1⟩:=L.2 _ he;have hl:hs.length<=200:=hl;have ln:told.length=pre.length+(t.length+1):=by rw[e,length_append];rfl
  have lt:=L.1;have lenz:=I.len;have ntop:∀e',e'∈pre->e'.1≠ink:=λe' h' z=>by
   rw[e,map_append,nodup_append] at hni;exact hni.2.2 e'.1 (mem_map.mpr ⟨e',h',rfl⟩) ink (mem_map.mpr ⟨_,mem_cons_self,rfl⟩) z
  have rl:(aO (hs.map λp=>p.1)).length<=200:=by
   have:(aO (hs.map λp=>p.1)).length=hs.length:=by
    unfold aO;rw[length_map,(aL _).length_eq,length_map,length_map]
   omega
  have I0:Fp (cY pl) W ink zs [] zs:=⟨I.nd,λz=>⟨.inl,λx=>x.elim id λ⟨w,f,o,h1,h2,h3⟩=>by cases h2.2⟩,Nat.le_refl _⟩;obtain⟨zs1,f1,h1,y7,ef,I1⟩:=ui (pot:=cY pl) (W:=W) (ink:=ink) (zs0:=zs) (rs:=aO (hs.map λp=>p.1)) (hs:=hs) (M:=M) (R:=R) (p:=p) (ds0:=(aO (hs.map λp=>p.1)).map D.int) (a0:=Z (.tup (pl.map D.int))) (a1:=a1) (n9 H)
   (λz hz=>by
    obtain⟨w,f,o,g1,⟨e',g2,g3⟩,g4⟩:=(I.mem z).mp hz;exact⟨w,f,o,g1,(by show w.2.1≠ink;rw[<-g3];exact ntop e' g2),g4⟩)
   (rm (H.nd _ he)) (λr hr=>by
    obtain⟨q,hq,e1⟩:=mem_map.mp (fQ.mp hr);exact⟨q.2,by rw[<-e1];exact hq⟩)
   (λw hw e1=>fQ.mpr (mem_map.mpr ⟨(w.1,w.2.2),(H.mem _ he w.1 w.2.2).mpr (by show(w.1,ink,w.2.2)∈W;rw[<-e1];exact hw),rfl⟩))
   (H.nd _ he) (λr h hh=>(H.mem _ he r h).mp hh) hp2 (by omega) (aO (hs.map λp=>p.1)) [] zs 0 (cY pl ink) x7 rfl I0 (λr t2 h et hw=>by
    refine .inl ⟨λo ho e1 e2=>?_,rfl,rfl⟩;have e1:o.2.1=ink:=e1;have e2:o.1<r:=e2;have hm:o.1∈aO (hs.map λp=>p.1):=fQ.mpr (mem_map.mpr ⟨(o.1,o.2.2),(H.mem _ he o.1 o.2.2).mpr (by show(o.1,ink,o.2.2)∈W;rw[<-e1];exact ho),rfl⟩);have lt:=rm (H.nd _ he);have lt:(aO (hs.map λp=>p.1)).Pairwise (·<·):=lt;rw[et] at hm lt;rcases mem_cons.mp hm with z|z
    ·omega
    ·have:=(pairwise_cons.mp lt).1 _ z;omega)
  have I2:Cz (cY pl) W (pre++[(ink,j,hs)]) zs1:=by
   refine⟨I1.nd,λz=>?_,?_⟩
   ·rw[I1.mem,I.mem];constructor
    ·rintro (⟨w,f,o,g1,⟨e',g2,g3⟩,g4⟩|⟨w,f,o,g1,⟨g2,g3⟩,g4⟩)
     ·exact⟨w,f,o,g1,⟨e',mem_append_left _ g2,g3⟩,g4⟩
     ·exact⟨w,f,o,g1,⟨_,mem_append_right _ mem_cons_self,g2.symm⟩,g4⟩
    ·rintro ⟨w,f,o,g1,⟨e',g2,g3⟩,g4⟩;rcases mem_append.mp g2 with g2|g2
     ·exact .inl ⟨w,f,o,g1,⟨e',g2,g3⟩,g4⟩
     ·obtain rfl:=mem_singleton.mp g2;refine .inr ⟨w,f,o,g1,⟨g3.symm,fQ.mpr (mem_map.mpr ⟨(w.1,w.2.2),(H.mem _ he w.1 w.2.2).mpr ?_,rfl⟩)⟩,g4⟩;have g3:ink=w.2.1:=g3;show(w.1,ink,w.2.2)∈W;rw[g3];exact g1
   ·have:=I1.len;rw[length_append];show zs1.length<=200*(pre.length+1);omega
  obtain⟨zs',y3,y4,y5,y6,y7',eo,I3⟩:=rE (ds0:=ds0) (a1:=a1) (M:=M) hp H L hni hR t (pre++[(ink,j,hs)]) zs1 (Z (.int ink)) (Z (.mr (M.length+1+p))) (Z (.int f1)) (Z (.int h1)) y7 (by rw[e,append_assoc];rfl) I2;refine⟨zs',y3,y4,y5,y6,y7',?_,I3⟩;have hd:(M++MO.lst (zs.map aR)::R)[M.length+1+p]?=Z (.dK (hs.map nu)):=uM.trans hp2;have eb:cz [Z (.tup (pl.map D.int)),a1,Z (.mr M.length),Z (.int ink),Z (.mr (M.length+1+p)),x5,x6,x7] (M++.lst (zs.map aR)::R)=.ok (.nx [Z (.tup (pl.map D.int)),a1,Z (.mr M.length),Z (.int ink),Z (.mr (M.length+1+p)),Z (.int f1),Z (.int h1),y7]) (M++.lst (zs1.map aR)::R):=by
   unfold cz;refine(az (aF (d:=.int 0) rfl)).trans ((az (aF (d:=.int (cY pl ink)) (aq rfl rfl (xC hi0 (by rw[hp];exact hi1))))).trans ?_);exact eZ (iB (ij rfl (sM hd (by omega)))) ef
  rw[map_cons,bb,if_pos dX];have et:dn [3,4] (F6 (ink,j,hs)) [Z (.tup (pl.map D.int)),a1,Z (.mr M.length),x3,x4,x5,x6,x7]=Z [Z (.tup (pl.map D.int)),a1,Z (.mr M.length),Z (.int ink),Z (.mr (M.length+1+p)),x5,x6,x7]:=by
   unfold F6;show Z [Z (D.tup (pl.map D.int)),a1,Z (.mr M.length),Z (.int ink),Z (.mr (j-1)),x5,x6,x7]=_;rw[ej]
  rw[et];dsimp only;rw[eb,ai];exact eo
theorem jQ:∀(zs:List (List Int)) (n:Nat),(zs.map aR).all (aZ (n+2))=true
 | [],_=>rfl
 | z::zs,n=>by
  rw[map_cons,all_cons,jQ zs n,Bool.and_true];show(z.map D.int).all (aZ (n+1))=true;refine all_eq_true.mpr λx hx=>?_
  obtain⟨i,_,rfl⟩:=mem_map.mp hx;rfl
variable{z:List Int}
def zc {ok:W3->Prop}(h:zm pot W ok z):z≠[]:=by
 obtain⟨w,f,o,_,_,_,_,rfl⟩:=h;exact λx=>by cases x
theorem sx (hM:M.all dh=true)(hp:pl.length=16)(hs:∀w,w∈W->de w)(hl:W.length<=200) :
  (eP [.tup (pl.map D.int),.lst (W.map wD)] M=.err "Clash" M/\¬cL W)\/
  ∃zs,eP [.tup (pl.map D.int),.lst (W.map wD)] M=.ok (.lst ((a9 zs).map aR)) M/\cL W/\zs.Nodup/\∀z,z∈zs↔zm (cY pl) W (λ_=>True) z:=by
 have sh:=kZ.pure hM;show(fq M.length (bQ (dM [Z (.tup (pl.map D.int)),Z (.lst (W.map wD)),Y,Y,Y,Y,Y,Y] M))=_/\_)\/∃zs,fq M.length (bQ (dM [Z (.tup (pl.map D.int)),Z (.lst (W.map wD)),Y,Y,Y,Y,Y,Y] M))=_/\_;have g0:∀o,lm (ax 1 ba (ae (af 1) ah)) (dn [3,4]) cz [Z (.tup (pl.map D.int)),Z (.lst (W.map wD)),Z (.mr M.length),Y,Y,Y,Y,Y] (M++[.lst []])=o->dM [Z (.tup (pl.map D.int)),Z (.lst (W.map wD)),Y,Y,Y,Y,Y,Y] M=av (λ_ _=>o) (bw (aQ dE (ae (af 2) ah))) [Z (.tup (pl.map D.int)),Z (.lst (W.map wD)),Z (.mr M.length),Y,Y,Y,Y,Y] (M++[.lst []]):=λo e=>by
  unfold dM;refine(az (aF iZ)).trans ?_;show av _ _ [Z (.tup (pl.map D.int)),Z (.lst (W.map wD)),Z (.mr M.length),Y,Y,Y,Y,Y] _=_;unfold av;rw[e]
 rcases AC (M:=M++[.lst []]) hs hl with⟨E,e,na⟩|⟨N,told,e,R,H,L⟩
 ·refine .inl ⟨?_,na⟩;have ef:lm (ax 1 ba (ae (af 1) ah)) (dn [3,4]) cz [Z (.tup (pl.map D.int)),Z (.lst (W.map wD)),Z (.mr M.length),Y,Y,Y,Y,Y] (M++[.lst []])=.err "Clash" (M++([.lst []]++E)):=by
   unfold lm gK lB;rw[xg (F:=ba) (x:=.lst (W.map wD)) rfl e,append_assoc];rfl
  rw[g0 _ ef];exact zI sh
 ·obtain⟨R',ei,hR⟩:=yg (g:=ax 1 ba (ae (af 1) ah)) (ρ:=[Z (.tup (pl.map D.int)),Z (.lst (W.map wD)),Z (.mr M.length),Y,Y,Y,Y,Y]) R hM rfl (xg (x:=.lst (W.map wD)) rfl e);obtain⟨zs,y3,y4,y5,y6,y7,eo,I⟩:=rE (ds0:=told.map F6) (a1:=Z (.lst (W.map wD))) (M:=M) (R:=R') hp H L R.ndi hR told [] [] Y Y Y Y Y rfl ⟨.nil,(λz=>⟨(λx=>by cases x),(λ⟨w,f,o,_,⟨e,x,_⟩,_⟩=>by cases x)⟩),Nat.zero_le _⟩;have ef:lm (ax 1 ba (ae (af 1) ah)) (dn [3,4]) cz [Z (.tup (pl.map D.int)),Z (.lst (W.map wD)),Z (.mr M.length),Y,Y,Y,Y,Y] (M++[.lst []])=_:=eZ ei eo;have mem:∀z,z∈zs↔zm (cY pl) W (λ_=>True) z:=λz=>by
   rw[I.mem];refine⟨λ⟨w,f,o,h1,_,h3⟩=>⟨w,f,o,h1,trivial,h3⟩,λ⟨w,f,o,h1,_,h3⟩=>?_⟩;obtain⟨e',h4,h5⟩:=H.cov w h1;exact⟨w,f,o,h1,⟨e',h4,h5⟩,h3⟩
  have len:zs.length<=100000:=by have:=I.len;have:=L.1;omega
  refine .inr ⟨zs,?_,n9 H,I.nd,mem⟩;have er:bw (aQ dE (ae (af 2) ah)) [Z (.tup (pl.map D.int)),Z (.lst (W.map wD)),Z (.mr M.length),y3,y4,y5,y6,y7] (M++.lst (zs.map aR)::R')=.ok (.rt (.lst ((a9 zs).map aR))) (M++.lst (zs.map aR)::R'):=fJ (ij rfl (lR (by simp) (λz hz=>zc ((mem z).mp hz)) len));rw[g0 _ ef];have es:av (λ_ _=>aN.ok (Fl.nx [Z (.tup (pl.map D.int)),Z (.lst (W.map wD)),Z (.mr M.length),y3,y4,y5,y6,y7]) (M++.lst (zs.map aR)::R')) (bw (aQ dE (ae (af 2) ah))) [Z (.tup (pl.map D.int)),Z (.lst (W.map wD)),Z (.mr M.length),Y,Y,Y,Y,Y] (M++[.lst []])=.ok (.rt (.lst ((a9 zs).map aR))) (M++.lst (zs.map aR)::R'):=(az rfl).trans er;rw[es];exact kD (jQ _ 27) sh
theorem sJ (n:Nat):∀T:List W3,a8 (n+1) (T.map wD)=true
 | []=>rfl
 | _::T=>sJ n T
theorem kY (n:Nat):∀T:List Int,a8 (n+1) (T.map D.int)=true
 | []=>rfl
 | _::T=>kY n T
def eq_nil {neg:Bool}(hc:a8 39 xs=true):aU neg (.lst xs) (.lst []) M=.ok (.bl (decide (xs=[]) != neg)) M:=by
 unfold aU;show(if(a8 39 xs&&true)=true then aN.ok (D.bl (ft xs [] != neg)) M else .bad)=_;rw[hc];cases xs with
 | nil=>rfl
 | cons x xs=>rfl
def GZ {a b c d:Int}:aU false (.tup [.int a,.int b]) (.tup [.int c,.int d]) M=.ok (.bl (decide (a=c)&&decide (b=d))) M:=by
 show aN.ok (D.bl (((a==c)&&((b==d)&&true)) != false)) M=_;rw[Bool.and_true,Bool.bne_false];rfl
def yc {a b c:D}(h:g ρ M=.ok (.tup [a,b,c]) M):m6 g bp (da (gC (.int 2))) ρ M=.ok (.tup [a,b]) M:=by
 unfold m6;rw[h,ai];rfl
theorem bY {α:Type}{f g:α->D}{b:α->Bool}{gc:GT}{ge:GE}{ρ:bv}{M:aw}{t:jP}(ht:t.ok M=true):∀l:List α,(∀a,a∈l->gc (Z (f a)::ρ) M=.ok (b a) M/\(b a=true->ge (Z (f a)::ρ) M=.ok (g a) M))->dG t gc ge (l.map f) ρ M=.ok ((l.filter b).map g) M
 | [],_=>by
  show(if t.ok M=true then aN.ok [] M else .bad)=_;rw[if_pos ht];rfl
 | a::l,h=>by
  obtain⟨h1,h2⟩:=h a mem_cons_self;have ih:=bY (t:=t) ht l λb hb=>h b (mem_cons_of_mem _ hb)
  rw[map_cons,dG,if_pos ht,h1];cases q:b a with
  | true=>
   rw[filter_cons_of_pos q,map_cons];show(match ge (Z (f a)::ρ) M with | .ok e M2=>(dG t gc ge (l.map f) ρ M2).bind λes M3=>.ok (e::es) M3|_=>.bad)=_;rw[h2 q];dsimp only;rw[ih,ai]
  | false=>
   rw[filter_cons_of_neg (by rw[q];exact Bool.false_ne_true)];exact ih
variable{ge:GE}
def bf {gi:GI}{gc:GT}{es:List D}{M2:aw}{t:jP}(hi:gi ρ M=.ok t M)(he:dG t gc ge t.ds ρ M=.ok es M2)(hl:es.length<=1000000):aK gi gc ge aA ρ M=.ok (.lst es) M2:=by
 unfold aK;rw[hi,ai];rw[he,ai];unfold aA;rw[if_pos (fE hl)]
def yb (h:g ρ M=.ok (wD w) M)(hk:[D.int w.1,.int w.2.1,.int w.2.2][k]?=Z d):g2 aT g (gC (.int k)) ρ M=.ok d M:=aq h rfl (bU hk)
def yj {a:Option D}(hl:acc.length<1000):b8 [a,Z (.mr M.length),Z (.int w.1),Z (.int w.2.1),Z (.int w.2.2)] (M++[.lst (acc.map wD)])=.ok (.nx [a,Z (.mr M.length),Z (.int w.1),Z (.int w.2.1),Z (.int w.2.2)]) (M++[.lst ((iq acc w).map wD)]):=by
 have at_:=om M (acc.map wD);have hi:aY (af 1) [a,Z (.mr M.length),Z (.int w.1),Z (.int w.2.1),Z (.int w.2.2)] (M++[.lst (acc.map wD)])=.ok ⟨acc.map wD,Z M.length⟩ (M++[.lst (acc.map wD)]):=by
  unfold aY;show(match (M++[MO.lst (acc.map wD)])[M.length]? with|some (.lst ds)=>aN.ok (jP.mk ds (Z M.length)) (M++[MO.lst (acc.map wD)])|_=>.bad)=_;rw[at_]
 have ht:jP.ok ⟨acc.map wD,Z M.length⟩ (M++[.lst (acc.map wD)])=true:=by
  show(match (M++[MO.lst (acc.map wD)])[M.length]? with|some (.lst xs)=>iH xs (acc.map wD)|_=>false)=true;rw[at_];exact fh _
 have c:=bY (f:=wD) (g:=wD) (b:=nz w) (gc:=cO) (ge:=dN) (ρ:=[a,Z (.mr M.length),Z (.int w.1),Z (.int w.2.1),Z (.int w.2.2)]) (M:=M++[.lst (acc.map wD)]) ht acc λo _=>⟨by
  unfold cO;exact eE (aE (aq (yc (g:=af 0) (a:=.int o.1) (b:=.int o.2.1) (c:=.int o.2.2) rfl) (io (ds:=[.int w.1,.int w.2.1]) rfl) GZ)) λ_=>aE (aq (yb (w:=o) (k:=2) rfl rfl) rfl (jq _ _ _)),λ_=>rfl⟩
 have gc:=bf hi c (by rw[length_map];have:=length_filter_le (nz w) acc;omega);have t:aB (g2 (aU false) (aK (aY (af 1)) cO dN aA) (du ah)) [a,Z (.mr M.length),Z (.int w.1),Z (.int w.2.1),Z (.int w.2.2)] (M++[.lst (acc.map wD)])=.ok (decide ((acc.filter (nz w)).map wD=[]) != false) (M++[.lst (acc.map wD)]):=aE (aq gc (jH rfl) (eq_nil (sJ 38 _)));have em:((acc.filter (nz w)).map wD=[])↔acc.filter (nz w)=[]:=map_eq_nil_iff;unfold b8 iq
 by_cases q:acc.filter (nz w)=[]
 ·rw[if_pos q];refine(jF (t.trans (by rw[decide_eq_true (em.mpr q)];rfl))).trans ?_;refine kL (d:=.non) ((pH (k:=M.length) (d:=wD w) rfl at_ (io (ds:=[.int w.1,.int w.2.1,.int w.2.2]) rfl) at_ (by rw[length_map];omega)).trans ?_);rw[oF,map_append];rfl
 ·rw[if_neg q];exact(dZ (t.trans (by rw[decide_eq_false λz=>q (em.mp z)];rfl))).trans rfl
theorem qM {M:aw}{a:Option D}{ds0:List D}:∀(Q acc:List W3) (x2 x3 x4:Option D),acc.length+Q.length<1000->∃y2 y3 y4,bb ⟨ds0,Y⟩ (dn [2,3,4]) b8 (Q.map wD) [a,Z (.mr M.length),x2,x3,x4] (M++[.lst (acc.map wD)])=.ok (.nx [a,Z (.mr M.length),y2,y3,y4]) (M++[.lst ((Q.foldl iq acc).map wD)])
 | [],acc,x2,x3,x4,_=>⟨x2,x3,x4,rfl⟩
 | w::Q,acc,x2,x3,x4,hl=>by
  rw[length_cons] at hl;have la:(iq acc w).length<=acc.length+1:=by
   unfold iq;split
   ·rw[length_append];exact Nat.le_refl _
   ·omega
  obtain⟨y2,y3,y4,e⟩:=qM (M:=M) (a:=a) (ds0:=ds0) Q (iq acc w) (Z (.int w.1)) (Z (.int w.2.1)) (Z (.int w.2.2)) (by omega);refine⟨y2,y3,y4,?_⟩;rw[map_cons,bb,if_pos dX];show(b8 [a,Z (.mr M.length),Z (.int w.1),Z (.int w.2.1),Z (.int w.2.2)] (M++[.lst (acc.map wD)])).bind _=_;rw[yj (by omega),ai];exact e
theorem o5 (n:Nat):∀T:List W3,(T.map wD).all (aZ (n+2))=true
 | []=>rfl
 | _::T=>o5 n T
def wz (hM:M.all dh=true)(hl:W.length<=200):dr [.lst (W.map wD)] M=.ok (.lst ((pj W).map wD)) M:=by
 obtain⟨y2,y3,y4,e⟩:=qM (M:=M) (a:=Z (.lst (W.map wD))) (ds0:=W.map wD) W [] Y Y Y (by show 0+_<_;omega);have eg:cF [Z (.lst (W.map wD)),Y,Y,Y,Y] M=.ok (.rt (.mr M.length)) (M++[.lst ((pj W).map wD)]):=by
  unfold cF;refine(az (aF iZ)).trans ?_;show av _ _ [Z (.lst (W.map wD)),Z (.mr M.length),Y,Y,Y] _=_;exact(az (eZ (cE (xs:=W.map wD) rfl) e)).trans (fJ rfl)
 show fq M.length (bQ (cF [Z (.lst (W.map wD)),Y,Y,Y,Y] M))=_;rw[eg];exact mV (o5 27 _) (kZ.pure hM)
theorem lG:∀(l:List Int) (b:Int),eQ (l.map D.int) b=Z (l.foldl max b)
 | [],b=>rfl
 | a::l,b=>by
  show(if b<a then eQ (l.map D.int) a else eQ (l.map D.int) b)=_;rw[foldl_cons]
  by_cases h:b<a
  ·rw[if_pos h,lG l a,show max b a=a by omega]
  ·rw[if_neg h,lG l b,show max b a=b by omega]
theorem Bu:∀(l:List Int) (b T:Int),l.foldl max b<=T↔b<=T/\∀x∈l,x<=T
 | [],b,T=>by simp
 | a::l,b,T=>by
  rw[foldl_cons,Bu l];constructor
  ·rintro ⟨h1,h2⟩;refine⟨by omega,λx hx=>?_⟩;rcases mem_cons.mp hx with rfl|hx
   ·omega
   ·exact h2 x hx
  ·rintro ⟨h1,h2⟩;have:=h2 a mem_cons_self;exact⟨by omega,λx hx=>h2 x (mem_cons_of_mem _ hx)⟩
def ue (W:List W3)(w:W3):List W3:=W.filter λo=>decide (o.2.1=w.2.1)&&decide (o.1<w.1)
theorem uG:∀(l:List Int) (b:Int),l.foldl max b=b\/l.foldl max b∈l
 | [],b=>.inl rfl
 | a::l,b=>by
  rw[foldl_cons];rcases uG l (max b a) with h|h
  ·by_cases z:b<=a
   ·exact .inr (by rw[h,show max b a=a by omega];exact mem_cons_self)
   ·exact .inl (by rw[h];omega)
  ·exact .inr (mem_cons_of_mem _ h)
structure Hl (pot:Int->Int)(W:List W3)(P:List W3)(zs:List (List Int)):Prop where
 nd:zs.Nodup
 mem:∀z,z∈zs↔zm pot W (λw=>w∈P) z
 len:zs.length<=P.length
def uJ (z:List Int):∀y:List Int,ft (y.map D.int) (z.map D.int)=decide (y=z):=by
 induction z with
 | nil=>
  intro y;cases y with
  | nil=>rfl
  | cons a y=>rfl
 | cons b z ih=>
  intro y;cases y with
  | nil=>rfl
  | cons a y=>
   show((a==b)&&ft (y.map D.int) (z.map D.int))=_;rw[ih]
   by_cases q:a=b
   ·subst q;simp
   ·simp[q]
theorem qq (n:Nat):∀zs:List (List Int),(zs.map aR).all (bx (n+3))=true
 | []=>rfl
 | z::zs=>by
  rw[map_cons,all_cons,qq n zs,Bool.and_true];exact kY (n+1) z
theorem qi (z:List Int):∀zs:List (List Int),((zs.map aR).any λy=>mH y (aR z))=decide (z∈zs)
 | []=>rfl
 | y::zs=>by
  rw[map_cons,any_cons,qi z zs,show mH (aR y) (aR z)=decide (y=z) from uJ z y]
  by_cases q:y=z
  ·subst q;simp
  ·have q':z≠y:=λx=>q x.symm
   simp[q,q']
def Dt (hk:M[k]?=Z (.lst (zs.map aR))):zM true (aR z) (.mr k) M=.ok (.bl (!decide (z∈zs))) M:=by
 unfold zM;have e:aW (.mr k) M=Z (zs.map aR):=by
  show(match M[k]? with|some (.lst xs)=>Z xs|_=>Y)=_;rw[hk]
 rw[e];dsimp only;rw[show bx 40 (aR z)=true from kY 38 z,qq 37 zs,Bool.and_self,if_pos rfl];rw[qi];cases decide (z∈zs) <;> rfl
variable{l:List Int}
def zR (h:l≠[]):∃m,iJ [.lst (l.map D.int)] M=.ok (.int m) M/\m∈l/\∀x,x∈l->x<=m:=by
 cases l with
 | nil=>exact absurd rfl h
 | cons a l=>
  refine⟨l.foldl max a,?_,?_,?_⟩
  ·show(match eQ (l.map D.int) a with|some d=>aN.ok (D.int d) M|none=>.bad)=_;rw[lG]
  ·rcases uG l a with e|e
   ·rw[e];exact mem_cons_self
   ·exact mem_cons_of_mem _ e
  ·have:=(Bu l a (l.foldl max a)).mp (Int.le_refl _);intro x hx;rcases mem_cons.mp hx with rfl|hx
   ·exact this.1
   ·exact this.2 x hx
def DK {x6 x7 x8:Option D}{b:GS}(hw:w.2.1<16/\0<=w.2.1)(hp:pl.length=16)(hl:W.length<=200) :
  ∃first old ad,zt (cY pl) W w first old/\(av (ay 6 (aK (aY (af 1)) bH bZ aA)) (av (ay 7 (gC (.int 0))) (av (ay 8 (g2 aT (af 0) (af 4))) (av (dY (aB (g2 (aU true) (af 6) (du ah))) (av (ay 7 (g2 bO (aQ iJ (ae (af 6) ah)) (gC (.int 1)))) (ay 8 (g2 aT (aK (aY (af 1)) bt bF aA) (gC (.int 0))))) aP) b)))) [Z (.tup (pl.map D.int)),Z (.lst (W.map wD)),Z (.mr k),Z (.int w.1),Z (.int w.2.1),Z (.int w.2.2),x6,x7,x8] M=b [Z (.tup (pl.map D.int)),Z (.lst (W.map wD)),Z (.mr k),Z (.int w.1),Z (.int w.2.1),Z (.int w.2.2),ad,Z (.int first),Z (.int old)] M:=by
 have fl:∀q:W3->Bool,(W.filter q).length<=1000000:=λq=>Nat.le_trans (length_filter_le _ _) (by omega)
 have c1:=bY (f:=wD) (g:=λo:W3=>D.int o.1) (b:=λo=>decide (o.2.1=w.2.1)&&decide (o.1<w.1)) (gc:=bH) (ge:=bZ) (ρ:=[Z (.tup (pl.map D.int)),Z (.lst (W.map wD)),Z (.mr k),Z (.int w.1),Z (.int w.2.1),Z (.int w.2.2),x6,x7,x8]) (M:=M) (t:=⟨W.map wD,Y⟩) dX W λo _=>⟨by
  unfold bH;exact eE (aE (aq (yb (w:=o) (k:=1) rfl rfl) rfl (p0 _ _ _))) λ_=>aE (aq (yb (w:=o) (k:=0) rfl rfl) rfl rfl),λ_=>yb (w:=o) (k:=0) rfl rfl⟩
 have c1:=bf (cE (i:=1) (ρ:=[Z (.tup (pl.map D.int)),Z (.lst (W.map wD)),Z (.mr k),Z (.int w.1),Z (.int w.2.1),Z (.int w.2.2),x6,x7,x8]) rfl) c1 (by rw[length_map];exact fl _);have ea:(W.filter λo=>decide (o.2.1=w.2.1)&&decide (o.1<w.1)).map (λo:W3=>D.int o.1)=((ue W w).map λo=>o.1).map D.int:=by rw[map_map];rfl
 rw[ea] at c1;have am:∀o,o∈ue W w↔o∈W/\o.2.1=w.2.1/\o.1<w.1:=λo=>by
  unfold ue;rw[mem_filter];simp
 have k1:∀first old,(dY (aB (g2 (aU true) (af 6) (du ah))) (av (ay 7 (g2 bO (aQ iJ (ae (af 6) ah)) (gC (.int 1)))) (ay 8 (g2 aT (aK (aY (af 1)) bt bF aA) (gC (.int 0))))) aP) [Z (.tup (pl.map D.int)),Z (.lst (W.map wD)),Z (.mr k),Z (.int w.1),Z (.int w.2.1),Z (.int w.2.2),Z (.lst (((ue W w).map λo=>o.1).map D.int)),Z (.int 0),Z (.int (cY pl w.2.1))] M=.ok (.nx [Z (.tup (pl.map D.int)),Z (.lst (W.map wD)),Z (.mr k),Z (.int w.1),Z (.int w.2.1),Z (.int w.2.2),Z (.lst (((ue W w).map λo=>o.1).map D.int)),Z (.int first),Z (.int old)]) M->(av (ay 6 (aK (aY (af 1)) bH bZ aA)) (av (ay 7 (gC (.int 0))) (av (ay 8 (g2 aT (af 0) (af 4))) (av (dY (aB (g2 (aU true) (af 6) (du ah))) (av (ay 7 (g2 bO (aQ iJ (ae (af 6) ah)) (gC (.int 1)))) (ay 8 (g2 aT (aK (aY (af 1)) bt bF aA) (gC (.int 0))))) aP) b)))) [Z (.tup (pl.map D.int)),Z (.lst (W.map wD)),Z (.mr k),Z (.int w.1),Z (.int w.2.1),Z (.int w.2.2),x6,x7,x8] M=b [Z (.tup (pl.map D.int)),Z (.lst (W.map wD)),Z (.mr k),Z (.int w.1),Z (.int w.2.1),Z (.int w.2.2),Z (.lst (((ue W w).map λo=>o.1).map D.int)),Z (.int first),Z (.int old)] M:=λfirst old e=>
  (az (aF c1)).trans ((az (aF (d:=.int 0) rfl)).trans ((az (aF (d:=.int (cY pl w.2.1)) (aq rfl rfl (xC hw.2 (by rw[hp];exact hw.1))))).trans (az e)))
 have t:aB (g2 (aU true) (af 6) (du ah)) [Z (.tup (pl.map D.int)),Z (.lst (W.map wD)),Z (.mr k),Z (.int w.1),Z (.int w.2.1),Z (.int w.2.2),Z (.lst (((ue W w).map λo=>o.1).map D.int)),Z (.int 0),Z (.int (cY pl w.2.1))] M=.ok (decide (((ue W w).map λo=>o.1).map D.int=[]) != true) M:=aE (aq rfl (jH rfl) (eq_nil (kY 38 _)));have em:(((ue W w).map λo=>o.1).map D.int=[])↔ue W w=[]:=by rw[map_eq_nil_iff,map_eq_nil_iff]
 by_cases q:ue W w=[]
 ·refine⟨0,cY pl w.2.1,_,.inl ⟨λo ho e1 e2=>?_,rfl,rfl⟩,k1 _ _ ((dZ (t.trans (by rw[decide_eq_true (em.mpr q)];rfl))).trans rfl)⟩;have:=(am o).mpr ⟨ho,e1,e2⟩;rw[q] at this;cases this
 ·have q1:(ue W w).map (λo=>o.1)≠[]:=λz=>q (map_eq_nil_iff.mp z)
  obtain⟨m,e2,hm,hx⟩:=zR (M:=M) q1;obtain⟨o0,ho0,em0⟩:=mem_map.mp hm;obtain⟨ho1,ho2,ho3⟩:=(am o0).mp ho0;have c2:=bY (f:=wD) (g:=λo:W3=>D.int o.2.2) (b:=λo=>decide (o.1=m)&&decide (o.2.1=w.2.1)) (gc:=bt) (ge:=bF) (ρ:=[Z (.tup (pl.map D.int)),Z (.lst (W.map wD)),Z (.mr k),Z (.int w.1),Z (.int w.2.1),Z (.int w.2.2),Z (.lst (((ue W w).map λo=>o.1).map D.int)),Z (.int (m+1)),Z (.int (cY pl w.2.1))]) (M:=M) (t:=⟨W.map wD,Y⟩) dX W λo _=>⟨by
   unfold bt;exact aE (aq (yc (g:=af 0) (a:=.int o.1) (b:=.int o.2.1) (c:=.int o.2.2) rfl) (io (ds:=[.int m,.int w.2.1]) (dD (ij rfl e2) rfl)) GZ),λ_=>yb (w:=o) (k:=2) rfl rfl⟩
  have c2:=bf (cE (i:=1) (ρ:=[Z (.tup (pl.map D.int)),Z (.lst (W.map wD)),Z (.mr k),Z (.int w.1),Z (.int w.2.1),Z (.int w.2.2),Z (.lst (((ue W w).map λo=>o.1).map D.int)),Z (.int (m+1)),Z (.int (cY pl w.2.1))]) rfl) c2 (by rw[length_map];exact fl _);have f0:o0∈W.filter λo=>decide (o.1=m)&&decide (o.2.1=w.2.1):=by
   rw[mem_filter];exact⟨ho1,by rw[decide_eq_true em0,decide_eq_true ho2];rfl⟩
  generalize hf:(W.filter λo=>decide (o.1=m)&&decide (o.2.1=w.2.1))=F at c2 f0;cases F with
  | nil=>cases f0
  | cons o1 F=>
   have h1:o1∈W.filter λo=>decide (o.1=m)&&decide (o.2.1=w.2.1):=by rw[hf];exact mem_cons_self
   rw[mem_filter] at h1;have h2:=h1.2;simp at h2;refine⟨m+1,o1.2.2,_,.inr ⟨o1,h1.1,h2.2,by have:o0.1<w.1:=ho3;omega,λp p1 p2 p3=>?_,by omega,rfl⟩,k1 _ _ ((jF (t.trans (by rw[decide_eq_false λz=>q (em.mp z)];rfl))).trans ((az (aF (d:=.int (m+1)) (aq (ij rfl e2) rfl rfl))).trans (aF (aq c2 rfl (oG (k:=0) rfl)))))⟩;have:=hx p.1 (mem_map.mpr ⟨p,(am p).mpr ⟨p1,p2,p3⟩,rfl⟩);omega
theorem Bl {x6 x7 x8:Option D}(ag:cL W)(hm:w∈W)(hw:de w)(hp:pl.length=16)(hl:W.length<=200)(hP:P.length<=1000)(I:Hl (cY pl) W P zs) :
  ∃zs1 y6 y7 y8,Hl (cY pl) W (P++[w]) zs1/\bG [Z (.tup (pl.map D.int)),Z (.lst (W.map wD)),Z (.mr M.length),Z (.int w.1),Z (.int w.2.1),Z (.int w.2.2),x6,x7,x8] (M++[.lst (zs.map aR)])=.ok (.nx [Z (.tup (pl.map D.int)),Z (.lst (W.map wD)),Z (.mr M.length),Z (.int w.1),Z (.int w.2.1),Z (.int w.2.2),y6,y7,y8]) (M++[.lst (zs1.map aR)]):=by
 have at_:=om M (zs.map aR);obtain⟨first,old,ad,Pr,e⟩:=DK (W:=W) (w:=w) (pl:=pl) (M:=M++[.lst (zs.map aR)]) (k:=M.length) (x6:=x6) (x7:=x7) (x8:=x8) (b:=dY (dA (aB (g2 (aU true) (af 8) (af 5))) (aB (g2 (zM true) (cp (ae (af 7) (ae (af 3) (ae (af 4) (ae (af 5) ah))))) (af 2)))) (fz (i4 (af 2) (cp (ae (af 7) (ae (af 3) (ae (af 4) (ae (af 5) ah))))))) aP) ⟨hw.2.2,hw.2.1⟩ hp hl;have e:bG [Z (.tup (pl.map D.int)),Z (.lst (W.map wD)),Z (.mr M.length),Z (.int w.1),Z (.int w.2.1),Z (.int w.2.2),x6,x7,x8] (M++[.lst (zs.map aR)])=_:=e;have et:(cp (ae (af 7) (ae (af 3) (ae (af 4) (ae (af 5) ah))))) [Z (.tup (pl.map D.int)),Z (.lst (W.map wD)),Z (.mr M.length),Z (.int w.1),Z (.int w.2.1),Z (.int w.2.2),ad,Z (.int first),Z (.int old)] (M++[.lst (zs.map aR)])=.ok (aR [first,w.1,w.2.1,w.2.2]) (M++[.lst (zs.map aR)]):=io (ds:=[.int first,.int w.1,.int w.2.1,.int w.2.2]) rfl;have t:=eE (a:=aB (g2 (aU true) (af 8) (af 5))) (b:=aB (g2 (zM true) (cp (ae (af 7) (ae (af 3) (ae (af 4) (ae (af 5) ah))))) (af 2))) (ρ:=[Z (.tup (pl.map D.int)),Z (.lst (W.map wD)),Z (.mr M.length),Z (.int w.1),Z (.int w.2.1),Z (.int w.2.2),ad,Z (.int first),Z (.int old)]) (M:=M++[.lst (zs.map aR)]) (aE (aq rfl rfl (jq old w.2.2 _))) λ_=>aE (aq et rfl (Dt at_))
 have same:∀w',w'∈[w]->w'=w:=λw' h=>mem_singleton.mp h
 have old_in:∀z,zm (cY pl) W (λw=>w∈P) z->zm (cY pl) W (λv=>v∈P++[w]) z:=λz ⟨v,f,o,h1,h2,h3⟩=>⟨v,f,o,h1,mem_append_left _ h2,h3⟩
 by_cases q1:old=w.2.2
 ·refine⟨zs,ad,Z (.int first),Z (.int old),⟨I.nd,λz=>?_,by rw[length_append];have:=I.len;omega⟩,e.trans ((dZ (t.trans (by rw[decide_eq_true q1];rfl))).trans rfl)⟩;rw[I.mem];refine⟨old_in z,λ⟨v,f,o,h1,h2,h3,h4,h5⟩=>?_⟩;rcases mem_append.mp h2 with y|y
  ·exact⟨v,f,o,h1,y,h3,h4,h5⟩
  ·obtain rfl:=same v y;exact absurd ((eI ag h3 Pr).2.trans q1) h4
 ·by_cases q2:[first,w.1,w.2.1,w.2.2]∈zs
  ·refine⟨zs,ad,Z (.int first),Z (.int old),⟨I.nd,λz=>?_,by rw[length_append];have:=I.len;omega⟩,e.trans ((dZ (t.trans (by rw[decide_eq_true q2,Bool.not_true,Bool.and_false]))).trans rfl)⟩;constructor
   ·exact λh=>old_in z ((I.mem z).mp h)
   ·rintro ⟨v,f,o,h1,h2,h3,h4,h5⟩;rcases mem_append.mp h2 with y|y
    ·exact(I.mem z).mpr ⟨v,f,o,h1,y,h3,h4,h5⟩
    ·obtain rfl:=same v y;rw[h5,(eI ag h3 Pr).1];exact q2
  ·refine⟨zs++[[first,w.1,w.2.1,w.2.2]],ad,Z (.int first),Z (.int old),⟨?_,λz=>?_,by rw[length_append,length_append];exact Nat.add_le_add_right I.len 1⟩,e.trans ((jF (t.trans (by rw[decide_eq_false q1,decide_eq_false q2];rfl))).trans (kL (d:=.non) ((pH (k:=M.length) rfl at_ et at_ (by rw[length_map];have:=I.len;omega)).trans ?_)))⟩
   ·rw[nodup_append];refine⟨I.nd,by simp,λa ha b hb=>?_⟩;obtain rfl:=mem_singleton.mp hb;exact λz=>q2 (by rw[<-z];exact ha)
   ·rw[mem_append,mem_singleton];constructor
    ·rintro (h|rfl)
     ·exact old_in z ((I.mem z).mp h)
     ·exact⟨w,first,old,hm,mem_append_right _ mem_cons_self,Pr,q1,rfl⟩
    ·rintro ⟨v,f,o,h1,h2,h3,h4,h5⟩;rcases mem_append.mp h2 with y|y
     ·exact .inl ((I.mem z).mpr ⟨v,f,o,h1,y,h3,h4,h5⟩)
     ·obtain rfl:=same v y;rw[h5,(eI ag h3 Pr).1];exact .inr rfl
   ·rw[oF,map_append];rfl
theorem tL {W:List W3}{pl:List Int}{M:aw}{ds0:List D}(ag:cL W)(hs:∀w,w∈W->de w)(hp:pl.length=16)(hl:W.length<=200):∀(Q P:List W3) (zs:List (List Int)) (x3 x4 x5 x6 x7 x8:Option D),W=P++Q->Hl (cY pl) W P zs->
  ∃zs1 y3 y4 y5 y6 y7 y8,Hl (cY pl) W W zs1/\bb ⟨ds0,Y⟩ (dn [3,4,5]) bG (Q.map wD) [Z (.tup (pl.map D.int)),Z (.lst (W.map wD)),Z (.mr M.length),x3,x4,x5,x6,x7,x8] (M++[.lst (zs.map aR)])=.ok (.nx [Z (.tup (pl.map D.int)),Z (.lst (W.map wD)),Z (.mr M.length),y3,y4,y5,y6,y7,y8]) (M++[.lst (zs1.map aR)])
 | [],P,zs,x3,x4,x5,x6,x7,x8,e,I=>⟨zs,x3,x4,x5,x6,x7,x8,by rw[e,append_nil] at *;exact I,rfl⟩
 | w::Q,P,zs,x3,x4,x5,x6,x7,x8,e,I=>by
  have hm:w∈W:=by rw[e];exact mem_append_right _ mem_cons_self
  have lP:P.length<=1000:=by
   have:W.length=P.length+(Q.length+1):=by rw[e,length_append];rfl
   omega
  obtain⟨zs1,y6,y7,y8,I1,e1⟩:=Bl (M:=M) (x6:=x6) (x7:=x7) (x8:=x8) ag hm (hs w hm) hp hl lP I;obtain⟨zs2,z3,z4,z5,z6,z7,z8,I2,e2⟩:=tL (M:=M) (ds0:=ds0) ag hs hp hl Q (P++[w]) zs1 (Z (.int w.1)) (Z (.int w.2.1)) (Z (.int w.2.2)) y6 y7 y8 (by rw[append_assoc];exact e) I1;refine⟨zs2,z3,z4,z5,z6,z7,z8,I2,?_⟩;rw[map_cons,bb,if_pos dX];show(bG [Z (.tup (pl.map D.int)),Z (.lst (W.map wD)),Z (.mr M.length),Z (.int w.1),Z (.int w.2.1),Z (.int w.2.2),x6,x7,x8] (M++[.lst (zs.map aR)])).bind _=_;rw[e1,ai];exact e2
theorem vC (ag:cL W)(hM:M.all dh=true)(hp:pl.length=16)(hs:∀w,w∈W->de w)(hl:W.length<=200) :
  ∃zs,bK [.tup (pl.map D.int),.lst (W.map wD)] M=.ok (.lst ((a9 zs).map aR)) M/\zs.Nodup/\∀z,z∈zs↔zm (cY pl) W (λ_=>True) z:=by
 obtain⟨zs,y3,y4,y5,y6,y7,y8,I,e⟩:=tL (M:=M) (ds0:=W.map wD) ag hs hp hl W [] [] Y Y Y Y Y Y rfl ⟨.nil,(λz=>⟨(λx=>by cases x),(λ⟨w,f,o,_,x,_⟩=>by cases x)⟩),Nat.zero_le _⟩;have mem:∀z,z∈zs↔zm (cY pl) W (λ_=>True) z:=λz=>by
  rw[I.mem];exact⟨λ⟨w,f,o,h1,_,h3⟩=>⟨w,f,o,h1,trivial,h3⟩,λ⟨w,f,o,h1,_,h3⟩=>⟨w,f,o,h1,h1,h3⟩⟩
 refine⟨zs,?_,I.nd,mem⟩;have eg:bL [Z (.tup (pl.map D.int)),Z (.lst (W.map wD)),Y,Y,Y,Y,Y,Y,Y] M=.ok (.rt (.lst ((a9 zs).map aR))) (M++[.lst (zs.map aR)]):=by
  unfold bL;refine(az (aF iZ)).trans ?_;show av _ _ [Z (.tup (pl.map D.int)),Z (.lst (W.map wD)),Z (.mr M.length),Y,Y,Y,Y,Y,Y] _=_;exact(az (eZ (cE (xs:=W.map wD) rfl) e)).trans (fJ (ij rfl (lR (om M _) (λz hz=>zc ((mem z).mp hz)) (by have:=I.len;omega))))
 show fq M.length (bQ (bL [Z (.tup (pl.map D.int)),Z (.lst (W.map wD)),Y,Y,Y,Y,Y,Y,Y] M))=_;rw[eg];exact kD (jQ _ 27) (kZ.pure hM)
def tp (l:List Int)(i c:Int):MO:=.lst [.lst (l.map D.int),.int i,.int c]
def eF (l:List Int)(rest:aw)(M:aw):Prop:=∃i c,0<=i/\M=tp l i c::rest
def wL {k:Int}(h0:0<=k)(h1:k<l.length):∃v,uc (l.map D.int) k=Z (.int v):=by
 obtain⟨n,rfl⟩:=Int.eq_ofNat_of_zero_le h0;have hn:n<l.length:=by omega
 exact⟨l[n],o7 (by simp[hn])⟩
def HR:GS:=av (ay 4 (g2 fF (g2 aT (af 0) (gC (.int 2))) (af 1))) (av (gE (af 0) (gC (.int 2)) (g2 cM (g2 aT (af 0) (gC (.int 2))) (af 1))) (bw (af 4)))
def Hq:GS:=av (ay 3 (g2 fF (g2 bO (af 3) (g2 dC (gC (.int 1000003)) (g2 aT (af 0) (gC (.int 1))))) (af 2))) (av (ay 3 (g2 fF (g2 bO (g2 bO (g2 dC (af 3) (af 3)) (g2 dC (gC (.int 1181783497276652981)) (af 3))) (gC (.int 2049848353892358983))) (af 2))) (ay 3 (g2 fF (g2 bO (g2 dC (af 3) (af 3)) (gC (.int 1442695040888963407))) (af 2))))
def HH:GS:=dY (aB (g2 vS (aQ cK (ae (g2 aT (af 0) (gC (.int 0))) ah)) (gC (.int 0)))) (ay 3 (g2 aT (g2 aT (af 0) (gC (.int 0))) (g2 fF (g2 aT (af 0) (gC (.int 1))) (aQ cK (ae (g2 aT (af 0) (gC (.int 0))) ah))))) aP
def Jd:GT:=eJ (aB (g2 zY (g2 aT (af 0) (gC (.int 1))) (aQ cK (ae (g2 aT (af 0) (gC (.int 0))) ah)))) (aB (g2 qx (af 3) (g2 m8 (gC (.int 10)) (gC (.int 18)))))
def HN:GS:=av (ay 3 (gC (.int 0))) (av HH (av (dY Jd Hq aP) (av (gE (af 0) (gC (.int 1)) (g2 bO (g2 aT (af 0) (gC (.int 1))) (gC (.int 1)))) (gE (af 0) (gC (.int 2)) (af 3)))))
theorem GF (ρ:bv)(M:aw):fu ρ M=av (ay 2 (gC (.int 2305843009213693951))) (av (dY (aB (g2 qx (g2 aT (af 0) (gC (.int 2))) (af 1))) HN aP) HR) ρ M:=rfl
def o6 {j:Int}(h:0<j)(M:aw):fF (.int i) (.int j) M=.ok (.int (i % j)) M:=by
 unfold fF;dsimp only;rw[if_pos h]
def kB {j:Int}(h:-18446744073709551616<i/\i<18446744073709551616)(M:aw):dC (.int i) (.int j) M=.ok (.int (i*j)) M:=by
 unfold dC;dsimp only;rw[if_pos (.inl ⟨Int.lt_of_le_of_lt (by decide) h.1,Int.lt_of_lt_of_le h.2 (by decide)⟩)]
def pk {go gi:GE}{M1:aw}{x:D}(h:g ρ M=.ok x M)(h2:(go ρ M).bind (λo M2=>(gi ρ M2).bind λi M3=>(tq o i x M3).bind λ_ M4=>.ok (Fl.nx ρ) M4)=.ok (Fl.nx ρ) M1):gE go gi g ρ M=.ok (.nx ρ) M1:=by
 unfold gE;rw[h,ai,h2]
variable{rest:aw}{many:Int}
def gF (hm:0<many)(hlog:many.natAbs.log2<9000)(h:eF l rest M) :
  ∃f M',0<=f/\f<many/\eF l rest M'/\au [.mr 0,.int many] M=.ok (.int f) M':=by
 obtain⟨i,c,hi,rfl⟩:=h;have i0:∀(i c:Int) (x1 x2 x3 x4:Option D),g2 aT (af 0) (gC (.int 0)) [Z (.mr 0),x1,x2,x3,x4] (tp l i c::rest)=.ok (.lst (l.map D.int)) (tp l i c::rest):=λ_ _ _ _ _ _=>rfl
 have i1:∀(i c:Int) (x1 x2 x3 x4:Option D),g2 aT (af 0) (gC (.int 1)) [Z (.mr 0),x1,x2,x3,x4] (tp l i c::rest)=.ok (.int i) (tp l i c::rest):=λ_ _ _ _ _ _=>rfl
 have i2:∀(i c:Int) (x1 x2 x3 x4:Option D),g2 aT (af 0) (gC (.int 2)) [Z (.mr 0),x1,x2,x3,x4] (tp l i c::rest)=.ok (.int c) (tp l i c::rest):=λ_ _ _ _ _ _=>rfl
 have ln:∀(i c:Int) (x1 x2 x3 x4:Option D),aQ cK (ae (g2 aT (af 0) (gC (.int 0))) ah) [Z (.mr 0),x1,x2,x3,x4] (tp l i c::rest)=.ok (.int (l.length:Int)) (tp l i c::rest):=λi c x1 x2 x3 x4=>by
  refine ij (i0 i c x1 x2 x3 x4) ?_;show aN.ok (D.int ((l.map D.int).length:Int)) _=_;rw[length_map]
 have tail:∀(c i:Int) (x2 x3 x4:Option D),0<=i->∃f M',0<=f/\f<many/\eF l rest M'/\bQ (HR [Z (.mr 0),Z (.int many),x2,x3,x4] (tp l i c::rest))=.ok (.int f) M':=λc i x2 x3 x4 hi=>by
  refine⟨c % many,tp l i (c / many)::rest,Int.emod_nonneg _ (by omega),Int.emod_lt_of_pos _ hm,⟨i,c / many,hi,rfl⟩,?_⟩;unfold HR;rw[az (aF (aq (i2 i c (Z (.int many)) x2 x3 x4) (b:=af 1) (y:=.int many) rfl (o6 hm _)))];have fd:cM (.int c) (.int many) (tp l i c::rest)=.ok (.int (c / many)) (tp l i c::rest):=by
   unfold cM;dsimp only;rw[if_pos ⟨hm,hlog⟩]
  have k:gE (af 0) (gC (.int 2)) (g2 cM (g2 aT (af 0) (gC (.int 2))) (af 1)) [Z (.mr 0),Z (.int many),x2,x3,Z (.int (c % many))] (tp l i c::rest)=.ok (.nx [Z (.mr 0),Z (.int many),x2,x3,Z (.int (c % many))]) (tp l i (c / many)::rest):=
   pk (aq (i2 i c (Z (.int many)) x2 x3 _) (b:=af 1) (y:=.int many) rfl fd) rfl
  exact(congrArg bQ (az k)).trans rfl
 show∃f M',_/\_/\_/\bQ (fu [Z (.mr 0),Z (.int many),Y,Y,Y] (tp l i c::rest))=_;rw[GF];have e0:∀b:GS,av (ay 2 (gC (.int 2305843009213693951))) b [Z (.mr 0),Z (.int many),Y,Y,Y] (tp l i c::rest)=b [Z (.mr 0),Z (.int many),Z (.int 2305843009213693951),Y,Y] (tp l i c::rest):=λb=>az rfl
 rw[e0];have tst:aB (g2 qx (g2 aT (af 0) (gC (.int 2))) (af 1)) [Z (.mr 0),Z (.int many),Z (.int 2305843009213693951),Y,Y] (tp l i c::rest)=.ok (decide (c<many)) (tp l i c::rest):=aE (aq (i2 i c _ _ _ _) (b:=af 1) (y:=.int many) rfl rfl)
 by_cases h1:c<many
 ·rw[decide_eq_true h1] at tst;obtain⟨v,ev⟩:∃v:Int,HH [Z (.mr 0),Z (.int many),Z (.int 2305843009213693951),Z (.int 0),Y] (tp l i c::rest)=.ok (.nx [Z (.mr 0),Z (.int many),Z (.int 2305843009213693951),Z (.int v),Y]) (tp l i c::rest):=by
   unfold HH;have t0:aB (g2 vS (aQ cK (ae (g2 aT (af 0) (gC (.int 0))) ah)) (gC (.int 0))) [Z (.mr 0),Z (.int many),Z (.int 2305843009213693951),Z (.int 0),Y] (tp l i c::rest)=.ok (decide ((l.length:Int)>0)) (tp l i c::rest):=aE (aq (ln i c _ _ _ _) (b:=gC (.int 0)) (y:=.int 0) rfl rfl)
   by_cases hl:(l.length:Int)>0
   ·rw[decide_eq_true hl] at t0;obtain⟨v,hv⟩:=wL (l:=l) (k:=i % l.length) (Int.emod_nonneg _ (by omega)) (Int.emod_lt_of_pos _ hl);refine⟨v,(jF t0).trans (aF (aq (f:=aT) (i0 i c _ _ _ _) (aq (i1 i c _ _ _ _) (ln i c _ _ _ _) (o6 hl _)) ?_))⟩;show(match uc (l.map D.int) (i % (l.length:Int)) with|some d=>aN.ok d (tp l i c::rest)|none=>.bad)=_;rw[hv]
   ·rw[decide_eq_false hl] at t0;exact⟨0,(dZ t0).trans rfl⟩
  have bd:∀x:Int,-18446744073709551616<x % 2305843009213693951/\x % 2305843009213693951<18446744073709551616:=λx=>by
   have h0:=Int.emod_nonneg x (show(2305843009213693951:Int)≠0 by decide);have h1:=Int.emod_lt_of_pos x (show(0:Int)<2305843009213693951 by decide);omega
  have md:∀x:Int,∀M,fF (.int x) (.int 2305843009213693951) M=.ok (.int (x % 2305843009213693951)) M:=λx M=>o6 (by decide) M
  obtain⟨u,eu⟩:∃u:Int,dY Jd Hq aP [Z (.mr 0),Z (.int many),Z (.int 2305843009213693951),Z (.int v),Y] (tp l i c::rest)=.ok (.nx [Z (.mr 0),Z (.int many),Z (.int 2305843009213693951),Z (.int u),Y]) (tp l i c::rest):=by
   have po:∀ρ,g2 m8 (gC (.int 10)) (gC (.int 18)) ρ (tp l i c::rest)=.ok (.int (10 ^ 18)) (tp l i c::rest):=λρ=>by
    refine aq (x:=.int 10) (y:=.int 18) rfl rfl ?_;unfold m8;dsimp only;rw[if_pos (by decide)];rfl
   have to:=fZ (aE (aq (f:=zY) (i1 i c (Z (.int many)) (Z (.int 2305843009213693951)) (Z (.int v)) Y) (ln i c _ _ _ _) rfl)) λ_=>aE (aq (f:=qx) (a:=af 3) (x:=.int v) rfl (po _) rfl)
   generalize (decide (i≥(l.length:Int))||decide (v<10 ^ 18))=b at to;cases b with
   | false=>exact⟨v,(dZ to).trans rfl⟩
   | true=>
    suffices hs:∃u:Int,Hq [Z (.mr 0),Z (.int many),Z (.int 2305843009213693951),Z (.int v),Y] (tp l i c::rest)=.ok (.nx [Z (.mr 0),Z (.int many),Z (.int 2305843009213693951),Z (.int u),Y]) (tp l i c::rest) from hs.elim λu e=>⟨u,(jF to).trans e⟩
    unfold Hq;rw[az (aF (aq (aq (f:=bO) (a:=af 3) (x:=.int v) rfl (aq (f:=dC) (a:=gC (.int 1000003)) (x:=.int 1000003) rfl (i1 i c _ _ _ _) (kB (by decide) _)) rfl) (b:=af 2) (y:=.int 2305843009213693951) rfl (md _ _)))];generalize hz:(v+1000003*i) % 2305843009213693951=z;have bz:=hz▸bd (v+1000003*i);have k2:ay 3 (g2 fF (g2 bO (g2 bO (g2 dC (af 3) (af 3)) (g2 dC (gC (.int 1181783497276652981)) (af 3))) (gC (.int 2049848353892358983))) (af 2)) [Z (.mr 0),Z (.int many),Z (.int 2305843009213693951),Z (.int z),Y] (tp l i c::rest)=.ok (.nx [Z (.mr 0),Z (.int many),Z (.int 2305843009213693951),Z (.int ((z*z+1181783497276652981*z+2049848353892358983) % 2305843009213693951)),Y]) (tp l i c::rest):=
     aF (aq (aq (f:=bO) (aq (f:=bO) (aq (f:=dC) (a:=af 3) (x:=.int z) rfl (b:=af 3) (y:=.int z) rfl (kB bz _)) (aq (f:=dC) (a:=gC (.int 1181783497276652981)) (x:=.int 1181783497276652981) rfl (b:=af 3) (y:=.int z) rfl (kB (by decide) _)) rfl) (b:=gC (.int 2049848353892358983)) (y:=.int 2049848353892358983) rfl rfl) (b:=af 2) (y:=.int 2305843009213693951) rfl (md _ _))
    refine Exists.imp (λu e=>(az k2).trans e) ?_;generalize hy:(z*z+1181783497276652981*z+2049848353892358983) % 2305843009213693951=y;have byy:=hy▸bd (z*z+1181783497276652981*z+2049848353892358983);exact⟨_,aF (aq (aq (f:=bO) (aq (f:=dC) (a:=af 3) (x:=.int y) rfl (b:=af 3) (y:=.int y) rfl (kB byy _)) (b:=gC (.int 1442695040888963407)) (y:=.int 1442695040888963407) rfl rfl) (b:=af 2) (y:=.int 2305843009213693951) rfl (md _ _))⟩
  have kb:HN [Z (.mr 0),Z (.int many),Z (.int 2305843009213693951),Y,Y] (tp l i c::rest)=.ok (.nx [Z (.mr 0),Z (.int many),Z (.int 2305843009213693951),Z (.int u),Y]) (tp l (i+1) u::rest):=by
   unfold HN;have e3:∀b:GS,av (ay 3 (gC (.int 0))) b [Z (.mr 0),Z (.int many),Z (.int 2305843009213693951),Y,Y] (tp l i c::rest)=b [Z (.mr 0),Z (.int many),Z (.int 2305843009213693951),Z (.int 0),Y] (tp l i c::rest):=λb=>az rfl
   rw[e3,az ev,az eu];have k1:gE (af 0) (gC (.int 1)) (g2 bO (g2 aT (af 0) (gC (.int 1))) (gC (.int 1))) [Z (.mr 0),Z (.int many),Z (.int 2305843009213693951),Z (.int u),Y] (tp l i c::rest)=.ok (.nx [Z (.mr 0),Z (.int many),Z (.int 2305843009213693951),Z (.int u),Y]) (tp l (i+1) c::rest):=
    pk (aq (i1 i c _ _ _ _) (b:=gC (.int 1)) (y:=.int 1) rfl rfl) rfl
   rw[az k1];exact pk (x:=.int u) rfl rfl
  rw[az ((jF tst).trans kb)];exact tail u (i+1) _ _ _ (by omega)
 ·rw[decide_eq_false h1] at tst;rw[az ((dZ tst).trans rfl)];exact tail c i _ _ _ hi
def dH {x:Int}(h0:0<x)(h1:x<=1000000):x.natAbs.log2<9000:=by
 have h2:x.natAbs<2 ^ 20:=by omega
 have h3:x.natAbs≠0:=by omega
 have:=(Nat.log2_lt h3).mpr h2;omega
def AH {most:Int}(hm:1<=most)(hm2:most<=1000)(h:eF l rest M) :
  ∃f M',1<=f/\f<=most/\eF l rest M'/\df [.mr 0,.int most] M=.ok (.int f) M':=by
 have lg:∀x:Int,0<x->x<=1000->x.natAbs.log2<9000:=λx h0 h1=>by
  have h2:x.natAbs<2 ^ 10:=by omega
  have h3:x.natAbs≠0:=by omega
  have:=(Nat.log2_lt h3).mpr h2;omega
 have hmin:0<(if 6<most then 6 else most)/\(if 6<most then 6 else most)<=most/\(if 6<most then(6:Int) else most)<=1000:=by split <;> omega
 obtain⟨f1,M1,a1,b1,t1,e1⟩:=gF hmin.1 (lg _ hmin.1 hmin.2.2) h;obtain⟨f2,M2,a2,b2,t2,e2⟩:=gF (many:=most) (by omega) (lg _ (by omega) hm2) t1;obtain⟨f3,M3,a3,b3,t3,e3⟩:=gF (many:=8) (by decide) (lg _ (by decide) (by decide)) t2;have l3:(3:Nat)<=sizeLine:=fE (by decide);have hix:0<=f3*3 / 10/\f3*3 / 10<3:=by omega
 have c3:Nat.log2 10<9000:=by decide
 have c4:-18446744073709551616<f3/\f3<18446744073709551616:=by omega
 have pick:∃f,1<=f/\f<=most/\∃y,f=1+y/\uc [D.int f1,D.int f2,D.int (most-1)] (f3*3 / 10)=Z (.int y):=by
  have:f3*3 / 10=0\/f3*3 / 10=1\/f3*3 / 10=2:=by omega
  rcases this with q|q|q <;> rw[q]
  ·exact⟨1+f1,by omega,by omega,f1,rfl,rfl⟩
  ·exact⟨1+f2,by omega,by omega,f2,rfl,rfl⟩
  ·exact⟨1+(most-1),by omega,by omega,most-1,rfl,rfl⟩
 obtain⟨f,hf1,hf2,y,ey,ha⟩:=pick;refine⟨f,M3,hf1,hf2,t3,?_⟩;unfold df il;simp_arith [e1,e2,e3,l3,c3,c4,ha,ey]
theorem pz {ds0:List D}{s:GG}{body:GS}{W:Nat->bv->aw->Prop}:∀(ds:List D) (i:Nat),(∀j d,ds[j]?=Z d->∀ρ M,W (i+j) ρ M->∃ρ1 ρ2 M2,s d ρ=Z ρ1/\body ρ1 M=.ok (.nx ρ2) M2/\W (i+j+1) ρ2 M2)->∀ρ M,W i ρ M->
  ∃ρ' M',W (i+ds.length) ρ' M'/\bb ⟨ds0,Y⟩ s body ds ρ M=.ok (.nx ρ') M'
 | [],i,h,ρ,M,hW=>⟨ρ,M,hW,rfl⟩
 | d::ds,i,h,ρ,M,hW=>by
  obtain⟨ρ1,ρ2,M2,e1,e2,h2⟩:=h 0 d rfl ρ M hW;obtain⟨ρ',M',h3,e3⟩:=pz (ds0:=ds0) (s:=s) (body:=body) (W:=W) ds (i+1) (λj d' hd ρ M hW=>by
   have e:i+1+j=i+(j+1):=by omega
   rw[e] at hW ⊢;exact h (j+1) d' hd ρ M hW) ρ2 M2 h2
  refine⟨ρ',M',?_,by simp[bb,dX,e1,e2,e3]⟩;have e:i+(d::ds).length=i+1+ds.length:=by simp;omega
  rw[e];exact h3
variable{n:Nat}
def iP {lo:Int}(h:(bq lo n)[j]?=Z d):j<n/\d=.int (lo+j):=by
 unfold bq at h;rw[getElem?_map] at h;cases q:(List.range n)[j]? with
 | none=>rw[q] at h;cases h
 | some k=>
  rw[q] at h;obtain⟨hj,ek⟩:=List.getElem?_eq_some_iff.mp q;rw[length_range] at hj;rw[getElem_range] at ek;subst ek;cases h;exact⟨hj,rfl⟩
def wC {a b:D}{f:Int}(h0:0<=f)(h1:f<2):∃v,(v=a\/v=b)/\∀M,aT (.lst [a,b]) (.int f) M=.ok v M:=by
 have:f=0\/f=1:=by omega
 rcases this with rfl|rfl
 ·exact⟨a,.inl rfl,λM=>oG (k:=0) rfl⟩
 ·exact⟨b,.inr rfl,λM=>oG (k:=1) rfl⟩
def BU {i:Nat}(t:eF l rest N)(hi:ρ[i]?=Z (Z (.mr 0)))(h0:0<many)(h1:many.natAbs.log2<9000):∃f N1,0<=f/\f<many/\eF l rest N1/\∀g:GE,g ρ N=.ok (.int many) N->ax 2 au (ae (af i) (ae g ah)) ρ N=.ok (.int f) N1:=by
 obtain⟨f,N1,a,b,t1,e⟩:=gF h0 h1 t;exact⟨f,N1,a,b,t1,λg hg=>nD (a:=af i) (by unfold af;rw[hi]) hg e⟩
def nY (h:eF ns rest M)(hr:rest.all dh=true):M.all dh=true:=by
 obtain⟨i,c,_,rfl⟩:=h;rw[all_cons,hr,Bool.and_true];show(D.lst (ns.map D.int)::[D.int i,D.int c]).all (aZ 30)=true;have:=uY 28 ns;simp[vj,this]
def rj (h:eF ns (rest++[.lst xs]) M):M[rest.length+1]?=Z (.lst xs)/\eF ns (rest++[.lst (xs++[d])]) (M.set (rest.length+1) (.lst (xs++[d]))):=by
 obtain⟨i,c,hi,rfl⟩:=h;exact⟨by simp,i,c,hi,by simp⟩
def D0 {a:GE}{N1:aw}{f j:Int}(e:a ρ N=.ok (.int f) N1)(h0:0<j)(h1:j<=1000):g2 cM a (gC (.int j)) ρ N=.ok (.int (f / j)) N1:=aq e rfl (A8 h0 (by omega) N1)
def ju {m1 m2 m3 dv:Int}(t:eF l rest M){iv:Nat}(hi:ρ[iv]?=Z (Z (.mr 0)))(h1:0<m1/\m1<=1000)(h2:0<m2/\m2<=1000)(h3:0<m3/\m3<=1000)(hd:0<dv/\dv<=1000)(h4:m3-1<2*dv)(h5:m1<=m2) :
  ∃(v:Nat) (M':aw),(v:Int)<m2/\eF l rest M'/\g2 aT (du (ae (ax 2 au (ae (af iv) (ae (gC (.int m1)) ah))) (ae (ax 2 au (ae (af iv) (ae (gC (.int m2)) ah))) ah))) (g2 cM (ax 2 au (ae (af iv) (ae (gC (.int m3)) ah))) (gC (.int dv))) ρ M=.ok (.int (v:Int)) M':=by
 obtain⟨f1,N1,a1,b1,t1,e1⟩:=BU (ρ:=ρ) (i:=iv) (many:=m1) t hi h1.1 (dH h1.1 (by omega));obtain⟨f2,N2,a2,b2,t2,e2⟩:=BU (ρ:=ρ) (i:=iv) (many:=m2) t1 hi h2.1 (dH h2.1 (by omega));obtain⟨f3,N3,a3,b3,t3,e3⟩:=BU (ρ:=ρ) (i:=iv) (many:=m3) t2 hi h3.1 (dH h3.1 (by omega));have q0:0<=f3 / dv:=Int.ediv_nonneg a3 (by omega);have q1:f3 / dv<2:=Int.ediv_lt_of_lt_mul hd.1 (by omega);obtain⟨v,hv,ev⟩:=wC (a:=.int f1) (b:=.int f2) q0 q1;obtain⟨n,hn,hn2⟩:∃n:Nat,v=.int n/\(n:Int)<m2:=by
  rcases hv with h|h
  ·obtain⟨n,rfl⟩:=Int.eq_ofNat_of_zero_le a1;exact⟨n,h,by omega⟩
  ·obtain⟨n,rfl⟩:=Int.eq_ofNat_of_zero_le a2;exact⟨n,h,by omega⟩
 subst hn;exact⟨n,N3,hn2,t3,aq (f:=aT) (jH (ds:=[.int f1,.int f2]) (dD (e1 _ rfl) (dD (e2 _ rfl) rfl))) (D0 (e3 _ rfl) hd.1 (by omega)) (ev N3)⟩
def xr {gi:GI}{gc:GT}{ds es:List D}{M1 M2:aw}(hi:gi ρ M=.ok ⟨ds,Y⟩ M1)(he:dG ⟨ds,Y⟩ gc ge ds ρ M1=.ok es M2)(hl:es.length<=1000000):aK gi gc ge aA ρ M=.ok (.lst es) M2:=by
 unfold aK;rw[hi,ai];dsimp only;rw[he,ai];unfold aA;rw[if_pos (fE hl)]
abbrev Q4:=Int×Int×Int×Int
def qD (q:Q4):D:=.tup [.int q.1,.int q.2.1,.int q.2.2.1,.int q.2.2.2]
def EO (pot:Int->Int)(W:List W3)(q:Q4):Prop:=∃w f o,w∈W/\zt pot W w f o/\o≠w.2.2/\q=(f,w)
structure ii (qs:List Q4):Prop where
 nd:qs.Nodup
 lo:∀q,q∈qs->(0<=q.1/\q.1<=q.2.1/\q.2.1<40)/\0<=q.2.2.1/\q.2.2.1<16
 dis:∀q,q∈qs->∀p,p∈qs->q.2.2.1=p.2.2.1->q=p\/q.2.1<p.1\/p.2.1<q.1
def Cq {f o:Int}(hs:∀w,w∈W->de w)(hw:w∈W)(h:zt pot W w f o):0<=f/\f<=w.1:=by
 have s:=(hs w hw).1;rcases h with⟨_,rfl,_⟩|⟨p,hp,_,e2,_,rfl,_⟩
 ·exact⟨Int.le_refl _,s.1⟩
 ·have:=(hs p hp).1.1;omega
def sQ {v:W3}{f o:Int}(hv:v∈W)(hi:v.2.1=w.2.1)(hl:v.1<w.1)(h:zt pot W w f o):v.1<f:=by
 rcases h with⟨n,_,_⟩|⟨p,_,_,_,e3,rfl,_⟩
 ·exact absurd hl (n v hv hi)
 ·have:=e3 v hv hi hl;omega
def sH (ag:cL W){v:W3}(hw:w∈W)(hv:v∈W)(h1:v.1=w.1)(h2:v.2.1=w.2.1):v=w:=by
 have h3:=ag v hv w hw h1 h2;obtain⟨a,b,c⟩:=v;obtain⟨a',b',c'⟩:=w;dsimp only at h1 h2 h3;subst h1 h2 h3;rfl
variable{qs:List Q4}
def Ea (ag:cL W)(hs:∀w,w∈W->de w)(nd:qs.Nodup)(mem:∀q,q∈qs↔EO pot W q):ii qs:=by
 refine⟨nd,λq hq=>?_,λq hq p hp e=>?_⟩
 ·obtain⟨w,f,o,hw,hp,_,rfl⟩:=(mem q).mp hq;have:=Cq hs hw hp;have s:=hs _ hw;exact⟨⟨this.1,this.2,s.1.2⟩,s.2⟩
 ·obtain⟨w,f,o,hw,hpw,_,rfl⟩:=(mem q).mp hq;obtain⟨v,g,o',hv,hpv,_,rfl⟩:=(mem p).mp hp;dsimp only at e ⊢;rcases Int.lt_trichotomy w.1 v.1 with z|z|z
  ·exact .inr (.inl (sQ hw e z hpv))
  ·have:=sH ag hv hw z e;subst this;have:=(eI ag hpw hpv).1;subst this;exact .inl rfl
  ·exact .inr (.inr (sQ hv e.symm z hpw))
def BY {P:W3->Prop}[DecidablePred P]:(∀o,o∈W->¬P o)\/∃o,o∈W/\P o/\∀p,p∈W->P p->p.1<=o.1:=by
 induction W with
 | nil=>exact .inl λo h=>by cases h
 | cons a W ih=>
  by_cases ha:P a
  ·rcases ih with n|⟨o,ho,po,mo⟩
   ·exact .inr ⟨a,mem_cons_self,ha,λp hp pp=>by
     rcases mem_cons.mp hp with rfl|hp
     ·exact Int.le_refl _
     ·exact absurd pp (n p hp)⟩
   ·by_cases hl:o.1<=a.1
    ·refine .inr ⟨a,mem_cons_self,ha,λp hp pp=>?_⟩;rcases mem_cons.mp hp with rfl|hp
     ·exact Int.le_refl _
     ·have:=mo p hp pp;omega
    ·refine .inr ⟨o,mem_cons_of_mem _ ho,po,λp hp pp=>?_⟩;rcases mem_cons.mp hp with rfl|hp
     ·omega
     ·exact mo p hp pp
  ·rcases ih with n|⟨o,ho,po,mo⟩
   ·refine .inl λo ho=>?_
    rcases mem_cons.mp ho with rfl|ho
    ·exact ha
    ·exact n o ho
   ·refine .inr ⟨o,mem_cons_of_mem _ ho,po,λp hp pp=>?_⟩;rcases mem_cons.mp hp with rfl|hp
    ·exact absurd pp ha
    ·exact mo p hp pp
def wF (pot:Int->Int)(W:List W3)(w:W3):∃f o,zt pot W w f o:=by
 rcases BY (W:=W) (P:=λo=>o.2.1=w.2.1/\o.1<w.1) with n|⟨o,ho,po,mo⟩
 ·exact⟨0,pot w.2.1,.inl ⟨λo ho e l=>n o ho ⟨e,l⟩,rfl,rfl⟩⟩
 ·exact⟨o.1+1,o.2.2,.inr ⟨o,ho,po.1,po.2,λp hp e l=>mo p hp ⟨e,l⟩,rfl,rfl⟩⟩
def HP (pot:Int->Int)(qs:List Q4)(w:W3):Prop:=
 (∃q,q∈qs/\q.2.2.1=w.2.1/\q.2.1<=w.1/\(∀p,p∈qs->p.2.2.1=w.2.1->p.2.1<=w.1->p.2.1<=q.2.1)/\q.2.2.2=w.2.2)\/
 ((∀p,p∈qs->p.2.2.1=w.2.1->¬p.2.1<=w.1)/\pot w.2.1=w.2.2)
def zw (ag:cL W)(hs:∀w,w∈W->de w)(mem:∀q,q∈qs↔EO pot W q):∀(n:Nat) (w:W3),w∈W->w.1<=n->HP pot qs w:=by
 intro n
 induction n with
 | zero=>
  intro w hw hn;obtain⟨f,o,hp⟩:=wF pot W w;have s:=(hs w hw).1
  by_cases e:o=w.2.2
  ·refine .inr ⟨λp hp' ei hl=>?_,?_⟩
   ·obtain⟨v,g,o',hv,hpv,ne,rfl⟩:=(mem p).mp hp';dsimp only at ei hl;have sv:=(hs _ hv).1;have:=sH ag hw hv (by omega) ei;subst this;exact ne ((eI ag hpv hp).2.trans e)
   ·rcases hp with⟨_,_,h⟩|⟨p,hp,_,e2,_⟩
    ·rw[<-h];exact e
    ·have:=(hs p hp).1.1;omega
  ·refine .inl ⟨(f,w),(mem _).mpr ⟨w,f,o,hw,hp,e,rfl⟩,rfl,Int.le_refl _,λp hp' ei hl=>hl,rfl⟩
 | succ n ih=>
  intro w hw hn
  by_cases hle:w.1<=n
  ·exact ih w hw hle
  obtain⟨f,o,hp⟩:=wF pot W w
  by_cases e:o=w.2.2
  ·
   have none_here:∀p,p∈qs->p.2.2.1=w.2.1->p.2.1≠w.1:=λp hp' ei hl=>by
    obtain⟨v,g,o',hv,hpv,ne,rfl⟩:=(mem p).mp hp';dsimp only at ei hl;have:=sH ag hw hv hl ei;subst this;exact ne ((eI ag hpv hp).2.trans e)
   rcases id hp with⟨nn,_,h⟩|⟨p,hpm,e1,e2,e3,_,h⟩
   ·refine .inr ⟨λq hq ei hl=>?_,by rw[<-h];exact e⟩;obtain⟨v,g,o',hv,hpv,_,rfl⟩:=(mem q).mp hq;dsimp only at ei hl;have:=none_here _ hq ei;dsimp only at this;exact nn _ hv ei (by omega)
   ·have up:∀q,q∈qs->q.2.2.1=w.2.1->q.2.1<=w.1->q.2.1<=p.1:=λq hq ei hl=>by
     have ne:=none_here q hq ei;obtain⟨v,g,o',hv,hpv,_,rfl⟩:=(mem q).mp hq;dsimp only at ei hl ne ⊢;exact e3 _ hv ei (by omega)
    rcases ih p hpm (by omega) with⟨q,hq,a1,a2,a3,a4⟩|⟨a1,a2⟩
    ·refine .inl ⟨q,hq,a1.trans e1,by omega,λr hr ei hl=>a3 r hr (ei.trans e1.symm) (up r hr ei hl),?_⟩;rw[a4,<-h];exact e
    ·refine .inr ⟨λq hq ei hl=>a1 q hq (ei.trans e1.symm) (up q hq ei hl),?_⟩;rw[<-e1,a2,<-h];exact e
  ·refine .inl ⟨(f,w),(mem _).mpr ⟨w,f,o,hw,hp,e,rfl⟩,rfl,Int.le_refl _,λp hp' ei hl=>hl,rfl⟩
def nr (xs:List Q4)(j:Nat):Int:=(xs.map λq=>q.2.1).getD j 0
def m5 (xs:List Q4):List Q4:=(gT (nr xs) xs.length).map λj=>xs.getD j (0,0,0,0)
def jh (xs:List Q4):(m5 xs).Perm xs:=by
 refine(oq.map _).trans (.of_eq ?_);apply ext_getElem
 ·simp
 ·intro i h1 h2;simp[h2]
def Cj {key:Nat->Int}:(gT key n).Pairwise λi j=>key i<=key j:=by
 unfold gT;split
 ·rename_i h
  match n,h with
  | 0,_=>exact .nil
  | 1,_=>exact pairwise_singleton _ _
 ·obtain⟨p,u⟩:=kJ (key:=key) (n:=n) (by omega);have sz:(xB key n).size=n:=by rw[p.size_eq];simp
  refine pairwise_iff_getElem.mpr λi j hi hj hij=>?_
  rw[Array.length_toList] at hi hj;have:=k8 u (i:=i) (j:=j) (by omega) (by omega);unfold kp at this;rw[Array.getD,Array.getD,dif_pos hi,dif_pos hj] at this;exact this
def yF {xs:List Q4}(h:j<xs.length):nr xs j=(xs.getD j (0,0,0,0)).2.1:=by
 unfold nr;rw[getD_eq_getElem?_getD,getD_eq_getElem?_getD,getElem?_map,getElem?_eq_getElem h];rfl
def Cd (xs:List Q4):(m5 xs).Pairwise λa b=>a.2.1<=b.2.1:=by
 unfold m5;rw[pairwise_map];refine Cj.imp_of_mem λ{i j} hi hj h=>?_
 rw[yF (jb hi),yF (jb hj)] at h;exact h
abbrev T2:=Int×Q4
def kM (row:Int)(wt:List Q4):List Q4:=wt.filter λq=>decide (q.1<=row)
def ir (room:Nat)(row:Int)(wt:List Q4):List Q4:=(m5 (kM row wt)).drop room
def iA (room:Nat)(row:Int)(wt:List Q4):List Q4:=(m5 (kM row wt)).take room
def Ax (room:Nat)(row:Int)(wt:List Q4):List Q4:=ir room row wt++wt.filter λq=>decide (row<q.1)
def DA (room:Nat):Nat->Int->List Q4->List T2->Option (List T2)
 | 0,_,_,_=>Y
 | n+1,row,wt,tb=>if wt=[] then Z tb else
   if(ir room row wt).any (λq=>decide (q.2.1<=row))=true then Y
   else DA room n (row+1) (Ax room row wt) (tb++(iA room row wt).map λq=>(row,q))
structure EI (qs:List Q4)(room:Nat)(row:Int)(wt:List Q4)(tb:List T2):Prop where
 perm:(tb.map (λx=>x.2)++wt).Perm qs
 at_:∀x,x∈tb->x.2.1<=x.1/\x.1<=x.2.2.1/\x.1<row
 up:tb.Pairwise λa b=>a.1<=b.1
 cnt:∀r:Int,(tb.filter λx=>decide (x.1=r)).length<=room
 dl:∀q,q∈wt->row<=q.2.1
 full:∀d:Int,∃t,0<=t/\t<=row/\(∀q,q∈wt->q.2.1<=d->t<=q.1)/\(room:Int)*(row-t)<=((tb.countP λx=>decide (x.2.2.1<=d)&&decide (t<=x.2.1):Nat):Int)
variable{q:Q4}
section
variable {qs:List Q4}{room:Nat}{row:Int}{wt:List Q4}{tb:List T2}
def mv:(iA room row wt++Ax room row wt).Perm wt:=by
 unfold iA Ax ir;rw[<-append_assoc,take_append_drop];refine((jh _).append (.refl _)).trans ?_;unfold kM;have e:(wt.filter λq=>decide (row<q.1))=wt.filter λq=>!decide (q.1<=row):=filter_congr λq _=>by
  by_cases h:q.1<=row
  ·rw[decide_eq_true h,decide_eq_false (by omega)];rfl
  ·rw[decide_eq_false h,decide_eq_true (by omega)];rfl
 rw[e];exact filter_append_perm _ _
def tz (h:q∈iA room row wt):q∈wt/\q.1<=row:=by
 have:=(jh _).subset (mem_of_mem_take h);have:=mem_filter.mp this;exact⟨this.1,of_decide_eq_true this.2⟩
def Ce (h:q∈ir room row wt):q∈wt/\q.1<=row:=by
 have:=(jh _).subset (mem_of_mem_drop h);have:=mem_filter.mp this;exact⟨this.1,of_decide_eq_true this.2⟩
def BP {p:Q4}(hp:p∈iA room row wt)(hq:q∈ir room row wt):p.2.1<=q.2.1:=by
 have:=Cd (kM row wt);rw[<-take_append_drop room (m5 (kM row wt))] at this;exact(pairwise_append.mp this).2.2 p hp q hq
def wV (h:(iA room row wt).length≠room):ir room row wt=[]:=by
 unfold iA at h;unfold ir;rw[length_take] at h;exact drop_eq_nil_of_le (by omega)
def uh (ok:ii qs)(Ei:EI qs room row wt tb)(h0:0<=row)(hn:(ir room row wt).any (λq=>decide (q.2.1<=row))=false):EI qs room (row+1) (Ax room row wt) (tb++(iA room row wt).map λq=>(row,q)):=by
 have inq:∀q,q∈wt->q∈qs:=λq hq=>Ei.perm.subset (mem_append_right _ hq)
 have nw:∀x,x∈(iA room row wt).map (λq=>(row,q))->x.1=row/\x.2∈iA room row wt:=λx hx=>by
  obtain⟨q,hq,rfl⟩:=mem_map.mp hx;exact⟨rfl,hq⟩
 have sub:∀q,q∈Ax room row wt->q∈wt:=λq hq=>mv.subset (mem_append_right _ hq)
 refine⟨?_,λx hx=>?_,?_,λr=>?_,λq hq=>?_,λd=>?_⟩
 ·refine List.Perm.trans ?_ Ei.perm;rw[map_append,map_map,append_assoc];refine(List.Perm.refl _).append ?_;have e:List.map ((λx:T2=>x.2) ∘ λq=>(row,q)) (iA room row wt)=iA room row wt:=map_id' _;rw[e];exact mv
 ·rcases mem_append.mp hx with hx|hx
  ·have:=Ei.at_ x hx;exact⟨this.1,this.2.1,by omega⟩
  ·obtain⟨e,hq⟩:=nw x hx;have a:=tz hq;have b:=Ei.dl _ a.1;rw[e];exact⟨a.2,b,by omega⟩
 ·refine pairwise_append.mpr ⟨Ei.up,?_,λx hx y hy=>?_⟩
  ·rw[pairwise_map];exact pairwise_iff_getElem.mpr λ_ _ _ _ _=>Int.le_refl _
  ·have:=(Ei.at_ x hx).2.2;rw[(nw y hy).1];omega
 ·rw[filter_append,length_append]
  by_cases hr:r=row
  ·subst hr;have e1:(tb.filter λx=>decide (x.1=r))=[]:=filter_eq_nil_iff.mpr λx hx=>by
    have:=(Ei.at_ x hx).2.2;rw[decide_eq_false (by omega)];exact Bool.false_ne_true
   have e2:=length_filter_le (λx:T2=>decide (x.1=r)) ((iA room r wt).map λq=>(r,q));rw[length_map] at e2;have e3:(iA room r wt).length<=room:=by unfold iA;rw[length_take];omega
   rw[e1];simp only[length_nil];omega
  ·have e1:(((iA room row wt).map λq=>(row,q)).filter λx=>decide (x.1=r))=[]:=filter_eq_nil_iff.mpr λx hx=>by
    rw[(nw x hx).1,decide_eq_false (by omega)];exact Bool.false_ne_true
   rw[e1];exact Ei.cnt r
 ·rcases mem_append.mp hq with hl|hf
  ·have:=any_eq_false.mp hn q hl;have:=of_decide_eq_false (by simpa using this:decide (q.2.1<=row)=false);omega
  ·have hf:=mem_filter.mp hf;have:=of_decide_eq_true hf.2;have:=(ok.lo q (inq q hf.1)).1.2.1;omega
 ·obtain⟨t,t0,t1,t2,t3⟩:=Ei.full d
  by_cases hc:(iA room row wt).length=room/\∀q,q∈iA room row wt->q.2.1<=d
  ·refine⟨t,t0,by omega,λq hq hd=>t2 q (sub q hq) hd,?_⟩;rw[countP_append];have e:((iA room row wt).map λq=>(row,q)).countP (λx:T2=>decide (x.2.2.1<=d)&&decide (t<=x.2.1))=room:=by
    rw[countP_eq_length.mpr,length_map,hc.1];intro x hx;obtain⟨_,hq⟩:=nw x hx;rw[decide_eq_true (hc.2 _ hq),decide_eq_true (t2 _ (tz hq).1 (hc.2 _ hq))];rfl
   rw[e,show row+1-t=(row-t)+1 by omega,Int.mul_add,Int.mul_one];omega
  ·refine⟨row+1,by omega,Int.le_refl _,λq hq hd=>?_,by rw[Int.sub_self,Int.mul_zero];omega⟩;rcases mem_append.mp hq with hl|hf
   ·exfalso
    by_cases hlen:(iA room row wt).length=room
    ·apply hc;refine⟨hlen,λp hp=>?_⟩;have:=BP hp hl;omega
    ·rw[wV hlen] at hl;cases hl
   ·have:=of_decide_eq_true (mem_filter.mp hf).2;omega
def fI (a b:Int)(q:Q4):Bool:=decide (a<=q.1)&&decide (q.2.1<=b)
def tH (qs:List Q4)(room:Nat):Prop:=∃a b,a∈qs.map (λq=>q.1)/\b∈qs.map (λq=>q.2.1)/\a<=b/\(room:Int)*(b-a+1)<((qs.filter (fI a b)).length:Int)
theorem wQ {P:Q4->Bool}:∀{l:List Q4},l.countP P≠0->∃q,q∈l/\P q=true/\∀p,p∈l->P p=true->q.1<=p.1
 | [],h=>absurd rfl h
 | a::l,h=>by
  by_cases hl:l.countP P=0
  ·have n:∀p,p∈l->¬P p=true:=countP_eq_zero.mp hl
   by_cases ha:P a=true
   ·refine⟨a,mem_cons_self,ha,λp hp pp=>?_⟩;rcases mem_cons.mp hp with rfl|hp
    ·exact Int.le_refl _
    ·exact absurd pp (n p hp)
   ·rw[countP_cons_of_neg ha] at h;exact absurd hl h
  ·obtain⟨q,hq,pq,mq⟩:=wQ hl
   by_cases ha:P a=true/\a.1<=q.1
   ·refine⟨a,mem_cons_self,ha.1,λp hp pp=>?_⟩;rcases mem_cons.mp hp with rfl|hp
    ·exact Int.le_refl _
    ·have:=mq p hp pp;omega
   ·refine⟨q,mem_cons_of_mem _ hq,pq,λp hp pp=>?_⟩;rcases mem_cons.mp hp with rfl|hp
    ·by_cases z:p.1<q.1
     ·exact absurd ⟨pp,by omega⟩ ha
     ·omega
    ·exact mq p hp pp
def yU (ok:ii qs)(Ei:EI qs room row wt tb)(h0:0<=row)(hn:(ir room row wt).any (λq=>decide (q.2.1<=row))=true):tH qs room:=by
 obtain⟨q0,hq0,hl0⟩:=any_eq_true.mp hn;have hl0:=of_decide_eq_true hl0;have w0:=Ce hq0;have d0:=Ei.dl q0 w0.1;have tl:(iA room row wt).length=room:=Classical.byContradiction λz=>by rw[wV z] at hq0;cases hq0
 obtain⟨t,t0,t1,t2,t3⟩:=Ei.full row;have c1:∀l:List Q4,(∀q,q∈l->q∈wt/\q.2.1<=row)->l.countP (fI t row)=l.length:=λl hl=>countP_eq_length.mpr λq hq=>by
  unfold fI;rw[decide_eq_true (t2 q (hl q hq).1 (hl q hq).2),decide_eq_true (hl q hq).2];rfl
 have ct:(iA room row wt).countP (fI t row)=room:=by
  rw[c1 _ λq hq=>⟨(tz hq).1,Int.le_trans (BP hq hq0) hl0⟩,tl]
 have cn:1<=(Ax room row wt).countP (fI t row):=countP_pos_iff.mpr ⟨q0,mem_append_left _ hq0,by
  unfold fI;rw[decide_eq_true (t2 q0 w0.1 hl0),decide_eq_true hl0];rfl⟩
 have cw:wt.countP (fI t row)=(iA room row wt).countP (fI t row)+(Ax room row wt).countP (fI t row):=by
  rw[<-(mv (room:=room) (row:=row) (wt:=wt)).countP_eq,countP_append]
 have cb:(tb.map λx=>x.2).countP (fI t row)=tb.countP λx=>decide (x.2.2.1<=row)&&decide (t<=x.2.1):=by
  rw[countP_map];refine countP_congr λx _=>?_
  show fI t row x.2=true↔_;unfold fI;rw[Bool.and_comm]
 have cq:qs.countP (fI t row)=tb.countP (λx=>decide (x.2.2.1<=row)&&decide (t<=x.2.1))+wt.countP (fI t row):=by
  rw[<-Ei.perm.countP_eq,countP_append,cb]
 have tot:(room:Int)*(row-t)+room+1<=((qs.countP (fI t row):Nat):Int):=by omega
 obtain⟨a,ha,pa,ma⟩:=wQ (P:=fI t row) (l:=qs) (by
  rw[cq,cw];omega)
 have pa2:=pa;unfold fI at pa2;rw[Bool.and_eq_true,decide_eq_true_eq,decide_eq_true_eq] at pa2;have la:=(ok.lo a ha).1.2.1;have e0:q0.2.1=row:=by omega
 refine⟨a.1,row,mem_map.mpr ⟨a,ha,rfl⟩,mem_map.mpr ⟨q0,Ei.perm.subset (mem_append_right _ w0.1),e0⟩,by omega,?_⟩;have same:(qs.filter (fI a.1 row))=qs.filter (fI t row):=filter_congr λq hq=>by
  have z:fI t row q=true->a.1<=q.1:=ma q hq;unfold fI at z ⊢
  by_cases h1:q.2.1<=row
  ·rw[decide_eq_true h1,Bool.and_true,Bool.and_true];rw[decide_eq_true h1,Bool.and_true,decide_eq_true_eq] at z
   by_cases h2:t<=q.1
   ·rw[decide_eq_true h2,decide_eq_true (z h2)]
   ·rw[decide_eq_false h2,decide_eq_false (by omega)]
  ·rw[decide_eq_false h1,Bool.and_false,Bool.and_false]
 rw[same,<-countP_eq_length_filter];have e1:(room:Int)*(row-a.1+1)<=(room:Int)*(row-t)+room:=by
  rw[Int.mul_add,Int.mul_one];have:=Int.mul_le_mul_of_nonneg_left (a:=row-a.1) (b:=row-t) (c:=(room:Int)) (by omega) (by omega);omega
 omega
theorem wZ (ok:ii qs):∀(n:Nat) (row:Int) (wt:List Q4) (tb:List T2),EI qs room row wt tb->0<=row->(40-row).toNat<n->(∃tb' row',DA room n row wt tb=Z tb'/\EI qs room row' [] tb')\/(DA room n row wt tb=Y/\tH qs room)
 | 0,row,wt,tb,Ei,h0,h=>absurd h (Nat.not_lt_zero _)
 | n+1,row,wt,tb,Ei,h0,h=>by
  unfold DA
  by_cases hw:wt=[]
  ·subst hw;rw[if_pos rfl];exact .inl ⟨tb,row,rfl,Ei⟩
  ·rw[if_neg hw];cases hq:(ir room row wt).any (λq=>decide (q.2.1<=row)) with
   | true=>rw[if_pos rfl];exact .inr ⟨rfl,yU ok Ei h0 hq⟩
   | false=>
    rw[if_neg Bool.false_ne_true];refine wZ ok n (row+1) _ _ (uh ok Ei h0 hq) (by omega) ?_;have hr:row<40:=by
     cases wt with
     | nil=>exact absurd rfl hw
     | cons q l=>
      have a:=Ei.dl q mem_cons_self;have b:=(ok.lo q (Ei.perm.subset (mem_append_right _ mem_cons_self))).1.2.2;omega
    omega
def Fk (ok:ii qs):EI qs room 0 qs []:=
 ⟨.refl _,(λx hx=>by cases hx),.nil,(λr=>Nat.zero_le _),(λq hq=>Int.le_trans (ok.lo q hq).1.1 (ok.lo q hq).1.2.1),λd=>⟨0,Int.le_refl _,Int.le_refl _,(λq hq _=>(ok.lo q hq).1.1),by simp⟩⟩
theorem wq {α:Type}[DecidableEq α]:∀{l k:List α},l.Nodup->(∀x,x∈l->x∈k)->l.length<=k.length
 | [],k,_,_=>Nat.zero_le _
 | a::l,k,h,hs=>by
  obtain⟨h1,h2⟩:=nodup_cons.mp h;have:=wq (k:=k.erase a) h2 λx hx=>(mem_erase_of_ne (λz:x=a=>h1 (by rw[<-z];exact hx))).mpr (hs x (mem_cons_of_mem _ hx))
  have ha:=hs a mem_cons_self;rw[length_erase_of_mem ha] at this;have:=length_pos_of_mem ha;rw[length_cons];omega
def zX (ok:ii qs)(Ei:EI qs room row wt tb):(kM row wt).length<=16:=by
 have inq:∀q,q∈wt->q∈qs:=λq hq=>Ei.perm.subset (mem_append_right _ hq)
 have ndw:wt.Nodup:=(nodup_append.mp (Ei.perm.nodup_iff.mpr ok.nd)).2.1;have nd:((kM row wt).map λq=>q.2.2.1).Nodup:=by
  refine pairwise_map.mpr ((ndw.filter _).imp_of_mem λ{a b} ha hb ne e=>?_);have ha:=mem_filter.mp ha;have hb:=mem_filter.mp hb;have a1:=of_decide_eq_true ha.2;have b1:=of_decide_eq_true hb.2;have a2:=Ei.dl a ha.1;have b2:=Ei.dl b hb.1;rcases ok.dis a (inq a ha.1) b (inq b hb.1) e with z|z|z
  ·exact ne z
  ·omega
  ·omega
 have:=wq (k:=(List.range 16).map λ(i:Nat)=>(i:Int)) nd λx hx=>by
  obtain⟨q,hq,rfl⟩:=mem_map.mp hx;have:=(ok.lo q (inq q (mem_filter.mp hq).1)).2;exact mem_map.mpr ⟨q.2.2.1.toNat,mem_range.mpr (by omega),by omega⟩
 rw[length_map,length_map,length_range] at this;exact this
end
def tD (x:T2):D:=.tup [.int x.1,.int x.2.2.2.1,.int x.2.2.2.2]
theorem yC:∀xs:List Q4,im 1 (xs.map qD)=Z (xs.map λq=>q.2.1)
 | []=>rfl
 | q::xs=>by
  show(match rg 1 (qD q) with|some k=>(im 1 (xs.map qD)).map (k::·)|none=>Y)=_;rw[yC xs];rfl
def DQ {xs:List Q4}(h:xs.length<64):lU 1 (.lst (xs.map qD)) M=.ok (.lst ((m5 xs).map qD)) M:=by
 unfold lU;dsimp only;rw[yC];dsimp only;rw[length_map,if_pos h];unfold m5;rw[map_map];refine congrArg (λl=>aN.ok (D.lst l) M) (map_congr_left λj hj=>?_);have hj:=jb hj;show(xs.map qD).getD j .non=qD (xs.getD j (0,0,0,0));rw[getD_eq_getElem?_getD,getD_eq_getElem?_getD,getElem?_map,getElem?_eq_getElem hj];rfl
def DG (xs:List D)(n:Nat):jO xs (Z (n:Int)) Y=xs.drop n:=by
 unfold jO;rw[HT.sIx_nat,HT.sIx_none]
 by_cases h:n<=xs.length
 ·rw[Nat.min_eq_left h];exact take_of_length_le (by rw[length_drop];omega)
 ·rw[Nat.min_eq_right (by omega),drop_length,drop_eq_nil_of_le (by omega)];exact take_nil
def DU (xs:List D)(n:Nat):jO xs Y (Z (n:Int))=xs.take n:=by
 unfold jO;rw[HT.sIx_nat,HT.sIx_none,drop_zero,Nat.sub_zero]
 by_cases h:n<=xs.length
 ·rw[Nat.min_eq_left h]
 ·rw[Nat.min_eq_right (by omega),take_length,take_of_length_le (by omega)]
def E7 {gn:GE}(h:g ρ M=.ok (.lst xs) M)(hn:gn ρ M=.ok (.int n) M):m6 g (da gn) bp ρ M=.ok (.lst (xs.drop n)) M:=by
 unfold m6 da bp;rw[h,ai,hn,ai,ai,ai];exact congrArg (λl=>aN.ok (D.lst l) M) (DG xs n)
def G2 {gn:GE}(h:g ρ M=.ok (.lst xs) M)(hn:gn ρ M=.ok (.int n) M):m6 g bp (da gn) ρ M=.ok (.lst (xs.take n)) M:=by
 unfold m6 da bp;rw[h,ai,ai,hn,ai,ai];exact congrArg (λl=>aN.ok (D.lst l) M) (DU xs n)
def oC (h:g ρ M=.ok (qD q) M)(hk:[D.int q.1,.int q.2.1,.int q.2.2.1,.int q.2.2.2][k]?=Z d):g2 aT g (gC (.int k)) ρ M=.ok d M:=aq h rfl (bU hk)
theorem uy {α:Type}{b:α->Bool}:∀l:List α,cV (l.map λa=>D.bl (b a))=Z (l.map b)
 | []=>rfl
 | a::l=>by
  show(cV (l.map λa=>D.bl (b a))).map (b a::·)=_;rw[uy l];rfl
def GN {α:Type}{b:α->Bool}{l:List α}:wf [.lst (l.map λa=>D.bl (b a))] M=.ok (.bl (l.any b)) M:=by
 show(match cV (l.map λa=>D.bl (b a)) with|some bs=>aN.ok (D.bl (bs.any id)) M|none=>.bad)=_;rw[uy];dsimp only;rw[any_map];rfl
theorem nW {α:Type}{f g:α->D}{n:Nat}{sg:GG}{ge:GE}{ρ:bv}{M:aw}{t:jP}{env:α->bv}(ht:t.ok M=true):∀l:List α,(∀a,a∈l->sg (f a) (List.replicate n Y++ρ)=Z (env a)/\ge (env a) M=.ok (g a) M)->aM t n sg fo ge (l.map f) ρ M=.ok (l.map g) M
 | [],_=>by
  show(if t.ok M=true then aN.ok [] M else .bad)=_;rw[if_pos ht];rfl
 | a::l,h=>by
  obtain⟨h1,h2⟩:=h a mem_cons_self;rw[map_cons,aM,if_pos ht,h1];show(match ge (env a) M with | .ok e M2=>(aM t n sg fo ge (l.map f) ρ M2).bind λes M3=>.ok (e::es) M3|_=>.bad)=_;rw[h2];dsimp only;rw[nW ht l λb hb=>h b (mem_cons_of_mem _ hb),ai];rfl
abbrev eW (room:Nat)(nd:D)(M:aw)(wt:List Q4)(row:Int)(a b:Option D):bv:=[Z (.int room),Z nd,Z (.mr M.length),Z (.lst (wt.map qD)),Z (.int row),a,b]
variable{room:Nat}{wt:List Q4}
def tQ {nd:D}{row:Int}{a b:Option D}(hw:wt.length<=1000):aK (aY (af 3)) cX cR aA (eW room nd M wt row a b) N=.ok (.lst ((kM row wt).map qD)) N/\
  aK (aY (af 3)) cU cT aA (eW room nd M wt row a b) N=.ok (.lst ((wt.filter λq=>decide (row<q.1)).map qD)) N:=by
 constructor
 ·refine bf (cE rfl) (bY (f:=qD) (g:=qD) (b:=λq=>decide (q.1<=row)) rfl wt λq _=>⟨?_,λ_=>rfl⟩) (by rw[length_map];have:(kM row wt).length<=wt.length:=length_filter_le _ _;omega);exact aE (aq (oC (k:=0) rfl rfl) rfl rfl)
 ·refine bf (cE rfl) (bY (f:=qD) (g:=qD) (b:=λq=>decide (row<q.1)) rfl wt λq _=>⟨?_,λ_=>rfl⟩) (by rw[length_map];have:=length_filter_le (λq:Q4=>decide (row<q.1)) wt;omega);exact aE (aq (oC (k:=0) rfl rfl) rfl rfl)
variable{tb:List T2}
def zO {nd:D}{row:Int}{a b:Option D}(hw:wt.length<=1000)(hb:(kM row wt).length<=16)(ht:tb.length<=1000) :
  a5 (eW room nd M wt row a b) (M++[.lst (tb.map tD)])=if(ir room row wt).any (λq=>decide (q.2.1<=row))=true then .ok (.rt .non) (M++[.lst (tb.map tD)])
   else .ok (.nx (eW room nd M (Ax room row wt) (row+1) (Z (.lst ((m5 (kM row wt)).map qD))) (Z (.lst ((ir room row wt).map qD))))) (M++[.lst ((tb++(iA room row wt).map λq=>(row,q)).map tD)]):=by
 have ls:(m5 (kM row wt)).length<=16:=by rw[(jh _).length_eq];exact hb
 have e1:jA 1 (aK (aY (af 3)) cX cR aA) (eW room nd M wt row a b) (M++[.lst (tb.map tD)])=.ok (.lst ((m5 (kM row wt)).map qD)) (M++[.lst (tb.map tD)]):=by
  unfold jA;rw[(tQ hw).1,ai];exact DQ (by omega)
 have e2:m6 (af 5) (da (af 0)) bp (eW room nd M wt row (Z (.lst ((m5 (kM row wt)).map qD))) b) (M++[.lst (tb.map tD)])=.ok (.lst ((ir room row wt).map qD)) (M++[.lst (tb.map tD)]):=by
  unfold ir;rw[map_drop];exact E7 rfl rfl
 have ll:(ir room row wt).length<=16:=by unfold ir;rw[length_drop];omega
 have e3:gP (aQ wf (ae (aK (aY (af 6)) fo cW aA) ah)) (eW room nd M wt row (Z (.lst ((m5 (kM row wt)).map qD))) (Z (.lst ((ir room row wt).map qD)))) (M++[.lst (tb.map tD)])=.ok ((ir room row wt).any λq=>decide (q.2.1<=row)) (M++[.lst (tb.map tD)]):=by
  refine rP (ij (x:=.lst ((ir room row wt).map λq=>D.bl (decide (q.2.1<=row)))) ?_ GN);have c:=bY (f:=qD) (g:=λq=>D.bl (decide (q.2.1<=row))) (b:=λ_=>true) (gc:=fo) (ge:=cW) (ρ:=eW room nd M wt row (Z (.lst ((m5 (kM row wt)).map qD))) (Z (.lst ((ir room row wt).map qD)))) (M:=M++[.lst (tb.map tD)]) (t:=⟨(ir room row wt).map qD,Y⟩) rfl (ir room row wt) λq _=>⟨rfl,λ_=>aq (oC (k:=1) rfl rfl) rfl rfl⟩
  rw[filter_eq_self.mpr λ_ _=>rfl] at c;exact bf (cE rfl) c (by rw[length_map];omega)
 unfold a5;refine(az (aF e1)).trans ((az (aF e2)).trans ?_)
 by_cases hq:(ir room row wt).any (λq=>decide (q.2.1<=row))=true
 ·rw[if_pos hq];rw[hq] at e3;exact uk ((jF e3).trans (fJ rfl))
 ·rw[if_neg hq];rw[Bool.eq_false_iff.mpr hq] at e3;refine(az ((dZ e3).trans rfl)).trans ?_;have lt_:(iA room row wt).length<=16:=by unfold iA;rw[length_take];omega
  have e4:cm (aY (m6 (af 5) bp (da (af 0)))) 4 (dn [0,1,2,3]) fo bX aA (eW room nd M wt row (Z (.lst ((m5 (kM row wt)).map qD))) (Z (.lst ((ir room row wt).map qD)))) (M++[.lst (tb.map tD)])=.ok (.lst (((iA room row wt).map λq=>(row,q)).map tD)) (M++[.lst (tb.map tD)]):=by
   unfold cm;have i1:aY (m6 (af 5) bp (da (af 0))) (eW room nd M wt row (Z (.lst ((m5 (kM row wt)).map qD))) (Z (.lst ((ir room row wt).map qD)))) (M++[.lst (tb.map tD)])=.ok ⟨(iA room row wt).map qD,Y⟩ (M++[.lst (tb.map tD)]):=by
    refine iB ?_;unfold iA;rw[map_take];exact G2 rfl rfl
   rw[i1,ai];dsimp only;have c:=nW (f:=qD) (g:=λq=>tD (row,q)) (n:=4) (sg:=dn [0,1,2,3]) (ge:=bX) (M:=M++[.lst (tb.map tD)]) (t:=⟨(iA room row wt).map qD,Y⟩) (env:=λq=>[Z (.int q.1),Z (.int q.2.1),Z (.int q.2.2.1),Z (.int q.2.2.2)]++eW room nd M wt row (Z (.lst ((m5 (kM row wt)).map qD))) (Z (.lst ((ir room row wt).map qD)))) (ρ:=eW room nd M wt row (Z (.lst ((m5 (kM row wt)).map qD))) (Z (.lst ((ir room row wt).map qD)))) rfl (iA room row wt) λq _=>⟨rfl,io (ds:=[.int row,.int q.2.2.1,.int q.2.2.2]) rfl⟩
   rw[c,ai,map_map];unfold aA;rw[if_pos (by rw[length_map,sizeLine_eq];omega)];rfl
  have e5:lY 2 (cm (aY (m6 (af 5) bp (da (af 0)))) 4 (dn [0,1,2,3]) fo bX aA) (eW room nd M wt row (Z (.lst ((m5 (kM row wt)).map qD))) (Z (.lst ((ir room row wt).map qD)))) (M++[.lst (tb.map tD)])=.ok (.nx (eW room nd M wt row (Z (.lst ((m5 (kM row wt)).map qD))) (Z (.lst ((ir room row wt).map qD))))) (M++[.lst ((tb++(iA room row wt).map λq=>(row,q)).map tD)]):=by
   unfold lY;have e0:af 2 (eW room nd M wt row (Z (.lst ((m5 (kM row wt)).map qD))) (Z (.lst ((ir room row wt).map qD)))) (M++[.lst (tb.map tD)])=.ok (.mr M.length) (M++[.lst (tb.map tD)]):=rfl;rw[e0,ai,e4,ai,Ay (om _ _) (by rw[length_map,length_map,length_map];omega),ai,oF,<-map_append];rfl
  have e6:g2 bO (af 6) (aK (aY (af 3)) cU cT aA) (eW room nd M wt row (Z (.lst ((m5 (kM row wt)).map qD))) (Z (.lst ((ir room row wt).map qD)))) (M++[.lst ((tb++(iA room row wt).map λq=>(row,q)).map tD)])=.ok (.lst ((Ax room row wt).map qD)) (M++[.lst ((tb++(iA room row wt).map λq=>(row,q)).map tD)]):=by
   refine aq rfl (tQ hw).2 ?_;show(if((ir room row wt).map qD).length+((wt.filter λq=>decide (row<q.1)).map qD).length<=sizeLine then aN.ok (D.lst ((ir room row wt).map qD++(wt.filter λq=>decide (row<q.1)).map qD)) _ else .bad)=_;have:=length_filter_le (λq:Q4=>decide (row<q.1)) wt;rw[if_pos (by rw[length_map,length_map,sizeLine_eq];omega),<-map_append];rfl
  exact(az e5).trans ((az (aF e6)).trans rfl)
theorem tP {qs:List Q4}{room:Nat}{nd:D}{M:aw}(ok:ii qs)(hl:qs.length<=200):∀(n:Nat) (row:Int) (wt:List Q4) (tb:List T2) (a b:Option D),EI qs room row wt tb->0<=row->(40-row).toNat<n->
  (∀tb',DA room n row wt tb=Z tb'->∃ρ',bS a6 a5 n (eW room nd M wt row a b) (M++[.lst (tb.map tD)])=.ok (.nx ρ') (M++[.lst (tb'.map tD)])/\ρ'[2]?=Z (Z (.mr M.length)))/\
  (DA room n row wt tb=Y->∃N,bS a6 a5 n (eW room nd M wt row a b) (M++[.lst (tb.map tD)])=.ok (.rt .non) (M++[N]))
 | 0,row,wt,tb,a,b,Ei,h0,h=>absurd h (Nat.not_lt_zero _)
 | n+1,row,wt,tb,a,b,Ei,h0,h=>by
  have lw:wt.length+tb.length<=200:=by
   have:=Ei.perm.length_eq;rw[length_append,length_map] at this;omega
  unfold DA
  by_cases hw:wt=[]
  ·subst hw;rw[if_pos rfl];have e:a6 (eW room nd M [] row a b) (M++[.lst (tb.map tD)])=.ok false (M++[.lst (tb.map tD)]):=rfl;refine⟨λtb' ht=>?_,λz=>by cases z⟩;cases ht;exact⟨_,l9 e,rfl⟩
  ·rw[if_neg hw];have e:a6 (eW room nd M wt row a b) (M++[.lst (tb.map tD)])=.ok true (M++[.lst (tb.map tD)]):=by
    cases wt with
    | nil=>exact absurd rfl hw
    | cons q l=>rfl
   have tn:=zO (room:=room) (nd:=nd) (M:=M) (wt:=wt) (tb:=tb) (row:=row) (a:=a) (b:=b) (by omega) (zX ok Ei) (by omega);cases hq:(ir room row wt).any (λq=>decide (q.2.1<=row)) with
   | true=>
    rw[hq,if_pos rfl] at tn;rw[if_pos rfl];refine⟨(λtb' z=>by cases z),λ_=>⟨.lst (tb.map tD),?_⟩⟩;rw[bS,e];dsimp only[aN.bind];rw[tn,if_pos rfl]
   | false=>
    rw[hq,if_neg Bool.false_ne_true] at tn;rw[if_neg Bool.false_ne_true];have hr:row<40:=by
     cases wt with
     | nil=>exact absurd rfl hw
     | cons q l=>
      have a:=Ei.dl q mem_cons_self;have b:=(ok.lo q (Ei.perm.subset (mem_append_right _ mem_cons_self))).1.2.2;omega
    rw[qU e tn];exact tP ok hl n (row+1) _ _ _ _ (uh ok Ei h0 hq) (by omega) (by omega)
theorem qw (n:Nat):∀T:List T2,(T.map tD).all (aZ (n+2))=true
 | []=>rfl
 | t::T=>by
  rw[map_cons,all_cons,qw n T];rfl
def uX (ok:ii qs)(hl:qs.length<=200)(hM:M.all dh=true) :
  (∃tb row',bN [.int room,.lst (qs.map qD)] M=.ok (.lst (tb.map tD)) M/\EI qs room row' [] tb)\/(bN [.int room,.lst (qs.map qD)] M=.ok .non M/\tH qs room):=by
 have sh:=kZ.pure hM;obtain⟨w1,w2⟩:=tP (room:=room) (nd:=.lst (qs.map qD)) (M:=M) ok hl 100 0 qs [] Y Y (Fk ok) (Int.le_refl _) (by decide);have g0:∀o,bS a6 a5 100 (eW room (.lst (qs.map qD)) M qs 0 Y Y) (M++[.lst []])=o->bD [Z (.int room),Z (.lst (qs.map qD)),Y,Y,Y,Y,Y] M=av (λ_ _=>o) (bw (af 2)) (eW room (.lst (qs.map qD)) M qs 0 Y Y) (M++[.lst []]):=λo e=>by
  unfold bD;refine(az (aF iZ)).trans ((az (aF rfl)).trans ((az (aF rfl)).trans ?_));show av (iW 100 a6 a5) (bw (af 2)) (eW room (.lst (qs.map qD)) M qs 0 Y Y) (M++[.lst []])=_;unfold av iW;rw[e]
 have run:∀d E,bD [Z (.int room),Z (.lst (qs.map qD)),Y,Y,Y,Y,Y] M=.ok (.rt d) E->bN [.int room,.lst (qs.map qD)] M=fq M.length (.ok d E):=λd E e=>by
  show fq M.length (bQ (bD [Z (.int room),Z (.lst (qs.map qD)),Y,Y,Y,Y,Y] M))=_;rw[e];rfl
 rcases wZ (room:=room) ok 100 0 qs [] (Fk ok) (Int.le_refl _) (by decide) with⟨tb,row',e,Ei⟩|⟨e,c⟩
 ·obtain⟨ρ',e1,e2⟩:=w1 tb e;refine .inl ⟨tb,row',?_,Ei⟩;rw[run (.mr M.length) (M++[.lst (tb.map tD)]) ((g0 _ e1).trans ((az rfl).trans (fJ ?_)))]
  ·exact mV (qw 27 tb) sh
  ·unfold af;rw[e2]
 ·obtain⟨N,e1⟩:=w2 e;refine .inr ⟨?_,c⟩;rw[run .non (M++[N]) ((g0 _ e1).trans (uk rfl))];exact kD rfl sh
theorem lj {α:Type}{f:α->D}{R:bv->Prop}{G:α->D->Prop}{sg:GG}{body:GS}{M:aw}{ds0:List D}:∀(l:List α) (ρ:bv),R ρ->(∀a,a∈l->∀ρ,R ρ->∃ρ1,sg (f a) ρ=Z ρ1/\((∃d,G a d/\body ρ1 M=.ok (.rt d) M)\/((∀d,¬G a d)/\∃ρ2,R ρ2/\body ρ1 M=.ok (.nx ρ2) M)))->
  (∃a d,a∈l/\G a d/\bb ⟨ds0,Y⟩ sg body (l.map f) ρ M=.ok (.rt d) M)\/((∀a,a∈l->∀d,¬G a d)/\∃ρ',R ρ'/\bb ⟨ds0,Y⟩ sg body (l.map f) ρ M=.ok (.nx ρ') M)
 | [],ρ,hR,_=>.inr ⟨(λa h=>by cases h),ρ,hR,rfl⟩
 | a::l,ρ,hR,h=>by
  obtain⟨ρ1,h0,h1⟩:=h a mem_cons_self ρ hR;rw[map_cons,bb,if_pos dX,h0];dsimp only;rcases h1 with⟨d,gd,e⟩|⟨ng,ρ2,R2,e⟩
  ·rw[e,ai];exact .inl ⟨a,d,mem_cons_self,gd,rfl⟩
  ·rw[e,ai];dsimp only;rcases lj (ds0:=ds0) l ρ2 R2 (λc hc=>h c (mem_cons_of_mem _ hc)) with⟨b,d,hb,gd,e2⟩|⟨n2,ρ',R',e2⟩
   ·exact .inl ⟨b,d,mem_cons_of_mem _ hb,gd,e2⟩
   ·refine .inr ⟨λc hc=>?_,ρ',R',e2⟩;rcases mem_cons.mp hc with rfl|hc
    ·exact ng
    ·exact n2 c hc
def yh {U:List Int}{n x:Int}:x∈km U n↔x∈U\/x=n:=by
 unfold km;split
 ·exact⟨.inl,λh=>h.elim id λe=>by rw[e];assumption⟩
 ·rw[mem_append,mem_singleton]
def yw (U:List Int)(n:Int):(km U n).length<=U.length+1:=by
 unfold km;split
 ·omega
 ·rw[length_append];exact Nat.le_refl _
theorem xv {α:Type}{f:α->D}{k:α->Int}{ge:GE}{ρ:bv}{M:aw}{ds0:List D}:∀(l:List α) (U:List Int),U.length+l.length<4000->(∀a,a∈l->ge (Z (f a)::ρ) M=.ok (.int (k a)) M)->
  ∃V,dg ⟨ds0,Y⟩ 1 (bP 0) ge (l.map f) ρ M U=.ok V M/\(∀x,x∈V↔x∈U\/x∈l.map k)/\V.length<=U.length+l.length
 | [],U,_,_=>⟨U,rfl,λx=>by simp,Nat.le_refl _⟩
 | a::l,U,hl,h=>by
  rw[length_cons] at hl;have lu:=yw U (k a);obtain⟨V,e,m,lv⟩:=xv (ds0:=ds0) l (km U (k a)) (by omega) λb hb=>h b (mem_cons_of_mem _ hb)
  refine⟨V,?_,λx=>?_,by rw[length_cons];omega⟩
  ·rw[map_cons,dg,if_pos dX];show(match ge (Z (f a)::ρ) M with | .ok (.int k) M1=>if U.length+1<4096 then dg ⟨ds0,Y⟩ 1 (bP 0) ge (l.map f) ρ M1 (km U k) else .bad|_=>.bad)=_;rw[h a mem_cons_self];dsimp only;rw[if_pos (by omega)];exact e
  ·rw[m,yh,map_cons,mem_cons];constructor
   ·rintro ((h|h)|h)
    ·exact .inl h
    ·exact .inr (.inl h)
    ·exact .inr (.inr h)
   ·rintro (h|h|h)
    ·exact .inl (.inl h)
    ·exact .inl (.inr h)
    ·exact .inr h
def qy {k:Q4->Int}(hl:qs.length<=200)(h1:ρ[1]?=Z (Z (.lst (qs.map qD))))(h:∀q,q∈qs->ge (Z (qD q)::ρ) M=.ok (.int (k q)) M) :
  ∃L:List Int,gW (aY (af 1)) ge ρ M=.ok (.lst (L.map D.int)) M/\∀x,x∈L↔x∈qs.map k:=by
 obtain⟨V,e,m,lv⟩:=xv (f:=qD) (k:=k) (ds0:=qs.map qD) qs [] (by simp;omega) h;refine⟨aO V,?_,λx=>?_⟩
 ·unfold gW;rw[cE h1,ai];dsimp only;rw[e,ai,if_pos (by simp at lv;omega)]
 ·rw[fQ,m];simp
def wj (qs:List Q4)(a b:Int):D:=.tup [.str "crowd",.int a,.int b,.int ((qs.filter (fI a b)).length:Int)]
def rh (qs:List Q4)(room:Nat)(a b:Int):Prop:=a<=b/\(room:Int)*(b-a+1)<((qs.filter (fI a b)).length:Int)
def xM (hl:qs.length<=200)(hr:room<=1000)(c:tH qs room) :
  ∃a b,fX [.int room,.lst (qs.map qD)] M=.ok (wj qs a b) M/\a∈qs.map (λq=>q.1)/\b∈qs.map (λq=>q.2.1)/\rh qs room a b:=by
 obtain⟨L1,s1,m1⟩:=qy (k:=λq=>q.1) (ge:=gV) (ρ:=[Z (.int room),Z (.lst (qs.map qD)),Y,Y,Y]) (M:=M) hl rfl λq _=>oC (k:=0) rfl rfl
 have inner:∀(a:Int) (ρ:bv),(∃x2 x3 x4,ρ=[Z (.int room),Z (.lst (qs.map qD)),x2,x3,x4])->∃ρ1,bP 2 (D.int a) ρ=Z ρ1/\((∃d,(∃b,b∈qs.map (λq=>q.2.1)/\rh qs room a b/\d=wj qs a b)/\cu ρ1 M=.ok (.rt d) M)\/((∀d,¬∃b,b∈qs.map (λq=>q.2.1)/\rh qs room a b/\d=wj qs a b)/\∃ρ2,(∃x2 x3 x4,ρ2=[Z (.int room),Z (.lst (qs.map qD)),x2,x3,x4])/\cu ρ1 M=.ok (.nx ρ2) M)):=λa ρ hρ=>by
  obtain⟨x2,x3,x4,rfl⟩:=hρ;obtain⟨L2,s2,m2⟩:=qy (k:=λq=>q.2.1) (ge:=gY) (ρ:=[Z (.int room),Z (.lst (qs.map qD)),Z (.int a),x3,x4]) (M:=M) hl rfl λq _=>oC (k:=1) rfl rfl
  refine⟨[Z (.int room),Z (.lst (qs.map qD)),Z (.int a),x3,x4],rfl,?_⟩;have ff:=lj (f:=D.int) (R:=λρ=>∃x3 x4,ρ=[Z (.int room),Z (.lst (qs.map qD)),Z (.int a),x3,x4]) (G:=λb d=>rh qs room a b/\d=wj qs a b) (sg:=bP 3) (body:=dU) (M:=M) (ds0:=L2.map D.int) L2 [Z (.int room),Z (.lst (qs.map qD)),Z (.int a),x3,x4] ⟨_,_,rfl⟩ λb hb ρ hρ=>by
   obtain⟨y3,y4,rfl⟩:=hρ;refine⟨[Z (.int room),Z (.lst (qs.map qD)),Z (.int a),Z (.int b),y4],rfl,?_⟩;have lf:=length_filter_le (fI a b) qs;have k1:aK (aY (af 1)) ie hZ aA [Z (.int room),Z (.lst (qs.map qD)),Z (.int a),Z (.int b),y4] M=.ok (.lst ((qs.filter (fI a b)).map qD)) M:=
    bf (cE rfl) (bY (f:=qD) (g:=qD) (b:=fI a b) rfl qs λq _=>⟨eE (aE (aq rfl (oC (k:=0) rfl rfl) rfl)) λ_=>aE (aq (oC (k:=1) rfl rfl) rfl rfl),λ_=>rfl⟩) (by rw[length_map];omega)
   have k2:aQ cK (ae (af 4) ah) [Z (.int room),Z (.lst (qs.map qD)),Z (.int a),Z (.int b),Z (.lst ((qs.filter (fI a b)).map qD))] M=.ok (.int ((qs.filter (fI a b)).length:Int)) M:=by
    refine ij (x:=.lst ((qs.filter (fI a b)).map qD)) rfl ?_;show aN.ok (D.int (((qs.filter (fI a b)).map qD).length:Int)) M=_;rw[length_map]
   have k3:dA (aB (g2 nO (af 2) (af 3))) (aB (g2 vS (aQ cK (ae (af 4) ah)) (g2 dC (af 0) (g2 bO (g2 mM (af 3) (af 2)) (gC (.int 1)))))) [Z (.int room),Z (.lst (qs.map qD)),Z (.int a),Z (.int b),Z (.lst ((qs.filter (fI a b)).map qD))] M=.ok (decide (a<=b)&&decide ((room:Int)*(b-a+1)<((qs.filter (fI a b)).length:Int))) M:=
    eE (aE (aq rfl rfl rfl)) λ_=>aE (aq k2 (aq rfl (aq (aq rfl rfl rfl) rfl rfl) (xh (by omega) (by omega) M)) rfl)
   unfold dU;rw[az (aF k1)]
   by_cases hc:rh qs room a b
   ·refine .inl ⟨_,⟨hc,rfl⟩,?_⟩;rw[decide_eq_true hc.1,decide_eq_true hc.2] at k3;exact(jF k3).trans (fJ (io (ds:=[.str "crowd",.int a,.int b,.int ((qs.filter (fI a b)).length:Int)]) (dD rfl (dD rfl (dD rfl (dD k2 rfl))))))
   ·refine .inr ⟨λd h=>hc h.1,[Z (.int room),Z (.lst (qs.map qD)),Z (.int a),Z (.int b),Z (.lst ((qs.filter (fI a b)).map qD))],⟨_,_,rfl⟩,?_⟩;have e:(decide (a<=b)&&decide ((room:Int)*(b-a+1)<((qs.filter (fI a b)).length:Int)))=false:=by
     by_cases z:a<=b
     ·rw[decide_eq_true z,decide_eq_false λy=>hc ⟨z,y⟩];rfl
     ·rw[decide_eq_false z];rfl
    rw[e] at k3;exact(dZ k3).trans rfl
  have run:∀o,bb ⟨L2.map D.int,Y⟩ (bP 3) dU (L2.map D.int) [Z (.int room),Z (.lst (qs.map qD)),Z (.int a),x3,x4] M=o->cu [Z (.int room),Z (.lst (qs.map qD)),Z (.int a),x3,x4] M=o:=λo e=>by
   unfold cu;exact eZ (iB s2) e
  rcases ff with⟨b,d,hb,⟨g1,g2⟩,e⟩|⟨ng,ρ',⟨y3,y4,rfl⟩,e⟩
  ·exact .inl ⟨d,⟨b,(m2 b).mp hb,g1,g2⟩,run _ e⟩
  ·exact .inr ⟨λd ⟨b,hb,g1,g2⟩=>ng b ((m2 b).mpr hb) d ⟨g1,g2⟩,_,⟨_,_,_,rfl⟩,run _ e⟩
 have ff:=lj (f:=D.int) (R:=λρ=>∃x2 x3 x4,ρ=[Z (.int room),Z (.lst (qs.map qD)),x2,x3,x4]) (G:=λa d=>∃b,b∈qs.map (λq=>q.2.1)/\rh qs room a b/\d=wj qs a b) (sg:=bP 2) (body:=cu) (M:=M) (ds0:=L1.map D.int) L1 [Z (.int room),Z (.lst (qs.map qD)),Y,Y,Y] ⟨_,_,_,rfl⟩ λa _ ρ hρ=>inner a ρ hρ
 rcases ff with⟨a,d,ha,⟨b,hb,g1,rfl⟩,e⟩|⟨ng,_⟩
 ·refine⟨a,b,?_,(m1 a).mp ha,hb,g1⟩;show bQ (f9 [Z (.int room),Z (.lst (qs.map qD)),Y,Y,Y] M)=_;unfold f9;rw[uk (eZ (iB s1) e)];rfl
 ·exfalso;obtain⟨a,b,ha,hb,h1,h2⟩:=c;exact ng a ((m1 a).mpr ha) _ ⟨b,hb,⟨h1,h2⟩,rfl⟩
def jL (x:T2):Nat:=x.2.2.2.1.toNat
def bW (pl:List Int)(tb:List T2):List Int:=tb.foldl (λn x=>n.set (jL x) x.2.2.2.2) pl
def pQ (pl:List Int)(A:List T2)(x:T2):bW pl (A++[x])=(bW pl A).set (jL x) x.2.2.2.2:=by
 unfold bW;rw[foldl_append];rfl
def oV (pl:List Int):∀A:List T2,(bW pl A).length=pl.length:=λA=>by
 unfold bW
 induction A generalizing pl with
 | nil=>rfl
 | cons x A ih=>rw[foldl_cons,ih,length_set]
theorem lh {i:Nat}:∀(S:List T2) (pl:List Int),(∀y,y∈S->jL y≠i)->(bW pl S).getD i 0=pl.getD i 0
 | [],_,_=>rfl
 | y::S,pl,h=>by
  have ih:=lh (i:=i) S (pl.set (jL y) y.2.2.2.2) λz hz=>h z (mem_cons_of_mem _ hz)
  show(bW (pl.set (jL y) y.2.2.2.2) S).getD i 0=_;rw[ih,getD_eq_getElem?_getD,getD_eq_getElem?_getD,getElem?_set_ne (h y mem_cons_self)]
def Ap (pl:List Int)(A B:List T2):bW pl (A++B)=bW (bW pl A) B:=by
 unfold bW;rw[foldl_append]
variable{R:Int}
def xK {A B:List T2}(ag:cL W)(hs:∀w,w∈W->de w)(mem:∀q,q∈qs↔EO (cY pl) W q)(ok:ii qs)(Ei:EI qs room R [] tb)(hw:w∈W)(e:tb=A++B)(hA:∀x,x∈A->x.1<=w.1)(hB:∀x,x∈B->w.1<x.1)(hp:pl.length=16) :
  (bW pl A).getD w.2.1.toNat 0=w.2.2:=by
 have s:=hs w hw;have sa:0<=w.1/\w.1<40:=s.1;have sb:0<=w.2.1/\w.2.1<16:=s.2;have P:(tb.map λx=>x.2).Perm qs:=by have:=Ei.perm;rwa [append_nil] at this
 have nd:(tb.map λx=>x.2).Nodup:=P.nodup_iff.mpr ok.nd;have inq:∀x,x∈tb->x.2∈qs:=λx hx=>P.subset (mem_map.mpr ⟨x,hx,rfl⟩)
 have ends:∀y,y∈A->y.2.2.2.1=w.2.1->y.2.2.1<=w.1:=λy hy ei=>by
  have hy':y∈tb:=by rw[e];exact mem_append_left _ hy
  obtain⟨v,f,o,hv,hpv,_,eq⟩:=(mem y.2).mp (inq y hy');have a:=(Ei.at_ y hy').1;have b:=hA y hy;refine Int.not_lt.mp λz=>?_
  rw[eq] at z ei a;have:=sQ hw ei.symm z hpv;dsimp only at a;omega
 have ink:∀x,x∈tb->jL x=w.2.1.toNat->x.2.2.2.1=w.2.1:=λx hx h=>by
  have:=(ok.lo _ (inq x hx)).2;unfold jL at h;omega
 rcases zw ag hs mem w.1.toNat w hw (by omega) with⟨q,hq,q1,q2,q3,q4⟩|⟨n1,n2⟩
 ·obtain⟨x,hx,rfl⟩:=mem_map.mp (P.symm.subset hq);have xa:=Ei.at_ x hx;have xA:x∈A:=by
   rw[e] at hx;rcases mem_append.mp hx with h|h
   ·exact h
   ·have:=hB x h;omega
  obtain⟨A1,A2,eA⟩:=append_of_mem xA;have no:∀y,y∈A2->jL y≠w.2.1.toNat:=λy hy h=>by
   have yA:y∈A:=by rw[eA];exact mem_append_right _ (mem_cons_of_mem _ hy)
   have yt:y∈tb:=by rw[e];exact mem_append_left _ yA
   have ei:=ink y yt h;have ye:=ends y yA ei;have ya:=Ei.at_ y yt;have up:x.1<=y.1:=by
    have u:=Ei.up;rw[e,eA,append_assoc] at u;have u:=(pairwise_append.mp u).2.1;rw[cons_append] at u;exact(pairwise_cons.mp u).1 y (mem_append_left _ hy)
   have ne:x.2≠y.2:=λz=>by
    rw[e,eA,map_append,map_append,append_assoc] at nd;have u:=(nodup_append.mp nd).2.1;rw[map_cons,cons_append] at u;exact(nodup_cons.mp u).1 (mem_append_left _ (mem_map.mpr ⟨y,hy,z.symm⟩))
   have m:=q3 y.2 (inq y yt) ei ye;rcases ok.dis x.2 hq y.2 (inq y yt) (q1.trans ei.symm) with z|z|z
   ·exact ne z
   ·have:=(ok.lo _ (inq y yt)).1.2.1;omega
   ·omega
  rw[eA,append_cons,Ap,lh A2 _ no,pQ];have lx:jL x=w.2.1.toNat:=by unfold jL;rw[q1]
  rw[lx,getD_eq_getElem?_getD,getElem?_set_self (by rw[oV];omega),<-q4];rfl
 ·rw[lh A pl λy hy h=>?_]
  ·exact n2
  ·have yt:y∈tb:=by rw[e];exact mem_append_left _ hy
   have ei:=ink y yt h;exact n1 y.2 (inq y yt) ei (ends y hy ei)
def tJ {x:Nat}(h:x<n):xN n (x:Int)=Z x:=by
 unfold xN;rw[if_pos (by omega),if_pos (by omega),Int.toNat_natCast]
theorem Du {go gi:GE}{i:Nat}{x:D}(hg:g ρ M=.ok x M)(ho:go ρ M=.ok (.mr k) M)(hi:gi ρ M=.ok (.int i) M)(hk:M[k]?=Z (.lst xs))(hl:i<xs.length):gE go gi g ρ M=.ok (.nx ρ) (M.set k (.lst (xs.set i x))):=by
 unfold gE;rw[hg,ai,ho,ai,hi,ai];unfold tq;dsimp only;rw[hk];dsimp only;rw[tJ hl];rfl
def FJ {i:Nat}(hk:M[k]?=Z (.lst xs))(h:xs[i]?=Z d):aT (.mr k) (.int i) M=.ok d M:=by
 have e:aW (.mr k) M=Z xs:=by unfold aW;dsimp only;rw[hk]
 unfold aT;rw[e];dsimp only;unfold uc;rw[tJ (List.getElem?_eq_some_iff.mp h).1];show(match xs[i]? with|some d=>aN.ok d M|none=>.bad)=_;rw[h]
abbrev eM (high:Int)(pl:List Int)(W:List W3)(tb:List T2)(M:aw)(k:Nat)(x6 x7 x8 x9:Option D):bv:=[Z (.int high),Z (.tup (pl.map D.int)),Z (.lst (W.map wD)),Z (.lst (tb.map tD)),Z (.mr M.length),Z (.int k),x6,x7,x8,x9]
variable{high:Int}
def oJ {A B:List T2}{x:T2}{x6 x7 x8 x9:Option D}(e:tb=A++x::B):g2 aT (af 3) (af 5) (eM high pl W tb M A.length x6 x7 x8 x9) N=.ok (tD x) N:=
 aq rfl rfl (oG (by rw[e];simp))
def Aa {A B:List T2}{x:T2}{x6 x7 x8 x9:Option D}(e:tb=A++x::B)(hp:pl.length=16)(hi:0<=x.2.2.2.1/\x.2.2.2.1<16) :
  cP (eM high pl W tb M A.length x6 x7 x8 x9) (M++[.lst ((bW pl A).map D.int)])=.ok (.nx (eM high pl W tb M (A++[x]).length x6 x7 x8 x9)) (M++[.lst ((bW pl (A++[x])).map D.int)]):=by
 have s:=Du (go:=af 4) (gi:=g2 aT (g2 aT (af 3) (af 5)) (gC (.int 1))) (g:=g2 aT (g2 aT (af 3) (af 5)) (gC (.int 2))) (ρ:=eM high pl W tb M A.length x6 x7 x8 x9) (M:=M++[.lst ((bW pl A).map D.int)]) (k:=M.length) (i:=jL x) (xs:=(bW pl A).map D.int) (x:=.int x.2.2.2.2)
  (aq (oJ e) rfl (bU (k:=2) rfl)) rfl ((aq (oJ e) rfl (bU (k:=1) rfl)).trans (by unfold jL;rw[Int.toNat_of_nonneg hi.1])) (om _ _) (by rw[length_map,oV];unfold jL;omega)
 rw[<-map_set,<-pQ,oF] at s;unfold cP;refine(az s).trans ?_;have l:((A.length:Int)+1)=((A++[x]).length:Int):=by rw[length_append];rfl
 refine(aF (d:=.int ((A.length:Int)+1)) rfl).trans ?_;rw[l];rfl
theorem qI {high r:Int}{pl:List Int}{W:List W3}{tb:List T2}{M:aw}{x7 x8 x9:Option D}(hp:pl.length=16)(hi:∀x,x∈tb->0<=x.2.2.2.1/\x.2.2.2.1<16):∀(S A T:List T2) (n:Nat),tb=A++(S++T)->(∀x,x∈S->x.1=r)->(∀x,x∈T->x.1≠r)->S.length<n->
  bS b0 cP n (eM high pl W tb M A.length (Z (.int r)) x7 x8 x9) (M++[.lst ((bW pl A).map D.int)])=.ok (.nx (eM high pl W tb M (A++S).length (Z (.int r)) x7 x8 x9)) (M++[.lst ((bW pl (A++S)).map D.int)])
 | S,A,T,0,_,_,_,h=>absurd h (Nat.not_lt_zero _)
 | [],A,T,n+1,e,hS,hT,h=>by
  rw[append_nil];refine l9 ?_;unfold b0;have ln:aB (g2 qx (af 5) (aQ cK (ae (af 3) ah))) (eM high pl W tb M A.length (Z (.int r)) x7 x8 x9) (M++[.lst ((bW pl A).map D.int)])=.ok (decide ((A.length:Int)<(tb.length:Int))) (M++[.lst ((bW pl A).map D.int)]):=by
   refine aE (aq rfl (ij (x:=.lst (tb.map tD)) (o:=.ok (.int (tb.length:Int)) (M++[.lst ((bW pl A).map D.int)])) rfl ?_) rfl);show aN.ok (D.int ((tb.map tD).length:Int)) _=_;rw[length_map]
  cases T with
  | nil=>
   have e2:decide ((A.length:Int)<(tb.length:Int))=false:=decide_eq_false (by rw[e];simp);rw[e2] at ln;unfold dA;rw[ln];rfl
  | cons y T=>
   have ey:tb=A++y::T:=e;have e2:decide ((A.length:Int)<(tb.length:Int))=true:=decide_eq_true (by rw[ey];simp;omega);rw[e2] at ln;have hy:decide (y.1=r)=false:=decide_eq_false (hT y mem_cons_self);refine(eE (y:=false) ln λ_=>aE (aq (aq (oJ ey) rfl (bU (k:=0) rfl)) rfl ?_)).trans rfl;rw[p0,hy]
 | x::S,A,T,n+1,e,hS,hT,h=>by
  have ex:tb=A++x::(S++T):=e;have t:b0 (eM high pl W tb M A.length (Z (.int r)) x7 x8 x9) (M++[.lst ((bW pl A).map D.int)])=.ok true (M++[.lst ((bW pl A).map D.int)]):=by
   unfold b0;have hx:decide (x.1=r)=true:=decide_eq_true (hS x mem_cons_self);refine(eE (x:=true) (y:=true) (aE (aq rfl (ij (x:=.lst (tb.map tD)) (o:=.ok (.int (tb.length:Int)) (M++[.lst ((bW pl A).map D.int)])) rfl ?_) ?_)) λ_=>aE (aq (aq (oJ ex) rfl (bU (k:=0) rfl)) rfl ?_)).trans rfl
   ·show aN.ok (D.int ((tb.map tD).length:Int)) _=_;rw[length_map]
   ·show aN.ok (D.bl (decide ((A.length:Int)<(tb.length:Int)))) _=_;rw[decide_eq_true (by rw[ex];simp;omega)]
   ·rw[p0,hx]
  rw[qU t (Aa ex hp (hi x (by rw[ex];exact mem_append_right _ mem_cons_self)))];have ih:=qI (high:=high) (r:=r) (W:=W) (M:=M) (x7:=x7) (x8:=x8) (x9:=x9) hp hi S (A++[x]) T n (by rw[ex,append_assoc];rfl) (λy hy=>hS y (mem_cons_of_mem _ hy)) hT (by rw[length_cons] at h;omega);rw[ih,append_assoc];rfl
theorem nR {high r:Int}{pl:List Int}{W:List W3}{tb A:List T2}{M:aw}{ds0:List D}(hp:pl.length=16)(hs:∀w,w∈W->de w)(hw:∀w,w∈W->w.1=r->(bW pl A).getD w.2.1.toNat 0=w.2.2){k:Nat}:∀(V:List W3) (x7 x8 x9:Option D),(∀w,w∈V->w∈W)->
  ∃y7 y8 y9,bb ⟨ds0,Y⟩ (dn [7,8,9]) cg (V.map wD) (eM high pl W tb M k (Z (.int r)) x7 x8 x9) (M++[.lst ((bW pl A).map D.int)])=.ok (.nx (eM high pl W tb M k (Z (.int r)) y7 y8 y9)) (M++[.lst ((bW pl A).map D.int)])
 | [],x7,x8,x9,_=>⟨x7,x8,x9,rfl⟩
 | v::V,x7,x8,x9,hV=>by
  have vW:=hV v mem_cons_self;have sv:=hs v vW;have body:cg (eM high pl W tb M k (Z (.int r)) (Z (.int v.1)) (Z (.int v.2.1)) (Z (.int v.2.2))) (M++[.lst ((bW pl A).map D.int)])=.ok (.nx (eM high pl W tb M k (Z (.int r)) (Z (.int v.1)) (Z (.int v.2.1)) (Z (.int v.2.2)))) (M++[.lst ((bW pl A).map D.int)]):=by
   unfold cg;have c1:aB (g2 (aU false) (af 7) (af 6)) (eM high pl W tb M k (Z (.int r)) (Z (.int v.1)) (Z (.int v.2.1)) (Z (.int v.2.2))) (M++[.lst ((bW pl A).map D.int)])=.ok (decide (v.1=r)) (M++[.lst ((bW pl A).map D.int)]):=aE (aq rfl rfl (p0 _ _ _));refine(dZ (M1:=M++[.lst ((bW pl A).map D.int)]) ?_).trans rfl;refine(eE (y:=false) c1 λhv=>?_).trans (by rw[Bool.and_false]);have hv:=of_decide_eq_true hv;have nw:=hw v vW hv;have lx:v.2.1.toNat<(bW pl A).length:=by rw[oV,hp];have:=sv.2;omega
   have at_:((bW pl A).map D.int)[v.2.1.toNat]?=Z (.int v.2.2):=by
    rw[getElem?_map,getElem?_eq_getElem lx];rw[getD_eq_getElem?_getD,getElem?_eq_getElem lx] at nw;exact congrArg (λz=>Z (D.int z)) nw
   have ix:=FJ (M:=M++[.lst ((bW pl A).map D.int)]) (k:=M.length) (om _ _) at_;rw[Int.toNat_of_nonneg sv.2.1] at ix;refine aE (aq (aq rfl rfl ix) rfl ?_);rw[jq,decide_eq_true rfl];rfl
  obtain⟨y7,y8,y9,ih⟩:=nR (high:=high) (r:=r) (tb:=tb) (M:=M) (ds0:=ds0) hp hs hw (k:=k) V (Z (.int v.1)) (Z (.int v.2.1)) (Z (.int v.2.2)) λw h=>hV w (mem_cons_of_mem _ h)
  refine⟨y7,y8,y9,?_⟩;rw[map_cons,bb,if_pos dX];show(cg (eM high pl W tb M k (Z (.int r)) (Z (.int v.1)) (Z (.int v.2.1)) (Z (.int v.2.2))) (M++[.lst ((bW pl A).map D.int)])).bind _=_;rw[body,ai];exact ih
theorem nX {r:Int}:∀{B:List T2},B.Pairwise (λa b=>a.1<=b.1)->(∀x,x∈B->r<=x.1)->∃S T,B=S++T/\(∀x,x∈S->x.1=r)/\∀x,x∈T->r+1<=x.1
 | [],_,_=>⟨[],[],rfl,(λx h=>by cases h),λx h=>by cases h⟩
 | x::B,u,h=>by
  obtain⟨u1,u2⟩:=pairwise_cons.mp u
  by_cases e:x.1=r
  ·obtain⟨S,T,e1,e2,e3⟩:=nX u2 λy hy=>h y (mem_cons_of_mem _ hy)
   refine⟨x::S,T,by rw[e1];rfl,λy hy=>?_,e3⟩;rcases mem_cons.mp hy with rfl|hy
   ·exact e
   ·exact e2 y hy
  ·have:=h x mem_cons_self;refine⟨[],x::B,rfl,(λy hy=>by cases hy),λy hy=>?_⟩;rcases mem_cons.mp hy with rfl|hy
   ·omega
   ·have:=u1 y hy;omega
theorem xG {high:Nat}(hM:M.all dh=true)(hh:high<=40)(hr:room<=16)(hp:pl.length=16)(ag:cL W)(hs:∀w,w∈W->de w/\w.1<high)(mem:∀q,q∈qs↔EO (cY pl) W q)(ok:ii qs)(Ei:EI qs room R [] tb) :
  dq [.int high,.tup (pl.map D.int),.lst (W.map wD),.lst (tb.map tD)] M=.ok (.bl true) M:=by
 have hs':∀w,w∈W->de w:=λw h=>(hs w h).1
 have P:(tb.map λx=>x.2).Perm qs:=by have:=Ei.perm;rwa [append_nil] at this
 have inq:∀x,x∈tb->x.2∈qs:=λx hx=>P.subset (mem_map.mpr ⟨x,hx,rfl⟩)
 have hi:∀x,x∈tb->0<=x.2.2.2.1/\x.2.2.2.1<16:=λx hx=>(ok.lo _ (inq x hx)).2
 have hx0:∀x,x∈tb->0<=x.1/\x.1<high:=λx hx=>by
  have a:=Ei.at_ x hx;have b:=(ok.lo _ (inq x hx)).1.1;obtain⟨v,f,o,hv,_,_,eq⟩:=(mem x.2).mp (inq x hx);have c:=(hs v hv).2;rw[eq] at a b;dsimp only at a b;omega
 obtain⟨ρ',N,⟨A,B,x6,x7,x8,x9,e,a1,a2,rfl,rfl⟩,ef⟩:=pz (ds0:=bq 0 high) (s:=bP 6) (body:=dO) (W:=λj ρ N=>∃A B x6 x7 x8 x9,tb=A++B/\(∀x,x∈A->x.1<(j:Int))/\(∀x,x∈B->(j:Int)<=x.1)/\ρ=eM high pl W tb M A.length x6 x7 x8 x9/\N=M++[.lst ((bW pl A).map D.int)]) (bq 0 high) 0 (λj d hd ρ N hW=>by
  obtain⟨A,B,x6,x7,x8,x9,e,a1,a2,rfl,rfl⟩:=hW;obtain⟨hj,rfl⟩:=iP hd;have uB:B.Pairwise (λa b=>a.1<=b.1):=by have u:=Ei.up;rw[e] at u;exact(pairwise_append.mp u).2.1
  obtain⟨S,T,e1,s1,s2⟩:=nX uB a2;have eT:tb=A++(S++T):=by rw[e,e1]
  have lS:S.length<=16:=by
   have c:=Ei.cnt ((0+j:Nat):Int);have fS:(S.filter λx=>decide (x.1=((0+j:Nat):Int)))=S:=filter_eq_self.mpr λx hx=>decide_eq_true (s1 x hx)
   rw[eT,filter_append,filter_append,length_append,length_append,fS] at c;omega
  have w:=qI (high:=high) (r:=((0+j:Nat):Int)) (W:=W) (M:=M) (x7:=x7) (x8:=x8) (x9:=x9) hp hi S A T 100 eT s1 (λx hx z=>by have:=s2 x hx;omega) (by omega);obtain⟨y7,y8,y9,f⟩:=nR (high:=high) (r:=((0+j:Nat):Int)) (tb:=tb) (M:=M) (A:=A++S) (ds0:=W.map wD) (k:=(A++S).length) hp hs' (λw hw er=>xK ag hs' mem ok Ei hw (by rw[eT,append_assoc]) (λx hx=>by
   rcases mem_append.mp hx with h|h
   ·have:=a1 x h;omega
   ·rw[s1 x h];omega) (λx hx=>by have:=s2 x hx;omega) hp) W x7 x8 x9 λw h=>h
  refine⟨eM high pl W tb M A.length (Z (.int ((0+j:Nat):Int))) x7 x8 x9,_,_,?_,?_,A++S,T,Z (.int ((0+j:Nat):Int)),y7,y8,y9,by rw[eT,append_assoc],λx hx=>?_,λx hx=>by have:=s2 x hx;omega,rfl,rfl⟩
  ·show bP 6 (D.int (0+(j:Int))) (eM high pl W tb M A.length x6 x7 x8 x9)=_;rw[show(0+(j:Int))=((0+j:Nat):Int) by omega];rfl
  ·unfold dO;refine(az w).trans (eZ (cE rfl) f)
  ·rcases mem_append.mp hx with h|h
   ·have:=a1 x h;omega
   ·rw[s1 x h];omega) (eM high pl W tb M 0 Y Y Y Y) (M++[.lst (pl.map D.int)]) ⟨[],tb,Y,Y,Y,Y,rfl,(λx h=>by cases h),λx h=>by have:=hx0 x h;omega,rfl,rfl⟩
 have lr:(bq 0 high).length=high:=by unfold bq;simp
 rw[lr] at a2;have eB:B=[]:=by
  cases B with
  | nil=>rfl
  | cons y B=>
   have h1:=a2 y mem_cons_self;have h2:=hx0 y (by rw[e];exact mem_append_right _ mem_cons_self);omega
 subst eB;rw[append_nil] at e;have sh:=kZ.pure hM;have g:cD [Z (.int high),Z (.tup (pl.map D.int)),Z (.lst (W.map wD)),Z (.lst (tb.map tD)),Y,Y,Y,Y,Y,Y] M=.ok (.rt (.bl true)) (M++[.lst ((bW pl A).map D.int)]):=by
  unfold cD;refine(az (aF (d:=.mr M.length) (M1:=M++[.lst (pl.map D.int)]) (ij rfl rfl))).trans ((az (aF rfl)).trans ?_);refine(az (eZ (kH (n:=high) rfl (by omega)) ef)).trans (fJ (aq rfl (ij (x:=.lst (tb.map tD)) (o:=.ok (.int (tb.length:Int)) (M++[.lst ((bW pl A).map D.int)])) rfl ?_) ?_))
  ·show aN.ok (D.int ((tb.map tD).length:Int)) _=_;rw[length_map]
  ·rw[p0,e,decide_eq_true rfl]
 show fq M.length (bQ (cD [Z (.int high),Z (.tup (pl.map D.int)),Z (.lst (W.map wD)),Z (.lst (tb.map tD)),Y,Y,Y,Y,Y,Y] M))=_;rw[g];exact kD rfl sh
def E8 (z:List Int):Q4:=(z.getD 0 0,z.getD 1 0,z.getD 2 0,z.getD 3 0)
def IJ (ag:cL W)(hM:M.all dh=true)(hp:pl.length=16)(hs:∀w,w∈W->de w)(hl:W.length<=200) :
  ∃qs:List Q4,eP [.tup (pl.map D.int),.lst (W.map wD)] M=.ok (.lst (qs.map qD)) M/\bK [.tup (pl.map D.int),.lst (W.map wD)] M=.ok (.lst (qs.map qD)) M/\qs.Nodup/\(∀q,q∈qs↔EO (cY pl) W q)/\qs.length<=200:=by
 rcases sx (pl:=pl) (W:=W) hM hp hs hl with⟨_,na⟩|⟨zs,e1,_,nd,mem⟩
 ·exact absurd ag na
 obtain⟨zs2,e2,nd2,mem2⟩:=vC (pl:=pl) ag hM hp hs hl;have same:a9 zs2=a9 zs:=vk nd2 nd λz=>(mem2 z).trans (mem z).symm
 rw[same] at e2;have four:∀z,z∈a9 zs->∃w f o,w∈W/\zt (cY pl) W w f o/\o≠w.2.2/\z=[f,w.1,w.2.1,w.2.2]:=λz hz=>by
  obtain⟨w,f,o,hw,_,h1,h2,h3⟩:=(mem z).mp ((aL zs).subset hz);exact⟨w,f,o,hw,h1,h2,h3⟩
 have em:(a9 zs).map aR=((a9 zs).map E8).map qD:=by
  rw[map_map];refine map_congr_left λz hz=>?_
  obtain⟨w,f,o,_,_,_,rfl⟩:=four z hz;rfl
 have ndS:(a9 zs).Nodup:=(aL zs).nodup_iff.mpr nd;have ndq:((a9 zs).map E8).Nodup:=pairwise_map.mpr (ndS.imp_of_mem λ{a b} ha hb ne e=>by
  obtain⟨w,f,o,_,_,_,rfl⟩:=four a ha;obtain⟨v,g,o',_,_,_,rfl⟩:=four b hb;have e1:f=g:=congrArg (λq:Q4=>q.1) e;have e2:w=v:=congrArg (λq:Q4=>q.2) e;subst e1 e2;exact ne rfl)
 have memq:∀q,q∈(a9 zs).map E8↔EO (cY pl) W q:=λq=>by
  rw[mem_map];constructor
  ·rintro ⟨z,hz,rfl⟩;obtain⟨w,f,o,hw,h1,h2,rfl⟩:=four z hz;exact⟨w,f,o,hw,h1,h2,rfl⟩
  ·rintro ⟨w,f,o,hw,h1,h2,rfl⟩;exact⟨[f,w.1,w.2.1,w.2.2],(aL zs).symm.subset ((mem _).mpr ⟨w,f,o,hw,trivial,h1,h2,rfl⟩),rfl⟩
 refine⟨(a9 zs).map E8,by rw[<-em];exact e1,by rw[<-em];exact e2,ndq,memq,?_⟩;have:=wq (l:=((a9 zs).map E8).map λq=>q.2) (k:=W) (pairwise_map.mpr (ndq.imp_of_mem λ{a b} ha hb ne e=>by
  obtain⟨w,f,o,hw,h1,_,rfl⟩:=(memq a).mp ha;obtain⟨v,g,o',hv,g1,_,rfl⟩:=(memq b).mp hb;have e:w=v:=e;subst e;have:=(eI ag h1 g1).1;subst this;exact ne rfl)) λx hx=>by
   obtain⟨q,hq,rfl⟩:=mem_map.mp hx;obtain⟨w,f,o,hw,_,_,rfl⟩:=(memq q).mp hq;exact hw
 rw[length_map] at this;omega
def wJ {high:D}(e1:eP [.tup (pl.map D.int),.lst (W.map wD)] M=.ok (.lst (qs.map qD)) M)(hM:M.all dh=true)(hr:room<=16)(ok:ii qs)(hl:qs.length<=200) :
  (∃tb R,bR [high,.int room,.tup (pl.map D.int),.lst (W.map wD)] M=.ok (.tup [.str "table",.lst (tb.map tD)]) M/\EI qs room R [] tb)\/
  ∃a b,bR [high,.int room,.tup (pl.map D.int),.lst (W.map wD)] M=.ok (wj qs a b) M/\a∈qs.map (λq=>q.1)/\b∈qs.map (λq=>q.2.1)/\rh qs room a b:=by
 have g:∀o,bN [.int room,.lst (qs.map qD)] M=.ok o M->bR [high,.int room,.tup (pl.map D.int),.lst (W.map wD)] M=bQ ((av (dY (aB (g2 (p9 false) (af 5) (gC .non))) (bw (ax 2 fX (ae (af 1) (ae (af 4) ah)))) aP) (bw (cp (ae (gC (.str "table")) (ae (af 5) ah))))) [Z high,Z (.int room),Z (.tup (pl.map D.int)),Z (.lst (W.map wD)),Z (.lst (qs.map qD)),Z o] M):=λo e2=>by
  show bQ (fA [Z high,Z (.int room),Z (.tup (pl.map D.int)),Z (.lst (W.map wD)),Y,Y] M)=_;unfold fA;exact congrArg bQ ((az (aF (nD rfl rfl e1))).trans (az (aF (nD rfl rfl e2))))
 rcases uX (room:=room) ok hl hM with⟨tb,R,e2,Ei⟩|⟨e2,c⟩
 ·refine .inl ⟨tb,R,?_,Ei⟩;rw[g _ e2,az ((dZ (M1:=M) rfl).trans rfl)];rfl
 ·obtain⟨a,b,e3,ha,hb,hc⟩:=xM (M:=M) hl (by omega) c;refine .inr ⟨a,b,?_,ha,hb,hc⟩;rw[g _ e2,uk ((jF (M1:=M) rfl).trans (fJ (nD rfl rfl e3)))];rfl
theorem BN:∀A:List W3,ft (A.map wD) (A.map wD)=true
 | []=>rfl
 | a::A=>by
  show(((a.1==a.1)&&((a.2.1==a.2.1)&&((a.2.2==a.2.2)&&true)))&&ft (A.map wD) (A.map wD))=_;rw[BN A];simp
def yf {A:List W3}:aU true (.lst (A.map wD)) (.lst (A.map wD)) M=.ok (.bl false) M:=by
 show(if(a8 39 (A.map wD)&&a8 39 (A.map wD))=true then aN.ok (D.bl (ft (A.map wD) (A.map wD) != true)) M else .bad)=_;rw[sJ 38,BN];rfl
def CQ {A:List Int}:aU true (.lst (A.map D.int)) (.lst (A.map D.int)) M=.ok (.bl false) M:=by
 show(if(a8 39 (A.map D.int)&&a8 39 (A.map D.int))=true then aN.ok (D.bl (ft (A.map D.int) (A.map D.int) != true)) M else .bad)=_;rw[kY 38,uJ,decide_eq_true rfl];rfl
theorem v9 {inks:Int}{x4 x5:Option D}(hh:1<=high/\high<=40)(hi:1<=inks/\inks<=16)(hl:acc.length<1000)(t:eF l [.lst (acc.map wD)] M) :
  ∃w y5 M',(de w/\w.1<high)/\eF l [.lst ((acc++[w]).map wD)] M'/\cy [Z (.mr 0),Z (.int high),Z (.int inks),Z (.mr 1),x4,x5] M=.ok (.nx [Z (.mr 0),Z (.int high),Z (.int inks),Z (.mr 1),x4,y5]) M':=by
 obtain⟨hue,N1,bh,t1,e1⟩:=ju (ρ:=[Z (.mr 0),Z (.int high),Z (.int inks),Z (.mr 1),x4,x5]) (iv:=0) (m1:=3) (m2:=64) (m3:=4) (dv:=3) t rfl (by decide) (by decide) (by decide) (by decide) (by decide) (by decide);obtain⟨r,N2,a2,b2,t2,e2⟩:=BU (ρ:=[Z (.mr 0),Z (.int high),Z (.int inks),Z (.mr 1),x4,Z (.int (hue:Int))]) (i:=0) (many:=high) t1 rfl (by omega) (dH (by omega) (by omega));obtain⟨i,N3,a3,b3,t3,e3⟩:=BU (ρ:=[Z (.mr 0),Z (.int high),Z (.int inks),Z (.mr 1),x4,Z (.int (hue:Int))]) (i:=0) (many:=inks) t2 rfl (by omega) (dH (by omega) (by omega));obtain⟨m1,_⟩:=rj (rest:=[]) (d:=.non) t1;obtain⟨m3,t4⟩:=rj (rest:=[]) (d:=wD (r,i,(hue:Int))) t3;refine⟨(r,i,(hue:Int)),Z (.int (hue:Int)),_,⟨⟨⟨a2,(show r<40 by omega)⟩,a3,(show i<16 by omega)⟩,b2⟩,by rw[map_append];exact t4,?_⟩;unfold cy;exact(az (aF e1)).trans (kL (d:=.non) (pH (k:=1) (d:=wD (r,i,(hue:Int))) rfl m1 (io (ds:=[.int r,.int i,.int (hue:Int)]) (dD (e2 (af 1) rfl) (dD (e3 (af 2) rfl) rfl))) m3 (by rw[length_map];omega)))
theorem we {inks:Int}(hh:1<=high/\high<=40)(hi:1<=inks/\inks<=16)(t:eF l [] M) :
  ∃(W:List W3) (M':aw),W.length<=200/\(∀w,w∈W->de w/\w.1<high)/\eF l [] M'/\cN [.mr 0,.int high,.int inks] M=.ok (.lst (W.map wD)) M':=by
 obtain⟨i0,c0,hi0,eM⟩:=id t;have t0:eF l [.lst []] (M++[.lst []]):=by rw[eM];exact⟨i0,c0,hi0,rfl⟩
 have lM:M.length=1:=by rw[eM];rfl
 obtain⟨n,N1,bn,t1,e1⟩:=ju (ρ:=[Z (.mr 0),Z (.int high),Z (.int inks),Z (.mr 1),Y,Y]) (iv:=0) (m1:=14) (m2:=201) (m3:=3) (dv:=2) t0 rfl (by decide) (by decide) (by decide) (by decide) (by decide) (by decide);obtain⟨ρ',N2,⟨acc,y4,y5,la,sm,rfl,t2⟩,e2⟩:=pz (ds0:=bq 0 n) (s:=bP 4) (body:=cy) (W:=λj ρ N=>∃acc:List W3,∃x4 x5,acc.length=j/\(∀w,w∈acc->de w/\w.1<high)/\ρ=[Z (.mr 0),Z (.int high),Z (.int inks),Z (.mr 1),x4,x5]/\eF l [.lst (acc.map wD)] N) (bq 0 n) 0 (λj d hd ρ N hW=>by
  obtain⟨acc,x4,x5,la,sm,rfl,tt⟩:=hW;have hj:=(iP hd).1;obtain⟨w,y5,N',sw,t',e⟩:=v9 (x4:=Z d) (x5:=x5) hh hi (by omega) tt;refine⟨_,_,N',rfl,e,acc++[w],Z d,y5,by rw[length_append,la];rfl,λv hv=>?_,rfl,t'⟩;rcases mem_append.mp hv with hv|hv
  ·exact sm v hv
  ·obtain rfl:=mem_singleton.mp hv;exact sw) [Z (.mr 0),Z (.int high),Z (.int inks),Z (.mr 1),Y,Y] N1 ⟨[],Y,Y,rfl,(λv hv=>by cases hv),rfl,t1⟩
 have ln:(bq 0 n).length=n:=by unfold bq;simp
 obtain⟨i2,c2,hi2,eN⟩:=id t2;have eg:b9 [Z (.mr 0),Z (.int high),Z (.int inks),Y,Y,Y] M=.ok (.rt (.mr 1)) N2:=by
  unfold b9;refine(az (aF (d:=.mr 1) (M1:=M++[.lst []]) (by rw[iZ,lM]))).trans ?_;show av _ _ [Z (.mr 0),Z (.int high),Z (.int inks),Z (.mr 1),Y,Y] _=_;exact(az (eZ (kH (dD e1 rfl) (by omega)) e2)).trans (fJ rfl)
 refine⟨acc,[tp l i2 c2],by omega,sm,⟨i2,c2,hi2,rfl⟩,?_⟩;show fq M.length (bQ (b9 [Z (.mr 0),Z (.int high),Z (.int inks),Y,Y,Y] M))=_;rw[eg,lM,eN];exact mV (M:=[tp l i2 c2]) (o5 27 _) (kZ.pure (nY (rest:=[]) ⟨i2,c2,hi2,rfl⟩ rfl))
variable{t:Nat}
def va :∃m:Int,(m=3\/m=64)/\∀M:aw,aT (.lst [.int 3,.int 64]) (.int ((t:Int) % 2)) M=.ok (.int m) M:=by
 obtain⟨v,hv,ev⟩:=wC (a:=.int 3) (b:=.int 64) (f:=(t:Int) % 2) (by omega) (by omega);rcases hv with rfl|rfl
 ·exact⟨3,.inl rfl,ev⟩
 ·exact⟨64,.inr rfl,ev⟩
theorem uD {l:List Int}{t:Nat}{x0 x3 x4 x5 x6 x7 x8 x9 x10 x11:Option D}{ds0:List D}:∀(ds:List D) (M:aw),eF l [] M->∃(pl:List Int) (M':aw),pl.length=ds.length/\eF l [] M'/\dG ⟨ds0,Y⟩ fo gf ds [x0,Z (.mr 0),Z (.int (t:Int)),x3,x4,x5,x6,x7,x8,x9,x10,x11] M=.ok (pl.map D.int) M'
 | [],M,tt=>⟨[],M,rfl,tt,rfl⟩
 | d::ds,M,tt=>by
  obtain⟨m,hm,em⟩:=va (t:=t);obtain⟨f1,N1,a1,b1,t1,e1⟩:=BU (ρ:=[Z d,x0,Z (.mr 0),Z (.int (t:Int)),x3,x4,x5,x6,x7,x8,x9,x10,x11]) (i:=2) (many:=m) tt rfl (by omega) (dH (by omega) (by omega));have ee:gf [Z d,x0,Z (.mr 0),Z (.int (t:Int)),x3,x4,x5,x6,x7,x8,x9,x10,x11] M=.ok (.int f1) N1:=by
   unfold gf;exact e1 _ (aq (jH (ds:=[.int 3,.int 64]) rfl) (aq rfl rfl rfl) (em M))
  obtain⟨pl,M',lp,t',e'⟩:=uD (ds0:=ds0) (t:=t) ds N1 t1;refine⟨f1::pl,M',by rw[length_cons,length_cons,lp],t',?_⟩;rw[dG,if_pos dX];show(match gf [Z d,x0,Z (.mr 0),Z (.int (t:Int)),x3,x4,x5,x6,x7,x8,x9,x10,x11] M with | .ok e M2=>(dG ⟨ds0,Y⟩ fo gf ds [x0,Z (.mr 0),Z (.int (t:Int)),x3,x4,x5,x6,x7,x8,x9,x10,x11] M2).bind λes M3=>.ok (e::es) M3|_=>.bad)=_;rw[ee];dsimp only;rw[e',ai];rfl
def Dj:GS:=(av (dY (eJ (aB (g2 (aU true) (aQ cK (ae (af 9) ah)) (gC (.int 4)))) (d7 (aB (su nO nO qx (gC (.int 0)) (g2 aT (af 9) (gC (.int 1))) (g2 aT (af 9) (gC (.int 2))) (af 3))))) (bw (gC (.bl false))) aP) (av (ay 10 (aQ cK (ae (aK (aY (af 7)) oQ pd aA) ah))) (dY (eJ (aB (g2 (aU true) (g2 aT (af 9) (gC (.int 3))) (af 10))) (aB (g2 nO (af 10) (g2 dC (af 4) (g2 bO (g2 mM (g2 aT (af 9) (gC (.int 2))) (g2 aT (af 9) (gC (.int 1)))) (gC (.int 1))))))) (bw (gC (.bl false))) aP)))
def Cg:GS:=(av (dY (eJ (aB (g2 (aU true) (g2 aT (af 9) (gC (.int 0))) (gC (.str "table")))) (eJ (aB (g2 (aU true) (aQ cK (ae (af 9) ah)) (gC (.int 2)))) (eJ (d7 (gP (iX "list" (g2 aT (af 9) (gC (.int 1)))))) (aB (g2 (aU true) (aQ cK (ae (g2 aT (af 9) (gC (.int 1))) ah)) (aQ cK (ae (af 7) ah))))))) (bw (gC (.bl false))) aP) (av (dY (aB (g2 (aU true) (aK (aY (g2 aT (af 9) (gC (.int 1)))) lK mh aA) (du ah))) (bw (gC (.bl false))) aP) (av (ay 11 (aK (aY (g2 aT (af 9) (gC (.int 1)))) fo pG aA)) (av (dY (eJ (aB (g2 (aU true) (af 11) (aQ dE (ae (af 11) ah)))) (aB (g2 (aU true) (aK (aY (af 11)) jM lF aA) (du ah)))) (bw (gC (.bl false))) aP) (dY (d7 (gP (ax 4 dq (ae (af 3) (ae (af 5) (ae (af 6) (ae (g2 aT (af 9) (gC (.int 1))) ah))))))) (bw (gC (.bl false))) aP)))))
def yr:GS:=(av (dY (eJ (d7 (gP (iX "tuple" (af 9)))) (aB (g2 (aU true) (af 8) (af 6)))) (bw (gC (.bl false))) aP) (av (dY (aB (g2 (aU true) (aK (aY (m6 (af 9) (da (gC (.int 1))) bp)) sB tB aA) (du ah))) (bw (gC (.bl false))) aP) (dY (aB (g2 (aU false) (g2 aT (af 9) (gC (.int 0))) (gC (.str "crowd")))) Dj Cg)))
theorem Dp (ρ:bv)(M:aw):mF ρ M=(av (ay 3 (ax 2 df (ae (af 1) (ae (gC (.int 40)) ah)))) (av (ay 4 (g2 aT (du (ae (ax 2 au (ae (af 1) (ae (gC (.int 4)) ah))) (ae (ax 2 au (ae (af 1) (ae (gC (.int 17)) ah))) ah))) (g2 cM (ax 2 au (ae (af 1) (ae (gC (.int 4)) ah))) (gC (.int 3))))) (av (ay 5 (aQ gL (ae (aK (d8 (ae (gC (.int 16)) ah)) fo gf aA) ah))) (av (ay 6 (ax 1 dr (ae (ax 3 cN (ae (af 1) (ae (af 3) (ae (g2 bO (gC (.int 1)) (ax 2 au (ae (af 1) (ae (gC (.int 16)) ah)))) ah)))) ah))) (av (ay 7 (ax 2 bK (ae (af 5) (ae (af 6) ah)))) (av (ay 8 (aQ iN (ae (af 6) ah))) (av (ay 9 (ax 4 bR (ae (af 3) (ae (af 4) (ae (af 5) (ae (af 8) ah)))))) yr))))))) ρ M:=rfl
abbrev eL (x0:Option D)(t high room:Nat)(pl:List Int)(W:List W3)(qs:List Q4)(fd:D)(x10 x11:Option D):bv:=[x0,Z (.mr 0),Z (.int (t:Int)),Z (.int (high:Int)),Z (.int (room:Int)),Z (.tup (pl.map D.int)),Z (.lst (W.map wD)),Z (.lst (qs.map qD)),Z (.lst (W.map wD)),Z fd,x10,x11]
def GD {f f' f'':F2}{ga gb gc gd:GE}{x y z u:D}(h1:ga ρ M=.ok x M)(h2:gb ρ M=.ok y M)(h3:gc ρ M=.ok z M)(h4:gd ρ M=.ok u M)(k1:f x y M=.ok (.bl true) M)(k2:f' y z M=.ok (.bl true) M)(k3:f'' z u M=.ok (.bl true) M):su f f' f'' ga gb gc gd ρ M=.ok (.bl true) M:=by
 unfold su;rw[h1,ai,h2,ai,k1,ai];dsimp only;rw[h3,ai,k2,ai];dsimp only;rw[h4,ai,k3]
def oA (h:g ρ M=.ok d M)(e:cK [d] M=.ok (.int (n:Int)) M):aQ cK (ae g ah) ρ M=.ok (.int (n:Int)) M:=ij h e
def oE {x0 x10 x11:Option D}{high:Nat}{a b:Int}(hl:qs.length<=200)(hr:room<=16)(h0:0<=a)(hb:b<high)(hc:rh qs room a b):∃y,Dj (eL x0 t high room pl W qs (wj qs a b) x10 x11) N=.ok (.nx (eL x0 t high room pl W qs (wj qs a b) y x11)) N:=by
 have ix:∀(k:Nat) (d:D) (y:Option D),[D.str "crowd",.int a,.int b,.int ((qs.filter (fI a b)).length:Int)][k]?=Z d->g2 aT (af 9) (gC (.int k)) (eL x0 t high room pl W qs (wj qs a b) y x11) N=.ok d N:=λk d y h=>aq rfl rfl (bU h)
 have lf:=length_filter_le (fI a b) qs;refine⟨Z (.int ((qs.filter (fI a b)).length:Int)),?_⟩;unfold Dj;refine(az ((dZ (M1:=N) ?_).trans rfl)).trans ((az (aF (M1:=N) (d:=.int ((qs.filter (fI a b)).length:Int)) ?_)).trans ((dZ (M1:=N) ?_).trans rfl))
 ·refine(fZ (x:=false) (y:=false) (aE (aq (oA (n:=4) (d:=wj qs a b) rfl rfl) rfl ?_)) λ_=>?_).trans rfl
  ·exact(jq _ _ _).trans rfl
  ·refine(oO (x:=true) (aE (GD (x:=.int 0) (y:=.int a) (z:=.int b) (u:=.int (high:Int)) rfl (ix 1 _ _ rfl) (ix 2 _ _ rfl) rfl ?_ ?_ ?_))).trans rfl
   ·show aN.ok (D.bl (decide (0<=a))) N=_;rw[decide_eq_true h0]
   ·show aN.ok (D.bl (decide (a<=b))) N=_;rw[decide_eq_true hc.1]
   ·show aN.ok (D.bl (decide (b<(high:Int)))) N=_;rw[decide_eq_true hb]
 ·have k1:aK (aY (af 7)) oQ pd aA (eL x0 t high room pl W qs (wj qs a b) x10 x11) N=.ok (.lst ((qs.filter (fI a b)).map qD)) N:=
   bf (cE rfl) (bY (f:=qD) (g:=qD) (b:=fI a b) rfl qs λq _=>⟨eE (aE (aq (aq rfl rfl (bU (k:=1) rfl)) (oC (k:=0) rfl rfl) rfl)) λ_=>aE (aq (oC (k:=1) rfl rfl) (aq rfl rfl (bU (k:=2) rfl)) rfl),λ_=>rfl⟩) (by rw[length_map];omega)
  refine ij k1 ?_;show aN.ok (D.int (((qs.filter (fI a b)).map qD).length:Int)) N=_;rw[length_map]
 ·refine(fZ (x:=false) (y:=false) (aE (aq (ix 3 _ _ rfl) rfl ?_)) λ_=>aE (aq rfl (aq rfl (aq (aq (ix 2 _ _ rfl) (ix 1 _ _ rfl) rfl) rfl rfl) (xh (by omega) (by omega) N)) ?_)).trans rfl
  ·rw[jq,decide_eq_true rfl];rfl
  ·show aN.ok (D.bl (decide (((qs.filter (fI a b)).length:Int)<=(room:Int)*(b-a+1)))) N=_;rw[decide_eq_false (Int.not_le.mpr hc.2)]
def rW (h:l.Pairwise (·<=·)):aO l=l:=by
 unfold aO;rw[dL (b:=l.map λn=>[n]) (aL _) (dR _) (pairwise_map.mpr (h.imp λ{a b} hab=>?_)),map_map]
 ·exact map_id' _
 ·show HT.lexLt [b] [a]=false;rw[HT.lexLt_cons]
  by_cases z:b=a
  ·rw[if_pos z];rfl
  ·rw[if_neg z];exact decide_eq_false (by omega)
def sj (hl:l.length<=100000):dE [.lst (l.map D.int)] M=.ok (.lst ((aO l).map D.int)) M:=by
 unfold dE;dsimp only;rw[nK];dsimp only;rw[if_pos hl]
theorem og:∀l:List Int,(l.map D.int).all dW=true
 | []=>rfl
 | a::l=>by rw[map_cons,all_cons,og l];rfl
def wR :fH (l.map D.int) (.int r) M=.ok (.int ((l.countP λx=>decide (x=r):Nat):Int)) M:=by
 unfold fH;rw[og,Bool.and_true,if_pos (show dW (.int r)=true from rfl),countP_map];refine congrArg (λn:Nat=>aN.ok (D.int (n:Int)) M) (countP_congr λx _=>?_);show(x==r)=true↔_;rw[beq_iff_eq,decide_eq_true_eq]
theorem o3 {x0 x10 x11:Option D}{high:Nat}(hl:qs.length<=200)(Ei:EI qs room R [] tb)(em:dq [.int (high:Int),.tup (pl.map D.int),.lst (W.map wD),.lst (tb.map tD)] N=.ok (.bl true) N) :
  ∃y,Cg (eL x0 t high room pl W qs (.tup [.str "table",.lst (tb.map tD)]) x10 x11) N=.ok (.nx (eL x0 t high room pl W qs (.tup [.str "table",.lst (tb.map tD)]) x10 y)) N:=by
 have lt:tb.length=qs.length:=by have:=Ei.perm.length_eq;rw[append_nil,length_map] at this;exact this
 have ix1:∀y,g2 aT (af 9) (gC (.int 1)) (eL x0 t high room pl W qs (.tup [.str "table",.lst (tb.map tD)]) x10 y) N=.ok (.lst (tb.map tD)) N:=λy=>aq rfl rfl (bU (k:=1) rfl)
 refine⟨Z (.lst ((tb.map λx=>x.1).map D.int)),?_⟩;unfold Cg;refine(az ((dZ (M1:=N) ?_).trans rfl)).trans ((az ((dZ (M1:=N) ?_).trans rfl)).trans ((az (aF (M1:=N) (d:=.lst ((tb.map λx=>x.1).map D.int)) ?_)).trans ((az ((dZ (M1:=N) ?_).trans rfl)).trans ((dZ (M1:=N) ?_).trans rfl))))
 ·refine(fZ (x:=false) (y:=false) (aE (aq (x:=.str "table") (y:=.str "table") (aq rfl rfl (bU (k:=0) rfl)) rfl ?_)) λ_=>(fZ (x:=false) (y:=false) (aE (aq (oA (n:=2) (d:=.tup [.str "table",.lst (tb.map tD)]) rfl rfl) rfl ?_)) λ_=>(fZ (x:=false) (y:=false) ((oO (x:=true) (rP ?_)).trans rfl) λ_=>aE (aq (oA (n:=tb.length) (ix1 _) ?_) (oA (n:=qs.length) (d:=.lst (qs.map qD)) rfl ?_) ?_)).trans rfl).trans rfl).trans rfl
  ·exact zU (d:=.str "table") (by decide +kernel) (by decide +kernel) (λ_=>rfl) N
  ·exact(jq _ _ _).trans rfl
  ·unfold iX;rw[ix1,ai];rfl
  ·show aN.ok (D.int ((tb.map tD).length:Int)) N=_;rw[length_map]
  ·show aN.ok (D.int ((qs.map qD).length:Int)) N=_;rw[length_map]
  ·rw[jq,lt,decide_eq_true rfl];rfl
 ·have k1:aK (aY (g2 aT (af 9) (gC (.int 1)))) lK mh aA (eL x0 t high room pl W qs (.tup [.str "table",.lst (tb.map tD)]) x10 x11) N=.ok (.lst []) N:=by
   have c:=bY (f:=tD) (g:=tD) (b:=λ_=>false) (gc:=lK) (ge:=mh) (ρ:=eL x0 t high room pl W qs (.tup [.str "table",.lst (tb.map tD)]) x10 x11) (M:=N) (t:=⟨tb.map tD,Y⟩) rfl tb λx _=>⟨rfl,λz=>by cases z⟩
   have e0:(tb.filter λ_=>false)=[]:=filter_eq_nil_iff.mpr λ_ _=>Bool.false_ne_true
   rw[e0] at c;exact bf (iB (ix1 _)) c (by decide)
  refine aE (aq k1 (jH (ds:=[]) rfl) rfl)
 ·have c:=bY (f:=tD) (g:=λx=>D.int x.1) (b:=λ_=>true) (gc:=fo) (ge:=pG) (ρ:=eL x0 t high room pl W qs (.tup [.str "table",.lst (tb.map tD)]) x10 x11) (M:=N) (t:=⟨tb.map tD,Y⟩) rfl tb λx _=>⟨rfl,λ_=>aq rfl rfl (bU (k:=0) rfl)⟩
  rw[filter_eq_self.mpr λ_ _=>rfl] at c;rw[map_map];exact bf (iB (ix1 _)) c (by rw[length_map];omega)
 ·have up:(tb.map λx=>x.1).Pairwise (·<=·):=pairwise_map.mpr Ei.up;refine(fZ (x:=false) (y:=false) (aE (aq rfl (ij rfl (sj (l:=tb.map λx=>x.1) (by rw[length_map];omega))) ?_)) λ_=>?_).trans rfl
  ·rw[rW up];exact CQ
  ·have k1:aK (aY (af 11)) jM lF aA (eL x0 t high room pl W qs (.tup [.str "table",.lst (tb.map tD)]) x10 (Z (.lst ((tb.map λx=>x.1).map D.int)))) N=.ok (.lst []) N:=by
    have cc:∀r:Int,jM (Z (.int r)::eL x0 t high room pl W qs (.tup [.str "table",.lst (tb.map tD)]) x10 (Z (.lst ((tb.map λx=>x.1).map D.int)))) N=.ok false N:=λr=>by
     refine aE (aq (M1:=N) (x:=.int (((tb.map λx=>x.1).countP λx=>decide (x=r):Nat):Int)) (y:=.int (room:Int)) ?_ rfl ?_)
     ·exact wR
     ·show aN.ok (D.bl (decide ((((tb.map λx=>x.1).countP λx=>decide (x=r):Nat):Int)>(room:Int)))) N=_;have:=Ei.cnt r;rw[<-countP_eq_length_filter] at this;rw[countP_map];refine congrArg (λb=>aN.ok (D.bl b) N) (decide_eq_false ?_);exact Int.not_lt.mpr (Int.ofNat_le.mpr this)
    have c:=bY (f:=D.int) (g:=D.int) (b:=λ_=>false) (gc:=jM) (ge:=lF) (ρ:=eL x0 t high room pl W qs (.tup [.str "table",.lst (tb.map tD)]) x10 (Z (.lst ((tb.map λx=>x.1).map D.int)))) (M:=N) (t:=⟨(tb.map λx=>x.1).map D.int,Y⟩) rfl (tb.map λx=>x.1) λr _=>⟨cc r,λz=>by cases z⟩
    have e0:((tb.map λx=>x.1).filter λ_=>false)=[]:=filter_eq_nil_iff.mpr λ_ _=>Bool.false_ne_true
    rw[e0] at c;exact bf (cE rfl) c (by decide)
   exact aE (aq k1 (jH (ds:=[]) rfl) rfl)
 ·exact(oO (x:=true) (rP (Bx rfl rfl rfl (ix1 _) em))).trans rfl
theorem yk {x0 x3 x4 x5 x6 x7 x8 x9 x10 x11:Option D}(tt:eF l [] M) :
  ∃y3 y4 y5 y6 y7 y8 y9 y10 y11 M',eF l [] M'/\mF [x0,Z (.mr 0),Z (.int (t:Int)),x3,x4,x5,x6,x7,x8,x9,x10,x11] M=.ok (.nx [x0,Z (.mr 0),Z (.int (t:Int)),y3,y4,y5,y6,y7,y8,y9,y10,y11]) M':=by
 obtain⟨hi,N1,h1,h2,t1,e1⟩:=AH (most:=40) (by decide) (by decide) tt;obtain⟨high,rfl⟩:∃n:Nat,hi=(n:Int):=⟨hi.toNat,by omega⟩;obtain⟨room,N2,b2,t2,e2⟩:=ju (ρ:=[x0,Z (.mr 0),Z (.int (t:Int)),Z (.int (high:Int)),x4,x5,x6,x7,x8,x9,x10,x11]) (iv:=1) (m1:=4) (m2:=17) (m3:=4) (dv:=3) t1 rfl (by decide) (by decide) (by decide) (by decide) (by decide) (by decide);obtain⟨pl,N3,lp,t3,e3⟩:=uD (l:=l) (t:=t) (x0:=x0) (x3:=Z (.int (high:Int))) (x4:=Z (.int (room:Int))) (x5:=x5) (x6:=x6) (x7:=x7) (x8:=x8) (x9:=x9) (x10:=x10) (x11:=x11) (ds0:=bq 0 16) (bq 0 16) N2 t2;have lp:pl.length=16:=lp.trans (by unfold bq;simp);have e3:=xr (gi:=d8 (ae (gC (.int 16)) ah)) (M:=N2) (kH (n:=16) rfl (by decide)) e3 (by rw[length_map,lp];decide);obtain⟨f4,N4,a4,b4,t4,e4⟩:=BU (ρ:=[x0,Z (.mr 0),Z (.int (t:Int)),Z (.int (high:Int)),Z (.int (room:Int)),Z (.tup (pl.map D.int)),x6,x7,x8,x9,x10,x11]) (i:=1) (many:=16) t3 rfl (by decide) (dH (by decide) (by decide));obtain⟨V,N,lV,sV,tN,e5⟩:=we (high:=(high:Int)) (inks:=1+f4) ⟨h1,h2⟩ ⟨by omega,by omega⟩ t4;have pN:=nY tN rfl;have e6:=wz pN lV;have lW:(pj V).length<=200:=Nat.le_trans ut.2 lV;have sW:∀w,w∈pj V->de w/\w.1<(high:Int):=λw hw=>sV w (ut.1 w hw)
 have ag:cL (pj V):=mi V [] (λa ha=>by cases ha);generalize pj V=W at *;have sW':∀w,w∈W->de w:=λw hw=>(sW w hw).1
 obtain⟨qs,w1,w2,nd,mem,lq⟩:=IJ (pl:=pl) ag pN lp sW' lW;have ok:=Ea ag sW' nd mem;have k1:∀b:GS,av (ay 3 (ax 2 df (ae (af 1) (ae (gC (.int 40)) ah)))) b [x0,Z (.mr 0),Z (.int (t:Int)),x3,x4,x5,x6,x7,x8,x9,x10,x11] M=b [x0,Z (.mr 0),Z (.int (t:Int)),Z (.int (high:Int)),x4,x5,x6,x7,x8,x9,x10,x11] N1:=λb=>az (aF (nD rfl rfl e1))
 have k2:∀b:GS,av (ay 4 (g2 aT (du (ae (ax 2 au (ae (af 1) (ae (gC (.int 4)) ah))) (ae (ax 2 au (ae (af 1) (ae (gC (.int 17)) ah))) ah))) (g2 cM (ax 2 au (ae (af 1) (ae (gC (.int 4)) ah))) (gC (.int 3))))) b [x0,Z (.mr 0),Z (.int (t:Int)),Z (.int (high:Int)),x4,x5,x6,x7,x8,x9,x10,x11] N1=b [x0,Z (.mr 0),Z (.int (t:Int)),Z (.int (high:Int)),Z (.int (room:Int)),x5,x6,x7,x8,x9,x10,x11] N2:=λb=>az (aF e2)
 have k3:∀b:GS,av (ay 5 (aQ gL (ae (aK (d8 (ae (gC (.int 16)) ah)) fo gf aA) ah))) b [x0,Z (.mr 0),Z (.int (t:Int)),Z (.int (high:Int)),Z (.int (room:Int)),x5,x6,x7,x8,x9,x10,x11] N2=b [x0,Z (.mr 0),Z (.int (t:Int)),Z (.int (high:Int)),Z (.int (room:Int)),Z (.tup (pl.map D.int)),x6,x7,x8,x9,x10,x11] N3:=λb=>az (aF (ij e3 rfl))
 have k4:∀b:GS,av (ay 6 (ax 1 dr (ae (ax 3 cN (ae (af 1) (ae (af 3) (ae (g2 bO (gC (.int 1)) (ax 2 au (ae (af 1) (ae (gC (.int 16)) ah)))) ah)))) ah))) b [x0,Z (.mr 0),Z (.int (t:Int)),Z (.int (high:Int)),Z (.int (room:Int)),Z (.tup (pl.map D.int)),x6,x7,x8,x9,x10,x11] N3=b [x0,Z (.mr 0),Z (.int (t:Int)),Z (.int (high:Int)),Z (.int (room:Int)),Z (.tup (pl.map D.int)),Z (.lst (W.map wD)),x7,x8,x9,x10,x11] N:=λb=>az (aF (xg (Gq (z:=.int (1+f4)) rfl rfl (aq rfl (e4 _ rfl) rfl) e5) e6))
 have k5:∀b:GS,av (ay 7 (ax 2 bK (ae (af 5) (ae (af 6) ah)))) b [x0,Z (.mr 0),Z (.int (t:Int)),Z (.int (high:Int)),Z (.int (room:Int)),Z (.tup (pl.map D.int)),Z (.lst (W.map wD)),x7,x8,x9,x10,x11] N=b [x0,Z (.mr 0),Z (.int (t:Int)),Z (.int (high:Int)),Z (.int (room:Int)),Z (.tup (pl.map D.int)),Z (.lst (W.map wD)),Z (.lst (qs.map qD)),x8,x9,x10,x11] N:=λb=>az (aF (nD rfl rfl w2))
 have k6:∀b:GS,av (ay 8 (aQ iN (ae (af 6) ah))) b [x0,Z (.mr 0),Z (.int (t:Int)),Z (.int (high:Int)),Z (.int (room:Int)),Z (.tup (pl.map D.int)),Z (.lst (W.map wD)),Z (.lst (qs.map qD)),x8,x9,x10,x11] N=b [x0,Z (.mr 0),Z (.int (t:Int)),Z (.int (high:Int)),Z (.int (room:Int)),Z (.tup (pl.map D.int)),Z (.lst (W.map wD)),Z (.lst (qs.map qD)),Z (.lst (W.map wD)),x9,x10,x11] N:=λb=>az (aF (ij rfl rfl))
 have k7:∀(b:GS) (fd:D),bR [.int (high:Int),.int (room:Int),.tup (pl.map D.int),.lst (W.map wD)] N=.ok fd N->av (ay 9 (ax 4 bR (ae (af 3) (ae (af 4) (ae (af 5) (ae (af 8) ah)))))) b [x0,Z (.mr 0),Z (.int (t:Int)),Z (.int (high:Int)),Z (.int (room:Int)),Z (.tup (pl.map D.int)),Z (.lst (W.map wD)),Z (.lst (qs.map qD)),Z (.lst (W.map wD)),x9,x10,x11] N=b (eL x0 t high room pl W qs fd x10 x11) N:=λb fd e=>az (aF (Bx rfl rfl rfl rfl e))
 have se:∀(a b:Str),PyData.strOk a=true->PyData.strOk b=true->aU false (.str a) (.str b) N=.ok (.bl (a==b)) N:=λa b ha hb=>Fo ha hb N
 rw[Dp,k1,k2,k3,k4,k5,k6];rcases wJ (high:=.int (high:Int)) (room:=room) w1 pN (by omega) ok lq with⟨tb,R,e,Ei⟩|⟨a,b,e,ha,hb,hc⟩
 ·have em:=xG (high:=high) (room:=room) (M:=N) pN (by omega) (by omega) lp ag sW mem ok Ei;obtain⟨y,ey⟩:=o3 (x0:=x0) (x10:=x10) (x11:=x11) (t:=t) lq Ei em;rw[k7 _ _ e];refine(λfin=>⟨_,_,_,_,_,_,_,_,_,N,tN,fin⟩:yr (eL x0 t high room pl W qs (.tup [.str "table",.lst (tb.map tD)]) x10 x11) N=.ok (.nx (eL x0 t high room pl W qs (.tup [.str "table",.lst (tb.map tD)]) x10 y)) N->_) ?_;unfold yr;refine(az ((dZ (M1:=N) ?_).trans rfl)).trans ((az ((dZ (M1:=N) ?_).trans rfl)).trans ((dZ (M1:=N) ?_).trans ey))
  ·exact(fZ (x:=false) (y:=false) rfl λ_=>aE (aq rfl rfl yf)).trans rfl
  ·rfl
  ·refine aE (aq (aq rfl rfl (bU (k:=0) rfl)) rfl ((se _ _ (by decide +kernel) (by decide +kernel)).trans ?_));rw[show(("table":Str)==("crowd":Str))=false by decide +kernel]
 ·obtain⟨qa,hqa,rfl⟩:=mem_map.mp ha;obtain⟨qb,hqb,rfl⟩:=mem_map.mp hb;have b2:qb.2.1<(high:Int):=by
   obtain⟨v,f,o,hv,_,_,eq⟩:=(mem qb).mp hqb;rw[eq];exact(sW v hv).2
  obtain⟨y,ey⟩:=oE (x0:=x0) (x10:=x10) (x11:=x11) (t:=t) (high:=high) (room:=room) (pl:=pl) (W:=W) (N:=N) lq (by omega) (ok.lo qa hqa).1.1 b2 hc;rw[k7 _ _ e];refine(λfin=>⟨_,_,_,_,_,_,_,_,_,N,tN,fin⟩:yr (eL x0 t high room pl W qs (wj qs qa.1 qb.2.1) x10 x11) N=.ok (.nx (eL x0 t high room pl W qs (wj qs qa.1 qb.2.1) y x11)) N->_) ?_;unfold yr;refine(az ((dZ (M1:=N) ?_).trans rfl)).trans ((az ((dZ (M1:=N) ?_).trans rfl)).trans ((jF (M1:=N) ?_).trans ey))
  ·exact(fZ (x:=false) (y:=false) rfl λ_=>aE (aq rfl rfl yf)).trans rfl
  ·rfl
  ·refine aE (aq (aq rfl rfl (bU (k:=0) rfl)) rfl ((se _ _ (by decide +kernel) (by decide +kernel)).trans ?_));rw[show(("crowd":Str)==("crowd":Str))=true by decide +kernel]
theorem law_true (ns:List Int)(_:ns.length<=63):∃M',uu [.ro (ns.map D.int)] []=.ok (.bl true) M':=by
 have t0:eF ns [] [tp ns 0 0]:=⟨0,0,Int.le_refl _,rfl⟩;obtain⟨ρ',M',⟨y2,y3,y4,y5,y6,y7,y8,y9,y10,y11,rfl,t'⟩,e⟩:=pz (ds0:=bq 0 3) (s:=bP 2) (body:=mF) (W:=λ_ ρ M=>∃x2 x3 x4 x5 x6 x7 x8 x9 x10 x11,ρ=[Z (.ro (ns.map D.int)),Z (.mr 0),x2,x3,x4,x5,x6,x7,x8,x9,x10,x11]/\eF ns [] M) (bq 0 3) 0 (λj d hd ρ M hW=>by
  obtain⟨x2,x3,x4,x5,x6,x7,x8,x9,x10,x11,rfl,tt⟩:=hW;obtain⟨_,rfl⟩:=iP hd;obtain⟨y3,y4,y5,y6,y7,y8,y9,y10,y11,M',t',e⟩:=yk (t:=j) (x0:=Z (.ro (ns.map D.int))) (x3:=x3) (x4:=x4) (x5:=x5) (x6:=x6) (x7:=x7) (x8:=x8) (x9:=x9) (x10:=x10) (x11:=x11) tt;refine⟨[Z (.ro (ns.map D.int)),Z (.mr 0),Z (.int (j:Int)),x3,x4,x5,x6,x7,x8,x9,x10,x11],_,M',?_,e,_,y3,y4,y5,y6,y7,y8,y9,y10,y11,rfl,t'⟩;rw[show(0+(j:Int))=(j:Int) by omega];rfl) [Z (.ro (ns.map D.int)),Z (.mr 0),Y,Y,Y,Y,Y,Y,Y,Y,Y,Y] [tp ns 0 0] ⟨Y,Y,Y,Y,Y,Y,Y,Y,Y,Y,rfl,t0⟩
 refine⟨M',?_⟩;show bQ (tZ [Z (.ro (ns.map D.int)),Y,Y,Y,Y,Y,Y,Y,Y,Y,Y,Y] [])=_;unfold tZ;refine congrArg bQ ((az (ρ1:=[Z (.ro (ns.map D.int)),Z (.mr 0),Y,Y,Y,Y,Y,Y,Y,Y,Y,Y]) (M1:=[tp ns 0 0]) ?_).trans ((az (eZ (kH (n:=3) rfl (by decide)) e)).trans (fJ rfl)));refine aF (d:=.mr 0) ?_;unfold jp;rfl
end K16
theorem PySem.Challenge.cw_glowrow_k16_whole_table_or_crowd_holds : PySem.Challenge.rw_glowrow_k16_whole_table_or_crowd.Holds :=
 K16.pre K16.law_true
