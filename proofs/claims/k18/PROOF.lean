import PyProof.Rows.All
import Wide.All
import KE.KNestM
import OpenK.KOwn
import OpenK.KRaise
import KE.KIsAll
import KE.KTypeName
import Wide.FinOn
import Lean
import PyProof.EqAt
import PyProof.EqKinds
import PyProof.TupleCall
import PyProof.Draws
import PyProof.EnumMake
import KE.KLam
import KE.KMinKey
import PyProof.StrCalls2
import PyProof.Rows.StrIndexOr
import PyProof.CollectIter
import PyProof.ListStr
import KE.KDictLaws
import PyProof.P3Eq
import KE.KSortTup
import KE.KDictList
import PyProof.ZipIter
import PyProof.Rows.ZipGen
import KE.KSortKey
import PySem.Challenge.RW_glowrow_k18_slots_or_a_row
set_option Elab.async false
set_option linter.all false
set_option maxRecDepth 100000
set_option maxHeartbeats 4000000
namespace L2
open PySem PySem.Spec PyProof.Rows List
abbrev ix:=Sum Int Str
def qh:ix→Value→Bool
 | .inl k,v=>Value.isInt k v
 | .inr x,v=>Value.isStrOf x v
def xO (w:World):ix→Int
 | .inl k=>hashInt k
 | .inr x=>hashStr w x
theorem aT:∀{k:ix} {v:Value},qh k v=true→(∃i t,k=Sum.inl i∧v=Value.int i t)∨(∃x t,k=Sum.inr x∧v=Value.str x t)
 | .inl i,v,h=>by
  obtain⟨t,e⟩:=Value.isInt_shape (k:=i) (v:=v) h;exact .inl ⟨i,t,rfl,e⟩
 | .inr x,v,h=>by
  obtain⟨t,e⟩:=Value.isStrOf_shape (x:=x) (v:=v) h;exact .inr ⟨x,t,rfl,e⟩
theorem sn (a b:Int):decide ((Sum.inl a:ix)=Sum.inl b)=(a==b):=by
 by_cases e:a=b
 ·subst e;simp
 ·have h:¬(Sum.inl a:ix)=Sum.inl b:=fun q=>e (Sum.inl.inj q)
  rw[decide_eq_false h];exact(beq_eq_false_iff_ne.mpr e).symm
theorem sG (a b:Str):decide ((Sum.inr a:ix)=Sum.inr b)=decide (a=b):=by
 by_cases e:a=b
 ·subst e;simp
 ·have h:¬(Sum.inr a:ix)=Sum.inr b:=fun q=>e (Sum.inr.inj q)
  rw[decide_eq_false h,decide_eq_false e]
theorem qP (a:Int)(b:Str):decide ((Sum.inl a:ix)=Sum.inr b)=false:=decide_eq_false (fun q=>nomatch q)
theorem rf (a:Str)(b:Int):decide ((Sum.inr a:ix)=Sum.inl b)=false:=decide_eq_false (fun q=>nomatch q)
def i8 (prog:Program)(w:World):PySem.KeyKind prog w ix where
 is:=qh
 hash:=xO w
 inj:=fun v a b ha hb=>by
  rcases aT ha with⟨i,t,rfl,rfl⟩|⟨x,t,rfl,rfl⟩
  ·rcases aT hb with⟨j,u,rfl,e⟩|⟨y,u,rfl,e⟩
   ·injection e with e1 _;rw[e1]
   ·exact nomatch e
  ·rcases aT hb with⟨j,u,rfl,e⟩|⟨y,u,rfl,e⟩
   ·exact nomatch e
   ·injection e with e1 _;rw[e1]
 byValue:=fun k v h=>by
  rcases aT h with⟨i,t,rfl,rfl⟩|⟨x,t,rfl,rfl⟩ <;> rfl
 pyHash:=fun hv h=>by
  rcases aT hv with⟨i,t,rfl,rfl⟩|⟨x,t,rfl,rfl⟩
  ·exact wpAny_pyHash_int h
  ·exact wpAny_pyHash_str h
 eqBool:=fun hu hv h=>by
  rcases aT hu with⟨i,t,rfl,rfl⟩|⟨x,t,rfl,rfl⟩
  ·rcases aT hv with⟨j,u,rfl,rfl⟩|⟨y,u,rfl,rfl⟩
   ·rw[sn] at h;exact wpAny_eqBool_int h
   ·rw[qP] at h;exact SeqAt.EqAt.int_str i t y u _ _ _ _ h
  ·rcases aT hv with⟨j,u,rfl,rfl⟩|⟨y,u,rfl,rfl⟩
   ·rw[rf] at h;exact SeqAt.EqAt.str_int x t j u _ _ _ _ h
   ·rw[sG] at h;exact wpAny_eqBool_str h
 «strs»:=fun k x t v h=>by
  rcases aT h with⟨i,u,rfl,e⟩|⟨y,u,rfl,e⟩
  ·exact nomatch e
  ·injection e with e1 _
   subst e1;cases v <;> rfl
inductive V where
 | non|bl (b:Bool)|int (i:Int)|str (x:Str)|byt (b:Array UInt8)|flt (b:UInt64)|ref (a:Addr)|ty (n:String)
 deriving DecidableEq
def aM:V→Value→Prop
 | .non,u=>u=Value.none
 | .bl b,u=>u=Value.bool b
 | .int i,u=>∃t,u=Value.int i t
 | .str x,u=>∃t,u=Value.str x t
 | .byt b,u=>∃t,u=Value.bytes b t
 | .flt b,u=>∃t,u=Value.float b t
 | .ref a,u=>u=Value.ref a
 | .ty n,u=>u=Value.type n
abbrev az:List V→List Value→Prop:=Paired aM
theorem az.length {xs:List V}{us:List Value}(r:az xs us):xs.length=us.length:=Paired.length r
theorem az.get:∀{xs:List V} {us:List Value} {i:Nat} {x:V},az xs us→xs[i]?=some x→∃u,us[i]?=some u∧aM x u
 | _,_,_,_,.nil,e=>by simp at e
 | _,_,0,_,.cons r _,e=>by simp at e;subst e;exact⟨_,rfl,r⟩
 | _,_,i+1,x,.cons _ t,e=>by
  obtain⟨u,h1,h2⟩:=az.get (i:=i) (x:=x) t (by simpa using e);exact⟨u,by simpa using h1,h2⟩
theorem az.set {x:V}{u:Value}(r:aM x u):∀{xs:List V} {us:List Value} (i:Nat),az xs us→az (xs.set i x) (us.set i u)
 | _,_,_,.nil=>.nil
 | _,_,0,.cons _ t=>.cons r t
 | _,_,i+1,.cons q t=>.cons q (az.set r i t)
theorem az.append:∀{xs ys:List V} {us ws:List Value},az xs us→az ys ws→az (xs++ys) (us++ws)
 | _,_,_,_,.nil,s=>s
 | _,_,_,_,.cons r t,s=>.cons r (az.append t s)
def we:Option V→Option Value→Prop
 | some v,some u=>aM v u
 | none,none=>True
 | _,_=>False
def KV {κ:Type}:List (κ×V)→List (κ×Value)→Prop:=Paired fun(p:κ×V) (q:κ×Value)=>p.1=q.1∧aM p.2 q.2
def kV:ix→V
 | .inl i=>.int i
 | .inr x=>.str x
inductive HO where
 | lst (xs:List V)
 | tup (xs:List V)
 | dK (kvs:List (ix×V))|dT (kvs:List (List ix×V))
 | set (S:Int→Bool) (n:Nat)
 | ins (C dx:Addr) (fs:List (Str×V))
 | own (x:Addr)
 | xd (fs:List (Str×V))
 | met (f x:Addr)
 | rng (lo hi:Int)
 | frz (o:Obj) (u:HO)
 | tbl (ps:Array Value)
 | ext (φ:Heap→Prop)
abbrev Hp:=Addr→Option HO
def bu (H:Hp)(a:Addr)(o:HO):Hp:=fun b=>if b=a then some o else H b
theorem aZ {H:Hp}{a:Addr}{o:HO}:bu H a o a=some o:=by unfold bu;rw[if_pos rfl]
theorem aj {H:Hp}{a b:Addr}{o:HO}(h:b≠a):bu H a o b=H b:=by unfold bu;rw[if_neg h]
theorem kK {H:Hp}{a b:Addr}{o u:HO}(h:H a=some o)(h':H b=some u)(d:o≠u):a≠b:=by
 intro e;subst e;rw[h] at h';exact d (Option.some.inj h')
theorem aL {H:Hp}{a b:Addr}{o:HO}(h:H a=some o)(h':H b=none):a≠b:=by
 intro e;subst e;rw[h] at h';cases h'
section
variable (P:Program)(w:World)
def bO (H:Hp)(h:Heap)(a:Addr):HO→Prop
 | .lst xs=>xs.length≤sizeLine∧∃(its:List Value) (n:Nat),az xs its∧h.get? a=some {cls:=.type "list",data:=.seq its.toArray n}
 | .tup xs=>xs.length≤sizeLine∧∃its:List Value,az xs its∧IsTup h a its.toArray
 | .dK kvs=>kvs.length≤sizeLine∧(a==sysModules)=false∧∃vs,KV kvs vs∧h.DictOf (i8 P w) a vs
 | .dT kvs=>kvs.length≤sizeLine∧(a==sysModules)=false∧∃xs:List (List ix×Addr×Value),
   Paired (fun(p:List ix×V) (q:List ix×Addr×Value)=>p.1=q.1∧H q.2.1=some (.tup (p.1.map kV))∧aM p.2 q.2.2) kvs xs∧
   ∃o es ep,h.get? a=some o∧o.ExactDict∧o.data=.dict es ep∧es.toList=xs.map (entryOfKey (tupleKind (i8 P w)))∧(xs.map (·.1)).Nodup
 | .set S n=>h.SetOf (intKind P w) a S n
 | .ins C dx fs=>H dx=some (.own a)∧fs.length≤1000∧dx≠a∧h.get? a=some (W.instObj C dx)∧
   ∃mA,h.Ns1 dx mA∧(∀f,we (fs.lookup f) (mA f))∧PySem.Within mA (fs.map (·.1))
 | .own _=>∃o,h.get? a=some o
 | .xd fs=>∃mA,h.Ns1 a mA∧∀f,we (fs.lookup f) (mA f)
 | .rng lo hi=>∃t u v,h.get? a=some {cls:=.type "range",data:=.fields #[.int lo t,.int hi u,.int 1 v]}
 | .frz o u=>h.get? a=some o∧bO H h a u
 | .tbl ps=>h.get? a=some {cls:=.none,data:=.fields ps}
 | .met f x=>h.get? a=some (W.methodObj (.ref f) (.ref x))
 | .ext φ=>φ h∧(∃o,h.get? a=some o)∧∀h1 h2:Heap,φ h1→(∀o,h1.get? a=some o→h2.get? a=some o)→φ h2
def eV (H:Hp)(h:Heap):Prop:=∀a o,H a=some o→bO P w H h a o
end
section
variable {P:Program}{w:World}{H H':Hp}{h h':Heap}{a:Addr}{o:HO}
theorem bO.lt (x:bO P w H h a o):a<h.objs.size:=by
 cases o with
 | lst xs=>obtain⟨_,_,_,_,e⟩:=x;exact Heap.lt_size e
 | tup xs=>obtain⟨_,_,_,p⟩:=x;exact p.lt
 | dK kvs=>obtain⟨_,_,_,_,o,_,_,e,_⟩:=x;exact Heap.lt_size e
 | dT kvs=>obtain⟨_,_,_,_,o,_,_,e,_⟩:=x;exact Heap.lt_size e
 | set S n=>obtain⟨o,_,_,_,e,_⟩:=x;exact Heap.lt_size e
 | ins C dx fs=>obtain⟨_,_,_,e,_⟩:=x;exact Heap.lt_size e
 | own y=>obtain⟨_,e⟩:=x;exact Heap.lt_size e
 | xd fs=>obtain⟨_,⟨_,_,_,e,_⟩,_⟩:=x;exact Heap.lt_size e
 | rng lo hi=>obtain⟨_,_,_,e⟩:=x;exact Heap.lt_size e
 | frz ob u=>obtain⟨e,_⟩:=x;exact Heap.lt_size e
 | tbl ps=>exact Heap.lt_size (show h.get? a=some _ from x)
 | met f y=>exact Heap.lt_size (show h.get? a=some _ from x)
 | ext φ=>obtain⟨_,⟨_,e⟩,_⟩:=x;exact Heap.lt_size e
theorem Paired.mapP {α β:Type}{F G:α→β→Prop}:∀{l₁:List α} {l₂:List β},Paired F l₁ l₂→(∀a b,F a b→G a b)→Paired G l₁ l₂
 | _,_,.nil,_=>.nil
 | _,_,.cons r t,f=>.cons (f _ _ r) (Paired.mapP t f)
theorem bO.stay (x:bO P w H h a o)(k:∀b u,(b=a∨H b=some (.own a))→h.get? b=some u→h'.get? b=some u)
  (ho:∀b,H b=some (.own a)→H' b=some (.own a)) (ht:∀b xs,H b=some (.tup xs)→H' b=some (.tup xs)):bO P w H' h' a o:=by
 induction o with
 | lst xs=>obtain⟨z,its,n,r,e⟩:=x;exact⟨z,its,n,r,k _ _ (.inl rfl) e⟩
 | tup xs=>obtain⟨z,its,r,ob,e,c⟩:=x;exact⟨z,its,r,ob,k _ _ (.inl rfl) e,c⟩
 | dK kvs=>obtain⟨z,y,vs,r,ob,es,ep,e,c⟩:=x;exact⟨z,y,vs,r,ob,es,ep,k _ _ (.inl rfl) e,c⟩
 | dT kvs=>
  obtain⟨z,y,xs,r,ob,es,ep,e,c⟩:=x;exact⟨z,y,xs,Paired.mapP r fun p q z=>⟨z.1,ht _ _ z.2.1,z.2.2⟩,ob,es,ep,k _ _ (.inl rfl) e,c⟩
 | set S n=>obtain⟨ob,es,ep,t,e,c⟩:=x;exact⟨ob,es,ep,t,k _ _ (.inl rfl) e,c⟩
 | ins C dx fs=>
  obtain⟨d,z,ne,e,mA,⟨od,es,ep,e2,c⟩,r⟩:=x;exact⟨ho _ d,z,ne,k _ _ (.inl rfl) e,mA,⟨od,es,ep,k _ _ (.inr d) e2,c⟩,r⟩
 | own y=>obtain⟨ob,e⟩:=x;exact⟨ob,k _ _ (.inl rfl) e⟩
 | xd fs=>obtain⟨mA,⟨od,es,ep,e,c⟩,r⟩:=x;exact⟨mA,⟨od,es,ep,k _ _ (.inl rfl) e,c⟩,r⟩
 | rng lo hi=>obtain⟨t,u,v,e⟩:=x;exact⟨t,u,v,k _ _ (.inl rfl) e⟩
 | frz ob u ih=>obtain⟨e,q⟩:=x;exact⟨k _ _ (.inl rfl) e,ih q⟩
 | tbl ps=>
  have e:h.get? a=some {cls:=.none,data:=.fields ps}:=x;show h'.get? a=some {cls:=.none,data:=.fields ps};exact k a _ (.inl rfl) e
 | met f y=>
  have e:h.get? a=some (W.methodObj (.ref f) (.ref y)):=x;show h'.get? a=some (W.methodObj (.ref f) (.ref y));exact k a _ (.inl rfl) e
 | ext φ=>obtain⟨p,⟨o,e⟩,st⟩:=x;exact⟨st _ _ p fun o q=>k _ _ (.inl rfl) q,⟨o,k _ _ (.inl rfl) e⟩,st⟩
theorem eV.lt (x:eV P w H h)(e:H a=some o):a<h.objs.size:=(x a o e).lt
theorem eV.fresh (x:eV P w H h)(e:h.objs.size≤a):H a=none:=by
 cases q:H a with
 | none=>rfl
 | some u=>exact absurd (Nat.lt_of_lt_of_le (x.lt q) e) (Nat.lt_irrefl _)
theorem eV.kept (x:eV P w H h)(k:∀b u,h.get? b=some u→h'.get? b=some u):eV P w H h':=fun a o e=>
 (x a o e).stay (fun b u _ q=>k b u q) (fun _ q=>q) fun _ _ q=>q
theorem eV.laid (x:eV P w H h)(k:∀b u,h.get? b=some u→h'.get? b=some u)(hp:h.objs.size≤a)(new:bO P w (bu H a o) h' a o):eV P w (bu H a o) h':=fun b u e=>by
 have hn:=x.fresh hp
 by_cases hb:b=a
 ·subst hb;rw[aZ] at e;cases e;exact new
 ·rw[aj hb] at e;exact(x b u e).stay (fun c v _ q=>k c v q) (fun c q=>by rw[aj (aL q hn)];exact q) fun c xs q=>by rw[aj (aL q hn)];exact q
end
def Rd (H:Hp)(a:Addr)(u:HO):Prop:=H a=some u∨∃o,H a=some (.frz o u)
theorem Rd.ok {P:Program}{w:World}{H:Hp}{h:Heap}{a:Addr}{u:HO}(r:Rd H a u)(x:eV P w H h):bO P w H h a u:=by
 rcases r with r|⟨o,r⟩
 ·exact x a u r
 ·obtain⟨_,q⟩:=x a _ r;exact q
def wB:Option HO→Prop
 | some (.lst _)=>True
 | some (.dK _)=>True
 | some (.dT _)=>True
 | some (.set _ _)=>True
 | some (.ins _ _ _)=>True
 | some (.ext _)=>True
 | _=>False
section
variable {P:Program}{w:World}{H:Hp}{h h':Heap}{x e:Addr}{o':HO}
theorem eV.write (ok:eV P w H h)(mu:wB (H x))(he:e=x∨H e=some (.own x))(k:∀b u,b≠e→h.get? b=some u→h'.get? b=some u)(heo:∃u,h'.get? e=some u)
  (new:bO P w (bu H x o') h' x o'):eV P w (bu H x o') h':=fun b u q=>by
 have nown:∀c y,H c=some (.own y)→c≠x:=fun c y r z=>by subst z;rw[r] at mu;exact mu
 have ntup:∀c xs,H c=some (.tup xs)→c≠x:=fun c xs r z=>by subst z;rw[r] at mu;exact mu
 by_cases hb:b=x
 ·subst hb;rw[aZ] at q;cases q;exact new
 ·rw[aj hb] at q
  by_cases hbe:b=e
  ·have q':H b=some (.own x):=by
    rcases he with z|z
    ·exact absurd (hbe.trans z) hb
    ·rw[hbe];exact z
   rw[q] at q';cases q';obtain⟨v,hv⟩:=heo;exact⟨v,by rw[hbe];exact hv⟩
  ·refine(ok b u q).stay (fun c v hc r=>k c v ?_ r) (fun c r=>by rw[aj (nown c b r)];exact r) fun c xs r=>by rw[aj (ntup c xs r)];exact r
   rcases hc with rfl|hc
   ·exact hbe
   ·rintro rfl;rcases he with z|z
    ·exact nown c b hc z
    ·rw[hc] at z;cases z;exact hb rfl
end
structure Un (fs ex:List Addr)(H H':Hp)(h h':Heap):Prop where
 keep:∀b o,h.get? b=some o→H b=none→b∉fs→b∉ex→h'.get? b=some o
 slot:∀b o,h.get? b=some o→H b=none→b∈fs→b∉ex→∃sl,h'.get? b=some {o with slots:=sl}
 free:∀b o,h.get? b=some o→H b=none→b∉ex→H' b=none
 there:∀b o,h.get? b=some o→b∉ex→∃o',h'.get? b=some o'
 tups:∀b xs,H b=some (.tup xs)→H' b=some (.tup xs)
 frzs:∀b o u,H b=some (.frz o u)→H' b=some (.frz o u)
 tbls:∀b ps,H b=some (.tbl ps)→∃more,H' b=some (.tbl (ps++more))
section
variable {fs fs' ex ex':List Addr}{H H1 H2:Hp}{h h1 h2 h':Heap}{a x e:Addr}{o:HO}
theorem Un.any (u:Un fs ex H H1 h h1){b:Addr}{ob:Obj}(q:h.get? b=some ob)(n:H b=none)(hx:b∉ex):∃sl,h1.get? b=some {ob with slots:=sl}:=by
 by_cases hb:b∈fs
 ·exact u.slot b ob q n hb hx
 ·exact⟨ob.slots,u.keep b ob q n hb hx⟩
theorem Un.kept (k:∀b u,h.get? b=some u→h'.get? b=some u):Un fs ex H H h h':=
 ⟨fun b ob q _ _ _=>k b ob q,fun b ob q _ _ _=>⟨ob.slots,k b ob q⟩,fun _ _ _ n _=>n,fun b ob q _=>⟨ob,k b ob q⟩,fun _ _ q=>q,fun _ _ _ q=>q,fun _ ps q=>⟨#[],by rw[q];simp⟩⟩
theorem Un.refl:Un fs ex H H h h:=Un.kept fun _ _ q=>q
theorem Un.laid (k:∀b u,h.get? b=some u→h'.get? b=some u)(hp:h.objs.size≤a)(hn:H a=none):Un fs ex H (bu H a o) h h' where
 keep:=fun b u q _ _ _=>k b u q
 slot:=fun b u q _ _ _=>⟨u.slots,k b u q⟩
 free:=fun b u q n _=>by rw[aj (Nat.ne_of_lt (Nat.lt_of_lt_of_le (Heap.lt_size q) hp))];exact n
 there:=fun b u q _=>⟨u,k b u q⟩
 tups:=fun b xs q=>by rw[aj (aL q hn)];exact q
 frzs:=fun b u xs q=>by rw[aj (aL q hn)];exact q
 tbls:=fun b ps q=>⟨#[],by rw[aj (aL q hn),q];simp⟩
theorem Un.write (mu:wB (H x))(he:e=x∨H e=some (.own x))(k:∀b u,b≠e→h.get? b=some u→h'.get? b=some u)(heo:∃u,h'.get? e=some u):Un fs ex H (bu H x o) h h':=by
 have hx:∀b,H b=none→b≠x:=fun b n z=>by subst z;rw[n] at mu;exact mu
 have hb:∀b,H b=none→b≠e:=fun b n z=>by
  subst z;rcases he with r|r
  ·exact hx b n r
  ·rw[n] at r;cases r
 have hm:∀b u,H b=some u→¬wB (some u)→b≠x:=fun b u q nm z=>by subst z;rw[q] at mu;exact nm mu
 refine⟨fun b u q n _ _=>k b u (hb b n) q,fun b u q n _ _=>⟨u.slots,k b u (hb b n) q⟩,fun b u q n _=>by rw[aj (hx b n)];exact n,fun b u q _=>?_,
  fun b xs q=>by rw[aj (hm b _ q fun z=>z)];exact q,fun b u xs q=>by rw[aj (hm b _ q fun z=>z)];exact q,fun b ps q=>⟨#[],by rw[aj (hm b _ q fun z=>z),q];simp⟩⟩
 by_cases hbe:b=e
 ·subst hbe;exact heo
 ·exact⟨u,k b u hbe q⟩
end
def trk (h:Heap)(H:Hp):List Addr:=(List.range h.objs.size).filter fun a=>(H a).isSome
def i7 (h:Heap)(H:Hp):Heap:=W.hideAll h (trk h H)
theorem lh (h:Heap)(H:Hp):(i7 h H).objs.size=h.objs.size:=W.hideAll_size _ _
theorem nV {h:Heap}{H:Hp}{b:Addr}{o:Obj}(e:h.get? b=some o)(n:H b=none):(i7 h H).get? b=some o:=
 W.hideAll_get _ e fun hm=>by
  have q:(H b).isSome=true:=(mem_filter.mp hm).2;rw[n] at q;simp at q
theorem pU {h:Heap}{H:Hp}{b:Addr}{o:Obj}(e:(i7 h H).get? b=some o):h.get? b=some o∧H b=none:=by
 have e':h.get? b=some o:=W.of_hideAll (trk h H) e;refine⟨e',?_⟩;cases q:H b with
 | none=>rfl
 | some x=>
  have hm:b∈trk h H:=mem_filter.mpr ⟨mem_range.mpr (Heap.lt_size e'),by simp[q]⟩;have z:(i7 h H).get? b=none:=W.hideAll_none (trk h H) hm;rw[z] at e;cases e
def o7 (g h:Heap)(L:Addr):List (Addr×Obj):=(List.range h.objs.size).filterMap fun a=>if a=L∨(g.get? a).isSome=true then none else(h.get? a).map fun o=>(a,o)
def rest (g h:Heap)(L d:Addr):List (Addr×Obj):=(o7 g h L).filter fun p=>decide (p.1≠d)
structure Mod (K:W.Frag)(mg:Str→Option Value)(base:Heap):Prop where
 kin:K.In base
 glob:base.Ns mainGlobals mg
 blt:∃mb,base.Ns builtinsNs mb∧∀x:Str,x≠"__name__"→mb x=bootBuiltins x
 nolimit:base.NoLimit
structure Cx where
 prog:Program
 w:World
 K:W.Frag
 mg:Str→Option Value
 base:Heap
 A:Around
 N:List Str
 s₀:Shared
 H₀:Hp
 env:Env
 outer:List Env
 stack:List Env
 ex:List Addr
 fn:Str→Bool
 calm:Bool
 pn:List (Addr×Obj)
 xe:Value→Shared→Prop
def gQ (l:List Env):List Addr:=l.filterMap (·.frame)
abbrev Cx.fs (X:Cx):List Addr:=gQ X.outer
def vI (sc:Scope)(x:Str):Prop:=sc.names.lookup x=some .local∨sc.names.lookup x=some .cell∨sc.names.lookup x=some .free
def n8 (sc:Scope)(x:Str):Prop:=sc.names.lookup x=some .local∨sc.names.lookup x=some .cell
def wN (env:Env)(h:Heap)(m:Str→Option Value)(x:Str)(u:Value):Prop:=
 (env.kindOf x=some .local∧m x=some u)∨((env.kindOf x=some .cell∨env.kindOf x=some .free)∧∃c,env.cells.lookup x=some c∧h.IsCell c (some u))
structure Cx.Ok (X:Cx):Prop where
 mod:Mod X.K X.mg X.base
 kind:X.env.scope.kind=.function
 glob:X.env.globals=mainGlobals
 blt:X.env.builtins=builtinsNs
 above:X.s₀.heap.objs.size≤X.env.locals
 inj:∀x y c,X.env.cells.lookup x=some c→X.env.cells.lookup y=some c→x=y
 has:∀x,(X.env.kindOf x=some .cell∨X.env.kindOf x=some .free)→∃c,X.env.cells.lookup x=some c
 cab:∀x c,X.fn x=true→X.env.cells.lookup x=some c→X.s₀.heap.objs.size≤c
 hd:X.calm=true→X.A.handled=none
 frames:X.A.frames=some X.stack
 stk:X.stack=X.outer∨(X.stack=X.env::X.outer∧X.env.frame=some X.env.locals)
 exf:∀b∈X.ex,b≠X.env.locals∧∀x c,X.env.cells.lookup x=some c→c≠b
 bs:∀b o,X.base.get? b=some o→X.s₀.heap.get? b=some o∧X.H₀ b=none
 bsz:X.base.objs.size≤X.s₀.heap.objs.size
 noex:∀b o,X.base.get? b=some o→b∉X.ex
 exfs:∀b∈X.ex,b∉X.fs
 funs:X.s₀.heap.FunFrames X.base X.outer
 frf:∀b∈X.fs,X.H₀ b=none
structure Inv (X:Cx)(ab:List (Addr×Obj))(σ:List (Option V))(H:Hp)(s:Shared):Prop where
 ok:X.Ok
 os:s.os=X.s₀.os
 bare:AllBare s.gens
 base:Un X.fs X.ex X.H₀ H X.s₀.heap s.heap
 loc:∃m,s.heap.Ns X.env.locals m∧∀(i:Nat) (x:Str) (v:V),X.N[i]?=some x→σ[i]?=some (some v)→vI X.env.scope x→∃u,aM v u∧wN X.env s.heap m x u
 cell:∀x c,X.env.cells.lookup x=some c→∃v,s.heap.IsCell c v
 free:H X.env.locals=none
 freeC:∀x c,X.env.cells.lookup x=some c→H c=none
 pin:∀p∈X.pn++ab,s.heap.get? p.1=some p.2∧H p.1=none∧p.1≠X.env.locals∧p.1∉X.fs∧∀v,p.2.data≠.cell v
 hok:eV X.prog X.w H s.heap
 len:σ.length=X.N.length
section
variable {X:Cx}{ab:List (Addr×Obj)}{σ:List (Option V)}{H H':Hp}{s:Shared}{h':Heap}
theorem Cx.Ok.nofr (ok:X.Ok){b:Addr}{o:Obj}(e:X.base.get? b=some o):b∉X.fs:=fun hb=>by
 have:=(ok.funs.mem hb).1;rw[e] at this;cases this
theorem Inv.bs (I:Inv X ab σ H s):∀b o,X.base.get? b=some o→s.heap.get? b=some o∧H b=none:=fun b o e=>
 ⟨I.base.keep b o (I.ok.bs b o e).1 (I.ok.bs b o e).2 (I.ok.nofr e) (I.ok.noex b o e),I.base.free b o (I.ok.bs b o e).1 (I.ok.bs b o e).2 (I.ok.noex b o e)⟩
theorem Inv.bk (I:Inv X ab σ H s):∀b o,X.base.get? b=some o→s.heap.get? b=some o:=fun b o e=>(I.bs b o e).1
theorem Inv.mod (I:Inv X ab σ H s):Mod X.K X.mg X.base:=I.ok.mod
theorem Inv.kIn (I:Inv X ab σ H s):X.K.In s.heap:=I.ok.mod.kin.keeps I.bk
theorem Inv.nolimit (I:Inv X ab σ H s):s.heap.NoLimit:=I.ok.mod.nolimit.keeps I.bk
theorem Inv.lt (I:Inv X ab σ H s):X.env.locals<s.heap.objs.size:=let ⟨_,hn,_⟩:=I.loc;hn.lt
theorem Inv.sz (I:Inv X ab σ H s):X.s₀.heap.objs.size≤s.heap.objs.size:=Nat.le_trans I.ok.above (Nat.le_of_lt I.lt)
theorem Inv.nofs (I:Inv X ab σ H s){a:Addr}(h:s.heap.objs.size≤a):a∉X.fs:=fun hb=>by
 obtain⟨_,o,ho,_⟩:=I.ok.funs.mem hb;exact absurd (Nat.lt_of_lt_of_le (Heap.lt_size ho) (Nat.le_trans I.sz h)) (Nat.lt_irrefl _)
theorem Inv.cne (I:Inv X ab σ H s):∀x c,X.env.cells.lookup x=some c→c≠X.env.locals:=fun x c e z=>by
 obtain⟨v,o,ho,hd⟩:=I.cell x c e;obtain⟨m,⟨o',es,ep,ho',hd',_⟩,_⟩:=I.loc;rw[z,ho'] at ho;cases ho;rw[hd'] at hd;cases hd
theorem Inv.funs (I:Inv X ab σ H s):s.heap.FunFrames X.base X.outer:=by
 have all:∀(l:List Env),(∀b∈gQ l,b∈X.fs)→X.s₀.heap.FunFrames X.base l→s.heap.FunFrames X.base l:=by
  intro l
  induction l with
  | nil=>intro _ _;trivial
  | cons env r ih=>
   intro hs hl;obtain⟨hk,⟨L,o,hf,hn,ho,hd⟩,hr⟩:=hl;have hL:L∈X.fs:=hs L (by unfold gQ;rw[filterMap_cons,hf];exact mem_cons_self);obtain⟨sl,e⟩:=I.base.slot L o ho (I.ok.frf L hL) hL fun z=>I.ok.exfs L z hL
   exact⟨hk,⟨L,_,hf,hn,e,hd⟩,ih (fun b hb=>hs b (by unfold gQ;rw[filterMap_cons,hf];exact mem_cons_of_mem _ hb)) hr⟩
 exact all X.outer (fun _ hb=>hb) I.ok.funs
theorem Inv.stack (I:Inv X ab σ H s):s.heap.FunFrames X.base X.stack:=by
 rcases I.ok.stk with e|⟨e,hf⟩
 ·rw[e];exact I.funs
 ·rw[e];obtain⟨m,hn,_⟩:=I.loc;refine .cons (by rw[I.ok.kind];decide) hf hn ?_ I.funs;exact Heap.get?_none_of_le (Nat.le_trans I.ok.bsz I.ok.above)
theorem Inv.stkSub (I:Inv X ab σ H s):∀b∈gQ X.stack,b∈X.env.locals::X.fs:=fun b hb=>by
 rcases I.ok.stk with e|⟨e,hf⟩
 ·rw[e] at hb;exact mem_cons_of_mem _ hb
 ·rw[e] at hb;unfold gQ at hb;rw[filterMap_cons,hf] at hb;exact hb
theorem Inv.stkFree (I:Inv X ab σ H s):∀b∈gQ X.stack,H b=none:=fun b hb=>by
 rcases mem_cons.mp (I.stkSub b hb) with e|hb
 ·rw[e];exact I.free
 ·obtain⟨_,o,ho,_⟩:=I.ok.funs.mem hb;exact I.base.free b o ho (I.ok.frf b hb) fun z=>I.ok.exfs b z hb
theorem Inv.step {g':Array GenState}{t':Nat}{d':Drawn}{ch:List Addr}(I:Inv X ab σ H s)
  (hch:∀b∈ch,(b∈X.ex∨X.s₀.heap.objs.size≤b)∧b≠X.env.locals∧(∀x c,X.env.cells.lookup x=some c→c≠b)∧∀p∈X.pn++ab,p.1≠b)
  (keep:∀b o,b≠X.env.locals→b∉X.fs→b∉ch→s.heap.get? b=some o→H b=none→h'.get? b=some o)
  (slot:∀b o,b≠X.env.locals→b∈X.fs→b∉ch→s.heap.get? b=some o→H b=none→∃sl,h'.get? b=some {o with slots:=sl}) (free:∀b o,b∉ch→s.heap.get? b=some o→H b=none→H' b=none)
  (there:∀b o,b∉ch→s.heap.get? b=some o→∃o',h'.get? b=some o')
  (tups:∀b xs,H b=some (.tup xs)→H' b=some (.tup xs)) (frzs:∀b o u,H b=some (.frz o u)→H' b=some (.frz o u)) (tbls:∀b ps,H b=some (.tbl ps)→∃more,H' b=some (.tbl (ps++more)))
  (ns:∀m,s.heap.Ns X.env.locals m→h'.Ns X.env.locals m) (hok:eV X.prog X.w H' h') (hg:AllBare g') :
  Inv X ab σ H' {s with heap:=h',gens:=g',drawn:=d',toks:=t'}:=by
 have neL:∀b o,X.s₀.heap.get? b=some o→b≠X.env.locals:=fun b o e=>Nat.ne_of_lt (Nat.lt_of_lt_of_le (Heap.lt_size e) I.ok.above)
 have neC:∀b o,X.s₀.heap.get? b=some o→b∉X.ex→b∉ch:=fun b o e hx hb=>by
  rcases(hch b hb).1 with z|z
  ·exact hx z
  ·exact absurd (Nat.lt_of_lt_of_le (Heap.lt_size e) z) (Nat.lt_irrefl _)
 have cellK:∀x c,X.env.cells.lookup x=some c→∀v,s.heap.IsCell c v→h'.IsCell c v:=fun x c e v hxx=>by
  obtain⟨o,ho,hd⟩:=hxx;have nch:c∉ch:=fun z=>(hch c z).2.2.1 x c e rfl
  by_cases hc:c∈X.fs
  ·obtain⟨sl,q⟩:=slot c o (I.cne x c e) hc nch ho (I.freeC x c e);exact⟨_,q,hd⟩
  ·exact⟨o,keep c o (I.cne x c e) hc nch ho (I.freeC x c e),hd⟩
 refine⟨I.ok,I.os,hg,⟨fun b o e n hb hx=>?_,fun b o e n hb hx=>?_,fun b o e n hx=>?_,fun b o e hx=>?_,fun b xs e=>tups b xs (I.base.tups b xs e),fun b o xs e=>frzs b o xs (I.base.frzs b o xs e),fun b ps e=>?_⟩,?_,fun x c e=>?_,?_,fun x c e=>?_,fun p hp=>?_,hok,I.len⟩
 ·exact keep b o (neL b o e) hb (neC b o e hx) (I.base.keep b o e n hb hx) (I.base.free b o e n hx)
 ·obtain⟨sl,e1⟩:=I.base.slot b o e n hb hx;obtain⟨sl',e2⟩:=slot b _ (neL b o e) hb (neC b o e hx) e1 (I.base.free b o e n hx);exact⟨sl',e2⟩
 ·obtain⟨o',e1⟩:=I.base.there b o e hx;exact free b o' (neC b o e hx) e1 (I.base.free b o e n hx)
 ·obtain⟨o',e1⟩:=I.base.there b o e hx;exact there b o' (neC b o e hx) e1
 ·obtain⟨m1,e1⟩:=I.base.tbls b ps e;obtain⟨m2,e2⟩:=tbls b _ e1;exact⟨m1++m2,by rw[e2,Array.append_assoc]⟩
 ·obtain⟨m,hn,hl⟩:=I.loc;refine⟨m,ns m hn,fun i x v e1 e2 e3=>?_⟩;obtain⟨u,r,l⟩:=hl i x v e1 e2 e3;refine⟨u,r,?_⟩;rcases l with l|⟨k,c,e,z⟩
  ·exact .inl l
  ·exact .inr ⟨k,c,e,cellK x c e _ z⟩
 ·obtain⟨v,z⟩:=I.cell x c e;exact⟨v,cellK x c e v z⟩
 ·obtain⟨m,⟨o,_,_,ho,_⟩,_⟩:=I.loc;exact free _ o (fun z=>(hch _ z).2.1 rfl) ho I.free
 ·obtain⟨v,o,ho,hd⟩:=I.cell x c e;exact free c o (fun z=>(hch c z).2.2.1 x c e rfl) ho (I.freeC x c e)
 ·obtain⟨e,n,ne,nf,d⟩:=I.pin p hp;have nch:p.1∉ch:=fun z=>(hch p.1 z).2.2.2 p hp rfl
  exact⟨keep p.1 p.2 ne nf nch e n,free p.1 p.2 nch e n,ne,nf,d⟩
theorem Inv.un {t':Nat}(I:Inv X ab σ H s)(u:Un X.fs [] H H' s.heap h')(hok:eV X.prog X.w H' h'):Inv X ab σ H' {s with heap:=h',toks:=t'}:=by
 obtain⟨m,⟨o,es,ep,ho,r⟩,_⟩:=id I.loc;obtain⟨sl,hL⟩:=u.any ho I.free (by simp);exact I.step (g':=s.gens) (d':=s.drawn) (ch:=[]) (fun _ z=>nomatch z) (fun b o _ hb _ e n=>u.keep b o e n hb (by simp)) (fun b o _ hb _ e n=>u.slot b o e n hb (by simp)) (fun b o _ e n=>u.free b o e n (by simp)) (fun b o _ e=>u.there b o e (by simp)) u.tups u.frzs u.tbls (fun m' hm=>by
  obtain⟨o',es',ep',ho',r'⟩:=hm;rw[ho] at ho';cases ho';exact⟨_,es',ep',hL,r'⟩) hok I.bare
theorem Inv.call {g':Array GenState}{t':Nat}{d':Drawn}{ch:List Addr}(I:Inv X ab σ H s)(u:Un (gQ X.stack) ch H H' s.heap h')(hok:eV X.prog X.w H' h')(hg:AllBare g')
  (hch:∀b∈ch,(b∈X.ex∨X.s₀.heap.objs.size≤b)∧b≠X.env.locals∧(∀x c,X.env.cells.lookup x=some c→c≠b)∧∀p∈X.pn++ab,p.1≠b) :
  Inv X ab σ H' {s with heap:=h',gens:=g',drawn:=d',toks:=t'}:=by
 obtain⟨m,⟨o,es,ep,ho,r⟩,_⟩:=id I.loc;obtain⟨sl,hL⟩:=u.any ho I.free fun z=>(hch _ z).2.1 rfl
 exact I.step (ch:=ch) hch (fun b o hL hb hc e n=>u.keep b o e n (fun z=>(mem_cons.mp (I.stkSub b z)).elim hL hb) hc) (fun b o _ _ hc e n=>u.any e n hc) (fun b o hc e n=>u.free b o e n hc) (fun b o hc e=>u.there b o e hc) u.tups u.frzs u.tbls (fun m' hm=>by
  obtain⟨o',es',ep',ho',r'⟩:=hm;rw[ho] at ho';cases ho';exact⟨_,es',ep',hL,r'⟩) hok hg
theorem Inv.turned {t':Nat}{it:Addr}(I:Inv X ab σ H s)(k:∀b o,b≠it→s.heap.get? b=some o→h'.get? b=some o)(hn:H it=none)(hL:it≠X.env.locals)
  (h1:it∈X.ex∨X.s₀.heap.objs.size≤it) (h2:∀x c,X.env.cells.lookup x=some c→c≠it) (h3:∀p∈X.pn++ab,p.1≠it):Inv X ab σ H {s with heap:=h',toks:=t'}:=by
 have nit:∀b u,H b=some u→b≠it:=fun b u e z=>by rw[z,hn] at e;cases e
 refine I.step (g':=s.gens) (d':=s.drawn) (ch:=[it]) (fun b hb=>?_) (fun b o _ _ hc e _=>k b o (fun z=>hc (by simp[z])) e) (fun b o _ _ hc e _=>⟨o.slots,k b o (fun z=>hc (by simp[z])) e⟩) (fun _ _ _ _ n=>n)
  (fun b o hc e=>⟨o,k b o (fun z=>hc (by simp[z])) e⟩) (fun _ _ e=>e) (fun _ _ _ e=>e) (fun b ps e=>⟨#[],by rw[e];simp⟩) (fun m hm=>?_) (fun b u e=>?_) I.bare
 ·have e:b=it:=by simpa using hb
  subst e;exact⟨h1,hL,h2,h3⟩
 ·obtain⟨o,es,ep,ho,r⟩:=hm;exact⟨o,es,ep,k _ o (Ne.symm hL) ho,r⟩
 ·refine(I.hok b u e).stay (fun c v hc q=>k c v ?_ q) (fun _ q=>q) fun _ _ q=>q
  rcases hc with z|z
  ·rw[z];exact nit b u e
  ·exact nit c _ z
theorem Inv.tok (I:Inv X ab σ H s)(t:Nat):Inv X ab σ H {s with toks:=t}:=I.un (h':=s.heap) (t':=t) Un.refl I.hok
theorem Inv.kept {t':Nat}(I:Inv X ab σ H s)(k:∀b u,s.heap.get? b=some u→h'.get? b=some u):Inv X ab σ H {s with heap:=h',toks:=t'}:=I.un (Un.kept k) (I.hok.kept k)
theorem Inv.laid {a:Addr}{o:HO}{t':Nat}(I:Inv X ab σ H s)(k:∀b u,s.heap.get? b=some u→h'.get? b=some u)(hp:s.heap.objs.size≤a)(new:bO X.prog X.w (bu H a o) h' a o) :
  Inv X ab σ (bu H a o) {s with heap:=h',toks:=t'}:=I.un (Un.laid k hp (I.hok.fresh hp)) (I.hok.laid k hp new)
theorem Inv.write {x e:Addr}{o:HO}{t':Nat}(I:Inv X ab σ H s)(mu:wB (H x))(he:e=x∨H e=some (.own x))(k:∀b u,b≠e→s.heap.get? b=some u→h'.get? b=some u)(heo:∃u,h'.get? e=some u)
  (new:bO X.prog X.w (bu H x o) h' x o):Inv X ab σ (bu H x o) {s with heap:=h',toks:=t'}:=I.un (Un.write mu he k heo) (I.hok.write mu he k heo new)
theorem Inv.pins_of {pins':List (Addr×Obj)}(I:Inv X ab σ H s)(h:∀p∈pins',s.heap.get? p.1=some p.2∧H p.1=none∧p.1≠X.env.locals∧p.1∉X.fs∧∀v,p.2.data≠.cell v):Inv X pins' σ H s:=
 ⟨I.ok,I.os,I.bare,I.base,I.loc,I.cell,I.free,I.freeC,fun p hp=>(mem_append.mp hp).elim (fun z=>I.pin p (mem_append_left _ z)) (h p),I.hok,I.len⟩
theorem jv {N:List Str}(hN:N.Nodup){i j:Nat}{x:Str}(a:N[i]?=some x)(b:N[j]?=some x):i=j:=by
 obtain⟨h1,e1⟩:=List.getElem?_eq_some_iff.mp a;obtain⟨h2,e2⟩:=List.getElem?_eq_some_iff.mp b;exact(getElem_inj hN).mp (e1.trans e2.symm)
theorem iz {M:Model}{A:Around}{E:Value→Shared→Prop}{i:Nat}{x:Str}{v:V}{u:Value}{Q:Unit→Shared→Prop}(I:Inv X ab σ H s)(hN:X.N.Nodup)(hi:X.N[i]?=some x)(hx:n8 X.env.scope x)(r:aM v u)
  (h:∀s',Inv X ab (σ.set i (some v)) H s'→(∃a,Heap.SameBut a s.heap s'.heap∧(a=X.env.locals∨X.env.cells.lookup x=some a))→Q () s') (hf:X.fn x=true∨X.env.scope.names.lookup x=some .local:=by first|exact .inl rfl|exact .inr rfl|assumption):wpAny M A (storeName X.env x u) Q E s:=by
 obtain⟨m,hn,hl⟩:=id I.loc;have hcls:(X.env.scope.kind==.class||(X.env.scope.kind==.module&&X.env.locals != X.env.globals))=false:=by rw[I.ok.kind];rfl
 have hiσ:i<σ.length:=by rw[I.len];exact(List.getElem?_eq_some_iff.mp hi).1
 have cne:=I.cne;have tracked:∀{a:Addr} {h':Heap},(∃o,s.heap.get? a=some o∧H a=none)→Heap.SameBut a s.heap h'→eV X.prog X.w H h':=fun {a h'} ha hs b ob e=>by
  obtain⟨_,_,hfree⟩:=ha;refine(I.hok b ob e).stay (fun c w' hc q=>(hs.2 c ?_).trans q) (fun _ q=>q) fun _ _ q=>q
  rintro rfl;rcases hc with rfl|hc
  ·rw[hfree] at e;cases e
  ·rw[hfree] at hc;cases hc
 rcases hx with hk|hk
 ·refine wpAny_storeName_local hk hn (fun h' hn' hs=>?_) hcls;obtain⟨oL,_,_,hoL,_⟩:=id hn;refine h _ ⟨I.ok,I.os,I.bare,⟨fun b o e n hb hx=>?_,fun b o e n hb hx=>?_,I.base.free,fun b o e hx=>?_,I.base.tups,I.base.frzs,I.base.tbls⟩,⟨_,hn',fun j y v' e1 e2 e3=>?_⟩,fun y c e=>?_,I.free,I.freeC,fun p hp=>?_,tracked ⟨oL,hoL,I.free⟩ hs,by simpa using I.len⟩ ⟨_,hs,.inl rfl⟩
  ·exact(hs.2 b (Nat.ne_of_lt (Nat.lt_of_lt_of_le (Heap.lt_size e) I.ok.above))).trans (I.base.keep b o e n hb hx)
  ·obtain⟨sl,e1⟩:=I.base.slot b o e n hb hx;exact⟨sl,(hs.2 b (Nat.ne_of_lt (Nat.lt_of_lt_of_le (Heap.lt_size e) I.ok.above))).trans e1⟩
  ·obtain⟨o',e1⟩:=I.base.there b o e hx;exact⟨o',(hs.2 b (Nat.ne_of_lt (Nat.lt_of_lt_of_le (Heap.lt_size e) I.ok.above))).trans e1⟩
  ·by_cases hj:j=i
   ·subst hj;rw[hi] at e1;cases e1;rw[getElem?_set_self hiσ] at e2;cases e2;exact⟨u,r,.inl ⟨hk,by simp⟩⟩
   ·rw[getElem?_set_ne (Ne.symm hj)] at e2;obtain⟨u',r',q⟩:=hl j y v' e1 e2 e3;refine⟨u',r',?_⟩;rcases q with⟨k,e⟩|⟨k,c,e,z⟩
    ·refine .inl ⟨k,?_⟩;have:y≠x:=fun e=>hj (jv hN e1 (e▸hi))
     simp[this,e]
    ·exact .inr ⟨k,c,e,z.sameBut hs (cne y c e)⟩
  ·obtain⟨w',z⟩:=I.cell y c e;exact⟨w',z.sameBut hs (cne y c e)⟩
  ·obtain⟨e,n,ne,nf,d⟩:=I.pin p hp;exact⟨(hs.2 p.1 ne).trans e,n,ne,nf,d⟩
 ·have hfn:X.fn x=true:=by
   rcases hf with z|z
   ·exact z
   ·rw[z] at hk;cases hk
  obtain⟨c,hc⟩:=I.ok.has x (.inl hk);obtain⟨w',z⟩:=I.cell x c hc;refine wpAny_storeName_cell I.ok.kind hk hc z (fun h' hc' hs=>?_);obtain⟨oc,hoc,hocd⟩:=id z;refine h {s with heap:=h'} ⟨I.ok,I.os,I.bare,⟨fun b o e n hb hx=>?_,fun b o e n hb hx=>?_,I.base.free,fun b o e hx=>?_,I.base.tups,I.base.frzs,I.base.tbls⟩,⟨m,hn.sameBut hs (Ne.symm (cne x c hc)),fun j y v' e1 e2 e3=>?_⟩,fun y c' e=>?_,I.free,I.freeC,fun p hp=>?_,tracked ⟨oc,hoc,I.freeC x c hc⟩ hs,by simpa using I.len⟩ ⟨c,hs,.inr hc⟩
  ·exact(hs.2 b (Nat.ne_of_lt (Nat.lt_of_lt_of_le (Heap.lt_size e) (I.ok.cab x c hfn hc)))).trans (I.base.keep b o e n hb hx)
  ·obtain⟨sl,e1⟩:=I.base.slot b o e n hb hx;exact⟨sl,(hs.2 b (Nat.ne_of_lt (Nat.lt_of_lt_of_le (Heap.lt_size e) (I.ok.cab x c hfn hc)))).trans e1⟩
  ·obtain⟨o',e1⟩:=I.base.there b o e hx;exact⟨o',(hs.2 b (Nat.ne_of_lt (Nat.lt_of_lt_of_le (Heap.lt_size e) (I.ok.cab x c hfn hc)))).trans e1⟩
  ·by_cases hj:j=i
   ·subst hj;rw[hi] at e1;cases e1;rw[getElem?_set_self hiσ] at e2;cases e2;exact⟨u,r,.inr ⟨.inl hk,c,hc,hc'⟩⟩
   ·rw[getElem?_set_ne (Ne.symm hj)] at e2;obtain⟨u',r',q⟩:=hl j y v' e1 e2 e3;refine⟨u',r',?_⟩;rcases q with q|⟨k,c',e,z'⟩
    ·exact .inl q
    ·refine .inr ⟨k,c',e,z'.sameBut hs ?_⟩;rintro rfl;exact hj (jv hN e1 (I.ok.inj _ _ _ e hc▸hi))
  ·by_cases hcc:c'=c
   ·subst hcc;exact⟨_,hc'⟩
   ·obtain⟨w2,z2⟩:=I.cell y c' e;exact⟨w2,z2.sameBut hs hcc⟩
  ·obtain⟨e,n,ne,nf,d⟩:=I.pin p hp;refine⟨(hs.2 p.1 ?_).trans e,n,ne,nf,d⟩;intro q;rw[q,hoc] at e;have q':oc=p.2:=Option.some.inj e;exact d w' (by rw[←q'];exact hocd)
theorem jx {M:Model}{A:Around}{E:Value→Shared→Prop}{i:Nat}{x:Str}{v:V}{u:Value}{Q:Unit→Shared→Prop}(I:Inv X ab σ H s)(hN:X.N.Nodup)(hi:X.N[i]?=some x)(hx:n8 X.env.scope x)(r:aM v u)
  (h:∀s',Inv X ab (σ.set i (some v)) H s'→Q () s') (hf:X.fn x=true∨X.env.scope.names.lookup x=some .local:=by first|exact .inl rfl|exact .inr rfl|assumption):wpAny M A (storeName X.env x u) Q E s:=
 iz I hN hi hx r (fun s' I' _=>h s' I') hf
theorem Inv.call' {s':Shared}{ch:List Addr}(I:Inv X ab σ H s)(ho:s'.os=s.os)(u:Un (gQ X.stack) ch H H' s.heap s'.heap)(hok:eV X.prog X.w H' s'.heap)(hg:AllBare s'.gens)
  (hch:∀b∈ch,(b∈X.ex∨X.s₀.heap.objs.size≤b)∧b≠X.env.locals∧(∀x c,X.env.cells.lookup x=some c→c≠b)∧∀p∈X.pn++ab,p.1≠b):Inv X ab σ H' s':=by
 obtain⟨h',g',d',t',o'⟩:=s';have e:o'=s.os:=ho;subst e;exact I.call (g':=g') (t':=t') (d':=d') u hok hg hch
end
abbrev XK:=Value→Option Addr→Hp→Prop
abbrev St:=List (Option V)
abbrev VK:=V→Hp→Prop
abbrev TE:=St→Hp→VK→Prop
abbrev TT:=St→Hp→(Bool→Hp→Prop)→Prop
abbrev TA:=St→Hp→(List V→Hp→Prop)→Prop
structure lp where
 nx:St→Hp→Prop
 rt:VK
 bk:St→Hp→Prop:=fun _ _=>False
 ct:St→Hp→Prop:=fun _ _=>False
abbrev TS:=lp→St→Hp→Prop
def EP (X:Cx)(ab:List (Addr×Obj))(σ:St)(Q:VK)(u:Value)(s':Shared):Prop:=∃v H',Inv X ab σ H' s'∧aM v u∧Q v H'
def TP (X:Cx)(ab:List (Addr×Obj))(σ:St)(Q:Bool→Hp→Prop)(b:Bool)(s':Shared):Prop:=∃H',Inv X ab σ H' s'∧Q b H'
def AP (X:Cx)(ab:List (Addr×Obj))(σ:St)(Q:List V→Hp→Prop)(us:List Value)(s':Shared):Prop:=∃vs H',Inv X ab σ H' s'∧az vs us∧Q vs H'
def SP (X:Cx)(ab:List (Addr×Obj))(D:lp)(f:Flow)(s':Shared):Prop:=
 match f with
 | .next=>∃σ' H',Inv X ab σ' H' s'∧D.nx σ' H'
 | .brk=>∃σ' H',Inv X ab σ' H' s'∧D.bk σ' H'
 | .cont=>∃σ' H',Inv X ab σ' H' s'∧D.ct σ' H'
 | .ret u=>∃v σ' H',Inv X ab σ' H' s'∧aM v u∧D.rt v H'
def PE (X:Cx)(e:Expr)(t:TE):Prop:=
 ∀(ab:List (Addr×Obj)) (s:Shared) (σ:St) (H:Hp) (Q:VK),Inv X ab σ H s→t σ H Q→wpAny (model X.prog X.w) X.A (eval e X.env) (EP X ab σ Q) X.xe s
def PT (X:Cx)(e:Expr)(t:TT):Prop:=
 ∀(ab:List (Addr×Obj)) (s:Shared) (σ:St) (H:Hp) (Q:Bool→Hp→Prop),Inv X ab σ H s→t σ H Q→wpAny (model X.prog X.w) X.A (isTrue e X.env (eval e X.env)) (TP X ab σ Q) X.xe s
def PW (X:Cx)(e:Expr)(t:TT):Prop:=
 ∀(whole:Sem Value) (ab:List (Addr×Obj)) (s:Shared) (σ:St) (H:Hp) (Q:Bool→Hp→Prop),Inv X ab σ H s→t σ H Q→wpAny (model X.prog X.w) X.A (isTrue e X.env whole) (TP X ab σ Q) X.xe s
theorem PW.pt {X:Cx}{e:Expr}{t:TT}(h:PW X e t):PT X e t:=h _
def PA (X:Cx)(es:List Expr)(t:TA):Prop:=
 ∀(pos:Pos) (ab:List (Addr×Obj)) (s:Shared) (σ:St) (H:Hp) (Q:List V→Hp→Prop),Inv X ab σ H s→t σ H Q→wpAny (model X.prog X.w) X.A (spliced (backTo pos (starEach es X.env))) (AP X ab σ Q) X.xe s
def PS (X:Cx)(st:Stmt)(t:TS):Prop:=
 ∀(ab:List (Addr×Obj)) (s:Shared) (σ:St) (H:Hp) (D:lp),Inv X ab σ H s→t D σ H→wpAny (model X.prog X.w) X.A (exec st X.env) (SP X ab D) X.xe s
def PSs (X:Cx)(st:List Stmt)(t:TS):Prop:=
 ∀(ab:List (Addr×Obj)) (s:Shared) (σ:St) (H:Hp) (D:lp),Inv X ab σ H s→t D σ H→wpAny (model X.prog X.w) X.A (execs st X.env) (SP X ab D) X.xe s
theorem bL {α:Type}{t:Sem α}{Q Q':α→Shared→Prop}{M:Model}{A:Around}{E:Value→Shared→Prop}{s:Shared}(h:wpAny M A t Q E s)(hQ:∀a s,Q a s→Q' a s):wpAny M A t Q' E s:=wpAny_mono h hQ fun _ _ x=>x
section
variable {X:Cx}
def va (i:Nat):TE:=fun σ H Q=>∃v,σ[i]?=some (some v)∧Q v H
def tC (v:V):TE:=fun _ H Q=>Q v H
theorem sP {i:Nat}{x:Str}{pos:Pos}(hN:X.N[i]?=some x)(hv:vI X.env.scope x)(hd:(x==("__debug__":Str))=false:=by decide)(hcd:(x==("__classdict__":Str))=false:=by decide):PE X (.Name x pos) (va i):=by
 intro ab s σ H Q I h;obtain⟨v,e,h⟩:=h;obtain⟨m,hn,hl⟩:=I.loc;obtain⟨u,r,l⟩:=hl i x v hN e hv;have fin:EP X ab σ Q u s:=⟨v,H,I,r,h⟩;rcases l with⟨hk,hm⟩|⟨hk,c,hc,hcell⟩
 ·exact wpAny_Name (wpAny_loadName_local I.ok.kind hk hn hm fin) hd
 ·rcases hk with hk|hk
  ·exact wpAny_Name (wpAny_loadName_cell I.ok.kind hk hc hcell fin) hd
  ·exact wpAny_Name (wpAny_loadName_free I.ok.kind hk hc hcell fin hcd) hd
theorem sI {i j pos}:PE X (.Constant (.int i) j pos) (tC (.int i)):=fun _ _ _ H _ I h=>wpAny_Constant_int ⟨.int i,H,I.tok _,⟨_,rfl⟩,h⟩
theorem vk {b j pos}:PE X (.Constant (.bool b) j pos) (tC (.bl b)):=fun _ _ _ H _ I h=>Constant_bool ⟨.bl b,H,I,rfl,h⟩
theorem sF {j pos}:PE X (.Constant .none j pos) (tC .non):=fun _ _ _ H _ I h=>Constant_none ⟨.non,H,I,rfl,h⟩
theorem qD {x j pos}:PE X (.Constant (.str x) j pos) (tC (.str x)):=fun _ _ _ H _ I h=>Calls.Constant_str ⟨.str x,H,I.tok _,⟨_,rfl⟩,h⟩
def Gl (X:Cx)(x:Str):Prop:=X.env.kindOf x=some .globalImplicit
theorem pv {E:Value→Shared→Prop}{ab:List (Addr×Obj)}{s:Shared}{σ:St}{H:Hp}{x:Str}{u:Value}{pos:Pos}{Q:Value→Shared→Prop}(I:Inv X ab σ H s)(hg:Gl X x)(hm:X.mg x=some u)(h:Q u s)
  (hd:(x==("__debug__":Str))=false:=by decide):wpAny (model X.prog X.w) X.A (eval (.Name x pos) X.env) Q E s:=
 Calls.Name_function_global I.ok.kind hg (Calls.loadGlobal_global (by rw[I.ok.glob];exact I.mod.glob.keeps I.bk) hm h) hd
theorem dY {E:Value→Shared→Prop}{ab:List (Addr×Obj)}{s:Shared}{σ:St}{H:Hp}{x:Str}{u:Value}{pos:Pos}{Q:Value→Shared→Prop}(I:Inv X ab σ H s)(hg:Gl X x)(hm:X.mg x=none)(hv:bootBuiltins x=some u)(h:Q u s)
  (hn:x≠"__name__":=by decide) (hd:(x==("__debug__":Str))=false:=by decide):wpAny (model X.prog X.w) X.A (eval (.Name x pos) X.env) Q E s:=by
 obtain⟨mb,h1,h2⟩:=I.mod.blt;exact Calls.Name_function_global I.ok.kind hg (Calls.loadGlobal_builtin (by rw[I.ok.glob];exact I.mod.glob.keeps I.bk) hm (by rw[I.ok.blt];exact h1.keeps I.bk) ((h2 x hn).trans hv) h) hd
theorem pr {x:Str}{v:V}{u:Value}{pos:Pos}(hg:Gl X x)(hm:X.mg x=none)(hv:bootBuiltins x=some u)(r:aM v u)(hn:x≠"__name__":=by decide)(hd:(x==("__debug__":Str))=false:=by decide):PE X (.Name x pos) (tC v):=
 fun _ _ _ H _ I h=>dY I hg hm hv ⟨v,H,I,r,h⟩ hn hd
variable {a b:Expr}{ta tb:TE}{pos:Pos}
variable {tA tB':TT}{rest:List Expr}
def wO (t u:TT):TT:=fun σ H Q=>t σ H fun c H1=>if c=true then u σ H1 Q else Q false H1
def yg (t u:TT):TT:=fun σ H Q=>t σ H fun c H1=>if c=true then Q true H1 else u σ H1 Q
def xm (t:TT):TT:=fun σ H Q=>t σ H fun c H1=>Q (!c) H1
theorem oM (ha:PT X a tA):PW X (.BoolOp .And [a] pos) tA:=by
 intro wh ab s σ H Q I h;refine isTrue_and (bL (ha ab s σ H Q I h) fun c s1 e=>?_);cases c with
 | true=>exact isTrue_and_nil e
 | false=>exact e
theorem tJ (ha:PT X a tA):PW X (.BoolOp .Or [a] pos) tA:=by
 intro wh ab s σ H Q I h;refine isTrue_or (bL (ha ab s σ H Q I h) fun c s1 e=>?_);cases c with
 | false=>exact isTrue_or_nil e
 | true=>exact e
theorem tu (ha:PT X a tA)(hb:PW X (.BoolOp .And (b::rest) pos) tB'):PW X (.BoolOp .And (a::b::rest) pos) (wO tA tB'):=by
 intro wh ab s σ H Q I h;refine isTrue_and (bL (ha ab s σ H _ I h) fun c s1 hxx=>?_);obtain⟨H1,I1,q1⟩:=hxx;cases c with
 | true=>exact hb wh ab s1 σ H1 Q I1 q1
 | false=>exact⟨H1,I1,q1⟩
theorem vw (ha:PT X a tA)(hb:PW X (.BoolOp .Or (b::rest) pos) tB'):PW X (.BoolOp .Or (a::b::rest) pos) (yg tA tB'):=by
 intro wh ab s σ H Q I h;refine isTrue_or (bL (ha ab s σ H _ I h) fun c s1 hxx=>?_);obtain⟨H1,I1,q1⟩:=hxx;cases c with
 | true=>exact⟨H1,I1,q1⟩
 | false=>exact hb wh ab s1 σ H1 Q I1 q1
theorem t9 (ha:PT X a tA):PT X (.UnaryOp .Not a pos) (xm tA):=by
 intro ab s σ H Q I h;exact isTrue_not (ha ab s σ H (fun c H1=>Q (!c) H1) I h)
def xH (ta tb:TE):TE:=fun σ H Q=>ta σ H fun x H1=>∃c,x=.bl c∧if c=true then Q (.bl true) H1 else tb σ H1 Q
theorem su {op}{t:TE}(h:PE X a t):PE X (.BoolOp op [a] pos) t:=fun ab s σ H Q I hw=>BoolOp_one (h ab s σ H Q I hw)
theorem vD (ha:PE X a ta)(hb:PE X (.BoolOp .Or (b::rest) pos) tb):PE X (.BoolOp .Or (a::b::rest) pos) (xH ta tb):=by
 intro ab s σ H Q I h;refine BoolOp_or (bL (ha ab s σ H _ I h) fun v s1 hxx=>?_);obtain⟨x,H1,I1,r1,q1⟩:=hxx;obtain⟨c,rfl,q1⟩:=q1;cases r1;refine wpAny_truthy_bool ?_;cases c with
 | false=>exact hb ab s1 σ H1 Q I1 q1
 | true=>exact⟨.bl true,H1,I1,rfl,q1⟩
end
def fA (K:W.Frag)(H:Hp)(a:Addr)(xs:List V):Prop:=
 Rd H a (.lst xs)∨
  ∃(o:Obj) (its:Array Value) (n:Nat),K.lookup a=some o∧o.cls=.type "list"∧o.dict=none∧o.data=.seq its n∧its.size≤sizeLine∧az xs its.toList
def gZ (K:W.Frag)(H:Hp)(a:Addr)(xs:List V):Prop:=
 Rd H a (.tup xs)∨
  ∃(o:Obj) (its:Array Value) (n:Nat),K.lookup a=some o∧o.cls=.type "tuple"∧o.data=.seq its n∧its.size≤sizeLine∧az xs its.toList
def xZ:Value→Option V
 | .none=>some .non
 | .bool b=>some (.bl b)
 | .int i _=>some (.int i)
 | .str x _=>some (.str x)
 | .bytes b _=>some (.byt b)
 | .float b _=>some (.flt b)
 | .ref a=>some (.ref a)
 | .type n=>some (.ty n)
 | _=>none
theorem aM.abs {x:V}{u:Value}(r:aM x u):xZ u=some x:=by
 cases x with
 | non=>cases r;rfl
 | bl _=>cases r;rfl
 | int _=>obtain⟨t,rfl⟩:=r;rfl
 | str _=>obtain⟨t,rfl⟩:=r;rfl
 | byt _=>obtain⟨t,rfl⟩:=r;rfl
 | flt _=>obtain⟨t,rfl⟩:=r;rfl
 | ref _=>cases r;rfl
 | ty _=>cases r;rfl
theorem aM.inj {x y:V}{u:Value}(r:aM x u)(q:aM y u):x=y:=Option.some.inj (r.abs.symm.trans q.abs)
theorem az.inj:∀{xs ys:List V} {us:List Value},az xs us→az ys us→xs=ys
 | _,_,_,.nil,.nil=>rfl
 | _,_,_,.cons r t,.cons r' t'=>by rw[r.inj r',az.inj t t']
section
variable {X:Cx}{ab:List (Addr×Obj)}{σ:St}{H:Hp}{s:Shared}{a:Addr}{xs ys:List V}
theorem Inv.list (I:Inv X ab σ H s)(h:fA X.K H a xs):∃its:List Value,az xs its∧PlainL s.heap a its.toArray∧xs.length≤sizeLine:=by
 rcases h with h|⟨o,its,n,hk,hc,hd,hs,hz,r⟩
 ·obtain⟨z,its,n,r,e⟩:=h.ok I.hok;exact⟨its,r,⟨_,n,e,rfl,rfl,rfl⟩,z⟩
 ·refine⟨its.toList,r,⟨o,n,I.kIn a o hk,hc,hd,by simpa using hs⟩,?_⟩;have e:=r.length;simp only[Array.length_toList] at e;omega
theorem Inv.tuple (I:Inv X ab σ H s)(h:gZ X.K H a xs):∃its:List Value,az xs its∧IsTup s.heap a its.toArray∧xs.length≤sizeLine:=by
 rcases h with h|⟨o,its,n,hk,hc,hs,hz,r⟩
 ·obtain⟨z,its,r,p⟩:=h.ok I.hok;exact⟨its,r,p,z⟩
 ·refine⟨its.toList,r,⟨o,I.kIn a o hk,hc,n,by simpa using hs⟩,?_⟩;have e:=r.length;simp only[Array.length_toList] at e;omega
theorem Inv.list_inj (I:Inv X ab σ H s)(h:fA X.K H a xs)(h':fA X.K H a ys):xs=ys:=by
 obtain⟨its,r,⟨o,n,e,_,_,d⟩,_⟩:=I.list h;obtain⟨its',r',⟨o',n',e',_,_,d'⟩,_⟩:=I.list h';rw[e] at e';cases e';rw[d] at d';injection d' with d1 _
 have:its=its':=by simpa using congrArg Array.toList d1
 subst this;exact r.inj r'
theorem Inv.tuple_inj (I:Inv X ab σ H s)(h:gZ X.K H a xs)(h':gZ X.K H a ys):xs=ys:=by
 obtain⟨its,r,⟨o,e,_,n,d⟩,_⟩:=I.tuple h;obtain⟨its',r',⟨o',e',_,n',d'⟩,_⟩:=I.tuple h';rw[e] at e';cases e';rw[d] at d';injection d' with d1 _
 have:its=its':=by simpa using congrArg Array.toList d1
 subst this;exact r.inj r'
end
section
variable {X:Cx}{st:Stmt}{rest:List Stmt}{t u:TS}{e:Expr}{te:TE}{pos:Pos}
def vF:TS:=fun D σ H=>D.nx σ H
def xY (t u:TS):TS:=fun D σ H=>t {D with nx:=u D} σ H
theorem pF:PSs X [] vF:=fun _ _ σ H _ I h=>wpAny_execs_nil ⟨σ,H,I,h⟩
theorem mz (h1:PS X st t)(h2:PSs X rest u):PSs X (st::rest) (xY t u):=by
 intro ab s σ H D I h;refine wpAny_execs_cons (bL (h1 ab s σ H {D with nx:=u D} I h) fun f s1 q=>?_);cases f with
 | next=>
  obtain⟨σ',H',I',q⟩:=q;exact h2 ab s1 σ' H' D I' q
 | ret v=>exact q
 | brk=>exact q
 | cont=>exact q
theorem pw (h1:PS X st t):PSs X [st] t:=by
 intro ab s σ H D I h;refine wpAny_execs_cons (bL (h1 ab s σ H D I h) fun f s1 q=>?_);cases f with
 | next=>exact wpAny_execs_nil q
 | ret v=>exact q
 | brk=>exact q
 | cont=>exact q
theorem Inv.quiet {ab:List (Addr×Obj)}{σ:St}{H:Hp}{s:Shared}(I:Inv X ab σ H s):interactive X.env=false:=by simp[interactive,I.ok.kind]
def uY (te:TE):TS:=fun D σ H=>te σ H fun _ H1=>D.nx σ H1
theorem oE (he:PE X e te)(hs:swapsWith e none pos.line X.env=pure false:=by rfl):PS X (.Expr e pos) (uY te):=by
 intro ab s σ H D I h;exact wpAny_Expr_any (bL (he ab s σ H _ I h) fun v s1 ⟨x,H1,I1,r1,q1⟩=>⟨σ,H1,I1,q1⟩) I.quiet hs
def wR (te:TE):TS:=fun D σ H=>te σ H D.rt
theorem qL (he:PE X e te):PS X (.Return (some e) pos) (wR te):=by
 intro ab s σ H D I h;exact wpAny_Return_some (bL (he ab s σ H _ I h) fun v s1 ⟨x,H1,I1,r1,q1⟩=>⟨x,σ,H1,I1,r1,q1⟩)
def xC (c:TT)(t u:TS):TS:=fun D σ H=>c σ H fun b H1=>if b=true then t D σ H1 else u D σ H1
theorem vB {c:Expr}{a b:List Stmt}{tc:TT}(hc:PT X c tc)(ha:PSs X a t)(hb:PSs X b u):PS X (.If c a b pos) (xC tc t u):=by
 intro ab s σ H D I h;refine wpAny_If (bL (hc ab s σ H _ I h) fun d s1 hxx=>?_);obtain⟨H1,I1,q1⟩:=hxx;cases d with
 | true=>exact ha ab s1 σ H1 D I1 q1
 | false=>exact hb ab s1 σ H1 D I1 q1
end
abbrev TG:=V→St→Hp→(St→Hp→Prop)→Prop
abbrev qq:=List V→St→Hp→(St→Hp→Prop)→Prop
def PG (X:Cx)(target:Expr)(t:TG):Prop:=
 ∀(ab:List (Addr×Obj)) (s:Shared) (σ:St) (H:Hp) (v:V) (u:Value) (Q:St→Hp→Prop),Inv X ab σ H s→aM v u→t v σ H Q→
  wpAny (model X.prog X.w) X.A (assign target X.env u) (fun _ s'=>∃σ' H',Inv X ab σ' H' s'∧Q σ' H') X.xe s
def pJ (X:Cx)(ts:List Expr)(t:qq):Prop:=
 ∀(ab:List (Addr×Obj)) (s:Shared) (σ:St) (H:Hp) (vs:List V) (us:List Value) (Q:St→Hp→Prop),Inv X ab σ H s→az vs us→t vs σ H Q→
  wpAny (model X.prog X.w) X.A (assignInOrder ((assignEach ts X.env).map (·.2)) us) (fun _ s'=>∃σ' H',Inv X ab σ' H' s'∧Q σ' H') X.xe s
abbrev sZ:=V→V→V→Hp→(Hp→Prop)→Prop
def v4 (X:Cx)(t:sZ):Prop:=
 ∀(ab:List (Addr×Obj)) (s:Shared) (σ:St) (H:Hp) (o i v:V) (ov iv u:Value) (Q:Hp→Prop),Inv X ab σ H s→aM o ov→aM i iv→aM v u→t o i v H Q→
  wpAny (model X.prog X.w) X.A (setItem ov iv u) (fun _ s'=>∃H',Inv X ab σ H' s'∧Q H') X.xe s
section
variable {X:Cx}{pos:Pos}
def qg (i:Nat):TG:=fun v σ H Q=>Q (σ.set i (some v)) H
theorem pS {i:Nat}{x:Str}(hN:X.N.Nodup)(hi:X.N[i]?=some x)(hx:n8 X.env.scope x)(hf:X.fn x=true∨X.env.scope.names.lookup x=some .local:=by first|exact .inl rfl|exact .inr rfl|assumption):PG X (.Name x pos) (qg i):=by
 intro ab s σ H v u Q I r h;exact wpAny_assign_Name (jx I hN hi hx r (fun s' I'=>⟨_,H,I',h⟩) hf)
def xq:qq:=fun vs σ H Q=>vs=[]∧Q σ H
def uz (t:TG)(u:qq):qq:=fun vs σ H Q=>∃v r,vs=v::r∧t v σ H fun σ' H'=>u r σ' H' Q
theorem pI:pJ X [] xq:=by
 intro ab s σ H vs us Q I r h;obtain⟨e,h⟩:=h;subst e;cases r;exact assignInOrder_nil ⟨σ,H,I,h⟩
theorem nI {e:Expr}{es:List Expr}{t:TG}{u:qq}(h1:PG X e t)(h2:pJ X es u)
  (hs:(assignEach (e::es) X.env).map (·.2)=assign e X.env::(assignEach es X.env).map (·.2):=by rfl):pJ X (e::es) (uz t u):=by
 intro ab s σ H vs us Q I r h;obtain⟨v,vr,e1,h⟩:=h;subst e1;cases r with
 | cons r rr=>
  rw[hs];refine assignInOrder_cons (bL (h1 ab s σ H _ _ _ I r h) fun _ s1 hxx=>?_);obtain⟨σ1,H1,I1,q1⟩:=hxx;exact h2 ab s1 σ1 H1 _ _ Q I1 rr q1
def xS (K:W.Frag)(n:Nat)(t:qq):TG:=fun v σ H Q=>∃a xs,v=.ref a∧gZ K H a xs∧xs.length=n∧t xs σ H Q
theorem tV {es:List Expr}{k:Nat}{t:qq}{n:Nat}(hc:X.calm=true)(h:pJ X es t)
  (hn:(assignEach es X.env).length=n:=by rfl) (hst:(assignEach es X.env).findIdx? (·.1)=none:=by rfl):PG X (.Tuple es k pos) (xS X.K n t):=by
 intro ab s σ H v u Q I r hw;obtain⟨a,xs,e1,hq,hl,hw⟩:=hw;subst e1;cases r;obtain⟨its,rv,ht,hz⟩:=I.tuple hq;refine assign_Tuple_tuple (I.ok.hd hc) ht (by simp[hn,←hl,rv.length]) hst fun h' hx=>?_
 have I1:Inv X ab σ H {s with heap:=h'}:=I.kept (t':=s.toks) fun b o e=>hx b o (Nat.ne_of_lt (Heap.lt_size e)) e
 exact h ab _ σ H xs _ Q I1 (by simpa using rv) hw
def xc (to ti:TE)(t:sZ):TG:=fun v σ H Q=>to σ H fun o H1=>ti σ H1 fun i H2=>t o i v H2 fun H3=>Q σ H3
theorem qC {o i:Expr}{to ti:TE}{t:sZ}(ho:PE X o to)(hi:PE X i ti)(hs:v4 X t)
  (ha:∀v,assign (.Subscript o i pos) X.env v=(do
   let ov ←holding [v] (eval o X.env)
   let iv ←holding [v,ov] (eval i X.env)
   standAt pos
   holding [v,ov,iv] (setItem ov iv v)
   release [v,ov,iv] []):=by intro _;rfl):PG X (.Subscript o i pos) (xc to ti t):=by
 intro ab s σ H v u Q I r h;rw[ha];refine wpAny_bind (wpAny_holding (bL (ho ab s σ H _ I h) fun ov s1 hxx=>?_));obtain⟨x,H1,I1,r1,q1⟩:=hxx;refine wpAny_bind (wpAny_holding (bL (hi ab s1 σ H1 _ I1 q1) fun iv s2 hxx=>?_));obtain⟨y,H2,I2,r2,q2⟩:=hxx;refine wpAny_bind (wpAny_standAt (wpAny_bind (wpAny_holding (bL (hs ab s2 σ H2 x y v ov iv u _ I2 r1 r2 r q2) fun _ s3 hxx=>?_))));obtain⟨H3,I3,q3⟩:=hxx;exact wpAny_release ⟨σ,H3,I3,q3⟩
def wl (te:TE)(g:TG):TS:=fun D σ H=>te σ H fun x H1=>g x σ H1 D.nx
theorem nN {tg e:Expr}{te:TE}{g:TG}(he:PE X e te)(hg:PG X tg g)(hs:swapsWithSole [tg] e pos.line X.env=pure false:=by rfl)(hw:swappedStores [tg] e X.env=pure none:=by rfl)
  (h1:(assignEach [tg] X.env).map (·.2)=[assign tg X.env]:=by rfl):PS X (.Assign [tg] e pos) (wl te g):=by
 intro ab s σ H D I h;refine wpAny_Assign_stores (bL (he ab s σ H _ I h) fun v s1 hxx=>?_) hs hw;obtain⟨x,H1,I1,r1,q1⟩:=hxx;rw[h1];exact bL (hg ab s1 σ H1 x v _ I1 r1 q1) fun _ s2 q=>q
theorem sB {i:Nat}{x:Str}{e:Expr}{te:TE}{pos':Pos}(hN:X.N.Nodup)(hi:X.N[i]?=some x)(hx:n8 X.env.scope x)(he:PE X e te)(hs:swapsWith e (some (.Name x pos')) pos.line X.env=pure false:=by rfl)(hf:X.fn x=true∨X.env.scope.names.lookup x=some .local:=by first|exact .inl rfl|exact .inr rfl|assumption) :
  PS X (.Assign [.Name x pos'] e pos) (wl te (qg i)):=by
 intro ab s σ H D I h;refine wpAny_Assign_Name (bL (he ab s σ H _ I h) fun v s1 hxx=>?_) hs;obtain⟨y,H1,I1,r1,q1⟩:=hxx;exact jx I1 hN hi hx r1 (fun s2 I2=>⟨_,H1,I2,q1⟩) hf
end
structure It where
 go:Nat→Hp→Prop
 yld:Nat→Hp→V→Hp→Prop
 stop:Nat→Hp→Prop
def dN (X:Cx)(ab:List (Addr×Obj))(H:Hp)(b:Addr):Prop:=
 H b=none∧b≠X.env.locals∧b∉X.fs∧(b∈X.ex∨X.s₀.heap.objs.size≤b)∧(∀x c,X.env.cells.lookup x=some c→c≠b)∧∀p∈X.pn++ab,p.1≠b
theorem Inv.fpOk {X:Cx}{ab:List (Addr×Obj)}{σ:St}{H H':Hp}{s:Shared}{b:Addr}(I:Inv X ab σ H s)(hb:s.heap.objs.size≤b)(hn:H' b=none):dN X ab H' b:=by
 refine⟨hn,Nat.ne_of_gt (Nat.lt_of_lt_of_le I.lt hb),I.nofs hb,.inr (Nat.le_trans I.sz hb),fun x c e z=>?_,fun p hp z=>?_⟩
 ·obtain⟨v,q⟩:=I.cell x c e;exact absurd (Nat.lt_of_lt_of_le q.lt (by rw[z];exact hb)) (Nat.lt_irrefl _)
 ·exact absurd (Nat.lt_of_lt_of_le (Heap.lt_size (I.pin p hp).1) (by rw[z];exact hb)) (Nat.lt_irrefl _)
structure lS (P:Program)(w:World)(K:W.Frag)(tg:Expr)(J:It)(fp:List Addr)(it:Addr)(tn:Nat→Heap→Prop):Prop where
 mem:it∈fp
 obj:∀i h,tn i h→∀b∈fp,∃o,h.get? b=some o∧∀v,o.data≠.cell v
 keep:∀i h h',tn i h→(∀b∈fp,∀o,h.get? b=some o→h'.get? b=some o)→tn i h'
 item:∀(X:Cx),X.prog=P→X.w=w→X.K=K→X.calm=true→∀(i:Nat) (ab:List (Addr×Obj)) (s:Shared) (σ:St) (H:Hp) (E:Value→Shared→Prop),Inv X ab σ H s→(∀b∈fp,dN X ab H b)→tn i s.heap→J.go i H→
  wpAny (model P w) X.A (pyNext (.ref it)) (fun r s1=>∃u,r=some u∧
   wpAny (model P w) X.A (letOwnedTupleGo tg (.ref it) u) (fun _ s2=>∃x H',Inv X ab σ H' s2∧aM x u∧J.yld i H x H'∧tn (i+1) s2.heap∧∀b∈fp,H' b=none) E s1) E s
 done:∀(X:Cx),X.prog=P→X.w=w→X.K=K→X.calm=true→∀(i:Nat) (ab:List (Addr×Obj)) (s:Shared) (σ:St) (H:Hp) (E:Value→Shared→Prop),Inv X ab σ H s→(∀b∈fp,dN X ab H b)→tn i s.heap→J.stop i H→
  wpAny (model P w) X.A (pyNext (.ref it)) (fun r s1=>r=none∧Inv X ab σ H s1) E s
 self:∀(A:Around) (i:Nat) (s:Shared) (Q:Value→Shared→Prop) (E:Value→Shared→Prop),tn i s.heap→Q (.ref it) s→wpAny (model P w) A (pyIter (.ref it)) Q E s
abbrev TI:=St→Hp→(It→Hp→Prop)→Prop
def xA (X:Cx)(ab:List (Addr×Obj))(σ:St)(tg:Expr)(R:It→Hp→Prop)(itv:Value)(s2:Shared):Prop:=
 ∃(it:Addr) (fp:List Addr) (tn:Nat→Heap→Prop) (J:It) (H':Hp),itv=.ref it∧Inv X ab σ H' s2∧lS X.prog X.w X.K tg J fp it tn∧tn 0 s2.heap∧(∀b∈fp,dN X ab H' b)∧R J H'
def PI (X:Cx)(tg iter:Expr)(wi:TI):Prop:=
 ∀(ab:List (Addr×Obj)) (s:Shared) (σ:St) (H:Hp) (R:It→Hp→Prop),Inv X ab σ H s→wi σ H R→
  wpAny (model X.prog X.w) X.A (eval iter X.env) (fun v s1=>wpAny (model X.prog X.w) X.A (pyIter v) (xA X ab σ tg R) X.xe s1) X.xe s
theorem mS {M:Model}{A:Around}{E:Value→Shared→Prop}{s:Shared}{tg:Expr}{it:Addr}{u:Value}{o:Obj}{n:String}{vs:Array Value}{Q:Unit→Shared→Prop}(ho:s.heap.get? it=some o)(hc:o.cls=.type n)(hd:o.data=.fields vs)
  (hn:["enumerate","zip","dict_itemiterator","dict_reverseitemiterator","odict_iterator","itertools.zip_longest","itertools.pairwise"].contains n=false) (hQ:Q () s):wpAny M A (letOwnedTupleGo tg (.ref it) u) Q E s:=by
 unfold letOwnedTupleGo;cases tg <;> first
  | exact wpAny_pure hQ
  | (cases u <;> first
    | exact wpAny_pure hQ
    | (refine wpAny_bind (wpAny_load ho ?_)
       rw[hc,hd];show wpAny M A (if(["enumerate","zip","dict_itemiterator","dict_reverseitemiterator","odict_iterator","itertools.zip_longest","itertools.pairwise"].contains n&&vs[0]?==some (rawInt _))=true then _ else _) Q E s;rw[if_neg (by intro h;rw[hn,Bool.false_and] at h;cases h)];exact wpAny_pure hQ))
def wG (K:W.Frag)(a:Addr):It:=
 ⟨fun i H=>∃xs x,fA K H a xs∧xs[i]?=some x,fun i H x H'=>H'=H∧∀xs,fA K H a xs→xs[i]?=some x,fun i H=>∃xs,fA K H a xs∧xs.length≤i⟩
def xF (K:W.Frag)(a:Addr):It:=
 ⟨fun i H=>∃xs x,gZ K H a xs∧xs[i]?=some x,fun i H x H'=>H'=H∧∀xs,gZ K H a xs→xs[i]?=some x,fun i H=>∃xs,gZ K H a xs∧xs.length≤i⟩
def ww (lo:Int)(n:Nat):It:=⟨fun i _=>i<n,fun i H x H'=>H'=H∧x=.int (lo+i),fun i _=>n≤i⟩
theorem lr {P:Program}{w:World}{K:W.Frag}{tg:Expr}(a it:Addr):lS P w K tg (wG K a) [it] it (fun i h=>h.IsListIter it a i) where
 mem:=by simp
 obj:=fun i h st b hb=>by
  have e:b=it:=by simpa using hb
  subst e;obtain⟨o,e,c,d⟩:=st;exact⟨o,e,fun v z=>by rw[d] at z;cases z⟩
 keep:=fun i h h' st k=>st.at fun o e=>k it (by simp) o e
 item:=by
  intro X hP hw hK hc i ab s σ H E I hf st hg;subst hP hw hK;obtain⟨xs,x,hq,hx⟩:=hg;obtain⟨its,rv,p,hz⟩:=I.list hq;obtain⟨u,hu,ru⟩:=rv.get hx;obtain⟨f0,f1,f2,f3,f4,f5⟩:=hf it (by simp);refine wpAny_pyNext_list_item st p.isList (x:=u) (by simpa using hu) fun h' st' sb=>?_
  have I1:Inv X ab σ H {s with heap:=h'}:=I.turned (t':=s.toks) (fun b o hb e=>(sb.2 b hb).trans e) f0 f1 f3 f4 f5;obtain⟨o,e,c,d⟩:=id st';exact⟨u,rfl,mS (s:={s with heap:=h'}) e c d (by decide) ⟨x,H,I1,ru,⟨rfl,fun ys hy=>by rw[I.list_inj hy hq];exact hx⟩,st',fun b hb=>(hf b hb).1⟩⟩
 done:=by
  intro X hP hw hK hc i ab s σ H E I hf st hg;subst hP hw hK;obtain⟨xs,hq,hx⟩:=hg;obtain⟨its,rv,p,hz⟩:=I.list hq;obtain⟨f0,f1,f2,f3,f4,f5⟩:=hf it (by simp);have hl:=rv.length;exact wpAny_pyNext_list_end (I.ok.hd hc) st p.isList (by simp;omega) fun h' eb=>⟨rfl,I.turned (t':=s.toks) (fun b o hb e=>eb b o hb e) f0 f1 f3 f4 f5⟩
 self:=fun _ _ _ _ _ st h=>wpAny_pyIter_listiter st h
theorem jT {P:Program}{w:World}{K:W.Frag}{tg:Expr}(a it:Addr):lS P w K tg (xF K a) [it] it (fun i h=>h.IsTupleIter it a i) where
 mem:=by simp
 obj:=fun i h st b hb=>by
  have e:b=it:=by simpa using hb
  subst e;obtain⟨o,e,c,d⟩:=st;exact⟨o,e,fun v z=>by rw[d] at z;cases z⟩
 keep:=fun i h h' st k=>st.at fun o e=>k it (by simp) o e
 item:=by
  intro X hP hw hK hc i ab s σ H E I hf st hg;subst hP hw hK;obtain⟨xs,x,hq,hx⟩:=hg;obtain⟨its,rv,p,hz⟩:=I.tuple hq;obtain⟨u,hu,ru⟩:=rv.get hx;obtain⟨f0,f1,f2,f3,f4,f5⟩:=hf it (by simp);refine wpAny_pyNext_tuple_item st (show s.heap.IsTuple a its.toArray from p) (x:=u) (by simpa using hu) fun h' st' sb=>?_
  have I1:Inv X ab σ H {s with heap:=h'}:=I.turned (t':=s.toks) (fun b o hb e=>(sb.2 b hb).trans e) f0 f1 f3 f4 f5;obtain⟨o,e,c,d⟩:=id st';exact⟨u,rfl,mS (s:={s with heap:=h'}) e c d (by decide) ⟨x,H,I1,ru,⟨rfl,fun ys hy=>by rw[I.tuple_inj hy hq];exact hx⟩,st',fun b hb=>(hf b hb).1⟩⟩
 done:=by
  intro X hP hw hK hc i ab s σ H E I hf st hg;subst hP hw hK;obtain⟨xs,hq,hx⟩:=hg;obtain⟨its,rv,p,hz⟩:=I.tuple hq;obtain⟨f0,f1,f2,f3,f4,f5⟩:=hf it (by simp);have hl:=rv.length;exact wpAny_pyNext_tuple_end (I.ok.hd hc) st (show s.heap.IsTuple a its.toArray from p) (by simp;omega) fun h' eb=>⟨rfl,I.turned (t':=s.toks) (fun b o hb e=>eb b o hb e) f0 f1 f3 f4 f5⟩
 self:=fun _ _ _ _ _ st h=>wpAny_pyIter_tupleiter st h
theorem j9 {P:Program}{w:World}{K:W.Frag}{tg:Expr}(it:Addr)(lo:Int)(n:Nat):lS P w K tg (ww lo n) [it] it (fun i h=>IsRangeIter h it (lo+(i:Nat)*1) ((n:Int)-(i:Nat)) 1) where
 mem:=by simp
 obj:=fun i h st b hb=>by
  have e:b=it:=by simpa using hb
  subst e;exact⟨_,st,fun v z=>by
   have z':Data.fields _=Data.cell v:=z;cases z'⟩
 keep:=fun i h h' st k=>k it (by simp) _ st
 item:=by
  intro X hP hw hK hc i ab s σ H E I hf st hg;subst hP hw hK;obtain⟨f0,f1,f2,f3,f4,f5⟩:=hf it (by simp);have W:=Walks.range (prog:=X.prog) (w:=X.w) (I.ok.hd hc) it lo 1 n;refine W.item i s _ _ hg st fun v h' tk hv st' kk=>?_
  obtain⟨t,rfl⟩:=hv;have I1:Inv X ab σ H {s with heap:=h',toks:=tk}:=I.turned (fun b o hb e=>kk b o (by simpa using hb) e) f0 f1 f3 f4 f5;refine⟨_,rfl,mS (s:={s with heap:=h',toks:=tk}) (n:="range_iterator") st' rfl rfl (by decide) ⟨.int (lo+i),H,I1,⟨t,?_⟩,⟨rfl,rfl⟩,st',fun b hb=>(hf b hb).1⟩⟩;rw[Int.mul_one]
 done:=by
  intro X hP hw hK hc i ab s σ H E I hf st hg;subst hP hw hK;obtain⟨f0,f1,f2,f3,f4,f5⟩:=hf it (by simp);exact wpAny_pyNext_range_end (I.ok.hd hc) st (by have:n≤i:=hg;omega) fun h' eb=>⟨rfl,I.turned (t':=s.toks) (fun b o hb e=>eb b o hb e) f0 f1 f3 f4 f5⟩
 self:=fun _ _ _ _ _ st h=>wpAny_pyIter_rangeiter st h
section
variable {X:Cx}{tg:Expr}
theorem mD {ab:List (Addr×Obj)}{σ:St}{H:Hp}{s:Shared}{R:It→Hp→Prop}{E:Value→Shared→Prop}{lo hi:Int}{t u v:Tok}{tk:Nat}(I:Inv X ab σ H s)(h1:-(2 ^ 62)≤lo)(h2:lo<2 ^ 62)(h3:-(2 ^ 62)≤hi)(h4:hi<2 ^ 62)
  (q:R (ww lo (hi-lo).toNat) H):wpAny (model X.prog X.w) X.A (pyIter (.ref s.heap.objs.size)) (xA X ab σ tg R) E {s with heap:=s.heap.push {cls:=.type "range",data:=.fields #[.int lo t,.int hi u,.int 1 v]},toks:=tk}:=by
 refine wpAny_pyIter_range (IsRange.new ..) (small_one h1 h2 h3 h4) ?_;have I1:Inv X ab σ H {s with heap:=s.heap.push {cls:=.type "range",data:=.fields #[.int lo t,.int hi u,.int 1 v]},toks:=tk}:=I.kept fun b o e=>Heap.get?_push_of_some _ e
 refine⟨(s.heap.push {cls:=.type "range",data:=.fields #[.int lo t,.int hi u,.int 1 v]}).objs.size,[(s.heap.push {cls:=.type "range",data:=.fields #[.int lo t,.int hi u,.int 1 v]}).objs.size],_,_,H,rfl,
  I1.kept (t':=tk) fun b o e=>Heap.get?_push_of_some _ e,j9 _ lo (hi-lo).toNat,?_,fun b hb=>?_,q⟩
 ·have e1:lo+((0:Nat):Int)*1=lo:=by simp
  have e2:(((hi-lo).toNat:Nat):Int)-((0:Nat):Int)=Builtin.Range.rangeSize lo hi 1:=by rw[rangeSize_one];split <;> omega
  show IsRangeIter _ _ (lo+((0:Nat):Int)*1) ((((hi-lo).toNat:Nat):Int)-((0:Nat):Int)) 1;rw[e1,e2];exact Heap.get?_push_size _ rfl
 ·have e:b=(s.heap.push {cls:=.type "range",data:=.fields #[.int lo t,.int hi u,.int 1 v]}).objs.size:=by simpa using hb
  subst e;exact I1.fpOk (Nat.le_refl _) (I1.hok.fresh (Nat.le_refl _))
def vl (ta:TA):TI:=fun σ H R=>ta σ H fun vs H1=>∃j:Int,vs=[.int j]∧-(2 ^ 62)≤j∧j<2 ^ 62∧R (ww 0 j.toNat) H1
theorem l5 {a:Expr}{ta:TA}{p pos:Pos}(hg:Gl X "range")(hm:X.mg "range"=none)(ha:PA X [a] ta)(hs:starEach [a] X.env=[(false,eval a X.env)]:=by rfl):PI X tg (.Call (.Name "range" p) [a] [] pos) (vl ta):=by
 intro ab s σ H R I h;refine Call_ (dY I hg hm boot_range (PyProof.Rows.callWith_type1 (bL (ha pos ab s σ H _ I h) fun us s1 hxx=>?_) hs rfl));obtain⟨vs,H1,I1,r1,q1⟩:=hxx;obtain⟨j,e,q1,q2,q⟩:=q1;subst e;cases r1 with
 | cons r rr=>
  cases rr;obtain⟨t,rfl⟩:=r;exact call_range_1 (mD I1 (by omega) (by omega) q1 q2 (by simpa using q))
def wQ (wi:TI)(g:TG)(tb:TS):TS:=fun D σ H=>wi σ H fun J H1=>∃W:Nat→Nat→St→Hp→Prop,(∃m,W 0 m σ H1)∧∀i m σ H,W i m σ H→
 (J.stop i H∧D.nx σ H)∨(J.go i H∧∃N:St→Hp→Prop,(∀σ' H',N σ' H'→∃m',m'<m∧W (i+1) m' σ' H')∧∀x H',J.yld i H x H'→g x σ H' fun σ2 H2=>tb {D with nx:=N,ct:=N,bk:=D.nx} σ2 H2)
def fO (fp:List Addr)(h:Heap):List (Addr×Obj):=fp.filterMap fun b=>(h.get? b).map fun o=>(b,o)
theorem dq {fp:List Addr}{h:Heap}{b:Addr}{o:Obj}(hb:b∈fp)(e:h.get? b=some o):(b,o)∈fO fp h:=mem_filterMap.mpr ⟨b,hb,by rw[e];rfl⟩
theorem l9 {fp:List Addr}{h:Heap}{p:Addr×Obj}(hp:p∈fO fp h):p.1∈fp∧h.get? p.1=some p.2:=by
 obtain⟨b,hb,e⟩:=mem_filterMap.mp hp;cases q:h.get? b with
 | none=>rw[q] at e;cases e
 | some o=>
  rw[q] at e;have e':(b,o)=p:=Option.some.inj e;subst e';exact⟨hb,q⟩
theorem Inv.pinned {ab:List (Addr×Obj)}{σ:St}{H:Hp}{s:Shared}{fp:List Addr}(I:Inv X ab σ H s)(hf:∀b∈fp,dN X ab H b)(ho:∀b∈fp,∃o,s.heap.get? b=some o∧∀v,o.data≠.cell v):Inv X (ab++fO fp s.heap) σ H s:=
 I.pins_of fun p hp=>(mem_append.mp hp).elim (fun z=>I.pin p (mem_append_right _ z)) fun z=>by
  obtain⟨hb,e⟩:=l9 z;obtain⟨f0,f1,f2,_⟩:=hf p.1 hb;obtain⟨o,e',d⟩:=ho p.1 hb;rw[e] at e';cases e';exact⟨e,f0,f1,f2,d⟩
theorem Inv.unpinned {ab pl:List (Addr×Obj)}{σ:St}{H:Hp}{s:Shared}(I:Inv X (ab++pl) σ H s):Inv X ab σ H s:=I.pins_of fun p hp=>I.pin p (mem_append_right _ (mem_append_left _ hp))
theorem mv {iter:Expr}{body:List Stmt}{wi:TI}{g:TG}{tb:TS}{pos:Pos}(hp:PassesOwn (model X.prog X.w) X.A X.env X.xe)(hc:X.calm=true)(hi:PI X tg iter wi)(hg:PG X tg g)(hb:PSs X body tb)
  (hs:∀x,foldedSetIterable iter X.env x=pure x:=by intro _;rfl):PS X (.For tg iter body [] pos) (wQ wi g tb):=by
 intro ab s σ H D I h;refine wpAny_For (bL (hi ab s σ H _ I h) fun v s1 h1=>bL h1 fun itv s2 h2=>?_) hs;obtain⟨it,fp,tn,J,H2,e,I2,T,st2,f2,W,⟨m0,w0⟩,turn⟩:=h2;subst e;have stat:∀{H':Hp},(∀b∈fp,H' b=none)→∀b∈fp,dN X ab H' b:=fun hn b hb=>⟨hn b hb,(f2 b hb).2⟩
 refine codeAny_forLoop_any (fun n s'=>∃i σ' H',Inv X ab σ' H' s'∧tn i s'.heap∧(∀b∈fp,H' b=none)∧W i n σ' H') ?_ m0 ⟨0,σ,H2,I2,st2,fun b hb=>(f2 b hb).1,w0⟩;rintro n s3 ⟨i,σ3,H3,I3,st3,fr3,w3⟩;rcases turn i n σ3 H3 w3 with⟨stop,qn⟩|⟨go,N,hN,step⟩
 ·refine wpAny_passesOwn hp (bL (T.done X rfl rfl rfl hc i ab s3 σ3 H3 X.xe I3 (stat fr3) st3 stop) fun r s4 hxx=>?_);obtain⟨hr,I4⟩:=hxx;subst hr;exact wpAny_execs_nil ⟨σ3,H3,I4,qn⟩
 ·refine wpAny_passesOwn hp (bL (T.item X rfl rfl rfl hc i ab s3 σ3 H3 X.xe I3 (stat fr3) st3 go) fun r s4 hxx=>?_);obtain⟨u,hr,h4⟩:=hxx;subst hr;refine wpAny_passesOwn hp (bL h4 fun _ s5 hxx=>?_);obtain⟨x,H5,I5,r5,y5,st5,fr5⟩:=hxx;have I5':=I5.pinned (stat fr5) (T.obj _ _ st5);refine wpAny_passesOwn hp (bL (hg _ s5 σ3 H5 x u _ I5' r5 (step x H5 y5)) fun _ s6 hxx=>?_);obtain⟨σ6,H6,I6,q6⟩:=hxx;refine wpAny_passesOwn hp (bL (hb _ s6 σ6 H6 _ I6 q6) fun f s7 q7=>?_);have again:∀{σ7:St} {H7:Hp},Inv X (ab++fO fp s5.heap) σ7 H7 s7→N σ7 H7→∃m,m<n∧∃i σ' H',Inv X ab σ' H' s7∧tn i s7.heap∧(∀b∈fp,H' b=none)∧W i m σ' H':=fun {σ7 H7} I7 n7=>by
   obtain⟨m',hm,w7⟩:=hN σ7 H7 n7;refine⟨m',hm,i+1,σ7,H7,I7.unpinned,T.keep _ _ _ st5 fun b hb o e=>(I7.pin (b,o) (mem_append_right _ (mem_append_right _ (dq hb e)))).1,fun b hb=>?_,w7⟩;obtain⟨o,e,d⟩:=T.obj _ _ st5 b hb;exact(I7.pin (b,o) (mem_append_right _ (mem_append_right _ (dq hb e)))).2.1
  cases f with
  | next=>obtain⟨σ7,H7,I7,n7⟩:=q7;exact again I7 n7
  | cont=>obtain⟨σ7,H7,I7,n7⟩:=q7;exact again I7 n7
  | brk=>obtain⟨σ7,H7,I7,q7⟩:=q7;exact⟨σ7,H7,I7.unpinned,q7⟩
  | ret v=>obtain⟨x7,σ7,H7,I7,r7,q7⟩:=q7;exact⟨x7,σ7,H7,I7.unpinned,r7,q7⟩
end
abbrev R2:=V→V→Hp→VK→Prop
def c4 (X:Cx)(f:Value→Value→Sem Value)(r:R2):Prop:=
 ∀(ab:List (Addr×Obj)) (s:Shared) (σ:St) (H:Hp) (x y:V) (v u:Value) (Q:VK),Inv X ab σ H s→aM x v→aM y u→r x y H Q→
  wpAny (model X.prog X.w) X.A (f v u) (EP X ab σ Q) X.xe s
def bV (X:Cx)(f:Value)(r:List V→Hp→VK→Prop):Prop:=
 ∀(ab:List (Addr×Obj)) (s:Shared) (σ:St) (H:Hp) (xs:List V) (us:List Value) (Q:VK),Inv X ab σ H s→az xs us→r xs H Q→
  wpAny (model X.prog X.w) X.A (call f us) (EP X ab σ Q) X.xe s
def xu (X:Cx)(r:V→Hp→(Bool→Hp→Prop)→Prop):Prop:=
 ∀(ab:List (Addr×Obj)) (s:Shared) (σ:St) (H:Hp) (x:V) (v:Value) (Q:Bool→Hp→Prop),Inv X ab σ H s→aM x v→r x H Q→
  wpAny (model X.prog X.w) X.A (truthy v) (TP X ab σ Q) X.xe s
def v2 (r:R2)(ta tb:TE):TE:=fun σ H Q=>ta σ H fun x H1=>tb σ H1 fun y H2=>r x y H2 Q
def rI (C:Int→Int→Prop)(g:Int→Int→V):R2:=fun x y H Q=>∃i j,x=.int i∧y=.int j∧C i j∧Q (g i j) H
def qi (g:Int→Int→V):R2:=fun x y H Q=>∃i j,x=.int i∧y=.int j∧Q (g i j) H
section
variable {X:Cx}{a b c:Expr}{ta tb tc:TE}{pos:Pos}
theorem rU (ha:PE X a ta)(hb:PE X b tb){ab:List (Addr×Obj)}{s:Shared}{σ:St}{H:Hp}{R:V→V→Hp→Prop}(I:Inv X ab σ H s)
  (h:ta σ H fun x H1=>tb σ H1 fun y H2=>R x y H2) {Q:Value→Shared→Prop} {f:Value→Value→Sem Value}
  (hf:∀v u s2 x y H2,Inv X ab σ H2 s2→aM x v→aM y u→R x y H2→wpAny (model X.prog X.w) X.A (f v u) Q X.xe s2) :
  wpAny (model X.prog X.w) X.A (eval a X.env) (fun v s₁=>wpAny (model X.prog X.w) X.A (eval b X.env) (fun u s₂=>wpAny (model X.prog X.w) X.A (f v u) Q X.xe s₂) X.xe s₁) X.xe s:=by
 refine bL (ha ab s σ H _ I h) fun v s1 hxx=>?_
 obtain⟨x,H1,I1,r1,q1⟩:=hxx;refine bL (hb ab s1 σ H1 _ I1 q1) fun u s2 hxx=>?_
 obtain⟨y,H2,I2,r2,q2⟩:=hxx;exact hf v u s2 x y H2 I2 r1 r2 q2
theorem ur {op:Operator}{r:R2}(ho:c4 X (binaryOp op) r)(ha:PE X a ta)(hb:PE X b tb):PE X (.BinOp a op b pos) (v2 r ta tb):=by
 intro ab s σ H Q I h;exact wpAny_BinOp (rU ha hb I h fun v u s2 x y H2 I2 rx ry q=>ho ab s2 σ H2 x y v u Q I2 rx ry q)
theorem xG {f:Value→Value→Sem Value}{C:Int→Int→Prop}{g:Int→Int→Int}
  (rule:∀(i j:Int) (t u:Tok) (s:Shared) (Q:Value→Shared→Prop) (E:Value→Shared→Prop),C i j→Q (.int (g i j) s.toks) {s with toks:=s.toks+1}→wpAny (model X.prog X.w) X.A (f (.int i t) (.int j u)) Q E s) :
  c4 X f (rI C fun i j=>.int (g i j)):=by
 intro ab s σ H x y v u Q I rx ry h;obtain⟨i,j,rfl,rfl,hc,q⟩:=h;obtain⟨t,rfl⟩:=rx;obtain⟨t',rfl⟩:=ry;exact rule i j t t' s _ _ hc ⟨.int (g i j),H,I.tok _,⟨_,rfl⟩,q⟩
theorem uF {f:Value→Value→Sem Value}{g:Int→Int→Int}
  (rule:∀(i j:Int) (t u:Tok) (s:Shared) (Q:Value→Shared→Prop) (E:Value→Shared→Prop),Q (.int (g i j) s.toks) {s with toks:=s.toks+1}→wpAny (model X.prog X.w) X.A (f (.int i t) (.int j u)) Q E s) :
  c4 X f (qi fun i j=>.int (g i j)):=by
 intro ab s σ H x y v u Q I rx ry h;obtain⟨i,j,rfl,rfl,q⟩:=h;obtain⟨t,rfl⟩:=rx;obtain⟨t',rfl⟩:=ry;exact rule i j t t' s _ _ ⟨.int (g i j),H,I.tok _,⟨_,rfl⟩,q⟩
theorem pX {f:Value→Value→Sem Value}{g:Int→Int→Bool}
  (rule:∀(i j:Int) (t u:Tok) (s:Shared) (Q:Value→Shared→Prop) (E:Value→Shared→Prop),Q (.bool (g i j)) s→wpAny (model X.prog X.w) X.A (f (.int i t) (.int j u)) Q E s) :
  c4 X f (qi fun i j=>.bl (g i j)):=by
 intro ab s σ H x y v u Q I rx ry h;obtain⟨i,j,rfl,rfl,q⟩:=h;obtain⟨t,rfl⟩:=rx;obtain⟨t',rfl⟩:=ry;exact rule i j t t' s _ _ ⟨.bl (g i j),H,I,rfl,q⟩
def xr (i j:Int):Prop:=0≤j∧j≤1000000∧i.natAbs<2 ^ 64
def sL (i j:Int):Prop:=(-(2 ^ 64)<i∧i<2 ^ 64)∨(-(2 ^ 64)<j∧j<2 ^ 64)
theorem sL.ok {i j:Int}(h:sL i j):IntMulOk i j:=by
 rcases h with⟨h1,h2⟩|⟨h1,h2⟩
 ·exact .of_left (intBits_le_64 h1 h2)
 ·exact .of_right (intBits_le_64 h1 h2)
theorem qG:c4 X (binaryOp .Add) (qi fun i j=>.int (i+j)):=uF fun _ _ _ _ _ _ _ q=>add_int q
theorem rP:c4 X (binaryOp .Sub) (qi fun i j=>.int (i-j)):=uF fun _ _ _ _ _ _ _ q=>sub_int q
theorem qX:c4 X (binaryOp .Mult) (rI sL fun i j=>.int (i*j)):=xG fun _ _ _ _ _ _ _ hc q=>mul_int q hc.ok
theorem sX:c4 X (binaryOp .Mod) (rI (fun _ j=>0<j) fun i j=>.int (i % j)):=xG fun i j _ _ _ _ _ hc q=>by
 have h1:(0:Int)<j:=hc;exact mod_int' (by omega) (by rw[Int.fmod_eq_emod_of_nonneg i (by omega)];exact q)
theorem qR:c4 X (binaryOp .Pow) (rI xr fun i j=>.int (i ^ j.toNat)):=xG fun _ _ _ _ _ _ _ hc q=>pow_int_small hc.1 hc.2.1 hc.2.2 q
end
section
variable {X:Cx}{a b c:Expr}{ta tb tc:TE}{pos:Pos}
theorem uH:c4 X (compareOp .Lt) (qi fun i j=>.bl (decide (i<j))):=pX fun _ _ _ _ _ _ _ q=>lt_int q
theorem uy:c4 X (compareOp .LtE) (qi fun i j=>.bl (decide (i≤j))):=pX fun _ _ _ _ _ _ _ q=>le_int q
theorem vW:c4 X (compareOp .Gt) (qi fun i j=>.bl (decide (j<i))):=pX fun _ _ _ _ _ _ _ q=>gt_int q
theorem uE:c4 X (compareOp .GtE) (qi fun i j=>.bl (decide (j≤i))):=pX fun _ _ _ _ _ _ _ q=>ge_int q
def wo:HO→Bool
 | .lst _=>true
 | .ins _ _ _=>true
 | _=>false
theorem uh {ab:List (Addr×Obj)}{s:Shared}{σ:St}{H:Hp}{a:Addr}{o:HO}(I:Inv X ab σ H s)(h:H a=some o)(p:wo o=true):∃ob,s.heap.get? a=some ob∧ob.cls≠.type "tuple":=by
 cases o with
 | lst xs=>
  obtain⟨_,its,n,_,e⟩:xs.length≤sizeLine∧∃(its:List Value) (n:Nat),az xs its∧s.heap.get? a=some {cls:=.type "list",data:=.seq its.toArray n}:=I.hok a _ h;exact⟨_,e,(by show Value.type "list"≠.type "tuple";decide +kernel)⟩
 | ins C dx fs=>
  have x:=I.hok a _ h;obtain⟨_,_,_,e,_⟩:=x;exact⟨_,e,(by show Value.ref C≠.type "tuple";exact fun z=>by cases z)⟩
 | _=>exact absurd (show false=true from p) Bool.false_ne_true
theorem sh (b:Expr){op:CmpOp}(h:op≠.In:=by decide)(h2:op≠.NotIn:=by decide):behindInMarks op b=false:=by
 have e1:(op==CmpOp.In)=false:=by cases op <;> first|rfl|exact absurd rfl h
 have e2:(op==CmpOp.NotIn)=false:=by cases op <;> first|rfl|exact absurd rfl h2
 cases b <;> simp[behindInMarks,e1,e2]
theorem pV {op:CmpOp}{r:R2}(ho:c4 X (compareOp op) r)(ha:PE X a ta)(hb:PE X b tb)(hm:behindInMarks op b=false):PE X (.Compare a [op] [b] pos) (v2 r ta tb):=by
 intro ab s σ H Q I h;exact wpAny_Compare1 (rU ha hb I h fun v u s2 x y H2 I2 rx ry q=>ho ab s2 σ H2 x y v u Q I2 rx ry q) hm
def qx (t:TE):TT:=fun σ H Q=>t σ H fun x H'=>∃k,x=.bl k∧Q k H'
theorem oX {op:CmpOp}{r:R2}(ho:c4 X (compareOp op) r)(ha:PE X a ta)(hb:PE X b tb)(hm:behindInMarks op b=false):PT X (.Compare a [op] [b] pos) (qx (v2 r ta tb)):=by
 intro ab s σ H Q I h;refine wpAny_isTrue_Compare1 (bL (ha ab s σ H _ I h) fun v s1 ⟨x,H1,I1,r1,q1⟩=>bL (hb ab s1 σ H1 _ I1 q1) fun u s2 ⟨y,H2,I2,r2,q2⟩=>
  bL (ho ab s2 σ H2 x y v u _ I2 r1 r2 q2) fun c s3 hxx=>?_) hm
 obtain⟨z,H3,I3,r3,k,e,q3⟩:=hxx;subst e;cases r3;exact wpAny_truthy_bool ⟨H3,I3,q3⟩
def nX (r r':R2)(ta tb tc:TE):TE:=fun σ H Q=>ta σ H fun x H1=>tb σ H1 fun y H2=>r x y H2 fun z H3=>∃k,z=.bl k∧
 (if k=true then tc σ H3 fun w' H4=>r' y w' H4 Q else Q (.bl false) H3)
theorem nG {op op':CmpOp}{r r':R2}(ho:c4 X (compareOp op) r)(ho':c4 X (compareOp op') r')(ha:PE X a ta)(hb:PE X b tb)(hc:PE X c tc)
  (hm:lastMarks [op,op'] [b,c]=false:=by with_unfolding_all rfl):PT X (.Compare a [op,op'] [b,c] pos) (qx (nX r r' ta tb tc)):=by
 intro ab s σ H Q I h;refine isTrue_chain (bL (ha ab s σ H _ I h) fun v s1 ⟨x,H1,I1,r1,q1⟩=>test_link (bL (hb ab s1 σ H1 _ I1 q1) fun u s2 ⟨y,H2,I2,r2,q2⟩=>
  bL (ho ab s2 σ H2 x y v u _ I2 r1 r2 q2) fun d s3 hxx=>?_)) hm
 obtain⟨z,H3,I3,r3,k,e,q3⟩:=hxx;subst e;cases r3;refine wpAny_truthy_bool ?_;cases k with
 | false=>
  obtain⟨k',e',q'⟩:=q3;cases e';exact ite_ff ⟨H3,I3,q'⟩
 | true=>
  refine ite_tt (test_last (bL (hc ab s3 σ H3 _ I3 q3) fun w' s4 ⟨z',H4,I4,r4,q4⟩=>bL (ho' ab s4 σ H4 y z' u w' _ I4 r2 r4 q4) fun d' s5 hxx=>?_));obtain⟨z2,H5,I5,r5,k2,e2,q5⟩:=hxx;subst e2;cases r5;exact wpAny_truthy_bool ⟨H5,I5,q5⟩
def uK (K:W.Frag)(x:V)(H:Hp)(k:Bool):Prop:=
 match x with
 | .non=>k=false
 | .bl b=>k=b
 | .int i=>k=(i != 0)
 | .str y=>y.length≤sizeLine∧k=((y.length:Int) != 0)
 | .byt y=>y.size≤sizeLine∧k=((y.size:Int) != 0)
 | .ref p=>(∃xs,fA K H p xs∧k=!xs.isEmpty)∨(∃xs,gZ K H p xs∧k=!xs.isEmpty)∨∃kvs,H p=some (.dK kvs)∧k=!kvs.isEmpty
 | _=>False
theorem jQ {κ:Type}{kvs:List (κ×V)}{vs:List (κ×Value)}(r:KV kvs vs):(!vs.isEmpty)=!kvs.isEmpty:=by
 cases r <;> rfl
theorem fN {xs:List V}{its:List Value}(r:az xs its):(!its.toArray.isEmpty)=!xs.isEmpty:=by
 cases r <;> simp
theorem fo:(sizeLine:Nat)<2 ^ 63:=by rw[sizeLine_eq];decide
theorem sv:xu X (fun x H Q=>∃k,uK X.K x H k∧Q k H):=by
 intro ab s σ H x v Q I rx h;obtain⟨k,e,q⟩:=h;have hl:=fo;have hs:sizeLine=16777216:=sizeLine_eq;cases x with
 | non=>
  cases rx;have e':k=false:=e;subst e';exact truthy_none ⟨H,I,q⟩
 | bl b=>
  cases rx;have e':k=b:=e;subst e';exact wpAny_truthy_bool ⟨H,I,q⟩
 | int i=>
  obtain⟨t,rfl⟩:=rx;have e':k=(i != 0):=e;subst e';exact PySem.P.truthy_int ⟨H,I,q⟩
 | str y=>
  obtain⟨t,rfl⟩:=rx;obtain⟨hy,e'⟩:y.length≤sizeLine∧k=((y.length:Int) != 0):=e;subst e';exact PySem.P.truthy_str (by omega) ⟨H,I.tok _,q⟩
 | byt y=>
  obtain⟨t,rfl⟩:=rx;obtain⟨hy,e'⟩:y.size≤sizeLine∧k=((y.size:Int) != 0):=e;subst e';exact W.truthy_bytes (by omega) ⟨H,I.tok _,q⟩
 | ref p=>
  cases rx;have e':(∃xs,fA X.K H p xs∧k=!xs.isEmpty)∨(∃xs,gZ X.K H p xs∧k=!xs.isEmpty)∨∃kvs,H p=some (.dK kvs)∧k=!kvs.isEmpty:=e;rcases e' with⟨xs,hx,e'⟩|⟨xs,hx,e'⟩|⟨kvs,hx,e'⟩
  ·subst e';obtain⟨its,r,pl,hz⟩:=I.list hx;have hlen:=r.length;exact wpAny_truthy_list pl.isList (by simp only[size_toArray];omega) ⟨H,I.tok _,by rw[fN r];exact q⟩
  ·subst e';obtain⟨its,r,pl,hz⟩:=I.tuple hx;have hlen:=r.length;exact truthy_tuple pl (by simp only[size_toArray];omega) ⟨H,I.tok _,by rw[fN r];exact q⟩
  ·subst e';obtain⟨hz,hS,vs,r,m⟩:kvs.length≤sizeLine∧(p==sysModules)=false∧∃vs,KV kvs vs∧s.heap.DictOf (i8 X.prog X.w) p vs:=I.hok p _ hx;have hlen:kvs.length=vs.length:=Paired.length r;exact wpAny_truthy_dict hS m (by omega) ⟨H,I.tok _,by rw[jQ r];exact q⟩
 | _=>exact(show False from e).elim
theorem m6 (ha:PE X a ta)(he:∀whole,isTrue a X.env whole=(do let v ←whole;standAt a.pos;holding [v] (truthy v))) :
  PT X a (fun σ H Q=>ta σ H fun x H'=>∃k,uK X.K x H' k∧Q k H'):=by
 intro ab s σ H Q I h;exact isTrue_plain (bL (ha ab s σ H _ I h) fun v s1 ⟨x,H1,I1,r1,q1⟩=>sv ab s1 σ H1 x v Q I1 r1 q1) (he _)
theorem jX:c4 X (binaryOp .Add) (fun x y H Q=>∃i j,x=.str i∧y=.str j∧i.length+j.length≤sizeLine∧Q (.str (i++j)) H):=by
 intro ab s σ H x y v u Q I rx ry h;obtain⟨i,j,rfl,rfl,hz,q⟩:=h;obtain⟨t,rfl⟩:=rx;obtain⟨t',rfl⟩:=ry;exact add_str (fun t' tk=>⟨.str (i++j),H,I.tok _,⟨_,rfl⟩,q⟩) hz
theorem im {x:V}{us:List Value}(r:az [x] us):∃u,us=[u]∧aM x u:=by
 cases r with
 | cons r1 r2=>cases r2;exact⟨_,rfl,r1⟩
theorem nL {x y:V}{us:List Value}(r:az [x,y] us):∃u w',us=[u,w']∧aM x u∧aM y w':=by
 cases r with
 | cons r1 r2=>
  cases r2 with
  | cons r3 r4=>cases r4;exact⟨_,_,rfl,r1,r3⟩
theorem lu (hc:X.calm=true):bV X (.builtin "max") (fun xs H Q=>∃i j,xs=[.int i,.int j]∧Q (.int (if j>i then j else i)) H):=by
 intro ab s σ H xs us Q I r h;obtain⟨i,j,rfl,q⟩:=h;obtain⟨u,w',rfl,⟨t,rfl⟩,⟨t',rfl⟩⟩:=nL r;refine max_two_ints (I.ok.hd hc) fun h' tk k=>⟨_,H,I.kept k,?_,q⟩
 by_cases hj:j>i
 ·rw[if_pos hj,if_pos hj];exact⟨_,rfl⟩
 ·rw[if_neg hj,if_neg hj];exact⟨_,rfl⟩
theorem lH (hc:X.calm=true):bV X (.builtin "min") (fun xs H Q=>∃i j,xs=[.int i,.int j]∧Q (.int (if j<i then j else i)) H):=by
 intro ab s σ H xs us Q I r h;obtain⟨i,j,rfl,q⟩:=h;obtain⟨u,w',rfl,⟨t,rfl⟩,⟨t',rfl⟩⟩:=nL r;refine min_two_ints (I.ok.hd hc) fun h' tk k=>⟨_,H,I.kept k,?_,q⟩
 by_cases hj:j<i
 ·rw[if_pos hj,if_pos hj];exact⟨_,rfl⟩
 ·rw[if_neg hj,if_neg hj];exact⟨_,rfl⟩
end
structure yf (K:W.Frag)(C:Addr):Prop where
 pg:W.plainGet K C Str.empty=true
 hd:W.hasDictIn K C=true
 po:W.plainOver K C=true
 sa:W.findIn K (.ref C) "__setattr__"=some (some (.builtin "object.__setattr__"))
def sV (K:W.Frag)(C:Addr)(f:Str):Prop:=W.findIn K (.ref C) f=some none
structure xg (K:W.Frag)(C:Addr)(m:Str)(f:Addr):Prop where
 at_:W.findIn K (.ref C) m=some (some (.ref f))
 fn:W.isFn K (.ref f)=true
 kp:W.keepIn K (.ref f)=true
structure bf (k:Nat)(A:Around):Prop where
 hd:A.handled=none
 dp:A.depth+3*k+5<recursionLimit
 un:A.units+16*k+200<cLine
theorem bf.mono {j k:Nat}{A:Around}(r:bf k A)(h:j≤k):bf j A:=⟨r.hd,by have:=r.dp;omega,by have:=r.un;omega⟩
theorem bf.deeper {k:Nat}{A:Around}(r:bf (k+1) A)(env:Env):bf k (A.deeper env):=
 ⟨r.hd,by have:=r.dp;show A.depth+1+3*k+5<_;omega,by have:=r.un;show A.units+3+16*k+200<_;omega⟩
theorem bf.in1 {k:Nat}{A:Around}(r:bf (k+1) A):bf k A.in1:=
 ⟨r.hd,by have:=r.dp;show A.depth+3*k+5<_;omega,by have:=r.un;show A.units+1+16*k+200<_;omega⟩
theorem bf.depth {k:Nat}{A:Around}(r:bf k A):A.depth<recursionLimit:=by have:=r.dp;omega
theorem bf.units {k:Nat}{A:Around}(r:bf k A):A.units+64<cLine:=by have:=r.un;omega
def xn:TA:=fun _ H Q=>Q [] H
def u7 (ta:TE)(tr:TA):TA:=fun σ H Q=>ta σ H fun x H1=>tr σ H1 fun xs H2=>Q (x::xs) H2
section
variable {X:Cx}{e:Expr}{es:List Expr}{te:TE}{t:TA}{pos:Pos}
theorem iD:PA X [] xn:=fun _ _ _ _ H Q I h=>Calls.spliced_nil ⟨[],H,I,.nil,h⟩
theorem ej (ha:PE X e te)(hr:PA X es t)(hs:starEach (e::es) X.env=(false,eval e X.env)::starEach es X.env:=by rfl):PA X (e::es) (u7 te t):=by
 intro pos ab s σ H Q I h;rw[hs];show wpAny _ _ (spliced ((false,eval e X.env)::backTo pos (starEach es X.env))) _ _ s;refine Calls.spliced_cons (bL (ha ab s σ H _ I h) fun u s1 hxx=>?_);obtain⟨x,H1,I1,r1,q1⟩:=hxx;exact bL (hr pos ab s1 σ H1 _ I1 q1) fun us s2 ⟨xs,H2,I2,r2,q2⟩=>⟨x::xs,H2,I2,.cons r1 r2,q2⟩
def wV (t:TA):TE:=fun σ H Q=>t σ H fun xs H1=>xs.length≤sizeLine∧∀p,H1 p=none→Q (.ref p) (bu H1 p (.tup xs))
def xk (t:TA):TE:=fun σ H Q=>t σ H fun xs H1=>xs.length≤sizeLine∧∀p,H1 p=none→Q (.ref p) (bu H1 p (.lst xs))
theorem tY {x1}(h:PA X es t):PE X (.Tuple es x1 pos) (wV t):=by
 intro ab s σ H Q I hq;refine wpAny_Tuple_spliced (bL (h pos ab s σ H _ I hq) fun us s1 ⟨xs,H1,I1,r,z,q⟩=>⟨by rw[←r.length];exact z,?_⟩);have hf:H1 s1.heap.objs.size=none:=I1.hok.fresh (Nat.le_refl _);refine⟨.ref s1.heap.objs.size,bu H1 s1.heap.objs.size (.tup xs),I1.laid (t':=s1.toks) (fun b u e=>Heap.get?_push_of_some _ e) (Nat.le_refl _) ?_,rfl,q _ hf⟩;exact⟨z,us,r,⟨_,Heap.get?_push_size _ rfl,rfl,_,rfl⟩⟩
theorem mU (h:PA X es t):PE X (.List es pos) (xk t):=by
 intro ab s σ H Q I hq;refine wpAny_List_spliced (bL (h pos ab s σ H _ I hq) fun us s1 ⟨xs,H1,I1,r,z,q⟩=>⟨by rw[←r.length];exact z,?_⟩);have hf:H1 s1.heap.objs.size=none:=I1.hok.fresh (Nat.le_refl _);refine⟨.ref s1.heap.objs.size,bu H1 s1.heap.objs.size (.lst xs),I1.laid (t':=s1.toks) (fun b u e=>Heap.get?_push_of_some _ e) (Nat.le_refl _) ?_,rfl,q _ hf⟩;exact⟨z,us,0,r,Heap.get?_push_size _ rfl⟩
end
abbrev Sp:=List V→Hp→VK→XK→Prop
abbrev mn:=List Env→Hp→Shared→XK→Value→Shared→Prop
structure oS (P:Program)(w:World)(K:W.Frag)(mg:Str→Option Value)(base:Heap)(A:Around)(outer:List Env)(s:Shared)(H:Hp):Prop where
 frames:A.frames=some outer
 mod:Mod K mg base
 bs:∀b o,base.get? b=some o→s.heap.get? b=some o∧H b=none
 bsz:base.objs.size≤s.heap.objs.size
 funs:s.heap.FunFrames base outer
 frf:∀b∈gQ outer,H b=none
 hok:eV P w H s.heap
 bare:AllBare s.gens
def CE (outer:List Env)(P:Program)(w:World)(H:Hp)(s:Shared)(Q:VK)(u:Value)(s':Shared):Prop:=
 ∃v H',s'.os=s.os∧AllBare s'.gens∧Un (gQ outer) [] H H' s.heap s'.heap∧eV P w H' s'.heap∧aM v u∧Q v H'
def CR (CX:mn)(outer:List Env)(P:Program)(w:World)(H:Hp)(s:Shared)(Q:VK)(E:XK)(r:Result)(s':Shared):Prop:=
 match r with
 | .ok (.ret u)=>CE outer P w H s Q u s'
 | .ok _=>False
 | .error e=>CX outer H s E e s'
structure cQ (P:Program)(w:World)(K:W.Frag)(mg:Str→Option Value)(base:Heap)(CX:mn)(k:Nat)(f:Addr)(fd:FuncData)(ps:List Str)(sp:Sp):Prop where
 len:∀vs H Q E,sp vs H Q E→vs.length=ps.length
 run:∀(A:Around) (outer:List Env) (s:Shared) (H:Hp) (args:Args) (us:List Value) (vs:List V) (Q:VK) (E:XK),bf k A→oS P w K mg base A outer s H→BindsTo s fd args (ps.zip us)→az vs us→sp vs H Q E→
  codeAny (model P w) A (.call (.ref f) args) (CR CX outer P w H s Q E) s
theorem cQ.imp {P:Program}{w:World}{K:W.Frag}{mg:Str→Option Value}{base:Heap}{CX:mn}{k:Nat}{f:Addr}{fd:FuncData}{ps:List Str}{sp sp':Sp}(F:cQ P w K mg base CX k f fd ps sp)
  (h:∀vs H Q E,sp' vs H Q E→sp vs H Q E):cQ P w K mg base CX k f fd ps sp':=
 ⟨fun vs H Q E q=>F.len vs H Q E (h _ _ _ _ q),fun A outer s H args us vs Q E hr he hb hv hs=>F.run A outer s H args us vs Q E hr he hb hv (h _ _ _ _ hs)⟩
section
variable {X:Cx}{ab:List (Addr×Obj)}{σ:St}{H:Hp}{s s':Shared}
theorem Inv.env0 (I:Inv X ab σ H s):oS X.prog X.w X.K X.mg X.base X.A X.stack s H:=
 ⟨I.ok.frames,I.ok.mod,I.bs,Nat.le_trans I.ok.bsz I.sz,I.stack,I.stkFree,I.hok,I.bare⟩
theorem Inv.after {Q:VK}{u:Value}(I:Inv X ab σ H s)(h:CE X.stack X.prog X.w H s Q u s'):EP X ab σ Q u s':=by
 obtain⟨v,H',os,bare,un,hok,r,q⟩:=h;obtain⟨hh,g,d,t,os'⟩:=s';obtain rfl:os'=s.os:=os;exact⟨v,H',I.call (h':=hh) (g':=g) (d':=d) (t':=t) (ch:=[]) un hok bare (fun b z=>absurd z (by simp)),r,q⟩
end
def uA (sp:Sp)(dvs:List V)(E:XK)(t:TA):TE:=fun σ H Q=>t σ H fun vs H1=>sp (vs++dvs) H1 Q E
def dB (K:W.Frag)(fd:FuncData)(ps:List Str)(ds:List Value):Prop:=
 ∀(s:Shared) (us:List Value),K.In s.heap→(us++ds).length=ps.length→BindsTo s fd ⟨us,[]⟩ (ps.zip (us++ds))
theorem dB.all {K:W.Frag}{fd:FuncData}{ps:List Str}(h:∀us:List Value,us.length=ps.length→bindArgs fd ⟨us,[]⟩=pure (ps.zip us)):dB K fd ps []:=fun s us _ hl=>by
 rw[append_nil] at hl ⊢;exact .of_eq (h us hl)
def jY (CX:mn)(X:Cx)(E:XK):Prop:=∀(ab:List (Addr×Obj)) (σ:St) (H:Hp) (s:Shared) (e:Value) (s':Shared),Inv X ab σ H s→CX X.stack H s E e s'→X.xe e s'
section
variable {X:Cx}{CX:mn}{k:Nat}{f C:Addr}{fd:FuncData}{ps:List Str}{sp:Sp}{dvs:List V}{ds:List Value}{E:XK}{x m:Str}{p pos apos:Pos}{e o:Expr}{es:List Expr}{ta:TE}{t:TA}
theorem t6 {ab:List (Addr×Obj)}{σ:St}{H:Hp}{s:Shared}{Q:VK}{us:List Value}{vs:List V}(F:cQ X.prog X.w X.K X.mg X.base CX k f fd ps sp)(hr:bf k X.A)(hb:dB X.K fd ps ds)(hd:az dvs ds)(hx:jY CX X E)
  (I:Inv X ab σ H s) (r:az vs us) (h:sp (vs++dvs) H Q E):wpAny (model X.prog X.w) X.A (call (.ref f) us) (EP X ab σ Q) X.xe s:=by
 have r2:az (vs++dvs) (us++ds):=r.append hd;have hl:(us++ds).length=ps.length:=by rw[←r2.length];exact F.len _ _ _ _ h
 refine wpAny_call (codeAny_mono (F.run X.A X.stack s H ⟨us,[]⟩ (us++ds) (vs++dvs) Q E hr I.env0 (hb s us I.kIn hl) r2 h) fun r s' hq=>?_);cases r with
 | error e=>exact hx ab σ H s e s' I hq
 | ok fl=>
  cases fl with
  | ret u=>exact I.after hq
  | next=>exact False.elim hq
  | brk=>exact False.elim hq
  | cont=>exact False.elim hq
theorem oo (F:cQ X.prog X.w X.K X.mg X.base CX k f fd ps sp)(hr:bf k X.A)(hg:Gl X x)(hm:X.mg x=some (.ref f))(hk:W.keepIn X.K (.ref f)=true)(hb:dB X.K fd ps ds)(hd:az dvs ds)(hx:jY CX X E)
  (ha:PA X (e::es) t) (hdb:(x==("__debug__":Str))=false:=by decide) (he:starEach (e::es) X.env=(false,eval e X.env)::starEach es X.env:=by rfl) (hpl:(backTo pos (starEach es X.env)).any (·.1)=false:=by rfl) :
  PE X (.Call (.Name x p) (e::es) [] pos) (uA sp dvs E t):=by
 intro ab s σ H Q I h;refine wpAny_Call_Name_kw (pv I hg hm ?_ hdb);refine W.callWith_K (h₀:=X.base) I.ok.mod.kin hk (bL (ha pos ab s σ H _ I h) fun us s1 ⟨vs,H1,I1,r,q⟩=>⟨I1.kIn,?_⟩) he hpl;exact t6 F hr hb hd hx I1 r q
end
structure cr (N P:List Str)(sc:Scope):Prop where
 kind:sc.kind=.function
 co:sc.isCoroutine=false
 gen:sc.isGenerator=false
 nd:N.Nodup
 pre:N.take P.length=P
 par:∀x∈P,sc.names.lookup x=some .local∨sc.names.lookup x=some .cell
 nofree:∀y∈sc.names,y.2≠.free
theorem ib {kindOf:Str→Option NameKind}{x:Str}:∀{binds:List (Str×Value)} {m:Str→Option Value},(∀v,(x,v)∉binds)→bindL kindOf binds m x=m x
 | [],_,_=>rfl
 | (n,v)::r,m,h=>by
  unfold bindL;rw[ib fun w hw=>h w (mem_cons_of_mem _ hw)];split
  ·have:x≠n:=by rintro rfl;exact h v mem_cons_self
   simp[this]
  ·rfl
theorem iu {kindOf:Str→Option NameKind}{x:Str}:∀{binds:List (Str×Value)} {m:Str→Option Value},(∀v,(x,v)∉binds)→bindC kindOf binds m x=m x
 | [],_,_=>rfl
 | (n,v)::r,m,h=>by
  unfold bindC;rw[iu fun w hw=>h w (mem_cons_of_mem _ hw)];split
  ·rfl
  ·have:x≠n:=by rintro rfl;exact h v mem_cons_self
   simp[this]
theorem iA {kindOf:Str→Option NameKind}{x:Str}{v:Value}:∀{P:List Str} {vs:List Value} {i:Nat} {m:Str→Option Value},P.Nodup→P[i]?=some x→vs[i]?=some v→kindOf x=some .local→
  bindL kindOf (P.zip vs) m x=some v
 | [],_,_,_,_,h,_,_=>by simp at h
 | _::_,[],_,_,_,_,h,_=>by simp at h
 | p::P,w::vs,0,m,nd,h1,h2,hk=>by
  simp at h1 h2;subst h1;subst h2;show bindL kindOf ((p,w)::P.zip vs) m p=_;unfold bindL;rw[ib fun v hv=>(nodup_cons.mp nd).1 (of_mem_zip hv).1,if_pos hk];simp
 | p::P,w::vs,i+1,m,nd,h1,h2,hk=>by
  show bindL kindOf ((p,w)::P.zip vs) m x=_;unfold bindL;exact iA (i:=i) (nodup_cons.mp nd).2 (by simpa using h1) (by simpa using h2) hk
theorem ik {kindOf:Str→Option NameKind}{x:Str}{v:Value}:∀{P:List Str} {vs:List Value} {i:Nat} {m:Str→Option Value},P.Nodup→P[i]?=some x→vs[i]?=some v→kindOf x≠some .local→
  bindC kindOf (P.zip vs) m x=some v
 | [],_,_,_,_,h,_,_=>by simp at h
 | _::_,[],_,_,_,_,h,_=>by simp at h
 | p::P,w::vs,0,m,nd,h1,h2,hk=>by
  simp at h1 h2;subst h1;subst h2;show bindC kindOf ((p,w)::P.zip vs) m p=_;unfold bindC;rw[iu fun v hv=>(nodup_cons.mp nd).1 (of_mem_zip hv).1,if_neg hk];simp
 | p::P,w::vs,i+1,m,nd,h1,h2,hk=>by
  show bindC kindOf ((p,w)::P.zip vs) m x=_;unfold bindC;exact ik (i:=i) (nodup_cons.mp nd).2 (by simpa using h1) (by simpa using h2) hk
def start (N:List Str)(vs:List V):St:=vs.map some++List.replicate (N.length-vs.length) none
def dA (CX:mn)(P:Program)(w:World)(K:W.Frag)(mg:Str→Option Value)(base:Heap)(N:List Str)(qual:Str)(scope:Scope)(f:Addr)(cd:Value)(A:Around)(outer:List Env)(s:Shared)(H:Hp)(E:XK):Cx where
 prog:=P
 w:=w
 K:=K
 mg:=mg
 base:=base
 A:=A.deeper (envOfC qual scope s.heap.objs.size f cd)
 N:=N
 s₀:=s
 H₀:=H
 env:=envOfC qual scope s.heap.objs.size f cd
 outer:=outer
 stack:=envOfC qual scope s.heap.objs.size f cd::outer
 ex:=[]
 calm:=true
 fn:=fun _=>true
 pn:=[]
 xe:=fun e s'=>wpAny (model P w) (A.deeper (envOfC qual scope s.heap.objs.size f cd)) (leaving (envOfC qual scope s.heap.objs.size f cd) e) (fun _ s''=>CX outer H s E e s'') (fun e' s''=>CX outer H s E e' s'') s'
theorem jH {sc:Scope}{n:Nat}{x:Str}(h:sc.names.lookup x=some .cell):∃c,(cellsFrom n sc.names []).lookup x=some c:=by
 have q:=W.cellsFrom_some sc.names n [] (.inl h);exact Option.isSome_iff_exists.mp q
theorem mj {CX:mn}{P:Program}{w:World}{K:W.Frag}{mg:Str→Option Value}{base:Heap}{N ps:List Str}{qual:Str}{scope:Scope}{f:Addr}{cd:Value}{A:Around}{outer:List Env}{s s1:Shared}{H:Hp}{E:XK}{us:List Value}{vs:List V}
  (S:cr N ps scope) (hd:A.handled=none) (e0:oS P w K mg base A outer s H) (hl:vs.length=ps.length) (r:az vs us)
  (x:InCallC s s.heap.objs.size (bindL (envOfC qual scope s.heap.objs.size f cd).kindOf (ps.zip us) fun _=>none) (cellsFrom (s.heap.objs.size+1) scope.names []) (bindC (envOfC qual scope s.heap.objs.size f cd).kindOf (ps.zip us) fun _=>none) s1) :
  Inv (dA CX P w K mg base N qual scope f cd A outer s H E) [] (start N vs) H s1:=by
 have hpl:ps.length≤N.length:=by have:=congrArg List.length S.pre;rw[length_take] at this;omega
 obtain⟨h1,tk,rfl,hk⟩:=x.done;have noA:∀b:Addr,b∉(dA CX P w K mg base N qual scope f cd A outer s H E).ex:=fun b z=>absurd (show b∈([]:List Addr) from z) (by simp)
 refine⟨⟨e0.mod,S.kind,rfl,rfl,Nat.le_refl _,fun y z c h1 h2=>?_,fun y hy=>?_,fun y c _ h=>?_,fun _=>hd,Around.frames_deeper e0.frames,.inr ⟨rfl,rfl⟩,fun b z=>absurd z (noA b),e0.bs,e0.bsz,fun b _ _=>noA b,fun b z=>absurd z (noA b),e0.funs,e0.frf⟩,
  rfl,e0.bare,Un.kept hk,⟨_,x.toInCall.ns,fun i y v h1 h2 h3=>?_⟩,fun y c h=>⟨_,x.cell y c h⟩,e0.hok.fresh (Nat.le_refl _),fun y c h=>?_,fun p hp=>absurd (show p∈([]:List (Addr×Obj)) from hp) (by simp),e0.hok.kept hk,?_⟩
 ·exact name_of_addr x.apart (PySem.mem_of_lookup h1) (PySem.mem_of_lookup h2)
 ·have hy:scope.names.lookup y=some .cell∨scope.names.lookup y=some .free:=hy;rcases hy with hy|hy
  ·exact jH hy
  ·exact absurd rfl (S.nofree _ (PySem.mem_of_lookup hy))
 ·exact Nat.le_of_lt (x.above y c (PySem.mem_of_lookup h))
 ·have hi:i<vs.length:=by
   unfold start at h2
   by_cases hi:i<vs.length
   ·exact hi
   ·rw[getElem?_append_right (by simpa using hi)] at h2;rw[getElem?_replicate] at h2;split at h2 <;> cases h2
  have ha:vs[i]?=some v:=by
   unfold start at h2;rw[getElem?_append_left (by simpa using hi),getElem?_map] at h2;cases e:vs[i]? with
   | none=>rw[e] at h2;cases h2
   | some a=>rw[e] at h2;cases h2;rfl
  obtain⟨u,hu,rv⟩:=r.get ha;have hp:ps[i]?=some y:=by
   rw[←S.pre,getElem?_take_of_lt (by omega)];exact h1
  have ndP:ps.Nodup:=by rw[←S.pre];exact S.nd.sublist (take_sublist _ _)
  refine⟨u,rv,?_⟩;rcases S.par y (mem_of_getElem? hp) with k|k
  ·exact .inl ⟨k,iA ndP hp hu k⟩
  ·obtain⟨c,e⟩:=jH (n:=s.heap.objs.size+1) k;refine .inr ⟨.inl k,c,e,?_⟩;have q:=x.cell y c e;rw[ik ndP hp hu (by show scope.names.lookup y≠_;rw[k];decide)] at q;exact q
 ·exact e0.hok.fresh (Nat.le_of_lt (x.above y c (PySem.mem_of_lookup h)))
 ·unfold start;show _=N.length;rw[length_append,length_map,length_replicate];omega
theorem p6 {CX:mn}{P:Program}{w:World}{K:W.Frag}{mg:Str→Option Value}{base:Heap}{k:Nat}{f:Addr}{name qual:Str}{params:Arguments}{body:List Stmt}{scope:Scope}{dV kV doc pm cdv ct oc:Value}{an od:Option Addr}
  {osl:Array (Option Value)} {N ps:List Str} {sp:Sp} (lk:K.lookup f=some ⟨oc,od,.func (W.fnOf name qual params body scope dV kV doc pm an cdv ct),osl⟩) (hcd:W.codeIn K cdv qual=true) (S:cr N ps scope)
  (len:∀vs H Q E,sp vs H Q E→vs.length=ps.length)
  (hbody:∀(A:Around) (outer:List Env) (s:Shared) (H:Hp) (vs:List V) (Q:VK) (E:XK),bf k (A.deeper (envOfC qual scope s.heap.objs.size f cdv))→sp vs H Q E→
   ∃t,PSs (dA CX P w K mg base N qual scope f cdv A outer s H E) body t∧t {nx:=fun _ H'=>Q .non H',rt:=Q} (start N vs) H) :
  cQ P w K mg base CX (k+1) f (W.fnOf name qual params body scope dV kV doc pm an cdv ct) ps sp:=by
 refine⟨len,fun A outer s H args us vs Q E hr e0 hb r hsp=>?_⟩;have hl:=len _ _ _ _ hsp;have KX:K.In s.heap:=e0.mod.kin.keeps fun b o e=>(e0.bs b o e).1
 have lim:s.heap.NoLimit:=e0.mod.nolimit.keeps fun b o e=>(e0.bs b o e).1
 have hkind:∀y∈ps.zip us,scope.names.lookup y.1=some .local∨(scope.names.lookup y.1=some .cell∧((cellsFrom (s.heap.objs.size+1) scope.names []).lookup y.1).isSome=true):=fun⟨n,v⟩ hy=>by
  rcases S.par n (of_mem_zip hy).1 with q|q
  ·exact .inl q
  ·exact .inr ⟨q,W.cellsFrom_some _ _ _ (.inl q)⟩
 refine codeAny_call_function hr.depth (KX _ _ lk) rfl S.co S.gen rfl (W.codeRec_of KX hcd) (hb _ _ _ _ ?_);refine wpAny_newFunctionEnv_cells S.kind hkind fun env he s1 x=>?_
 subst he;refine⟨lim.keeps x.toInCall.keep,codeAny_func ?_⟩;obtain⟨t,ht,hq⟩:=hbody A outer s H vs Q E (hr.deeper _) hsp;have I:Inv (dA CX P w K mg base N qual scope f cdv A outer s H E) [] (start N vs) H s1:=mj S hr.hd e0 hl r x;refine wpAny_mono (ht [] s1 (start N vs) H _ I hq) (fun fl s' hs=>?_) fun e s' hs=>hs
 have fin:∀{σ':St} {H':Hp} {v:V} {u:Value},Inv (dA CX P w K mg base N qual scope f cdv A outer s H E) [] σ' H' s'→aM v u→Q v H'→CE outer P w H s Q u s':=
  fun {σ' H' v u} J rv q=>⟨v,H',J.os,J.bare,J.base,J.hok,rv,q⟩
 cases fl with
 | ret u=>
  obtain⟨v,σ',H',J,rv,q⟩:=hs;exact fin J rv q
 | next=>
  obtain⟨σ',H',J,q⟩:=hs;exact fin (v:=V.non) (u:=Value.none) J rfl q
 | brk=>
  obtain⟨_,_,_,q⟩:=hs;exact False.elim q
 | cont=>
  obtain⟨_,_,_,q⟩:=hs;exact False.elim q
section
variable {X:Cx}{x:Str}{p pos:Pos}{e:Expr}{es:List Expr}{t:TA}{id T:String}{r:List V→Hp→VK→Prop}
def wL (r:List V→Hp→VK→Prop)(t:TA):TE:=fun σ H Q=>t σ H fun vs H1=>r vs H1 Q
theorem jt (hc:bV X (.builtin id) r)(hg:Gl X x)(hm:X.mg x=none)(hv:bootBuiltins x=some (.builtin id))(ha:PA X (e::es) t)(hn:x≠"__name__":=by decide)(hdb:(x==("__debug__":Str))=false:=by decide)
  (he:starEach (e::es) X.env=(false,eval e X.env)::starEach es X.env:=by rfl) (hpl:(backTo pos (starEach es X.env)).any (·.1)=false:=by rfl):PE X (.Call (.Name x p) (e::es) [] pos) (wL r t):=by
 intro ab s σ H Q I h;refine wpAny_Call_Name_kw (dY I hg hm hv ?_ hn hdb);exact PyProof.Rows.callWith_builtin1 (bL (ha pos ab s σ H _ I h) fun us s1 ⟨vs,H1,I1,r1,q1⟩=>hc ab s1 σ H1 vs us Q I1 r1 q1) he hpl
theorem lb (hc:bV X (.type T) r)(hg:Gl X x)(hm:X.mg x=none)(hv:bootBuiltins x=some (.type T))(ha:PA X (e::es) t)(hn:x≠"__name__":=by decide)(hdb:(x==("__debug__":Str))=false:=by decide)
  (he:starEach (e::es) X.env=(false,eval e X.env)::starEach es X.env:=by rfl) (hpl:(backTo pos (starEach es X.env)).any (·.1)=false:=by rfl):PE X (.Call (.Name x p) (e::es) [] pos) (wL r t):=by
 intro ab s σ H Q I h;refine wpAny_Call_Name_kw (dY I hg hm hv ?_ hn hdb);exact PyProof.Rows.callWith_type1 (bL (ha pos ab s σ H _ I h) fun us s1 ⟨vs,H1,I1,r1,q1⟩=>hc ab s1 σ H1 vs us Q I1 r1 q1) he hpl
end
end L2
namespace HT
open PySem PyProof.Rows
def lexLt:List Int→List Int→Bool
 | [],[]=>false
 | [],_::_=>true
 | _::_,[]=>false
 | x::xs,y::ys=>if x=y then lexLt xs ys else decide (x<y)
theorem lexLt_cons (x y:Int)(xs ys:List Int):lexLt (x::xs) (y::ys)=if x=y then lexLt xs ys else decide (x<y):=rfl
section
open PySem.SeqAt
open PySem.AutoSeq1 (wpAny_loadPart')
open PySem.MeetsSeq PySem.MeetsSeq2 PySem.MeetsSeq3
end
section
variable {prog:Program}{w:World}{A:Around}{E:Value→Shared→Prop}{s:Shared}
theorem cat_tup {t b:Addr}{vs ws:List Value}{Q:Value→Shared→Prop}(ht:IsTup s.heap t vs.toArray)(hb:IsTup s.heap b ws.toArray)(hv:vs≠[])
  (h1:ws=[]→Q (.ref t) s) (h2:ws≠[]→Q (.ref s.heap.objs.size) {s with heap:=s.heap.push {cls:=.type "tuple",data:=.seq (vs++ws).toArray}})
  (hsz:vs.length+ws.length≤sizeLine):wpAny (model prog w) A (binaryOp .Add (.ref t) (.ref b)) Q E s:=by
 obtain⟨⟨cls,dd,data,sl⟩,ho,hc,n,hd⟩:=id ht;obtain⟨⟨cls2,dd2,data2,sl2⟩,ho2,hc2,n2,hd2⟩:=id hb;simp only at hc hd hc2 hd2;subst hc hd hc2 hd2;have e:vs.toArray++ws.toArray=(vs++ws).toArray:=by simp
 by_cases hw:ws=[]
 ·exact concat_meets ⟨_,ho,rfl⟩ ⟨_,ho2,rfl⟩ noFill_tuple_add seq_tuple_add PySem.F.slot_tuple_add PySem.F.entry_tuple_add (PySem.F.args_tuple_add_2 _ _)
   (tuple_addW1 t b vs.toArray ws.toArray n n2 dd dd2 sl sl2 (by simpa using hv) (by simp[hw])) ⟨ho,ho2,h1 hw⟩
 ·refine concat_meets ⟨_,ho,rfl⟩ ⟨_,ho2,rfl⟩ noFill_tuple_add seq_tuple_add PySem.F.slot_tuple_add PySem.F.entry_tuple_add (PySem.F.args_tuple_add_2 _ _)
   (tuple_addW2 t b vs.toArray ws.toArray n n2 dd dd2 sl sl2 (by simpa using hv) (by simpa using hw) (by rw[List.size_toArray,List.size_toArray];exact hsz)) ⟨ho,ho2,?_⟩
  rw[e];exact h2 hw
end
end HT
namespace L2
open PySem PySem.Spec PyProof.Rows List
abbrev TO:=St→Hp→(Option Int→Hp→Prop)→Prop
theorem j0 {ns:List Int}:∀{us:List Value},az (ns.map V.int) us→IntsAre us ns:=by
 induction ns with
 | nil=>intro us r;rw[map_nil] at r;cases r;exact .nil
 | cons n ns ih=>
  intro us r;rw[map_cons] at r;cases r with
  | cons r1 r2=>
   obtain⟨t,e⟩:=r1;subst e;exact .cons n t (ih r2)
section
variable {X:Cx}{e:Expr}{te:TE}{lo hi:Option Expr}{tl th:TO}{pos p2:Pos}
def uS (K:W.Frag):R2:=fun x y H Q=>∃a b xs ys,x=.ref a∧y=.ref b∧gZ K H a xs∧gZ K H b ys∧xs≠[]∧xs.length+ys.length≤sizeLine∧
 (ys=[]→Q (.ref a) H)∧(ys≠[]→∀p,H p=none→Q (.ref p) (bu H p (.tup (xs++ys))))
theorem az.nil_iff {xs:List V}{us:List Value}(r:az xs us):us=[]↔xs=[]:=by
 cases r with
 | nil=>simp
 | cons _ _=>simp
theorem oQ:c4 X (binaryOp .Add) (uS X.K):=by
 intro ab s σ H x y v u Q I rx ry h;obtain⟨a,b,xs,ys,rfl,rfl,ha,hb,hx,hz,q1,q2⟩:=h;cases rx;cases ry;obtain⟨its,r1,p1,_⟩:=I.tuple ha;obtain⟨its2,r2,p2,_⟩:=I.tuple hb;refine HT.cat_tup p1 p2 (fun z=>hx (r1.nil_iff.mp z)) (fun z=>⟨.ref a,H,I,rfl,q1 (r2.nil_iff.mp z)⟩) (fun z=>?_) (by rw[←r1.length,←r2.length];exact hz);refine⟨.ref s.heap.objs.size,_,I.laid (t':=s.toks) (o:=.tup (xs++ys)) (fun b ob q=>Heap.get?_push_of_some _ q) (Nat.le_refl _) ?_,rfl,q2 (fun w=>z (r2.nil_iff.mpr w)) _ (I.hok.fresh (Nat.le_refl _))⟩;exact⟨by rw[length_append];exact hz,_,r1.append r2,IsTup.new _ _⟩
end
def nC (n:Nat)(i:Int):Option Nat:=if 0≤i then(if i<n then some i.toNat else none) else if -(n:Int)≤i then some (i+n).toNat else none
def mm {α:Type}(xs:List α)(i:Int):Option α:=(nC xs.length i).bind fun j=>xs[j]?
theorem kF {n:Nat}{i:Int}{j:Nat}(h:nC n i=some j):seqIndex? i n=some j∧j<n∧-(n:Int)≤i∧i<n:=by
 unfold nC at h
 by_cases h0:0≤i
 ·rw[if_pos h0] at h
  by_cases h1:i<n
  ·rw[if_pos h1] at h;have e:i.toNat=j:=Option.some.inj h;exact⟨by rw[seqIndex_of h0 h1,e],by omega,by omega,h1⟩
  ·rw[if_neg h1] at h;cases h
 ·rw[if_neg h0] at h
  by_cases h1:-(n:Int)≤i
  ·rw[if_pos h1] at h;have e:(i+n).toNat=j:=Option.some.inj h;exact⟨by rw[seqIndex_neg (by omega) h1,e],by omega,h1,by omega⟩
  ·rw[if_neg h1] at h;cases h
theorem k5 {α:Type}{xs:List α}{i:Int}{v:α}(h:mm xs i=some v):∃j,seqIndex? i xs.length=some j∧xs[j]?=some v∧j<xs.length∧-(xs.length:Int)≤i∧i<xs.length:=by
 unfold mm at h;cases e:nC xs.length i with
 | none=>rw[e] at h;cases h
 | some j=>
  rw[e] at h;obtain⟨h1,h2,h3,h4⟩:=kF e;exact⟨j,h1,h,h2,h3,h4⟩
theorem fK {α:Type}{xs:List α}{j:Nat}{v:α}(h:xs[j]?=some v):mm xs (j:Int)=some v:=by
 have hj:j<xs.length:=(List.getElem?_eq_some_iff.mp h).1;have e:nC xs.length (j:Int)=some j:=by
  unfold nC;rw[if_pos (by omega),if_pos (by omega)];simp
 unfold mm;rw[e];exact h
def iH (b:Expr):Prop:=∀o i,subscripted b false o i=operate [o,i] (getItem o i)
def wu (X:Cx)(r:R2):Prop:=
 ∀(value slice:Expr) (ab:List (Addr×Obj)) (s:Shared) (σ:St) (H:Hp) (x y:V) (v u:Value) (Q:VK),Inv X ab σ H s→aM x v→aM y u→r x y H Q→
  subscripted slice false v u=operate [v,u] (getItem v u)→wpAny (model X.prog X.w) X.A (subscriptTail value slice v u) (EP X ab σ Q) X.xe s
def yj (X:Cx)(id:String)(r:V→List V→Hp→VK→Prop):Prop:=
 ∀(ab:List (Addr×Obj)) (s:Shared) (σ:St) (H:Hp) (x:V) (xs:List V) (v:Value) (us:List Value) (Q:VK),Inv X ab σ H s→aM x v→az xs us→r x xs H Q→
  wpAny (model X.prog X.w) X.A (call (.builtin id) (v::us)) (EP X ab σ Q) X.xe s
section
variable {X:Cx}{a b:Expr}{ta tb:TE}{pos:Pos}
theorem vZ {r:R2}(hr:wu X r)(ha:PE X a ta)(hb:PE X b tb)(hs:iH b):PE X (.Subscript a b pos) (v2 r ta tb):=by
 intro ab s σ H Q I h;exact Subscript_ (rU ha hb I h fun v u s2 x y H2 I2 rx ry q=>hr a b ab s2 σ H2 x y v u Q I2 rx ry q (hs _ _))
def xt (K:W.Frag):R2:=fun x y H Q=>∃p xs i v,x=.ref p∧y=.int i∧fA K H p xs∧mm xs i=some v∧Q v H
def wX (K:W.Frag):R2:=fun x y H Q=>∃p xs i v,x=.ref p∧y=.int i∧gZ K H p xs∧mm xs i=some v∧Q v H
theorem pj:wu X (xt X.K):=by
 intro value slice ab s σ H x y v u Q I rx ry h hs;obtain⟨p,xs,i,z,rfl,rfl,hq,he,q⟩:=h;cases rx;obtain⟨t,rfl⟩:=ry;obtain⟨its,r,pl,hz⟩:=I.list hq;obtain⟨j,h1,h2,h3,h4,h5⟩:=k5 he;obtain⟨w,ew,rw'⟩:=r.get h2;have hl:=r.length;have hn:=fo;have fin:EP X ab σ Q w s:=⟨z,H,I,rw',q⟩
 by_cases h0:0≤i
 ·have hj:i.toNat=j:=by
   rw[seqIndex_of h0 h5] at h1;exact Option.some.inj h1
  exact item_listR pl.isList h0 (by omega) (by rw[hj];simpa using ew) fin hs
 ·have hj:(i+(its.toArray.size:Int)).toNat=j:=by
   rw[seqIndex_neg (by omega) h4] at h1;rw[size_toArray,←hl];exact Option.some.inj h1
  exact subscriptTail_builtinR (x:=w) pl.isList.typeIs slot_list_getitem.lookup
   (wpAny_getItem_list_neg (Q:=fun r s'=>r=w∧EP X ab σ Q r s') pl.isList (by omega) (by rw[size_toArray] <;> omega) (by omega) (by rw[hj];simpa using ew) ⟨rfl,fin⟩) hs
theorem rS:wu X (wX X.K):=by
 intro value slice ab s σ H x y v u Q I rx ry h hs;obtain⟨p,xs,i,z,rfl,rfl,hq,he,q⟩:=h;cases rx;obtain⟨t,rfl⟩:=ry;obtain⟨its,r,pl,hz⟩:=I.tuple hq;obtain⟨j,h1,h2,h3,h4,h5⟩:=k5 he;obtain⟨w,ew,rw'⟩:=r.get h2;have hl:=r.length;have hn:=fo;have fin:EP X ab σ Q w s:=⟨z,H,I,rw',q⟩;exact subscriptTail_builtinR (x:=w) pl.typeIs slot_tuple_getitem.lookup
  (getItem_tuple (j:=j) (Q:=fun r s'=>r=w∧EP X ab σ Q r s') pl (by omega) (by omega) (by rw[size_toArray,←hl];exact h1) (by simpa using ew) ⟨rfl,fin⟩) hs
theorem jP (its:List Value)(n j:Nat)(u:Value):Obj.mapSeq (·.setIfInBounds j u) {cls:=.type "list",data:=.seq its.toArray n}={cls:=.type "list",data:=.seq (its.set j u).toArray n}:=by
 simp[Obj.mapSeq]
theorem Inv.lst {ab:List (Addr×Obj)}{σ:St}{H:Hp}{s:Shared}{p:Addr}{xs:List V}(I:Inv X ab σ H s)(h:H p=some (.lst xs)) :
  ∃(its:List Value) (n:Nat),az xs its∧s.heap.get? p=some {cls:=.type "list",data:=.seq its.toArray n}∧xs.length≤sizeLine:=by
 obtain⟨z,its,n,r,e⟩:=I.hok p _ h;exact⟨its,n,r,e,z⟩
theorem Inv.lstUpd {ab:List (Addr×Obj)}{σ:St}{H:Hp}{s:Shared}{p:Addr}{xs ys:List V}{its its':List Value}{n n':Nat}{f:Obj→Obj}(I:Inv X ab σ H s)(h:H p=some (.lst xs))
  (ho:s.heap.get? p=some {cls:=.type "list",data:=.seq its.toArray n}) (hf:f {cls:=.type "list",data:=.seq its.toArray n}={cls:=.type "list",data:=.seq its'.toArray n'}) (r:az ys its') (hz:ys.length≤sizeLine) (t:Nat) :
  Inv X ab σ (bu H p (.lst ys)) {s with heap:=s.heap.update p f,toks:=t}:=by
 have e:(s.heap.update p f).get? p=some {cls:=.type "list",data:=.seq its'.toArray n'}:=by
  rw[Heap.get?_update_self f ho (by rw[hf] <;> rfl),hf]
 refine I.write (x:=p) (e:=p) (by rw[h];trivial) (.inl rfl) (fun b u hb q=>(Heap.get?_update_other _ _ (Ne.symm hb)).trans q) ⟨_,e⟩ ?_;exact⟨hz,its',n',r,e⟩
def vH:V→V→V→Hp→(Hp→Prop)→Prop:=fun o i v H Q=>∃p xs k j,o=.ref p∧i=.int k∧H p=some (.lst xs)∧nC xs.length k=some j∧Q (bu H p (.lst (xs.set j v)))
theorem ng:v4 X vH:=by
 intro ab s σ H o i v ov iv u Q I ro ri rv h;obtain⟨p,xs,k,j,rfl,rfl,hp,hj,q⟩:=h;cases ro;obtain⟨t,rfl⟩:=ri;obtain⟨its,n,r,ho,hz⟩:=I.lst hp;obtain⟨h1,h2,h3,h4⟩:=kF hj;have hl:=r.length;have hn:=fo;have I':Inv X ab σ (bu H p (.lst (xs.set j v))) {s with heap:=s.heap.update p (Obj.mapSeq (·.setIfInBounds j u))}:=
  I.lstUpd hp ho (jP its n j u) (r.set rv j) (by rw[length_set];exact hz) s.toks
 by_cases h0:0≤k
 ·have hk:k.toNat=j:=by
   rw[seqIndex_of h0 h4] at h1;exact Option.some.inj h1
  exact W.ki_setAt ho h0 (by omega) (by rw[size_toArray,←hl];exact h4) (by rw[hk];exact⟨_,I',q⟩)
 ·have hk:(k+(its.toArray.size:Int)).toNat=j:=by
   rw[seqIndex_neg (by omega) h3] at h1;rw[size_toArray,←hl];exact Option.some.inj h1
  exact W.ki_setBack ho (by omega) (by rw[size_toArray,←hl];exact h3) (by omega) (by rw[hk];exact⟨_,I',q⟩)
theorem iM:bV X (.builtin "len") (fun xs H Q=>∃p ys,xs=[.ref p]∧(fA X.K H p ys∨gZ X.K H p ys)∧Q (.int ys.length) H):=by
 intro ab s σ H xs us Q I r h;obtain⟨p,ys,rfl,hq,q⟩:=h;obtain⟨u,rfl,rx⟩:=im r;cases rx;have hn:=fo;rcases hq with hq|hq
 ·obtain⟨its,r',pl,hz⟩:=I.list hq;have hlen:=r'.length;exact Calls.call_len_list pl.isList (by simp only[size_toArray] <;> omega) ⟨.int ys.length,H,I.tok _,⟨s.toks+1,by rw[size_toArray,hlen]⟩,q⟩
 ·obtain⟨its,r',pl,hz⟩:=I.tuple hq;have hlen:=r'.length;exact len_tuple pl (by simp only[size_toArray] <;> omega) ⟨.int ys.length,H,I.tok _,⟨s.toks+1,by rw[size_toArray,hlen]⟩,q⟩
theorem iP:bV X (.builtin "len") (fun xs H Q=>∃z,xs=[.str z]∧z.length≤sizeLine∧Q (.int z.length) H):=by
 intro ab s σ H xs us Q I r h;obtain⟨z,rfl,hz,q⟩:=h;obtain⟨u,rfl,t,rfl⟩:=im r;have hn:=fo;exact len_str (by omega) ⟨.int z.length,H,I.tok _,⟨_,rfl⟩,q⟩
theorem iX:bV X (.type "list") (fun xs H Q=>∃p ys,xs=[.ref p]∧(fA X.K H p ys∨gZ X.K H p ys)∧∀l,H l=none→Q (.ref l) (bu H l (.lst ys))):=by
 intro ab s σ H xs us Q I r h;obtain⟨p,ys,rfl,hq,q⟩:=h;obtain⟨u,rfl,rx⟩:=im r;cases rx;have fin:∀(its:List Value),az ys its→ys.length≤sizeLine→∀(h':Heap) (c':Nat),(∀b o',s.heap.get? b=some o'→h'.get? b=some o')→
   h'.get? s.heap.objs.size=some {cls:=.type "list",dict:=none,data:=.seq its.toArray c',slots:=#[]}→EP X ab σ Q (.ref s.heap.objs.size) {s with heap:=h'}:=fun its r' hz h' c' kp e=>
  ⟨.ref s.heap.objs.size,_,I.laid (t':=s.toks) kp (Nat.le_refl _) (show bO X.prog X.w _ h' _ (.lst ys) from⟨hz,its,c',r',e⟩),rfl,q _ (I.hok.fresh (Nat.le_refl _))⟩
 rcases hq with hq|hq
 ·obtain⟨its,r',pl,hz⟩:=I.list hq;have hlen:=r'.length;obtain⟨o,ho,hc,n,hd⟩:=pl.isList;exact call_list_seq p (.inl rfl) ho hc hd (fun h' c' kp e=>fin its r' hz h' c' kp e) (by simp only[size_toArray] <;> omega)
 ·obtain⟨its,r',pl,hz⟩:=I.tuple hq;have hlen:=r'.length;obtain⟨o,ho,hc,n,hd⟩:=pl;exact call_list_seq p (.inr rfl) ho hc hd (fun h' c' kp e=>fin its r' hz h' c' kp e) (by simp only[size_toArray] <;> omega)
def ya (K:W.Frag)(T:String)(x:V)(H:Hp):Prop:=match x with
 | .str _=>T="str"
 | .int _=>T="int"
 | .ref p=>(T="list"∧∃xs,fA K H p xs)∨(T="tuple"∧∃o,K.lookup p=some o∧o.cls=.type "tuple"∧o.dict=none)∨
   (T="dict"∧((∃kvs,H p=some (.dK kvs))∨∃kvs,H p=some (.dT kvs)))∨(T="set"∧∃S n,H p=some (.set S n))
 | _=>False
theorem rK {ab:List (Addr×Obj)}{σ:St}{H:Hp}{s:Shared}{T:String}{x:V}{v:Value}(I:Inv X ab σ H s)(r:aM x v)(ty:ya X.K T x H) :
  s.TypeIs v T∧∀a,v=.ref a→∃ob,s.heap.get? a=some ob∧ob.dict=none:=by
 cases x with
 | str z=>
  obtain⟨t,rfl⟩:=r;cases (show T="str" from ty);exact⟨typeIs_str s z t,fun _ e=>nomatch e⟩
 | int i=>
  obtain⟨t,rfl⟩:=r;cases (show T="int" from ty);exact⟨typeIs_int s i t,fun _ e=>nomatch e⟩
 | ref p=>
  cases r;rcases ty with⟨rfl,xs,hq⟩|⟨rfl,o,hk,hc,hd⟩|⟨rfl,hk⟩|⟨rfl,S,n,hk⟩
  ·obtain⟨its,_,pl,_⟩:=I.list hq;refine⟨pl.isList.typeIs,fun a e=>?_⟩;cases e;obtain⟨o,n,e,c,hd,_⟩:=pl;exact⟨o,e,hd⟩
  ·refine⟨⟨o,I.kIn p o hk,hc⟩,fun a e=>?_⟩;cases e;exact⟨o,I.kIn _ o hk,hd⟩
  ·have z:∃o,s.heap.get? p=some o∧o.ExactDict:=by
    rcases hk with⟨kvs,hk⟩|⟨kvs,hk⟩
    ·obtain⟨_,_,_,_,o,_,_,e,ex,_⟩:=I.hok p _ hk;exact⟨o,e,ex⟩
    ·obtain⟨_,_,_,_,o,_,_,e,ex,_⟩:=I.hok p _ hk;exact⟨o,e,ex⟩
   obtain⟨o,e,ex⟩:=z;refine⟨⟨o,e,ex.1⟩,fun a e2=>?_⟩;cases e2;exact⟨o,e,ex.2.1⟩
  ·obtain⟨o,_,_,_,e,ex,_⟩:=I.hok p _ hk;refine⟨⟨o,e,ex.1⟩,fun a e2=>?_⟩;cases e2;exact⟨o,e,ex.2.1⟩
 | _=>exact False.elim ty
def yd (K:W.Frag)(T:String)(r:V→List V→Hp→VK→Prop)(to:TE)(t:TA):TE:=fun σ H Q=>to σ H fun x H1=>ya K T x H1∧t σ H1 fun xs H2=>r x xs H2 Q
variable {o e:Expr}{es:List Expr}{to:TE}{t:TA}{name:Str}{apos cpos:Pos}{T id:String}{r:V→List V→Hp→VK→Prop}
theorem uO (pa:PlainAttrs T)(slot:Slot T name id)(hty:typeOf (.builtin id)=pure (.type "method_descriptor"))(hm:yj X id r)(ho:PE X o to)(ha:PA X (e::es) t)
  (hbase:attributeBase o name X.env (eval o X.env)=eval o X.env:=by rfl)
  (hfew:((backTo cpos (starEach (e::es) X.env)).all (fun x=>!x.1)&&(backToKw cpos (keywordEach [] X.env)).all (fun x=>x.1.isSome)
   && decide ((e::es).length+([]:List Keyword).length+(if([]:List Keyword).isEmpty then 0 else 1)<30))=true:=by rfl)
  (hline:(apos.endLine==cpos.line)=true:=by rfl) (hs:starEach (e::es) X.env=(false,eval e X.env)::starEach es X.env:=by rfl) (hplain:(backTo cpos (starEach es X.env)).any (·.1)=false:=by rfl) :
  PE X (.Call (.Attribute o name apos) (e::es) [] cpos) (yd X.K T r to t):=by
 intro ab s σ H Q I h;refine wpAny_Call_method_late hbase hfew hline rfl (bL (ho ab s σ H _ I h) fun v s1 hxx=>?_);obtain⟨x,H1,I1,r1,ty,q1⟩:=hxx;obtain⟨h1,h2⟩:=rK I1 r1 ty;refine⟨T,id,pa,slot,hty,h1,h2,?_⟩;have hA:=ha cpos ab s1 σ H1 _ I1 q1;rw[hs] at hA ⊢;refine Calls.callWith_builtin (by show(false||(backTo cpos (starEach es X.env)).any (·.1))=false;rw[hplain] <;> rfl) (Calls.evalArgs_plain ?_);exact bL hA fun us s2 ⟨vs,H2,I2,r2,q2⟩=>hm ab s2 σ H2 x vs v us Q I2 r1 r2 q2
end
def yi (X:Cx)(id:String)(r:V→List V→Hp→VK→Prop):Prop:=
 ∀(ab:List (Addr×Obj)) (s:Shared) (σ:St) (H:Hp) (x:V) (xs:List V) (v:Value) (us:List Value) (Q:VK),Inv X ab σ H s→aM x v→az xs us→r x xs H Q→
  wpAny (model X.prog X.w) X.A (call (.builtin id) (v::us)) (EP X ab σ Q) X.xe s
theorem az.one:∀{x:V} {us:List Value},az [x] us→∃u,us=[u]∧aM x u
 | _,_,.cons r .nil=>⟨_,rfl,r⟩
theorem az.rep {xs:List V}{us:List Value}(h:az xs us):∀k:Nat,az (List.replicate k xs).flatten (List.replicate k us).flatten
 | 0=>.nil
 | k+1=>by
  rw[List.replicate_succ,List.replicate_succ,List.flatten_cons,List.flatten_cons];exact az.append h (az.rep h k)
theorem ii (its:List Value):∀(k:Nat) (acc:List Value),
  List.foldl (fun x1 x2=>x1++x2) acc.toArray (List.replicate k its.toArray)=(acc++(List.replicate k its).flatten).toArray
 | 0,acc=>by simp
 | k+1,acc=>by
  have e:acc.toArray++its.toArray=(acc++its).toArray:=by simp
  have e2:(acc++its)++(List.replicate k its).flatten=acc++(List.replicate (k+1) its).flatten:=by
   rw[List.replicate_succ,List.flatten_cons,append_assoc]
  rw[←e2,←ii its k (acc++its),←e,List.replicate_succ,foldl_cons]
section
variable {X:Cx}{ab:List (Addr×Obj)}{σ:St}{H:Hp}{s:Shared}{l b:Addr}{xs ys zs:List V}
theorem Inv.lset {its its':List Value}{n:Nat}{f:Array Value→Array Value}{t':Nat}(I:Inv X ab σ H s)(hH:H l=some (.lst xs))
  (e:s.heap.get? l=some {cls:=.type "list",data:=.seq its.toArray n}) (hf:f its.toArray=its'.toArray) (hv:az ys its') (hz:ys.length≤sizeLine) :
  Inv X ab σ (bu H l (.lst ys)) {s with heap:=s.heap.update l (Obj.mapSeq f),toks:=t'}:=by
 have q:=PySem.IsL.update e f;rw[hf] at q;refine I.write (x:=l) (e:=l) (by rw[hH];exact trivial) (.inl rfl) (fun b' u hb hu=>(Heap.get?_update_other s.heap (Obj.mapSeq f) (Ne.symm hb)).trans hu) ⟨_,q⟩ ?_;exact⟨hz,its',_,hv,q⟩
theorem Inv.lnew {its:List Value}{t':Nat}(I:Inv X ab σ H s)(hv:az ys its)(hz:ys.length≤sizeLine) :
  Inv X ab σ (bu H s.heap.objs.size (.lst ys)) {s with heap:=s.heap.push {cls:=.type "list",data:=.seq its.toArray},toks:=t'}:=
 I.laid (fun _ _ q=>Heap.get?_push_of_some _ q) (Nat.le_refl _) ⟨hz,its,0,hv,Heap.get?_push_size _ rfl⟩
theorem Inv.fresh (I:Inv X ab σ H s):H s.heap.objs.size=none:=I.hok.fresh (Nat.le_refl _)
theorem Inv.lstM (I:Inv X ab σ H s)(hH:H l=some (.lst xs)):xs.length≤sizeLine∧∃(its:List Value) (n:Nat),az xs its∧xs.length=its.length∧s.heap.get? l=some {cls:=.type "list",data:=.seq its.toArray n}:=by
 obtain⟨z,its,n,r,e⟩:=I.hok l _ hH;exact⟨z,its,n,r,r.length,e⟩
end
section
variable {X:Cx}
def oy:V→List V→Hp→VK→Prop:=fun x vs H Q=>∃l xs y,x=.ref l∧vs=[y]∧H l=some (.lst xs)∧xs.length<sizeLine∧Q .non (bu H l (.lst (xs++[y])))
theorem lB:yi X "list.append" oy:=by
 intro ab s σ H x vs v us Q I rx rv h;obtain⟨l,xs,y,rfl,rfl,hH,hz,q⟩:=h;cases rx;obtain⟨u,rfl,ru⟩:=rv.one;obtain⟨z,its,n,r,hl,e⟩:=I.lstM hH;refine call_meets F.slot_list_append ⟨_,e,rfl⟩ F.entry_list_append (F.args_list_append_2 _ _) (PySem.list_append l its.toArray n u (by rw[size_toArray];omega)) ⟨e,?_⟩;refine⟨.non,_,I.lset (its':=its++[u]) hH e (by simp) (r.append (.cons ru .nil)) ?_,rfl,q⟩;rw[length_append,length_singleton];omega
def xR:R2:=fun x y H Q=>∃l b xs zs,x=.ref l∧y=.ref b∧H l=some (.lst xs)∧H b=some (.lst zs)∧xs.length+zs.length≤sizeLine∧∀p,H p=none→Q (.ref p) (bu H p (.lst (xs++zs)))
theorem t8:c4 X (binaryOp .Add) xR:=by
 intro ab s σ H x y v u Q I rx ry h;obtain⟨l,b,xs,zs,rfl,rfl,hH,hB,hz,q⟩:=h;cases rx;cases ry;obtain⟨z,its,n,r,hl,e⟩:=I.lstM hH;obtain⟨z2,its2,n2,r2,hl2,e2⟩:=I.lstM hB;refine PySem.P.add_list e e2 ?_ (by rw[size_toArray,size_toArray];omega);have ea:its.toArray++its2.toArray=(its++its2).toArray:=by simp
 rw[ea];exact⟨.ref _,_,I.lnew (t':=s.toks) (r.append r2) (by rw[length_append];omega),rfl,q _ I.fresh⟩
theorem kA {α:Type}(xs:List α)(k:Nat):(List.replicate k xs).flatten.length=k*xs.length:=by
 induction k with
 | zero=>simp
 | succ k ih=>rw[List.replicate_succ,List.flatten_cons,length_append,ih,Nat.succ_mul,Nat.add_comm]
end
end L2
namespace Att
open PySem PySem.W PySem.Calls PyProof.Rows
theorem fB {P:Params}{h:Heap}:∀(ns:List Int) (vs:List Value),WellAll P h vs (ns.map WData.int)→IntsAre vs ns:=by
 intro ns
 induction ns with
 | nil=>
  intro vs w;rw[List.map_nil] at w;cases w;exact .nil
 | cons n ns ih=>
  intro vs w;rw[List.map_cons] at w;cases w with
  | cons a b=>
   cases a;exact .cons _ _ (ih _ b)
theorem l4 {l:OpenLaw}{n:Nat}(hn:l.most=some n){P:Params}{h:Heap}{args:List WData}{vals:List Value}
  (hpre:l.row.toRowW.claim.pre args=true) (hwl:WellAll P h vals args) :
  ∃a vs ns,vals=[Value.ref a]∧args=[WData.list (ns.map WData.int)]∧h.get? a=some {cls:=.type "list",data:=.seq vs.toArray}∧IntsAre vs ns∧ns.length≤n:=by
 have hsh:WShape.hasAll [] args [.list .int]=true:=(pre_splitW hpre).1;have hc:l.pre.holds [] {args:=args}=true:=(pre_splitW hpre).2;obtain⟨d,r,rfl,h1,h2⟩:=hasAllW_cons hsh;obtain rfl:=hasAllW_nil h2;obtain⟨xs,rfl,h3⟩:=hasW_list h1;obtain⟨ns,rfl⟩:=items_int h3;have hlen:ns.length≤n:=by
  unfold OpenLaw.pre at hc;have h4:(WTm.not (.lt (.lit (.int (n:Int))) (.len (.arg 0)))).holds [] {args:=[.list (ns.map .int)]}=true:=by
   have h4:=(holds_andW hc).1;rw[hn] at h4;exact h4
  have h5:=condW_of h4 (w_not (w_lt w_lit (w_len_list (w_arg rfl))));rw[List.length_map] at h5;refine Nat.le_of_not_lt fun q=>?_
  have q':(n:Int)<((ns.length:Nat):Int):=by omega
  first
   | (rw[decide_eq_true q'] at h5;exact absurd h5 (by decide))
   | (simp at h5;omega)
 cases hwl with
 | cons w1 w2=>
  cases w2;cases w1 with
  | list ho hall=>exact⟨_,_,ns,rfl,rfl,ho,fB ns _ hall,hlen⟩
theorem lF (l:OpenLaw)(args:List WData):l.row.toRowW.claim.post args (.bool true) args=true:=
 postW_of (r:=l.row.toRowW) (X:=(true==true))
  (show WShape.has [] (.bool true) .bool=true by first|rfl|decide|simp[WShape.has,WShape.arms,WShape.armsAll])
  (show(WTm.eq .res (.lit (.bool true))).value [] {args:=args,res:=some (.bool true),after:=args}=some (.bool (true==true)) from w_eq_bool (w_res rfl) w_lit) rfl
theorem attach_call {l:OpenLaw}{n:Nat}{q:Program}{loose:List Str}{XP:(Str→Option Value)→Heap→Prop}{YP:World→Heap→Prop}{d:DefRec}
  (hn:l.most=some n) (hdf:d.params.defaults=[])
  (call:∀(w:World) (s₀ s₁:Shared) (mg mb:Str→Option Value) (fa:Addr) (o:Obj) (pm cd doc:Value) (a:Addr) (vs:List Value) (ns:List Int),
   Ground q loose [] XP w s₀ mg mb s₁.heap→YP w s₁.heap→
   s₁.heap.get? fa=some o→o.data=.func (docDef d.name d.params d.body d.scope pm cd doc)→s₁.heap.CodeRec cd d.name→mg d.name=some (.ref fa)→
   s₁.heap.get? a=some {cls:=.type "list",data:=.seq vs.toArray}→IntsAre vs ns→ns.length≤n→s₁.gens=#[]→
   codeAny (model l.prog w) callerA (.call (.ref fa) ⟨[.ref a],[]⟩) (fun r s'=>r=.ok (.ret (.bool true))∧OldK s₁.heap s'.heap∧s'.os=s₁.os∧AllBare s'.gens) s₁) :
  WalkO q loose XP YP l.row.toRowW d [] (fun f vs=>PySem.call f vs):=by
 intro w s₀ s₁ mg mb G Y fa o pm cd doc dV kV ho hd hcd hD hmg hg args vals as hpre hlay hrd hwl hlo;obtain rfl:dV=.none:=Dflts.none hD hdf;obtain rfl:kV=.none:=Dflts.noKw hD;obtain⟨a,vs,ns,rfl,rfl,hobj,hints,hlen⟩:=l4 hn hpre hwl;refine enter_call (codeAny_mono (call w s₀ s₁ mg mb fa o pm cd doc a vs ns G Y ho (fd_plain hd) hcd hmg hobj hints hlen hg) fun r s' hq=>?_);obtain⟨rfl,h2,h3,h4⟩:=hq;exact⟨.inl ⟨.bool true,.bool true,[],rfl,fun _=>rfl,.bool true,lF l _,fun _=>⟨List.Pairwise.nil,fun _ hm=>(nomatch hm)⟩⟩,h2,h3,h4⟩
end Att
namespace L2
open PySem PySem.Spec PyProof.Rows List
theorem hU:∀{vs:List Value} {ns:List Int},IntsAre vs ns→az (ns.map V.int) vs
 | _,_,.nil=>.nil
 | _,_,.cons n t h=>.cons ⟨t,rfl⟩ (hU h)
def cA (s:Stmt):Arguments:=match s with
 | .FunctionDef _ a _ _ _ _ _ _ _ _=>a
 | _=>{posonlyargs:=[],args:=[],vararg:=none,kwonlyargs:=[],kw_defaults:=[],kwarg:=none,defaults:=[]}
def a7 (s:Stmt):List Stmt:=match s with
 | .FunctionDef _ _ b _ _ _ _ _ _ _=>b
 | _=>[]
def aq (s:Stmt):Scope:=match s with
 | .FunctionDef _ _ _ _ _ _ sc _ _ _=>sc
 | _=>{kind:=.function,names:=[],isGenerator:=false,isCoroutine:=false}
structure oJ (K:W.Frag)(x qual:Str)(st:Stmt)(f:Addr)(fd:FuncData):Prop where
 ex:∃(oc:Value) (od:Option Addr) (kV doc pm:Value) (an:Option Addr) (cdv ct:Value) (osl:Array (Option Value)),
  fd=W.fnOf x qual (cA st) (a7 st) (aq st) .none kV doc pm an cdv ct∧K.lookup f=some ⟨oc,od,.func fd,osl⟩∧W.codeIn K cdv qual=true
 kp:W.keepIn K (.ref f)=true
section
variable {P:Program}{w:World}{K:W.Frag}{mg:Str→Option Value}{base:Heap}
theorem oJ.binds {x qual:Str}{st:Stmt}{f:Addr}{fd:FuncData}{ps:List Str}(F:oJ K x qual st f fd)
  (h:∀(kV doc pm:Value) (an:Option Addr) (cdv ct:Value) (us:List Value),us.length=ps.length→bindArgs (W.fnOf x qual (cA st) (a7 st) (aq st) .none kV doc pm an cdv ct) ⟨us,[]⟩=pure (ps.zip us)):dB K fd ps []:=by
 obtain⟨oc,od,kV,doc,pm,an,cdv,ct,osl,rfl,lk,hcd⟩:=F.ex;exact .all (h kV doc pm an cdv ct)
theorem iB {x qual:Str}{st:Stmt}{f:Addr}{oc:Value}{od an:Option Addr}{osl:Array (Option Value)}{kV doc pm cdv ct:Value}(l:K.lookup f=some ⟨oc,od,.func (W.fnOf x qual (cA st) (a7 st) (aq st) .none kV doc pm an cdv ct),osl⟩)
  (c:W.codeIn K cdv qual=true) (k:W.keepIn K (.ref f)=true):oJ K x qual st f (W.fnOf x qual (cA st) (a7 st) (aq st) .none kV doc pm an cdv ct):=⟨⟨oc,od,kV,doc,pm,an,cdv,ct,osl,rfl,l,c⟩,k⟩
end
abbrev KT (H:Hp):List (List ix×V)→List (List ix×Addr×Value)→Prop:=Paired fun p q=>p.1=q.1∧H q.2.1=some (.tup (p.1.map kV))∧aM p.2 q.2.2
abbrev VV:List (V×V)→List (Value×Value)→Prop:=Paired fun p q=>aM p.1 q.1∧aM p.2 q.2
structure M1 (X:Cx)(o:Expr)(m:Str)(apos:Pos)(e:Expr)(cpos:Pos):Prop where
 base:attributeBase o m X.env (eval o X.env)=eval o X.env
 few:((backTo cpos (starEach [e] X.env)).all (fun x=>!x.1)&&(backToKw cpos (keywordEach [] X.env)).all (fun x=>x.1.isSome)
  && decide (([e]:List Expr).length+([]:List Keyword).length+(if([]:List Keyword).isEmpty then 0 else 1)<30))=true
 line:(apos.endLine==cpos.line)=true
 trees:backTo cpos (starEach [e] X.env)=[(false,eval e X.env)]
structure M2 (X:Cx)(o:Expr)(m:Str)(apos:Pos)(e f:Expr)(cpos:Pos):Prop where
 base:attributeBase o m X.env (eval o X.env)=eval o X.env
 few:((backTo cpos (starEach [e,f] X.env)).all (fun x=>!x.1)&&(backToKw cpos (keywordEach [] X.env)).all (fun x=>x.1.isSome)
  && decide (([e,f]:List Expr).length+([]:List Keyword).length+(if([]:List Keyword).isEmpty then 0 else 1)<30))=true
 line:(apos.endLine==cpos.line)=true
 trees:backTo cpos (starEach [e,f] X.env)=[(false,eval e X.env),(false,eval f X.env)]
end L2
namespace Att
open PySem PySem.W PySem.Calls PyProof.Rows
end Att
namespace L2
open PySem PySem.Spec PyProof.Rows List
end L2
namespace DL
open PySem PySem.Spec PyProof.Rows L2 List
structure uZ (X:Cx)(ab:List (Addr×Obj))(H:Hp)(B:Heap):Prop where
 trk:∀b o,H b=some o→∃o',B.get? b=some o'
 pin:∀p∈X.pn++ab,∃o',B.get? p.1=some o'
 old:∀b o,X.s₀.heap.get? b=some o→b∉X.ex→b∉gQ X.stack→∃o',B.get? b=some o'
def wU (X:Cx)(H:Hp)(a C:Addr)(s:Shared):Prop:=∃ab σ,
 (∃h vs,L2.Inv X ab σ H {s with heap:=h}∧Heap.MadeExcOf h s.heap a (.ref C) vs)∨
 (L2.Inv X ab σ H s∧H a=none∧∃B a0,Heap.FlyingW B X.stack a (.ref C) a0 s.heap∧uZ X ab H B)∨
 (L2.Inv X ab σ H s∧H a=none∧∃B a0 L,X.env.frame=some L∧Heap.HeldW B X.stack a (.ref C) a0 L s.heap∧uZ X ab H B)
def gk (K:W.Frag)(c:Str)(C:Addr):Prop:=W.nsIn K mainGlobals c=some (some (.ref C))
theorem gl {P:Program}{w:World}{H:Hp}{h:Heap}{a:Addr}{o:HO}(x:bO P w H h a o):∃u,h.get? a=some u:=by
 cases o with
 | lst xs=>obtain⟨_,_,_,_,e⟩:=x;exact⟨_,e⟩
 | tup xs=>obtain⟨_,_,_,o,e,_⟩:=x;exact⟨_,e⟩
 | dK kvs=>obtain⟨_,_,_,_,o,_,_,e,_⟩:=x;exact⟨_,e⟩
 | dT kvs=>obtain⟨_,_,_,_,o,_,_,e,_⟩:=x;exact⟨_,e⟩
 | set S n=>obtain⟨o,_,_,_,e,_⟩:=x;exact⟨_,e⟩
 | ins C dx fs=>obtain⟨_,_,_,e,_⟩:=x;exact⟨_,e⟩
 | own y=>obtain⟨_,e⟩:=x;exact⟨_,e⟩
 | xd fs=>obtain⟨_,⟨_,_,_,e,_⟩,_⟩:=x;exact⟨_,e⟩
 | rng lo hi=>obtain⟨_,_,_,e⟩:=x;exact⟨_,e⟩
 | frz ob u=>obtain⟨e,_⟩:=x;exact⟨_,e⟩
 | tbl ps=>exact⟨_,show h.get? a=some _ from x⟩
 | met f y=>exact⟨_,show h.get? a=some _ from x⟩
 | ext φ=>obtain⟨_,⟨_,e⟩,_⟩:=x;exact⟨_,e⟩
section
variable {X:Cx}{ab:List (Addr×Obj)}{σ:List (Option V)}{H:Hp}{s:Shared}{B h':Heap}{a C:Addr}
theorem iG (I:L2.Inv X ab σ H s){b:Addr}{o:Obj}(e:X.s₀.heap.get? b=some o)(n:b∉X.fs):b∉gQ X.stack:=fun z=>by
 rcases mem_cons.mp (I.stkSub b z) with q|q
 ·have h1:=Heap.lt_size e;rw[q] at h1;exact absurd (Nat.lt_of_lt_of_le h1 I.ok.above) (Nat.lt_irrefl _)
 ·exact n q
theorem kQ {h h':Heap}{c:Addr}{v:Option Value}(u:h.UpToSlots h')(x:h.IsCell c v):h'.IsCell c v:=by
 obtain⟨o,e,d⟩:=x;obtain⟨sl,e'⟩:=u c o e fun vs q=>by rw[d] at q;cases q
 exact⟨_,e',d⟩
theorem mx (I:L2.Inv X ab σ H s)(cov:uZ X ab H B)(hB:B.StaysIn s.heap)(hB':B.StaysIn h')(up:s.heap.UpToSlots h'):L2.Inv X ab σ H {s with heap:=h'}:=by
 have keepB:∀b o o',B.get? b=some o'→s.heap.get? b=some o→h'.get? b=some o:=fun b o o' e1 e2=>by
  have:=hB b o' e1;rw[e2] at this;cases this;exact hB' b _ e1
 refine⟨I.ok,I.os,I.bare,⟨fun b o e n nf nx=>?_,fun b o e n hf nx=>?_,fun b o e n nx=>I.base.free b o e n nx,fun b o e nx=>?_,I.base.tups,I.base.frzs,I.base.tbls⟩,?_,fun x c e=>?_,I.free,I.freeC,fun p hp=>?_,fun b o e=>?_,I.len⟩
 ·obtain⟨o',e'⟩:=cov.old b o e nx (iG I e nf);exact keepB b o o' e' (I.base.keep b o e n nf nx)
 ·obtain⟨sl,e1⟩:=I.base.slot b o e n hf nx;obtain⟨_,ob,e2,nf⟩:=I.funs.mem hf;rw[e1] at e2;cases e2;obtain⟨sl',e3⟩:=up b _ e1 nf;exact⟨sl',e3⟩
 ·by_cases hf:b∈X.fs
  ·obtain⟨_,ob,e2,nf⟩:=I.funs.mem hf;obtain⟨sl',e3⟩:=up b _ e2 nf;exact⟨_,e3⟩
  ·obtain⟨o',e'⟩:=cov.old b o e nx (iG I e hf);exact⟨o',hB' b o' e'⟩
 ·obtain⟨m,hn,hl⟩:=I.loc;refine⟨m,up.ns hn,fun i x v e1 e2 e3=>?_⟩;obtain⟨u,r,lk⟩:=hl i x v e1 e2 e3;refine⟨u,r,?_⟩;rcases lk with lk|⟨k,c,ec,ic⟩
  ·exact .inl lk
  ·exact .inr ⟨k,c,ec,kQ up ic⟩
 ·obtain⟨v,ic⟩:=I.cell x c e;exact⟨v,kQ up ic⟩
 ·obtain⟨e,n,ne,nf,d⟩:=I.pin p hp;obtain⟨o',e'⟩:=cov.pin p hp;exact⟨keepB p.1 p.2 o' e' e,n,ne,nf,d⟩
 ·refine(I.hok b o e).stay (fun c u hc q=>?_) (fun _ q=>q) fun _ _ q=>q
  have:∃o,H c=some o:=by
   rcases hc with z|z
   ·exact⟨o,by rw[z];exact e⟩
   ·exact⟨_,z⟩
  obtain⟨oc,ec⟩:=this;obtain⟨o',e'⟩:=cov.trk c oc ec;exact keepB c u o' e' q
theorem nK (I:L2.Inv X ab σ H s):uZ X ab H (W.hideAll s.heap (gQ X.stack)):=by
 refine⟨fun b o e=>?_,fun p hp=>?_,fun b o e nx nf=>?_⟩
 ·obtain⟨u,q⟩:=gl (I.hok b o e);exact⟨u,W.hideAll_get _ q fun z=>by rw[I.stkFree b z] at e;cases e⟩
 ·obtain⟨e,n,ne,nf,d⟩:=I.pin p hp;exact⟨p.2,W.hideAll_get _ e fun z=>by
   rcases mem_cons.mp (I.stkSub _ z) with q|q
   ·exact ne q
   ·exact nf q⟩
 ·obtain⟨o',e'⟩:=I.base.there b o e nx;exact⟨o',W.hideAll_get _ e' nf⟩
theorem ju (I:L2.Inv X ab σ H s):s.heap.FunFrames (W.hideAll s.heap (gQ X.stack)) X.stack:=
 W.funFrames_hide I.stack fun env he b hb=>mem_filterMap.mpr ⟨env,he,hb⟩
theorem lW {vs:List Value}{h:Heap}(I:L2.Inv X ab σ H {s with heap:=h})(m:Heap.MadeExcOf h s.heap a (.ref C) vs):H a=none:=by
 cases q:H a with
 | none=>rfl
 | some o=>
  obtain⟨u,e⟩:=gl (I.hok a o q);have e:h.get? a=some u:=e;rw[m.new] at e;cases e
end
def dU (P:Program)(w:World):mn:=fun outer H s E e s'=>∃a C H' B a0,e=.ref a∧s'.os=s.os∧AllBare s'.gens∧Un (gQ outer) [] H H' s.heap s'.heap∧eV P w H' s'.heap∧H' a=none∧
 Heap.FlyingW B outer a (.ref C) a0 s'.heap∧(∀b o,H' b=some o→∃o',B.get? b=some o')∧(∀b o,s.heap.get? b=some o→b∉gQ outer→∃o',B.get? b=some o')∧E (.ref C) (some a) H'
theorem gF {P:Program}{w:World}{K:W.Frag}{mg:Str→Option Value}{base:Heap}{N:List Str}{qual:Str}{scope:Scope}{f:Addr}{cdv:Value}{A:Around}{outer:List Env}{s s':Shared}{H H':Hp}{E:XK}{a C:Addr}
  (fl:wU (dA (dU P w) P w K mg base N qual scope f cdv A outer s H E) H' a C s') (hE:E (.ref C) (some a) H'):(dA (dU P w) P w K mg base N qual scope f cdv A outer s H E).xe (.ref a) s':=by
 show wpAny (model P w) (A.deeper (envOfC qual scope s.heap.objs.size f cdv)) (leaving (envOfC qual scope s.heap.objs.size f cdv) (.ref a)) (fun _ s''=>dU P w outer H s E (.ref a) s'') (fun e' s''=>dU P w outer H s E e' s'') s';obtain⟨ab,σ,fl⟩:=fl;have key:∀(B:Heap) (a0:Value) (h':Heap) (I:L2.Inv (dA (dU P w) P w K mg base N qual scope f cdv A outer s H E) ab σ H' s'),B.StaysIn s'.heap→uZ (dA (dU P w) P w K mg base N qual scope f cdv A outer s H E) ab H' B→H' a=none→
   Heap.FlyingW B outer a (.ref C) a0 h'→s'.heap.UpToSlots h'→dU P w outer H s E (.ref a) {s' with heap:=h'}:=fun B a0 h' I hB cov hn fl' up=>by
  have I':=mx I cov hB fl'.1 up;refine⟨a,C,H',B,a0,rfl,I'.os,I'.bare,I'.base,I'.hok,hn,fl',cov.trk,fun b o e nf=>?_,hE⟩;exact cov.old b o e (by show b∉([]:List Addr);simp) (iG I e nf)
 rcases fl with⟨h,vs,I,m⟩|⟨I,hn,B,a0,fl,cov⟩|⟨I,hn,B,a0,L,hL,held,cov⟩
 ·have cov:=nK I;have hid:∀b o,(W.hideAll h (gQ (dA (dU P w) P w K mg base N qual scope f cdv A outer s H E).stack)).get? b=some o→h.get? b=some o:=fun b o q=>W.of_hideAll _ q
  refine wpAny_leaves_madeW (env:=envOfC qual scope s.heap.objs.size f cdv) (outer:=outer) I.ok.frames rfl hid (ju I) m fun h' t x1 x2 x3 x4=>?_
  exact key _ _ h' (I.kept (t':=s'.toks) (h':=s'.heap) m.keeps) (fun b o q=>m.keeps b o (hid b o q)) cov (lW I m) x1 x4
 ·refine wpAny_leaves_onW (env:=envOfC qual scope s.heap.objs.size f cdv) (outer:=outer) I.ok.frames rfl fl fun h' x1 x2=>?_
  exact key B a0 h' I fl.1 cov hn x1 x2
 ·unfold leaving;refine wpAny_bind (wpAny_noteFrame_againW hL held.2.2.2 ?_);refine wpAny_landsW held fun h' x1 x2=>?_
  obtain⟨k1,k2,⟨_,_,k3⟩,k4⟩:=x1;exact key B a0 h' I held.1 cov hn ⟨k1,k2,k3,k4⟩ x2
theorem lP {X:Cx}{ab:List (Addr×Obj)}{σ:L2.St}{H:Hp}{s:Shared}{e:Value}{s':Shared}{E:XK}(I:L2.Inv X ab σ H s)(h:dU X.prog X.w X.stack H s E e s'):∃a C H',e=.ref a∧wU X H' a C s'∧E (.ref C) (some a) H':=by
 obtain⟨a,C,H',B,a0,rfl,os,bare,un,hok,hn,fl,trk,old,hE⟩:=h;refine⟨a,C,H',rfl,⟨ab,σ,.inr (.inl ⟨I.call' os un hok bare (fun b z=>absurd z (by simp)),hn,B,a0,fl,trk,fun p hp=>?_,fun b o eb nx nf=>?_⟩)⟩,hE⟩
 ·obtain⟨eb,n,ne,nf,d⟩:=I.pin p hp;exact old p.1 p.2 eb fun z=>by
   rcases mem_cons.mp (I.stkSub _ z) with q|q
   ·exact ne q
   ·exact nf q
 ·obtain⟨o',e'⟩:=I.base.there b o eb nx;exact old b o' e' nf
inductive D where
 | non|bl (b:Bool)|int (i:Int)|str (x:Str)|tup (xs:List D)|lst (xs:List D)|ro (xs:List D)|mr (i:Nat)|exc (c:Str)|any
instance:Inhabited D:=⟨.non⟩
inductive MO where
 | lst (xs:List D)|obj (c:Str) (fs:List (Str×D))|dK (kvs:List (ix×D))|dT (kvs:List (List ix×D))
instance:Inhabited MO:=⟨.lst []⟩
abbrev am:=List MO
abbrev bg:=List (Option D)
inductive aE (α:Type) where
 | ok (a:α) (M:am)
 | err (c:Str) (M:am)
 | bad
def aE.bind {α β:Type}(o:aE α)(f:α→am→aE β):aE β:=
 match o with
 | .ok a M=>f a M
 | .err c M=>.err c M
 | .bad=>.bad
@[simp] theorem ah {α β:Type} (a:α) (M:am) (f:α→am→aE β):(aE.ok a M).bind f=f a M:=by rw[aE.bind]
@[simp] theorem vU {α β:Type} (c:Str) (M:am) (f:α→am→aE β):(aE.err c M:aE α).bind f=.err c M:=by rw[aE.bind]
@[simp] theorem wf {α β:Type} (f:α→am→aE β):(aE.bad:aE α).bind f=.bad:=by rw[aE.bind]
def yl (K:W.Frag)(a:Addr)(xs:List V):Prop:=∃(o:Obj) (its:Array Value) (n:Nat),K.lookup a=some o∧o.cls=.type "tuple"∧o.data=.seq its n∧its.size≤sizeLine∧az xs its.toList
def KL (K:W.Frag)(a:Addr)(xs:List V):Prop:=∃(o:Obj) (its:Array Value) (n:Nat),K.lookup a=some o∧o.cls=.type "list"∧o.dict=none∧o.data=.seq its n∧its.size≤sizeLine∧az xs its.toList
def fx (K:W.Frag)(θ:List Addr)(H:Hp)(a:Addr)(xs:List V):Prop:=H a=some (.tup xs)∧a∉θ
def hX (θ:List Addr)(H:Hp)(a:Addr)(xs:List V):Prop:=H a=some (.lst xs)∧a∉θ
def iR (K:W.Frag)(θ:List Addr)(H:Hp)(a:Addr)(xs:List V):Prop:=(Rd H a (.lst xs)∧a∉θ)∨KL K a xs
theorem fx.sq {K:W.Frag}{θ:List Addr}{H:Hp}{a:Addr}{xs:List V}(h:fx K θ H a xs):gZ K H a xs:=.inl (.inl h.1)
theorem hX.sq {K:W.Frag}{θ:List Addr}{H:Hp}{a:Addr}{xs:List V}(h:hX θ H a xs):fA K H a xs:=.inl (.inl h.1)
theorem iR.sq {K:W.Frag}{θ:List Addr}{H:Hp}{a:Addr}{xs:List V}(h:iR K θ H a xs):fA K H a xs:=by
 rcases h with⟨h,_⟩|h
 ·exact .inl h
 ·exact .inr h
def xv (a C:Addr):HO:=.ext fun h=>∃o,h.get? a=some o∧o.cls=.ref C
mutual
def cn (K:W.Frag)(θ:List Addr)(H:Hp):D→V→Prop
 | .non,v=>v=.non
 | .bl b,v=>v=.bl b
 | .int i,v=>v=.int i
 | .str x,v=>v=.str x
 | .tup ds,v=>∃a vs,v=.ref a∧fx K θ H a vs∧aF K θ H ds vs
 | .lst ds,v=>∃a vs,v=.ref a∧hX θ H a vs∧aF K θ H ds vs
 | .ro ds,v=>∃a vs,v=.ref a∧iR K θ H a vs∧aF K θ H ds vs
 | .mr i,v=>∃a,v=.ref a∧θ[i]?=some a
 | .exc c,v=>∃a C,v=.ref a∧gk K c C∧H a=some (xv a C)∧a∉θ
 | .any,_=>True
def aF (K:W.Frag)(θ:List Addr)(H:Hp):List D→List V→Prop
 | [],vs=>vs=[]
 | d::ds,vs=>∃v r,vs=v::r∧cn K θ H d v∧aF K θ H ds r
end
def la (K:W.Frag)(θ:List Addr)(H:Hp):List (Str×D)→List (Str×V)→Prop
 | [],vs=>vs=[]
 | (f,d)::fs,vs=>∃v r,vs=(f,v)::r∧cn K θ H d v∧la K θ H fs r
def kd {κ:Type}(K:W.Frag)(θ:List Addr)(H:Hp):List (κ×D)→List (κ×V)→Prop
 | [],vs=>vs=[]
 | (k,d)::fs,vs=>∃v r,vs=(k,v)::r∧cn K θ H d v∧kd K θ H fs r
def g5 (K:W.Frag)(θ:List Addr)(H:Hp):MO→Addr→Prop
 | .lst ds,a=>∃vs,H a=some (.lst vs)∧aF K θ H ds vs
 | .obj c fs,a=>∃C dx vs,gk K c C∧H a=some (.ins C dx vs)∧la K θ H fs vs
 | .dK kvs,a=>∃vs,H a=some (.dK vs)∧kd K θ H kvs vs
 | .dT kvs,a=>∃vs,H a=some (.dT vs)∧kd K θ H kvs vs
def aN:List Str:=["ink_shown","table_within","slots_given","cast_on_slots"]
def bC (x:Str):Str:=x++(".<locals>.<lambda>":Str)
def jC (c:Addr)(q:Str):HO:=.ext fun h=>h.CodeRec (.ref c) q
def wM (ob:Obj):HO:=.frz ob (.ext fun _=>True)
structure dZ (K:W.Frag)(H:Hp):Prop where
 tab:∀x,x∈aN→∀c P,W.tabIn K x=some (c,P)→∃ps,H P=some (.tbl ps)∧TriplesOk ps.toList∧∀pos cv,codeAmong pos ps.toList=some cv→∃c',cv=.ref c'∧H c'=some (jC c' (bC x))
 bm:∀x,x∈aN→∀c P,W.tabIn K x=some (c,P)→∃bm ob,W.nsIn K mainGlobals "__builtins__"=some (some (.ref bm))∧H bm=some (wM ob)∧ob.cls=.type "module"∧ob.dict=some builtinsNs∧ob.data=.plain∧bm≠builtinsNs∧bm≠mainGlobals
theorem dZ.of {K:W.Frag}{H H':Hp}(t:dZ K H)(k1:∀b ps,H b=some (.tbl ps)→H' b=some (.tbl ps))(k2:∀b φ,H b=some (.ext φ)→H' b=some (.ext φ))(k3:∀b o u,H b=some (.frz o u)→H' b=some (.frz o u)):dZ K H':=
 ⟨fun x hx c P e=>by
  obtain⟨ps,h1,h2,h3⟩:=t.tab x hx c P e;refine⟨ps,k1 _ _ h1,h2,fun pos cv q=>?_⟩;obtain⟨c',e1,e2⟩:=h3 pos cv q;exact⟨c',e1,k2 _ _ e2⟩,fun x hx c P e=>by
  obtain⟨bm,ob,e1,e2,r⟩:=t.bm x hx c P e;exact⟨bm,ob,e1,k3 _ _ _ e2,r⟩⟩
theorem dZ.new {K:W.Frag}{H:Hp}{p:Addr}{o:HO}(t:dZ K H)(hp:H p=none):dZ K (bu H p o):=
 t.of (fun b ps e=>by rw[aj (aL e hp)];exact e) (fun b φ e=>by rw[aj (aL e hp)];exact e) fun b o u e=>by rw[aj (aL e hp)];exact e
def ka:HO→Bool
 | .tbl _=>false
 | .ext _=>false
 | .frz _ _=>false
 | _=>true
theorem dZ.at_ {K:W.Frag}{H:Hp}{a:Addr}{o u:HO}(t:dZ K H)(ha:H a=some u)(hu:ka u=true):dZ K (bu H a o):=
 t.of (fun b ps e=>by rw[aj (kK e ha (by intro z;subst z;cases hu))];exact e) (fun b φ e=>by rw[aj (kK e ha (by intro z;subst z;cases hu))];exact e) fun b o u e=>by rw[aj (kK e ha (by intro z;subst z;cases hu))];exact e
structure Wr (K:W.Frag)(θ:List Addr)(H:Hp)(M:am):Prop where
 len:θ.length=M.length
 nd:θ.Nodup
 at_:∀(i:Nat) a m,θ[i]?=some a→M[i]?=some m→g5 K θ H m a
 tb:dZ K H
structure dO (K:W.Frag)(θ:List Addr)(H:Hp)(σ:L2.St)(ρ:bg):Prop where
 len:ρ.length=σ.length
 at_:∀(i:Nat) d,ρ[i]?=some (some d)→∃v,σ[i]?=some (some v)∧cn K θ H d v
structure Grow (θ:List Addr)(H:Hp)(θ':List Addr)(H':Hp):Prop where
 ext:∃more,θ'=θ++more∧∀a∈more,H a=none
 keep:∀b o,H b=some o→b∉θ→(∀ps,o≠.tbl ps)→H' b=some o
 tkeep:∀b ps,H b=some (.tbl ps)→∃ps',H' b=some (.tbl ps')
structure Go (K:W.Frag)(θ:List Addr)(H:Hp)(θ':List Addr)(H':Hp)(M':am):Prop extends Grow θ H θ' H' where
 wr:Wr K θ' H' M'
section
variable {K:W.Frag}{θ θ' θ1 θ2:List Addr}{H H' H1 H2:Hp}{M M' M1 M2:am}{a p:Addr}{σ:L2.St}{ρ:bg}
theorem Wr.tracked (w:Wr K θ H M)(h:a∈θ):H a≠none:=by
 obtain⟨i,hi,e⟩:=mem_iff_getElem.mp h;have h1:θ[i]?=some a:=by rw[getElem?_eq_getElem hi,e]
 have h2:i<M.length:=by rw[←w.len];exact hi
 have h3:=w.at_ i a _ h1 (getElem?_eq_getElem h2);cases q:M[i] with
 | lst ds=>
  rw[q] at h3;obtain⟨vs,e,_⟩:=h3;rw[e];simp
 | obj c fs=>
  rw[q] at h3;obtain⟨C,dx,vs,_,e,_⟩:=h3;rw[e];simp
 | dK kvs=>
  rw[q] at h3;obtain⟨vs,e,_⟩:=h3;rw[e];simp
 | dT kvs=>
  rw[q] at h3;obtain⟨vs,e,_⟩:=h3;rw[e];simp
theorem g5.plain {m:MO}(h:g5 K θ H m a):∃o,H a=some o∧ka o=true:=by
 cases m with
 | lst ds=>obtain⟨vs,e,_⟩:=h;exact⟨_,e,rfl⟩
 | obj c fs=>obtain⟨C,dx,vs,_,e,_⟩:=h;exact⟨_,e,rfl⟩
 | dK kvs=>obtain⟨vs,e,_⟩:=h;exact⟨_,e,rfl⟩
 | dT kvs=>obtain⟨vs,e,_⟩:=h;exact⟨_,e,rfl⟩
theorem Wr.plain (w:Wr K θ H M){i:Nat}(h:θ[i]?=some a):∃o,H a=some o∧ka o=true:=by
 have h2:i<M.length:=by rw[←w.len];exact(List.getElem?_eq_some_iff.mp h).1
 exact(w.at_ i a _ h (getElem?_eq_getElem h2)).plain
theorem Wr.fresh (w:Wr K θ H M)(h:H p=none):p∉θ:=fun z=>w.tracked z h
theorem Grow.refl (θ:List Addr)(H:Hp):Grow θ H θ H:=⟨⟨[],by simp,fun _ z=>by cases z⟩,fun _ _ h _ _=>h,fun b ps e=>⟨ps,e⟩⟩
theorem Go.refl (w:Wr K θ H M):Go K θ H θ H M:=⟨.refl θ H,w⟩
theorem Go.trans (a:Go K θ H θ1 H1 M1)(b:Go K θ1 H1 θ2 H2 M2):Go K θ H θ2 H2 M2:=by
 obtain⟨m1,e1,f1⟩:=a.ext;obtain⟨m2,e2,f2⟩:=b.ext;refine⟨⟨⟨m1++m2,by rw[e2,e1,append_assoc],fun x hx=>?_⟩,fun x o hx nx nt=>?_,fun x ps e=>?_⟩,b.wr⟩
 ·rcases mem_append.mp hx with z|z
  ·exact f1 x z
  ·cases q:H x with
   | none=>rfl
   | some o=>
    have nx:x∉θ:=by
     intro y;have nd:=b.wr.nd;rw[e2] at nd;have y1:x∈θ1:=by rw[e1];exact mem_append_left _ y
     exact(nodup_append.mp nd).2.2 x y1 x z rfl
    exfalso
    by_cases nt:∃ps,o=.tbl ps
    ·obtain⟨ps,rfl⟩:=nt;obtain⟨ps',e'⟩:=a.tkeep x ps q;rw[f2 x z] at e';cases e'
    ·have:=a.keep x o q nx fun ps e'=>nt ⟨ps,e'⟩
     rw[f2 x z] at this;cases this
 ·have h1:=a.keep x o hx nx nt;refine b.keep x o h1 ?_ nt;rw[e1];intro z;rcases mem_append.mp z with z|z
  ·exact nx z
  ·rw[f1 x z] at hx;cases hx
 ·obtain⟨ps',e'⟩:=a.tkeep x ps e;exact b.tkeep x ps' e'
theorem Grow.notin (g:Grow θ H θ' H'){o:HO}(h:H a=some o)(n:a∉θ):a∉θ':=by
 obtain⟨m,e,f⟩:=g.ext;rw[e];intro z;rcases mem_append.mp z with z|z
 ·exact n z
 ·rw[f a z] at h;cases h
theorem fx.grow {xs:List V}(g:Grow θ H θ' H')(h:fx K θ H a xs):fx K θ' H' a xs:=⟨g.keep _ _ h.1 h.2 (by intro _ z;cases z),g.notin h.1 h.2⟩
theorem hX.grow {xs:List V}(g:Grow θ H θ' H')(h:hX θ H a xs):hX θ' H' a xs:=⟨g.keep _ _ h.1 h.2 (by intro _ z;cases z),g.notin h.1 h.2⟩
theorem iR.grow {xs:List V}(g:Grow θ H θ' H')(h:iR K θ H a xs):iR K θ' H' a xs:=by
 rcases h with⟨h|⟨o,h⟩,n⟩|h
 ·exact .inl ⟨.inl (g.keep _ _ h n (by intro _ z;cases z)),g.notin h n⟩
 ·exact .inl ⟨.inr ⟨o,g.keep _ _ h n (by intro _ z;cases z)⟩,g.notin h n⟩
 ·exact .inr h
mutual
theorem eI (g:Grow θ H θ' H'):∀(d:D) (v:V),cn K θ H d v→cn K θ' H' d v
 | .non,v,h=>h
 | .bl b,v,h=>h
 | .int i,v,h=>h
 | .str x,v,h=>h
 | .tup ds,v,h=>by
  obtain⟨a,vs,e,t,r⟩:=h;exact⟨a,vs,e,t.grow g,bj g ds vs r⟩
 | .lst ds,v,h=>by
  obtain⟨a,vs,e,t,r⟩:=h;exact⟨a,vs,e,t.grow g,bj g ds vs r⟩
 | .ro ds,v,h=>by
  obtain⟨a,vs,e,t,r⟩:=h;exact⟨a,vs,e,t.grow g,bj g ds vs r⟩
 | .mr i,v,h=>by
  obtain⟨a,e,t⟩:=h;obtain⟨m,em,_⟩:=g.ext;refine⟨a,e,?_⟩;rw[em,getElem?_append_left (List.getElem?_eq_some_iff.mp t).1];exact t
 | .exc c,v,h=>by
  obtain⟨a,C,e,k,t,n⟩:=h;exact⟨a,C,e,k,g.keep _ _ t n (by intro _ z;cases z),g.notin t n⟩
 | .any,v,h=>h
theorem bj (g:Grow θ H θ' H'):∀(ds:List D) (vs:List V),aF K θ H ds vs→aF K θ' H' ds vs
 | [],vs,h=>h
 | d::ds,vs,h=>by
  obtain⟨v,r,e,h1,h2⟩:=h;exact⟨v,r,e,eI g d v h1,bj g ds r h2⟩
end
theorem cn.go {d:D}{v:V}(h:cn K θ H d v)(g:Go K θ H θ' H' M'):cn K θ' H' d v:=eI g.toGrow d v h
theorem aF.go {ds:List D}{vs:List V}(h:aF K θ H ds vs)(g:Go K θ H θ' H' M'):aF K θ' H' ds vs:=bj g.toGrow ds vs h
theorem dO.go (h:dO K θ H σ ρ)(g:Go K θ H θ' H' M'):dO K θ' H' σ ρ:=⟨h.len,fun i d e=>let ⟨v,e1,e2⟩:=h.at_ i d e;⟨v,e1,e2.go g⟩⟩
theorem ai:∀{ds:List D} {vs:List V},aF K θ H ds vs→ds.length=vs.length
 | [],vs,h=>by cases (show vs=[] from h);rfl
 | d::ds,vs,h=>by
  obtain⟨v,r,e,_,h2⟩:=h;subst e;rw[length_cons,length_cons,ai h2]
theorem bJ:∀{ds es:List D} {vs us:List V},aF K θ H ds vs→aF K θ H es us→aF K θ H (ds++es) (vs++us)
 | [],es,vs,us,h,k=>by cases (show vs=[] from h);exact k
 | d::ds,es,vs,us,h,k=>by
  obtain⟨v,r,e,h1,h2⟩:=h;subst e;exact⟨v,r++us,rfl,h1,bJ h2 k⟩
theorem bR:∀{ds:List D} {vs:List V} {i:Nat} {d:D},aF K θ H ds vs→ds[i]?=some d→∃v,vs[i]?=some v∧cn K θ H d v
 | [],vs,i,d,h,e=>by simp at e
 | x::ds,vs,0,d,h,e=>by
  obtain⟨v,r,e1,h1,h2⟩:=h;subst e1;simp at e;subst e;exact⟨v,rfl,h1⟩
 | x::ds,vs,i+1,d,h,e=>by
  obtain⟨v,r,e1,h1,h2⟩:=h;subst e1;obtain⟨u,e2,h3⟩:=bR (i:=i) h2 (by simpa using e);exact⟨u,by simpa using e2,h3⟩
theorem jb {d:D}{v:V}(hd:cn K θ H d v):∀{ds:List D} {vs:List V} (i:Nat),aF K θ H ds vs→aF K θ H (ds.set i d) (vs.set i v)
 | [],vs,i,h=>by cases (show vs=[] from h);exact rfl
 | x::ds,vs,0,h=>by
  obtain⟨u,r,e,h1,h2⟩:=h;subst e;exact⟨v,r,rfl,hd,h2⟩
 | x::ds,vs,i+1,h=>by
  obtain⟨u,r,e,h1,h2⟩:=h;subst e;exact⟨u,r.set i v,rfl,h1,jb hd i h2⟩
theorem eQ {o:HO}(w:Wr K θ H M)(hp:H p=none):Grow θ H θ (bu H p o):=
 ⟨⟨[],by simp,fun _ z=>by cases z⟩,fun b u h _ _=>by rw[aj (aL h hp)];exact h,fun b ps h=>⟨ps,by rw[aj (aL h hp)];exact h⟩⟩
theorem ia (g:Grow θ H θ' H'):∀{fs:List (Str×D)} {vs:List (Str×V)},la K θ H fs vs→la K θ' H' fs vs
 | [],vs,h=>h
 | (f,d)::fs,vs,h=>by
  obtain⟨v,r,e,h1,h2⟩:=h;exact⟨v,r,e,eI g d v h1,ia g h2⟩
theorem fh {κ:Type}(g:Grow θ H θ' H'):∀{fs:List (κ×D)} {vs:List (κ×V)},kd K θ H fs vs→kd K θ' H' fs vs
 | [],vs,h=>h
 | (f,d)::fs,vs,h=>by
  obtain⟨v,r,e,h1,h2⟩:=h;exact⟨v,r,e,eI g d v h1,fh g h2⟩
theorem g5.grow {m:MO}(g:Grow θ H θ' H')(hs:H' a=H a)(h:g5 K θ H m a):g5 K θ' H' m a:=by
 cases m with
 | lst ds=>
  obtain⟨vs,e,r⟩:=h;exact⟨vs,by rw[hs];exact e,bj g ds vs r⟩
 | obj c fs=>
  obtain⟨C,dx,vs,k,e,r⟩:=h;exact⟨C,dx,vs,k,by rw[hs];exact e,ia g r⟩
 | dK kvs=>
  obtain⟨vs,e,r⟩:=h;exact⟨vs,by rw[hs];exact e,fh g r⟩
 | dT kvs=>
  obtain⟨vs,e,r⟩:=h;exact⟨vs,by rw[hs];exact e,fh g r⟩
theorem de {o:HO}(w:Wr K θ H M)(hp:H p=none):Go K θ H θ (bu H p o) M:=
 ⟨eQ w hp,w.len,w.nd,fun i a m h1 h2=>by
  have ha:a≠p:=fun e=>w.fresh hp (by rw[←e];exact mem_of_getElem? h1)
  exact(w.at_ i a m h1 h2).grow (eQ w hp) (aj ha),w.tb.new hp⟩
theorem i5 {ds:List D}{vs:List V}(w:Wr K θ H M)(hp:H p=none)(r:aF K θ H ds vs):cn K θ (bu H p (.tup vs)) (.tup ds) (.ref p):=
 ⟨p,vs,rfl,⟨aZ,w.fresh hp⟩,bj (eQ w hp) ds vs r⟩
theorem fD {ds:List D}{vs:List V}(w:Wr K θ H M)(hp:H p=none)(r:aF K θ H ds vs):cn K θ (bu H p (.lst vs)) (.lst ds) (.ref p):=
 ⟨p,vs,rfl,⟨aZ,w.fresh hp⟩,bj (eQ w hp) ds vs r⟩
theorem ir {o:HO}(hp:H p=none):Grow θ H (θ++[p]) (bu H p o):=
 ⟨⟨[p],rfl,fun a ha=>by rw[mem_singleton.mp ha];exact hp⟩,fun b u h _ _=>by rw[aj (aL h hp)];exact h,fun b ps h=>⟨ps,by rw[aj (aL h hp)];exact h⟩⟩
theorem ow {m:MO}{o:HO}(w:Wr K θ H M)(hp:H p=none)(hm:g5 K (θ++[p]) (bu H p o) m p):Go K θ H (θ++[p]) (bu H p o) (M++[m]):=by
 have np:=w.fresh hp;have g:Grow θ H (θ++[p]) (bu H p o):=ir hp;refine⟨g,by rw[length_append,length_append,w.len];rfl,?_,fun i a m' h1 h2=>?_,w.tb.new hp⟩
 ·rw[nodup_append];exact⟨w.nd,by simp,fun x hx y hy e=>np (by rw[mem_singleton.mp hy] at e;rw[←e];exact hx)⟩
 ·by_cases hi:i<θ.length
  ·rw[getElem?_append_left hi] at h1;rw[getElem?_append_left (by rw[←w.len];exact hi)] at h2;have ha:a≠p:=fun e=>np (by rw[←e];exact mem_of_getElem? h1)
   exact(w.at_ i a m' h1 h2).grow g (aj ha)
  ·have hi':i=θ.length:=by
    have:=(List.getElem?_eq_some_iff.mp h1).1;rw[length_append,length_singleton] at this;omega
   subst hi';rw[getElem?_append_right (Nat.le_refl _)] at h1;rw[getElem?_append_right (by rw[w.len];exact Nat.le_refl _)] at h2;simp only[Nat.sub_self,w.len,getElem?_cons_zero,Option.some.injEq] at h1 h2;subst h1;subst h2;exact hm
theorem ny {ds:List D}{vs:List V}(w:Wr K θ H M)(hp:H p=none)(r:aF K θ H ds vs):Go K θ H (θ++[p]) (bu H p (.lst vs)) (M++[.lst ds]):=
 ow w hp ⟨vs,aZ,bj (ir hp) ds vs r⟩
theorem kY {i:Nat}{o:HO}(w:Wr K θ H M)(hi:θ[i]?=some a):Grow θ H θ (bu H a o):=by
 have ha:a∈θ:=mem_of_getElem? hi;obtain⟨u,hu,pu⟩:=w.plain hi;exact⟨⟨[],by simp,fun _ z=>by cases z⟩,fun b u h n _=>by rw[aj (fun e=>n (by rw[e];exact ha))];exact h,fun b ps h=>⟨ps,by rw[aj (kK h hu (by intro z;subst z;cases pu))];exact h⟩⟩
theorem pb {i:Nat}{m:MO}{o:HO}(w:Wr K θ H M)(hi:θ[i]?=some a)(hm:g5 K θ (bu H a o) m a):Go K θ H θ (bu H a o) (M.set i m):=by
 have g:Grow θ H θ (bu H a o):=kY w hi;obtain⟨u,hu,pu⟩:=w.plain hi;refine⟨g,by rw[length_set];exact w.len,w.nd,fun j b m' h1 h2=>?_,w.tb.at_ hu pu⟩
 by_cases hj:j=i
 ·subst hj;rw[hi] at h1;cases h1;have hl:j<M.length:=by rw[←w.len];exact(List.getElem?_eq_some_iff.mp hi).1
  rw[getElem?_set_self hl] at h2;cases h2;exact hm
 ·rw[getElem?_set_ne (Ne.symm hj)] at h2;have hb:b≠a:=fun e=>by
   subst e;obtain⟨h3,e3⟩:=List.getElem?_eq_some_iff.mp h1;obtain⟨h4,e4⟩:=List.getElem?_eq_some_iff.mp hi;exact hj ((getElem_inj w.nd).mp (e3.trans e4.symm))
  exact(w.at_ j b m' h1 h2).grow g (aj hb)
theorem mM {i:Nat}{ds ds':List D}{vs':List V}(w:Wr K θ H M)(hi:θ[i]?=some a)(r:aF K θ H ds' vs'):Go K θ H θ (bu H a (.lst vs')) (M.set i (.lst ds')):=
 pb w hi ⟨vs',aZ,bj (kY w hi) ds' vs' r⟩
end
abbrev GE:=bg→am→aE D
abbrev GT:=bg→am→aE Bool
abbrev GA:=bg→am→aE (List D)
inductive Fl where
 | nx (ρ:bg)|rt (d:D)|bk (ρ:bg)|ct (ρ:bg)
abbrev GS:=bg→am→aE Fl
def cj (X:Cx)(θ:List Addr)(H:Hp)(c:Str)(M:am):Prop:=∀C θ' H' a s',gk X.K c C→Go X.K θ H θ' H' M→wU X H' a C s'→X.xe (.ref a) s'
def aH (X:Cx)(θ:List Addr)(H:Hp)(Q:VK):aE D→Prop
 | .ok d M'=>∀v θ' H',Go X.K θ H θ' H' M'→cn X.K θ' H' d v→Q v H'
 | .err c M'=>cj X θ H c M'
 | .bad=>False
def fu (X:Cx)(θ:List Addr)(H:Hp)(Q:Bool→Hp→Prop):aE Bool→Prop
 | .ok b M'=>∀θ' H',Go X.K θ H θ' H' M'→Q b H'
 | .err c M'=>cj X θ H c M'
 | .bad=>False
def lg (X:Cx)(θ:List Addr)(H:Hp)(Q:List V→Hp→Prop):aE (List D)→Prop
 | .ok ds M'=>∀vs θ' H',Go X.K θ H θ' H' M'→aF X.K θ' H' ds vs→Q vs H'
 | .err c M'=>cj X θ H c M'
 | .bad=>False
def bi (X:Cx)(θ:List Addr)(H:Hp)(D:lp):aE Fl→Prop
 | .ok (.nx ρ) M'=>∀σ θ' H',Go X.K θ H θ' H' M'→dO X.K θ' H' σ ρ→D.nx σ H'
 | .ok (.bk ρ) M'=>∀σ θ' H',Go X.K θ H θ' H' M'→dO X.K θ' H' σ ρ→D.bk σ H'
 | .ok (.ct ρ) M'=>∀σ θ' H',Go X.K θ H θ' H' M'→dO X.K θ' H' σ ρ→D.ct σ H'
 | .ok (.rt d) M'=>∀v θ' H',Go X.K θ H θ' H' M'→cn X.K θ' H' d v→D.rt v H'
 | .err c M'=>cj X θ H c M'
 | .bad=>False
def tE (X:Cx)(g:GE):TE:=fun σ H Q=>∃ρ θ M,dO X.K θ H σ ρ∧Wr X.K θ H M∧aH X θ H Q (g ρ M)
def tT (X:Cx)(g:GT):TT:=fun σ H Q=>∃ρ θ M,dO X.K θ H σ ρ∧Wr X.K θ H M∧fu X θ H Q (g ρ M)
def tA (X:Cx)(g:GA):TA:=fun σ H Q=>∃ρ θ M,dO X.K θ H σ ρ∧Wr X.K θ H M∧lg X θ H Q (g ρ M)
def tS (X:Cx)(g:GS):TS:=fun D σ H=>∃ρ θ M,dO X.K θ H σ ρ∧Wr X.K θ H M∧bi X θ H D (g ρ M)
section
variable {X:Cx}{θ θ':List Addr}{H H':Hp}{M':am}
theorem cj.go {c:Str}{M:am}(g:Go X.K θ H θ' H' M')(h:cj X θ H c M):cj X θ' H' c M:=fun C θ2 H2 a s' k g2 fl=>h C θ2 H2 a s' k (g.trans g2) fl
theorem aH.go {Q:VK}{o:aE D}(g:Go X.K θ H θ' H' M')(h:aH X θ H Q o):aH X θ' H' Q o:=by
 cases o with
 | ok d M=>exact fun v θ2 H2 g2=>h v θ2 H2 (g.trans g2)
 | err c M=>exact cj.go (c:=c) (M:=M) g h
 | bad=>exact h
theorem fu.go {Q:Bool→Hp→Prop}{o:aE Bool}(g:Go X.K θ H θ' H' M')(h:fu X θ H Q o):fu X θ' H' Q o:=by
 cases o with
 | ok d M=>exact fun θ2 H2 g2=>h θ2 H2 (g.trans g2)
 | err c M=>exact cj.go (c:=c) (M:=M) g h
 | bad=>exact h
theorem lg.go {Q:List V→Hp→Prop}{o:aE (List D)}(g:Go X.K θ H θ' H' M')(h:lg X θ H Q o):lg X θ' H' Q o:=by
 cases o with
 | ok d M=>exact fun v θ2 H2 g2=>h v θ2 H2 (g.trans g2)
 | err c M=>exact cj.go (c:=c) (M:=M) g h
 | bad=>exact h
theorem bi.go {D:lp}{o:aE Fl}(g:Go X.K θ H θ' H' M')(h:bi X θ H D o):bi X θ' H' D o:=by
 cases o with
 | ok f M=>cases f <;> exact fun v θ2 H2 g2=>h v θ2 H2 (g.trans g2)
 | err c M=>exact cj.go (c:=c) (M:=M) g h
 | bad=>exact h
end
section
variable {X:Cx}{e:Expr}
theorem _root_.L2.PE.of {t t':TE}(h:PE X e t)(w:∀σ H Q,t' σ H Q→t σ H Q):PE X e t':=fun ab s σ H Q I q=>h ab s σ H Q I (w σ H Q q)
theorem _root_.L2.PT.of {t t':TT}(h:PT X e t)(w:∀σ H Q,t' σ H Q→t σ H Q):PT X e t':=fun ab s σ H Q I q=>h ab s σ H Q I (w σ H Q q)
theorem _root_.L2.PW.of {t t':TT}(h:PW X e t)(w:∀σ H Q,t' σ H Q→t σ H Q):PW X e t':=fun wh ab s σ H Q I q=>h wh ab s σ H Q I (w σ H Q q)
theorem _root_.L2.PA.of {es:List Expr}{t t':TA}(h:PA X es t)(w:∀σ H Q,t' σ H Q→t σ H Q):PA X es t':=fun pos ab s σ H Q I q=>h pos ab s σ H Q I (w σ H Q q)
theorem _root_.L2.PS.of {st:Stmt}{t t':TS}(h:PS X st t)(w:∀D σ H,t' D σ H→t D σ H):PS X st t':=fun ab s σ H D I q=>h ab s σ H D I (w D σ H q)
theorem _root_.L2.PSs.of {st:List Stmt}{t t':TS}(h:PSs X st t)(w:∀D σ H,t' D σ H→t D σ H):PSs X st t':=fun ab s σ H D I q=>h ab s σ H D I (w D σ H q)
theorem bQ {g:GE}{σ:L2.St}{H:Hp}{Q:VK}{α:Type}{ρ:bg}{θ:List Addr}{M:am}(hd:dO X.K θ H σ ρ)(hw:Wr X.K θ H M)(F:aE α→Prop)(Fe:∀c M',F (.err c M')→cj X θ H c M')(Fb:F .bad→False)
  {f:D→am→aE α} (h:F ((g ρ M).bind f))
  (k:∀d M1 v θ1 H1,Go X.K θ H θ1 H1 M1→cn X.K θ1 H1 d v→F (f d M1)→Q v H1):tE X g σ H Q:=by
 refine⟨ρ,θ,M,hd,hw,?_⟩;cases q:g ρ M with
 | ok d M1=>
  rw[q] at h;exact fun v θ1 H1 g1 r1=>k d M1 v θ1 H1 g1 r1 h
 | err c M1=>rw[q] at h;exact Fe c M1 h
 | bad=>rw[q] at h;exact(Fb h).elim
def ae (i:Nat):GE:=fun ρ M=>match ρ[i]? with
 | some (some d)=>.ok d M
 | _=>.bad
def gC (d:D):GE:=fun _ M=>.ok d M
theorem tZ {i:Nat}(h:PE X e (va i)):PE X e (tE X (ae i)):=h.of fun σ H Q hxx=>by
 obtain⟨ρ,θ,M,hd,hw,f⟩:=hxx;unfold ae at f;split at f
 ·rename_i d q;obtain⟨v,e1,r⟩:=hd.at_ i d q;exact⟨v,e1,f v θ H (.refl hw) r⟩
 ·exact f.elim
theorem tP {i j pos}:PE X (.Constant (.int i) j pos) (tE X (gC (.int i))):=sI.of fun σ H Q ⟨ρ,θ,M,hd,hw,f⟩=>f _ θ H (.refl hw) rfl
theorem uC {b j pos}:PE X (.Constant (.bool b) j pos) (tE X (gC (.bl b))):=vk.of fun σ H Q ⟨ρ,θ,M,hd,hw,f⟩=>f _ θ H (.refl hw) rfl
theorem re {j pos}:PE X (.Constant .none j pos) (tE X (gC .non)):=sF.of fun σ H Q ⟨ρ,θ,M,hd,hw,f⟩=>f _ θ H (.refl hw) rfl
theorem qW {x j pos}:PE X (.Constant (.str x) j pos) (tE X (gC (.str x))):=qD.of fun σ H Q ⟨ρ,θ,M,hd,hw,f⟩=>f _ θ H (.refl hw) rfl
abbrev F2:=D→D→am→aE D
def g2 (f:F2)(ga gb:GE):GE:=fun ρ M=>(ga ρ M).bind fun x M1=>(gb ρ M1).bind fun y M2=>f x y M2
def rD (X:Cx)(f:F2):R2:=fun x y H Q=>∃θ M dx dy,Wr X.K θ H M∧cn X.K θ H dx x∧cn X.K θ H dy y∧aH X θ H Q (f dx dy M)
theorem kZ {f:F2}{ga gb:GE}{σ:L2.St}{H:Hp}{Q:VK}(h:tE X (g2 f ga gb) σ H Q):v2 (rD X f) (tE X ga) (tE X gb) σ H Q:=by
 obtain⟨ρ,θ,M,hd,hw,h⟩:=h;refine bQ hd hw (aH X θ H Q) (fun c M' h=>h) (fun h=>h) h fun dx M1 x θ1 H1 g1 r1 h1=>?_
 refine bQ (hd.go g1) g1.wr (aH X θ1 H1 Q) (fun c M' h=>h) (fun h=>h) (h1.go g1) fun dy M2 y θ2 H2 g2 r2 h2=>?_
 exact⟨θ2,M2,dx,dy,g2.wr,r1.go g2,r2,h2.go g2⟩
theorem ux {a b:Expr}{op:Operator}{pos:Pos}{f:F2}{ga gb:GE}(ho:c4 X (binaryOp op) (rD X f))(ha:PE X a (tE X ga))(hb:PE X b (tE X gb)):PE X (.BinOp a op b pos) (tE X (g2 f ga gb)):=
 (ur ho ha hb).of fun _ _ _ h=>kZ h
theorem rA {a b:Expr}{op:CmpOp}{pos:Pos}{f:F2}{ga gb:GE}(ho:c4 X (compareOp op) (rD X f))(ha:PE X a (tE X ga))(hb:PE X b (tE X gb))(hm:behindInMarks op b=false):PE X (.Compare a [op] [b] pos) (tE X (g2 f ga gb)):=
 (pV ho ha hb hm).of fun _ _ _ h=>kZ h
def uP:D→am→aE Bool
 | .bl b,M=>.ok b M
 | _,_=>.bad
def aJ (g:GE):GT:=fun ρ M=>(g ρ M).bind uP
theorem nl {θ:List Addr}{H:Hp}{Q:Bool→Hp→Prop}{o:aE D}(h:fu X θ H Q (o.bind uP)):aH X θ H (fun x H'=>∃k,x=.bl k∧Q k H') o:=by
 cases o with
 | ok d M=>
  cases d with
  | bl b=>exact fun v θ1 H1 g1 r1=>⟨b,r1,h θ1 H1 g1⟩
  | _=>exact h.elim
 | err c M=>exact h
 | bad=>exact h
theorem nT {g:GE}{σ:L2.St}{H:Hp}{Q:Bool→Hp→Prop}(h:tT X (aJ g) σ H Q):tE X g σ H fun x H'=>∃k,x=.bl k∧Q k H':=by
 obtain⟨ρ,θ,M,hd,hw,h⟩:=h;exact⟨ρ,θ,M,hd,hw,nl h⟩
theorem tK {a b:Expr}{op:CmpOp}{pos:Pos}{f:F2}{ga gb:GE}(ho:c4 X (compareOp op) (rD X f))(ha:PE X a (tE X ga))(hb:PE X b (tE X gb))(hm:behindInMarks op b=false):PT X (.Compare a [op] [b] pos) (tT X (aJ (g2 f ga gb))):=
 (oX ho ha hb hm).of fun σ H Q h=>kZ (nT h)
def jM (f f':F2)(ga gb gc:GE):GE:=fun ρ M=>(ga ρ M).bind fun x M1=>(gb ρ M1).bind fun y M2=>(f x y M2).bind fun z M3=>match z with
 | .bl true=>(gc ρ M3).bind fun w M4=>f' y w M4
 | .bl false=>.ok (.bl false) M3
 | _=>.bad
theorem vK {f f':F2}{ga gb gc:GE}{σ:L2.St}{H:Hp}{Q:VK}(h:tE X (jM f f' ga gb gc) σ H Q):nX (rD X f) (rD X f') (tE X ga) (tE X gb) (tE X gc) σ H Q:=by
 obtain⟨ρ,θ,M,hd,hw,h⟩:=h;refine bQ hd hw (aH X θ H Q) (fun c M' h=>h) (fun h=>h) h fun dx M1 x θ1 H1 g1 r1 h1=>?_
 refine bQ (hd.go g1) g1.wr (aH X θ1 H1 Q) (fun c M' h=>h) (fun h=>h) (h1.go g1) fun dy M2 y θ2 H2 g2 r2 h2=>?_
 refine⟨θ2,M2,dx,dy,g2.wr,r1.go g2,r2,?_⟩;have h3:=h2.go g2;cases q:f dx dy M2 with
 | ok z M3=>
  rw[q] at h3;intro v θ3 H3 g3 r3;cases z with
  | bl k=>
   refine⟨k,r3,?_⟩;cases k with
   | true=>
    rw[if_pos rfl];refine bQ ((hd.go g1).go (g2.trans g3)) g3.wr (aH X θ3 H3 Q) (fun c M' h=>h) (fun h=>h) (h3.go g3) fun dw M4 w θ4 H4 g4 r4 h4=>?_
    exact⟨θ4,M4,dy,dw,g4.wr,r2.go (g3.trans g4),r4,h4.go g4⟩
   | false=>
    rw[if_neg Bool.false_ne_true];exact h3 _ θ3 H3 g3 rfl
  | _=>exact h3.elim
 | err c M3=>rw[q] at h3;exact h3
 | bad=>rw[q] at h3;exact h3
theorem nQ {a b c:Expr}{op op':CmpOp}{pos:Pos}{f f':F2}{ga gb gc:GE}(ho:c4 X (compareOp op) (rD X f))(ho':c4 X (compareOp op') (rD X f'))(ha:PE X a (tE X ga))(hb:PE X b (tE X gb))(hc:PE X c (tE X gc))
  (hm:lastMarks [op,op'] [b,c]=false:=by with_unfolding_all rfl):PT X (.Compare a [op,op'] [b,c] pos) (tT X (aJ (jM f f' ga gb gc))):=(nG ho ho' ha hb hc hm).of fun σ H Q h=>vK (nT h)
def dP (a b:GT):GT:=fun ρ M=>(a ρ M).bind fun c M1=>if c then b ρ M1 else .ok false M1
def cm (a b:GT):GT:=fun ρ M=>(a ρ M).bind fun c M1=>if c then .ok true M1 else b ρ M1
def cf (a:GT):GT:=fun ρ M=>(a ρ M).bind fun c M1=>.ok (!c) M1
theorem ku {g:GT}{σ:L2.St}{H:Hp}{Q:Bool→Hp→Prop}{α:Type}{ρ:bg}{θ:List Addr}{M:am}(hd:dO X.K θ H σ ρ)(hw:Wr X.K θ H M)(F:aE α→Prop)(Fe:∀c M',F (.err c M')→cj X θ H c M')(Fb:F .bad→False)
  {f:Bool→am→aE α} (h:F ((g ρ M).bind f)) (k:∀d M1 θ1 H1,Go X.K θ H θ1 H1 M1→F (f d M1)→Q d H1):tT X g σ H Q:=by
 refine⟨ρ,θ,M,hd,hw,?_⟩;cases q:g ρ M with
 | ok d M1=>
  rw[q] at h;exact fun θ1 H1 g1=>k d M1 θ1 H1 g1 h
 | err c M1=>rw[q] at h;exact Fe c M1 h
 | bad=>rw[q] at h;exact(Fb h).elim
variable {a b:Expr}{pos:Pos}{rest:List Expr}{ta tb:GT}{ga gb:GE}
theorem ot (ha:PT X a (tT X ta)):PW X (.BoolOp .And [a] pos) (tT X ta):=oM ha
theorem sU (ha:PT X a (tT X ta)):PW X (.BoolOp .Or [a] pos) (tT X ta):=tJ ha
theorem sT (ha:PT X a (tT X ta))(hb:PW X (.BoolOp .And (b::rest) pos) (tT X tb)):PW X (.BoolOp .And (a::b::rest) pos) (tT X (dP ta tb)):=(tu ha hb).of fun σ H Q hxx=>by
 obtain⟨ρ,θ,M,hd,hw,h⟩:=hxx;refine ku hd hw (fu X θ H Q) (fun c M' h=>h) (fun h=>h) h fun c M1 θ1 H1 g1 h1=>?_
 cases c with
 | true=>exact⟨ρ,θ1,M1,hd.go g1,g1.wr,fu.go g1 h1⟩
 | false=>exact h1 θ1 H1 g1
theorem v8 (ha:PT X a (tT X ta))(hb:PW X (.BoolOp .Or (b::rest) pos) (tT X tb)):PW X (.BoolOp .Or (a::b::rest) pos) (tT X (cm ta tb)):=(vw ha hb).of fun σ H Q hxx=>by
 obtain⟨ρ,θ,M,hd,hw,h⟩:=hxx;refine ku hd hw (fu X θ H Q) (fun c M' h=>h) (fun h=>h) h fun c M1 θ1 H1 g1 h1=>?_
 cases c with
 | true=>exact h1 θ1 H1 g1
 | false=>exact⟨ρ,θ1,M1,hd.go g1,g1.wr,fu.go g1 h1⟩
theorem tU (ha:PT X a (tT X ta)):PT X (.UnaryOp .Not a pos) (tT X (cf ta)):=(t9 ha).of fun σ H Q hxx=>by
 obtain⟨ρ,θ,M,hd,hw,h⟩:=hxx;exact ku hd hw (fu X θ H Q) (fun c M' h=>h) (fun h=>h) h fun c M1 θ1 H1 g1 h1=>h1 θ1 H1 g1
def ql (a b:GE):GE:=fun ρ M=>(a ρ M).bind fun x M1=>match x with
 | .bl true=>.ok (.bl true) M1
 | .bl false=>b ρ M1
 | _=>.bad
theorem qY {op}{g:GE}(h:PE X a (tE X g)):PE X (.BoolOp op [a] pos) (tE X g):=su h
theorem uN (ha:PE X a (tE X ga))(hb:PE X (.BoolOp .Or (b::rest) pos) (tE X gb)):PE X (.BoolOp .Or (a::b::rest) pos) (tE X (ql ga gb)):=(vD ha hb).of fun σ H Q hxx=>by
 obtain⟨ρ,θ,M,hd,hw,h⟩:=hxx;refine bQ hd hw (aH X θ H Q) (fun c M' h=>h) (fun h=>h) h fun d M1 v θ1 H1 g1 r1 h1=>?_
 cases d with
 | bl c=>
  refine⟨c,r1,?_⟩;cases c with
  | true=>rw[if_pos rfl];exact h1 _ θ1 H1 g1 rfl
  | false=>rw[if_neg Bool.false_ne_true];exact⟨ρ,θ1,M1,hd.go g1,g1.wr,aH.go g1 h1⟩
 | _=>exact h1.elim
def af:GA:=fun _ M=>.ok [] M
def aa (g:GE)(r:GA):GA:=fun ρ M=>(g ρ M).bind fun d M1=>(r ρ M1).bind fun ds M2=>.ok (d::ds) M2
theorem eM {g:GA}{σ:L2.St}{H:Hp}{Q:List V→Hp→Prop}{α:Type}{ρ:bg}{θ:List Addr}{M:am}(hd:dO X.K θ H σ ρ)(hw:Wr X.K θ H M)(F:aE α→Prop)(Fe:∀c M',F (.err c M')→cj X θ H c M')(Fb:F .bad→False)
  {f:List D→am→aE α} (h:F ((g ρ M).bind f)) (k:∀ds M1 vs θ1 H1,Go X.K θ H θ1 H1 M1→aF X.K θ1 H1 ds vs→F (f ds M1)→Q vs H1):tA X g σ H Q:=by
 refine⟨ρ,θ,M,hd,hw,?_⟩;cases q:g ρ M with
 | ok d M1=>
  rw[q] at h;exact fun v θ1 H1 g1 r1=>k d M1 v θ1 H1 g1 r1 h
 | err c M1=>rw[q] at h;exact Fe c M1 h
 | bad=>rw[q] at h;exact(Fb h).elim
theorem qV:PA X [] (tA X af):=iD.of fun σ H Q ⟨ρ,θ,M,hd,hw,f⟩=>f [] θ H (.refl hw) rfl
theorem pZ {es:List Expr}{gr:GA}(ha:PE X e (tE X ga))(hr:PA X es (tA X gr))(hs:starEach (e::es) X.env=(false,eval e X.env)::starEach es X.env:=by rfl):PA X (e::es) (tA X (aa ga gr)):=
 (ej ha hr hs).of fun σ H Q hxx=>by
  obtain⟨ρ,θ,M,hd,hw,h⟩:=hxx;refine bQ hd hw (lg X θ H Q) (fun c M' h=>h) (fun h=>h) h fun d M1 v θ1 H1 g1 r1 h1=>?_
  refine eM (hd.go g1) g1.wr (lg X θ1 H1 Q) (fun c M' h=>h) (fun h=>h) (h1.go g1) fun ds M2 vs θ2 H2 g2 r2 h2=>?_
  exact h2 (v::vs) θ2 H2 g2 ⟨v,vs,rfl,r1.go g2,r2⟩
def gL (ds:List D)(M:am):aE D:=if ds.length≤sizeLine then .ok (.tup ds) M else .bad
def aI (ds:List D)(M:am):aE D:=if ds.length≤sizeLine then .ok (.lst ds) M else .bad
def bM (ds:List D)(M:am):aE D:=if ds.length≤sizeLine then .ok (.mr M.length) (M++[.lst ds]) else .bad
def cX (g:GA):GE:=fun ρ M=>(g ρ M).bind gL
def bU (g:GA):GE:=fun ρ M=>(g ρ M).bind aI
def eN (g:GA):GE:=fun ρ M=>(g ρ M).bind bM
theorem aH.tup {θ:List Addr}{H:Hp}{Q:VK}{ds:List D}{M:am}{vs:List V}(h:aH X θ H Q (gL ds M))(hw:Wr X.K θ H M)(r:aF X.K θ H ds vs):vs.length≤sizeLine∧∀p,H p=none→Q (.ref p) (bu H p (.tup vs)):=by
 unfold gL at h
 by_cases hl:ds.length≤sizeLine
 ·rw[if_pos hl] at h;exact⟨by rw[←ai r];exact hl,fun p hp=>h _ θ _ (de hw hp) (i5 hw hp r)⟩
 ·rw[if_neg hl] at h;exact h.elim
theorem aH.lst {θ:List Addr}{H:Hp}{Q:VK}{ds:List D}{M:am}{vs:List V}(h:aH X θ H Q (aI ds M))(hw:Wr X.K θ H M)(r:aF X.K θ H ds vs):vs.length≤sizeLine∧∀p,H p=none→Q (.ref p) (bu H p (.lst vs)):=by
 unfold aI at h
 by_cases hl:ds.length≤sizeLine
 ·rw[if_pos hl] at h;exact⟨by rw[←ai r];exact hl,fun p hp=>h _ θ _ (de hw hp) (fD hw hp r)⟩
 ·rw[if_neg hl] at h;exact h.elim
theorem aH.mut {θ:List Addr}{H:Hp}{Q:VK}{ds:List D}{M:am}{vs:List V}(h:aH X θ H Q (bM ds M))(hw:Wr X.K θ H M)(r:aF X.K θ H ds vs):vs.length≤sizeLine∧∀p,H p=none→Q (.ref p) (bu H p (.lst vs)):=by
 unfold bM at h
 by_cases hl:ds.length≤sizeLine
 ·rw[if_pos hl] at h;refine⟨by rw[←ai r];exact hl,fun p hp=>h _ (θ++[p]) _ (ny hw hp r) ⟨p,rfl,?_⟩⟩;rw[←hw.len,getElem?_append_right (Nat.le_refl _)];simp
 ·rw[if_neg hl] at h;exact h.elim
theorem qM {es:List Expr}{x1}{g:GA}(h:PA X es (tA X g)):PE X (.Tuple es x1 pos) (tE X (cX g)):=(tY h).of fun σ H Q ⟨ρ,θ,M,hd,hw,h⟩=>
 eM hd hw (aH X θ H Q) (fun c M' h=>h) (fun h=>h) h fun ds M1 vs θ1 H1 g1 r1 h1=>aH.tup (aH.go g1 h1) g1.wr r1
theorem tv {es:List Expr}{g:GA}(h:PA X es (tA X g)):PE X (.List es pos) (tE X (bU g)):=(mU h).of fun σ H Q ⟨ρ,θ,M,hd,hw,h⟩=>
 eM hd hw (aH X θ H Q) (fun c M' h=>h) (fun h=>h) h fun ds M1 vs θ1 H1 g1 r1 h1=>aH.lst (aH.go g1 h1) g1.wr r1
theorem tH {es:List Expr}{g:GA}(h:PA X es (tA X g)):PE X (.List es pos) (tE X (eN g)):=(mU h).of fun σ H Q ⟨ρ,θ,M,hd,hw,h⟩=>
 eM hd hw (aH X θ H Q) (fun c M' h=>h) (fun h=>h) h fun ds M1 vs θ1 H1 g1 r1 h1=>aH.mut (aH.go g1 h1) g1.wr r1
end
section
variable {K:W.Frag}{θ:List Addr}{H:Hp}{σ:L2.St}{ρ:bg}
theorem dO.set {d:D}{v:V}(h:dO K θ H σ ρ)(r:cn K θ H d v)(i:Nat):dO K θ H (σ.set i (some v)) (ρ.set i (some d)):=by
 refine⟨by rw[length_set,length_set];exact h.len,fun j d' e=>?_⟩
 by_cases hj:j=i
 ·subst hj;have hl:j<ρ.length:=by
   have:=(List.getElem?_eq_some_iff.mp e).1;rw[length_set] at this;exact this
  rw[getElem?_set_self hl] at e;have e':d=d':=by simpa using e
  subst e';exact⟨v,getElem?_set_self (by rw[←h.len];exact hl),r⟩
 ·rw[getElem?_set_ne (Ne.symm hj)] at e;obtain⟨u,e1,r1⟩:=h.at_ j d' e;exact⟨u,by rw[getElem?_set_ne (Ne.symm hj)];exact e1,r1⟩
end
def bo:GS:=fun ρ M=>.ok (.nx ρ) M
def ar (a b:GS):GS:=fun ρ M=>(a ρ M).bind fun f M1=>match f with
 | .nx ρ1=>b ρ1 M1
 | .rt d=>.ok (.rt d) M1
 | .bk ρ1=>.ok (.bk ρ1) M1
 | .ct ρ1=>.ok (.ct ρ1) M1
def ax (i:Nat)(g:GE):GS:=fun ρ M=>(g ρ M).bind fun d M1=>.ok (.nx (ρ.set i (some d))) M1
def bT (g:GE):GS:=fun ρ M=>(g ρ M).bind fun d M1=>.ok (.rt d) M1
def dS (g:GE):GS:=fun ρ M=>(g ρ M).bind fun _ M1=>.ok (.nx ρ) M1
def dR (t:GT)(a b:GS):GS:=fun ρ M=>(t ρ M).bind fun c M1=>if c then a ρ M1 else b ρ M1
section
variable {X:Cx}{st:Stmt}{rest:List Stmt}{e:Expr}{g:GE}{t u:GS}{pos:Pos}
theorem td:PSs X [] (tS X bo):=pF.of fun D σ H ⟨ρ,θ,M,hd,hw,f⟩=>f σ θ H (.refl hw) hd
theorem pT (h1:PS X st (tS X t))(h2:PSs X rest (tS X u)):PSs X (st::rest) (tS X (ar t u)):=(mz h1 h2).of fun D σ H hxx=>by
 obtain⟨ρ,θ,M,hd,hw,h⟩:=hxx;refine⟨ρ,θ,M,hd,hw,?_⟩;unfold ar at h;cases q:t ρ M with
 | ok f M1=>
  rw[q] at h;cases f with
  | nx ρ1=>exact fun σ1 θ1 H1 g1 d1=>⟨ρ1,θ1,M1,d1,g1.wr,bi.go g1 h⟩
  | rt d=>exact h
  | bk ρ1=>exact h
  | ct ρ1=>exact h
 | err c M1=>rw[q] at h;exact h
 | bad=>rw[q] at h;exact h
theorem tL (h1:PS X st (tS X t)):PSs X [st] (tS X t):=pw h1
theorem tX {i:Nat}{x:Str}{pos':Pos}(hN:X.N.Nodup)(hi:X.N[i]?=some x)(hx:n8 X.env.scope x)(he:PE X e (tE X g))(hs:swapsWith e (some (.Name x pos')) pos.line X.env=pure false:=by rfl)(hf:X.fn x=true∨X.env.scope.names.lookup x=some .local:=by first|exact .inl rfl|exact .inr rfl|assumption) :
  PS X (.Assign [.Name x pos'] e pos) (tS X (ax i g)):=(sB hN hi hx he hs hf).of fun D σ H ⟨ρ,θ,M,hd,hw,h⟩=>
 bQ hd hw (bi X θ H D) (fun c M' h=>h) (fun h=>h) h fun d M1 v θ1 H1 g1 r1 h1=>h1 _ θ1 H1 g1 ((hd.go g1).set r1 i)
theorem qJ (he:PE X e (tE X g)):PS X (.Return (some e) pos) (tS X (bT g)):=(qL he).of fun D σ H ⟨ρ,θ,M,hd,hw,h⟩=>
 bQ hd hw (bi X θ H D) (fun c M' h=>h) (fun h=>h) h fun d M1 v θ1 H1 g1 r1 h1=>h1 v θ1 H1 g1 r1
theorem oH (he:PE X e (tE X g))(hs:swapsWith e none pos.line X.env=pure false:=by rfl):PS X (.Expr e pos) (tS X (dS g)):=(oE he hs).of fun D σ H ⟨ρ,θ,M,hd,hw,h⟩=>
 bQ hd hw (bi X θ H D) (fun c M' h=>h) (fun h=>h) h fun d M1 v θ1 H1 g1 r1 h1=>h1 σ θ1 H1 g1 (hd.go g1)
theorem ve {c:Expr}{a b:List Stmt}{tc:GT}(hc:PT X c (tT X tc))(ha:PSs X a (tS X t))(hb:PSs X b (tS X u)):PS X (.If c a b pos) (tS X (dR tc t u)):=(vB hc ha hb).of fun D σ H hxx=>by
 obtain⟨ρ,θ,M,hd,hw,h⟩:=hxx;refine ku hd hw (bi X θ H D) (fun c M' h=>h) (fun h=>h) h fun c M1 θ1 H1 g1 h1=>?_
 cases c with
 | true=>rw[if_pos rfl];exact⟨ρ,θ1,M1,hd.go g1,g1.wr,bi.go g1 h1⟩
 | false=>rw[if_neg Bool.false_ne_true];exact⟨ρ,θ1,M1,hd.go g1,g1.wr,bi.go g1 h1⟩
abbrev GG:=D→bg→Option bg
def tG (X:Cx)(s:GG):TG:=fun v σ H Q=>∃ρ θ M d,dO X.K θ H σ ρ∧Wr X.K θ H M∧cn X.K θ H d v∧∃ρ',s d ρ=some ρ'∧∀σ',dO X.K θ H σ' ρ'→Q σ' H
def bX (i:Nat):GG:=fun d ρ=>some (ρ.set i (some d))
def eK:List Nat→List D→bg→Option bg
 | [],[],ρ=>some ρ
 | i::is,d::ds,ρ=>eK is ds (ρ.set i (some d))
 | _,_,_=>none
def cg (is:List Nat):GG:=fun d ρ=>match d with
 | .tup ds=>eK is ds ρ
 | _=>none
theorem iN {i:Nat}{x:Str}(hN:X.N.Nodup)(hi:X.N[i]?=some x)(hx:n8 X.env.scope x)(hf:X.fn x=true∨X.env.scope.names.lookup x=some .local:=by first|exact .inl rfl|exact .inr rfl|assumption):PG X (.Name x pos) (tG X (bX i)):=by
 intro ab s σ H v u Q I r h;obtain⟨ρ,θ,M,d,hd,hw,rd,ρ',e,h⟩:=h;cases e;exact pS hN hi hx hf ab s σ H v u Q I r (h _ (hd.set rd i))
def uW (X:Cx)(is:List Nat):qq:=fun vs σ H Q=>∃ρ θ M ds,dO X.K θ H σ ρ∧Wr X.K θ H M∧aF X.K θ H ds vs∧∃ρ',eK is ds ρ=some ρ'∧∀σ',dO X.K θ H σ' ρ'→Q σ' H
theorem ou:pJ X [] (uW X []):=by
 intro ab s σ H vs us Q I r h;obtain⟨ρ,θ,M,ds,hd,hw,rd,ρ',e,h⟩:=h;cases ds with
 | cons d ds=>cases e
 | nil=>
  have e2:vs=[]:=rd;subst e2;cases e;exact pI ab s σ H [] us Q I r ⟨rfl,h σ hd⟩
theorem my {i:Nat}{is:List Nat}{es:List Expr}(h1:PG X e (tG X (bX i)))(h2:pJ X es (uW X is))
  (hs:(assignEach (e::es) X.env).map (·.2)=assign e X.env::(assignEach es X.env).map (·.2):=by rfl):pJ X (e::es) (uW X (i::is)):=by
 intro ab s σ H vs us Q I r h;obtain⟨ρ,θ,M,ds,hd,hw,rd,ρ',e1,h⟩:=h;cases ds with
 | nil=>cases e1
 | cons d ds=>
  obtain⟨v,vr,e2,rv,rr⟩:=rd;subst e2;refine nI h1 h2 hs ab s σ H _ us Q I r ⟨v,vr,rfl,ρ,θ,M,d,hd,hw,rv,_,rfl,fun σ1 d1=>?_⟩;exact⟨_,θ,M,ds,d1,hw,rr,ρ',e1,h⟩
theorem rN {is:List Nat}{es:List Expr}{k:Nat}{n:Nat}(hc:X.calm=true)(h:pJ X es (uW X is))(hl:is.length=n:=by rfl)
  (hn:(assignEach es X.env).length=n:=by rfl) (hst:(assignEach es X.env).findIdx? (·.1)=none:=by rfl):PG X (.Tuple es k pos) (tG X (cg is)):=by
 intro ab s σ H v u Q I r hw;obtain⟨ρ,θ,M,d,hd,hwr,rd,ρ',e1,hw⟩:=hw;cases d with
 | tup ds=>
  obtain⟨a,vs,e2,ta,rs⟩:=rd;have hlen:ds.length=is.length:=by
   have e1:eK is ds ρ=some ρ':=e1;clear hw hd hwr rs hn hst h hl
   induction is generalizing ds ρ with
   | nil=>
    cases ds with
    | nil=>rfl
    | cons _ _=>cases e1
   | cons i is ih=>
    cases ds with
    | nil=>cases e1
    | cons d ds=>rw[length_cons,length_cons,ih _ ds e1 e1]
  refine tV (n:=n) hc h hn hst ab s σ H v u Q I r ⟨a,vs,e2,ta.sq,by rw[←ai rs,hlen,hl],?_⟩;exact⟨ρ,θ,M,ds,hd,hwr,rs,ρ',e1,hw⟩
 | _=>cases e1
def kr:List GG→List D→bg→Option bg
 | [],[],ρ=>some ρ
 | s::ss,d::ds,ρ=>match s d ρ with
  | some ρ1=>kr ss ds ρ1
  | none=>none
 | _,_,_=>none
def g6 (s:GG)(g:GE):GS:=fun ρ M=>(g ρ M).bind fun d M1=>match s d ρ with
 | some ρ1=>.ok (.nx ρ1) M1
 | none=>.bad
theorem rQ {tg:Expr}{s:GG}(he:PE X e (tE X g))(hg:PG X tg (tG X s))(hs:swapsWithSole [tg] e pos.line X.env=pure false:=by rfl)(hw:swappedStores [tg] e X.env=pure none:=by rfl)
  (h1:(assignEach [tg] X.env).map (·.2)=[assign tg X.env]:=by rfl):PS X (.Assign [tg] e pos) (tS X (g6 s g)):=(nN he hg hs hw h1).of fun D σ H hxx=>by
 obtain⟨ρ,θ,M,hd,hwr,h⟩:=hxx;refine bQ hd hwr (bi X θ H D) (fun c M' h=>h) (fun h=>h) h fun d M1 v θ1 H1 g1 r1 h1=>?_
 cases q:s d ρ with
 | some ρ1=>
  rw[q] at h1;exact⟨ρ,θ1,M1,d,hd.go g1,g1.wr,r1,ρ1,q,fun σ' d'=>h1 σ' θ1 H1 g1 d'⟩
 | none=>rw[q] at h1;exact h1.elim
def ke (o i x:D)(M:am):aE Unit:=match o,i with
 | .mr k,.int j=>match M[k]? with
  | some (.lst xs)=>match nC xs.length j with
   | some n=>.ok () (M.set k (.lst (xs.set n x)))
   | none=>.bad
  | _=>.bad
 | _,_=>.bad
def cO (go gi g:GE):GS:=fun ρ M=>(g ρ M).bind fun x M1=>(go ρ M1).bind fun o M2=>(gi ρ M2).bind fun i M3=>(ke o i x M3).bind fun _ M4=>.ok (.nx ρ) M4
theorem sd {o i:Expr}{ip:Pos}{go gi:GE}(he:PE X e (tE X g))(ho:PE X o (tE X go))(hi:PE X i (tE X gi))
  (ha:∀v,assign (.Subscript o i ip) X.env v=(do
   let ov ←holding [v] (eval o X.env)
   let iv ←holding [v,ov] (eval i X.env)
   standAt ip
   holding [v,ov,iv] (setItem ov iv v)
   release [v,ov,iv] []):=by intro _;rfl)
  (hs:swapsWithSole [.Subscript o i ip] e pos.line X.env=pure false:=by rfl) (hw:swappedStores [.Subscript o i ip] e X.env=pure none:=by rfl)
  (h1:(assignEach [.Subscript o i ip] X.env).map (·.2)=[assign (.Subscript o i ip) X.env]:=by rfl):PS X (.Assign [.Subscript o i ip] e pos) (tS X (cO go gi g)):=
 (nN he (qC ho hi ng ha) hs hw h1).of fun D σ H hxx=>by
  obtain⟨ρ,θ,M,hd,hwr,h⟩:=hxx;refine bQ hd hwr (bi X θ H D) (fun c M' h=>h) (fun h=>h) h fun dx M1 vx θ1 H1 g1 r1 h1=>?_
  refine bQ (hd.go g1) g1.wr (bi X θ1 H1 D) (fun c M' h=>h) (fun h=>h) (h1.go g1) fun dob M2 vo θ2 H2 g2 r2 h2=>?_
  refine bQ ((hd.go g1).go g2) g2.wr (bi X θ2 H2 D) (fun c M' h=>h) (fun h=>h) (h2.go g2) fun di M3 vi θ3 H3 g3 r3 h3=>?_
  have h4:=h3.go g3;unfold ke at h4;split at h4
  ·rename_i k j;split at h4
   ·rename_i xs q;split at h4
    ·rename_i n hn;obtain⟨a,ea,ta⟩:=r2.go g3;obtain⟨vs,ev,rv⟩:=g3.wr.at_ k a _ ta q;have ei:vi=.int j:=r3;refine⟨a,vs,j,n,ea,ei,ev,by rw[←ai rv];exact hn,?_⟩;have gs:=mM (ds:=xs) g3.wr ta (jb (r1.go (g2.trans g3)) n rv);exact h4 σ θ3 _ gs ((((hd.go g1).go g2).go g3).go gs)
    ·exact h4.elim
   ·exact h4.elim
  ·exact h4.elim
end
mutual
def oV:D→D→Bool
 | .non,.non=>true
 | .bl a,.bl b=>a==b
 | .int a,.int b=>a==b
 | .str a,.str b=>a==b
 | .tup a,.tup b=>dr a b
 | .lst a,.lst b=>dr a b
 | .ro a,.ro b=>dr a b
 | .mr a,.mr b=>a==b
 | .exc a,.exc b=>a==b
 | .any,.any=>true
 | _,_=>false
def dr:List D→List D→Bool
 | [],[]=>true
 | a::as,b::bs=>oV a b&&dr as bs
 | _,_=>false
end
theorem ff {P:Prop}(h:false=true):P:=absurd h Bool.false_ne_true
mutual
theorem oz:∀(a b:D),oV a b=true→a=b
 | .non,b,h=>by
  cases b with
  | non=>rfl
  | _=>exact ff h
 | .bl x,b,h=>by
  cases b with
  | bl y=>rw[eq_of_beq (show(x==y)=true from h)]
  | _=>exact ff h
 | .int x,b,h=>by
  cases b with
  | int y=>rw[eq_of_beq (show(x==y)=true from h)]
  | _=>exact ff h
 | .str x,b,h=>by
  cases b with
  | str y=>rw[eq_of_beq (show(x==y)=true from h)]
  | _=>exact ff h
 | .tup x,b,h=>by
  cases b with
  | tup y=>rw[c7 x y h]
  | _=>exact ff h
 | .lst x,b,h=>by
  cases b with
  | lst y=>rw[c7 x y h]
  | _=>exact ff h
 | .ro x,b,h=>by
  cases b with
  | ro y=>rw[c7 x y h]
  | _=>exact ff h
 | .mr x,b,h=>by
  cases b with
  | mr y=>rw[eq_of_beq (show(x==y)=true from h)]
  | _=>exact ff h
 | .exc x,b,h=>by
  cases b with
  | exc y=>rw[eq_of_beq (show(x==y)=true from h)]
  | _=>exact ff h
 | .any,b,h=>by
  cases b with
  | any=>rfl
  | _=>exact ff h
theorem c7:∀(a b:List D),dr a b=true→a=b
 | [],b,h=>by
  cases b with
  | nil=>rfl
  | cons _ _=>exact ff h
 | x::xs,b,h=>by
  cases b with
  | nil=>exact ff h
  | cons y ys=>
   have h:=Bool.and_eq_true_iff.mp (show(oV x y&&dr xs ys)=true from h);rw[oz x y h.1,c7 xs ys h.2]
end
mutual
theorem ll:∀(a:D),oV a a=true
 | .non=>rfl
 | .bl x=>beq_self_eq_true x
 | .int x=>beq_self_eq_true x
 | .str x=>beq_self_eq_true x
 | .tup x=>bA x
 | .lst x=>bA x
 | .ro x=>bA x
 | .mr x=>beq_self_eq_true x
 | .exc x=>beq_self_eq_true x
 | .any=>rfl
theorem bA:∀(a:List D),dr a a=true
 | []=>rfl
 | x::xs=>Bool.and_eq_true_iff.mpr ⟨ll x,bA xs⟩
end
structure gn where
 ds:List D
 m:Option Nat
def gn.ok (t:gn)(M:am):Bool:=match t.m with
 | none=>true
 | some i=>match M[i]? with
  | some (.lst xs)=>dr xs t.ds
  | _=>false
abbrev GI:=bg→am→aE gn
def qB (K:W.Frag)(J:It)(θ:List Addr)(H:Hp)(t:gn):Prop:=∀θ1 H1 M1,Go K θ H θ1 H1 M1→t.ok M1=true→∀i:Nat,
 (∀d,t.ds[i]?=some d→J.go i H1∧∀x H2,J.yld i H1 x H2→Go K θ1 H1 θ1 H2 M1∧cn K θ1 H2 d x)∧(t.ds.length≤i→J.stop i H1)
def pk (X:Cx)(θ:List Addr)(H:Hp)(R:It→Hp→Prop):aE gn→Prop
 | .ok t M'=>∀J θ' H',Go X.K θ H θ' H' M'→qB X.K J θ' H' t→R J H'
 | .err c M'=>cj X θ H c M'
 | .bad=>False
def tI (X:Cx)(g:GI):TI:=fun σ H R=>∃ρ θ M,dO X.K θ H σ ρ∧Wr X.K θ H M∧pk X θ H R (g ρ M)
def k8 (d:D)(M:am):aE gn:=match d with
 | .lst ds=>.ok ⟨ds,none⟩ M
 | .ro ds=>.ok ⟨ds,none⟩ M
 | .tup ds=>.ok ⟨ds,none⟩ M
 | .mr k=>match M[k]? with
  | some (.lst ds)=>.ok ⟨ds,some k⟩ M
  | _=>.bad
 | _=>.bad
def cb (g:GE):GI:=fun ρ M=>(g ρ M).bind k8
section
variable {X:Cx}{tg:Expr}
theorem wb {l:Expr}{tl:TE}(hl:PE X l tl):PI X tg l (fun σ H R=>tl σ H fun x H1=>∃a,x=.ref a∧(((∃xs,fA X.K H1 a xs)∧R (wG X.K a) H1)∨((∃xs,gZ X.K H1 a xs)∧R (xF X.K a) H1))):=by
 intro ab s σ H R I h;refine bL (hl ab s σ H _ I h) fun v s1 hxx=>?_
 obtain⟨x,H1,I1,r1,q1⟩:=hxx;obtain⟨a,e,q1⟩:=q1;subst e;cases r1;rcases q1 with⟨⟨xs,hq⟩,q⟩|⟨⟨xs,hq⟩,q⟩
 ·obtain⟨its,rv,p,hz⟩:=I1.list hq;refine wpAny_pyIter_list p.isList ?_;refine⟨s1.heap.objs.size,[s1.heap.objs.size],_,_,H1,rfl,I1.kept (t':=s1.toks) fun b o e=>Heap.get?_push_of_some _ e,lr a _,⟨_,Heap.get?_push_size _ rfl,rfl,rfl⟩,fun b hb=>?_,q⟩;have e:b=s1.heap.objs.size:=by simpa using hb
  subst e;exact I1.fpOk (Nat.le_refl _) (I1.hok.fresh (Nat.le_refl _))
 ·obtain⟨its,rv,p,hz⟩:=I1.tuple hq;refine wpAny_pyIter_tuple (show s1.heap.IsTuple a its.toArray from p) ?_;refine⟨s1.heap.objs.size,[s1.heap.objs.size],_,_,H1,rfl,I1.kept (t':=s1.toks) fun b o e=>Heap.get?_push_of_some _ e,jT a _,⟨_,Heap.get?_push_size _ rfl,rfl,rfl⟩,fun b hb=>?_,q⟩;have e:b=s1.heap.objs.size:=by simpa using hb
  subst e;exact I1.fpOk (Nat.le_refl _) (I1.hok.fresh (Nat.le_refl _))
theorem kR {K:W.Frag}{θ:List Addr}{H:Hp}{a:Addr}{ds:List D}{vs:List V}(ta:iR K θ H a vs)(r:aF K θ H ds vs):qB K (wG K a) θ H ⟨ds,none⟩:=by
 intro θ1 H1 M1 g _ i;have t1:=(ta.grow g.toGrow).sq;have r1:=r.go g;refine⟨fun d e=>?_,fun hl=>⟨vs,t1,by rw[←ai r1];exact hl⟩⟩;obtain⟨v,e1,rv⟩:=bR r1 e;refine⟨⟨vs,v,t1,e1⟩,fun x H2 y=>?_⟩;obtain⟨eH,y⟩:=y;subst eH;have e2:=y vs t1;rw[e1] at e2;cases e2;exact⟨.refl g.wr,rv⟩
theorem oA {K:W.Frag}{θ:List Addr}{H:Hp}{a:Addr}{ds:List D}{vs:List V}(ta:fx K θ H a vs)(r:aF K θ H ds vs):qB K (xF K a) θ H ⟨ds,none⟩:=by
 intro θ1 H1 M1 g _ i;have t1:=(ta.grow g.toGrow).sq;have r1:=r.go g;refine⟨fun d e=>?_,fun hl=>⟨vs,t1,by rw[←ai r1];exact hl⟩⟩;obtain⟨v,e1,rv⟩:=bR r1 e;refine⟨⟨vs,v,t1,e1⟩,fun x H2 y=>?_⟩;obtain⟨eH,y⟩:=y;subst eH;have e2:=y vs t1;rw[e1] at e2;cases e2;exact⟨.refl g.wr,rv⟩
theorem o4 {K:W.Frag}{θ:List Addr}{H:Hp}{a:Addr}{ds:List D}{k:Nat}(ta:θ[k]?=some a):qB K (wG K a) θ H ⟨ds,some k⟩:=by
 intro θ1 H1 M1 g hok i;have t1:θ1[k]?=some a:=by
  obtain⟨m,em,_⟩:=g.ext;rw[em,getElem?_append_left (List.getElem?_eq_some_iff.mp ta).1];exact ta
 have hok':(match M1[k]? with|some (.lst xs)=>dr xs ds|_=>false)=true:=hok;cases q:M1[k]? with
 | none=>rw[q] at hok';cases hok'
 | some m=>
  cases m with
  | lst xs=>
   rw[q] at hok';have e:xs=ds:=c7 xs ds hok';subst e;obtain⟨vs,hv,r1⟩:=g.wr.at_ k a _ t1 q;have s1:fA K H1 a vs:=.inl (.inl hv);refine⟨fun d e=>?_,fun hl=>⟨vs,s1,by rw[←ai r1];exact hl⟩⟩;obtain⟨v,e1,rv⟩:=bR r1 e;refine⟨⟨vs,v,s1,e1⟩,fun x H2 y=>?_⟩;obtain⟨eH,y⟩:=y;subst eH;have e2:=y vs s1;rw[e1] at e2;cases e2;exact⟨.refl g.wr,rv⟩
  | _=>rw[q] at hok';cases hok'
theorem s0 {l:Expr}{g:GE}(hl:PE X l (tE X g)):PI X tg l (tI X (cb g)):=by
 intro ab s σ H R I h;refine wb hl ab s σ H R I ?_;obtain⟨ρ,θ,M,hd,hw,h⟩:=h;refine bQ hd hw (pk X θ H R) (fun c M' h=>h) (fun h=>h) h fun d M1 v θ1 H1 g1 r1 h1=>?_
 cases d with
 | lst ds=>
  obtain⟨a,vs,e,ta,r⟩:=r1;exact⟨a,e,.inl ⟨⟨vs,ta.sq⟩,h1 _ θ1 H1 g1 (kR (.inl ⟨.inl ta.1,ta.2⟩) r)⟩⟩
 | ro ds=>
  obtain⟨a,vs,e,ta,r⟩:=r1;exact⟨a,e,.inl ⟨⟨vs,ta.sq⟩,h1 _ θ1 H1 g1 (kR ta r)⟩⟩
 | tup ds=>
  obtain⟨a,vs,e,ta,r⟩:=r1;exact⟨a,e,.inr ⟨⟨vs,ta.sq⟩,h1 _ θ1 H1 g1 (oA ta r)⟩⟩
 | mr k=>
  obtain⟨a,e,ta⟩:=r1;have h2:pk X θ H R (match M1[k]? with|some (.lst ds)=>.ok ⟨ds,some k⟩ M1|_=>.bad):=h1;cases q:M1[k]? with
  | none=>rw[q] at h2;exact h2.elim
  | some m=>
   cases m with
   | lst ds=>
    rw[q] at h2;obtain⟨vs,hv,r⟩:=g1.wr.at_ k a _ ta q;exact⟨a,e,.inl ⟨⟨vs,.inl (.inl hv)⟩,h2 _ θ1 H1 g1 (o4 ta)⟩⟩
   | _=>rw[q] at h2;exact h2.elim
 | _=>exact h1.elim
def aG (lo:Int)(n:Nat):List D:=(List.range n).map fun(k:Nat)=>D.int (lo+(k:Int))
theorem oi {K:W.Frag}{θ:List Addr}{H:Hp}(lo:Int)(n:Nat):qB K (ww lo n) θ H ⟨aG lo n,none⟩:=by
 intro θ1 H1 M1 g _ i;refine⟨fun d e=>?_,fun hl=>?_⟩
 ·have hi:i<n:=by
   have:=(List.getElem?_eq_some_iff.mp e).1;simpa[aG] using this
  refine⟨hi,fun x H2 y=>?_⟩;obtain⟨eH,y⟩:=y;subst eH;refine⟨.refl g.wr,?_⟩;have e':D.int (lo+(i:Int))=d:=by
   have:(aG lo n)[i]?=some (D.int (lo+(i:Int))):=by simp[aG,hi]
   rw[this] at e;exact Option.some.inj e
  subst e';exact y
 ·have h2:(aG lo n).length≤i:=hl;have h3:n≤i:=by simpa[aG] using h2
  exact h3
def mw (ds:List D)(M:am):aE gn:=match ds with
 | [.int j]=>if -(2 ^ 62)≤j∧j<2 ^ 62 then .ok ⟨aG 0 j.toNat,none⟩ M else .bad
 | _=>.bad
def cD (g:GA):GI:=fun ρ M=>(g ρ M).bind mw
theorem l0 {a:Expr}{g:GA}{p pos:Pos}(hg:Gl X "range")(hm:X.mg "range"=none)(ha:PA X [a] (tA X g))(hs:starEach [a] X.env=[(false,eval a X.env)]:=by rfl):PI X tg (.Call (.Name "range" p) [a] [] pos) (tI X (cD g)):=by
 intro ab s σ H R I h;refine l5 hg hm ha hs ab s σ H R I ?_;obtain⟨ρ,θ,M,hd,hw,h⟩:=h;refine eM hd hw (pk X θ H R) (fun c M' h=>h) (fun h=>h) h fun ds M1 vs θ1 H1 g1 r1 h1=>?_
 unfold mw at h1;split at h1
 ·rename_i j;obtain⟨v,r,e,rv,rr⟩:=r1;have e2:r=[]:=rr;have e3:v=.int j:=rv;subst e2;subst e3;split at h1
  ·rename_i hj;exact⟨j,e,hj.1,hj.2,h1 _ θ1 H1 g1 (oi 0 j.toNat)⟩
  ·exact h1.elim
 ·exact h1.elim
def cp (t:gn)(s:GG)(body:GS):List D→bg→am→aE Fl
 | [],ρ,M=>if t.ok M then .ok (.nx ρ) M else .bad
 | d::r,ρ,M=>if t.ok M then
   match s d ρ with
   | none=>.bad
   | some ρ1=>(body ρ1 M).bind fun f M1=>match f with
    | .nx ρ2=>cp t s body r ρ2 M1
    | .ct ρ2=>cp t s body r ρ2 M1
    | .bk ρ2=>.ok (.nx ρ2) M1
    | .rt d=>.ok (.rt d) M1
  else .bad
def ee (gi:GI)(s:GG)(body:GS):GS:=fun ρ M=>(gi ρ M).bind fun t M1=>cp t s body t.ds ρ M1
theorem sR {iter:Expr}{body:List Stmt}{gi:GI}{sg:GG}{gb:GS}{pos:Pos}(hp:PassesOwn (model X.prog X.w) X.A X.env X.xe)(hc:X.calm=true)(hi:PI X tg iter (tI X gi))(hg:PG X tg (tG X sg))(hb:PSs X body (tS X gb))
  (hs:∀x,foldedSetIterable iter X.env x=pure x:=by intro _;rfl):PS X (.For tg iter body [] pos) (tS X (ee gi sg gb)):=(mv hp hc hi hg hb hs).of fun D σ H hxx=>by
 obtain⟨ρ,θ,M,hd,hw,h⟩:=hxx;refine⟨ρ,θ,M,hd,hw,?_⟩;unfold ee at h;cases q:gi ρ M with
 | err c M1=>rw[q] at h;exact h
 | bad=>rw[q] at h;exact h
 | ok t M1=>
  rw[q] at h;intro J θ1 H1 g1 hJ;have h:bi X θ H D (cp t sg gb t.ds ρ M1):=h;refine⟨fun i m σ' H'=>m=t.ds.length-i∧i≤t.ds.length∧∃ρ' θ' M',Go X.K θ1 H1 θ' H' M'∧dO X.K θ' H' σ' ρ'∧bi X θ' H' D (cp t sg gb (t.ds.drop i) ρ' M'),
   ⟨t.ds.length,by simp,Nat.zero_le _,ρ,θ1,M1,.refl g1.wr,hd.go g1,bi.go g1 h⟩,?_⟩
  rintro i m σ' H' ⟨rfl,hil,ρ',θ',M',g',hd',h'⟩
  by_cases hok:t.ok M'=true
  ·obtain⟨hy,hst⟩:=hJ θ' H' M' g' hok i
   by_cases hlt:i<t.ds.length
   ·refine .inr ?_;have e1:t.ds[i]?=some t.ds[i]:=getElem?_eq_getElem hlt;obtain⟨hgo,hyl⟩:=hy _ e1;rw[drop_eq_getElem_cons hlt,cp,if_pos hok] at h';refine⟨hgo,fun σ2 H2=>∃ρ2 θ2 M2,Go X.K θ' H' θ2 H2 M2∧dO X.K θ2 H2 σ2 ρ2∧bi X θ2 H2 D (cp t sg gb (t.ds.drop (i+1)) ρ2 M2),fun σ2 H2 ⟨ρ2,θ2,M2,g2,d2,h2⟩=>?_,fun x H2 y=>?_⟩
    ·exact⟨t.ds.length-(i+1),by omega,rfl,hlt,ρ2,θ2,M2,g'.trans g2,d2,h2⟩
    ·obtain⟨gy,rx⟩:=hyl x H2 y;cases qs:sg t.ds[i] ρ' with
     | none=>rw[qs] at h';exact h'.elim
     | some ρ1=>
      rw[qs] at h';refine⟨ρ',θ',M',_,hd'.go gy,gy.wr,rx,ρ1,qs,fun σ1 d1=>⟨ρ1,θ',M',d1,gy.wr,?_⟩⟩;have h':bi X θ' H2 D ((gb ρ1 M').bind _):=bi.go gy h';cases qb:gb ρ1 M' with
      | err c M2=>rw[qb] at h';exact h'
      | bad=>rw[qb] at h';exact h'
      | ok f M2=>
       rw[qb] at h';cases f with
       | nx ρ2=>exact fun σ2 θ2 H3 g2 d2=>⟨ρ2,θ2,M2,gy.trans g2,d2,bi.go g2 h'⟩
       | ct ρ2=>exact fun σ2 θ2 H3 g2 d2=>⟨ρ2,θ2,M2,gy.trans g2,d2,bi.go g2 h'⟩
       | bk ρ2=>exact h'
       | rt d=>exact h'
   ·have e:i=t.ds.length:=by omega
    subst e;rw[drop_length,cp,if_pos hok] at h';exact .inl ⟨hst (Nat.le_refl _),h' σ' θ' H' (.refl g'.wr) hd'⟩
  ·have hz:bi X θ' H' D .bad:=by
    cases hdr:t.ds.drop i with
    | nil=>rw[hdr,cp,if_neg hok] at h';exact h'
    | cons d r=>rw[hdr,cp,if_neg hok] at h';exact h'
   exact hz.elim
end
def oj (K:W.Frag)(θ:List Addr)(H:Hp)(E:XK)(c:Str)(M:am):Prop:=∀C θ' H' a,gk K c C→Go K θ H θ' H' M→E (.ref C) (some a) H'
def lR (K:W.Frag)(θ:List Addr)(H:Hp)(Q:VK)(E:XK):aE D→Prop
 | .ok d M'=>∀v θ' H',Go K θ H θ' H' M'→cn K θ' H' d v→Q v H'
 | .err c M'=>oj K θ H E c M'
 | .bad=>False
abbrev FD:=List D→am→aE D
def jB (K:W.Frag)(n:Nat)(F:FD):Sp:=fun vs H Q E=>∃θ M ds,ds.length=n∧aF K θ H ds vs∧Wr K θ H M∧lR K θ H Q E (F ds M)
theorem ko {K:W.Frag}{n:Nat}{F:FD}{ps:List Str}(hn:ps.length=n):∀vs H Q E,jB K n F vs H Q E→vs.length=ps.length:=fun vs H Q E ⟨θ,M,ds,hl,r,_⟩=>by rw[hn,←hl,ai r]
def fb (k:Nat)(ds:List D):bg:=ds.map some++List.replicate k none
def bv (o:aE Fl):aE D:=o.bind fun f M=>match f with
 | .rt d=>.ok d M
 | .nx _=>.ok .non M
 | _=>.bad
def dC (k:Nat)(g:GS):FD:=fun ds M=>bv (g (fb k ds) M)
theorem uu {K:W.Frag}{θ:List Addr}{H:Hp}{ds:List D}{vs:List V}(r:aF K θ H ds vs)(N:List Str):dO K θ H (L2.start N vs) (fb (N.length-vs.length) ds):=by
 have hl:=ai r;refine⟨by simp[L2.start,fb,hl],fun i d e=>?_⟩;unfold fb at e
 by_cases hi:i<ds.length
 ·rw[getElem?_append_left (by simpa using hi),getElem?_map] at e;cases q:ds[i]? with
  | none=>rw[q] at e;cases e
  | some d'=>
   rw[q] at e;have e':d'=d:=by simpa using e
   subst e';obtain⟨v,e1,rv⟩:=bR r q;refine⟨v,?_,rv⟩;unfold L2.start;rw[getElem?_append_left (by rw[length_map,←hl];exact hi),getElem?_map,e1];rfl
 ·rw[getElem?_append_right (by simpa using hi),getElem?_replicate] at e;split at e <;> cases e
section
variable {P:Program}{w:World}{K:W.Frag}{mg:Str→Option Value}{base:Heap}
theorem xT {x qual:Str}{st:Stmt}{f:Addr}{fd:FuncData}{N ps:List Str}{k n:Nat}{g:GS}(F:oJ K x qual st f fd)(S:cr N ps (aq st))(hn:ps.length=n)
  (hbody:∀(cdv:Value) (A:Around) (outer:List Env) (s:Shared) (H:Hp) (E:XK),bf k (A.deeper (envOfC qual (aq st) s.heap.objs.size f cdv))→
   PSs (dA (dU P w) P w K mg base N qual (aq st) f cdv A outer s H E) (a7 st) (tS (dA (dU P w) P w K mg base N qual (aq st) f cdv A outer s H E) g)) :
  cQ P w K mg base (dU P w) (k+1) f fd ps (jB K n (dC (N.length-n) g)):=by
 obtain⟨oc,od,kV,doc,pm,an,cdv,ct,osl,rfl,lk,hcd⟩:=F.ex;refine p6 lk hcd S (ko hn) fun A outer s H vs Q E hr h=>⟨_,hbody cdv A outer s H E hr,?_⟩
 obtain⟨θ,M,ds,hl,r,hw,h⟩:=h;have hv:vs.length=n:=by rw[←ai r];exact hl
 refine⟨fb (N.length-n) ds,θ,M,by rw[←hv];exact uu r N,hw,?_⟩;have h:lR K θ H Q E (bv (g (fb (N.length-n) ds) M)):=h;unfold bv at h;cases q:g (fb (N.length-n) ds) M with
 | bad=>rw[q] at h;exact h
 | err c M1=>
  rw[q] at h;have h:oj K θ H E c M1:=h;exact fun C θ' H' a s' kC g1 fl=>gF fl (h C θ' H' a kC g1)
 | ok fl M1=>
  rw[q] at h;cases fl with
  | rt d=>exact h
  | nx ρ1=>exact fun σ1 θ1 H1 g1 _=>h .non θ1 H1 g1 rfl
  | bk ρ1=>exact h.elim
  | ct ρ1=>exact h.elim
end
section
variable {X:Cx}{e:Expr}{es:List Expr}{x:Str}{p pos:Pos}{k n:Nat}{f:Addr}{fd:FuncData}{ps:List Str}{F:FD}{ga:GA}
def ao (n:Nat)(F:FD)(ga:GA):GE:=fun ρ M=>(ga ρ M).bind fun ds M1=>if ds.length=n then F ds M1 else .bad
def uX (X:Cx):XK:=fun cls oa H'=>∃a C c θ M,oa=some a∧cls=.ref C∧gk X.K c C∧Wr X.K θ H' M∧cj X θ H' c M
theorem jw:jY (dU X.prog X.w) X (uX X):=fun ab σ H s e s' I h=>by
 obtain⟨a,C,H',rfl,fl,a',C',c,θ,M,e1,e2,kC,hw,ok⟩:=lP I h;cases e1;cases e2;exact ok C θ H' a s' kC (.refl hw) fl
theorem o9 {θ:List Addr}{H:Hp}{c:Str}{M:am}(h:cj X θ H c M):oj X.K θ H (uX X) c M:=fun C θ' H' a kC g=>⟨a,C,c,θ',M,rfl,rfl,kC,g.wr,h.go g⟩
theorem oq (Fn:cQ X.prog X.w X.K X.mg X.base (dU X.prog X.w) k f fd ps (jB X.K n F))(hr:bf k X.A)(hg:Gl X x)(hm:X.mg x=some (.ref f))(hk:W.keepIn X.K (.ref f)=true)(hb:dB X.K fd ps [])
  (ha:PA X (e::es) (tA X ga)) (hdb:(x==("__debug__":Str))=false:=by decide) (he:starEach (e::es) X.env=(false,eval e X.env)::starEach es X.env:=by rfl) (hpl:(backTo pos (starEach es X.env)).any (·.1)=false:=by rfl) :
  PE X (.Call (.Name x p) (e::es) [] pos) (tE X (ao n F ga)):=(oo Fn hr hg hm hk hb .nil jw ha hdb he hpl).of fun σ H Q hxx=>by
 obtain⟨ρ,θ,M,hd,hw,h⟩:=hxx;refine eM hd hw (aH X θ H Q) (fun c M' h=>h) (fun h=>h) h fun ds M1 vs θ1 H1 g1 r1 h1=>?_
 by_cases hl:ds.length=n
 ·rw[if_pos hl] at h1;refine⟨θ1,M1,ds,hl,by rw[append_nil];exact r1,g1.wr,?_⟩;have h2:=aH.go g1 h1;cases q:F ds M1 with
  | ok d M2=>rw[q] at h2;exact h2
  | err c M2=>rw[q] at h2;exact o9 h2
  | bad=>rw[q] at h2;exact h2
 ·rw[if_neg hl] at h1;exact h1.elim
def rC (X:Cx)(F:FD):List V→Hp→VK→Prop:=fun xs H Q=>∃θ M ds,Wr X.K θ H M∧aF X.K θ H ds xs∧aH X θ H Q (F ds M)
def ay (F:FD)(ga:GA):GE:=fun ρ M=>(ga ρ M).bind F
theorem nZ {σ:L2.St}{H:Hp}{Q:VK}(h:tE X (ay F ga) σ H Q):wL (rC X F) (tA X ga) σ H Q:=by
 obtain⟨ρ,θ,M,hd,hw,h⟩:=h;exact eM hd hw (aH X θ H Q) (fun c M' h=>h) (fun h=>h) h fun ds M1 vs θ1 H1 g1 r1 h1=>⟨θ1,M1,ds,g1.wr,r1,aH.go g1 h1⟩
theorem mq {id:String}(hc:bV X (.builtin id) (rC X F))(hg:Gl X x)(hm:X.mg x=none)(hv:bootBuiltins x=some (.builtin id))(ha:PA X (e::es) (tA X ga))(hn:x≠"__name__":=by decide)(hdb:(x==("__debug__":Str))=false:=by decide)
  (he:starEach (e::es) X.env=(false,eval e X.env)::starEach es X.env:=by rfl) (hpl:(backTo pos (starEach es X.env)).any (·.1)=false:=by rfl):PE X (.Call (.Name x p) (e::es) [] pos) (tE X (ay F ga)):=
 (jt hc hg hm hv ha hn hdb he hpl).of fun σ H Q h=>nZ h
theorem lw {T:String}(hc:bV X (.type T) (rC X F))(hg:Gl X x)(hm:X.mg x=none)(hv:bootBuiltins x=some (.type T))(ha:PA X (e::es) (tA X ga))(hn:x≠"__name__":=by decide)(hdb:(x==("__debug__":Str))=false:=by decide)
  (he:starEach (e::es) X.env=(false,eval e X.env)::starEach es X.env:=by rfl) (hpl:(backTo pos (starEach es X.env)).any (·.1)=false:=by rfl):PE X (.Call (.Name x p) (e::es) [] pos) (tE X (ay F ga)):=
 (lb hc hg hm hv ha hn hdb he hpl).of fun σ H Q h=>nZ h
end
section
variable {prog:Program}{w:World}{A:Around}{E:Value→Shared→Prop}{s:Shared}
theorem nB {t b:Addr}{ws:List Value}{Q:Value→Shared→Prop}(ht:IsTup s.heap t #[])(hb:IsTup s.heap b ws.toArray)
  (h:Q (.ref b) s):wpAny (model prog w) A (binaryOp .Add (.ref t) (.ref b)) Q E s:=by
 obtain⟨⟨cls,dd,data,sl⟩,ho,hc,n,hd⟩:=id ht;obtain⟨⟨cls2,dd2,data2,sl2⟩,ho2,hc2,n2,hd2⟩:=id hb;simp only at hc hd hc2 hd2;subst hc hd hc2 hd2;exact concat_meets ⟨_,ho,rfl⟩ ⟨_,ho2,rfl⟩ noFill_tuple_add seq_tuple_add PySem.F.slot_tuple_add PySem.F.entry_tuple_add (PySem.F.args_tuple_add_2 _ _)
   (tuple_addW0 t b #[] ws.toArray n n2 dd dd2 sl sl2 (by simp)) ⟨ho,ho2,h⟩
end
def jK (d:D)(M:am):Option (List D):=match d with
 | .lst xs=>some xs
 | .mr k=>match M[k]? with
  | some (.lst xs)=>some xs
  | _=>none
 | _=>none
def ba:F2:=fun x y M=>match x,y with
 | .int i,.int j=>.ok (.int (i+j)) M
 | .str a,.str b=>if a.length+b.length≤sizeLine then .ok (.str (a++b)) M else .bad
 | .tup a,.tup b=>if a.length+b.length≤sizeLine then .ok (.tup (a++b)) M else .bad
 | .bl a,.int j=>.ok (.int ((if a=true then 1 else 0)+j)) M
 | x,y=>match jK x M,jK y M with
  | some a,some b=>if a.length+b.length≤sizeLine then .ok (.lst (a++b)) M else .bad
  | _,_=>.bad
theorem nF {K:W.Frag}{θ:List Addr}{H:Hp}{M:am}{d:D}{xs:List D}{v:V}(hw:Wr K θ H M)(r:cn K θ H d v)(e:jK d M=some xs):∃a vs,v=.ref a∧H a=some (.lst vs)∧aF K θ H xs vs:=by
 cases d with
 | lst ys=>cases e;obtain⟨a,vs,ea,ta,ra⟩:=r;exact⟨a,vs,ea,ta.1,ra⟩
 | mr k=>
  obtain⟨a,ea,ta⟩:=r;have e:(match M[k]? with|some (.lst xs)=>some xs|_=>none)=some xs:=e;cases q:M[k]? with
  | none=>rw[q] at e;cases e
  | some m=>
   cases m with
   | lst ys=>
    rw[q] at e;cases e;obtain⟨vs,hv,ra⟩:=hw.at_ k a _ ta q;exact⟨a,vs,ea,hv,ra⟩
   | _=>rw[q] at e;cases e
 | _=>cases e
def f7:F2:=fun x y M=>match x,y with
 | .int i,.int j=>.ok (.int (i-j)) M
 | _,_=>.bad
def cP:F2:=fun x y M=>match x,y with
 | .int i,.int j=>if(-(2 ^ 64)<i∧i<2 ^ 64)∨(-(2 ^ 64)<j∧j<2 ^ 64) then .ok (.int (i*j)) M else .bad
 | _,_=>.bad
def bD:F2:=fun x y M=>match x,y with
 | .int i,.int j=>if 0<j∧j.natAbs.log2<9000 then .ok (.int (i / j)) M else .bad
 | _,_=>.bad
def c6:F2:=fun x y M=>match x,y with
 | .int i,.int j=>if 0<j then .ok (.int (i % j)) M else .bad
 | _,_=>.bad
def gU:F2:=fun x y M=>match x,y with
 | .int i,.int j=>if 0≤j∧j≤1000000∧i.natAbs<2 ^ 64 then .ok (.int (i ^ j.toNat)) M else .bad
 | _,_=>.bad
section
variable {X:Cx}
theorem rV:c4 X (binaryOp .Add) (rD X ba):=by
 intro ab s σ H x y v u Q I rx ry h;obtain⟨θ,M,dx,dy,hw,r1,r2,h⟩:=h;unfold ba at h;split at h
 ·rename_i i j;exact qG ab s σ H x y v u Q I rx ry ⟨i,j,r1,r2,h _ θ H (.refl hw) rfl⟩
 ·rename_i a b;split at h
  ·rename_i hl;exact jX ab s σ H x y v u Q I rx ry ⟨a,b,r1,r2,hl,h _ θ H (.refl hw) rfl⟩
  ·exact h.elim
 ·rename_i as bs;split at h
  ·rename_i hl;obtain⟨a,vs,ea,ta,ra⟩:=r1;obtain⟨b,us,eb,tb,rb⟩:=r2
   by_cases hv:vs=[]
   ·subst hv;have e0:as=[]:=length_eq_zero_iff.mp (ai ra);subst e0;subst ea;subst eb;cases rx;cases ry;obtain⟨its,q1,p1,_⟩:=I.tuple ta.sq;obtain⟨its2,q2,p2,_⟩:=I.tuple tb.sq;cases q1;exact nB p1 p2 ⟨.ref b,H,I,rfl,h _ θ H (.refl hw) ⟨b,us,rfl,tb,rb⟩⟩
   ·refine oQ ab s σ H x y v u Q I rx ry ⟨a,b,vs,us,ea,eb,ta.sq,tb.sq,hv,by rw[←ai ra,←ai rb];exact hl,fun hu=>?_,fun _ p hp=>h _ θ _ (de hw hp) (i5 hw hp (bJ ra rb))⟩;subst hu;have e0:bs=[]:=length_eq_zero_iff.mp (ai rb);subst e0;exact h _ θ H (.refl hw) ⟨a,vs,rfl,ta,by rw[append_nil];exact ra⟩
  ·exact h.elim
 ·rename_i a j;have e1:x=.bl a:=r1;have e2:y=.int j:=r2;subst e1;subst e2;cases rx;obtain⟨t',rfl⟩:=ry;exact IntBool.add_bool_int ⟨.int _,H,I.tok _,⟨_,rfl⟩,h _ θ H (.refl hw) rfl⟩
 ·split at h
  ·rename_i as bs q1 q2;split at h
   ·rename_i hl;obtain⟨a,vs,ea,ta,ra⟩:=nF hw r1 q1;obtain⟨b,us,eb,tb,rb⟩:=nF hw r2 q2;exact t8 ab s σ H x y v u Q I rx ry ⟨a,b,vs,us,ea,eb,ta,tb,by rw[←ai ra,←ai rb];exact hl,fun p hp=>h _ θ _ (de hw hp) (fD hw hp (bJ ra rb))⟩
   ·exact h.elim
  ·exact h.elim
theorem nA {K:W.Frag}{θ:List Addr}{H H':Hp}{M:am}{p:Addr}(hw:Wr K θ H M):cn K (θ++[p]) H' (.mr M.length) (.ref p):=by
 refine⟨p,rfl,?_⟩;rw[←hw.len,getElem?_append_right (Nat.le_refl _)];simp
theorem qE:c4 X (binaryOp .Sub) (rD X f7):=by
 intro ab s σ H x y v u Q I rx ry h;obtain⟨θ,M,dx,dy,hw,r1,r2,h⟩:=h;unfold f7 at h;split at h
 ·rename_i i j;exact rP ab s σ H x y v u Q I rx ry ⟨i,j,r1,r2,h _ θ H (.refl hw) rfl⟩
 ·exact h.elim
theorem se:c4 X (binaryOp .Mult) (rD X cP):=by
 intro ab s σ H x y v u Q I rx ry h;obtain⟨θ,M,dx,dy,hw,r1,r2,h⟩:=h;unfold cP at h;split at h
 ·rename_i i j;split at h
  ·rename_i hc;exact qX ab s σ H x y v u Q I rx ry ⟨i,j,r1,r2,hc,h _ θ H (.refl hw) rfl⟩
  ·exact h.elim
 ·exact h.elim
theorem om:c4 X (binaryOp .FloorDiv) (rD X bD):=by
 intro ab s σ H x y v u Q I rx ry h;obtain⟨θ,M,dx,dy,hw,r1,r2,h⟩:=h;unfold bD at h;split at h
 ·rename_i i j;split at h
  ·rename_i hc;have e1:x=.int i:=r1;have e2:y=.int j:=r2;subst e1;subst e2;obtain⟨t,rfl⟩:=rx;obtain⟨t',rfl⟩:=ry;have h1:(0:Int)<j:=hc.1;exact floordiv_int (by omega) (by rw[Int.fdiv_eq_ediv_of_nonneg i (by omega)];exact⟨.int (i / j),H,I.tok _,⟨_,rfl⟩,h _ θ H (.refl hw) rfl⟩) (.inl (PyProof.noPylong_of_log2 hc.2))
  ·exact h.elim
 ·exact h.elim
theorem tM:c4 X (binaryOp .Mod) (rD X c6):=by
 intro ab s σ H x y v u Q I rx ry h;obtain⟨θ,M,dx,dy,hw,r1,r2,h⟩:=h;unfold c6 at h;split at h
 ·rename_i i j;split at h
  ·rename_i hc;exact sX ab s σ H x y v u Q I rx ry ⟨i,j,r1,r2,hc,h _ θ H (.refl hw) rfl⟩
  ·exact h.elim
 ·exact h.elim
theorem rk:c4 X (binaryOp .Pow) (rD X gU):=by
 intro ab s σ H x y v u Q I rx ry h;obtain⟨θ,M,dx,dy,hw,r1,r2,h⟩:=h;unfold gU at h;split at h
 ·rename_i i j;split at h
  ·rename_i hc;exact qR ab s σ H x y v u Q I rx ry ⟨i,j,r1,r2,hc,h _ θ H (.refl hw) rfl⟩
  ·exact h.elim
 ·exact h.elim
def gV:F2:=fun x y M=>match x,y with
 | .int i,.int j=>.ok (.bl (decide (i<j))) M
 | _,_=>.bad
def ig:F2:=fun x y M=>match x,y with
 | .int i,.int j=>.ok (.bl (decide (i≤j))) M
 | _,_=>.bad
def kU:F2:=fun x y M=>match x,y with
 | .int i,.int j=>.ok (.bl (decide (j<i))) M
 | _,_=>.bad
def pY:F2:=fun x y M=>match x,y with
 | .int i,.int j=>.ok (.bl (decide (j≤i))) M
 | _,_=>.bad
theorem u3:c4 X (compareOp .Lt) (rD X gV):=by
 intro ab s σ H x y v u Q I rx ry h;obtain⟨θ,M,dx,dy,hw,r1,r2,h⟩:=h;unfold gV at h;split at h
 ·rename_i i j;exact uH ab s σ H x y v u Q I rx ry ⟨i,j,r1,r2,h _ θ H (.refl hw) rfl⟩
 ·exact h.elim
theorem uV:c4 X (compareOp .LtE) (rD X ig):=by
 intro ab s σ H x y v u Q I rx ry h;obtain⟨θ,M,dx,dy,hw,r1,r2,h⟩:=h;unfold ig at h;split at h
 ·rename_i i j;exact uy ab s σ H x y v u Q I rx ry ⟨i,j,r1,r2,h _ θ H (.refl hw) rfl⟩
 ·exact h.elim
theorem u9:c4 X (compareOp .Gt) (rD X kU):=by
 intro ab s σ H x y v u Q I rx ry h;obtain⟨θ,M,dx,dy,hw,r1,r2,h⟩:=h;unfold kU at h;split at h
 ·rename_i i j;exact vW ab s σ H x y v u Q I rx ry ⟨i,j,r1,r2,h _ θ H (.refl hw) rfl⟩
 ·exact h.elim
theorem vz:c4 X (compareOp .GtE) (rD X pY):=by
 intro ab s σ H x y v u Q I rx ry h;obtain⟨θ,M,dx,dy,hw,r1,r2,h⟩:=h;unfold pY at h;split at h
 ·rename_i i j;exact uE ab s σ H x y v u Q I rx ry ⟨i,j,r1,r2,h _ θ H (.refl hw) rfl⟩
 ·exact h.elim
def uk (d c:D):Option Bool:=match c,d with
 | .non,.non=>some true
 | .non,.any=>none
 | .non,_=>some false
 | .bl b,.bl b'=>some (b'==b)
 | .bl _,.non=>some false
 | .bl _,.int _=>some false
 | .bl _,.str _=>some false
 | .bl _,.tup _=>some false
 | .bl _,.lst _=>some false
 | .bl _,.ro _=>some false
 | .bl _,.mr _=>some false
 | _,_=>none
def jI (neg:Bool):F2:=fun x y M=>match uk x y with
 | some b=>.ok (.bl (b != neg)) M
 | none=>.bad
def VS:D→Value→Prop
 | .non,v=>v=.none
 | .bl b,v=>v=.bool b
 | .int i,v=>∃t,v=.int i t
 | .str i,v=>∃t,v=.str i t
 | .any,_=>True
 | _,v=>∃a,v=.ref a
theorem p0 {K:W.Frag}{θ:List Addr}{H:Hp}{d:D}{x:V}{v:Value}(r:cn K θ H d x)(q:aM x v):VS d v:=by
 cases d with
 | non=>have e:x=.non:=r;rw[e] at q;exact q
 | bl b=>have e:x=.bl b:=r;rw[e] at q;exact q
 | int i=>have e:x=.int i:=r;rw[e] at q;exact q
 | str i=>have e:x=.str i:=r;rw[e] at q;exact q
 | any=>trivial
 | tup ds=>obtain⟨a,_,e,_⟩:=r;rw[e] at q;exact⟨a,q⟩
 | lst ds=>obtain⟨a,_,e,_⟩:=r;rw[e] at q;exact⟨a,q⟩
 | ro ds=>obtain⟨a,_,e,_⟩:=r;rw[e] at q;exact⟨a,q⟩
 | mr k=>obtain⟨a,e,_⟩:=r;rw[e] at q;exact⟨a,q⟩
 | exc c=>obtain⟨a,_,e,_⟩:=r;rw[e] at q;exact⟨a,q⟩
theorem fn {α:Type}{b:α}{P:Prop}(h:none=some b):P:=nomatch h
theorem kE {v u:Value}{b:Bool}(h:some false=some b)(k:plainIs v u=true∧(v==u)=false):plainIs v u=true∧(v==u)=b:=Option.some.inj h▸k
theorem wc {dx dy:D}{v u:Value}{b:Bool}(p:VS dx v)(q:VS dy u)(h:uk dx dy=some b):plainIs v u=true∧(v==u)=b:=by
 cases dy with
 | non=>
  rw[show u=.none from q];cases dx with
  | non=>rw[show v=.none from p];exact Option.some.inj (show some true=some b from h)▸⟨rfl,rfl⟩
  | bl b=>rw[show v=.bool b from p];exact kE h ⟨rfl,rfl⟩
  | any=>exact fn h
  | _=>obtain⟨t,e⟩:=p;rw[e];exact kE h ⟨rfl,rfl⟩
 | bl c=>
  rw[show u=.bool c from q];cases dx with
  | non=>rw[show v=.none from p];exact kE h ⟨rfl,rfl⟩
  | bl b=>
   rw[show v=.bool b from p,←Option.some.inj h];refine⟨rfl,?_⟩;cases b <;> cases c <;> rfl
  | any=>exact fn h
  | exc _=>exact fn h
  | _=>obtain⟨t,e⟩:=p;rw[e];exact kE h ⟨rfl,rfl⟩
 | _=>exact fn h
theorem t7 {K:W.Frag}{θ:List Addr}{H:Hp}{dx dy:D}{x y:V}{v u:Value}{b:Bool}(r1:cn K θ H dx x)(r2:cn K θ H dy y)(rx:aM x v)(ry:aM y u)(h:uk dx dy=some b) :
  plainIs v u=true∧(v==u)=b:=wc (p0 r1 rx) (p0 r2 ry) h
theorem v3:c4 X (compareOp .Is) (rD X (jI false)):=by
 intro ab s σ H x y v u Q I rx ry h;obtain⟨θ,M,dx,dy,hw,r1,r2,h⟩:=h;unfold jI at h;split at h
 ·rename_i b q;obtain⟨hp,e⟩:=t7 r1 r2 rx ry q;refine wpAny_is_plain hp ?_;rw[e];refine⟨.bl b,H,I,rfl,?_⟩;have:=h (.bl (b != false)) θ H (.refl hw) rfl;rw[Bool.bne_false] at this;exact this
 ·exact h.elim
mutual
def gO:D→PyData
 | .non=>.none
 | .bl b=>.bool b
 | .int i=>.int i
 | .str x=>.str x
 | .tup ds=>.tuple (eY ds)
 | .lst ds=>.list (eY ds)
 | .ro ds=>.list (eY ds)
 | .mr _=>.dict []
 | .exc _=>.dict []
 | .any=>.dict []
def eY:List D→List PyData
 | []=>[]
 | d::ds=>gO d::eY ds
end
mutual
def bE:Nat→D→Bool
 | _,.non=>true
 | _,.bl _=>true
 | _,.int _=>true
 | _,.str x=>PyData.strOk x
 | n+1,.tup ds=>aR n ds
 | n+1,.lst ds=>aR n ds
 | n+1,.ro ds=>aR n ds
 | _,_=>false
def aR:Nat→List D→Bool
 | _,[]=>true
 | n,d::ds=>bE n d&&aR n ds
end
mutual
def kD:D→D→Bool
 | .non,.non=>true
 | .bl a,.bl b=>a==b
 | .bl a,.int j=>(if a then 1 else 0)==j
 | .int i,.bl b=>i==(if b then 1 else 0)
 | .int i,.int j=>i==j
 | .str x,.str y=>x==y
 | .lst xs,.lst ys=>dz xs ys
 | .lst xs,.ro ys=>dz xs ys
 | .ro xs,.lst ys=>dz xs ys
 | .ro xs,.ro ys=>dz xs ys
 | .tup xs,.tup ys=>dz xs ys
 | _,_=>false
def dz:List D→List D→Bool
 | [],[]=>true
 | x::xs,y::ys=>kD x y&&dz xs ys
 | _,_=>false
end
mutual
theorem iV:∀(x y:D) (n m:Nat),bE n x=true→bE m y=true→PyData.eqv (gO x) (gO y)=kD x y
 | .non,y,n,m,hx,hy=>by cases y <;> rfl
 | .bl a,y,n,m,hx,hy=>by cases y <;> rfl
 | .int a,y,n,m,hx,hy=>by cases y <;> rfl
 | .str a,y,n,m,hx,hy=>by cases y <;> rfl
 | .tup xs,y,n,m,hx,hy=>by
  cases n with
  | zero=>exact ff hx
  | succ n=>
   cases y with
   | tup ys=>
    cases m with
    | zero=>exact ff hy
    | succ m=>
     exact c5 xs ys n m hx hy
   | _=>rfl
 | .lst xs,y,n,m,hx,hy=>by
  cases n with
  | zero=>exact ff hx
  | succ n=>
   cases y with
   | lst ys=>
    cases m with
    | zero=>exact ff hy
    | succ m=>
     exact c5 xs ys n m hx hy
   | ro ys=>
    cases m with
    | zero=>exact ff hy
    | succ m=>
     exact c5 xs ys n m hx hy
   | _=>rfl
 | .ro xs,y,n,m,hx,hy=>by
  cases n with
  | zero=>exact ff hx
  | succ n=>
   cases y with
   | lst ys=>
    cases m with
    | zero=>exact ff hy
    | succ m=>
     exact c5 xs ys n m hx hy
   | ro ys=>
    cases m with
    | zero=>exact ff hy
    | succ m=>
     exact c5 xs ys n m hx hy
   | _=>rfl
 | .mr a,y,n,m,hx,hy=>by cases n <;> exact ff hx
 | .exc a,y,n,m,hx,hy=>by cases n <;> exact ff hx
 | .any,y,n,m,hx,hy=>by cases n <;> exact ff hx
theorem c5:∀(x y:List D) (n m:Nat),aR n x=true→aR m y=true→PyData.eqvAll (eY x) (eY y)=dz x y
 | [],y,n,m,hx,hy=>by cases y <;> rfl
 | x::xs,y,n,m,hx,hy=>by
  cases y with
  | nil=>rfl
  | cons y ys=>
   have hx:=Bool.and_eq_true_iff.mp (show(bE n x&&aR n xs)=true from hx);have hy:=Bool.and_eq_true_iff.mp (show(bE m y&&aR m ys)=true from hy);show(PyData.eqv (gO x) (gO y)&&PyData.eqvAll (eY xs) (eY ys))=(kD x y&&dz xs ys);rw[iV x y n m hx.1 hy.1,c5 xs ys n m hx.2 hy.2]
end
mutual
theorem eR:∀(d:D) (n:Nat),bE n d=true→(gO d).canLay0=true∧(gO d).depth≤n
 | .non,n,h=>by simp[gO,PyData.canLay0,PyData.depth]
 | .bl a,n,h=>by simp[gO,PyData.canLay0,PyData.depth]
 | .int a,n,h=>by simp[gO,PyData.canLay0,PyData.depth]
 | .str a,n,h=>by
  have:PyData.strOk a=true:=by cases n <;> exact h
  simp[gO,PyData.canLay0,PyData.depth,this]
 | .tup xs,n,h=>by
  cases n with
  | zero=>exact ff h
  | succ n=>
   have:=et xs n h;simp only[gO,PyData.canLay0,PyData.depth];exact⟨this.1,by omega⟩
 | .lst xs,n,h=>by
  cases n with
  | zero=>exact ff h
  | succ n=>
   have:=et xs n h;simp only[gO,PyData.canLay0,PyData.depth];exact⟨this.1,by omega⟩
 | .ro xs,n,h=>by
  cases n with
  | zero=>exact ff h
  | succ n=>
   have:=et xs n h;simp only[gO,PyData.canLay0,PyData.depth];exact⟨this.1,by omega⟩
 | .mr a,n,h=>by cases n <;> exact ff h
 | .exc a,n,h=>by cases n <;> exact ff h
 | .any,n,h=>by cases n <;> exact ff h
theorem et:∀(ds:List D) (n:Nat),aR n ds=true→PyData.canLayAll0 (eY ds)=true∧PyData.depthAll (eY ds)≤n
 | [],n,h=>by simp[eY,PyData.canLayAll0,PyData.depthAll]
 | d::ds,n,h=>by
  have h:=Bool.and_eq_true_iff.mp (show(bE n d&&aR n ds)=true from h);have h1:=eR d n h.1;have h2:=et ds n h.2;simp only[eY,PyData.canLayAll0,PyData.depthAll,Bool.and_eq_true];exact⟨⟨h1.1,h2.1⟩,by omega⟩
end
mutual
theorem jp {ab:List (Addr×Obj)}{s:Shared}{σ:L2.St}{H:Hp}{θ:List Addr}(I:Inv X ab σ H s):∀(d:D) (n:Nat) (v:V) (u:Value),bE n d=true→cn X.K θ H d v→aM v u→∃as,Reads s.heap u (gO d) as
 | .non,n,v,u,h,r,q=>by have e:v=.non:=r;subst e;cases q;exact⟨_,.none⟩
 | .bl a,n,v,u,h,r,q=>by have e:v=.bl a:=r;subst e;cases q;exact⟨_,.bool a⟩
 | .int a,n,v,u,h,r,q=>by have e:v=.int a:=r;subst e;obtain⟨t,rfl⟩:=q;exact⟨_,.int a t⟩
 | .str a,n,v,u,h,r,q=>by have e:v=.str a:=r;subst e;obtain⟨t,rfl⟩:=q;exact⟨_,.str a t⟩
 | .tup xs,n,v,u,h,r,q=>by
  cases n with
  | zero=>exact ff h
  | succ n=>
   obtain⟨a,vs,e,ta,ra⟩:=r;subst e;cases q;obtain⟨its,rv,⟨o,h1,h2,m,h3⟩,_⟩:=I.tuple ta.sq;obtain⟨as,R⟩:=c0 I xs n vs its h ra rv;exact⟨_,.tuple h1 h2 h3 (by simpa using R)⟩
 | .lst xs,n,v,u,h,r,q=>by
  cases n with
  | zero=>exact ff h
  | succ n=>
   obtain⟨a,vs,e,ta,ra⟩:=r;subst e;cases q;obtain⟨its,rv,⟨o,m,h1,h2,_,h3⟩,_⟩:=I.list (ta.sq (K:=X.K));obtain⟨as,R⟩:=c0 I xs n vs its h ra rv;exact⟨_,.list h1 h2 h3 (by simpa using R)⟩
 | .ro xs,n,v,u,h,r,q=>by
  cases n with
  | zero=>exact ff h
  | succ n=>
   obtain⟨a,vs,e,ta,ra⟩:=r;subst e;cases q;obtain⟨its,rv,⟨o,m,h1,h2,_,h3⟩,_⟩:=I.list ta.sq;obtain⟨as,R⟩:=c0 I xs n vs its h ra rv;exact⟨_,.list h1 h2 h3 (by simpa using R)⟩
 | .mr a,n,v,u,h,r,q=>by cases n <;> exact ff h
 | .exc a,n,v,u,h,r,q=>by cases n <;> exact ff h
 | .any,n,v,u,h,r,q=>by cases n <;> exact ff h
theorem c0 {ab:List (Addr×Obj)}{s:Shared}{σ:L2.St}{H:Hp}{θ:List Addr}(I:Inv X ab σ H s):∀(ds:List D) (n:Nat) (vs:List V) (us:List Value),aR n ds=true→aF X.K θ H ds vs→az vs us→∃as,ReadsAll s.heap us (eY ds) as
 | [],n,vs,us,h,r,q=>by have e:vs=[]:=r;subst e;cases q;exact⟨_,.nil⟩
 | d::ds,n,vs,us,h,r,q=>by
  have h:=Bool.and_eq_true_iff.mp (show(bE n d&&aR n ds)=true from h);obtain⟨v,rr,e,r1,r2⟩:=r;subst e;cases q with
  | cons q1 q2=>
   obtain⟨as,R1⟩:=jp I d n v _ h.1 r1 q1;obtain⟨bs,R2⟩:=c0 I ds n rr _ h.2 r2 q2;exact⟨_,.cons R1 R2⟩
end
def now (d:D)(M:am):D:=match d with
 | .mr k=>match M[k]? with
  | some (.lst xs)=>.lst xs
  | _=>.mr k
 | d=>d
def bH (neg:Bool):F2:=fun x y M=>if bE 40 (now x M)&&bE 40 (now y M) then .ok (.bl (kD (now x M) (now y M) != neg)) M else .bad
theorem dH {ab:List (Addr×Obj)}{s:Shared}{σ:L2.St}{H:Hp}{θ:List Addr}{M:am}(I:Inv X ab σ H s)(hw:Wr X.K θ H M){d:D}{n:Nat}{v:V}{u:Value}(h:bE n (now d M)=true)(r:cn X.K θ H d v)(q:aM v u):∃as,Reads s.heap u (gO (now d M)) as:=by
 cases d with
 | mr k=>
  obtain⟨a,e,ta⟩:=r;subst e;cases q;cases qm:M[k]? with
  | none=>
   have e:now (.mr k) M=.mr k:=by simp[now,qm]
   rw[e] at h;cases n <;> exact ff h
  | some m=>
   cases m with
   | lst xs=>
    have e:now (.mr k) M=.lst xs:=by simp[now,qm]
    rw[e] at h ⊢;cases n with
    | zero=>exact ff h
    | succ n=>
     obtain⟨vs,hv,ra⟩:=hw.at_ k a _ ta qm;obtain⟨its,rv,⟨o,m,h1,h2,_,h3⟩,_⟩:=I.list (X:=X) (xs:=vs) (.inl (.inl hv));obtain⟨as,R⟩:=c0 I xs n vs its h ra rv;exact⟨_,.list h1 h2 h3 (by simpa using R)⟩
   | _=>
    have e:now (.mr k) M=.mr k:=by simp[now,qm]
    rw[e] at h;cases n <;> exact ff h
 | _=>exact jp I _ n v u h r q
theorem vh (hu:X.A.units+64<cLine):c4 X (compareOp .Eq) (rD X (bH false)):=by
 intro ab s σ H x y v u Q I rx ry h;obtain⟨θ,M,dx,dy,hw,r1,r2,h⟩:=h;unfold bH at h;split at h
 ·rename_i hc;rw[Bool.and_eq_true] at hc;obtain⟨as,R1⟩:=dH I hw hc.1 r1 rx;obtain⟨bs,R2⟩:=dH I hw hc.2 r2 ry;have l1:=eR _ _ hc.1;have l2:=eR _ _ hc.2;refine SeqAt.compareEq_reads R1 R2 l1.1 l2.1 (by have:=l1.2;have:min (gO (now dx M)).depth (gO (now dy M)).depth≤(gO (now dx M)).depth:=Nat.min_le_left _ _;omega) ?_;rw[iV _ _ _ _ hc.1 hc.2];refine⟨.bl _,H,I,rfl,?_⟩;have:=h _ θ H (.refl hw) rfl;rw[Bool.bne_false] at this;exact this
 ·exact h.elim
theorem vM (hu:X.A.units+64<cLine):c4 X (compareOp .NotEq) (rD X (bH true)):=by
 intro ab s σ H x y v u Q I rx ry h;obtain⟨θ,M,dx,dy,hw,r1,r2,h⟩:=h;unfold bH at h;split at h
 ·rename_i hc;rw[Bool.and_eq_true] at hc;obtain⟨as,R1⟩:=dH I hw hc.1 r1 rx;obtain⟨bs,R2⟩:=dH I hw hc.2 r2 ry;have l1:=eR _ _ hc.1;have l2:=eR _ _ hc.2;refine SeqAt.compareNe_reads R1 R2 l1.1 l2.1 (by have:=l1.2;have:min (gO (now dx M)).depth (gO (now dy M)).depth≤(gO (now dx M)).depth:=Nat.min_le_left _ _;omega) ?_;rw[iV _ _ _ _ hc.1 hc.2];refine⟨.bl _,H,I,rfl,?_⟩;have:=h _ θ H (.refl hw) rfl;rw[Bool.bne_true] at this;exact this
 ·exact h.elim
def aO (d:D)(M:am):Option (List D):=match d with
 | .tup xs=>some xs
 | .lst xs=>some xs
 | .ro xs=>some xs
 | .mr k=>match M[k]? with
  | some (.lst xs)=>some xs
  | _=>none
 | _=>none
def aB:F2:=fun x y M=>match aO x M,y with
 | some xs,.int i=>match mm xs i with
  | some d=>.ok d M
  | none=>.bad
 | _,_=>.bad
theorem mB {K:W.Frag}{θ:List Addr}{H:Hp}{ds:List D}{vs:List V}{i:Int}{d:D}(r:aF K θ H ds vs)(e:mm ds i=some d):∃v,mm vs i=some v∧cn K θ H d v:=by
 unfold mm at e ⊢;rw[←ai r];cases q:nC ds.length i with
 | none=>rw[q] at e;cases e
 | some j=>
  rw[q] at e;exact bR r e
theorem jR {K:W.Frag}{θ:List Addr}{H:Hp}{M:am}{d:D}{xs:List D}{v:V}(hw:Wr K θ H M)(r:cn K θ H d v)(e:aO d M=some xs):∃a vs,v=.ref a∧(fA K H a vs∨gZ K H a vs)∧aF K θ H xs vs:=by
 cases d with
 | tup ds=>obtain⟨a,vs,e1,ta,ra⟩:=r;cases e;exact⟨a,vs,e1,.inr ta.sq,ra⟩
 | lst ds=>obtain⟨a,vs,e1,ta,ra⟩:=r;cases e;exact⟨a,vs,e1,.inl ta.sq,ra⟩
 | ro ds=>obtain⟨a,vs,e1,ta,ra⟩:=r;cases e;exact⟨a,vs,e1,.inl ta.sq,ra⟩
 | mr k=>
  obtain⟨a,e1,ta⟩:=r;have e:(match M[k]? with|some (.lst xs)=>some xs|_=>none)=some xs:=e;cases qm:M[k]? with
  | none=>rw[qm] at e;cases e
  | some m=>
   cases m with
   | lst ys=>
    rw[qm] at e;cases e;obtain⟨vs,hv,ra⟩:=hw.at_ k a _ ta qm;exact⟨a,vs,e1,.inl (.inl (.inl hv)),ra⟩
   | _=>rw[qm] at e;cases e
 | _=>cases e
theorem uG:wu X (rD X aB):=by
 intro value slice ab s σ H x y v u Q I rx ry h hs;obtain⟨θ,M,dx,dy,hw,r1,r2,h⟩:=h;unfold aB at h;split at h
 ·rename_i xs i q;split at h
  ·rename_i d qd;obtain⟨a,vs,ea,sq,ra⟩:=jR hw r1 q;obtain⟨z,ez,rz⟩:=mB ra qd;have hq:=h z θ H (.refl hw) rz;rcases sq with sq|sq
   ·exact pj value slice ab s σ H x y v u Q I rx ry ⟨a,vs,i,z,ea,r2,sq,ez,hq⟩ hs
   ·exact rS value slice ab s σ H x y v u Q I rx ry ⟨a,vs,i,z,ea,r2,sq,ez,hq⟩ hs
  ·exact h.elim
 ·exact h.elim
theorem vq {a b:Expr}{pos:Pos}{ga gb:GE}(ha:PE X a (tE X ga))(hb:PE X b (tE X gb))(hs:iH b:=by intro _ _;rfl):PE X (.Subscript a b pos) (tE X (g2 aB ga gb)):=
 (vZ uG ha hb hs).of fun _ _ _ h=>kZ h
def oR (d:D)(M:am):aE Bool:=match d with
 | .non=>.ok false M
 | .bl b=>.ok b M
 | .int i=>.ok (i != 0) M
 | .str x=>if x.length≤sizeLine then .ok ((x.length:Int) != 0) M else .bad
 | .tup xs=>.ok (!xs.isEmpty) M
 | .lst xs=>.ok (!xs.isEmpty) M
 | .ro xs=>.ok (!xs.isEmpty) M
 | .mr k=>match M[k]? with
  | some (.lst xs)=>.ok (!xs.isEmpty) M
  | _=>.bad
 | .exc _=>.bad
 | .any=>.bad
def bP (g:GE):GT:=fun ρ M=>(g ρ M).bind oR
theorem dn {K:W.Frag}{θ:List Addr}{H:Hp}{ds:List D}{vs:List V}(r:aF K θ H ds vs):(!vs.isEmpty)=!ds.isEmpty:=by
 have:=ai r;cases ds <;> cases vs <;> simp_all
theorem tQ {a:Expr}{g:GE}(ha:PE X a (tE X g))(he:∀whole,isTrue a X.env whole=(do let v ←whole;standAt a.pos;holding [v] (truthy v)):=by intro _;rfl):PT X a (tT X (bP g)):=
 (m6 ha he).of fun σ H Q hxx=>by
  obtain⟨ρ,θ,M,hd,hw,h⟩:=hxx;refine bQ hd hw (fu X θ H Q) (fun c M' h=>h) (fun h=>h) h fun d M1 v θ1 H1 g1 r1 h1=>?_
  cases d with
  | non=>have e:v=.non:=r1;subst e;exact⟨false,rfl,h1 θ1 H1 g1⟩
  | bl b=>have e:v=.bl b:=r1;subst e;exact⟨b,rfl,h1 θ1 H1 g1⟩
  | int i=>have e:v=.int i:=r1;subst e;exact⟨i != 0,rfl,h1 θ1 H1 g1⟩
  | str x=>
   have e:v=.str x:=r1;subst e;have h1:fu X θ H Q (if x.length≤sizeLine then .ok ((x.length:Int) != 0) M1 else .bad):=h1;split at h1
   ·rename_i hl;exact⟨_,⟨hl,rfl⟩,h1 θ1 H1 g1⟩
   ·exact h1.elim
  | tup xs=>
   obtain⟨a,vs,e,ta,ra⟩:=r1;subst e;exact⟨_,.inr (.inl ⟨vs,ta.sq,(dn ra).symm⟩),h1 θ1 H1 g1⟩
  | lst xs=>
   obtain⟨a,vs,e,ta,ra⟩:=r1;subst e;exact⟨_,.inl ⟨vs,ta.sq,(dn ra).symm⟩,h1 θ1 H1 g1⟩
  | ro xs=>
   obtain⟨a,vs,e,ta,ra⟩:=r1;subst e;exact⟨_,.inl ⟨vs,ta.sq,(dn ra).symm⟩,h1 θ1 H1 g1⟩
  | mr k=>
   obtain⟨a,e,ta⟩:=r1;subst e;have h1:fu X θ H Q (match M1[k]? with|some (.lst xs)=>.ok (!xs.isEmpty) M1|_=>.bad):=h1;cases qm:M1[k]? with
   | none=>rw[qm] at h1;exact h1.elim
   | some m=>
    cases m with
    | lst ys=>
     rw[qm] at h1;obtain⟨vs,hv,ra⟩:=g1.wr.at_ k a _ ta qm;exact⟨_,.inl ⟨vs,.inl (.inl hv),(dn ra).symm⟩,h1 θ1 H1 g1⟩
    | _=>rw[qm] at h1;exact h1.elim
  | exc c=>exact h1.elim
  | any=>exact h1.elim
def aX:FD:=fun ds M=>match ds with
 | [.str x]=>if x.length≤sizeLine then .ok (.int x.length) M else .bad
 | [d]=>match aO d M with
  | some xs=>.ok (.int xs.length) M
  | none=>.bad
 | _=>.bad
def gE:FD:=fun ds M=>match ds with
 | [.int i,.int j]=>.ok (.int (if j<i then j else i)) M
 | _=>.bad
def fV:FD:=fun ds M=>match ds with
 | [.int i,.int j]=>.ok (.int (if j>i then j else i)) M
 | _=>.bad
def du:FD:=fun ds M=>match ds with
 | [d]=>match aO d M with
  | some xs=>.ok (.lst xs) M
  | none=>.bad
 | _=>.bad
theorem fw {K:W.Frag}{θ:List Addr}{H:Hp}{d:D}{xs:List V}(r:aF K θ H [d] xs):∃v,xs=[v]∧cn K θ H d v:=by
 obtain⟨v,rr,e,h1,h2⟩:=r;have e2:rr=[]:=h2;subst e2;exact⟨v,e,h1⟩
theorem mE {K:W.Frag}{θ:List Addr}{H:Hp}{d d':D}{xs:List V}(r:aF K θ H [d,d'] xs):∃v v',xs=[v,v']∧cn K θ H d v∧cn K θ H d' v':=by
 obtain⟨v,rr,e,h1,h2⟩:=r;obtain⟨v',e2,h3⟩:=fw h2;subst e2;exact⟨v,v',e,h1,h3⟩
theorem sx:bV X (.builtin "len") (rC X aX):=by
 intro ab s σ H xs us Q I r h;obtain⟨θ,M,ds,hw,rd,h⟩:=h;unfold aX at h;split at h
 ·rename_i x;split at h
  ·rename_i hl;obtain⟨v,e,rv⟩:=fw rd;exact iP ab s σ H xs us Q I r ⟨x,by rw[e,show v=.str x from rv],hl,h _ θ H (.refl hw) rfl⟩
  ·exact h.elim
 ·rename_i d _;split at h
  ·rename_i ys q;obtain⟨v,e,rv⟩:=fw rd;obtain⟨a,vs,ea,sq,ra⟩:=jR hw rv q;refine iM ab s σ H xs us Q I r ⟨a,vs,by rw[e,ea],sq,?_⟩;rw[←ai ra];exact h _ θ H (.refl hw) rfl
  ·exact h.elim
 ·exact h.elim
theorem rB (hc:X.calm=true):bV X (.builtin "min") (rC X gE):=by
 intro ab s σ H xs us Q I r h;obtain⟨θ,M,ds,hw,rd,h⟩:=h;unfold gE at h;split at h
 ·rename_i i j;obtain⟨v,v',e,rv,rv'⟩:=mE rd;exact lH hc ab s σ H xs us Q I r ⟨i,j,by rw[e,show v=.int i from rv,show v'=.int j from rv'],h _ θ H (.refl hw) rfl⟩
 ·exact h.elim
theorem sY (hc:X.calm=true):bV X (.builtin "max") (rC X fV):=by
 intro ab s σ H xs us Q I r h;obtain⟨θ,M,ds,hw,rd,h⟩:=h;unfold fV at h;split at h
 ·rename_i i j;obtain⟨v,v',e,rv,rv'⟩:=mE rd;exact lu hc ab s σ H xs us Q I r ⟨i,j,by rw[e,show v=.int i from rv,show v'=.int j from rv'],h _ θ H (.refl hw) rfl⟩
 ·exact h.elim
theorem oO:bV X (.type "list") (rC X du):=by
 intro ab s σ H xs us Q I r h;obtain⟨θ,M,ds,hw,rd,h⟩:=h;unfold du at h;split at h
 ·rename_i d;split at h
  ·rename_i ys q;obtain⟨v,e,rv⟩:=fw rd;obtain⟨a,vs,ea,sq,ra⟩:=jR hw rv q;exact iX ab s σ H xs us Q I r ⟨a,vs,by rw[e,ea],sq,fun l hl=>h _ θ _ (de hw hl) (fD hw hl ra)⟩
  ·exact h.elim
 ·exact h.elim
end
def aY (cells:List (Str×Addr)):List (Str×NameKind)→List (Str×Addr)→List (Str×Addr)
 | [],acc=>acc
 | (n,k)::r,acc=>if k==.free then aY cells r ((n,(cells.lookup n).getD 0)::acc) else aY cells r acc
theorem gJ {env:Env}:∀(l:List (Str×NameKind)) (cs:List (Str×Addr)),(∀p∈l,p.2=.free→∃c,env.cells.lookup p.1=some c)→
  (forIn (m:=Sem) l cs fun x r=>match x with
   | (name,kind)=>if(kind==NameKind.free)=true then do let __do_lift ←cellOf env name;pure (ForInStep.yield ((name,__do_lift)::r)) else pure (ForInStep.yield r))=pure (aY env.cells l cs)
 | [],cs,h=>rfl
 | (n,k)::r,cs,h=>by
  have ih:=fun cs=>gJ (env:=env) r cs fun p hp=>h p (mem_cons_of_mem _ hp)
  rw[forIn_cons]
  by_cases hk:(k==NameKind.free)=true
  ·obtain⟨c,hc⟩:=h (n,k) mem_cons_self (by simpa using hk);have e:cellOf env n=pure c:=by unfold cellOf;rw[show List.lookup n env.cells=some c from hc]
   simp only[hk,if_true,aY,e,pure_bind];rw[ih,show List.lookup n env.cells=some c from hc];rfl
  ·simp only[hk,if_false,aY,pure_bind,Bool.false_eq_true];exact ih cs
theorem df {env:Env}{scope:Scope}(h:∀p∈scope.names,p.2=.free→∃c,env.cells.lookup p.1=some c):closureFor scope env=pure (aY env.cells scope.names []):=by
 have:=gJ (env:=env) scope.names [] h;unfold closureFor;simp only[bind_pure_comp] at this ⊢
 first
  | (rw[this];rfl)
  | (simp[this])
  | exact this
theorem f6 {cells:List (Str×Addr)}:∀(l:List (Str×NameKind)) (acc:List (Str×Addr)),(∀p∈acc,cells.lookup p.1=some p.2)→(∀p∈l,p.2=.free→∃c,cells.lookup p.1=some c)→
  ∀p∈aY cells l acc,cells.lookup p.1=some p.2
 | [],acc,ha,h=>ha
 | (n,k)::r,acc,ha,h=>by
  have hr:∀p∈r,p.2=.free→∃c,cells.lookup p.1=some c:=fun p hp=>h p (mem_cons_of_mem _ hp)
  unfold aY
  by_cases hk:(k==NameKind.free)=true
  ·rw[if_pos hk];refine f6 r _ (fun p hp=>?_) hr;rcases mem_cons.mp hp with e|hp
   ·subst e;obtain⟨c,hc⟩:=h (n,k) mem_cons_self (by simpa using hk);have hc':cells.lookup n=some c:=hc;show cells.lookup n=some ((cells.lookup n).getD 0);rw[hc'];rfl
   ·exact ha p hp
  ·rw[if_neg hk];exact f6 r acc ha hr
theorem gj {cells:List (Str×Addr)}:∀(l:List (Str×NameKind)) (acc:List (Str×Addr)),∀p∈acc,p∈aY cells l acc
 | [],acc,p,h=>h
 | (n,k)::r,acc,p,h=>by
  unfold aY
  by_cases hk:(k==NameKind.free)=true
  ·rw[if_pos hk];exact gj r _ p (mem_cons_of_mem _ h)
  ·rw[if_neg hk];exact gj r acc p h
theorem fP {cells:List (Str×Addr)}:∀(l:List (Str×NameKind)) (acc:List (Str×Addr)) (n:Str),(n,NameKind.free)∈l→∃c,(n,c)∈aY cells l acc
 | [],acc,n,h=>by cases h
 | (m,k)::r,acc,n,h=>by
  unfold aY;rcases mem_cons.mp h with e|h
  ·cases e;rw[if_pos (by rfl)];exact⟨_,gj r _ _ mem_cons_self⟩
  ·by_cases hk:(k==NameKind.free)=true
   ·rw[if_pos hk];exact fP r _ n h
   ·rw[if_neg hk];exact fP r acc n h
theorem d0 {l:List (Str×Addr)}{n:Str}{c:Addr}(h:(n,c)∈l):∃c',l.lookup n=some c':=by
 induction l with
 | nil=>cases h
 | cons p r ih=>
  obtain⟨m,d⟩:=p
  by_cases e:(n==m)=true
  ·exact⟨d,by simp[List.lookup,e]⟩
  ·have e':(n==m)=false:=by simpa using e
   rcases mem_cons.mp h with q|q
   ·cases q;simp at e
   ·obtain⟨c',hc⟩:=ih q;exact⟨c',by simp only[List.lookup,e'];exact hc⟩
theorem cE {env:Env}:∀{names:List (Str×NameKind)} {x:Str} {k:NameKind},
  (names.map fun(n,k)=>if(k==NameKind.free&&env.scope.kind==.function&&env.kindOf n==some .cell) then(n,NameKind.cell) else(n,k)).lookup x=some k→
   names.lookup x=some k∨(k=.cell∧names.lookup x=some .free)
 | [],_,_,h=>by simp at h
 | (n,k')::r,x,k,h=>by
  have ih:=@cE env r x k;have h:List.lookup x ((if(k'==NameKind.free&&env.scope.kind==.function&&env.kindOf n==some .cell)=true then(n,NameKind.cell) else(n,k'))::_)=some k:=h
  by_cases hc:(k'==NameKind.free&&env.scope.kind==.function&&env.kindOf n==some .cell)=true
  ·rw[if_pos hc] at h;cases hx:x==n with
   | true=>
    simp only[lookup_cons,hx] at h ⊢;cases h;have:k'=.free:=by
     rw[Bool.and_eq_true,Bool.and_eq_true] at hc;simpa using hc.1.1
    subst this;exact .inr ⟨rfl,rfl⟩
   | false=>
    simp only[lookup_cons,hx] at h ⊢;exact ih h
  ·rw[if_neg hc] at h;cases hx:x==n with
   | true=>
    simp only[lookup_cons,hx] at h ⊢;exact .inl h
   | false=>
    simp only[lookup_cons,hx] at h ⊢;exact ih h
def bp (sc:Scope)(fk:Str→Option NameKind)(xs:List Str)(R N:List Str):Bool:=
 decide (sc.kind=.function)&&xs.all (fun x=>sc.names.lookup x==some .local) &&
 sc.names.all (fun p=>match p.2 with
  | .cell=>false
  | .local=>(xs.contains p.1||p.1==(".0":Str))&&sc.names.lookup p.1==some .local
  | .free=>fk p.1==some .cell||fk p.1==some .free
  | _=>true) &&
 decide ((xs++R).Nodup)&&!(R.contains (".0":Str))&&R.length==N.length &&
 (R.zip N).all (fun p=>p.1==p.2||sc.names.lookup p.1 != some .free)
structure aS (sc:Scope)(fk:Str→Option NameKind)(xs:List Str)(R N:List Str):Prop where
 kind:sc.kind=.function
 own:∀x∈xs,sc.names.lookup x=some .local
 nocell:∀p∈sc.names,p.2≠.cell
 locs:∀p∈sc.names,p.2=.local→p.1∈xs∨p.1=(".0":Str)
 lnames:∀p∈sc.names,p.2=.local→sc.names.lookup p.1=some .local
 free:∀p∈sc.names,p.2=.free→fk p.1=some .cell∨fk p.1=some .free
 nd:(xs++R).Nodup
 no0:(".0":Str)∉R
 len:R.length=N.length
 same:∀(i:Nat) y,R[i]?=some y→sc.names.lookup y=some .free→N[i]?=some y
theorem aS.of {sc:Scope}{fk:Str→Option NameKind}{xs:List Str}{R N:List Str}(h:bp sc fk xs R N=true):aS sc fk xs R N:=by
 unfold bp at h;simp only[Bool.and_eq_true,decide_eq_true_eq,all_eq_true,Bool.not_eq_true',beq_iff_eq] at h;obtain⟨⟨⟨⟨⟨⟨h1,h2⟩,h3⟩,h4⟩,h5⟩,h6⟩,h7⟩:=h;refine⟨h1,h2,fun p hp e=>?_,fun p hp e=>?_,fun p hp e=>?_,fun p hp e=>?_,h4,?_,h6,fun i y hy hf=>?_⟩
 ·have:=h3 p hp;rw[e] at this;simp at this
 ·have:=h3 p hp;rw[e] at this;simp at this;exact this.1
 ·have:=h3 p hp;rw[e] at this;simp at this;exact this.2
 ·have:=h3 p hp;rw[e] at this;simp at this;exact this
 ·intro hm;have:R.contains (".0":Str)=true:=by simpa using hm
  rw[this] at h5;cases h5
 ·obtain⟨hi,e⟩:=List.getElem?_eq_some_iff.mp hy;have hn:i<N.length:=by rw[←h6];exact hi
  have hz:(R[i],N[i])∈R.zip N:=by
   rw[mem_iff_getElem];exact⟨i,by simp;omega,by simp⟩
  have:=h7 _ hz;simp only[Bool.or_eq_true,beq_iff_eq,bne_iff_ne,ne_eq] at this;rcases this with q|q
  ·rw[getElem?_eq_getElem hn,←q,e]
  ·rw[e] at q;exact absurd hf q
def ak (X:Cx)(scope:Scope)(xs:List Str)(R:List Str)(fp:List Addr)(s:Shared)(H:Hp)(C:Addr):Cx where
 prog:=X.prog
 w:=X.w
 K:=X.K
 mg:=X.mg
 base:=X.base
 A:=X.A
 N:=xs++R
 s₀:=s
 H₀:=H
 env:=compEnvC scope (aY X.env.cells scope.names []) C X.env
 outer:=X.stack
 stack:=X.stack
 ex:=fp
 fn:=fun _=>false
 calm:=X.calm
 pn:=[]
 xe:=fun _ _=>False
section
variable {X:Cx}{ab:List (Addr×Obj)}{σ:L2.St}{H:Hp}{s:Shared}{scope:Scope}{xs:List Str}{R:List Str}{fp:List Addr}{C:Addr}
theorem aS.cells (S:aS scope X.env.kindOf xs R X.N)(I:L2.Inv X ab σ H s):∀p∈scope.names,p.2=.free→∃c,X.env.cells.lookup p.1=some c:=fun p hp e=>I.ok.has p.1 (S.free p hp e)
theorem a5 (S:aS scope X.env.kindOf xs R X.N)(I:L2.Inv X ab σ H s){y:Str}{c:Addr}(h:(aY X.env.cells scope.names []).lookup y=some c):X.env.cells.lookup y=some c:=
 f6 scope.names [] (fun _ z=>by cases z) (S.cells I) (y,c) (PySem.mem_of_lookup h)
theorem mW {h4:Heap}{m:Str→Option Value}{tk:Nat}(S:aS scope X.env.kindOf xs R X.N)(I:L2.Inv X ab σ H s)(hC:s.heap.objs.size≤C)(k:∀b o,s.heap.get? b=some o→h4.get? b=some o)(hn:h4.Ns C m)
  (hf:∀b∈fp,dN X ab H b) (hfl:∀b∈fp,b<s.heap.objs.size):L2.Inv (ak X scope xs R fp s H C) [] (List.replicate xs.length none++σ) H {s with heap:=h4,toks:=tk}:=by
 have hkn:∀y kk,(relabel scope X.env).names.lookup y=some kk→(kk=.cell∨kk=.free)→scope.names.lookup y=some .free:=fun y kk e hk=>by
  rcases cE e with q|q
  ·rcases hk with z|z
   ·subst z;exact absurd rfl (S.nocell _ (PySem.mem_of_lookup q))
   ·subst z;exact q
  ·exact q.2
 have hasc:∀y,scope.names.lookup y=some .free→∃c,(aY X.env.cells scope.names []).lookup y=some c:=fun y e=>by
  obtain⟨c,hc⟩:=fP (cells:=X.env.cells) scope.names [] y (PySem.mem_of_lookup e);exact d0 hc
 refine⟨⟨I.ok.mod,S.kind,I.ok.glob,I.ok.blt,hC,fun y z c h1 h2=>I.ok.inj y z c (a5 S I h1) (a5 S I h2),fun y hy=>?_,fun y c z=>absurd (show false=true from z) Bool.false_ne_true,I.ok.hd,I.ok.frames,.inl rfl,fun b hb=>⟨?_,fun y c e=>?_⟩,I.bs,Nat.le_trans I.ok.bsz I.sz,fun b o e hb=>?_,fun b hb z=>?_,I.stack,I.stkFree⟩,
  rfl,I.bare,Un.kept k,⟨m,hn,fun i y v h1 h2 h3=>?_⟩,fun y c e=>?_,I.hok.fresh hC,fun y c e=>I.freeC y c (a5 S I e),fun p hp=>absurd (show p∈([]:List (Addr×Obj)) from hp) (by simp),I.hok.kept k,?_⟩
 ·rcases hy with e|e
  ·exact hasc y (hkn y _ e (.inl rfl))
  ·exact hasc y (hkn y _ e (.inr rfl))
 ·exact Nat.ne_of_lt (Nat.lt_of_lt_of_le (hfl b hb) hC)
 ·exact(hf b hb).2.2.2.2.1 y c (a5 S I e)
 ·rcases(hf b hb).2.2.2.1 with z|z
  ·exact I.ok.noex b o e z
  ·exact absurd (Nat.lt_of_lt_of_le (Heap.lt_size e) (Nat.le_trans I.ok.bsz z)) (Nat.lt_irrefl _)
 ·rcases mem_cons.mp (I.stkSub b z) with e|e
  ·exact(hf b hb).2.1 e
  ·exact(hf b hb).2.2.1 e
 ·by_cases hi:i<xs.length
  ·exfalso;rw[getElem?_append_left (by rw[length_replicate];exact hi),getElem?_replicate,if_pos hi] at h2;cases h2
  ·obtain⟨i,rfl⟩:∃j,i=xs.length+j:=⟨i-xs.length,by omega⟩;have h1:R[i]?=some y:=by
    have h1:(xs++R)[xs.length+i]?=some y:=h1;rw[getElem?_append_right (by omega)] at h1;simpa using h1
   have h2:σ[i]?=some (some v):=by
    rw[getElem?_append_right (by rw[length_replicate];omega)] at h2;simpa using h2
   have hyR:y∈R:=mem_of_getElem? h1;have hf':scope.names.lookup y=some .free∧((relabel scope X.env).names.lookup y=some .cell∨(relabel scope X.env).names.lookup y=some .free):=by
    have h3:(relabel scope X.env).names.lookup y=some .local∨(relabel scope X.env).names.lookup y=some .cell∨(relabel scope X.env).names.lookup y=some .free:=h3;rcases h3 with e|e|e
    ·rcases cE e with q|q
     ·exfalso;rcases S.locs _ (PySem.mem_of_lookup q) rfl with z|z
      ·exact(nodup_append.mp S.nd).2.2 y z y hyR rfl
      ·have z:y=(".0":Str):=z;rw[z] at hyR;exact S.no0 hyR
     ·exact absurd q.1 (by intro z;cases z)
    ·exact⟨hkn y _ e (.inl rfl),.inl e⟩
    ·exact⟨hkn y _ e (.inr rfl),.inr e⟩
   have hN:=S.same i y h1 hf'.1;have hk:=S.free (y,.free) (PySem.mem_of_lookup hf'.1) rfl;obtain⟨mX,hnX,hl⟩:=I.loc;have vis:vI X.env.scope y:=by
    rcases hk with z|z
    ·exact .inr (.inl z)
    ·exact .inr (.inr z)
   obtain⟨u,r,l⟩:=hl i y v hN h2 vis;refine⟨u,r,.inr ⟨hf'.2,?_⟩⟩;rcases l with⟨z,_⟩|⟨_,c,hc,o,ho,hod⟩
   ·exfalso;rcases hk with q|q
    ·have q:X.env.kindOf y=some .cell:=q;rw[z] at q;cases q
    ·have q:X.env.kindOf y=some .free:=q;rw[z] at q;cases q
   ·obtain⟨c',hc'⟩:=hasc y hf'.1;have:c'=c:=by
     have:=a5 S I hc';rw[hc] at this;exact(Option.some.inj this).symm
    subst this;exact⟨c',hc',o,k _ _ ho,hod⟩
 ·obtain⟨v,o,ho,hd⟩:=I.cell y c (a5 S I e);exact⟨v,o,k _ _ ho,hd⟩
 ·show(List.replicate xs.length none++σ).length=(xs++R).length;rw[length_append,length_append,length_replicate,I.len,S.len]
end
def cF (t:gn)(gc:GT)(ge:GE):List D→bg→am→aE (List D)
 | [],ρ,M=>if t.ok M then .ok [] M else .bad
 | d::r,ρ,M=>if t.ok M then
   match gc (some d::ρ) M with
   | .ok true M1=>match ge (some d::ρ) M1 with
    | .ok e M2=>(cF t gc ge r ρ M2).bind fun es M3=>.ok (e::es) M3
    | _=>.bad
   | .ok false M1=>cF t gc ge r ρ M1
   | _=>.bad
  else .bad
def d8:GT:=fun _ M=>.ok true M
def aw (t:gn)(n:Nat)(sg:GG)(gc:GT)(ge:GE):List D→bg→am→aE (List D)
 | [],ρ,M=>if t.ok M then .ok [] M else .bad
 | d::r,ρ,M=>if t.ok M then
   match sg d (List.replicate n none++ρ) with
   | none=>.bad
   | some ρ1=>match gc ρ1 M with
    | .ok true M1=>match ge ρ1 M1 with
     | .ok e M2=>(aw t n sg gc ge r ρ M2).bind fun es M3=>.ok (e::es) M3
     | _=>.bad
    | .ok false M1=>aw t n sg gc ge r ρ M1
    | _=>.bad
  else .bad
def aP (gi:GI)(n:Nat)(sg:GG)(gc:GT)(ge:GE)(mk:List D→am→aE D):GE:=fun ρ M=>(gi ρ M).bind fun t M1=>(aw t n sg gc ge t.ds ρ M1).bind mk
theorem jA (t:gn)(gc:GT)(ge:GE):∀(ds:List D) (ρ:bg) (M:am),cF t gc ge ds ρ M=aw t 1 (bX 0) gc ge ds ρ M
 | [],ρ,M=>rfl
 | d::r,ρ,M=>by
  have ih:=jA t gc ge r;unfold cF aw;show _=(if t.ok M=true then(match gc (some d::ρ) M with
    | .ok true M1=>match ge (some d::ρ) M1 with
     | .ok e M2=>(aw t 1 (bX 0) gc ge r ρ M2).bind fun es M3=>.ok (e::es) M3
     | _=>.bad
    | .ok false M1=>aw t 1 (bX 0) gc ge r ρ M1
    | _=>.bad) else .bad)
  simp only[ih]
def je (n:Nat)(sg:GG):Prop:=∀d ρ ρ',sg d ρ=some ρ'→ρ'.length=ρ.length∧∀i:Nat,n≤i→ρ'[i]?=ρ[i]?
theorem oe {n i:Nat}(h:i<n):je n (bX i):=fun d ρ ρ' e=>by
 have e:some (ρ.set i (some d))=some ρ':=e;cases e;exact⟨by rw[length_set],fun j hj=>by rw[getElem?_set_ne (by omega)]⟩
theorem jc {n:Nat}:∀{is:List Nat} {ds:List D} {ρ ρ':bg},is.all (fun i=>decide (i<n))=true→eK is ds ρ=some ρ'→ρ'.length=ρ.length∧∀i:Nat,n≤i→ρ'[i]?=ρ[i]?
 | [],[],ρ,ρ',_,e=>by cases e;exact⟨rfl,fun _ _=>rfl⟩
 | [],_::_,_,_,_,e=>by cases e
 | _::_,[],_,_,_,e=>by cases e
 | i::is,d::ds,ρ,ρ',h,e=>by
  rw[all_cons,Bool.and_eq_true] at h;have hi:i<n:=by simpa using h.1
  obtain⟨a,b⟩:=jc h.2 (show eK is ds (ρ.set i (some d))=some ρ' from e);exact⟨by rw[a,length_set],fun j hj=>by rw[b j hj,getElem?_set_ne (by omega)]⟩
theorem oB {n:Nat}{is:List Nat}(h:is.all (fun i=>decide (i<n))=true):je n (cg is):=fun d ρ ρ' e=>by
 cases d with
 | tup ds=>exact jc h e
 | _=>cases e
theorem je.back {n:Nat}{sg:GG}{K:W.Frag}{θ:List Addr}{H:Hp}{τ:L2.St}{ρ ρ1:bg}{d:D}(o:je n sg)(e:sg d (List.replicate n none++ρ)=some ρ1)(h:dO K θ H τ ρ1):dO K θ H τ (List.replicate n none++ρ):=by
 obtain⟨a,b⟩:=o _ _ _ e;refine⟨by rw[←a];exact h.len,fun i d' q=>?_⟩
 by_cases hi:i<n
 ·rw[getElem?_append_left (by rw[length_replicate];exact hi),getElem?_replicate,if_pos hi] at q;cases q
 ·rw[←b i (by omega)] at q;exact h.at_ i d' q
def cq (gi:GI)(gc:GT)(ge:GE)(mk:List D→am→aE D):GE:=fun ρ M=>(gi ρ M).bind fun t M1=>(cF t gc ge t.ds ρ M1).bind mk
theorem jn (elt target iter:Expr)(ifs:List Expr)(scope:Scope)(pos:Pos)(it acc:Value)(env:Env)(cond:Sem Bool)
  (hc:(forIn (m:=Sem) ifs true fun c r=>if r=true then do let ok ←isTrue c env (eval c env);pure (ForInStep.yield ok) else pure (ForInStep.yield r))=cond) :
  compTurn (.ListComp elt [⟨target,iter,ifs,0⟩] scope pos) 0 it acc env=(standAt iter.pos >>= fun _=>pyNext it >>= fun r=>match r with
   | none=>pure (.done .next)
   | some v=>letOwnedTupleGo target it v >>= fun _=>assign target env v >>= fun _=>cond >>= fun ok=>
    if ok=true then((eval elt env >>= fun x=>call (.builtin "list.append") [acc,x] >>= fun _=>pure ()) >>= fun _=>
     again (.compLoop (.ListComp elt [⟨target,iter,ifs,0⟩] scope pos) 0 it acc env)) else again (.compLoop (.ListComp elt [⟨target,iter,ifs,0⟩] scope pos) 0 it acc env)):=by
 subst hc;rfl
section
variable {prog:Program}{w:World}{A:Around}{R:Result→Shared→Prop}{s:Shared}
theorem dE {elt target iter:Expr}{ifs:List Expr}{scope:Scope}{pos:Pos}{it acc:Value}{env:Env}{cond:Sem Bool}
  (hc:(forIn (m:=Sem) ifs true fun c r=>if r=true then do let ok ←isTrue c env (eval c env);pure (ForInStep.yield ok) else pure (ForInStep.yield r))=cond) (I:Nat→Shared→Prop)
  (turn:∀n s,I n s→wpAny (model prog w) A (pyNext it) (fun r s₁=>match r with
   | none=>R (.ok .next) s₁
   | some v=>wpAny (model prog w) A (letOwnedTupleGo target it v) (fun _ s₂=>wpAny (model prog w) A (assign target env v) (fun _ s₃=>wpAny (model prog w) A cond (fun ok s₄=>if ok=true then
     wpAny (model prog w) A (eval elt env) (fun x s₅=>wpAny (model prog w) A (call (.builtin "list.append") [acc,x]) (fun _ s₆=>∃m,m<n∧I m s₆) (fun _ _=>False) s₅) (fun _ _=>False) s₄
     else∃m,m<n∧I m s₄) (fun _ _=>False) s₃) (fun _ _=>False) s₂) (fun _ _=>False) s₁) (fun _ _=>False) s)
  (n:Nat) (h:I n s):codeAny (model prog w) A (.compLoop (.ListComp elt [⟨target,iter,ifs,0⟩] scope pos) 0 it acc env) R s:=by
 refine codeAny_loop rfl I (fun n s hI=>?_) n h;show wpAny _ _ ((compTurn (.ListComp elt [⟨target,iter,ifs,0⟩] scope pos) 0 it acc env).onRaise (fun x=>do noteFrame x env;theTreesLotGoes x)) _ _ s;refine wpAny_noted ?_;rw[jn _ _ _ _ _ _ _ _ _ _ hc];refine wpAny_bind (wpAny_standAt (wpAny_bind (wpAny_mono (turn n s hI) (fun r s₁ h₁=>?_) fun _ _ z=>z.elim)));cases r with
 | none=>exact wpAny_pure h₁
 | some v=>
  refine wpAny_bind (wpAny_mono h₁ (fun _ s₂ h₂=>?_) fun _ _ z=>z.elim);refine wpAny_bind (wpAny_mono h₂ (fun _ s₃ h₃=>?_) fun _ _ z=>z.elim);refine wpAny_bind (wpAny_mono h₃ (fun ok s₄ h₄=>?_) fun _ _ z=>z.elim);cases ok with
  | true=>
   rw[if_pos rfl] at h₄;rw[if_pos rfl];exact wpAny_bind (wpAny_bind (wpAny_mono h₄ (fun x s₅ h₅=>wpAny_bind (wpAny_mono h₅ (fun _ s₆ h₆=>wpAny_pure (wpAny_pure ⟨rfl,h₆⟩)) fun _ _ z=>z.elim)) fun _ _ z=>z.elim))
  | false=>
   rw[if_neg Bool.false_ne_true] at h₄;rw[if_neg Bool.false_ne_true];exact wpAny_pure ⟨rfl,h₄⟩
theorem jO {env:Env}:(forIn (m:=Sem) ([]:List Expr) true fun c r=>if r=true then do let ok ←isTrue c env (eval c env);pure (ForInStep.yield ok) else pure (ForInStep.yield r))=pure true:=rfl
theorem lj {env:Env}{c:Expr}:(forIn (m:=Sem) [c] true fun c r=>if r=true then do let ok ←isTrue c env (eval c env);pure (ForInStep.yield ok) else pure (ForInStep.yield r))=isTrue c env (eval c env):=by
 rw[forIn_cons];simp
end
theorem oG {b a c:Nat}(h:b<a)(e:c=a+1):b≠c:=by omega
theorem m5 {b a c:Nat}(h:b<c)(e:c=a):a≠b:=by omega
theorem iW {b a c:Nat}(h:b<c)(e:c=a):b≠a:=by omega
abbrev cN (its:List Value)(n:Nat):Obj:={cls:=.type "list",data:=.seq its.toArray n}
section
variable {X:Cx}{ab:List (Addr×Obj)}{σ:L2.St}{s:Shared}{scope:Scope}{xs:List Str}{tg:Expr}{sg:GG}{R:List Str}{elt iter:Expr}{ifs:List Expr}{pos:Pos}{E:Value→Shared→Prop}
theorem n9 {K:W.Frag}{θ:List Addr}{H:Hp}{σ:L2.St}{ρ:bg}{n:Nat}(h:dO K θ H σ ρ):dO K θ H (List.replicate n none++σ) (List.replicate n none++ρ):=by
 refine⟨by rw[length_append,length_append,length_replicate,length_replicate,h.len],fun i d e=>?_⟩
 by_cases hi:i<n
 ·rw[getElem?_append_left (by rw[length_replicate];exact hi),getElem?_replicate,if_pos hi] at e;cases e
 ·rw[getElem?_append_right (by rw[length_replicate];omega),length_replicate] at e ⊢;exact h.at_ _ d e
inductive yh (X0:Cx) (fp:List Addr) (tn:Nat→Heap→Prop) (K:W.Frag) (acc:Addr) (t:gn) (ρ0:bg) (θ1:List Addr) (H2:Hp) (es:List D) (go:List D→am→aE (List D)) (Mend:am) (n:Nat) (s':Shared):Prop
 | mk (i:Nat) (τ:L2.St) (H':Hp) (θ':List Addr) (M':am) (ds rest:List D) (vs:List V) (its:List Value) (na:Nat) (e1:n=t.ds.length-i) (e2:i≤t.ds.length)
   (e3:L2.Inv X0 [(acc,cN its na)] τ H' s') (e4:dO K θ' H' τ ρ0) (e5:tn i s'.heap) (e6:∀b∈fp,H' b=none) (e7:Go K θ1 H2 θ' H' M') (e8:aF K θ' H' ds vs) (e9:az vs its) (e10:go (t.ds.drop i) M'=.ok rest Mend) (e11:ds++rest=es)
theorem gD {fp:List Addr}{it:Addr}{tn:Nat→Heap→Prop}{J:It}{H2:Hp}{s2:Shared}{t:gn}{M1:am}{θ1:List Addr}{ρ:bg}{gc:GT}{ge:GE}{es:List D}{Mend:am}{RR:Value→Addr→Result→Shared→Prop}
  (S:aS scope X.env.kindOf xs R X.N) (hc:X.calm=true) (I2:L2.Inv X ab σ H2 s2) (T:lS X.prog X.w X.K tg J fp it tn) (st2:tn 0 s2.heap) (f2:∀b∈fp,dN X ab H2 b)
  (hw1:Wr X.K θ1 H2 M1) (hd1:dO X.K θ1 H2 σ ρ) (hJ:qB X.K J θ1 H2 t) (hgo:aw t xs.length sg gc ge t.ds ρ M1=.ok es Mend) (hlen:es.length≤sizeLine)
  (hcd:∀C,∃cond,(forIn (m:=Sem) ifs true fun c r=>if r=true then do let ok ←isTrue c (ak X scope xs R fp s2 H2 C).env (eval c (ak X scope xs R fp s2 H2 C).env);pure (ForInStep.yield ok) else pure (ForInStep.yield r))=cond∧
   ∀(ab:List (Addr×Obj)) (s:Shared) (σ:L2.St) (H:Hp) (Q:Bool→Hp→Prop),L2.Inv (ak X scope xs R fp s2 H2 C) ab σ H s→tT (ak X scope xs R fp s2 H2 C) gc σ H Q→wpAny (model X.prog X.w) X.A cond (TP (ak X scope xs R fp s2 H2 C) ab σ Q) (fun _ _=>False) s)
  (own:je xs.length sg) (hg:∀C,PG (ak X scope xs R fp s2 H2 C) tg (tG (ak X scope xs R fp s2 H2 C) sg))
  (he:∀C,PE (ak X scope xs R fp s2 H2 C) elt (tE (ak X scope xs R fp s2 H2 C) ge))
  (fin:∀(acc C:Addr) (s':Shared) (H':Hp) (θ':List Addr) (vs:List V) (m:Str→Option Value),L2.Inv X ab σ (bu H' acc (.lst vs)) s'→s'.heap.Ns C m→dN X ab (bu H' acc (.lst vs)) C→Go X.K θ1 H2 θ' H' Mend→H' acc=none→aF X.K θ' H' es vs→RR (.ref acc) C (.ok .next) s') :
  wpAny (model X.prog X.w) X.A (newList []) (fun acc s₃=>wpAny (model X.prog X.w) X.A (newFunctionEnv scope X.env.globals (aY X.env.cells scope.names []) [] X.env.qual none .none (some X.env)) (fun cenv s₄=>
   codeAny (model X.prog X.w) X.A (.compStart (.ListComp elt [⟨tg,iter,ifs,0⟩] scope pos) 0 (.ref it) acc {cenv with scope:=relabel scope X.env}) (RR acc cenv.locals) s₄) E s₃) E s2:=by
 refine wpAny_newObj_type (wpAny_newFunctionEnv S.nocell (by intro y hy;simp at hy) (fun h₁ hns₁ hsb₁=>?_) S.kind);dsimp only at hns₁ hsb₁ ⊢;generalize hHp:s2.heap.push {cls:=.type "list",dict:=none,data:=.seq ([]:List Value).toArray}=Hp2 at hns₁ hsb₁ ⊢;have hCe:Hp2.objs.size=s2.heap.objs.size+1:=by rw[←hHp,Heap.size_push]
 generalize hCd:Hp2.objs.size=C at hns₁ hsb₁ hCe ⊢;generalize hAd:s2.heap.objs.size=acc at hCe ⊢;have hDC:acc≠C:=by rw[hCe];exact Nat.ne_of_lt (Nat.lt_succ_self _)
 have old:∀b o,s2.heap.get? b=some o→h₁.get? b=some o:=fun b o e=>by
  have hb:b<acc:=by rw[←hAd];exact Heap.lt_size e
  refine hsb₁.extBut b o (oG hb hCe) (Heap.get?_push_of_some _ ?_);rw[←hHp];exact Heap.get?_push_of_some _ e
 have hacc0:h₁.get? acc=some (cN [] 0):=by
  refine hsb₁.extBut acc _ hDC (Heap.get?_push_of_some _ ?_);rw[←hHp,←hAd];exact Heap.get?_push_size _ rfl
 have hfl:∀b∈fp,b<s2.heap.objs.size:=fun b hb=>by
  obtain⟨o,e,_⟩:=T.obj 0 _ st2 b hb;exact Heap.lt_size e
 have hCs:s2.heap.objs.size≤C:=by omega
 have IY0:L2.Inv (ak X scope xs R fp s2 H2 C) [] (List.replicate xs.length none++σ) H2 {s2 with heap:=h₁,toks:=s2.toks+([]:List (Str×Value)).length}:=mW S I2 hCs old hns₁ f2 hfl;obtain⟨cond,hcond,hct⟩:=hcd C;have fpY:∀{H':Hp} {p:Obj},(∀b∈fp,H' b=none)→∀b∈fp,dN (ak X scope xs R fp s2 H2 C) [(acc,p)] H' b:=fun {H' p} hn b hb=>by
  refine⟨hn b hb,?_,fun z=>?_,.inl hb,fun y c e=>?_,fun q hq=>?_⟩
  ·exact Nat.ne_of_lt (Nat.lt_of_lt_of_le (hfl b hb) hCs)
  ·rcases mem_cons.mp (I2.stkSub b z) with e|e
   ·exact(f2 b hb).2.1 e
   ·exact(f2 b hb).2.2.1 e
  ·exact(f2 b hb).2.2.2.2.1 y c (a5 S I2 e)
  ·have hq:q∈([]:List (Addr×Obj))++[(acc,p)]:=hq;have e:q=(acc,p):=by simpa using hq
   rw[e];exact m5 (hfl b hb) hAd
 have accF:∀b∈gQ X.stack,acc≠b:=fun b hb e=>by
  have:acc∉X.env.locals::X.fs:=by
   intro z;rcases mem_cons.mp z with z|z
   ·exact m5 I2.lt hAd z
   ·exact I2.nofs (Nat.le_of_eq hAd) z
  exact this (e▸I2.stkSub b hb)
 have loop:∀s₃:Shared,s₃={s2 with heap:=h₁,toks:=s2.toks+([]:List (Str×Value)).length}→
   codeAny (model X.prog X.w) X.A (.compLoop (.ListComp elt [⟨tg,iter,ifs,0⟩] scope pos) 0 (.ref it) (.ref acc) (ak X scope xs R fp s2 H2 C).env) (RR (.ref acc) C) s₃:=by
  rintro s₃ rfl;have pin0:∀{σ':L2.St} {H':Hp} {s':Shared} {its:List Value} {n:Nat},L2.Inv (ak X scope xs R fp s2 H2 C) [] σ' H' s'→s'.heap.get? acc=some (cN its n)→H' acc=none→L2.Inv (ak X scope xs R fp s2 H2 C) [(acc,cN its n)] σ' H' s':=fun {σ' H' s' its n} I' e hn=>
   I'.pins_of fun p hp=>by
    have ep:p=(acc,cN its n):=by simpa using hp
    subst ep;exact⟨e,hn,hDC,fun z=>accF acc z rfl,fun v z=>by cases z⟩
  refine dE hcond (yh (ak X scope xs R fp s2 H2 C) fp tn X.K acc t (List.replicate xs.length none++ρ) θ1 H2 es (fun l N=>aw t xs.length sg gc ge l ρ N) Mend) ?_ t.ds.length
   ⟨0,_,H2,θ1,M1,[],es,[],[],0,rfl,Nat.zero_le _,pin0 IY0 hacc0 (I2.hok.fresh (Nat.le_of_eq hAd)),n9 hd1,T.keep 0 _ _ st2 (fun b hb o e=>old b o e),fun b hb=>(f2 b hb).1,.refl hw1,rfl,.nil,hgo,rfl⟩
  rintro n s' ⟨i,τ,H',θ',M',ds,rest,vs,its,na,rfl,hil,I',dn',st',fr',g',rd',rv',hrest,hes⟩;have hok:t.ok M'=true:=by
   cases hq:t.ok M' with
   | true=>rfl
   | false=>
    exfalso;cases hdr:t.ds.drop i with
    | nil=>rw[hdr,aw,if_neg (by rw[hq];exact Bool.false_ne_true)] at hrest;cases hrest
    | cons d r=>rw[hdr,aw,if_neg (by rw[hq];exact Bool.false_ne_true)] at hrest;cases hrest
  obtain⟨hy,hst⟩:=hJ θ' H' M' g' hok i
  by_cases hlt:i<t.ds.length
  ·have e1:t.ds[i]?=some t.ds[i]:=getElem?_eq_getElem hlt;obtain⟨hgo',hyl⟩:=hy _ e1;rw[drop_eq_getElem_cons hlt,aw,if_pos hok] at hrest;refine bL (T.item (ak X scope xs R fp s2 H2 C) rfl rfl rfl hc i _ s' _ H' _ I' (fpY fr') st' hgo') fun r s4 hxx=>?_
   obtain⟨u,hr,h4⟩:=hxx;subst hr;refine bL h4 fun _ s5 hxx=>?_
   obtain⟨v,H5,I5,r5,y5,st5,fr5⟩:=hxx;obtain⟨gy,rx⟩:=hyl v H5 y5;have I5':=I5.pinned (fpY fr5) (T.obj _ _ st5);cases qs:sg t.ds[i] (List.replicate xs.length none++ρ) with
   | none=>rw[qs] at hrest;cases hrest
   | some ρ1=>
   rw[qs] at hrest;dsimp only at hrest;refine bL (hg C _ s5 _ H5 v u (fun σ6 H6=>dO X.K θ' H6 σ6 ρ1∧H6=H5) I5' r5 ⟨_,θ',M',t.ds[i],dn'.go gy,gy.wr,rx,ρ1,qs,fun σ6 d6=>⟨d6,rfl⟩⟩) fun _ s6 hxx=>?_
   obtain⟨σ6,H6,I6,hdY,eH6⟩:=hxx;subst eH6;cases qc:gc ρ1 M' with
   | bad=>rw[qc] at hrest;cases hrest
   | err c Mx=>rw[qc] at hrest;cases hrest
   | ok b Mb=>
    refine bL (hct _ s6 _ H6 (fun b' H7=>b'=b∧∃θ7,Go X.K θ' H6 θ7 H7 Mb) I6 ⟨_,θ',M',hdY,gy.wr,?_⟩) fun ok s7 ⟨H7,I7,eb,θ7,g7⟩=>?_
    ·rw[qc];exact fun θ7 H7 g7=>⟨rfl,θ7,g7⟩
    subst eb;have fpk:∀{s8:Shared} {σ8:L2.St} {H8:Hp},L2.Inv (ak X scope xs R fp s2 H2 C) ([(acc,cN its na)]++fO fp s5.heap) σ8 H8 s8→(∀b∈fp,H8 b=none)∧(∀b∈fp,∀o,s5.heap.get? b=some o→s8.heap.get? b=some o)∧s8.heap.get? acc=some (cN its na)∧H8 acc=none:=fun {s8 σ8 H8} I8=>by
     have pa:=I8.pin (acc,cN its na) (mem_append_right _ (mem_append_left _ (by simp)));refine⟨fun b hb=>?_,fun b hb o e=>(I8.pin (b,o) (mem_append_right _ (mem_append_right _ (dq hb e)))).1,pa.1,pa.2.1⟩;obtain⟨o,e,d⟩:=T.obj _ _ st5 b hb;exact(I8.pin (b,o) (mem_append_right _ (mem_append_right _ (dq hb e)))).2.1
    cases ok with
    | false=>
     rw[if_neg Bool.false_ne_true];rw[qc] at hrest;obtain⟨k1,k2,k3,k4⟩:=fpk I7;exact⟨t.ds.length-(i+1),by omega,i+1,σ6,H7,θ7,Mb,ds,rest,vs,its,na,rfl,hlt,I7.unpinned,own.back qs (hdY.go g7),T.keep _ _ _ st5 k2,k1,g'.trans (gy.trans g7),rd'.go (gy.trans g7),rv',hrest,hes⟩
    | true=>
     rw[if_pos rfl];rw[qc] at hrest;have hrest:(match ge ρ1 Mb with
      | .ok e M2=>(aw t xs.length sg gc ge (t.ds.drop (i+1)) ρ M2).bind fun es M3=>.ok (e::es) M3
      | _=>.bad)=aE.ok rest Mend:=hrest
     cases qe:ge ρ1 Mb with
     | bad=>rw[qe] at hrest;cases hrest
     | err c Mx=>rw[qe] at hrest;cases hrest
     | ok dv Mv=>
      rw[qe] at hrest;have hrest:((aw t xs.length sg gc ge (t.ds.drop (i+1)) ρ Mv).bind fun es M3=>aE.ok (dv::es) M3)=aE.ok rest Mend:=hrest;refine bL (he C _ s7 _ H7 (fun w H8=>∃θ8,Go X.K θ7 H7 θ8 H8 Mv∧cn X.K θ8 H8 dv w) I7 ⟨_,θ7,Mb,hdY.go g7,g7.wr,?_⟩) fun uv s8 ⟨w,H8,I8,rw8,θ8,g8,rd8⟩=>?_
      ·rw[qe];exact fun w θ8 H8 g8 rd8=>⟨θ8,g8,rd8⟩
      obtain⟨k1,k2,k3,k4⟩:=fpk I8;cases qr:aw t xs.length sg gc ge (t.ds.drop (i+1)) ρ Mv with
      | bad=>rw[qr] at hrest;cases hrest
      | err c Mx=>rw[qr] at hrest;cases hrest
      | ok rest' Mr=>
       rw[qr] at hrest;have hrest:aE.ok (dv::rest') Mr=aE.ok rest Mend:=hrest;cases hrest;have hsz:its.length<sizeLine:=by
        have e2:(ds++dv::rest').length≤sizeLine:=by rw[hes];exact hlen
        rw[length_append,length_cons,ai rd',rv'.length] at e2;omega
       refine call_meets F.slot_list_append ⟨_,k3,rfl⟩ F.entry_list_append (F.args_list_append_2 _ _) (PySem.list_append acc its.toArray na uv (by rw[size_toArray];omega)) ⟨k3,?_⟩;have qup:=PySem.IsL.update k3 (fun a=>a.push uv);have eup:(its.toArray.push uv)=(its++[uv]).toArray:=by simp
       have keepb:∀b o,b≠acc→s8.heap.get? b=some o→(s8.heap.update acc (Obj.mapSeq fun a=>a.push uv)).get? b=some o:=fun b o hb e=>(Heap.get?_update_other s8.heap _ (Ne.symm hb)).trans e
       have I9:L2.Inv (ak X scope xs R fp s2 H2 C) [] σ6 H8 {s8 with heap:=s8.heap.update acc (Obj.mapSeq fun a=>a.push uv),toks:=s8.toks}:=by
        refine Inv.turned (it:=acc) (I8.pins_of (pins':=[]) fun p hp=>absurd hp (by simp)) keepb k4 hDC (.inr (Nat.le_of_eq hAd)) (fun y c e z=>?_) fun p hp=>absurd (show p∈([]:List (Addr×Obj)) from hp) (by simp)
        obtain⟨v',o,ho,hdd⟩:=I2.cell y c (a5 S I2 e);exact iW (Heap.lt_size ho) hAd z
       obtain⟨n',eq'⟩:∃n',(s8.heap.update acc (Obj.mapSeq fun a=>a.push uv)).get? acc=some (cN (its++[uv]) n'):=by
        have q2:=qup;rw[eup] at q2;exact⟨_,q2⟩
       exact⟨t.ds.length-(i+1),by omega,i+1,σ6,H8,θ8,Mv,ds++[dv],rest',vs++[w],its++[uv],n',rfl,hlt,pin0 I9 eq' k4,own.back qs (hdY.go (g7.trans g8)),T.keep _ _ _ st5 (fun b hb o e=>keepb b o (iW (hfl b hb) hAd) (k2 b hb o e)),k1,g'.trans (gy.trans (g7.trans g8)),bJ (rd'.go (gy.trans (g7.trans g8))) ⟨w,[],rfl,rd8,rfl⟩,rv'.append (.cons rw8 .nil),qr,by rw[←hes];simp⟩
  ·have e:i=t.ds.length:=by omega
   subst e;rw[drop_length,aw,if_pos hok] at hrest;cases hrest;have hes:ds=es:=by rw[←hes];simp
   subst hes;refine bL (T.done (ak X scope xs R fp s2 H2 C) rfl rfl rfl hc _ _ s' _ H' _ I' (fpY fr') st' (hst (Nat.le_refl _))) fun r s4 hxx=>?_
   obtain⟨hr,I4⟩:=hxx;subst hr;have pa:=I4.pin (acc,cN its na) (mem_append_right _ (by simp));have e4:s4.heap.get? acc=some (cN its na):=pa.1;have n4:H' acc=none:=pa.2.1;have lv:vs.length≤sizeLine:=by rw[←ai rd'];exact hlen
   obtain⟨mC,hnC,_⟩:=I4.loc;have hHC:H' C=none:=I4.free;have n6:Un (gQ X.stack) fp H2 H' s2.heap s4.heap:=I4.base;have neA:∀{b:Addr} {o:Obj},s2.heap.get? b=some o→b≠acc:=fun {b o} e=>iW (Heap.lt_size e) hAd
   have neH:∀{b:Addr} {u:HO},H' b=some u→b≠acc:=fun {b u} e z=>by rw[z,n4] at e;cases e
   have un4:Un (gQ X.stack) fp H2 (bu H' acc (.lst vs)) s2.heap s4.heap:=by
    refine⟨n6.keep,n6.slot,fun b o e n hx=>?_,n6.there,fun b xs e=>?_,fun b o u e=>?_,fun b ps e=>?_⟩
    ·rw[aj (neA e)];exact n6.free b o e n hx
    ·have z:=n6.tups b xs e;rw[aj (neH z)];exact z
    ·have z:=n6.frzs b o u e;rw[aj (neH z)];exact z
    ·obtain⟨more,z⟩:=n6.tbls b ps e;exact⟨more,by rw[aj (neH z)];exact z⟩
   have hok4:eV X.prog X.w (bu H' acc (.lst vs)) s4.heap:=fun b u e=>by
    by_cases hb:b=acc
    ·subst hb;rw[aZ] at e;cases e;exact⟨lv,its,na,rv',e4⟩
    ·rw[aj hb] at e;exact(I4.hok b u e).stay (fun c v _ q=>q) (fun c q=>by rw[aj (neH q)];exact q) fun c xs q=>by rw[aj (neH q)];exact q
   have IX:L2.Inv X ab σ (bu H' acc (.lst vs)) s4:=I2.call' (ch:=fp) I4.os un4 hok4 I4.bare fun b hb=>⟨(f2 b hb).2.2.2.1,(f2 b hb).2.1,(f2 b hb).2.2.2.2.1,(f2 b hb).2.2.2.2.2⟩
   refine fin acc C s4 H' θ' vs mC IX hnC (I2.fpOk hCs ?_) g' n4 rd';rw[aj (Ne.symm hDC)];exact hHC
 exact codeAny_compStart_list (loop _ rfl) (T.self _ 0 _ _ _ (T.keep 0 _ _ st2 fun b hb o e=>old b o e) (loop _ rfl))
end
section
variable {X:Cx}{scope:Scope}{xs:List Str}{tg:Expr}{sg:GG}{x:Str}{px:Pos}{R:List Str}{elt iter:Expr}{ifs:List Expr}{pos:Pos}{gi:GI}{gc:GT}{ge:GE}
def sC (mk:List D→am→aE D):Prop:=∀(X:Cx) (θ:List Addr) (H:Hp) (Q:VK) (ds:List D) (M:am) (vs:List V),aH X θ H Q (mk ds M)→Wr X.K θ H M→aF X.K θ H ds vs→vs.length≤sizeLine∧∀p,H p=none→Q (.ref p) (bu H p (.lst vs))
theorem mG:sC aI:=fun X θ H Q ds M vs h hw r=>aH.lst h hw r
theorem mH:sC bM:=fun X θ H Q ds M vs h hw r=>aH.mut h hw r
theorem nj {mk:List D→am→aE D}(hm:mk=aI∨mk=bM){X:Cx}{θ:List Addr}{H:Hp}{Q:VK}{ds:List D}{M:am}(h:aH X θ H Q (mk ds M)):ds.length≤sizeLine:=by
 rcases hm with e|e <;> subst e
 ·unfold aI at h;split at h
  ·assumption
  ·exact h.elim
 ·unfold bM at h;split at h
  ·assumption
  ·exact h.elim
theorem qu {mk:List D→am→aE D}(hm:mk=aI∨mk=bM):sC mk:=by
 rcases hm with e|e <;> subst e
 ·exact mG
 ·exact mH
def dJ (X:Cx)(scope:Scope)(xs:List Str)(R:List Str)(ifs:List Expr)(gc:GT):Prop:=∀fp s2 H2 C,∃cond,(forIn (m:=Sem) ifs true fun c r=>if r=true then do let ok ←isTrue c (ak X scope xs R fp s2 H2 C).env (eval c (ak X scope xs R fp s2 H2 C).env);pure (ForInStep.yield ok) else pure (ForInStep.yield r))=cond∧
   ∀(ab:List (Addr×Obj)) (s:Shared) (σ:L2.St) (H:Hp) (Q:Bool→Hp→Prop),L2.Inv (ak X scope xs R fp s2 H2 C) ab σ H s→tT (ak X scope xs R fp s2 H2 C) gc σ H Q→wpAny (model X.prog X.w) X.A cond (TP (ak X scope xs R fp s2 H2 C) ab σ Q) (fun _ _=>False) s
theorem mI:dJ X scope xs R [] d8:=fun fp s2 H2 C=>⟨_,jO,fun ab s σ H Q I ⟨ρ,θ,M,hd,hw,h⟩=>wpAny_pure ⟨H,I,h θ H (.refl hw)⟩⟩
theorem nP {c:Expr}(h:∀fp s2 H2 C,PT (ak X scope xs R fp s2 H2 C) c (tT (ak X scope xs R fp s2 H2 C) gc)):dJ X scope xs R [c] gc:=fun fp s2 H2 C=>⟨_,lj,fun ab s σ H Q I q=>h fp s2 H2 C ab s σ H Q I q⟩
theorem dh {t:gn}{n:Nat}{sg:GG}{gc:GT}{ge:GE}{ρ:bg}{c:Str}{M':am}:∀(ds:List D) (M:am),aw t n sg gc ge ds ρ M=.err c M'→False
 | [],M,h=>by
  unfold aw at h;split at h <;> cases h
 | d::r,M,h=>by
  unfold aw at h;split at h
  ·split at h
   ·cases h
   ·split at h
    ·rename_i M1 q1;split at h
     ·rename_i e M2 q2;cases q:aw t n sg gc ge r ρ M2 with
      | ok es M3=>rw[q] at h;cases h
      | err c2 M3=>exact dh r M2 q
      | bad=>rw[q] at h;cases h
     ·cases h
    ·rename_i M1 q1;exact dh r M1 h
    ·cases h
  ·cases h
theorem jF {mk:List D→am→aE D}(hS:bp scope X.env.kindOf xs R X.N=true)(hc:X.calm=true)(hm:mk=aI∨mk=bM)(hi:PI X tg iter (tI X gi))(own:je xs.length sg)(hg:∀fp s H C,PG (ak X scope xs R fp s H C) tg (tG (ak X scope xs R fp s H C) sg))(hts:dJ X scope xs R ifs gc)
  (he:∀fp s H C,PE (ak X scope xs R fp s H C) elt (tE (ak X scope xs R fp s H C) ge))
  (hs:∀x,foldedSetIterable iter X.env x=pure x:=by intro _;rfl):PE X (.ListComp elt [⟨tg,iter,ifs,0⟩] scope pos) (tE X (aP gi xs.length sg gc ge mk)):=by
 have S:=aS.of hS;intro ab s σ H Q I h;obtain⟨ρ,θ,M,hd,hw,h⟩:=h;rw[eval_ListComp];refine wpAny_comprehension_free (use:=none) rfl hs (df (S.cells I)) S.kind S.lnames ?_;refine bL (hi ab s σ H (fun J H2=>∃t M1 θ1,gi ρ M=.ok t M1∧Go X.K θ H θ1 H2 M1∧qB X.K J θ1 H2 t) I ⟨ρ,θ,M,hd,hw,?_⟩) fun v s1 h1=>bL h1 fun itv s2 h2=>?_
 ·cases q:gi ρ M with
  | ok t M1=>exact fun J θ1 H1 g1 hJ=>⟨t,M1,θ1,rfl,g1,hJ⟩
  | err c M1=>unfold aP at h;rw[q] at h;exact h
  | bad=>unfold aP at h;rw[q] at h;exact h
 obtain⟨it,fp,tn,J,H2,rfl,I2,T,st2,f2,t,M1,θ1,eg,g1,hJ⟩:=h2;unfold aP at h;rw[eg] at h;have h:aH X θ H Q ((aw t xs.length sg gc ge t.ds ρ M1).bind mk):=h;cases q:aw t xs.length sg gc ge t.ds ρ M1 with
 | bad=>rw[q] at h;exact h.elim
 | err c Mx=>exact(dh _ _ q).elim
 | ok es Mend=>
  rw[q] at h;have h:aH X θ H Q (mk es Mend):=h;refine gD (RR:=fun acc C=>compPost (model X.prog X.w) X.A X.xe none (EP X ab σ Q) acc C) S hc I2 T st2 f2 g1.wr (hd.go g1) hJ q (nj hm h) (fun C=>hts fp s2 H2 C) own (fun C=>hg fp s2 H2 C) (fun C=>he fp s2 H2 C) ?_;intro acc C s' H' θ' vs m IX hnC fC g' na rd;refine⟨m,hnC,fun h' sb=>?_⟩;have I3:L2.Inv X ab σ (bu H' acc (.lst vs)) {s' with heap:=h',toks:=s'.toks}:=IX.turned (it:=C) (fun b o hb e=>(sb.2 b hb).trans e) fC.1 fC.2.1 fC.2.2.2.1 fC.2.2.2.2.1 fC.2.2.2.2.2;exact⟨.ref acc,_,I3,rfl,(qu hm X θ' H' Q es Mend vs (aH.go (g1.trans g') h) g'.wr rd).2 acc na⟩
theorem jh {mk:List D→am→aE D}{j:Nat}{y:Str}{py spos:Pos}(hS:bp scope X.env.kindOf xs R X.N=true)(hc:X.calm=true)(hm:mk=aI∨mk=bM)(hi:PI X tg iter (tI X gi))(own:je xs.length sg)(hg:∀fp s H C,PG (ak X scope xs R fp s H C) tg (tG (ak X scope xs R fp s H C) sg))(hts:dJ X scope xs R ifs gc)
  (he:∀fp s H C,PE (ak X scope xs R fp s H C) elt (tE (ak X scope xs R fp s H C) ge))
  (hN:X.N.Nodup) (hj:X.N[j]?=some y) (hy:X.env.scope.names.lookup y=some .local)
  (hsw:swapsWith (.ListComp elt [⟨tg,iter,ifs,0⟩] scope pos) (some (.Name y py)) spos.line X.env=pure true)
  (hs:∀x,foldedSetIterable iter X.env x=pure x:=by intro _;rfl):PS X (.Assign [.Name y py] (.ListComp elt [⟨tg,iter,ifs,0⟩] scope pos) spos) (tS X (ax j (aP gi xs.length sg gc ge mk))):=by
 have S:=aS.of hS;intro ab s σ H Q I h;obtain⟨ρ,θ,M,hd,hw,h⟩:=h;rw[exec_Assign_Name_used _ _ _ _ hsw];refine wpAny_bind (wpAny_standAt (wpAny_bind ?_));show wpAny _ X.A (do let _ ←comprehension (.ListComp elt [⟨tg,iter,ifs,0⟩] scope pos) scope X.env _ (newList []) false (eval iter X.env) (some (assign (.Name y py) X.env))) _ _ s;refine wpAny_bind (wpAny_mono (wpAny_comprehension_free (use:=some (assign (.Name y py) X.env)) (Q:=fun _ s'=>SP X ab Q .next s') rfl hs (df (S.cells I)) S.kind S.lnames ?_) (fun _ s' hq=>wpAny_pure (wpAny_pure hq)) fun _ _ e=>e);refine bL (hi ab s σ H (fun J H2=>∃t M1 θ1,gi ρ M=.ok t M1∧Go X.K θ H θ1 H2 M1∧qB X.K J θ1 H2 t) I ⟨ρ,θ,M,hd,hw,?_⟩) fun v s1 h1=>bL h1 fun itv s2 h2=>?_
 ·cases q:gi ρ M with
  | ok t M1=>exact fun J θ1 H1 g1 hJ=>⟨t,M1,θ1,rfl,g1,hJ⟩
  | err c M1=>unfold ax aP at h;rw[q] at h;exact h
  | bad=>unfold ax aP at h;rw[q] at h;exact h
 obtain⟨it,fp,tn,J,H2,rfl,I2,T,st2,f2,t,M1,θ1,eg,g1,hJ⟩:=h2;unfold ax aP at h;rw[eg] at h;have h:bi X θ H Q (((aw t xs.length sg gc ge t.ds ρ M1).bind mk).bind fun d M2=>.ok (.nx (ρ.set j (some d))) M2):=h;cases q:aw t xs.length sg gc ge t.ds ρ M1 with
 | bad=>rw[q] at h;exact h.elim
 | err c Mx=>exact(dh _ _ q).elim
 | ok es Mend=>
  rw[q] at h;have h:bi X θ H Q ((mk es Mend).bind fun d M2=>.ok (.nx (ρ.set j (some d))) M2):=h;have hE:aH X θ H (fun v H'=>∃θ' M',Go X.K θ H θ' H' M'∧∃d,mk es Mend=.ok d M'∧cn X.K θ' H' d v) (mk es Mend):=by
   cases qm:mk es Mend with
   | ok d M2=>exact fun v θ' H' g' r=>⟨θ',M2,g',d,rfl,r⟩
   | err c M2=>rw[qm] at h;exact h
   | bad=>rw[qm] at h;exact h
  refine gD (RR:=fun acc C=>compPost (model X.prog X.w) X.A X.xe (some (assign (.Name y py) X.env)) (fun _ s'=>SP X ab Q .next s') acc C) S hc I2 T st2 f2 g1.wr (hd.go g1) hJ q (nj hm hE) (fun C=>hts fp s2 H2 C) own (fun C=>hg fp s2 H2 C) (fun C=>he fp s2 H2 C) ?_;intro acc C s' H' θ' vs m IX hnC fC g' na rd;obtain⟨θe,Me,ge',d,ed,rde⟩:=(qu hm X θ' H' _ es Mend vs (aH.go (g1.trans g') hE) g'.wr rd).2 acc na;show wpAny _ X.A (assign (.Name y py) X.env (.ref acc)) _ _ s';refine wpAny_assign_Name (iz IX hN hj (.inl hy) (v:=.ref acc) rfl (fun s3 I3 hxx=>?_) (.inr hy));obtain⟨a,sa,ha⟩:=hxx;have hCa:C≠a:=by
   rcases ha with e|e
   ·rw[e];exact fC.2.1
   ·exact fun z=>fC.2.2.2.2.1 y a e z.symm
  refine⟨m,hnC.sameBut sa hCa,fun h' sb=>?_⟩;have I4:L2.Inv X ab (σ.set j (some (.ref acc))) (bu H' acc (.lst vs)) {s3 with heap:=h',toks:=s3.toks}:=I3.turned (it:=C) (fun b o hb e=>(sb.2 b hb).trans e) fC.1 fC.2.1 fC.2.2.2.1 fC.2.2.2.2.1 fC.2.2.2.2.2;rw[ed] at h;exact⟨_,_,I4,h _ θe _ ge' ((hd.go ge').set rde j)⟩
theorem pz {px:Pos}(hS:bp scope X.env.kindOf [x] R X.N=true)(fp:List Addr)(s:Shared)(H:Hp)(C:Addr):PG (ak X scope [x] R fp s H C) (.Name x px) (tG (ak X scope [x] R fp s H C) (bX 0)):=
 have S:=aS.of hS
 iN (X:=ak X scope [x] R fp s H C) S.nd rfl (.inl (lookup_relabel_local (S.own x (by simp)))) (.inr (lookup_relabel_local (S.own x (by simp))))
theorem pR (mk:List D→am→aE D):cq gi gc ge mk=aP gi 1 (bX 0) gc ge mk:=by
 funext ρ M;unfold cq aP;simp only[jA]
theorem pE {mk:List D→am→aE D}(hS:bp scope X.env.kindOf [x] R X.N=true)(hc:X.calm=true)(hm:mk=aI∨mk=bM)(hi:PI X (.Name x px) iter (tI X gi))(hts:dJ X scope [x] R ifs gc)
  (he:∀fp s H C,PE (ak X scope [x] R fp s H C) elt (tE (ak X scope [x] R fp s H C) ge))
  (hs:∀x,foldedSetIterable iter X.env x=pure x:=by intro _;rfl):PE X (.ListComp elt [⟨.Name x px,iter,ifs,0⟩] scope pos) (tE X (cq gi gc ge mk)):=by
 rw[pR];exact jF (xs:=[x]) hS hc hm hi (oe (Nat.zero_lt_one)) (pz hS) hts he hs
end
section
variable {X:Cx}
def wF:D→Option String
 | .non=>some "NoneType"
 | .bl _=>some "bool"
 | .int _=>some "int"
 | .str _=>some "str"
 | .tup _=>some "tuple"
 | .lst _=>some "list"
 | .ro _=>some "list"
 | _=>none
def pp (d:D)(M:am):Option String:=match d with
 | .mr k=>match M[k]? with
  | some (.lst _)=>some "list"
  | _=>none
 | d=>wF d
def jS (t T:String):Bool:=t==T||(t=="bool"&&T=="int")
def b9 (T:String)(g:GE):GE:=fun ρ M=>(g ρ M).bind fun d M1=>match pp d M1 with
 | some t=>.ok (.bl (jS t T)) M1
 | none=>.bad
def eO (T:String):Prop:=T="int"∨T="bool"∨T="str"∨T="tuple"∨T="list"
theorem bK (K:W.Frag){T:String}(hT:eO T):∀t∈["NoneType","bool","int","str","tuple","list"],W.kitOne K (.type t) (.type T)=some (jS t T):=by
 intro t ht;simp only[mem_cons,mem_nil_iff,or_false] at ht;rcases hT with rfl|rfl|rfl|rfl|rfl <;> rcases ht with rfl|rfl|rfl|rfl|rfl|rfl <;> rfl
theorem sw {T:String}(hT:eO T):bV X (.builtin "isinstance") (fun xs H Q=>∃θ M d v,Wr X.K θ H M∧cn X.K θ H d v∧xs=[v,.ty T]∧aH X θ H Q (match pp d M with|some t=>.ok (.bl (jS t T)) M|none=>.bad)):=by
 intro ab s σ H xs us Q I r h;obtain⟨θ,M,d,v,hw,rv,e,h⟩:=h;subst e;obtain⟨u,c,rfl,ru,rc⟩:=nL r;cases rc;have fin:∀t tk,pp d M=some t→EP X ab σ Q (.bool (jS t T)) {s with toks:=tk}:=fun t tk e=>by
  rw[e] at h;exact⟨.bl _,H,I.tok _,rfl,h _ θ H (.refl hw) rfl⟩
 cases d with
 | non=>have e:v=.non:=rv;subst e;cases ru;exact W.kia_one W.kitx_none I.kIn True.intro (bK X.K hT "NoneType" (by simp)) (fun z=>nomatch z) fun tk=>fin _ tk rfl
 | bl b=>have e:v=.bl b:=rv;subst e;cases ru;exact W.kia_one W.kitx_bool I.kIn True.intro (bK X.K hT "bool" (by simp)) (fun z=>nomatch z) fun tk=>fin _ tk rfl
 | int i=>have e:v=.int i:=rv;subst e;obtain⟨t,rfl⟩:=ru;exact W.kia_one W.kitx_int I.kIn True.intro (bK X.K hT "int" (by simp)) (fun z=>nomatch z) fun tk=>fin _ tk rfl
 | str i=>have e:v=.str i:=rv;subst e;obtain⟨t,rfl⟩:=ru;exact W.kia_one W.kitx_str I.kIn True.intro (bK X.K hT "str" (by simp)) (fun z=>nomatch z) fun tk=>fin _ tk rfl
 | tup ds=>
  obtain⟨a,vs,e,ta,ra⟩:=rv;subst e;cases ru;obtain⟨its,_,⟨o,h1,h2,_⟩,_⟩:=I.tuple ta.sq;exact W.kia_one W.kitx_tuple I.kIn ⟨o,h1,h2⟩ (bK X.K hT "tuple" (by simp)) (fun z=>nomatch z) fun tk=>fin _ tk rfl
 | lst ds=>
  obtain⟨a,vs,e,ta,ra⟩:=rv;subst e;cases ru;obtain⟨its,_,⟨o,n,h1,h2,_⟩,_⟩:=I.list (ta.sq (K:=X.K));exact W.kia_one W.kitx_list I.kIn ⟨o,h1,h2⟩ (bK X.K hT "list" (by simp)) (fun z=>nomatch z) fun tk=>fin _ tk rfl
 | ro ds=>
  obtain⟨a,vs,e,ta,ra⟩:=rv;subst e;cases ru;obtain⟨its,_,⟨o,n,h1,h2,_⟩,_⟩:=I.list ta.sq;exact W.kia_one W.kitx_list I.kIn ⟨o,h1,h2⟩ (bK X.K hT "list" (by simp)) (fun z=>nomatch z) fun tk=>fin _ tk rfl
 | mr k=>
  obtain⟨a,e,ta⟩:=rv;subst e;cases ru;cases qm:M[k]? with
  | none=>simp only[pp,qm] at h;exact h.elim
  | some m=>
   cases m with
   | lst ys=>
    obtain⟨vs,hv,_⟩:=hw.at_ k a _ ta qm;obtain⟨its,_,⟨o,n,h1,h2,_⟩,_⟩:=I.list (X:=X) (xs:=vs) (.inl (.inl hv));exact W.kia_one W.kitx_list I.kIn ⟨o,h1,h2⟩ (bK X.K hT "list" (by simp)) (fun z=>nomatch z) fun tk=>fin _ tk (by simp only[pp,qm])
   | _=>simp only[pp,qm] at h;exact h.elim
 | exc c=>exact h.elim
 | any=>exact h.elim
theorem rY {T:String}{x:Str}{e:Expr}{p p2 pos:Pos}{g:GE}(hT:eO T)(hv:bootBuiltins x=some (.type T))(hg:Gl X x)(hm:X.mg x=none)(hgi:Gl X "isinstance")(hmi:X.mg "isinstance"=none)(he:PE X e (tE X g))
  (hn:x≠"__name__":=by decide) (hd:(x==("__debug__":Str))=false:=by decide) (hbi:bootBuiltins "isinstance"=some (.builtin "isinstance"):=by kernel_rfl) (hs:starEach [e,.Name x p2] X.env=(false,eval e X.env)::starEach [.Name x p2] X.env:=by rfl)
  (hs2:starEach [.Name x p2] X.env=(false,eval (.Name x p2) X.env)::starEach [] X.env:=by rfl) (hpl:(backTo pos (starEach [.Name x p2] X.env)).any (·.1)=false:=by rfl) :
  PE X (.Call (.Name "isinstance" p) [e,.Name x p2] [] pos) (tE X (b9 T g)):=
 (jt (sw hT) hgi hmi hbi (ej he (ej (pr hg hm hv (v:=.ty T) rfl hn hd) iD hs2) hs) (by decide) (by decide) hs hpl).of fun σ H Q hxx=>by
  obtain⟨ρ,θ,M,hd,hw,h⟩:=hxx;refine bQ hd hw (aH X θ H Q) (fun c M' h=>h) (fun h=>h) h fun d M1 v θ1 H1 g1 r1 h1=>?_
  exact⟨θ1,M1,d,v,g1.wr,r1,rfl,aH.go g1 h1⟩
end
section
variable {X:Cx}
theorem pd {a:Expr}{ta:TA}{p pos:Pos}(hg:Gl X "range")(hm:X.mg "range"=none)(ha:PA X [a] ta)(hs:starEach [a] X.env=(false,eval a X.env)::starEach [] X.env:=by rfl)(hpl:(backTo pos (starEach [] X.env)).any (·.1)=false:=by rfl) :
  PE X (.Call (.Name "range" p) [a] [] pos) (fun σ H Q=>ta σ H fun vs H1=>∃j:Int,vs=[.int j]∧∀l,H1 l=none→Q (.ref l) (bu H1 l (.rng 0 j))):=by
 intro ab s σ H Q I h;refine wpAny_Call_Name_kw (dY I hg hm boot_range ?_ (by decide) (by decide));refine PyProof.Rows.callWith_type1 (bL (ha pos ab s σ H _ I h) fun us s1 hxx=>?_) hs hpl;obtain⟨vs,H1,I1,r1,q1⟩:=hxx;obtain⟨j,e,q⟩:=q1;subst e;obtain⟨u,rfl,⟨t,rfl⟩⟩:=im r1;refine call_range_1 ⟨.ref s1.heap.objs.size,_,I1.laid (o:=.rng 0 j) (fun b o e=>Heap.get?_push_of_some _ e) (Nat.le_refl _) ⟨_,_,_,Heap.get?_push_size _ rfl⟩,rfl,q _ (I1.hok.fresh (Nat.le_refl _))⟩
def mf (k:Nat)(x:D)(M:am):aE D:=match M[k]? with
 | some (.lst xs)=>if xs.length<sizeLine then .ok .non (M.set k (.lst (xs++[x]))) else .bad
 | _=>.bad
def gR (go ge:GE):GE:=fun ρ M=>(go ρ M).bind fun o M1=>match o with
 | .mr k=>match M1[k]? with
  | some (.lst _)=>(ge ρ M1).bind (mf k)
  | _=>.bad
 | _=>.bad
theorem lI {o e:Expr}{go ge:GE}{apos cpos:Pos}(ho:PE X o (tE X go))(he:PE X e (tE X ge))
  (hbase:attributeBase o "append" X.env (eval o X.env)=eval o X.env:=by rfl)
  (hfew:((backTo cpos (starEach [e] X.env)).all (fun x=>!x.1)&&(backToKw cpos (keywordEach [] X.env)).all (fun x=>x.1.isSome)
   && decide ([e].length+([]:List Keyword).length+(if([]:List Keyword).isEmpty then 0 else 1)<30))=true:=by rfl)
  (hline:(apos.endLine==cpos.line)=true:=by rfl) (hs:starEach [e] X.env=(false,eval e X.env)::starEach [] X.env:=by rfl) (hplain:(backTo cpos (starEach [] X.env)).any (·.1)=false:=by rfl) :
  PE X (.Call (.Attribute o "append" apos) [e] [] cpos) (tE X (gR go ge)):=
 (uO PySem.F.plainAttrs_list PySem.F.slot_list_append PySem.F.type_list_append lB ho (ej he iD hs) hbase hfew hline hs hplain).of fun σ H Q hxx=>by
  obtain⟨ρ,θ,M,hd,hw,h⟩:=hxx;refine bQ hd hw (aH X θ H Q) (fun c M' h=>h) (fun h=>h) h fun d M1 v θ1 H1 g1 r1 h1=>?_
  have h2:=aH.go g1 h1;cases d with
  | mr k=>
   have h2:aH X θ1 H1 Q (match M1[k]? with|some (.lst _)=>(ge ρ M1).bind (mf k)|_=>.bad):=h2;cases qm1:M1[k]? with
   | none=>rw[qm1] at h2;exact h2.elim
   | some m1=>
    cases m1 with
    | obj _ _=>rw[qm1] at h2;exact h2.elim
    | dK _=>rw[qm1] at h2;exact h2.elim
    | dT _=>rw[qm1] at h2;exact h2.elim
    | lst ys1=>
     rw[qm1] at h2;obtain⟨a1,ea1,ta1⟩:=id r1;obtain⟨vs1,hv1,_⟩:=g1.wr.at_ k a1 _ ta1 qm1;refine⟨by rw[ea1];exact .inl ⟨rfl,vs1,.inl (.inl hv1)⟩,?_⟩;refine bQ (hd.go g1) g1.wr (aH X θ1 H1 Q) (fun c M' h=>h) (fun h=>h) h2 fun dx M2 vx θ2 H2 g2 r2 h3=>?_
     have h3:aH X θ1 H1 Q (match M2[k]? with|some (.lst xs)=>if xs.length<sizeLine then .ok .non (M2.set k (.lst (xs++[dx]))) else .bad|_=>.bad):=h3;obtain⟨a,ea,ta⟩:=r1.go g2;cases qm:M2[k]? with
     | none=>rw[qm] at h3;exact h3.elim
     | some m=>
      cases m with
      | obj _ _=>rw[qm] at h3;exact h3.elim
      | dK _=>rw[qm] at h3;exact h3.elim
      | dT _=>rw[qm] at h3;exact h3.elim
      | lst ys=>
       rw[qm] at h3;obtain⟨vs,hv,ra⟩:=g2.wr.at_ k a _ ta qm;have h3:aH X θ1 H1 Q (if ys.length<sizeLine then .ok .non (M2.set k (.lst (ys++[dx]))) else .bad):=h3;split at h3
       ·rename_i hl;have gs:=mM (ds:=ys) g2.wr ta (bJ ra (show aF X.K θ2 H2 [dx] [vx] from⟨vx,[],rfl,r2,rfl⟩));exact⟨a,vs,vx,ea,rfl,hv,by rw[←ai ra];exact hl,h3 _ θ2 _ (g2.trans gs) rfl⟩
       ·exact h3.elim
  | _=>exact h2.elim
end
def aD (f:D→Option D):List D→Option (List D)
 | []=>some []
 | d::ds=>match f d,aD f ds with
  | some x,some xs=>some (x::xs)
  | _,_=>none
def frz (n:Nat)(M:am):Nat→D→Option D
 | 0,_=>none
 | f+1,d=>match d with
  | .mr k=>if k<n then some (.mr k) else match M[k]? with
   | some (.lst xs)=>(aD (frz n M f) xs).map .lst
   | _=>none
  | .tup xs=>(aD (frz n M f) xs).map .tup
  | .lst xs=>(aD (frz n M f) xs).map .lst
  | .ro xs=>(aD (frz n M f) xs).map .ro
  | d=>some d
def ja (f:D→Option D):List (Str×D)→Option (List (Str×D))
 | []=>some []
 | (x,d)::r=>match f d,ja f r with
  | some e,some r'=>some ((x,e)::r')
  | _,_=>none
def gW {κ:Type}(f:D→Option D):List (κ×D)→Option (List (κ×D))
 | []=>some []
 | (x,d)::r=>match f d,gW f r with
  | some e,some r'=>some ((x,e)::r')
  | _,_=>none
def cz (n:Nat)(M:am):List MO→Option (List MO)
 | []=>some []
 | .lst xs::r=>match aD (frz n M 30) xs,cz n M r with
  | some ys,some r'=>some (.lst ys::r')
  | _,_=>none
 | .obj c fs::r=>match ja (frz n M 30) fs,cz n M r with
  | some gs,some r'=>some (.obj c gs::r')
  | _,_=>none
 | .dK fs::r=>match gW (frz n M 30) fs,cz n M r with
  | some gs,some r'=>some (.dK gs::r')
  | _,_=>none
 | .dT fs::r=>match gW (frz n M 30) fs,cz n M r with
  | some gs,some r'=>some (.dT gs::r')
  | _,_=>none
def ma (n:Nat)(o:aE D):aE D:=match o with
 | .ok d M=>if M.length=n then .ok d M else match frz n M 30 d,cz n M (M.take n) with
  | some d',some M'=>.ok d' M'
  | _,_=>.bad
 | .err c M=>if M.length=n then .err c M else match cz n M (M.take n) with
  | some M'=>.err c M'
  | none=>.bad
 | .bad=>.bad
section
variable {K:W.Frag}{θ more:List Addr}{H:Hp}{M:am}{n:Nat}
theorem cC {f:D→Option D}{θ':List Addr}:∀{ds es:List D} {vs:List V},aD f ds=some es→aF K θ' H ds vs→(∀d∈ds,∀e v,f d=some e→cn K θ' H d v→cn K θ H e v)→aF K θ H es vs
 | [],es,vs,h,r,k=>by cases h;exact r
 | d::ds,es,vs,h,r,k=>by
  obtain⟨v,rr,e,h1,h2⟩:=r;unfold aD at h;cases q1:f d with
  | none=>rw[q1] at h;cases h
  | some x=>
   cases q2:aD f ds with
   | none=>rw[q1,q2] at h;cases h
   | some xs=>
    rw[q1,q2] at h;cases h;exact⟨v,rr,e,k d mem_cons_self x v q1 h1,cC q2 h2 fun d' hd=>k d' (mem_cons_of_mem _ hd)⟩
theorem fv (hw:Wr K (θ++more) H M)(hn:θ.length=n):∀(f:Nat) (d e:D) (v:V),frz n M f d=some e→cn K (θ++more) H d v→cn K θ H e v
 | 0,d,e,v,h,r=>by cases h
 | f+1,d,e,v,h,r=>by
  have ih:=fv hw hn f;have sub:∀{a:Addr},a∉θ++more→a∉θ:=fun {a} z y=>z (mem_append_left _ y)
  cases d with
  | mr k=>
   obtain⟨a,ea,ta⟩:=r
   by_cases hk:k<n
   ·have h:(if k<n then some (D.mr k) else _)=some e:=h;rw[if_pos hk] at h;cases h;exact⟨a,ea,by rw[getElem?_append_left (by rw[hn];exact hk)] at ta;exact ta⟩
   ·have h:(if k<n then some (D.mr k) else match M[k]? with|some (.lst xs)=>(aD (frz n M f) xs).map .lst|_=>none)=some e:=h;rw[if_neg hk] at h;cases qm:M[k]? with
    | none=>rw[qm] at h;cases h
    | some m=>
     cases m with
     | lst xs=>
      rw[qm] at h;have h:(aD (frz n M f) xs).map D.lst=some e:=h;obtain⟨vs,hv,ra⟩:=hw.at_ k a _ ta qm;cases qo:aD (frz n M f) xs with
      | none=>rw[qo] at h;cases h
      | some ys=>
       rw[qo] at h;cases h;refine⟨a,vs,ea,⟨hv,fun z=>?_⟩,cC qo ra fun d _ e v=>ih d e v⟩;rw[getElem?_append_right (by omega)] at ta;have hm:=mem_of_getElem? ta;exact(nodup_append.mp hw.nd).2.2 a z a hm rfl
     | _=>rw[qm] at h;cases h
  | tup xs=>
   have h:(aD (frz n M f) xs).map D.tup=some e:=h;cases qo:aD (frz n M f) xs with
   | none=>rw[qo] at h;cases h
   | some ys=>
    rw[qo] at h;cases h;obtain⟨a,vs,ea,ta,ra⟩:=r;exact⟨a,vs,ea,⟨ta.1,sub ta.2⟩,cC qo ra fun d _ e v=>ih d e v⟩
  | lst xs=>
   have h:(aD (frz n M f) xs).map D.lst=some e:=h;cases qo:aD (frz n M f) xs with
   | none=>rw[qo] at h;cases h
   | some ys=>
    rw[qo] at h;cases h;obtain⟨a,vs,ea,ta,ra⟩:=r;exact⟨a,vs,ea,⟨ta.1,sub ta.2⟩,cC qo ra fun d _ e v=>ih d e v⟩
  | ro xs=>
   have h:(aD (frz n M f) xs).map D.ro=some e:=h;cases qo:aD (frz n M f) xs with
   | none=>rw[qo] at h;cases h
   | some ys=>
    rw[qo] at h;cases h;obtain⟨a,vs,ea,ta,ra⟩:=r;refine⟨a,vs,ea,?_,cC qo ra fun d _ e v=>ih d e v⟩;rcases ta with⟨t1,t2⟩|t
    ·exact .inl ⟨t1,sub t2⟩
    ·exact .inr t
  | non=>cases h;exact r
  | bl b=>cases h;exact r
  | int b=>cases h;exact r
  | str b=>cases h;exact r
  | exc c=>
   cases h;obtain⟨a,C,ea,kc,t1,t2⟩:=r;exact⟨a,C,ea,kc,t1,sub t2⟩
  | any=>cases h;exact r
theorem kL {f:D→Option D}{θ':List Addr}:∀{fs gs:List (Str×D)} {vs:List (Str×V)},ja f fs=some gs→la K θ' H fs vs→(∀d e v,f d=some e→cn K θ' H d v→cn K θ H e v)→la K θ H gs vs
 | [],gs,vs,h,r,k=>by cases h;exact r
 | (x,d)::fs,gs,vs,h,r,k=>by
  obtain⟨v,rr,e,h1,h2⟩:=r;unfold ja at h;cases q1:f d with
  | none=>rw[q1] at h;cases h
  | some y=>
   cases q2:ja f fs with
   | none=>rw[q1,q2] at h;cases h
   | some ys=>
    rw[q1,q2] at h;cases h;exact⟨v,rr,e,k d y v q1 h1,kL q2 h2 k⟩
theorem iJ {κ:Type}{f:D→Option D}{θ':List Addr}:∀{fs gs:List (κ×D)} {vs:List (κ×V)},gW f fs=some gs→kd K θ' H fs vs→(∀d e v,f d=some e→cn K θ' H d v→cn K θ H e v)→kd K θ H gs vs
 | [],gs,vs,h,r,k=>by cases h;exact r
 | (x,d)::fs,gs,vs,h,r,k=>by
  obtain⟨v,rr,e,h1,h2⟩:=r;unfold gW at h;cases q1:f d with
  | none=>rw[q1] at h;cases h
  | some y=>
   cases q2:gW f fs with
   | none=>rw[q1,q2] at h;cases h
   | some ys=>
    rw[q1,q2] at h;cases h;exact⟨v,rr,e,k d y v q1 h1,iJ q2 h2 k⟩
theorem eh (hw:Wr K (θ++more) H M)(hn:θ.length=n):∀(l l':List MO),cz n M l=some l'→l'.length=l.length∧∀(i:Nat) m m' a,l[i]?=some m→l'[i]?=some m'→g5 K (θ++more) H m a→g5 K θ H m' a
 | [],l',h=>by cases h;exact⟨rfl,fun i m m' a e=>by simp at e⟩
 | .lst xs::r,l',h=>by
  unfold cz at h;cases q1:aD (frz n M 30) xs with
  | none=>rw[q1] at h;cases h
  | some ys=>
   cases q2:cz n M r with
   | none=>rw[q1,q2] at h;cases h
   | some r'=>
    rw[q1,q2] at h;cases h;obtain⟨hl,hr⟩:=eh hw hn r r' q2;refine⟨by rw[length_cons,length_cons,hl],fun i m m' a e1 e2 ok=>?_⟩;cases i with
    | zero=>
     have e1:some (MO.lst xs)=some m:=e1;have e2:some (MO.lst ys)=some m':=e2;cases e1;cases e2;obtain⟨vs,hv,ra⟩:=ok;exact⟨vs,hv,cC q1 ra fun d _ e v=>fv hw hn 30 d e v⟩
    | succ i=>exact hr i m m' a e1 e2 ok
 | .obj c fs::r,l',h=>by
  unfold cz at h;cases q1:ja (frz n M 30) fs with
  | none=>rw[q1] at h;cases h
  | some gs=>
   cases q2:cz n M r with
   | none=>rw[q1,q2] at h;cases h
   | some r'=>
    rw[q1,q2] at h;cases h;obtain⟨hl,hr⟩:=eh hw hn r r' q2;refine⟨by rw[length_cons,length_cons,hl],fun i m m' a e1 e2 ok=>?_⟩;cases i with
    | zero=>
     have e1:some (MO.obj c fs)=some m:=e1;have e2:some (MO.obj c gs)=some m':=e2;cases e1;cases e2;obtain⟨C,dx,vs,kC,hv,ra⟩:=ok;exact⟨C,dx,vs,kC,hv,kL q1 ra fun d e v=>fv hw hn 30 d e v⟩
    | succ i=>exact hr i m m' a e1 e2 ok
 | .dK fs::r,l',h=>by
  unfold cz at h;cases q1:gW (frz n M 30) fs with
  | none=>rw[q1] at h;cases h
  | some gs=>
   cases q2:cz n M r with
   | none=>rw[q1,q2] at h;cases h
   | some r'=>
    rw[q1,q2] at h;cases h;obtain⟨hl,hr⟩:=eh hw hn r r' q2;refine⟨by rw[length_cons,length_cons,hl],fun i m m' a e1 e2 ok=>?_⟩;cases i with
    | zero=>
     have e1:some (MO.dK fs)=some m:=e1;have e2:some (MO.dK gs)=some m':=e2;cases e1;cases e2;obtain⟨vs,hv,ra⟩:=ok;exact⟨vs,hv,iJ q1 ra fun d e v=>fv hw hn 30 d e v⟩
    | succ i=>exact hr i m m' a e1 e2 ok
 | .dT fs::r,l',h=>by
  unfold cz at h;cases q1:gW (frz n M 30) fs with
  | none=>rw[q1] at h;cases h
  | some gs=>
   cases q2:cz n M r with
   | none=>rw[q1,q2] at h;cases h
   | some r'=>
    rw[q1,q2] at h;cases h;obtain⟨hl,hr⟩:=eh hw hn r r' q2;refine⟨by rw[length_cons,length_cons,hl],fun i m m' a e1 e2 ok=>?_⟩;cases i with
    | zero=>
     have e1:some (MO.dT fs)=some m:=e1;have e2:some (MO.dT gs)=some m':=e2;cases e1;cases e2;obtain⟨vs,hv,ra⟩:=ok;exact⟨vs,hv,iJ q1 ra fun d e v=>fv hw hn 30 d e v⟩
    | succ i=>exact hr i m m' a e1 e2 ok
theorem nv {θ0:List Addr}{H0:Hp}{θ':List Addr}{H':Hp}{M' M2:am}{n:Nat}(hn:θ0.length=n)(g:Go K θ0 H0 θ' H' M')(h:cz n M' (M'.take n)=some M2):Go K θ0 H0 θ0 H' M2:=by
 obtain⟨m,em,hm⟩:=g.ext;have hw:=g.wr;rw[em] at hw;obtain⟨hl,hr⟩:=eh hw hn _ _ h;have hlen:n≤M'.length:=by rw[←g.wr.len,em,length_append];omega
 refine⟨⟨⟨[],by simp,fun _ z=>by cases z⟩,g.keep,g.tkeep⟩,by rw[hl,length_take];omega,(nodup_append.mp hw.nd).1,fun i a mo e1 e2=>?_,g.wr.tb⟩;have hi:i<n:=by rw[←hn];exact(List.getElem?_eq_some_iff.mp e1).1
 have hiM:i<M'.length:=by omega
 refine hr i M'[i] mo a (by rw[getElem?_take_of_lt hi];exact getElem?_eq_getElem hiM) e2 (hw.at_ i a _ ?_ (getElem?_eq_getElem hiM));rw[getElem?_append_left (by rw[hn];exact hi)];exact e1
end
theorem sW {P:Program}{w:World}{K:W.Frag}{mg:Str→Option Value}{base:Heap}{k n:Nat}{f:Addr}{fd:FuncData}{ps:List Str}{F:FD}{CX:mn}(h:cQ P w K mg base CX k f fd ps (jB K n F)) :
  cQ P w K mg base CX k f fd ps (jB K n fun ds M=>ma M.length (F ds M)):=h.imp fun vs H Q E hxx=>by
 obtain⟨θ,M,ds,hl,r,hw,q⟩:=hxx;refine⟨θ,M,ds,hl,r,hw,?_⟩;have q:lR K θ H Q E (ma M.length (F ds M)):=q;cases e:F ds M with
 | bad=>rw[e] at q;exact q
 | err c M1=>
  rw[e] at q;have q:lR K θ H Q E (if M1.length=M.length then .err c M1 else match cz M.length M1 (M1.take M.length) with|some M'=>.err c M'|none=>.bad):=q;split at q
  ·exact q
  ·split at q
   ·rename_i M2 e2;exact fun C θ' H' a kC g=>q C θ H' a kC (nv hw.len g e2)
   ·exact q.elim
 | ok d M1=>
  rw[e] at q;have q:lR K θ H Q E (if M1.length=M.length then .ok d M1 else match frz M.length M1 30 d,cz M.length M1 (M1.take M.length) with|some d',some M'=>.ok d' M'|_,_=>.bad):=q;split at q
  ·exact q
  ·split at q
   ·rename_i d' M2 e1 e2;intro v θ' H' g rd;refine q v θ H' (nv hw.len g e2) ?_;obtain⟨m,em,_⟩:=g.ext;have hw':=g.wr;rw[em] at hw' rd;exact fv hw' hw.len 30 d d' v e1 rd
   ·exact q.elim
structure Fn (K:W.Frag)(mg:Str→Option Value)(x:Str)(st:Stmt)(f:Addr)(fd:FuncData)(ps:List Str):Prop where
 F:oJ K x x st f fd
 m:mg x=some (.ref f)
 b:dB K fd ps []
section
variable {X:Cx}
theorem vv (i:Nat){x:Str}{pos:Pos}(hN:X.N[i]?=some x:=by rfl)(hv:vI X.env.scope x:=by first|exact Or.inl rfl|exact Or.inr (Or.inl rfl)|exact Or.inr (Or.inr rfl))(hd:(x==("__debug__":Str))=false:=by decide)
  (hcd:(x==("__classdict__":Str))=false:=by decide):PE X (.Name x pos) (tE X (ae i)):=tZ (sP hN hv hd hcd)
theorem ss (i:Nat){x:Str}{pos pos':Pos}{e:Expr}{g:GE}(hN:X.N.Nodup)(he:PE X e (tE X g))(hi:X.N[i]?=some x:=by rfl)(hx:n8 X.env.scope x:=by first|exact Or.inl rfl|exact Or.inr rfl)
  (hs:swapsWith e (some (.Name x pos')) pos.line X.env=pure false:=by rfl) (hf:X.fn x=true∨X.env.scope.names.lookup x=some .local:=by first|exact .inl rfl|exact .inr rfl) :
  PS X (.Assign [.Name x pos'] e pos) (tS X (ax i g)):=tX hN hi hx he hs hf
theorem gg (i:Nat){x:Str}{pos:Pos}(hN:X.N.Nodup)(hi:X.N[i]?=some x:=by rfl)(hx:n8 X.env.scope x:=by first|exact Or.inl rfl|exact Or.inr rfl)(hf:X.fn x=true∨X.env.scope.names.lookup x=some .local:=by first|exact .inl rfl|exact .inr rfl):PG X (.Name x pos) (tG X (bX i)):=iN hN hi hx hf
end
theorem s9 {K:W.Frag}{F:FD}{H:Hp}{a:Addr}{ns:List Int}(tb:dZ K H)(hS:fA K H a (ns.map V.int))(h:∃M',F [.ro (ns.map D.int)] []=.ok (.bl true) M'){E:XK}:jB K 1 F [.ref a] H (fun v _=>v=.bl true) E:=by
 obtain⟨M',e⟩:=h;refine⟨[],[],[.ro (ns.map D.int)],rfl,⟨_,[],rfl,⟨a,ns.map V.int,rfl,?_,?_⟩,rfl⟩,⟨rfl,nodup_nil,fun i a m e=>by simp at e,tb⟩,?_⟩
 ·rcases hS with h|h
  ·exact .inl ⟨h,by simp⟩
  ·exact .inr h
 ·clear e
  induction ns with
  | nil=>exact rfl
  | cons n ns ih=>
   refine⟨.int n,ns.map V.int,rfl,rfl,?_⟩;have gen:∀l:List Int,aF K [] H (l.map D.int) (l.map V.int):=by
    intro l
    induction l with
    | nil=>exact rfl
    | cons m l ih=>exact⟨_,_,rfl,rfl,ih⟩
   exact gen ns
 ·rw[e];exact fun v θ' H' g r=>r
def aQ:Expr→Bool
 | .Starred _ _=>false
 | _=>true
def b8 (es:List Expr):Bool:=es.all aQ
theorem sE {e:Expr}{es:List Expr}{env:Env}(h:aQ e=true):starEach (e::es) env=(false,eval e env)::starEach es env:=by
 cases e <;> first|rfl|(simp[aQ] at h)
theorem sS {pos:Pos}{env:Env}:∀{es:List Expr},b8 es=true→(backTo pos (starEach es env)).any (·.1)=false
 | [],_=>rfl
 | e::es,h=>by
  unfold b8 at h;rw[all_cons,Bool.and_eq_true] at h;have ih:=sS (pos:=pos) (env:=env) (es:=es) h.2;rw[sE h.1];unfold backTo at ih ⊢;rw[map_cons,any_cons,ih];rfl
section
variable {X:Cx}{e:Expr}{es:List Expr}{x:Str}{p pos:Pos}{k n:Nat}{f:Addr}{fd:FuncData}{ps:List Str}{F:FD}{ga:GA}{g:GE}{tg:Expr}
theorem wK {gr:GA}(ha:PE X e (tE X g))(hr:PA X es (tA X gr))(h:aQ e=true:=by rfl):PA X (e::es) (tA X (aa g gr)):=pZ ha hr (sE h)
theorem u4 (Fn:cQ X.prog X.w X.K X.mg X.base (dU X.prog X.w) k f fd ps (jB X.K n F))(hr:bf k X.A)(hg:Gl X x)(hm:X.mg x=some (.ref f))(hk:W.keepIn X.K (.ref f)=true)(hb:dB X.K fd ps [])
  (ha:PA X (e::es) (tA X ga)) (hdb:(x==("__debug__":Str))=false:=by decide) (h1:aQ e=true:=by rfl) (h2:b8 es=true:=by rfl) :
  PE X (.Call (.Name x p) (e::es) [] pos) (tE X (ao n F ga)):=oq Fn hr hg hm hk hb ha hdb (sE h1) (sS h2)
theorem uo {id:String}(hc:bV X (.builtin id) (rC X F))(hg:Gl X x)(hm:X.mg x=none)(hv:bootBuiltins x=some (.builtin id))(ha:PA X (e::es) (tA X ga))(hn:x≠"__name__":=by decide)(hdb:(x==("__debug__":Str))=false:=by decide)
  (h1:aQ e=true:=by rfl) (h2:b8 es=true:=by rfl):PE X (.Call (.Name x p) (e::es) [] pos) (tE X (ay F ga)):=mq hc hg hm hv ha hn hdb (sE h1) (sS h2)
theorem vO {T:String}(hc:bV X (.type T) (rC X F))(hg:Gl X x)(hm:X.mg x=none)(hv:bootBuiltins x=some (.type T))(ha:PA X (e::es) (tA X ga))(hn:x≠"__name__":=by decide)(hdb:(x==("__debug__":Str))=false:=by decide)
  (h1:aQ e=true:=by rfl) (h2:b8 es=true:=by rfl):PE X (.Call (.Name x p) (e::es) [] pos) (tE X (ay F ga)):=lw hc hg hm hv ha hn hdb (sE h1) (sS h2)
theorem uT {T:String}{p2:Pos}(hT:eO T)(hv:bootBuiltins x=some (.type T))(hg:Gl X x)(hm:X.mg x=none)(hgi:Gl X "isinstance")(hmi:X.mg "isinstance"=none)(he:PE X e (tE X g))
  (h1:aQ e=true:=by rfl) (hn:x≠"__name__":=by decide) (hd:(x==("__debug__":Str))=false:=by decide):PE X (.Call (.Name "isinstance" p) [e,.Name x p2] [] pos) (tE X (b9 T g)):=
 rY hT hv hg hm hgi hmi he hn hd boot_isinstance (sE h1) (sE rfl) (sS rfl)
theorem wg {a:Expr}(hg:Gl X "range")(hm:X.mg "range"=none)(ha:PA X [a] (tA X ga))(h1:aQ a=true:=by rfl):PI X tg (.Call (.Name "range" p) [a] [] pos) (tI X (cD ga)):=l0 hg hm ha (sE h1)
end
end DL
namespace DL
open PySem L2
theorem ox {j:Int}(h:-(2 ^ 62)≤j∧j<2 ^ 62)(M:am):mw [.int j] M=.ok ⟨aG 0 j.toNat,none⟩ M:=by
 unfold mw;exact if_pos h
theorem nn {n:Nat}(h:n≤1000000)(M:am):mw [.int (n:Int)] M=.ok ⟨aG 0 n,none⟩ M:=by
 have:=ox (j:=(n:Int)) (by omega) M;rw[this];rfl
theorem kh {ds:List D}{M:am}:gn.ok ⟨ds,none⟩ M=true:=rfl
theorem gX (lo:Int)(n:Nat):(aG lo n).length=n:=by simp[aG]
theorem cY {n:Nat}(h:n≤1000000):n≤sizeLine:=Nat.le_trans h (by rw[sizeLine_eq];decide)
end DL
namespace DL
@[simp] theorem xQ (i j:Int):kD (.int i) (.int j)=(i==j):=rfl
@[simp] theorem xN (i j:Bool):kD (.bl i) (.bl j)=(i==j):=rfl
@[simp] theorem xW (i j:PySem.Str):kD (.str i) (.str j)=(i==j):=rfl
@[simp] theorem xU:kD .non .non=true:=rfl
@[simp] theorem xX (i:Int):kD (.int i) .non=false:=rfl
@[simp] theorem xi (i:Int):kD .non (.int i)=false:=rfl
@[simp] theorem xp (xs ys:List D):kD (.tup xs) (.tup ys)=dz xs ys:=rfl
@[simp] theorem xD (xs ys:List D):kD (.lst xs) (.lst ys)=dz xs ys:=rfl
@[simp] theorem wk:dz [] []=true:=rfl
@[simp] theorem wC (y:D) (ys:List D):dz [] (y::ys)=false:=rfl
@[simp] theorem wv (y:D) (ys:List D):dz (y::ys) []=false:=rfl
@[simp] theorem wI (x y:D) (xs ys:List D):dz (x::xs) (y::ys)=(kD x y&&dz xs ys):=rfl
@[simp] theorem ua (n:Nat) (i:Int):bE n (.int i)=true:=by cases n <;> rfl
@[simp] theorem vf (n:Nat) (i:Bool):bE n (.bl i)=true:=by cases n <;> rfl
@[simp] theorem uf (n:Nat):bE n .non=true:=by cases n <;> rfl
@[simp] theorem ue (n:Nat) (x:PySem.Str):bE n (.str x)=PySem.PyData.strOk x:=by cases n <;> rfl
@[simp] theorem lJ (n:Nat) (xs:List D):bE (n+1) (.tup xs)=aR n xs:=rfl
@[simp] theorem lY (n:Nat) (xs:List D):bE (n+1) (.lst xs)=aR n xs:=rfl
@[simp] theorem p9 (xs:List D):bE 40 (.tup xs)=aR 39 xs:=lJ 39 xs
@[simp] theorem qf (xs:List D):bE 40 (.lst xs)=aR 39 xs:=lY 39 xs
@[simp] theorem tN (n:Nat):aR n []=true:=by cases n <;> rfl
@[simp] theorem qA (n:Nat) (x:D) (xs:List D):aR n (x::xs)=(bE n x&&aR n xs):=by cases n <;> rfl
@[simp] theorem wH (i:Int) (M:am):now (.int i) M=.int i:=rfl
@[simp] theorem xK (i:Bool) (M:am):now (.bl i) M=.bl i:=rfl
@[simp] theorem wt (M:am):now .non M=.non:=rfl
@[simp] theorem wA (x:PySem.Str) (M:am):now (.str x) M=.str x:=rfl
@[simp] theorem wy (xs:List D) (M:am):now (.tup xs) M=.tup xs:=rfl
@[simp] theorem wz (xs:List D) (M:am):now (.lst xs) M=.lst xs:=rfl
end DL
namespace DL
open PySem PySem.Spec PyProof.Rows L2 PySem.W PySem.Builtin PySem.Builtin.ObjectAttr PySem.Builtin.Getset_descriptor List
structure xb (K:Frag)(C:Addr):Prop where
 cl:(clsIn K C).isSome=true
 ca:findIn K (.ref C) "__class__"=some (some (.builtin "object.__class__"))
 sp:specialIn K (.builtin "object.__class__") "__get__"=some (some (.builtin "getset_descriptor.__get__"))
 tk:takesIn K (.builtin "object.__class__")=some true
 ob:mroIn K C (.type "object")=some true
 ga:findIn K (.ref C) "__getattribute__"=some (some (.builtin "BaseException.__getattribute__"))
 gh:findIn K (.ref C) "__getattr__"=some none
 be:mroIn K C (.type "BaseException")=some true
end DL
namespace DL
open PySem PySem.Spec PyProof.Rows L2 List
abbrev xa:List Value:=[.type "ValueError",.type "Exception",.type "BaseException",.type "object"]
structure Ec (K:W.Frag)(mg:Str→Option Value)(c:Str)(C:Addr):Prop where
 at_:gk K c C
 m:mg c=some (.ref C)
 k:xb K C
 ex:W.excIn K C xa "ValueError.__new__"=true
 ty:W.typeIn K (.ref C)=some (.type "type")
 sf:W.mroIn K C (.ref C)=some true
def n6 (i:Nat):Fl→Fl
 | .nx ρ=>.nx (ρ.set i none)
 | .bk ρ=>.bk (ρ.set i none)
 | .ct ρ=>.ct (ρ.set i none)
 | .rt d=>.rt d
section
variable {X:Cx}
section
variable {o e:Expr}{go ge:GE}{apos cpos:Pos}
theorem sO {env:Env}(h:aQ e=true):((backTo cpos (starEach [e] env)).all (fun x=>!x.1)&&(backToKw cpos (keywordEach [] env)).all (fun x=>x.1.isSome)
   && decide ([e].length+([]:List Keyword).length+(if([]:List Keyword).isEmpty then 0 else 1)<30))=true:=by
 rw[sE h];rfl
end
end
end DL
namespace DL
open PySem L2
theorem vd {P:Program}{w:World}{H:Hp}{s:Shared}{e:Value}{s':Shared}(z:dU P w [] H s (fun _ _ _=>False) e s'):False:=by
 obtain⟨_,_,_,_,_,_,_,_,_,_,_,_,_,_,h⟩:=z;exact h
end DL
namespace DL
open PySem PySem.Spec PyProof.Rows L2 List
structure Kc (K:W.Frag)(mg:Str→Option Value)(c:Str)(C:Addr):Prop where
 at_:gk K c C
 m:mg c=some (.ref C)
 cl:yf K C
end DL
namespace DL
open PySem PySem.Spec PyProof.Rows L2 List
section
variable {prog:Program}{w:World}{A:Around}{E:Value→Shared→Prop}{s:Shared}
theorem j7 {I a:Addr}{k:Nat}{its:Array Value}{x:Value}{Q:Value→Shared→Prop}(st:s.heap.IsTupleIter I a k)(ta:s.heap.IsTuple a its)(hx:its[k]?=some x)
  (q:∀h',h'.IsTupleIter I a (k+1)→Heap.SameBut I s.heap h'→Q x {s with heap:=h'}):wpAny (model prog w) A (Builtin.SmallTypes.nextOf (.ref I)) Q E s:=by
 obtain⟨u,hu,uc,ud⟩:=id st;obtain⟨oa,hoa,_,na,da⟩:=ta;unfold Builtin.SmallTypes.nextOf;refine wpAny_bind (wpAny_callSpecial?_slot (name:=Str.ofString "__next__") st.typeIs F.slot_tuple_iterator_next (wpAny_call_entry F.slot_tuple_iterator_next st.typeIs F.entry_tuple_iterator_next ?_ (F.args_tuple_iterator_next_1 _)));show wpAny _ _ (field (.ref I) 0 >>= _) _ _ s;refine wpAny_bind (wpAny_field hu ud (x:=.ref a) rfl ?_);show wpAny _ _ (if(Value.ref a==Value.none)=true then _ else _) _ _ s;rw[if_neg (show¬((Value.ref a==Value.none)=true) from Bool.false_ne_true)];show wpAny _ _ (field (.ref I) 1 >>= _) _ _ s;refine wpAny_bind (wpAny_field hu ud (x:=.int k 0) rfl ?_);show wpAny _ _ (seqItems? (.ref a) >>= _) _ _ s;refine wpAny_bind (wpAny_seqItems hoa da ?_);simp only[Int.toNat_natCast,hx];refine wpAny_bind (wpAny_setField hu ud (by simp) (wpAny_pure ⟨x,rfl,wpAny_pure (q _ ?_ (Heap.SameBut.update ..))⟩));exact⟨_,Heap.get?_update_self _ hu (Obj.isFreed_of_fields (Obj.data_mapFields ud _)),(Obj.cls_mapFields ..).trans uc,by rw[Obj.data_mapFields ud];simp[rawInt]⟩
theorem dD {I a:Addr}{k:Nat}{its:Array Value}{Q:Value→Shared→Prop}(hh:A.handled=none)(st:s.heap.IsTupleIter I a k)(ta:s.heap.IsTuple a its)(hx:its[k]?=none)
  (q:∀h' e,Heap.ExtBut I s.heap h'→(∃o,h'.get? e=some o∧o.cls=.type "StopIteration")→E (.ref e) {s with heap:=h'}):wpAny (model prog w) A (Builtin.SmallTypes.nextOf (.ref I)) Q E s:=by
 obtain⟨u,hu,uc,ud⟩:=id st;obtain⟨oa,hoa,_,na,da⟩:=ta;unfold Builtin.SmallTypes.nextOf;refine wpAny_bind (wpAny_callSpecial?_slot (name:=Str.ofString "__next__") st.typeIs F.slot_tuple_iterator_next (wpAny_call_entry F.slot_tuple_iterator_next st.typeIs F.entry_tuple_iterator_next ?_ (F.args_tuple_iterator_next_1 _)));show wpAny _ _ (field (.ref I) 0 >>= _) _ _ s;refine wpAny_bind (wpAny_field hu ud (x:=.ref a) rfl ?_);show wpAny _ _ (if(Value.ref a==Value.none)=true then _ else _) _ _ s;rw[if_neg (show¬((Value.ref a==Value.none)=true) from Bool.false_ne_true)];show wpAny _ _ (field (.ref I) 1 >>= _) _ _ s;refine wpAny_bind (wpAny_field hu ud (x:=.int k 0) rfl ?_);show wpAny _ _ (seqItems? (.ref a) >>= _) _ _ s;refine wpAny_bind (wpAny_seqItems hoa da ?_);simp only[Int.toNat_natCast,hx];refine wpAny_bind (wpAny_rule (wpAny_bind (wpAny_setField hu ud (by simp) ?_)));show wpAny _ _ (newExc (.type "StopIteration") [] >>= _) _ _ _;refine wpAny_bind ?_;simp only[newExc,newTuple];refine wpAny_bind (wpAny_newObj_type ?_ (by size_fits));refine wpAny_bind (m:=firstArgMember _ _) (wpAny_of_eq (a:=Value.none) (by first|rfl|(simp only[firstArgMember];rfl)) ?_);refine wpAny_newObj_type ?_ (by size_fits);simp only[raiseNew];refine wpAny_bind (wpAny_handled ?_)
 first|rw[show A.in1.handled=none from hh]|rw[hh]
 exact wpAny_bind (wpAny_pure (wpAny_throw (q _ _ (((Heap.SameBut.update ..).extBut.push _).push _) ⟨_,Heap.get?_push_size _ rfl,rfl⟩)))
end
theorem lq {prog:Program}{w:World}{A:Around}(hh:A.handled=none)(I a:Addr)(hne:a≠I)(its:Array Value) :
  Draws prog w A I [I,a] its.size (fun i v=>its[i]?=some v) (fun i h=>h.IsTupleIter I a i∧h.IsTuple a its) where
 live:=fun _ _ st=>let ⟨o,ho,_⟩:=st.1;⟨o,ho⟩
 frame:=fun _ _ _ st hk=>⟨st.1.at fun o e=>hk I (by simp) o e,let ⟨o,ho,r⟩:=st.2;⟨o,hk a (by simp) o ho,r⟩⟩
 item:=fun i s Q E hi st hQ=>j7 st.1 st.2 (x:=its[i]) (by simp[hi]) fun h' hit' hs'=>hQ _ h' s.toks (by simp[hi]) ⟨hit',st.2.extBut hs'.extBut hne⟩ hs'
 done:=fun s Q E st hE=>dD hh st.1 st.2 (by simp) hE
open AutoSeq1 (wpAny_loadPart') in
theorem iQ (a:Addr)(its:Array Value)(n:Nat)(dct:Option Addr)(sl:Array (Option Value)) :
  Meets (Builtin.«enumerate.__new__» ⟨[.type "enumerate",.ref a],[]⟩) (fun _ R s=>s.heap.get? a=some {cls:=.type "tuple",dict:=dct,data:=.seq its n,slots:=sl}∧
   R (.ok (.ret (.ref (s.heap.push {cls:=.type "tuple_iterator",data:=.fields #[.ref a,.int 0 0]}).objs.size)))
    {s with heap:=(s.heap.push {cls:=.type "tuple_iterator",data:=.fields #[.ref a,.int 0 0]}).push {cls:=.type "enumerate",data:=.fields #[.none,.bool false,.ref s.heap.objs.size,rawInt 0,.none,.none]}}):=
 .of_wp fun prog w A R s hh=>by
  obtain⟨hp,g,d,tk,os⟩:=s;obtain⟨ha,hr⟩:=hh;have hsub:=sub_enumerate;have hT:Heap.IsTuple (Shared.heap ⟨hp,g,d,tk,os⟩) a its:=⟨_,ha,rfl,n,rfl⟩
  wp_walk using wpAny_loadPart' ha
  refine wpAny_stack_any fun st=>wpAny_pure ?_
  split
  ·rename_i c _ _ _ _ _;cases (c==Value.type "enumerate")
   all_goals
    wp_walk using wpAny_loadPart' ha,wpAny_pyIter_tuple hT
    exact⟨_,rfl,hr⟩
  ·wp_walk using wpAny_loadPart' ha,wpAny_pyIter_tuple hT
   exact⟨_,rfl,hr⟩
theorem gP {prog:Program}{w:World}{A:Around}{E:Value→Shared→Prop}{s:Shared}{a:Addr}{its:Array Value}{Q:Value→Shared→Prop}(hT:s.heap.IsTuple a its)
  (q:∀h',IsEnum h' (s.heap.objs.size+1) s.heap.objs.size 0 .none→h'.IsTupleIter s.heap.objs.size a 0→h'.objs.size=s.heap.objs.size+2→
   (∀b o,s.heap.get? b=some o→h'.get? b=some o)→Q (.ref (s.heap.objs.size+1)) {s with heap:=h'}):wpAny (model prog w) A (call (.type "enumerate") [.ref a]) Q E s:=by
 obtain⟨⟨c,dct,dt,sl⟩,ha,hc,n,hd⟩:=hT;have hc:c=.type "tuple":=hc;have hd:dt=.seq its n:=hd;subst hc hd;refine callType_new F.called_enumerate (by decide) (F.typeCall_enumerate_1 _) (F.newCall_enumerate_1 _) (fun obj=>F.args_object_init_2 obj _) F.entry_enumerate_new (iQ a its n dct sl) ⟨ha,?_⟩;have hz:(s.heap.push {cls:=.type "tuple_iterator",data:=.fields #[.ref a,.int 0 0]}).objs.size=s.heap.objs.size+1:=Heap.size_push ..;show _∧_;rw[hz];have he:IsEnum ((s.heap.push {cls:=.type "tuple_iterator",data:=.fields #[.ref a,.int 0 0]}).push {cls:=.type "enumerate",data:=.fields #[.none,.bool false,.ref s.heap.objs.size,rawInt 0,.none,.none]}) (s.heap.objs.size+1) s.heap.objs.size 0 .none:=by
  have z:=Heap.get?_push_size (s.heap.push {cls:=.type "tuple_iterator",data:=.fields #[.ref a,.int 0 0]}) (o:={cls:=.type "enumerate",data:=.fields #[.none,.bool false,.ref s.heap.objs.size,rawInt 0,.none,.none]}) rfl;rw[hz] at z;exact z
 exact⟨⟨_,he,rfl⟩,q _ he ⟨_,Heap.get?_push_of_some _ (Heap.get?_push_size _ rfl),rfl,rfl⟩ (by rw[Heap.size_push,hz]) fun b o z=>Heap.get?_push_of_some _ (Heap.get?_push_of_some _ z)⟩
section
variable {X:Cx}{ab:List (Addr×Obj)}{σ:L2.St}{H:Hp}{s:Shared}
theorem iZ {ch:List Addr}{a:Addr}{o:HO}{h':Heap}{t':Nat}(I:L2.Inv X ab σ H s)(hf:∀b∈ch,dN X ab H b)(k:∀b u,b∉ch→s.heap.get? b=some u→h'.get? b=some u)
  (hp:s.heap.objs.size≤a) (new:bO X.prog X.w (bu H a o) h' a o):L2.Inv X ab σ (bu H a o) {s with heap:=h',toks:=t'}:=by
 have hn:H a=none:=I.hok.fresh hp;have ne:∀{b:Addr} {u:HO},H b=some u→b≠a:=fun {b u} e z=>by rw[z,hn] at e;cases e
 have nch:∀b u,H b=some u→b∉ch:=fun b u e z=>by rw[(hf b z).1] at e;cases e
 refine I.step (g':=s.gens) (d':=s.drawn) (ch:=ch) (fun b hb=>⟨(hf b hb).2.2.2.1,(hf b hb).2.1,(hf b hb).2.2.2.2.1,(hf b hb).2.2.2.2.2⟩) (fun b u _ _ hc e _=>k b u hc e) (fun b u _ _ hc e _=>⟨u.slots,k b u hc e⟩)
  (fun b u _ e n=>by rw[aj (Nat.ne_of_lt (Nat.lt_of_lt_of_le (Heap.lt_size e) hp))];exact n) (fun b u hc e=>⟨u,k b u hc e⟩) (fun b xs e=>by rw[aj (ne e)];exact e) (fun b u v e=>by rw[aj (ne e)];exact e)
  (fun b ps e=>⟨#[],by rw[aj (ne e),e];simp⟩) (fun m hm=>?_) (fun b u e=>?_) I.bare
 ·obtain⟨u,es,ep,ho,r⟩:=hm;exact⟨u,es,ep,k _ u (fun z=>(hf _ z).2.1 rfl) ho,r⟩
 ·by_cases hb:b=a
  ·subst hb;rw[aZ] at e;cases e;exact new
  ·rw[aj hb] at e;refine(I.hok b u e).stay (fun c v hc q=>k c v ?_ q) (fun c q=>by rw[aj (ne q)];exact q) fun c xs q=>by rw[aj (ne q)];exact q
   rcases hc with z|z
   ·rw[z];exact nch b u e
   ·exact nch c _ z
theorem ml {ch:List Addr}{h':Heap}{t':Nat}(I:L2.Inv X ab σ H s)(hf:∀b∈ch,dN X ab H b)(k:∀b u,b∉ch→s.heap.get? b=some u→h'.get? b=some u):L2.Inv X ab σ H {s with heap:=h',toks:=t'}:=by
 have nch:∀b u,H b=some u→b∉ch:=fun b u e z=>by rw[(hf b z).1] at e;cases e
 refine I.step (g':=s.gens) (d':=s.drawn) (ch:=ch) (fun b hb=>⟨(hf b hb).2.2.2.1,(hf b hb).2.1,(hf b hb).2.2.2.2.1,(hf b hb).2.2.2.2.2⟩) (fun b u _ _ hc e _=>k b u hc e) (fun b u _ _ hc e _=>⟨u.slots,k b u hc e⟩)
  (fun b u _ e n=>n) (fun b u hc e=>⟨u,k b u hc e⟩) (fun b xs e=>e) (fun b u v e=>e) (fun b ps e=>⟨#[],by rw[e];simp⟩) (fun m hm=>?_) (fun b u e=>?_) I.bare
 ·obtain⟨u,es,ep,ho,r⟩:=hm;exact⟨u,es,ep,k _ u (fun z=>(hf _ z).2.1 rfl) ho,r⟩
 ·refine(I.hok b u e).stay (fun c v hc q=>k c v ?_ q) (fun c q=>q) fun c xs q=>q
  rcases hc with z|z
  ·rw[z];exact nch b u e
  ·exact nch c _ z
end
def uD (K:W.Frag)(b:Bool)(H:Hp)(a:Addr)(xs:List V):Prop:=match b with
 | true=>gZ K H a xs
 | false=>fA K H a xs
def nE (K:W.Frag)(b:Bool)(a:Addr):It:=
 ⟨fun i H=>∃xs x,uD K b H a xs∧xs[i]?=some x,fun i H x H'=>∃p y,H p=none∧H'=bu H p (.tup [.int (i:Int),y])∧x=.ref p∧∀xs,uD K b H a xs→xs[i]?=some y,fun i H=>∃xs,uD K b H a xs∧xs.length≤i⟩
def cw (b:Bool)(h:Heap)(it a:Addr)(i:Nat):Prop:=match b with
 | true=>h.IsTupleIter it a i
 | false=>h.IsListIter it a i
theorem cw.at {b:Bool}{h h':Heap}{it a:Addr}{i:Nat}(x:cw b h it a i)(e:∀o,h.get? it=some o→h'.get? it=some o):cw b h' it a i:=by
 cases b with
 | true=>exact Heap.IsTupleIter.at x e
 | false=>exact Heap.IsListIter.at x e
theorem cw.obj {b:Bool}{h:Heap}{it a:Addr}{i:Nat}(x:cw b h it a i):∃o,h.get? it=some o∧(o.cls=.type "tuple_iterator"∨o.cls=.type "list_iterator")∧∃vs,o.data=.fields vs:=by
 cases b with
 | true=>obtain⟨o,e,c,d⟩:=x;exact⟨o,e,.inl c,_,d⟩
 | false=>obtain⟨o,e,c,d⟩:=x;exact⟨o,e,.inr c,_,d⟩
theorem lN {P:Program}{w:World}{K:W.Frag}{es:List Expr}{kt:Nat}{pos:Pos}(b:Bool)(a e it:Addr):lS P w K (.Tuple es kt pos) (nE K b a) [e,it] e (fun i h=>(∃old,IsEnum h e it (i:Int) old)∧cw b h it a i) where
 mem:=by simp
 obj:=fun i h st c hc=>by
  obtain⟨⟨old,he⟩,hs⟩:=st;obtain⟨o,ho,_,vs,hd⟩:=hs.obj;rcases mem_cons.mp hc with q|q
  ·subst q;exact⟨_,he,fun v z=>by cases z⟩
  ·rw[mem_singleton.mp q];exact⟨o,ho,fun v z=>by rw[hd] at z;cases z⟩
 keep:=fun i h h' st k=>⟨st.1.imp fun old he=>k e (by simp) _ he,st.2.at fun o q=>k it (by simp) o q⟩
 item:=by
  intro X hP hw hK hc i ab s σ H E I hf st hg;subst hP hw hK;obtain⟨⟨old,he⟩,hs⟩:=st;obtain⟨xs,x,hq,hx⟩:=hg;have hei:e≠it:=fun z=>by
   obtain⟨o,ho,hcl,_⟩:=hs.obj;rw[←z,he] at ho;cases ho;rcases hcl with q|q <;> simp at q
  have main:∀(its:List Value) (fp:List Addr) (St:Nat→Heap→Prop),az xs its→Draws X.prog X.w X.A.in1 it fp its.length (fun i v=>its[i]?=some v) St→e∉fp→St i s.heap→(∀h,St (i+1) h→cw b h it a (i+1))→
    wpAny (model X.prog X.w) X.A (pyNext (.ref e)) (fun r s1=>∃u,r=some u∧
     wpAny (model X.prog X.w) X.A (letOwnedTupleGo (.Tuple es kt pos) (.ref e) u) (fun _ s2=>∃x H',L2.Inv X ab σ H' s2∧aM x u∧(nE X.K b a).yld i H x H'∧((∃old,IsEnum s2.heap e it ((i+1:Nat):Int) old)∧cw b s2.heap it a (i+1))∧∀b∈[e,it],H' b=none) E s1) E s:=by
   intro its fp St rv D hef hst hback;have hil:i<its.length:=by rw[←rv.length];exact(List.getElem?_eq_some_iff.mp hx).1
   obtain⟨u,hu,ru⟩:=rv.get hx;refine wpAny_pyNext_enum_itemD D he hst hil hei hef fun y h' tk hP ho hs' hT hsz hk=>?_
   have ey:y=u:=by
    have hP:its[i]?=some y:=hP;rw[hu] at hP;exact(Option.some.inj hP).symm
   subst ey;have helt:e<s.heap.objs.size:=Heap.lt_size he;refine⟨_,rfl,wpAny_letOwnedTupleGo_enum ho fun h2 he2 hs2=>?_⟩;have hs2:Heap.SameBut e h' h2:=hs2;have hT2:h2.get? s.heap.objs.size=some {cls:=.type "tuple",data:=.seq #[.int i tk,y]}:=(hs2.2 _ (Nat.ne_of_gt helt)).trans hT;have fr:H s.heap.objs.size=none:=I.hok.fresh (Nat.le_refl _);have new:bO X.prog X.w (bu H s.heap.objs.size (.tup [.int (i:Int),x])) h2 s.heap.objs.size (.tup [.int (i:Int),x]):=
    ⟨Nat.le_trans (by decide:2≤1000) (by rw[sizeLine_eq];decide),[.int i tk,y],.cons ⟨tk,rfl⟩ (.cons ru .nil),⟨_,hT2,rfl,_,rfl⟩⟩
   have I2:=iZ (t':=tk+1) I hf (fun c o hc q=>(hs2.2 c (fun z=>hc (by simp[z]))).trans (hk c o (fun z=>hc (by simp[z])) (fun z=>hc (by simp[z])) q)) (Nat.le_refl _) new;have inj:∀ys,uD X.K b H a ys→ys[i]?=some x:=fun ys hy=>by
    cases b with
    | true=>rw[I.tuple_inj hy hq];exact hx
    | false=>rw[I.list_inj hy hq];exact hx
   refine⟨.ref s.heap.objs.size,_,I2,rfl,⟨_,x,fr,rfl,rfl,inj⟩,⟨⟨y,by simpa using he2⟩,(hback h' hs').at fun o q=>(hs2.2 it (Ne.symm hei)).trans q⟩,fun c hc=>?_⟩;have:c≠s.heap.objs.size:=by
    obtain⟨o,ho2,_⟩:=hs.obj;rcases mem_cons.mp hc with q|q
    ·rw[q];exact Nat.ne_of_lt helt
    ·rw[mem_singleton.mp q];exact Nat.ne_of_lt (Heap.lt_size ho2)
   rw[aj this];exact(hf c hc).1
  cases b with
  | false=>
   obtain⟨its,rv,p,hz⟩:=I.list (show fA X.K H a xs from hq);have hli:a≠it:=fun z=>by
    obtain⟨o,ho,hcl,_⟩:=hs.obj;obtain⟨ol,hol,hlc,_⟩:=p.isList;rw[z,ho] at hol;cases hol;rw[hlc] at hcl;rcases hcl with q|q <;> simp at q
   have hle:e≠a:=fun z=>by
    obtain⟨ol,hol,hlc,_⟩:=p.isList;rw[←z,he] at hol;cases hol;simp at hlc
   have D:=Draws.list (prog:=X.prog) (w:=X.w) (A:=X.A.in1) (show X.A.in1.handled=none from I.ok.hd hc) it a hli its.toArray;rw[size_toArray] at D;exact main its [it,a] (fun i h=>h.IsListIter it a i∧h.IsList a its.toArray) rv (by simpa using D) (by simp[hei,hle]) (show s.heap.IsListIter it a i∧s.heap.IsList a its.toArray from⟨hs,p.isList⟩) fun h q=>q.1
  | true=>
   obtain⟨its,rv,p,hz⟩:=I.tuple (show gZ X.K H a xs from hq);have p:s.heap.IsTuple a its.toArray:=p;have hli:a≠it:=fun z=>by
    obtain⟨o,ho,hcl,_⟩:=hs.obj;obtain⟨ol,hol,hlc,_⟩:=id p;rw[z,ho] at hol;cases hol;rw[hlc] at hcl;rcases hcl with q|q <;> simp at q
   have hle:e≠a:=fun z=>by
    obtain⟨ol,hol,hlc,_⟩:=id p;rw[←z,he] at hol;cases hol;simp at hlc
   have D:=lq (prog:=X.prog) (w:=X.w) (A:=X.A.in1) (show X.A.in1.handled=none from I.ok.hd hc) it a hli its.toArray;rw[size_toArray] at D;exact main its [it,a] (fun i h=>h.IsTupleIter it a i∧h.IsTuple a its.toArray) rv (by simpa using D) (by simp[hei,hle]) (show s.heap.IsTupleIter it a i∧s.heap.IsTuple a its.toArray from⟨hs,p⟩) fun h q=>q.1
 done:=by
  intro X hP hw hK hc i ab s σ H E I hf st hg;subst hP hw hK;obtain⟨⟨old,he⟩,hs⟩:=st;obtain⟨xs,hq,hx⟩:=hg;have hnx:∀h',Heap.ExtBut it s.heap h'→(none:Option Value)=none∧L2.Inv X ab σ H {s with heap:=h'}:=fun h' hb=>
   ⟨rfl,ml (t':=s.toks) I hf fun c o hc q=>hb c o (fun z=>hc (by simp[z])) q⟩
  have hT:s.TypeIs (.ref e) "enumerate":=⟨_,he,rfl⟩;unfold pyNext;refine wpAny_bind (wpAny_attempt (wpAny_callSpecial?_slot (name:=Str.ofString "__next__") hT F.slot_enumerate_next (wpAny_call_entry F.slot_enumerate_next hT F.entry_enumerate_next ?_ (F.args_enumerate_next_1 _))));show wpAny _ _ (field (.ref e) 2 >>= _) _ _ _;refine wpAny_bind (wpAny_field he rfl (x:=.ref it) rfl (wpAny_bind ?_));have stp:∀h' x,Heap.ExtBut it s.heap h'→(∃o,h'.get? x=some o∧o.cls=.type "StopIteration")→wpAny (model X.prog X.w) X.A (isInstance (.ref x) (.type "StopIteration") >>= fun b=>if b=true then pure none else throw (Value.ref x)) (fun(r:Option Value) s1=>r=none∧L2.Inv X ab σ H s1) E {s with heap:=h'}:=fun h' x hb hx'=>by
   obtain⟨o,ho,hcl⟩:=hx';refine wpAny_bind (wpAny_isInstance (T:="StopIteration") (b:=true) ⟨o,ho,hcl⟩ isSubtype_stop ?_);exact wpAny_pure (hnx _ hb)
  cases b with
  | false=>
   obtain⟨its,rv,p,hz⟩:=I.list (show fA X.K H a xs from hq);have hl:=rv.length;exact wpAny_nextOf_list_end (show X.A.in1.handled=none from I.ok.hd hc) hs p.isList (by simp;omega) stp
  | true=>
   obtain⟨its,rv,p,hz⟩:=I.tuple (show gZ X.K H a xs from hq);have p:s.heap.IsTuple a its.toArray:=p;have hl:=rv.length;exact dD (show X.A.in1.handled=none from I.ok.hd hc) hs p (by simp;omega) stp
 self:=fun _ _ _ _ _ st h=>by
  obtain⟨⟨old,he⟩,_⟩:=st;exact wpAny_pyIter_enum he h
theorem o3 {X:Cx}{es:List Expr}{kt:Nat}{tp:Pos}{l:Expr}{tl:TA}{p pos:Pos}(hg:Gl X "enumerate")(hm:X.mg "enumerate"=none)(hv:bootBuiltins "enumerate"=some (.type "enumerate"))(hl:PA X [l] tl)(hs:starEach [l] X.env=[(false,eval l X.env)]:=by rfl) :
  PI X (.Tuple es kt tp) (.Call (.Name "enumerate" p) [l] [] pos) (fun σ H R=>tl σ H fun xs H1=>∃a,xs=[.ref a]∧(((∃xs,fA X.K H1 a xs)∧R (nE X.K false a) H1)∨((∃xs,gZ X.K H1 a xs)∧R (nE X.K true a) H1))):=by
 intro ab s σ H R I h;refine Call_ (dY I hg hm hv (PyProof.Rows.callWith_type1 (bL (hl pos ab s σ H _ I h) fun us s1 hxx=>?_) hs rfl));obtain⟨vs,H1,I1,r1,q1⟩:=hxx;obtain⟨a,e,q1⟩:=q1;subst e;cases r1 with
 | cons r rr=>
  cases rr;have r:_=Value.ref a:=r;subst r;have fin:∀(b:Bool) (h':Heap),IsEnum h' (s1.heap.objs.size+1) s1.heap.objs.size 0 .none→cw b h' s1.heap.objs.size a 0→h'.objs.size=s1.heap.objs.size+2→(∀c o,s1.heap.get? c=some o→h'.get? c=some o)→R (nE X.K b a) H1→
    wpAny (model X.prog X.w) X.A (pyIter (.ref (s1.heap.objs.size+1))) (xA X ab σ (.Tuple es kt tp) R) X.xe {s1 with heap:=h'}:=fun b h' he hi hz hk q=>by
   refine wpAny_pyIter_enum he ⟨_,[s1.heap.objs.size+1,s1.heap.objs.size],_,_,H1,rfl,I1.kept (t':=s1.toks) hk,lN b a _ _,⟨⟨_,he⟩,hi⟩,fun c hc=>?_,q⟩;have hb:s1.heap.objs.size≤c:=by
    rcases mem_cons.mp hc with z|z
    ·rw[z];exact Nat.le_succ _
    ·rw[mem_singleton.mp z];exact Nat.le_refl _
   exact I1.fpOk hb (I1.hok.fresh hb)
  rcases q1 with⟨⟨xs,hq⟩,q⟩|⟨⟨xs,hq⟩,q⟩
  ·obtain⟨its,rv,p,hz⟩:=I1.list hq;exact call_enumerate_list p.isList fun h' he hi hz hk=>fin false h' he hi hz hk q
  ·obtain⟨its,rv,p,hz⟩:=I1.tuple hq;exact gP (show s1.heap.IsTuple a its.toArray from p) fun h' he hi hz hk=>fin true h' he hi hz hk q
def bh (ds:List D):List D:=(List.range ds.length).zipWith (fun(k:Nat) d=>D.tup [.int (k:Int),d]) ds
theorem io {ds:List D}{i:Nat}{d:D}(h:(bh ds)[i]?=some d):∃x,ds[i]?=some x∧d=.tup [.int (i:Int),x]:=by
 unfold bh at h;rw[getElem?_zipWith] at h;cases q:ds[i]? with
 | none=>rw[q] at h;simp at h
 | some x=>
  have hi:=(List.getElem?_eq_some_iff.mp q).1;rw[q,getElem?_range hi] at h;exact⟨x,rfl,(Option.some.inj h).symm⟩
theorem dk (ds:List D):(bh ds).length=ds.length:=by simp[bh]
end DL
namespace DL
open PySem PySem.Spec PyProof.Rows L2 List
def H0 (K:W.Frag)(a:Addr)(so:Obj)(xs:List V)(ts:List Addr)(bm:Addr)(ob:Obj):Hp:=fun b=>
 if b=a then(if K.lookup a=none then some (.frz so (.lst xs)) else none) else if b∈ts then some (.tbl #[]) else if b=bm then some (wM ob) else none
structure wJ (K:W.Frag)(h:Heap)(ts:List Addr)(bm:Addr)(ob:Obj):Prop where
 tab:∀P∈ts,h.get? P=some (W.tabObj #[])∧isCodeTable h P∧K.lookup P=none
 names:∀x,x∈aN→∀c P,W.tabIn K x=some (c,P)→P∈ts
 bmk:W.nsIn K mainGlobals "__builtins__"=some (some (.ref bm))
 bmh:h.get? bm=some ob
 bmc:ob.cls=.type "module"∧ob.dict=some builtinsNs∧ob.data=.plain
 bmn:bm≠builtinsNs∧bm≠mainGlobals
 bml:K.lookup bm=none
theorem nb {K:W.Frag}{h:Heap}{a:Addr}{so:Obj}{xs:List V}{ts:List Addr}{bm:Addr}{ob:Obj}(L:wJ K h ts bm ob)(ha:h.get? a=some so)(sc:so.cls=.type "list"):dZ K (H0 K a so xs ts bm ob):=by
 have neT:∀P∈ts,P≠a:=fun P hP e=>by
  have:=(L.tab P hP).1;rw[e,ha] at this;cases this;cases sc
 have neB:bm≠a:=fun e=>by
  have:=L.bmh;rw[e,ha] at this;cases this;have:=L.bmc.1;rw[sc] at this;simp at this
 have nBT:bm∉ts:=fun hb=>by
  have:=(L.tab bm hb).1;rw[L.bmh] at this;cases this;have:=L.bmc.1;simp at this
 refine⟨fun x hx c P e=>?_,fun x hx c P e=>⟨bm,ob,L.bmk,?_,L.bmc.1,L.bmc.2.1,L.bmc.2.2,L.bmn⟩⟩
 ·have hP:=L.names x hx c P e;refine⟨#[],?_,by simp[TriplesOk],fun pos cv q=>by simp[codeAmong] at q⟩;unfold H0;rw[if_neg (neT P hP),if_pos hP]
 ·unfold H0;rw[if_neg neB,if_neg nBT,if_pos rfl]
theorem lC {P:Program}{w:World}{K:W.Frag}{mg mb:Str→Option Value}{CX:mn}{k:Nat}{fa a:Addr}{fd:FuncData}{x:Str}{sp:Sp}{s₁:Shared}{vs:List Value}{ns:List Int}{ts:List Addr}{bm:Addr}{ob:Obj}
  (KX:K.In s₁.heap) (hns:s₁.heap.Ns mainGlobals mg) (hb:s₁.heap.Ns builtinsNs mb) (hbb:∀x:Str,x≠"__name__"→mb x=bootBuiltins x) (hlim:s₁.heap.NoLimit) (hg:s₁.gens=#[])
  (ha:s₁.heap.get? a=some {cls:=.type "list",data:=.seq vs.toArray}) (hi:IntsAre vs ns) (hl:ns.length≤sizeLine) (hr:bf k callerA) (L:wJ K s₁.heap ts bm ob)
  (F:∀base:Heap,K.In base→base.Ns mainGlobals mg→cQ P w K mg base CX k fa fd [x] sp) (hbind:∀(s:Shared) (u:Value),BindsTo s fd ⟨[u],[]⟩ [(x,u)])
  (hsp:∀H:Hp,dZ K H→fA K H a (ns.map V.int)→sp [.ref a] H (fun v _=>v=.bl true) fun _ _ _=>False)
  (hCX:∀H e s',CX [] H s₁ (fun _ _ _=>False) e s'→False) :
  codeAny (model P w) callerA (.call (.ref fa) ⟨[.ref a],[]⟩) (fun r s'=>r=.ok (.ret (.bool true))∧OldK s₁.heap s'.heap∧s'.os=s₁.os∧AllBare s'.gens) s₁:=by
 have rv:=hU hi;have lenV:=hi.length;have hH:∃H:Hp,H=H0 K a {cls:=.type "list",data:=.seq vs.toArray} (ns.map V.int) ts bm ob:=⟨_,rfl⟩;obtain⟨H,eH⟩:=hH;have tb:dZ K H:=by rw[eH];exact nb L ha rfl
 have at_:∀b u,H b=some u→(b=a∧K.lookup a=none∧u=.frz {cls:=.type "list",data:=.seq vs.toArray} (.lst (ns.map V.int)))∨(b≠a∧b∈ts∧u=.tbl #[])∨(b=bm∧u=wM ob):=fun b u e=>by
  rw[eH] at e;unfold H0 at e
  by_cases h1:b=a
  ·rw[if_pos h1] at e
   by_cases h2:K.lookup a=none
   ·rw[if_pos h2] at e;cases e;exact .inl ⟨h1,h2,rfl⟩
   ·rw[if_neg h2] at e;cases e
  ·rw[if_neg h1] at e
   by_cases h2:b∈ts
   ·rw[if_pos h2] at e;cases e;exact .inr (.inl ⟨h1,h2,rfl⟩)
   ·rw[if_neg h2] at e
    by_cases h3:b=bm
    ·rw[if_pos h3] at e;cases e;exact .inr (.inr ⟨h3,rfl⟩)
    ·rw[if_neg h3] at e;cases e
 have hok:eV P w H s₁.heap:=fun b u e=>by
  rcases at_ b u e with⟨h1,_,h3⟩|⟨_,h2,h3⟩|⟨h1,h3⟩
  ·subst h1 h3;exact⟨ha,by rw[length_map];exact hl,vs,_,rv,ha⟩
  ·subst h3;exact(L.tab b h2).1
  ·subst h1 h3;exact⟨L.bmh,trivial,⟨_,L.bmh⟩,fun _ _ _ _=>trivial⟩
 have hS:fA K H a (ns.map V.int):=by
  cases hk:K.lookup a with
  | some o=>
   have e:=KX a o hk;rw[ha] at e;cases e;exact .inr ⟨_,vs.toArray,_,hk,rfl,rfl,rfl,by rw[size_toArray,lenV];exact hl,by simpa using rv⟩
  | none=>exact .inl (.inr ⟨{cls:=.type "list",data:=.seq vs.toArray},by rw[eH];unfold H0;rw[if_pos rfl,if_pos hk]⟩)
 have base_of:∀{b:Addr} {o:Obj},s₁.heap.get? b=some o→H b=none→(i7 s₁.heap H).get? b=some o:=fun e n=>nV e n
 have noA:∀{b:Addr} {o:Obj} {es:Array DictEntry} {ep:Nat},s₁.heap.get? b=some o→o.data=.dict es ep→H b=none:=fun {b o es ep} e d=>by
  cases q:H b with
  | none=>rfl
  | some u=>
   exfalso;rcases at_ b u q with⟨h1,_,_⟩|⟨_,h2,_⟩|⟨h1,_⟩
   ·subst h1;rw[ha] at e;cases e;have d':Data.seq vs.toArray _=Data.dict es ep:=d;cases d'
   ·rw[(L.tab b h2).1] at e;cases e;cases d
   ·subst h1;rw[L.bmh] at e;cases e;rw[L.bmc.2.2] at d;cases d
 have nsK:∀{b:Addr} {m:Str→Option Value},s₁.heap.Ns b m→(i7 s₁.heap H).Ns b m:=fun {b m} ⟨o,es,ep,e,d,r⟩=>⟨o,es,ep,base_of e (noA e d),d,r⟩
 have hKb:K.In (i7 s₁.heap H):=fun b o e=>base_of (KX b o e) (by
  cases q:H b with
  | none=>rfl
  | some u=>
   exfalso;rcases at_ b u q with⟨h1,h2,_⟩|⟨_,h2,_⟩|⟨h1,_⟩
   ·subst h1;rw[h2] at e;cases e
   ·rw[(L.tab b h2).2.2] at e;cases e
   ·subst h1;rw[L.bml] at e;cases e)
 have hM:Mod K mg (i7 s₁.heap H):=⟨hKb,nsK hns,⟨mb,nsK hb,hbb⟩,let ⟨mc,h1,h2⟩:=hlim;⟨mc,nsK h1,h2⟩⟩;have e0:oS P w K mg (i7 s₁.heap H) callerA [] s₁ H:=⟨rfl,hM,fun b o e=>pU e,Nat.le_of_eq (lh _ _),trivial,fun b hb=>absurd (show b∈([]:List Addr) from hb) (by simp),hok,.of_eq hg⟩;refine codeAny_mono ((F _ hKb (nsK hns)).run callerA [] s₁ H ⟨[.ref a],[]⟩ [.ref a] [.ref a] _ _ hr e0 (hbind s₁ (.ref a)) (.cons rfl .nil) (hsp H tb hS)) fun r s' h=>?_
 cases r with
 | error e=>exact(hCX H e s' h).elim
 | ok fl=>
  cases fl with
  | next=>exact False.elim h
  | brk=>exact False.elim h
  | cont=>exact False.elim h
  | ret u=>
   obtain⟨v,H',os,bare,un,hok',r',q⟩:=h;have q':v=.bl true:=q;subst q';obtain rfl:u=Value.bool true:=r';refine⟨rfl,⟨fun b o e=>?_,fun b o e=>?_⟩,os,bare⟩
   ·cases q:H b with
    | none=>exact .inl (un.keep b o e q (by intro z;exact absurd (show b∈([]:List Addr) from z) (by simp)) (by simp))
    | some u=>
     rcases at_ b u q with⟨h1,_,h3⟩|⟨_,h2,h3⟩|⟨h1,h3⟩
     ·subst h3;have z2:=un.frzs b _ _ q;obtain⟨e1,_⟩:=hok b _ q;obtain⟨e2,_⟩:=hok' b _ z2;rw[e] at e1;cases e1;exact .inl e2
     ·subst h3;obtain⟨more,z2⟩:=un.tbls b _ q;have e1:s₁.heap.get? b=some {cls:=.none,data:=.fields #[]}:=hok b _ q;have e2:s'.heap.get? b=some {cls:=.none,data:=.fields (#[]++more)}:=hok' b _ z2;rw[e] at e1;cases e1;exact .inr (.inl ⟨(L.tab b h2).2.1,rfl,#[],more,rfl,e2⟩)
     ·subst h3;have z2:=un.frzs b _ _ q;obtain⟨e1,_⟩:=hok b _ q;obtain⟨e2,_⟩:=hok' b _ z2;rw[e] at e1;cases e1;exact .inl e2
   ·exact un.there b o e (by simp)
theorem qZ {l:W.OpenLaw}{n k:Nat}{q:Program}{loose:List Str}{XP:(Str→Option Value)→Heap→Prop}{YP:World→Heap→Prop}{d:DefRec}{K:Params→W.Frag}{CX:World→mn}{sp:World→Sp}{x:Str}
  (hn:l.most=some n) (hn2:n≤sizeLine) (hdf:d.params.defaults=[]) (hr:bf k callerA)
  (hY:∀(w:World) (h:Heap),YP w h→(K w.params).In h)
  (F:∀(w:World) (mg:Str→Option Value) (fa:Addr) (h:Heap),(K w.params).In h→h.Ns mainGlobals mg→mg d.name=some (.ref fa)→
   ∃fd:FuncData,(∀(s:Shared) (u:Value),BindsTo s fd ⟨[u],[]⟩ [(x,u)])∧
    ∀base:Heap,(K w.params).In base→base.Ns mainGlobals mg→cQ l.prog w (K w.params) mg base (CX w) k fa fd [x] (sp w))
  (tabs:∀w:World,∃(ls:List (Str×DefRec×Addr×Addr)) (bm:Addr),(∀p∈ls,(recsOf q).find? (fun e=>e.name==p.1)=some p.2.1∧W.tabIn (K w.params) p.1=some (p.2.2.1,p.2.2.2)∧(K w.params).lookup p.2.2.2=none)∧
   (∀y,y∈aN→W.nsIn (K w.params) mainGlobals y=some none∨∃p∈ls,p.1=y)∧W.nsIn (K w.params) mainGlobals "__builtins__"=some (some (.ref bm))∧(K w.params).lookup bm=none)
  (hsp:∀(w:World) (H:Hp) (a:Addr) (ns:List Int),ns.length≤n→dZ (K w.params) H→fA (K w.params) H a (ns.map V.int)→sp w [.ref a] H (fun v _=>v=.bl true) fun _ _ _=>False)
  (hCX:∀(w:World) (H:Hp) (s:Shared) (e:Value) (s':Shared),CX w [] H s (fun _ _ _=>False) e s'→False) :
  W.WalkO q loose XP YP l.row.toRowW d [] (fun f vs=>PySem.call f vs):=by
 refine Att.attach_call hn hdf fun w s₀ s₁ mg mb fa o pm cd doc a vs ns G Y ho hd hcd hmg hobj hints hlen hg=>?_
 have KX:=hY w _ Y;obtain⟨fd,hb,hF⟩:=F w mg fa _ KX G.T.g hmg;obtain⟨ls,bm,hls,hnm,hbm,hbl⟩:=tabs w;obtain⟨bm',ob,b1,b2,b3,b4,b5,b6⟩:=G.T.bmain;have eb:bm'=bm:=by
  have:=W.mg_of KX G.T.g hbm;rw[b1] at this;cases this;rfl
 subst eb;have L:wJ (K w.params) s₁.heap (ls.map (·.2.2.2)) bm' ob:=by
  refine⟨fun P hP=>?_,fun y hy c P e=>?_,hbm,?_,?_,?_,hbl⟩
  ·obtain⟨p,hp,rfl⟩:=mem_map.mp hP;obtain⟨h1,h2,h3⟩:=hls p hp;obtain⟨c1,c2⟩:=W.tab_of G.T KX h1 h2;exact⟨c2,(c1.tab c2).isCodeTable,h3⟩
  ·rcases hnm y hy with q|⟨p,hp,q⟩
   ·unfold W.tabIn at e;rw[q] at e;cases e
   ·subst q;obtain⟨h1,h2,h3⟩:=hls p hp;rw[h2] at e;cases e;exact mem_map.mpr ⟨p,hp,rfl⟩
  ·exact b3
  ·exact⟨b4,b5,b6⟩
  ·refine⟨b2,fun z=>?_⟩;obtain⟨o',es,ep,e1,e2,_⟩:=G.T.g;rw[←z,b3] at e1;cases e1;rw[b6] at e2;cases e2
 exact lC KX G.T.g G.T.b G.T.builtins G.T.nolimit hg hobj hints (Nat.le_trans hlen hn2) hr L hF hb (fun H hT hS=>hsp w H a ns hlen hT hS) fun H e s'=>hCX w H s₁ e s'
def uR (q:Addr)(fd:FuncData):HO:=.ext fun h=>h.get? q=some {cls:=.type "function",data:=.func fd}
theorem pW {P:Program}{w:World}{H:Hp}{h:Heap}{c:Addr}{q:Str}(ok:eV P w H h)(e:H c=some (jC c q)):h.CodeRec (.ref c) q:=(ok c _ e).1
theorem vR {P:Program}{w:World}{H:Hp}{h:Heap}{q:Addr}{fd:FuncData}(ok:eV P w H h)(e:H q=some (uR q fd)):h.get? q=some {cls:=.type "function",data:=.func fd}:=(ok q _ e).1
structure jy (K:W.Frag)(x:Str)(c P:Addr):Prop where
 mem:x∈aN
 tab:W.tabIn K x=some (c,P)
 uniq:∀y,y∈aN→y≠x→∀c2,W.tabIn K y≠some (c2,P)
 hd:∃o vs file tf flags tg inF text tt,K.lookup c=some o∧o.cls=.type "code"∧o.data=.fields vs∧vs[11]?=some (.ref P)∧vs.getD 11 .none=.ref P∧vs.getD 18 .none=.str file tf∧
  vs.getD 7 .none=.int flags tg∧vs.getD 9 .none=.bool inF∧vs.getD 10 .none=.int text tt∧c≠P
theorem jZ {pos:Pos}{a b:Int}{c cv:Value}(l:List Value)(h:TriplesOk l)(e:codeAmong pos (l++[rawInt a,rawInt b,c])=some cv):codeAmong pos l=some cv∨cv=c:=by
 fun_induction TriplesOk l with
 | case1=>
  simp only[nil_append,codeAmong,rawInt] at e;split at e
  ·exact .inr (Option.some.inj e).symm
  ·cases e
 | case2 a' t b' u x rest ih=>
  simp only[cons_append,codeAmong] at e ⊢;split at e
  ·rename_i hc;rw[if_pos hc];exact .inl e
  ·rename_i hc;rw[if_neg hc];exact ih h e
 | case3 l h1 h2=>exact h.elim
theorem j6 {P:Program}{w:World}{H:Hp}{h:Heap}{a:Addr}{φ:Heap→Prop}(h1:φ h)(h2:∃o,h.get? a=some o)(h3:∀h1 h2:Heap,φ h1→(∀o,h1.get? a=some o→h2.get? a=some o)→φ h2):bO P w H h a (.ext φ):=⟨h1,h2,h3⟩
def fW:List D→Option (List Int)
 | []=>some []
 | .int i::r=>(fW r).map (i::·)
 | _=>none
def nS:D→Option (List Int)
 | .tup ds=>fW ds
 | _=>none
theorem jL {K:W.Frag}{θ:List Addr}{H:Hp}:∀{ds:List D} {ks:List Int} {vs:List V},fW ds=some ks→aF K θ H ds vs→vs=ks.map V.int
 | [],ks,vs,h,r=>by cases h;exact r
 | d::ds,ks,vs,h,r=>by
  obtain⟨v,rr,e,h1,h2⟩:=r;cases d with
  | int i=>
   cases q:fW ds with
   | none=>simp[fW,q] at h
   | some l=>
    simp[fW,q] at h;subst h;have h1:v=.int i:=h1;rw[e,h1,jL q h2];rfl
  | _=>cases h
theorem mL {K:W.Frag}{θ:List Addr}{H:Hp}{d:D}{ks:List Int}{v:V}(h:nS d=some ks)(r:cn K θ H d v):∃a,v=.ref a∧fx K θ H a (ks.map V.int):=by
 cases d with
 | tup ds=>
  obtain⟨a,vs,e,t,rs⟩:=r;have:=jL (show fW ds=some ks from h) rs;subst this;exact⟨a,e,t⟩
 | _=>cases h
theorem wq {P:Program}{w:World}{K:W.Frag}{mg:Str→Option Value}{base:Heap}{x:Str}{st:Stmt}{f c Pt:Addr}{fd:FuncData}{N ps:List Str}{k n:Nat}{g:GS}(F:oJ K x x st f fd)(hns:W.nsIn K mainGlobals x=some (some (.ref f)))(T:jy K x c Pt)(S:cr N ps (aq st))(hn:ps.length=n)
  (hbody:∀(A:Around) (outer:List Env) (s:Shared) (H:Hp) (E:XK),bf k (A.deeper (envOfC x (aq st) s.heap.objs.size f (.ref c)))→PSs (dA (dU P w) P w K mg base N x (aq st) f (.ref c) A outer s H E) (a7 st) (tS (dA (dU P w) P w K mg base N x (aq st) f (.ref c) A outer s H E) g)) :
  cQ P w K mg base (dU P w) (k+1) f fd ps (jB K n (dC (N.length-n) g)):=by
 obtain⟨oc,od,kV,doc,pm,an,cdv,ct,osl,rfl,lk,hcd⟩:=F.ex;have ec:cdv=.ref c:=by
  have t:=T.tab;unfold W.tabIn at t;rw[hns] at t;dsimp only at t;rw[lk] at t;dsimp only at t;cases cdv with
  | ref c'=>
   dsimp only at t;split at t
   ·split at t
    ·cases t;rfl
    ·cases t
   ·cases t
  | _=>cases t
 subst ec;refine p6 lk hcd S (ko hn) fun A outer s H vs Q E hr h=>⟨_,hbody A outer s H E hr,?_⟩
 obtain⟨θ,M,ds,hl,r,hw,h⟩:=h;have hv:vs.length=n:=by rw[←ai r];exact hl
 refine⟨fb (N.length-n) ds,θ,M,by rw[←hv];exact uu r N,hw,?_⟩;have h:lR K θ H Q E (bv (g (fb (N.length-n) ds) M)):=h;unfold bv at h;cases q:g (fb (N.length-n) ds) M with
 | bad=>rw[q] at h;exact h
 | err c M1=>
  rw[q] at h;have h:oj K θ H E c M1:=h;exact fun C θ' H' a s' kC g1 fl=>gF fl (h C θ' H' a kC g1)
 | ok fl M1=>
  rw[q] at h;cases fl with
  | rt d=>exact h
  | nx ρ1=>exact fun σ1 θ1 H1 g1 _=>h .non θ1 H1 g1 rfl
  | bk ρ1=>exact h.elim
  | ct ρ1=>exact h.elim
end DL
namespace DL
open PySem PySem.Spec PyProof.Rows L2 List
theorem n5 (A:Around)(s:Shared)(a:Int)(t:Tok)(c:Int)(u:Tok)(prog:Program)(w:World)(E:Value→Shared→Prop)(Q:Value→Shared→Prop)(h:Q (.bool (decide (c<a))) s) :
  wpAny (model prog w) A (richCompare .Gt (.int a t) (.int c u)) Q E s:=(PyProof.Rows.gt_int h:wpAny (model prog w) A (compareOp .Gt (.int a t) (.int c u)) Q E s)
section
open PySem.SeqAt
open PySem.AutoSeq1 (wpAny_loadPart')
open PySem.MeetsSeq PySem.MeetsSeq2 PySem.MeetsSeq3
end
section
variable {X:Cx}{ab:List (Addr×Obj)}{σ:L2.St}
theorem ly (a:Value):argsOk "max" ⟨[a],[]⟩:=by unfold argsOk;kernel_rfl
end
theorem pH {K:W.Frag}{x:Str}{f c P:Addr}{oc occ:Value}{od odc:Option Addr}{fd:FuncData}{sl slc:Array (Option Value)}{vs:Array Value}{file:Str}{tf tg tt:Tok}{flags text:Int}{inF:Bool}
  (hm:x∈aN) (a:W.nsIn K mainGlobals x=some (some (.ref f))) (l:K.lookup f=some ⟨oc,od,.func fd,sl⟩) (ec:fd.code=.ref c) (lc:K.lookup c=some ⟨occ,odc,.fields vs,slc⟩) (hcc:occ=.type "code")
  (h11:vs[11]?=some (.ref P)) (h18:vs.getD 18 .none=.str file tf) (h7:vs.getD 7 .none=.int flags tg) (h9:vs.getD 9 .none=.bool inF) (h10:vs.getD 10 .none=.int text tt) (ne:c≠P)
  (un:∀y,y∈aN→y≠x→W.nsIn K mainGlobals y=some none∨∃c' P',W.tabIn K y=some (c',P')∧P'≠P):jy K x c P:=by
 have g11:vs.getD 11 .none=.ref P:=by rw[Array.getD_eq_getD_getElem?,h11];rfl
 refine⟨hm,?_,fun y hy nx c2 e=>?_,_,vs,file,tf,flags,tg,inF,text,tt,lc,hcc,rfl,h11,g11,h18,h7,h9,h10,ne⟩
 ·unfold W.tabIn;rw[a];dsimp only;rw[l];dsimp only;rw[ec];dsimp only;rw[lc];dsimp only;rw[h11]
 ·rcases un y hy nx with q|⟨c',P',q,n⟩
  ·unfold W.tabIn at e;rw[q] at e;cases e
  ·rw[q] at e;cases e;exact n rfl
end DL
namespace DL
open PySem PySem.Spec PyProof.Rows L2 List
end DL
namespace DL
open PySem PySem.Spec PyProof.Rows L2 List
section
open Builtin Builtin.Str
end
end DL
namespace DL
open PySem PySem.Spec PyProof.Rows L2 List
structure QE (X:Cx)(e:Expr)(g:GE):Prop where
 h:PE X e (tE X g)
structure QT (X:Cx)(e:Expr)(g:GT):Prop where
 h:PT X e (tT X g)
structure QW (X:Cx)(e:Expr)(g:GT):Prop where
 h:PW X e (tT X g)
structure QA (X:Cx)(es:List Expr)(g:GA):Prop where
 h:PA X es (tA X g)
structure QS (X:Cx)(st:Stmt)(g:GS):Prop where
 h:PS X st (tS X g)
structure QB (X:Cx)(st:List Stmt)(g:GS):Prop where
 h:PSs X st (tS X g)
structure QI (X:Cx)(tg e:Expr)(g:GI):Prop where
 h:PI X tg e (tI X g)
structure QG (X:Cx)(tg:Expr)(s:GG):Prop where
 h:PG X tg (tG X s)
structure vX (X:Cx)(tgs:List Expr)(is:List Nat):Prop where
 h:pJ X tgs (uW X is)
structure Q2 (X:Cx)(f:Value→Value→Sem Value)(F:F2):Prop where
 h:c4 X f (rD X F)
structure QC (X:Cx)(f:Value)(F:FD):Prop where
 h:bV X f (rC X F)
structure oZ (X:Cx)(scope:Scope)(xs:List Str)(R:List Str)(ifs:List Expr)(gc:GT):Prop where
 h:dJ X scope xs R ifs gc
structure QO (n:Nat)(sg:GG):Prop where
 h:je n sg
section
variable {X:Cx}{e a b c o i:Expr}{es rest:List Expr}{x:Str}{p p2 pos pos':Pos}{g ga gb gc go gi ge:GE}{ta tb:GT}{gA:GA}
theorem vT:Q2 X (binaryOp .Add) ba:=⟨rV⟩
theorem uI:Q2 X (binaryOp .Sub) f7:=⟨qE⟩
theorem uL:Q2 X (binaryOp .Mult) cP:=⟨se⟩
theorem rF:Q2 X (binaryOp .FloorDiv) bD:=⟨om⟩
theorem vY:Q2 X (binaryOp .Mod) c6:=⟨tM⟩
theorem vc:Q2 X (binaryOp .Pow) gU:=⟨rk⟩
theorem xh:Q2 X (compareOp .Lt) gV:=⟨u3⟩
theorem xP:Q2 X (compareOp .LtE) ig:=⟨uV⟩
theorem xy:Q2 X (compareOp .Gt) kU:=⟨u9⟩
theorem xf:Q2 X (compareOp .GtE) pY:=⟨vz⟩
theorem xE {k:Nat}(hr:bf k X.A):Q2 X (compareOp .Eq) (bH false):=⟨vh hr.units⟩
theorem xI {k:Nat}(hr:bf k X.A):Q2 X (compareOp .NotEq) (bH true):=⟨vM hr.units⟩
theorem xB:Q2 X (compareOp .Is) (jI false):=⟨v3⟩
theorem wj:QC X (.builtin "len") aX:=⟨sx⟩
theorem vL (hc:X.calm=true:=by rfl):QC X (.builtin "min") gE:=⟨rB hc⟩
theorem vS (hc:X.calm=true:=by rfl):QC X (.builtin "max") fV:=⟨sY hc⟩
theorem sr:QC X (.type "list") du:=⟨oO⟩
theorem qv (i:Nat){x:Str}{pos:Pos}(hN:X.N[i]?=some x:=by rfl)(hv:vI X.env.scope x:=by first|exact Or.inl rfl|exact Or.inr (Or.inl rfl)|exact Or.inr (Or.inr rfl))(hd:(x==("__debug__":Str))=false:=by decide)
  (hcd:(x==("__classdict__":Str))=false:=by decide):QE X (.Name x pos) (ae i):=⟨vv i hN hv hd hcd⟩
theorem sH {i:Int}{j pos}:QE X (.Constant (.int i) j pos) (gC (.int i)):=⟨tP⟩
theorem vV {b j pos}:QE X (.Constant (.bool b) j pos) (gC (.bl b)):=⟨uC⟩
theorem tz {j pos}:QE X (.Constant .none j pos) (gC .non):=⟨re⟩
theorem rq {x j pos}:QE X (.Constant (.str x) j pos) (gC (.str x)):=⟨qW⟩
theorem wn {op:Operator}{f:F2}(ho:Q2 X (binaryOp op) f)(ha:QE X a ga)(hb:QE X b gb):QE X (.BinOp a op b pos) (g2 f ga gb):=⟨ux ho.h ha.h hb.h⟩
def rE:CmpOp→Bool
 | .In=>false
 | .NotIn=>false
 | _=>true
theorem ij {op:CmpOp}{b:Expr}(h:rE op=true):behindInMarks op b=false:=by
 cases op <;> first|exact sh _|(cases h)
theorem sK {op:CmpOp}{f:F2}(ho:Q2 X (compareOp op) f)(ha:QE X a ga)(hb:QE X b gb)(hm:rE op=true:=by rfl):QE X (.Compare a [op] [b] pos) (g2 f ga gb):=⟨rA ho.h ha.h hb.h (ij hm)⟩
theorem qQ {op:CmpOp}{f:F2}(ho:Q2 X (compareOp op) f)(ha:QE X a ga)(hb:QE X b gb)(hm:rE op=true:=by rfl):QT X (.Compare a [op] [b] pos) (aJ (g2 f ga gb)):=⟨tK ho.h ha.h hb.h (ij hm)⟩
theorem m7 {op op':CmpOp}{f f':F2}(ho:Q2 X (compareOp op) f)(ho':Q2 X (compareOp op') f')(ha:QE X a ga)(hb:QE X b gb)(hc:QE X c gc)(hm:lastMarks [op,op'] [b,c]=false:=by with_unfolding_all rfl):QT X (.Compare a [op,op'] [b,c] pos) (aJ (jM f f' ga gb gc)):=⟨nQ ho.h ho'.h ha.h hb.h hc.h hm⟩
theorem qU {op}(h:QE X a g):QE X (.BoolOp op [a] pos) g:=⟨qY h.h⟩
theorem vE (ha:QE X a ga)(hb:QE X (.BoolOp .Or (b::rest) pos) gb):QE X (.BoolOp .Or (a::b::rest) pos) (ql ga gb):=⟨uN ha.h hb.h⟩
theorem pK (ha:QT X a ta):QW X (.BoolOp .And [a] pos) ta:=⟨ot ha.h⟩
theorem tD (ha:QT X a ta):QW X (.BoolOp .Or [a] pos) ta:=⟨sU ha.h⟩
theorem rX (ha:QT X a ta)(hb:QW X (.BoolOp .And (b::rest) pos) tb):QW X (.BoolOp .And (a::b::rest) pos) (dP ta tb):=⟨sT ha.h hb.h⟩
theorem v9 (ha:QT X a ta)(hb:QW X (.BoolOp .Or (b::rest) pos) tb):QW X (.BoolOp .Or (a::b::rest) pos) (cm ta tb):=⟨v8 ha.h hb.h⟩
theorem wd (h:QW X a ta):QT X a ta:=⟨PW.pt h.h⟩
theorem sj (h:QT X a ta):QT X (.UnaryOp .Not a pos) (cf ta):=⟨tU h.h⟩
theorem tB (h:QE X a g)(he:∀whole,isTrue a X.env whole=(do let v ←whole;standAt a.pos;holding [v] (truthy v)):=by intro _;rfl):QT X a (bP g):=⟨tQ h.h he⟩
theorem tO:QA X [] af:=⟨qV⟩
theorem xL {gr:GA}(ha:QE X e g)(hr:QA X es gr)(h:aQ e=true:=by rfl):QA X (e::es) (aa g gr):=⟨wK ha.h hr.h h⟩
theorem rR {x1}(h:QA X es gA):QE X (.Tuple es x1 pos) (cX gA):=⟨qM h.h⟩
theorem tF (h:QA X es gA):QE X (.List es pos) (bU gA):=⟨tv h.h⟩
theorem rM (h:QA X es gA):QE X (.List es pos) (eN gA):=⟨tH h.h⟩
theorem v7 (ha:QE X a ga)(hb:QE X b gb)(hs:iH b:=by intro _ _;rfl):QE X (.Subscript a b pos) (g2 aB ga gb):=⟨vq ha.h hb.h hs⟩
section
variable {apos cpos:Pos}{k n:Nat}{f:Addr}{fd:FuncData}{ps:List Str}{F:FD}{T:String}{id:String}
theorem l7 (ho:QE X o go)(he:QE X e ge)(h1:aQ e=true:=by rfl)(hbase:attributeBase o "append" X.env (eval o X.env)=eval o X.env:=by rfl)(hline:(apos.endLine==cpos.line)=true:=by rfl):QE X (.Call (.Attribute o "append" apos) [e] [] cpos) (gR go ge):=⟨lI ho.h he.h hbase (sO h1) hline (sE h1) rfl⟩
theorem uw (Fn:cQ X.prog X.w X.K X.mg X.base (dU X.prog X.w) k f fd ps (jB X.K n F))(hr:bf k X.A)(hg:Gl X x)(hm:X.mg x=some (.ref f))(hk:W.keepIn X.K (.ref f)=true)(hb:dB X.K fd ps [])(ha:QA X (e::es) gA)
  (hdb:(x==("__debug__":Str))=false:=by decide) (h1:aQ e=true:=by rfl) (h2:b8 es=true:=by rfl):QE X (.Call (.Name x p) (e::es) [] pos) (ao n F gA):=⟨u4 Fn hr hg hm hk hb ha.h hdb h1 h2⟩
theorem p8 (hc:QC X (.builtin id) F)(hg:Gl X x)(hm:X.mg x=none)(hv:bootBuiltins x=some (.builtin id))(ha:QA X (e::es) gA)(hn:x≠"__name__":=by decide)(hdb:(x==("__debug__":Str))=false:=by decide)
  (h1:aQ e=true:=by rfl) (h2:b8 es=true:=by rfl):QE X (.Call (.Name x p) (e::es) [] pos) (ay F gA):=⟨uo hc.h hg hm hv ha.h hn hdb h1 h2⟩
theorem vP (hc:QC X (.type T) F)(hg:Gl X x)(hm:X.mg x=none)(hv:bootBuiltins x=some (.type T))(ha:QA X (e::es) gA)(hn:x≠"__name__":=by decide)(hdb:(x==("__debug__":Str))=false:=by decide)
  (h1:aQ e=true:=by rfl) (h2:b8 es=true:=by rfl):QE X (.Call (.Name x p) (e::es) [] pos) (ay F gA):=⟨vO hc.h hg hm hv ha.h hn hdb h1 h2⟩
theorem uM (hT:eO T)(hv:bootBuiltins x=some (.type T))(hg:Gl X x)(hm:X.mg x=none)(hgi:Gl X "isinstance")(hmi:X.mg "isinstance"=none)(he:QE X e g)
  (h1:aQ e=true:=by rfl) (hn:x≠"__name__":=by decide) (hd:(x==("__debug__":Str))=false:=by decide):QE X (.Call (.Name "isinstance" p) [e,.Name x p2] [] pos) (b9 T g):=⟨uT hT hv hg hm hgi hmi he.h h1 hn hd⟩
end
theorem vy {tg:Expr}(hg:Gl X "range")(hm:X.mg "range"=none)(ha:QA X [a] gA)(h1:aQ a=true:=by rfl):QI X tg (.Call (.Name "range" p) [a] [] pos) (cD gA):=⟨wg hg hm ha.h h1⟩
theorem qT {tg:Expr}(h:QE X e g):QI X tg e (cb g):=⟨s0 h.h⟩
section
variable {scope:Scope}{R:List Str}{iter elt:Expr}{ifs:List Expr}{gI:GI}{gC:GT}{px:Pos}{mk:List D→am→aE D}
theorem lx {xs:List Str}:oZ X scope xs R [] d8:=⟨mI⟩
theorem lA {xs:List Str}(h:∀fp s2 H2 C,QT (ak X scope xs R fp s2 H2 C) c ta):oZ X scope xs R [c] ta:=⟨nP fun fp s2 H2 C=>(h fp s2 H2 C).h⟩
theorem o0 (hS:bp scope X.env.kindOf [x] R X.N=true)(hm:mk=aI∨mk=bM)(hi:QI X (.Name x px) iter gI)(hts:oZ X scope [x] R ifs gC)(he:∀fp s H C,QE (ak X scope [x] R fp s H C) elt ge)
  (hc:X.calm=true:=by rfl) (hs:∀x,foldedSetIterable iter X.env x=pure x:=by intro _;rfl):QE X (.ListComp elt [⟨.Name x px,iter,ifs,0⟩] scope pos) (cq gI gC ge mk):=⟨pE hS hc hm hi.h hts.h (fun fp s H C=>(he fp s H C).h) hs⟩
theorem rg (n:Nat){is:List Nat}(h:is.all (fun i=>decide (i<n))=true:=by rfl):QO n (cg is):=⟨oB h⟩
theorem iy {xs:List Str}{fp:List Addr}{s:Shared}{H:Hp}{C:Addr}{y:Str}(hS:bp scope X.env.kindOf xs R X.N=true)(h:y∈xs):(ak X scope xs R fp s H C).env.scope.names.lookup y=some .local:=lookup_relabel_local ((aS.of hS).own y h)
theorem yk {xs:List Str}{fp:List Addr}{s:Shared}{H:Hp}{C:Addr}{y:Str}(i:Nat)(hS:bp scope X.env.kindOf xs R X.N=true)(hi:(xs++R)[i]?=some y:=by rfl)(hx:y∈xs:=by simp):QG (ak X scope xs R fp s H C) (.Name y pos) (bX i):=
 ⟨iN (X:=ak X scope xs R fp s H C) (aS.of hS).nd hi (.inl (iy hS hx)) (.inr (iy hS hx))⟩
theorem nw {tg:Expr}{sg:GG}(xs:List Str)(hS:bp scope X.env.kindOf xs R X.N=true)(hm:mk=aI∨mk=bM)(own:QO xs.length sg)(hi:QI X tg iter gI)(hg:∀fp s H C,QG (ak X scope xs R fp s H C) tg sg)(hts:oZ X scope xs R ifs gC)(he:∀fp s H C,QE (ak X scope xs R fp s H C) elt ge)
  (hc:X.calm=true:=by rfl) (hs:∀x,foldedSetIterable iter X.env x=pure x:=by intro _;rfl):QE X (.ListComp elt [⟨tg,iter,ifs,0⟩] scope pos) (aP gI xs.length sg gC ge mk):=⟨jF hS hc hm hi.h own.h (fun fp s H C=>(hg fp s H C).h) hts.h (fun fp s H C=>(he fp s H C).h) hs⟩
theorem jf {tg:Expr}{sg:GG}(xs:List Str){j:Nat}{y:Str}{py spos:Pos}(hS:bp scope X.env.kindOf xs R X.N=true)(hm:mk=aI∨mk=bM)(own:QO xs.length sg)(hN:X.N.Nodup)(hi:QI X tg iter gI)(hg:∀fp s H C,QG (ak X scope xs R fp s H C) tg sg)(hts:oZ X scope xs R ifs gC)(he:∀fp s H C,QE (ak X scope xs R fp s H C) elt ge)
  (hc:X.calm=true:=by rfl) (hj:X.N[j]?=some y:=by rfl) (hy:X.env.scope.names.lookup y=some .local:=by rfl) (hsw:swapsWith (.ListComp elt [⟨tg,iter,ifs,0⟩] scope pos) (some (.Name y py)) spos.line X.env=pure true:=by rfl)
  (hs:∀x,foldedSetIterable iter X.env x=pure x:=by intro _;rfl):QS X (.Assign [.Name y py] (.ListComp elt [⟨tg,iter,ifs,0⟩] scope pos) spos) (ax j (aP gI xs.length sg gC ge mk)):=⟨jh hS hc hm hi.h own.h (fun fp s H C=>(hg fp s H C).h) hts.h (fun fp s H C=>(he fp s H C).h) hN hj hy hsw hs⟩
end
def eG:Expr→Bool
 | .ListComp ..=>false
 | .SetComp ..=>false
 | .DictComp ..=>false
 | _=>true
theorem eL {t:Option Expr}{l:Nat}{env:Env}(h:eG e=true):swapsWith e t l env=pure false:=by
 cases e <;> first|rfl|exact ff h
section
variable {st:Stmt}{stmts:List Stmt}{t u:GS}
theorem tm:QB X [] bo:=⟨td⟩
theorem pf (h1:QS X st t)(h2:QB X stmts u):QB X (st::stmts) (ar t u):=⟨pT h1.h h2.h⟩
theorem rL (h1:QS X st t):QB X [st] t:=⟨tL h1.h⟩
theorem qF (i:Nat){x:Str}(hN:X.N.Nodup)(he:QE X e g)(hi:X.N[i]?=some x:=by rfl)(hx:n8 X.env.scope x:=by first|exact Or.inl rfl|exact Or.inr rfl)(hs:eG e=true:=by rfl)(hf:X.fn x=true∨X.env.scope.names.lookup x=some .local:=by first|exact .inl rfl|exact .inr rfl) :
  QS X (.Assign [.Name x pos'] e pos) (ax i g):=⟨ss i hN he.h hi hx (eL hs) hf⟩
theorem tj (he:QE X e g):QS X (.Return (some e) pos) (bT g):=⟨qJ he.h⟩
theorem pq (he:QE X e g)(hs:eG e=true:=by rfl):QS X (.Expr e pos) (dS g):=⟨oH he.h (eL hs)⟩
theorem uB {a b:List Stmt}{tc:GT}(hc:QT X c tc)(ha:QB X a t)(hb:QB X b u):QS X (.If c a b pos) (dR tc t u):=⟨ve hc.h ha.h hb.h⟩
theorem qn (i:Nat){x:Str}(hN:X.N.Nodup)(hi:X.N[i]?=some x:=by rfl)(hx:n8 X.env.scope x:=by first|exact Or.inl rfl|exact Or.inr rfl)(hf:X.fn x=true∨X.env.scope.names.lookup x=some .local:=by first|exact .inl rfl|exact .inr rfl):QG X (.Name x pos) (bX i):=⟨gg i hN hi hx hf⟩
theorem oY:vX X [] []:=⟨ou⟩
theorem uJ {i:Nat}{is:List Nat}(h1:QG X e (bX i))(h2:vX X es is)(hs:(assignEach (e::es) X.env).map (·.2)=assign e X.env::(assignEach es X.env).map (·.2):=by rfl):vX X (e::es) (i::is):=⟨my h1.h h2.h hs⟩
theorem qH {is:List Nat}{k n:Nat}(h:vX X es is)(hc:X.calm=true:=by rfl)(hl:is.length=n:=by rfl)(hn:(assignEach es X.env).length=n:=by rfl)(hst:(assignEach es X.env).findIdx? (·.1)=none:=by rfl):QG X (.Tuple es k pos) (cg is):=⟨rN hc h.h hl hn hst⟩
theorem sk {tg:Expr}{s:GG}(he:QE X e g)(hg:QG X tg s)(hs:eG e=true:=by rfl)(hw:swappedStores [tg] e X.env=pure none:=by rfl)(h1:(assignEach [tg] X.env).map (·.2)=[assign tg X.env]:=by rfl):QS X (.Assign [tg] e pos) (g6 s g):=⟨rQ he.h hg.h (eL hs) hw h1⟩
theorem rp {ip:Pos}(he:QE X e g)(ho:QE X o go)(hi:QE X i gi)
  (ha:∀v,assign (.Subscript o i ip) X.env v=(do
   let ov ←holding [v] (eval o X.env)
   let iv ←holding [v,ov] (eval i X.env)
   standAt ip
   holding [v,ov,iv] (setItem ov iv v)
   release [v,ov,iv] []):=by intro _;rfl)
  (hs:eG e=true:=by rfl) (hw:swappedStores [.Subscript o i ip] e X.env=pure none:=by rfl):QS X (.Assign [.Subscript o i ip] e pos) (cO go gi g):=⟨sd he.h ho.h hi.h ha (by unfold swapsWithSole;exact eL hs) hw rfl⟩
theorem rW {tg iter:Expr}{body:List Stmt}{gI:GI}{sg:GG}{gB:GS}(hp:PassesOwn (model X.prog X.w) X.A X.env X.xe)(hi:QI X tg iter gI)(hg:QG X tg sg)(hb:QB X body gB)(hc:X.calm=true:=by rfl)(hs:∀x,foldedSetIterable iter X.env x=pure x:=by intro _;rfl) :
  QS X (.For tg iter body [] pos) (ee gI sg gB):=⟨sR hp hc hi.h hg.h hb.h hs⟩
end
end
structure Mf (K:W.Frag)(C:Addr)(x qual:Str)(st:Stmt)(f:Addr)(fd:FuncData)(ps:List Str):Prop where
 F:oJ K x qual st f fd
 me:xg K C x f
 b:dB K fd ps []
theorem vm {P:Program}{w:World}{K:W.Frag}{mg:Str→Option Value}{base:Heap}{x qual:Str}{st:Stmt}{f:Addr}{fd:FuncData}{N ps:List Str}{k n:Nat}{g:GS}(F:oJ K x qual st f fd)(S:cr N ps (aq st))(hn:ps.length=n)
  (hbody:∀(cdv:Value) (A:Around) (outer:List Env) (s:Shared) (H:Hp) (E:XK),bf k (A.deeper (envOfC qual (aq st) s.heap.objs.size f cdv))→QB (dA (dU P w) P w K mg base N qual (aq st) f cdv A outer s H E) (a7 st) g) :
  cQ P w K mg base (dU P w) (k+1) f fd ps (jB K n (dC (N.length-n) g)):=xT F S hn fun cdv A outer s H E hr=>(hbody cdv A outer s H E hr).h
theorem qN {P:Program}{w:World}{K:W.Frag}{mg:Str→Option Value}{base:Heap}{x:Str}{st:Stmt}{f c Pt:Addr}{fd:FuncData}{N ps:List Str}{k n:Nat}{g:GS}(F:oJ K x x st f fd)(hns:W.nsIn K mainGlobals x=some (some (.ref f)))(T:jy K x c Pt)(S:cr N ps (aq st))(hn:ps.length=n)
  (hbody:∀(A:Around) (outer:List Env) (s:Shared) (H:Hp) (E:XK),bf k (A.deeper (envOfC x (aq st) s.heap.objs.size f (.ref c)))→QB (dA (dU P w) P w K mg base N x (aq st) f (.ref c) A outer s H E) (a7 st) g) :
  cQ P w K mg base (dU P w) (k+1) f fd ps (jB K n (dC (N.length-n) g)):=wq F hns T S hn fun A outer s H E hr=>(hbody A outer s H E hr).h
theorem pQ {l:W.OpenLaw}{n k:Nat}{q:Program}{loose:List Str}{XP:(Str→Option Value)→Heap→Prop}{YP:World→Heap→Prop}{d:DefRec}{K:Params→W.Frag}{x:Str}{F:FD}
  (hn:l.most=some n) (hn2:n≤sizeLine) (hdf:d.params.defaults=[]) (hr:bf k callerA) (hY:∀(w:World) (h:Heap),YP w h→(K w.params).In h)
  (hF:∀(w:World) (mg:Str→Option Value) (fa:Addr) (h:Heap),(K w.params).In h→h.Ns mainGlobals mg→mg d.name=some (.ref fa)→
   ∃fd:FuncData,(∀(s:Shared) (u:Value),BindsTo s fd ⟨[u],[]⟩ [(x,u)])∧∀base:Heap,(K w.params).In base→base.Ns mainGlobals mg→cQ l.prog w (K w.params) mg base (dU l.prog w) k fa fd [x] (jB (K w.params) 1 F))
  (tabs:∀w:World,∃(ls:List (Str×DefRec×Addr×Addr)) (bm:Addr),(∀p∈ls,(recsOf q).find? (fun e=>e.name==p.1)=some p.2.1∧W.tabIn (K w.params) p.1=some (p.2.2.1,p.2.2.2)∧(K w.params).lookup p.2.2.2=none)∧
   (∀y,y∈aN→W.nsIn (K w.params) mainGlobals y=some none∨∃p∈ls,p.1=y)∧W.nsIn (K w.params) mainGlobals "__builtins__"=some (some (.ref bm))∧(K w.params).lookup bm=none)
  (ht:∀ns:List Int,ns.length≤n→∃M',F [.ro (ns.map D.int)] []=.ok (.bl true) M') :
  W.WalkO q loose XP YP l.row.toRowW d [] (fun f vs=>PySem.call f vs):=
 qZ (CX:=fun w=>dU l.prog w) (sp:=fun w=>jB (K w.params) 1 F) hn hn2 hdf hr hY hF tabs (fun w H a ns hl tb hS=>s9 tb hS (ht ns hl)) fun w H s e s' z=>vd z
theorem ni {q:Program}{K:W.Frag}:∀p∈([]:List (Str×DefRec×Addr×Addr)),(recsOf q).find? (fun e=>e.name==p.1)=some p.2.1∧W.tabIn K p.1=some (p.2.2.1,p.2.2.2)∧K.lookup p.2.2.2=none:=fun _ h=>by cases h
theorem lX {q:Program}{K:W.Frag}{x:Str}{d:DefRec}{c P:Addr}{ls:List (Str×DefRec×Addr×Addr)}(h1:(recsOf q).find? (fun e=>e.name==x)=some d)(h2:W.tabIn K x=some (c,P))(h3:K.lookup P=none)
  (h:∀p∈ls,(recsOf q).find? (fun e=>e.name==p.1)=some p.2.1∧W.tabIn K p.1=some (p.2.2.1,p.2.2.2)∧K.lookup p.2.2.2=none) :
  ∀p∈(x,d,c,P)::ls,(recsOf q).find? (fun e=>e.name==p.1)=some p.2.1∧W.tabIn K p.1=some (p.2.2.1,p.2.2.2)∧K.lookup p.2.2.2=none:=fun p hp=>by
 rcases mem_cons.mp hp with rfl|hp
 ·exact⟨h1,h2,h3⟩
 ·exact h p hp
theorem jD {φ:Str→Prop}(h1:φ "ink_shown")(h2:φ "table_within")(h3:φ "slots_given")(h4:φ "cast_on_slots"):∀y,y∈aN→φ y:=fun y hy=>by
 simp only[aN,mem_cons,not_mem_nil,or_false] at hy;rcases hy with rfl|rfl|rfl|rfl <;> assumption
theorem pN {q:Program}{K:W.Frag}{ls:List (Str×DefRec×Addr×Addr)}{bm:Addr}(h:∀p∈ls,(recsOf q).find? (fun e=>e.name==p.1)=some p.2.1∧W.tabIn K p.1=some (p.2.2.1,p.2.2.2)∧K.lookup p.2.2.2=none)
  (h2:∀y,y∈aN→W.nsIn K mainGlobals y=some none∨∃p∈ls,p.1=y) (h3:W.nsIn K mainGlobals "__builtins__"=some (some (.ref bm))) (h4:K.lookup bm=none) :
  ∃(ls:List (Str×DefRec×Addr×Addr)) (bm:Addr),(∀p∈ls,(recsOf q).find? (fun e=>e.name==p.1)=some p.2.1∧W.tabIn K p.1=some (p.2.2.1,p.2.2.2)∧K.lookup p.2.2.2=none)∧
   (∀y,y∈aN→W.nsIn K mainGlobals y=some none∨∃p∈ls,p.1=y)∧W.nsIn K mainGlobals "__builtins__"=some (some (.ref bm))∧K.lookup bm=none:=⟨ls,bm,h,h2,h3,h4⟩
theorem rJ {K:W.Frag}{x:Str}{f c P:Addr}{oc occ:Value}{od odc:Option Addr}{fd:FuncData}{sl slc:Array (Option Value)}{vs:Array Value}
  (a:W.nsIn K mainGlobals x=some (some (.ref f))) (l:K.lookup f=some ⟨oc,od,.func fd,sl⟩) (ec:fd.code=.ref c) (lc:K.lookup c=some ⟨occ,odc,.fields vs,slc⟩) (h11:vs[11]?=some (.ref P)):W.tabIn K x=some (c,P):=by
 unfold W.tabIn;rw[a];dsimp only;rw[l];dsimp only;rw[ec];dsimp only;rw[lc];dsimp only;rw[h11]
end DL
namespace PySem
end PySem
namespace L2
open PySem PySem.Spec PyProof.Rows List
end L2
namespace DL
open PySem PySem.Spec PyProof.Rows L2 List
section
variable {X:Cx}{pos apos cpos:Pos}{o e f:Expr}
theorem hZ {K:W.Frag}{θ:List Addr}{H:Hp}:∀ns:List Int,aF K θ H (ns.map D.int) (ns.map V.int)
 | []=>rfl
 | n::ns=>⟨_,_,rfl,rfl,hZ ns⟩
end
end DL
namespace L2
open PySem PySem.Spec PyProof.Rows List
end L2
namespace DL
open PySem PySem.Spec PyProof.Rows L2 List
end DL
namespace L2
open PySem PySem.Spec PyProof.Rows List
end L2
namespace DL
open PySem PySem.Spec PyProof.Rows L2 List
section
variable {X:Cx}
theorem jr {K:W.Frag}{θ:List Addr}{H:Hp}{ds:List D}{vs:List V}(h:aF K θ H ds vs):∀k:Nat,aF K θ H (List.replicate k ds).flatten (List.replicate k vs).flatten
 | 0=>rfl
 | k+1=>by
  rw[List.replicate_succ,List.replicate_succ,List.flatten_cons,List.flatten_cons];exact bJ h (jr h k)
end
theorem fR {N ps:List Str}{sc:Scope}(h1:sc.kind=.function:=by rfl)(h2:sc.isCoroutine=false:=by rfl)(h3:sc.isGenerator=false:=by rfl)(h4:N.Nodup:=by decide +kernel)(h5:N.take ps.length=ps:=by rfl)
  (h6:∀x∈ps,sc.names.lookup x=some .local∨sc.names.lookup x=some .cell:=by decide +kernel) (h7:∀y∈sc.names,y.2≠.free:=by decide +kernel):cr N ps sc:=⟨h1,h2,h3,h4,h5,h6,h7⟩
section
variable {X:Cx}{e:Expr}{es:List Expr}{x:Str}{p pos:Pos}{gA:GA}{k k' n:Nat}{f:Addr}{fd:FuncData}{ps:List Str}{F:FD}{st:Stmt}{id:String}{T:String}
theorem vQ (hc:QC X (.builtin id) F)(hm:X.mg x=none)(hv:bootBuiltins x=some (.builtin id))(ha:QA X (e::es) gA)(hg:Gl X x:=by rfl)(hn:x≠"__name__":=by decide)(hdb:(x==("__debug__":Str))=false:=by decide)
  (h1:aQ e=true:=by rfl) (h2:b8 es=true:=by rfl):QE X (.Call (.Name x p) (e::es) [] pos) (ay F gA):=p8 hc hg hm hv ha hn hdb h1 h2
end
def FF (K:W.Frag)(mg:Str→Option Value)(x:Str)(st:Stmt)(ps:List Str):Prop:=∃f fd,Fn K mg x st f fd ps
def KC (K:W.Frag)(mg:Str→Option Value)(c:Str)(C:Addr):Prop:=Kc K mg c C∧W.makesIn K C=true∧W.keepIn K (.ref C)=true
def MF (K:W.Frag)(mg:Str→Option Value)(c m q:Str)(st:Stmt)(ps:List Str):Prop:=∃C f fd,KC K mg c C∧Mf K C m q st f fd ps
def LF (K:W.Frag)(mg:Str→Option Value)(x:Str)(st:Stmt)(ps:List Str):Prop:=∃f fd c P,Fn K mg x st f fd ps∧W.nsIn K mainGlobals x=some (some (.ref f))∧jy K x c P
def NA (K:W.Frag)(mg:Str→Option Value)(c f:Str):Prop:=∃C,KC K mg c C∧sV K C f
def EX (K:W.Frag)(mg:Str→Option Value)(x:Str):Prop:=∃C,Ec K mg x C
def IX (K:W.Frag)(mg:Str→Option Value)(x:Str)(tab:List (Str×Bool)):Prop:=∃G,Ec K mg x G∧∀p∈tab,∃C,Ec K mg p.1 C∧W.mroIn K C (.ref G)=some p.2
def IB (K:W.Frag)(mg:Str→Option Value)(x:String)(tab:List (Str×Bool)):Prop:=∀p∈tab,∃C,Ec K mg p.1 C∧W.mroIn K C (.type x)=some p.2
def Ls {α:Type}(P:α→Prop)(l:List α):Prop:=∀t∈l,P t
section
variable {α β γ:Type}{P:α→Prop}{l:List α}{a:α}
theorem Ls.nil:Ls P []:=fun _ h=>by cases h
theorem Ls.cons (h:P a)(t:Ls P l):Ls P (a::l):=fun x hx=>by
 rcases mem_cons.mp hx with e|e
 ·rw[e];exact h
 ·exact t x e
end
structure RN (l c:Nat)(xs R:List Str):Prop
theorem rn (l c:Nat)(xs R:List Str):RN l c xs R:=⟨⟩
def Ok (P:Program)(w:World)(K:W.Frag)(mg:Str→Option Value)(base:Heap)(x:Str)(k n:Nat)(F:FD):Prop:=
 ∃f fd ps,cQ P w K mg base (dU P w) k f fd ps (jB K n F)∧mg x=some (.ref f)∧W.keepIn K (.ref f)=true∧dB K fd ps []
section
variable {P:Program}{w:World}{K:W.Frag}{mg:Str→Option Value}{base:Heap}{x c m q:Str}{st:Stmt}{N ps:List Str}{k n:Nat}{g:GS}{F:FD}
theorem rO (h:Ok P w K mg base x k n F):Ok P w K mg base x k n fun ds M=>ma M.length (F ds M):=by
 obtain⟨f,fd,ps,h1,h2,h3,h4⟩:=h;exact⟨f,fd,ps,sW h1,h2,h3,h4⟩
theorem nz (T:FF K mg x st ps)(N:List Str)(S:cr N ps (aq st))(hn:ps.length=n)
  (hb:∀(f:Addr) (cdv:Value) (A:Around) (outer:List Env) (s:Shared) (H:Hp) (E:XK),N.Nodup→bf k (A.deeper (envOfC x (aq st) s.heap.objs.size f cdv))→QB (dA (dU P w) P w K mg base N x (aq st) f cdv A outer s H E) (a7 st) g) :
  Ok P w K mg base x (k+1) n (dC (N.length-n) g):=by
 obtain⟨f,fd,T⟩:=T;exact⟨f,fd,ps,vm T.F S hn fun cdv A outer s H E hr=>hb f cdv A outer s H E S.nd hr,T.m,T.F.kp,T.b⟩
theorem wZ (T:LF K mg x st ps)(N:List Str)(S:cr N ps (aq st))(hn:ps.length=n)
  (hb:∀(f c Pt:Addr) (A:Around) (outer:List Env) (s:Shared) (H:Hp) (E:XK),N.Nodup→jy K x c Pt→bf k (A.deeper (envOfC x (aq st) s.heap.objs.size f (.ref c)))→QB (dA (dU P w) P w K mg base N x (aq st) f (.ref c) A outer s H E) (a7 st) g) :
  Ok P w K mg base x (k+1) n (dC (N.length-n) g):=by
 obtain⟨f,fd,c,Pt,T,hns,tb⟩:=T;exact⟨f,fd,ps,qN T.F hns tb S hn fun A outer s H E hr=>hb f c Pt A outer s H E S.nd tb hr,T.m,T.F.kp,T.b⟩
end
section
variable {X:Cx}{e a o value:Expr}{es:List Expr}{x c m f:Str}{p p2 pos apos pos':Pos}{gA:GA}{g go gv:GE}{k k' n:Nat}{F:FD}{tab:List (Str×Bool)}{bs:List Str}
theorem uU (h:Ok X.prog X.w X.K X.mg X.base x k n F)(hr:bf k' X.A)(ha:QA X (e::es) gA)(hk:k≤k':=by first|decide|omega)(hg:Gl X x:=by rfl)
  (hdb:(x==("__debug__":Str))=false:=by decide) (h1:aQ e=true:=by rfl) (h2:b8 es=true:=by rfl):QE X (.Call (.Name x p) (e::es) [] pos) (ao n F gA):=by
 obtain⟨f,fd,ps,h1',h2',h3,h4⟩:=h;exact uw h1' (hr.mono hk) hg h2' h3 h4 ha hdb h1 h2
end
section
variable {X:Cx}{x:Str}{pos px:Pos}{ge:GE}{scope:Scope}{xs R:List Str}{iter elt tg:Expr}{ifs:List Expr}{gI:GI}{gC:GT}{sg:GG}{mk:List D→am→aE D}{j:Nat}{y:Str}{py spos:Pos}{n:Nat}
theorem mY (hS:bp scope X.env.kindOf [x] X.N X.N=true)(hm:mk=aI∨mk=bM)(hi:QI X (.Name x px) iter gI)(hts:oZ X scope [x] X.N ifs gC)(he:∀fp s H C,QE (ak X scope [x] X.N fp s H C) elt ge)
  (hc:X.calm=true:=by rfl) (hs:∀x,foldedSetIterable iter X.env x=pure x:=by intro _;rfl):QE X (.ListComp elt [⟨.Name x px,iter,ifs,0⟩] scope pos) (cq gI gC ge mk):=o0 hS hm hi hts he hc hs
theorem mh (_:RN pos.line pos.col xs R)(hS:bp scope X.env.kindOf xs R X.N=true)(hm:mk=aI∨mk=bM)(own:QO xs.length sg)(hi:QI X tg iter gI)(hg:∀fp s H C,QG (ak X scope xs R fp s H C) tg sg)(hts:oZ X scope xs R ifs gC)(he:∀fp s H C,QE (ak X scope xs R fp s H C) elt ge)
  (hn:xs.length=n:=by rfl) (hc:X.calm=true:=by rfl) (hs:∀x,foldedSetIterable iter X.env x=pure x:=by intro _;rfl):QE X (.ListComp elt [⟨tg,iter,ifs,0⟩] scope pos) (aP gI n sg gC ge mk):=hn▸nw xs hS hm own hi hg hts he hc hs
theorem iC (_:RN pos.line pos.col xs R)(hS:bp scope X.env.kindOf xs R X.N=true)(hm:mk=aI∨mk=bM)(own:QO xs.length sg)(hN:X.N.Nodup)(hi:QI X tg iter gI)(hg:∀fp s H C,QG (ak X scope xs R fp s H C) tg sg)(hts:oZ X scope xs R ifs gC)(he:∀fp s H C,QE (ak X scope xs R fp s H C) elt ge)
  (hn:xs.length=n:=by rfl) (hc:X.calm=true:=by rfl) (hj:X.N[j]?=some y:=by rfl) (hy:X.env.scope.names.lookup y=some .local:=by rfl) (hsw:swapsWith (.ListComp elt [⟨tg,iter,ifs,0⟩] scope pos) (some (.Name y py)) spos.line X.env=pure true:=by rfl)
  (hs:∀x,foldedSetIterable iter X.env x=pure x:=by intro _;rfl):QS X (.Assign [.Name y py] (.ListComp elt [⟨tg,iter,ifs,0⟩] scope pos) spos) (ax j (aP gI n sg gC ge mk)):=hn▸jf xs hS hm own hN hi hg hts he hc hj hy hsw hs
end
structure Tx (tab:List (Str×Stmt×List Str))(mtab:List (Str×Str×Str×Stmt×List Str))(ls:List (Str×Stmt×List Str))(zs es:List Str)(rs:List (Str×List (Str×Bool)))(vt:List (Str×Bool))(nas:List (Str×Str))(cs:List (Str×Str))(ci:List (Str×Int))
  (P:Program) (w:World) (K:W.Frag) (mg:Str→Option Value) (base:Heap):Prop where
 f:Ls (fun t=>FF K mg t.1 t.2.1 t.2.2) tab
 m:Ls (fun t=>MF K mg t.1 t.2.1 t.2.2.1 t.2.2.2.1 t.2.2.2.2) mtab
 l:Ls (fun t=>LF K mg t.1 t.2.1 t.2.2) ls
 z:∀x∈zs,mg x=none
 e:∀x∈es,EX K mg x
 r:Ls (fun t=>IX K mg t.1 t.2) rs
 b:IB K mg "ValueError" vt
 a:∀t∈nas,NA K mg t.1 t.2
 s:Ls (fun t=>∃tk,mg t.1=some (.str t.2 tk)) cs
 i:Ls (fun t=>∃tk,mg t.1=some (.int t.2 tk)) ci
section
variable {K:W.Frag}{mg:Str→Option Value}{x c m q:Str}{st:Stmt}{ps:List Str}{l:List (Str×Stmt×List Str)}{l':List (Str×Str×Str×Stmt×List Str)}
theorem mK (h:Ls (fun t=>FF K mg t.1 t.2.1 t.2.2) l)(i:Nat)(e:l[i]?=some (x,st,ps):=by rfl):FF K mg x st ps:=h _ (mem_of_getElem? e)
theorem xw (h:Ls (fun t=>LF K mg t.1 t.2.1 t.2.2) l)(i:Nat)(e:l[i]?=some (x,st,ps):=by rfl):LF K mg x st ps:=h _ (mem_of_getElem? e)
end
section
variable {K:W.Frag}{h:Heap}{mg:Str→Option Value}{x c m q f':Str}{st:Stmt}{ps:List Str}{f C G:Addr}{oc kV dc pm cd ct:Value}{od an:Option Addr}{sl:Array (Option Value)}
theorem vC (X:K.In h)(Gm:h.Ns mainGlobals mg)(a:W.nsIn K mainGlobals x=some (some (.ref f)))(l:K.lookup f=some ⟨oc,od,.func (W.fnOf x x (cA st) (a7 st) (aq st) .none kV dc pm an cd ct),sl⟩)(c:W.codeIn K cd x=true)(k:W.keepIn K (.ref f)=true)
  (b:∀(kV doc pm:Value) (an:Option Addr) (cdv ct:Value) (us:List Value),us.length=ps.length→bindArgs (W.fnOf x x (cA st) (a7 st) (aq st) .none kV doc pm an cdv ct) ⟨us,[]⟩=pure (ps.zip us)):FF K mg x st ps:=
 ⟨f,_,iB (st:=st) l c k,W.mg_of X Gm a,(iB (st:=st) l c k).binds b⟩
theorem vJ (kC:KC K mg c C)(a:W.findIn K (.ref C) f'=some none):NA K mg c f':=⟨C,kC,a⟩
theorem vg (h:Ec K mg x C):EX K mg x:=⟨C,h⟩
theorem uQ {tab:List (Str×Bool)}(h:Ec K mg x G)(t:Ls (fun p=>∃C,Ec K mg p.1 C∧W.mroIn K C (.ref G)=some p.2) tab):IX K mg x tab:=⟨G,h,t⟩
theorem xj (X:K.In h)(Gm:h.Ns mainGlobals mg)(e:W.nsIn K mainGlobals x=some none):mg x=none:=W.mg_none_of X Gm e
theorem wa {u:Tok→Value}{tk:Tok}(X:K.In h)(Gm:h.Ns mainGlobals mg)(e:W.nsIn K mainGlobals x=some (some (u tk))):∃tk,mg x=some (u tk):=⟨tk,W.mg_of X Gm e⟩
end
theorem vj {K:W.Frag}{h:Heap}{mg:Str→Option Value}{x:Str}{st:Stmt}{ps:List Str}{f c P:Addr}{oc occ kV dc pm ct:Value}{od odc an:Option Addr}{sl slc:Array (Option Value)}{vs:Array Value}{file:Str}{tf tg tt:Tok}{flags text:Int}{inF:Bool}
  (X:K.In h) (Gm:h.Ns mainGlobals mg) (a:W.nsIn K mainGlobals x=some (some (.ref f))) (l:K.lookup f=some ⟨oc,od,.func (W.fnOf x x (cA st) (a7 st) (aq st) .none kV dc pm an (.ref c) ct),sl⟩) (cc:W.codeIn K (.ref c) x=true) (k:W.keepIn K (.ref f)=true)
  (lc:K.lookup c=some ⟨occ,odc,.fields vs,slc⟩) (hcc:occ=.type "code") (h11:vs[11]?=some (.ref P)) (h18:vs.getD 18 .none=.str file tf) (h7:vs.getD 7 .none=.int flags tg) (h9:vs.getD 9 .none=.bool inF) (h10:vs.getD 10 .none=.int text tt) (ne:c≠P)
  (hm:x∈aN) (un:∀y,y∈aN→y≠x→W.nsIn K mainGlobals y=some none)
  (b:∀(kV doc pm:Value) (an:Option Addr) (cdv ct:Value) (us:List Value),us.length=ps.length→bindArgs (W.fnOf x x (cA st) (a7 st) (aq st) .none kV doc pm an cdv ct) ⟨us,[]⟩=pure (ps.zip us)):LF K mg x st ps:=
 ⟨f,_,c,P,⟨iB (st:=st) l cc k,W.mg_of X Gm a,(iB (st:=st) l cc k).binds b⟩,a,pH hm a l rfl lc hcc h11 h18 h7 h9 h10 ne fun y hy n=>.inl (un y hy n)⟩
theorem sy {l:W.OpenLaw}{w:World}{K:W.Frag}{mg:Str→Option Value}{fa:Addr}{st:Stmt}{k:Nat}{F:FD}(hfa:mg "law"=some (.ref fa))(L:FF K mg "law" st ["script"])
  (h:∀(base:Heap) (f:Addr) (fd:FuncData),Fn K mg "law" st f fd ["script"]→cQ l.prog w K mg base (dU l.prog w) k f fd ["script"] (jB K 1 F))
  (hb:∀(kV doc pm:Value) (an:Option Addr) (cdv ct:Value) (v:Value),bindArgs (W.fnOf "law" "law" (cA st) (a7 st) (aq st) .none kV doc pm an cdv ct) ⟨[v],[]⟩=pure [(("script":Str),v)]) :
  ∃fd:FuncData,(∀(s:Shared) (v:Value),BindsTo s fd ⟨[v],[]⟩ [("script",v)])∧∀base:Heap,K.In base→base.Ns mainGlobals mg→cQ l.prog w K mg base (dU l.prog w) k fa fd ["script"] (jB K 1 F):=by
 obtain⟨f,fd,L⟩:=L;have e:=hfa.symm.trans L.m;cases e;refine⟨fd,fun s v=>?_,fun base _ _=>h base _ fd L⟩;obtain⟨oc,od,kV,doc,pm,an,cdv,ct,osl,rfl,lk,hcd⟩:=L.F.ex;exact .of_eq (hb kV doc pm an cdv ct v)
end DL
namespace DL
open PySem PySem.Spec PyProof.Rows PySem.W L2 List
section
variable {key:Nat→Int}{N:Nat}{s:Shared}{cmp:Nat→Nat→(Bool→Shared→Prop)→Shared→Prop}
def kp (key:Nat→Int)(p:Array Nat)(k:Nat):Int:=key (p.getD k 0)
def jN (N:Nat)(p:Array Nat):Prop:=∀k,p.getD k 0<N
def up (key:Nat→Int)(p:Array Nat)(n:Nat):Prop:=∀k,k+1<n→kp key p k≤kp key p (k+1)
def nO (key:Nat→Int)(p:Array Nat)(n:Nat):Prop:=∀k,k+1<n→kp key p (k+1)≤kp key p k
def dF (key:Nat→Int)(N:Nat)(s:Shared)(cmp:Nat→Nat→(Bool→Shared→Prop)→Shared→Prop):Prop:=∀i j C,i<N→j<N→C (decide (key i<key j)) s→cmp i j C s
theorem hG {p q:Array Nat}{i j:Nat}(h:p[i]?=q[j]?):kp key p i=kp key q j:=by
 unfold kp;rw[Array.getD_eq_getD_getElem?,Array.getD_eq_getD_getElem?,h]
theorem mP {p q:Array Nat}(h:∀k:Nat,∃j:Nat,p[k]?=q[j]?)(i:jN N q):jN N p:=fun k=>by
 obtain⟨j,e⟩:=h k;have:=i j;rw[Array.getD_eq_getD_getElem?] at this ⊢;rw[e];exact this
theorem qa {p:Array Nat}{n:Nat}(h:up key p n):∀(d i:Nat),i+d<n→kp key p i≤kp key p (i+d)
 | 0,i,_=>Int.le_refl _
 | d+1,i,q=>Int.le_trans (qa h d i (by omega)) (h (i+d) (by omega))
theorem gx {p:Array Nat}{n i j:Nat}(h:up key p n)(hij:i≤j)(hj:j<n):kp key p i≤kp key p j:=by
 have:=qa h (j-i) i (by omega);rwa [show i+(j-i)=j by omega] at this
theorem j2 {p:Array Nat}{i j:Nat}(hj:j≤p.size)(k:Nat):(kas_rev p i j)[k]?=if i≤k∧k<j then p[i+j-1-k]? else p[k]?:=getElem?_mirror_all hj k
theorem fU {p:Array Nat}{i j:Nat}(hj:j≤p.size)(h:jN N p):jN N (kas_rev p i j):=mP (fun k=>by
 rw[j2 hj k];split
 ·exact⟨_,rfl⟩
 ·exact⟨_,rfl⟩) h
theorem gq {p:Array Nat}{i j:Nat}(hj:j≤p.size)(e:∀k,i≤k→k<j→kp key p k=kp key p (j-1))(k:Nat):kp key (kas_rev p i j) k=kp key p k:=by
 have h:=j2 (i:=i) hj k
 by_cases q:i≤k∧k<j
 ·rw[if_pos q] at h;rw[hG h,e _ (by omega) (by omega),e k q.1 q.2]
 ·rw[if_neg q] at h;exact hG h
theorem j1 (hc:dF key N s cmp){p:Array Nat}(hp:jN N p){Q:Nat→Shared→Prop}:∀(f n:Nat),1≤n→up key p n→(∀m,n≤m→m≤n+f→up key p m→(m<n+f→kp key p m<kp key p (m-1))→Q m s)→(kas_asc p f n).kasWp cmp Q s
 | 0,n,h1,u,h=>h n (Nat.le_refl _) (Nat.le_refl _) u (fun z=>absurd z (by omega))
 | f+1,n,h1,u,h=>by
  refine hc _ _ _ (hp _) (hp _) ?_
  by_cases q:kp key p n<kp key p (n-1)
  ·rw[decide_eq_true (show key (p.getD n 0)<key (p.getD (n-1) 0) from q)];exact h n (Nat.le_refl _) (by omega) u fun _=>q
  ·rw[decide_eq_false (show¬key (p.getD n 0)<key (p.getD (n-1) 0) from q)];refine j1 hc hp f (n+1) (by omega) (fun k hk=>?_) fun m a b c d=>h m (by omega) (by omega) c fun z=>d (by omega)
   by_cases e:k+1<n
   ·exact u k e
   ·have:k=n-1:=by omega
    subst this;rw[show n-1+1=n by omega];omega
theorem fH (hc:dF key N s cmp){Q:Array Nat×Nat×Nat→Shared→Prop}:∀(f:Nat) (p:Array Nat) (n q:Nat),jN N p→n+f≤p.size→q+1≤n→nO key p n→(∀k,n-(q+1)≤k→k<n→kp key p k=kp key p (n-1))→
  (∀p' n' q',p'.size=p.size→p'.Perm p→jN N p'→n≤n'→n'≤n+f→q'+1≤n'→nO key p' n'→(∀k,n'-(q'+1)≤k→k<n'→kp key p' k=kp key p' (n'-1))→Q (p',n',q') s)→(kas_desc f p n q).kasWp cmp Q s
 | 0,p,n,q,hp,hz,hq,hd,he,h=>h p n q rfl (Array.Perm.refl _) hp (Nat.le_refl _) (Nat.le_refl _) hq hd he
 | f+1,p,n,q,hp,hz,hq,hd,he,h=>by
  refine hc _ _ _ (hp _) (hp _) ?_
  by_cases c:kp key p n<kp key p (n-1)
  ·rw[decide_eq_true (show key (p.getD n 0)<key (p.getD (n-1) 0) from c)];dsimp only;rw[if_pos rfl];have hd':nO key p (n+1):=fun k hk=>by
    by_cases e:k+1<n
    ·exact hd k e
    ·have:k=n-1:=by omega
     subst this;rw[show n-1+1=n by omega];omega
   by_cases z:q>0
   ·rw[if_pos z];have sm:=gq (key:=key) (p:=p) (i:=n-(q+1)) (j:=n) (by omega) he;refine fH hc f (kas_rev p (n-(q+1)) n) (n+1) 0 (fU (by omega) hp) (by rw[kas_rev_size];omega) (by omega) (fun k hk=>by rw[sm,sm];exact hd' k hk) (fun k a b=>by rw[show k=n by omega];rfl) fun p' n' q' a b c1 d e g i j=>h p' n' q' (a.trans (kas_rev_size ..)) (b.trans (mirror_perm ..)) c1 (by omega) (by omega) g i j
   ·rw[if_neg z];exact fH hc f p (n+1) 0 hp (by omega) (by omega) hd' (fun k a b=>by rw[show k=n by omega];rfl) fun p' n' q' a b c1 d e g i j=>h p' n' q' a b c1 (by omega) (by omega) g i j
  ·rw[decide_eq_false (show¬key (p.getD n 0)<key (p.getD (n-1) 0) from c)];dsimp only;rw[if_neg (by simp)];refine hc _ _ _ (hp _) (hp _) ?_
   by_cases c2:kp key p (n-1)<kp key p n
   ·rw[decide_eq_true (show key (p.getD (n-1) 0)<key (p.getD n 0) from c2)];dsimp only;rw[if_pos rfl];exact h p n q rfl (Array.Perm.refl _) hp (Nat.le_refl _) (by omega) hq hd he
   ·rw[decide_eq_false (show¬key (p.getD (n-1) 0)<key (p.getD n 0) from c2)];dsimp only;rw[if_neg (by simp)];have eq:kp key p n=kp key p (n-1):=by omega
    refine fH hc f p (n+1) (q+1) hp (by omega) (by omega) (fun k hk=>?_) (fun k a b=>?_) fun p' n' q' a b c1 d e g i j=>h p' n' q' a b c1 (by omega) (by omega) g i j
    ·by_cases e:k+1<n
     ·exact hd k e
     ·have:k=n-1:=by omega
      subst this;rw[show n-1+1=n by omega];omega
    ·show _=kp key p n
     by_cases e:k<n
     ·rw[he k (by omega) e];omega
     ·rw[show k=n by omega]
theorem jm (hc:dF key N s cmp){p:Array Nat}{n m:Nat}(hp:jN N p)(h1:1≤n)(hn:n≤m)(hz:m≤p.size)(hd:nO key p n){Q:Nat×Array Nat→Shared→Prop}
  (h:∀k p',p'.size=p.size→p'.Perm p→jN N p'→1≤k→k≤m→up key p' k→Q (k,p') s):(kas_tail3 n m p).kasWp cmp Q s:=by
 unfold kas_tail3;rw[KasT.kasWp_bind];have at':∀k,k<n→kp key (kas_rev p 0 n) k=kp key p (n-1-k):=fun k hk=>by
  have e:=j2 (i:=0) (j:=n) (p:=p) (by omega) k;rw[if_pos ⟨by omega,hk⟩] at e;rw[hG e,show 0+n-1-k=n-1-k by omega]
 refine j1 hc (fU (by omega) hp) _ n h1 (fun k hk=>?_) fun k a b c _=>h k _ (kas_rev_size ..) (mirror_perm ..) (fU (by omega) hp) (by omega) (by omega) c
 rw[at' k (by omega),at' (k+1) hk];have:=hd (n-1-(k+1)) (by omega);rwa [show n-1-(k+1)+1=n-1-k by omega] at this
theorem fy (hc:dF key N s cmp){p:Array Nat}{n m:Nat}(hp:jN N p)(hn:n+1≤m)(hz:m≤p.size)(hd:nO key p (n+1)){Q:Nat×Array Nat→Shared→Prop}
  (h:∀k p',p'.size=p.size→p'.Perm p→jN N p'→1≤k→k≤m→up key p' k→Q (k,p') s):(kas_descPart n m p).kasWp cmp Q s:=by
 unfold kas_descPart;rw[KasT.kasWp_bind];refine fH hc _ p (n+1) 0 hp (by omega) (by omega) hd (fun k a b=>by rw[show k=n by omega];rfl) fun p' n' q' a b c d e g i j=>?_
 dsimp only;split
 ·have sm:=gq (key:=key) (p:=p') (i:=n'-(q'+1)) (j:=n') (by omega) j;exact jm hc (fU (by omega) c) (by omega) (by omega) (by rw[kas_rev_size];omega) (fun k hk=>by rw[sm,sm];exact i k hk) fun k p2 a2 b2 c2 d2 e2 g2=>h k p2 (a2.trans ((kas_rev_size ..).trans a)) (b2.trans ((mirror_perm ..).trans b)) c2 d2 e2 g2
 ·exact jm hc c (by omega) (by omega) (by omega) i fun k p2 a2 b2 c2 d2 e2 g2=>h k p2 (a2.trans a) (b2.trans b) c2 d2 e2 g2
theorem mR (hc:dF key N s cmp){p:Array Nat}{m:Nat}(hp:jN N p)(h1:1≤m)(hz:m≤p.size){Q:Nat×Array Nat→Shared→Prop}
  (h:∀k p',p'.size=p.size→p'.Perm p→jN N p'→1≤k→k≤m→up key p' k→Q (k,p') s):(kas_count m p).kasWp cmp Q s:=by
 unfold kas_count;rw[KasT.kasWp_bind];refine j1 hc hp _ 1 (Nat.le_refl _) (fun k hk=>absurd hk (by omega)) fun n a b c d=>?_
 by_cases e:n=m
 ·rw[if_pos (by simp[e])];exact h n p rfl (Array.Perm.refl _) hp a (by omega) c
 ·rw[if_neg (by simp[e])];have lt:=d (by omega)
  by_cases z:n>1
  ·rw[if_pos z];refine hc _ _ _ (hp _) (hp _) ?_
   by_cases t:kp key p 0<kp key p (n-1)
   ·rw[decide_eq_true (show key (p.getD 0 0)<key (p.getD (n-1) 0) from t)];dsimp only;rw[if_pos rfl];exact h n p rfl (Array.Perm.refl _) hp a (by omega) c
   ·rw[decide_eq_false (show¬key (p.getD 0 0)<key (p.getD (n-1) 0) from t)];dsimp only;rw[if_neg (by simp)];have al:∀k,0≤k→k<n→kp key p k=kp key p (n-1):=fun k _ hk=>by
     have x:=gx c (show 0≤k by omega) hk;have y:=gx c (show k≤n-1 by omega) (by omega);omega
    have sm:=gq (key:=key) (p:=p) (i:=0) (j:=n) (by omega) al;refine fy hc (fU (by omega) hp) (by omega) (by rw[kas_rev_size];omega) (fun k hk=>?_) fun k p2 a2 b2 c2 d2 e2 g2=>h k p2 (a2.trans (kas_rev_size ..)) (b2.trans (mirror_perm ..)) c2 d2 e2 g2
    rw[sm,sm]
    by_cases w:k+1<n
    ·rw[al k (by omega) (by omega),al (k+1) (by omega) w];exact Int.le_refl _
    ·have:k=n-1:=by omega
     subst this;rw[show n-1+1=n by omega];omega
  ·rw[if_neg z];have e1:n=1:=by omega
   subst e1;refine fy hc hp (by omega) hz (fun k hk=>?_) h;have:k=0:=by omega
   subst this;exact Int.le_of_lt lt
theorem fQ (hc:dF key N s cmp){p:Array Nat}{k:Nat}(hp:jN N p)(hu:up key p k){Q:Nat→Shared→Prop}:∀(f l r:Nat),l≤r→r≤k→r-l≤f→(∀i,i<l→kp key p i≤kp key p k)→(∀i,r≤i→i<k→kp key p k≤kp key p i)→
  (∀m,m≤k→(∀i,i<m→kp key p i≤kp key p k)→(∀i,m≤i→i<k→kp key p k≤kp key p i)→Q m s)→(kas_place p k f l r).kasWp cmp Q s
 | 0,l,r,h1,h2,h3,a,b,h=>h l (by omega) a fun i x y=>b i (by omega) y
 | f+1,l,r,h1,h2,h3,a,b,h=>by
  unfold kas_place
  by_cases e:l≥r
  ·rw[if_pos e];exact h l (by omega) a fun i x y=>b i (by omega) y
  ·rw[if_neg e];refine hc _ _ _ (hp _) (hp _) ?_
   by_cases t:kp key p k<kp key p ((l+r) / 2)
   ·rw[decide_eq_true (show key (p.getD k 0)<key (p.getD ((l+r) / 2) 0) from t)];dsimp only;rw[if_pos rfl];exact fQ hc hp hu f l _ (by omega) (by omega) (by omega) a (fun i x y=>by
     have:=gx hu x y;omega) h
   ·rw[decide_eq_false (show¬key (p.getD k 0)<key (p.getD ((l+r) / 2) 0) from t)];dsimp only;rw[if_neg (by simp)];exact fQ hc hp hu f _ r (by omega) h2 (by omega) (fun i x=>by
     have:=gx hu (show i≤(l+r) / 2 by omega) (by omega);omega) b h
theorem nW (hc:dF key N s cmp){Q:Array Nat→Shared→Prop}:∀(f:Nat) (p:Array Nat) (k:Nat),jN N p→k+f=p.size→up key p k→(∀p',p'.Perm p→up key p' p.size→Q p' s)→(kas_bin f p k).kasWp cmp Q s
 | 0,p,k,hp,hz,hu,h=>h p (Array.Perm.refl _) (by rw[←hz];exact hu)
 | f+1,p,k,hp,hz,hu,h=>by
  unfold kas_bin;rw[KasT.kasWp_bind];refine fQ hc hp hu k 0 k (Nat.zero_le _) (Nat.le_refl _) (by omega) (fun i x=>absurd x (by omega)) (fun i x y=>absurd x (by omega)) fun m hm a b=>?_
  have at':=getElem?_bubble (xs:=p) (src:=k) (by omega) (k-m) (by omega);have sz:(bubble p k (k-m)).size=p.size:=bubble_size ..;have e1:k-(k-m)=m:=by omega
  rw[e1] at at';refine nW hc f _ (k+1) (mP (fun i=>by
   rw[at' i];split
   ·exact⟨_,rfl⟩
   ·split
    ·exact⟨_,rfl⟩
    ·exact⟨_,rfl⟩) hp) (by rw[sz];omega) (fun i hi=>?_) fun p' x y=>h p' (x.trans (bubble_perm ..)) (by rw[sz] at y;exact y)
  have g:∀i,i≤k→kp key (bubble p k (k-m)) i=if i=m then kp key p k else if m<i then kp key p (i-1) else kp key p i:=fun i hi=>by
   have:=at' i
   by_cases q1:i=m
   ·rw[if_pos q1] at this ⊢;exact hG this
   ·rw[if_neg q1] at this ⊢
    by_cases q2:m<i
    ·rw[if_pos ⟨q2,hi⟩] at this;rw[if_pos q2];exact hG this
    ·rw[if_neg (by omega)] at this;rw[if_neg q2];exact hG this
  rw[g i (by omega),g (i+1) (by omega)]
  by_cases q1:i=m
  ·rw[if_pos q1,if_neg (by omega),if_pos (by omega),show i+1-1=i by omega];exact b i (by omega) (by omega)
  ·rw[if_neg q1]
   by_cases q2:m<i
   ·rw[if_pos q2,if_neg (by omega),if_pos (by omega),show i+1-1=i by omega];have:=hu (i-1) (by omega);rwa [show i-1+1=i by omega] at this
   ·rw[if_neg q2]
    by_cases q3:i+1=m
    ·rw[if_pos q3];exact a i (by omega)
    ·rw[if_neg q3,if_neg (by omega)];exact hu i (by omega)
theorem kP {n:Nat}(hc:dF key n s cmp)(h2:1≤n){Q:Array Nat→Shared→Prop}(h:∀p:Array Nat,p.Perm (List.toArray (List.range n))→up key p n→Q p s):(kas_sort n).kasWp cmp Q s:=by
 unfold kas_sort;rw[KasT.kasWp_bind];have h0:jN n (List.toArray (List.range n)):=fun k=>by
  rw[Array.getD_eq_getD_getElem?,List.getElem?_toArray]
  by_cases q:k<n
  ·rw[getElem?_range q];exact q
  ·rw[getElem?_eq_none (by rw[length_range];omega)];exact h2
 have hz:(List.toArray (List.range n)).size=n:=by simp
 refine mR hc h0 h2 (by omega) fun k p' a b c d e g=>?_
 dsimp only
 by_cases z:k<n
 ·rw[if_pos z];have em:max k 1=k:=by omega
  rw[em];exact nW hc _ p' k c (by omega) g fun p2 x y=>h p2 (x.trans b) (by rw[a,hz] at y;exact y)
 ·rw[if_neg z];have:k=n:=by omega
  subst this;exact h p' b g
end
section
theorem k7:∀a:List Int,HT.lexLt a a=false
 | []=>rfl
 | x::a=>by rw[HT.lexLt_cons,if_pos rfl];exact k7 a
theorem k9:∀a b:List Int,HT.lexLt a b=false→HT.lexLt b a=false→a=b
 | [],[],_,_=>rfl
 | [],_::_,h,_=>by cases h
 | _::_,[],_,h=>by cases h
 | x::a,y::b,h1,h2=>by
  rw[HT.lexLt_cons] at h1 h2
  by_cases e:x=y
  ·subst e;rw[if_pos rfl] at h1 h2;rw[k9 a b h1 h2]
  ·rw[if_neg e,decide_eq_false_iff_not] at h1;rw[if_neg (fun z=>e z.symm),decide_eq_false_iff_not] at h2;omega
theorem fj:∀a b c:List Int,HT.lexLt a b=true→HT.lexLt b c=true→HT.lexLt a c=true
 | [],[],_,h,_=>by cases h
 | [],_::_,[],_,h=>by cases h
 | [],_::_,_::_,_,_=>rfl
 | _::_,[],_,h,_=>by cases h
 | _::_,_::_,[],_,h=>by cases h
 | x::a,y::b,z::c,h1,h2=>by
  rw[HT.lexLt_cons] at h1 h2 ⊢
  by_cases e:x=y
  ·subst e;rw[if_pos rfl] at h1
   by_cases e2:x=z
   ·subst e2;rw[if_pos rfl] at h2 ⊢;exact fj a b c h1 h2
   ·rw[if_neg e2] at h2 ⊢;exact h2
  ·rw[if_neg e,decide_eq_true_iff] at h1
   by_cases e2:y=z
   ·subst e2;rw[if_neg e,decide_eq_true_iff];exact h1
   ·rw[if_neg e2,decide_eq_true_iff] at h2;rw[if_neg (by omega),decide_eq_true_iff];omega
def cR (zs:List (List Int))(z:List Int):Int:=(zs.countP fun y=>HT.lexLt y z:Nat)
theorem kX {α:Type}{p q:α→Bool}:∀{l:List α} {x:α},(∀y,p y=true→q y=true)→x∈l→p x=false→q x=true→l.countP p<l.countP q
 | a::l,x,hs,hx,h1,h2=>by
  rw[List.countP_cons,List.countP_cons];rcases mem_cons.mp hx with e|e
  ·subst e;have:=List.countP_mono_left (l:=l) (fun y _=>hs y);rw[if_neg (by simp[h1]),if_pos h2];omega
  ·have:=kX hs e h1 h2;have h3:=hs a;cases q1:p a with
   | true=>rw[h3 q1];simp only[if_true];omega
   | false=>cases q a <;> simp <;> omega
theorem nY {zs:List (List Int)}{a b:List Int}(ha:a∈zs):HT.lexLt a b=decide (cR zs a<cR zs b):=by
 cases h:HT.lexLt a b with
 | true=>
  have:=kX (l:=zs) (x:=a) (p:=fun y=>HT.lexLt y a) (q:=fun y=>HT.lexLt y b) (fun y q=>fj y a b q h) ha (k7 a) h;exact(decide_eq_true (by unfold cR;omega)).symm
 | false=>
  have:zs.countP (fun y=>HT.lexLt y b)≤zs.countP (fun y=>HT.lexLt y a):=List.countP_mono_left (l:=zs) (p:=fun y=>HT.lexLt y b) (q:=fun y=>HT.lexLt y a) fun y _ q=>by
   have q:HT.lexLt y b=true:=q;show HT.lexLt y a=true;cases h2:HT.lexLt b a with
   | true=>exact fj y b a q h2
   | false=>rw[k9 a b h h2];exact q
  exact(decide_eq_false (by unfold cR;omega)).symm
end
section
variable {prog:Program}{w:World}{A:Around}{E:Value→Shared→Prop}{s:Shared}
theorem jq {b fin:Bool}{Q:Bool→Shared→Prop}:∀{vs ws:List Value} {ns ms:List Int} (i:Nat),IntsAre vs ns→IntsAre ws ms→fin=decide (ns.length<ms.length)→Q (HT.lexLt ns ms) s→KatLex prog w A b fin Q (vs.zip ws) i s
 | _,_,_,_,i,.nil,.nil,e,h=>by
  rw[zip_nil_left];refine kat_nil ?_;rw[e];exact h
 | _,_,_,_,i,.nil,.cons _ _ _,e,h=>by
  rw[zip_nil_left];refine kat_nil ?_;rw[e,decide_eq_true (by simp)];exact h
 | _,_,_,_,i,.cons _ _ _,.nil,e,h=>by
  rw[zip_nil_right];refine kat_nil ?_;rw[e,decide_eq_false (by simp)];exact h
 | _,_,_,_,i,.cons (ns:=ns) x t r1,.cons (ns:=ms) y u r2,e,h=>by
  rw[zip_cons_cons];refine kat_cons (wpAny_eqBool_int ?_);rw[HT.lexLt_cons] at h
  by_cases q:x=y
  ·rw[if_pos q] at h;rw[show(x==y)=true by simp[q]];exact kat_yes (jq (i+1) r1 r2 (by rw[e];simp) h)
  ·rw[if_neg q] at h;rw[show(x==y)=false by simp[q]];refine kat_no ?_;cases (b&&i==0) with
   | true=>exact oneLt_int h
   | false=>exact kat_one _ _ (PyProof.Rows.lt_int (show W.BoolBack _ (.bool _) _ from h))
def dX (h:Heap):List Value→List (List Int)→Prop
 | [],[]=>True
 | v::vs,z::zs=>(∃b o xs k,v=.ref b∧h.get? b=some o∧o.cls=.type "tuple"∧o.data=.seq xs k∧IntsAre xs.toList z∧z≠[])∧dX h vs zs
 | _,_=>False
theorem dX.length {h:Heap}:∀{vs:List Value} {zs:List (List Int)},dX h vs zs→vs.length=zs.length
 | [],[],_=>rfl
 | [],_::_,t=>t.elim
 | _::_,[],t=>t.elim
 | _::_,_::_,t=>by rw[length_cons,length_cons,t.2.length]
theorem dX.keep {h h':Heap}(k:∀b o,h.get? b=some o→h'.get? b=some o):∀{vs:List Value} {zs:List (List Int)},dX h vs zs→dX h' vs zs
 | [],[],_=>trivial
 | [],_::_,t=>t.elim
 | _::_,[],t=>t.elim
 | _::_,_::_,⟨⟨b,o,xs,n,e,g,r⟩,t⟩=>⟨⟨b,o,xs,n,e,k _ _ g,r⟩,t.keep k⟩
theorem dX.at' {h:Heap}:∀{vs:List Value} {zs:List (List Int)} (i:Nat),dX h vs zs→i<vs.length→∃b o xs k,vs.getD i Value.none=.ref b∧h.get? b=some o∧o.data=.seq xs k∧IntsAre xs.toList (zs.getD i [])
 | [],_,i,_,q=>absurd q (by simp)
 | _::_,[],_,t,_=>t.elim
 | _::_,_::_,0,⟨⟨b,o,xs,n,e,g,_,d,r,_⟩,_⟩,_=>⟨b,o,xs,n,e,g,d,r⟩
 | _::_,_::_,i+1,⟨_,t⟩,q=>t.at' i (by simpa using q)
theorem dX.firsts {h:Heap}:∀{vs:List Value} {zs:List (List Int)},dX h vs zs→∃fs,KatTups h vs fs∧fs.length=vs.length∧∀v∈fs,∃n t,v=Value.int n t
 | [],[],_=>⟨[],.nil,rfl,fun v hv=>by cases hv⟩
 | [],_::_,t=>t.elim
 | _::_,[],t=>t.elim
 | _::_,z::_,⟨⟨b,o,xs,n,e,g,c,d,r,z0⟩,t⟩=>by
  obtain⟨fs,k,l,f⟩:=t.firsts;subst e;cases r':xs.toList with
  | nil=>rw[r'] at r;cases r;exact absurd rfl z0
  | cons x ys=>
   rw[r'] at r;cases r with
   | cons m tk r2=>
    refine⟨Value.int m tk::fs,.cons g c d (by rw[←Array.getElem?_toList,r'];rfl) k,by rw[length_cons,length_cons,l],fun v hv=>?_⟩;rcases mem_cons.mp hv with e|e
    ·exact⟨m,tk,e⟩
    ·exact f v e
theorem nR {vs:List Value}{zs:List (List Int)}(t:dX s.heap vs zs):dF (fun i=>cR zs (zs.getD i [])) vs.length s (kas_ask prog w A (tuples' true) vs):=fun i j C hi hj h=>by
 obtain⟨b,o,xs,k,e1,g1,d1,r1⟩:=t.at' i hi;obtain⟨c,o2,ys,k2,e2,g2,d2,r2⟩:=t.at' j hj;show wpAny (model prog w) A (keyLt' (tuples' true) (vs.getD i Value.none) (vs.getD j Value.none)) C (fun _ _=>False) s;rw[e1,e2];refine kat_lt g1 d1 g2 d2 (jq 0 r1 r2 (by rw[←r1.length,←r2.length];simp) ?_);have mem:zs.getD i []∈zs:=by
  rw[t.length] at hi;rw[getD_eq_getElem?_getD,getElem?_eq_getElem hi];exact getElem_mem hi
 rw[nY mem];exact h
end
def xo (z:List Int):D:=.tup (z.map D.int)
def dW:List D→Option (List (List Int))
 | []=>some []
 | d::ds=>match nS d,dW ds with
  | some (i::z),some zs=>some ((i::z)::zs)
  | _,_=>none
theorem hO {K:W.Frag}{θ:List Addr}{H:Hp}{f:Nat→D}{g:Nat→V}:∀l:List Nat,(∀i∈l,cn K θ H (f i) (g i))→aF K θ H (l.map f) (l.map g)
 | [],_=>rfl
 | i::l,h=>⟨_,_,rfl,h i (.head _),hO l fun j hj=>h j (.tail _ hj)⟩
theorem iw {g:Nat→V}{u:Nat→Value}:∀l:List Nat,(∀i∈l,aM (g i) (u i))→az (l.map g) (l.map u)
 | [],_=>.nil
 | i::l,h=>.cons (h i (.head _)) (iw l fun j hj=>h j (.tail _ hj))
section
variable {X:Cx}{ab:List (Addr×Obj)}{σ:L2.St}{H:Hp}{s:Shared}{θ:List Addr}
theorem jG (I:L2.Inv X ab σ H s):∀{xs:List D} {zs:List (List Int)} {vs:List V} {us:List Value},dW xs=some zs→aF X.K θ H xs vs→az vs us→
  dX s.heap us zs∧us.length=zs.length∧∀i,i<zs.length→cn X.K θ H (xo (zs.getD i [])) (vs.getD i .non)∧aM (vs.getD i .non) (us.getD i Value.none)
 | [],zs,vs,us,e,r,v=>by
  simp only[dW,Option.some.injEq] at e;subst e;have:vs=[]:=r;subst this;cases v;exact⟨trivial,rfl,fun i h=>absurd h (by simp)⟩
 | d::xs,zs,vs,us,e,r,v=>by
  simp only[dW] at e;split at e
  ·rename_i i z zs' q1 q2;cases e;obtain⟨v1,vr,e1,r1,r2⟩:=r;subst e1;cases v with
   | cons h1 h2=>
    obtain⟨t,l,f⟩:=jG I q2 r2 h2;obtain⟨b,eb,tb⟩:=mL q1 r1;subst eb;have eu:_=Value.ref b:=h1;subst eu;obtain⟨its,rr,⟨o,ho,hc,n,hd⟩,_⟩:=I.tuple tb.sq;refine⟨⟨⟨b,o,its.toArray,n,rfl,ho,hc,hd,j0 rr,by simp⟩,t⟩,by rw[length_cons,length_cons,l],fun k hk=>?_⟩;cases k with
    | zero=>exact⟨⟨b,_,rfl,tb,hZ _⟩,rfl⟩
    | succ k=>exact f k (by simpa using hk)
  ·cases e
end
end DL
namespace DL
open PySem PySem.Spec PyProof.Rows L2 List
end DL
namespace DL
open PySem PySem.Spec PyProof.Rows PySem.W L2 List
end DL
namespace DL
open PySem PySem.Spec PyProof.Rows L2 List
def xV (xs ys:List D):List D:=xs.zipWith (fun x y=>D.tup [x,y]) ys
end DL
namespace DL
open PySem PySem.Spec PyProof.Rows L2 List
open AutoSeq1 (wpAny_loadPart') in
def ye (ds:List D)(M:am):aE gn:=match ds with
 | [.lst xs,.lst ys]=>if xs.length=ys.length then .ok ⟨bh (xV xs ys),none⟩ M else .bad
 | _=>.bad
def cL:List D→Int→Option Int
 | [],b=>some b
 | .int a::r,b=>if b<a then cL r a else cL r b
 | _::_,_=>none
def qj:List D→Option Int
 | .int a::r=>cL r a
 | _=>none
section
variable {X:Cx}{ab:List (Addr×Obj)}{σ:L2.St}
theorem li {l it S:Addr}{ds0:List D}{vs:List V}{Q:VK}{R:Result→Shared→Prop}{H:Hp}{θ:List Addr}{M:am}{db:Int}{k:Nat}
  (hr:bf (k+1) X.A) (hcalm:X.calm=true) (hw:Wr X.K θ H M) (ta:iR X.K θ H l vs) (r:aF X.K θ H ds0 vs)
  (hnI:S≠it) (hR:∀u s',EP X ab σ Q u s'→R (.ok (.ret u)) s') (fi:dN X ab H it) (fS:dN X ab H S) (hQ:∀v,cn X.K θ H (.int db) v→Q v H) :
  ∀(rest:List D) (j:Nat) (s:Shared) (b:Int) (vb:V) (ub:Value) (n:Nat),ds0.drop j=rest→L2.Inv X ab σ H s→s.heap.IsListIter it l j→s.heap.get? S=some (seqObj "list" #[ub,ub] n)→
   cn X.K θ H (.int b) vb→aM vb ub→cL rest b=some db→
   codeAny (model X.prog X.w) X.A (.builtin "max.loop" ⟨[.ref it,.none,.ref S],[]⟩) R s:=by
 have hname:(toString "max"++toString ".loop":String)="max.loop":=by decide
 have hr1:bf k X.A.in1:=hr.in1;intro rest
 induction rest with
 | nil=>
  intro j s b vb ub n hd I st eS rb rvb h;refine codeAny_builtin PySem.F.entry_max_loop ?_;rw[Around.under_plainId PySem.F.plain_max_loop _];show wpAny _ X.A.in1 (seqItems? (.ref S) >>= _) _ _ _;refine wpAny_bind (wpAny_seqItems eS rfl ?_);obtain⟨its,rv,p,hz⟩:=I.list ta.sq;have hlen:vs.length≤j:=by rw[←ai r];exact drop_eq_nil_iff.mp hd
  have hl:=rv.length;show wpAny _ X.A.in1 (tryCatch (pyNext (.ref it)) _ >>= _) _ _ _;refine wpAny_bind (wpAny_tryCatch (wpAny_pyNext_list_end (show X.A.in1.handled=none from I.ok.hd hcalm) st p.isList (by simp;omega) fun h' eb=>?_));have I1:L2.Inv X ab σ H {s with heap:=h'}:=I.turned (t':=s.toks) (fun b o hb e=>eb b o hb e) fi.1 fi.2.1 fi.2.2.2.1 fi.2.2.2.2.1 fi.2.2.2.2.2;have eS':h'.get? S=some (seqObj "list" #[ub,ub] n):=eb S _ hnI eS;show wpAny _ X.A.in1 (updateSeq S (fun _=>#[]) >>= _) _ _ _;refine wpAny_bind (wpAny_updateSeq eS' rfl (wpAny_bind (wpAny_letGo (wpAny_pure ?_))));have I2:L2.Inv X ab σ H {s with heap:=h'.update S (Obj.mapSeq fun _=>#[])}:=I1.turned (t':=s.toks) (fun b o hb e=>(Heap.get?_update_other h' _ (Ne.symm hb)).trans e) fS.1 fS.2.1 fS.2.2.2.1 fS.2.2.2.2.1 fS.2.2.2.2.2;have h:some b=some db:=h;cases h;exact hR ub _ ⟨vb,H,I2,rvb,hQ vb rb⟩
 | cons d rest ih=>
  intro j s b vb ub n hd I st eS rb rvb h;have hj:ds0[j]?=some d:=by
   have:=congrArg (·[0]?) hd;simpa using this
  have hd':ds0.drop (j+1)=rest:=by
   rw[←drop_drop,hd];rfl
  obtain⟨v,ev,rdv⟩:=bR r hj;refine codeAny_builtin PySem.F.entry_max_loop ?_;rw[Around.under_plainId PySem.F.plain_max_loop _];show wpAny _ X.A.in1 (seqItems? (.ref S) >>= _) _ _ _;refine wpAny_bind (wpAny_seqItems eS rfl ?_);obtain⟨its,rv,p,hz⟩:=I.list ta.sq;obtain⟨u,eu,ru⟩:=rv.get ev;show wpAny _ X.A.in1 (tryCatch (pyNext (.ref it)) _ >>= _) _ _ _;refine wpAny_bind (wpAny_tryCatch (wpAny_pyNext_list_item st p.isList (x:=u) (by simpa using eu) fun h' st' sb=>?_));have I1:L2.Inv X ab σ H {s with heap:=h'}:=I.turned (t':=s.toks) (fun b o hb e=>(sb.2 b hb).trans e) fi.1 fi.2.1 fi.2.2.2.1 fi.2.2.2.2.1 fi.2.2.2.2.2;have eS1:h'.get? S=some (seqObj "list" #[ub,ub] n):=(sb.2 S hnI).trans eS;cases d with
  | int ki=>
   have h:(if b<ki then cL rest ki else cL rest b)=some db:=h;have e1:v=.int ki:=rdv;have e2:vb=.int b:=rb;subst e1 e2;obtain⟨tk,rfl⟩:=ru;obtain⟨tb,rfl⟩:=rvb;refine wpAny_bind (wpAny_pure ?_);show wpAny _ X.A.in1 (tryCatch (holding [.int ki tk,.int ki tk] (richCompare .Gt (.int ki tk) (.int b tb) >>= _)) _ >>= _) _ _ _;refine wpAny_bind (wpAny_tryCatch (wpAny_holding (wpAny_bind (n5 _ _ _ _ _ _ _ _ _ _ ?_))));refine wpAny_bind (wpAny_holding (wpAny_truthy_bool ?_));refine wpAny_bind (wpAny_letGo (wpAny_pure ?_))
   by_cases hlt:b<ki
   ·rw[if_pos hlt] at h;simp only[hlt,decide_true,if_true];refine wpAny_bind (wpAny_updateSeq eS1 rfl (wpAny_bind (wpAny_letGo ?_)));rw[hname];obtain⟨n3,eS3⟩:∃n3,(h'.update S (Obj.mapSeq fun _=>#[.int ki tk,.int ki tk])).get? S=some (seqObj "list" #[.int ki tk,.int ki tk] n3):=⟨_,get?_update_seq eS1 fun _=>#[.int ki tk,.int ki tk]⟩;have kp:∀b o,b≠S→h'.get? b=some o→(h'.update S (Obj.mapSeq fun _=>#[.int ki tk,.int ki tk])).get? b=some o:=fun b o hb e=>(Heap.get?_update_other h' _ (Ne.symm hb)).trans e
    have I3:L2.Inv X ab σ H {s with heap:=h'.update S (Obj.mapSeq fun _=>#[.int ki tk,.int ki tk])}:=I1.turned (t':=s.toks) kp fS.1 fS.2.1 fS.2.2.2.1 fS.2.2.2.2.1 fS.2.2.2.2.2;obtain⟨oI,hoI,cI,dI⟩:=id st';exact wpAny_pure ⟨plainId_quiet PySem.F.plain_max_loop _,ih (j+1) _ ki _ (.int ki tk) n3 hd' I3 ⟨oI,kp it oI (Ne.symm hnI) hoI,cI,dI⟩ eS3 rfl ⟨tk,rfl⟩ h⟩
   ·rw[if_neg hlt] at h;simp only[hlt,decide_false,Bool.false_eq_true,if_false];refine wpAny_bind (wpAny_letGo ?_);rw[hname];exact wpAny_pure ⟨plainId_quiet PySem.F.plain_max_loop _,ih (j+1) _ b _ (.int b tb) n hd' I1 st' eS1 rfl ⟨tb,rfl⟩ h⟩
  | _=>cases h
theorem lM {l:Addr}{ds0:List D}{vs:List V}{Q:VK}{H:Hp}{θ:List Addr}{M:am}{db:Int}{k:Nat}{s:Shared}
  (hr:bf (k+1) X.A) (hcalm:X.calm=true) (I:L2.Inv X ab σ H s) (hw:Wr X.K θ H M) (ta:iR X.K θ H l vs) (r:aF X.K θ H ds0 vs) (h:qj ds0=some db) (hQ:∀v,cn X.K θ H (.int db) v→Q v H) :
  wpAny (model X.prog X.w) X.A (call (.builtin "max") [.ref l] []) (EP X ab σ Q) X.xe s:=by
 have hname:(toString "max"++toString ".loop":String)="max.loop":=by decide
 cases ds0 with
 | nil=>cases h
 | cons d rest=>
  cases d with
  | int ks=>
   have h:cL rest ks=some db:=h;obtain⟨v,ev,rdv⟩:=bR (i:=0) r rfl;obtain⟨its,rv,p,hz⟩:=I.list ta.sq;refine kmk_tree PySem.F.kind_max PySem.F.plain_max PySem.F.entry_max (ly _) ?_;show wpAny _ X.A.in1 (Builtin.Builtins.bindParams "max" ["key","default"] 0 ⟨[],[]⟩ >>= _) _ _ s;refine wpAny_bind (wpAny_of_eq (show Builtin.Builtins.bindParams "max" ["key","default"] 0 ⟨[],[]⟩=pure [none,none] from rfl) ?_);refine wpAny_bind (wpAny_pure ?_);refine wpAny_bind (wpAny_pyIter_list p.isList ?_);refine wpAny_bind (wpAny_newList ?_ (Nat.zero_le _));rw[hname];have hS:(s.heap.push {cls:=.type "list_iterator",data:=.fields #[.ref l,.int 0 0]}).objs.size=s.heap.objs.size+1:=size_push' ..;have fi:dN X ab H s.heap.objs.size:=I.fpOk (Nat.le_refl _) (I.hok.fresh (Nat.le_refl _));have leS:s.heap.objs.size≤(s.heap.push {cls:=.type "list_iterator",data:=.fields #[.ref l,.int 0 0]}).objs.size:=by rw[hS];exact Nat.le_succ _
   have fS:dN X ab H (s.heap.push {cls:=.type "list_iterator",data:=.fields #[.ref l,.int 0 0]}).objs.size:=I.fpOk leS (I.hok.fresh leS);have hnI:(s.heap.push {cls:=.type "list_iterator",data:=.fields #[.ref l,.int 0 0]}).objs.size≠s.heap.objs.size:=by rw[hS];exact Nat.ne_of_gt (Nat.lt_succ_self _)
   have gI:((s.heap.push {cls:=.type "list_iterator",data:=.fields #[.ref l,.int 0 0]}).push (seqObj "list" #[] 0)).get? s.heap.objs.size=some {cls:=.type "list_iterator",data:=.fields #[.ref l,.int 0 0]}:=Heap.get?_push_of_some _ (Heap.get?_push_size _ rfl);have gS:((s.heap.push {cls:=.type "list_iterator",data:=.fields #[.ref l,.int 0 0]}).push (seqObj "list" #[] 0)).get? (s.heap.push {cls:=.type "list_iterator",data:=.fields #[.ref l,.int 0 0]}).objs.size=some (seqObj "list" #[] 0):=Heap.get?_push_size _ rfl;have I0:L2.Inv X ab σ H {s with heap:=(s.heap.push {cls:=.type "list_iterator",data:=.fields #[.ref l,.int 0 0]}).push (seqObj "list" #[] 0)}:=I.kept (t':=s.toks) fun b o e=>Heap.get?_push_of_some _ (Heap.get?_push_of_some _ e)
   generalize (s.heap.push {cls:=.type "list_iterator",data:=.fields #[.ref l,.int 0 0]}).objs.size=S at *;generalize hit:s.heap.objs.size=it at *;refine wpAny_pure ⟨plainId_quiet PySem.F.plain_max_loop _,?_⟩;refine codeAny_builtin PySem.F.entry_max_loop ?_;rw[Around.under_plainId PySem.F.plain_max_loop _];show wpAny _ X.A.in1 (seqItems? (.ref S) >>= _) _ _ _;refine wpAny_bind (wpAny_seqItems gS rfl ?_);obtain⟨its',rv',p',hz'⟩:=I0.list ta.sq;obtain⟨u',eu',ru'⟩:=rv'.get ev;show wpAny _ X.A.in1 (tryCatch (pyNext (.ref it)) _ >>= _) _ _ _;refine wpAny_bind (wpAny_tryCatch (wpAny_pyNext_list_item (i:=0) ⟨_,gI,rfl,rfl⟩ p'.isList (x:=u') (by simpa using eu') fun h' st' sb=>?_));have I1:L2.Inv X ab σ H {s with heap:=h'}:=I0.turned (t':=s.toks) (fun b o hb e=>(sb.2 b hb).trans e) fi.1 fi.2.1 fi.2.2.2.1 fi.2.2.2.2.1 fi.2.2.2.2.2;have eS1:h'.get? S=some (seqObj "list" #[] 0):=(sb.2 S hnI).trans gS;obtain⟨oI,hoI,cI,dI⟩:=id st';refine wpAny_bind (wpAny_pure ?_);refine wpAny_bind ?_;show wpAny _ X.A.in1 (updateSeq S (fun _=>#[u',u'])) _ _ _;refine wpAny_updateSeq eS1 rfl ?_;rw[hname];obtain⟨n3,eS3⟩:∃n3,(h'.update S (Obj.mapSeq fun _=>#[u',u'])).get? S=some (seqObj "list" #[u',u'] n3):=⟨_,get?_update_seq eS1 fun _=>#[u',u']⟩;have kp:∀b o,b≠S→h'.get? b=some o→(h'.update S (Obj.mapSeq fun _=>#[u',u'])).get? b=some o:=fun b o hb e=>(Heap.get?_update_other h' _ (Ne.symm hb)).trans e
   have I3:L2.Inv X ab σ H {s with heap:=h'.update S (Obj.mapSeq fun _=>#[u',u'])}:=I1.turned (t':=s.toks) kp fS.1 fS.2.1 fS.2.2.2.1 fS.2.2.2.2.1 fS.2.2.2.2.2;exact wpAny_pure ⟨plainId_quiet PySem.F.plain_max_loop _,li hr hcalm hw ta r hnI (fun u s' e=>e) fi fS hQ rest 1 _ ks v u' n3 rfl I3 ⟨oI,kp it oI (Ne.symm hnI) hoI,cI,dI⟩ eS3 rdv ru' h⟩
  | _=>cases h
def fz:FD:=fun ds M=>match ds with
 | [.lst xs]=>match qj xs with
  | some d=>.ok (.int d) M
  | none=>.bad
 | _=>.bad
theorem oW {k:Nat}(hr:bf (k+1) X.A)(hc:X.calm=true):bV X (.builtin "max") (rC X fz):=by
 intro ab s σ H xs us Q I r h;obtain⟨θ,M,ds,hw,rd,h⟩:=h;unfold fz at h;split at h
 ·rename_i ys;split at h
  ·rename_i d q;obtain⟨v,rr,e,⟨a,vs,ea,ta,rs⟩,er⟩:=rd;have er:rr=[]:=er;subst er e ea;obtain⟨u,rfl,ru⟩:=im r;have ru:u=.ref a:=ru;subst ru;exact lM hr hc I hw (.inl ⟨.inl ta.1,ta.2⟩) rs q fun v rv=>h v θ H (.refl hw) rv
  ·exact h.elim
 ·exact h.elim
theorem sJ {k:Nat}(hr:bf (k+1) X.A)(hc:X.calm=true:=by rfl):QC X (.builtin "max") fz:=⟨oW hr hc⟩
end
end DL
namespace DL
open PySem PySem.Spec PyProof.Rows L2 List
section
variable {X:Cx}
def v6:V→V→Hp→VK→Prop:=fun x y H Q=>∃l k xs,x=.ref l∧y=.int k∧H l=some (.lst xs)∧0≤k∧k≤100000∧xs.length*k.toNat≤100000∧∀p,H p=none→Q (.ref p) (bu H p (.lst (List.replicate k.toNat xs).flatten))
theorem jE {α:Type}:∀k:Nat,(List.replicate k ([]:List α)).flatten=[]
 | 0=>rfl
 | k+1=>by rw[List.replicate_succ,List.flatten_cons,jE k];rfl
theorem pc:c4 X (binaryOp .Mult) v6:=by
 intro ab s σ H x y v u Q I rx ry h;obtain⟨l,k,xs,rfl,rfl,hH,h1,h2,hz,q⟩:=h;cases rx;obtain⟨t,rfl⟩:=ry;obtain⟨its,r,pl,z⟩:=I.list (.inl (.inl hH));have hl:=r.length;obtain⟨n,e⟩:∃n,s.heap.get? l=some {cls:=.type "list",dict:=none,data:=.seq its.toArray n,slots:=#[]}:=by
  have:=I.hok l _ hH;obtain⟨_,its',n,r',e⟩:=this;have:its=its':=by
   obtain⟨o,e1,_,m,e2⟩:=pl.isList;rw[e] at e1;cases e1;cases e2;rfl
  subst this;exact⟨n,e⟩
 have hnew:List.foldl (fun x1 x2=>x1++x2) #[] (List.replicate (if its.toArray.isEmpty=true then 0 else k.toNat) its.toArray)=(List.replicate k.toNat its).flatten.toArray:=by
  cases its with
  | nil=>
   rw[jE];rfl
  | cons a b=>
   have:=ii (a::b) k.toNat [];rw[nil_append] at this;exact this
 have fl:(List.replicate k.toNat its).flatten.length≤100000:=by rw[kA,←hl,Nat.mul_comm];exact hz
 have hsz:its.toArray.size*k.toNat≤100000:=by rw[size_toArray,←hl];exact hz
 refine wpAny_binaryOp_repeat_ref (T:="list") (U:="int") (by decide) ⟨_,e,rfl⟩ (fun s'=>typeIs_int s' k t) PySem.noFill_list_mul PySem.F.fills_int_mul PySem.F.slot_int_rmul PySem.repeat_list PySem.F.slot_int_index.lookup
  (call_meets PySem.F.slot_int_rmul (typeIs_int s k t) PySem.F.entry_int_rmul (PySem.F.args_int_rmul_2 _ _) (PySem.int___rmul___int_list k t l its.toArray n)
   ⟨e,rfl,⟨_,e,rfl⟩,call_meets PySem.F.slot_list_mul ⟨_,e,rfl⟩ PySem.F.entry_list_mul (PySem.F.args_list_mul_2 _ _) (AutoListH.list___mul___list_int_3 l its.toArray n k t
    (by unfold Builtin.List.listFitsIndex;simp;omega) (by omega) (by intro hh;unfold Builtin.List.listTooLong at hh;have hh:=of_decide_eq_true hh;rw[sizeLine_eq] at hh;omega)) ⟨e,?_⟩⟩)
 rw[hnew];refine⟨.ref _,_,I.laid (t':=s.toks) (fun _ _ q=>Heap.get?_push_of_some _ q) (Nat.le_refl _) (show bO X.prog X.w _ _ _ (.lst (List.replicate k.toNat xs).flatten) from ?_),rfl,q _ I.fresh⟩;exact⟨by rw[kA,Nat.mul_comm];exact cY (by omega),_,0,r.rep k.toNat,Heap.get?_push_size _ rfl⟩
def yc:F2:=fun x y M=>match jK x M,y with
 | some xs,.int k=>if 0≤k∧k≤100000∧xs.length*k.toNat≤100000 then .ok (.lst (List.replicate k.toNat xs).flatten) M else .bad
 | _,_=>.bad
def nu:F2:=fun x y M=>match jK x M,y with
 | some xs,.int k=>if 0≤k∧k≤100000∧xs.length*k.toNat≤100000 then .ok (.mr M.length) (M++[.lst (List.replicate k.toNat xs).flatten]) else .bad
 | _,_=>.bad
theorem og:c4 X (binaryOp .Mult) (rD X nu):=by
 intro ab s σ H x y v u Q I rx ry h;obtain⟨θ,M,dx,dy,hw,r1,r2,h⟩:=h;unfold nu at h;split at h
 ·rename_i xs k q1;split at h
  ·rename_i hc;obtain⟨a,vs,ea,ta,ra⟩:=nF hw r1 q1;have hl:=ai ra;exact pc ab s σ H x y v u Q I rx ry ⟨a,k,vs,ea,r2,ta,hc.1,hc.2.1,by rw[←hl];exact hc.2.2,fun p hp=>h _ _ _ (ny hw hp (jr ra _)) (nA hw)⟩
  ·exact h.elim
 ·exact h.elim
theorem tq:Q2 X (binaryOp .Mult) nu:=⟨og⟩
def oN (k:Nat)(xs:List D)(M:am):Bool:=match M[k]? with
 | some (.lst ys)=>dr ys xs
 | _=>false
theorem qK {k:Nat}{xs:List D}{M:am}(h:oN k xs M=true):M[k]?=some (.lst xs):=by
 unfold oN at h;split at h
 ·rename_i ys q;rw[q,c7 _ _ h]
 ·cases h
def aV (k:Nat)(xs:List D)(s:GG)(body:GS):List D→bg→am→aE Fl
 | [],ρ,M=>if oN k xs M then .ok (.nx ρ) M else .bad
 | d::r,ρ,M=>if oN k xs M then
   match s d ρ with
   | none=>.bad
   | some ρ1=>(body ρ1 M).bind fun f M1=>match f with
    | .nx ρ2=>aV k xs s body r ρ2 M1
    | .ct ρ2=>aV k xs s body r ρ2 M1
    | .bk ρ2=>.ok (.nx ρ2) M1
    | .rt d=>.ok (.rt d) M1
  else .bad
def ji (g:GA)(s:GG)(body:GS):GS:=fun ρ M=>(g ρ M).bind fun ds M1=>match ds with
 | [.mr k]=>match M1[k]? with
  | some (.lst xs)=>aV k xs s body (bh xs) ρ M1
  | _=>.bad
 | _=>.bad
theorem o6 {es:List Expr}{kt:Nat}{tp p epos pos:Pos}{l:Expr}{body:List Stmt}{g:GA}{sg:GG}{gb:GS}(hp:PassesOwn (model X.prog X.w) X.A X.env X.xe)(hc:X.calm=true)(hgl:Gl X "enumerate")(hm:X.mg "enumerate"=none)(hv:bootBuiltins "enumerate"=some (.type "enumerate"))
  (hl:PA X [l] (tA X g)) (hg:PG X (.Tuple es kt tp) (tG X sg)) (hb:PSs X body (tS X gb)) (hst:starEach [l] X.env=[(false,eval l X.env)]:=by rfl)
  (hs:∀x,foldedSetIterable (.Call (.Name "enumerate" p) [l] [] epos) X.env x=pure x:=by intro _;rfl):PS X (.For (.Tuple es kt tp) (.Call (.Name "enumerate" p) [l] [] epos) body [] pos) (tS X (ji g sg gb)):=(mv hp hc (o3 hgl hm hv hl hst) hg hb hs).of fun D σ H hxx=>by
 obtain⟨ρ,θ,M,hd,hw,h⟩:=hxx;refine eM hd hw (bi X θ H D) (fun c M' h=>h) (fun h=>h) h fun ds M1 vs θ1 H1 g1 r1 h=>?_
 have hmr:∃k xs,ds=[.mr k]∧M1[k]?=some (.lst xs)∧bi X θ H D (aV k xs sg gb (bh xs) ρ M1):=by
  match ds,h with
  | [],h=>exact h.elim
  | [.mr k],h=>
   cases q:M1[k]? with
   | none=>
    have h:bi X θ H D (match M1[k]? with|some (.lst xs)=>aV k xs sg gb (bh xs) ρ M1|_=>aE.bad):=h;rw[q] at h;exact h.elim
   | some m=>
    have h:bi X θ H D (match M1[k]? with|some (.lst xs)=>aV k xs sg gb (bh xs) ρ M1|_=>aE.bad):=h;rw[q] at h;cases m with
    | lst xs=>exact⟨k,xs,rfl,q,h⟩
    | _=>exact h.elim
  | [.non],h=>exact h.elim
  | [.bl _],h=>exact h.elim
  | [.int _],h=>exact h.elim
  | [.str _],h=>exact h.elim
  | [.tup _],h=>exact h.elim
  | [.lst _],h=>exact h.elim
  | [.ro _],h=>exact h.elim
  | [.exc _],h=>exact h.elim
  | [.any],h=>exact h.elim
  | a::_::_,h=>exact False.elim (by revert h;cases a <;> exact id)
 obtain⟨k,xs,rfl,qk,h⟩:=hmr;obtain⟨v,ev,a,ea,ta⟩:=fw r1;subst ea;obtain⟨us,hus,rus⟩:=g1.wr.at_ k a _ ta qk;refine⟨a,ev,.inl ⟨⟨us,.inl (.inl hus)⟩,?_⟩⟩;refine⟨fun i m σ' H'=>m=(bh xs).length-i∧i≤(bh xs).length∧∃ρ' θ' M',Go X.K θ1 H1 θ' H' M'∧dO X.K θ' H' σ' ρ'∧bi X θ' H' D (aV k xs sg gb ((bh xs).drop i) ρ' M'),
  ⟨(bh xs).length,by simp,Nat.zero_le _,ρ,θ1,M1,.refl g1.wr,hd.go g1,bi.go g1 h⟩,?_⟩
 rintro i m σ' H' ⟨rfl,hil,ρ',θ',M',g',hd',h'⟩
 by_cases hok:oN k xs M'=true
 ·have hk':=qK hok;obtain⟨more,eθ,_⟩:=g'.ext;have ta':θ'[k]?=some a:=by rw[eθ,getElem?_append_left (List.getElem?_eq_some_iff.mp ta).1];exact ta
  obtain⟨vs',hvs,rvs⟩:=g'.wr.at_ k a _ ta' hk';have sq:uD X.K false H' a vs':=.inl (.inl hvs)
  by_cases hlt:i<(bh xs).length
  ·refine .inr ?_;have e1:(bh xs)[i]?=some (bh xs)[i]:=getElem?_eq_getElem hlt;rw[drop_eq_getElem_cons hlt,aV,if_pos hok] at h';obtain⟨x,ex,ed⟩:=io e1;obtain⟨v,e2,rv⟩:=bR rvs ex;refine⟨⟨vs',v,sq,e2⟩,fun σ2 H2=>∃ρ2 θ2 M2,Go X.K θ' H' θ2 H2 M2∧dO X.K θ2 H2 σ2 ρ2∧bi X θ2 H2 D (aV k xs sg gb ((bh xs).drop (i+1)) ρ2 M2),fun σ2 H2 ⟨ρ2,θ2,M2,g2,d2,h2⟩=>?_,fun x' H2 y=>?_⟩
   ·exact⟨(bh xs).length-(i+1),by omega,rfl,hlt,ρ2,θ2,M2,g'.trans g2,d2,h2⟩
   ·obtain⟨p',y',np,eH,exr,hy⟩:=y;have e3:=hy vs' sq;rw[e2] at e3;cases e3;subst eH exr;have gy:=de (o:=.tup [.int (i:Int),v]) g'.wr np;have rx:cn X.K θ' (bu H' p' (.tup [.int (i:Int),v])) (bh xs)[i] (.ref p'):=by rw[ed];exact i5 (ds:=[.int (i:Int),x]) g'.wr np ⟨_,_,rfl,rfl,_,_,rfl,rv,rfl⟩
    cases qs:sg (bh xs)[i] ρ' with
    | none=>rw[qs] at h';exact h'.elim
    | some ρ1=>
     rw[qs] at h';refine⟨ρ',θ',M',_,hd'.go gy,gy.wr,rx,ρ1,qs,fun σ1 d1=>⟨ρ1,θ',M',d1,gy.wr,?_⟩⟩;have h':bi X θ' (bu H' p' (.tup [.int (i:Int),v])) D ((gb ρ1 M').bind _):=bi.go gy h';cases qb:gb ρ1 M' with
     | err c M2=>rw[qb] at h';exact h'
     | bad=>rw[qb] at h';exact h'
     | ok f M2=>
      rw[qb] at h';cases f with
      | nx ρ2=>exact fun σ2 θ2 H3 g2 d2=>⟨ρ2,θ2,M2,gy.trans g2,d2,bi.go g2 h'⟩
      | ct ρ2=>exact fun σ2 θ2 H3 g2 d2=>⟨ρ2,θ2,M2,gy.trans g2,d2,bi.go g2 h'⟩
      | bk ρ2=>exact h'
      | rt d=>exact h'
  ·have e:i=(bh xs).length:=by omega
   subst e;rw[drop_length,aV,if_pos hok] at h';exact .inl ⟨⟨vs',sq,by rw[←ai rvs,dk];exact Nat.le_refl _⟩,h' σ' θ' H' (.refl g'.wr) hd'⟩
 ·have hz:bi X θ' H' D .bad:=by
   cases hdr:(bh xs).drop i with
   | nil=>rw[hdr,aV,if_neg hok] at h';exact h'
   | cons d r=>rw[hdr,aV,if_neg hok] at h';exact h'
  exact hz.elim
theorem oC {es:List Expr}{kt:Nat}{tp p epos pos:Pos}{l:Expr}{body:List Stmt}{g:GA}{sg:GG}{gb:GS}(hp:PassesOwn (model X.prog X.w) X.A X.env X.xe)(hgl:Gl X "enumerate")(hm:X.mg "enumerate"=none)(hv:bootBuiltins "enumerate"=some (.type "enumerate"))
  (hl:QA X [l] g) (hg:QG X (.Tuple es kt tp) sg) (hb:QB X body gb) (hc:X.calm=true:=by rfl) (h1:aQ l=true:=by rfl)
  (hs:∀x,foldedSetIterable (.Call (.Name "enumerate" p) [l] [] epos) X.env x=pure x:=by intro _;rfl):QS X (.For (.Tuple es kt tp) (.Call (.Name "enumerate" p) [l] [] epos) body [] pos) (ji g sg gb):=⟨o6 hp hc hgl hm hv hl.h hg.h hb.h (by rw[sE h1];rfl) hs⟩
end
end DL
namespace DL
open PySem PySem.Spec PyProof.Rows PySem.W L2 List
def wx {α:Type}(lt:Nat→Nat→Bool):KasT α→α
 | .ret a=>a
 | .ask i j k=>wx lt (k (lt i j))
def sA (N:Nat)(lt:Nat→Nat→Bool)(i j:Nat)(C:Bool→Shared→Prop)(s:Shared):Prop:=i<N∧j<N∧C (lt i j) s
theorem jW {α:Type}{N:Nat}{lt:Nat→Nat→Bool}{s:Shared}{Q:α→Shared→Prop}:∀{t:KasT α},t.kasWp (sA N lt) Q s→Q (wx lt t) s∧∀cmp:Nat→Nat→(Bool→Shared→Prop)→Shared→Prop,(∀i j C,i<N→j<N→C (lt i j) s→cmp i j C s)→t.kasWp cmp (fun p s'=>p=wx lt t∧s'=s) s
 | .ret a,h=>⟨h,fun _ _=>⟨rfl,rfl⟩⟩
 | .ask i j k,h=>by
  obtain⟨hi,hj,h⟩:=h;obtain⟨h1,h2⟩:=jW h;exact⟨h1,fun cmp hc=>hc i j _ hi hj (h2 cmp hc)⟩
def wY (key:Nat→Int)(i j:Nat):Bool:=decide (key i<key j)
def mQ (key:Nat→Int)(n:Nat):Array Nat:=wx (wY key) (kas_sort n)
theorem eP {key:Nat→Int}{n:Nat}(h:1≤n):(mQ key n).Perm (List.toArray (List.range n))∧up key (mQ key n) n:=by
 have s:Shared:={};have:=kP (key:=key) (s:=s) (cmp:=sA n (wY key)) (n:=n) (fun i j C hi hj hC=>⟨hi,hj,hC⟩) h (Q:=fun p _=>p.Perm (List.toArray (List.range n))∧up key p n) fun p a b=>⟨a,b⟩
 exact(jW this).1
theorem oK {key:Nat→Int}{n:Nat}{s:Shared}{cmp:Nat→Nat→(Bool→Shared→Prop)→Shared→Prop}(h:1≤n)(hc:dF key n s cmp):(kas_sort n).kasWp cmp (fun p s'=>p=mQ key n∧s'=s) s:=by
 have:=kP (key:=key) (s:=s) (cmp:=sA n (wY key)) (n:=n) (fun i j C hi hj hC=>⟨hi,hj,hC⟩) h (Q:=fun p _=>True) fun p a b=>trivial
 exact(jW this).2 cmp fun i j C hi hj hC=>hc i j C hi hj hC
def c8 (key:Nat→Int)(n:Nat):List Nat:=if n<2 then List.range n else(mQ key n).toList
section
variable {prog:Program}{w:World}{A:Around}{E:Value→Shared→Prop}{s:Shared}{vs ks:List Value}{zs:List (List Int)}{f:Value}{h0:Heap}{a kS:Addr}
def Kp (h0:Heap)(s s':Shared):Prop:=(∃h tk,s'={s with heap:=h,toks:=tk})∧∀b o,h0.get? b=some o→s'.heap.get? b=some o
theorem Kp.heap {s s':Shared}{h:Heap}(k:Kp h0 s s')(hh:∀b o,h0.get? b=some o→h.get? b=some o):Kp h0 s {s' with heap:=h}:=by
 obtain⟨⟨h1,tk,rfl⟩,_⟩:=k;exact⟨⟨h,tk,rfl⟩,hh⟩
def qp (prog:Program)(w:World)(A:Around)(h0:Heap)(s:Shared)(f:Value)(vs ks:List Value):Prop:=
 ∀(i:Nat) (v k:Value),vs[i]?=some v→ks[i]?=some k→∀s',Kp h0 s s'→wpAny (model prog w) A (call f [v]) (fun r s''=>r=k∧(∃h tk,s''={s' with heap:=h,toks:=tk})∧∀b o,s'.heap.get? b=some o→s''.heap.get? b=some o) (fun _ _=>False) s'
theorem jk {body:Value→PUnit→Sem (ForInStep PUnit)}(hn:vs.length<64)(hl:ks.length=vs.length)(hkey:qp prog w A h0 s f vs ks)(h0k:h0.get? kS=none)
  (hb:∀x k (j:Nat) e (s':Shared),j<64→s'.heap.get? kS=some (seqObj "list" (List.toArray (ks.take j)) e)→ks[j]?=some k→Kp h0 s s'→
   wpAny (model prog w) A (call f [x]) (fun r s''=>r=k∧(∃h tk,s''={s' with heap:=h,toks:=tk})∧∀b o,s'.heap.get? b=some o→s''.heap.get? b=some o) (fun _ _=>False) s'→
   wpAny (model prog w) A (body x ⟨⟩) (fun r s''=>r=.yield ⟨⟩∧Kp h0 s s''∧(∃c,s''.heap.get? kS=some (seqObj "list" (List.toArray (ks.take (j+1))) c))∧∀b o,b≠kS→s'.heap.get? b=some o→s''.heap.get? b=some o) E s') :
  ∀(r:List Value) (j e:Nat) (s':Shared),vs.drop j=r→s'.heap.get? kS=some (seqObj "list" (List.toArray (ks.take j)) e)→Kp h0 s s'→
   wpAny (model prog w) A (forIn r PUnit.unit body) (fun _ s''=>Kp h0 s s''∧(∃c,s''.heap.get? kS=some (seqObj "list" (List.toArray ks) c))∧∀b o,b≠kS→s'.heap.get? b=some o→s''.heap.get? b=some o) E s'
 | [],j,e,s',hd,hk,kp=>by
  rw[forIn_nil];have hj:ks.length≤j:=by rw[hl];exact drop_eq_nil_iff.mp hd
  rw[List.take_of_length_le hj] at hk;exact wpAny_pure ⟨kp,⟨e,hk⟩,fun _ _ _ e=>e⟩
 | x::r,j,e,s',hd,hk,kp=>by
  have hj:vs[j]?=some x:=by
   have:=congrArg (·[0]?) hd;simpa using this
  have hd':vs.drop (j+1)=r:=by rw[←drop_drop,hd];rfl
  have hjl:=(List.getElem?_eq_some_iff.mp hj).1;have hk2:ks[j]?=some ks[j]:=getElem?_eq_getElem (by omega);rw[forIn_cons];refine wpAny_bind (wpAny_mono (hb x ks[j] j e s' (by omega) hk hk2 kp (hkey j x _ hj hk2 s' kp)) (fun q s2 hq=>?_) fun _ _ x=>x);obtain⟨rfl,kp2,⟨c,hc⟩,k2⟩:=hq;show wpAny (model prog w) A (forIn r PUnit.unit body) _ E s2;refine wpAny_mono (jk hn hl hkey h0k hb r (j+1) c s2 hd' hc kp2) (fun _ s3 h3=>?_) fun _ _ x=>x
  obtain⟨a1,a2,a3⟩:=h3;exact⟨a1,a2,fun b o hb e=>a3 b o hb (k2 b o hb e)⟩
theorem m9 {n:Nat}{P:PySem.Fin→Shared→Prop}(ho:s.heap.get? a=some (seqObj "list" vs.toArray n))(ha:h0.get? a=none)(hh:∀b o,h0.get? b=some o→s.heap.get? b=some o)(t:dX h0 ks zs)(hl:ks.length=vs.length)(h64:vs.length<64)(hkey:qp prog w A h0 s f vs ks)(hz:h0.objs.size≤s.heap.objs.size)
  (h:∀s' c,Kp h0 s s'→s'.heap.get? a=some (seqObj "list" (List.toArray ((c8 (fun i=>cR zs (zs.getD i [])) vs.length).map fun i=>vs.getD i Value.none)) c)→P (.done (.ret .none)) s'):wpAny (model prog w) A (ksk_tree a f false) P E s:=by
 have hal:a<s.heap.objs.size:=Heap.lt_size ho;have s1:=Heap.SameBut.update s.heap a (Obj.mapSeq fun _=>(#[]:Array Value));obtain⟨e1,ho1⟩:∃e1,(s.heap.update a (Obj.mapSeq fun _=>(#[]:Array Value))).get? a=some (seqObj "list" #[] e1):=⟨_,get?_update_seq ho fun _=>#[]⟩;unfold ksk_tree;refine wpAny_bind (listItems_at ho rfl ?_);refine wpAny_bind (listUpdate_at ho rfl ?_ (by rw[size_toArray,sizeLine_eq];omega) (Nat.zero_le _));refine wpAny_bind (seqEpoch_at ho1 rfl ?_);refine wpAny_bind (wpAny_newTuple ?_ (by show vs.length≤_;rw[sizeLine_eq];omega));refine wpAny_bind (wpAny_newList ?_ (Nat.zero_le _));refine wpAny_holding ?_;have hkz:((s.heap.update a (Obj.mapSeq fun _=>(#[]:Array Value))).push (seqObj "tuple" vs.toArray 0)).objs.size=s.heap.objs.size+1:=by rw[size_push',Heap.size_update]
 have hoa:(((s.heap.update a (Obj.mapSeq fun _=>(#[]:Array Value))).push (seqObj "tuple" vs.toArray 0)).push (seqObj "list" #[] 0)).get? a=some (seqObj "list" #[] e1):=Heap.get?_push_of_some _ (Heap.get?_push_of_some _ ho1);have hok:(((s.heap.update a (Obj.mapSeq fun _=>(#[]:Array Value))).push (seqObj "tuple" vs.toArray 0)).push (seqObj "list" #[] 0)).get? (s.heap.objs.size+1)=some (seqObj "list" #[] 0):=by rw[←hkz];exact Heap.get?_push_size _ rfl
 have kp1:Kp h0 s {s with heap:=((s.heap.update a (Obj.mapSeq fun _=>(#[]:Array Value))).push (seqObj "tuple" vs.toArray 0)).push (seqObj "list" #[] 0)}:=⟨⟨_,s.toks,rfl⟩,fun b o e=>Heap.get?_push_of_some _ (Heap.get?_push_of_some _ (by rw[Heap.get?_update_ne _ _ _ _ (fun z=>by rw[z,ha] at e;cases e)];exact hh b o e))⟩;show wpAny (model prog w) A (ksk_rest a f false vs.toArray e1 (.ref ((s.heap.update a (Obj.mapSeq fun _=>(#[]:Array Value))).push (seqObj "tuple" vs.toArray 0)).objs.size)) P E {s with heap:=((s.heap.update a (Obj.mapSeq fun _=>(#[]:Array Value))).push (seqObj "tuple" vs.toArray 0)).push (seqObj "list" #[] 0)};rw[hkz];generalize hH:((s.heap.update a (Obj.mapSeq fun _=>(#[]:Array Value))).push (seqObj "tuple" vs.toArray 0)).push (seqObj "list" #[] 0)=H1 at hoa hok kp1;have nak:a≠s.heap.objs.size+1:=Nat.ne_of_lt (Nat.lt_succ_of_lt hal);have h0k:h0.get? (s.heap.objs.size+1)=none:=Heap.get?_none_of_le (Nat.le_succ_of_le hz);generalize s.heap.objs.size+1=kS at hok nak h0k;unfold ksk_rest;refine wpAny_bind (wpAny_rule ?_)
 first
  | rw[List.forIn_toArray]
  | (rw[←Array.forIn_toList];simp only[List.toList_toArray])
  | rw[←Array.forIn_toList]
 refine wpAny_bind (wpAny_mono (jk (kS:=kS) (E:=E) h64 hl hkey h0k (fun x k j e s' hj hk hkj kp hx=>?_) vs 0 0 {s with heap:=H1} rfl hok kp1) (fun _ s' hd=>?_) fun _ _ x=>x)
 ·refine wpAny_bind (wpAny_attempt (wpAny_mono hx (fun r s'' hr=>?_) fun _ _ hF=>hF.elim));obtain⟨rfl,⟨h2,tk,rfl⟩,k2⟩:=hr;have nk:h2.get? kS=some (seqObj "list" (List.toArray (ks.take j)) e):=k2 _ _ hk;have ea:(List.toArray (ks.take j)).push r=List.toArray (ks.take (j+1)):=by rw[take_add_one,hkj];simp
  have lt:(ks.take j).length<64:=by rw[length_take];omega
  try dsimp only
  refine wpAny_bind (listUpdate_at nk rfl ?_ (by rw[size_toArray,sizeLine_eq];omega) (Nat.le_trans (Nat.le_of_eq (Array.size_push ..)) (by rw[size_toArray,sizeLine_eq];omega)));have kb:∀b o,b≠kS→h2.get? b=some o→(h2.update kS (Obj.mapSeq (·.push r))).get? b=some o:=fun b o hb e=>(Heap.get?_update_other h2 _ (Ne.symm hb)).trans e
  refine wpAny_pure ⟨rfl,?_,⟨_,by rw[←ea];exact get?_update_seq nk (·.push r)⟩,fun b o hb e=>kb b o hb (k2 b o e)⟩;obtain⟨⟨h1,tk1,rfl⟩,kk⟩:=kp;exact⟨⟨_,tk,rfl⟩,fun b o e=>kb b o (fun z=>by rw[z,h0k] at e;cases e) (k2 b o (kk b o e))⟩
 ·obtain⟨kp2,⟨c,hk⟩,k2⟩:=hd;have hoa2:=k2 a _ nak hoa
  try dsimp only
  refine wpAny_bind (listItems_at hk rfl ?_);have tail:∀(st:SortSt),(arrOf st).map (·.2)=List.toArray ((c8 (fun i=>cR zs (zs.getD i [])) vs.length).map fun i=>vs.getD i Value.none)→failedOf st=none→wpAny (model prog w) A (ksk_tail a false e1 (.ref kS) st) P E s':=fun st hout hf=>by
   obtain⟨ck,hck⟩:∃ck,(s'.heap.update kS (Obj.mapSeq fun _=>(#[]:Array Value))).get? kS=some (seqObj "list" #[] ck):=⟨_,get?_update_seq hk fun _=>#[]⟩;have hoa3:(s'.heap.update kS (Obj.mapSeq fun _=>(#[]:Array Value))).get? a=some (seqObj "list" #[] e1):=(Heap.get?_update_other s'.heap _ (Ne.symm nak)).trans hoa2;have lo:((c8 (fun i=>cR zs (zs.getD i [])) vs.length).map fun i=>vs.getD i Value.none).length=vs.length:=by
    rw[length_map];unfold c8;split
    ·exact length_range
    ·have:=(eP (key:=fun i=>cR zs (zs.getD i [])) (n:=vs.length) (by omega)).1.size_eq;rw[Array.length_toList,this];simp
   unfold ksk_tail
   try dsimp only
   rw[hout];refine wpAny_bind (listUpdate_at hk rfl ?_ (by rw[size_toArray,sizeLine_eq];omega) (Nat.zero_le _));refine wpAny_bind (wpAny_letGo ?_);refine wpAny_bind (seqEpoch_at hoa3 rfl ?_);simp only[Bool.false_eq_true,if_false];refine wpAny_bind (listUpdate_at hoa3 rfl ?_ (Nat.zero_le _) (by rw[size_toArray,lo,sizeLine_eq];omega));rw[hf];simp only[bne_self_eq_false,Bool.false_eq_true,if_false];refine wpAny_pure (h _ _ (kp2.heap fun b o e=>?_) (get?_update_seq hoa3 fun _=>List.toArray ((c8 (fun i=>cR zs (zs.getD i [])) vs.length).map fun i=>vs.getD i Value.none)));rw[Heap.get?_update_other _ _ (fun z=>by rw[←z,ha] at e;cases e),Heap.get?_update_other _ _ (fun z=>by rw[←z,h0k] at e;cases e)];exact kp2.2 b o e
  unfold ksk_end
  try dsimp only
  simp only[Bool.false_eq_true,if_false]
  by_cases h2:vs.length<2
  ·have h2':vs.toArray.size<2:=by rw[size_toArray];exact h2
   rw[if_pos h2',if_pos h2'];refine wpAny_bind (wpAny_pure ?_);rw[StateT.run_pure];refine wpAny_bind (wpAny_pure ?_);refine tail _ ?_ rfl;show(((List.toArray ks).zip vs.toArray).map fun p=>p.2)=_;unfold c8;rw[if_pos h2]
   match vs,ks,hl,h2 with
   | [],[],_,_=>simp
   | [x],[y],_,_=>simp[range_succ]
   | _::_::_,_,_,h2=>exact absurd h2 (by simp)
  ·have h2':¬vs.toArray.size<2:=by rw[size_toArray];exact h2
   rw[if_neg h2',if_neg h2'];have t2:dX s'.heap ks zs:=t.keep kp2.2;obtain⟨fs,kt,kl,kf⟩:=t2.firsts;refine wpAny_bind (wpAny_mono (kat_kind (T:=.type "int") (Q:=fun κ s2=>κ=tuples' true∧s2=s') kt (by omega) (fun v hv=>?_) rfl ⟨rfl,rfl⟩) (fun κ s2 hq=>?_) fun _ _ x=>x)
   ·obtain⟨m,tk,rfl⟩:=kf v hv;exact .now
   ·obtain⟨rfl,rfl⟩:=hq;have asks:dF (fun i=>cR zs (zs.getD i [])) vs.length s2 (kas_ask prog w A (tuples' true) ks):=by rw[←hl];exact nR t2
    refine wpAny_bind (wpAny_mono (kat_run (Q:=fun st' s3=>((arrOf st').map (·.2)=List.toArray ((c8 (fun i=>cR zs (zs.getD i [])) vs.length).map fun i=>vs.getD i Value.none))∧failedOf st'=none∧s3=s2) hl (by omega) h64 (fun p st' s3 a1 a2 a3 a4=>?_) (oK (by omega) asks)) ?_ fun _ _ x=>x)
    ·obtain⟨rfl,rfl⟩:=a4;refine⟨?_,a3,rfl⟩;rw[kat_snds hl a2];unfold c8;rw[if_neg h2]
    ·rintro ⟨⟨⟩,st'⟩ s3 ⟨b1,b2,rfl⟩;exact tail st' b1 b2
end
section
variable {prog:Program}{w:World}{A:Around}{E:Value→Shared→Prop}{s:Shared}
theorem m8 {r:Addr}{a b c:Int}{t u v:Tok}{n:Nat}{R:Result→Shared→Prop}(hh:A.handled=none)(hr:IsRange s.heap r a b c t u v)(hsmall:Builtin.Range.small a b c=true)(hn:Builtin.Range.rangeSize a b c=n)(hlen:n≤2 ^ 24)
  (h:∀h' tk (acc:Array Value) c',(∀b o,s.heap.get? b=some o→h'.get? b=some o)→h'.get? s.heap.objs.size=some {cls:=.type "list",dict:=none,data:=.seq acc c',slots:=#[]}→ItemsOf (fun i v=>∃t,v=.int (a+i*c) t) acc n→R (.ok (.ret (.ref s.heap.objs.size))) {s with heap:=h',toks:=tk}):codeAny (model prog w) A (.builtin "proto.collect" ⟨[.ref r],[]⟩) R s:=by
 refine codeAny_builtin F.entry_proto_collect ?_;rw[Around.under_plainId F.plain_proto_collect _];show wpAny _ A.in1 (newList [] >>= fun l=>again (.builtin "list.__iadd__" ⟨[l,.ref r],[]⟩)) _ _ s;refine wpAny_bind (wpAny_newObj_type ?_);refine wpAny_pure ⟨plainId_quiet F.plain_list_iadd _,codeAny_builtin F.entry_list_iadd ?_⟩;rw[Around.under_plainId F.plain_list_iadd _];have hS:(s.heap.push {cls:=.type "list",data:=.seq ([]:List Value).toArray}).get? s.heap.objs.size=some {cls:=.type "list",data:=.seq ([]:List Value).toArray}:=Heap.get?_push_size _ rfl;show wpAny _ A.in1 (Builtin.List.listExtendWith (.ref s.heap.objs.size) (.ref r) (.ref s.heap.objs.size)) _ _ _;exact wpAny_extend_range (s:={s with heap:=s.heap.push {cls:=.type "list",data:=.seq ([]:List Value).toArray}}) (R:=R) hh (Heap.get?_push_of_some _ hr) hsmall hn hlen s.heap.objs.size _ _ hS fun h' tk acc' c' hk hS' hacc=>h h' tk acc' c' (fun b o e=>hk b o (Nat.ne_of_lt (Heap.lt_size e)) (Heap.get?_push_of_some _ e)) hS' hacc
theorem js {r:Addr}{a b c:Int}{t u v:Tok}{n:Nat}{Q:List Value→Shared→Prop}(hh:A.handled=none)(hr:IsRange s.heap r a b c t u v)(hsmall:Builtin.Range.small a b c=true)(hn:Builtin.Range.rangeSize a b c=n)(hlen:n≤2 ^ 24)
  (h:∀h' tk (acc:Array Value),(∀b o,s.heap.get? b=some o→h'.get? b=some o)→s.heap.objs.size≤h'.objs.size→ItemsOf (fun i v=>∃t,v=.int (a+i*c) t) acc n→Q acc.toList {s with heap:=h',toks:=tk}):wpAny (model prog w) A (collect (.ref r)) Q E s:=by
 unfold collect;refine wpAny_bind (wpAny_runValue (m8 hh hr hsmall hn hlen fun h' tk acc c' hk hS' hacc=>?_));show wpAny _ A (load s.heap.objs.size >>= _) _ _ _;refine wpAny_bind (wpAny_load hS' ?_);exact wpAny_pure (h h' tk acc hk (Nat.le_of_lt (Heap.lt_size hS')) hacc)
theorem jl {r q:Addr}{n:Nat}{t u v:Tok}{ks:List Value}{zs:List (List Int)}{Q:Value→Shared→Prop}(hh:A.handled=none)(hr:IsRange s.heap r 0 n 1 t u v)(h64:n<64)(tt:dX s.heap ks zs)(hl:ks.length=n)
  (hkey:∀(i:Nat) (tk:Tok) (k:Value) (s':Shared),ks[i]?=some k→Kp s.heap s s'→wpAny (model prog w) A.in1.in1 (call (.ref q) [.int i tk]) (fun r s''=>r=k∧(∃h tk,s''={s' with heap:=h,toks:=tk})∧∀b o,s'.heap.get? b=some o→s''.heap.get? b=some o) (fun _ _=>False) s')
  (h:∀(s':Shared) (D:Addr) (us:List Value) (c:Nat),Kp s.heap s s'→s.heap.objs.size≤D→az ((c8 (fun i=>cR zs (zs.getD i [])) n).map fun(i:Nat)=>V.int i) us→s'.heap.get? D=some (seqObj "list" us.toArray c)→Q (.ref D) s') :
  wpAny (model prog w) A (call (.builtin "sorted") [.ref r] [(Str.ofString "key",.ref q)]) Q E s:=by
 refine call_function_entry_kw kind_sorted plain_sorted entry_sorted (ksk_s1 _ _) ?_;unfold Builtin.«sorted»;refine wpAny_bind (m:=checkCount "sorted" 1 1 _) (wpAny_pure ?_);have hn:Builtin.Range.rangeSize 0 (n:Int) 1=((n:Nat):Int):=by rw[rangeSize_one];split <;> omega
 have hsm:Builtin.Range.small 0 (n:Int) 1=true:=small_one (by omega) (by omega) (by omega) (by omega);refine wpAny_bind (js (A:=A.in1) hh hr hsm hn (Nat.le_trans (Nat.le_of_lt h64) (by decide)) fun h1 tk acc k1 hge it=>?_);obtain⟨hsz,hit⟩:=it;have hsz:acc.toList.length=n:=by rw[Array.length_toList];exact hsz
 refine wpAny_bind (wpAny_newList ?_ (by rw[sizeLine_eq];omega));have hoL:(h1.push (seqObj "list" acc.toList.toArray 0)).get? h1.objs.size=some (seqObj "list" acc.toList.toArray 0):=Heap.get?_push_size _ rfl;have hDn:s.heap.get? h1.objs.size=none:=Heap.get?_none_of_le hge;refine wpAny_bind (wpAny_holding (wpAny_call_entry_kw slot_list_sort ⟨_,hoL,rfl⟩ entry_list_sort ?body (ksk_l1 _ _)))
 case body=>
  show wpAny (model prog w) A.in1.in1 (Builtin.«list.sort» ⟨[.ref h1.objs.size],[(Str.ofString "key",.ref q)]⟩) _ _ _;rw[ksk_t1];have at_:∀i v,acc.toList[i]?=some v→i<n∧∃t,v=.int i t:=fun i v e=>by
   have hi:=(List.getElem?_eq_some_iff.mp e).1;rw[Array.getElem?_toList] at e;obtain⟨t,e⟩:=hit i v e;exact⟨by omega,t,by rw[e,Int.mul_one,Int.zero_add]⟩
  refine m9 (h0:=s.heap) (s:={s with heap:=h1.push (seqObj "list" acc.toList.toArray 0),toks:=tk}) (vs:=acc.toList) (ks:=ks) (zs:=zs) hoL hDn (fun b o e=>Heap.get?_push_of_some _ (k1 b o e)) tt (by omega) (by omega) (fun i v k e1 e2 s' kp=>?_) (by rw[Heap.size_push];exact Nat.le_succ_of_le hge) fun s' c kp e=>?_
  ·obtain⟨_,t,rfl⟩:=at_ i v e1;refine hkey i t k s' e2 ?_;obtain⟨⟨h2,tk2,rfl⟩,kk⟩:=kp;exact⟨⟨h2,tk2,rfl⟩,kk⟩
  ·refine⟨_,rfl,wpAny_pure ⟨_,rfl,h s' h1.objs.size _ c ?_ hge ?_ e⟩⟩
   ·obtain⟨⟨h2,tk2,rfl⟩,kk⟩:=kp;exact⟨⟨h2,tk2,rfl⟩,kk⟩
   ·have ol:∀i∈c8 (fun i=>cR zs (zs.getD i [])) acc.toList.length,i<n:=fun i hi=>by
     unfold c8 at hi;split at hi
     ·have:=mem_range.mp hi;omega
     ·have p:=(eP (key:=fun i=>cR zs (zs.getD i [])) (n:=acc.toList.length) (by omega)).1;have:=p.toList.mem_iff.mp hi;have:=mem_range.mp (by simpa using this);omega
    rw[hsz] at ol ⊢;exact iw _ fun i hi=>by
     have hl:i<acc.toList.length:=by rw[hsz];exact ol i hi
     have e:acc.toList[i]?=some acc.toList[i]:=getElem?_eq_getElem hl;obtain⟨_,t,e2⟩:=at_ i _ e;rw[List.getD,e,e2];exact⟨t,rfl⟩
end
abbrev fg (qual:Str)(params:Arguments)(body:Expr)(scope:Scope)(clos:List (Str×Addr))(pm cv ctv:Value):FuncData:=W.kla_fn "<lambda>" qual params body scope clos pm cv ctv
structure wm (clos:List (Str×Addr))(X:Cx)(θ:List Addr)(H:Hp)(M:am)(qual:Str)(params:Arguments)(body:Expr)(scope:Scope)(u:Value)(H':Hp):Prop where
 ex:∃q c pm ctv,u=.ref q∧H q=none∧H' q=some (uR q (fg qual params body scope clos pm (.ref c) ctv))∧H' c=some (jC c qual)
 go:Go X.K θ H θ H' M
theorem lK {clos:List (Str×Addr)}{X:Cx}{ab:List (Addr×Obj)}{σ:L2.St}{H:Hp}{s:Shared}{θ:List Addr}{M:am}{x:Str}{c P:Addr}{params:Arguments}{body:Expr}{scope:Scope}{pos:Pos}
  (I:L2.Inv X ab σ H s) (hw:Wr X.K θ H M) (T:jy X.K x c P) (hcode:X.env.code=.ref c) (hglob:X.env.globals=mainGlobals) (hq:X.env.qual++("<lambda>":Str)=bC x)
  (hcl:closureFor scope X.env=pure clos) (hd:defaultsOf params X.env=([],[])) :
  wpAny (model X.prog X.w) X.A (eval (.Lambda params body scope pos) X.env) (fun u s'=>∃H',L2.Inv X ab σ H' s'∧wm clos X θ H M (bC x) params body scope u H') X.xe s:=by
 obtain⟨ps,hP,hT,hC⟩:=hw.tb.tab x T.mem c P T.tab;obtain⟨bm,ob,b1,b2,b3,b4,b5,b6,b7⟩:=hw.tb.bm x T.mem c P T.tab;have hPo:s.heap.get? P=some (W.tabObj ps):=I.hok P _ hP;have CH:W.CodeHd s.heap c P:=by
  obtain⟨o,vs,file,tf,flags,tg,inF,text,tt,e,r⟩:=T.hd;exact⟨o,vs,file,tf,flags,tg,inF,text,tt,I.kIn _ _ e,r⟩
 have hbo:s.heap.get? bm=some ob:=(I.hok bm _ b2).1;have hg:s.heap.Ns mainGlobals X.mg:=I.mod.glob.keeps I.bk;have hmgb:X.mg "__builtins__"=some (.ref bm):=W.mg_of I.kIn hg b1;have nbP:bm≠P:=fun z=>by rw[z,hP] at b2;cases b2
 have hb:s.heap.BuiltinsAt X.mg P:=⟨bm,ob,hmgb,b6,b7,nbP,hbo,b3,b4,b5⟩;have hgP:mainGlobals≠P:=fun z=>by
  obtain⟨o,es,ep,e1,e2,_⟩:=hg;rw[z,hPo] at e1;cases e1;cases e2
 rw[arm_eval_Lambda,hd];refine wpAny_bind (wpAny_evalAll_nil ?_);refine wpAny_bind (wpAny_holding (wpAny_pure ?_));rw[hq];have neP:∀b u,H b=some u→(∀ps,u≠.tbl ps)→b≠P:=fun b u e n z=>by rw[z,hP] at e;cases e;exact n _ rfl
 cases hf:codeAmong pos ps.toList with
 | some cv=>
  obtain⟨c',rfl,hc'⟩:=hC pos cv hf;refine W.kla_makeFunctionHit hcl hglob hg hcode CH hPo hT hf hb fun ctv h' tk hk hz=>?_
  have nq:H h'.objs.size=none:=I.hok.fresh hz;have nec:c'≠h'.objs.size:=fun z=>by rw[←z,hc'] at nq;cases nq
  refine⟨bu H h'.objs.size (uR h'.objs.size _),I.laid (t':=tk) (fun b o e=>Heap.get?_push_of_some _ (hk b o e)) hz (j6 (Heap.get?_push_size _ rfl) ⟨_,Heap.get?_push_size _ rfl⟩ fun h1 h2 e k=>k _ e),⟨_,c',_,ctv,rfl,nq,aZ,by rw[aj nec];exact hc'⟩,de hw nq⟩
 | none=>
  refine W.kla_makeFunction hcl hglob hg hcode CH hPo hT hf hgP hb fun c' ctv h' tk hx hge hlt hrec htab=>?_
  have szle:s.heap.objs.size≤h'.objs.size:=Nat.le_of_lt (Nat.lt_of_le_of_lt hge hlt);have nq:H h'.objs.size=none:=I.hok.fresh szle;have nc:H c'=none:=I.hok.fresh hge;have ncq:c'≠h'.objs.size:=Nat.ne_of_lt hlt;have nPc:P≠c':=fun z=>by rw[←z,hP] at nc;cases nc
  have nPq:P≠h'.objs.size:=fun z=>by rw[←z,hP] at nq;cases nq
  let fd:FuncData:=fg (bC x) params body scope clos ((X.mg "__name__").getD .none) (.ref c') ctv
  let H':Hp:=bu (bu (bu H P (.tbl (ps++#[rawInt pos.line,rawInt pos.col,.ref c']))) c' (jC c' (bC x))) h'.objs.size (uR h'.objs.size fd)
  have atq:H' h'.objs.size=some (uR h'.objs.size fd):=aZ;have atc:H' c'=some (jC c' (bC x)):=by show bu _ _ _ c'=_;rw[aj ncq,aZ]
  have atP:H' P=some (.tbl (ps++#[rawInt pos.line,rawInt pos.col,.ref c'])):=by show bu _ _ _ P=_;rw[aj nPq,aj nPc,aZ]
  have atb:∀b u,H b=some u→b≠P→H' b=some u:=fun b u e n=>by
   have n1:b≠h'.objs.size:=fun z=>by rw[z,nq] at e;cases e
   have n2:b≠c':=fun z=>by rw[z,nc] at e;cases e
   show bu _ _ _ b=_;rw[aj n1,aj n2,aj n];exact e
  have kp:∀b o,b≠P→s.heap.get? b=some o→(h'.push (W.kla_obj "<lambda>" (bC x) params body scope clos ((X.mg "__name__").getD .none) c' ctv)).get? b=some o:=fun b o n e=>Heap.get?_push_of_some _ (hx b o n e)
  have un:Un X.fs [] H H' s.heap (h'.push (W.kla_obj "<lambda>" (bC x) params body scope clos ((X.mg "__name__").getD .none) c' ctv)):=by
   have ne:∀b o,s.heap.get? b=some o→H b=none→b≠P:=fun b o _ n z=>by rw[z,hP] at n;cases n
   refine⟨fun b o e n _ _=>kp b o (ne b o e n) e,fun b o e n _ _=>⟨o.slots,kp b o (ne b o e n) e⟩,fun b o e n _=>?_,fun b o e _=>?_,fun b xs e=>atb b _ e (neP b _ e (by intro _ z;cases z)),fun b o u e=>atb b _ e (neP b _ e (by intro _ z;cases z)),fun b qs e=>?_⟩
   ·have n1:b≠h'.objs.size:=Nat.ne_of_lt (Nat.lt_of_lt_of_le (Heap.lt_size e) szle);have n2:b≠c':=Nat.ne_of_lt (Nat.lt_of_lt_of_le (Heap.lt_size e) hge);show bu _ _ _ b=_;rw[aj n1,aj n2,aj (ne b o e n)];exact n
   ·by_cases hb:b=P
    ·exact⟨_,by rw[hb];exact Heap.get?_push_of_some _ htab⟩
    ·exact⟨o,kp b o hb e⟩
   ·by_cases hb:b=P
    ·subst hb;rw[hP] at e;cases e;exact⟨_,atP⟩
    ·exact⟨#[],by rw[atb b _ e hb];simp⟩
  have hok:eV X.prog X.w H' (h'.push (W.kla_obj "<lambda>" (bC x) params body scope clos ((X.mg "__name__").getD .none) c' ctv)):=fun b u e=>by
   by_cases h1:b=h'.objs.size
   ·subst h1;rw[atq] at e;cases e;exact j6 (Heap.get?_push_size _ rfl) ⟨_,Heap.get?_push_size _ rfl⟩ fun h1 h2 e k=>k _ e
   ·by_cases h2:b=c'
    ·subst h2;rw[atc] at e;cases e;refine j6 (hrec.keeps fun b o e=>Heap.get?_push_of_some _ e) ?_ fun h1 h2 e k=>e.at k
     obtain⟨c2,o,vs,t,e1,e2,_⟩:=hrec;cases e1;exact⟨o,Heap.get?_push_of_some _ e2⟩
    ·by_cases h3:b=P
     ·subst h3;rw[atP] at e;cases e;exact Heap.get?_push_of_some _ htab
     ·have e:bu (bu (bu H P _) c' _) h'.objs.size _ b=some u:=e;rw[aj h1,aj h2,aj h3] at e;refine(I.hok b u e).stay (fun b' v hb' z=>kp b' v ?_ z) (fun b' z=>atb b' _ z (neP b' _ z (by intro _ y;cases y))) fun b' xs z=>atb b' _ z (neP b' _ z (by intro _ y;cases y))
      rcases hb' with z|z
      ·rw[z];exact h3
      ·exact neP b' _ z (by intro _ y;cases y)
  refine⟨H',I.un (t':=tk) un hok,⟨h'.objs.size,c',_,ctv,rfl,nq,atq,atc⟩,?_⟩;have gr:Grow θ H θ H':=⟨⟨[],by simp,fun _ z=>by cases z⟩,fun b u e _ n=>atb b u e (neP b u e n),fun b qs e=>by
   by_cases hb:b=P
   ·rw[hb];exact⟨_,atP⟩
   ·exact⟨qs,atb b _ e hb⟩⟩
  refine⟨gr,hw.len,hw.nd,fun i a m h1 h2=>?_,?_,?_⟩
  ·have ok:=hw.at_ i a m h1 h2;obtain⟨o,eo,po⟩:=ok.plain;have e:H' a=H a:=by
    rw[eo];exact atb a o eo (neP a o eo (by intro qs z;subst z;cases po))
   exact ok.grow gr e
  ·intro y hy c2 P2 e2;obtain⟨qs,q1,q2,q3⟩:=hw.tb.tab y hy c2 P2 e2
   by_cases hPP:P2=P
   ·have hyx:y=x:=by
     refine Classical.byContradiction fun z=>?_
     rw[hPP] at e2;exact T.uniq y hy z c2 e2
    subst hyx hPP;rw[hP] at q1;cases q1;refine⟨_,atP,?_,fun pos' cv z=>?_⟩
    ·rw[Array.toList_append];exact TriplesOk_snoc _ _ _ _ q2
    ·rw[Array.toList_append] at z;rcases jZ _ q2 z with z|z
     ·obtain⟨c3,e3,e4⟩:=q3 pos' cv z;exact⟨c3,e3,atb c3 _ e4 (neP c3 _ e4 (by intro _ y;cases y))⟩
     ·exact⟨c',z,atc⟩
   ·refine⟨qs,atb P2 _ q1 hPP,q2,fun pos' cv z=>?_⟩;obtain⟨c3,e3,e4⟩:=q3 pos' cv z;exact⟨c3,e3,atb c3 _ e4 (neP c3 _ e4 (by intro _ y;cases y))⟩
  ·intro y hy c2 P2 e2;obtain⟨bm2,ob2,z1,z2,r⟩:=hw.tb.bm y hy c2 P2 e2;exact⟨bm2,ob2,z1,atb bm2 _ z2 (neP bm2 _ z2 (by intro _ y;cases y)),r⟩
section
variable {prog:Program}{w:World}{A:Around}{s:Shared}
structure kM (px y:Str)(scope:Scope):Prop where
 kind:scope.kind=.function
 co:scope.isCoroutine=false
 gen:scope.isGenerator=false
 nocell:∀x∈scope.names,x.2≠.cell
 loc:scope.names.lookup px=some .local
 free:scope.names.lookup y=some .free
 d1:(px==("__debug__":Str))=false
 d2:(y==("__debug__":Str))=false
 d3:(y==("__classdict__":Str))=false
theorem lO {q c cy l:Addr}{its:List Value}{px y qual:Str}{params:Arguments}{scope:Scope}{pm ctv k:Value}{p1 p2 p3:Pos}{i:Nat}{tk:Tok}(S:kM px y scope)
  (hq:s.heap.get? q=some {cls:=.type "function",data:=.func (fg qual params (.Subscript (.Name y p1) (.Name px p2) p3) scope [(y,cy)] pm (.ref c) ctv)}) (hcd:s.heap.CodeRec (.ref c) qual) (hlim:s.heap.NoLimit) (hd:A.depth<recursionLimit)
  (hb:∀u:Value,BindsTo s (fg qual params (.Subscript (.Name y p1) (.Name px p2) p3) scope [(y,cy)] pm (.ref c) ctv) ⟨[u],[]⟩ [(px,u)]) (hcell:s.heap.IsCell cy (some (.ref l))) (hl:s.heap.IsList l its.toArray) (hi:its[i]?=some k) (hi64:i<1000) :
  wpAny (model prog w) A (call (.ref q) [.int i tk]) (fun r s''=>r=k∧(∃h tk,s''={s with heap:=h,toks:=tk})∧∀b o,s.heap.get? b=some o→s''.heap.get? b=some o) (fun _ _=>False) s:=by
 refine wpAny_call (W.kla_callFunE hd hq rfl S.co S.gen rfl hcd (hb _ _ _ _ _ ?_));refine wpAny_newFunctionEnv S.nocell (fun x hx=>by rw[mem_singleton] at hx;rw[hx];exact S.loc) (fun h' hns hsb=>?_) S.kind;have keep:∀b o,s.heap.get? b=some o→h'.get? b=some o:=fun b o e=>hsb.extBut b o (Nat.ne_of_lt (Heap.lt_size e)) (Heap.get?_push_of_some _ e)
 refine⟨hlim.keeps keep,W.kla_codeExpr ?_⟩;refine Subscript_Name ?_ (by intro _ _;rfl);refine wpAny_Name (wpAny_loadName_free (c:=cy) (v:=.ref l) S.kind S.free ?_ (hcell.keeps keep) ?_ S.d3) S.d2
 ·show([(y,cy)]:List (Str×Addr)).lookup y=some cy;rw[lookup_cons,beq_self_eq_true]
 refine wpAny_Name (wpAny_loadName_local (v:=.int i tk) S.kind S.loc hns ?_ ?_) S.d1
 ·show([(px,Value.int i tk)]:List (Str×Value)).reverse.lookup px=some (.int i tk);simp
 have hl':h'.IsList l its.toArray:=by
  obtain⟨o,e,r⟩:=hl;exact⟨o,keep _ _ e,r⟩
 refine⟨"list",_,slot_list_getitem.lookup,hl'.typeIs,wpAny_getItem_list hl' (by omega) (by omega) (x:=k) (by rw[Int.toNat_natCast];simpa using hi) ⟨rfl,⟨h',_,rfl⟩,keep⟩⟩
end
def dm (j:Nat)(g:GA):GE:=fun ρ M=>(g ρ M).bind fun ds M1=>match ds,ρ[j]? with
 | [.int n],some (some (.lst xs))=>match dW xs with
  | some zs=>if n=(zs.length:Int)∧zs.length<64 then .ok (.lst ((c8 (fun i=>cR zs (zs.getD i [])) zs.length).map fun(i:Nat)=>D.int i)) M1 else .bad
  | none=>.bad
 | _,_=>.bad
theorem jo {cells:List (Str×Addr)}{y:Str}{acc:List (Str×Addr)}:∀{l:List (Str×NameKind)},(l.filter fun p=>p.2==.free)=[(y,.free)]→aY cells l acc=(y,(cells.lookup y).getD 0)::acc
 | [],h=>by cases h
 | (z,k)::r,h=>by
  unfold aY
  by_cases q:(k==NameKind.free)=true
  ·rw[filter_cons_of_pos (by exact q)] at h;obtain⟨e1,e2⟩:=List.cons.inj h;cases e1;rw[if_pos q];have go:∀(l:List (Str×NameKind)) (a:List (Str×Addr)),(l.filter fun p=>p.2==.free)=[]→aY cells l a=a:=by
    intro l
    induction l with
    | nil=>intro a _;rfl
    | cons p t ih=>
     intro a hf;obtain⟨z,kz⟩:=p;unfold aY
     by_cases qz:(kz==NameKind.free)=true
     ·rw[filter_cons_of_pos (by exact qz)] at hf;cases hf
     ·rw[if_neg qz];rw[filter_cons_of_neg (by exact qz)] at hf;exact ih a hf
   exact go r _ e2
  ·rw[filter_cons_of_neg (by exact q)] at h;rw[if_neg q];exact jo h
def iU (px y:Str)(scope:Scope):Bool:=decide (scope.kind=.function)&&!scope.isCoroutine&&!scope.isGenerator&&scope.names.all (fun x=>decide (x.2≠.cell))&&scope.names.lookup px==some .local&&scope.names.lookup y==some .free &&
 !(px==("__debug__":Str))&&!(y==("__debug__":Str))&&!(y==("__classdict__":Str))&&(scope.names.filter fun p=>p.2==.free)==[(y,.free)]
theorem kM.of {px y:Str}{scope:Scope}(h:iU px y scope=true):kM px y scope∧(scope.names.filter fun p=>p.2==.free)=[(y,.free)]:=by
 unfold iU at h;simp only[Bool.and_eq_true,decide_eq_true_eq,all_eq_true,Bool.not_eq_true',beq_iff_eq] at h;obtain⟨⟨⟨⟨⟨⟨⟨⟨⟨h1,h2⟩,h3⟩,h4⟩,h5⟩,h6⟩,h7⟩,h8⟩,h9⟩,h10⟩:=h;exact⟨⟨h1,h2,h3,h4,h5,h6,h7,h8,h9⟩,h10⟩
theorem lV {X:Cx}{x px y:Str}{c P:Addr}{params:Arguments}{scope:Scope}{e:Expr}{gA:GA}{p p2 pos pos2 lpos kpos p1 p3 p4:Pos}{j k:Nat}
  (T:jy X.K x c P) (hr:bf (k+2) X.A) (hg:Gl X "sorted") (hm:X.mg "sorted"=none) (hv:bootBuiltins "sorted"=some (.builtin "sorted")) (hg2:Gl X "range") (hm2:X.mg "range"=none) (ha:PA X [e] (tA X gA)) (hcode:X.env.code=.ref c) (hglob:X.env.globals=mainGlobals) (hq:X.env.qual++("<lambda>":Str)=bC x)
  (hd:defaultsOf params X.env=([],[])) (hcalm:X.calm=true) (hS:iU px y scope=true) (hj:X.N[j]?=some y) (hk:X.env.kindOf y=some .cell)
  (hb:∀(clos:List (Str×Addr)) (pm cv ctv:Value) (s:Shared) (u:Value),BindsTo s (fg (bC x) params (.Subscript (.Name y p1) (.Name px p3) p4) scope clos pm cv ctv) ⟨[u],[]⟩ [(px,u)])
  (h1:aQ e=true):PE X (.Call (.Name "sorted" p) [.Call (.Name "range" p2) [e] [] pos2] [⟨some "key",.Lambda params (.Subscript (.Name y p1) (.Name px p3) p4) scope lpos,kpos⟩] pos) (tE X (dm j gA)):=by
 obtain⟨S,one⟩:=kM.of hS;intro ab s σ H Q I h;obtain⟨ρ,θ,M,hden,hw,h⟩:=h;have hs1:starEach [e] X.env=[(false,eval e X.env)]:=by rw[sE h1];rfl
 have hs:starEach [.Call (.Name "range" p2) [e] [] pos2] X.env=[(false,eval (.Call (.Name "range" p2) [e] [] pos2) X.env)]:=by rw[sE rfl];rfl
 refine wpAny_Call_Name_kw (dY I hg hm hv ?_);refine callWith_kw (e:=.Call (.Name "range" p2) [e] [] pos2) (rest:=[]) (bL ((ej (pd hg2 hm2 ha hs1 (by rfl)) iD hs) pos ab s σ H (fun xs H1=>∃r n θ1 M1,xs=[.ref r]∧H1 r=some (.rng 0 n)∧Go X.K θ H θ1 H1 M1∧aH X θ H Q (match [D.int n],ρ[j]? with
   | [.int n],some (some (.lst xs))=>match dW xs with
    | some zs=>if n=(zs.length:Int)∧zs.length<64 then .ok (.lst ((c8 (fun i=>cR zs (zs.getD i [])) zs.length).map fun(i:Nat)=>D.int i)) M1 else .bad
    | none=>.bad
   | _,_=>.bad)) I ?_) fun us s1 hxx=>?_) (by rw[hs];rfl) (by rw[hs];rfl)
 ·refine eM hden hw (aH X θ H Q) (fun c M' h=>h) (fun h=>h) h fun ds M1 vs θ1 H1 g1 r1 h1=>?_
  match ds,r1,h1 with
  | [],_,h1=>exact h1.elim
  | [.int n],r1,h1=>
   obtain⟨v,ev,rv⟩:=fw r1;have rv:v=.int n:=rv;subst rv;exact⟨n,ev,fun l hl=>⟨l,n,θ1,M1,rfl,aZ,g1.trans (de g1.wr hl),h1⟩⟩
  | [.non],_,h1=>exact h1.elim
  | [.bl _],_,h1=>exact h1.elim
  | [.str _],_,h1=>exact h1.elim
  | [.tup _],_,h1=>exact h1.elim
  | [.lst _],_,h1=>exact h1.elim
  | [.ro _],_,h1=>exact h1.elim
  | [.mr _],_,h1=>exact h1.elim
  | [.exc _],_,h1=>exact h1.elim
  | [.any],_,h1=>exact h1.elim
  | a::_::_,_,h1=>exact False.elim (by revert h1;cases a <;> exact id)
 obtain⟨xs,H1,I1,rx,r,n,θ1,M1,ex,hr1,g1,h1⟩:=hxx;subst ex;obtain⟨u,rfl,ru⟩:=im rx;have ru:u=.ref r:=ru;subst ru;cases hρ:ρ[j]? with
 | none=>rw[hρ] at h1;exact h1.elim
 | some od=>
 cases od with
 | none=>rw[hρ] at h1;exact h1.elim
 | some d=>
 cases d with
 | lst xs=>
  rw[hρ] at h1;dsimp only at h1;cases qz:dW xs with
  | none=>rw[qz] at h1;exact h1.elim
  | some zs=>
  rw[qz] at h1;dsimp only at h1
  by_cases hc:n=(zs.length:Int)∧zs.length<64
  ·rw[if_pos hc] at h1;obtain⟨hn,h64⟩:=hc;subst hn;obtain⟨cy,hcy⟩:=I1.ok.has y (.inl hk);have hcl:closureFor scope X.env=pure [(y,cy)]:=by
    rw[df fun p hp ep=>?_,jo one,hcy];rfl;have:p∈scope.names.filter fun p=>p.2==.free:=mem_filter.mpr ⟨hp,by rw[ep];rfl⟩
    rw[one] at this;rw[mem_singleton.mp this];exact⟨cy,hcy⟩
   refine kws_cons (bL (lK I1 g1.wr T hcode hglob hq hcl hd) fun uq s2 ⟨H2,I2,Md⟩=>kws_nil ?_);obtain⟨⟨q,c',pm,ctv,rfl,nq,hfq,hfc⟩,g2⟩:=Md;have g12:=g1.trans g2;obtain⟨v,ev,⟨l,vs,rfl,tl,rs⟩⟩:=(hden.go g12).at_ j _ hρ;obtain⟨m,hns,hloc⟩:=I2.loc;obtain⟨u,ru,lk⟩:=hloc j y _ hj ev (.inr (.inl hk));have ru:u=.ref l:=ru;subst ru;have hcell:s2.heap.IsCell cy (some (.ref l)):=by
    rcases lk with⟨z,_⟩|⟨_,c2,e1,e2⟩
    ·rw[hk] at z;cases z
    ·rw[hcy] at e1;cases e1;exact e2
   obtain⟨its,rv,pl,_⟩:=I2.list tl.sq;obtain⟨tt,lz,_⟩:=jG I2 qz rs rv;have hrr:H2 r=some (.rng 0 (zs.length:Int)):=g2.keep r _ hr1 (fun z=>by
    obtain⟨i,hi,e'⟩:=mem_iff_getElem.mp z;have hM:i<M1.length:=by rw[←g1.wr.len];exact hi
    have this:=g1.wr.at_ i r _ (by rw[getElem?_eq_getElem hi,e']) (getElem?_eq_getElem hM);generalize M1[i]=mo at this;cases mo with
    | lst _=>obtain⟨_,z,_⟩:=this;rw[hr1] at z;cases z
    | obj _ _=>obtain⟨_,_,_,_,z,_⟩:=this;rw[hr1] at z;cases z
    | dK _=>obtain⟨_,z,_⟩:=this;rw[hr1] at z;cases z
    | dT _=>obtain⟨_,z,_⟩:=this;rw[hr1] at z;cases z) (by intro _ z;cases z)
   obtain⟨t1,t2,t3,e4⟩:=I2.hok r _ hrr;show wpAny _ X.A (call (.builtin "sorted") [.ref r] [(Str.ofString "key",.ref q)]) _ _ s2;refine jl (I2.ok.hd hcalm) e4 h64 tt lz (fun i tk kk s' ek kp=>?_) fun s' D us cc kp hz hV eD=>?_
   ·have keep:=kp.2;exact lO S (keep _ _ (vR I2.hok hfq)) ((pW I2.hok hfc).keeps keep) (I2.nolimit.keeps keep) hr.in1.in1.depth (fun u=>hb _ _ _ _ s' u) (hcell.keeps keep) (by obtain⟨o,e,r⟩:=pl.isList;exact⟨o,keep _ _ e,r⟩) ek (by have:=(List.getElem?_eq_some_iff.mp ek).1;omega)
   ·obtain⟨⟨h3,tk3,rfl⟩,keep⟩:=kp;have nD:H2 D=none:=I2.hok.fresh hz;have ol:(c8 (fun i=>cR zs (zs.getD i [])) zs.length).length≤64:=by
     unfold c8;split
     ·rw[length_range];omega
     ·have:=(eP (key:=fun i=>cR zs (zs.getD i [])) (n:=zs.length) (by omega)).1.size_eq;rw[Array.length_toList,this];simp;omega
    refine⟨.ref D,_,I2.laid (t':=tk3) keep hz (show bO X.prog X.w _ _ _ (.lst ((c8 (fun i=>cR zs (zs.getD i [])) zs.length).map fun(i:Nat)=>V.int i)) from⟨by rw[length_map,sizeLine_eq];omega,us,cc,hV,by simpa using eD⟩),rfl,?_⟩;exact h1 _ θ1 _ (g12.trans (de g12.wr nD)) (fD g12.wr nD (hO _ fun i _=>rfl))
  ·rw[if_neg hc] at h1;exact h1.elim
 | _=>rw[hρ] at h1;exact h1.elim
theorem lZ {X:Cx}{x px y:Str}{c P:Addr}{params:Arguments}{scope:Scope}{e:Expr}{gA:GA}{p p2 pos pos2 lpos kpos p1 p3 p4:Pos}{j k:Nat}
  (T:jy X.K x c P) (hr:bf (k+2) X.A) (hg:Gl X "sorted") (hm:X.mg "sorted"=none) (hv:bootBuiltins "sorted"=some (.builtin "sorted")) (hg2:Gl X "range") (hm2:X.mg "range"=none) (hS:iU px y scope=true) (ha:QA X [e] gA)
  (hb:∀(clos:List (Str×Addr)) (pm cv ctv:Value) (s:Shared) (u:Value),BindsTo s (fg (bC x) params (.Subscript (.Name y p1) (.Name px p3) p4) scope clos pm cv ctv) ⟨[u],[]⟩ [(px,u)]:=by intros;exact .of_eq rfl)
  (hcode:X.env.code=.ref c:=by rfl) (hglob:X.env.globals=mainGlobals:=by rfl) (hq:X.env.qual++("<lambda>":Str)=bC x:=by rfl) (hd:defaultsOf params X.env=([],[]):=by rfl) (hcalm:X.calm=true:=by rfl) (hj:X.N[j]?=some y:=by rfl) (hk:X.env.kindOf y=some .cell:=by rfl) (h1:aQ e=true:=by rfl) :
  QE X (.Call (.Name "sorted" p) [.Call (.Name "range" p2) [e] [] pos2] [⟨some "key",.Lambda params (.Subscript (.Name y p1) (.Name px p3) p4) scope lpos,kpos⟩] pos) (dm j gA):=⟨lV T hr hg hm hv hg2 hm2 ha.h hcode hglob hq hd hcalm hS hj hk hb h1⟩
end DL
namespace DL
open PySem L2
def aK:Nat→D→Bool
 | 0,_=>false
 | f+1,d=>match d with
  | .mr _=>false
  | .tup xs=>xs.all (aK f)
  | .lst xs=>xs.all (aK f)
  | .ro xs=>xs.all (aK f)
  | _=>true
theorem aU {f:D→Option D}:∀{xs:List D},(∀x∈xs,f x=some x)→aD f xs=some xs
 | [],_=>rfl
 | x::xs,h=>by
  unfold aD;rw[h x List.mem_cons_self,aU fun y hy=>h y (List.mem_cons_of_mem _ hy)]
theorem eJ {n:Nat}{M:am}:∀(f:Nat) (d:D),aK f d=true→frz n M f d=some d
 | 0,d,h=>by cases h
 | f+1,d,h=>by
  cases d with
  | mr k=>cases h
  | tup xs=>
   have h:xs.all (aK f)=true:=h;show(aD (frz n M f) xs).map D.tup=_;rw[aU fun x hx=>eJ f x (List.all_eq_true.mp h x hx)];rfl
  | lst xs=>
   have h:xs.all (aK f)=true:=h;show(aD (frz n M f) xs).map D.lst=_;rw[aU fun x hx=>eJ f x (List.all_eq_true.mp h x hx)];rfl
  | ro xs=>
   have h:xs.all (aK f)=true:=h;show(aD (frz n M f) xs).map D.ro=_;rw[aU fun x hx=>eJ f x (List.all_eq_true.mp h x hx)];rfl
  | _=>rfl
def iq:MO→Bool
 | .lst xs=>xs.all (aK 30)
 | .obj _ fs=>fs.all fun p=>aK 30 p.2
 | .dK fs=>fs.all fun p=>aK 30 p.2
 | .dT fs=>fs.all fun p=>aK 30 p.2
theorem ft {κ:Type}{f:D→Option D}:∀{fs:List (κ×D)},(∀p∈fs,f p.2=some p.2)→gW f fs=some fs
 | [],_=>rfl
 | (x,d)::fs,h=>by
  unfold gW;rw[h (x,d) List.mem_cons_self,ft fun y hy=>h y (List.mem_cons_of_mem _ hy)]
theorem ie {f:D→Option D}:∀{fs:List (Str×D)},(∀p∈fs,f p.2=some p.2)→ja f fs=some fs
 | [],_=>rfl
 | (x,d)::fs,h=>by
  unfold ja;rw[h (x,d) List.mem_cons_self,ie fun y hy=>h y (List.mem_cons_of_mem _ hy)]
@[simp] theorem ug (f:Nat) (i:Int):aK (f+1) (.int i)=true:=rfl
@[simp] theorem u6 (f:Nat) (i:Bool):aK (f+1) (.bl i)=true:=rfl
@[simp] theorem uj (f:Nat):aK (f+1) .non=true:=rfl
@[simp] theorem ul (f:Nat) (x:Str):aK (f+1) (.str x)=true:=rfl
theorem ui (f:Nat)(xs:List D):aK (f+1) (.tup xs)=xs.all (aK f):=rfl
theorem lD (f:Nat)(xs:List D):aK (f+1) (.lst xs)=xs.all (aK f):=rfl
theorem lL (f:Nat)(l:List Int):(l.map D.int).all (aK (f+1))=true:=by
 rw[List.all_map];exact List.all_eq_true.mpr fun x _=>rfl
end DL
namespace DL
open PySem L2
theorem aC {a b:GS}{ρ ρ1:bg}{M M1:am}(h:a ρ M=.ok (.nx ρ1) M1):ar a b ρ M=b ρ1 M1:=by
 unfold ar;rw[h];rfl
theorem nH {a b:GS}{ρ:bg}{d:D}{M M1:am}(h:a ρ M=.ok (.rt d) M1):ar a b ρ M=.ok (.rt d) M1:=by
 unfold ar;rw[h];rfl
theorem jd {t:GT}{a b:GS}{ρ:bg}{M M1:am}(h:t ρ M=.ok true M1):dR t a b ρ M=a ρ M1:=by
 unfold dR;rw[h,ah,if_pos rfl]
theorem el {t:GT}{a b:GS}{ρ:bg}{M M1:am}(h:t ρ M=.ok false M1):dR t a b ρ M=b ρ M1:=by
 unfold dR;rw[h,ah,if_neg Bool.false_ne_true]
theorem aW {i:Nat}{g:GE}{ρ:bg}{M M1:am}{d:D}(h:g ρ M=.ok d M1):ax i g ρ M=.ok (.nx (ρ.set i (some d))) M1:=by
 unfold ax;rw[h,ah]
theorem kB {g:GE}{ρ:bg}{M M1:am}{d:D}(h:g ρ M=.ok d M1):dS g ρ M=.ok (.nx ρ) M1:=by
 unfold dS;rw[h,ah]
theorem d7 {g:GE}{ρ:bg}{M M1:am}{d:D}(h:g ρ M=.ok d M1):bT g ρ M=.ok (.rt d) M1:=by
 unfold bT;rw[h,ah]
theorem vG {a b:GE}{ρ:bg}{M:am}{x y:Bool}(ha:a ρ M=.ok (.bl x) M)(hb:x=false→b ρ M=.ok (.bl y) M):ql a b ρ M=.ok (.bl (x||y)) M:=by
 unfold ql;rw[ha,ah];cases x with
 | true=>rfl
 | false=>exact hb rfl
theorem kT {a b:GT}{ρ:bg}{M:am}{x y:Bool}(ha:a ρ M=.ok x M)(hb:x=true→b ρ M=.ok y M):dP a b ρ M=.ok (x&&y) M:=by
 unfold dP;rw[ha,ah];cases x with
 | true=>exact hb rfl
 | false=>rfl
theorem dj {a b:GT}{ρ:bg}{M:am}{x y:Bool}(ha:a ρ M=.ok x M)(hb:x=false→b ρ M=.ok y M):cm a b ρ M=.ok (x||y) M:=by
 unfold cm;rw[ha,ah];cases x with
 | true=>rfl
 | false=>exact hb rfl
theorem eU {a:GT}{ρ:bg}{M:am}{x:Bool}(ha:a ρ M=.ok x M):cf a ρ M=.ok (!x) M:=by
 unfold cf;rw[ha,ah]
theorem sQ {a:GE}{ρ:bg}{M M1:am}{x:Bool}(ha:a ρ M=.ok (.bl x) M1):bP a ρ M=.ok x M1:=by
 unfold bP;rw[ha,ah];rfl
theorem a6 {a:GE}{ρ:bg}{M M1:am}{x:Bool}(ha:a ρ M=.ok (.bl x) M1):aJ a ρ M=.ok x M1:=by
 unfold aJ;rw[ha,ah];rfl
theorem au {f:F2}{a b:GE}{ρ:bg}{M M1 M2:am}{x y:D}{o:aE D}(ha:a ρ M=.ok x M1)(hb:b ρ M1=.ok y M2)(h:f x y M2=o):g2 f a b ρ M=o:=by
 unfold g2;rw[ha,ah,hb,ah,h]
theorem fM {F:FD}{a:GE}{ρ:bg}{M M1:am}{x:D}{o:aE D}(ha:a ρ M=.ok x M1)(h:F [x] M1=o):ay F (aa a af) ρ M=o:=by
 unfold ay aa af;rw[ha,ah,ah,ah,h]
theorem ut {F:FD}{a:GE}{ρ:bg}{M M1:am}{x:D}{o:aE D}(ha:a ρ M=.ok x M1)(h:F [x] M1=o):ao 1 F (aa a af) ρ M=o:=by
 unfold ao aa af;rw[ha,ah,ah,ah,if_pos (show [x].length=1 from rfl),h]
theorem mJ {F:FD}{a b:GE}{ρ:bg}{M M1 M2:am}{x y:D}{o:aE D}(ha:a ρ M=.ok x M1)(hb:b ρ M1=.ok y M2)(h:F [x,y] M2=o):ao 2 F (aa a (aa b af)) ρ M=o:=by
 unfold ao aa af;rw[ha,ah,hb,ah,ah,ah,ah,if_pos (show [x,y].length=2 from rfl),h]
theorem m4 {F:FD}{a b c:GE}{ρ:bg}{M M1 M2 M3:am}{x y z:D}{o:aE D}(ha:a ρ M=.ok x M1)(hb:b ρ M1=.ok y M2)(hc:c ρ M2=.ok z M3)(h:F [x,y,z] M3=o):ao 3 F (aa a (aa b (aa c af))) ρ M=o:=by
 unfold ao aa af;rw[ha,ah,hb,ah,hc,ah,ah,ah,ah,ah,if_pos (show [x,y,z].length=3 from rfl),h]
theorem fI {i:Nat}{ρ:bg}{M:am}{xs:List D}(h:ρ[i]?=some (some (.lst xs))):cb (ae i) ρ M=.ok ⟨xs,none⟩ M:=by
 unfold cb ae;rw[h];rfl
theorem qw (a b:Int)(M:am):bH false (.int a) (.int b) M=.ok (.bl (decide (a=b))) M:=by
 show aE.ok (D.bl ((a==b) != false)) M=_
 by_cases q:a=b <;> simp[q]
theorem vN (a b:Int)(M:am):bH true (.int a) (.int b) M=.ok (.bl (!decide (a=b))) M:=by
 show aE.ok (D.bl ((a==b) != true)) M=_
 by_cases q:a=b <;> simp[q]
theorem cH {xs:List D}{k:Nat}{d:D}{M:am}(h:xs[k]?=some d):aB (.lst xs) (.int k) M=.ok d M:=by
 have a:=fK (xs:=xs) (j:=k) h;unfold aB aO;dsimp only;rw[a]
theorem eE {xs:List D}{k:Nat}{d:D}{M:am}(h:xs[k]?=some d):aB (.tup xs) (.int k) M=.ok d M:=by
 have a:=fK (xs:=xs) (j:=k) h;unfold aB aO;dsimp only;rw[a]
theorem kJ {ρ:bg}{M:am}:eN af ρ M=.ok (.mr M.length) (M++[.lst []]):=by
 show(if([]:List D).length≤sizeLine then aE.ok (D.mr M.length) (M++[.lst []]) else .bad)=_;rw[if_pos (show([]:List D).length≤sizeLine from Nat.zero_le _)]
theorem iT {ga:GA}{ρ:bg}{M M1:am}{ds:List D}(h:ga ρ M=.ok ds M1)(hl:ds.length≤100000:=by exact Nat.le_of_ble_eq_true rfl):cX ga ρ M=.ok (.tup ds) M1:=by
 have:ds.length≤sizeLine:=cY (by omega);unfold cX;rw[h,ah];unfold gL;rw[if_pos this]
theorem gf {ga:GA}{ρ:bg}{M M1:am}{ds:List D}(h:ga ρ M=.ok ds M1)(hl:ds.length≤100000:=by exact Nat.le_of_ble_eq_true rfl):bU ga ρ M=.ok (.lst ds) M1:=by
 have:ds.length≤sizeLine:=cY (by omega);unfold bU;rw[h,ah];unfold aI;rw[if_pos this]
theorem bc {g:GE}{r:GA}{ρ:bg}{M M1 M2:am}{d:D}{ds:List D}(h:g ρ M=.ok d M1)(hr:r ρ M1=.ok ds M2):aa g r ρ M=.ok (d::ds) M2:=by
 unfold aa;rw[h,ah,hr,ah]
theorem nJ {go ge:GE}{ρ:bg}{M M1:am}{k:Nat}{E E1:List D}{d:D}(h1:go ρ M=.ok (.mr k) M)(h2:M[k]?=some (.lst E))(h3:ge ρ M=.ok d M1)(h4:M1[k]?=some (.lst E1))(h:E1.length<1000000) :
  gR go ge ρ M=.ok .non (M1.set k (.lst (E1++[d]))):=by
 have l:E1.length<sizeLine:=Nat.lt_of_lt_of_le h (by rw[sizeLine_eq];decide);unfold gR;rw[h1,ah];dsimp only;rw[h2];dsimp only;rw[h3,ah];unfold mf;rw[h4];dsimp only;rw[if_pos l]
theorem fE {ga:GA}{ρ:bg}{M M1:am}{n:Nat}(h:ga ρ M=.ok [.int (n:Int)] M1)(hn:n≤1000000):cD ga ρ M=.ok ⟨aG 0 n,none⟩ M1:=by
 unfold cD;rw[h,ah,nn hn]
theorem d5 {gi:GI}{sg:GG}{b:GS}{ρ:bg}{M M1:am}{t:gn}{o:aE Fl}(h:gi ρ M=.ok t M1)(e:cp t sg b t.ds ρ M1=o):ee gi sg b ρ M=o:=by
 unfold ee;rw[h,ah,e]
theorem oF {i j:Int}(h0:0<j)(h1:j≤1000000)(M:am):bD (.int i) (.int j) M=.ok (.int (i / j)) M:=by
 have h2:j.natAbs<2 ^ 20:=by omega
 have h3:j.natAbs≠0:=by omega
 have h4:=(Nat.log2_lt h3).mpr h2;unfold bD;dsimp only;rw[if_pos ⟨h0,by omega⟩]
theorem pL {d:D}(h:bE 40 d=true)(hs:kD d d=true)(hm:∀M,now d M=d)(M:am):bH true d d M=.ok (.bl false) M:=by
 unfold bH;rw[hm,h,hs];rfl
end DL
namespace DL
open PySem L2
def dM (n:Nat):Nat→D→Bool
 | 0,_=>false
 | f+1,d=>match d with
  | .mr k=>decide (k<n)
  | .tup xs=>xs.all (dM n f)
  | .lst xs=>xs.all (dM n f)
  | .ro xs=>xs.all (dM n f)
  | _=>true
theorem c9 {n:Nat}{M:am}:∀(f:Nat) (d:D),dM n f d=true→frz n M f d=some d
 | 0,d,h=>by cases h
 | f+1,d,h=>by
  cases d with
  | mr k=>
   have h:decide (k<n)=true:=h;show(if k<n then some (D.mr k) else _)=_;rw[if_pos (of_decide_eq_true h)]
  | tup xs=>
   have h:xs.all (dM n f)=true:=h;show(aD (frz n M f) xs).map D.tup=_;rw[aU fun x hx=>c9 f x (List.all_eq_true.mp h x hx)];rfl
  | lst xs=>
   have h:xs.all (dM n f)=true:=h;show(aD (frz n M f) xs).map D.lst=_;rw[aU fun x hx=>c9 f x (List.all_eq_true.mp h x hx)];rfl
  | ro xs=>
   have h:xs.all (dM n f)=true:=h;show(aD (frz n M f) xs).map D.ro=_;rw[aU fun x hx=>c9 f x (List.all_eq_true.mp h x hx)];rfl
  | _=>rfl
theorem cK {n:Nat}:∀(f:Nat) (d:D),aK f d=true→dM n f d=true
 | 0,d,h=>by cases h
 | f+1,d,h=>by
  cases d with
  | mr k=>cases h
  | tup xs=>exact List.all_eq_true.mpr fun x hx=>cK f x (List.all_eq_true.mp (show xs.all (aK f)=true from h) x hx)
  | lst xs=>exact List.all_eq_true.mpr fun x hx=>cK f x (List.all_eq_true.mp (show xs.all (aK f)=true from h) x hx)
  | ro xs=>exact List.all_eq_true.mpr fun x hx=>cK f x (List.all_eq_true.mp (show xs.all (aK f)=true from h) x hx)
  | _=>rfl
def tx (n:Nat):MO→Bool
 | .lst xs=>xs.all (dM n 30)
 | .obj _ fs=>fs.all fun p=>dM n 30 p.2
 | .dK fs=>fs.all fun p=>dM n 30 p.2
 | .dT fs=>fs.all fun p=>dM n 30 p.2
theorem lm {n:Nat}{o:MO}(h:iq o=true):tx n o=true:=by
 cases o with
 | lst xs=>exact List.all_eq_true.mpr fun x hx=>cK 30 x (List.all_eq_true.mp (show xs.all (aK 30)=true from h) x hx)
 | obj c fs=>exact List.all_eq_true.mpr fun x hx=>cK 30 x.2 (List.all_eq_true.mp (show(fs.all fun p=>aK 30 p.2)=true from h) x hx)
 | dK fs=>exact List.all_eq_true.mpr fun x hx=>cK 30 x.2 (List.all_eq_true.mp (show(fs.all fun p=>aK 30 p.2)=true from h) x hx)
 | dT fs=>exact List.all_eq_true.mpr fun x hx=>cK 30 x.2 (List.all_eq_true.mp (show(fs.all fun p=>aK 30 p.2)=true from h) x hx)
theorem dG {n:Nat}{M:am}:∀{l:List MO},l.all (tx n)=true→cz n M l=some l
 | [],_=>rfl
 | .lst xs::r,h=>by
  rw[List.all_cons,Bool.and_eq_true] at h;unfold cz;rw[dG h.2];have h1:xs.all (dM n 30)=true:=h.1;rw[aU fun x hx=>c9 30 x (List.all_eq_true.mp h1 x hx)]
 | .obj c fs::r,h=>by
  rw[List.all_cons,Bool.and_eq_true] at h;unfold cz;rw[dG h.2];have h1:(fs.all fun p=>dM n 30 p.2)=true:=h.1;rw[ie fun p hp=>c9 30 p.2 (List.all_eq_true.mp h1 p hp)]
 | .dK fs::r,h=>by
  rw[List.all_cons,Bool.and_eq_true] at h;unfold cz;rw[dG h.2];have h1:(fs.all fun p=>dM n 30 p.2)=true:=h.1;rw[ft fun p hp=>c9 30 p.2 (List.all_eq_true.mp h1 p hp)]
 | .dT fs::r,h=>by
  rw[List.all_cons,Bool.and_eq_true] at h;unfold cz;rw[dG h.2];have h1:(fs.all fun p=>dM n 30 p.2)=true:=h.1;rw[ft fun p hp=>c9 30 p.2 (List.all_eq_true.mp h1 p hp)]
def lQ (M:am):Prop:=M.all (tx M.length)=true
theorem lQ.pure {M:am}(h:M.all iq=true):lQ M:=List.all_eq_true.mpr fun x hx=>lm (List.all_eq_true.mp h x hx)
end DL
namespace Hd
open PySem PySem.W PySem.Calls PyProof.Rows
def topRunT (tb:String→Option Builtin)(p:Program)(w:World)(n0:Nat)(ann:Option Value):Nat→SharedT→Thread→Option SharedT
 | 0,_,_=>none
 | n+1,s,t=>match through t with
  | true=>some s
  | false=>match stepOk n0 ann t with
   | false=>none
   | true=>match stepT (denote tb) p w s t with
    | some (s',t')=>topRunT tb p w n0 ann n s' t'
    | none=>none
theorem il {tb:String→Option Builtin}{p:Program}{w:World}{n0:Nat}{ann:Option Value}:∀{n:Nat} {s s':SharedT} {t:Thread},topRunT tb p w n0 ann n s t=some s'→topRun tb p w n0 ann n s.abs t=some s'.abs
 | 0,_,_,_,h=>by cases h
 | n+1,s,s',t,h=>by
  unfold topRunT at h;unfold topRun;cases he:through t with
  | true=>rw[he] at h;cases h;rfl
  | false=>
   rw[he] at h;cases hk:stepOk n0 ann t with
   | false=>rw[hk] at h;cases h
   | true=>
    rw[hk] at h;cases hs:stepT (denote tb) p w s t with
    | none=>rw[hs] at h;cases h
    | some r=>obtain⟨s2,t2⟩:=r;rw[hs] at h;rw[stepT_spec hs];exact il h
def grow:List Obj→BT→Nat→BT
 | [],t,_=>t
 | o::r,t,n=>grow r (t.ins n o) (n+1)
def p7:List Obj→BT→Nat→Bool
 | [],_,_=>true
 | o::r,t,n=>((t.ins n o).get n).isSome&&p7 r (t.ins n o) (n+1)
theorem jJ (life:Life):∀(l:List Obj) (t:BT) (n:Nat),p7 l t n=true→absHeap (grow l t n) (n+l.length) life=⟨(absHeap t n life).objs++l.toArray,life⟩
 | [],t,n,_=>by simp[grow,absHeap]
 | o::r,t,n,h=>by
  obtain⟨h1,h2⟩:=Bool.and_eq_true_iff.mp h;have e:=jJ life r (t.ins n o) (n+1) h2;have e2:absHeap (t.ins n o) (n+1) life=(absHeap t n life).push o:=absHeap_ins h1;show absHeap (grow r (t.ins n o) (n+1)) (n+(r.length+1)) life=_;rw[show n+(r.length+1)=n+1+r.length by omega,e,e2];simp[Heap.push]
theorem kg {p q:Program}{loose:List Str}{Xt:Shared→Bool}{A:Type}{Yf:Shared→A}{Ya:World→A}{N:Nat}{g0:Bool}{H:Params→Heap}{gs:Array GenState}{d:Drawn}{k:Nat}{m:Nat}{ann:Option Value}{T:Params→BT}{lf:Life}
  (open_:∀w:World,(fencedOpening treeTable p w N).map (fun s=>(s.heap,s.gens,s.drawn,s.toks))=some (H w.params,gs,d,k))
  (size:∀w:World,((H w.params).isNs mainGlobals&&gs.size==0,(H w.params).objs.size,(H w.params).nsMap mainGlobals "__annotations__")=(true,m,ann))
  (tree:∀P,H P=absHeap (T P) m lf)
  (run:∀(w:World) (os:OsState),(topRunT treeTable p w m ann N ⟨T w.params,m,lf,gs,d,k,os⟩ (topStub p)).map (fun s=>
    ((staticsOk (importedModules p.main.body) (H w.params) s.abs.heap&&namesBound p s.abs.heap&&gensDone s.abs&&laidKept (H w.params) s.abs.heap),
    openSeen q loose (importedModules p.main.body) Xt g0 s.abs,Yf s.abs))=some (true,openGood q loose,Ya w)):LeftO p q loose Xt Yf Ya N g0:=fun w=>by
 obtain⟨⟨h,gs',d',k',os⟩,e,e'⟩:=Option.map_eq_some_iff.mp (open_ w);obtain⟨rfl,rfl,rfl,rfl⟩:h=H w.params∧gs'=gs∧d'=d∧k'=k:=by simpa using e'
 obtain⟨z1,z2,z3⟩:_∧_∧_:=by simpa only[Prod.mk.injEq] using size w
 obtain⟨s,r1,r2⟩:=Option.map_eq_some_iff.mp (run w os);obtain⟨l1,l2,l3⟩:_∧_∧_:=by simpa only[Prod.mk.injEq] using r2
 have r:=il r1;have ea:SharedT.abs ⟨T w.params,m,lf,gs',d',k',os⟩=⟨H w.params,gs',d',k',os⟩:=by rw[tree];rfl
 rw[ea] at r;have t:topFrom treeTable p w N ⟨H w.params,gs',d',k',os⟩=some s.abs:=by
  unfold topFrom;dsimp only;rw[z1,z2,z3,r];show(match staticsOk (importedModules p.main.body) (H w.params) s.abs.heap&&namesBound p s.abs.heap&&gensDone s.abs&&laidKept (H w.params) s.abs.heap with|true=>_|false=>_)=_;rw[l1]
 unfold openEnds;rw[e];show(topFrom treeTable p w N _).map _=_;rw[t];exact congrArg some (Prod.ext l2 l3)
noncomputable def bootT (P:Params):BT:=grow (boot_heap P).objs.toList .nil 0
lay_quick Hd.topRunT W.topStub
theorem mi (P:Params):boot_heap P=absHeap (bootT P) 11 {}:=by
 have h:=jJ {} (boot_heap P).objs.toList .nil 0 (by kernel_rfl);exact h.symm
noncomputable def RT (p:Program) (w:World) (N:Nat) (os:OsState):Option SharedT:=topRunT treeTable p w 11 (some (Value.ref 6)) N ⟨bootT w.params,11,{},Array.mk [],boot_drawn,boot_toks,os⟩ (topStub p)
noncomputable def pA (p:Program) (P:Params) (s:Shared):Bool:=staticsOk (importedModules p.main.body) (boot_heap P) s.heap&&namesBound p s.heap&&gensDone s&&laidKept (boot_heap P) s.heap
def pB (q:Program)(mods:List Str)(Xt:Shared→Bool)(s:Shared):Bool:=(s.heap.keysOk (looseW q []) ((recsOf q).map (·.name)) ((litsOf q).map (·.1)) ((clssOf q (looseW q [])).map (·.name))&&s.heap.accountedOkI mods&&s.heap.isNs mainGlobals&&s.heap.isNs builtinsNs&&tablesOk q s.heap&&Xt s&&(if true then s.gens.size==0 else !leftWithCleanup s.gens))&&tabsOk q s
def pC (q:Program)(s:Shared):=(seen ((recsOf q).map (·.name)) (ownsOf q) [] {s with gens:=#[]},s.heap.bltView,wideSeen q s)
def pD (q:Program)(s:Shared):=(pinSeenD q (drecsOf q) s,plainSeenE q (looseW q []) s,plainSeenD q [] s,clsSeenW q [] s)
lay_quick Hd.pB
lay_quick Hd.pC
lay_quick Hd.pD
theorem iE {α A B:Type}{x:Option α}{f:α→A}{g:α→B}{a:A}{b:B}(h1:x.map f=some a)(h2:x.map g=some b):x.map (fun s=>(f s,g s))=some (a,b):=by
 cases x with
 | none=>cases h1
 | some s=>exact congrArg some (Prod.ext (Option.some.inj h1) (Option.some.inj h2))
theorem kj {p q:Program}{Xt:Shared→Bool}{A:Type}{Yf:Shared→A}{Ya:World→A}{N:Nat}
  (open_:∀w:World,(fencedOpening treeTable p w N).map (fun s=>(s.heap,s.gens,s.drawn,s.toks))=some (boot_heap w.params,Array.mk [],boot_drawn,boot_toks))
  (size:∀w:World,((boot_heap w.params).isNs mainGlobals&&(Array.mk ([]:List GenState)).size==0,(boot_heap w.params).objs.size,(boot_heap w.params).nsMap mainGlobals "__annotations__")=(true,11,some (Value.ref 6)))
  (r1:∀(w:World) (os:OsState),(RT p w N os).map (fun s=>pA p w.params s.abs&&pB q (importedModules p.main.body) Xt s.abs)=some true)
  (r2:∀(w:World) (os:OsState),(RT p w N os).map (fun s=>pC q s.abs)=some (expectedOf q,bltViewBooted,wideGood q))
  (r3:∀(w:World) (os:OsState),(RT p w N os).map (fun s=>pD q s.abs)=some (pinGoodD (drecsOf q),plainGoodE q (looseW q []),plainGoodD q [],clsGoodW q []))
  (r4:∀(w:World) (os:OsState),(RT p w N os).map (fun s=>Yf s.abs)=some (Ya w)):LeftO p q [] Xt Yf Ya N true:=
 kg open_ size mi fun w os=>by
  show(RT p w N os).map _=_;have h:=iE (iE (r1 w os) (r2 w os)) (iE (r3 w os) (r4 w os));cases e:RT p w N os with
  | none=>rw[e] at h;cases h
  | some s=>
   rw[e] at h;obtain⟨h1,h2⟩:=Prod.mk.inj (Option.some.inj h);obtain⟨h1,h3⟩:=Prod.mk.inj h1;obtain⟨h4,h5⟩:=Prod.mk.inj h2;obtain⟨a,b⟩:=Bool.and_eq_true_iff.mp h1;obtain⟨b,c⟩:=Bool.and_eq_true_iff.mp b;obtain⟨c1,c2⟩:=Prod.mk.inj h3;obtain⟨c2,c3⟩:=Prod.mk.inj c2;obtain⟨d1,d2⟩:=Prod.mk.inj h4;obtain⟨d2,d3⟩:=Prod.mk.inj d2;obtain⟨d3,d4⟩:=Prod.mk.inj d3;exact congrArg some (Prod.ext a (Prod.ext (Prod.ext c1 (Prod.ext c2 (Prod.ext b (Prod.ext c (Prod.ext d1 (Prod.ext d2 (Prod.ext d3 (Prod.ext c3 d4)))))))) h5))
def lk (s:SharedT)(a:Nat):Option Obj:=match Nat.blt a s.n with
 | true=>(match s.tree.get a with
  | some o=>alive o
  | none=>none)
 | false=>none
theorem u5 {s:SharedT}{a:Nat}{o:Obj}(h:lk s a=some o):s.abs.heap.get? a=some o:=by
 unfold lk at h;cases b:Nat.blt a s.n with
 | false=>rw[b] at h;cases h
 | true=>
  rw[b] at h;cases g:s.tree.get a with
  | none=>rw[g] at h;cases h
  | some x=>rw[g] at h;exact(abs_get (Nat.blt_eq.mp b) g).trans h
theorem j3 {s:SharedT}{β:Type}{f:β→Obj}:∀{as:List Nat} {l:List β},as.map (lk s)=l.map (fun p=>some (f p))→as.map s.abs.heap.get?=l.map (fun p=>some (f p))
 | [],[],_=>rfl
 | [],_::_,h=>by cases h
 | _::_,[],h=>by cases h
 | a::as,p::l,h=>by
  obtain⟨x,y⟩:=List.cons.inj h;show s.abs.heap.get? a::as.map s.abs.heap.get?=_;rw[u5 x,j3 y];rfl
theorem left_km {p q:Program}{Xt:Shared→Bool}{N:Nat}{K:Params→Frag}{as:List Addr}{e:∀P,as=(K P).map (·.1)}{ts:List Addr}
  (open_:∀w:World,(fencedOpening treeTable p w N).map (fun s=>(s.heap,s.gens,s.drawn,s.toks))=some (boot_heap w.params,Array.mk [],boot_drawn,boot_toks))
  (size:∀w:World,((boot_heap w.params).isNs mainGlobals&&(Array.mk ([]:List GenState)).size==0,(boot_heap w.params).objs.size,(boot_heap w.params).nsMap mainGlobals "__annotations__")=(true,11,some (Value.ref 6)))
  (r1:∀(w:World) (os:OsState),(RT p w N os).map (fun s=>pA p w.params s.abs&&pB q (importedModules p.main.body) Xt s.abs)=some true)
  (r2:∀(w:World) (os:OsState),(RT p w N os).map (fun s=>pC q s.abs)=some (expectedOf q,bltViewBooted,wideGood q))
  (r3:∀(w:World) (os:OsState),(RT p w N os).map (fun s=>pD q s.abs)=some (pinGoodD (drecsOf q),plainGoodE q (looseW q []),plainGoodD q [],clsGoodW q []))
  (r4:∀(w:World) (os:OsState),(RT p w N os).map (fun s=>(as.map (lk s),ts.map (lk s)))=some ((K w.params).map (fun p=>some p.2),ts.map fun _=>some (tabObj #[]))) :
  LeftO p q [] Xt (kmHook K as e ts).obs (kmHook K as e ts).val N true:=
 kj open_ size r1 r2 r3 fun w os=>by
  obtain⟨s,h1,h2⟩:=Option.map_eq_some_iff.mp (r4 w os);obtain⟨a,b⟩:=Prod.mk.inj h2;rw[h1];exact congrArg some (Prod.ext (j3 a) (j3 b))
end Hd
namespace K18
open PySem PySem.Spec PyProof.Rows L2 DL List
noncomputable def top (i:Nat):Stmt:=PySem.Challenge.pw_glowrow_k18_slots_or_a_row.main.body.getD i (.Pass ⟨0,0,0,0⟩)
noncomputable abbrev p5:Stmt:=top 8
noncomputable abbrev TX:=Tx (("crowded_row",top 2,["needs","many"])::("free_slot",top 4,["ends","row"])::("slots_for",top 1,["things","many","rest"])::("_law_draw",top 6,["tape","many"])::("_law_need",top 7,["things","rest","row"])::[])
 ([])
 [("slots_given",top 3,["needs"])]
 ("bool"::"enumerate"::"int"::"isinstance"::"len"::"list"::"max"::"min"::"range"::"sorted"::"tuple"::[]) []
 ([]) []
 ([]) [] []
set_option hygiene false
local macro_rules | `(tactic| walk_at "o") => `(tactic| first | with_reducible exact vT | with_reducible exact q_addM | with_reducible exact uI | with_reducible exact uL | with_reducible exact rF | with_reducible exact vY | with_reducible exact vc | with_reducible exact xh | with_reducible exact xP | with_reducible exact xy | with_reducible exact xf | with_reducible exact xB | with_reducible exact q_isnot | with_reducible exact q_in | with_reducible exact q_notin | with_reducible exact q_mulT | with_reducible exact q_inA | with_reducible exact q_mulL | with_reducible exact tq | ((with_reducible show Q2 _ _ (dIn _)); first | exact q_din hr | exact q_dnotin hr) | ((with_reducible show Q2 _ (compareOp .Eq) _); exact xE hr) | exact xI hr)
local macro_rules | `(tactic| walk_at "c") => `(tactic| first | ((with_reducible refine q_int)) | ((with_reducible refine q_lenT)) | ((with_reducible refine wj)) | ((with_reducible refine q_listT ?_); rfl) | ((with_reducible refine q_listM)) | ((with_reducible refine sr)) | ((with_reducible refine vS ?_); rfl) | ((with_reducible refine vL ?_); rfl) | ((with_reducible refine q_sorted)) | ((with_reducible refine q_tuple)))
local macro_rules | `(tactic| walk_at "b") => `(tactic| with_reducible first | exact Boot.«bool» | exact Boot.«enumerate» | exact Boot.«int» | exact Boot.«isinstance» | exact Boot.«len» | exact Boot.«list» | exact Boot.«max» | exact Boot.«min» | exact Boot.«range» | exact Boot.«sorted» | exact Boot.«tuple»)
local macro_rules | `(tactic| walk_at "E") => `(tactic| first
  | ((with_reducible show QE _ _ (ae _));exact qv _)
  | ((with_reducible show QE _ _ (gC _));first|exact sH|exact rq|exact tz|exact vV)
  | ((with_reducible show QE _ _ (g2 dGet _ _));refine qe_dget hr ?_ ?_)
  | ((with_reducible show QE _ _ (g2 aB _ _));refine v7 ?_ ?_)
  | ((with_reducible show QE _ _ (g2 _ _ _));first|refine wn (by walk_at "o") ?_ ?_|refine sK (by walk_at "o") ?_ ?_|refine qe_cmpI (by walk_at "o") ?_ ?_)
  | ((with_reducible show QE _ _ (ao _ _ _));refine uU (by assumption) hr ?_)
  | ((with_reducible show QE _ _ (cX _));refine rR ?_)
  | ((with_reducible show QE _ _ (b9 _ _));refine uM (by first|exact .inl rfl|exact .inr (.inl rfl)|exact .inr (.inr (.inl rfl))|exact .inr (.inr (.inr (.inl rfl)))|exact .inr (.inr (.inr (.inr rfl)))) (by walk_at "b") (by rfl) (T.z _ (by decide +kernel)) (by rfl) (T.z _ (by decide +kernel)) ?_)
  | ((with_reducible show QE _ _ (ay fz _));refine p8 (sJ (k:=0) (hr.mono (by decide))) (by rfl) (T.z _ (by decide +kernel)) (by walk_at "b") ?_)
  | ((with_reducible show QE _ _ (ay _ _));first|refine vQ (by walk_at "c") (T.z _ (by decide +kernel)) (by walk_at "b") ?_|refine vP (by walk_at "c") (by rfl) (T.z _ (by decide +kernel)) (by walk_at "b") ?_)
  | ((with_reducible show QE _ _ (bU _));refine tF ?_)
  | ((with_reducible show QE _ _ (eN _));refine rM ?_)
  | ((with_reducible show QE _ _ (jM _ _ _ _ _));refine qe_chain (by walk_at "o") (by walk_at "o") ?_ ?_ ?_)
  | ((with_reducible show QE _ _ (cq _ _ _ _));first|refine qe_compR (by assumption) (by kernel_rfl) (by first|exact .inl rfl|exact .inr rfl) ?_ ?_ ?_|refine mY (by kernel_rfl) (by first|exact .inl rfl|exact .inr rfl) ?_ ?_ ?_)
  | ((with_reducible show QE _ _ (aP _ _ _ _ _ _));refine mh (by assumption) (by kernel_rfl) (by first|exact .inl rfl|exact .inr rfl) ?_ ?_ ?_ ?_ ?_)
  | ((with_reducible show QE _ _ (gR _ _));refine l7 ?_ ?_)
  | ((with_reducible show QE _ _ (dm _ _));refine lZ (px:="at") (by assumption) (k:=0) (hr.mono (by decide)) (by rfl) (T.z _ (by decide +kernel)) (by walk_at "b") (by rfl) (T.z _ (by decide +kernel)) (by kernel_rfl) ?_))
local macro_rules | `(tactic| walk_at "S") => `(tactic| first
  | ((with_reducible show QS _ _ (bT _));refine tj ?_)
  | ((with_reducible show QS _ _ (dR _ _ _));refine uB ?_ ?_ ?_)
  | ((with_reducible show QS _ _ (ax _ (cq _ _ _ _)));first|refine qs_setCompR (by assumption) (by kernel_rfl) (by first|exact .inl rfl|exact .inr rfl) nd ?_ ?_ ?_|refine qs_setCompN (by kernel_rfl) (by first|exact .inl rfl|exact .inr rfl) nd ?_ ?_ ?_|refine qs_setC _ nd ?_)
  | ((with_reducible show QS _ _ (ax _ (aP _ _ _ _ _ _)));first|refine iC (by assumption) (by kernel_rfl) (by first|exact .inl rfl|exact .inr rfl) ?_ nd ?_ ?_ ?_ ?_|refine qs_setC _ nd ?_)
  | ((with_reducible show QS _ _ (ax _ _));refine qF _ nd ?_)
  | ((with_reducible show QS _ _ (g6 _ _));refine sk ?_ ?_)
  | ((with_reducible show QS _ _ (ji _ _ _));refine oC PassesOwn.leaving (by rfl) (T.z _ (by decide +kernel)) (by walk_at "b") ?_ ?_ ?_)
  | ((with_reducible show QS _ _ (ee _ _ _));refine rW PassesOwn.leaving ?_ ?_ ?_)
  | ((with_reducible show QS _ _ (dS _));refine pq ?_)
  | ((with_reducible show QS _ _ (cO _ _ _));refine rp ?_ ?_ ?_)
  | ((with_reducible show QS _ _ (bo));first|exact qs_pass|exact qs_doc))
local macro_rules | `(tactic| walk_at "Q") => `(tactic| first
  | ((with_reducible show QE _ _ _);first|walk_at "E"|refine qU ?_|refine qe_and ?_ ?_|refine vE ?_ ?_|refine qe_fstr1 ?_)
  | ((with_reducible show QA _ _ _);first|exact tO|refine xL ?_ ?_)
  | ((with_reducible show QT _ _ _);first
  | ((with_reducible show QT _ _ (aJ (jM _ _ _ _ _)));refine m7 (by walk_at "o") (by walk_at "o") ?_ ?_ ?_)
  | ((with_reducible show QT _ _ (aJ _));first|refine qQ (by walk_at "o") ?_ ?_|refine qt_cmpI (by walk_at "o") ?_ ?_)
  | ((with_reducible show QT _ _ (cf _));refine sj ?_)
  | ((with_reducible show QT _ _ (bP _));refine tB ?_)
  | ((with_reducible show QT _ _ (dP _ _));refine wd ?_)
  | ((with_reducible show QT _ _ (cm _ _));refine wd ?_))
  | ((with_reducible show QB _ _ _);first|exact tm|refine rL ?_|refine pf ?_ ?_)
  | ((with_reducible show QS _ _ _);walk_at "S")
  | ((with_reducible show QW _ _ _);first|refine rX ?_ ?_|refine v9 ?_ ?_|refine pK ?_|refine tD ?_)
  | ((with_reducible show QI _ _ _ _);first|((with_reducible show QI _ _ _ (cD _));refine vy (by rfl) (T.z _ (by decide +kernel)) ?_)|((with_reducible show QI _ _ _ (gRng2 _));refine qi_r2 (by rfl) (T.z _ (by decide +kernel)) ?_)|((with_reducible show QI _ _ _ (gEnum _));refine qi_enum (by rfl) (T.z _ (by decide +kernel)) (by walk_at "b") ?_)|((with_reducible show QI _ _ _ (gEz _));refine qi_ez (by rfl) (T.z _ (by decide +kernel)) (by walk_at "b") (by rfl) (T.z _ (by decide +kernel)) (by walk_at "b") ?_)|refine qT ?_)
  | ((with_reducible show QG _ _ _);first|exact qn _ nd|exact yk _ (by kernel_rfl)|refine qH ?_|refine qg_tupG ?_)
  | ((with_reducible show vX _ _ _);first|exact oY|refine uJ ?_ ?_)
  | ((with_reducible show QGG _ _ _);first|exact qgg_nil|refine qgg_c ?_ ?_)
  | ((with_reducible show QP _ _ _);first|exact qp_none|refine qp_some ?_)
  | ((with_reducible show oZ _ _ _ _ _ _);first|exact lx|refine lA ?_)
  | ((with_reducible show QO _ _);first|exact qo_one _ _|exact rg _|refine qo_tupG ?_)
  | ((with_reducible show QOs _ _);first|exact qos_nil|refine qos_c ?_ ?_)
  | ((with_reducible show QF _ _ _);first|exact qf_nil|refine qf_c ?_ ?_)
  | ((with_reducible show QD _ _ _ _ _);first|exact qd_nil|refine qd_c ?_)
  | intro _)
section
variable {P:Program}{w:World}{K:W.Frag}{mg:Str→Option Value}{base:Heap}
noncomputable def cM:GE:=(gC (.int 1))
noncomputable def cJ:GT:=(aJ (jM ig ig (ae 0) (ae 4) (ae 1)))
noncomputable def bS:GS:=(dR (aJ (g2 kU (ay aX (aa (aP (cb (ae 0)) 2 (cg [0,1]) cJ cM aI) af)) (ae 1))) (bT (ae 2)) bo)
noncomputable def b0:GS:=(ar (ee (cb (ae 0)) (cg [2,3]) bS) (bT (gC .non)))
noncomputable def bZ:FD:=dC 2 b0
theorem gN (T:TX P w K mg base):Ok P w K mg base "crowded_row" 1 2 bZ:=nz (mK T.f 0 rfl) ["needs","many","row","end"] fR rfl fun f _ A _ s H E nd hr=>by have:=rn 10 15 ["first","last"] ["needs","many","row","end"];delta b0 cM cJ bS;repeat' walk_at "Q"
noncomputable def av:GS:=(dR (aJ (g2 gV (ae 3) (ae 1))) (bT (ae 2)) bo)
noncomputable def cW:GS:=(ar (ji (aa (ae 0) af) (cg [2,3]) av) (bT (ay aX (aa (ae 0) af))))
noncomputable def cU:FD:=dC 2 cW
theorem iK (T:TX P w K mg base):Ok P w K mg base "free_slot" 1 2 cU:=nz (mK T.f 1 rfl) ["ends","row","slot","end"] fR rfl fun f _ A _ s H E nd hr=>by delta cW av;repeat' walk_at "Q"
noncomputable def bx:GS:=(ar (g6 (cg [4,5]) (g2 aB (ae 0) (ae 3))) (ar (ax 6 (ao 2 cU (aa (ae 2) (aa (ae 4) af)))) (ar (dR (aJ (g2 (bH false) (ae 6) (ay aX (aa (ae 2) af)))) (dS (gR (ae 2) (ae 5))) bo) (ar (cO (ae 2) (ae 6) (ae 5)) (cO (ae 1) (ae 3) (ae 6))))))
noncomputable def bF:GS:=(ar (ax 1 (g2 nu (bU (aa (gC (.int 0)) af)) (ay aX (aa (ae 0) af)))) (ar (ax 2 (eN af)) (ar (ee (cb (dm 0 (aa (ay aX (aa (ae 0) af)) af))) (bX 3) bx) (bT (ae 1)))))
noncomputable def bI:FD:=fun ds M=>ma M.length (dC 6 bF ds M)
theorem fL (T:TX P w K mg base):Ok P w K mg base "slots_given" 3 1 bI:=rO (F:=dC 6 bF) <| wZ (xw T.l 0 rfl) ["needs","slots","ends","place","first","last","slot"] fR rfl fun f _ _ A _ s H E nd tb hr=>by have:=iK T;delta bF bx;repeat' walk_at "Q"
noncomputable def cu:GE:=(cX (aa (ae 0) (aa (g2 ba (ae 1) (ae 4)) af)))
noncomputable def cT:GS:=(ar (ax 3 (aP (cb (ae 0)) 2 (cg [0,1]) d8 cu aI)) (ar (ax 4 (ao 2 bZ (aa (ae 3) (aa (ae 1) af)))) (ar (dR (aJ (g2 (jI false) (ae 4) (gC .non))) (bT (cX (aa (gC (.str "slots")) (aa (ao 1 bI (aa (ae 3) af)) af)))) bo) (bT (cX (aa (gC (.str "row")) (aa (ae 4) af)))))))
noncomputable def bw:FD:=dC 2 cT
theorem i9 (T:TX P w K mg base):Ok P w K mg base "slots_for" 4 3 bw:=nz (mK T.f 2 rfl) ["things","many","rest","needs","row"] fR rfl fun f _ A _ s H E nd hr=>by have:=gN T;have:=fL T;have:=rn 3 12 ["first","last"] ["things","many","rest","needs","row"];delta cT cu;repeat' walk_at "Q"
noncomputable def cS:GS:=(ar (ax 2 (gC (.int 2305843009213693951))) (ar (dR (aJ (g2 gV (g2 aB (ae 0) (gC (.int 2))) (ae 1))) (ar (ax 3 (gC (.int 0))) (ar (dR (aJ (g2 kU (ay aX (aa (g2 aB (ae 0) (gC (.int 0))) af)) (gC (.int 0)))) (ax 3 (g2 aB (g2 aB (ae 0) (gC (.int 0))) (g2 c6 (g2 aB (ae 0) (gC (.int 1))) (ay aX (aa (g2 aB (ae 0) (gC (.int 0))) af))))) bo) (ar (dR (cm (aJ (g2 pY (g2 aB (ae 0) (gC (.int 1))) (ay aX (aa (g2 aB (ae 0) (gC (.int 0))) af)))) (aJ (g2 gV (ae 3) (g2 gU (gC (.int 10)) (gC (.int 18)))))) (ar (ax 3 (g2 c6 (g2 ba (ae 3) (g2 cP (gC (.int 1000003)) (g2 aB (ae 0) (gC (.int 1))))) (ae 2))) (ar (ax 3 (g2 c6 (g2 ba (g2 ba (g2 cP (ae 3) (ae 3)) (g2 cP (gC (.int 1181783497276652981)) (ae 3))) (gC (.int 2049848353892358983))) (ae 2))) (ax 3 (g2 c6 (g2 ba (g2 cP (ae 3) (ae 3)) (gC (.int 1442695040888963407))) (ae 2))))) bo) (ar (cO (ae 0) (gC (.int 1)) (g2 ba (g2 aB (ae 0) (gC (.int 1))) (gC (.int 1)))) (cO (ae 0) (gC (.int 2)) (ae 3)))))) bo) (ar (ax 4 (g2 c6 (g2 aB (ae 0) (gC (.int 2))) (ae 1))) (ar (cO (ae 0) (gC (.int 2)) (g2 bD (g2 aB (ae 0) (gC (.int 2))) (ae 1))) (bT (ae 4))))))
noncomputable def ag:FD:=dC 3 cS
theorem i6 (T:TX P w K mg base):Ok P w K mg base "_law_draw" 1 2 ag:=nz (mK T.f 3 rfl) ["tape","many","prime","cell","found"] fR rfl fun f _ A _ s H E nd hr=>by delta cS;repeat' walk_at "Q"
noncomputable def bN:GE:=(ae 0)
noncomputable def bB:GT:=(dP (aJ (g2 ig (g2 aB (ae 0) (gC (.int 0))) (ae 3))) (aJ (g2 ig (ae 3) (g2 ba (g2 aB (ae 0) (gC (.int 1))) (ae 2)))))
noncomputable def cV:GS:=(bT (ay aX (aa (cq (cb (ae 0)) bB bN aI) af)))
noncomputable def ce:FD:=dC 0 cV
theorem iY (T:TX P w K mg base):Ok P w K mg base "_law_need" 1 3 ce:=nz (mK T.f 4 rfl) ["things","rest","row"] fR rfl fun f _ A _ s H E nd hr=>by delta cV bN bB;repeat' walk_at "Q"
noncomputable def eX:GS:=(ar (ax 6 (ao 2 ag (aa (ae 1) (aa (ae 3) af)))) (ar (ax 7 (g2 aB (bU (aa (ao 2 ag (aa (ae 1) (aa (gC (.int 6)) af))) (aa (ao 2 ag (aa (ae 1) (aa (gC (.int 51)) af))) af))) (g2 bD (ao 2 ag (aa (ae 1) (aa (gC (.int 4)) af))) (gC (.int 3))))) (dS (gR (ae 4) (cX (aa (ae 6) (aa (ay gE (aa (gC (.int 200)) (aa (g2 ba (ae 6) (ae 7)) af))) af)))))))
noncomputable def d9:GE:=(ao 3 ce (aa (ae 5) (aa (ae 9) (aa (g2 aB (ae 0) (gC (.int 0))) af))))
noncomputable def gM:GS:=(ar (ax 14 (ql (g2 gV (g2 ba (g2 aB (g2 aB (ae 4) (ae 13)) (gC (.int 1))) (ae 8)) (g2 aB (g2 aB (ae 4) (ae 5)) (gC (.int 0)))) (g2 gV (g2 ba (g2 aB (g2 aB (ae 4) (ae 5)) (gC (.int 1))) (ae 8)) (g2 aB (g2 aB (ae 4) (ae 13)) (gC (.int 0)))))) (dR (dP (aJ (g2 (bH false) (g2 aB (g2 aB (ae 12) (gC (.int 1))) (ae 13)) (g2 aB (g2 aB (ae 12) (gC (.int 1))) (ae 5)))) (cf (bP (ae 14)))) (bT (gC (.bl false))) bo))
noncomputable def fc:GS:=(ar (dR (cm (cf (bP (b9 "int" (g2 aB (g2 aB (ae 12) (gC (.int 1))) (ae 5))))) (cm (bP (b9 "bool" (g2 aB (g2 aB (ae 12) (gC (.int 1))) (ae 5)))) (cf (aJ (jM ig gV (gC (.int 0)) (g2 aB (g2 aB (ae 12) (gC (.int 1))) (ae 5)) (ae 9)))))) (bT (gC (.bl false))) bo) (ee (cD (aa (ae 5) af)) (bX 13) gM))
noncomputable def iO:GS:=(ar (ax 3 (g2 aB (bU (aa (gC (.int 12)) (aa (gC (.int 40)) (aa (gC (.int 150)) af)))) (ao 2 ag (aa (ae 1) (aa (gC (.int 3)) af))))) (ar (ax 4 (eN af)) (ar (ee (cD (aa (g2 aB (bU (aa (ao 2 ag (aa (ae 1) (aa (gC (.int 10)) af))) (aa (ao 2 ag (aa (ae 1) (aa (gC (.int 61)) af))) af))) (g2 bD (ao 2 ag (aa (ae 1) (aa (gC (.int 3)) af))) (gC (.int 2)))) af)) (bX 5) eX) (ar (ax 8 (g2 aB (bU (aa (ao 2 ag (aa (ae 1) (aa (gC (.int 3)) af))) (aa (ao 2 ag (aa (ae 1) (aa (gC (.int 41)) af))) af))) (g2 bD (ao 2 ag (aa (ae 1) (aa (gC (.int 4)) af))) (gC (.int 3))))) (ar (ax 9 (ay fz (aa (g2 ba (bU (aa (gC (.int 0)) af)) (cq (cb (ae 4)) d8 d9 aI)) af))) (ar (ax 10 (ay fV (aa (gC (.int 0)) (aa (ay gE (aa (gC (.int 60)) (aa (g2 aB (bU (aa (ae 9) (aa (g2 f7 (ae 9) (gC (.int 1))) (aa (g2 ba (ae 9) (gC (.int 1))) (aa (ao 2 ag (aa (ae 1) (aa (gC (.int 61)) af))) af))))) (ao 2 ag (aa (ae 1) (aa (gC (.int 4)) af)))) af))) af)))) (ar (ax 11 (ay du (aa (ae 4) af))) (ar (ax 12 (ao 3 bw (aa (ae 11) (aa (ae 10) (aa (ae 8) af))))) (ar (dR (cm (cf (bP (b9 "tuple" (ae 12)))) (cm (aJ (g2 (bH true) (ay aX (aa (ae 12) af)) (gC (.int 2)))) (aJ (g2 (bH true) (ae 11) (ae 4))))) (bT (gC (.bl false))) bo) (dR (aJ (g2 kU (ae 9) (ae 10))) (dR (cm (aJ (g2 (bH true) (g2 aB (ae 12) (gC (.int 0))) (gC (.str "row")))) (cm (bP (b9 "bool" (g2 aB (ae 12) (gC (.int 1))))) (aJ (g2 ig (ao 3 ce (aa (ae 4) (aa (ae 8) (aa (g2 aB (ae 12) (gC (.int 1))) af)))) (ae 10))))) (bT (gC (.bl false))) bo) (dR (cm (aJ (g2 (bH true) (g2 aB (ae 12) (gC (.int 0))) (gC (.str "slots")))) (cm (cf (bP (b9 "list" (g2 aB (ae 12) (gC (.int 1)))))) (aJ (g2 (bH true) (ay aX (aa (g2 aB (ae 12) (gC (.int 1))) af)) (ay aX (aa (ae 4) af)))))) (bT (gC (.bl false))) (ee (cD (aa (ay aX (aa (ae 4) af)) af)) (bX 5) fc))))))))))))
noncomputable def k6:GS:=(ar (ax 1 (eN (aa (ay du (aa (ae 0) af)) (aa (gC (.int 0)) (aa (gC (.int 0)) af))))) (ar (ee (cD (aa (gC (.int 3)) af)) (bX 2) iO) (bT (gC (.bl true)))))
noncomputable def kI:FD:=dC 14 k6
theorem qS (T:TX P w K mg base){f:Addr}{fd:FuncData}(F:Fn K mg "law" p5 f fd ["script"]):cQ P w K mg base (dU P w) 5 f fd ["script"] (jB K 1 kI):=vm F.F (N:=["script","tape","turn","far","things","k","first","size","rest","most","many","handed","found","j","apart"]) fR rfl fun _ A _ s H E hr=>by
 have nd:(["script","tape","turn","far","things","k","first","size","rest","most","many","handed","found","j","apart"]:List Str).Nodup:=by decide +kernel
 have:=i9 T;have:=i6 T;have:=iY T;delta k6 eX d9 gM fc iO;repeat' walk_at "Q"
end
end K18
section
open PySem PySem.W PyProof.Rows
noncomputable abbrev K18.VV:Program:=(view PySem.Challenge.pw_glowrow_k18_slots_or_a_row [1,2,3,4,6,7,8])
set_option maxHeartbeats 0 in
theorem K18.h1:∀(w:World) (os:OsState),(Hd.RT (OpenLaw.row PySem.Challenge.rw_glowrow_k18_slots_or_a_row).prog w 880 os).map (fun s=>Hd.pA (OpenLaw.row PySem.Challenge.rw_glowrow_k18_slots_or_a_row).prog w.params s.abs&&Hd.pB K18.VV (importedModules (OpenLaw.row PySem.Challenge.rw_glowrow_k18_slots_or_a_row).prog.main.body) (fun s=>xlAt K18.VV [] s&&recOk (RowW.records (OpenRow.toRowW (OpenLaw.row PySem.Challenge.rw_glowrow_k18_slots_or_a_row))) s) s.abs)=some true:=by
 intro w os;unfold Hd.RT;rw[W.Fast.te15732481512506401174,W.Fast.te2530740449226627131,W.Fast.te13930993214811372802];kernel_rfl
set_option maxHeartbeats 0 in
theorem K18.h2:∀(w:World) (os:OsState),(Hd.RT (OpenLaw.row PySem.Challenge.rw_glowrow_k18_slots_or_a_row).prog w 880 os).map (fun s=>Hd.pC K18.VV s.abs)=some (expectedOf K18.VV,bltViewBooted,wideGood K18.VV):=by
 intro w os;unfold Hd.RT;rw[W.Fast.te15732481512506401174,W.Fast.te2530740449226627131,W.Fast.te7338995916957470747];kernel_rfl
set_option maxHeartbeats 0 in
theorem K18.h3:∀(w:World) (os:OsState),(Hd.RT (OpenLaw.row PySem.Challenge.rw_glowrow_k18_slots_or_a_row).prog w 880 os).map (fun s=>Hd.pD K18.VV s.abs)=some (pinGoodD (drecsOf K18.VV),plainGoodE K18.VV (looseW K18.VV []),plainGoodD K18.VV [],clsGoodW K18.VV []):=by
 intro w os;unfold Hd.RT;rw[W.Fast.te15732481512506401174,W.Fast.te2530740449226627131,W.Fast.te4913325751328045840];kernel_rfl
local macro_rules | `(tactic| o_head $H) => `(tactic| (
 refine holds_open (q:=K18.VV) (loose:=[]) (Xt:=(fun s=>xlAt K18.VV [] s&&recOk (RowW.records (OpenRow.toRowW (OpenLaw.row PySem.Challenge.rw_glowrow_k18_slots_or_a_row))) s)) (XP:=XL K18.VV []) (Yf:=Hook.obs $H) (Ya:=Hook.val $H) (YP:=Hook.says $H) (N:=880) ?hl (Hook.of $H) (Hook.keeps $H) (fun s e=>xl_of s (Bool.and_eq_true_iff.mp e).1) XL.keeps (by rfl) (by rfl) (by rfl) (fun s e=>recFacts_of (Bool.and_eq_true_iff.mp e).2) (by rfl) (by first|assumption|decide +kernel) (by decide +kernel) ⟨rfl,rfl,rfl,rfl,rfl,by decide +kernel⟩ ?hw ?hc;
 (case hl=>
  refine Hd.left_km (boot_open (by kernel_rfl) rfl (fun s=>by kernel_rfl)) (fun w=>by kernel_rfl) K18.h1 K18.h2 K18.h3 ?_;intro w os;unfold Hd.RT;rw[W.Fast.te15732481512506401174,W.Fast.te2530740449226627131];kernel_rfl)))
set_option hygiene false
local macro_rules | `(tactic| walk_at "us") => `(tactic| first | rfl | (exfalso; simp at hl; done) | (cases us with | nil => (first | rfl | cases hl) | cons _ us => walk_at "us"))
local macro_rules | `(tactic| walk_at "kc") => `(tactic| refine' DL.kc_mk KX G ?y0 ?y1 ?y2 ?y3 ?y4 ?y5 ?y6; (case y0 => k_is); (case y1 => k_is); (case y2 => k_is); (case y3 => k_is); (case y4 => k_is); (case y5 => k_is); (case y6 => k_is))
local macro_rules | `(tactic| walk_at "ec") => `(tactic| refine' DL.ec_mk KX G ?w0 ?w1 ?w2 ?w3 ?w4 ?w5 ?w6 ?w7 ?w8 ?w9 ?w10 ?w11; (case w0 => k_is); (case w1 => k_is); (case w2 => k_is); (case w3 => k_is); (case w4 => k_is); (case w5 => k_is); (case w6 => k_is); (case w7 => k_is); (case w8 => k_is); (case w9 => k_exc); (case w10 => k_is); (case w11 => k_is))
local macro_rules | `(tactic| walk_at "ff") => `(tactic| (refine' DL.vC KX G ?x0 ?x1 ?x2 ?x3 ?x4; (case x0 => k_is); (case x1 => k_is); (case x2 => k_is); (case x3 => k_is); (case x4 => (intro _ _ _ _ _ _ us hl; walk_at "us"))))
local macro_rules | `(tactic| walk_at "mf") => `(tactic| (refine' DL.mf_mk ?x0 ?x1 ?x2 ?x3 ?x4 ?x5 ?x6; (case x0 => walk_at "kc"); (case x1 => k_is); (case x2 => k_is); (case x3 => k_is); (case x4 => k_is); (case x5 => k_is); (case x6 => (intro _ _ _ _ _ _ us hl; walk_at "us"))))
local macro_rules | `(tactic| walk_at "im") => `(tactic| (refine' DL.im_mk ?v0 ?v1; (case v0 => walk_at "ec"); (case v1 => k_is)))
local macro_rules | `(tactic| walk_at "lf") => `(tactic| (refine' DL.vj KX G ?x0 ?x1 ?x2 ?x3 ?x4 ?x5 ?x6 ?x7 ?x8 ?x9 ?x10 ?x11 ?x12 ?x13 ?x14; (case x0 => k_is); (case x1 => k_is); (case x2 => k_is); (case x3 => k_is); (case x4 => k_is); (case x5 => rfl); (case x6 => rfl); (case x7 => rfl); (case x8 => rfl); (case x9 => rfl); (case x10 => rfl); (case x11 => decide); (case x12 => decide); (case x13 => (refine DL.jD (fun _ => ?y_ink_shown) (fun _ => ?y_table_within) (fun z => absurd rfl z) (fun _ => ?y_cast_on_slots); (case y_ink_shown => k_is); (case y_table_within => k_is); (case y_cast_on_slots => k_is))); (case x14 => (intro _ _ _ _ _ _ us hl; walk_at "us"))))
set_option maxRecDepth 100000 in
set_option maxHeartbeats 0 in
theorem K18.pre (ht:∀ns:List Int,ns.length≤63→∃M',K18.kI [.ro (ns.map DL.D.int)] []=.ok (.bl true) M'):PySem.Challenge.rw_glowrow_k18_slots_or_a_row.Holds:=by
 w_on;o_law;k_head;(case hw=>w_witness2)
 k_fill
 refine DL.pQ (l:=PySem.Challenge.rw_glowrow_k18_slots_or_a_row) (n:=63) (k:=5) (x:="script") (F:=K18.kI) rfl (by decide) rfl ⟨rfl,by decide,by decide⟩ (fun w h Y=>W.km_in_of Y) ?F ?T ht
 case F=>
  intro w mg fa h KX G hmg;refine DL.sy (st:=K18.p5) hmg ?L (fun base f fd L=>K18.qS ?TT L) (fun _ _ _ _ _ _ _=>rfl)
  (case TT=>
   refine DL.Tx.mk ?q0 ?q1 ?q2 ?q3 ?q4 ?q5 ?q6 ?q7 ?q8 ?q9
   (case q0=>((repeat (refine' DL.Ls.cons ?x ?_;(case x=>(walk_at "ff"))));exact DL.Ls.nil))
   (case q1=>((repeat (refine' DL.Ls.cons ?x ?_;(case x=>(walk_at "mf"))));exact DL.Ls.nil))
   (case q2=>((repeat (refine' DL.Ls.cons ?x ?_;(case x=>(walk_at "lf"))));exact DL.Ls.nil))
   (case q3=>((repeat (refine' DL.Ls.cons ?x ?_;(case x=>(refine' DL.xj KX G ?x0;(case x0=>k_is)))));exact DL.Ls.nil))
   (case q4=>((repeat (refine' DL.Ls.cons ?x ?_;(case x=>(refine' DL.vg ?x0;(case x0=>walk_at "ec")))));exact DL.Ls.nil))
   (case q5=>((repeat (refine' DL.Ls.cons ?x ?_;(case x=>(refine' DL.uQ ?u0 ?u1;(case u0=>walk_at "ec");(case u1=>((repeat (refine' DL.Ls.cons ?u2 ?_;(case u2=>walk_at "im")));exact DL.Ls.nil))))));exact DL.Ls.nil))
   (case q6=>((repeat (refine' DL.Ls.cons ?x ?_;(case x=>(walk_at "im"))));exact DL.Ls.nil))
   (case q7=>((repeat (refine' DL.Ls.cons ?x ?_;(case x=>(refine' DL.vJ ?x0 ?x1;(case x0=>walk_at "kc");(case x1=>k_is)))));exact DL.Ls.nil))
   (case q8=>((repeat (refine' DL.Ls.cons ?x ?_;(case x=>(refine' DL.wa (u:=PySem.Value.str _) KX G ?x0;(case x0=>k_is)))));exact DL.Ls.nil))
   (case q9=>((repeat (refine' DL.Ls.cons ?x ?_;(case x=>(refine' DL.wa (u:=PySem.Value.int _) KX G ?x0;(case x0=>k_is)))));exact DL.Ls.nil)))
  (case L=>walk_at "ff")
 case T=>
  intro w;refine' DL.pN (DL.lX (x:="slots_given") ?gT (DL.rJ ?gp ?gG ?gK ?fX ?gu) ?gY DL.ni) (DL.jD (.inl ?e_ink_shown) (.inl ?e_table_within) (.inr ⟨_,.head _,rfl⟩) (.inl ?e_cast_on_slots)) ?bm ?bl
  (case gT=>rfl)
  (case gp=>k_is)
  (case gG=>k_is)
  (case gK=>rfl)
  (case fX=>k_is)
  (case gu=>rfl)
  (case gY=>kernel_rfl)
  (case e_ink_shown=>k_is)
  (case e_table_within=>k_is)
  (case e_cast_on_slots=>k_is)
  (case bm=>k_is)
  (case bl=>kernel_rfl)
end
namespace K18
open PySem PySem.Spec PyProof.Rows L2 DL List
local macro_rules | `(tactic| simp_arith [$args,*] $[$loc]?) => `(tactic| first | (dsimp only [aE.bind, ar, ax, dR, bT, cO, dS, bo, g6, ae, gC, DL.g2, ao, ay, aa, af, aJ, uP, bP, oR, cm, dP, cf, ql, cX, bU, eN, gL, aI, bM, jM, b9, wF, jS, bv, dC, fb, ke, ba, f7, cP, bD, c6, gU, gV, ig, kU, pY, aB, aO, aX, gE, fV, du, cb, k8, cD, bX, cg, eK, jI, uk, d8, mf, gR, n6, pp, jK, kr] $[$loc]?; simp [ar, ax, dR, bT, cO, dS, bo, g6, ae, gC, DL.g2, ao, ay, aa, af, aJ, uP, bP, oR, cm, dP, cf, ql, cX, bU, eN, gL, aI, bM, jM, b9, wF, jS, bv, dC, fb, ke, ba, f7, cP, bD, c6, gU, gV, ig, kU, pY, aB, aO, aX, gE, fV, du, cb, k8, cD, bX, cg, eK, jI, uk, d8, mf, gR, n6, pp, jK, kr, $args,*] $[$loc]?) | simp [ar, ax, dR, bT, cO, dS, bo, g6, ae, gC, DL.g2, ao, ay, aa, af, aJ, uP, bP, oR, cm, dP, cf, ql, cX, bU, eN, gL, aI, bM, jM, b9, wF, jS, bv, dC, fb, ke, ba, f7, cP, bD, c6, gU, gV, ig, kU, pY, aB, aO, aX, gE, fV, du, cb, k8, cD, bX, cg, eK, jI, uk, d8, mf, gR, n6, pp, jK, kr, $args,*] $[$loc]?)
noncomputable def pe (f e:Nat→Int)(n:Nat)(row:Int):Nat:=((List.range n).filter fun i=>decide (f i≤row)&&decide (row≤e i)).length
theorem kq {α:Type}[DecidableEq α]:∀(A B:List α),A.Nodup→(∀a∈A,a∈B)→A.length≤B.length
 | [],B,_,_=>Nat.zero_le _
 | a::A,B,nd,h=>by
  have ha:=h a mem_cons_self;have nd:=nodup_cons.mp nd;have ih:=kq A (B.erase a) nd.2 fun b hb=>(List.mem_erase_of_ne (show b≠a from fun z=>nd.1 (by rw[←z];exact hb))).mpr (h b (mem_cons_of_mem _ hb))
  have l:=List.length_erase_of_mem ha;have:0<B.length:=List.length_pos_of_mem ha;rw[length_cons];omega
noncomputable def bq (en:List Int)(row:Int):Nat:=en.findIdx fun x=>decide (x<row)
structure SI (f e:Nat→Int)(n:Nat)(most:Int)(S:List Nat)(sl:List Nat)(en:List Int):Prop where
 len:sl.length=n
 a:∀p∈S,p<n∧sl.getD p 0<en.length∧e p≤en.getD (sl.getD p 0) 0
 b:∀p∈S,∀q∈S,p≠q→sl.getD p 0=sl.getD q 0→e p<f q∨e q<f p
 c:∀s,s<en.length→∃p∈S,sl.getD p 0=s∧e p=en.getD s 0
 d:(en.length:Int)≤most
theorem gw {α:Type}{l:List α}{i j:Nat}{x d:α}(hi:i<l.length):(l.set i x).getD j d=if i=j then x else l.getD j d:=by
 rw[List.getD,getElem?_set]
 by_cases h:i=j
 ·subst h;rw[if_pos rfl,if_pos rfl,if_pos hi];rfl
 ·rw[if_neg h,if_neg h];rfl
theorem dL {l:List Int}{x:Int}{j:Nat}:(l++[x]).getD j 0=if j=l.length then x else l.getD j 0:=by
 rw[List.getD]
 by_cases h:j=l.length
 ·subst h;rw[if_pos rfl];simp
 ·rw[if_neg h]
  by_cases h2:j<l.length
  ·rw[getElem?_append_left h2];rfl
  ·rw[getElem?_eq_none (by simp;omega),List.getD,getElem?_eq_none (by omega)]
theorem ph {f e:Nat→Int}{n r:Nat}{most:Int}{S sl:List Nat}{en:List Int}(h:SI f e n most S sl en)(hr:r<n)(hS:r∉S)(hf:∀p∈S,f p≤f r)(hfe:f r≤e r)(hc:(pe f e n (f r):Int)≤most) :
  SI f e n most (r::S) (sl.set r (bq en (f r))) (if bq en (f r)=en.length then en++[e r] else en.set (bq en (f r)) (e r)):=by
 have hl:r<sl.length:=by rw[h.len];exact hr
 have gs:∀p∈S,(sl.set r (bq en (f r))).getD p 0=sl.getD p 0:=fun p hp=>by rw[gw hl,if_neg (show¬r=p from fun z=>hS (by rw[z];exact hp))]
 have gr:(sl.set r (bq en (f r))).getD r 0=bq en (f r):=by rw[gw hl,if_pos rfl]
 by_cases c:bq en (f r)=en.length
 ·have all:∀s,s<en.length→f r≤en.getD s 0:=fun s hs=>by
   have:¬(fun x=>decide (x<f r)) en[s]=true:=by
    have:=List.findIdx_eq_length.mp c en[s] (getElem_mem hs);simpa using this
   rw[List.getD,getElem?_eq_getElem hs];have:¬en[s]<f r:=by simpa using this
   show f r≤en[s];omega
  rw[if_pos c];have ln:(en++[e r]).length=en.length+1:=by simp
  have big:en.length+1≤pe f e n (f r):=by
   have ex:∀m,m≤en.length→∃A:List Nat,A.length=m∧A.Nodup∧(∀p∈A,p∈S∧sl.getD p 0<m∧f r≤e p):=by
    intro m
    induction m with
    | zero=>intro _;exact⟨[],rfl,nodup_nil,fun p hp=>by cases hp⟩
    | succ m ih=>
     intro hm;obtain⟨A,l,nd,q⟩:=ih (by omega);obtain⟨p,hp,h1,h2⟩:=h.c m (by omega);refine⟨p::A,by rw[length_cons,l],nodup_cons.mpr ⟨fun z=>?_,nd⟩,fun p' hp'=>?_⟩
     ·have:=(q p z).2.1;omega
     ·rcases mem_cons.mp hp' with rfl|hp'
      ·exact⟨hp,by omega,by rw[h2];exact all m (by omega)⟩
      ·obtain⟨a1,a2,a3⟩:=q p' hp';exact⟨a1,by omega,a3⟩
   obtain⟨A,l,nd,q⟩:=ex en.length (Nat.le_refl _);have:=kq (r::A) ((List.range n).filter fun i=>decide (f i≤f r)&&decide (f r≤e i)) (nodup_cons.mpr ⟨fun z=>hS (q r z).1,nd⟩) fun p hp=>by
    rw[mem_filter,mem_range];rcases mem_cons.mp hp with rfl|hp
    ·exact⟨hr,by simp;exact hfe⟩
    ·obtain⟨a1,_,a3⟩:=q p hp;exact⟨(h.a p a1).1,by simp;exact⟨hf p a1,a3⟩⟩
   rw[length_cons,l] at this;exact this
  refine⟨by rw[length_set,h.len],fun p hp=>?_,fun p hp q hq ne e1=>?_,fun s hs=>?_,by rw[ln];omega⟩
  ·rcases mem_cons.mp hp with rfl|hp
   ·rw[gr,c,ln,dL,if_pos rfl];exact⟨hr,by omega,Int.le_refl _⟩
   ·obtain⟨a1,a2,a3⟩:=h.a p hp;rw[gs p hp,ln,dL,if_neg (by omega)];exact⟨a1,by omega,a3⟩
  ·rcases mem_cons.mp hp with rfl|hp
   ·rcases mem_cons.mp hq with rfl|hq
    ·exact absurd rfl ne
    ·rw[gr,gs q hq,c] at e1;have:=(h.a q hq).2.1;omega
   ·rcases mem_cons.mp hq with z|hq
    ·rw[z,gr,gs p hp,c] at e1;have:=(h.a p hp).2.1;omega
    ·rw[gs p hp,gs q hq] at e1;exact h.b p hp q hq ne e1
  ·rw[ln] at hs
   by_cases z:s=en.length
   ·exact⟨r,mem_cons_self,by rw[gr,c,z],by rw[dL,if_pos z]⟩
   ·obtain⟨p,hp,e1,e2⟩:=h.c s (by omega);exact⟨p,mem_cons_of_mem _ hp,by rw[gs p hp,e1],by rw[dL,if_neg z,e2]⟩
 ·have lt:bq en (f r)<en.length:=Nat.lt_of_le_of_ne (List.findIdx_le_length) c;have sm:en.getD (bq en (f r)) 0<f r:=by
   have:=List.findIdx_getElem (p:=fun x=>decide (x<f r)) (xs:=en) (w:=lt);rw[List.getD,getElem?_eq_getElem lt];exact of_decide_eq_true this
  rw[if_neg c];have ln:(en.set (bq en (f r)) (e r)).length=en.length:=length_set;have ge:∀s,(en.set (bq en (f r)) (e r)).getD s 0=if bq en (f r)=s then e r else en.getD s 0:=fun s=>gw lt
  refine⟨by rw[length_set,h.len],fun p hp=>?_,fun p hp q hq ne e1=>?_,fun s hs=>?_,by rw[ln];exact h.d⟩
  ·rcases mem_cons.mp hp with rfl|hp
   ·rw[gr,ln,ge,if_pos rfl];exact⟨hr,lt,Int.le_refl _⟩
   ·obtain⟨a1,a2,a3⟩:=h.a p hp;rw[gs p hp,ln,ge];refine⟨a1,a2,?_⟩
    by_cases z:bq en (f r)=sl.getD p 0
    ·rw[if_pos z];rw[←z] at a3;omega
    ·rw[if_neg z];exact a3
  ·have one:∀p∈S,sl.getD p 0=bq en (f r)→e p<f r:=fun p hp z=>by
    have:=(h.a p hp).2.2;rw[z] at this;omega
   rcases mem_cons.mp hp with rfl|hp
   ·rcases mem_cons.mp hq with rfl|hq
    ·exact absurd rfl ne
    ·rw[gr,gs q hq] at e1;exact .inr (one q hq e1.symm)
   ·rcases mem_cons.mp hq with z|hq
    ·rw[z,gr,gs p hp] at e1;exact .inl (by rw[z];exact one p hp e1)
    ·rw[gs p hp,gs q hq] at e1;exact h.b p hp q hq ne e1
  ·rw[ln] at hs
   by_cases z:bq en (f r)=s
   ·exact⟨r,mem_cons_self,by rw[gr,z],by rw[ge,if_pos z]⟩
   ·obtain⟨p,hp,e1,e2⟩:=h.c s hs;exact⟨p,mem_cons_of_mem _ hp,by rw[gs p hp,e1],by rw[ge,if_neg z,e2]⟩
noncomputable def aA (q:Int×Int):D:=.tup [.int q.1,.int q.2]
noncomputable def cG (T:List (Int×Int))(row:Int):Nat:=(T.filter fun q=>decide (q.1≤row)&&decide (row≤q.2)).length
theorem rh {sg:GG}{g:GE}{ρ ρ1:bg}{M M1:am}{d:D}(h:g ρ M=.ok d M1)(h2:sg d ρ=some ρ1):g6 sg g ρ M=.ok (.nx ρ1) M1:=by
 unfold g6;rw[h,ah,h2]
theorem vA {a b c:GE}{ρ:bg}{M:am}{x y z:Int}(ha:a ρ M=.ok (.int x) M)(hb:b ρ M=.ok (.int y) M)(hc:x≤y→c ρ M=.ok (.int z) M):jM ig ig a b c ρ M=.ok (.bl (decide (x≤y)&&decide (y≤z))) M:=by
 unfold jM;rw[ha,ah,hb,ah];show(aE.ok (D.bl (decide (x≤y))) M).bind _=_;rw[ah]
 by_cases q:x≤y
 ·rw[decide_eq_true q];dsimp only;rw[hc q,ah];rfl
 ·rw[decide_eq_false q];rfl
theorem gd {α:Type}{f g:α→D}{b:α→Bool}{n:Nat}{sg:GG}{gc:GT}{ge:GE}{ρ:bg}{M:am}{ds0:List D}:∀l:List α,(∀a∈l,∃ρ1,sg (f a) (List.replicate n none++ρ)=some ρ1∧gc ρ1 M=.ok (b a) M∧(b a=true→ge ρ1 M=.ok (g a) M))→aw ⟨ds0,none⟩ n sg gc ge (l.map f) ρ M=.ok ((l.filter b).map g) M
 | [],_=>rfl
 | a::l,h=>by
  obtain⟨ρ1,h0,h1,h2⟩:=h a mem_cons_self;have ih:=gd (ds0:=ds0) l fun b hb=>h b (mem_cons_of_mem _ hb)
  rw[map_cons,aw,if_pos kh,h0];dsimp only;rw[h1];cases q:b a with
  | true=>
   rw[filter_cons_of_pos q,map_cons];show(match ge ρ1 M with | .ok e M2=>(aw ⟨ds0,none⟩ n sg gc ge (l.map f) ρ M2).bind fun es M3=>.ok (e::es) M3|_=>.bad)=_;rw[h2 q];dsimp only;rw[ih,ah]
  | false=>
   rw[filter_cons_of_neg (by rw[q];exact Bool.false_ne_true)];exact ih
theorem jg {gi:GI}{n:Nat}{sg:GG}{gc:GT}{ge:GE}{ρ:bg}{ds es:List D}{M M1 M2:am}(hi:gi ρ M=.ok ⟨ds,none⟩ M1)(he:aw ⟨ds,none⟩ n sg gc ge ds ρ M1=.ok es M2)(hl:es.length≤1000000):aP gi n sg gc ge aI ρ M=.ok (.lst es) M2:=by
 unfold aP;rw[hi,ah];dsimp only;rw[he,ah];unfold aI;rw[if_pos (cY hl)]
theorem kH {α:Type}{f:α→D}{b:α→Bool}{rv:α→D}{R:bg→Prop}{sg:GG}{body:GS}{M:am}{ds0:List D}:∀(l:List α) (ρ:bg),R ρ→(∀a∈l,∀ρ,R ρ→∃ρ1,sg (f a) ρ=some ρ1∧R ρ1∧body ρ1 M=(if b a then .ok (.rt (rv a)) M else .ok (.nx ρ1) M))→
  (∃a,l.find? b=some a∧cp ⟨ds0,none⟩ sg body (l.map f) ρ M=.ok (.rt (rv a)) M)∨(l.find? b=none∧∃ρ',cp ⟨ds0,none⟩ sg body (l.map f) ρ M=.ok (.nx ρ') M∧R ρ')
 | [],ρ,hR,_=>.inr ⟨rfl,ρ,rfl,hR⟩
 | a::l,ρ,hR,h=>by
  obtain⟨ρ1,h0,h1,h2⟩:=h a mem_cons_self ρ hR;rw[map_cons,cp,if_pos kh,h0];dsimp only;rw[h2];cases q:b a with
  | true=>
   rw[if_pos rfl,ah];exact .inl ⟨a,by rw[List.find?_cons_of_pos q],rfl⟩
  | false=>
   rw[if_neg Bool.false_ne_true,ah,List.find?_cons_of_neg (by rw[q];exact Bool.false_ne_true)];exact kH l ρ1 h1 fun c hc=>h c (mem_cons_of_mem _ hc)
noncomputable def dQ (T:List (Int×Int))(many:Int):Option (Int×Int):=T.find? fun q=>decide (many<(cG T q.1:Int))
noncomputable def rZ:Option (Int×Int)→D
 | none=>.non
 | some q=>.int q.1
theorem kn {T:List (Int×Int)}{many:Int}{M:am}(hT:T.length≤1000):bZ [.lst (T.map aA),.int many] M=.ok (rZ (dQ T many)) M:=by
 have cc:∀(r:Int) (x:Option D),ay aX (aa (aP (cb (ae 0)) 2 (cg [0,1]) cJ cM aI) af) [some (.lst (T.map aA)),some (.int many),some (.int r),x] M=.ok (.int (cG T r:Int)) M:=fun r x=>by
  refine fM (x:=.lst ((T.filter fun q=>decide (q.1≤r)&&decide (r≤q.2)).map fun _=>D.int 1)) (jg (fI rfl) (gd T fun q _=>⟨_,rfl,?_,fun _=>rfl⟩) (by rw[length_map];exact Nat.le_trans (length_filter_le _ _) (by omega))) ?_
  ·show aJ (jM ig ig (ae 0) (ae 4) (ae 1)) [some (.int q.1),some (.int q.2),some (.lst (T.map aA)),some (.int many),some (.int r),x] M=_;exact a6 (vA (x:=q.1) (y:=r) (z:=q.2) rfl rfl fun _=>rfl)
  ·show aE.ok (D.int (((T.filter fun q=>decide (q.1≤r)&&decide (r≤q.2)).map fun _=>D.int 1).length:Int)) M=_;rw[length_map];rfl
 have fr:=kH (f:=aA) (b:=fun q:Int×Int=>decide (many<(cG T q.1:Int))) (rv:=fun q=>D.int q.1) (R:=fun ρ=>∃x y,ρ=[some (.lst (T.map aA)),some (.int many),x,y]) (sg:=cg [2,3]) (body:=bS) (M:=M) (ds0:=T.map aA) T [some (.lst (T.map aA)),some (.int many),none,none] ⟨_,_,rfl⟩ fun q _ ρ hR=>by
  obtain⟨x,y,rfl⟩:=hR;refine⟨[some (.lst (T.map aA)),some (.int many),some (.int q.1),some (.int q.2)],rfl,⟨_,_,rfl⟩,?_⟩;unfold bS;have t:=a6 (au (f:=kU) (cc q.1 (some (.int q.2))) (b:=ae 1) (y:=.int many) rfl rfl);cases c:decide (many<(cG T q.1:Int)) with
  | true=>exact(jd (t.trans (by rw[←c]))).trans (d7 rfl)
  | false=>exact(el (t.trans (by rw[←c]))).trans rfl
 show bv (b0 [some (.lst (T.map aA)),some (.int many),none,none] M)=_;unfold b0 dQ;rcases fr with⟨q,e1,e2⟩|⟨e1,ρ',e2,x,y,rfl⟩
 ·rw[e1,nH (d5 (fI rfl) e2)];rfl
 ·rw[e1,aC (d5 (fI rfl) e2)];rfl
noncomputable def nr:Nat→List Int→List D
 | _,[]=>[]
 | j,x::r=>.tup [.int (j:Int),.int x]::nr (j+1) r
theorem kW:∀(l:List Int) (j i:Nat),(nr j l)[i]?=l[i]?.map fun x=>D.tup [.int ((j+i:Nat):Int),.int x]
 | [],j,i=>rfl
 | x::r,j,0=>rfl
 | x::r,j,i+1=>by
  show(nr (j+1) r)[i]?=r[i]?.map _;rw[kW r (j+1) i,show j+1+i=j+(i+1) by omega]
theorem mV (l:List Int):bh (l.map D.int)=nr 0 l:=by
 apply ext_getElem?;intro i;rw[kW]
 by_cases hi:i<l.length
 ·have h2:i<(bh (l.map D.int)).length:=by rw[dk,length_map];exact hi
  have e:=getElem?_eq_getElem h2;obtain⟨x,e1,e2⟩:=io e;rw[getElem?_map,getElem?_eq_getElem hi] at e1;cases e1;rw[e,e2,getElem?_eq_getElem hi,Nat.zero_add];rfl
 ·rw[getElem?_eq_none (by rw[dk,length_map];omega),getElem?_eq_none (by omega)];rfl
theorem kN {k:Nat}{xs:List D}{row:Int}{M:am}(hk:M[k]?=some (.lst xs)):∀(l:List Int) (j:Nat) (x y:Option D),(l.findIdx (fun z=>decide (z<row))<l.length∧aV k xs (cg [2,3]) av (nr j l) [some (.mr k),some (.int row),x,y] M=.ok (.rt (.int ((j+l.findIdx (fun z=>decide (z<row)):Nat):Int))) M)∨(l.findIdx (fun z=>decide (z<row))=l.length∧∃x' y',aV k xs (cg [2,3]) av (nr j l) [some (.mr k),some (.int row),x,y] M=.ok (.nx [some (.mr k),some (.int row),x',y']) M)
 | [],j,x,y=>.inr ⟨rfl,x,y,by
  show(if oN k xs M=true then aE.ok (Fl.nx _) M else .bad)=_;rw[if_pos (by unfold oN;rw[hk];exact bA _)]⟩
 | z::l,j,x,y=>by
  have ok:oN k xs M=true:=by unfold oN;rw[hk];exact bA _
  have st:aV k xs (cg [2,3]) av (nr j (z::l)) [some (.mr k),some (.int row),x,y] M=(av [some (.mr k),some (.int row),some (.int j),some (.int z)] M).bind fun f M1=>match f with
    | .nx ρ2=>aV k xs (cg [2,3]) av (nr (j+1) l) ρ2 M1
    | .ct ρ2=>aV k xs (cg [2,3]) av (nr (j+1) l) ρ2 M1
    | .bk ρ2=>.ok (.nx ρ2) M1
    | .rt d=>.ok (.rt d) M1:=by
   show aV k xs (cg [2,3]) av (.tup [.int (j:Int),.int z]::nr (j+1) l) _ M=_;rw[aV,if_pos ok];rfl
  rw[st];have t:aJ (g2 gV (ae 3) (ae 1)) [some (.mr k),some (.int row),some (.int j),some (.int z)] M=.ok (decide (z<row)) M:=a6 (au rfl rfl rfl);rw[List.findIdx_cons]
  by_cases c:z<row
  ·rw[decide_eq_true c] at t;rw[show av [some (.mr k),some (.int row),some (.int j),some (.int z)] M=.ok (.rt (.int j)) M from(jd t).trans (d7 rfl),ah,decide_eq_true c];refine .inl ⟨Nat.zero_lt_succ _,?_⟩;show aE.ok (Fl.rt (D.int (j:Int))) M=_;rfl
  ·rw[decide_eq_false c] at t;rw[show av [some (.mr k),some (.int row),some (.int j),some (.int z)] M=.ok (.nx [some (.mr k),some (.int row),some (.int j),some (.int z)]) M from(el t).trans rfl,ah,decide_eq_false c];rcases kN (row:=row) hk l (j+1) (some (.int j)) (some (.int z)) with⟨a1,a2⟩|⟨a1,a2⟩
   ·refine .inl ⟨by show l.findIdx (fun z=>decide (z<row))+1<l.length+1;omega,?_⟩;dsimp only;rw[a2];show aE.ok (Fl.rt (D.int ((j+1+l.findIdx (fun z=>decide (z<row)):Nat):Int))) M=aE.ok (Fl.rt (D.int ((j+(l.findIdx (fun z=>decide (z<row))+1):Nat):Int))) M;rw[show j+1+l.findIdx (fun z=>decide (z<row))=j+(l.findIdx (fun z=>decide (z<row))+1) by omega]
   ·exact .inr ⟨by show l.findIdx (fun z=>decide (z<row))+1=l.length+1;omega,a2⟩
theorem oU {k:Nat}{en:List Int}{row:Int}{M:am}(hk:M[k]?=some (.lst (en.map D.int))):cU [.mr k,.int row] M=.ok (.int (bq en row:Int)) M:=by
 show bv (cW [some (.mr k),some (.int row),none,none] M)=_;have st:ji (aa (ae 0) af) (cg [2,3]) av [some (.mr k),some (.int row),none,none] M=aV k (en.map D.int) (cg [2,3]) av (nr 0 en) [some (.mr k),some (.int row),none,none] M:=by
  show(match M[k]? with|some (.lst xs)=>aV k xs (cg [2,3]) av (bh xs) [some (.mr k),some (.int row),none,none] M|_=>.bad)=_;rw[hk];dsimp only;rw[mV]
 unfold cW bq;rcases kN (row:=row) hk en 0 none none with⟨a1,a2⟩|⟨a1,x,y,a2⟩
 ·rw[nH (st.trans a2),Nat.zero_add];rfl
 ·rw[aC (st.trans a2),a1];refine congrArg bv (d7 (fM (x:=.mr k) (M1:=M) rfl ?_));unfold aX;dsimp only;rw[show aO (.mr k) M=some (en.map D.int) from by unfold aO;dsimp only;rw[hk]];dsimp only;rw[length_map]
theorem mN {M:am}{xs:List D}{o:MO}(hx:xs.all (aK 29)=true)(hM:lQ M):ma M.length (.ok (.mr M.length) (M++[.lst xs,o]))=.ok (.lst xs) M:=by
 have f1:=dG (n:=M.length) (M:=M++[.lst xs,o]) hM;have o1:aD (frz M.length (M++[.lst xs,o]) 29) xs=some xs:=aU fun x h=>eJ 29 x (all_eq_true.mp hx x h)
 have g:(M++[MO.lst xs,o])[M.length]?=some (.lst xs):=by rw[getElem?_append_right (Nat.le_refl _),Nat.sub_self];rfl
 have f2:frz M.length (M++[.lst xs,o]) 30 (.mr M.length)=some (.lst xs):=by
  show(if M.length<M.length then some (D.mr M.length) else match (M++[MO.lst xs,o])[M.length]? with|some (MO.lst ys)=>(aD (frz M.length (M++[MO.lst xs,o]) 29) ys).map D.lst|_=>none)=_;rw[if_neg (by omega),g];dsimp only;rw[o1];rfl
 show(if(M++[MO.lst xs,o]).length=M.length then aE.ok (D.mr M.length) (M++[MO.lst xs,o]) else match frz M.length (M++[MO.lst xs,o]) 30 (.mr M.length),cz M.length (M++[MO.lst xs,o]) ((M++[MO.lst xs,o]).take M.length) with|some d',some M'=>.ok d' M'|_,_=>.bad)=_;rw[if_neg (by rw[length_append];simp),take_left,f1,f2]
theorem oh {n x:Nat}(h:x<n):nC n (x:Int)=some x:=by
 unfold nC;rw[if_pos (by omega),if_pos (by omega),Int.toNat_natCast]
theorem mF {go gi g:GE}{ρ:bg}{M:am}{k i:Nat}{xs:List D}{x:D}(hg:g ρ M=.ok x M)(ho:go ρ M=.ok (.mr k) M)(hi:gi ρ M=.ok (.int i) M)(hk:M[k]?=some (.lst xs))(hl:i<xs.length):cO go gi g ρ M=.ok (.nx ρ) (M.set k (.lst (xs.set i x))):=by
 unfold cO;rw[hg,ah,ho,ah,hi,ah];unfold ke;dsimp only;rw[hk];dsimp only;rw[oh hl];rfl
noncomputable def bG (l:List Nat):List D:=l.map fun(k:Nat)=>D.int k
noncomputable abbrev bY (M:am)(sl:List Nat)(en:List Int):am:=M++[.lst (bG sl),.lst (en.map D.int)]
theorem xx {M:am}{sl:List Nat}{en:List Int}:(bY M sl en)[M.length]?=some (.lst (bG sl)):=by rw[getElem?_append_right (Nat.le_refl _),Nat.sub_self];rfl
theorem mO {M:am}{sl:List Nat}{en:List Int}:(bY M sl en)[M.length+1]?=some (.lst (en.map D.int)):=by rw[getElem?_append_right (by omega),show M.length+1-M.length=1 by omega];rfl
theorem vu {M:am}{sl:List Nat}{en:List Int}{x:List D}:(bY M sl en).set M.length (.lst x)=M++[.lst x,.lst (en.map D.int)]:=by rw[set_append_right _ _ (Nat.le_refl _),Nat.sub_self];rfl
theorem qt {M:am}{sl:List Nat}{en:List Int}{x:List D}:(bY M sl en).set (M.length+1) (.lst x)=M++[.lst (bG sl),.lst x]:=by rw[set_append_right _ _ (by omega),show M.length+1-M.length=1 by omega];rfl
theorem j4 {T:List (Int×Int)}{M:am}{sl:List Nat}{en:List Int}{r:Nat}{q:Int×Int}{x4 x5 x6:Option D}(hq:T[r]?=some q)(hl:sl.length=T.length)(hE:en.length<1000) :
  bx [some (.lst (T.map aA)),some (.mr M.length),some (.mr (M.length+1)),some (.int r),x4,x5,x6] (bY M sl en) =
   .ok (.nx [some (.lst (T.map aA)),some (.mr M.length),some (.mr (M.length+1)),some (.int r),some (.int q.1),some (.int q.2),some (.int (bq en q.1:Int))]) (bY M (sl.set r (bq en q.1)) (if bq en q.1=en.length then en++[q.2] else en.set (bq en q.1) q.2)):=by
 have hr:=(List.getElem?_eq_some_iff.mp hq).1;have k1:∀b:GS,ar (g6 (cg [4,5]) (g2 aB (ae 0) (ae 3))) b [some (.lst (T.map aA)),some (.mr M.length),some (.mr (M.length+1)),some (.int r),x4,x5,x6] (bY M sl en)=b [some (.lst (T.map aA)),some (.mr M.length),some (.mr (M.length+1)),some (.int r),some (.int q.1),some (.int q.2),x6] (bY M sl en):=fun b=>
  aC (rh (d:=aA q) (au (x:=.lst (T.map aA)) (y:=.int r) rfl rfl (cH (by rw[getElem?_map,hq];rfl))) rfl)
 have k2:∀b:GS,ar (ax 6 (ao 2 cU (aa (ae 2) (aa (ae 4) af)))) b [some (.lst (T.map aA)),some (.mr M.length),some (.mr (M.length+1)),some (.int r),some (.int q.1),some (.int q.2),x6] (bY M sl en)=b [some (.lst (T.map aA)),some (.mr M.length),some (.mr (M.length+1)),some (.int r),some (.int q.1),some (.int q.2),some (.int (bq en q.1:Int))] (bY M sl en):=fun b=>aC (aW (mJ rfl rfl (oU mO)))
 unfold bx;rw[k1,k2];generalize hs:bq en q.1=s;have sle:s≤en.length:=by rw[←hs];exact List.findIdx_le_length
 have ln:ay aX (aa (ae 2) af) [some (.lst (T.map aA)),some (.mr M.length),some (.mr (M.length+1)),some (.int r),some (.int q.1),some (.int q.2),some (.int (s:Int))] (bY M sl en)=.ok (.int (en.length:Int)) (bY M sl en):=by
  refine fM (x:=.mr (M.length+1)) (M1:=bY M sl en) rfl ?_;unfold aX;dsimp only;rw[show aO (.mr (M.length+1)) (bY M sl en)=some (en.map D.int) from by unfold aO;dsimp only;rw[mO]];dsimp only;rw[length_map]
 have t:=a6 (au (f:=bH false) (a:=ae 6) (x:=.int (s:Int)) rfl ln (qw _ _ _));have fin:∀en':List Int,s<en'.length→ar (cO (ae 2) (ae 6) (ae 5)) (cO (ae 1) (ae 3) (ae 6)) [some (.lst (T.map aA)),some (.mr M.length),some (.mr (M.length+1)),some (.int r),some (.int q.1),some (.int q.2),some (.int (s:Int))] (bY M sl en')=.ok (.nx [some (.lst (T.map aA)),some (.mr M.length),some (.mr (M.length+1)),some (.int r),some (.int q.1),some (.int q.2),some (.int (s:Int))]) (bY M (sl.set r s) (en'.set s q.2)):=fun en' hl'=>by
  have a1:=mF (go:=ae 2) (gi:=ae 6) (g:=ae 5) (ρ:=[some (.lst (T.map aA)),some (.mr M.length),some (.mr (M.length+1)),some (.int r),some (.int q.1),some (.int q.2),some (.int (s:Int))]) (M:=bY M sl en') (k:=M.length+1) (i:=s) (x:=.int q.2) rfl rfl rfl mO (by rw[length_map];exact hl');rw[qt,show(en'.map D.int).set s (.int q.2)=(en'.set s q.2).map D.int by rw[map_set]] at a1;have a2:=mF (go:=ae 1) (gi:=ae 3) (g:=ae 6) (ρ:=[some (.lst (T.map aA)),some (.mr M.length),some (.mr (M.length+1)),some (.int r),some (.int q.1),some (.int q.2),some (.int (s:Int))]) (M:=bY M sl (en'.set s q.2)) (k:=M.length) (i:=r) (x:=.int s) rfl rfl rfl xx (by unfold bG;rw[length_map,hl];exact hr);rw[vu,show(bG sl).set r (.int s)=bG (sl.set r s) by unfold bG;rw[map_set]] at a2;exact(aC a1).trans a2
 by_cases c:s=en.length
 ·rw[if_pos c];rw[decide_eq_true (show(s:Int)=(en.length:Int) by omega)] at t;have ap:=nJ (go:=ae 2) (ge:=ae 5) (ρ:=[some (.lst (T.map aA)),some (.mr M.length),some (.mr (M.length+1)),some (.int r),some (.int q.1),some (.int q.2),some (.int (s:Int))]) (M:=bY M sl en) (k:=M.length+1) (d:=.int q.2) rfl mO rfl mO (by rw[length_map];omega);rw[qt,show en.map D.int++[D.int q.2]=(en++[q.2]).map D.int by rw[map_append];rfl] at ap;have f:=fin (en++[q.2]) (by simp;omega);rw[show(en++[q.2]).set s q.2=en++[q.2] by rw[c];simp] at f;exact(aC ((jd t).trans (kB ap))).trans f
 ·rw[if_neg c];rw[decide_eq_false (show¬(s:Int)=(en.length:Int) by omega)] at t;exact(aC ((el t).trans rfl)).trans (fin en (by omega))
theorem fm {ds0:List D}{s:GG}{body:GS}{W:Nat→bg→am→Prop}:∀(ds:List D) (i:Nat),(∀j d,ds[j]?=some d→∀ρ M,W (i+j) ρ M→∃ρ1 ρ2 M2,s d ρ=some ρ1∧body ρ1 M=.ok (.nx ρ2) M2∧W (i+j+1) ρ2 M2)→∀ρ M,W i ρ M→
  ∃ρ' M',W (i+ds.length) ρ' M'∧cp ⟨ds0,none⟩ s body ds ρ M=.ok (.nx ρ') M'
 | [],i,h,ρ,M,hW=>⟨ρ,M,hW,rfl⟩
 | d::ds,i,h,ρ,M,hW=>by
  obtain⟨ρ1,ρ2,M2,e1,e2,h2⟩:=h 0 d rfl ρ M hW;obtain⟨ρ',M',h3,e3⟩:=fm (ds0:=ds0) (body:=body) (W:=W) ds (i+1) (fun j d' hd ρ M hW=>by
   have e:i+1+j=i+(j+1):=by omega
   rw[e] at hW ⊢;exact h (j+1) d' hd ρ M hW) ρ2 M2 h2
  refine⟨ρ',M',?_,by simp[cp,kh,e1,e2,e3]⟩;have e:i+(d::ds).length=i+1+ds.length:=by simp;omega
  rw[e];exact h3
theorem dg {lo:Int}{n j:Nat}{d:D}(h:(aG lo n)[j]?=some d):j<n∧d=.int (lo+j):=by
 unfold aG at h;rw[getElem?_map] at h;cases q:(List.range n)[j]? with
 | none=>rw[q] at h;cases h
 | some k=>
  rw[q] at h;obtain⟨hj,ek⟩:=List.getElem?_eq_some_iff.mp q;rw[length_range] at hj;rw[getElem_range] at ek;subst ek;cases h;exact⟨hj,rfl⟩
noncomputable def eW (T:List (Int×Int)):List (List Int):=T.map fun q=>[q.1,q.2]
theorem k0:∀T:List (Int×Int),dW (T.map aA)=some (eW T)
 | []=>rfl
 | q::T=>by
  show(match nS (aA q),dW (T.map aA) with|some (i::z),some zs=>some ((i::z)::zs)|_,_=>none)=_;rw[k0 T];rfl
noncomputable def iF (T:List (Int×Int))(i:Nat):Int:=cR (eW T) ((eW T).getD i [])
noncomputable def cx (T:List (Int×Int)):List Nat:=c8 (iF T) T.length
theorem gz (T:List (Int×Int)):(cx T).Perm (List.range T.length):=by
 unfold cx c8;split
 ·exact List.Perm.refl _
 ·have:=(eP (key:=iF T) (n:=T.length) (by omega)).1;simpa using Array.perm_iff_toList_perm.mp this
theorem sM (T:List (Int×Int)):(cx T).Pairwise fun a b=>iF T a≤iF T b:=by
 unfold cx c8;split
 ·rename_i h;have:T.length=0∨T.length=1:=by omega
  rcases this with e|e <;> rw[e]
  ·exact .nil
  ·exact List.pairwise_singleton _ _
 ·obtain⟨p,u⟩:=eP (key:=iF T) (n:=T.length) (by omega);have hz:(mQ (iF T) T.length).size=T.length:=by rw[p.size_eq];simp
  rw[List.pairwise_iff_getElem];intro i j hi hj hij;have a:=gx u (Nat.le_of_lt hij) (by rw[Array.length_toList,hz] at hj;exact hj);unfold kp at a;rw[Array.length_toList] at hi hj;rw[Array.getD_eq_getD_getElem?,Array.getD_eq_getD_getElem?,Array.getElem?_eq_getElem hi,Array.getElem?_eq_getElem hj] at a;simpa using a
noncomputable def fT (T:List (Int×Int))(i:Nat):Int:=(T.getD i (0,0)).1
noncomputable def eT (T:List (Int×Int))(i:Nat):Int:=(T.getD i (0,0)).2
theorem xJ (a b c d:Int):HT.lexLt [a,b] [c,d]=decide (a<c∨(a=c∧b<d)):=by
 by_cases h1:a<c <;> by_cases h2:a=c <;> by_cases h3:b<d <;> simp[HT.lexLt,h1,h2,h3] <;> omega
theorem l8 {T:List (Int×Int)}{i j:Nat}(hi:i<T.length)(hj:j<T.length)(h:iF T i≤iF T j):fT T i≤fT T j:=by
 have zg:∀k,k<T.length→(eW T).getD k []=[fT T k,eT T k]∧(eW T).getD k []∈eW T:=fun k hk=>by
  have e:(eW T)[k]?=some [T[k].1,T[k].2]:=by unfold eW;rw[getElem?_map,getElem?_eq_getElem hk];rfl
  have e2:(eW T).getD k []=[T[k].1,T[k].2]:=by rw[List.getD,e];rfl
  refine⟨?_,by rw[e2];exact mem_of_getElem? e⟩;rw[e2];unfold fT eT;rw[List.getD,getElem?_eq_getElem hk];rfl
 refine Classical.byContradiction fun c=>?_
 have lt:HT.lexLt ((eW T).getD j []) ((eW T).getD i [])=true:=by
  rw[(zg i hi).1,(zg j hj).1,xJ];exact decide_eq_true (.inl (by omega))
 rw[nY (zg j hj).2] at lt;have:=of_decide_eq_true lt;unfold iF at h;omega
theorem fY {T:List (Int×Int)}{i:Nat}{r p:Nat}(hr:(cx T)[i]?=some r)(hp:p∈(cx T).take i):fT T p≤fT T r∧p≠r:=by
 obtain⟨j,hj,e⟩:=mem_iff_getElem.mp hp;rw[length_take] at hj;rw[List.getElem_take] at e;obtain⟨hi,er⟩:=List.getElem?_eq_some_iff.mp hr;have pm:=gz T;have hlt:∀k,k∈cx T→k<T.length:=fun k hk=>mem_range.mp (pm.mem_iff.mp hk)
 have nd:(cx T).Nodup:=pm.nodup_iff.mpr List.nodup_range;have hjl:j<(cx T).length:=by omega
 have ky:=List.pairwise_iff_getElem.mp (sM T) j i hjl hi (by omega);rw[e,er] at ky;refine⟨l8 (hlt p (by rw[←e];exact getElem_mem hjl)) (hlt r (by rw[←er];exact getElem_mem hi)) ky,fun z=>?_⟩;have:=List.pairwise_iff_getElem.mp nd j i hjl hi (by omega);rw[e,er] at this;exact this z
theorem rj (T:List (Int×Int))(row:Int):pe (fT T) (eT T) T.length row=cG T row:=by
 unfold pe cG;have e:T=(List.range T.length).map fun i=>T.getD i (0,0):=by
  apply ext_getElem?;intro i;rw[getElem?_map]
  by_cases hi:i<T.length
  ·rw[getElem?_range hi,getElem?_eq_getElem hi];show _=some (T.getD i (0,0));rw[List.getD,getElem?_eq_getElem hi];rfl
  ·rw[getElem?_eq_none (by omega),getElem?_eq_none (by rw[length_range];omega)];rfl
 conv=>rhs;rw[e]
 rw[List.filter_map,length_map];rfl
theorem nM {T:List (Int×Int)}{most:Int}{M:am}(h64:T.length<64)(hfe:∀q∈T,q.1≤q.2)(hm:0≤most)(hc:∀q∈T,(cG T q.1:Int)≤most)(hM:lQ M) :
  ∃sl en,SI (fT T) (eT T) T.length most (cx T).reverse sl en∧bI [.lst (T.map aA)] M=.ok (.lst (bG sl)) M:=by
 have pm:=gz T;have hlt:∀k,k∈cx T→k<T.length:=fun k hk=>mem_range.mp (pm.mem_iff.mp hk)
 have i0:SI (fT T) (eT T) T.length most ((cx T).take 0).reverse (List.replicate T.length 0) []:=⟨length_replicate,(fun p hp=>by cases hp),(fun p hp=>by cases hp),(fun s hs=>by cases hs),hm⟩;obtain⟨ρ',N,⟨sl,en,y,rfl,rfl,si⟩,ef⟩:=fm (ds0:=bG (cx T)) (s:=bX 3) (body:=bx)
  (W:=fun i ρ N=>∃sl en,∃y:Nat→Option D,ρ=[some (.lst (T.map aA)),some (.mr M.length),some (.mr (M.length+1)),y 0,y 1,y 2,y 3]∧N=bY M sl en∧SI (fT T) (eT T) T.length most ((cx T).take i).reverse sl en)
  (bG (cx T)) 0 (fun j d hd ρ N hW=>by
   obtain⟨sl,en,y,rfl,rfl,si⟩:=hW;rw[Nat.zero_add] at si ⊢;unfold bG at hd;rw[getElem?_map] at hd;cases hr:(cx T)[j]? with
   | none=>rw[hr] at hd;cases hd
   | some r=>
    rw[hr] at hd;cases hd;have rT:=hlt r (mem_of_getElem? hr);have hq:=getElem?_eq_getElem rT;have fq:fT T r=T[r].1:=by unfold fT;rw[List.getD,hq];rfl
    have eq:eT T r=T[r].2:=by unfold eT;rw[List.getD,hq];rfl
    have lE:en.length<1000:=by
     have:=kq (List.range en.length) (List.range en.length) List.nodup_range fun _ h=>h
     have d:=si.d;have c2:∀s,s<en.length→∃p∈((cx T).take j).reverse,sl.getD p 0=s:=fun s hs=>by
      obtain⟨p,hp,e1,_⟩:=si.c s hs;exact⟨p,hp,e1⟩
     have:=kq (List.range en.length) (((cx T).take j).reverse.map fun p=>sl.getD p 0) List.nodup_range fun s hs=>by
      obtain⟨p,hp,e1⟩:=c2 s (mem_range.mp hs);exact mem_map.mpr ⟨p,hp,e1⟩
     rw[length_range,length_map,length_reverse,length_take] at this;have l:=pm.length_eq;rw[length_range] at l;omega
    have e:=j4 (M:=M) (x4:=y 1) (x5:=y 2) (x6:=y 3) hq si.len lE;have st:=ph (r:=r) si rT (fun z=>(fY hr (mem_reverse.mp z)).2 rfl) (fun p hp=>(fY hr (mem_reverse.mp hp)).1) (by rw[fq,eq];exact hfe _ (getElem_mem rT)) (by rw[rj,fq];exact hc _ (getElem_mem rT));rw[fq,eq] at st;refine⟨_,_,_,rfl,e,_,_,fun i=>[some (.int r),some (.int T[r].1),some (.int T[r].2),some (.int (bq en T[r].1:Int))][i]?.getD none,rfl,rfl,?_⟩;rw[take_add_one,hr];simpa using st)
  [some (.lst (T.map aA)),some (.mr M.length),some (.mr (M.length+1)),none,none,none,none] (bY M (List.replicate T.length 0) []) ⟨_,_,fun _=>none,rfl,rfl,i0⟩
 have lo:(bG (cx T)).length=(cx T).length:=by unfold bG;rw[length_map]
 rw[Nat.zero_add,lo,take_length] at si;refine⟨sl,en,si,?_⟩;have ln:∀(a b c d e f:Option D) (N:am),ay aX (aa (ae 0) af) [some (.lst (T.map aA)),a,b,c,d,e,f] N=.ok (.int (T.length:Int)) N:=fun a b c d e f N=>by
  refine fM (x:=.lst (T.map aA)) (M1:=N) rfl ?_;show aE.ok (D.int ((T.map aA).length:Int)) N=_;rw[length_map]
 have fr:(List.replicate T.length [D.int 0]).flatten=bG (List.replicate T.length 0):=by
  unfold bG;generalize T.length=n
  induction n with
  | zero=>rfl
  | succ n ih=>rw[List.replicate_succ,List.flatten_cons,ih,List.replicate_succ,map_cons];rfl
 have k1:∀b:GS,ar (ax 1 (g2 nu (bU (aa (gC (.int 0)) af)) (ay aX (aa (ae 0) af)))) b [some (.lst (T.map aA)),none,none,none,none,none,none] M=b [some (.lst (T.map aA)),some (.mr M.length),none,none,none,none,none] (M++[.lst (bG (List.replicate T.length 0))]):=fun b=>by
  refine aC (aW (au (x:=.lst [.int 0]) (gf rfl) (ln _ _ _ _ _ _ M) ?_));show(if 0≤(T.length:Int)∧(T.length:Int)≤100000∧[D.int 0].length*((T.length:Int)).toNat≤100000 then aE.ok (D.mr M.length) (M++[.lst (List.replicate ((T.length:Int)).toNat [D.int 0]).flatten]) else .bad)=_;rw[Int.toNat_natCast,if_pos ⟨by omega,by omega,by show 1*_≤_;omega⟩,fr]
 have k2:∀b:GS,ar (ax 2 (eN af)) b [some (.lst (T.map aA)),some (.mr M.length),none,none,none,none,none] (M++[.lst (bG (List.replicate T.length 0))])=b [some (.lst (T.map aA)),some (.mr M.length),some (.mr (M.length+1)),none,none,none,none] (bY M (List.replicate T.length 0) []):=fun b=>by
  have m:=kJ (ρ:=[some (.lst (T.map aA)),some (.mr M.length),none,none,none,none,none]) (M:=M++[.lst (bG (List.replicate T.length 0))]);rw[show(M++[MO.lst (bG (List.replicate T.length 0))]).length=M.length+1 by simp,append_assoc] at m;exact aC (aW m)
 have ki:cb (dm 0 (aa (ay aX (aa (ae 0) af)) af)) [some (.lst (T.map aA)),some (.mr M.length),some (.mr (M.length+1)),none,none,none,none] (bY M (List.replicate T.length 0) [])=.ok ⟨bG (cx T),none⟩ (bY M (List.replicate T.length 0) []):=by
  have ks:dm 0 (aa (ay aX (aa (ae 0) af)) af) [some (.lst (T.map aA)),some (.mr M.length),some (.mr (M.length+1)),none,none,none,none] (bY M (List.replicate T.length 0) [])=.ok (.lst (bG (cx T))) (bY M (List.replicate T.length 0) []):=by
   unfold dm;rw[bc (ln _ _ _ _ _ _ _) rfl,ah];show(match dW (T.map aA) with|some zs=>if(T.length:Int)=(zs.length:Int)∧zs.length<64 then aE.ok (D.lst ((c8 (fun i=>cR zs (zs.getD i [])) zs.length).map fun(i:Nat)=>D.int i)) (bY M (List.replicate T.length 0) []) else .bad|none=>.bad)=_;rw[k0];dsimp only;have lz:(eW T).length=T.length:=by unfold eW;rw[length_map]
   rw[lz,if_pos ⟨rfl,h64⟩];rfl
  unfold cb;rw[ks,ah];rfl
 show ma M.length (bv (bF [some (.lst (T.map aA)),none,none,none,none,none,none] M))=_;unfold bF;rw[k1,k2,aC (d5 ki ef)];refine mN ?_ hM;unfold bG;rw[all_map];exact all_eq_true.mpr fun _ _=>rfl
noncomputable def tp (l:List Int)(i c:Int):MO:=.lst [.lst (l.map D.int),.int i,.int c]
noncomputable def cZ (l:List Int)(rest:am)(M:am):Prop:=∃i c,0≤i∧M=tp l i c::rest
theorem nh {l:List Int}{k:Int}(h0:0≤k)(h1:k<l.length):∃v,mm (l.map D.int) k=some (.int v):=by
 obtain⟨n,rfl⟩:=Int.eq_ofNat_of_zero_le h0;have hn:n<l.length:=by omega
 exact⟨l[n],fK (by simp[hn])⟩
noncomputable def xl:GS:=ar (ax 4 (g2 c6 (g2 aB (ae 0) (gC (.int 2))) (ae 1))) (ar (cO (ae 0) (gC (.int 2)) (g2 bD (g2 aB (ae 0) (gC (.int 2))) (ae 1))) (bT (ae 4)))
noncomputable def wD:GS:=ar (ax 3 (g2 c6 (g2 ba (ae 3) (g2 cP (gC (.int 1000003)) (g2 aB (ae 0) (gC (.int 1))))) (ae 2))) (ar (ax 3 (g2 c6 (g2 ba (g2 ba (g2 cP (ae 3) (ae 3)) (g2 cP (gC (.int 1181783497276652981)) (ae 3))) (gC (.int 2049848353892358983))) (ae 2))) (ax 3 (g2 c6 (g2 ba (g2 cP (ae 3) (ae 3)) (gC (.int 1442695040888963407))) (ae 2))))
noncomputable def xM:GS:=dR (aJ (g2 kU (ay aX (aa (g2 aB (ae 0) (gC (.int 0))) af)) (gC (.int 0)))) (ax 3 (g2 aB (g2 aB (ae 0) (gC (.int 0))) (g2 c6 (g2 aB (ae 0) (gC (.int 1))) (ay aX (aa (g2 aB (ae 0) (gC (.int 0))) af))))) bo
noncomputable def yb:GT:=cm (aJ (g2 pY (g2 aB (ae 0) (gC (.int 1))) (ay aX (aa (g2 aB (ae 0) (gC (.int 0))) af)))) (aJ (g2 gV (ae 3) (g2 gU (gC (.int 10)) (gC (.int 18)))))
noncomputable def wW:GS:=ar (ax 3 (gC (.int 0))) (ar xM (ar (dR yb wD bo) (ar (cO (ae 0) (gC (.int 1)) (g2 ba (g2 aB (ae 0) (gC (.int 1))) (gC (.int 1)))) (cO (ae 0) (gC (.int 2)) (ae 3)))))
theorem um (ρ:bg)(M:am):cS ρ M=ar (ax 2 (gC (.int 2305843009213693951))) (ar (dR (aJ (g2 gV (g2 aB (ae 0) (gC (.int 2))) (ae 1))) wW bo) xl) ρ M:=rfl
theorem i4 {i j:Int}(h:0<j)(M:am):c6 (.int i) (.int j) M=.ok (.int (i % j)) M:=by
 unfold c6;dsimp only;rw[if_pos h]
theorem fG {i j:Int}(h:-18446744073709551616<i∧i<18446744073709551616)(M:am):cP (.int i) (.int j) M=.ok (.int (i*j)) M:=by
 unfold cP;dsimp only;rw[if_pos (.inl ⟨Int.lt_of_le_of_lt (by decide) h.1,Int.lt_of_lt_of_le h.2 (by decide)⟩)]
theorem iI {go gi g:GE}{ρ:bg}{M M1:am}{x:D}(h:g ρ M=.ok x M)(h2:(go ρ M).bind (fun o M2=>(gi ρ M2).bind fun i M3=>(ke o i x M3).bind fun _ M4=>.ok (Fl.nx ρ) M4)=.ok (Fl.nx ρ) M1):cO go gi g ρ M=.ok (.nx ρ) M1:=by
 unfold cO;rw[h,ah,h2]
theorem pG {l:List Int}{rest M:am}{many:Int}(hm:0<many)(hlog:many.natAbs.log2<9000)(h:cZ l rest M) :
  ∃f M',0≤f∧f<many∧cZ l rest M'∧ag [.mr 0,.int many] M=.ok (.int f) M':=by
 obtain⟨i,c,hi,rfl⟩:=h;have i0:∀(i c:Int) (x1 x2 x3 x4:Option D),g2 aB (ae 0) (gC (.int 0)) [some (.mr 0),x1,x2,x3,x4] (tp l i c::rest)=.ok (.lst (l.map D.int)) (tp l i c::rest):=fun _ _ _ _ _ _=>rfl
 have i1:∀(i c:Int) (x1 x2 x3 x4:Option D),g2 aB (ae 0) (gC (.int 1)) [some (.mr 0),x1,x2,x3,x4] (tp l i c::rest)=.ok (.int i) (tp l i c::rest):=fun _ _ _ _ _ _=>rfl
 have i2:∀(i c:Int) (x1 x2 x3 x4:Option D),g2 aB (ae 0) (gC (.int 2)) [some (.mr 0),x1,x2,x3,x4] (tp l i c::rest)=.ok (.int c) (tp l i c::rest):=fun _ _ _ _ _ _=>rfl
 have ln:∀(i c:Int) (x1 x2 x3 x4:Option D),ay aX (aa (g2 aB (ae 0) (gC (.int 0))) af) [some (.mr 0),x1,x2,x3,x4] (tp l i c::rest)=.ok (.int (l.length:Int)) (tp l i c::rest):=fun i c x1 x2 x3 x4=>by
  refine fM (i0 i c x1 x2 x3 x4) ?_;show aE.ok (D.int ((l.map D.int).length:Int)) _=_;rw[length_map]
 have tail:∀(c i:Int) (x2 x3 x4:Option D),0≤i→∃f M',0≤f∧f<many∧cZ l rest M'∧bv (xl [some (.mr 0),some (.int many),x2,x3,x4] (tp l i c::rest))=.ok (.int f) M':=fun c i x2 x3 x4 hi=>by
  refine⟨c % many,tp l i (c / many)::rest,Int.emod_nonneg _ (by omega),Int.emod_lt_of_pos _ hm,⟨i,c / many,hi,rfl⟩,?_⟩;unfold xl;rw[aC (aW (au (i2 i c (some (.int many)) x2 x3 x4) rfl (i4 hm _)))];have fd:bD (.int c) (.int many) (tp l i c::rest)=.ok (.int (c / many)) (tp l i c::rest):=by
   unfold bD;dsimp only;rw[if_pos ⟨hm,hlog⟩]
  have k:cO (ae 0) (gC (.int 2)) (g2 bD (g2 aB (ae 0) (gC (.int 2))) (ae 1)) [some (.mr 0),some (.int many),x2,x3,some (.int (c % many))] (tp l i c::rest)=.ok (.nx [some (.mr 0),some (.int many),x2,x3,some (.int (c % many))]) (tp l i (c / many)::rest):=
   iI (au (i2 i c (some (.int many)) x2 x3 _) rfl fd) rfl
  exact(congrArg bv (aC k)).trans rfl
 show∃f M',_∧_∧_∧bv (cS [some (.mr 0),some (.int many),none,none,none] (tp l i c::rest))=_;rw[um];have e0:∀b:GS,ar (ax 2 (gC (.int 2305843009213693951))) b [some (.mr 0),some (.int many),none,none,none] (tp l i c::rest)=b [some (.mr 0),some (.int many),some (.int 2305843009213693951),none,none] (tp l i c::rest):=fun b=>aC rfl
 rw[e0];have tst:aJ (g2 gV (g2 aB (ae 0) (gC (.int 2))) (ae 1)) [some (.mr 0),some (.int many),some (.int 2305843009213693951),none,none] (tp l i c::rest)=.ok (decide (c<many)) (tp l i c::rest):=a6 (au (i2 i c _ _ _ _) rfl rfl)
 by_cases h1:c<many
 ·rw[decide_eq_true h1] at tst;obtain⟨v,ev⟩:∃v:Int,xM [some (.mr 0),some (.int many),some (.int 2305843009213693951),some (.int 0),none] (tp l i c::rest)=.ok (.nx [some (.mr 0),some (.int many),some (.int 2305843009213693951),some (.int v),none]) (tp l i c::rest):=by
   unfold xM;have t0:aJ (g2 kU (ay aX (aa (g2 aB (ae 0) (gC (.int 0))) af)) (gC (.int 0))) [some (.mr 0),some (.int many),some (.int 2305843009213693951),some (.int 0),none] (tp l i c::rest)=.ok (decide ((l.length:Int)>0)) (tp l i c::rest):=a6 (au (ln i c _ _ _ _) rfl rfl)
   by_cases hl:(l.length:Int)>0
   ·rw[decide_eq_true hl] at t0;obtain⟨v,hv⟩:=nh (l:=l) (Int.emod_nonneg _ (by omega)) (Int.emod_lt_of_pos _ hl);refine⟨v,(jd t0).trans (aW (au (f:=aB) (i0 i c _ _ _ _) (au (i1 i c _ _ _ _) (ln i c _ _ _ _) (i4 hl _)) ?_))⟩;show(match mm (l.map D.int) (i % (l.length:Int)) with|some d=>aE.ok d (tp l i c::rest)|none=>.bad)=_;rw[hv]
   ·rw[decide_eq_false hl] at t0;exact⟨0,(el t0).trans rfl⟩
  have bd:∀x:Int,-18446744073709551616<x % 2305843009213693951∧x % 2305843009213693951<18446744073709551616:=fun x=>by
   have h0:=Int.emod_nonneg x (show(2305843009213693951:Int)≠0 by decide);have h1:=Int.emod_lt_of_pos x (show(0:Int)<2305843009213693951 by decide);omega
  have md:∀x:Int,∀M,c6 (.int x) (.int 2305843009213693951) M=.ok (.int (x % 2305843009213693951)) M:=fun x M=>i4 (by decide) M
  obtain⟨u,eu⟩:∃u:Int,dR yb wD bo [some (.mr 0),some (.int many),some (.int 2305843009213693951),some (.int v),none] (tp l i c::rest)=.ok (.nx [some (.mr 0),some (.int many),some (.int 2305843009213693951),some (.int u),none]) (tp l i c::rest):=by
   have po:∀ρ,g2 gU (gC (.int 10)) (gC (.int 18)) ρ (tp l i c::rest)=.ok (.int (10 ^ 18)) (tp l i c::rest):=fun ρ=>by
    refine au rfl rfl ?_;unfold gU;dsimp only;rw[if_pos (by decide)];rfl
   have to:=dj (a6 (au (f:=pY) (i1 i c (some (.int many)) (some (.int 2305843009213693951)) (some (.int v)) none) (ln i c _ _ _ _) rfl)) fun _=>a6 (au (f:=gV) (a:=ae 3) rfl (po _) rfl)
   generalize (decide (i≥(l.length:Int))||decide (v<10 ^ 18))=b at to;cases b with
   | false=>exact⟨v,(el to).trans rfl⟩
   | true=>
    suffices hs:∃u:Int,wD [some (.mr 0),some (.int many),some (.int 2305843009213693951),some (.int v),none] (tp l i c::rest)=.ok (.nx [some (.mr 0),some (.int many),some (.int 2305843009213693951),some (.int u),none]) (tp l i c::rest) from hs.elim fun u e=>⟨u,(jd to).trans e⟩
    unfold wD;rw[aC (aW (au (au (f:=ba) (a:=ae 3) rfl (au (f:=cP) (a:=gC (.int 1000003)) rfl (i1 i c _ _ _ _) (fG (by decide) _)) rfl) rfl (md _ _)))];generalize hz:(v+1000003*i) % 2305843009213693951=z;have bz:=hz▸bd (v+1000003*i);have k2:ax 3 (g2 c6 (g2 ba (g2 ba (g2 cP (ae 3) (ae 3)) (g2 cP (gC (.int 1181783497276652981)) (ae 3))) (gC (.int 2049848353892358983))) (ae 2)) [some (.mr 0),some (.int many),some (.int 2305843009213693951),some (.int z),none] (tp l i c::rest)=.ok (.nx [some (.mr 0),some (.int many),some (.int 2305843009213693951),some (.int ((z*z+1181783497276652981*z+2049848353892358983) % 2305843009213693951)),none]) (tp l i c::rest):=
     aW (au (au (f:=ba) (au (f:=ba) (au (f:=cP) (a:=ae 3) rfl rfl (fG bz _)) (au (f:=cP) (a:=gC (.int 1181783497276652981)) rfl rfl (fG (by decide) _)) rfl) rfl rfl) rfl (md _ _))
    refine Exists.imp (fun u e=>(aC k2).trans e) ?_;generalize hy:(z*z+1181783497276652981*z+2049848353892358983) % 2305843009213693951=y;have byy:=hy▸bd (z*z+1181783497276652981*z+2049848353892358983);exact⟨_,aW (au (au (f:=ba) (au (f:=cP) (a:=ae 3) rfl rfl (fG byy _)) rfl rfl) rfl (md _ _))⟩
  have kb:wW [some (.mr 0),some (.int many),some (.int 2305843009213693951),none,none] (tp l i c::rest)=.ok (.nx [some (.mr 0),some (.int many),some (.int 2305843009213693951),some (.int u),none]) (tp l (i+1) u::rest):=by
   unfold wW;have e3:∀b:GS,ar (ax 3 (gC (.int 0))) b [some (.mr 0),some (.int many),some (.int 2305843009213693951),none,none] (tp l i c::rest)=b [some (.mr 0),some (.int many),some (.int 2305843009213693951),some (.int 0),none] (tp l i c::rest):=fun b=>aC rfl
   rw[e3,aC ev,aC eu];have k1:cO (ae 0) (gC (.int 1)) (g2 ba (g2 aB (ae 0) (gC (.int 1))) (gC (.int 1))) [some (.mr 0),some (.int many),some (.int 2305843009213693951),some (.int u),none] (tp l i c::rest)=.ok (.nx [some (.mr 0),some (.int many),some (.int 2305843009213693951),some (.int u),none]) (tp l (i+1) c::rest):=
    iI (au (i1 i c _ _ _ _) rfl rfl) rfl
   rw[aC k1];exact iI rfl rfl
  rw[aC ((jd tst).trans kb)];exact tail u (i+1) _ _ _ (by omega)
 ·rw[decide_eq_false h1] at tst;rw[aC ((el tst).trans rfl)];exact tail c i _ _ _ hi
theorem bW {x:Int}(h0:0<x)(h1:x≤1000000):x.natAbs.log2<9000:=by
 have h2:x.natAbs<2 ^ 20:=by omega
 have h3:x.natAbs≠0:=by omega
 have:=(Nat.log2_lt h3).mpr h2;omega
theorem rl {a b:D}{f:Int}(h0:0≤f)(h1:f<2):∃v,(v=a∨v=b)∧∀M,aB (.lst [a,b]) (.int f) M=.ok v M:=by
 have:f=0∨f=1:=by omega
 rcases this with rfl|rfl
 ·exact⟨a,.inl rfl,fun M=>cH (k:=0) rfl⟩
 ·exact⟨b,.inr rfl,fun M=>cH (k:=1) rfl⟩
theorem qI {l:List Int}{rest N:am}{ρ:bg}{i:Nat}{many:Int}(t:cZ l rest N)(hi:ρ[i]?=some (some (.mr 0)))(h0:0<many)(h1:many.natAbs.log2<9000):∃f N1,0≤f∧f<many∧cZ l rest N1∧∀g:GE,g ρ N=.ok (.int many) N→ao 2 ag (aa (ae i) (aa g af)) ρ N=.ok (.int f) N1:=by
 obtain⟨f,N1,a,b,t1,e⟩:=pG h0 h1 t;exact⟨f,N1,a,b,t1,fun g hg=>mJ (a:=ae i) (by unfold ae;rw[hi]) hg e⟩
theorem f9:∀(l:List Int) (b:Int),cL (l.map D.int) b=some (l.foldl max b)
 | [],b=>rfl
 | a::l,b=>by
  show(if b<a then cL (l.map D.int) a else cL (l.map D.int) b)=_;rw[foldl_cons]
  by_cases h:b<a
  ·rw[if_pos h,f9 l a,show max b a=a by omega]
  ·rw[if_neg h,f9 l b,show max b a=b by omega]
theorem qy:∀(l:List Int) (b T:Int),l.foldl max b≤T↔b≤T∧∀x∈l,x≤T
 | [],b,T=>by simp
 | a::l,b,T=>by
  rw[foldl_cons,qy l];constructor
  ·rintro ⟨h1,h2⟩;refine⟨by omega,fun x hx=>?_⟩;rcases mem_cons.mp hx with rfl|hx
   ·omega
   ·exact h2 x hx
  ·rintro ⟨h1,h2⟩;have:=h2 a mem_cons_self;exact⟨by omega,fun x hx=>h2 x (mem_cons_of_mem _ hx)⟩
theorem jz {α:Type}{f g:α→D}{ge:GE}{ρ:bg}{M:am}{t:gn}(ht:t.ok M=true):∀l:List α,(∀a∈l,ge (some (f a)::ρ) M=.ok (g a) M)→cF t d8 ge (l.map f) ρ M=.ok (l.map g) M
 | [],_=>by
  show(if t.ok M=true then aE.ok [] M else .bad)=_;rw[if_pos ht];rfl
 | a::l,h=>by
  rw[map_cons,map_cons,cF,if_pos ht];show(match ge (some (f a)::ρ) M with | .ok e M2=>(cF t d8 ge (l.map f) ρ M2).bind fun es M3=>.ok (e::es) M3|_=>.bad)=_;rw[h a mem_cons_self];dsimp only;rw[jz ht l fun b hb=>h b (mem_cons_of_mem _ hb),ah]
theorem vn {M:am}{i k:Nat}{xs:List D}{d:D}(h:M[i]?=some (.lst xs))(hk:xs[k]?=some d):aB (.mr i) (.int k) M=.ok d M:=by
 have a:=fK (xs:=xs) (j:=k) hk;unfold aB aO;dsimp only;rw[h];dsimp only;rw[a]
theorem l6 {ns:List Int}{rest M:am}(h:cZ ns rest M)(hr:rest.all iq=true):M.all iq=true:=by
 obtain⟨i,c,_,rfl⟩:=h;rw[all_cons,hr,Bool.and_true];show(D.lst (ns.map D.int)::[D.int i,D.int c]).all (aK 30)=true;have:=lL 28 ns;simp[lD,this]
theorem gm {ns:List Int}{rest M:am}{xs:List D}{d:D}(h:cZ ns (rest++[.lst xs]) M):M[rest.length+1]?=some (.lst xs)∧cZ ns (rest++[.lst (xs++[d])]) (M.set (rest.length+1) (.lst (xs++[d]))):=by
 obtain⟨i,c,hi,rfl⟩:=h;exact⟨by simp,i,c,hi,by simp⟩
theorem tR {a:GE}{ρ:bg}{N N1:am}{f j:Int}(e:a ρ N=.ok (.int f) N1)(h0:0<j)(h1:j≤1000):g2 bD a (gC (.int j)) ρ N=.ok (.int (f / j)) N1:=au e rfl (oF h0 (by omega) N1)
noncomputable def cB (T:List (Int×Int))(rest:Int):List (Int×Int):=T.map fun q=>(q.1,q.2+rest)
theorem fZ {T:List (Int×Int)}{many rest:Int}{M:am}(h64:T.length<64):bw [.lst (T.map aA),.int many,.int rest] M=bv (ar (dR (aJ (g2 (jI false) (ae 4) (gC .non))) (bT (cX (aa (gC (.str "slots")) (aa (ao 1 bI (aa (ae 3) af)) af)))) bo) (bT (cX (aa (gC (.str "row")) (aa (ae 4) af)))) [some (.lst (T.map aA)),some (.int many),some (.int rest),some (.lst ((cB T rest).map aA)),some (rZ (dQ (cB T rest) many))] M):=by
 have k1:∀b:GS,ar (ax 3 (aP (cb (ae 0)) 2 (cg [0,1]) d8 cu aI)) b [some (.lst (T.map aA)),some (.int many),some (.int rest),none,none] M=b [some (.lst (T.map aA)),some (.int many),some (.int rest),some (.lst ((cB T rest).map aA)),none] M:=fun b=>by
  have c:=gd (f:=aA) (g:=fun q:Int×Int=>aA (q.1,q.2+rest)) (b:=fun _=>true) (n:=2) (sg:=cg [0,1]) (gc:=d8) (ge:=cu) (ρ:=[some (.lst (T.map aA)),some (.int many),some (.int rest),none,none]) (M:=M) (ds0:=T.map aA) T fun q _=>⟨[some (.int q.1),some (.int q.2),some (.lst (T.map aA)),some (.int many),some (.int rest),none,none],rfl,rfl,fun _=>iT rfl⟩
  rw[filter_eq_self.mpr fun _ _=>rfl] at c;refine aC (aW (d:=.lst ((cB T rest).map aA)) ?_);have e:(cB T rest).map aA=T.map fun q:Int×Int=>aA (q.1,q.2+rest):=by unfold cB;rw[map_map];rfl
  rw[e];exact jg (fI rfl) c (by rw[length_map];omega)
 have k2:∀b:GS,ar (ax 4 (ao 2 bZ (aa (ae 3) (aa (ae 1) af)))) b [some (.lst (T.map aA)),some (.int many),some (.int rest),some (.lst ((cB T rest).map aA)),none] M=b [some (.lst (T.map aA)),some (.int many),some (.int rest),some (.lst ((cB T rest).map aA)),some (rZ (dQ (cB T rest) many))] M:=fun b=>aC (aW (mJ rfl rfl (kn (by unfold cB;rw[length_map];omega))))
 show bv (cT [some (.lst (T.map aA)),some (.int many),some (.int rest),none,none] M)=_;unfold cT;rw[k1,k2]
theorem iL {T:List (Int×Int)}{many rest:Int}{M:am}{q:Int×Int}(h64:T.length<64)(h:dQ (cB T rest) many=some q):bw [.lst (T.map aA),.int many,.int rest] M=.ok (.tup [.str "row",.int q.1]) M:=by
 rw[fZ h64,h];exact congrArg bv ((aC ((el (M1:=M) rfl).trans rfl)).trans (d7 (iT rfl)))
theorem gH {T:List (Int×Int)}{many rest:Int}{M:am}{d:D}(h64:T.length<64)(h:dQ (cB T rest) many=none)(hg:bI [.lst ((cB T rest).map aA)] M=.ok d M):bw [.lst (T.map aA),.int many,.int rest] M=.ok (.tup [.str "slots",d]) M:=by
 rw[fZ h64,h];exact congrArg bv (nH ((jd (M1:=M) rfl).trans (d7 (iT (ds:=[.str "slots",d]) (bc rfl (bc (ut rfl hg) rfl))))))
theorem kG {T:List (Int×Int)}{k:Nat}{rest row:Int}{M:am}(hk:M[k]?=some (.lst (T.map aA)))(hT:T.length≤1000):ce [.mr k,.int rest,.int row] M=.ok (.int (cG (cB T rest) row:Int)) M:=by
 have hi:cb (ae 0) [some (.mr k),some (.int rest),some (.int row)] M=.ok ⟨T.map aA,some k⟩ M:=by
  unfold cb;show(match M[k]? with|some (.lst ds)=>aE.ok (gn.mk ds (some k)) M|_=>.bad)=_;rw[hk]
 have ht:gn.ok ⟨T.map aA,some k⟩ M=true:=by
  show(match M[k]? with|some (.lst xs)=>dr xs (T.map aA)|_=>false)=true;rw[hk];exact bA _
 have c:∀l:List (Int×Int),cF ⟨T.map aA,some k⟩ bB bN (l.map aA) [some (.mr k),some (.int rest),some (.int row)] M=.ok ((l.filter fun q=>decide (q.1≤row)&&decide (row≤q.2+rest)).map aA) M:=fun l=>by
  induction l with
  | nil=>
   show(if gn.ok ⟨T.map aA,some k⟩ M=true then aE.ok [] M else .bad)=_;rw[if_pos ht];rfl
  | cons q l ih=>
   have t:bB (some (aA q)::[some (.mr k),some (.int rest),some (.int row)]) M=.ok (decide (q.1≤row)&&decide (row≤q.2+rest)) M:=
    kT (a6 (au (au (x:=aA q) (y:=.int 0) rfl rfl (eE (k:=0) rfl)) rfl rfl)) fun _=>a6 (au rfl (au (au (x:=aA q) (y:=.int 1) rfl rfl (eE (k:=1) rfl)) rfl rfl) rfl)
   rw[map_cons,cF,if_pos ht,t];cases z:(decide (q.1≤row)&&decide (row≤q.2+rest)) with
   | true=>
    rw[filter_cons_of_pos (p:=fun q:Int×Int=>decide (q.1≤row)&&decide (row≤q.2+rest)) z,map_cons];show((cF ⟨T.map aA,some k⟩ bB bN (l.map aA) [some (.mr k),some (.int rest),some (.int row)] M).bind fun es M3=>.ok (aA q::es) M3)=_;rw[ih,ah]
   | false=>
    rw[filter_cons_of_neg (p:=fun q:Int×Int=>decide (q.1≤row)&&decide (row≤q.2+rest)) (by rw[z];exact Bool.false_ne_true)];exact ih
 have lc:(T.filter fun q=>decide (q.1≤row)&&decide (row≤q.2+rest)).length=cG (cB T rest) row:=by
  unfold cG cB;rw[List.filter_map,length_map];rfl
 have gc:cq (cb (ae 0)) bB bN aI [some (.mr k),some (.int rest),some (.int row)] M=.ok (.lst ((T.filter fun q=>decide (q.1≤row)&&decide (row≤q.2+rest)).map aA)) M:=by
  unfold cq;rw[hi,ah];dsimp only;rw[c T,ah];unfold aI;rw[if_pos (cY (by rw[length_map];exact Nat.le_trans (length_filter_le _ _) (by omega)))]
 show bv (cV [some (.mr k),some (.int rest),some (.int row)] M)=_;unfold cV;refine congrArg bv (d7 (fM gc ?_));show aE.ok (D.int (((T.filter fun q=>decide (q.1≤row)&&decide (row≤q.2+rest)).map aA).length:Int)) M=_;rw[length_map,lc]
noncomputable def bt (T:List (Int×Int))(rest:Int):Int:=(T.map fun q=>(cG (cB T rest) q.1:Int)).foldl max 0
theorem o8 {T:List (Int×Int)}{k:Nat}{rest:Int}{M:am}{ρ:bg}(hk:M[k]?=some (.lst (T.map aA)))(hT:T.length≤1000)(h4:ρ[4]?=some (some (.mr k)))(h8:ρ[8]?=some (some (.int rest))) :
  ay fz (aa (g2 ba (bU (aa (gC (.int 0)) af)) (cq (cb (ae 4)) d8 d9 aI)) af) ρ M=.ok (.int (bt T rest)) M:=by
 have hi:cb (ae 4) ρ M=.ok ⟨T.map aA,some k⟩ M:=by
  unfold cb ae;rw[h4];show(match M[k]? with|some (.lst ds)=>aE.ok (gn.mk ds (some k)) M|_=>.bad)=_;rw[hk]
 have ht:gn.ok ⟨T.map aA,some k⟩ M=true:=by
  show(match M[k]? with|some (.lst xs)=>dr xs (T.map aA)|_=>false)=true;rw[hk];exact bA _
 have c:=jz (f:=aA) (g:=fun q:Int×Int=>D.int (cG (cB T rest) q.1:Int)) (ge:=d9) (ρ:=ρ) ht T fun q _=>m4 (x:=.mr k) (y:=.int rest) (z:=.int q.1) (by show(match ρ[4]? with|some (some d)=>aE.ok d M|_=>.bad)=_;rw[h4]) (by show(match ρ[8]? with|some (some d)=>aE.ok d M|_=>.bad)=_;rw[h8]) (au (x:=aA q) (y:=.int 0) rfl rfl (eE (k:=0) rfl)) (kG hk hT)
 have gc:cq (cb (ae 4)) d8 d9 aI ρ M=.ok (.lst (T.map fun q:Int×Int=>D.int (cG (cB T rest) q.1:Int))) M:=by
  unfold cq;rw[hi,ah];dsimp only;rw[c,ah];unfold aI;rw[if_pos (cY (by rw[length_map];omega))]
 refine fM (M1:=M) (x:=.lst (D.int 0::T.map fun q:Int×Int=>D.int (cG (cB T rest) q.1:Int))) (au (x:=.lst [.int 0]) (gf rfl) gc ?_) ?_
 ·show(if [D.int 0].length+(T.map fun q:Int×Int=>D.int (cG (cB T rest) q.1:Int)).length≤sizeLine then aE.ok (D.lst ([D.int 0]++T.map fun q:Int×Int=>D.int (cG (cB T rest) q.1:Int))) M else .bad)=_;rw[if_pos (cY (by rw[length_map];show 1+_≤_;omega))];rfl
 ·show(match cL (T.map fun q:Int×Int=>D.int (cG (cB T rest) q.1:Int)) 0 with|some d=>aE.ok (D.int d) M|none=>.bad)=_;rw[show(T.map fun q:Int×Int=>D.int (cG (cB T rest) q.1:Int))=(T.map fun q:Int×Int=>(cG (cB T rest) q.1:Int)).map D.int by rw[map_map];rfl,f9];rfl
theorem fJ {T:List (Int×Int)}{rest B:Int}:bt T rest≤B↔0≤B∧∀q∈T,(cG (cB T rest) q.1:Int)≤B:=by
 unfold bt;rw[qy];constructor
 ·rintro ⟨a,b⟩;exact⟨a,fun q hq=>b _ (mem_map.mpr ⟨q,hq,rfl⟩)⟩
 ·rintro ⟨a,b⟩;refine⟨a,fun x hx=>?_⟩;obtain⟨q,hq,rfl⟩:=mem_map.mp hx;exact b q hq
theorem jU {T:List (Int×Int)}{rest many:Int}(h0:0≤many)(h:many<bt T rest):∃q,dQ (cB T rest) many=some q∧many<(cG (cB T rest) q.1:Int):=by
 unfold dQ;cases e:(cB T rest).find? fun q=>decide (many<(cG (cB T rest) q.1:Int)) with
 | some q=>exact⟨q,rfl,by have:=List.find?_some e;simpa using this⟩
 | none=>
  exfalso;have:bt T rest≤many:=fJ.mpr ⟨h0,fun q hq=>by
   have:=List.find?_eq_none.mp e (q.1,q.2+rest) (mem_map.mpr ⟨q,hq,rfl⟩);simp at this;exact this⟩
  omega
theorem jV {T:List (Int×Int)}{rest many:Int}(h:bt T rest≤many):dQ (cB T rest) many=none:=by
 unfold dQ;refine List.find?_eq_none.mpr fun q hq=>?_
 unfold cB at hq;obtain⟨q',hq',rfl⟩:=mem_map.mp hq;have:=(fJ.mp h).2 q' hq';simp;exact this
noncomputable abbrev ev (sc tn:Option D)(y:Nat→Option D):bg:=[sc,some (.mr 0),tn,y 3,y 4,y 5,y 6,y 7,y 8,y 9,y 10,y 11,y 12,y 13,y 14]
noncomputable def qO (T:List (Int×Int)):Prop:=T.length≤60∧∀q∈T,q.1≤q.2
theorem mT {a b c f:Int}(h0:0≤f)(h1:f<3):∃v,(v=a∨v=b∨v=c)∧∀M,aB (.lst [.int a,.int b,.int c]) (.int f) M=.ok (.int v) M:=by
 have:f=0∨f=1∨f=2:=by omega
 rcases this with rfl|rfl|rfl
 ·exact⟨a,.inl rfl,fun M=>cH (k:=0) rfl⟩
 ·exact⟨b,.inr (.inl rfl),fun M=>cH (k:=1) rfl⟩
 ·exact⟨c,.inr (.inr rfl),fun M=>cH (k:=2) rfl⟩
theorem eZ {l:List Int}{rest M:am}{ρ:bg}{m1 m2 m3 dv:Int}(t:cZ l rest M)(hi:ρ[1]?=some (some (.mr 0)))(h1:0<m1∧m1≤1000)(h2:0<m2∧m2≤1000)(h3:0<m3∧m3≤1000)(hd:0<dv∧dv≤1000)(h4:m3-1<2*dv)(h5:m1≤m2) :
  ∃(v:Nat) (M':am),(v:Int)<m2∧cZ l rest M'∧g2 aB (bU (aa (ao 2 ag (aa (ae 1) (aa (gC (.int m1)) af))) (aa (ao 2 ag (aa (ae 1) (aa (gC (.int m2)) af))) af))) (g2 bD (ao 2 ag (aa (ae 1) (aa (gC (.int m3)) af))) (gC (.int dv))) ρ M=.ok (.int (v:Int)) M':=by
 obtain⟨f1,N1,a1,b1,t1,e1⟩:=qI (ρ:=ρ) (i:=1) (many:=m1) t hi h1.1 (bW h1.1 (by omega));obtain⟨f2,N2,a2,b2,t2,e2⟩:=qI (ρ:=ρ) (i:=1) (many:=m2) t1 hi h2.1 (bW h2.1 (by omega));obtain⟨f3,N3,a3,b3,t3,e3⟩:=qI (ρ:=ρ) (i:=1) (many:=m3) t2 hi h3.1 (bW h3.1 (by omega));have q0:0≤f3 / dv:=Int.ediv_nonneg a3 (by omega);have q1:f3 / dv<2:=Int.ediv_lt_of_lt_mul hd.1 (by omega);obtain⟨v,hv,ev⟩:=rl (a:=.int f1) (b:=.int f2) q0 q1;obtain⟨n,hn,hn2⟩:∃n:Nat,v=.int n∧(n:Int)<m2:=by
  rcases hv with h|h
  ·obtain⟨n,rfl⟩:=Int.eq_ofNat_of_zero_le a1;exact⟨n,h,by omega⟩
  ·obtain⟨n,rfl⟩:=Int.eq_ofNat_of_zero_le a2;exact⟨n,h,by omega⟩
 subst hn;exact⟨n,N3,hn2,t3,au (f:=aB) (gf (ds:=[.int f1,.int f2]) (bc (e1 _ rfl) (bc (e2 _ rfl) rfl))) (tR (e3 _ rfl) hd.1 (by omega)) (ev N3)⟩
theorem j8 {l:List Int}{rest M:am}{sc tn:Option D}{y:Nat→Option D}{far:Int}{T:List (Int×Int)}(t:cZ l (rest++[.lst (T.map aA)]) M)(hf:0<far∧far≤150)(hT:T.length<1000)(h3:y 3=some (.int far))(h4:y 4=some (.mr (rest.length+1))) :
  ∃(q:Int×Int) (y':Nat→Option D) (M':am),q.1≤q.2∧cZ l (rest++[.lst ((T++[q]).map aA)]) M'∧(∀i,i≠6→i≠7→y' i=y i)∧eX (ev sc tn y) M=.ok (.nx (ev sc tn y')) M':=by
 have g3:∀(z:Nat→Option D) (N:am),z 3=some (.int far)→ae 3 (ev sc tn z) N=.ok (.int far) N:=fun z N hz=>by
  show(match (ev sc tn z)[3]? with|some (some d)=>aE.ok d N|_=>.bad)=_;rw[show(ev sc tn z)[3]?=some (z 3) from rfl,hz]
 have g4:∀(z:Nat→Option D) (N:am),z 4=some (.mr (rest.length+1))→ae 4 (ev sc tn z) N=.ok (.mr (rest.length+1)) N:=fun z N hz=>by
  show(match (ev sc tn z)[4]? with|some (some d)=>aE.ok d N|_=>.bad)=_;rw[show(ev sc tn z)[4]?=some (z 4) from rfl,hz]
 obtain⟨f,N1,a1,b1,t1,e1⟩:=qI (ρ:=ev sc tn y) (i:=1) (many:=far) t rfl hf.1 (bW hf.1 (by omega))
 let y1:Nat→Option D:=fun i=>if i=6 then some (.int f) else y i
 obtain⟨sz,N2,bs,t2,e2⟩:=eZ (ρ:=ev sc tn y1) (m1:=6) (m2:=51) (m3:=4) (dv:=3) t1 rfl (by decide) (by decide) (by decide) (by decide) (by decide) (by decide)
 let y2:Nat→Option D:=fun i=>if i=7 then some (.int (sz:Int)) else y1 i
 obtain⟨m2,t3⟩:=gm (d:=aA (f,min 200 (f+(sz:Int)))) t2;refine⟨(f,min 200 (f+(sz:Int))),y2,_,by show f≤min 200 (f+(sz:Int));omega,by rw[map_append];exact t3,fun i h6 h7=>by show(if i=7 then _ else if i=6 then _ else y i)=y i;rw[if_neg h7,if_neg h6],?_⟩;unfold eX;have k1:∀b:GS,ar (ax 6 (ao 2 ag (aa (ae 1) (aa (ae 3) af)))) b (ev sc tn y) M=b (ev sc tn y1) N1:=fun b=>aC (aW (e1 _ (g3 y M h3)))
 rw[k1];have k2:∀b:GS,ar (ax 7 (g2 aB (bU (aa (ao 2 ag (aa (ae 1) (aa (gC (.int 6)) af))) (aa (ao 2 ag (aa (ae 1) (aa (gC (.int 51)) af))) af))) (g2 bD (ao 2 ag (aa (ae 1) (aa (gC (.int 4)) af))) (gC (.int 3))))) b (ev sc tn y1) N1=b (ev sc tn y2) N2:=fun b=>aC (aW e2)
 rw[k2];refine kB (nJ (E:=T.map aA) (E1:=T.map aA) (M:=N2) (M1:=N2) (d:=aA (f,min 200 (f+(sz:Int)))) (g4 y2 N2 h4) m2 ?_ m2 (by rw[length_map];omega));refine iT (ds:=[.int f,.int (min 200 (f+(sz:Int)))]) (bc rfl (bc ?_ rfl));show aE.ok (D.int (if f+(sz:Int)<200 then f+(sz:Int) else 200)) N2=_;rw[show(if f+(sz:Int)<200 then f+(sz:Int) else 200)=min 200 (f+(sz:Int)) by split <;> omega]
noncomputable def rG (b:GS):GS:=(ar (ax 3 (g2 aB (bU (aa (gC (.int 12)) (aa (gC (.int 40)) (aa (gC (.int 150)) af)))) (ao 2 ag (aa (ae 1) (aa (gC (.int 3)) af))))) (ar (ax 4 (eN af)) (ar (ee (cD (aa (g2 aB (bU (aa (ao 2 ag (aa (ae 1) (aa (gC (.int 10)) af))) (aa (ao 2 ag (aa (ae 1) (aa (gC (.int 61)) af))) af))) (g2 bD (ao 2 ag (aa (ae 1) (aa (gC (.int 3)) af))) (gC (.int 2)))) af)) (bX 5) eX) b)))
theorem oD {l:List Int}{rest M:am}{sc tn:Option D}{y:Nat→Option D}(t:cZ l rest M):∃(T:List (Int×Int)) (y':Nat→Option D) (M':am),qO T∧y' 4=some (.mr (rest.length+1))∧cZ l (rest++[.lst (T.map aA)]) M'∧∀b:GS,rG b (ev sc tn y) M=b (ev sc tn y') M':=by
 obtain⟨f1,N1,a1,b1,t1,e1⟩:=qI (ρ:=ev sc tn y) (i:=1) (many:=3) t rfl (by decide) (bW (by decide) (by decide));obtain⟨far,hfar,ef⟩:=mT (a:=12) (b:=40) (c:=150) a1 b1;have hf:0<far∧far≤150:=by rcases hfar with h|h|h <;> omega
 let y1:Nat→Option D:=fun i=>if i=3 then some (.int far) else y i
 let y2:Nat→Option D:=fun i=>if i=4 then some (.mr (rest.length+1)) else y1 i
 have ln:N1.length=rest.length+1:=by obtain⟨i,c,_,rfl⟩:=t1;rfl
 have t2:cZ l (rest++[.lst []]) (N1++[.lst []]):=by obtain⟨i,c,hi,rfl⟩:=t1;exact⟨i,c,hi,rfl⟩
 obtain⟨n,N3,bn,t3,e3⟩:=eZ (ρ:=ev sc tn y2) (m1:=10) (m2:=61) (m3:=3) (dv:=2) t2 rfl (by decide) (by decide) (by decide) (by decide) (by decide) (by decide);obtain⟨ρ',N,⟨T,z,rfl,lT,oT,z3,z4,t4⟩,eg⟩:=fm (ds0:=aG 0 n) (s:=bX 5) (body:=eX)
  (W:=fun i ρ N=>∃(T:List (Int×Int)) (z:Nat→Option D),ρ=ev sc tn z∧T.length=i∧(∀q∈T,q.1≤q.2)∧z 3=some (.int far)∧z 4=some (.mr (rest.length+1))∧cZ l (rest++[.lst (T.map aA)]) N)
  (aG 0 n) 0 (fun j d hd ρ N hW=>by
   obtain⟨T,z,rfl,lT,oT,z3,z4,t4⟩:=hW;obtain⟨hj,rfl⟩:=dg hd
   let z1:Nat→Option D:=fun i=>if i=5 then some (.int (0+(j:Int))) else z i
   obtain⟨q,y',N',hq,t5,hy,e⟩:=j8 (sc:=sc) (tn:=tn) (y:=z1) t4 hf (by omega) z3 z4;refine⟨_,_,N',rfl,e,T++[q],y',rfl,by rw[length_append];simp;omega,fun p hp=>?_,by rw[hy 3 (by decide) (by decide)];exact z3,by rw[hy 4 (by decide) (by decide)];exact z4,t5⟩;rcases mem_append.mp hp with hp|hp
   ·exact oT p hp
   ·rw[mem_singleton.mp hp];exact hq)
  (ev sc tn y2) N3 ⟨[],y2,rfl,rfl,(fun q hq=>by cases hq),rfl,rfl,t3⟩
 rw[gX,Nat.zero_add] at lT;refine⟨T,z,N,⟨by omega,oT⟩,z4,t4,fun b=>?_⟩;unfold rG;have k1:∀b:GS,ar (ax 3 (g2 aB (bU (aa (gC (.int 12)) (aa (gC (.int 40)) (aa (gC (.int 150)) af)))) (ao 2 ag (aa (ae 1) (aa (gC (.int 3)) af))))) b (ev sc tn y) M=b (ev sc tn y1) N1:=fun b=>aC (aW (au (f:=aB) (gf (ds:=[.int 12,.int 40,.int 150]) rfl) (e1 _ rfl) (ef N1)))
 have k2:∀b:GS,ar (ax 4 (eN af)) b (ev sc tn y1) N1=b (ev sc tn y2) (N1++[.lst []]):=fun b=>by
  have m:=kJ (ρ:=ev sc tn y1) (M:=N1);rw[ln] at m;exact aC (aW m)
 rw[k1,k2];exact aC (d5 (t:=⟨aG 0 n,none⟩) (fE (bc e3 rfl) (by omega)) eg)
theorem vp {a b c:GE}{ρ:bg}{M:am}{x y z:Int}(ha:a ρ M=.ok (.int x) M)(hb:b ρ M=.ok (.int y) M)(hc:x≤y→c ρ M=.ok (.int z) M):jM ig gV a b c ρ M=.ok (.bl (decide (x≤y)&&decide (y<z))) M:=by
 unfold jM;rw[ha,ah,hb,ah];show(aE.ok (D.bl (decide (x≤y))) M).bind _=_;rw[ah]
 by_cases q:x≤y
 ·rw[decide_eq_true q];dsimp only;rw[hc q,ah];rfl
 ·rw[decide_eq_false q];rfl
theorem gv {sc tn:Option D}{y:Nat→Option D}{i:Nat}{d:D}{N:am}(h:(ev sc tn y)[i]?=some (some d)):ae i (ev sc tn y) N=.ok d N:=by
 unfold ae;rw[h]
theorem kO (n:Nat):∀T:List (Int×Int),aR (n+1) (T.map aA)=true
 | []=>rfl
 | _::T=>kO n T
theorem mZ:∀T:List (Int×Int),dz (T.map aA) (T.map aA)=true
 | []=>rfl
 | q::T=>by
  show(((q.1==q.1)&&((q.2==q.2)&&true))&&dz (T.map aA) (T.map aA))=true;rw[mZ T,beq_self_eq_true,beq_self_eq_true];rfl
theorem lG {T:List (Int×Int)}{k:Nat}{M:am}(hk:M[k]?=some (.lst (T.map aA))):bH true (.lst (T.map aA)) (.mr k) M=.ok (.bl false) M:=by
 unfold bH;have e:now (.mr k) M=.lst (T.map aA):=by
  show(match M[k]? with|some (.lst xs)=>D.lst xs|_=>.mr k)=_;rw[hk]
 rw[e];show(if(aR 39 (T.map aA)&&aR 39 (T.map aA))=true then aE.ok (D.bl (dz (T.map aA) (T.map aA) != true)) M else .bad)=_;rw[kO 38,mZ];rfl
theorem sD {a:GE}{ρ:bg}{M:am}{x y:D}{j:Nat}{d:D}(h:a ρ M=.ok (.tup [x,y]) M)(hj:[x,y][j]?=some d):g2 aB a (gC (.int j)) ρ M=.ok d M:=au h rfl (eE hj)
theorem nU {M:am}{x:Str}(h:PyData.strOk x=true):bH true (.str x) (.str x) M=.ok (.bl false) M:=pL (d:=.str x) h (by show(x==x)=true;exact beq_self_eq_true x) (fun _=>rfl) M
structure oP (T:List (Int×Int))(rest most:Int)(sl:List Nat):Prop where
 len:sl.length=T.length
 lt:∀p,p<T.length→((sl.getD p 0:Nat):Int)<most
 ap:∀p q,p<T.length→q<T.length→p≠q→sl.getD p 0=sl.getD q 0→eT T p+rest<fT T q∨eT T q+rest<fT T p
theorem pO {T:List (Int×Int)}{rest most:Int}{sl:List Nat}{en:List Int}(h:SI (fT (cB T rest)) (eT (cB T rest)) (cB T rest).length most (cx (cB T rest)).reverse sl en):oP T rest most sl:=by
 have ln:(cB T rest).length=T.length:=by unfold cB;rw[length_map]
 have mem:∀p,p<T.length→p∈(cx (cB T rest)).reverse:=fun p hp=>mem_reverse.mpr ((gz _).mem_iff.mpr (mem_range.mpr (by rw[ln];exact hp)))
 have fe:∀p,p<T.length→fT (cB T rest) p=fT T p∧eT (cB T rest) p=eT T p+rest:=fun p hp=>by
  unfold fT eT cB;rw[List.getD,List.getD,getElem?_map,getElem?_eq_getElem hp];exact⟨rfl,rfl⟩
 refine⟨h.len.trans ln,fun p hp=>?_,fun p q hp hq ne e=>?_⟩
 ·have:=(h.a p (mem p hp)).2.1;have:=h.d;omega
 ·have:=h.b p (mem p hp) q (mem q hq) ne e;rw[(fe p hp).1,(fe p hp).2,(fe q hq).1,(fe q hq).2] at this;exact this
structure En (y:Nat→Option D)(k:Nat)(rest:Nat)(most:Int)(sl:List Nat):Prop where
 a4:y 4=some (.mr k)
 a8:y 8=some (.int (rest:Int))
 a9:y 9=some (.int most)
 a12:y 12=some (.tup [.str "slots",.lst (bG sl)])
theorem iS {T:List (Int×Int)}{k p j:Nat}{N:am}{a b:GE}{ρ:bg}{d:D}(hk:N[k]?=some (.lst (T.map aA)))(hp:p<T.length)(ha:a ρ N=.ok (.mr k) N)(hb:b ρ N=.ok (.int p) N)(hd:[D.int (fT T p),.int (eT T p)][j]?=some d):g2 aB (g2 aB a b) (gC (.int j)) ρ N=.ok d N:=by
 have e:(T.map aA)[p]?=some (.tup [.int (fT T p),.int (eT T p)]):=by
  unfold fT eT;rw[getElem?_map,List.getD,getElem?_eq_getElem hp];rfl
 exact au (au ha hb (vn hk e)) rfl (eE hd)
theorem j5 {sl:List Nat}{p:Nat}{N:am}{a b:GE}{ρ:bg}(hp:p<sl.length)(ha:a ρ N=.ok (.tup [.str "slots",.lst (bG sl)]) N)(hb:b ρ N=.ok (.int p) N):g2 aB (g2 aB a (gC (.int 1))) b ρ N=.ok (.int ((sl.getD p 0:Nat):Int)) N:=by
 refine au (sD ha (j:=1) rfl) hb (cH ?_);unfold bG;rw[getElem?_map,getElem?_eq_getElem hp,List.getD,getElem?_eq_getElem hp];rfl
theorem v5 {T:List (Int×Int)}{k rest j p:Nat}{most:Int}{sl:List Nat}{N:am}{sc tn:Option D}{y:Nat→Option D}(hk:N[k]?=some (.lst (T.map aA)))(fn:oP T rest most sl)(en:En y k rest most sl)(hp:p<T.length)(hj:j<p)(h5:y 5=some (.int p))(h13:y 13=some (.int j)) :
  ∃y',(∀i,i≠14→y' i=y i)∧gM (ev sc tn y) N=.ok (.nx (ev sc tn y')) N:=by
 have v:∀(z:Nat→Option D) (i:Nat) (d:D),(ev sc tn z)[i]?=some (some d)→ae i (ev sc tn z) N=.ok d N:=fun z i d h=>gv h
 have e4:(ev sc tn y)[4]?=some (some (.mr k)):=by rw[←en.a4];rfl
 have e5:(ev sc tn y)[5]?=some (some (.int p)):=by rw[←h5];rfl
 have e8:(ev sc tn y)[8]?=some (some (.int (rest:Int))):=by rw[←en.a8];rfl
 have e13:(ev sc tn y)[13]?=some (some (.int j)):=by rw[←h13];rfl
 have c1:=vG (au (f:=gV) (au (f:=ba) (iS (a:=ae 4) (b:=ae 13) (p:=j) (j:=1) hk (by omega) (v y 4 _ e4) (v y 13 _ e13) rfl) (v y 8 _ e8) rfl) (iS (a:=ae 4) (b:=ae 5) (p:=p) (j:=0) hk hp (v y 4 _ e4) (v y 5 _ e5) rfl) rfl)
  fun _=>au (f:=gV) (au (f:=ba) (iS (a:=ae 4) (b:=ae 5) (p:=p) (j:=1) hk hp (v y 4 _ e4) (v y 5 _ e5) rfl) (v y 8 _ e8) rfl) (iS (a:=ae 4) (b:=ae 13) (p:=j) (j:=0) hk (by omega) (v y 4 _ e4) (v y 13 _ e13) rfl) rfl
 generalize hb:(decide (eT T j+(rest:Int)<fT T p)||decide (eT T p+(rest:Int)<fT T j))=bb at c1
 let y1:Nat→Option D:=fun i=>if i=14 then some (.bl bb) else y i
 refine⟨y1,fun i hi=>if_neg hi,?_⟩;have e5':(ev sc tn y1)[5]?=some (some (.int p)):=by rw[←h5];rfl
 have e12':(ev sc tn y1)[12]?=some (some (.tup [.str "slots",.lst (bG sl)])):=by rw[←en.a12];rfl
 have e13':(ev sc tn y1)[13]?=some (some (.int j)):=by rw[←h13];rfl
 have t:=kT (a:=aJ (g2 (bH false) (g2 aB (g2 aB (ae 12) (gC (.int 1))) (ae 13)) (g2 aB (g2 aB (ae 12) (gC (.int 1))) (ae 5)))) (b:=cf (bP (ae 14))) (ρ:=ev sc tn y1) (M:=N) (y:=!bb) (a6 (au (j5 (a:=ae 12) (b:=ae 13) (p:=j) (by rw[fn.len];omega) (v y1 12 _ e12') (v y1 13 _ e13')) (j5 (a:=ae 12) (b:=ae 5) (p:=p) (by rw[fn.len];exact hp) (v y1 12 _ e12') (v y1 5 _ e5')) (qw _ _ N))) fun _=>eU (sQ (x:=bb) (M1:=N) rfl)
 unfold gM;refine(aC (aW c1)).trans ((el (M1:=N) (t.trans ?_)).trans rfl)
 by_cases e:sl.getD j 0=sl.getD p 0
 ·have:=fn.ap j p (by omega) hp (by omega) e;have:bb=true:=by
   rw[←hb];rcases this with q|q
   ·rw[decide_eq_true q];rfl
   ·rw[decide_eq_true q,Bool.or_true]
  rw[this,Bool.not_true,Bool.and_false]
 ·rw[decide_eq_false (by omega)];rfl
theorem outer {T:List (Int×Int)}{k rest p:Nat}{most:Int}{sl:List Nat}{N:am}{sc tn:Option D}{y:Nat→Option D}(hk:N[k]?=some (.lst (T.map aA)))(fn:oP T rest most sl)(en:En y k rest most sl)(hp:p<T.length)(hT:T.length≤1000)(h5:y 5=some (.int p)) :
  ∃y',(∀i,i≠14→i≠13→y' i=y i)∧fc (ev sc tn y) N=.ok (.nx (ev sc tn y')) N:=by
 have e5:(ev sc tn y)[5]?=some (some (.int p)):=by rw[←h5];rfl
 have e9:(ev sc tn y)[9]?=some (some (.int most)):=by rw[←en.a9];rfl
 have e12:(ev sc tn y)[12]?=some (some (.tup [.str "slots",.lst (bG sl)])):=by rw[←en.a12];rfl
 have gs:g2 aB (g2 aB (ae 12) (gC (.int 1))) (ae 5) (ev sc tn y) N=.ok (.int ((sl.getD p 0:Nat):Int)) N:=j5 (by rw[fn.len];exact hp) (gv e12) (gv e5);have i1:bP (b9 "int" (g2 aB (g2 aB (ae 12) (gC (.int 1))) (ae 5))) (ev sc tn y) N=.ok true N:=by unfold bP b9;rw[gs];rfl
 have i2:bP (b9 "bool" (g2 aB (g2 aB (ae 12) (gC (.int 1))) (ae 5))) (ev sc tn y) N=.ok false N:=by unfold bP b9;rw[gs];rfl
 have lt:=fn.lt p hp;have i3:aJ (jM ig gV (gC (.int 0)) (g2 aB (g2 aB (ae 12) (gC (.int 1))) (ae 5)) (ae 9)) (ev sc tn y) N=.ok true N:=(a6 (vp rfl gs fun _=>gv e9)).trans (by rw[decide_eq_true (by omega),decide_eq_true lt];rfl);have t:=dj (x:=false) (y:=false) (eU i1) fun _=>dj (x:=false) (y:=false) i2 fun _=>eU i3
 obtain⟨ρ',N',⟨z,rfl,rfl,hz⟩,ef⟩:=fm (ds0:=aG 0 p) (s:=bX 13) (body:=gM) (W:=fun _ ρ N'=>∃z:Nat→Option D,ρ=ev sc tn z∧N'=N∧∀i,i≠14→i≠13→z i=y i) (aG 0 p) 0 (fun j d hd ρ N' hW=>by
  obtain⟨z,rfl,rfl,hz⟩:=hW;obtain⟨hj,rfl⟩:=dg hd
  let z1:Nat→Option D:=fun i=>if i=13 then some (.int (0+(j:Int))) else z i
  have zz:∀i,i≠14→i≠13→z1 i=y i:=fun i h1 h2=>by show(if i=13 then _ else z i)=_;rw[if_neg h2];exact hz i h1 h2
  obtain⟨y',hy,e⟩:=v5 (sc:=sc) (tn:=tn) (y:=z1) (j:=j) hk fn ⟨by rw[zz 4 (by decide) (by decide)];exact en.a4,by rw[zz 8 (by decide) (by decide)];exact en.a8,by rw[zz 9 (by decide) (by decide)];exact en.a9,by rw[zz 12 (by decide) (by decide)];exact en.a12⟩ hp hj (by rw[zz 5 (by decide) (by decide)];exact h5) (by show some (D.int (0+(j:Int)))=_;rw[Int.zero_add]);exact⟨_,_,_,rfl,e,y',rfl,rfl,fun i h1 h2=>by rw[hy i h1];exact zz i h1 h2⟩) (ev sc tn y) N ⟨y,rfl,rfl,fun _ _ _=>rfl⟩
 refine⟨z,hz,?_⟩;unfold fc;exact(aC ((el t).trans rfl)).trans (d5 (t:=⟨aG 0 p,none⟩) (fE (bc (gv e5) rfl) (by omega)) ef)
noncomputable def rH (b:GS):GS:=(ar (ax 8 (g2 aB (bU (aa (ao 2 ag (aa (ae 1) (aa (gC (.int 3)) af))) (aa (ao 2 ag (aa (ae 1) (aa (gC (.int 41)) af))) af))) (g2 bD (ao 2 ag (aa (ae 1) (aa (gC (.int 4)) af))) (gC (.int 3))))) (ar (ax 9 (ay fz (aa (g2 ba (bU (aa (gC (.int 0)) af)) (cq (cb (ae 4)) d8 d9 aI)) af))) (ar (ax 10 (ay fV (aa (gC (.int 0)) (aa (ay gE (aa (gC (.int 60)) (aa (g2 aB (bU (aa (ae 9) (aa (g2 f7 (ae 9) (gC (.int 1))) (aa (g2 ba (ae 9) (gC (.int 1))) (aa (ao 2 ag (aa (ae 1) (aa (gC (.int 61)) af))) af))))) (ao 2 ag (aa (ae 1) (aa (gC (.int 4)) af)))) af))) af)))) (ar (ax 11 (ay du (aa (ae 4) af))) (ar (ax 12 (ao 3 bw (aa (ae 11) (aa (ae 10) (aa (ae 8) af))))) b)))))
noncomputable def tW:GS:=(ar (dR (cm (cf (bP (b9 "tuple" (ae 12)))) (cm (aJ (g2 (bH true) (ay aX (aa (ae 12) af)) (gC (.int 2)))) (aJ (g2 (bH true) (ae 11) (ae 4))))) (bT (gC (.bl false))) bo) (dR (aJ (g2 kU (ae 9) (ae 10))) (dR (cm (aJ (g2 (bH true) (g2 aB (ae 12) (gC (.int 0))) (gC (.str "row")))) (cm (bP (b9 "bool" (g2 aB (ae 12) (gC (.int 1))))) (aJ (g2 ig (ao 3 ce (aa (ae 4) (aa (ae 8) (aa (g2 aB (ae 12) (gC (.int 1))) af)))) (ae 10))))) (bT (gC (.bl false))) bo) (dR (cm (aJ (g2 (bH true) (g2 aB (ae 12) (gC (.int 0))) (gC (.str "slots")))) (cm (cf (bP (b9 "list" (g2 aB (ae 12) (gC (.int 1)))))) (aJ (g2 (bH true) (ay aX (aa (g2 aB (ae 12) (gC (.int 1))) af)) (ay aX (aa (ae 4) af)))))) (bT (gC (.bl false))) (ee (cD (aa (ay aX (aa (ae 4) af)) af)) (bX 5) fc))))
theorem lU:iO=rG (rH tW):=rfl
theorem pP {a b c e f:Int}(h0:0≤f)(h1:f<4):∃v:Int,∀M,aB (.lst [.int a,.int b,.int c,.int e]) (.int f) M=.ok (.int v) M:=by
 have:f=0∨f=1∨f=2∨f=3:=by omega
 rcases this with rfl|rfl|rfl|rfl
 ·exact⟨a,fun M=>cH (k:=0) rfl⟩
 ·exact⟨b,fun M=>cH (k:=1) rfl⟩
 ·exact⟨c,fun M=>cH (k:=2) rfl⟩
 ·exact⟨e,fun M=>cH (k:=3) rfl⟩
inductive jj (T:List (Int×Int)) (rest:Nat) (many:Int):D→Prop
 | row (q:Int×Int) (h1:many<bt T rest) (h2:many<(cG (cB T rest) q.1:Int)):jj T rest many (.tup [.str "row",.int q.1])
 | slots (sl:List Nat) (h1:bt T rest≤many) (h2:oP T rest (bt T rest) sl):jj T rest many (.tup [.str "slots",.lst (bG sl)])
theorem o5 {l:List Int}{rm M:am}{sc tn:Option D}{y:Nat→Option D}{T:List (Int×Int)}(oT:qO T)(h4:y 4=some (.mr (rm.length+1)))(hp:rm.all iq=true)(t:cZ l (rm++[.lst (T.map aA)]) M) :
  ∃(rest:Nat) (many:Int) (F:D) (y':Nat→Option D) (M':am),jj T rest many F∧y' 4=some (.mr (rm.length+1))∧y' 8=some (.int (rest:Int))∧y' 9=some (.int (bt T rest))∧y' 10=some (.int many)∧y' 11=some (.lst (T.map aA))∧y' 12=some F∧cZ l (rm++[.lst (T.map aA)]) M'∧∀b:GS,rH b (ev sc tn y) M=b (ev sc tn y') M':=by
 obtain⟨rest,N1,br,t1,e1⟩:=eZ (ρ:=ev sc tn y) (m1:=3) (m2:=41) (m3:=4) (dv:=3) t rfl (by decide) (by decide) (by decide) (by decide) (by decide) (by decide)
 let y1:Nat→Option D:=fun i=>if i=8 then some (.int (rest:Int)) else y i
 have at_:∀{N:am},cZ l (rm++[.lst (T.map aA)]) N→N[rm.length+1]?=some (.lst (T.map aA)):=fun {N} tt=>(gm (d:=.non) tt).1
 have w4:∀z:Nat→Option D,z 4=y 4→(ev sc tn z)[4]?=some (some (.mr (rm.length+1))):=fun z hz=>by rw[show(ev sc tn z)[4]?=some (z 4) from rfl,hz,h4]
 have e2:=o8 (ρ:=ev sc tn y1) (rest:=(rest:Int)) (at_ t1) (by have:=oT.1;omega) (w4 y1 rfl) rfl
 let y2:Nat→Option D:=fun i=>if i=9 then some (.int (bt T rest)) else y1 i
 obtain⟨f3,N3,a3,b3,t3,e3⟩:=qI (ρ:=ev sc tn y2) (i:=1) (many:=61) t1 rfl (by decide) (bW (by decide) (by decide));obtain⟨f4,N4,a4,b4,t4,e4⟩:=qI (ρ:=ev sc tn y2) (i:=1) (many:=4) t3 rfl (by decide) (bW (by decide) (by decide));obtain⟨v,ev4⟩:=pP (a:=bt T rest) (b:=bt T rest-1) (c:=bt T rest+1) (e:=f3) a4 b4
 let many:Int:=if(if v<60 then v else 60)>0 then(if v<60 then v else 60) else 0
 have hm0:0≤many:=by
  show 0≤(if(if v<60 then v else 60)>0 then(if v<60 then v else 60) else(0:Int));generalize (if v<60 then v else 60)=u;split <;> omega
 let y3:Nat→Option D:=fun i=>if i=10 then some (.int many) else y2 i
 let y4:Nat→Option D:=fun i=>if i=11 then some (.lst (T.map aA)) else y3 i
 have sN:lQ N4:=lQ.pure (l6 t4 (by
  rw[all_append,hp];show(true&&((T.map aA).all (aK 30)&&true))=true;rw[all_map,show T.all (aK 30 ∘ aA)=true from all_eq_true.mpr fun _ _=>rfl];rfl))
 obtain⟨F,fF,e5⟩:∃F,jj T rest many F∧bw [.lst (T.map aA),.int many,.int (rest:Int)] N4=.ok F N4:=by
  by_cases c:many<bt T rest
  ·obtain⟨q,hq,hq2⟩:=jU hm0 c;exact⟨_,.row q c hq2,iL (by have:=oT.1;omega) hq⟩
  ·have c:bt T rest≤many:=by omega
   have ln:(cB T rest).length=T.length:=by unfold cB;rw[length_map]
   obtain⟨sl,en,si,e⟩:=nM (T:=cB T rest) (most:=bt T rest) (M:=N4) (by rw[ln];have:=oT.1;omega) (fun q hq=>by
    unfold cB at hq;obtain⟨q',h',rfl⟩:=mem_map.mp hq;have:=oT.2 q' h';show q'.1≤q'.2+(rest:Int);omega) (fJ.mp (Int.le_refl _)).1 (fun q hq=>by
    have:=(fJ.mp (Int.le_refl (bt T rest))).2;unfold cB at hq;obtain⟨q',h',rfl⟩:=mem_map.mp hq;exact this q' h') sN
   exact⟨_,.slots sl c (pO si),gH (by have:=oT.1;omega) (jV c) e⟩
 let y5:Nat→Option D:=fun i=>if i=12 then some F else y4 i
 refine⟨rest,many,F,y5,N4,fF,h4,rfl,rfl,rfl,rfl,rfl,t4,fun b=>?_⟩;unfold rH;have k1:∀b:GS,ar (ax 8 (g2 aB (bU (aa (ao 2 ag (aa (ae 1) (aa (gC (.int 3)) af))) (aa (ao 2 ag (aa (ae 1) (aa (gC (.int 41)) af))) af))) (g2 bD (ao 2 ag (aa (ae 1) (aa (gC (.int 4)) af))) (gC (.int 3))))) b (ev sc tn y) M=b (ev sc tn y1) N1:=fun b=>aC (aW e1)
 have k2:∀b:GS,ar (ax 9 (ay fz (aa (g2 ba (bU (aa (gC (.int 0)) af)) (cq (cb (ae 4)) d8 d9 aI)) af))) b (ev sc tn y1) N1=b (ev sc tn y2) N1:=fun b=>aC (aW e2)
 have k3:∀b:GS,ar (ax 10 (ay fV (aa (gC (.int 0)) (aa (ay gE (aa (gC (.int 60)) (aa (g2 aB (bU (aa (ae 9) (aa (g2 f7 (ae 9) (gC (.int 1))) (aa (g2 ba (ae 9) (gC (.int 1))) (aa (ao 2 ag (aa (ae 1) (aa (gC (.int 61)) af))) af))))) (ao 2 ag (aa (ae 1) (aa (gC (.int 4)) af)))) af))) af)))) b (ev sc tn y2) N1=b (ev sc tn y3) N4:=fun b=>by
  have kx:=au (f:=aB) (gf (ds:=[.int (bt T rest),.int (bt T rest-1),.int (bt T rest+1),.int f3]) (bc (g:=ae 9) rfl (bc (g:=g2 f7 (ae 9) (gC (.int 1))) (au rfl rfl rfl) (bc (g:=g2 ba (ae 9) (gC (.int 1))) (au rfl rfl rfl) (bc (e3 (gC (.int 61)) rfl) (r:=af) rfl))))) (e4 (gC (.int 4)) rfl) (ev4 N4);have km:ay gE (aa (gC (.int 60)) (aa (g2 aB (bU (aa (ae 9) (aa (g2 f7 (ae 9) (gC (.int 1))) (aa (g2 ba (ae 9) (gC (.int 1))) (aa (ao 2 ag (aa (ae 1) (aa (gC (.int 61)) af))) af))))) (ao 2 ag (aa (ae 1) (aa (gC (.int 4)) af)))) af)) (ev sc tn y2) N1=.ok (.int (if v<60 then v else 60)) N4:=by
   unfold ay;rw[bc rfl (bc kx rfl),ah];rfl
  refine aC (aW (d:=.int many) ?_);rw[show∀g:GA,ay fV g (ev sc tn y2) N1=(g (ev sc tn y2) N1).bind fV from fun _=>rfl,bc rfl (bc km rfl),ah];rfl
 have k4:∀b:GS,ar (ax 11 (ay du (aa (ae 4) af))) b (ev sc tn y3) N4=b (ev sc tn y4) N4:=fun b=>by
  refine aC (aW (fM (x:=.mr (rm.length+1)) (M1:=N4) (gv (w4 y3 rfl)) ?_));unfold du;dsimp only;rw[show aO (.mr (rm.length+1)) N4=some (T.map aA) from by unfold aO;dsimp only;rw[at_ t4]]
 rw[k1,k2,k3,k4];exact aC (aW (m4 rfl rfl rfl e5))
theorem pM {T:List (Int×Int)}{k rest:Nat}{many:Int}{F:D}{sc tn:Option D}{y:Nat→Option D}{N:am}(fF:jj T rest many F)(oT:qO T)(hk:N[k]?=some (.lst (T.map aA)))(h4:y 4=some (.mr k))(h8:y 8=some (.int (rest:Int)))(h9:y 9=some (.int (bt T rest)))(h10:y 10=some (.int many))(h11:y 11=some (.lst (T.map aA)))(h12:y 12=some F) :
  ∃y',tW (ev sc tn y) N=.ok (.nx (ev sc tn y')) N:=by
 have e4:(ev sc tn y)[4]?=some (some (.mr k)):=by rw[←h4];rfl
 have e8:(ev sc tn y)[8]?=some (some (.int (rest:Int))):=by rw[←h8];rfl
 have e9:(ev sc tn y)[9]?=some (some (.int (bt T rest))):=by rw[←h9];rfl
 have e10:(ev sc tn y)[10]?=some (some (.int many)):=by rw[←h10];rfl
 have e11:(ev sc tn y)[11]?=some (some (.lst (T.map aA))):=by rw[←h11];rfl
 have e12:(ev sc tn y)[12]?=some (some F):=by rw[←h12];rfl
 have lt:ay aX (aa (ae 4) af) (ev sc tn y) N=.ok (.int (T.length:Int)) N:=by
  refine fM (x:=.mr k) (M1:=N) (gv e4) ?_;unfold aX;dsimp only;rw[show aO (.mr k) N=some (T.map aA) from by unfold aO;dsimp only;rw[hk]];dsimp only;rw[length_map]
 have tw:∀a b:D,F=.tup [a,b]→cm (cf (bP (b9 "tuple" (ae 12)))) (cm (aJ (g2 (bH true) (ay aX (aa (ae 12) af)) (gC (.int 2)))) (aJ (g2 (bH true) (ae 11) (ae 4)))) (ev sc tn y) N=.ok false N:=fun a b eF=>by
  subst eF;have v:ae 12 (ev sc tn y) N=.ok (.tup [a,b]) N:=gv e12;have i1:bP (b9 "tuple" (ae 12)) (ev sc tn y) N=.ok true N:=by unfold bP b9;rw[v];rfl
  have l2:ay aX (aa (ae 12) af) (ev sc tn y) N=.ok (.int 2) N:=fM v rfl;exact dj (x:=false) (y:=false) (eU i1) fun _=>dj (x:=false) (y:=false) (a6 (au l2 rfl rfl)) fun _=>a6 (au (gv e11) (gv e4) (lG hk))
 have tg:=a6 (au (f:=kU) (gv (N:=N) e9) (gv e10) rfl);unfold tW;cases fF with
 | row q h1 h2=>
  have v:ae 12 (ev sc tn y) N=.ok (.tup [.str "row",.int q.1]) N:=gv e12;have i2:bP (b9 "bool" (g2 aB (ae 12) (gC (.int 1)))) (ev sc tn y) N=.ok false N:=by
   have w:g2 aB (ae 12) (gC (.int 1)) (ev sc tn y) N=.ok (.int q.1) N:=sD v (j:=1) rfl;unfold bP b9;rw[w];rfl
  have t2:=dj (x:=false) (y:=false) (a6 (au (f:=bH true) (sD v (j:=0) rfl) (b:=gC (.str "row")) (y:=.str "row") rfl (nU (by decide +kernel)))) fun _=>dj (x:=false) (y:=false) i2 fun _=>(a6 (au (f:=ig) (m4 (gv e4) (gv e8) (sD v (j:=1) rfl) (kG hk (by have:=oT.1;omega))) (gv e10) rfl)).trans (by rw[decide_eq_false (by omega)])
  refine⟨y,(aC ((el (tw _ _ rfl)).trans rfl)).trans ((jd (tg.trans (by rw[decide_eq_true h1]))).trans ((el t2).trans rfl))⟩
 | slots sl h1 h2=>
  have v:ae 12 (ev sc tn y) N=.ok (.tup [.str "slots",.lst (bG sl)]) N:=gv e12;have i2:bP (b9 "list" (g2 aB (ae 12) (gC (.int 1)))) (ev sc tn y) N=.ok true N:=by
   have w:g2 aB (ae 12) (gC (.int 1)) (ev sc tn y) N=.ok (.lst (bG sl)) N:=sD v (j:=1) rfl;unfold bP b9;rw[w];rfl
  have l2:ay aX (aa (g2 aB (ae 12) (gC (.int 1))) af) (ev sc tn y) N=.ok (.int (T.length:Int)) N:=by
   refine fM (sD v (j:=1) rfl) ?_;show aE.ok (D.int ((bG sl).length:Int)) N=_;unfold bG;rw[length_map,h2.len]
  have t2:=dj (x:=false) (y:=false) (a6 (au (f:=bH true) (sD v (j:=0) rfl) (b:=gC (.str "slots")) (y:=.str "slots") rfl (nU (by decide +kernel)))) fun _=>dj (x:=false) (y:=false) (eU i2) fun _=>(a6 (au (f:=bH true) l2 lt (vN _ _ N))).trans (by rw[decide_eq_true rfl];rfl)
  obtain⟨ρ',N',⟨z,rfl,rfl,_⟩,ef⟩:=fm (ds0:=aG 0 T.length) (s:=bX 5) (body:=fc) (W:=fun _ ρ N'=>∃z:Nat→Option D,ρ=ev sc tn z∧N'=N∧∀i,i≠14→i≠13→i≠5→z i=y i) (aG 0 T.length) 0 (fun j d hd ρ N' hW=>by
   obtain⟨z,rfl,rfl,hz⟩:=hW;obtain⟨hj,rfl⟩:=dg hd
   let z1:Nat→Option D:=fun i=>if i=5 then some (.int (0+(j:Int))) else z i
   have zz:∀i,i≠14→i≠13→i≠5→z1 i=y i:=fun i a b c=>by show(if i=5 then _ else z i)=_;rw[if_neg c];exact hz i a b c
   obtain⟨y',hy,e⟩:=outer (sc:=sc) (tn:=tn) (y:=z1) (p:=j) (most:=bt T rest) (sl:=sl) hk h2 ⟨by rw[zz 4 (by decide) (by decide) (by decide)];exact h4,by rw[zz 8 (by decide) (by decide) (by decide)];exact h8,by rw[zz 9 (by decide) (by decide) (by decide)];exact h9,by rw[zz 12 (by decide) (by decide) (by decide)];exact h12⟩ hj (by have:=oT.1;omega) (by show some (D.int (0+(j:Int)))=_;rw[Int.zero_add]);exact⟨_,_,_,rfl,e,y',rfl,rfl,fun i a b c=>by rw[hy i a b];exact zz i a b c⟩) (ev sc tn y) N ⟨y,rfl,rfl,fun _ _ _ _=>rfl⟩
  refine⟨z,(aC ((el (tw _ _ rfl)).trans rfl)).trans ((el (tg.trans (by rw[decide_eq_false (by omega)]))).trans ((el t2).trans (d5 (t:=⟨aG 0 T.length,none⟩) (fE (bc lt rfl) (by have:=oT.1;omega)) ef)))⟩
theorem law_true (ns:List Int)(hl:ns.length≤63):∃M',kI [.ro (ns.map D.int)] []=.ok (.bl true) M':=by
 generalize hsc:D.ro (ns.map D.int)=sc;have l3:(3:Nat)≤sizeLine:=cY (by decide);have t0:cZ ns [] [tp ns 0 0]:=⟨0,0,by decide,rfl⟩;have s1:∀b:GS,ar (ax 1 (eN (aa (ay du (aa (ae 0) af)) (aa (gC (.int 0)) (aa (gC (.int 0)) af))))) b [some sc,none,none,none,none,none,none,none,none,none,none,none,none,none,none] []=b (ev (some sc) none fun _=>none) [tp ns 0 0]:=fun b=>by
  subst hsc;refine aC (aW (d:=.mr 0) (M1:=[tp ns 0 0]) ?_);show(if [D.lst (ns.map D.int),.int 0,.int 0].length≤sizeLine then aE.ok (D.mr 0) [MO.lst [D.lst (ns.map D.int),.int 0,.int 0]] else .bad)=_;rw[if_pos (show [D.lst (ns.map D.int),.int 0,.int 0].length≤sizeLine from l3)];rfl
 obtain⟨ρ',N,_,ef⟩:=fm (ds0:=aG 0 3) (s:=bX 2) (body:=iO) (W:=fun _ ρ N=>∃(tn:Option D) (y:Nat→Option D) (rm:am),ρ=ev (some sc) tn y∧rm.all iq=true∧cZ ns rm N) (aG 0 3) 0 (fun j dd hd ρ N hW=>by
  obtain⟨tn,y,rm,rfl,hr,t⟩:=hW;obtain⟨hj,rfl⟩:=dg hd;rw[Int.zero_add];obtain⟨T,y1,N1,oT,h4,t1,eA⟩:=oD (sc:=some sc) (tn:=some (.int j)) (y:=y) t;obtain⟨rest,many,F,y2,N2,fF,g4,g8,g9,g10,g11,g12,t2,eB⟩:=o5 (sc:=some sc) (tn:=some (.int j)) oT h4 hr t1;obtain⟨y3,eC⟩:=pM (sc:=some sc) (tn:=some (.int j)) fF oT (gm (d:=.non) t2).1 g4 g8 g9 g10 g11 g12;refine⟨_,_,N2,rfl,?_,some (.int j),y3,rm++[.lst (T.map aA)],rfl,?_,t2⟩
  ·rw[lU];exact(eA _).trans ((eB _).trans eC)
  ·rw[all_append,hr];show(true&&((T.map aA).all (aK 30)&&true))=true;rw[all_map,show T.all (aK 30 ∘ aA)=true from all_eq_true.mpr fun _ _=>rfl];rfl) (ev (some sc) none fun _=>none) [tp ns 0 0] ⟨none,fun _=>none,[],rfl,rfl,t0⟩
 refine⟨N,?_⟩;show bv (k6 [some sc,none,none,none,none,none,none,none,none,none,none,none,none,none,none] [])=_;unfold k6;rw[s1];refine congrArg bv ((aC (d5 (t:=⟨aG 0 3,none⟩) (fE (n:=3) (bc rfl rfl) (by decide)) ef)).trans (d7 rfl))
end K18
theorem PySem.Challenge.cw_glowrow_k18_slots_or_a_row_holds : PySem.Challenge.rw_glowrow_k18_slots_or_a_row.Holds :=
 K18.pre K18.law_true
