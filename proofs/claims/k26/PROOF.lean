import PyProof.Rows.All
import Wide.All
import OpenK.AllK
import Wide.FinOn
import Lean
import PyProof.EqAt
import PyProof.EqKinds
import PyProof.TupleCall
import PyProof.Draws
import PyProof.EnumMake
import KE.KLam
import KE.KMinKey
import PyProof.StrCalls2
import PyProof.Rows.StrIndexOr
import PyProof.CollectIter
import PyProof.ListStr
import PyProof.Rows.All
import Wide.All
import OpenK.AllK
import Wide.FinOn
import PySem.Challenge.RW_glowrow_k26_scores_gone
set_option Elab.async false
set_option linter.all false
set_option maxRecDepth 100000
/-! THE HAND LAYER, for ints, bools, texts, own classes, LISTS and tuples (index, slices, in, append, pop ..), calls, loops. Paste it whole ahead of your own text; what your proof does not reach may be deleted. -/
namespace L2
open PySem PySem.Spec PyProof.Rows

/-- a key: an int or a str -/
abbrev Key := Sum Int Str
def keyIs : Key → Value → Bool
  | .inl k, v => Value.isInt k v
  | .inr x, v => Value.isStrOf x v
def keyH (w : World) : Key → Int
  | .inl k => hashInt k
  | .inr x => hashStr w x
theorem keyIs_shape : ∀ {k : Key} {v : Value}, keyIs k v = true → (∃ i t, k = Sum.inl i ∧ v = Value.int i t) ∨ (∃ x t, k = Sum.inr x ∧ v = Value.str x t)
  | .inl i, v, h => by
    obtain ⟨t, e⟩ := Value.isInt_shape (k := i) (v := v) h
    exact .inl ⟨i, t, rfl, e⟩
  | .inr x, v, h => by
    obtain ⟨t, e⟩ := Value.isStrOf_shape (x := x) (v := v) h
    exact .inr ⟨x, t, rfl, e⟩
theorem key_ll (a b : Int) : decide ((Sum.inl a : Key) = Sum.inl b) = (a == b) := by
  by_cases e : a = b
  · subst e; simp
  · have h : ¬ (Sum.inl a : Key) = Sum.inl b := fun q => e (Sum.inl.inj q)
    rw [decide_eq_false h]
    exact (beq_eq_false_iff_ne.mpr e).symm
theorem key_rr (a b : Str) : decide ((Sum.inr a : Key) = Sum.inr b) = decide (a = b) := by
  by_cases e : a = b
  · subst e; simp
  · have h : ¬ (Sum.inr a : Key) = Sum.inr b := fun q => e (Sum.inr.inj q)
    rw [decide_eq_false h, decide_eq_false e]
theorem key_lr (a : Int) (b : Str) : decide ((Sum.inl a : Key) = Sum.inr b) = false := decide_eq_false (fun q => nomatch q)
theorem key_rl (a : Str) (b : Int) : decide ((Sum.inr a : Key) = Sum.inl b) = false := decide_eq_false (fun q => nomatch q)

def mixKind (prog : Program) (w : World) : PySem.KeyKind prog w Key where
  is := keyIs
  hash := keyH w
  inj := fun v a b ha hb => by
    rcases keyIs_shape ha with ⟨i, t, rfl, rfl⟩ | ⟨x, t, rfl, rfl⟩
    · rcases keyIs_shape hb with ⟨j, u, rfl, e⟩ | ⟨y, u, rfl, e⟩
      · injection e with e1 _; rw [e1]
      · exact nomatch e
    · rcases keyIs_shape hb with ⟨j, u, rfl, e⟩ | ⟨y, u, rfl, e⟩
      · exact nomatch e
      · injection e with e1 _; rw [e1]
  byValue := fun k v h => by
    rcases keyIs_shape h with ⟨i, t, rfl, rfl⟩ | ⟨x, t, rfl, rfl⟩ <;> rfl
  pyHash := fun hv h => by
    rcases keyIs_shape hv with ⟨i, t, rfl, rfl⟩ | ⟨x, t, rfl, rfl⟩
    · exact wpAny_pyHash_int h
    · exact wpAny_pyHash_str h
  eqBool := fun hu hv h => by
    rcases keyIs_shape hu with ⟨i, t, rfl, rfl⟩ | ⟨x, t, rfl, rfl⟩
    · rcases keyIs_shape hv with ⟨j, u, rfl, rfl⟩ | ⟨y, u, rfl, rfl⟩
      · rw [key_ll] at h; exact wpAny_eqBool_int h
      · rw [key_lr] at h; exact SeqAt.EqAt.int_str i t y u _ _ _ _ h
    · rcases keyIs_shape hv with ⟨j, u, rfl, rfl⟩ | ⟨y, u, rfl, rfl⟩
      · rw [key_rl] at h; exact SeqAt.EqAt.str_int x t j u _ _ _ _ h
      · rw [key_rr] at h; exact wpAny_eqBool_str h
  «strs» := fun k x t v h => by
    rcases keyIs_shape h with ⟨i, u, rfl, e⟩ | ⟨y, u, rfl, e⟩
    · exact nomatch e
    · injection e with e1 _
      subst e1
      cases v <;> rfl

end L2

namespace L2
open PySem PySem.Spec PyProof.Rows

/-- a value, without the heap -/
inductive V where
  | non | bl (b : Bool) | int (i : Int) | str (x : Str) | byt (b : Array UInt8) | flt (b : UInt64) | ref (a : Addr) | ty (n : String)
  deriving DecidableEq

def RelV : V → Value → Prop
  | .non, u => u = Value.none
  | .bl b, u => u = Value.bool b
  | .int i, u => ∃ t, u = Value.int i t
  | .str x, u => ∃ t, u = Value.str x t
  | .byt b, u => ∃ t, u = Value.bytes b t
  | .flt b, u => ∃ t, u = Value.float b t
  | .ref a, u => u = Value.ref a
  | .ty n, u => u = Value.type n

abbrev Vals : List V → List Value → Prop := Paired RelV
theorem Vals.length {xs : List V} {us : List Value} (r : Vals xs us) : xs.length = us.length := Paired.length r
theorem Vals.get : ∀ {xs : List V} {us : List Value} {i : Nat} {x : V}, Vals xs us → xs[i]? = some x → ∃ u, us[i]? = some u ∧ RelV x u
  | _, _, _, _, .nil, e => by simp at e
  | _, _, 0, _, .cons r _, e => by simp at e; subst e; exact ⟨_, rfl, r⟩
  | _, _, i + 1, x, .cons _ t, e => by
    obtain ⟨u, h1, h2⟩ := Vals.get (i := i) (x := x) t (by simpa using e)
    exact ⟨u, by simpa using h1, h2⟩
theorem Vals.set {x : V} {u : Value} (r : RelV x u) : ∀ {xs : List V} {us : List Value} (i : Nat), Vals xs us → Vals (xs.set i x) (us.set i u)
  | _, _, _, .nil => .nil
  | _, _, 0, .cons _ t => .cons r t
  | _, _, i + 1, .cons q t => .cons q (Vals.set r i t)
theorem Vals.append : ∀ {xs ys : List V} {us ws : List Value}, Vals xs us → Vals ys ws → Vals (xs ++ ys) (us ++ ws)
  | _, _, _, _, .nil, s => s
  | _, _, _, _, .cons r t, s => .cons r (Vals.append t s)
theorem Vals.take : ∀ {xs : List V} {us : List Value} (n : Nat), Vals xs us → Vals (xs.take n) (us.take n)
  | _, _, 0, _ => .nil
  | _, _, _ + 1, .nil => .nil
  | _, _, n + 1, .cons r t => .cons r (Vals.take n t)
theorem Vals.drop : ∀ {xs : List V} {us : List Value} (n : Nat), Vals xs us → Vals (xs.drop n) (us.drop n)
  | _, _, 0, r => r
  | _, _, _ + 1, .nil => .nil
  | _, _, n + 1, .cons _ t => Vals.drop n t
def RelO : Option V → Option Value → Prop
  | some v, some u => RelV v u
  | none, none => True
  | _, _ => False
def KV {κ : Type} : List (κ × V) → List (κ × Value) → Prop := Paired fun (p : κ × V) (q : κ × Value) => p.1 = q.1 ∧ RelV p.2 q.2

/-- a key of a dict (00_mix): an int or a text -/
def kV : Key → V
  | .inl i => .int i
  | .inr x => .str x

/-- what stands at a tracked address -/
inductive HO where
  /-- a list -/
  | lst (xs : List V)
  /-- a tuple (never changes) -/
  | tup (xs : List V)
  /-- a dict whose keys are ints and texts; one whose keys are tuples of ints and texts (the empty one is both) -/
  | dK (kvs : List (Key × V)) | dT (kvs : List (List Key × V))
  /-- a set of ints: its members, its size -/
  | set (S : Int → Bool) (n : Nat)
  /-- an instance of the class at C, its dict at dx, its attributes -/
  | ins (C dx : Addr) (fs : List (Str × V))
  /-- the dict of the instance at x -/
  | own (x : Addr)
  /-- the dict of an exception -/
  | xd (fs : List (Str × V))
  /-- a bound method, f of x -/
  | met (f x : Addr)
  /-- a range object lo, lo + 1, .. below hi -/
  | rng (lo hi : Int)
  /-- a thing that is known to the object (the script; a dict while a loop walks it): read, never written while it is so -/
  | frz (o : Obj) (u : HO)
  /-- a code object's table -/
  | tbl (ps : Array Value)
  /-- any other thing, by what is true of its one object (a def of one's own: SetO a S n := HO.ext fun h => ..) -/
  | ext (φ : Heap → Prop)

abbrev Hp := Addr → Option HO
def upd (H : Hp) (a : Addr) (o : HO) : Hp := fun b => if b = a then some o else H b
theorem upd_same {H : Hp} {a : Addr} {o : HO} : upd H a o a = some o := by unfold upd; rw [if_pos rfl]
theorem upd_ne {H : Hp} {a b : Addr} {o : HO} (h : b ≠ a) : upd H a o b = H b := by unfold upd; rw [if_neg h]
/-- two objects of different content stand apart -/
theorem ne_of {H : Hp} {a b : Addr} {o u : HO} (h : H a = some o) (h' : H b = some u) (d : o ≠ u) : a ≠ b := by
  intro e; subst e; rw [h] at h'; exact d (Option.some.inj h')
theorem ne_of_none {H : Hp} {a b : Addr} {o : HO} (h : H a = some o) (h' : H b = none) : a ≠ b := by
  intro e; subst e; rw [h] at h'; cases h'

section
variable (P : Program) (w : World)
def ObjOk (H : Hp) (h : Heap) (a : Addr) : HO → Prop
  | .lst xs => xs.length ≤ sizeLine ∧ ∃ (its : List Value) (n : Nat), Vals xs its ∧ h.get? a = some { cls := .type "list", data := .seq its.toArray n }
  | .tup xs => xs.length ≤ sizeLine ∧ ∃ its : List Value, Vals xs its ∧ IsTup h a its.toArray
  | .dK kvs => kvs.length ≤ sizeLine ∧ (a == sysModules) = false ∧ ∃ vs, KV kvs vs ∧ h.DictOf (mixKind P w) a vs
  | .dT kvs => kvs.length ≤ sizeLine ∧ (a == sysModules) = false ∧ ∃ xs : List (List Key × Addr × Value),
      Paired (fun (p : List Key × V) (q : List Key × Addr × Value) => p.1 = q.1 ∧ H q.2.1 = some (.tup (p.1.map kV)) ∧ RelV p.2 q.2.2) kvs xs ∧
      ∃ o es ep, h.get? a = some o ∧ o.ExactDict ∧ o.data = .dict es ep ∧ es.toList = xs.map (entryOfKey (tupleKind (mixKind P w))) ∧ (xs.map (·.1)).Nodup
  | .set S n => h.SetOf (intKind P w) a S n
  | .ins C dx fs => H dx = some (.own a) ∧ fs.length ≤ 1000 ∧ dx ≠ a ∧ h.get? a = some (PySem.W.instObj C dx) ∧
      ∃ mA, h.Ns1 dx mA ∧ (∀ f, RelO (fs.lookup f) (mA f)) ∧ PySem.Within mA (fs.map (·.1))
  | .own _ => ∃ o, h.get? a = some o
  | .xd fs => ∃ mA, h.Ns1 a mA ∧ ∀ f, RelO (fs.lookup f) (mA f)
  | .rng lo hi => ∃ t u v, h.get? a = some { cls := .type "range", data := .fields #[.int lo t, .int hi u, .int 1 v] }
  | .frz o u => h.get? a = some o ∧ ObjOk H h a u
  | .tbl ps => h.get? a = some { cls := .none, data := .fields ps }
  | .met f x => h.get? a = some (PySem.W.methodObj (.ref f) (.ref x))
  | .ext φ => φ h ∧ (∃ o, h.get? a = some o) ∧ ∀ h1 h2 : Heap, φ h1 → (∀ o, h1.get? a = some o → h2.get? a = some o) → φ h2
/-- the abstract heap is held -/
def HOk (H : Hp) (h : Heap) : Prop := ∀ a o, H a = some o → ObjOk P w H h a o
end

section
variable {P : Program} {w : World} {H H' : Hp} {h h' : Heap} {a : Addr} {o : HO}
theorem ObjOk.lt (x : ObjOk P w H h a o) : a < h.objs.size := by
  cases o with
  | lst xs => obtain ⟨_, _, _, _, e⟩ := x; exact Heap.lt_size e
  | tup xs => obtain ⟨_, _, _, p⟩ := x; exact p.lt
  | dK kvs => obtain ⟨_, _, _, _, o, _, _, e, _⟩ := x; exact Heap.lt_size e
  | dT kvs => obtain ⟨_, _, _, _, o, _, _, e, _⟩ := x; exact Heap.lt_size e
  | set S n => obtain ⟨o, _, _, _, e, _⟩ := x; exact Heap.lt_size e
  | ins C dx fs => obtain ⟨_, _, _, e, _⟩ := x; exact Heap.lt_size e
  | own y => obtain ⟨_, e⟩ := x; exact Heap.lt_size e
  | xd fs => obtain ⟨_, ⟨_, _, _, e, _⟩, _⟩ := x; exact Heap.lt_size e
  | rng lo hi => obtain ⟨_, _, _, e⟩ := x; exact Heap.lt_size e
  | frz ob u => obtain ⟨e, _⟩ := x; exact Heap.lt_size e
  | tbl ps => exact Heap.lt_size (show h.get? a = some _ from x)
  | met f y => exact Heap.lt_size (show h.get? a = some _ from x)
  | ext φ => obtain ⟨_, ⟨_, e⟩, _⟩ := x; exact Heap.lt_size e
theorem Paired.mapP {α β : Type} {F G : α → β → Prop} : ∀ {l₁ : List α} {l₂ : List β}, Paired F l₁ l₂ → (∀ a b, F a b → G a b) → Paired G l₁ l₂
  | _, _, .nil, _ => .nil
  | _, _, .cons r t, f => .cons (f _ _ r) (Paired.mapP t f)
/-- what an object's description leans on: its own object, its own dict, the tuples -/
theorem ObjOk.stay (x : ObjOk P w H h a o) (k : ∀ b u, (b = a ∨ H b = some (.own a)) → h.get? b = some u → h'.get? b = some u)
    (ho : ∀ b, H b = some (.own a) → H' b = some (.own a)) (ht : ∀ b xs, H b = some (.tup xs) → H' b = some (.tup xs)) : ObjOk P w H' h' a o := by
  induction o with
  | lst xs => obtain ⟨z, its, n, r, e⟩ := x; exact ⟨z, its, n, r, k _ _ (.inl rfl) e⟩
  | tup xs => obtain ⟨z, its, r, ob, e, c⟩ := x; exact ⟨z, its, r, ob, k _ _ (.inl rfl) e, c⟩
  | dK kvs => obtain ⟨z, y, vs, r, ob, es, ep, e, c⟩ := x; exact ⟨z, y, vs, r, ob, es, ep, k _ _ (.inl rfl) e, c⟩
  | dT kvs =>
    obtain ⟨z, y, xs, r, ob, es, ep, e, c⟩ := x
    exact ⟨z, y, xs, Paired.mapP r fun p q z => ⟨z.1, ht _ _ z.2.1, z.2.2⟩, ob, es, ep, k _ _ (.inl rfl) e, c⟩
  | set S n => obtain ⟨ob, es, ep, t, e, c⟩ := x; exact ⟨ob, es, ep, t, k _ _ (.inl rfl) e, c⟩
  | ins C dx fs =>
    obtain ⟨d, z, ne, e, mA, ⟨od, es, ep, e2, c⟩, r⟩ := x
    exact ⟨ho _ d, z, ne, k _ _ (.inl rfl) e, mA, ⟨od, es, ep, k _ _ (.inr d) e2, c⟩, r⟩
  | own y => obtain ⟨ob, e⟩ := x; exact ⟨ob, k _ _ (.inl rfl) e⟩
  | xd fs => obtain ⟨mA, ⟨od, es, ep, e, c⟩, r⟩ := x; exact ⟨mA, ⟨od, es, ep, k _ _ (.inl rfl) e, c⟩, r⟩
  | rng lo hi => obtain ⟨t, u, v, e⟩ := x; exact ⟨t, u, v, k _ _ (.inl rfl) e⟩
  | frz ob u ih => obtain ⟨e, q⟩ := x; exact ⟨k _ _ (.inl rfl) e, ih q⟩
  | tbl ps =>
    have e : h.get? a = some { cls := .none, data := .fields ps } := x
    show h'.get? a = some { cls := .none, data := .fields ps }
    exact k a _ (.inl rfl) e
  | met f y =>
    have e : h.get? a = some (PySem.W.methodObj (.ref f) (.ref y)) := x
    show h'.get? a = some (PySem.W.methodObj (.ref f) (.ref y))
    exact k a _ (.inl rfl) e
  | ext φ => obtain ⟨p, ⟨o, e⟩, st⟩ := x; exact ⟨st _ _ p fun o q => k _ _ (.inl rfl) q, ⟨o, k _ _ (.inl rfl) e⟩, st⟩
theorem HOk.lt (x : HOk P w H h) (e : H a = some o) : a < h.objs.size := (x a o e).lt
theorem HOk.fresh (x : HOk P w H h) (e : h.objs.size ≤ a) : H a = none := by
  cases q : H a with
  | none => rfl
  | some u => exact absurd (Nat.lt_of_lt_of_le (x.lt q) e) (Nat.lt_irrefl _)
/-- every object of the heap is kept -/
theorem HOk.kept (x : HOk P w H h) (k : ∀ b u, h.get? b = some u → h'.get? b = some u) : HOk P w H h' := fun a o e =>
  (x a o e).stay (fun b u _ q => k b u q) (fun _ q => q) fun _ _ q => q
/-- a new object is laid and tracked -/
theorem HOk.laid (x : HOk P w H h) (k : ∀ b u, h.get? b = some u → h'.get? b = some u) (hp : h.objs.size ≤ a) (new : ObjOk P w (upd H a o) h' a o) : HOk P w (upd H a o) h' := fun b u e => by
  have hn := x.fresh hp
  by_cases hb : b = a
  · subst hb; rw [upd_same] at e; cases e; exact new
  · rw [upd_ne hb] at e
    exact (x b u e).stay (fun c v _ q => k c v q) (fun c q => by rw [upd_ne (ne_of_none q hn)]; exact q) fun c xs q => by rw [upd_ne (ne_of_none q hn)]; exact q
end

/-- what may be read as u: it is u, or a known u -/
def Rd (H : Hp) (a : Addr) (u : HO) : Prop := H a = some u ∨ ∃ o, H a = some (.frz o u)
theorem Rd.of {H : Hp} {a : Addr} {u : HO} (h : H a = some u) : Rd H a u := .inl h
theorem Rd.ok {P : Program} {w : World} {H : Hp} {h : Heap} {a : Addr} {u : HO} (r : Rd H a u) (x : HOk P w H h) : ObjOk P w H h a u := by
  rcases r with r | ⟨o, r⟩
  · exact x a u r
  · obtain ⟨_, q⟩ := x a _ r
    exact q
/-- what may be written -/
def Mut : Option HO → Prop
  | some (.lst _) => True
  | some (.dK _) => True
  | some (.dT _) => True
  | some (.set _ _) => True
  | some (.ins _ _ _) => True
  | some (.ext _) => True
  | _ => False
section
variable {P : Program} {w : World} {H : Hp} {h h' : Heap} {x e : Addr} {o' : HO}
/-- the object at e is changed: x itself, or the dict of the instance x -/
theorem HOk.write (ok : HOk P w H h) (mu : Mut (H x)) (he : e = x ∨ H e = some (.own x)) (k : ∀ b u, b ≠ e → h.get? b = some u → h'.get? b = some u) (heo : ∃ u, h'.get? e = some u)
    (new : ObjOk P w (upd H x o') h' x o') : HOk P w (upd H x o') h' := fun b u q => by
  have nown : ∀ c y, H c = some (.own y) → c ≠ x := fun c y r z => by subst z; rw [r] at mu; exact mu
  have ntup : ∀ c xs, H c = some (.tup xs) → c ≠ x := fun c xs r z => by subst z; rw [r] at mu; exact mu
  by_cases hb : b = x
  · subst hb; rw [upd_same] at q; cases q; exact new
  · rw [upd_ne hb] at q
    by_cases hbe : b = e
    · have q' : H b = some (.own x) := by
        rcases he with z | z
        · exact absurd (hbe.trans z) hb
        · rw [hbe]; exact z
      rw [q] at q'; cases q'
      obtain ⟨v, hv⟩ := heo
      exact ⟨v, by rw [hbe]; exact hv⟩
    · refine (ok b u q).stay (fun c v hc r => k c v ?_ r) (fun c r => by rw [upd_ne (nown c b r)]; exact r) fun c xs r => by rw [upd_ne (ntup c xs r)]; exact r
      rcases hc with rfl | hc
      · exact hbe
      · rintro rfl
        rcases he with z | z
        · exact nown c b hc z
        · rw [hc] at z; cases z; exact hb rfl
end

/-! ### kept unless tracked; of the frames at fs (the callers') the slots may change (an exception that passes writes there); of the records at ex (iterators) nothing is said -/
structure Un (fs ex : List Addr) (H H' : Hp) (h h' : Heap) : Prop where
  keep : ∀ b o, h.get? b = some o → H b = none → b ∉ fs → b ∉ ex → h'.get? b = some o
  slot : ∀ b o, h.get? b = some o → H b = none → b ∈ fs → b ∉ ex → ∃ sl, h'.get? b = some { o with slots := sl }
  free : ∀ b o, h.get? b = some o → H b = none → b ∉ ex → H' b = none
  there : ∀ b o, h.get? b = some o → b ∉ ex → ∃ o', h'.get? b = some o'
  tups : ∀ b xs, H b = some (.tup xs) → H' b = some (.tup xs)
  frzs : ∀ b o u, H b = some (.frz o u) → H' b = some (.frz o u)
  tbls : ∀ b ps, H b = some (.tbl ps) → ∃ more, H' b = some (.tbl (ps ++ more))
section
variable {fs fs' ex ex' : List Addr} {H H1 H2 : Hp} {h h1 h2 h' : Heap} {a x e : Addr} {o : HO}
theorem Un.any (u : Un fs ex H H1 h h1) {b : Addr} {ob : Obj} (q : h.get? b = some ob) (n : H b = none) (hx : b ∉ ex) : ∃ sl, h1.get? b = some { ob with slots := sl } := by
  by_cases hb : b ∈ fs
  · exact u.slot b ob q n hb hx
  · exact ⟨ob.slots, u.keep b ob q n hb hx⟩
theorem Un.trans (a : Un fs ex H H1 h h1) (b : Un fs ex H1 H2 h1 h2) : Un fs ex H H2 h h2 where
  keep := fun c ob q n hc hx => b.keep c ob (a.keep c ob q n hc hx) (a.free c ob q n hx) hc hx
  slot := fun c ob q n hc hx => by
    obtain ⟨sl, e1⟩ := a.slot c ob q n hc hx
    obtain ⟨sl', e2⟩ := b.slot c _ e1 (a.free c ob q n hx) hc hx
    exact ⟨sl', e2⟩
  free := fun c ob q n hx => by
    obtain ⟨o', e1⟩ := a.there c ob q hx
    exact b.free c o' e1 (a.free c ob q n hx) hx
  there := fun c ob q hx => by
    obtain ⟨o', e1⟩ := a.there c ob q hx
    exact b.there c o' e1 hx
  tups := fun c xs q => b.tups c xs (a.tups c xs q)
  frzs := fun c ob xs q => b.frzs c ob xs (a.frzs c ob xs q)
  tbls := fun c ps q => by
    obtain ⟨m1, e1⟩ := a.tbls c ps q
    obtain ⟨m2, e2⟩ := b.tbls c _ e1
    exact ⟨m1 ++ m2, by rw [e2, Array.append_assoc]⟩
theorem Un.kept (k : ∀ b u, h.get? b = some u → h'.get? b = some u) : Un fs ex H H h h' :=
  ⟨fun b ob q _ _ _ => k b ob q, fun b ob q _ _ _ => ⟨ob.slots, k b ob q⟩, fun _ _ _ n _ => n, fun b ob q _ => ⟨ob, k b ob q⟩, fun _ _ q => q, fun _ _ _ q => q, fun _ ps q => ⟨#[], by rw [q]; simp⟩⟩
theorem Un.refl : Un fs ex H H h h := Un.kept fun _ _ q => q
theorem Un.laid (k : ∀ b u, h.get? b = some u → h'.get? b = some u) (hp : h.objs.size ≤ a) (hn : H a = none) : Un fs ex H (upd H a o) h h' where
  keep := fun b u q _ _ _ => k b u q
  slot := fun b u q _ _ _ => ⟨u.slots, k b u q⟩
  free := fun b u q n _ => by rw [upd_ne (Nat.ne_of_lt (Nat.lt_of_lt_of_le (Heap.lt_size q) hp))]; exact n
  there := fun b u q _ => ⟨u, k b u q⟩
  tups := fun b xs q => by rw [upd_ne (ne_of_none q hn)]; exact q
  frzs := fun b u xs q => by rw [upd_ne (ne_of_none q hn)]; exact q
  tbls := fun b ps q => ⟨#[], by rw [upd_ne (ne_of_none q hn), q]; simp⟩
theorem Un.write (mu : Mut (H x)) (he : e = x ∨ H e = some (.own x)) (k : ∀ b u, b ≠ e → h.get? b = some u → h'.get? b = some u) (heo : ∃ u, h'.get? e = some u) : Un fs ex H (upd H x o) h h' := by
  have hx : ∀ b, H b = none → b ≠ x := fun b n z => by subst z; rw [n] at mu; exact mu
  have hb : ∀ b, H b = none → b ≠ e := fun b n z => by
    subst z
    rcases he with r | r
    · exact hx b n r
    · rw [n] at r; cases r
  have hm : ∀ b u, H b = some u → ¬ Mut (some u) → b ≠ x := fun b u q nm z => by subst z; rw [q] at mu; exact nm mu
  refine ⟨fun b u q n _ _ => k b u (hb b n) q, fun b u q n _ _ => ⟨u.slots, k b u (hb b n) q⟩, fun b u q n _ => by rw [upd_ne (hx b n)]; exact n, fun b u q _ => ?_,
    fun b xs q => by rw [upd_ne (hm b _ q fun z => z)]; exact q, fun b u xs q => by rw [upd_ne (hm b _ q fun z => z)]; exact q, fun b ps q => ⟨#[], by rw [upd_ne (hm b _ q fun z => z), q]; simp⟩⟩
  by_cases hbe : b = e
  · subst hbe; exact heo
  · exact ⟨u, k b u hbe q⟩
theorem Un.mono (u : Un fs ex H H1 h h1) (hs : ∀ b ∈ fs, b ∈ fs') (hx : ∀ b ∈ ex, b ∈ ex') : Un fs' ex' H H1 h h1 :=
  ⟨fun b ob q n hb he => u.keep b ob q n (fun z => hb (hs b z)) fun z => he (hx b z), fun _ _ q n _ he => u.any q n fun z => he (hx _ z), fun b ob q n he => u.free b ob q n fun z => he (hx b z), fun b ob q he => u.there b ob q fun z => he (hx b z), u.tups, u.frzs, u.tbls⟩
end

/-! ### the heap without what is tracked -/
def trk (h : Heap) (H : Hp) : List Addr := (List.range h.objs.size).filter fun a => (H a).isSome
def hidT (h : Heap) (H : Hp) : Heap := PySem.W.hideAll h (trk h H)
theorem hidT_size (h : Heap) (H : Hp) : (hidT h H).objs.size = h.objs.size := PySem.W.hideAll_size _ _
theorem hidT_get {h : Heap} {H : Hp} {b : Addr} {o : Obj} (e : h.get? b = some o) (n : H b = none) : (hidT h H).get? b = some o :=
  PySem.W.hideAll_get _ e fun hm => by
    have q : (H b).isSome = true := (List.mem_filter.mp hm).2
    rw [n] at q; simp at q
theorem of_hidT {h : Heap} {H : Hp} {b : Addr} {o : Obj} (e : (hidT h H).get? b = some o) : h.get? b = some o ∧ H b = none := by
  have e' : h.get? b = some o := PySem.W.of_hideAll (trk h H) e
  refine ⟨e', ?_⟩
  cases q : H b with
  | none => rfl
  | some x =>
    have hm : b ∈ trk h H := List.mem_filter.mpr ⟨List.mem_range.mpr (Heap.lt_size e'), by simp [q]⟩
    have z : (hidT h H).get? b = none := PySem.W.hideAll_none (trk h H) hm
    rw [z] at e; cases e

/-! ### OpenK's ledger, filled with every new object but one -/
def allNews (g h : Heap) (L : Addr) : List (Addr × Obj) := (List.range h.objs.size).filterMap fun a => if a = L ∨ (g.get? a).isSome = true then none else (h.get? a).map fun o => (a, o)
def rest (g h : Heap) (L d : Addr) : List (Addr × Obj) := (allNews g h L).filter fun p => decide (p.1 ≠ d)
end L2

namespace L2
open PySem PySem.Spec PyProof.Rows

/-- the module's facts, over the base: the heap at the law's entry without what is tracked there -/
structure Mod (K : PySem.W.Frag) (mg : Str → Option Value) (base : Heap) : Prop where
  kin : K.In base
  glob : base.Ns mainGlobals mg
  blt : ∃ mb, base.Ns builtinsNs mb ∧ ∀ x : Str, x ≠ "__name__" → mb x = bootBuiltins x
  nolimit : base.NoLimit

/-- the context: a def's body (or a comprehension's block) running. base: fixed through the whole law; s₀, H₀: the entry; outer: the frames whose slots others may change (a def's callers); stack: all frames that run;
   ex: iterators that were made ahead of the entry and are walked here (a comprehension's); fn: the names whose cells were made at the entry (a def: all; a comprehension's block: its own); calm: not within an except suite; pn: pins that every state bears; xe: what is wanted of an exception that leaves the code -/
structure Cx where
  prog : Program
  w : World
  K : PySem.W.Frag
  mg : Str → Option Value
  base : Heap
  A : Around
  N : List Str
  s₀ : Shared
  H₀ : Hp
  env : Env
  outer : List Env
  stack : List Env
  ex : List Addr
  fn : Str → Bool
  calm : Bool
  pn : List (Addr × Obj)
  xe : Value → Shared → Prop
/-- the callers' frames -/
def frs (l : List Env) : List Addr := l.filterMap (·.frame)
abbrev Cx.fs (X : Cx) : List Addr := frs X.outer

def Vis (sc : Scope) (x : Str) : Prop := sc.names.lookup x = some .local ∨ sc.names.lookup x = some .cell ∨ sc.names.lookup x = some .free
def Loc (sc : Scope) (x : Str) : Prop := sc.names.lookup x = some .local ∨ sc.names.lookup x = some .cell
def Look (env : Env) (h : Heap) (m : Str → Option Value) (x : Str) (u : Value) : Prop :=
  (env.kindOf x = some .local ∧ m x = some u) ∨ ((env.kindOf x = some .cell ∨ env.kindOf x = some .free) ∧ ∃ c, env.cells.lookup x = some c ∧ h.IsCell c (some u))

structure Cx.Ok (X : Cx) : Prop where
  mod : Mod X.K X.mg X.base
  kind : X.env.scope.kind = .function
  glob : X.env.globals = mainGlobals
  blt : X.env.builtins = builtinsNs
  above : X.s₀.heap.objs.size ≤ X.env.locals
  inj : ∀ x y c, X.env.cells.lookup x = some c → X.env.cells.lookup y = some c → x = y
  has : ∀ x, (X.env.kindOf x = some .cell ∨ X.env.kindOf x = some .free) → ∃ c, X.env.cells.lookup x = some c
  cab : ∀ x c, X.fn x = true → X.env.cells.lookup x = some c → X.s₀.heap.objs.size ≤ c
  hd : X.calm = true → X.A.handled = none
  frames : X.A.frames = some X.stack
  stk : X.stack = X.outer ∨ (X.stack = X.env :: X.outer ∧ X.env.frame = some X.env.locals)
  exf : ∀ b ∈ X.ex, b ≠ X.env.locals ∧ ∀ x c, X.env.cells.lookup x = some c → c ≠ b
  bs : ∀ b o, X.base.get? b = some o → X.s₀.heap.get? b = some o ∧ X.H₀ b = none
  bsz : X.base.objs.size ≤ X.s₀.heap.objs.size
  noex : ∀ b o, X.base.get? b = some o → b ∉ X.ex
  exfs : ∀ b ∈ X.ex, b ∉ X.fs
  funs : X.s₀.heap.FunFrames X.base X.outer
  frf : ∀ b ∈ X.fs, X.H₀ b = none

structure Inv (X : Cx) (pins : List (Addr × Obj)) (σ : List (Option V)) (H : Hp) (s : Shared) : Prop where
  ok : X.Ok
  os : s.os = X.s₀.os
  bare : AllBare s.gens
  base : Un X.fs X.ex X.H₀ H X.s₀.heap s.heap
  loc : ∃ m, s.heap.Ns X.env.locals m ∧ ∀ (i : Nat) (x : Str) (v : V), X.N[i]? = some x → σ[i]? = some (some v) → Vis X.env.scope x → ∃ u, RelV v u ∧ Look X.env s.heap m x u
  cell : ∀ x c, X.env.cells.lookup x = some c → ∃ v, s.heap.IsCell c v
  free : H X.env.locals = none
  freeC : ∀ x c, X.env.cells.lookup x = some c → H c = none
  pin : ∀ p ∈ X.pn ++ pins, s.heap.get? p.1 = some p.2 ∧ H p.1 = none ∧ p.1 ≠ X.env.locals ∧ p.1 ∉ X.fs ∧ ∀ v, p.2.data ≠ .cell v
  hok : HOk X.prog X.w H s.heap
  len : σ.length = X.N.length

section
variable {X : Cx} {pins : List (Addr × Obj)} {σ : List (Option V)} {H H' : Hp} {s : Shared} {h' : Heap}

theorem Cx.Ok.nofr (ok : X.Ok) {b : Addr} {o : Obj} (e : X.base.get? b = some o) : b ∉ X.fs := fun hb => by
  have := (ok.funs.mem hb).1
  rw [e] at this; cases this
theorem Inv.bs (I : Inv X pins σ H s) : ∀ b o, X.base.get? b = some o → s.heap.get? b = some o ∧ H b = none := fun b o e =>
  ⟨I.base.keep b o (I.ok.bs b o e).1 (I.ok.bs b o e).2 (I.ok.nofr e) (I.ok.noex b o e), I.base.free b o (I.ok.bs b o e).1 (I.ok.bs b o e).2 (I.ok.noex b o e)⟩
theorem Inv.bk (I : Inv X pins σ H s) : ∀ b o, X.base.get? b = some o → s.heap.get? b = some o := fun b o e => (I.bs b o e).1
theorem Inv.mod (I : Inv X pins σ H s) : Mod X.K X.mg X.base := I.ok.mod
theorem Inv.kIn (I : Inv X pins σ H s) : X.K.In s.heap := I.ok.mod.kin.keeps I.bk
theorem Inv.nolimit (I : Inv X pins σ H s) : s.heap.NoLimit := I.ok.mod.nolimit.keeps I.bk
theorem Inv.lt (I : Inv X pins σ H s) : X.env.locals < s.heap.objs.size := let ⟨_, hn, _⟩ := I.loc; hn.lt
theorem Inv.sz (I : Inv X pins σ H s) : X.s₀.heap.objs.size ≤ s.heap.objs.size := Nat.le_trans I.ok.above (Nat.le_of_lt I.lt)
theorem Inv.nofs (I : Inv X pins σ H s) {a : Addr} (h : s.heap.objs.size ≤ a) : a ∉ X.fs := fun hb => by
  obtain ⟨_, o, ho, _⟩ := I.ok.funs.mem hb
  exact absurd (Nat.lt_of_lt_of_le (Heap.lt_size ho) (Nat.le_trans I.sz h)) (Nat.lt_irrefl _)
theorem Inv.cne (I : Inv X pins σ H s) : ∀ x c, X.env.cells.lookup x = some c → c ≠ X.env.locals := fun x c e z => by
  obtain ⟨v, o, ho, hd⟩ := I.cell x c e
  obtain ⟨m, ⟨o', es, ep, ho', hd', _⟩, _⟩ := I.loc
  rw [z, ho'] at ho; cases ho; rw [hd'] at hd; cases hd
theorem Inv.funs (I : Inv X pins σ H s) : s.heap.FunFrames X.base X.outer := by
  have all : ∀ (l : List Env), (∀ b ∈ frs l, b ∈ X.fs) → X.s₀.heap.FunFrames X.base l → s.heap.FunFrames X.base l := by
    intro l
    induction l with
    | nil => intro _ _; trivial
    | cons env r ih =>
      intro hs hl
      obtain ⟨hk, ⟨L, o, hf, hn, ho, hd⟩, hr⟩ := hl
      have hL : L ∈ X.fs := hs L (by unfold frs; rw [List.filterMap_cons, hf]; exact List.mem_cons_self)
      obtain ⟨sl, e⟩ := I.base.slot L o ho (I.ok.frf L hL) hL fun z => I.ok.exfs L z hL
      exact ⟨hk, ⟨L, _, hf, hn, e, hd⟩, ih (fun b hb => hs b (by unfold frs; rw [List.filterMap_cons, hf]; exact List.mem_cons_of_mem _ hb)) hr⟩
  exact all X.outer (fun _ hb => hb) I.ok.funs

/-- the frames that run, for a call -/
theorem Inv.stack (I : Inv X pins σ H s) : s.heap.FunFrames X.base X.stack := by
  rcases I.ok.stk with e | ⟨e, hf⟩
  · rw [e]; exact I.funs
  · rw [e]
    obtain ⟨m, hn, _⟩ := I.loc
    refine .cons (by rw [I.ok.kind]; decide) hf hn ?_ I.funs
    exact Heap.get?_none_of_le (Nat.le_trans I.ok.bsz I.ok.above)
theorem Inv.stkSub (I : Inv X pins σ H s) : ∀ b ∈ frs X.stack, b ∈ X.env.locals :: X.fs := fun b hb => by
  rcases I.ok.stk with e | ⟨e, hf⟩
  · rw [e] at hb; exact List.mem_cons_of_mem _ hb
  · rw [e] at hb
    unfold frs at hb
    rw [List.filterMap_cons, hf] at hb
    exact hb
theorem Inv.stkFree (I : Inv X pins σ H s) : ∀ b ∈ frs X.stack, H b = none := fun b hb => by
  rcases List.mem_cons.mp (I.stkSub b hb) with e | hb
  · rw [e]; exact I.free
  · obtain ⟨_, o, ho, _⟩ := I.ok.funs.mem hb
    exact I.base.free b o ho (I.ok.frf b hb) fun z => I.ok.exfs b z hb

/-- THE STEP: the untracked objects but the frame and the records at ch are kept (the callers' frames up to slots), the frame's map is kept, the new abstract heap is held -/
theorem Inv.step {g' : Array GenState} {t' : Nat} {d' : Drawn} {ch : List Addr} (I : Inv X pins σ H s)
    (hch : ∀ b ∈ ch, (b ∈ X.ex ∨ X.s₀.heap.objs.size ≤ b) ∧ b ≠ X.env.locals ∧ (∀ x c, X.env.cells.lookup x = some c → c ≠ b) ∧ ∀ p ∈ X.pn ++ pins, p.1 ≠ b)
    (keep : ∀ b o, b ≠ X.env.locals → b ∉ X.fs → b ∉ ch → s.heap.get? b = some o → H b = none → h'.get? b = some o)
    (slot : ∀ b o, b ≠ X.env.locals → b ∈ X.fs → b ∉ ch → s.heap.get? b = some o → H b = none → ∃ sl, h'.get? b = some { o with slots := sl }) (free : ∀ b o, b ∉ ch → s.heap.get? b = some o → H b = none → H' b = none)
    (there : ∀ b o, b ∉ ch → s.heap.get? b = some o → ∃ o', h'.get? b = some o')
    (tups : ∀ b xs, H b = some (.tup xs) → H' b = some (.tup xs)) (frzs : ∀ b o u, H b = some (.frz o u) → H' b = some (.frz o u)) (tbls : ∀ b ps, H b = some (.tbl ps) → ∃ more, H' b = some (.tbl (ps ++ more)))
    (ns : ∀ m, s.heap.Ns X.env.locals m → h'.Ns X.env.locals m) (hok : HOk X.prog X.w H' h') (hg : AllBare g') :
    Inv X pins σ H' { s with heap := h', gens := g', drawn := d', toks := t' } := by
  have neL : ∀ b o, X.s₀.heap.get? b = some o → b ≠ X.env.locals := fun b o e => Nat.ne_of_lt (Nat.lt_of_lt_of_le (Heap.lt_size e) I.ok.above)
  have neC : ∀ b o, X.s₀.heap.get? b = some o → b ∉ X.ex → b ∉ ch := fun b o e hx hb => by
    rcases (hch b hb).1 with z | z
    · exact hx z
    · exact absurd (Nat.lt_of_lt_of_le (Heap.lt_size e) z) (Nat.lt_irrefl _)
  have cellK : ∀ x c, X.env.cells.lookup x = some c → ∀ v, s.heap.IsCell c v → h'.IsCell c v := fun x c e v ⟨o, ho, hd⟩ => by
    have nch : c ∉ ch := fun z => (hch c z).2.2.1 x c e rfl
    by_cases hc : c ∈ X.fs
    · obtain ⟨sl, q⟩ := slot c o (I.cne x c e) hc nch ho (I.freeC x c e)
      exact ⟨_, q, hd⟩
    · exact ⟨o, keep c o (I.cne x c e) hc nch ho (I.freeC x c e), hd⟩
  refine ⟨I.ok, I.os, hg, ⟨fun b o e n hb hx => ?_, fun b o e n hb hx => ?_, fun b o e n hx => ?_, fun b o e hx => ?_, fun b xs e => tups b xs (I.base.tups b xs e), fun b o xs e => frzs b o xs (I.base.frzs b o xs e), fun b ps e => ?_⟩, ?_, fun x c e => ?_, ?_, fun x c e => ?_, fun p hp => ?_, hok, I.len⟩
  · exact keep b o (neL b o e) hb (neC b o e hx) (I.base.keep b o e n hb hx) (I.base.free b o e n hx)
  · obtain ⟨sl, e1⟩ := I.base.slot b o e n hb hx
    obtain ⟨sl', e2⟩ := slot b _ (neL b o e) hb (neC b o e hx) e1 (I.base.free b o e n hx)
    exact ⟨sl', e2⟩
  · obtain ⟨o', e1⟩ := I.base.there b o e hx
    exact free b o' (neC b o e hx) e1 (I.base.free b o e n hx)
  · obtain ⟨o', e1⟩ := I.base.there b o e hx
    exact there b o' (neC b o e hx) e1
  · obtain ⟨m1, e1⟩ := I.base.tbls b ps e
    obtain ⟨m2, e2⟩ := tbls b _ e1
    exact ⟨m1 ++ m2, by rw [e2, Array.append_assoc]⟩
  · obtain ⟨m, hn, hl⟩ := I.loc
    refine ⟨m, ns m hn, fun i x v e1 e2 e3 => ?_⟩
    obtain ⟨u, r, l⟩ := hl i x v e1 e2 e3
    refine ⟨u, r, ?_⟩
    rcases l with l | ⟨k, c, e, z⟩
    · exact .inl l
    · exact .inr ⟨k, c, e, cellK x c e _ z⟩
  · obtain ⟨v, z⟩ := I.cell x c e
    exact ⟨v, cellK x c e v z⟩
  · obtain ⟨m, ⟨o, _, _, ho, _⟩, _⟩ := I.loc
    exact free _ o (fun z => (hch _ z).2.1 rfl) ho I.free
  · obtain ⟨v, o, ho, hd⟩ := I.cell x c e
    exact free c o (fun z => (hch c z).2.2.1 x c e rfl) ho (I.freeC x c e)
  · obtain ⟨e, n, ne, nf, d⟩ := I.pin p hp
    have nch : p.1 ∉ ch := fun z => (hch p.1 z).2.2.2 p hp rfl
    exact ⟨keep p.1 p.2 ne nf nch e n, free p.1 p.2 nch e n, ne, nf, d⟩
/-- .. where the frame's own object is kept too -/
theorem Inv.un {t' : Nat} (I : Inv X pins σ H s) (u : Un X.fs [] H H' s.heap h') (hok : HOk X.prog X.w H' h') : Inv X pins σ H' { s with heap := h', toks := t' } := by
  obtain ⟨m, ⟨o, es, ep, ho, r⟩, _⟩ := id I.loc
  obtain ⟨sl, hL⟩ := u.any ho I.free (by simp)
  exact I.step (g' := s.gens) (d' := s.drawn) (ch := []) (fun _ z => nomatch z) (fun b o _ hb _ e n => u.keep b o e n hb (by simp)) (fun b o _ hb _ e n => u.slot b o e n hb (by simp)) (fun b o _ e n => u.free b o e n (by simp)) (fun b o _ e => u.there b o e (by simp)) u.tups u.frzs u.tbls (fun m' hm => by
    obtain ⟨o', es', ep', ho', r'⟩ := hm
    rw [ho] at ho'; cases ho'
    exact ⟨_, es', ep', hL, r'⟩) hok I.bare
/-- behind a call (or a comprehension's block): the slots of this frame may have changed too, the records at ch may have turned -/
theorem Inv.call {g' : Array GenState} {t' : Nat} {d' : Drawn} {ch : List Addr} (I : Inv X pins σ H s) (u : Un (frs X.stack) ch H H' s.heap h') (hok : HOk X.prog X.w H' h') (hg : AllBare g')
    (hch : ∀ b ∈ ch, (b ∈ X.ex ∨ X.s₀.heap.objs.size ≤ b) ∧ b ≠ X.env.locals ∧ (∀ x c, X.env.cells.lookup x = some c → c ≠ b) ∧ ∀ p ∈ X.pn ++ pins, p.1 ≠ b) :
    Inv X pins σ H' { s with heap := h', gens := g', drawn := d', toks := t' } := by
  obtain ⟨m, ⟨o, es, ep, ho, r⟩, _⟩ := id I.loc
  obtain ⟨sl, hL⟩ := u.any ho I.free fun z => (hch _ z).2.1 rfl
  exact I.step (ch := ch) hch (fun b o hL hb hc e n => u.keep b o e n (fun z => (List.mem_cons.mp (I.stkSub b z)).elim hL hb) hc) (fun b o _ _ hc e n => u.any e n hc) (fun b o hc e n => u.free b o e n hc) (fun b o hc e => u.there b o e hc) u.tups u.frzs u.tbls (fun m' hm => by
    obtain ⟨o', es', ep', ho', r'⟩ := hm
    rw [ho] at ho'; cases ho'
    exact ⟨_, es', ep', hL, r'⟩) hok hg
/-- an untracked record of ours (an iterator) has turned -/
theorem Inv.turned {t' : Nat} {it : Addr} (I : Inv X pins σ H s) (k : ∀ b o, b ≠ it → s.heap.get? b = some o → h'.get? b = some o) (hn : H it = none) (hL : it ≠ X.env.locals)
    (h1 : it ∈ X.ex ∨ X.s₀.heap.objs.size ≤ it) (h2 : ∀ x c, X.env.cells.lookup x = some c → c ≠ it) (h3 : ∀ p ∈ X.pn ++ pins, p.1 ≠ it) : Inv X pins σ H { s with heap := h', toks := t' } := by
  have nit : ∀ b u, H b = some u → b ≠ it := fun b u e z => by rw [z, hn] at e; cases e
  refine I.step (g' := s.gens) (d' := s.drawn) (ch := [it]) (fun b hb => ?_) (fun b o _ _ hc e _ => k b o (fun z => hc (by simp [z])) e) (fun b o _ _ hc e _ => ⟨o.slots, k b o (fun z => hc (by simp [z])) e⟩) (fun _ _ _ _ n => n)
    (fun b o hc e => ⟨o, k b o (fun z => hc (by simp [z])) e⟩) (fun _ _ e => e) (fun _ _ _ e => e) (fun b ps e => ⟨#[], by rw [e]; simp⟩) (fun m hm => ?_) (fun b u e => ?_) I.bare
  · have e : b = it := by simpa using hb
    subst e
    exact ⟨h1, hL, h2, h3⟩
  · obtain ⟨o, es, ep, ho, r⟩ := hm
    exact ⟨o, es, ep, k _ o (Ne.symm hL) ho, r⟩
  · refine (I.hok b u e).stay (fun c v hc q => k c v ?_ q) (fun _ q => q) fun _ _ q => q
    rcases hc with z | z
    · rw [z]; exact nit b u e
    · exact nit c _ z
theorem Inv.tok (I : Inv X pins σ H s) (t : Nat) : Inv X pins σ H { s with toks := t } := I.un (h' := s.heap) (t' := t) Un.refl I.hok
/-- all objects kept -/
theorem Inv.kept {t' : Nat} (I : Inv X pins σ H s) (k : ∀ b u, s.heap.get? b = some u → h'.get? b = some u) : Inv X pins σ H { s with heap := h', toks := t' } := I.un (Un.kept k) (I.hok.kept k)
/-- a new object laid and tracked -/
theorem Inv.laid {a : Addr} {o : HO} {t' : Nat} (I : Inv X pins σ H s) (k : ∀ b u, s.heap.get? b = some u → h'.get? b = some u) (hp : s.heap.objs.size ≤ a) (new : ObjOk X.prog X.w (upd H a o) h' a o) :
    Inv X pins σ (upd H a o) { s with heap := h', toks := t' } := I.un (Un.laid k hp (I.hok.fresh hp)) (I.hok.laid k hp new)
/-- an object written -/
theorem Inv.write {x e : Addr} {o : HO} {t' : Nat} (I : Inv X pins σ H s) (mu : Mut (H x)) (he : e = x ∨ H e = some (.own x)) (k : ∀ b u, b ≠ e → s.heap.get? b = some u → h'.get? b = some u) (heo : ∃ u, h'.get? e = some u)
    (new : ObjOk X.prog X.w (upd H x o) h' x o) : Inv X pins σ (upd H x o) { s with heap := h', toks := t' } := I.un (Un.write mu he k heo) (I.hok.write mu he k heo new)
theorem Inv.pins_of {pins' : List (Addr × Obj)} (I : Inv X pins σ H s) (h : ∀ p ∈ pins', s.heap.get? p.1 = some p.2 ∧ H p.1 = none ∧ p.1 ≠ X.env.locals ∧ p.1 ∉ X.fs ∧ ∀ v, p.2.data ≠ .cell v) : Inv X pins' σ H s :=
  ⟨I.ok, I.os, I.bare, I.base, I.loc, I.cell, I.free, I.freeC, fun p hp => (List.mem_append.mp hp).elim (fun z => I.pin p (List.mem_append_left _ z)) (h p), I.hok, I.len⟩

theorem nodup_ix {N : List Str} (hN : N.Nodup) {i j : Nat} {x : Str} (a : N[i]? = some x) (b : N[j]? = some x) : i = j := by
  obtain ⟨h1, e1⟩ := List.getElem?_eq_some_iff.mp a
  obtain ⟨h2, e2⟩ := List.getElem?_eq_some_iff.mp b
  exact (List.getElem_inj hN).mp (e1.trans e2.symm)

/-- a name is stored; what changed -/
theorem store_ok2 {M : Model} {A : Around} {E : Value → Shared → Prop} {i : Nat} {x : Str} {v : V} {u : Value} {Q : Unit → Shared → Prop} (I : Inv X pins σ H s) (hN : X.N.Nodup) (hi : X.N[i]? = some x) (hx : Loc X.env.scope x) (r : RelV v u)
    (h : ∀ s', Inv X pins (σ.set i (some v)) H s' → (∃ a, Heap.SameBut a s.heap s'.heap ∧ (a = X.env.locals ∨ X.env.cells.lookup x = some a)) → Q () s') (hf : X.fn x = true ∨ X.env.scope.names.lookup x = some .local := by first | exact .inl rfl | exact .inr rfl | assumption) : wpAny M A (storeName X.env x u) Q E s := by
  obtain ⟨m, hn, hl⟩ := id I.loc
  have hcls : (X.env.scope.kind == .class || (X.env.scope.kind == .module && X.env.locals != X.env.globals)) = false := by rw [I.ok.kind]; rfl
  have hiσ : i < σ.length := by rw [I.len]; exact (List.getElem?_eq_some_iff.mp hi).1
  have cne := I.cne
  have tracked : ∀ {a : Addr} {h' : Heap}, (∃ o, s.heap.get? a = some o ∧ H a = none) → Heap.SameBut a s.heap h' → HOk X.prog X.w H h' := fun {a h'} ha hs b ob e => by
    obtain ⟨_, _, hfree⟩ := ha
    refine (I.hok b ob e).stay (fun c w' hc q => (hs.2 c ?_).trans q) (fun _ q => q) fun _ _ q => q
    rintro rfl
    rcases hc with rfl | hc
    · rw [hfree] at e; cases e
    · rw [hfree] at hc; cases hc
  rcases hx with hk | hk
  · refine wpAny_storeName_local hk hn (fun h' hn' hs => ?_) hcls
    obtain ⟨oL, _, _, hoL, _⟩ := id hn
    refine h _ ⟨I.ok, I.os, I.bare, ⟨fun b o e n hb hx => ?_, fun b o e n hb hx => ?_, I.base.free, fun b o e hx => ?_, I.base.tups, I.base.frzs, I.base.tbls⟩, ⟨_, hn', fun j y v' e1 e2 e3 => ?_⟩, fun y c e => ?_, I.free, I.freeC, fun p hp => ?_, tracked ⟨oL, hoL, I.free⟩ hs, by simpa using I.len⟩ ⟨_, hs, .inl rfl⟩
    · exact (hs.2 b (Nat.ne_of_lt (Nat.lt_of_lt_of_le (Heap.lt_size e) I.ok.above))).trans (I.base.keep b o e n hb hx)
    · obtain ⟨sl, e1⟩ := I.base.slot b o e n hb hx
      exact ⟨sl, (hs.2 b (Nat.ne_of_lt (Nat.lt_of_lt_of_le (Heap.lt_size e) I.ok.above))).trans e1⟩
    · obtain ⟨o', e1⟩ := I.base.there b o e hx
      exact ⟨o', (hs.2 b (Nat.ne_of_lt (Nat.lt_of_lt_of_le (Heap.lt_size e) I.ok.above))).trans e1⟩
    · by_cases hj : j = i
      · subst hj
        rw [hi] at e1; cases e1
        rw [List.getElem?_set_self hiσ] at e2
        cases e2
        exact ⟨u, r, .inl ⟨hk, by simp⟩⟩
      · rw [List.getElem?_set_ne (Ne.symm hj)] at e2
        obtain ⟨u', r', q⟩ := hl j y v' e1 e2 e3
        refine ⟨u', r', ?_⟩
        rcases q with ⟨k, e⟩ | ⟨k, c, e, z⟩
        · refine .inl ⟨k, ?_⟩
          have : y ≠ x := fun e => hj (nodup_ix hN e1 (e ▸ hi))
          simp [this, e]
        · exact .inr ⟨k, c, e, z.sameBut hs (cne y c e)⟩
    · obtain ⟨w', z⟩ := I.cell y c e
      exact ⟨w', z.sameBut hs (cne y c e)⟩
    · obtain ⟨e, n, ne, nf, d⟩ := I.pin p hp
      exact ⟨(hs.2 p.1 ne).trans e, n, ne, nf, d⟩
  · have hfn : X.fn x = true := by
      rcases hf with z | z
      · exact z
      · rw [z] at hk; cases hk
    obtain ⟨c, hc⟩ := I.ok.has x (.inl hk)
    obtain ⟨w', z⟩ := I.cell x c hc
    refine wpAny_storeName_cell I.ok.kind hk hc z (fun h' hc' hs => ?_)
    obtain ⟨oc, hoc, hocd⟩ := id z
    refine h { s with heap := h' } ⟨I.ok, I.os, I.bare, ⟨fun b o e n hb hx => ?_, fun b o e n hb hx => ?_, I.base.free, fun b o e hx => ?_, I.base.tups, I.base.frzs, I.base.tbls⟩, ⟨m, hn.sameBut hs (Ne.symm (cne x c hc)), fun j y v' e1 e2 e3 => ?_⟩, fun y c' e => ?_, I.free, I.freeC, fun p hp => ?_, tracked ⟨oc, hoc, I.freeC x c hc⟩ hs, by simpa using I.len⟩ ⟨c, hs, .inr hc⟩
    · exact (hs.2 b (Nat.ne_of_lt (Nat.lt_of_lt_of_le (Heap.lt_size e) (I.ok.cab x c hfn hc)))).trans (I.base.keep b o e n hb hx)
    · obtain ⟨sl, e1⟩ := I.base.slot b o e n hb hx
      exact ⟨sl, (hs.2 b (Nat.ne_of_lt (Nat.lt_of_lt_of_le (Heap.lt_size e) (I.ok.cab x c hfn hc)))).trans e1⟩
    · obtain ⟨o', e1⟩ := I.base.there b o e hx
      exact ⟨o', (hs.2 b (Nat.ne_of_lt (Nat.lt_of_lt_of_le (Heap.lt_size e) (I.ok.cab x c hfn hc)))).trans e1⟩
    · by_cases hj : j = i
      · subst hj
        rw [hi] at e1; cases e1
        rw [List.getElem?_set_self hiσ] at e2
        cases e2
        exact ⟨u, r, .inr ⟨.inl hk, c, hc, hc'⟩⟩
      · rw [List.getElem?_set_ne (Ne.symm hj)] at e2
        obtain ⟨u', r', q⟩ := hl j y v' e1 e2 e3
        refine ⟨u', r', ?_⟩
        rcases q with q | ⟨k, c', e, z'⟩
        · exact .inl q
        · refine .inr ⟨k, c', e, z'.sameBut hs ?_⟩
          rintro rfl
          exact hj (nodup_ix hN e1 (I.ok.inj _ _ _ e hc ▸ hi))
    · by_cases hcc : c' = c
      · subst hcc; exact ⟨_, hc'⟩
      · obtain ⟨w2, z2⟩ := I.cell y c' e
        exact ⟨w2, z2.sameBut hs hcc⟩
    · obtain ⟨e, n, ne, nf, d⟩ := I.pin p hp
      refine ⟨(hs.2 p.1 ?_).trans e, n, ne, nf, d⟩
      intro q
      rw [q, hoc] at e
      have q' : oc = p.2 := Option.some.inj e
      exact d w' (by rw [← q']; exact hocd)
theorem store_ok {M : Model} {A : Around} {E : Value → Shared → Prop} {i : Nat} {x : Str} {v : V} {u : Value} {Q : Unit → Shared → Prop} (I : Inv X pins σ H s) (hN : X.N.Nodup) (hi : X.N[i]? = some x) (hx : Loc X.env.scope x) (r : RelV v u)
    (h : ∀ s', Inv X pins (σ.set i (some v)) H s' → Q () s') (hf : X.fn x = true ∨ X.env.scope.names.lookup x = some .local := by first | exact .inl rfl | exact .inr rfl | assumption) : wpAny M A (storeName X.env x u) Q E s :=
  store_ok2 I hN hi hx r (fun s' I' _ => h s' I') hf
/-- behind a call or a block, the state as it is -/
theorem Inv.call' {s' : Shared} {ch : List Addr} (I : Inv X pins σ H s) (ho : s'.os = s.os) (u : Un (frs X.stack) ch H H' s.heap s'.heap) (hok : HOk X.prog X.w H' s'.heap) (hg : AllBare s'.gens)
    (hch : ∀ b ∈ ch, (b ∈ X.ex ∨ X.s₀.heap.objs.size ≤ b) ∧ b ≠ X.env.locals ∧ (∀ x c, X.env.cells.lookup x = some c → c ≠ b) ∧ ∀ p ∈ X.pn ++ pins, p.1 ≠ b) : Inv X pins σ H' s' := by
  obtain ⟨h', g', d', t', o'⟩ := s'
  have e : o' = s.os := ho
  subst e
  exact I.call (g' := g') (t' := t') (d' := d') u hok hg hch
end

/-! ### the judgements -/
/-- an exception: its class, its own dict's address (where it has one), the abstract heap behind it -/
abbrev XK := Value → Option Addr → Hp → Prop
abbrev St := List (Option V)
abbrev VK := V → Hp → Prop
/-- an expression's reading; a test's; an argument list's -/
abbrev TE := St → Hp → VK → Prop
abbrev TT := St → Hp → (Bool → Hp → Prop) → Prop
abbrev TA := St → Hp → (List V → Hp → Prop) → Prop
/-- what is wanted behind a statement -/
structure Ends where
  nx : St → Hp → Prop
  rt : VK
  bk : St → Hp → Prop := fun _ _ => False
  ct : St → Hp → Prop := fun _ _ => False
abbrev TS := Ends → St → Hp → Prop

def EP (X : Cx) (pins : List (Addr × Obj)) (σ : St) (Q : VK) (u : Value) (s' : Shared) : Prop := ∃ v H', Inv X pins σ H' s' ∧ RelV v u ∧ Q v H'
def TP (X : Cx) (pins : List (Addr × Obj)) (σ : St) (Q : Bool → Hp → Prop) (b : Bool) (s' : Shared) : Prop := ∃ H', Inv X pins σ H' s' ∧ Q b H'
def AP (X : Cx) (pins : List (Addr × Obj)) (σ : St) (Q : List V → Hp → Prop) (us : List Value) (s' : Shared) : Prop := ∃ vs H', Inv X pins σ H' s' ∧ Vals vs us ∧ Q vs H'
def SP (X : Cx) (pins : List (Addr × Obj)) (D : Ends) (f : Flow) (s' : Shared) : Prop :=
  match f with
  | .next => ∃ σ' H', Inv X pins σ' H' s' ∧ D.nx σ' H'
  | .brk => ∃ σ' H', Inv X pins σ' H' s' ∧ D.bk σ' H'
  | .cont => ∃ σ' H', Inv X pins σ' H' s' ∧ D.ct σ' H'
  | .ret u => ∃ v σ' H', Inv X pins σ' H' s' ∧ RelV v u ∧ D.rt v H'

def PE (X : Cx) (e : Expr) (t : TE) : Prop :=
  ∀ (pins : List (Addr × Obj)) (s : Shared) (σ : St) (H : Hp) (Q : VK), Inv X pins σ H s → t σ H Q → wpAny (model X.prog X.w) X.A (eval e X.env) (EP X pins σ Q) X.xe s
def PT (X : Cx) (e : Expr) (t : TT) : Prop :=
  ∀ (pins : List (Addr × Obj)) (s : Shared) (σ : St) (H : Hp) (Q : Bool → Hp → Prop), Inv X pins σ H s → t σ H Q → wpAny (model X.prog X.w) X.A (isTrue e X.env (eval e X.env)) (TP X pins σ Q) X.xe s
/-- a test whatever its 'whole' is (and, or) -/
def PW (X : Cx) (e : Expr) (t : TT) : Prop :=
  ∀ (whole : Sem Value) (pins : List (Addr × Obj)) (s : Shared) (σ : St) (H : Hp) (Q : Bool → Hp → Prop), Inv X pins σ H s → t σ H Q → wpAny (model X.prog X.w) X.A (isTrue e X.env whole) (TP X pins σ Q) X.xe s
theorem PW.pt {X : Cx} {e : Expr} {t : TT} (h : PW X e t) : PT X e t := h _
/-- an argument list (no star), from the left -/
def PA (X : Cx) (es : List Expr) (t : TA) : Prop :=
  ∀ (pos : Pos) (pins : List (Addr × Obj)) (s : Shared) (σ : St) (H : Hp) (Q : List V → Hp → Prop), Inv X pins σ H s → t σ H Q → wpAny (model X.prog X.w) X.A (spliced (backTo pos (starEach es X.env))) (AP X pins σ Q) X.xe s
def PS (X : Cx) (st : Stmt) (t : TS) : Prop :=
  ∀ (pins : List (Addr × Obj)) (s : Shared) (σ : St) (H : Hp) (D : Ends), Inv X pins σ H s → t D σ H → wpAny (model X.prog X.w) X.A (exec st X.env) (SP X pins D) X.xe s
def PSs (X : Cx) (st : List Stmt) (t : TS) : Prop :=
  ∀ (pins : List (Addr × Obj)) (s : Shared) (σ : St) (H : Hp) (D : Ends), Inv X pins σ H s → t D σ H → wpAny (model X.prog X.w) X.A (execs st X.env) (SP X pins D) X.xe s
/-- weaken the end -/
theorem thn {α : Type} {t : Sem α} {Q Q' : α → Shared → Prop} {M : Model} {A : Around} {E : Value → Shared → Prop} {s : Shared} (h : wpAny M A t Q E s) (hQ : ∀ a s, Q a s → Q' a s) : wpAny M A t Q' E s := wpAny_mono h hQ fun _ _ x => x
end L2

namespace L2
open PySem PySem.Spec PyProof.Rows
section
variable {X : Cx}

/-! ### names and constants -/
def tVar (i : Nat) : TE := fun σ H Q => ∃ v, σ[i]? = some (some v) ∧ Q v H
def tC (v : V) : TE := fun _ H Q => Q v H
theorem pe_var {i : Nat} {x : Str} {pos : Pos} (hN : X.N[i]? = some x) (hv : Vis X.env.scope x) (hd : (x == ("__debug__" : Str)) = false := by decide) (hcd : (x == ("__classdict__" : Str)) = false := by decide) : PE X (.Name x pos) (tVar i) := by
  intro pins s σ H Q I h
  obtain ⟨v, e, h⟩ := h
  obtain ⟨m, hn, hl⟩ := I.loc
  obtain ⟨u, r, l⟩ := hl i x v hN e hv
  have fin : EP X pins σ Q u s := ⟨v, H, I, r, h⟩
  rcases l with ⟨hk, hm⟩ | ⟨hk, c, hc, hcell⟩
  · exact wpAny_Name (wpAny_loadName_local I.ok.kind hk hn hm fin) hd
  · rcases hk with hk | hk
    · exact wpAny_Name (wpAny_loadName_cell I.ok.kind hk hc hcell fin) hd
    · exact wpAny_Name (wpAny_loadName_free I.ok.kind hk hc hcell fin hcd) hd
theorem pe_int {i j pos} : PE X (.Constant (.int i) j pos) (tC (.int i)) := fun _ _ _ H _ I h => wpAny_Constant_int ⟨.int i, H, I.tok _, ⟨_, rfl⟩, h⟩
theorem pe_bl {b j pos} : PE X (.Constant (.bool b) j pos) (tC (.bl b)) := fun _ _ _ H _ I h => Constant_bool ⟨.bl b, H, I, rfl, h⟩
theorem pe_non {j pos} : PE X (.Constant .none j pos) (tC .non) := fun _ _ _ H _ I h => Constant_none ⟨.non, H, I, rfl, h⟩
theorem pe_str {x j pos} : PE X (.Constant (.str x) j pos) (tC (.str x)) := fun _ _ _ H _ I h => Calls.Constant_str ⟨.str x, H, I.tok _, ⟨_, rfl⟩, h⟩

/-- a global name of the def -/
def Gl (X : Cx) (x : Str) : Prop := X.env.kindOf x = some .globalImplicit
theorem ld_glob {E : Value → Shared → Prop} {pins : List (Addr × Obj)} {s : Shared} {σ : St} {H : Hp} {x : Str} {u : Value} {pos : Pos} {Q : Value → Shared → Prop} (I : Inv X pins σ H s) (hg : Gl X x) (hm : X.mg x = some u) (h : Q u s)
    (hd : (x == ("__debug__" : Str)) = false := by decide) : wpAny (model X.prog X.w) X.A (eval (.Name x pos) X.env) Q E s :=
  Calls.Name_function_global I.ok.kind hg (Calls.loadGlobal_global (by rw [I.ok.glob]; exact I.mod.glob.keeps I.bk) hm h) hd
theorem ld_blt {E : Value → Shared → Prop} {pins : List (Addr × Obj)} {s : Shared} {σ : St} {H : Hp} {x : Str} {u : Value} {pos : Pos} {Q : Value → Shared → Prop} (I : Inv X pins σ H s) (hg : Gl X x) (hm : X.mg x = none) (hv : bootBuiltins x = some u) (h : Q u s)
    (hn : x ≠ "__name__" := by decide) (hd : (x == ("__debug__" : Str)) = false := by decide) : wpAny (model X.prog X.w) X.A (eval (.Name x pos) X.env) Q E s := by
  obtain ⟨mb, h1, h2⟩ := I.mod.blt
  exact Calls.Name_function_global I.ok.kind hg (Calls.loadGlobal_builtin (by rw [I.ok.glob]; exact I.mod.glob.keeps I.bk) hm (by rw [I.ok.blt]; exact h1.keeps I.bk) ((h2 x hn).trans hv) h) hd
/-- a module's constant, a class, a function, as a value -/
theorem pe_glob {x : Str} {v : V} {u : Value} {pos : Pos} (hg : Gl X x) (hm : X.mg x = some u) (r : RelV v u) (hd : (x == ("__debug__" : Str)) = false := by decide) : PE X (.Name x pos) (tC v) :=
  fun _ _ _ H _ I h => ld_glob I hg hm ⟨v, H, I, r, h⟩ hd
theorem pe_bltn {x : Str} {v : V} {u : Value} {pos : Pos} (hg : Gl X x) (hm : X.mg x = none) (hv : bootBuiltins x = some u) (r : RelV v u) (hn : x ≠ "__name__" := by decide) (hd : (x == ("__debug__" : Str)) = false := by decide) : PE X (.Name x pos) (tC v) :=
  fun _ _ _ H _ I h => ld_blt I hg hm hv ⟨v, H, I, r, h⟩ hn hd

/-! ### arithmetic -/
/-- two ints -/
def t2I (ta tb : TE) (k : Int → Int → Hp → Prop) : St → Hp → Prop := fun σ H => ta σ H fun x H1 => tb σ H1 fun y H2 => ∃ i j, x = .int i ∧ y = .int j ∧ k i j H2
def tAdd (ta tb : TE) : TE := fun σ H Q => t2I ta tb (fun i j H2 => Q (.int (i + j)) H2) σ H
def tSub (ta tb : TE) : TE := fun σ H Q => t2I ta tb (fun i j H2 => Q (.int (i - j)) H2) σ H
/-- the left factor below 2^64 -/
def tMul (ta tb : TE) : TE := fun σ H Q => t2I ta tb (fun i j H2 => (-(2 ^ 64) < i ∧ i < 2 ^ 64) ∧ Q (.int (i * j)) H2) σ H
variable {a b : Expr} {ta tb : TE} {pos : Pos}
/-! ### comparisons -/
def PC (X : Cx) (op : CmpOp) (a b : Expr) (t : TE) : Prop :=
  ∀ (pins : List (Addr × Obj)) (s : Shared) (σ : St) (H : Hp) (Q : VK), Inv X pins σ H s → t σ H Q →
    wpAny (model X.prog X.w) X.A (eval a X.env) (fun v s₁ => wpAny (model X.prog X.w) X.A (eval b X.env) (fun u s₂ => wpAny (model X.prog X.w) X.A (compareOp op v u) (EP X pins σ Q) X.xe s₂) X.xe s₁) X.xe s
def tCmp (p : Int → Int → Bool) (ta tb : TE) : TE := fun σ H Q => t2I ta tb (fun i j H2 => Q (.bl (p i j)) H2) σ H
abbrev tLt : TE → TE → TE := tCmp fun i j => decide (i < j)
abbrev tLe : TE → TE → TE := tCmp fun i j => decide (i ≤ j)
abbrev tGt : TE → TE → TE := tCmp fun i j => decide (j < i)
abbrev tGe : TE → TE → TE := tCmp fun i j => decide (j ≤ i)
abbrev tEqI : TE → TE → TE := tCmp fun i j => decide (i = j)
abbrev tNeI : TE → TE → TE := tCmp fun i j => !decide (i = j)
/-- is None -/
def tIsN (ta : TE) : TE := fun σ H Q => ta σ H fun x H1 => Q (.bl (decide (x = .non))) H1
def tNotN (ta : TE) : TE := fun σ H Q => ta σ H fun x H1 => Q (.bl (!decide (x = .non))) H1
/-- a comparison as a value, as a test -/
def tB (t : TE) : TT := fun σ H Q => t σ H fun x H1 => ∃ c, x = .bl c ∧ Q c H1
/-! ### and, or, not -/
variable {tA tB' : TT} {rest : List Expr}
def tAnd (t u : TT) : TT := fun σ H Q => t σ H fun c H1 => if c = true then u σ H1 Q else Q false H1
def tOr (t u : TT) : TT := fun σ H Q => t σ H fun c H1 => if c = true then Q true H1 else u σ H1 Q
def tNot (t : TT) : TT := fun σ H Q => t σ H fun c H1 => Q (!c) H1
theorem pw_and1 (ha : PT X a tA) : PW X (.BoolOp .And [a] pos) tA := by
  intro wh pins s σ H Q I h
  refine isTrue_and (thn (ha pins s σ H Q I h) fun c s1 e => ?_)
  cases c with
  | true => exact isTrue_and_nil e
  | false => exact e
theorem pw_or1 (ha : PT X a tA) : PW X (.BoolOp .Or [a] pos) tA := by
  intro wh pins s σ H Q I h
  refine isTrue_or (thn (ha pins s σ H Q I h) fun c s1 e => ?_)
  cases c with
  | false => exact isTrue_or_nil e
  | true => exact e
theorem pw_and (ha : PT X a tA) (hb : PW X (.BoolOp .And (b :: rest) pos) tB') : PW X (.BoolOp .And (a :: b :: rest) pos) (tAnd tA tB') := by
  intro wh pins s σ H Q I h
  refine isTrue_and (thn (ha pins s σ H _ I h) fun c s1 ⟨H1, I1, q1⟩ => ?_)
  cases c with
  | true => exact hb wh pins s1 σ H1 Q I1 q1
  | false => exact ⟨H1, I1, q1⟩
theorem pw_or (ha : PT X a tA) (hb : PW X (.BoolOp .Or (b :: rest) pos) tB') : PW X (.BoolOp .Or (a :: b :: rest) pos) (tOr tA tB') := by
  intro wh pins s σ H Q I h
  refine isTrue_or (thn (ha pins s σ H _ I h) fun c s1 ⟨H1, I1, q1⟩ => ?_)
  cases c with
  | true => exact ⟨H1, I1, q1⟩
  | false => exact hb wh pins s1 σ H1 Q I1 q1
theorem pt_not (ha : PT X a tA) : PT X (.UnaryOp .Not a pos) (tNot tA) := by
  intro pins s σ H Q I h
  exact isTrue_not (ha pins s σ H (fun c H1 => Q (!c) H1) I h)
/-- .. as values (bools) -/
def tAndV (ta tb : TE) : TE := fun σ H Q => ta σ H fun x H1 => ∃ c, x = .bl c ∧ if c = true then tb σ H1 Q else Q (.bl false) H1
def tOrV (ta tb : TE) : TE := fun σ H Q => ta σ H fun x H1 => ∃ c, x = .bl c ∧ if c = true then Q (.bl true) H1 else tb σ H1 Q
def tNotV (ta : TE) : TE := fun σ H Q => ta σ H fun x H1 => ∃ c, x = .bl c ∧ Q (.bl (!c)) H1
theorem pe_one {op} {t : TE} (h : PE X a t) : PE X (.BoolOp op [a] pos) t := fun pins s σ H Q I hw => BoolOp_one (h pins s σ H Q I hw)
theorem pe_and (ha : PE X a ta) (hb : PE X (.BoolOp .And (b :: rest) pos) tb) : PE X (.BoolOp .And (a :: b :: rest) pos) (tAndV ta tb) := by
  intro pins s σ H Q I h
  refine BoolOp_and (thn (ha pins s σ H _ I h) fun v s1 ⟨x, H1, I1, r1, q1⟩ => ?_)
  obtain ⟨c, rfl, q1⟩ := q1
  cases r1
  refine wpAny_truthy_bool ?_
  cases c with
  | true => exact hb pins s1 σ H1 Q I1 q1
  | false => exact ⟨.bl false, H1, I1, rfl, q1⟩
theorem pe_or (ha : PE X a ta) (hb : PE X (.BoolOp .Or (b :: rest) pos) tb) : PE X (.BoolOp .Or (a :: b :: rest) pos) (tOrV ta tb) := by
  intro pins s σ H Q I h
  refine BoolOp_or (thn (ha pins s σ H _ I h) fun v s1 ⟨x, H1, I1, r1, q1⟩ => ?_)
  obtain ⟨c, rfl, q1⟩ := q1
  cases r1
  refine wpAny_truthy_bool ?_
  cases c with
  | false => exact hb pins s1 σ H1 Q I1 q1
  | true => exact ⟨.bl true, H1, I1, rfl, q1⟩
theorem pe_not (ha : PE X a ta) : PE X (.UnaryOp .Not a pos) (tNotV ta) := by
  intro pins s σ H Q I h
  refine UnaryOp_ (thn (ha pins s σ H _ I h) fun v s1 ⟨x, H1, I1, r1, q1⟩ => ?_)
  obtain ⟨c, rfl, q1⟩ := q1
  cases r1
  exact not_of (wpAny_truthy_bool ⟨.bl (!c), H1, I1, rfl, q1⟩)
/-- a if t else b -/
def tIf (t : TT) (ta tb : TE) : TE := fun σ H Q => t σ H fun c H1 => if c = true then ta σ H1 Q else tb σ H1 Q
end
end L2

namespace L2
open PySem PySem.Spec PyProof.Rows

/-! ### a list, a tuple that is read: tracked, frozen, or an object of the module -/
def SqL (K : PySem.W.Frag) (H : Hp) (a : Addr) (xs : List V) : Prop :=
  Rd H a (.lst xs) ∨
    ∃ (o : Obj) (its : Array Value) (n : Nat), K.lookup a = some o ∧ o.cls = .type "list" ∧ o.dict = none ∧ o.data = .seq its n ∧ its.size ≤ sizeLine ∧ Vals xs its.toList
def SqT (K : PySem.W.Frag) (H : Hp) (a : Addr) (xs : List V) : Prop :=
  Rd H a (.tup xs) ∨
    ∃ (o : Obj) (its : Array Value) (n : Nat), K.lookup a = some o ∧ o.cls = .type "tuple" ∧ o.data = .seq its n ∧ its.size ≤ sizeLine ∧ Vals xs its.toList
def absV : Value → Option V
  | .none => some .non
  | .bool b => some (.bl b)
  | .int i _ => some (.int i)
  | .str x _ => some (.str x)
  | .bytes b _ => some (.byt b)
  | .float b _ => some (.flt b)
  | .ref a => some (.ref a)
  | .type n => some (.ty n)
  | _ => none
theorem RelV.abs {x : V} {u : Value} (r : RelV x u) : absV u = some x := by
  cases x with
  | non => cases r; rfl
  | bl _ => cases r; rfl
  | int _ => obtain ⟨t, rfl⟩ := r; rfl
  | str _ => obtain ⟨t, rfl⟩ := r; rfl
  | byt _ => obtain ⟨t, rfl⟩ := r; rfl
  | flt _ => obtain ⟨t, rfl⟩ := r; rfl
  | ref _ => cases r; rfl
  | ty _ => cases r; rfl
theorem RelV.inj {x y : V} {u : Value} (r : RelV x u) (q : RelV y u) : x = y := Option.some.inj (r.abs.symm.trans q.abs)
theorem Vals.inj : ∀ {xs ys : List V} {us : List Value}, Vals xs us → Vals ys us → xs = ys
  | _, _, _, .nil, .nil => rfl
  | _, _, _, .cons r t, .cons r' t' => by rw [r.inj r', Vals.inj t t']
section
variable {X : Cx} {pins : List (Addr × Obj)} {σ : St} {H : Hp} {s : Shared} {a : Addr} {xs ys : List V}
theorem SqL.of {K : PySem.W.Frag} (h : H a = some (.lst xs)) : SqL K H a xs := .inl (.inl h)
theorem SqT.of {K : PySem.W.Frag} (h : H a = some (.tup xs)) : SqT K H a xs := .inl (.inl h)
theorem Inv.list (I : Inv X pins σ H s) (h : SqL X.K H a xs) : ∃ its : List Value, Vals xs its ∧ PlainL s.heap a its.toArray ∧ xs.length ≤ sizeLine := by
  rcases h with h | ⟨o, its, n, hk, hc, hd, hs, hz, r⟩
  · obtain ⟨z, its, n, r, e⟩ := h.ok I.hok
    exact ⟨its, r, ⟨_, n, e, rfl, rfl, rfl⟩, z⟩
  · refine ⟨its.toList, r, ⟨o, n, I.kIn a o hk, hc, hd, by simpa using hs⟩, ?_⟩
    have e := r.length
    simp only [Array.length_toList] at e
    omega
theorem Inv.tuple (I : Inv X pins σ H s) (h : SqT X.K H a xs) : ∃ its : List Value, Vals xs its ∧ IsTup s.heap a its.toArray ∧ xs.length ≤ sizeLine := by
  rcases h with h | ⟨o, its, n, hk, hc, hs, hz, r⟩
  · obtain ⟨z, its, r, p⟩ := h.ok I.hok
    exact ⟨its, r, p, z⟩
  · refine ⟨its.toList, r, ⟨o, I.kIn a o hk, hc, n, by simpa using hs⟩, ?_⟩
    have e := r.length
    simp only [Array.length_toList] at e
    omega
theorem Inv.list_inj (I : Inv X pins σ H s) (h : SqL X.K H a xs) (h' : SqL X.K H a ys) : xs = ys := by
  obtain ⟨its, r, ⟨o, n, e, _, _, d⟩, _⟩ := I.list h
  obtain ⟨its', r', ⟨o', n', e', _, _, d'⟩, _⟩ := I.list h'
  rw [e] at e'; cases e'
  rw [d] at d'
  injection d' with d1 _
  have : its = its' := by simpa using congrArg Array.toList d1
  subst this
  exact r.inj r'
theorem Inv.tuple_inj (I : Inv X pins σ H s) (h : SqT X.K H a xs) (h' : SqT X.K H a ys) : xs = ys := by
  obtain ⟨its, r, ⟨o, e, _, n, d⟩, _⟩ := I.tuple h
  obtain ⟨its', r', ⟨o', e', _, n', d'⟩, _⟩ := I.tuple h'
  rw [e] at e'; cases e'
  rw [d] at d'
  injection d' with d1 _
  have : its = its' := by simpa using congrArg Array.toList d1
  subst this
  exact r.inj r'
end

/-! ### another wish about exceptions -/
abbrev Cx.wish (X : Cx) (E : Value → Shared → Prop) : Cx := { X with xe := E }
/-- no exception leaves -/
abbrev Cx.nox (X : Cx) : Cx := X.wish fun _ _ => False
theorem Cx.Ok.wish {X : Cx} (ok : X.Ok) (E : Value → Shared → Prop) : (X.wish E).Ok :=
  ⟨ok.mod, ok.kind, ok.glob, ok.blt, ok.above, ok.inj, ok.has, ok.cab, ok.hd, ok.frames, ok.stk, ok.exf, ok.bs, ok.bsz, ok.noex, ok.exfs, ok.funs, ok.frf⟩
theorem Cx.Ok.unwish {X : Cx} {E : Value → Shared → Prop} (ok : (X.wish E).Ok) : X.Ok :=
  ⟨ok.mod, ok.kind, ok.glob, ok.blt, ok.above, ok.inj, ok.has, ok.cab, ok.hd, ok.frames, ok.stk, ok.exf, ok.bs, ok.bsz, ok.noex, ok.exfs, ok.funs, ok.frf⟩
section
variable {X : Cx} {pins : List (Addr × Obj)} {σ : St} {H : Hp} {s : Shared} {E : Value → Shared → Prop}
theorem Inv.wish (I : Inv X pins σ H s) (E : Value → Shared → Prop) : Inv (X.wish E) pins σ H s := ⟨I.ok.wish E, I.os, I.bare, I.base, I.loc, I.cell, I.free, I.freeC, I.pin, I.hok, I.len⟩
theorem Inv.unwish (I : Inv (X.wish E) pins σ H s) : Inv X pins σ H s := ⟨I.ok.unwish, I.os, I.bare, I.base, I.loc, I.cell, I.free, I.freeC, I.pin, I.hok, I.len⟩
theorem SP.unwish {D : Ends} {f : Flow} {s' : Shared} (h : SP (X.wish E) pins D f s') : SP X pins D f s' := by
  cases f with
  | next => obtain ⟨σ', H', I, q⟩ := h; exact ⟨σ', H', I.unwish, q⟩
  | brk => obtain ⟨σ', H', I, q⟩ := h; exact ⟨σ', H', I.unwish, q⟩
  | cont => obtain ⟨σ', H', I, q⟩ := h; exact ⟨σ', H', I.unwish, q⟩
  | ret u => obtain ⟨v, σ', H', I, r, q⟩ := h; exact ⟨v, σ', H', I.unwish, r, q⟩
theorem PE.nox {e : Expr} {t : TE} (h : PE X.nox e t) : PE X e t := fun pins s σ H Q I hw =>
  wpAny_mono (h pins s σ H Q (I.wish _) hw) (fun _ _ ⟨v, H', I', r, q⟩ => ⟨v, H', I'.unwish, r, q⟩) fun _ _ z => False.elim z
theorem PT.nox {e : Expr} {t : TT} (h : PT X.nox e t) : PT X e t := fun pins s σ H Q I hw =>
  wpAny_mono (h pins s σ H Q (I.wish _) hw) (fun _ _ ⟨H', I', q⟩ => ⟨H', I'.unwish, q⟩) fun _ _ z => False.elim z
theorem PSs.nox {st : List Stmt} {t : TS} (h : PSs X.nox st t) : PSs X st t := fun pins s σ H D I hw =>
  wpAny_mono (h pins s σ H D (I.wish _) hw) (fun _ _ q => q.unwish) fun _ _ z => False.elim z
end

/-! ### blocks and small statements -/
section
variable {X : Cx} {st : Stmt} {rest : List Stmt} {t u : TS} {e : Expr} {te : TE} {pos : Pos}
def tNext : TS := fun D σ H => D.nx σ H
def tSeq (t u : TS) : TS := fun D σ H => t { D with nx := u D } σ H
theorem pss_nil : PSs X [] tNext := fun _ _ σ H _ I h => wpAny_execs_nil ⟨σ, H, I, h⟩
theorem pss_cons (h1 : PS X st t) (h2 : PSs X rest u) : PSs X (st :: rest) (tSeq t u) := by
  intro pins s σ H D I h
  refine wpAny_execs_cons (thn (h1 pins s σ H { D with nx := u D } I h) fun f s1 q => ?_)
  cases f with
  | next =>
    obtain ⟨σ', H', I', q⟩ := q
    exact h2 pins s1 σ' H' D I' q
  | ret v => exact q
  | brk => exact q
  | cont => exact q
theorem pss_one (h1 : PS X st t) : PSs X [st] t := by
  intro pins s σ H D I h
  refine wpAny_execs_cons (thn (h1 pins s σ H D I h) fun f s1 q => ?_)
  cases f with
  | next => exact wpAny_execs_nil q
  | ret v => exact q
  | brk => exact q
  | cont => exact q
def tBreak : TS := fun D σ H => D.bk σ H
def tCont : TS := fun D σ H => D.ct σ H
/-- in a def's body nothing is shown -/
theorem Inv.quiet {pins : List (Addr × Obj)} {σ : St} {H : Hp} {s : Shared} (I : Inv X pins σ H s) : interactive X.env = false := by simp [interactive, I.ok.kind]
/-- an expression whose value is dropped -/
def tDrop (te : TE) : TS := fun D σ H => te σ H fun _ H1 => D.nx σ H1
theorem ps_expr (he : PE X e te) (hs : swapsWith e none pos.line X.env = pure false := by rfl) : PS X (.Expr e pos) (tDrop te) := by
  intro pins s σ H D I h
  exact wpAny_Expr_any (thn (he pins s σ H _ I h) fun v s1 ⟨x, H1, I1, r1, q1⟩ => ⟨σ, H1, I1, q1⟩) I.quiet hs
def tRet (te : TE) : TS := fun D σ H => te σ H D.rt
theorem ps_ret (he : PE X e te) : PS X (.Return (some e) pos) (tRet te) := by
  intro pins s σ H D I h
  exact wpAny_Return_some (thn (he pins s σ H _ I h) fun v s1 ⟨x, H1, I1, r1, q1⟩ => ⟨x, σ, H1, I1, r1, q1⟩)
def tRetN : TS := fun D _ H => D.rt .non H
def tIfS (c : TT) (t u : TS) : TS := fun D σ H => c σ H fun b H1 => if b = true then t D σ H1 else u D σ H1
theorem ps_if {c : Expr} {a b : List Stmt} {tc : TT} (hc : PT X c tc) (ha : PSs X a t) (hb : PSs X b u) : PS X (.If c a b pos) (tIfS tc t u) := by
  intro pins s σ H D I h
  refine wpAny_If (thn (hc pins s σ H _ I h) fun d s1 ⟨H1, I1, q1⟩ => ?_)
  cases d with
  | true => exact ha pins s1 σ H1 D I1 q1
  | false => exact hb pins s1 σ H1 D I1 q1
/-- code that the proof never comes to -/
def tNever : TS := fun _ _ _ => False
end

/-! ### targets -/
abbrev TG := V → St → Hp → (St → Hp → Prop) → Prop
abbrev TGs := List V → St → Hp → (St → Hp → Prop) → Prop
def PG (X : Cx) (target : Expr) (t : TG) : Prop :=
  ∀ (pins : List (Addr × Obj)) (s : Shared) (σ : St) (H : Hp) (v : V) (u : Value) (Q : St → Hp → Prop), Inv X pins σ H s → RelV v u → t v σ H Q →
    wpAny (model X.prog X.w) X.A (assign target X.env u) (fun _ s' => ∃ σ' H', Inv X pins σ' H' s' ∧ Q σ' H') X.xe s
/-- several targets, one after another -/
def PGs (X : Cx) (ts : List Expr) (t : TGs) : Prop :=
  ∀ (pins : List (Addr × Obj)) (s : Shared) (σ : St) (H : Hp) (vs : List V) (us : List Value) (Q : St → Hp → Prop), Inv X pins σ H s → Vals vs us → t vs σ H Q →
    wpAny (model X.prog X.w) X.A (assignInOrder ((assignEach ts X.env).map (·.2)) us) (fun _ s' => ∃ σ' H', Inv X pins σ' H' s' ∧ Q σ' H') X.xe s
/-- o[i] = v, by values -/
abbrev TSet := V → V → V → Hp → (Hp → Prop) → Prop
def PSet (X : Cx) (t : TSet) : Prop :=
  ∀ (pins : List (Addr × Obj)) (s : Shared) (σ : St) (H : Hp) (o i v : V) (ov iv u : Value) (Q : Hp → Prop), Inv X pins σ H s → RelV o ov → RelV i iv → RelV v u → t o i v H Q →
    wpAny (model X.prog X.w) X.A (setItem ov iv u) (fun _ s' => ∃ H', Inv X pins σ H' s' ∧ Q H') X.xe s
/-- a op= b, by values -/
abbrev TIp := V → V → Hp → VK → Prop
def PIp (X : Cx) (op : Operator) (t : TIp) : Prop :=
  ∀ (pins : List (Addr × Obj)) (s : Shared) (σ : St) (H : Hp) (x y : V) (v u : Value) (Q : VK), Inv X pins σ H s → RelV x v → RelV y u → t x y H Q →
    wpAny (model X.prog X.w) X.A (inplaceOp op v u) (EP X pins σ Q) X.xe s
section
variable {X : Cx} {pos : Pos}
def gName (i : Nat) : TG := fun v σ H Q => Q (σ.set i (some v)) H
theorem pg_name {i : Nat} {x : Str} (hN : X.N.Nodup) (hi : X.N[i]? = some x) (hx : Loc X.env.scope x) (hf : X.fn x = true ∨ X.env.scope.names.lookup x = some .local := by first | exact .inl rfl | exact .inr rfl | assumption) : PG X (.Name x pos) (gName i) := by
  intro pins s σ H v u Q I r h
  exact wpAny_assign_Name (store_ok I hN hi hx r (fun s' I' => ⟨_, H, I', h⟩) hf)
def gNil : TGs := fun vs σ H Q => vs = [] ∧ Q σ H
def gCons (t : TG) (u : TGs) : TGs := fun vs σ H Q => ∃ v r, vs = v :: r ∧ t v σ H fun σ' H' => u r σ' H' Q
theorem pgs_nil : PGs X [] gNil := by
  intro pins s σ H vs us Q I r h
  obtain ⟨e, h⟩ := h
  subst e
  cases r
  exact assignInOrder_nil ⟨σ, H, I, h⟩
theorem pgs_cons {e : Expr} {es : List Expr} {t : TG} {u : TGs} (h1 : PG X e t) (h2 : PGs X es u)
    (hs : (assignEach (e :: es) X.env).map (·.2) = assign e X.env :: (assignEach es X.env).map (·.2) := by rfl) : PGs X (e :: es) (gCons t u) := by
  intro pins s σ H vs us Q I r h
  obtain ⟨v, vr, e1, h⟩ := h
  subst e1
  cases r with
  | cons r rr =>
    rw [hs]
    refine assignInOrder_cons (thn (h1 pins s σ H _ _ _ I r h) fun _ s1 ⟨σ1, H1, I1, q1⟩ => ?_)
    exact h2 pins s1 σ1 H1 _ _ Q I1 rr q1
/-- (a, b, ..) = a tuple of that length -/
def gTup (K : PySem.W.Frag) (n : Nat) (t : TGs) : TG := fun v σ H Q => ∃ a xs, v = .ref a ∧ SqT K H a xs ∧ xs.length = n ∧ t xs σ H Q
theorem pg_tup {es : List Expr} {k : Nat} {t : TGs} {n : Nat} (hc : X.calm = true) (h : PGs X es t)
    (hn : (assignEach es X.env).length = n := by rfl) (hst : (assignEach es X.env).findIdx? (·.1) = none := by rfl) : PG X (.Tuple es k pos) (gTup X.K n t) := by
  intro pins s σ H v u Q I r hw
  obtain ⟨a, xs, e1, hq, hl, hw⟩ := hw
  subst e1
  cases r
  obtain ⟨its, rv, ht, hz⟩ := I.tuple hq
  refine assign_Tuple_tuple (I.ok.hd hc) ht (by simp [hn, ← hl, rv.length]) hst fun h' hx => ?_
  have I1 : Inv X pins σ H { s with heap := h' } := I.kept (t' := s.toks) fun b o e => hx b o (Nat.ne_of_lt (Heap.lt_size e)) e
  exact h pins _ σ H xs _ Q I1 (by simpa using rv) hw
/-- o[i] = .. -/
def gSub (to ti : TE) (t : TSet) : TG := fun v σ H Q => to σ H fun o H1 => ti σ H1 fun i H2 => t o i v H2 fun H3 => Q σ H3
theorem pg_sub {o i : Expr} {to ti : TE} {t : TSet} (ho : PE X o to) (hi : PE X i ti) (hs : PSet X t)
    (ha : ∀ v, assign (.Subscript o i pos) X.env v = (do
      let ov ← holding [v] (eval o X.env)
      let iv ← holding [v, ov] (eval i X.env)
      standAt pos
      holding [v, ov, iv] (setItem ov iv v)
      release [v, ov, iv] []) := by intro _; rfl) : PG X (.Subscript o i pos) (gSub to ti t) := by
  intro pins s σ H v u Q I r h
  rw [ha]
  refine wpAny_bind (wpAny_holding (thn (ho pins s σ H _ I h) fun ov s1 ⟨x, H1, I1, r1, q1⟩ => ?_))
  refine wpAny_bind (wpAny_holding (thn (hi pins s1 σ H1 _ I1 q1) fun iv s2 ⟨y, H2, I2, r2, q2⟩ => ?_))
  refine wpAny_bind (wpAny_standAt (wpAny_bind (wpAny_holding (thn (hs pins s2 σ H2 x y v ov iv u _ I2 r1 r2 r q2) fun _ s3 ⟨H3, I3, q3⟩ => ?_))))
  exact wpAny_release ⟨σ, H3, I3, q3⟩
/-- target = value -/
def tAsg (te : TE) (g : TG) : TS := fun D σ H => te σ H fun x H1 => g x σ H1 D.nx
theorem ps_asg {tg e : Expr} {te : TE} {g : TG} (he : PE X e te) (hg : PG X tg g) (hs : swapsWithSole [tg] e pos.line X.env = pure false := by rfl) (hw : swappedStores [tg] e X.env = pure none := by rfl)
    (h1 : (assignEach [tg] X.env).map (·.2) = [assign tg X.env] := by rfl) : PS X (.Assign [tg] e pos) (tAsg te g) := by
  intro pins s σ H D I h
  refine wpAny_Assign_stores (thn (he pins s σ H _ I h) fun v s1 ⟨x, H1, I1, r1, q1⟩ => ?_) hs hw
  rw [h1]
  exact thn (hg pins s1 σ H1 x v _ I1 r1 q1) fun _ s2 q => q
/-- name = value -/
theorem ps_set {i : Nat} {x : Str} {e : Expr} {te : TE} {pos' : Pos} (hN : X.N.Nodup) (hi : X.N[i]? = some x) (hx : Loc X.env.scope x) (he : PE X e te) (hs : swapsWith e (some (.Name x pos')) pos.line X.env = pure false := by rfl) (hf : X.fn x = true ∨ X.env.scope.names.lookup x = some .local := by first | exact .inl rfl | exact .inr rfl | assumption) :
    PS X (.Assign [.Name x pos'] e pos) (tAsg te (gName i)) := by
  intro pins s σ H D I h
  refine wpAny_Assign_Name (thn (he pins s σ H _ I h) fun v s1 ⟨y, H1, I1, r1, q1⟩ => ?_) hs
  exact store_ok I1 hN hi hx r1 (fun s2 I2 => ⟨_, H1, I2, q1⟩) hf
/-- a, b = x, y with plain local names: stored from the right; the pair itself is not tracked (the opening rows as in PyProof/Rows/TupAssign.lean:23) -/
def tPar (i j : Nat) (ta : TA) : TS := fun D σ H => ta σ H fun vs H1 => ∃ v w, vs = [v, w] ∧ D.nx ((σ.set i (some v)).set j (some w)) H1
theorem ps_par {i j : Nat} {x y : Str} {a b : Expr} {ta : TA} {px py pt : Pos} {kt k2 pt2} (hc : X.calm = true) (hN : X.N.Nodup) (hi : X.N[i]? = some x) (hj : X.N[j]? = some y) (hij : i ≠ j)
    (hx : X.env.scope.names.lookup x = some .local) (hy : X.env.scope.names.lookup y = some .local) (ha : PA X [a, b] ta)
    (hw : swappedStores [.Tuple [.Name x px, .Name y py] kt pt] (.Tuple [a, b] k2 pt2) X.env = pure (some [x, y]))
    (hs : swapsWithSole [.Tuple [.Name x px, .Name y py] kt pt] (.Tuple [a, b] k2 pt2) pos.line X.env = pure false := by rfl) :
    PS X (.Assign [.Tuple [.Name x px, .Name y py] kt pt] (.Tuple [a, b] k2 pt2) pos) (tPar i j ta) := by
  intro pins s σ H D I h
  rw [exec_Assign_arm]
  refine wpAny_bind (wpAny_standAt ?_)
  rw [hs]
  refine wpAny_bind (wpAny_pure ?_)
  rw [if_neg (by decide)]
  refine wpAny_bind (Tuple_ (thn (ha _ pins s σ H _ I h) fun us s1 ⟨vs, H1, I1, r1, q1⟩ => ?_))
  obtain ⟨v, w, e1, q1⟩ := q1
  subst e1
  obtain ⟨u1, u2, rfl, rv, rw'⟩ : ∃ u1 u2, us = [u1, u2] ∧ RelV v u1 ∧ RelV w u2 := by
    cases r1 with
    | cons p q =>
      cases q with
      | cons p' q' =>
        cases q'
        exact ⟨_, _, rfl, p, p'⟩
  refine wpAny_newObj_type ?_ (by show 2 ≤ sizeLine; decide)
  have I2 : Inv X pins σ H1 { s1 with heap := s1.heap.push { cls := .type "tuple", data := .seq [u1, u2].toArray } } := I1.kept (t' := s1.toks) fun b o e => Heap.get?_push_of_some _ e
  rw [hw]
  refine wpAny_bind (wpAny_pure ?_)
  show wpAny (model X.prog X.w) X.A (do rule "assign.swapped-stores"; let items ← unpackItems (.ref s1.heap.objs.size) 2 none; assignInOrder [fun v => bindName X.env y v, fun v => bindName X.env x v] items.reverse; pure Flow.next) _ _ _
  refine wpAny_bind (wpAny_rule (wpAny_bind (unpackItems_tuple (items := #[u1, u2]) (I.ok.hd hc) (IsTup.new s1.heap _) fun h' hx' => ?_)))
  have I3 := I2.kept (h' := h') (t' := s1.toks) fun b o e => hx' b o (Nat.ne_of_lt (Heap.lt_size e)) e
  show wpAny _ _ (assignInOrder [fun v => bindName X.env y v, fun v => bindName X.env x v] [u2, u1] >>= fun _ => pure Flow.next) _ _ _
  refine wpAny_bind (assignInOrder_cons (wpAny_bindName (store_ok I3 hN hj (.inl hy) rw' (fun s2 I4 => ?_) (.inr hy))))
  refine assignInOrder_cons (wpAny_bindName (store_ok I4 hN hi (.inl hx) rv (fun s3 I5 => assignInOrder_nil (wpAny_pure ?_)) (.inr hx)))
  rw [List.set_comm _ _ (Ne.symm hij)] at I5
  exact ⟨_, H1, I5, q1⟩
/-- name op= e -/
def tAug (i : Nat) (te : TE) (ti : TIp) : TS := fun D σ H => ∃ x, σ[i]? = some (some x) ∧ te σ H fun y H1 => ti x y H1 fun z H2 => D.nx (σ.set i (some z)) H2
theorem ps_aug {i : Nat} {x : Str} {e : Expr} {te : TE} {op : Operator} {ti : TIp} {pos' : Pos} (hN : X.N.Nodup) (hi : X.N[i]? = some x) (hx : Loc X.env.scope x) (he : PE X e te) (ho : PIp X op ti) (hf : X.fn x = true ∨ X.env.scope.names.lookup x = some .local := by first | exact .inl rfl | exact .inr rfl | assumption) :
    PS X (.AugAssign (.Name x pos') op e pos) (tAug i te ti) := by
  intro pins s σ H D I h
  obtain ⟨v, e1, h⟩ := h
  obtain ⟨m, hn, hl⟩ := I.loc
  have vis : Vis X.env.scope x := by rcases hx with k | k; exact .inl k; exact .inr (.inl k)
  obtain ⟨u, r, l⟩ := hl i x v hi e1 vis
  refine wpAny_AugAssign_Name ?_
  have go : wpAny (model X.prog X.w) X.A (eval e X.env) (fun w s₂ => wpAny (model X.prog X.w) X.A (inplaceOp op u w) (fun r s₃ => wpAny (model X.prog X.w) X.A (storeName X.env x r) (fun _ => SP X pins D .next) X.xe s₃) X.xe s₂) X.xe s := by
    refine thn (he pins s σ H _ I h) fun w s1 ⟨y, H1, I1, r1, q1⟩ => ?_
    refine thn (ho pins s1 σ H1 v y u w _ I1 r r1 q1) fun z s2 ⟨zv, H2, I2, r2, q2⟩ => ?_
    exact store_ok I2 hN hi hx r2 (fun s3 I3 => ⟨_, H2, I3, q2⟩) hf
  rcases l with ⟨hk, hm⟩ | ⟨hk, c, hc, hcell⟩
  · exact wpAny_loadName_local I.ok.kind hk hn hm go
  · rcases hk with hk | hk
    · exact wpAny_loadName_cell I.ok.kind hk hc hcell go
    · rcases hx with k | k
      · have : X.env.scope.names.lookup x = some .free := hk
        rw [k] at this; cases this
      · have : X.env.scope.names.lookup x = some .free := hk
        rw [k] at this; cases this
/-- o[i] op= e -/
def tAugS (to ti te : TE) (tget : V → V → Hp → VK → Prop) (tip : TIp) (tset : TSet) : TS := fun D σ H => to σ H fun o H1 => ti σ H1 fun i H2 => tget o i H2 fun x H3 => te σ H3 fun y H4 => tip x y H4 fun z H5 => tset o i z H5 fun H6 => D.nx σ H6
/-- o[i], by values -/
def PGet (X : Cx) (t : V → V → Hp → VK → Prop) : Prop :=
  ∀ (pins : List (Addr × Obj)) (s : Shared) (σ : St) (H : Hp) (o i : V) (ov iv : Value) (Q : VK), Inv X pins σ H s → RelV o ov → RelV i iv → t o i H Q →
    wpAny (model X.prog X.w) X.A (getItem ov iv) (EP X pins σ Q) X.xe s
/-- ints -/
def ipI (f : Int → Int → Int) : TIp := fun x y H Q => ∃ i j, x = .int i ∧ y = .int j ∧ Q (.int (f i j)) H
theorem ip_add : PIp X .Add (ipI fun i j => i + j) := by
  intro pins s σ H x y v u Q I r1 r2 h
  obtain ⟨i, j, e1, e2, q⟩ := h
  subst e1; subst e2
  obtain ⟨t, rfl⟩ := r1
  obtain ⟨t', rfl⟩ := r2
  exact iadd_int ⟨.int _, H, I.tok _, ⟨_, rfl⟩, q⟩
theorem ip_sub : PIp X .Sub (ipI fun i j => i - j) := by
  intro pins s σ H x y v u Q I r1 r2 h
  obtain ⟨i, j, e1, e2, q⟩ := h
  subst e1; subst e2
  obtain ⟨t, rfl⟩ := r1
  obtain ⟨t', rfl⟩ := r2
  exact isub_int ⟨.int _, H, I.tok _, ⟨_, rfl⟩, q⟩
end

/-! ### while -/
section
variable {X : Cx} {pos : Pos}
/-- the invariant W with its measure -/
def tWhile (c : TT) (tb : TS) : TS := fun D σ H => ∃ W : Nat → St → Hp → Prop, (∃ m, W m σ H) ∧ ∀ m σ H, W m σ H →
  c σ H fun b H1 => if b = true then ∃ N : St → Hp → Prop, (∀ σ' H', N σ' H' → ∃ m', m' < m ∧ W m' σ' H') ∧ tb { D with nx := N, ct := N, bk := D.nx } σ H1 else D.nx σ H1
theorem ps_while {c : Expr} {body : List Stmt} {tc : TT} {tb : TS} (hp : PassesOwn (model X.prog X.w) X.A X.env X.xe) (hc : PT X c tc) (hb : PSs X body tb) : PS X (.While c body [] pos) (tWhile tc tb) := by
  intro pins s σ H D I h
  obtain ⟨W, ⟨m0, w0⟩, turn⟩ := h
  refine wpAny_While (codeAny_whileLoop (fun n s' => ∃ σ' H', Inv X pins σ' H' s' ∧ W n σ' H') ?_ m0 ⟨σ, H, I, w0⟩)
  rintro n s1 ⟨σ1, H1, I1, w1⟩
  refine wpAny_passesOwn hp (thn (hc pins s1 σ1 H1 _ I1 (turn n σ1 H1 w1)) fun b s2 ⟨H2, I2, q2⟩ => ?_)
  cases b with
  | true =>
    obtain ⟨N, hN, q2⟩ := q2
    rw [if_pos rfl]
    refine wpAny_passesOwn hp (thn (hb pins s2 σ1 H2 _ I2 q2) fun f s3 q3 => ?_)
    cases f with
    | next =>
      obtain ⟨σ3, H3, I3, n3⟩ := q3
      obtain ⟨m', hm, w3⟩ := hN σ3 H3 n3
      exact ⟨m', hm, σ3, H3, I3, w3⟩
    | cont =>
      obtain ⟨σ3, H3, I3, n3⟩ := q3
      obtain ⟨m', hm, w3⟩ := hN σ3 H3 n3
      exact ⟨m', hm, σ3, H3, I3, w3⟩
    | brk => exact q3
    | ret v => exact q3
  | false =>
    rw [if_neg Bool.false_ne_true]
    exact wpAny_execs_nil ⟨σ1, H2, I2, q2⟩
end

/-! ### what a loop or a comprehension walks -/
/-- at turn i: it yields x (the heap may grow), or it stops -/
structure It where
  go : Nat → Hp → Prop
  yld : Nat → Hp → V → Hp → Prop
  stop : Nat → Hp → Prop
/-- the iterator's own objects may turn: they are not the frame's, not pinned, younger than the entry (or a comprehension's own) -/
def FpOk (X : Cx) (pins : List (Addr × Obj)) (H : Hp) (b : Addr) : Prop :=
  H b = none ∧ b ≠ X.env.locals ∧ b ∉ X.fs ∧ (b ∈ X.ex ∨ X.s₀.heap.objs.size ≤ b) ∧ (∀ x c, X.env.cells.lookup x = some c → c ≠ b) ∧ ∀ p ∈ X.pn ++ pins, p.1 ≠ b
theorem Inv.fpOk {X : Cx} {pins : List (Addr × Obj)} {σ : St} {H H' : Hp} {s : Shared} {b : Addr} (I : Inv X pins σ H s) (hb : s.heap.objs.size ≤ b) (hn : H' b = none) : FpOk X pins H' b := by
  refine ⟨hn, Nat.ne_of_gt (Nat.lt_of_lt_of_le I.lt hb), I.nofs hb, .inr (Nat.le_trans I.sz hb), fun x c e z => ?_, fun p hp z => ?_⟩
  · obtain ⟨v, q⟩ := I.cell x c e
    exact absurd (Nat.lt_of_lt_of_le q.lt (by rw [z]; exact hb)) (Nat.lt_irrefl _)
  · exact absurd (Nat.lt_of_lt_of_le (Heap.lt_size (I.pin p hp).1) (by rw [z]; exact hb)) (Nat.lt_irrefl _)
structure Turn (P : Program) (w : World) (K : PySem.W.Frag) (tg : Expr) (J : It) (fp : List Addr) (it : Addr) (tn : Nat → Heap → Prop) : Prop where
  mem : it ∈ fp
  obj : ∀ i h, tn i h → ∀ b ∈ fp, ∃ o, h.get? b = some o ∧ ∀ v, o.data ≠ .cell v
  keep : ∀ i h h', tn i h → (∀ b ∈ fp, ∀ o, h.get? b = some o → h'.get? b = some o) → tn i h'
  item : ∀ (X : Cx), X.prog = P → X.w = w → X.K = K → X.calm = true → ∀ (i : Nat) (pins : List (Addr × Obj)) (s : Shared) (σ : St) (H : Hp) (E : Value → Shared → Prop), Inv X pins σ H s → (∀ b ∈ fp, FpOk X pins H b) → tn i s.heap → J.go i H →
    wpAny (model P w) X.A (pyNext (.ref it)) (fun r s1 => ∃ u, r = some u ∧
      wpAny (model P w) X.A (letOwnedTupleGo tg (.ref it) u) (fun _ s2 => ∃ x H', Inv X pins σ H' s2 ∧ RelV x u ∧ J.yld i H x H' ∧ tn (i + 1) s2.heap ∧ ∀ b ∈ fp, H' b = none) E s1) E s
  done : ∀ (X : Cx), X.prog = P → X.w = w → X.K = K → X.calm = true → ∀ (i : Nat) (pins : List (Addr × Obj)) (s : Shared) (σ : St) (H : Hp) (E : Value → Shared → Prop), Inv X pins σ H s → (∀ b ∈ fp, FpOk X pins H b) → tn i s.heap → J.stop i H →
    wpAny (model P w) X.A (pyNext (.ref it)) (fun r s1 => r = none ∧ Inv X pins σ H s1) E s
  self : ∀ (A : Around) (i : Nat) (s : Shared) (Q : Value → Shared → Prop) (E : Value → Shared → Prop), tn i s.heap → Q (.ref it) s → wpAny (model P w) A (pyIter (.ref it)) Q E s
abbrev TI := St → Hp → (It → Hp → Prop) → Prop
/-- an iterator has come -/
def PIE (X : Cx) (pins : List (Addr × Obj)) (σ : St) (tg : Expr) (R : It → Hp → Prop) (itv : Value) (s2 : Shared) : Prop :=
  ∃ (it : Addr) (fp : List Addr) (tn : Nat → Heap → Prop) (J : It) (H' : Hp), itv = .ref it ∧ Inv X pins σ H' s2 ∧ Turn X.prog X.w X.K tg J fp it tn ∧ tn 0 s2.heap ∧ (∀ b ∈ fp, FpOk X pins H' b) ∧ R J H'
def PI (X : Cx) (tg iter : Expr) (wi : TI) : Prop :=
  ∀ (pins : List (Addr × Obj)) (s : Shared) (σ : St) (H : Hp) (R : It → Hp → Prop), Inv X pins σ H s → wi σ H R →
    wpAny (model X.prog X.w) X.A (eval iter X.env) (fun v s1 => wpAny (model X.prog X.w) X.A (pyIter v) (PIE X pins σ tg R) X.xe s1) X.xe s

/-- the step ahead of the store is nothing for an iterator that keeps no tuple -/
theorem go_of {M : Model} {A : Around} {E : Value → Shared → Prop} {s : Shared} {tg : Expr} {it : Addr} {u : Value} {o : Obj} {n : String} {vs : Array Value} {Q : Unit → Shared → Prop} (ho : s.heap.get? it = some o) (hc : o.cls = .type n) (hd : o.data = .fields vs)
    (hn : ["enumerate", "zip", "dict_itemiterator", "dict_reverseitemiterator", "odict_iterator", "itertools.zip_longest", "itertools.pairwise"].contains n = false) (hQ : Q () s) : wpAny M A (letOwnedTupleGo tg (.ref it) u) Q E s := by
  unfold letOwnedTupleGo
  cases tg <;> first
    | exact wpAny_pure hQ
    | (cases u <;> first
        | exact wpAny_pure hQ
        | (refine wpAny_bind (wpAny_load ho ?_)
           rw [hc, hd]
           show wpAny M A (if (["enumerate", "zip", "dict_itemiterator", "dict_reverseitemiterator", "odict_iterator", "itertools.zip_longest", "itertools.pairwise"].contains n && vs[0]? == some (rawInt _)) = true then _ else _) Q E s
           rw [if_neg (by intro h; rw [hn, Bool.false_and] at h; cases h)]
           exact wpAny_pure hQ))

/-- the list at a, as it stands at each turn (a loop may append to it) -/
def Itl (K : PySem.W.Frag) (a : Addr) : It :=
  ⟨fun i H => ∃ xs x, SqL K H a xs ∧ xs[i]? = some x, fun i H x H' => H' = H ∧ ∀ xs, SqL K H a xs → xs[i]? = some x, fun i H => ∃ xs, SqL K H a xs ∧ xs.length ≤ i⟩
def Itt (K : PySem.W.Frag) (a : Addr) : It :=
  ⟨fun i H => ∃ xs x, SqT K H a xs ∧ xs[i]? = some x, fun i H x H' => H' = H ∧ ∀ xs, SqT K H a xs → xs[i]? = some x, fun i H => ∃ xs, SqT K H a xs ∧ xs.length ≤ i⟩
/-- lo, lo + 1, .. (n of them) -/
def Itr (lo : Int) (n : Nat) : It := ⟨fun i _ => i < n, fun i H x H' => H' = H ∧ x = .int (lo + i), fun i _ => n ≤ i⟩
theorem turn_list {P : Program} {w : World} {K : PySem.W.Frag} {tg : Expr} (a it : Addr) : Turn P w K tg (Itl K a) [it] it (fun i h => h.IsListIter it a i) where
  mem := by simp
  obj := fun i h st b hb => by
    have e : b = it := by simpa using hb
    subst e
    obtain ⟨o, e, c, d⟩ := st
    exact ⟨o, e, fun v z => by rw [d] at z; cases z⟩
  keep := fun i h h' st k => st.at fun o e => k it (by simp) o e
  item := by
    intro X hP hw hK hc i pins s σ H E I hf st hg
    subst hP hw hK
    obtain ⟨xs, x, hq, hx⟩ := hg
    obtain ⟨its, rv, p, hz⟩ := I.list hq
    obtain ⟨u, hu, ru⟩ := rv.get hx
    obtain ⟨f0, f1, f2, f3, f4, f5⟩ := hf it (by simp)
    refine wpAny_pyNext_list_item st p.isList (x := u) (by simpa using hu) fun h' st' sb => ?_
    have I1 : Inv X pins σ H { s with heap := h' } := I.turned (t' := s.toks) (fun b o hb e => (sb.2 b hb).trans e) f0 f1 f3 f4 f5
    obtain ⟨o, e, c, d⟩ := id st'
    exact ⟨u, rfl, go_of (s := { s with heap := h' }) e c d (by decide) ⟨x, H, I1, ru, ⟨rfl, fun ys hy => by rw [I.list_inj hy hq]; exact hx⟩, st', fun b hb => (hf b hb).1⟩⟩
  done := by
    intro X hP hw hK hc i pins s σ H E I hf st hg
    subst hP hw hK
    obtain ⟨xs, hq, hx⟩ := hg
    obtain ⟨its, rv, p, hz⟩ := I.list hq
    obtain ⟨f0, f1, f2, f3, f4, f5⟩ := hf it (by simp)
    have hl := rv.length
    exact wpAny_pyNext_list_end (I.ok.hd hc) st p.isList (by simp; omega) fun h' eb => ⟨rfl, I.turned (t' := s.toks) (fun b o hb e => eb b o hb e) f0 f1 f3 f4 f5⟩
  self := fun _ _ _ _ _ st h => wpAny_pyIter_listiter st h
theorem turn_tuple {P : Program} {w : World} {K : PySem.W.Frag} {tg : Expr} (a it : Addr) : Turn P w K tg (Itt K a) [it] it (fun i h => h.IsTupleIter it a i) where
  mem := by simp
  obj := fun i h st b hb => by
    have e : b = it := by simpa using hb
    subst e
    obtain ⟨o, e, c, d⟩ := st
    exact ⟨o, e, fun v z => by rw [d] at z; cases z⟩
  keep := fun i h h' st k => st.at fun o e => k it (by simp) o e
  item := by
    intro X hP hw hK hc i pins s σ H E I hf st hg
    subst hP hw hK
    obtain ⟨xs, x, hq, hx⟩ := hg
    obtain ⟨its, rv, p, hz⟩ := I.tuple hq
    obtain ⟨u, hu, ru⟩ := rv.get hx
    obtain ⟨f0, f1, f2, f3, f4, f5⟩ := hf it (by simp)
    refine wpAny_pyNext_tuple_item st (show s.heap.IsTuple a its.toArray from p) (x := u) (by simpa using hu) fun h' st' sb => ?_
    have I1 : Inv X pins σ H { s with heap := h' } := I.turned (t' := s.toks) (fun b o hb e => (sb.2 b hb).trans e) f0 f1 f3 f4 f5
    obtain ⟨o, e, c, d⟩ := id st'
    exact ⟨u, rfl, go_of (s := { s with heap := h' }) e c d (by decide) ⟨x, H, I1, ru, ⟨rfl, fun ys hy => by rw [I.tuple_inj hy hq]; exact hx⟩, st', fun b hb => (hf b hb).1⟩⟩
  done := by
    intro X hP hw hK hc i pins s σ H E I hf st hg
    subst hP hw hK
    obtain ⟨xs, hq, hx⟩ := hg
    obtain ⟨its, rv, p, hz⟩ := I.tuple hq
    obtain ⟨f0, f1, f2, f3, f4, f5⟩ := hf it (by simp)
    have hl := rv.length
    exact wpAny_pyNext_tuple_end (I.ok.hd hc) st (show s.heap.IsTuple a its.toArray from p) (by simp; omega) fun h' eb => ⟨rfl, I.turned (t' := s.toks) (fun b o hb e => eb b o hb e) f0 f1 f3 f4 f5⟩
  self := fun _ _ _ _ _ st h => wpAny_pyIter_tupleiter st h
theorem turn_range {P : Program} {w : World} {K : PySem.W.Frag} {tg : Expr} (it : Addr) (lo : Int) (n : Nat) : Turn P w K tg (Itr lo n) [it] it (fun i h => IsRangeIter h it (lo + (i : Nat) * 1) ((n : Int) - (i : Nat)) 1) where
  mem := by simp
  obj := fun i h st b hb => by
    have e : b = it := by simpa using hb
    subst e
    exact ⟨_, st, fun v z => by
      have z' : Data.fields _ = Data.cell v := z
      cases z'⟩
  keep := fun i h h' st k => k it (by simp) _ st
  item := by
    intro X hP hw hK hc i pins s σ H E I hf st hg
    subst hP hw hK
    obtain ⟨f0, f1, f2, f3, f4, f5⟩ := hf it (by simp)
    have W := Walks.range (prog := X.prog) (w := X.w) (I.ok.hd hc) it lo 1 n
    refine W.item i s _ _ hg st fun v h' tk hv st' kk => ?_
    obtain ⟨t, rfl⟩ := hv
    have I1 : Inv X pins σ H { s with heap := h', toks := tk } := I.turned (fun b o hb e => kk b o (by simpa using hb) e) f0 f1 f3 f4 f5
    refine ⟨_, rfl, go_of (s := { s with heap := h', toks := tk }) (n := "range_iterator") st' rfl rfl (by decide) ⟨.int (lo + i), H, I1, ⟨t, ?_⟩, ⟨rfl, rfl⟩, st', fun b hb => (hf b hb).1⟩⟩
    rw [Int.mul_one]
  done := by
    intro X hP hw hK hc i pins s σ H E I hf st hg
    subst hP hw hK
    obtain ⟨f0, f1, f2, f3, f4, f5⟩ := hf it (by simp)
    exact wpAny_pyNext_range_end (I.ok.hd hc) st (by have : n ≤ i := hg; omega) fun h' eb => ⟨rfl, I.turned (t' := s.toks) (fun b o hb e => eb b o hb e) f0 f1 f3 f4 f5⟩
  self := fun _ _ _ _ _ st h => wpAny_pyIter_rangeiter st h
end L2

namespace L2
open PySem PySem.Spec PyProof.Rows
section
variable {X : Cx} {tg : Expr}
def iList (K : PySem.W.Frag) (tl : TE) : TI := fun σ H R => tl σ H fun x H1 => ∃ a, x = .ref a ∧ (∃ xs, SqL K H1 a xs) ∧ R (Itl K a) H1
def iTup (K : PySem.W.Frag) (tl : TE) : TI := fun σ H R => tl σ H fun x H1 => ∃ a, x = .ref a ∧ (∃ xs, SqT K H1 a xs) ∧ R (Itt K a) H1
/-- a range object just made, walked -/
theorem range_it {pins : List (Addr × Obj)} {σ : St} {H : Hp} {s : Shared} {R : It → Hp → Prop} {E : Value → Shared → Prop} {lo hi : Int} {t u v : Tok} {tk : Nat} (I : Inv X pins σ H s) (h1 : -(2 ^ 62) ≤ lo) (h2 : lo < 2 ^ 62) (h3 : -(2 ^ 62) ≤ hi) (h4 : hi < 2 ^ 62)
    (q : R (Itr lo (hi - lo).toNat) H) : wpAny (model X.prog X.w) X.A (pyIter (.ref s.heap.objs.size)) (PIE X pins σ tg R) E { s with heap := s.heap.push { cls := .type "range", data := .fields #[.int lo t, .int hi u, .int 1 v] }, toks := tk } := by
  refine wpAny_pyIter_range (IsRange.new ..) (small_one h1 h2 h3 h4) ?_
  have I1 : Inv X pins σ H { s with heap := s.heap.push { cls := .type "range", data := .fields #[.int lo t, .int hi u, .int 1 v] }, toks := tk } := I.kept fun b o e => Heap.get?_push_of_some _ e
  refine ⟨(s.heap.push { cls := .type "range", data := .fields #[.int lo t, .int hi u, .int 1 v] }).objs.size, [(s.heap.push { cls := .type "range", data := .fields #[.int lo t, .int hi u, .int 1 v] }).objs.size], _, _, H, rfl,
    I1.kept (t' := tk) fun b o e => Heap.get?_push_of_some _ e, turn_range _ lo (hi - lo).toNat, ?_, fun b hb => ?_, q⟩
  · have e1 : lo + ((0 : Nat) : Int) * 1 = lo := by simp
    have e2 : (((hi - lo).toNat : Nat) : Int) - ((0 : Nat) : Int) = Builtin.Range.rangeSize lo hi 1 := by rw [rangeSize_one]; split <;> omega
    show IsRangeIter _ _ (lo + ((0 : Nat) : Int) * 1) ((((hi - lo).toNat : Nat) : Int) - ((0 : Nat) : Int)) 1
    rw [e1, e2]
    exact Heap.get?_push_size _ rfl
  · have e : b = (s.heap.push { cls := .type "range", data := .fields #[.int lo t, .int hi u, .int 1 v] }).objs.size := by simpa using hb
    subst e
    exact I1.fpOk (Nat.le_refl _) (I1.hok.fresh (Nat.le_refl _))
def iRng1 (ta : TA) : TI := fun σ H R => ta σ H fun vs H1 => ∃ j : Int, vs = [.int j] ∧ -(2 ^ 62) ≤ j ∧ j < 2 ^ 62 ∧ R (Itr 0 j.toNat) H1
def iRng2 (ta : TA) : TI := fun σ H R => ta σ H fun vs H1 => ∃ i j : Int, vs = [.int i, .int j] ∧ (-(2 ^ 62) ≤ i ∧ i < 2 ^ 62 ∧ -(2 ^ 62) ≤ j ∧ j < 2 ^ 62) ∧ R (Itr i (j - i).toNat) H1
theorem pi_range1 {a : Expr} {ta : TA} {p pos : Pos} (hg : Gl X "range") (hm : X.mg "range" = none) (ha : PA X [a] ta) (hs : starEach [a] X.env = [(false, eval a X.env)] := by rfl) : PI X tg (.Call (.Name "range" p) [a] [] pos) (iRng1 ta) := by
  intro pins s σ H R I h
  refine Call_ (ld_blt I hg hm boot_range (PyProof.Rows.callWith_type1 (thn (ha pos pins s σ H _ I h) fun us s1 ⟨vs, H1, I1, r1, q1⟩ => ?_) hs rfl))
  obtain ⟨j, e, q1, q2, q⟩ := q1
  subst e
  cases r1 with
  | cons r rr =>
    cases rr
    obtain ⟨t, rfl⟩ := r
    exact call_range_1 (range_it I1 (by omega) (by omega) q1 q2 (by simpa using q))
/-! ### for -/
/-- W: the invariant by the turn and a measure; N: what the body is to reach -/
def tFor (wi : TI) (g : TG) (tb : TS) : TS := fun D σ H => wi σ H fun J H1 => ∃ W : Nat → Nat → St → Hp → Prop, (∃ m, W 0 m σ H1) ∧ ∀ i m σ H, W i m σ H →
  (J.stop i H ∧ D.nx σ H) ∨ (J.go i H ∧ ∃ N : St → Hp → Prop, (∀ σ' H', N σ' H' → ∃ m', m' < m ∧ W (i + 1) m' σ' H') ∧ ∀ x H', J.yld i H x H' → g x σ H' fun σ2 H2 => tb { D with nx := N, ct := N, bk := D.nx } σ2 H2)
/-- the records at fp as they stand -/
def pinsAt (fp : List Addr) (h : Heap) : List (Addr × Obj) := fp.filterMap fun b => (h.get? b).map fun o => (b, o)
theorem mem_pinsAt {fp : List Addr} {h : Heap} {b : Addr} {o : Obj} (hb : b ∈ fp) (e : h.get? b = some o) : (b, o) ∈ pinsAt fp h := List.mem_filterMap.mpr ⟨b, hb, by rw [e]; rfl⟩
theorem of_pinsAt {fp : List Addr} {h : Heap} {p : Addr × Obj} (hp : p ∈ pinsAt fp h) : p.1 ∈ fp ∧ h.get? p.1 = some p.2 := by
  obtain ⟨b, hb, e⟩ := List.mem_filterMap.mp hp
  cases q : h.get? b with
  | none => rw [q] at e; cases e
  | some o =>
    rw [q] at e
    have e' : (b, o) = p := Option.some.inj e
    subst e'
    exact ⟨hb, q⟩
theorem Inv.pinned {pins : List (Addr × Obj)} {σ : St} {H : Hp} {s : Shared} {fp : List Addr} (I : Inv X pins σ H s) (hf : ∀ b ∈ fp, FpOk X pins H b) (ho : ∀ b ∈ fp, ∃ o, s.heap.get? b = some o ∧ ∀ v, o.data ≠ .cell v) : Inv X (pins ++ pinsAt fp s.heap) σ H s :=
  I.pins_of fun p hp => (List.mem_append.mp hp).elim (fun z => I.pin p (List.mem_append_right _ z)) fun z => by
    obtain ⟨hb, e⟩ := of_pinsAt z
    obtain ⟨f0, f1, f2, _⟩ := hf p.1 hb
    obtain ⟨o, e', d⟩ := ho p.1 hb
    rw [e] at e'; cases e'
    exact ⟨e, f0, f1, f2, d⟩
theorem Inv.unpinned {pins pl : List (Addr × Obj)} {σ : St} {H : Hp} {s : Shared} (I : Inv X (pins ++ pl) σ H s) : Inv X pins σ H s := I.pins_of fun p hp => I.pin p (List.mem_append_right _ (List.mem_append_left _ hp))
theorem ps_for {iter : Expr} {body : List Stmt} {wi : TI} {g : TG} {tb : TS} {pos : Pos} (hp : PassesOwn (model X.prog X.w) X.A X.env X.xe) (hc : X.calm = true) (hi : PI X tg iter wi) (hg : PG X tg g) (hb : PSs X body tb)
    (hs : ∀ x, foldedSetIterable iter X.env x = pure x := by intro _; rfl) : PS X (.For tg iter body [] pos) (tFor wi g tb) := by
  intro pins s σ H D I h
  refine wpAny_For (thn (hi pins s σ H _ I h) fun v s1 h1 => thn h1 fun itv s2 h2 => ?_) hs
  obtain ⟨it, fp, tn, J, H2, e, I2, T, st2, f2, W, ⟨m0, w0⟩, turn⟩ := h2
  subst e
  -- what stays true of the iterator's objects through the loop
  have stat : ∀ {H' : Hp}, (∀ b ∈ fp, H' b = none) → ∀ b ∈ fp, FpOk X pins H' b := fun hn b hb => ⟨hn b hb, (f2 b hb).2⟩
  refine codeAny_forLoop_any (fun n s' => ∃ i σ' H', Inv X pins σ' H' s' ∧ tn i s'.heap ∧ (∀ b ∈ fp, H' b = none) ∧ W i n σ' H') ?_ m0 ⟨0, σ, H2, I2, st2, fun b hb => (f2 b hb).1, w0⟩
  rintro n s3 ⟨i, σ3, H3, I3, st3, fr3, w3⟩
  rcases turn i n σ3 H3 w3 with ⟨stop, qn⟩ | ⟨go, N, hN, step⟩
  · refine wpAny_passesOwn hp (thn (T.done X rfl rfl rfl hc i pins s3 σ3 H3 X.xe I3 (stat fr3) st3 stop) fun r s4 ⟨hr, I4⟩ => ?_)
    subst hr
    exact wpAny_execs_nil ⟨σ3, H3, I4, qn⟩
  · refine wpAny_passesOwn hp (thn (T.item X rfl rfl rfl hc i pins s3 σ3 H3 X.xe I3 (stat fr3) st3 go) fun r s4 ⟨u, hr, h4⟩ => ?_)
    subst hr
    refine wpAny_passesOwn hp (thn h4 fun _ s5 ⟨x, H5, I5, r5, y5, st5, fr5⟩ => ?_)
    have I5' := I5.pinned (stat fr5) (T.obj _ _ st5)
    refine wpAny_passesOwn hp (thn (hg _ s5 σ3 H5 x u _ I5' r5 (step x H5 y5)) fun _ s6 ⟨σ6, H6, I6, q6⟩ => ?_)
    refine wpAny_passesOwn hp (thn (hb _ s6 σ6 H6 _ I6 q6) fun f s7 q7 => ?_)
    have again : ∀ {σ7 : St} {H7 : Hp}, Inv X (pins ++ pinsAt fp s5.heap) σ7 H7 s7 → N σ7 H7 → ∃ m, m < n ∧ ∃ i σ' H', Inv X pins σ' H' s7 ∧ tn i s7.heap ∧ (∀ b ∈ fp, H' b = none) ∧ W i m σ' H' := fun {σ7 H7} I7 n7 => by
      obtain ⟨m', hm, w7⟩ := hN σ7 H7 n7
      refine ⟨m', hm, i + 1, σ7, H7, I7.unpinned, T.keep _ _ _ st5 fun b hb o e => (I7.pin (b, o) (List.mem_append_right _ (List.mem_append_right _ (mem_pinsAt hb e)))).1, fun b hb => ?_, w7⟩
      obtain ⟨o, e, d⟩ := T.obj _ _ st5 b hb
      exact (I7.pin (b, o) (List.mem_append_right _ (List.mem_append_right _ (mem_pinsAt hb e)))).2.1
    cases f with
    | next => obtain ⟨σ7, H7, I7, n7⟩ := q7; exact again I7 n7
    | cont => obtain ⟨σ7, H7, I7, n7⟩ := q7; exact again I7 n7
    | brk => obtain ⟨σ7, H7, I7, q7⟩ := q7; exact ⟨σ7, H7, I7.unpinned, q7⟩
    | ret v => obtain ⟨x7, σ7, H7, I7, r7, q7⟩ := q7; exact ⟨x7, σ7, H7, I7.unpinned, r7, q7⟩
end

/-! ### the forms one uses -/
end L2

namespace L2
open PySem PySem.Spec PyProof.Rows

abbrev R2 := V → V → Hp → VK → Prop
/-- a two-place operation on values: f is binaryOp op, inplaceOp op or compareOp op -/
def OpR (X : Cx) (f : Value → Value → Sem Value) (r : R2) : Prop :=
  ∀ (pins : List (Addr × Obj)) (s : Shared) (σ : St) (H : Hp) (x y : V) (v u : Value) (Q : VK), Inv X pins σ H s → RelV x v → RelV y u → r x y H Q →
    wpAny (model X.prog X.w) X.A (f v u) (EP X pins σ Q) X.xe s
/-- a one-place operation -/
def UnR (X : Cx) (f : Value → Sem Value) (r : V → Hp → VK → Prop) : Prop :=
  ∀ (pins : List (Addr × Obj)) (s : Shared) (σ : St) (H : Hp) (x : V) (v : Value) (Q : VK), Inv X pins σ H s → RelV x v → r x H Q →
    wpAny (model X.prog X.w) X.A (f v) (EP X pins σ Q) X.xe s
/-- a call of a value that is known (a builtin, a type) with values -/
def CallR (X : Cx) (f : Value) (r : List V → Hp → VK → Prop) : Prop :=
  ∀ (pins : List (Addr × Obj)) (s : Shared) (σ : St) (H : Hp) (xs : List V) (us : List Value) (Q : VK), Inv X pins σ H s → Vals xs us → r xs H Q →
    wpAny (model X.prog X.w) X.A (call f us) (EP X pins σ Q) X.xe s
/-- a value's truth -/
def TruR (X : Cx) (r : V → Hp → (Bool → Hp → Prop) → Prop) : Prop :=
  ∀ (pins : List (Addr × Obj)) (s : Shared) (σ : St) (H : Hp) (x : V) (v : Value) (Q : Bool → Hp → Prop), Inv X pins σ H s → RelV x v → r x H Q →
    wpAny (model X.prog X.w) X.A (truthy v) (TP X pins σ Q) X.xe s

def tOp (r : R2) (ta tb : TE) : TE := fun σ H Q => ta σ H fun x H1 => tb σ H1 fun y H2 => r x y H2 Q
def tUn (r : V → Hp → VK → Prop) (ta : TE) : TE := fun σ H Q => ta σ H fun x H1 => r x H1 Q
/-- ints in, under C, and a value out -/
def rI (C : Int → Int → Prop) (g : Int → Int → V) : R2 := fun x y H Q => ∃ i j, x = .int i ∧ y = .int j ∧ C i j ∧ Q (g i j) H
def rI0 (g : Int → Int → V) : R2 := fun x y H Q => ∃ i j, x = .int i ∧ y = .int j ∧ Q (g i j) H
def rU (g : Int → V) : V → Hp → VK → Prop := fun x H Q => ∃ i, x = .int i ∧ Q (g i) H

section
variable {X : Cx} {a b c : Expr} {ta tb tc : TE} {pos : Pos}

theorem binT (ha : PE X a ta) (hb : PE X b tb) {pins : List (Addr × Obj)} {s : Shared} {σ : St} {H : Hp} {R : V → V → Hp → Prop} (I : Inv X pins σ H s)
    (h : ta σ H fun x H1 => tb σ H1 fun y H2 => R x y H2) {Q : Value → Shared → Prop} {f : Value → Value → Sem Value}
    (hf : ∀ v u s2 x y H2, Inv X pins σ H2 s2 → RelV x v → RelV y u → R x y H2 → wpAny (model X.prog X.w) X.A (f v u) Q X.xe s2) :
    wpAny (model X.prog X.w) X.A (eval a X.env) (fun v s₁ => wpAny (model X.prog X.w) X.A (eval b X.env) (fun u s₂ => wpAny (model X.prog X.w) X.A (f v u) Q X.xe s₂) X.xe s₁) X.xe s := by
  refine thn (ha pins s σ H _ I h) fun v s1 ⟨x, H1, I1, r1, q1⟩ => ?_
  refine thn (hb pins s1 σ H1 _ I1 q1) fun u s2 ⟨y, H2, I2, r2, q2⟩ => ?_
  exact hf v u s2 x y H2 I2 r1 r2 q2

theorem pe_op {op : Operator} {r : R2} (ho : OpR X (binaryOp op) r) (ha : PE X a ta) (hb : PE X b tb) : PE X (.BinOp a op b pos) (tOp r ta tb) := by
  intro pins s σ H Q I h
  exact wpAny_BinOp (binT ha hb I h fun v u s2 x y H2 I2 rx ry q => ho pins s2 σ H2 x y v u Q I2 rx ry q)
theorem pe_un {op : UnaryOp} {r : V → Hp → VK → Prop} (ho : UnR X (unaryOp op) r) (ha : PE X a ta) : PE X (.UnaryOp op a pos) (tUn r ta) := by
  intro pins s σ H Q I h
  exact UnaryOp_ (thn (ha pins s σ H _ I h) fun v s1 ⟨x, H1, I1, r1, q1⟩ => ho pins s1 σ H1 x v Q I1 r1 q1)
/-! ### ints -/
theorem opI {f : Value → Value → Sem Value} {C : Int → Int → Prop} {g : Int → Int → Int}
    (rule : ∀ (i j : Int) (t u : Tok) (s : Shared) (Q : Value → Shared → Prop) (E : Value → Shared → Prop), C i j → Q (.int (g i j) s.toks) { s with toks := s.toks + 1 } → wpAny (model X.prog X.w) X.A (f (.int i t) (.int j u)) Q E s) :
    OpR X f (rI C fun i j => .int (g i j)) := by
  intro pins s σ H x y v u Q I rx ry h
  obtain ⟨i, j, rfl, rfl, hc, q⟩ := h
  obtain ⟨t, rfl⟩ := rx
  obtain ⟨t', rfl⟩ := ry
  exact rule i j t t' s _ _ hc ⟨.int (g i j), H, I.tok _, ⟨_, rfl⟩, q⟩
theorem opI0 {f : Value → Value → Sem Value} {g : Int → Int → Int}
    (rule : ∀ (i j : Int) (t u : Tok) (s : Shared) (Q : Value → Shared → Prop) (E : Value → Shared → Prop), Q (.int (g i j) s.toks) { s with toks := s.toks + 1 } → wpAny (model X.prog X.w) X.A (f (.int i t) (.int j u)) Q E s) :
    OpR X f (rI0 fun i j => .int (g i j)) := by
  intro pins s σ H x y v u Q I rx ry h
  obtain ⟨i, j, rfl, rfl, q⟩ := h
  obtain ⟨t, rfl⟩ := rx
  obtain ⟨t', rfl⟩ := ry
  exact rule i j t t' s _ _ ⟨.int (g i j), H, I.tok _, ⟨_, rfl⟩, q⟩
theorem opB0 {f : Value → Value → Sem Value} {g : Int → Int → Bool}
    (rule : ∀ (i j : Int) (t u : Tok) (s : Shared) (Q : Value → Shared → Prop) (E : Value → Shared → Prop), Q (.bool (g i j)) s → wpAny (model X.prog X.w) X.A (f (.int i t) (.int j u)) Q E s) :
    OpR X f (rI0 fun i j => .bl (g i j)) := by
  intro pins s σ H x y v u Q I rx ry h
  obtain ⟨i, j, rfl, rfl, q⟩ := h
  obtain ⟨t, rfl⟩ := rx
  obtain ⟨t', rfl⟩ := ry
  exact rule i j t t' s _ _ ⟨.bl (g i j), H, I, rfl, q⟩

def CDiv (i j : Int) : Prop := 0 < j ∧ j < 1073741824
def CDivN (i j : Int) : Prop := j ≠ 0 ∧ j.natAbs < 1073741824
def CPow (i j : Int) : Prop := 0 ≤ j ∧ j ≤ 1000000 ∧ i.natAbs < 2 ^ 64
def CMul (i j : Int) : Prop := (-(2 ^ 64) < i ∧ i < 2 ^ 64) ∨ (-(2 ^ 64) < j ∧ j < 2 ^ 64)
theorem CMul.ok {i j : Int} (h : CMul i j) : IntMulOk i j := by
  rcases h with ⟨h1, h2⟩ | ⟨h1, h2⟩
  · exact .of_left (intBits_le_64 h1 h2)
  · exact .of_right (intBits_le_64 h1 h2)
theorem op_add : OpR X (binaryOp .Add) (rI0 fun i j => .int (i + j)) := opI0 fun _ _ _ _ _ _ _ q => add_int q
theorem op_sub : OpR X (binaryOp .Sub) (rI0 fun i j => .int (i - j)) := opI0 fun _ _ _ _ _ _ _ q => sub_int q
theorem op_mul : OpR X (binaryOp .Mult) (rI CMul fun i j => .int (i * j)) := opI fun _ _ _ _ _ _ _ hc q => mul_int q hc.ok
/-- % by a positive divisor of any size -/
theorem op_mod : OpR X (binaryOp .Mod) (rI (fun _ j => 0 < j) fun i j => .int (i % j)) := opI fun i j _ _ _ _ _ hc q => by
  have h1 : (0 : Int) < j := hc
  exact mod_int' (by omega) (by rw [Int.fmod_eq_emod_of_nonneg i (by omega)]; exact q)
theorem op_pow : OpR X (binaryOp .Pow) (rI CPow fun i j => .int (i ^ j.toNat)) := opI fun _ _ _ _ _ _ _ hc q => pow_int_small hc.1 hc.2.1 hc.2.2 q
theorem unI {f : Value → Sem Value} {g : Int → Int}
    (rule : ∀ (i : Int) (t : Tok) (s : Shared) (Q : Value → Shared → Prop) (E : Value → Shared → Prop), Q (.int (g i) s.toks) { s with toks := s.toks + 1 } → wpAny (model X.prog X.w) X.A (f (.int i t)) Q E s) :
    UnR X f (rU fun i => .int (g i)) := by
  intro pins s σ H x v Q I rx h
  obtain ⟨i, rfl, q⟩ := h
  obtain ⟨t, rfl⟩ := rx
  exact rule i t s _ _ ⟨.int (g i), H, I.tok _, ⟨_, rfl⟩, q⟩
theorem un_neg : UnR X (unaryOp .USub) (rU fun i => .int (-i)) := unI fun _ _ _ _ _ q => neg_int q
/-! ### bools among ints: n += (a < b) -/
end

/-! ### comparisons -/
/-- the scalars that == tells apart as data does -/
def scal : V → V → Bool
  | .non, .non => true | .non, .int _ => true | .int _, .non => true | .non, .bl _ => true | .bl _, .non => true | .non, .str _ => true | .str _, .non => true
  | .int _, .int _ => true | .bl _, .bl _ => true | .str _, .str _ => true | .byt _, .byt _ => true
  | .int _, .str _ => true | .str _, .int _ => true | .bl _, .str _ => true | .str _, .bl _ => true
  | _, _ => false
def rEq : R2 := fun x y H Q => scal x y = true ∧ Q (.bl (decide (x = y))) H
def rNe : R2 := fun x y H Q => scal x y = true ∧ Q (.bl (!decide (x = y))) H

section
variable {X : Cx} {a b c : Expr} {ta tb tc : TE} {pos : Pos}
theorem op_lt : OpR X (compareOp .Lt) (rI0 fun i j => .bl (decide (i < j))) := opB0 fun _ _ _ _ _ _ _ q => lt_int q
theorem op_le : OpR X (compareOp .LtE) (rI0 fun i j => .bl (decide (i ≤ j))) := opB0 fun _ _ _ _ _ _ _ q => le_int q
theorem op_gt : OpR X (compareOp .Gt) (rI0 fun i j => .bl (decide (j < i))) := opB0 fun _ _ _ _ _ _ _ q => gt_int q
theorem op_ge : OpR X (compareOp .GtE) (rI0 fun i j => .bl (decide (j ≤ i))) := opB0 fun _ _ _ _ _ _ _ q => ge_int q
/-- is, is not of two objects that are tracked lists or instances -/
def isObj : HO → Bool
  | .lst _ => true
  | .ins _ _ _ => true
  | _ => false
theorem obj_there {pins : List (Addr × Obj)} {s : Shared} {σ : St} {H : Hp} {a : Addr} {o : HO} (I : Inv X pins σ H s) (h : H a = some o) (p : isObj o = true) : ∃ ob, s.heap.get? a = some ob ∧ ob.cls ≠ .type "tuple" := by
  cases o with
  | lst xs =>
    obtain ⟨_, its, n, _, e⟩ : xs.length ≤ sizeLine ∧ ∃ (its : List Value) (n : Nat), Vals xs its ∧ s.heap.get? a = some { cls := .type "list", data := .seq its.toArray n } := I.hok a _ h
    exact ⟨_, e, (by show Value.type "list" ≠ .type "tuple"; decide +kernel)⟩
  | ins C dx fs =>
    have x := I.hok a _ h
    obtain ⟨_, _, _, e, _⟩ := x
    exact ⟨_, e, (by show Value.ref C ≠ .type "tuple"; exact fun z => by cases z)⟩
  | _ => exact absurd (show false = true from p) Bool.false_ne_true
/-- two rules for one operation: by cases -/
theorem OpR.or {f : Value → Value → Sem Value} {r r' : R2} (h : OpR X f r) (h' : OpR X f r') : OpR X f (fun x y H Q => r x y H Q ∨ r' x y H Q) := by
  intro pins s σ H x y v u Q I rx ry q
  rcases q with q | q
  · exact h pins s σ H x y v u Q I rx ry q
  · exact h' pins s σ H x y v u Q I rx ry q

theorem nomark (b : Expr) {op : CmpOp} (h : op ≠ .In := by decide) (h2 : op ≠ .NotIn := by decide) : behindInMarks op b = false := by
  have e1 : (op == CmpOp.In) = false := by cases op <;> first | rfl | exact absurd rfl h
  have e2 : (op == CmpOp.NotIn) = false := by cases op <;> first | rfl | exact absurd rfl h2
  cases b <;> simp [behindInMarks, e1, e2]
/-- a comparison as a value; hm: nomark b, or (for in, not in) by with_unfolding_all rfl -/
theorem pe_cmpR {op : CmpOp} {r : R2} (ho : OpR X (compareOp op) r) (ha : PE X a ta) (hb : PE X b tb) (hm : behindInMarks op b = false) : PE X (.Compare a [op] [b] pos) (tOp r ta tb) := by
  intro pins s σ H Q I h
  exact wpAny_Compare1 (binT ha hb I h fun v u s2 x y H2 I2 rx ry q => ho pins s2 σ H2 x y v u Q I2 rx ry q) hm
/-- a reading of a value as a test -/
def tTest (t : TE) : TT := fun σ H Q => t σ H fun x H' => ∃ k, x = .bl k ∧ Q k H'
theorem pt_cmpR {op : CmpOp} {r : R2} (ho : OpR X (compareOp op) r) (ha : PE X a ta) (hb : PE X b tb) (hm : behindInMarks op b = false) : PT X (.Compare a [op] [b] pos) (tTest (tOp r ta tb)) := by
  intro pins s σ H Q I h
  refine wpAny_isTrue_Compare1 (thn (ha pins s σ H _ I h) fun v s1 ⟨x, H1, I1, r1, q1⟩ => thn (hb pins s1 σ H1 _ I1 q1) fun u s2 ⟨y, H2, I2, r2, q2⟩ =>
    thn (ho pins s2 σ H2 x y v u _ I2 r1 r2 q2) fun c s3 ⟨z, H3, I3, r3, k, e, q3⟩ => ?_) hm
  subst e
  cases r3
  exact wpAny_truthy_bool ⟨H3, I3, q3⟩
/-- a op1 b op2 c -/
def tChain (r r' : R2) (ta tb tc : TE) : TE := fun σ H Q => ta σ H fun x H1 => tb σ H1 fun y H2 => r x y H2 fun z H3 => ∃ k, z = .bl k ∧
  (if k = true then tc σ H3 fun w' H4 => r' y w' H4 Q else Q (.bl false) H3)
theorem pe_chain {op op' : CmpOp} {r r' : R2} (ho : OpR X (compareOp op) r) (ho' : OpR X (compareOp op') r') (ha : PE X a ta) (hb : PE X b tb) (hc : PE X c tc)
    (hm : lastMarks [op, op'] [b, c] = false := by with_unfolding_all rfl) : PE X (.Compare a [op, op'] [b, c] pos) (tChain r r' ta tb tc) := by
  intro pins s σ H Q I h
  refine Compare_chain (thn (ha pins s σ H _ I h) fun v s1 ⟨x, H1, I1, r1, q1⟩ => chain_link (thn (hb pins s1 σ H1 _ I1 q1) fun u s2 ⟨y, H2, I2, r2, q2⟩ =>
    thn (ho pins s2 σ H2 x y v u _ I2 r1 r2 q2) fun d s3 ⟨z, H3, I3, r3, k, e, q3⟩ => ?_)) hm
  subst e
  cases r3
  refine wpAny_truthy_bool ?_
  cases k with
  | false => exact ite_ff ⟨.bl false, H3, I3, rfl, q3⟩
  | true => exact ite_tt (chain_last (thn (hc pins s3 σ H3 _ I3 q3) fun w' s4 ⟨z', H4, I4, r4, q4⟩ => ho' pins s4 σ H4 y z' u w' Q I4 r2 r4 q4))
theorem pt_chain {op op' : CmpOp} {r r' : R2} (ho : OpR X (compareOp op) r) (ho' : OpR X (compareOp op') r') (ha : PE X a ta) (hb : PE X b tb) (hc : PE X c tc)
    (hm : lastMarks [op, op'] [b, c] = false := by with_unfolding_all rfl) : PT X (.Compare a [op, op'] [b, c] pos) (tTest (tChain r r' ta tb tc)) := by
  intro pins s σ H Q I h
  refine isTrue_chain (thn (ha pins s σ H _ I h) fun v s1 ⟨x, H1, I1, r1, q1⟩ => test_link (thn (hb pins s1 σ H1 _ I1 q1) fun u s2 ⟨y, H2, I2, r2, q2⟩ =>
    thn (ho pins s2 σ H2 x y v u _ I2 r1 r2 q2) fun d s3 ⟨z, H3, I3, r3, k, e, q3⟩ => ?_)) hm
  subst e
  cases r3
  refine wpAny_truthy_bool ?_
  cases k with
  | false =>
    obtain ⟨k', e', q'⟩ := q3
    cases e'
    exact ite_ff ⟨H3, I3, q'⟩
  | true =>
    refine ite_tt (test_last (thn (hc pins s3 σ H3 _ I3 q3) fun w' s4 ⟨z', H4, I4, r4, q4⟩ => thn (ho' pins s4 σ H4 y z' u w' _ I4 r2 r4 q4) fun d' s5 ⟨z2, H5, I5, r5, k2, e2, q5⟩ => ?_))
    subst e2
    cases r5
    exact wpAny_truthy_bool ⟨H5, I5, q5⟩

/-! ### truth -/
/-- a value's truth by the abstract heap -/
def TruV (K : PySem.W.Frag) (x : V) (H : Hp) (k : Bool) : Prop :=
  match x with
  | .non => k = false
  | .bl b => k = b
  | .int i => k = (i != 0)
  | .str y => y.length ≤ sizeLine ∧ k = ((y.length : Int) != 0)
  | .byt y => y.size ≤ sizeLine ∧ k = ((y.size : Int) != 0)
  | .ref p => (∃ xs, SqL K H p xs ∧ k = !xs.isEmpty) ∨ (∃ xs, SqT K H p xs ∧ k = !xs.isEmpty) ∨ ∃ kvs, H p = some (.dK kvs) ∧ k = !kvs.isEmpty
  | _ => False
theorem isEmpty_kv {κ : Type} {kvs : List (κ × V)} {vs : List (κ × Value)} (r : KV kvs vs) : (!vs.isEmpty) = !kvs.isEmpty := by
  cases r <;> rfl
theorem isEmpty_of {xs : List V} {its : List Value} (r : Vals xs its) : (!its.toArray.isEmpty) = !xs.isEmpty := by
  cases r <;> simp
theorem line63 : (sizeLine : Nat) < 2 ^ 63 := by rw [sizeLine_eq]; decide
theorem tru_ok : TruR X (fun x H Q => ∃ k, TruV X.K x H k ∧ Q k H) := by
  intro pins s σ H x v Q I rx h
  obtain ⟨k, e, q⟩ := h
  have hl := line63
  have hs : sizeLine = 16777216 := sizeLine_eq
  cases x with
  | non =>
    cases rx
    have e' : k = false := e
    subst e'
    exact truthy_none ⟨H, I, q⟩
  | bl b =>
    cases rx
    have e' : k = b := e
    subst e'
    exact wpAny_truthy_bool ⟨H, I, q⟩
  | int i =>
    obtain ⟨t, rfl⟩ := rx
    have e' : k = (i != 0) := e
    subst e'
    exact PySem.P.truthy_int ⟨H, I, q⟩
  | str y =>
    obtain ⟨t, rfl⟩ := rx
    obtain ⟨hy, e'⟩ : y.length ≤ sizeLine ∧ k = ((y.length : Int) != 0) := e
    subst e'
    exact PySem.P.truthy_str (by omega) ⟨H, I.tok _, q⟩
  | byt y =>
    obtain ⟨t, rfl⟩ := rx
    obtain ⟨hy, e'⟩ : y.size ≤ sizeLine ∧ k = ((y.size : Int) != 0) := e
    subst e'
    exact PySem.W.truthy_bytes (by omega) ⟨H, I.tok _, q⟩
  | ref p =>
    cases rx
    have e' : (∃ xs, SqL X.K H p xs ∧ k = !xs.isEmpty) ∨ (∃ xs, SqT X.K H p xs ∧ k = !xs.isEmpty) ∨ ∃ kvs, H p = some (.dK kvs) ∧ k = !kvs.isEmpty := e
    rcases e' with ⟨xs, hx, e'⟩ | ⟨xs, hx, e'⟩ | ⟨kvs, hx, e'⟩
    · subst e'
      obtain ⟨its, r, pl, hz⟩ := I.list hx
      have hlen := r.length
      exact wpAny_truthy_list pl.isList (by simp only [List.size_toArray]; omega) ⟨H, I.tok _, by rw [isEmpty_of r]; exact q⟩
    · subst e'
      obtain ⟨its, r, pl, hz⟩ := I.tuple hx
      have hlen := r.length
      exact truthy_tuple pl (by simp only [List.size_toArray]; omega) ⟨H, I.tok _, by rw [isEmpty_of r]; exact q⟩
    · subst e'
      obtain ⟨hz, hS, vs, r, m⟩ : kvs.length ≤ sizeLine ∧ (p == sysModules) = false ∧ ∃ vs, KV kvs vs ∧ s.heap.DictOf (mixKind X.prog X.w) p vs := I.hok p _ hx
      have hlen : kvs.length = vs.length := Paired.length r
      exact wpAny_truthy_dict hS m (by omega) ⟨H, I.tok _, by rw [isEmpty_kv r]; exact q⟩
  | _ => exact (show False from e).elim
/-- any expression whose test is its value's truth (a name, a call, a subscript, a field ..: he by fun _ => rfl) -/
theorem pt_truth (ha : PE X a ta) (he : ∀ whole, isTrue a X.env whole = (do let v ← whole; standAt a.pos; holding [v] (truthy v))) :
    PT X a (fun σ H Q => ta σ H fun x H' => ∃ k, TruV X.K x H' k ∧ Q k H') := by
  intro pins s σ H Q I h
  exact isTrue_plain (thn (ha pins s σ H _ I h) fun v s1 ⟨x, H1, I1, r1, q1⟩ => tru_ok pins s1 σ H1 x v Q I1 r1 q1) (he _)

/-! ### strs and bytes -/
theorem op_add_str : OpR X (binaryOp .Add) (fun x y H Q => ∃ i j, x = .str i ∧ y = .str j ∧ i.length + j.length ≤ sizeLine ∧ Q (.str (i ++ j)) H) := by
  intro pins s σ H x y v u Q I rx ry h
  obtain ⟨i, j, rfl, rfl, hz, q⟩ := h
  obtain ⟨t, rfl⟩ := rx
  obtain ⟨t', rfl⟩ := ry
  exact add_str (fun t' tk => ⟨.str (i ++ j), H, I.tok _, ⟨_, rfl⟩, q⟩) hz
def PlainIxT (b : Expr) : Prop := ∀ o i, subscripted b false o i = operate [o, i] (getItem o i)
/-! ### scalar builtins, by CallR -/
theorem vals1 {x : V} {us : List Value} (r : Vals [x] us) : ∃ u, us = [u] ∧ RelV x u := by
  cases r with
  | cons r1 r2 => cases r2; exact ⟨_, rfl, r1⟩
theorem vals2 {x y : V} {us : List Value} (r : Vals [x, y] us) : ∃ u w', us = [u, w'] ∧ RelV x u ∧ RelV y w' := by
  cases r with
  | cons r1 r2 =>
    cases r2 with
    | cons r3 r4 => cases r4; exact ⟨_, _, rfl, r1, r3⟩
theorem call_max2 (hc : X.calm = true) : CallR X (.builtin "max") (fun xs H Q => ∃ i j, xs = [.int i, .int j] ∧ Q (.int (if j > i then j else i)) H) := by
  intro pins s σ H xs us Q I r h
  obtain ⟨i, j, rfl, q⟩ := h
  obtain ⟨u, w', rfl, ⟨t, rfl⟩, ⟨t', rfl⟩⟩ := vals2 r
  refine max_two_ints (I.ok.hd hc) fun h' tk k => ⟨_, H, I.kept k, ?_, q⟩
  by_cases hj : j > i
  · rw [if_pos hj, if_pos hj]; exact ⟨_, rfl⟩
  · rw [if_neg hj, if_neg hj]; exact ⟨_, rfl⟩
theorem call_min2 (hc : X.calm = true) : CallR X (.builtin "min") (fun xs H Q => ∃ i j, xs = [.int i, .int j] ∧ Q (.int (if j < i then j else i)) H) := by
  intro pins s σ H xs us Q I r h
  obtain ⟨i, j, rfl, q⟩ := h
  obtain ⟨u, w', rfl, ⟨t, rfl⟩, ⟨t', rfl⟩⟩ := vals2 r
  refine min_two_ints (I.ok.hd hc) fun h' tk k => ⟨_, H, I.kept k, ?_, q⟩
  by_cases hj : j < i
  · rw [if_pos hj, if_pos hj]; exact ⟨_, rfl⟩
  · rw [if_neg hj, if_neg hj]; exact ⟨_, rfl⟩
theorem call_int1 : CallR X (.type "int") (fun xs H Q => (∃ i, xs = [.int i] ∧ Q (.int i) H) ∨ ∃ k, xs = [.bl k] ∧ Q (.int (if k then 1 else 0)) H) := by
  intro pins s σ H xs us Q I r h
  rcases h with ⟨i, rfl, q⟩ | ⟨k, rfl, q⟩
  · obtain ⟨u, rfl, t, rfl⟩ := vals1 r
    exact call_int_int ⟨.int i, H, I, ⟨_, rfl⟩, q⟩
  · obtain ⟨u, rfl, r1⟩ := vals1 r
    cases r1
    exact call_int_bool ⟨.int (if k then 1 else 0), H, I.tok _, ⟨_, rfl⟩, q⟩
/-- len of a str, a bytes, a list, a tuple -/
def LenV (K : PySem.W.Frag) (x : V) (H : Hp) (n : Nat) : Prop :=
  match x with
  | .str y => y.length ≤ sizeLine ∧ n = y.length
  | .byt y => y.size ≤ sizeLine ∧ n = y.size
  | .ref p => (∃ xs, SqL K H p xs ∧ n = xs.length) ∨ ∃ xs, SqT K H p xs ∧ n = xs.length
  | _ => False
end
end L2

namespace L2
open PySem PySem.Spec PyProof.Rows

/-! ### an instance, its attributes a map -/
structure ObjM (h : Heap) (x dx C : Addr) (mA : Str → Option Value) : Prop where
  obj : h.get? x = some (PySem.W.instObj C dx)
  ns : h.Ns1 dx mA
  ne : dx ≠ x

section
variable {prog : Program} {w : World} {A : Around} {E : Value → Shared → Prop} {s : Shared} {K : PySem.W.Frag} {x dx C f : Addr} {mA : Str → Option Value} {name : Str} {v : Value}

end

/-! ### the attributes as a list of pairs -/
def putF (f : Str) (v : V) : List (Str × V) → List (Str × V)
  | [] => [(f, v)]
  | (g, x) :: r => if g = f then (g, v) :: r else (g, x) :: putF f v r
section
variable {P : Program} {w : World} {H H' : Hp} {h h' : Heap} {a C dx : Addr} {fs fs' : List (Str × V)}
end

/-! ### what of the text a class must have -/
structure Cls (K : PySem.W.Frag) (C : Addr) : Prop where
  pg : PySem.W.plainGet K C Str.empty = true
  hd : PySem.W.hasDictIn K C = true
  po : PySem.W.plainOver K C = true
  sa : PySem.W.findIn K (.ref C) "__setattr__" = some (some (.builtin "object.__setattr__"))
theorem Cls.get {K : PySem.W.Frag} {C : Addr} (c : Cls K C) (f : Str) : PySem.W.plainGet K C f = true := c.pg
/-- no class of it has the name -/
def NoAttr (K : PySem.W.Frag) (C : Addr) (f : Str) : Prop := PySem.W.findIn K (.ref C) f = some none
/-- a constant of the class -/
structure Con (K : PySem.W.Frag) (C : Addr) (f : Str) (v : V) (u : Value) : Prop where
  at_ : PySem.W.findIn K (.ref C) f = some (some u)
  rel : RelV v u
  get : PySem.W.specialIn K u "__get__" = some none
  cp : PySem.W.copiedNames.contains f = false
/-- a method: a plain def of the class or of one above it -/
structure Meth (K : PySem.W.Frag) (C : Addr) (m : Str) (f : Addr) : Prop where
  at_ : PySem.W.findIn K (.ref C) m = some (some (.ref f))
  fn : PySem.W.isFn K (.ref f) = true
  kp : PySem.W.keepIn K (.ref f) = true

section
variable {X : Cx} {pins : List (Addr × Obj)} {σ : St} {H : Hp} {s : Shared} {a C dx : Addr} {fs : List (Str × V)} {f : Str} {v : V} {A : Around} {E : Value → Shared → Prop}

/-- a new instance, tracked, without attributes -/
theorem Inv.made (I : Inv X pins σ H s) : Inv X pins σ (upd (upd H s.heap.objs.size (.own (s.heap.objs.size + 1))) (s.heap.objs.size + 1) (.ins C s.heap.objs.size []))
    { s with heap := (s.heap.push PySem.W.emptyDict).push (PySem.W.instObj C s.heap.objs.size) } := by
  have e1 : (s.heap.push PySem.W.emptyDict).get? s.heap.objs.size = some PySem.W.emptyDict := Heap.get?_push_size s.heap rfl
  have e2 : ((s.heap.push PySem.W.emptyDict).push (PySem.W.instObj C s.heap.objs.size)).get? (s.heap.objs.size + 1) = some (PySem.W.instObj C s.heap.objs.size) := by
    have := Heap.get?_push_size (s.heap.push PySem.W.emptyDict) (o := PySem.W.instObj C s.heap.objs.size) rfl
    rwa [Heap.size_push] at this
  have e3 : (s.heap.push PySem.W.emptyDict).Ns s.heap.objs.size (fun _ => none) := ⟨PySem.W.emptyDict, #[], _, e1, rfl, (fun e he => absurd he (by simp)), fun _ => rfl⟩
  have I1 := I.laid (a := s.heap.objs.size) (o := .own (s.heap.objs.size + 1)) (h' := s.heap.push PySem.W.emptyDict) (t' := s.toks) (fun b u q => Heap.get?_push_of_some _ q) (Nat.le_refl _) ⟨_, e1⟩
  refine I1.laid (a := s.heap.objs.size + 1) (o := .ins C s.heap.objs.size []) (t' := s.toks) (fun b u q => Heap.get?_push_of_some _ q) (Nat.le_of_eq (Heap.size_push _ _)) ?_
  have ne : s.heap.objs.size ≠ s.heap.objs.size + 1 := Nat.ne_of_lt (Nat.lt_succ_self _)
  refine ⟨by rw [upd_ne ne, upd_same], Nat.zero_le _, ne, e2, fun _ => none, (Heap.Ns1.of_empty e3).at fun o q => Heap.get?_push_of_some _ q, fun _ => True.intro, fun y hy => absurd rfl hy⟩

end

/-! ### readings and rules -/
/-- e.f, an attribute of the instance -/
def tFld (K : PySem.W.Frag) (ta : TE) (f : Str) : TE := fun σ H Q => ta σ H fun x H1 => ∃ a C dx fs v, x = .ref a ∧ H1 a = some (.ins C dx fs) ∧ Cls K C ∧ NoAttr K C f ∧ fs.lookup f = some v ∧ Q v H1
/-- e.f, a constant of the class -/
def tCon (K : PySem.W.Frag) (ta : TE) (f : Str) : TE := fun σ H Q => ta σ H fun x H1 => ∃ a C dx fs v u, x = .ref a ∧ H1 a = some (.ins C dx fs) ∧ Cls K C ∧ Con K C f v u ∧ fs.lookup f = none ∧ Q v H1
/-- e.f = value -/
def sFld (K : PySem.W.Frag) (ta tv : TE) (f : Str) : TS := fun D σ H => tv σ H fun y H1 => ta σ H1 fun x H2 => ∃ a C dx fs, x = .ref a ∧ H2 a = some (.ins C dx fs) ∧ Cls K C ∧ NoAttr K C f ∧ fs.length < 1000 ∧
  D.nx σ (upd H2 a (.ins C dx (putF f y fs)))
/-- an augmented operator on two values -/
def InOp (X : Cx) (op : Operator) (rd : V → V → Hp → VK → Prop) : Prop :=
  ∀ (pins : List (Addr × Obj)) (s : Shared) (σ : St) (H : Hp) (x y : V) (u v : Value) (Q : VK), Inv X pins σ H s → RelV x u → RelV y v → rd x y H Q → wpAny (model X.prog X.w) X.A (inplaceOp op u v) (EP X pins σ Q) X.xe s
/-- e.f op= value -/
def sFldAug (K : PySem.W.Frag) (ta tv : TE) (rd : V → V → Hp → VK → Prop) (f : Str) : TS := fun D σ H => ta σ H fun x H1 => ∃ a C dx fs v, x = .ref a ∧ H1 a = some (.ins C dx fs) ∧ Cls K C ∧ NoAttr K C f ∧ fs.lookup f = some v ∧
  tv σ H1 fun y H2 => rd v y H2 fun z H3 => ∃ dx' fs', H3 a = some (.ins C dx' fs') ∧ fs'.length < 1000 ∧ D.nx σ (upd H3 a (.ins C dx' (putF f z fs')))

section
variable {X : Cx} {o e value : Expr} {f : Str} {pos pos' tpos : Pos} {ta tv : TE}
def rAdd : V → V → Hp → VK → Prop := fun x y H Q => ∃ i j, x = .int i ∧ y = .int j ∧ Q (.int (i + j)) H
def rSub : V → V → Hp → VK → Prop := fun x y H Q => ∃ i j, x = .int i ∧ y = .int j ∧ Q (.int (i - j)) H
end

/-! ### isinstance -/
section
variable {X : Cx} {pins : List (Addr × Obj)} {σ : St} {H : Hp} {s : Shared} {A : Around} {E : Value → Shared → Prop} {Q : Value → Shared → Prop} {c : Value} {b : Bool}
/-- the type of a value, as the fragment's deciders take it; for an instance its class -/
inductive TyOf (K : PySem.W.Frag) (H : Hp) : V → Value → Prop where
  | non : TyOf K H .non (.type "NoneType")
  | bl (x : Bool) : TyOf K H (.bl x) (.type "bool")
  | int (i : Int) : TyOf K H (.int i) (.type "int")
  | str (x : Str) : TyOf K H (.str x) (.type "str")
  | flt (x : UInt64) : TyOf K H (.flt x) (.type "float")
  | lst {a : Addr} {xs : List V} (e : H a = some (.lst xs)) : TyOf K H (.ref a) (.type "list")
  | frz {a : Addr} {o : Obj} {xs : List V} (e : H a = some (.frz o (.lst xs))) : TyOf K H (.ref a) (.type "list")
  | tup {a : Addr} {xs : List V} (e : H a = some (.tup xs)) : TyOf K H (.ref a) (.type "tuple")
  | dK {a : Addr} {kvs : List (Key × V)} (e : H a = some (.dK kvs)) : TyOf K H (.ref a) (.type "dict")
  | dT {a : Addr} {kvs : List (List Key × V)} (e : H a = some (.dT kvs)) : TyOf K H (.ref a) (.type "dict")
  | ins {a C dx : Addr} {fs : List (Str × V)} (e : H a = some (.ins C dx fs)) (cl : Cls K C) (ha : PySem.W.findIn K (.ref C) "__class__" = some (some (.builtin "object.__class__")))
      (hn : PySem.W.specialIn K (.builtin "object.__class__") "__get__" = some (some (.builtin "getset_descriptor.__get__"))) (htk : PySem.W.takesIn K (.builtin "object.__class__") = some true)
      (hm : PySem.W.mroIn K C (.type "object") = some true) : TyOf K H (.ref a) (.ref C)
end
end L2

namespace L2
open PySem PySem.Spec PyProof.Rows

/-! ### room -/
structure Room (k : Nat) (A : Around) : Prop where
  hd : A.handled = none
  dp : A.depth + 3 * k + 5 < recursionLimit
  un : A.units + 16 * k + 200 < cLine
theorem Room.mono {j k : Nat} {A : Around} (r : Room k A) (h : j ≤ k) : Room j A := ⟨r.hd, by have := r.dp; omega, by have := r.un; omega⟩
theorem Room.deeper {k : Nat} {A : Around} (r : Room (k + 1) A) (env : Env) : Room k (A.deeper env) :=
  ⟨r.hd, by have := r.dp; show A.depth + 1 + 3 * k + 5 < _; omega, by have := r.un; show A.units + 3 + 16 * k + 200 < _; omega⟩
theorem Room.in1 {k : Nat} {A : Around} (r : Room (k + 1) A) : Room k A.in1 :=
  ⟨r.hd, by have := r.dp; show A.depth + 3 * k + 5 < _; omega, by have := r.un; show A.units + 1 + 16 * k + 200 < _; omega⟩
theorem Room.depth {k : Nat} {A : Around} (r : Room k A) : A.depth < recursionLimit := by have := r.dp; omega
theorem Room.units {k : Nat} {A : Around} (r : Room k A) : A.units + 64 < cLine := by have := r.un; omega
/-! ### argument lists and displays -/
def tNil : TA := fun _ H Q => Q [] H
def tCons (ta : TE) (tr : TA) : TA := fun σ H Q => ta σ H fun x H1 => tr σ H1 fun xs H2 => Q (x :: xs) H2
section
variable {X : Cx} {e : Expr} {es : List Expr} {te : TE} {t : TA} {pos : Pos}
theorem pa_nil : PA X [] tNil := fun _ _ _ _ H Q I h => Calls.spliced_nil ⟨[], H, I, .nil, h⟩
theorem pa_cons (ha : PE X e te) (hr : PA X es t) (hs : starEach (e :: es) X.env = (false, eval e X.env) :: starEach es X.env := by rfl) : PA X (e :: es) (tCons te t) := by
  intro pos pins s σ H Q I h
  rw [hs]
  show wpAny _ _ (spliced ((false, eval e X.env) :: backTo pos (starEach es X.env))) _ _ s
  refine Calls.spliced_cons (thn (ha pins s σ H _ I h) fun u s1 ⟨x, H1, I1, r1, q1⟩ => ?_)
  exact thn (hr pos pins s1 σ H1 _ I1 q1) fun us s2 ⟨xs, H2, I2, r2, q2⟩ => ⟨x :: xs, H2, I2, .cons r1 r2, q2⟩

/-- a tuple, a list of written items -/
def tTup (t : TA) : TE := fun σ H Q => t σ H fun xs H1 => xs.length ≤ sizeLine ∧ ∀ p, H1 p = none → Q (.ref p) (upd H1 p (.tup xs))
def tLst (t : TA) : TE := fun σ H Q => t σ H fun xs H1 => xs.length ≤ sizeLine ∧ ∀ p, H1 p = none → Q (.ref p) (upd H1 p (.lst xs))
theorem pe_tup {x1} (h : PA X es t) : PE X (.Tuple es x1 pos) (tTup t) := by
  intro pins s σ H Q I hq
  refine wpAny_Tuple_spliced (thn (h pos pins s σ H _ I hq) fun us s1 ⟨xs, H1, I1, r, z, q⟩ => ⟨by rw [← r.length]; exact z, ?_⟩)
  have hf : H1 s1.heap.objs.size = none := I1.hok.fresh (Nat.le_refl _)
  refine ⟨.ref s1.heap.objs.size, upd H1 s1.heap.objs.size (.tup xs), I1.laid (t' := s1.toks) (fun b u e => Heap.get?_push_of_some _ e) (Nat.le_refl _) ?_, rfl, q _ hf⟩
  exact ⟨z, us, r, ⟨_, Heap.get?_push_size _ rfl, rfl, _, rfl⟩⟩
theorem pe_lst (h : PA X es t) : PE X (.List es pos) (tLst t) := by
  intro pins s σ H Q I hq
  refine wpAny_List_spliced (thn (h pos pins s σ H _ I hq) fun us s1 ⟨xs, H1, I1, r, z, q⟩ => ⟨by rw [← r.length]; exact z, ?_⟩)
  have hf : H1 s1.heap.objs.size = none := I1.hok.fresh (Nat.le_refl _)
  refine ⟨.ref s1.heap.objs.size, upd H1 s1.heap.objs.size (.lst xs), I1.laid (t' := s1.toks) (fun b u e => Heap.get?_push_of_some _ e) (Nat.le_refl _) ?_, rfl, q _ hf⟩
  exact ⟨z, us, 0, r, Heap.get?_push_size _ rfl⟩
end

/-! ### what a def promises -/
/-- a def's promise: the bound arguments in the parameters' order, the heap, the wanted end, the wanted exception -/
abbrev Sp := List V → Hp → VK → XK → Prop
/-- how an exception lies behind a call (file 08 gives it): the callers' frames, abstract heap and state ahead of the call, the wish, the exception, the state -/
abbrev CXT := List Env → Hp → Shared → XK → Value → Shared → Prop

/-- the state at a call -/
structure Env0 (P : Program) (w : World) (K : PySem.W.Frag) (mg : Str → Option Value) (base : Heap) (A : Around) (outer : List Env) (s : Shared) (H : Hp) : Prop where
  frames : A.frames = some outer
  mod : Mod K mg base
  bs : ∀ b o, base.get? b = some o → s.heap.get? b = some o ∧ H b = none
  bsz : base.objs.size ≤ s.heap.objs.size
  funs : s.heap.FunFrames base outer
  frf : ∀ b ∈ frs outer, H b = none
  hok : HOk P w H s.heap
  bare : AllBare s.gens
/-- a call's end -/
def CE (outer : List Env) (P : Program) (w : World) (H : Hp) (s : Shared) (Q : VK) (u : Value) (s' : Shared) : Prop :=
  ∃ v H', s'.os = s.os ∧ AllBare s'.gens ∧ Un (frs outer) [] H H' s.heap s'.heap ∧ HOk P w H' s'.heap ∧ RelV v u ∧ Q v H'
def CR (CX : CXT) (outer : List Env) (P : Program) (w : World) (H : Hp) (s : Shared) (Q : VK) (E : XK) (r : Result) (s' : Shared) : Prop :=
  match r with
  | .ok (.ret u) => CE outer P w H s Q u s'
  | .ok _ => False
  | .error e => CX outer H s E e s'
structure FnOk (P : Program) (w : World) (K : PySem.W.Frag) (mg : Str → Option Value) (base : Heap) (CX : CXT) (k : Nat) (f : Addr) (fd : FuncData) (ps : List Str) (sp : Sp) : Prop where
  len : ∀ vs H Q E, sp vs H Q E → vs.length = ps.length
  run : ∀ (A : Around) (outer : List Env) (s : Shared) (H : Hp) (args : Args) (us : List Value) (vs : List V) (Q : VK) (E : XK), Room k A → Env0 P w K mg base A outer s H → BindsTo s fd args (ps.zip us) → Vals vs us → sp vs H Q E →
    codeAny (model P w) A (.call (.ref f) args) (CR CX outer P w H s Q E) s
theorem FnOk.mono {P : Program} {w : World} {K : PySem.W.Frag} {mg : Str → Option Value} {base : Heap} {CX : CXT} {j k : Nat} {f : Addr} {fd : FuncData} {ps : List Str} {sp : Sp} (F : FnOk P w K mg base CX j f fd ps sp) (h : j ≤ k) :
    FnOk P w K mg base CX k f fd ps sp := ⟨F.len, fun A outer s H args us vs Q E hr => F.run A outer s H args us vs Q E (hr.mono h)⟩
/-- a weaker promise -/
theorem FnOk.imp {P : Program} {w : World} {K : PySem.W.Frag} {mg : Str → Option Value} {base : Heap} {CX : CXT} {k : Nat} {f : Addr} {fd : FuncData} {ps : List Str} {sp sp' : Sp} (F : FnOk P w K mg base CX k f fd ps sp)
    (h : ∀ vs H Q E, sp' vs H Q E → sp vs H Q E) : FnOk P w K mg base CX k f fd ps sp' :=
  ⟨fun vs H Q E q => F.len vs H Q E (h _ _ _ _ q), fun A outer s H args us vs Q E hr he hb hv hs => F.run A outer s H args us vs Q E hr he hb hv (h _ _ _ _ hs)⟩

theorem Env0.in1 {P : Program} {w : World} {K : PySem.W.Frag} {mg : Str → Option Value} {base : Heap} {A : Around} {outer : List Env} {s : Shared} {H : Hp} (e : Env0 P w K mg base A outer s H) :
    Env0 P w K mg base A.in1 outer s H := ⟨e.frames, e.mod, e.bs, e.bsz, e.funs, e.frf, e.hok, e.bare⟩

section
variable {X : Cx} {pins : List (Addr × Obj)} {σ : St} {H : Hp} {s s' : Shared}
/-- from a body: what a callee wants -/
theorem Inv.env0 (I : Inv X pins σ H s) : Env0 X.prog X.w X.K X.mg X.base X.A X.stack s H :=
  ⟨I.ok.frames, I.ok.mod, I.bs, Nat.le_trans I.ok.bsz I.sz, I.stack, I.stkFree, I.hok, I.bare⟩
/-- behind a call -/
theorem Inv.after {Q : VK} {u : Value} (I : Inv X pins σ H s) (h : CE X.stack X.prog X.w H s Q u s') : EP X pins σ Q u s' := by
  obtain ⟨v, H', os, bare, un, hok, r, q⟩ := h
  obtain ⟨hh, g, d, t, os'⟩ := s'
  obtain rfl : os' = s.os := os
  exact ⟨v, H', I.call (h' := hh) (g' := g) (d' := d) (t' := t) (ch := []) un hok bare (fun b z => absurd z (by simp)), r, q⟩
end

/-! ### calls -/
/-- f(..): the written arguments, then the defaults dvs; E: what is wanted of an exception -/
def tCall (sp : Sp) (dvs : List V) (E : XK) (t : TA) : TE := fun σ H Q => t σ H fun vs H1 => sp (vs ++ dvs) H1 Q E
/-- o.m(..) of an instance of the class at C -/
def tMeth (C : Addr) (m : Str) (sp : Sp) (dvs : List V) (E : XK) (ta : TE) (t : TA) : TE := fun σ H Q => ta σ H fun x H1 => ∃ a dx fs, x = .ref a ∧ H1 a = some (.ins C dx fs) ∧ fs.lookup m = none ∧
  t σ H1 fun vs H2 => sp (x :: (vs ++ dvs)) H2 Q E
/-- C(..): a new instance and its dict, then __init__ -/
def tMake (C : Addr) (sp : Sp) (dvs : List V) (E : XK) (t : TA) : TE := fun σ H Q => t σ H fun vs H1 => ∀ x dx, H1 x = none → H1 dx = none → dx ≠ x →
  sp (.ref x :: (vs ++ dvs)) (upd (upd H1 dx (.own x)) x (.ins C dx [])) (fun v H2 => v = .non ∧ Q (.ref x) H2) E

/-- how the parameters are bound: us the positional arguments, kw the keywords' values by name, ds the defaults that fill up -/
def Binds (K : PySem.W.Frag) (fd : FuncData) (ps : List Str) (ds : List Value) : Prop :=
  ∀ (s : Shared) (us : List Value), K.In s.heap → (us ++ ds).length = ps.length → BindsTo s fd ⟨us, []⟩ (ps.zip (us ++ ds))
/-- every parameter is given -/
theorem Binds.all {K : PySem.W.Frag} {fd : FuncData} {ps : List Str} (h : ∀ us : List Value, us.length = ps.length → bindArgs fd ⟨us, []⟩ = pure (ps.zip us)) : Binds K fd ps [] := fun s us _ hl => by
  rw [List.append_nil] at hl ⊢
  exact .of_eq (h us hl)

/-- an exception of a callee reaches what this body wants of exceptions -/
def Passes (CX : CXT) (X : Cx) (E : XK) : Prop := ∀ (pins : List (Addr × Obj)) (σ : St) (H : Hp) (s : Shared) (e : Value) (s' : Shared), Inv X pins σ H s → CX X.stack H s E e s' → X.xe e s'

section
variable {X : Cx} {CX : CXT} {k : Nat} {f C : Addr} {fd : FuncData} {ps : List Str} {sp : Sp} {dvs : List V} {ds : List Value} {E : XK} {x m : Str} {p pos apos : Pos} {e o : Expr} {es : List Expr} {ta : TE} {t : TA}

/-- the callee runs -/
theorem run_fn {pins : List (Addr × Obj)} {σ : St} {H : Hp} {s : Shared} {Q : VK} {us : List Value} {vs : List V} (F : FnOk X.prog X.w X.K X.mg X.base CX k f fd ps sp) (hr : Room k X.A) (hb : Binds X.K fd ps ds) (hd : Vals dvs ds) (hx : Passes CX X E)
    (I : Inv X pins σ H s) (r : Vals vs us) (h : sp (vs ++ dvs) H Q E) : wpAny (model X.prog X.w) X.A (call (.ref f) us) (EP X pins σ Q) X.xe s := by
  have r2 : Vals (vs ++ dvs) (us ++ ds) := r.append hd
  have hl : (us ++ ds).length = ps.length := by rw [← r2.length]; exact F.len _ _ _ _ h
  refine wpAny_call (codeAny_mono (F.run X.A X.stack s H ⟨us, []⟩ (us ++ ds) (vs ++ dvs) Q E hr I.env0 (hb s us I.kIn hl) r2 h) fun r s' hq => ?_)
  cases r with
  | error e => exact hx pins σ H s e s' I hq
  | ok fl =>
    cases fl with
    | ret u => exact I.after hq
    | next => exact False.elim hq
    | brk => exact False.elim hq
    | cont => exact False.elim hq

theorem pe_call (F : FnOk X.prog X.w X.K X.mg X.base CX k f fd ps sp) (hr : Room k X.A) (hg : Gl X x) (hm : X.mg x = some (.ref f)) (hk : PySem.W.keepIn X.K (.ref f) = true) (hb : Binds X.K fd ps ds) (hd : Vals dvs ds) (hx : Passes CX X E)
    (ha : PA X (e :: es) t) (hdb : (x == ("__debug__" : Str)) = false := by decide) (he : starEach (e :: es) X.env = (false, eval e X.env) :: starEach es X.env := by rfl) (hpl : (backTo pos (starEach es X.env)).any (·.1) = false := by rfl) :
    PE X (.Call (.Name x p) (e :: es) [] pos) (tCall sp dvs E t) := by
  intro pins s σ H Q I h
  refine wpAny_Call_Name_kw (ld_glob I hg hm ?_ hdb)
  refine PySem.W.callWith_K (h₀ := X.base) I.ok.mod.kin hk (thn (ha pos pins s σ H _ I h) fun us s1 ⟨vs, H1, I1, r, q⟩ => ⟨I1.kIn, ?_⟩) he hpl
  exact run_fn F hr hb hd hx I1 r q
/-- what a class must have to be made -/
structure Mk (K : PySem.W.Frag) (C f : Addr) : Prop where
  makes : PySem.W.makesIn K C = true
  init : PySem.W.findIn K (.ref C) "__init__" = some (some (.ref f))
  fn : PySem.W.isFn K (.ref f) = true
  kp : PySem.W.keepIn K (.ref C) = true

end

/-! ### keywords -/
/-- the values of the keywords, from the left -/
def PK (X : Cx) (kws : List Keyword) (t : TA) : Prop :=
  ∀ (pos : Pos) (pins : List (Addr × Obj)) (s : Shared) (σ : St) (H : Hp) (Q : List V → Hp → Prop), Inv X pins σ H s → t σ H Q → wpAny (model X.prog X.w) X.A (evalAll ((backToKw pos (keywordEach kws X.env)).map (·.2))) (AP X pins σ Q) X.xe s
section
variable {X : Cx} {CX : CXT} {k : Nat} {f C : Addr} {fd : FuncData} {ps ks : List Str} {sp : Sp} {E : XK} {x m : Str} {p pos apos kpos : Pos} {e o : Expr} {es : List Expr} {kws : List Keyword} {te ta : TE} {t tk : TA} {nm : Option Str}
/-- how a call with keywords binds: g puts the positional values us and the keywords' values ws (names ks) in the parameters' order, defaults among them -/
structure KBinds (K : PySem.W.Frag) (fd : FuncData) (ps ks : List Str) (g : List Value → List Value → List Value) (gV : List V → List V → List V) : Prop where
  to : ∀ (s : Shared) (us ws : List Value), K.In s.heap → (g us ws).length = ps.length → BindsTo s fd ⟨us, ks.zip ws⟩ (ps.zip (g us ws))
  rel : ∀ {vs : List V} {us : List Value} {zs : List V} {ws : List Value}, Vals vs us → Vals zs ws → Vals (gV vs zs) (g us ws)
def tCallK (sp : Sp) (gV : List V → List V → List V) (E : XK) (t tk : TA) : TE := fun σ H Q => t σ H fun vs H1 => tk σ H1 fun zs H2 => sp (gV vs zs) H2 Q E
variable {g : List Value → List Value → List Value} {gV : List V → List V → List V}
end

/-! ### a def's body keeps its promise -/
/-- names: the parameters first -/
structure FnScope (N P : List Str) (sc : Scope) : Prop where
  kind : sc.kind = .function
  co : sc.isCoroutine = false
  gen : sc.isGenerator = false
  nd : N.Nodup
  pre : N.take P.length = P
  par : ∀ x ∈ P, sc.names.lookup x = some .local ∨ sc.names.lookup x = some .cell
  nofree : ∀ y ∈ sc.names, y.2 ≠ .free

theorem bindL_out {kindOf : Str → Option NameKind} {x : Str} : ∀ {binds : List (Str × Value)} {m : Str → Option Value}, (∀ v, (x, v) ∉ binds) → bindL kindOf binds m x = m x
  | [], _, _ => rfl
  | (n, v) :: r, m, h => by
    unfold bindL
    rw [bindL_out fun w hw => h w (List.mem_cons_of_mem _ hw)]
    split
    · have : x ≠ n := by rintro rfl; exact h v List.mem_cons_self
      simp [this]
    · rfl
theorem bindC_out {kindOf : Str → Option NameKind} {x : Str} : ∀ {binds : List (Str × Value)} {m : Str → Option Value}, (∀ v, (x, v) ∉ binds) → bindC kindOf binds m x = m x
  | [], _, _ => rfl
  | (n, v) :: r, m, h => by
    unfold bindC
    rw [bindC_out fun w hw => h w (List.mem_cons_of_mem _ hw)]
    split
    · rfl
    · have : x ≠ n := by rintro rfl; exact h v List.mem_cons_self
      simp [this]
theorem bindL_get {kindOf : Str → Option NameKind} {x : Str} {v : Value} : ∀ {P : List Str} {vs : List Value} {i : Nat} {m : Str → Option Value}, P.Nodup → P[i]? = some x → vs[i]? = some v → kindOf x = some .local →
    bindL kindOf (P.zip vs) m x = some v
  | [], _, _, _, _, h, _, _ => by simp at h
  | _ :: _, [], _, _, _, _, h, _ => by simp at h
  | p :: P, w :: vs, 0, m, nd, h1, h2, hk => by
    simp at h1 h2; subst h1; subst h2
    show bindL kindOf ((p, w) :: P.zip vs) m p = _
    unfold bindL
    rw [bindL_out fun v hv => (List.nodup_cons.mp nd).1 (List.of_mem_zip hv).1, if_pos hk]
    simp
  | p :: P, w :: vs, i + 1, m, nd, h1, h2, hk => by
    show bindL kindOf ((p, w) :: P.zip vs) m x = _
    unfold bindL
    exact bindL_get (i := i) (List.nodup_cons.mp nd).2 (by simpa using h1) (by simpa using h2) hk
theorem bindC_get {kindOf : Str → Option NameKind} {x : Str} {v : Value} : ∀ {P : List Str} {vs : List Value} {i : Nat} {m : Str → Option Value}, P.Nodup → P[i]? = some x → vs[i]? = some v → kindOf x ≠ some .local →
    bindC kindOf (P.zip vs) m x = some v
  | [], _, _, _, _, h, _, _ => by simp at h
  | _ :: _, [], _, _, _, _, h, _ => by simp at h
  | p :: P, w :: vs, 0, m, nd, h1, h2, hk => by
    simp at h1 h2; subst h1; subst h2
    show bindC kindOf ((p, w) :: P.zip vs) m p = _
    unfold bindC
    rw [bindC_out fun v hv => (List.nodup_cons.mp nd).1 (List.of_mem_zip hv).1, if_neg hk]
    simp
  | p :: P, w :: vs, i + 1, m, nd, h1, h2, hk => by
    show bindC kindOf ((p, w) :: P.zip vs) m x = _
    unfold bindC
    exact bindC_get (i := i) (List.nodup_cons.mp nd).2 (by simpa using h1) (by simpa using h2) hk

/-- the names' values at the entry -/
def start (N : List Str) (vs : List V) : St := vs.map some ++ List.replicate (N.length - vs.length) none

/-- the context of a def's body, at its entry; an exception leaves the frame, then lies as CX says -/
def cxOf (CX : CXT) (P : Program) (w : World) (K : PySem.W.Frag) (mg : Str → Option Value) (base : Heap) (N : List Str) (qual : Str) (scope : Scope) (f : Addr) (cd : Value) (A : Around) (outer : List Env) (s : Shared) (H : Hp) (E : XK) : Cx where
  prog := P
  w := w
  K := K
  mg := mg
  base := base
  A := A.deeper (envOfC qual scope s.heap.objs.size f cd)
  N := N
  s₀ := s
  H₀ := H
  env := envOfC qual scope s.heap.objs.size f cd
  outer := outer
  stack := envOfC qual scope s.heap.objs.size f cd :: outer
  ex := []
  calm := true
  fn := fun _ => true
  pn := []
  xe := fun e s' => wpAny (model P w) (A.deeper (envOfC qual scope s.heap.objs.size f cd)) (leaving (envOfC qual scope s.heap.objs.size f cd) e) (fun _ s'' => CX outer H s E e s'') (fun e' s'' => CX outer H s E e' s'') s'

theorem cell_has {sc : Scope} {n : Nat} {x : Str} (h : sc.names.lookup x = some .cell) : ∃ c, (cellsFrom n sc.names []).lookup x = some c := by
  have q := PySem.W.cellsFrom_some sc.names n [] (.inl h)
  exact Option.isSome_iff_exists.mp q

theorem inv_start {CX : CXT} {P : Program} {w : World} {K : PySem.W.Frag} {mg : Str → Option Value} {base : Heap} {N ps : List Str} {qual : Str} {scope : Scope} {f : Addr} {cd : Value} {A : Around} {outer : List Env} {s s1 : Shared} {H : Hp} {E : XK} {us : List Value} {vs : List V}
    (S : FnScope N ps scope) (hd : A.handled = none) (e0 : Env0 P w K mg base A outer s H) (hl : vs.length = ps.length) (r : Vals vs us)
    (x : InCallC s s.heap.objs.size (bindL (envOfC qual scope s.heap.objs.size f cd).kindOf (ps.zip us) fun _ => none) (cellsFrom (s.heap.objs.size + 1) scope.names []) (bindC (envOfC qual scope s.heap.objs.size f cd).kindOf (ps.zip us) fun _ => none) s1) :
    Inv (cxOf CX P w K mg base N qual scope f cd A outer s H E) [] (start N vs) H s1 := by
  have hpl : ps.length ≤ N.length := by have := congrArg List.length S.pre; rw [List.length_take] at this; omega
  obtain ⟨h1, tk, rfl, hk⟩ := x.done
  have noA : ∀ b : Addr, b ∉ (cxOf CX P w K mg base N qual scope f cd A outer s H E).ex := fun b z => absurd (show b ∈ ([] : List Addr) from z) (by simp)
  refine ⟨⟨e0.mod, S.kind, rfl, rfl, Nat.le_refl _, fun y z c h1 h2 => ?_, fun y hy => ?_, fun y c _ h => ?_, fun _ => hd, Around.frames_deeper e0.frames, .inr ⟨rfl, rfl⟩, fun b z => absurd z (noA b), e0.bs, e0.bsz, fun b _ _ => noA b, fun b z => absurd z (noA b), e0.funs, e0.frf⟩,
    rfl, e0.bare, Un.kept hk, ⟨_, x.toInCall.ns, fun i y v h1 h2 h3 => ?_⟩, fun y c h => ⟨_, x.cell y c h⟩, e0.hok.fresh (Nat.le_refl _), fun y c h => ?_, fun p hp => absurd (show p ∈ ([] : List (Addr × Obj)) from hp) (by simp), e0.hok.kept hk, ?_⟩
  · exact name_of_addr x.apart (PySem.mem_of_lookup h1) (PySem.mem_of_lookup h2)
  · have hy : scope.names.lookup y = some .cell ∨ scope.names.lookup y = some .free := hy
    rcases hy with hy | hy
    · exact cell_has hy
    · exact absurd rfl (S.nofree _ (PySem.mem_of_lookup hy))
  · exact Nat.le_of_lt (x.above y c (PySem.mem_of_lookup h))
  · have hi : i < vs.length := by
      unfold start at h2
      by_cases hi : i < vs.length
      · exact hi
      · rw [List.getElem?_append_right (by simpa using hi)] at h2
        rw [List.getElem?_replicate] at h2
        split at h2 <;> cases h2
    have ha : vs[i]? = some v := by
      unfold start at h2
      rw [List.getElem?_append_left (by simpa using hi), List.getElem?_map] at h2
      cases e : vs[i]? with
      | none => rw [e] at h2; cases h2
      | some a => rw [e] at h2; cases h2; rfl
    obtain ⟨u, hu, rv⟩ := r.get ha
    have hp : ps[i]? = some y := by
      rw [← S.pre, List.getElem?_take_of_lt (by omega)]; exact h1
    have ndP : ps.Nodup := by rw [← S.pre]; exact S.nd.sublist (List.take_sublist _ _)
    refine ⟨u, rv, ?_⟩
    rcases S.par y (List.mem_of_getElem? hp) with k | k
    · exact .inl ⟨k, bindL_get ndP hp hu k⟩
    · obtain ⟨c, e⟩ := cell_has (n := s.heap.objs.size + 1) k
      refine .inr ⟨.inl k, c, e, ?_⟩
      have q := x.cell y c e
      rw [bindC_get ndP hp hu (by show scope.names.lookup y ≠ _; rw [k]; decide)] at q
      exact q
  · exact e0.hok.fresh (Nat.le_of_lt (x.above y c (PySem.mem_of_lookup h)))
  · unfold start
    show _ = N.length
    rw [List.length_append, List.length_map, List.length_replicate]
    omega

/-- THE RULE: a def (or a method) of the text, by its body. The body's reading t is chosen for each entry; it is run at the parameters' values -/
theorem fn_of {CX : CXT} {P : Program} {w : World} {K : PySem.W.Frag} {mg : Str → Option Value} {base : Heap} {k : Nat} {f : Addr} {name qual : Str} {params : Arguments} {body : List Stmt} {scope : Scope} {dV kV doc pm cdv ct oc : Value} {an od : Option Addr}
    {osl : Array (Option Value)} {N ps : List Str} {sp : Sp} (lk : K.lookup f = some ⟨oc, od, .func (PySem.W.fnOf name qual params body scope dV kV doc pm an cdv ct), osl⟩) (hcd : PySem.W.codeIn K cdv qual = true) (S : FnScope N ps scope)
    (len : ∀ vs H Q E, sp vs H Q E → vs.length = ps.length)
    (hbody : ∀ (A : Around) (outer : List Env) (s : Shared) (H : Hp) (vs : List V) (Q : VK) (E : XK), Room k (A.deeper (envOfC qual scope s.heap.objs.size f cdv)) → sp vs H Q E →
      ∃ t, PSs (cxOf CX P w K mg base N qual scope f cdv A outer s H E) body t ∧ t { nx := fun _ H' => Q .non H', rt := Q } (start N vs) H) :
    FnOk P w K mg base CX (k + 1) f (PySem.W.fnOf name qual params body scope dV kV doc pm an cdv ct) ps sp := by
  refine ⟨len, fun A outer s H args us vs Q E hr e0 hb r hsp => ?_⟩
  have hl := len _ _ _ _ hsp
  have KX : K.In s.heap := e0.mod.kin.keeps fun b o e => (e0.bs b o e).1
  have lim : s.heap.NoLimit := e0.mod.nolimit.keeps fun b o e => (e0.bs b o e).1
  have hkind : ∀ y ∈ ps.zip us, scope.names.lookup y.1 = some .local ∨ (scope.names.lookup y.1 = some .cell ∧ ((cellsFrom (s.heap.objs.size + 1) scope.names []).lookup y.1).isSome = true) := fun ⟨n, v⟩ hy => by
    rcases S.par n (List.of_mem_zip hy).1 with q | q
    · exact .inl q
    · exact .inr ⟨q, PySem.W.cellsFrom_some _ _ _ (.inl q)⟩
  refine codeAny_call_function hr.depth (KX _ _ lk) rfl S.co S.gen rfl (PySem.W.codeRec_of KX hcd) (hb _ _ _ _ ?_)
  refine wpAny_newFunctionEnv_cells S.kind hkind fun env he s1 x => ?_
  subst he
  refine ⟨lim.keeps x.toInCall.keep, codeAny_func ?_⟩
  obtain ⟨t, ht, hq⟩ := hbody A outer s H vs Q E (hr.deeper _) hsp
  have I : Inv (cxOf CX P w K mg base N qual scope f cdv A outer s H E) [] (start N vs) H s1 := inv_start S hr.hd e0 hl r x
  refine wpAny_mono (ht [] s1 (start N vs) H _ I hq) (fun fl s' hs => ?_) fun e s' hs => hs
  have fin : ∀ {σ' : St} {H' : Hp} {v : V} {u : Value}, Inv (cxOf CX P w K mg base N qual scope f cdv A outer s H E) [] σ' H' s' → RelV v u → Q v H' → CE outer P w H s Q u s' :=
    fun {σ' H' v u} J rv q => ⟨v, H', J.os, J.bare, J.base, J.hok, rv, q⟩
  cases fl with
  | ret u =>
    obtain ⟨v, σ', H', J, rv, q⟩ := hs
    exact fin J rv q
  | next =>
    obtain ⟨σ', H', J, q⟩ := hs
    exact fin (v := V.non) (u := Value.none) J rfl q
  | brk =>
    obtain ⟨_, _, _, q⟩ := hs
    exact False.elim q
  | cont =>
    obtain ⟨_, _, _, q⟩ := hs
    exact False.elim q
end L2

namespace L2
open PySem PySem.Spec PyProof.Rows
section
variable {X : Cx} {x : Str} {p pos : Pos} {e : Expr} {es : List Expr} {t : TA} {id T : String} {r : List V → Hp → VK → Prop}

def tCB (r : List V → Hp → VK → Prop) (t : TA) : TE := fun σ H Q => t σ H fun vs H1 => r vs H1 Q
/-- f(e, ..), f a built-in function -/
theorem pe_callB (hc : CallR X (.builtin id) r) (hg : Gl X x) (hm : X.mg x = none) (hv : bootBuiltins x = some (.builtin id)) (ha : PA X (e :: es) t) (hn : x ≠ "__name__" := by decide) (hdb : (x == ("__debug__" : Str)) = false := by decide)
    (he : starEach (e :: es) X.env = (false, eval e X.env) :: starEach es X.env := by rfl) (hpl : (backTo pos (starEach es X.env)).any (·.1) = false := by rfl) : PE X (.Call (.Name x p) (e :: es) [] pos) (tCB r t) := by
  intro pins s σ H Q I h
  refine wpAny_Call_Name_kw (ld_blt I hg hm hv ?_ hn hdb)
  exact PyProof.Rows.callWith_builtin1 (thn (ha pos pins s σ H _ I h) fun us s1 ⟨vs, H1, I1, r1, q1⟩ => hc pins s1 σ H1 vs us Q I1 r1 q1) he hpl
/-- T(e, ..), T a built-in type -/
theorem pe_callTy (hc : CallR X (.type T) r) (hg : Gl X x) (hm : X.mg x = none) (hv : bootBuiltins x = some (.type T)) (ha : PA X (e :: es) t) (hn : x ≠ "__name__" := by decide) (hdb : (x == ("__debug__" : Str)) = false := by decide)
    (he : starEach (e :: es) X.env = (false, eval e X.env) :: starEach es X.env := by rfl) (hpl : (backTo pos (starEach es X.env)).any (·.1) = false := by rfl) : PE X (.Call (.Name x p) (e :: es) [] pos) (tCB r t) := by
  intro pins s σ H Q I h
  refine wpAny_Call_Name_kw (ld_blt I hg hm hv ?_ hn hdb)
  exact PyProof.Rows.callWith_type1 (thn (ha pos pins s σ H _ I h) fun us s1 ⟨vs, H1, I1, r1, q1⟩ => hc pins s1 σ H1 vs us Q I1 r1 q1) he hpl
end
end L2

namespace HT
open PySem PyProof.Rows

/-- t < u of tuples of ints -/
def lexLt : List Int → List Int → Bool
  | [], [] => false
  | [], _ :: _ => true
  | _ :: _, [] => false
  | x :: xs, y :: ys => if x = y then lexLt xs ys else decide (x < y)
section
open PySem.SeqAt
open PySem.AutoSeq1 (wpAny_loadPart')
open PySem.MeetsSeq PySem.MeetsSeq2 PySem.MeetsSeq3

end

section
variable {prog : Program} {w : World} {A : Around} {E : Value → Shared → Prop} {s : Shared}

/-- t + u, t not empty -/
theorem cat_tup {t b : Addr} {vs ws : List Value} {Q : Value → Shared → Prop} (ht : IsTup s.heap t vs.toArray) (hb : IsTup s.heap b ws.toArray) (hv : vs ≠ [])
    (h1 : ws = [] → Q (.ref t) s) (h2 : ws ≠ [] → Q (.ref s.heap.objs.size) { s with heap := s.heap.push { cls := .type "tuple", data := .seq (vs ++ ws).toArray } })
    (hsz : vs.length + ws.length ≤ sizeLine) : wpAny (model prog w) A (binaryOp .Add (.ref t) (.ref b)) Q E s := by
  obtain ⟨⟨cls, dd, data, sl⟩, ho, hc, n, hd⟩ := id ht
  obtain ⟨⟨cls2, dd2, data2, sl2⟩, ho2, hc2, n2, hd2⟩ := id hb
  simp only at hc hd hc2 hd2
  subst hc hd hc2 hd2
  have e : vs.toArray ++ ws.toArray = (vs ++ ws).toArray := by simp
  by_cases hw : ws = []
  · exact concat_meets ⟨_, ho, rfl⟩ ⟨_, ho2, rfl⟩ noFill_tuple_add seq_tuple_add PySem.F.slot_tuple_add PySem.F.entry_tuple_add (PySem.F.args_tuple_add_2 _ _)
      (tuple_addW1 t b vs.toArray ws.toArray n n2 dd dd2 sl sl2 (by simpa using hv) (by simp [hw])) ⟨ho, ho2, h1 hw⟩
  · refine concat_meets ⟨_, ho, rfl⟩ ⟨_, ho2, rfl⟩ noFill_tuple_add seq_tuple_add PySem.F.slot_tuple_add PySem.F.entry_tuple_add (PySem.F.args_tuple_add_2 _ _)
      (tuple_addW2 t b vs.toArray ws.toArray n n2 dd dd2 sl sl2 (by simpa using hv) (by simpa using hw) (by rw [List.size_toArray, List.size_toArray]; exact hsz)) ⟨ho, ho2, ?_⟩
    rw [e]
    exact h2 hw

/-! ### t[a:b], not the whole -/
/-- a slice's bound as a place among n (d where it is left out) -/
def sIx (n d : Nat) : Option Int → Nat
  | none => d
  | some v => if v < 0 then (v + (n : Int)).toNat else min v.toNat n
theorem sIx_none (n d : Nat) : sIx n d none = d := rfl
theorem sIx_nat (n d k : Nat) : sIx n d (some (k : Int)) = min k n := by
  show (if (k : Int) < 0 then ((k : Int) + (n : Int)).toNat else min (k : Int).toNat n) = min k n
  rw [if_neg (by omega), Int.toNat_natCast]
theorem sIx_le (n d : Nat) (hd : d ≤ n) (o : Option Int) : sIx n d o ≤ n := by
  cases o with
  | none => exact hd
  | some v =>
    show (if v < 0 then (v + (n : Int)).toNat else min v.toNat n) ≤ n
    by_cases hv : v < 0
    · rw [if_pos hv]; omega
    · rw [if_neg hv]; exact Nat.min_le_right _ _
theorem clip_eq (v : Int) (n d : Nat) : (if v < 0 then max (v + (n : Int)) 0 else min v (n : Int)) = ((sIx n d (some v) : Nat) : Int) := by
  show (if v < 0 then max (v + (n : Int)) 0 else min v (n : Int)) = (((if v < 0 then (v + (n : Int)).toNat else min v.toNat n) : Nat) : Int)
  by_cases hv : v < 0
  · simp only [if_pos hv]; omega
  · simp only [if_neg hv]; omega
theorem adjust_gen (lo hi : Option Int) (n : Nat) : Builtin.Slice.sliceAdjust lo hi 1 (n : Int) = (((sIx n 0 lo : Nat) : Int), ((sIx n n hi : Nat) : Int)) := by
  have h1 : ¬ ((1 : Int) < 0) := by omega
  unfold Builtin.Slice.sliceAdjust
  simp only [h1, if_false]
  refine Prod.ext ?_ ?_
  · cases lo with
    | none => rfl
    | some v => exact clip_eq v n 0
  · cases hi with
    | none => rfl
    | some v => exact clip_eq v n n
theorem places_gen (i j : Nat) : Builtin.Slice.slicePlaces (i : Int) (j : Int) 1 = j - i := by
  unfold Builtin.Slice.slicePlaces
  have h1 : (1 : Int) > 0 := by omega
  simp only [h1, if_true, Int.ediv_one]
  split <;> omega
theorem slicePart_ {v : Value} {o : Option Int} {Q : Option Int → Shared → Prop} (p : IsPart v o) (h : Q o s) : wpAny (model prog w) A (Builtin.Slice.slicePartIndex v) Q E s := by
  cases p with
  | none => exact slicePart_none h
  | int i t => exact slicePart_int h
theorem sliceApplied_gen {sl : Addr} {vl vu : Value} {lo hi : Option Int} {n : Nat} {Q : Int × Int × Nat → Shared → Prop} (hs : s.heap.IsSliceOf sl vl vu .none) (pl : IsPart vl lo) (pu : IsPart vu hi)
    (h : Q (((sIx n 0 lo : Nat) : Int), 1, sIx n n hi - sIx n 0 lo) s) : wpAny (model prog w) A (Builtin.Slice.sliceApplied (.ref sl) (pure (n : Int))) Q E s := by
  obtain ⟨os, hos, hcs, hds⟩ := id hs
  unfold Builtin.Slice.sliceApplied Builtin.Slice.sliceFields
  refine wpAny_bind (wpAny_bind (wpAny_field hos hds (x := vl) rfl (wpAny_bind (wpAny_field hos hds (x := vu) rfl (wpAny_bind (wpAny_field hos hds (x := .none) rfl (wpAny_pure ?_)))))))
  refine wpAny_bind (slicePart_none ?_)
  show wpAny _ _ (if ((1 : Int) == 0) = true then _ else _) _ _ s
  rw [if_neg (by decide)]
  refine wpAny_bind (slicePart_ pl (wpAny_bind (slicePart_ pu (wpAny_bind (wpAny_pure ?_)))))
  show wpAny _ _ (match Builtin.Slice.sliceAdjust lo hi 1 (n : Int) with | (lo, hi) => pure (lo, (1 : Int), Builtin.Slice.slicePlaces lo hi 1)) _ _ s
  rw [adjust_gen lo hi n]
  show wpAny _ _ (pure (((sIx n 0 lo : Nat) : Int), (1 : Int), Builtin.Slice.slicePlaces ((sIx n 0 lo : Nat) : Int) ((sIx n n hi : Nat) : Int) 1)) _ _ s
  rw [places_gen]
  exact wpAny_pure h
theorem pick_gen (xs : Array Value) (i k : Nat) : ((List.range k).filterMap fun (m : Nat) => xs[((i : Int) + (m : Int) * 1).toNat]?).toArray = ((xs.toList.drop i).take k).toArray := by
  have e : (fun (m : Nat) => xs[((i : Int) + (m : Int) * 1).toNat]?) = fun m => xs[i + m]? := by
    funext m
    have : ((i : Int) + (m : Int) * 1).toNat = i + m := by omega
    rw [this]
  rw [e]
  have := pick_run xs i k
  rw [List.filterMap_map] at this
  have e2 : ((fun x => xs[x]?) ∘ fun x => i + x) = fun m => xs[i + m]? := rfl
  rw [e2] at this
  rw [this]

theorem getItem_tuple_cut {t sl : Addr} {items : Array Value} {vl vu : Value} {lo hi : Option Int} {Q : Value → Shared → Prop} (ht : IsTup s.heap t items) (hs : s.heap.IsSliceOf sl vl vu .none) (pl : IsPart vl lo) (pu : IsPart vu hi)
    (hw : ¬ (sIx items.size 0 lo = 0 ∧ sIx items.size items.size hi = items.size))
    (h : Q (.ref s.heap.objs.size) { s with heap := s.heap.push { cls := .type "tuple", data := .seq ((items.toList.drop (sIx items.size 0 lo)).take (sIx items.size items.size hi - sIx items.size 0 lo)).toArray } })
    (hsz : items.size ≤ sizeLine) : wpAny (model prog w) A (getItem (.ref t) (.ref sl)) Q E s := by
  have htake : sizeOk (.seq ((items.toList.drop (sIx items.size 0 lo)).take (sIx items.size items.size hi - sIx items.size 0 lo)).toArray) := by
    show ((items.toList.drop (sIx items.size 0 lo)).take (sIx items.size items.size hi - sIx items.size 0 lo)).toArray.size ≤ sizeLine
    rw [List.size_toArray, List.length_take, List.length_drop, Array.length_toList]
    omega
  have hj : sIx items.size items.size hi ≤ items.size := sIx_le _ _ (Nat.le_refl _) hi
  obtain ⟨os, hos, hcs, hds⟩ := id hs
  have hTs : s.TypeIs (.ref sl) "slice" := ⟨os, hos, hcs⟩
  unfold getItem
  try with_reducible refine wpAny_holding ?_
  first | refine wpAny_bind (wpAny_pure ?_) | skip
  refine wpAny_bind (wpAny_sequenceKey ht.typeIs (by decide) ?_)
  refine wpAny_bind (wpAny_callSpecial?_slot (name := Str.ofString "__getitem__") ht.typeIs PyProof.Rows.slot_tuple_getitem
    (wpAny_call_entry PyProof.Rows.slot_tuple_getitem ht.typeIs entry_tuple_getitem ?_ (args_tuple_getitem _ _)))
  show wpAny _ _ (Builtin.Tuple.tupleItemsOf (.ref t) >>= _) _ _ s
  refine wpAny_bind (tupleItemsOf_ ht ?_)
  refine wpAny_bind (wpAny_typeOf hTs ?_)
  rw [if_pos (by decide)]
  refine wpAny_bind (sliceApplied_gen hs pl pu ?_)
  have hno : ¬ ((((sIx items.size 0 lo : Nat) : Int) == 0 && (1 : Int) == 1 && (sIx items.size items.size hi - sIx items.size 0 lo) == items.size) = true) := by
    intro q
    rw [Bool.and_eq_true, Bool.and_eq_true] at q
    have q1 : ((sIx items.size 0 lo : Nat) : Int) = 0 := eq_of_beq q.1.1
    have q2 : sIx items.size items.size hi - sIx items.size 0 lo = items.size := eq_of_beq q.2
    exact hw ⟨by omega, by omega⟩
  show wpAny _ _ (if (((sIx items.size 0 lo : Nat) : Int) == 0 && (1 : Int) == 1 && (sIx items.size items.size hi - sIx items.size 0 lo) == items.size) = true then _ else _) _ _ s
  rw [if_neg hno, pick_gen]
  first
    | exact wpAny_bind (m := Builtin.Tuple.tupleExact _) (wpAny_newObj_type (wpAny_pure ⟨_, rfl, wpAny_pure h⟩) htake)
    | exact wpAny_bind (m := Builtin.Tuple.tupleExact _) (wpAny_newObj_type (wpAny_bind (wpAny_pure (wpAny_pure ⟨_, rfl, wpAny_pure h⟩))) htake)
    | exact wpAny_bind (wpAny_bind (m := Builtin.Tuple.tupleExact _) (wpAny_newObj_type (wpAny_pure (wpAny_pure ⟨_, rfl, wpAny_pure h⟩)) htake))
    | exact wpAny_bind (wpAny_bind (m := Builtin.Tuple.tupleExact _) (wpAny_newObj_type (wpAny_pure ⟨_, rfl, wpAny_pure h⟩) htake))
end
end HT

namespace L2
open PySem PySem.Spec PyProof.Rows

/-! ### the parts of a slice -/
abbrev TO := St → Hp → (Option Int → Hp → Prop) → Prop
/-- a slice's part (left out, or an int) -/
def PO (X : Cx) (e : Option Expr) (t : TO) : Prop :=
  ∀ (pins : List (Addr × Obj)) (s : Shared) (σ : St) (H : Hp) (Q : Option Int → Hp → Prop), Inv X pins σ H s → t σ H Q →
    wpAny (model X.prog X.w) X.A (evalPart e X.env) (fun u s' => ∃ o H', Inv X pins σ H' s' ∧ IsPart u o ∧ Q o H') X.xe s
def tNoPart : TO := fun _ H Q => Q none H
def tPart (t : TE) : TO := fun σ H Q => t σ H fun x H1 => ∃ i, x = .int i ∧ Q (some i) H1

section
variable {X : Cx} {e : Expr} {te : TE} {lo hi : Option Expr} {tl th : TO} {pos p2 : Pos}

theorem po_none : PO X none tNoPart := by
  intro pins s σ H Q I h
  rw [evalPart_none]
  exact wpAny_pure ⟨none, H, I, .none, h⟩
theorem po_some (h : PE X e te) : PO X (some e) (tPart te) := by
  intro pins s σ H Q I hw
  rw [evalPart_some]
  refine thn (h pins s σ H _ I hw) fun u s1 ⟨x, H1, I1, r1, q1⟩ => ?_
  obtain ⟨i, rfl, q⟩ := q1
  obtain ⟨t, rfl⟩ := r1
  exact ⟨some i, H1, I1, .int i t, q⟩

/-- what a slice of a value is, by values: the slice object stands at sl -/
def SlR (X : Cx) (r : V → Option Int → Option Int → Hp → VK → Prop) : Prop :=
  ∀ (pins : List (Addr × Obj)) (s : Shared) (σ : St) (H : Hp) (x : V) (v vl vu : Value) (lo hi : Option Int) (sl : Addr) (Q : VK), Inv X pins σ H s → RelV x v → s.heap.IsSliceOf sl vl vu .none → IsPart vl lo → IsPart vu hi → r x lo hi H Q →
    ∃ T id, typeLookup (.type T) "__getitem__" = pure (some (.builtin id)) ∧ s.TypeIs v T ∧ wpAny (model X.prog X.w) X.A (getItem v (.ref sl)) (EP X pins σ Q) X.xe s
theorem SlR.or {r r' : V → Option Int → Option Int → Hp → VK → Prop} (h : SlR X r) (h' : SlR X r') : SlR X (fun x lo hi H Q => r x lo hi H Q ∨ r' x lo hi H Q) := by
  intro pins s σ H x v vl vu lo hi sl Q I rx hs pl pu q
  rcases q with q | q
  · exact h pins s σ H x v vl vu lo hi sl Q I rx hs pl pu q
  · exact h' pins s σ H x v vl vu lo hi sl Q I rx hs pl pu q
def tSl (r : V → Option Int → Option Int → Hp → VK → Prop) (te : TE) (tl th : TO) : TE := fun σ H Q => te σ H fun x H1 => tl σ H1 fun l H2 => th σ H2 fun u H3 => r x l u H3 Q
/-- a[lo:hi], any a -/
theorem pe_slice {r : V → Option Int → Option Int → Hp → VK → Prop} (hr : SlR X r) (he : PE X e te) (hl : PO X lo tl) (hu : PO X hi th) : PE X (.Subscript e (.Slice lo hi none p2) pos) (tSl r te tl th) := by
  intro pins s σ H Q I h
  refine Subscript_ (thn (he pins s σ H _ I h) fun v s1 ⟨x, H1, I1, r1, q1⟩ => ?_)
  refine wpAny_Slice (thn (hl pins s1 σ H1 _ I1 q1) fun vl s2 ⟨l, H2, I2, pl, q2⟩ => thn (hu pins s2 σ H2 _ I2 q2) fun vu s3 ⟨u, H3, I3, pu, q3⟩ => ?_)
  rw [evalPart_none]
  refine wpAny_pure ?_
  have I4 : Inv X pins σ H3 { s3 with heap := s3.heap.push { cls := .type "slice", data := .fields #[vl, vu, .none] } } := I3.kept (t' := s3.toks) fun b ob q => Heap.get?_push_of_some _ q
  obtain ⟨T, id, hT, ht, hg⟩ := hr pins { s3 with heap := s3.heap.push { cls := .type "slice", data := .fields #[vl, vu, .none] } } σ H3 x v vl vu l u s3.heap.objs.size Q I4 r1 (Heap.IsSliceOf.new ..) pl pu q3
  show wpAny (model X.prog X.w) X.A (subscriptTail e (.Slice lo hi none p2) v (.ref s3.heap.objs.size)) (EP X pins σ Q) X.xe { s3 with heap := s3.heap.push { cls := .type "slice", data := .fields #[vl, vu, .none] } }
  exact tail_any (ops := [.ref s3.heap.objs.size, v]) ht hT hg (by with_unfolding_all rfl)

/-- the items of xs[lo:hi] -/
def cutV (xs : List V) (lo hi : Option Int) : List V := (xs.drop (HT.sIx xs.length 0 lo)).take (HT.sIx xs.length xs.length hi - HT.sIx xs.length 0 lo)
theorem cutV_length (xs : List V) (lo hi : Option Int) : (cutV xs lo hi).length ≤ xs.length := by
  unfold cutV
  rw [List.length_take, List.length_drop]
  omega
/-- t[lo:hi], not the whole of it (the whole would be t itself) -/
def rSlT (K : PySem.W.Frag) : V → Option Int → Option Int → Hp → VK → Prop := fun x lo hi H Q => ∃ a xs, x = .ref a ∧ SqT K H a xs ∧
  ¬ (HT.sIx xs.length 0 lo = 0 ∧ HT.sIx xs.length xs.length hi = xs.length) ∧ ∀ p, H p = none → Q (.ref p) (upd H p (.tup (cutV xs lo hi)))
theorem sl_tup : SlR X (rSlT X.K) := by
  intro pins s σ H x v vl vu lo hi sl Q I rx hs pl pu h
  obtain ⟨a, xs, rfl, hx, hw, q⟩ := h
  cases rx
  obtain ⟨its, r, ht, hz⟩ := I.tuple hx
  have hlen : its.toArray.size = xs.length := by rw [List.size_toArray]; exact r.length.symm
  refine ⟨"tuple", _, PyProof.Rows.slot_tuple_getitem.lookup, ht.typeIs, ?_⟩
  refine HT.getItem_tuple_cut ht hs pl pu (by rw [hlen]; exact hw) ?_ (by rw [hlen]; exact hz)
  rw [hlen]
  refine ⟨.ref s.heap.objs.size, _, I.laid (t' := s.toks) (o := .tup (cutV xs lo hi)) (fun b ob q => Heap.get?_push_of_some _ q) (Nat.le_refl _) ?_, rfl, q _ (I.hok.fresh (Nat.le_refl _))⟩
  exact ⟨Nat.le_trans (cutV_length xs lo hi) hz, _, (r.drop (HT.sIx xs.length 0 lo)).take (HT.sIx xs.length xs.length hi - HT.sIx xs.length 0 lo), IsTup.new _ _⟩

/-! ### t < u, t + u -/
def rLtT (K : PySem.W.Frag) : R2 := fun x y H Q => ∃ a b ns ms, x = .ref a ∧ y = .ref b ∧ SqT K H a (ns.map V.int) ∧ SqT K H b (ms.map V.int) ∧ Q (.bl (HT.lexLt ns ms)) H
/-- t + u, t not empty: u empty gives t itself -/
def rCatT (K : PySem.W.Frag) : R2 := fun x y H Q => ∃ a b xs ys, x = .ref a ∧ y = .ref b ∧ SqT K H a xs ∧ SqT K H b ys ∧ xs ≠ [] ∧ xs.length + ys.length ≤ sizeLine ∧
  (ys = [] → Q (.ref a) H) ∧ (ys ≠ [] → ∀ p, H p = none → Q (.ref p) (upd H p (.tup (xs ++ ys))))
theorem Vals.nil_iff {xs : List V} {us : List Value} (r : Vals xs us) : us = [] ↔ xs = [] := by
  cases r with
  | nil => simp
  | cons _ _ => simp
theorem op_catT : OpR X (binaryOp .Add) (rCatT X.K) := by
  intro pins s σ H x y v u Q I rx ry h
  obtain ⟨a, b, xs, ys, rfl, rfl, ha, hb, hx, hz, q1, q2⟩ := h
  cases rx
  cases ry
  obtain ⟨its, r1, p1, _⟩ := I.tuple ha
  obtain ⟨its2, r2, p2, _⟩ := I.tuple hb
  refine HT.cat_tup p1 p2 (fun z => hx (r1.nil_iff.mp z)) (fun z => ⟨.ref a, H, I, rfl, q1 (r2.nil_iff.mp z)⟩) (fun z => ?_) (by rw [← r1.length, ← r2.length]; exact hz)
  refine ⟨.ref s.heap.objs.size, _, I.laid (t' := s.toks) (o := .tup (xs ++ ys)) (fun b ob q => Heap.get?_push_of_some _ q) (Nat.le_refl _) ?_, rfl, q2 (fun w => z (r2.nil_iff.mpr w)) _ (I.hok.fresh (Nat.le_refl _))⟩
  exact ⟨by rw [List.length_append]; exact hz, _, r1.append r2, IsTup.new _ _⟩
end
end L2

namespace L2
open PySem PySem.Spec PyProof.Rows

/-! ### places -/
/-- the place that an index of any sign means -/
def ixN (n : Nat) (i : Int) : Option Nat := if 0 ≤ i then (if i < n then some i.toNat else none) else if -(n : Int) ≤ i then some (i + n).toNat else none
def atI {α : Type} (xs : List α) (i : Int) : Option α := (ixN xs.length i).bind fun j => xs[j]?
theorem ixN_seq {n : Nat} {i : Int} {j : Nat} (h : ixN n i = some j) : seqIndex? i n = some j ∧ j < n ∧ -(n : Int) ≤ i ∧ i < n := by
  unfold ixN at h
  by_cases h0 : 0 ≤ i
  · rw [if_pos h0] at h
    by_cases h1 : i < n
    · rw [if_pos h1] at h
      have e : i.toNat = j := Option.some.inj h
      exact ⟨by rw [seqIndex_of h0 h1, e], by omega, by omega, h1⟩
    · rw [if_neg h1] at h; cases h
  · rw [if_neg h0] at h
    by_cases h1 : -(n : Int) ≤ i
    · rw [if_pos h1] at h
      have e : (i + n).toNat = j := Option.some.inj h
      exact ⟨by rw [seqIndex_neg (by omega) h1, e], by omega, h1, by omega⟩
    · rw [if_neg h1] at h; cases h
theorem atI_get {α : Type} {xs : List α} {i : Int} {v : α} (h : atI xs i = some v) : ∃ j, seqIndex? i xs.length = some j ∧ xs[j]? = some v ∧ j < xs.length ∧ -(xs.length : Int) ≤ i ∧ i < xs.length := by
  unfold atI at h
  cases e : ixN xs.length i with
  | none => rw [e] at h; cases h
  | some j =>
    rw [e] at h
    obtain ⟨h1, h2, h3, h4⟩ := ixN_seq e
    exact ⟨j, h1, h, h2, h3, h4⟩
theorem atI_nat {α : Type} {xs : List α} {j : Nat} {v : α} (h : xs[j]? = some v) : atI xs (j : Int) = some v := by
  have hj : j < xs.length := (List.getElem?_eq_some_iff.mp h).1
  have e : ixN xs.length (j : Int) = some j := by
    unfold ixN
    rw [if_pos (by omega), if_pos (by omega)]; simp
  unfold atI; rw [e]; exact h
/-! ### what may be subscripted -/
/-- what stands as an index of a plain subscript -/
def PlainIx (b : Expr) : Prop := ∀ o i, subscripted b false o i = operate [o, i] (getItem o i)
/-- a subscript by values -/
def IxR (X : Cx) (r : R2) : Prop :=
  ∀ (value slice : Expr) (pins : List (Addr × Obj)) (s : Shared) (σ : St) (H : Hp) (x y : V) (v u : Value) (Q : VK), Inv X pins σ H s → RelV x v → RelV y u → r x y H Q →
    subscripted slice false v u = operate [v, u] (getItem v u) → wpAny (model X.prog X.w) X.A (subscriptTail value slice v u) (EP X pins σ Q) X.xe s
/-- a call of a builtin's method by values: the receiver, the arguments -/
def MtR (X : Cx) (id : String) (r : V → List V → Hp → VK → Prop) : Prop :=
  ∀ (pins : List (Addr × Obj)) (s : Shared) (σ : St) (H : Hp) (x : V) (xs : List V) (v : Value) (us : List Value) (Q : VK), Inv X pins σ H s → RelV x v → Vals xs us → r x xs H Q →
    wpAny (model X.prog X.w) X.A (call (.builtin id) (v :: us)) (EP X pins σ Q) X.xe s
section
variable {X : Cx} {a b : Expr} {ta tb : TE} {pos : Pos}
theorem IxR.or {r r' : R2} (h : IxR X r) (h' : IxR X r') : IxR X (fun x y H Q => r x y H Q ∨ r' x y H Q) := by
  intro value slice pins s σ H x y v u Q I rx ry q hs
  rcases q with q | q
  · exact h value slice pins s σ H x y v u Q I rx ry q hs
  · exact h' value slice pins s σ H x y v u Q I rx ry q hs
theorem MtR.or {id : String} {r r' : V → List V → Hp → VK → Prop} (h : MtR X id r) (h' : MtR X id r') : MtR X id (fun x xs H Q => r x xs H Q ∨ r' x xs H Q) := by
  intro pins s σ H x xs v us Q I rx rs q
  rcases q with q | q
  · exact h pins s σ H x xs v us Q I rx rs q
  · exact h' pins s σ H x xs v us Q I rx rs q
/-- a[b] -/
theorem pe_ix {r : R2} (hr : IxR X r) (ha : PE X a ta) (hb : PE X b tb) (hs : PlainIx b) : PE X (.Subscript a b pos) (tOp r ta tb) := by
  intro pins s σ H Q I h
  exact Subscript_ (binT ha hb I h fun v u s2 x y H2 I2 rx ry q => hr a b pins s2 σ H2 x y v u Q I2 rx ry q (hs _ _))

def rIxL (K : PySem.W.Frag) : R2 := fun x y H Q => ∃ p xs i v, x = .ref p ∧ y = .int i ∧ SqL K H p xs ∧ atI xs i = some v ∧ Q v H
def rIxT (K : PySem.W.Frag) : R2 := fun x y H Q => ∃ p xs i v, x = .ref p ∧ y = .int i ∧ SqT K H p xs ∧ atI xs i = some v ∧ Q v H
def rIxS : R2 := fun x y H Q => ∃ z i c, x = .str z ∧ y = .int i ∧ z.length ≤ sizeLine ∧ atI z.cps.toList i = some c ∧ Q (.str ⟨#[c]⟩) H
theorem ix_list : IxR X (rIxL X.K) := by
  intro value slice pins s σ H x y v u Q I rx ry h hs
  obtain ⟨p, xs, i, z, rfl, rfl, hq, he, q⟩ := h
  cases rx
  obtain ⟨t, rfl⟩ := ry
  obtain ⟨its, r, pl, hz⟩ := I.list hq
  obtain ⟨j, h1, h2, h3, h4, h5⟩ := atI_get he
  obtain ⟨w, ew, rw'⟩ := r.get h2
  have hl := r.length
  have hn := line63
  have fin : EP X pins σ Q w s := ⟨z, H, I, rw', q⟩
  by_cases h0 : 0 ≤ i
  · have hj : i.toNat = j := by
      rw [seqIndex_of h0 h5] at h1
      exact Option.some.inj h1
    exact item_listR pl.isList h0 (by omega) (by rw [hj]; simpa using ew) fin hs
  · have hj : (i + (its.toArray.size : Int)).toNat = j := by
      rw [seqIndex_neg (by omega) h4] at h1
      rw [List.size_toArray, ← hl]
      exact Option.some.inj h1
    exact subscriptTail_builtinR (x := w) pl.isList.typeIs slot_list_getitem.lookup
      (wpAny_getItem_list_neg (Q := fun r s' => r = w ∧ EP X pins σ Q r s') pl.isList (by omega) (by rw [List.size_toArray] <;> omega) (by omega) (by rw [hj]; simpa using ew) ⟨rfl, fin⟩) hs
theorem ix_tup : IxR X (rIxT X.K) := by
  intro value slice pins s σ H x y v u Q I rx ry h hs
  obtain ⟨p, xs, i, z, rfl, rfl, hq, he, q⟩ := h
  cases rx
  obtain ⟨t, rfl⟩ := ry
  obtain ⟨its, r, pl, hz⟩ := I.tuple hq
  obtain ⟨j, h1, h2, h3, h4, h5⟩ := atI_get he
  obtain ⟨w, ew, rw'⟩ := r.get h2
  have hl := r.length
  have hn := line63
  have fin : EP X pins σ Q w s := ⟨z, H, I, rw', q⟩
  exact subscriptTail_builtinR (x := w) pl.typeIs slot_tuple_getitem.lookup
    (getItem_tuple (j := j) (Q := fun r s' => r = w ∧ EP X pins σ Q r s') pl (by omega) (by omega) (by rw [List.size_toArray, ← hl]; exact h1) (by simpa using ew) ⟨rfl, fin⟩) hs
/-- list, tuple or str -/
def rIx (K : PySem.W.Frag) : R2 := fun x y H Q => rIxL K x y H Q ∨ rIxT K x y H Q ∨ rIxS x y H Q
/-! ### xs[i] = v, any sign -/
/-- the list's object behind a store -/
theorem mapSeq_set (its : List Value) (n j : Nat) (u : Value) : Obj.mapSeq (·.setIfInBounds j u) { cls := .type "list", data := .seq its.toArray n } = { cls := .type "list", data := .seq (its.set j u).toArray n } := by
  simp [Obj.mapSeq]
theorem Inv.lst {pins : List (Addr × Obj)} {σ : St} {H : Hp} {s : Shared} {p : Addr} {xs : List V} (I : Inv X pins σ H s) (h : H p = some (.lst xs)) :
    ∃ (its : List Value) (n : Nat), Vals xs its ∧ s.heap.get? p = some { cls := .type "list", data := .seq its.toArray n } ∧ xs.length ≤ sizeLine := by
  obtain ⟨z, its, n, r, e⟩ := I.hok p _ h
  exact ⟨its, n, r, e, z⟩
/-- the list at p is written by an update of its object -/
theorem Inv.lstUpd {pins : List (Addr × Obj)} {σ : St} {H : Hp} {s : Shared} {p : Addr} {xs ys : List V} {its its' : List Value} {n n' : Nat} {f : Obj → Obj} (I : Inv X pins σ H s) (h : H p = some (.lst xs))
    (ho : s.heap.get? p = some { cls := .type "list", data := .seq its.toArray n }) (hf : f { cls := .type "list", data := .seq its.toArray n } = { cls := .type "list", data := .seq its'.toArray n' }) (r : Vals ys its') (hz : ys.length ≤ sizeLine) (t : Nat) :
    Inv X pins σ (upd H p (.lst ys)) { s with heap := s.heap.update p f, toks := t } := by
  have e : (s.heap.update p f).get? p = some { cls := .type "list", data := .seq its'.toArray n' } := by
    rw [Heap.get?_update_self f ho (by rw [hf] <;> rfl), hf]
  refine I.write (x := p) (e := p) (by rw [h]; trivial) (.inl rfl) (fun b u hb q => (Heap.get?_update_other _ _ (Ne.symm hb)).trans q) ⟨_, e⟩ ?_
  exact ⟨hz, its', n', r, e⟩
def rSetL : V → V → V → Hp → (Hp → Prop) → Prop := fun o i v H Q => ∃ p xs k j, o = .ref p ∧ i = .int k ∧ H p = some (.lst xs) ∧ ixN xs.length k = some j ∧ Q (upd H p (.lst (xs.set j v)))
theorem set_list : PSet X rSetL := by
  intro pins s σ H o i v ov iv u Q I ro ri rv h
  obtain ⟨p, xs, k, j, rfl, rfl, hp, hj, q⟩ := h
  cases ro
  obtain ⟨t, rfl⟩ := ri
  obtain ⟨its, n, r, ho, hz⟩ := I.lst hp
  obtain ⟨h1, h2, h3, h4⟩ := ixN_seq hj
  have hl := r.length
  have hn := line63
  have I' : Inv X pins σ (upd H p (.lst (xs.set j v))) { s with heap := s.heap.update p (Obj.mapSeq (·.setIfInBounds j u)) } :=
    I.lstUpd hp ho (mapSeq_set its n j u) (r.set rv j) (by rw [List.length_set]; exact hz) s.toks
  by_cases h0 : 0 ≤ k
  · have hk : k.toNat = j := by
      rw [seqIndex_of h0 h4] at h1
      exact Option.some.inj h1
    exact PySem.W.ki_setAt ho h0 (by omega) (by rw [List.size_toArray, ← hl]; exact h4) (by rw [hk]; exact ⟨_, I', q⟩)
  · have hk : (k + (its.toArray.size : Int)).toNat = j := by
      rw [seqIndex_neg (by omega) h3] at h1
      rw [List.size_toArray, ← hl]
      exact Option.some.inj h1
    exact PySem.W.ki_setBack ho (by omega) (by rw [List.size_toArray, ← hl]; exact h3) (by omega) (by rw [hk]; exact ⟨_, I', q⟩)

/-! ### slices -/
theorem slice_bounds (lo hi : Option Int) (n : Nat) : (sliceBounds lo hi none n).1 = ((HT.sIx n 0 lo : Nat) : Int) ∧ (sliceBounds lo hi none n).2.1 = ((HT.sIx n n hi : Nat) : Int) ∧ (sliceBounds lo hi none n).2.2 = 1 := by
  refine ⟨?_, ?_, rfl⟩
  · cases lo with
    | none => simp [sliceBounds, HT.sIx]
    | some i =>
      simp only [sliceBounds, HT.sIx, Option.getD_none, show (1 : Int) > 0 by decide, if_true]
      by_cases h : i < 0
      · simp only [h, if_true] <;> omega
      · simp only [h, if_false] <;> omega
  · cases hi with
    | none => simp [sliceBounds, HT.sIx]
    | some i =>
      simp only [sliceBounds, HT.sIx, Option.getD_none, show (1 : Int) > 0 by decide, if_true]
      by_cases h : i < 0
      · simp only [h, if_true] <;> omega
      · simp only [h, if_false] <;> omega
theorem slicePick_cut (its : List Value) (lo hi : Option Int) : slicePick its.toArray lo hi none = ((its.drop (HT.sIx its.length 0 lo)).take (HT.sIx its.length its.length hi - HT.sIx its.length 0 lo)).toArray := by
  obtain ⟨h1, h2, h3⟩ := slice_bounds lo hi its.toArray.size
  unfold slicePick
  rw [h1, h2, h3]
  simp only [sliceRange_one, pick_run, List.size_toArray] <;> rfl
/-- xs[lo:hi] of a list: a new list -/
def rSlL (K : PySem.W.Frag) : V → Option Int → Option Int → Hp → VK → Prop := fun x lo hi H Q => ∃ a xs, x = .ref a ∧ SqL K H a xs ∧ ∀ p, H p = none → Q (.ref p) (upd H p (.lst (cutV xs lo hi)))
theorem sl_list : SlR X (rSlL X.K) := by
  intro pins s σ H x v vl vu lo hi sl Q I rx hs pl pu h
  obtain ⟨a, xs, rfl, hx, q⟩ := h
  cases rx
  obtain ⟨its, r, ht, hz⟩ := I.list hx
  have hlen := r.length
  refine ⟨"list", _, slot_list_getitem.lookup, ht.isList.typeIs, ?_⟩
  refine wpAny_getItem_list_slice ht.isList hs pl pu .none (by simp) ?_ (by rw [List.size_toArray] <;> omega)
  rw [slicePick_cut, ← hlen]
  refine ⟨.ref s.heap.objs.size, _, I.laid (t' := s.toks) (o := .lst (cutV xs lo hi)) (fun b ob q => Heap.get?_push_of_some _ q) (Nat.le_refl _) ?_, rfl, q _ (I.hok.fresh (Nat.le_refl _))⟩
  exact ⟨Nat.le_trans (cutV_length xs lo hi) hz, _, 0, (r.drop (HT.sIx xs.length 0 lo)).take (HT.sIx xs.length xs.length hi - HT.sIx xs.length 0 lo), Heap.get?_push_size _ rfl⟩

/-! ### in, not in: flat items -/
def flatV : V → Bool
  | .non => true
  | .bl _ => true
  | .int _ => true
  | .str _ => true
  | _ => false
/-- == of flat values -/
def eqV : V → V → Bool
  | .non, .non => true
  | .bl a, .bl b => a == b
  | .bl a, .int b => (if a then 1 else 0) == b
  | .int a, .bl b => a == (if b then 1 else 0)
  | .int a, .int b => a == b
  | .str a, .str b => a == b
  | _, _ => false
/-- the items' answers, read off the values (a value's own answer does not lean on its token) -/
def eqU (x : V) (u : Value) : Bool := match u with
  | .none => eqV .non x
  | .bool b => eqV (.bl b) x
  | .int i _ => eqV (.int i) x
  | .str z _ => eqV (.str z) x
  | _ => false
def inV (x : V) (xs : List V) : Bool := xs.any fun y => eqV y x
/-- x in a list or tuple of flat items -/
def rIn (K : PySem.W.Frag) (neg : Bool) : R2 := fun x y H Q => ∃ p xs, y = .ref p ∧ (SqL K H p xs ∨ SqT K H p xs) ∧ flatV x = true ∧ xs.all flatV = true ∧ Q (.bl (if neg then !inV x xs else inV x xs)) H
/-! ### len, list(x), tuple(x) of any list or tuple that is read -/
theorem call_len_seq : CallR X (.builtin "len") (fun xs H Q => ∃ p ys, xs = [.ref p] ∧ (SqL X.K H p ys ∨ SqT X.K H p ys) ∧ Q (.int ys.length) H) := by
  intro pins s σ H xs us Q I r h
  obtain ⟨p, ys, rfl, hq, q⟩ := h
  obtain ⟨u, rfl, rx⟩ := vals1 r
  cases rx
  have hn := line63
  rcases hq with hq | hq
  · obtain ⟨its, r', pl, hz⟩ := I.list hq
    have hlen := r'.length
    exact Calls.call_len_list pl.isList (by simp only [List.size_toArray] <;> omega) ⟨.int ys.length, H, I.tok _, ⟨s.toks + 1, by rw [List.size_toArray, hlen]⟩, q⟩
  · obtain ⟨its, r', pl, hz⟩ := I.tuple hq
    have hlen := r'.length
    exact len_tuple pl (by simp only [List.size_toArray] <;> omega) ⟨.int ys.length, H, I.tok _, ⟨s.toks + 1, by rw [List.size_toArray, hlen]⟩, q⟩
theorem call_len_str : CallR X (.builtin "len") (fun xs H Q => ∃ z, xs = [.str z] ∧ z.length ≤ sizeLine ∧ Q (.int z.length) H) := by
  intro pins s σ H xs us Q I r h
  obtain ⟨z, rfl, hz, q⟩ := h
  obtain ⟨u, rfl, t, rfl⟩ := vals1 r
  have hn := line63
  exact len_str (by omega) ⟨.int z.length, H, I.tok _, ⟨_, rfl⟩, q⟩
theorem CallR.or {f : Value} {r r' : List V → Hp → VK → Prop} (h : CallR X f r) (h' : CallR X f r') : CallR X f (fun xs H Q => r xs H Q ∨ r' xs H Q) := by
  intro pins s σ H xs us Q I rs q
  rcases q with q | q
  · exact h pins s σ H xs us Q I rs q
  · exact h' pins s σ H xs us Q I rs q
theorem call_list_of : CallR X (.type "list") (fun xs H Q => ∃ p ys, xs = [.ref p] ∧ (SqL X.K H p ys ∨ SqT X.K H p ys) ∧ ∀ l, H l = none → Q (.ref l) (upd H l (.lst ys))) := by
  intro pins s σ H xs us Q I r h
  obtain ⟨p, ys, rfl, hq, q⟩ := h
  obtain ⟨u, rfl, rx⟩ := vals1 r
  cases rx
  have fin : ∀ (its : List Value), Vals ys its → ys.length ≤ sizeLine → ∀ (h' : Heap) (c' : Nat), (∀ b o', s.heap.get? b = some o' → h'.get? b = some o') →
      h'.get? s.heap.objs.size = some { cls := .type "list", dict := none, data := .seq its.toArray c', slots := #[] } → EP X pins σ Q (.ref s.heap.objs.size) { s with heap := h' } := fun its r' hz h' c' kp e =>
    ⟨.ref s.heap.objs.size, _, I.laid (t' := s.toks) kp (Nat.le_refl _) (show ObjOk X.prog X.w _ h' _ (.lst ys) from ⟨hz, its, c', r', e⟩), rfl, q _ (I.hok.fresh (Nat.le_refl _))⟩
  rcases hq with hq | hq
  · obtain ⟨its, r', pl, hz⟩ := I.list hq
    have hlen := r'.length
    obtain ⟨o, ho, hc, n, hd⟩ := pl.isList
    exact call_list_seq p (.inl rfl) ho hc hd (fun h' c' kp e => fin its r' hz h' c' kp e) (by simp only [List.size_toArray] <;> omega)
  · obtain ⟨its, r', pl, hz⟩ := I.tuple hq
    have hlen := r'.length
    obtain ⟨o, ho, hc, n, hd⟩ := pl
    exact call_list_seq p (.inr rfl) ho hc hd (fun h' c' kp e => fin its r' hz h' c' kp e) (by simp only [List.size_toArray] <;> omega)
theorem call_tuple_of : CallR X (.type "tuple") (fun xs H Q => ∃ p ys, xs = [.ref p] ∧ ((SqL X.K H p ys ∧ ∀ l, H l = none → Q (.ref l) (upd H l (.tup ys))) ∨ (SqT X.K H p ys ∧ Q (.ref p) H))) := by
  intro pins s σ H xs us Q I r h
  obtain ⟨p, ys, rfl, h⟩ := h
  obtain ⟨u, rfl, rx⟩ := vals1 r
  cases rx
  rcases h with ⟨hq, q⟩ | ⟨hq, q⟩
  · obtain ⟨its, r', pl, hz⟩ := I.list hq
    have hlen := r'.length
    refine call_tuple_list pl.isList (fun h' kp => ?_) (by simp only [List.size_toArray] <;> omega)
    have I1 : Inv X pins σ H { s with heap := h' } := I.kept (t' := s.toks) kp
    have I2 : Inv X pins σ (upd H h'.objs.size (.tup ys)) { s with heap := h'.push { cls := .type "tuple", data := .seq its.toArray } } :=
      I1.laid (t' := s.toks) (fun b o e => Heap.get?_push_of_some _ e) (Nat.le_refl _) (show ObjOk X.prog X.w _ _ _ (.tup ys) from ⟨hz, its, r', IsTup.new _ _⟩)
    exact ⟨.ref h'.objs.size, _, I2, rfl, q _ (I1.hok.fresh (Nat.le_refl _))⟩
  · obtain ⟨its, r', pl, hz⟩ := I.tuple hq
    exact call_tuple_same pl ⟨.ref p, H, I, rfl, q⟩

/-! ### the call of a builtin's method: o.m(..) -/
/-- the value is of that builtin type -/
def tyV (K : PySem.W.Frag) (T : String) (x : V) (H : Hp) : Prop := match x with
  | .str _ => T = "str"
  | .int _ => T = "int"
  | .ref p => (T = "list" ∧ ∃ xs, SqL K H p xs) ∨ (T = "tuple" ∧ ∃ o, K.lookup p = some o ∧ o.cls = .type "tuple" ∧ o.dict = none) ∨
      (T = "dict" ∧ ((∃ kvs, H p = some (.dK kvs)) ∨ ∃ kvs, H p = some (.dT kvs))) ∨ (T = "set" ∧ ∃ S n, H p = some (.set S n))
  | _ => False
theorem tyV_is {pins : List (Addr × Obj)} {σ : St} {H : Hp} {s : Shared} {T : String} {x : V} {v : Value} (I : Inv X pins σ H s) (r : RelV x v) (ty : tyV X.K T x H) :
    s.TypeIs v T ∧ ∀ a, v = .ref a → ∃ ob, s.heap.get? a = some ob ∧ ob.dict = none := by
  cases x with
  | str z =>
    obtain ⟨t, rfl⟩ := r
    cases (show T = "str" from ty)
    exact ⟨typeIs_str s z t, fun _ e => nomatch e⟩
  | int i =>
    obtain ⟨t, rfl⟩ := r
    cases (show T = "int" from ty)
    exact ⟨typeIs_int s i t, fun _ e => nomatch e⟩
  | ref p =>
    cases r
    rcases ty with ⟨rfl, xs, hq⟩ | ⟨rfl, o, hk, hc, hd⟩ | ⟨rfl, hk⟩ | ⟨rfl, S, n, hk⟩
    · obtain ⟨its, _, pl, _⟩ := I.list hq
      refine ⟨pl.isList.typeIs, fun a e => ?_⟩
      cases e
      obtain ⟨o, n, e, c, hd, _⟩ := pl
      exact ⟨o, e, hd⟩
    · refine ⟨⟨o, I.kIn p o hk, hc⟩, fun a e => ?_⟩
      cases e
      exact ⟨o, I.kIn _ o hk, hd⟩
    · have z : ∃ o, s.heap.get? p = some o ∧ o.ExactDict := by
        rcases hk with ⟨kvs, hk⟩ | ⟨kvs, hk⟩
        · obtain ⟨_, _, _, _, o, _, _, e, ex, _⟩ := I.hok p _ hk
          exact ⟨o, e, ex⟩
        · obtain ⟨_, _, _, _, o, _, _, e, ex, _⟩ := I.hok p _ hk
          exact ⟨o, e, ex⟩
      obtain ⟨o, e, ex⟩ := z
      refine ⟨⟨o, e, ex.1⟩, fun a e2 => ?_⟩
      cases e2
      exact ⟨o, e, ex.2.1⟩
    · obtain ⟨o, _, _, _, e, ex, _⟩ := I.hok p _ hk
      refine ⟨⟨o, e, ex.1⟩, fun a e2 => ?_⟩
      cases e2
      exact ⟨o, e, ex.2.1⟩
  | _ => exact False.elim ty
def tBM0 (K : PySem.W.Frag) (T : String) (r : V → List V → Hp → VK → Prop) (to : TE) : TE := fun σ H Q => to σ H fun x H1 => tyV K T x H1 ∧ r x [] H1 Q
def tBM (K : PySem.W.Frag) (T : String) (r : V → List V → Hp → VK → Prop) (to : TE) (t : TA) : TE := fun σ H Q => to σ H fun x H1 => tyV K T x H1 ∧ t σ H1 fun xs H2 => r x xs H2 Q
variable {o e : Expr} {es : List Expr} {to : TE} {t : TA} {name : Str} {apos cpos : Pos} {T id : String} {r : V → List V → Hp → VK → Prop}
theorem pe_bm (pa : PlainAttrs T) (slot : Slot T name id) (hty : typeOf (.builtin id) = pure (.type "method_descriptor")) (hm : MtR X id r) (ho : PE X o to) (ha : PA X (e :: es) t)
    (hbase : attributeBase o name X.env (eval o X.env) = eval o X.env := by rfl)
    (hfew : ((backTo cpos (starEach (e :: es) X.env)).all (fun x => !x.1) && (backToKw cpos (keywordEach [] X.env)).all (fun x => x.1.isSome)
      && decide ((e :: es).length + ([] : List Keyword).length + (if ([] : List Keyword).isEmpty then 0 else 1) < 30)) = true := by rfl)
    (hline : (apos.endLine == cpos.line) = true := by rfl) (hs : starEach (e :: es) X.env = (false, eval e X.env) :: starEach es X.env := by rfl) (hplain : (backTo cpos (starEach es X.env)).any (·.1) = false := by rfl) :
    PE X (.Call (.Attribute o name apos) (e :: es) [] cpos) (tBM X.K T r to t) := by
  intro pins s σ H Q I h
  refine wpAny_Call_method_late hbase hfew hline rfl (thn (ho pins s σ H _ I h) fun v s1 ⟨x, H1, I1, r1, ty, q1⟩ => ?_)
  obtain ⟨h1, h2⟩ := tyV_is I1 r1 ty
  refine ⟨T, id, pa, slot, hty, h1, h2, ?_⟩
  have hA := ha cpos pins s1 σ H1 _ I1 q1
  rw [hs] at hA ⊢
  refine Calls.callWith_builtin (by show (false || (backTo cpos (starEach es X.env)).any (·.1)) = false; rw [hplain] <;> rfl) (Calls.evalArgs_plain ?_)
  exact thn hA fun us s2 ⟨vs, H2, I2, r2, q2⟩ => hm pins s2 σ H2 x vs v us Q I2 r1 r2 q2
/- xs.append(e), list.index on a module's tuple .. are MtR facts of 06m -/
end
end L2

namespace L2
open PySem PySem.Spec PyProof.Rows

def MtM (X : Cx) (id : String) (r : V → List V → Hp → VK → Prop) : Prop :=
  ∀ (pins : List (Addr × Obj)) (s : Shared) (σ : St) (H : Hp) (x : V) (xs : List V) (v : Value) (us : List Value) (Q : VK), Inv X pins σ H s → RelV x v → Vals xs us → r x xs H Q →
    wpAny (model X.prog X.w) X.A (call (.builtin id) (v :: us)) (EP X pins σ Q) X.xe s

/-! ### lists of values -/
theorem Vals.one : ∀ {x : V} {us : List Value}, Vals [x] us → ∃ u, us = [u] ∧ RelV x u
  | _, _, .cons r .nil => ⟨_, rfl, r⟩
theorem Vals.two : ∀ {x y : V} {us : List Value}, Vals [x, y] us → ∃ u v, us = [u, v] ∧ RelV x u ∧ RelV y v
  | _, _, _, .cons r (.cons q .nil) => ⟨_, _, rfl, r, q⟩
theorem Vals.zero : ∀ {us : List Value}, Vals [] us → us = []
  | _, .nil => rfl
theorem Vals.dropLast {xs : List V} {us : List Value} (h : Vals xs us) : Vals xs.dropLast us.dropLast := by
  induction h with
  | nil => exact .nil
  | cons r t ih =>
    cases t with
    | nil => exact .nil
    | cons q t' => exact .cons r ih
theorem Vals.eraseIdx : ∀ {xs : List V} {us : List Value} (i : Nat), Vals xs us → Vals (xs.eraseIdx i) (us.eraseIdx i)
  | _, _, _, .nil => .nil
  | _, _, 0, .cons _ t => t
  | _, _, i + 1, .cons r t => .cons r (Vals.eraseIdx i t)
theorem Vals.reverse {xs : List V} {us : List Value} (h : Vals xs us) : Vals xs.reverse us.reverse := by
  induction h with
  | nil => exact .nil
  | cons r t ih => rw [List.reverse_cons, List.reverse_cons]; exact Vals.append ih (.cons r .nil)
section
variable {X : Cx} {pins : List (Addr × Obj)} {σ : St} {H : Hp} {s : Shared} {l b : Addr} {xs ys zs : List V}

/-! ### the two steps: a tracked list is rewritten, a new list is laid -/
theorem Inv.lset {its its' : List Value} {n : Nat} {f : Array Value → Array Value} {t' : Nat} (I : Inv X pins σ H s) (hH : H l = some (.lst xs))
    (e : s.heap.get? l = some { cls := .type "list", data := .seq its.toArray n }) (hf : f its.toArray = its'.toArray) (hv : Vals ys its') (hz : ys.length ≤ sizeLine) :
    Inv X pins σ (upd H l (.lst ys)) { s with heap := s.heap.update l (Obj.mapSeq f), toks := t' } := by
  have q := PySem.IsL.update e f
  rw [hf] at q
  refine I.write (x := l) (e := l) (by rw [hH]; exact trivial) (.inl rfl) (fun b' u hb hu => (Heap.get?_update_other s.heap (Obj.mapSeq f) (Ne.symm hb)).trans hu) ⟨_, q⟩ ?_
  exact ⟨hz, its', _, hv, q⟩
theorem Inv.lnew {its : List Value} {t' : Nat} (I : Inv X pins σ H s) (hv : Vals ys its) (hz : ys.length ≤ sizeLine) :
    Inv X pins σ (upd H s.heap.objs.size (.lst ys)) { s with heap := s.heap.push { cls := .type "list", data := .seq its.toArray }, toks := t' } :=
  I.laid (fun _ _ q => Heap.get?_push_of_some _ q) (Nat.le_refl _) ⟨hz, its, 0, hv, Heap.get?_push_size _ rfl⟩
theorem Inv.fresh (I : Inv X pins σ H s) : H s.heap.objs.size = none := I.hok.fresh (Nat.le_refl _)
theorem Inv.lstM (I : Inv X pins σ H s) (hH : H l = some (.lst xs)) : xs.length ≤ sizeLine ∧ ∃ (its : List Value) (n : Nat), Vals xs its ∧ xs.length = its.length ∧ s.heap.get? l = some { cls := .type "list", data := .seq its.toArray n } := by
  obtain ⟨z, its, n, r, e⟩ := I.hok l _ hH
  exact ⟨z, its, n, r, r.length, e⟩

end

section
variable {X : Cx}

/-! ### methods -/
def rAppend : V → List V → Hp → VK → Prop := fun x vs H Q => ∃ l xs y, x = .ref l ∧ vs = [y] ∧ H l = some (.lst xs) ∧ xs.length < sizeLine ∧ Q .non (upd H l (.lst (xs ++ [y])))
theorem mt_append : MtM X "list.append" rAppend := by
  intro pins s σ H x vs v us Q I rx rv h
  obtain ⟨l, xs, y, rfl, rfl, hH, hz, q⟩ := h
  cases rx
  obtain ⟨u, rfl, ru⟩ := rv.one
  obtain ⟨z, its, n, r, hl, e⟩ := I.lstM hH
  refine call_meets F.slot_list_append ⟨_, e, rfl⟩ F.entry_list_append (F.args_list_append_2 _ _) (PySem.list_append l its.toArray n u (by rw [List.size_toArray]; omega)) ⟨e, ?_⟩
  refine ⟨.non, _, I.lset (its' := its ++ [u]) hH e (by simp) (r.append (.cons ru .nil)) ?_, rfl, q⟩
  rw [List.length_append, List.length_singleton]
  omega

def rExtend : V → List V → Hp → VK → Prop := fun x vs H Q => ∃ l b xs zs, x = .ref l ∧ vs = [.ref b] ∧ H l = some (.lst xs) ∧ H b = some (.lst zs) ∧ xs.length + zs.length ≤ sizeLine ∧ Q .non (upd H l (.lst (xs ++ zs)))
def rPop : V → List V → Hp → VK → Prop := fun x vs H Q => ∃ l xs y, x = .ref l ∧ vs = [] ∧ H l = some (.lst xs) ∧ xs[xs.length - 1]? = some y ∧ Q y (upd H l (.lst xs.dropLast))
def rPopAt : V → List V → Hp → VK → Prop := fun x vs H Q => ∃ l xs i k y, x = .ref l ∧ vs = [.int i] ∧ H l = some (.lst xs) ∧ -(2 ^ 63) ≤ i ∧ i < 2 ^ 63 ∧ seqIndex? i xs.length = some k ∧ xs[k]? = some y ∧ Q y (upd H l (.lst (xs.eraseIdx k)))
def rReverse : V → List V → Hp → VK → Prop := fun x vs H Q => ∃ l xs, x = .ref l ∧ vs = [] ∧ H l = some (.lst xs) ∧ Q .non (upd H l (.lst xs.reverse))
def rClear : V → List V → Hp → VK → Prop := fun x vs H Q => ∃ l xs, x = .ref l ∧ vs = [] ∧ H l = some (.lst xs) ∧ Q .non (upd H l (.lst []))
/-! ### list + list, list += list, list * int -/
def rCat : R2 := fun x y H Q => ∃ l b xs zs, x = .ref l ∧ y = .ref b ∧ H l = some (.lst xs) ∧ H b = some (.lst zs) ∧ xs.length + zs.length ≤ sizeLine ∧ ∀ p, H p = none → Q (.ref p) (upd H p (.lst (xs ++ zs)))
theorem op_cat : OpR X (binaryOp .Add) rCat := by
  intro pins s σ H x y v u Q I rx ry h
  obtain ⟨l, b, xs, zs, rfl, rfl, hH, hB, hz, q⟩ := h
  cases rx
  cases ry
  obtain ⟨z, its, n, r, hl, e⟩ := I.lstM hH
  obtain ⟨z2, its2, n2, r2, hl2, e2⟩ := I.lstM hB
  refine PySem.P.add_list e e2 ?_ (by rw [List.size_toArray, List.size_toArray]; omega)
  have ea : its.toArray ++ its2.toArray = (its ++ its2).toArray := by simp
  rw [ea]
  exact ⟨.ref _, _, I.lnew (t' := s.toks) (r.append r2) (by rw [List.length_append]; omega), rfl, q _ I.fresh⟩
/-- a list times an int (a negative one is nothing) -/
def rRep : R2 := fun x y H Q => ∃ l k xs, x = .ref l ∧ y = .int k ∧ H l = some (.lst xs) ∧ -(2 ^ 63) ≤ k ∧ k < 2 ^ 63 ∧ xs.length * k.toNat ≤ sizeLine ∧
  ∀ p, H p = none → Q (.ref p) (upd H p (.lst (List.replicate k.toNat xs).flatten))
/-! ### del xs[i] -/
end

/-! ### xs[a:b] = ys -/
section
variable {prog : Program} {w : World} {A : Around} {E : Value → Shared → Prop} {s : Shared}
end

section
variable {X : Cx}
end
end L2

namespace Att
open PySem PySem.W PySem.Calls PyProof.Rows

/-! ### the script -/
theorem ints_of_wellAll {P : Params} {h : Heap} : ∀ (ns : List Int) (vs : List Value), WellAll P h vs (ns.map WData.int) → IntsAre vs ns := by
  intro ns
  induction ns with
  | nil =>
    intro vs w
    rw [List.map_nil] at w
    cases w
    exact .nil
  | cons n ns ih =>
    intro vs w
    rw [List.map_cons] at w
    cases w with
    | cons a b =>
      cases a
      exact .cons _ _ (ih _ b)

theorem script_of {l : OpenLaw} {n : Nat} (hn : l.most = some n) {P : Params} {h : Heap} {args : List WData} {vals : List Value}
    (hpre : l.row.toRowW.claim.pre args = true) (hwl : WellAll P h vals args) :
    ∃ a vs ns, vals = [Value.ref a] ∧ args = [WData.list (ns.map WData.int)] ∧ h.get? a = some { cls := .type "list", data := .seq vs.toArray } ∧ IntsAre vs ns ∧ ns.length ≤ n := by
  have hsh : WShape.hasAll [] args [.list .int] = true := (pre_splitW hpre).1
  have hc : l.pre.holds [] { args := args } = true := (pre_splitW hpre).2
  obtain ⟨d, r, rfl, h1, h2⟩ := hasAllW_cons hsh
  obtain rfl := hasAllW_nil h2
  obtain ⟨xs, rfl, h3⟩ := hasW_list h1
  obtain ⟨ns, rfl⟩ := items_int h3
  have hlen : ns.length ≤ n := by
    unfold OpenLaw.pre at hc
    have h4 : (WTm.not (.lt (.lit (.int (n : Int))) (.len (.arg 0)))).holds [] { args := [.list (ns.map .int)] } = true := by
      have h4 := (holds_andW hc).1
      rw [hn] at h4
      exact h4
    have h5 := condW_of h4 (w_not (w_lt w_lit (w_len_list (w_arg rfl))))
    rw [List.length_map] at h5
    refine Nat.le_of_not_lt fun q => ?_
    have q' : (n : Int) < ((ns.length : Nat) : Int) := by omega
    first
      | (rw [decide_eq_true q'] at h5; exact absurd h5 (by decide))
      | (simp at h5; omega)
  cases hwl with
  | cons w1 w2 =>
    cases w2
    cases w1 with
    | list ho hall => exact ⟨_, _, ns, rfl, rfl, ho, ints_of_wellAll ns _ hall, hlen⟩

theorem post_true (l : OpenLaw) (args : List WData) : l.row.toRowW.claim.post args (.bool true) args = true :=
  postW_of (r := l.row.toRowW) (X := (true == true))
    (show WShape.has [] (.bool true) .bool = true by first | rfl | decide | simp [WShape.has, WShape.arms, WShape.armsAll])
    (show (WTm.eq .res (.lit (.bool true))).value [] { args := args, res := some (.bool true), after := args } = some (.bool (true == true)) from w_eq_bool (w_res rfl) w_lit) rfl

/-! ### the attachment: holds_open's last premise (the goal 'hc' behind k_head) from a wpAny of the law's body -/
/-- the same from a codeAny of the CALL (for a layer whose function contracts speak of calls) -/
theorem attach_call {l : OpenLaw} {n : Nat} {q : Program} {loose : List Str} {XP : (Str → Option Value) → Heap → Prop} {YP : World → Heap → Prop} {d : DefRec}
    (hn : l.most = some n) (hdf : d.params.defaults = [])
    (call : ∀ (w : World) (s₀ s₁ : Shared) (mg mb : Str → Option Value) (fa : Addr) (o : Obj) (pm cd doc : Value) (a : Addr) (vs : List Value) (ns : List Int),
      Ground q loose [] XP w s₀ mg mb s₁.heap → YP w s₁.heap →
      s₁.heap.get? fa = some o → o.data = .func (docDef d.name d.params d.body d.scope pm cd doc) → s₁.heap.CodeRec cd d.name → mg d.name = some (.ref fa) →
      s₁.heap.get? a = some { cls := .type "list", data := .seq vs.toArray } → IntsAre vs ns → ns.length ≤ n → s₁.gens = #[] →
      codeAny (model l.prog w) callerA (.call (.ref fa) ⟨[.ref a], []⟩) (fun r s' => r = .ok (.ret (.bool true)) ∧ OldK s₁.heap s'.heap ∧ s'.os = s₁.os ∧ AllBare s'.gens) s₁) :
    WalkO q loose XP YP l.row.toRowW d [] (fun f vs => PySem.call f vs) := by
  intro w s₀ s₁ mg mb G Y fa o pm cd doc dV kV ho hd hcd hD hmg hg args vals as hpre hlay hrd hwl hlo
  obtain rfl : dV = .none := Dflts.none hD hdf
  obtain rfl : kV = .none := Dflts.noKw hD
  obtain ⟨a, vs, ns, rfl, rfl, hobj, hints, hlen⟩ := script_of hn hpre hwl
  refine enter_call (codeAny_mono (call w s₀ s₁ mg mb fa o pm cd doc a vs ns G Y ho (fd_plain hd) hcd hmg hobj hints hlen hg) fun r s' hq => ?_)
  obtain ⟨rfl, h2, h3, h4⟩ := hq
  exact ⟨.inl ⟨.bool true, .bool true, [], rfl, fun _ => rfl, .bool true, post_true l _, fun _ => ⟨List.Pairwise.nil, fun _ hm => (nomatch hm)⟩⟩, h2, h3, h4⟩

/-! ### rules over ANY heap (no ledger) from facts about the written part K: the library's own take a ledger (News) for what they write -/
section
variable {prog : Program} {w : World} {A : Around} {E : Value → Shared → Prop} {s : Shared} {K : Frag}

/-! the whole heap as the ledger: makes every rule that writes through a ledger a rule over any heap -/
def noObjs (h : Heap) : Heap := { h with objs := #[] }
def ledger (h : Heap) (L d : Addr) : List (Addr × Obj) := (List.range h.objs.size).filterMap fun a => if a = L ∨ a = d then none else (h.get? a).map fun o => (a, o)
end
end Att

namespace L2
open PySem PySem.Spec PyProof.Rows

theorem vals_ints : ∀ {vs : List Value} {ns : List Int}, IntsAre vs ns → Vals (ns.map V.int) vs
  | _, _, .nil => .nil
  | _, _, .cons n t h => .cons ⟨t, rfl⟩ (vals_ints h)

/-- nothing is tracked but the script, known to the object (or it is an object of the module) -/
def Only (H : Hp) : Prop := ∀ b, H b = none ∨ ∃ o xs, H b = some (.frz o (.lst xs))

/-- THE HEAD: the law's promise, at the heap behind the top. F, the promise of the law's def, may use that base is part of the heap (so K.In base, base.Ns mainGlobals mg stand in Mod) -/
theorem law_call {P : Program} {w : World} {K : PySem.W.Frag} {mg mb : Str → Option Value} {CX : CXT} {k : Nat} {fa a : Addr} {fd : FuncData} {x : Str} {sp : Sp} {s₁ : Shared} {vs : List Value} {ns : List Int}
    (KX : K.In s₁.heap) (hns : s₁.heap.Ns mainGlobals mg) (hb : s₁.heap.Ns builtinsNs mb) (hbb : ∀ x : Str, x ≠ "__name__" → mb x = bootBuiltins x) (hlim : s₁.heap.NoLimit) (hg : s₁.gens = #[])
    (ha : s₁.heap.get? a = some { cls := .type "list", data := .seq vs.toArray }) (hi : IntsAre vs ns) (hl : ns.length ≤ sizeLine) (hr : Room k callerA)
    (F : ∀ base : Heap, K.In base → base.Ns mainGlobals mg → FnOk P w K mg base CX k fa fd [x] sp) (hbind : ∀ (s : Shared) (u : Value), BindsTo s fd ⟨[u], []⟩ [(x, u)])
    (hsp : ∀ H : Hp, Only H → SqL K H a (ns.map V.int) → sp [.ref a] H (fun v _ => v = .bl true) fun _ _ _ => False)
    (hCX : ∀ H e s', CX [] H s₁ (fun _ _ _ => False) e s' → False) :
    codeAny (model P w) callerA (.call (.ref fa) ⟨[.ref a], []⟩) (fun r s' => r = .ok (.ret (.bool true)) ∧ OldK s₁.heap s'.heap ∧ s'.os = s₁.os ∧ AllBare s'.gens) s₁ := by
  have rv := vals_ints hi
  have lenV := hi.length
  -- from an abstract heap in which nothing but the script may be tracked
  have core : ∀ H : Hp, Only H → SqL K H a (ns.map V.int) → HOk P w H s₁.heap → (∀ b, H b ≠ none → b = a) → (H a ≠ none → K.lookup a = none) →
      codeAny (model P w) callerA (.call (.ref fa) ⟨[.ref a], []⟩) (fun r s' => r = .ok (.ret (.bool true)) ∧ OldK s₁.heap s'.heap ∧ s'.os = s₁.os ∧ AllBare s'.gens) s₁ := by
    intro H hO hS hok hA hK
    have base_of : ∀ {b : Addr} {o : Obj}, s₁.heap.get? b = some o → H b = none → (hidT s₁.heap H).get? b = some o := fun e n => hidT_get e n
    have noA : ∀ {b : Addr} {o : Obj} {es : Array DictEntry} {ep : Nat}, s₁.heap.get? b = some o → o.data = .dict es ep → H b = none := fun {b o es ep} e d => by
      cases q : H b with
      | none => rfl
      | some u =>
        have e' : b = a := hA b (by rw [q]; simp)
        subst e'
        rw [ha] at e; cases e
        have d' : Data.seq vs.toArray _ = Data.dict es ep := d
        cases d'
    have nsK : ∀ {b : Addr} {m : Str → Option Value}, s₁.heap.Ns b m → (hidT s₁.heap H).Ns b m := fun {b m} ⟨o, es, ep, e, d, r⟩ => ⟨o, es, ep, base_of e (noA e d), d, r⟩
    have hKb : K.In (hidT s₁.heap H) := fun b o e => base_of (KX b o e) (by
      cases q : H b with
      | none => rfl
      | some u =>
        have e' : b = a := hA b (by rw [q]; simp)
        subst e'
        rw [hK (by rw [q]; simp)] at e; cases e)
    have hM : Mod K mg (hidT s₁.heap H) := ⟨hKb, nsK hns, ⟨mb, nsK hb, hbb⟩, let ⟨mc, h1, h2⟩ := hlim; ⟨mc, nsK h1, h2⟩⟩
    have e0 : Env0 P w K mg (hidT s₁.heap H) callerA [] s₁ H := ⟨rfl, hM, fun b o e => of_hidT e, Nat.le_of_eq (hidT_size _ _), trivial, fun b hb => absurd (show b ∈ ([] : List Addr) from hb) (by simp), hok, .of_eq hg⟩
    refine codeAny_mono ((F _ hKb (nsK hns)).run callerA [] s₁ H ⟨[.ref a], []⟩ [.ref a] [.ref a] _ _ hr e0 (hbind s₁ (.ref a)) (.cons rfl .nil) (hsp H hO hS)) fun r s' h => ?_
    cases r with
    | error e => exact (hCX H e s' h).elim
    | ok fl =>
      cases fl with
      | next => exact False.elim h
      | brk => exact False.elim h
      | cont => exact False.elim h
      | ret u =>
        obtain ⟨v, H', os, bare, un, hok', r', q⟩ := h
        have q' : v = .bl true := q
        subst q'
        obtain rfl : u = Value.bool true := r'
        refine ⟨rfl, OldK.of_keep fun b o e => ?_, os, bare⟩
        cases q : H b with
        | none => exact un.keep b o e q (by intro z; exact absurd (show b ∈ ([] : List Addr) from z) (by simp)) (by simp)
        | some u =>
          rcases hO b with z | ⟨ob, xs, z⟩
          · rw [q] at z; cases z
          · have z2 := un.frzs b ob _ z
            obtain ⟨e1, _⟩ := hok b _ z
            obtain ⟨e2, _⟩ := hok' b _ z2
            rw [e] at e1; cases e1
            exact e2
  cases hk : K.lookup a with
  | some o =>
    -- the script is one of the module's own objects
    have e := KX a o hk
    rw [ha] at e
    cases e
    refine core (fun _ => none) (fun _ => .inl rfl) (.inr ⟨_, vs.toArray, _, hk, rfl, rfl, rfl, by rw [List.size_toArray, lenV]; exact hl, by simpa using rv⟩) (fun b u z => by have z' : (none : Option HO) = some u := z; cases z') (fun b z => absurd rfl z) fun z => absurd rfl z
  | none =>
    refine core (fun b => if b = a then some (.frz { cls := .type "list", data := .seq vs.toArray } (.lst (ns.map V.int))) else none) (fun b => ?_) (.inl (.inr ⟨{ cls := .type "list", data := .seq vs.toArray }, if_pos rfl⟩)) (fun b u z => ?_) (fun b z => ?_) fun _ => hk
    · by_cases hb : b = a
      · exact .inr ⟨_, _, if_pos hb⟩
      · exact .inl (if_neg hb)
    · by_cases hb : b = a
      · have z' := (if_pos hb).symm.trans z
        cases z'
        subst hb
        exact ⟨ha, by rw [List.length_map]; exact hl, vs, _, rv, ha⟩
      · have z' := (if_neg hb).symm.trans z
        cases z'
    · by_cases hb : b = a
      · exact hb
      · exact absurd (if_neg hb) z
end L2

namespace L2
open PySem PySem.Spec PyProof.Rows

abbrev KOf {K : PySem.W.Frag} {h : Heap} (_ : K.In h) : PySem.W.Frag := K

/-- the goal that k_head leaves (case hc), from the law's promise. F gives the function object fd (K's own) once, then the promise over every base -/
theorem walk_of {l : PySem.W.OpenLaw} {n k : Nat} {q : Program} {loose : List Str} {XP : (Str → Option Value) → Heap → Prop} {YP : World → Heap → Prop} {d : DefRec} {K : Params → PySem.W.Frag} {CX : World → CXT} {sp : World → Sp} {x : Str}
    (hn : l.most = some n) (hn2 : n ≤ sizeLine) (hdf : d.params.defaults = []) (hr : Room k callerA)
    (hY : ∀ (w : World) (h : Heap), YP w h → (K w.params).In h)
    (F : ∀ (w : World) (mg : Str → Option Value) (fa : Addr) (h : Heap), (K w.params).In h → h.Ns mainGlobals mg → mg d.name = some (.ref fa) →
      ∃ fd : FuncData, (∀ (s : Shared) (u : Value), BindsTo s fd ⟨[u], []⟩ [(x, u)]) ∧
        ∀ base : Heap, (K w.params).In base → base.Ns mainGlobals mg → FnOk l.prog w (K w.params) mg base (CX w) k fa fd [x] (sp w))
    (hsp : ∀ (w : World) (H : Hp) (a : Addr) (ns : List Int), ns.length ≤ n → Only H → SqL (K w.params) H a (ns.map V.int) → sp w [.ref a] H (fun v _ => v = .bl true) fun _ _ _ => False)
    (hCX : ∀ (w : World) (H : Hp) (s : Shared) (e : Value) (s' : Shared), CX w [] H s (fun _ _ _ => False) e s' → False) :
    PySem.W.WalkO q loose XP YP l.row.toRowW d [] (fun f vs => PySem.call f vs) := by
  refine Att.attach_call hn hdf fun w s₀ s₁ mg mb fa o pm cd doc a vs ns G Y ho hd hcd hmg hobj hints hlen hg => ?_
  have KX := hY w _ Y
  obtain ⟨fd, hb, hF⟩ := F w mg fa _ KX G.T.g hmg
  exact law_call KX G.T.g G.T.b G.T.builtins G.T.nolimit hg hobj hints (Nat.le_trans hlen hn2) hr hF hb (fun H hO hS => hsp w H a ns hlen hO hS) fun H e s' => hCX w H s₁ e s'
end L2

/-! SHORT WORDS over the layer: a def of the text, its body, what a loop and a test want. -/
namespace L2
open PySem PySem.Spec PyProof.Rows

/-! ### the text by places -/
/-- the j-th statement of a class's body -/
def inClass (s : Stmt) (j : Nat) : Stmt := match s with
  | .ClassDef _ _ _ body _ _ _ _ _ _ _ => body.getD j (.Pass ⟨0, 0, 0, 0⟩)
  | _ => .Pass ⟨0, 0, 0, 0⟩
def defArgs (s : Stmt) : Arguments := match s with
  | .FunctionDef _ a _ _ _ _ _ _ _ _ => a
  | _ => { posonlyargs := [], args := [], vararg := none, kwonlyargs := [], kw_defaults := [], kwarg := none, defaults := [] }
def defBody (s : Stmt) : List Stmt := match s with
  | .FunctionDef _ _ b _ _ _ _ _ _ _ => b
  | _ => []
def defScope (s : Stmt) : Scope := match s with
  | .FunctionDef _ _ _ _ _ _ sc _ _ _ => sc
  | _ => { kind := .function, names := [], isGenerator := false, isCoroutine := false }

/-! ### no exception leaves a def -/
abbrev CX0 : CXT := fun _ _ _ _ _ _ => False
abbrev E0 : XK := fun _ _ _ => False
/-! ### a def (or method) of the text as it stands behind the top -/
structure Fun (K : PySem.W.Frag) (x qual : Str) (st : Stmt) (f : Addr) (fd : FuncData) : Prop where
  ex : ∃ (oc : Value) (od : Option Addr) (kV doc pm : Value) (an : Option Addr) (cdv ct : Value) (osl : Array (Option Value)),
    fd = PySem.W.fnOf x qual (defArgs st) (defBody st) (defScope st) .none kV doc pm an cdv ct ∧ K.lookup f = some ⟨oc, od, .func fd, osl⟩ ∧ PySem.W.codeIn K cdv qual = true
  kp : PySem.W.keepIn K (.ref f) = true
section
variable {P : Program} {w : World} {K : PySem.W.Frag} {mg : Str → Option Value} {base : Heap}
/-- THE RULE for a def: its body as a term of rules, and the reading of that term -/
theorem Fun.ok {x qual : Str} {st : Stmt} {f : Addr} {fd : FuncData} {N ps : List Str} {k : Nat} {sp : Sp} (F : Fun K x qual st f fd) (S : FnScope N ps (defScope st)) (len : ∀ vs H Q E, sp vs H Q E → vs.length = ps.length)
    (hbody : ∀ (cdv : Value) (A : Around) (outer : List Env) (s : Shared) (H : Hp) (vs : List V) (Q : VK) (E : XK), Room k (A.deeper (envOfC qual (defScope st) s.heap.objs.size f cdv)) → sp vs H Q E →
      ∃ t, PSs (cxOf CX0 P w K mg base N qual (defScope st) f cdv A outer s H E).nox (defBody st) t ∧ t { nx := fun _ H' => Q .non H', rt := Q } (start N vs) H) : FnOk P w K mg base CX0 (k + 1) f fd ps sp := by
  obtain ⟨oc, od, kV, doc, pm, an, cdv, ct, osl, rfl, lk, hcd⟩ := F.ex
  refine fn_of lk hcd S len fun A outer s H vs Q E hr hsp => ?_
  obtain ⟨t, h, q⟩ := hbody cdv A outer s H vs Q E hr hsp
  exact ⟨t, h.nox, q⟩
/-- how its arguments bind (no defaults): h is «fun _ _ _ _ _ _ us hl => match us, hl with | [_, _], _ => rfl», one _ a parameter -/
theorem Fun.binds {x qual : Str} {st : Stmt} {f : Addr} {fd : FuncData} {ps : List Str} (F : Fun K x qual st f fd)
    (h : ∀ (kV doc pm : Value) (an : Option Addr) (cdv ct : Value) (us : List Value), us.length = ps.length → bindArgs (PySem.W.fnOf x qual (defArgs st) (defBody st) (defScope st) .none kV doc pm an cdv ct) ⟨us, []⟩ = pure (ps.zip us)) : Binds K fd ps [] := by
  obtain ⟨oc, od, kV, doc, pm, an, cdv, ct, osl, rfl, lk, hcd⟩ := F.ex
  exact .all (h kV doc pm an cdv ct)
theorem fun_mk {x qual : Str} {st : Stmt} {f : Addr} {oc : Value} {od an : Option Addr} {osl : Array (Option Value)} {kV doc pm cdv ct : Value} (l : K.lookup f = some ⟨oc, od, .func (PySem.W.fnOf x qual (defArgs st) (defBody st) (defScope st) .none kV doc pm an cdv ct), osl⟩)
    (c : PySem.W.codeIn K cdv qual = true) (k : PySem.W.keepIn K (.ref f) = true) : Fun K x qual st f (PySem.W.fnOf x qual (defArgs st) (defBody st) (defScope st) .none kV doc pm an cdv ct) := ⟨⟨oc, od, kV, doc, pm, an, cdv, ct, osl, rfl, l, c⟩, k⟩
end
/-! ### expressions in short: the name that stands in the i-th slot -/
section
variable {X : Cx}
end

/-! ### tests -/
/-! ### heaps -/
/-- all that was tracked is as it was -/
def Same (H H' : Hp) : Prop := ∀ b o, H b = some o → H' b = some o
theorem Same.refl (H : Hp) : Same H H := fun _ _ h => h
theorem Same.trans {H H1 H2 : Hp} (a : Same H H1) (b : Same H1 H2) : Same H H2 := fun c o h => b c o (a c o h)
theorem Same.free {H H' : Hp} (e : Same H H') {l : Addr} (h : H' l = Option.none) : H l = Option.none := by
  cases q : H l with
  | none => rfl
  | some o =>
    rw [e l o q] at h
    cases h
theorem Same.seq {K : PySem.W.Frag} {H H' : Hp} {a : Addr} {xs : List V} (e : Same H H') (h : SqL K H a xs) : SqL K H' a xs := by
  rcases h with (h | ⟨o, h⟩) | h
  · exact .inl (.inl (e _ _ h))
  · exact .inl (.inr ⟨o, e _ _ h⟩)
  · exact .inr h

end L2

set_option Elab.async false
set_option linter.all false
set_option maxRecDepth 100000
namespace L2
open PySem PySem.Spec PyProof.Rows

end L2

namespace L2
open PySem PySem.Spec PyProof.Rows

section
variable (P : Program) (w : World)
end

section
variable {P : Program} {w : World} {H H' : Hp} {h h' : Heap} {a : Addr} {o : HO}
end

section
variable {P : Program} {w : World} {H : Hp} {h h' : Heap} {x e : Addr} {o' : HO}
end

section
variable {fs fs' ex ex' : List Addr} {H H1 H2 : Hp} {h h1 h2 h' : Heap} {a x e : Addr} {o : HO}
end

end L2

namespace L2
open PySem PySem.Spec PyProof.Rows

section
variable {X : Cx} {pins : List (Addr × Obj)} {σ : List (Option V)} {H H' : Hp} {s : Shared} {h' : Heap}

end

end L2

namespace L2
open PySem PySem.Spec PyProof.Rows
section
variable {X : Cx}

variable {a b : Expr} {ta tb : TE} {pos : Pos}
variable {tA tB' : TT} {rest : List Expr}
end
end L2

namespace L2
open PySem PySem.Spec PyProof.Rows

section
variable {X : Cx} {pins : List (Addr × Obj)} {σ : St} {H : Hp} {s : Shared} {a : Addr} {xs ys : List V}
end

section
variable {X : Cx} {pins : List (Addr × Obj)} {σ : St} {H : Hp} {s : Shared} {E : Value → Shared → Prop}
end

section
variable {X : Cx} {st : Stmt} {rest : List Stmt} {t u : TS} {e : Expr} {te : TE} {pos : Pos}
end

section
variable {X : Cx} {pos : Pos}
end

section
variable {X : Cx} {pos : Pos}
end

end L2

namespace L2
open PySem PySem.Spec PyProof.Rows
section
variable {X : Cx} {tg : Expr}
end

end L2

namespace L2
open PySem PySem.Spec PyProof.Rows

section
variable {X : Cx} {a b c : Expr} {ta tb tc : TE} {pos : Pos}

end

section
variable {X : Cx} {a b c : Expr} {ta tb tc : TE} {pos : Pos}
end
end L2

namespace L2
open PySem PySem.Spec PyProof.Rows

section
variable {prog : Program} {w : World} {A : Around} {E : Value → Shared → Prop} {s : Shared} {K : PySem.W.Frag} {x dx C f : Addr} {mA : Str → Option Value} {name : Str} {v : Value}

end

section
variable {P : Program} {w : World} {H H' : Hp} {h h' : Heap} {a C dx : Addr} {fs fs' : List (Str × V)}
end

section
variable {X : Cx} {pins : List (Addr × Obj)} {σ : St} {H : Hp} {s : Shared} {a C dx : Addr} {fs : List (Str × V)} {f : Str} {v : V} {A : Around} {E : Value → Shared → Prop}

end

section
variable {X : Cx} {o e value : Expr} {f : Str} {pos pos' tpos : Pos} {ta tv : TE}
end

section
variable {X : Cx} {pins : List (Addr × Obj)} {σ : St} {H : Hp} {s : Shared} {A : Around} {E : Value → Shared → Prop} {Q : Value → Shared → Prop} {c : Value} {b : Bool}
end
end L2

namespace L2
open PySem PySem.Spec PyProof.Rows

section
variable {X : Cx} {e : Expr} {es : List Expr} {te : TE} {t : TA} {pos : Pos}
end

section
variable {X : Cx} {pins : List (Addr × Obj)} {σ : St} {H : Hp} {s s' : Shared}
end

section
variable {X : Cx} {CX : CXT} {k : Nat} {f C : Addr} {fd : FuncData} {ps : List Str} {sp : Sp} {dvs : List V} {ds : List Value} {E : XK} {x m : Str} {p pos apos : Pos} {e o : Expr} {es : List Expr} {ta : TE} {t : TA}

end

section
variable {X : Cx} {CX : CXT} {k : Nat} {f C : Addr} {fd : FuncData} {ps ks : List Str} {sp : Sp} {E : XK} {x m : Str} {p pos apos kpos : Pos} {e o : Expr} {es : List Expr} {kws : List Keyword} {te ta : TE} {t tk : TA} {nm : Option Str}
variable {g : List Value → List Value → List Value} {gV : List V → List V → List V}
end

end L2

namespace L2
open PySem PySem.Spec PyProof.Rows
section
variable {X : Cx} {x : Str} {p pos : Pos} {e : Expr} {es : List Expr} {t : TA} {id T : String} {r : List V → Hp → VK → Prop}

end
end L2

namespace L2
open PySem PySem.Spec PyProof.Rows

section
variable {κ : Type} [DecidableEq κ]
def valV (kvs : List (κ × V)) (k : κ) : Option V := (kvs.find? fun kv => decide (kv.1 = k)).map (·.2)
/-- in its place, or at the end -/
def putK (kvs : List (κ × V)) (k : κ) (v : V) : List (κ × V) :=
  if (kvs.any fun kv => decide (kv.1 = k)) = true then kvs.map (fun kv => if kv.1 = k then (kv.1, v) else kv) else kvs ++ [(k, v)]
def dropK (kvs : List (κ × V)) (k : κ) : List (κ × V) := kvs.filter fun kv => decide (kv.1 ≠ k)

theorem valV_pos {p : κ × V} {r : List (κ × V)} {k : κ} (e : p.1 = k) : valV (p :: r) k = some p.2 := by simp [valV, List.find?_cons, e]
theorem valV_neg {p : κ × V} {r : List (κ × V)} {k : κ} (e : ¬ p.1 = k) : valV (p :: r) k = valV r k := by simp [valV, List.find?_cons, e]
theorem RelO.getD {o : Option V} {u : Option Value} {d : V} {d' : Value} (r : RelO o u) (rd : RelV d d') : RelV (o.getD d) (u.getD d') := by
  cases o with
  | none => cases u with
    | none => exact rd
    | some _ => exact (show False from r).elim
  | some _ => cases u with
    | none => exact (show False from r).elim
    | some _ => exact r

/-- raw tables of the same keys -/
theorem KV.val {kvs : List (κ × V)} {vs : List (κ × Value)} (r : KV kvs vs) (k : κ) : RelO (valV kvs k) (valueAt vs k) := by
  unfold KV at r
  induction r with
  | nil => exact True.intro
  | @cons p q ps qs h t ih =>
    obtain ⟨h1, h2⟩ := h
    by_cases e : p.1 = k
    · have e' : q.1 = k := h1.symm.trans e
      have b : valueAt (q :: qs) k = some q.2 := by simp [valueAt, List.find?_cons, e']
      rw [valV_pos e, b]; exact h2
    · have e' : ¬ q.1 = k := fun z => e (h1.trans z)
      have b : valueAt (q :: qs) k = valueAt qs k := by simp [valueAt, List.find?_cons, e']
      rw [valV_neg e, b]; exact ih
theorem KV.any {kvs : List (κ × V)} {vs : List (κ × Value)} (r : KV kvs vs) (k : κ) : (kvs.any fun kv => decide (kv.1 = k)) = vs.any fun kv => decide (kv.1 = k) := by
  unfold KV at r
  induction r with
  | nil => rfl
  | cons h t ih => rw [List.any_cons, List.any_cons, ih, h.1]
theorem KV.drop {kvs : List (κ × V)} {vs : List (κ × Value)} (r : KV kvs vs) (k : κ) : KV (dropK kvs k) (without vs k) := by
  unfold KV at r ⊢
  unfold dropK without
  induction r with
  | nil => exact .nil
  | @cons p q ps qs h t ih =>
    obtain ⟨h1, h2⟩ := h
    rw [List.filter_cons, List.filter_cons]
    by_cases e : p.1 = k
    · have a : ¬ decide (p.1 ≠ k) = true := by simp [e]
      have b : ¬ decide (q.1 ≠ k) = true := by simp [h1.symm.trans e]
      rw [if_neg a, if_neg b]; exact ih
    · have e' : ¬ q.1 = k := fun z => e (h1.trans z)
      have a : decide (p.1 ≠ k) = true := by simp [e]
      have b : decide (q.1 ≠ k) = true := by simp [e']
      rw [if_pos a, if_pos b]; exact .cons ⟨h1, h2⟩ ih
theorem KV.keys {kvs : List (κ × V)} {vs : List (κ × Value)} (r : KV kvs vs) : kvs.map (·.1) = vs.map (·.1) := by
  unfold KV at r
  induction r with
  | nil => rfl
  | cons h t ih => rw [List.map_cons, List.map_cons, ih, h.1]
theorem KV.length {kvs : List (κ × V)} {vs : List (κ × Value)} (r : KV kvs vs) : kvs.length = vs.length := Paired.length r
end


/-- raw entries of a dict with tuple keys -/
abbrev KT (H : Hp) : List (List Key × V) → List (List Key × Addr × Value) → Prop := Paired fun p q => p.1 = q.1 ∧ H q.2.1 = some (.tup (p.1.map kV)) ∧ RelV p.2 q.2.2
theorem KT.val {H : Hp} {kvs : List (List Key × V)} {xs : List (List Key × Addr × Value)} (r : KT H kvs xs) (k : List Key) : RelO (valV kvs k) ((atKey xs k).map (·.2)) := by
  induction r with
  | nil => exact True.intro
  | @cons p q ps qs h t ih =>
    obtain ⟨h1, _, h2⟩ := h
    by_cases e : p.1 = k
    · have e' : q.1 = k := h1.symm.trans e
      have b : atKey (q :: qs) k = some q.2 := by simp [atKey, List.find?_cons, e']
      rw [valV_pos e, b]; exact h2
    · have e' : ¬ q.1 = k := fun z => e (h1.trans z)
      have b : atKey (q :: qs) k = atKey qs k := by simp [atKey, List.find?_cons, e']
      rw [valV_neg e, b]; exact ih
theorem KT.keeps {H H' : Hp} {kvs : List (List Key × V)} {xs : List (List Key × Addr × Value)} (r : KT H kvs xs) (ht : ∀ b ys, H b = some (.tup ys) → H' b = some (.tup ys)) : KT H' kvs xs :=
  Paired.mapP r fun _ _ z => ⟨z.1, ht _ _ z.2.1, z.2.2⟩

section
variable {P : Program} {w : World} {H : Hp} {h : Heap} {a : Addr}
end

/-- what the dict at a holds at the key y -/
def DGet (H : Hp) (a : Addr) (y : V) (r : Option V) : Prop :=
  (∃ kvs k, Rd H a (.dK kvs) ∧ y = kV k ∧ r = valV kvs k) ∨ ∃ kvs k b, Rd H a (.dT kvs) ∧ y = .ref b ∧ H b = some (.tup (k.map kV)) ∧ r = valV kvs k
/-- the heap behind a[y] = v -/
def DPut (H : Hp) (a : Addr) (y v : V) (H' : Hp) : Prop :=
  (∃ kvs k, H a = some (.dK kvs) ∧ y = kV k ∧ kvs.length < sizeLine ∧ H' = upd H a (.dK (putK kvs k v))) ∨
  ∃ kvs k b, H a = some (.dT kvs) ∧ y = .ref b ∧ H b = some (.tup (k.map kV)) ∧ kvs.length < sizeLine ∧ H' = upd H a (.dT (putK kvs k v))
theorem DGet.k {H : Hp} {a : Addr} {kvs : List (Key × V)} {k : Key} (e : H a = some (.dK kvs)) : DGet H a (kV k) (valV kvs k) := .inl ⟨kvs, k, .inl e, rfl, rfl⟩
theorem DGet.t {H : Hp} {a b : Addr} {kvs : List (List Key × V)} {k : List Key} (e : H a = some (.dT kvs)) (eb : H b = some (.tup (k.map kV))) : DGet H a (.ref b) (valV kvs k) := .inr ⟨kvs, k, b, .inl e, rfl, eb, rfl⟩
theorem DPut.k {H : Hp} {a : Addr} {kvs : List (Key × V)} {k : Key} {v : V} (e : H a = some (.dK kvs)) (hl : kvs.length < sizeLine) : DPut H a (kV k) v (upd H a (.dK (putK kvs k v))) := .inl ⟨kvs, k, e, rfl, hl, rfl⟩
theorem DPut.t {H : Hp} {a b : Addr} {kvs : List (List Key × V)} {k : List Key} {v : V} (e : H a = some (.dT kvs)) (eb : H b = some (.tup (k.map kV))) (hl : kvs.length < sizeLine) :
    DPut H a (.ref b) v (upd H a (.dT (putK kvs k v))) := .inr ⟨kvs, k, b, e, rfl, eb, hl, rfl⟩


section
variable {X : Cx} {pins : List (Addr × Obj)} {σ : St} {H : Hp} {s : Shared} {a : Addr} {y v : V} {u r : Value} {o : Option V} {A : Around} {E : Value → Shared → Prop}

end

section
variable {X : Cx} {pins : List (Addr × Obj)} {σ : St} {H : Hp} {s : Shared} {a : Addr} {kvs : List (Key × V)} {k : Key} {u : Value} {A : Around} {E : Value → Shared → Prop}
end


/-- the element of a subscription, not a slice -/
def NoSl (i : Expr) : Prop := ∀ ov iv, subscripted i false ov iv = operate [ov, iv] (getItem ov iv)
/-- d[y] -/
def tDGet (td ty : TE) : TE := fun σ H Q => td σ H fun x H1 => ty σ H1 fun y H2 => ∃ a v, x = .ref a ∧ DGet H2 a y (some v) ∧ Q v H2
/-- y in d, y not in d -/
def tDIn (ty td : TE) : TE := fun σ H Q => ty σ H fun y H1 => td σ H1 fun x H2 => ∃ a o, x = .ref a ∧ DGet H2 a y o ∧ Q (.bl o.isSome) H2
def tDNotIn (ty td : TE) : TE := fun σ H Q => ty σ H fun y H1 => td σ H1 fun x H2 => ∃ a o, x = .ref a ∧ DGet H2 a y o ∧ Q (.bl (!o.isSome)) H2
/-- d[y] = v -/
def sDPut (td ty tv : TE) : TS := fun D σ H => tv σ H fun v H1 => td σ H1 fun x H2 => ty σ H2 fun y H3 => ∃ a H4, x = .ref a ∧ DPut H3 a y v H4 ∧ D.nx σ H4
/-- d[y] op= v -/
def sDAug (td ty tv : TE) (rd : V → V → Hp → VK → Prop) : TS := fun D σ H => td σ H fun x H1 => ty σ H1 fun y H2 => ∃ a v, x = .ref a ∧ DGet H2 a y (some v) ∧
  tv σ H2 fun y2 H3 => rd v y2 H3 fun z H4 => ∃ H5, DPut H4 a y z H5 ∧ D.nx σ H5
/-- del d[y] -/
def sDDel (td ty : TE) : TS := fun D σ H => td σ H fun x H1 => ty σ H1 fun y H2 => ∃ a kvs k, x = .ref a ∧ H2 a = some (.dK kvs) ∧ y = kV k ∧ (valV kvs k).isSome = true ∧ D.nx σ (upd H2 a (.dK (dropK kvs k)))

section
variable {X : Cx} {o i e value : Expr} {pos pos' tpos : Pos} {td ty tv : TE}
end


/-- {}, to be a dict of the kind that is wanted -/
def tDNewK : TE := fun _ H Q => ∀ p, H p = none → Q (.ref p) (upd H p (.dK []))
def tDNewT : TE := fun _ H Q => ∀ p, H p = none → Q (.ref p) (upd H p (.dT []))
section
variable {X : Cx} {pos : Pos}
end

/-- the pairs of a display, from the left -/
def tPairs : List (TE × TE) → St → Hp → (List (V × V) → Hp → Prop) → Prop
  | [], _, H, Q => Q [] H
  | (tk, tv) :: r, σ, H, Q => tk σ H fun x H1 => tv σ H1 fun y H2 => tPairs r σ H2 fun ps H3 => Q ((x, y) :: ps) H3
abbrev VV : List (V × V) → List (Value × Value) → Prop := Paired fun p q => RelV p.1 q.1 ∧ RelV p.2 q.2
def PPs (X : Cx) (pos : Pos) (keys : List (Option Expr)) (values : List Expr) (trs : List (TE × TE)) : Prop :=
  ∀ (pins : List (Addr × Obj)) (s : Shared) (σ : St) (H : Hp) (Q : List (V × V) → Hp → Prop), Inv X pins σ H s → tPairs trs σ H Q →
    wpAny (model X.prog X.w) X.A (evalPairs (pairTrees keys values X.env pos)) (fun vs s' => ∃ ps H', Inv X pins σ H' s' ∧ VV ps vs ∧ Q ps H') X.xe s
def mergeK (kvs more : List (Key × V)) : List (Key × V) := more.foldl (fun acc kv => putK acc kv.1 kv.2) kvs
/-- {k: v, ..} with keys ints and texts; the new dict stands empty while the pairs are made -/
def tDisp (trs : List (TE × TE)) : TE := fun σ H Q => ∀ p, H p = none → tPairs trs σ (upd H p (.dK [])) fun ps H2 => H2 p = some (.dK []) ∧ ∃ kvs : List (Key × V), ps = kvs.map (fun kv => (kV kv.1, kv.2)) ∧ kvs.length ≤ 15 ∧ Q (.ref p) (upd H2 p (.dK (mergeK [] kvs)))
/-- a method call o.m(e) of a built-in, with one argument: what must be seen of the text -/
structure M1 (X : Cx) (o : Expr) (m : Str) (apos : Pos) (e : Expr) (cpos : Pos) : Prop where
  base : attributeBase o m X.env (eval o X.env) = eval o X.env
  few : ((backTo cpos (starEach [e] X.env)).all (fun x => !x.1) && (backToKw cpos (keywordEach [] X.env)).all (fun x => x.1.isSome)
    && decide (([e] : List Expr).length + ([] : List Keyword).length + (if ([] : List Keyword).isEmpty then 0 else 1) < 30)) = true
  line : (apos.endLine == cpos.line) = true
  trees : backTo cpos (starEach [e] X.env) = [(false, eval e X.env)]
structure M2 (X : Cx) (o : Expr) (m : Str) (apos : Pos) (e f : Expr) (cpos : Pos) : Prop where
  base : attributeBase o m X.env (eval o X.env) = eval o X.env
  few : ((backTo cpos (starEach [e, f] X.env)).all (fun x => !x.1) && (backToKw cpos (keywordEach [] X.env)).all (fun x => x.1.isSome)
    && decide (([e, f] : List Expr).length + ([] : List Keyword).length + (if ([] : List Keyword).isEmpty then 0 else 1) < 30)) = true
  line : (apos.endLine == cpos.line) = true
  trees : backTo cpos (starEach [e, f] X.env) = [(false, eval e X.env), (false, eval f X.env)]

/-- a is a dict, whatever its keys -/
def IsD (H : Hp) (a : Addr) : Prop := (∃ kvs, Rd H a (.dK kvs)) ∨ ∃ kvs, Rd H a (.dT kvs)
section
variable {X : Cx} {pins : List (Addr × Obj)} {σ : St} {H : Hp} {s : Shared} {a : Addr} {y d : V} {u r : Value} {o : Option V} {A : Around} {E : Value → Shared → Prop}
end

def tDGet1 (td ty : TE) : TE := fun σ H Q => td σ H fun x H1 => ∃ a, x = .ref a ∧ IsD H1 a ∧ ty σ H1 fun y H2 => ∃ o, DGet H2 a y o ∧ Q (o.getD .non) H2
def tDGet2 (td ty tx : TE) : TE := fun σ H Q => td σ H fun x H1 => ∃ a, x = .ref a ∧ IsD H1 a ∧ ty σ H1 fun y H2 => tx σ H2 fun z H3 => ∃ o, DGet H3 a y o ∧ Q (o.getD z) H3
/-- d.pop(k): there; d.pop(k, x): there or not -/
def tDPop1 (td ty : TE) : TE := fun σ H Q => td σ H fun x H1 => ∃ a, x = .ref a ∧ IsD H1 a ∧ ty σ H1 fun y H2 => ∃ kvs k v, H2 a = some (.dK kvs) ∧ y = kV k ∧ valV kvs k = some v ∧ Q v (upd H2 a (.dK (dropK kvs k)))
def tDPop2 (td ty tx : TE) : TE := fun σ H Q => td σ H fun x H1 => ∃ a, x = .ref a ∧ IsD H1 a ∧ ty σ H1 fun y H2 => tx σ H2 fun z H3 => ∃ kvs k, H3 a = some (.dK kvs) ∧ y = kV k ∧
  (∀ v, valV kvs k = some v → Q v (upd H3 a (.dK (dropK kvs k)))) ∧ (valV kvs k = none → Q z H3)
section
variable {X : Cx} {o e f : Expr} {apos cpos : Pos} {td ty tx : TE}
end

section
variable {X : Cx} {pins : List (Addr × Obj)} {σ : St} {H : Hp} {s : Shared} {a : Addr} {kvs : List (Key × V)} {A : Around} {E : Value → Shared → Prop}
end


section
variable {X : Cx} {pins : List (Addr × Obj)} {σ : St} {H : Hp} {s : Shared} {a : Addr} {y : V} {u : Value} {A : Around} {E : Value → Shared → Prop}
end
end L2

namespace Att
open PySem PySem.W PySem.Calls PyProof.Rows

section
variable {prog : Program} {w : World} {A : Around} {E : Value → Shared → Prop} {s : Shared} {K : Frag}

end
end Att

namespace L2
open PySem PySem.Spec PyProof.Rows

end L2

namespace L2
open PySem PySem.Spec PyProof.Rows

end L2

namespace L2
open PySem PySem.Spec PyProof.Rows

section
variable {P : Program} {w : World} {K : PySem.W.Frag} {mg : Str → Option Value} {base : Heap}
end
section
variable {X : Cx}
end

section
variable {κ : Type} [DecidableEq κ]
end
end L2


set_option Elab.async false
set_option linter.all false
set_option maxRecDepth 100000
/-! The data layer: an exception on its way. -/
namespace DL
open PySem PySem.Spec PyProof.Rows L2

/-- what is kept to the object while an exception is on its way: tracked, pinned, what stood at the entry (but the frames) -/
structure Cov (X : Cx) (pins : List (Addr × Obj)) (H : Hp) (B : Heap) : Prop where
  trk : ∀ b o, H b = some o → ∃ o', B.get? b = some o'
  pin : ∀ p ∈ X.pn ++ pins, ∃ o', B.get? p.1 = some o'
  old : ∀ b o, X.s₀.heap.get? b = some o → b ∉ X.ex → b ∉ frs X.stack → ∃ o', B.get? b = some o'
/-- an exception of the class at C, at a, on its way in the running code: made here, or come out of a call, or noted in this frame already (out of a comprehension) -/
def Fly (X : Cx) (H : Hp) (a C : Addr) (s : Shared) : Prop := ∃ pins σ,
  (∃ h vs, L2.Inv X pins σ H { s with heap := h } ∧ Heap.MadeExcOf h s.heap a (.ref C) vs) ∨
  (L2.Inv X pins σ H s ∧ H a = none ∧ ∃ B a0, Heap.FlyingW B X.stack a (.ref C) a0 s.heap ∧ Cov X pins H B) ∨
  (L2.Inv X pins σ H s ∧ H a = none ∧ ∃ B a0 L, X.env.frame = some L ∧ Heap.HeldW B X.stack a (.ref C) a0 L s.heap ∧ Cov X pins H B)
/-- the class that the text calls c -/
def ClsAt (K : PySem.W.Frag) (c : Str) (C : Addr) : Prop := PySem.W.nsIn K mainGlobals c = some (some (.ref C))
theorem ClsAt.inj {K : PySem.W.Frag} {c : Str} {C C' : Addr} (a : ClsAt K c C) (b : ClsAt K c C') : C = C' := by
  unfold ClsAt at a b
  rw [a] at b
  cases b; rfl

theorem obj_there {P : Program} {w : World} {H : Hp} {h : Heap} {a : Addr} {o : HO} (x : ObjOk P w H h a o) : ∃ u, h.get? a = some u := by
  cases o with
  | lst xs => obtain ⟨_, _, _, _, e⟩ := x; exact ⟨_, e⟩
  | tup xs => obtain ⟨_, _, _, o, e, _⟩ := x; exact ⟨_, e⟩
  | dK kvs => obtain ⟨_, _, _, _, o, _, _, e, _⟩ := x; exact ⟨_, e⟩
  | dT kvs => obtain ⟨_, _, _, _, o, _, _, e, _⟩ := x; exact ⟨_, e⟩
  | set S n => obtain ⟨o, _, _, _, e, _⟩ := x; exact ⟨_, e⟩
  | ins C dx fs => obtain ⟨_, _, _, e, _⟩ := x; exact ⟨_, e⟩
  | own y => obtain ⟨_, e⟩ := x; exact ⟨_, e⟩
  | xd fs => obtain ⟨_, ⟨_, _, _, e, _⟩, _⟩ := x; exact ⟨_, e⟩
  | rng lo hi => obtain ⟨_, _, _, e⟩ := x; exact ⟨_, e⟩
  | frz ob u => obtain ⟨e, _⟩ := x; exact ⟨_, e⟩
  | tbl ps => exact ⟨_, show h.get? a = some _ from x⟩
  | met f y => exact ⟨_, show h.get? a = some _ from x⟩
  | ext φ => obtain ⟨_, ⟨_, e⟩, _⟩ := x; exact ⟨_, e⟩

section
variable {X : Cx} {pins : List (Addr × Obj)} {σ : List (Option V)} {H : Hp} {s : Shared} {B h' : Heap} {a C : Addr}
theorem inv_old (I : L2.Inv X pins σ H s) {b : Addr} {o : Obj} (e : X.s₀.heap.get? b = some o) (n : b ∉ X.fs) : b ∉ frs X.stack := fun z => by
  rcases List.mem_cons.mp (I.stkSub b z) with q | q
  · have h1 := Heap.lt_size e
    rw [q] at h1
    exact absurd (Nat.lt_of_lt_of_le h1 I.ok.above) (Nat.lt_irrefl _)
  · exact n q
theorem cell_up {h h' : Heap} {c : Addr} {v : Option Value} (u : h.UpToSlots h') (x : h.IsCell c v) : h'.IsCell c v := by
  obtain ⟨o, e, d⟩ := x
  obtain ⟨sl, e'⟩ := u c o e fun vs q => by rw [d] at q; cases q
  exact ⟨_, e', d⟩
/-- the frames' slots, the exception's own records have turned: all else stays -/
theorem inv_seen (I : L2.Inv X pins σ H s) (cov : Cov X pins H B) (hB : B.StaysIn s.heap) (hB' : B.StaysIn h') (up : s.heap.UpToSlots h') : L2.Inv X pins σ H { s with heap := h' } := by
  have keepB : ∀ b o o', B.get? b = some o' → s.heap.get? b = some o → h'.get? b = some o := fun b o o' e1 e2 => by
    have := hB b o' e1
    rw [e2] at this; cases this
    exact hB' b _ e1
  refine ⟨I.ok, I.os, I.bare, ⟨fun b o e n nf nx => ?_, fun b o e n hf nx => ?_, fun b o e n nx => I.base.free b o e n nx, fun b o e nx => ?_, I.base.tups, I.base.frzs, I.base.tbls⟩, ?_, fun x c e => ?_, I.free, I.freeC, fun p hp => ?_, fun b o e => ?_, I.len⟩
  · obtain ⟨o', e'⟩ := cov.old b o e nx (inv_old I e nf)
    exact keepB b o o' e' (I.base.keep b o e n nf nx)
  · obtain ⟨sl, e1⟩ := I.base.slot b o e n hf nx
    obtain ⟨_, ob, e2, nf⟩ := I.funs.mem hf
    rw [e1] at e2; cases e2
    obtain ⟨sl', e3⟩ := up b _ e1 nf
    exact ⟨sl', e3⟩
  · by_cases hf : b ∈ X.fs
    · obtain ⟨_, ob, e2, nf⟩ := I.funs.mem hf
      obtain ⟨sl', e3⟩ := up b _ e2 nf
      exact ⟨_, e3⟩
    · obtain ⟨o', e'⟩ := cov.old b o e nx (inv_old I e hf)
      exact ⟨o', hB' b o' e'⟩
  · obtain ⟨m, hn, hl⟩ := I.loc
    refine ⟨m, up.ns hn, fun i x v e1 e2 e3 => ?_⟩
    obtain ⟨u, r, lk⟩ := hl i x v e1 e2 e3
    refine ⟨u, r, ?_⟩
    rcases lk with lk | ⟨k, c, ec, ic⟩
    · exact .inl lk
    · exact .inr ⟨k, c, ec, cell_up up ic⟩
  · obtain ⟨v, ic⟩ := I.cell x c e
    exact ⟨v, cell_up up ic⟩
  · obtain ⟨e, n, ne, nf, d⟩ := I.pin p hp
    obtain ⟨o', e'⟩ := cov.pin p hp
    exact ⟨keepB p.1 p.2 o' e' e, n, ne, nf, d⟩
  · refine (I.hok b o e).stay (fun c u hc q => ?_) (fun _ q => q) fun _ _ q => q
    have : ∃ o, H c = some o := by
      rcases hc with z | z
      · exact ⟨o, by rw [z]; exact e⟩
      · exact ⟨_, z⟩
    obtain ⟨oc, ec⟩ := this
    obtain ⟨o', e'⟩ := cov.trk c oc ec
    exact keepB c u o' e' q
/-- what stands, without the frames -/
theorem cov_hide (I : L2.Inv X pins σ H s) : Cov X pins H (PySem.W.hideAll s.heap (frs X.stack)) := by
  refine ⟨fun b o e => ?_, fun p hp => ?_, fun b o e nx nf => ?_⟩
  · obtain ⟨u, q⟩ := obj_there (I.hok b o e)
    exact ⟨u, PySem.W.hideAll_get _ q fun z => by rw [I.stkFree b z] at e; cases e⟩
  · obtain ⟨e, n, ne, nf, d⟩ := I.pin p hp
    exact ⟨p.2, PySem.W.hideAll_get _ e fun z => by
      rcases List.mem_cons.mp (I.stkSub _ z) with q | q
      · exact ne q
      · exact nf q⟩
  · obtain ⟨o', e'⟩ := I.base.there b o e nx
    exact ⟨o', PySem.W.hideAll_get _ e' nf⟩
theorem frames_hide (I : L2.Inv X pins σ H s) : s.heap.FunFrames (PySem.W.hideAll s.heap (frs X.stack)) X.stack :=
  PySem.W.funFrames_hide I.stack fun env he b hb => List.mem_filterMap.mpr ⟨env, he, hb⟩
theorem made_free {vs : List Value} {h : Heap} (I : L2.Inv X pins σ H { s with heap := h }) (m : Heap.MadeExcOf h s.heap a (.ref C) vs) : H a = none := by
  cases q : H a with
  | none => rfl
  | some o =>
    obtain ⟨u, e⟩ := obj_there (I.hok a o q)
    have e : h.get? a = some u := e
    rw [m.new] at e; cases e
end

/-- how an exception lies behind a call -/
def CXd (P : Program) (w : World) : CXT := fun outer H s E e s' => ∃ a C H' B a0, e = .ref a ∧ s'.os = s.os ∧ AllBare s'.gens ∧ Un (frs outer) [] H H' s.heap s'.heap ∧ HOk P w H' s'.heap ∧ H' a = none ∧
  Heap.FlyingW B outer a (.ref C) a0 s'.heap ∧ (∀ b o, H' b = some o → ∃ o', B.get? b = some o') ∧ (∀ b o, s.heap.get? b = some o → b ∉ frs outer → ∃ o', B.get? b = some o') ∧ E (.ref C) (some a) H'
/-- it leaves a def -/
theorem fly_leaves {P : Program} {w : World} {K : PySem.W.Frag} {mg : Str → Option Value} {base : Heap} {N : List Str} {qual : Str} {scope : Scope} {f : Addr} {cdv : Value} {A : Around} {outer : List Env} {s s' : Shared} {H H' : Hp} {E : XK} {a C : Addr}
    (fl : Fly (cxOf (CXd P w) P w K mg base N qual scope f cdv A outer s H E) H' a C s') (hE : E (.ref C) (some a) H') : (cxOf (CXd P w) P w K mg base N qual scope f cdv A outer s H E).xe (.ref a) s' := by
  show wpAny (model P w) (A.deeper (envOfC qual scope s.heap.objs.size f cdv)) (leaving (envOfC qual scope s.heap.objs.size f cdv) (.ref a)) (fun _ s'' => CXd P w outer H s E (.ref a) s'') (fun e' s'' => CXd P w outer H s E e' s'') s'
  obtain ⟨pins, σ, fl⟩ := fl
  have key : ∀ (B : Heap) (a0 : Value) (h' : Heap) (I : L2.Inv (cxOf (CXd P w) P w K mg base N qual scope f cdv A outer s H E) pins σ H' s'), B.StaysIn s'.heap → Cov (cxOf (CXd P w) P w K mg base N qual scope f cdv A outer s H E) pins H' B → H' a = none →
      Heap.FlyingW B outer a (.ref C) a0 h' → s'.heap.UpToSlots h' → CXd P w outer H s E (.ref a) { s' with heap := h' } := fun B a0 h' I hB cov hn fl' up => by
    have I' := inv_seen I cov hB fl'.1 up
    refine ⟨a, C, H', B, a0, rfl, I'.os, I'.bare, I'.base, I'.hok, hn, fl', cov.trk, fun b o e nf => ?_, hE⟩
    exact cov.old b o e (by show b ∉ ([] : List Addr); simp) (inv_old I e nf)
  rcases fl with ⟨h, vs, I, m⟩ | ⟨I, hn, B, a0, fl, cov⟩ | ⟨I, hn, B, a0, L, hL, held, cov⟩
  · have cov := cov_hide I
    have hid : ∀ b o, (PySem.W.hideAll h (frs (cxOf (CXd P w) P w K mg base N qual scope f cdv A outer s H E).stack)).get? b = some o → h.get? b = some o := fun b o q => PySem.W.of_hideAll _ q
    refine wpAny_leaves_madeW (env := envOfC qual scope s.heap.objs.size f cdv) (outer := outer) I.ok.frames rfl hid (frames_hide I) m fun h' t x1 x2 x3 x4 => ?_
    exact key _ _ h' (I.kept (t' := s'.toks) (h' := s'.heap) m.keeps) (fun b o q => m.keeps b o (hid b o q)) cov (made_free I m) x1 x4
  · refine wpAny_leaves_onW (env := envOfC qual scope s.heap.objs.size f cdv) (outer := outer) I.ok.frames rfl fl fun h' x1 x2 => ?_
    exact key B a0 h' I fl.1 cov hn x1 x2
  · unfold leaving
    refine wpAny_bind (wpAny_noteFrame_againW hL held.2.2.2 ?_)
    refine wpAny_landsW held fun h' x1 x2 => ?_
    obtain ⟨k1, k2, ⟨_, _, k3⟩, k4⟩ := x1
    exact key B a0 h' I held.1 cov hn ⟨k1, k2, k3, k4⟩ x2
/-- it comes out of a call -/
theorem fly_comes {X : Cx} {pins : List (Addr × Obj)} {σ : L2.St} {H : Hp} {s : Shared} {e : Value} {s' : Shared} {E : XK} (I : L2.Inv X pins σ H s) (h : CXd X.prog X.w X.stack H s E e s') : ∃ a C H', e = .ref a ∧ Fly X H' a C s' ∧ E (.ref C) (some a) H' := by
  obtain ⟨a, C, H', B, a0, rfl, os, bare, un, hok, hn, fl, trk, old, hE⟩ := h
  refine ⟨a, C, H', rfl, ⟨pins, σ, .inr (.inl ⟨I.call' os un hok bare (fun b z => absurd z (by simp)), hn, B, a0, fl, trk, fun p hp => ?_, fun b o eb nx nf => ?_⟩)⟩, hE⟩
  · obtain ⟨eb, n, ne, nf, d⟩ := I.pin p hp
    exact old p.1 p.2 eb fun z => by
      rcases List.mem_cons.mp (I.stkSub _ z) with q | q
      · exact ne q
      · exact nf q
  · obtain ⟨o', e'⟩ := I.base.there b o eb nx
    exact old b o' e' nf
end DL

set_option Elab.async false
set_option linter.all false
set_option maxRecDepth 100000
/-! The data layer, first part: data without addresses, what a heap says of them, readings by functions. -/
namespace DL
open PySem PySem.Spec PyProof.Rows L2

/-- data: a value without its addresses; mr: a thing that may change, by its number -/
inductive D where
  | non | bl (b : Bool) | int (i : Int) | str (x : Str) | tup (xs : List D) | lst (xs : List D) | ro (xs : List D) | mr (i : Nat) | exc (c : Str) | any
instance : Inhabited D := ⟨.non⟩
/-- a thing that may change -/
inductive MO where
  | lst (xs : List D) | obj (c : Str) (fs : List (Str × D)) | dK (kvs : List (Key × D)) | dT (kvs : List (List Key × D))
instance : Inhabited MO := ⟨.lst []⟩
abbrev Mem := List MO
abbrev Rho := List (Option D)
/-- what comes of a run: a result, a refusal of that class, or nothing that is known -/
inductive Out (α : Type) where
  | ok (a : α) (M : Mem)
  | err (c : Str) (M : Mem)
  | bad
def Out.bind {α β : Type} (o : Out α) (f : α → Mem → Out β) : Out β :=
  match o with
  | .ok a M => f a M
  | .err c M => .err c M
  | .bad => .bad
@[simp] theorem bind_ok {α β : Type} (a : α) (M : Mem) (f : α → Mem → Out β) : (Out.ok a M).bind f = f a M := by rw [Out.bind]
@[simp] theorem bind_err {α β : Type} (c : Str) (M : Mem) (f : α → Mem → Out β) : (Out.err c M : Out α).bind f = .err c M := by rw [Out.bind]
@[simp] theorem bind_bad {α β : Type} (f : α → Mem → Out β) : (Out.bad : Out α).bind f = .bad := by rw [Out.bind]

/-! ### what the heap says -/
def KT (K : PySem.W.Frag) (a : Addr) (xs : List V) : Prop := ∃ (o : Obj) (its : Array Value) (n : Nat), K.lookup a = some o ∧ o.cls = .type "tuple" ∧ o.data = .seq its n ∧ its.size ≤ sizeLine ∧ Vals xs its.toList
def KL (K : PySem.W.Frag) (a : Addr) (xs : List V) : Prop := ∃ (o : Obj) (its : Array Value) (n : Nat), K.lookup a = some o ∧ o.cls = .type "list" ∧ o.dict = none ∧ o.data = .seq its n ∧ its.size ≤ sizeLine ∧ Vals xs its.toList
def TupAt (K : PySem.W.Frag) (θ : List Addr) (H : Hp) (a : Addr) (xs : List V) : Prop := (H a = some (.tup xs) ∧ a ∉ θ) ∨ KT K a xs
/-- a list that stays: of the run's own; or one that is read alone (the script, a list of the file's top) -/
def LstAt (θ : List Addr) (H : Hp) (a : Addr) (xs : List V) : Prop := H a = some (.lst xs) ∧ a ∉ θ
def RoAt (K : PySem.W.Frag) (θ : List Addr) (H : Hp) (a : Addr) (xs : List V) : Prop := (Rd H a (.lst xs) ∧ a ∉ θ) ∨ KL K a xs
theorem TupAt.sq {K : PySem.W.Frag} {θ : List Addr} {H : Hp} {a : Addr} {xs : List V} (h : TupAt K θ H a xs) : SqT K H a xs := by
  rcases h with ⟨h, _⟩ | h
  · exact .inl (.inl h)
  · exact .inr h
theorem LstAt.sq {K : PySem.W.Frag} {θ : List Addr} {H : Hp} {a : Addr} {xs : List V} (h : LstAt θ H a xs) : SqL K H a xs := .inl (.inl h.1)
theorem RoAt.sq {K : PySem.W.Frag} {θ : List Addr} {H : Hp} {a : Addr} {xs : List V} (h : RoAt K θ H a xs) : SqL K H a xs := by
  rcases h with ⟨h, _⟩ | h
  · exact .inl h
  · exact .inr h

/-- an exception that is held: its class is the one at C -/
def excO (a C : Addr) : HO := .ext fun h => ∃ o, h.get? a = some o ∧ o.cls = .ref C

mutual
def isD (K : PySem.W.Frag) (θ : List Addr) (H : Hp) : D → V → Prop
  | .non, v => v = .non
  | .bl b, v => v = .bl b
  | .int i, v => v = .int i
  | .str x, v => v = .str x
  | .tup ds, v => ∃ a vs, v = .ref a ∧ TupAt K θ H a vs ∧ isDs K θ H ds vs
  | .lst ds, v => ∃ a vs, v = .ref a ∧ LstAt θ H a vs ∧ isDs K θ H ds vs
  | .ro ds, v => ∃ a vs, v = .ref a ∧ RoAt K θ H a vs ∧ isDs K θ H ds vs
  | .mr i, v => ∃ a, v = .ref a ∧ θ[i]? = some a
  | .exc c, v => ∃ a C, v = .ref a ∧ ClsAt K c C ∧ H a = some (excO a C) ∧ a ∉ θ
  | .any, _ => True
def isDs (K : PySem.W.Frag) (θ : List Addr) (H : Hp) : List D → List V → Prop
  | [], vs => vs = []
  | d :: ds, vs => ∃ v r, vs = v :: r ∧ isD K θ H d v ∧ isDs K θ H ds r
end

/-- the fields of an instance -/
def isFs (K : PySem.W.Frag) (θ : List Addr) (H : Hp) : List (Str × D) → List (Str × V) → Prop
  | [], vs => vs = []
  | (f, d) :: fs, vs => ∃ v r, vs = (f, v) :: r ∧ isD K θ H d v ∧ isFs K θ H fs r
/-- the values of a dict, by their keys -/
def isKs {κ : Type} (K : PySem.W.Frag) (θ : List Addr) (H : Hp) : List (κ × D) → List (κ × V) → Prop
  | [], vs => vs = []
  | (k, d) :: fs, vs => ∃ v r, vs = (k, v) :: r ∧ isD K θ H d v ∧ isKs K θ H fs r
def MoOk (K : PySem.W.Frag) (θ : List Addr) (H : Hp) : MO → Addr → Prop
  | .lst ds, a => ∃ vs, H a = some (.lst vs) ∧ isDs K θ H ds vs
  | .obj c fs, a => ∃ C dx vs, ClsAt K c C ∧ H a = some (.ins C dx vs) ∧ isFs K θ H fs vs
  | .dK kvs, a => ∃ vs, H a = some (.dK vs) ∧ isKs K θ H kvs vs
  | .dT kvs, a => ∃ vs, H a = some (.dT vs) ∧ isKs K θ H kvs vs
/-- the defs of a file's top within which lambdas stand: their code's tables grow -/
def lamNames : List Str := ["ink_shown", "table_within", "slots_given", "cast_on_slots"]
def lamQual (x : Str) : Str := x ++ (".<locals>.<lambda>" : Str)
def codeO (c : Addr) (q : Str) : HO := .ext fun h => h.CodeRec (.ref c) q
def bmO (ob : Obj) : HO := .frz ob (.ext fun _ => True)
structure Tabs (K : PySem.W.Frag) (H : Hp) : Prop where
  tab : ∀ x, x ∈ lamNames → ∀ c P, PySem.W.tabIn K x = some (c, P) → ∃ ps, H P = some (.tbl ps) ∧ TriplesOk ps.toList ∧ ∀ pos cv, codeAmong pos ps.toList = some cv → ∃ c', cv = .ref c' ∧ H c' = some (codeO c' (lamQual x))
  bm : ∀ x, x ∈ lamNames → ∀ c P, PySem.W.tabIn K x = some (c, P) → ∃ bm ob, PySem.W.nsIn K mainGlobals "__builtins__" = some (some (.ref bm)) ∧ H bm = some (bmO ob) ∧ ob.cls = .type "module" ∧ ob.dict = some builtinsNs ∧ ob.data = .plain ∧ bm ≠ builtinsNs ∧ bm ≠ mainGlobals
theorem Tabs.of {K : PySem.W.Frag} {H H' : Hp} (t : Tabs K H) (k1 : ∀ b ps, H b = some (.tbl ps) → H' b = some (.tbl ps)) (k2 : ∀ b φ, H b = some (.ext φ) → H' b = some (.ext φ)) (k3 : ∀ b o u, H b = some (.frz o u) → H' b = some (.frz o u)) : Tabs K H' :=
  ⟨fun x hx c P e => by
    obtain ⟨ps, h1, h2, h3⟩ := t.tab x hx c P e
    refine ⟨ps, k1 _ _ h1, h2, fun pos cv q => ?_⟩
    obtain ⟨c', e1, e2⟩ := h3 pos cv q
    exact ⟨c', e1, k2 _ _ e2⟩, fun x hx c P e => by
    obtain ⟨bm, ob, e1, e2, r⟩ := t.bm x hx c P e
    exact ⟨bm, ob, e1, k3 _ _ _ e2, r⟩⟩
theorem Tabs.new {K : PySem.W.Frag} {H : Hp} {p : Addr} {o : HO} (t : Tabs K H) (hp : H p = none) : Tabs K (upd H p o) :=
  t.of (fun b ps e => by rw [upd_ne (ne_of_none e hp)]; exact e) (fun b φ e => by rw [upd_ne (ne_of_none e hp)]; exact e) fun b o u e => by rw [upd_ne (ne_of_none e hp)]; exact e
def plainO : HO → Bool
  | .tbl _ => false
  | .ext _ => false
  | .frz _ _ => false
  | _ => true
theorem Tabs.at_ {K : PySem.W.Frag} {H : Hp} {a : Addr} {o u : HO} (t : Tabs K H) (ha : H a = some u) (hu : plainO u = true) : Tabs K (upd H a o) :=
  t.of (fun b ps e => by rw [upd_ne (ne_of e ha (by intro z; subst z; cases hu))]; exact e) (fun b φ e => by rw [upd_ne (ne_of e ha (by intro z; subst z; cases hu))]; exact e) fun b o u e => by rw [upd_ne (ne_of e ha (by intro z; subst z; cases hu))]; exact e
/-- no such def -/
theorem Tabs.no {K : PySem.W.Frag} {H : Hp} (h : ∀ x, x ∈ lamNames → PySem.W.nsIn K mainGlobals x = some none) : Tabs K H := by
  have no : ∀ x, x ∈ lamNames → ∀ c P, PySem.W.tabIn K x ≠ some (c, P) := fun x hx c P e => by
    unfold PySem.W.tabIn at e
    rw [h x hx] at e
    cases e
  exact ⟨fun x hx c P e => absurd e (no x hx c P), fun x hx c P e => absurd e (no x hx c P)⟩
structure Wr (K : PySem.W.Frag) (θ : List Addr) (H : Hp) (M : Mem) : Prop where
  len : θ.length = M.length
  nd : θ.Nodup
  at_ : ∀ (i : Nat) a m, θ[i]? = some a → M[i]? = some m → MoOk K θ H m a
  tb : Tabs K H
structure Den (K : PySem.W.Frag) (θ : List Addr) (H : Hp) (σ : L2.St) (ρ : Rho) : Prop where
  len : ρ.length = σ.length
  at_ : ∀ (i : Nat) d, ρ[i]? = some (some d) → ∃ v, σ[i]? = some (some v) ∧ isD K θ H d v
/-- the heap has grown: nothing but the things that may change has changed -/
structure Grow (θ : List Addr) (H : Hp) (θ' : List Addr) (H' : Hp) : Prop where
  ext : ∃ more, θ' = θ ++ more ∧ ∀ a ∈ more, H a = none
  keep : ∀ b o, H b = some o → b ∉ θ → (∀ ps, o ≠ .tbl ps) → H' b = some o
  tkeep : ∀ b ps, H b = some (.tbl ps) → ∃ ps', H' b = some (.tbl ps')
structure Go (K : PySem.W.Frag) (θ : List Addr) (H : Hp) (θ' : List Addr) (H' : Hp) (M' : Mem) : Prop extends Grow θ H θ' H' where
  wr : Wr K θ' H' M'

section
variable {K : PySem.W.Frag} {θ θ' θ1 θ2 : List Addr} {H H' H1 H2 : Hp} {M M' M1 M2 : Mem} {a p : Addr} {σ : L2.St} {ρ : Rho}

theorem Wr.tracked (w : Wr K θ H M) (h : a ∈ θ) : H a ≠ none := by
  obtain ⟨i, hi, e⟩ := List.mem_iff_getElem.mp h
  have h1 : θ[i]? = some a := by rw [List.getElem?_eq_getElem hi, e]
  have h2 : i < M.length := by rw [← w.len]; exact hi
  have h3 := w.at_ i a _ h1 (List.getElem?_eq_getElem h2)
  cases q : M[i] with
  | lst ds =>
    rw [q] at h3
    obtain ⟨vs, e, _⟩ := h3
    rw [e]; simp
  | obj c fs =>
    rw [q] at h3
    obtain ⟨C, dx, vs, _, e, _⟩ := h3
    rw [e]; simp
  | dK kvs =>
    rw [q] at h3
    obtain ⟨vs, e, _⟩ := h3
    rw [e]; simp
  | dT kvs =>
    rw [q] at h3
    obtain ⟨vs, e, _⟩ := h3
    rw [e]; simp
theorem MoOk.plain {m : MO} (h : MoOk K θ H m a) : ∃ o, H a = some o ∧ plainO o = true := by
  cases m with
  | lst ds => obtain ⟨vs, e, _⟩ := h; exact ⟨_, e, rfl⟩
  | obj c fs => obtain ⟨C, dx, vs, _, e, _⟩ := h; exact ⟨_, e, rfl⟩
  | dK kvs => obtain ⟨vs, e, _⟩ := h; exact ⟨_, e, rfl⟩
  | dT kvs => obtain ⟨vs, e, _⟩ := h; exact ⟨_, e, rfl⟩
theorem Wr.plain (w : Wr K θ H M) {i : Nat} (h : θ[i]? = some a) : ∃ o, H a = some o ∧ plainO o = true := by
  have h2 : i < M.length := by rw [← w.len]; exact (List.getElem?_eq_some_iff.mp h).1
  exact (w.at_ i a _ h (List.getElem?_eq_getElem h2)).plain
theorem Wr.fresh (w : Wr K θ H M) (h : H p = none) : p ∉ θ := fun z => w.tracked z h

theorem Grow.refl (θ : List Addr) (H : Hp) : Grow θ H θ H := ⟨⟨[], by simp, fun _ z => by cases z⟩, fun _ _ h _ _ => h, fun b ps e => ⟨ps, e⟩⟩
theorem Go.refl (w : Wr K θ H M) : Go K θ H θ H M := ⟨.refl θ H, w⟩
theorem Go.trans (a : Go K θ H θ1 H1 M1) (b : Go K θ1 H1 θ2 H2 M2) : Go K θ H θ2 H2 M2 := by
  obtain ⟨m1, e1, f1⟩ := a.ext
  obtain ⟨m2, e2, f2⟩ := b.ext
  refine ⟨⟨⟨m1 ++ m2, by rw [e2, e1, List.append_assoc], fun x hx => ?_⟩, fun x o hx nx nt => ?_, fun x ps e => ?_⟩, b.wr⟩
  · rcases List.mem_append.mp hx with z | z
    · exact f1 x z
    · cases q : H x with
      | none => rfl
      | some o =>
        have nx : x ∉ θ := by
          intro y
          have nd := b.wr.nd
          rw [e2] at nd
          have y1 : x ∈ θ1 := by rw [e1]; exact List.mem_append_left _ y
          exact (List.nodup_append.mp nd).2.2 x y1 x z rfl
        exfalso
        by_cases nt : ∃ ps, o = .tbl ps
        · obtain ⟨ps, rfl⟩ := nt
          obtain ⟨ps', e'⟩ := a.tkeep x ps q
          rw [f2 x z] at e'; cases e'
        · have := a.keep x o q nx fun ps e' => nt ⟨ps, e'⟩
          rw [f2 x z] at this; cases this
  · have h1 := a.keep x o hx nx nt
    refine b.keep x o h1 ?_ nt
    rw [e1]
    intro z
    rcases List.mem_append.mp z with z | z
    · exact nx z
    · rw [f1 x z] at hx; cases hx
  · obtain ⟨ps', e'⟩ := a.tkeep x ps e
    exact b.tkeep x ps' e'
theorem Grow.notin (g : Grow θ H θ' H') {o : HO} (h : H a = some o) (n : a ∉ θ) : a ∉ θ' := by
  obtain ⟨m, e, f⟩ := g.ext
  rw [e]
  intro z
  rcases List.mem_append.mp z with z | z
  · exact n z
  · rw [f a z] at h; cases h
theorem TupAt.grow {xs : List V} (g : Grow θ H θ' H') (h : TupAt K θ H a xs) : TupAt K θ' H' a xs := by
  rcases h with ⟨h, n⟩ | h
  · exact .inl ⟨g.keep _ _ h n (by intro _ z; cases z), g.notin h n⟩
  · exact .inr h
theorem LstAt.grow {xs : List V} (g : Grow θ H θ' H') (h : LstAt θ H a xs) : LstAt θ' H' a xs := ⟨g.keep _ _ h.1 h.2 (by intro _ z; cases z), g.notin h.1 h.2⟩
theorem RoAt.grow {xs : List V} (g : Grow θ H θ' H') (h : RoAt K θ H a xs) : RoAt K θ' H' a xs := by
  rcases h with ⟨h | ⟨o, h⟩, n⟩ | h
  · exact .inl ⟨.inl (g.keep _ _ h n (by intro _ z; cases z)), g.notin h n⟩
  · exact .inl ⟨.inr ⟨o, g.keep _ _ h n (by intro _ z; cases z)⟩, g.notin h n⟩
  · exact .inr h
mutual
theorem isD_grow (g : Grow θ H θ' H') : ∀ (d : D) (v : V), isD K θ H d v → isD K θ' H' d v
  | .non, v, h => h
  | .bl b, v, h => h
  | .int i, v, h => h
  | .str x, v, h => h
  | .tup ds, v, h => by
    obtain ⟨a, vs, e, t, r⟩ := h
    exact ⟨a, vs, e, t.grow g, isDs_grow g ds vs r⟩
  | .lst ds, v, h => by
    obtain ⟨a, vs, e, t, r⟩ := h
    exact ⟨a, vs, e, t.grow g, isDs_grow g ds vs r⟩
  | .ro ds, v, h => by
    obtain ⟨a, vs, e, t, r⟩ := h
    exact ⟨a, vs, e, t.grow g, isDs_grow g ds vs r⟩
  | .mr i, v, h => by
    obtain ⟨a, e, t⟩ := h
    obtain ⟨m, em, _⟩ := g.ext
    refine ⟨a, e, ?_⟩
    rw [em, List.getElem?_append_left (List.getElem?_eq_some_iff.mp t).1]
    exact t
  | .exc c, v, h => by
    obtain ⟨a, C, e, k, t, n⟩ := h
    exact ⟨a, C, e, k, g.keep _ _ t n (by intro _ z; cases z), g.notin t n⟩
  | .any, v, h => h
theorem isDs_grow (g : Grow θ H θ' H') : ∀ (ds : List D) (vs : List V), isDs K θ H ds vs → isDs K θ' H' ds vs
  | [], vs, h => h
  | d :: ds, vs, h => by
    obtain ⟨v, r, e, h1, h2⟩ := h
    exact ⟨v, r, e, isD_grow g d v h1, isDs_grow g ds r h2⟩
end
theorem isD.go {d : D} {v : V} (h : isD K θ H d v) (g : Go K θ H θ' H' M') : isD K θ' H' d v := isD_grow g.toGrow d v h
theorem isDs.go {ds : List D} {vs : List V} (h : isDs K θ H ds vs) (g : Go K θ H θ' H' M') : isDs K θ' H' ds vs := isDs_grow g.toGrow ds vs h
theorem Den.go (h : Den K θ H σ ρ) (g : Go K θ H θ' H' M') : Den K θ' H' σ ρ := ⟨h.len, fun i d e => let ⟨v, e1, e2⟩ := h.at_ i d e; ⟨v, e1, e2.go g⟩⟩
theorem isDs_length : ∀ {ds : List D} {vs : List V}, isDs K θ H ds vs → ds.length = vs.length
  | [], vs, h => by cases (show vs = [] from h); rfl
  | d :: ds, vs, h => by
    obtain ⟨v, r, e, _, h2⟩ := h
    subst e
    rw [List.length_cons, List.length_cons, isDs_length h2]
theorem isDs_append : ∀ {ds es : List D} {vs us : List V}, isDs K θ H ds vs → isDs K θ H es us → isDs K θ H (ds ++ es) (vs ++ us)
  | [], es, vs, us, h, k => by cases (show vs = [] from h); exact k
  | d :: ds, es, vs, us, h, k => by
    obtain ⟨v, r, e, h1, h2⟩ := h
    subst e
    exact ⟨v, r ++ us, rfl, h1, isDs_append h2 k⟩
theorem isDs_get : ∀ {ds : List D} {vs : List V} {i : Nat} {d : D}, isDs K θ H ds vs → ds[i]? = some d → ∃ v, vs[i]? = some v ∧ isD K θ H d v
  | [], vs, i, d, h, e => by simp at e
  | x :: ds, vs, 0, d, h, e => by
    obtain ⟨v, r, e1, h1, h2⟩ := h
    subst e1
    simp at e; subst e
    exact ⟨v, rfl, h1⟩
  | x :: ds, vs, i + 1, d, h, e => by
    obtain ⟨v, r, e1, h1, h2⟩ := h
    subst e1
    obtain ⟨u, e2, h3⟩ := isDs_get (i := i) h2 (by simpa using e)
    exact ⟨u, by simpa using e2, h3⟩
theorem isDs_take : ∀ {ds : List D} {vs : List V} (n : Nat), isDs K θ H ds vs → isDs K θ H (ds.take n) (vs.take n)
  | ds, vs, 0, h => by rw [List.take_zero, List.take_zero]; exact rfl
  | [], vs, n + 1, h => by cases (show vs = [] from h); exact rfl
  | d :: ds, vs, n + 1, h => by
    obtain ⟨v, r, e, h1, h2⟩ := h
    subst e
    exact ⟨v, r.take n, rfl, h1, isDs_take n h2⟩
theorem isDs_drop : ∀ {ds : List D} {vs : List V} (n : Nat), isDs K θ H ds vs → isDs K θ H (ds.drop n) (vs.drop n)
  | ds, vs, 0, h => h
  | [], vs, n + 1, h => by cases (show vs = [] from h); exact rfl
  | d :: ds, vs, n + 1, h => by
    obtain ⟨v, r, e, h1, h2⟩ := h
    subst e
    exact isDs_drop n h2
theorem isDs_set {d : D} {v : V} (hd : isD K θ H d v) : ∀ {ds : List D} {vs : List V} (i : Nat), isDs K θ H ds vs → isDs K θ H (ds.set i d) (vs.set i v)
  | [], vs, i, h => by cases (show vs = [] from h); exact rfl
  | x :: ds, vs, 0, h => by
    obtain ⟨u, r, e, h1, h2⟩ := h
    subst e
    exact ⟨v, r, rfl, hd, h2⟩
  | x :: ds, vs, i + 1, h => by
    obtain ⟨u, r, e, h1, h2⟩ := h
    subst e
    exact ⟨u, r.set i v, rfl, h1, isDs_set hd i h2⟩

/-! ### new things, changed things -/
theorem grow_new {o : HO} (w : Wr K θ H M) (hp : H p = none) : Grow θ H θ (upd H p o) :=
  ⟨⟨[], by simp, fun _ z => by cases z⟩, fun b u h _ _ => by rw [upd_ne (ne_of_none h hp)]; exact h, fun b ps h => ⟨ps, by rw [upd_ne (ne_of_none h hp)]; exact h⟩⟩
theorem isFs_grow (g : Grow θ H θ' H') : ∀ {fs : List (Str × D)} {vs : List (Str × V)}, isFs K θ H fs vs → isFs K θ' H' fs vs
  | [], vs, h => h
  | (f, d) :: fs, vs, h => by
    obtain ⟨v, r, e, h1, h2⟩ := h
    exact ⟨v, r, e, isD_grow g d v h1, isFs_grow g h2⟩
theorem isKs_grow {κ : Type} (g : Grow θ H θ' H') : ∀ {fs : List (κ × D)} {vs : List (κ × V)}, isKs K θ H fs vs → isKs K θ' H' fs vs
  | [], vs, h => h
  | (f, d) :: fs, vs, h => by
    obtain ⟨v, r, e, h1, h2⟩ := h
    exact ⟨v, r, e, isD_grow g d v h1, isKs_grow g h2⟩
theorem MoOk.grow {m : MO} (g : Grow θ H θ' H') (hs : H' a = H a) (h : MoOk K θ H m a) : MoOk K θ' H' m a := by
  cases m with
  | lst ds =>
    obtain ⟨vs, e, r⟩ := h
    exact ⟨vs, by rw [hs]; exact e, isDs_grow g ds vs r⟩
  | obj c fs =>
    obtain ⟨C, dx, vs, k, e, r⟩ := h
    exact ⟨C, dx, vs, k, by rw [hs]; exact e, isFs_grow g r⟩
  | dK kvs =>
    obtain ⟨vs, e, r⟩ := h
    exact ⟨vs, by rw [hs]; exact e, isKs_grow g r⟩
  | dT kvs =>
    obtain ⟨vs, e, r⟩ := h
    exact ⟨vs, by rw [hs]; exact e, isKs_grow g r⟩
theorem go_new {o : HO} (w : Wr K θ H M) (hp : H p = none) : Go K θ H θ (upd H p o) M :=
  ⟨grow_new w hp, w.len, w.nd, fun i a m h1 h2 => by
    have ha : a ≠ p := fun e => w.fresh hp (by rw [← e]; exact List.mem_of_getElem? h1)
    exact (w.at_ i a m h1 h2).grow (grow_new w hp) (upd_ne ha), w.tb.new hp⟩
theorem new_tup {ds : List D} {vs : List V} (w : Wr K θ H M) (hp : H p = none) (r : isDs K θ H ds vs) : isD K θ (upd H p (.tup vs)) (.tup ds) (.ref p) :=
  ⟨p, vs, rfl, .inl ⟨upd_same, w.fresh hp⟩, isDs_grow (grow_new w hp) ds vs r⟩
theorem new_lst {ds : List D} {vs : List V} (w : Wr K θ H M) (hp : H p = none) (r : isDs K θ H ds vs) : isD K θ (upd H p (.lst vs)) (.lst ds) (.ref p) :=
  ⟨p, vs, rfl, ⟨upd_same, w.fresh hp⟩, isDs_grow (grow_new w hp) ds vs r⟩
theorem grow_newM {o : HO} (hp : H p = none) : Grow θ H (θ ++ [p]) (upd H p o) :=
  ⟨⟨[p], rfl, fun a ha => by rw [List.mem_singleton.mp ha]; exact hp⟩, fun b u h _ _ => by rw [upd_ne (ne_of_none h hp)]; exact h, fun b ps h => ⟨ps, by rw [upd_ne (ne_of_none h hp)]; exact h⟩⟩
/-- a thing that may change is made -/
theorem go_newM {m : MO} {o : HO} (w : Wr K θ H M) (hp : H p = none) (hm : MoOk K (θ ++ [p]) (upd H p o) m p) : Go K θ H (θ ++ [p]) (upd H p o) (M ++ [m]) := by
  have np := w.fresh hp
  have g : Grow θ H (θ ++ [p]) (upd H p o) := grow_newM hp
  refine ⟨g, by rw [List.length_append, List.length_append, w.len]; rfl, ?_, fun i a m' h1 h2 => ?_, w.tb.new hp⟩
  · rw [List.nodup_append]
    exact ⟨w.nd, by simp, fun x hx y hy e => np (by rw [List.mem_singleton.mp hy] at e; rw [← e]; exact hx)⟩
  · by_cases hi : i < θ.length
    · rw [List.getElem?_append_left hi] at h1
      rw [List.getElem?_append_left (by rw [← w.len]; exact hi)] at h2
      have ha : a ≠ p := fun e => np (by rw [← e]; exact List.mem_of_getElem? h1)
      exact (w.at_ i a m' h1 h2).grow g (upd_ne ha)
    · have hi' : i = θ.length := by
        have := (List.getElem?_eq_some_iff.mp h1).1
        rw [List.length_append, List.length_singleton] at this
        omega
      subst hi'
      rw [List.getElem?_append_right (Nat.le_refl _)] at h1
      rw [List.getElem?_append_right (by rw [w.len]; exact Nat.le_refl _)] at h2
      simp only [Nat.sub_self, w.len, List.getElem?_cons_zero, Option.some.injEq] at h1 h2
      subst h1; subst h2
      exact hm
/-- a list that may change is made -/
theorem go_mut {ds : List D} {vs : List V} (w : Wr K θ H M) (hp : H p = none) (r : isDs K θ H ds vs) : Go K θ H (θ ++ [p]) (upd H p (.lst vs)) (M ++ [.lst ds]) :=
  go_newM w hp ⟨vs, upd_same, isDs_grow (grow_newM hp) ds vs r⟩
theorem grow_at {i : Nat} {o : HO} (w : Wr K θ H M) (hi : θ[i]? = some a) : Grow θ H θ (upd H a o) := by
  have ha : a ∈ θ := List.mem_of_getElem? hi
  obtain ⟨u, hu, pu⟩ := w.plain hi
  exact ⟨⟨[], by simp, fun _ z => by cases z⟩, fun b u h n _ => by rw [upd_ne (fun e => n (by rw [e]; exact ha))]; exact h, fun b ps h => ⟨ps, by rw [upd_ne (ne_of h hu (by intro z; subst z; cases pu))]; exact h⟩⟩
/-- the i-th thing has changed -/
theorem go_setM {i : Nat} {m : MO} {o : HO} (w : Wr K θ H M) (hi : θ[i]? = some a) (hm : MoOk K θ (upd H a o) m a) : Go K θ H θ (upd H a o) (M.set i m) := by
  have g : Grow θ H θ (upd H a o) := grow_at w hi
  obtain ⟨u, hu, pu⟩ := w.plain hi
  refine ⟨g, by rw [List.length_set]; exact w.len, w.nd, fun j b m' h1 h2 => ?_, w.tb.at_ hu pu⟩
  by_cases hj : j = i
  · subst hj
    rw [hi] at h1; cases h1
    have hl : j < M.length := by rw [← w.len]; exact (List.getElem?_eq_some_iff.mp hi).1
    rw [List.getElem?_set_self hl] at h2
    cases h2
    exact hm
  · rw [List.getElem?_set_ne (Ne.symm hj)] at h2
    have hb : b ≠ a := fun e => by
      subst e
      obtain ⟨h3, e3⟩ := List.getElem?_eq_some_iff.mp h1
      obtain ⟨h4, e4⟩ := List.getElem?_eq_some_iff.mp hi
      exact hj ((List.getElem_inj w.nd).mp (e3.trans e4.symm))
    exact (w.at_ j b m' h1 h2).grow g (upd_ne hb)
theorem go_set {i : Nat} {ds ds' : List D} {vs' : List V} (w : Wr K θ H M) (hi : θ[i]? = some a) (r : isDs K θ H ds' vs') : Go K θ H θ (upd H a (.lst vs')) (M.set i (.lst ds')) :=
  go_setM w hi ⟨vs', upd_same, isDs_grow (grow_at w hi) ds' vs' r⟩
end

/-! ### readings by functions -/
abbrev GE := Rho → Mem → Out D
abbrev GT := Rho → Mem → Out Bool
abbrev GA := Rho → Mem → Out (List D)
inductive Fl where
  | nx (ρ : Rho) | rt (d : D) | bk (ρ : Rho) | ct (ρ : Rho)
abbrev GS := Rho → Mem → Out Fl

/-- a refusal leaves: what the context wants of it -/
def ErrOk (X : Cx) (θ : List Addr) (H : Hp) (c : Str) (M : Mem) : Prop := ∀ C θ' H' a s', ClsAt X.K c C → Go X.K θ H θ' H' M → Fly X H' a C s' → X.xe (.ref a) s'
def FinE (X : Cx) (θ : List Addr) (H : Hp) (Q : VK) : Out D → Prop
  | .ok d M' => ∀ v θ' H', Go X.K θ H θ' H' M' → isD X.K θ' H' d v → Q v H'
  | .err c M' => ErrOk X θ H c M'
  | .bad => False
def FinT (X : Cx) (θ : List Addr) (H : Hp) (Q : Bool → Hp → Prop) : Out Bool → Prop
  | .ok b M' => ∀ θ' H', Go X.K θ H θ' H' M' → Q b H'
  | .err c M' => ErrOk X θ H c M'
  | .bad => False
def FinA (X : Cx) (θ : List Addr) (H : Hp) (Q : List V → Hp → Prop) : Out (List D) → Prop
  | .ok ds M' => ∀ vs θ' H', Go X.K θ H θ' H' M' → isDs X.K θ' H' ds vs → Q vs H'
  | .err c M' => ErrOk X θ H c M'
  | .bad => False
def FinS (X : Cx) (θ : List Addr) (H : Hp) (D : Ends) : Out Fl → Prop
  | .ok (.nx ρ) M' => ∀ σ θ' H', Go X.K θ H θ' H' M' → Den X.K θ' H' σ ρ → D.nx σ H'
  | .ok (.bk ρ) M' => ∀ σ θ' H', Go X.K θ H θ' H' M' → Den X.K θ' H' σ ρ → D.bk σ H'
  | .ok (.ct ρ) M' => ∀ σ θ' H', Go X.K θ H θ' H' M' → Den X.K θ' H' σ ρ → D.ct σ H'
  | .ok (.rt d) M' => ∀ v θ' H', Go X.K θ H θ' H' M' → isD X.K θ' H' d v → D.rt v H'
  | .err c M' => ErrOk X θ H c M'
  | .bad => False
def tE (X : Cx) (g : GE) : TE := fun σ H Q => ∃ ρ θ M, Den X.K θ H σ ρ ∧ Wr X.K θ H M ∧ FinE X θ H Q (g ρ M)
def tT (X : Cx) (g : GT) : TT := fun σ H Q => ∃ ρ θ M, Den X.K θ H σ ρ ∧ Wr X.K θ H M ∧ FinT X θ H Q (g ρ M)
def tA (X : Cx) (g : GA) : TA := fun σ H Q => ∃ ρ θ M, Den X.K θ H σ ρ ∧ Wr X.K θ H M ∧ FinA X θ H Q (g ρ M)
def tS (X : Cx) (g : GS) : TS := fun D σ H => ∃ ρ θ M, Den X.K θ H σ ρ ∧ Wr X.K θ H M ∧ FinS X θ H D (g ρ M)

section
variable {X : Cx} {θ θ' : List Addr} {H H' : Hp} {M' : Mem}
theorem ErrOk.go {c : Str} {M : Mem} (g : Go X.K θ H θ' H' M') (h : ErrOk X θ H c M) : ErrOk X θ' H' c M := fun C θ2 H2 a s' k g2 fl => h C θ2 H2 a s' k (g.trans g2) fl
theorem FinE.go {Q : VK} {o : Out D} (g : Go X.K θ H θ' H' M') (h : FinE X θ H Q o) : FinE X θ' H' Q o := by
  cases o with
  | ok d M => exact fun v θ2 H2 g2 => h v θ2 H2 (g.trans g2)
  | err c M => exact ErrOk.go (c := c) (M := M) g h
  | bad => exact h
theorem FinT.go {Q : Bool → Hp → Prop} {o : Out Bool} (g : Go X.K θ H θ' H' M') (h : FinT X θ H Q o) : FinT X θ' H' Q o := by
  cases o with
  | ok d M => exact fun θ2 H2 g2 => h θ2 H2 (g.trans g2)
  | err c M => exact ErrOk.go (c := c) (M := M) g h
  | bad => exact h
theorem FinA.go {Q : List V → Hp → Prop} {o : Out (List D)} (g : Go X.K θ H θ' H' M') (h : FinA X θ H Q o) : FinA X θ' H' Q o := by
  cases o with
  | ok d M => exact fun v θ2 H2 g2 => h v θ2 H2 (g.trans g2)
  | err c M => exact ErrOk.go (c := c) (M := M) g h
  | bad => exact h
theorem FinS.go {D : Ends} {o : Out Fl} (g : Go X.K θ H θ' H' M') (h : FinS X θ H D o) : FinS X θ' H' D o := by
  cases o with
  | ok f M => cases f <;> exact fun v θ2 H2 g2 => h v θ2 H2 (g.trans g2)
  | err c M => exact ErrOk.go (c := c) (M := M) g h
  | bad => exact h
end

/-! ### composing -/
section
variable {X : Cx} {e : Expr}
theorem _root_.L2.PE.of {t t' : TE} (h : PE X e t) (w : ∀ σ H Q, t' σ H Q → t σ H Q) : PE X e t' := fun pins s σ H Q I q => h pins s σ H Q I (w σ H Q q)
theorem _root_.L2.PT.of {t t' : TT} (h : PT X e t) (w : ∀ σ H Q, t' σ H Q → t σ H Q) : PT X e t' := fun pins s σ H Q I q => h pins s σ H Q I (w σ H Q q)
theorem _root_.L2.PW.of {t t' : TT} (h : PW X e t) (w : ∀ σ H Q, t' σ H Q → t σ H Q) : PW X e t' := fun wh pins s σ H Q I q => h wh pins s σ H Q I (w σ H Q q)
theorem _root_.L2.PA.of {es : List Expr} {t t' : TA} (h : PA X es t) (w : ∀ σ H Q, t' σ H Q → t σ H Q) : PA X es t' := fun pos pins s σ H Q I q => h pos pins s σ H Q I (w σ H Q q)
theorem _root_.L2.PS.of {st : Stmt} {t t' : TS} (h : PS X st t) (w : ∀ D σ H, t' D σ H → t D σ H) : PS X st t' := fun pins s σ H D I q => h pins s σ H D I (w D σ H q)
theorem _root_.L2.PSs.of {st : List Stmt} {t t' : TS} (h : PSs X st t) (w : ∀ D σ H, t' D σ H → t D σ H) : PSs X st t' := fun pins s σ H D I q => h pins s σ H D I (w D σ H q)

/-- behind an expression: f goes on with its data -/
theorem thenE {g : GE} {σ : L2.St} {H : Hp} {Q : VK} {α : Type} {ρ : Rho} {θ : List Addr} {M : Mem} (hd : Den X.K θ H σ ρ) (hw : Wr X.K θ H M) (F : Out α → Prop) (Fe : ∀ c M', F (.err c M') → ErrOk X θ H c M') (Fb : F .bad → False)
    {f : D → Mem → Out α} (h : F ((g ρ M).bind f))
    (k : ∀ d M1 v θ1 H1, Go X.K θ H θ1 H1 M1 → isD X.K θ1 H1 d v → F (f d M1) → Q v H1) : tE X g σ H Q := by
  refine ⟨ρ, θ, M, hd, hw, ?_⟩
  cases q : g ρ M with
  | ok d M1 =>
    rw [q] at h
    exact fun v θ1 H1 g1 r1 => k d M1 v θ1 H1 g1 r1 h
  | err c M1 => rw [q] at h; exact Fe c M1 h
  | bad => rw [q] at h; exact (Fb h).elim

def gVar (i : Nat) : GE := fun ρ M => match ρ[i]? with
  | some (some d) => .ok d M
  | _ => .bad
def gC (d : D) : GE := fun _ M => .ok d M
theorem de_var {i : Nat} (h : PE X e (tVar i)) : PE X e (tE X (gVar i)) := h.of fun σ H Q ⟨ρ, θ, M, hd, hw, f⟩ => by
  unfold gVar at f
  split at f
  · rename_i d q
    obtain ⟨v, e1, r⟩ := hd.at_ i d q
    exact ⟨v, e1, f v θ H (.refl hw) r⟩
  · exact f.elim
theorem de_int {i j pos} : PE X (.Constant (.int i) j pos) (tE X (gC (.int i))) := pe_int.of fun σ H Q ⟨ρ, θ, M, hd, hw, f⟩ => f _ θ H (.refl hw) rfl
theorem de_bl {b j pos} : PE X (.Constant (.bool b) j pos) (tE X (gC (.bl b))) := pe_bl.of fun σ H Q ⟨ρ, θ, M, hd, hw, f⟩ => f _ θ H (.refl hw) rfl
theorem de_non {j pos} : PE X (.Constant .none j pos) (tE X (gC .non)) := pe_non.of fun σ H Q ⟨ρ, θ, M, hd, hw, f⟩ => f _ θ H (.refl hw) rfl
theorem de_str {x j pos} : PE X (.Constant (.str x) j pos) (tE X (gC (.str x))) := pe_str.of fun σ H Q ⟨ρ, θ, M, hd, hw, f⟩ => f _ θ H (.refl hw) rfl

/-- two-place operations -/
abbrev F2 := D → D → Mem → Out D
def g2 (f : F2) (ga gb : GE) : GE := fun ρ M => (ga ρ M).bind fun x M1 => (gb ρ M1).bind fun y M2 => f x y M2
def rD (X : Cx) (f : F2) : R2 := fun x y H Q => ∃ θ M dx dy, Wr X.K θ H M ∧ isD X.K θ H dx x ∧ isD X.K θ H dy y ∧ FinE X θ H Q (f dx dy M)
theorem t2_of {f : F2} {ga gb : GE} {σ : L2.St} {H : Hp} {Q : VK} (h : tE X (g2 f ga gb) σ H Q) : tOp (rD X f) (tE X ga) (tE X gb) σ H Q := by
  obtain ⟨ρ, θ, M, hd, hw, h⟩ := h
  refine thenE hd hw (FinE X θ H Q) (fun c M' h => h) (fun h => h) h fun dx M1 x θ1 H1 g1 r1 h1 => ?_
  refine thenE (hd.go g1) g1.wr (FinE X θ1 H1 Q) (fun c M' h => h) (fun h => h) (h1.go g1) fun dy M2 y θ2 H2 g2 r2 h2 => ?_
  exact ⟨θ2, M2, dx, dy, g2.wr, r1.go g2, r2, h2.go g2⟩
theorem de_op {a b : Expr} {op : Operator} {pos : Pos} {f : F2} {ga gb : GE} (ho : OpR X (binaryOp op) (rD X f)) (ha : PE X a (tE X ga)) (hb : PE X b (tE X gb)) : PE X (.BinOp a op b pos) (tE X (g2 f ga gb)) :=
  (pe_op ho ha hb).of fun _ _ _ h => t2_of h
theorem de_cmp {a b : Expr} {op : CmpOp} {pos : Pos} {f : F2} {ga gb : GE} (ho : OpR X (compareOp op) (rD X f)) (ha : PE X a (tE X ga)) (hb : PE X b (tE X gb)) (hm : behindInMarks op b = false) : PE X (.Compare a [op] [b] pos) (tE X (g2 f ga gb)) :=
  (pe_cmpR ho ha hb hm).of fun _ _ _ h => t2_of h
/-- a comparison as a test -/
def asB : D → Mem → Out Bool
  | .bl b, M => .ok b M
  | _, _ => .bad
def gTst (g : GE) : GT := fun ρ M => (g ρ M).bind asB
theorem FinE_asB {θ : List Addr} {H : Hp} {Q : Bool → Hp → Prop} {o : Out D} (h : FinT X θ H Q (o.bind asB)) : FinE X θ H (fun x H' => ∃ k, x = .bl k ∧ Q k H') o := by
  cases o with
  | ok d M =>
    cases d with
    | bl b => exact fun v θ1 H1 g1 r1 => ⟨b, r1, h θ1 H1 g1⟩
    | _ => exact h.elim
  | err c M => exact h
  | bad => exact h
theorem tst_of {g : GE} {σ : L2.St} {H : Hp} {Q : Bool → Hp → Prop} (h : tT X (gTst g) σ H Q) : tE X g σ H fun x H' => ∃ k, x = .bl k ∧ Q k H' := by
  obtain ⟨ρ, θ, M, hd, hw, h⟩ := h
  exact ⟨ρ, θ, M, hd, hw, FinE_asB h⟩
theorem dt_cmp {a b : Expr} {op : CmpOp} {pos : Pos} {f : F2} {ga gb : GE} (ho : OpR X (compareOp op) (rD X f)) (ha : PE X a (tE X ga)) (hb : PE X b (tE X gb)) (hm : behindInMarks op b = false) : PT X (.Compare a [op] [b] pos) (tT X (gTst (g2 f ga gb))) :=
  (pt_cmpR ho ha hb hm).of fun σ H Q h => t2_of (tst_of h)
/-- a op1 b op2 c -/
def gCh (f f' : F2) (ga gb gc : GE) : GE := fun ρ M => (ga ρ M).bind fun x M1 => (gb ρ M1).bind fun y M2 => (f x y M2).bind fun z M3 => match z with
  | .bl true => (gc ρ M3).bind fun w M4 => f' y w M4
  | .bl false => .ok (.bl false) M3
  | _ => .bad
theorem ch_of {f f' : F2} {ga gb gc : GE} {σ : L2.St} {H : Hp} {Q : VK} (h : tE X (gCh f f' ga gb gc) σ H Q) : tChain (rD X f) (rD X f') (tE X ga) (tE X gb) (tE X gc) σ H Q := by
  obtain ⟨ρ, θ, M, hd, hw, h⟩ := h
  refine thenE hd hw (FinE X θ H Q) (fun c M' h => h) (fun h => h) h fun dx M1 x θ1 H1 g1 r1 h1 => ?_
  refine thenE (hd.go g1) g1.wr (FinE X θ1 H1 Q) (fun c M' h => h) (fun h => h) (h1.go g1) fun dy M2 y θ2 H2 g2 r2 h2 => ?_
  refine ⟨θ2, M2, dx, dy, g2.wr, r1.go g2, r2, ?_⟩
  have h3 := h2.go g2
  cases q : f dx dy M2 with
  | ok z M3 =>
    rw [q] at h3
    intro v θ3 H3 g3 r3
    cases z with
    | bl k =>
      refine ⟨k, r3, ?_⟩
      cases k with
      | true =>
        rw [if_pos rfl]
        refine thenE ((hd.go g1).go (g2.trans g3)) g3.wr (FinE X θ3 H3 Q) (fun c M' h => h) (fun h => h) (h3.go g3) fun dw M4 w θ4 H4 g4 r4 h4 => ?_
        exact ⟨θ4, M4, dy, dw, g4.wr, r2.go (g3.trans g4), r4, h4.go g4⟩
      | false =>
        rw [if_neg Bool.false_ne_true]
        exact h3 _ θ3 H3 g3 rfl
    | _ => exact h3.elim
  | err c M3 => rw [q] at h3; exact h3
  | bad => rw [q] at h3; exact h3
theorem de_chain {a b c : Expr} {op op' : CmpOp} {pos : Pos} {f f' : F2} {ga gb gc : GE} (ho : OpR X (compareOp op) (rD X f)) (ho' : OpR X (compareOp op') (rD X f')) (ha : PE X a (tE X ga)) (hb : PE X b (tE X gb)) (hc : PE X c (tE X gc))
    (hm : lastMarks [op, op'] [b, c] = false := by with_unfolding_all rfl) : PE X (.Compare a [op, op'] [b, c] pos) (tE X (gCh f f' ga gb gc)) := (pe_chain ho ho' ha hb hc hm).of fun _ _ _ h => ch_of h
theorem dt_chain {a b c : Expr} {op op' : CmpOp} {pos : Pos} {f f' : F2} {ga gb gc : GE} (ho : OpR X (compareOp op) (rD X f)) (ho' : OpR X (compareOp op') (rD X f')) (ha : PE X a (tE X ga)) (hb : PE X b (tE X gb)) (hc : PE X c (tE X gc))
    (hm : lastMarks [op, op'] [b, c] = false := by with_unfolding_all rfl) : PT X (.Compare a [op, op'] [b, c] pos) (tT X (gTst (gCh f f' ga gb gc))) := (pt_chain ho ho' ha hb hc hm).of fun σ H Q h => ch_of (tst_of h)

/-! ### and, or, not, if -/
def gAndT (a b : GT) : GT := fun ρ M => (a ρ M).bind fun c M1 => if c then b ρ M1 else .ok false M1
def gOrT (a b : GT) : GT := fun ρ M => (a ρ M).bind fun c M1 => if c then .ok true M1 else b ρ M1
def gNotT (a : GT) : GT := fun ρ M => (a ρ M).bind fun c M1 => .ok (!c) M1
theorem thenT {g : GT} {σ : L2.St} {H : Hp} {Q : Bool → Hp → Prop} {α : Type} {ρ : Rho} {θ : List Addr} {M : Mem} (hd : Den X.K θ H σ ρ) (hw : Wr X.K θ H M) (F : Out α → Prop) (Fe : ∀ c M', F (.err c M') → ErrOk X θ H c M') (Fb : F .bad → False)
    {f : Bool → Mem → Out α} (h : F ((g ρ M).bind f)) (k : ∀ d M1 θ1 H1, Go X.K θ H θ1 H1 M1 → F (f d M1) → Q d H1) : tT X g σ H Q := by
  refine ⟨ρ, θ, M, hd, hw, ?_⟩
  cases q : g ρ M with
  | ok d M1 =>
    rw [q] at h
    exact fun θ1 H1 g1 => k d M1 θ1 H1 g1 h
  | err c M1 => rw [q] at h; exact Fe c M1 h
  | bad => rw [q] at h; exact (Fb h).elim
variable {a b : Expr} {pos : Pos} {rest : List Expr} {ta tb : GT} {ga gb : GE}
theorem dw_and1 (ha : PT X a (tT X ta)) : PW X (.BoolOp .And [a] pos) (tT X ta) := pw_and1 ha
theorem dw_or1 (ha : PT X a (tT X ta)) : PW X (.BoolOp .Or [a] pos) (tT X ta) := pw_or1 ha
theorem dw_and (ha : PT X a (tT X ta)) (hb : PW X (.BoolOp .And (b :: rest) pos) (tT X tb)) : PW X (.BoolOp .And (a :: b :: rest) pos) (tT X (gAndT ta tb)) := (pw_and ha hb).of fun σ H Q ⟨ρ, θ, M, hd, hw, h⟩ => by
  refine thenT hd hw (FinT X θ H Q) (fun c M' h => h) (fun h => h) h fun c M1 θ1 H1 g1 h1 => ?_
  cases c with
  | true => exact ⟨ρ, θ1, M1, hd.go g1, g1.wr, FinT.go g1 h1⟩
  | false => exact h1 θ1 H1 g1
theorem dw_or (ha : PT X a (tT X ta)) (hb : PW X (.BoolOp .Or (b :: rest) pos) (tT X tb)) : PW X (.BoolOp .Or (a :: b :: rest) pos) (tT X (gOrT ta tb)) := (pw_or ha hb).of fun σ H Q ⟨ρ, θ, M, hd, hw, h⟩ => by
  refine thenT hd hw (FinT X θ H Q) (fun c M' h => h) (fun h => h) h fun c M1 θ1 H1 g1 h1 => ?_
  cases c with
  | true => exact h1 θ1 H1 g1
  | false => exact ⟨ρ, θ1, M1, hd.go g1, g1.wr, FinT.go g1 h1⟩
theorem dt_not (ha : PT X a (tT X ta)) : PT X (.UnaryOp .Not a pos) (tT X (gNotT ta)) := (pt_not ha).of fun σ H Q ⟨ρ, θ, M, hd, hw, h⟩ => by
  exact thenT hd hw (FinT X θ H Q) (fun c M' h => h) (fun h => h) h fun c M1 θ1 H1 g1 h1 => h1 θ1 H1 g1
/-- as values: the left a bool -/
def gAnd (a b : GE) : GE := fun ρ M => (a ρ M).bind fun x M1 => match x with
  | .bl true => b ρ M1
  | .bl false => .ok (.bl false) M1
  | _ => .bad
def gOr (a b : GE) : GE := fun ρ M => (a ρ M).bind fun x M1 => match x with
  | .bl true => .ok (.bl true) M1
  | .bl false => b ρ M1
  | _ => .bad
def gNot (a : GT) : GE := fun ρ M => (a ρ M).bind fun c M1 => .ok (.bl (!c)) M1
theorem de_one {op} {g : GE} (h : PE X a (tE X g)) : PE X (.BoolOp op [a] pos) (tE X g) := pe_one h
theorem de_and (ha : PE X a (tE X ga)) (hb : PE X (.BoolOp .And (b :: rest) pos) (tE X gb)) : PE X (.BoolOp .And (a :: b :: rest) pos) (tE X (gAnd ga gb)) := (pe_and ha hb).of fun σ H Q ⟨ρ, θ, M, hd, hw, h⟩ => by
  refine thenE hd hw (FinE X θ H Q) (fun c M' h => h) (fun h => h) h fun d M1 v θ1 H1 g1 r1 h1 => ?_
  cases d with
  | bl c =>
    refine ⟨c, r1, ?_⟩
    cases c with
    | true => rw [if_pos rfl]; exact ⟨ρ, θ1, M1, hd.go g1, g1.wr, FinE.go g1 h1⟩
    | false => rw [if_neg Bool.false_ne_true]; exact h1 _ θ1 H1 g1 rfl
  | _ => exact h1.elim
theorem de_or (ha : PE X a (tE X ga)) (hb : PE X (.BoolOp .Or (b :: rest) pos) (tE X gb)) : PE X (.BoolOp .Or (a :: b :: rest) pos) (tE X (gOr ga gb)) := (pe_or ha hb).of fun σ H Q ⟨ρ, θ, M, hd, hw, h⟩ => by
  refine thenE hd hw (FinE X θ H Q) (fun c M' h => h) (fun h => h) h fun d M1 v θ1 H1 g1 r1 h1 => ?_
  cases d with
  | bl c =>
    refine ⟨c, r1, ?_⟩
    cases c with
    | true => rw [if_pos rfl]; exact h1 _ θ1 H1 g1 rfl
    | false => rw [if_neg Bool.false_ne_true]; exact ⟨ρ, θ1, M1, hd.go g1, g1.wr, FinE.go g1 h1⟩
  | _ => exact h1.elim
/-- a if t else b -/
def gIfE (t : GT) (a b : GE) : GE := fun ρ M => (t ρ M).bind fun c M1 => if c then a ρ M1 else b ρ M1
/-! ### argument lists, displays -/
def gNil : GA := fun _ M => .ok [] M
def gCons (g : GE) (r : GA) : GA := fun ρ M => (g ρ M).bind fun d M1 => (r ρ M1).bind fun ds M2 => .ok (d :: ds) M2
theorem thenA {g : GA} {σ : L2.St} {H : Hp} {Q : List V → Hp → Prop} {α : Type} {ρ : Rho} {θ : List Addr} {M : Mem} (hd : Den X.K θ H σ ρ) (hw : Wr X.K θ H M) (F : Out α → Prop) (Fe : ∀ c M', F (.err c M') → ErrOk X θ H c M') (Fb : F .bad → False)
    {f : List D → Mem → Out α} (h : F ((g ρ M).bind f)) (k : ∀ ds M1 vs θ1 H1, Go X.K θ H θ1 H1 M1 → isDs X.K θ1 H1 ds vs → F (f ds M1) → Q vs H1) : tA X g σ H Q := by
  refine ⟨ρ, θ, M, hd, hw, ?_⟩
  cases q : g ρ M with
  | ok d M1 =>
    rw [q] at h
    exact fun v θ1 H1 g1 r1 => k d M1 v θ1 H1 g1 r1 h
  | err c M1 => rw [q] at h; exact Fe c M1 h
  | bad => rw [q] at h; exact (Fb h).elim
theorem da_nil : PA X [] (tA X gNil) := pa_nil.of fun σ H Q ⟨ρ, θ, M, hd, hw, f⟩ => f [] θ H (.refl hw) rfl
theorem da_cons {es : List Expr} {gr : GA} (ha : PE X e (tE X ga)) (hr : PA X es (tA X gr)) (hs : starEach (e :: es) X.env = (false, eval e X.env) :: starEach es X.env := by rfl) : PA X (e :: es) (tA X (gCons ga gr)) :=
  (pa_cons ha hr hs).of fun σ H Q ⟨ρ, θ, M, hd, hw, h⟩ => by
    refine thenE hd hw (FinA X θ H Q) (fun c M' h => h) (fun h => h) h fun d M1 v θ1 H1 g1 r1 h1 => ?_
    refine thenA (hd.go g1) g1.wr (FinA X θ1 H1 Q) (fun c M' h => h) (fun h => h) (h1.go g1) fun ds M2 vs θ2 H2 g2 r2 h2 => ?_
    exact h2 (v :: vs) θ2 H2 g2 ⟨v, vs, rfl, r1.go g2, r2⟩
def mkTup (ds : List D) (M : Mem) : Out D := if ds.length ≤ sizeLine then .ok (.tup ds) M else .bad
def mkLst (ds : List D) (M : Mem) : Out D := if ds.length ≤ sizeLine then .ok (.lst ds) M else .bad
/-- a list that may change -/
def mkMut (ds : List D) (M : Mem) : Out D := if ds.length ≤ sizeLine then .ok (.mr M.length) (M ++ [.lst ds]) else .bad
def gTup (g : GA) : GE := fun ρ M => (g ρ M).bind mkTup
def gLst (g : GA) : GE := fun ρ M => (g ρ M).bind mkLst
def gMut (g : GA) : GE := fun ρ M => (g ρ M).bind mkMut
theorem FinE.tup {θ : List Addr} {H : Hp} {Q : VK} {ds : List D} {M : Mem} {vs : List V} (h : FinE X θ H Q (mkTup ds M)) (hw : Wr X.K θ H M) (r : isDs X.K θ H ds vs) : vs.length ≤ sizeLine ∧ ∀ p, H p = none → Q (.ref p) (upd H p (.tup vs)) := by
  unfold mkTup at h
  by_cases hl : ds.length ≤ sizeLine
  · rw [if_pos hl] at h
    exact ⟨by rw [← isDs_length r]; exact hl, fun p hp => h _ θ _ (go_new hw hp) (new_tup hw hp r)⟩
  · rw [if_neg hl] at h; exact h.elim
theorem FinE.lst {θ : List Addr} {H : Hp} {Q : VK} {ds : List D} {M : Mem} {vs : List V} (h : FinE X θ H Q (mkLst ds M)) (hw : Wr X.K θ H M) (r : isDs X.K θ H ds vs) : vs.length ≤ sizeLine ∧ ∀ p, H p = none → Q (.ref p) (upd H p (.lst vs)) := by
  unfold mkLst at h
  by_cases hl : ds.length ≤ sizeLine
  · rw [if_pos hl] at h
    exact ⟨by rw [← isDs_length r]; exact hl, fun p hp => h _ θ _ (go_new hw hp) (new_lst hw hp r)⟩
  · rw [if_neg hl] at h; exact h.elim
theorem FinE.mut {θ : List Addr} {H : Hp} {Q : VK} {ds : List D} {M : Mem} {vs : List V} (h : FinE X θ H Q (mkMut ds M)) (hw : Wr X.K θ H M) (r : isDs X.K θ H ds vs) : vs.length ≤ sizeLine ∧ ∀ p, H p = none → Q (.ref p) (upd H p (.lst vs)) := by
  unfold mkMut at h
  by_cases hl : ds.length ≤ sizeLine
  · rw [if_pos hl] at h
    refine ⟨by rw [← isDs_length r]; exact hl, fun p hp => h _ (θ ++ [p]) _ (go_mut hw hp r) ⟨p, rfl, ?_⟩⟩
    rw [← hw.len, List.getElem?_append_right (Nat.le_refl _)]
    simp
  · rw [if_neg hl] at h; exact h.elim
theorem de_tup {es : List Expr} {x1} {g : GA} (h : PA X es (tA X g)) : PE X (.Tuple es x1 pos) (tE X (gTup g)) := (pe_tup h).of fun σ H Q ⟨ρ, θ, M, hd, hw, h⟩ =>
  thenA hd hw (FinE X θ H Q) (fun c M' h => h) (fun h => h) h fun ds M1 vs θ1 H1 g1 r1 h1 => FinE.tup (FinE.go g1 h1) g1.wr r1
theorem de_lst {es : List Expr} {g : GA} (h : PA X es (tA X g)) : PE X (.List es pos) (tE X (gLst g)) := (pe_lst h).of fun σ H Q ⟨ρ, θ, M, hd, hw, h⟩ =>
  thenA hd hw (FinE X θ H Q) (fun c M' h => h) (fun h => h) h fun ds M1 vs θ1 H1 g1 r1 h1 => FinE.lst (FinE.go g1 h1) g1.wr r1
theorem de_mut {es : List Expr} {g : GA} (h : PA X es (tA X g)) : PE X (.List es pos) (tE X (gMut g)) := (pe_lst h).of fun σ H Q ⟨ρ, θ, M, hd, hw, h⟩ =>
  thenA hd hw (FinE X θ H Q) (fun c M' h => h) (fun h => h) h fun ds M1 vs θ1 H1 g1 r1 h1 => FinE.mut (FinE.go g1 h1) g1.wr r1
end
end DL

set_option Elab.async false
set_option linter.all false
set_option maxRecDepth 100000
/-! The data layer, second part: statements, loops, defs, calls. -/
namespace DL
open PySem PySem.Spec PyProof.Rows L2

section
variable {K : PySem.W.Frag} {θ : List Addr} {H : Hp} {σ : L2.St} {ρ : Rho}
theorem Den.set {d : D} {v : V} (h : Den K θ H σ ρ) (r : isD K θ H d v) (i : Nat) : Den K θ H (σ.set i (some v)) (ρ.set i (some d)) := by
  refine ⟨by rw [List.length_set, List.length_set]; exact h.len, fun j d' e => ?_⟩
  by_cases hj : j = i
  · subst hj
    have hl : j < ρ.length := by
      have := (List.getElem?_eq_some_iff.mp e).1
      rw [List.length_set] at this; exact this
    rw [List.getElem?_set_self hl] at e
    have e' : d = d' := by simpa using e
    subst e'
    exact ⟨v, List.getElem?_set_self (by rw [← h.len]; exact hl), r⟩
  · rw [List.getElem?_set_ne (Ne.symm hj)] at e
    obtain ⟨u, e1, r1⟩ := h.at_ j d' e
    exact ⟨u, by rw [List.getElem?_set_ne (Ne.symm hj)]; exact e1, r1⟩
end

/-! ### statements -/
def sNext : GS := fun ρ M => .ok (.nx ρ) M
def sBreak : GS := fun ρ M => .ok (.bk ρ) M
def sCont : GS := fun ρ M => .ok (.ct ρ) M
def sRetN : GS := fun _ M => .ok (.rt .non) M
def sSeq (a b : GS) : GS := fun ρ M => (a ρ M).bind fun f M1 => match f with
  | .nx ρ1 => b ρ1 M1
  | .rt d => .ok (.rt d) M1
  | .bk ρ1 => .ok (.bk ρ1) M1
  | .ct ρ1 => .ok (.ct ρ1) M1
def sSet (i : Nat) (g : GE) : GS := fun ρ M => (g ρ M).bind fun d M1 => .ok (.nx (ρ.set i (some d))) M1
def sRet (g : GE) : GS := fun ρ M => (g ρ M).bind fun d M1 => .ok (.rt d) M1
def sDrop (g : GE) : GS := fun ρ M => (g ρ M).bind fun _ M1 => .ok (.nx ρ) M1
def sIf (t : GT) (a b : GS) : GS := fun ρ M => (t ρ M).bind fun c M1 => if c then a ρ M1 else b ρ M1
section
variable {X : Cx} {st : Stmt} {rest : List Stmt} {e : Expr} {g : GE} {t u : GS} {pos : Pos}
theorem ds_nil : PSs X [] (tS X sNext) := pss_nil.of fun D σ H ⟨ρ, θ, M, hd, hw, f⟩ => f σ θ H (.refl hw) hd
theorem ds_cons (h1 : PS X st (tS X t)) (h2 : PSs X rest (tS X u)) : PSs X (st :: rest) (tS X (sSeq t u)) := (pss_cons h1 h2).of fun D σ H ⟨ρ, θ, M, hd, hw, h⟩ => by
  refine ⟨ρ, θ, M, hd, hw, ?_⟩
  unfold sSeq at h
  cases q : t ρ M with
  | ok f M1 =>
    rw [q] at h
    cases f with
    | nx ρ1 => exact fun σ1 θ1 H1 g1 d1 => ⟨ρ1, θ1, M1, d1, g1.wr, FinS.go g1 h⟩
    | rt d => exact h
    | bk ρ1 => exact h
    | ct ρ1 => exact h
  | err c M1 => rw [q] at h; exact h
  | bad => rw [q] at h; exact h
theorem ds_one (h1 : PS X st (tS X t)) : PSs X [st] (tS X t) := pss_one h1
theorem ds_set {i : Nat} {x : Str} {pos' : Pos} (hN : X.N.Nodup) (hi : X.N[i]? = some x) (hx : Loc X.env.scope x) (he : PE X e (tE X g)) (hs : swapsWith e (some (.Name x pos')) pos.line X.env = pure false := by rfl) (hf : X.fn x = true ∨ X.env.scope.names.lookup x = some .local := by first | exact .inl rfl | exact .inr rfl | assumption) :
    PS X (.Assign [.Name x pos'] e pos) (tS X (sSet i g)) := (ps_set hN hi hx he hs hf).of fun D σ H ⟨ρ, θ, M, hd, hw, h⟩ =>
  thenE hd hw (FinS X θ H D) (fun c M' h => h) (fun h => h) h fun d M1 v θ1 H1 g1 r1 h1 => h1 _ θ1 H1 g1 ((hd.go g1).set r1 i)
theorem ds_ret (he : PE X e (tE X g)) : PS X (.Return (some e) pos) (tS X (sRet g)) := (ps_ret he).of fun D σ H ⟨ρ, θ, M, hd, hw, h⟩ =>
  thenE hd hw (FinS X θ H D) (fun c M' h => h) (fun h => h) h fun d M1 v θ1 H1 g1 r1 h1 => h1 v θ1 H1 g1 r1
theorem ds_drop (he : PE X e (tE X g)) (hs : swapsWith e none pos.line X.env = pure false := by rfl) : PS X (.Expr e pos) (tS X (sDrop g)) := (ps_expr he hs).of fun D σ H ⟨ρ, θ, M, hd, hw, h⟩ =>
  thenE hd hw (FinS X θ H D) (fun c M' h => h) (fun h => h) h fun d M1 v θ1 H1 g1 r1 h1 => h1 σ θ1 H1 g1 (hd.go g1)
theorem ds_if {c : Expr} {a b : List Stmt} {tc : GT} (hc : PT X c (tT X tc)) (ha : PSs X a (tS X t)) (hb : PSs X b (tS X u)) : PS X (.If c a b pos) (tS X (sIf tc t u)) := (ps_if hc ha hb).of fun D σ H ⟨ρ, θ, M, hd, hw, h⟩ => by
  refine thenT hd hw (FinS X θ H D) (fun c M' h => h) (fun h => h) h fun c M1 θ1 H1 g1 h1 => ?_
  cases c with
  | true => rw [if_pos rfl]; exact ⟨ρ, θ1, M1, hd.go g1, g1.wr, FinS.go g1 h1⟩
  | false => rw [if_neg Bool.false_ne_true]; exact ⟨ρ, θ1, M1, hd.go g1, g1.wr, FinS.go g1 h1⟩

/-! ### targets -/
abbrev GG := D → Rho → Option Rho
def tG (X : Cx) (s : GG) : TG := fun v σ H Q => ∃ ρ θ M d, Den X.K θ H σ ρ ∧ Wr X.K θ H M ∧ isD X.K θ H d v ∧ ∃ ρ', s d ρ = some ρ' ∧ ∀ σ', Den X.K θ H σ' ρ' → Q σ' H
def oneN (i : Nat) : GG := fun d ρ => some (ρ.set i (some d))
def manyN : List Nat → List D → Rho → Option Rho
  | [], [], ρ => some ρ
  | i :: is, d :: ds, ρ => manyN is ds (ρ.set i (some d))
  | _, _, _ => none
def tupN (is : List Nat) : GG := fun d ρ => match d with
  | .tup ds => manyN is ds ρ
  | _ => none
theorem dg_name {i : Nat} {x : Str} (hN : X.N.Nodup) (hi : X.N[i]? = some x) (hx : Loc X.env.scope x) (hf : X.fn x = true ∨ X.env.scope.names.lookup x = some .local := by first | exact .inl rfl | exact .inr rfl | assumption) : PG X (.Name x pos) (tG X (oneN i)) := by
  intro pins s σ H v u Q I r h
  obtain ⟨ρ, θ, M, d, hd, hw, rd, ρ', e, h⟩ := h
  cases e
  exact pg_name hN hi hx hf pins s σ H v u Q I r (h _ (hd.set rd i))
def tGs (X : Cx) (is : List Nat) : TGs := fun vs σ H Q => ∃ ρ θ M ds, Den X.K θ H σ ρ ∧ Wr X.K θ H M ∧ isDs X.K θ H ds vs ∧ ∃ ρ', manyN is ds ρ = some ρ' ∧ ∀ σ', Den X.K θ H σ' ρ' → Q σ' H
theorem dgs_nil : PGs X [] (tGs X []) := by
  intro pins s σ H vs us Q I r h
  obtain ⟨ρ, θ, M, ds, hd, hw, rd, ρ', e, h⟩ := h
  cases ds with
  | cons d ds => cases e
  | nil =>
    have e2 : vs = [] := rd
    subst e2
    cases e
    exact pgs_nil pins s σ H [] us Q I r ⟨rfl, h σ hd⟩
theorem dgs_cons {i : Nat} {is : List Nat} {es : List Expr} (h1 : PG X e (tG X (oneN i))) (h2 : PGs X es (tGs X is))
    (hs : (assignEach (e :: es) X.env).map (·.2) = assign e X.env :: (assignEach es X.env).map (·.2) := by rfl) : PGs X (e :: es) (tGs X (i :: is)) := by
  intro pins s σ H vs us Q I r h
  obtain ⟨ρ, θ, M, ds, hd, hw, rd, ρ', e1, h⟩ := h
  cases ds with
  | nil => cases e1
  | cons d ds =>
    obtain ⟨v, vr, e2, rv, rr⟩ := rd
    subst e2
    refine pgs_cons h1 h2 hs pins s σ H _ us Q I r ⟨v, vr, rfl, ρ, θ, M, d, hd, hw, rv, _, rfl, fun σ1 d1 => ?_⟩
    exact ⟨_, θ, M, ds, d1, hw, rr, ρ', e1, h⟩
theorem dg_tup {is : List Nat} {es : List Expr} {k : Nat} {n : Nat} (hc : X.calm = true) (h : PGs X es (tGs X is)) (hl : is.length = n := by rfl)
    (hn : (assignEach es X.env).length = n := by rfl) (hst : (assignEach es X.env).findIdx? (·.1) = none := by rfl) : PG X (.Tuple es k pos) (tG X (tupN is)) := by
  intro pins s σ H v u Q I r hw
  obtain ⟨ρ, θ, M, d, hd, hwr, rd, ρ', e1, hw⟩ := hw
  cases d with
  | tup ds =>
    obtain ⟨a, vs, e2, ta, rs⟩ := rd
    have hlen : ds.length = is.length := by
      have e1 : manyN is ds ρ = some ρ' := e1
      clear hw hd hwr rs hn hst h hl
      induction is generalizing ds ρ with
      | nil =>
        cases ds with
        | nil => rfl
        | cons _ _ => cases e1
      | cons i is ih =>
        cases ds with
        | nil => cases e1
        | cons d ds => rw [List.length_cons, List.length_cons, ih _ ds e1 e1]
    refine pg_tup (n := n) hc h hn hst pins s σ H v u Q I r ⟨a, vs, e2, ta.sq, by rw [← isDs_length rs, hlen, hl], ?_⟩
    exact ⟨ρ, θ, M, ds, hd, hwr, rs, ρ', e1, hw⟩
  | _ => cases e1
/-! nested targets -/
def manyG : List GG → List D → Rho → Option Rho
  | [], [], ρ => some ρ
  | s :: ss, d :: ds, ρ => match s d ρ with
    | some ρ1 => manyG ss ds ρ1
    | none => none
  | _, _, _ => none
def tupG (ss : List GG) : GG := fun d ρ => match d with
  | .tup ds => manyG ss ds ρ
  | _ => none
def tGsG (X : Cx) (ss : List GG) : TGs := fun vs σ H Q => ∃ ρ θ M ds, Den X.K θ H σ ρ ∧ Wr X.K θ H M ∧ isDs X.K θ H ds vs ∧ ∃ ρ', manyG ss ds ρ = some ρ' ∧ ∀ σ', Den X.K θ H σ' ρ' → Q σ' H
/-- target = value -/
def sAsg (s : GG) (g : GE) : GS := fun ρ M => (g ρ M).bind fun d M1 => match s d ρ with
  | some ρ1 => .ok (.nx ρ1) M1
  | none => .bad
theorem ds_asg {tg : Expr} {s : GG} (he : PE X e (tE X g)) (hg : PG X tg (tG X s)) (hs : swapsWithSole [tg] e pos.line X.env = pure false := by rfl) (hw : swappedStores [tg] e X.env = pure none := by rfl)
    (h1 : (assignEach [tg] X.env).map (·.2) = [assign tg X.env] := by rfl) : PS X (.Assign [tg] e pos) (tS X (sAsg s g)) := (ps_asg he hg hs hw h1).of fun D σ H ⟨ρ, θ, M, hd, hwr, h⟩ => by
  refine thenE hd hwr (FinS X θ H D) (fun c M' h => h) (fun h => h) h fun d M1 v θ1 H1 g1 r1 h1 => ?_
  cases q : s d ρ with
  | some ρ1 =>
    rw [q] at h1
    exact ⟨ρ, θ1, M1, d, hd.go g1, g1.wr, r1, ρ1, q, fun σ' d' => h1 σ' θ1 H1 g1 d'⟩
  | none => rw [q] at h1; exact h1.elim

/-! ### xs[i] = v -/
def setD (o i x : D) (M : Mem) : Out Unit := match o, i with
  | .mr k, .int j => match M[k]? with
    | some (.lst xs) => match ixN xs.length j with
      | some n => .ok () (M.set k (.lst (xs.set n x)))
      | none => .bad
    | _ => .bad
  | _, _ => .bad
def sSub (go gi g : GE) : GS := fun ρ M => (g ρ M).bind fun x M1 => (go ρ M1).bind fun o M2 => (gi ρ M2).bind fun i M3 => (setD o i x M3).bind fun _ M4 => .ok (.nx ρ) M4
theorem ds_sub {o i : Expr} {ip : Pos} {go gi : GE} (he : PE X e (tE X g)) (ho : PE X o (tE X go)) (hi : PE X i (tE X gi))
    (ha : ∀ v, assign (.Subscript o i ip) X.env v = (do
      let ov ← holding [v] (eval o X.env)
      let iv ← holding [v, ov] (eval i X.env)
      standAt ip
      holding [v, ov, iv] (setItem ov iv v)
      release [v, ov, iv] []) := by intro _; rfl)
    (hs : swapsWithSole [.Subscript o i ip] e pos.line X.env = pure false := by rfl) (hw : swappedStores [.Subscript o i ip] e X.env = pure none := by rfl)
    (h1 : (assignEach [.Subscript o i ip] X.env).map (·.2) = [assign (.Subscript o i ip) X.env] := by rfl) : PS X (.Assign [.Subscript o i ip] e pos) (tS X (sSub go gi g)) :=
  (ps_asg he (pg_sub ho hi set_list ha) hs hw h1).of fun D σ H ⟨ρ, θ, M, hd, hwr, h⟩ => by
    refine thenE hd hwr (FinS X θ H D) (fun c M' h => h) (fun h => h) h fun dx M1 vx θ1 H1 g1 r1 h1 => ?_
    refine thenE (hd.go g1) g1.wr (FinS X θ1 H1 D) (fun c M' h => h) (fun h => h) (h1.go g1) fun dob M2 vo θ2 H2 g2 r2 h2 => ?_
    refine thenE ((hd.go g1).go g2) g2.wr (FinS X θ2 H2 D) (fun c M' h => h) (fun h => h) (h2.go g2) fun di M3 vi θ3 H3 g3 r3 h3 => ?_
    have h4 := h3.go g3
    unfold setD at h4
    split at h4
    · rename_i k j
      split at h4
      · rename_i xs q
        split at h4
        · rename_i n hn
          obtain ⟨a, ea, ta⟩ := r2.go g3
          obtain ⟨vs, ev, rv⟩ := g3.wr.at_ k a _ ta q
          have ei : vi = .int j := r3
          refine ⟨a, vs, j, n, ea, ei, ev, by rw [← isDs_length rv]; exact hn, ?_⟩
          have gs := go_set (ds := xs) g3.wr ta (isDs_set (r1.go (g2.trans g3)) n rv)
          exact h4 σ θ3 _ gs ((((hd.go g1).go g2).go g3).go gs)
        · exact h4.elim
      · exact h4.elim
    · exact h4.elim
end

/-! ### what is walked -/
mutual
def beqD : D → D → Bool
  | .non, .non => true
  | .bl a, .bl b => a == b
  | .int a, .int b => a == b
  | .str a, .str b => a == b
  | .tup a, .tup b => beqDs a b
  | .lst a, .lst b => beqDs a b
  | .ro a, .ro b => beqDs a b
  | .mr a, .mr b => a == b
  | .exc a, .exc b => a == b
  | .any, .any => true
  | _, _ => false
def beqDs : List D → List D → Bool
  | [], [] => true
  | a :: as, b :: bs => beqD a b && beqDs as bs
  | _, _ => false
end
mutual
theorem beqD_eq : ∀ (a b : D), beqD a b = true → a = b
  | .non, b, h => by cases b <;> simp_all [beqD]
  | .bl x, b, h => by cases b <;> simp_all [beqD]
  | .int x, b, h => by cases b <;> simp_all [beqD]
  | .str x, b, h => by cases b <;> simp_all [beqD]
  | .tup x, b, h => by
    cases b with
    | tup y => rw [beqDs_eq x y (by simpa [beqD] using h)]
    | _ => simp [beqD] at h
  | .lst x, b, h => by
    cases b with
    | lst y => rw [beqDs_eq x y (by simpa [beqD] using h)]
    | _ => simp [beqD] at h
  | .ro x, b, h => by
    cases b with
    | ro y => rw [beqDs_eq x y (by simpa [beqD] using h)]
    | _ => simp [beqD] at h
  | .mr x, b, h => by cases b <;> simp_all [beqD]
  | .exc x, b, h => by cases b <;> simp_all [beqD]
  | .any, b, h => by cases b <;> simp_all [beqD]
theorem beqDs_eq : ∀ (a b : List D), beqDs a b = true → a = b
  | [], b, h => by
    cases b with
    | nil => rfl
    | cons _ _ => simp [beqDs] at h
  | x :: xs, b, h => by
    cases b with
    | nil => simp [beqDs] at h
    | cons y ys =>
      simp only [beqDs, Bool.and_eq_true] at h
      rw [beqD_eq x y h.1, beqDs_eq xs ys h.2]
end
mutual
theorem beqD_refl : ∀ (a : D), beqD a a = true
  | .non => rfl
  | .bl x => by simp [beqD]
  | .int x => by simp [beqD]
  | .str x => by simp [beqD]
  | .tup x => by rw [beqD]; exact beqDs_refl x
  | .lst x => by rw [beqD]; exact beqDs_refl x
  | .ro x => by rw [beqD]; exact beqDs_refl x
  | .mr x => by simp [beqD]
  | .exc x => by simp [beqD]
  | .any => rfl
theorem beqDs_refl : ∀ (a : List D), beqDs a a = true
  | [] => rfl
  | x :: xs => by rw [beqDs, beqD_refl x, beqDs_refl xs]; rfl
end

structure Its where
  ds : List D
  m : Option Nat
def Its.ok (t : Its) (M : Mem) : Bool := match t.m with
  | none => true
  | some i => match M[i]? with
    | some (.lst xs) => beqDs xs t.ds
    | _ => false
abbrev GI := Rho → Mem → Out Its
def ItD (K : PySem.W.Frag) (J : It) (θ : List Addr) (H : Hp) (t : Its) : Prop := ∀ θ1 H1 M1, Go K θ H θ1 H1 M1 → t.ok M1 = true → ∀ i : Nat,
  (∀ d, t.ds[i]? = some d → J.go i H1 ∧ ∀ x H2, J.yld i H1 x H2 → Go K θ1 H1 θ1 H2 M1 ∧ isD K θ1 H2 d x) ∧ (t.ds.length ≤ i → J.stop i H1)
def FinI (X : Cx) (θ : List Addr) (H : Hp) (R : It → Hp → Prop) : Out Its → Prop
  | .ok t M' => ∀ J θ' H', Go X.K θ H θ' H' M' → ItD X.K J θ' H' t → R J H'
  | .err c M' => ErrOk X θ H c M'
  | .bad => False
def tI (X : Cx) (g : GI) : TI := fun σ H R => ∃ ρ θ M, Den X.K θ H σ ρ ∧ Wr X.K θ H M ∧ FinI X θ H R (g ρ M)
def itsOf (d : D) (M : Mem) : Out Its := match d with
  | .lst ds => .ok ⟨ds, none⟩ M
  | .ro ds => .ok ⟨ds, none⟩ M
  | .tup ds => .ok ⟨ds, none⟩ M
  | .mr k => match M[k]? with
    | some (.lst ds) => .ok ⟨ds, some k⟩ M
    | _ => .bad
  | _ => .bad
def gIts (g : GE) : GI := fun ρ M => (g ρ M).bind itsOf
section
variable {X : Cx} {tg : Expr}
theorem pi_sq {l : Expr} {tl : TE} (hl : PE X l tl) : PI X tg l (fun σ H R => tl σ H fun x H1 => ∃ a, x = .ref a ∧ (((∃ xs, SqL X.K H1 a xs) ∧ R (Itl X.K a) H1) ∨ ((∃ xs, SqT X.K H1 a xs) ∧ R (Itt X.K a) H1))) := by
  intro pins s σ H R I h
  refine thn (hl pins s σ H _ I h) fun v s1 ⟨x, H1, I1, r1, q1⟩ => ?_
  obtain ⟨a, e, q1⟩ := q1
  subst e
  cases r1
  rcases q1 with ⟨⟨xs, hq⟩, q⟩ | ⟨⟨xs, hq⟩, q⟩
  · obtain ⟨its, rv, p, hz⟩ := I1.list hq
    refine wpAny_pyIter_list p.isList ?_
    refine ⟨s1.heap.objs.size, [s1.heap.objs.size], _, _, H1, rfl, I1.kept (t' := s1.toks) fun b o e => Heap.get?_push_of_some _ e, turn_list a _, ⟨_, Heap.get?_push_size _ rfl, rfl, rfl⟩, fun b hb => ?_, q⟩
    have e : b = s1.heap.objs.size := by simpa using hb
    subst e
    exact I1.fpOk (Nat.le_refl _) (I1.hok.fresh (Nat.le_refl _))
  · obtain ⟨its, rv, p, hz⟩ := I1.tuple hq
    refine wpAny_pyIter_tuple (show s1.heap.IsTuple a its.toArray from p) ?_
    refine ⟨s1.heap.objs.size, [s1.heap.objs.size], _, _, H1, rfl, I1.kept (t' := s1.toks) fun b o e => Heap.get?_push_of_some _ e, turn_tuple a _, ⟨_, Heap.get?_push_size _ rfl, rfl, rfl⟩, fun b hb => ?_, q⟩
    have e : b = s1.heap.objs.size := by simpa using hb
    subst e
    exact I1.fpOk (Nat.le_refl _) (I1.hok.fresh (Nat.le_refl _))
theorem itd_lst {K : PySem.W.Frag} {θ : List Addr} {H : Hp} {a : Addr} {ds : List D} {vs : List V} (ta : RoAt K θ H a vs) (r : isDs K θ H ds vs) : ItD K (Itl K a) θ H ⟨ds, none⟩ := by
  intro θ1 H1 M1 g _ i
  have t1 := (ta.grow g.toGrow).sq
  have r1 := r.go g
  refine ⟨fun d e => ?_, fun hl => ⟨vs, t1, by rw [← isDs_length r1]; exact hl⟩⟩
  obtain ⟨v, e1, rv⟩ := isDs_get r1 e
  refine ⟨⟨vs, v, t1, e1⟩, fun x H2 y => ?_⟩
  obtain ⟨eH, y⟩ := y
  subst eH
  have e2 := y vs t1
  rw [e1] at e2; cases e2
  exact ⟨.refl g.wr, rv⟩
theorem itd_tup {K : PySem.W.Frag} {θ : List Addr} {H : Hp} {a : Addr} {ds : List D} {vs : List V} (ta : TupAt K θ H a vs) (r : isDs K θ H ds vs) : ItD K (Itt K a) θ H ⟨ds, none⟩ := by
  intro θ1 H1 M1 g _ i
  have t1 := (ta.grow g.toGrow).sq
  have r1 := r.go g
  refine ⟨fun d e => ?_, fun hl => ⟨vs, t1, by rw [← isDs_length r1]; exact hl⟩⟩
  obtain ⟨v, e1, rv⟩ := isDs_get r1 e
  refine ⟨⟨vs, v, t1, e1⟩, fun x H2 y => ?_⟩
  obtain ⟨eH, y⟩ := y
  subst eH
  have e2 := y vs t1
  rw [e1] at e2; cases e2
  exact ⟨.refl g.wr, rv⟩
theorem itd_mut {K : PySem.W.Frag} {θ : List Addr} {H : Hp} {a : Addr} {ds : List D} {k : Nat} (ta : θ[k]? = some a) : ItD K (Itl K a) θ H ⟨ds, some k⟩ := by
  intro θ1 H1 M1 g hok i
  have t1 : θ1[k]? = some a := by
    obtain ⟨m, em, _⟩ := g.ext
    rw [em, List.getElem?_append_left (List.getElem?_eq_some_iff.mp ta).1]
    exact ta
  have hok' : (match M1[k]? with | some (.lst xs) => beqDs xs ds | _ => false) = true := hok
  cases q : M1[k]? with
  | none => rw [q] at hok'; cases hok'
  | some m =>
    cases m with
    | lst xs =>
      rw [q] at hok'
      have e : xs = ds := beqDs_eq xs ds hok'
      subst e
      obtain ⟨vs, hv, r1⟩ := g.wr.at_ k a _ t1 q
      have s1 : SqL K H1 a vs := .inl (.inl hv)
      refine ⟨fun d e => ?_, fun hl => ⟨vs, s1, by rw [← isDs_length r1]; exact hl⟩⟩
      obtain ⟨v, e1, rv⟩ := isDs_get r1 e
      refine ⟨⟨vs, v, s1, e1⟩, fun x H2 y => ?_⟩
      obtain ⟨eH, y⟩ := y
      subst eH
      have e2 := y vs s1
      rw [e1] at e2; cases e2
      exact ⟨.refl g.wr, rv⟩
    | _ => rw [q] at hok'; cases hok'
theorem di_seq {l : Expr} {g : GE} (hl : PE X l (tE X g)) : PI X tg l (tI X (gIts g)) := by
  intro pins s σ H R I h
  refine pi_sq hl pins s σ H R I ?_
  obtain ⟨ρ, θ, M, hd, hw, h⟩ := h
  refine thenE hd hw (FinI X θ H R) (fun c M' h => h) (fun h => h) h fun d M1 v θ1 H1 g1 r1 h1 => ?_
  cases d with
  | lst ds =>
    obtain ⟨a, vs, e, ta, r⟩ := r1
    exact ⟨a, e, .inl ⟨⟨vs, ta.sq⟩, h1 _ θ1 H1 g1 (itd_lst (.inl ⟨.inl ta.1, ta.2⟩) r)⟩⟩
  | ro ds =>
    obtain ⟨a, vs, e, ta, r⟩ := r1
    exact ⟨a, e, .inl ⟨⟨vs, ta.sq⟩, h1 _ θ1 H1 g1 (itd_lst ta r)⟩⟩
  | tup ds =>
    obtain ⟨a, vs, e, ta, r⟩ := r1
    exact ⟨a, e, .inr ⟨⟨vs, ta.sq⟩, h1 _ θ1 H1 g1 (itd_tup ta r)⟩⟩
  | mr k =>
    obtain ⟨a, e, ta⟩ := r1
    have h2 : FinI X θ H R (match M1[k]? with | some (.lst ds) => .ok ⟨ds, some k⟩ M1 | _ => .bad) := h1
    cases q : M1[k]? with
    | none => rw [q] at h2; exact h2.elim
    | some m =>
      cases m with
      | lst ds =>
        rw [q] at h2
        obtain ⟨vs, hv, r⟩ := g1.wr.at_ k a _ ta q
        exact ⟨a, e, .inl ⟨⟨vs, .inl (.inl hv)⟩, h2 _ θ1 H1 g1 (itd_mut ta)⟩⟩
      | _ => rw [q] at h2; exact h2.elim
  | _ => exact h1.elim
/-- range -/
def rangeD (lo : Int) (n : Nat) : List D := (List.range n).map fun (k : Nat) => D.int (lo + (k : Int))
theorem itd_rng {K : PySem.W.Frag} {θ : List Addr} {H : Hp} (lo : Int) (n : Nat) : ItD K (Itr lo n) θ H ⟨rangeD lo n, none⟩ := by
  intro θ1 H1 M1 g _ i
  refine ⟨fun d e => ?_, fun hl => ?_⟩
  · have hi : i < n := by
      have := (List.getElem?_eq_some_iff.mp e).1
      simpa [rangeD] using this
    refine ⟨hi, fun x H2 y => ?_⟩
    obtain ⟨eH, y⟩ := y
    subst eH
    refine ⟨.refl g.wr, ?_⟩
    have e' : D.int (lo + (i : Int)) = d := by
      have : (rangeD lo n)[i]? = some (D.int (lo + (i : Int))) := by simp [rangeD, hi]
      rw [this] at e; exact Option.some.inj e
    subst e'
    exact y
  · have h2 : (rangeD lo n).length ≤ i := hl
    have h3 : n ≤ i := by simpa [rangeD] using h2
    exact h3
def rng1 (ds : List D) (M : Mem) : Out Its := match ds with
  | [.int j] => if -(2 ^ 62) ≤ j ∧ j < 2 ^ 62 then .ok ⟨rangeD 0 j.toNat, none⟩ M else .bad
  | _ => .bad
def rng2 (ds : List D) (M : Mem) : Out Its := match ds with
  | [.int i, .int j] => if -(2 ^ 62) ≤ i ∧ i < 2 ^ 62 ∧ -(2 ^ 62) ≤ j ∧ j < 2 ^ 62 then .ok ⟨rangeD i (j - i).toNat, none⟩ M else .bad
  | _ => .bad
def gRng1 (g : GA) : GI := fun ρ M => (g ρ M).bind rng1
def gRng2 (g : GA) : GI := fun ρ M => (g ρ M).bind rng2
theorem di_range1 {a : Expr} {g : GA} {p pos : Pos} (hg : Gl X "range") (hm : X.mg "range" = none) (ha : PA X [a] (tA X g)) (hs : starEach [a] X.env = [(false, eval a X.env)] := by rfl) : PI X tg (.Call (.Name "range" p) [a] [] pos) (tI X (gRng1 g)) := by
  intro pins s σ H R I h
  refine pi_range1 hg hm ha hs pins s σ H R I ?_
  obtain ⟨ρ, θ, M, hd, hw, h⟩ := h
  refine thenA hd hw (FinI X θ H R) (fun c M' h => h) (fun h => h) h fun ds M1 vs θ1 H1 g1 r1 h1 => ?_
  unfold rng1 at h1
  split at h1
  · rename_i j
    obtain ⟨v, r, e, rv, rr⟩ := r1
    have e2 : r = [] := rr
    have e3 : v = .int j := rv
    subst e2; subst e3
    split at h1
    · rename_i hj
      exact ⟨j, e, hj.1, hj.2, h1 _ θ1 H1 g1 (itd_rng 0 j.toNat)⟩
    · exact h1.elim
  · exact h1.elim
/-! ### for -/
def forGo (t : Its) (s : GG) (body : GS) : List D → Rho → Mem → Out Fl
  | [], ρ, M => if t.ok M then .ok (.nx ρ) M else .bad
  | d :: r, ρ, M => if t.ok M then
      match s d ρ with
      | none => .bad
      | some ρ1 => (body ρ1 M).bind fun f M1 => match f with
        | .nx ρ2 => forGo t s body r ρ2 M1
        | .ct ρ2 => forGo t s body r ρ2 M1
        | .bk ρ2 => .ok (.nx ρ2) M1
        | .rt d => .ok (.rt d) M1
    else .bad
def sFor (gi : GI) (s : GG) (body : GS) : GS := fun ρ M => (gi ρ M).bind fun t M1 => forGo t s body t.ds ρ M1
theorem ds_for {iter : Expr} {body : List Stmt} {gi : GI} {sg : GG} {gb : GS} {pos : Pos} (hp : PassesOwn (model X.prog X.w) X.A X.env X.xe) (hc : X.calm = true) (hi : PI X tg iter (tI X gi)) (hg : PG X tg (tG X sg)) (hb : PSs X body (tS X gb))
    (hs : ∀ x, foldedSetIterable iter X.env x = pure x := by intro _; rfl) : PS X (.For tg iter body [] pos) (tS X (sFor gi sg gb)) := (ps_for hp hc hi hg hb hs).of fun D σ H ⟨ρ, θ, M, hd, hw, h⟩ => by
  refine ⟨ρ, θ, M, hd, hw, ?_⟩
  unfold sFor at h
  cases q : gi ρ M with
  | err c M1 => rw [q] at h; exact h
  | bad => rw [q] at h; exact h
  | ok t M1 =>
    rw [q] at h
    intro J θ1 H1 g1 hJ
    have h : FinS X θ H D (forGo t sg gb t.ds ρ M1) := h
    refine ⟨fun i m σ' H' => m = t.ds.length - i ∧ i ≤ t.ds.length ∧ ∃ ρ' θ' M', Go X.K θ1 H1 θ' H' M' ∧ Den X.K θ' H' σ' ρ' ∧ FinS X θ' H' D (forGo t sg gb (t.ds.drop i) ρ' M'),
      ⟨t.ds.length, by simp, Nat.zero_le _, ρ, θ1, M1, .refl g1.wr, hd.go g1, FinS.go g1 h⟩, ?_⟩
    rintro i m σ' H' ⟨rfl, hil, ρ', θ', M', g', hd', h'⟩
    by_cases hok : t.ok M' = true
    · obtain ⟨hy, hst⟩ := hJ θ' H' M' g' hok i
      by_cases hlt : i < t.ds.length
      · refine .inr ?_
        have e1 : t.ds[i]? = some t.ds[i] := List.getElem?_eq_getElem hlt
        obtain ⟨hgo, hyl⟩ := hy _ e1
        rw [List.drop_eq_getElem_cons hlt, forGo, if_pos hok] at h'
        refine ⟨hgo, fun σ2 H2 => ∃ ρ2 θ2 M2, Go X.K θ' H' θ2 H2 M2 ∧ Den X.K θ2 H2 σ2 ρ2 ∧ FinS X θ2 H2 D (forGo t sg gb (t.ds.drop (i + 1)) ρ2 M2), fun σ2 H2 ⟨ρ2, θ2, M2, g2, d2, h2⟩ => ?_, fun x H2 y => ?_⟩
        · exact ⟨t.ds.length - (i + 1), by omega, rfl, hlt, ρ2, θ2, M2, g'.trans g2, d2, h2⟩
        · obtain ⟨gy, rx⟩ := hyl x H2 y
          cases qs : sg t.ds[i] ρ' with
          | none => rw [qs] at h'; exact h'.elim
          | some ρ1 =>
            rw [qs] at h'
            refine ⟨ρ', θ', M', _, hd'.go gy, gy.wr, rx, ρ1, qs, fun σ1 d1 => ⟨ρ1, θ', M', d1, gy.wr, ?_⟩⟩
            have h' : FinS X θ' H2 D ((gb ρ1 M').bind _) := FinS.go gy h'
            cases qb : gb ρ1 M' with
            | err c M2 => rw [qb] at h'; exact h'
            | bad => rw [qb] at h'; exact h'
            | ok f M2 =>
              rw [qb] at h'
              cases f with
              | nx ρ2 => exact fun σ2 θ2 H3 g2 d2 => ⟨ρ2, θ2, M2, gy.trans g2, d2, FinS.go g2 h'⟩
              | ct ρ2 => exact fun σ2 θ2 H3 g2 d2 => ⟨ρ2, θ2, M2, gy.trans g2, d2, FinS.go g2 h'⟩
              | bk ρ2 => exact h'
              | rt d => exact h'
      · have e : i = t.ds.length := by omega
        subst e
        rw [List.drop_length, forGo, if_pos hok] at h'
        exact .inl ⟨hst (Nat.le_refl _), h' σ' θ' H' (.refl g'.wr) hd'⟩
    · have hz : FinS X θ' H' D .bad := by
        cases hdr : t.ds.drop i with
        | nil => rw [hdr, forGo, if_neg hok] at h'; exact h'
        | cons d r => rw [hdr, forGo, if_neg hok] at h'; exact h'
      exact hz.elim
end

/-! ### defs and calls -/
def ErrC (K : PySem.W.Frag) (θ : List Addr) (H : Hp) (E : XK) (c : Str) (M : Mem) : Prop := ∀ C θ' H' a, ClsAt K c C → Go K θ H θ' H' M → E (.ref C) (some a) H'
def FinC (K : PySem.W.Frag) (θ : List Addr) (H : Hp) (Q : VK) (E : XK) : Out D → Prop
  | .ok d M' => ∀ v θ' H', Go K θ H θ' H' M' → isD K θ' H' d v → Q v H'
  | .err c M' => ErrC K θ H E c M'
  | .bad => False
abbrev FD := List D → Mem → Out D
def spD (K : PySem.W.Frag) (n : Nat) (F : FD) : Sp := fun vs H Q E => ∃ θ M ds, ds.length = n ∧ isDs K θ H ds vs ∧ Wr K θ H M ∧ FinC K θ H Q E (F ds M)
theorem spD_len {K : PySem.W.Frag} {n : Nat} {F : FD} {ps : List Str} (hn : ps.length = n) : ∀ vs H Q E, spD K n F vs H Q E → vs.length = ps.length := fun vs H Q E ⟨θ, M, ds, hl, r, _⟩ => by rw [hn, ← hl, isDs_length r]
/-- a def's run: its parameters first, k more names -/
def rho0 (k : Nat) (ds : List D) : Rho := ds.map some ++ List.replicate k none
def retOf (o : Out Fl) : Out D := o.bind fun f M => match f with
  | .rt d => .ok d M
  | .nx _ => .ok .non M
  | _ => .bad
def runD (k : Nat) (g : GS) : FD := fun ds M => retOf (g (rho0 k ds) M)
theorem den0 {K : PySem.W.Frag} {θ : List Addr} {H : Hp} {ds : List D} {vs : List V} (r : isDs K θ H ds vs) (N : List Str) : Den K θ H (L2.start N vs) (rho0 (N.length - vs.length) ds) := by
  have hl := isDs_length r
  refine ⟨by simp [L2.start, rho0, hl], fun i d e => ?_⟩
  unfold rho0 at e
  by_cases hi : i < ds.length
  · rw [List.getElem?_append_left (by simpa using hi), List.getElem?_map] at e
    cases q : ds[i]? with
    | none => rw [q] at e; cases e
    | some d' =>
      rw [q] at e
      have e' : d' = d := by simpa using e
      subst e'
      obtain ⟨v, e1, rv⟩ := isDs_get r q
      refine ⟨v, ?_, rv⟩
      unfold L2.start
      rw [List.getElem?_append_left (by rw [List.length_map, ← hl]; exact hi), List.getElem?_map, e1]
      rfl
  · rw [List.getElem?_append_right (by simpa using hi), List.getElem?_replicate] at e
    split at e <;> cases e
section
variable {P : Program} {w : World} {K : PySem.W.Frag} {mg : Str → Option Value} {base : Heap}
/-- THE RULE for a def: its body's reading is a function of its data -/
theorem fn_d {x qual : Str} {st : Stmt} {f : Addr} {fd : FuncData} {N ps : List Str} {k n : Nat} {g : GS} (F : Fun K x qual st f fd) (S : FnScope N ps (defScope st)) (hn : ps.length = n)
    (hbody : ∀ (cdv : Value) (A : Around) (outer : List Env) (s : Shared) (H : Hp) (E : XK), Room k (A.deeper (envOfC qual (defScope st) s.heap.objs.size f cdv)) →
      PSs (cxOf (CXd P w) P w K mg base N qual (defScope st) f cdv A outer s H E) (defBody st) (tS (cxOf (CXd P w) P w K mg base N qual (defScope st) f cdv A outer s H E) g)) :
    FnOk P w K mg base (CXd P w) (k + 1) f fd ps (spD K n (runD (N.length - n) g)) := by
  obtain ⟨oc, od, kV, doc, pm, an, cdv, ct, osl, rfl, lk, hcd⟩ := F.ex
  refine fn_of lk hcd S (spD_len hn) fun A outer s H vs Q E hr h => ⟨_, hbody cdv A outer s H E hr, ?_⟩
  obtain ⟨θ, M, ds, hl, r, hw, h⟩ := h
  have hv : vs.length = n := by rw [← isDs_length r]; exact hl
  refine ⟨rho0 (N.length - n) ds, θ, M, by rw [← hv]; exact den0 r N, hw, ?_⟩
  have h : FinC K θ H Q E (retOf (g (rho0 (N.length - n) ds) M)) := h
  unfold retOf at h
  cases q : g (rho0 (N.length - n) ds) M with
  | bad => rw [q] at h; exact h
  | err c M1 =>
    rw [q] at h
    have h : ErrC K θ H E c M1 := h
    exact fun C θ' H' a s' kC g1 fl => fly_leaves fl (h C θ' H' a kC g1)
  | ok fl M1 =>
    rw [q] at h
    cases fl with
    | rt d => exact h
    | nx ρ1 => exact fun σ1 θ1 H1 g1 _ => h .non θ1 H1 g1 rfl
    | bk ρ1 => exact h.elim
    | ct ρ1 => exact h.elim
end
section
variable {X : Cx} {e : Expr} {es : List Expr} {x : Str} {p pos : Pos} {k n : Nat} {f : Addr} {fd : FuncData} {ps : List Str} {F : FD} {ga : GA}
def gCall (n : Nat) (F : FD) (ga : GA) : GE := fun ρ M => (ga ρ M).bind fun ds M1 => if ds.length = n then F ds M1 else .bad
/-- what a callee's refusal must meet here -/
def errE (X : Cx) : XK := fun cls oa H' => ∃ a C c θ M, oa = some a ∧ cls = .ref C ∧ ClsAt X.K c C ∧ Wr X.K θ H' M ∧ ErrOk X θ H' c M
theorem errE_passes : Passes (CXd X.prog X.w) X (errE X) := fun pins σ H s e s' I h => by
  obtain ⟨a, C, H', rfl, fl, a', C', c, θ, M, e1, e2, kC, hw, ok⟩ := fly_comes I h
  cases e1; cases e2
  exact ok C θ H' a s' kC (.refl hw) fl
theorem errE_of {θ : List Addr} {H : Hp} {c : Str} {M : Mem} (h : ErrOk X θ H c M) : ErrC X.K θ H (errE X) c M := fun C θ' H' a kC g => ⟨a, C, c, θ', M, rfl, rfl, kC, g.wr, h.go g⟩
theorem de_call (Fn : FnOk X.prog X.w X.K X.mg X.base (CXd X.prog X.w) k f fd ps (spD X.K n F)) (hr : Room k X.A) (hg : Gl X x) (hm : X.mg x = some (.ref f)) (hk : PySem.W.keepIn X.K (.ref f) = true) (hb : Binds X.K fd ps [])
    (ha : PA X (e :: es) (tA X ga)) (hdb : (x == ("__debug__" : Str)) = false := by decide) (he : starEach (e :: es) X.env = (false, eval e X.env) :: starEach es X.env := by rfl) (hpl : (backTo pos (starEach es X.env)).any (·.1) = false := by rfl) :
    PE X (.Call (.Name x p) (e :: es) [] pos) (tE X (gCall n F ga)) := (pe_call Fn hr hg hm hk hb .nil errE_passes ha hdb he hpl).of fun σ H Q ⟨ρ, θ, M, hd, hw, h⟩ => by
  refine thenA hd hw (FinE X θ H Q) (fun c M' h => h) (fun h => h) h fun ds M1 vs θ1 H1 g1 r1 h1 => ?_
  by_cases hl : ds.length = n
  · rw [if_pos hl] at h1
    refine ⟨θ1, M1, ds, hl, by rw [List.append_nil]; exact r1, g1.wr, ?_⟩
    have h2 := FinE.go g1 h1
    cases q : F ds M1 with
    | ok d M2 => rw [q] at h2; exact h2
    | err c M2 => rw [q] at h2; exact errE_of h2
    | bad => rw [q] at h2; exact h2
  · rw [if_neg hl] at h1; exact h1.elim
/-- built-in functions and types -/
def rC (X : Cx) (F : FD) : List V → Hp → VK → Prop := fun xs H Q => ∃ θ M ds, Wr X.K θ H M ∧ isDs X.K θ H ds xs ∧ FinE X θ H Q (F ds M)
def gBlt (F : FD) (ga : GA) : GE := fun ρ M => (ga ρ M).bind F
theorem tcb_of {σ : L2.St} {H : Hp} {Q : VK} (h : tE X (gBlt F ga) σ H Q) : tCB (rC X F) (tA X ga) σ H Q := by
  obtain ⟨ρ, θ, M, hd, hw, h⟩ := h
  exact thenA hd hw (FinE X θ H Q) (fun c M' h => h) (fun h => h) h fun ds M1 vs θ1 H1 g1 r1 h1 => ⟨θ1, M1, ds, g1.wr, r1, FinE.go g1 h1⟩
theorem de_callB {id : String} (hc : CallR X (.builtin id) (rC X F)) (hg : Gl X x) (hm : X.mg x = none) (hv : bootBuiltins x = some (.builtin id)) (ha : PA X (e :: es) (tA X ga)) (hn : x ≠ "__name__" := by decide) (hdb : (x == ("__debug__" : Str)) = false := by decide)
    (he : starEach (e :: es) X.env = (false, eval e X.env) :: starEach es X.env := by rfl) (hpl : (backTo pos (starEach es X.env)).any (·.1) = false := by rfl) : PE X (.Call (.Name x p) (e :: es) [] pos) (tE X (gBlt F ga)) :=
  (pe_callB hc hg hm hv ha hn hdb he hpl).of fun σ H Q h => tcb_of h
theorem de_callTy {T : String} (hc : CallR X (.type T) (rC X F)) (hg : Gl X x) (hm : X.mg x = none) (hv : bootBuiltins x = some (.type T)) (ha : PA X (e :: es) (tA X ga)) (hn : x ≠ "__name__" := by decide) (hdb : (x == ("__debug__" : Str)) = false := by decide)
    (he : starEach (e :: es) X.env = (false, eval e X.env) :: starEach es X.env := by rfl) (hpl : (backTo pos (starEach es X.env)).any (·.1) = false := by rfl) : PE X (.Call (.Name x p) (e :: es) [] pos) (tE X (gBlt F ga)) :=
  (pe_callTy hc hg hm hv ha hn hdb he hpl).of fun σ H Q h => tcb_of h
end
end DL

set_option Elab.async false
set_option linter.all false
set_option maxRecDepth 100000
/-! The data layer, third part: the operations. -/
namespace DL
open PySem PySem.Spec PyProof.Rows L2

section
variable {prog : Program} {w : World} {A : Around} {E : Value → Shared → Prop} {s : Shared}
/-- () + u -/
theorem cat_tup0 {t b : Addr} {ws : List Value} {Q : Value → Shared → Prop} (ht : IsTup s.heap t #[]) (hb : IsTup s.heap b ws.toArray)
    (h : Q (.ref b) s) : wpAny (model prog w) A (binaryOp .Add (.ref t) (.ref b)) Q E s := by
  obtain ⟨⟨cls, dd, data, sl⟩, ho, hc, n, hd⟩ := id ht
  obtain ⟨⟨cls2, dd2, data2, sl2⟩, ho2, hc2, n2, hd2⟩ := id hb
  simp only at hc hd hc2 hd2
  subst hc hd hc2 hd2
  exact concat_meets ⟨_, ho, rfl⟩ ⟨_, ho2, rfl⟩ noFill_tuple_add seq_tuple_add PySem.F.slot_tuple_add PySem.F.entry_tuple_add (PySem.F.args_tuple_add_2 _ _)
      (tuple_addW0 t b #[] ws.toArray n n2 dd dd2 sl sl2 (by simp)) ⟨ho, ho2, h⟩
/-- t[a:b] that is the whole of t -/
theorem getItem_tuple_whole {t sl : Addr} {items : Array Value} {vl vu : Value} {lo hi : Option Int} {Q : Value → Shared → Prop} (ht : IsTup s.heap t items) (hs : s.heap.IsSliceOf sl vl vu .none) (pl : IsPart vl lo) (pu : IsPart vu hi)
    (hw : HT.sIx items.size 0 lo = 0 ∧ HT.sIx items.size items.size hi = items.size) (h : Q (.ref t) s) : wpAny (model prog w) A (getItem (.ref t) (.ref sl)) Q E s := by
  obtain ⟨os, hos, hcs, hds⟩ := id hs
  have hTs : s.TypeIs (.ref sl) "slice" := ⟨os, hos, hcs⟩
  unfold getItem
  try with_reducible refine wpAny_holding ?_
  first | refine wpAny_bind (wpAny_pure ?_) | skip
  refine wpAny_bind (wpAny_sequenceKey ht.typeIs (by decide) ?_)
  refine wpAny_bind (wpAny_callSpecial?_slot (name := Str.ofString "__getitem__") ht.typeIs PyProof.Rows.slot_tuple_getitem
    (wpAny_call_entry PyProof.Rows.slot_tuple_getitem ht.typeIs entry_tuple_getitem ?_ (args_tuple_getitem _ _)))
  show wpAny _ _ (Builtin.Tuple.tupleItemsOf (.ref t) >>= _) _ _ s
  refine wpAny_bind (tupleItemsOf_ ht ?_)
  refine wpAny_bind (wpAny_typeOf hTs ?_)
  rw [if_pos (by decide)]
  refine wpAny_bind (HT.sliceApplied_gen hs pl pu ?_)
  have hyes : (((HT.sIx items.size 0 lo : Nat) : Int) == 0 && (1 : Int) == 1 && (HT.sIx items.size items.size hi - HT.sIx items.size 0 lo) == items.size) = true := by
    rw [hw.1, hw.2]; simp
  show wpAny _ _ (if (((HT.sIx items.size 0 lo : Nat) : Int) == 0 && (1 : Int) == 1 && (HT.sIx items.size items.size hi - HT.sIx items.size 0 lo) == items.size) = true then _ else _) _ _ s
  rw [if_pos hyes]
  unfold Builtin.Tuple.tupleIsExact
  refine wpAny_bind (wpAny_bind (wpAny_typeOf ht.typeIs (wpAny_pure ?_)))
  rw [if_pos (by decide)]
  first
    | exact wpAny_bind (wpAny_rule (wpAny_bind (wpAny_pure ⟨_, rfl, wpAny_pure h⟩)))
    | exact wpAny_bind (wpAny_rule (wpAny_pure ⟨_, rfl, wpAny_pure h⟩))
    | exact wpAny_bind (wpAny_rule (wpAny_bind (wpAny_pure (wpAny_pure ⟨_, rfl, wpAny_pure h⟩))))
end

/-! ### sums -/
/-- a list of the run's own: what stands in it -/
def mlOf (d : D) (M : Mem) : Option (List D) := match d with
  | .lst xs => some xs
  | .mr k => match M[k]? with
    | some (.lst xs) => some xs
    | _ => none
  | _ => none
def addD : F2 := fun x y M => match x, y with
  | .int i, .int j => .ok (.int (i + j)) M
  | .str a, .str b => if a.length + b.length ≤ sizeLine then .ok (.str (a ++ b)) M else .bad
  | .tup a, .tup b => if a.length + b.length ≤ sizeLine then .ok (.tup (a ++ b)) M else .bad
  | .bl a, .int j => .ok (.int ((if a = true then 1 else 0) + j)) M
  | x, y => match mlOf x M, mlOf y M with
    | some a, some b => if a.length + b.length ≤ sizeLine then .ok (.lst (a ++ b)) M else .bad
    | _, _ => .bad
/-- the same; a list that comes of it may change -/
def addM : F2 := fun x y M => match mlOf x M, mlOf y M with
  | some a, some b => if a.length + b.length ≤ sizeLine then .ok (.mr M.length) (M ++ [.lst (a ++ b)]) else .bad
  | _, _ => .bad
theorem ml_of {K : PySem.W.Frag} {θ : List Addr} {H : Hp} {M : Mem} {d : D} {xs : List D} {v : V} (hw : Wr K θ H M) (r : isD K θ H d v) (e : mlOf d M = some xs) : ∃ a vs, v = .ref a ∧ H a = some (.lst vs) ∧ isDs K θ H xs vs := by
  cases d with
  | lst ys => cases e; obtain ⟨a, vs, ea, ta, ra⟩ := r; exact ⟨a, vs, ea, ta.1, ra⟩
  | mr k =>
    obtain ⟨a, ea, ta⟩ := r
    have e : (match M[k]? with | some (.lst xs) => some xs | _ => none) = some xs := e
    cases q : M[k]? with
    | none => rw [q] at e; cases e
    | some m =>
      cases m with
      | lst ys =>
        rw [q] at e
        cases e
        obtain ⟨vs, hv, ra⟩ := hw.at_ k a _ ta q
        exact ⟨a, vs, ea, hv, ra⟩
      | _ => rw [q] at e; cases e
  | _ => cases e
def subD : F2 := fun x y M => match x, y with
  | .int i, .int j => .ok (.int (i - j)) M
  | _, _ => .bad
def mulD : F2 := fun x y M => match x, y with
  | .int i, .int j => if (-(2 ^ 64) < i ∧ i < 2 ^ 64) ∨ (-(2 ^ 64) < j ∧ j < 2 ^ 64) then .ok (.int (i * j)) M else .bad
  | _, _ => .bad
def fdivD : F2 := fun x y M => match x, y with
  | .int i, .int j => if 0 < j ∧ j.natAbs.log2 < 9000 then .ok (.int (i / j)) M else .bad
  | _, _ => .bad
def modD : F2 := fun x y M => match x, y with
  | .int i, .int j => if 0 < j then .ok (.int (i % j)) M else .bad
  | _, _ => .bad
def powD : F2 := fun x y M => match x, y with
  | .int i, .int j => if 0 ≤ j ∧ j ≤ 1000000 ∧ i.natAbs < 2 ^ 64 then .ok (.int (i ^ j.toNat)) M else .bad
  | _, _ => .bad
section
variable {X : Cx}
theorem od_add : OpR X (binaryOp .Add) (rD X addD) := by
  intro pins s σ H x y v u Q I rx ry h
  obtain ⟨θ, M, dx, dy, hw, r1, r2, h⟩ := h
  unfold addD at h
  split at h
  · rename_i i j
    exact op_add pins s σ H x y v u Q I rx ry ⟨i, j, r1, r2, h _ θ H (.refl hw) rfl⟩
  · rename_i a b
    split at h
    · rename_i hl
      exact op_add_str pins s σ H x y v u Q I rx ry ⟨a, b, r1, r2, hl, h _ θ H (.refl hw) rfl⟩
    · exact h.elim
  · rename_i as bs
    split at h
    · rename_i hl
      obtain ⟨a, vs, ea, ta, ra⟩ := r1
      obtain ⟨b, us, eb, tb, rb⟩ := r2
      by_cases hv : vs = []
      · subst hv
        have e0 : as = [] := List.length_eq_zero_iff.mp (isDs_length ra)
        subst e0
        subst ea; subst eb
        cases rx; cases ry
        obtain ⟨its, q1, p1, _⟩ := I.tuple ta.sq
        obtain ⟨its2, q2, p2, _⟩ := I.tuple tb.sq
        cases q1
        exact cat_tup0 p1 p2 ⟨.ref b, H, I, rfl, h _ θ H (.refl hw) ⟨b, us, rfl, tb, rb⟩⟩
      · refine op_catT pins s σ H x y v u Q I rx ry ⟨a, b, vs, us, ea, eb, ta.sq, tb.sq, hv, by rw [← isDs_length ra, ← isDs_length rb]; exact hl, fun hu => ?_, fun _ p hp => h _ θ _ (go_new hw hp) (new_tup hw hp (isDs_append ra rb))⟩
        subst hu
        have e0 : bs = [] := List.length_eq_zero_iff.mp (isDs_length rb)
        subst e0
        exact h _ θ H (.refl hw) ⟨a, vs, rfl, ta, by rw [List.append_nil]; exact ra⟩
    · exact h.elim
  · rename_i a j
    have e1 : x = .bl a := r1
    have e2 : y = .int j := r2
    subst e1; subst e2
    cases rx
    obtain ⟨t', rfl⟩ := ry
    exact IntBool.add_bool_int ⟨.int _, H, I.tok _, ⟨_, rfl⟩, h _ θ H (.refl hw) rfl⟩
  · split at h
    · rename_i as bs q1 q2
      split at h
      · rename_i hl
        obtain ⟨a, vs, ea, ta, ra⟩ := ml_of hw r1 q1
        obtain ⟨b, us, eb, tb, rb⟩ := ml_of hw r2 q2
        exact op_cat pins s σ H x y v u Q I rx ry ⟨a, b, vs, us, ea, eb, ta, tb, by rw [← isDs_length ra, ← isDs_length rb]; exact hl, fun p hp => h _ θ _ (go_new hw hp) (new_lst hw hp (isDs_append ra rb))⟩
      · exact h.elim
    · exact h.elim
theorem od_sub : OpR X (binaryOp .Sub) (rD X subD) := by
  intro pins s σ H x y v u Q I rx ry h
  obtain ⟨θ, M, dx, dy, hw, r1, r2, h⟩ := h
  unfold subD at h
  split at h
  · rename_i i j
    exact op_sub pins s σ H x y v u Q I rx ry ⟨i, j, r1, r2, h _ θ H (.refl hw) rfl⟩
  · exact h.elim
theorem od_mul : OpR X (binaryOp .Mult) (rD X mulD) := by
  intro pins s σ H x y v u Q I rx ry h
  obtain ⟨θ, M, dx, dy, hw, r1, r2, h⟩ := h
  unfold mulD at h
  split at h
  · rename_i i j
    split at h
    · rename_i hc
      exact op_mul pins s σ H x y v u Q I rx ry ⟨i, j, r1, r2, hc, h _ θ H (.refl hw) rfl⟩
    · exact h.elim
  · exact h.elim
theorem od_fdiv : OpR X (binaryOp .FloorDiv) (rD X fdivD) := by
  intro pins s σ H x y v u Q I rx ry h
  obtain ⟨θ, M, dx, dy, hw, r1, r2, h⟩ := h
  unfold fdivD at h
  split at h
  · rename_i i j
    split at h
    · rename_i hc
      have e1 : x = .int i := r1
      have e2 : y = .int j := r2
      subst e1; subst e2
      obtain ⟨t, rfl⟩ := rx
      obtain ⟨t', rfl⟩ := ry
      have h1 : (0 : Int) < j := hc.1
      exact floordiv_int (by omega) (by rw [Int.fdiv_eq_ediv_of_nonneg i (by omega)]; exact ⟨.int (i / j), H, I.tok _, ⟨_, rfl⟩, h _ θ H (.refl hw) rfl⟩) (.inl (PyProof.noPylong_of_log2 hc.2))
    · exact h.elim
  · exact h.elim
theorem od_mod : OpR X (binaryOp .Mod) (rD X modD) := by
  intro pins s σ H x y v u Q I rx ry h
  obtain ⟨θ, M, dx, dy, hw, r1, r2, h⟩ := h
  unfold modD at h
  split at h
  · rename_i i j
    split at h
    · rename_i hc
      exact op_mod pins s σ H x y v u Q I rx ry ⟨i, j, r1, r2, hc, h _ θ H (.refl hw) rfl⟩
    · exact h.elim
  · exact h.elim
theorem od_pow : OpR X (binaryOp .Pow) (rD X powD) := by
  intro pins s σ H x y v u Q I rx ry h
  obtain ⟨θ, M, dx, dy, hw, r1, r2, h⟩ := h
  unfold powD at h
  split at h
  · rename_i i j
    split at h
    · rename_i hc
      exact op_pow pins s σ H x y v u Q I rx ry ⟨i, j, r1, r2, hc, h _ θ H (.refl hw) rfl⟩
    · exact h.elim
  · exact h.elim
/-- -x -/
def gNeg (g : GE) : GE := fun ρ M => (g ρ M).bind fun x M1 => match x with
  | .int i => .ok (.int (-i)) M1
  | _ => .bad
theorem de_neg {a : Expr} {pos : Pos} {g : GE} (ha : PE X a (tE X g)) : PE X (.UnaryOp .USub a pos) (tE X (gNeg g)) := (pe_un un_neg ha).of fun σ H Q ⟨ρ, θ, M, hd, hw, h⟩ => by
  refine thenE hd hw (FinE X θ H Q) (fun c M' h => h) (fun h => h) h fun d M1 v θ1 H1 g1 r1 h1 => ?_
  split at h1
  · rename_i i
    exact ⟨i, r1, h1 _ θ1 H1 g1 rfl⟩
  · exact h1.elim
/-- not x, as a value -/
theorem de_not {a : Expr} {pos : Pos} {g : GE} (ha : PE X a (tE X g)) : PE X (.UnaryOp .Not a pos) (tE X (gNot (gTst g))) := (pe_not ha).of fun σ H Q ⟨ρ, θ, M, hd, hw, h⟩ => by
  refine ⟨ρ, θ, M, hd, hw, ?_⟩
  unfold gNot gTst at h
  cases q : g ρ M with
  | ok d M1 =>
    rw [q] at h
    cases d with
    | bl b => exact fun v θ1 H1 g1 r1 => ⟨b, r1, h _ θ1 H1 g1 rfl⟩
    | _ => exact h.elim
  | err c M1 => rw [q] at h; exact h
  | bad => rw [q] at h; exact h

/-! ### order -/
def ltD : F2 := fun x y M => match x, y with
  | .int i, .int j => .ok (.bl (decide (i < j))) M
  | _, _ => .bad
def leD : F2 := fun x y M => match x, y with
  | .int i, .int j => .ok (.bl (decide (i ≤ j))) M
  | _, _ => .bad
def gtD : F2 := fun x y M => match x, y with
  | .int i, .int j => .ok (.bl (decide (j < i))) M
  | _, _ => .bad
def geD : F2 := fun x y M => match x, y with
  | .int i, .int j => .ok (.bl (decide (j ≤ i))) M
  | _, _ => .bad
theorem od_lt : OpR X (compareOp .Lt) (rD X ltD) := by
  intro pins s σ H x y v u Q I rx ry h
  obtain ⟨θ, M, dx, dy, hw, r1, r2, h⟩ := h
  unfold ltD at h
  split at h
  · rename_i i j
    exact op_lt pins s σ H x y v u Q I rx ry ⟨i, j, r1, r2, h _ θ H (.refl hw) rfl⟩
  · exact h.elim
theorem od_le : OpR X (compareOp .LtE) (rD X leD) := by
  intro pins s σ H x y v u Q I rx ry h
  obtain ⟨θ, M, dx, dy, hw, r1, r2, h⟩ := h
  unfold leD at h
  split at h
  · rename_i i j
    exact op_le pins s σ H x y v u Q I rx ry ⟨i, j, r1, r2, h _ θ H (.refl hw) rfl⟩
  · exact h.elim
theorem od_gt : OpR X (compareOp .Gt) (rD X gtD) := by
  intro pins s σ H x y v u Q I rx ry h
  obtain ⟨θ, M, dx, dy, hw, r1, r2, h⟩ := h
  unfold gtD at h
  split at h
  · rename_i i j
    exact op_gt pins s σ H x y v u Q I rx ry ⟨i, j, r1, r2, h _ θ H (.refl hw) rfl⟩
  · exact h.elim
theorem od_ge : OpR X (compareOp .GtE) (rD X geD) := by
  intro pins s σ H x y v u Q I rx ry h
  obtain ⟨θ, M, dx, dy, hw, r1, r2, h⟩ := h
  unfold geD at h
  split at h
  · rename_i i j
    exact op_ge pins s σ H x y v u Q I rx ry ⟨i, j, r1, r2, h _ θ H (.refl hw) rfl⟩
  · exact h.elim
/-- is None, is True, is False -/
def isP (d c : D) : Option Bool := match c, d with
  | .non, .non => some true
  | .non, .any => none
  | .non, _ => some false
  | .bl b, .bl b' => some (b' == b)
  | .bl _, .non => some false
  | .bl _, .int _ => some false
  | .bl _, .str _ => some false
  | .bl _, .tup _ => some false
  | .bl _, .lst _ => some false
  | .bl _, .ro _ => some false
  | .bl _, .mr _ => some false
  | _, _ => none
def isOp (neg : Bool) : F2 := fun x y M => match isP x y with
  | some b => .ok (.bl (b != neg)) M
  | none => .bad
theorem isP_ok {K : PySem.W.Frag} {θ : List Addr} {H : Hp} {dx dy : D} {x y : V} {v u : Value} {b : Bool} (r1 : isD K θ H dx x) (r2 : isD K θ H dy y) (rx : RelV x v) (ry : RelV y u) (h : isP dx dy = some b) :
    plainIs v u = true ∧ (v == u) = b := by
  cases dy with
  | non =>
    have e : y = .non := r2
    subst e
    cases ry
    cases dx with
    | non => have e : x = .non := r1; subst e; cases rx; cases h; exact ⟨rfl, rfl⟩
    | bl b => have e : x = .bl b := r1; subst e; cases rx; cases h; exact ⟨rfl, rfl⟩
    | int i => have e : x = .int i := r1; subst e; obtain ⟨t, rfl⟩ := rx; cases h; exact ⟨rfl, rfl⟩
    | str i => have e : x = .str i := r1; subst e; obtain ⟨t, rfl⟩ := rx; cases h; exact ⟨rfl, rfl⟩
    | tup ds => obtain ⟨a, vs, e, _⟩ := r1; subst e; cases rx; cases h; exact ⟨rfl, rfl⟩
    | lst ds => obtain ⟨a, vs, e, _⟩ := r1; subst e; cases rx; cases h; exact ⟨rfl, rfl⟩
    | ro ds => obtain ⟨a, vs, e, _⟩ := r1; subst e; cases rx; cases h; exact ⟨rfl, rfl⟩
    | mr k => obtain ⟨a, e, _⟩ := r1; subst e; cases rx; cases h; exact ⟨rfl, rfl⟩
    | exc c => first | (obtain ⟨a, C, e, _⟩ := r1; subst e; cases rx; cases h; exact ⟨rfl, rfl⟩) | cases h
    | any => cases h
  | bl c =>
    have e : y = .bl c := r2
    subst e
    cases ry
    cases dx with
    | non => have e : x = .non := r1; subst e; cases rx; cases h; exact ⟨rfl, rfl⟩
    | bl b =>
      have e : x = .bl b := r1; subst e; cases rx; cases h
      refine ⟨rfl, ?_⟩
      cases b <;> cases c <;> rfl
    | int i => have e : x = .int i := r1; subst e; obtain ⟨t, rfl⟩ := rx; cases h; exact ⟨rfl, rfl⟩
    | str i => have e : x = .str i := r1; subst e; obtain ⟨t, rfl⟩ := rx; cases h; exact ⟨rfl, rfl⟩
    | tup ds => obtain ⟨a, vs, e, _⟩ := r1; subst e; cases rx; cases h; exact ⟨rfl, rfl⟩
    | lst ds => obtain ⟨a, vs, e, _⟩ := r1; subst e; cases rx; cases h; exact ⟨rfl, rfl⟩
    | ro ds => obtain ⟨a, vs, e, _⟩ := r1; subst e; cases rx; cases h; exact ⟨rfl, rfl⟩
    | mr k => obtain ⟨a, e, _⟩ := r1; subst e; cases rx; cases h; exact ⟨rfl, rfl⟩
    | exc c => first | (obtain ⟨a, C, e, _⟩ := r1; subst e; cases rx; cases h; exact ⟨rfl, rfl⟩) | cases h
    | any => cases h
  | _ => cases dx <;> cases h
theorem od_is : OpR X (compareOp .Is) (rD X (isOp false)) := by
  intro pins s σ H x y v u Q I rx ry h
  obtain ⟨θ, M, dx, dy, hw, r1, r2, h⟩ := h
  unfold isOp at h
  split at h
  · rename_i b q
    obtain ⟨hp, e⟩ := isP_ok r1 r2 rx ry q
    refine wpAny_is_plain hp ?_
    rw [e]
    refine ⟨.bl b, H, I, rfl, ?_⟩
    have := h (.bl (b != false)) θ H (.refl hw) rfl
    rw [Bool.bne_false] at this
    exact this
  · exact h.elim
/-! ### == -/
mutual
def toP : D → PyData
  | .non => .none
  | .bl b => .bool b
  | .int i => .int i
  | .str x => .str x
  | .tup ds => .tuple (toPs ds)
  | .lst ds => .list (toPs ds)
  | .ro ds => .list (toPs ds)
  | .mr _ => .dict []
  | .exc _ => .dict []
  | .any => .dict []
def toPs : List D → List PyData
  | [] => []
  | d :: ds => toP d :: toPs ds
end
mutual
/-- what may be compared: its texts in order, within so many of one another -/
def cmpOk : Nat → D → Bool
  | _, .non => true
  | _, .bl _ => true
  | _, .int _ => true
  | _, .str x => PyData.strOk x
  | n + 1, .tup ds => cmpOks n ds
  | n + 1, .lst ds => cmpOks n ds
  | n + 1, .ro ds => cmpOks n ds
  | _, _ => false
def cmpOks : Nat → List D → Bool
  | _, [] => true
  | n, d :: ds => cmpOk n d && cmpOks n ds
end
mutual
/-- == of data -/
def eqB : D → D → Bool
  | .non, .non => true
  | .bl a, .bl b => a == b
  | .bl a, .int j => (if a then 1 else 0) == j
  | .int i, .bl b => i == (if b then 1 else 0)
  | .int i, .int j => i == j
  | .str x, .str y => x == y
  | .lst xs, .lst ys => eqBs xs ys
  | .lst xs, .ro ys => eqBs xs ys
  | .ro xs, .lst ys => eqBs xs ys
  | .ro xs, .ro ys => eqBs xs ys
  | .tup xs, .tup ys => eqBs xs ys
  | _, _ => false
def eqBs : List D → List D → Bool
  | [], [] => true
  | x :: xs, y :: ys => eqB x y && eqBs xs ys
  | _, _ => false
end
mutual
theorem eqv_toP : ∀ (x y : D) (n m : Nat), cmpOk n x = true → cmpOk m y = true → PyData.eqv (toP x) (toP y) = eqB x y
  | .non, y, n, m, hx, hy => by cases y <;> simp_all [toP, eqB, PyData.eqv, cmpOk]
  | .bl a, y, n, m, hx, hy => by cases y <;> simp_all [toP, eqB, PyData.eqv, cmpOk]
  | .int a, y, n, m, hx, hy => by cases y <;> simp_all [toP, eqB, PyData.eqv, cmpOk]
  | .str a, y, n, m, hx, hy => by cases y <;> simp_all [toP, eqB, PyData.eqv, cmpOk]
  | .tup xs, y, n, m, hx, hy => by
    cases n with
    | zero => simp [cmpOk] at hx
    | succ n =>
      cases y with
      | tup ys =>
        cases m with
        | zero => simp [cmpOk] at hy
        | succ m =>
          simp only [toP, PyData.eqv, eqB]
          exact eqv_toPs xs ys n m (by simpa [cmpOk] using hx) (by simpa [cmpOk] using hy)
      | _ => simp_all [toP, eqB, PyData.eqv, cmpOk]
  | .lst xs, y, n, m, hx, hy => by
    cases n with
    | zero => simp [cmpOk] at hx
    | succ n =>
      cases y with
      | lst ys =>
        cases m with
        | zero => simp [cmpOk] at hy
        | succ m =>
          simp only [toP, PyData.eqv, eqB]
          exact eqv_toPs xs ys n m (by simpa [cmpOk] using hx) (by simpa [cmpOk] using hy)
      | ro ys =>
        cases m with
        | zero => simp [cmpOk] at hy
        | succ m =>
          simp only [toP, PyData.eqv, eqB]
          exact eqv_toPs xs ys n m (by simpa [cmpOk] using hx) (by simpa [cmpOk] using hy)
      | _ => simp_all [toP, eqB, PyData.eqv, cmpOk]
  | .ro xs, y, n, m, hx, hy => by
    cases n with
    | zero => simp [cmpOk] at hx
    | succ n =>
      cases y with
      | lst ys =>
        cases m with
        | zero => simp [cmpOk] at hy
        | succ m =>
          simp only [toP, PyData.eqv, eqB]
          exact eqv_toPs xs ys n m (by simpa [cmpOk] using hx) (by simpa [cmpOk] using hy)
      | ro ys =>
        cases m with
        | zero => simp [cmpOk] at hy
        | succ m =>
          simp only [toP, PyData.eqv, eqB]
          exact eqv_toPs xs ys n m (by simpa [cmpOk] using hx) (by simpa [cmpOk] using hy)
      | _ => simp_all [toP, eqB, PyData.eqv, cmpOk]
  | .mr a, y, n, m, hx, hy => by simp [cmpOk] at hx
  | .exc a, y, n, m, hx, hy => by simp [cmpOk] at hx
  | .any, y, n, m, hx, hy => by simp [cmpOk] at hx
theorem eqv_toPs : ∀ (x y : List D) (n m : Nat), cmpOks n x = true → cmpOks m y = true → PyData.eqvAll (toPs x) (toPs y) = eqBs x y
  | [], y, n, m, hx, hy => by cases y <;> simp [toPs, PyData.eqvAll, eqBs]
  | x :: xs, y, n, m, hx, hy => by
    cases y with
    | nil => simp [toPs, PyData.eqvAll, eqBs]
    | cons y ys =>
      simp only [cmpOks, Bool.and_eq_true] at hx hy
      simp only [toPs, PyData.eqvAll, eqBs]
      rw [eqv_toP x y n m hx.1 hy.1, eqv_toPs xs ys n m hx.2 hy.2]
end
mutual
theorem cmp_lay : ∀ (d : D) (n : Nat), cmpOk n d = true → (toP d).canLay0 = true ∧ (toP d).depth ≤ n
  | .non, n, h => by simp [toP, PyData.canLay0, PyData.depth]
  | .bl a, n, h => by simp [toP, PyData.canLay0, PyData.depth]
  | .int a, n, h => by simp [toP, PyData.canLay0, PyData.depth]
  | .str a, n, h => by
    have : PyData.strOk a = true := by cases n <;> simpa [cmpOk] using h
    simp [toP, PyData.canLay0, PyData.depth, this]
  | .tup xs, n, h => by
    cases n with
    | zero => simp [cmpOk] at h
    | succ n =>
      have := cmp_lays xs n (by simpa [cmpOk] using h)
      simp only [toP, PyData.canLay0, PyData.depth]
      exact ⟨this.1, by omega⟩
  | .lst xs, n, h => by
    cases n with
    | zero => simp [cmpOk] at h
    | succ n =>
      have := cmp_lays xs n (by simpa [cmpOk] using h)
      simp only [toP, PyData.canLay0, PyData.depth]
      exact ⟨this.1, by omega⟩
  | .ro xs, n, h => by
    cases n with
    | zero => simp [cmpOk] at h
    | succ n =>
      have := cmp_lays xs n (by simpa [cmpOk] using h)
      simp only [toP, PyData.canLay0, PyData.depth]
      exact ⟨this.1, by omega⟩
  | .mr a, n, h => by simp [cmpOk] at h
  | .exc a, n, h => by simp [cmpOk] at h
  | .any, n, h => by simp [cmpOk] at h
theorem cmp_lays : ∀ (ds : List D) (n : Nat), cmpOks n ds = true → PyData.canLayAll0 (toPs ds) = true ∧ PyData.depthAll (toPs ds) ≤ n
  | [], n, h => by simp [toPs, PyData.canLayAll0, PyData.depthAll]
  | d :: ds, n, h => by
    simp only [cmpOks, Bool.and_eq_true] at h
    have h1 := cmp_lay d n h.1
    have h2 := cmp_lays ds n h.2
    simp only [toPs, PyData.canLayAll0, PyData.depthAll, Bool.and_eq_true]
    exact ⟨⟨h1.1, h2.1⟩, by omega⟩
end
mutual
theorem reads_of {pins : List (Addr × Obj)} {s : Shared} {σ : L2.St} {H : Hp} {θ : List Addr} (I : Inv X pins σ H s) : ∀ (d : D) (n : Nat) (v : V) (u : Value), cmpOk n d = true → isD X.K θ H d v → RelV v u → ∃ as, Reads s.heap u (toP d) as
  | .non, n, v, u, h, r, q => by have e : v = .non := r; subst e; cases q; exact ⟨_, .none⟩
  | .bl a, n, v, u, h, r, q => by have e : v = .bl a := r; subst e; cases q; exact ⟨_, .bool a⟩
  | .int a, n, v, u, h, r, q => by have e : v = .int a := r; subst e; obtain ⟨t, rfl⟩ := q; exact ⟨_, .int a t⟩
  | .str a, n, v, u, h, r, q => by have e : v = .str a := r; subst e; obtain ⟨t, rfl⟩ := q; exact ⟨_, .str a t⟩
  | .tup xs, n, v, u, h, r, q => by
    cases n with
    | zero => simp [cmpOk] at h
    | succ n =>
      obtain ⟨a, vs, e, ta, ra⟩ := r
      subst e; cases q
      obtain ⟨its, rv, ⟨o, h1, h2, m, h3⟩, _⟩ := I.tuple ta.sq
      obtain ⟨as, R⟩ := readss_of I xs n vs its (by simpa [cmpOk] using h) ra rv
      exact ⟨_, .tuple h1 h2 h3 (by simpa using R)⟩
  | .lst xs, n, v, u, h, r, q => by
    cases n with
    | zero => simp [cmpOk] at h
    | succ n =>
      obtain ⟨a, vs, e, ta, ra⟩ := r
      subst e; cases q
      obtain ⟨its, rv, ⟨o, m, h1, h2, _, h3⟩, _⟩ := I.list (ta.sq (K := X.K))
      obtain ⟨as, R⟩ := readss_of I xs n vs its (by simpa [cmpOk] using h) ra rv
      exact ⟨_, .list h1 h2 h3 (by simpa using R)⟩
  | .ro xs, n, v, u, h, r, q => by
    cases n with
    | zero => simp [cmpOk] at h
    | succ n =>
      obtain ⟨a, vs, e, ta, ra⟩ := r
      subst e; cases q
      obtain ⟨its, rv, ⟨o, m, h1, h2, _, h3⟩, _⟩ := I.list ta.sq
      obtain ⟨as, R⟩ := readss_of I xs n vs its (by simpa [cmpOk] using h) ra rv
      exact ⟨_, .list h1 h2 h3 (by simpa using R)⟩
  | .mr a, n, v, u, h, r, q => by simp [cmpOk] at h
  | .exc a, n, v, u, h, r, q => by simp [cmpOk] at h
  | .any, n, v, u, h, r, q => by simp [cmpOk] at h
theorem readss_of {pins : List (Addr × Obj)} {s : Shared} {σ : L2.St} {H : Hp} {θ : List Addr} (I : Inv X pins σ H s) : ∀ (ds : List D) (n : Nat) (vs : List V) (us : List Value), cmpOks n ds = true → isDs X.K θ H ds vs → Vals vs us → ∃ as, ReadsAll s.heap us (toPs ds) as
  | [], n, vs, us, h, r, q => by have e : vs = [] := r; subst e; cases q; exact ⟨_, .nil⟩
  | d :: ds, n, vs, us, h, r, q => by
    simp only [cmpOks, Bool.and_eq_true] at h
    obtain ⟨v, rr, e, r1, r2⟩ := r
    subst e
    cases q with
    | cons q1 q2 =>
      obtain ⟨as, R1⟩ := reads_of I d n v _ h.1 r1 q1
      obtain ⟨bs, R2⟩ := readss_of I ds n rr _ h.2 r2 q2
      exact ⟨_, .cons R1 R2⟩
end
/-- a list that may change, as it is now -/
def now (d : D) (M : Mem) : D := match d with
  | .mr k => match M[k]? with
    | some (.lst xs) => .lst xs
    | _ => .mr k
  | d => d
def eqOp (neg : Bool) : F2 := fun x y M => if cmpOk 40 (now x M) && cmpOk 40 (now y M) then .ok (.bl (eqB (now x M) (now y M) != neg)) M else .bad
theorem reads_now {pins : List (Addr × Obj)} {s : Shared} {σ : L2.St} {H : Hp} {θ : List Addr} {M : Mem} (I : Inv X pins σ H s) (hw : Wr X.K θ H M) {d : D} {n : Nat} {v : V} {u : Value} (h : cmpOk n (now d M) = true) (r : isD X.K θ H d v) (q : RelV v u) : ∃ as, Reads s.heap u (toP (now d M)) as := by
  cases d with
  | mr k =>
    obtain ⟨a, e, ta⟩ := r
    subst e; cases q
    cases qm : M[k]? with
    | none =>
      have e : now (.mr k) M = .mr k := by simp [now, qm]
      rw [e] at h; simp [cmpOk] at h
    | some m =>
      cases m with
      | lst xs =>
        have e : now (.mr k) M = .lst xs := by simp [now, qm]
        rw [e] at h ⊢
        cases n with
        | zero => simp [cmpOk] at h
        | succ n =>
          obtain ⟨vs, hv, ra⟩ := hw.at_ k a _ ta qm
          obtain ⟨its, rv, ⟨o, m, h1, h2, _, h3⟩, _⟩ := I.list (X := X) (xs := vs) (.inl (.inl hv))
          obtain ⟨as, R⟩ := readss_of I xs n vs its (by simpa [cmpOk] using h) ra rv
          exact ⟨_, .list h1 h2 h3 (by simpa using R)⟩
      | _ =>
        have e : now (.mr k) M = .mr k := by simp [now, qm]
        rw [e] at h; simp [cmpOk] at h
  | _ => exact reads_of I _ n v u h r q
theorem od_eq (hu : X.A.units + 64 < cLine) : OpR X (compareOp .Eq) (rD X (eqOp false)) := by
  intro pins s σ H x y v u Q I rx ry h
  obtain ⟨θ, M, dx, dy, hw, r1, r2, h⟩ := h
  unfold eqOp at h
  split at h
  · rename_i hc
    rw [Bool.and_eq_true] at hc
    obtain ⟨as, R1⟩ := reads_now I hw hc.1 r1 rx
    obtain ⟨bs, R2⟩ := reads_now I hw hc.2 r2 ry
    have l1 := cmp_lay _ _ hc.1
    have l2 := cmp_lay _ _ hc.2
    refine SeqAt.compareEq_reads R1 R2 l1.1 l2.1 (by have := l1.2; have : min (toP (now dx M)).depth (toP (now dy M)).depth ≤ (toP (now dx M)).depth := Nat.min_le_left _ _; omega) ?_
    rw [eqv_toP _ _ _ _ hc.1 hc.2]
    refine ⟨.bl _, H, I, rfl, ?_⟩
    have := h _ θ H (.refl hw) rfl
    rw [Bool.bne_false] at this
    exact this
  · exact h.elim
theorem od_ne (hu : X.A.units + 64 < cLine) : OpR X (compareOp .NotEq) (rD X (eqOp true)) := by
  intro pins s σ H x y v u Q I rx ry h
  obtain ⟨θ, M, dx, dy, hw, r1, r2, h⟩ := h
  unfold eqOp at h
  split at h
  · rename_i hc
    rw [Bool.and_eq_true] at hc
    obtain ⟨as, R1⟩ := reads_now I hw hc.1 r1 rx
    obtain ⟨bs, R2⟩ := reads_now I hw hc.2 r2 ry
    have l1 := cmp_lay _ _ hc.1
    have l2 := cmp_lay _ _ hc.2
    refine SeqAt.compareNe_reads R1 R2 l1.1 l2.1 (by have := l1.2; have : min (toP (now dx M)).depth (toP (now dy M)).depth ≤ (toP (now dx M)).depth := Nat.min_le_left _ _; omega) ?_
    rw [eqv_toP _ _ _ _ hc.1 hc.2]
    refine ⟨.bl _, H, I, rfl, ?_⟩
    have := h _ θ H (.refl hw) rfl
    rw [Bool.bne_true] at this
    exact this
  · exact h.elim

/-! ### an item, a part -/
def itemsOf (d : D) (M : Mem) : Option (List D) := match d with
  | .tup xs => some xs
  | .lst xs => some xs
  | .ro xs => some xs
  | .mr k => match M[k]? with
    | some (.lst xs) => some xs
    | _ => none
  | _ => none
def ixD : F2 := fun x y M => match itemsOf x M, y with
  | some xs, .int i => match atI xs i with
    | some d => .ok d M
    | none => .bad
  | _, _ => .bad
theorem atI_isDs {K : PySem.W.Frag} {θ : List Addr} {H : Hp} {ds : List D} {vs : List V} {i : Int} {d : D} (r : isDs K θ H ds vs) (e : atI ds i = some d) : ∃ v, atI vs i = some v ∧ isD K θ H d v := by
  unfold atI at e ⊢
  rw [← isDs_length r]
  cases q : ixN ds.length i with
  | none => rw [q] at e; cases e
  | some j =>
    rw [q] at e
    exact isDs_get r e
theorem seq_of {K : PySem.W.Frag} {θ : List Addr} {H : Hp} {M : Mem} {d : D} {xs : List D} {v : V} (hw : Wr K θ H M) (r : isD K θ H d v) (e : itemsOf d M = some xs) : ∃ a vs, v = .ref a ∧ (SqL K H a vs ∨ SqT K H a vs) ∧ isDs K θ H xs vs := by
  cases d with
  | tup ds => obtain ⟨a, vs, e1, ta, ra⟩ := r; cases e; exact ⟨a, vs, e1, .inr ta.sq, ra⟩
  | lst ds => obtain ⟨a, vs, e1, ta, ra⟩ := r; cases e; exact ⟨a, vs, e1, .inl ta.sq, ra⟩
  | ro ds => obtain ⟨a, vs, e1, ta, ra⟩ := r; cases e; exact ⟨a, vs, e1, .inl ta.sq, ra⟩
  | mr k =>
    obtain ⟨a, e1, ta⟩ := r
    have e : (match M[k]? with | some (.lst xs) => some xs | _ => none) = some xs := e
    cases qm : M[k]? with
    | none => rw [qm] at e; cases e
    | some m =>
      cases m with
      | lst ys =>
        rw [qm] at e
        cases e
        obtain ⟨vs, hv, ra⟩ := hw.at_ k a _ ta qm
        exact ⟨a, vs, e1, .inl (.inl (.inl hv)), ra⟩
      | _ => rw [qm] at e; cases e
  | _ => cases e
theorem od_ix : IxR X (rD X ixD) := by
  intro value slice pins s σ H x y v u Q I rx ry h hs
  obtain ⟨θ, M, dx, dy, hw, r1, r2, h⟩ := h
  unfold ixD at h
  split at h
  · rename_i xs i q
    split at h
    · rename_i d qd
      obtain ⟨a, vs, ea, sq, ra⟩ := seq_of hw r1 q
      obtain ⟨z, ez, rz⟩ := atI_isDs ra qd
      have hq := h z θ H (.refl hw) rz
      rcases sq with sq | sq
      · exact ix_list value slice pins s σ H x y v u Q I rx ry ⟨a, vs, i, z, ea, r2, sq, ez, hq⟩ hs
      · exact ix_tup value slice pins s σ H x y v u Q I rx ry ⟨a, vs, i, z, ea, r2, sq, ez, hq⟩ hs
    · exact h.elim
  · exact h.elim
theorem de_ix {a b : Expr} {pos : Pos} {ga gb : GE} (ha : PE X a (tE X ga)) (hb : PE X b (tE X gb)) (hs : PlainIx b := by intro _ _; rfl) : PE X (.Subscript a b pos) (tE X (g2 ixD ga gb)) :=
  (pe_ix od_ix ha hb hs).of fun _ _ _ h => t2_of h
/-- xs[lo:hi] -/
def cutD (xs : List D) (lo hi : Option Int) : List D := (xs.drop (HT.sIx xs.length 0 lo)).take (HT.sIx xs.length xs.length hi - HT.sIx xs.length 0 lo)
def sliceD (x : D) (lo hi : Option Int) (M : Mem) : Out D := match x with
  | .tup xs => .ok (.tup (cutD xs lo hi)) M
  | .lst xs => .ok (.lst (cutD xs lo hi)) M
  | .ro xs => .ok (.lst (cutD xs lo hi)) M
  | .mr k => match M[k]? with
    | some (.lst xs) => .ok (.lst (cutD xs lo hi)) M
    | _ => .bad
  | _ => .bad
abbrev GO := Rho → Mem → Out (Option Int)
def gNoPart : GO := fun _ M => .ok none M
def gPart (g : GE) : GO := fun ρ M => (g ρ M).bind fun d M1 => match d with
  | .int i => .ok (some i) M1
  | _ => .bad
def FinO (X : Cx) (θ : List Addr) (H : Hp) (Q : Option Int → Hp → Prop) : Out (Option Int) → Prop
  | .ok b M' => ∀ θ' H', Go X.K θ H θ' H' M' → Q b H'
  | .err c M' => ErrOk X θ H c M'
  | .bad => False
def tO (X : Cx) (g : GO) : TO := fun σ H Q => ∃ ρ θ M, Den X.K θ H σ ρ ∧ Wr X.K θ H M ∧ FinO X θ H Q (g ρ M)
theorem _root_.L2.PO.of {e : Option Expr} {t t' : TO} (h : PO X e t) (w : ∀ σ H Q, t' σ H Q → t σ H Q) : PO X e t' := fun pins s σ H Q I q => h pins s σ H Q I (w σ H Q q)
theorem do_none : PO X none (tO X gNoPart) := po_none.of fun σ H Q ⟨ρ, θ, M, hd, hw, f⟩ => f θ H (.refl hw)
theorem do_some {e : Expr} {g : GE} (h : PE X e (tE X g)) : PO X (some e) (tO X (gPart g)) := (po_some h).of fun σ H Q ⟨ρ, θ, M, hd, hw, h⟩ => by
  refine thenE hd hw (FinO X θ H Q) (fun c M' h => h) (fun h => h) h fun d M1 v θ1 H1 g1 r1 h1 => ?_
  split at h1
  · rename_i i
    exact ⟨i, r1, h1 θ1 H1 g1⟩
  · exact h1.elim
theorem thenO {g : GO} {σ : L2.St} {H : Hp} {Q : Option Int → Hp → Prop} {α : Type} {ρ : Rho} {θ : List Addr} {M : Mem} (hd : Den X.K θ H σ ρ) (hw : Wr X.K θ H M) (F : Out α → Prop) (Fe : ∀ c M', F (.err c M') → ErrOk X θ H c M') (Fb : F .bad → False)
    {f : Option Int → Mem → Out α} (h : F ((g ρ M).bind f)) (k : ∀ d M1 θ1 H1, Go X.K θ H θ1 H1 M1 → F (f d M1) → Q d H1) : tO X g σ H Q := by
  refine ⟨ρ, θ, M, hd, hw, ?_⟩
  cases q : g ρ M with
  | ok d M1 =>
    rw [q] at h
    exact fun θ1 H1 g1 => k d M1 θ1 H1 g1 h
  | err c M1 => rw [q] at h; exact Fe c M1 h
  | bad => rw [q] at h; exact (Fb h).elim
def gSl (g : GE) (gl gh : GO) : GE := fun ρ M => (g ρ M).bind fun x M1 => (gl ρ M1).bind fun lo M2 => (gh ρ M2).bind fun hi M3 => sliceD x lo hi M3
def rSl (X : Cx) : V → Option Int → Option Int → Hp → VK → Prop := fun x lo hi H Q => ∃ θ M d, Wr X.K θ H M ∧ isD X.K θ H d x ∧ FinE X θ H Q (sliceD d lo hi M)
theorem isDs_cut {K : PySem.W.Frag} {θ : List Addr} {H : Hp} {ds : List D} {vs : List V} (r : isDs K θ H ds vs) (lo hi : Option Int) : isDs K θ H (cutD ds lo hi) (cutV vs lo hi) := by
  unfold cutD cutV
  rw [← isDs_length r]
  exact isDs_take _ (isDs_drop _ r)
theorem sl_d : SlR X (rSl X) := by
  intro pins s σ H x v vl vu lo hi sl Q I rx hs pl pu h
  obtain ⟨θ, M, d, hw, r, h⟩ := h
  cases d with
  | tup ds =>
    obtain ⟨a, vs, e, ta, ra⟩ := r
    by_cases hc : HT.sIx vs.length 0 lo = 0 ∧ HT.sIx vs.length vs.length hi = vs.length
    · subst e; cases rx
      obtain ⟨its, rv, ht, hz⟩ := I.tuple ta.sq
      have hlen : its.toArray.size = vs.length := by rw [List.size_toArray]; exact rv.length.symm
      refine ⟨"tuple", _, PyProof.Rows.slot_tuple_getitem.lookup, ht.typeIs, ?_⟩
      refine getItem_tuple_whole ht hs pl pu (by rw [hlen]; exact hc) ⟨.ref a, H, I, rfl, h _ θ H (.refl hw) ⟨a, vs, rfl, ta, ?_⟩⟩
      have e : cutD ds lo hi = ds := by
        unfold cutD
        rw [isDs_length ra, hc.1, hc.2, List.drop_zero, Nat.sub_zero, ← isDs_length ra, List.take_length]
      rw [e]; exact ra
    · exact sl_tup pins s σ H x v vl vu lo hi sl Q I rx hs pl pu ⟨a, vs, e, ta.sq, hc, fun p hp => h _ θ _ (go_new hw hp) (new_tup hw hp (isDs_cut ra lo hi))⟩
  | lst ds =>
    obtain ⟨a, vs, e, ta, ra⟩ := r
    exact sl_list pins s σ H x v vl vu lo hi sl Q I rx hs pl pu ⟨a, vs, e, ta.sq, fun p hp => h _ θ _ (go_new hw hp) (new_lst hw hp (isDs_cut ra lo hi))⟩
  | ro ds =>
    obtain ⟨a, vs, e, ta, ra⟩ := r
    exact sl_list pins s σ H x v vl vu lo hi sl Q I rx hs pl pu ⟨a, vs, e, ta.sq, fun p hp => h _ θ _ (go_new hw hp) (new_lst hw hp (isDs_cut ra lo hi))⟩
  | mr k =>
    obtain ⟨a, e, ta⟩ := r
    have h : FinE X θ H Q (match M[k]? with | some (.lst xs) => .ok (.lst (cutD xs lo hi)) M | _ => .bad) := h
    cases qm : M[k]? with
    | none => rw [qm] at h; exact h.elim
    | some m =>
      cases m with
      | lst ys =>
        rw [qm] at h
        obtain ⟨vs, hv, ra⟩ := hw.at_ k a _ ta qm
        exact sl_list pins s σ H x v vl vu lo hi sl Q I rx hs pl pu ⟨a, vs, e, .inl (.inl hv), fun p hp => h _ θ _ (go_new hw hp) (new_lst hw hp (isDs_cut ra lo hi))⟩
      | _ => rw [qm] at h; exact h.elim
  | _ => exact h.elim
theorem de_slice {e : Expr} {lo hi : Option Expr} {g : GE} {gl gh : GO} {p2 pos : Pos} (he : PE X e (tE X g)) (hl : PO X lo (tO X gl)) (hh : PO X hi (tO X gh)) : PE X (.Subscript e (.Slice lo hi none p2) pos) (tE X (gSl g gl gh)) :=
  (pe_slice sl_d he hl hh).of fun σ H Q ⟨ρ, θ, M, hd, hw, h⟩ => by
    refine thenE hd hw (FinE X θ H Q) (fun c M' h => h) (fun h => h) h fun d M1 v θ1 H1 g1 r1 h1 => ?_
    refine thenO (hd.go g1) g1.wr (FinE X θ1 H1 Q) (fun c M' h => h) (fun h => h) (h1.go g1) fun l M2 θ2 H2 g2 h2 => ?_
    refine thenO ((hd.go g1).go g2) g2.wr (FinE X θ2 H2 Q) (fun c M' h => h) (fun h => h) (h2.go g2) fun u M3 θ3 H3 g3 h3 => ?_
    exact ⟨θ3, M3, d, g3.wr, r1.go (g2.trans g3), h3.go g3⟩

/-! ### truth -/
def truD (d : D) (M : Mem) : Out Bool := match d with
  | .non => .ok false M
  | .bl b => .ok b M
  | .int i => .ok (i != 0) M
  | .str x => if x.length ≤ sizeLine then .ok ((x.length : Int) != 0) M else .bad
  | .tup xs => .ok (!xs.isEmpty) M
  | .lst xs => .ok (!xs.isEmpty) M
  | .ro xs => .ok (!xs.isEmpty) M
  | .mr k => match M[k]? with
    | some (.lst xs) => .ok (!xs.isEmpty) M
    | _ => .bad
  | .exc _ => .bad
  | .any => .bad
def gTru (g : GE) : GT := fun ρ M => (g ρ M).bind truD
theorem isEmpty_ds {K : PySem.W.Frag} {θ : List Addr} {H : Hp} {ds : List D} {vs : List V} (r : isDs K θ H ds vs) : (!vs.isEmpty) = !ds.isEmpty := by
  have := isDs_length r
  cases ds <;> cases vs <;> simp_all
theorem dt_tru {a : Expr} {g : GE} (ha : PE X a (tE X g)) (he : ∀ whole, isTrue a X.env whole = (do let v ← whole; standAt a.pos; holding [v] (truthy v)) := by intro _; rfl) : PT X a (tT X (gTru g)) :=
  (pt_truth ha he).of fun σ H Q ⟨ρ, θ, M, hd, hw, h⟩ => by
    refine thenE hd hw (FinT X θ H Q) (fun c M' h => h) (fun h => h) h fun d M1 v θ1 H1 g1 r1 h1 => ?_
    cases d with
    | non => have e : v = .non := r1; subst e; exact ⟨false, rfl, h1 θ1 H1 g1⟩
    | bl b => have e : v = .bl b := r1; subst e; exact ⟨b, rfl, h1 θ1 H1 g1⟩
    | int i => have e : v = .int i := r1; subst e; exact ⟨i != 0, rfl, h1 θ1 H1 g1⟩
    | str x =>
      have e : v = .str x := r1; subst e
      have h1 : FinT X θ H Q (if x.length ≤ sizeLine then .ok ((x.length : Int) != 0) M1 else .bad) := h1
      split at h1
      · rename_i hl; exact ⟨_, ⟨hl, rfl⟩, h1 θ1 H1 g1⟩
      · exact h1.elim
    | tup xs =>
      obtain ⟨a, vs, e, ta, ra⟩ := r1; subst e
      exact ⟨_, .inr (.inl ⟨vs, ta.sq, (isEmpty_ds ra).symm⟩), h1 θ1 H1 g1⟩
    | lst xs =>
      obtain ⟨a, vs, e, ta, ra⟩ := r1; subst e
      exact ⟨_, .inl ⟨vs, ta.sq, (isEmpty_ds ra).symm⟩, h1 θ1 H1 g1⟩
    | ro xs =>
      obtain ⟨a, vs, e, ta, ra⟩ := r1; subst e
      exact ⟨_, .inl ⟨vs, ta.sq, (isEmpty_ds ra).symm⟩, h1 θ1 H1 g1⟩
    | mr k =>
      obtain ⟨a, e, ta⟩ := r1; subst e
      have h1 : FinT X θ H Q (match M1[k]? with | some (.lst xs) => .ok (!xs.isEmpty) M1 | _ => .bad) := h1
      cases qm : M1[k]? with
      | none => rw [qm] at h1; exact h1.elim
      | some m =>
        cases m with
        | lst ys =>
          rw [qm] at h1
          obtain ⟨vs, hv, ra⟩ := g1.wr.at_ k a _ ta qm
          exact ⟨_, .inl ⟨vs, .inl (.inl hv), (isEmpty_ds ra).symm⟩, h1 θ1 H1 g1⟩
        | _ => rw [qm] at h1; exact h1.elim
    | exc c => exact h1.elim
    | any => exact h1.elim

/-! ### built-in functions -/
def lenF : FD := fun ds M => match ds with
  | [.str x] => if x.length ≤ sizeLine then .ok (.int x.length) M else .bad
  | [d] => match itemsOf d M with
    | some xs => .ok (.int xs.length) M
    | none => .bad
  | _ => .bad
def minF : FD := fun ds M => match ds with
  | [.int i, .int j] => .ok (.int (if j < i then j else i)) M
  | _ => .bad
def maxF : FD := fun ds M => match ds with
  | [.int i, .int j] => .ok (.int (if j > i then j else i)) M
  | _ => .bad
def intF : FD := fun ds M => match ds with
  | [.int i] => .ok (.int i) M
  | [.bl b] => .ok (.int (if b then 1 else 0)) M
  | _ => .bad
def listF : FD := fun ds M => match ds with
  | [d] => match itemsOf d M with
    | some xs => .ok (.lst xs) M
    | none => .bad
  | _ => .bad
def listM : FD := fun ds M => match ds with
  | [d] => match itemsOf d M with
    | some xs => .ok (.mr M.length) (M ++ [.lst xs])
    | none => .bad
  | _ => .bad
def tupleF : FD := fun ds M => match ds with
  | [d] => match itemsOf d M with
    | some xs => .ok (.tup xs) M
    | none => .bad
  | _ => .bad
theorem one_of {K : PySem.W.Frag} {θ : List Addr} {H : Hp} {d : D} {xs : List V} (r : isDs K θ H [d] xs) : ∃ v, xs = [v] ∧ isD K θ H d v := by
  obtain ⟨v, rr, e, h1, h2⟩ := r
  have e2 : rr = [] := h2
  subst e2
  exact ⟨v, e, h1⟩
theorem two_of {K : PySem.W.Frag} {θ : List Addr} {H : Hp} {d d' : D} {xs : List V} (r : isDs K θ H [d, d'] xs) : ∃ v v', xs = [v, v'] ∧ isD K θ H d v ∧ isD K θ H d' v' := by
  obtain ⟨v, rr, e, h1, h2⟩ := r
  obtain ⟨v', e2, h3⟩ := one_of h2
  subst e2
  exact ⟨v, v', e, h1, h3⟩
theorem cd_len : CallR X (.builtin "len") (rC X lenF) := by
  intro pins s σ H xs us Q I r h
  obtain ⟨θ, M, ds, hw, rd, h⟩ := h
  unfold lenF at h
  split at h
  · rename_i x
    split at h
    · rename_i hl
      obtain ⟨v, e, rv⟩ := one_of rd
      exact call_len_str pins s σ H xs us Q I r ⟨x, by rw [e, show v = .str x from rv], hl, h _ θ H (.refl hw) rfl⟩
    · exact h.elim
  · rename_i d _
    split at h
    · rename_i ys q
      obtain ⟨v, e, rv⟩ := one_of rd
      obtain ⟨a, vs, ea, sq, ra⟩ := seq_of hw rv q
      refine call_len_seq pins s σ H xs us Q I r ⟨a, vs, by rw [e, ea], sq, ?_⟩
      rw [← isDs_length ra]
      exact h _ θ H (.refl hw) rfl
    · exact h.elim
  · exact h.elim
theorem cd_min (hc : X.calm = true) : CallR X (.builtin "min") (rC X minF) := by
  intro pins s σ H xs us Q I r h
  obtain ⟨θ, M, ds, hw, rd, h⟩ := h
  unfold minF at h
  split at h
  · rename_i i j
    obtain ⟨v, v', e, rv, rv'⟩ := two_of rd
    exact call_min2 hc pins s σ H xs us Q I r ⟨i, j, by rw [e, show v = .int i from rv, show v' = .int j from rv'], h _ θ H (.refl hw) rfl⟩
  · exact h.elim
theorem cd_max (hc : X.calm = true) : CallR X (.builtin "max") (rC X maxF) := by
  intro pins s σ H xs us Q I r h
  obtain ⟨θ, M, ds, hw, rd, h⟩ := h
  unfold maxF at h
  split at h
  · rename_i i j
    obtain ⟨v, v', e, rv, rv'⟩ := two_of rd
    exact call_max2 hc pins s σ H xs us Q I r ⟨i, j, by rw [e, show v = .int i from rv, show v' = .int j from rv'], h _ θ H (.refl hw) rfl⟩
  · exact h.elim
theorem cd_int : CallR X (.type "int") (rC X intF) := by
  intro pins s σ H xs us Q I r h
  obtain ⟨θ, M, ds, hw, rd, h⟩ := h
  unfold intF at h
  split at h
  · rename_i i
    obtain ⟨v, e, rv⟩ := one_of rd
    exact call_int1 pins s σ H xs us Q I r (.inl ⟨i, by rw [e, show v = .int i from rv], h _ θ H (.refl hw) rfl⟩)
  · rename_i b
    obtain ⟨v, e, rv⟩ := one_of rd
    exact call_int1 pins s σ H xs us Q I r (.inr ⟨b, by rw [e, show v = .bl b from rv], h _ θ H (.refl hw) rfl⟩)
  · exact h.elim
theorem cd_list : CallR X (.type "list") (rC X listF) := by
  intro pins s σ H xs us Q I r h
  obtain ⟨θ, M, ds, hw, rd, h⟩ := h
  unfold listF at h
  split at h
  · rename_i d
    split at h
    · rename_i ys q
      obtain ⟨v, e, rv⟩ := one_of rd
      obtain ⟨a, vs, ea, sq, ra⟩ := seq_of hw rv q
      exact call_list_of pins s σ H xs us Q I r ⟨a, vs, by rw [e, ea], sq, fun l hl => h _ θ _ (go_new hw hl) (new_lst hw hl ra)⟩
    · exact h.elim
  · exact h.elim
theorem cd_tuple : CallR X (.type "tuple") (rC X tupleF) := by
  intro pins s σ H xs us Q I r h
  obtain ⟨θ, M, ds, hw, rd, h⟩ := h
  unfold tupleF at h
  split at h
  · rename_i d
    obtain ⟨v, e, rv⟩ := one_of rd
    cases d with
    | tup ys =>
      obtain ⟨a, vs, ea, ta, ra⟩ := rv
      exact call_tuple_of pins s σ H xs us Q I r ⟨a, vs, by rw [e, ea], .inr ⟨ta.sq, h _ θ H (.refl hw) ⟨a, vs, rfl, ta, ra⟩⟩⟩
    | lst ys =>
      obtain ⟨a, vs, ea, ta, ra⟩ := rv
      exact call_tuple_of pins s σ H xs us Q I r ⟨a, vs, by rw [e, ea], .inl ⟨ta.sq, fun l hl => h _ θ _ (go_new hw hl) (new_tup hw hl ra)⟩⟩
    | ro ys =>
      obtain ⟨a, vs, ea, ta, ra⟩ := rv
      exact call_tuple_of pins s σ H xs us Q I r ⟨a, vs, by rw [e, ea], .inl ⟨ta.sq, fun l hl => h _ θ _ (go_new hw hl) (new_tup hw hl ra)⟩⟩
    | mr k =>
      obtain ⟨a, ea, ta⟩ := rv
      cases qm : M[k]? with
      | none => simp [itemsOf, qm] at h; exact h.elim
      | some m =>
        cases m with
        | lst ys =>
          simp only [itemsOf, qm] at h
          obtain ⟨vs, hv, ra⟩ := hw.at_ k a _ ta qm
          exact call_tuple_of pins s σ H xs us Q I r ⟨a, vs, by rw [e, ea], .inl ⟨.inl (.inl hv), fun l hl => h _ θ _ (go_new hw hl) (new_tup hw hl ra)⟩⟩
        | _ => simp [itemsOf, qm] at h; exact h.elim
    | _ => exact h.elim
  · exact h.elim
end
end DL

set_option Elab.async false
set_option linter.all false
set_option maxRecDepth 100000
/-! The data layer, fourth part: list comprehensions. -/
namespace DL
open PySem PySem.Spec PyProof.Rows L2

/-! ### what a comprehension's block sees -/
def capsOf (cells : List (Str × Addr)) : List (Str × NameKind) → List (Str × Addr) → List (Str × Addr)
  | [], acc => acc
  | (n, k) :: r, acc => if k == .free then capsOf cells r ((n, (cells.lookup n).getD 0) :: acc) else capsOf cells r acc
theorem closure_go {env : Env} : ∀ (l : List (Str × NameKind)) (cs : List (Str × Addr)), (∀ p ∈ l, p.2 = .free → ∃ c, env.cells.lookup p.1 = some c) →
    (forIn (m := Sem) l cs fun x r => match x with
      | (name, kind) => if (kind == NameKind.free) = true then do let __do_lift ← cellOf env name; pure (ForInStep.yield ((name, __do_lift) :: r)) else pure (ForInStep.yield r)) = pure (capsOf env.cells l cs)
  | [], cs, h => rfl
  | (n, k) :: r, cs, h => by
    have ih := fun cs => closure_go (env := env) r cs fun p hp => h p (List.mem_cons_of_mem _ hp)
    rw [List.forIn_cons]
    by_cases hk : (k == NameKind.free) = true
    · obtain ⟨c, hc⟩ := h (n, k) List.mem_cons_self (by simpa using hk)
      have e : cellOf env n = pure c := by unfold cellOf; rw [show List.lookup n env.cells = some c from hc]
      simp only [hk, if_true, capsOf, e, pure_bind]
      rw [ih, show List.lookup n env.cells = some c from hc]; rfl
    · simp only [hk, if_false, capsOf, pure_bind, Bool.false_eq_true]
      exact ih cs
theorem closure_caps {env : Env} {scope : Scope} (h : ∀ p ∈ scope.names, p.2 = .free → ∃ c, env.cells.lookup p.1 = some c) : closureFor scope env = pure (capsOf env.cells scope.names []) := by
  have := closure_go (env := env) scope.names [] h
  unfold closureFor
  simp only [bind_pure_comp] at this ⊢
  first
    | (rw [this]; rfl)
    | (simp [this])
    | exact this
theorem caps_mem {cells : List (Str × Addr)} : ∀ (l : List (Str × NameKind)) (acc : List (Str × Addr)), (∀ p ∈ acc, cells.lookup p.1 = some p.2) → (∀ p ∈ l, p.2 = .free → ∃ c, cells.lookup p.1 = some c) →
    ∀ p ∈ capsOf cells l acc, cells.lookup p.1 = some p.2
  | [], acc, ha, h => ha
  | (n, k) :: r, acc, ha, h => by
    have hr : ∀ p ∈ r, p.2 = .free → ∃ c, cells.lookup p.1 = some c := fun p hp => h p (List.mem_cons_of_mem _ hp)
    unfold capsOf
    by_cases hk : (k == NameKind.free) = true
    · rw [if_pos hk]
      refine caps_mem r _ (fun p hp => ?_) hr
      rcases List.mem_cons.mp hp with e | hp
      · subst e
        obtain ⟨c, hc⟩ := h (n, k) List.mem_cons_self (by simpa using hk)
        have hc' : cells.lookup n = some c := hc
        show cells.lookup n = some ((cells.lookup n).getD 0)
        rw [hc']; rfl
      · exact ha p hp
    · rw [if_neg hk]
      exact caps_mem r acc ha hr
theorem caps_acc {cells : List (Str × Addr)} : ∀ (l : List (Str × NameKind)) (acc : List (Str × Addr)), ∀ p ∈ acc, p ∈ capsOf cells l acc
  | [], acc, p, h => h
  | (n, k) :: r, acc, p, h => by
    unfold capsOf
    by_cases hk : (k == NameKind.free) = true
    · rw [if_pos hk]; exact caps_acc r _ p (List.mem_cons_of_mem _ h)
    · rw [if_neg hk]; exact caps_acc r acc p h
theorem caps_has {cells : List (Str × Addr)} : ∀ (l : List (Str × NameKind)) (acc : List (Str × Addr)) (n : Str), (n, NameKind.free) ∈ l → ∃ c, (n, c) ∈ capsOf cells l acc
  | [], acc, n, h => by cases h
  | (m, k) :: r, acc, n, h => by
    unfold capsOf
    rcases List.mem_cons.mp h with e | h
    · cases e
      rw [if_pos (by rfl)]
      exact ⟨_, caps_acc r _ _ List.mem_cons_self⟩
    · by_cases hk : (k == NameKind.free) = true
      · rw [if_pos hk]; exact caps_has r _ n h
      · rw [if_neg hk]; exact caps_has r acc n h
theorem lookup_some_of_mem {l : List (Str × Addr)} {n : Str} {c : Addr} (h : (n, c) ∈ l) : ∃ c', l.lookup n = some c' := by
  induction l with
  | nil => cases h
  | cons p r ih =>
    obtain ⟨m, d⟩ := p
    by_cases e : (n == m) = true
    · exact ⟨d, by simp [List.lookup, e]⟩
    · have e' : (n == m) = false := by simpa using e
      rcases List.mem_cons.mp h with q | q
      · cases q; simp at e
      · obtain ⟨c', hc⟩ := ih q
        exact ⟨c', by simp only [List.lookup, e']; exact hc⟩
theorem lookup_relabel {env : Env} : ∀ {names : List (Str × NameKind)} {x : Str} {k : NameKind},
    (names.map fun (n, k) => if (k == NameKind.free && env.scope.kind == .function && env.kindOf n == some .cell) then (n, NameKind.cell) else (n, k)).lookup x = some k →
      names.lookup x = some k ∨ (k = .cell ∧ names.lookup x = some .free)
  | [], _, _, h => by simp at h
  | (n, k') :: r, x, k, h => by
    have ih := @lookup_relabel env r x k
    have h : List.lookup x ((if (k' == NameKind.free && env.scope.kind == .function && env.kindOf n == some .cell) = true then (n, NameKind.cell) else (n, k')) :: _) = some k := h
    by_cases hc : (k' == NameKind.free && env.scope.kind == .function && env.kindOf n == some .cell) = true
    · rw [if_pos hc] at h
      cases hx : x == n with
      | true =>
        simp only [List.lookup_cons, hx] at h ⊢
        cases h
        have : k' = .free := by
          rw [Bool.and_eq_true, Bool.and_eq_true] at hc
          simpa using hc.1.1
        subst this
        exact .inr ⟨rfl, rfl⟩
      | false =>
        simp only [List.lookup_cons, hx] at h ⊢
        exact ih h
    · rw [if_neg hc] at h
      cases hx : x == n with
      | true =>
        simp only [List.lookup_cons, hx] at h ⊢
        exact .inl h
      | false =>
        simp only [List.lookup_cons, hx] at h ⊢
        exact ih h

/-- a comprehension's scope: its own name x, the def's names R as it sees them (one that x hides is called otherwise) -/
def compChk (sc : Scope) (fk : Str → Option NameKind) (xs : List Str) (R N : List Str) : Bool :=
  decide (sc.kind = .function) && xs.all (fun x => sc.names.lookup x == some .local) &&
  sc.names.all (fun p => match p.2 with
    | .cell => false
    | .local => (xs.contains p.1 || p.1 == (".0" : Str)) && sc.names.lookup p.1 == some .local
    | .free => fk p.1 == some .cell || fk p.1 == some .free
    | _ => true) &&
  decide ((xs ++ R).Nodup) && !(R.contains (".0" : Str)) && R.length == N.length &&
  (R.zip N).all (fun p => p.1 == p.2 || sc.names.lookup p.1 != some .free)
structure CompScope (sc : Scope) (fk : Str → Option NameKind) (xs : List Str) (R N : List Str) : Prop where
  kind : sc.kind = .function
  own : ∀ x ∈ xs, sc.names.lookup x = some .local
  nocell : ∀ p ∈ sc.names, p.2 ≠ .cell
  locs : ∀ p ∈ sc.names, p.2 = .local → p.1 ∈ xs ∨ p.1 = (".0" : Str)
  lnames : ∀ p ∈ sc.names, p.2 = .local → sc.names.lookup p.1 = some .local
  free : ∀ p ∈ sc.names, p.2 = .free → fk p.1 = some .cell ∨ fk p.1 = some .free
  nd : (xs ++ R).Nodup
  no0 : (".0" : Str) ∉ R
  len : R.length = N.length
  same : ∀ (i : Nat) y, R[i]? = some y → sc.names.lookup y = some .free → N[i]? = some y
theorem CompScope.of {sc : Scope} {fk : Str → Option NameKind} {xs : List Str} {R N : List Str} (h : compChk sc fk xs R N = true) : CompScope sc fk xs R N := by
  unfold compChk at h
  simp only [Bool.and_eq_true, decide_eq_true_eq, List.all_eq_true, Bool.not_eq_true', beq_iff_eq] at h
  obtain ⟨⟨⟨⟨⟨⟨h1, h2⟩, h3⟩, h4⟩, h5⟩, h6⟩, h7⟩ := h
  refine ⟨h1, h2, fun p hp e => ?_, fun p hp e => ?_, fun p hp e => ?_, fun p hp e => ?_, h4, ?_, h6, fun i y hy hf => ?_⟩
  · have := h3 p hp; rw [e] at this; simp at this
  · have := h3 p hp; rw [e] at this; simp at this; exact this.1
  · have := h3 p hp; rw [e] at this; simp at this; exact this.2
  · have := h3 p hp; rw [e] at this; simp at this; exact this
  · intro hm
    have : R.contains (".0" : Str) = true := by simpa using hm
    rw [this] at h5; cases h5
  · obtain ⟨hi, e⟩ := List.getElem?_eq_some_iff.mp hy
    have hn : i < N.length := by rw [← h6]; exact hi
    have hz : (R[i], N[i]) ∈ R.zip N := by
      rw [List.mem_iff_getElem]
      exact ⟨i, by simp; omega, by simp⟩
    have := h7 _ hz
    simp only [Bool.or_eq_true, beq_iff_eq, bne_iff_ne, ne_eq] at this
    rcases this with q | q
    · rw [List.getElem?_eq_getElem hn, ← q, e]
    · rw [e] at q; exact absurd hf q

def compCx (X : Cx) (scope : Scope) (xs : List Str) (R : List Str) (fp : List Addr) (s : Shared) (H : Hp) (C : Addr) : Cx where
  prog := X.prog
  w := X.w
  K := X.K
  mg := X.mg
  base := X.base
  A := X.A
  N := xs ++ R
  s₀ := s
  H₀ := H
  env := compEnvC scope (capsOf X.env.cells scope.names []) C X.env
  outer := X.stack
  stack := X.stack
  ex := fp
  fn := fun _ => false
  calm := X.calm
  pn := []
  xe := fun _ _ => False

section
variable {X : Cx} {pins : List (Addr × Obj)} {σ : L2.St} {H : Hp} {s : Shared} {scope : Scope} {xs : List Str} {R : List Str} {fp : List Addr} {C : Addr}
theorem CompScope.cells (S : CompScope scope X.env.kindOf xs R X.N) (I : L2.Inv X pins σ H s) : ∀ p ∈ scope.names, p.2 = .free → ∃ c, X.env.cells.lookup p.1 = some c := fun p hp e => I.ok.has p.1 (S.free p hp e)
theorem caps_lookup (S : CompScope scope X.env.kindOf xs R X.N) (I : L2.Inv X pins σ H s) {y : Str} {c : Addr} (h : (capsOf X.env.cells scope.names []).lookup y = some c) : X.env.cells.lookup y = some c :=
  caps_mem scope.names [] (fun _ z => by cases z) (S.cells I) (y, c) (PySem.mem_of_lookup h)
theorem comp_inv {h4 : Heap} {m : Str → Option Value} {tk : Nat} (S : CompScope scope X.env.kindOf xs R X.N) (I : L2.Inv X pins σ H s) (hC : s.heap.objs.size ≤ C) (k : ∀ b o, s.heap.get? b = some o → h4.get? b = some o) (hn : h4.Ns C m)
    (hf : ∀ b ∈ fp, FpOk X pins H b) (hfl : ∀ b ∈ fp, b < s.heap.objs.size) : L2.Inv (compCx X scope xs R fp s H C) [] (List.replicate xs.length none ++ σ) H { s with heap := h4, toks := tk } := by
  have hkn : ∀ y kk, (relabel scope X.env).names.lookup y = some kk → (kk = .cell ∨ kk = .free) → scope.names.lookup y = some .free := fun y kk e hk => by
    rcases lookup_relabel e with q | q
    · rcases hk with z | z
      · subst z; exact absurd rfl (S.nocell _ (PySem.mem_of_lookup q))
      · subst z; exact q
    · exact q.2
  have hasc : ∀ y, scope.names.lookup y = some .free → ∃ c, (capsOf X.env.cells scope.names []).lookup y = some c := fun y e => by
    obtain ⟨c, hc⟩ := caps_has (cells := X.env.cells) scope.names [] y (PySem.mem_of_lookup e)
    exact lookup_some_of_mem hc
  refine ⟨⟨I.ok.mod, S.kind, I.ok.glob, I.ok.blt, hC, fun y z c h1 h2 => I.ok.inj y z c (caps_lookup S I h1) (caps_lookup S I h2), fun y hy => ?_, fun y c z => absurd (show false = true from z) Bool.false_ne_true, I.ok.hd, I.ok.frames, .inl rfl, fun b hb => ⟨?_, fun y c e => ?_⟩, I.bs, Nat.le_trans I.ok.bsz I.sz, fun b o e hb => ?_, fun b hb z => ?_, I.stack, I.stkFree⟩,
    rfl, I.bare, Un.kept k, ⟨m, hn, fun i y v h1 h2 h3 => ?_⟩, fun y c e => ?_, I.hok.fresh hC, fun y c e => I.freeC y c (caps_lookup S I e), fun p hp => absurd (show p ∈ ([] : List (Addr × Obj)) from hp) (by simp), I.hok.kept k, ?_⟩
  · rcases hy with e | e
    · exact hasc y (hkn y _ e (.inl rfl))
    · exact hasc y (hkn y _ e (.inr rfl))
  · exact Nat.ne_of_lt (Nat.lt_of_lt_of_le (hfl b hb) hC)
  · exact (hf b hb).2.2.2.2.1 y c (caps_lookup S I e)
  · rcases (hf b hb).2.2.2.1 with z | z
    · exact I.ok.noex b o e z
    · exact absurd (Nat.lt_of_lt_of_le (Heap.lt_size e) (Nat.le_trans I.ok.bsz z)) (Nat.lt_irrefl _)
  · rcases List.mem_cons.mp (I.stkSub b z) with e | e
    · exact (hf b hb).2.1 e
    · exact (hf b hb).2.2.1 e
  · by_cases hi : i < xs.length
    · exfalso
      rw [List.getElem?_append_left (by rw [List.length_replicate]; exact hi), List.getElem?_replicate, if_pos hi] at h2
      cases h2
    · obtain ⟨i, rfl⟩ : ∃ j, i = xs.length + j := ⟨i - xs.length, by omega⟩
      have h1 : R[i]? = some y := by
        have h1 : (xs ++ R)[xs.length + i]? = some y := h1
        rw [List.getElem?_append_right (by omega)] at h1
        simpa using h1
      have h2 : σ[i]? = some (some v) := by
        rw [List.getElem?_append_right (by rw [List.length_replicate]; omega)] at h2
        simpa using h2
      have hyR : y ∈ R := List.mem_of_getElem? h1
      have hf' : scope.names.lookup y = some .free ∧ ((relabel scope X.env).names.lookup y = some .cell ∨ (relabel scope X.env).names.lookup y = some .free) := by
        have h3 : (relabel scope X.env).names.lookup y = some .local ∨ (relabel scope X.env).names.lookup y = some .cell ∨ (relabel scope X.env).names.lookup y = some .free := h3
        rcases h3 with e | e | e
        · rcases lookup_relabel e with q | q
          · exfalso
            rcases S.locs _ (PySem.mem_of_lookup q) rfl with z | z
            · exact (List.nodup_append.mp S.nd).2.2 y z y hyR rfl
            · have z : y = (".0" : Str) := z
              rw [z] at hyR
              exact S.no0 hyR
          · exact absurd q.1 (by intro z; cases z)
        · exact ⟨hkn y _ e (.inl rfl), .inl e⟩
        · exact ⟨hkn y _ e (.inr rfl), .inr e⟩
      have hN := S.same i y h1 hf'.1
      have hk := S.free (y, .free) (PySem.mem_of_lookup hf'.1) rfl
      obtain ⟨mX, hnX, hl⟩ := I.loc
      have vis : Vis X.env.scope y := by
        rcases hk with z | z
        · exact .inr (.inl z)
        · exact .inr (.inr z)
      obtain ⟨u, r, l⟩ := hl i y v hN h2 vis
      refine ⟨u, r, .inr ⟨hf'.2, ?_⟩⟩
      rcases l with ⟨z, _⟩ | ⟨_, c, hc, o, ho, hod⟩
      · exfalso
        rcases hk with q | q
        · have q : X.env.kindOf y = some .cell := q
          rw [z] at q; cases q
        · have q : X.env.kindOf y = some .free := q
          rw [z] at q; cases q
      · obtain ⟨c', hc'⟩ := hasc y hf'.1
        have : c' = c := by
          have := caps_lookup S I hc'
          rw [hc] at this; exact (Option.some.inj this).symm
        subst this
        exact ⟨c', hc', o, k _ _ ho, hod⟩
  · obtain ⟨v, o, ho, hd⟩ := I.cell y c (caps_lookup S I e)
    exact ⟨v, o, k _ _ ho, hd⟩
  · show (List.replicate xs.length none ++ σ).length = (xs ++ R).length
    rw [List.length_append, List.length_append, List.length_replicate, I.len, S.len]
end

/-! ### the walk -/
def noErr (o : Out D) : Out D := match o with
  | .err _ _ => .bad
  | o => o
def compGo (t : Its) (gc : GT) (ge : GE) : List D → Rho → Mem → Out (List D)
  | [], ρ, M => if t.ok M then .ok [] M else .bad
  | d :: r, ρ, M => if t.ok M then
      match gc (some d :: ρ) M with
      | .ok true M1 => match ge (some d :: ρ) M1 with
        | .ok e M2 => (compGo t gc ge r ρ M2).bind fun es M3 => .ok (e :: es) M3
        | _ => .bad
      | .ok false M1 => compGo t gc ge r ρ M1
      | _ => .bad
    else .bad
/-- no test: always -/
def gAll : GT := fun _ M => .ok true M
/-- a target of its own: n names of the block's own -/
def compGoT (t : Its) (n : Nat) (sg : GG) (gc : GT) (ge : GE) : List D → Rho → Mem → Out (List D)
  | [], ρ, M => if t.ok M then .ok [] M else .bad
  | d :: r, ρ, M => if t.ok M then
      match sg d (List.replicate n none ++ ρ) with
      | none => .bad
      | some ρ1 => match gc ρ1 M with
        | .ok true M1 => match ge ρ1 M1 with
          | .ok e M2 => (compGoT t n sg gc ge r ρ M2).bind fun es M3 => .ok (e :: es) M3
          | _ => .bad
        | .ok false M1 => compGoT t n sg gc ge r ρ M1
        | _ => .bad
    else .bad
def gCompT (gi : GI) (n : Nat) (sg : GG) (gc : GT) (ge : GE) (mk : List D → Mem → Out D) : GE := fun ρ M => (gi ρ M).bind fun t M1 => (compGoT t n sg gc ge t.ds ρ M1).bind mk
theorem compGo_T (t : Its) (gc : GT) (ge : GE) : ∀ (ds : List D) (ρ : Rho) (M : Mem), compGo t gc ge ds ρ M = compGoT t 1 (oneN 0) gc ge ds ρ M
  | [], ρ, M => rfl
  | d :: r, ρ, M => by
    have ih := compGo_T t gc ge r
    unfold compGo compGoT
    show _ = (if t.ok M = true then (match gc (some d :: ρ) M with
        | .ok true M1 => match ge (some d :: ρ) M1 with
          | .ok e M2 => (compGoT t 1 (oneN 0) gc ge r ρ M2).bind fun es M3 => .ok (e :: es) M3
          | _ => .bad
        | .ok false M1 => compGoT t 1 (oneN 0) gc ge r ρ M1
        | _ => .bad) else .bad)
    simp only [ih]
/-- a target that gives the first n names alone -/
def OwnG (n : Nat) (sg : GG) : Prop := ∀ d ρ ρ', sg d ρ = some ρ' → ρ'.length = ρ.length ∧ ∀ i : Nat, n ≤ i → ρ'[i]? = ρ[i]?
theorem own_one {n i : Nat} (h : i < n) : OwnG n (oneN i) := fun d ρ ρ' e => by
  have e : some (ρ.set i (some d)) = some ρ' := e
  cases e
  exact ⟨by rw [List.length_set], fun j hj => by rw [List.getElem?_set_ne (by omega)]⟩
inductive OwnGs (n : Nat) : List GG → Prop
  | nil : OwnGs n []
  | cons {s : GG} {ss : List GG} : OwnG n s → OwnGs n ss → OwnGs n (s :: ss)
theorem OwnG.back {n : Nat} {sg : GG} {K : PySem.W.Frag} {θ : List Addr} {H : Hp} {τ : L2.St} {ρ ρ1 : Rho} {d : D} (o : OwnG n sg) (e : sg d (List.replicate n none ++ ρ) = some ρ1) (h : Den K θ H τ ρ1) : Den K θ H τ (List.replicate n none ++ ρ) := by
  obtain ⟨a, b⟩ := o _ _ _ e
  refine ⟨by rw [← a]; exact h.len, fun i d' q => ?_⟩
  by_cases hi : i < n
  · rw [List.getElem?_append_left (by rw [List.length_replicate]; exact hi), List.getElem?_replicate, if_pos hi] at q
    cases q
  · rw [← b i (by omega)] at q
    exact h.at_ i d' q
def gComp (gi : GI) (gc : GT) (ge : GE) (mk : List D → Mem → Out D) : GE := fun ρ M => (gi ρ M).bind fun t M1 => (compGo t gc ge t.ds ρ M1).bind mk

theorem compTurn_if (elt target iter : Expr) (ifs : List Expr) (scope : Scope) (pos : Pos) (it acc : Value) (env : Env) (cond : Sem Bool)
    (hc : (forIn (m := Sem) ifs true fun c r => if r = true then do let ok ← isTrue c env (eval c env); pure (ForInStep.yield ok) else pure (ForInStep.yield r)) = cond) :
    compTurn (.ListComp elt [⟨target, iter, ifs, 0⟩] scope pos) 0 it acc env = (standAt iter.pos >>= fun _ => pyNext it >>= fun r => match r with
      | none => pure (.done .next)
      | some v => letOwnedTupleGo target it v >>= fun _ => assign target env v >>= fun _ => cond >>= fun ok =>
        if ok = true then ((eval elt env >>= fun x => call (.builtin "list.append") [acc, x] >>= fun _ => pure ()) >>= fun _ =>
          again (.compLoop (.ListComp elt [⟨target, iter, ifs, 0⟩] scope pos) 0 it acc env)) else again (.compLoop (.ListComp elt [⟨target, iter, ifs, 0⟩] scope pos) 0 it acc env)) := by
  subst hc
  rfl
end DL

set_option Elab.async false
set_option linter.all false
set_option maxRecDepth 100000
set_option maxHeartbeats 4000000
/-! The data layer, fifth part: list comprehensions, the loop. -/
namespace DL
open PySem PySem.Spec PyProof.Rows L2

section
variable {prog : Program} {w : World} {A : Around} {R : Result → Shared → Prop} {s : Shared}
theorem codeAny_compLoop_any {elt target iter : Expr} {ifs : List Expr} {scope : Scope} {pos : Pos} {it acc : Value} {env : Env} {cond : Sem Bool}
    (hc : (forIn (m := Sem) ifs true fun c r => if r = true then do let ok ← isTrue c env (eval c env); pure (ForInStep.yield ok) else pure (ForInStep.yield r)) = cond) (I : Nat → Shared → Prop)
    (turn : ∀ n s, I n s → wpAny (model prog w) A (pyNext it) (fun r s₁ => match r with
      | none => R (.ok .next) s₁
      | some v => wpAny (model prog w) A (letOwnedTupleGo target it v) (fun _ s₂ => wpAny (model prog w) A (assign target env v) (fun _ s₃ => wpAny (model prog w) A cond (fun ok s₄ => if ok = true then
          wpAny (model prog w) A (eval elt env) (fun x s₅ => wpAny (model prog w) A (call (.builtin "list.append") [acc, x]) (fun _ s₆ => ∃ m, m < n ∧ I m s₆) (fun _ _ => False) s₅) (fun _ _ => False) s₄
          else ∃ m, m < n ∧ I m s₄) (fun _ _ => False) s₃) (fun _ _ => False) s₂) (fun _ _ => False) s₁) (fun _ _ => False) s)
    (n : Nat) (h : I n s) : codeAny (model prog w) A (.compLoop (.ListComp elt [⟨target, iter, ifs, 0⟩] scope pos) 0 it acc env) R s := by
  refine codeAny_loop rfl I (fun n s hI => ?_) n h
  show wpAny _ _ ((compTurn (.ListComp elt [⟨target, iter, ifs, 0⟩] scope pos) 0 it acc env).onRaise (fun x => do noteFrame x env; theTreesLotGoes x)) _ _ s
  refine wpAny_noted ?_
  rw [compTurn_if _ _ _ _ _ _ _ _ _ _ hc]
  refine wpAny_bind (wpAny_standAt (wpAny_bind (wpAny_mono (turn n s hI) (fun r s₁ h₁ => ?_) fun _ _ z => z.elim)))
  cases r with
  | none => exact wpAny_pure h₁
  | some v =>
    refine wpAny_bind (wpAny_mono h₁ (fun _ s₂ h₂ => ?_) fun _ _ z => z.elim)
    refine wpAny_bind (wpAny_mono h₂ (fun _ s₃ h₃ => ?_) fun _ _ z => z.elim)
    refine wpAny_bind (wpAny_mono h₃ (fun ok s₄ h₄ => ?_) fun _ _ z => z.elim)
    cases ok with
    | true =>
      rw [if_pos rfl] at h₄
      rw [if_pos rfl]
      exact wpAny_bind (wpAny_bind (wpAny_mono h₄ (fun x s₅ h₅ => wpAny_bind (wpAny_mono h₅ (fun _ s₆ h₆ => wpAny_pure (wpAny_pure ⟨rfl, h₆⟩)) fun _ _ z => z.elim)) fun _ _ z => z.elim))
    | false =>
      rw [if_neg Bool.false_ne_true] at h₄
      rw [if_neg Bool.false_ne_true]
      exact wpAny_pure ⟨rfl, h₄⟩
theorem tests_none {env : Env} : (forIn (m := Sem) ([] : List Expr) true fun c r => if r = true then do let ok ← isTrue c env (eval c env); pure (ForInStep.yield ok) else pure (ForInStep.yield r)) = pure true := rfl
end

theorem ne_succ {b a c : Nat} (h : b < a) (e : c = a + 1) : b ≠ c := by omega
theorem ne_ltE {b a c : Nat} (h : b < c) (e : c = a) : a ≠ b := by omega
theorem ne_ltE' {b a c : Nat} (h : b < c) (e : c = a) : b ≠ a := by omega
abbrev lstObj (its : List Value) (n : Nat) : Obj := { cls := .type "list", data := .seq its.toArray n }
section
variable {X : Cx} {pins : List (Addr × Obj)} {σ : L2.St} {s : Shared} {scope : Scope} {xs : List Str} {tg : Expr} {sg : GG} {R : List Str} {elt iter : Expr} {ifs : List Expr} {pos : Pos} {E : Value → Shared → Prop}
theorem den_pre {K : PySem.W.Frag} {θ : List Addr} {H : Hp} {σ : L2.St} {ρ : Rho} {n : Nat} (h : Den K θ H σ ρ) : Den K θ H (List.replicate n none ++ σ) (List.replicate n none ++ ρ) := by
  refine ⟨by rw [List.length_append, List.length_append, List.length_replicate, List.length_replicate, h.len], fun i d e => ?_⟩
  by_cases hi : i < n
  · rw [List.getElem?_append_left (by rw [List.length_replicate]; exact hi), List.getElem?_replicate, if_pos hi] at e
    cases e
  · rw [List.getElem?_append_right (by rw [List.length_replicate]; omega), List.length_replicate] at e ⊢
    exact h.at_ _ d e
/-- the block: a new list, filled; fin: what is behind it -/
theorem comp_block {fp : List Addr} {it : Addr} {tn : Nat → Heap → Prop} {J : It} {H2 : Hp} {s2 : Shared} {t : Its} {M1 : Mem} {θ1 : List Addr} {ρ : Rho} {gc : GT} {ge : GE} {es : List D} {Mend : Mem} {RR : Value → Addr → Result → Shared → Prop}
    (S : CompScope scope X.env.kindOf xs R X.N) (hc : X.calm = true) (I2 : L2.Inv X pins σ H2 s2) (T : Turn X.prog X.w X.K tg J fp it tn) (st2 : tn 0 s2.heap) (f2 : ∀ b ∈ fp, FpOk X pins H2 b)
    (hw1 : Wr X.K θ1 H2 M1) (hd1 : Den X.K θ1 H2 σ ρ) (hJ : ItD X.K J θ1 H2 t) (hgo : compGoT t xs.length sg gc ge t.ds ρ M1 = .ok es Mend) (hlen : es.length ≤ sizeLine)
    (hcd : ∀ C, ∃ cond, (forIn (m := Sem) ifs true fun c r => if r = true then do let ok ← isTrue c (compCx X scope xs R fp s2 H2 C).env (eval c (compCx X scope xs R fp s2 H2 C).env); pure (ForInStep.yield ok) else pure (ForInStep.yield r)) = cond ∧
      ∀ (pins : List (Addr × Obj)) (s : Shared) (σ : L2.St) (H : Hp) (Q : Bool → Hp → Prop), L2.Inv (compCx X scope xs R fp s2 H2 C) pins σ H s → tT (compCx X scope xs R fp s2 H2 C) gc σ H Q → wpAny (model X.prog X.w) X.A cond (TP (compCx X scope xs R fp s2 H2 C) pins σ Q) (fun _ _ => False) s)
    (own : OwnG xs.length sg) (hg : ∀ C, PG (compCx X scope xs R fp s2 H2 C) tg (tG (compCx X scope xs R fp s2 H2 C) sg))
    (he : ∀ C, PE (compCx X scope xs R fp s2 H2 C) elt (tE (compCx X scope xs R fp s2 H2 C) ge))
    (fin : ∀ (acc C : Addr) (s' : Shared) (H' : Hp) (θ' : List Addr) (vs : List V) (m : Str → Option Value), L2.Inv X pins σ (upd H' acc (.lst vs)) s' → s'.heap.Ns C m → FpOk X pins (upd H' acc (.lst vs)) C → Go X.K θ1 H2 θ' H' Mend → H' acc = none → isDs X.K θ' H' es vs → RR (.ref acc) C (.ok .next) s') :
    wpAny (model X.prog X.w) X.A (newList []) (fun acc s₃ => wpAny (model X.prog X.w) X.A (newFunctionEnv scope X.env.globals (capsOf X.env.cells scope.names []) [] X.env.qual none .none (some X.env)) (fun cenv s₄ =>
      codeAny (model X.prog X.w) X.A (.compStart (.ListComp elt [⟨tg, iter, ifs, 0⟩] scope pos) 0 (.ref it) acc { cenv with scope := relabel scope X.env }) (RR acc cenv.locals) s₄) E s₃) E s2 := by
  refine wpAny_newObj_type (wpAny_newFunctionEnv S.nocell (by intro y hy; simp at hy) (fun h₁ hns₁ hsb₁ => ?_) S.kind)
  dsimp only at hns₁ hsb₁ ⊢
  generalize hHp : s2.heap.push { cls := .type "list", dict := none, data := .seq ([] : List Value).toArray } = Hp2 at hns₁ hsb₁ ⊢
  have hCe : Hp2.objs.size = s2.heap.objs.size + 1 := by rw [← hHp, Heap.size_push]
  generalize hCd : Hp2.objs.size = C at hns₁ hsb₁ hCe ⊢
  generalize hAd : s2.heap.objs.size = acc at hCe ⊢
  have hDC : acc ≠ C := by rw [hCe]; exact Nat.ne_of_lt (Nat.lt_succ_self _)
  have old : ∀ b o, s2.heap.get? b = some o → h₁.get? b = some o := fun b o e => by
    have hb : b < acc := by rw [← hAd]; exact Heap.lt_size e
    refine hsb₁.extBut b o (ne_succ hb hCe) (Heap.get?_push_of_some _ ?_)
    rw [← hHp]; exact Heap.get?_push_of_some _ e
  have hacc0 : h₁.get? acc = some (lstObj [] 0) := by
    refine hsb₁.extBut acc _ hDC (Heap.get?_push_of_some _ ?_)
    rw [← hHp, ← hAd]; exact Heap.get?_push_size _ rfl
  have hfl : ∀ b ∈ fp, b < s2.heap.objs.size := fun b hb => by
    obtain ⟨o, e, _⟩ := T.obj 0 _ st2 b hb
    exact Heap.lt_size e
  have hCs : s2.heap.objs.size ≤ C := by omega
  have IY0 : L2.Inv (compCx X scope xs R fp s2 H2 C) [] (List.replicate xs.length none ++ σ) H2 { s2 with heap := h₁, toks := s2.toks + ([] : List (Str × Value)).length } := comp_inv S I2 hCs old hns₁ f2 hfl
  obtain ⟨cond, hcond, hct⟩ := hcd C
  -- what is true of the iterator's objects within the block
  have fpY : ∀ {H' : Hp} {p : Obj}, (∀ b ∈ fp, H' b = none) → ∀ b ∈ fp, FpOk (compCx X scope xs R fp s2 H2 C) [(acc, p)] H' b := fun {H' p} hn b hb => by
    refine ⟨hn b hb, ?_, fun z => ?_, .inl hb, fun y c e => ?_, fun q hq => ?_⟩
    · exact Nat.ne_of_lt (Nat.lt_of_lt_of_le (hfl b hb) hCs)
    · rcases List.mem_cons.mp (I2.stkSub b z) with e | e
      · exact (f2 b hb).2.1 e
      · exact (f2 b hb).2.2.1 e
    · exact (f2 b hb).2.2.2.2.1 y c (caps_lookup S I2 e)
    · have hq : q ∈ ([] : List (Addr × Obj)) ++ [(acc, p)] := hq
      have e : q = (acc, p) := by simpa using hq
      rw [e]
      exact ne_ltE (hfl b hb) hAd
  have accF : ∀ b ∈ frs X.stack, acc ≠ b := fun b hb e => by
    have : acc ∉ X.env.locals :: X.fs := by
      intro z
      rcases List.mem_cons.mp z with z | z
      · exact ne_ltE I2.lt hAd z
      · exact I2.nofs (Nat.le_of_eq hAd) z
    exact this (e ▸ I2.stkSub b hb)
  have loop : ∀ s₃ : Shared, s₃ = { s2 with heap := h₁, toks := s2.toks + ([] : List (Str × Value)).length } →
      codeAny (model X.prog X.w) X.A (.compLoop (.ListComp elt [⟨tg, iter, ifs, 0⟩] scope pos) 0 (.ref it) (.ref acc) (compCx X scope xs R fp s2 H2 C).env) (RR (.ref acc) C) s₃ := by
    rintro s₃ rfl
    have pin0 : ∀ {σ' : L2.St} {H' : Hp} {s' : Shared} {its : List Value} {n : Nat}, L2.Inv (compCx X scope xs R fp s2 H2 C) [] σ' H' s' → s'.heap.get? acc = some (lstObj its n) → H' acc = none → L2.Inv (compCx X scope xs R fp s2 H2 C) [(acc, lstObj its n)] σ' H' s' := fun {σ' H' s' its n} I' e hn =>
      I'.pins_of fun p hp => by
        have ep : p = (acc, lstObj its n) := by simpa using hp
        subst ep
        exact ⟨e, hn, hDC, fun z => accF acc z rfl, fun v z => by cases z⟩
    refine codeAny_compLoop_any hcond (fun n s' => ∃ (i : Nat) (τ : L2.St) (H' : Hp) (θ' : List Addr) (M' : Mem) (ds rest : List D) (vs : List V) (its : List Value) (na : Nat), n = t.ds.length - i ∧ i ≤ t.ds.length ∧
      L2.Inv (compCx X scope xs R fp s2 H2 C) [(acc, lstObj its na)] τ H' s' ∧ Den X.K θ' H' τ (List.replicate xs.length none ++ ρ) ∧ tn i s'.heap ∧ (∀ b ∈ fp, H' b = none) ∧ Go X.K θ1 H2 θ' H' M' ∧ isDs X.K θ' H' ds vs ∧ Vals vs its ∧
      compGoT t xs.length sg gc ge (t.ds.drop i) ρ M' = .ok rest Mend ∧ ds ++ rest = es) ?_ t.ds.length
      ⟨0, _, H2, θ1, M1, [], es, [], [], 0, rfl, Nat.zero_le _, pin0 IY0 hacc0 (I2.hok.fresh (Nat.le_of_eq hAd)), den_pre hd1, T.keep 0 _ _ st2 (fun b hb o e => old b o e), fun b hb => (f2 b hb).1, .refl hw1, rfl, .nil, hgo, rfl⟩
    rintro n s' ⟨i, τ, H', θ', M', ds, rest, vs, its, na, rfl, hil, I', dn', st', fr', g', rd', rv', hrest, hes⟩
    have hok : t.ok M' = true := by
      cases hq : t.ok M' with
      | true => rfl
      | false =>
        exfalso
        cases hdr : t.ds.drop i with
        | nil => rw [hdr, compGoT, if_neg (by rw [hq]; exact Bool.false_ne_true)] at hrest; cases hrest
        | cons d r => rw [hdr, compGoT, if_neg (by rw [hq]; exact Bool.false_ne_true)] at hrest; cases hrest
    obtain ⟨hy, hst⟩ := hJ θ' H' M' g' hok i
    by_cases hlt : i < t.ds.length
    · have e1 : t.ds[i]? = some t.ds[i] := List.getElem?_eq_getElem hlt
      obtain ⟨hgo', hyl⟩ := hy _ e1
      rw [List.drop_eq_getElem_cons hlt, compGoT, if_pos hok] at hrest
      refine thn (T.item (compCx X scope xs R fp s2 H2 C) rfl rfl rfl hc i _ s' _ H' _ I' (fpY fr') st' hgo') fun r s4 ⟨u, hr, h4⟩ => ?_
      subst hr
      refine thn h4 fun _ s5 ⟨v, H5, I5, r5, y5, st5, fr5⟩ => ?_
      obtain ⟨gy, rx⟩ := hyl v H5 y5
      have I5' := I5.pinned (fpY fr5) (T.obj _ _ st5)
      cases qs : sg t.ds[i] (List.replicate xs.length none ++ ρ) with
      | none => rw [qs] at hrest; cases hrest
      | some ρ1 =>
      rw [qs] at hrest
      dsimp only at hrest
      refine thn (hg C _ s5 _ H5 v u (fun σ6 H6 => Den X.K θ' H6 σ6 ρ1 ∧ H6 = H5) I5' r5 ⟨_, θ', M', t.ds[i], dn'.go gy, gy.wr, rx, ρ1, qs, fun σ6 d6 => ⟨d6, rfl⟩⟩) fun _ s6 ⟨σ6, H6, I6, hdY, eH6⟩ => ?_
      subst eH6
      -- the test
      cases qc : gc ρ1 M' with
      | bad => rw [qc] at hrest; cases hrest
      | err c Mx => rw [qc] at hrest; cases hrest
      | ok b Mb =>
        refine thn (hct _ s6 _ H6 (fun b' H7 => b' = b ∧ ∃ θ7, Go X.K θ' H6 θ7 H7 Mb) I6 ⟨_, θ', M', hdY, gy.wr, ?_⟩) fun ok s7 ⟨H7, I7, eb, θ7, g7⟩ => ?_
        · rw [qc]; exact fun θ7 H7 g7 => ⟨rfl, θ7, g7⟩
        subst eb
        have fpk : ∀ {s8 : Shared} {σ8 : L2.St} {H8 : Hp}, L2.Inv (compCx X scope xs R fp s2 H2 C) ([(acc, lstObj its na)] ++ pinsAt fp s5.heap) σ8 H8 s8 → (∀ b ∈ fp, H8 b = none) ∧ (∀ b ∈ fp, ∀ o, s5.heap.get? b = some o → s8.heap.get? b = some o) ∧ s8.heap.get? acc = some (lstObj its na) ∧ H8 acc = none := fun {s8 σ8 H8} I8 => by
          have pa := I8.pin (acc, lstObj its na) (List.mem_append_right _ (List.mem_append_left _ (by simp)))
          refine ⟨fun b hb => ?_, fun b hb o e => (I8.pin (b, o) (List.mem_append_right _ (List.mem_append_right _ (mem_pinsAt hb e)))).1, pa.1, pa.2.1⟩
          obtain ⟨o, e, d⟩ := T.obj _ _ st5 b hb
          exact (I8.pin (b, o) (List.mem_append_right _ (List.mem_append_right _ (mem_pinsAt hb e)))).2.1
        cases ok with
        | false =>
          rw [if_neg Bool.false_ne_true]
          rw [qc] at hrest
          obtain ⟨k1, k2, k3, k4⟩ := fpk I7
          exact ⟨t.ds.length - (i + 1), by omega, i + 1, σ6, H7, θ7, Mb, ds, rest, vs, its, na, rfl, hlt, I7.unpinned, own.back qs (hdY.go g7), T.keep _ _ _ st5 k2, k1, g'.trans (gy.trans g7), rd'.go (gy.trans g7), rv', hrest, hes⟩
        | true =>
          rw [if_pos rfl]
          rw [qc] at hrest
          have hrest : (match ge ρ1 Mb with
            | .ok e M2 => (compGoT t xs.length sg gc ge (t.ds.drop (i + 1)) ρ M2).bind fun es M3 => .ok (e :: es) M3
            | _ => .bad) = Out.ok rest Mend := hrest
          cases qe : ge ρ1 Mb with
          | bad => rw [qe] at hrest; cases hrest
          | err c Mx => rw [qe] at hrest; cases hrest
          | ok dv Mv =>
            rw [qe] at hrest
            have hrest : ((compGoT t xs.length sg gc ge (t.ds.drop (i + 1)) ρ Mv).bind fun es M3 => Out.ok (dv :: es) M3) = Out.ok rest Mend := hrest
            refine thn (he C _ s7 _ H7 (fun w H8 => ∃ θ8, Go X.K θ7 H7 θ8 H8 Mv ∧ isD X.K θ8 H8 dv w) I7 ⟨_, θ7, Mb, hdY.go g7, g7.wr, ?_⟩) fun uv s8 ⟨w, H8, I8, rw8, θ8, g8, rd8⟩ => ?_
            · rw [qe]; exact fun w θ8 H8 g8 rd8 => ⟨θ8, g8, rd8⟩
            obtain ⟨k1, k2, k3, k4⟩ := fpk I8
            cases qr : compGoT t xs.length sg gc ge (t.ds.drop (i + 1)) ρ Mv with
            | bad => rw [qr] at hrest; cases hrest
            | err c Mx => rw [qr] at hrest; cases hrest
            | ok rest' Mr =>
              rw [qr] at hrest
              have hrest : Out.ok (dv :: rest') Mr = Out.ok rest Mend := hrest
              cases hrest
              have hsz : its.length < sizeLine := by
                have e2 : (ds ++ dv :: rest').length ≤ sizeLine := by rw [hes]; exact hlen
                rw [List.length_append, List.length_cons, isDs_length rd', rv'.length] at e2
                omega
              refine call_meets F.slot_list_append ⟨_, k3, rfl⟩ F.entry_list_append (F.args_list_append_2 _ _) (PySem.list_append acc its.toArray na uv (by rw [List.size_toArray]; omega)) ⟨k3, ?_⟩
              have qup := PySem.IsL.update k3 (fun a => a.push uv)
              have eup : (its.toArray.push uv) = (its ++ [uv]).toArray := by simp
              have keepb : ∀ b o, b ≠ acc → s8.heap.get? b = some o → (s8.heap.update acc (Obj.mapSeq fun a => a.push uv)).get? b = some o := fun b o hb e => (Heap.get?_update_other s8.heap _ (Ne.symm hb)).trans e
              have I9 : L2.Inv (compCx X scope xs R fp s2 H2 C) [] σ6 H8 { s8 with heap := s8.heap.update acc (Obj.mapSeq fun a => a.push uv), toks := s8.toks } := by
                refine Inv.turned (it := acc) (I8.pins_of (pins' := []) fun p hp => absurd hp (by simp)) keepb k4 hDC (.inr (Nat.le_of_eq hAd)) (fun y c e z => ?_) fun p hp => absurd (show p ∈ ([] : List (Addr × Obj)) from hp) (by simp)
                obtain ⟨v', o, ho, hdd⟩ := I2.cell y c (caps_lookup S I2 e)
                exact ne_ltE' (Heap.lt_size ho) hAd z
              obtain ⟨n', eq'⟩ : ∃ n', (s8.heap.update acc (Obj.mapSeq fun a => a.push uv)).get? acc = some (lstObj (its ++ [uv]) n') := by
                have q2 := qup
                rw [eup] at q2
                exact ⟨_, q2⟩
              exact ⟨t.ds.length - (i + 1), by omega, i + 1, σ6, H8, θ8, Mv, ds ++ [dv], rest', vs ++ [w], its ++ [uv], n', rfl, hlt, pin0 I9 eq' k4, own.back qs (hdY.go (g7.trans g8)), T.keep _ _ _ st5 (fun b hb o e => keepb b o (ne_ltE' (hfl b hb) hAd) (k2 b hb o e)), k1, g'.trans (gy.trans (g7.trans g8)), isDs_append (rd'.go (gy.trans (g7.trans g8))) ⟨w, [], rfl, rd8, rfl⟩, rv'.append (.cons rw8 .nil), qr, by rw [← hes]; simp⟩
    · have e : i = t.ds.length := by omega
      subst e
      rw [List.drop_length, compGoT, if_pos hok] at hrest
      cases hrest
      have hes : ds = es := by rw [← hes]; simp
      subst hes
      refine thn (T.done (compCx X scope xs R fp s2 H2 C) rfl rfl rfl hc _ _ s' _ H' _ I' (fpY fr') st' (hst (Nat.le_refl _))) fun r s4 ⟨hr, I4⟩ => ?_
      subst hr
      have pa := I4.pin (acc, lstObj its na) (List.mem_append_right _ (by simp))
      have e4 : s4.heap.get? acc = some (lstObj its na) := pa.1
      have n4 : H' acc = none := pa.2.1
      have lv : vs.length ≤ sizeLine := by rw [← isDs_length rd']; exact hlen
      obtain ⟨mC, hnC, _⟩ := I4.loc
      have hHC : H' C = none := I4.free
      have unb : Un (frs X.stack) fp H2 H' s2.heap s4.heap := I4.base
      have neA : ∀ {b : Addr} {o : Obj}, s2.heap.get? b = some o → b ≠ acc := fun {b o} e => ne_ltE' (Heap.lt_size e) hAd
      have neH : ∀ {b : Addr} {u : HO}, H' b = some u → b ≠ acc := fun {b u} e z => by rw [z, n4] at e; cases e
      have un4 : Un (frs X.stack) fp H2 (upd H' acc (.lst vs)) s2.heap s4.heap := by
        refine ⟨unb.keep, unb.slot, fun b o e n hx => ?_, unb.there, fun b xs e => ?_, fun b o u e => ?_, fun b ps e => ?_⟩
        · rw [upd_ne (neA e)]; exact unb.free b o e n hx
        · have z := unb.tups b xs e
          rw [upd_ne (neH z)]; exact z
        · have z := unb.frzs b o u e
          rw [upd_ne (neH z)]; exact z
        · obtain ⟨more, z⟩ := unb.tbls b ps e
          exact ⟨more, by rw [upd_ne (neH z)]; exact z⟩
      have hok4 : HOk X.prog X.w (upd H' acc (.lst vs)) s4.heap := fun b u e => by
        by_cases hb : b = acc
        · subst hb
          rw [upd_same] at e; cases e
          exact ⟨lv, its, na, rv', e4⟩
        · rw [upd_ne hb] at e
          exact (I4.hok b u e).stay (fun c v _ q => q) (fun c q => by rw [upd_ne (neH q)]; exact q) fun c xs q => by rw [upd_ne (neH q)]; exact q
      have IX : L2.Inv X pins σ (upd H' acc (.lst vs)) s4 := I2.call' (ch := fp) I4.os un4 hok4 I4.bare fun b hb => ⟨(f2 b hb).2.2.2.1, (f2 b hb).2.1, (f2 b hb).2.2.2.2.1, (f2 b hb).2.2.2.2.2⟩
      refine fin acc C s4 H' θ' vs mC IX hnC (I2.fpOk hCs ?_) g' n4 rd'
      rw [upd_ne (Ne.symm hDC)]; exact hHC
  exact codeAny_compStart_list (loop _ rfl) (T.self _ 0 _ _ _ (T.keep 0 _ _ st2 fun b hb o e => old b o e) (loop _ rfl))
end
end DL

set_option Elab.async false
set_option linter.all false
set_option maxRecDepth 100000
set_option maxHeartbeats 4000000
/-! The data layer, sixth part: comprehensions as expressions and as values of a name; all, isinstance; methods of lists; what a def leaves behind. -/
namespace DL
open PySem PySem.Spec PyProof.Rows L2

section
variable {X : Cx} {scope : Scope} {xs : List Str} {tg : Expr} {sg : GG} {x : Str} {px : Pos} {R : List Str} {elt iter : Expr} {ifs : List Expr} {pos : Pos} {gi : GI} {gc : GT} {ge : GE}
/-- what a list that a comprehension makes is: it stays, or it may change -/
def MkOk (mk : List D → Mem → Out D) : Prop := ∀ (X : Cx) (θ : List Addr) (H : Hp) (Q : VK) (ds : List D) (M : Mem) (vs : List V), FinE X θ H Q (mk ds M) → Wr X.K θ H M → isDs X.K θ H ds vs → vs.length ≤ sizeLine ∧ ∀ p, H p = none → Q (.ref p) (upd H p (.lst vs))
theorem mkLst_ok : MkOk mkLst := fun X θ H Q ds M vs h hw r => FinE.lst h hw r
theorem mkMut_ok : MkOk mkMut := fun X θ H Q ds M vs h hw r => FinE.mut h hw r
theorem mk_len {mk : List D → Mem → Out D} (hm : mk = mkLst ∨ mk = mkMut) {X : Cx} {θ : List Addr} {H : Hp} {Q : VK} {ds : List D} {M : Mem} (h : FinE X θ H Q (mk ds M)) : ds.length ≤ sizeLine := by
  rcases hm with e | e <;> subst e
  · unfold mkLst at h
    split at h
    · assumption
    · exact h.elim
  · unfold mkMut at h
    split at h
    · assumption
    · exact h.elim
theorem mk_ok {mk : List D → Mem → Out D} (hm : mk = mkLst ∨ mk = mkMut) : MkOk mk := by
  rcases hm with e | e <;> subst e
  · exact mkLst_ok
  · exact mkMut_ok
/-- how the tests of a comprehension are read -/
def TestsOk (X : Cx) (scope : Scope) (xs : List Str) (R : List Str) (ifs : List Expr) (gc : GT) : Prop := ∀ fp s2 H2 C, ∃ cond, (forIn (m := Sem) ifs true fun c r => if r = true then do let ok ← isTrue c (compCx X scope xs R fp s2 H2 C).env (eval c (compCx X scope xs R fp s2 H2 C).env); pure (ForInStep.yield ok) else pure (ForInStep.yield r)) = cond ∧
      ∀ (pins : List (Addr × Obj)) (s : Shared) (σ : L2.St) (H : Hp) (Q : Bool → Hp → Prop), L2.Inv (compCx X scope xs R fp s2 H2 C) pins σ H s → tT (compCx X scope xs R fp s2 H2 C) gc σ H Q → wpAny (model X.prog X.w) X.A cond (TP (compCx X scope xs R fp s2 H2 C) pins σ Q) (fun _ _ => False) s
theorem no_tests : TestsOk X scope xs R [] gAll := fun fp s2 H2 C => ⟨_, tests_none, fun pins s σ H Q I ⟨ρ, θ, M, hd, hw, h⟩ => wpAny_pure ⟨H, I, h θ H (.refl hw)⟩⟩
theorem comp_noerr {t : Its} {n : Nat} {sg : GG} {gc : GT} {ge : GE} {ρ : Rho} {c : Str} {M' : Mem} : ∀ (ds : List D) (M : Mem), compGoT t n sg gc ge ds ρ M = .err c M' → False
  | [], M, h => by
    unfold compGoT at h
    split at h <;> cases h
  | d :: r, M, h => by
    unfold compGoT at h
    split at h
    · split at h
      · cases h
      · split at h
        · rename_i M1 q1
          split at h
          · rename_i e M2 q2
            cases q : compGoT t n sg gc ge r ρ M2 with
            | ok es M3 => rw [q] at h; cases h
            | err c2 M3 => exact comp_noerr r M2 q
            | bad => rw [q] at h; cases h
          · cases h
        · rename_i M1 q1
          exact comp_noerr r M1 h
        · cases h
    · cases h
theorem de_compT {mk : List D → Mem → Out D} (hS : compChk scope X.env.kindOf xs R X.N = true) (hc : X.calm = true) (hm : mk = mkLst ∨ mk = mkMut) (hi : PI X tg iter (tI X gi)) (own : OwnG xs.length sg) (hg : ∀ fp s H C, PG (compCx X scope xs R fp s H C) tg (tG (compCx X scope xs R fp s H C) sg)) (hts : TestsOk X scope xs R ifs gc)
    (he : ∀ fp s H C, PE (compCx X scope xs R fp s H C) elt (tE (compCx X scope xs R fp s H C) ge))
    (hs : ∀ x, foldedSetIterable iter X.env x = pure x := by intro _; rfl) : PE X (.ListComp elt [⟨tg, iter, ifs, 0⟩] scope pos) (tE X (gCompT gi xs.length sg gc ge mk)) := by
  have S := CompScope.of hS
  intro pins s σ H Q I h
  obtain ⟨ρ, θ, M, hd, hw, h⟩ := h
  rw [eval_ListComp]
  refine wpAny_comprehension_free (use := none) rfl hs (closure_caps (S.cells I)) S.kind S.lnames ?_
  refine thn (hi pins s σ H (fun J H2 => ∃ t M1 θ1, gi ρ M = .ok t M1 ∧ Go X.K θ H θ1 H2 M1 ∧ ItD X.K J θ1 H2 t) I ⟨ρ, θ, M, hd, hw, ?_⟩) fun v s1 h1 => thn h1 fun itv s2 h2 => ?_
  · cases q : gi ρ M with
    | ok t M1 => exact fun J θ1 H1 g1 hJ => ⟨t, M1, θ1, rfl, g1, hJ⟩
    | err c M1 => unfold gCompT at h; rw [q] at h; exact h
    | bad => unfold gCompT at h; rw [q] at h; exact h
  obtain ⟨it, fp, tn, J, H2, rfl, I2, T, st2, f2, t, M1, θ1, eg, g1, hJ⟩ := h2
  unfold gCompT at h
  rw [eg] at h
  have h : FinE X θ H Q ((compGoT t xs.length sg gc ge t.ds ρ M1).bind mk) := h
  cases q : compGoT t xs.length sg gc ge t.ds ρ M1 with
  | bad => rw [q] at h; exact h.elim
  | err c Mx => exact (comp_noerr _ _ q).elim
  | ok es Mend =>
    rw [q] at h
    have h : FinE X θ H Q (mk es Mend) := h
    refine comp_block (RR := fun acc C => compPost (model X.prog X.w) X.A X.xe none (EP X pins σ Q) acc C) S hc I2 T st2 f2 g1.wr (hd.go g1) hJ q (mk_len hm h) (fun C => hts fp s2 H2 C) own (fun C => hg fp s2 H2 C) (fun C => he fp s2 H2 C) ?_
    intro acc C s' H' θ' vs m IX hnC fC g' na rd
    refine ⟨m, hnC, fun h' sb => ?_⟩
    have I3 : L2.Inv X pins σ (upd H' acc (.lst vs)) { s' with heap := h', toks := s'.toks } := IX.turned (it := C) (fun b o hb e => (sb.2 b hb).trans e) fC.1 fC.2.1 fC.2.2.2.1 fC.2.2.2.2.1 fC.2.2.2.2.2
    exact ⟨.ref acc, _, I3, rfl, (mk_ok hm X θ' H' Q es Mend vs (FinE.go (g1.trans g') h) g'.wr rd).2 acc na⟩
theorem name_pg {px : Pos} (hS : compChk scope X.env.kindOf [x] R X.N = true) (fp : List Addr) (s : Shared) (H : Hp) (C : Addr) : PG (compCx X scope [x] R fp s H C) (.Name x px) (tG (compCx X scope [x] R fp s H C) (oneN 0)) :=
  have S := CompScope.of hS
  dg_name (X := compCx X scope [x] R fp s H C) S.nd rfl (.inl (lookup_relabel_local (S.own x (by simp)))) (.inr (lookup_relabel_local (S.own x (by simp))))
theorem gComp_T (mk : List D → Mem → Out D) : gComp gi gc ge mk = gCompT gi 1 (oneN 0) gc ge mk := by
  funext ρ M
  unfold gComp gCompT
  simp only [compGo_T]
theorem de_comp {mk : List D → Mem → Out D} (hS : compChk scope X.env.kindOf [x] R X.N = true) (hc : X.calm = true) (hm : mk = mkLst ∨ mk = mkMut) (hi : PI X (.Name x px) iter (tI X gi)) (hts : TestsOk X scope [x] R ifs gc)
    (he : ∀ fp s H C, PE (compCx X scope [x] R fp s H C) elt (tE (compCx X scope [x] R fp s H C) ge))
    (hs : ∀ x, foldedSetIterable iter X.env x = pure x := by intro _; rfl) : PE X (.ListComp elt [⟨.Name x px, iter, ifs, 0⟩] scope pos) (tE X (gComp gi gc ge mk)) := by
  rw [gComp_T]
  exact de_compT (xs := [x]) hS hc hm hi (own_one (Nat.zero_lt_one)) (name_pg hS) hts he hs
end

/-! ### all -/
def boolsOf : List D → Option (List Bool)
  | [] => some []
  | .bl b :: r => (boolsOf r).map (b :: ·)
  | _ => none
def allF : FD := fun ds M => match ds with
  | [d] => match itemsOf d M with
    | some xs => match boolsOf xs with
      | some bs => .ok (.bl (bs.all id)) M
      | none => .bad
    | none => .bad
  | _ => .bad
def anyF : FD := fun ds M => match ds with
  | [d] => match itemsOf d M with
    | some xs => match boolsOf xs with
      | some bs => .ok (.bl (bs.any id)) M
      | none => .bad
    | none => .bad
  | _ => .bad
theorem bools_vals {K : PySem.W.Frag} {θ : List Addr} {H : Hp} : ∀ {ds : List D} {vs : List V} {us : List Value} {bs : List Bool}, isDs K θ H ds vs → Vals vs us → boolsOf ds = some bs → us = bs.map Value.bool
  | [], vs, us, bs, r, q, e => by
    have e1 : vs = [] := r
    subst e1; cases q; cases e; rfl
  | d :: ds, vs, us, bs, r, q, e => by
    obtain ⟨v, rr, e1, h1, h2⟩ := r
    subst e1
    cases d with
    | bl b =>
      cases qb : boolsOf ds with
      | none => simp [boolsOf, qb] at e
      | some bs' =>
        simp [boolsOf, qb] at e
        subst e
        have e2 : v = .bl b := h1
        subst e2
        cases q with
        | cons q1 q2 =>
          cases q1
          rw [List.map_cons, bools_vals h2 q2 qb]
    | _ => simp [boolsOf] at e
theorem range_all (bs : List Bool) : (List.range bs.length).all (fun i => bs.getD i false) = bs.all id := by
  rw [Bool.eq_iff_iff]
  simp only [List.all_eq_true, List.mem_range, id]
  constructor
  · intro h b hb
    obtain ⟨i, hi, e⟩ := List.mem_iff_getElem.mp hb
    have := h i hi
    rw [List.getD_eq_getElem?_getD, List.getElem?_eq_getElem hi] at this
    rw [← e]; exact this
  · intro h i hi
    rw [List.getD_eq_getElem?_getD, List.getElem?_eq_getElem hi]
    exact h _ (List.getElem_mem hi)
section
variable {X : Cx}
theorem truth_bools {prog : Program} {w : World} {A : Around} (bs : List Bool) : TruthOf prog w A (fun i v => ((bs.map Value.bool).toArray)[i]? = some v) (fun i => bs.getD i false) := fun i v s Q E hP hQ => by
  have hP : (bs.map Value.bool)[i]? = some v := by simpa using hP
  rw [List.getElem?_map] at hP
  cases q : bs[i]? with
  | none => rw [q] at hP; cases hP
  | some b =>
    rw [q] at hP
    cases hP
    have e : bs.getD i false = b := by rw [List.getD_eq_getElem?_getD, q]; rfl
    dsimp only at hQ
    rw [e] at hQ
    exact wpAny_truthy_bool hQ
theorem walk_bools {pins : List (Addr × Obj)} {σ : L2.St} {H : Hp} {s : Shared} {d : D} {θ : List Addr} {M : Mem} {xs : List D} {bs : List Bool} {v : V} {u : Value} (hc : X.calm = true) (I : L2.Inv X pins σ H s) (hw : Wr X.K θ H M) (rv : isD X.K θ H d v) (ru : RelV v u) (q : itemsOf d M = some xs) (qb : boolsOf xs = some bs) {Q : Bool → Hp → Prop} {f : (Nat → Bool) → Nat → Bool} {E : Value → Shared → Prop}
    (h : ∀ h' tk, L2.Inv X pins σ H { s with heap := h', toks := tk } → Q (f (fun i => bs.getD i false) bs.length) H) :
    wpAny (model X.prog X.w) X.A.in1 (pyIter u) (fun it s₂ => ∃ I fp wr n P St tr, it = .ref I ∧ Walks X.prog X.w X.A.in1 I fp wr n P St ∧ St 0 s₂.heap ∧ TruthOf X.prog X.w X.A.in1 P tr ∧
      ∀ h' tk, (∀ b o, b ∉ wr → s₂.heap.get? b = some o → h'.get? b = some o) → EP X pins σ (fun v H => ∃ b, v = .bl b ∧ Q b H) (.bool (f tr n)) { s₂ with heap := h', toks := tk }) E s := by
  have hh : X.A.in1.handled = none := I.ok.hd hc
  obtain ⟨a, vs, ea, sq, ra⟩ := seq_of hw rv q
  subst ea; cases ru
  rcases sq with sq | sq
  · obtain ⟨its, r1, p, hz⟩ := I.list sq
    have e := bools_vals ra r1 qb
    subst e
    have hlt : a < s.heap.objs.size := by obtain ⟨o, n, e, _⟩ := p; exact Heap.lt_size e
    refine wpAny_pyIter_list p.isList ⟨s.heap.objs.size, _, _, _, _, _, _, rfl, Walks.list hh s.heap.objs.size a (Nat.ne_of_lt hlt) _, ⟨⟨_, Heap.get?_push_size _ rfl, rfl, rfl⟩, p.isList.push _⟩, truth_bools bs, fun h' tk k => ?_⟩
    have I' : L2.Inv X pins σ H { s with heap := h', toks := tk } := I.kept fun b o e => k b o (by have := Heap.lt_size e; simp; exact Nat.ne_of_lt this) (Heap.get?_push_of_some _ e)
    refine ⟨.bl _, H, I', rfl, _, rfl, ?_⟩
    have := h h' tk I'
    simpa using this
  · obtain ⟨its, r1, p, hz⟩ := I.tuple sq
    have e := bools_vals ra r1 qb
    subst e
    have hlt : a < s.heap.objs.size := by obtain ⟨o, e, _⟩ := p; exact Heap.lt_size e
    have pt : s.heap.IsTuple a (bs.map Value.bool).toArray := p
    refine wpAny_pyIter_tuple pt ⟨s.heap.objs.size, _, _, _, _, _, _, rfl, Walks.tuple hh s.heap.objs.size a (Nat.ne_of_lt hlt) _, ⟨⟨_, Heap.get?_push_size _ rfl, rfl, rfl⟩, ?_⟩, truth_bools bs, fun h' tk k => ?_⟩
    · obtain ⟨o, e, r⟩ := p
      exact ⟨o, Heap.get?_push_of_some _ e, r⟩
    have I' : L2.Inv X pins σ H { s with heap := h', toks := tk } := I.kept fun b o e => k b o (by have := Heap.lt_size e; simp; exact Nat.ne_of_lt this) (Heap.get?_push_of_some _ e)
    refine ⟨.bl _, H, I', rfl, _, rfl, ?_⟩
    have := h h' tk I'
    simpa using this
theorem cd_all (hc : X.calm = true) : CallR X (.builtin "all") (rC X allF) := by
  intro pins s σ H xs us Q I r h
  obtain ⟨θ, M, ds, hw, rd, h⟩ := h
  unfold allF at h
  split at h
  · rename_i d
    obtain ⟨v, e, rv⟩ := one_of rd
    subst e
    obtain ⟨u, rfl, ru⟩ := vals1 r
    split at h
    · rename_i ys q
      split at h
      · rename_i bs qb
        refine thn (call_all_walk (walk_bools hc I hw rv ru q qb (Q := fun b H => Q (.bl b) H) (f := fun tr n => (List.range n).all tr) (fun h' tk I' => ?_))) fun u' s' ⟨v', H', I', r', b, eb, q'⟩ => ⟨v', H', I', r', by rw [eb]; exact q'⟩
        rw [range_all]
        exact h _ θ H (.refl hw) rfl
      · exact h.elim
    · exact h.elim
  · exact h.elim
/-! ### isinstance of a type of Python's own -/
def tyD : D → Option String
  | .non => some "NoneType"
  | .bl _ => some "bool"
  | .int _ => some "int"
  | .str _ => some "str"
  | .tup _ => some "tuple"
  | .lst _ => some "list"
  | .ro _ => some "list"
  | _ => none
def tyM (d : D) (M : Mem) : Option String := match d with
  | .mr k => match M[k]? with
    | some (.lst _) => some "list"
    | _ => none
  | d => tyD d
def subT (t T : String) : Bool := t == T || (t == "bool" && T == "int")
def gIsi (T : String) (g : GE) : GE := fun ρ M => (g ρ M).bind fun d M1 => match tyM d M1 with
  | some t => .ok (.bl (subT t T)) M1
  | none => .bad
def PlainTy (T : String) : Prop := T = "int" ∨ T = "bool" ∨ T = "str" ∨ T = "tuple" ∨ T = "list"
theorem kit_plain (K : PySem.W.Frag) {T : String} (hT : PlainTy T) : ∀ t ∈ ["NoneType", "bool", "int", "str", "tuple", "list"], PySem.W.kitOne K (.type t) (.type T) = some (subT t T) := by
  intro t ht
  simp only [List.mem_cons, List.mem_nil_iff, or_false] at ht
  rcases hT with rfl | rfl | rfl | rfl | rfl <;> rcases ht with rfl | rfl | rfl | rfl | rfl | rfl <;> rfl
theorem cd_isi {T : String} (hT : PlainTy T) : CallR X (.builtin "isinstance") (fun xs H Q => ∃ θ M d v, Wr X.K θ H M ∧ isD X.K θ H d v ∧ xs = [v, .ty T] ∧ FinE X θ H Q (match tyM d M with | some t => .ok (.bl (subT t T)) M | none => .bad)) := by
  intro pins s σ H xs us Q I r h
  obtain ⟨θ, M, d, v, hw, rv, e, h⟩ := h
  subst e
  obtain ⟨u, c, rfl, ru, rc⟩ := vals2 r
  cases rc
  have fin : ∀ t tk, tyM d M = some t → EP X pins σ Q (.bool (subT t T)) { s with toks := tk } := fun t tk e => by
    rw [e] at h
    exact ⟨.bl _, H, I.tok _, rfl, h _ θ H (.refl hw) rfl⟩
  cases d with
  | non => have e : v = .non := rv; subst e; cases ru; exact PySem.W.kia_one PySem.W.kitx_none I.kIn True.intro (kit_plain X.K hT "NoneType" (by simp)) (fun z => nomatch z) fun tk => fin _ tk rfl
  | bl b => have e : v = .bl b := rv; subst e; cases ru; exact PySem.W.kia_one PySem.W.kitx_bool I.kIn True.intro (kit_plain X.K hT "bool" (by simp)) (fun z => nomatch z) fun tk => fin _ tk rfl
  | int i => have e : v = .int i := rv; subst e; obtain ⟨t, rfl⟩ := ru; exact PySem.W.kia_one PySem.W.kitx_int I.kIn True.intro (kit_plain X.K hT "int" (by simp)) (fun z => nomatch z) fun tk => fin _ tk rfl
  | str i => have e : v = .str i := rv; subst e; obtain ⟨t, rfl⟩ := ru; exact PySem.W.kia_one PySem.W.kitx_str I.kIn True.intro (kit_plain X.K hT "str" (by simp)) (fun z => nomatch z) fun tk => fin _ tk rfl
  | tup ds =>
    obtain ⟨a, vs, e, ta, ra⟩ := rv; subst e; cases ru
    obtain ⟨its, _, ⟨o, h1, h2, _⟩, _⟩ := I.tuple ta.sq
    exact PySem.W.kia_one PySem.W.kitx_tuple I.kIn ⟨o, h1, h2⟩ (kit_plain X.K hT "tuple" (by simp)) (fun z => nomatch z) fun tk => fin _ tk rfl
  | lst ds =>
    obtain ⟨a, vs, e, ta, ra⟩ := rv; subst e; cases ru
    obtain ⟨its, _, ⟨o, n, h1, h2, _⟩, _⟩ := I.list (ta.sq (K := X.K))
    exact PySem.W.kia_one PySem.W.kitx_list I.kIn ⟨o, h1, h2⟩ (kit_plain X.K hT "list" (by simp)) (fun z => nomatch z) fun tk => fin _ tk rfl
  | ro ds =>
    obtain ⟨a, vs, e, ta, ra⟩ := rv; subst e; cases ru
    obtain ⟨its, _, ⟨o, n, h1, h2, _⟩, _⟩ := I.list ta.sq
    exact PySem.W.kia_one PySem.W.kitx_list I.kIn ⟨o, h1, h2⟩ (kit_plain X.K hT "list" (by simp)) (fun z => nomatch z) fun tk => fin _ tk rfl
  | mr k =>
    obtain ⟨a, e, ta⟩ := rv; subst e; cases ru
    cases qm : M[k]? with
    | none => simp only [tyM, qm] at h; exact h.elim
    | some m =>
      cases m with
      | lst ys =>
        obtain ⟨vs, hv, _⟩ := hw.at_ k a _ ta qm
        obtain ⟨its, _, ⟨o, n, h1, h2, _⟩, _⟩ := I.list (X := X) (xs := vs) (.inl (.inl hv))
        exact PySem.W.kia_one PySem.W.kitx_list I.kIn ⟨o, h1, h2⟩ (kit_plain X.K hT "list" (by simp)) (fun z => nomatch z) fun tk => fin _ tk (by simp only [tyM, qm])
      | _ => simp only [tyM, qm] at h; exact h.elim
  | exc c => exact h.elim
  | any => exact h.elim
theorem de_isi {T : String} {x : Str} {e : Expr} {p p2 pos : Pos} {g : GE} (hT : PlainTy T) (hv : bootBuiltins x = some (.type T)) (hg : Gl X x) (hm : X.mg x = none) (hgi : Gl X "isinstance") (hmi : X.mg "isinstance" = none) (he : PE X e (tE X g))
    (hn : x ≠ "__name__" := by decide) (hd : (x == ("__debug__" : Str)) = false := by decide) (hbi : bootBuiltins "isinstance" = some (.builtin "isinstance") := by kernel_rfl) (hs : starEach [e, .Name x p2] X.env = (false, eval e X.env) :: starEach [.Name x p2] X.env := by rfl)
    (hs2 : starEach [.Name x p2] X.env = (false, eval (.Name x p2) X.env) :: starEach [] X.env := by rfl) (hpl : (backTo pos (starEach [.Name x p2] X.env)).any (·.1) = false := by rfl) :
    PE X (.Call (.Name "isinstance" p) [e, .Name x p2] [] pos) (tE X (gIsi T g)) :=
  (pe_callB (cd_isi hT) hgi hmi hbi (pa_cons he (pa_cons (pe_bltn hg hm hv (v := .ty T) rfl hn hd) pa_nil hs2) hs) (by decide) (by decide) hs hpl).of fun σ H Q ⟨ρ, θ, M, hd, hw, h⟩ => by
    refine thenE hd hw (FinE X θ H Q) (fun c M' h => h) (fun h => h) h fun d M1 v θ1 H1 g1 r1 h1 => ?_
    exact ⟨θ1, M1, d, v, g1.wr, r1, rfl, FinE.go g1 h1⟩
end
end DL

set_option Elab.async false
set_option linter.all false
set_option maxRecDepth 100000
set_option maxHeartbeats 4000000
/-! The data layer, seventh part: in; the other way round; a range as a list; methods of lists; while; what a def leaves behind. -/
namespace DL
open PySem PySem.Spec PyProof.Rows L2

/-! ### in -/
def flatD : D → Bool
  | .non => true
  | .bl _ => true
  | .int _ => true
  | .str _ => true
  | _ => false
def toV : D → V
  | .non => .non
  | .bl b => .bl b
  | .int i => .int i
  | .str x => .str x
  | _ => .non
def inOp (neg : Bool) : F2 := fun x y M => match itemsOf y M with
  | some xs => if flatD x && xs.all flatD then .ok (.bl ((xs.any fun y => eqB y x) != neg)) M else .bad
  | none => .bad
section
variable {X : Cx}
end

/-! ### t[::-1] -/
section
variable {prog : Program} {w : World} {A : Around} {E : Value → Shared → Prop} {s : Shared}
end
def gRev (g : GE) : GE := fun ρ M => (g ρ M).bind fun x M1 => match x with
  | .tup xs => .ok (.tup xs.reverse) M1
  | _ => .bad
section
variable {X : Cx}
/-! ### list(range(..)) -/
def lr2 (ds : List D) (M : Mem) : Out D := match ds with
  | [.int i, .int j] => if (-(2 ^ 62) ≤ i ∧ i < 2 ^ 62 ∧ -(2 ^ 62) ≤ j ∧ j < 2 ^ 62) ∧ (j - i).toNat ≤ sizeLine then .ok (.lst (rangeD i (j - i).toNat)) M else .bad
  | _ => .bad
def lr1 (ds : List D) (M : Mem) : Out D := match ds with
  | [.int j] => if (-(2 ^ 62) ≤ j ∧ j < 2 ^ 62) ∧ j.toNat ≤ sizeLine then .ok (.lst (rangeD 0 j.toNat)) M else .bad
  | _ => .bad
/-! ### methods of lists -/
def appD (k : Nat) (x : D) (M : Mem) : Out D := match M[k]? with
  | some (.lst xs) => if xs.length < sizeLine then .ok .non (M.set k (.lst (xs ++ [x]))) else .bad
  | _ => .bad
def gApp (go ge : GE) : GE := fun ρ M => (go ρ M).bind fun o M1 => match o with
  | .mr k => match M1[k]? with
    | some (.lst _) => (ge ρ M1).bind (appD k)
    | _ => .bad
  | _ => .bad
theorem de_append {o e : Expr} {go ge : GE} {apos cpos : Pos} (ho : PE X o (tE X go)) (he : PE X e (tE X ge))
    (hbase : attributeBase o "append" X.env (eval o X.env) = eval o X.env := by rfl)
    (hfew : ((backTo cpos (starEach [e] X.env)).all (fun x => !x.1) && (backToKw cpos (keywordEach [] X.env)).all (fun x => x.1.isSome)
      && decide ([e].length + ([] : List Keyword).length + (if ([] : List Keyword).isEmpty then 0 else 1) < 30)) = true := by rfl)
    (hline : (apos.endLine == cpos.line) = true := by rfl) (hs : starEach [e] X.env = (false, eval e X.env) :: starEach [] X.env := by rfl) (hplain : (backTo cpos (starEach [] X.env)).any (·.1) = false := by rfl) :
    PE X (.Call (.Attribute o "append" apos) [e] [] cpos) (tE X (gApp go ge)) :=
  (pe_bm PySem.F.plainAttrs_list PySem.F.slot_list_append PySem.F.type_list_append mt_append ho (pa_cons he pa_nil hs) hbase hfew hline hs hplain).of fun σ H Q ⟨ρ, θ, M, hd, hw, h⟩ => by
    refine thenE hd hw (FinE X θ H Q) (fun c M' h => h) (fun h => h) h fun d M1 v θ1 H1 g1 r1 h1 => ?_
    have h2 := FinE.go g1 h1
    cases d with
    | mr k =>
      have h2 : FinE X θ1 H1 Q (match M1[k]? with | some (.lst _) => (ge ρ M1).bind (appD k) | _ => .bad) := h2
      cases qm1 : M1[k]? with
      | none => rw [qm1] at h2; exact h2.elim
      | some m1 =>
        cases m1 with
        | obj _ _ => rw [qm1] at h2; exact h2.elim
        | dK _ => rw [qm1] at h2; exact h2.elim
        | dT _ => rw [qm1] at h2; exact h2.elim
        | lst ys1 =>
          rw [qm1] at h2
          obtain ⟨a1, ea1, ta1⟩ := id r1
          obtain ⟨vs1, hv1, _⟩ := g1.wr.at_ k a1 _ ta1 qm1
          refine ⟨by rw [ea1]; exact .inl ⟨rfl, vs1, .inl (.inl hv1)⟩, ?_⟩
          refine thenE (hd.go g1) g1.wr (FinE X θ1 H1 Q) (fun c M' h => h) (fun h => h) h2 fun dx M2 vx θ2 H2 g2 r2 h3 => ?_
          have h3 : FinE X θ1 H1 Q (match M2[k]? with | some (.lst xs) => if xs.length < sizeLine then .ok .non (M2.set k (.lst (xs ++ [dx]))) else .bad | _ => .bad) := h3
          obtain ⟨a, ea, ta⟩ := r1.go g2
          cases qm : M2[k]? with
          | none => rw [qm] at h3; exact h3.elim
          | some m =>
            cases m with
            | obj _ _ => rw [qm] at h3; exact h3.elim
            | dK _ => rw [qm] at h3; exact h3.elim
            | dT _ => rw [qm] at h3; exact h3.elim
            | lst ys =>
              rw [qm] at h3
              obtain ⟨vs, hv, ra⟩ := g2.wr.at_ k a _ ta qm
              have h3 : FinE X θ1 H1 Q (if ys.length < sizeLine then .ok .non (M2.set k (.lst (ys ++ [dx]))) else .bad) := h3
              split at h3
              · rename_i hl
                have gs := go_set (ds := ys) g2.wr ta (isDs_append ra (show isDs X.K θ2 H2 [dx] [vx] from ⟨vx, [], rfl, r2, rfl⟩))
                exact ⟨a, vs, vx, ea, rfl, hv, by rw [← isDs_length ra]; exact hl, h3 _ θ2 _ (g2.trans gs) rfl⟩
              · exact h3.elim
    | _ => exact h2.elim
end
/-! ### what a def leaves behind: the lists that it made itself stay from then on -/
def optMap (f : D → Option D) : List D → Option (List D)
  | [] => some []
  | d :: ds => match f d, optMap f ds with
    | some x, some xs => some (x :: xs)
    | _, _ => none
def frz (n : Nat) (M : Mem) : Nat → D → Option D
  | 0, _ => none
  | f + 1, d => match d with
    | .mr k => if k < n then some (.mr k) else match M[k]? with
      | some (.lst xs) => (optMap (frz n M f) xs).map .lst
      | _ => none
    | .tup xs => (optMap (frz n M f) xs).map .tup
    | .lst xs => (optMap (frz n M f) xs).map .lst
    | .ro xs => (optMap (frz n M f) xs).map .ro
    | d => some d
/-- the fields likewise -/
def frzF (f : D → Option D) : List (Str × D) → Option (List (Str × D))
  | [] => some []
  | (x, d) :: r => match f d, frzF f r with
    | some e, some r' => some ((x, e) :: r')
    | _, _ => none
def frzK {κ : Type} (f : D → Option D) : List (κ × D) → Option (List (κ × D))
  | [] => some []
  | (x, d) :: r => match f d, frzK f r with
    | some e, some r' => some ((x, e) :: r')
    | _, _ => none
def frzM (n : Nat) (M : Mem) : List MO → Option (List MO)
  | [] => some []
  | .lst xs :: r => match optMap (frz n M 30) xs, frzM n M r with
    | some ys, some r' => some (.lst ys :: r')
    | _, _ => none
  | .obj c fs :: r => match frzF (frz n M 30) fs, frzM n M r with
    | some gs, some r' => some (.obj c gs :: r')
    | _, _ => none
  | .dK fs :: r => match frzK (frz n M 30) fs, frzM n M r with
    | some gs, some r' => some (.dK gs :: r')
    | _, _ => none
  | .dT fs :: r => match frzK (frz n M 30) fs, frzM n M r with
    | some gs, some r' => some (.dT gs :: r')
    | _, _ => none
def retP (n : Nat) (o : Out D) : Out D := match o with
  | .ok d M => if M.length = n then .ok d M else match frz n M 30 d, frzM n M (M.take n) with
    | some d', some M' => .ok d' M'
    | _, _ => .bad
  | .err c M => if M.length = n then .err c M else match frzM n M (M.take n) with
    | some M' => .err c M'
    | none => .bad
  | .bad => .bad
section
variable {K : PySem.W.Frag} {θ more : List Addr} {H : Hp} {M : Mem} {n : Nat}
theorem optMap_is {f : D → Option D} {θ' : List Addr} : ∀ {ds es : List D} {vs : List V}, optMap f ds = some es → isDs K θ' H ds vs → (∀ d ∈ ds, ∀ e v, f d = some e → isD K θ' H d v → isD K θ H e v) → isDs K θ H es vs
  | [], es, vs, h, r, k => by cases h; exact r
  | d :: ds, es, vs, h, r, k => by
    obtain ⟨v, rr, e, h1, h2⟩ := r
    unfold optMap at h
    cases q1 : f d with
    | none => rw [q1] at h; cases h
    | some x =>
      cases q2 : optMap f ds with
      | none => rw [q1, q2] at h; cases h
      | some xs =>
        rw [q1, q2] at h
        cases h
        exact ⟨v, rr, e, k d List.mem_cons_self x v q1 h1, optMap_is q2 h2 fun d' hd => k d' (List.mem_cons_of_mem _ hd)⟩
theorem frz_is (hw : Wr K (θ ++ more) H M) (hn : θ.length = n) : ∀ (f : Nat) (d e : D) (v : V), frz n M f d = some e → isD K (θ ++ more) H d v → isD K θ H e v
  | 0, d, e, v, h, r => by cases h
  | f + 1, d, e, v, h, r => by
    have ih := frz_is hw hn f
    have sub : ∀ {a : Addr}, a ∉ θ ++ more → a ∉ θ := fun {a} z y => z (List.mem_append_left _ y)
    cases d with
    | mr k =>
      obtain ⟨a, ea, ta⟩ := r
      by_cases hk : k < n
      · have h : (if k < n then some (D.mr k) else _) = some e := h
        rw [if_pos hk] at h
        cases h
        exact ⟨a, ea, by rw [List.getElem?_append_left (by rw [hn]; exact hk)] at ta; exact ta⟩
      · have h : (if k < n then some (D.mr k) else match M[k]? with | some (.lst xs) => (optMap (frz n M f) xs).map .lst | _ => none) = some e := h
        rw [if_neg hk] at h
        cases qm : M[k]? with
        | none => rw [qm] at h; cases h
        | some m =>
          cases m with
          | lst xs =>
            rw [qm] at h
            have h : (optMap (frz n M f) xs).map D.lst = some e := h
            obtain ⟨vs, hv, ra⟩ := hw.at_ k a _ ta qm
            cases qo : optMap (frz n M f) xs with
            | none => rw [qo] at h; cases h
            | some ys =>
              rw [qo] at h
              cases h
              refine ⟨a, vs, ea, ⟨hv, fun z => ?_⟩, optMap_is qo ra fun d _ e v => ih d e v⟩
              rw [List.getElem?_append_right (by omega)] at ta
              have hm := List.mem_of_getElem? ta
              exact (List.nodup_append.mp hw.nd).2.2 a z a hm rfl
          | _ => rw [qm] at h; cases h
    | tup xs =>
      have h : (optMap (frz n M f) xs).map D.tup = some e := h
      cases qo : optMap (frz n M f) xs with
      | none => rw [qo] at h; cases h
      | some ys =>
        rw [qo] at h; cases h
        obtain ⟨a, vs, ea, ta, ra⟩ := r
        refine ⟨a, vs, ea, ?_, optMap_is qo ra fun d _ e v => ih d e v⟩
        rcases ta with ⟨t1, t2⟩ | t
        · exact .inl ⟨t1, sub t2⟩
        · exact .inr t
    | lst xs =>
      have h : (optMap (frz n M f) xs).map D.lst = some e := h
      cases qo : optMap (frz n M f) xs with
      | none => rw [qo] at h; cases h
      | some ys =>
        rw [qo] at h; cases h
        obtain ⟨a, vs, ea, ta, ra⟩ := r
        exact ⟨a, vs, ea, ⟨ta.1, sub ta.2⟩, optMap_is qo ra fun d _ e v => ih d e v⟩
    | ro xs =>
      have h : (optMap (frz n M f) xs).map D.ro = some e := h
      cases qo : optMap (frz n M f) xs with
      | none => rw [qo] at h; cases h
      | some ys =>
        rw [qo] at h; cases h
        obtain ⟨a, vs, ea, ta, ra⟩ := r
        refine ⟨a, vs, ea, ?_, optMap_is qo ra fun d _ e v => ih d e v⟩
        rcases ta with ⟨t1, t2⟩ | t
        · exact .inl ⟨t1, sub t2⟩
        · exact .inr t
    | non => cases h; exact r
    | bl b => cases h; exact r
    | int b => cases h; exact r
    | str b => cases h; exact r
    | exc c =>
      cases h
      obtain ⟨a, C, ea, kc, t1, t2⟩ := r
      exact ⟨a, C, ea, kc, t1, sub t2⟩
    | any => cases h; exact r
theorem frzF_is {f : D → Option D} {θ' : List Addr} : ∀ {fs gs : List (Str × D)} {vs : List (Str × V)}, frzF f fs = some gs → isFs K θ' H fs vs → (∀ d e v, f d = some e → isD K θ' H d v → isD K θ H e v) → isFs K θ H gs vs
  | [], gs, vs, h, r, k => by cases h; exact r
  | (x, d) :: fs, gs, vs, h, r, k => by
    obtain ⟨v, rr, e, h1, h2⟩ := r
    unfold frzF at h
    cases q1 : f d with
    | none => rw [q1] at h; cases h
    | some y =>
      cases q2 : frzF f fs with
      | none => rw [q1, q2] at h; cases h
      | some ys =>
        rw [q1, q2] at h
        cases h
        exact ⟨v, rr, e, k d y v q1 h1, frzF_is q2 h2 k⟩
theorem frzK_is {κ : Type} {f : D → Option D} {θ' : List Addr} : ∀ {fs gs : List (κ × D)} {vs : List (κ × V)}, frzK f fs = some gs → isKs K θ' H fs vs → (∀ d e v, f d = some e → isD K θ' H d v → isD K θ H e v) → isKs K θ H gs vs
  | [], gs, vs, h, r, k => by cases h; exact r
  | (x, d) :: fs, gs, vs, h, r, k => by
    obtain ⟨v, rr, e, h1, h2⟩ := r
    unfold frzK at h
    cases q1 : f d with
    | none => rw [q1] at h; cases h
    | some y =>
      cases q2 : frzK f fs with
      | none => rw [q1, q2] at h; cases h
      | some ys =>
        rw [q1, q2] at h
        cases h
        exact ⟨v, rr, e, k d y v q1 h1, frzK_is q2 h2 k⟩
theorem frzM_is (hw : Wr K (θ ++ more) H M) (hn : θ.length = n) : ∀ (l l' : List MO), frzM n M l = some l' → l'.length = l.length ∧ ∀ (i : Nat) m m' a, l[i]? = some m → l'[i]? = some m' → MoOk K (θ ++ more) H m a → MoOk K θ H m' a
  | [], l', h => by cases h; exact ⟨rfl, fun i m m' a e => by simp at e⟩
  | .lst xs :: r, l', h => by
    unfold frzM at h
    cases q1 : optMap (frz n M 30) xs with
    | none => rw [q1] at h; cases h
    | some ys =>
      cases q2 : frzM n M r with
      | none => rw [q1, q2] at h; cases h
      | some r' =>
        rw [q1, q2] at h
        cases h
        obtain ⟨hl, hr⟩ := frzM_is hw hn r r' q2
        refine ⟨by rw [List.length_cons, List.length_cons, hl], fun i m m' a e1 e2 ok => ?_⟩
        cases i with
        | zero =>
          have e1 : some (MO.lst xs) = some m := e1
          have e2 : some (MO.lst ys) = some m' := e2
          cases e1; cases e2
          obtain ⟨vs, hv, ra⟩ := ok
          exact ⟨vs, hv, optMap_is q1 ra fun d _ e v => frz_is hw hn 30 d e v⟩
        | succ i => exact hr i m m' a e1 e2 ok
  | .obj c fs :: r, l', h => by
    unfold frzM at h
    cases q1 : frzF (frz n M 30) fs with
    | none => rw [q1] at h; cases h
    | some gs =>
      cases q2 : frzM n M r with
      | none => rw [q1, q2] at h; cases h
      | some r' =>
        rw [q1, q2] at h
        cases h
        obtain ⟨hl, hr⟩ := frzM_is hw hn r r' q2
        refine ⟨by rw [List.length_cons, List.length_cons, hl], fun i m m' a e1 e2 ok => ?_⟩
        cases i with
        | zero =>
          have e1 : some (MO.obj c fs) = some m := e1
          have e2 : some (MO.obj c gs) = some m' := e2
          cases e1; cases e2
          obtain ⟨C, dx, vs, kC, hv, ra⟩ := ok
          exact ⟨C, dx, vs, kC, hv, frzF_is q1 ra fun d e v => frz_is hw hn 30 d e v⟩
        | succ i => exact hr i m m' a e1 e2 ok
  | .dK fs :: r, l', h => by
    unfold frzM at h
    cases q1 : frzK (frz n M 30) fs with
    | none => rw [q1] at h; cases h
    | some gs =>
      cases q2 : frzM n M r with
      | none => rw [q1, q2] at h; cases h
      | some r' =>
        rw [q1, q2] at h
        cases h
        obtain ⟨hl, hr⟩ := frzM_is hw hn r r' q2
        refine ⟨by rw [List.length_cons, List.length_cons, hl], fun i m m' a e1 e2 ok => ?_⟩
        cases i with
        | zero =>
          have e1 : some (MO.dK fs) = some m := e1
          have e2 : some (MO.dK gs) = some m' := e2
          cases e1; cases e2
          obtain ⟨vs, hv, ra⟩ := ok
          exact ⟨vs, hv, frzK_is q1 ra fun d e v => frz_is hw hn 30 d e v⟩
        | succ i => exact hr i m m' a e1 e2 ok
  | .dT fs :: r, l', h => by
    unfold frzM at h
    cases q1 : frzK (frz n M 30) fs with
    | none => rw [q1] at h; cases h
    | some gs =>
      cases q2 : frzM n M r with
      | none => rw [q1, q2] at h; cases h
      | some r' =>
        rw [q1, q2] at h
        cases h
        obtain ⟨hl, hr⟩ := frzM_is hw hn r r' q2
        refine ⟨by rw [List.length_cons, List.length_cons, hl], fun i m m' a e1 e2 ok => ?_⟩
        cases i with
        | zero =>
          have e1 : some (MO.dT fs) = some m := e1
          have e2 : some (MO.dT gs) = some m' := e2
          cases e1; cases e2
          obtain ⟨vs, hv, ra⟩ := ok
          exact ⟨vs, hv, frzK_is q1 ra fun d e v => frz_is hw hn 30 d e v⟩
        | succ i => exact hr i m m' a e1 e2 ok
theorem go_pop {θ0 : List Addr} {H0 : Hp} {θ' : List Addr} {H' : Hp} {M' M2 : Mem} {n : Nat} (hn : θ0.length = n) (g : Go K θ0 H0 θ' H' M') (h : frzM n M' (M'.take n) = some M2) : Go K θ0 H0 θ0 H' M2 := by
  obtain ⟨m, em, hm⟩ := g.ext
  have hw := g.wr
  rw [em] at hw
  obtain ⟨hl, hr⟩ := frzM_is hw hn _ _ h
  have hlen : n ≤ M'.length := by rw [← g.wr.len, em, List.length_append]; omega
  refine ⟨⟨⟨[], by simp, fun _ z => by cases z⟩, g.keep, g.tkeep⟩, by rw [hl, List.length_take]; omega, (List.nodup_append.mp hw.nd).1, fun i a mo e1 e2 => ?_, g.wr.tb⟩
  have hi : i < n := by rw [← hn]; exact (List.getElem?_eq_some_iff.mp e1).1
  have hiM : i < M'.length := by omega
  refine hr i M'[i] mo a (by rw [List.getElem?_take_of_lt hi]; exact List.getElem?_eq_getElem hiM) e2 (hw.at_ i a _ ?_ (List.getElem?_eq_getElem hiM))
  rw [List.getElem?_append_left (by rw [hn]; exact hi)]
  exact e1
end
theorem fn_pop {P : Program} {w : World} {K : PySem.W.Frag} {mg : Str → Option Value} {base : Heap} {k n : Nat} {f : Addr} {fd : FuncData} {ps : List Str} {F : FD} {CX : CXT} (h : FnOk P w K mg base CX k f fd ps (spD K n F)) :
    FnOk P w K mg base CX k f fd ps (spD K n fun ds M => retP M.length (F ds M)) := h.imp fun vs H Q E ⟨θ, M, ds, hl, r, hw, q⟩ => by
  refine ⟨θ, M, ds, hl, r, hw, ?_⟩
  have q : FinC K θ H Q E (retP M.length (F ds M)) := q
  cases e : F ds M with
  | bad => rw [e] at q; exact q
  | err c M1 =>
    rw [e] at q
    have q : FinC K θ H Q E (if M1.length = M.length then .err c M1 else match frzM M.length M1 (M1.take M.length) with | some M' => .err c M' | none => .bad) := q
    split at q
    · exact q
    · split at q
      · rename_i M2 e2
        exact fun C θ' H' a kC g => q C θ H' a kC (go_pop hw.len g e2)
      · exact q.elim
  | ok d M1 =>
    rw [e] at q
    have q : FinC K θ H Q E (if M1.length = M.length then .ok d M1 else match frz M.length M1 30 d, frzM M.length M1 (M1.take M.length) with | some d', some M' => .ok d' M' | _, _ => .bad) := q
    split at q
    · exact q
    · split at q
      · rename_i d' M2 e1 e2
        intro v θ' H' g rd
        refine q v θ H' (go_pop hw.len g e2) ?_
        obtain ⟨m, em, _⟩ := g.ext
        have hw' := g.wr
        rw [em] at hw' rd
        exact frz_is hw' hw.len 30 d d' v e1 rd
      · exact q.elim
end DL

set_option Elab.async false
set_option linter.all false
set_option maxRecDepth 100000
/-! The data layer, last part: short words for what is printed by program. -/
namespace DL
open PySem PySem.Spec PyProof.Rows L2

/-- a def of the text, as it stands behind the top -/
structure Fn (K : PySem.W.Frag) (mg : Str → Option Value) (x : Str) (st : Stmt) (f : Addr) (fd : FuncData) (ps : List Str) : Prop where
  F : Fun K x x st f fd
  m : mg x = some (.ref f)
  b : Binds K fd ps []
section
variable {X : Cx}
theorem vv (i : Nat) {x : Str} {pos : Pos} (hN : X.N[i]? = some x := by rfl) (hv : Vis X.env.scope x := by first | exact Or.inl rfl | exact Or.inr (Or.inl rfl) | exact Or.inr (Or.inr rfl)) (hd : (x == ("__debug__" : Str)) = false := by decide)
    (hcd : (x == ("__classdict__" : Str)) = false := by decide) : PE X (.Name x pos) (tE X (gVar i)) := de_var (pe_var hN hv hd hcd)
theorem ss (i : Nat) {x : Str} {pos pos' : Pos} {e : Expr} {g : GE} (hN : X.N.Nodup) (he : PE X e (tE X g)) (hi : X.N[i]? = some x := by rfl) (hx : Loc X.env.scope x := by first | exact Or.inl rfl | exact Or.inr rfl)
    (hs : swapsWith e (some (.Name x pos')) pos.line X.env = pure false := by rfl) (hf : X.fn x = true ∨ X.env.scope.names.lookup x = some .local := by first | exact .inl rfl | exact .inr rfl) :
    PS X (.Assign [.Name x pos'] e pos) (tS X (sSet i g)) := ds_set hN hi hx he hs hf
theorem gg (i : Nat) {x : Str} {pos : Pos} (hN : X.N.Nodup) (hi : X.N[i]? = some x := by rfl) (hx : Loc X.env.scope x := by first | exact Or.inl rfl | exact Or.inr rfl) (hf : X.fn x = true ∨ X.env.scope.names.lookup x = some .local := by first | exact .inl rfl | exact .inr rfl) : PG X (.Name x pos) (tG X (oneN i)) := dg_name hN hi hx hf
end
/-- the law, from what its run tells -/
theorem law_sp {K : PySem.W.Frag} {F : FD} {H : Hp} {a : Addr} {ns : List Int} (tb : Tabs K H) (hS : SqL K H a (ns.map V.int)) (h : ∃ M', F [.ro (ns.map D.int)] [] = .ok (.bl true) M') {E : XK} : spD K 1 F [.ref a] H (fun v _ => v = .bl true) E := by
  obtain ⟨M', e⟩ := h
  refine ⟨[], [], [.ro (ns.map D.int)], rfl, ⟨_, [], rfl, ⟨a, ns.map V.int, rfl, ?_, ?_⟩, rfl⟩, ⟨rfl, List.nodup_nil, fun i a m e => by simp at e, tb⟩, ?_⟩
  · rcases hS with h | h
    · exact .inl ⟨h, by simp⟩
    · exact .inr h
  · clear e
    induction ns with
    | nil => exact rfl
    | cons n ns ih =>
      refine ⟨.int n, ns.map V.int, rfl, rfl, ?_⟩
      have gen : ∀ l : List Int, isDs K [] H (l.map D.int) (l.map V.int) := by
        intro l
        induction l with
        | nil => exact rfl
        | cons m l ih => exact ⟨_, _, rfl, rfl, ih⟩
      exact gen ns
  · rw [e]
    exact fun v θ' H' g r => r
end DL

set_option Elab.async false
set_option linter.all false
set_option maxRecDepth 100000
/-! The data layer: while; a def that calls itself. -/
namespace DL
open PySem PySem.Spec PyProof.Rows L2

/-- so many turns at most: beyond them nothing is known -/
def whileGo (t : GT) (b : GS) : Nat → Rho → Mem → Out Fl
  | 0, _, _ => .bad
  | n + 1, ρ, M => (t ρ M).bind fun c M1 => if c then (b ρ M1).bind fun f M2 => match f with
      | .nx ρ2 => whileGo t b n ρ2 M2
      | .ct ρ2 => whileGo t b n ρ2 M2
      | .bk ρ2 => .ok (.nx ρ2) M2
      | .rt d => .ok (.rt d) M2
    else .ok (.nx ρ) M1
def sWhile (n : Nat) (t : GT) (b : GS) : GS := whileGo t b n
theorem ds_while {X : Cx} {c : Expr} {body : List Stmt} {tc : GT} {gb : GS} {pos : Pos} {n : Nat} (hp : PassesOwn (model X.prog X.w) X.A X.env X.xe) (hc : PT X c (tT X tc)) (hb : PSs X body (tS X gb)) : PS X (.While c body [] pos) (tS X (sWhile n tc gb)) :=
  (ps_while hp hc hb).of fun D σ H ⟨ρ, θ, M, hd, hw, h⟩ => by
    refine ⟨fun m σ' H' => ∃ ρ' θ' M', Den X.K θ' H' σ' ρ' ∧ Wr X.K θ' H' M' ∧ FinS X θ' H' D (whileGo tc gb m ρ' M'), ⟨n, ρ, θ, M, hd, hw, h⟩, ?_⟩
    rintro m σ' H' ⟨ρ', θ', M', hd', hw', h'⟩
    cases m with
    | zero => exact h'.elim
    | succ m =>
      have h' : FinS X θ' H' D ((tc ρ' M').bind _) := h'
      refine thenT hd' hw' (FinS X θ' H' D) (fun c M' h => h) (fun h => h) h' fun c M1 θ1 H1 g1 h1 => ?_
      cases c with
      | false =>
        rw [if_neg Bool.false_ne_true]
        exact h1 σ' θ1 H1 g1 (hd'.go g1)
      | true =>
        rw [if_pos rfl]
        refine ⟨fun σ2 H2 => ∃ ρ2 θ2 M2, Den X.K θ2 H2 σ2 ρ2 ∧ Wr X.K θ2 H2 M2 ∧ FinS X θ2 H2 D (whileGo tc gb m ρ2 M2), fun σ2 H2 q => ⟨m, Nat.lt_succ_self _, q⟩, ρ', θ1, M1, hd'.go g1, g1.wr, ?_⟩
        have h2 := FinS.go g1 h1
        have h2 : FinS X θ1 H1 D ((gb ρ' M1).bind _) := h2
        cases q : gb ρ' M1 with
        | bad => rw [q] at h2; exact h2
        | err c M2 => rw [q] at h2; exact h2
        | ok f M2 =>
          rw [q] at h2
          cases f with
          | nx ρ2 => exact fun σ2 θ2 H2 g2 d2 => ⟨ρ2, θ2, M2, d2, g2.wr, FinS.go g2 h2⟩
          | ct ρ2 => exact fun σ2 θ2 H2 g2 d2 => ⟨ρ2, θ2, M2, d2, g2.wr, FinS.go g2 h2⟩
          | bk ρ2 => exact h2
          | rt d => exact h2
end DL
/-! ### short words: no star among the arguments -/
namespace DL
open PySem PySem.Spec PyProof.Rows L2
def noStar : Expr → Bool
  | .Starred _ _ => false
  | _ => true
def noStars (es : List Expr) : Bool := es.all noStar
theorem sE {e : Expr} {es : List Expr} {env : Env} (h : noStar e = true) : starEach (e :: es) env = (false, eval e env) :: starEach es env := by
  cases e <;> first | rfl | (simp [noStar] at h)
theorem sS {pos : Pos} {env : Env} : ∀ {es : List Expr}, noStars es = true → (backTo pos (starEach es env)).any (·.1) = false
  | [], _ => rfl
  | e :: es, h => by
    unfold noStars at h
    rw [List.all_cons, Bool.and_eq_true] at h
    have ih := sS (pos := pos) (env := env) (es := es) h.2
    rw [sE h.1]
    unfold backTo at ih ⊢
    rw [List.map_cons, List.any_cons, ih]
    rfl
section
variable {X : Cx} {e : Expr} {es : List Expr} {x : Str} {p pos : Pos} {k n : Nat} {f : Addr} {fd : FuncData} {ps : List Str} {F : FD} {ga : GA} {g : GE} {tg : Expr}
theorem da_c {gr : GA} (ha : PE X e (tE X g)) (hr : PA X es (tA X gr)) (h : noStar e = true := by rfl) : PA X (e :: es) (tA X (DL.gCons g gr)) := da_cons ha hr (sE h)
theorem de_cl (Fn : FnOk X.prog X.w X.K X.mg X.base (CXd X.prog X.w) k f fd ps (spD X.K n F)) (hr : Room k X.A) (hg : Gl X x) (hm : X.mg x = some (.ref f)) (hk : PySem.W.keepIn X.K (.ref f) = true) (hb : Binds X.K fd ps [])
    (ha : PA X (e :: es) (tA X ga)) (hdb : (x == ("__debug__" : Str)) = false := by decide) (h1 : noStar e = true := by rfl) (h2 : noStars es = true := by rfl) :
    PE X (.Call (.Name x p) (e :: es) [] pos) (tE X (gCall n F ga)) := de_call Fn hr hg hm hk hb ha hdb (sE h1) (sS h2)
theorem de_cB {id : String} (hc : CallR X (.builtin id) (rC X F)) (hg : Gl X x) (hm : X.mg x = none) (hv : bootBuiltins x = some (.builtin id)) (ha : PA X (e :: es) (tA X ga)) (hn : x ≠ "__name__" := by decide) (hdb : (x == ("__debug__" : Str)) = false := by decide)
    (h1 : noStar e = true := by rfl) (h2 : noStars es = true := by rfl) : PE X (.Call (.Name x p) (e :: es) [] pos) (tE X (gBlt F ga)) := de_callB hc hg hm hv ha hn hdb (sE h1) (sS h2)
theorem de_cT {T : String} (hc : CallR X (.type T) (rC X F)) (hg : Gl X x) (hm : X.mg x = none) (hv : bootBuiltins x = some (.type T)) (ha : PA X (e :: es) (tA X ga)) (hn : x ≠ "__name__" := by decide) (hdb : (x == ("__debug__" : Str)) = false := by decide)
    (h1 : noStar e = true := by rfl) (h2 : noStars es = true := by rfl) : PE X (.Call (.Name x p) (e :: es) [] pos) (tE X (gBlt F ga)) := de_callTy hc hg hm hv ha hn hdb (sE h1) (sS h2)
theorem de_is {T : String} {p2 : Pos} (hT : PlainTy T) (hv : bootBuiltins x = some (.type T)) (hg : Gl X x) (hm : X.mg x = none) (hgi : Gl X "isinstance") (hmi : X.mg "isinstance" = none) (he : PE X e (tE X g))
    (h1 : noStar e = true := by rfl) (hn : x ≠ "__name__" := by decide) (hd : (x == ("__debug__" : Str)) = false := by decide) : PE X (.Call (.Name "isinstance" p) [e, .Name x p2] [] pos) (tE X (gIsi T g)) :=
  de_isi hT hv hg hm hgi hmi he hn hd boot_isinstance (sE h1) (sE rfl) (sS rfl)
theorem di_r1 {a : Expr} (hg : Gl X "range") (hm : X.mg "range" = none) (ha : PA X [a] (tA X ga)) (h1 : noStar a = true := by rfl) : PI X tg (.Call (.Name "range" p) [a] [] pos) (tI X (gRng1 ga)) := di_range1 hg hm ha (sE h1)
end
end DL

set_option Elab.async false
set_option linter.all false
/-! Words about the walks of loops and comprehensions, for the mathematics. -/
namespace DL
open PySem L2
theorem rng1_ok {j : Int} (h : -(2 ^ 62) ≤ j ∧ j < 2 ^ 62) (M : Mem) : rng1 [.int j] M = .ok ⟨rangeD 0 j.toNat, none⟩ M := by
  unfold rng1; exact if_pos h
theorem rng1_nat {n : Nat} (h : n ≤ 1000000) (M : Mem) : rng1 [.int (n : Int)] M = .ok ⟨rangeD 0 n, none⟩ M := by
  have := rng1_ok (j := (n : Int)) (by omega) M
  rw [this]; rfl
theorem its_ok {ds : List D} {M : Mem} : Its.ok ⟨ds, none⟩ M = true := rfl
/-- a comprehension whose elements keep P and have Q -/
theorem comp_all {ds0 : List D} {ge : GE} {ρ : Rho} {P : Mem → Prop} {Q : D → Prop} : ∀ (ds : List D), (∀ d ∈ ds, ∀ M, P M → ∃ e M', P M' ∧ Q e ∧ ge (some d :: ρ) M = .ok e M') → ∀ M, P M →
    ∃ es M', P M' ∧ es.length = ds.length ∧ (∀ e ∈ es, Q e) ∧ compGo ⟨ds0, none⟩ gAll ge ds ρ M = .ok es M'
  | [], h, M, hM => ⟨[], M, hM, rfl, (fun e he => by cases he), rfl⟩
  | d :: ds, h, M, hM => by
    obtain ⟨e, M1, h1, q1, e1⟩ := h d List.mem_cons_self M hM
    obtain ⟨es, M2, h2, l2, q2, e2⟩ := comp_all (ds0 := ds0) ds (fun d' hd => h d' (List.mem_cons_of_mem _ hd)) M1 h1
    refine ⟨e :: es, M2, h2, by simp [l2], fun x hx => ?_, ?_⟩
    · rcases List.mem_cons.mp hx with z | z
      · subst z; exact q1
      · exact q2 x z
    · simp [compGo, its_ok, gAll, e1, e2]
/-- a comprehension that reckons alone -/
theorem comp_map {ds0 : List D} {ge : GE} {ρ : Rho} {f : D → D} {M : Mem} : ∀ (ds : List D), (∀ d ∈ ds, ge (some d :: ρ) M = .ok (f d) M) → compGo ⟨ds0, none⟩ gAll ge ds ρ M = .ok (ds.map f) M
  | [], h => rfl
  | d :: ds, h => by
    have e1 := h d List.mem_cons_self
    have e2 := comp_map (ds0 := ds0) ds fun d' hd => h d' (List.mem_cons_of_mem _ hd)
    simp [compGo, its_ok, gAll, e1, e2]
/-- a loop that keeps its word and leaves nowhere -/
theorem for_all {ds0 : List D} {s : GG} {body : GS} {W : Rho → Mem → Prop} : ∀ (ds : List D), (∀ d ∈ ds, ∀ ρ M, W ρ M → ∃ ρ1 ρ2 M2, s d ρ = some ρ1 ∧ body ρ1 M = .ok (.nx ρ2) M2 ∧ W ρ2 M2) → ∀ ρ M, W ρ M →
    ∃ ρ' M', W ρ' M' ∧ forGo ⟨ds0, none⟩ s body ds ρ M = .ok (.nx ρ') M'
  | [], h, ρ, M, hW => ⟨ρ, M, hW, rfl⟩
  | d :: ds, h, ρ, M, hW => by
    obtain ⟨ρ1, ρ2, M2, e1, e2, h2⟩ := h d List.mem_cons_self ρ M hW
    obtain ⟨ρ', M', h3, e3⟩ := for_all (ds0 := ds0) ds (fun d' hd => h d' (List.mem_cons_of_mem _ hd)) ρ2 M2 h2
    exact ⟨ρ', M', h3, by simp [forGo, its_ok, e1, e2, e3]⟩
theorem rangeD_length (lo : Int) (n : Nat) : (rangeD lo n).length = n := by simp [rangeD]
/-- data of whole numbers alone -/
theorem ints_of {ds : List D} {Q : Int → Prop} (h : ∀ d ∈ ds, ∃ k, d = .int k ∧ Q k) : ∃ ks : List Int, ds = ks.map D.int ∧ ∀ k ∈ ks, Q k := by
  induction ds with
  | nil => exact ⟨[], rfl, fun k hk => by cases hk⟩
  | cons d ds ih =>
    obtain ⟨k, e, q⟩ := h d List.mem_cons_self
    obtain ⟨ks, e2, q2⟩ := ih fun d' hd => h d' (List.mem_cons_of_mem _ hd)
    refine ⟨k :: ks, by rw [e, e2]; rfl, fun x hx => ?_⟩
    rcases List.mem_cons.mp hx with z | z
    · subst z; exact q
    · exact q2 x z
/-- data that are rows of whole numbers -/
theorem rows_of {ds : List D} {Q : List Int → Prop} (h : ∀ d ∈ ds, ∃ ks : List Int, d = .tup (ks.map D.int) ∧ Q ks) : ∃ rs : List (List Int), ds = rs.map (fun r => D.tup (r.map D.int)) ∧ ∀ r ∈ rs, Q r := by
  induction ds with
  | nil => exact ⟨[], rfl, fun k hk => by cases hk⟩
  | cons d ds ih =>
    obtain ⟨k, e, q⟩ := h d List.mem_cons_self
    obtain ⟨ks, e2, q2⟩ := ih fun d' hd => h d' (List.mem_cons_of_mem _ hd)
    refine ⟨k :: ks, by rw [e, e2]; rfl, fun x hx => ?_⟩
    rcases List.mem_cons.mp hx with z | z
    · subst z; exact q
    · exact q2 x z
theorem le_line {n : Nat} (h : n ≤ 1000000) : n ≤ sizeLine := Nat.le_trans h (by rw [sizeLine_eq]; decide)
end DL
namespace DL
@[simp] theorem eqB_ii (i j : Int) : eqB (.int i) (.int j) = (i == j) := by simp [eqB]
@[simp] theorem eqB_bb (i j : Bool) : eqB (.bl i) (.bl j) = (i == j) := by simp [eqB]
@[simp] theorem eqB_ss (i j : PySem.Str) : eqB (.str i) (.str j) = (i == j) := by simp [eqB]
@[simp] theorem eqB_nn : eqB .non .non = true := by simp [eqB]
@[simp] theorem eqB_in (i : Int) : eqB (.int i) .non = false := by simp [eqB]
@[simp] theorem eqB_ni (i : Int) : eqB .non (.int i) = false := by simp [eqB]
@[simp] theorem eqB_tt (xs ys : List D) : eqB (.tup xs) (.tup ys) = eqBs xs ys := by simp [eqB]
@[simp] theorem eqB_ll (xs ys : List D) : eqB (.lst xs) (.lst ys) = eqBs xs ys := by simp [eqB]
@[simp] theorem eqBs_nil : eqBs [] [] = true := by simp [eqBs]
@[simp] theorem eqBs_nc (y : D) (ys : List D) : eqBs [] (y :: ys) = false := by simp [eqBs]
@[simp] theorem eqBs_cn (y : D) (ys : List D) : eqBs (y :: ys) [] = false := by simp [eqBs]
@[simp] theorem eqBs_cc (x y : D) (xs ys : List D) : eqBs (x :: xs) (y :: ys) = (eqB x y && eqBs xs ys) := by simp [eqBs]
@[simp] theorem cmpOk_int (n : Nat) (i : Int) : cmpOk n (.int i) = true := by cases n <;> simp [cmpOk]
@[simp] theorem cmpOk_bl (n : Nat) (i : Bool) : cmpOk n (.bl i) = true := by cases n <;> simp [cmpOk]
@[simp] theorem cmpOk_non (n : Nat) : cmpOk n .non = true := by cases n <;> simp [cmpOk]
@[simp] theorem cmpOk_str (n : Nat) (x : PySem.Str) : cmpOk n (.str x) = PySem.PyData.strOk x := by cases n <;> simp [cmpOk]
@[simp] theorem cmpOk_tup (n : Nat) (xs : List D) : cmpOk (n + 1) (.tup xs) = cmpOks n xs := by simp [cmpOk]
@[simp] theorem cmpOk_lst (n : Nat) (xs : List D) : cmpOk (n + 1) (.lst xs) = cmpOks n xs := by simp [cmpOk]
@[simp] theorem cmpOk_tup40 (xs : List D) : cmpOk 40 (.tup xs) = cmpOks 39 xs := cmpOk_tup 39 xs
@[simp] theorem cmpOk_lst40 (xs : List D) : cmpOk 40 (.lst xs) = cmpOks 39 xs := cmpOk_lst 39 xs
@[simp] theorem cmpOks_nil (n : Nat) : cmpOks n [] = true := by cases n <;> simp [cmpOks]
@[simp] theorem cmpOks_cons (n : Nat) (x : D) (xs : List D) : cmpOks n (x :: xs) = (cmpOk n x && cmpOks n xs) := by cases n <;> simp [cmpOks]
@[simp] theorem now_int (i : Int) (M : Mem) : now (.int i) M = .int i := rfl
@[simp] theorem now_bl (i : Bool) (M : Mem) : now (.bl i) M = .bl i := rfl
@[simp] theorem now_non (M : Mem) : now .non M = .non := rfl
@[simp] theorem now_str (x : PySem.Str) (M : Mem) : now (.str x) M = .str x := rfl
@[simp] theorem now_tup (xs : List D) (M : Mem) : now (.tup xs) M = .tup xs := rfl
@[simp] theorem now_lst (xs : List D) (M : Mem) : now (.lst xs) M = .lst xs := rfl
end DL

set_option Elab.async false
set_option linter.all false
set_option maxRecDepth 100000
/-! The data layer: exceptions: their class asked, raised, caught. -/
namespace DL
open PySem PySem.Spec PyProof.Rows L2 PySem.W PySem.Builtin PySem.Builtin.ObjectAttr PySem.Builtin.Getset_descriptor
/-- what the written part says of an exception class at C -/
structure ExcK (K : Frag) (C : Addr) : Prop where
  cl : (clsIn K C).isSome = true
  ca : findIn K (.ref C) "__class__" = some (some (.builtin "object.__class__"))
  sp : specialIn K (.builtin "object.__class__") "__get__" = some (some (.builtin "getset_descriptor.__get__"))
  tk : takesIn K (.builtin "object.__class__") = some true
  ob : mroIn K C (.type "object") = some true
  ga : findIn K (.ref C) "__getattribute__" = some (some (.builtin "BaseException.__getattribute__"))
  gh : findIn K (.ref C) "__getattr__" = some none
  be : mroIn K C (.type "BaseException") = some true
/-- an object of that class -/
def OfC (a C : Addr) (h : Heap) : Prop := ∃ o, h.get? a = some o ∧ o.cls = .ref C
section
variable {prog : Program} {w : World} {A : Around} {E : Value → Shared → Prop} {K : Frag} {a C : Addr} {h : Heap} {g : Array GenState} {d : Drawn} {t : Nat} {os : OsState}
theorem OfC.type {M : Model} (I : OfC a C h) : Looks M h (typeOf (.ref a)) (.ref C) := by
  obtain ⟨o, e, c⟩ := I
  exact c ▸ (Looks.ld e).andThen .now
end
end DL

set_option Elab.async false
set_option linter.all false
set_option maxRecDepth 100000
/-! The data layer: raise, try. -/
namespace DL
open PySem PySem.Spec PyProof.Rows L2

/-! ### raise -/
abbrev bmVE : List Value := [.type "ValueError", .type "Exception", .type "BaseException", .type "object"]
/-- an exception class of the text: called c, at C -/
structure Ec (K : PySem.W.Frag) (mg : Str → Option Value) (c : Str) (C : Addr) : Prop where
  at_ : ClsAt K c C
  m : mg c = some (.ref C)
  k : ExcK K C
  ex : PySem.W.excIn K C bmVE "ValueError.__new__" = true
  ty : PySem.W.typeIn K (.ref C) = some (.type "type")
  sf : PySem.W.mroIn K C (.ref C) = some true
/-- the class's object, its own names, what stands behind it -/
theorem own_in {K : PySem.W.Frag} {h : Heap} {C : Addr} {bmB : List Value} {newId : String} (X : K.In h) (q : PySem.W.excIn K C bmB newId = true) :
    ∃ bm N nm qn bs hdct sn sub ab col dd k0 k1 k2 k3 k5 mN, h.get? C = some (excClassObj nm qn C N bs bm hdct sn sub ab col dd k0 k1 k2 k3 k5 newId) ∧ h.Ns N mN ∧ mN "__init__" = none ∧ OwnTail h bmB bm := by
  unfold PySem.W.excIn at q
  split at q
  · rename_i d1 cd s1 at1
    split at q
    · rename_i C2 rest j0 j1 j2 j3 nn j5 e1 e2
      simp only [Bool.and_eq_true, beq_iff_eq, Bool.not_eq_true'] at q
      obtain ⟨⟨⟨⟨⟨r1, r2⟩, r3⟩, r4⟩, r5⟩, r6⟩ := q
      subst r1; subst r2
      cases cd with
      | mk c1 c2 c3 c4 c5 c6 c7 c8 c9 c10 c11 =>
        dsimp only at e1 r3 r5 r6
        subst e1; subst r3
        have e3 : s1 = #[j0, j1, j2, j3, some (.builtin nn), j5] := by
          cases s1 with
          | mk l =>
            have e4 : l = _ := e2
            rw [e4]
        subst e3
        refine ⟨rest, c4, c1, c5, c2, c6, c7, c8, c9, c10, d1, j0, j1, j2, j3, j5, h.nsMap c4, X _ _ at1, ?_, PySem.W.nsMap_none_of_in X r5 r6, PySem.W.tail_of_in X r4⟩
        exact Heap.Ns.of_isNs (PySem.W.isNs_of_in X r5)
    · cases q
  · cases q
def sRaise (c : Str) (g : GE) : GS := fun ρ M => (g ρ M).bind fun _ M1 => .err c M1
theorem ds_raise {X : Cx} {c : Str} {C : Addr} {e : Expr} {g : GE} {np cpos pos : Pos} (k : Ec X.K X.mg c C) (hc : X.calm = true) (hg : Gl X c) (he : PE X e (tE X g)) (h1 : noStar e = true := by rfl) (hd : (c == ("__debug__" : Str)) = false := by decide) :
    PS X (.Raise (some (.Call (.Name c np) [e] [] cpos)) none pos) (tS X (sRaise c g)) := by
  intro pins s σ H D I h
  obtain ⟨ρ, θ, M, hdn, hw, h⟩ := h
  obtain ⟨bm, N, nm, qn, bs, hdct, sn, sub, ab, col, dd, k0, k1, k2, k3, k5, mN, hC, hN, hni, T⟩ := own_in I.ok.mod.kin k.ex
  have hs : starEach [e] X.env = (false, eval e X.env) :: starEach [] X.env := sE h1
  have hplain : (backTo cpos (starEach [e] X.env)).any (·.1) = false := sS (by unfold noStars; simp [h1])
  refine wpAny_Raise_call_subT (C := C) (nm := nm) (q := qn) (N := N) (bs := bs) (bm := bm) (hdct := hdct) (sn := sn) (sub := sub) (ab := ab) (col := col) (dd := dd) (k0 := k0) (k1 := k1) (k2 := k2) (k3 := k3) (k5 := k5)
    PySem.F.excBase_ValueError (mN := mN) (T.hasType PySem.F.excBase_ValueError.hasBase) (I.ok.hd hc) hplain hni (ld_glob I hg k.m ⟨rfl, ?_⟩ hd)
  have hv := pa_cons he pa_nil hs cpos pins s σ H (fun vs H1 => vs.length = 1 ∧ ∃ θ1 M1, Go X.K θ H θ1 H1 M1 ∧ ErrOk X θ1 H1 c M1) I (by
    refine thenE hdn hw (FinS X θ H D) (fun c M' h => h) (fun h => h) h fun d M1 v θ1 H1 g1 r1 h2 => ?_
    exact ⟨rfl, θ1, M1, g1, ErrOk.go g1 h2⟩)
  rw [hs] at hv ⊢
  refine Calls.evalArgs_plain (wpAny_mono hv (fun us s2 hq => ⟨rfl, ?_⟩) fun _ _ y => y)
  obtain ⟨vs, H1, I1, rv, hl, θ1, M1, g1, ok⟩ := hq
  refine ⟨by show us.length ≤ sizeLine; rw [← rv.length, hl]; exact Nat.le_trans (by decide : 1 ≤ 1000000) (by rw [sizeLine_eq]; decide), I1.bk _ _ hC, hN.keeps I1.bk, T.keeps I1.bk, fun h' e' hm => ?_⟩
  exact ok C θ1 H1 e' _ k.at_ (.refl g1.wr) ⟨pins, σ, .inl ⟨s2.heap, us, I1, hm⟩⟩

/-! ### an exception is caught -/
section
variable {M : Model} {A : Around} {E : Value → Shared → Prop} {K : PySem.W.Frag} {a C G : Addr} {h : Heap} {g : Array GenState} {d : Drawn} {t : Nat} {os : OsState}
end
end DL

set_option Elab.async false
set_option linter.all false
set_option maxRecDepth 100000
/-! The data layer: try with one handler. -/
namespace DL
open PySem PySem.Spec PyProof.Rows L2
section
variable {X : Cx} {pins : List (Addr × Obj)} {σ : L2.St} {H : Hp} {s : Shared} {B : Heap} {a C : Addr} {a0 : Value}
end

/-! ### try: .. except G as n: .. -/
def unb (i : Nat) : Fl → Fl
  | .nx ρ => .nx (ρ.set i none)
  | .bk ρ => .bk (ρ.set i none)
  | .ct ρ => .ct (ρ.set i none)
  | .rt d => .rt d
/-- behind a refusal nothing is known of the names but the handler's own -/
def sTry (i : Nat) (ok : Str → Bool) (gb gh : GS) : GS := fun ρ M => match gb ρ M with
  | .err c M1 => if ok c then match gh ((List.replicate ρ.length none).set i (some (.exc c))) M1 with
      | .ok f M2 => .ok (unb i f) M2
      | _ => .bad
    else .bad
  | o => o
abbrev tryB (X : Cx) (pn : List (Addr × Obj)) (E : Value → Shared → Prop) : Cx := { X with pn := pn, xe := E }
abbrev hand (X : Cx) (pn : List (Addr × Obj)) (a : Addr) : Cx := { X with A := X.A.mark (some (.ref a)), calm := false, pn := pn, xe := fun _ _ => False }
section
variable {X : Cx} {pins pins' pn : List (Addr × Obj)} {σ : L2.St} {H : Hp} {s : Shared} {E : Value → Shared → Prop} {a : Addr}
end
theorem Den.clear {K : PySem.W.Frag} {θ : List Addr} {H : Hp} {σ : L2.St} {ρ : Rho} (h : Den K θ H σ ρ) (i : Nat) : Den K θ H (σ.set i none) (ρ.set i none) := by
  refine ⟨by rw [List.length_set, List.length_set]; exact h.len, fun j d e => ?_⟩
  by_cases hj : j = i
  · subst hj
    have hl : j < ρ.length := by have := (List.getElem?_eq_some_iff.mp e).1; rw [List.length_set] at this; exact this
    rw [List.getElem?_set_self hl] at e
    cases e
  · rw [List.getElem?_set_ne (Ne.symm hj)] at e
    obtain ⟨u, e1, r1⟩ := h.at_ j d e
    exact ⟨u, by rw [List.getElem?_set_ne (Ne.symm hj)]; exact e1, r1⟩
end DL

set_option Elab.async false
set_option linter.all false
set_option maxRecDepth 100000
/-! The data layer: divmod, texts in braces, count, index, isinstance of an exception. -/
namespace DL
open PySem PySem.Spec PyProof.Rows L2
section
variable {X : Cx}
/-! ### divmod -/
def divF : FD := fun ds M => match ds with
  | [.int i, .int j] => if 0 < j ∧ j.natAbs.log2 < 9000 then .ok (.tup [.int (i / j), .int (i % j)]) M else .bad
  | _ => .bad
/-! ### f-strings -/
def fmtD : D → Option Str
  | .int a => if a.natAbs.log2 < 1920 then some (toString a) else none
  | .str x => if x.length ≤ sizeLine then some x else none
  | _ => none
def gFmt (g : GE) : GE := fun ρ M => (g ρ M).bind fun d M1 => match fmtD d with
  | some x => .ok (.str x) M1
  | none => .bad
inductive PEs (X : Cx) : List Expr → List GE → Prop where
  | nil : PEs X [] []
  | cons {e : Expr} {es : List Expr} {g : GE} {gs : List GE} : PE X e (tE X g) → PEs X es gs → PEs X (e :: es) (g :: gs)
def joinG : List GE → Str → GE
  | [], acc => fun _ M => .ok (.str acc) M
  | g :: gs, acc => fun ρ M => (g ρ M).bind fun d M1 => match d with
    | .str y => if (acc ++ y).length ≤ sizeLine then joinG gs (acc ++ y) ρ M1 else .bad
    | _ => .bad
/-! ### xs.count(x), xs.index(x) of flat items -/
def lstOf (d : D) (M : Mem) : Option (List D) := match d with
  | .lst xs => some xs
  | .ro xs => some xs
  | .mr k => match M[k]? with
    | some (.lst xs) => some xs
    | _ => none
  | _ => none
def rCount (K : PySem.W.Frag) : V → List V → Hp → VK → Prop := fun x vs H Q => ∃ p xs y, x = .ref p ∧ vs = [y] ∧ SqL K H p xs ∧ flatV y = true ∧ xs.all flatV = true ∧ Q (.int (xs.countP fun z => eqV z y)) H
def rIndex (K : PySem.W.Frag) : V → List V → Hp → VK → Prop := fun x vs H Q => ∃ p xs y j, x = .ref p ∧ vs = [y] ∧ SqL K H p xs ∧ flatV y = true ∧ xs.all flatV = true ∧ (xs.findIdx? fun z => eqV z y) = some j ∧ Q (.int (j : Nat)) H
def gMeth (F : List D → D → Mem → Out D) (go ge : GE) : GE := fun ρ M => (go ρ M).bind fun o M1 => match lstOf o M1 with
  | some _ => (ge ρ M1).bind fun x M2 => match lstOf o M2 with
    | some xs => F xs x M2
    | none => .bad
  | none => .bad
def countF (xs : List D) (x : D) (M : Mem) : Out D := if flatD x && xs.all flatD then .ok (.int (xs.countP fun y => eqB y x)) M else .bad
def indexF (xs : List D) (x : D) (M : Mem) : Out D := if flatD x && xs.all flatD then (match xs.findIdx? fun y => eqB y x with | some j => .ok (.int (j : Nat)) M | none => .bad) else .bad
section
variable {o e : Expr} {go ge : GE} {apos cpos : Pos}
theorem fewOne {env : Env} (h : noStar e = true) : ((backTo cpos (starEach [e] env)).all (fun x => !x.1) && (backToKw cpos (keywordEach [] env)).all (fun x => x.1.isSome)
      && decide ([e].length + ([] : List Keyword).length + (if ([] : List Keyword).isEmpty then 0 else 1) < 30)) = true := by
  rw [sE h]; rfl
end

/-! ### isinstance of an exception -/
def gIsx (ok : Str → Option Bool) (g : GE) : GE := fun ρ M => (g ρ M).bind fun d M1 => match d with
  | .exc c => match ok c with
    | some b => .ok (.bl b) M1
    | none => .bad
  | _ => .bad
def okL (l : List (Str × Bool)) (c : Str) : Option Bool := l.lookup c
section
variable {e : Expr} {g : GE} {p p2 pos : Pos} {x : Str} {ok : Str → Option Bool}
end
/-! ### which refusals a handler takes -/
end
end DL
namespace DL
open PySem L2
theorem cx_no {P : Program} {w : World} {H : Hp} {s : Shared} {e : Value} {s' : Shared} (z : CXd P w [] H s (fun _ _ _ => False) e s') : False := by
  obtain ⟨_, _, _, _, _, _, _, _, _, _, _, _, _, _, h⟩ := z
  exact h
end DL

set_option Elab.async false
set_option linter.all false
set_option maxRecDepth 100000
/-! The data layer: instances of the text's own classes: made, their fields, their methods; x += e. -/
namespace DL
open PySem PySem.Spec PyProof.Rows L2
section
variable {K : PySem.W.Frag} {θ : List Addr} {H : Hp} {M : Mem}
def putFD (f : Str) (d : D) : List (Str × D) → List (Str × D)
  | [] => [(f, d)]
  | (g, x) :: r => if g = f then (g, d) :: r else (g, x) :: putFD f d r
end
/-- a class of the text: called c, at C -/
structure Kc (K : PySem.W.Frag) (mg : Str → Option Value) (c : Str) (C : Addr) : Prop where
  at_ : ClsAt K c C
  m : mg c = some (.ref C)
  cl : Cls K C
/-- the instance that o is -/
def objOf (c : Str) (o : D) (M : Mem) : Option (Nat × List (Str × D)) := match o with
  | .mr k => match M[k]? with
    | some (.obj c' fs) => if c' = c then some (k, fs) else none
    | _ => none
  | _ => none
section
variable {X : Cx} {c f : Str} {C : Addr} {o e value : Expr} {g go gv : GE} {pos pos' apos p : Pos}
def gFld (c f : Str) (g : GE) : GE := fun ρ M => (g ρ M).bind fun o M1 => match objOf c o M1 with
  | some (_, fs) => match fs.lookup f with
    | some d => .ok d M1
    | none => .bad
  | none => .bad
def setF (c f : Str) (o y : D) (M : Mem) : Out Unit := match objOf c o M with
  | some (k, fs) => if fs.length < 1000 then .ok () (M.set k (.obj c (putFD f y fs))) else .bad
  | none => .bad
def sFldD (c f : Str) (go gv : GE) : GS := fun ρ M => (gv ρ M).bind fun y M1 => (go ρ M1).bind fun o M2 => (setF c f o y M2).bind fun _ M3 => .ok (.nx ρ) M3
/-- o.m(..) -/
def gMth (c m : Str) (n : Nat) (F : FD) (go : GE) (ga : GA) : GE := fun ρ M => (go ρ M).bind fun o M1 => match objOf c o M1 with
  | some (_, fs) => if fs.lookup m = none then (ga ρ M1).bind fun ds M2 => if ds.length + 1 = n then F (o :: ds) M2 else .bad else .bad
  | none => .bad
section
variable {m : Str} {k n : Nat} {fa : Addr} {fd : FuncData} {ps : List Str} {F : FD} {ga : GA} {es : List Expr} {pl : Sem Bool}
end
/-- C(..) -/
def gMake (c : Str) (n : Nat) (F : FD) (ga : GA) : GE := fun ρ M => (ga ρ M).bind fun ds M1 => if ds.length + 1 = n then (F (.mr M1.length :: ds) (M1 ++ [.obj c []])).bind fun d M2 => match d with
    | .non => .ok (.mr M1.length) M2
    | _ => .bad
  else .bad
section
variable {x : Str} {k n : Nat} {fa : Addr} {fd : FuncData} {ps : List Str} {F : FD} {ga : GA} {es : List Expr}
end
/-! ### x += e, o.f += e -/
def augI (add : Bool) (x y : D) (M : Mem) : Out D := match x, y with
  | .int i, .int j => .ok (.int (if add then i + j else i - j)) M
  | _, _ => .bad
def sAug (i : Nat) (add : Bool) (g : GE) : GS := fun ρ M => (gVar i ρ M).bind fun x M0 => (g ρ M0).bind fun y M1 => (augI add x y M1).bind fun z M2 => .ok (.nx (ρ.set i (some z))) M2
theorem ds_aug {i : Nat} {x : Str} {add : Bool} {op : Operator} (hop : op = if add then .Add else .Sub) (hN : X.N.Nodup) (hi : X.N[i]? = some x) (hx : Loc X.env.scope x) (he : PE X e (tE X g)) (hf : X.fn x = true ∨ X.env.scope.names.lookup x = some .local := by first | exact .inl rfl | exact .inr rfl | assumption) :
    PS X (.AugAssign (.Name x pos') op e pos) (tS X (sAug i add g)) := by
  have ip : PIp X op (ipI fun i j => if add then i + j else i - j) := by
    subst hop
    cases add with
    | true => exact ip_add
    | false => exact ip_sub
  refine (ps_aug hN hi hx he ip hf).of fun D σ H ⟨ρ, θ, M, hd, hw, h⟩ => ?_
  unfold sAug gVar at h
  split at h
  · rename_i d q
    obtain ⟨v, e1, r⟩ := hd.at_ i d q
    refine ⟨v, e1, ?_⟩
    have h : FinS X θ H D ((g ρ M).bind fun y M1 => (augI add d y M1).bind fun z M2 => .ok (.nx (ρ.set i (some z))) M2) := h
    refine thenE hd hw (FinS X θ H D) (fun c M' h => h) (fun h => h) h fun y M1 vy θ1 H1 g1 r1 h1 => ?_
    cases d with
    | int a =>
      cases y with
      | int b => exact ⟨a, b, r, r1, h1 _ θ1 H1 g1 ((hd.go g1).set (d := .int (if add then a + b else a - b)) rfl i)⟩
      | _ => exact h1.elim
    | _ => exact h1.elim
  · exact h.elim
end
end DL

set_option Elab.async false
set_option linter.all false
set_option maxRecDepth 100000
/-! The data layer: lists that may change, once more: xs.clear(), xs.pop(), a slice that may change. -/
namespace DL
open PySem PySem.Spec PyProof.Rows L2
section
variable {X : Cx}
def gClr (go : GE) : GE := fun ρ M => (go ρ M).bind fun o M1 => match o with
  | .mr k => match M1[k]? with
    | some (.lst _) => .ok .non (M1.set k (.lst []))
    | _ => .bad
  | _ => .bad
def gPopL (go : GE) : GE := fun ρ M => (go ρ M).bind fun o M1 => match o with
  | .mr k => match M1[k]? with
    | some (.lst xs) => match xs[xs.length - 1]? with
      | some y => .ok y (M1.set k (.lst xs.dropLast))
      | none => .bad
    | _ => .bad
  | _ => .bad
/-! ### a slice that may change -/
def sliceM (x : D) (lo hi : Option Int) (M : Mem) : Out D := match mlOf x M with
  | some xs => .ok (.mr M.length) (M ++ [.lst (cutD xs lo hi)])
  | none => .bad
def gSlM (g : GE) (gl gh : GO) : GE := fun ρ M => (g ρ M).bind fun x M1 => (gl ρ M1).bind fun lo M2 => (gh ρ M2).bind fun hi M3 => sliceM x lo hi M3
def rSlM (X : Cx) : V → Option Int → Option Int → Hp → VK → Prop := fun x lo hi H Q => ∃ θ M d, Wr X.K θ H M ∧ isD X.K θ H d x ∧ FinE X θ H Q (sliceM d lo hi M)
end
end DL

set_option Elab.async false
set_option linter.all false
set_option maxRecDepth 100000
set_option maxHeartbeats 4000000
/-! The data layer: enumerate. -/
namespace DL
open PySem PySem.Spec PyProof.Rows L2
section
variable {prog : Program} {w : World} {A : Around} {E : Value → Shared → Prop} {s : Shared}
end
open AutoSeq1 (wpAny_loadPart') in
section
variable {X : Cx} {pins : List (Addr × Obj)} {σ : L2.St} {H : Hp} {s : Shared}
end
/-- pairs of a count and the thing there: of the list (b = false) or tuple at a -/
def SqB (K : PySem.W.Frag) (b : Bool) (H : Hp) (a : Addr) (xs : List V) : Prop := match b with
  | true => SqT K H a xs
  | false => SqL K H a xs
def Iten (K : PySem.W.Frag) (b : Bool) (a : Addr) : It :=
  ⟨fun i H => ∃ xs x, SqB K b H a xs ∧ xs[i]? = some x, fun i H x H' => ∃ p y, H p = none ∧ H' = upd H p (.tup [.int (i : Int), y]) ∧ x = .ref p ∧ ∀ xs, SqB K b H a xs → xs[i]? = some y, fun i H => ∃ xs, SqB K b H a xs ∧ xs.length ≤ i⟩
def SeqIter (b : Bool) (h : Heap) (it a : Addr) (i : Nat) : Prop := match b with
  | true => h.IsTupleIter it a i
  | false => h.IsListIter it a i
theorem SeqIter.at {b : Bool} {h h' : Heap} {it a : Addr} {i : Nat} (x : SeqIter b h it a i) (e : ∀ o, h.get? it = some o → h'.get? it = some o) : SeqIter b h' it a i := by
  cases b with
  | true => exact Heap.IsTupleIter.at x e
  | false => exact Heap.IsListIter.at x e
theorem SeqIter.obj {b : Bool} {h : Heap} {it a : Addr} {i : Nat} (x : SeqIter b h it a i) : ∃ o, h.get? it = some o ∧ (o.cls = .type "tuple_iterator" ∨ o.cls = .type "list_iterator") ∧ ∃ vs, o.data = .fields vs := by
  cases b with
  | true => obtain ⟨o, e, c, d⟩ := x; exact ⟨o, e, .inl c, _, d⟩
  | false => obtain ⟨o, e, c, d⟩ := x; exact ⟨o, e, .inr c, _, d⟩
/-- the pairs -/
def enumD (ds : List D) : List D := (List.range ds.length).zipWith (fun (k : Nat) d => D.tup [.int (k : Int), d]) ds
def enOf (ds : List D) (M : Mem) : Out Its := match ds with
  | [.lst xs] => .ok ⟨enumD xs, none⟩ M
  | [.ro xs] => .ok ⟨enumD xs, none⟩ M
  | [.tup xs] => .ok ⟨enumD xs, none⟩ M
  | _ => .bad
def gEnum (g : GA) : GI := fun ρ M => (g ρ M).bind enOf
end DL

set_option Elab.async false
set_option linter.all false
set_option maxRecDepth 100000
set_option maxHeartbeats 4000000
/-! The data layer: xs[a:c] = ys; a written table asked on the spot. -/
namespace DL
open PySem PySem.Spec PyProof.Rows L2
def setSlD (o x : D) (lo hi : Int) (M : Mem) : Out Unit := match o, x with
  | .mr k, .lst ys => match M[k]? with
    | some (.lst xs) => if 0 ≤ lo ∧ lo ≤ hi ∧ hi ≤ (xs.length : Int) ∧ xs.length + ys.length ≤ sizeLine then .ok () (M.set k (.lst (xs.take lo.toNat ++ ys ++ xs.drop hi.toNat))) else .bad
    | _ => .bad
  | _, _ => .bad
def slcGo (o x l h : D) (M : Mem) : Out Unit := match l, h with
  | .int l, .int h => setSlD o x l h M
  | _, _ => .bad
def sSlc (go gl gh g : GE) : GS := fun ρ M => (g ρ M).bind fun x M1 => (go ρ M1).bind fun o M2 => (gl ρ M2).bind fun l M3 => (gh ρ M3).bind fun h M4 => (slcGo o x l h M4).bind fun _ M5 => .ok (.nx ρ) M5
section
variable {X : Cx} {e o lo hi : Expr} {g go gl gh : GE} {pos ip sp : Pos}
/-! a, b = x, y -/
def sPar (i j : Nat) (ga : GA) : GS := fun ρ M => (ga ρ M).bind fun ds M1 => match ds with
  | [d, e] => .ok (.nx ((ρ.set i (some d)).set j (some e))) M1
  | _ => .bad
theorem ds_par {i j : Nat} {x y : Str} {a b : Expr} {ga : GA} {px py pt : Pos} {kt k2 pt2} (hc : X.calm = true) (hN : X.N.Nodup) (hi : X.N[i]? = some x) (hj : X.N[j]? = some y) (hij : i ≠ j)
    (hx : X.env.scope.names.lookup x = some .local) (hy : X.env.scope.names.lookup y = some .local) (ha : PA X [a, b] (tA X ga))
    (hw : swappedStores [.Tuple [.Name x px, .Name y py] kt pt] (.Tuple [a, b] k2 pt2) X.env = pure (some [x, y]))
    (hs : swapsWithSole [.Tuple [.Name x px, .Name y py] kt pt] (.Tuple [a, b] k2 pt2) pos.line X.env = pure false := by rfl) :
    PS X (.Assign [.Tuple [.Name x px, .Name y py] kt pt] (.Tuple [a, b] k2 pt2) pos) (tS X (sPar i j ga)) := (ps_par hc hN hi hj hij hx hy ha hw hs).of fun D σ H ⟨ρ, θ, M, hd, hwr, h⟩ => by
  refine thenA hd hwr (FinS X θ H D) (fun c M' h => h) (fun h => h) h fun ds M1 vs θ1 H1 g1 r1 h1 => ?_
  match ds, r1, h1 with
  | [d, e], ⟨v, r, e1, rv, v2, r2, e2, rv2, e3⟩, h1 =>
    have e3 : r2 = [] := e3
    subst e3 e2
    exact ⟨v, v2, e1, h1 _ θ1 H1 g1 (((hd.go g1).set rv i).set rv2 j)⟩
  | [], _, h1 => exact False.elim h1
  | [_], _, h1 => exact False.elim h1
  | _ :: _ :: _ :: _, _, h1 => exact False.elim h1
/-! ### {..}[e] -/
def tabV (tab : List (Str × Int)) : List (V × V) := tab.map fun p => (.str p.1, .int p.2)
def tabK (tab : List (Str × Int)) : List (Key × V) := tab.map fun p => (Sum.inr p.1, V.int p.2)
def tabT (tab : List (Str × Int)) : List (TE × TE) := tab.map fun p => (tC (.str p.1), tC (.int p.2))
def gDix (tab : List (Str × Int)) (g : GE) : GE := fun ρ M => (g ρ M).bind fun d M1 => match d with
  | .str x => match valV (mergeK [] (tabK tab)) (Sum.inr x) with
    | some (.int i) => .ok (.int i) M1
    | _ => .bad
  | _ => .bad
/-- what is never reached -/
def gBad : GE := fun _ _ => .bad
def sBad : GS := fun _ _ => .bad
end
end DL

set_option Elab.async false
set_option linter.all false
set_option maxRecDepth 100000
set_option maxHeartbeats 4000000
/-! The data layer: the law's call where defs with lambdas stand in the text: their code's tables are tracked from the start. -/
namespace DL
open PySem PySem.Spec PyProof.Rows L2
/-- what is tracked at first: the script (where it is none of the module's own), the tables, the module of the builtins -/
def H0 (K : PySem.W.Frag) (a : Addr) (so : Obj) (xs : List V) (ts : List Addr) (bm : Addr) (ob : Obj) : Hp := fun b =>
  if b = a then (if K.lookup a = none then some (.frz so (.lst xs)) else none) else if b ∈ ts then some (.tbl #[]) else if b = bm then some (bmO ob) else none
structure Lam (K : PySem.W.Frag) (h : Heap) (ts : List Addr) (bm : Addr) (ob : Obj) : Prop where
  tab : ∀ P ∈ ts, h.get? P = some (PySem.W.tabObj #[]) ∧ isCodeTable h P ∧ K.lookup P = none
  names : ∀ x, x ∈ lamNames → ∀ c P, PySem.W.tabIn K x = some (c, P) → P ∈ ts
  bmk : PySem.W.nsIn K mainGlobals "__builtins__" = some (some (.ref bm))
  bmh : h.get? bm = some ob
  bmc : ob.cls = .type "module" ∧ ob.dict = some builtinsNs ∧ ob.data = .plain
  bmn : bm ≠ builtinsNs ∧ bm ≠ mainGlobals
  bml : K.lookup bm = none
end DL

set_option Elab.async false
set_option linter.all false
set_option maxRecDepth 100000
set_option maxHeartbeats 4000000
/-! The data layer: lambdas, first part: a lambda that sees nothing of what is around it, made and called. -/
namespace DL
open PySem PySem.Spec PyProof.Rows L2
/-- the function object at q -/
def fnO (q : Addr) (fd : FuncData) : HO := .ext fun h => h.get? q = some { cls := .type "function", data := .func fd }
/-- the function that a lambda makes: its text, its code -/
abbrev lamFd (qual : Str) (params : Arguments) (body : Expr) (scope : Scope) (pm cv ctv : Value) : FuncData := PySem.W.kla_fn "<lambda>" qual params body scope [] pm cv ctv
def exD (k : Nat) (g : GE) : FD := fun ds M => g (rho0 k ds) M
/-- the facts of a def within which a lambda stands -/
structure TabF (K : PySem.W.Frag) (x : Str) (c P : Addr) : Prop where
  mem : x ∈ lamNames
  tab : PySem.W.tabIn K x = some (c, P)
  uniq : ∀ y, y ∈ lamNames → y ≠ x → ∀ c2, PySem.W.tabIn K y ≠ some (c2, P)
  hd : ∃ o vs file tf flags tg inF text tt, K.lookup c = some o ∧ o.cls = .type "code" ∧ o.data = .fields vs ∧ vs[11]? = some (.ref P) ∧ vs.getD 11 .none = .ref P ∧ vs.getD 18 .none = .str file tf ∧
    vs.getD 7 .none = .int flags tg ∧ vs.getD 9 .none = .bool inF ∧ vs.getD 10 .none = .int text tt ∧ c ≠ P
/-- behind the making of a lambda -/
structure Made (X : Cx) (θ : List Addr) (H : Hp) (M : Mem) (qual : Str) (params : Arguments) (body : Expr) (scope : Scope) (u : Value) (H' : Hp) : Prop where
  ex : ∃ q c pm ctv, u = .ref q ∧ H q = none ∧ H' q = some (fnO q (lamFd qual params body scope pm (.ref c) ctv)) ∧ H' c = some (codeO c qual)
  go : Go X.K θ H θ H' M
end DL

set_option Elab.async false
set_option linter.all false
set_option maxRecDepth 100000
set_option maxHeartbeats 4000000
/-! The data layer: min by a key that is a lambda; the greatest of a list of tuples of whole numbers. -/
namespace DL
open PySem PySem.Spec PyProof.Rows L2
/-- a tuple of whole numbers -/
def intsO : List D → Option (List Int)
  | [] => some []
  | .int i :: r => (intsO r).map (i :: ·)
  | _ => none
def intsT : D → Option (List Int)
  | .tup ds => intsO ds
  | _ => none
def minGo (F : FD) : List D → D → List Int → Mem → Out D
  | [], b, _, M => .ok b M
  | d :: r, b, kb, M => match F [d] M with
    | .ok k M1 => match intsT k with
      | some ks => if HT.lexLt ks kb then minGo F r d ks M1 else minGo F r b kb M1
      | none => .bad
    | _ => .bad
def minK (F : FD) (ds : List D) (M : Mem) : Out D := match ds with
  | [] => .bad
  | d :: r => match F [d] M with
    | .ok k M1 => match intsT k with
      | some ks => minGo F r d ks M1
      | none => .bad
    | _ => .bad
section
variable {X : Cx} {pins : List (Addr × Obj)} {σ : L2.St} {q c : Addr} {fd : FuncData} {px qual : Str} {k : Nat} {F : FD}
end
end DL

set_option Elab.async false
set_option linter.all false
set_option maxRecDepth 100000
set_option maxHeartbeats 4000000
/-! The data layer: min(e, key=lambda ..) as an expression; defs within which lambdas stand. -/
namespace DL
open PySem PySem.Spec PyProof.Rows L2
section
variable {X : Cx} {pins : List (Addr × Obj)} {σ : L2.St} {q c : Addr} {fd : FuncData} {px qual : Str} {k : Nat} {F : FD}
end
def gMinK (F : FD) (g : GE) : GE := fun ρ M => (g ρ M).bind fun d M1 => match d with
  | .lst ds => minK F ds M1
  | .ro ds => minK F ds M1
  | _ => .bad
end DL

set_option Elab.async false
set_option linter.all false
set_option maxRecDepth 100000
set_option maxHeartbeats 4000000
/-! The data layer: the greatest of a list of tuples of whole numbers; the facts of tables. -/
namespace DL
open PySem PySem.Spec PyProof.Rows L2
section
open PySem.SeqAt
open PySem.AutoSeq1 (wpAny_loadPart')
open PySem.MeetsSeq PySem.MeetsSeq2 PySem.MeetsSeq3
end
/-- the greatest, the first of like ones -/
def maxGo : List D → D → List Int → Option D
  | [], b, _ => some b
  | d :: r, b, kb => match intsT d with
    | some ks => if HT.lexLt kb ks then maxGo r d ks else maxGo r b kb
    | none => none
def maxL (ds : List D) : Option D := match ds with
  | [] => none
  | d :: r => match intsT d with
    | some ks => maxGo r d ks
    | none => none
section
variable {X : Cx} {pins : List (Addr × Obj)} {σ : L2.St}
/-- max of two whole numbers, or of a list of tuples -/
def maxF1 : FD := fun ds M => match ds with
  | [.lst xs] => match maxL xs with
    | some d => .ok d M
    | none => .bad
  | [.ro xs] => match maxL xs with
    | some d => .ok d M
    | none => .bad
  | ds => maxF ds M
end
end DL

set_option Elab.async false
set_option linter.all false
set_option maxRecDepth 100000
set_option maxHeartbeats 4000000
/-! The data layer: texts: their signs, in, their methods; constants of the module. -/
namespace DL
open PySem PySem.Spec PyProof.Rows L2
section
variable {X : Cx} {o e : Expr} {go ge : GE} {apos cpos : Pos}
/-! ### x[i], of a text too -/
def ixA : F2 := fun x y M => match x, y with
  | .str z, .int i => if z.length ≤ sizeLine then (match atI z.cps.toList i with
    | some c => .ok (.str ⟨#[c]⟩) M
    | none => .bad) else .bad
  | x, y => ixD x y M
/-! ### in, of a text too -/
def occB (j i : Str) : Bool := !(Builtin.Str.occurrences j i 0 j.length 1).isEmpty
def inA : F2 := fun x y M => match x, y with
  | .str i, .str j => .ok (.bl (occB j i)) M
  | x, y => inOp false x y M
/-! ### methods of a text -/
def gMethS (F : Str → D → Mem → Out D) (go ge : GE) : GE := fun ρ M => (go ρ M).bind fun o M1 => match o with
  | .str x => (ge ρ M1).bind fun d M2 => F x d M2
  | _ => .bad
def findF (x : Str) (d : D) (M : Mem) : Out D := match d with
  | .str y => .ok (.int (Txt.find x y)) M
  | _ => .bad
def rFindS : V → List V → Hp → VK → Prop := fun x vs H Q => ∃ a b, x = .str a ∧ vs = [.str b] ∧ Q (.int (Txt.find a b)) H
def indexSF (x : Str) (d : D) (M : Mem) : Out D := match d with
  | .str y => (match Builtin.Str.occurrences x y 0 x.length 1 with
    | i :: _ => .ok (.int (i : Nat)) M
    | [] => .bad)
  | _ => .bad
def rIndexS : V → List V → Hp → VK → Prop := fun x vs H Q => ∃ a b i r, x = .str a ∧ vs = [.str b] ∧ Builtin.Str.occurrences a b 0 a.length 1 = i :: r ∧ Q (.int (i : Nat)) H
/-! ### constants of the module -/
end
end DL

set_option Elab.async false
set_option linter.all false
set_option maxRecDepth 100000
set_option maxHeartbeats 4000000
/-! The data layer: texts walked sign by sign; split and join. -/
namespace DL
open PySem PySem.Spec PyProof.Rows L2
/-! ### a text walked -/
def signsD (x : Str) : List D := x.cps.toList.map fun c => D.str ⟨#[c]⟩
def Itx (x : Str) : It := ⟨fun i _ => i < x.cps.size, fun i H v H' => H' = H ∧ ∃ c, x.cps[i]? = some c ∧ v = .str ⟨#[c]⟩, fun i _ => x.cps.size ≤ i⟩
def itsA (d : D) (M : Mem) : Out Its := match d with
  | .str x => .ok ⟨signsD x, none⟩ M
  | d => itsOf d M
def gItsA (g : GE) : GI := fun ρ M => (g ρ M).bind itsA
section
variable {X : Cx} {tg : Expr}
end
/-! ### split, join -/
def strsO : List D → Option (List Str)
  | [] => some []
  | .str x :: r => (strsO r).map (x :: ·)
  | _ => none
section
open Builtin Builtin.Str
end
section
variable {X : Cx} {o e : Expr} {go ge : GE} {apos cpos : Pos}
def splitOk (x y : Str) : Bool := !(y.length == 0) && decide (x.length ≤ sizeLine) && decide ((Builtin.Str.partsBetween x (Builtin.Str.occurrences x y 0 x.length (x.length + 1)) y.length).length ≤ sizeLine) && decide ((Txt.split x y).length ≤ sizeLine)
def splitF (x : Str) (d : D) (M : Mem) : Out D := match d with
  | .str y => if splitOk x y then .ok (.lst ((Txt.split x y).map D.str)) M else .bad
  | _ => .bad
def splitM (x : Str) (d : D) (M : Mem) : Out D := match d with
  | .str y => if splitOk x y then .ok (.mr M.length) (M ++ [.lst ((Txt.split x y).map D.str)]) else .bad
  | _ => .bad
def rSplit : V → List V → Hp → VK → Prop := fun x vs H Q => ∃ a b, x = .str a ∧ vs = [.str b] ∧ splitOk a b = true ∧ ∀ l, H l = none → Q (.ref l) (upd H l (.lst ((Txt.split a b).map V.str)))
def joinF (x : Str) (d : D) (M : Mem) : Out D := match lstOf d M with
  | some ds => match strsO ds with
    | some ys => if JoinOk x ys then .ok (.str (Txt.join x ys)) M else .bad
    | none => .bad
  | none => .bad
def rJoin (K : PySem.W.Frag) : V → List V → Hp → VK → Prop := fun x vs H Q => ∃ a p ys, x = .str a ∧ vs = [.ref p] ∧ SqL K H p (ys.map V.str) ∧ JoinOk a ys = true ∧ Q (.str (Txt.join a ys)) H
end
end DL

set_option Elab.async false
set_option linter.all false
set_option maxRecDepth 100000
set_option maxHeartbeats 4000000
/-! The data layer: the signs of a text as a list; insert and pop at a place. -/
namespace DL
open PySem PySem.Spec PyProof.Rows L2
section
variable {X : Cx}
/-! ### list(text) -/
def listA : FD := fun ds M => match ds with
  | [.str x] => if x.cps.size ≤ sizeLine then .ok (.lst (signsD x)) M else .bad
  | ds => listF ds M
def listMA : FD := fun ds M => match ds with
  | [.str x] => if x.cps.size ≤ sizeLine then .ok (.mr M.length) (M ++ [.lst (signsD x)]) else .bad
  | ds => listM ds M
/-! ### methods that change a list -/
def lsM (M : Mem) (k : Nat) : Option (List D) := match M[k]? with
  | some (.lst xs) => some xs
  | _ => none
def gMM (F : List D → List D → Option (D × List D)) (go : GE) (ga : GA) : GE := fun ρ M => (go ρ M).bind fun o M1 => match o with
  | .mr k => match lsM M1 k with
    | some _ => (ga ρ M1).bind fun ds M2 => match lsM M2 k with
      | some xs => match F xs ds with
        | some r => .ok r.1 (M2.set k (.lst r.2))
        | none => .bad
      | none => .bad
    | none => .bad
  | _ => .bad
def popF (xs ds : List D) : Option (D × List D) := match ds with
  | [.int i] => if 0 ≤ i ∧ i < 2 ^ 62 then (xs[i.toNat]?).map fun d => (d, xs.eraseIdx i.toNat) else none
  | _ => none
def rInsert : V → List V → Hp → VK → Prop := fun x vs H Q => ∃ l xs i y, x = .ref l ∧ vs = [.int i, y] ∧ H l = some (.lst xs) ∧ 0 ≤ i ∧ i < 2 ^ 62 ∧ xs.length < sizeLine ∧ Q .non (upd H l (.lst (xs.take i.toNat ++ y :: xs.drop i.toNat)))
def insF (xs ds : List D) : Option (D × List D) := match ds with
  | [.int i, d] => if 0 ≤ i ∧ i < 2 ^ 62 ∧ xs.length < sizeLine then some (.non, xs.take i.toNat ++ d :: xs.drop i.toNat) else none
  | _ => none
variable {o e e2 : Expr} {go : GE} {ga : GA} {apos cpos : Pos}
end
end DL

set_option Elab.async false
set_option linter.all false
set_option maxRecDepth 100000
set_option maxHeartbeats 4000000
/-! The data layer: a comprehension whose element may raise (begun: the loop, the whole). -/
namespace DL
open PySem PySem.Spec PyProof.Rows L2
section
variable {prog : Program} {w : World} {A : Around} {R : Result → Shared → Prop} {s : Shared}
end
section
variable {M : Model} {A : Around} {E : Value → Shared → Prop} {s : Shared} {env : Env}
/-- what is to be shown behind a comprehension's block; where it raised, the block's own env is told -/
def endOf (M : Model) (A : Around) (E : Value → Shared → Prop) (use : Option (Value → Sem Unit)) (Q : Value → Shared → Prop) (acc : Value) (ce : Env) (r : Result) (s' : Shared) : Prop :=
  match r with
  | .ok f => compPost M A E use Q acc ce.locals (.ok f) s'
  | .error x => ∃ m, s'.heap.Ns ce.locals m ∧ ∀ h', Heap.SameBut ce.locals s'.heap h' → wpAny M A (passOn "comprehension.variables-let-go" x ce : Sem Value) (fun _ _ => False) E { s' with heap := h' }
end
section
variable {M : Model} {A : Around} {E : Value → Shared → Prop} {s : Shared}
end
section
variable {X : Cx} {pins : List (Addr × Obj)} {σ : L2.St} {scope : Scope} {xs R : List Str} {fp : List Addr} {s2 : Shared} {H2 : Hp} {C : Addr}
end
end DL

set_option Elab.async false
set_option linter.all false
set_option maxRecDepth 100000
set_option maxHeartbeats 4000000
/-! The data layer: a comprehension whose element may raise: its block. -/
namespace DL
open PySem PySem.Spec PyProof.Rows L2
def compGoE (t : Its) (n : Nat) (sg : GG) (gc : GT) (ge : GE) : List D → Rho → Mem → Out (List D)
  | [], ρ, M => if t.ok M then .ok [] M else .bad
  | d :: r, ρ, M => if t.ok M then
      match sg d (List.replicate n none ++ ρ) with
      | none => .bad
      | some ρ1 => match gc ρ1 M with
        | .ok true M1 => match ge ρ1 M1 with
          | .ok e M2 => (compGoE t n sg gc ge r ρ M2).bind fun es M3 => .ok (e :: es) M3
          | .err c M2 => .err c M2
          | .bad => .bad
        | .ok false M1 => compGoE t n sg gc ge r ρ M1
        | _ => .bad
    else .bad
def compCxE (X : Cx) (scope : Scope) (xs : List Str) (R : List Str) (fp : List Addr) (s : Shared) (H : Hp) (C : Addr) : Cx :=
  { compCx X scope xs R fp s H C with xe := fun e s' => ∃ a Cc c θ' H' M', e = .ref a ∧ ClsAt X.K c Cc ∧ Wr X.K θ' H' M' ∧ ErrOk X θ' H' c M' ∧ Fly (compCx X scope xs R fp s H C) H' a Cc s' }
section
variable {X : Cx} {pins : List (Addr × Obj)} {σ : L2.St} {s : Shared} {scope : Scope} {xs : List Str} {tg : Expr} {sg : GG} {R : List Str} {elt iter : Expr} {ifs : List Expr} {pos : Pos} {E : Value → Shared → Prop}
end
end DL

set_option Elab.async false
set_option linter.all false
set_option maxRecDepth 100000
set_option maxHeartbeats 4000000
/-! The data layer: a comprehension whose element may raise, as an expression and as the value of a name. -/
namespace DL
open PySem PySem.Spec PyProof.Rows L2
def gCompE (gi : GI) (n : Nat) (sg : GG) (gc : GT) (ge : GE) (mk : List D → Mem → Out D) : GE := fun ρ M => (gi ρ M).bind fun t M1 => if t.ds.length ≤ sizeLine then (compGoE t n sg gc ge t.ds ρ M1).bind mk else .bad
section
variable {X : Cx} {scope : Scope} {xs : List Str} {tg : Expr} {sg : GG} {x : Str} {px : Pos} {R : List Str} {elt iter : Expr} {ifs : List Expr} {pos : Pos} {gi : GI} {gc : GT} {ge : GE}
end
end DL

set_option Elab.async false
set_option linter.all false
set_option maxRecDepth 100000
/-! The data layer: the rules once more, the judgements wrapped, so that nothing is unfolded where a term is read. -/
namespace DL
open PySem PySem.Spec PyProof.Rows L2
structure QE (X : Cx) (e : Expr) (g : GE) : Prop where
  h : PE X e (tE X g)
structure QT (X : Cx) (e : Expr) (g : GT) : Prop where
  h : PT X e (tT X g)
structure QW (X : Cx) (e : Expr) (g : GT) : Prop where
  h : PW X e (tT X g)
structure QA (X : Cx) (es : List Expr) (g : GA) : Prop where
  h : PA X es (tA X g)
structure QS (X : Cx) (st : Stmt) (g : GS) : Prop where
  h : PS X st (tS X g)
structure QB (X : Cx) (st : List Stmt) (g : GS) : Prop where
  h : PSs X st (tS X g)
structure QI (X : Cx) (tg e : Expr) (g : GI) : Prop where
  h : PI X tg e (tI X g)
structure QG (X : Cx) (tg : Expr) (s : GG) : Prop where
  h : PG X tg (tG X s)
structure QGs (X : Cx) (tgs : List Expr) (is : List Nat) : Prop where
  h : PGs X tgs (tGs X is)
structure QP (X : Cx) (e : Option Expr) (g : GO) : Prop where
  h : PO X e (tO X g)
structure Q2 (X : Cx) (f : Value → Value → Sem Value) (F : F2) : Prop where
  h : OpR X f (rD X F)
structure QC (X : Cx) (f : Value) (F : FD) : Prop where
  h : CallR X f (rC X F)
structure QTs (X : Cx) (scope : Scope) (xs : List Str) (R : List Str) (ifs : List Expr) (gc : GT) : Prop where
  h : TestsOk X scope xs R ifs gc
structure QGG (X : Cx) (tgs : List Expr) (ss : List GG) : Prop where
  h : PGs X tgs (tGsG X ss)
structure QO (n : Nat) (sg : GG) : Prop where
  h : OwnG n sg
structure QOs (n : Nat) (ss : List GG) : Prop where
  h : OwnGs n ss
structure QF (X : Cx) (es : List Expr) (gs : List GE) : Prop where
  h : PEs X es gs
section
variable {X : Cx} {e a b c o i : Expr} {es rest : List Expr} {x : Str} {p p2 pos pos' : Pos} {g ga gb gc go gi ge : GE} {ta tb : GT} {gA : GA}
/-! operations -/
theorem q_add : Q2 X (binaryOp .Add) addD := ⟨od_add⟩
theorem q_sub : Q2 X (binaryOp .Sub) subD := ⟨od_sub⟩
theorem q_mul : Q2 X (binaryOp .Mult) mulD := ⟨od_mul⟩
theorem q_fdiv : Q2 X (binaryOp .FloorDiv) fdivD := ⟨od_fdiv⟩
theorem q_mod : Q2 X (binaryOp .Mod) modD := ⟨od_mod⟩
theorem q_pow : Q2 X (binaryOp .Pow) powD := ⟨od_pow⟩
theorem q_lt : Q2 X (compareOp .Lt) ltD := ⟨od_lt⟩
theorem q_le : Q2 X (compareOp .LtE) leD := ⟨od_le⟩
theorem q_gt : Q2 X (compareOp .Gt) gtD := ⟨od_gt⟩
theorem q_ge : Q2 X (compareOp .GtE) geD := ⟨od_ge⟩
theorem q_eq {k : Nat} (hr : Room k X.A) : Q2 X (compareOp .Eq) (eqOp false) := ⟨od_eq hr.units⟩
theorem q_ne {k : Nat} (hr : Room k X.A) : Q2 X (compareOp .NotEq) (eqOp true) := ⟨od_ne hr.units⟩
theorem q_is : Q2 X (compareOp .Is) (isOp false) := ⟨od_is⟩
theorem q_len : QC X (.builtin "len") lenF := ⟨cd_len⟩
theorem q_min (hc : X.calm = true := by rfl) : QC X (.builtin "min") minF := ⟨cd_min hc⟩
theorem q_max (hc : X.calm = true := by rfl) : QC X (.builtin "max") maxF := ⟨cd_max hc⟩
theorem q_all (hc : X.calm = true := by rfl) : QC X (.builtin "all") allF := ⟨cd_all hc⟩
theorem q_int : QC X (.type "int") intF := ⟨cd_int⟩
theorem q_list : QC X (.type "list") listF := ⟨cd_list⟩
theorem q_tuple : QC X (.type "tuple") tupleF := ⟨cd_tuple⟩
/-! expressions -/
theorem qv (i : Nat) {x : Str} {pos : Pos} (hN : X.N[i]? = some x := by rfl) (hv : Vis X.env.scope x := by first | exact Or.inl rfl | exact Or.inr (Or.inl rfl) | exact Or.inr (Or.inr rfl)) (hd : (x == ("__debug__" : Str)) = false := by decide)
    (hcd : (x == ("__classdict__" : Str)) = false := by decide) : QE X (.Name x pos) (gVar i) := ⟨vv i hN hv hd hcd⟩
theorem qe_int {i : Int} {j pos} : QE X (.Constant (.int i) j pos) (gC (.int i)) := ⟨de_int⟩
theorem qe_bl {b j pos} : QE X (.Constant (.bool b) j pos) (gC (.bl b)) := ⟨de_bl⟩
theorem qe_non {j pos} : QE X (.Constant .none j pos) (gC .non) := ⟨de_non⟩
theorem qe_str {x j pos} : QE X (.Constant (.str x) j pos) (gC (.str x)) := ⟨de_str⟩
theorem qe_neg (h : QE X a g) : QE X (.UnaryOp .USub a pos) (gNeg g) := ⟨de_neg h.h⟩
theorem qe_not (h : QE X a g) : QE X (.UnaryOp .Not a pos) (gNot (gTst g)) := ⟨de_not h.h⟩
theorem qe_op {op : Operator} {f : F2} (ho : Q2 X (binaryOp op) f) (ha : QE X a ga) (hb : QE X b gb) : QE X (.BinOp a op b pos) (g2 f ga gb) := ⟨de_op ho.h ha.h hb.h⟩
def noIn : CmpOp → Bool
  | .In => false
  | .NotIn => false
  | _ => true
theorem noIn_mark {op : CmpOp} {b : Expr} (h : noIn op = true) : behindInMarks op b = false := by
  cases op <;> first | exact nomark _ | (cases h)
theorem qe_cmp {op : CmpOp} {f : F2} (ho : Q2 X (compareOp op) f) (ha : QE X a ga) (hb : QE X b gb) (hm : noIn op = true := by rfl) : QE X (.Compare a [op] [b] pos) (g2 f ga gb) := ⟨de_cmp ho.h ha.h hb.h (noIn_mark hm)⟩
theorem qt_cmp {op : CmpOp} {f : F2} (ho : Q2 X (compareOp op) f) (ha : QE X a ga) (hb : QE X b gb) (hm : noIn op = true := by rfl) : QT X (.Compare a [op] [b] pos) (gTst (g2 f ga gb)) := ⟨dt_cmp ho.h ha.h hb.h (noIn_mark hm)⟩
theorem qe_chain {op op' : CmpOp} {f f' : F2} (ho : Q2 X (compareOp op) f) (ho' : Q2 X (compareOp op') f') (ha : QE X a ga) (hb : QE X b gb) (hc : QE X c gc) (hm : lastMarks [op, op'] [b, c] = false := by with_unfolding_all rfl) : QE X (.Compare a [op, op'] [b, c] pos) (gCh f f' ga gb gc) := ⟨de_chain ho.h ho'.h ha.h hb.h hc.h hm⟩
theorem qt_chain {op op' : CmpOp} {f f' : F2} (ho : Q2 X (compareOp op) f) (ho' : Q2 X (compareOp op') f') (ha : QE X a ga) (hb : QE X b gb) (hc : QE X c gc) (hm : lastMarks [op, op'] [b, c] = false := by with_unfolding_all rfl) : QT X (.Compare a [op, op'] [b, c] pos) (gTst (gCh f f' ga gb gc)) := ⟨dt_chain ho.h ho'.h ha.h hb.h hc.h hm⟩
theorem qe_one {op} (h : QE X a g) : QE X (.BoolOp op [a] pos) g := ⟨de_one h.h⟩
theorem qe_and (ha : QE X a ga) (hb : QE X (.BoolOp .And (b :: rest) pos) gb) : QE X (.BoolOp .And (a :: b :: rest) pos) (gAnd ga gb) := ⟨de_and ha.h hb.h⟩
theorem qe_or (ha : QE X a ga) (hb : QE X (.BoolOp .Or (b :: rest) pos) gb) : QE X (.BoolOp .Or (a :: b :: rest) pos) (gOr ga gb) := ⟨de_or ha.h hb.h⟩
theorem qw_and1 (ha : QT X a ta) : QW X (.BoolOp .And [a] pos) ta := ⟨dw_and1 ha.h⟩
theorem qw_or1 (ha : QT X a ta) : QW X (.BoolOp .Or [a] pos) ta := ⟨dw_or1 ha.h⟩
theorem qw_and (ha : QT X a ta) (hb : QW X (.BoolOp .And (b :: rest) pos) tb) : QW X (.BoolOp .And (a :: b :: rest) pos) (gAndT ta tb) := ⟨dw_and ha.h hb.h⟩
theorem qw_or (ha : QT X a ta) (hb : QW X (.BoolOp .Or (b :: rest) pos) tb) : QW X (.BoolOp .Or (a :: b :: rest) pos) (gOrT ta tb) := ⟨dw_or ha.h hb.h⟩
theorem qt_w (h : QW X a ta) : QT X a ta := ⟨PW.pt h.h⟩
theorem qt_not (h : QT X a ta) : QT X (.UnaryOp .Not a pos) (gNotT ta) := ⟨dt_not h.h⟩
theorem qt_tru (h : QE X a g) (he : ∀ whole, isTrue a X.env whole = (do let v ← whole; standAt a.pos; holding [v] (truthy v)) := by intro _; rfl) : QT X a (gTru g) := ⟨dt_tru h.h he⟩
theorem qa_nil : QA X [] DL.gNil := ⟨da_nil⟩
theorem qa_c {gr : GA} (ha : QE X e g) (hr : QA X es gr) (h : noStar e = true := by rfl) : QA X (e :: es) (DL.gCons g gr) := ⟨da_c ha.h hr.h h⟩
theorem qe_tup {x1} (h : QA X es gA) : QE X (.Tuple es x1 pos) (DL.gTup gA) := ⟨de_tup h.h⟩
theorem qe_lst (h : QA X es gA) : QE X (.List es pos) (gLst gA) := ⟨de_lst h.h⟩
theorem qe_mut (h : QA X es gA) : QE X (.List es pos) (gMut gA) := ⟨de_mut h.h⟩
theorem qp_none : QP X none gNoPart := ⟨do_none⟩
theorem qp_some (h : QE X e g) : QP X (some e) (gPart g) := ⟨do_some h.h⟩
theorem qe_slice {lo hi : Option Expr} {gl gh : GO} (he : QE X e g) (hl : QP X lo gl) (hh : QP X hi gh) : QE X (.Subscript e (.Slice lo hi none p2) pos) (gSl g gl gh) := ⟨de_slice he.h hl.h hh.h⟩
theorem qe_ix (ha : QE X a ga) (hb : QE X b gb) (hs : PlainIx b := by intro _ _; rfl) : QE X (.Subscript a b pos) (g2 ixD ga gb) := ⟨de_ix ha.h hb.h hs⟩
section
variable {apos cpos : Pos} {k n : Nat} {f : Addr} {fd : FuncData} {ps : List Str} {F : FD} {T : String} {id : String}
theorem qe_append (ho : QE X o go) (he : QE X e ge) (h1 : noStar e = true := by rfl) (hbase : attributeBase o "append" X.env (eval o X.env) = eval o X.env := by rfl) (hline : (apos.endLine == cpos.line) = true := by rfl) : QE X (.Call (.Attribute o "append" apos) [e] [] cpos) (gApp go ge) := ⟨de_append ho.h he.h hbase (fewOne h1) hline (sE h1) rfl⟩
theorem qe_cl (Fn : FnOk X.prog X.w X.K X.mg X.base (CXd X.prog X.w) k f fd ps (spD X.K n F)) (hr : Room k X.A) (hg : Gl X x) (hm : X.mg x = some (.ref f)) (hk : PySem.W.keepIn X.K (.ref f) = true) (hb : Binds X.K fd ps []) (ha : QA X (e :: es) gA)
    (hdb : (x == ("__debug__" : Str)) = false := by decide) (h1 : noStar e = true := by rfl) (h2 : noStars es = true := by rfl) : QE X (.Call (.Name x p) (e :: es) [] pos) (gCall n F gA) := ⟨de_cl Fn hr hg hm hk hb ha.h hdb h1 h2⟩
theorem qe_cB (hc : QC X (.builtin id) F) (hg : Gl X x) (hm : X.mg x = none) (hv : bootBuiltins x = some (.builtin id)) (ha : QA X (e :: es) gA) (hn : x ≠ "__name__" := by decide) (hdb : (x == ("__debug__" : Str)) = false := by decide)
    (h1 : noStar e = true := by rfl) (h2 : noStars es = true := by rfl) : QE X (.Call (.Name x p) (e :: es) [] pos) (gBlt F gA) := ⟨de_cB hc.h hg hm hv ha.h hn hdb h1 h2⟩
theorem qe_cT (hc : QC X (.type T) F) (hg : Gl X x) (hm : X.mg x = none) (hv : bootBuiltins x = some (.type T)) (ha : QA X (e :: es) gA) (hn : x ≠ "__name__" := by decide) (hdb : (x == ("__debug__" : Str)) = false := by decide)
    (h1 : noStar e = true := by rfl) (h2 : noStars es = true := by rfl) : QE X (.Call (.Name x p) (e :: es) [] pos) (gBlt F gA) := ⟨de_cT hc.h hg hm hv ha.h hn hdb h1 h2⟩
theorem qe_is (hT : PlainTy T) (hv : bootBuiltins x = some (.type T)) (hg : Gl X x) (hm : X.mg x = none) (hgi : Gl X "isinstance") (hmi : X.mg "isinstance" = none) (he : QE X e g)
    (h1 : noStar e = true := by rfl) (hn : x ≠ "__name__" := by decide) (hd : (x == ("__debug__" : Str)) = false := by decide) : QE X (.Call (.Name "isinstance" p) [e, .Name x p2] [] pos) (gIsi T g) := ⟨de_is hT hv hg hm hgi hmi he.h h1 hn hd⟩
end
/-! what is walked -/
theorem qi_r1 {tg : Expr} (hg : Gl X "range") (hm : X.mg "range" = none) (ha : QA X [a] gA) (h1 : noStar a = true := by rfl) : QI X tg (.Call (.Name "range" p) [a] [] pos) (gRng1 gA) := ⟨di_r1 hg hm ha.h h1⟩
theorem qi_seq {tg : Expr} (h : QE X e g) : QI X tg e (gIts g) := ⟨di_seq h.h⟩
section
variable {scope : Scope} {R : List Str} {iter elt : Expr} {ifs : List Expr} {gI : GI} {gC : GT} {px : Pos} {mk : List D → Mem → Out D}
theorem q_notests {xs : List Str} : QTs X scope xs R [] gAll := ⟨no_tests⟩
theorem qe_comp (hS : compChk scope X.env.kindOf [x] R X.N = true) (hm : mk = mkLst ∨ mk = mkMut) (hi : QI X (.Name x px) iter gI) (hts : QTs X scope [x] R ifs gC) (he : ∀ fp s H C, QE (compCx X scope [x] R fp s H C) elt ge)
    (hc : X.calm = true := by rfl) (hs : ∀ x, foldedSetIterable iter X.env x = pure x := by intro _; rfl) : QE X (.ListComp elt [⟨.Name x px, iter, ifs, 0⟩] scope pos) (gComp gI gC ge mk) := ⟨de_comp hS hc hm hi.h hts.h (fun fp s H C => (he fp s H C).h) hs⟩
/-! comprehensions with a target of several names -/
end
/-! statements -/
def notComp : Expr → Bool
  | .ListComp .. => false
  | .SetComp .. => false
  | .DictComp .. => false
  | _ => true
theorem swaps_no {t : Option Expr} {l : Nat} {env : Env} (h : notComp e = true) : swapsWith e t l env = pure false := by
  cases e <;> first | rfl | (simp [notComp] at h)
section
variable {st : Stmt} {stmts : List Stmt} {t u : GS}
theorem qs_nil : QB X [] sNext := ⟨ds_nil⟩
theorem qs_cons (h1 : QS X st t) (h2 : QB X stmts u) : QB X (st :: stmts) (sSeq t u) := ⟨ds_cons h1.h h2.h⟩
theorem qs_one (h1 : QS X st t) : QB X [st] t := ⟨ds_one h1.h⟩
theorem qs_set (i : Nat) {x : Str} (hN : X.N.Nodup) (he : QE X e g) (hi : X.N[i]? = some x := by rfl) (hx : Loc X.env.scope x := by first | exact Or.inl rfl | exact Or.inr rfl) (hs : notComp e = true := by rfl) (hf : X.fn x = true ∨ X.env.scope.names.lookup x = some .local := by first | exact .inl rfl | exact .inr rfl) :
    QS X (.Assign [.Name x pos'] e pos) (sSet i g) := ⟨ss i hN he.h hi hx (swaps_no hs) hf⟩
theorem qs_ret (he : QE X e g) : QS X (.Return (some e) pos) (sRet g) := ⟨ds_ret he.h⟩
theorem qs_drop (he : QE X e g) (hs : notComp e = true := by rfl) : QS X (.Expr e pos) (sDrop g) := ⟨ds_drop he.h (swaps_no hs)⟩
theorem qs_if {a b : List Stmt} {tc : GT} (hc : QT X c tc) (ha : QB X a t) (hb : QB X b u) : QS X (.If c a b pos) (sIf tc t u) := ⟨ds_if hc.h ha.h hb.h⟩
theorem qn (i : Nat) {x : Str} (hN : X.N.Nodup) (hi : X.N[i]? = some x := by rfl) (hx : Loc X.env.scope x := by first | exact Or.inl rfl | exact Or.inr rfl) (hf : X.fn x = true ∨ X.env.scope.names.lookup x = some .local := by first | exact .inl rfl | exact .inr rfl) : QG X (.Name x pos) (oneN i) := ⟨gg i hN hi hx hf⟩
theorem qgs_nil : QGs X [] [] := ⟨dgs_nil⟩
theorem qgs_c {i : Nat} {is : List Nat} (h1 : QG X e (oneN i)) (h2 : QGs X es is) (hs : (assignEach (e :: es) X.env).map (·.2) = assign e X.env :: (assignEach es X.env).map (·.2) := by rfl) : QGs X (e :: es) (i :: is) := ⟨dgs_cons h1.h h2.h hs⟩
theorem qg_tup {is : List Nat} {k n : Nat} (h : QGs X es is) (hc : X.calm = true := by rfl) (hl : is.length = n := by rfl) (hn : (assignEach es X.env).length = n := by rfl) (hst : (assignEach es X.env).findIdx? (·.1) = none := by rfl) : QG X (.Tuple es k pos) (tupN is) := ⟨dg_tup hc h.h hl hn hst⟩
theorem qs_asg {tg : Expr} {s : GG} (he : QE X e g) (hg : QG X tg s) (hs : notComp e = true := by rfl) (hw : swappedStores [tg] e X.env = pure none := by rfl) (h1 : (assignEach [tg] X.env).map (·.2) = [assign tg X.env] := by rfl) : QS X (.Assign [tg] e pos) (sAsg s g) := ⟨ds_asg he.h hg.h (swaps_no hs) hw h1⟩
theorem qs_sub {ip : Pos} (he : QE X e g) (ho : QE X o go) (hi : QE X i gi)
    (ha : ∀ v, assign (.Subscript o i ip) X.env v = (do
      let ov ← holding [v] (eval o X.env)
      let iv ← holding [v, ov] (eval i X.env)
      standAt ip
      holding [v, ov, iv] (setItem ov iv v)
      release [v, ov, iv] []) := by intro _; rfl)
    (hs : notComp e = true := by rfl) (hw : swappedStores [.Subscript o i ip] e X.env = pure none := by rfl) : QS X (.Assign [.Subscript o i ip] e pos) (sSub go gi g) := ⟨ds_sub he.h ho.h hi.h ha (by unfold swapsWithSole; exact swaps_no hs) hw rfl⟩
theorem qs_for {tg iter : Expr} {body : List Stmt} {gI : GI} {sg : GG} {gB : GS} (hp : PassesOwn (model X.prog X.w) X.A X.env X.xe) (hi : QI X tg iter gI) (hg : QG X tg sg) (hb : QB X body gB) (hc : X.calm = true := by rfl) (hs : ∀ x, foldedSetIterable iter X.env x = pure x := by intro _; rfl) :
    QS X (.For tg iter body [] pos) (sFor gI sg gB) := ⟨ds_for hp hc hi.h hg.h hb.h hs⟩
theorem qs_while {body : List Stmt} {tc : GT} {gB : GS} {n : Nat} (hp : PassesOwn (model X.prog X.w) X.A X.env X.xe) (hc : QT X c tc) (hb : QB X body gB) : QS X (.While c body [] pos) (sWhile n tc gB) := ⟨ds_while hp hc.h hb.h⟩
theorem qs_raise {x : Str} {C : Addr} {np cpos : Pos} (k : Ec X.K X.mg x C) (hg : Gl X x) (he : QE X e g) (hc : X.calm = true := by rfl) (h1 : noStar e = true := by rfl) (hd : (x == ("__debug__" : Str)) = false := by decide) : QS X (.Raise (some (.Call (.Name x np) [e] [] cpos)) none pos) (sRaise x g) := ⟨ds_raise k hc hg he.h h1 hd⟩
end
end
/-! instances -/
section
variable {X : Cx} {c f m : Str} {C : Addr} {o e value : Expr} {es : List Expr} {g go gv : GE} {gA : GA} {pos pos' apos p : Pos} {k n : Nat} {fa : Addr} {fd : FuncData} {ps : List Str} {F : FD} {pl : Sem Bool}
theorem qs_aug {x : Str} {add : Bool} {op : Operator} (i : Nat) (hN : X.N.Nodup) (hop : op = if add then .Add else .Sub) (he : QE X e g) (hi : X.N[i]? = some x := by rfl) (hx : Loc X.env.scope x := by first | exact Or.inl rfl | exact Or.inr rfl) (hf : X.fn x = true ∨ X.env.scope.names.lookup x = some .local := by first | exact .inl rfl | exact .inr rfl) :
    QS X (.AugAssign (.Name x pos') op e pos) (sAug i add g) := ⟨ds_aug hop hN hi hx he.h hf⟩
end
structure QD (X : Cx) (pos : Pos) (keys : List (Option Expr)) (values : List Expr) (tab : List (Str × Int)) : Prop where
  h : PPs X pos keys values (tabT tab)
section
variable {X : Cx} {e o lo hi i : Expr} {g go gl gh : GE} {pos ip sp dpos p1 p2 : Pos} {keys : List (Option Expr)} {values : List Expr} {tab : List (Str × Int)}
theorem qs_par {i j : Nat} {x y : Str} {a b : Expr} {ga : GA} {px py pt : Pos} {kt k2 pt2} (hN : X.N.Nodup) (ha : QA X [a, b] ga) (hc : X.calm = true := by rfl) (hi : X.N[i]? = some x := by rfl) (hj : X.N[j]? = some y := by rfl) (hij : i ≠ j := by decide)
    (hx : X.env.scope.names.lookup x = some .local := by rfl) (hy : X.env.scope.names.lookup y = some .local := by rfl)
    (hw : swappedStores [.Tuple [.Name x px, .Name y py] kt pt] (.Tuple [a, b] k2 pt2) X.env = pure (some [x, y]) := by rfl) :
    QS X (.Assign [.Tuple [.Name x px, .Name y py] kt pt] (.Tuple [a, b] k2 pt2) pos) (sPar i j ga) := ⟨ds_par hc hN hi hj hij hx hy ha.h hw rfl⟩
end
/-- a method of the text -/
structure Mf (K : PySem.W.Frag) (C : Addr) (x qual : Str) (st : Stmt) (f : Addr) (fd : FuncData) (ps : List Str) : Prop where
  F : Fun K x qual st f fd
  me : Meth K C x f
  b : Binds K fd ps []
/-- THE RULE for a def, wrapped -/
theorem fn_q {P : Program} {w : World} {K : PySem.W.Frag} {mg : Str → Option Value} {base : Heap} {x qual : Str} {st : Stmt} {f : Addr} {fd : FuncData} {N ps : List Str} {k n : Nat} {g : GS} (F : Fun K x qual st f fd) (S : FnScope N ps (defScope st)) (hn : ps.length = n)
    (hbody : ∀ (cdv : Value) (A : Around) (outer : List Env) (s : Shared) (H : Hp) (E : XK), Room k (A.deeper (envOfC qual (defScope st) s.heap.objs.size f cdv)) → QB (cxOf (CXd P w) P w K mg base N qual (defScope st) f cdv A outer s H E) (defBody st) g) :
    FnOk P w K mg base (CXd P w) (k + 1) f fd ps (spD K n (runD (N.length - n) g)) := fn_d F S hn fun cdv A outer s H E hr => (hbody cdv A outer s H E hr).h
theorem walk_d {l : PySem.W.OpenLaw} {n k : Nat} {q : Program} {loose : List Str} {XP : (Str → Option Value) → Heap → Prop} {YP : World → Heap → Prop} {d : DefRec} {K : Params → PySem.W.Frag} {x : Str} {F : FD}
    (hn : l.most = some n) (hn2 : n ≤ sizeLine) (hdf : d.params.defaults = []) (hr : Room k callerA) (hY : ∀ (w : World) (h : Heap), YP w h → (K w.params).In h)
    (hF : ∀ (w : World) (mg : Str → Option Value) (fa : Addr) (h : Heap), (K w.params).In h → h.Ns mainGlobals mg → mg d.name = some (.ref fa) →
      ∃ fd : FuncData, (∀ (s : Shared) (u : Value), BindsTo s fd ⟨[u], []⟩ [(x, u)]) ∧ ∀ base : Heap, (K w.params).In base → base.Ns mainGlobals mg → FnOk l.prog w (K w.params) mg base (CXd l.prog w) k fa fd [x] (spD (K w.params) 1 F))
    (h1 : ∀ w : World, PySem.W.nsIn (K w.params) mainGlobals "ink_shown" = some none) (h2 : ∀ w : World, PySem.W.nsIn (K w.params) mainGlobals "table_within" = some none)
    (h3 : ∀ w : World, PySem.W.nsIn (K w.params) mainGlobals "slots_given" = some none) (h4 : ∀ w : World, PySem.W.nsIn (K w.params) mainGlobals "cast_on_slots" = some none)
    (ht : ∀ ns : List Int, ns.length ≤ n → ∃ M', F [.ro (ns.map D.int)] [] = .ok (.bl true) M') :
    PySem.W.WalkO q loose XP YP l.row.toRowW d [] (fun f vs => PySem.call f vs) :=
  L2.walk_of (CX := fun w => CXd l.prog w) (sp := fun w => spD (K w.params) 1 F) hn hn2 hdf hr hY hF (fun w H a ns hl _ hS => law_sp (.no fun y hy => by
    simp only [lamNames, List.mem_cons, List.not_mem_nil, or_false] at hy
    rcases hy with rfl | rfl | rfl | rfl
    · exact h1 w
    · exact h2 w
    · exact h3 w
    · exact h4 w) hS (ht ns hl)) fun w H s e s' z => cx_no z
/-! texts -/
section
variable {X : Cx} {e a b o : Expr} {x z : Str} {p pos apos cpos : Pos} {g ga gb go ge : GE} {gA : GA}
end
end DL

set_option Elab.async false
set_option linter.all false
set_option maxRecDepth 100000
set_option maxHeartbeats 4000000
/-! The data layer: whole numbers that stand in the module. -/
namespace DL
open PySem PySem.Spec PyProof.Rows L2
section
variable {X : Cx} {x : Str} {z : Int} {pos : Pos}
theorem de_glbI {tk : Tok} (hg : Gl X x) (hm : X.mg x = some (.int z tk)) (hd : (x == ("__debug__" : Str)) = false := by decide) : PE X (.Name x pos) (tE X (gC (.int z))) :=
  (pe_glob hg hm (v := .int z) ⟨tk, rfl⟩ hd).of fun σ H Q h => by
    obtain ⟨ρ, θ, M, _, hw, h⟩ := h
    exact h _ θ H (.refl hw) rfl
theorem qe_glbI (hm : ∃ tk, X.mg x = some (.int z tk)) (hg : Gl X x := by rfl) (hd : (x == ("__debug__" : Str)) = false := by decide) : QE X (.Name x pos) (gC (.int z)) := by
  obtain ⟨tk, hm⟩ := hm
  exact ⟨de_glbI hg hm hd⟩
end
end DL

set_option Elab.async false
set_option linter.all false
/-! Words for the mathematics: data without lists that may change. -/
namespace DL
open PySem L2
def pureD : Nat → D → Bool
  | 0, _ => false
  | f + 1, d => match d with
    | .mr _ => false
    | .tup xs => xs.all (pureD f)
    | .lst xs => xs.all (pureD f)
    | .ro xs => xs.all (pureD f)
    | _ => true
theorem optMap_same {f : D → Option D} : ∀ {xs : List D}, (∀ x ∈ xs, f x = some x) → optMap f xs = some xs
  | [], _ => rfl
  | x :: xs, h => by
    unfold optMap
    rw [h x List.mem_cons_self, optMap_same fun y hy => h y (List.mem_cons_of_mem _ hy)]
theorem frz_pure {n : Nat} {M : Mem} : ∀ (f : Nat) (d : D), pureD f d = true → frz n M f d = some d
  | 0, d, h => by cases h
  | f + 1, d, h => by
    cases d with
    | mr k => cases h
    | tup xs =>
      have h : xs.all (pureD f) = true := h
      show (optMap (frz n M f) xs).map D.tup = _
      rw [optMap_same fun x hx => frz_pure f x (List.all_eq_true.mp h x hx)]; rfl
    | lst xs =>
      have h : xs.all (pureD f) = true := h
      show (optMap (frz n M f) xs).map D.lst = _
      rw [optMap_same fun x hx => frz_pure f x (List.all_eq_true.mp h x hx)]; rfl
    | ro xs =>
      have h : xs.all (pureD f) = true := h
      show (optMap (frz n M f) xs).map D.ro = _
      rw [optMap_same fun x hx => frz_pure f x (List.all_eq_true.mp h x hx)]; rfl
    | _ => rfl
def pureM : MO → Bool
  | .lst xs => xs.all (pureD 30)
  | .obj _ fs => fs.all fun p => pureD 30 p.2
  | .dK fs => fs.all fun p => pureD 30 p.2
  | .dT fs => fs.all fun p => pureD 30 p.2
theorem frzK_same {κ : Type} {f : D → Option D} : ∀ {fs : List (κ × D)}, (∀ p ∈ fs, f p.2 = some p.2) → frzK f fs = some fs
  | [], _ => rfl
  | (x, d) :: fs, h => by
    unfold frzK
    rw [h (x, d) List.mem_cons_self, frzK_same fun y hy => h y (List.mem_cons_of_mem _ hy)]
theorem frzF_same {f : D → Option D} : ∀ {fs : List (Str × D)}, (∀ p ∈ fs, f p.2 = some p.2) → frzF f fs = some fs
  | [], _ => rfl
  | (x, d) :: fs, h => by
    unfold frzF
    rw [h (x, d) List.mem_cons_self, frzF_same fun y hy => h y (List.mem_cons_of_mem _ hy)]
theorem frzM_pure {n : Nat} {M : Mem} : ∀ {l : List MO}, l.all pureM = true → frzM n M l = some l
  | [], _ => rfl
  | .lst xs :: r, h => by
    rw [List.all_cons, Bool.and_eq_true] at h
    unfold frzM
    rw [frzM_pure h.2]
    have h1 : xs.all (pureD 30) = true := h.1
    rw [optMap_same fun x hx => frz_pure 30 x (List.all_eq_true.mp h1 x hx)]
  | .obj c fs :: r, h => by
    rw [List.all_cons, Bool.and_eq_true] at h
    unfold frzM
    rw [frzM_pure h.2]
    have h1 : (fs.all fun p => pureD 30 p.2) = true := h.1
    rw [frzF_same fun p hp => frz_pure 30 p.2 (List.all_eq_true.mp h1 p hp)]
  | .dK fs :: r, h => by
    rw [List.all_cons, Bool.and_eq_true] at h
    unfold frzM
    rw [frzM_pure h.2]
    have h1 : (fs.all fun p => pureD 30 p.2) = true := h.1
    rw [frzK_same fun p hp => frz_pure 30 p.2 (List.all_eq_true.mp h1 p hp)]
  | .dT fs :: r, h => by
    rw [List.all_cons, Bool.and_eq_true] at h
    unfold frzM
    rw [frzM_pure h.2]
    have h1 : (fs.all fun p => pureD 30 p.2) = true := h.1
    rw [frzK_same fun p hp => frz_pure 30 p.2 (List.all_eq_true.mp h1 p hp)]
@[simp] theorem pureD_int (f : Nat) (i : Int) : pureD (f + 1) (.int i) = true := rfl
@[simp] theorem pureD_bl (f : Nat) (i : Bool) : pureD (f + 1) (.bl i) = true := rfl
@[simp] theorem pureD_non (f : Nat) : pureD (f + 1) .non = true := rfl
@[simp] theorem pureD_str (f : Nat) (x : Str) : pureD (f + 1) (.str x) = true := rfl
theorem pureD_tup (f : Nat) (xs : List D) : pureD (f + 1) (.tup xs) = xs.all (pureD f) := rfl
theorem pureD_lst (f : Nat) (xs : List D) : pureD (f + 1) (.lst xs) = xs.all (pureD f) := rfl
theorem pure_ints (f : Nat) (l : List Int) : (l.map D.int).all (pureD (f + 1)) = true := by
  rw [List.all_map]; exact List.all_eq_true.mpr fun x _ => rfl
/-- a def that tells the one list that it made -/
theorem retP_mr {M : Mem} {xs : List D} (hx : xs.all (pureD 29) = true) (hM : M.all pureM = true) : retP M.length (.ok (.mr M.length) (M ++ [.lst xs])) = .ok (.lst xs) M := by
  have f1 := frzM_pure (n := M.length) (M := M ++ [.lst xs]) hM
  have f2 : frz M.length (M ++ [.lst xs]) 30 (.mr M.length) = some (.lst xs) := by
    have o : optMap (frz M.length (M ++ [.lst xs]) 29) xs = some xs := optMap_same fun x h => frz_pure 29 x (List.all_eq_true.mp hx x h)
    show (if M.length < M.length then some (D.mr M.length) else match (M ++ [MO.lst xs])[M.length]? with | some (MO.lst ys) => (optMap (frz M.length (M ++ [MO.lst xs]) 29) ys).map D.lst | _ => none) = _
    rw [if_neg (Nat.lt_irrefl _)]
    simp
    rw [o]
  show (if (M ++ [MO.lst xs]).length = M.length then Out.ok (D.mr M.length) (M ++ [MO.lst xs]) else match frz M.length (M ++ [MO.lst xs]) 30 (.mr M.length), frzM M.length (M ++ [MO.lst xs]) ((M ++ [MO.lst xs]).take M.length) with | some d', some M' => .ok d' M' | _, _ => .bad) = _
  rw [if_neg (by simp), List.take_left, f1, f2]
end DL

set_option Elab.async false
set_option linter.all false
set_option maxRecDepth 100000
set_option maxHeartbeats 4000000
/-! Words for the mathematics: readings gone step by step. -/
namespace DL
open PySem L2
theorem sq_nx {a b : GS} {ρ ρ1 : Rho} {M M1 : Mem} (h : a ρ M = .ok (.nx ρ1) M1) : sSeq a b ρ M = b ρ1 M1 := by
  unfold sSeq; rw [h]; rfl
theorem sq_rt {a b : GS} {ρ : Rho} {d : D} {M M1 : Mem} (h : a ρ M = .ok (.rt d) M1) : sSeq a b ρ M = .ok (.rt d) M1 := by
  unfold sSeq; rw [h]; rfl
theorem sq_er {a b : GS} {ρ : Rho} {c : Str} {M M1 : Mem} (h : a ρ M = .err c M1) : sSeq a b ρ M = .err c M1 := by
  unfold sSeq; rw [h]; rfl
theorem sq_as {a b c : GS} {ρ : Rho} {M : Mem} : sSeq a (sSeq b c) ρ M = sSeq (sSeq a b) c ρ M := by
  unfold sSeq
  cases a ρ M with
  | ok f M1 => cases f <;> rfl
  | err _ _ => rfl
  | bad => rfl
theorem if_t {t : GT} {a b : GS} {ρ : Rho} {M M1 : Mem} (h : t ρ M = .ok true M1) : sIf t a b ρ M = a ρ M1 := by
  unfold sIf; rw [h, bind_ok, if_pos rfl]
theorem if_f {t : GT} {a b : GS} {ρ : Rho} {M M1 : Mem} (h : t ρ M = .ok false M1) : sIf t a b ρ M = b ρ M1 := by
  unfold sIf; rw [h, bind_ok, if_neg Bool.false_ne_true]
theorem set_ok {i : Nat} {g : GE} {ρ : Rho} {M M1 : Mem} {d : D} (h : g ρ M = .ok d M1) : sSet i g ρ M = .ok (.nx (ρ.set i (some d))) M1 := by
  unfold sSet; rw [h, bind_ok]
theorem drop_ok {g : GE} {ρ : Rho} {M M1 : Mem} {d : D} (h : g ρ M = .ok d M1) : sDrop g ρ M = .ok (.nx ρ) M1 := by
  unfold sDrop; rw [h, bind_ok]
theorem ret_ok {g : GE} {ρ : Rho} {M M1 : Mem} {d : D} (h : g ρ M = .ok d M1) : sRet g ρ M = .ok (.rt d) M1 := by
  unfold sRet; rw [h, bind_ok]
theorem and_ok {a b : GE} {ρ : Rho} {M : Mem} {x y : Bool} (ha : a ρ M = .ok (.bl x) M) (hb : x = true → b ρ M = .ok (.bl y) M) : gAnd a b ρ M = .ok (.bl (x && y)) M := by
  unfold gAnd
  rw [ha, bind_ok]
  cases x with
  | true => exact hb rfl
  | false => rfl
theorem andT_ok {a b : GT} {ρ : Rho} {M : Mem} {x y : Bool} (ha : a ρ M = .ok x M) (hb : x = true → b ρ M = .ok y M) : gAndT a b ρ M = .ok (x && y) M := by
  unfold gAndT
  rw [ha, bind_ok]
  cases x with
  | true => exact hb rfl
  | false => rfl
theorem orT_ok {a b : GT} {ρ : Rho} {M : Mem} {x y : Bool} (ha : a ρ M = .ok x M) (hb : x = false → b ρ M = .ok y M) : gOrT a b ρ M = .ok (x || y) M := by
  unfold gOrT
  rw [ha, bind_ok]
  cases x with
  | true => rfl
  | false => exact hb rfl
theorem notT_ok {a : GT} {ρ : Rho} {M : Mem} {x : Bool} (ha : a ρ M = .ok x M) : gNotT a ρ M = .ok (!x) M := by
  unfold gNotT; rw [ha, bind_ok]
theorem tru_bl {a : GE} {ρ : Rho} {M M1 : Mem} {x : Bool} (ha : a ρ M = .ok (.bl x) M1) : gTru a ρ M = .ok x M1 := by
  unfold gTru; rw [ha, bind_ok]; rfl
theorem tst_bl {a : GE} {ρ : Rho} {M M1 : Mem} {x : Bool} (ha : a ρ M = .ok (.bl x) M1) : gTst a ρ M = .ok x M1 := by
  unfold gTst; rw [ha, bind_ok]; rfl
theorem g2_ok {f : F2} {a b : GE} {ρ : Rho} {M M1 M2 : Mem} {x y : D} {o : Out D} (ha : a ρ M = .ok x M1) (hb : b ρ M1 = .ok y M2) (h : f x y M2 = o) : g2 f a b ρ M = o := by
  unfold g2; rw [ha, bind_ok, hb, bind_ok, h]
theorem blt1 {F : FD} {a : GE} {ρ : Rho} {M M1 : Mem} {x : D} {o : Out D} (ha : a ρ M = .ok x M1) (h : F [x] M1 = o) : gBlt F (gCons a gNil) ρ M = o := by
  unfold gBlt gCons gNil; rw [ha, bind_ok, bind_ok, bind_ok, h]
theorem call1 {F : FD} {a : GE} {ρ : Rho} {M M1 : Mem} {x : D} {o : Out D} (ha : a ρ M = .ok x M1) (h : F [x] M1 = o) : gCall 1 F (gCons a gNil) ρ M = o := by
  unfold gCall gCons gNil; rw [ha, bind_ok, bind_ok, bind_ok, if_pos (show [x].length = 1 from rfl), h]
theorem call2 {F : FD} {a b : GE} {ρ : Rho} {M M1 M2 : Mem} {x y : D} {o : Out D} (ha : a ρ M = .ok x M1) (hb : b ρ M1 = .ok y M2) (h : F [x, y] M2 = o) : gCall 2 F (gCons a (gCons b gNil)) ρ M = o := by
  unfold gCall gCons gNil; rw [ha, bind_ok, hb, bind_ok, bind_ok, bind_ok, bind_ok, if_pos (show [x, y].length = 2 from rfl), h]
theorem call3 {F : FD} {a b c : GE} {ρ : Rho} {M M1 M2 M3 : Mem} {x y z : D} {o : Out D} (ha : a ρ M = .ok x M1) (hb : b ρ M1 = .ok y M2) (hc : c ρ M2 = .ok z M3) (h : F [x, y, z] M3 = o) : gCall 3 F (gCons a (gCons b (gCons c gNil))) ρ M = o := by
  unfold gCall gCons gNil; rw [ha, bind_ok, hb, bind_ok, hc, bind_ok, bind_ok, bind_ok, bind_ok, bind_ok, if_pos (show [x, y, z].length = 3 from rfl), h]
theorem call4 {F : FD} {a b c d : GE} {ρ : Rho} {M M1 M2 M3 M4 : Mem} {x y z u : D} {o : Out D} (ha : a ρ M = .ok x M1) (hb : b ρ M1 = .ok y M2) (hc : c ρ M2 = .ok z M3) (hd : d ρ M3 = .ok u M4) (h : F [x, y, z, u] M4 = o) : gCall 4 F (gCons a (gCons b (gCons c (gCons d gNil)))) ρ M = o := by
  unfold gCall gCons gNil; rw [ha, bind_ok, hb, bind_ok, hc, bind_ok, hd, bind_ok, bind_ok, bind_ok, bind_ok, bind_ok, bind_ok, if_pos (show [x, y, z, u].length = 4 from rfl), h]
/-- what a comprehension of truths all tells -/
theorem boolsD {p : D → Bool} : ∀ xs : List D, boolsOf (xs.map fun d => D.bl (p d)) = some (xs.map p)
  | [] => rfl
  | x :: xs => by
    show (boolsOf (xs.map fun d => D.bl (p d))).map (p x :: ·) = _
    rw [boolsD xs]; rfl
theorem all_of {gi : GI} {ge : GE} {ρ : Rho} {M : Mem} {xs : List D} {p : D → Bool} (hi : gi ρ M = .ok ⟨xs, none⟩ M) (hl : xs.length ≤ 100000) (h : ∀ x ∈ xs, ge (some x :: ρ) M = .ok (.bl (p x)) M) :
    gBlt allF (gCons (gComp gi gAll ge mkLst) gNil) ρ M = .ok (.bl (xs.all p)) M := by
  have c := comp_map (ds0 := xs) (ge := ge) (ρ := ρ) (f := fun d => D.bl (p d)) (M := M) xs h
  have l1 : (xs.map fun d => D.bl (p d)).length ≤ sizeLine := by rw [List.length_map]; exact le_line (by omega)
  refine blt1 (x := .lst (xs.map fun d => D.bl (p d))) (M1 := M) ?_ ?_
  · unfold gComp
    rw [hi, bind_ok]
    dsimp only
    rw [c, bind_ok]
    unfold mkLst
    rw [if_pos l1]
  · show (match itemsOf (.lst (xs.map fun d => D.bl (p d))) M with | some xs => (match boolsOf xs with | some bs => Out.ok (D.bl (bs.all id)) M | none => .bad) | none => .bad) = _
    show (match boolsOf (xs.map fun d => D.bl (p d)) with | some bs => Out.ok (D.bl (bs.all id)) M | none => .bad) = _
    rw [boolsD]
    dsimp only
    rw [List.all_map]
    rfl
theorem its_tup {i : Nat} {ρ : Rho} {M : Mem} {xs : List D} (h : ρ[i]? = some (some (.tup xs))) : gIts (gVar i) ρ M = .ok ⟨xs, none⟩ M := by
  unfold gIts gVar; rw [h]; rfl
theorem its_lst {i : Nat} {ρ : Rho} {M : Mem} {xs : List D} (h : ρ[i]? = some (some (.lst xs))) : gIts (gVar i) ρ M = .ok ⟨xs, none⟩ M := by
  unfold gIts gVar; rw [h]; rfl
theorem eqI_f (a b : Int) (M : Mem) : eqOp false (.int a) (.int b) M = .ok (.bl (decide (a = b))) M := by
  unfold eqOp
  by_cases q : a = b <;> simp [now, cmpOk, eqB, q]
theorem eqI_t (a b : Int) (M : Mem) : eqOp true (.int a) (.int b) M = .ok (.bl (!decide (a = b))) M := by
  unfold eqOp
  by_cases q : a = b <;> simp [now, cmpOk, eqB, q]
theorem eqS_f {a b : Str} (ha : PyData.strOk a = true) (hb : PyData.strOk b = true) (M : Mem) : eqOp false (.str a) (.str b) M = .ok (.bl (a == b)) M := by
  unfold eqOp
  simp [now, cmpOk, eqB, ha, hb]
theorem mr_at (M : Mem) (E : List D) : (M ++ [MO.lst E])[M.length]? = some (.lst E) := by simp
theorem mr_set (M : Mem) (E E' : List D) : (M ++ [MO.lst E]).set M.length (.lst E') = M ++ [MO.lst E'] := by simp
theorem mr_app {M : Mem} {E : List D} {d : D} (h : E.length < 1000000) : appD M.length d (M ++ [MO.lst E]) = .ok .non (M ++ [MO.lst (E ++ [d])]) := by
  have l : E.length < sizeLine := Nat.lt_of_lt_of_le h (by rw [sizeLine_eq]; decide)
  unfold appD
  rw [mr_at]
  dsimp only
  rw [if_pos l, mr_set]
theorem app_ok {go ge : GE} {ρ : Rho} {M : Mem} {E : List D} {d : D} (h1 : go ρ (M ++ [MO.lst E]) = .ok (.mr M.length) (M ++ [MO.lst E])) (h2 : ge ρ (M ++ [MO.lst E]) = .ok d (M ++ [MO.lst E])) (h : E.length < 1000000) :
    gApp go ge ρ (M ++ [MO.lst E]) = .ok .non (M ++ [MO.lst (E ++ [d])]) := by
  unfold gApp
  rw [h1, bind_ok]
  dsimp only
  rw [mr_at]
  dsimp only
  rw [h2, bind_ok, mr_app h]
theorem ix_lst {xs : List D} {k : Nat} {d : D} {M : Mem} (h : xs[k]? = some d) : ixD (.lst xs) (.int k) M = .ok d M := by
  have a := atI_nat (xs := xs) (j := k) h
  unfold ixD itemsOf
  dsimp only
  rw [a]
theorem ix_tup {xs : List D} {k : Nat} {d : D} {M : Mem} (h : xs[k]? = some d) : ixD (.tup xs) (.int k) M = .ok d M := by
  have a := atI_nat (xs := xs) (j := k) h
  unfold ixD itemsOf
  dsimp only
  rw [a]
theorem mut_nil {ρ : Rho} {M : Mem} : gMut gNil ρ M = .ok (.mr M.length) (M ++ [.lst []]) := by
  show (if ([] : List D).length ≤ sizeLine then Out.ok (D.mr M.length) (M ++ [.lst []]) else .bad) = _
  rw [if_pos (show ([] : List D).length ≤ sizeLine from Nat.zero_le _)]
theorem tup_ok {ga : GA} {ρ : Rho} {M M1 : Mem} {ds : List D} (h : ga ρ M = .ok ds M1) (hl : ds.length ≤ 100000) : gTup ga ρ M = .ok (.tup ds) M1 := by
  have : ds.length ≤ sizeLine := le_line (by omega)
  unfold gTup
  rw [h, bind_ok]
  unfold mkTup
  rw [if_pos this]
theorem lst_ok {ga : GA} {ρ : Rho} {M M1 : Mem} {ds : List D} (h : ga ρ M = .ok ds M1) (hl : ds.length ≤ 100000) : gLst ga ρ M = .ok (.lst ds) M1 := by
  have : ds.length ≤ sizeLine := le_line (by omega)
  unfold gLst
  rw [h, bind_ok]
  unfold mkLst
  rw [if_pos this]
theorem args_c {g : GE} {r : GA} {ρ : Rho} {M M1 M2 : Mem} {d : D} {ds : List D} (h : g ρ M = .ok d M1) (hr : r ρ M1 = .ok ds M2) : gCons g r ρ M = .ok (d :: ds) M2 := by
  unfold gCons
  rw [h, bind_ok, hr, bind_ok]
theorem app_at {go ge : GE} {ρ : Rho} {M M1 : Mem} {k : Nat} {E E1 : List D} {d : D} (h1 : go ρ M = .ok (.mr k) M) (h2 : M[k]? = some (.lst E)) (h3 : ge ρ M = .ok d M1) (h4 : M1[k]? = some (.lst E1)) (h : E1.length < 1000000) :
    gApp go ge ρ M = .ok .non (M1.set k (.lst (E1 ++ [d]))) := by
  have l : E1.length < sizeLine := Nat.lt_of_lt_of_le h (by rw [sizeLine_eq]; decide)
  unfold gApp
  rw [h1, bind_ok]
  dsimp only
  rw [h2]
  dsimp only
  rw [h3, bind_ok]
  unfold appD
  rw [h4]
  dsimp only
  rw [if_pos l]
theorem rng1_of {ga : GA} {ρ : Rho} {M M1 : Mem} {n : Nat} (h : ga ρ M = .ok [.int (n : Int)] M1) (hn : n ≤ 1000000) : gRng1 ga ρ M = .ok ⟨rangeD 0 n, none⟩ M1 := by
  unfold gRng1
  rw [h, bind_ok, rng1_nat hn]
theorem for_ok {gi : GI} {sg : GG} {b : GS} {ρ : Rho} {M M1 : Mem} {t : Its} {o : Out Fl} (h : gi ρ M = .ok t M1) (e : forGo t sg b t.ds ρ M1 = o) : sFor gi sg b ρ M = o := by
  unfold sFor
  rw [h, bind_ok, e]
theorem mul_ok {i j : Int} (h0 : -1000000 ≤ i) (h1 : i ≤ 1000000) (M : Mem) : mulD (.int i) (.int j) M = .ok (.int (i * j)) M := by
  have a : -(2 ^ 64 : Int) < i := Int.lt_of_lt_of_le (by decide) h0
  have b : i < (2 ^ 64 : Int) := Int.lt_of_le_of_lt h1 (by decide)
  unfold mulD
  dsimp only
  rw [if_pos (.inl ⟨a, b⟩)]
theorem fdiv_ok {i j : Int} (h0 : 0 < j) (h1 : j ≤ 1000000) (M : Mem) : fdivD (.int i) (.int j) M = .ok (.int (i / j)) M := by
  have h2 : j.natAbs < 2 ^ 20 := by omega
  have h3 : j.natAbs ≠ 0 := by omega
  have h4 := (Nat.log2_lt h3).mpr h2
  unfold fdivD
  dsimp only
  rw [if_pos ⟨h0, by omega⟩]
theorem eq_same {d : D} (h : cmpOk 40 d = true) (hs : eqB d d = true) (hm : ∀ M, now d M = d) (M : Mem) : eqOp true d d M = .ok (.bl false) M := by
  unfold eqOp
  rw [hm, h, hs]; rfl
end DL

/-! The head: the text's top is run by the kernel in one go; no state is written out. -/
set_option Elab.async false
set_option maxRecDepth 100000
set_option autoImplicit false
namespace Hd
open PySem PySem.W PySem.Calls PyProof.Rows

def topRunT (tb : String → Option Builtin) (p : Program) (w : World) (n0 : Nat) (ann : Option Value) : Nat → SharedT → Thread → Option SharedT
  | 0, _, _ => none
  | n + 1, s, t => match through t with
    | true => some s
    | false => match stepOk n0 ann t with
      | false => none
      | true => match stepT (denote tb) p w s t with
        | some (s', t') => topRunT tb p w n0 ann n s' t'
        | none => none

theorem topRun_of {tb : String → Option Builtin} {p : Program} {w : World} {n0 : Nat} {ann : Option Value} : ∀ {n : Nat} {s s' : SharedT} {t : Thread}, topRunT tb p w n0 ann n s t = some s' → topRun tb p w n0 ann n s.abs t = some s'.abs
  | 0, _, _, _, h => by cases h
  | n + 1, s, s', t, h => by
    unfold topRunT at h
    unfold topRun
    cases he : through t with
    | true => rw [he] at h; cases h; rfl
    | false =>
      rw [he] at h
      cases hk : stepOk n0 ann t with
      | false => rw [hk] at h; cases h
      | true =>
        rw [hk] at h
        cases hs : stepT (denote tb) p w s t with
        | none => rw [hs] at h; cases h
        | some r => obtain ⟨s2, t2⟩ := r; rw [hs] at h; rw [stepT_spec hs]; exact topRun_of h

def grow : List Obj → BT → Nat → BT
  | [], t, _ => t
  | o :: r, t, n => grow r (t.ins n o) (n + 1)
def grown : List Obj → BT → Nat → Bool
  | [], _, _ => true
  | o :: r, t, n => ((t.ins n o).get n).isSome && grown r (t.ins n o) (n + 1)
theorem grow_abs (life : Life) : ∀ (l : List Obj) (t : BT) (n : Nat), grown l t n = true → absHeap (grow l t n) (n + l.length) life = ⟨(absHeap t n life).objs ++ l.toArray, life⟩
  | [], t, n, _ => by simp [grow, absHeap]
  | o :: r, t, n, h => by
    obtain ⟨h1, h2⟩ := Bool.and_eq_true_iff.mp h
    have e := grow_abs life r (t.ins n o) (n + 1) h2
    have e2 : absHeap (t.ins n o) (n + 1) life = (absHeap t n life).push o := absHeap_ins h1
    show absHeap (grow r (t.ins n o) (n + 1)) (n + (r.length + 1)) life = _
    rw [show n + (r.length + 1) = n + 1 + r.length by omega, e, e2]
    simp [Heap.push]

theorem left_whole {p q : Program} {loose : List Str} {Xt : Shared → Bool} {A : Type} {Yf : Shared → A} {Ya : World → A} {N : Nat} {g0 : Bool} {H : Params → Heap} {gs : Array GenState} {d : Drawn} {k : Nat} {m : Nat} {ann : Option Value} {T : Params → BT} {lf : Life}
    (open_ : ∀ w : World, (fencedOpening treeTable p w N).map (fun s => (s.heap, s.gens, s.drawn, s.toks)) = some (H w.params, gs, d, k))
    (size : ∀ w : World, ((H w.params).isNs mainGlobals && gs.size == 0, (H w.params).objs.size, (H w.params).nsMap mainGlobals "__annotations__") = (true, m, ann))
    (tree : ∀ P, H P = absHeap (T P) m lf)
    (run : ∀ (w : World) (os : OsState), (topRunT treeTable p w m ann N ⟨T w.params, m, lf, gs, d, k, os⟩ (topStub p)).map (fun s =>
        ((staticsOk (importedModules p.main.body) (H w.params) s.abs.heap && namesBound p s.abs.heap && gensDone s.abs && laidKept (H w.params) s.abs.heap),
        openSeen q loose (importedModules p.main.body) Xt g0 s.abs, Yf s.abs)) = some (true, openGood q loose, Ya w)) : LeftO p q loose Xt Yf Ya N g0 := fun w => by
  obtain ⟨⟨h, gs', d', k', os⟩, e, e'⟩ := Option.map_eq_some_iff.mp (open_ w)
  obtain ⟨rfl, rfl, rfl, rfl⟩ : h = H w.params ∧ gs' = gs ∧ d' = d ∧ k' = k := by simpa using e'
  obtain ⟨z1, z2, z3⟩ : _ ∧ _ ∧ _ := by simpa only [Prod.mk.injEq] using size w
  obtain ⟨s, r1, r2⟩ := Option.map_eq_some_iff.mp (run w os)
  obtain ⟨l1, l2, l3⟩ : _ ∧ _ ∧ _ := by simpa only [Prod.mk.injEq] using r2
  have r := topRun_of r1
  have ea : SharedT.abs ⟨T w.params, m, lf, gs', d', k', os⟩ = ⟨H w.params, gs', d', k', os⟩ := by rw [tree]; rfl
  rw [ea] at r
  have t : topFrom treeTable p w N ⟨H w.params, gs', d', k', os⟩ = some s.abs := by
    unfold topFrom
    dsimp only
    rw [z1, z2, z3, r]
    show (match staticsOk (importedModules p.main.body) (H w.params) s.abs.heap && namesBound p s.abs.heap && gensDone s.abs && laidKept (H w.params) s.abs.heap with | true => _ | false => _) = _
    rw [l1]
  unfold openEnds
  rw [e]
  show (topFrom treeTable p w N _).map _ = _
  rw [t]
  exact congrArg some (Prod.ext l2 l3)

noncomputable def bootT (P : Params) : BT := grow (boot_heap P).objs.toList .nil 0
lay_quick Hd.topRunT PySem.W.topStub
theorem boot_tree (P : Params) : boot_heap P = absHeap (bootT P) 11 {} := by
  have h := grow_abs {} (boot_heap P).objs.toList .nil 0 (by kernel_rfl)
  exact h.symm
end Hd

set_option Elab.async false
set_option linter.all false
set_option maxRecDepth 100000
set_option maxHeartbeats 4000000
namespace K26
open PySem PySem.Spec PyProof.Rows L2 DL
def top (i : Nat) : Stmt := PySem.Challenge.pw_glowrow_k26_scores_gone.main.body.getD i (.Pass ⟨0, 0, 0, 0⟩)
abbrev s__law_draw : Stmt := top 41
abbrev s__law_size : Stmt := top 42
abbrev s__law_frame : Stmt := top 43
abbrev s__law_inks : Stmt := top 44
abbrev s__law_inked : Stmt := top 45
abbrev s__law_far : Stmt := top 46
abbrev s__law_mover : Stmt := top 47
abbrev s__law_stand : Stmt := top 48
abbrev s__law_deed : Stmt := top 49
abbrev s__law_score : Stmt := top 50
abbrev s__law_hand : Stmt := top 51
abbrev s_is_whole : Stmt := top 6
abbrev s_is_within : Stmt := top 7
abbrev s_is_frame : Stmt := top 9
abbrev s_is_ink : Stmt := top 13
abbrev s_is_ink_row : Stmt := top 14
abbrev s_is_ink_block : Stmt := top 15
abbrev s_is_shape : Stmt := top 16
abbrev s_is_book : Stmt := top 22
abbrev s_is_shape_number : Stmt := top 23
abbrev s_is_place_pair : Stmt := top 21
abbrev s_is_rank : Stmt := top 20
abbrev s_is_turn : Stmt := top 17
abbrev s_is_mover : Stmt := top 24
abbrev s_are_movers : Stmt := top 25
abbrev s_is_hue : Stmt := top 19
abbrev s_are_pots : Stmt := top 26
abbrev s_is_stand : Stmt := top 27
abbrev s_check_begin : Stmt := top 31
abbrev s_is_mover_deed : Stmt := top 29
abbrev s_is_deed : Stmt := top 28
abbrev s_is_line : Stmt := top 35
abbrev s_is_score : Stmt := top 34
abbrev s_row_ticks : Stmt := top 10
abbrev s_tick_named : Stmt := top 37
abbrev s_tick_of_line : Stmt := top 38
abbrev s_place_behind : Stmt := top 39
abbrev s_ticks_of : Stmt := top 11
abbrev s_deeds_by : Stmt := top 36
abbrev s_law : Stmt := top 52
structure Ad where
  f__law_draw : Addr
  d__law_draw : FuncData
  f__law_size : Addr
  d__law_size : FuncData
  f__law_frame : Addr
  d__law_frame : FuncData
  f__law_inks : Addr
  d__law_inks : FuncData
  f__law_inked : Addr
  d__law_inked : FuncData
  f__law_far : Addr
  d__law_far : FuncData
  f__law_mover : Addr
  d__law_mover : FuncData
  f__law_stand : Addr
  d__law_stand : FuncData
  f__law_deed : Addr
  d__law_deed : FuncData
  f__law_score : Addr
  d__law_score : FuncData
  f__law_hand : Addr
  d__law_hand : FuncData
  f_is_whole : Addr
  d_is_whole : FuncData
  f_is_within : Addr
  d_is_within : FuncData
  f_is_frame : Addr
  d_is_frame : FuncData
  f_is_ink : Addr
  d_is_ink : FuncData
  f_is_ink_row : Addr
  d_is_ink_row : FuncData
  f_is_ink_block : Addr
  d_is_ink_block : FuncData
  f_is_shape : Addr
  d_is_shape : FuncData
  f_is_book : Addr
  d_is_book : FuncData
  f_is_shape_number : Addr
  d_is_shape_number : FuncData
  f_is_place_pair : Addr
  d_is_place_pair : FuncData
  f_is_rank : Addr
  d_is_rank : FuncData
  f_is_turn : Addr
  d_is_turn : FuncData
  f_is_mover : Addr
  d_is_mover : FuncData
  f_are_movers : Addr
  d_are_movers : FuncData
  f_is_hue : Addr
  d_is_hue : FuncData
  f_are_pots : Addr
  d_are_pots : FuncData
  f_is_stand : Addr
  d_is_stand : FuncData
  f_check_begin : Addr
  d_check_begin : FuncData
  f_is_mover_deed : Addr
  d_is_mover_deed : FuncData
  f_is_deed : Addr
  d_is_deed : FuncData
  f_is_line : Addr
  d_is_line : FuncData
  f_is_score : Addr
  d_is_score : FuncData
  f_row_ticks : Addr
  d_row_ticks : FuncData
  f_tick_named : Addr
  d_tick_named : FuncData
  f_tick_of_line : Addr
  d_tick_of_line : FuncData
  f_place_behind : Addr
  d_place_behind : FuncData
  f_ticks_of : Addr
  d_ticks_of : FuncData
  f_deeds_by : Addr
  d_deeds_by : FuncData
  f_law : Addr
  d_law : FuncData
  c_NoFrame : Addr
  c_NoScore : Addr
  c_NoStand : Addr
structure Tx (K : PySem.W.Frag) (mg : Str → Option Value) (a : Ad) : Prop where
  n__law_draw : Fn K mg "_law_draw" s__law_draw a.f__law_draw a.d__law_draw ["tape", "many"]
  n__law_size : Fn K mg "_law_size" s__law_size a.f__law_size a.d__law_size ["tape", "most"]
  n__law_frame : Fn K mg "_law_frame" s__law_frame a.f__law_frame a.d__law_frame ["tape", "most"]
  n__law_inks : Fn K mg "_law_inks" s__law_inks a.f__law_inks a.d__law_inks ["tape", "wide", "thin"]
  n__law_inked : Fn K mg "_law_inked" s__law_inked a.f__law_inked a.d__law_inked ["tape", "most"]
  n__law_far : Fn K mg "_law_far" s__law_far a.f__law_far a.d__law_far ["tape", "size"]
  n__law_mover : Fn K mg "_law_mover" s__law_mover a.f__law_mover a.d__law_mover ["tape", "frame", "shapes"]
  n__law_stand : Fn K mg "_law_stand" s__law_stand a.f__law_stand a.d__law_stand ["tape", "frame", "movers_most"]
  n__law_deed : Fn K mg "_law_deed" s__law_deed a.f__law_deed a.d__law_deed ["tape", "frame", "stand"]
  n__law_score : Fn K mg "_law_score" s__law_score a.f__law_score a.d__law_score ["tape", "frame", "stand"]
  n__law_hand : Fn K mg "_law_hand" s__law_hand a.f__law_hand a.d__law_hand ["frame", "score", "pace"]
  n_is_whole : Fn K mg "is_whole" s_is_whole a.f_is_whole a.d_is_whole ["thing"]
  n_is_within : Fn K mg "is_within" s_is_within a.f_is_within a.d_is_within ["thing", "low", "high"]
  n_is_frame : Fn K mg "is_frame" s_is_frame a.f_is_frame a.d_is_frame ["thing"]
  n_is_ink : Fn K mg "is_ink" s_is_ink a.f_is_ink a.d_is_ink ["thing"]
  n_is_ink_row : Fn K mg "is_ink_row" s_is_ink_row a.f_is_ink_row a.d_is_ink_row ["thing"]
  n_is_ink_block : Fn K mg "is_ink_block" s_is_ink_block a.f_is_ink_block a.d_is_ink_block ["thing", "most"]
  n_is_shape : Fn K mg "is_shape" s_is_shape a.f_is_shape a.d_is_shape ["thing"]
  n_is_book : Fn K mg "is_book" s_is_book a.f_is_book a.d_is_book ["thing"]
  n_is_shape_number : Fn K mg "is_shape_number" s_is_shape_number a.f_is_shape_number a.d_is_shape_number ["book", "thing"]
  n_is_place_pair : Fn K mg "is_place_pair" s_is_place_pair a.f_is_place_pair a.d_is_place_pair ["thing"]
  n_is_rank : Fn K mg "is_rank" s_is_rank a.f_is_rank a.d_is_rank ["thing"]
  n_is_turn : Fn K mg "is_turn" s_is_turn a.f_is_turn a.d_is_turn ["thing"]
  n_is_mover : Fn K mg "is_mover" s_is_mover a.f_is_mover a.d_is_mover ["book", "thing"]
  n_are_movers : Fn K mg "are_movers" s_are_movers a.f_are_movers a.d_are_movers ["book", "thing"]
  n_is_hue : Fn K mg "is_hue" s_is_hue a.f_is_hue a.d_is_hue ["thing"]
  n_are_pots : Fn K mg "are_pots" s_are_pots a.f_are_pots a.d_are_pots ["thing"]
  n_is_stand : Fn K mg "is_stand" s_is_stand a.f_is_stand a.d_is_stand ["thing"]
  n_check_begin : Fn K mg "check_begin" s_check_begin a.f_check_begin a.d_check_begin ["frame", "stand"]
  n_is_mover_deed : Fn K mg "is_mover_deed" s_is_mover_deed a.f_is_mover_deed a.d_is_mover_deed ["stand", "word", "parts"]
  n_is_deed : Fn K mg "is_deed" s_is_deed a.f_is_deed a.d_is_deed ["stand", "thing"]
  n_is_line : Fn K mg "is_line" s_is_line a.f_is_line a.d_is_line ["stand", "many", "thing"]
  n_is_score : Fn K mg "is_score" s_is_score a.f_is_score a.d_is_score ["stand", "thing"]
  n_row_ticks : Fn K mg "row_ticks" s_row_ticks a.f_row_ticks a.d_row_ticks ["frame"]
  n_tick_named : Fn K mg "tick_named" s_tick_named a.f_tick_named a.d_tick_named ["frame", "line"]
  n_tick_of_line : Fn K mg "tick_of_line" s_tick_of_line a.f_tick_of_line a.d_tick_of_line ["frame", "line", "tick"]
  n_place_behind : Fn K mg "place_behind" s_place_behind a.f_place_behind a.d_place_behind ["frame", "line", "place", "tick"]
  n_ticks_of : Fn K mg "ticks_of" s_ticks_of a.f_ticks_of a.d_ticks_of ["frame"]
  n_deeds_by : Fn K mg "deeds_by" s_deeds_by a.f_deeds_by a.d_deeds_by ["frame", "stand", "score", "pace"]
  n_law : Fn K mg "law" s_law a.f_law a.d_law ["script"]
  z_all : mg "all" = none
  z_bool : mg "bool" = none
  z_int : mg "int" = none
  z_isinstance : mg "isinstance" = none
  z_len : mg "len" = none
  z_list : mg "list" = none
  z_max : mg "max" = none
  z_min : mg "min" = none
  z_range : mg "range" = none
  z_tuple : mg "tuple" = none
  e_NoFrame : Ec K mg "NoFrame" a.c_NoFrame
  e_NoScore : Ec K mg "NoScore" a.c_NoScore
  e_NoStand : Ec K mg "NoStand" a.c_NoStand
  v_MOST_LINES : ∃ tk, mg "MOST_LINES" = some (.int 100 tk)
def g__law_draw : GS := (sSeq (sSet 2 (gC (.int 2305843009213693951))) (sSeq (sIf (gTst (g2 ltD (g2 ixD (gVar 0) (gC (.int 2))) (gVar 1))) (sSeq (sSet 3 (gC (.int 0))) (sSeq (sIf (gTst (g2 gtD (gBlt lenF (DL.gCons (g2 ixD (gVar 0) (gC (.int 0))) DL.gNil)) (gC (.int 0)))) (sSet 3 (g2 ixD (g2 ixD (gVar 0) (gC (.int 0))) (g2 modD (g2 ixD (gVar 0) (gC (.int 1))) (gBlt lenF (DL.gCons (g2 ixD (gVar 0) (gC (.int 0))) DL.gNil))))) sNext) (sSeq (sIf (gOrT (gTst (g2 geD (g2 ixD (gVar 0) (gC (.int 1))) (gBlt lenF (DL.gCons (g2 ixD (gVar 0) (gC (.int 0))) DL.gNil)))) (gTst (g2 ltD (gVar 3) (g2 powD (gC (.int 10)) (gC (.int 18)))))) (sSeq (sSet 3 (g2 modD (g2 addD (gVar 3) (g2 mulD (gC (.int 1000003)) (g2 ixD (gVar 0) (gC (.int 1))))) (gVar 2))) (sSeq (sSet 3 (g2 modD (g2 addD (g2 addD (g2 mulD (gVar 3) (gVar 3)) (g2 mulD (gC (.int 1181783497276652981)) (gVar 3))) (gC (.int 2049848353892358983))) (gVar 2))) (sSet 3 (g2 modD (g2 addD (g2 mulD (gVar 3) (gVar 3)) (gC (.int 1442695040888963407))) (gVar 2))))) sNext) (sSeq (sSub (gVar 0) (gC (.int 1)) (g2 addD (g2 ixD (gVar 0) (gC (.int 1))) (gC (.int 1)))) (sSub (gVar 0) (gC (.int 2)) (gVar 3)))))) sNext) (sSeq (sSet 4 (g2 modD (g2 ixD (gVar 0) (gC (.int 2))) (gVar 1))) (sSeq (sSub (gVar 0) (gC (.int 2)) (g2 fdivD (g2 ixD (gVar 0) (gC (.int 2))) (gVar 1))) (sRet (gVar 4))))))
def F__law_draw : FD := runD 3 g__law_draw
theorem sc__law_draw : FnScope ["tape", "many", "prime", "cell", "found"] ["tape", "many"] (defScope s__law_draw) := ⟨rfl, rfl, rfl, by decide +kernel, rfl, by decide +kernel, by decide +kernel⟩
theorem ok__law_draw {P : Program} {w : World} {K : PySem.W.Frag} {mg : Str → Option Value} {base : Heap} {a : Ad} (T : Tx K mg a) : FnOk P w K mg base (CXd P w) 1 a.f__law_draw a.d__law_draw ["tape", "many"] (spD K 2 F__law_draw) := fn_q T.n__law_draw.F sc__law_draw rfl fun cdv A outer s H E hr => by
  have nd := sc__law_draw.nd
  refine qs_cons ?_ ?_
  · exact (qs_set 2 nd qe_int)
  refine qs_cons ?_ ?_
  · refine qs_if ?_ ?_ ?_
    · exact (qt_cmp q_lt (qe_ix (qv 0) qe_int) (qv 1))
    · refine qs_cons ?_ ?_
      · exact (qs_set 3 nd qe_int)
      refine qs_cons ?_ ?_
      · refine qs_if ?_ ?_ ?_
        · exact (qt_cmp q_gt (qe_cB q_len (by rfl) T.z_len Boot.«len» (qa_c (qe_ix (qv 0) qe_int) qa_nil)) qe_int)
        · refine qs_one ?_
          refine qs_set 3 nd ?_
          refine qe_ix ?_ ?_
          · exact (qe_ix (qv 0) qe_int)
          · refine qe_op q_mod ?_ ?_
            · exact (qe_ix (qv 0) qe_int)
            · exact (qe_cB q_len (by rfl) T.z_len Boot.«len» (qa_c (qe_ix (qv 0) qe_int) qa_nil))
        · exact qs_nil
      refine qs_cons ?_ ?_
      · refine qs_if ?_ ?_ ?_
        · refine qt_w ?_
          refine qw_or ?_ ?_
          · refine qt_cmp q_ge ?_ ?_
            · exact (qe_ix (qv 0) qe_int)
            · exact (qe_cB q_len (by rfl) T.z_len Boot.«len» (qa_c (qe_ix (qv 0) qe_int) qa_nil))
          · exact (qw_or1 (qt_cmp q_lt (qv 3) (qe_op q_pow qe_int qe_int)))
        · refine qs_cons ?_ ?_
          · refine qs_set 3 nd ?_
            refine qe_op q_mod ?_ ?_
            · exact (qe_op q_add (qv 3) (qe_op q_mul qe_int (qe_ix (qv 0) qe_int)))
            · exact (qv 2)
          refine qs_cons ?_ ?_
          · refine qs_set 3 nd ?_
            refine qe_op q_mod ?_ ?_
            · refine qe_op q_add ?_ ?_
              · exact (qe_op q_add (qe_op q_mul (qv 3) (qv 3)) (qe_op q_mul qe_int (qv 3)))
              · exact qe_int
            · exact (qv 2)
          refine qs_one ?_
          refine qs_set 3 nd ?_
          exact (qe_op q_mod (qe_op q_add (qe_op q_mul (qv 3) (qv 3)) qe_int) (qv 2))
        · exact qs_nil
      refine qs_cons ?_ ?_
      · refine qs_sub ?_ ?_ ?_
        · exact (qe_op q_add (qe_ix (qv 0) qe_int) qe_int)
        · exact (qv 0)
        · exact qe_int
      refine qs_one ?_
      exact (qs_sub (qv 3) (qv 0) qe_int)
    · exact qs_nil
  refine qs_cons ?_ ?_
  · exact (qs_set 4 nd (qe_op q_mod (qe_ix (qv 0) qe_int) (qv 1)))
  refine qs_cons ?_ ?_
  · refine qs_sub ?_ ?_ ?_
    · exact (qe_op q_fdiv (qe_ix (qv 0) qe_int) (qv 1))
    · exact (qv 0)
    · exact qe_int
  refine qs_one ?_
  exact (qs_ret (qv 4))
def g__law_size : GS := (sRet (g2 addD (gC (.int 1)) (g2 ixD (gLst (DL.gCons (gCall 2 F__law_draw (DL.gCons (gVar 0) (DL.gCons (gBlt minF (DL.gCons (gVar 1) (DL.gCons (gC (.int 6)) DL.gNil))) DL.gNil))) (DL.gCons (gCall 2 F__law_draw (DL.gCons (gVar 0) (DL.gCons (gVar 1) DL.gNil))) (DL.gCons (g2 subD (gVar 1) (gC (.int 1))) DL.gNil)))) (g2 fdivD (g2 mulD (gCall 2 F__law_draw (DL.gCons (gVar 0) (DL.gCons (gC (.int 8)) DL.gNil))) (gC (.int 3))) (gC (.int 10))))))
def F__law_size : FD := runD 0 g__law_size
theorem sc__law_size : FnScope ["tape", "most"] ["tape", "most"] (defScope s__law_size) := ⟨rfl, rfl, rfl, by decide +kernel, rfl, by decide +kernel, by decide +kernel⟩
theorem ok__law_size {P : Program} {w : World} {K : PySem.W.Frag} {mg : Str → Option Value} {base : Heap} {a : Ad} (T : Tx K mg a) : FnOk P w K mg base (CXd P w) 2 a.f__law_size a.d__law_size ["tape", "most"] (spD K 2 F__law_size) := fn_q T.n__law_size.F sc__law_size rfl fun cdv A outer s H E hr => by
  have nd := sc__law_size.nd
  refine qs_one ?_
  refine qs_ret ?_
  refine qe_op q_add ?_ ?_
  · exact qe_int
  · refine qe_ix ?_ ?_
    · refine qe_lst ?_
      refine qa_c ?_ ?_
      · refine qe_cl (ok__law_draw T) (hr.mono (by decide)) (by rfl) T.n__law_draw.m T.n__law_draw.F.kp T.n__law_draw.b ?_
        exact (qa_c (qv 0) (qa_c (qe_cB q_min (by rfl) T.z_min Boot.«min» (qa_c (qv 1) (qa_c qe_int qa_nil))) qa_nil))
      refine qa_c ?_ ?_
      · exact (qe_cl (ok__law_draw T) (hr.mono (by decide)) (by rfl) T.n__law_draw.m T.n__law_draw.F.kp T.n__law_draw.b (qa_c (qv 0) (qa_c (qv 1) qa_nil)))
      refine qa_c ?_ ?_
      · exact (qe_op q_sub (qv 1) qe_int)
      exact qa_nil
    · refine qe_op q_fdiv ?_ ?_
      · exact (qe_op q_mul (qe_cl (ok__law_draw T) (hr.mono (by decide)) (by rfl) T.n__law_draw.m T.n__law_draw.F.kp T.n__law_draw.b (qa_c (qv 0) (qa_c qe_int qa_nil))) qe_int)
      · exact qe_int
def g__law_frame : GS := (sSeq (sSet 2 (g2 ixD (gLst (DL.gCons (gC (.int 0)) (DL.gCons (gCall 2 F__law_draw (DL.gCons (gVar 0) (DL.gCons (gC (.int 21)) DL.gNil))) DL.gNil))) (gCall 2 F__law_draw (DL.gCons (gVar 0) (DL.gCons (gC (.int 2)) DL.gNil))))) (sRet (DL.gTup (DL.gCons (gCall 2 F__law_size (DL.gCons (gVar 0) (DL.gCons (gVar 1) DL.gNil))) (DL.gCons (gCall 2 F__law_size (DL.gCons (gVar 0) (DL.gCons (gVar 1) DL.gNil))) (DL.gCons (gVar 2) (DL.gCons (gCall 2 F__law_draw (DL.gCons (gVar 0) (DL.gCons (gC (.int 13)) DL.gNil))) DL.gNil)))))))
def F__law_frame : FD := runD 1 g__law_frame
theorem sc__law_frame : FnScope ["tape", "most", "gap"] ["tape", "most"] (defScope s__law_frame) := ⟨rfl, rfl, rfl, by decide +kernel, rfl, by decide +kernel, by decide +kernel⟩
theorem ok__law_frame {P : Program} {w : World} {K : PySem.W.Frag} {mg : Str → Option Value} {base : Heap} {a : Ad} (T : Tx K mg a) : FnOk P w K mg base (CXd P w) 3 a.f__law_frame a.d__law_frame ["tape", "most"] (spD K 2 F__law_frame) := fn_q T.n__law_frame.F sc__law_frame rfl fun cdv A outer s H E hr => by
  have nd := sc__law_frame.nd
  refine qs_cons ?_ ?_
  · refine qs_set 2 nd ?_
    refine qe_ix ?_ ?_
    · refine qe_lst ?_
      exact (qa_c qe_int (qa_c (qe_cl (ok__law_draw T) (hr.mono (by decide)) (by rfl) T.n__law_draw.m T.n__law_draw.F.kp T.n__law_draw.b (qa_c (qv 0) (qa_c qe_int qa_nil))) qa_nil))
    · exact (qe_cl (ok__law_draw T) (hr.mono (by decide)) (by rfl) T.n__law_draw.m T.n__law_draw.F.kp T.n__law_draw.b (qa_c (qv 0) (qa_c qe_int qa_nil)))
  refine qs_one ?_
  refine qs_ret ?_
  refine qe_tup ?_
  refine qa_c ?_ ?_
  · exact (qe_cl (ok__law_size T) (hr.mono (by decide)) (by rfl) T.n__law_size.m T.n__law_size.F.kp T.n__law_size.b (qa_c (qv 0) (qa_c (qv 1) qa_nil)))
  refine qa_c ?_ ?_
  · exact (qe_cl (ok__law_size T) (hr.mono (by decide)) (by rfl) T.n__law_size.m T.n__law_size.F.kp T.n__law_size.b (qa_c (qv 0) (qa_c (qv 1) qa_nil)))
  refine qa_c ?_ ?_
  · exact (qv 2)
  refine qa_c ?_ ?_
  · exact (qe_cl (ok__law_draw T) (hr.mono (by decide)) (by rfl) T.n__law_draw.m T.n__law_draw.F.kp T.n__law_draw.b (qa_c (qv 0) (qa_c qe_int qa_nil)))
  exact qa_nil
def e1__law_inks : GE := (g2 mulD (gCall 2 F__law_draw (DL.gCons (gVar 1) (DL.gCons (gC (.int 16)) DL.gNil))) (gBlt intF (DL.gCons (g2 gtD (gCall 2 F__law_draw (DL.gCons (gVar 1) (DL.gCons (gVar 3) DL.gNil))) (gC (.int 0))) DL.gNil)))
def g__law_inks : GS := (sRet (gBlt tupleF (DL.gCons (gComp (gRng1 (DL.gCons (gVar 1) DL.gNil)) gAll e1__law_inks mkLst) DL.gNil)))
def F__law_inks : FD := runD 0 g__law_inks
theorem sc__law_inks : FnScope ["tape", "wide", "thin"] ["tape", "wide", "thin"] (defScope s__law_inks) := ⟨rfl, rfl, rfl, by decide +kernel, rfl, by decide +kernel, by decide +kernel⟩
theorem ok__law_inks {P : Program} {w : World} {K : PySem.W.Frag} {mg : Str → Option Value} {base : Heap} {a : Ad} (T : Tx K mg a) : FnOk P w K mg base (CXd P w) 2 a.f__law_inks a.d__law_inks ["tape", "wide", "thin"] (spD K 3 F__law_inks) := fn_q T.n__law_inks.F sc__law_inks rfl fun cdv A outer s H E hr => by
  have nd := sc__law_inks.nd
  refine qs_one ?_
  refine qs_ret ?_
  refine qe_cT q_tuple (by rfl) T.z_tuple Boot.«tuple» ?_
  refine qa_c ?_ ?_
  · refine qe_comp (R := ["tape", "wide", "thin"]) (by kernel_rfl) (.inl rfl)  ?_ ?_ ?_
    · exact (qi_r1 (by rfl) T.z_range (qa_c (qv 1) qa_nil))
    · exact q_notests
    · intro _ _ _ _
      refine qe_op q_mul ?_ ?_
      · exact (qe_cl (ok__law_draw T) (hr.mono (by decide)) (by rfl) T.n__law_draw.m T.n__law_draw.F.kp T.n__law_draw.b (qa_c (qv 1) (qa_c qe_int qa_nil)))
      · refine qe_cT q_int (by rfl) T.z_int Boot.«int» ?_
        refine qa_c ?_ ?_
        · exact (qe_cmp q_gt (qe_cl (ok__law_draw T) (hr.mono (by decide)) (by rfl) T.n__law_draw.m T.n__law_draw.F.kp T.n__law_draw.b (qa_c (qv 1) (qa_c (qv 3) qa_nil))) qe_int)
        exact qa_nil
  exact qa_nil
def e1__law_inked : GE := (gCall 3 F__law_inks (DL.gCons (gVar 1) (DL.gCons (gVar 3) (DL.gCons (gVar 4) DL.gNil))))
def g__law_inked : GS := (sSeq (sSet 2 (gCall 2 F__law_size (DL.gCons (gVar 0) (DL.gCons (gVar 1) DL.gNil)))) (sSeq (sSet 3 (g2 addD (gC (.int 1)) (gCall 2 F__law_draw (DL.gCons (gVar 0) (DL.gCons (gC (.int 4)) DL.gNil))))) (sRet (gBlt tupleF (DL.gCons (gComp (gRng1 (DL.gCons (gCall 2 F__law_size (DL.gCons (gVar 0) (DL.gCons (gVar 1) DL.gNil))) DL.gNil)) gAll e1__law_inked mkLst) DL.gNil)))))
def F__law_inked : FD := runD 2 g__law_inked
theorem sc__law_inked : FnScope ["tape", "most", "wide", "thin"] ["tape", "most"] (defScope s__law_inked) := ⟨rfl, rfl, rfl, by decide +kernel, rfl, by decide +kernel, by decide +kernel⟩
theorem ok__law_inked {P : Program} {w : World} {K : PySem.W.Frag} {mg : Str → Option Value} {base : Heap} {a : Ad} (T : Tx K mg a) : FnOk P w K mg base (CXd P w) 3 a.f__law_inked a.d__law_inked ["tape", "most"] (spD K 2 F__law_inked) := fn_q T.n__law_inked.F sc__law_inked rfl fun cdv A outer s H E hr => by
  have nd := sc__law_inked.nd
  refine qs_cons ?_ ?_
  · exact (qs_set 2 nd (qe_cl (ok__law_size T) (hr.mono (by decide)) (by rfl) T.n__law_size.m T.n__law_size.F.kp T.n__law_size.b (qa_c (qv 0) (qa_c (qv 1) qa_nil))))
  refine qs_cons ?_ ?_
  · refine qs_set 3 nd ?_
    exact (qe_op q_add qe_int (qe_cl (ok__law_draw T) (hr.mono (by decide)) (by rfl) T.n__law_draw.m T.n__law_draw.F.kp T.n__law_draw.b (qa_c (qv 0) (qa_c qe_int qa_nil))))
  refine qs_one ?_
  refine qs_ret ?_
  refine qe_cT q_tuple (by rfl) T.z_tuple Boot.«tuple» ?_
  refine qa_c ?_ ?_
  · refine qe_comp (R := ["tape", "most", "wide", "thin"]) (by kernel_rfl) (.inl rfl)  ?_ ?_ ?_
    · exact (qi_r1 (by rfl) T.z_range (qa_c (qe_cl (ok__law_size T) (hr.mono (by decide)) (by rfl) T.n__law_size.m T.n__law_size.F.kp T.n__law_size.b (qa_c (qv 0) (qa_c (qv 1) qa_nil))) qa_nil))
    · exact q_notests
    · exact (fun _ _ _ _ => (qe_cl (ok__law_inks T) (hr.mono (by decide)) (by rfl) T.n__law_inks.m T.n__law_inks.F.kp T.n__law_inks.b (qa_c (qv 1) (qa_c (qv 3) (qa_c (qv 4) qa_nil)))))
  exact qa_nil
def g__law_far : GS := (sRet (g2 ixD (gLst (DL.gCons (g2 subD (gCall 2 F__law_draw (DL.gCons (gVar 0) (DL.gCons (g2 addD (gVar 1) (gC (.int 16))) DL.gNil))) (gC (.int 8))) (DL.gCons (g2 subD (gCall 2 F__law_draw (DL.gCons (gVar 0) (DL.gCons (gC (.int 2001)) DL.gNil))) (gC (.int 1000))) DL.gNil))) (g2 fdivD (gCall 2 F__law_draw (DL.gCons (gVar 0) (DL.gCons (gC (.int 8)) DL.gNil))) (gC (.int 7)))))
def F__law_far : FD := runD 0 g__law_far
theorem sc__law_far : FnScope ["tape", "size"] ["tape", "size"] (defScope s__law_far) := ⟨rfl, rfl, rfl, by decide +kernel, rfl, by decide +kernel, by decide +kernel⟩
theorem ok__law_far {P : Program} {w : World} {K : PySem.W.Frag} {mg : Str → Option Value} {base : Heap} {a : Ad} (T : Tx K mg a) : FnOk P w K mg base (CXd P w) 2 a.f__law_far a.d__law_far ["tape", "size"] (spD K 2 F__law_far) := fn_q T.n__law_far.F sc__law_far rfl fun cdv A outer s H E hr => by
  have nd := sc__law_far.nd
  refine qs_one ?_
  refine qs_ret ?_
  refine qe_ix ?_ ?_
  · refine qe_lst ?_
    refine qa_c ?_ ?_
    · refine qe_op q_sub ?_ ?_
      · exact (qe_cl (ok__law_draw T) (hr.mono (by decide)) (by rfl) T.n__law_draw.m T.n__law_draw.F.kp T.n__law_draw.b (qa_c (qv 0) (qa_c (qe_op q_add (qv 1) qe_int) qa_nil)))
      · exact qe_int
    refine qa_c ?_ ?_
    · exact (qe_op q_sub (qe_cl (ok__law_draw T) (hr.mono (by decide)) (by rfl) T.n__law_draw.m T.n__law_draw.F.kp T.n__law_draw.b (qa_c (qv 0) (qa_c qe_int qa_nil))) qe_int)
    exact qa_nil
  · exact (qe_op q_fdiv (qe_cl (ok__law_draw T) (hr.mono (by decide)) (by rfl) T.n__law_draw.m T.n__law_draw.F.kp T.n__law_draw.b (qa_c (qv 0) (qa_c qe_int qa_nil))) qe_int)
def g__law_mover : GS := (sSeq (sSet 3 (gC .non)) (sSeq (sIf (gAndT (gTst (g2 gtD (gVar 2) (gC (.int 0)))) (gTst (g2 gtD (gCall 2 F__law_draw (DL.gCons (gVar 0) (DL.gCons (gC (.int 8)) DL.gNil))) (gC (.int 0))))) (sSet 3 (gCall 2 F__law_draw (DL.gCons (gVar 0) (DL.gCons (gVar 2) DL.gNil)))) sNext) (sRet (DL.gTup (DL.gCons (gVar 3) (DL.gCons (gCall 2 F__law_far (DL.gCons (gVar 0) (DL.gCons (g2 ixD (gVar 1) (gC (.int 0))) DL.gNil))) (DL.gCons (gCall 2 F__law_far (DL.gCons (gVar 0) (DL.gCons (g2 ixD (gVar 1) (gC (.int 1))) DL.gNil))) (DL.gCons (gCall 2 F__law_draw (DL.gCons (gVar 0) (DL.gCons (gC (.int 4)) DL.gNil))) (DL.gCons (gCall 2 F__law_draw (DL.gCons (gVar 0) (DL.gCons (gC (.int 4)) DL.gNil))) DL.gNil)))))))))
def F__law_mover : FD := runD 1 g__law_mover
theorem sc__law_mover : FnScope ["tape", "frame", "shapes", "shape"] ["tape", "frame", "shapes"] (defScope s__law_mover) := ⟨rfl, rfl, rfl, by decide +kernel, rfl, by decide +kernel, by decide +kernel⟩
theorem ok__law_mover {P : Program} {w : World} {K : PySem.W.Frag} {mg : Str → Option Value} {base : Heap} {a : Ad} (T : Tx K mg a) : FnOk P w K mg base (CXd P w) 3 a.f__law_mover a.d__law_mover ["tape", "frame", "shapes"] (spD K 3 F__law_mover) := fn_q T.n__law_mover.F sc__law_mover rfl fun cdv A outer s H E hr => by
  have nd := sc__law_mover.nd
  refine qs_cons ?_ ?_
  · exact (qs_set 3 nd qe_non)
  refine qs_cons ?_ ?_
  · refine qs_if ?_ ?_ ?_
    · refine qt_w ?_
      refine qw_and ?_ ?_
      · exact (qt_cmp q_gt (qv 2) qe_int)
      · refine qw_and1 ?_
        exact (qt_cmp q_gt (qe_cl (ok__law_draw T) (hr.mono (by decide)) (by rfl) T.n__law_draw.m T.n__law_draw.F.kp T.n__law_draw.b (qa_c (qv 0) (qa_c qe_int qa_nil))) qe_int)
    · refine qs_one ?_
      exact (qs_set 3 nd (qe_cl (ok__law_draw T) (hr.mono (by decide)) (by rfl) T.n__law_draw.m T.n__law_draw.F.kp T.n__law_draw.b (qa_c (qv 0) (qa_c (qv 2) qa_nil))))
    · exact qs_nil
  refine qs_one ?_
  refine qs_ret ?_
  refine qe_tup ?_
  refine qa_c ?_ ?_
  · exact (qv 3)
  refine qa_c ?_ ?_
  · exact (qe_cl (ok__law_far T) (hr.mono (by decide)) (by rfl) T.n__law_far.m T.n__law_far.F.kp T.n__law_far.b (qa_c (qv 0) (qa_c (qe_ix (qv 1) qe_int) qa_nil)))
  refine qa_c ?_ ?_
  · exact (qe_cl (ok__law_far T) (hr.mono (by decide)) (by rfl) T.n__law_far.m T.n__law_far.F.kp T.n__law_far.b (qa_c (qv 0) (qa_c (qe_ix (qv 1) qe_int) qa_nil)))
  refine qa_c ?_ ?_
  · exact (qe_cl (ok__law_draw T) (hr.mono (by decide)) (by rfl) T.n__law_draw.m T.n__law_draw.F.kp T.n__law_draw.b (qa_c (qv 0) (qa_c qe_int qa_nil)))
  refine qa_c ?_ ?_
  · exact (qe_cl (ok__law_draw T) (hr.mono (by decide)) (by rfl) T.n__law_draw.m T.n__law_draw.F.kp T.n__law_draw.b (qa_c (qv 0) (qa_c qe_int qa_nil)))
  exact qa_nil
def e1__law_stand : GE := (gCall 2 F__law_inked (DL.gCons (gVar 1) (DL.gCons (gC (.int 8)) DL.gNil)))
def e2__law_stand : GE := (gCall 3 F__law_mover (DL.gCons (gVar 1) (DL.gCons (gVar 2) (DL.gCons (gBlt lenF (DL.gCons (gVar 7) DL.gNil)) DL.gNil))))
def e3__law_stand : GE := (gCall 2 F__law_draw (DL.gCons (gVar 1) (DL.gCons (gC (.int 64)) DL.gNil)))
def g__law_stand : GS := (sSeq (sSet 3 (gCall 2 F__law_inked (DL.gCons (gVar 0) (DL.gCons (gC (.int 16)) DL.gNil)))) (sSeq (sSet 4 (DL.gTup (DL.gCons (gCall 2 F__law_far (DL.gCons (gVar 0) (DL.gCons (gC (.int 9)) DL.gNil))) (DL.gCons (gCall 2 F__law_far (DL.gCons (gVar 0) (DL.gCons (gC (.int 9)) DL.gNil))) DL.gNil)))) (sSeq (sSet 5 (g2 ixD (gLst (DL.gCons (gCall 2 F__law_draw (DL.gCons (gVar 0) (DL.gCons (gC (.int 4)) DL.gNil))) (DL.gCons (gCall 2 F__law_draw (DL.gCons (gVar 0) (DL.gCons (gC (.int 9)) DL.gNil))) DL.gNil))) (g2 fdivD (gCall 2 F__law_draw (DL.gCons (gVar 0) (DL.gCons (gC (.int 4)) DL.gNil))) (gC (.int 3))))) (sSeq (sSet 6 (gBlt tupleF (DL.gCons (gComp (gRng1 (DL.gCons (gVar 5) DL.gNil)) gAll e1__law_stand mkLst) DL.gNil))) (sSeq (sSet 7 (gBlt tupleF (DL.gCons (gComp (gRng1 (DL.gCons (gCall 2 F__law_draw (DL.gCons (gVar 0) (DL.gCons (g2 addD (gVar 2) (gC (.int 1))) DL.gNil))) DL.gNil)) gAll e2__law_stand mkLst) DL.gNil))) (sRet (DL.gTup (DL.gCons (gVar 3) (DL.gCons (gVar 4) (DL.gCons (gVar 6) (DL.gCons (gVar 7) (DL.gCons (gBlt tupleF (DL.gCons (gComp (gRng1 (DL.gCons (gC (.int 16)) DL.gNil)) gAll e3__law_stand mkLst) DL.gNil)) DL.gNil))))))))))))
def F__law_stand : FD := runD 5 g__law_stand
theorem sc__law_stand : FnScope ["tape", "frame", "movers_most", "floor", "shift", "shapes", "book", "movers"] ["tape", "frame", "movers_most"] (defScope s__law_stand) := ⟨rfl, rfl, rfl, by decide +kernel, rfl, by decide +kernel, by decide +kernel⟩
theorem ok__law_stand {P : Program} {w : World} {K : PySem.W.Frag} {mg : Str → Option Value} {base : Heap} {a : Ad} (T : Tx K mg a) : FnOk P w K mg base (CXd P w) 4 a.f__law_stand a.d__law_stand ["tape", "frame", "movers_most"] (spD K 3 F__law_stand) := fn_q T.n__law_stand.F sc__law_stand rfl fun cdv A outer s H E hr => by
  have nd := sc__law_stand.nd
  refine qs_cons ?_ ?_
  · exact (qs_set 3 nd (qe_cl (ok__law_inked T) (hr.mono (by decide)) (by rfl) T.n__law_inked.m T.n__law_inked.F.kp T.n__law_inked.b (qa_c (qv 0) (qa_c qe_int qa_nil))))
  refine qs_cons ?_ ?_
  · refine qs_set 4 nd ?_
    refine qe_tup ?_
    refine qa_c ?_ ?_
    · exact (qe_cl (ok__law_far T) (hr.mono (by decide)) (by rfl) T.n__law_far.m T.n__law_far.F.kp T.n__law_far.b (qa_c (qv 0) (qa_c qe_int qa_nil)))
    refine qa_c ?_ ?_
    · exact (qe_cl (ok__law_far T) (hr.mono (by decide)) (by rfl) T.n__law_far.m T.n__law_far.F.kp T.n__law_far.b (qa_c (qv 0) (qa_c qe_int qa_nil)))
    exact qa_nil
  refine qs_cons ?_ ?_
  · refine qs_set 5 nd ?_
    refine qe_ix ?_ ?_
    · refine qe_lst ?_
      refine qa_c ?_ ?_
      · exact (qe_cl (ok__law_draw T) (hr.mono (by decide)) (by rfl) T.n__law_draw.m T.n__law_draw.F.kp T.n__law_draw.b (qa_c (qv 0) (qa_c qe_int qa_nil)))
      refine qa_c ?_ ?_
      · exact (qe_cl (ok__law_draw T) (hr.mono (by decide)) (by rfl) T.n__law_draw.m T.n__law_draw.F.kp T.n__law_draw.b (qa_c (qv 0) (qa_c qe_int qa_nil)))
      exact qa_nil
    · exact (qe_op q_fdiv (qe_cl (ok__law_draw T) (hr.mono (by decide)) (by rfl) T.n__law_draw.m T.n__law_draw.F.kp T.n__law_draw.b (qa_c (qv 0) (qa_c qe_int qa_nil))) qe_int)
  refine qs_cons ?_ ?_
  · refine qs_set 6 nd ?_
    refine qe_cT q_tuple (by rfl) T.z_tuple Boot.«tuple» ?_
    refine qa_c ?_ ?_
    · refine qe_comp (R := ["tape", "frame", "movers_most", "floor", "shift", "shapes", "book", "movers"]) (by kernel_rfl) (.inl rfl)  ?_ ?_ ?_
      · exact (qi_r1 (by rfl) T.z_range (qa_c (qv 5) qa_nil))
      · exact q_notests
      · exact (fun _ _ _ _ => (qe_cl (ok__law_inked T) (hr.mono (by decide)) (by rfl) T.n__law_inked.m T.n__law_inked.F.kp T.n__law_inked.b (qa_c (qv 1) (qa_c qe_int qa_nil))))
    exact qa_nil
  refine qs_cons ?_ ?_
  · refine qs_set 7 nd ?_
    refine qe_cT q_tuple (by rfl) T.z_tuple Boot.«tuple» ?_
    refine qa_c ?_ ?_
    · refine qe_comp (R := ["tape", "frame", "movers_most", "floor", "shift", "shapes", "book", "movers"]) (by kernel_rfl) (.inl rfl)  ?_ ?_ ?_
      · refine qi_r1 (by rfl) T.z_range ?_
        refine qa_c ?_ ?_
        · exact (qe_cl (ok__law_draw T) (hr.mono (by decide)) (by rfl) T.n__law_draw.m T.n__law_draw.F.kp T.n__law_draw.b (qa_c (qv 0) (qa_c (qe_op q_add (qv 2) qe_int) qa_nil)))
        exact qa_nil
      · exact q_notests
      · intro _ _ _ _
        refine qe_cl (ok__law_mover T) (hr.mono (by decide)) (by rfl) T.n__law_mover.m T.n__law_mover.F.kp T.n__law_mover.b ?_
        exact (qa_c (qv 1) (qa_c (qv 2) (qa_c (qe_cB q_len (by rfl) T.z_len Boot.«len» (qa_c (qv 7) qa_nil)) qa_nil)))
    exact qa_nil
  refine qs_one ?_
  refine qs_ret ?_
  refine qe_tup ?_
  refine qa_c ?_ ?_
  · exact (qv 3)
  refine qa_c ?_ ?_
  · exact (qv 4)
  refine qa_c ?_ ?_
  · exact (qv 6)
  refine qa_c ?_ ?_
  · exact (qv 7)
  refine qa_c ?_ ?_
  · refine qe_cT q_tuple (by rfl) T.z_tuple Boot.«tuple» ?_
    refine qa_c ?_ ?_
    · refine qe_comp (R := ["tape", "frame", "movers_most", "floor", "shift", "shapes", "book", "movers"]) (by kernel_rfl) (.inl rfl)  ?_ ?_ ?_
      · exact (qi_r1 (by rfl) T.z_range (qa_c qe_int qa_nil))
      · exact q_notests
      · exact (fun _ _ _ _ => (qe_cl (ok__law_draw T) (hr.mono (by decide)) (by rfl) T.n__law_draw.m T.n__law_draw.F.kp T.n__law_draw.b (qa_c (qv 1) (qa_c qe_int qa_nil))))
    exact qa_nil
  exact qa_nil
def g__law_deed : GS := (sSeq (sSet 3 (gCall 2 F__law_draw (DL.gCons (gVar 0) (DL.gCons (gC (.int 8)) DL.gNil)))) (sSeq (sIf (gOrT (gTst (g2 ltD (gVar 3) (gC (.int 2)))) (gTst (g2 (eqOp false) (g2 ixD (gVar 2) (gC (.int 3))) (DL.gTup DL.gNil)))) (sSeq (sSet 4 (gLst (DL.gCons (DL.gTup (DL.gCons (gC (.str "shift")) (DL.gCons (gCall 2 F__law_far (DL.gCons (gVar 0) (DL.gCons (gC (.int 9)) DL.gNil))) (DL.gCons (gCall 2 F__law_far (DL.gCons (gVar 0) (DL.gCons (gC (.int 9)) DL.gNil))) DL.gNil)))) (DL.gCons (DL.gTup (DL.gCons (gC (.str "pot")) (DL.gCons (gCall 2 F__law_draw (DL.gCons (gVar 0) (DL.gCons (gC (.int 16)) DL.gNil))) (DL.gCons (gCall 2 F__law_draw (DL.gCons (gVar 0) (DL.gCons (gC (.int 64)) DL.gNil))) DL.gNil)))) DL.gNil)))) (sRet (g2 ixD (gVar 4) (g2 modD (gVar 3) (gC (.int 2)))))) sNext) (sSeq (sSet 5 (gCall 2 F__law_draw (DL.gCons (gVar 0) (DL.gCons (gBlt lenF (DL.gCons (g2 ixD (gVar 2) (gC (.int 3))) DL.gNil)) DL.gNil)))) (sSeq (sSet 6 (gCall 3 F__law_mover (DL.gCons (gVar 0) (DL.gCons (gVar 1) (DL.gCons (gBlt lenF (DL.gCons (g2 ixD (gVar 2) (gC (.int 2))) DL.gNil)) DL.gNil))))) (sSeq (sIf (gTst (g2 ltD (gVar 3) (gC (.int 5)))) (sRet (DL.gTup (DL.gCons (gC (.str "move")) (DL.gCons (gVar 5) (DL.gCons (g2 ixD (gVar 6) (gC (.int 1))) (DL.gCons (g2 ixD (gVar 6) (gC (.int 2))) DL.gNil)))))) sNext) (sRet (g2 ixD (gLst (DL.gCons (DL.gTup (DL.gCons (gC (.str "shape")) (DL.gCons (gVar 5) (DL.gCons (g2 ixD (gVar 6) (gC (.int 0))) DL.gNil)))) (DL.gCons (DL.gTup (DL.gCons (gC (.str "rank")) (DL.gCons (gVar 5) (DL.gCons (g2 ixD (gVar 6) (gC (.int 3))) DL.gNil)))) (DL.gCons (DL.gTup (DL.gCons (gC (.str "turn")) (DL.gCons (gVar 5) (DL.gCons (g2 ixD (gVar 6) (gC (.int 4))) DL.gNil)))) DL.gNil)))) (g2 subD (gVar 3) (gC (.int 5))))))))))
def F__law_deed : FD := runD 4 g__law_deed
theorem sc__law_deed : FnScope ["tape", "frame", "stand", "way", "some", "number", "mover"] ["tape", "frame", "stand"] (defScope s__law_deed) := ⟨rfl, rfl, rfl, by decide +kernel, rfl, by decide +kernel, by decide +kernel⟩
theorem ok__law_deed {P : Program} {w : World} {K : PySem.W.Frag} {mg : Str → Option Value} {base : Heap} {a : Ad} (T : Tx K mg a) : FnOk P w K mg base (CXd P w) 4 a.f__law_deed a.d__law_deed ["tape", "frame", "stand"] (spD K 3 F__law_deed) := fn_q T.n__law_deed.F sc__law_deed rfl fun cdv A outer s H E hr => by
  have nd := sc__law_deed.nd
  refine qs_cons ?_ ?_
  · exact (qs_set 3 nd (qe_cl (ok__law_draw T) (hr.mono (by decide)) (by rfl) T.n__law_draw.m T.n__law_draw.F.kp T.n__law_draw.b (qa_c (qv 0) (qa_c qe_int qa_nil))))
  refine qs_cons ?_ ?_
  · refine qs_if ?_ ?_ ?_
    · refine qt_w ?_
      refine qw_or ?_ ?_
      · exact (qt_cmp q_lt (qv 3) qe_int)
      · exact (qw_or1 (qt_cmp (q_eq hr) (qe_ix (qv 2) qe_int) (qe_tup qa_nil)))
    · refine qs_cons ?_ ?_
      · refine qs_set 4 nd ?_
        refine qe_lst ?_
        refine qa_c ?_ ?_
        · refine qe_tup ?_
          refine qa_c ?_ ?_
          · exact qe_str
          refine qa_c ?_ ?_
          · exact (qe_cl (ok__law_far T) (hr.mono (by decide)) (by rfl) T.n__law_far.m T.n__law_far.F.kp T.n__law_far.b (qa_c (qv 0) (qa_c qe_int qa_nil)))
          refine qa_c ?_ ?_
          · exact (qe_cl (ok__law_far T) (hr.mono (by decide)) (by rfl) T.n__law_far.m T.n__law_far.F.kp T.n__law_far.b (qa_c (qv 0) (qa_c qe_int qa_nil)))
          exact qa_nil
        refine qa_c ?_ ?_
        · refine qe_tup ?_
          refine qa_c ?_ ?_
          · exact qe_str
          refine qa_c ?_ ?_
          · exact (qe_cl (ok__law_draw T) (hr.mono (by decide)) (by rfl) T.n__law_draw.m T.n__law_draw.F.kp T.n__law_draw.b (qa_c (qv 0) (qa_c qe_int qa_nil)))
          refine qa_c ?_ ?_
          · exact (qe_cl (ok__law_draw T) (hr.mono (by decide)) (by rfl) T.n__law_draw.m T.n__law_draw.F.kp T.n__law_draw.b (qa_c (qv 0) (qa_c qe_int qa_nil)))
          exact qa_nil
        exact qa_nil
      refine qs_one ?_
      exact (qs_ret (qe_ix (qv 4) (qe_op q_mod (qv 3) qe_int)))
    · exact qs_nil
  refine qs_cons ?_ ?_
  · refine qs_set 5 nd ?_
    refine qe_cl (ok__law_draw T) (hr.mono (by decide)) (by rfl) T.n__law_draw.m T.n__law_draw.F.kp T.n__law_draw.b ?_
    exact (qa_c (qv 0) (qa_c (qe_cB q_len (by rfl) T.z_len Boot.«len» (qa_c (qe_ix (qv 2) qe_int) qa_nil)) qa_nil))
  refine qs_cons ?_ ?_
  · refine qs_set 6 nd ?_
    refine qe_cl (ok__law_mover T) (hr.mono (by decide)) (by rfl) T.n__law_mover.m T.n__law_mover.F.kp T.n__law_mover.b ?_
    refine qa_c ?_ ?_
    · exact (qv 0)
    refine qa_c ?_ ?_
    · exact (qv 1)
    refine qa_c ?_ ?_
    · exact (qe_cB q_len (by rfl) T.z_len Boot.«len» (qa_c (qe_ix (qv 2) qe_int) qa_nil))
    exact qa_nil
  refine qs_cons ?_ ?_
  · refine qs_if ?_ ?_ ?_
    · exact (qt_cmp q_lt (qv 3) qe_int)
    · refine qs_one ?_
      refine qs_ret ?_
      refine qe_tup ?_
      refine qa_c ?_ ?_
      · exact qe_str
      refine qa_c ?_ ?_
      · exact (qv 5)
      refine qa_c ?_ ?_
      · exact (qe_ix (qv 6) qe_int)
      refine qa_c ?_ ?_
      · exact (qe_ix (qv 6) qe_int)
      exact qa_nil
    · exact qs_nil
  refine qs_one ?_
  refine qs_ret ?_
  refine qe_ix ?_ ?_
  · refine qe_lst ?_
    refine qa_c ?_ ?_
    · refine qe_tup ?_
      exact (qa_c qe_str (qa_c (qv 5) (qa_c (qe_ix (qv 6) qe_int) qa_nil)))
    refine qa_c ?_ ?_
    · refine qe_tup ?_
      exact (qa_c qe_str (qa_c (qv 5) (qa_c (qe_ix (qv 6) qe_int) qa_nil)))
    refine qa_c ?_ ?_
    · refine qe_tup ?_
      exact (qa_c qe_str (qa_c (qv 5) (qa_c (qe_ix (qv 6) qe_int) qa_nil)))
    exact qa_nil
  · exact (qe_op q_sub (qv 3) qe_int)
def b1__law_score : GS := (sSeq (sSet 6 (gCall 2 F__law_draw (DL.gCons (gVar 0) (DL.gCons (gC (.int 8)) DL.gNil)))) (sSeq (sSet 7 (DL.gTup (DL.gCons (gCall 2 F__law_draw (DL.gCons (gVar 0) (DL.gCons (gBlt minF (DL.gCons (gC (.int 61)) (DL.gCons (g2 addD (g2 ixD (gVar 1) (gC (.int 1))) (gC (.int 1))) DL.gNil))) DL.gNil))) (DL.gCons (gCall 2 F__law_draw (DL.gCons (gVar 0) (DL.gCons (g2 addD (g2 addD (g2 ixD (gVar 1) (gC (.int 0))) (g2 ixD (gVar 1) (gC (.int 2)))) (gC (.int 1))) DL.gNil))) DL.gNil)))) (sIf (gTst (g2 ltD (gVar 6) (gC (.int 4)))) (sDrop (gApp (gVar 4) (DL.gTup (DL.gCons (gC (.str "do")) (DL.gCons (gCall 3 F__law_deed (DL.gCons (gVar 0) (DL.gCons (gVar 1) (DL.gCons (gVar 2) DL.gNil)))) DL.gNil))))) (sIf (gTst (g2 ltD (gVar 6) (gC (.int 6)))) (sDrop (gApp (gVar 4) (g2 addD (DL.gTup (DL.gCons (g2 ixD (gLst (DL.gCons (gC (.str "wait")) (DL.gCons (gC (.str "skip")) DL.gNil))) (g2 subD (gVar 6) (gC (.int 4)))) DL.gNil)) (gVar 7)))) (sIf (gTst (g2 (eqOp false) (gVar 6) (gC (.int 6)))) (sSeq (sSet 8 (DL.gTup (DL.gCons (gCall 2 F__law_draw (DL.gCons (gVar 0) (DL.gCons (gC (.int 61)) DL.gNil))) (DL.gCons (gCall 2 F__law_draw (DL.gCons (gVar 0) (DL.gCons (gC (.int 61)) DL.gNil))) DL.gNil)))) (sDrop (gApp (gVar 4) (g2 addD (DL.gTup (DL.gCons (g2 ixD (gLst (DL.gCons (gC (.str "wait")) (DL.gCons (gC (.str "skip")) DL.gNil))) (gCall 2 F__law_draw (DL.gCons (gVar 0) (DL.gCons (gC (.int 2)) DL.gNil)))) DL.gNil)) (g2 ixD (gLst (DL.gCons (gVar 7) (DL.gCons (gVar 8) DL.gNil))) (g2 fdivD (gCall 2 F__law_draw (DL.gCons (gVar 0) (DL.gCons (gC (.int 3)) DL.gNil))) (gC (.int 2)))))))) (sDrop (gApp (gVar 4) (DL.gTup (DL.gCons (gC (.str "to")) (DL.gCons (g2 ixD (gLst (DL.gCons (gCall 2 F__law_draw (DL.gCons (gVar 0) (DL.gCons (gVar 3) DL.gNil))) (DL.gCons (gBlt minF (DL.gCons (g2 subD (gVar 3) (gC (.int 1))) (DL.gCons (g2 addD (gVar 5) (gC (.int 1))) DL.gNil))) DL.gNil))) (gCall 2 F__law_draw (DL.gCons (gVar 0) (DL.gCons (gC (.int 2)) DL.gNil)))) DL.gNil))))))))))
def g__law_score : GS := (sSeq (sSet 3 (g2 ixD (gLst (DL.gCons (gCall 2 F__law_draw (DL.gCons (gVar 0) (DL.gCons (gC (.int 5)) DL.gNil))) (DL.gCons (gCall 2 F__law_draw (DL.gCons (gVar 0) (DL.gCons (gC (.int 20)) DL.gNil))) (DL.gCons (gCall 2 F__law_draw (DL.gCons (gVar 0) (DL.gCons (gC (.int 101)) DL.gNil))) DL.gNil)))) (g2 fdivD (gCall 2 F__law_draw (DL.gCons (gVar 0) (DL.gCons (gC (.int 8)) DL.gNil))) (gC (.int 3))))) (sSeq (sSet 4 (gMut DL.gNil)) (sSeq (sFor (gRng1 (DL.gCons (gVar 3) DL.gNil)) (oneN 5) b1__law_score) (sRet (gVar 4)))))
def F__law_score : FD := fun ds M => retP M.length (runD 6 g__law_score ds M)
theorem sc__law_score : FnScope ["tape", "frame", "stand", "many", "found", "k", "way", "place", "far"] ["tape", "frame", "stand"] (defScope s__law_score) := ⟨rfl, rfl, rfl, by decide +kernel, rfl, by decide +kernel, by decide +kernel⟩
theorem ok__law_score {P : Program} {w : World} {K : PySem.W.Frag} {mg : Str → Option Value} {base : Heap} {a : Ad} (T : Tx K mg a) : FnOk P w K mg base (CXd P w) 5 a.f__law_score a.d__law_score ["tape", "frame", "stand"] (spD K 3 F__law_score) := fn_pop (F := runD 6 g__law_score) <| fn_q T.n__law_score.F sc__law_score rfl fun cdv A outer s H E hr => by
  have nd := sc__law_score.nd
  refine qs_cons ?_ ?_
  · refine qs_set 3 nd ?_
    refine qe_ix ?_ ?_
    · refine qe_lst ?_
      refine qa_c ?_ ?_
      · exact (qe_cl (ok__law_draw T) (hr.mono (by decide)) (by rfl) T.n__law_draw.m T.n__law_draw.F.kp T.n__law_draw.b (qa_c (qv 0) (qa_c qe_int qa_nil)))
      refine qa_c ?_ ?_
      · exact (qe_cl (ok__law_draw T) (hr.mono (by decide)) (by rfl) T.n__law_draw.m T.n__law_draw.F.kp T.n__law_draw.b (qa_c (qv 0) (qa_c qe_int qa_nil)))
      refine qa_c ?_ ?_
      · exact (qe_cl (ok__law_draw T) (hr.mono (by decide)) (by rfl) T.n__law_draw.m T.n__law_draw.F.kp T.n__law_draw.b (qa_c (qv 0) (qa_c qe_int qa_nil)))
      exact qa_nil
    · exact (qe_op q_fdiv (qe_cl (ok__law_draw T) (hr.mono (by decide)) (by rfl) T.n__law_draw.m T.n__law_draw.F.kp T.n__law_draw.b (qa_c (qv 0) (qa_c qe_int qa_nil))) qe_int)
  refine qs_cons ?_ ?_
  · exact (qs_set 4 nd (qe_mut qa_nil))
  refine qs_cons ?_ ?_
  · refine qs_for PassesOwn.leaving ?_ ?_ ?_
    · exact (qi_r1 (by rfl) T.z_range (qa_c (qv 3) qa_nil))
    · exact (qn 5 nd)
    · refine qs_cons ?_ ?_
      · exact (qs_set 6 nd (qe_cl (ok__law_draw T) (hr.mono (by decide)) (by rfl) T.n__law_draw.m T.n__law_draw.F.kp T.n__law_draw.b (qa_c (qv 0) (qa_c qe_int qa_nil))))
      refine qs_cons ?_ ?_
      · refine qs_set 7 nd ?_
        refine qe_tup ?_
        refine qa_c ?_ ?_
        · refine qe_cl (ok__law_draw T) (hr.mono (by decide)) (by rfl) T.n__law_draw.m T.n__law_draw.F.kp T.n__law_draw.b ?_
          refine qa_c ?_ ?_
          · exact (qv 0)
          refine qa_c ?_ ?_
          · refine qe_cB q_min (by rfl) T.z_min Boot.«min» ?_
            exact (qa_c qe_int (qa_c (qe_op q_add (qe_ix (qv 1) qe_int) qe_int) qa_nil))
          exact qa_nil
        refine qa_c ?_ ?_
        · refine qe_cl (ok__law_draw T) (hr.mono (by decide)) (by rfl) T.n__law_draw.m T.n__law_draw.F.kp T.n__law_draw.b ?_
          refine qa_c ?_ ?_
          · exact (qv 0)
          refine qa_c ?_ ?_
          · refine qe_op q_add ?_ ?_
            · exact (qe_op q_add (qe_ix (qv 1) qe_int) (qe_ix (qv 1) qe_int))
            · exact qe_int
          exact qa_nil
        exact qa_nil
      refine qs_one ?_
      refine qs_if ?_ ?_ ?_
      · exact (qt_cmp q_lt (qv 6) qe_int)
      · refine qs_one ?_
        refine qs_drop ?_
        refine qe_append ?_ ?_
        · exact (qv 4)
        · refine qe_tup ?_
          refine qa_c ?_ ?_
          · exact qe_str
          refine qa_c ?_ ?_
          · exact (qe_cl (ok__law_deed T) (hr.mono (by decide)) (by rfl) T.n__law_deed.m T.n__law_deed.F.kp T.n__law_deed.b (qa_c (qv 0) (qa_c (qv 1) (qa_c (qv 2) qa_nil))))
          exact qa_nil
      · refine qs_one ?_
        refine qs_if ?_ ?_ ?_
        · exact (qt_cmp q_lt (qv 6) qe_int)
        · refine qs_one ?_
          refine qs_drop ?_
          refine qe_append ?_ ?_
          · exact (qv 4)
          · refine qe_op q_add ?_ ?_
            · refine qe_tup ?_
              refine qa_c ?_ ?_
              · refine qe_ix ?_ ?_
                · exact (qe_lst (qa_c qe_str (qa_c qe_str qa_nil)))
                · exact (qe_op q_sub (qv 6) qe_int)
              exact qa_nil
            · exact (qv 7)
        · refine qs_one ?_
          refine qs_if ?_ ?_ ?_
          · exact (qt_cmp (q_eq hr) (qv 6) qe_int)
          · refine qs_cons ?_ ?_
            · refine qs_set 8 nd ?_
              refine qe_tup ?_
              refine qa_c ?_ ?_
              · exact (qe_cl (ok__law_draw T) (hr.mono (by decide)) (by rfl) T.n__law_draw.m T.n__law_draw.F.kp T.n__law_draw.b (qa_c (qv 0) (qa_c qe_int qa_nil)))
              refine qa_c ?_ ?_
              · exact (qe_cl (ok__law_draw T) (hr.mono (by decide)) (by rfl) T.n__law_draw.m T.n__law_draw.F.kp T.n__law_draw.b (qa_c (qv 0) (qa_c qe_int qa_nil)))
              exact qa_nil
            refine qs_one ?_
            refine qs_drop ?_
            refine qe_append ?_ ?_
            · exact (qv 4)
            · refine qe_op q_add ?_ ?_
              · refine qe_tup ?_
                refine qa_c ?_ ?_
                · refine qe_ix ?_ ?_
                  · exact (qe_lst (qa_c qe_str (qa_c qe_str qa_nil)))
                  · exact (qe_cl (ok__law_draw T) (hr.mono (by decide)) (by rfl) T.n__law_draw.m T.n__law_draw.F.kp T.n__law_draw.b (qa_c (qv 0) (qa_c qe_int qa_nil)))
                exact qa_nil
              · refine qe_ix ?_ ?_
                · exact (qe_lst (qa_c (qv 7) (qa_c (qv 8) qa_nil)))
                · exact (qe_op q_fdiv (qe_cl (ok__law_draw T) (hr.mono (by decide)) (by rfl) T.n__law_draw.m T.n__law_draw.F.kp T.n__law_draw.b (qa_c (qv 0) (qa_c qe_int qa_nil))) qe_int)
          · refine qs_one ?_
            refine qs_drop ?_
            refine qe_append ?_ ?_
            · exact (qv 4)
            · refine qe_tup ?_
              refine qa_c ?_ ?_
              · exact qe_str
              refine qa_c ?_ ?_
              · refine qe_ix ?_ ?_
                · refine qe_lst ?_
                  refine qa_c ?_ ?_
                  · exact (qe_cl (ok__law_draw T) (hr.mono (by decide)) (by rfl) T.n__law_draw.m T.n__law_draw.F.kp T.n__law_draw.b (qa_c (qv 0) (qa_c (qv 3) qa_nil)))
                  refine qa_c ?_ ?_
                  · refine qe_cB q_min (by rfl) T.z_min Boot.«min» ?_
                    exact (qa_c (qe_op q_sub (qv 3) qe_int) (qa_c (qe_op q_add (qv 5) qe_int) qa_nil))
                  exact qa_nil
                · exact (qe_cl (ok__law_draw T) (hr.mono (by decide)) (by rfl) T.n__law_draw.m T.n__law_draw.F.kp T.n__law_draw.b (qa_c (qv 0) (qa_c qe_int qa_nil)))
              exact qa_nil
  refine qs_one ?_
  exact (qs_ret (qv 4))
def b1__law_hand : GS := (sSeq (sSet 7 (g2 ixD (gVar 1) (gVar 5))) (sSeq (sIf (gAndT (gTst (g2 (eqOp false) (g2 ixD (gVar 7) (gC (.int 0))) (gC (.str "wait")))) (gTst (g2 gtD (g2 addD (g2 mulD (g2 ixD (gVar 7) (gC (.int 1))) (gVar 3)) (g2 ixD (gVar 7) (gC (.int 2)))) (gVar 6)))) (sSet 6 (g2 addD (g2 mulD (g2 ixD (gVar 7) (gC (.int 1))) (gVar 3)) (g2 ixD (gVar 7) (gC (.int 2))))) sNext) (sSeq (sIf (gTst (g2 gtD (gVar 6) (g2 subD (g2 mulD (gVar 3) (g2 ixD (gVar 0) (gC (.int 1)))) (gC (.int 1))))) (sRet (gVar 4)) sNext) (sSeq (sSet 8 (g2 addD (gVar 5) (gC (.int 1)))) (sSeq (sIf (gTst (g2 (eqOp false) (g2 ixD (gVar 7) (gC (.int 0))) (gC (.str "do")))) (sDrop (gApp (gVar 4) (DL.gTup (DL.gCons (gVar 6) (DL.gCons (g2 ixD (gVar 7) (gC (.int 1))) DL.gNil))))) sNext) (sSeq (sIf (gTst (g2 (eqOp false) (g2 ixD (gVar 7) (gC (.int 0))) (gC (.str "to")))) (sSet 8 (g2 ixD (gVar 7) (gC (.int 1)))) sNext) (sSeq (sIf (gAndT (gTst (g2 (eqOp false) (g2 ixD (gVar 7) (gC (.int 0))) (gC (.str "skip")))) (gTst (g2 leD (g2 addD (g2 mulD (g2 ixD (gVar 7) (gC (.int 1))) (gVar 3)) (g2 ixD (gVar 7) (gC (.int 2)))) (gVar 6)))) (sSet 8 (g2 addD (gVar 5) (gC (.int 2)))) sNext) (sSeq (sSet 5 (gVar 8)) (sSet 6 (g2 addD (gVar 6) (gVar 2)))))))))))
def w1__law_hand : GT := (gTst (g2 ltD (gVar 5) (gBlt lenF (DL.gCons (gVar 1) DL.gNil))))
def g__law_hand : GS := (sSeq (sSet 3 (g2 addD (g2 ixD (gVar 0) (gC (.int 0))) (g2 ixD (gVar 0) (gC (.int 2))))) (sSeq (sSet 4 (gMut DL.gNil)) (sSeq (sSet 5 (gC (.int 0))) (sSeq (sSet 6 (gC (.int 0))) (sSeq (sWhile 5000 w1__law_hand b1__law_hand) (sRet (gVar 4)))))))
def F__law_hand : FD := fun ds M => retP M.length (runD 6 g__law_hand ds M)
theorem sc__law_hand : FnScope ["frame", "score", "pace", "row", "found", "here", "tick", "line", "later"] ["frame", "score", "pace"] (defScope s__law_hand) := ⟨rfl, rfl, rfl, by decide +kernel, rfl, by decide +kernel, by decide +kernel⟩
theorem ok__law_hand {P : Program} {w : World} {K : PySem.W.Frag} {mg : Str → Option Value} {base : Heap} {a : Ad} (T : Tx K mg a) : FnOk P w K mg base (CXd P w) 1 a.f__law_hand a.d__law_hand ["frame", "score", "pace"] (spD K 3 F__law_hand) := fn_pop (F := runD 6 g__law_hand) <| fn_q T.n__law_hand.F sc__law_hand rfl fun cdv A outer s H E hr => by
  have nd := sc__law_hand.nd
  refine qs_cons ?_ ?_
  · refine qs_set 3 nd ?_
    exact (qe_op q_add (qe_ix (qv 0) qe_int) (qe_ix (qv 0) qe_int))
  refine qs_cons ?_ ?_
  · exact (qs_set 4 nd (qe_mut qa_nil))
  refine qs_cons ?_ ?_
  · exact (qs_set 5 nd qe_int)
  refine qs_cons ?_ ?_
  · exact (qs_set 6 nd qe_int)
  refine qs_cons ?_ ?_
  · refine qs_while PassesOwn.leaving ?_ ?_
    · exact (qt_cmp q_lt (qv 5) (qe_cB q_len (by rfl) T.z_len Boot.«len» (qa_c (qv 1) qa_nil)))
    · refine qs_cons ?_ ?_
      · exact (qs_set 7 nd (qe_ix (qv 1) (qv 5)))
      refine qs_cons ?_ ?_
      · refine qs_if ?_ ?_ ?_
        · refine qt_w ?_
          refine qw_and ?_ ?_
          · exact (qt_cmp (q_eq hr) (qe_ix (qv 7) qe_int) qe_str)
          · refine qw_and1 ?_
            refine qt_cmp q_gt ?_ ?_
            · refine qe_op q_add ?_ ?_
              · exact (qe_op q_mul (qe_ix (qv 7) qe_int) (qv 3))
              · exact (qe_ix (qv 7) qe_int)
            · exact (qv 6)
        · refine qs_one ?_
          refine qs_set 6 nd ?_
          refine qe_op q_add ?_ ?_
          · exact (qe_op q_mul (qe_ix (qv 7) qe_int) (qv 3))
          · exact (qe_ix (qv 7) qe_int)
        · exact qs_nil
      refine qs_cons ?_ ?_
      · refine qs_if ?_ ?_ ?_
        · refine qt_cmp q_gt ?_ ?_
          · exact (qv 6)
          · exact (qe_op q_sub (qe_op q_mul (qv 3) (qe_ix (qv 0) qe_int)) qe_int)
        · refine qs_one ?_
          exact (qs_ret (qv 4))
        · exact qs_nil
      refine qs_cons ?_ ?_
      · exact (qs_set 8 nd (qe_op q_add (qv 5) qe_int))
      refine qs_cons ?_ ?_
      · refine qs_if ?_ ?_ ?_
        · exact (qt_cmp (q_eq hr) (qe_ix (qv 7) qe_int) qe_str)
        · refine qs_one ?_
          refine qs_drop ?_
          refine qe_append ?_ ?_
          · exact (qv 4)
          · exact (qe_tup (qa_c (qv 6) (qa_c (qe_ix (qv 7) qe_int) qa_nil)))
        · exact qs_nil
      refine qs_cons ?_ ?_
      · refine qs_if ?_ ?_ ?_
        · exact (qt_cmp (q_eq hr) (qe_ix (qv 7) qe_int) qe_str)
        · refine qs_one ?_
          exact (qs_set 8 nd (qe_ix (qv 7) qe_int))
        · exact qs_nil
      refine qs_cons ?_ ?_
      · refine qs_if ?_ ?_ ?_
        · refine qt_w ?_
          refine qw_and ?_ ?_
          · exact (qt_cmp (q_eq hr) (qe_ix (qv 7) qe_int) qe_str)
          · refine qw_and1 ?_
            refine qt_cmp q_le ?_ ?_
            · refine qe_op q_add ?_ ?_
              · exact (qe_op q_mul (qe_ix (qv 7) qe_int) (qv 3))
              · exact (qe_ix (qv 7) qe_int)
            · exact (qv 6)
        · refine qs_one ?_
          exact (qs_set 8 nd (qe_op q_add (qv 5) qe_int))
        · exact qs_nil
      refine qs_cons ?_ ?_
      · exact (qs_set 5 nd (qv 8))
      refine qs_one ?_
      exact (qs_set 6 nd (qe_op q_add (qv 6) (qv 2)))
  refine qs_one ?_
  exact (qs_ret (qv 4))
def g_is_whole : GS := (sRet (gAnd (gIsi "int" (gVar 0)) (gNot (gTst (gIsi "bool" (gVar 0))))))
def F_is_whole : FD := runD 0 g_is_whole
theorem sc_is_whole : FnScope ["thing"] ["thing"] (defScope s_is_whole) := ⟨rfl, rfl, rfl, by decide +kernel, rfl, by decide +kernel, by decide +kernel⟩
theorem ok_is_whole {P : Program} {w : World} {K : PySem.W.Frag} {mg : Str → Option Value} {base : Heap} {a : Ad} (T : Tx K mg a) : FnOk P w K mg base (CXd P w) 1 a.f_is_whole a.d_is_whole ["thing"] (spD K 1 F_is_whole) := fn_q T.n_is_whole.F sc_is_whole rfl fun cdv A outer s H E hr => by
  have nd := sc_is_whole.nd
  refine qs_one ?_
  refine qs_ret ?_
  exact (qe_and (qe_is (.inl rfl) Boot.«int» (by rfl) T.z_int (by rfl) T.z_isinstance (qv 0)) (qe_one (qe_not (qe_is (.inr (.inl rfl)) Boot.«bool» (by rfl) T.z_bool (by rfl) T.z_isinstance (qv 0)))))
def g_is_within : GS := (sRet (gAnd (gCall 1 F_is_whole (DL.gCons (gVar 0) DL.gNil)) (gCh leD leD (gVar 1) (gVar 0) (gVar 2))))
def F_is_within : FD := runD 0 g_is_within
theorem sc_is_within : FnScope ["thing", "low", "high"] ["thing", "low", "high"] (defScope s_is_within) := ⟨rfl, rfl, rfl, by decide +kernel, rfl, by decide +kernel, by decide +kernel⟩
theorem ok_is_within {P : Program} {w : World} {K : PySem.W.Frag} {mg : Str → Option Value} {base : Heap} {a : Ad} (T : Tx K mg a) : FnOk P w K mg base (CXd P w) 2 a.f_is_within a.d_is_within ["thing", "low", "high"] (spD K 3 F_is_within) := fn_q T.n_is_within.F sc_is_within rfl fun cdv A outer s H E hr => by
  have nd := sc_is_within.nd
  refine qs_one ?_
  refine qs_ret ?_
  refine qe_and ?_ ?_
  · exact (qe_cl (ok_is_whole T) (hr.mono (by decide)) (by rfl) T.n_is_whole.m T.n_is_whole.F.kp T.n_is_whole.b (qa_c (qv 0) qa_nil))
  · exact (qe_one (qe_chain q_le q_le (qv 1) (qv 0) (qv 2)))
def g_is_frame : GS := (sSeq (sIf (gOrT (gNotT (gTru (gIsi "tuple" (gVar 0)))) (gTst (g2 (eqOp true) (gBlt lenF (DL.gCons (gVar 0) DL.gNil)) (gC (.int 4))))) (sRet (gC (.bl false))) sNext) (sSeq (sAsg (tupN [1, 2, 3, 4]) (gVar 0)) (sRet (gAnd (gCall 3 F_is_within (DL.gCons (gVar 1) (DL.gCons (gC (.int 1)) (DL.gCons (gC (.int 40)) DL.gNil)))) (gAnd (gCall 3 F_is_within (DL.gCons (gVar 2) (DL.gCons (gC (.int 1)) (DL.gCons (gC (.int 40)) DL.gNil)))) (gAnd (gCall 3 F_is_within (DL.gCons (gVar 3) (DL.gCons (gC (.int 0)) (DL.gCons (gC (.int 20)) DL.gNil)))) (gCall 3 F_is_within (DL.gCons (gVar 4) (DL.gCons (gC (.int 0)) (DL.gCons (gC (.int 12)) DL.gNil))))))))))
def F_is_frame : FD := runD 4 g_is_frame
theorem sc_is_frame : FnScope ["thing", "wide", "high", "gap", "most"] ["thing"] (defScope s_is_frame) := ⟨rfl, rfl, rfl, by decide +kernel, rfl, by decide +kernel, by decide +kernel⟩
theorem ok_is_frame {P : Program} {w : World} {K : PySem.W.Frag} {mg : Str → Option Value} {base : Heap} {a : Ad} (T : Tx K mg a) : FnOk P w K mg base (CXd P w) 3 a.f_is_frame a.d_is_frame ["thing"] (spD K 1 F_is_frame) := fn_q T.n_is_frame.F sc_is_frame rfl fun cdv A outer s H E hr => by
  have nd := sc_is_frame.nd
  refine qs_cons ?_ ?_
  · refine qs_if ?_ ?_ ?_
    · refine qt_w ?_
      refine qw_or ?_ ?_
      · exact (qt_not (qt_tru (qe_is (.inr (.inr (.inr (.inl rfl)))) Boot.«tuple» (by rfl) T.z_tuple (by rfl) T.z_isinstance (qv 0))))
      · exact (qw_or1 (qt_cmp (q_ne hr) (qe_cB q_len (by rfl) T.z_len Boot.«len» (qa_c (qv 0) qa_nil)) qe_int))
    · refine qs_one ?_
      exact (qs_ret qe_bl)
    · exact qs_nil
  refine qs_cons ?_ ?_
  · exact (qs_asg (qv 0) (qg_tup (qgs_c (qn 1 nd) (qgs_c (qn 2 nd) (qgs_c (qn 3 nd) (qgs_c (qn 4 nd) qgs_nil))))))
  refine qs_one ?_
  refine qs_ret ?_
  refine qe_and ?_ ?_
  · exact (qe_cl (ok_is_within T) (hr.mono (by decide)) (by rfl) T.n_is_within.m T.n_is_within.F.kp T.n_is_within.b (qa_c (qv 1) (qa_c qe_int (qa_c qe_int qa_nil))))
  · refine qe_and ?_ ?_
    · exact (qe_cl (ok_is_within T) (hr.mono (by decide)) (by rfl) T.n_is_within.m T.n_is_within.F.kp T.n_is_within.b (qa_c (qv 2) (qa_c qe_int (qa_c qe_int qa_nil))))
    · refine qe_and ?_ ?_
      · exact (qe_cl (ok_is_within T) (hr.mono (by decide)) (by rfl) T.n_is_within.m T.n_is_within.F.kp T.n_is_within.b (qa_c (qv 3) (qa_c qe_int (qa_c qe_int qa_nil))))
      · refine qe_one ?_
        exact (qe_cl (ok_is_within T) (hr.mono (by decide)) (by rfl) T.n_is_within.m T.n_is_within.F.kp T.n_is_within.b (qa_c (qv 4) (qa_c qe_int (qa_c qe_int qa_nil))))
def g_is_ink : GS := (sRet (gCall 3 F_is_within (DL.gCons (gVar 0) (DL.gCons (gC (.int 0)) (DL.gCons (gC (.int 15)) DL.gNil)))))
def F_is_ink : FD := runD 0 g_is_ink
theorem sc_is_ink : FnScope ["thing"] ["thing"] (defScope s_is_ink) := ⟨rfl, rfl, rfl, by decide +kernel, rfl, by decide +kernel, by decide +kernel⟩
theorem ok_is_ink {P : Program} {w : World} {K : PySem.W.Frag} {mg : Str → Option Value} {base : Heap} {a : Ad} (T : Tx K mg a) : FnOk P w K mg base (CXd P w) 3 a.f_is_ink a.d_is_ink ["thing"] (spD K 1 F_is_ink) := fn_q T.n_is_ink.F sc_is_ink rfl fun cdv A outer s H E hr => by
  have nd := sc_is_ink.nd
  refine qs_one ?_
  refine qs_ret ?_
  exact (qe_cl (ok_is_within T) (hr.mono (by decide)) (by rfl) T.n_is_within.m T.n_is_within.F.kp T.n_is_within.b (qa_c (qv 0) (qa_c qe_int (qa_c qe_int qa_nil))))
def e1_is_ink_row : GE := (gCall 1 F_is_ink (DL.gCons (gVar 0) DL.gNil))
def g_is_ink_row : GS := (sRet (gAnd (gIsi "tuple" (gVar 0)) (gBlt allF (DL.gCons (gComp (gIts (gVar 0)) gAll e1_is_ink_row mkLst) DL.gNil))))
def F_is_ink_row : FD := runD 0 g_is_ink_row
theorem sc_is_ink_row : FnScope ["thing"] ["thing"] (defScope s_is_ink_row) := ⟨rfl, rfl, rfl, by decide +kernel, rfl, by decide +kernel, by decide +kernel⟩
theorem ok_is_ink_row {P : Program} {w : World} {K : PySem.W.Frag} {mg : Str → Option Value} {base : Heap} {a : Ad} (T : Tx K mg a) : FnOk P w K mg base (CXd P w) 4 a.f_is_ink_row a.d_is_ink_row ["thing"] (spD K 1 F_is_ink_row) := fn_q T.n_is_ink_row.F sc_is_ink_row rfl fun cdv A outer s H E hr => by
  have nd := sc_is_ink_row.nd
  refine qs_one ?_
  refine qs_ret ?_
  refine qe_and ?_ ?_
  · exact (qe_is (.inr (.inr (.inr (.inl rfl)))) Boot.«tuple» (by rfl) T.z_tuple (by rfl) T.z_isinstance (qv 0))
  · refine qe_one ?_
    refine qe_cB q_all (by rfl) T.z_all Boot.«all» ?_
    refine qa_c ?_ ?_
    · exact (qe_comp (R := ["thing"]) (by kernel_rfl) (.inl rfl)  (qi_seq (qv 0)) q_notests (fun _ _ _ _ => (qe_cl (ok_is_ink T) (hr.mono (by decide)) (by rfl) T.n_is_ink.m T.n_is_ink.F.kp T.n_is_ink.b (qa_c (qv 0) qa_nil))))
    exact qa_nil
def e1_is_ink_block : GE := (gCall 1 F_is_ink_row (DL.gCons (gVar 0) DL.gNil))
def e2_is_ink_block : GE := (g2 (eqOp false) (gBlt lenF (DL.gCons (gVar 0) DL.gNil)) (gVar 3))
def g_is_ink_block : GS := (sSeq (sIf (gOrT (gNotT (gTru (gIsi "tuple" (gVar 0)))) (gNotT (gTst (gCh leD leD (gC (.int 1)) (gBlt lenF (DL.gCons (gVar 0) DL.gNil)) (gVar 1))))) (sRet (gC (.bl false))) sNext) (sSeq (sIf (gNotT (gTru (gBlt allF (DL.gCons (gComp (gIts (gVar 0)) gAll e1_is_ink_block mkLst) DL.gNil)))) (sRet (gC (.bl false))) sNext) (sSeq (sSet 2 (gBlt lenF (DL.gCons (g2 ixD (gVar 0) (gC (.int 0))) DL.gNil))) (sRet (gAnd (gCh leD leD (gC (.int 1)) (gVar 2) (gVar 1)) (gBlt allF (DL.gCons (gComp (gIts (gVar 0)) gAll e2_is_ink_block mkLst) DL.gNil)))))))
def F_is_ink_block : FD := runD 1 g_is_ink_block
theorem sc_is_ink_block : FnScope ["thing", "most", "length"] ["thing", "most"] (defScope s_is_ink_block) := ⟨rfl, rfl, rfl, by decide +kernel, rfl, by decide +kernel, by decide +kernel⟩
theorem ok_is_ink_block {P : Program} {w : World} {K : PySem.W.Frag} {mg : Str → Option Value} {base : Heap} {a : Ad} (T : Tx K mg a) : FnOk P w K mg base (CXd P w) 5 a.f_is_ink_block a.d_is_ink_block ["thing", "most"] (spD K 2 F_is_ink_block) := fn_q T.n_is_ink_block.F sc_is_ink_block rfl fun cdv A outer s H E hr => by
  have nd := sc_is_ink_block.nd
  refine qs_cons ?_ ?_
  · refine qs_if ?_ ?_ ?_
    · refine qt_w ?_
      refine qw_or ?_ ?_
      · exact (qt_not (qt_tru (qe_is (.inr (.inr (.inr (.inl rfl)))) Boot.«tuple» (by rfl) T.z_tuple (by rfl) T.z_isinstance (qv 0))))
      · refine qw_or1 ?_
        exact (qt_not (qt_chain q_le q_le qe_int (qe_cB q_len (by rfl) T.z_len Boot.«len» (qa_c (qv 0) qa_nil)) (qv 1)))
    · refine qs_one ?_
      exact (qs_ret qe_bl)
    · exact qs_nil
  refine qs_cons ?_ ?_
  · refine qs_if ?_ ?_ ?_
    · refine qt_not ?_
      refine qt_tru ?_
      refine qe_cB q_all (by rfl) T.z_all Boot.«all» ?_
      refine qa_c ?_ ?_
      · exact (qe_comp (R := ["thing", "most", "length"]) (by kernel_rfl) (.inl rfl)  (qi_seq (qv 0)) q_notests (fun _ _ _ _ => (qe_cl (ok_is_ink_row T) (hr.mono (by decide)) (by rfl) T.n_is_ink_row.m T.n_is_ink_row.F.kp T.n_is_ink_row.b (qa_c (qv 0) qa_nil))))
      exact qa_nil
    · refine qs_one ?_
      exact (qs_ret qe_bl)
    · exact qs_nil
  refine qs_cons ?_ ?_
  · exact (qs_set 2 nd (qe_cB q_len (by rfl) T.z_len Boot.«len» (qa_c (qe_ix (qv 0) qe_int) qa_nil)))
  refine qs_one ?_
  refine qs_ret ?_
  refine qe_and ?_ ?_
  · exact (qe_chain q_le q_le qe_int (qv 2) (qv 1))
  · refine qe_one ?_
    refine qe_cB q_all (by rfl) T.z_all Boot.«all» ?_
    refine qa_c ?_ ?_
    · refine qe_comp (R := ["thing", "most", "length"]) (by kernel_rfl) (.inl rfl)  ?_ ?_ ?_
      · exact (qi_seq (qv 0))
      · exact q_notests
      · exact (fun _ _ _ _ => (qe_cmp (q_eq hr) (qe_cB q_len (by rfl) T.z_len Boot.«len» (qa_c (qv 0) qa_nil)) (qv 3)))
    exact qa_nil
def g_is_shape : GS := (sRet (gCall 2 F_is_ink_block (DL.gCons (gVar 0) (DL.gCons (gC (.int 8)) DL.gNil))))
def F_is_shape : FD := runD 0 g_is_shape
theorem sc_is_shape : FnScope ["thing"] ["thing"] (defScope s_is_shape) := ⟨rfl, rfl, rfl, by decide +kernel, rfl, by decide +kernel, by decide +kernel⟩
theorem ok_is_shape {P : Program} {w : World} {K : PySem.W.Frag} {mg : Str → Option Value} {base : Heap} {a : Ad} (T : Tx K mg a) : FnOk P w K mg base (CXd P w) 6 a.f_is_shape a.d_is_shape ["thing"] (spD K 1 F_is_shape) := fn_q T.n_is_shape.F sc_is_shape rfl fun cdv A outer s H E hr => by
  have nd := sc_is_shape.nd
  refine qs_one ?_
  exact (qs_ret (qe_cl (ok_is_ink_block T) (hr.mono (by decide)) (by rfl) T.n_is_ink_block.m T.n_is_ink_block.F.kp T.n_is_ink_block.b (qa_c (qv 0) (qa_c qe_int qa_nil))))
def e1_is_book : GE := (gCall 1 F_is_shape (DL.gCons (gVar 0) DL.gNil))
def g_is_book : GS := (sRet (gAnd (gIsi "tuple" (gVar 0)) (gAnd (g2 leD (gBlt lenF (DL.gCons (gVar 0) DL.gNil)) (gC (.int 8))) (gBlt allF (DL.gCons (gComp (gIts (gVar 0)) gAll e1_is_book mkLst) DL.gNil)))))
def F_is_book : FD := runD 0 g_is_book
theorem sc_is_book : FnScope ["thing"] ["thing"] (defScope s_is_book) := ⟨rfl, rfl, rfl, by decide +kernel, rfl, by decide +kernel, by decide +kernel⟩
theorem ok_is_book {P : Program} {w : World} {K : PySem.W.Frag} {mg : Str → Option Value} {base : Heap} {a : Ad} (T : Tx K mg a) : FnOk P w K mg base (CXd P w) 7 a.f_is_book a.d_is_book ["thing"] (spD K 1 F_is_book) := fn_q T.n_is_book.F sc_is_book rfl fun cdv A outer s H E hr => by
  have nd := sc_is_book.nd
  refine qs_one ?_
  refine qs_ret ?_
  refine qe_and ?_ ?_
  · exact (qe_is (.inr (.inr (.inr (.inl rfl)))) Boot.«tuple» (by rfl) T.z_tuple (by rfl) T.z_isinstance (qv 0))
  · refine qe_and ?_ ?_
    · exact (qe_cmp q_le (qe_cB q_len (by rfl) T.z_len Boot.«len» (qa_c (qv 0) qa_nil)) qe_int)
    · refine qe_one ?_
      refine qe_cB q_all (by rfl) T.z_all Boot.«all» ?_
      refine qa_c ?_ ?_
      · exact (qe_comp (R := ["thing"]) (by kernel_rfl) (.inl rfl)  (qi_seq (qv 0)) q_notests (fun _ _ _ _ => (qe_cl (ok_is_shape T) (hr.mono (by decide)) (by rfl) T.n_is_shape.m T.n_is_shape.F.kp T.n_is_shape.b (qa_c (qv 0) qa_nil))))
      exact qa_nil
def g_is_shape_number : GS := (sRet (gOr (g2 (isOp false) (gVar 1) (gC .non)) (gCall 3 F_is_within (DL.gCons (gVar 1) (DL.gCons (gC (.int 0)) (DL.gCons (g2 subD (gBlt lenF (DL.gCons (gVar 0) DL.gNil)) (gC (.int 1))) DL.gNil))))))
def F_is_shape_number : FD := runD 0 g_is_shape_number
theorem sc_is_shape_number : FnScope ["book", "thing"] ["book", "thing"] (defScope s_is_shape_number) := ⟨rfl, rfl, rfl, by decide +kernel, rfl, by decide +kernel, by decide +kernel⟩
theorem ok_is_shape_number {P : Program} {w : World} {K : PySem.W.Frag} {mg : Str → Option Value} {base : Heap} {a : Ad} (T : Tx K mg a) : FnOk P w K mg base (CXd P w) 3 a.f_is_shape_number a.d_is_shape_number ["book", "thing"] (spD K 2 F_is_shape_number) := fn_q T.n_is_shape_number.F sc_is_shape_number rfl fun cdv A outer s H E hr => by
  have nd := sc_is_shape_number.nd
  refine qs_one ?_
  refine qs_ret ?_
  refine qe_or ?_ ?_
  · exact (qe_cmp q_is (qv 1) qe_non)
  · refine qe_one ?_
    refine qe_cl (ok_is_within T) (hr.mono (by decide)) (by rfl) T.n_is_within.m T.n_is_within.F.kp T.n_is_within.b ?_
    refine qa_c ?_ ?_
    · exact (qv 1)
    refine qa_c ?_ ?_
    · exact qe_int
    refine qa_c ?_ ?_
    · exact (qe_op q_sub (qe_cB q_len (by rfl) T.z_len Boot.«len» (qa_c (qv 0) qa_nil)) qe_int)
    exact qa_nil
def e1_is_place_pair : GE := (gCall 3 F_is_within (DL.gCons (gVar 0) (DL.gCons (gNeg (gC (.int 1000))) (DL.gCons (gC (.int 1000)) DL.gNil))))
def g_is_place_pair : GS := (sRet (gAnd (gIsi "tuple" (gVar 0)) (gAnd (g2 (eqOp false) (gBlt lenF (DL.gCons (gVar 0) DL.gNil)) (gC (.int 2))) (gBlt allF (DL.gCons (gComp (gIts (gVar 0)) gAll e1_is_place_pair mkLst) DL.gNil)))))
def F_is_place_pair : FD := runD 0 g_is_place_pair
theorem sc_is_place_pair : FnScope ["thing"] ["thing"] (defScope s_is_place_pair) := ⟨rfl, rfl, rfl, by decide +kernel, rfl, by decide +kernel, by decide +kernel⟩
theorem ok_is_place_pair {P : Program} {w : World} {K : PySem.W.Frag} {mg : Str → Option Value} {base : Heap} {a : Ad} (T : Tx K mg a) : FnOk P w K mg base (CXd P w) 3 a.f_is_place_pair a.d_is_place_pair ["thing"] (spD K 1 F_is_place_pair) := fn_q T.n_is_place_pair.F sc_is_place_pair rfl fun cdv A outer s H E hr => by
  have nd := sc_is_place_pair.nd
  refine qs_one ?_
  refine qs_ret ?_
  refine qe_and ?_ ?_
  · exact (qe_is (.inr (.inr (.inr (.inl rfl)))) Boot.«tuple» (by rfl) T.z_tuple (by rfl) T.z_isinstance (qv 0))
  · refine qe_and ?_ ?_
    · exact (qe_cmp (q_eq hr) (qe_cB q_len (by rfl) T.z_len Boot.«len» (qa_c (qv 0) qa_nil)) qe_int)
    · refine qe_one ?_
      refine qe_cB q_all (by rfl) T.z_all Boot.«all» ?_
      refine qa_c ?_ ?_
      · refine qe_comp (R := ["thing"]) (by kernel_rfl) (.inl rfl)  ?_ ?_ ?_
        · exact (qi_seq (qv 0))
        · exact q_notests
        · intro _ _ _ _
          refine qe_cl (ok_is_within T) (hr.mono (by decide)) (by rfl) T.n_is_within.m T.n_is_within.F.kp T.n_is_within.b ?_
          exact (qa_c (qv 0) (qa_c (qe_neg qe_int) (qa_c qe_int qa_nil)))
      exact qa_nil
def g_is_rank : GS := (sRet (gCall 3 F_is_within (DL.gCons (gVar 0) (DL.gCons (gC (.int 0)) (DL.gCons (gC (.int 3)) DL.gNil)))))
def F_is_rank : FD := runD 0 g_is_rank
theorem sc_is_rank : FnScope ["thing"] ["thing"] (defScope s_is_rank) := ⟨rfl, rfl, rfl, by decide +kernel, rfl, by decide +kernel, by decide +kernel⟩
theorem ok_is_rank {P : Program} {w : World} {K : PySem.W.Frag} {mg : Str → Option Value} {base : Heap} {a : Ad} (T : Tx K mg a) : FnOk P w K mg base (CXd P w) 3 a.f_is_rank a.d_is_rank ["thing"] (spD K 1 F_is_rank) := fn_q T.n_is_rank.F sc_is_rank rfl fun cdv A outer s H E hr => by
  have nd := sc_is_rank.nd
  refine qs_one ?_
  refine qs_ret ?_
  exact (qe_cl (ok_is_within T) (hr.mono (by decide)) (by rfl) T.n_is_within.m T.n_is_within.F.kp T.n_is_within.b (qa_c (qv 0) (qa_c qe_int (qa_c qe_int qa_nil))))
def g_is_turn : GS := (sRet (gCall 3 F_is_within (DL.gCons (gVar 0) (DL.gCons (gC (.int 0)) (DL.gCons (gC (.int 3)) DL.gNil)))))
def F_is_turn : FD := runD 0 g_is_turn
theorem sc_is_turn : FnScope ["thing"] ["thing"] (defScope s_is_turn) := ⟨rfl, rfl, rfl, by decide +kernel, rfl, by decide +kernel, by decide +kernel⟩
theorem ok_is_turn {P : Program} {w : World} {K : PySem.W.Frag} {mg : Str → Option Value} {base : Heap} {a : Ad} (T : Tx K mg a) : FnOk P w K mg base (CXd P w) 3 a.f_is_turn a.d_is_turn ["thing"] (spD K 1 F_is_turn) := fn_q T.n_is_turn.F sc_is_turn rfl fun cdv A outer s H E hr => by
  have nd := sc_is_turn.nd
  refine qs_one ?_
  refine qs_ret ?_
  exact (qe_cl (ok_is_within T) (hr.mono (by decide)) (by rfl) T.n_is_within.m T.n_is_within.F.kp T.n_is_within.b (qa_c (qv 0) (qa_c qe_int (qa_c qe_int qa_nil))))
def g_is_mover : GS := (sSeq (sIf (gOrT (gNotT (gTru (gIsi "tuple" (gVar 1)))) (gTst (g2 (eqOp true) (gBlt lenF (DL.gCons (gVar 1) DL.gNil)) (gC (.int 5))))) (sRet (gC (.bl false))) sNext) (sSeq (sAsg (tupN [2, 3, 4, 5, 6]) (gVar 1)) (sRet (gAnd (gCall 2 F_is_shape_number (DL.gCons (gVar 0) (DL.gCons (gVar 2) DL.gNil))) (gAnd (gCall 1 F_is_place_pair (DL.gCons (DL.gTup (DL.gCons (gVar 3) (DL.gCons (gVar 4) DL.gNil))) DL.gNil)) (gAnd (gCall 1 F_is_rank (DL.gCons (gVar 5) DL.gNil)) (gCall 1 F_is_turn (DL.gCons (gVar 6) DL.gNil))))))))
def F_is_mover : FD := runD 5 g_is_mover
theorem sc_is_mover : FnScope ["book", "thing", "shape", "x", "y", "rank", "turn"] ["book", "thing"] (defScope s_is_mover) := ⟨rfl, rfl, rfl, by decide +kernel, rfl, by decide +kernel, by decide +kernel⟩
theorem ok_is_mover {P : Program} {w : World} {K : PySem.W.Frag} {mg : Str → Option Value} {base : Heap} {a : Ad} (T : Tx K mg a) : FnOk P w K mg base (CXd P w) 4 a.f_is_mover a.d_is_mover ["book", "thing"] (spD K 2 F_is_mover) := fn_q T.n_is_mover.F sc_is_mover rfl fun cdv A outer s H E hr => by
  have nd := sc_is_mover.nd
  refine qs_cons ?_ ?_
  · refine qs_if ?_ ?_ ?_
    · refine qt_w ?_
      refine qw_or ?_ ?_
      · exact (qt_not (qt_tru (qe_is (.inr (.inr (.inr (.inl rfl)))) Boot.«tuple» (by rfl) T.z_tuple (by rfl) T.z_isinstance (qv 1))))
      · exact (qw_or1 (qt_cmp (q_ne hr) (qe_cB q_len (by rfl) T.z_len Boot.«len» (qa_c (qv 1) qa_nil)) qe_int))
    · refine qs_one ?_
      exact (qs_ret qe_bl)
    · exact qs_nil
  refine qs_cons ?_ ?_
  · exact (qs_asg (qv 1) (qg_tup (qgs_c (qn 2 nd) (qgs_c (qn 3 nd) (qgs_c (qn 4 nd) (qgs_c (qn 5 nd) (qgs_c (qn 6 nd) qgs_nil)))))))
  refine qs_one ?_
  refine qs_ret ?_
  refine qe_and ?_ ?_
  · exact (qe_cl (ok_is_shape_number T) (hr.mono (by decide)) (by rfl) T.n_is_shape_number.m T.n_is_shape_number.F.kp T.n_is_shape_number.b (qa_c (qv 0) (qa_c (qv 2) qa_nil)))
  · refine qe_and ?_ ?_
    · exact (qe_cl (ok_is_place_pair T) (hr.mono (by decide)) (by rfl) T.n_is_place_pair.m T.n_is_place_pair.F.kp T.n_is_place_pair.b (qa_c (qe_tup (qa_c (qv 3) (qa_c (qv 4) qa_nil))) qa_nil))
    · refine qe_and ?_ ?_
      · exact (qe_cl (ok_is_rank T) (hr.mono (by decide)) (by rfl) T.n_is_rank.m T.n_is_rank.F.kp T.n_is_rank.b (qa_c (qv 5) qa_nil))
      · exact (qe_one (qe_cl (ok_is_turn T) (hr.mono (by decide)) (by rfl) T.n_is_turn.m T.n_is_turn.F.kp T.n_is_turn.b (qa_c (qv 6) qa_nil)))
def e1_are_movers : GE := (gCall 2 F_is_mover (DL.gCons (gVar 1) (DL.gCons (gVar 0) DL.gNil)))
def g_are_movers : GS := (sRet (gAnd (gIsi "tuple" (gVar 1)) (gAnd (g2 leD (gBlt lenF (DL.gCons (gVar 1) DL.gNil)) (gC (.int 12))) (gBlt allF (DL.gCons (gComp (gIts (gVar 1)) gAll e1_are_movers mkLst) DL.gNil)))))
def F_are_movers : FD := runD 0 g_are_movers
theorem sc_are_movers : FnScope ["book", "thing"] ["book", "thing"] (defScope s_are_movers) := ⟨rfl, rfl, rfl, by decide +kernel, rfl, by decide +kernel, by decide +kernel⟩
theorem ok_are_movers {P : Program} {w : World} {K : PySem.W.Frag} {mg : Str → Option Value} {base : Heap} {a : Ad} (T : Tx K mg a) : FnOk P w K mg base (CXd P w) 5 a.f_are_movers a.d_are_movers ["book", "thing"] (spD K 2 F_are_movers) := fn_q T.n_are_movers.F sc_are_movers rfl fun cdv A outer s H E hr => by
  have nd := sc_are_movers.nd
  refine qs_one ?_
  refine qs_ret ?_
  refine qe_and ?_ ?_
  · exact (qe_is (.inr (.inr (.inr (.inl rfl)))) Boot.«tuple» (by rfl) T.z_tuple (by rfl) T.z_isinstance (qv 1))
  · refine qe_and ?_ ?_
    · exact (qe_cmp q_le (qe_cB q_len (by rfl) T.z_len Boot.«len» (qa_c (qv 1) qa_nil)) qe_int)
    · refine qe_one ?_
      refine qe_cB q_all (by rfl) T.z_all Boot.«all» ?_
      refine qa_c ?_ ?_
      · refine qe_comp (R := ["book", "thing"]) (by kernel_rfl) (.inl rfl)  ?_ ?_ ?_
        · exact (qi_seq (qv 1))
        · exact q_notests
        · exact (fun _ _ _ _ => (qe_cl (ok_is_mover T) (hr.mono (by decide)) (by rfl) T.n_is_mover.m T.n_is_mover.F.kp T.n_is_mover.b (qa_c (qv 1) (qa_c (qv 0) qa_nil))))
      exact qa_nil
def g_is_hue : GS := (sRet (gCall 3 F_is_within (DL.gCons (gVar 0) (DL.gCons (gC (.int 0)) (DL.gCons (gC (.int 63)) DL.gNil)))))
def F_is_hue : FD := runD 0 g_is_hue
theorem sc_is_hue : FnScope ["thing"] ["thing"] (defScope s_is_hue) := ⟨rfl, rfl, rfl, by decide +kernel, rfl, by decide +kernel, by decide +kernel⟩
theorem ok_is_hue {P : Program} {w : World} {K : PySem.W.Frag} {mg : Str → Option Value} {base : Heap} {a : Ad} (T : Tx K mg a) : FnOk P w K mg base (CXd P w) 3 a.f_is_hue a.d_is_hue ["thing"] (spD K 1 F_is_hue) := fn_q T.n_is_hue.F sc_is_hue rfl fun cdv A outer s H E hr => by
  have nd := sc_is_hue.nd
  refine qs_one ?_
  refine qs_ret ?_
  exact (qe_cl (ok_is_within T) (hr.mono (by decide)) (by rfl) T.n_is_within.m T.n_is_within.F.kp T.n_is_within.b (qa_c (qv 0) (qa_c qe_int (qa_c qe_int qa_nil))))
def e1_are_pots : GE := (gCall 1 F_is_hue (DL.gCons (gVar 0) DL.gNil))
def g_are_pots : GS := (sRet (gAnd (gIsi "tuple" (gVar 0)) (gAnd (g2 (eqOp false) (gBlt lenF (DL.gCons (gVar 0) DL.gNil)) (gC (.int 16))) (gBlt allF (DL.gCons (gComp (gIts (gVar 0)) gAll e1_are_pots mkLst) DL.gNil)))))
def F_are_pots : FD := runD 0 g_are_pots
theorem sc_are_pots : FnScope ["thing"] ["thing"] (defScope s_are_pots) := ⟨rfl, rfl, rfl, by decide +kernel, rfl, by decide +kernel, by decide +kernel⟩
theorem ok_are_pots {P : Program} {w : World} {K : PySem.W.Frag} {mg : Str → Option Value} {base : Heap} {a : Ad} (T : Tx K mg a) : FnOk P w K mg base (CXd P w) 4 a.f_are_pots a.d_are_pots ["thing"] (spD K 1 F_are_pots) := fn_q T.n_are_pots.F sc_are_pots rfl fun cdv A outer s H E hr => by
  have nd := sc_are_pots.nd
  refine qs_one ?_
  refine qs_ret ?_
  refine qe_and ?_ ?_
  · exact (qe_is (.inr (.inr (.inr (.inl rfl)))) Boot.«tuple» (by rfl) T.z_tuple (by rfl) T.z_isinstance (qv 0))
  · refine qe_and ?_ ?_
    · exact (qe_cmp (q_eq hr) (qe_cB q_len (by rfl) T.z_len Boot.«len» (qa_c (qv 0) qa_nil)) qe_int)
    · refine qe_one ?_
      refine qe_cB q_all (by rfl) T.z_all Boot.«all» ?_
      refine qa_c ?_ ?_
      · exact (qe_comp (R := ["thing"]) (by kernel_rfl) (.inl rfl)  (qi_seq (qv 0)) q_notests (fun _ _ _ _ => (qe_cl (ok_is_hue T) (hr.mono (by decide)) (by rfl) T.n_is_hue.m T.n_is_hue.F.kp T.n_is_hue.b (qa_c (qv 0) qa_nil))))
      exact qa_nil
def g_is_stand : GS := (sSeq (sIf (gOrT (gNotT (gTru (gIsi "tuple" (gVar 0)))) (gTst (g2 (eqOp true) (gBlt lenF (DL.gCons (gVar 0) DL.gNil)) (gC (.int 5))))) (sRet (gC (.bl false))) sNext) (sSeq (sAsg (tupN [1, 2, 3, 4, 5]) (gVar 0)) (sSeq (sIf (gNotT (gAndT (gTru (gCall 2 F_is_ink_block (DL.gCons (gVar 1) (DL.gCons (gC (.int 16)) DL.gNil)))) (gAndT (gTru (gCall 1 F_is_place_pair (DL.gCons (gVar 2) DL.gNil))) (gTru (gCall 1 F_are_pots (DL.gCons (gVar 5) DL.gNil)))))) (sRet (gC (.bl false))) sNext) (sRet (gAnd (gCall 1 F_is_book (DL.gCons (gVar 3) DL.gNil)) (gCall 2 F_are_movers (DL.gCons (gVar 3) (DL.gCons (gVar 4) DL.gNil))))))))
def F_is_stand : FD := runD 5 g_is_stand
theorem sc_is_stand : FnScope ["thing", "floor", "shift", "book", "movers", "pots"] ["thing"] (defScope s_is_stand) := ⟨rfl, rfl, rfl, by decide +kernel, rfl, by decide +kernel, by decide +kernel⟩
theorem ok_is_stand {P : Program} {w : World} {K : PySem.W.Frag} {mg : Str → Option Value} {base : Heap} {a : Ad} (T : Tx K mg a) : FnOk P w K mg base (CXd P w) 8 a.f_is_stand a.d_is_stand ["thing"] (spD K 1 F_is_stand) := fn_q T.n_is_stand.F sc_is_stand rfl fun cdv A outer s H E hr => by
  have nd := sc_is_stand.nd
  refine qs_cons ?_ ?_
  · refine qs_if ?_ ?_ ?_
    · refine qt_w ?_
      refine qw_or ?_ ?_
      · exact (qt_not (qt_tru (qe_is (.inr (.inr (.inr (.inl rfl)))) Boot.«tuple» (by rfl) T.z_tuple (by rfl) T.z_isinstance (qv 0))))
      · exact (qw_or1 (qt_cmp (q_ne hr) (qe_cB q_len (by rfl) T.z_len Boot.«len» (qa_c (qv 0) qa_nil)) qe_int))
    · refine qs_one ?_
      exact (qs_ret qe_bl)
    · exact qs_nil
  refine qs_cons ?_ ?_
  · exact (qs_asg (qv 0) (qg_tup (qgs_c (qn 1 nd) (qgs_c (qn 2 nd) (qgs_c (qn 3 nd) (qgs_c (qn 4 nd) (qgs_c (qn 5 nd) qgs_nil)))))))
  refine qs_cons ?_ ?_
  · refine qs_if ?_ ?_ ?_
    · refine qt_not ?_
      refine qt_w ?_
      refine qw_and ?_ ?_
      · exact (qt_tru (qe_cl (ok_is_ink_block T) (hr.mono (by decide)) (by rfl) T.n_is_ink_block.m T.n_is_ink_block.F.kp T.n_is_ink_block.b (qa_c (qv 1) (qa_c qe_int qa_nil))))
      · refine qw_and ?_ ?_
        · exact (qt_tru (qe_cl (ok_is_place_pair T) (hr.mono (by decide)) (by rfl) T.n_is_place_pair.m T.n_is_place_pair.F.kp T.n_is_place_pair.b (qa_c (qv 2) qa_nil)))
        · exact (qw_and1 (qt_tru (qe_cl (ok_are_pots T) (hr.mono (by decide)) (by rfl) T.n_are_pots.m T.n_are_pots.F.kp T.n_are_pots.b (qa_c (qv 5) qa_nil))))
    · refine qs_one ?_
      exact (qs_ret qe_bl)
    · exact qs_nil
  refine qs_one ?_
  refine qs_ret ?_
  refine qe_and ?_ ?_
  · exact (qe_cl (ok_is_book T) (hr.mono (by decide)) (by rfl) T.n_is_book.m T.n_is_book.F.kp T.n_is_book.b (qa_c (qv 3) qa_nil))
  · exact (qe_one (qe_cl (ok_are_movers T) (hr.mono (by decide)) (by rfl) T.n_are_movers.m T.n_are_movers.F.kp T.n_are_movers.b (qa_c (qv 3) (qa_c (qv 4) qa_nil))))
def g_check_begin : GS := (sSeq (sIf (gNotT (gTru (gCall 1 F_is_frame (DL.gCons (gVar 0) DL.gNil)))) (sRaise "NoFrame" (gC (.str "that is no frame"))) sNext) (sIf (gNotT (gTru (gCall 1 F_is_stand (DL.gCons (gVar 1) DL.gNil)))) (sRaise "NoStand" (gC (.str "that is no stand"))) sNext))
def F_check_begin : FD := runD 0 g_check_begin
theorem sc_check_begin : FnScope ["frame", "stand"] ["frame", "stand"] (defScope s_check_begin) := ⟨rfl, rfl, rfl, by decide +kernel, rfl, by decide +kernel, by decide +kernel⟩
theorem ok_check_begin {P : Program} {w : World} {K : PySem.W.Frag} {mg : Str → Option Value} {base : Heap} {a : Ad} (T : Tx K mg a) : FnOk P w K mg base (CXd P w) 9 a.f_check_begin a.d_check_begin ["frame", "stand"] (spD K 2 F_check_begin) := fn_q T.n_check_begin.F sc_check_begin rfl fun cdv A outer s H E hr => by
  have nd := sc_check_begin.nd
  refine qs_cons ?_ ?_
  · refine qs_if ?_ ?_ ?_
    · exact (qt_not (qt_tru (qe_cl (ok_is_frame T) (hr.mono (by decide)) (by rfl) T.n_is_frame.m T.n_is_frame.F.kp T.n_is_frame.b (qa_c (qv 0) qa_nil))))
    · refine qs_one ?_
      exact (qs_raise T.e_NoFrame (by rfl) qe_str)
    · exact qs_nil
  refine qs_one ?_
  refine qs_if ?_ ?_ ?_
  · exact (qt_not (qt_tru (qe_cl (ok_is_stand T) (hr.mono (by decide)) (by rfl) T.n_is_stand.m T.n_is_stand.F.kp T.n_is_stand.b (qa_c (qv 1) qa_nil))))
  · refine qs_one ?_
    exact (qs_raise T.e_NoStand (by rfl) qe_str)
  · exact qs_nil
def g_is_mover_deed : GS := (sSeq (sAsg (tupN [3, 4, 5, 6, 7]) (gVar 0)) (sSeq (sIf (gNotT (gTru (gCall 3 F_is_within (DL.gCons (g2 ixD (gVar 2) (gC (.int 0))) (DL.gCons (gC (.int 0)) (DL.gCons (g2 subD (gBlt lenF (DL.gCons (gVar 6) DL.gNil)) (gC (.int 1))) DL.gNil)))))) (sRet (gC (.bl false))) sNext) (sSeq (sIf (gTst (g2 (eqOp false) (gVar 1) (gC (.str "move")))) (sRet (gCall 1 F_is_place_pair (DL.gCons (gSl (gVar 2) (gPart (gC (.int 1))) gNoPart) DL.gNil))) sNext) (sSeq (sIf (gTst (g2 (eqOp true) (gBlt lenF (DL.gCons (gVar 2) DL.gNil)) (gC (.int 2)))) (sRet (gC (.bl false))) sNext) (sSeq (sIf (gTst (g2 (eqOp false) (gVar 1) (gC (.str "shape")))) (sRet (gCall 2 F_is_shape_number (DL.gCons (gVar 5) (DL.gCons (g2 ixD (gVar 2) (gC (.int 1))) DL.gNil)))) sNext) (sSeq (sIf (gTst (g2 (eqOp false) (gVar 1) (gC (.str "rank")))) (sRet (gCall 1 F_is_rank (DL.gCons (g2 ixD (gVar 2) (gC (.int 1))) DL.gNil))) sNext) (sRet (gAnd (g2 (eqOp false) (gVar 1) (gC (.str "turn"))) (gCall 1 F_is_turn (DL.gCons (g2 ixD (gVar 2) (gC (.int 1))) DL.gNil))))))))))
def F_is_mover_deed : FD := runD 5 g_is_mover_deed
theorem sc_is_mover_deed : FnScope ["stand", "word", "parts", "floor", "shift", "book", "movers", "pots"] ["stand", "word", "parts"] (defScope s_is_mover_deed) := ⟨rfl, rfl, rfl, by decide +kernel, rfl, by decide +kernel, by decide +kernel⟩
theorem ok_is_mover_deed {P : Program} {w : World} {K : PySem.W.Frag} {mg : Str → Option Value} {base : Heap} {a : Ad} (T : Tx K mg a) : FnOk P w K mg base (CXd P w) 4 a.f_is_mover_deed a.d_is_mover_deed ["stand", "word", "parts"] (spD K 3 F_is_mover_deed) := fn_q T.n_is_mover_deed.F sc_is_mover_deed rfl fun cdv A outer s H E hr => by
  have nd := sc_is_mover_deed.nd
  refine qs_cons ?_ ?_
  · exact (qs_asg (qv 0) (qg_tup (qgs_c (qn 3 nd) (qgs_c (qn 4 nd) (qgs_c (qn 5 nd) (qgs_c (qn 6 nd) (qgs_c (qn 7 nd) qgs_nil)))))))
  refine qs_cons ?_ ?_
  · refine qs_if ?_ ?_ ?_
    · refine qt_not ?_
      refine qt_tru ?_
      refine qe_cl (ok_is_within T) (hr.mono (by decide)) (by rfl) T.n_is_within.m T.n_is_within.F.kp T.n_is_within.b ?_
      refine qa_c ?_ ?_
      · exact (qe_ix (qv 2) qe_int)
      refine qa_c ?_ ?_
      · exact qe_int
      refine qa_c ?_ ?_
      · exact (qe_op q_sub (qe_cB q_len (by rfl) T.z_len Boot.«len» (qa_c (qv 6) qa_nil)) qe_int)
      exact qa_nil
    · refine qs_one ?_
      exact (qs_ret qe_bl)
    · exact qs_nil
  refine qs_cons ?_ ?_
  · refine qs_if ?_ ?_ ?_
    · exact (qt_cmp (q_eq hr) (qv 1) qe_str)
    · refine qs_one ?_
      refine qs_ret ?_
      exact (qe_cl (ok_is_place_pair T) (hr.mono (by decide)) (by rfl) T.n_is_place_pair.m T.n_is_place_pair.F.kp T.n_is_place_pair.b (qa_c (qe_slice (qv 2) (qp_some qe_int) qp_none) qa_nil))
    · exact qs_nil
  refine qs_cons ?_ ?_
  · refine qs_if ?_ ?_ ?_
    · exact (qt_cmp (q_ne hr) (qe_cB q_len (by rfl) T.z_len Boot.«len» (qa_c (qv 2) qa_nil)) qe_int)
    · refine qs_one ?_
      exact (qs_ret qe_bl)
    · exact qs_nil
  refine qs_cons ?_ ?_
  · refine qs_if ?_ ?_ ?_
    · exact (qt_cmp (q_eq hr) (qv 1) qe_str)
    · refine qs_one ?_
      refine qs_ret ?_
      exact (qe_cl (ok_is_shape_number T) (hr.mono (by decide)) (by rfl) T.n_is_shape_number.m T.n_is_shape_number.F.kp T.n_is_shape_number.b (qa_c (qv 5) (qa_c (qe_ix (qv 2) qe_int) qa_nil)))
    · exact qs_nil
  refine qs_cons ?_ ?_
  · refine qs_if ?_ ?_ ?_
    · exact (qt_cmp (q_eq hr) (qv 1) qe_str)
    · refine qs_one ?_
      exact (qs_ret (qe_cl (ok_is_rank T) (hr.mono (by decide)) (by rfl) T.n_is_rank.m T.n_is_rank.F.kp T.n_is_rank.b (qa_c (qe_ix (qv 2) qe_int) qa_nil)))
    · exact qs_nil
  refine qs_one ?_
  refine qs_ret ?_
  refine qe_and ?_ ?_
  · exact (qe_cmp (q_eq hr) (qv 1) qe_str)
  · exact (qe_one (qe_cl (ok_is_turn T) (hr.mono (by decide)) (by rfl) T.n_is_turn.m T.n_is_turn.F.kp T.n_is_turn.b (qa_c (qe_ix (qv 2) qe_int) qa_nil)))
def g_is_deed : GS := (sSeq (sIf (gOrT (gNotT (gTru (gIsi "tuple" (gVar 1)))) (gTst (g2 ltD (gBlt lenF (DL.gCons (gVar 1) DL.gNil)) (gC (.int 3))))) (sRet (gC (.bl false))) sNext) (sSeq (sPar 2 3 (DL.gCons (g2 ixD (gVar 1) (gC (.int 0))) (DL.gCons (gSl (gVar 1) (gPart (gC (.int 1))) gNoPart) DL.gNil))) (sSeq (sIf (gTst (g2 (eqOp false) (gVar 2) (gC (.str "shift")))) (sRet (gCall 1 F_is_place_pair (DL.gCons (gVar 3) DL.gNil))) sNext) (sSeq (sIf (gTst (g2 (eqOp false) (gVar 2) (gC (.str "pot")))) (sRet (gAnd (g2 (eqOp false) (gBlt lenF (DL.gCons (gVar 3) DL.gNil)) (gC (.int 2))) (gAnd (gCall 1 F_is_ink (DL.gCons (g2 ixD (gVar 3) (gC (.int 0))) DL.gNil)) (gCall 1 F_is_hue (DL.gCons (g2 ixD (gVar 3) (gC (.int 1))) DL.gNil))))) sNext) (sRet (gCall 3 F_is_mover_deed (DL.gCons (gVar 0) (DL.gCons (gVar 2) (DL.gCons (gVar 3) DL.gNil)))))))))
def F_is_deed : FD := runD 2 g_is_deed
theorem sc_is_deed : FnScope ["stand", "thing", "word", "parts"] ["stand", "thing"] (defScope s_is_deed) := ⟨rfl, rfl, rfl, by decide +kernel, rfl, by decide +kernel, by decide +kernel⟩
theorem ok_is_deed {P : Program} {w : World} {K : PySem.W.Frag} {mg : Str → Option Value} {base : Heap} {a : Ad} (T : Tx K mg a) : FnOk P w K mg base (CXd P w) 5 a.f_is_deed a.d_is_deed ["stand", "thing"] (spD K 2 F_is_deed) := fn_q T.n_is_deed.F sc_is_deed rfl fun cdv A outer s H E hr => by
  have nd := sc_is_deed.nd
  refine qs_cons ?_ ?_
  · refine qs_if ?_ ?_ ?_
    · refine qt_w ?_
      refine qw_or ?_ ?_
      · exact (qt_not (qt_tru (qe_is (.inr (.inr (.inr (.inl rfl)))) Boot.«tuple» (by rfl) T.z_tuple (by rfl) T.z_isinstance (qv 1))))
      · exact (qw_or1 (qt_cmp q_lt (qe_cB q_len (by rfl) T.z_len Boot.«len» (qa_c (qv 1) qa_nil)) qe_int))
    · refine qs_one ?_
      exact (qs_ret qe_bl)
    · exact qs_nil
  refine qs_cons ?_ ?_
  · refine qs_par (i := 2) (j := 3) nd ?_
    refine qa_c ?_ ?_
    · exact (qe_ix (qv 1) qe_int)
    refine qa_c ?_ ?_
    · exact (qe_slice (qv 1) (qp_some qe_int) qp_none)
    exact qa_nil
  refine qs_cons ?_ ?_
  · refine qs_if ?_ ?_ ?_
    · exact (qt_cmp (q_eq hr) (qv 2) qe_str)
    · refine qs_one ?_
      exact (qs_ret (qe_cl (ok_is_place_pair T) (hr.mono (by decide)) (by rfl) T.n_is_place_pair.m T.n_is_place_pair.F.kp T.n_is_place_pair.b (qa_c (qv 3) qa_nil)))
    · exact qs_nil
  refine qs_cons ?_ ?_
  · refine qs_if ?_ ?_ ?_
    · exact (qt_cmp (q_eq hr) (qv 2) qe_str)
    · refine qs_one ?_
      refine qs_ret ?_
      refine qe_and ?_ ?_
      · exact (qe_cmp (q_eq hr) (qe_cB q_len (by rfl) T.z_len Boot.«len» (qa_c (qv 3) qa_nil)) qe_int)
      · refine qe_and ?_ ?_
        · exact (qe_cl (ok_is_ink T) (hr.mono (by decide)) (by rfl) T.n_is_ink.m T.n_is_ink.F.kp T.n_is_ink.b (qa_c (qe_ix (qv 3) qe_int) qa_nil))
        · exact (qe_one (qe_cl (ok_is_hue T) (hr.mono (by decide)) (by rfl) T.n_is_hue.m T.n_is_hue.F.kp T.n_is_hue.b (qa_c (qe_ix (qv 3) qe_int) qa_nil)))
    · exact qs_nil
  refine qs_one ?_
  refine qs_ret ?_
  exact (qe_cl (ok_is_mover_deed T) (hr.mono (by decide)) (by rfl) T.n_is_mover_deed.m T.n_is_mover_deed.F.kp T.n_is_mover_deed.b (qa_c (qv 0) (qa_c (qv 2) (qa_c (qv 3) qa_nil))))
def e1_is_line : GE := (gCall 3 F_is_within (DL.gCons (gVar 0) (DL.gCons (gC (.int 0)) (DL.gCons (gC (.int 60)) DL.gNil))))
def g_is_line : GS := (sSeq (sIf (gOrT (gNotT (gTru (gIsi "tuple" (gVar 2)))) (gTst (g2 ltD (gBlt lenF (DL.gCons (gVar 2) DL.gNil)) (gC (.int 2))))) (sRet (gC (.bl false))) sNext) (sSeq (sPar 3 4 (DL.gCons (g2 ixD (gVar 2) (gC (.int 0))) (DL.gCons (gSl (gVar 2) (gPart (gC (.int 1))) gNoPart) DL.gNil))) (sSeq (sIf (gOrT (gTst (g2 (eqOp false) (gVar 3) (gC (.str "wait")))) (gTst (g2 (eqOp false) (gVar 3) (gC (.str "skip"))))) (sRet (gAnd (g2 (eqOp false) (gBlt lenF (DL.gCons (gVar 4) DL.gNil)) (gC (.int 2))) (gBlt allF (DL.gCons (gComp (gIts (gVar 4)) gAll e1_is_line mkLst) DL.gNil)))) sNext) (sSeq (sIf (gTst (g2 (eqOp true) (gBlt lenF (DL.gCons (gVar 4) DL.gNil)) (gC (.int 1)))) (sRet (gC (.bl false))) sNext) (sSeq (sIf (gTst (g2 (eqOp false) (gVar 3) (gC (.str "do")))) (sRet (gCall 2 F_is_deed (DL.gCons (gVar 0) (DL.gCons (g2 ixD (gVar 4) (gC (.int 0))) DL.gNil)))) sNext) (sRet (gAnd (g2 (eqOp false) (gVar 3) (gC (.str "to"))) (gCall 3 F_is_within (DL.gCons (g2 ixD (gVar 4) (gC (.int 0))) (DL.gCons (gC (.int 0)) (DL.gCons (g2 subD (gVar 1) (gC (.int 1))) DL.gNil)))))))))))
def F_is_line : FD := runD 2 g_is_line
theorem sc_is_line : FnScope ["stand", "many", "thing", "word", "parts"] ["stand", "many", "thing"] (defScope s_is_line) := ⟨rfl, rfl, rfl, by decide +kernel, rfl, by decide +kernel, by decide +kernel⟩
theorem ok_is_line {P : Program} {w : World} {K : PySem.W.Frag} {mg : Str → Option Value} {base : Heap} {a : Ad} (T : Tx K mg a) : FnOk P w K mg base (CXd P w) 6 a.f_is_line a.d_is_line ["stand", "many", "thing"] (spD K 3 F_is_line) := fn_q T.n_is_line.F sc_is_line rfl fun cdv A outer s H E hr => by
  have nd := sc_is_line.nd
  refine qs_cons ?_ ?_
  · refine qs_if ?_ ?_ ?_
    · refine qt_w ?_
      refine qw_or ?_ ?_
      · exact (qt_not (qt_tru (qe_is (.inr (.inr (.inr (.inl rfl)))) Boot.«tuple» (by rfl) T.z_tuple (by rfl) T.z_isinstance (qv 2))))
      · exact (qw_or1 (qt_cmp q_lt (qe_cB q_len (by rfl) T.z_len Boot.«len» (qa_c (qv 2) qa_nil)) qe_int))
    · refine qs_one ?_
      exact (qs_ret qe_bl)
    · exact qs_nil
  refine qs_cons ?_ ?_
  · refine qs_par (i := 3) (j := 4) nd ?_
    refine qa_c ?_ ?_
    · exact (qe_ix (qv 2) qe_int)
    refine qa_c ?_ ?_
    · exact (qe_slice (qv 2) (qp_some qe_int) qp_none)
    exact qa_nil
  refine qs_cons ?_ ?_
  · refine qs_if ?_ ?_ ?_
    · refine qt_w ?_
      refine qw_or ?_ ?_
      · exact (qt_cmp (q_eq hr) (qv 3) qe_str)
      · exact (qw_or1 (qt_cmp (q_eq hr) (qv 3) qe_str))
    · refine qs_one ?_
      refine qs_ret ?_
      refine qe_and ?_ ?_
      · exact (qe_cmp (q_eq hr) (qe_cB q_len (by rfl) T.z_len Boot.«len» (qa_c (qv 4) qa_nil)) qe_int)
      · refine qe_one ?_
        refine qe_cB q_all (by rfl) T.z_all Boot.«all» ?_
        refine qa_c ?_ ?_
        · refine qe_comp (R := ["stand", "many", "thing", "word", "parts"]) (by kernel_rfl) (.inl rfl)  ?_ ?_ ?_
          · exact (qi_seq (qv 4))
          · exact q_notests
          · exact (fun _ _ _ _ => (qe_cl (ok_is_within T) (hr.mono (by decide)) (by rfl) T.n_is_within.m T.n_is_within.F.kp T.n_is_within.b (qa_c (qv 0) (qa_c qe_int (qa_c qe_int qa_nil)))))
        exact qa_nil
    · exact qs_nil
  refine qs_cons ?_ ?_
  · refine qs_if ?_ ?_ ?_
    · exact (qt_cmp (q_ne hr) (qe_cB q_len (by rfl) T.z_len Boot.«len» (qa_c (qv 4) qa_nil)) qe_int)
    · refine qs_one ?_
      exact (qs_ret qe_bl)
    · exact qs_nil
  refine qs_cons ?_ ?_
  · refine qs_if ?_ ?_ ?_
    · exact (qt_cmp (q_eq hr) (qv 3) qe_str)
    · refine qs_one ?_
      refine qs_ret ?_
      exact (qe_cl (ok_is_deed T) (hr.mono (by decide)) (by rfl) T.n_is_deed.m T.n_is_deed.F.kp T.n_is_deed.b (qa_c (qv 0) (qa_c (qe_ix (qv 4) qe_int) qa_nil)))
    · exact qs_nil
  refine qs_one ?_
  refine qs_ret ?_
  refine qe_and ?_ ?_
  · exact (qe_cmp (q_eq hr) (qv 3) qe_str)
  · refine qe_one ?_
    refine qe_cl (ok_is_within T) (hr.mono (by decide)) (by rfl) T.n_is_within.m T.n_is_within.F.kp T.n_is_within.b ?_
    refine qa_c ?_ ?_
    · exact (qe_ix (qv 4) qe_int)
    refine qa_c ?_ ?_
    · exact qe_int
    refine qa_c ?_ ?_
    · exact (qe_op q_sub (qv 1) qe_int)
    exact qa_nil
def e1_is_score : GE := (gCall 3 F_is_line (DL.gCons (gVar 1) (DL.gCons (gBlt lenF (DL.gCons (gVar 2) DL.gNil)) (DL.gCons (gVar 0) DL.gNil))))
def g_is_score : GS := (sSeq (sIf (gOrT (gNotT (gTru (gIsi "list" (gVar 1)))) (gTst (g2 gtD (gBlt lenF (DL.gCons (gVar 1) DL.gNil)) (gC (.int 100))))) (sRet (gC (.bl false))) sNext) (sRet (gBlt allF (DL.gCons (gComp (gIts (gVar 1)) gAll e1_is_score mkLst) DL.gNil))))
def F_is_score : FD := runD 0 g_is_score
theorem sc_is_score : FnScope ["stand", "thing"] ["stand", "thing"] (defScope s_is_score) := ⟨rfl, rfl, rfl, by decide +kernel, rfl, by decide +kernel, by decide +kernel⟩
theorem ok_is_score {P : Program} {w : World} {K : PySem.W.Frag} {mg : Str → Option Value} {base : Heap} {a : Ad} (T : Tx K mg a) : FnOk P w K mg base (CXd P w) 7 a.f_is_score a.d_is_score ["stand", "thing"] (spD K 2 F_is_score) := fn_q T.n_is_score.F sc_is_score rfl fun cdv A outer s H E hr => by
  have nd := sc_is_score.nd
  refine qs_cons ?_ ?_
  · refine qs_if ?_ ?_ ?_
    · refine qt_w ?_
      refine qw_or ?_ ?_
      · exact (qt_not (qt_tru (qe_is (.inr (.inr (.inr (.inr rfl)))) Boot.«list» (by rfl) T.z_list (by rfl) T.z_isinstance (qv 1))))
      · exact (qw_or1 (qt_cmp q_gt (qe_cB q_len (by rfl) T.z_len Boot.«len» (qa_c (qv 1) qa_nil)) (qe_glbI T.v_MOST_LINES)))
    · refine qs_one ?_
      exact (qs_ret qe_bl)
    · exact qs_nil
  refine qs_one ?_
  refine qs_ret ?_
  refine qe_cB q_all (by rfl) T.z_all Boot.«all» ?_
  refine qa_c ?_ ?_
  · refine qe_comp (R := ["stand", "thing"]) (by kernel_rfl) (.inl rfl)  ?_ ?_ ?_
    · exact (qi_seq (qv 1))
    · exact q_notests
    · intro _ _ _ _
      refine qe_cl (ok_is_line T) (hr.mono (by decide)) (by rfl) T.n_is_line.m T.n_is_line.F.kp T.n_is_line.b ?_
      exact (qa_c (qv 1) (qa_c (qe_cB q_len (by rfl) T.z_len Boot.«len» (qa_c (qv 2) qa_nil)) (qa_c (qv 0) qa_nil)))
  exact qa_nil
def g_row_ticks : GS := (sSeq (sAsg (tupN [1, 2, 3, 4]) (gVar 0)) (sRet (g2 addD (gVar 1) (gVar 3))))
def F_row_ticks : FD := runD 4 g_row_ticks
theorem sc_row_ticks : FnScope ["frame", "wide", "high", "gap", "most"] ["frame"] (defScope s_row_ticks) := ⟨rfl, rfl, rfl, by decide +kernel, rfl, by decide +kernel, by decide +kernel⟩
theorem ok_row_ticks {P : Program} {w : World} {K : PySem.W.Frag} {mg : Str → Option Value} {base : Heap} {a : Ad} (T : Tx K mg a) : FnOk P w K mg base (CXd P w) 1 a.f_row_ticks a.d_row_ticks ["frame"] (spD K 1 F_row_ticks) := fn_q T.n_row_ticks.F sc_row_ticks rfl fun cdv A outer s H E hr => by
  have nd := sc_row_ticks.nd
  refine qs_cons ?_ ?_
  · exact (qs_asg (qv 0) (qg_tup (qgs_c (qn 1 nd) (qgs_c (qn 2 nd) (qgs_c (qn 3 nd) (qgs_c (qn 4 nd) qgs_nil))))))
  refine qs_one ?_
  exact (qs_ret (qe_op q_add (qv 1) (qv 3)))
def g_tick_named : GS := (sSeq (sAsg (tupN [2, 3, 4]) (gVar 1)) (sRet (g2 addD (g2 mulD (gVar 3) (gCall 1 F_row_ticks (DL.gCons (gVar 0) DL.gNil))) (gVar 4))))
def F_tick_named : FD := runD 3 g_tick_named
theorem sc_tick_named : FnScope ["frame", "line", "word", "row", "spot"] ["frame", "line"] (defScope s_tick_named) := ⟨rfl, rfl, rfl, by decide +kernel, rfl, by decide +kernel, by decide +kernel⟩
theorem ok_tick_named {P : Program} {w : World} {K : PySem.W.Frag} {mg : Str → Option Value} {base : Heap} {a : Ad} (T : Tx K mg a) : FnOk P w K mg base (CXd P w) 2 a.f_tick_named a.d_tick_named ["frame", "line"] (spD K 2 F_tick_named) := fn_q T.n_tick_named.F sc_tick_named rfl fun cdv A outer s H E hr => by
  have nd := sc_tick_named.nd
  refine qs_cons ?_ ?_
  · exact (qs_asg (qv 1) (qg_tup (qgs_c (qn 2 nd) (qgs_c (qn 3 nd) (qgs_c (qn 4 nd) qgs_nil)))))
  refine qs_one ?_
  refine qs_ret ?_
  exact (qe_op q_add (qe_op q_mul (qv 3) (qe_cl (ok_row_ticks T) (hr.mono (by decide)) (by rfl) T.n_row_ticks.m T.n_row_ticks.F.kp T.n_row_ticks.b (qa_c (qv 0) qa_nil))) (qv 4))
def g_tick_of_line : GS := (sSeq (sIf (gTst (g2 (eqOp false) (g2 ixD (gVar 1) (gC (.int 0))) (gC (.str "wait")))) (sRet (gBlt maxF (DL.gCons (gVar 2) (DL.gCons (gCall 2 F_tick_named (DL.gCons (gVar 0) (DL.gCons (gVar 1) DL.gNil))) DL.gNil)))) sNext) (sRet (gVar 2)))
def F_tick_of_line : FD := runD 0 g_tick_of_line
theorem sc_tick_of_line : FnScope ["frame", "line", "tick"] ["frame", "line", "tick"] (defScope s_tick_of_line) := ⟨rfl, rfl, rfl, by decide +kernel, rfl, by decide +kernel, by decide +kernel⟩
theorem ok_tick_of_line {P : Program} {w : World} {K : PySem.W.Frag} {mg : Str → Option Value} {base : Heap} {a : Ad} (T : Tx K mg a) : FnOk P w K mg base (CXd P w) 3 a.f_tick_of_line a.d_tick_of_line ["frame", "line", "tick"] (spD K 3 F_tick_of_line) := fn_q T.n_tick_of_line.F sc_tick_of_line rfl fun cdv A outer s H E hr => by
  have nd := sc_tick_of_line.nd
  refine qs_cons ?_ ?_
  · refine qs_if ?_ ?_ ?_
    · exact (qt_cmp (q_eq hr) (qe_ix (qv 1) qe_int) qe_str)
    · refine qs_one ?_
      refine qs_ret ?_
      refine qe_cB q_max (by rfl) T.z_max Boot.«max» ?_
      exact (qa_c (qv 2) (qa_c (qe_cl (ok_tick_named T) (hr.mono (by decide)) (by rfl) T.n_tick_named.m T.n_tick_named.F.kp T.n_tick_named.b (qa_c (qv 0) (qa_c (qv 1) qa_nil))) qa_nil))
    · exact qs_nil
  refine qs_one ?_
  exact (qs_ret (qv 2))
def g_place_behind : GS := (sSeq (sIf (gTst (g2 (eqOp false) (g2 ixD (gVar 1) (gC (.int 0))) (gC (.str "to")))) (sRet (g2 ixD (gVar 1) (gC (.int 1)))) sNext) (sSeq (sIf (gAndT (gTst (g2 (eqOp false) (g2 ixD (gVar 1) (gC (.int 0))) (gC (.str "skip")))) (gTst (g2 geD (gVar 3) (gCall 2 F_tick_named (DL.gCons (gVar 0) (DL.gCons (gVar 1) DL.gNil)))))) (sRet (g2 addD (gVar 2) (gC (.int 2)))) sNext) (sRet (g2 addD (gVar 2) (gC (.int 1))))))
def F_place_behind : FD := runD 0 g_place_behind
theorem sc_place_behind : FnScope ["frame", "line", "place", "tick"] ["frame", "line", "place", "tick"] (defScope s_place_behind) := ⟨rfl, rfl, rfl, by decide +kernel, rfl, by decide +kernel, by decide +kernel⟩
theorem ok_place_behind {P : Program} {w : World} {K : PySem.W.Frag} {mg : Str → Option Value} {base : Heap} {a : Ad} (T : Tx K mg a) : FnOk P w K mg base (CXd P w) 3 a.f_place_behind a.d_place_behind ["frame", "line", "place", "tick"] (spD K 4 F_place_behind) := fn_q T.n_place_behind.F sc_place_behind rfl fun cdv A outer s H E hr => by
  have nd := sc_place_behind.nd
  refine qs_cons ?_ ?_
  · refine qs_if ?_ ?_ ?_
    · exact (qt_cmp (q_eq hr) (qe_ix (qv 1) qe_int) qe_str)
    · refine qs_one ?_
      exact (qs_ret (qe_ix (qv 1) qe_int))
    · exact qs_nil
  refine qs_cons ?_ ?_
  · refine qs_if ?_ ?_ ?_
    · refine qt_w ?_
      refine qw_and ?_ ?_
      · exact (qt_cmp (q_eq hr) (qe_ix (qv 1) qe_int) qe_str)
      · refine qw_and1 ?_
        exact (qt_cmp q_ge (qv 3) (qe_cl (ok_tick_named T) (hr.mono (by decide)) (by rfl) T.n_tick_named.m T.n_tick_named.F.kp T.n_tick_named.b (qa_c (qv 0) (qa_c (qv 1) qa_nil))))
    · refine qs_one ?_
      exact (qs_ret (qe_op q_add (qv 2) qe_int))
    · exact qs_nil
  refine qs_one ?_
  exact (qs_ret (qe_op q_add (qv 2) qe_int))
def g_ticks_of : GS := (sSeq (sAsg (tupN [1, 2, 3, 4]) (gVar 0)) (sRet (g2 mulD (gVar 2) (gCall 1 F_row_ticks (DL.gCons (gVar 0) DL.gNil)))))
def F_ticks_of : FD := runD 4 g_ticks_of
theorem sc_ticks_of : FnScope ["frame", "wide", "high", "gap", "most"] ["frame"] (defScope s_ticks_of) := ⟨rfl, rfl, rfl, by decide +kernel, rfl, by decide +kernel, by decide +kernel⟩
theorem ok_ticks_of {P : Program} {w : World} {K : PySem.W.Frag} {mg : Str → Option Value} {base : Heap} {a : Ad} (T : Tx K mg a) : FnOk P w K mg base (CXd P w) 2 a.f_ticks_of a.d_ticks_of ["frame"] (spD K 1 F_ticks_of) := fn_q T.n_ticks_of.F sc_ticks_of rfl fun cdv A outer s H E hr => by
  have nd := sc_ticks_of.nd
  refine qs_cons ?_ ?_
  · exact (qs_asg (qv 0) (qg_tup (qgs_c (qn 1 nd) (qgs_c (qn 2 nd) (qgs_c (qn 3 nd) (qgs_c (qn 4 nd) qgs_nil))))))
  refine qs_one ?_
  exact (qs_ret (qe_op q_mul (qv 2) (qe_cl (ok_row_ticks T) (hr.mono (by decide)) (by rfl) T.n_row_ticks.m T.n_row_ticks.F.kp T.n_row_ticks.b (qa_c (qv 0) qa_nil))))
def b1_deeds_by : GS := (sSeq (sSet 7 (g2 ixD (gVar 2) (gVar 5))) (sSeq (sSet 6 (gCall 3 F_tick_of_line (DL.gCons (gVar 0) (DL.gCons (gVar 7) (DL.gCons (gVar 6) DL.gNil))))) (sSeq (sIf (gTst (g2 geD (gVar 6) (gCall 1 F_ticks_of (DL.gCons (gVar 0) DL.gNil)))) (sRet (gVar 4)) sNext) (sSeq (sIf (gTst (g2 (eqOp false) (g2 ixD (gVar 7) (gC (.int 0))) (gC (.str "do")))) (sDrop (gApp (gVar 4) (DL.gTup (DL.gCons (gVar 6) (DL.gCons (g2 ixD (gVar 7) (gC (.int 1))) DL.gNil))))) sNext) (sSeq (sSet 5 (gCall 4 F_place_behind (DL.gCons (gVar 0) (DL.gCons (gVar 7) (DL.gCons (gVar 5) (DL.gCons (gVar 6) DL.gNil)))))) (sAug 6 true (gVar 3)))))))
def w1_deeds_by : GT := (gTst (g2 ltD (gVar 5) (gBlt lenF (DL.gCons (gVar 2) DL.gNil))))
def g_deeds_by : GS := (sSeq (sDrop (gCall 2 F_check_begin (DL.gCons (gVar 0) (DL.gCons (gVar 1) DL.gNil)))) (sSeq (sIf (gNotT (gTru (gCall 2 F_is_score (DL.gCons (gVar 1) (DL.gCons (gVar 2) DL.gNil))))) (sRaise "NoScore" (gC (.str "that is no score of the stand"))) sNext) (sSeq (sSet 4 (gMut DL.gNil)) (sSeq (sSet 5 (gC (.int 0))) (sSeq (sSet 6 (gC (.int 0))) (sSeq (sWhile 5000 w1_deeds_by b1_deeds_by) (sRet (gVar 4))))))))
def F_deeds_by : FD := runD 4 g_deeds_by
theorem sc_deeds_by : FnScope ["frame", "stand", "score", "pace", "timed", "place", "tick", "line"] ["frame", "stand", "score", "pace"] (defScope s_deeds_by) := ⟨rfl, rfl, rfl, by decide +kernel, rfl, by decide +kernel, by decide +kernel⟩
theorem ok_deeds_by {P : Program} {w : World} {K : PySem.W.Frag} {mg : Str → Option Value} {base : Heap} {a : Ad} (T : Tx K mg a) : FnOk P w K mg base (CXd P w) 10 a.f_deeds_by a.d_deeds_by ["frame", "stand", "score", "pace"] (spD K 4 F_deeds_by) := fn_q T.n_deeds_by.F sc_deeds_by rfl fun cdv A outer s H E hr => by
  have nd := sc_deeds_by.nd
  refine qs_cons ?_ ?_
  · exact (qs_drop (qe_cl (ok_check_begin T) (hr.mono (by decide)) (by rfl) T.n_check_begin.m T.n_check_begin.F.kp T.n_check_begin.b (qa_c (qv 0) (qa_c (qv 1) qa_nil))))
  refine qs_cons ?_ ?_
  · refine qs_if ?_ ?_ ?_
    · exact (qt_not (qt_tru (qe_cl (ok_is_score T) (hr.mono (by decide)) (by rfl) T.n_is_score.m T.n_is_score.F.kp T.n_is_score.b (qa_c (qv 1) (qa_c (qv 2) qa_nil)))))
    · refine qs_one ?_
      exact (qs_raise T.e_NoScore (by rfl) qe_str)
    · exact qs_nil
  refine qs_cons ?_ ?_
  · exact (qs_set 4 nd (qe_mut qa_nil))
  refine qs_cons ?_ ?_
  · exact (qs_set 5 nd qe_int)
  refine qs_cons ?_ ?_
  · exact (qs_set 6 nd qe_int)
  refine qs_cons ?_ ?_
  · refine qs_while PassesOwn.leaving ?_ ?_
    · exact (qt_cmp q_lt (qv 5) (qe_cB q_len (by rfl) T.z_len Boot.«len» (qa_c (qv 2) qa_nil)))
    · refine qs_cons ?_ ?_
      · exact (qs_set 7 nd (qe_ix (qv 2) (qv 5)))
      refine qs_cons ?_ ?_
      · refine qs_set 6 nd ?_
        exact (qe_cl (ok_tick_of_line T) (hr.mono (by decide)) (by rfl) T.n_tick_of_line.m T.n_tick_of_line.F.kp T.n_tick_of_line.b (qa_c (qv 0) (qa_c (qv 7) (qa_c (qv 6) qa_nil))))
      refine qs_cons ?_ ?_
      · refine qs_if ?_ ?_ ?_
        · exact (qt_cmp q_ge (qv 6) (qe_cl (ok_ticks_of T) (hr.mono (by decide)) (by rfl) T.n_ticks_of.m T.n_ticks_of.F.kp T.n_ticks_of.b (qa_c (qv 0) qa_nil)))
        · refine qs_one ?_
          exact (qs_ret (qv 4))
        · exact qs_nil
      refine qs_cons ?_ ?_
      · refine qs_if ?_ ?_ ?_
        · exact (qt_cmp (q_eq hr) (qe_ix (qv 7) qe_int) qe_str)
        · refine qs_one ?_
          refine qs_drop ?_
          refine qe_append ?_ ?_
          · exact (qv 4)
          · exact (qe_tup (qa_c (qv 6) (qa_c (qe_ix (qv 7) qe_int) qa_nil)))
        · exact qs_nil
      refine qs_cons ?_ ?_
      · refine qs_set 5 nd ?_
        refine qe_cl (ok_place_behind T) (hr.mono (by decide)) (by rfl) T.n_place_behind.m T.n_place_behind.F.kp T.n_place_behind.b ?_
        refine qa_c ?_ ?_
        · exact (qv 0)
        refine qa_c ?_ ?_
        · exact (qv 7)
        refine qa_c ?_ ?_
        · exact (qv 5)
        refine qa_c ?_ ?_
        · exact (qv 6)
        exact qa_nil
      refine qs_one ?_
      exact (qs_aug 6 nd rfl (qv 3))
  refine qs_one ?_
  exact (qs_ret (qv 4))
def e1_law : GE := (gAnd (gIsi "tuple" (gVar 0)) (gNot (gTst (gIsi "bool" (g2 ixD (gVar 0) (gC (.int 0)))))))
def b1_law : GS := (sSeq (sSet 3 (gCall 2 F__law_frame (DL.gCons (gVar 1) (DL.gCons (g2 ixD (gLst (DL.gCons (gC (.int 6)) (DL.gCons (gC (.int 40)) DL.gNil))) (gCall 2 F__law_draw (DL.gCons (gVar 1) (DL.gCons (gC (.int 2)) DL.gNil)))) DL.gNil)))) (sSeq (sSet 4 (gCall 3 F__law_stand (DL.gCons (gVar 1) (DL.gCons (gVar 3) (DL.gCons (gC (.int 3)) DL.gNil))))) (sSeq (sSet 5 (gCall 3 F__law_score (DL.gCons (gVar 1) (DL.gCons (gVar 3) (DL.gCons (gVar 4) DL.gNil))))) (sSeq (sSet 6 (g2 addD (gC (.int 1)) (gCall 2 F__law_draw (DL.gCons (gVar 1) (DL.gCons (gC (.int 8)) DL.gNil))))) (sSeq (sSet 7 (gBlt listF (DL.gCons (gVar 5) DL.gNil))) (sSeq (sSet 8 (gCall 3 F__law_hand (DL.gCons (gVar 3) (DL.gCons (gVar 5) (DL.gCons (gVar 6) DL.gNil))))) (sSeq (sSet 9 (gCall 4 F_deeds_by (DL.gCons (gVar 3) (DL.gCons (gVar 4) (DL.gCons (gVar 7) (DL.gCons (gVar 6) DL.gNil)))))) (sSeq (sIf (gOrT (gNotT (gTru (gIsi "list" (gVar 9)))) (gOrT (gTst (g2 (eqOp true) (gVar 9) (gVar 8))) (gTst (g2 (eqOp true) (gVar 7) (gVar 5))))) (sRet (gC (.bl false))) sNext) (sSeq (sIf (gNotT (gTru (gBlt allF (DL.gCons (gComp (gIts (gVar 9)) gAll e1_law mkLst) DL.gNil)))) (sRet (gC (.bl false))) sNext) (sSeq (sDrop (gApp (gVar 9) (DL.gTup (DL.gCons (gC (.int 0)) (DL.gCons (DL.gTup (DL.gCons (gC (.str "pot")) (DL.gCons (gC (.int 0)) (DL.gCons (gC (.int 0)) DL.gNil)))) DL.gNil))))) (sIf (gTst (g2 (eqOp true) (gCall 4 F_deeds_by (DL.gCons (gVar 3) (DL.gCons (gVar 4) (DL.gCons (gVar 7) (DL.gCons (gVar 6) DL.gNil))))) (gVar 8))) (sRet (gC (.bl false))) sNext)))))))))))
def g_law : GS := (sSeq (sSet 1 (gMut (DL.gCons (gBlt listF (DL.gCons (gVar 0) DL.gNil)) (DL.gCons (gC (.int 0)) (DL.gCons (gC (.int 0)) DL.gNil))))) (sSeq (sFor (gRng1 (DL.gCons (gC (.int 4)) DL.gNil)) (oneN 2) b1_law) (sRet (gC (.bl true)))))
def F_law : FD := runD 9 g_law
theorem sc_law : FnScope ["script", "tape", "turn", "frame", "stand", "score", "pace", "handed", "due", "found"] ["script"] (defScope s_law) := ⟨rfl, rfl, rfl, by decide +kernel, rfl, by decide +kernel, by decide +kernel⟩
theorem ok_law {P : Program} {w : World} {K : PySem.W.Frag} {mg : Str → Option Value} {base : Heap} {a : Ad} (T : Tx K mg a) : FnOk P w K mg base (CXd P w) 11 a.f_law a.d_law ["script"] (spD K 1 F_law) := fn_q T.n_law.F sc_law rfl fun cdv A outer s H E hr => by
  have nd := sc_law.nd
  refine qs_cons ?_ ?_
  · refine qs_set 1 nd ?_
    refine qe_mut ?_
    exact (qa_c (qe_cT q_list (by rfl) T.z_list Boot.«list» (qa_c (qv 0) qa_nil)) (qa_c qe_int (qa_c qe_int qa_nil)))
  refine qs_cons ?_ ?_
  · refine qs_for PassesOwn.leaving ?_ ?_ ?_
    · exact (qi_r1 (by rfl) T.z_range (qa_c qe_int qa_nil))
    · exact (qn 2 nd)
    · refine qs_cons ?_ ?_
      · refine qs_set 3 nd ?_
        refine qe_cl (ok__law_frame T) (hr.mono (by decide)) (by rfl) T.n__law_frame.m T.n__law_frame.F.kp T.n__law_frame.b ?_
        refine qa_c ?_ ?_
        · exact (qv 1)
        refine qa_c ?_ ?_
        · refine qe_ix ?_ ?_
          · exact (qe_lst (qa_c qe_int (qa_c qe_int qa_nil)))
          · exact (qe_cl (ok__law_draw T) (hr.mono (by decide)) (by rfl) T.n__law_draw.m T.n__law_draw.F.kp T.n__law_draw.b (qa_c (qv 1) (qa_c qe_int qa_nil)))
        exact qa_nil
      refine qs_cons ?_ ?_
      · refine qs_set 4 nd ?_
        exact (qe_cl (ok__law_stand T) (hr.mono (by decide)) (by rfl) T.n__law_stand.m T.n__law_stand.F.kp T.n__law_stand.b (qa_c (qv 1) (qa_c (qv 3) (qa_c qe_int qa_nil))))
      refine qs_cons ?_ ?_
      · refine qs_set 5 nd ?_
        exact (qe_cl (ok__law_score T) (hr.mono (by decide)) (by rfl) T.n__law_score.m T.n__law_score.F.kp T.n__law_score.b (qa_c (qv 1) (qa_c (qv 3) (qa_c (qv 4) qa_nil))))
      refine qs_cons ?_ ?_
      · refine qs_set 6 nd ?_
        exact (qe_op q_add qe_int (qe_cl (ok__law_draw T) (hr.mono (by decide)) (by rfl) T.n__law_draw.m T.n__law_draw.F.kp T.n__law_draw.b (qa_c (qv 1) (qa_c qe_int qa_nil))))
      refine qs_cons ?_ ?_
      · exact (qs_set 7 nd (qe_cT q_list (by rfl) T.z_list Boot.«list» (qa_c (qv 5) qa_nil)))
      refine qs_cons ?_ ?_
      · refine qs_set 8 nd ?_
        exact (qe_cl (ok__law_hand T) (hr.mono (by decide)) (by rfl) T.n__law_hand.m T.n__law_hand.F.kp T.n__law_hand.b (qa_c (qv 3) (qa_c (qv 5) (qa_c (qv 6) qa_nil))))
      refine qs_cons ?_ ?_
      · refine qs_set 9 nd ?_
        refine qe_cl (ok_deeds_by T) (hr.mono (by decide)) (by rfl) T.n_deeds_by.m T.n_deeds_by.F.kp T.n_deeds_by.b ?_
        refine qa_c ?_ ?_
        · exact (qv 3)
        refine qa_c ?_ ?_
        · exact (qv 4)
        refine qa_c ?_ ?_
        · exact (qv 7)
        refine qa_c ?_ ?_
        · exact (qv 6)
        exact qa_nil
      refine qs_cons ?_ ?_
      · refine qs_if ?_ ?_ ?_
        · refine qt_w ?_
          refine qw_or ?_ ?_
          · exact (qt_not (qt_tru (qe_is (.inr (.inr (.inr (.inr rfl)))) Boot.«list» (by rfl) T.z_list (by rfl) T.z_isinstance (qv 9))))
          · refine qw_or ?_ ?_
            · exact (qt_cmp (q_ne hr) (qv 9) (qv 8))
            · exact (qw_or1 (qt_cmp (q_ne hr) (qv 7) (qv 5)))
        · refine qs_one ?_
          exact (qs_ret qe_bl)
        · exact qs_nil
      refine qs_cons ?_ ?_
      · refine qs_if ?_ ?_ ?_
        · refine qt_not ?_
          refine qt_tru ?_
          refine qe_cB q_all (by rfl) T.z_all Boot.«all» ?_
          refine qa_c ?_ ?_
          · refine qe_comp (R := ["script", "tape", "turn", "frame", "stand", "score", "pace", "handed", "due", "found"]) (by kernel_rfl) (.inl rfl)  ?_ ?_ ?_
            · exact (qi_seq (qv 9))
            · exact q_notests
            · intro _ _ _ _
              refine qe_and ?_ ?_
              · exact (qe_is (.inr (.inr (.inr (.inl rfl)))) Boot.«tuple» (by rfl) T.z_tuple (by rfl) T.z_isinstance (qv 0))
              · exact (qe_one (qe_not (qe_is (.inr (.inl rfl)) Boot.«bool» (by rfl) T.z_bool (by rfl) T.z_isinstance (qe_ix (qv 0) qe_int))))
          exact qa_nil
        · refine qs_one ?_
          exact (qs_ret qe_bl)
        · exact qs_nil
      refine qs_cons ?_ ?_
      · refine qs_drop ?_
        refine qe_append ?_ ?_
        · exact (qv 9)
        · refine qe_tup ?_
          refine qa_c ?_ ?_
          · exact qe_int
          refine qa_c ?_ ?_
          · exact (qe_tup (qa_c qe_str (qa_c qe_int (qa_c qe_int qa_nil))))
          exact qa_nil
      refine qs_one ?_
      refine qs_if ?_ ?_ ?_
      · refine qt_cmp (q_ne hr) ?_ ?_
        · refine qe_cl (ok_deeds_by T) (hr.mono (by decide)) (by rfl) T.n_deeds_by.m T.n_deeds_by.F.kp T.n_deeds_by.b ?_
          refine qa_c ?_ ?_
          · exact (qv 3)
          refine qa_c ?_ ?_
          · exact (qv 4)
          refine qa_c ?_ ?_
          · exact (qv 7)
          refine qa_c ?_ ?_
          · exact (qv 6)
          exact qa_nil
        · exact (qv 8)
      · refine qs_one ?_
        exact (qs_ret qe_bl)
      · exact qs_nil
  refine qs_one ?_
  exact (qs_ret qe_bl)
theorem all_mk {l : PySem.W.OpenLaw} {w : World} {K : PySem.W.Frag} {h : Heap} {mg : Str → Option Value} {fa : Addr} (X : K.In h) (G : h.Ns mainGlobals mg) (hfa : mg "law" = some (.ref fa))
    {f0 : Addr} {od0 an0 : Option Addr} {sl0 : Array (Option Value)} {oc0 kV0 dc0 pm0 cd0 ct0 : Value}
    {f1 : Addr} {od1 an1 : Option Addr} {sl1 : Array (Option Value)} {oc1 kV1 dc1 pm1 cd1 ct1 : Value}
    {f2 : Addr} {od2 an2 : Option Addr} {sl2 : Array (Option Value)} {oc2 kV2 dc2 pm2 cd2 ct2 : Value}
    {f3 : Addr} {od3 an3 : Option Addr} {sl3 : Array (Option Value)} {oc3 kV3 dc3 pm3 cd3 ct3 : Value}
    {f4 : Addr} {od4 an4 : Option Addr} {sl4 : Array (Option Value)} {oc4 kV4 dc4 pm4 cd4 ct4 : Value}
    {f5 : Addr} {od5 an5 : Option Addr} {sl5 : Array (Option Value)} {oc5 kV5 dc5 pm5 cd5 ct5 : Value}
    {f6 : Addr} {od6 an6 : Option Addr} {sl6 : Array (Option Value)} {oc6 kV6 dc6 pm6 cd6 ct6 : Value}
    {f7 : Addr} {od7 an7 : Option Addr} {sl7 : Array (Option Value)} {oc7 kV7 dc7 pm7 cd7 ct7 : Value}
    {f8 : Addr} {od8 an8 : Option Addr} {sl8 : Array (Option Value)} {oc8 kV8 dc8 pm8 cd8 ct8 : Value}
    {f9 : Addr} {od9 an9 : Option Addr} {sl9 : Array (Option Value)} {oc9 kV9 dc9 pm9 cd9 ct9 : Value}
    {f10 : Addr} {od10 an10 : Option Addr} {sl10 : Array (Option Value)} {oc10 kV10 dc10 pm10 cd10 ct10 : Value}
    {f11 : Addr} {od11 an11 : Option Addr} {sl11 : Array (Option Value)} {oc11 kV11 dc11 pm11 cd11 ct11 : Value}
    {f12 : Addr} {od12 an12 : Option Addr} {sl12 : Array (Option Value)} {oc12 kV12 dc12 pm12 cd12 ct12 : Value}
    {f13 : Addr} {od13 an13 : Option Addr} {sl13 : Array (Option Value)} {oc13 kV13 dc13 pm13 cd13 ct13 : Value}
    {f14 : Addr} {od14 an14 : Option Addr} {sl14 : Array (Option Value)} {oc14 kV14 dc14 pm14 cd14 ct14 : Value}
    {f15 : Addr} {od15 an15 : Option Addr} {sl15 : Array (Option Value)} {oc15 kV15 dc15 pm15 cd15 ct15 : Value}
    {f16 : Addr} {od16 an16 : Option Addr} {sl16 : Array (Option Value)} {oc16 kV16 dc16 pm16 cd16 ct16 : Value}
    {f17 : Addr} {od17 an17 : Option Addr} {sl17 : Array (Option Value)} {oc17 kV17 dc17 pm17 cd17 ct17 : Value}
    {f18 : Addr} {od18 an18 : Option Addr} {sl18 : Array (Option Value)} {oc18 kV18 dc18 pm18 cd18 ct18 : Value}
    {f19 : Addr} {od19 an19 : Option Addr} {sl19 : Array (Option Value)} {oc19 kV19 dc19 pm19 cd19 ct19 : Value}
    {f20 : Addr} {od20 an20 : Option Addr} {sl20 : Array (Option Value)} {oc20 kV20 dc20 pm20 cd20 ct20 : Value}
    {f21 : Addr} {od21 an21 : Option Addr} {sl21 : Array (Option Value)} {oc21 kV21 dc21 pm21 cd21 ct21 : Value}
    {f22 : Addr} {od22 an22 : Option Addr} {sl22 : Array (Option Value)} {oc22 kV22 dc22 pm22 cd22 ct22 : Value}
    {f23 : Addr} {od23 an23 : Option Addr} {sl23 : Array (Option Value)} {oc23 kV23 dc23 pm23 cd23 ct23 : Value}
    {f24 : Addr} {od24 an24 : Option Addr} {sl24 : Array (Option Value)} {oc24 kV24 dc24 pm24 cd24 ct24 : Value}
    {f25 : Addr} {od25 an25 : Option Addr} {sl25 : Array (Option Value)} {oc25 kV25 dc25 pm25 cd25 ct25 : Value}
    {f26 : Addr} {od26 an26 : Option Addr} {sl26 : Array (Option Value)} {oc26 kV26 dc26 pm26 cd26 ct26 : Value}
    {f27 : Addr} {od27 an27 : Option Addr} {sl27 : Array (Option Value)} {oc27 kV27 dc27 pm27 cd27 ct27 : Value}
    {f28 : Addr} {od28 an28 : Option Addr} {sl28 : Array (Option Value)} {oc28 kV28 dc28 pm28 cd28 ct28 : Value}
    {f29 : Addr} {od29 an29 : Option Addr} {sl29 : Array (Option Value)} {oc29 kV29 dc29 pm29 cd29 ct29 : Value}
    {f30 : Addr} {od30 an30 : Option Addr} {sl30 : Array (Option Value)} {oc30 kV30 dc30 pm30 cd30 ct30 : Value}
    {f31 : Addr} {od31 an31 : Option Addr} {sl31 : Array (Option Value)} {oc31 kV31 dc31 pm31 cd31 ct31 : Value}
    {f32 : Addr} {od32 an32 : Option Addr} {sl32 : Array (Option Value)} {oc32 kV32 dc32 pm32 cd32 ct32 : Value}
    {f33 : Addr} {od33 an33 : Option Addr} {sl33 : Array (Option Value)} {oc33 kV33 dc33 pm33 cd33 ct33 : Value}
    {f34 : Addr} {od34 an34 : Option Addr} {sl34 : Array (Option Value)} {oc34 kV34 dc34 pm34 cd34 ct34 : Value}
    {f35 : Addr} {od35 an35 : Option Addr} {sl35 : Array (Option Value)} {oc35 kV35 dc35 pm35 cd35 ct35 : Value}
    {f36 : Addr} {od36 an36 : Option Addr} {sl36 : Array (Option Value)} {oc36 kV36 dc36 pm36 cd36 ct36 : Value}
    {f37 : Addr} {od37 an37 : Option Addr} {sl37 : Array (Option Value)} {oc37 kV37 dc37 pm37 cd37 ct37 : Value}
    {f38 : Addr} {od38 an38 : Option Addr} {sl38 : Array (Option Value)} {oc38 kV38 dc38 pm38 cd38 ct38 : Value}
    {f39 : Addr} {od39 an39 : Option Addr} {sl39 : Array (Option Value)} {oc39 kV39 dc39 pm39 cd39 ct39 : Value}
    {C_NoFrame C_NoScore C_NoStand : Addr}
    {tk_MOST_LINES : Tok}
    (a0 : PySem.W.nsIn K mainGlobals "_law_draw" = some (some (.ref f0))) (l0 : K.lookup f0 = some ⟨oc0, od0, .func (PySem.W.fnOf "_law_draw" "_law_draw" (defArgs s__law_draw) (defBody s__law_draw) (defScope s__law_draw) .none kV0 dc0 pm0 an0 cd0 ct0), sl0⟩) (c0 : PySem.W.codeIn K cd0 "_law_draw" = true) (k0 : PySem.W.keepIn K (.ref f0) = true)
    (a1 : PySem.W.nsIn K mainGlobals "_law_size" = some (some (.ref f1))) (l1 : K.lookup f1 = some ⟨oc1, od1, .func (PySem.W.fnOf "_law_size" "_law_size" (defArgs s__law_size) (defBody s__law_size) (defScope s__law_size) .none kV1 dc1 pm1 an1 cd1 ct1), sl1⟩) (c1 : PySem.W.codeIn K cd1 "_law_size" = true) (k1 : PySem.W.keepIn K (.ref f1) = true)
    (a2 : PySem.W.nsIn K mainGlobals "_law_frame" = some (some (.ref f2))) (l2 : K.lookup f2 = some ⟨oc2, od2, .func (PySem.W.fnOf "_law_frame" "_law_frame" (defArgs s__law_frame) (defBody s__law_frame) (defScope s__law_frame) .none kV2 dc2 pm2 an2 cd2 ct2), sl2⟩) (c2 : PySem.W.codeIn K cd2 "_law_frame" = true) (k2 : PySem.W.keepIn K (.ref f2) = true)
    (a3 : PySem.W.nsIn K mainGlobals "_law_inks" = some (some (.ref f3))) (l3 : K.lookup f3 = some ⟨oc3, od3, .func (PySem.W.fnOf "_law_inks" "_law_inks" (defArgs s__law_inks) (defBody s__law_inks) (defScope s__law_inks) .none kV3 dc3 pm3 an3 cd3 ct3), sl3⟩) (c3 : PySem.W.codeIn K cd3 "_law_inks" = true) (k3 : PySem.W.keepIn K (.ref f3) = true)
    (a4 : PySem.W.nsIn K mainGlobals "_law_inked" = some (some (.ref f4))) (l4 : K.lookup f4 = some ⟨oc4, od4, .func (PySem.W.fnOf "_law_inked" "_law_inked" (defArgs s__law_inked) (defBody s__law_inked) (defScope s__law_inked) .none kV4 dc4 pm4 an4 cd4 ct4), sl4⟩) (c4 : PySem.W.codeIn K cd4 "_law_inked" = true) (k4 : PySem.W.keepIn K (.ref f4) = true)
    (a5 : PySem.W.nsIn K mainGlobals "_law_far" = some (some (.ref f5))) (l5 : K.lookup f5 = some ⟨oc5, od5, .func (PySem.W.fnOf "_law_far" "_law_far" (defArgs s__law_far) (defBody s__law_far) (defScope s__law_far) .none kV5 dc5 pm5 an5 cd5 ct5), sl5⟩) (c5 : PySem.W.codeIn K cd5 "_law_far" = true) (k5 : PySem.W.keepIn K (.ref f5) = true)
    (a6 : PySem.W.nsIn K mainGlobals "_law_mover" = some (some (.ref f6))) (l6 : K.lookup f6 = some ⟨oc6, od6, .func (PySem.W.fnOf "_law_mover" "_law_mover" (defArgs s__law_mover) (defBody s__law_mover) (defScope s__law_mover) .none kV6 dc6 pm6 an6 cd6 ct6), sl6⟩) (c6 : PySem.W.codeIn K cd6 "_law_mover" = true) (k6 : PySem.W.keepIn K (.ref f6) = true)
    (a7 : PySem.W.nsIn K mainGlobals "_law_stand" = some (some (.ref f7))) (l7 : K.lookup f7 = some ⟨oc7, od7, .func (PySem.W.fnOf "_law_stand" "_law_stand" (defArgs s__law_stand) (defBody s__law_stand) (defScope s__law_stand) .none kV7 dc7 pm7 an7 cd7 ct7), sl7⟩) (c7 : PySem.W.codeIn K cd7 "_law_stand" = true) (k7 : PySem.W.keepIn K (.ref f7) = true)
    (a8 : PySem.W.nsIn K mainGlobals "_law_deed" = some (some (.ref f8))) (l8 : K.lookup f8 = some ⟨oc8, od8, .func (PySem.W.fnOf "_law_deed" "_law_deed" (defArgs s__law_deed) (defBody s__law_deed) (defScope s__law_deed) .none kV8 dc8 pm8 an8 cd8 ct8), sl8⟩) (c8 : PySem.W.codeIn K cd8 "_law_deed" = true) (k8 : PySem.W.keepIn K (.ref f8) = true)
    (a9 : PySem.W.nsIn K mainGlobals "_law_score" = some (some (.ref f9))) (l9 : K.lookup f9 = some ⟨oc9, od9, .func (PySem.W.fnOf "_law_score" "_law_score" (defArgs s__law_score) (defBody s__law_score) (defScope s__law_score) .none kV9 dc9 pm9 an9 cd9 ct9), sl9⟩) (c9 : PySem.W.codeIn K cd9 "_law_score" = true) (k9 : PySem.W.keepIn K (.ref f9) = true)
    (a10 : PySem.W.nsIn K mainGlobals "_law_hand" = some (some (.ref f10))) (l10 : K.lookup f10 = some ⟨oc10, od10, .func (PySem.W.fnOf "_law_hand" "_law_hand" (defArgs s__law_hand) (defBody s__law_hand) (defScope s__law_hand) .none kV10 dc10 pm10 an10 cd10 ct10), sl10⟩) (c10 : PySem.W.codeIn K cd10 "_law_hand" = true) (k10 : PySem.W.keepIn K (.ref f10) = true)
    (a11 : PySem.W.nsIn K mainGlobals "is_whole" = some (some (.ref f11))) (l11 : K.lookup f11 = some ⟨oc11, od11, .func (PySem.W.fnOf "is_whole" "is_whole" (defArgs s_is_whole) (defBody s_is_whole) (defScope s_is_whole) .none kV11 dc11 pm11 an11 cd11 ct11), sl11⟩) (c11 : PySem.W.codeIn K cd11 "is_whole" = true) (k11 : PySem.W.keepIn K (.ref f11) = true)
    (a12 : PySem.W.nsIn K mainGlobals "is_within" = some (some (.ref f12))) (l12 : K.lookup f12 = some ⟨oc12, od12, .func (PySem.W.fnOf "is_within" "is_within" (defArgs s_is_within) (defBody s_is_within) (defScope s_is_within) .none kV12 dc12 pm12 an12 cd12 ct12), sl12⟩) (c12 : PySem.W.codeIn K cd12 "is_within" = true) (k12 : PySem.W.keepIn K (.ref f12) = true)
    (a13 : PySem.W.nsIn K mainGlobals "is_frame" = some (some (.ref f13))) (l13 : K.lookup f13 = some ⟨oc13, od13, .func (PySem.W.fnOf "is_frame" "is_frame" (defArgs s_is_frame) (defBody s_is_frame) (defScope s_is_frame) .none kV13 dc13 pm13 an13 cd13 ct13), sl13⟩) (c13 : PySem.W.codeIn K cd13 "is_frame" = true) (k13 : PySem.W.keepIn K (.ref f13) = true)
    (a14 : PySem.W.nsIn K mainGlobals "is_ink" = some (some (.ref f14))) (l14 : K.lookup f14 = some ⟨oc14, od14, .func (PySem.W.fnOf "is_ink" "is_ink" (defArgs s_is_ink) (defBody s_is_ink) (defScope s_is_ink) .none kV14 dc14 pm14 an14 cd14 ct14), sl14⟩) (c14 : PySem.W.codeIn K cd14 "is_ink" = true) (k14 : PySem.W.keepIn K (.ref f14) = true)
    (a15 : PySem.W.nsIn K mainGlobals "is_ink_row" = some (some (.ref f15))) (l15 : K.lookup f15 = some ⟨oc15, od15, .func (PySem.W.fnOf "is_ink_row" "is_ink_row" (defArgs s_is_ink_row) (defBody s_is_ink_row) (defScope s_is_ink_row) .none kV15 dc15 pm15 an15 cd15 ct15), sl15⟩) (c15 : PySem.W.codeIn K cd15 "is_ink_row" = true) (k15 : PySem.W.keepIn K (.ref f15) = true)
    (a16 : PySem.W.nsIn K mainGlobals "is_ink_block" = some (some (.ref f16))) (l16 : K.lookup f16 = some ⟨oc16, od16, .func (PySem.W.fnOf "is_ink_block" "is_ink_block" (defArgs s_is_ink_block) (defBody s_is_ink_block) (defScope s_is_ink_block) .none kV16 dc16 pm16 an16 cd16 ct16), sl16⟩) (c16 : PySem.W.codeIn K cd16 "is_ink_block" = true) (k16 : PySem.W.keepIn K (.ref f16) = true)
    (a17 : PySem.W.nsIn K mainGlobals "is_shape" = some (some (.ref f17))) (l17 : K.lookup f17 = some ⟨oc17, od17, .func (PySem.W.fnOf "is_shape" "is_shape" (defArgs s_is_shape) (defBody s_is_shape) (defScope s_is_shape) .none kV17 dc17 pm17 an17 cd17 ct17), sl17⟩) (c17 : PySem.W.codeIn K cd17 "is_shape" = true) (k17 : PySem.W.keepIn K (.ref f17) = true)
    (a18 : PySem.W.nsIn K mainGlobals "is_book" = some (some (.ref f18))) (l18 : K.lookup f18 = some ⟨oc18, od18, .func (PySem.W.fnOf "is_book" "is_book" (defArgs s_is_book) (defBody s_is_book) (defScope s_is_book) .none kV18 dc18 pm18 an18 cd18 ct18), sl18⟩) (c18 : PySem.W.codeIn K cd18 "is_book" = true) (k18 : PySem.W.keepIn K (.ref f18) = true)
    (a19 : PySem.W.nsIn K mainGlobals "is_shape_number" = some (some (.ref f19))) (l19 : K.lookup f19 = some ⟨oc19, od19, .func (PySem.W.fnOf "is_shape_number" "is_shape_number" (defArgs s_is_shape_number) (defBody s_is_shape_number) (defScope s_is_shape_number) .none kV19 dc19 pm19 an19 cd19 ct19), sl19⟩) (c19 : PySem.W.codeIn K cd19 "is_shape_number" = true) (k19 : PySem.W.keepIn K (.ref f19) = true)
    (a20 : PySem.W.nsIn K mainGlobals "is_place_pair" = some (some (.ref f20))) (l20 : K.lookup f20 = some ⟨oc20, od20, .func (PySem.W.fnOf "is_place_pair" "is_place_pair" (defArgs s_is_place_pair) (defBody s_is_place_pair) (defScope s_is_place_pair) .none kV20 dc20 pm20 an20 cd20 ct20), sl20⟩) (c20 : PySem.W.codeIn K cd20 "is_place_pair" = true) (k20 : PySem.W.keepIn K (.ref f20) = true)
    (a21 : PySem.W.nsIn K mainGlobals "is_rank" = some (some (.ref f21))) (l21 : K.lookup f21 = some ⟨oc21, od21, .func (PySem.W.fnOf "is_rank" "is_rank" (defArgs s_is_rank) (defBody s_is_rank) (defScope s_is_rank) .none kV21 dc21 pm21 an21 cd21 ct21), sl21⟩) (c21 : PySem.W.codeIn K cd21 "is_rank" = true) (k21 : PySem.W.keepIn K (.ref f21) = true)
    (a22 : PySem.W.nsIn K mainGlobals "is_turn" = some (some (.ref f22))) (l22 : K.lookup f22 = some ⟨oc22, od22, .func (PySem.W.fnOf "is_turn" "is_turn" (defArgs s_is_turn) (defBody s_is_turn) (defScope s_is_turn) .none kV22 dc22 pm22 an22 cd22 ct22), sl22⟩) (c22 : PySem.W.codeIn K cd22 "is_turn" = true) (k22 : PySem.W.keepIn K (.ref f22) = true)
    (a23 : PySem.W.nsIn K mainGlobals "is_mover" = some (some (.ref f23))) (l23 : K.lookup f23 = some ⟨oc23, od23, .func (PySem.W.fnOf "is_mover" "is_mover" (defArgs s_is_mover) (defBody s_is_mover) (defScope s_is_mover) .none kV23 dc23 pm23 an23 cd23 ct23), sl23⟩) (c23 : PySem.W.codeIn K cd23 "is_mover" = true) (k23 : PySem.W.keepIn K (.ref f23) = true)
    (a24 : PySem.W.nsIn K mainGlobals "are_movers" = some (some (.ref f24))) (l24 : K.lookup f24 = some ⟨oc24, od24, .func (PySem.W.fnOf "are_movers" "are_movers" (defArgs s_are_movers) (defBody s_are_movers) (defScope s_are_movers) .none kV24 dc24 pm24 an24 cd24 ct24), sl24⟩) (c24 : PySem.W.codeIn K cd24 "are_movers" = true) (k24 : PySem.W.keepIn K (.ref f24) = true)
    (a25 : PySem.W.nsIn K mainGlobals "is_hue" = some (some (.ref f25))) (l25 : K.lookup f25 = some ⟨oc25, od25, .func (PySem.W.fnOf "is_hue" "is_hue" (defArgs s_is_hue) (defBody s_is_hue) (defScope s_is_hue) .none kV25 dc25 pm25 an25 cd25 ct25), sl25⟩) (c25 : PySem.W.codeIn K cd25 "is_hue" = true) (k25 : PySem.W.keepIn K (.ref f25) = true)
    (a26 : PySem.W.nsIn K mainGlobals "are_pots" = some (some (.ref f26))) (l26 : K.lookup f26 = some ⟨oc26, od26, .func (PySem.W.fnOf "are_pots" "are_pots" (defArgs s_are_pots) (defBody s_are_pots) (defScope s_are_pots) .none kV26 dc26 pm26 an26 cd26 ct26), sl26⟩) (c26 : PySem.W.codeIn K cd26 "are_pots" = true) (k26 : PySem.W.keepIn K (.ref f26) = true)
    (a27 : PySem.W.nsIn K mainGlobals "is_stand" = some (some (.ref f27))) (l27 : K.lookup f27 = some ⟨oc27, od27, .func (PySem.W.fnOf "is_stand" "is_stand" (defArgs s_is_stand) (defBody s_is_stand) (defScope s_is_stand) .none kV27 dc27 pm27 an27 cd27 ct27), sl27⟩) (c27 : PySem.W.codeIn K cd27 "is_stand" = true) (k27 : PySem.W.keepIn K (.ref f27) = true)
    (a28 : PySem.W.nsIn K mainGlobals "check_begin" = some (some (.ref f28))) (l28 : K.lookup f28 = some ⟨oc28, od28, .func (PySem.W.fnOf "check_begin" "check_begin" (defArgs s_check_begin) (defBody s_check_begin) (defScope s_check_begin) .none kV28 dc28 pm28 an28 cd28 ct28), sl28⟩) (c28 : PySem.W.codeIn K cd28 "check_begin" = true) (k28 : PySem.W.keepIn K (.ref f28) = true)
    (a29 : PySem.W.nsIn K mainGlobals "is_mover_deed" = some (some (.ref f29))) (l29 : K.lookup f29 = some ⟨oc29, od29, .func (PySem.W.fnOf "is_mover_deed" "is_mover_deed" (defArgs s_is_mover_deed) (defBody s_is_mover_deed) (defScope s_is_mover_deed) .none kV29 dc29 pm29 an29 cd29 ct29), sl29⟩) (c29 : PySem.W.codeIn K cd29 "is_mover_deed" = true) (k29 : PySem.W.keepIn K (.ref f29) = true)
    (a30 : PySem.W.nsIn K mainGlobals "is_deed" = some (some (.ref f30))) (l30 : K.lookup f30 = some ⟨oc30, od30, .func (PySem.W.fnOf "is_deed" "is_deed" (defArgs s_is_deed) (defBody s_is_deed) (defScope s_is_deed) .none kV30 dc30 pm30 an30 cd30 ct30), sl30⟩) (c30 : PySem.W.codeIn K cd30 "is_deed" = true) (k30 : PySem.W.keepIn K (.ref f30) = true)
    (a31 : PySem.W.nsIn K mainGlobals "is_line" = some (some (.ref f31))) (l31 : K.lookup f31 = some ⟨oc31, od31, .func (PySem.W.fnOf "is_line" "is_line" (defArgs s_is_line) (defBody s_is_line) (defScope s_is_line) .none kV31 dc31 pm31 an31 cd31 ct31), sl31⟩) (c31 : PySem.W.codeIn K cd31 "is_line" = true) (k31 : PySem.W.keepIn K (.ref f31) = true)
    (a32 : PySem.W.nsIn K mainGlobals "is_score" = some (some (.ref f32))) (l32 : K.lookup f32 = some ⟨oc32, od32, .func (PySem.W.fnOf "is_score" "is_score" (defArgs s_is_score) (defBody s_is_score) (defScope s_is_score) .none kV32 dc32 pm32 an32 cd32 ct32), sl32⟩) (c32 : PySem.W.codeIn K cd32 "is_score" = true) (k32 : PySem.W.keepIn K (.ref f32) = true)
    (a33 : PySem.W.nsIn K mainGlobals "row_ticks" = some (some (.ref f33))) (l33 : K.lookup f33 = some ⟨oc33, od33, .func (PySem.W.fnOf "row_ticks" "row_ticks" (defArgs s_row_ticks) (defBody s_row_ticks) (defScope s_row_ticks) .none kV33 dc33 pm33 an33 cd33 ct33), sl33⟩) (c33 : PySem.W.codeIn K cd33 "row_ticks" = true) (k33 : PySem.W.keepIn K (.ref f33) = true)
    (a34 : PySem.W.nsIn K mainGlobals "tick_named" = some (some (.ref f34))) (l34 : K.lookup f34 = some ⟨oc34, od34, .func (PySem.W.fnOf "tick_named" "tick_named" (defArgs s_tick_named) (defBody s_tick_named) (defScope s_tick_named) .none kV34 dc34 pm34 an34 cd34 ct34), sl34⟩) (c34 : PySem.W.codeIn K cd34 "tick_named" = true) (k34 : PySem.W.keepIn K (.ref f34) = true)
    (a35 : PySem.W.nsIn K mainGlobals "tick_of_line" = some (some (.ref f35))) (l35 : K.lookup f35 = some ⟨oc35, od35, .func (PySem.W.fnOf "tick_of_line" "tick_of_line" (defArgs s_tick_of_line) (defBody s_tick_of_line) (defScope s_tick_of_line) .none kV35 dc35 pm35 an35 cd35 ct35), sl35⟩) (c35 : PySem.W.codeIn K cd35 "tick_of_line" = true) (k35 : PySem.W.keepIn K (.ref f35) = true)
    (a36 : PySem.W.nsIn K mainGlobals "place_behind" = some (some (.ref f36))) (l36 : K.lookup f36 = some ⟨oc36, od36, .func (PySem.W.fnOf "place_behind" "place_behind" (defArgs s_place_behind) (defBody s_place_behind) (defScope s_place_behind) .none kV36 dc36 pm36 an36 cd36 ct36), sl36⟩) (c36 : PySem.W.codeIn K cd36 "place_behind" = true) (k36 : PySem.W.keepIn K (.ref f36) = true)
    (a37 : PySem.W.nsIn K mainGlobals "ticks_of" = some (some (.ref f37))) (l37 : K.lookup f37 = some ⟨oc37, od37, .func (PySem.W.fnOf "ticks_of" "ticks_of" (defArgs s_ticks_of) (defBody s_ticks_of) (defScope s_ticks_of) .none kV37 dc37 pm37 an37 cd37 ct37), sl37⟩) (c37 : PySem.W.codeIn K cd37 "ticks_of" = true) (k37 : PySem.W.keepIn K (.ref f37) = true)
    (a38 : PySem.W.nsIn K mainGlobals "deeds_by" = some (some (.ref f38))) (l38 : K.lookup f38 = some ⟨oc38, od38, .func (PySem.W.fnOf "deeds_by" "deeds_by" (defArgs s_deeds_by) (defBody s_deeds_by) (defScope s_deeds_by) .none kV38 dc38 pm38 an38 cd38 ct38), sl38⟩) (c38 : PySem.W.codeIn K cd38 "deeds_by" = true) (k38 : PySem.W.keepIn K (.ref f38) = true)
    (a39 : PySem.W.nsIn K mainGlobals "law" = some (some (.ref f39))) (l39 : K.lookup f39 = some ⟨oc39, od39, .func (PySem.W.fnOf "law" "law" (defArgs s_law) (defBody s_law) (defScope s_law) .none kV39 dc39 pm39 an39 cd39 ct39), sl39⟩) (c39 : PySem.W.codeIn K cd39 "law" = true) (k39 : PySem.W.keepIn K (.ref f39) = true)
    (z0 : PySem.W.nsIn K mainGlobals "all" = some none)
    (z1 : PySem.W.nsIn K mainGlobals "bool" = some none)
    (z2 : PySem.W.nsIn K mainGlobals "int" = some none)
    (z3 : PySem.W.nsIn K mainGlobals "isinstance" = some none)
    (z4 : PySem.W.nsIn K mainGlobals "len" = some none)
    (z5 : PySem.W.nsIn K mainGlobals "list" = some none)
    (z6 : PySem.W.nsIn K mainGlobals "max" = some none)
    (z7 : PySem.W.nsIn K mainGlobals "min" = some none)
    (z8 : PySem.W.nsIn K mainGlobals "range" = some none)
    (z9 : PySem.W.nsIn K mainGlobals "tuple" = some none)
    (sp : PySem.W.specialIn K (.builtin "object.__class__") "__get__" = some (some (.builtin "getset_descriptor.__get__"))) (tk : PySem.W.takesIn K (.builtin "object.__class__") = some true)
    (q_NoFrame : PySem.W.nsIn K mainGlobals "NoFrame" = some (some (.ref C_NoFrame))) (cl_NoFrame : PySem.W.isClsIn K C_NoFrame = true) (ca_NoFrame : PySem.W.findIn K (.ref C_NoFrame) "__class__" = some (some (.builtin "object.__class__"))) (ob_NoFrame : PySem.W.mroIn K C_NoFrame (.type "object") = some true) (ga_NoFrame : PySem.W.findIn K (.ref C_NoFrame) "__getattribute__" = some (some (.builtin "BaseException.__getattribute__"))) (gh_NoFrame : PySem.W.findIn K (.ref C_NoFrame) "__getattr__" = some none) (be_NoFrame : PySem.W.mroIn K C_NoFrame (.type "BaseException") = some true) (ex_NoFrame : PySem.W.excIn K C_NoFrame bmVE "ValueError.__new__" = true) (ty_NoFrame : PySem.W.typeIn K (.ref C_NoFrame) = some (.type "type")) (sf_NoFrame : PySem.W.mroIn K C_NoFrame (.ref C_NoFrame) = some true)
    (q_NoScore : PySem.W.nsIn K mainGlobals "NoScore" = some (some (.ref C_NoScore))) (cl_NoScore : PySem.W.isClsIn K C_NoScore = true) (ca_NoScore : PySem.W.findIn K (.ref C_NoScore) "__class__" = some (some (.builtin "object.__class__"))) (ob_NoScore : PySem.W.mroIn K C_NoScore (.type "object") = some true) (ga_NoScore : PySem.W.findIn K (.ref C_NoScore) "__getattribute__" = some (some (.builtin "BaseException.__getattribute__"))) (gh_NoScore : PySem.W.findIn K (.ref C_NoScore) "__getattr__" = some none) (be_NoScore : PySem.W.mroIn K C_NoScore (.type "BaseException") = some true) (ex_NoScore : PySem.W.excIn K C_NoScore bmVE "ValueError.__new__" = true) (ty_NoScore : PySem.W.typeIn K (.ref C_NoScore) = some (.type "type")) (sf_NoScore : PySem.W.mroIn K C_NoScore (.ref C_NoScore) = some true)
    (q_NoStand : PySem.W.nsIn K mainGlobals "NoStand" = some (some (.ref C_NoStand))) (cl_NoStand : PySem.W.isClsIn K C_NoStand = true) (ca_NoStand : PySem.W.findIn K (.ref C_NoStand) "__class__" = some (some (.builtin "object.__class__"))) (ob_NoStand : PySem.W.mroIn K C_NoStand (.type "object") = some true) (ga_NoStand : PySem.W.findIn K (.ref C_NoStand) "__getattribute__" = some (some (.builtin "BaseException.__getattribute__"))) (gh_NoStand : PySem.W.findIn K (.ref C_NoStand) "__getattr__" = some none) (be_NoStand : PySem.W.mroIn K C_NoStand (.type "BaseException") = some true) (ex_NoStand : PySem.W.excIn K C_NoStand bmVE "ValueError.__new__" = true) (ty_NoStand : PySem.W.typeIn K (.ref C_NoStand) = some (.type "type")) (sf_NoStand : PySem.W.mroIn K C_NoStand (.ref C_NoStand) = some true)
    (v_MOST_LINES : PySem.W.nsIn K mainGlobals "MOST_LINES" = some (some (.int 100 tk_MOST_LINES))) :
    ∃ fd : FuncData, (∀ (s : Shared) (v : Value), BindsTo s fd ⟨[v], []⟩ [("script", v)]) ∧ ∀ base : Heap, K.In base → base.Ns mainGlobals mg → FnOk l.prog w K mg base (CXd l.prog w) 11 fa fd ["script"] (spD K 1 F_law) := by
  have e := hfa.symm.trans (PySem.W.mg_of X G a39)
  cases e
  let ad : Ad := ⟨f0, PySem.W.fnOf "_law_draw" "_law_draw" (defArgs s__law_draw) (defBody s__law_draw) (defScope s__law_draw) .none kV0 dc0 pm0 an0 cd0 ct0, f1, PySem.W.fnOf "_law_size" "_law_size" (defArgs s__law_size) (defBody s__law_size) (defScope s__law_size) .none kV1 dc1 pm1 an1 cd1 ct1, f2, PySem.W.fnOf "_law_frame" "_law_frame" (defArgs s__law_frame) (defBody s__law_frame) (defScope s__law_frame) .none kV2 dc2 pm2 an2 cd2 ct2, f3, PySem.W.fnOf "_law_inks" "_law_inks" (defArgs s__law_inks) (defBody s__law_inks) (defScope s__law_inks) .none kV3 dc3 pm3 an3 cd3 ct3, f4, PySem.W.fnOf "_law_inked" "_law_inked" (defArgs s__law_inked) (defBody s__law_inked) (defScope s__law_inked) .none kV4 dc4 pm4 an4 cd4 ct4, f5, PySem.W.fnOf "_law_far" "_law_far" (defArgs s__law_far) (defBody s__law_far) (defScope s__law_far) .none kV5 dc5 pm5 an5 cd5 ct5, f6, PySem.W.fnOf "_law_mover" "_law_mover" (defArgs s__law_mover) (defBody s__law_mover) (defScope s__law_mover) .none kV6 dc6 pm6 an6 cd6 ct6, f7, PySem.W.fnOf "_law_stand" "_law_stand" (defArgs s__law_stand) (defBody s__law_stand) (defScope s__law_stand) .none kV7 dc7 pm7 an7 cd7 ct7, f8, PySem.W.fnOf "_law_deed" "_law_deed" (defArgs s__law_deed) (defBody s__law_deed) (defScope s__law_deed) .none kV8 dc8 pm8 an8 cd8 ct8, f9, PySem.W.fnOf "_law_score" "_law_score" (defArgs s__law_score) (defBody s__law_score) (defScope s__law_score) .none kV9 dc9 pm9 an9 cd9 ct9, f10, PySem.W.fnOf "_law_hand" "_law_hand" (defArgs s__law_hand) (defBody s__law_hand) (defScope s__law_hand) .none kV10 dc10 pm10 an10 cd10 ct10, f11, PySem.W.fnOf "is_whole" "is_whole" (defArgs s_is_whole) (defBody s_is_whole) (defScope s_is_whole) .none kV11 dc11 pm11 an11 cd11 ct11, f12, PySem.W.fnOf "is_within" "is_within" (defArgs s_is_within) (defBody s_is_within) (defScope s_is_within) .none kV12 dc12 pm12 an12 cd12 ct12, f13, PySem.W.fnOf "is_frame" "is_frame" (defArgs s_is_frame) (defBody s_is_frame) (defScope s_is_frame) .none kV13 dc13 pm13 an13 cd13 ct13, f14, PySem.W.fnOf "is_ink" "is_ink" (defArgs s_is_ink) (defBody s_is_ink) (defScope s_is_ink) .none kV14 dc14 pm14 an14 cd14 ct14, f15, PySem.W.fnOf "is_ink_row" "is_ink_row" (defArgs s_is_ink_row) (defBody s_is_ink_row) (defScope s_is_ink_row) .none kV15 dc15 pm15 an15 cd15 ct15, f16, PySem.W.fnOf "is_ink_block" "is_ink_block" (defArgs s_is_ink_block) (defBody s_is_ink_block) (defScope s_is_ink_block) .none kV16 dc16 pm16 an16 cd16 ct16, f17, PySem.W.fnOf "is_shape" "is_shape" (defArgs s_is_shape) (defBody s_is_shape) (defScope s_is_shape) .none kV17 dc17 pm17 an17 cd17 ct17, f18, PySem.W.fnOf "is_book" "is_book" (defArgs s_is_book) (defBody s_is_book) (defScope s_is_book) .none kV18 dc18 pm18 an18 cd18 ct18, f19, PySem.W.fnOf "is_shape_number" "is_shape_number" (defArgs s_is_shape_number) (defBody s_is_shape_number) (defScope s_is_shape_number) .none kV19 dc19 pm19 an19 cd19 ct19, f20, PySem.W.fnOf "is_place_pair" "is_place_pair" (defArgs s_is_place_pair) (defBody s_is_place_pair) (defScope s_is_place_pair) .none kV20 dc20 pm20 an20 cd20 ct20, f21, PySem.W.fnOf "is_rank" "is_rank" (defArgs s_is_rank) (defBody s_is_rank) (defScope s_is_rank) .none kV21 dc21 pm21 an21 cd21 ct21, f22, PySem.W.fnOf "is_turn" "is_turn" (defArgs s_is_turn) (defBody s_is_turn) (defScope s_is_turn) .none kV22 dc22 pm22 an22 cd22 ct22, f23, PySem.W.fnOf "is_mover" "is_mover" (defArgs s_is_mover) (defBody s_is_mover) (defScope s_is_mover) .none kV23 dc23 pm23 an23 cd23 ct23, f24, PySem.W.fnOf "are_movers" "are_movers" (defArgs s_are_movers) (defBody s_are_movers) (defScope s_are_movers) .none kV24 dc24 pm24 an24 cd24 ct24, f25, PySem.W.fnOf "is_hue" "is_hue" (defArgs s_is_hue) (defBody s_is_hue) (defScope s_is_hue) .none kV25 dc25 pm25 an25 cd25 ct25, f26, PySem.W.fnOf "are_pots" "are_pots" (defArgs s_are_pots) (defBody s_are_pots) (defScope s_are_pots) .none kV26 dc26 pm26 an26 cd26 ct26, f27, PySem.W.fnOf "is_stand" "is_stand" (defArgs s_is_stand) (defBody s_is_stand) (defScope s_is_stand) .none kV27 dc27 pm27 an27 cd27 ct27, f28, PySem.W.fnOf "check_begin" "check_begin" (defArgs s_check_begin) (defBody s_check_begin) (defScope s_check_begin) .none kV28 dc28 pm28 an28 cd28 ct28, f29, PySem.W.fnOf "is_mover_deed" "is_mover_deed" (defArgs s_is_mover_deed) (defBody s_is_mover_deed) (defScope s_is_mover_deed) .none kV29 dc29 pm29 an29 cd29 ct29, f30, PySem.W.fnOf "is_deed" "is_deed" (defArgs s_is_deed) (defBody s_is_deed) (defScope s_is_deed) .none kV30 dc30 pm30 an30 cd30 ct30, f31, PySem.W.fnOf "is_line" "is_line" (defArgs s_is_line) (defBody s_is_line) (defScope s_is_line) .none kV31 dc31 pm31 an31 cd31 ct31, f32, PySem.W.fnOf "is_score" "is_score" (defArgs s_is_score) (defBody s_is_score) (defScope s_is_score) .none kV32 dc32 pm32 an32 cd32 ct32, f33, PySem.W.fnOf "row_ticks" "row_ticks" (defArgs s_row_ticks) (defBody s_row_ticks) (defScope s_row_ticks) .none kV33 dc33 pm33 an33 cd33 ct33, f34, PySem.W.fnOf "tick_named" "tick_named" (defArgs s_tick_named) (defBody s_tick_named) (defScope s_tick_named) .none kV34 dc34 pm34 an34 cd34 ct34, f35, PySem.W.fnOf "tick_of_line" "tick_of_line" (defArgs s_tick_of_line) (defBody s_tick_of_line) (defScope s_tick_of_line) .none kV35 dc35 pm35 an35 cd35 ct35, f36, PySem.W.fnOf "place_behind" "place_behind" (defArgs s_place_behind) (defBody s_place_behind) (defScope s_place_behind) .none kV36 dc36 pm36 an36 cd36 ct36, f37, PySem.W.fnOf "ticks_of" "ticks_of" (defArgs s_ticks_of) (defBody s_ticks_of) (defScope s_ticks_of) .none kV37 dc37 pm37 an37 cd37 ct37, f38, PySem.W.fnOf "deeds_by" "deeds_by" (defArgs s_deeds_by) (defBody s_deeds_by) (defScope s_deeds_by) .none kV38 dc38 pm38 an38 cd38 ct38, fa, PySem.W.fnOf "law" "law" (defArgs s_law) (defBody s_law) (defScope s_law) .none kV39 dc39 pm39 an39 cd39 ct39, C_NoFrame, C_NoScore, C_NoStand⟩
  have T : Tx K mg ad := ⟨⟨fun_mk (st := s__law_draw) l0 c0 k0, PySem.W.mg_of X G a0, (fun_mk (st := s__law_draw) l0 c0 k0).binds fun _ _ _ _ _ _ us hl => match us, hl with | [_, _], _ => rfl⟩,
    ⟨fun_mk (st := s__law_size) l1 c1 k1, PySem.W.mg_of X G a1, (fun_mk (st := s__law_size) l1 c1 k1).binds fun _ _ _ _ _ _ us hl => match us, hl with | [_, _], _ => rfl⟩,
    ⟨fun_mk (st := s__law_frame) l2 c2 k2, PySem.W.mg_of X G a2, (fun_mk (st := s__law_frame) l2 c2 k2).binds fun _ _ _ _ _ _ us hl => match us, hl with | [_, _], _ => rfl⟩,
    ⟨fun_mk (st := s__law_inks) l3 c3 k3, PySem.W.mg_of X G a3, (fun_mk (st := s__law_inks) l3 c3 k3).binds fun _ _ _ _ _ _ us hl => match us, hl with | [_, _, _], _ => rfl⟩,
    ⟨fun_mk (st := s__law_inked) l4 c4 k4, PySem.W.mg_of X G a4, (fun_mk (st := s__law_inked) l4 c4 k4).binds fun _ _ _ _ _ _ us hl => match us, hl with | [_, _], _ => rfl⟩,
    ⟨fun_mk (st := s__law_far) l5 c5 k5, PySem.W.mg_of X G a5, (fun_mk (st := s__law_far) l5 c5 k5).binds fun _ _ _ _ _ _ us hl => match us, hl with | [_, _], _ => rfl⟩,
    ⟨fun_mk (st := s__law_mover) l6 c6 k6, PySem.W.mg_of X G a6, (fun_mk (st := s__law_mover) l6 c6 k6).binds fun _ _ _ _ _ _ us hl => match us, hl with | [_, _, _], _ => rfl⟩,
    ⟨fun_mk (st := s__law_stand) l7 c7 k7, PySem.W.mg_of X G a7, (fun_mk (st := s__law_stand) l7 c7 k7).binds fun _ _ _ _ _ _ us hl => match us, hl with | [_, _, _], _ => rfl⟩,
    ⟨fun_mk (st := s__law_deed) l8 c8 k8, PySem.W.mg_of X G a8, (fun_mk (st := s__law_deed) l8 c8 k8).binds fun _ _ _ _ _ _ us hl => match us, hl with | [_, _, _], _ => rfl⟩,
    ⟨fun_mk (st := s__law_score) l9 c9 k9, PySem.W.mg_of X G a9, (fun_mk (st := s__law_score) l9 c9 k9).binds fun _ _ _ _ _ _ us hl => match us, hl with | [_, _, _], _ => rfl⟩,
    ⟨fun_mk (st := s__law_hand) l10 c10 k10, PySem.W.mg_of X G a10, (fun_mk (st := s__law_hand) l10 c10 k10).binds fun _ _ _ _ _ _ us hl => match us, hl with | [_, _, _], _ => rfl⟩,
    ⟨fun_mk (st := s_is_whole) l11 c11 k11, PySem.W.mg_of X G a11, (fun_mk (st := s_is_whole) l11 c11 k11).binds fun _ _ _ _ _ _ us hl => match us, hl with | [_], _ => rfl⟩,
    ⟨fun_mk (st := s_is_within) l12 c12 k12, PySem.W.mg_of X G a12, (fun_mk (st := s_is_within) l12 c12 k12).binds fun _ _ _ _ _ _ us hl => match us, hl with | [_, _, _], _ => rfl⟩,
    ⟨fun_mk (st := s_is_frame) l13 c13 k13, PySem.W.mg_of X G a13, (fun_mk (st := s_is_frame) l13 c13 k13).binds fun _ _ _ _ _ _ us hl => match us, hl with | [_], _ => rfl⟩,
    ⟨fun_mk (st := s_is_ink) l14 c14 k14, PySem.W.mg_of X G a14, (fun_mk (st := s_is_ink) l14 c14 k14).binds fun _ _ _ _ _ _ us hl => match us, hl with | [_], _ => rfl⟩,
    ⟨fun_mk (st := s_is_ink_row) l15 c15 k15, PySem.W.mg_of X G a15, (fun_mk (st := s_is_ink_row) l15 c15 k15).binds fun _ _ _ _ _ _ us hl => match us, hl with | [_], _ => rfl⟩,
    ⟨fun_mk (st := s_is_ink_block) l16 c16 k16, PySem.W.mg_of X G a16, (fun_mk (st := s_is_ink_block) l16 c16 k16).binds fun _ _ _ _ _ _ us hl => match us, hl with | [_, _], _ => rfl⟩,
    ⟨fun_mk (st := s_is_shape) l17 c17 k17, PySem.W.mg_of X G a17, (fun_mk (st := s_is_shape) l17 c17 k17).binds fun _ _ _ _ _ _ us hl => match us, hl with | [_], _ => rfl⟩,
    ⟨fun_mk (st := s_is_book) l18 c18 k18, PySem.W.mg_of X G a18, (fun_mk (st := s_is_book) l18 c18 k18).binds fun _ _ _ _ _ _ us hl => match us, hl with | [_], _ => rfl⟩,
    ⟨fun_mk (st := s_is_shape_number) l19 c19 k19, PySem.W.mg_of X G a19, (fun_mk (st := s_is_shape_number) l19 c19 k19).binds fun _ _ _ _ _ _ us hl => match us, hl with | [_, _], _ => rfl⟩,
    ⟨fun_mk (st := s_is_place_pair) l20 c20 k20, PySem.W.mg_of X G a20, (fun_mk (st := s_is_place_pair) l20 c20 k20).binds fun _ _ _ _ _ _ us hl => match us, hl with | [_], _ => rfl⟩,
    ⟨fun_mk (st := s_is_rank) l21 c21 k21, PySem.W.mg_of X G a21, (fun_mk (st := s_is_rank) l21 c21 k21).binds fun _ _ _ _ _ _ us hl => match us, hl with | [_], _ => rfl⟩,
    ⟨fun_mk (st := s_is_turn) l22 c22 k22, PySem.W.mg_of X G a22, (fun_mk (st := s_is_turn) l22 c22 k22).binds fun _ _ _ _ _ _ us hl => match us, hl with | [_], _ => rfl⟩,
    ⟨fun_mk (st := s_is_mover) l23 c23 k23, PySem.W.mg_of X G a23, (fun_mk (st := s_is_mover) l23 c23 k23).binds fun _ _ _ _ _ _ us hl => match us, hl with | [_, _], _ => rfl⟩,
    ⟨fun_mk (st := s_are_movers) l24 c24 k24, PySem.W.mg_of X G a24, (fun_mk (st := s_are_movers) l24 c24 k24).binds fun _ _ _ _ _ _ us hl => match us, hl with | [_, _], _ => rfl⟩,
    ⟨fun_mk (st := s_is_hue) l25 c25 k25, PySem.W.mg_of X G a25, (fun_mk (st := s_is_hue) l25 c25 k25).binds fun _ _ _ _ _ _ us hl => match us, hl with | [_], _ => rfl⟩,
    ⟨fun_mk (st := s_are_pots) l26 c26 k26, PySem.W.mg_of X G a26, (fun_mk (st := s_are_pots) l26 c26 k26).binds fun _ _ _ _ _ _ us hl => match us, hl with | [_], _ => rfl⟩,
    ⟨fun_mk (st := s_is_stand) l27 c27 k27, PySem.W.mg_of X G a27, (fun_mk (st := s_is_stand) l27 c27 k27).binds fun _ _ _ _ _ _ us hl => match us, hl with | [_], _ => rfl⟩,
    ⟨fun_mk (st := s_check_begin) l28 c28 k28, PySem.W.mg_of X G a28, (fun_mk (st := s_check_begin) l28 c28 k28).binds fun _ _ _ _ _ _ us hl => match us, hl with | [_, _], _ => rfl⟩,
    ⟨fun_mk (st := s_is_mover_deed) l29 c29 k29, PySem.W.mg_of X G a29, (fun_mk (st := s_is_mover_deed) l29 c29 k29).binds fun _ _ _ _ _ _ us hl => match us, hl with | [_, _, _], _ => rfl⟩,
    ⟨fun_mk (st := s_is_deed) l30 c30 k30, PySem.W.mg_of X G a30, (fun_mk (st := s_is_deed) l30 c30 k30).binds fun _ _ _ _ _ _ us hl => match us, hl with | [_, _], _ => rfl⟩,
    ⟨fun_mk (st := s_is_line) l31 c31 k31, PySem.W.mg_of X G a31, (fun_mk (st := s_is_line) l31 c31 k31).binds fun _ _ _ _ _ _ us hl => match us, hl with | [_, _, _], _ => rfl⟩,
    ⟨fun_mk (st := s_is_score) l32 c32 k32, PySem.W.mg_of X G a32, (fun_mk (st := s_is_score) l32 c32 k32).binds fun _ _ _ _ _ _ us hl => match us, hl with | [_, _], _ => rfl⟩,
    ⟨fun_mk (st := s_row_ticks) l33 c33 k33, PySem.W.mg_of X G a33, (fun_mk (st := s_row_ticks) l33 c33 k33).binds fun _ _ _ _ _ _ us hl => match us, hl with | [_], _ => rfl⟩,
    ⟨fun_mk (st := s_tick_named) l34 c34 k34, PySem.W.mg_of X G a34, (fun_mk (st := s_tick_named) l34 c34 k34).binds fun _ _ _ _ _ _ us hl => match us, hl with | [_, _], _ => rfl⟩,
    ⟨fun_mk (st := s_tick_of_line) l35 c35 k35, PySem.W.mg_of X G a35, (fun_mk (st := s_tick_of_line) l35 c35 k35).binds fun _ _ _ _ _ _ us hl => match us, hl with | [_, _, _], _ => rfl⟩,
    ⟨fun_mk (st := s_place_behind) l36 c36 k36, PySem.W.mg_of X G a36, (fun_mk (st := s_place_behind) l36 c36 k36).binds fun _ _ _ _ _ _ us hl => match us, hl with | [_, _, _, _], _ => rfl⟩,
    ⟨fun_mk (st := s_ticks_of) l37 c37 k37, PySem.W.mg_of X G a37, (fun_mk (st := s_ticks_of) l37 c37 k37).binds fun _ _ _ _ _ _ us hl => match us, hl with | [_], _ => rfl⟩,
    ⟨fun_mk (st := s_deeds_by) l38 c38 k38, PySem.W.mg_of X G a38, (fun_mk (st := s_deeds_by) l38 c38 k38).binds fun _ _ _ _ _ _ us hl => match us, hl with | [_, _, _, _], _ => rfl⟩,
    ⟨fun_mk (st := s_law) l39 c39 k39, PySem.W.mg_of X G a39, (fun_mk (st := s_law) l39 c39 k39).binds fun _ _ _ _ _ _ us hl => match us, hl with | [_], _ => rfl⟩,
    PySem.W.mg_none_of X G z0,
    PySem.W.mg_none_of X G z1,
    PySem.W.mg_none_of X G z2,
    PySem.W.mg_none_of X G z3,
    PySem.W.mg_none_of X G z4,
    PySem.W.mg_none_of X G z5,
    PySem.W.mg_none_of X G z6,
    PySem.W.mg_none_of X G z7,
    PySem.W.mg_none_of X G z8,
    PySem.W.mg_none_of X G z9,
    ⟨q_NoFrame, PySem.W.mg_of X G q_NoFrame, ⟨cl_NoFrame, ca_NoFrame, sp, tk, ob_NoFrame, ga_NoFrame, gh_NoFrame, be_NoFrame⟩, ex_NoFrame, ty_NoFrame, sf_NoFrame⟩,
    ⟨q_NoScore, PySem.W.mg_of X G q_NoScore, ⟨cl_NoScore, ca_NoScore, sp, tk, ob_NoScore, ga_NoScore, gh_NoScore, be_NoScore⟩, ex_NoScore, ty_NoScore, sf_NoScore⟩,
    ⟨q_NoStand, PySem.W.mg_of X G q_NoStand, ⟨cl_NoStand, ca_NoStand, sp, tk, ob_NoStand, ga_NoStand, gh_NoStand, be_NoStand⟩, ex_NoStand, ty_NoStand, sf_NoStand⟩,
    ⟨_, PySem.W.mg_of X G v_MOST_LINES⟩⟩
  exact ⟨ad.d_law, fun s v => .of_eq rfl, fun base _ _ => ok_law T⟩
end K26

set_option Elab.async false
set_option linter.all false
set_option maxRecDepth 100000
set_option maxHeartbeats 4000000
set_option autoImplicit false
namespace K26
open PySem PySem.Spec PyProof.Rows L2 DL
local macro_rules | `(tactic| simp_arith [$args,*] $[$loc]?) => `(tactic| simp [sSeq, sSet, sIf, sRet, sSub, sDrop, sNext, sAsg, gVar, gC, DL.g2, gCall, gBlt, DL.gCons, DL.gNil, gTst, asB, gTru, truD, gOrT, gAndT, gNotT, gAnd, gOr, gNot, gIfE, DL.gTup, gLst, gMut, mkTup, mkLst, mkMut, gNeg, gRev, gCh, gIsi, tyD, subT, retOf, runD, rho0, setD, addD, subD, mulD, fdivD, modD, powD, ltD, leD, gtD, geD, ixD, itemsOf, lenF, minF, maxF, intF, listF, tupleF, allF, gIts, itsOf, gRng1, gRng2, oneN, tupN, manyN, gPart, gNoPart, gSl, sliceD, inOp, flatD, isOp, isP, gAll, sRaise, gIsx, okL, divF, gFmt, fmtD, joinG, gMeth, countF, indexF, lstOf, appD, gApp, addM, listM, sTry, unb, tyM, mlOf, objOf, gFld, setF, sFldD, gMth, gMake, putFD, sAug, augI, gClr, gPopL, sliceM, gSlM, tupG, manyG, gEnum, enOf, sPar, sSlc, slcGo, setSlD, gDix, gMinK, minK, exD, maxF1, gMethS, findF, indexSF, splitF, splitM, joinF, ixA, inA, gItsA, itsA, listA, listMA, gMM, lsM, $args,*] $[$loc]?)
/-! the tape -/
def tp (l : List Int) (i c : Int) : MO := .lst [.lst (l.map D.int), .int i, .int c]
/-- the tape lies first, the rest stays -/
def Tape (l : List Int) (rest : Mem) (M : Mem) : Prop := ∃ i c, 0 ≤ i ∧ M = tp l i c :: rest
def mixI (v i : Int) : Int :=
  ((((v + 1000003 * i) % 2305843009213693951 * ((v + 1000003 * i) % 2305843009213693951) + 1181783497276652981 * ((v + 1000003 * i) % 2305843009213693951) + 2049848353892358983) % 2305843009213693951) *
    (((v + 1000003 * i) % 2305843009213693951 * ((v + 1000003 * i) % 2305843009213693951) + 1181783497276652981 * ((v + 1000003 * i) % 2305843009213693951) + 2049848353892358983) % 2305843009213693951) + 1442695040888963407) % 2305843009213693951
theorem atI_ints {l : List Int} {k : Int} (h0 : 0 ≤ k) (h1 : k < l.length) : ∃ v, atI (l.map D.int) k = some (.int v) := by
  obtain ⟨n, rfl⟩ := Int.eq_ofNat_of_zero_le h0
  have hn : n < l.length := by omega
  exact ⟨l[n], atI_nat (by simp [hn])⟩
set_option maxRecDepth 100000 in
theorem draw_ok {l : List Int} {rest M : Mem} {many : Int} (hm : 0 < many) (hlog : many.natAbs.log2 < 9000) (h : Tape l rest M) :
    ∃ f M', 0 ≤ f ∧ f < many ∧ Tape l rest M' ∧ F__law_draw [.mr 0, .int many] M = .ok (.int f) M' := by
  obtain ⟨i, c, hi, rfl⟩ := h
  have hp : (0 : Int) < 2305843009213693951 := by decide
  have fin : ∀ c' i', 0 ≤ i' → ∃ f M', 0 ≤ f ∧ f < many ∧ Tape l rest M' ∧ (Out.ok (D.int (c' % many)) (tp l i' (c' / many) :: rest) : Out D) = .ok (.int f) M' := fun c' i' hi' =>
    ⟨c' % many, _, Int.emod_nonneg _ (by omega), Int.emod_lt_of_pos _ hm, ⟨i', c' / many, hi', rfl⟩, rfl⟩
  have i0 : ixN 3 0 = some 0 := by decide
  have i1 : ixN 3 1 = some 1 := by decide
  have i2 : ixN 3 2 = some 2 := by decide
  have a0 : ∀ x y z : D, atI [x, y, z] 0 = some x := fun _ _ _ => rfl
  have a1 : ∀ x y z : D, atI [x, y, z] 1 = some y := fun _ _ _ => rfl
  have a2 : ∀ x y z : D, atI [x, y, z] 2 = some z := fun _ _ _ => rfl
  have b1 : ∀ x : Int, -18446744073709551616 < x % 2305843009213693951 ∧ x % 2305843009213693951 < 18446744073709551616 := fun x => by
    have h0 := Int.emod_nonneg x (show (2305843009213693951 : Int) ≠ 0 by decide)
    have h1 := Int.emod_lt_of_pos x hp
    omega
  by_cases h1 : c < many
  · by_cases hl : l = []
    · subst hl
      have e : F__law_draw [.mr 0, .int many] (tp [] i c :: rest) = .ok (.int (mixI 0 i % many)) (tp [] (i + 1) (mixI 0 i / many) :: rest) := by
        unfold F__law_draw g__law_draw
        simp_arith [mixI, tp, a0, a1, a2, i0, i1, i2, h1, hm, hlog, hi, b1]
      rw [e]; exact fin _ _ (by omega)
    · have hl0 : 0 < l.length := List.length_pos_iff.mpr hl
      obtain ⟨v, hv⟩ := atI_ints (l := l) (k := i % l.length) (Int.emod_nonneg _ (by omega)) (Int.emod_lt_of_pos _ (by omega))
      by_cases h2 : (l.length : Int) ≤ i ∨ v < 1000000000000000000
      · have e : F__law_draw [.mr 0, .int many] (tp l i c :: rest) = .ok (.int (mixI v i % many)) (tp l (i + 1) (mixI v i / many) :: rest) := by
          unfold F__law_draw g__law_draw
          rcases h2 with h2 | h2
          · simp_arith [mixI, tp, a0, a1, a2, i0, i1, i2, h1, h2, hm, hlog, hi, b1, hl0, hv]
          · by_cases h3 : (l.length : Int) ≤ i
            · simp_arith [mixI, tp, a0, a1, a2, i0, i1, i2, h1, h2, h3, hm, hlog, hi, b1, hl0, hv]
            · simp_arith [mixI, tp, a0, a1, a2, i0, i1, i2, h1, h2, h3, hm, hlog, hi, b1, hl0, hv]
        rw [e]; exact fin _ _ (by omega)
      · have h3 : ¬ (l.length : Int) ≤ i := fun z => h2 (.inl z)
        have h4 : ¬ v < 1000000000000000000 := fun z => h2 (.inr z)
        have e : F__law_draw [.mr 0, .int many] (tp l i c :: rest) = .ok (.int (v % many)) (tp l (i + 1) (v / many) :: rest) := by
          unfold F__law_draw g__law_draw
          simp_arith [tp, a0, a1, a2, i0, i1, i2, h1, h3, h4, hm, hlog, hi, b1, hl0, hv]
        rw [e]; exact fin _ _ (by omega)
  · have e : F__law_draw [.mr 0, .int many] (tp l i c :: rest) = .ok (.int (c % many)) (tp l i (c / many) :: rest) := by
      unfold F__law_draw g__law_draw
      simp_arith [tp, a0, a1, a2, i0, i1, i2, h1, hm, hlog]
    rw [e]; exact fin _ _ hi
theorem log_small {x : Int} (h0 : 0 < x) (h1 : x ≤ 1000000) : x.natAbs.log2 < 9000 := by
  have h2 : x.natAbs < 2 ^ 20 := by omega
  have h3 : x.natAbs ≠ 0 := by omega
  have := (Nat.log2_lt h3).mpr h2
  omega
theorem size_ok {l : List Int} {rest M : Mem} {most : Int} (hm : 1 ≤ most) (hm2 : most ≤ 1000) (h : Tape l rest M) :
    ∃ f M', 1 ≤ f ∧ f ≤ most ∧ Tape l rest M' ∧ F__law_size [.mr 0, .int most] M = .ok (.int f) M' := by
  have lg : ∀ x : Int, 0 < x → x ≤ 1000 → x.natAbs.log2 < 9000 := fun x h0 h1 => by
    have h2 : x.natAbs < 2 ^ 10 := by omega
    have h3 : x.natAbs ≠ 0 := by omega
    have := (Nat.log2_lt h3).mpr h2
    omega
  have hmin : 0 < (if 6 < most then 6 else most) ∧ (if 6 < most then 6 else most) ≤ most ∧ (if 6 < most then (6 : Int) else most) ≤ 1000 := by split <;> omega
  obtain ⟨f1, M1, a1, b1, t1, e1⟩ := draw_ok hmin.1 (lg _ hmin.1 hmin.2.2) h
  obtain ⟨f2, M2, a2, b2, t2, e2⟩ := draw_ok (many := most) (by omega) (lg _ (by omega) hm2) t1
  obtain ⟨f3, M3, a3, b3, t3, e3⟩ := draw_ok (many := 8) (by decide) (lg _ (by decide) (by decide)) t2
  have l3 : (3 : Nat) ≤ sizeLine := le_line (by decide)
  have hix : 0 ≤ f3 * 3 / 10 ∧ f3 * 3 / 10 < 3 := by omega
  have c3 : Nat.log2 10 < 9000 := by decide
  have c4 : -18446744073709551616 < f3 ∧ f3 < 18446744073709551616 := by omega
  have pick : ∃ f, 1 ≤ f ∧ f ≤ most ∧ ∃ y, f = 1 + y ∧ atI [D.int f1, D.int f2, D.int (most - 1)] (f3 * 3 / 10) = some (.int y) := by
    have : f3 * 3 / 10 = 0 ∨ f3 * 3 / 10 = 1 ∨ f3 * 3 / 10 = 2 := by omega
    rcases this with q | q | q <;> rw [q]
    · exact ⟨1 + f1, by omega, by omega, f1, rfl, rfl⟩
    · exact ⟨1 + f2, by omega, by omega, f2, rfl, rfl⟩
    · exact ⟨1 + (most - 1), by omega, by omega, most - 1, rfl, rfl⟩
  obtain ⟨f, hf1, hf2, y, ey, ha⟩ := pick
  refine ⟨f, M3, hf1, hf2, t3, ?_⟩
  unfold F__law_size g__law_size
  simp_arith [e1, e2, e3, l3, c3, c4, ha, ey]
theorem inks_ok {l : List Int} {rest M : Mem} {wide thin : Int} (hw : 0 ≤ wide) (hw2 : wide ≤ 1000) (ht : 1 ≤ thin) (ht2 : thin ≤ 1000) (h : Tape l rest M) :
    ∃ (ks : List Int) (M' : Mem), (ks.length : Int) = wide ∧ (∀ k ∈ ks, 0 ≤ k ∧ k ≤ 15) ∧ Tape l rest M' ∧ F__law_inks [.mr 0, .int wide, .int thin] M = .ok (.tup (ks.map D.int)) M' := by
  obtain ⟨es, M', t', le, qe, ee⟩ := comp_all (ds0 := rangeD 0 wide.toNat) (ge := e1__law_inks) (ρ := [some (.mr 0), some (.int wide), some (.int thin)])
    (P := Tape l rest) (Q := fun e => ∃ k, e = .int k ∧ 0 ≤ k ∧ k ≤ 15) (rangeD 0 wide.toNat) (fun d hd M hM => by
      obtain ⟨f1, M1, a1, b1, t1, e1⟩ := draw_ok (many := 16) (by decide) (log_small (by decide) (by decide)) hM
      obtain ⟨f2, M2, a2, b2, t2, e2⟩ := draw_ok (many := thin) (by omega) (log_small (by omega) (by omega)) t1
      have c4 : -18446744073709551616 < f1 ∧ f1 < 18446744073709551616 := by omega
      by_cases hz : 0 < f2
      · exact ⟨.int (f1 * 1), M2, t2, ⟨_, rfl, by omega, by omega⟩, by simp_arith [e1__law_inks, e1, e2, c4, hz]⟩
      · exact ⟨.int (f1 * 0), M2, t2, ⟨_, rfl, by omega, by omega⟩, by simp_arith [e1__law_inks, e1, e2, c4, hz]⟩) M h
  obtain ⟨ks, ek, qk⟩ := ints_of qe
  refine ⟨ks, M', ?_, qk, t', ?_⟩
  · have : ks.length = es.length := by rw [ek]; simp
    rw [rangeD_length] at le
    omega
  · have l3 : es.length ≤ sizeLine := by rw [le, rangeD_length]; exact le_line (by omega)
    have l4 : ks.length ≤ sizeLine := by rw [ek] at l3; simpa using l3
    have b1 := fun M => rng1_ok (j := wide) (by omega) M
    unfold F__law_inks g__law_inks
    simp_arith [gComp, b1, ee, l4, ek]
theorem inked_ok {l : List Int} {rest M : Mem} {most : Int} (hm : 1 ≤ most) (hm2 : most ≤ 1000) (h : Tape l rest M) :
    ∃ (rs : List (List Int)) (w : Nat) (M' : Mem), 1 ≤ rs.length ∧ (rs.length : Int) ≤ most ∧ 1 ≤ w ∧ (w : Int) ≤ most ∧ (∀ r ∈ rs, r.length = w ∧ ∀ k ∈ r, 0 ≤ k ∧ k ≤ 15) ∧ Tape l rest M' ∧
      F__law_inked [.mr 0, .int most] M = .ok (.tup (rs.map fun r => D.tup (r.map D.int))) M' := by
  obtain ⟨wide, M1, w1, w2, t1, e1⟩ := size_ok hm hm2 h
  obtain ⟨f4, M2, a2, b2, t2, e2⟩ := draw_ok (many := 4) (by decide) (log_small (by decide) (by decide)) t1
  obtain ⟨high, M3, h1, h2, t3, e3⟩ := size_ok hm hm2 t2
  obtain ⟨es, M', t', le, qe, ee⟩ := comp_all (ds0 := rangeD 0 high.toNat) (ge := e1__law_inked) (ρ := [some (.mr 0), some (.int most), some (.int wide), some (.int (1 + f4))])
    (P := Tape l rest) (Q := fun e => ∃ ks : List Int, e = .tup (ks.map D.int) ∧ (ks.length : Int) = wide ∧ ∀ k ∈ ks, 0 ≤ k ∧ k ≤ 15) (rangeD 0 high.toNat) (fun d hd M hM => by
      obtain ⟨ks, M1, lk, qk, t1, e1⟩ := inks_ok (wide := wide) (thin := 1 + f4) (by omega) (by omega) (by omega) (by omega) hM
      exact ⟨_, M1, t1, ⟨ks, rfl, lk, qk⟩, by simp_arith [e1__law_inked, e1]⟩) M3 t3
  obtain ⟨rs, er, qr⟩ := rows_of qe
  refine ⟨rs, wide.toNat, M', ?_, ?_, by omega, by omega, fun r hr => ⟨by have := (qr r hr).1; omega, (qr r hr).2⟩, t', ?_⟩
  · have : rs.length = es.length := by rw [er]; simp
    rw [rangeD_length] at le
    omega
  · have : rs.length = es.length := by rw [er]; simp
    rw [rangeD_length] at le
    omega
  · have l3 : es.length ≤ sizeLine := by rw [le, rangeD_length]; exact le_line (by omega)
    have l4 : rs.length ≤ sizeLine := by rw [er] at l3; simpa using l3
    have b1 := fun M => rng1_ok (j := high) (by omega) M
    unfold F__law_inked g__law_inked
    simp_arith [gComp, b1, e1, e2, e3, ee, l4, er]
/-! drawn frames -/
theorem frame_ok {l : List Int} {rest M : Mem} {most : Int} (hm : 1 ≤ most) (hm2 : most ≤ 1000) (h : Tape l rest M) :
    ∃ (w hh g m : Int) (M' : Mem), (1 ≤ w ∧ w ≤ most) ∧ (1 ≤ hh ∧ hh ≤ most) ∧ (0 ≤ g ∧ g ≤ 20) ∧ (0 ≤ m ∧ m ≤ 12) ∧ Tape l rest M' ∧ F__law_frame [.mr 0, .int most] M = .ok (.tup [.int w, .int hh, .int g, .int m]) M' := by
  obtain ⟨f1, M1, a1, b1, t1, e1⟩ := draw_ok (many := 21) (by decide) (log_small (by decide) (by decide)) h
  obtain ⟨f2, M2, a2, b2, t2, e2⟩ := draw_ok (many := 2) (by decide) (log_small (by decide) (by decide)) t1
  obtain ⟨w, M3, a3, b3, t3, e3⟩ := size_ok hm hm2 t2
  obtain ⟨hh, M4, a4, b4, t4, e4⟩ := size_ok hm hm2 t3
  obtain ⟨m, M5, a5, b5, t5, e5⟩ := draw_ok (many := 13) (by decide) (log_small (by decide) (by decide)) t4
  have l3 : (2 : Nat) ≤ sizeLine := le_line (by decide)
  have l4 : (4 : Nat) ≤ sizeLine := le_line (by decide)
  have pick : ∃ g, 0 ≤ g ∧ g ≤ 20 ∧ atI [D.int 0, D.int f1] f2 = some (.int g) := by
    have : f2 = 0 ∨ f2 = 1 := by omega
    rcases this with q | q <;> rw [q]
    · exact ⟨0, by omega, by omega, rfl⟩
    · exact ⟨f1, by omega, by omega, rfl⟩
  obtain ⟨g, g1, g2, ha⟩ := pick
  refine ⟨w, hh, g, m, M5, ⟨a3, b3⟩, ⟨a4, b4⟩, ⟨g1, g2⟩, ⟨a5, by omega⟩, t5, ?_⟩
  unfold F__law_frame g__law_frame
  simp_arith [e1, e2, e3, e4, e5, l3, l4, ha]
/-! a place near or far -/
theorem far_ok {l : List Int} {rest M : Mem} {size : Int} (hm : 0 ≤ size) (hm2 : size ≤ 900) (h : Tape l rest M) :
    ∃ (f : Int) (M' : Mem), (-1000 ≤ f ∧ f ≤ 1000) ∧ Tape l rest M' ∧ F__law_far [.mr 0, .int size] M = .ok (.int f) M' := by
  obtain ⟨f1, M1, a1, b1, t1, e1⟩ := draw_ok (many := size + 16) (by omega) (log_small (by omega) (by omega)) h
  obtain ⟨f2, M2, a2, b2, t2, e2⟩ := draw_ok (many := 2001) (by decide) (log_small (by decide) (by decide)) t1
  obtain ⟨f3, M3, a3, b3, t3, e3⟩ := draw_ok (many := 8) (by decide) (log_small (by decide) (by decide)) t2
  have l3 : (2 : Nat) ≤ sizeLine := le_line (by decide)
  have c3 : Nat.log2 7 < 9000 := by decide
  have pick : ∃ g, -1000 ≤ g ∧ g ≤ 1000 ∧ atI [D.int (f1 - 8), D.int (f2 - 1000)] (f3 / 7) = some (.int g) := by
    have : f3 / 7 = 0 ∨ f3 / 7 = 1 := by omega
    rcases this with q | q <;> rw [q]
    · exact ⟨_, by omega, by omega, rfl⟩
    · exact ⟨_, by omega, by omega, rfl⟩
  obtain ⟨g, g1, g2, ha⟩ := pick
  refine ⟨g, M3, ⟨g1, g2⟩, t3, ?_⟩
  unfold F__law_far g__law_far
  simp_arith [e1, e2, e3, l3, c3, ha]
/-! drawn frames and stands -/
/-- a mover: its shape's number, or off; x, y, rank, turn -/
structure Mv where
  shape : Option Nat
  x : Int
  y : Int
  rank : Int
  turn : Int
def Mv.d (m : Mv) : D := .tup [match m.shape with | some k => .int k | none => .non, .int m.x, .int m.y, .int m.rank, .int m.turn]
structure MvOk (n : Nat) (m : Mv) : Prop where
  s : ∀ k, m.shape = some k → k < n
  x : -1000 ≤ m.x ∧ m.x ≤ 1000
  y : -1000 ≤ m.y ∧ m.y ≤ 1000
  r : 0 ≤ m.rank ∧ m.rank ≤ 3
  t : 0 ≤ m.turn ∧ m.turn ≤ 3
theorem mover_ok {l : List Int} {rest M : Mem} {w hh : Int} {more : List D} {n : Nat} (hw : 0 ≤ w ∧ w ≤ 900) (hh2 : 0 ≤ hh ∧ hh ≤ 900) (hn : n ≤ 1000) (h : Tape l rest M) :
    ∃ (m : Mv) (M' : Mem), MvOk n m ∧ Tape l rest M' ∧ F__law_mover [.mr 0, .tup (.int w :: .int hh :: more), .int n] M = .ok m.d M' := by
  have l4 : (5 : Nat) ≤ sizeLine := le_line (by decide)
  have i0 : atI (D.int w :: D.int hh :: more) 0 = some (.int w) := atI_nat (j := 0) rfl
  have i1 : atI (D.int w :: D.int hh :: more) 1 = some (.int hh) := atI_nat (j := 1) rfl
  have go : ∀ (s : Option Nat) (M : Mem), Tape l rest M → (∀ k, s = some k → k < n) → ∃ (m : Mv) (M' : Mem), MvOk n m ∧ m.shape = s ∧ Tape l rest M' ∧
      ∃ M2 M3 M4, F__law_far [.mr 0, .int w] M = .ok (.int m.x) M2 ∧ F__law_far [.mr 0, .int hh] M2 = .ok (.int m.y) M3 ∧ F__law_draw [.mr 0, .int 4] M3 = .ok (.int m.rank) M4 ∧ F__law_draw [.mr 0, .int 4] M4 = .ok (.int m.turn) M' := by
    intro s M h hs
    obtain ⟨x, M2, a2, t2, e2⟩ := far_ok hw.1 hw.2 h
    obtain ⟨y, M3, a3, t3, e3⟩ := far_ok hh2.1 hh2.2 t2
    obtain ⟨r, M4, a4, b4, t4, e4⟩ := draw_ok (many := 4) (by decide) (log_small (by decide) (by decide)) t3
    obtain ⟨t, M5, a5, b5, t5, e5⟩ := draw_ok (many := 4) (by decide) (log_small (by decide) (by decide)) t4
    have r3 : r ≤ 3 := by omega
    have q3 : t ≤ 3 := by omega
    exact ⟨⟨s, x, y, r, t⟩, M5, ⟨hs, a2, a3, ⟨a4, r3⟩, ⟨a5, q3⟩⟩, rfl, t5, M2, M3, M4, e2, e3, e4, e5⟩
  by_cases h0 : 0 < n
  · obtain ⟨f1, M1, a1, b1, t1, e1⟩ := draw_ok (many := 8) (by decide) (log_small (by decide) (by decide)) h
    have h0' : (0 : Int) < n := by omega
    by_cases hf : 0 < f1
    · obtain ⟨f2, M2, a2, b2, t2, e2⟩ := draw_ok (many := (n : Int)) (by omega) (log_small (by omega) (by omega)) t1
      obtain ⟨k, rfl⟩ := Int.eq_ofNat_of_zero_le a2
      obtain ⟨m, M', ok, sm, t', M3, M4, M5, q1, q2, q3, q4⟩ := go (some k) M2 t2 (fun j hj => by cases hj; omega)
      refine ⟨m, M', ok, t', ?_⟩
      unfold F__law_mover g__law_mover
      simp_arith [e1, e2, q1, q2, q3, q4, l4, i0, i1, h0', h0, hf, Mv.d, sm]
    · obtain ⟨m, M', ok, sm, t', M3, M4, M5, q1, q2, q3, q4⟩ := go none M1 t1 (fun j hj => by cases hj)
      refine ⟨m, M', ok, t', ?_⟩
      unfold F__law_mover g__law_mover
      simp_arith [e1, q1, q2, q3, q4, l4, i0, i1, h0', h0, hf, Mv.d, sm]
  · have h0' : ¬ (0 : Int) < n := by omega
    obtain ⟨m, M', ok, sm, t', M3, M4, M5, q1, q2, q3, q4⟩ := go none M h (fun j hj => by cases hj)
    refine ⟨m, M', ok, t', ?_⟩
    unfold F__law_mover g__law_mover
    simp_arith [q1, q2, q3, q4, l4, i0, i1, h0', h0, Mv.d, sm]
theorem map_of {α : Type} {f : α → D} {P : α → Prop} : ∀ {es : List D}, (∀ e ∈ es, ∃ a, e = f a ∧ P a) → ∃ as : List α, es = as.map f ∧ ∀ a ∈ as, P a
  | [], _ => ⟨[], rfl, fun _ z => by cases z⟩
  | e :: es, h => by
    obtain ⟨a, ea, pa⟩ := h e (List.mem_cons_self ..)
    obtain ⟨as, eas, pas⟩ := map_of fun e' he => h e' (List.mem_cons_of_mem _ he)
    refine ⟨a :: as, by rw [ea, eas]; rfl, fun b hb => ?_⟩
    rcases List.mem_cons.mp hb with q | q
    · rw [q]; exact pa
    · exact pas b q
/-- a thing of rows of inks -/
def rowsD (rs : List (List Int)) : D := .tup (rs.map fun r => D.tup (r.map D.int))
def InkedOk (most : Int) (rs : List (List Int)) : Prop := 1 ≤ rs.length ∧ (rs.length : Int) ≤ most ∧ ∃ w : Nat, 1 ≤ w ∧ (w : Int) ≤ most ∧ ∀ r ∈ rs, r.length = w ∧ ∀ k ∈ r, 0 ≤ k ∧ k ≤ 15
structure Stn where
  floor : List (List Int)
  sx : Int
  sy : Int
  book : List (List (List Int))
  movers : List Mv
  pots : List Int
def Stn.d (s : Stn) : D := .tup [rowsD s.floor, .tup [.int s.sx, .int s.sy], .tup (s.book.map rowsD), .tup (s.movers.map Mv.d), .tup (s.pots.map D.int)]
structure StnOk (most : Int) (s : Stn) : Prop where
  floor : InkedOk 16 s.floor
  sx : -1000 ≤ s.sx ∧ s.sx ≤ 1000
  sy : -1000 ≤ s.sy ∧ s.sy ≤ 1000
  bl : s.book.length ≤ 8
  book : ∀ b ∈ s.book, InkedOk 8 b
  ml : (s.movers.length : Int) ≤ most
  movers : ∀ m ∈ s.movers, MvOk s.book.length m
  pl : s.pots.length = 16
  pots : ∀ k ∈ s.pots, 0 ≤ k ∧ k ≤ 63
theorem stand_ok {l : List Int} {rest M : Mem} {w hh : Int} {more : List D} {mm : Int} (hw : 0 ≤ w ∧ w ≤ 900) (hh2 : 0 ≤ hh ∧ hh ≤ 900) (hm : 0 ≤ mm ∧ mm ≤ 900) (h : Tape l rest M) :
    ∃ (s : Stn) (M' : Mem), StnOk mm s ∧ Tape l rest M' ∧ F__law_stand [.mr 0, .tup (.int w :: .int hh :: more), .int mm] M = .ok s.d M' := by
  obtain ⟨fl, fw, M1, f1, f2, f3, f4, f5, t1, e1⟩ := inked_ok (most := 16) (by decide) (by decide) h
  obtain ⟨sx, M2, a2, t2, e2⟩ := far_ok (size := 9) (by decide) (by decide) t1
  obtain ⟨sy, M3, a3, t3, e3⟩ := far_ok (size := 9) (by decide) (by decide) t2
  obtain ⟨d4, M4, a4, b4, t4, e4⟩ := draw_ok (many := 4) (by decide) (log_small (by decide) (by decide)) t3
  obtain ⟨d5, M5, a5, b5, t5, e5⟩ := draw_ok (many := 9) (by decide) (log_small (by decide) (by decide)) t4
  obtain ⟨d6, M6, a6, b6, t6, e6⟩ := draw_ok (many := 4) (by decide) (log_small (by decide) (by decide)) t5
  have l2 : (2 : Nat) ≤ sizeLine := le_line (by decide)
  have l5 : (5 : Nat) ≤ sizeLine := le_line (by decide)
  have c3 : Nat.log2 3 < 9000 := by decide
  have pick : ∃ g, 0 ≤ g ∧ g ≤ 8 ∧ atI [D.int d4, D.int d5] (d6 / 3) = some (.int g) := by
    have : d6 / 3 = 0 ∨ d6 / 3 = 1 := by omega
    rcases this with q | q <;> rw [q]
    · exact ⟨_, by omega, by omega, rfl⟩
    · exact ⟨_, by omega, by omega, rfl⟩
  obtain ⟨g, g1, g2, ha⟩ := pick
  obtain ⟨eb, M7, t7, lb, qb, ee1⟩ := comp_all (ds0 := rangeD 0 g.toNat) (ge := e1__law_stand) (ρ := [some (.mr 0), some (.tup (.int w :: .int hh :: more)), some (.int mm), some (rowsD fl), some (.tup [.int sx, .int sy]), some (.int g), none, none])
    (P := Tape l rest) (Q := fun e => ∃ b, e = rowsD b ∧ InkedOk 8 b) (rangeD 0 g.toNat) (fun d hd M hM => by
      obtain ⟨rs, rw', M1, q1, q2, q3, q4, q5, t1, e1⟩ := inked_ok (most := 8) (by decide) (by decide) hM
      exact ⟨_, M1, t1, ⟨rs, rfl, q1, q2, rw', q3, q4, q5⟩, by simp_arith [e1__law_stand, e1, rowsD]⟩) M6 t6
  obtain ⟨book, hb, okb⟩ := map_of qb
  have lbk : book.length = g.toNat := by rw [← rangeD_length 0 g.toNat, ← lb, hb, List.length_map]
  obtain ⟨d8, M8, a8, b8, t8, e8⟩ := draw_ok (many := mm + 1) (by omega) (log_small (by omega) (by omega)) t7
  obtain ⟨em, M9, t9, lm, qm, ee2⟩ := comp_all (ds0 := rangeD 0 d8.toNat) (ge := e2__law_stand) (ρ := [some (.mr 0), some (.tup (.int w :: .int hh :: more)), some (.int mm), some (rowsD fl), some (.tup [.int sx, .int sy]), some (.int g), some (.tup (book.map rowsD)), none])
    (P := Tape l rest) (Q := fun e => ∃ m, e = Mv.d m ∧ MvOk book.length m) (rangeD 0 d8.toNat) (fun d hd M hM => by
      obtain ⟨m, M1, ok, t1, e1⟩ := mover_ok (more := more) (n := book.length) hw hh2 (by omega) hM
      exact ⟨_, M1, t1, ⟨m, rfl, ok⟩, by simp_arith [e2__law_stand, e1]⟩) M8 t8
  obtain ⟨movers, hmv, okm⟩ := map_of qm
  have lmv : movers.length = d8.toNat := by rw [← rangeD_length 0 d8.toNat, ← lm, hmv, List.length_map]
  obtain ⟨ep, M10, t10, lp, qp, ee3⟩ := comp_all (ds0 := rangeD 0 16) (ge := e3__law_stand) (ρ := [some (.mr 0), some (.tup (.int w :: .int hh :: more)), some (.int mm), some (rowsD fl), some (.tup [.int sx, .int sy]), some (.int g), some (.tup (book.map rowsD)), some (.tup (movers.map Mv.d))])
    (P := Tape l rest) (Q := fun e => ∃ k, e = D.int k ∧ 0 ≤ k ∧ k ≤ 63) (rangeD 0 16) (fun d hd M hM => by
      obtain ⟨f1, M1, a1, b1, t1, e1⟩ := draw_ok (many := 64) (by decide) (log_small (by decide) (by decide)) hM
      exact ⟨_, M1, t1, ⟨f1, rfl, a1, by omega⟩, by simp_arith [e3__law_stand, e1]⟩) M9 t9
  obtain ⟨pots, hp, okp⟩ := map_of qp
  have lpt : pots.length = 16 := by rw [← rangeD_length 0 16, ← lp, hp, List.length_map]
  refine ⟨⟨fl, sx, sy, book, movers, pots⟩, M10, ⟨⟨f1, f2, fw, f3, f4, f5⟩, a2, a3, ?_, okb, ?_, okm, lpt, okp⟩, t10, ?_⟩
  · show book.length ≤ 8
    omega
  · show (movers.length : Int) ≤ mm
    omega
  · have lb1 : book.length ≤ sizeLine := le_line (by omega)
    have lm1 : movers.length ≤ sizeLine := le_line (by omega)
    have lp1 : pots.length ≤ sizeLine := le_line (by omega)
    have r1 := fun M => rng1_ok (j := g) (by omega) M
    have r2 := fun M => rng1_ok (j := d8) (by omega) M
    have r3 := fun M => rng1_ok (j := 16) (by omega) M
    rw [hb] at ee1
    rw [hmv] at ee2
    rw [hp] at ee3
    have e1' : F__law_inked [.mr 0, .int 16] M = .ok (rowsD fl) M1 := e1
    unfold F__law_stand g__law_stand
    simp_arith [gComp, e1', e2, e3, e4, e5, e6, e8, l2, l5, c3, ha, r1, r2, r3, ee1, ee2, ee3, lb1, lm1, lp1, Stn.d]
/-! comparing a thing with itself -/
mutual
theorem eqB_self : ∀ (d : D) (n : Nat), cmpOk n d = true → eqB d d = true
  | .non, n, h => by simp [eqB]
  | .bl a, n, h => by simp [eqB]
  | .int a, n, h => by simp [eqB]
  | .str a, n, h => by simp [eqB]
  | .tup xs, n, h => by
    cases n with
    | zero => simp [cmpOk] at h
    | succ n => rw [eqB]; exact eqBs_self xs n (by simpa [cmpOk] using h)
  | .lst xs, n, h => by
    cases n with
    | zero => simp [cmpOk] at h
    | succ n => rw [eqB]; exact eqBs_self xs n (by simpa [cmpOk] using h)
  | .ro xs, n, h => by
    cases n with
    | zero => simp [cmpOk] at h
    | succ n => rw [eqB]; exact eqBs_self xs n (by simpa [cmpOk] using h)
  | .mr a, n, h => by simp [cmpOk] at h
  | .exc a, n, h => by simp [cmpOk] at h
  | .any, n, h => by simp [cmpOk] at h
theorem eqBs_self : ∀ (ds : List D) (n : Nat), cmpOks n ds = true → eqBs ds ds = true
  | [], n, h => by simp [eqBs]
  | d :: ds, n, h => by
    simp only [cmpOks, Bool.and_eq_true] at h
    simp only [eqBs, Bool.and_eq_true]
    exact ⟨eqB_self d n h.1, eqBs_self ds n h.2⟩
end
theorem cmpOks_all {n : Nat} : ∀ {ds : List D}, (∀ d ∈ ds, cmpOk n d = true) → cmpOks n ds = true
  | [], _ => rfl
  | d :: ds, h => by
    simp only [cmpOks, Bool.and_eq_true]
    exact ⟨h d List.mem_cons_self, cmpOks_all fun e he => h e (List.mem_cons_of_mem _ he)⟩
/-! deeds -/
theorem cut_drop (xs : List D) (k : Nat) : DL.cutD xs (some (k : Int)) none = xs.drop k := by
  unfold DL.cutD
  rw [HT.sIx_nat, HT.sIx_none]
  by_cases h : k ≤ xs.length
  · rw [Nat.min_eq_left h]
    exact List.take_of_length_le (by simp)
  · rw [Nat.min_eq_right (by omega), List.drop_eq_nil_of_le (Nat.le_refl _), List.drop_eq_nil_of_le (by omega), List.take_nil]
theorem cut_take (xs : List D) (k : Nat) : DL.cutD xs none (some (k : Int)) = xs.take k := by
  unfold DL.cutD
  rw [HT.sIx_nat, HT.sIx_none, List.drop_zero, Nat.sub_zero]
  by_cases h : k ≤ xs.length
  · rw [Nat.min_eq_left h]
  · rw [Nat.min_eq_right (by omega), List.take_of_length_le (Nat.le_refl _), List.take_of_length_le (by omega)]
theorem cut_1 (a : D) (xs : List D) : DL.cutD (a :: xs) (some 1) none = xs := cut_drop (a :: xs) 1
theorem cut_2 (a b : D) (xs : List D) : DL.cutD (a :: b :: xs) (some 2) none = xs := cut_drop (a :: b :: xs) 2
theorem ix0 (a : D) (xs : List D) : atI (a :: xs) 0 = some a := atI_nat (j := 0) rfl
theorem ix1 (a b : D) (xs : List D) : atI (a :: b :: xs) 1 = some b := atI_nat (j := 1) rfl
theorem ix2 (a b c : D) (xs : List D) : atI (a :: b :: c :: xs) 2 = some c := atI_nat (j := 2) rfl
theorem ix3 (a b c d : D) (xs : List D) : atI (a :: b :: c :: d :: xs) 3 = some d := atI_nat (j := 3) rfl
def wholeB (lo hi : Int) : D → Bool
  | .int i => decide (lo ≤ i) && decide (i ≤ hi)
  | _ => false
def TyOk (d : D) : Prop := ∃ t, tyD d = some t
theorem within_ok {d : D} {lo hi : Int} {M : Mem} (h : TyOk d) : F_is_within [d, .int lo, .int hi] M = .ok (.bl (wholeB lo hi d)) M := by
  obtain ⟨t, ht⟩ := h
  have w : F_is_whole [d] M = .ok (.bl (match d with | .int _ => true | _ => false)) M := by
    unfold F_is_whole g_is_whole
    cases d <;> first | (simp_arith [DL.bind_ok]; done) | cases ht
  unfold F_is_within g_is_within
  cases d with
  | int i =>
    by_cases h0 : lo ≤ i
    · simp_arith [w, wholeB, h0]
    · simp_arith [w, wholeB, h0]
  | _ => simp_arith [w, wholeB]
theorem bools_map {p : D → Bool} : ∀ xs : List D, boolsOf (xs.map fun d => D.bl (p d)) = some (xs.map p)
  | [] => rfl
  | x :: xs => by
    show (boolsOf (xs.map fun d => D.bl (p d))).map (p x :: ·) = _
    rw [bools_map xs]
    rfl
theorem all_id {α : Type} (p : α → Bool) (xs : List α) : (xs.map p).all id = xs.all p := by rw [List.all_map]; rfl
theorem pair_ok {xs : List D} {M : Mem} (h : ∀ x ∈ xs, TyOk x) (hl : xs.length ≤ 3000) : F_is_place_pair [.tup xs] M = .ok (.bl (decide (xs.length = 2) && xs.all (wholeB (-1000) 1000))) M := by
  have c := comp_map (ds0 := xs) (ge := e1_is_place_pair) (ρ := [some (.tup xs)]) (f := fun d => D.bl (wholeB (-1000) 1000 d)) (M := M) xs fun d hd => by
    simp_arith [e1_is_place_pair, within_ok (h d hd)]
  have l1 : xs.length ≤ sizeLine := le_line (by omega)
  have bm := bools_map (p := wholeB (-1000) 1000) xs
  have ai := all_id (wholeB (-1000) 1000) xs
  have e2 : ((xs.length : Int) = 2) = (xs.length = 2) := by simp; omega
  unfold F_is_place_pair g_is_place_pair
  by_cases h2 : xs.length = 2
  · have h2' : ((xs.length : Int) == 2) = true := by simp; omega
    have l2 : (2 : Nat) ≤ sizeLine := le_line (by decide)
    simp_arith [gComp, eqOp, c, l1, bm, ai, h2, h2', l2]
  · have h2' : ((xs.length : Int) == 2) = false := by simp; omega
    simp_arith [gComp, eqOp, c, l1, bm, ai, h2, h2']
theorem ink_ok {d : D} {M : Mem} (h : TyOk d) : F_is_ink [d] M = .ok (.bl (wholeB 0 15 d)) M := by
  unfold F_is_ink g_is_ink
  simp_arith [within_ok h]
theorem hue_ok {d : D} {M : Mem} (h : TyOk d) : F_is_hue [d] M = .ok (.bl (wholeB 0 63 d)) M := by
  unfold F_is_hue g_is_hue
  simp_arith [within_ok h]
theorem rank_ok {d : D} {M : Mem} (h : TyOk d) : F_is_rank [d] M = .ok (.bl (wholeB 0 3 d)) M := by
  unfold F_is_rank g_is_rank
  simp_arith [within_ok h]
theorem isturn_ok {d : D} {M : Mem} (h : TyOk d) : F_is_turn [d] M = .ok (.bl (wholeB 0 3 d)) M := by
  unfold F_is_turn g_is_turn
  simp_arith [within_ok h]
def numB (n : Nat) : D → Bool
  | .non => true
  | d => wholeB 0 ((n : Int) - 1) d
theorem number_ok {d : D} {bk : List D} {M : Mem} (h : TyOk d) : F_is_shape_number [.tup bk, d] M = .ok (.bl (numB bk.length d)) M := by
  have w := within_ok (lo := 0) (hi := (bk.length : Int) - 1) (M := M) h
  obtain ⟨t, ht⟩ := h
  unfold F_is_shape_number g_is_shape_number
  cases d with
  | non => simp_arith [numB]
  | any => cases ht
  | mr _ => cases ht
  | exc _ => cases ht
  | _ => simp_arith [numB, w]
def moverDeedB (nb nm : Nat) (w : Str) (r : List D) : Bool :=
  wholeB 0 ((nm : Int) - 1) (r.getD 0 .non) &&
    (if w = "move" then decide (r.length = 3) && (r.drop 1).all (wholeB (-1000) 1000)
     else decide (r.length = 2) && (if w = "shape" then numB nb (r.getD 1 .non) else if w = "rank" then wholeB 0 3 (r.getD 1 .non) else decide (w = "turn") && wholeB 0 3 (r.getD 1 .non)))
def deedB (nb nm : Nat) : D → Bool
  | .tup (.str w :: r) =>
    if w = "shift" then decide (r.length = 2) && r.all (wholeB (-1000) 1000)
    else if w = "pot" then decide (r.length = 2) && (wholeB 0 15 (r.getD 0 .non) && wholeB 0 63 (r.getD 1 .non))
    else decide (2 ≤ r.length) && moverDeedB nb nm w r
  | _ => false
structure ThingOk (d : D) : Prop where
  ty : TyOk d
  inn : ∀ xs, d = .tup xs → xs.length ≤ 2000 ∧ ∀ x ∈ xs, TyOk x ∧ cmpOk 40 x = true
theorem strOk_words : PyData.strOk "shift" = true ∧ PyData.strOk "pot" = true ∧ PyData.strOk "move" = true ∧ PyData.strOk "shape" = true ∧ PyData.strOk "rank" = true ∧ PyData.strOk "turn" = true ∧ PyData.strOk "deed" = true := by decide +kernel
/-- not a text, so no word -/
theorem no_word {d : D} (h : ∀ w, d ≠ .str w) (w : Str) : eqB d (.str w) = false := by
  cases d with
  | str x => exact absurd rfl (h x)
  | _ => simp [eqB]
theorem moverdeed_ok {s : Stn} {a b c : D} {r : List D} {M : Mem} (hl : r.length ≤ 2000) (ha : cmpOk 40 a = true) (hb : TyOk b) (hc : TyOk c) (hr : ∀ x ∈ r, TyOk x) :
    F_is_mover_deed [s.d, a, .tup (b :: c :: r)] M = .ok (.bl (match a with | .str w => moverDeedB s.book.length s.movers.length w (b :: c :: r) | _ => false)) M := by
  obtain ⟨k1, k2, k3, k4, k5, k6, _⟩ := strOk_words
  have w1 := within_ok (lo := 0) (hi := (s.movers.length : Int) - 1) (M := M) hb
  have pp := pair_ok (xs := c :: r) (M := M) (fun x hx => by
    rcases List.mem_cons.mp hx with q | q
    · subst q; exact hc
    · exact hr x q) (by simp; omega)
  have nn := number_ok (bk := s.book.map rowsD) (M := M) hc
  rw [List.length_map] at nn
  have rr := rank_ok (M := M) hc
  have tt := isturn_ok (M := M) hc
  have l1 : (((b :: c :: r).length : Nat) : Int) = (r.length : Int) + 1 + 1 := by simp
  have hlen : ((c :: r).length = 2) = (r.length = 1) := by simp
  have hl2 : ((b :: c :: r).length = 3) = (r.length = 1) := by simp
  have hl3 : ((b :: c :: r).length = 2) = (r = []) := by cases r <;> simp
  have hi : ((r.length : Int) + 1 + 1 = 2) = (r = []) := by cases r <;> simp <;> omega
  unfold F_is_mover_deed g_is_mover_deed
  cases hw : wholeB 0 ((s.movers.length : Int) - 1) b with
  | false =>
    rw [hw] at w1
    have : (match a with | .str w => moverDeedB s.book.length s.movers.length w (b :: c :: r) | _ => false) = false := by
      cases a <;> simp [moverDeedB, hw]
    rw [this]
    simp_arith [Stn.d, ix0, w1]
  | true =>
    rw [hw] at w1
    cases a with
    | str w =>
      have ks : PyData.strOk w = true := by simpa using ha
      by_cases h1 : w = "move"
      · subst h1
        simp_arith [Stn.d, ix0, ix1, w1, eqOp, k3, cut_1, pp, moverDeedB, hw]
      · by_cases h0 : r = []
        · subst h0
          by_cases h2 : w = "shape"
          · subst h2
            simp_arith [Stn.d, ix0, ix1, w1, eqOp, k3, k4, nn, moverDeedB, hw, h1]
          · by_cases h3 : w = "rank"
            · subst h3
              simp_arith [Stn.d, ix0, ix1, w1, eqOp, k3, k4, k5, rr, moverDeedB, hw, h1, h2]
            · by_cases h4 : w = "turn"
              · subst h4
                simp_arith [Stn.d, ix0, ix1, w1, eqOp, k3, k4, k5, k6, tt, moverDeedB, hw, h1, h2, h3]
              · have h4' : (w == Str.ofString "turn") = false := by simpa using h4
                simp_arith [Stn.d, ix0, ix1, w1, eqOp, k3, k4, k5, k6, ks, tt, moverDeedB, hw, h1, h2, h3, h4, h4']
        · simp_arith [Stn.d, ix0, ix1, w1, eqOp, k3, ks, moverDeedB, hw, h1, h0, hi, hl3]
    | non | bl _ | int _ | tup _ | lst _ | ro _ =>
      by_cases h0 : r = []
      · subst h0
        simp_arith [Stn.d, ix0, ix1, w1, eqOp, k3, k4, k5, k6, ha, now, no_word]
      · simp_arith [Stn.d, ix0, ix1, w1, eqOp, k3, ha, now, no_word, h0, hi]
    | _ => simp [cmpOk] at ha
/-! what is a stand, of anything -/
def rowB : D → Bool
  | .tup xs => xs.all (wholeB 0 15)
  | _ => false
def lenD : D → Nat
  | .tup xs => xs.length
  | _ => 0
def blockB (most : Int) : D → Bool
  | .tup rows => (decide (1 ≤ rows.length) && decide ((rows.length : Int) ≤ most)) && (rows.all rowB && ((decide (1 ≤ lenD (rows.getD 0 .non)) && decide ((lenD (rows.getD 0 .non) : Int) ≤ most)) && rows.all fun r => decide (lenD r = lenD (rows.getD 0 .non))))
  | _ => false
/-- things of so many depths, whose kinds are known -/
def Deep : Nat → D → Prop
  | 0, d => TyOk d
  | n + 1, d => TyOk d ∧ ∀ xs, d = .tup xs → xs.length ≤ 3000 ∧ ∀ x ∈ xs, Deep n x
theorem Deep.ty : ∀ {n : Nat} {d : D}, Deep n d → TyOk d
  | 0, _, h => h
  | _ + 1, _, h => h.1
theorem Deep.down : ∀ {n : Nat} {d : D}, Deep (n + 1) d → Deep n d
  | 0, _, h => h.1
  | _ + 1, _, h => ⟨h.1, fun xs e => ⟨(h.2 xs e).1, fun x hx => ((h.2 xs e).2 x hx).down⟩⟩
def isTupD : D → Bool
  | .tup _ => true
  | _ => false
theorem isi_tup {d : D} {i : Nat} {ρ : Rho} {M : Mem} (h : TyOk d) (hv : gVar i ρ M = .ok d M) : gIsi "tuple" (gVar i) ρ M = .ok (.bl (isTupD d)) M := by
  obtain ⟨t, ht⟩ := h
  unfold gIsi
  rw [hv, DL.bind_ok]
  cases d <;> first | (simp [tyM, tyD, subT, isTupD]; done) | cases ht
theorem inkrow_ok {d : D} {M : Mem} (h : Deep 1 d) : F_is_ink_row [d] M = .ok (.bl (rowB d)) M := by
  have g1 := isi_tup (i := 0) (ρ := [some d]) (M := M) h.1 rfl
  show retOf (g_is_ink_row [some d] M) = _
  unfold g_is_ink_row
  cases d with
  | tup xs =>
    have hx := h.2 xs rfl
    have a := all_of (ge := e1_is_ink_row) (p := wholeB 0 15) (its_tup (i := 0) (ρ := [some (.tup xs)]) (M := M) rfl) (by omega) fun x hm => by
      unfold e1_is_ink_row
      exact call1 (x := x) rfl (ink_ok (hx.2 x hm))
    rw [ret_ok (and_ok g1 fun _ => a)]; rfl
  | _ => rw [ret_ok (and_ok (y := false) g1 fun z => by cases z)]; rfl
theorem block_ok {d : D} {most : Int} {M : Mem} (h : Deep 2 d) : F_is_ink_block [d, .int most] M = .ok (.bl (blockB most d)) M := by
  have g1 := isi_tup (i := 0) (ρ := [some d, some (.int most), none]) (M := M) h.1 rfl
  show retOf (g_is_ink_block [some d, some (.int most), none] M) = _
  unfold g_is_ink_block
  cases d with
  | tup rows =>
    have hx := h.2 rows rfl
    have ln : gBlt lenF (DL.gCons (gVar 0) DL.gNil) [some (.tup rows), some (.int most), none] M = .ok (.int rows.length) M := rfl
    have ch : gCh leD leD (gC (.int 1)) (gBlt lenF (DL.gCons (gVar 0) DL.gNil)) (gVar 1) [some (.tup rows), some (.int most), none] M = .ok (.bl (decide (1 ≤ rows.length) && decide ((rows.length : Int) ≤ most))) M := by
      unfold gCh
      show ((Out.ok (D.int 1) M).bind _) = _
      rw [DL.bind_ok, ln, DL.bind_ok]
      show ((Out.ok (D.bl (decide ((1 : Int) ≤ rows.length))) M).bind _) = _
      rw [DL.bind_ok]
      by_cases k : 1 ≤ rows.length
      · have k' : (1 : Int) ≤ rows.length := by omega
        rw [decide_eq_true k, decide_eq_true k']; rfl
      · have k' : ¬ (1 : Int) ≤ rows.length := by omega
        rw [decide_eq_false k, decide_eq_false k']; rfl
    have t1 := orT_ok (notT_ok (tru_bl g1)) fun _ => notT_ok (tst_bl ch)
    by_cases k : 1 ≤ rows.length ∧ (rows.length : Int) ≤ most
    · have hk : (decide (1 ≤ rows.length) && decide ((rows.length : Int) ≤ most)) = true := by simp [k.1, k.2]
      rw [hk] at t1
      rw [sq_nx ((if_f t1).trans rfl)]
      have a := all_of (ge := e1_is_ink_block) (p := rowB) (its_tup (i := 0) (ρ := [some (.tup rows), some (.int most), none]) (M := M) rfl) (by omega) fun x hm => by
        unfold e1_is_ink_block
        exact call1 (x := x) rfl (inkrow_ok (hx.2 x hm))
      cases ha : rows.all rowB with
      | false =>
        rw [ha] at a
        have e : blockB most (.tup rows) = false := by simp [blockB, ha]
        rw [sq_rt ((if_t (notT_ok (tru_bl a))).trans rfl), e]; rfl
      | true =>
        rw [ha] at a
        rw [sq_nx ((if_f (notT_ok (tru_bl a))).trans rfl)]
        cases rows with
        | nil => exact absurd k.1 (by simp)
        | cons r0 rs =>
          have hr := List.all_eq_true.mp ha
          obtain ⟨x0, e0⟩ : ∃ x0, r0 = .tup x0 := by
            have := hr r0 List.mem_cons_self
            cases r0 <;> first | exact ⟨_, rfl⟩ | cases this
          subst e0
          have s2 : gBlt lenF (DL.gCons (g2 ixD (gVar 0) (gC (.int 0))) DL.gNil) [some (.tup (.tup x0 :: rs)), some (.int most), none] M = .ok (.int x0.length) M :=
            blt1 (x := .tup x0) (g2_ok rfl rfl (ix_tup (k := 0) rfl)) rfl
          rw [sq_nx (set_ok s2)]
          have b := all_of (ge := e2_is_ink_block) (p := fun r => decide (lenD r = x0.length)) (its_tup (i := 0) (ρ := [some (.tup (.tup x0 :: rs)), some (.int most), some (.int x0.length)]) (M := M) rfl) (by omega) fun x hm => by
            obtain ⟨y, ey⟩ : ∃ y, x = .tup y := by
              have := hr x hm
              cases x <;> first | exact ⟨_, rfl⟩ | cases this
            subst ey
            unfold e2_is_ink_block
            refine g2_ok (x := .int y.length) (y := .int x0.length) rfl rfl ((eqI_f _ _ _).trans ?_)
            congr 2
            exact decide_eq_decide.mpr (by show _ ↔ y.length = _; omega)
          have ch2 : gCh leD leD (gC (.int 1)) (gVar 2) (gVar 1) [some (.tup (.tup x0 :: rs)), some (.int most), some (.int x0.length)] M = .ok (.bl (decide (1 ≤ x0.length) && decide ((x0.length : Int) ≤ most))) M := by
            unfold gCh
            show ((Out.ok (D.int 1) M).bind _) = _
            rw [DL.bind_ok]
            show ((Out.ok (D.int x0.length) M).bind _) = _
            rw [DL.bind_ok]
            show ((Out.ok (D.bl (decide ((1 : Int) ≤ x0.length))) M).bind _) = _
            rw [DL.bind_ok]
            by_cases k : 1 ≤ x0.length
            · have k' : (1 : Int) ≤ x0.length := by omega
              rw [decide_eq_true k, decide_eq_true k']; rfl
            · have k' : ¬ (1 : Int) ≤ x0.length := by omega
              rw [decide_eq_false k, decide_eq_false k']; rfl
          have f := ret_ok (and_ok ch2 fun _ => b)
          have e : blockB most (.tup (.tup x0 :: rs)) = ((decide (1 ≤ x0.length) && decide ((x0.length : Int) ≤ most)) && (D.tup x0 :: rs).all fun r => decide (lenD r = x0.length)) := by
            show ((decide (1 ≤ (D.tup x0 :: rs).length) && decide (((D.tup x0 :: rs).length : Int) ≤ most)) && ((D.tup x0 :: rs).all rowB && _)) = _
            rw [hk, ha]; rfl
          rw [e]
          show retOf (sRet (gAnd (gCh leD leD (gC (.int 1)) (gVar 2) (gVar 1)) (gBlt allF (DL.gCons (gComp (gIts (gVar 0)) gAll e2_is_ink_block mkLst) DL.gNil))) [some (.tup (.tup x0 :: rs)), some (.int most), some (.int x0.length)] M) = _
          rw [f]; rfl
    · have hk : (decide (1 ≤ rows.length) && decide ((rows.length : Int) ≤ most)) = false := by
        by_cases k1 : 1 ≤ rows.length
        · have : ¬ (rows.length : Int) ≤ most := fun z => k ⟨k1, z⟩
          simp [this]
        · simp [k1]
      rw [hk] at t1
      have e : blockB most (.tup rows) = false := by
        show ((decide (1 ≤ rows.length) && decide ((rows.length : Int) ≤ most)) && _) = false
        rw [hk]; rfl
      rw [sq_rt ((if_t t1).trans rfl), e]; rfl
  | _ => rw [sq_rt ((if_t (orT_ok (y := false) (notT_ok (tru_bl g1)) fun z => by cases z)).trans rfl)]; rfl
theorem isshape_ok {d : D} {M : Mem} (h : Deep 2 d) : F_is_shape [d] M = .ok (.bl (blockB 8 d)) M := by
  show retOf (g_is_shape [some d] M) = _
  unfold g_is_shape
  rw [ret_ok (call2 (x := d) (y := .int 8) rfl rfl (block_ok h))]; rfl
def bookB : D → Bool
  | .tup xs => decide (xs.length ≤ 8) && xs.all (blockB 8)
  | _ => false
theorem isbook_ok {d : D} {M : Mem} (h : Deep 3 d) : F_is_book [d] M = .ok (.bl (bookB d)) M := by
  have g1 := isi_tup (i := 0) (ρ := [some d]) (M := M) h.1 rfl
  show retOf (g_is_book [some d] M) = _
  unfold g_is_book
  cases d with
  | tup xs =>
    have hx := h.2 xs rfl
    have l : g2 leD (gBlt lenF (DL.gCons (gVar 0) DL.gNil)) (gC (.int 8)) [some (.tup xs)] M = .ok (.bl (decide (xs.length ≤ 8))) M := by
      show Out.ok (D.bl (decide ((xs.length : Int) ≤ 8))) M = _
      congr 2
      exact decide_eq_decide.mpr (by omega)
    have a := all_of (ge := e1_is_book) (p := blockB 8) (its_tup (i := 0) (ρ := [some (.tup xs)]) (M := M) rfl) (by omega) fun x hm => by
      unfold e1_is_book
      exact call1 (x := x) rfl (isshape_ok (hx.2 x hm))
    rw [ret_ok (and_ok g1 fun _ => and_ok l fun _ => a)]; rfl
  | _ => rw [ret_ok (and_ok (y := false) g1 fun z => by cases z)]; rfl
def pairB : D → Bool
  | .tup xs => decide (xs.length = 2) && xs.all (wholeB (-1000) 1000)
  | _ => false
theorem notpair {d : D} {M : Mem} (h : TyOk d) (ht : isTupD d = false) : F_is_place_pair [d] M = .ok (.bl false) M := by
  have g1 := isi_tup (i := 0) (ρ := [some d]) (M := M) h rfl
  rw [ht] at g1
  show retOf (g_is_place_pair [some d] M) = _
  unfold g_is_place_pair
  rw [ret_ok (and_ok (y := false) g1 fun z => by cases z)]; rfl
theorem ispair_ok {d : D} {M : Mem} (h : Deep 1 d) : F_is_place_pair [d] M = .ok (.bl (pairB d)) M := by
  cases d with
  | tup xs => exact pair_ok (fun x hx => ((h.2 xs rfl).2 x hx)) (h.2 xs rfl).1
  | _ => exact notpair h.1 rfl
def moverB (nb : Nat) : D → Bool
  | .tup [s, x, y, r, t] => numB nb s && ((wholeB (-1000) 1000 x && wholeB (-1000) 1000 y) && (wholeB 0 3 r && wholeB 0 3 t))
  | _ => false
theorem ismover_ok {d : D} {bk : List D} {M : Mem} (h : Deep 1 d) : F_is_mover [.tup bk, d] M = .ok (.bl (moverB bk.length d)) M := by
  have g1 := isi_tup (i := 1) (ρ := [some (.tup bk), some d, none, none, none, none, none]) (M := M) h.1 rfl
  show retOf (g_is_mover [some (.tup bk), some d, none, none, none, none, none] M) = _
  unfold g_is_mover
  cases d with
  | tup xs =>
    have hx := h.2 xs rfl
    have ne : g2 (eqOp true) (gBlt lenF (DL.gCons (gVar 1) DL.gNil)) (gC (.int 5)) [some (.tup bk), some (.tup xs), none, none, none, none, none] M = .ok (.bl (!decide ((xs.length : Int) = 5))) M := g2_ok (x := .int xs.length) (y := .int 5) rfl rfl (eqI_t _ _ _)
    have t1 := orT_ok (notT_ok (tru_bl g1)) fun _ => tst_bl ne
    match xs, hx, t1 with
    | [s, x, y, r, t], hx, t1 =>
      rw [sq_nx ((if_f t1).trans rfl)]
      have q : ∀ z ∈ [s, x, y, r, t], TyOk z := fun z hz => hx.2 z hz
      have k1 := number_ok (bk := bk) (M := M) (q s (by simp))
      have k2 := pair_ok (xs := [x, y]) (M := M) (fun z hz => q z (by rcases List.mem_cons.mp hz with h | h <;> simp_all)) (by simp)
      have k3 := rank_ok (M := M) (q r (by simp))
      have k4 := isturn_ok (M := M) (q t (by simp))
      have two : (2 : Nat) ≤ sizeLine := le_line (by decide)
      have asg : sAsg (tupN [2, 3, 4, 5, 6]) (gVar 1) [some (.tup bk), some (.tup [s, x, y, r, t]), none, none, none, none, none] M = .ok (.nx [some (.tup bk), some (.tup [s, x, y, r, t]), some s, some x, some y, some r, some t]) M := rfl
      rw [sq_nx asg]
      have tp2 : DL.gTup (DL.gCons (gVar 3) (DL.gCons (gVar 4) DL.gNil)) [some (.tup bk), some (.tup [s, x, y, r, t]), some s, some x, some y, some r, some t] M = .ok (.tup [x, y]) M := by
        show (if [x, y].length ≤ sizeLine then Out.ok (D.tup [x, y]) M else .bad) = _
        rw [if_pos (show [x, y].length ≤ sizeLine from two)]
      rw [ret_ok (and_ok (call2 (x := .tup bk) (y := s) rfl rfl k1) fun _ => and_ok (call1 tp2 k2) fun _ => and_ok (call1 (x := r) rfl k3) fun _ => call1 (x := t) rfl k4)]
      show Out.ok (D.bl _) M = _
      unfold moverB
      simp
    | [], _, t1 => rw [sq_rt ((if_t t1).trans rfl)]; rfl
    | [_], _, t1 => rw [sq_rt ((if_t t1).trans rfl)]; rfl
    | [_, _], _, t1 => rw [sq_rt ((if_t t1).trans rfl)]; rfl
    | [_, _, _], _, t1 => rw [sq_rt ((if_t t1).trans rfl)]; rfl
    | [_, _, _, _], _, t1 => rw [sq_rt ((if_t t1).trans rfl)]; rfl
    | _ :: _ :: _ :: _ :: _ :: _ :: r, _, t1 =>
      have z : (!decide (((r.length + 1 + 1 + 1 + 1 + 1 + 1 : Nat) : Int) = 5)) = true := by simp; omega
      simp only [List.length_cons] at t1
      rw [z] at t1
      rw [sq_rt ((if_t t1).trans rfl)]; rfl
  | _ => rw [sq_rt ((if_t (orT_ok (y := false) (notT_ok (tru_bl g1)) fun z => by cases z)).trans rfl)]; rfl
def moversB (nb : Nat) : D → Bool
  | .tup xs => decide (xs.length ≤ 12) && xs.all (moverB nb)
  | _ => false
theorem aremovers_ok {d : D} {bk : List D} {M : Mem} (h : Deep 2 d) : F_are_movers [.tup bk, d] M = .ok (.bl (moversB bk.length d)) M := by
  have g1 := isi_tup (i := 1) (ρ := [some (.tup bk), some d]) (M := M) h.1 rfl
  show retOf (g_are_movers [some (.tup bk), some d] M) = _
  unfold g_are_movers
  cases d with
  | tup xs =>
    have hx := h.2 xs rfl
    have l : g2 leD (gBlt lenF (DL.gCons (gVar 1) DL.gNil)) (gC (.int 12)) [some (.tup bk), some (.tup xs)] M = .ok (.bl (decide (xs.length ≤ 12))) M := by
      show Out.ok (D.bl (decide ((xs.length : Int) ≤ 12))) M = _
      congr 2
      exact decide_eq_decide.mpr (by omega)
    have a := all_of (ge := e1_are_movers) (p := moverB bk.length) (its_tup (i := 1) (ρ := [some (.tup bk), some (.tup xs)]) (M := M) rfl) (by omega) fun x hm => by
      unfold e1_are_movers
      exact call2 (x := .tup bk) (y := x) rfl rfl (ismover_ok (hx.2 x hm))
    rw [ret_ok (and_ok g1 fun _ => and_ok l fun _ => a)]; rfl
  | _ => rw [ret_ok (and_ok (y := false) g1 fun z => by cases z)]; rfl
def potsB : D → Bool
  | .tup xs => decide (xs.length = 16) && xs.all (wholeB 0 63)
  | _ => false
theorem arepots_ok {d : D} {M : Mem} (h : Deep 1 d) : F_are_pots [d] M = .ok (.bl (potsB d)) M := by
  have g1 := isi_tup (i := 0) (ρ := [some d]) (M := M) h.1 rfl
  show retOf (g_are_pots [some d] M) = _
  unfold g_are_pots
  cases d with
  | tup xs =>
    have hx := h.2 xs rfl
    have l : g2 (eqOp false) (gBlt lenF (DL.gCons (gVar 0) DL.gNil)) (gC (.int 16)) [some (.tup xs)] M = .ok (.bl (decide (xs.length = 16))) M := by
      refine (g2_ok (x := .int xs.length) (y := .int 16) rfl rfl (eqI_f _ _ _)).trans ?_
      congr 2
      exact decide_eq_decide.mpr (by omega)
    have a := all_of (ge := e1_are_pots) (p := wholeB 0 63) (its_tup (i := 0) (ρ := [some (.tup xs)]) (M := M) rfl) (by omega) fun x hm => by
      unfold e1_are_pots
      exact call1 (x := x) rfl (hue_ok (hx.2 x hm))
    rw [ret_ok (and_ok g1 fun _ => and_ok l fun _ => a)]; rfl
  | _ => rw [ret_ok (and_ok (y := false) g1 fun z => by cases z)]; rfl
def standB : D → Bool
  | .tup [f, s, b, m, p] => (blockB 16 f && (pairB s && potsB p)) && (bookB b && moversB (lenD b) m)
  | _ => false
theorem bookB_tup {d : D} (h : bookB d = true) : ∃ b, d = .tup b := by
  cases d <;> first | exact ⟨_, rfl⟩ | cases h
theorem isstand_ok {d : D} {M : Mem} (h : Deep 4 d) : F_is_stand [d] M = .ok (.bl (standB d)) M := by
  have g1 := isi_tup (i := 0) (ρ := [some d, none, none, none, none, none]) (M := M) h.1 rfl
  show retOf (g_is_stand [some d, none, none, none, none, none] M) = _
  unfold g_is_stand
  cases d with
  | tup xs =>
    have hx := h.2 xs rfl
    have ne : g2 (eqOp true) (gBlt lenF (DL.gCons (gVar 0) DL.gNil)) (gC (.int 5)) [some (.tup xs), none, none, none, none, none] M = .ok (.bl (!decide ((xs.length : Int) = 5))) M := g2_ok (x := .int xs.length) (y := .int 5) rfl rfl (eqI_t _ _ _)
    have t1 := orT_ok (notT_ok (tru_bl g1)) fun _ => tst_bl ne
    match xs, hx, t1 with
    | [f, s, b, m, p], hx, t1 =>
      rw [sq_nx ((if_f t1).trans rfl)]
      have q : ∀ z ∈ [f, s, b, m, p], Deep 3 z := fun z hz => hx.2 z hz
      have k1 := block_ok (most := 16) (M := M) (q f (by simp)).down
      have k2 := ispair_ok (M := M) (q s (by simp)).down.down
      have k3 := arepots_ok (M := M) (q p (by simp)).down.down
      have k4 := isbook_ok (M := M) (q b (by simp))
      have asg : sAsg (tupN [1, 2, 3, 4, 5]) (gVar 0) [some (.tup [f, s, b, m, p]), none, none, none, none, none] M = .ok (.nx [some (.tup [f, s, b, m, p]), some f, some s, some b, some m, some p]) M := rfl
      rw [sq_nx asg]
      have t2 := notT_ok (andT_ok (tru_bl (call2 (ρ := [some (.tup [f, s, b, m, p]), some f, some s, some b, some m, some p]) (a := gVar 1) (b := gC (.int 16)) rfl rfl k1)) fun _ => andT_ok (tru_bl (call1 (a := gVar 2) rfl k2)) fun _ => tru_bl (call1 (a := gVar 5) rfl k3))
      cases hk : (blockB 16 f && (pairB s && potsB p)) with
      | false =>
        rw [hk] at t2
        rw [sq_rt ((if_t t2).trans rfl)]
        have e : standB (.tup [f, s, b, m, p]) = false := by
          simp [standB, hk]
        rw [e]; rfl
      | true =>
        rw [hk] at t2
        rw [sq_nx ((if_f t2).trans rfl)]
        cases hb : bookB b with
        | false =>
          rw [hb] at k4
          rw [ret_ok (and_ok (y := false) (call1 (a := gVar 3) rfl k4) fun z => by cases z)]
          have e : standB (.tup [f, s, b, m, p]) = false := by
            simp [standB, hb]
          rw [e]; rfl
        | true =>
          obtain ⟨bs, rfl⟩ := bookB_tup hb
          have k5 := aremovers_ok (bk := bs) (M := M) (q m (by simp)).down
          rw [hb] at k4
          rw [ret_ok (and_ok (call1 (a := gVar 3) rfl k4) fun _ => call2 (a := gVar 3) (b := gVar 4) rfl rfl k5)]
          have e : standB (.tup [f, s, .tup bs, m, p]) = moversB bs.length m := by
            simp [standB, hk, hb, lenD]
          rw [e]; rfl
    | [], _, t1 => rw [sq_rt ((if_t t1).trans rfl)]; rfl
    | [_], _, t1 => rw [sq_rt ((if_t t1).trans rfl)]; rfl
    | [_, _], _, t1 => rw [sq_rt ((if_t t1).trans rfl)]; rfl
    | [_, _, _], _, t1 => rw [sq_rt ((if_t t1).trans rfl)]; rfl
    | [_, _, _, _], _, t1 => rw [sq_rt ((if_t t1).trans rfl)]; rfl
    | _ :: _ :: _ :: _ :: _ :: _ :: r, _, t1 =>
      have z : (!decide (((r.length + 1 + 1 + 1 + 1 + 1 + 1 : Nat) : Int) = 5)) = true := by simp; omega
      simp only [List.length_cons] at t1
      rw [z] at t1
      rw [sq_rt ((if_t t1).trans rfl)]; rfl
  | _ => rw [sq_rt ((if_t (orT_ok (y := false) (notT_ok (tru_bl g1)) fun z => by cases z)).trans rfl)]; rfl
/-! drawn frames and stands are such -/
theorem wholeB_int {lo hi i : Int} (h : lo ≤ i ∧ i ≤ hi) : wholeB lo hi (.int i) = true := by simp [wholeB, h.1, h.2]
theorem ints_whole {lo hi : Int} {r : List Int} (h : ∀ k ∈ r, lo ≤ k ∧ k ≤ hi) : (r.map D.int).all (wholeB lo hi) = true := by
  rw [List.all_map]
  exact List.all_eq_true.mpr fun k hk => wholeB_int (h k hk)
theorem block_rows {most : Int} {rs : List (List Int)} (h : InkedOk most rs) : blockB most (rowsD rs) = true := by
  obtain ⟨h1, h2, w, h3, h4, h5⟩ := h
  have hr : ∀ r ∈ rs.map fun r => D.tup (r.map D.int), rowB r = true ∧ lenD r = w := fun r hr => by
    obtain ⟨q, hq, rfl⟩ := List.mem_map.mp hr
    exact ⟨ints_whole (h5 q hq).2, by show (q.map D.int).length = w; rw [List.length_map]; exact (h5 q hq).1⟩
  have l : (rs.map fun r => D.tup (r.map D.int)).length = rs.length := List.length_map ..
  unfold rowsD
  generalize (rs.map fun r => D.tup (r.map D.int)) = ds at *
  cases ds with
  | nil => simp at l; omega
  | cons d0 dr =>
    have e0 := (hr d0 List.mem_cons_self).2
    show ((decide (1 ≤ (d0 :: dr).length) && decide (((d0 :: dr).length : Int) ≤ most)) && ((d0 :: dr).all rowB && ((decide (1 ≤ lenD d0) && decide ((lenD d0 : Int) ≤ most)) && (d0 :: dr).all fun r => decide (lenD r = lenD d0)))) = true
    have a1 : (d0 :: dr).all rowB = true := List.all_eq_true.mpr fun r h => (hr r h).1
    have a2 : ((d0 :: dr).all fun r => decide (lenD r = lenD d0)) = true := List.all_eq_true.mpr fun r h => decide_eq_true (by rw [(hr r h).2, e0])
    rw [a1, a2, e0, l]
    simp [h1, h2, h3, h4]
theorem Deep.int {n : Nat} {i : Int} : Deep n (.int i) := by
  cases n with
  | zero => exact ⟨_, rfl⟩
  | succ n => exact ⟨⟨_, rfl⟩, fun xs e => by cases e⟩
theorem Deep.tup {n : Nat} {xs : List D} (hl : xs.length ≤ 3000) (h : ∀ x ∈ xs, Deep n x) : Deep (n + 1) (.tup xs) :=
  ⟨⟨_, rfl⟩, fun ys e => by cases e; exact ⟨hl, h⟩⟩
theorem deep_rows {n : Nat} {most : Int} {rs : List (List Int)} (hm : most ≤ 3000) (h : InkedOk most rs) : Deep (n + 2) (rowsD rs) := by
  obtain ⟨h1, h2, w, h3, h4, h5⟩ := h
  refine Deep.tup (by rw [List.length_map]; omega) fun x hx => ?_
  obtain ⟨r, hr, rfl⟩ := List.mem_map.mp hx
  refine Deep.tup (by rw [List.length_map, (h5 r hr).1]; omega) fun x hx => ?_
  obtain ⟨k, _, rfl⟩ := List.mem_map.mp hx
  exact Deep.int
theorem deep_mover {n : Nat} (m : Mv) : Deep (n + 1) m.d := by
  refine Deep.tup (by simp) fun x hx => ?_
  have hx : x ∈ [(match m.shape with | some k => D.int k | none => .non), .int m.x, .int m.y, .int m.rank, .int m.turn] := hx
  simp only [List.mem_cons, List.not_mem_nil, or_false] at hx
  rcases hx with rfl | rfl | rfl | rfl | rfl
  · cases m.shape with
    | some k => exact Deep.int
    | none =>
      cases n with
      | zero => exact ⟨_, rfl⟩
      | succ n => exact ⟨⟨_, rfl⟩, fun xs e => by cases e⟩
  all_goals exact Deep.int
theorem deep_stn {s : Stn} {mm : Int} (ok : StnOk mm s) (hm : mm ≤ 900) : Deep 4 s.d := by
  refine Deep.tup (by simp) fun x hx => ?_
  have hx : x ∈ [rowsD s.floor, .tup [.int s.sx, .int s.sy], .tup (s.book.map rowsD), .tup (s.movers.map Mv.d), .tup (s.pots.map D.int)] := hx
  simp only [List.mem_cons, List.not_mem_nil, or_false] at hx
  rcases hx with rfl | rfl | rfl | rfl | rfl
  · exact deep_rows (by decide) ok.floor
  · refine Deep.tup (by simp) fun x hx => ?_
    simp only [List.mem_cons, List.not_mem_nil, or_false] at hx
    rcases hx with rfl | rfl <;> exact Deep.int
  · refine Deep.tup (by rw [List.length_map]; have := ok.bl; omega) fun x hx => ?_
    obtain ⟨b, hb, rfl⟩ := List.mem_map.mp hx
    exact deep_rows (by decide) (ok.book b hb)
  · refine Deep.tup (by rw [List.length_map]; have := ok.ml; omega) fun x hx => ?_
    obtain ⟨m, _, rfl⟩ := List.mem_map.mp hx
    exact deep_mover m
  · refine Deep.tup (by rw [List.length_map]; have := ok.pl; omega) fun x hx => ?_
    obtain ⟨k, _, rfl⟩ := List.mem_map.mp hx
    exact Deep.int
theorem moverB_d {n : Nat} {m : Mv} (h : MvOk n m) : moverB n m.d = true := by
  have e : numB n (match m.shape with | some k => D.int k | none => .non) = true := by
    cases hs : m.shape with
    | none => rfl
    | some k =>
      have := h.s k hs
      exact wholeB_int (lo := 0) (hi := (n : Int) - 1) (i := (k : Int)) ⟨by omega, by omega⟩
  show (numB n (match m.shape with | some k => D.int k | none => .non) && _) = true
  rw [e, wholeB_int h.x, wholeB_int h.y, wholeB_int h.r, wholeB_int h.t]; rfl
theorem standB_d {s : Stn} {mm : Int} (ok : StnOk mm s) (hm : mm ≤ 12) : standB s.d = true := by
  have f := block_rows ok.floor
  have p : pairB (.tup [.int s.sx, .int s.sy]) = true := by
    show (true && ([D.int s.sx, .int s.sy].all (wholeB (-1000) 1000))) = true
    simp [wholeB_int ok.sx, wholeB_int ok.sy]
  have po : potsB (.tup (s.pots.map D.int)) = true := by
    show (decide ((s.pots.map D.int).length = 16) && (s.pots.map D.int).all (wholeB 0 63)) = true
    rw [ints_whole ok.pots, List.length_map, ok.pl]; rfl
  have b : bookB (.tup (s.book.map rowsD)) = true := by
    show (decide ((s.book.map rowsD).length ≤ 8) && (s.book.map rowsD).all (blockB 8)) = true
    have : (s.book.map rowsD).all (blockB 8) = true := List.all_eq_true.mpr fun x hx => by
      obtain ⟨q, hq, rfl⟩ := List.mem_map.mp hx
      exact block_rows (ok.book q hq)
    rw [this, List.length_map]
    simp [ok.bl]
  have m : moversB (lenD (.tup (s.book.map rowsD))) (.tup (s.movers.map Mv.d)) = true := by
    show (decide ((s.movers.map Mv.d).length ≤ 12) && (s.movers.map Mv.d).all (moverB (s.book.map rowsD).length)) = true
    have : (s.movers.map Mv.d).all (moverB (s.book.map rowsD).length) = true := List.all_eq_true.mpr fun x hx => by
      obtain ⟨q, hq, rfl⟩ := List.mem_map.mp hx
      rw [List.length_map]
      exact moverB_d (ok.movers q hq)
    have l : s.movers.length ≤ 12 := by have := ok.ml; omega
    rw [this, List.length_map]
    simp [l]
  show ((blockB 16 (rowsD s.floor) && (pairB (.tup [.int s.sx, .int s.sy]) && potsB (.tup (s.pots.map D.int)))) && (bookB (.tup (s.book.map rowsD)) && moversB (lenD (.tup (s.book.map rowsD))) (.tup (s.movers.map Mv.d)))) = true
  rw [f, p, po, b, m]; rfl
/-! frames -/
def frameB : D → Bool
  | .tup [w, h, g, m] => wholeB 1 40 w && (wholeB 1 40 h && (wholeB 0 20 g && wholeB 0 12 m))
  | _ => false
theorem isframe_ok {d : D} {M : Mem} (h : Deep 1 d) : F_is_frame [d] M = .ok (.bl (frameB d)) M := by
  have g1 := isi_tup (i := 0) (ρ := [some d, none, none, none, none]) (M := M) h.1 rfl
  show retOf (g_is_frame [some d, none, none, none, none] M) = _
  unfold g_is_frame
  cases d with
  | tup xs =>
    have hx := h.2 xs rfl
    have ne : g2 (eqOp true) (gBlt lenF (DL.gCons (gVar 0) DL.gNil)) (gC (.int 4)) [some (.tup xs), none, none, none, none] M = .ok (.bl (!decide ((xs.length : Int) = 4))) M := g2_ok (x := .int xs.length) (y := .int 4) rfl rfl (eqI_t _ _ _)
    have t1 := orT_ok (notT_ok (tru_bl g1)) fun _ => tst_bl ne
    match xs, hx, t1 with
    | [w, h, g, m], hx, t1 =>
      rw [sq_nx ((if_f t1).trans rfl)]
      have q : ∀ z ∈ [w, h, g, m], TyOk z := fun z hz => hx.2 z hz
      have k1 := within_ok (lo := 1) (hi := 40) (M := M) (q w (by simp))
      have k2 := within_ok (lo := 1) (hi := 40) (M := M) (q h (by simp))
      have k3 := within_ok (lo := 0) (hi := 20) (M := M) (q g (by simp))
      have k4 := within_ok (lo := 0) (hi := 12) (M := M) (q m (by simp))
      have asg : sAsg (tupN [1, 2, 3, 4]) (gVar 0) [some (.tup [w, h, g, m]), none, none, none, none] M = .ok (.nx [some (.tup [w, h, g, m]), some w, some h, some g, some m]) M := rfl
      rw [sq_nx asg]
      rw [ret_ok (and_ok (call3 (x := w) (y := .int 1) (z := .int 40) rfl rfl rfl k1) fun _ => and_ok (call3 (x := h) (y := .int 1) (z := .int 40) rfl rfl rfl k2) fun _ => and_ok (call3 (x := g) (y := .int 0) (z := .int 20) rfl rfl rfl k3) fun _ => call3 (x := m) (y := .int 0) (z := .int 12) rfl rfl rfl k4)]
      rfl
    | [], _, t1 => rw [sq_rt ((if_t t1).trans rfl)]; rfl
    | [_], _, t1 => rw [sq_rt ((if_t t1).trans rfl)]; rfl
    | [_, _], _, t1 => rw [sq_rt ((if_t t1).trans rfl)]; rfl
    | [_, _, _], _, t1 => rw [sq_rt ((if_t t1).trans rfl)]; rfl
    | _ :: _ :: _ :: _ :: _ :: r, _, t1 =>
      have z : (!decide (((r.length + 1 + 1 + 1 + 1 + 1 : Nat) : Int) = 4)) = true := by simp; omega
      simp only [List.length_cons] at t1
      rw [z] at t1
      rw [sq_rt ((if_t t1).trans rfl)]; rfl
  | _ => rw [sq_rt ((if_t (orT_ok (y := false) (notT_ok (tru_bl g1)) fun z => by cases z)).trans rfl)]; rfl
structure FrOk (w h g m : Int) : Prop where
  w : 1 ≤ w ∧ w ≤ 40
  h : 1 ≤ h ∧ h ≤ 40
  g : 0 ≤ g ∧ g ≤ 20
  m : 0 ≤ m ∧ m ≤ 12
def frD (w h g m : Int) : D := .tup [.int w, .int h, .int g, .int m]
theorem frameB_d {w h g m : Int} (k : FrOk w h g m) : frameB (frD w h g m) = true := by
  show (wholeB 1 40 (.int w) && (wholeB 1 40 (.int h) && (wholeB 0 20 (.int g) && wholeB 0 12 (.int m)))) = true
  rw [wholeB_int k.w, wholeB_int k.h, wholeB_int k.g, wholeB_int k.m]; rfl
theorem deep_frame {n : Nat} {w h g m : Int} : Deep (n + 1) (frD w h g m) := by
  refine Deep.tup (by simp) fun x hx => ?_
  simp only [List.mem_cons, List.not_mem_nil, or_false] at hx
  rcases hx with rfl | rfl | rfl | rfl <;> exact Deep.int
/-- what a beam begins with -/
theorem begin_ok {f s : D} {M : Mem} (hf : Deep 1 f) (hs : Deep 4 s) (bf : frameB f = true) (bs : standB s = true) : F_check_begin [f, s] M = .ok .non M := by
  have k1 := isframe_ok (M := M) hf
  have k2 := isstand_ok (M := M) hs
  rw [bf] at k1
  rw [bs] at k2
  show retOf (g_check_begin [some f, some s] M) = _
  unfold g_check_begin
  rw [sq_nx ((if_f (notT_ok (tru_bl (call1 (a := gVar 0) rfl k1)))).trans rfl), if_f (notT_ok (tru_bl (call1 (a := gVar 1) rfl k2)))]
  rfl
theorem begin_noframe {f s : D} {M : Mem} (hf : Deep 1 f) (bf : frameB f = false) : F_check_begin [f, s] M = .err "NoFrame" M := by
  have k1 := isframe_ok (M := M) hf
  rw [bf] at k1
  show retOf (g_check_begin [some f, some s] M) = _
  unfold g_check_begin
  rw [sq_er ((if_t (notT_ok (tru_bl (call1 (a := gVar 0) rfl k1)))).trans rfl)]
  rfl
theorem begin_nostand {f s : D} {M : Mem} (hf : Deep 1 f) (hs : Deep 4 s) (bf : frameB f = true) (bs : standB s = false) : F_check_begin [f, s] M = .err "NoStand" M := by
  have k1 := isframe_ok (M := M) hf
  have k2 := isstand_ok (M := M) hs
  rw [bf] at k1
  rw [bs] at k2
  show retOf (g_check_begin [some f, some s] M) = _
  unfold g_check_begin
  rw [sq_nx ((if_f (notT_ok (tru_bl (call1 (a := gVar 0) rfl k1)))).trans rfl), if_t (notT_ok (tru_bl (call1 (a := gVar 1) rfl k2)))]
  rfl
theorem isdeed_ok {s : Stn} {d : D} {M : Mem} (ok : ThingOk d) : F_is_deed [s.d, d] M = .ok (.bl (deedB s.book.length s.movers.length d)) M := by
  obtain ⟨k1, k2, k3, k4, k5, k6, _⟩ := strOk_words
  obtain ⟨ty, inn⟩ := ok
  cases d with
  | tup xs =>
    obtain ⟨hl, hx⟩ := inn xs rfl
    unfold F_is_deed g_is_deed
    match xs, hl, hx with
    | [], _, _ => simp_arith [deedB]
    | [a], _, _ =>
      have : deedB s.book.length s.movers.length (.tup [a]) = false := by cases a <;> simp [deedB]
      rw [this]; simp_arith [DL.bind_ok]
    | [a, b], _, _ =>
      have : deedB s.book.length s.movers.length (.tup [a, b]) = false := by cases a <;> simp [deedB]
      rw [this]; simp_arith [DL.bind_ok]
    | a :: b :: c :: r, hl, hx =>
      have ha := (hx a (by simp)).2
      have hb := (hx b (by simp)).1
      have hc := (hx c (by simp)).1
      have hr : ∀ x ∈ r, TyOk x := fun x q => (hx x (by simp [q])).1
      have lr : r.length ≤ 2000 := by simp at hl; omega
      have md := moverdeed_ok (s := s) (M := M) lr ha hb hc hr
      have pp := pair_ok (xs := b :: c :: r) (M := M) (fun x q => (hx x (List.mem_cons_of_mem _ q)).1) (by simp; omega)
      have ii := ink_ok (M := M) hb
      have hh := hue_ok (M := M) hc
      have n3 : ¬ ((r.length : Int) + 1 + 1 + 1 < 3) := by omega
      have hi : ((r.length : Int) + 1 + 1 = 2) = (r = []) := by cases r <;> simp <;> omega
      have hi' : ((r.length : Int) + 1 + 1 == 2) = decide (r = []) := by cases r <;> simp <;> omega
      cases a with
      | str w =>
        have ks : PyData.strOk w = true := by simpa using ha
        by_cases h1 : w = "shift"
        · subst h1
          simp_arith [ix0, ix1, cut_1, n3, eqOp, k1, pp, deedB]
        · by_cases h2 : w = "pot"
          · subst h2
            by_cases h0 : r = []
            · subst h0
              cases q1 : wholeB 0 15 b <;> rw [q1] at ii <;> simp_arith [ix0, ix1, cut_1, n3, eqOp, k1, k2, h1, ii, hh, q1, deedB]
            · simp_arith [ix0, ix1, cut_1, n3, eqOp, k1, k2, h1, h0, hi, hi', deedB]
          · simp only at md
            simp_arith [ix0, ix1, cut_1, n3, eqOp, k1, k2, ks, h1, h2, md, deedB]
      | non | bl _ | int _ | tup _ | lst _ | ro _ =>
        simp only at md
        simp_arith [ix0, ix1, cut_1, n3, eqOp, k1, k2, ha, now, no_word, md, deedB]
      | _ => simp [cmpOk] at ha
  | non | bl _ | int _ | str _ | lst _ | ro _ =>
    unfold F_is_deed g_is_deed
    simp_arith [deedB]
  | _ => obtain ⟨t, h⟩ := ty; cases h
/-! deeds as data; the stand behind one -/
inductive Dd where
  | shift (x y : Int) | pot (k h : Int) | move (i : Nat) (x y : Int) | shape (i : Nat) (o : Option Nat) | rank (i : Nat) (r : Int) | turn (i : Nat) (t : Int)
def numD (o : Option Nat) : D := match o with | some k => .int k | none => .non
def Dd.d : Dd → D
  | .shift x y => .tup [.str "shift", .int x, .int y]
  | .pot k h => .tup [.str "pot", .int k, .int h]
  | .move i x y => .tup [.str "move", .int i, .int x, .int y]
  | .shape i o => .tup [.str "shape", .int i, numD o]
  | .rank i r => .tup [.str "rank", .int i, .int r]
  | .turn i t => .tup [.str "turn", .int i, .int t]
def DdOk (s : Stn) : Dd → Prop
  | .shift x y => (-1000 ≤ x ∧ x ≤ 1000) ∧ (-1000 ≤ y ∧ y ≤ 1000)
  | .pot k h => (0 ≤ k ∧ k ≤ 15) ∧ (0 ≤ h ∧ h ≤ 63)
  | .move i x y => i < s.movers.length ∧ (-1000 ≤ x ∧ x ≤ 1000) ∧ (-1000 ≤ y ∧ y ≤ 1000)
  | .shape i o => i < s.movers.length ∧ ∀ k, o = some k → k < s.book.length
  | .rank i r => i < s.movers.length ∧ (0 ≤ r ∧ r ≤ 3)
  | .turn i t => i < s.movers.length ∧ (0 ≤ t ∧ t ≤ 3)
def setMv (s : Stn) (i : Nat) (f : Mv → Mv) : Stn := match s.movers[i]? with
  | some m => { s with movers := s.movers.set i (f m) }
  | none => s
def behindS (s : Stn) : Dd → Stn
  | .shift x y => { s with sx := x, sy := y }
  | .pot k h => { s with pots := s.pots.set k.toNat h }
  | .move i x y => setMv s i fun m => { m with x := x, y := y }
  | .shape i o => setMv s i fun m => { m with shape := o }
  | .rank i r => setMv s i fun m => { m with rank := r }
  | .turn i t => setMv s i fun m => { m with turn := t }
theorem deed_thing {s : Stn} {dd : Dd} : ThingOk dd.d := by
  obtain ⟨k1, k2, k3, k4, k5, k6, _⟩ := strOk_words
  have nm : ∀ o : Option Nat, TyOk (numD o) ∧ cmpOk 40 (numD o) = true := fun o => by
    cases o with
    | none => exact ⟨⟨_, rfl⟩, rfl⟩
    | some k => exact ⟨⟨_, rfl⟩, rfl⟩
  cases dd with
  | _ =>
    refine ⟨⟨_, rfl⟩, fun xs e => ?_⟩
    cases e
    refine ⟨by simp, fun x hx => ?_⟩
    simp only [List.mem_cons, List.mem_nil_iff, or_false] at hx
    first
      | (rcases hx with rfl | rfl | rfl <;> first | exact nm _ | exact ⟨⟨_, rfl⟩, by simp [*]⟩)
      | (rcases hx with rfl | rfl | rfl | rfl <;> first | exact nm _ | exact ⟨⟨_, rfl⟩, by simp [*]⟩)
theorem deedB_d {s : Stn} {dd : Dd} (h : DdOk s dd) : deedB s.book.length s.movers.length dd.d = true := by
  cases dd with
  | shift x y => simp [Dd.d, deedB, wholeB, h.1.1, h.1.2, h.2.1, h.2.2]
  | pot k hu =>
    have n1 : ¬ Str.ofString "pot" = Str.ofString "shift" := by decide
    simp [Dd.d, deedB, wholeB, n1, h.1.1, h.1.2, h.2.1, h.2.2]
  | move i x y =>
    have n1 : ¬ Str.ofString "move" = Str.ofString "shift" := by decide
    have n2 : ¬ Str.ofString "move" = Str.ofString "pot" := by decide
    have hi : (i : Int) ≤ (s.movers.length : Int) - 1 := by have := h.1; omega
    simp [Dd.d, deedB, moverDeedB, wholeB, n1, n2, hi, h.2.1.1, h.2.1.2, h.2.2.1, h.2.2.2]
  | shape i o =>
    have n1 : ¬ Str.ofString "shape" = Str.ofString "shift" := by decide
    have n2 : ¬ Str.ofString "shape" = Str.ofString "pot" := by decide
    have n3 : ¬ Str.ofString "shape" = Str.ofString "move" := by decide
    have hi : (i : Int) ≤ (s.movers.length : Int) - 1 := by have := h.1; omega
    cases o with
    | none => simp [Dd.d, numD, deedB, moverDeedB, wholeB, numB, n1, n2, n3, hi]
    | some k =>
      have hk : (k : Int) ≤ (s.book.length : Int) - 1 := by have := h.2 k rfl; omega
      simp [Dd.d, numD, deedB, moverDeedB, wholeB, numB, n1, n2, n3, hi, hk]
  | rank i r =>
    have n1 : ¬ Str.ofString "rank" = Str.ofString "shift" := by decide
    have n2 : ¬ Str.ofString "rank" = Str.ofString "pot" := by decide
    have n3 : ¬ Str.ofString "rank" = Str.ofString "move" := by decide
    have n4 : ¬ Str.ofString "rank" = Str.ofString "shape" := by decide
    have hi : (i : Int) ≤ (s.movers.length : Int) - 1 := by have := h.1; omega
    simp [Dd.d, deedB, moverDeedB, wholeB, n1, n2, n3, n4, hi, h.2.1, h.2.2]
  | turn i t =>
    have n1 : ¬ Str.ofString "turn" = Str.ofString "shift" := by decide
    have n2 : ¬ Str.ofString "turn" = Str.ofString "pot" := by decide
    have n3 : ¬ Str.ofString "turn" = Str.ofString "move" := by decide
    have n4 : ¬ Str.ofString "turn" = Str.ofString "shape" := by decide
    have n5 : ¬ Str.ofString "turn" = Str.ofString "rank" := by decide
    have hi : (i : Int) ≤ (s.movers.length : Int) - 1 := by have := h.1; omega
    simp [Dd.d, deedB, moverDeedB, wholeB, n1, n2, n3, n4, n5, hi, h.2.1, h.2.2]
theorem whole_int {lo hi : Int} {d : D} (h : wholeB lo hi d = true) : ∃ i, d = .int i ∧ lo ≤ i ∧ i ≤ hi := by
  cases d with
  | int i => simp [wholeB] at h; exact ⟨i, rfl, h.1, h.2⟩
  | _ => cases h
theorem whole_nat {n : Nat} {d : D} (h : wholeB 0 ((n : Int) - 1) d = true) : ∃ k : Nat, d = .int k ∧ k < n := by
  obtain ⟨i, rfl, a, b⟩ := whole_int h
  obtain ⟨k, rfl⟩ := Int.eq_ofNat_of_zero_le a
  exact ⟨k, rfl, by omega⟩
theorem deed_of {s : Stn} {d : D} (h : deedB s.book.length s.movers.length d = true) : ∃ dd, d = Dd.d dd ∧ DdOk s dd := by
  cases d with
  | tup xs =>
    cases xs with
    | nil => cases h
    | cons a r =>
      cases a with
      | str w =>
        unfold deedB at h
        dsimp only at h
        by_cases h1 : w = "shift"
        · subst h1
          rw [if_pos rfl, Bool.and_eq_true, decide_eq_true_eq] at h
          match r, h with
          | [a, b], ⟨_, h⟩ =>
            simp only [List.all_cons, List.all_nil, Bool.and_true, Bool.and_eq_true] at h
            obtain ⟨x, rfl, x1, x2⟩ := whole_int h.1
            obtain ⟨y, rfl, y1, y2⟩ := whole_int h.2
            exact ⟨.shift x y, rfl, ⟨x1, x2⟩, y1, y2⟩
          | [], ⟨h, _⟩ => cases h
          | [_], ⟨h, _⟩ => cases h
          | _ :: _ :: _ :: _, ⟨h, _⟩ => simp at h
        · rw [if_neg h1] at h
          by_cases h2 : w = "pot"
          · subst h2
            rw [if_pos rfl, Bool.and_eq_true, decide_eq_true_eq] at h
            match r, h with
            | [a, b], ⟨_, h⟩ =>
              simp at h
              obtain ⟨x, rfl, x1, x2⟩ := whole_int h.1
              obtain ⟨y, rfl, y1, y2⟩ := whole_int h.2
              exact ⟨.pot x y, rfl, ⟨x1, x2⟩, y1, y2⟩
            | [], ⟨h, _⟩ => cases h
            | [_], ⟨h, _⟩ => cases h
            | _ :: _ :: _ :: _, ⟨h, _⟩ => simp at h
          · rw [if_neg h2, Bool.and_eq_true, decide_eq_true_eq] at h
            obtain ⟨h0, h⟩ := h
            unfold moverDeedB at h
            rw [Bool.and_eq_true] at h
            obtain ⟨hn, h⟩ := h
            match r, h0, hn, h with
            | a :: b :: r, _, hn, h =>
              obtain ⟨i, ei, hi⟩ := whole_nat (show wholeB 0 ((s.movers.length : Int) - 1) a = true from hn)
              subst ei
              by_cases h3 : w = "move"
              · subst h3
                rw [if_pos rfl, Bool.and_eq_true, decide_eq_true_eq] at h
                match r, h with
                | [c], ⟨_, h⟩ =>
                  simp at h
                  obtain ⟨x, rfl, x1, x2⟩ := whole_int h.1
                  obtain ⟨y, rfl, y1, y2⟩ := whole_int h.2
                  exact ⟨.move i x y, rfl, hi, ⟨x1, x2⟩, y1, y2⟩
                | [], ⟨h, _⟩ => simp at h
                | _ :: _ :: _, ⟨h, _⟩ => simp at h
              · rw [if_neg h3, Bool.and_eq_true, decide_eq_true_eq] at h
                obtain ⟨hl, h⟩ := h
                have hr : r = [] := by cases r with | nil => rfl | cons _ _ => simp at hl
                subst hr
                have h : (if w = "shape" then numB s.book.length b else if w = "rank" then wholeB 0 3 b else decide (w = "turn") && wholeB 0 3 b) = true := h
                by_cases h4 : w = "shape"
                · subst h4
                  rw [if_pos rfl] at h
                  cases b with
                  | non => exact ⟨.shape i none, rfl, hi, fun k e => by cases e⟩
                  | int j =>
                    obtain ⟨k, ek, hk⟩ := whole_nat (show wholeB 0 ((s.book.length : Int) - 1) (.int j) = true from h)
                    rw [ek]
                    exact ⟨.shape i (some k), rfl, hi, fun k' e => by cases e; exact hk⟩
                  | _ => cases h
                · rw [if_neg h4] at h
                  by_cases h5 : w = "rank"
                  · subst h5
                    rw [if_pos rfl] at h
                    obtain ⟨y, rfl, y1, y2⟩ := whole_int h
                    exact ⟨.rank i y, rfl, hi, y1, y2⟩
                  · rw [if_neg h5, Bool.and_eq_true, decide_eq_true_eq] at h
                    obtain ⟨rfl, h⟩ := h
                    obtain ⟨y, rfl, y1, y2⟩ := whole_int h
                    exact ⟨.turn i y, rfl, hi, y1, y2⟩
            | [], h0, _, _ => simp at h0
            | [_], h0, _, _ => simp at h0
      | _ => cases h
  | _ => cases h
theorem at50 (a b c d e : D) : atI [a, b, c, d, e] 0 = some a := rfl
theorem at51 (a b c d e : D) : atI [a, b, c, d, e] 1 = some b := rfl
theorem at52 (a b c d e : D) : atI [a, b, c, d, e] 2 = some c := rfl
theorem at53 (a b c d e : D) : atI [a, b, c, d, e] 3 = some d := rfl
theorem at54 (a b c d e : D) : atI [a, b, c, d, e] 4 = some e := rfl
theorem mv_d (m : Mv) : m.d = .tup [numD m.shape, .int m.x, .int m.y, .int m.rank, .int m.turn] := by
  unfold Mv.d numD
  cases m.shape <;> rfl
theorem lawdeed_ok {l : List Int} {rest M : Mem} {w hh : Int} {more : List D} {s : Stn} {mm : Int} (ok : StnOk mm s) (hm : mm ≤ 900) (hw : 0 ≤ w ∧ w ≤ 900) (hh2 : 0 ≤ hh ∧ hh ≤ 900) (hM : Tape l rest M) :
    ∃ dd M', DdOk s dd ∧ Tape l rest M' ∧ F__law_deed [.mr 0, .tup (.int w :: .int hh :: more), s.d] M = .ok dd.d M' := by
  obtain ⟨way, M1, a1, b1, t1, e1⟩ := draw_ok (many := 8) (by decide) (log_small (by decide) (by decide)) hM
  have ml := ok.ml
  have l3 : (3 : Nat) ≤ sizeLine := le_line (by decide)
  have l4 : (4 : Nat) ≤ sizeLine := le_line (by decide)
  have l2 : (2 : Nat) ≤ sizeLine := le_line (by decide)
  have lg2 : Nat.log2 2 < 9000 := by decide
  have cm : cmpOks 39 (s.movers.map Mv.d) = true := cmpOks_all fun d hd => by
    obtain ⟨m, _, rfl⟩ := List.mem_map.mp hd
    rw [mv_d]
    have : cmpOk 38 (numD m.shape) = true := by cases m.shape <;> rfl
    simp [this]
  have en : eqB (.tup (s.movers.map Mv.d)) (.tup []) = decide (s.movers = []) := by
    cases s.movers <;> simp
  by_cases hc : way < 2 ∨ s.movers = []
  · obtain ⟨x, M2, a2, t2, e2⟩ := far_ok (size := 9) (by decide) (by decide) t1
    obtain ⟨y, M3, a3, t3, e3⟩ := far_ok (size := 9) (by decide) (by decide) t2
    obtain ⟨k, M4, a4, b4, t4, e4⟩ := draw_ok (many := 16) (by decide) (log_small (by decide) (by decide)) t3
    obtain ⟨hu, M5, a5, b5, t5, e5⟩ := draw_ok (many := 64) (by decide) (log_small (by decide) (by decide)) t4
    have w2 : way % 2 = 0 ∨ way % 2 = 1 := by omega
    rcases w2 with w2 | w2
    · refine ⟨.shift x y, M5, ⟨a2, a3⟩, t5, ?_⟩
      have i0 : ∀ a b : D, atI [a, b] 0 = some a := fun _ _ => rfl
      unfold F__law_deed g__law_deed
      by_cases h2 : way < 2
      · simp_arith [Stn.d, e1, e2, e3, e4, e5, h2, l2, l3, lg2, w2, i0, Dd.d]
      · have h0 : s.movers = [] := hc.resolve_left h2
        simp_arith [Stn.d, at53, eqOp, e1, e2, e3, e4, e5, h2, h0, l2, l3, lg2, w2, i0, Dd.d]
    · refine ⟨.pot k hu, M5, ⟨⟨a4, by omega⟩, a5, by omega⟩, t5, ?_⟩
      have i0 : ∀ a b : D, atI [a, b] 1 = some b := fun _ _ => rfl
      unfold F__law_deed g__law_deed
      by_cases h2 : way < 2
      · simp_arith [Stn.d, e1, e2, e3, e4, e5, h2, l2, l3, lg2, w2, i0, Dd.d]
      · have h0 : s.movers = [] := hc.resolve_left h2
        simp_arith [Stn.d, at53, eqOp, e1, e2, e3, e4, e5, h2, h0, l2, l3, lg2, w2, i0, Dd.d]
  · have h2 : ¬ way < 2 := fun z => hc (.inl z)
    have h0 : ¬ s.movers = [] := fun z => hc (.inr z)
    have hp : 0 < s.movers.length := List.length_pos_iff.mpr h0
    obtain ⟨n, M2, a2, b2, t2, e2⟩ := draw_ok (many := (s.movers.length : Int)) (by omega) (log_small (by omega) (by omega)) t1
    obtain ⟨m, M3, mo, t3, e3⟩ := mover_ok (more := more) (n := s.book.length) hw hh2 (by have := ok.bl; omega) t2
    obtain ⟨i, rfl⟩ := Int.eq_ofNat_of_zero_le a2
    have hi : i < s.movers.length := by omega
    rw [mv_d] at e3
    have i5 := fun a b c d e : D => ix0 a [b, c, d, e]
    by_cases h5 : way < 5
    · refine ⟨.move i m.x m.y, M3, ⟨hi, mo.x, mo.y⟩, t3, ?_⟩
      unfold F__law_deed g__law_deed
      simp_arith [Stn.d, at52, at53, eqOp, e1, e2, e3, cm, en, h0, h2, h5, l4, ix1, ix2, Dd.d]
    · have w3 : way - 5 = 0 ∨ way - 5 = 1 ∨ way - 5 = 2 := by omega
      unfold F__law_deed g__law_deed
      rcases w3 with w3 | w3 | w3
      · refine ⟨.shape i m.shape, M3, ⟨hi, mo.s⟩, t3, ?_⟩
        have i0 : ∀ a b c : D, atI [a, b, c] 0 = some a := fun _ _ _ => rfl
        simp_arith [Stn.d, at52, at53, at54, eqOp, e1, e2, e3, cm, en, h0, h2, h5, l3, ix0, ix1, ix2, ix3, w3, i0, Dd.d]
      · refine ⟨.rank i m.rank, M3, ⟨hi, mo.r⟩, t3, ?_⟩
        have i0 : ∀ a b c : D, atI [a, b, c] 1 = some b := fun _ _ _ => rfl
        simp_arith [Stn.d, at52, at53, at54, eqOp, e1, e2, e3, cm, en, h0, h2, h5, l3, ix0, ix1, ix2, ix3, w3, i0, Dd.d]
      · refine ⟨.turn i m.turn, M3, ⟨hi, mo.t⟩, t3, ?_⟩
        have i0 : ∀ a b c : D, atI [a, b, c] 2 = some c := fun _ _ _ => rfl
        simp_arith [Stn.d, at52, at53, at54, eqOp, e1, e2, e3, cm, en, h0, h2, h5, l3, ix0, ix1, ix2, ix3, w3, i0, Dd.d]
/-! scores -/
def db3t : GT := (gTst (g2 (eqOp false) (g2 ixD (gVar 7) (gC (.int 0))) (gC (.str "do"))))
def db3a : GS := (sDrop (gApp (gVar 4) (DL.gTup (DL.gCons (gVar 6) (DL.gCons (g2 ixD (gVar 7) (gC (.int 1))) DL.gNil)))))
def db3 : GS := (sIf db3t db3a sNext)
def db4 : GS := (sSet 5 (gCall 4 F_place_behind (DL.gCons (gVar 0) (DL.gCons (gVar 7) (DL.gCons (gVar 5) (DL.gCons (gVar 6) DL.gNil))))))
theorem db_eq (ρ : Rho) (M : Mem) : b1_deeds_by ρ M = (sSeq (sSet 7 (g2 ixD (gVar 2) (gVar 5))) (sSeq (sSet 6 (gCall 3 F_tick_of_line (DL.gCons (gVar 0) (DL.gCons (gVar 7) (DL.gCons (gVar 6) DL.gNil))))) (sSeq (sIf (gTst (g2 geD (gVar 6) (gCall 1 F_ticks_of (DL.gCons (gVar 0) DL.gNil)))) (sRet (gVar 4)) sNext) (sSeq db3 (sSeq db4 (sAug 6 true (gVar 3))))))) ρ M := rfl
def lh1t : GT := (gAndT (gTst (g2 (eqOp false) (g2 ixD (gVar 7) (gC (.int 0))) (gC (.str "wait")))) (gTst (g2 gtD (g2 addD (g2 mulD (g2 ixD (gVar 7) (gC (.int 1))) (gVar 3)) (g2 ixD (gVar 7) (gC (.int 2)))) (gVar 6))))
def lh1a : GS := (sSet 6 (g2 addD (g2 mulD (g2 ixD (gVar 7) (gC (.int 1))) (gVar 3)) (g2 ixD (gVar 7) (gC (.int 2)))))
def lh1 : GS := (sIf lh1t lh1a sNext)
def lh2t : GT := (gTst (g2 gtD (gVar 6) (g2 subD (g2 mulD (gVar 3) (g2 ixD (gVar 0) (gC (.int 1)))) (gC (.int 1)))))
def lh2 : GS := (sIf lh2t (sRet (gVar 4)) sNext)
def lh4t : GT := (gTst (g2 (eqOp false) (g2 ixD (gVar 7) (gC (.int 0))) (gC (.str "do"))))
def lh4a : GS := (sDrop (gApp (gVar 4) (DL.gTup (DL.gCons (gVar 6) (DL.gCons (g2 ixD (gVar 7) (gC (.int 1))) DL.gNil)))))
def lh4 : GS := (sIf lh4t lh4a sNext)
def lh5t : GT := (gTst (g2 (eqOp false) (g2 ixD (gVar 7) (gC (.int 0))) (gC (.str "to"))))
def lh5 : GS := (sIf lh5t (sSet 8 (g2 ixD (gVar 7) (gC (.int 1)))) sNext)
def lh6t : GT := (gAndT (gTst (g2 (eqOp false) (g2 ixD (gVar 7) (gC (.int 0))) (gC (.str "skip")))) (gTst (g2 leD (g2 addD (g2 mulD (g2 ixD (gVar 7) (gC (.int 1))) (gVar 3)) (g2 ixD (gVar 7) (gC (.int 2)))) (gVar 6))))
def lh6 : GS := (sIf lh6t (sSet 8 (g2 addD (gVar 5) (gC (.int 2)))) sNext)
theorem lh_eq (ρ : Rho) (M : Mem) : b1__law_hand ρ M = (sSeq (sSet 7 (g2 ixD (gVar 1) (gVar 5))) (sSeq lh1 (sSeq lh2 (sSeq (sSet 8 (g2 addD (gVar 5) (gC (.int 1)))) (sSeq lh4 (sSeq lh5 (sSeq lh6 (sSeq (sSet 5 (gVar 8)) (sSet 6 (g2 addD (gVar 6) (gVar 2))))))))))) ρ M := rfl
inductive Ln where
  | wait (r s : Int) | skip (r s : Int) | act (d : Dd) | to (k : Int)
def Ln.d : Ln → D
  | .wait r s => .tup [.str "wait", .int r, .int s]
  | .skip r s => .tup [.str "skip", .int r, .int s]
  | .act d => .tup [.str "do", d.d]
  | .to k => .tup [.str "to", .int k]
def LnOk (s : Stn) (n : Int) : Ln → Prop
  | .wait r q => (0 ≤ r ∧ r ≤ 60) ∧ (0 ≤ q ∧ q ≤ 60)
  | .skip r q => (0 ≤ r ∧ r ≤ 60) ∧ (0 ≤ q ∧ q ≤ 60)
  | .act d => DdOk s d
  | .to k => 0 ≤ k ∧ k < n
def Ln.tk (row tick : Int) : Ln → Int
  | .wait r s => if tick < r * row + s then r * row + s else tick
  | _ => tick
def Ln.later (row here t : Int) : Ln → Int
  | .to k => k
  | .skip r s => if r * row + s ≤ t then here + 2 else here + 1
  | _ => here + 1
def Ln.told (t : Int) : Ln → List D
  | .act d => [.tup [.int t, d.d]]
  | _ => []
def handGo (row tot pace : Int) (ls : List Ln) : Nat → Int → Int → List D → List D
  | 0, _, _, acc => acc
  | n + 1, here, tick, acc => match ls[here.toNat]? with
    | none => acc
    | some l => if tot ≤ l.tk row tick then acc else handGo row tot pace ls n (l.later row here (l.tk row tick)) (l.tk row tick + pace) (acc ++ l.told (l.tk row tick))
theorem sW : PyData.strOk "wait" = true ∧ PyData.strOk "skip" = true ∧ PyData.strOk "do" = true ∧ PyData.strOk "to" = true ∧
    (("wait" : Str) == "wait") = true ∧ (("wait" : Str) == "skip") = false ∧ (("wait" : Str) == "do") = false ∧ (("wait" : Str) == "to") = false ∧
    (("skip" : Str) == "wait") = false ∧ (("skip" : Str) == "skip") = true ∧ (("skip" : Str) == "do") = false ∧ (("skip" : Str) == "to") = false ∧
    (("do" : Str) == "wait") = false ∧ (("do" : Str) == "skip") = false ∧ (("do" : Str) == "do") = true ∧ (("do" : Str) == "to") = false ∧
    (("to" : Str) == "wait") = false ∧ (("to" : Str) == "skip") = false ∧ (("to" : Str) == "do") = false ∧ (("to" : Str) == "to") = true := by decide +kernel
def Ln.w : Ln → Str
  | .wait _ _ => "wait"
  | .skip _ _ => "skip"
  | .act _ => "do"
  | .to _ => "to"
def Ln.is (l : Ln) (k : Nat) : Bool := match l, k with
  | .wait _ _, 0 => true
  | .skip _ _, 1 => true
  | .act _, 2 => true
  | .to _, 3 => true
  | _, _ => false
/-- the word of a line, asked -/
theorem word_is (l : Ln) (M : Mem) : eqOp false (.str l.w) (.str "wait") M = .ok (.bl (l.is 0)) M ∧ eqOp false (.str l.w) (.str "skip") M = .ok (.bl (l.is 1)) M ∧ eqOp false (.str l.w) (.str "do") M = .ok (.bl (l.is 2)) M ∧ eqOp false (.str l.w) (.str "to") M = .ok (.bl (l.is 3)) M := by
  obtain ⟨a1, a2, a3, a4, b1, b2, b3, b4, c1, c2, c3, c4, d1, d2, d3, d4, e1, e2, e3, e4⟩ := sW
  cases l with
  | wait r q => exact ⟨(eqS_f a1 a1 M).trans (by rw [b1]; rfl), (eqS_f a1 a2 M).trans (by rw [b2]; rfl), (eqS_f a1 a3 M).trans (by rw [b3]; rfl), (eqS_f a1 a4 M).trans (by rw [b4]; rfl)⟩
  | skip r q => exact ⟨(eqS_f a2 a1 M).trans (by rw [c1]; rfl), (eqS_f a2 a2 M).trans (by rw [c2]; rfl), (eqS_f a2 a3 M).trans (by rw [c3]; rfl), (eqS_f a2 a4 M).trans (by rw [c4]; rfl)⟩
  | act d => exact ⟨(eqS_f a3 a1 M).trans (by rw [d1]; rfl), (eqS_f a3 a2 M).trans (by rw [d2]; rfl), (eqS_f a3 a3 M).trans (by rw [d3]; rfl), (eqS_f a3 a4 M).trans (by rw [d4]; rfl)⟩
  | to k => exact ⟨(eqS_f a4 a1 M).trans (by rw [e1]; rfl), (eqS_f a4 a2 M).trans (by rw [e2]; rfl), (eqS_f a4 a3 M).trans (by rw [e3]; rfl), (eqS_f a4 a4 M).trans (by rw [e4]; rfl)⟩
theorem ln0 (l : Ln) (M : Mem) : ixD l.d (.int 0) M = .ok (.str l.w) M := by
  cases l <;> rfl
theorem rowticks_ok {w h g m : Int} {M : Mem} : F_row_ticks [frD w h g m] M = .ok (.int (w + g)) M := rfl
theorem tickscount_ok {w h g m : Int} {M : Mem} (k : FrOk w h g m) : F_ticks_of [frD w h g m] M = .ok (.int (h * (w + g))) M := by
  have mu := mul_ok (i := h) (j := w + g) (by have := k.h; omega) (by have := k.h; omega) M
  show retOf (g_ticks_of [some (frD w h g m), none, none, none, none] M) = _
  unfold g_ticks_of
  have asg : sAsg (tupN [1, 2, 3, 4]) (gVar 0) [some (frD w h g m), none, none, none, none] M = .ok (.nx [some (frD w h g m), some (.int w), some (.int h), some (.int g), some (.int m)]) M := rfl
  rw [sq_nx asg, ret_ok (g2_ok (x := .int h) rfl (call1 (a := gVar 0) rfl rowticks_ok) mu)]; rfl
theorem named_ok {w h g m r s : Int} {x : Str} {M : Mem} (hr : 0 ≤ r ∧ r ≤ 60) : F_tick_named [frD w h g m, .tup [.str x, .int r, .int s]] M = .ok (.int (r * (w + g) + s)) M := by
  have mu := mul_ok (i := r) (j := w + g) (by omega) (by omega) M
  show retOf (g_tick_named [some (frD w h g m), some (.tup [.str x, .int r, .int s]), none, none, none] M) = _
  unfold g_tick_named
  have asg : sAsg (tupN [2, 3, 4]) (gVar 1) [some (frD w h g m), some (.tup [.str x, .int r, .int s]), none, none, none] M = .ok (.nx [some (frD w h g m), some (.tup [.str x, .int r, .int s]), some (.str x), some (.int r), some (.int s)]) M := rfl
  rw [sq_nx asg, ret_ok (g2_ok (x := .int (r * (w + g))) (y := .int s) (g2_ok (x := .int r) rfl (call1 (a := gVar 0) rfl rowticks_ok) mu) rfl rfl)]; rfl
theorem tickof_ok {w h g m tick : Int} {l : Ln} {s : Stn} {n : Int} {M : Mem} (ok : LnOk s n l) : F_tick_of_line [frD w h g m, l.d, .int tick] M = .ok (.int (l.tk (w + g) tick)) M := by
  have t := tst_bl (g2_ok (ρ := [some (frD w h g m), some l.d, some (.int tick)]) (a := g2 ixD (gVar 1) (gC (.int 0))) (b := gC (.str "wait")) (g2_ok rfl rfl (ln0 l M)) rfl (word_is l M).1)
  show retOf (g_tick_of_line [some (frD w h g m), some l.d, some (.int tick)] M) = _
  unfold g_tick_of_line
  cases l with
  | wait r q =>
    have nm := named_ok (w := w) (h := h) (g := g) (m := m) (r := r) (s := q) (x := "wait") (M := M) ok.1
    have mx : gBlt maxF (DL.gCons (gVar 2) (DL.gCons (gCall 2 F_tick_named (DL.gCons (gVar 0) (DL.gCons (gVar 1) DL.gNil))) DL.gNil)) [some (frD w h g m), some (Ln.wait r q).d, some (.int tick)] M = .ok (.int ((Ln.wait r q).tk (w + g) tick)) M := by
      have c := call2 (F := F_tick_named) (ρ := [some (frD w h g m), some (Ln.wait r q).d, some (.int tick)]) (a := gVar 0) (b := gVar 1) rfl rfl nm
      unfold gBlt DL.gCons
      show ((Out.ok (D.int tick) M).bind _).bind _ = _
      rw [DL.bind_ok]
      unfold DL.gNil at c ⊢
      unfold DL.gCons at c
      rw [c]; rfl
    rw [sq_rt ((if_t t).trans (ret_ok mx))]; rfl
  | skip r q => rw [sq_nx ((if_f t).trans rfl)]; rfl
  | act d => rw [sq_nx ((if_f t).trans rfl)]; rfl
  | to k => rw [sq_nx ((if_f t).trans rfl)]; rfl
theorem placebehind_ok {w h g m here t : Int} {l : Ln} {s : Stn} {n : Int} {M : Mem} (ok : LnOk s n l) : F_place_behind [frD w h g m, l.d, .int here, .int t] M = .ok (.int (l.later (w + g) here t)) M := by
  have t1 := tst_bl (g2_ok (ρ := [some (frD w h g m), some l.d, some (.int here), some (.int t)]) (a := g2 ixD (gVar 1) (gC (.int 0))) (b := gC (.str "to")) (g2_ok rfl rfl (ln0 l M)) rfl (word_is l M).2.2.2)
  have t2 := tst_bl (g2_ok (ρ := [some (frD w h g m), some l.d, some (.int here), some (.int t)]) (a := g2 ixD (gVar 1) (gC (.int 0))) (b := gC (.str "skip")) (g2_ok rfl rfl (ln0 l M)) rfl (word_is l M).2.1)
  show retOf (g_place_behind [some (frD w h g m), some l.d, some (.int here), some (.int t)] M) = _
  unfold g_place_behind
  cases l with
  | to k => rw [sq_rt ((if_t t1).trans (ret_ok (g2_ok rfl rfl (ix_tup (k := 1) rfl))))]; rfl
  | skip r q =>
    have nm := named_ok (w := w) (h := h) (g := g) (m := m) (r := r) (s := q) (x := "skip") (M := M) ok.1
    have ge : gTst (g2 geD (gVar 3) (gCall 2 F_tick_named (DL.gCons (gVar 0) (DL.gCons (gVar 1) DL.gNil)))) [some (frD w h g m), some (Ln.skip r q).d, some (.int here), some (.int t)] M = .ok (decide (r * (w + g) + q ≤ t)) M :=
      tst_bl (g2_ok (x := .int t) rfl (call2 (a := gVar 0) (b := gVar 1) rfl rfl nm) rfl)
    have a := andT_ok t2 fun _ => ge
    rw [sq_nx ((if_f t1).trans rfl)]
    by_cases k : r * (w + g) + q ≤ t
    · rw [decide_eq_true k] at a
      rw [sq_rt ((if_t a).trans rfl)]
      show Out.ok (D.int (here + 2)) M = Out.ok (D.int (if r * (w + g) + q ≤ t then here + 2 else here + 1)) M
      rw [if_pos k]
    · rw [decide_eq_false k] at a
      rw [sq_nx ((if_f a).trans rfl)]
      show Out.ok (D.int (here + 1)) M = Out.ok (D.int (if r * (w + g) + q ≤ t then here + 2 else here + 1)) M
      rw [if_neg k]
  | wait r q =>
    have a := andT_ok (b := gTst (g2 geD (gVar 3) (gCall 2 F_tick_named (DL.gCons (gVar 0) (DL.gCons (gVar 1) DL.gNil))))) (y := false) t2 fun z => by cases z
    rw [sq_nx ((if_f t1).trans rfl), sq_nx ((if_f a).trans rfl)]; rfl
  | act d =>
    have a := andT_ok (b := gTst (g2 geD (gVar 3) (gCall 2 F_tick_named (DL.gCons (gVar 0) (DL.gCons (gVar 1) DL.gNil))))) (y := false) t2 fun z => by cases z
    rw [sq_nx ((if_f t1).trans rfl), sq_nx ((if_f a).trans rfl)]; rfl
theorem later_ok {row here t n : Int} {l : Ln} {s : Stn} (ok : LnOk s n l) (h : 0 ≤ here) : 0 ≤ l.later row here t := by
  cases l with
  | to k => exact ok.1
  | skip r q => show 0 ≤ (if r * row + q ≤ t then here + 2 else here + 1); split <;> omega
  | wait r q => show 0 ≤ here + 1; omega
  | act d => show 0 ≤ here + 1; omega
theorem tk_ge (row tick : Int) (l : Ln) : tick ≤ l.tk row tick := by
  cases l with
  | wait r q => show tick ≤ (if tick < r * row + q then r * row + q else tick); split <;> omega
  | _ => exact Int.le_refl _
/-- one deed more is told -/
theorem told_len (t : Int) (l : Ln) : (l.told t).length ≤ 1 := by cases l <;> simp [Ln.told]
/-- the program's hand -/
theorem byGo_ok {w h g m pace : Int} {s : Stn} {st : Option D} {ls : List Ln} {M : Mem} (k : FrOk w h g m) (hp : 1 ≤ pace) (ok : ∀ l ∈ ls, LnOk s ls.length l) :
    ∀ (n : Nat) (here tick : Int) (acc : List D) (x7 : Option D), 0 ≤ here → acc.length + n ≤ 100000 → h * (w + g) - tick < n → 0 < n →
      ∃ f, whileGo w1_deeds_by b1_deeds_by n [some (frD w h g m), st, some (.lst (ls.map Ln.d)), some (.int pace), some (.mr M.length), some (.int here), some (.int tick), x7] (M ++ [.lst acc]) = .ok f (M ++ [.lst (handGo (w + g) (h * (w + g)) pace ls n here tick acc)]) ∧
        (f = .rt (.mr M.length) ∨ ∃ h' t' x', f = .nx [some (frD w h g m), st, some (.lst (ls.map Ln.d)), some (.int pace), some (.mr M.length), some (.int h'), some (.int t'), x'])
  | 0, _, _, _, _, _, _, _, hz => absurd hz (by decide)
  | n + 1, here, tick, acc, x7, hh, ha, hn, _ => by
    obtain ⟨p, rfl⟩ := Int.eq_ofNat_of_zero_le hh
    have lt : w1_deeds_by [some (frD w h g m), st, some (.lst (ls.map Ln.d)), some (.int pace), some (.mr M.length), some (.int p), some (.int tick), x7] (M ++ [.lst acc]) = .ok (decide (p < ls.length)) (M ++ [.lst acc]) := by
      unfold w1_deeds_by
      refine tst_bl (g2_ok (M2 := M ++ [.lst acc]) (x := .int p) (y := .int ls.length) rfl (blt1 (x := .lst (ls.map Ln.d)) rfl ?_) ?_)
      · show Out.ok (D.int ((ls.map Ln.d).length)) _ = _
        rw [List.length_map]
      · show Out.ok (D.bl (decide ((p : Int) < ls.length))) _ = _
        congr 2
        exact decide_eq_decide.mpr (by omega)
    by_cases hl : p < ls.length
    · rw [decide_eq_true hl] at lt
      have gl : ls[p]? = some ls[p] := List.getElem?_eq_getElem hl
      have okl := ok _ (List.getElem_mem hl)
      generalize ls[p] = l at *
      have gd : (ls.map Ln.d)[p]? = some l.d := by rw [List.getElem?_map, gl]; rfl
      have eh : handGo (w + g) (h * (w + g)) pace ls (n + 1) p tick acc = if h * (w + g) ≤ l.tk (w + g) tick then acc else handGo (w + g) (h * (w + g)) pace ls n (l.later (w + g) p (l.tk (w + g) tick)) (l.tk (w + g) tick + pace) (acc ++ l.told (l.tk (w + g) tick)) := by
        show (match ls[(p : Int).toNat]? with | none => acc | some l => _) = _
        rw [Int.toNat_natCast, gl]
      have s1 : (sSet 7 (g2 ixD (gVar 2) (gVar 5))) [some (frD w h g m), st, some (.lst (ls.map Ln.d)), some (.int pace), some (.mr M.length), some (.int p), some (.int tick), x7] (M ++ [.lst acc]) = .ok (.nx [some (frD w h g m), st, some (.lst (ls.map Ln.d)), some (.int pace), some (.mr M.length), some (.int p), some (.int tick), some l.d]) (M ++ [.lst acc]) :=
        set_ok (g2_ok rfl rfl (ix_lst gd))
      have tg := tk_ge (w + g) tick l
      have s2 : (sSet 6 (gCall 3 F_tick_of_line (DL.gCons (gVar 0) (DL.gCons (gVar 7) (DL.gCons (gVar 6) DL.gNil))))) [some (frD w h g m), st, some (.lst (ls.map Ln.d)), some (.int pace), some (.mr M.length), some (.int p), some (.int tick), some l.d] (M ++ [.lst acc]) = .ok (.nx [some (frD w h g m), st, some (.lst (ls.map Ln.d)), some (.int pace), some (.mr M.length), some (.int p), some (.int (l.tk (w + g) tick)), some l.d]) (M ++ [.lst acc]) :=
        set_ok (call3 (a := gVar 0) (b := gVar 7) (c := gVar 6) rfl rfl rfl (tickof_ok okl))
      have pb := placebehind_ok (w := w) (h := h) (g := g) (m := m) (here := p) (t := l.tk (w + g) tick) (M := M ++ [.lst (acc ++ l.told (l.tk (w + g) tick))]) okl
      have lo := later_ok (row := w + g) (t := l.tk (w + g) tick) okl hh
      generalize l.tk (w + g) tick = t at *
      have t3 : gTst (g2 geD (gVar 6) (gCall 1 F_ticks_of (DL.gCons (gVar 0) DL.gNil))) [some (frD w h g m), st, some (.lst (ls.map Ln.d)), some (.int pace), some (.mr M.length), some (.int p), some (.int t), some l.d] (M ++ [.lst acc]) = .ok (decide (h * (w + g) ≤ t)) (M ++ [.lst acc]) :=
        tst_bl (g2_ok (x := .int t) rfl (call1 (a := gVar 0) rfl (tickscount_ok k)) rfl)
      rw [eh]
      by_cases hb : h * (w + g) ≤ t
      · rw [decide_eq_true hb] at t3
        rw [if_pos hb]
        refine ⟨.rt (.mr M.length), ?_, .inl rfl⟩
        rw [whileGo, lt, DL.bind_ok, if_pos rfl, db_eq, sq_nx s1, sq_nx s2, sq_rt ((if_t t3).trans rfl)]; rfl
      · rw [decide_eq_false hb] at t3
        rw [if_neg hb]
        have la := told_len t l
        have s4 : db3 [some (frD w h g m), st, some (.lst (ls.map Ln.d)), some (.int pace), some (.mr M.length), some (.int p), some (.int t), some l.d] (M ++ [.lst acc]) = .ok (.nx [some (frD w h g m), st, some (.lst (ls.map Ln.d)), some (.int pace), some (.mr M.length), some (.int p), some (.int t), some l.d]) (M ++ [.lst (acc ++ l.told t)]) := by
          have tw : db3t [some (frD w h g m), st, some (.lst (ls.map Ln.d)), some (.int pace), some (.mr M.length), some (.int p), some (.int t), some l.d] (M ++ [.lst acc]) = .ok (l.is 2) (M ++ [.lst acc]) :=
            tst_bl (g2_ok (a := g2 ixD (gVar 7) (gC (.int 0))) (b := gC (.str "do")) (g2_ok rfl rfl (ln0 l _)) rfl (word_is l _).2.2.1)
          unfold db3
          cases l with
          | act d =>
            have two : [D.int t, d.d].length ≤ sizeLine := le_line (show 2 ≤ 1000000 by decide)
            refine (if_t tw).trans (drop_ok (app_ok rfl (d := .tup [.int t, d.d]) ?_ (by omega)))
            show (if [D.int t, d.d].length ≤ sizeLine then Out.ok (D.tup [.int t, d.d]) _ else .bad) = _
            rw [if_pos two]
          | _ => refine (if_f tw).trans ?_; simp [sNext, Ln.told]
        have s5 : db4 [some (frD w h g m), st, some (.lst (ls.map Ln.d)), some (.int pace), some (.mr M.length), some (.int p), some (.int t), some l.d] (M ++ [.lst (acc ++ l.told t)]) = .ok (.nx [some (frD w h g m), st, some (.lst (ls.map Ln.d)), some (.int pace), some (.mr M.length), some (.int (l.later (w + g) p t)), some (.int t), some l.d]) (M ++ [.lst (acc ++ l.told t)]) :=
          set_ok (call4 (a := gVar 0) (b := gVar 7) (c := gVar 5) (d := gVar 6) rfl rfl rfl rfl pb)
        have s6 : sAug 6 true (gVar 3) [some (frD w h g m), st, some (.lst (ls.map Ln.d)), some (.int pace), some (.mr M.length), some (.int (l.later (w + g) p t)), some (.int t), some l.d] (M ++ [.lst (acc ++ l.told t)]) = .ok (.nx [some (frD w h g m), st, some (.lst (ls.map Ln.d)), some (.int pace), some (.mr M.length), some (.int (l.later (w + g) p t)), some (.int (t + pace)), some l.d]) (M ++ [.lst (acc ++ l.told t)]) := rfl
        obtain ⟨f, e, hf⟩ := byGo_ok (M := M) (st := st) k hp ok n (l.later (w + g) p t) (t + pace) (acc ++ l.told t) (some l.d) lo (by rw [List.length_append]; omega) (by omega) (by omega)
        refine ⟨f, ?_, hf⟩
        rw [whileGo, lt, DL.bind_ok, if_pos rfl, db_eq, sq_nx s1, sq_nx s2, sq_nx ((if_f t3).trans rfl), sq_nx s4, sq_nx s5, s6, DL.bind_ok]
        exact e
    · rw [decide_eq_false hl] at lt
      have gl : ls[p]? = none := List.getElem?_eq_none (by omega)
      have eh : handGo (w + g) (h * (w + g)) pace ls (n + 1) p tick acc = acc := by
        show (match ls[(p : Int).toNat]? with | none => acc | some l => _) = _
        rw [Int.toNat_natCast, gl]
      rw [eh]
      exact ⟨_, by rw [whileGo, lt, DL.bind_ok, if_neg Bool.false_ne_true], .inr ⟨_, _, _, rfl⟩⟩
/-- the law's hand -/
theorem handL_ok {w h g m pace : Int} {s : Stn} {ls : List Ln} {M : Mem} (k : FrOk w h g m) (hp : 1 ≤ pace) (ok : ∀ l ∈ ls, LnOk s ls.length l) :
    ∀ (n : Nat) (here tick : Int) (acc : List D) (x7 x8 : Option D), 0 ≤ here → acc.length + n ≤ 100000 → h * (w + g) - tick < n → 0 < n →
      ∃ f, whileGo w1__law_hand b1__law_hand n [some (frD w h g m), some (.lst (ls.map Ln.d)), some (.int pace), some (.int (w + g)), some (.mr M.length), some (.int here), some (.int tick), x7, x8] (M ++ [.lst acc]) = .ok f (M ++ [.lst (handGo (w + g) (h * (w + g)) pace ls n here tick acc)]) ∧
        (f = .rt (.mr M.length) ∨ ∃ h' t' x' y', f = .nx [some (frD w h g m), some (.lst (ls.map Ln.d)), some (.int pace), some (.int (w + g)), some (.mr M.length), some (.int h'), some (.int t'), x', y'])
  | 0, _, _, _, _, _, _, _, _, hz => absurd hz (by decide)
  | n + 1, here, tick, acc, x7, x8, hh, ha, hn, _ => by
    obtain ⟨p, rfl⟩ := Int.eq_ofNat_of_zero_le hh
    have lt : w1__law_hand [some (frD w h g m), some (.lst (ls.map Ln.d)), some (.int pace), some (.int (w + g)), some (.mr M.length), some (.int p), some (.int tick), x7, x8] (M ++ [.lst acc]) = .ok (decide (p < ls.length)) (M ++ [.lst acc]) := by
      unfold w1__law_hand
      refine tst_bl (g2_ok (M2 := M ++ [.lst acc]) (x := .int p) (y := .int ls.length) rfl (blt1 (x := .lst (ls.map Ln.d)) rfl ?_) ?_)
      · show Out.ok (D.int ((ls.map Ln.d).length)) _ = _
        rw [List.length_map]
      · show Out.ok (D.bl (decide ((p : Int) < ls.length))) _ = _
        congr 2
        exact decide_eq_decide.mpr (by omega)
    by_cases hl : p < ls.length
    · rw [decide_eq_true hl] at lt
      have gl : ls[p]? = some ls[p] := List.getElem?_eq_getElem hl
      have okl := ok _ (List.getElem_mem hl)
      generalize ls[p] = l at *
      have gd : (ls.map Ln.d)[p]? = some l.d := by rw [List.getElem?_map, gl]; rfl
      have eh : handGo (w + g) (h * (w + g)) pace ls (n + 1) p tick acc = if h * (w + g) ≤ l.tk (w + g) tick then acc else handGo (w + g) (h * (w + g)) pace ls n (l.later (w + g) p (l.tk (w + g) tick)) (l.tk (w + g) tick + pace) (acc ++ l.told (l.tk (w + g) tick)) := by
        show (match ls[(p : Int).toNat]? with | none => acc | some l => _) = _
        rw [Int.toNat_natCast, gl]
      have s1 : (sSet 7 (g2 ixD (gVar 1) (gVar 5))) [some (frD w h g m), some (.lst (ls.map Ln.d)), some (.int pace), some (.int (w + g)), some (.mr M.length), some (.int p), some (.int tick), x7, x8] (M ++ [.lst acc]) = .ok (.nx [some (frD w h g m), some (.lst (ls.map Ln.d)), some (.int pace), some (.int (w + g)), some (.mr M.length), some (.int p), some (.int tick), some l.d, x8]) (M ++ [.lst acc]) :=
        set_ok (g2_ok rfl rfl (ix_lst gd))
      have nm : ∀ (r q : Int) (x : Str) (t : Int) (y8 : Option D), 0 ≤ r ∧ r ≤ 60 → l.d = .tup [.str x, .int r, .int q] → ∀ N, g2 addD (g2 mulD (g2 ixD (gVar 7) (gC (.int 1))) (gVar 3)) (g2 ixD (gVar 7) (gC (.int 2))) [some (frD w h g m), some (.lst (ls.map Ln.d)), some (.int pace), some (.int (w + g)), some (.mr M.length), some (.int p), some (.int t), some l.d, y8] N = .ok (.int (r * (w + g) + q)) N := fun r q x t y8 hr e N => by
        have mu := mul_ok (i := r) (j := w + g) (by omega) (by omega) N
        rw [e]
        exact g2_ok (x := .int (r * (w + g))) (y := .int q) (g2_ok (x := .int r) (y := .int (w + g)) (g2_ok rfl rfl (ix_tup (k := 1) rfl)) rfl mu) (g2_ok rfl rfl (ix_tup (k := 2) rfl)) rfl
      have tg := tk_ge (w + g) tick l
      have s2 : lh1 [some (frD w h g m), some (.lst (ls.map Ln.d)), some (.int pace), some (.int (w + g)), some (.mr M.length), some (.int p), some (.int tick), some l.d, x8] (M ++ [.lst acc]) = .ok (.nx [some (frD w h g m), some (.lst (ls.map Ln.d)), some (.int pace), some (.int (w + g)), some (.mr M.length), some (.int p), some (.int (l.tk (w + g) tick)), some l.d, x8]) (M ++ [.lst acc]) := by
        have t0 := tst_bl (g2_ok (ρ := [some (frD w h g m), some (.lst (ls.map Ln.d)), some (.int pace), some (.int (w + g)), some (.mr M.length), some (.int p), some (.int tick), some l.d, x8]) (a := g2 ixD (gVar 7) (gC (.int 0))) (b := gC (.str "wait")) (g2_ok rfl rfl (ln0 l (M ++ [.lst acc]))) rfl (word_is l (M ++ [.lst acc])).1)
        unfold lh1 lh1t
        cases l with
        | wait r q =>
          have n1 := nm r q "wait" tick x8 okl.1 rfl (M ++ [.lst acc])
          have a := andT_ok t0 fun _ => tst_bl (g2_ok (f := gtD) (y := .int tick) (b := gVar 6) n1 rfl rfl)
          by_cases q2 : tick < r * (w + g) + q
          · rw [decide_eq_true q2] at a
            have e : (Ln.wait r q).tk (w + g) tick = r * (w + g) + q := if_pos q2
            rw [e]
            unfold lh1a
            exact (if_t a).trans (set_ok n1)
          · rw [decide_eq_false q2] at a
            have e : (Ln.wait r q).tk (w + g) tick = tick := if_neg q2
            rw [e]
            exact (if_f a).trans rfl
        | _ => exact (if_f (andT_ok (y := false) t0 fun z => by cases z)).trans rfl
      have lo := later_ok (row := w + g) (t := l.tk (w + g) tick) okl hh
      generalize l.tk (w + g) tick = t at *
      have t3 : lh2t [some (frD w h g m), some (.lst (ls.map Ln.d)), some (.int pace), some (.int (w + g)), some (.mr M.length), some (.int p), some (.int t), some l.d, x8] (M ++ [.lst acc]) = .ok (decide (h * (w + g) ≤ t)) (M ++ [.lst acc]) := by
        have mu := mul_ok (i := w + g) (j := h) (by have := k.w; have := k.g; omega) (by have := k.w; have := k.g; omega) (M ++ [.lst acc])
        refine (tst_bl (g2_ok (f := gtD) (a := gVar 6) (x := .int t) (y := .int ((w + g) * h - 1)) rfl (g2_ok (f := subD) (x := .int ((w + g) * h)) (y := .int 1) (g2_ok (x := .int (w + g)) (y := .int h) rfl (g2_ok rfl rfl (ix_tup (k := 1) rfl)) mu) rfl rfl) rfl)).trans ?_
        congr 1
        rw [Int.mul_comm (w + g) h]
        exact decide_eq_decide.mpr (by omega)
      rw [eh]
      by_cases hb : h * (w + g) ≤ t
      · rw [decide_eq_true hb] at t3
        rw [if_pos hb]
        refine ⟨.rt (.mr M.length), ?_, .inl rfl⟩
        rw [whileGo, lt, DL.bind_ok, if_pos rfl, lh_eq, sq_nx s1, sq_nx s2]
        unfold lh2
        rw [sq_rt ((if_t t3).trans rfl)]; rfl
      · rw [decide_eq_false hb] at t3
        rw [if_neg hb]
        have la := told_len t l
        have s3 : lh2 [some (frD w h g m), some (.lst (ls.map Ln.d)), some (.int pace), some (.int (w + g)), some (.mr M.length), some (.int p), some (.int t), some l.d, x8] (M ++ [.lst acc]) = .ok (.nx [some (frD w h g m), some (.lst (ls.map Ln.d)), some (.int pace), some (.int (w + g)), some (.mr M.length), some (.int p), some (.int t), some l.d, x8]) (M ++ [.lst acc]) := by
          unfold lh2
          exact (if_f t3).trans rfl
        have s4 : (sSet 8 (g2 addD (gVar 5) (gC (.int 1)))) [some (frD w h g m), some (.lst (ls.map Ln.d)), some (.int pace), some (.int (w + g)), some (.mr M.length), some (.int p), some (.int t), some l.d, x8] (M ++ [.lst acc]) = .ok (.nx [some (frD w h g m), some (.lst (ls.map Ln.d)), some (.int pace), some (.int (w + g)), some (.mr M.length), some (.int p), some (.int t), some l.d, some (.int ((p : Int) + 1))]) (M ++ [.lst acc]) := rfl
        have wd := fun N => word_is l N
        have l0 := fun N => ln0 l N
        have s5 : lh4 [some (frD w h g m), some (.lst (ls.map Ln.d)), some (.int pace), some (.int (w + g)), some (.mr M.length), some (.int p), some (.int t), some l.d, some (.int ((p : Int) + 1))] (M ++ [.lst acc]) = .ok (.nx [some (frD w h g m), some (.lst (ls.map Ln.d)), some (.int pace), some (.int (w + g)), some (.mr M.length), some (.int p), some (.int t), some l.d, some (.int ((p : Int) + 1))]) (M ++ [.lst (acc ++ l.told t)]) := by
          have tw : lh4t [some (frD w h g m), some (.lst (ls.map Ln.d)), some (.int pace), some (.int (w + g)), some (.mr M.length), some (.int p), some (.int t), some l.d, some (.int ((p : Int) + 1))] (M ++ [.lst acc]) = .ok (l.is 2) (M ++ [.lst acc]) :=
            tst_bl (g2_ok (a := g2 ixD (gVar 7) (gC (.int 0))) (b := gC (.str "do")) (g2_ok rfl rfl (l0 _)) rfl (wd _).2.2.1)
          unfold lh4
          cases l with
          | act d =>
            have two : [D.int t, d.d].length ≤ sizeLine := le_line (show 2 ≤ 1000000 by decide)
            refine (if_t tw).trans (drop_ok (app_ok rfl (d := .tup [.int t, d.d]) ?_ (by omega)))
            show (if [D.int t, d.d].length ≤ sizeLine then Out.ok (D.tup [.int t, d.d]) _ else .bad) = _
            rw [if_pos two]
          | _ => refine (if_f tw).trans ?_; simp [sNext, Ln.told]
        have s67 : ∃ z8, (sSeq lh5 lh6) [some (frD w h g m), some (.lst (ls.map Ln.d)), some (.int pace), some (.int (w + g)), some (.mr M.length), some (.int p), some (.int t), some l.d, some (.int ((p : Int) + 1))] (M ++ [.lst (acc ++ l.told t)]) = .ok (.nx [some (frD w h g m), some (.lst (ls.map Ln.d)), some (.int pace), some (.int (w + g)), some (.mr M.length), some (.int p), some (.int t), some l.d, some (.int (l.later (w + g) p t))]) (M ++ [.lst (acc ++ l.told t)]) ∧ z8 = 0 := by
          refine ⟨0, ?_, rfl⟩
          have t5 : ∀ y8 N, lh5t [some (frD w h g m), some (.lst (ls.map Ln.d)), some (.int pace), some (.int (w + g)), some (.mr M.length), some (.int p), some (.int t), some l.d, y8] N = .ok (l.is 3) N := fun y8 N =>
            tst_bl (g2_ok (a := g2 ixD (gVar 7) (gC (.int 0))) (b := gC (.str "to")) (g2_ok rfl rfl (l0 _)) rfl (wd _).2.2.2)
          have t6 : ∀ y8 N, gTst (g2 (eqOp false) (g2 ixD (gVar 7) (gC (.int 0))) (gC (.str "skip"))) [some (frD w h g m), some (.lst (ls.map Ln.d)), some (.int pace), some (.int (w + g)), some (.mr M.length), some (.int p), some (.int t), some l.d, y8] N = .ok (l.is 1) N := fun y8 N =>
            tst_bl (g2_ok (a := g2 ixD (gVar 7) (gC (.int 0))) (b := gC (.str "skip")) (g2_ok rfl rfl (l0 _)) rfl (wd _).2.1)
          unfold lh5 lh6 lh6t
          cases l with
          | to q =>
            rw [sq_nx ((if_t (t5 _ _)).trans (set_ok (g2_ok rfl rfl (ix_tup (k := 1) rfl))))]
            exact (if_f (andT_ok (y := false) (t6 _ _) fun z => by cases z)).trans rfl
          | skip r q =>
            rw [sq_nx ((if_f (t5 _ _)).trans rfl)]
            have n1 := nm r q "skip" t (some (.int ((p : Int) + 1))) okl.1 rfl (M ++ [.lst (acc ++ (Ln.skip r q).told t)])
            have a := andT_ok (t6 (some (.int ((p : Int) + 1))) _) fun _ => tst_bl (g2_ok (f := leD) (y := .int t) (b := gVar 6) n1 rfl rfl)
            by_cases q2 : r * (w + g) + q ≤ t
            · rw [decide_eq_true q2] at a
              have e : (Ln.skip r q).later (w + g) p t = p + 2 := if_pos q2
              rw [e]
              exact (if_t a).trans rfl
            · rw [decide_eq_false q2] at a
              have e : (Ln.skip r q).later (w + g) p t = p + 1 := if_neg q2
              rw [e]
              exact (if_f a).trans rfl
          | wait r q =>
            rw [sq_nx ((if_f (t5 _ _)).trans rfl)]
            exact (if_f (andT_ok (y := false) (t6 _ _) fun z => by cases z)).trans rfl
          | act d =>
            rw [sq_nx ((if_f (t5 _ _)).trans rfl)]
            exact (if_f (andT_ok (y := false) (t6 _ _) fun z => by cases z)).trans rfl
        obtain ⟨_, s67, _⟩ := s67
        have s8 : (sSeq (sSet 5 (gVar 8)) (sSet 6 (g2 addD (gVar 6) (gVar 2)))) [some (frD w h g m), some (.lst (ls.map Ln.d)), some (.int pace), some (.int (w + g)), some (.mr M.length), some (.int p), some (.int t), some l.d, some (.int (l.later (w + g) p t))] (M ++ [.lst (acc ++ l.told t)]) = .ok (.nx [some (frD w h g m), some (.lst (ls.map Ln.d)), some (.int pace), some (.int (w + g)), some (.mr M.length), some (.int (l.later (w + g) p t)), some (.int (t + pace)), some l.d, some (.int (l.later (w + g) p t))]) (M ++ [.lst (acc ++ l.told t)]) := rfl
        obtain ⟨f, e, hf⟩ := handL_ok (M := M) k hp ok n (l.later (w + g) p t) (t + pace) (acc ++ l.told t) (some l.d) (some (.int (l.later (w + g) p t))) lo (by rw [List.length_append]; omega) (by omega) (by omega)
        refine ⟨f, ?_, hf⟩
        rw [whileGo, lt, DL.bind_ok, if_pos rfl, lh_eq, sq_nx s1, sq_nx s2, sq_nx s3, sq_nx s4, sq_nx s5, sq_as, sq_nx s67, s8, DL.bind_ok]
        exact e
    · rw [decide_eq_false hl] at lt
      have gl : ls[p]? = none := List.getElem?_eq_none (by omega)
      have eh : handGo (w + g) (h * (w + g)) pace ls (n + 1) p tick acc = acc := by
        show (match ls[(p : Int).toNat]? with | none => acc | some l => _) = _
        rw [Int.toNat_natCast, gl]
      rw [eh]
      exact ⟨_, by rw [whileGo, lt, DL.bind_ok, if_neg Bool.false_ne_true], .inr ⟨_, _, _, _, rfl⟩⟩
/-! a score of the stand -/
theorem within_int {lo hi i : Int} {M : Mem} (h : lo ≤ i ∧ i ≤ hi) : F_is_within [.int i, .int lo, .int hi] M = .ok (.bl true) M := by
  rw [within_ok ⟨_, rfl⟩, wholeB_int h]
theorem isline_ok {s : Stn} {n : Nat} {l : Ln} {M : Mem} (ok : LnOk s n l) : F_is_line [s.d, .int n, l.d] M = .ok (.bl true) M := by
  have wd := fun N => word_is l N
  obtain ⟨a1, a2, a3, a4, _⟩ := sW
  have two : (2 : Nat) ≤ sizeLine := le_line (by decide)
  have g1 : gIsi "tuple" (gVar 2) [some s.d, some (.int n), some l.d, none, none] M = .ok (.bl true) M := by cases l <;> rfl
  show retOf (g_is_line [some s.d, some (.int n), some l.d, none, none] M) = _
  unfold g_is_line
  cases l with
  | wait r q =>
    have t1 := orT_ok (notT_ok (tru_bl g1)) (b := gTst (g2 ltD (gBlt lenF (DL.gCons (gVar 2) DL.gNil)) (gC (.int 2)))) (y := false) fun _ => rfl
    rw [sq_nx ((if_f t1).trans rfl)]
    have par : sPar 3 4 (DL.gCons (g2 ixD (gVar 2) (gC (.int 0))) (DL.gCons (gSl (gVar 2) (gPart (gC (.int 1))) gNoPart) DL.gNil)) [some s.d, some (.int n), some (Ln.wait r q).d, none, none] M = .ok (.nx [some s.d, some (.int n), some (Ln.wait r q).d, some (.str "wait"), some (.tup [.int r, .int q])]) M := rfl
    rw [sq_nx par]
    have t2 := orT_ok (ρ := [some s.d, some (.int n), some (Ln.wait r q).d, some (.str "wait"), some (.tup [.int r, .int q])]) (b := gTst (g2 (eqOp false) (gVar 3) (gC (.str "skip")))) (y := false) (tst_bl (g2_ok (a := gVar 3) (b := gC (.str "wait")) rfl rfl (wd M).1)) fun z => by cases z
    have al := all_of (ge := e1_is_line) (p := wholeB 0 60) (its_tup (i := 4) (ρ := [some s.d, some (.int n), some (Ln.wait r q).d, some (.str "wait"), some (.tup [.int r, .int q])]) (M := M) rfl) (by simp) fun x hm => by
      unfold e1_is_line
      refine call3 (x := x) (y := .int 0) (z := .int 60) rfl rfl rfl (within_ok ?_)
      simp only [List.mem_cons, List.not_mem_nil, or_false] at hm
      rcases hm with rfl | rfl <;> exact ⟨_, rfl⟩
    have e : [D.int r, .int q].all (wholeB 0 60) = true := by simp [wholeB_int ok.1, wholeB_int ok.2]
    rw [e] at al
    rw [sq_rt ((if_t t2).trans (ret_ok (and_ok (x := true) (g2_ok (x := .int 2) (y := .int 2) rfl rfl (eqI_f 2 2 M)) fun _ => al)))]; rfl
  | skip r q =>
    have t1 := orT_ok (notT_ok (tru_bl g1)) (b := gTst (g2 ltD (gBlt lenF (DL.gCons (gVar 2) DL.gNil)) (gC (.int 2)))) (y := false) fun _ => rfl
    rw [sq_nx ((if_f t1).trans rfl)]
    have par : sPar 3 4 (DL.gCons (g2 ixD (gVar 2) (gC (.int 0))) (DL.gCons (gSl (gVar 2) (gPart (gC (.int 1))) gNoPart) DL.gNil)) [some s.d, some (.int n), some (Ln.skip r q).d, none, none] M = .ok (.nx [some s.d, some (.int n), some (Ln.skip r q).d, some (.str "skip"), some (.tup [.int r, .int q])]) M := rfl
    rw [sq_nx par]
    have t2 := orT_ok (ρ := [some s.d, some (.int n), some (Ln.skip r q).d, some (.str "skip"), some (.tup [.int r, .int q])]) (tst_bl (g2_ok (a := gVar 3) (b := gC (.str "wait")) rfl rfl (wd M).1)) fun _ => tst_bl (g2_ok (a := gVar 3) (b := gC (.str "skip")) rfl rfl (wd M).2.1)
    have al := all_of (ge := e1_is_line) (p := wholeB 0 60) (its_tup (i := 4) (ρ := [some s.d, some (.int n), some (Ln.skip r q).d, some (.str "skip"), some (.tup [.int r, .int q])]) (M := M) rfl) (by simp) fun x hm => by
      unfold e1_is_line
      refine call3 (x := x) (y := .int 0) (z := .int 60) rfl rfl rfl (within_ok ?_)
      simp only [List.mem_cons, List.not_mem_nil, or_false] at hm
      rcases hm with rfl | rfl <;> exact ⟨_, rfl⟩
    have e : [D.int r, .int q].all (wholeB 0 60) = true := by simp [wholeB_int ok.1, wholeB_int ok.2]
    rw [e] at al
    rw [sq_rt ((if_t t2).trans (ret_ok (and_ok (x := true) (g2_ok (x := .int 2) (y := .int 2) rfl rfl (eqI_f 2 2 M)) fun _ => al)))]; rfl
  | act d =>
    have t1 := orT_ok (notT_ok (tru_bl g1)) (b := gTst (g2 ltD (gBlt lenF (DL.gCons (gVar 2) DL.gNil)) (gC (.int 2)))) (y := false) fun _ => rfl
    rw [sq_nx ((if_f t1).trans rfl)]
    have par : sPar 3 4 (DL.gCons (g2 ixD (gVar 2) (gC (.int 0))) (DL.gCons (gSl (gVar 2) (gPart (gC (.int 1))) gNoPart) DL.gNil)) [some s.d, some (.int n), some (Ln.act d).d, none, none] M = .ok (.nx [some s.d, some (.int n), some (Ln.act d).d, some (.str "do"), some (.tup [d.d])]) M := rfl
    rw [sq_nx par]
    have t2 := orT_ok (ρ := [some s.d, some (.int n), some (Ln.act d).d, some (.str "do"), some (.tup [d.d])]) (tst_bl (g2_ok (a := gVar 3) (b := gC (.str "wait")) rfl rfl (wd M).1)) fun _ => tst_bl (g2_ok (a := gVar 3) (b := gC (.str "skip")) rfl rfl (wd M).2.1)
    have t3 := tst_bl (g2_ok (f := eqOp true) (ρ := [some s.d, some (.int n), some (Ln.act d).d, some (.str "do"), some (.tup [d.d])]) (a := gBlt lenF (DL.gCons (gVar 4) DL.gNil)) (b := gC (.int 1)) rfl rfl (eqI_t 1 1 M))
    have t4 := tst_bl (g2_ok (ρ := [some s.d, some (.int n), some (Ln.act d).d, some (.str "do"), some (.tup [d.d])]) (a := gVar 3) (b := gC (.str "do")) rfl rfl (wd M).2.2.1)
    have dd := isdeed_ok (s := s) (M := M) (deed_thing (s := s) (dd := d))
    rw [deedB_d ok] at dd
    rw [sq_nx ((if_f t2).trans rfl), sq_nx ((if_f t3).trans rfl), sq_rt ((if_t t4).trans (ret_ok (call2 (a := gVar 0) rfl (g2_ok rfl rfl (ix_tup (k := 0) rfl)) dd)))]; rfl
  | to k =>
    have t1 := orT_ok (notT_ok (tru_bl g1)) (b := gTst (g2 ltD (gBlt lenF (DL.gCons (gVar 2) DL.gNil)) (gC (.int 2)))) (y := false) fun _ => rfl
    rw [sq_nx ((if_f t1).trans rfl)]
    have par : sPar 3 4 (DL.gCons (g2 ixD (gVar 2) (gC (.int 0))) (DL.gCons (gSl (gVar 2) (gPart (gC (.int 1))) gNoPart) DL.gNil)) [some s.d, some (.int n), some (Ln.to k).d, none, none] M = .ok (.nx [some s.d, some (.int n), some (Ln.to k).d, some (.str "to"), some (.tup [.int k])]) M := rfl
    rw [sq_nx par]
    have t2 := orT_ok (ρ := [some s.d, some (.int n), some (Ln.to k).d, some (.str "to"), some (.tup [.int k])]) (tst_bl (g2_ok (a := gVar 3) (b := gC (.str "wait")) rfl rfl (wd M).1)) fun _ => tst_bl (g2_ok (a := gVar 3) (b := gC (.str "skip")) rfl rfl (wd M).2.1)
    have t3 := tst_bl (g2_ok (f := eqOp true) (ρ := [some s.d, some (.int n), some (Ln.to k).d, some (.str "to"), some (.tup [.int k])]) (a := gBlt lenF (DL.gCons (gVar 4) DL.gNil)) (b := gC (.int 1)) rfl rfl (eqI_t 1 1 M))
    have t4 := tst_bl (g2_ok (ρ := [some s.d, some (.int n), some (Ln.to k).d, some (.str "to"), some (.tup [.int k])]) (a := gVar 3) (b := gC (.str "do")) rfl rfl (wd M).2.2.1)
    have e := g2_ok (ρ := [some s.d, some (.int n), some (Ln.to k).d, some (.str "to"), some (.tup [.int k])]) (a := gVar 3) (b := gC (.str "to")) rfl rfl (wd M).2.2.2
    have wi := within_int (lo := 0) (hi := (n : Int) - 1) (i := k) (M := M) ⟨ok.1, by have := ok.2; omega⟩
    rw [sq_nx ((if_f t2).trans rfl), sq_nx ((if_f t3).trans rfl), sq_nx ((if_f t4).trans rfl), ret_ok (and_ok e fun _ => call3 (x := .int k) (y := .int 0) (z := .int ((n : Int) - 1)) (g2_ok rfl rfl (ix_tup (k := 0) rfl)) rfl rfl wi)]; rfl
theorem isscore_ok {s : Stn} {ls : List Ln} {M : Mem} (ok : ∀ l ∈ ls, LnOk s ls.length l) (hl : ls.length ≤ 100) : F_is_score [s.d, .lst (ls.map Ln.d)] M = .ok (.bl true) M := by
  show retOf (g_is_score [some s.d, some (.lst (ls.map Ln.d))] M) = _
  unfold g_is_score
  have ln : ∀ i ρ, ρ[i]? = some (some (D.lst (ls.map Ln.d))) → gBlt lenF (DL.gCons (gVar i) DL.gNil) ρ M = .ok (.int ls.length) M := fun i ρ e => by
    refine blt1 (x := .lst (ls.map Ln.d)) (by unfold gVar; rw [e]) ?_
    show Out.ok (D.int (ls.map Ln.d).length) M = _
    rw [List.length_map]
  have t2 : gTst (g2 gtD (gBlt lenF (DL.gCons (gVar 1) DL.gNil)) (gC (.int 100))) [some s.d, some (.lst (ls.map Ln.d))] M = .ok false M := by
    refine (tst_bl (g2_ok (ln 1 _ rfl) rfl rfl)).trans ?_
    congr 1
    exact decide_eq_false (by omega)
  have t1 := orT_ok (a := gNotT (gTru (gIsi "list" (gVar 1)))) (x := false) (ρ := [some s.d, some (.lst (ls.map Ln.d))]) (M := M) rfl fun _ => t2
  rw [sq_nx ((if_f t1).trans rfl)]
  have al := all_of (ge := e1_is_score) (p := fun _ => true) (its_lst (i := 1) (ρ := [some s.d, some (.lst (ls.map Ln.d))]) (M := M) rfl) (by rw [List.length_map]; omega) fun x hm => by
    obtain ⟨l, hm', rfl⟩ := List.mem_map.mp hm
    unfold e1_is_score
    exact call3 (a := gVar 1) (c := gVar 0) rfl (ln 2 _ rfl) rfl (isline_ok (ok l hm'))
  rw [ret_ok al]
  show Out.ok (D.bl _) M = _
  simp
/-- the deeds of a score -/
def due (w h g pace : Int) (ls : List Ln) : List D := handGo (w + g) (h * (w + g)) pace ls 5000 0 0 []
theorem tot_le {w h g m : Int} (k : FrOk w h g m) : h * (w + g) ≤ 2400 := by
  have h1 := k.h
  have h2 := k.w
  have h3 := k.g
  have a : h * (w + g) ≤ 40 * (w + g) := Int.mul_le_mul_of_nonneg_right h1.2 (by omega)
  omega
theorem by_ok {w h g m pace : Int} {s : Stn} {mm : Int} {ls : List Ln} {M : Mem} (k : FrOk w h g m) (sk : StnOk mm s) (hm : mm ≤ 12) (hp : 1 ≤ pace) (ok : ∀ l ∈ ls, LnOk s ls.length l) (hl : ls.length ≤ 100) :
    F_deeds_by [frD w h g m, s.d, .lst (ls.map Ln.d), .int pace] M = .ok (.mr M.length) (M ++ [.lst (due w h g pace ls)]) := by
  have b := begin_ok (M := M) (deep_frame (n := 0) (w := w) (h := h) (g := g) (m := m)) (deep_stn sk (by omega)) (frameB_d k) (standB_d sk hm)
  have sc := isscore_ok (M := M) ok hl
  have tl := tot_le k
  obtain ⟨f, e, hf⟩ := byGo_ok (M := M) (st := some s.d) k hp ok 5000 0 0 [] none (by decide) (by simp) (by omega) (by decide)
  show retOf (g_deeds_by [some (frD w h g m), some s.d, some (.lst (ls.map Ln.d)), some (.int pace), none, none, none, none] M) = _
  unfold g_deeds_by
  have z0 : (0 : Nat) ≤ sizeLine := Nat.zero_le _
  have mu : (sSet 4 (gMut DL.gNil)) [some (frD w h g m), some s.d, some (.lst (ls.map Ln.d)), some (.int pace), none, none, none, none] M = .ok (.nx [some (frD w h g m), some s.d, some (.lst (ls.map Ln.d)), some (.int pace), some (.mr M.length), none, none, none]) (M ++ [.lst []]) := by
    exact set_ok mut_nil
  have s5 : (sSet 5 (gC (.int 0))) [some (frD w h g m), some s.d, some (.lst (ls.map Ln.d)), some (.int pace), some (.mr M.length), none, none, none] (M ++ [.lst []]) = .ok (.nx [some (frD w h g m), some s.d, some (.lst (ls.map Ln.d)), some (.int pace), some (.mr M.length), some (.int 0), none, none]) (M ++ [.lst []]) := rfl
  have s6 : (sSet 6 (gC (.int 0))) [some (frD w h g m), some s.d, some (.lst (ls.map Ln.d)), some (.int pace), some (.mr M.length), some (.int 0), none, none] (M ++ [.lst []]) = .ok (.nx [some (frD w h g m), some s.d, some (.lst (ls.map Ln.d)), some (.int pace), some (.mr M.length), some (.int 0), some (.int 0), none]) (M ++ [.lst []]) := rfl
  rw [sq_nx (drop_ok (call2 (a := gVar 0) (b := gVar 1) rfl rfl b)), sq_nx ((if_f (notT_ok (tru_bl (call2 (a := gVar 1) (b := gVar 2) rfl rfl sc)))).trans rfl), sq_nx mu, sq_nx s5, sq_nx s6]
  have ew : sWhile 5000 w1_deeds_by b1_deeds_by [some (frD w h g m), some s.d, some (.lst (ls.map Ln.d)), some (.int pace), some (.mr M.length), some (.int 0), some (.int 0), none] (M ++ [.lst []]) = .ok f (M ++ [.lst (due w h g pace ls)]) := e
  rcases hf with rfl | ⟨h', t', x', rfl⟩
  · rw [sq_rt ew]; rfl
  · rw [sq_nx ew]; rfl
theorem hand_ok {w h g m pace : Int} {s : Stn} {ls : List Ln} {M : Mem} (k : FrOk w h g m) (hp : 1 ≤ pace) (ok : ∀ l ∈ ls, LnOk s ls.length l) (pd : (due w h g pace ls).all (pureD 29) = true) (pM : M.all pureM = true) :
    F__law_hand [frD w h g m, .lst (ls.map Ln.d), .int pace] M = .ok (.lst (due w h g pace ls)) M := by
  have tl := tot_le k
  obtain ⟨f, e, hf⟩ := handL_ok (M := M) k hp ok 5000 0 0 [] none none (by decide) (by simp) (by omega) (by decide)
  show retP M.length (retOf (g__law_hand [some (frD w h g m), some (.lst (ls.map Ln.d)), some (.int pace), none, none, none, none, none, none] M)) = _
  unfold g__law_hand
  have z0 : (0 : Nat) ≤ sizeLine := Nat.zero_le _
  have s3 : (sSet 3 (g2 addD (g2 ixD (gVar 0) (gC (.int 0))) (g2 ixD (gVar 0) (gC (.int 2))))) [some (frD w h g m), some (.lst (ls.map Ln.d)), some (.int pace), none, none, none, none, none, none] M = .ok (.nx [some (frD w h g m), some (.lst (ls.map Ln.d)), some (.int pace), some (.int (w + g)), none, none, none, none, none]) M := rfl
  have mu : (sSet 4 (gMut DL.gNil)) [some (frD w h g m), some (.lst (ls.map Ln.d)), some (.int pace), some (.int (w + g)), none, none, none, none, none] M = .ok (.nx [some (frD w h g m), some (.lst (ls.map Ln.d)), some (.int pace), some (.int (w + g)), some (.mr M.length), none, none, none, none]) (M ++ [.lst []]) := by
    exact set_ok mut_nil
  have s5 : (sSet 5 (gC (.int 0))) [some (frD w h g m), some (.lst (ls.map Ln.d)), some (.int pace), some (.int (w + g)), some (.mr M.length), none, none, none, none] (M ++ [.lst []]) = .ok (.nx [some (frD w h g m), some (.lst (ls.map Ln.d)), some (.int pace), some (.int (w + g)), some (.mr M.length), some (.int 0), none, none, none]) (M ++ [.lst []]) := rfl
  have s6 : (sSet 6 (gC (.int 0))) [some (frD w h g m), some (.lst (ls.map Ln.d)), some (.int pace), some (.int (w + g)), some (.mr M.length), some (.int 0), none, none, none] (M ++ [.lst []]) = .ok (.nx [some (frD w h g m), some (.lst (ls.map Ln.d)), some (.int pace), some (.int (w + g)), some (.mr M.length), some (.int 0), some (.int 0), none, none]) (M ++ [.lst []]) := rfl
  have ew : sWhile 5000 w1__law_hand b1__law_hand [some (frD w h g m), some (.lst (ls.map Ln.d)), some (.int pace), some (.int (w + g)), some (.mr M.length), some (.int 0), some (.int 0), none, none] (M ++ [.lst []]) = .ok f (M ++ [.lst (due w h g pace ls)]) := e
  rw [sq_nx s3, sq_nx mu, sq_nx s5, sq_nx s6]
  have r := retP_mr (M := M) (xs := due w h g pace ls) pd pM
  rcases hf with rfl | ⟨h', t', x', y', rfl⟩
  · rw [sq_rt ew]; exact r
  · rw [sq_nx ew]; exact r
theorem dd_pure (d : Dd) : pureD 27 d.d = true := by
  cases d with
  | shape i o => cases o <;> rfl
  | _ => rfl
theorem dd_cmp (d : Dd) : cmpOk 38 d.d = true := by
  obtain ⟨k1, k2, k3, k4, k5, k6, _⟩ := strOk_words
  cases d with
  | shape i o => cases o <;> simp [Dd.d, numD, cmpOk, cmpOks, k4]
  | _ => simp [Dd.d, cmpOk, cmpOks, k1, k2, k3, k5, k6]
def TdOk (d : D) : Prop := ∃ t dd, d = .tup [.int t, Dd.d dd]
theorem hand_td {row tot pace : Int} {ls : List Ln} : ∀ (n : Nat) (here tick : Int) (acc : List D), (∀ d ∈ acc, TdOk d) → ∀ d ∈ handGo row tot pace ls n here tick acc, TdOk d
  | 0, _, _, acc, h => h
  | n + 1, here, tick, acc, h => by
    unfold handGo
    split
    · exact h
    · rename_i l _
      split
      · exact h
      · refine hand_td n _ _ _ fun d hd => ?_
        rcases List.mem_append.mp hd with q | q
        · exact h d q
        · cases l with
          | act dd => rw [List.mem_singleton.mp (show d ∈ [_] from q)]; exact ⟨_, dd, rfl⟩
          | _ => cases q
theorem due_td {w h g pace : Int} {ls : List Ln} : ∀ d ∈ due w h g pace ls, TdOk d := hand_td 5000 0 0 [] fun d h => by cases h
theorem td_pure {d : D} (h : TdOk d) : pureD 29 d = true := by
  obtain ⟨t, dd, rfl⟩ := h
  show ([D.int t, dd.d].all (pureD 28)) = true
  have : pureD 28 dd.d = true := by
    cases dd with
    | shape i o => cases o <;> rfl
    | _ => rfl
  simp [this]
theorem td_cmp {d : D} (h : TdOk d) : cmpOk 39 d = true := by
  obtain ⟨t, dd, rfl⟩ := h
  show (cmpOk 38 (.int t) && (cmpOk 38 dd.d && true)) = true
  rw [dd_cmp]; rfl
theorem ln_cmp (l : Ln) : cmpOk 39 l.d = true := by
  obtain ⟨a1, a2, a3, a4, _⟩ := sW
  cases l with
  | act d =>
    show (PyData.strOk "do" && (cmpOk 38 d.d && true)) = true
    rw [a3, dd_cmp]; rfl
  | wait r q => show (PyData.strOk "wait" && true) = true; rw [a1]; rfl
  | skip r q => show (PyData.strOk "skip" && true) = true; rw [a2]; rfl
  | to k => show (PyData.strOk "to" && true) = true; rw [a4]; rfl
theorem ln_pure (l : Ln) : pureD 29 l.d = true := by
  cases l with
  | act d =>
    show (true && (pureD 28 d.d && true)) = true
    have : pureD 28 d.d = true := by
      cases d with
      | shape i o => cases o <;> rfl
      | _ => rfl
    rw [this]; rfl
  | _ => rfl
def ls1 : GS := (sSet 7 (DL.gTup (DL.gCons (gCall 2 F__law_draw (DL.gCons (gVar 0) (DL.gCons (gBlt minF (DL.gCons (gC (.int 61)) (DL.gCons (g2 addD (g2 ixD (gVar 1) (gC (.int 1))) (gC (.int 1))) DL.gNil))) DL.gNil))) (DL.gCons (gCall 2 F__law_draw (DL.gCons (gVar 0) (DL.gCons (g2 addD (g2 addD (g2 ixD (gVar 1) (gC (.int 0))) (g2 ixD (gVar 1) (gC (.int 2)))) (gC (.int 1))) DL.gNil))) DL.gNil))))
def ls2a : GS := (sDrop (gApp (gVar 4) (DL.gTup (DL.gCons (gC (.str "do")) (DL.gCons (gCall 3 F__law_deed (DL.gCons (gVar 0) (DL.gCons (gVar 1) (DL.gCons (gVar 2) DL.gNil)))) DL.gNil)))))
def ls2b : GS := (sIf (gTst (g2 ltD (gVar 6) (gC (.int 6)))) (sDrop (gApp (gVar 4) (g2 addD (DL.gTup (DL.gCons (g2 ixD (gLst (DL.gCons (gC (.str "wait")) (DL.gCons (gC (.str "skip")) DL.gNil))) (g2 subD (gVar 6) (gC (.int 4)))) DL.gNil)) (gVar 7)))) (sIf (gTst (g2 (eqOp false) (gVar 6) (gC (.int 6)))) (sSeq (sSet 8 (DL.gTup (DL.gCons (gCall 2 F__law_draw (DL.gCons (gVar 0) (DL.gCons (gC (.int 61)) DL.gNil))) (DL.gCons (gCall 2 F__law_draw (DL.gCons (gVar 0) (DL.gCons (gC (.int 61)) DL.gNil))) DL.gNil)))) (sDrop (gApp (gVar 4) (g2 addD (DL.gTup (DL.gCons (g2 ixD (gLst (DL.gCons (gC (.str "wait")) (DL.gCons (gC (.str "skip")) DL.gNil))) (gCall 2 F__law_draw (DL.gCons (gVar 0) (DL.gCons (gC (.int 2)) DL.gNil)))) DL.gNil)) (g2 ixD (gLst (DL.gCons (gVar 7) (DL.gCons (gVar 8) DL.gNil))) (g2 fdivD (gCall 2 F__law_draw (DL.gCons (gVar 0) (DL.gCons (gC (.int 3)) DL.gNil))) (gC (.int 2)))))))) (sDrop (gApp (gVar 4) (DL.gTup (DL.gCons (gC (.str "to")) (DL.gCons (g2 ixD (gLst (DL.gCons (gCall 2 F__law_draw (DL.gCons (gVar 0) (DL.gCons (gVar 3) DL.gNil))) (DL.gCons (gBlt minF (DL.gCons (g2 subD (gVar 3) (gC (.int 1))) (DL.gCons (g2 addD (gVar 5) (gC (.int 1))) DL.gNil))) DL.gNil))) (gCall 2 F__law_draw (DL.gCons (gVar 0) (DL.gCons (gC (.int 2)) DL.gNil)))) DL.gNil)))))))
def ls2 : GS := (sIf (gTst (g2 ltD (gVar 6) (gC (.int 4)))) ls2a ls2b)
theorem ls_eq (ρ : Rho) (M : Mem) : b1__law_score ρ M = (sSeq (sSet 6 (gCall 2 F__law_draw (DL.gCons (gVar 0) (DL.gCons (gC (.int 8)) DL.gNil)))) (sSeq ls1 ls2)) ρ M := rfl
def lw0 : GS := (sSet 3 (gCall 2 F__law_frame (DL.gCons (gVar 1) (DL.gCons (g2 ixD (gLst (DL.gCons (gC (.int 6)) (DL.gCons (gC (.int 40)) DL.gNil))) (gCall 2 F__law_draw (DL.gCons (gVar 1) (DL.gCons (gC (.int 2)) DL.gNil)))) DL.gNil))))
def lw7t : GT := (gOrT (gNotT (gTru (gIsi "list" (gVar 9)))) (gOrT (gTst (g2 (eqOp true) (gVar 9) (gVar 8))) (gTst (g2 (eqOp true) (gVar 7) (gVar 5)))))
def lw7 : GS := (sIf lw7t (sRet (gC (.bl false))) sNext)
def lw8t : GT := (gNotT (gTru (gBlt allF (DL.gCons (gComp (gIts (gVar 9)) gAll e1_law mkLst) DL.gNil))))
def lw8 : GS := (sIf lw8t (sRet (gC (.bl false))) sNext)
def lw9 : GS := (sDrop (gApp (gVar 9) (DL.gTup (DL.gCons (gC (.int 0)) (DL.gCons (DL.gTup (DL.gCons (gC (.str "pot")) (DL.gCons (gC (.int 0)) (DL.gCons (gC (.int 0)) DL.gNil)))) DL.gNil)))))
def lw10t : GT := (gTst (g2 (eqOp true) (gCall 4 F_deeds_by (DL.gCons (gVar 3) (DL.gCons (gVar 4) (DL.gCons (gVar 7) (DL.gCons (gVar 6) DL.gNil))))) (gVar 8)))
def lw10 : GS := (sIf lw10t (sRet (gC (.bl false))) sNext)
theorem lw_eq (ρ : Rho) (M : Mem) : b1_law ρ M = (sSeq lw0 (sSeq (sSet 4 (gCall 3 F__law_stand (DL.gCons (gVar 1) (DL.gCons (gVar 3) (DL.gCons (gC (.int 3)) DL.gNil))))) (sSeq (sSet 5 (gCall 3 F__law_score (DL.gCons (gVar 1) (DL.gCons (gVar 3) (DL.gCons (gVar 4) DL.gNil))))) (sSeq (sSet 6 (g2 addD (gC (.int 1)) (gCall 2 F__law_draw (DL.gCons (gVar 1) (DL.gCons (gC (.int 8)) DL.gNil))))) (sSeq (sSet 7 (gBlt listF (DL.gCons (gVar 5) DL.gNil))) (sSeq (sSet 8 (gCall 3 F__law_hand (DL.gCons (gVar 3) (DL.gCons (gVar 5) (DL.gCons (gVar 6) DL.gNil))))) (sSeq (sSet 9 (gCall 4 F_deeds_by (DL.gCons (gVar 3) (DL.gCons (gVar 4) (DL.gCons (gVar 7) (DL.gCons (gVar 6) DL.gNil)))))) (sSeq lw7 (sSeq lw8 (sSeq lw9 lw10)))))))))) ρ M := rfl
def lsg0 : GS := (sSet 3 (g2 ixD (gLst (DL.gCons (gCall 2 F__law_draw (DL.gCons (gVar 0) (DL.gCons (gC (.int 5)) DL.gNil))) (DL.gCons (gCall 2 F__law_draw (DL.gCons (gVar 0) (DL.gCons (gC (.int 20)) DL.gNil))) (DL.gCons (gCall 2 F__law_draw (DL.gCons (gVar 0) (DL.gCons (gC (.int 101)) DL.gNil))) DL.gNil)))) (g2 fdivD (gCall 2 F__law_draw (DL.gCons (gVar 0) (DL.gCons (gC (.int 8)) DL.gNil))) (gC (.int 3)))))
theorem lsg_eq (ρ : Rho) (M : Mem) : g__law_score ρ M = (sSeq lsg0 (sSeq (sSet 4 (gMut DL.gNil)) (sSeq (sFor (gRng1 (DL.gCons (gVar 3) DL.gNil)) (oneN 5) b1__law_score) (sRet (gVar 4))))) ρ M := rfl

/-! a score drawn -/
theorem tp_app {l : List Int} {i c i1 c1 : Int} {rest : Mem} {E : List D} {d : D} {go ge : GE} {ρ : Rho} (h1 : go ρ (tp l i c :: (rest ++ [.lst E])) = .ok (.mr (rest.length + 1)) (tp l i c :: (rest ++ [.lst E]))) (h3 : ge ρ (tp l i c :: (rest ++ [.lst E])) = .ok d (tp l i1 c1 :: (rest ++ [.lst E]))) (h : E.length < 1000000) :
    gApp go ge ρ (tp l i c :: (rest ++ [.lst E])) = .ok .non (tp l i1 c1 :: (rest ++ [.lst (E ++ [d])])) := by
  have e := app_at (k := rest.length + 1) (E := E) (E1 := E) h1 (by simp) h3 (by simp) h
  rw [e]
  simp
theorem ws_pick {f : Int} (h0 : 0 ≤ f) (h1 : f < 2) : (f = 0 ∨ f = 1) := by omega
theorem drawnline_ok {l : List Int} {rest M : Mem} {w h g m : Int} {s : Stn} {mm : Int} {many j : Nat} {E : List D} {x6 x7 x8 : Option D} (fk : FrOk w h g m) (sk : StnOk mm s) (hm : mm ≤ 12) (hj : j < many) (hmany : many ≤ 100) (hE : E.length ≤ 1000) (t : Tape l (rest ++ [.lst E]) M) :
    ∃ ln M' y6 y7 y8, LnOk s many ln ∧ Tape l (rest ++ [.lst (E ++ [Ln.d ln])]) M' ∧
      b1__law_score [some (.mr 0), some (frD w h g m), some s.d, some (.int many), some (.mr (rest.length + 1)), some (.int j), x6, x7, x8] M = .ok (.nx [some (.mr 0), some (frD w h g m), some s.d, some (.int many), some (.mr (rest.length + 1)), some (.int j), y6, y7, y8]) M' := by
  have kw := fk.w; have kh := fk.h; have kg := fk.g
  obtain ⟨way, M1, a1, b1, t1, e1⟩ := draw_ok (many := 8) (by decide) (log_small (by decide) (by decide)) t
  obtain ⟨p1, M2, a2, b2, t2, e2⟩ := draw_ok (many := h + 1) (by omega) (log_small (by omega) (by omega)) t1
  obtain ⟨p2, M3, a3, b3, t3, e3⟩ := draw_ok (many := w + g + 1) (by omega) (log_small (by omega) (by omega)) t2
  have s0 : (sSet 6 (gCall 2 F__law_draw (DL.gCons (gVar 0) (DL.gCons (gC (.int 8)) DL.gNil)))) [some (.mr 0), some (frD w h g m), some s.d, some (.int many), some (.mr (rest.length + 1)), some (.int j), x6, x7, x8] M = .ok (.nx [some (.mr 0), some (frD w h g m), some s.d, some (.int many), some (.mr (rest.length + 1)), some (.int j), some (.int way), x7, x8]) M1 :=
    set_ok (call2 (a := gVar 0) (b := gC (.int 8)) rfl rfl e1)
  have s1 : ls1 [some (.mr 0), some (frD w h g m), some s.d, some (.int many), some (.mr (rest.length + 1)), some (.int j), some (.int way), x7, x8] M1 = .ok (.nx [some (.mr 0), some (frD w h g m), some s.d, some (.int many), some (.mr (rest.length + 1)), some (.int j), some (.int way), some (.tup [.int p1, .int p2]), x8]) M3 := by
    have mn : gBlt minF (DL.gCons (gC (.int 61)) (DL.gCons (g2 addD (g2 ixD (gVar 1) (gC (.int 1))) (gC (.int 1))) DL.gNil)) [some (.mr 0), some (frD w h g m), some s.d, some (.int many), some (.mr (rest.length + 1)), some (.int j), some (.int way), x7, x8] M1 = .ok (.int (h + 1)) M1 := by
      show Out.ok (D.int (if h + 1 < 61 then h + 1 else 61)) M1 = _
      rw [if_pos (by omega)]
    unfold ls1
    exact set_ok (tup_ok (args_c (call2 (a := gVar 0) rfl mn e2) (args_c (call2 (a := gVar 0) (y := .int (w + g + 1)) rfl rfl e3) rfl)) (by simp))
  obtain ⟨i3, c3, hi3, rfl⟩ := t3
  have fin : ∀ (ln : Ln) (i c : Int) (y8 : Option D), 0 ≤ i → LnOk s many ln → ls2 [some (.mr 0), some (frD w h g m), some s.d, some (.int many), some (.mr (rest.length + 1)), some (.int j), some (.int way), some (.tup [.int p1, .int p2]), x8] (tp l i3 c3 :: (rest ++ [.lst E])) = .ok (.nx [some (.mr 0), some (frD w h g m), some s.d, some (.int many), some (.mr (rest.length + 1)), some (.int j), some (.int way), some (.tup [.int p1, .int p2]), y8]) (tp l i c :: (rest ++ [.lst (E ++ [ln.d])])) →
      ∃ ln M' y6 y7 y8, LnOk s many ln ∧ Tape l (rest ++ [.lst (E ++ [Ln.d ln])]) M' ∧
        b1__law_score [some (.mr 0), some (frD w h g m), some s.d, some (.int many), some (.mr (rest.length + 1)), some (.int j), x6, x7, x8] M = .ok (.nx [some (.mr 0), some (frD w h g m), some s.d, some (.int many), some (.mr (rest.length + 1)), some (.int j), y6, y7, y8]) M' := fun ln i c y8 hi ok e =>
    ⟨ln, _, some (.int way), some (.tup [.int p1, .int p2]), y8, ok, ⟨i, c, hi, rfl⟩, by rw [ls_eq, sq_nx s0, sq_nx s1]; exact e⟩
  by_cases w4 : way < 4
  · obtain ⟨dd, M4, dk, t4, e4⟩ := lawdeed_ok (w := w) (hh := h) (more := [.int g, .int m]) (l := l) (rest := rest ++ [.lst E]) (M := tp l i3 c3 :: (rest ++ [.lst E])) sk (by omega) (by omega) (by omega) ⟨i3, c3, hi3, rfl⟩
    obtain ⟨i4, c4, hi4, rfl⟩ := t4
    refine fin (.act dd) i4 c4 x8 hi4 dk ?_
    unfold ls2 ls2a
    have c : gTst (g2 ltD (gVar 6) (gC (.int 4))) [some (.mr 0), some (frD w h g m), some s.d, some (.int many), some (.mr (rest.length + 1)), some (.int j), some (.int way), some (.tup [.int p1, .int p2]), x8] (tp l i3 c3 :: (rest ++ [.lst E])) = .ok true (tp l i3 c3 :: (rest ++ [.lst E])) := by
      show Out.ok (decide (way < 4)) _ = _
      rw [decide_eq_true w4]
    exact (if_t c).trans (drop_ok (tp_app rfl (tup_ok (args_c (d := .str "do") rfl (args_c (call3 (a := gVar 0) (b := gVar 1) (c := gVar 2) rfl rfl rfl e4) rfl)) (by simp)) (by omega)))
  · have c4 : gTst (g2 ltD (gVar 6) (gC (.int 4))) [some (.mr 0), some (frD w h g m), some s.d, some (.int many), some (.mr (rest.length + 1)), some (.int j), some (.int way), some (.tup [.int p1, .int p2]), x8] (tp l i3 c3 :: (rest ++ [.lst E])) = .ok false (tp l i3 c3 :: (rest ++ [.lst E])) := by
      show Out.ok (decide (way < 4)) _ = _
      rw [decide_eq_false w4]
    have wsl : ∀ ρ N, gLst (DL.gCons (gC (.str "wait")) (DL.gCons (gC (.str "skip")) DL.gNil)) ρ N = .ok (.lst [.str "wait", .str "skip"]) N := fun ρ N => lst_ok rfl (by simp)
    have th : (1 : Nat) + 2 ≤ sizeLine := le_line (by decide)
    have ad : ∀ (x : Str) (p q : D) N, addD (.tup [.str x]) (.tup [p, q]) N = .ok (.tup [.str x, p, q]) N := fun x p q N => by
      show (if [D.str x].length + [p, q].length ≤ sizeLine then Out.ok (D.tup ([D.str x] ++ [p, q])) N else .bad) = _
      rw [if_pos (show [D.str x].length + [p, q].length ≤ sizeLine from th)]; rfl
    by_cases w6 : way < 6
    · have c6 : gTst (g2 ltD (gVar 6) (gC (.int 6))) [some (.mr 0), some (frD w h g m), some s.d, some (.int many), some (.mr (rest.length + 1)), some (.int j), some (.int way), some (.tup [.int p1, .int p2]), x8] (tp l i3 c3 :: (rest ++ [.lst E])) = .ok true (tp l i3 c3 :: (rest ++ [.lst E])) := by
        show Out.ok (decide (way < 6)) _ = _
        rw [decide_eq_true w6]
      have go : ∀ (x : Str), ixD (.lst [.str "wait", .str "skip"]) (.int (way - 4)) (tp l i3 c3 :: (rest ++ [.lst E])) = .ok (.str x) (tp l i3 c3 :: (rest ++ [.lst E])) → ls2 [some (.mr 0), some (frD w h g m), some s.d, some (.int many), some (.mr (rest.length + 1)), some (.int j), some (.int way), some (.tup [.int p1, .int p2]), x8] (tp l i3 c3 :: (rest ++ [.lst E])) = .ok (.nx [some (.mr 0), some (frD w h g m), some s.d, some (.int many), some (.mr (rest.length + 1)), some (.int j), some (.int way), some (.tup [.int p1, .int p2]), x8]) (tp l i3 c3 :: (rest ++ [.lst (E ++ [.tup [.str x, .int p1, .int p2]])])) := fun x e => by
        unfold ls2 ls2b
        exact (if_f c4).trans ((if_t c6).trans (drop_ok (tp_app rfl (g2_ok (x := .tup [.str x]) (y := .tup [.int p1, .int p2]) (tup_ok (args_c (g2_ok (wsl _ _) (y := .int (way - 4)) rfl e) rfl) (by simp)) rfl (ad _ _ _ _)) (by omega))))
      have : way = 4 ∨ way = 5 := by omega
      rcases this with q | q
      · exact fin (.wait p1 p2) i3 c3 x8 hi3 ⟨⟨a2, by omega⟩, ⟨a3, by omega⟩⟩ (go "wait" (by rw [q]; rfl))
      · exact fin (.skip p1 p2) i3 c3 x8 hi3 ⟨⟨a2, by omega⟩, ⟨a3, by omega⟩⟩ (go "skip" (by rw [q]; rfl))
    · have c6 : gTst (g2 ltD (gVar 6) (gC (.int 6))) [some (.mr 0), some (frD w h g m), some s.d, some (.int many), some (.mr (rest.length + 1)), some (.int j), some (.int way), some (.tup [.int p1, .int p2]), x8] (tp l i3 c3 :: (rest ++ [.lst E])) = .ok false (tp l i3 c3 :: (rest ++ [.lst E])) := by
        show Out.ok (decide (way < 6)) _ = _
        rw [decide_eq_false w6]
      by_cases e6 : way = 6
      · have c7 : gTst (g2 (eqOp false) (gVar 6) (gC (.int 6))) [some (.mr 0), some (frD w h g m), some s.d, some (.int many), some (.mr (rest.length + 1)), some (.int j), some (.int way), some (.tup [.int p1, .int p2]), x8] (tp l i3 c3 :: (rest ++ [.lst E])) = .ok true (tp l i3 c3 :: (rest ++ [.lst E])) := by
          refine (tst_bl (g2_ok (a := gVar 6) (b := gC (.int 6)) rfl rfl (eqI_f way 6 _))).trans ?_
          rw [decide_eq_true e6]
        obtain ⟨q1, M4, a4, b4, t4, e4⟩ := draw_ok (l := l) (rest := rest ++ [.lst E]) (many := 61) (by decide) (log_small (by decide) (by decide)) ⟨i3, c3, hi3, rfl⟩
        obtain ⟨q2, M5, a5, b5, t5, e5⟩ := draw_ok (many := 61) (by decide) (log_small (by decide) (by decide)) t4
        obtain ⟨f6, M6, a6, b6, t6, e6'⟩ := draw_ok (many := 2) (by decide) (log_small (by decide) (by decide)) t5
        obtain ⟨f7, M7, a7, b7, t7, e7⟩ := draw_ok (many := 3) (by decide) (log_small (by decide) (by decide)) t6
        obtain ⟨i5, c5, hi5, rfl⟩ := t5
        obtain ⟨i7, c7', hi7, rfl⟩ := t7
        have fd := fdiv_ok (i := f7) (j := 2) (by decide) (by decide) (tp l i7 c7' :: (rest ++ [.lst E]))
        have go : ∀ (x : Str) (u v : Int), ixD (.lst [.str "wait", .str "skip"]) (.int f6) M6 = .ok (.str x) M6 → ixD (.lst [.tup [.int p1, .int p2], .tup [.int q1, .int q2]]) (.int (f7 / 2)) (tp l i7 c7' :: (rest ++ [.lst E])) = .ok (.tup [.int u, .int v]) (tp l i7 c7' :: (rest ++ [.lst E])) → ls2 [some (.mr 0), some (frD w h g m), some s.d, some (.int many), some (.mr (rest.length + 1)), some (.int j), some (.int way), some (.tup [.int p1, .int p2]), x8] (tp l i3 c3 :: (rest ++ [.lst E])) = .ok (.nx [some (.mr 0), some (frD w h g m), some s.d, some (.int many), some (.mr (rest.length + 1)), some (.int j), some (.int way), some (.tup [.int p1, .int p2]), some (.tup [.int q1, .int q2])]) (tp l i7 c7' :: (rest ++ [.lst (E ++ [.tup [.str x, .int u, .int v]])])) := fun x u v ex ey => by
          have s8 : (sSet 8 (DL.gTup (DL.gCons (gCall 2 F__law_draw (DL.gCons (gVar 0) (DL.gCons (gC (.int 61)) DL.gNil))) (DL.gCons (gCall 2 F__law_draw (DL.gCons (gVar 0) (DL.gCons (gC (.int 61)) DL.gNil))) DL.gNil)))) [some (.mr 0), some (frD w h g m), some s.d, some (.int many), some (.mr (rest.length + 1)), some (.int j), some (.int way), some (.tup [.int p1, .int p2]), x8] (tp l i3 c3 :: (rest ++ [.lst E])) = .ok (.nx [some (.mr 0), some (frD w h g m), some s.d, some (.int many), some (.mr (rest.length + 1)), some (.int j), some (.int way), some (.tup [.int p1, .int p2]), some (.tup [.int q1, .int q2])]) (tp l i5 c5 :: (rest ++ [.lst E])) :=
            set_ok (tup_ok (args_c (call2 (a := gVar 0) (b := gC (.int 61)) rfl rfl e4) (args_c (call2 (a := gVar 0) (b := gC (.int 61)) rfl rfl e5) rfl)) (by simp))
          unfold ls2 ls2b
          refine (if_f c4).trans ((if_f c6).trans ((if_t c7).trans ((sq_nx s8).trans (drop_ok (tp_app rfl (g2_ok (x := .tup [.str x]) (y := .tup [.int u, .int v]) (tup_ok (args_c (g2_ok (wsl _ _) (call2 (a := gVar 0) (b := gC (.int 2)) rfl rfl e6') ex) rfl) (by simp)) (g2_ok (x := .lst [.tup [.int p1, .int p2], .tup [.int q1, .int q2]]) (lst_ok rfl (by simp)) (g2_ok (call2 (a := gVar 0) (b := gC (.int 3)) rfl rfl e7) rfl fd) ey) (ad _ _ _ _)) (by omega))))))
        have sel : ∃ u v, (0 ≤ u ∧ u ≤ 60) ∧ (0 ≤ v ∧ v ≤ 60) ∧ ixD (.lst [.tup [.int p1, .int p2], .tup [.int q1, .int q2]]) (.int (f7 / 2)) (tp l i7 c7' :: (rest ++ [.lst E])) = .ok (.tup [.int u, .int v]) (tp l i7 c7' :: (rest ++ [.lst E])) := by
          have : f7 / 2 = 0 ∨ f7 / 2 = 1 := by omega
          rcases this with q | q <;> rw [q]
          · exact ⟨p1, p2, ⟨a2, by omega⟩, ⟨a3, by omega⟩, rfl⟩
          · exact ⟨q1, q2, ⟨a4, by omega⟩, ⟨a5, by omega⟩, rfl⟩
        obtain ⟨u, v, hu, hv, ey⟩ := sel
        rcases ws_pick a6 b6 with q | q
        · exact fin (.wait u v) i7 c7' _ hi7 ⟨hu, hv⟩ (go "wait" u v (by rw [q]; rfl) ey)
        · exact fin (.skip u v) i7 c7' _ hi7 ⟨hu, hv⟩ (go "skip" u v (by rw [q]; rfl) ey)
      · have c7 : gTst (g2 (eqOp false) (gVar 6) (gC (.int 6))) [some (.mr 0), some (frD w h g m), some s.d, some (.int many), some (.mr (rest.length + 1)), some (.int j), some (.int way), some (.tup [.int p1, .int p2]), x8] (tp l i3 c3 :: (rest ++ [.lst E])) = .ok false (tp l i3 c3 :: (rest ++ [.lst E])) := by
          refine (tst_bl (g2_ok (a := gVar 6) (b := gC (.int 6)) rfl rfl (eqI_f way 6 _))).trans ?_
          rw [decide_eq_false e6]
        obtain ⟨q1, M4, a4, b4, t4, e4⟩ := draw_ok (l := l) (rest := rest ++ [.lst E]) (many := (many : Int)) (by omega) (log_small (by omega) (by omega)) ⟨i3, c3, hi3, rfl⟩
        obtain ⟨f5, M5, a5, b5, t5, e5⟩ := draw_ok (many := 2) (by decide) (log_small (by decide) (by decide)) t4
        obtain ⟨i5, c5, hi5, rfl⟩ := t5
        have mn : gBlt minF (DL.gCons (g2 subD (gVar 3) (gC (.int 1))) (DL.gCons (g2 addD (gVar 5) (gC (.int 1))) DL.gNil)) [some (.mr 0), some (frD w h g m), some s.d, some (.int many), some (.mr (rest.length + 1)), some (.int j), some (.int way), some (.tup [.int p1, .int p2]), x8] M4 = .ok (.int (if (j : Int) + 1 < (many : Int) - 1 then (j : Int) + 1 else (many : Int) - 1)) M4 := rfl
        have go : ∀ u : Int, ixD (.lst [.int q1, .int (if (j : Int) + 1 < (many : Int) - 1 then (j : Int) + 1 else (many : Int) - 1)]) (.int f5) (tp l i5 c5 :: (rest ++ [.lst E])) = .ok (.int u) (tp l i5 c5 :: (rest ++ [.lst E])) → ls2 [some (.mr 0), some (frD w h g m), some s.d, some (.int many), some (.mr (rest.length + 1)), some (.int j), some (.int way), some (.tup [.int p1, .int p2]), x8] (tp l i3 c3 :: (rest ++ [.lst E])) = .ok (.nx [some (.mr 0), some (frD w h g m), some s.d, some (.int many), some (.mr (rest.length + 1)), some (.int j), some (.int way), some (.tup [.int p1, .int p2]), x8]) (tp l i5 c5 :: (rest ++ [.lst (E ++ [.tup [.str "to", .int u]])])) := fun u eu => by
          unfold ls2 ls2b
          exact (if_f c4).trans ((if_f c6).trans ((if_f c7).trans (drop_ok (tp_app rfl (tup_ok (args_c (d := .str "to") rfl (args_c (g2_ok (lst_ok (args_c (call2 (a := gVar 0) (b := gVar 3) rfl rfl e4) (args_c mn rfl)) (by simp)) (call2 (a := gVar 0) (b := gC (.int 2)) rfl rfl e5) eu) rfl)) (by simp)) (by omega)))))
        rcases ws_pick a5 b5 with q | q
        · exact fin (.to q1) i5 c5 x8 hi5 ⟨a4, b4⟩ (go q1 (by rw [q]; rfl))
        · refine fin (.to (if (j : Int) + 1 < (many : Int) - 1 then (j : Int) + 1 else (many : Int) - 1)) i5 c5 x8 hi5 ?_ (go _ (by rw [q]; rfl))
          show 0 ≤ (if (j : Int) + 1 < (many : Int) - 1 then (j : Int) + 1 else (many : Int) - 1) ∧ (if (j : Int) + 1 < (many : Int) - 1 then (j : Int) + 1 else (many : Int) - 1) < (many : Int)
          split <;> omega
/-! loops, turn by turn -/
theorem for_ix {ds0 : List D} {s : GG} {body : GS} {W : Nat → Rho → Mem → Prop} : ∀ (ds : List D) (i : Nat), (∀ j d, ds[j]? = some d → ∀ ρ M, W (i + j) ρ M → ∃ ρ1 ρ2 M2, s d ρ = some ρ1 ∧ body ρ1 M = .ok (.nx ρ2) M2 ∧ W (i + j + 1) ρ2 M2) → ∀ ρ M, W i ρ M →
    ∃ ρ' M', W (i + ds.length) ρ' M' ∧ forGo ⟨ds0, none⟩ s body ds ρ M = .ok (.nx ρ') M'
  | [], i, h, ρ, M, hW => ⟨ρ, M, hW, rfl⟩
  | d :: ds, i, h, ρ, M, hW => by
    obtain ⟨ρ1, ρ2, M2, e1, e2, h2⟩ := h 0 d rfl ρ M hW
    obtain ⟨ρ', M', h3, e3⟩ := for_ix (ds0 := ds0) (s := s) (body := body) (W := W) ds (i + 1) (fun j d' hd ρ M hW => by
      have e : i + 1 + j = i + (j + 1) := by omega
      rw [e] at hW ⊢
      exact h (j + 1) d' hd ρ M hW) ρ2 M2 h2
    refine ⟨ρ', M', ?_, by simp [forGo, its_ok, e1, e2, e3]⟩
    have e : i + (d :: ds).length = i + 1 + ds.length := by simp; omega
    rw [e]; exact h3
theorem get_rangeD {lo : Int} {n j : Nat} {d : D} (h : (rangeD lo n)[j]? = some d) : j < n ∧ d = .int (lo + j) := by
  unfold rangeD at h
  rw [List.getElem?_map] at h
  cases q : (List.range n)[j]? with
  | none => rw [q] at h; cases h
  | some k =>
    rw [q] at h
    obtain ⟨hj, ek⟩ := List.getElem?_eq_some_iff.mp q
    rw [List.length_range] at hj
    rw [List.getElem_range] at ek
    subst ek
    cases h
    exact ⟨hj, rfl⟩
/-! the law of scores gone -/
theorem pure_tp {l : List Int} {i c : Int} {rest : Mem} (hr : rest.all pureM = true) : (tp l i c :: rest).all pureM = true := by
  have h : pureM (tp l i c) = true := by
    show (D.lst (l.map D.int) :: [D.int i, D.int c]).all (pureD 30) = true
    have := pure_ints 28 l
    simp [pureD_lst, this, pureD]
  rw [List.all_cons, h, hr]; rfl
theorem score_ok {l : List Int} {rest M : Mem} {w h g m : Int} {s : Stn} {mm : Int} (fk : FrOk w h g m) (sk : StnOk mm s) (hm : mm ≤ 12) (pr : rest.all pureM = true) (t : Tape l rest M) :
    ∃ (ls : List Ln) (M' : Mem), ls.length ≤ 100 ∧ (∀ x ∈ ls, LnOk s ls.length x) ∧ Tape l rest M' ∧ F__law_score [.mr 0, frD w h g m, s.d] M = .ok (.lst (ls.map Ln.d)) M' := by
  obtain ⟨f1, M1, a1, b1, t1, e1⟩ := draw_ok (many := 5) (by decide) (log_small (by decide) (by decide)) t
  obtain ⟨f2, M2, a2, b2, t2, e2⟩ := draw_ok (many := 20) (by decide) (log_small (by decide) (by decide)) t1
  obtain ⟨f3, M3, a3, b3, t3, e3⟩ := draw_ok (many := 101) (by decide) (log_small (by decide) (by decide)) t2
  obtain ⟨f4, M4, a4, b4, t4, e4⟩ := draw_ok (many := 8) (by decide) (log_small (by decide) (by decide)) t3
  have fd := fdiv_ok (i := f4) (j := 3) (by decide) (by decide) M4
  obtain ⟨many, hmany, em⟩ : ∃ n : Nat, n ≤ 100 ∧ ixD (.lst [.int f1, .int f2, .int f3]) (.int (f4 / 3)) M4 = .ok (.int n) M4 := by
    have : f4 / 3 = 0 ∨ f4 / 3 = 1 ∨ f4 / 3 = 2 := by omega
    obtain ⟨n1, rfl⟩ := Int.eq_ofNat_of_zero_le a1
    obtain ⟨n2, rfl⟩ := Int.eq_ofNat_of_zero_le a2
    obtain ⟨n3, rfl⟩ := Int.eq_ofNat_of_zero_le a3
    rcases this with q | q | q <;> rw [q]
    · exact ⟨n1, by omega, rfl⟩
    · exact ⟨n2, by omega, rfl⟩
    · exact ⟨n3, by omega, rfl⟩
  have s0 : lsg0 [some (.mr 0), some (frD w h g m), some s.d, none, none, none, none, none, none] M = .ok (.nx [some (.mr 0), some (frD w h g m), some s.d, some (.int many), none, none, none, none, none]) M4 := by
    unfold lsg0
    exact set_ok (g2_ok (lst_ok (args_c (call2 (a := gVar 0) (b := gC (.int 5)) rfl rfl e1) (args_c (call2 (a := gVar 0) (b := gC (.int 20)) rfl rfl e2) (args_c (call2 (a := gVar 0) (b := gC (.int 101)) rfl rfl e3) rfl))) (by simp)) (g2_ok (call2 (a := gVar 0) (b := gC (.int 8)) rfl rfl e4) rfl fd) em)
  obtain ⟨i4, c4, hi4, rfl⟩ := t4
  have s1 : (sSet 4 (gMut DL.gNil)) [some (.mr 0), some (frD w h g m), some s.d, some (.int many), none, none, none, none, none] (tp l i4 c4 :: rest) = .ok (.nx [some (.mr 0), some (frD w h g m), some s.d, some (.int many), some (.mr (rest.length + 1)), none, none, none, none]) (tp l i4 c4 :: (rest ++ [.lst []])) := set_ok mut_nil
  obtain ⟨ρ', M5, ⟨ls, y5, y6, y7, y8, ll, lk, t5, rfl⟩, ef⟩ := for_ix (ds0 := rangeD 0 many) (s := oneN 5) (body := b1__law_score)
    (W := fun j ρ N => ∃ (ls : List Ln) (y5 y6 y7 y8 : Option D), ls.length = j ∧ (∀ x ∈ ls, LnOk s many x) ∧ Tape l (rest ++ [.lst (ls.map Ln.d)]) N ∧ ρ = [some (.mr 0), some (frD w h g m), some s.d, some (.int many), some (.mr (rest.length + 1)), y5, y6, y7, y8])
    (rangeD 0 many) 0 (fun j d hd ρ N hW => by
      obtain ⟨ls, y5, y6, y7, y8, ll, lk, t5, rfl⟩ := hW
      obtain ⟨hj, hd'⟩ := get_rangeD hd
      subst hd'
      rw [Int.zero_add]
      obtain ⟨ln, N', z6, z7, z8, ok, t', e⟩ := drawnline_ok (x6 := y6) (x7 := y7) (x8 := y8) (j := j) fk sk hm hj hmany (by rw [List.length_map]; omega) t5
      refine ⟨_, _, N', rfl, e, ls ++ [ln], some (.int j), z6, z7, z8, by rw [List.length_append, ll]; rfl, fun x hx => ?_, by rw [List.map_append]; exact t', rfl⟩
      rcases List.mem_append.mp hx with q | q
      · exact lk x q
      · rw [List.mem_singleton.mp q]; exact ok) [some (.mr 0), some (frD w h g m), some s.d, some (.int many), some (.mr (rest.length + 1)), none, none, none, none] (tp l i4 c4 :: (rest ++ [.lst []])) ⟨[], none, none, none, none, rfl, (fun x h => by cases h), ⟨i4, c4, hi4, rfl⟩, rfl⟩
  rw [rangeD_length, Nat.zero_add] at ll
  obtain ⟨i5, c5, hi5, rfl⟩ := t5
  refine ⟨ls, tp l i5 c5 :: rest, by omega, fun x hx => ll ▸ lk x hx, ⟨i5, c5, hi5, rfl⟩, ?_⟩
  have lM : M.length = rest.length + 1 := by obtain ⟨i, c, _, rfl⟩ := t; rfl
  have r1 : ∀ N, rng1 [.int (many : Int)] N = .ok ⟨rangeD 0 many, none⟩ N := fun N => rng1_nat (by omega) N
  have sf : sFor (gRng1 (DL.gCons (gVar 3) DL.gNil)) (oneN 5) b1__law_score [some (.mr 0), some (frD w h g m), some s.d, some (.int many), some (.mr (rest.length + 1)), none, none, none, none] (tp l i4 c4 :: (rest ++ [.lst []])) = .ok (.nx [some (.mr 0), some (frD w h g m), some s.d, some (.int many), some (.mr (rest.length + 1)), y5, y6, y7, y8]) (tp l i5 c5 :: (rest ++ [.lst (ls.map Ln.d)])) := by
    exact for_ok (rng1_of (n := many) (args_c (d := .int (many : Int)) rfl rfl) (by omega)) ef
  show retP M.length (retOf (g__law_score [some (.mr 0), some (frD w h g m), some s.d, none, none, none, none, none, none] M)) = _
  rw [lsg_eq, sq_nx s0, sq_nx s1, sq_nx sf, lM]
  have pl : (ls.map Ln.d).all (pureD 29) = true := by
    rw [List.all_map]
    exact List.all_eq_true.mpr fun x _ => ln_pure x
  exact retP_mr (M := tp l i5 c5 :: rest) pl (pure_tp pr)
theorem comp_mapI {t : Its} {ge : GE} {ρ : Rho} {f : D → D} {M : Mem} (ht : t.ok M = true) : ∀ (ds : List D), (∀ d ∈ ds, ge (some d :: ρ) M = .ok (f d) M) → compGo t gAll ge ds ρ M = .ok (ds.map f) M
  | [], h => by rw [compGo, if_pos ht]; rfl
  | d :: ds, h => by
    have e1 := h d List.mem_cons_self
    have e2 := comp_mapI ht ds fun d' hd => h d' (List.mem_cons_of_mem _ hd)
    rw [compGo, if_pos ht]
    dsimp only [gAll]
    rw [e1]
    dsimp only
    rw [e2]; rfl
theorem turn_ok {ns : List Int} {rest M : Mem} {x0 x2 x3 x4 x5 x6 x7 x8 x9 : Option D} (t0 : Tape ns rest M) (pr : rest.all pureM = true) :
    ∃ y3 y4 y5 y6 y7 y8 y9 rest' M', Tape ns rest' M' ∧ rest'.all pureM = true ∧ b1_law [x0, some (.mr 0), x2, x3, x4, x5, x6, x7, x8, x9] M = .ok (.nx [x0, some (.mr 0), x2, y3, y4, y5, y6, y7, y8, y9]) M' := by
  obtain ⟨f0, M0, a0, b0, t0', e0⟩ := draw_ok (many := 2) (by decide) (log_small (by decide) (by decide)) t0
  obtain ⟨most, m1, m2, em⟩ : ∃ most : Int, 1 ≤ most ∧ most ≤ 40 ∧ ∀ N, ixD (.lst [.int 6, .int 40]) (.int f0) N = .ok (.int most) N := by
    have : f0 = 0 ∨ f0 = 1 := by omega
    rcases this with q | q <;> rw [q]
    · exact ⟨6, by decide, by decide, fun _ => rfl⟩
    · exact ⟨40, by decide, by decide, fun _ => rfl⟩
  obtain ⟨w, h, g, m, M1, kw, kh, kg, km, t1, e1⟩ := frame_ok m1 (by omega) t0'
  have fk : FrOk w h g m := ⟨⟨kw.1, by omega⟩, ⟨kh.1, by omega⟩, kg, km⟩
  obtain ⟨s, M2, sk, t2, e2⟩ := stand_ok (w := w) (hh := h) (more := [.int g, .int m]) (mm := 3) ⟨by omega, by omega⟩ ⟨by omega, by omega⟩ (by decide) t1
  obtain ⟨ls, M3, l1, lk, t3, e3⟩ := score_ok fk sk (by decide) pr t2
  obtain ⟨f4, M4, a4, b4, t4, e4⟩ := draw_ok (many := 8) (by decide) (log_small (by decide) (by decide)) t3
  have hp : 1 ≤ 1 + f4 := by omega
  have s0 : lw0 [x0, some (.mr 0), x2, x3, x4, x5, x6, x7, x8, x9] M = .ok (.nx [x0, some (.mr 0), x2, some (frD w h g m), x4, x5, x6, x7, x8, x9]) M1 := by
    unfold lw0
    exact set_ok (call2 (a := gVar 1) rfl (g2_ok (lst_ok rfl (by simp)) (call2 (a := gVar 1) (b := gC (.int 2)) rfl rfl e0) (em _)) e1)
  have s1 : (sSet 4 (gCall 3 F__law_stand (DL.gCons (gVar 1) (DL.gCons (gVar 3) (DL.gCons (gC (.int 3)) DL.gNil))))) [x0, some (.mr 0), x2, some (frD w h g m), x4, x5, x6, x7, x8, x9] M1 = .ok (.nx [x0, some (.mr 0), x2, some (frD w h g m), some s.d, x5, x6, x7, x8, x9]) M2 :=
    set_ok (call3 (a := gVar 1) (b := gVar 3) (c := gC (.int 3)) rfl rfl rfl e2)
  have s2 : (sSet 5 (gCall 3 F__law_score (DL.gCons (gVar 1) (DL.gCons (gVar 3) (DL.gCons (gVar 4) DL.gNil))))) [x0, some (.mr 0), x2, some (frD w h g m), some s.d, x5, x6, x7, x8, x9] M2 = .ok (.nx [x0, some (.mr 0), x2, some (frD w h g m), some s.d, some (.lst (ls.map Ln.d)), x6, x7, x8, x9]) M3 :=
    set_ok (call3 (a := gVar 1) (b := gVar 3) (c := gVar 4) rfl rfl rfl e3)
  have s3 : (sSet 6 (g2 addD (gC (.int 1)) (gCall 2 F__law_draw (DL.gCons (gVar 1) (DL.gCons (gC (.int 8)) DL.gNil))))) [x0, some (.mr 0), x2, some (frD w h g m), some s.d, some (.lst (ls.map Ln.d)), x6, x7, x8, x9] M3 = .ok (.nx [x0, some (.mr 0), x2, some (frD w h g m), some s.d, some (.lst (ls.map Ln.d)), some (.int (1 + f4)), x7, x8, x9]) M4 :=
    set_ok (g2_ok (x := .int 1) (y := .int f4) rfl (call2 (a := gVar 1) (b := gC (.int 8)) rfl rfl e4) rfl)
  obtain ⟨i4, c4, hi4, rfl⟩ := t4
  have pM := pure_tp (l := ns) (i := i4) (c := c4) pr
  have pd : (due w h g (1 + f4) ls).all (pureD 29) = true := List.all_eq_true.mpr fun d hd => td_pure (due_td d hd)
  have hd := hand_ok (s := s) (M := tp ns i4 c4 :: rest) fk hp lk pd pM
  have cd : cmpOk 40 (.lst (due w h g (1 + f4) ls)) = true := by
    show cmpOks 39 (due w h g (1 + f4) ls) = true
    exact cmpOks_all fun d hd => td_cmp (due_td d hd)
  have cs : cmpOk 40 (.lst (ls.map Ln.d)) = true := by
    show cmpOks 39 (ls.map Ln.d) = true
    exact cmpOks_all fun d hd => by obtain ⟨x, _, rfl⟩ := List.mem_map.mp hd; exact ln_cmp x
  have dt := due_td (w := w) (h := h) (g := g) (pace := 1 + f4) (ls := ls)
  have b1 := by_ok (M := tp ns i4 c4 :: rest) fk sk (by decide) hp lk l1
  have dl : (due w h g (1 + f4) ls).length ≤ 100000 := by
    have gen : ∀ (row tot pace : Int) (n : Nat) (here tick : Int) (acc : List D), (handGo row tot pace ls n here tick acc).length ≤ acc.length + n := by
      intro row tot pace n
      induction n with
      | zero => intro _ _ acc; exact Nat.le_refl _
      | succ n ih =>
        intro here tick acc
        unfold handGo
        split
        · omega
        · rename_i l _
          split
          · omega
          · have h1 := ih (l.later row here (l.tk row tick)) (l.tk row tick + pace) (acc ++ l.told (l.tk row tick))
            rw [List.length_append] at h1
            have := told_len (l.tk row tick) l
            omega
    have := gen (w + g) (h * (w + g)) (1 + f4) 5000 0 0 []
    show (handGo (w + g) (h * (w + g)) (1 + f4) ls 5000 0 0 []).length ≤ _
    simp at this
    omega
  have b2 := by_ok (M := tp ns i4 c4 :: (rest ++ [.lst (due w h g (1 + f4) ls ++ [.tup [.int 0, .tup [.str "pot", .int 0, .int 0]]])])) fk sk (by decide) hp lk l1
  generalize due w h g (1 + f4) ls = X at *
  generalize hL : ls.map Ln.d = L at *
  have s4 : (sSet 7 (gBlt listF (DL.gCons (gVar 5) DL.gNil))) [x0, some (.mr 0), x2, some (frD w h g m), some s.d, some (.lst L), some (.int (1 + f4)), x7, x8, x9] (tp ns i4 c4 :: rest) = .ok (.nx [x0, some (.mr 0), x2, some (frD w h g m), some s.d, some (.lst L), some (.int (1 + f4)), some (.lst L), x8, x9]) (tp ns i4 c4 :: rest) := rfl
  have s5 : (sSet 8 (gCall 3 F__law_hand (DL.gCons (gVar 3) (DL.gCons (gVar 5) (DL.gCons (gVar 6) DL.gNil))))) [x0, some (.mr 0), x2, some (frD w h g m), some s.d, some (.lst L), some (.int (1 + f4)), some (.lst L), x8, x9] (tp ns i4 c4 :: rest) = .ok (.nx [x0, some (.mr 0), x2, some (frD w h g m), some s.d, some (.lst L), some (.int (1 + f4)), some (.lst L), some (.lst X), x9]) (tp ns i4 c4 :: rest) :=
    set_ok (call3 (a := gVar 3) (b := gVar 5) (c := gVar 6) rfl rfl rfl hd)
  have s6 : (sSet 9 (gCall 4 F_deeds_by (DL.gCons (gVar 3) (DL.gCons (gVar 4) (DL.gCons (gVar 7) (DL.gCons (gVar 6) DL.gNil)))))) [x0, some (.mr 0), x2, some (frD w h g m), some s.d, some (.lst L), some (.int (1 + f4)), some (.lst L), some (.lst X), x9] (tp ns i4 c4 :: rest) = .ok (.nx [x0, some (.mr 0), x2, some (frD w h g m), some s.d, some (.lst L), some (.int (1 + f4)), some (.lst L), some (.lst X), some (.mr (rest.length + 1))]) (tp ns i4 c4 :: (rest ++ [.lst X])) :=
    set_ok (call4 (a := gVar 3) (b := gVar 4) (c := gVar 7) (d := gVar 6) rfl rfl rfl rfl b1)
  have at1 : (tp ns i4 c4 :: (rest ++ [MO.lst X]))[rest.length + 1]? = some (.lst X) := by simp
  have eqX : eqOp true (.mr (rest.length + 1)) (.lst X) (tp ns i4 c4 :: (rest ++ [.lst X])) = .ok (.bl false) (tp ns i4 c4 :: (rest ++ [.lst X])) := by
    have nw : now (.mr (rest.length + 1)) (tp ns i4 c4 :: (rest ++ [.lst X])) = .lst X := by
      unfold now
      dsimp only
      rw [at1]
    unfold eqOp
    rw [nw]
    show (if cmpOk 40 (.lst X) && cmpOk 40 (.lst X) then Out.ok (D.bl (eqB (.lst X) (.lst X) != true)) _ else .bad) = _
    rw [cd, eqB_self _ 40 cd]; rfl
  have s7 : lw7 [x0, some (.mr 0), x2, some (frD w h g m), some s.d, some (.lst L), some (.int (1 + f4)), some (.lst L), some (.lst X), some (.mr (rest.length + 1))] (tp ns i4 c4 :: (rest ++ [.lst X])) = .ok (.nx [x0, some (.mr 0), x2, some (frD w h g m), some s.d, some (.lst L), some (.int (1 + f4)), some (.lst L), some (.lst X), some (.mr (rest.length + 1))]) (tp ns i4 c4 :: (rest ++ [.lst X])) := by
    have isl : gIsi "list" (gVar 9) [x0, some (.mr 0), x2, some (frD w h g m), some s.d, some (.lst L), some (.int (1 + f4)), some (.lst L), some (.lst X), some (.mr (rest.length + 1))] (tp ns i4 c4 :: (rest ++ [.lst X])) = .ok (.bl true) (tp ns i4 c4 :: (rest ++ [.lst X])) := by
      unfold gIsi
      show ((Out.ok (D.mr (rest.length + 1)) _).bind _) = _
      rw [DL.bind_ok]
      show (match tyM (.mr (rest.length + 1)) (tp ns i4 c4 :: (rest ++ [.lst X])) with | some t => Out.ok (D.bl (subT t "list")) _ | none => .bad) = _
      unfold tyM
      dsimp only
      rw [at1]; rfl
    have c := orT_ok (notT_ok (tru_bl isl)) fun _ => orT_ok (tst_bl (g2_ok (a := gVar 9) (b := gVar 8) rfl rfl eqX)) fun _ => tst_bl (g2_ok (a := gVar 7) (b := gVar 5) rfl rfl (eq_same cs (eqB_self _ 40 cs) (fun _ => rfl) _))
    unfold lw7
    exact (if_f c).trans rfl
  have s8 : lw8 [x0, some (.mr 0), x2, some (frD w h g m), some s.d, some (.lst L), some (.int (1 + f4)), some (.lst L), some (.lst X), some (.mr (rest.length + 1))] (tp ns i4 c4 :: (rest ++ [.lst X])) = .ok (.nx [x0, some (.mr 0), x2, some (frD w h g m), some s.d, some (.lst L), some (.int (1 + f4)), some (.lst L), some (.lst X), some (.mr (rest.length + 1))]) (tp ns i4 c4 :: (rest ++ [.lst X])) := by
    have it : gIts (gVar 9) [x0, some (.mr 0), x2, some (frD w h g m), some s.d, some (.lst L), some (.int (1 + f4)), some (.lst L), some (.lst X), some (.mr (rest.length + 1))] (tp ns i4 c4 :: (rest ++ [.lst X])) = .ok ⟨X, some (rest.length + 1)⟩ (tp ns i4 c4 :: (rest ++ [.lst X])) := by
      show itsOf (.mr (rest.length + 1)) _ = _
      unfold itsOf
      dsimp only
      rw [at1]
    have io : Its.ok ⟨X, some (rest.length + 1)⟩ (tp ns i4 c4 :: (rest ++ [.lst X])) = true := by
      show (match (tp ns i4 c4 :: (rest ++ [MO.lst X]))[rest.length + 1]? with | some (MO.lst xs) => beqDs xs X | _ => false) = true
      rw [at1]
      exact beqDs_refl _
    have cm := comp_mapI (ge := e1_law) (ρ := [x0, some (.mr 0), x2, some (frD w h g m), some s.d, some (.lst L), some (.int (1 + f4)), some (.lst L), some (.lst X), some (.mr (rest.length + 1))]) (f := fun _ => .bl true) io X fun d hd => by
      obtain ⟨t, dd, rfl⟩ := dt d hd
      rfl
    have lX : (X.map fun _ => D.bl true).length ≤ sizeLine := by rw [List.length_map]; exact le_line (by omega)
    have al : gBlt allF (DL.gCons (gComp (gIts (gVar 9)) gAll e1_law mkLst) DL.gNil) [x0, some (.mr 0), x2, some (frD w h g m), some s.d, some (.lst L), some (.int (1 + f4)), some (.lst L), some (.lst X), some (.mr (rest.length + 1))] (tp ns i4 c4 :: (rest ++ [.lst X])) = .ok (.bl true) (tp ns i4 c4 :: (rest ++ [.lst X])) := by
      refine blt1 (x := .lst (X.map fun _ => D.bl true)) (M1 := tp ns i4 c4 :: (rest ++ [.lst X])) ?_ ?_
      · unfold gComp
        rw [it, DL.bind_ok]
        dsimp only
        rw [cm, DL.bind_ok]
        unfold mkLst
        rw [if_pos lX]
      · have := boolsD (p := fun _ => true) X
        show (match boolsOf (X.map fun d => D.bl true) with | some bs => Out.ok (D.bl (bs.all id)) _ | none => .bad) = _
        rw [this]
        dsimp only
        rw [List.all_map]
        congr 2
        exact List.all_eq_true.mpr fun _ _ => rfl
    unfold lw8 lw8t
    exact (if_f (notT_ok (tru_bl al))).trans rfl
  have s9 : lw9 [x0, some (.mr 0), x2, some (frD w h g m), some s.d, some (.lst L), some (.int (1 + f4)), some (.lst L), some (.lst X), some (.mr (rest.length + 1))] (tp ns i4 c4 :: (rest ++ [.lst X])) = .ok (.nx [x0, some (.mr 0), x2, some (frD w h g m), some s.d, some (.lst L), some (.int (1 + f4)), some (.lst L), some (.lst X), some (.mr (rest.length + 1))]) (tp ns i4 c4 :: (rest ++ [.lst (X ++ [.tup [.int 0, .tup [.str "pot", .int 0, .int 0]]])])) := by
    unfold lw9
    exact drop_ok (tp_app rfl (tup_ok (args_c (d := .int 0) rfl (args_c (tup_ok (ds := [.str "pot", .int 0, .int 0]) rfl (by simp)) rfl)) (by simp)) (by omega))
  have pX : (rest ++ [MO.lst (X ++ [.tup [.int 0, .tup [.str "pot", .int 0, .int 0]]]), MO.lst X]).all pureM = true := by
    have p1 : pureM (.lst X) = true := List.all_eq_true.mpr fun d hd => by
      obtain ⟨t, dd, rfl⟩ := dt d hd
      show ([D.int t, dd.d].all (pureD 29)) = true
      have : pureD 29 dd.d = true := by
        cases dd with
        | shape i o => cases o <;> rfl
        | _ => rfl
      simp [this]
    have p2 : pureM (.lst (X ++ [.tup [.int 0, .tup [.str "pot", .int 0, .int 0]]])) = true := by
      show (X ++ [D.tup [.int 0, .tup [.str "pot", .int 0, .int 0]]]).all (pureD 30) = true
      rw [List.all_append, show X.all (pureD 30) = true from p1]; rfl
    rw [List.all_append, pr]
    simp [p1, p2]
  have at2 : (tp ns i4 c4 :: (rest ++ [.lst (X ++ [.tup [.int 0, .tup [.str "pot", .int 0, .int 0]]]), .lst X]))[rest.length + 2]? = some (.lst X) := by
    simp
  have b2' : F_deeds_by [frD w h g m, s.d, .lst L, .int (1 + f4)] (tp ns i4 c4 :: (rest ++ [.lst (X ++ [.tup [.int 0, .tup [.str "pot", .int 0, .int 0]]])])) = .ok (.mr (rest.length + 2)) (tp ns i4 c4 :: (rest ++ [.lst (X ++ [.tup [.int 0, .tup [.str "pot", .int 0, .int 0]]]), .lst X])) := by
    rw [b2]
    simp
  have eqX2 : eqOp true (.mr (rest.length + 2)) (.lst X) (tp ns i4 c4 :: (rest ++ [.lst (X ++ [.tup [.int 0, .tup [.str "pot", .int 0, .int 0]]]), .lst X])) = .ok (.bl false) (tp ns i4 c4 :: (rest ++ [.lst (X ++ [.tup [.int 0, .tup [.str "pot", .int 0, .int 0]]]), .lst X])) := by
    have nw : now (.mr (rest.length + 2)) (tp ns i4 c4 :: (rest ++ [.lst (X ++ [.tup [.int 0, .tup [.str "pot", .int 0, .int 0]]]), .lst X])) = .lst X := by
      unfold now
      dsimp only
      rw [at2]
    unfold eqOp
    rw [nw]
    show (if cmpOk 40 (.lst X) && cmpOk 40 (.lst X) then Out.ok (D.bl (eqB (.lst X) (.lst X) != true)) _ else .bad) = _
    rw [cd, eqB_self _ 40 cd]; rfl
  have s10 : lw10 [x0, some (.mr 0), x2, some (frD w h g m), some s.d, some (.lst L), some (.int (1 + f4)), some (.lst L), some (.lst X), some (.mr (rest.length + 1))] (tp ns i4 c4 :: (rest ++ [.lst (X ++ [.tup [.int 0, .tup [.str "pot", .int 0, .int 0]]])])) = .ok (.nx [x0, some (.mr 0), x2, some (frD w h g m), some s.d, some (.lst L), some (.int (1 + f4)), some (.lst L), some (.lst X), some (.mr (rest.length + 1))]) (tp ns i4 c4 :: (rest ++ [.lst (X ++ [.tup [.int 0, .tup [.str "pot", .int 0, .int 0]]]), .lst X])) := by
    unfold lw10 lw10t
    exact (if_f (tst_bl (g2_ok (b := gVar 8) (call4 (a := gVar 3) (b := gVar 4) (c := gVar 7) (d := gVar 6) rfl rfl rfl rfl b2') rfl eqX2))).trans rfl
  refine ⟨some (frD w h g m), some s.d, some (.lst L), some (.int (1 + f4)), some (.lst L), some (.lst X), some (.mr (rest.length + 1)), rest ++ [MO.lst (X ++ [.tup [.int 0, .tup [.str "pot", .int 0, .int 0]]]), MO.lst X], tp ns i4 c4 :: (rest ++ [MO.lst (X ++ [.tup [.int 0, .tup [.str "pot", .int 0, .int 0]]]), MO.lst X]), ⟨i4, c4, hi4, rfl⟩, pX, ?_⟩
  rw [lw_eq, sq_nx s0, sq_nx s1, sq_nx s2, sq_nx s3, sq_nx s4, sq_nx s5, sq_nx s6, sq_nx s7, sq_nx s8, sq_nx s9, s10]
theorem law_true (ns : List Int) (hl : ns.length ≤ 63) : ∃ M', F_law [.ro (ns.map D.int)] [] = .ok (.bl true) M' := by
  obtain ⟨ρ2, M2, _, ef⟩ := for_all (ds0 := rangeD 0 4) (s := oneN 2) (body := b1_law) (W := fun ρ M => ∃ rest x2 x3 x4 x5 x6 x7 x8 x9, Tape ns rest M ∧ rest.all pureM = true ∧ ρ = [some (.ro (ns.map D.int)), some (.mr 0), x2, x3, x4, x5, x6, x7, x8, x9]) (rangeD 0 4)
    (fun d hd ρ M hW => by
      obtain ⟨rest, x2, x3, x4, x5, x6, x7, x8, x9, t, pr, rfl⟩ := hW
      obtain ⟨y3, y4, y5, y6, y7, y8, y9, rest', M', t', pr', e⟩ := turn_ok (x0 := some (.ro (ns.map D.int))) (x2 := some d) (x3 := x3) (x4 := x4) (x5 := x5) (x6 := x6) (x7 := x7) (x8 := x8) (x9 := x9) t pr
      exact ⟨_, _, M', rfl, e, rest', _, _, _, _, _, _, _, _, t', pr', rfl⟩) [some (.ro (ns.map D.int)), some (.mr 0), none, none, none, none, none, none, none, none] [tp ns 0 0] ⟨[], _, _, _, _, _, _, _, _, ⟨0, 0, by decide, rfl⟩, rfl, rfl⟩
  have r4 : ∀ M, rng1 [.int 4] M = .ok ⟨rangeD 0 4, none⟩ M := fun M => rng1_ok (j := 4) (by decide) M
  have l3 : (3 : Nat) ≤ sizeLine := le_line (by decide)
  have ef' : forGo ⟨rangeD 0 4, none⟩ (oneN 2) b1_law (rangeD 0 4) [some (.ro (ns.map D.int)), some (.mr 0), none, none, none, none, none, none, none, none] [MO.lst [D.lst (ns.map D.int), D.int 0, D.int 0]] = _ := ef
  refine ⟨M2, ?_⟩
  unfold F_law g_law
  simp_arith [sFor, l3, ef', r4]
end K26


open PySem PySem.W PyProof.Rows
local macro_rules | `(tactic| o_head $H) => `(tactic| (
  refine holds_open (q := (view PySem.Challenge.pw_glowrow_k26_scores_gone [1, 2, 3, 4, 6, 7, 9, 10, 11, 13, 14, 15, 16, 17, 19, 20, 21, 22, 23, 24, 25, 26, 27, 28, 29, 31, 33, 34, 35, 36, 37, 38, 39, 41, 42, 43, 44, 45, 46, 47, 48, 49, 50, 51, 52])) (loose := []) (Xt := fun s => xlAt (view PySem.Challenge.pw_glowrow_k26_scores_gone [1, 2, 3, 4, 6, 7, 9, 10, 11, 13, 14, 15, 16, 17, 19, 20, 21, 22, 23, 24, 25, 26, 27, 28, 29, 31, 33, 34, 35, 36, 37, 38, 39, 41, 42, 43, 44, 45, 46, 47, 48, 49, 50, 51, 52]) [] s && recOk (RowW.records (OpenRow.toRowW (OpenLaw.row PySem.Challenge.rw_glowrow_k26_scores_gone))) s) (XP := XL (view PySem.Challenge.pw_glowrow_k26_scores_gone [1, 2, 3, 4, 6, 7, 9, 10, 11, 13, 14, 15, 16, 17, 19, 20, 21, 22, 23, 24, 25, 26, 27, 28, 29, 31, 33, 34, 35, 36, 37, 38, 39, 41, 42, 43, 44, 45, 46, 47, 48, 49, 50, 51, 52]) []) (Yf := Hook.obs $H) (Ya := Hook.val $H) (YP := Hook.says $H) (N := 4358) ?hl (Hook.of $H) (Hook.keeps $H) (fun s e => xl_of s (Bool.and_eq_true_iff.mp e).1) XL.keeps (by rfl) (by rfl) (by rfl) (fun s e => recFacts_of (Bool.and_eq_true_iff.mp e).2) (by rfl) (by first | assumption | decide +kernel) (by decide +kernel) ⟨rfl, rfl, rfl, rfl, rfl, by decide +kernel⟩ ?hw ?hc;
  (case hl =>
    refine Hd.left_whole (H := boot_heap) (gs := Array.mk []) (d := boot_drawn) (k := boot_toks) (m := 11) (ann := some (Value.ref 6)) (T := Hd.bootT) (lf := {}) (boot_open (by kernel_rfl) rfl (fun s => by kernel_rfl)) (fun w => by kernel_rfl) Hd.boot_tree ?_
    intro w os
    rw [PySem.W.Fast.te15732481512506401174, PySem.W.Fast.te2530740449226627131, PySem.W.Fast.te4187177175401517315]
    kernel_rfl)))
set_option maxRecDepth 100000 in
set_option maxHeartbeats 0 in
theorem PySem.Challenge.cw_glowrow_k26_scores_gone_holds : PySem.Challenge.rw_glowrow_k26_scores_gone.Holds := by
  w_on; o_law; k_head; (case hw => w_witness2)
  k_fill
  refine DL.walk_d (l := PySem.Challenge.rw_glowrow_k26_scores_gone) (n := 63) (k := 11) (x := "script") (F := K26.F_law) rfl (by decide) rfl ⟨rfl, by decide, by decide⟩ (fun w h Y => PySem.W.kIn_of Y) ?F ?t1 ?t2 ?t3 ?t4 K26.law_true
  case F =>
    intro w mg fa h KX G hmg
    refine' K26.all_mk KX G hmg ?a0 ?l0 ?c0 ?k0 ?a1 ?l1 ?c1 ?k1 ?a2 ?l2 ?c2 ?k2 ?a3 ?l3 ?c3 ?k3 ?a4 ?l4 ?c4 ?k4 ?a5 ?l5 ?c5 ?k5 ?a6 ?l6 ?c6 ?k6 ?a7 ?l7 ?c7 ?k7 ?a8 ?l8 ?c8 ?k8 ?a9 ?l9 ?c9 ?k9 ?a10 ?l10 ?c10 ?k10 ?a11 ?l11 ?c11 ?k11 ?a12 ?l12 ?c12 ?k12 ?a13 ?l13 ?c13 ?k13 ?a14 ?l14 ?c14 ?k14 ?a15 ?l15 ?c15 ?k15 ?a16 ?l16 ?c16 ?k16 ?a17 ?l17 ?c17 ?k17 ?a18 ?l18 ?c18 ?k18 ?a19 ?l19 ?c19 ?k19 ?a20 ?l20 ?c20 ?k20 ?a21 ?l21 ?c21 ?k21 ?a22 ?l22 ?c22 ?k22 ?a23 ?l23 ?c23 ?k23 ?a24 ?l24 ?c24 ?k24 ?a25 ?l25 ?c25 ?k25 ?a26 ?l26 ?c26 ?k26 ?a27 ?l27 ?c27 ?k27 ?a28 ?l28 ?c28 ?k28 ?a29 ?l29 ?c29 ?k29 ?a30 ?l30 ?c30 ?k30 ?a31 ?l31 ?c31 ?k31 ?a32 ?l32 ?c32 ?k32 ?a33 ?l33 ?c33 ?k33 ?a34 ?l34 ?c34 ?k34 ?a35 ?l35 ?c35 ?k35 ?a36 ?l36 ?c36 ?k36 ?a37 ?l37 ?c37 ?k37 ?a38 ?l38 ?c38 ?k38 ?a39 ?l39 ?c39 ?k39 ?z0 ?z1 ?z2 ?z3 ?z4 ?z5 ?z6 ?z7 ?z8 ?z9 ?sp ?tk ?q_NoFrame ?cl_NoFrame ?ca_NoFrame ?ob_NoFrame ?ga_NoFrame ?gh_NoFrame ?be_NoFrame ?ex_NoFrame ?ty_NoFrame ?sf_NoFrame ?q_NoScore ?cl_NoScore ?ca_NoScore ?ob_NoScore ?ga_NoScore ?gh_NoScore ?be_NoScore ?ex_NoScore ?ty_NoScore ?sf_NoScore ?q_NoStand ?cl_NoStand ?ca_NoStand ?ob_NoStand ?ga_NoStand ?gh_NoStand ?be_NoStand ?ex_NoStand ?ty_NoStand ?sf_NoStand ?v_MOST_LINES
    (case a0 => k_is)
    (case l0 => k_is)
    (case c0 => k_is)
    (case k0 => k_is)
    (case a1 => k_is)
    (case l1 => k_is)
    (case c1 => k_is)
    (case k1 => k_is)
    (case a2 => k_is)
    (case l2 => k_is)
    (case c2 => k_is)
    (case k2 => k_is)
    (case a3 => k_is)
    (case l3 => k_is)
    (case c3 => k_is)
    (case k3 => k_is)
    (case a4 => k_is)
    (case l4 => k_is)
    (case c4 => k_is)
    (case k4 => k_is)
    (case a5 => k_is)
    (case l5 => k_is)
    (case c5 => k_is)
    (case k5 => k_is)
    (case a6 => k_is)
    (case l6 => k_is)
    (case c6 => k_is)
    (case k6 => k_is)
    (case a7 => k_is)
    (case l7 => k_is)
    (case c7 => k_is)
    (case k7 => k_is)
    (case a8 => k_is)
    (case l8 => k_is)
    (case c8 => k_is)
    (case k8 => k_is)
    (case a9 => k_is)
    (case l9 => k_is)
    (case c9 => k_is)
    (case k9 => k_is)
    (case a10 => k_is)
    (case l10 => k_is)
    (case c10 => k_is)
    (case k10 => k_is)
    (case a11 => k_is)
    (case l11 => k_is)
    (case c11 => k_is)
    (case k11 => k_is)
    (case a12 => k_is)
    (case l12 => k_is)
    (case c12 => k_is)
    (case k12 => k_is)
    (case a13 => k_is)
    (case l13 => k_is)
    (case c13 => k_is)
    (case k13 => k_is)
    (case a14 => k_is)
    (case l14 => k_is)
    (case c14 => k_is)
    (case k14 => k_is)
    (case a15 => k_is)
    (case l15 => k_is)
    (case c15 => k_is)
    (case k15 => k_is)
    (case a16 => k_is)
    (case l16 => k_is)
    (case c16 => k_is)
    (case k16 => k_is)
    (case a17 => k_is)
    (case l17 => k_is)
    (case c17 => k_is)
    (case k17 => k_is)
    (case a18 => k_is)
    (case l18 => k_is)
    (case c18 => k_is)
    (case k18 => k_is)
    (case a19 => k_is)
    (case l19 => k_is)
    (case c19 => k_is)
    (case k19 => k_is)
    (case a20 => k_is)
    (case l20 => k_is)
    (case c20 => k_is)
    (case k20 => k_is)
    (case a21 => k_is)
    (case l21 => k_is)
    (case c21 => k_is)
    (case k21 => k_is)
    (case a22 => k_is)
    (case l22 => k_is)
    (case c22 => k_is)
    (case k22 => k_is)
    (case a23 => k_is)
    (case l23 => k_is)
    (case c23 => k_is)
    (case k23 => k_is)
    (case a24 => k_is)
    (case l24 => k_is)
    (case c24 => k_is)
    (case k24 => k_is)
    (case a25 => k_is)
    (case l25 => k_is)
    (case c25 => k_is)
    (case k25 => k_is)
    (case a26 => k_is)
    (case l26 => k_is)
    (case c26 => k_is)
    (case k26 => k_is)
    (case a27 => k_is)
    (case l27 => k_is)
    (case c27 => k_is)
    (case k27 => k_is)
    (case a28 => k_is)
    (case l28 => k_is)
    (case c28 => k_is)
    (case k28 => k_is)
    (case a29 => k_is)
    (case l29 => k_is)
    (case c29 => k_is)
    (case k29 => k_is)
    (case a30 => k_is)
    (case l30 => k_is)
    (case c30 => k_is)
    (case k30 => k_is)
    (case a31 => k_is)
    (case l31 => k_is)
    (case c31 => k_is)
    (case k31 => k_is)
    (case a32 => k_is)
    (case l32 => k_is)
    (case c32 => k_is)
    (case k32 => k_is)
    (case a33 => k_is)
    (case l33 => k_is)
    (case c33 => k_is)
    (case k33 => k_is)
    (case a34 => k_is)
    (case l34 => k_is)
    (case c34 => k_is)
    (case k34 => k_is)
    (case a35 => k_is)
    (case l35 => k_is)
    (case c35 => k_is)
    (case k35 => k_is)
    (case a36 => k_is)
    (case l36 => k_is)
    (case c36 => k_is)
    (case k36 => k_is)
    (case a37 => k_is)
    (case l37 => k_is)
    (case c37 => k_is)
    (case k37 => k_is)
    (case a38 => k_is)
    (case l38 => k_is)
    (case c38 => k_is)
    (case k38 => k_is)
    (case a39 => k_is)
    (case l39 => k_is)
    (case c39 => k_is)
    (case k39 => k_is)
    (case z0 => k_is)
    (case z1 => k_is)
    (case z2 => k_is)
    (case z3 => k_is)
    (case z4 => k_is)
    (case z5 => k_is)
    (case z6 => k_is)
    (case z7 => k_is)
    (case z8 => k_is)
    (case z9 => k_is)
    (case sp => k_is)
    (case tk => k_is)
    (case q_NoFrame => k_is)
    (case cl_NoFrame => k_is)
    (case ca_NoFrame => k_is)
    (case ob_NoFrame => k_is)
    (case ga_NoFrame => k_is)
    (case gh_NoFrame => k_is)
    (case be_NoFrame => k_is)
    (case ex_NoFrame => k_exc)
    (case ty_NoFrame => k_is)
    (case sf_NoFrame => k_is)
    (case q_NoScore => k_is)
    (case cl_NoScore => k_is)
    (case ca_NoScore => k_is)
    (case ob_NoScore => k_is)
    (case ga_NoScore => k_is)
    (case gh_NoScore => k_is)
    (case be_NoScore => k_is)
    (case ex_NoScore => k_exc)
    (case ty_NoScore => k_is)
    (case sf_NoScore => k_is)
    (case q_NoStand => k_is)
    (case cl_NoStand => k_is)
    (case ca_NoStand => k_is)
    (case ob_NoStand => k_is)
    (case ga_NoStand => k_is)
    (case gh_NoStand => k_is)
    (case be_NoStand => k_is)
    (case ex_NoStand => k_exc)
    (case ty_NoStand => k_is)
    (case sf_NoStand => k_is)
    (case v_MOST_LINES => k_is)
  case t1 => (intro w; k_is)
  case t2 => (intro w; k_is)
  case t3 => (intro w; k_is)
  case t4 => (intro w; k_is)

