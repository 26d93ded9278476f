import PyProof.Rows.All
import Wide.All
import OpenK.AllK
import Wide.FinOn
import Lean
import PyProof.EqAt
import PyProof.EqKinds
import PyProof.TupleCall
import PyProof.Draws
import PyProof.EnumMake
import KE.KLam
import KE.KMinKey
import PyProof.StrCalls2
import PyProof.Rows.StrIndexOr
import PyProof.CollectIter
import PyProof.ListStr
import PyProof.Rows.All
import Wide.All
import OpenK.AllK
import Wide.FinOn
import PySem.Challenge.RW_glowrow_k21_pictures_as_texts
set_option Elab.async false
set_option linter.all false
set_option maxRecDepth 100000
/-! THE HAND LAYER, for ints, bools, texts, own classes, LISTS and tuples (index, slices, in, append, pop ..), calls, loops. Paste it whole ahead of your own text; what your proof does not reach may be deleted. -/
namespace L2
open PySem PySem.Spec PyProof.Rows

/-- a key: an int or a str -/
abbrev Key := Sum Int Str
def keyIs : Key → Value → Bool
  | .inl k, v => Value.isInt k v
  | .inr x, v => Value.isStrOf x v
def keyH (w : World) : Key → Int
  | .inl k => hashInt k
  | .inr x => hashStr w x
theorem keyIs_shape : ∀ {k : Key} {v : Value}, keyIs k v = true → (∃ i t, k = Sum.inl i ∧ v = Value.int i t) ∨ (∃ x t, k = Sum.inr x ∧ v = Value.str x t)
  | .inl i, v, h => by
    obtain ⟨t, e⟩ := Value.isInt_shape (k := i) (v := v) h
    exact .inl ⟨i, t, rfl, e⟩
  | .inr x, v, h => by
    obtain ⟨t, e⟩ := Value.isStrOf_shape (x := x) (v := v) h
    exact .inr ⟨x, t, rfl, e⟩
theorem key_ll (a b : Int) : decide ((Sum.inl a : Key) = Sum.inl b) = (a == b) := by
  by_cases e : a = b
  · subst e; simp
  · have h : ¬ (Sum.inl a : Key) = Sum.inl b := fun q => e (Sum.inl.inj q)
    rw [decide_eq_false h]
    exact (beq_eq_false_iff_ne.mpr e).symm
theorem key_rr (a b : Str) : decide ((Sum.inr a : Key) = Sum.inr b) = decide (a = b) := by
  by_cases e : a = b
  · subst e; simp
  · have h : ¬ (Sum.inr a : Key) = Sum.inr b := fun q => e (Sum.inr.inj q)
    rw [decide_eq_false h, decide_eq_false e]
theorem key_lr (a : Int) (b : Str) : decide ((Sum.inl a : Key) = Sum.inr b) = false := decide_eq_false (fun q => nomatch q)
theorem key_rl (a : Str) (b : Int) : decide ((Sum.inr a : Key) = Sum.inl b) = false := decide_eq_false (fun q => nomatch q)

def mixKind (prog : Program) (w : World) : PySem.KeyKind prog w Key where
  is := keyIs
  hash := keyH w
  inj := fun v a b ha hb => by
    rcases keyIs_shape ha with ⟨i, t, rfl, rfl⟩ | ⟨x, t, rfl, rfl⟩
    · rcases keyIs_shape hb with ⟨j, u, rfl, e⟩ | ⟨y, u, rfl, e⟩
      · injection e with e1 _; rw [e1]
      · exact nomatch e
    · rcases keyIs_shape hb with ⟨j, u, rfl, e⟩ | ⟨y, u, rfl, e⟩
      · exact nomatch e
      · injection e with e1 _; rw [e1]
  byValue := fun k v h => by
    rcases keyIs_shape h with ⟨i, t, rfl, rfl⟩ | ⟨x, t, rfl, rfl⟩ <;> rfl
  pyHash := fun hv h => by
    rcases keyIs_shape hv with ⟨i, t, rfl, rfl⟩ | ⟨x, t, rfl, rfl⟩
    · exact wpAny_pyHash_int h
    · exact wpAny_pyHash_str h
  eqBool := fun hu hv h => by
    rcases keyIs_shape hu with ⟨i, t, rfl, rfl⟩ | ⟨x, t, rfl, rfl⟩
    · rcases keyIs_shape hv with ⟨j, u, rfl, rfl⟩ | ⟨y, u, rfl, rfl⟩
      · rw [key_ll] at h; exact wpAny_eqBool_int h
      · rw [key_lr] at h; exact SeqAt.EqAt.int_str i t y u _ _ _ _ h
    · rcases keyIs_shape hv with ⟨j, u, rfl, rfl⟩ | ⟨y, u, rfl, rfl⟩
      · rw [key_rl] at h; exact SeqAt.EqAt.str_int x t j u _ _ _ _ h
      · rw [key_rr] at h; exact wpAny_eqBool_str h
  «strs» := fun k x t v h => by
    rcases keyIs_shape h with ⟨i, u, rfl, e⟩ | ⟨y, u, rfl, e⟩
    · exact nomatch e
    · injection e with e1 _
      subst e1
      cases v <;> rfl

end L2

namespace L2
open PySem PySem.Spec PyProof.Rows

/-- a value, without the heap -/
inductive V where
  | non | bl (b : Bool) | int (i : Int) | str (x : Str) | byt (b : Array UInt8) | flt (b : UInt64) | ref (a : Addr) | ty (n : String)
  deriving DecidableEq

def RelV : V → Value → Prop
  | .non, u => u = Value.none
  | .bl b, u => u = Value.bool b
  | .int i, u => ∃ t, u = Value.int i t
  | .str x, u => ∃ t, u = Value.str x t
  | .byt b, u => ∃ t, u = Value.bytes b t
  | .flt b, u => ∃ t, u = Value.float b t
  | .ref a, u => u = Value.ref a
  | .ty n, u => u = Value.type n

abbrev Vals : List V → List Value → Prop := Paired RelV
theorem Vals.length {xs : List V} {us : List Value} (r : Vals xs us) : xs.length = us.length := Paired.length r
theorem Vals.get : ∀ {xs : List V} {us : List Value} {i : Nat} {x : V}, Vals xs us → xs[i]? = some x → ∃ u, us[i]? = some u ∧ RelV x u
  | _, _, _, _, .nil, e => by simp at e
  | _, _, 0, _, .cons r _, e => by simp at e; subst e; exact ⟨_, rfl, r⟩
  | _, _, i + 1, x, .cons _ t, e => by
    obtain ⟨u, h1, h2⟩ := Vals.get (i := i) (x := x) t (by simpa using e)
    exact ⟨u, by simpa using h1, h2⟩
theorem Vals.set {x : V} {u : Value} (r : RelV x u) : ∀ {xs : List V} {us : List Value} (i : Nat), Vals xs us → Vals (xs.set i x) (us.set i u)
  | _, _, _, .nil => .nil
  | _, _, 0, .cons _ t => .cons r t
  | _, _, i + 1, .cons q t => .cons q (Vals.set r i t)
theorem Vals.append : ∀ {xs ys : List V} {us ws : List Value}, Vals xs us → Vals ys ws → Vals (xs ++ ys) (us ++ ws)
  | _, _, _, _, .nil, s => s
  | _, _, _, _, .cons r t, s => .cons r (Vals.append t s)
theorem Vals.take : ∀ {xs : List V} {us : List Value} (n : Nat), Vals xs us → Vals (xs.take n) (us.take n)
  | _, _, 0, _ => .nil
  | _, _, _ + 1, .nil => .nil
  | _, _, n + 1, .cons r t => .cons r (Vals.take n t)
theorem Vals.drop : ∀ {xs : List V} {us : List Value} (n : Nat), Vals xs us → Vals (xs.drop n) (us.drop n)
  | _, _, 0, r => r
  | _, _, _ + 1, .nil => .nil
  | _, _, n + 1, .cons _ t => Vals.drop n t
def RelO : Option V → Option Value → Prop
  | some v, some u => RelV v u
  | none, none => True
  | _, _ => False
def KV {κ : Type} : List (κ × V) → List (κ × Value) → Prop := Paired fun (p : κ × V) (q : κ × Value) => p.1 = q.1 ∧ RelV p.2 q.2

/-- a key of a dict (00_mix): an int or a text -/
def kV : Key → V
  | .inl i => .int i
  | .inr x => .str x

/-- what stands at a tracked address -/
inductive HO where
  /-- a list -/
  | lst (xs : List V)
  /-- a tuple (never changes) -/
  | tup (xs : List V)
  /-- a dict whose keys are ints and texts; one whose keys are tuples of ints and texts (the empty one is both) -/
  | dK (kvs : List (Key × V)) | dT (kvs : List (List Key × V))
  /-- a set of ints: its members, its size -/
  | set (S : Int → Bool) (n : Nat)
  /-- an instance of the class at C, its dict at dx, its attributes -/
  | ins (C dx : Addr) (fs : List (Str × V))
  /-- the dict of the instance at x -/
  | own (x : Addr)
  /-- the dict of an exception -/
  | xd (fs : List (Str × V))
  /-- a bound method, f of x -/
  | met (f x : Addr)
  /-- a range object lo, lo + 1, .. below hi -/
  | rng (lo hi : Int)
  /-- a thing that is known to the object (the script; a dict while a loop walks it): read, never written while it is so -/
  | frz (o : Obj) (u : HO)
  /-- a code object's table -/
  | tbl (ps : Array Value)
  /-- any other thing, by what is true of its one object (a def of one's own: SetO a S n := HO.ext fun h => ..) -/
  | ext (φ : Heap → Prop)

abbrev Hp := Addr → Option HO
def upd (H : Hp) (a : Addr) (o : HO) : Hp := fun b => if b = a then some o else H b
theorem upd_same {H : Hp} {a : Addr} {o : HO} : upd H a o a = some o := by unfold upd; rw [if_pos rfl]
theorem upd_ne {H : Hp} {a b : Addr} {o : HO} (h : b ≠ a) : upd H a o b = H b := by unfold upd; rw [if_neg h]
/-- two objects of different content stand apart -/
theorem ne_of {H : Hp} {a b : Addr} {o u : HO} (h : H a = some o) (h' : H b = some u) (d : o ≠ u) : a ≠ b := by
  intro e; subst e; rw [h] at h'; exact d (Option.some.inj h')
theorem ne_of_none {H : Hp} {a b : Addr} {o : HO} (h : H a = some o) (h' : H b = none) : a ≠ b := by
  intro e; subst e; rw [h] at h'; cases h'

section
variable (P : Program) (w : World)
def ObjOk (H : Hp) (h : Heap) (a : Addr) : HO → Prop
  | .lst xs => xs.length ≤ sizeLine ∧ ∃ (its : List Value) (n : Nat), Vals xs its ∧ h.get? a = some { cls := .type "list", data := .seq its.toArray n }
  | .tup xs => xs.length ≤ sizeLine ∧ ∃ its : List Value, Vals xs its ∧ IsTup h a its.toArray
  | .dK kvs => kvs.length ≤ sizeLine ∧ (a == sysModules) = false ∧ ∃ vs, KV kvs vs ∧ h.DictOf (mixKind P w) a vs
  | .dT kvs => kvs.length ≤ sizeLine ∧ (a == sysModules) = false ∧ ∃ xs : List (List Key × Addr × Value),
      Paired (fun (p : List Key × V) (q : List Key × Addr × Value) => p.1 = q.1 ∧ H q.2.1 = some (.tup (p.1.map kV)) ∧ RelV p.2 q.2.2) kvs xs ∧
      ∃ o es ep, h.get? a = some o ∧ o.ExactDict ∧ o.data = .dict es ep ∧ es.toList = xs.map (entryOfKey (tupleKind (mixKind P w))) ∧ (xs.map (·.1)).Nodup
  | .set S n => h.SetOf (intKind P w) a S n
  | .ins C dx fs => H dx = some (.own a) ∧ fs.length ≤ 1000 ∧ dx ≠ a ∧ h.get? a = some (PySem.W.instObj C dx) ∧
      ∃ mA, h.Ns1 dx mA ∧ (∀ f, RelO (fs.lookup f) (mA f)) ∧ PySem.Within mA (fs.map (·.1))
  | .own _ => ∃ o, h.get? a = some o
  | .xd fs => ∃ mA, h.Ns1 a mA ∧ ∀ f, RelO (fs.lookup f) (mA f)
  | .rng lo hi => ∃ t u v, h.get? a = some { cls := .type "range", data := .fields #[.int lo t, .int hi u, .int 1 v] }
  | .frz o u => h.get? a = some o ∧ ObjOk H h a u
  | .tbl ps => h.get? a = some { cls := .none, data := .fields ps }
  | .met f x => h.get? a = some (PySem.W.methodObj (.ref f) (.ref x))
  | .ext φ => φ h ∧ (∃ o, h.get? a = some o) ∧ ∀ h1 h2 : Heap, φ h1 → (∀ o, h1.get? a = some o → h2.get? a = some o) → φ h2
/-- the abstract heap is held -/
def HOk (H : Hp) (h : Heap) : Prop := ∀ a o, H a = some o → ObjOk P w H h a o
end

section
variable {P : Program} {w : World} {H H' : Hp} {h h' : Heap} {a : Addr} {o : HO}
theorem ObjOk.lt (x : ObjOk P w H h a o) : a < h.objs.size := by
  cases o with
  | lst xs => obtain ⟨_, _, _, _, e⟩ := x; exact Heap.lt_size e
  | tup xs => obtain ⟨_, _, _, p⟩ := x; exact p.lt
  | dK kvs => obtain ⟨_, _, _, _, o, _, _, e, _⟩ := x; exact Heap.lt_size e
  | dT kvs => obtain ⟨_, _, _, _, o, _, _, e, _⟩ := x; exact Heap.lt_size e
  | set S n => obtain ⟨o, _, _, _, e, _⟩ := x; exact Heap.lt_size e
  | ins C dx fs => obtain ⟨_, _, _, e, _⟩ := x; exact Heap.lt_size e
  | own y => obtain ⟨_, e⟩ := x; exact Heap.lt_size e
  | xd fs => obtain ⟨_, ⟨_, _, _, e, _⟩, _⟩ := x; exact Heap.lt_size e
  | rng lo hi => obtain ⟨_, _, _, e⟩ := x; exact Heap.lt_size e
  | frz ob u => obtain ⟨e, _⟩ := x; exact Heap.lt_size e
  | tbl ps => exact Heap.lt_size (show h.get? a = some _ from x)
  | met f y => exact Heap.lt_size (show h.get? a = some _ from x)
  | ext φ => obtain ⟨_, ⟨_, e⟩, _⟩ := x; exact Heap.lt_size e
theorem Paired.mapP {α β : Type} {F G : α → β → Prop} : ∀ {l₁ : List α} {l₂ : List β}, Paired F l₁ l₂ → (∀ a b, F a b → G a b) → Paired G l₁ l₂
  | _, _, .nil, _ => .nil
  | _, _, .cons r t, f => .cons (f _ _ r) (Paired.mapP t f)
/-- what an object's description leans on: its own object, its own dict, the tuples -/
theorem ObjOk.stay (x : ObjOk P w H h a o) (k : ∀ b u, (b = a ∨ H b = some (.own a)) → h.get? b = some u → h'.get? b = some u)
    (ho : ∀ b, H b = some (.own a) → H' b = some (.own a)) (ht : ∀ b xs, H b = some (.tup xs) → H' b = some (.tup xs)) : ObjOk P w H' h' a o := by
  induction o with
  | lst xs => obtain ⟨z, its, n, r, e⟩ := x; exact ⟨z, its, n, r, k _ _ (.inl rfl) e⟩
  | tup xs => obtain ⟨z, its, r, ob, e, c⟩ := x; exact ⟨z, its, r, ob, k _ _ (.inl rfl) e, c⟩
  | dK kvs => obtain ⟨z, y, vs, r, ob, es, ep, e, c⟩ := x; exact ⟨z, y, vs, r, ob, es, ep, k _ _ (.inl rfl) e, c⟩
  | dT kvs =>
    obtain ⟨z, y, xs, r, ob, es, ep, e, c⟩ := x
    exact ⟨z, y, xs, Paired.mapP r fun p q z => ⟨z.1, ht _ _ z.2.1, z.2.2⟩, ob, es, ep, k _ _ (.inl rfl) e, c⟩
  | set S n => obtain ⟨ob, es, ep, t, e, c⟩ := x; exact ⟨ob, es, ep, t, k _ _ (.inl rfl) e, c⟩
  | ins C dx fs =>
    obtain ⟨d, z, ne, e, mA, ⟨od, es, ep, e2, c⟩, r⟩ := x
    exact ⟨ho _ d, z, ne, k _ _ (.inl rfl) e, mA, ⟨od, es, ep, k _ _ (.inr d) e2, c⟩, r⟩
  | own y => obtain ⟨ob, e⟩ := x; exact ⟨ob, k _ _ (.inl rfl) e⟩
  | xd fs => obtain ⟨mA, ⟨od, es, ep, e, c⟩, r⟩ := x; exact ⟨mA, ⟨od, es, ep, k _ _ (.inl rfl) e, c⟩, r⟩
  | rng lo hi => obtain ⟨t, u, v, e⟩ := x; exact ⟨t, u, v, k _ _ (.inl rfl) e⟩
  | frz ob u ih => obtain ⟨e, q⟩ := x; exact ⟨k _ _ (.inl rfl) e, ih q⟩
  | tbl ps =>
    have e : h.get? a = some { cls := .none, data := .fields ps } := x
    show h'.get? a = some { cls := .none, data := .fields ps }
    exact k a _ (.inl rfl) e
  | met f y =>
    have e : h.get? a = some (PySem.W.methodObj (.ref f) (.ref y)) := x
    show h'.get? a = some (PySem.W.methodObj (.ref f) (.ref y))
    exact k a _ (.inl rfl) e
  | ext φ => obtain ⟨p, ⟨o, e⟩, st⟩ := x; exact ⟨st _ _ p fun o q => k _ _ (.inl rfl) q, ⟨o, k _ _ (.inl rfl) e⟩, st⟩
theorem HOk.lt (x : HOk P w H h) (e : H a = some o) : a < h.objs.size := (x a o e).lt
theorem HOk.fresh (x : HOk P w H h) (e : h.objs.size ≤ a) : H a = none := by
  cases q : H a with
  | none => rfl
  | some u => exact absurd (Nat.lt_of_lt_of_le (x.lt q) e) (Nat.lt_irrefl _)
/-- every object of the heap is kept -/
theorem HOk.kept (x : HOk P w H h) (k : ∀ b u, h.get? b = some u → h'.get? b = some u) : HOk P w H h' := fun a o e =>
  (x a o e).stay (fun b u _ q => k b u q) (fun _ q => q) fun _ _ q => q
/-- a new object is laid and tracked -/
theorem HOk.laid (x : HOk P w H h) (k : ∀ b u, h.get? b = some u → h'.get? b = some u) (hp : h.objs.size ≤ a) (new : ObjOk P w (upd H a o) h' a o) : HOk P w (upd H a o) h' := fun b u e => by
  have hn := x.fresh hp
  by_cases hb : b = a
  · subst hb; rw [upd_same] at e; cases e; exact new
  · rw [upd_ne hb] at e
    exact (x b u e).stay (fun c v _ q => k c v q) (fun c q => by rw [upd_ne (ne_of_none q hn)]; exact q) fun c xs q => by rw [upd_ne (ne_of_none q hn)]; exact q
end

/-- what may be read as u: it is u, or a known u -/
def Rd (H : Hp) (a : Addr) (u : HO) : Prop := H a = some u ∨ ∃ o, H a = some (.frz o u)
theorem Rd.of {H : Hp} {a : Addr} {u : HO} (h : H a = some u) : Rd H a u := .inl h
theorem Rd.ok {P : Program} {w : World} {H : Hp} {h : Heap} {a : Addr} {u : HO} (r : Rd H a u) (x : HOk P w H h) : ObjOk P w H h a u := by
  rcases r with r | ⟨o, r⟩
  · exact x a u r
  · obtain ⟨_, q⟩ := x a _ r
    exact q
/-- what may be written -/
def Mut : Option HO → Prop
  | some (.lst _) => True
  | some (.dK _) => True
  | some (.dT _) => True
  | some (.set _ _) => True
  | some (.ins _ _ _) => True
  | some (.ext _) => True
  | _ => False
section
variable {P : Program} {w : World} {H : Hp} {h h' : Heap} {x e : Addr} {o' : HO}
/-- the object at e is changed: x itself, or the dict of the instance x -/
theorem HOk.write (ok : HOk P w H h) (mu : Mut (H x)) (he : e = x ∨ H e = some (.own x)) (k : ∀ b u, b ≠ e → h.get? b = some u → h'.get? b = some u) (heo : ∃ u, h'.get? e = some u)
    (new : ObjOk P w (upd H x o') h' x o') : HOk P w (upd H x o') h' := fun b u q => by
  have nown : ∀ c y, H c = some (.own y) → c ≠ x := fun c y r z => by subst z; rw [r] at mu; exact mu
  have ntup : ∀ c xs, H c = some (.tup xs) → c ≠ x := fun c xs r z => by subst z; rw [r] at mu; exact mu
  by_cases hb : b = x
  · subst hb; rw [upd_same] at q; cases q; exact new
  · rw [upd_ne hb] at q
    by_cases hbe : b = e
    · have q' : H b = some (.own x) := by
        rcases he with z | z
        · exact absurd (hbe.trans z) hb
        · rw [hbe]; exact z
      rw [q] at q'; cases q'
      obtain ⟨v, hv⟩ := heo
      exact ⟨v, by rw [hbe]; exact hv⟩
    · refine (ok b u q).stay (fun c v hc r => k c v ?_ r) (fun c r => by rw [upd_ne (nown c b r)]; exact r) fun c xs r => by rw [upd_ne (ntup c xs r)]; exact r
      rcases hc with rfl | hc
      · exact hbe
      · rintro rfl
        rcases he with z | z
        · exact nown c b hc z
        · rw [hc] at z; cases z; exact hb rfl
end

/-! ### kept unless tracked; of the frames at fs (the callers') the slots may change (an exception that passes writes there); of the records at ex (iterators) nothing is said -/
structure Un (fs ex : List Addr) (H H' : Hp) (h h' : Heap) : Prop where
  keep : ∀ b o, h.get? b = some o → H b = none → b ∉ fs → b ∉ ex → h'.get? b = some o
  slot : ∀ b o, h.get? b = some o → H b = none → b ∈ fs → b ∉ ex → ∃ sl, h'.get? b = some { o with slots := sl }
  free : ∀ b o, h.get? b = some o → H b = none → b ∉ ex → H' b = none
  there : ∀ b o, h.get? b = some o → b ∉ ex → ∃ o', h'.get? b = some o'
  tups : ∀ b xs, H b = some (.tup xs) → H' b = some (.tup xs)
  frzs : ∀ b o u, H b = some (.frz o u) → H' b = some (.frz o u)
  tbls : ∀ b ps, H b = some (.tbl ps) → ∃ more, H' b = some (.tbl (ps ++ more))
section
variable {fs fs' ex ex' : List Addr} {H H1 H2 : Hp} {h h1 h2 h' : Heap} {a x e : Addr} {o : HO}
theorem Un.any (u : Un fs ex H H1 h h1) {b : Addr} {ob : Obj} (q : h.get? b = some ob) (n : H b = none) (hx : b ∉ ex) : ∃ sl, h1.get? b = some { ob with slots := sl } := by
  by_cases hb : b ∈ fs
  · exact u.slot b ob q n hb hx
  · exact ⟨ob.slots, u.keep b ob q n hb hx⟩
theorem Un.trans (a : Un fs ex H H1 h h1) (b : Un fs ex H1 H2 h1 h2) : Un fs ex H H2 h h2 where
  keep := fun c ob q n hc hx => b.keep c ob (a.keep c ob q n hc hx) (a.free c ob q n hx) hc hx
  slot := fun c ob q n hc hx => by
    obtain ⟨sl, e1⟩ := a.slot c ob q n hc hx
    obtain ⟨sl', e2⟩ := b.slot c _ e1 (a.free c ob q n hx) hc hx
    exact ⟨sl', e2⟩
  free := fun c ob q n hx => by
    obtain ⟨o', e1⟩ := a.there c ob q hx
    exact b.free c o' e1 (a.free c ob q n hx) hx
  there := fun c ob q hx => by
    obtain ⟨o', e1⟩ := a.there c ob q hx
    exact b.there c o' e1 hx
  tups := fun c xs q => b.tups c xs (a.tups c xs q)
  frzs := fun c ob xs q => b.frzs c ob xs (a.frzs c ob xs q)
  tbls := fun c ps q => by
    obtain ⟨m1, e1⟩ := a.tbls c ps q
    obtain ⟨m2, e2⟩ := b.tbls c _ e1
    exact ⟨m1 ++ m2, by rw [e2, Array.append_assoc]⟩
theorem Un.kept (k : ∀ b u, h.get? b = some u → h'.get? b = some u) : Un fs ex H H h h' :=
  ⟨fun b ob q _ _ _ => k b ob q, fun b ob q _ _ _ => ⟨ob.slots, k b ob q⟩, fun _ _ _ n _ => n, fun b ob q _ => ⟨ob, k b ob q⟩, fun _ _ q => q, fun _ _ _ q => q, fun _ ps q => ⟨#[], by rw [q]; simp⟩⟩
theorem Un.refl : Un fs ex H H h h := Un.kept fun _ _ q => q
theorem Un.laid (k : ∀ b u, h.get? b = some u → h'.get? b = some u) (hp : h.objs.size ≤ a) (hn : H a = none) : Un fs ex H (upd H a o) h h' where
  keep := fun b u q _ _ _ => k b u q
  slot := fun b u q _ _ _ => ⟨u.slots, k b u q⟩
  free := fun b u q n _ => by rw [upd_ne (Nat.ne_of_lt (Nat.lt_of_lt_of_le (Heap.lt_size q) hp))]; exact n
  there := fun b u q _ => ⟨u, k b u q⟩
  tups := fun b xs q => by rw [upd_ne (ne_of_none q hn)]; exact q
  frzs := fun b u xs q => by rw [upd_ne (ne_of_none q hn)]; exact q
  tbls := fun b ps q => ⟨#[], by rw [upd_ne (ne_of_none q hn), q]; simp⟩
theorem Un.write (mu : Mut (H x)) (he : e = x ∨ H e = some (.own x)) (k : ∀ b u, b ≠ e → h.get? b = some u → h'.get? b = some u) (heo : ∃ u, h'.get? e = some u) : Un fs ex H (upd H x o) h h' := by
  have hx : ∀ b, H b = none → b ≠ x := fun b n z => by subst z; rw [n] at mu; exact mu
  have hb : ∀ b, H b = none → b ≠ e := fun b n z => by
    subst z
    rcases he with r | r
    · exact hx b n r
    · rw [n] at r; cases r
  have hm : ∀ b u, H b = some u → ¬ Mut (some u) → b ≠ x := fun b u q nm z => by subst z; rw [q] at mu; exact nm mu
  refine ⟨fun b u q n _ _ => k b u (hb b n) q, fun b u q n _ _ => ⟨u.slots, k b u (hb b n) q⟩, fun b u q n _ => by rw [upd_ne (hx b n)]; exact n, fun b u q _ => ?_,
    fun b xs q => by rw [upd_ne (hm b _ q fun z => z)]; exact q, fun b u xs q => by rw [upd_ne (hm b _ q fun z => z)]; exact q, fun b ps q => ⟨#[], by rw [upd_ne (hm b _ q fun z => z), q]; simp⟩⟩
  by_cases hbe : b = e
  · subst hbe; exact heo
  · exact ⟨u, k b u hbe q⟩
theorem Un.mono (u : Un fs ex H H1 h h1) (hs : ∀ b ∈ fs, b ∈ fs') (hx : ∀ b ∈ ex, b ∈ ex') : Un fs' ex' H H1 h h1 :=
  ⟨fun b ob q n hb he => u.keep b ob q n (fun z => hb (hs b z)) fun z => he (hx b z), fun _ _ q n _ he => u.any q n fun z => he (hx _ z), fun b ob q n he => u.free b ob q n fun z => he (hx b z), fun b ob q he => u.there b ob q fun z => he (hx b z), u.tups, u.frzs, u.tbls⟩
end

/-! ### the heap without what is tracked -/
def trk (h : Heap) (H : Hp) : List Addr := (List.range h.objs.size).filter fun a => (H a).isSome
def hidT (h : Heap) (H : Hp) : Heap := PySem.W.hideAll h (trk h H)
theorem hidT_size (h : Heap) (H : Hp) : (hidT h H).objs.size = h.objs.size := PySem.W.hideAll_size _ _
theorem hidT_get {h : Heap} {H : Hp} {b : Addr} {o : Obj} (e : h.get? b = some o) (n : H b = none) : (hidT h H).get? b = some o :=
  PySem.W.hideAll_get _ e fun hm => by
    have q : (H b).isSome = true := (List.mem_filter.mp hm).2
    rw [n] at q; simp at q
theorem of_hidT {h : Heap} {H : Hp} {b : Addr} {o : Obj} (e : (hidT h H).get? b = some o) : h.get? b = some o ∧ H b = none := by
  have e' : h.get? b = some o := PySem.W.of_hideAll (trk h H) e
  refine ⟨e', ?_⟩
  cases q : H b with
  | none => rfl
  | some x =>
    have hm : b ∈ trk h H := List.mem_filter.mpr ⟨List.mem_range.mpr (Heap.lt_size e'), by simp [q]⟩
    have z : (hidT h H).get? b = none := PySem.W.hideAll_none (trk h H) hm
    rw [z] at e; cases e

/-! ### OpenK's ledger, filled with every new object but one -/
def allNews (g h : Heap) (L : Addr) : List (Addr × Obj) := (List.range h.objs.size).filterMap fun a => if a = L ∨ (g.get? a).isSome = true then none else (h.get? a).map fun o => (a, o)
def rest (g h : Heap) (L d : Addr) : List (Addr × Obj) := (allNews g h L).filter fun p => decide (p.1 ≠ d)
end L2

namespace L2
open PySem PySem.Spec PyProof.Rows

/-- the module's facts, over the base: the heap at the law's entry without what is tracked there -/
structure Mod (K : PySem.W.Frag) (mg : Str → Option Value) (base : Heap) : Prop where
  kin : K.In base
  glob : base.Ns mainGlobals mg
  blt : ∃ mb, base.Ns builtinsNs mb ∧ ∀ x : Str, x ≠ "__name__" → mb x = bootBuiltins x
  nolimit : base.NoLimit

/-- the context: a def's body (or a comprehension's block) running. base: fixed through the whole law; s₀, H₀: the entry; outer: the frames whose slots others may change (a def's callers); stack: all frames that run;
   ex: iterators that were made ahead of the entry and are walked here (a comprehension's); fn: the names whose cells were made at the entry (a def: all; a comprehension's block: its own); calm: not within an except suite; pn: pins that every state bears; xe: what is wanted of an exception that leaves the code -/
structure Cx where
  prog : Program
  w : World
  K : PySem.W.Frag
  mg : Str → Option Value
  base : Heap
  A : Around
  N : List Str
  s₀ : Shared
  H₀ : Hp
  env : Env
  outer : List Env
  stack : List Env
  ex : List Addr
  fn : Str → Bool
  calm : Bool
  pn : List (Addr × Obj)
  xe : Value → Shared → Prop
/-- the callers' frames -/
def frs (l : List Env) : List Addr := l.filterMap (·.frame)
abbrev Cx.fs (X : Cx) : List Addr := frs X.outer

def Vis (sc : Scope) (x : Str) : Prop := sc.names.lookup x = some .local ∨ sc.names.lookup x = some .cell ∨ sc.names.lookup x = some .free
def Loc (sc : Scope) (x : Str) : Prop := sc.names.lookup x = some .local ∨ sc.names.lookup x = some .cell
def Look (env : Env) (h : Heap) (m : Str → Option Value) (x : Str) (u : Value) : Prop :=
  (env.kindOf x = some .local ∧ m x = some u) ∨ ((env.kindOf x = some .cell ∨ env.kindOf x = some .free) ∧ ∃ c, env.cells.lookup x = some c ∧ h.IsCell c (some u))

structure Cx.Ok (X : Cx) : Prop where
  mod : Mod X.K X.mg X.base
  kind : X.env.scope.kind = .function
  glob : X.env.globals = mainGlobals
  blt : X.env.builtins = builtinsNs
  above : X.s₀.heap.objs.size ≤ X.env.locals
  inj : ∀ x y c, X.env.cells.lookup x = some c → X.env.cells.lookup y = some c → x = y
  has : ∀ x, (X.env.kindOf x = some .cell ∨ X.env.kindOf x = some .free) → ∃ c, X.env.cells.lookup x = some c
  cab : ∀ x c, X.fn x = true → X.env.cells.lookup x = some c → X.s₀.heap.objs.size ≤ c
  hd : X.calm = true → X.A.handled = none
  frames : X.A.frames = some X.stack
  stk : X.stack = X.outer ∨ (X.stack = X.env :: X.outer ∧ X.env.frame = some X.env.locals)
  exf : ∀ b ∈ X.ex, b ≠ X.env.locals ∧ ∀ x c, X.env.cells.lookup x = some c → c ≠ b
  bs : ∀ b o, X.base.get? b = some o → X.s₀.heap.get? b = some o ∧ X.H₀ b = none
  bsz : X.base.objs.size ≤ X.s₀.heap.objs.size
  noex : ∀ b o, X.base.get? b = some o → b ∉ X.ex
  exfs : ∀ b ∈ X.ex, b ∉ X.fs
  funs : X.s₀.heap.FunFrames X.base X.outer
  frf : ∀ b ∈ X.fs, X.H₀ b = none

structure Inv (X : Cx) (pins : List (Addr × Obj)) (σ : List (Option V)) (H : Hp) (s : Shared) : Prop where
  ok : X.Ok
  os : s.os = X.s₀.os
  bare : AllBare s.gens
  base : Un X.fs X.ex X.H₀ H X.s₀.heap s.heap
  loc : ∃ m, s.heap.Ns X.env.locals m ∧ ∀ (i : Nat) (x : Str) (v : V), X.N[i]? = some x → σ[i]? = some (some v) → Vis X.env.scope x → ∃ u, RelV v u ∧ Look X.env s.heap m x u
  cell : ∀ x c, X.env.cells.lookup x = some c → ∃ v, s.heap.IsCell c v
  free : H X.env.locals = none
  freeC : ∀ x c, X.env.cells.lookup x = some c → H c = none
  pin : ∀ p ∈ X.pn ++ pins, s.heap.get? p.1 = some p.2 ∧ H p.1 = none ∧ p.1 ≠ X.env.locals ∧ p.1 ∉ X.fs ∧ ∀ v, p.2.data ≠ .cell v
  hok : HOk X.prog X.w H s.heap
  len : σ.length = X.N.length

section
variable {X : Cx} {pins : List (Addr × Obj)} {σ : List (Option V)} {H H' : Hp} {s : Shared} {h' : Heap}

theorem Cx.Ok.nofr (ok : X.Ok) {b : Addr} {o : Obj} (e : X.base.get? b = some o) : b ∉ X.fs := fun hb => by
  have := (ok.funs.mem hb).1
  rw [e] at this; cases this
theorem Inv.bs (I : Inv X pins σ H s) : ∀ b o, X.base.get? b = some o → s.heap.get? b = some o ∧ H b = none := fun b o e =>
  ⟨I.base.keep b o (I.ok.bs b o e).1 (I.ok.bs b o e).2 (I.ok.nofr e) (I.ok.noex b o e), I.base.free b o (I.ok.bs b o e).1 (I.ok.bs b o e).2 (I.ok.noex b o e)⟩
theorem Inv.bk (I : Inv X pins σ H s) : ∀ b o, X.base.get? b = some o → s.heap.get? b = some o := fun b o e => (I.bs b o e).1
theorem Inv.mod (I : Inv X pins σ H s) : Mod X.K X.mg X.base := I.ok.mod
theorem Inv.kIn (I : Inv X pins σ H s) : X.K.In s.heap := I.ok.mod.kin.keeps I.bk
theorem Inv.nolimit (I : Inv X pins σ H s) : s.heap.NoLimit := I.ok.mod.nolimit.keeps I.bk
/-- the frame over the base: for OpenK's rules (K.In X.base is I.mod.kin) -/
theorem Inv.fr (I : Inv X pins σ H s) : ∃ m, Fr X.base X.env.locals s.heap m :=
  let ⟨m, hn, _⟩ := I.loc
  ⟨m, hn, I.bk, Nat.le_trans I.ok.bsz I.ok.above⟩
theorem Inv.lt (I : Inv X pins σ H s) : X.env.locals < s.heap.objs.size := let ⟨_, hn, _⟩ := I.loc; hn.lt
theorem Inv.sz (I : Inv X pins σ H s) : X.s₀.heap.objs.size ≤ s.heap.objs.size := Nat.le_trans I.ok.above (Nat.le_of_lt I.lt)
theorem Inv.nofs (I : Inv X pins σ H s) {a : Addr} (h : s.heap.objs.size ≤ a) : a ∉ X.fs := fun hb => by
  obtain ⟨_, o, ho, _⟩ := I.ok.funs.mem hb
  exact absurd (Nat.lt_of_lt_of_le (Heap.lt_size ho) (Nat.le_trans I.sz h)) (Nat.lt_irrefl _)
theorem Inv.cne (I : Inv X pins σ H s) : ∀ x c, X.env.cells.lookup x = some c → c ≠ X.env.locals := fun x c e z => by
  obtain ⟨v, o, ho, hd⟩ := I.cell x c e
  obtain ⟨m, ⟨o', es, ep, ho', hd', _⟩, _⟩ := I.loc
  rw [z, ho'] at ho; cases ho; rw [hd'] at hd; cases hd
theorem Inv.funs (I : Inv X pins σ H s) : s.heap.FunFrames X.base X.outer := by
  have all : ∀ (l : List Env), (∀ b ∈ frs l, b ∈ X.fs) → X.s₀.heap.FunFrames X.base l → s.heap.FunFrames X.base l := by
    intro l
    induction l with
    | nil => intro _ _; trivial
    | cons env r ih =>
      intro hs hl
      obtain ⟨hk, ⟨L, o, hf, hn, ho, hd⟩, hr⟩ := hl
      have hL : L ∈ X.fs := hs L (by unfold frs; rw [List.filterMap_cons, hf]; exact List.mem_cons_self)
      obtain ⟨sl, e⟩ := I.base.slot L o ho (I.ok.frf L hL) hL fun z => I.ok.exfs L z hL
      exact ⟨hk, ⟨L, _, hf, hn, e, hd⟩, ih (fun b hb => hs b (by unfold frs; rw [List.filterMap_cons, hf]; exact List.mem_cons_of_mem _ hb)) hr⟩
  exact all X.outer (fun _ hb => hb) I.ok.funs

/-- the frames that run, for a call -/
theorem Inv.stack (I : Inv X pins σ H s) : s.heap.FunFrames X.base X.stack := by
  rcases I.ok.stk with e | ⟨e, hf⟩
  · rw [e]; exact I.funs
  · rw [e]
    obtain ⟨m, hn, _⟩ := I.loc
    refine .cons (by rw [I.ok.kind]; decide) hf hn ?_ I.funs
    exact Heap.get?_none_of_le (Nat.le_trans I.ok.bsz I.ok.above)
theorem Inv.stkSub (I : Inv X pins σ H s) : ∀ b ∈ frs X.stack, b ∈ X.env.locals :: X.fs := fun b hb => by
  rcases I.ok.stk with e | ⟨e, hf⟩
  · rw [e] at hb; exact List.mem_cons_of_mem _ hb
  · rw [e] at hb
    unfold frs at hb
    rw [List.filterMap_cons, hf] at hb
    exact hb
theorem Inv.stkFree (I : Inv X pins σ H s) : ∀ b ∈ frs X.stack, H b = none := fun b hb => by
  rcases List.mem_cons.mp (I.stkSub b hb) with e | hb
  · rw [e]; exact I.free
  · obtain ⟨_, o, ho, _⟩ := I.ok.funs.mem hb
    exact I.base.free b o ho (I.ok.frf b hb) fun z => I.ok.exfs b z hb

/-- THE STEP: the untracked objects but the frame and the records at ch are kept (the callers' frames up to slots), the frame's map is kept, the new abstract heap is held -/
theorem Inv.step {g' : Array GenState} {t' : Nat} {d' : Drawn} {ch : List Addr} (I : Inv X pins σ H s)
    (hch : ∀ b ∈ ch, (b ∈ X.ex ∨ X.s₀.heap.objs.size ≤ b) ∧ b ≠ X.env.locals ∧ (∀ x c, X.env.cells.lookup x = some c → c ≠ b) ∧ ∀ p ∈ X.pn ++ pins, p.1 ≠ b)
    (keep : ∀ b o, b ≠ X.env.locals → b ∉ X.fs → b ∉ ch → s.heap.get? b = some o → H b = none → h'.get? b = some o)
    (slot : ∀ b o, b ≠ X.env.locals → b ∈ X.fs → b ∉ ch → s.heap.get? b = some o → H b = none → ∃ sl, h'.get? b = some { o with slots := sl }) (free : ∀ b o, b ∉ ch → s.heap.get? b = some o → H b = none → H' b = none)
    (there : ∀ b o, b ∉ ch → s.heap.get? b = some o → ∃ o', h'.get? b = some o')
    (tups : ∀ b xs, H b = some (.tup xs) → H' b = some (.tup xs)) (frzs : ∀ b o u, H b = some (.frz o u) → H' b = some (.frz o u)) (tbls : ∀ b ps, H b = some (.tbl ps) → ∃ more, H' b = some (.tbl (ps ++ more)))
    (ns : ∀ m, s.heap.Ns X.env.locals m → h'.Ns X.env.locals m) (hok : HOk X.prog X.w H' h') (hg : AllBare g') :
    Inv X pins σ H' { s with heap := h', gens := g', drawn := d', toks := t' } := by
  have neL : ∀ b o, X.s₀.heap.get? b = some o → b ≠ X.env.locals := fun b o e => Nat.ne_of_lt (Nat.lt_of_lt_of_le (Heap.lt_size e) I.ok.above)
  have neC : ∀ b o, X.s₀.heap.get? b = some o → b ∉ X.ex → b ∉ ch := fun b o e hx hb => by
    rcases (hch b hb).1 with z | z
    · exact hx z
    · exact absurd (Nat.lt_of_lt_of_le (Heap.lt_size e) z) (Nat.lt_irrefl _)
  have cellK : ∀ x c, X.env.cells.lookup x = some c → ∀ v, s.heap.IsCell c v → h'.IsCell c v := fun x c e v ⟨o, ho, hd⟩ => by
    have nch : c ∉ ch := fun z => (hch c z).2.2.1 x c e rfl
    by_cases hc : c ∈ X.fs
    · obtain ⟨sl, q⟩ := slot c o (I.cne x c e) hc nch ho (I.freeC x c e)
      exact ⟨_, q, hd⟩
    · exact ⟨o, keep c o (I.cne x c e) hc nch ho (I.freeC x c e), hd⟩
  refine ⟨I.ok, I.os, hg, ⟨fun b o e n hb hx => ?_, fun b o e n hb hx => ?_, fun b o e n hx => ?_, fun b o e hx => ?_, fun b xs e => tups b xs (I.base.tups b xs e), fun b o xs e => frzs b o xs (I.base.frzs b o xs e), fun b ps e => ?_⟩, ?_, fun x c e => ?_, ?_, fun x c e => ?_, fun p hp => ?_, hok, I.len⟩
  · exact keep b o (neL b o e) hb (neC b o e hx) (I.base.keep b o e n hb hx) (I.base.free b o e n hx)
  · obtain ⟨sl, e1⟩ := I.base.slot b o e n hb hx
    obtain ⟨sl', e2⟩ := slot b _ (neL b o e) hb (neC b o e hx) e1 (I.base.free b o e n hx)
    exact ⟨sl', e2⟩
  · obtain ⟨o', e1⟩ := I.base.there b o e hx
    exact free b o' (neC b o e hx) e1 (I.base.free b o e n hx)
  · obtain ⟨o', e1⟩ := I.base.there b o e hx
    exact there b o' (neC b o e hx) e1
  · obtain ⟨m1, e1⟩ := I.base.tbls b ps e
    obtain ⟨m2, e2⟩ := tbls b _ e1
    exact ⟨m1 ++ m2, by rw [e2, Array.append_assoc]⟩
  · obtain ⟨m, hn, hl⟩ := I.loc
    refine ⟨m, ns m hn, fun i x v e1 e2 e3 => ?_⟩
    obtain ⟨u, r, l⟩ := hl i x v e1 e2 e3
    refine ⟨u, r, ?_⟩
    rcases l with l | ⟨k, c, e, z⟩
    · exact .inl l
    · exact .inr ⟨k, c, e, cellK x c e _ z⟩
  · obtain ⟨v, z⟩ := I.cell x c e
    exact ⟨v, cellK x c e v z⟩
  · obtain ⟨m, ⟨o, _, _, ho, _⟩, _⟩ := I.loc
    exact free _ o (fun z => (hch _ z).2.1 rfl) ho I.free
  · obtain ⟨v, o, ho, hd⟩ := I.cell x c e
    exact free c o (fun z => (hch c z).2.2.1 x c e rfl) ho (I.freeC x c e)
  · obtain ⟨e, n, ne, nf, d⟩ := I.pin p hp
    have nch : p.1 ∉ ch := fun z => (hch p.1 z).2.2.2 p hp rfl
    exact ⟨keep p.1 p.2 ne nf nch e n, free p.1 p.2 nch e n, ne, nf, d⟩
/-- .. where the frame's own object is kept too -/
theorem Inv.un {t' : Nat} (I : Inv X pins σ H s) (u : Un X.fs [] H H' s.heap h') (hok : HOk X.prog X.w H' h') : Inv X pins σ H' { s with heap := h', toks := t' } := by
  obtain ⟨m, ⟨o, es, ep, ho, r⟩, _⟩ := id I.loc
  obtain ⟨sl, hL⟩ := u.any ho I.free (by simp)
  exact I.step (g' := s.gens) (d' := s.drawn) (ch := []) (fun _ z => nomatch z) (fun b o _ hb _ e n => u.keep b o e n hb (by simp)) (fun b o _ hb _ e n => u.slot b o e n hb (by simp)) (fun b o _ e n => u.free b o e n (by simp)) (fun b o _ e => u.there b o e (by simp)) u.tups u.frzs u.tbls (fun m' hm => by
    obtain ⟨o', es', ep', ho', r'⟩ := hm
    rw [ho] at ho'; cases ho'
    exact ⟨_, es', ep', hL, r'⟩) hok I.bare
/-- behind a call (or a comprehension's block): the slots of this frame may have changed too, the records at ch may have turned -/
theorem Inv.call {g' : Array GenState} {t' : Nat} {d' : Drawn} {ch : List Addr} (I : Inv X pins σ H s) (u : Un (frs X.stack) ch H H' s.heap h') (hok : HOk X.prog X.w H' h') (hg : AllBare g')
    (hch : ∀ b ∈ ch, (b ∈ X.ex ∨ X.s₀.heap.objs.size ≤ b) ∧ b ≠ X.env.locals ∧ (∀ x c, X.env.cells.lookup x = some c → c ≠ b) ∧ ∀ p ∈ X.pn ++ pins, p.1 ≠ b) :
    Inv X pins σ H' { s with heap := h', gens := g', drawn := d', toks := t' } := by
  obtain ⟨m, ⟨o, es, ep, ho, r⟩, _⟩ := id I.loc
  obtain ⟨sl, hL⟩ := u.any ho I.free fun z => (hch _ z).2.1 rfl
  exact I.step (ch := ch) hch (fun b o hL hb hc e n => u.keep b o e n (fun z => (List.mem_cons.mp (I.stkSub b z)).elim hL hb) hc) (fun b o _ _ hc e n => u.any e n hc) (fun b o hc e n => u.free b o e n hc) (fun b o hc e => u.there b o e hc) u.tups u.frzs u.tbls (fun m' hm => by
    obtain ⟨o', es', ep', ho', r'⟩ := hm
    rw [ho] at ho'; cases ho'
    exact ⟨_, es', ep', hL, r'⟩) hok hg
/-- an untracked record of ours (an iterator) has turned -/
theorem Inv.turned {t' : Nat} {it : Addr} (I : Inv X pins σ H s) (k : ∀ b o, b ≠ it → s.heap.get? b = some o → h'.get? b = some o) (hn : H it = none) (hL : it ≠ X.env.locals)
    (h1 : it ∈ X.ex ∨ X.s₀.heap.objs.size ≤ it) (h2 : ∀ x c, X.env.cells.lookup x = some c → c ≠ it) (h3 : ∀ p ∈ X.pn ++ pins, p.1 ≠ it) : Inv X pins σ H { s with heap := h', toks := t' } := by
  have nit : ∀ b u, H b = some u → b ≠ it := fun b u e z => by rw [z, hn] at e; cases e
  refine I.step (g' := s.gens) (d' := s.drawn) (ch := [it]) (fun b hb => ?_) (fun b o _ _ hc e _ => k b o (fun z => hc (by simp [z])) e) (fun b o _ _ hc e _ => ⟨o.slots, k b o (fun z => hc (by simp [z])) e⟩) (fun _ _ _ _ n => n)
    (fun b o hc e => ⟨o, k b o (fun z => hc (by simp [z])) e⟩) (fun _ _ e => e) (fun _ _ _ e => e) (fun b ps e => ⟨#[], by rw [e]; simp⟩) (fun m hm => ?_) (fun b u e => ?_) I.bare
  · have e : b = it := by simpa using hb
    subst e
    exact ⟨h1, hL, h2, h3⟩
  · obtain ⟨o, es, ep, ho, r⟩ := hm
    exact ⟨o, es, ep, k _ o (Ne.symm hL) ho, r⟩
  · refine (I.hok b u e).stay (fun c v hc q => k c v ?_ q) (fun _ q => q) fun _ _ q => q
    rcases hc with z | z
    · rw [z]; exact nit b u e
    · exact nit c _ z
theorem Inv.tok (I : Inv X pins σ H s) (t : Nat) : Inv X pins σ H { s with toks := t } := I.un (h' := s.heap) (t' := t) Un.refl I.hok
/-- all objects kept -/
theorem Inv.kept {t' : Nat} (I : Inv X pins σ H s) (k : ∀ b u, s.heap.get? b = some u → h'.get? b = some u) : Inv X pins σ H { s with heap := h', toks := t' } := I.un (Un.kept k) (I.hok.kept k)
/-- a new object laid and tracked -/
theorem Inv.laid {a : Addr} {o : HO} {t' : Nat} (I : Inv X pins σ H s) (k : ∀ b u, s.heap.get? b = some u → h'.get? b = some u) (hp : s.heap.objs.size ≤ a) (new : ObjOk X.prog X.w (upd H a o) h' a o) :
    Inv X pins σ (upd H a o) { s with heap := h', toks := t' } := I.un (Un.laid k hp (I.hok.fresh hp)) (I.hok.laid k hp new)
/-- an object written -/
theorem Inv.write {x e : Addr} {o : HO} {t' : Nat} (I : Inv X pins σ H s) (mu : Mut (H x)) (he : e = x ∨ H e = some (.own x)) (k : ∀ b u, b ≠ e → s.heap.get? b = some u → h'.get? b = some u) (heo : ∃ u, h'.get? e = some u)
    (new : ObjOk X.prog X.w (upd H x o) h' x o) : Inv X pins σ (upd H x o) { s with heap := h', toks := t' } := I.un (Un.write mu he k heo) (I.hok.write mu he k heo new)
theorem Inv.pins_of {pins' : List (Addr × Obj)} (I : Inv X pins σ H s) (h : ∀ p ∈ pins', s.heap.get? p.1 = some p.2 ∧ H p.1 = none ∧ p.1 ≠ X.env.locals ∧ p.1 ∉ X.fs ∧ ∀ v, p.2.data ≠ .cell v) : Inv X pins' σ H s :=
  ⟨I.ok, I.os, I.bare, I.base, I.loc, I.cell, I.free, I.freeC, fun p hp => (List.mem_append.mp hp).elim (fun z => I.pin p (List.mem_append_left _ z)) (h p), I.hok, I.len⟩

theorem nodup_ix {N : List Str} (hN : N.Nodup) {i j : Nat} {x : Str} (a : N[i]? = some x) (b : N[j]? = some x) : i = j := by
  obtain ⟨h1, e1⟩ := List.getElem?_eq_some_iff.mp a
  obtain ⟨h2, e2⟩ := List.getElem?_eq_some_iff.mp b
  exact (List.getElem_inj hN).mp (e1.trans e2.symm)

/-- a name is stored; what changed -/
theorem store_ok2 {M : Model} {A : Around} {E : Value → Shared → Prop} {i : Nat} {x : Str} {v : V} {u : Value} {Q : Unit → Shared → Prop} (I : Inv X pins σ H s) (hN : X.N.Nodup) (hi : X.N[i]? = some x) (hx : Loc X.env.scope x) (r : RelV v u)
    (h : ∀ s', Inv X pins (σ.set i (some v)) H s' → (∃ a, Heap.SameBut a s.heap s'.heap ∧ (a = X.env.locals ∨ X.env.cells.lookup x = some a)) → Q () s') (hf : X.fn x = true ∨ X.env.scope.names.lookup x = some .local := by first | exact .inl rfl | exact .inr rfl | assumption) : wpAny M A (storeName X.env x u) Q E s := by
  obtain ⟨m, hn, hl⟩ := id I.loc
  have hcls : (X.env.scope.kind == .class || (X.env.scope.kind == .module && X.env.locals != X.env.globals)) = false := by rw [I.ok.kind]; rfl
  have hiσ : i < σ.length := by rw [I.len]; exact (List.getElem?_eq_some_iff.mp hi).1
  have cne := I.cne
  have tracked : ∀ {a : Addr} {h' : Heap}, (∃ o, s.heap.get? a = some o ∧ H a = none) → Heap.SameBut a s.heap h' → HOk X.prog X.w H h' := fun {a h'} ha hs b ob e => by
    obtain ⟨_, _, hfree⟩ := ha
    refine (I.hok b ob e).stay (fun c w' hc q => (hs.2 c ?_).trans q) (fun _ q => q) fun _ _ q => q
    rintro rfl
    rcases hc with rfl | hc
    · rw [hfree] at e; cases e
    · rw [hfree] at hc; cases hc
  rcases hx with hk | hk
  · refine wpAny_storeName_local hk hn (fun h' hn' hs => ?_) hcls
    obtain ⟨oL, _, _, hoL, _⟩ := id hn
    refine h _ ⟨I.ok, I.os, I.bare, ⟨fun b o e n hb hx => ?_, fun b o e n hb hx => ?_, I.base.free, fun b o e hx => ?_, I.base.tups, I.base.frzs, I.base.tbls⟩, ⟨_, hn', fun j y v' e1 e2 e3 => ?_⟩, fun y c e => ?_, I.free, I.freeC, fun p hp => ?_, tracked ⟨oL, hoL, I.free⟩ hs, by simpa using I.len⟩ ⟨_, hs, .inl rfl⟩
    · exact (hs.2 b (Nat.ne_of_lt (Nat.lt_of_lt_of_le (Heap.lt_size e) I.ok.above))).trans (I.base.keep b o e n hb hx)
    · obtain ⟨sl, e1⟩ := I.base.slot b o e n hb hx
      exact ⟨sl, (hs.2 b (Nat.ne_of_lt (Nat.lt_of_lt_of_le (Heap.lt_size e) I.ok.above))).trans e1⟩
    · obtain ⟨o', e1⟩ := I.base.there b o e hx
      exact ⟨o', (hs.2 b (Nat.ne_of_lt (Nat.lt_of_lt_of_le (Heap.lt_size e) I.ok.above))).trans e1⟩
    · by_cases hj : j = i
      · subst hj
        rw [hi] at e1; cases e1
        rw [List.getElem?_set_self hiσ] at e2
        cases e2
        exact ⟨u, r, .inl ⟨hk, by simp⟩⟩
      · rw [List.getElem?_set_ne (Ne.symm hj)] at e2
        obtain ⟨u', r', q⟩ := hl j y v' e1 e2 e3
        refine ⟨u', r', ?_⟩
        rcases q with ⟨k, e⟩ | ⟨k, c, e, z⟩
        · refine .inl ⟨k, ?_⟩
          have : y ≠ x := fun e => hj (nodup_ix hN e1 (e ▸ hi))
          simp [this, e]
        · exact .inr ⟨k, c, e, z.sameBut hs (cne y c e)⟩
    · obtain ⟨w', z⟩ := I.cell y c e
      exact ⟨w', z.sameBut hs (cne y c e)⟩
    · obtain ⟨e, n, ne, nf, d⟩ := I.pin p hp
      exact ⟨(hs.2 p.1 ne).trans e, n, ne, nf, d⟩
  · have hfn : X.fn x = true := by
      rcases hf with z | z
      · exact z
      · rw [z] at hk; cases hk
    obtain ⟨c, hc⟩ := I.ok.has x (.inl hk)
    obtain ⟨w', z⟩ := I.cell x c hc
    refine wpAny_storeName_cell I.ok.kind hk hc z (fun h' hc' hs => ?_)
    obtain ⟨oc, hoc, hocd⟩ := id z
    refine h { s with heap := h' } ⟨I.ok, I.os, I.bare, ⟨fun b o e n hb hx => ?_, fun b o e n hb hx => ?_, I.base.free, fun b o e hx => ?_, I.base.tups, I.base.frzs, I.base.tbls⟩, ⟨m, hn.sameBut hs (Ne.symm (cne x c hc)), fun j y v' e1 e2 e3 => ?_⟩, fun y c' e => ?_, I.free, I.freeC, fun p hp => ?_, tracked ⟨oc, hoc, I.freeC x c hc⟩ hs, by simpa using I.len⟩ ⟨c, hs, .inr hc⟩
    · exact (hs.2 b (Nat.ne_of_lt (Nat.lt_of_lt_of_le (Heap.lt_size e) (I.ok.cab x c hfn hc)))).trans (I.base.keep b o e n hb hx)
    · obtain ⟨sl, e1⟩ := I.base.slot b o e n hb hx
      exact ⟨sl, (hs.2 b (Nat.ne_of_lt (Nat.lt_of_lt_of_le (Heap.lt_size e) (I.ok.cab x c hfn hc)))).trans e1⟩
    · obtain ⟨o', e1⟩ := I.base.there b o e hx
      exact ⟨o', (hs.2 b (Nat.ne_of_lt (Nat.lt_of_lt_of_le (Heap.lt_size e) (I.ok.cab x c hfn hc)))).trans e1⟩
    · by_cases hj : j = i
      · subst hj
        rw [hi] at e1; cases e1
        rw [List.getElem?_set_self hiσ] at e2
        cases e2
        exact ⟨u, r, .inr ⟨.inl hk, c, hc, hc'⟩⟩
      · rw [List.getElem?_set_ne (Ne.symm hj)] at e2
        obtain ⟨u', r', q⟩ := hl j y v' e1 e2 e3
        refine ⟨u', r', ?_⟩
        rcases q with q | ⟨k, c', e, z'⟩
        · exact .inl q
        · refine .inr ⟨k, c', e, z'.sameBut hs ?_⟩
          rintro rfl
          exact hj (nodup_ix hN e1 (I.ok.inj _ _ _ e hc ▸ hi))
    · by_cases hcc : c' = c
      · subst hcc; exact ⟨_, hc'⟩
      · obtain ⟨w2, z2⟩ := I.cell y c' e
        exact ⟨w2, z2.sameBut hs hcc⟩
    · obtain ⟨e, n, ne, nf, d⟩ := I.pin p hp
      refine ⟨(hs.2 p.1 ?_).trans e, n, ne, nf, d⟩
      intro q
      rw [q, hoc] at e
      have q' : oc = p.2 := Option.some.inj e
      exact d w' (by rw [← q']; exact hocd)
theorem store_ok {M : Model} {A : Around} {E : Value → Shared → Prop} {i : Nat} {x : Str} {v : V} {u : Value} {Q : Unit → Shared → Prop} (I : Inv X pins σ H s) (hN : X.N.Nodup) (hi : X.N[i]? = some x) (hx : Loc X.env.scope x) (r : RelV v u)
    (h : ∀ s', Inv X pins (σ.set i (some v)) H s' → Q () s') (hf : X.fn x = true ∨ X.env.scope.names.lookup x = some .local := by first | exact .inl rfl | exact .inr rfl | assumption) : wpAny M A (storeName X.env x u) Q E s :=
  store_ok2 I hN hi hx r (fun s' I' _ => h s' I') hf
/-- behind a call or a block, the state as it is -/
theorem Inv.call' {s' : Shared} {ch : List Addr} (I : Inv X pins σ H s) (ho : s'.os = s.os) (u : Un (frs X.stack) ch H H' s.heap s'.heap) (hok : HOk X.prog X.w H' s'.heap) (hg : AllBare s'.gens)
    (hch : ∀ b ∈ ch, (b ∈ X.ex ∨ X.s₀.heap.objs.size ≤ b) ∧ b ≠ X.env.locals ∧ (∀ x c, X.env.cells.lookup x = some c → c ≠ b) ∧ ∀ p ∈ X.pn ++ pins, p.1 ≠ b) : Inv X pins σ H' s' := by
  obtain ⟨h', g', d', t', o'⟩ := s'
  have e : o' = s.os := ho
  subst e
  exact I.call (g' := g') (t' := t') (d' := d') u hok hg hch
end

/-! ### the judgements -/
/-- an exception: its class, its own dict's address (where it has one), the abstract heap behind it -/
abbrev XK := Value → Option Addr → Hp → Prop
abbrev St := List (Option V)
abbrev VK := V → Hp → Prop
/-- an expression's reading; a test's; an argument list's -/
abbrev TE := St → Hp → VK → Prop
abbrev TT := St → Hp → (Bool → Hp → Prop) → Prop
abbrev TA := St → Hp → (List V → Hp → Prop) → Prop
/-- what is wanted behind a statement -/
structure Ends where
  nx : St → Hp → Prop
  rt : VK
  bk : St → Hp → Prop := fun _ _ => False
  ct : St → Hp → Prop := fun _ _ => False
abbrev TS := Ends → St → Hp → Prop

def EP (X : Cx) (pins : List (Addr × Obj)) (σ : St) (Q : VK) (u : Value) (s' : Shared) : Prop := ∃ v H', Inv X pins σ H' s' ∧ RelV v u ∧ Q v H'
def TP (X : Cx) (pins : List (Addr × Obj)) (σ : St) (Q : Bool → Hp → Prop) (b : Bool) (s' : Shared) : Prop := ∃ H', Inv X pins σ H' s' ∧ Q b H'
def AP (X : Cx) (pins : List (Addr × Obj)) (σ : St) (Q : List V → Hp → Prop) (us : List Value) (s' : Shared) : Prop := ∃ vs H', Inv X pins σ H' s' ∧ Vals vs us ∧ Q vs H'
def SP (X : Cx) (pins : List (Addr × Obj)) (D : Ends) (f : Flow) (s' : Shared) : Prop :=
  match f with
  | .next => ∃ σ' H', Inv X pins σ' H' s' ∧ D.nx σ' H'
  | .brk => ∃ σ' H', Inv X pins σ' H' s' ∧ D.bk σ' H'
  | .cont => ∃ σ' H', Inv X pins σ' H' s' ∧ D.ct σ' H'
  | .ret u => ∃ v σ' H', Inv X pins σ' H' s' ∧ RelV v u ∧ D.rt v H'

def PE (X : Cx) (e : Expr) (t : TE) : Prop :=
  ∀ (pins : List (Addr × Obj)) (s : Shared) (σ : St) (H : Hp) (Q : VK), Inv X pins σ H s → t σ H Q → wpAny (model X.prog X.w) X.A (eval e X.env) (EP X pins σ Q) X.xe s
def PT (X : Cx) (e : Expr) (t : TT) : Prop :=
  ∀ (pins : List (Addr × Obj)) (s : Shared) (σ : St) (H : Hp) (Q : Bool → Hp → Prop), Inv X pins σ H s → t σ H Q → wpAny (model X.prog X.w) X.A (isTrue e X.env (eval e X.env)) (TP X pins σ Q) X.xe s
/-- a test whatever its 'whole' is (and, or) -/
def PW (X : Cx) (e : Expr) (t : TT) : Prop :=
  ∀ (whole : Sem Value) (pins : List (Addr × Obj)) (s : Shared) (σ : St) (H : Hp) (Q : Bool → Hp → Prop), Inv X pins σ H s → t σ H Q → wpAny (model X.prog X.w) X.A (isTrue e X.env whole) (TP X pins σ Q) X.xe s
theorem PW.pt {X : Cx} {e : Expr} {t : TT} (h : PW X e t) : PT X e t := h _
/-- an argument list (no star), from the left -/
def PA (X : Cx) (es : List Expr) (t : TA) : Prop :=
  ∀ (pos : Pos) (pins : List (Addr × Obj)) (s : Shared) (σ : St) (H : Hp) (Q : List V → Hp → Prop), Inv X pins σ H s → t σ H Q → wpAny (model X.prog X.w) X.A (spliced (backTo pos (starEach es X.env))) (AP X pins σ Q) X.xe s
def PS (X : Cx) (st : Stmt) (t : TS) : Prop :=
  ∀ (pins : List (Addr × Obj)) (s : Shared) (σ : St) (H : Hp) (D : Ends), Inv X pins σ H s → t D σ H → wpAny (model X.prog X.w) X.A (exec st X.env) (SP X pins D) X.xe s
def PSs (X : Cx) (st : List Stmt) (t : TS) : Prop :=
  ∀ (pins : List (Addr × Obj)) (s : Shared) (σ : St) (H : Hp) (D : Ends), Inv X pins σ H s → t D σ H → wpAny (model X.prog X.w) X.A (execs st X.env) (SP X pins D) X.xe s
/-- weaken the end -/
theorem thn {α : Type} {t : Sem α} {Q Q' : α → Shared → Prop} {M : Model} {A : Around} {E : Value → Shared → Prop} {s : Shared} (h : wpAny M A t Q E s) (hQ : ∀ a s, Q a s → Q' a s) : wpAny M A t Q' E s := wpAny_mono h hQ fun _ _ x => x
end L2

namespace L2
open PySem PySem.Spec PyProof.Rows
section
variable {X : Cx}

/-! ### names and constants -/
def tVar (i : Nat) : TE := fun σ H Q => ∃ v, σ[i]? = some (some v) ∧ Q v H
def tC (v : V) : TE := fun _ H Q => Q v H
theorem pe_var {i : Nat} {x : Str} {pos : Pos} (hN : X.N[i]? = some x) (hv : Vis X.env.scope x) (hd : (x == ("__debug__" : Str)) = false := by decide) (hcd : (x == ("__classdict__" : Str)) = false := by decide) : PE X (.Name x pos) (tVar i) := by
  intro pins s σ H Q I h
  obtain ⟨v, e, h⟩ := h
  obtain ⟨m, hn, hl⟩ := I.loc
  obtain ⟨u, r, l⟩ := hl i x v hN e hv
  have fin : EP X pins σ Q u s := ⟨v, H, I, r, h⟩
  rcases l with ⟨hk, hm⟩ | ⟨hk, c, hc, hcell⟩
  · exact wpAny_Name (wpAny_loadName_local I.ok.kind hk hn hm fin) hd
  · rcases hk with hk | hk
    · exact wpAny_Name (wpAny_loadName_cell I.ok.kind hk hc hcell fin) hd
    · exact wpAny_Name (wpAny_loadName_free I.ok.kind hk hc hcell fin hcd) hd
theorem pe_int {i j pos} : PE X (.Constant (.int i) j pos) (tC (.int i)) := fun _ _ _ H _ I h => wpAny_Constant_int ⟨.int i, H, I.tok _, ⟨_, rfl⟩, h⟩
theorem pe_bl {b j pos} : PE X (.Constant (.bool b) j pos) (tC (.bl b)) := fun _ _ _ H _ I h => Constant_bool ⟨.bl b, H, I, rfl, h⟩
theorem pe_non {j pos} : PE X (.Constant .none j pos) (tC .non) := fun _ _ _ H _ I h => Constant_none ⟨.non, H, I, rfl, h⟩
theorem pe_str {x j pos} : PE X (.Constant (.str x) j pos) (tC (.str x)) := fun _ _ _ H _ I h => Calls.Constant_str ⟨.str x, H, I.tok _, ⟨_, rfl⟩, h⟩

/-- a global name of the def -/
def Gl (X : Cx) (x : Str) : Prop := X.env.kindOf x = some .globalImplicit
theorem ld_glob {E : Value → Shared → Prop} {pins : List (Addr × Obj)} {s : Shared} {σ : St} {H : Hp} {x : Str} {u : Value} {pos : Pos} {Q : Value → Shared → Prop} (I : Inv X pins σ H s) (hg : Gl X x) (hm : X.mg x = some u) (h : Q u s)
    (hd : (x == ("__debug__" : Str)) = false := by decide) : wpAny (model X.prog X.w) X.A (eval (.Name x pos) X.env) Q E s :=
  Calls.Name_function_global I.ok.kind hg (Calls.loadGlobal_global (by rw [I.ok.glob]; exact I.mod.glob.keeps I.bk) hm h) hd
theorem ld_blt {E : Value → Shared → Prop} {pins : List (Addr × Obj)} {s : Shared} {σ : St} {H : Hp} {x : Str} {u : Value} {pos : Pos} {Q : Value → Shared → Prop} (I : Inv X pins σ H s) (hg : Gl X x) (hm : X.mg x = none) (hv : bootBuiltins x = some u) (h : Q u s)
    (hn : x ≠ "__name__" := by decide) (hd : (x == ("__debug__" : Str)) = false := by decide) : wpAny (model X.prog X.w) X.A (eval (.Name x pos) X.env) Q E s := by
  obtain ⟨mb, h1, h2⟩ := I.mod.blt
  exact Calls.Name_function_global I.ok.kind hg (Calls.loadGlobal_builtin (by rw [I.ok.glob]; exact I.mod.glob.keeps I.bk) hm (by rw [I.ok.blt]; exact h1.keeps I.bk) ((h2 x hn).trans hv) h) hd
/-- a module's constant, a class, a function, as a value -/
theorem pe_glob {x : Str} {v : V} {u : Value} {pos : Pos} (hg : Gl X x) (hm : X.mg x = some u) (r : RelV v u) (hd : (x == ("__debug__" : Str)) = false := by decide) : PE X (.Name x pos) (tC v) :=
  fun _ _ _ H _ I h => ld_glob I hg hm ⟨v, H, I, r, h⟩ hd
theorem pe_bltn {x : Str} {v : V} {u : Value} {pos : Pos} (hg : Gl X x) (hm : X.mg x = none) (hv : bootBuiltins x = some u) (r : RelV v u) (hn : x ≠ "__name__" := by decide) (hd : (x == ("__debug__" : Str)) = false := by decide) : PE X (.Name x pos) (tC v) :=
  fun _ _ _ H _ I h => ld_blt I hg hm hv ⟨v, H, I, r, h⟩ hn hd

/-! ### arithmetic -/
/-- two ints -/
def t2I (ta tb : TE) (k : Int → Int → Hp → Prop) : St → Hp → Prop := fun σ H => ta σ H fun x H1 => tb σ H1 fun y H2 => ∃ i j, x = .int i ∧ y = .int j ∧ k i j H2
def tAdd (ta tb : TE) : TE := fun σ H Q => t2I ta tb (fun i j H2 => Q (.int (i + j)) H2) σ H
def tSub (ta tb : TE) : TE := fun σ H Q => t2I ta tb (fun i j H2 => Q (.int (i - j)) H2) σ H
/-- the left factor below 2^64 -/
def tMul (ta tb : TE) : TE := fun σ H Q => t2I ta tb (fun i j H2 => (-(2 ^ 64) < i ∧ i < 2 ^ 64) ∧ Q (.int (i * j)) H2) σ H
variable {a b : Expr} {ta tb : TE} {pos : Pos}
/-! ### comparisons -/
def PC (X : Cx) (op : CmpOp) (a b : Expr) (t : TE) : Prop :=
  ∀ (pins : List (Addr × Obj)) (s : Shared) (σ : St) (H : Hp) (Q : VK), Inv X pins σ H s → t σ H Q →
    wpAny (model X.prog X.w) X.A (eval a X.env) (fun v s₁ => wpAny (model X.prog X.w) X.A (eval b X.env) (fun u s₂ => wpAny (model X.prog X.w) X.A (compareOp op v u) (EP X pins σ Q) X.xe s₂) X.xe s₁) X.xe s
def tCmp (p : Int → Int → Bool) (ta tb : TE) : TE := fun σ H Q => t2I ta tb (fun i j H2 => Q (.bl (p i j)) H2) σ H
abbrev tLt : TE → TE → TE := tCmp fun i j => decide (i < j)
abbrev tLe : TE → TE → TE := tCmp fun i j => decide (i ≤ j)
abbrev tGt : TE → TE → TE := tCmp fun i j => decide (j < i)
abbrev tGe : TE → TE → TE := tCmp fun i j => decide (j ≤ i)
abbrev tEqI : TE → TE → TE := tCmp fun i j => decide (i = j)
abbrev tNeI : TE → TE → TE := tCmp fun i j => !decide (i = j)
/-- is None -/
def tIsN (ta : TE) : TE := fun σ H Q => ta σ H fun x H1 => Q (.bl (decide (x = .non))) H1
def tNotN (ta : TE) : TE := fun σ H Q => ta σ H fun x H1 => Q (.bl (!decide (x = .non))) H1
/-- a comparison as a value, as a test -/
def tB (t : TE) : TT := fun σ H Q => t σ H fun x H1 => ∃ c, x = .bl c ∧ Q c H1
/-! ### and, or, not -/
variable {tA tB' : TT} {rest : List Expr}
def tAnd (t u : TT) : TT := fun σ H Q => t σ H fun c H1 => if c = true then u σ H1 Q else Q false H1
def tOr (t u : TT) : TT := fun σ H Q => t σ H fun c H1 => if c = true then Q true H1 else u σ H1 Q
def tNot (t : TT) : TT := fun σ H Q => t σ H fun c H1 => Q (!c) H1
theorem pw_and1 (ha : PT X a tA) : PW X (.BoolOp .And [a] pos) tA := by
  intro wh pins s σ H Q I h
  refine isTrue_and (thn (ha pins s σ H Q I h) fun c s1 e => ?_)
  cases c with
  | true => exact isTrue_and_nil e
  | false => exact e
theorem pw_or1 (ha : PT X a tA) : PW X (.BoolOp .Or [a] pos) tA := by
  intro wh pins s σ H Q I h
  refine isTrue_or (thn (ha pins s σ H Q I h) fun c s1 e => ?_)
  cases c with
  | false => exact isTrue_or_nil e
  | true => exact e
theorem pw_and (ha : PT X a tA) (hb : PW X (.BoolOp .And (b :: rest) pos) tB') : PW X (.BoolOp .And (a :: b :: rest) pos) (tAnd tA tB') := by
  intro wh pins s σ H Q I h
  refine isTrue_and (thn (ha pins s σ H _ I h) fun c s1 ⟨H1, I1, q1⟩ => ?_)
  cases c with
  | true => exact hb wh pins s1 σ H1 Q I1 q1
  | false => exact ⟨H1, I1, q1⟩
theorem pw_or (ha : PT X a tA) (hb : PW X (.BoolOp .Or (b :: rest) pos) tB') : PW X (.BoolOp .Or (a :: b :: rest) pos) (tOr tA tB') := by
  intro wh pins s σ H Q I h
  refine isTrue_or (thn (ha pins s σ H _ I h) fun c s1 ⟨H1, I1, q1⟩ => ?_)
  cases c with
  | true => exact ⟨H1, I1, q1⟩
  | false => exact hb wh pins s1 σ H1 Q I1 q1
theorem pt_not (ha : PT X a tA) : PT X (.UnaryOp .Not a pos) (tNot tA) := by
  intro pins s σ H Q I h
  exact isTrue_not (ha pins s σ H (fun c H1 => Q (!c) H1) I h)
/-- .. as values (bools) -/
def tAndV (ta tb : TE) : TE := fun σ H Q => ta σ H fun x H1 => ∃ c, x = .bl c ∧ if c = true then tb σ H1 Q else Q (.bl false) H1
def tOrV (ta tb : TE) : TE := fun σ H Q => ta σ H fun x H1 => ∃ c, x = .bl c ∧ if c = true then Q (.bl true) H1 else tb σ H1 Q
def tNotV (ta : TE) : TE := fun σ H Q => ta σ H fun x H1 => ∃ c, x = .bl c ∧ Q (.bl (!c)) H1
/-- a if t else b -/
def tIf (t : TT) (ta tb : TE) : TE := fun σ H Q => t σ H fun c H1 => if c = true then ta σ H1 Q else tb σ H1 Q
end
end L2

namespace L2
open PySem PySem.Spec PyProof.Rows

/-! ### a list, a tuple that is read: tracked, frozen, or an object of the module -/
def SqL (K : PySem.W.Frag) (H : Hp) (a : Addr) (xs : List V) : Prop :=
  Rd H a (.lst xs) ∨
    ∃ (o : Obj) (its : Array Value) (n : Nat), K.lookup a = some o ∧ o.cls = .type "list" ∧ o.dict = none ∧ o.data = .seq its n ∧ its.size ≤ sizeLine ∧ Vals xs its.toList
def SqT (K : PySem.W.Frag) (H : Hp) (a : Addr) (xs : List V) : Prop :=
  Rd H a (.tup xs) ∨
    ∃ (o : Obj) (its : Array Value) (n : Nat), K.lookup a = some o ∧ o.cls = .type "tuple" ∧ o.data = .seq its n ∧ its.size ≤ sizeLine ∧ Vals xs its.toList
def absV : Value → Option V
  | .none => some .non
  | .bool b => some (.bl b)
  | .int i _ => some (.int i)
  | .str x _ => some (.str x)
  | .bytes b _ => some (.byt b)
  | .float b _ => some (.flt b)
  | .ref a => some (.ref a)
  | .type n => some (.ty n)
  | _ => none
theorem RelV.abs {x : V} {u : Value} (r : RelV x u) : absV u = some x := by
  cases x with
  | non => cases r; rfl
  | bl _ => cases r; rfl
  | int _ => obtain ⟨t, rfl⟩ := r; rfl
  | str _ => obtain ⟨t, rfl⟩ := r; rfl
  | byt _ => obtain ⟨t, rfl⟩ := r; rfl
  | flt _ => obtain ⟨t, rfl⟩ := r; rfl
  | ref _ => cases r; rfl
  | ty _ => cases r; rfl
theorem RelV.inj {x y : V} {u : Value} (r : RelV x u) (q : RelV y u) : x = y := Option.some.inj (r.abs.symm.trans q.abs)
theorem Vals.inj : ∀ {xs ys : List V} {us : List Value}, Vals xs us → Vals ys us → xs = ys
  | _, _, _, .nil, .nil => rfl
  | _, _, _, .cons r t, .cons r' t' => by rw [r.inj r', Vals.inj t t']
section
variable {X : Cx} {pins : List (Addr × Obj)} {σ : St} {H : Hp} {s : Shared} {a : Addr} {xs ys : List V}
theorem SqL.of {K : PySem.W.Frag} (h : H a = some (.lst xs)) : SqL K H a xs := .inl (.inl h)
theorem SqT.of {K : PySem.W.Frag} (h : H a = some (.tup xs)) : SqT K H a xs := .inl (.inl h)
theorem Inv.list (I : Inv X pins σ H s) (h : SqL X.K H a xs) : ∃ its : List Value, Vals xs its ∧ PlainL s.heap a its.toArray ∧ xs.length ≤ sizeLine := by
  rcases h with h | ⟨o, its, n, hk, hc, hd, hs, hz, r⟩
  · obtain ⟨z, its, n, r, e⟩ := h.ok I.hok
    exact ⟨its, r, ⟨_, n, e, rfl, rfl, rfl⟩, z⟩
  · refine ⟨its.toList, r, ⟨o, n, I.kIn a o hk, hc, hd, by simpa using hs⟩, ?_⟩
    have e := r.length
    simp only [Array.length_toList] at e
    omega
theorem Inv.tuple (I : Inv X pins σ H s) (h : SqT X.K H a xs) : ∃ its : List Value, Vals xs its ∧ IsTup s.heap a its.toArray ∧ xs.length ≤ sizeLine := by
  rcases h with h | ⟨o, its, n, hk, hc, hs, hz, r⟩
  · obtain ⟨z, its, r, p⟩ := h.ok I.hok
    exact ⟨its, r, p, z⟩
  · refine ⟨its.toList, r, ⟨o, I.kIn a o hk, hc, n, by simpa using hs⟩, ?_⟩
    have e := r.length
    simp only [Array.length_toList] at e
    omega
theorem Inv.list_inj (I : Inv X pins σ H s) (h : SqL X.K H a xs) (h' : SqL X.K H a ys) : xs = ys := by
  obtain ⟨its, r, ⟨o, n, e, _, _, d⟩, _⟩ := I.list h
  obtain ⟨its', r', ⟨o', n', e', _, _, d'⟩, _⟩ := I.list h'
  rw [e] at e'; cases e'
  rw [d] at d'
  injection d' with d1 _
  have : its = its' := by simpa using congrArg Array.toList d1
  subst this
  exact r.inj r'
theorem Inv.tuple_inj (I : Inv X pins σ H s) (h : SqT X.K H a xs) (h' : SqT X.K H a ys) : xs = ys := by
  obtain ⟨its, r, ⟨o, e, _, n, d⟩, _⟩ := I.tuple h
  obtain ⟨its', r', ⟨o', e', _, n', d'⟩, _⟩ := I.tuple h'
  rw [e] at e'; cases e'
  rw [d] at d'
  injection d' with d1 _
  have : its = its' := by simpa using congrArg Array.toList d1
  subst this
  exact r.inj r'
end

/-! ### another wish about exceptions -/
abbrev Cx.wish (X : Cx) (E : Value → Shared → Prop) : Cx := { X with xe := E }
/-- no exception leaves -/
abbrev Cx.nox (X : Cx) : Cx := X.wish fun _ _ => False
theorem Cx.Ok.wish {X : Cx} (ok : X.Ok) (E : Value → Shared → Prop) : (X.wish E).Ok :=
  ⟨ok.mod, ok.kind, ok.glob, ok.blt, ok.above, ok.inj, ok.has, ok.cab, ok.hd, ok.frames, ok.stk, ok.exf, ok.bs, ok.bsz, ok.noex, ok.exfs, ok.funs, ok.frf⟩
theorem Cx.Ok.unwish {X : Cx} {E : Value → Shared → Prop} (ok : (X.wish E).Ok) : X.Ok :=
  ⟨ok.mod, ok.kind, ok.glob, ok.blt, ok.above, ok.inj, ok.has, ok.cab, ok.hd, ok.frames, ok.stk, ok.exf, ok.bs, ok.bsz, ok.noex, ok.exfs, ok.funs, ok.frf⟩
section
variable {X : Cx} {pins : List (Addr × Obj)} {σ : St} {H : Hp} {s : Shared} {E : Value → Shared → Prop}
theorem Inv.wish (I : Inv X pins σ H s) (E : Value → Shared → Prop) : Inv (X.wish E) pins σ H s := ⟨I.ok.wish E, I.os, I.bare, I.base, I.loc, I.cell, I.free, I.freeC, I.pin, I.hok, I.len⟩
theorem Inv.unwish (I : Inv (X.wish E) pins σ H s) : Inv X pins σ H s := ⟨I.ok.unwish, I.os, I.bare, I.base, I.loc, I.cell, I.free, I.freeC, I.pin, I.hok, I.len⟩
theorem SP.unwish {D : Ends} {f : Flow} {s' : Shared} (h : SP (X.wish E) pins D f s') : SP X pins D f s' := by
  cases f with
  | next => obtain ⟨σ', H', I, q⟩ := h; exact ⟨σ', H', I.unwish, q⟩
  | brk => obtain ⟨σ', H', I, q⟩ := h; exact ⟨σ', H', I.unwish, q⟩
  | cont => obtain ⟨σ', H', I, q⟩ := h; exact ⟨σ', H', I.unwish, q⟩
  | ret u => obtain ⟨v, σ', H', I, r, q⟩ := h; exact ⟨v, σ', H', I.unwish, r, q⟩
theorem PE.nox {e : Expr} {t : TE} (h : PE X.nox e t) : PE X e t := fun pins s σ H Q I hw =>
  wpAny_mono (h pins s σ H Q (I.wish _) hw) (fun _ _ ⟨v, H', I', r, q⟩ => ⟨v, H', I'.unwish, r, q⟩) fun _ _ z => False.elim z
theorem PT.nox {e : Expr} {t : TT} (h : PT X.nox e t) : PT X e t := fun pins s σ H Q I hw =>
  wpAny_mono (h pins s σ H Q (I.wish _) hw) (fun _ _ ⟨H', I', q⟩ => ⟨H', I'.unwish, q⟩) fun _ _ z => False.elim z
theorem PSs.nox {st : List Stmt} {t : TS} (h : PSs X.nox st t) : PSs X st t := fun pins s σ H D I hw =>
  wpAny_mono (h pins s σ H D (I.wish _) hw) (fun _ _ q => q.unwish) fun _ _ z => False.elim z
end

/-! ### blocks and small statements -/
section
variable {X : Cx} {st : Stmt} {rest : List Stmt} {t u : TS} {e : Expr} {te : TE} {pos : Pos}
def tNext : TS := fun D σ H => D.nx σ H
def tSeq (t u : TS) : TS := fun D σ H => t { D with nx := u D } σ H
theorem pss_nil : PSs X [] tNext := fun _ _ σ H _ I h => wpAny_execs_nil ⟨σ, H, I, h⟩
theorem pss_cons (h1 : PS X st t) (h2 : PSs X rest u) : PSs X (st :: rest) (tSeq t u) := by
  intro pins s σ H D I h
  refine wpAny_execs_cons (thn (h1 pins s σ H { D with nx := u D } I h) fun f s1 q => ?_)
  cases f with
  | next =>
    obtain ⟨σ', H', I', q⟩ := q
    exact h2 pins s1 σ' H' D I' q
  | ret v => exact q
  | brk => exact q
  | cont => exact q
theorem pss_one (h1 : PS X st t) : PSs X [st] t := by
  intro pins s σ H D I h
  refine wpAny_execs_cons (thn (h1 pins s σ H D I h) fun f s1 q => ?_)
  cases f with
  | next => exact wpAny_execs_nil q
  | ret v => exact q
  | brk => exact q
  | cont => exact q
def tBreak : TS := fun D σ H => D.bk σ H
def tCont : TS := fun D σ H => D.ct σ H
/-- in a def's body nothing is shown -/
theorem Inv.quiet {pins : List (Addr × Obj)} {σ : St} {H : Hp} {s : Shared} (I : Inv X pins σ H s) : interactive X.env = false := by simp [interactive, I.ok.kind]
/-- an expression whose value is dropped -/
def tDrop (te : TE) : TS := fun D σ H => te σ H fun _ H1 => D.nx σ H1
theorem ps_expr (he : PE X e te) (hs : swapsWith e none pos.line X.env = pure false := by rfl) : PS X (.Expr e pos) (tDrop te) := by
  intro pins s σ H D I h
  exact wpAny_Expr_any (thn (he pins s σ H _ I h) fun v s1 ⟨x, H1, I1, r1, q1⟩ => ⟨σ, H1, I1, q1⟩) I.quiet hs
def tRet (te : TE) : TS := fun D σ H => te σ H D.rt
theorem ps_ret (he : PE X e te) : PS X (.Return (some e) pos) (tRet te) := by
  intro pins s σ H D I h
  exact wpAny_Return_some (thn (he pins s σ H _ I h) fun v s1 ⟨x, H1, I1, r1, q1⟩ => ⟨x, σ, H1, I1, r1, q1⟩)
def tRetN : TS := fun D _ H => D.rt .non H
def tIfS (c : TT) (t u : TS) : TS := fun D σ H => c σ H fun b H1 => if b = true then t D σ H1 else u D σ H1
theorem ps_if {c : Expr} {a b : List Stmt} {tc : TT} (hc : PT X c tc) (ha : PSs X a t) (hb : PSs X b u) : PS X (.If c a b pos) (tIfS tc t u) := by
  intro pins s σ H D I h
  refine wpAny_If (thn (hc pins s σ H _ I h) fun d s1 ⟨H1, I1, q1⟩ => ?_)
  cases d with
  | true => exact ha pins s1 σ H1 D I1 q1
  | false => exact hb pins s1 σ H1 D I1 q1
/-- code that the proof never comes to -/
def tNever : TS := fun _ _ _ => False
end

/-! ### targets -/
abbrev TG := V → St → Hp → (St → Hp → Prop) → Prop
abbrev TGs := List V → St → Hp → (St → Hp → Prop) → Prop
def PG (X : Cx) (target : Expr) (t : TG) : Prop :=
  ∀ (pins : List (Addr × Obj)) (s : Shared) (σ : St) (H : Hp) (v : V) (u : Value) (Q : St → Hp → Prop), Inv X pins σ H s → RelV v u → t v σ H Q →
    wpAny (model X.prog X.w) X.A (assign target X.env u) (fun _ s' => ∃ σ' H', Inv X pins σ' H' s' ∧ Q σ' H') X.xe s
/-- several targets, one after another -/
def PGs (X : Cx) (ts : List Expr) (t : TGs) : Prop :=
  ∀ (pins : List (Addr × Obj)) (s : Shared) (σ : St) (H : Hp) (vs : List V) (us : List Value) (Q : St → Hp → Prop), Inv X pins σ H s → Vals vs us → t vs σ H Q →
    wpAny (model X.prog X.w) X.A (assignInOrder ((assignEach ts X.env).map (·.2)) us) (fun _ s' => ∃ σ' H', Inv X pins σ' H' s' ∧ Q σ' H') X.xe s
/-- o[i] = v, by values -/
abbrev TSet := V → V → V → Hp → (Hp → Prop) → Prop
def PSet (X : Cx) (t : TSet) : Prop :=
  ∀ (pins : List (Addr × Obj)) (s : Shared) (σ : St) (H : Hp) (o i v : V) (ov iv u : Value) (Q : Hp → Prop), Inv X pins σ H s → RelV o ov → RelV i iv → RelV v u → t o i v H Q →
    wpAny (model X.prog X.w) X.A (setItem ov iv u) (fun _ s' => ∃ H', Inv X pins σ H' s' ∧ Q H') X.xe s
/-- a op= b, by values -/
abbrev TIp := V → V → Hp → VK → Prop
def PIp (X : Cx) (op : Operator) (t : TIp) : Prop :=
  ∀ (pins : List (Addr × Obj)) (s : Shared) (σ : St) (H : Hp) (x y : V) (v u : Value) (Q : VK), Inv X pins σ H s → RelV x v → RelV y u → t x y H Q →
    wpAny (model X.prog X.w) X.A (inplaceOp op v u) (EP X pins σ Q) X.xe s
section
variable {X : Cx} {pos : Pos}
def gName (i : Nat) : TG := fun v σ H Q => Q (σ.set i (some v)) H
theorem pg_name {i : Nat} {x : Str} (hN : X.N.Nodup) (hi : X.N[i]? = some x) (hx : Loc X.env.scope x) (hf : X.fn x = true ∨ X.env.scope.names.lookup x = some .local := by first | exact .inl rfl | exact .inr rfl | assumption) : PG X (.Name x pos) (gName i) := by
  intro pins s σ H v u Q I r h
  exact wpAny_assign_Name (store_ok I hN hi hx r (fun s' I' => ⟨_, H, I', h⟩) hf)
def gNil : TGs := fun vs σ H Q => vs = [] ∧ Q σ H
def gCons (t : TG) (u : TGs) : TGs := fun vs σ H Q => ∃ v r, vs = v :: r ∧ t v σ H fun σ' H' => u r σ' H' Q
/-- (a, b, ..) = a tuple of that length -/
def gTup (K : PySem.W.Frag) (n : Nat) (t : TGs) : TG := fun v σ H Q => ∃ a xs, v = .ref a ∧ SqT K H a xs ∧ xs.length = n ∧ t xs σ H Q
/-- o[i] = .. -/
def gSub (to ti : TE) (t : TSet) : TG := fun v σ H Q => to σ H fun o H1 => ti σ H1 fun i H2 => t o i v H2 fun H3 => Q σ H3
theorem pg_sub {o i : Expr} {to ti : TE} {t : TSet} (ho : PE X o to) (hi : PE X i ti) (hs : PSet X t)
    (ha : ∀ v, assign (.Subscript o i pos) X.env v = (do
      let ov ← holding [v] (eval o X.env)
      let iv ← holding [v, ov] (eval i X.env)
      standAt pos
      holding [v, ov, iv] (setItem ov iv v)
      release [v, ov, iv] []) := by intro _; rfl) : PG X (.Subscript o i pos) (gSub to ti t) := by
  intro pins s σ H v u Q I r h
  rw [ha]
  refine wpAny_bind (wpAny_holding (thn (ho pins s σ H _ I h) fun ov s1 ⟨x, H1, I1, r1, q1⟩ => ?_))
  refine wpAny_bind (wpAny_holding (thn (hi pins s1 σ H1 _ I1 q1) fun iv s2 ⟨y, H2, I2, r2, q2⟩ => ?_))
  refine wpAny_bind (wpAny_standAt (wpAny_bind (wpAny_holding (thn (hs pins s2 σ H2 x y v ov iv u _ I2 r1 r2 r q2) fun _ s3 ⟨H3, I3, q3⟩ => ?_))))
  exact wpAny_release ⟨σ, H3, I3, q3⟩
/-- target = value -/
def tAsg (te : TE) (g : TG) : TS := fun D σ H => te σ H fun x H1 => g x σ H1 D.nx
theorem ps_asg {tg e : Expr} {te : TE} {g : TG} (he : PE X e te) (hg : PG X tg g) (hs : swapsWithSole [tg] e pos.line X.env = pure false := by rfl) (hw : swappedStores [tg] e X.env = pure none := by rfl)
    (h1 : (assignEach [tg] X.env).map (·.2) = [assign tg X.env] := by rfl) : PS X (.Assign [tg] e pos) (tAsg te g) := by
  intro pins s σ H D I h
  refine wpAny_Assign_stores (thn (he pins s σ H _ I h) fun v s1 ⟨x, H1, I1, r1, q1⟩ => ?_) hs hw
  rw [h1]
  exact thn (hg pins s1 σ H1 x v _ I1 r1 q1) fun _ s2 q => q
/-- name = value -/
theorem ps_set {i : Nat} {x : Str} {e : Expr} {te : TE} {pos' : Pos} (hN : X.N.Nodup) (hi : X.N[i]? = some x) (hx : Loc X.env.scope x) (he : PE X e te) (hs : swapsWith e (some (.Name x pos')) pos.line X.env = pure false := by rfl) (hf : X.fn x = true ∨ X.env.scope.names.lookup x = some .local := by first | exact .inl rfl | exact .inr rfl | assumption) :
    PS X (.Assign [.Name x pos'] e pos) (tAsg te (gName i)) := by
  intro pins s σ H D I h
  refine wpAny_Assign_Name (thn (he pins s σ H _ I h) fun v s1 ⟨y, H1, I1, r1, q1⟩ => ?_) hs
  exact store_ok I1 hN hi hx r1 (fun s2 I2 => ⟨_, H1, I2, q1⟩) hf
/-- a, b = x, y with plain local names: stored from the right; the pair itself is not tracked (the opening rows as in PyProof/Rows/TupAssign.lean:23) -/
def tPar (i j : Nat) (ta : TA) : TS := fun D σ H => ta σ H fun vs H1 => ∃ v w, vs = [v, w] ∧ D.nx ((σ.set i (some v)).set j (some w)) H1
/-- name op= e -/
def tAug (i : Nat) (te : TE) (ti : TIp) : TS := fun D σ H => ∃ x, σ[i]? = some (some x) ∧ te σ H fun y H1 => ti x y H1 fun z H2 => D.nx (σ.set i (some z)) H2
/-- o[i] op= e -/
def tAugS (to ti te : TE) (tget : V → V → Hp → VK → Prop) (tip : TIp) (tset : TSet) : TS := fun D σ H => to σ H fun o H1 => ti σ H1 fun i H2 => tget o i H2 fun x H3 => te σ H3 fun y H4 => tip x y H4 fun z H5 => tset o i z H5 fun H6 => D.nx σ H6
/-- o[i], by values -/
def PGet (X : Cx) (t : V → V → Hp → VK → Prop) : Prop :=
  ∀ (pins : List (Addr × Obj)) (s : Shared) (σ : St) (H : Hp) (o i : V) (ov iv : Value) (Q : VK), Inv X pins σ H s → RelV o ov → RelV i iv → t o i H Q →
    wpAny (model X.prog X.w) X.A (getItem ov iv) (EP X pins σ Q) X.xe s
/-- ints -/
def ipI (f : Int → Int → Int) : TIp := fun x y H Q => ∃ i j, x = .int i ∧ y = .int j ∧ Q (.int (f i j)) H
end

/-! ### while -/
section
variable {X : Cx} {pos : Pos}
/-- the invariant W with its measure -/
def tWhile (c : TT) (tb : TS) : TS := fun D σ H => ∃ W : Nat → St → Hp → Prop, (∃ m, W m σ H) ∧ ∀ m σ H, W m σ H →
  c σ H fun b H1 => if b = true then ∃ N : St → Hp → Prop, (∀ σ' H', N σ' H' → ∃ m', m' < m ∧ W m' σ' H') ∧ tb { D with nx := N, ct := N, bk := D.nx } σ H1 else D.nx σ H1
end

/-! ### what a loop or a comprehension walks -/
/-- at turn i: it yields x (the heap may grow), or it stops -/
structure It where
  go : Nat → Hp → Prop
  yld : Nat → Hp → V → Hp → Prop
  stop : Nat → Hp → Prop
/-- the iterator's own objects may turn: they are not the frame's, not pinned, younger than the entry (or a comprehension's own) -/
def FpOk (X : Cx) (pins : List (Addr × Obj)) (H : Hp) (b : Addr) : Prop :=
  H b = none ∧ b ≠ X.env.locals ∧ b ∉ X.fs ∧ (b ∈ X.ex ∨ X.s₀.heap.objs.size ≤ b) ∧ (∀ x c, X.env.cells.lookup x = some c → c ≠ b) ∧ ∀ p ∈ X.pn ++ pins, p.1 ≠ b
theorem Inv.fpOk {X : Cx} {pins : List (Addr × Obj)} {σ : St} {H H' : Hp} {s : Shared} {b : Addr} (I : Inv X pins σ H s) (hb : s.heap.objs.size ≤ b) (hn : H' b = none) : FpOk X pins H' b := by
  refine ⟨hn, Nat.ne_of_gt (Nat.lt_of_lt_of_le I.lt hb), I.nofs hb, .inr (Nat.le_trans I.sz hb), fun x c e z => ?_, fun p hp z => ?_⟩
  · obtain ⟨v, q⟩ := I.cell x c e
    exact absurd (Nat.lt_of_lt_of_le q.lt (by rw [z]; exact hb)) (Nat.lt_irrefl _)
  · exact absurd (Nat.lt_of_lt_of_le (Heap.lt_size (I.pin p hp).1) (by rw [z]; exact hb)) (Nat.lt_irrefl _)
structure Turn (P : Program) (w : World) (K : PySem.W.Frag) (tg : Expr) (J : It) (fp : List Addr) (it : Addr) (tn : Nat → Heap → Prop) : Prop where
  mem : it ∈ fp
  obj : ∀ i h, tn i h → ∀ b ∈ fp, ∃ o, h.get? b = some o ∧ ∀ v, o.data ≠ .cell v
  keep : ∀ i h h', tn i h → (∀ b ∈ fp, ∀ o, h.get? b = some o → h'.get? b = some o) → tn i h'
  item : ∀ (X : Cx), X.prog = P → X.w = w → X.K = K → X.calm = true → ∀ (i : Nat) (pins : List (Addr × Obj)) (s : Shared) (σ : St) (H : Hp) (E : Value → Shared → Prop), Inv X pins σ H s → (∀ b ∈ fp, FpOk X pins H b) → tn i s.heap → J.go i H →
    wpAny (model P w) X.A (pyNext (.ref it)) (fun r s1 => ∃ u, r = some u ∧
      wpAny (model P w) X.A (letOwnedTupleGo tg (.ref it) u) (fun _ s2 => ∃ x H', Inv X pins σ H' s2 ∧ RelV x u ∧ J.yld i H x H' ∧ tn (i + 1) s2.heap ∧ ∀ b ∈ fp, H' b = none) E s1) E s
  done : ∀ (X : Cx), X.prog = P → X.w = w → X.K = K → X.calm = true → ∀ (i : Nat) (pins : List (Addr × Obj)) (s : Shared) (σ : St) (H : Hp) (E : Value → Shared → Prop), Inv X pins σ H s → (∀ b ∈ fp, FpOk X pins H b) → tn i s.heap → J.stop i H →
    wpAny (model P w) X.A (pyNext (.ref it)) (fun r s1 => r = none ∧ Inv X pins σ H s1) E s
  self : ∀ (A : Around) (i : Nat) (s : Shared) (Q : Value → Shared → Prop) (E : Value → Shared → Prop), tn i s.heap → Q (.ref it) s → wpAny (model P w) A (pyIter (.ref it)) Q E s
abbrev TI := St → Hp → (It → Hp → Prop) → Prop
/-- an iterator has come -/
def PIE (X : Cx) (pins : List (Addr × Obj)) (σ : St) (tg : Expr) (R : It → Hp → Prop) (itv : Value) (s2 : Shared) : Prop :=
  ∃ (it : Addr) (fp : List Addr) (tn : Nat → Heap → Prop) (J : It) (H' : Hp), itv = .ref it ∧ Inv X pins σ H' s2 ∧ Turn X.prog X.w X.K tg J fp it tn ∧ tn 0 s2.heap ∧ (∀ b ∈ fp, FpOk X pins H' b) ∧ R J H'
def PI (X : Cx) (tg iter : Expr) (wi : TI) : Prop :=
  ∀ (pins : List (Addr × Obj)) (s : Shared) (σ : St) (H : Hp) (R : It → Hp → Prop), Inv X pins σ H s → wi σ H R →
    wpAny (model X.prog X.w) X.A (eval iter X.env) (fun v s1 => wpAny (model X.prog X.w) X.A (pyIter v) (PIE X pins σ tg R) X.xe s1) X.xe s

/-- the step ahead of the store is nothing for an iterator that keeps no tuple -/
theorem go_of {M : Model} {A : Around} {E : Value → Shared → Prop} {s : Shared} {tg : Expr} {it : Addr} {u : Value} {o : Obj} {n : String} {vs : Array Value} {Q : Unit → Shared → Prop} (ho : s.heap.get? it = some o) (hc : o.cls = .type n) (hd : o.data = .fields vs)
    (hn : ["enumerate", "zip", "dict_itemiterator", "dict_reverseitemiterator", "odict_iterator", "itertools.zip_longest", "itertools.pairwise"].contains n = false) (hQ : Q () s) : wpAny M A (letOwnedTupleGo tg (.ref it) u) Q E s := by
  unfold letOwnedTupleGo
  cases tg <;> first
    | exact wpAny_pure hQ
    | (cases u <;> first
        | exact wpAny_pure hQ
        | (refine wpAny_bind (wpAny_load ho ?_)
           rw [hc, hd]
           show wpAny M A (if (["enumerate", "zip", "dict_itemiterator", "dict_reverseitemiterator", "odict_iterator", "itertools.zip_longest", "itertools.pairwise"].contains n && vs[0]? == some (rawInt _)) = true then _ else _) Q E s
           rw [if_neg (by intro h; rw [hn, Bool.false_and] at h; cases h)]
           exact wpAny_pure hQ))

/-- the list at a, as it stands at each turn (a loop may append to it) -/
def Itl (K : PySem.W.Frag) (a : Addr) : It :=
  ⟨fun i H => ∃ xs x, SqL K H a xs ∧ xs[i]? = some x, fun i H x H' => H' = H ∧ ∀ xs, SqL K H a xs → xs[i]? = some x, fun i H => ∃ xs, SqL K H a xs ∧ xs.length ≤ i⟩
def Itt (K : PySem.W.Frag) (a : Addr) : It :=
  ⟨fun i H => ∃ xs x, SqT K H a xs ∧ xs[i]? = some x, fun i H x H' => H' = H ∧ ∀ xs, SqT K H a xs → xs[i]? = some x, fun i H => ∃ xs, SqT K H a xs ∧ xs.length ≤ i⟩
/-- lo, lo + 1, .. (n of them) -/
def Itr (lo : Int) (n : Nat) : It := ⟨fun i _ => i < n, fun i H x H' => H' = H ∧ x = .int (lo + i), fun i _ => n ≤ i⟩
theorem turn_list {P : Program} {w : World} {K : PySem.W.Frag} {tg : Expr} (a it : Addr) : Turn P w K tg (Itl K a) [it] it (fun i h => h.IsListIter it a i) where
  mem := by simp
  obj := fun i h st b hb => by
    have e : b = it := by simpa using hb
    subst e
    obtain ⟨o, e, c, d⟩ := st
    exact ⟨o, e, fun v z => by rw [d] at z; cases z⟩
  keep := fun i h h' st k => st.at fun o e => k it (by simp) o e
  item := by
    intro X hP hw hK hc i pins s σ H E I hf st hg
    subst hP hw hK
    obtain ⟨xs, x, hq, hx⟩ := hg
    obtain ⟨its, rv, p, hz⟩ := I.list hq
    obtain ⟨u, hu, ru⟩ := rv.get hx
    obtain ⟨f0, f1, f2, f3, f4, f5⟩ := hf it (by simp)
    refine wpAny_pyNext_list_item st p.isList (x := u) (by simpa using hu) fun h' st' sb => ?_
    have I1 : Inv X pins σ H { s with heap := h' } := I.turned (t' := s.toks) (fun b o hb e => (sb.2 b hb).trans e) f0 f1 f3 f4 f5
    obtain ⟨o, e, c, d⟩ := id st'
    exact ⟨u, rfl, go_of (s := { s with heap := h' }) e c d (by decide) ⟨x, H, I1, ru, ⟨rfl, fun ys hy => by rw [I.list_inj hy hq]; exact hx⟩, st', fun b hb => (hf b hb).1⟩⟩
  done := by
    intro X hP hw hK hc i pins s σ H E I hf st hg
    subst hP hw hK
    obtain ⟨xs, hq, hx⟩ := hg
    obtain ⟨its, rv, p, hz⟩ := I.list hq
    obtain ⟨f0, f1, f2, f3, f4, f5⟩ := hf it (by simp)
    have hl := rv.length
    exact wpAny_pyNext_list_end (I.ok.hd hc) st p.isList (by simp; omega) fun h' eb => ⟨rfl, I.turned (t' := s.toks) (fun b o hb e => eb b o hb e) f0 f1 f3 f4 f5⟩
  self := fun _ _ _ _ _ st h => wpAny_pyIter_listiter st h
theorem turn_tuple {P : Program} {w : World} {K : PySem.W.Frag} {tg : Expr} (a it : Addr) : Turn P w K tg (Itt K a) [it] it (fun i h => h.IsTupleIter it a i) where
  mem := by simp
  obj := fun i h st b hb => by
    have e : b = it := by simpa using hb
    subst e
    obtain ⟨o, e, c, d⟩ := st
    exact ⟨o, e, fun v z => by rw [d] at z; cases z⟩
  keep := fun i h h' st k => st.at fun o e => k it (by simp) o e
  item := by
    intro X hP hw hK hc i pins s σ H E I hf st hg
    subst hP hw hK
    obtain ⟨xs, x, hq, hx⟩ := hg
    obtain ⟨its, rv, p, hz⟩ := I.tuple hq
    obtain ⟨u, hu, ru⟩ := rv.get hx
    obtain ⟨f0, f1, f2, f3, f4, f5⟩ := hf it (by simp)
    refine wpAny_pyNext_tuple_item st (show s.heap.IsTuple a its.toArray from p) (x := u) (by simpa using hu) fun h' st' sb => ?_
    have I1 : Inv X pins σ H { s with heap := h' } := I.turned (t' := s.toks) (fun b o hb e => (sb.2 b hb).trans e) f0 f1 f3 f4 f5
    obtain ⟨o, e, c, d⟩ := id st'
    exact ⟨u, rfl, go_of (s := { s with heap := h' }) e c d (by decide) ⟨x, H, I1, ru, ⟨rfl, fun ys hy => by rw [I.tuple_inj hy hq]; exact hx⟩, st', fun b hb => (hf b hb).1⟩⟩
  done := by
    intro X hP hw hK hc i pins s σ H E I hf st hg
    subst hP hw hK
    obtain ⟨xs, hq, hx⟩ := hg
    obtain ⟨its, rv, p, hz⟩ := I.tuple hq
    obtain ⟨f0, f1, f2, f3, f4, f5⟩ := hf it (by simp)
    have hl := rv.length
    exact wpAny_pyNext_tuple_end (I.ok.hd hc) st (show s.heap.IsTuple a its.toArray from p) (by simp; omega) fun h' eb => ⟨rfl, I.turned (t' := s.toks) (fun b o hb e => eb b o hb e) f0 f1 f3 f4 f5⟩
  self := fun _ _ _ _ _ st h => wpAny_pyIter_tupleiter st h
theorem turn_range {P : Program} {w : World} {K : PySem.W.Frag} {tg : Expr} (it : Addr) (lo : Int) (n : Nat) : Turn P w K tg (Itr lo n) [it] it (fun i h => IsRangeIter h it (lo + (i : Nat) * 1) ((n : Int) - (i : Nat)) 1) where
  mem := by simp
  obj := fun i h st b hb => by
    have e : b = it := by simpa using hb
    subst e
    exact ⟨_, st, fun v z => by
      have z' : Data.fields _ = Data.cell v := z
      cases z'⟩
  keep := fun i h h' st k => k it (by simp) _ st
  item := by
    intro X hP hw hK hc i pins s σ H E I hf st hg
    subst hP hw hK
    obtain ⟨f0, f1, f2, f3, f4, f5⟩ := hf it (by simp)
    have W := Walks.range (prog := X.prog) (w := X.w) (I.ok.hd hc) it lo 1 n
    refine W.item i s _ _ hg st fun v h' tk hv st' kk => ?_
    obtain ⟨t, rfl⟩ := hv
    have I1 : Inv X pins σ H { s with heap := h', toks := tk } := I.turned (fun b o hb e => kk b o (by simpa using hb) e) f0 f1 f3 f4 f5
    refine ⟨_, rfl, go_of (s := { s with heap := h', toks := tk }) (n := "range_iterator") st' rfl rfl (by decide) ⟨.int (lo + i), H, I1, ⟨t, ?_⟩, ⟨rfl, rfl⟩, st', fun b hb => (hf b hb).1⟩⟩
    rw [Int.mul_one]
  done := by
    intro X hP hw hK hc i pins s σ H E I hf st hg
    subst hP hw hK
    obtain ⟨f0, f1, f2, f3, f4, f5⟩ := hf it (by simp)
    exact wpAny_pyNext_range_end (I.ok.hd hc) st (by have : n ≤ i := hg; omega) fun h' eb => ⟨rfl, I.turned (t' := s.toks) (fun b o hb e => eb b o hb e) f0 f1 f3 f4 f5⟩
  self := fun _ _ _ _ _ st h => wpAny_pyIter_rangeiter st h
end L2

namespace L2
open PySem PySem.Spec PyProof.Rows
section
variable {X : Cx} {tg : Expr}
def iList (K : PySem.W.Frag) (tl : TE) : TI := fun σ H R => tl σ H fun x H1 => ∃ a, x = .ref a ∧ (∃ xs, SqL K H1 a xs) ∧ R (Itl K a) H1
def iTup (K : PySem.W.Frag) (tl : TE) : TI := fun σ H R => tl σ H fun x H1 => ∃ a, x = .ref a ∧ (∃ xs, SqT K H1 a xs) ∧ R (Itt K a) H1
/-- a range object just made, walked -/
theorem range_it {pins : List (Addr × Obj)} {σ : St} {H : Hp} {s : Shared} {R : It → Hp → Prop} {E : Value → Shared → Prop} {lo hi : Int} {t u v : Tok} {tk : Nat} (I : Inv X pins σ H s) (h1 : -(2 ^ 62) ≤ lo) (h2 : lo < 2 ^ 62) (h3 : -(2 ^ 62) ≤ hi) (h4 : hi < 2 ^ 62)
    (q : R (Itr lo (hi - lo).toNat) H) : wpAny (model X.prog X.w) X.A (pyIter (.ref s.heap.objs.size)) (PIE X pins σ tg R) E { s with heap := s.heap.push { cls := .type "range", data := .fields #[.int lo t, .int hi u, .int 1 v] }, toks := tk } := by
  refine wpAny_pyIter_range (IsRange.new ..) (small_one h1 h2 h3 h4) ?_
  have I1 : Inv X pins σ H { s with heap := s.heap.push { cls := .type "range", data := .fields #[.int lo t, .int hi u, .int 1 v] }, toks := tk } := I.kept fun b o e => Heap.get?_push_of_some _ e
  refine ⟨(s.heap.push { cls := .type "range", data := .fields #[.int lo t, .int hi u, .int 1 v] }).objs.size, [(s.heap.push { cls := .type "range", data := .fields #[.int lo t, .int hi u, .int 1 v] }).objs.size], _, _, H, rfl,
    I1.kept (t' := tk) fun b o e => Heap.get?_push_of_some _ e, turn_range _ lo (hi - lo).toNat, ?_, fun b hb => ?_, q⟩
  · have e1 : lo + ((0 : Nat) : Int) * 1 = lo := by simp
    have e2 : (((hi - lo).toNat : Nat) : Int) - ((0 : Nat) : Int) = Builtin.Range.rangeSize lo hi 1 := by rw [rangeSize_one]; split <;> omega
    show IsRangeIter _ _ (lo + ((0 : Nat) : Int) * 1) ((((hi - lo).toNat : Nat) : Int) - ((0 : Nat) : Int)) 1
    rw [e1, e2]
    exact Heap.get?_push_size _ rfl
  · have e : b = (s.heap.push { cls := .type "range", data := .fields #[.int lo t, .int hi u, .int 1 v] }).objs.size := by simpa using hb
    subst e
    exact I1.fpOk (Nat.le_refl _) (I1.hok.fresh (Nat.le_refl _))
def iRng1 (ta : TA) : TI := fun σ H R => ta σ H fun vs H1 => ∃ j : Int, vs = [.int j] ∧ -(2 ^ 62) ≤ j ∧ j < 2 ^ 62 ∧ R (Itr 0 j.toNat) H1
def iRng2 (ta : TA) : TI := fun σ H R => ta σ H fun vs H1 => ∃ i j : Int, vs = [.int i, .int j] ∧ (-(2 ^ 62) ≤ i ∧ i < 2 ^ 62 ∧ -(2 ^ 62) ≤ j ∧ j < 2 ^ 62) ∧ R (Itr i (j - i).toNat) H1
theorem pi_range1 {a : Expr} {ta : TA} {p pos : Pos} (hg : Gl X "range") (hm : X.mg "range" = none) (ha : PA X [a] ta) (hs : starEach [a] X.env = [(false, eval a X.env)] := by rfl) : PI X tg (.Call (.Name "range" p) [a] [] pos) (iRng1 ta) := by
  intro pins s σ H R I h
  refine Call_ (ld_blt I hg hm boot_range (PyProof.Rows.callWith_type1 (thn (ha pos pins s σ H _ I h) fun us s1 ⟨vs, H1, I1, r1, q1⟩ => ?_) hs rfl))
  obtain ⟨j, e, q1, q2, q⟩ := q1
  subst e
  cases r1 with
  | cons r rr =>
    cases rr
    obtain ⟨t, rfl⟩ := r
    exact call_range_1 (range_it I1 (by omega) (by omega) q1 q2 (by simpa using q))
/-! ### for -/
/-- W: the invariant by the turn and a measure; N: what the body is to reach -/
def tFor (wi : TI) (g : TG) (tb : TS) : TS := fun D σ H => wi σ H fun J H1 => ∃ W : Nat → Nat → St → Hp → Prop, (∃ m, W 0 m σ H1) ∧ ∀ i m σ H, W i m σ H →
  (J.stop i H ∧ D.nx σ H) ∨ (J.go i H ∧ ∃ N : St → Hp → Prop, (∀ σ' H', N σ' H' → ∃ m', m' < m ∧ W (i + 1) m' σ' H') ∧ ∀ x H', J.yld i H x H' → g x σ H' fun σ2 H2 => tb { D with nx := N, ct := N, bk := D.nx } σ2 H2)
/-- the records at fp as they stand -/
def pinsAt (fp : List Addr) (h : Heap) : List (Addr × Obj) := fp.filterMap fun b => (h.get? b).map fun o => (b, o)
theorem mem_pinsAt {fp : List Addr} {h : Heap} {b : Addr} {o : Obj} (hb : b ∈ fp) (e : h.get? b = some o) : (b, o) ∈ pinsAt fp h := List.mem_filterMap.mpr ⟨b, hb, by rw [e]; rfl⟩
theorem of_pinsAt {fp : List Addr} {h : Heap} {p : Addr × Obj} (hp : p ∈ pinsAt fp h) : p.1 ∈ fp ∧ h.get? p.1 = some p.2 := by
  obtain ⟨b, hb, e⟩ := List.mem_filterMap.mp hp
  cases q : h.get? b with
  | none => rw [q] at e; cases e
  | some o =>
    rw [q] at e
    have e' : (b, o) = p := Option.some.inj e
    subst e'
    exact ⟨hb, q⟩
theorem Inv.pinned {pins : List (Addr × Obj)} {σ : St} {H : Hp} {s : Shared} {fp : List Addr} (I : Inv X pins σ H s) (hf : ∀ b ∈ fp, FpOk X pins H b) (ho : ∀ b ∈ fp, ∃ o, s.heap.get? b = some o ∧ ∀ v, o.data ≠ .cell v) : Inv X (pins ++ pinsAt fp s.heap) σ H s :=
  I.pins_of fun p hp => (List.mem_append.mp hp).elim (fun z => I.pin p (List.mem_append_right _ z)) fun z => by
    obtain ⟨hb, e⟩ := of_pinsAt z
    obtain ⟨f0, f1, f2, _⟩ := hf p.1 hb
    obtain ⟨o, e', d⟩ := ho p.1 hb
    rw [e] at e'; cases e'
    exact ⟨e, f0, f1, f2, d⟩
theorem Inv.unpinned {pins pl : List (Addr × Obj)} {σ : St} {H : Hp} {s : Shared} (I : Inv X (pins ++ pl) σ H s) : Inv X pins σ H s := I.pins_of fun p hp => I.pin p (List.mem_append_right _ (List.mem_append_left _ hp))
theorem ps_for {iter : Expr} {body : List Stmt} {wi : TI} {g : TG} {tb : TS} {pos : Pos} (hp : PassesOwn (model X.prog X.w) X.A X.env X.xe) (hc : X.calm = true) (hi : PI X tg iter wi) (hg : PG X tg g) (hb : PSs X body tb)
    (hs : ∀ x, foldedSetIterable iter X.env x = pure x := by intro _; rfl) : PS X (.For tg iter body [] pos) (tFor wi g tb) := by
  intro pins s σ H D I h
  refine wpAny_For (thn (hi pins s σ H _ I h) fun v s1 h1 => thn h1 fun itv s2 h2 => ?_) hs
  obtain ⟨it, fp, tn, J, H2, e, I2, T, st2, f2, W, ⟨m0, w0⟩, turn⟩ := h2
  subst e
  -- what stays true of the iterator's objects through the loop
  have stat : ∀ {H' : Hp}, (∀ b ∈ fp, H' b = none) → ∀ b ∈ fp, FpOk X pins H' b := fun hn b hb => ⟨hn b hb, (f2 b hb).2⟩
  refine codeAny_forLoop_any (fun n s' => ∃ i σ' H', Inv X pins σ' H' s' ∧ tn i s'.heap ∧ (∀ b ∈ fp, H' b = none) ∧ W i n σ' H') ?_ m0 ⟨0, σ, H2, I2, st2, fun b hb => (f2 b hb).1, w0⟩
  rintro n s3 ⟨i, σ3, H3, I3, st3, fr3, w3⟩
  rcases turn i n σ3 H3 w3 with ⟨stop, qn⟩ | ⟨go, N, hN, step⟩
  · refine wpAny_passesOwn hp (thn (T.done X rfl rfl rfl hc i pins s3 σ3 H3 X.xe I3 (stat fr3) st3 stop) fun r s4 ⟨hr, I4⟩ => ?_)
    subst hr
    exact wpAny_execs_nil ⟨σ3, H3, I4, qn⟩
  · refine wpAny_passesOwn hp (thn (T.item X rfl rfl rfl hc i pins s3 σ3 H3 X.xe I3 (stat fr3) st3 go) fun r s4 ⟨u, hr, h4⟩ => ?_)
    subst hr
    refine wpAny_passesOwn hp (thn h4 fun _ s5 ⟨x, H5, I5, r5, y5, st5, fr5⟩ => ?_)
    have I5' := I5.pinned (stat fr5) (T.obj _ _ st5)
    refine wpAny_passesOwn hp (thn (hg _ s5 σ3 H5 x u _ I5' r5 (step x H5 y5)) fun _ s6 ⟨σ6, H6, I6, q6⟩ => ?_)
    refine wpAny_passesOwn hp (thn (hb _ s6 σ6 H6 _ I6 q6) fun f s7 q7 => ?_)
    have again : ∀ {σ7 : St} {H7 : Hp}, Inv X (pins ++ pinsAt fp s5.heap) σ7 H7 s7 → N σ7 H7 → ∃ m, m < n ∧ ∃ i σ' H', Inv X pins σ' H' s7 ∧ tn i s7.heap ∧ (∀ b ∈ fp, H' b = none) ∧ W i m σ' H' := fun {σ7 H7} I7 n7 => by
      obtain ⟨m', hm, w7⟩ := hN σ7 H7 n7
      refine ⟨m', hm, i + 1, σ7, H7, I7.unpinned, T.keep _ _ _ st5 fun b hb o e => (I7.pin (b, o) (List.mem_append_right _ (List.mem_append_right _ (mem_pinsAt hb e)))).1, fun b hb => ?_, w7⟩
      obtain ⟨o, e, d⟩ := T.obj _ _ st5 b hb
      exact (I7.pin (b, o) (List.mem_append_right _ (List.mem_append_right _ (mem_pinsAt hb e)))).2.1
    cases f with
    | next => obtain ⟨σ7, H7, I7, n7⟩ := q7; exact again I7 n7
    | cont => obtain ⟨σ7, H7, I7, n7⟩ := q7; exact again I7 n7
    | brk => obtain ⟨σ7, H7, I7, q7⟩ := q7; exact ⟨σ7, H7, I7.unpinned, q7⟩
    | ret v => obtain ⟨x7, σ7, H7, I7, r7, q7⟩ := q7; exact ⟨x7, σ7, H7, I7.unpinned, r7, q7⟩
end

/-! ### the forms one uses -/
end L2

namespace L2
open PySem PySem.Spec PyProof.Rows

abbrev R2 := V → V → Hp → VK → Prop
/-- a two-place operation on values: f is binaryOp op, inplaceOp op or compareOp op -/
def OpR (X : Cx) (f : Value → Value → Sem Value) (r : R2) : Prop :=
  ∀ (pins : List (Addr × Obj)) (s : Shared) (σ : St) (H : Hp) (x y : V) (v u : Value) (Q : VK), Inv X pins σ H s → RelV x v → RelV y u → r x y H Q →
    wpAny (model X.prog X.w) X.A (f v u) (EP X pins σ Q) X.xe s
/-- a one-place operation -/
def UnR (X : Cx) (f : Value → Sem Value) (r : V → Hp → VK → Prop) : Prop :=
  ∀ (pins : List (Addr × Obj)) (s : Shared) (σ : St) (H : Hp) (x : V) (v : Value) (Q : VK), Inv X pins σ H s → RelV x v → r x H Q →
    wpAny (model X.prog X.w) X.A (f v) (EP X pins σ Q) X.xe s
/-- a call of a value that is known (a builtin, a type) with values -/
def CallR (X : Cx) (f : Value) (r : List V → Hp → VK → Prop) : Prop :=
  ∀ (pins : List (Addr × Obj)) (s : Shared) (σ : St) (H : Hp) (xs : List V) (us : List Value) (Q : VK), Inv X pins σ H s → Vals xs us → r xs H Q →
    wpAny (model X.prog X.w) X.A (call f us) (EP X pins σ Q) X.xe s
/-- a value's truth -/
def TruR (X : Cx) (r : V → Hp → (Bool → Hp → Prop) → Prop) : Prop :=
  ∀ (pins : List (Addr × Obj)) (s : Shared) (σ : St) (H : Hp) (x : V) (v : Value) (Q : Bool → Hp → Prop), Inv X pins σ H s → RelV x v → r x H Q →
    wpAny (model X.prog X.w) X.A (truthy v) (TP X pins σ Q) X.xe s

def tOp (r : R2) (ta tb : TE) : TE := fun σ H Q => ta σ H fun x H1 => tb σ H1 fun y H2 => r x y H2 Q
def tUn (r : V → Hp → VK → Prop) (ta : TE) : TE := fun σ H Q => ta σ H fun x H1 => r x H1 Q
/-- ints in, under C, and a value out -/
def rI (C : Int → Int → Prop) (g : Int → Int → V) : R2 := fun x y H Q => ∃ i j, x = .int i ∧ y = .int j ∧ C i j ∧ Q (g i j) H
def rI0 (g : Int → Int → V) : R2 := fun x y H Q => ∃ i j, x = .int i ∧ y = .int j ∧ Q (g i j) H
def rU (g : Int → V) : V → Hp → VK → Prop := fun x H Q => ∃ i, x = .int i ∧ Q (g i) H

section
variable {X : Cx} {a b c : Expr} {ta tb tc : TE} {pos : Pos}

theorem binT (ha : PE X a ta) (hb : PE X b tb) {pins : List (Addr × Obj)} {s : Shared} {σ : St} {H : Hp} {R : V → V → Hp → Prop} (I : Inv X pins σ H s)
    (h : ta σ H fun x H1 => tb σ H1 fun y H2 => R x y H2) {Q : Value → Shared → Prop} {f : Value → Value → Sem Value}
    (hf : ∀ v u s2 x y H2, Inv X pins σ H2 s2 → RelV x v → RelV y u → R x y H2 → wpAny (model X.prog X.w) X.A (f v u) Q X.xe s2) :
    wpAny (model X.prog X.w) X.A (eval a X.env) (fun v s₁ => wpAny (model X.prog X.w) X.A (eval b X.env) (fun u s₂ => wpAny (model X.prog X.w) X.A (f v u) Q X.xe s₂) X.xe s₁) X.xe s := by
  refine thn (ha pins s σ H _ I h) fun v s1 ⟨x, H1, I1, r1, q1⟩ => ?_
  refine thn (hb pins s1 σ H1 _ I1 q1) fun u s2 ⟨y, H2, I2, r2, q2⟩ => ?_
  exact hf v u s2 x y H2 I2 r1 r2 q2

theorem pe_op {op : Operator} {r : R2} (ho : OpR X (binaryOp op) r) (ha : PE X a ta) (hb : PE X b tb) : PE X (.BinOp a op b pos) (tOp r ta tb) := by
  intro pins s σ H Q I h
  exact wpAny_BinOp (binT ha hb I h fun v u s2 x y H2 I2 rx ry q => ho pins s2 σ H2 x y v u Q I2 rx ry q)
theorem pe_un {op : UnaryOp} {r : V → Hp → VK → Prop} (ho : UnR X (unaryOp op) r) (ha : PE X a ta) : PE X (.UnaryOp op a pos) (tUn r ta) := by
  intro pins s σ H Q I h
  exact UnaryOp_ (thn (ha pins s σ H _ I h) fun v s1 ⟨x, H1, I1, r1, q1⟩ => ho pins s1 σ H1 x v Q I1 r1 q1)
/-! ### ints -/
theorem opI {f : Value → Value → Sem Value} {C : Int → Int → Prop} {g : Int → Int → Int}
    (rule : ∀ (i j : Int) (t u : Tok) (s : Shared) (Q : Value → Shared → Prop) (E : Value → Shared → Prop), C i j → Q (.int (g i j) s.toks) { s with toks := s.toks + 1 } → wpAny (model X.prog X.w) X.A (f (.int i t) (.int j u)) Q E s) :
    OpR X f (rI C fun i j => .int (g i j)) := by
  intro pins s σ H x y v u Q I rx ry h
  obtain ⟨i, j, rfl, rfl, hc, q⟩ := h
  obtain ⟨t, rfl⟩ := rx
  obtain ⟨t', rfl⟩ := ry
  exact rule i j t t' s _ _ hc ⟨.int (g i j), H, I.tok _, ⟨_, rfl⟩, q⟩
theorem opI0 {f : Value → Value → Sem Value} {g : Int → Int → Int}
    (rule : ∀ (i j : Int) (t u : Tok) (s : Shared) (Q : Value → Shared → Prop) (E : Value → Shared → Prop), Q (.int (g i j) s.toks) { s with toks := s.toks + 1 } → wpAny (model X.prog X.w) X.A (f (.int i t) (.int j u)) Q E s) :
    OpR X f (rI0 fun i j => .int (g i j)) := by
  intro pins s σ H x y v u Q I rx ry h
  obtain ⟨i, j, rfl, rfl, q⟩ := h
  obtain ⟨t, rfl⟩ := rx
  obtain ⟨t', rfl⟩ := ry
  exact rule i j t t' s _ _ ⟨.int (g i j), H, I.tok _, ⟨_, rfl⟩, q⟩
theorem opB0 {f : Value → Value → Sem Value} {g : Int → Int → Bool}
    (rule : ∀ (i j : Int) (t u : Tok) (s : Shared) (Q : Value → Shared → Prop) (E : Value → Shared → Prop), Q (.bool (g i j)) s → wpAny (model X.prog X.w) X.A (f (.int i t) (.int j u)) Q E s) :
    OpR X f (rI0 fun i j => .bl (g i j)) := by
  intro pins s σ H x y v u Q I rx ry h
  obtain ⟨i, j, rfl, rfl, q⟩ := h
  obtain ⟨t, rfl⟩ := rx
  obtain ⟨t', rfl⟩ := ry
  exact rule i j t t' s _ _ ⟨.bl (g i j), H, I, rfl, q⟩

def CDiv (i j : Int) : Prop := 0 < j ∧ j < 1073741824
def CDivN (i j : Int) : Prop := j ≠ 0 ∧ j.natAbs < 1073741824
def CPow (i j : Int) : Prop := 0 ≤ j ∧ j ≤ 1000000 ∧ i.natAbs < 2 ^ 64
def CMul (i j : Int) : Prop := (-(2 ^ 64) < i ∧ i < 2 ^ 64) ∨ (-(2 ^ 64) < j ∧ j < 2 ^ 64)
theorem CMul.ok {i j : Int} (h : CMul i j) : IntMulOk i j := by
  rcases h with ⟨h1, h2⟩ | ⟨h1, h2⟩
  · exact .of_left (intBits_le_64 h1 h2)
  · exact .of_right (intBits_le_64 h1 h2)
theorem op_add : OpR X (binaryOp .Add) (rI0 fun i j => .int (i + j)) := opI0 fun _ _ _ _ _ _ _ q => add_int q
theorem op_sub : OpR X (binaryOp .Sub) (rI0 fun i j => .int (i - j)) := opI0 fun _ _ _ _ _ _ _ q => sub_int q
theorem op_mul : OpR X (binaryOp .Mult) (rI CMul fun i j => .int (i * j)) := opI fun _ _ _ _ _ _ _ hc q => mul_int q hc.ok
/-- % by a positive divisor of any size -/
theorem op_mod : OpR X (binaryOp .Mod) (rI (fun _ j => 0 < j) fun i j => .int (i % j)) := opI fun i j _ _ _ _ _ hc q => by
  have h1 : (0 : Int) < j := hc
  exact mod_int' (by omega) (by rw [Int.fmod_eq_emod_of_nonneg i (by omega)]; exact q)
theorem op_pow : OpR X (binaryOp .Pow) (rI CPow fun i j => .int (i ^ j.toNat)) := opI fun _ _ _ _ _ _ _ hc q => pow_int_small hc.1 hc.2.1 hc.2.2 q
theorem unI {f : Value → Sem Value} {g : Int → Int}
    (rule : ∀ (i : Int) (t : Tok) (s : Shared) (Q : Value → Shared → Prop) (E : Value → Shared → Prop), Q (.int (g i) s.toks) { s with toks := s.toks + 1 } → wpAny (model X.prog X.w) X.A (f (.int i t)) Q E s) :
    UnR X f (rU fun i => .int (g i)) := by
  intro pins s σ H x v Q I rx h
  obtain ⟨i, rfl, q⟩ := h
  obtain ⟨t, rfl⟩ := rx
  exact rule i t s _ _ ⟨.int (g i), H, I.tok _, ⟨_, rfl⟩, q⟩
theorem un_neg : UnR X (unaryOp .USub) (rU fun i => .int (-i)) := unI fun _ _ _ _ _ q => neg_int q
/-! ### bools among ints: n += (a < b) -/
end

/-! ### comparisons -/
/-- the scalars that == tells apart as data does -/
def scal : V → V → Bool
  | .non, .non => true | .non, .int _ => true | .int _, .non => true | .non, .bl _ => true | .bl _, .non => true | .non, .str _ => true | .str _, .non => true
  | .int _, .int _ => true | .bl _, .bl _ => true | .str _, .str _ => true | .byt _, .byt _ => true
  | .int _, .str _ => true | .str _, .int _ => true | .bl _, .str _ => true | .str _, .bl _ => true
  | _, _ => false
def rEq : R2 := fun x y H Q => scal x y = true ∧ Q (.bl (decide (x = y))) H
def rNe : R2 := fun x y H Q => scal x y = true ∧ Q (.bl (!decide (x = y))) H

section
variable {X : Cx} {a b c : Expr} {ta tb tc : TE} {pos : Pos}
theorem fin_bl {pins : List (Addr × Obj)} {σ : St} {H : Hp} {s : Shared} {Q : VK} {k k' : Bool} (I : Inv X pins σ H s) (q : Q (.bl k) H) (e : k = k') : EP X pins σ Q (.bool k') s := by
  subst e
  exact ⟨.bl k, H, I, rfl, q⟩
theorem op_lt : OpR X (compareOp .Lt) (rI0 fun i j => .bl (decide (i < j))) := opB0 fun _ _ _ _ _ _ _ q => lt_int q
theorem op_le : OpR X (compareOp .LtE) (rI0 fun i j => .bl (decide (i ≤ j))) := opB0 fun _ _ _ _ _ _ _ q => le_int q
theorem op_gt : OpR X (compareOp .Gt) (rI0 fun i j => .bl (decide (j < i))) := opB0 fun _ _ _ _ _ _ _ q => gt_int q
theorem op_ge : OpR X (compareOp .GtE) (rI0 fun i j => .bl (decide (j ≤ i))) := opB0 fun _ _ _ _ _ _ _ q => ge_int q
/-- the one string within the other -/
theorem op_in_str : OpR X (compareOp .In) (fun x y H Q => ∃ i j, x = .str i ∧ y = .str j ∧ Q (.bl (!(Builtin.Str.occurrences j i 0 j.length 1).isEmpty)) H) := by
  intro pins s σ H x y v u Q I rx ry h
  obtain ⟨i, j, rfl, rfl, q⟩ := h
  obtain ⟨t, rfl⟩ := rx
  obtain ⟨t', rfl⟩ := ry
  exact in_str (fin_bl I q rfl)

/-- is, is not of two objects that are tracked lists or instances -/
def isObj : HO → Bool
  | .lst _ => true
  | .ins _ _ _ => true
  | _ => false
theorem obj_there {pins : List (Addr × Obj)} {s : Shared} {σ : St} {H : Hp} {a : Addr} {o : HO} (I : Inv X pins σ H s) (h : H a = some o) (p : isObj o = true) : ∃ ob, s.heap.get? a = some ob ∧ ob.cls ≠ .type "tuple" := by
  cases o with
  | lst xs =>
    obtain ⟨_, its, n, _, e⟩ : xs.length ≤ sizeLine ∧ ∃ (its : List Value) (n : Nat), Vals xs its ∧ s.heap.get? a = some { cls := .type "list", data := .seq its.toArray n } := I.hok a _ h
    exact ⟨_, e, (by show Value.type "list" ≠ .type "tuple"; decide +kernel)⟩
  | ins C dx fs =>
    have x := I.hok a _ h
    obtain ⟨_, _, _, e, _⟩ := x
    exact ⟨_, e, (by show Value.ref C ≠ .type "tuple"; exact fun z => by cases z)⟩
  | _ => exact absurd (show false = true from p) Bool.false_ne_true
/-- two rules for one operation: by cases -/
theorem OpR.or {f : Value → Value → Sem Value} {r r' : R2} (h : OpR X f r) (h' : OpR X f r') : OpR X f (fun x y H Q => r x y H Q ∨ r' x y H Q) := by
  intro pins s σ H x y v u Q I rx ry q
  rcases q with q | q
  · exact h pins s σ H x y v u Q I rx ry q
  · exact h' pins s σ H x y v u Q I rx ry q

theorem nomark (b : Expr) {op : CmpOp} (h : op ≠ .In := by decide) (h2 : op ≠ .NotIn := by decide) : behindInMarks op b = false := by
  have e1 : (op == CmpOp.In) = false := by cases op <;> first | rfl | exact absurd rfl h
  have e2 : (op == CmpOp.NotIn) = false := by cases op <;> first | rfl | exact absurd rfl h2
  cases b <;> simp [behindInMarks, e1, e2]
/-- a comparison as a value; hm: nomark b, or (for in, not in) by with_unfolding_all rfl -/
theorem pe_cmpR {op : CmpOp} {r : R2} (ho : OpR X (compareOp op) r) (ha : PE X a ta) (hb : PE X b tb) (hm : behindInMarks op b = false) : PE X (.Compare a [op] [b] pos) (tOp r ta tb) := by
  intro pins s σ H Q I h
  exact wpAny_Compare1 (binT ha hb I h fun v u s2 x y H2 I2 rx ry q => ho pins s2 σ H2 x y v u Q I2 rx ry q) hm
/-- a reading of a value as a test -/
def tTest (t : TE) : TT := fun σ H Q => t σ H fun x H' => ∃ k, x = .bl k ∧ Q k H'
theorem pt_cmpR {op : CmpOp} {r : R2} (ho : OpR X (compareOp op) r) (ha : PE X a ta) (hb : PE X b tb) (hm : behindInMarks op b = false) : PT X (.Compare a [op] [b] pos) (tTest (tOp r ta tb)) := by
  intro pins s σ H Q I h
  refine wpAny_isTrue_Compare1 (thn (ha pins s σ H _ I h) fun v s1 ⟨x, H1, I1, r1, q1⟩ => thn (hb pins s1 σ H1 _ I1 q1) fun u s2 ⟨y, H2, I2, r2, q2⟩ =>
    thn (ho pins s2 σ H2 x y v u _ I2 r1 r2 q2) fun c s3 ⟨z, H3, I3, r3, k, e, q3⟩ => ?_) hm
  subst e
  cases r3
  exact wpAny_truthy_bool ⟨H3, I3, q3⟩
/-- a op1 b op2 c -/
def tChain (r r' : R2) (ta tb tc : TE) : TE := fun σ H Q => ta σ H fun x H1 => tb σ H1 fun y H2 => r x y H2 fun z H3 => ∃ k, z = .bl k ∧
  (if k = true then tc σ H3 fun w' H4 => r' y w' H4 Q else Q (.bl false) H3)
theorem pt_chain {op op' : CmpOp} {r r' : R2} (ho : OpR X (compareOp op) r) (ho' : OpR X (compareOp op') r') (ha : PE X a ta) (hb : PE X b tb) (hc : PE X c tc)
    (hm : lastMarks [op, op'] [b, c] = false := by with_unfolding_all rfl) : PT X (.Compare a [op, op'] [b, c] pos) (tTest (tChain r r' ta tb tc)) := by
  intro pins s σ H Q I h
  refine isTrue_chain (thn (ha pins s σ H _ I h) fun v s1 ⟨x, H1, I1, r1, q1⟩ => test_link (thn (hb pins s1 σ H1 _ I1 q1) fun u s2 ⟨y, H2, I2, r2, q2⟩ =>
    thn (ho pins s2 σ H2 x y v u _ I2 r1 r2 q2) fun d s3 ⟨z, H3, I3, r3, k, e, q3⟩ => ?_)) hm
  subst e
  cases r3
  refine wpAny_truthy_bool ?_
  cases k with
  | false =>
    obtain ⟨k', e', q'⟩ := q3
    cases e'
    exact ite_ff ⟨H3, I3, q'⟩
  | true =>
    refine ite_tt (test_last (thn (hc pins s3 σ H3 _ I3 q3) fun w' s4 ⟨z', H4, I4, r4, q4⟩ => thn (ho' pins s4 σ H4 y z' u w' _ I4 r2 r4 q4) fun d' s5 ⟨z2, H5, I5, r5, k2, e2, q5⟩ => ?_))
    subst e2
    cases r5
    exact wpAny_truthy_bool ⟨H5, I5, q5⟩

/-! ### truth -/
/-- a value's truth by the abstract heap -/
def TruV (K : PySem.W.Frag) (x : V) (H : Hp) (k : Bool) : Prop :=
  match x with
  | .non => k = false
  | .bl b => k = b
  | .int i => k = (i != 0)
  | .str y => y.length ≤ sizeLine ∧ k = ((y.length : Int) != 0)
  | .byt y => y.size ≤ sizeLine ∧ k = ((y.size : Int) != 0)
  | .ref p => (∃ xs, SqL K H p xs ∧ k = !xs.isEmpty) ∨ (∃ xs, SqT K H p xs ∧ k = !xs.isEmpty) ∨ ∃ kvs, H p = some (.dK kvs) ∧ k = !kvs.isEmpty
  | _ => False
theorem isEmpty_kv {κ : Type} {kvs : List (κ × V)} {vs : List (κ × Value)} (r : KV kvs vs) : (!vs.isEmpty) = !kvs.isEmpty := by
  cases r <;> rfl
theorem isEmpty_of {xs : List V} {its : List Value} (r : Vals xs its) : (!its.toArray.isEmpty) = !xs.isEmpty := by
  cases r <;> simp
theorem line63 : (sizeLine : Nat) < 2 ^ 63 := by rw [sizeLine_eq]; decide
theorem tru_ok : TruR X (fun x H Q => ∃ k, TruV X.K x H k ∧ Q k H) := by
  intro pins s σ H x v Q I rx h
  obtain ⟨k, e, q⟩ := h
  have hl := line63
  have hs : sizeLine = 16777216 := sizeLine_eq
  cases x with
  | non =>
    cases rx
    have e' : k = false := e
    subst e'
    exact truthy_none ⟨H, I, q⟩
  | bl b =>
    cases rx
    have e' : k = b := e
    subst e'
    exact wpAny_truthy_bool ⟨H, I, q⟩
  | int i =>
    obtain ⟨t, rfl⟩ := rx
    have e' : k = (i != 0) := e
    subst e'
    exact PySem.P.truthy_int ⟨H, I, q⟩
  | str y =>
    obtain ⟨t, rfl⟩ := rx
    obtain ⟨hy, e'⟩ : y.length ≤ sizeLine ∧ k = ((y.length : Int) != 0) := e
    subst e'
    exact PySem.P.truthy_str (by omega) ⟨H, I.tok _, q⟩
  | byt y =>
    obtain ⟨t, rfl⟩ := rx
    obtain ⟨hy, e'⟩ : y.size ≤ sizeLine ∧ k = ((y.size : Int) != 0) := e
    subst e'
    exact PySem.W.truthy_bytes (by omega) ⟨H, I.tok _, q⟩
  | ref p =>
    cases rx
    have e' : (∃ xs, SqL X.K H p xs ∧ k = !xs.isEmpty) ∨ (∃ xs, SqT X.K H p xs ∧ k = !xs.isEmpty) ∨ ∃ kvs, H p = some (.dK kvs) ∧ k = !kvs.isEmpty := e
    rcases e' with ⟨xs, hx, e'⟩ | ⟨xs, hx, e'⟩ | ⟨kvs, hx, e'⟩
    · subst e'
      obtain ⟨its, r, pl, hz⟩ := I.list hx
      have hlen := r.length
      exact wpAny_truthy_list pl.isList (by simp only [List.size_toArray]; omega) ⟨H, I.tok _, by rw [isEmpty_of r]; exact q⟩
    · subst e'
      obtain ⟨its, r, pl, hz⟩ := I.tuple hx
      have hlen := r.length
      exact truthy_tuple pl (by simp only [List.size_toArray]; omega) ⟨H, I.tok _, by rw [isEmpty_of r]; exact q⟩
    · subst e'
      obtain ⟨hz, hS, vs, r, m⟩ : kvs.length ≤ sizeLine ∧ (p == sysModules) = false ∧ ∃ vs, KV kvs vs ∧ s.heap.DictOf (mixKind X.prog X.w) p vs := I.hok p _ hx
      have hlen : kvs.length = vs.length := Paired.length r
      exact wpAny_truthy_dict hS m (by omega) ⟨H, I.tok _, by rw [isEmpty_kv r]; exact q⟩
  | _ => exact (show False from e).elim
/-- any expression whose test is its value's truth (a name, a call, a subscript, a field ..: he by fun _ => rfl) -/
theorem pt_truth (ha : PE X a ta) (he : ∀ whole, isTrue a X.env whole = (do let v ← whole; standAt a.pos; holding [v] (truthy v))) :
    PT X a (fun σ H Q => ta σ H fun x H' => ∃ k, TruV X.K x H' k ∧ Q k H') := by
  intro pins s σ H Q I h
  exact isTrue_plain (thn (ha pins s σ H _ I h) fun v s1 ⟨x, H1, I1, r1, q1⟩ => tru_ok pins s1 σ H1 x v Q I1 r1 q1) (he _)

/-! ### strs and bytes -/
theorem op_add_str : OpR X (binaryOp .Add) (fun x y H Q => ∃ i j, x = .str i ∧ y = .str j ∧ i.length + j.length ≤ sizeLine ∧ Q (.str (i ++ j)) H) := by
  intro pins s σ H x y v u Q I rx ry h
  obtain ⟨i, j, rfl, rfl, hz, q⟩ := h
  obtain ⟨t, rfl⟩ := rx
  obtain ⟨t', rfl⟩ := ry
  exact add_str (fun t' tk => ⟨.str (i ++ j), H, I.tok _, ⟨_, rfl⟩, q⟩) hz
def PlainIxT (b : Expr) : Prop := ∀ o i, subscripted b false o i = operate [o, i] (getItem o i)
/-! ### scalar builtins, by CallR -/
theorem vals1 {x : V} {us : List Value} (r : Vals [x] us) : ∃ u, us = [u] ∧ RelV x u := by
  cases r with
  | cons r1 r2 => cases r2; exact ⟨_, rfl, r1⟩
theorem vals2 {x y : V} {us : List Value} (r : Vals [x, y] us) : ∃ u w', us = [u, w'] ∧ RelV x u ∧ RelV y w' := by
  cases r with
  | cons r1 r2 =>
    cases r2 with
    | cons r3 r4 => cases r4; exact ⟨_, _, rfl, r1, r3⟩
theorem call_min2 (hc : X.calm = true) : CallR X (.builtin "min") (fun xs H Q => ∃ i j, xs = [.int i, .int j] ∧ Q (.int (if j < i then j else i)) H) := by
  intro pins s σ H xs us Q I r h
  obtain ⟨i, j, rfl, q⟩ := h
  obtain ⟨u, w', rfl, ⟨t, rfl⟩, ⟨t', rfl⟩⟩ := vals2 r
  refine min_two_ints (I.ok.hd hc) fun h' tk k => ⟨_, H, I.kept k, ?_, q⟩
  by_cases hj : j < i
  · rw [if_pos hj, if_pos hj]; exact ⟨_, rfl⟩
  · rw [if_neg hj, if_neg hj]; exact ⟨_, rfl⟩
/-- len of a str, a bytes, a list, a tuple -/
def LenV (K : PySem.W.Frag) (x : V) (H : Hp) (n : Nat) : Prop :=
  match x with
  | .str y => y.length ≤ sizeLine ∧ n = y.length
  | .byt y => y.size ≤ sizeLine ∧ n = y.size
  | .ref p => (∃ xs, SqL K H p xs ∧ n = xs.length) ∨ ∃ xs, SqT K H p xs ∧ n = xs.length
  | _ => False
end
end L2

namespace L2
open PySem PySem.Spec PyProof.Rows

/-! ### an instance, its attributes a map -/
structure ObjM (h : Heap) (x dx C : Addr) (mA : Str → Option Value) : Prop where
  obj : h.get? x = some (PySem.W.instObj C dx)
  ns : h.Ns1 dx mA
  ne : dx ≠ x

section
variable {prog : Program} {w : World} {A : Around} {E : Value → Shared → Prop} {s : Shared} {K : PySem.W.Frag} {x dx C f : Addr} {mA : Str → Option Value} {name : Str} {v : Value}

end

/-! ### the attributes as a list of pairs -/
def putF (f : Str) (v : V) : List (Str × V) → List (Str × V)
  | [] => [(f, v)]
  | (g, x) :: r => if g = f then (g, v) :: r else (g, x) :: putF f v r
section
variable {P : Program} {w : World} {H H' : Hp} {h h' : Heap} {a C dx : Addr} {fs fs' : List (Str × V)}
end

/-! ### what of the text a class must have -/
structure Cls (K : PySem.W.Frag) (C : Addr) : Prop where
  pg : PySem.W.plainGet K C Str.empty = true
  hd : PySem.W.hasDictIn K C = true
  po : PySem.W.plainOver K C = true
  sa : PySem.W.findIn K (.ref C) "__setattr__" = some (some (.builtin "object.__setattr__"))
theorem Cls.get {K : PySem.W.Frag} {C : Addr} (c : Cls K C) (f : Str) : PySem.W.plainGet K C f = true := c.pg
/-- no class of it has the name -/
def NoAttr (K : PySem.W.Frag) (C : Addr) (f : Str) : Prop := PySem.W.findIn K (.ref C) f = some none
/-- a constant of the class -/
structure Con (K : PySem.W.Frag) (C : Addr) (f : Str) (v : V) (u : Value) : Prop where
  at_ : PySem.W.findIn K (.ref C) f = some (some u)
  rel : RelV v u
  get : PySem.W.specialIn K u "__get__" = some none
  cp : PySem.W.copiedNames.contains f = false
/-- a method: a plain def of the class or of one above it -/
structure Meth (K : PySem.W.Frag) (C : Addr) (m : Str) (f : Addr) : Prop where
  at_ : PySem.W.findIn K (.ref C) m = some (some (.ref f))
  fn : PySem.W.isFn K (.ref f) = true
  kp : PySem.W.keepIn K (.ref f) = true

section
variable {X : Cx} {pins : List (Addr × Obj)} {σ : St} {H : Hp} {s : Shared} {a C dx : Addr} {fs : List (Str × V)} {f : Str} {v : V} {A : Around} {E : Value → Shared → Prop}

/-- a new instance, tracked, without attributes -/
theorem Inv.made (I : Inv X pins σ H s) : Inv X pins σ (upd (upd H s.heap.objs.size (.own (s.heap.objs.size + 1))) (s.heap.objs.size + 1) (.ins C s.heap.objs.size []))
    { s with heap := (s.heap.push PySem.W.emptyDict).push (PySem.W.instObj C s.heap.objs.size) } := by
  have e1 : (s.heap.push PySem.W.emptyDict).get? s.heap.objs.size = some PySem.W.emptyDict := Heap.get?_push_size s.heap rfl
  have e2 : ((s.heap.push PySem.W.emptyDict).push (PySem.W.instObj C s.heap.objs.size)).get? (s.heap.objs.size + 1) = some (PySem.W.instObj C s.heap.objs.size) := by
    have := Heap.get?_push_size (s.heap.push PySem.W.emptyDict) (o := PySem.W.instObj C s.heap.objs.size) rfl
    rwa [Heap.size_push] at this
  have e3 : (s.heap.push PySem.W.emptyDict).Ns s.heap.objs.size (fun _ => none) := ⟨PySem.W.emptyDict, #[], _, e1, rfl, (fun e he => absurd he (by simp)), fun _ => rfl⟩
  have I1 := I.laid (a := s.heap.objs.size) (o := .own (s.heap.objs.size + 1)) (h' := s.heap.push PySem.W.emptyDict) (t' := s.toks) (fun b u q => Heap.get?_push_of_some _ q) (Nat.le_refl _) ⟨_, e1⟩
  refine I1.laid (a := s.heap.objs.size + 1) (o := .ins C s.heap.objs.size []) (t' := s.toks) (fun b u q => Heap.get?_push_of_some _ q) (Nat.le_of_eq (Heap.size_push _ _)) ?_
  have ne : s.heap.objs.size ≠ s.heap.objs.size + 1 := Nat.ne_of_lt (Nat.lt_succ_self _)
  refine ⟨by rw [upd_ne ne, upd_same], Nat.zero_le _, ne, e2, fun _ => none, (Heap.Ns1.of_empty e3).at fun o q => Heap.get?_push_of_some _ q, fun _ => True.intro, fun y hy => absurd rfl hy⟩

end

/-! ### readings and rules -/
/-- e.f, an attribute of the instance -/
def tFld (K : PySem.W.Frag) (ta : TE) (f : Str) : TE := fun σ H Q => ta σ H fun x H1 => ∃ a C dx fs v, x = .ref a ∧ H1 a = some (.ins C dx fs) ∧ Cls K C ∧ NoAttr K C f ∧ fs.lookup f = some v ∧ Q v H1
/-- e.f, a constant of the class -/
def tCon (K : PySem.W.Frag) (ta : TE) (f : Str) : TE := fun σ H Q => ta σ H fun x H1 => ∃ a C dx fs v u, x = .ref a ∧ H1 a = some (.ins C dx fs) ∧ Cls K C ∧ Con K C f v u ∧ fs.lookup f = none ∧ Q v H1
/-- e.f = value -/
def sFld (K : PySem.W.Frag) (ta tv : TE) (f : Str) : TS := fun D σ H => tv σ H fun y H1 => ta σ H1 fun x H2 => ∃ a C dx fs, x = .ref a ∧ H2 a = some (.ins C dx fs) ∧ Cls K C ∧ NoAttr K C f ∧ fs.length < 1000 ∧
  D.nx σ (upd H2 a (.ins C dx (putF f y fs)))
/-- an augmented operator on two values -/
def InOp (X : Cx) (op : Operator) (rd : V → V → Hp → VK → Prop) : Prop :=
  ∀ (pins : List (Addr × Obj)) (s : Shared) (σ : St) (H : Hp) (x y : V) (u v : Value) (Q : VK), Inv X pins σ H s → RelV x u → RelV y v → rd x y H Q → wpAny (model X.prog X.w) X.A (inplaceOp op u v) (EP X pins σ Q) X.xe s
/-- e.f op= value -/
def sFldAug (K : PySem.W.Frag) (ta tv : TE) (rd : V → V → Hp → VK → Prop) (f : Str) : TS := fun D σ H => ta σ H fun x H1 => ∃ a C dx fs v, x = .ref a ∧ H1 a = some (.ins C dx fs) ∧ Cls K C ∧ NoAttr K C f ∧ fs.lookup f = some v ∧
  tv σ H1 fun y H2 => rd v y H2 fun z H3 => ∃ dx' fs', H3 a = some (.ins C dx' fs') ∧ fs'.length < 1000 ∧ D.nx σ (upd H3 a (.ins C dx' (putF f z fs')))

section
variable {X : Cx} {o e value : Expr} {f : Str} {pos pos' tpos : Pos} {ta tv : TE}
def rAdd : V → V → Hp → VK → Prop := fun x y H Q => ∃ i j, x = .int i ∧ y = .int j ∧ Q (.int (i + j)) H
def rSub : V → V → Hp → VK → Prop := fun x y H Q => ∃ i j, x = .int i ∧ y = .int j ∧ Q (.int (i - j)) H
end

/-! ### isinstance -/
section
variable {X : Cx} {pins : List (Addr × Obj)} {σ : St} {H : Hp} {s : Shared} {A : Around} {E : Value → Shared → Prop} {Q : Value → Shared → Prop} {c : Value} {b : Bool}
/-- the type of a value, as the fragment's deciders take it; for an instance its class -/
inductive TyOf (K : PySem.W.Frag) (H : Hp) : V → Value → Prop where
  | non : TyOf K H .non (.type "NoneType")
  | bl (x : Bool) : TyOf K H (.bl x) (.type "bool")
  | int (i : Int) : TyOf K H (.int i) (.type "int")
  | str (x : Str) : TyOf K H (.str x) (.type "str")
  | flt (x : UInt64) : TyOf K H (.flt x) (.type "float")
  | lst {a : Addr} {xs : List V} (e : H a = some (.lst xs)) : TyOf K H (.ref a) (.type "list")
  | frz {a : Addr} {o : Obj} {xs : List V} (e : H a = some (.frz o (.lst xs))) : TyOf K H (.ref a) (.type "list")
  | tup {a : Addr} {xs : List V} (e : H a = some (.tup xs)) : TyOf K H (.ref a) (.type "tuple")
  | dK {a : Addr} {kvs : List (Key × V)} (e : H a = some (.dK kvs)) : TyOf K H (.ref a) (.type "dict")
  | dT {a : Addr} {kvs : List (List Key × V)} (e : H a = some (.dT kvs)) : TyOf K H (.ref a) (.type "dict")
  | ins {a C dx : Addr} {fs : List (Str × V)} (e : H a = some (.ins C dx fs)) (cl : Cls K C) (ha : PySem.W.findIn K (.ref C) "__class__" = some (some (.builtin "object.__class__")))
      (hn : PySem.W.specialIn K (.builtin "object.__class__") "__get__" = some (some (.builtin "getset_descriptor.__get__"))) (htk : PySem.W.takesIn K (.builtin "object.__class__") = some true)
      (hm : PySem.W.mroIn K C (.type "object") = some true) : TyOf K H (.ref a) (.ref C)
end
end L2

namespace L2
open PySem PySem.Spec PyProof.Rows

/-! ### room -/
structure Room (k : Nat) (A : Around) : Prop where
  hd : A.handled = none
  dp : A.depth + 3 * k + 5 < recursionLimit
  un : A.units + 16 * k + 200 < cLine
theorem Room.mono {j k : Nat} {A : Around} (r : Room k A) (h : j ≤ k) : Room j A := ⟨r.hd, by have := r.dp; omega, by have := r.un; omega⟩
theorem Room.deeper {k : Nat} {A : Around} (r : Room (k + 1) A) (env : Env) : Room k (A.deeper env) :=
  ⟨r.hd, by have := r.dp; show A.depth + 1 + 3 * k + 5 < _; omega, by have := r.un; show A.units + 3 + 16 * k + 200 < _; omega⟩
theorem Room.in1 {k : Nat} {A : Around} (r : Room (k + 1) A) : Room k A.in1 :=
  ⟨r.hd, by have := r.dp; show A.depth + 3 * k + 5 < _; omega, by have := r.un; show A.units + 1 + 16 * k + 200 < _; omega⟩
theorem Room.depth {k : Nat} {A : Around} (r : Room k A) : A.depth < recursionLimit := by have := r.dp; omega
theorem Room.units {k : Nat} {A : Around} (r : Room k A) : A.units + 64 < cLine := by have := r.un; omega
/-! ### argument lists and displays -/
def tNil : TA := fun _ H Q => Q [] H
def tCons (ta : TE) (tr : TA) : TA := fun σ H Q => ta σ H fun x H1 => tr σ H1 fun xs H2 => Q (x :: xs) H2
section
variable {X : Cx} {e : Expr} {es : List Expr} {te : TE} {t : TA} {pos : Pos}
theorem pa_nil : PA X [] tNil := fun _ _ _ _ H Q I h => Calls.spliced_nil ⟨[], H, I, .nil, h⟩
theorem pa_cons (ha : PE X e te) (hr : PA X es t) (hs : starEach (e :: es) X.env = (false, eval e X.env) :: starEach es X.env := by rfl) : PA X (e :: es) (tCons te t) := by
  intro pos pins s σ H Q I h
  rw [hs]
  show wpAny _ _ (spliced ((false, eval e X.env) :: backTo pos (starEach es X.env))) _ _ s
  refine Calls.spliced_cons (thn (ha pins s σ H _ I h) fun u s1 ⟨x, H1, I1, r1, q1⟩ => ?_)
  exact thn (hr pos pins s1 σ H1 _ I1 q1) fun us s2 ⟨xs, H2, I2, r2, q2⟩ => ⟨x :: xs, H2, I2, .cons r1 r2, q2⟩

/-- a tuple, a list of written items -/
def tTup (t : TA) : TE := fun σ H Q => t σ H fun xs H1 => xs.length ≤ sizeLine ∧ ∀ p, H1 p = none → Q (.ref p) (upd H1 p (.tup xs))
def tLst (t : TA) : TE := fun σ H Q => t σ H fun xs H1 => xs.length ≤ sizeLine ∧ ∀ p, H1 p = none → Q (.ref p) (upd H1 p (.lst xs))
theorem pe_tup {x1} (h : PA X es t) : PE X (.Tuple es x1 pos) (tTup t) := by
  intro pins s σ H Q I hq
  refine wpAny_Tuple_spliced (thn (h pos pins s σ H _ I hq) fun us s1 ⟨xs, H1, I1, r, z, q⟩ => ⟨by rw [← r.length]; exact z, ?_⟩)
  have hf : H1 s1.heap.objs.size = none := I1.hok.fresh (Nat.le_refl _)
  refine ⟨.ref s1.heap.objs.size, upd H1 s1.heap.objs.size (.tup xs), I1.laid (t' := s1.toks) (fun b u e => Heap.get?_push_of_some _ e) (Nat.le_refl _) ?_, rfl, q _ hf⟩
  exact ⟨z, us, r, ⟨_, Heap.get?_push_size _ rfl, rfl, _, rfl⟩⟩
theorem pe_lst (h : PA X es t) : PE X (.List es pos) (tLst t) := by
  intro pins s σ H Q I hq
  refine wpAny_List_spliced (thn (h pos pins s σ H _ I hq) fun us s1 ⟨xs, H1, I1, r, z, q⟩ => ⟨by rw [← r.length]; exact z, ?_⟩)
  have hf : H1 s1.heap.objs.size = none := I1.hok.fresh (Nat.le_refl _)
  refine ⟨.ref s1.heap.objs.size, upd H1 s1.heap.objs.size (.lst xs), I1.laid (t' := s1.toks) (fun b u e => Heap.get?_push_of_some _ e) (Nat.le_refl _) ?_, rfl, q _ hf⟩
  exact ⟨z, us, 0, r, Heap.get?_push_size _ rfl⟩
end

/-! ### what a def promises -/
/-- a def's promise: the bound arguments in the parameters' order, the heap, the wanted end, the wanted exception -/
abbrev Sp := List V → Hp → VK → XK → Prop
/-- how an exception lies behind a call (file 08 gives it): the callers' frames, abstract heap and state ahead of the call, the wish, the exception, the state -/
abbrev CXT := List Env → Hp → Shared → XK → Value → Shared → Prop

/-- the state at a call -/
structure Env0 (P : Program) (w : World) (K : PySem.W.Frag) (mg : Str → Option Value) (base : Heap) (A : Around) (outer : List Env) (s : Shared) (H : Hp) : Prop where
  frames : A.frames = some outer
  mod : Mod K mg base
  bs : ∀ b o, base.get? b = some o → s.heap.get? b = some o ∧ H b = none
  bsz : base.objs.size ≤ s.heap.objs.size
  funs : s.heap.FunFrames base outer
  frf : ∀ b ∈ frs outer, H b = none
  hok : HOk P w H s.heap
  bare : AllBare s.gens
/-- a call's end -/
def CE (outer : List Env) (P : Program) (w : World) (H : Hp) (s : Shared) (Q : VK) (u : Value) (s' : Shared) : Prop :=
  ∃ v H', s'.os = s.os ∧ AllBare s'.gens ∧ Un (frs outer) [] H H' s.heap s'.heap ∧ HOk P w H' s'.heap ∧ RelV v u ∧ Q v H'
def CR (CX : CXT) (outer : List Env) (P : Program) (w : World) (H : Hp) (s : Shared) (Q : VK) (E : XK) (r : Result) (s' : Shared) : Prop :=
  match r with
  | .ok (.ret u) => CE outer P w H s Q u s'
  | .ok _ => False
  | .error e => CX outer H s E e s'
structure FnOk (P : Program) (w : World) (K : PySem.W.Frag) (mg : Str → Option Value) (base : Heap) (CX : CXT) (k : Nat) (f : Addr) (fd : FuncData) (ps : List Str) (sp : Sp) : Prop where
  len : ∀ vs H Q E, sp vs H Q E → vs.length = ps.length
  run : ∀ (A : Around) (outer : List Env) (s : Shared) (H : Hp) (args : Args) (us : List Value) (vs : List V) (Q : VK) (E : XK), Room k A → Env0 P w K mg base A outer s H → BindsTo s fd args (ps.zip us) → Vals vs us → sp vs H Q E →
    codeAny (model P w) A (.call (.ref f) args) (CR CX outer P w H s Q E) s
theorem FnOk.mono {P : Program} {w : World} {K : PySem.W.Frag} {mg : Str → Option Value} {base : Heap} {CX : CXT} {j k : Nat} {f : Addr} {fd : FuncData} {ps : List Str} {sp : Sp} (F : FnOk P w K mg base CX j f fd ps sp) (h : j ≤ k) :
    FnOk P w K mg base CX k f fd ps sp := ⟨F.len, fun A outer s H args us vs Q E hr => F.run A outer s H args us vs Q E (hr.mono h)⟩
/-- a weaker promise -/
theorem FnOk.imp {P : Program} {w : World} {K : PySem.W.Frag} {mg : Str → Option Value} {base : Heap} {CX : CXT} {k : Nat} {f : Addr} {fd : FuncData} {ps : List Str} {sp sp' : Sp} (F : FnOk P w K mg base CX k f fd ps sp)
    (h : ∀ vs H Q E, sp' vs H Q E → sp vs H Q E) : FnOk P w K mg base CX k f fd ps sp' :=
  ⟨fun vs H Q E q => F.len vs H Q E (h _ _ _ _ q), fun A outer s H args us vs Q E hr he hb hv hs => F.run A outer s H args us vs Q E hr he hb hv (h _ _ _ _ hs)⟩

theorem Env0.in1 {P : Program} {w : World} {K : PySem.W.Frag} {mg : Str → Option Value} {base : Heap} {A : Around} {outer : List Env} {s : Shared} {H : Hp} (e : Env0 P w K mg base A outer s H) :
    Env0 P w K mg base A.in1 outer s H := ⟨e.frames, e.mod, e.bs, e.bsz, e.funs, e.frf, e.hok, e.bare⟩

section
variable {X : Cx} {pins : List (Addr × Obj)} {σ : St} {H : Hp} {s s' : Shared}
/-- from a body: what a callee wants -/
theorem Inv.env0 (I : Inv X pins σ H s) : Env0 X.prog X.w X.K X.mg X.base X.A X.stack s H :=
  ⟨I.ok.frames, I.ok.mod, I.bs, Nat.le_trans I.ok.bsz I.sz, I.stack, I.stkFree, I.hok, I.bare⟩
/-- behind a call -/
theorem Inv.after {Q : VK} {u : Value} (I : Inv X pins σ H s) (h : CE X.stack X.prog X.w H s Q u s') : EP X pins σ Q u s' := by
  obtain ⟨v, H', os, bare, un, hok, r, q⟩ := h
  obtain ⟨hh, g, d, t, os'⟩ := s'
  obtain rfl : os' = s.os := os
  exact ⟨v, H', I.call (h' := hh) (g' := g) (d' := d) (t' := t) (ch := []) un hok bare (fun b z => absurd z (by simp)), r, q⟩
end

/-! ### calls -/
/-- f(..): the written arguments, then the defaults dvs; E: what is wanted of an exception -/
def tCall (sp : Sp) (dvs : List V) (E : XK) (t : TA) : TE := fun σ H Q => t σ H fun vs H1 => sp (vs ++ dvs) H1 Q E
/-- o.m(..) of an instance of the class at C -/
def tMeth (C : Addr) (m : Str) (sp : Sp) (dvs : List V) (E : XK) (ta : TE) (t : TA) : TE := fun σ H Q => ta σ H fun x H1 => ∃ a dx fs, x = .ref a ∧ H1 a = some (.ins C dx fs) ∧ fs.lookup m = none ∧
  t σ H1 fun vs H2 => sp (x :: (vs ++ dvs)) H2 Q E
/-- C(..): a new instance and its dict, then __init__ -/
def tMake (C : Addr) (sp : Sp) (dvs : List V) (E : XK) (t : TA) : TE := fun σ H Q => t σ H fun vs H1 => ∀ x dx, H1 x = none → H1 dx = none → dx ≠ x →
  sp (.ref x :: (vs ++ dvs)) (upd (upd H1 dx (.own x)) x (.ins C dx [])) (fun v H2 => v = .non ∧ Q (.ref x) H2) E

/-- how the parameters are bound: us the positional arguments, kw the keywords' values by name, ds the defaults that fill up -/
def Binds (K : PySem.W.Frag) (fd : FuncData) (ps : List Str) (ds : List Value) : Prop :=
  ∀ (s : Shared) (us : List Value), K.In s.heap → (us ++ ds).length = ps.length → BindsTo s fd ⟨us, []⟩ (ps.zip (us ++ ds))
/-- every parameter is given -/
theorem Binds.all {K : PySem.W.Frag} {fd : FuncData} {ps : List Str} (h : ∀ us : List Value, us.length = ps.length → bindArgs fd ⟨us, []⟩ = pure (ps.zip us)) : Binds K fd ps [] := fun s us _ hl => by
  rw [List.append_nil] at hl ⊢
  exact .of_eq (h us hl)

/-- an exception of a callee reaches what this body wants of exceptions -/
def Passes (CX : CXT) (X : Cx) (E : XK) : Prop := ∀ (pins : List (Addr × Obj)) (σ : St) (H : Hp) (s : Shared) (e : Value) (s' : Shared), Inv X pins σ H s → CX X.stack H s E e s' → X.xe e s'

section
variable {X : Cx} {CX : CXT} {k : Nat} {f C : Addr} {fd : FuncData} {ps : List Str} {sp : Sp} {dvs : List V} {ds : List Value} {E : XK} {x m : Str} {p pos apos : Pos} {e o : Expr} {es : List Expr} {ta : TE} {t : TA}

/-- the callee runs -/
theorem run_fn {pins : List (Addr × Obj)} {σ : St} {H : Hp} {s : Shared} {Q : VK} {us : List Value} {vs : List V} (F : FnOk X.prog X.w X.K X.mg X.base CX k f fd ps sp) (hr : Room k X.A) (hb : Binds X.K fd ps ds) (hd : Vals dvs ds) (hx : Passes CX X E)
    (I : Inv X pins σ H s) (r : Vals vs us) (h : sp (vs ++ dvs) H Q E) : wpAny (model X.prog X.w) X.A (call (.ref f) us) (EP X pins σ Q) X.xe s := by
  have r2 : Vals (vs ++ dvs) (us ++ ds) := r.append hd
  have hl : (us ++ ds).length = ps.length := by rw [← r2.length]; exact F.len _ _ _ _ h
  refine wpAny_call (codeAny_mono (F.run X.A X.stack s H ⟨us, []⟩ (us ++ ds) (vs ++ dvs) Q E hr I.env0 (hb s us I.kIn hl) r2 h) fun r s' hq => ?_)
  cases r with
  | error e => exact hx pins σ H s e s' I hq
  | ok fl =>
    cases fl with
    | ret u => exact I.after hq
    | next => exact False.elim hq
    | brk => exact False.elim hq
    | cont => exact False.elim hq

theorem pe_call (F : FnOk X.prog X.w X.K X.mg X.base CX k f fd ps sp) (hr : Room k X.A) (hg : Gl X x) (hm : X.mg x = some (.ref f)) (hk : PySem.W.keepIn X.K (.ref f) = true) (hb : Binds X.K fd ps ds) (hd : Vals dvs ds) (hx : Passes CX X E)
    (ha : PA X (e :: es) t) (hdb : (x == ("__debug__" : Str)) = false := by decide) (he : starEach (e :: es) X.env = (false, eval e X.env) :: starEach es X.env := by rfl) (hpl : (backTo pos (starEach es X.env)).any (·.1) = false := by rfl) :
    PE X (.Call (.Name x p) (e :: es) [] pos) (tCall sp dvs E t) := by
  intro pins s σ H Q I h
  refine wpAny_Call_Name_kw (ld_glob I hg hm ?_ hdb)
  refine PySem.W.callWith_K (h₀ := X.base) I.ok.mod.kin hk (thn (ha pos pins s σ H _ I h) fun us s1 ⟨vs, H1, I1, r, q⟩ => ⟨I1.kIn, ?_⟩) he hpl
  exact run_fn F hr hb hd hx I1 r q
/-- what a class must have to be made -/
structure Mk (K : PySem.W.Frag) (C f : Addr) : Prop where
  makes : PySem.W.makesIn K C = true
  init : PySem.W.findIn K (.ref C) "__init__" = some (some (.ref f))
  fn : PySem.W.isFn K (.ref f) = true
  kp : PySem.W.keepIn K (.ref C) = true

end

/-! ### keywords -/
/-- the values of the keywords, from the left -/
def PK (X : Cx) (kws : List Keyword) (t : TA) : Prop :=
  ∀ (pos : Pos) (pins : List (Addr × Obj)) (s : Shared) (σ : St) (H : Hp) (Q : List V → Hp → Prop), Inv X pins σ H s → t σ H Q → wpAny (model X.prog X.w) X.A (evalAll ((backToKw pos (keywordEach kws X.env)).map (·.2))) (AP X pins σ Q) X.xe s
section
variable {X : Cx} {CX : CXT} {k : Nat} {f C : Addr} {fd : FuncData} {ps ks : List Str} {sp : Sp} {E : XK} {x m : Str} {p pos apos kpos : Pos} {e o : Expr} {es : List Expr} {kws : List Keyword} {te ta : TE} {t tk : TA} {nm : Option Str}
/-- how a call with keywords binds: g puts the positional values us and the keywords' values ws (names ks) in the parameters' order, defaults among them -/
structure KBinds (K : PySem.W.Frag) (fd : FuncData) (ps ks : List Str) (g : List Value → List Value → List Value) (gV : List V → List V → List V) : Prop where
  to : ∀ (s : Shared) (us ws : List Value), K.In s.heap → (g us ws).length = ps.length → BindsTo s fd ⟨us, ks.zip ws⟩ (ps.zip (g us ws))
  rel : ∀ {vs : List V} {us : List Value} {zs : List V} {ws : List Value}, Vals vs us → Vals zs ws → Vals (gV vs zs) (g us ws)
def tCallK (sp : Sp) (gV : List V → List V → List V) (E : XK) (t tk : TA) : TE := fun σ H Q => t σ H fun vs H1 => tk σ H1 fun zs H2 => sp (gV vs zs) H2 Q E
variable {g : List Value → List Value → List Value} {gV : List V → List V → List V}
end

/-! ### a def's body keeps its promise -/
/-- names: the parameters first -/
structure FnScope (N P : List Str) (sc : Scope) : Prop where
  kind : sc.kind = .function
  co : sc.isCoroutine = false
  gen : sc.isGenerator = false
  nd : N.Nodup
  pre : N.take P.length = P
  par : ∀ x ∈ P, sc.names.lookup x = some .local ∨ sc.names.lookup x = some .cell
  nofree : ∀ y ∈ sc.names, y.2 ≠ .free

theorem bindL_out {kindOf : Str → Option NameKind} {x : Str} : ∀ {binds : List (Str × Value)} {m : Str → Option Value}, (∀ v, (x, v) ∉ binds) → bindL kindOf binds m x = m x
  | [], _, _ => rfl
  | (n, v) :: r, m, h => by
    unfold bindL
    rw [bindL_out fun w hw => h w (List.mem_cons_of_mem _ hw)]
    split
    · have : x ≠ n := by rintro rfl; exact h v List.mem_cons_self
      simp [this]
    · rfl
theorem bindC_out {kindOf : Str → Option NameKind} {x : Str} : ∀ {binds : List (Str × Value)} {m : Str → Option Value}, (∀ v, (x, v) ∉ binds) → bindC kindOf binds m x = m x
  | [], _, _ => rfl
  | (n, v) :: r, m, h => by
    unfold bindC
    rw [bindC_out fun w hw => h w (List.mem_cons_of_mem _ hw)]
    split
    · rfl
    · have : x ≠ n := by rintro rfl; exact h v List.mem_cons_self
      simp [this]
theorem bindL_get {kindOf : Str → Option NameKind} {x : Str} {v : Value} : ∀ {P : List Str} {vs : List Value} {i : Nat} {m : Str → Option Value}, P.Nodup → P[i]? = some x → vs[i]? = some v → kindOf x = some .local →
    bindL kindOf (P.zip vs) m x = some v
  | [], _, _, _, _, h, _, _ => by simp at h
  | _ :: _, [], _, _, _, _, h, _ => by simp at h
  | p :: P, w :: vs, 0, m, nd, h1, h2, hk => by
    simp at h1 h2; subst h1; subst h2
    show bindL kindOf ((p, w) :: P.zip vs) m p = _
    unfold bindL
    rw [bindL_out fun v hv => (List.nodup_cons.mp nd).1 (List.of_mem_zip hv).1, if_pos hk]
    simp
  | p :: P, w :: vs, i + 1, m, nd, h1, h2, hk => by
    show bindL kindOf ((p, w) :: P.zip vs) m x = _
    unfold bindL
    exact bindL_get (i := i) (List.nodup_cons.mp nd).2 (by simpa using h1) (by simpa using h2) hk
theorem bindC_get {kindOf : Str → Option NameKind} {x : Str} {v : Value} : ∀ {P : List Str} {vs : List Value} {i : Nat} {m : Str → Option Value}, P.Nodup → P[i]? = some x → vs[i]? = some v → kindOf x ≠ some .local →
    bindC kindOf (P.zip vs) m x = some v
  | [], _, _, _, _, h, _, _ => by simp at h
  | _ :: _, [], _, _, _, _, h, _ => by simp at h
  | p :: P, w :: vs, 0, m, nd, h1, h2, hk => by
    simp at h1 h2; subst h1; subst h2
    show bindC kindOf ((p, w) :: P.zip vs) m p = _
    unfold bindC
    rw [bindC_out fun v hv => (List.nodup_cons.mp nd).1 (List.of_mem_zip hv).1, if_neg hk]
    simp
  | p :: P, w :: vs, i + 1, m, nd, h1, h2, hk => by
    show bindC kindOf ((p, w) :: P.zip vs) m x = _
    unfold bindC
    exact bindC_get (i := i) (List.nodup_cons.mp nd).2 (by simpa using h1) (by simpa using h2) hk

/-- the names' values at the entry -/
def start (N : List Str) (vs : List V) : St := vs.map some ++ List.replicate (N.length - vs.length) none

/-- the context of a def's body, at its entry; an exception leaves the frame, then lies as CX says -/
def cxOf (CX : CXT) (P : Program) (w : World) (K : PySem.W.Frag) (mg : Str → Option Value) (base : Heap) (N : List Str) (qual : Str) (scope : Scope) (f : Addr) (cd : Value) (A : Around) (outer : List Env) (s : Shared) (H : Hp) (E : XK) : Cx where
  prog := P
  w := w
  K := K
  mg := mg
  base := base
  A := A.deeper (envOfC qual scope s.heap.objs.size f cd)
  N := N
  s₀ := s
  H₀ := H
  env := envOfC qual scope s.heap.objs.size f cd
  outer := outer
  stack := envOfC qual scope s.heap.objs.size f cd :: outer
  ex := []
  calm := true
  fn := fun _ => true
  pn := []
  xe := fun e s' => wpAny (model P w) (A.deeper (envOfC qual scope s.heap.objs.size f cd)) (leaving (envOfC qual scope s.heap.objs.size f cd) e) (fun _ s'' => CX outer H s E e s'') (fun e' s'' => CX outer H s E e' s'') s'

theorem cell_has {sc : Scope} {n : Nat} {x : Str} (h : sc.names.lookup x = some .cell) : ∃ c, (cellsFrom n sc.names []).lookup x = some c := by
  have q := PySem.W.cellsFrom_some sc.names n [] (.inl h)
  exact Option.isSome_iff_exists.mp q

theorem inv_start {CX : CXT} {P : Program} {w : World} {K : PySem.W.Frag} {mg : Str → Option Value} {base : Heap} {N ps : List Str} {qual : Str} {scope : Scope} {f : Addr} {cd : Value} {A : Around} {outer : List Env} {s s1 : Shared} {H : Hp} {E : XK} {us : List Value} {vs : List V}
    (S : FnScope N ps scope) (hd : A.handled = none) (e0 : Env0 P w K mg base A outer s H) (hl : vs.length = ps.length) (r : Vals vs us)
    (x : InCallC s s.heap.objs.size (bindL (envOfC qual scope s.heap.objs.size f cd).kindOf (ps.zip us) fun _ => none) (cellsFrom (s.heap.objs.size + 1) scope.names []) (bindC (envOfC qual scope s.heap.objs.size f cd).kindOf (ps.zip us) fun _ => none) s1) :
    Inv (cxOf CX P w K mg base N qual scope f cd A outer s H E) [] (start N vs) H s1 := by
  have hpl : ps.length ≤ N.length := by have := congrArg List.length S.pre; rw [List.length_take] at this; omega
  obtain ⟨h1, tk, rfl, hk⟩ := x.done
  have noA : ∀ b : Addr, b ∉ (cxOf CX P w K mg base N qual scope f cd A outer s H E).ex := fun b z => absurd (show b ∈ ([] : List Addr) from z) (by simp)
  refine ⟨⟨e0.mod, S.kind, rfl, rfl, Nat.le_refl _, fun y z c h1 h2 => ?_, fun y hy => ?_, fun y c _ h => ?_, fun _ => hd, Around.frames_deeper e0.frames, .inr ⟨rfl, rfl⟩, fun b z => absurd z (noA b), e0.bs, e0.bsz, fun b _ _ => noA b, fun b z => absurd z (noA b), e0.funs, e0.frf⟩,
    rfl, e0.bare, Un.kept hk, ⟨_, x.toInCall.ns, fun i y v h1 h2 h3 => ?_⟩, fun y c h => ⟨_, x.cell y c h⟩, e0.hok.fresh (Nat.le_refl _), fun y c h => ?_, fun p hp => absurd (show p ∈ ([] : List (Addr × Obj)) from hp) (by simp), e0.hok.kept hk, ?_⟩
  · exact name_of_addr x.apart (PySem.mem_of_lookup h1) (PySem.mem_of_lookup h2)
  · have hy : scope.names.lookup y = some .cell ∨ scope.names.lookup y = some .free := hy
    rcases hy with hy | hy
    · exact cell_has hy
    · exact absurd rfl (S.nofree _ (PySem.mem_of_lookup hy))
  · exact Nat.le_of_lt (x.above y c (PySem.mem_of_lookup h))
  · have hi : i < vs.length := by
      unfold start at h2
      by_cases hi : i < vs.length
      · exact hi
      · rw [List.getElem?_append_right (by simpa using hi)] at h2
        rw [List.getElem?_replicate] at h2
        split at h2 <;> cases h2
    have ha : vs[i]? = some v := by
      unfold start at h2
      rw [List.getElem?_append_left (by simpa using hi), List.getElem?_map] at h2
      cases e : vs[i]? with
      | none => rw [e] at h2; cases h2
      | some a => rw [e] at h2; cases h2; rfl
    obtain ⟨u, hu, rv⟩ := r.get ha
    have hp : ps[i]? = some y := by
      rw [← S.pre, List.getElem?_take_of_lt (by omega)]; exact h1
    have ndP : ps.Nodup := by rw [← S.pre]; exact S.nd.sublist (List.take_sublist _ _)
    refine ⟨u, rv, ?_⟩
    rcases S.par y (List.mem_of_getElem? hp) with k | k
    · exact .inl ⟨k, bindL_get ndP hp hu k⟩
    · obtain ⟨c, e⟩ := cell_has (n := s.heap.objs.size + 1) k
      refine .inr ⟨.inl k, c, e, ?_⟩
      have q := x.cell y c e
      rw [bindC_get ndP hp hu (by show scope.names.lookup y ≠ _; rw [k]; decide)] at q
      exact q
  · exact e0.hok.fresh (Nat.le_of_lt (x.above y c (PySem.mem_of_lookup h)))
  · unfold start
    show _ = N.length
    rw [List.length_append, List.length_map, List.length_replicate]
    omega

/-- THE RULE: a def (or a method) of the text, by its body. The body's reading t is chosen for each entry; it is run at the parameters' values -/
theorem fn_of {CX : CXT} {P : Program} {w : World} {K : PySem.W.Frag} {mg : Str → Option Value} {base : Heap} {k : Nat} {f : Addr} {name qual : Str} {params : Arguments} {body : List Stmt} {scope : Scope} {dV kV doc pm cdv ct oc : Value} {an od : Option Addr}
    {osl : Array (Option Value)} {N ps : List Str} {sp : Sp} (lk : K.lookup f = some ⟨oc, od, .func (PySem.W.fnOf name qual params body scope dV kV doc pm an cdv ct), osl⟩) (hcd : PySem.W.codeIn K cdv qual = true) (S : FnScope N ps scope)
    (len : ∀ vs H Q E, sp vs H Q E → vs.length = ps.length)
    (hbody : ∀ (A : Around) (outer : List Env) (s : Shared) (H : Hp) (vs : List V) (Q : VK) (E : XK), Room k (A.deeper (envOfC qual scope s.heap.objs.size f cdv)) → sp vs H Q E →
      ∃ t, PSs (cxOf CX P w K mg base N qual scope f cdv A outer s H E) body t ∧ t { nx := fun _ H' => Q .non H', rt := Q } (start N vs) H) :
    FnOk P w K mg base CX (k + 1) f (PySem.W.fnOf name qual params body scope dV kV doc pm an cdv ct) ps sp := by
  refine ⟨len, fun A outer s H args us vs Q E hr e0 hb r hsp => ?_⟩
  have hl := len _ _ _ _ hsp
  have KX : K.In s.heap := e0.mod.kin.keeps fun b o e => (e0.bs b o e).1
  have lim : s.heap.NoLimit := e0.mod.nolimit.keeps fun b o e => (e0.bs b o e).1
  have hkind : ∀ y ∈ ps.zip us, scope.names.lookup y.1 = some .local ∨ (scope.names.lookup y.1 = some .cell ∧ ((cellsFrom (s.heap.objs.size + 1) scope.names []).lookup y.1).isSome = true) := fun ⟨n, v⟩ hy => by
    rcases S.par n (List.of_mem_zip hy).1 with q | q
    · exact .inl q
    · exact .inr ⟨q, PySem.W.cellsFrom_some _ _ _ (.inl q)⟩
  refine codeAny_call_function hr.depth (KX _ _ lk) rfl S.co S.gen rfl (PySem.W.codeRec_of KX hcd) (hb _ _ _ _ ?_)
  refine wpAny_newFunctionEnv_cells S.kind hkind fun env he s1 x => ?_
  subst he
  refine ⟨lim.keeps x.toInCall.keep, codeAny_func ?_⟩
  obtain ⟨t, ht, hq⟩ := hbody A outer s H vs Q E (hr.deeper _) hsp
  have I : Inv (cxOf CX P w K mg base N qual scope f cdv A outer s H E) [] (start N vs) H s1 := inv_start S hr.hd e0 hl r x
  refine wpAny_mono (ht [] s1 (start N vs) H _ I hq) (fun fl s' hs => ?_) fun e s' hs => hs
  have fin : ∀ {σ' : St} {H' : Hp} {v : V} {u : Value}, Inv (cxOf CX P w K mg base N qual scope f cdv A outer s H E) [] σ' H' s' → RelV v u → Q v H' → CE outer P w H s Q u s' :=
    fun {σ' H' v u} J rv q => ⟨v, H', J.os, J.bare, J.base, J.hok, rv, q⟩
  cases fl with
  | ret u =>
    obtain ⟨v, σ', H', J, rv, q⟩ := hs
    exact fin J rv q
  | next =>
    obtain ⟨σ', H', J, q⟩ := hs
    exact fin (v := V.non) (u := Value.none) J rfl q
  | brk =>
    obtain ⟨_, _, _, q⟩ := hs
    exact False.elim q
  | cont =>
    obtain ⟨_, _, _, q⟩ := hs
    exact False.elim q
end L2

namespace L2
open PySem PySem.Spec PyProof.Rows
section
variable {X : Cx} {x : Str} {p pos : Pos} {e : Expr} {es : List Expr} {t : TA} {id T : String} {r : List V → Hp → VK → Prop}

def tCB (r : List V → Hp → VK → Prop) (t : TA) : TE := fun σ H Q => t σ H fun vs H1 => r vs H1 Q
/-- f(e, ..), f a built-in function -/
theorem pe_callB (hc : CallR X (.builtin id) r) (hg : Gl X x) (hm : X.mg x = none) (hv : bootBuiltins x = some (.builtin id)) (ha : PA X (e :: es) t) (hn : x ≠ "__name__" := by decide) (hdb : (x == ("__debug__" : Str)) = false := by decide)
    (he : starEach (e :: es) X.env = (false, eval e X.env) :: starEach es X.env := by rfl) (hpl : (backTo pos (starEach es X.env)).any (·.1) = false := by rfl) : PE X (.Call (.Name x p) (e :: es) [] pos) (tCB r t) := by
  intro pins s σ H Q I h
  refine wpAny_Call_Name_kw (ld_blt I hg hm hv ?_ hn hdb)
  exact PyProof.Rows.callWith_builtin1 (thn (ha pos pins s σ H _ I h) fun us s1 ⟨vs, H1, I1, r1, q1⟩ => hc pins s1 σ H1 vs us Q I1 r1 q1) he hpl
/-- T(e, ..), T a built-in type -/
theorem pe_callTy (hc : CallR X (.type T) r) (hg : Gl X x) (hm : X.mg x = none) (hv : bootBuiltins x = some (.type T)) (ha : PA X (e :: es) t) (hn : x ≠ "__name__" := by decide) (hdb : (x == ("__debug__" : Str)) = false := by decide)
    (he : starEach (e :: es) X.env = (false, eval e X.env) :: starEach es X.env := by rfl) (hpl : (backTo pos (starEach es X.env)).any (·.1) = false := by rfl) : PE X (.Call (.Name x p) (e :: es) [] pos) (tCB r t) := by
  intro pins s σ H Q I h
  refine wpAny_Call_Name_kw (ld_blt I hg hm hv ?_ hn hdb)
  exact PyProof.Rows.callWith_type1 (thn (ha pos pins s σ H _ I h) fun us s1 ⟨vs, H1, I1, r1, q1⟩ => hc pins s1 σ H1 vs us Q I1 r1 q1) he hpl
end
end L2

namespace HT
open PySem PyProof.Rows

/-- t < u of tuples of ints -/
def lexLt : List Int → List Int → Bool
  | [], [] => false
  | [], _ :: _ => true
  | _ :: _, [] => false
  | x :: xs, y :: ys => if x = y then lexLt xs ys else decide (x < y)
section
open PySem.SeqAt
open PySem.AutoSeq1 (wpAny_loadPart')
open PySem.MeetsSeq PySem.MeetsSeq2 PySem.MeetsSeq3

end

section
variable {prog : Program} {w : World} {A : Around} {E : Value → Shared → Prop} {s : Shared}

/-- t + u, t not empty -/
theorem cat_tup {t b : Addr} {vs ws : List Value} {Q : Value → Shared → Prop} (ht : IsTup s.heap t vs.toArray) (hb : IsTup s.heap b ws.toArray) (hv : vs ≠ [])
    (h1 : ws = [] → Q (.ref t) s) (h2 : ws ≠ [] → Q (.ref s.heap.objs.size) { s with heap := s.heap.push { cls := .type "tuple", data := .seq (vs ++ ws).toArray } })
    (hsz : vs.length + ws.length ≤ sizeLine) : wpAny (model prog w) A (binaryOp .Add (.ref t) (.ref b)) Q E s := by
  obtain ⟨⟨cls, dd, data, sl⟩, ho, hc, n, hd⟩ := id ht
  obtain ⟨⟨cls2, dd2, data2, sl2⟩, ho2, hc2, n2, hd2⟩ := id hb
  simp only at hc hd hc2 hd2
  subst hc hd hc2 hd2
  have e : vs.toArray ++ ws.toArray = (vs ++ ws).toArray := by simp
  by_cases hw : ws = []
  · exact concat_meets ⟨_, ho, rfl⟩ ⟨_, ho2, rfl⟩ noFill_tuple_add seq_tuple_add PySem.F.slot_tuple_add PySem.F.entry_tuple_add (PySem.F.args_tuple_add_2 _ _)
      (tuple_addW1 t b vs.toArray ws.toArray n n2 dd dd2 sl sl2 (by simpa using hv) (by simp [hw])) ⟨ho, ho2, h1 hw⟩
  · refine concat_meets ⟨_, ho, rfl⟩ ⟨_, ho2, rfl⟩ noFill_tuple_add seq_tuple_add PySem.F.slot_tuple_add PySem.F.entry_tuple_add (PySem.F.args_tuple_add_2 _ _)
      (tuple_addW2 t b vs.toArray ws.toArray n n2 dd dd2 sl sl2 (by simpa using hv) (by simpa using hw) (by rw [List.size_toArray, List.size_toArray]; exact hsz)) ⟨ho, ho2, ?_⟩
    rw [e]
    exact h2 hw

/-! ### t[a:b], not the whole -/
/-- a slice's bound as a place among n (d where it is left out) -/
def sIx (n d : Nat) : Option Int → Nat
  | none => d
  | some v => if v < 0 then (v + (n : Int)).toNat else min v.toNat n
end
end HT

namespace L2
open PySem PySem.Spec PyProof.Rows

/-! ### the parts of a slice -/
abbrev TO := St → Hp → (Option Int → Hp → Prop) → Prop
/-- a slice's part (left out, or an int) -/
def PO (X : Cx) (e : Option Expr) (t : TO) : Prop :=
  ∀ (pins : List (Addr × Obj)) (s : Shared) (σ : St) (H : Hp) (Q : Option Int → Hp → Prop), Inv X pins σ H s → t σ H Q →
    wpAny (model X.prog X.w) X.A (evalPart e X.env) (fun u s' => ∃ o H', Inv X pins σ H' s' ∧ IsPart u o ∧ Q o H') X.xe s
def tNoPart : TO := fun _ H Q => Q none H
def tPart (t : TE) : TO := fun σ H Q => t σ H fun x H1 => ∃ i, x = .int i ∧ Q (some i) H1

section
variable {X : Cx} {e : Expr} {te : TE} {lo hi : Option Expr} {tl th : TO} {pos p2 : Pos}

/-- what a slice of a value is, by values: the slice object stands at sl -/
def SlR (X : Cx) (r : V → Option Int → Option Int → Hp → VK → Prop) : Prop :=
  ∀ (pins : List (Addr × Obj)) (s : Shared) (σ : St) (H : Hp) (x : V) (v vl vu : Value) (lo hi : Option Int) (sl : Addr) (Q : VK), Inv X pins σ H s → RelV x v → s.heap.IsSliceOf sl vl vu .none → IsPart vl lo → IsPart vu hi → r x lo hi H Q →
    ∃ T id, typeLookup (.type T) "__getitem__" = pure (some (.builtin id)) ∧ s.TypeIs v T ∧ wpAny (model X.prog X.w) X.A (getItem v (.ref sl)) (EP X pins σ Q) X.xe s
theorem SlR.or {r r' : V → Option Int → Option Int → Hp → VK → Prop} (h : SlR X r) (h' : SlR X r') : SlR X (fun x lo hi H Q => r x lo hi H Q ∨ r' x lo hi H Q) := by
  intro pins s σ H x v vl vu lo hi sl Q I rx hs pl pu q
  rcases q with q | q
  · exact h pins s σ H x v vl vu lo hi sl Q I rx hs pl pu q
  · exact h' pins s σ H x v vl vu lo hi sl Q I rx hs pl pu q
def tSl (r : V → Option Int → Option Int → Hp → VK → Prop) (te : TE) (tl th : TO) : TE := fun σ H Q => te σ H fun x H1 => tl σ H1 fun l H2 => th σ H2 fun u H3 => r x l u H3 Q
/-- the items of xs[lo:hi] -/
def cutV (xs : List V) (lo hi : Option Int) : List V := (xs.drop (HT.sIx xs.length 0 lo)).take (HT.sIx xs.length xs.length hi - HT.sIx xs.length 0 lo)
/-- t[lo:hi], not the whole of it (the whole would be t itself) -/
def rSlT (K : PySem.W.Frag) : V → Option Int → Option Int → Hp → VK → Prop := fun x lo hi H Q => ∃ a xs, x = .ref a ∧ SqT K H a xs ∧
  ¬ (HT.sIx xs.length 0 lo = 0 ∧ HT.sIx xs.length xs.length hi = xs.length) ∧ ∀ p, H p = none → Q (.ref p) (upd H p (.tup (cutV xs lo hi)))
/-! ### t < u, t + u -/
def rLtT (K : PySem.W.Frag) : R2 := fun x y H Q => ∃ a b ns ms, x = .ref a ∧ y = .ref b ∧ SqT K H a (ns.map V.int) ∧ SqT K H b (ms.map V.int) ∧ Q (.bl (HT.lexLt ns ms)) H
/-- t + u, t not empty: u empty gives t itself -/
def rCatT (K : PySem.W.Frag) : R2 := fun x y H Q => ∃ a b xs ys, x = .ref a ∧ y = .ref b ∧ SqT K H a xs ∧ SqT K H b ys ∧ xs ≠ [] ∧ xs.length + ys.length ≤ sizeLine ∧
  (ys = [] → Q (.ref a) H) ∧ (ys ≠ [] → ∀ p, H p = none → Q (.ref p) (upd H p (.tup (xs ++ ys))))
theorem Vals.nil_iff {xs : List V} {us : List Value} (r : Vals xs us) : us = [] ↔ xs = [] := by
  cases r with
  | nil => simp
  | cons _ _ => simp
theorem op_catT : OpR X (binaryOp .Add) (rCatT X.K) := by
  intro pins s σ H x y v u Q I rx ry h
  obtain ⟨a, b, xs, ys, rfl, rfl, ha, hb, hx, hz, q1, q2⟩ := h
  cases rx
  cases ry
  obtain ⟨its, r1, p1, _⟩ := I.tuple ha
  obtain ⟨its2, r2, p2, _⟩ := I.tuple hb
  refine HT.cat_tup p1 p2 (fun z => hx (r1.nil_iff.mp z)) (fun z => ⟨.ref a, H, I, rfl, q1 (r2.nil_iff.mp z)⟩) (fun z => ?_) (by rw [← r1.length, ← r2.length]; exact hz)
  refine ⟨.ref s.heap.objs.size, _, I.laid (t' := s.toks) (o := .tup (xs ++ ys)) (fun b ob q => Heap.get?_push_of_some _ q) (Nat.le_refl _) ?_, rfl, q2 (fun w => z (r2.nil_iff.mpr w)) _ (I.hok.fresh (Nat.le_refl _))⟩
  exact ⟨by rw [List.length_append]; exact hz, _, r1.append r2, IsTup.new _ _⟩
end
end L2

namespace L2
open PySem PySem.Spec PyProof.Rows

/-! ### places -/
/-- the place that an index of any sign means -/
def ixN (n : Nat) (i : Int) : Option Nat := if 0 ≤ i then (if i < n then some i.toNat else none) else if -(n : Int) ≤ i then some (i + n).toNat else none
def atI {α : Type} (xs : List α) (i : Int) : Option α := (ixN xs.length i).bind fun j => xs[j]?
theorem ixN_seq {n : Nat} {i : Int} {j : Nat} (h : ixN n i = some j) : seqIndex? i n = some j ∧ j < n ∧ -(n : Int) ≤ i ∧ i < n := by
  unfold ixN at h
  by_cases h0 : 0 ≤ i
  · rw [if_pos h0] at h
    by_cases h1 : i < n
    · rw [if_pos h1] at h
      have e : i.toNat = j := Option.some.inj h
      exact ⟨by rw [seqIndex_of h0 h1, e], by omega, by omega, h1⟩
    · rw [if_neg h1] at h; cases h
  · rw [if_neg h0] at h
    by_cases h1 : -(n : Int) ≤ i
    · rw [if_pos h1] at h
      have e : (i + n).toNat = j := Option.some.inj h
      exact ⟨by rw [seqIndex_neg (by omega) h1, e], by omega, h1, by omega⟩
    · rw [if_neg h1] at h; cases h
theorem atI_get {α : Type} {xs : List α} {i : Int} {v : α} (h : atI xs i = some v) : ∃ j, seqIndex? i xs.length = some j ∧ xs[j]? = some v ∧ j < xs.length ∧ -(xs.length : Int) ≤ i ∧ i < xs.length := by
  unfold atI at h
  cases e : ixN xs.length i with
  | none => rw [e] at h; cases h
  | some j =>
    rw [e] at h
    obtain ⟨h1, h2, h3, h4⟩ := ixN_seq e
    exact ⟨j, h1, h, h2, h3, h4⟩
theorem atI_nat {α : Type} {xs : List α} {j : Nat} {v : α} (h : xs[j]? = some v) : atI xs (j : Int) = some v := by
  have hj : j < xs.length := (List.getElem?_eq_some_iff.mp h).1
  have e : ixN xs.length (j : Int) = some j := by
    unfold ixN
    rw [if_pos (by omega), if_pos (by omega)]; simp
  unfold atI; rw [e]; exact h
/-! ### what may be subscripted -/
/-- what stands as an index of a plain subscript -/
def PlainIx (b : Expr) : Prop := ∀ o i, subscripted b false o i = operate [o, i] (getItem o i)
/-- a subscript by values -/
def IxR (X : Cx) (r : R2) : Prop :=
  ∀ (value slice : Expr) (pins : List (Addr × Obj)) (s : Shared) (σ : St) (H : Hp) (x y : V) (v u : Value) (Q : VK), Inv X pins σ H s → RelV x v → RelV y u → r x y H Q →
    subscripted slice false v u = operate [v, u] (getItem v u) → wpAny (model X.prog X.w) X.A (subscriptTail value slice v u) (EP X pins σ Q) X.xe s
/-- a call of a builtin's method by values: the receiver, the arguments -/
def MtR (X : Cx) (id : String) (r : V → List V → Hp → VK → Prop) : Prop :=
  ∀ (pins : List (Addr × Obj)) (s : Shared) (σ : St) (H : Hp) (x : V) (xs : List V) (v : Value) (us : List Value) (Q : VK), Inv X pins σ H s → RelV x v → Vals xs us → r x xs H Q →
    wpAny (model X.prog X.w) X.A (call (.builtin id) (v :: us)) (EP X pins σ Q) X.xe s
section
variable {X : Cx} {a b : Expr} {ta tb : TE} {pos : Pos}
theorem IxR.or {r r' : R2} (h : IxR X r) (h' : IxR X r') : IxR X (fun x y H Q => r x y H Q ∨ r' x y H Q) := by
  intro value slice pins s σ H x y v u Q I rx ry q hs
  rcases q with q | q
  · exact h value slice pins s σ H x y v u Q I rx ry q hs
  · exact h' value slice pins s σ H x y v u Q I rx ry q hs
theorem MtR.or {id : String} {r r' : V → List V → Hp → VK → Prop} (h : MtR X id r) (h' : MtR X id r') : MtR X id (fun x xs H Q => r x xs H Q ∨ r' x xs H Q) := by
  intro pins s σ H x xs v us Q I rx rs q
  rcases q with q | q
  · exact h pins s σ H x xs v us Q I rx rs q
  · exact h' pins s σ H x xs v us Q I rx rs q
/-- a[b] -/
theorem pe_ix {r : R2} (hr : IxR X r) (ha : PE X a ta) (hb : PE X b tb) (hs : PlainIx b) : PE X (.Subscript a b pos) (tOp r ta tb) := by
  intro pins s σ H Q I h
  exact Subscript_ (binT ha hb I h fun v u s2 x y H2 I2 rx ry q => hr a b pins s2 σ H2 x y v u Q I2 rx ry q (hs _ _))

def rIxL (K : PySem.W.Frag) : R2 := fun x y H Q => ∃ p xs i v, x = .ref p ∧ y = .int i ∧ SqL K H p xs ∧ atI xs i = some v ∧ Q v H
def rIxT (K : PySem.W.Frag) : R2 := fun x y H Q => ∃ p xs i v, x = .ref p ∧ y = .int i ∧ SqT K H p xs ∧ atI xs i = some v ∧ Q v H
def rIxS : R2 := fun x y H Q => ∃ z i c, x = .str z ∧ y = .int i ∧ z.length ≤ sizeLine ∧ atI z.cps.toList i = some c ∧ Q (.str ⟨#[c]⟩) H
theorem ix_list : IxR X (rIxL X.K) := by
  intro value slice pins s σ H x y v u Q I rx ry h hs
  obtain ⟨p, xs, i, z, rfl, rfl, hq, he, q⟩ := h
  cases rx
  obtain ⟨t, rfl⟩ := ry
  obtain ⟨its, r, pl, hz⟩ := I.list hq
  obtain ⟨j, h1, h2, h3, h4, h5⟩ := atI_get he
  obtain ⟨w, ew, rw'⟩ := r.get h2
  have hl := r.length
  have hn := line63
  have fin : EP X pins σ Q w s := ⟨z, H, I, rw', q⟩
  by_cases h0 : 0 ≤ i
  · have hj : i.toNat = j := by
      rw [seqIndex_of h0 h5] at h1
      exact Option.some.inj h1
    exact item_listR pl.isList h0 (by omega) (by rw [hj]; simpa using ew) fin hs
  · have hj : (i + (its.toArray.size : Int)).toNat = j := by
      rw [seqIndex_neg (by omega) h4] at h1
      rw [List.size_toArray, ← hl]
      exact Option.some.inj h1
    exact subscriptTail_builtinR (x := w) pl.isList.typeIs slot_list_getitem.lookup
      (wpAny_getItem_list_neg (Q := fun r s' => r = w ∧ EP X pins σ Q r s') pl.isList (by omega) (by rw [List.size_toArray] <;> omega) (by omega) (by rw [hj]; simpa using ew) ⟨rfl, fin⟩) hs
theorem ix_tup : IxR X (rIxT X.K) := by
  intro value slice pins s σ H x y v u Q I rx ry h hs
  obtain ⟨p, xs, i, z, rfl, rfl, hq, he, q⟩ := h
  cases rx
  obtain ⟨t, rfl⟩ := ry
  obtain ⟨its, r, pl, hz⟩ := I.tuple hq
  obtain ⟨j, h1, h2, h3, h4, h5⟩ := atI_get he
  obtain ⟨w, ew, rw'⟩ := r.get h2
  have hl := r.length
  have hn := line63
  have fin : EP X pins σ Q w s := ⟨z, H, I, rw', q⟩
  exact subscriptTail_builtinR (x := w) pl.typeIs slot_tuple_getitem.lookup
    (getItem_tuple (j := j) (Q := fun r s' => r = w ∧ EP X pins σ Q r s') pl (by omega) (by omega) (by rw [List.size_toArray, ← hl]; exact h1) (by simpa using ew) ⟨rfl, fin⟩) hs
theorem ix_str : IxR X rIxS := by
  intro value slice pins s σ H x y v u Q I rx ry h hs
  obtain ⟨z, i, c, rfl, rfl, hz, he, q⟩ := h
  obtain ⟨t, rfl⟩ := rx
  obtain ⟨t', rfl⟩ := ry
  obtain ⟨j, h1, h2, h3, h4, h5⟩ := atI_get he
  have hl : z.cps.toList.length = z.length := by simp [Str.length]
  rw [hl] at h1 h4 h5
  have hn := line63
  exact tail_any (typeIs_str s z t) slot_str_getitem.lookup (getItem_str (c := c) (by
    have e1 : decide (i < -(2 ^ 63 : Int)) = false := decide_eq_false (by omega)
    have e2 : decide (i ≥ 2 ^ 63) = false := decide_eq_false (by omega)
    rw [e1, e2, Bool.or_false]) (by rw [h1]; simpa using h2) ⟨.str ⟨#[c]⟩, H, I.tok _, ⟨_, rfl⟩, q⟩) hs
/-- list, tuple or str -/
def rIx (K : PySem.W.Frag) : R2 := fun x y H Q => rIxL K x y H Q ∨ rIxT K x y H Q ∨ rIxS x y H Q
/-! ### xs[i] = v, any sign -/
/-- the list's object behind a store -/
theorem mapSeq_set (its : List Value) (n j : Nat) (u : Value) : Obj.mapSeq (·.setIfInBounds j u) { cls := .type "list", data := .seq its.toArray n } = { cls := .type "list", data := .seq (its.set j u).toArray n } := by
  simp [Obj.mapSeq]
theorem Inv.lst {pins : List (Addr × Obj)} {σ : St} {H : Hp} {s : Shared} {p : Addr} {xs : List V} (I : Inv X pins σ H s) (h : H p = some (.lst xs)) :
    ∃ (its : List Value) (n : Nat), Vals xs its ∧ s.heap.get? p = some { cls := .type "list", data := .seq its.toArray n } ∧ xs.length ≤ sizeLine := by
  obtain ⟨z, its, n, r, e⟩ := I.hok p _ h
  exact ⟨its, n, r, e, z⟩
/-- the list at p is written by an update of its object -/
theorem Inv.lstUpd {pins : List (Addr × Obj)} {σ : St} {H : Hp} {s : Shared} {p : Addr} {xs ys : List V} {its its' : List Value} {n n' : Nat} {f : Obj → Obj} (I : Inv X pins σ H s) (h : H p = some (.lst xs))
    (ho : s.heap.get? p = some { cls := .type "list", data := .seq its.toArray n }) (hf : f { cls := .type "list", data := .seq its.toArray n } = { cls := .type "list", data := .seq its'.toArray n' }) (r : Vals ys its') (hz : ys.length ≤ sizeLine) (t : Nat) :
    Inv X pins σ (upd H p (.lst ys)) { s with heap := s.heap.update p f, toks := t } := by
  have e : (s.heap.update p f).get? p = some { cls := .type "list", data := .seq its'.toArray n' } := by
    rw [Heap.get?_update_self f ho (by rw [hf] <;> rfl), hf]
  refine I.write (x := p) (e := p) (by rw [h]; trivial) (.inl rfl) (fun b u hb q => (Heap.get?_update_other _ _ (Ne.symm hb)).trans q) ⟨_, e⟩ ?_
  exact ⟨hz, its', n', r, e⟩
def rSetL : V → V → V → Hp → (Hp → Prop) → Prop := fun o i v H Q => ∃ p xs k j, o = .ref p ∧ i = .int k ∧ H p = some (.lst xs) ∧ ixN xs.length k = some j ∧ Q (upd H p (.lst (xs.set j v)))
theorem set_list : PSet X rSetL := by
  intro pins s σ H o i v ov iv u Q I ro ri rv h
  obtain ⟨p, xs, k, j, rfl, rfl, hp, hj, q⟩ := h
  cases ro
  obtain ⟨t, rfl⟩ := ri
  obtain ⟨its, n, r, ho, hz⟩ := I.lst hp
  obtain ⟨h1, h2, h3, h4⟩ := ixN_seq hj
  have hl := r.length
  have hn := line63
  have I' : Inv X pins σ (upd H p (.lst (xs.set j v))) { s with heap := s.heap.update p (Obj.mapSeq (·.setIfInBounds j u)) } :=
    I.lstUpd hp ho (mapSeq_set its n j u) (r.set rv j) (by rw [List.length_set]; exact hz) s.toks
  by_cases h0 : 0 ≤ k
  · have hk : k.toNat = j := by
      rw [seqIndex_of h0 h4] at h1
      exact Option.some.inj h1
    exact PySem.W.ki_setAt ho h0 (by omega) (by rw [List.size_toArray, ← hl]; exact h4) (by rw [hk]; exact ⟨_, I', q⟩)
  · have hk : (k + (its.toArray.size : Int)).toNat = j := by
      rw [seqIndex_neg (by omega) h3] at h1
      rw [List.size_toArray, ← hl]
      exact Option.some.inj h1
    exact PySem.W.ki_setBack ho (by omega) (by rw [List.size_toArray, ← hl]; exact h3) (by omega) (by rw [hk]; exact ⟨_, I', q⟩)

/-! ### slices -/
/-- xs[lo:hi] of a list: a new list -/
def rSlL (K : PySem.W.Frag) : V → Option Int → Option Int → Hp → VK → Prop := fun x lo hi H Q => ∃ a xs, x = .ref a ∧ SqL K H a xs ∧ ∀ p, H p = none → Q (.ref p) (upd H p (.lst (cutV xs lo hi)))
/-! ### in, not in: flat items -/
def flatV : V → Bool
  | .non => true
  | .bl _ => true
  | .int _ => true
  | .str _ => true
  | _ => false
/-- == of flat values -/
def eqV : V → V → Bool
  | .non, .non => true
  | .bl a, .bl b => a == b
  | .bl a, .int b => (if a then 1 else 0) == b
  | .int a, .bl b => a == (if b then 1 else 0)
  | .int a, .int b => a == b
  | .str a, .str b => a == b
  | _, _ => false
theorem eqAt_V {A : Around} {s : Shared} {y x : V} {u v : Value} (ry : RelV y u) (rx : RelV x v) (fy : flatV y = true) (fx : flatV x = true) : SeqAt.EqAt A s u v (eqV y x) := by
  cases y with
  | non =>
    cases ry
    cases x with
    | non => cases rx; exact SeqAt.EqAt.same _
    | bl b => cases rx; exact SeqAt.EqAt.none_bool b
    | int b => obtain ⟨t, rfl⟩ := rx; exact SeqAt.EqAt.none_int b t
    | str b => obtain ⟨t, rfl⟩ := rx; exact SeqAt.EqAt.none_str b t
    | _ => exact absurd (show false = true from fx) Bool.false_ne_true
  | bl a =>
    cases ry
    cases x with
    | non => cases rx; exact SeqAt.EqAt.bool_none a
    | bl b => cases rx; exact SeqAt.EqAt.bool_bool a b
    | int b => obtain ⟨t, rfl⟩ := rx; exact SeqAt.EqAt.bool_int a b t
    | str b => obtain ⟨t, rfl⟩ := rx; exact SeqAt.EqAt.bool_str a b t
    | _ => exact absurd (show false = true from fx) Bool.false_ne_true
  | int a =>
    obtain ⟨t', rfl⟩ := ry
    cases x with
    | non => cases rx; exact SeqAt.EqAt.int_none a t'
    | bl b => cases rx; exact SeqAt.EqAt.int_bool a t' b
    | int b => obtain ⟨t, rfl⟩ := rx; exact SeqAt.EqAt.int_int a t' b t
    | str b => obtain ⟨t, rfl⟩ := rx; exact SeqAt.EqAt.int_str a t' b t
    | _ => exact absurd (show false = true from fx) Bool.false_ne_true
  | str a =>
    obtain ⟨t', rfl⟩ := ry
    cases x with
    | non => cases rx; exact SeqAt.EqAt.str_none a t'
    | bl b => cases rx; exact SeqAt.EqAt.str_bool a t' b
    | int b => obtain ⟨t, rfl⟩ := rx; exact SeqAt.EqAt.str_int a t' b t
    | str b => obtain ⟨t, rfl⟩ := rx; exact SeqAt.EqAt.str_str a t' b t
    | _ => exact absurd (show false = true from fx) Bool.false_ne_true
  | _ => exact absurd (show false = true from fy) Bool.false_ne_true
/-- the items' answers, read off the values (a value's own answer does not lean on its token) -/
def eqU (x : V) (u : Value) : Bool := match u with
  | .none => eqV .non x
  | .bool b => eqV (.bl b) x
  | .int i _ => eqV (.int i) x
  | .str z _ => eqV (.str z) x
  | _ => false
theorem eqU_of {x y : V} {u : Value} (r : RelV y u) (f : flatV y = true) : eqU x u = eqV y x := by
  cases y with
  | non => cases r; rfl
  | bl b => cases r; rfl
  | int i => obtain ⟨t, rfl⟩ := r; rfl
  | str z => obtain ⟨t, rfl⟩ := r; rfl
  | _ => exact absurd (show false = true from f) Bool.false_ne_true
theorem any_eqU {x : V} : ∀ {xs : List V} {us : List Value}, Vals xs us → xs.all flatV = true → us.any (eqU x) = xs.any fun y => eqV y x
  | _, _, .nil, _ => rfl
  | y :: xs, u :: us, .cons r t, f => by
    rw [List.all_cons, Bool.and_eq_true] at f
    rw [List.any_cons, List.any_cons, eqU_of r f.1, any_eqU t f.2]
theorem mem_eqAt {A : Around} {s : Shared} {x : V} {v : Value} (rx : RelV x v) (fx : flatV x = true) : ∀ {xs : List V} {us : List Value}, Vals xs us → xs.all flatV = true → ∀ u ∈ us, SeqAt.EqAt A s u v (eqU x u)
  | _, _, .nil, _ => fun u hu => by cases hu
  | y :: xs, u :: us, .cons r t, f => fun u' hu => by
    rw [List.all_cons, Bool.and_eq_true] at f
    rcases List.mem_cons.mp hu with rfl | hu
    · rw [eqU_of r f.1]; exact eqAt_V r rx f.1 fx
    · exact mem_eqAt rx fx t f.2 u' hu
def inV (x : V) (xs : List V) : Bool := xs.any fun y => eqV y x
/-- x in a list or tuple of flat items -/
def rIn (K : PySem.W.Frag) (neg : Bool) : R2 := fun x y H Q => ∃ p xs, y = .ref p ∧ (SqL K H p xs ∨ SqT K H p xs) ∧ flatV x = true ∧ xs.all flatV = true ∧ Q (.bl (if neg then !inV x xs else inV x xs)) H
theorem op_in_seq : OpR X (compareOp .In) (rIn X.K false) := by
  intro pins s σ H x y v u Q I rx ry h
  obtain ⟨p, xs, rfl, hq, fx, fs, q⟩ := h
  cases ry
  rcases hq with hq | hq
  · obtain ⟨its, r, pl, hz⟩ := I.list hq
    refine SeqAt.in_listAt (eqU x) pl.isList (fun w hw => mem_eqAt rx fx r fs w (by simpa using hw)) ⟨.bl _, H, I, rfl, ?_⟩
    rw [show its.toArray.any (eqU x) = its.any (eqU x) by simp, any_eqU r fs]
    exact q
  · obtain ⟨its, r, pl, hz⟩ := I.tuple hq
    refine SeqAt.in_tupleAt (eqU x) pl (fun w hw => mem_eqAt rx fx r fs w (by simpa using hw)) ⟨.bl _, H, I, rfl, ?_⟩
    rw [show its.toArray.any (eqU x) = its.any (eqU x) by simp, any_eqU r fs]
    exact q
/-! ### len, list(x), tuple(x) of any list or tuple that is read -/
theorem call_len_seq : CallR X (.builtin "len") (fun xs H Q => ∃ p ys, xs = [.ref p] ∧ (SqL X.K H p ys ∨ SqT X.K H p ys) ∧ Q (.int ys.length) H) := by
  intro pins s σ H xs us Q I r h
  obtain ⟨p, ys, rfl, hq, q⟩ := h
  obtain ⟨u, rfl, rx⟩ := vals1 r
  cases rx
  have hn := line63
  rcases hq with hq | hq
  · obtain ⟨its, r', pl, hz⟩ := I.list hq
    have hlen := r'.length
    exact Calls.call_len_list pl.isList (by simp only [List.size_toArray] <;> omega) ⟨.int ys.length, H, I.tok _, ⟨s.toks + 1, by rw [List.size_toArray, hlen]⟩, q⟩
  · obtain ⟨its, r', pl, hz⟩ := I.tuple hq
    have hlen := r'.length
    exact len_tuple pl (by simp only [List.size_toArray] <;> omega) ⟨.int ys.length, H, I.tok _, ⟨s.toks + 1, by rw [List.size_toArray, hlen]⟩, q⟩
theorem call_len_str : CallR X (.builtin "len") (fun xs H Q => ∃ z, xs = [.str z] ∧ z.length ≤ sizeLine ∧ Q (.int z.length) H) := by
  intro pins s σ H xs us Q I r h
  obtain ⟨z, rfl, hz, q⟩ := h
  obtain ⟨u, rfl, t, rfl⟩ := vals1 r
  have hn := line63
  exact len_str (by omega) ⟨.int z.length, H, I.tok _, ⟨_, rfl⟩, q⟩
theorem CallR.or {f : Value} {r r' : List V → Hp → VK → Prop} (h : CallR X f r) (h' : CallR X f r') : CallR X f (fun xs H Q => r xs H Q ∨ r' xs H Q) := by
  intro pins s σ H xs us Q I rs q
  rcases q with q | q
  · exact h pins s σ H xs us Q I rs q
  · exact h' pins s σ H xs us Q I rs q
theorem call_list_of : CallR X (.type "list") (fun xs H Q => ∃ p ys, xs = [.ref p] ∧ (SqL X.K H p ys ∨ SqT X.K H p ys) ∧ ∀ l, H l = none → Q (.ref l) (upd H l (.lst ys))) := by
  intro pins s σ H xs us Q I r h
  obtain ⟨p, ys, rfl, hq, q⟩ := h
  obtain ⟨u, rfl, rx⟩ := vals1 r
  cases rx
  have fin : ∀ (its : List Value), Vals ys its → ys.length ≤ sizeLine → ∀ (h' : Heap) (c' : Nat), (∀ b o', s.heap.get? b = some o' → h'.get? b = some o') →
      h'.get? s.heap.objs.size = some { cls := .type "list", dict := none, data := .seq its.toArray c', slots := #[] } → EP X pins σ Q (.ref s.heap.objs.size) { s with heap := h' } := fun its r' hz h' c' kp e =>
    ⟨.ref s.heap.objs.size, _, I.laid (t' := s.toks) kp (Nat.le_refl _) (show ObjOk X.prog X.w _ h' _ (.lst ys) from ⟨hz, its, c', r', e⟩), rfl, q _ (I.hok.fresh (Nat.le_refl _))⟩
  rcases hq with hq | hq
  · obtain ⟨its, r', pl, hz⟩ := I.list hq
    have hlen := r'.length
    obtain ⟨o, ho, hc, n, hd⟩ := pl.isList
    exact call_list_seq p (.inl rfl) ho hc hd (fun h' c' kp e => fin its r' hz h' c' kp e) (by simp only [List.size_toArray] <;> omega)
  · obtain ⟨its, r', pl, hz⟩ := I.tuple hq
    have hlen := r'.length
    obtain ⟨o, ho, hc, n, hd⟩ := pl
    exact call_list_seq p (.inr rfl) ho hc hd (fun h' c' kp e => fin its r' hz h' c' kp e) (by simp only [List.size_toArray] <;> omega)
theorem call_tuple_of : CallR X (.type "tuple") (fun xs H Q => ∃ p ys, xs = [.ref p] ∧ ((SqL X.K H p ys ∧ ∀ l, H l = none → Q (.ref l) (upd H l (.tup ys))) ∨ (SqT X.K H p ys ∧ Q (.ref p) H))) := by
  intro pins s σ H xs us Q I r h
  obtain ⟨p, ys, rfl, h⟩ := h
  obtain ⟨u, rfl, rx⟩ := vals1 r
  cases rx
  rcases h with ⟨hq, q⟩ | ⟨hq, q⟩
  · obtain ⟨its, r', pl, hz⟩ := I.list hq
    have hlen := r'.length
    refine call_tuple_list pl.isList (fun h' kp => ?_) (by simp only [List.size_toArray] <;> omega)
    have I1 : Inv X pins σ H { s with heap := h' } := I.kept (t' := s.toks) kp
    have I2 : Inv X pins σ (upd H h'.objs.size (.tup ys)) { s with heap := h'.push { cls := .type "tuple", data := .seq its.toArray } } :=
      I1.laid (t' := s.toks) (fun b o e => Heap.get?_push_of_some _ e) (Nat.le_refl _) (show ObjOk X.prog X.w _ _ _ (.tup ys) from ⟨hz, its, r', IsTup.new _ _⟩)
    exact ⟨.ref h'.objs.size, _, I2, rfl, q _ (I1.hok.fresh (Nat.le_refl _))⟩
  · obtain ⟨its, r', pl, hz⟩ := I.tuple hq
    exact call_tuple_same pl ⟨.ref p, H, I, rfl, q⟩

/-! ### the call of a builtin's method: o.m(..) -/
/-- the value is of that builtin type -/
def tyV (K : PySem.W.Frag) (T : String) (x : V) (H : Hp) : Prop := match x with
  | .str _ => T = "str"
  | .int _ => T = "int"
  | .ref p => (T = "list" ∧ ∃ xs, SqL K H p xs) ∨ (T = "tuple" ∧ ∃ o, K.lookup p = some o ∧ o.cls = .type "tuple" ∧ o.dict = none) ∨
      (T = "dict" ∧ ((∃ kvs, H p = some (.dK kvs)) ∨ ∃ kvs, H p = some (.dT kvs))) ∨ (T = "set" ∧ ∃ S n, H p = some (.set S n))
  | _ => False
theorem tyV_is {pins : List (Addr × Obj)} {σ : St} {H : Hp} {s : Shared} {T : String} {x : V} {v : Value} (I : Inv X pins σ H s) (r : RelV x v) (ty : tyV X.K T x H) :
    s.TypeIs v T ∧ ∀ a, v = .ref a → ∃ ob, s.heap.get? a = some ob ∧ ob.dict = none := by
  cases x with
  | str z =>
    obtain ⟨t, rfl⟩ := r
    cases (show T = "str" from ty)
    exact ⟨typeIs_str s z t, fun _ e => nomatch e⟩
  | int i =>
    obtain ⟨t, rfl⟩ := r
    cases (show T = "int" from ty)
    exact ⟨typeIs_int s i t, fun _ e => nomatch e⟩
  | ref p =>
    cases r
    rcases ty with ⟨rfl, xs, hq⟩ | ⟨rfl, o, hk, hc, hd⟩ | ⟨rfl, hk⟩ | ⟨rfl, S, n, hk⟩
    · obtain ⟨its, _, pl, _⟩ := I.list hq
      refine ⟨pl.isList.typeIs, fun a e => ?_⟩
      cases e
      obtain ⟨o, n, e, c, hd, _⟩ := pl
      exact ⟨o, e, hd⟩
    · refine ⟨⟨o, I.kIn p o hk, hc⟩, fun a e => ?_⟩
      cases e
      exact ⟨o, I.kIn _ o hk, hd⟩
    · have z : ∃ o, s.heap.get? p = some o ∧ o.ExactDict := by
        rcases hk with ⟨kvs, hk⟩ | ⟨kvs, hk⟩
        · obtain ⟨_, _, _, _, o, _, _, e, ex, _⟩ := I.hok p _ hk
          exact ⟨o, e, ex⟩
        · obtain ⟨_, _, _, _, o, _, _, e, ex, _⟩ := I.hok p _ hk
          exact ⟨o, e, ex⟩
      obtain ⟨o, e, ex⟩ := z
      refine ⟨⟨o, e, ex.1⟩, fun a e2 => ?_⟩
      cases e2
      exact ⟨o, e, ex.2.1⟩
    · obtain ⟨o, _, _, _, e, ex, _⟩ := I.hok p _ hk
      refine ⟨⟨o, e, ex.1⟩, fun a e2 => ?_⟩
      cases e2
      exact ⟨o, e, ex.2.1⟩
  | _ => exact False.elim ty
def tBM0 (K : PySem.W.Frag) (T : String) (r : V → List V → Hp → VK → Prop) (to : TE) : TE := fun σ H Q => to σ H fun x H1 => tyV K T x H1 ∧ r x [] H1 Q
def tBM (K : PySem.W.Frag) (T : String) (r : V → List V → Hp → VK → Prop) (to : TE) (t : TA) : TE := fun σ H Q => to σ H fun x H1 => tyV K T x H1 ∧ t σ H1 fun xs H2 => r x xs H2 Q
variable {o e : Expr} {es : List Expr} {to : TE} {t : TA} {name : Str} {apos cpos : Pos} {T id : String} {r : V → List V → Hp → VK → Prop}
theorem pe_bm (pa : PlainAttrs T) (slot : Slot T name id) (hty : typeOf (.builtin id) = pure (.type "method_descriptor")) (hm : MtR X id r) (ho : PE X o to) (ha : PA X (e :: es) t)
    (hbase : attributeBase o name X.env (eval o X.env) = eval o X.env := by rfl)
    (hfew : ((backTo cpos (starEach (e :: es) X.env)).all (fun x => !x.1) && (backToKw cpos (keywordEach [] X.env)).all (fun x => x.1.isSome)
      && decide ((e :: es).length + ([] : List Keyword).length + (if ([] : List Keyword).isEmpty then 0 else 1) < 30)) = true := by rfl)
    (hline : (apos.endLine == cpos.line) = true := by rfl) (hs : starEach (e :: es) X.env = (false, eval e X.env) :: starEach es X.env := by rfl) (hplain : (backTo cpos (starEach es X.env)).any (·.1) = false := by rfl) :
    PE X (.Call (.Attribute o name apos) (e :: es) [] cpos) (tBM X.K T r to t) := by
  intro pins s σ H Q I h
  refine wpAny_Call_method_late hbase hfew hline rfl (thn (ho pins s σ H _ I h) fun v s1 ⟨x, H1, I1, r1, ty, q1⟩ => ?_)
  obtain ⟨h1, h2⟩ := tyV_is I1 r1 ty
  refine ⟨T, id, pa, slot, hty, h1, h2, ?_⟩
  have hA := ha cpos pins s1 σ H1 _ I1 q1
  rw [hs] at hA ⊢
  refine Calls.callWith_builtin (by show (false || (backTo cpos (starEach es X.env)).any (·.1)) = false; rw [hplain] <;> rfl) (Calls.evalArgs_plain ?_)
  exact thn hA fun us s2 ⟨vs, H2, I2, r2, q2⟩ => hm pins s2 σ H2 x vs v us Q I2 r1 r2 q2
/- xs.append(e), list.index on a module's tuple .. are MtR facts of 06m -/
end
end L2

namespace L2
open PySem PySem.Spec PyProof.Rows

def MtM (X : Cx) (id : String) (r : V → List V → Hp → VK → Prop) : Prop :=
  ∀ (pins : List (Addr × Obj)) (s : Shared) (σ : St) (H : Hp) (x : V) (xs : List V) (v : Value) (us : List Value) (Q : VK), Inv X pins σ H s → RelV x v → Vals xs us → r x xs H Q →
    wpAny (model X.prog X.w) X.A (call (.builtin id) (v :: us)) (EP X pins σ Q) X.xe s

/-! ### lists of values -/
theorem Vals.one : ∀ {x : V} {us : List Value}, Vals [x] us → ∃ u, us = [u] ∧ RelV x u
  | _, _, .cons r .nil => ⟨_, rfl, r⟩
theorem Vals.two : ∀ {x y : V} {us : List Value}, Vals [x, y] us → ∃ u v, us = [u, v] ∧ RelV x u ∧ RelV y v
  | _, _, _, .cons r (.cons q .nil) => ⟨_, _, rfl, r, q⟩
theorem Vals.zero : ∀ {us : List Value}, Vals [] us → us = []
  | _, .nil => rfl
theorem Vals.dropLast {xs : List V} {us : List Value} (h : Vals xs us) : Vals xs.dropLast us.dropLast := by
  induction h with
  | nil => exact .nil
  | cons r t ih =>
    cases t with
    | nil => exact .nil
    | cons q t' => exact .cons r ih
theorem Vals.eraseIdx : ∀ {xs : List V} {us : List Value} (i : Nat), Vals xs us → Vals (xs.eraseIdx i) (us.eraseIdx i)
  | _, _, _, .nil => .nil
  | _, _, 0, .cons _ t => t
  | _, _, i + 1, .cons r t => .cons r (Vals.eraseIdx i t)
theorem Vals.reverse {xs : List V} {us : List Value} (h : Vals xs us) : Vals xs.reverse us.reverse := by
  induction h with
  | nil => exact .nil
  | cons r t ih => rw [List.reverse_cons, List.reverse_cons]; exact Vals.append ih (.cons r .nil)
theorem len_erase {α : Type} : ∀ (l : List α) (i : Nat), (l.eraseIdx i).length ≤ l.length
  | [], _ => Nat.le_refl _
  | _ :: _, 0 => Nat.le_succ _
  | _ :: r, i + 1 => Nat.succ_le_succ (len_erase r i)
section
variable {X : Cx} {pins : List (Addr × Obj)} {σ : St} {H : Hp} {s : Shared} {l b : Addr} {xs ys zs : List V}

/-! ### the two steps: a tracked list is rewritten, a new list is laid -/
theorem Inv.lset {its its' : List Value} {n : Nat} {f : Array Value → Array Value} {t' : Nat} (I : Inv X pins σ H s) (hH : H l = some (.lst xs))
    (e : s.heap.get? l = some { cls := .type "list", data := .seq its.toArray n }) (hf : f its.toArray = its'.toArray) (hv : Vals ys its') (hz : ys.length ≤ sizeLine) :
    Inv X pins σ (upd H l (.lst ys)) { s with heap := s.heap.update l (Obj.mapSeq f), toks := t' } := by
  have q := PySem.IsL.update e f
  rw [hf] at q
  refine I.write (x := l) (e := l) (by rw [hH]; exact trivial) (.inl rfl) (fun b' u hb hu => (Heap.get?_update_other s.heap (Obj.mapSeq f) (Ne.symm hb)).trans hu) ⟨_, q⟩ ?_
  exact ⟨hz, its', _, hv, q⟩
theorem Inv.lnew {its : List Value} {t' : Nat} (I : Inv X pins σ H s) (hv : Vals ys its) (hz : ys.length ≤ sizeLine) :
    Inv X pins σ (upd H s.heap.objs.size (.lst ys)) { s with heap := s.heap.push { cls := .type "list", data := .seq its.toArray }, toks := t' } :=
  I.laid (fun _ _ q => Heap.get?_push_of_some _ q) (Nat.le_refl _) ⟨hz, its, 0, hv, Heap.get?_push_size _ rfl⟩
theorem Inv.fresh (I : Inv X pins σ H s) : H s.heap.objs.size = none := I.hok.fresh (Nat.le_refl _)
theorem Inv.lstM (I : Inv X pins σ H s) (hH : H l = some (.lst xs)) : xs.length ≤ sizeLine ∧ ∃ (its : List Value) (n : Nat), Vals xs its ∧ xs.length = its.length ∧ s.heap.get? l = some { cls := .type "list", data := .seq its.toArray n } := by
  obtain ⟨z, its, n, r, e⟩ := I.hok l _ hH
  exact ⟨z, its, n, r, r.length, e⟩

end

section
variable {X : Cx}

/-! ### methods -/
def rAppend : V → List V → Hp → VK → Prop := fun x vs H Q => ∃ l xs y, x = .ref l ∧ vs = [y] ∧ H l = some (.lst xs) ∧ xs.length < sizeLine ∧ Q .non (upd H l (.lst (xs ++ [y])))
theorem mt_append : MtM X "list.append" rAppend := by
  intro pins s σ H x vs v us Q I rx rv h
  obtain ⟨l, xs, y, rfl, rfl, hH, hz, q⟩ := h
  cases rx
  obtain ⟨u, rfl, ru⟩ := rv.one
  obtain ⟨z, its, n, r, hl, e⟩ := I.lstM hH
  refine call_meets F.slot_list_append ⟨_, e, rfl⟩ F.entry_list_append (F.args_list_append_2 _ _) (PySem.list_append l its.toArray n u (by rw [List.size_toArray]; omega)) ⟨e, ?_⟩
  refine ⟨.non, _, I.lset (its' := its ++ [u]) hH e (by simp) (r.append (.cons ru .nil)) ?_, rfl, q⟩
  rw [List.length_append, List.length_singleton]
  omega

def rExtend : V → List V → Hp → VK → Prop := fun x vs H Q => ∃ l b xs zs, x = .ref l ∧ vs = [.ref b] ∧ H l = some (.lst xs) ∧ H b = some (.lst zs) ∧ xs.length + zs.length ≤ sizeLine ∧ Q .non (upd H l (.lst (xs ++ zs)))
def rPop : V → List V → Hp → VK → Prop := fun x vs H Q => ∃ l xs y, x = .ref l ∧ vs = [] ∧ H l = some (.lst xs) ∧ xs[xs.length - 1]? = some y ∧ Q y (upd H l (.lst xs.dropLast))
def rPopAt : V → List V → Hp → VK → Prop := fun x vs H Q => ∃ l xs i k y, x = .ref l ∧ vs = [.int i] ∧ H l = some (.lst xs) ∧ -(2 ^ 63) ≤ i ∧ i < 2 ^ 63 ∧ seqIndex? i xs.length = some k ∧ xs[k]? = some y ∧ Q y (upd H l (.lst (xs.eraseIdx k)))
theorem mt_popAt : MtM X "list.pop" rPopAt := by
  intro pins s σ H x vs v us Q I rx rv h
  obtain ⟨l, xs, i, k, y, rfl, rfl, hH, h1, h2, hk, hy, q⟩ := h
  cases rx
  obtain ⟨u, rfl, ru⟩ := rv.one
  obtain ⟨t, rfl⟩ := ru
  obtain ⟨z, its, n, r, hl, e⟩ := I.lstM hH
  obtain ⟨w, hw, rw'⟩ := r.get hy
  refine call_meets F.slot_list_pop ⟨_, e, rfl⟩ F.entry_list_pop (F.args_list_pop_2 _ _)
    (MeetsSeq.list_pop_at l its.toArray n i t k w (fitsIndex_both h1 h2) (by rw [List.size_toArray, ← hl]; exact hk) (by rw [← Array.getElem?_toList]; exact hw) (by rw [List.size_toArray]; omega)) ⟨e, ?_⟩
  refine ⟨y, _, I.lset (its' := its.eraseIdx k) hH e ?_ (r.eraseIdx k) ?_, rw', q⟩
  · show its.toArray.eraseIdxIfInBounds k = (its.eraseIdx k).toArray
    rw [List.eraseIdxIfInBounds_toArray]
  · have := len_erase xs k
    omega

def rReverse : V → List V → Hp → VK → Prop := fun x vs H Q => ∃ l xs, x = .ref l ∧ vs = [] ∧ H l = some (.lst xs) ∧ Q .non (upd H l (.lst xs.reverse))
def rClear : V → List V → Hp → VK → Prop := fun x vs H Q => ∃ l xs, x = .ref l ∧ vs = [] ∧ H l = some (.lst xs) ∧ Q .non (upd H l (.lst []))
/-! ### list + list, list += list, list * int -/
def rCat : R2 := fun x y H Q => ∃ l b xs zs, x = .ref l ∧ y = .ref b ∧ H l = some (.lst xs) ∧ H b = some (.lst zs) ∧ xs.length + zs.length ≤ sizeLine ∧ ∀ p, H p = none → Q (.ref p) (upd H p (.lst (xs ++ zs)))
theorem op_cat : OpR X (binaryOp .Add) rCat := by
  intro pins s σ H x y v u Q I rx ry h
  obtain ⟨l, b, xs, zs, rfl, rfl, hH, hB, hz, q⟩ := h
  cases rx
  cases ry
  obtain ⟨z, its, n, r, hl, e⟩ := I.lstM hH
  obtain ⟨z2, its2, n2, r2, hl2, e2⟩ := I.lstM hB
  refine PySem.P.add_list e e2 ?_ (by rw [List.size_toArray, List.size_toArray]; omega)
  have ea : its.toArray ++ its2.toArray = (its ++ its2).toArray := by simp
  rw [ea]
  exact ⟨.ref _, _, I.lnew (t' := s.toks) (r.append r2) (by rw [List.length_append]; omega), rfl, q _ I.fresh⟩
/-- a list times an int (a negative one is nothing) -/
def rRep : R2 := fun x y H Q => ∃ l k xs, x = .ref l ∧ y = .int k ∧ H l = some (.lst xs) ∧ -(2 ^ 63) ≤ k ∧ k < 2 ^ 63 ∧ xs.length * k.toNat ≤ sizeLine ∧
  ∀ p, H p = none → Q (.ref p) (upd H p (.lst (List.replicate k.toNat xs).flatten))
/-! ### del xs[i] -/
end

/-! ### xs[a:b] = ys -/
section
variable {prog : Program} {w : World} {A : Around} {E : Value → Shared → Prop} {s : Shared}
end

section
variable {X : Cx}
end
end L2

namespace Att
open PySem PySem.W PySem.Calls PyProof.Rows

/-! ### the script -/
theorem ints_of_wellAll {P : Params} {h : Heap} : ∀ (ns : List Int) (vs : List Value), WellAll P h vs (ns.map WData.int) → IntsAre vs ns := by
  intro ns
  induction ns with
  | nil =>
    intro vs w
    rw [List.map_nil] at w
    cases w
    exact .nil
  | cons n ns ih =>
    intro vs w
    rw [List.map_cons] at w
    cases w with
    | cons a b =>
      cases a
      exact .cons _ _ (ih _ b)

theorem script_of {l : OpenLaw} {n : Nat} (hn : l.most = some n) {P : Params} {h : Heap} {args : List WData} {vals : List Value}
    (hpre : l.row.toRowW.claim.pre args = true) (hwl : WellAll P h vals args) :
    ∃ a vs ns, vals = [Value.ref a] ∧ args = [WData.list (ns.map WData.int)] ∧ h.get? a = some { cls := .type "list", data := .seq vs.toArray } ∧ IntsAre vs ns ∧ ns.length ≤ n := by
  have hsh : WShape.hasAll [] args [.list .int] = true := (pre_splitW hpre).1
  have hc : l.pre.holds [] { args := args } = true := (pre_splitW hpre).2
  obtain ⟨d, r, rfl, h1, h2⟩ := hasAllW_cons hsh
  obtain rfl := hasAllW_nil h2
  obtain ⟨xs, rfl, h3⟩ := hasW_list h1
  obtain ⟨ns, rfl⟩ := items_int h3
  have hlen : ns.length ≤ n := by
    unfold OpenLaw.pre at hc
    have h4 : (WTm.not (.lt (.lit (.int (n : Int))) (.len (.arg 0)))).holds [] { args := [.list (ns.map .int)] } = true := by
      have h4 := (holds_andW hc).1
      rw [hn] at h4
      exact h4
    have h5 := condW_of h4 (w_not (w_lt w_lit (w_len_list (w_arg rfl))))
    rw [List.length_map] at h5
    refine Nat.le_of_not_lt fun q => ?_
    have q' : (n : Int) < ((ns.length : Nat) : Int) := by omega
    first
      | (rw [decide_eq_true q'] at h5; exact absurd h5 (by decide))
      | (simp at h5; omega)
  cases hwl with
  | cons w1 w2 =>
    cases w2
    cases w1 with
    | list ho hall => exact ⟨_, _, ns, rfl, rfl, ho, ints_of_wellAll ns _ hall, hlen⟩

theorem post_true (l : OpenLaw) (args : List WData) : l.row.toRowW.claim.post args (.bool true) args = true :=
  postW_of (r := l.row.toRowW) (X := (true == true))
    (show WShape.has [] (.bool true) .bool = true by first | rfl | decide | simp [WShape.has, WShape.arms, WShape.armsAll])
    (show (WTm.eq .res (.lit (.bool true))).value [] { args := args, res := some (.bool true), after := args } = some (.bool (true == true)) from w_eq_bool (w_res rfl) w_lit) rfl

/-! ### the attachment: holds_open's last premise (the goal 'hc' behind k_head) from a wpAny of the law's body -/
/-- the same from a codeAny of the CALL (for a layer whose function contracts speak of calls) -/
theorem attach_call {l : OpenLaw} {n : Nat} {q : Program} {loose : List Str} {XP : (Str → Option Value) → Heap → Prop} {YP : World → Heap → Prop} {d : DefRec}
    (hn : l.most = some n) (hdf : d.params.defaults = [])
    (call : ∀ (w : World) (s₀ s₁ : Shared) (mg mb : Str → Option Value) (fa : Addr) (o : Obj) (pm cd doc : Value) (a : Addr) (vs : List Value) (ns : List Int),
      Ground q loose [] XP w s₀ mg mb s₁.heap → YP w s₁.heap →
      s₁.heap.get? fa = some o → o.data = .func (docDef d.name d.params d.body d.scope pm cd doc) → s₁.heap.CodeRec cd d.name → mg d.name = some (.ref fa) →
      s₁.heap.get? a = some { cls := .type "list", data := .seq vs.toArray } → IntsAre vs ns → ns.length ≤ n → s₁.gens = #[] →
      codeAny (model l.prog w) callerA (.call (.ref fa) ⟨[.ref a], []⟩) (fun r s' => r = .ok (.ret (.bool true)) ∧ OldK s₁.heap s'.heap ∧ s'.os = s₁.os ∧ AllBare s'.gens) s₁) :
    WalkO q loose XP YP l.row.toRowW d [] (fun f vs => PySem.call f vs) := by
  intro w s₀ s₁ mg mb G Y fa o pm cd doc dV kV ho hd hcd hD hmg hg args vals as hpre hlay hrd hwl hlo
  obtain rfl : dV = .none := Dflts.none hD hdf
  obtain rfl : kV = .none := Dflts.noKw hD
  obtain ⟨a, vs, ns, rfl, rfl, hobj, hints, hlen⟩ := script_of hn hpre hwl
  refine enter_call (codeAny_mono (call w s₀ s₁ mg mb fa o pm cd doc a vs ns G Y ho (fd_plain hd) hcd hmg hobj hints hlen hg) fun r s' hq => ?_)
  obtain ⟨rfl, h2, h3, h4⟩ := hq
  exact ⟨.inl ⟨.bool true, .bool true, [], rfl, fun _ => rfl, .bool true, post_true l _, fun _ => ⟨List.Pairwise.nil, fun _ hm => (nomatch hm)⟩⟩, h2, h3, h4⟩

/-! ### rules over ANY heap (no ledger) from facts about the written part K: the library's own take a ledger (News) for what they write -/
section
variable {prog : Program} {w : World} {A : Around} {E : Value → Shared → Prop} {s : Shared} {K : Frag}

/-! the whole heap as the ledger: makes every rule that writes through a ledger a rule over any heap -/
def noObjs (h : Heap) : Heap := { h with objs := #[] }
def ledger (h : Heap) (L d : Addr) : List (Addr × Obj) := (List.range h.objs.size).filterMap fun a => if a = L ∨ a = d then none else (h.get? a).map fun o => (a, o)
end
end Att

namespace L2
open PySem PySem.Spec PyProof.Rows

theorem vals_ints : ∀ {vs : List Value} {ns : List Int}, IntsAre vs ns → Vals (ns.map V.int) vs
  | _, _, .nil => .nil
  | _, _, .cons n t h => .cons ⟨t, rfl⟩ (vals_ints h)

/-- nothing is tracked but the script, known to the object (or it is an object of the module) -/
def Only (H : Hp) : Prop := ∀ b, H b = none ∨ ∃ o xs, H b = some (.frz o (.lst xs))

/-- THE HEAD: the law's promise, at the heap behind the top. F, the promise of the law's def, may use that base is part of the heap (so K.In base, base.Ns mainGlobals mg stand in Mod) -/
theorem law_call {P : Program} {w : World} {K : PySem.W.Frag} {mg mb : Str → Option Value} {CX : CXT} {k : Nat} {fa a : Addr} {fd : FuncData} {x : Str} {sp : Sp} {s₁ : Shared} {vs : List Value} {ns : List Int}
    (KX : K.In s₁.heap) (hns : s₁.heap.Ns mainGlobals mg) (hb : s₁.heap.Ns builtinsNs mb) (hbb : ∀ x : Str, x ≠ "__name__" → mb x = bootBuiltins x) (hlim : s₁.heap.NoLimit) (hg : s₁.gens = #[])
    (ha : s₁.heap.get? a = some { cls := .type "list", data := .seq vs.toArray }) (hi : IntsAre vs ns) (hl : ns.length ≤ sizeLine) (hr : Room k callerA)
    (F : ∀ base : Heap, K.In base → base.Ns mainGlobals mg → FnOk P w K mg base CX k fa fd [x] sp) (hbind : ∀ (s : Shared) (u : Value), BindsTo s fd ⟨[u], []⟩ [(x, u)])
    (hsp : ∀ H : Hp, Only H → SqL K H a (ns.map V.int) → sp [.ref a] H (fun v _ => v = .bl true) fun _ _ _ => False)
    (hCX : ∀ H e s', CX [] H s₁ (fun _ _ _ => False) e s' → False) :
    codeAny (model P w) callerA (.call (.ref fa) ⟨[.ref a], []⟩) (fun r s' => r = .ok (.ret (.bool true)) ∧ OldK s₁.heap s'.heap ∧ s'.os = s₁.os ∧ AllBare s'.gens) s₁ := by
  have rv := vals_ints hi
  have lenV := hi.length
  -- from an abstract heap in which nothing but the script may be tracked
  have core : ∀ H : Hp, Only H → SqL K H a (ns.map V.int) → HOk P w H s₁.heap → (∀ b, H b ≠ none → b = a) → (H a ≠ none → K.lookup a = none) →
      codeAny (model P w) callerA (.call (.ref fa) ⟨[.ref a], []⟩) (fun r s' => r = .ok (.ret (.bool true)) ∧ OldK s₁.heap s'.heap ∧ s'.os = s₁.os ∧ AllBare s'.gens) s₁ := by
    intro H hO hS hok hA hK
    have base_of : ∀ {b : Addr} {o : Obj}, s₁.heap.get? b = some o → H b = none → (hidT s₁.heap H).get? b = some o := fun e n => hidT_get e n
    have noA : ∀ {b : Addr} {o : Obj} {es : Array DictEntry} {ep : Nat}, s₁.heap.get? b = some o → o.data = .dict es ep → H b = none := fun {b o es ep} e d => by
      cases q : H b with
      | none => rfl
      | some u =>
        have e' : b = a := hA b (by rw [q]; simp)
        subst e'
        rw [ha] at e; cases e
        have d' : Data.seq vs.toArray _ = Data.dict es ep := d
        cases d'
    have nsK : ∀ {b : Addr} {m : Str → Option Value}, s₁.heap.Ns b m → (hidT s₁.heap H).Ns b m := fun {b m} ⟨o, es, ep, e, d, r⟩ => ⟨o, es, ep, base_of e (noA e d), d, r⟩
    have hKb : K.In (hidT s₁.heap H) := fun b o e => base_of (KX b o e) (by
      cases q : H b with
      | none => rfl
      | some u =>
        have e' : b = a := hA b (by rw [q]; simp)
        subst e'
        rw [hK (by rw [q]; simp)] at e; cases e)
    have hM : Mod K mg (hidT s₁.heap H) := ⟨hKb, nsK hns, ⟨mb, nsK hb, hbb⟩, let ⟨mc, h1, h2⟩ := hlim; ⟨mc, nsK h1, h2⟩⟩
    have e0 : Env0 P w K mg (hidT s₁.heap H) callerA [] s₁ H := ⟨rfl, hM, fun b o e => of_hidT e, Nat.le_of_eq (hidT_size _ _), trivial, fun b hb => absurd (show b ∈ ([] : List Addr) from hb) (by simp), hok, .of_eq hg⟩
    refine codeAny_mono ((F _ hKb (nsK hns)).run callerA [] s₁ H ⟨[.ref a], []⟩ [.ref a] [.ref a] _ _ hr e0 (hbind s₁ (.ref a)) (.cons rfl .nil) (hsp H hO hS)) fun r s' h => ?_
    cases r with
    | error e => exact (hCX H e s' h).elim
    | ok fl =>
      cases fl with
      | next => exact False.elim h
      | brk => exact False.elim h
      | cont => exact False.elim h
      | ret u =>
        obtain ⟨v, H', os, bare, un, hok', r', q⟩ := h
        have q' : v = .bl true := q
        subst q'
        obtain rfl : u = Value.bool true := r'
        refine ⟨rfl, OldK.of_keep fun b o e => ?_, os, bare⟩
        cases q : H b with
        | none => exact un.keep b o e q (by intro z; exact absurd (show b ∈ ([] : List Addr) from z) (by simp)) (by simp)
        | some u =>
          rcases hO b with z | ⟨ob, xs, z⟩
          · rw [q] at z; cases z
          · have z2 := un.frzs b ob _ z
            obtain ⟨e1, _⟩ := hok b _ z
            obtain ⟨e2, _⟩ := hok' b _ z2
            rw [e] at e1; cases e1
            exact e2
  cases hk : K.lookup a with
  | some o =>
    -- the script is one of the module's own objects
    have e := KX a o hk
    rw [ha] at e
    cases e
    refine core (fun _ => none) (fun _ => .inl rfl) (.inr ⟨_, vs.toArray, _, hk, rfl, rfl, rfl, by rw [List.size_toArray, lenV]; exact hl, by simpa using rv⟩) (fun b u z => by have z' : (none : Option HO) = some u := z; cases z') (fun b z => absurd rfl z) fun z => absurd rfl z
  | none =>
    refine core (fun b => if b = a then some (.frz { cls := .type "list", data := .seq vs.toArray } (.lst (ns.map V.int))) else none) (fun b => ?_) (.inl (.inr ⟨{ cls := .type "list", data := .seq vs.toArray }, if_pos rfl⟩)) (fun b u z => ?_) (fun b z => ?_) fun _ => hk
    · by_cases hb : b = a
      · exact .inr ⟨_, _, if_pos hb⟩
      · exact .inl (if_neg hb)
    · by_cases hb : b = a
      · have z' := (if_pos hb).symm.trans z
        cases z'
        subst hb
        exact ⟨ha, by rw [List.length_map]; exact hl, vs, _, rv, ha⟩
      · have z' := (if_neg hb).symm.trans z
        cases z'
    · by_cases hb : b = a
      · exact hb
      · exact absurd (if_neg hb) z
end L2

namespace L2
open PySem PySem.Spec PyProof.Rows

abbrev KOf {K : PySem.W.Frag} {h : Heap} (_ : K.In h) : PySem.W.Frag := K

/-- the goal that k_head leaves (case hc), from the law's promise. F gives the function object fd (K's own) once, then the promise over every base -/
theorem walk_of {l : PySem.W.OpenLaw} {n k : Nat} {q : Program} {loose : List Str} {XP : (Str → Option Value) → Heap → Prop} {YP : World → Heap → Prop} {d : DefRec} {K : Params → PySem.W.Frag} {CX : World → CXT} {sp : World → Sp} {x : Str}
    (hn : l.most = some n) (hn2 : n ≤ sizeLine) (hdf : d.params.defaults = []) (hr : Room k callerA)
    (hY : ∀ (w : World) (h : Heap), YP w h → (K w.params).In h)
    (F : ∀ (w : World) (mg : Str → Option Value) (fa : Addr) (h : Heap), (K w.params).In h → h.Ns mainGlobals mg → mg d.name = some (.ref fa) →
      ∃ fd : FuncData, (∀ (s : Shared) (u : Value), BindsTo s fd ⟨[u], []⟩ [(x, u)]) ∧
        ∀ base : Heap, (K w.params).In base → base.Ns mainGlobals mg → FnOk l.prog w (K w.params) mg base (CX w) k fa fd [x] (sp w))
    (hsp : ∀ (w : World) (H : Hp) (a : Addr) (ns : List Int), ns.length ≤ n → Only H → SqL (K w.params) H a (ns.map V.int) → sp w [.ref a] H (fun v _ => v = .bl true) fun _ _ _ => False)
    (hCX : ∀ (w : World) (H : Hp) (s : Shared) (e : Value) (s' : Shared), CX w [] H s (fun _ _ _ => False) e s' → False) :
    PySem.W.WalkO q loose XP YP l.row.toRowW d [] (fun f vs => PySem.call f vs) := by
  refine Att.attach_call hn hdf fun w s₀ s₁ mg mb fa o pm cd doc a vs ns G Y ho hd hcd hmg hobj hints hlen hg => ?_
  have KX := hY w _ Y
  obtain ⟨fd, hb, hF⟩ := F w mg fa _ KX G.T.g hmg
  exact law_call KX G.T.g G.T.b G.T.builtins G.T.nolimit hg hobj hints (Nat.le_trans hlen hn2) hr hF hb (fun H hO hS => hsp w H a ns hlen hO hS) fun H e s' => hCX w H s₁ e s'
end L2

/-! SHORT WORDS over the layer: a def of the text, its body, what a loop and a test want. -/
namespace L2
open PySem PySem.Spec PyProof.Rows

/-! ### the text by places -/
/-- the j-th statement of a class's body -/
def inClass (s : Stmt) (j : Nat) : Stmt := match s with
  | .ClassDef _ _ _ body _ _ _ _ _ _ _ => body.getD j (.Pass ⟨0, 0, 0, 0⟩)
  | _ => .Pass ⟨0, 0, 0, 0⟩
def defArgs (s : Stmt) : Arguments := match s with
  | .FunctionDef _ a _ _ _ _ _ _ _ _ => a
  | _ => { posonlyargs := [], args := [], vararg := none, kwonlyargs := [], kw_defaults := [], kwarg := none, defaults := [] }
def defBody (s : Stmt) : List Stmt := match s with
  | .FunctionDef _ _ b _ _ _ _ _ _ _ => b
  | _ => []
def defScope (s : Stmt) : Scope := match s with
  | .FunctionDef _ _ _ _ _ _ sc _ _ _ => sc
  | _ => { kind := .function, names := [], isGenerator := false, isCoroutine := false }

/-! ### no exception leaves a def -/
abbrev CX0 : CXT := fun _ _ _ _ _ _ => False
abbrev E0 : XK := fun _ _ _ => False
/-! ### a def (or method) of the text as it stands behind the top -/
structure Fun (K : PySem.W.Frag) (x qual : Str) (st : Stmt) (f : Addr) (fd : FuncData) : Prop where
  ex : ∃ (oc : Value) (od : Option Addr) (kV doc pm : Value) (an : Option Addr) (cdv ct : Value) (osl : Array (Option Value)),
    fd = PySem.W.fnOf x qual (defArgs st) (defBody st) (defScope st) .none kV doc pm an cdv ct ∧ K.lookup f = some ⟨oc, od, .func fd, osl⟩ ∧ PySem.W.codeIn K cdv qual = true
  kp : PySem.W.keepIn K (.ref f) = true
section
variable {P : Program} {w : World} {K : PySem.W.Frag} {mg : Str → Option Value} {base : Heap}
/-- THE RULE for a def: its body as a term of rules, and the reading of that term -/
theorem Fun.ok {x qual : Str} {st : Stmt} {f : Addr} {fd : FuncData} {N ps : List Str} {k : Nat} {sp : Sp} (F : Fun K x qual st f fd) (S : FnScope N ps (defScope st)) (len : ∀ vs H Q E, sp vs H Q E → vs.length = ps.length)
    (hbody : ∀ (cdv : Value) (A : Around) (outer : List Env) (s : Shared) (H : Hp) (vs : List V) (Q : VK) (E : XK), Room k (A.deeper (envOfC qual (defScope st) s.heap.objs.size f cdv)) → sp vs H Q E →
      ∃ t, PSs (cxOf CX0 P w K mg base N qual (defScope st) f cdv A outer s H E).nox (defBody st) t ∧ t { nx := fun _ H' => Q .non H', rt := Q } (start N vs) H) : FnOk P w K mg base CX0 (k + 1) f fd ps sp := by
  obtain ⟨oc, od, kV, doc, pm, an, cdv, ct, osl, rfl, lk, hcd⟩ := F.ex
  refine fn_of lk hcd S len fun A outer s H vs Q E hr hsp => ?_
  obtain ⟨t, h, q⟩ := hbody cdv A outer s H vs Q E hr hsp
  exact ⟨t, h.nox, q⟩
/-- how its arguments bind (no defaults): h is «fun _ _ _ _ _ _ us hl => match us, hl with | [_, _], _ => rfl», one _ a parameter -/
theorem Fun.binds {x qual : Str} {st : Stmt} {f : Addr} {fd : FuncData} {ps : List Str} (F : Fun K x qual st f fd)
    (h : ∀ (kV doc pm : Value) (an : Option Addr) (cdv ct : Value) (us : List Value), us.length = ps.length → bindArgs (PySem.W.fnOf x qual (defArgs st) (defBody st) (defScope st) .none kV doc pm an cdv ct) ⟨us, []⟩ = pure (ps.zip us)) : Binds K fd ps [] := by
  obtain ⟨oc, od, kV, doc, pm, an, cdv, ct, osl, rfl, lk, hcd⟩ := F.ex
  exact .all (h kV doc pm an cdv ct)
theorem fun_mk {x qual : Str} {st : Stmt} {f : Addr} {oc : Value} {od an : Option Addr} {osl : Array (Option Value)} {kV doc pm cdv ct : Value} (l : K.lookup f = some ⟨oc, od, .func (PySem.W.fnOf x qual (defArgs st) (defBody st) (defScope st) .none kV doc pm an cdv ct), osl⟩)
    (c : PySem.W.codeIn K cdv qual = true) (k : PySem.W.keepIn K (.ref f) = true) : Fun K x qual st f (PySem.W.fnOf x qual (defArgs st) (defBody st) (defScope st) .none kV doc pm an cdv ct) := ⟨⟨oc, od, kV, doc, pm, an, cdv, ct, osl, rfl, l, c⟩, k⟩
end
/-! ### expressions in short: the name that stands in the i-th slot -/
section
variable {X : Cx}
end

/-! ### tests -/
/-! ### heaps -/
/-- all that was tracked is as it was -/
def Same (H H' : Hp) : Prop := ∀ b o, H b = some o → H' b = some o
theorem Same.refl (H : Hp) : Same H H := fun _ _ h => h
theorem Same.trans {H H1 H2 : Hp} (a : Same H H1) (b : Same H1 H2) : Same H H2 := fun c o h => b c o (a c o h)
theorem Same.free {H H' : Hp} (e : Same H H') {l : Addr} (h : H' l = Option.none) : H l = Option.none := by
  cases q : H l with
  | none => rfl
  | some o =>
    rw [e l o q] at h
    cases h
theorem Same.seq {K : PySem.W.Frag} {H H' : Hp} {a : Addr} {xs : List V} (e : Same H H') (h : SqL K H a xs) : SqL K H' a xs := by
  rcases h with (h | ⟨o, h⟩) | h
  · exact .inl (.inl (e _ _ h))
  · exact .inl (.inr ⟨o, e _ _ h⟩)
  · exact .inr h

end L2

set_option Elab.async false
set_option linter.all false
set_option maxRecDepth 100000
namespace L2
open PySem PySem.Spec PyProof.Rows

end L2

namespace L2
open PySem PySem.Spec PyProof.Rows

section
variable (P : Program) (w : World)
end

section
variable {P : Program} {w : World} {H H' : Hp} {h h' : Heap} {a : Addr} {o : HO}
end

section
variable {P : Program} {w : World} {H : Hp} {h h' : Heap} {x e : Addr} {o' : HO}
end

section
variable {fs fs' ex ex' : List Addr} {H H1 H2 : Hp} {h h1 h2 h' : Heap} {a x e : Addr} {o : HO}
end

end L2

namespace L2
open PySem PySem.Spec PyProof.Rows

section
variable {X : Cx} {pins : List (Addr × Obj)} {σ : List (Option V)} {H H' : Hp} {s : Shared} {h' : Heap}

end

end L2

namespace L2
open PySem PySem.Spec PyProof.Rows
section
variable {X : Cx}

variable {a b : Expr} {ta tb : TE} {pos : Pos}
variable {tA tB' : TT} {rest : List Expr}
end
end L2

namespace L2
open PySem PySem.Spec PyProof.Rows

section
variable {X : Cx} {pins : List (Addr × Obj)} {σ : St} {H : Hp} {s : Shared} {a : Addr} {xs ys : List V}
end

section
variable {X : Cx} {pins : List (Addr × Obj)} {σ : St} {H : Hp} {s : Shared} {E : Value → Shared → Prop}
end

section
variable {X : Cx} {st : Stmt} {rest : List Stmt} {t u : TS} {e : Expr} {te : TE} {pos : Pos}
end

section
variable {X : Cx} {pos : Pos}
end

section
variable {X : Cx} {pos : Pos}
end

end L2

namespace L2
open PySem PySem.Spec PyProof.Rows
section
variable {X : Cx} {tg : Expr}
end

end L2

namespace L2
open PySem PySem.Spec PyProof.Rows

section
variable {X : Cx} {a b c : Expr} {ta tb tc : TE} {pos : Pos}

end

section
variable {X : Cx} {a b c : Expr} {ta tb tc : TE} {pos : Pos}
end
end L2

namespace L2
open PySem PySem.Spec PyProof.Rows

section
variable {prog : Program} {w : World} {A : Around} {E : Value → Shared → Prop} {s : Shared} {K : PySem.W.Frag} {x dx C f : Addr} {mA : Str → Option Value} {name : Str} {v : Value}

end

section
variable {P : Program} {w : World} {H H' : Hp} {h h' : Heap} {a C dx : Addr} {fs fs' : List (Str × V)}
end

section
variable {X : Cx} {pins : List (Addr × Obj)} {σ : St} {H : Hp} {s : Shared} {a C dx : Addr} {fs : List (Str × V)} {f : Str} {v : V} {A : Around} {E : Value → Shared → Prop}

end

section
variable {X : Cx} {o e value : Expr} {f : Str} {pos pos' tpos : Pos} {ta tv : TE}
end

section
variable {X : Cx} {pins : List (Addr × Obj)} {σ : St} {H : Hp} {s : Shared} {A : Around} {E : Value → Shared → Prop} {Q : Value → Shared → Prop} {c : Value} {b : Bool}
end
end L2

namespace L2
open PySem PySem.Spec PyProof.Rows

section
variable {X : Cx} {e : Expr} {es : List Expr} {te : TE} {t : TA} {pos : Pos}
end

section
variable {X : Cx} {pins : List (Addr × Obj)} {σ : St} {H : Hp} {s s' : Shared}
end

section
variable {X : Cx} {CX : CXT} {k : Nat} {f C : Addr} {fd : FuncData} {ps : List Str} {sp : Sp} {dvs : List V} {ds : List Value} {E : XK} {x m : Str} {p pos apos : Pos} {e o : Expr} {es : List Expr} {ta : TE} {t : TA}

end

section
variable {X : Cx} {CX : CXT} {k : Nat} {f C : Addr} {fd : FuncData} {ps ks : List Str} {sp : Sp} {E : XK} {x m : Str} {p pos apos kpos : Pos} {e o : Expr} {es : List Expr} {kws : List Keyword} {te ta : TE} {t tk : TA} {nm : Option Str}
variable {g : List Value → List Value → List Value} {gV : List V → List V → List V}
end

end L2

namespace L2
open PySem PySem.Spec PyProof.Rows
section
variable {X : Cx} {x : Str} {p pos : Pos} {e : Expr} {es : List Expr} {t : TA} {id T : String} {r : List V → Hp → VK → Prop}

end
end L2

namespace L2
open PySem PySem.Spec PyProof.Rows

section
variable {κ : Type} [DecidableEq κ]
def valV (kvs : List (κ × V)) (k : κ) : Option V := (kvs.find? fun kv => decide (kv.1 = k)).map (·.2)
/-- in its place, or at the end -/
def putK (kvs : List (κ × V)) (k : κ) (v : V) : List (κ × V) :=
  if (kvs.any fun kv => decide (kv.1 = k)) = true then kvs.map (fun kv => if kv.1 = k then (kv.1, v) else kv) else kvs ++ [(k, v)]
def dropK (kvs : List (κ × V)) (k : κ) : List (κ × V) := kvs.filter fun kv => decide (kv.1 ≠ k)

theorem valV_pos {p : κ × V} {r : List (κ × V)} {k : κ} (e : p.1 = k) : valV (p :: r) k = some p.2 := by simp [valV, List.find?_cons, e]
theorem valV_neg {p : κ × V} {r : List (κ × V)} {k : κ} (e : ¬ p.1 = k) : valV (p :: r) k = valV r k := by simp [valV, List.find?_cons, e]
theorem RelO.getD {o : Option V} {u : Option Value} {d : V} {d' : Value} (r : RelO o u) (rd : RelV d d') : RelV (o.getD d) (u.getD d') := by
  cases o with
  | none => cases u with
    | none => exact rd
    | some _ => exact (show False from r).elim
  | some _ => cases u with
    | none => exact (show False from r).elim
    | some _ => exact r

/-- raw tables of the same keys -/
theorem KV.val {kvs : List (κ × V)} {vs : List (κ × Value)} (r : KV kvs vs) (k : κ) : RelO (valV kvs k) (valueAt vs k) := by
  unfold KV at r
  induction r with
  | nil => exact True.intro
  | @cons p q ps qs h t ih =>
    obtain ⟨h1, h2⟩ := h
    by_cases e : p.1 = k
    · have e' : q.1 = k := h1.symm.trans e
      have b : valueAt (q :: qs) k = some q.2 := by simp [valueAt, List.find?_cons, e']
      rw [valV_pos e, b]; exact h2
    · have e' : ¬ q.1 = k := fun z => e (h1.trans z)
      have b : valueAt (q :: qs) k = valueAt qs k := by simp [valueAt, List.find?_cons, e']
      rw [valV_neg e, b]; exact ih
theorem KV.any {kvs : List (κ × V)} {vs : List (κ × Value)} (r : KV kvs vs) (k : κ) : (kvs.any fun kv => decide (kv.1 = k)) = vs.any fun kv => decide (kv.1 = k) := by
  unfold KV at r
  induction r with
  | nil => rfl
  | cons h t ih => rw [List.any_cons, List.any_cons, ih, h.1]
theorem KV.drop {kvs : List (κ × V)} {vs : List (κ × Value)} (r : KV kvs vs) (k : κ) : KV (dropK kvs k) (without vs k) := by
  unfold KV at r ⊢
  unfold dropK without
  induction r with
  | nil => exact .nil
  | @cons p q ps qs h t ih =>
    obtain ⟨h1, h2⟩ := h
    rw [List.filter_cons, List.filter_cons]
    by_cases e : p.1 = k
    · have a : ¬ decide (p.1 ≠ k) = true := by simp [e]
      have b : ¬ decide (q.1 ≠ k) = true := by simp [h1.symm.trans e]
      rw [if_neg a, if_neg b]; exact ih
    · have e' : ¬ q.1 = k := fun z => e (h1.trans z)
      have a : decide (p.1 ≠ k) = true := by simp [e]
      have b : decide (q.1 ≠ k) = true := by simp [e']
      rw [if_pos a, if_pos b]; exact .cons ⟨h1, h2⟩ ih
theorem KV.keys {kvs : List (κ × V)} {vs : List (κ × Value)} (r : KV kvs vs) : kvs.map (·.1) = vs.map (·.1) := by
  unfold KV at r
  induction r with
  | nil => rfl
  | cons h t ih => rw [List.map_cons, List.map_cons, ih, h.1]
theorem KV.length {kvs : List (κ × V)} {vs : List (κ × Value)} (r : KV kvs vs) : kvs.length = vs.length := Paired.length r
end


/-- raw entries of a dict with tuple keys -/
abbrev KT (H : Hp) : List (List Key × V) → List (List Key × Addr × Value) → Prop := Paired fun p q => p.1 = q.1 ∧ H q.2.1 = some (.tup (p.1.map kV)) ∧ RelV p.2 q.2.2
theorem KT.val {H : Hp} {kvs : List (List Key × V)} {xs : List (List Key × Addr × Value)} (r : KT H kvs xs) (k : List Key) : RelO (valV kvs k) ((atKey xs k).map (·.2)) := by
  induction r with
  | nil => exact True.intro
  | @cons p q ps qs h t ih =>
    obtain ⟨h1, _, h2⟩ := h
    by_cases e : p.1 = k
    · have e' : q.1 = k := h1.symm.trans e
      have b : atKey (q :: qs) k = some q.2 := by simp [atKey, List.find?_cons, e']
      rw [valV_pos e, b]; exact h2
    · have e' : ¬ q.1 = k := fun z => e (h1.trans z)
      have b : atKey (q :: qs) k = atKey qs k := by simp [atKey, List.find?_cons, e']
      rw [valV_neg e, b]; exact ih
theorem KT.keeps {H H' : Hp} {kvs : List (List Key × V)} {xs : List (List Key × Addr × Value)} (r : KT H kvs xs) (ht : ∀ b ys, H b = some (.tup ys) → H' b = some (.tup ys)) : KT H' kvs xs :=
  Paired.mapP r fun _ _ z => ⟨z.1, ht _ _ z.2.1, z.2.2⟩

section
variable {P : Program} {w : World} {H : Hp} {h : Heap} {a : Addr}
end

/-- what the dict at a holds at the key y -/
def DGet (H : Hp) (a : Addr) (y : V) (r : Option V) : Prop :=
  (∃ kvs k, Rd H a (.dK kvs) ∧ y = kV k ∧ r = valV kvs k) ∨ ∃ kvs k b, Rd H a (.dT kvs) ∧ y = .ref b ∧ H b = some (.tup (k.map kV)) ∧ r = valV kvs k
/-- the heap behind a[y] = v -/
def DPut (H : Hp) (a : Addr) (y v : V) (H' : Hp) : Prop :=
  (∃ kvs k, H a = some (.dK kvs) ∧ y = kV k ∧ kvs.length < sizeLine ∧ H' = upd H a (.dK (putK kvs k v))) ∨
  ∃ kvs k b, H a = some (.dT kvs) ∧ y = .ref b ∧ H b = some (.tup (k.map kV)) ∧ kvs.length < sizeLine ∧ H' = upd H a (.dT (putK kvs k v))
theorem DGet.k {H : Hp} {a : Addr} {kvs : List (Key × V)} {k : Key} (e : H a = some (.dK kvs)) : DGet H a (kV k) (valV kvs k) := .inl ⟨kvs, k, .inl e, rfl, rfl⟩
theorem DGet.t {H : Hp} {a b : Addr} {kvs : List (List Key × V)} {k : List Key} (e : H a = some (.dT kvs)) (eb : H b = some (.tup (k.map kV))) : DGet H a (.ref b) (valV kvs k) := .inr ⟨kvs, k, b, .inl e, rfl, eb, rfl⟩
theorem DPut.k {H : Hp} {a : Addr} {kvs : List (Key × V)} {k : Key} {v : V} (e : H a = some (.dK kvs)) (hl : kvs.length < sizeLine) : DPut H a (kV k) v (upd H a (.dK (putK kvs k v))) := .inl ⟨kvs, k, e, rfl, hl, rfl⟩
theorem DPut.t {H : Hp} {a b : Addr} {kvs : List (List Key × V)} {k : List Key} {v : V} (e : H a = some (.dT kvs)) (eb : H b = some (.tup (k.map kV))) (hl : kvs.length < sizeLine) :
    DPut H a (.ref b) v (upd H a (.dT (putK kvs k v))) := .inr ⟨kvs, k, b, e, rfl, eb, hl, rfl⟩


section
variable {X : Cx} {pins : List (Addr × Obj)} {σ : St} {H : Hp} {s : Shared} {a : Addr} {y v : V} {u r : Value} {o : Option V} {A : Around} {E : Value → Shared → Prop}

end

section
variable {X : Cx} {pins : List (Addr × Obj)} {σ : St} {H : Hp} {s : Shared} {a : Addr} {kvs : List (Key × V)} {k : Key} {u : Value} {A : Around} {E : Value → Shared → Prop}
end


/-- the element of a subscription, not a slice -/
def NoSl (i : Expr) : Prop := ∀ ov iv, subscripted i false ov iv = operate [ov, iv] (getItem ov iv)
/-- d[y] -/
def tDGet (td ty : TE) : TE := fun σ H Q => td σ H fun x H1 => ty σ H1 fun y H2 => ∃ a v, x = .ref a ∧ DGet H2 a y (some v) ∧ Q v H2
/-- y in d, y not in d -/
def tDIn (ty td : TE) : TE := fun σ H Q => ty σ H fun y H1 => td σ H1 fun x H2 => ∃ a o, x = .ref a ∧ DGet H2 a y o ∧ Q (.bl o.isSome) H2
def tDNotIn (ty td : TE) : TE := fun σ H Q => ty σ H fun y H1 => td σ H1 fun x H2 => ∃ a o, x = .ref a ∧ DGet H2 a y o ∧ Q (.bl (!o.isSome)) H2
/-- d[y] = v -/
def sDPut (td ty tv : TE) : TS := fun D σ H => tv σ H fun v H1 => td σ H1 fun x H2 => ty σ H2 fun y H3 => ∃ a H4, x = .ref a ∧ DPut H3 a y v H4 ∧ D.nx σ H4
/-- d[y] op= v -/
def sDAug (td ty tv : TE) (rd : V → V → Hp → VK → Prop) : TS := fun D σ H => td σ H fun x H1 => ty σ H1 fun y H2 => ∃ a v, x = .ref a ∧ DGet H2 a y (some v) ∧
  tv σ H2 fun y2 H3 => rd v y2 H3 fun z H4 => ∃ H5, DPut H4 a y z H5 ∧ D.nx σ H5
/-- del d[y] -/
def sDDel (td ty : TE) : TS := fun D σ H => td σ H fun x H1 => ty σ H1 fun y H2 => ∃ a kvs k, x = .ref a ∧ H2 a = some (.dK kvs) ∧ y = kV k ∧ (valV kvs k).isSome = true ∧ D.nx σ (upd H2 a (.dK (dropK kvs k)))

section
variable {X : Cx} {o i e value : Expr} {pos pos' tpos : Pos} {td ty tv : TE}
end


/-- {}, to be a dict of the kind that is wanted -/
def tDNewK : TE := fun _ H Q => ∀ p, H p = none → Q (.ref p) (upd H p (.dK []))
def tDNewT : TE := fun _ H Q => ∀ p, H p = none → Q (.ref p) (upd H p (.dT []))
section
variable {X : Cx} {pos : Pos}
end

/-- the pairs of a display, from the left -/
def tPairs : List (TE × TE) → St → Hp → (List (V × V) → Hp → Prop) → Prop
  | [], _, H, Q => Q [] H
  | (tk, tv) :: r, σ, H, Q => tk σ H fun x H1 => tv σ H1 fun y H2 => tPairs r σ H2 fun ps H3 => Q ((x, y) :: ps) H3
abbrev VV : List (V × V) → List (Value × Value) → Prop := Paired fun p q => RelV p.1 q.1 ∧ RelV p.2 q.2
def PPs (X : Cx) (pos : Pos) (keys : List (Option Expr)) (values : List Expr) (trs : List (TE × TE)) : Prop :=
  ∀ (pins : List (Addr × Obj)) (s : Shared) (σ : St) (H : Hp) (Q : List (V × V) → Hp → Prop), Inv X pins σ H s → tPairs trs σ H Q →
    wpAny (model X.prog X.w) X.A (evalPairs (pairTrees keys values X.env pos)) (fun vs s' => ∃ ps H', Inv X pins σ H' s' ∧ VV ps vs ∧ Q ps H') X.xe s
def mergeK (kvs more : List (Key × V)) : List (Key × V) := more.foldl (fun acc kv => putK acc kv.1 kv.2) kvs
/-- {k: v, ..} with keys ints and texts; the new dict stands empty while the pairs are made -/
def tDisp (trs : List (TE × TE)) : TE := fun σ H Q => ∀ p, H p = none → tPairs trs σ (upd H p (.dK [])) fun ps H2 => H2 p = some (.dK []) ∧ ∃ kvs : List (Key × V), ps = kvs.map (fun kv => (kV kv.1, kv.2)) ∧ kvs.length ≤ 15 ∧ Q (.ref p) (upd H2 p (.dK (mergeK [] kvs)))
/-- a method call o.m(e) of a built-in, with one argument: what must be seen of the text -/
structure M1 (X : Cx) (o : Expr) (m : Str) (apos : Pos) (e : Expr) (cpos : Pos) : Prop where
  base : attributeBase o m X.env (eval o X.env) = eval o X.env
  few : ((backTo cpos (starEach [e] X.env)).all (fun x => !x.1) && (backToKw cpos (keywordEach [] X.env)).all (fun x => x.1.isSome)
    && decide (([e] : List Expr).length + ([] : List Keyword).length + (if ([] : List Keyword).isEmpty then 0 else 1) < 30)) = true
  line : (apos.endLine == cpos.line) = true
  trees : backTo cpos (starEach [e] X.env) = [(false, eval e X.env)]
structure M2 (X : Cx) (o : Expr) (m : Str) (apos : Pos) (e f : Expr) (cpos : Pos) : Prop where
  base : attributeBase o m X.env (eval o X.env) = eval o X.env
  few : ((backTo cpos (starEach [e, f] X.env)).all (fun x => !x.1) && (backToKw cpos (keywordEach [] X.env)).all (fun x => x.1.isSome)
    && decide (([e, f] : List Expr).length + ([] : List Keyword).length + (if ([] : List Keyword).isEmpty then 0 else 1) < 30)) = true
  line : (apos.endLine == cpos.line) = true
  trees : backTo cpos (starEach [e, f] X.env) = [(false, eval e X.env), (false, eval f X.env)]

/-- a is a dict, whatever its keys -/
def IsD (H : Hp) (a : Addr) : Prop := (∃ kvs, Rd H a (.dK kvs)) ∨ ∃ kvs, Rd H a (.dT kvs)
section
variable {X : Cx} {pins : List (Addr × Obj)} {σ : St} {H : Hp} {s : Shared} {a : Addr} {y d : V} {u r : Value} {o : Option V} {A : Around} {E : Value → Shared → Prop}
end

def tDGet1 (td ty : TE) : TE := fun σ H Q => td σ H fun x H1 => ∃ a, x = .ref a ∧ IsD H1 a ∧ ty σ H1 fun y H2 => ∃ o, DGet H2 a y o ∧ Q (o.getD .non) H2
def tDGet2 (td ty tx : TE) : TE := fun σ H Q => td σ H fun x H1 => ∃ a, x = .ref a ∧ IsD H1 a ∧ ty σ H1 fun y H2 => tx σ H2 fun z H3 => ∃ o, DGet H3 a y o ∧ Q (o.getD z) H3
/-- d.pop(k): there; d.pop(k, x): there or not -/
def tDPop1 (td ty : TE) : TE := fun σ H Q => td σ H fun x H1 => ∃ a, x = .ref a ∧ IsD H1 a ∧ ty σ H1 fun y H2 => ∃ kvs k v, H2 a = some (.dK kvs) ∧ y = kV k ∧ valV kvs k = some v ∧ Q v (upd H2 a (.dK (dropK kvs k)))
def tDPop2 (td ty tx : TE) : TE := fun σ H Q => td σ H fun x H1 => ∃ a, x = .ref a ∧ IsD H1 a ∧ ty σ H1 fun y H2 => tx σ H2 fun z H3 => ∃ kvs k, H3 a = some (.dK kvs) ∧ y = kV k ∧
  (∀ v, valV kvs k = some v → Q v (upd H3 a (.dK (dropK kvs k)))) ∧ (valV kvs k = none → Q z H3)
section
variable {X : Cx} {o e f : Expr} {apos cpos : Pos} {td ty tx : TE}
end

section
variable {X : Cx} {pins : List (Addr × Obj)} {σ : St} {H : Hp} {s : Shared} {a : Addr} {kvs : List (Key × V)} {A : Around} {E : Value → Shared → Prop}
end


section
variable {X : Cx} {pins : List (Addr × Obj)} {σ : St} {H : Hp} {s : Shared} {a : Addr} {y : V} {u : Value} {A : Around} {E : Value → Shared → Prop}
end
end L2

namespace Att
open PySem PySem.W PySem.Calls PyProof.Rows

section
variable {prog : Program} {w : World} {A : Around} {E : Value → Shared → Prop} {s : Shared} {K : Frag}

end
end Att

namespace L2
open PySem PySem.Spec PyProof.Rows

end L2

namespace L2
open PySem PySem.Spec PyProof.Rows

end L2

namespace L2
open PySem PySem.Spec PyProof.Rows

section
variable {P : Program} {w : World} {K : PySem.W.Frag} {mg : Str → Option Value} {base : Heap}
end
section
variable {X : Cx}
end

section
variable {κ : Type} [DecidableEq κ]
end
end L2


set_option Elab.async false
set_option linter.all false
set_option maxRecDepth 100000
/-! The data layer: an exception on its way. -/
namespace DL
open PySem PySem.Spec PyProof.Rows L2

/-- what is kept to the object while an exception is on its way: tracked, pinned, what stood at the entry (but the frames) -/
structure Cov (X : Cx) (pins : List (Addr × Obj)) (H : Hp) (B : Heap) : Prop where
  trk : ∀ b o, H b = some o → ∃ o', B.get? b = some o'
  pin : ∀ p ∈ X.pn ++ pins, ∃ o', B.get? p.1 = some o'
  old : ∀ b o, X.s₀.heap.get? b = some o → b ∉ X.ex → b ∉ frs X.stack → ∃ o', B.get? b = some o'
/-- an exception of the class at C, at a, on its way in the running code: made here, or come out of a call, or noted in this frame already (out of a comprehension) -/
def Fly (X : Cx) (H : Hp) (a C : Addr) (s : Shared) : Prop := ∃ pins σ,
  (∃ h vs, L2.Inv X pins σ H { s with heap := h } ∧ Heap.MadeExcOf h s.heap a (.ref C) vs) ∨
  (L2.Inv X pins σ H s ∧ H a = none ∧ ∃ B a0, Heap.FlyingW B X.stack a (.ref C) a0 s.heap ∧ Cov X pins H B) ∨
  (L2.Inv X pins σ H s ∧ H a = none ∧ ∃ B a0 L, X.env.frame = some L ∧ Heap.HeldW B X.stack a (.ref C) a0 L s.heap ∧ Cov X pins H B)
/-- the class that the text calls c -/
def ClsAt (K : PySem.W.Frag) (c : Str) (C : Addr) : Prop := PySem.W.nsIn K mainGlobals c = some (some (.ref C))
theorem ClsAt.inj {K : PySem.W.Frag} {c : Str} {C C' : Addr} (a : ClsAt K c C) (b : ClsAt K c C') : C = C' := by
  unfold ClsAt at a b
  rw [a] at b
  cases b; rfl

theorem obj_there {P : Program} {w : World} {H : Hp} {h : Heap} {a : Addr} {o : HO} (x : ObjOk P w H h a o) : ∃ u, h.get? a = some u := by
  cases o with
  | lst xs => obtain ⟨_, _, _, _, e⟩ := x; exact ⟨_, e⟩
  | tup xs => obtain ⟨_, _, _, o, e, _⟩ := x; exact ⟨_, e⟩
  | dK kvs => obtain ⟨_, _, _, _, o, _, _, e, _⟩ := x; exact ⟨_, e⟩
  | dT kvs => obtain ⟨_, _, _, _, o, _, _, e, _⟩ := x; exact ⟨_, e⟩
  | set S n => obtain ⟨o, _, _, _, e, _⟩ := x; exact ⟨_, e⟩
  | ins C dx fs => obtain ⟨_, _, _, e, _⟩ := x; exact ⟨_, e⟩
  | own y => obtain ⟨_, e⟩ := x; exact ⟨_, e⟩
  | xd fs => obtain ⟨_, ⟨_, _, _, e, _⟩, _⟩ := x; exact ⟨_, e⟩
  | rng lo hi => obtain ⟨_, _, _, e⟩ := x; exact ⟨_, e⟩
  | frz ob u => obtain ⟨e, _⟩ := x; exact ⟨_, e⟩
  | tbl ps => exact ⟨_, show h.get? a = some _ from x⟩
  | met f y => exact ⟨_, show h.get? a = some _ from x⟩
  | ext φ => obtain ⟨_, ⟨_, e⟩, _⟩ := x; exact ⟨_, e⟩

section
variable {X : Cx} {pins : List (Addr × Obj)} {σ : List (Option V)} {H : Hp} {s : Shared} {B h' : Heap} {a C : Addr}
theorem inv_old (I : L2.Inv X pins σ H s) {b : Addr} {o : Obj} (e : X.s₀.heap.get? b = some o) (n : b ∉ X.fs) : b ∉ frs X.stack := fun z => by
  rcases List.mem_cons.mp (I.stkSub b z) with q | q
  · have h1 := Heap.lt_size e
    rw [q] at h1
    exact absurd (Nat.lt_of_lt_of_le h1 I.ok.above) (Nat.lt_irrefl _)
  · exact n q
theorem cell_up {h h' : Heap} {c : Addr} {v : Option Value} (u : h.UpToSlots h') (x : h.IsCell c v) : h'.IsCell c v := by
  obtain ⟨o, e, d⟩ := x
  obtain ⟨sl, e'⟩ := u c o e fun vs q => by rw [d] at q; cases q
  exact ⟨_, e', d⟩
/-- the frames' slots, the exception's own records have turned: all else stays -/
theorem inv_seen (I : L2.Inv X pins σ H s) (cov : Cov X pins H B) (hB : B.StaysIn s.heap) (hB' : B.StaysIn h') (up : s.heap.UpToSlots h') : L2.Inv X pins σ H { s with heap := h' } := by
  have keepB : ∀ b o o', B.get? b = some o' → s.heap.get? b = some o → h'.get? b = some o := fun b o o' e1 e2 => by
    have := hB b o' e1
    rw [e2] at this; cases this
    exact hB' b _ e1
  refine ⟨I.ok, I.os, I.bare, ⟨fun b o e n nf nx => ?_, fun b o e n hf nx => ?_, fun b o e n nx => I.base.free b o e n nx, fun b o e nx => ?_, I.base.tups, I.base.frzs, I.base.tbls⟩, ?_, fun x c e => ?_, I.free, I.freeC, fun p hp => ?_, fun b o e => ?_, I.len⟩
  · obtain ⟨o', e'⟩ := cov.old b o e nx (inv_old I e nf)
    exact keepB b o o' e' (I.base.keep b o e n nf nx)
  · obtain ⟨sl, e1⟩ := I.base.slot b o e n hf nx
    obtain ⟨_, ob, e2, nf⟩ := I.funs.mem hf
    rw [e1] at e2; cases e2
    obtain ⟨sl', e3⟩ := up b _ e1 nf
    exact ⟨sl', e3⟩
  · by_cases hf : b ∈ X.fs
    · obtain ⟨_, ob, e2, nf⟩ := I.funs.mem hf
      obtain ⟨sl', e3⟩ := up b _ e2 nf
      exact ⟨_, e3⟩
    · obtain ⟨o', e'⟩ := cov.old b o e nx (inv_old I e hf)
      exact ⟨o', hB' b o' e'⟩
  · obtain ⟨m, hn, hl⟩ := I.loc
    refine ⟨m, up.ns hn, fun i x v e1 e2 e3 => ?_⟩
    obtain ⟨u, r, lk⟩ := hl i x v e1 e2 e3
    refine ⟨u, r, ?_⟩
    rcases lk with lk | ⟨k, c, ec, ic⟩
    · exact .inl lk
    · exact .inr ⟨k, c, ec, cell_up up ic⟩
  · obtain ⟨v, ic⟩ := I.cell x c e
    exact ⟨v, cell_up up ic⟩
  · obtain ⟨e, n, ne, nf, d⟩ := I.pin p hp
    obtain ⟨o', e'⟩ := cov.pin p hp
    exact ⟨keepB p.1 p.2 o' e' e, n, ne, nf, d⟩
  · refine (I.hok b o e).stay (fun c u hc q => ?_) (fun _ q => q) fun _ _ q => q
    have : ∃ o, H c = some o := by
      rcases hc with z | z
      · exact ⟨o, by rw [z]; exact e⟩
      · exact ⟨_, z⟩
    obtain ⟨oc, ec⟩ := this
    obtain ⟨o', e'⟩ := cov.trk c oc ec
    exact keepB c u o' e' q
/-- what stands, without the frames -/
theorem cov_hide (I : L2.Inv X pins σ H s) : Cov X pins H (PySem.W.hideAll s.heap (frs X.stack)) := by
  refine ⟨fun b o e => ?_, fun p hp => ?_, fun b o e nx nf => ?_⟩
  · obtain ⟨u, q⟩ := obj_there (I.hok b o e)
    exact ⟨u, PySem.W.hideAll_get _ q fun z => by rw [I.stkFree b z] at e; cases e⟩
  · obtain ⟨e, n, ne, nf, d⟩ := I.pin p hp
    exact ⟨p.2, PySem.W.hideAll_get _ e fun z => by
      rcases List.mem_cons.mp (I.stkSub _ z) with q | q
      · exact ne q
      · exact nf q⟩
  · obtain ⟨o', e'⟩ := I.base.there b o e nx
    exact ⟨o', PySem.W.hideAll_get _ e' nf⟩
theorem frames_hide (I : L2.Inv X pins σ H s) : s.heap.FunFrames (PySem.W.hideAll s.heap (frs X.stack)) X.stack :=
  PySem.W.funFrames_hide I.stack fun env he b hb => List.mem_filterMap.mpr ⟨env, he, hb⟩
theorem made_free {vs : List Value} {h : Heap} (I : L2.Inv X pins σ H { s with heap := h }) (m : Heap.MadeExcOf h s.heap a (.ref C) vs) : H a = none := by
  cases q : H a with
  | none => rfl
  | some o =>
    obtain ⟨u, e⟩ := obj_there (I.hok a o q)
    have e : h.get? a = some u := e
    rw [m.new] at e; cases e
end

/-- how an exception lies behind a call -/
def CXd (P : Program) (w : World) : CXT := fun outer H s E e s' => ∃ a C H' B a0, e = .ref a ∧ s'.os = s.os ∧ AllBare s'.gens ∧ Un (frs outer) [] H H' s.heap s'.heap ∧ HOk P w H' s'.heap ∧ H' a = none ∧
  Heap.FlyingW B outer a (.ref C) a0 s'.heap ∧ (∀ b o, H' b = some o → ∃ o', B.get? b = some o') ∧ (∀ b o, s.heap.get? b = some o → b ∉ frs outer → ∃ o', B.get? b = some o') ∧ E (.ref C) (some a) H'
/-- it leaves a def -/
theorem fly_leaves {P : Program} {w : World} {K : PySem.W.Frag} {mg : Str → Option Value} {base : Heap} {N : List Str} {qual : Str} {scope : Scope} {f : Addr} {cdv : Value} {A : Around} {outer : List Env} {s s' : Shared} {H H' : Hp} {E : XK} {a C : Addr}
    (fl : Fly (cxOf (CXd P w) P w K mg base N qual scope f cdv A outer s H E) H' a C s') (hE : E (.ref C) (some a) H') : (cxOf (CXd P w) P w K mg base N qual scope f cdv A outer s H E).xe (.ref a) s' := by
  show wpAny (model P w) (A.deeper (envOfC qual scope s.heap.objs.size f cdv)) (leaving (envOfC qual scope s.heap.objs.size f cdv) (.ref a)) (fun _ s'' => CXd P w outer H s E (.ref a) s'') (fun e' s'' => CXd P w outer H s E e' s'') s'
  obtain ⟨pins, σ, fl⟩ := fl
  have key : ∀ (B : Heap) (a0 : Value) (h' : Heap) (I : L2.Inv (cxOf (CXd P w) P w K mg base N qual scope f cdv A outer s H E) pins σ H' s'), B.StaysIn s'.heap → Cov (cxOf (CXd P w) P w K mg base N qual scope f cdv A outer s H E) pins H' B → H' a = none →
      Heap.FlyingW B outer a (.ref C) a0 h' → s'.heap.UpToSlots h' → CXd P w outer H s E (.ref a) { s' with heap := h' } := fun B a0 h' I hB cov hn fl' up => by
    have I' := inv_seen I cov hB fl'.1 up
    refine ⟨a, C, H', B, a0, rfl, I'.os, I'.bare, I'.base, I'.hok, hn, fl', cov.trk, fun b o e nf => ?_, hE⟩
    exact cov.old b o e (by show b ∉ ([] : List Addr); simp) (inv_old I e nf)
  rcases fl with ⟨h, vs, I, m⟩ | ⟨I, hn, B, a0, fl, cov⟩ | ⟨I, hn, B, a0, L, hL, held, cov⟩
  · have cov := cov_hide I
    have hid : ∀ b o, (PySem.W.hideAll h (frs (cxOf (CXd P w) P w K mg base N qual scope f cdv A outer s H E).stack)).get? b = some o → h.get? b = some o := fun b o q => PySem.W.of_hideAll _ q
    refine wpAny_leaves_madeW (env := envOfC qual scope s.heap.objs.size f cdv) (outer := outer) I.ok.frames rfl hid (frames_hide I) m fun h' t x1 x2 x3 x4 => ?_
    exact key _ _ h' (I.kept (t' := s'.toks) (h' := s'.heap) m.keeps) (fun b o q => m.keeps b o (hid b o q)) cov (made_free I m) x1 x4
  · refine wpAny_leaves_onW (env := envOfC qual scope s.heap.objs.size f cdv) (outer := outer) I.ok.frames rfl fl fun h' x1 x2 => ?_
    exact key B a0 h' I fl.1 cov hn x1 x2
  · unfold leaving
    refine wpAny_bind (wpAny_noteFrame_againW hL held.2.2.2 ?_)
    refine wpAny_landsW held fun h' x1 x2 => ?_
    obtain ⟨k1, k2, ⟨_, _, k3⟩, k4⟩ := x1
    exact key B a0 h' I held.1 cov hn ⟨k1, k2, k3, k4⟩ x2
/-- it comes out of a call -/
theorem fly_comes {X : Cx} {pins : List (Addr × Obj)} {σ : L2.St} {H : Hp} {s : Shared} {e : Value} {s' : Shared} {E : XK} (I : L2.Inv X pins σ H s) (h : CXd X.prog X.w X.stack H s E e s') : ∃ a C H', e = .ref a ∧ Fly X H' a C s' ∧ E (.ref C) (some a) H' := by
  obtain ⟨a, C, H', B, a0, rfl, os, bare, un, hok, hn, fl, trk, old, hE⟩ := h
  refine ⟨a, C, H', rfl, ⟨pins, σ, .inr (.inl ⟨I.call' os un hok bare (fun b z => absurd z (by simp)), hn, B, a0, fl, trk, fun p hp => ?_, fun b o eb nx nf => ?_⟩)⟩, hE⟩
  · obtain ⟨eb, n, ne, nf, d⟩ := I.pin p hp
    exact old p.1 p.2 eb fun z => by
      rcases List.mem_cons.mp (I.stkSub _ z) with q | q
      · exact ne q
      · exact nf q
  · obtain ⟨o', e'⟩ := I.base.there b o eb nx
    exact old b o' e' nf
end DL

set_option Elab.async false
set_option linter.all false
set_option maxRecDepth 100000
/-! The data layer, first part: data without addresses, what a heap says of them, readings by functions. -/
namespace DL
open PySem PySem.Spec PyProof.Rows L2

/-- data: a value without its addresses; mr: a thing that may change, by its number -/
inductive D where
  | non | bl (b : Bool) | int (i : Int) | str (x : Str) | tup (xs : List D) | lst (xs : List D) | ro (xs : List D) | mr (i : Nat) | exc (c : Str) | any
instance : Inhabited D := ⟨.non⟩
/-- a thing that may change -/
inductive MO where
  | lst (xs : List D) | obj (c : Str) (fs : List (Str × D)) | dK (kvs : List (Key × D)) | dT (kvs : List (List Key × D))
instance : Inhabited MO := ⟨.lst []⟩
abbrev Mem := List MO
abbrev Rho := List (Option D)
/-- what comes of a run: a result, a refusal of that class, or nothing that is known -/
inductive Out (α : Type) where
  | ok (a : α) (M : Mem)
  | err (c : Str) (M : Mem)
  | bad
def Out.bind {α β : Type} (o : Out α) (f : α → Mem → Out β) : Out β :=
  match o with
  | .ok a M => f a M
  | .err c M => .err c M
  | .bad => .bad
@[simp] theorem bind_ok {α β : Type} (a : α) (M : Mem) (f : α → Mem → Out β) : (Out.ok a M).bind f = f a M := by rw [Out.bind]
@[simp] theorem bind_err {α β : Type} (c : Str) (M : Mem) (f : α → Mem → Out β) : (Out.err c M : Out α).bind f = .err c M := by rw [Out.bind]
@[simp] theorem bind_bad {α β : Type} (f : α → Mem → Out β) : (Out.bad : Out α).bind f = .bad := by rw [Out.bind]

/-! ### what the heap says -/
def KT (K : PySem.W.Frag) (a : Addr) (xs : List V) : Prop := ∃ (o : Obj) (its : Array Value) (n : Nat), K.lookup a = some o ∧ o.cls = .type "tuple" ∧ o.data = .seq its n ∧ its.size ≤ sizeLine ∧ Vals xs its.toList
def KL (K : PySem.W.Frag) (a : Addr) (xs : List V) : Prop := ∃ (o : Obj) (its : Array Value) (n : Nat), K.lookup a = some o ∧ o.cls = .type "list" ∧ o.dict = none ∧ o.data = .seq its n ∧ its.size ≤ sizeLine ∧ Vals xs its.toList
def TupAt (K : PySem.W.Frag) (θ : List Addr) (H : Hp) (a : Addr) (xs : List V) : Prop := (H a = some (.tup xs) ∧ a ∉ θ) ∨ KT K a xs
/-- a list that stays: of the run's own; or one that is read alone (the script, a list of the file's top) -/
def LstAt (θ : List Addr) (H : Hp) (a : Addr) (xs : List V) : Prop := H a = some (.lst xs) ∧ a ∉ θ
def RoAt (K : PySem.W.Frag) (θ : List Addr) (H : Hp) (a : Addr) (xs : List V) : Prop := (Rd H a (.lst xs) ∧ a ∉ θ) ∨ KL K a xs
theorem TupAt.sq {K : PySem.W.Frag} {θ : List Addr} {H : Hp} {a : Addr} {xs : List V} (h : TupAt K θ H a xs) : SqT K H a xs := by
  rcases h with ⟨h, _⟩ | h
  · exact .inl (.inl h)
  · exact .inr h
theorem LstAt.sq {K : PySem.W.Frag} {θ : List Addr} {H : Hp} {a : Addr} {xs : List V} (h : LstAt θ H a xs) : SqL K H a xs := .inl (.inl h.1)
theorem RoAt.sq {K : PySem.W.Frag} {θ : List Addr} {H : Hp} {a : Addr} {xs : List V} (h : RoAt K θ H a xs) : SqL K H a xs := by
  rcases h with ⟨h, _⟩ | h
  · exact .inl h
  · exact .inr h

/-- an exception that is held: its class is the one at C -/
def excO (a C : Addr) : HO := .ext fun h => ∃ o, h.get? a = some o ∧ o.cls = .ref C

mutual
def isD (K : PySem.W.Frag) (θ : List Addr) (H : Hp) : D → V → Prop
  | .non, v => v = .non
  | .bl b, v => v = .bl b
  | .int i, v => v = .int i
  | .str x, v => v = .str x
  | .tup ds, v => ∃ a vs, v = .ref a ∧ TupAt K θ H a vs ∧ isDs K θ H ds vs
  | .lst ds, v => ∃ a vs, v = .ref a ∧ LstAt θ H a vs ∧ isDs K θ H ds vs
  | .ro ds, v => ∃ a vs, v = .ref a ∧ RoAt K θ H a vs ∧ isDs K θ H ds vs
  | .mr i, v => ∃ a, v = .ref a ∧ θ[i]? = some a
  | .exc c, v => ∃ a C, v = .ref a ∧ ClsAt K c C ∧ H a = some (excO a C) ∧ a ∉ θ
  | .any, _ => True
def isDs (K : PySem.W.Frag) (θ : List Addr) (H : Hp) : List D → List V → Prop
  | [], vs => vs = []
  | d :: ds, vs => ∃ v r, vs = v :: r ∧ isD K θ H d v ∧ isDs K θ H ds r
end

/-- the fields of an instance -/
def isFs (K : PySem.W.Frag) (θ : List Addr) (H : Hp) : List (Str × D) → List (Str × V) → Prop
  | [], vs => vs = []
  | (f, d) :: fs, vs => ∃ v r, vs = (f, v) :: r ∧ isD K θ H d v ∧ isFs K θ H fs r
/-- the values of a dict, by their keys -/
def isKs {κ : Type} (K : PySem.W.Frag) (θ : List Addr) (H : Hp) : List (κ × D) → List (κ × V) → Prop
  | [], vs => vs = []
  | (k, d) :: fs, vs => ∃ v r, vs = (k, v) :: r ∧ isD K θ H d v ∧ isKs K θ H fs r
def MoOk (K : PySem.W.Frag) (θ : List Addr) (H : Hp) : MO → Addr → Prop
  | .lst ds, a => ∃ vs, H a = some (.lst vs) ∧ isDs K θ H ds vs
  | .obj c fs, a => ∃ C dx vs, ClsAt K c C ∧ H a = some (.ins C dx vs) ∧ isFs K θ H fs vs
  | .dK kvs, a => ∃ vs, H a = some (.dK vs) ∧ isKs K θ H kvs vs
  | .dT kvs, a => ∃ vs, H a = some (.dT vs) ∧ isKs K θ H kvs vs
/-- the defs of a file's top within which lambdas stand: their code's tables grow -/
def lamNames : List Str := ["ink_shown", "table_within", "slots_given", "cast_on_slots"]
def lamQual (x : Str) : Str := x ++ (".<locals>.<lambda>" : Str)
def codeO (c : Addr) (q : Str) : HO := .ext fun h => h.CodeRec (.ref c) q
def bmO (ob : Obj) : HO := .frz ob (.ext fun _ => True)
structure Tabs (K : PySem.W.Frag) (H : Hp) : Prop where
  tab : ∀ x, x ∈ lamNames → ∀ c P, PySem.W.tabIn K x = some (c, P) → ∃ ps, H P = some (.tbl ps) ∧ TriplesOk ps.toList ∧ ∀ pos cv, codeAmong pos ps.toList = some cv → ∃ c', cv = .ref c' ∧ H c' = some (codeO c' (lamQual x))
  bm : ∀ x, x ∈ lamNames → ∀ c P, PySem.W.tabIn K x = some (c, P) → ∃ bm ob, PySem.W.nsIn K mainGlobals "__builtins__" = some (some (.ref bm)) ∧ H bm = some (bmO ob) ∧ ob.cls = .type "module" ∧ ob.dict = some builtinsNs ∧ ob.data = .plain ∧ bm ≠ builtinsNs ∧ bm ≠ mainGlobals
theorem Tabs.of {K : PySem.W.Frag} {H H' : Hp} (t : Tabs K H) (k1 : ∀ b ps, H b = some (.tbl ps) → H' b = some (.tbl ps)) (k2 : ∀ b φ, H b = some (.ext φ) → H' b = some (.ext φ)) (k3 : ∀ b o u, H b = some (.frz o u) → H' b = some (.frz o u)) : Tabs K H' :=
  ⟨fun x hx c P e => by
    obtain ⟨ps, h1, h2, h3⟩ := t.tab x hx c P e
    refine ⟨ps, k1 _ _ h1, h2, fun pos cv q => ?_⟩
    obtain ⟨c', e1, e2⟩ := h3 pos cv q
    exact ⟨c', e1, k2 _ _ e2⟩, fun x hx c P e => by
    obtain ⟨bm, ob, e1, e2, r⟩ := t.bm x hx c P e
    exact ⟨bm, ob, e1, k3 _ _ _ e2, r⟩⟩
theorem Tabs.new {K : PySem.W.Frag} {H : Hp} {p : Addr} {o : HO} (t : Tabs K H) (hp : H p = none) : Tabs K (upd H p o) :=
  t.of (fun b ps e => by rw [upd_ne (ne_of_none e hp)]; exact e) (fun b φ e => by rw [upd_ne (ne_of_none e hp)]; exact e) fun b o u e => by rw [upd_ne (ne_of_none e hp)]; exact e
def plainO : HO → Bool
  | .tbl _ => false
  | .ext _ => false
  | .frz _ _ => false
  | _ => true
theorem Tabs.at_ {K : PySem.W.Frag} {H : Hp} {a : Addr} {o u : HO} (t : Tabs K H) (ha : H a = some u) (hu : plainO u = true) : Tabs K (upd H a o) :=
  t.of (fun b ps e => by rw [upd_ne (ne_of e ha (by intro z; subst z; cases hu))]; exact e) (fun b φ e => by rw [upd_ne (ne_of e ha (by intro z; subst z; cases hu))]; exact e) fun b o u e => by rw [upd_ne (ne_of e ha (by intro z; subst z; cases hu))]; exact e
/-- no such def -/
theorem Tabs.no {K : PySem.W.Frag} {H : Hp} (h : ∀ x, x ∈ lamNames → PySem.W.nsIn K mainGlobals x = some none) : Tabs K H := by
  have no : ∀ x, x ∈ lamNames → ∀ c P, PySem.W.tabIn K x ≠ some (c, P) := fun x hx c P e => by
    unfold PySem.W.tabIn at e
    rw [h x hx] at e
    cases e
  exact ⟨fun x hx c P e => absurd e (no x hx c P), fun x hx c P e => absurd e (no x hx c P)⟩
structure Wr (K : PySem.W.Frag) (θ : List Addr) (H : Hp) (M : Mem) : Prop where
  len : θ.length = M.length
  nd : θ.Nodup
  at_ : ∀ (i : Nat) a m, θ[i]? = some a → M[i]? = some m → MoOk K θ H m a
  tb : Tabs K H
structure Den (K : PySem.W.Frag) (θ : List Addr) (H : Hp) (σ : L2.St) (ρ : Rho) : Prop where
  len : ρ.length = σ.length
  at_ : ∀ (i : Nat) d, ρ[i]? = some (some d) → ∃ v, σ[i]? = some (some v) ∧ isD K θ H d v
/-- the heap has grown: nothing but the things that may change has changed -/
structure Grow (θ : List Addr) (H : Hp) (θ' : List Addr) (H' : Hp) : Prop where
  ext : ∃ more, θ' = θ ++ more ∧ ∀ a ∈ more, H a = none
  keep : ∀ b o, H b = some o → b ∉ θ → (∀ ps, o ≠ .tbl ps) → H' b = some o
  tkeep : ∀ b ps, H b = some (.tbl ps) → ∃ ps', H' b = some (.tbl ps')
structure Go (K : PySem.W.Frag) (θ : List Addr) (H : Hp) (θ' : List Addr) (H' : Hp) (M' : Mem) : Prop extends Grow θ H θ' H' where
  wr : Wr K θ' H' M'

section
variable {K : PySem.W.Frag} {θ θ' θ1 θ2 : List Addr} {H H' H1 H2 : Hp} {M M' M1 M2 : Mem} {a p : Addr} {σ : L2.St} {ρ : Rho}

theorem Wr.tracked (w : Wr K θ H M) (h : a ∈ θ) : H a ≠ none := by
  obtain ⟨i, hi, e⟩ := List.mem_iff_getElem.mp h
  have h1 : θ[i]? = some a := by rw [List.getElem?_eq_getElem hi, e]
  have h2 : i < M.length := by rw [← w.len]; exact hi
  have h3 := w.at_ i a _ h1 (List.getElem?_eq_getElem h2)
  cases q : M[i] with
  | lst ds =>
    rw [q] at h3
    obtain ⟨vs, e, _⟩ := h3
    rw [e]; simp
  | obj c fs =>
    rw [q] at h3
    obtain ⟨C, dx, vs, _, e, _⟩ := h3
    rw [e]; simp
  | dK kvs =>
    rw [q] at h3
    obtain ⟨vs, e, _⟩ := h3
    rw [e]; simp
  | dT kvs =>
    rw [q] at h3
    obtain ⟨vs, e, _⟩ := h3
    rw [e]; simp
theorem MoOk.plain {m : MO} (h : MoOk K θ H m a) : ∃ o, H a = some o ∧ plainO o = true := by
  cases m with
  | lst ds => obtain ⟨vs, e, _⟩ := h; exact ⟨_, e, rfl⟩
  | obj c fs => obtain ⟨C, dx, vs, _, e, _⟩ := h; exact ⟨_, e, rfl⟩
  | dK kvs => obtain ⟨vs, e, _⟩ := h; exact ⟨_, e, rfl⟩
  | dT kvs => obtain ⟨vs, e, _⟩ := h; exact ⟨_, e, rfl⟩
theorem Wr.plain (w : Wr K θ H M) {i : Nat} (h : θ[i]? = some a) : ∃ o, H a = some o ∧ plainO o = true := by
  have h2 : i < M.length := by rw [← w.len]; exact (List.getElem?_eq_some_iff.mp h).1
  exact (w.at_ i a _ h (List.getElem?_eq_getElem h2)).plain
theorem Wr.fresh (w : Wr K θ H M) (h : H p = none) : p ∉ θ := fun z => w.tracked z h

theorem Grow.refl (θ : List Addr) (H : Hp) : Grow θ H θ H := ⟨⟨[], by simp, fun _ z => by cases z⟩, fun _ _ h _ _ => h, fun b ps e => ⟨ps, e⟩⟩
theorem Go.refl (w : Wr K θ H M) : Go K θ H θ H M := ⟨.refl θ H, w⟩
theorem Go.trans (a : Go K θ H θ1 H1 M1) (b : Go K θ1 H1 θ2 H2 M2) : Go K θ H θ2 H2 M2 := by
  obtain ⟨m1, e1, f1⟩ := a.ext
  obtain ⟨m2, e2, f2⟩ := b.ext
  refine ⟨⟨⟨m1 ++ m2, by rw [e2, e1, List.append_assoc], fun x hx => ?_⟩, fun x o hx nx nt => ?_, fun x ps e => ?_⟩, b.wr⟩
  · rcases List.mem_append.mp hx with z | z
    · exact f1 x z
    · cases q : H x with
      | none => rfl
      | some o =>
        have nx : x ∉ θ := by
          intro y
          have nd := b.wr.nd
          rw [e2] at nd
          have y1 : x ∈ θ1 := by rw [e1]; exact List.mem_append_left _ y
          exact (List.nodup_append.mp nd).2.2 x y1 x z rfl
        exfalso
        by_cases nt : ∃ ps, o = .tbl ps
        · obtain ⟨ps, rfl⟩ := nt
          obtain ⟨ps', e'⟩ := a.tkeep x ps q
          rw [f2 x z] at e'; cases e'
        · have := a.keep x o q nx fun ps e' => nt ⟨ps, e'⟩
          rw [f2 x z] at this; cases this
  · have h1 := a.keep x o hx nx nt
    refine b.keep x o h1 ?_ nt
    rw [e1]
    intro z
    rcases List.mem_append.mp z with z | z
    · exact nx z
    · rw [f1 x z] at hx; cases hx
  · obtain ⟨ps', e'⟩ := a.tkeep x ps e
    exact b.tkeep x ps' e'
theorem Grow.notin (g : Grow θ H θ' H') {o : HO} (h : H a = some o) (n : a ∉ θ) : a ∉ θ' := by
  obtain ⟨m, e, f⟩ := g.ext
  rw [e]
  intro z
  rcases List.mem_append.mp z with z | z
  · exact n z
  · rw [f a z] at h; cases h
theorem TupAt.grow {xs : List V} (g : Grow θ H θ' H') (h : TupAt K θ H a xs) : TupAt K θ' H' a xs := by
  rcases h with ⟨h, n⟩ | h
  · exact .inl ⟨g.keep _ _ h n (by intro _ z; cases z), g.notin h n⟩
  · exact .inr h
theorem LstAt.grow {xs : List V} (g : Grow θ H θ' H') (h : LstAt θ H a xs) : LstAt θ' H' a xs := ⟨g.keep _ _ h.1 h.2 (by intro _ z; cases z), g.notin h.1 h.2⟩
theorem RoAt.grow {xs : List V} (g : Grow θ H θ' H') (h : RoAt K θ H a xs) : RoAt K θ' H' a xs := by
  rcases h with ⟨h | ⟨o, h⟩, n⟩ | h
  · exact .inl ⟨.inl (g.keep _ _ h n (by intro _ z; cases z)), g.notin h n⟩
  · exact .inl ⟨.inr ⟨o, g.keep _ _ h n (by intro _ z; cases z)⟩, g.notin h n⟩
  · exact .inr h
mutual
theorem isD_grow (g : Grow θ H θ' H') : ∀ (d : D) (v : V), isD K θ H d v → isD K θ' H' d v
  | .non, v, h => h
  | .bl b, v, h => h
  | .int i, v, h => h
  | .str x, v, h => h
  | .tup ds, v, h => by
    obtain ⟨a, vs, e, t, r⟩ := h
    exact ⟨a, vs, e, t.grow g, isDs_grow g ds vs r⟩
  | .lst ds, v, h => by
    obtain ⟨a, vs, e, t, r⟩ := h
    exact ⟨a, vs, e, t.grow g, isDs_grow g ds vs r⟩
  | .ro ds, v, h => by
    obtain ⟨a, vs, e, t, r⟩ := h
    exact ⟨a, vs, e, t.grow g, isDs_grow g ds vs r⟩
  | .mr i, v, h => by
    obtain ⟨a, e, t⟩ := h
    obtain ⟨m, em, _⟩ := g.ext
    refine ⟨a, e, ?_⟩
    rw [em, List.getElem?_append_left (List.getElem?_eq_some_iff.mp t).1]
    exact t
  | .exc c, v, h => by
    obtain ⟨a, C, e, k, t, n⟩ := h
    exact ⟨a, C, e, k, g.keep _ _ t n (by intro _ z; cases z), g.notin t n⟩
  | .any, v, h => h
theorem isDs_grow (g : Grow θ H θ' H') : ∀ (ds : List D) (vs : List V), isDs K θ H ds vs → isDs K θ' H' ds vs
  | [], vs, h => h
  | d :: ds, vs, h => by
    obtain ⟨v, r, e, h1, h2⟩ := h
    exact ⟨v, r, e, isD_grow g d v h1, isDs_grow g ds r h2⟩
end
theorem isD.go {d : D} {v : V} (h : isD K θ H d v) (g : Go K θ H θ' H' M') : isD K θ' H' d v := isD_grow g.toGrow d v h
theorem isDs.go {ds : List D} {vs : List V} (h : isDs K θ H ds vs) (g : Go K θ H θ' H' M') : isDs K θ' H' ds vs := isDs_grow g.toGrow ds vs h
theorem Den.go (h : Den K θ H σ ρ) (g : Go K θ H θ' H' M') : Den K θ' H' σ ρ := ⟨h.len, fun i d e => let ⟨v, e1, e2⟩ := h.at_ i d e; ⟨v, e1, e2.go g⟩⟩
theorem isDs_length : ∀ {ds : List D} {vs : List V}, isDs K θ H ds vs → ds.length = vs.length
  | [], vs, h => by cases (show vs = [] from h); rfl
  | d :: ds, vs, h => by
    obtain ⟨v, r, e, _, h2⟩ := h
    subst e
    rw [List.length_cons, List.length_cons, isDs_length h2]
theorem isDs_append : ∀ {ds es : List D} {vs us : List V}, isDs K θ H ds vs → isDs K θ H es us → isDs K θ H (ds ++ es) (vs ++ us)
  | [], es, vs, us, h, k => by cases (show vs = [] from h); exact k
  | d :: ds, es, vs, us, h, k => by
    obtain ⟨v, r, e, h1, h2⟩ := h
    subst e
    exact ⟨v, r ++ us, rfl, h1, isDs_append h2 k⟩
theorem isDs_get : ∀ {ds : List D} {vs : List V} {i : Nat} {d : D}, isDs K θ H ds vs → ds[i]? = some d → ∃ v, vs[i]? = some v ∧ isD K θ H d v
  | [], vs, i, d, h, e => by simp at e
  | x :: ds, vs, 0, d, h, e => by
    obtain ⟨v, r, e1, h1, h2⟩ := h
    subst e1
    simp at e; subst e
    exact ⟨v, rfl, h1⟩
  | x :: ds, vs, i + 1, d, h, e => by
    obtain ⟨v, r, e1, h1, h2⟩ := h
    subst e1
    obtain ⟨u, e2, h3⟩ := isDs_get (i := i) h2 (by simpa using e)
    exact ⟨u, by simpa using e2, h3⟩
theorem isDs_take : ∀ {ds : List D} {vs : List V} (n : Nat), isDs K θ H ds vs → isDs K θ H (ds.take n) (vs.take n)
  | ds, vs, 0, h => by rw [List.take_zero, List.take_zero]; exact rfl
  | [], vs, n + 1, h => by cases (show vs = [] from h); exact rfl
  | d :: ds, vs, n + 1, h => by
    obtain ⟨v, r, e, h1, h2⟩ := h
    subst e
    exact ⟨v, r.take n, rfl, h1, isDs_take n h2⟩
theorem isDs_drop : ∀ {ds : List D} {vs : List V} (n : Nat), isDs K θ H ds vs → isDs K θ H (ds.drop n) (vs.drop n)
  | ds, vs, 0, h => h
  | [], vs, n + 1, h => by cases (show vs = [] from h); exact rfl
  | d :: ds, vs, n + 1, h => by
    obtain ⟨v, r, e, h1, h2⟩ := h
    subst e
    exact isDs_drop n h2
theorem isDs_set {d : D} {v : V} (hd : isD K θ H d v) : ∀ {ds : List D} {vs : List V} (i : Nat), isDs K θ H ds vs → isDs K θ H (ds.set i d) (vs.set i v)
  | [], vs, i, h => by cases (show vs = [] from h); exact rfl
  | x :: ds, vs, 0, h => by
    obtain ⟨u, r, e, h1, h2⟩ := h
    subst e
    exact ⟨v, r, rfl, hd, h2⟩
  | x :: ds, vs, i + 1, h => by
    obtain ⟨u, r, e, h1, h2⟩ := h
    subst e
    exact ⟨u, r.set i v, rfl, h1, isDs_set hd i h2⟩

/-! ### new things, changed things -/
theorem grow_new {o : HO} (w : Wr K θ H M) (hp : H p = none) : Grow θ H θ (upd H p o) :=
  ⟨⟨[], by simp, fun _ z => by cases z⟩, fun b u h _ _ => by rw [upd_ne (ne_of_none h hp)]; exact h, fun b ps h => ⟨ps, by rw [upd_ne (ne_of_none h hp)]; exact h⟩⟩
theorem isFs_grow (g : Grow θ H θ' H') : ∀ {fs : List (Str × D)} {vs : List (Str × V)}, isFs K θ H fs vs → isFs K θ' H' fs vs
  | [], vs, h => h
  | (f, d) :: fs, vs, h => by
    obtain ⟨v, r, e, h1, h2⟩ := h
    exact ⟨v, r, e, isD_grow g d v h1, isFs_grow g h2⟩
theorem isKs_grow {κ : Type} (g : Grow θ H θ' H') : ∀ {fs : List (κ × D)} {vs : List (κ × V)}, isKs K θ H fs vs → isKs K θ' H' fs vs
  | [], vs, h => h
  | (f, d) :: fs, vs, h => by
    obtain ⟨v, r, e, h1, h2⟩ := h
    exact ⟨v, r, e, isD_grow g d v h1, isKs_grow g h2⟩
theorem MoOk.grow {m : MO} (g : Grow θ H θ' H') (hs : H' a = H a) (h : MoOk K θ H m a) : MoOk K θ' H' m a := by
  cases m with
  | lst ds =>
    obtain ⟨vs, e, r⟩ := h
    exact ⟨vs, by rw [hs]; exact e, isDs_grow g ds vs r⟩
  | obj c fs =>
    obtain ⟨C, dx, vs, k, e, r⟩ := h
    exact ⟨C, dx, vs, k, by rw [hs]; exact e, isFs_grow g r⟩
  | dK kvs =>
    obtain ⟨vs, e, r⟩ := h
    exact ⟨vs, by rw [hs]; exact e, isKs_grow g r⟩
  | dT kvs =>
    obtain ⟨vs, e, r⟩ := h
    exact ⟨vs, by rw [hs]; exact e, isKs_grow g r⟩
theorem go_new {o : HO} (w : Wr K θ H M) (hp : H p = none) : Go K θ H θ (upd H p o) M :=
  ⟨grow_new w hp, w.len, w.nd, fun i a m h1 h2 => by
    have ha : a ≠ p := fun e => w.fresh hp (by rw [← e]; exact List.mem_of_getElem? h1)
    exact (w.at_ i a m h1 h2).grow (grow_new w hp) (upd_ne ha), w.tb.new hp⟩
theorem new_tup {ds : List D} {vs : List V} (w : Wr K θ H M) (hp : H p = none) (r : isDs K θ H ds vs) : isD K θ (upd H p (.tup vs)) (.tup ds) (.ref p) :=
  ⟨p, vs, rfl, .inl ⟨upd_same, w.fresh hp⟩, isDs_grow (grow_new w hp) ds vs r⟩
theorem new_lst {ds : List D} {vs : List V} (w : Wr K θ H M) (hp : H p = none) (r : isDs K θ H ds vs) : isD K θ (upd H p (.lst vs)) (.lst ds) (.ref p) :=
  ⟨p, vs, rfl, ⟨upd_same, w.fresh hp⟩, isDs_grow (grow_new w hp) ds vs r⟩
theorem grow_newM {o : HO} (hp : H p = none) : Grow θ H (θ ++ [p]) (upd H p o) :=
  ⟨⟨[p], rfl, fun a ha => by rw [List.mem_singleton.mp ha]; exact hp⟩, fun b u h _ _ => by rw [upd_ne (ne_of_none h hp)]; exact h, fun b ps h => ⟨ps, by rw [upd_ne (ne_of_none h hp)]; exact h⟩⟩
/-- a thing that may change is made -/
theorem go_newM {m : MO} {o : HO} (w : Wr K θ H M) (hp : H p = none) (hm : MoOk K (θ ++ [p]) (upd H p o) m p) : Go K θ H (θ ++ [p]) (upd H p o) (M ++ [m]) := by
  have np := w.fresh hp
  have g : Grow θ H (θ ++ [p]) (upd H p o) := grow_newM hp
  refine ⟨g, by rw [List.length_append, List.length_append, w.len]; rfl, ?_, fun i a m' h1 h2 => ?_, w.tb.new hp⟩
  · rw [List.nodup_append]
    exact ⟨w.nd, by simp, fun x hx y hy e => np (by rw [List.mem_singleton.mp hy] at e; rw [← e]; exact hx)⟩
  · by_cases hi : i < θ.length
    · rw [List.getElem?_append_left hi] at h1
      rw [List.getElem?_append_left (by rw [← w.len]; exact hi)] at h2
      have ha : a ≠ p := fun e => np (by rw [← e]; exact List.mem_of_getElem? h1)
      exact (w.at_ i a m' h1 h2).grow g (upd_ne ha)
    · have hi' : i = θ.length := by
        have := (List.getElem?_eq_some_iff.mp h1).1
        rw [List.length_append, List.length_singleton] at this
        omega
      subst hi'
      rw [List.getElem?_append_right (Nat.le_refl _)] at h1
      rw [List.getElem?_append_right (by rw [w.len]; exact Nat.le_refl _)] at h2
      simp only [Nat.sub_self, w.len, List.getElem?_cons_zero, Option.some.injEq] at h1 h2
      subst h1; subst h2
      exact hm
/-- a list that may change is made -/
theorem go_mut {ds : List D} {vs : List V} (w : Wr K θ H M) (hp : H p = none) (r : isDs K θ H ds vs) : Go K θ H (θ ++ [p]) (upd H p (.lst vs)) (M ++ [.lst ds]) :=
  go_newM w hp ⟨vs, upd_same, isDs_grow (grow_newM hp) ds vs r⟩
theorem grow_at {i : Nat} {o : HO} (w : Wr K θ H M) (hi : θ[i]? = some a) : Grow θ H θ (upd H a o) := by
  have ha : a ∈ θ := List.mem_of_getElem? hi
  obtain ⟨u, hu, pu⟩ := w.plain hi
  exact ⟨⟨[], by simp, fun _ z => by cases z⟩, fun b u h n _ => by rw [upd_ne (fun e => n (by rw [e]; exact ha))]; exact h, fun b ps h => ⟨ps, by rw [upd_ne (ne_of h hu (by intro z; subst z; cases pu))]; exact h⟩⟩
/-- the i-th thing has changed -/
theorem go_setM {i : Nat} {m : MO} {o : HO} (w : Wr K θ H M) (hi : θ[i]? = some a) (hm : MoOk K θ (upd H a o) m a) : Go K θ H θ (upd H a o) (M.set i m) := by
  have g : Grow θ H θ (upd H a o) := grow_at w hi
  obtain ⟨u, hu, pu⟩ := w.plain hi
  refine ⟨g, by rw [List.length_set]; exact w.len, w.nd, fun j b m' h1 h2 => ?_, w.tb.at_ hu pu⟩
  by_cases hj : j = i
  · subst hj
    rw [hi] at h1; cases h1
    have hl : j < M.length := by rw [← w.len]; exact (List.getElem?_eq_some_iff.mp hi).1
    rw [List.getElem?_set_self hl] at h2
    cases h2
    exact hm
  · rw [List.getElem?_set_ne (Ne.symm hj)] at h2
    have hb : b ≠ a := fun e => by
      subst e
      obtain ⟨h3, e3⟩ := List.getElem?_eq_some_iff.mp h1
      obtain ⟨h4, e4⟩ := List.getElem?_eq_some_iff.mp hi
      exact hj ((List.getElem_inj w.nd).mp (e3.trans e4.symm))
    exact (w.at_ j b m' h1 h2).grow g (upd_ne hb)
theorem go_set {i : Nat} {ds ds' : List D} {vs' : List V} (w : Wr K θ H M) (hi : θ[i]? = some a) (r : isDs K θ H ds' vs') : Go K θ H θ (upd H a (.lst vs')) (M.set i (.lst ds')) :=
  go_setM w hi ⟨vs', upd_same, isDs_grow (grow_at w hi) ds' vs' r⟩
end

/-! ### readings by functions -/
abbrev GE := Rho → Mem → Out D
abbrev GT := Rho → Mem → Out Bool
abbrev GA := Rho → Mem → Out (List D)
inductive Fl where
  | nx (ρ : Rho) | rt (d : D) | bk (ρ : Rho) | ct (ρ : Rho)
abbrev GS := Rho → Mem → Out Fl

/-- a refusal leaves: what the context wants of it -/
def ErrOk (X : Cx) (θ : List Addr) (H : Hp) (c : Str) (M : Mem) : Prop := ∀ C θ' H' a s', ClsAt X.K c C → Go X.K θ H θ' H' M → Fly X H' a C s' → X.xe (.ref a) s'
def FinE (X : Cx) (θ : List Addr) (H : Hp) (Q : VK) : Out D → Prop
  | .ok d M' => ∀ v θ' H', Go X.K θ H θ' H' M' → isD X.K θ' H' d v → Q v H'
  | .err c M' => ErrOk X θ H c M'
  | .bad => False
def FinT (X : Cx) (θ : List Addr) (H : Hp) (Q : Bool → Hp → Prop) : Out Bool → Prop
  | .ok b M' => ∀ θ' H', Go X.K θ H θ' H' M' → Q b H'
  | .err c M' => ErrOk X θ H c M'
  | .bad => False
def FinA (X : Cx) (θ : List Addr) (H : Hp) (Q : List V → Hp → Prop) : Out (List D) → Prop
  | .ok ds M' => ∀ vs θ' H', Go X.K θ H θ' H' M' → isDs X.K θ' H' ds vs → Q vs H'
  | .err c M' => ErrOk X θ H c M'
  | .bad => False
def FinS (X : Cx) (θ : List Addr) (H : Hp) (D : Ends) : Out Fl → Prop
  | .ok (.nx ρ) M' => ∀ σ θ' H', Go X.K θ H θ' H' M' → Den X.K θ' H' σ ρ → D.nx σ H'
  | .ok (.bk ρ) M' => ∀ σ θ' H', Go X.K θ H θ' H' M' → Den X.K θ' H' σ ρ → D.bk σ H'
  | .ok (.ct ρ) M' => ∀ σ θ' H', Go X.K θ H θ' H' M' → Den X.K θ' H' σ ρ → D.ct σ H'
  | .ok (.rt d) M' => ∀ v θ' H', Go X.K θ H θ' H' M' → isD X.K θ' H' d v → D.rt v H'
  | .err c M' => ErrOk X θ H c M'
  | .bad => False
def tE (X : Cx) (g : GE) : TE := fun σ H Q => ∃ ρ θ M, Den X.K θ H σ ρ ∧ Wr X.K θ H M ∧ FinE X θ H Q (g ρ M)
def tT (X : Cx) (g : GT) : TT := fun σ H Q => ∃ ρ θ M, Den X.K θ H σ ρ ∧ Wr X.K θ H M ∧ FinT X θ H Q (g ρ M)
def tA (X : Cx) (g : GA) : TA := fun σ H Q => ∃ ρ θ M, Den X.K θ H σ ρ ∧ Wr X.K θ H M ∧ FinA X θ H Q (g ρ M)
def tS (X : Cx) (g : GS) : TS := fun D σ H => ∃ ρ θ M, Den X.K θ H σ ρ ∧ Wr X.K θ H M ∧ FinS X θ H D (g ρ M)

section
variable {X : Cx} {θ θ' : List Addr} {H H' : Hp} {M' : Mem}
theorem ErrOk.go {c : Str} {M : Mem} (g : Go X.K θ H θ' H' M') (h : ErrOk X θ H c M) : ErrOk X θ' H' c M := fun C θ2 H2 a s' k g2 fl => h C θ2 H2 a s' k (g.trans g2) fl
theorem FinE.go {Q : VK} {o : Out D} (g : Go X.K θ H θ' H' M') (h : FinE X θ H Q o) : FinE X θ' H' Q o := by
  cases o with
  | ok d M => exact fun v θ2 H2 g2 => h v θ2 H2 (g.trans g2)
  | err c M => exact ErrOk.go (c := c) (M := M) g h
  | bad => exact h
theorem FinT.go {Q : Bool → Hp → Prop} {o : Out Bool} (g : Go X.K θ H θ' H' M') (h : FinT X θ H Q o) : FinT X θ' H' Q o := by
  cases o with
  | ok d M => exact fun θ2 H2 g2 => h θ2 H2 (g.trans g2)
  | err c M => exact ErrOk.go (c := c) (M := M) g h
  | bad => exact h
theorem FinA.go {Q : List V → Hp → Prop} {o : Out (List D)} (g : Go X.K θ H θ' H' M') (h : FinA X θ H Q o) : FinA X θ' H' Q o := by
  cases o with
  | ok d M => exact fun v θ2 H2 g2 => h v θ2 H2 (g.trans g2)
  | err c M => exact ErrOk.go (c := c) (M := M) g h
  | bad => exact h
theorem FinS.go {D : Ends} {o : Out Fl} (g : Go X.K θ H θ' H' M') (h : FinS X θ H D o) : FinS X θ' H' D o := by
  cases o with
  | ok f M => cases f <;> exact fun v θ2 H2 g2 => h v θ2 H2 (g.trans g2)
  | err c M => exact ErrOk.go (c := c) (M := M) g h
  | bad => exact h
end

/-! ### composing -/
section
variable {X : Cx} {e : Expr}
theorem _root_.L2.PE.of {t t' : TE} (h : PE X e t) (w : ∀ σ H Q, t' σ H Q → t σ H Q) : PE X e t' := fun pins s σ H Q I q => h pins s σ H Q I (w σ H Q q)
theorem _root_.L2.PT.of {t t' : TT} (h : PT X e t) (w : ∀ σ H Q, t' σ H Q → t σ H Q) : PT X e t' := fun pins s σ H Q I q => h pins s σ H Q I (w σ H Q q)
theorem _root_.L2.PW.of {t t' : TT} (h : PW X e t) (w : ∀ σ H Q, t' σ H Q → t σ H Q) : PW X e t' := fun wh pins s σ H Q I q => h wh pins s σ H Q I (w σ H Q q)
theorem _root_.L2.PA.of {es : List Expr} {t t' : TA} (h : PA X es t) (w : ∀ σ H Q, t' σ H Q → t σ H Q) : PA X es t' := fun pos pins s σ H Q I q => h pos pins s σ H Q I (w σ H Q q)
theorem _root_.L2.PS.of {st : Stmt} {t t' : TS} (h : PS X st t) (w : ∀ D σ H, t' D σ H → t D σ H) : PS X st t' := fun pins s σ H D I q => h pins s σ H D I (w D σ H q)
theorem _root_.L2.PSs.of {st : List Stmt} {t t' : TS} (h : PSs X st t) (w : ∀ D σ H, t' D σ H → t D σ H) : PSs X st t' := fun pins s σ H D I q => h pins s σ H D I (w D σ H q)

/-- behind an expression: f goes on with its data -/
theorem thenE {g : GE} {σ : L2.St} {H : Hp} {Q : VK} {α : Type} {ρ : Rho} {θ : List Addr} {M : Mem} (hd : Den X.K θ H σ ρ) (hw : Wr X.K θ H M) (F : Out α → Prop) (Fe : ∀ c M', F (.err c M') → ErrOk X θ H c M') (Fb : F .bad → False)
    {f : D → Mem → Out α} (h : F ((g ρ M).bind f))
    (k : ∀ d M1 v θ1 H1, Go X.K θ H θ1 H1 M1 → isD X.K θ1 H1 d v → F (f d M1) → Q v H1) : tE X g σ H Q := by
  refine ⟨ρ, θ, M, hd, hw, ?_⟩
  cases q : g ρ M with
  | ok d M1 =>
    rw [q] at h
    exact fun v θ1 H1 g1 r1 => k d M1 v θ1 H1 g1 r1 h
  | err c M1 => rw [q] at h; exact Fe c M1 h
  | bad => rw [q] at h; exact (Fb h).elim

def gVar (i : Nat) : GE := fun ρ M => match ρ[i]? with
  | some (some d) => .ok d M
  | _ => .bad
def gC (d : D) : GE := fun _ M => .ok d M
theorem de_var {i : Nat} (h : PE X e (tVar i)) : PE X e (tE X (gVar i)) := h.of fun σ H Q ⟨ρ, θ, M, hd, hw, f⟩ => by
  unfold gVar at f
  split at f
  · rename_i d q
    obtain ⟨v, e1, r⟩ := hd.at_ i d q
    exact ⟨v, e1, f v θ H (.refl hw) r⟩
  · exact f.elim
theorem de_int {i j pos} : PE X (.Constant (.int i) j pos) (tE X (gC (.int i))) := pe_int.of fun σ H Q ⟨ρ, θ, M, hd, hw, f⟩ => f _ θ H (.refl hw) rfl
theorem de_bl {b j pos} : PE X (.Constant (.bool b) j pos) (tE X (gC (.bl b))) := pe_bl.of fun σ H Q ⟨ρ, θ, M, hd, hw, f⟩ => f _ θ H (.refl hw) rfl
theorem de_non {j pos} : PE X (.Constant .none j pos) (tE X (gC .non)) := pe_non.of fun σ H Q ⟨ρ, θ, M, hd, hw, f⟩ => f _ θ H (.refl hw) rfl
theorem de_str {x j pos} : PE X (.Constant (.str x) j pos) (tE X (gC (.str x))) := pe_str.of fun σ H Q ⟨ρ, θ, M, hd, hw, f⟩ => f _ θ H (.refl hw) rfl

/-- two-place operations -/
abbrev F2 := D → D → Mem → Out D
def g2 (f : F2) (ga gb : GE) : GE := fun ρ M => (ga ρ M).bind fun x M1 => (gb ρ M1).bind fun y M2 => f x y M2
def rD (X : Cx) (f : F2) : R2 := fun x y H Q => ∃ θ M dx dy, Wr X.K θ H M ∧ isD X.K θ H dx x ∧ isD X.K θ H dy y ∧ FinE X θ H Q (f dx dy M)
theorem t2_of {f : F2} {ga gb : GE} {σ : L2.St} {H : Hp} {Q : VK} (h : tE X (g2 f ga gb) σ H Q) : tOp (rD X f) (tE X ga) (tE X gb) σ H Q := by
  obtain ⟨ρ, θ, M, hd, hw, h⟩ := h
  refine thenE hd hw (FinE X θ H Q) (fun c M' h => h) (fun h => h) h fun dx M1 x θ1 H1 g1 r1 h1 => ?_
  refine thenE (hd.go g1) g1.wr (FinE X θ1 H1 Q) (fun c M' h => h) (fun h => h) (h1.go g1) fun dy M2 y θ2 H2 g2 r2 h2 => ?_
  exact ⟨θ2, M2, dx, dy, g2.wr, r1.go g2, r2, h2.go g2⟩
theorem de_op {a b : Expr} {op : Operator} {pos : Pos} {f : F2} {ga gb : GE} (ho : OpR X (binaryOp op) (rD X f)) (ha : PE X a (tE X ga)) (hb : PE X b (tE X gb)) : PE X (.BinOp a op b pos) (tE X (g2 f ga gb)) :=
  (pe_op ho ha hb).of fun _ _ _ h => t2_of h
theorem de_cmp {a b : Expr} {op : CmpOp} {pos : Pos} {f : F2} {ga gb : GE} (ho : OpR X (compareOp op) (rD X f)) (ha : PE X a (tE X ga)) (hb : PE X b (tE X gb)) (hm : behindInMarks op b = false) : PE X (.Compare a [op] [b] pos) (tE X (g2 f ga gb)) :=
  (pe_cmpR ho ha hb hm).of fun _ _ _ h => t2_of h
/-- a comparison as a test -/
def asB : D → Mem → Out Bool
  | .bl b, M => .ok b M
  | _, _ => .bad
def gTst (g : GE) : GT := fun ρ M => (g ρ M).bind asB
theorem FinE_asB {θ : List Addr} {H : Hp} {Q : Bool → Hp → Prop} {o : Out D} (h : FinT X θ H Q (o.bind asB)) : FinE X θ H (fun x H' => ∃ k, x = .bl k ∧ Q k H') o := by
  cases o with
  | ok d M =>
    cases d with
    | bl b => exact fun v θ1 H1 g1 r1 => ⟨b, r1, h θ1 H1 g1⟩
    | _ => exact h.elim
  | err c M => exact h
  | bad => exact h
theorem tst_of {g : GE} {σ : L2.St} {H : Hp} {Q : Bool → Hp → Prop} (h : tT X (gTst g) σ H Q) : tE X g σ H fun x H' => ∃ k, x = .bl k ∧ Q k H' := by
  obtain ⟨ρ, θ, M, hd, hw, h⟩ := h
  exact ⟨ρ, θ, M, hd, hw, FinE_asB h⟩
theorem dt_cmp {a b : Expr} {op : CmpOp} {pos : Pos} {f : F2} {ga gb : GE} (ho : OpR X (compareOp op) (rD X f)) (ha : PE X a (tE X ga)) (hb : PE X b (tE X gb)) (hm : behindInMarks op b = false) : PT X (.Compare a [op] [b] pos) (tT X (gTst (g2 f ga gb))) :=
  (pt_cmpR ho ha hb hm).of fun σ H Q h => t2_of (tst_of h)
/-- a op1 b op2 c -/
def gCh (f f' : F2) (ga gb gc : GE) : GE := fun ρ M => (ga ρ M).bind fun x M1 => (gb ρ M1).bind fun y M2 => (f x y M2).bind fun z M3 => match z with
  | .bl true => (gc ρ M3).bind fun w M4 => f' y w M4
  | .bl false => .ok (.bl false) M3
  | _ => .bad
theorem ch_of {f f' : F2} {ga gb gc : GE} {σ : L2.St} {H : Hp} {Q : VK} (h : tE X (gCh f f' ga gb gc) σ H Q) : tChain (rD X f) (rD X f') (tE X ga) (tE X gb) (tE X gc) σ H Q := by
  obtain ⟨ρ, θ, M, hd, hw, h⟩ := h
  refine thenE hd hw (FinE X θ H Q) (fun c M' h => h) (fun h => h) h fun dx M1 x θ1 H1 g1 r1 h1 => ?_
  refine thenE (hd.go g1) g1.wr (FinE X θ1 H1 Q) (fun c M' h => h) (fun h => h) (h1.go g1) fun dy M2 y θ2 H2 g2 r2 h2 => ?_
  refine ⟨θ2, M2, dx, dy, g2.wr, r1.go g2, r2, ?_⟩
  have h3 := h2.go g2
  cases q : f dx dy M2 with
  | ok z M3 =>
    rw [q] at h3
    intro v θ3 H3 g3 r3
    cases z with
    | bl k =>
      refine ⟨k, r3, ?_⟩
      cases k with
      | true =>
        rw [if_pos rfl]
        refine thenE ((hd.go g1).go (g2.trans g3)) g3.wr (FinE X θ3 H3 Q) (fun c M' h => h) (fun h => h) (h3.go g3) fun dw M4 w θ4 H4 g4 r4 h4 => ?_
        exact ⟨θ4, M4, dy, dw, g4.wr, r2.go (g3.trans g4), r4, h4.go g4⟩
      | false =>
        rw [if_neg Bool.false_ne_true]
        exact h3 _ θ3 H3 g3 rfl
    | _ => exact h3.elim
  | err c M3 => rw [q] at h3; exact h3
  | bad => rw [q] at h3; exact h3
theorem dt_chain {a b c : Expr} {op op' : CmpOp} {pos : Pos} {f f' : F2} {ga gb gc : GE} (ho : OpR X (compareOp op) (rD X f)) (ho' : OpR X (compareOp op') (rD X f')) (ha : PE X a (tE X ga)) (hb : PE X b (tE X gb)) (hc : PE X c (tE X gc))
    (hm : lastMarks [op, op'] [b, c] = false := by with_unfolding_all rfl) : PT X (.Compare a [op, op'] [b, c] pos) (tT X (gTst (gCh f f' ga gb gc))) := (pt_chain ho ho' ha hb hc hm).of fun σ H Q h => ch_of (tst_of h)

/-! ### and, or, not, if -/
def gAndT (a b : GT) : GT := fun ρ M => (a ρ M).bind fun c M1 => if c then b ρ M1 else .ok false M1
def gOrT (a b : GT) : GT := fun ρ M => (a ρ M).bind fun c M1 => if c then .ok true M1 else b ρ M1
def gNotT (a : GT) : GT := fun ρ M => (a ρ M).bind fun c M1 => .ok (!c) M1
theorem thenT {g : GT} {σ : L2.St} {H : Hp} {Q : Bool → Hp → Prop} {α : Type} {ρ : Rho} {θ : List Addr} {M : Mem} (hd : Den X.K θ H σ ρ) (hw : Wr X.K θ H M) (F : Out α → Prop) (Fe : ∀ c M', F (.err c M') → ErrOk X θ H c M') (Fb : F .bad → False)
    {f : Bool → Mem → Out α} (h : F ((g ρ M).bind f)) (k : ∀ d M1 θ1 H1, Go X.K θ H θ1 H1 M1 → F (f d M1) → Q d H1) : tT X g σ H Q := by
  refine ⟨ρ, θ, M, hd, hw, ?_⟩
  cases q : g ρ M with
  | ok d M1 =>
    rw [q] at h
    exact fun θ1 H1 g1 => k d M1 θ1 H1 g1 h
  | err c M1 => rw [q] at h; exact Fe c M1 h
  | bad => rw [q] at h; exact (Fb h).elim
variable {a b : Expr} {pos : Pos} {rest : List Expr} {ta tb : GT} {ga gb : GE}
theorem dw_and1 (ha : PT X a (tT X ta)) : PW X (.BoolOp .And [a] pos) (tT X ta) := pw_and1 ha
theorem dw_or1 (ha : PT X a (tT X ta)) : PW X (.BoolOp .Or [a] pos) (tT X ta) := pw_or1 ha
theorem dw_and (ha : PT X a (tT X ta)) (hb : PW X (.BoolOp .And (b :: rest) pos) (tT X tb)) : PW X (.BoolOp .And (a :: b :: rest) pos) (tT X (gAndT ta tb)) := (pw_and ha hb).of fun σ H Q ⟨ρ, θ, M, hd, hw, h⟩ => by
  refine thenT hd hw (FinT X θ H Q) (fun c M' h => h) (fun h => h) h fun c M1 θ1 H1 g1 h1 => ?_
  cases c with
  | true => exact ⟨ρ, θ1, M1, hd.go g1, g1.wr, FinT.go g1 h1⟩
  | false => exact h1 θ1 H1 g1
theorem dw_or (ha : PT X a (tT X ta)) (hb : PW X (.BoolOp .Or (b :: rest) pos) (tT X tb)) : PW X (.BoolOp .Or (a :: b :: rest) pos) (tT X (gOrT ta tb)) := (pw_or ha hb).of fun σ H Q ⟨ρ, θ, M, hd, hw, h⟩ => by
  refine thenT hd hw (FinT X θ H Q) (fun c M' h => h) (fun h => h) h fun c M1 θ1 H1 g1 h1 => ?_
  cases c with
  | true => exact h1 θ1 H1 g1
  | false => exact ⟨ρ, θ1, M1, hd.go g1, g1.wr, FinT.go g1 h1⟩
theorem dt_not (ha : PT X a (tT X ta)) : PT X (.UnaryOp .Not a pos) (tT X (gNotT ta)) := (pt_not ha).of fun σ H Q ⟨ρ, θ, M, hd, hw, h⟩ => by
  exact thenT hd hw (FinT X θ H Q) (fun c M' h => h) (fun h => h) h fun c M1 θ1 H1 g1 h1 => h1 θ1 H1 g1
/-- as values: the left a bool -/
def gAnd (a b : GE) : GE := fun ρ M => (a ρ M).bind fun x M1 => match x with
  | .bl true => b ρ M1
  | .bl false => .ok (.bl false) M1
  | _ => .bad
def gOr (a b : GE) : GE := fun ρ M => (a ρ M).bind fun x M1 => match x with
  | .bl true => .ok (.bl true) M1
  | .bl false => b ρ M1
  | _ => .bad
def gNot (a : GT) : GE := fun ρ M => (a ρ M).bind fun c M1 => .ok (.bl (!c)) M1
/-- a if t else b -/
def gIfE (t : GT) (a b : GE) : GE := fun ρ M => (t ρ M).bind fun c M1 => if c then a ρ M1 else b ρ M1
/-! ### argument lists, displays -/
def gNil : GA := fun _ M => .ok [] M
def gCons (g : GE) (r : GA) : GA := fun ρ M => (g ρ M).bind fun d M1 => (r ρ M1).bind fun ds M2 => .ok (d :: ds) M2
theorem thenA {g : GA} {σ : L2.St} {H : Hp} {Q : List V → Hp → Prop} {α : Type} {ρ : Rho} {θ : List Addr} {M : Mem} (hd : Den X.K θ H σ ρ) (hw : Wr X.K θ H M) (F : Out α → Prop) (Fe : ∀ c M', F (.err c M') → ErrOk X θ H c M') (Fb : F .bad → False)
    {f : List D → Mem → Out α} (h : F ((g ρ M).bind f)) (k : ∀ ds M1 vs θ1 H1, Go X.K θ H θ1 H1 M1 → isDs X.K θ1 H1 ds vs → F (f ds M1) → Q vs H1) : tA X g σ H Q := by
  refine ⟨ρ, θ, M, hd, hw, ?_⟩
  cases q : g ρ M with
  | ok d M1 =>
    rw [q] at h
    exact fun v θ1 H1 g1 r1 => k d M1 v θ1 H1 g1 r1 h
  | err c M1 => rw [q] at h; exact Fe c M1 h
  | bad => rw [q] at h; exact (Fb h).elim
theorem da_nil : PA X [] (tA X gNil) := pa_nil.of fun σ H Q ⟨ρ, θ, M, hd, hw, f⟩ => f [] θ H (.refl hw) rfl
theorem da_cons {es : List Expr} {gr : GA} (ha : PE X e (tE X ga)) (hr : PA X es (tA X gr)) (hs : starEach (e :: es) X.env = (false, eval e X.env) :: starEach es X.env := by rfl) : PA X (e :: es) (tA X (gCons ga gr)) :=
  (pa_cons ha hr hs).of fun σ H Q ⟨ρ, θ, M, hd, hw, h⟩ => by
    refine thenE hd hw (FinA X θ H Q) (fun c M' h => h) (fun h => h) h fun d M1 v θ1 H1 g1 r1 h1 => ?_
    refine thenA (hd.go g1) g1.wr (FinA X θ1 H1 Q) (fun c M' h => h) (fun h => h) (h1.go g1) fun ds M2 vs θ2 H2 g2 r2 h2 => ?_
    exact h2 (v :: vs) θ2 H2 g2 ⟨v, vs, rfl, r1.go g2, r2⟩
def mkTup (ds : List D) (M : Mem) : Out D := if ds.length ≤ sizeLine then .ok (.tup ds) M else .bad
def mkLst (ds : List D) (M : Mem) : Out D := if ds.length ≤ sizeLine then .ok (.lst ds) M else .bad
/-- a list that may change -/
def mkMut (ds : List D) (M : Mem) : Out D := if ds.length ≤ sizeLine then .ok (.mr M.length) (M ++ [.lst ds]) else .bad
def gTup (g : GA) : GE := fun ρ M => (g ρ M).bind mkTup
def gLst (g : GA) : GE := fun ρ M => (g ρ M).bind mkLst
def gMut (g : GA) : GE := fun ρ M => (g ρ M).bind mkMut
theorem FinE.tup {θ : List Addr} {H : Hp} {Q : VK} {ds : List D} {M : Mem} {vs : List V} (h : FinE X θ H Q (mkTup ds M)) (hw : Wr X.K θ H M) (r : isDs X.K θ H ds vs) : vs.length ≤ sizeLine ∧ ∀ p, H p = none → Q (.ref p) (upd H p (.tup vs)) := by
  unfold mkTup at h
  by_cases hl : ds.length ≤ sizeLine
  · rw [if_pos hl] at h
    exact ⟨by rw [← isDs_length r]; exact hl, fun p hp => h _ θ _ (go_new hw hp) (new_tup hw hp r)⟩
  · rw [if_neg hl] at h; exact h.elim
theorem FinE.lst {θ : List Addr} {H : Hp} {Q : VK} {ds : List D} {M : Mem} {vs : List V} (h : FinE X θ H Q (mkLst ds M)) (hw : Wr X.K θ H M) (r : isDs X.K θ H ds vs) : vs.length ≤ sizeLine ∧ ∀ p, H p = none → Q (.ref p) (upd H p (.lst vs)) := by
  unfold mkLst at h
  by_cases hl : ds.length ≤ sizeLine
  · rw [if_pos hl] at h
    exact ⟨by rw [← isDs_length r]; exact hl, fun p hp => h _ θ _ (go_new hw hp) (new_lst hw hp r)⟩
  · rw [if_neg hl] at h; exact h.elim
theorem FinE.mut {θ : List Addr} {H : Hp} {Q : VK} {ds : List D} {M : Mem} {vs : List V} (h : FinE X θ H Q (mkMut ds M)) (hw : Wr X.K θ H M) (r : isDs X.K θ H ds vs) : vs.length ≤ sizeLine ∧ ∀ p, H p = none → Q (.ref p) (upd H p (.lst vs)) := by
  unfold mkMut at h
  by_cases hl : ds.length ≤ sizeLine
  · rw [if_pos hl] at h
    refine ⟨by rw [← isDs_length r]; exact hl, fun p hp => h _ (θ ++ [p]) _ (go_mut hw hp r) ⟨p, rfl, ?_⟩⟩
    rw [← hw.len, List.getElem?_append_right (Nat.le_refl _)]
    simp
  · rw [if_neg hl] at h; exact h.elim
theorem de_tup {es : List Expr} {x1} {g : GA} (h : PA X es (tA X g)) : PE X (.Tuple es x1 pos) (tE X (gTup g)) := (pe_tup h).of fun σ H Q ⟨ρ, θ, M, hd, hw, h⟩ =>
  thenA hd hw (FinE X θ H Q) (fun c M' h => h) (fun h => h) h fun ds M1 vs θ1 H1 g1 r1 h1 => FinE.tup (FinE.go g1 h1) g1.wr r1
theorem de_lst {es : List Expr} {g : GA} (h : PA X es (tA X g)) : PE X (.List es pos) (tE X (gLst g)) := (pe_lst h).of fun σ H Q ⟨ρ, θ, M, hd, hw, h⟩ =>
  thenA hd hw (FinE X θ H Q) (fun c M' h => h) (fun h => h) h fun ds M1 vs θ1 H1 g1 r1 h1 => FinE.lst (FinE.go g1 h1) g1.wr r1
theorem de_mut {es : List Expr} {g : GA} (h : PA X es (tA X g)) : PE X (.List es pos) (tE X (gMut g)) := (pe_lst h).of fun σ H Q ⟨ρ, θ, M, hd, hw, h⟩ =>
  thenA hd hw (FinE X θ H Q) (fun c M' h => h) (fun h => h) h fun ds M1 vs θ1 H1 g1 r1 h1 => FinE.mut (FinE.go g1 h1) g1.wr r1
end
end DL

set_option Elab.async false
set_option linter.all false
set_option maxRecDepth 100000
/-! The data layer, second part: statements, loops, defs, calls. -/
namespace DL
open PySem PySem.Spec PyProof.Rows L2

section
variable {K : PySem.W.Frag} {θ : List Addr} {H : Hp} {σ : L2.St} {ρ : Rho}
theorem Den.set {d : D} {v : V} (h : Den K θ H σ ρ) (r : isD K θ H d v) (i : Nat) : Den K θ H (σ.set i (some v)) (ρ.set i (some d)) := by
  refine ⟨by rw [List.length_set, List.length_set]; exact h.len, fun j d' e => ?_⟩
  by_cases hj : j = i
  · subst hj
    have hl : j < ρ.length := by
      have := (List.getElem?_eq_some_iff.mp e).1
      rw [List.length_set] at this; exact this
    rw [List.getElem?_set_self hl] at e
    have e' : d = d' := by simpa using e
    subst e'
    exact ⟨v, List.getElem?_set_self (by rw [← h.len]; exact hl), r⟩
  · rw [List.getElem?_set_ne (Ne.symm hj)] at e
    obtain ⟨u, e1, r1⟩ := h.at_ j d' e
    exact ⟨u, by rw [List.getElem?_set_ne (Ne.symm hj)]; exact e1, r1⟩
end

/-! ### statements -/
def sNext : GS := fun ρ M => .ok (.nx ρ) M
def sBreak : GS := fun ρ M => .ok (.bk ρ) M
def sCont : GS := fun ρ M => .ok (.ct ρ) M
def sRetN : GS := fun _ M => .ok (.rt .non) M
def sSeq (a b : GS) : GS := fun ρ M => (a ρ M).bind fun f M1 => match f with
  | .nx ρ1 => b ρ1 M1
  | .rt d => .ok (.rt d) M1
  | .bk ρ1 => .ok (.bk ρ1) M1
  | .ct ρ1 => .ok (.ct ρ1) M1
def sSet (i : Nat) (g : GE) : GS := fun ρ M => (g ρ M).bind fun d M1 => .ok (.nx (ρ.set i (some d))) M1
def sRet (g : GE) : GS := fun ρ M => (g ρ M).bind fun d M1 => .ok (.rt d) M1
def sDrop (g : GE) : GS := fun ρ M => (g ρ M).bind fun _ M1 => .ok (.nx ρ) M1
def sIf (t : GT) (a b : GS) : GS := fun ρ M => (t ρ M).bind fun c M1 => if c then a ρ M1 else b ρ M1
section
variable {X : Cx} {st : Stmt} {rest : List Stmt} {e : Expr} {g : GE} {t u : GS} {pos : Pos}
theorem ds_nil : PSs X [] (tS X sNext) := pss_nil.of fun D σ H ⟨ρ, θ, M, hd, hw, f⟩ => f σ θ H (.refl hw) hd
theorem ds_cons (h1 : PS X st (tS X t)) (h2 : PSs X rest (tS X u)) : PSs X (st :: rest) (tS X (sSeq t u)) := (pss_cons h1 h2).of fun D σ H ⟨ρ, θ, M, hd, hw, h⟩ => by
  refine ⟨ρ, θ, M, hd, hw, ?_⟩
  unfold sSeq at h
  cases q : t ρ M with
  | ok f M1 =>
    rw [q] at h
    cases f with
    | nx ρ1 => exact fun σ1 θ1 H1 g1 d1 => ⟨ρ1, θ1, M1, d1, g1.wr, FinS.go g1 h⟩
    | rt d => exact h
    | bk ρ1 => exact h
    | ct ρ1 => exact h
  | err c M1 => rw [q] at h; exact h
  | bad => rw [q] at h; exact h
theorem ds_one (h1 : PS X st (tS X t)) : PSs X [st] (tS X t) := pss_one h1
theorem ds_set {i : Nat} {x : Str} {pos' : Pos} (hN : X.N.Nodup) (hi : X.N[i]? = some x) (hx : Loc X.env.scope x) (he : PE X e (tE X g)) (hs : swapsWith e (some (.Name x pos')) pos.line X.env = pure false := by rfl) (hf : X.fn x = true ∨ X.env.scope.names.lookup x = some .local := by first | exact .inl rfl | exact .inr rfl | assumption) :
    PS X (.Assign [.Name x pos'] e pos) (tS X (sSet i g)) := (ps_set hN hi hx he hs hf).of fun D σ H ⟨ρ, θ, M, hd, hw, h⟩ =>
  thenE hd hw (FinS X θ H D) (fun c M' h => h) (fun h => h) h fun d M1 v θ1 H1 g1 r1 h1 => h1 _ θ1 H1 g1 ((hd.go g1).set r1 i)
theorem ds_ret (he : PE X e (tE X g)) : PS X (.Return (some e) pos) (tS X (sRet g)) := (ps_ret he).of fun D σ H ⟨ρ, θ, M, hd, hw, h⟩ =>
  thenE hd hw (FinS X θ H D) (fun c M' h => h) (fun h => h) h fun d M1 v θ1 H1 g1 r1 h1 => h1 v θ1 H1 g1 r1
theorem ds_drop (he : PE X e (tE X g)) (hs : swapsWith e none pos.line X.env = pure false := by rfl) : PS X (.Expr e pos) (tS X (sDrop g)) := (ps_expr he hs).of fun D σ H ⟨ρ, θ, M, hd, hw, h⟩ =>
  thenE hd hw (FinS X θ H D) (fun c M' h => h) (fun h => h) h fun d M1 v θ1 H1 g1 r1 h1 => h1 σ θ1 H1 g1 (hd.go g1)
theorem ds_if {c : Expr} {a b : List Stmt} {tc : GT} (hc : PT X c (tT X tc)) (ha : PSs X a (tS X t)) (hb : PSs X b (tS X u)) : PS X (.If c a b pos) (tS X (sIf tc t u)) := (ps_if hc ha hb).of fun D σ H ⟨ρ, θ, M, hd, hw, h⟩ => by
  refine thenT hd hw (FinS X θ H D) (fun c M' h => h) (fun h => h) h fun c M1 θ1 H1 g1 h1 => ?_
  cases c with
  | true => rw [if_pos rfl]; exact ⟨ρ, θ1, M1, hd.go g1, g1.wr, FinS.go g1 h1⟩
  | false => rw [if_neg Bool.false_ne_true]; exact ⟨ρ, θ1, M1, hd.go g1, g1.wr, FinS.go g1 h1⟩

/-! ### targets -/
abbrev GG := D → Rho → Option Rho
def tG (X : Cx) (s : GG) : TG := fun v σ H Q => ∃ ρ θ M d, Den X.K θ H σ ρ ∧ Wr X.K θ H M ∧ isD X.K θ H d v ∧ ∃ ρ', s d ρ = some ρ' ∧ ∀ σ', Den X.K θ H σ' ρ' → Q σ' H
def oneN (i : Nat) : GG := fun d ρ => some (ρ.set i (some d))
def manyN : List Nat → List D → Rho → Option Rho
  | [], [], ρ => some ρ
  | i :: is, d :: ds, ρ => manyN is ds (ρ.set i (some d))
  | _, _, _ => none
def tupN (is : List Nat) : GG := fun d ρ => match d with
  | .tup ds => manyN is ds ρ
  | _ => none
theorem dg_name {i : Nat} {x : Str} (hN : X.N.Nodup) (hi : X.N[i]? = some x) (hx : Loc X.env.scope x) (hf : X.fn x = true ∨ X.env.scope.names.lookup x = some .local := by first | exact .inl rfl | exact .inr rfl | assumption) : PG X (.Name x pos) (tG X (oneN i)) := by
  intro pins s σ H v u Q I r h
  obtain ⟨ρ, θ, M, d, hd, hw, rd, ρ', e, h⟩ := h
  cases e
  exact pg_name hN hi hx hf pins s σ H v u Q I r (h _ (hd.set rd i))
def tGs (X : Cx) (is : List Nat) : TGs := fun vs σ H Q => ∃ ρ θ M ds, Den X.K θ H σ ρ ∧ Wr X.K θ H M ∧ isDs X.K θ H ds vs ∧ ∃ ρ', manyN is ds ρ = some ρ' ∧ ∀ σ', Den X.K θ H σ' ρ' → Q σ' H
/-! nested targets -/
def manyG : List GG → List D → Rho → Option Rho
  | [], [], ρ => some ρ
  | s :: ss, d :: ds, ρ => match s d ρ with
    | some ρ1 => manyG ss ds ρ1
    | none => none
  | _, _, _ => none
def tupG (ss : List GG) : GG := fun d ρ => match d with
  | .tup ds => manyG ss ds ρ
  | _ => none
def tGsG (X : Cx) (ss : List GG) : TGs := fun vs σ H Q => ∃ ρ θ M ds, Den X.K θ H σ ρ ∧ Wr X.K θ H M ∧ isDs X.K θ H ds vs ∧ ∃ ρ', manyG ss ds ρ = some ρ' ∧ ∀ σ', Den X.K θ H σ' ρ' → Q σ' H
/-- target = value -/
def sAsg (s : GG) (g : GE) : GS := fun ρ M => (g ρ M).bind fun d M1 => match s d ρ with
  | some ρ1 => .ok (.nx ρ1) M1
  | none => .bad
/-! ### xs[i] = v -/
def setD (o i x : D) (M : Mem) : Out Unit := match o, i with
  | .mr k, .int j => match M[k]? with
    | some (.lst xs) => match ixN xs.length j with
      | some n => .ok () (M.set k (.lst (xs.set n x)))
      | none => .bad
    | _ => .bad
  | _, _ => .bad
def sSub (go gi g : GE) : GS := fun ρ M => (g ρ M).bind fun x M1 => (go ρ M1).bind fun o M2 => (gi ρ M2).bind fun i M3 => (setD o i x M3).bind fun _ M4 => .ok (.nx ρ) M4
theorem ds_sub {o i : Expr} {ip : Pos} {go gi : GE} (he : PE X e (tE X g)) (ho : PE X o (tE X go)) (hi : PE X i (tE X gi))
    (ha : ∀ v, assign (.Subscript o i ip) X.env v = (do
      let ov ← holding [v] (eval o X.env)
      let iv ← holding [v, ov] (eval i X.env)
      standAt ip
      holding [v, ov, iv] (setItem ov iv v)
      release [v, ov, iv] []) := by intro _; rfl)
    (hs : swapsWithSole [.Subscript o i ip] e pos.line X.env = pure false := by rfl) (hw : swappedStores [.Subscript o i ip] e X.env = pure none := by rfl)
    (h1 : (assignEach [.Subscript o i ip] X.env).map (·.2) = [assign (.Subscript o i ip) X.env] := by rfl) : PS X (.Assign [.Subscript o i ip] e pos) (tS X (sSub go gi g)) :=
  (ps_asg he (pg_sub ho hi set_list ha) hs hw h1).of fun D σ H ⟨ρ, θ, M, hd, hwr, h⟩ => by
    refine thenE hd hwr (FinS X θ H D) (fun c M' h => h) (fun h => h) h fun dx M1 vx θ1 H1 g1 r1 h1 => ?_
    refine thenE (hd.go g1) g1.wr (FinS X θ1 H1 D) (fun c M' h => h) (fun h => h) (h1.go g1) fun dob M2 vo θ2 H2 g2 r2 h2 => ?_
    refine thenE ((hd.go g1).go g2) g2.wr (FinS X θ2 H2 D) (fun c M' h => h) (fun h => h) (h2.go g2) fun di M3 vi θ3 H3 g3 r3 h3 => ?_
    have h4 := h3.go g3
    unfold setD at h4
    split at h4
    · rename_i k j
      split at h4
      · rename_i xs q
        split at h4
        · rename_i n hn
          obtain ⟨a, ea, ta⟩ := r2.go g3
          obtain ⟨vs, ev, rv⟩ := g3.wr.at_ k a _ ta q
          have ei : vi = .int j := r3
          refine ⟨a, vs, j, n, ea, ei, ev, by rw [← isDs_length rv]; exact hn, ?_⟩
          have gs := go_set (ds := xs) g3.wr ta (isDs_set (r1.go (g2.trans g3)) n rv)
          exact h4 σ θ3 _ gs ((((hd.go g1).go g2).go g3).go gs)
        · exact h4.elim
      · exact h4.elim
    · exact h4.elim
end

/-! ### what is walked -/
mutual
def beqD : D → D → Bool
  | .non, .non => true
  | .bl a, .bl b => a == b
  | .int a, .int b => a == b
  | .str a, .str b => a == b
  | .tup a, .tup b => beqDs a b
  | .lst a, .lst b => beqDs a b
  | .ro a, .ro b => beqDs a b
  | .mr a, .mr b => a == b
  | .exc a, .exc b => a == b
  | .any, .any => true
  | _, _ => false
def beqDs : List D → List D → Bool
  | [], [] => true
  | a :: as, b :: bs => beqD a b && beqDs as bs
  | _, _ => false
end
mutual
theorem beqD_eq : ∀ (a b : D), beqD a b = true → a = b
  | .non, b, h => by cases b <;> simp_all [beqD]
  | .bl x, b, h => by cases b <;> simp_all [beqD]
  | .int x, b, h => by cases b <;> simp_all [beqD]
  | .str x, b, h => by cases b <;> simp_all [beqD]
  | .tup x, b, h => by
    cases b with
    | tup y => rw [beqDs_eq x y (by simpa [beqD] using h)]
    | _ => simp [beqD] at h
  | .lst x, b, h => by
    cases b with
    | lst y => rw [beqDs_eq x y (by simpa [beqD] using h)]
    | _ => simp [beqD] at h
  | .ro x, b, h => by
    cases b with
    | ro y => rw [beqDs_eq x y (by simpa [beqD] using h)]
    | _ => simp [beqD] at h
  | .mr x, b, h => by cases b <;> simp_all [beqD]
  | .exc x, b, h => by cases b <;> simp_all [beqD]
  | .any, b, h => by cases b <;> simp_all [beqD]
theorem beqDs_eq : ∀ (a b : List D), beqDs a b = true → a = b
  | [], b, h => by
    cases b with
    | nil => rfl
    | cons _ _ => simp [beqDs] at h
  | x :: xs, b, h => by
    cases b with
    | nil => simp [beqDs] at h
    | cons y ys =>
      simp only [beqDs, Bool.and_eq_true] at h
      rw [beqD_eq x y h.1, beqDs_eq xs ys h.2]
end
mutual
theorem beqD_refl : ∀ (a : D), beqD a a = true
  | .non => rfl
  | .bl x => by simp [beqD]
  | .int x => by simp [beqD]
  | .str x => by simp [beqD]
  | .tup x => by rw [beqD]; exact beqDs_refl x
  | .lst x => by rw [beqD]; exact beqDs_refl x
  | .ro x => by rw [beqD]; exact beqDs_refl x
  | .mr x => by simp [beqD]
  | .exc x => by simp [beqD]
  | .any => rfl
theorem beqDs_refl : ∀ (a : List D), beqDs a a = true
  | [] => rfl
  | x :: xs => by rw [beqDs, beqD_refl x, beqDs_refl xs]; rfl
end

structure Its where
  ds : List D
  m : Option Nat
def Its.ok (t : Its) (M : Mem) : Bool := match t.m with
  | none => true
  | some i => match M[i]? with
    | some (.lst xs) => beqDs xs t.ds
    | _ => false
abbrev GI := Rho → Mem → Out Its
def ItD (K : PySem.W.Frag) (J : It) (θ : List Addr) (H : Hp) (t : Its) : Prop := ∀ θ1 H1 M1, Go K θ H θ1 H1 M1 → t.ok M1 = true → ∀ i : Nat,
  (∀ d, t.ds[i]? = some d → J.go i H1 ∧ ∀ x H2, J.yld i H1 x H2 → Go K θ1 H1 θ1 H2 M1 ∧ isD K θ1 H2 d x) ∧ (t.ds.length ≤ i → J.stop i H1)
def FinI (X : Cx) (θ : List Addr) (H : Hp) (R : It → Hp → Prop) : Out Its → Prop
  | .ok t M' => ∀ J θ' H', Go X.K θ H θ' H' M' → ItD X.K J θ' H' t → R J H'
  | .err c M' => ErrOk X θ H c M'
  | .bad => False
def tI (X : Cx) (g : GI) : TI := fun σ H R => ∃ ρ θ M, Den X.K θ H σ ρ ∧ Wr X.K θ H M ∧ FinI X θ H R (g ρ M)
def itsOf (d : D) (M : Mem) : Out Its := match d with
  | .lst ds => .ok ⟨ds, none⟩ M
  | .ro ds => .ok ⟨ds, none⟩ M
  | .tup ds => .ok ⟨ds, none⟩ M
  | .mr k => match M[k]? with
    | some (.lst ds) => .ok ⟨ds, some k⟩ M
    | _ => .bad
  | _ => .bad
def gIts (g : GE) : GI := fun ρ M => (g ρ M).bind itsOf
section
variable {X : Cx} {tg : Expr}
theorem itd_lst {K : PySem.W.Frag} {θ : List Addr} {H : Hp} {a : Addr} {ds : List D} {vs : List V} (ta : RoAt K θ H a vs) (r : isDs K θ H ds vs) : ItD K (Itl K a) θ H ⟨ds, none⟩ := by
  intro θ1 H1 M1 g _ i
  have t1 := (ta.grow g.toGrow).sq
  have r1 := r.go g
  refine ⟨fun d e => ?_, fun hl => ⟨vs, t1, by rw [← isDs_length r1]; exact hl⟩⟩
  obtain ⟨v, e1, rv⟩ := isDs_get r1 e
  refine ⟨⟨vs, v, t1, e1⟩, fun x H2 y => ?_⟩
  obtain ⟨eH, y⟩ := y
  subst eH
  have e2 := y vs t1
  rw [e1] at e2; cases e2
  exact ⟨.refl g.wr, rv⟩
theorem itd_tup {K : PySem.W.Frag} {θ : List Addr} {H : Hp} {a : Addr} {ds : List D} {vs : List V} (ta : TupAt K θ H a vs) (r : isDs K θ H ds vs) : ItD K (Itt K a) θ H ⟨ds, none⟩ := by
  intro θ1 H1 M1 g _ i
  have t1 := (ta.grow g.toGrow).sq
  have r1 := r.go g
  refine ⟨fun d e => ?_, fun hl => ⟨vs, t1, by rw [← isDs_length r1]; exact hl⟩⟩
  obtain ⟨v, e1, rv⟩ := isDs_get r1 e
  refine ⟨⟨vs, v, t1, e1⟩, fun x H2 y => ?_⟩
  obtain ⟨eH, y⟩ := y
  subst eH
  have e2 := y vs t1
  rw [e1] at e2; cases e2
  exact ⟨.refl g.wr, rv⟩
theorem itd_mut {K : PySem.W.Frag} {θ : List Addr} {H : Hp} {a : Addr} {ds : List D} {k : Nat} (ta : θ[k]? = some a) : ItD K (Itl K a) θ H ⟨ds, some k⟩ := by
  intro θ1 H1 M1 g hok i
  have t1 : θ1[k]? = some a := by
    obtain ⟨m, em, _⟩ := g.ext
    rw [em, List.getElem?_append_left (List.getElem?_eq_some_iff.mp ta).1]
    exact ta
  have hok' : (match M1[k]? with | some (.lst xs) => beqDs xs ds | _ => false) = true := hok
  cases q : M1[k]? with
  | none => rw [q] at hok'; cases hok'
  | some m =>
    cases m with
    | lst xs =>
      rw [q] at hok'
      have e : xs = ds := beqDs_eq xs ds hok'
      subst e
      obtain ⟨vs, hv, r1⟩ := g.wr.at_ k a _ t1 q
      have s1 : SqL K H1 a vs := .inl (.inl hv)
      refine ⟨fun d e => ?_, fun hl => ⟨vs, s1, by rw [← isDs_length r1]; exact hl⟩⟩
      obtain ⟨v, e1, rv⟩ := isDs_get r1 e
      refine ⟨⟨vs, v, s1, e1⟩, fun x H2 y => ?_⟩
      obtain ⟨eH, y⟩ := y
      subst eH
      have e2 := y vs s1
      rw [e1] at e2; cases e2
      exact ⟨.refl g.wr, rv⟩
    | _ => rw [q] at hok'; cases hok'
/-- range -/
def rangeD (lo : Int) (n : Nat) : List D := (List.range n).map fun (k : Nat) => D.int (lo + (k : Int))
theorem itd_rng {K : PySem.W.Frag} {θ : List Addr} {H : Hp} (lo : Int) (n : Nat) : ItD K (Itr lo n) θ H ⟨rangeD lo n, none⟩ := by
  intro θ1 H1 M1 g _ i
  refine ⟨fun d e => ?_, fun hl => ?_⟩
  · have hi : i < n := by
      have := (List.getElem?_eq_some_iff.mp e).1
      simpa [rangeD] using this
    refine ⟨hi, fun x H2 y => ?_⟩
    obtain ⟨eH, y⟩ := y
    subst eH
    refine ⟨.refl g.wr, ?_⟩
    have e' : D.int (lo + (i : Int)) = d := by
      have : (rangeD lo n)[i]? = some (D.int (lo + (i : Int))) := by simp [rangeD, hi]
      rw [this] at e; exact Option.some.inj e
    subst e'
    exact y
  · have h2 : (rangeD lo n).length ≤ i := hl
    have h3 : n ≤ i := by simpa [rangeD] using h2
    exact h3
def rng1 (ds : List D) (M : Mem) : Out Its := match ds with
  | [.int j] => if -(2 ^ 62) ≤ j ∧ j < 2 ^ 62 then .ok ⟨rangeD 0 j.toNat, none⟩ M else .bad
  | _ => .bad
def rng2 (ds : List D) (M : Mem) : Out Its := match ds with
  | [.int i, .int j] => if -(2 ^ 62) ≤ i ∧ i < 2 ^ 62 ∧ -(2 ^ 62) ≤ j ∧ j < 2 ^ 62 then .ok ⟨rangeD i (j - i).toNat, none⟩ M else .bad
  | _ => .bad
def gRng1 (g : GA) : GI := fun ρ M => (g ρ M).bind rng1
def gRng2 (g : GA) : GI := fun ρ M => (g ρ M).bind rng2
theorem di_range1 {a : Expr} {g : GA} {p pos : Pos} (hg : Gl X "range") (hm : X.mg "range" = none) (ha : PA X [a] (tA X g)) (hs : starEach [a] X.env = [(false, eval a X.env)] := by rfl) : PI X tg (.Call (.Name "range" p) [a] [] pos) (tI X (gRng1 g)) := by
  intro pins s σ H R I h
  refine pi_range1 hg hm ha hs pins s σ H R I ?_
  obtain ⟨ρ, θ, M, hd, hw, h⟩ := h
  refine thenA hd hw (FinI X θ H R) (fun c M' h => h) (fun h => h) h fun ds M1 vs θ1 H1 g1 r1 h1 => ?_
  unfold rng1 at h1
  split at h1
  · rename_i j
    obtain ⟨v, r, e, rv, rr⟩ := r1
    have e2 : r = [] := rr
    have e3 : v = .int j := rv
    subst e2; subst e3
    split at h1
    · rename_i hj
      exact ⟨j, e, hj.1, hj.2, h1 _ θ1 H1 g1 (itd_rng 0 j.toNat)⟩
    · exact h1.elim
  · exact h1.elim
/-! ### for -/
def forGo (t : Its) (s : GG) (body : GS) : List D → Rho → Mem → Out Fl
  | [], ρ, M => if t.ok M then .ok (.nx ρ) M else .bad
  | d :: r, ρ, M => if t.ok M then
      match s d ρ with
      | none => .bad
      | some ρ1 => (body ρ1 M).bind fun f M1 => match f with
        | .nx ρ2 => forGo t s body r ρ2 M1
        | .ct ρ2 => forGo t s body r ρ2 M1
        | .bk ρ2 => .ok (.nx ρ2) M1
        | .rt d => .ok (.rt d) M1
    else .bad
def sFor (gi : GI) (s : GG) (body : GS) : GS := fun ρ M => (gi ρ M).bind fun t M1 => forGo t s body t.ds ρ M1
theorem ds_for {iter : Expr} {body : List Stmt} {gi : GI} {sg : GG} {gb : GS} {pos : Pos} (hp : PassesOwn (model X.prog X.w) X.A X.env X.xe) (hc : X.calm = true) (hi : PI X tg iter (tI X gi)) (hg : PG X tg (tG X sg)) (hb : PSs X body (tS X gb))
    (hs : ∀ x, foldedSetIterable iter X.env x = pure x := by intro _; rfl) : PS X (.For tg iter body [] pos) (tS X (sFor gi sg gb)) := (ps_for hp hc hi hg hb hs).of fun D σ H ⟨ρ, θ, M, hd, hw, h⟩ => by
  refine ⟨ρ, θ, M, hd, hw, ?_⟩
  unfold sFor at h
  cases q : gi ρ M with
  | err c M1 => rw [q] at h; exact h
  | bad => rw [q] at h; exact h
  | ok t M1 =>
    rw [q] at h
    intro J θ1 H1 g1 hJ
    have h : FinS X θ H D (forGo t sg gb t.ds ρ M1) := h
    refine ⟨fun i m σ' H' => m = t.ds.length - i ∧ i ≤ t.ds.length ∧ ∃ ρ' θ' M', Go X.K θ1 H1 θ' H' M' ∧ Den X.K θ' H' σ' ρ' ∧ FinS X θ' H' D (forGo t sg gb (t.ds.drop i) ρ' M'),
      ⟨t.ds.length, by simp, Nat.zero_le _, ρ, θ1, M1, .refl g1.wr, hd.go g1, FinS.go g1 h⟩, ?_⟩
    rintro i m σ' H' ⟨rfl, hil, ρ', θ', M', g', hd', h'⟩
    by_cases hok : t.ok M' = true
    · obtain ⟨hy, hst⟩ := hJ θ' H' M' g' hok i
      by_cases hlt : i < t.ds.length
      · refine .inr ?_
        have e1 : t.ds[i]? = some t.ds[i] := List.getElem?_eq_getElem hlt
        obtain ⟨hgo, hyl⟩ := hy _ e1
        rw [List.drop_eq_getElem_cons hlt, forGo, if_pos hok] at h'
        refine ⟨hgo, fun σ2 H2 => ∃ ρ2 θ2 M2, Go X.K θ' H' θ2 H2 M2 ∧ Den X.K θ2 H2 σ2 ρ2 ∧ FinS X θ2 H2 D (forGo t sg gb (t.ds.drop (i + 1)) ρ2 M2), fun σ2 H2 ⟨ρ2, θ2, M2, g2, d2, h2⟩ => ?_, fun x H2 y => ?_⟩
        · exact ⟨t.ds.length - (i + 1), by omega, rfl, hlt, ρ2, θ2, M2, g'.trans g2, d2, h2⟩
        · obtain ⟨gy, rx⟩ := hyl x H2 y
          cases qs : sg t.ds[i] ρ' with
          | none => rw [qs] at h'; exact h'.elim
          | some ρ1 =>
            rw [qs] at h'
            refine ⟨ρ', θ', M', _, hd'.go gy, gy.wr, rx, ρ1, qs, fun σ1 d1 => ⟨ρ1, θ', M', d1, gy.wr, ?_⟩⟩
            have h' : FinS X θ' H2 D ((gb ρ1 M').bind _) := FinS.go gy h'
            cases qb : gb ρ1 M' with
            | err c M2 => rw [qb] at h'; exact h'
            | bad => rw [qb] at h'; exact h'
            | ok f M2 =>
              rw [qb] at h'
              cases f with
              | nx ρ2 => exact fun σ2 θ2 H3 g2 d2 => ⟨ρ2, θ2, M2, gy.trans g2, d2, FinS.go g2 h'⟩
              | ct ρ2 => exact fun σ2 θ2 H3 g2 d2 => ⟨ρ2, θ2, M2, gy.trans g2, d2, FinS.go g2 h'⟩
              | bk ρ2 => exact h'
              | rt d => exact h'
      · have e : i = t.ds.length := by omega
        subst e
        rw [List.drop_length, forGo, if_pos hok] at h'
        exact .inl ⟨hst (Nat.le_refl _), h' σ' θ' H' (.refl g'.wr) hd'⟩
    · have hz : FinS X θ' H' D .bad := by
        cases hdr : t.ds.drop i with
        | nil => rw [hdr, forGo, if_neg hok] at h'; exact h'
        | cons d r => rw [hdr, forGo, if_neg hok] at h'; exact h'
      exact hz.elim
end

/-! ### defs and calls -/
def ErrC (K : PySem.W.Frag) (θ : List Addr) (H : Hp) (E : XK) (c : Str) (M : Mem) : Prop := ∀ C θ' H' a, ClsAt K c C → Go K θ H θ' H' M → E (.ref C) (some a) H'
def FinC (K : PySem.W.Frag) (θ : List Addr) (H : Hp) (Q : VK) (E : XK) : Out D → Prop
  | .ok d M' => ∀ v θ' H', Go K θ H θ' H' M' → isD K θ' H' d v → Q v H'
  | .err c M' => ErrC K θ H E c M'
  | .bad => False
abbrev FD := List D → Mem → Out D
def spD (K : PySem.W.Frag) (n : Nat) (F : FD) : Sp := fun vs H Q E => ∃ θ M ds, ds.length = n ∧ isDs K θ H ds vs ∧ Wr K θ H M ∧ FinC K θ H Q E (F ds M)
theorem spD_len {K : PySem.W.Frag} {n : Nat} {F : FD} {ps : List Str} (hn : ps.length = n) : ∀ vs H Q E, spD K n F vs H Q E → vs.length = ps.length := fun vs H Q E ⟨θ, M, ds, hl, r, _⟩ => by rw [hn, ← hl, isDs_length r]
/-- a def's run: its parameters first, k more names -/
def rho0 (k : Nat) (ds : List D) : Rho := ds.map some ++ List.replicate k none
def retOf (o : Out Fl) : Out D := o.bind fun f M => match f with
  | .rt d => .ok d M
  | .nx _ => .ok .non M
  | _ => .bad
def runD (k : Nat) (g : GS) : FD := fun ds M => retOf (g (rho0 k ds) M)
theorem den0 {K : PySem.W.Frag} {θ : List Addr} {H : Hp} {ds : List D} {vs : List V} (r : isDs K θ H ds vs) (N : List Str) : Den K θ H (L2.start N vs) (rho0 (N.length - vs.length) ds) := by
  have hl := isDs_length r
  refine ⟨by simp [L2.start, rho0, hl], fun i d e => ?_⟩
  unfold rho0 at e
  by_cases hi : i < ds.length
  · rw [List.getElem?_append_left (by simpa using hi), List.getElem?_map] at e
    cases q : ds[i]? with
    | none => rw [q] at e; cases e
    | some d' =>
      rw [q] at e
      have e' : d' = d := by simpa using e
      subst e'
      obtain ⟨v, e1, rv⟩ := isDs_get r q
      refine ⟨v, ?_, rv⟩
      unfold L2.start
      rw [List.getElem?_append_left (by rw [List.length_map, ← hl]; exact hi), List.getElem?_map, e1]
      rfl
  · rw [List.getElem?_append_right (by simpa using hi), List.getElem?_replicate] at e
    split at e <;> cases e
section
variable {P : Program} {w : World} {K : PySem.W.Frag} {mg : Str → Option Value} {base : Heap}
/-- THE RULE for a def: its body's reading is a function of its data -/
theorem fn_d {x qual : Str} {st : Stmt} {f : Addr} {fd : FuncData} {N ps : List Str} {k n : Nat} {g : GS} (F : Fun K x qual st f fd) (S : FnScope N ps (defScope st)) (hn : ps.length = n)
    (hbody : ∀ (cdv : Value) (A : Around) (outer : List Env) (s : Shared) (H : Hp) (E : XK), Room k (A.deeper (envOfC qual (defScope st) s.heap.objs.size f cdv)) →
      PSs (cxOf (CXd P w) P w K mg base N qual (defScope st) f cdv A outer s H E) (defBody st) (tS (cxOf (CXd P w) P w K mg base N qual (defScope st) f cdv A outer s H E) g)) :
    FnOk P w K mg base (CXd P w) (k + 1) f fd ps (spD K n (runD (N.length - n) g)) := by
  obtain ⟨oc, od, kV, doc, pm, an, cdv, ct, osl, rfl, lk, hcd⟩ := F.ex
  refine fn_of lk hcd S (spD_len hn) fun A outer s H vs Q E hr h => ⟨_, hbody cdv A outer s H E hr, ?_⟩
  obtain ⟨θ, M, ds, hl, r, hw, h⟩ := h
  have hv : vs.length = n := by rw [← isDs_length r]; exact hl
  refine ⟨rho0 (N.length - n) ds, θ, M, by rw [← hv]; exact den0 r N, hw, ?_⟩
  have h : FinC K θ H Q E (retOf (g (rho0 (N.length - n) ds) M)) := h
  unfold retOf at h
  cases q : g (rho0 (N.length - n) ds) M with
  | bad => rw [q] at h; exact h
  | err c M1 =>
    rw [q] at h
    have h : ErrC K θ H E c M1 := h
    exact fun C θ' H' a s' kC g1 fl => fly_leaves fl (h C θ' H' a kC g1)
  | ok fl M1 =>
    rw [q] at h
    cases fl with
    | rt d => exact h
    | nx ρ1 => exact fun σ1 θ1 H1 g1 _ => h .non θ1 H1 g1 rfl
    | bk ρ1 => exact h.elim
    | ct ρ1 => exact h.elim
end
section
variable {X : Cx} {e : Expr} {es : List Expr} {x : Str} {p pos : Pos} {k n : Nat} {f : Addr} {fd : FuncData} {ps : List Str} {F : FD} {ga : GA}
def gCall (n : Nat) (F : FD) (ga : GA) : GE := fun ρ M => (ga ρ M).bind fun ds M1 => if ds.length = n then F ds M1 else .bad
/-- what a callee's refusal must meet here -/
def errE (X : Cx) : XK := fun cls oa H' => ∃ a C c θ M, oa = some a ∧ cls = .ref C ∧ ClsAt X.K c C ∧ Wr X.K θ H' M ∧ ErrOk X θ H' c M
theorem errE_passes : Passes (CXd X.prog X.w) X (errE X) := fun pins σ H s e s' I h => by
  obtain ⟨a, C, H', rfl, fl, a', C', c, θ, M, e1, e2, kC, hw, ok⟩ := fly_comes I h
  cases e1; cases e2
  exact ok C θ H' a s' kC (.refl hw) fl
theorem errE_of {θ : List Addr} {H : Hp} {c : Str} {M : Mem} (h : ErrOk X θ H c M) : ErrC X.K θ H (errE X) c M := fun C θ' H' a kC g => ⟨a, C, c, θ', M, rfl, rfl, kC, g.wr, h.go g⟩
theorem de_call (Fn : FnOk X.prog X.w X.K X.mg X.base (CXd X.prog X.w) k f fd ps (spD X.K n F)) (hr : Room k X.A) (hg : Gl X x) (hm : X.mg x = some (.ref f)) (hk : PySem.W.keepIn X.K (.ref f) = true) (hb : Binds X.K fd ps [])
    (ha : PA X (e :: es) (tA X ga)) (hdb : (x == ("__debug__" : Str)) = false := by decide) (he : starEach (e :: es) X.env = (false, eval e X.env) :: starEach es X.env := by rfl) (hpl : (backTo pos (starEach es X.env)).any (·.1) = false := by rfl) :
    PE X (.Call (.Name x p) (e :: es) [] pos) (tE X (gCall n F ga)) := (pe_call Fn hr hg hm hk hb .nil errE_passes ha hdb he hpl).of fun σ H Q ⟨ρ, θ, M, hd, hw, h⟩ => by
  refine thenA hd hw (FinE X θ H Q) (fun c M' h => h) (fun h => h) h fun ds M1 vs θ1 H1 g1 r1 h1 => ?_
  by_cases hl : ds.length = n
  · rw [if_pos hl] at h1
    refine ⟨θ1, M1, ds, hl, by rw [List.append_nil]; exact r1, g1.wr, ?_⟩
    have h2 := FinE.go g1 h1
    cases q : F ds M1 with
    | ok d M2 => rw [q] at h2; exact h2
    | err c M2 => rw [q] at h2; exact errE_of h2
    | bad => rw [q] at h2; exact h2
  · rw [if_neg hl] at h1; exact h1.elim
/-- built-in functions and types -/
def rC (X : Cx) (F : FD) : List V → Hp → VK → Prop := fun xs H Q => ∃ θ M ds, Wr X.K θ H M ∧ isDs X.K θ H ds xs ∧ FinE X θ H Q (F ds M)
def gBlt (F : FD) (ga : GA) : GE := fun ρ M => (ga ρ M).bind F
theorem tcb_of {σ : L2.St} {H : Hp} {Q : VK} (h : tE X (gBlt F ga) σ H Q) : tCB (rC X F) (tA X ga) σ H Q := by
  obtain ⟨ρ, θ, M, hd, hw, h⟩ := h
  exact thenA hd hw (FinE X θ H Q) (fun c M' h => h) (fun h => h) h fun ds M1 vs θ1 H1 g1 r1 h1 => ⟨θ1, M1, ds, g1.wr, r1, FinE.go g1 h1⟩
theorem de_callB {id : String} (hc : CallR X (.builtin id) (rC X F)) (hg : Gl X x) (hm : X.mg x = none) (hv : bootBuiltins x = some (.builtin id)) (ha : PA X (e :: es) (tA X ga)) (hn : x ≠ "__name__" := by decide) (hdb : (x == ("__debug__" : Str)) = false := by decide)
    (he : starEach (e :: es) X.env = (false, eval e X.env) :: starEach es X.env := by rfl) (hpl : (backTo pos (starEach es X.env)).any (·.1) = false := by rfl) : PE X (.Call (.Name x p) (e :: es) [] pos) (tE X (gBlt F ga)) :=
  (pe_callB hc hg hm hv ha hn hdb he hpl).of fun σ H Q h => tcb_of h
theorem de_callTy {T : String} (hc : CallR X (.type T) (rC X F)) (hg : Gl X x) (hm : X.mg x = none) (hv : bootBuiltins x = some (.type T)) (ha : PA X (e :: es) (tA X ga)) (hn : x ≠ "__name__" := by decide) (hdb : (x == ("__debug__" : Str)) = false := by decide)
    (he : starEach (e :: es) X.env = (false, eval e X.env) :: starEach es X.env := by rfl) (hpl : (backTo pos (starEach es X.env)).any (·.1) = false := by rfl) : PE X (.Call (.Name x p) (e :: es) [] pos) (tE X (gBlt F ga)) :=
  (pe_callTy hc hg hm hv ha hn hdb he hpl).of fun σ H Q h => tcb_of h
end
end DL

set_option Elab.async false
set_option linter.all false
set_option maxRecDepth 100000
/-! The data layer, third part: the operations. -/
namespace DL
open PySem PySem.Spec PyProof.Rows L2

section
variable {prog : Program} {w : World} {A : Around} {E : Value → Shared → Prop} {s : Shared}
/-- () + u -/
theorem cat_tup0 {t b : Addr} {ws : List Value} {Q : Value → Shared → Prop} (ht : IsTup s.heap t #[]) (hb : IsTup s.heap b ws.toArray)
    (h : Q (.ref b) s) : wpAny (model prog w) A (binaryOp .Add (.ref t) (.ref b)) Q E s := by
  obtain ⟨⟨cls, dd, data, sl⟩, ho, hc, n, hd⟩ := id ht
  obtain ⟨⟨cls2, dd2, data2, sl2⟩, ho2, hc2, n2, hd2⟩ := id hb
  simp only at hc hd hc2 hd2
  subst hc hd hc2 hd2
  exact concat_meets ⟨_, ho, rfl⟩ ⟨_, ho2, rfl⟩ noFill_tuple_add seq_tuple_add PySem.F.slot_tuple_add PySem.F.entry_tuple_add (PySem.F.args_tuple_add_2 _ _)
      (tuple_addW0 t b #[] ws.toArray n n2 dd dd2 sl sl2 (by simp)) ⟨ho, ho2, h⟩
end

/-! ### sums -/
/-- a list of the run's own: what stands in it -/
def mlOf (d : D) (M : Mem) : Option (List D) := match d with
  | .lst xs => some xs
  | .mr k => match M[k]? with
    | some (.lst xs) => some xs
    | _ => none
  | _ => none
def addD : F2 := fun x y M => match x, y with
  | .int i, .int j => .ok (.int (i + j)) M
  | .str a, .str b => if a.length + b.length ≤ sizeLine then .ok (.str (a ++ b)) M else .bad
  | .tup a, .tup b => if a.length + b.length ≤ sizeLine then .ok (.tup (a ++ b)) M else .bad
  | .bl a, .int j => .ok (.int ((if a = true then 1 else 0) + j)) M
  | x, y => match mlOf x M, mlOf y M with
    | some a, some b => if a.length + b.length ≤ sizeLine then .ok (.lst (a ++ b)) M else .bad
    | _, _ => .bad
/-- the same; a list that comes of it may change -/
def addM : F2 := fun x y M => match mlOf x M, mlOf y M with
  | some a, some b => if a.length + b.length ≤ sizeLine then .ok (.mr M.length) (M ++ [.lst (a ++ b)]) else .bad
  | _, _ => .bad
theorem ml_of {K : PySem.W.Frag} {θ : List Addr} {H : Hp} {M : Mem} {d : D} {xs : List D} {v : V} (hw : Wr K θ H M) (r : isD K θ H d v) (e : mlOf d M = some xs) : ∃ a vs, v = .ref a ∧ H a = some (.lst vs) ∧ isDs K θ H xs vs := by
  cases d with
  | lst ys => cases e; obtain ⟨a, vs, ea, ta, ra⟩ := r; exact ⟨a, vs, ea, ta.1, ra⟩
  | mr k =>
    obtain ⟨a, ea, ta⟩ := r
    have e : (match M[k]? with | some (.lst xs) => some xs | _ => none) = some xs := e
    cases q : M[k]? with
    | none => rw [q] at e; cases e
    | some m =>
      cases m with
      | lst ys =>
        rw [q] at e
        cases e
        obtain ⟨vs, hv, ra⟩ := hw.at_ k a _ ta q
        exact ⟨a, vs, ea, hv, ra⟩
      | _ => rw [q] at e; cases e
  | _ => cases e
def subD : F2 := fun x y M => match x, y with
  | .int i, .int j => .ok (.int (i - j)) M
  | _, _ => .bad
def mulD : F2 := fun x y M => match x, y with
  | .int i, .int j => if (-(2 ^ 64) < i ∧ i < 2 ^ 64) ∨ (-(2 ^ 64) < j ∧ j < 2 ^ 64) then .ok (.int (i * j)) M else .bad
  | _, _ => .bad
def fdivD : F2 := fun x y M => match x, y with
  | .int i, .int j => if 0 < j ∧ j.natAbs.log2 < 9000 then .ok (.int (i / j)) M else .bad
  | _, _ => .bad
def modD : F2 := fun x y M => match x, y with
  | .int i, .int j => if 0 < j then .ok (.int (i % j)) M else .bad
  | _, _ => .bad
def powD : F2 := fun x y M => match x, y with
  | .int i, .int j => if 0 ≤ j ∧ j ≤ 1000000 ∧ i.natAbs < 2 ^ 64 then .ok (.int (i ^ j.toNat)) M else .bad
  | _, _ => .bad
section
variable {X : Cx}
theorem od_add : OpR X (binaryOp .Add) (rD X addD) := by
  intro pins s σ H x y v u Q I rx ry h
  obtain ⟨θ, M, dx, dy, hw, r1, r2, h⟩ := h
  unfold addD at h
  split at h
  · rename_i i j
    exact op_add pins s σ H x y v u Q I rx ry ⟨i, j, r1, r2, h _ θ H (.refl hw) rfl⟩
  · rename_i a b
    split at h
    · rename_i hl
      exact op_add_str pins s σ H x y v u Q I rx ry ⟨a, b, r1, r2, hl, h _ θ H (.refl hw) rfl⟩
    · exact h.elim
  · rename_i as bs
    split at h
    · rename_i hl
      obtain ⟨a, vs, ea, ta, ra⟩ := r1
      obtain ⟨b, us, eb, tb, rb⟩ := r2
      by_cases hv : vs = []
      · subst hv
        have e0 : as = [] := List.length_eq_zero_iff.mp (isDs_length ra)
        subst e0
        subst ea; subst eb
        cases rx; cases ry
        obtain ⟨its, q1, p1, _⟩ := I.tuple ta.sq
        obtain ⟨its2, q2, p2, _⟩ := I.tuple tb.sq
        cases q1
        exact cat_tup0 p1 p2 ⟨.ref b, H, I, rfl, h _ θ H (.refl hw) ⟨b, us, rfl, tb, rb⟩⟩
      · refine op_catT pins s σ H x y v u Q I rx ry ⟨a, b, vs, us, ea, eb, ta.sq, tb.sq, hv, by rw [← isDs_length ra, ← isDs_length rb]; exact hl, fun hu => ?_, fun _ p hp => h _ θ _ (go_new hw hp) (new_tup hw hp (isDs_append ra rb))⟩
        subst hu
        have e0 : bs = [] := List.length_eq_zero_iff.mp (isDs_length rb)
        subst e0
        exact h _ θ H (.refl hw) ⟨a, vs, rfl, ta, by rw [List.append_nil]; exact ra⟩
    · exact h.elim
  · rename_i a j
    have e1 : x = .bl a := r1
    have e2 : y = .int j := r2
    subst e1; subst e2
    cases rx
    obtain ⟨t', rfl⟩ := ry
    exact IntBool.add_bool_int ⟨.int _, H, I.tok _, ⟨_, rfl⟩, h _ θ H (.refl hw) rfl⟩
  · split at h
    · rename_i as bs q1 q2
      split at h
      · rename_i hl
        obtain ⟨a, vs, ea, ta, ra⟩ := ml_of hw r1 q1
        obtain ⟨b, us, eb, tb, rb⟩ := ml_of hw r2 q2
        exact op_cat pins s σ H x y v u Q I rx ry ⟨a, b, vs, us, ea, eb, ta, tb, by rw [← isDs_length ra, ← isDs_length rb]; exact hl, fun p hp => h _ θ _ (go_new hw hp) (new_lst hw hp (isDs_append ra rb))⟩
      · exact h.elim
    · exact h.elim
theorem mut_last {K : PySem.W.Frag} {θ : List Addr} {H H' : Hp} {M : Mem} {p : Addr} (hw : Wr K θ H M) : isD K (θ ++ [p]) H' (.mr M.length) (.ref p) := by
  refine ⟨p, rfl, ?_⟩
  rw [← hw.len, List.getElem?_append_right (Nat.le_refl _)]
  simp
theorem od_addM : OpR X (binaryOp .Add) (rD X addM) := by
  intro pins s σ H x y v u Q I rx ry h
  obtain ⟨θ, M, dx, dy, hw, r1, r2, h⟩ := h
  unfold addM at h
  split at h
  · rename_i as bs q1 q2
    split at h
    · rename_i hl
      obtain ⟨a, vs, ea, ta, ra⟩ := ml_of hw r1 q1
      obtain ⟨b, us, eb, tb, rb⟩ := ml_of hw r2 q2
      exact op_cat pins s σ H x y v u Q I rx ry ⟨a, b, vs, us, ea, eb, ta, tb, by rw [← isDs_length ra, ← isDs_length rb]; exact hl, fun p hp => h _ _ _ (go_mut hw hp (isDs_append ra rb)) (mut_last hw)⟩
    · exact h.elim
  · exact h.elim
theorem od_sub : OpR X (binaryOp .Sub) (rD X subD) := by
  intro pins s σ H x y v u Q I rx ry h
  obtain ⟨θ, M, dx, dy, hw, r1, r2, h⟩ := h
  unfold subD at h
  split at h
  · rename_i i j
    exact op_sub pins s σ H x y v u Q I rx ry ⟨i, j, r1, r2, h _ θ H (.refl hw) rfl⟩
  · exact h.elim
theorem od_mul : OpR X (binaryOp .Mult) (rD X mulD) := by
  intro pins s σ H x y v u Q I rx ry h
  obtain ⟨θ, M, dx, dy, hw, r1, r2, h⟩ := h
  unfold mulD at h
  split at h
  · rename_i i j
    split at h
    · rename_i hc
      exact op_mul pins s σ H x y v u Q I rx ry ⟨i, j, r1, r2, hc, h _ θ H (.refl hw) rfl⟩
    · exact h.elim
  · exact h.elim
theorem od_fdiv : OpR X (binaryOp .FloorDiv) (rD X fdivD) := by
  intro pins s σ H x y v u Q I rx ry h
  obtain ⟨θ, M, dx, dy, hw, r1, r2, h⟩ := h
  unfold fdivD at h
  split at h
  · rename_i i j
    split at h
    · rename_i hc
      have e1 : x = .int i := r1
      have e2 : y = .int j := r2
      subst e1; subst e2
      obtain ⟨t, rfl⟩ := rx
      obtain ⟨t', rfl⟩ := ry
      have h1 : (0 : Int) < j := hc.1
      exact floordiv_int (by omega) (by rw [Int.fdiv_eq_ediv_of_nonneg i (by omega)]; exact ⟨.int (i / j), H, I.tok _, ⟨_, rfl⟩, h _ θ H (.refl hw) rfl⟩) (.inl (PyProof.noPylong_of_log2 hc.2))
    · exact h.elim
  · exact h.elim
theorem od_mod : OpR X (binaryOp .Mod) (rD X modD) := by
  intro pins s σ H x y v u Q I rx ry h
  obtain ⟨θ, M, dx, dy, hw, r1, r2, h⟩ := h
  unfold modD at h
  split at h
  · rename_i i j
    split at h
    · rename_i hc
      exact op_mod pins s σ H x y v u Q I rx ry ⟨i, j, r1, r2, hc, h _ θ H (.refl hw) rfl⟩
    · exact h.elim
  · exact h.elim
theorem od_pow : OpR X (binaryOp .Pow) (rD X powD) := by
  intro pins s σ H x y v u Q I rx ry h
  obtain ⟨θ, M, dx, dy, hw, r1, r2, h⟩ := h
  unfold powD at h
  split at h
  · rename_i i j
    split at h
    · rename_i hc
      exact op_pow pins s σ H x y v u Q I rx ry ⟨i, j, r1, r2, hc, h _ θ H (.refl hw) rfl⟩
    · exact h.elim
  · exact h.elim
/-- -x -/
def gNeg (g : GE) : GE := fun ρ M => (g ρ M).bind fun x M1 => match x with
  | .int i => .ok (.int (-i)) M1
  | _ => .bad
theorem de_neg {a : Expr} {pos : Pos} {g : GE} (ha : PE X a (tE X g)) : PE X (.UnaryOp .USub a pos) (tE X (gNeg g)) := (pe_un un_neg ha).of fun σ H Q ⟨ρ, θ, M, hd, hw, h⟩ => by
  refine thenE hd hw (FinE X θ H Q) (fun c M' h => h) (fun h => h) h fun d M1 v θ1 H1 g1 r1 h1 => ?_
  split at h1
  · rename_i i
    exact ⟨i, r1, h1 _ θ1 H1 g1 rfl⟩
  · exact h1.elim
/-! ### order -/
def ltD : F2 := fun x y M => match x, y with
  | .int i, .int j => .ok (.bl (decide (i < j))) M
  | _, _ => .bad
def leD : F2 := fun x y M => match x, y with
  | .int i, .int j => .ok (.bl (decide (i ≤ j))) M
  | _, _ => .bad
def gtD : F2 := fun x y M => match x, y with
  | .int i, .int j => .ok (.bl (decide (j < i))) M
  | _, _ => .bad
def geD : F2 := fun x y M => match x, y with
  | .int i, .int j => .ok (.bl (decide (j ≤ i))) M
  | _, _ => .bad
theorem od_lt : OpR X (compareOp .Lt) (rD X ltD) := by
  intro pins s σ H x y v u Q I rx ry h
  obtain ⟨θ, M, dx, dy, hw, r1, r2, h⟩ := h
  unfold ltD at h
  split at h
  · rename_i i j
    exact op_lt pins s σ H x y v u Q I rx ry ⟨i, j, r1, r2, h _ θ H (.refl hw) rfl⟩
  · exact h.elim
theorem od_le : OpR X (compareOp .LtE) (rD X leD) := by
  intro pins s σ H x y v u Q I rx ry h
  obtain ⟨θ, M, dx, dy, hw, r1, r2, h⟩ := h
  unfold leD at h
  split at h
  · rename_i i j
    exact op_le pins s σ H x y v u Q I rx ry ⟨i, j, r1, r2, h _ θ H (.refl hw) rfl⟩
  · exact h.elim
theorem od_gt : OpR X (compareOp .Gt) (rD X gtD) := by
  intro pins s σ H x y v u Q I rx ry h
  obtain ⟨θ, M, dx, dy, hw, r1, r2, h⟩ := h
  unfold gtD at h
  split at h
  · rename_i i j
    exact op_gt pins s σ H x y v u Q I rx ry ⟨i, j, r1, r2, h _ θ H (.refl hw) rfl⟩
  · exact h.elim
theorem od_ge : OpR X (compareOp .GtE) (rD X geD) := by
  intro pins s σ H x y v u Q I rx ry h
  obtain ⟨θ, M, dx, dy, hw, r1, r2, h⟩ := h
  unfold geD at h
  split at h
  · rename_i i j
    exact op_ge pins s σ H x y v u Q I rx ry ⟨i, j, r1, r2, h _ θ H (.refl hw) rfl⟩
  · exact h.elim
/-- is None, is True, is False -/
def isP (d c : D) : Option Bool := match c, d with
  | .non, .non => some true
  | .non, .any => none
  | .non, _ => some false
  | .bl b, .bl b' => some (b' == b)
  | .bl _, .non => some false
  | .bl _, .int _ => some false
  | .bl _, .str _ => some false
  | .bl _, .tup _ => some false
  | .bl _, .lst _ => some false
  | .bl _, .ro _ => some false
  | .bl _, .mr _ => some false
  | _, _ => none
def isOp (neg : Bool) : F2 := fun x y M => match isP x y with
  | some b => .ok (.bl (b != neg)) M
  | none => .bad
theorem isP_ok {K : PySem.W.Frag} {θ : List Addr} {H : Hp} {dx dy : D} {x y : V} {v u : Value} {b : Bool} (r1 : isD K θ H dx x) (r2 : isD K θ H dy y) (rx : RelV x v) (ry : RelV y u) (h : isP dx dy = some b) :
    plainIs v u = true ∧ (v == u) = b := by
  cases dy with
  | non =>
    have e : y = .non := r2
    subst e
    cases ry
    cases dx with
    | non => have e : x = .non := r1; subst e; cases rx; cases h; exact ⟨rfl, rfl⟩
    | bl b => have e : x = .bl b := r1; subst e; cases rx; cases h; exact ⟨rfl, rfl⟩
    | int i => have e : x = .int i := r1; subst e; obtain ⟨t, rfl⟩ := rx; cases h; exact ⟨rfl, rfl⟩
    | str i => have e : x = .str i := r1; subst e; obtain ⟨t, rfl⟩ := rx; cases h; exact ⟨rfl, rfl⟩
    | tup ds => obtain ⟨a, vs, e, _⟩ := r1; subst e; cases rx; cases h; exact ⟨rfl, rfl⟩
    | lst ds => obtain ⟨a, vs, e, _⟩ := r1; subst e; cases rx; cases h; exact ⟨rfl, rfl⟩
    | ro ds => obtain ⟨a, vs, e, _⟩ := r1; subst e; cases rx; cases h; exact ⟨rfl, rfl⟩
    | mr k => obtain ⟨a, e, _⟩ := r1; subst e; cases rx; cases h; exact ⟨rfl, rfl⟩
    | exc c => first | (obtain ⟨a, C, e, _⟩ := r1; subst e; cases rx; cases h; exact ⟨rfl, rfl⟩) | cases h
    | any => cases h
  | bl c =>
    have e : y = .bl c := r2
    subst e
    cases ry
    cases dx with
    | non => have e : x = .non := r1; subst e; cases rx; cases h; exact ⟨rfl, rfl⟩
    | bl b =>
      have e : x = .bl b := r1; subst e; cases rx; cases h
      refine ⟨rfl, ?_⟩
      cases b <;> cases c <;> rfl
    | int i => have e : x = .int i := r1; subst e; obtain ⟨t, rfl⟩ := rx; cases h; exact ⟨rfl, rfl⟩
    | str i => have e : x = .str i := r1; subst e; obtain ⟨t, rfl⟩ := rx; cases h; exact ⟨rfl, rfl⟩
    | tup ds => obtain ⟨a, vs, e, _⟩ := r1; subst e; cases rx; cases h; exact ⟨rfl, rfl⟩
    | lst ds => obtain ⟨a, vs, e, _⟩ := r1; subst e; cases rx; cases h; exact ⟨rfl, rfl⟩
    | ro ds => obtain ⟨a, vs, e, _⟩ := r1; subst e; cases rx; cases h; exact ⟨rfl, rfl⟩
    | mr k => obtain ⟨a, e, _⟩ := r1; subst e; cases rx; cases h; exact ⟨rfl, rfl⟩
    | exc c => first | (obtain ⟨a, C, e, _⟩ := r1; subst e; cases rx; cases h; exact ⟨rfl, rfl⟩) | cases h
    | any => cases h
  | _ => cases dx <;> cases h
theorem od_is : OpR X (compareOp .Is) (rD X (isOp false)) := by
  intro pins s σ H x y v u Q I rx ry h
  obtain ⟨θ, M, dx, dy, hw, r1, r2, h⟩ := h
  unfold isOp at h
  split at h
  · rename_i b q
    obtain ⟨hp, e⟩ := isP_ok r1 r2 rx ry q
    refine wpAny_is_plain hp ?_
    rw [e]
    refine ⟨.bl b, H, I, rfl, ?_⟩
    have := h (.bl (b != false)) θ H (.refl hw) rfl
    rw [Bool.bne_false] at this
    exact this
  · exact h.elim
/-! ### == -/
mutual
def toP : D → PyData
  | .non => .none
  | .bl b => .bool b
  | .int i => .int i
  | .str x => .str x
  | .tup ds => .tuple (toPs ds)
  | .lst ds => .list (toPs ds)
  | .ro ds => .list (toPs ds)
  | .mr _ => .dict []
  | .exc _ => .dict []
  | .any => .dict []
def toPs : List D → List PyData
  | [] => []
  | d :: ds => toP d :: toPs ds
end
mutual
/-- what may be compared: its texts in order, within so many of one another -/
def cmpOk : Nat → D → Bool
  | _, .non => true
  | _, .bl _ => true
  | _, .int _ => true
  | _, .str x => PyData.strOk x
  | n + 1, .tup ds => cmpOks n ds
  | n + 1, .lst ds => cmpOks n ds
  | n + 1, .ro ds => cmpOks n ds
  | _, _ => false
def cmpOks : Nat → List D → Bool
  | _, [] => true
  | n, d :: ds => cmpOk n d && cmpOks n ds
end
mutual
/-- == of data -/
def eqB : D → D → Bool
  | .non, .non => true
  | .bl a, .bl b => a == b
  | .bl a, .int j => (if a then 1 else 0) == j
  | .int i, .bl b => i == (if b then 1 else 0)
  | .int i, .int j => i == j
  | .str x, .str y => x == y
  | .lst xs, .lst ys => eqBs xs ys
  | .lst xs, .ro ys => eqBs xs ys
  | .ro xs, .lst ys => eqBs xs ys
  | .ro xs, .ro ys => eqBs xs ys
  | .tup xs, .tup ys => eqBs xs ys
  | _, _ => false
def eqBs : List D → List D → Bool
  | [], [] => true
  | x :: xs, y :: ys => eqB x y && eqBs xs ys
  | _, _ => false
end
mutual
theorem eqv_toP : ∀ (x y : D) (n m : Nat), cmpOk n x = true → cmpOk m y = true → PyData.eqv (toP x) (toP y) = eqB x y
  | .non, y, n, m, hx, hy => by cases y <;> simp_all [toP, eqB, PyData.eqv, cmpOk]
  | .bl a, y, n, m, hx, hy => by cases y <;> simp_all [toP, eqB, PyData.eqv, cmpOk]
  | .int a, y, n, m, hx, hy => by cases y <;> simp_all [toP, eqB, PyData.eqv, cmpOk]
  | .str a, y, n, m, hx, hy => by cases y <;> simp_all [toP, eqB, PyData.eqv, cmpOk]
  | .tup xs, y, n, m, hx, hy => by
    cases n with
    | zero => simp [cmpOk] at hx
    | succ n =>
      cases y with
      | tup ys =>
        cases m with
        | zero => simp [cmpOk] at hy
        | succ m =>
          simp only [toP, PyData.eqv, eqB]
          exact eqv_toPs xs ys n m (by simpa [cmpOk] using hx) (by simpa [cmpOk] using hy)
      | _ => simp_all [toP, eqB, PyData.eqv, cmpOk]
  | .lst xs, y, n, m, hx, hy => by
    cases n with
    | zero => simp [cmpOk] at hx
    | succ n =>
      cases y with
      | lst ys =>
        cases m with
        | zero => simp [cmpOk] at hy
        | succ m =>
          simp only [toP, PyData.eqv, eqB]
          exact eqv_toPs xs ys n m (by simpa [cmpOk] using hx) (by simpa [cmpOk] using hy)
      | ro ys =>
        cases m with
        | zero => simp [cmpOk] at hy
        | succ m =>
          simp only [toP, PyData.eqv, eqB]
          exact eqv_toPs xs ys n m (by simpa [cmpOk] using hx) (by simpa [cmpOk] using hy)
      | _ => simp_all [toP, eqB, PyData.eqv, cmpOk]
  | .ro xs, y, n, m, hx, hy => by
    cases n with
    | zero => simp [cmpOk] at hx
    | succ n =>
      cases y with
      | lst ys =>
        cases m with
        | zero => simp [cmpOk] at hy
        | succ m =>
          simp only [toP, PyData.eqv, eqB]
          exact eqv_toPs xs ys n m (by simpa [cmpOk] using hx) (by simpa [cmpOk] using hy)
      | ro ys =>
        cases m with
        | zero => simp [cmpOk] at hy
        | succ m =>
          simp only [toP, PyData.eqv, eqB]
          exact eqv_toPs xs ys n m (by simpa [cmpOk] using hx) (by simpa [cmpOk] using hy)
      | _ => simp_all [toP, eqB, PyData.eqv, cmpOk]
  | .mr a, y, n, m, hx, hy => by simp [cmpOk] at hx
  | .exc a, y, n, m, hx, hy => by simp [cmpOk] at hx
  | .any, y, n, m, hx, hy => by simp [cmpOk] at hx
theorem eqv_toPs : ∀ (x y : List D) (n m : Nat), cmpOks n x = true → cmpOks m y = true → PyData.eqvAll (toPs x) (toPs y) = eqBs x y
  | [], y, n, m, hx, hy => by cases y <;> simp [toPs, PyData.eqvAll, eqBs]
  | x :: xs, y, n, m, hx, hy => by
    cases y with
    | nil => simp [toPs, PyData.eqvAll, eqBs]
    | cons y ys =>
      simp only [cmpOks, Bool.and_eq_true] at hx hy
      simp only [toPs, PyData.eqvAll, eqBs]
      rw [eqv_toP x y n m hx.1 hy.1, eqv_toPs xs ys n m hx.2 hy.2]
end
mutual
theorem cmp_lay : ∀ (d : D) (n : Nat), cmpOk n d = true → (toP d).canLay0 = true ∧ (toP d).depth ≤ n
  | .non, n, h => by simp [toP, PyData.canLay0, PyData.depth]
  | .bl a, n, h => by simp [toP, PyData.canLay0, PyData.depth]
  | .int a, n, h => by simp [toP, PyData.canLay0, PyData.depth]
  | .str a, n, h => by
    have : PyData.strOk a = true := by cases n <;> simpa [cmpOk] using h
    simp [toP, PyData.canLay0, PyData.depth, this]
  | .tup xs, n, h => by
    cases n with
    | zero => simp [cmpOk] at h
    | succ n =>
      have := cmp_lays xs n (by simpa [cmpOk] using h)
      simp only [toP, PyData.canLay0, PyData.depth]
      exact ⟨this.1, by omega⟩
  | .lst xs, n, h => by
    cases n with
    | zero => simp [cmpOk] at h
    | succ n =>
      have := cmp_lays xs n (by simpa [cmpOk] using h)
      simp only [toP, PyData.canLay0, PyData.depth]
      exact ⟨this.1, by omega⟩
  | .ro xs, n, h => by
    cases n with
    | zero => simp [cmpOk] at h
    | succ n =>
      have := cmp_lays xs n (by simpa [cmpOk] using h)
      simp only [toP, PyData.canLay0, PyData.depth]
      exact ⟨this.1, by omega⟩
  | .mr a, n, h => by simp [cmpOk] at h
  | .exc a, n, h => by simp [cmpOk] at h
  | .any, n, h => by simp [cmpOk] at h
theorem cmp_lays : ∀ (ds : List D) (n : Nat), cmpOks n ds = true → PyData.canLayAll0 (toPs ds) = true ∧ PyData.depthAll (toPs ds) ≤ n
  | [], n, h => by simp [toPs, PyData.canLayAll0, PyData.depthAll]
  | d :: ds, n, h => by
    simp only [cmpOks, Bool.and_eq_true] at h
    have h1 := cmp_lay d n h.1
    have h2 := cmp_lays ds n h.2
    simp only [toPs, PyData.canLayAll0, PyData.depthAll, Bool.and_eq_true]
    exact ⟨⟨h1.1, h2.1⟩, by omega⟩
end
mutual
theorem reads_of {pins : List (Addr × Obj)} {s : Shared} {σ : L2.St} {H : Hp} {θ : List Addr} (I : Inv X pins σ H s) : ∀ (d : D) (n : Nat) (v : V) (u : Value), cmpOk n d = true → isD X.K θ H d v → RelV v u → ∃ as, Reads s.heap u (toP d) as
  | .non, n, v, u, h, r, q => by have e : v = .non := r; subst e; cases q; exact ⟨_, .none⟩
  | .bl a, n, v, u, h, r, q => by have e : v = .bl a := r; subst e; cases q; exact ⟨_, .bool a⟩
  | .int a, n, v, u, h, r, q => by have e : v = .int a := r; subst e; obtain ⟨t, rfl⟩ := q; exact ⟨_, .int a t⟩
  | .str a, n, v, u, h, r, q => by have e : v = .str a := r; subst e; obtain ⟨t, rfl⟩ := q; exact ⟨_, .str a t⟩
  | .tup xs, n, v, u, h, r, q => by
    cases n with
    | zero => simp [cmpOk] at h
    | succ n =>
      obtain ⟨a, vs, e, ta, ra⟩ := r
      subst e; cases q
      obtain ⟨its, rv, ⟨o, h1, h2, m, h3⟩, _⟩ := I.tuple ta.sq
      obtain ⟨as, R⟩ := readss_of I xs n vs its (by simpa [cmpOk] using h) ra rv
      exact ⟨_, .tuple h1 h2 h3 (by simpa using R)⟩
  | .lst xs, n, v, u, h, r, q => by
    cases n with
    | zero => simp [cmpOk] at h
    | succ n =>
      obtain ⟨a, vs, e, ta, ra⟩ := r
      subst e; cases q
      obtain ⟨its, rv, ⟨o, m, h1, h2, _, h3⟩, _⟩ := I.list (ta.sq (K := X.K))
      obtain ⟨as, R⟩ := readss_of I xs n vs its (by simpa [cmpOk] using h) ra rv
      exact ⟨_, .list h1 h2 h3 (by simpa using R)⟩
  | .ro xs, n, v, u, h, r, q => by
    cases n with
    | zero => simp [cmpOk] at h
    | succ n =>
      obtain ⟨a, vs, e, ta, ra⟩ := r
      subst e; cases q
      obtain ⟨its, rv, ⟨o, m, h1, h2, _, h3⟩, _⟩ := I.list ta.sq
      obtain ⟨as, R⟩ := readss_of I xs n vs its (by simpa [cmpOk] using h) ra rv
      exact ⟨_, .list h1 h2 h3 (by simpa using R)⟩
  | .mr a, n, v, u, h, r, q => by simp [cmpOk] at h
  | .exc a, n, v, u, h, r, q => by simp [cmpOk] at h
  | .any, n, v, u, h, r, q => by simp [cmpOk] at h
theorem readss_of {pins : List (Addr × Obj)} {s : Shared} {σ : L2.St} {H : Hp} {θ : List Addr} (I : Inv X pins σ H s) : ∀ (ds : List D) (n : Nat) (vs : List V) (us : List Value), cmpOks n ds = true → isDs X.K θ H ds vs → Vals vs us → ∃ as, ReadsAll s.heap us (toPs ds) as
  | [], n, vs, us, h, r, q => by have e : vs = [] := r; subst e; cases q; exact ⟨_, .nil⟩
  | d :: ds, n, vs, us, h, r, q => by
    simp only [cmpOks, Bool.and_eq_true] at h
    obtain ⟨v, rr, e, r1, r2⟩ := r
    subst e
    cases q with
    | cons q1 q2 =>
      obtain ⟨as, R1⟩ := reads_of I d n v _ h.1 r1 q1
      obtain ⟨bs, R2⟩ := readss_of I ds n rr _ h.2 r2 q2
      exact ⟨_, .cons R1 R2⟩
end
/-- a list that may change, as it is now -/
def now (d : D) (M : Mem) : D := match d with
  | .mr k => match M[k]? with
    | some (.lst xs) => .lst xs
    | _ => .mr k
  | d => d
def eqOp (neg : Bool) : F2 := fun x y M => if cmpOk 40 (now x M) && cmpOk 40 (now y M) then .ok (.bl (eqB (now x M) (now y M) != neg)) M else .bad
theorem reads_now {pins : List (Addr × Obj)} {s : Shared} {σ : L2.St} {H : Hp} {θ : List Addr} {M : Mem} (I : Inv X pins σ H s) (hw : Wr X.K θ H M) {d : D} {n : Nat} {v : V} {u : Value} (h : cmpOk n (now d M) = true) (r : isD X.K θ H d v) (q : RelV v u) : ∃ as, Reads s.heap u (toP (now d M)) as := by
  cases d with
  | mr k =>
    obtain ⟨a, e, ta⟩ := r
    subst e; cases q
    cases qm : M[k]? with
    | none =>
      have e : now (.mr k) M = .mr k := by simp [now, qm]
      rw [e] at h; simp [cmpOk] at h
    | some m =>
      cases m with
      | lst xs =>
        have e : now (.mr k) M = .lst xs := by simp [now, qm]
        rw [e] at h ⊢
        cases n with
        | zero => simp [cmpOk] at h
        | succ n =>
          obtain ⟨vs, hv, ra⟩ := hw.at_ k a _ ta qm
          obtain ⟨its, rv, ⟨o, m, h1, h2, _, h3⟩, _⟩ := I.list (X := X) (xs := vs) (.inl (.inl hv))
          obtain ⟨as, R⟩ := readss_of I xs n vs its (by simpa [cmpOk] using h) ra rv
          exact ⟨_, .list h1 h2 h3 (by simpa using R)⟩
      | _ =>
        have e : now (.mr k) M = .mr k := by simp [now, qm]
        rw [e] at h; simp [cmpOk] at h
  | _ => exact reads_of I _ n v u h r q
theorem od_eq (hu : X.A.units + 64 < cLine) : OpR X (compareOp .Eq) (rD X (eqOp false)) := by
  intro pins s σ H x y v u Q I rx ry h
  obtain ⟨θ, M, dx, dy, hw, r1, r2, h⟩ := h
  unfold eqOp at h
  split at h
  · rename_i hc
    rw [Bool.and_eq_true] at hc
    obtain ⟨as, R1⟩ := reads_now I hw hc.1 r1 rx
    obtain ⟨bs, R2⟩ := reads_now I hw hc.2 r2 ry
    have l1 := cmp_lay _ _ hc.1
    have l2 := cmp_lay _ _ hc.2
    refine SeqAt.compareEq_reads R1 R2 l1.1 l2.1 (by have := l1.2; have : min (toP (now dx M)).depth (toP (now dy M)).depth ≤ (toP (now dx M)).depth := Nat.min_le_left _ _; omega) ?_
    rw [eqv_toP _ _ _ _ hc.1 hc.2]
    refine ⟨.bl _, H, I, rfl, ?_⟩
    have := h _ θ H (.refl hw) rfl
    rw [Bool.bne_false] at this
    exact this
  · exact h.elim
theorem od_ne (hu : X.A.units + 64 < cLine) : OpR X (compareOp .NotEq) (rD X (eqOp true)) := by
  intro pins s σ H x y v u Q I rx ry h
  obtain ⟨θ, M, dx, dy, hw, r1, r2, h⟩ := h
  unfold eqOp at h
  split at h
  · rename_i hc
    rw [Bool.and_eq_true] at hc
    obtain ⟨as, R1⟩ := reads_now I hw hc.1 r1 rx
    obtain ⟨bs, R2⟩ := reads_now I hw hc.2 r2 ry
    have l1 := cmp_lay _ _ hc.1
    have l2 := cmp_lay _ _ hc.2
    refine SeqAt.compareNe_reads R1 R2 l1.1 l2.1 (by have := l1.2; have : min (toP (now dx M)).depth (toP (now dy M)).depth ≤ (toP (now dx M)).depth := Nat.min_le_left _ _; omega) ?_
    rw [eqv_toP _ _ _ _ hc.1 hc.2]
    refine ⟨.bl _, H, I, rfl, ?_⟩
    have := h _ θ H (.refl hw) rfl
    rw [Bool.bne_true] at this
    exact this
  · exact h.elim

/-! ### an item, a part -/
def itemsOf (d : D) (M : Mem) : Option (List D) := match d with
  | .tup xs => some xs
  | .lst xs => some xs
  | .ro xs => some xs
  | .mr k => match M[k]? with
    | some (.lst xs) => some xs
    | _ => none
  | _ => none
def ixD : F2 := fun x y M => match itemsOf x M, y with
  | some xs, .int i => match atI xs i with
    | some d => .ok d M
    | none => .bad
  | _, _ => .bad
theorem atI_isDs {K : PySem.W.Frag} {θ : List Addr} {H : Hp} {ds : List D} {vs : List V} {i : Int} {d : D} (r : isDs K θ H ds vs) (e : atI ds i = some d) : ∃ v, atI vs i = some v ∧ isD K θ H d v := by
  unfold atI at e ⊢
  rw [← isDs_length r]
  cases q : ixN ds.length i with
  | none => rw [q] at e; cases e
  | some j =>
    rw [q] at e
    exact isDs_get r e
theorem seq_of {K : PySem.W.Frag} {θ : List Addr} {H : Hp} {M : Mem} {d : D} {xs : List D} {v : V} (hw : Wr K θ H M) (r : isD K θ H d v) (e : itemsOf d M = some xs) : ∃ a vs, v = .ref a ∧ (SqL K H a vs ∨ SqT K H a vs) ∧ isDs K θ H xs vs := by
  cases d with
  | tup ds => obtain ⟨a, vs, e1, ta, ra⟩ := r; cases e; exact ⟨a, vs, e1, .inr ta.sq, ra⟩
  | lst ds => obtain ⟨a, vs, e1, ta, ra⟩ := r; cases e; exact ⟨a, vs, e1, .inl ta.sq, ra⟩
  | ro ds => obtain ⟨a, vs, e1, ta, ra⟩ := r; cases e; exact ⟨a, vs, e1, .inl ta.sq, ra⟩
  | mr k =>
    obtain ⟨a, e1, ta⟩ := r
    have e : (match M[k]? with | some (.lst xs) => some xs | _ => none) = some xs := e
    cases qm : M[k]? with
    | none => rw [qm] at e; cases e
    | some m =>
      cases m with
      | lst ys =>
        rw [qm] at e
        cases e
        obtain ⟨vs, hv, ra⟩ := hw.at_ k a _ ta qm
        exact ⟨a, vs, e1, .inl (.inl (.inl hv)), ra⟩
      | _ => rw [qm] at e; cases e
  | _ => cases e
theorem od_ix : IxR X (rD X ixD) := by
  intro value slice pins s σ H x y v u Q I rx ry h hs
  obtain ⟨θ, M, dx, dy, hw, r1, r2, h⟩ := h
  unfold ixD at h
  split at h
  · rename_i xs i q
    split at h
    · rename_i d qd
      obtain ⟨a, vs, ea, sq, ra⟩ := seq_of hw r1 q
      obtain ⟨z, ez, rz⟩ := atI_isDs ra qd
      have hq := h z θ H (.refl hw) rz
      rcases sq with sq | sq
      · exact ix_list value slice pins s σ H x y v u Q I rx ry ⟨a, vs, i, z, ea, r2, sq, ez, hq⟩ hs
      · exact ix_tup value slice pins s σ H x y v u Q I rx ry ⟨a, vs, i, z, ea, r2, sq, ez, hq⟩ hs
    · exact h.elim
  · exact h.elim
/-- xs[lo:hi] -/
def cutD (xs : List D) (lo hi : Option Int) : List D := (xs.drop (HT.sIx xs.length 0 lo)).take (HT.sIx xs.length xs.length hi - HT.sIx xs.length 0 lo)
def sliceD (x : D) (lo hi : Option Int) (M : Mem) : Out D := match x with
  | .tup xs => .ok (.tup (cutD xs lo hi)) M
  | .lst xs => .ok (.lst (cutD xs lo hi)) M
  | .ro xs => .ok (.lst (cutD xs lo hi)) M
  | .mr k => match M[k]? with
    | some (.lst xs) => .ok (.lst (cutD xs lo hi)) M
    | _ => .bad
  | _ => .bad
abbrev GO := Rho → Mem → Out (Option Int)
def gNoPart : GO := fun _ M => .ok none M
def gPart (g : GE) : GO := fun ρ M => (g ρ M).bind fun d M1 => match d with
  | .int i => .ok (some i) M1
  | _ => .bad
def FinO (X : Cx) (θ : List Addr) (H : Hp) (Q : Option Int → Hp → Prop) : Out (Option Int) → Prop
  | .ok b M' => ∀ θ' H', Go X.K θ H θ' H' M' → Q b H'
  | .err c M' => ErrOk X θ H c M'
  | .bad => False
def tO (X : Cx) (g : GO) : TO := fun σ H Q => ∃ ρ θ M, Den X.K θ H σ ρ ∧ Wr X.K θ H M ∧ FinO X θ H Q (g ρ M)
theorem _root_.L2.PO.of {e : Option Expr} {t t' : TO} (h : PO X e t) (w : ∀ σ H Q, t' σ H Q → t σ H Q) : PO X e t' := fun pins s σ H Q I q => h pins s σ H Q I (w σ H Q q)
def gSl (g : GE) (gl gh : GO) : GE := fun ρ M => (g ρ M).bind fun x M1 => (gl ρ M1).bind fun lo M2 => (gh ρ M2).bind fun hi M3 => sliceD x lo hi M3
def rSl (X : Cx) : V → Option Int → Option Int → Hp → VK → Prop := fun x lo hi H Q => ∃ θ M d, Wr X.K θ H M ∧ isD X.K θ H d x ∧ FinE X θ H Q (sliceD d lo hi M)
/-! ### truth -/
def truD (d : D) (M : Mem) : Out Bool := match d with
  | .non => .ok false M
  | .bl b => .ok b M
  | .int i => .ok (i != 0) M
  | .str x => if x.length ≤ sizeLine then .ok ((x.length : Int) != 0) M else .bad
  | .tup xs => .ok (!xs.isEmpty) M
  | .lst xs => .ok (!xs.isEmpty) M
  | .ro xs => .ok (!xs.isEmpty) M
  | .mr k => match M[k]? with
    | some (.lst xs) => .ok (!xs.isEmpty) M
    | _ => .bad
  | .exc _ => .bad
  | .any => .bad
def gTru (g : GE) : GT := fun ρ M => (g ρ M).bind truD
theorem isEmpty_ds {K : PySem.W.Frag} {θ : List Addr} {H : Hp} {ds : List D} {vs : List V} (r : isDs K θ H ds vs) : (!vs.isEmpty) = !ds.isEmpty := by
  have := isDs_length r
  cases ds <;> cases vs <;> simp_all
theorem dt_tru {a : Expr} {g : GE} (ha : PE X a (tE X g)) (he : ∀ whole, isTrue a X.env whole = (do let v ← whole; standAt a.pos; holding [v] (truthy v)) := by intro _; rfl) : PT X a (tT X (gTru g)) :=
  (pt_truth ha he).of fun σ H Q ⟨ρ, θ, M, hd, hw, h⟩ => by
    refine thenE hd hw (FinT X θ H Q) (fun c M' h => h) (fun h => h) h fun d M1 v θ1 H1 g1 r1 h1 => ?_
    cases d with
    | non => have e : v = .non := r1; subst e; exact ⟨false, rfl, h1 θ1 H1 g1⟩
    | bl b => have e : v = .bl b := r1; subst e; exact ⟨b, rfl, h1 θ1 H1 g1⟩
    | int i => have e : v = .int i := r1; subst e; exact ⟨i != 0, rfl, h1 θ1 H1 g1⟩
    | str x =>
      have e : v = .str x := r1; subst e
      have h1 : FinT X θ H Q (if x.length ≤ sizeLine then .ok ((x.length : Int) != 0) M1 else .bad) := h1
      split at h1
      · rename_i hl; exact ⟨_, ⟨hl, rfl⟩, h1 θ1 H1 g1⟩
      · exact h1.elim
    | tup xs =>
      obtain ⟨a, vs, e, ta, ra⟩ := r1; subst e
      exact ⟨_, .inr (.inl ⟨vs, ta.sq, (isEmpty_ds ra).symm⟩), h1 θ1 H1 g1⟩
    | lst xs =>
      obtain ⟨a, vs, e, ta, ra⟩ := r1; subst e
      exact ⟨_, .inl ⟨vs, ta.sq, (isEmpty_ds ra).symm⟩, h1 θ1 H1 g1⟩
    | ro xs =>
      obtain ⟨a, vs, e, ta, ra⟩ := r1; subst e
      exact ⟨_, .inl ⟨vs, ta.sq, (isEmpty_ds ra).symm⟩, h1 θ1 H1 g1⟩
    | mr k =>
      obtain ⟨a, e, ta⟩ := r1; subst e
      have h1 : FinT X θ H Q (match M1[k]? with | some (.lst xs) => .ok (!xs.isEmpty) M1 | _ => .bad) := h1
      cases qm : M1[k]? with
      | none => rw [qm] at h1; exact h1.elim
      | some m =>
        cases m with
        | lst ys =>
          rw [qm] at h1
          obtain ⟨vs, hv, ra⟩ := g1.wr.at_ k a _ ta qm
          exact ⟨_, .inl ⟨vs, .inl (.inl hv), (isEmpty_ds ra).symm⟩, h1 θ1 H1 g1⟩
        | _ => rw [qm] at h1; exact h1.elim
    | exc c => exact h1.elim
    | any => exact h1.elim

/-! ### built-in functions -/
def lenF : FD := fun ds M => match ds with
  | [.str x] => if x.length ≤ sizeLine then .ok (.int x.length) M else .bad
  | [d] => match itemsOf d M with
    | some xs => .ok (.int xs.length) M
    | none => .bad
  | _ => .bad
def minF : FD := fun ds M => match ds with
  | [.int i, .int j] => .ok (.int (if j < i then j else i)) M
  | _ => .bad
def maxF : FD := fun ds M => match ds with
  | [.int i, .int j] => .ok (.int (if j > i then j else i)) M
  | _ => .bad
def intF : FD := fun ds M => match ds with
  | [.int i] => .ok (.int i) M
  | [.bl b] => .ok (.int (if b then 1 else 0)) M
  | _ => .bad
def listF : FD := fun ds M => match ds with
  | [d] => match itemsOf d M with
    | some xs => .ok (.lst xs) M
    | none => .bad
  | _ => .bad
def listM : FD := fun ds M => match ds with
  | [d] => match itemsOf d M with
    | some xs => .ok (.mr M.length) (M ++ [.lst xs])
    | none => .bad
  | _ => .bad
def tupleF : FD := fun ds M => match ds with
  | [d] => match itemsOf d M with
    | some xs => .ok (.tup xs) M
    | none => .bad
  | _ => .bad
theorem one_of {K : PySem.W.Frag} {θ : List Addr} {H : Hp} {d : D} {xs : List V} (r : isDs K θ H [d] xs) : ∃ v, xs = [v] ∧ isD K θ H d v := by
  obtain ⟨v, rr, e, h1, h2⟩ := r
  have e2 : rr = [] := h2
  subst e2
  exact ⟨v, e, h1⟩
theorem two_of {K : PySem.W.Frag} {θ : List Addr} {H : Hp} {d d' : D} {xs : List V} (r : isDs K θ H [d, d'] xs) : ∃ v v', xs = [v, v'] ∧ isD K θ H d v ∧ isD K θ H d' v' := by
  obtain ⟨v, rr, e, h1, h2⟩ := r
  obtain ⟨v', e2, h3⟩ := one_of h2
  subst e2
  exact ⟨v, v', e, h1, h3⟩
theorem cd_len : CallR X (.builtin "len") (rC X lenF) := by
  intro pins s σ H xs us Q I r h
  obtain ⟨θ, M, ds, hw, rd, h⟩ := h
  unfold lenF at h
  split at h
  · rename_i x
    split at h
    · rename_i hl
      obtain ⟨v, e, rv⟩ := one_of rd
      exact call_len_str pins s σ H xs us Q I r ⟨x, by rw [e, show v = .str x from rv], hl, h _ θ H (.refl hw) rfl⟩
    · exact h.elim
  · rename_i d _
    split at h
    · rename_i ys q
      obtain ⟨v, e, rv⟩ := one_of rd
      obtain ⟨a, vs, ea, sq, ra⟩ := seq_of hw rv q
      refine call_len_seq pins s σ H xs us Q I r ⟨a, vs, by rw [e, ea], sq, ?_⟩
      rw [← isDs_length ra]
      exact h _ θ H (.refl hw) rfl
    · exact h.elim
  · exact h.elim
theorem cd_min (hc : X.calm = true) : CallR X (.builtin "min") (rC X minF) := by
  intro pins s σ H xs us Q I r h
  obtain ⟨θ, M, ds, hw, rd, h⟩ := h
  unfold minF at h
  split at h
  · rename_i i j
    obtain ⟨v, v', e, rv, rv'⟩ := two_of rd
    exact call_min2 hc pins s σ H xs us Q I r ⟨i, j, by rw [e, show v = .int i from rv, show v' = .int j from rv'], h _ θ H (.refl hw) rfl⟩
  · exact h.elim
theorem cd_list : CallR X (.type "list") (rC X listF) := by
  intro pins s σ H xs us Q I r h
  obtain ⟨θ, M, ds, hw, rd, h⟩ := h
  unfold listF at h
  split at h
  · rename_i d
    split at h
    · rename_i ys q
      obtain ⟨v, e, rv⟩ := one_of rd
      obtain ⟨a, vs, ea, sq, ra⟩ := seq_of hw rv q
      exact call_list_of pins s σ H xs us Q I r ⟨a, vs, by rw [e, ea], sq, fun l hl => h _ θ _ (go_new hw hl) (new_lst hw hl ra)⟩
    · exact h.elim
  · exact h.elim
theorem cd_listM : CallR X (.type "list") (rC X listM) := by
  intro pins s σ H xs us Q I r h
  obtain ⟨θ, M, ds, hw, rd, h⟩ := h
  unfold listM at h
  split at h
  · rename_i d
    split at h
    · rename_i ys q
      obtain ⟨v, e, rv⟩ := one_of rd
      obtain ⟨a, vs, ea, sq, ra⟩ := seq_of hw rv q
      exact call_list_of pins s σ H xs us Q I r ⟨a, vs, by rw [e, ea], sq, fun l hl => h _ _ _ (go_mut hw hl ra) (mut_last hw)⟩
    · exact h.elim
  · exact h.elim
theorem cd_tuple : CallR X (.type "tuple") (rC X tupleF) := by
  intro pins s σ H xs us Q I r h
  obtain ⟨θ, M, ds, hw, rd, h⟩ := h
  unfold tupleF at h
  split at h
  · rename_i d
    obtain ⟨v, e, rv⟩ := one_of rd
    cases d with
    | tup ys =>
      obtain ⟨a, vs, ea, ta, ra⟩ := rv
      exact call_tuple_of pins s σ H xs us Q I r ⟨a, vs, by rw [e, ea], .inr ⟨ta.sq, h _ θ H (.refl hw) ⟨a, vs, rfl, ta, ra⟩⟩⟩
    | lst ys =>
      obtain ⟨a, vs, ea, ta, ra⟩ := rv
      exact call_tuple_of pins s σ H xs us Q I r ⟨a, vs, by rw [e, ea], .inl ⟨ta.sq, fun l hl => h _ θ _ (go_new hw hl) (new_tup hw hl ra)⟩⟩
    | ro ys =>
      obtain ⟨a, vs, ea, ta, ra⟩ := rv
      exact call_tuple_of pins s σ H xs us Q I r ⟨a, vs, by rw [e, ea], .inl ⟨ta.sq, fun l hl => h _ θ _ (go_new hw hl) (new_tup hw hl ra)⟩⟩
    | mr k =>
      obtain ⟨a, ea, ta⟩ := rv
      cases qm : M[k]? with
      | none => simp [itemsOf, qm] at h; exact h.elim
      | some m =>
        cases m with
        | lst ys =>
          simp only [itemsOf, qm] at h
          obtain ⟨vs, hv, ra⟩ := hw.at_ k a _ ta qm
          exact call_tuple_of pins s σ H xs us Q I r ⟨a, vs, by rw [e, ea], .inl ⟨.inl (.inl hv), fun l hl => h _ θ _ (go_new hw hl) (new_tup hw hl ra)⟩⟩
        | _ => simp [itemsOf, qm] at h; exact h.elim
    | _ => exact h.elim
  · exact h.elim
end
end DL

set_option Elab.async false
set_option linter.all false
set_option maxRecDepth 100000
/-! The data layer, fourth part: list comprehensions. -/
namespace DL
open PySem PySem.Spec PyProof.Rows L2

/-! ### what a comprehension's block sees -/
def capsOf (cells : List (Str × Addr)) : List (Str × NameKind) → List (Str × Addr) → List (Str × Addr)
  | [], acc => acc
  | (n, k) :: r, acc => if k == .free then capsOf cells r ((n, (cells.lookup n).getD 0) :: acc) else capsOf cells r acc
theorem closure_go {env : Env} : ∀ (l : List (Str × NameKind)) (cs : List (Str × Addr)), (∀ p ∈ l, p.2 = .free → ∃ c, env.cells.lookup p.1 = some c) →
    (forIn (m := Sem) l cs fun x r => match x with
      | (name, kind) => if (kind == NameKind.free) = true then do let __do_lift ← cellOf env name; pure (ForInStep.yield ((name, __do_lift) :: r)) else pure (ForInStep.yield r)) = pure (capsOf env.cells l cs)
  | [], cs, h => rfl
  | (n, k) :: r, cs, h => by
    have ih := fun cs => closure_go (env := env) r cs fun p hp => h p (List.mem_cons_of_mem _ hp)
    rw [List.forIn_cons]
    by_cases hk : (k == NameKind.free) = true
    · obtain ⟨c, hc⟩ := h (n, k) List.mem_cons_self (by simpa using hk)
      have e : cellOf env n = pure c := by unfold cellOf; rw [show List.lookup n env.cells = some c from hc]
      simp only [hk, if_true, capsOf, e, pure_bind]
      rw [ih, show List.lookup n env.cells = some c from hc]; rfl
    · simp only [hk, if_false, capsOf, pure_bind, Bool.false_eq_true]
      exact ih cs
theorem closure_caps {env : Env} {scope : Scope} (h : ∀ p ∈ scope.names, p.2 = .free → ∃ c, env.cells.lookup p.1 = some c) : closureFor scope env = pure (capsOf env.cells scope.names []) := by
  have := closure_go (env := env) scope.names [] h
  unfold closureFor
  simp only [bind_pure_comp] at this ⊢
  first
    | (rw [this]; rfl)
    | (simp [this])
    | exact this
theorem caps_mem {cells : List (Str × Addr)} : ∀ (l : List (Str × NameKind)) (acc : List (Str × Addr)), (∀ p ∈ acc, cells.lookup p.1 = some p.2) → (∀ p ∈ l, p.2 = .free → ∃ c, cells.lookup p.1 = some c) →
    ∀ p ∈ capsOf cells l acc, cells.lookup p.1 = some p.2
  | [], acc, ha, h => ha
  | (n, k) :: r, acc, ha, h => by
    have hr : ∀ p ∈ r, p.2 = .free → ∃ c, cells.lookup p.1 = some c := fun p hp => h p (List.mem_cons_of_mem _ hp)
    unfold capsOf
    by_cases hk : (k == NameKind.free) = true
    · rw [if_pos hk]
      refine caps_mem r _ (fun p hp => ?_) hr
      rcases List.mem_cons.mp hp with e | hp
      · subst e
        obtain ⟨c, hc⟩ := h (n, k) List.mem_cons_self (by simpa using hk)
        have hc' : cells.lookup n = some c := hc
        show cells.lookup n = some ((cells.lookup n).getD 0)
        rw [hc']; rfl
      · exact ha p hp
    · rw [if_neg hk]
      exact caps_mem r acc ha hr
theorem caps_acc {cells : List (Str × Addr)} : ∀ (l : List (Str × NameKind)) (acc : List (Str × Addr)), ∀ p ∈ acc, p ∈ capsOf cells l acc
  | [], acc, p, h => h
  | (n, k) :: r, acc, p, h => by
    unfold capsOf
    by_cases hk : (k == NameKind.free) = true
    · rw [if_pos hk]; exact caps_acc r _ p (List.mem_cons_of_mem _ h)
    · rw [if_neg hk]; exact caps_acc r acc p h
theorem caps_has {cells : List (Str × Addr)} : ∀ (l : List (Str × NameKind)) (acc : List (Str × Addr)) (n : Str), (n, NameKind.free) ∈ l → ∃ c, (n, c) ∈ capsOf cells l acc
  | [], acc, n, h => by cases h
  | (m, k) :: r, acc, n, h => by
    unfold capsOf
    rcases List.mem_cons.mp h with e | h
    · cases e
      rw [if_pos (by rfl)]
      exact ⟨_, caps_acc r _ _ List.mem_cons_self⟩
    · by_cases hk : (k == NameKind.free) = true
      · rw [if_pos hk]; exact caps_has r _ n h
      · rw [if_neg hk]; exact caps_has r acc n h
theorem lookup_some_of_mem {l : List (Str × Addr)} {n : Str} {c : Addr} (h : (n, c) ∈ l) : ∃ c', l.lookup n = some c' := by
  induction l with
  | nil => cases h
  | cons p r ih =>
    obtain ⟨m, d⟩ := p
    by_cases e : (n == m) = true
    · exact ⟨d, by simp [List.lookup, e]⟩
    · have e' : (n == m) = false := by simpa using e
      rcases List.mem_cons.mp h with q | q
      · cases q; simp at e
      · obtain ⟨c', hc⟩ := ih q
        exact ⟨c', by simp only [List.lookup, e']; exact hc⟩
theorem lookup_relabel {env : Env} : ∀ {names : List (Str × NameKind)} {x : Str} {k : NameKind},
    (names.map fun (n, k) => if (k == NameKind.free && env.scope.kind == .function && env.kindOf n == some .cell) then (n, NameKind.cell) else (n, k)).lookup x = some k →
      names.lookup x = some k ∨ (k = .cell ∧ names.lookup x = some .free)
  | [], _, _, h => by simp at h
  | (n, k') :: r, x, k, h => by
    have ih := @lookup_relabel env r x k
    have h : List.lookup x ((if (k' == NameKind.free && env.scope.kind == .function && env.kindOf n == some .cell) = true then (n, NameKind.cell) else (n, k')) :: _) = some k := h
    by_cases hc : (k' == NameKind.free && env.scope.kind == .function && env.kindOf n == some .cell) = true
    · rw [if_pos hc] at h
      cases hx : x == n with
      | true =>
        simp only [List.lookup_cons, hx] at h ⊢
        cases h
        have : k' = .free := by
          rw [Bool.and_eq_true, Bool.and_eq_true] at hc
          simpa using hc.1.1
        subst this
        exact .inr ⟨rfl, rfl⟩
      | false =>
        simp only [List.lookup_cons, hx] at h ⊢
        exact ih h
    · rw [if_neg hc] at h
      cases hx : x == n with
      | true =>
        simp only [List.lookup_cons, hx] at h ⊢
        exact .inl h
      | false =>
        simp only [List.lookup_cons, hx] at h ⊢
        exact ih h

/-- a comprehension's scope: its own name x, the def's names R as it sees them (one that x hides is called otherwise) -/
def compChk (sc : Scope) (fk : Str → Option NameKind) (xs : List Str) (R N : List Str) : Bool :=
  decide (sc.kind = .function) && xs.all (fun x => sc.names.lookup x == some .local) &&
  sc.names.all (fun p => match p.2 with
    | .cell => false
    | .local => (xs.contains p.1 || p.1 == (".0" : Str)) && sc.names.lookup p.1 == some .local
    | .free => fk p.1 == some .cell || fk p.1 == some .free
    | _ => true) &&
  decide ((xs ++ R).Nodup) && !(R.contains (".0" : Str)) && R.length == N.length &&
  (R.zip N).all (fun p => p.1 == p.2 || sc.names.lookup p.1 != some .free)
structure CompScope (sc : Scope) (fk : Str → Option NameKind) (xs : List Str) (R N : List Str) : Prop where
  kind : sc.kind = .function
  own : ∀ x ∈ xs, sc.names.lookup x = some .local
  nocell : ∀ p ∈ sc.names, p.2 ≠ .cell
  locs : ∀ p ∈ sc.names, p.2 = .local → p.1 ∈ xs ∨ p.1 = (".0" : Str)
  lnames : ∀ p ∈ sc.names, p.2 = .local → sc.names.lookup p.1 = some .local
  free : ∀ p ∈ sc.names, p.2 = .free → fk p.1 = some .cell ∨ fk p.1 = some .free
  nd : (xs ++ R).Nodup
  no0 : (".0" : Str) ∉ R
  len : R.length = N.length
  same : ∀ (i : Nat) y, R[i]? = some y → sc.names.lookup y = some .free → N[i]? = some y
theorem CompScope.of {sc : Scope} {fk : Str → Option NameKind} {xs : List Str} {R N : List Str} (h : compChk sc fk xs R N = true) : CompScope sc fk xs R N := by
  unfold compChk at h
  simp only [Bool.and_eq_true, decide_eq_true_eq, List.all_eq_true, Bool.not_eq_true', beq_iff_eq] at h
  obtain ⟨⟨⟨⟨⟨⟨h1, h2⟩, h3⟩, h4⟩, h5⟩, h6⟩, h7⟩ := h
  refine ⟨h1, h2, fun p hp e => ?_, fun p hp e => ?_, fun p hp e => ?_, fun p hp e => ?_, h4, ?_, h6, fun i y hy hf => ?_⟩
  · have := h3 p hp; rw [e] at this; simp at this
  · have := h3 p hp; rw [e] at this; simp at this; exact this.1
  · have := h3 p hp; rw [e] at this; simp at this; exact this.2
  · have := h3 p hp; rw [e] at this; simp at this; exact this
  · intro hm
    have : R.contains (".0" : Str) = true := by simpa using hm
    rw [this] at h5; cases h5
  · obtain ⟨hi, e⟩ := List.getElem?_eq_some_iff.mp hy
    have hn : i < N.length := by rw [← h6]; exact hi
    have hz : (R[i], N[i]) ∈ R.zip N := by
      rw [List.mem_iff_getElem]
      exact ⟨i, by simp; omega, by simp⟩
    have := h7 _ hz
    simp only [Bool.or_eq_true, beq_iff_eq, bne_iff_ne, ne_eq] at this
    rcases this with q | q
    · rw [List.getElem?_eq_getElem hn, ← q, e]
    · rw [e] at q; exact absurd hf q

def compCx (X : Cx) (scope : Scope) (xs : List Str) (R : List Str) (fp : List Addr) (s : Shared) (H : Hp) (C : Addr) : Cx where
  prog := X.prog
  w := X.w
  K := X.K
  mg := X.mg
  base := X.base
  A := X.A
  N := xs ++ R
  s₀ := s
  H₀ := H
  env := compEnvC scope (capsOf X.env.cells scope.names []) C X.env
  outer := X.stack
  stack := X.stack
  ex := fp
  fn := fun _ => false
  calm := X.calm
  pn := []
  xe := fun _ _ => False

section
variable {X : Cx} {pins : List (Addr × Obj)} {σ : L2.St} {H : Hp} {s : Shared} {scope : Scope} {xs : List Str} {R : List Str} {fp : List Addr} {C : Addr}
theorem CompScope.cells (S : CompScope scope X.env.kindOf xs R X.N) (I : L2.Inv X pins σ H s) : ∀ p ∈ scope.names, p.2 = .free → ∃ c, X.env.cells.lookup p.1 = some c := fun p hp e => I.ok.has p.1 (S.free p hp e)
theorem caps_lookup (S : CompScope scope X.env.kindOf xs R X.N) (I : L2.Inv X pins σ H s) {y : Str} {c : Addr} (h : (capsOf X.env.cells scope.names []).lookup y = some c) : X.env.cells.lookup y = some c :=
  caps_mem scope.names [] (fun _ z => by cases z) (S.cells I) (y, c) (PySem.mem_of_lookup h)
theorem comp_inv {h4 : Heap} {m : Str → Option Value} {tk : Nat} (S : CompScope scope X.env.kindOf xs R X.N) (I : L2.Inv X pins σ H s) (hC : s.heap.objs.size ≤ C) (k : ∀ b o, s.heap.get? b = some o → h4.get? b = some o) (hn : h4.Ns C m)
    (hf : ∀ b ∈ fp, FpOk X pins H b) (hfl : ∀ b ∈ fp, b < s.heap.objs.size) : L2.Inv (compCx X scope xs R fp s H C) [] (List.replicate xs.length none ++ σ) H { s with heap := h4, toks := tk } := by
  have hkn : ∀ y kk, (relabel scope X.env).names.lookup y = some kk → (kk = .cell ∨ kk = .free) → scope.names.lookup y = some .free := fun y kk e hk => by
    rcases lookup_relabel e with q | q
    · rcases hk with z | z
      · subst z; exact absurd rfl (S.nocell _ (PySem.mem_of_lookup q))
      · subst z; exact q
    · exact q.2
  have hasc : ∀ y, scope.names.lookup y = some .free → ∃ c, (capsOf X.env.cells scope.names []).lookup y = some c := fun y e => by
    obtain ⟨c, hc⟩ := caps_has (cells := X.env.cells) scope.names [] y (PySem.mem_of_lookup e)
    exact lookup_some_of_mem hc
  refine ⟨⟨I.ok.mod, S.kind, I.ok.glob, I.ok.blt, hC, fun y z c h1 h2 => I.ok.inj y z c (caps_lookup S I h1) (caps_lookup S I h2), fun y hy => ?_, fun y c z => absurd (show false = true from z) Bool.false_ne_true, I.ok.hd, I.ok.frames, .inl rfl, fun b hb => ⟨?_, fun y c e => ?_⟩, I.bs, Nat.le_trans I.ok.bsz I.sz, fun b o e hb => ?_, fun b hb z => ?_, I.stack, I.stkFree⟩,
    rfl, I.bare, Un.kept k, ⟨m, hn, fun i y v h1 h2 h3 => ?_⟩, fun y c e => ?_, I.hok.fresh hC, fun y c e => I.freeC y c (caps_lookup S I e), fun p hp => absurd (show p ∈ ([] : List (Addr × Obj)) from hp) (by simp), I.hok.kept k, ?_⟩
  · rcases hy with e | e
    · exact hasc y (hkn y _ e (.inl rfl))
    · exact hasc y (hkn y _ e (.inr rfl))
  · exact Nat.ne_of_lt (Nat.lt_of_lt_of_le (hfl b hb) hC)
  · exact (hf b hb).2.2.2.2.1 y c (caps_lookup S I e)
  · rcases (hf b hb).2.2.2.1 with z | z
    · exact I.ok.noex b o e z
    · exact absurd (Nat.lt_of_lt_of_le (Heap.lt_size e) (Nat.le_trans I.ok.bsz z)) (Nat.lt_irrefl _)
  · rcases List.mem_cons.mp (I.stkSub b z) with e | e
    · exact (hf b hb).2.1 e
    · exact (hf b hb).2.2.1 e
  · by_cases hi : i < xs.length
    · exfalso
      rw [List.getElem?_append_left (by rw [List.length_replicate]; exact hi), List.getElem?_replicate, if_pos hi] at h2
      cases h2
    · obtain ⟨i, rfl⟩ : ∃ j, i = xs.length + j := ⟨i - xs.length, by omega⟩
      have h1 : R[i]? = some y := by
        have h1 : (xs ++ R)[xs.length + i]? = some y := h1
        rw [List.getElem?_append_right (by omega)] at h1
        simpa using h1
      have h2 : σ[i]? = some (some v) := by
        rw [List.getElem?_append_right (by rw [List.length_replicate]; omega)] at h2
        simpa using h2
      have hyR : y ∈ R := List.mem_of_getElem? h1
      have hf' : scope.names.lookup y = some .free ∧ ((relabel scope X.env).names.lookup y = some .cell ∨ (relabel scope X.env).names.lookup y = some .free) := by
        have h3 : (relabel scope X.env).names.lookup y = some .local ∨ (relabel scope X.env).names.lookup y = some .cell ∨ (relabel scope X.env).names.lookup y = some .free := h3
        rcases h3 with e | e | e
        · rcases lookup_relabel e with q | q
          · exfalso
            rcases S.locs _ (PySem.mem_of_lookup q) rfl with z | z
            · exact (List.nodup_append.mp S.nd).2.2 y z y hyR rfl
            · have z : y = (".0" : Str) := z
              rw [z] at hyR
              exact S.no0 hyR
          · exact absurd q.1 (by intro z; cases z)
        · exact ⟨hkn y _ e (.inl rfl), .inl e⟩
        · exact ⟨hkn y _ e (.inr rfl), .inr e⟩
      have hN := S.same i y h1 hf'.1
      have hk := S.free (y, .free) (PySem.mem_of_lookup hf'.1) rfl
      obtain ⟨mX, hnX, hl⟩ := I.loc
      have vis : Vis X.env.scope y := by
        rcases hk with z | z
        · exact .inr (.inl z)
        · exact .inr (.inr z)
      obtain ⟨u, r, l⟩ := hl i y v hN h2 vis
      refine ⟨u, r, .inr ⟨hf'.2, ?_⟩⟩
      rcases l with ⟨z, _⟩ | ⟨_, c, hc, o, ho, hod⟩
      · exfalso
        rcases hk with q | q
        · have q : X.env.kindOf y = some .cell := q
          rw [z] at q; cases q
        · have q : X.env.kindOf y = some .free := q
          rw [z] at q; cases q
      · obtain ⟨c', hc'⟩ := hasc y hf'.1
        have : c' = c := by
          have := caps_lookup S I hc'
          rw [hc] at this; exact (Option.some.inj this).symm
        subst this
        exact ⟨c', hc', o, k _ _ ho, hod⟩
  · obtain ⟨v, o, ho, hd⟩ := I.cell y c (caps_lookup S I e)
    exact ⟨v, o, k _ _ ho, hd⟩
  · show (List.replicate xs.length none ++ σ).length = (xs ++ R).length
    rw [List.length_append, List.length_append, List.length_replicate, I.len, S.len]
end

/-! ### the walk -/
def noErr (o : Out D) : Out D := match o with
  | .err _ _ => .bad
  | o => o
def compGo (t : Its) (gc : GT) (ge : GE) : List D → Rho → Mem → Out (List D)
  | [], ρ, M => if t.ok M then .ok [] M else .bad
  | d :: r, ρ, M => if t.ok M then
      match gc (some d :: ρ) M with
      | .ok true M1 => match ge (some d :: ρ) M1 with
        | .ok e M2 => (compGo t gc ge r ρ M2).bind fun es M3 => .ok (e :: es) M3
        | _ => .bad
      | .ok false M1 => compGo t gc ge r ρ M1
      | _ => .bad
    else .bad
/-- no test: always -/
def gAll : GT := fun _ M => .ok true M
/-- a target of its own: n names of the block's own -/
def compGoT (t : Its) (n : Nat) (sg : GG) (gc : GT) (ge : GE) : List D → Rho → Mem → Out (List D)
  | [], ρ, M => if t.ok M then .ok [] M else .bad
  | d :: r, ρ, M => if t.ok M then
      match sg d (List.replicate n none ++ ρ) with
      | none => .bad
      | some ρ1 => match gc ρ1 M with
        | .ok true M1 => match ge ρ1 M1 with
          | .ok e M2 => (compGoT t n sg gc ge r ρ M2).bind fun es M3 => .ok (e :: es) M3
          | _ => .bad
        | .ok false M1 => compGoT t n sg gc ge r ρ M1
        | _ => .bad
    else .bad
def gCompT (gi : GI) (n : Nat) (sg : GG) (gc : GT) (ge : GE) (mk : List D → Mem → Out D) : GE := fun ρ M => (gi ρ M).bind fun t M1 => (compGoT t n sg gc ge t.ds ρ M1).bind mk
theorem compGo_T (t : Its) (gc : GT) (ge : GE) : ∀ (ds : List D) (ρ : Rho) (M : Mem), compGo t gc ge ds ρ M = compGoT t 1 (oneN 0) gc ge ds ρ M
  | [], ρ, M => rfl
  | d :: r, ρ, M => by
    have ih := compGo_T t gc ge r
    unfold compGo compGoT
    show _ = (if t.ok M = true then (match gc (some d :: ρ) M with
        | .ok true M1 => match ge (some d :: ρ) M1 with
          | .ok e M2 => (compGoT t 1 (oneN 0) gc ge r ρ M2).bind fun es M3 => .ok (e :: es) M3
          | _ => .bad
        | .ok false M1 => compGoT t 1 (oneN 0) gc ge r ρ M1
        | _ => .bad) else .bad)
    simp only [ih]
/-- a target that gives the first n names alone -/
def OwnG (n : Nat) (sg : GG) : Prop := ∀ d ρ ρ', sg d ρ = some ρ' → ρ'.length = ρ.length ∧ ∀ i : Nat, n ≤ i → ρ'[i]? = ρ[i]?
theorem own_one {n i : Nat} (h : i < n) : OwnG n (oneN i) := fun d ρ ρ' e => by
  have e : some (ρ.set i (some d)) = some ρ' := e
  cases e
  exact ⟨by rw [List.length_set], fun j hj => by rw [List.getElem?_set_ne (by omega)]⟩
inductive OwnGs (n : Nat) : List GG → Prop
  | nil : OwnGs n []
  | cons {s : GG} {ss : List GG} : OwnG n s → OwnGs n ss → OwnGs n (s :: ss)
theorem OwnG.back {n : Nat} {sg : GG} {K : PySem.W.Frag} {θ : List Addr} {H : Hp} {τ : L2.St} {ρ ρ1 : Rho} {d : D} (o : OwnG n sg) (e : sg d (List.replicate n none ++ ρ) = some ρ1) (h : Den K θ H τ ρ1) : Den K θ H τ (List.replicate n none ++ ρ) := by
  obtain ⟨a, b⟩ := o _ _ _ e
  refine ⟨by rw [← a]; exact h.len, fun i d' q => ?_⟩
  by_cases hi : i < n
  · rw [List.getElem?_append_left (by rw [List.length_replicate]; exact hi), List.getElem?_replicate, if_pos hi] at q
    cases q
  · rw [← b i (by omega)] at q
    exact h.at_ i d' q
def gComp (gi : GI) (gc : GT) (ge : GE) (mk : List D → Mem → Out D) : GE := fun ρ M => (gi ρ M).bind fun t M1 => (compGo t gc ge t.ds ρ M1).bind mk

theorem compTurn_if (elt target iter : Expr) (ifs : List Expr) (scope : Scope) (pos : Pos) (it acc : Value) (env : Env) (cond : Sem Bool)
    (hc : (forIn (m := Sem) ifs true fun c r => if r = true then do let ok ← isTrue c env (eval c env); pure (ForInStep.yield ok) else pure (ForInStep.yield r)) = cond) :
    compTurn (.ListComp elt [⟨target, iter, ifs, 0⟩] scope pos) 0 it acc env = (standAt iter.pos >>= fun _ => pyNext it >>= fun r => match r with
      | none => pure (.done .next)
      | some v => letOwnedTupleGo target it v >>= fun _ => assign target env v >>= fun _ => cond >>= fun ok =>
        if ok = true then ((eval elt env >>= fun x => call (.builtin "list.append") [acc, x] >>= fun _ => pure ()) >>= fun _ =>
          again (.compLoop (.ListComp elt [⟨target, iter, ifs, 0⟩] scope pos) 0 it acc env)) else again (.compLoop (.ListComp elt [⟨target, iter, ifs, 0⟩] scope pos) 0 it acc env)) := by
  subst hc
  rfl
end DL

set_option Elab.async false
set_option linter.all false
set_option maxRecDepth 100000
set_option maxHeartbeats 4000000
/-! The data layer, fifth part: list comprehensions, the loop. -/
namespace DL
open PySem PySem.Spec PyProof.Rows L2

section
variable {prog : Program} {w : World} {A : Around} {R : Result → Shared → Prop} {s : Shared}
theorem codeAny_compLoop_any {elt target iter : Expr} {ifs : List Expr} {scope : Scope} {pos : Pos} {it acc : Value} {env : Env} {cond : Sem Bool}
    (hc : (forIn (m := Sem) ifs true fun c r => if r = true then do let ok ← isTrue c env (eval c env); pure (ForInStep.yield ok) else pure (ForInStep.yield r)) = cond) (I : Nat → Shared → Prop)
    (turn : ∀ n s, I n s → wpAny (model prog w) A (pyNext it) (fun r s₁ => match r with
      | none => R (.ok .next) s₁
      | some v => wpAny (model prog w) A (letOwnedTupleGo target it v) (fun _ s₂ => wpAny (model prog w) A (assign target env v) (fun _ s₃ => wpAny (model prog w) A cond (fun ok s₄ => if ok = true then
          wpAny (model prog w) A (eval elt env) (fun x s₅ => wpAny (model prog w) A (call (.builtin "list.append") [acc, x]) (fun _ s₆ => ∃ m, m < n ∧ I m s₆) (fun _ _ => False) s₅) (fun _ _ => False) s₄
          else ∃ m, m < n ∧ I m s₄) (fun _ _ => False) s₃) (fun _ _ => False) s₂) (fun _ _ => False) s₁) (fun _ _ => False) s)
    (n : Nat) (h : I n s) : codeAny (model prog w) A (.compLoop (.ListComp elt [⟨target, iter, ifs, 0⟩] scope pos) 0 it acc env) R s := by
  refine codeAny_loop rfl I (fun n s hI => ?_) n h
  show wpAny _ _ ((compTurn (.ListComp elt [⟨target, iter, ifs, 0⟩] scope pos) 0 it acc env).onRaise (fun x => do noteFrame x env; theTreesLotGoes x)) _ _ s
  refine wpAny_noted ?_
  rw [compTurn_if _ _ _ _ _ _ _ _ _ _ hc]
  refine wpAny_bind (wpAny_standAt (wpAny_bind (wpAny_mono (turn n s hI) (fun r s₁ h₁ => ?_) fun _ _ z => z.elim)))
  cases r with
  | none => exact wpAny_pure h₁
  | some v =>
    refine wpAny_bind (wpAny_mono h₁ (fun _ s₂ h₂ => ?_) fun _ _ z => z.elim)
    refine wpAny_bind (wpAny_mono h₂ (fun _ s₃ h₃ => ?_) fun _ _ z => z.elim)
    refine wpAny_bind (wpAny_mono h₃ (fun ok s₄ h₄ => ?_) fun _ _ z => z.elim)
    cases ok with
    | true =>
      rw [if_pos rfl] at h₄
      rw [if_pos rfl]
      exact wpAny_bind (wpAny_bind (wpAny_mono h₄ (fun x s₅ h₅ => wpAny_bind (wpAny_mono h₅ (fun _ s₆ h₆ => wpAny_pure (wpAny_pure ⟨rfl, h₆⟩)) fun _ _ z => z.elim)) fun _ _ z => z.elim))
    | false =>
      rw [if_neg Bool.false_ne_true] at h₄
      rw [if_neg Bool.false_ne_true]
      exact wpAny_pure ⟨rfl, h₄⟩
theorem tests_none {env : Env} : (forIn (m := Sem) ([] : List Expr) true fun c r => if r = true then do let ok ← isTrue c env (eval c env); pure (ForInStep.yield ok) else pure (ForInStep.yield r)) = pure true := rfl
theorem tests_one {env : Env} {c : Expr} : (forIn (m := Sem) [c] true fun c r => if r = true then do let ok ← isTrue c env (eval c env); pure (ForInStep.yield ok) else pure (ForInStep.yield r)) = isTrue c env (eval c env) := by
  rw [List.forIn_cons]
  simp
end

theorem ne_succ {b a c : Nat} (h : b < a) (e : c = a + 1) : b ≠ c := by omega
theorem ne_ltE {b a c : Nat} (h : b < c) (e : c = a) : a ≠ b := by omega
theorem ne_ltE' {b a c : Nat} (h : b < c) (e : c = a) : b ≠ a := by omega
abbrev lstObj (its : List Value) (n : Nat) : Obj := { cls := .type "list", data := .seq its.toArray n }
section
variable {X : Cx} {pins : List (Addr × Obj)} {σ : L2.St} {s : Shared} {scope : Scope} {xs : List Str} {tg : Expr} {sg : GG} {R : List Str} {elt iter : Expr} {ifs : List Expr} {pos : Pos} {E : Value → Shared → Prop}
theorem den_pre {K : PySem.W.Frag} {θ : List Addr} {H : Hp} {σ : L2.St} {ρ : Rho} {n : Nat} (h : Den K θ H σ ρ) : Den K θ H (List.replicate n none ++ σ) (List.replicate n none ++ ρ) := by
  refine ⟨by rw [List.length_append, List.length_append, List.length_replicate, List.length_replicate, h.len], fun i d e => ?_⟩
  by_cases hi : i < n
  · rw [List.getElem?_append_left (by rw [List.length_replicate]; exact hi), List.getElem?_replicate, if_pos hi] at e
    cases e
  · rw [List.getElem?_append_right (by rw [List.length_replicate]; omega), List.length_replicate] at e ⊢
    exact h.at_ _ d e
/-- the block: a new list, filled; fin: what is behind it -/
theorem comp_block {fp : List Addr} {it : Addr} {tn : Nat → Heap → Prop} {J : It} {H2 : Hp} {s2 : Shared} {t : Its} {M1 : Mem} {θ1 : List Addr} {ρ : Rho} {gc : GT} {ge : GE} {es : List D} {Mend : Mem} {RR : Value → Addr → Result → Shared → Prop}
    (S : CompScope scope X.env.kindOf xs R X.N) (hc : X.calm = true) (I2 : L2.Inv X pins σ H2 s2) (T : Turn X.prog X.w X.K tg J fp it tn) (st2 : tn 0 s2.heap) (f2 : ∀ b ∈ fp, FpOk X pins H2 b)
    (hw1 : Wr X.K θ1 H2 M1) (hd1 : Den X.K θ1 H2 σ ρ) (hJ : ItD X.K J θ1 H2 t) (hgo : compGoT t xs.length sg gc ge t.ds ρ M1 = .ok es Mend) (hlen : es.length ≤ sizeLine)
    (hcd : ∀ C, ∃ cond, (forIn (m := Sem) ifs true fun c r => if r = true then do let ok ← isTrue c (compCx X scope xs R fp s2 H2 C).env (eval c (compCx X scope xs R fp s2 H2 C).env); pure (ForInStep.yield ok) else pure (ForInStep.yield r)) = cond ∧
      ∀ (pins : List (Addr × Obj)) (s : Shared) (σ : L2.St) (H : Hp) (Q : Bool → Hp → Prop), L2.Inv (compCx X scope xs R fp s2 H2 C) pins σ H s → tT (compCx X scope xs R fp s2 H2 C) gc σ H Q → wpAny (model X.prog X.w) X.A cond (TP (compCx X scope xs R fp s2 H2 C) pins σ Q) (fun _ _ => False) s)
    (own : OwnG xs.length sg) (hg : ∀ C, PG (compCx X scope xs R fp s2 H2 C) tg (tG (compCx X scope xs R fp s2 H2 C) sg))
    (he : ∀ C, PE (compCx X scope xs R fp s2 H2 C) elt (tE (compCx X scope xs R fp s2 H2 C) ge))
    (fin : ∀ (acc C : Addr) (s' : Shared) (H' : Hp) (θ' : List Addr) (vs : List V) (m : Str → Option Value), L2.Inv X pins σ (upd H' acc (.lst vs)) s' → s'.heap.Ns C m → FpOk X pins (upd H' acc (.lst vs)) C → Go X.K θ1 H2 θ' H' Mend → H' acc = none → isDs X.K θ' H' es vs → RR (.ref acc) C (.ok .next) s') :
    wpAny (model X.prog X.w) X.A (newList []) (fun acc s₃ => wpAny (model X.prog X.w) X.A (newFunctionEnv scope X.env.globals (capsOf X.env.cells scope.names []) [] X.env.qual none .none (some X.env)) (fun cenv s₄ =>
      codeAny (model X.prog X.w) X.A (.compStart (.ListComp elt [⟨tg, iter, ifs, 0⟩] scope pos) 0 (.ref it) acc { cenv with scope := relabel scope X.env }) (RR acc cenv.locals) s₄) E s₃) E s2 := by
  refine wpAny_newObj_type (wpAny_newFunctionEnv S.nocell (by intro y hy; simp at hy) (fun h₁ hns₁ hsb₁ => ?_) S.kind)
  dsimp only at hns₁ hsb₁ ⊢
  generalize hHp : s2.heap.push { cls := .type "list", dict := none, data := .seq ([] : List Value).toArray } = Hp2 at hns₁ hsb₁ ⊢
  have hCe : Hp2.objs.size = s2.heap.objs.size + 1 := by rw [← hHp, Heap.size_push]
  generalize hCd : Hp2.objs.size = C at hns₁ hsb₁ hCe ⊢
  generalize hAd : s2.heap.objs.size = acc at hCe ⊢
  have hDC : acc ≠ C := by rw [hCe]; exact Nat.ne_of_lt (Nat.lt_succ_self _)
  have old : ∀ b o, s2.heap.get? b = some o → h₁.get? b = some o := fun b o e => by
    have hb : b < acc := by rw [← hAd]; exact Heap.lt_size e
    refine hsb₁.extBut b o (ne_succ hb hCe) (Heap.get?_push_of_some _ ?_)
    rw [← hHp]; exact Heap.get?_push_of_some _ e
  have hacc0 : h₁.get? acc = some (lstObj [] 0) := by
    refine hsb₁.extBut acc _ hDC (Heap.get?_push_of_some _ ?_)
    rw [← hHp, ← hAd]; exact Heap.get?_push_size _ rfl
  have hfl : ∀ b ∈ fp, b < s2.heap.objs.size := fun b hb => by
    obtain ⟨o, e, _⟩ := T.obj 0 _ st2 b hb
    exact Heap.lt_size e
  have hCs : s2.heap.objs.size ≤ C := by omega
  have IY0 : L2.Inv (compCx X scope xs R fp s2 H2 C) [] (List.replicate xs.length none ++ σ) H2 { s2 with heap := h₁, toks := s2.toks + ([] : List (Str × Value)).length } := comp_inv S I2 hCs old hns₁ f2 hfl
  obtain ⟨cond, hcond, hct⟩ := hcd C
  -- what is true of the iterator's objects within the block
  have fpY : ∀ {H' : Hp} {p : Obj}, (∀ b ∈ fp, H' b = none) → ∀ b ∈ fp, FpOk (compCx X scope xs R fp s2 H2 C) [(acc, p)] H' b := fun {H' p} hn b hb => by
    refine ⟨hn b hb, ?_, fun z => ?_, .inl hb, fun y c e => ?_, fun q hq => ?_⟩
    · exact Nat.ne_of_lt (Nat.lt_of_lt_of_le (hfl b hb) hCs)
    · rcases List.mem_cons.mp (I2.stkSub b z) with e | e
      · exact (f2 b hb).2.1 e
      · exact (f2 b hb).2.2.1 e
    · exact (f2 b hb).2.2.2.2.1 y c (caps_lookup S I2 e)
    · have hq : q ∈ ([] : List (Addr × Obj)) ++ [(acc, p)] := hq
      have e : q = (acc, p) := by simpa using hq
      rw [e]
      exact ne_ltE (hfl b hb) hAd
  have accF : ∀ b ∈ frs X.stack, acc ≠ b := fun b hb e => by
    have : acc ∉ X.env.locals :: X.fs := by
      intro z
      rcases List.mem_cons.mp z with z | z
      · exact ne_ltE I2.lt hAd z
      · exact I2.nofs (Nat.le_of_eq hAd) z
    exact this (e ▸ I2.stkSub b hb)
  have loop : ∀ s₃ : Shared, s₃ = { s2 with heap := h₁, toks := s2.toks + ([] : List (Str × Value)).length } →
      codeAny (model X.prog X.w) X.A (.compLoop (.ListComp elt [⟨tg, iter, ifs, 0⟩] scope pos) 0 (.ref it) (.ref acc) (compCx X scope xs R fp s2 H2 C).env) (RR (.ref acc) C) s₃ := by
    rintro s₃ rfl
    have pin0 : ∀ {σ' : L2.St} {H' : Hp} {s' : Shared} {its : List Value} {n : Nat}, L2.Inv (compCx X scope xs R fp s2 H2 C) [] σ' H' s' → s'.heap.get? acc = some (lstObj its n) → H' acc = none → L2.Inv (compCx X scope xs R fp s2 H2 C) [(acc, lstObj its n)] σ' H' s' := fun {σ' H' s' its n} I' e hn =>
      I'.pins_of fun p hp => by
        have ep : p = (acc, lstObj its n) := by simpa using hp
        subst ep
        exact ⟨e, hn, hDC, fun z => accF acc z rfl, fun v z => by cases z⟩
    refine codeAny_compLoop_any hcond (fun n s' => ∃ (i : Nat) (τ : L2.St) (H' : Hp) (θ' : List Addr) (M' : Mem) (ds rest : List D) (vs : List V) (its : List Value) (na : Nat), n = t.ds.length - i ∧ i ≤ t.ds.length ∧
      L2.Inv (compCx X scope xs R fp s2 H2 C) [(acc, lstObj its na)] τ H' s' ∧ Den X.K θ' H' τ (List.replicate xs.length none ++ ρ) ∧ tn i s'.heap ∧ (∀ b ∈ fp, H' b = none) ∧ Go X.K θ1 H2 θ' H' M' ∧ isDs X.K θ' H' ds vs ∧ Vals vs its ∧
      compGoT t xs.length sg gc ge (t.ds.drop i) ρ M' = .ok rest Mend ∧ ds ++ rest = es) ?_ t.ds.length
      ⟨0, _, H2, θ1, M1, [], es, [], [], 0, rfl, Nat.zero_le _, pin0 IY0 hacc0 (I2.hok.fresh (Nat.le_of_eq hAd)), den_pre hd1, T.keep 0 _ _ st2 (fun b hb o e => old b o e), fun b hb => (f2 b hb).1, .refl hw1, rfl, .nil, hgo, rfl⟩
    rintro n s' ⟨i, τ, H', θ', M', ds, rest, vs, its, na, rfl, hil, I', dn', st', fr', g', rd', rv', hrest, hes⟩
    have hok : t.ok M' = true := by
      cases hq : t.ok M' with
      | true => rfl
      | false =>
        exfalso
        cases hdr : t.ds.drop i with
        | nil => rw [hdr, compGoT, if_neg (by rw [hq]; exact Bool.false_ne_true)] at hrest; cases hrest
        | cons d r => rw [hdr, compGoT, if_neg (by rw [hq]; exact Bool.false_ne_true)] at hrest; cases hrest
    obtain ⟨hy, hst⟩ := hJ θ' H' M' g' hok i
    by_cases hlt : i < t.ds.length
    · have e1 : t.ds[i]? = some t.ds[i] := List.getElem?_eq_getElem hlt
      obtain ⟨hgo', hyl⟩ := hy _ e1
      rw [List.drop_eq_getElem_cons hlt, compGoT, if_pos hok] at hrest
      refine thn (T.item (compCx X scope xs R fp s2 H2 C) rfl rfl rfl hc i _ s' _ H' _ I' (fpY fr') st' hgo') fun r s4 ⟨u, hr, h4⟩ => ?_
      subst hr
      refine thn h4 fun _ s5 ⟨v, H5, I5, r5, y5, st5, fr5⟩ => ?_
      obtain ⟨gy, rx⟩ := hyl v H5 y5
      have I5' := I5.pinned (fpY fr5) (T.obj _ _ st5)
      cases qs : sg t.ds[i] (List.replicate xs.length none ++ ρ) with
      | none => rw [qs] at hrest; cases hrest
      | some ρ1 =>
      rw [qs] at hrest
      dsimp only at hrest
      refine thn (hg C _ s5 _ H5 v u (fun σ6 H6 => Den X.K θ' H6 σ6 ρ1 ∧ H6 = H5) I5' r5 ⟨_, θ', M', t.ds[i], dn'.go gy, gy.wr, rx, ρ1, qs, fun σ6 d6 => ⟨d6, rfl⟩⟩) fun _ s6 ⟨σ6, H6, I6, hdY, eH6⟩ => ?_
      subst eH6
      -- the test
      cases qc : gc ρ1 M' with
      | bad => rw [qc] at hrest; cases hrest
      | err c Mx => rw [qc] at hrest; cases hrest
      | ok b Mb =>
        refine thn (hct _ s6 _ H6 (fun b' H7 => b' = b ∧ ∃ θ7, Go X.K θ' H6 θ7 H7 Mb) I6 ⟨_, θ', M', hdY, gy.wr, ?_⟩) fun ok s7 ⟨H7, I7, eb, θ7, g7⟩ => ?_
        · rw [qc]; exact fun θ7 H7 g7 => ⟨rfl, θ7, g7⟩
        subst eb
        have fpk : ∀ {s8 : Shared} {σ8 : L2.St} {H8 : Hp}, L2.Inv (compCx X scope xs R fp s2 H2 C) ([(acc, lstObj its na)] ++ pinsAt fp s5.heap) σ8 H8 s8 → (∀ b ∈ fp, H8 b = none) ∧ (∀ b ∈ fp, ∀ o, s5.heap.get? b = some o → s8.heap.get? b = some o) ∧ s8.heap.get? acc = some (lstObj its na) ∧ H8 acc = none := fun {s8 σ8 H8} I8 => by
          have pa := I8.pin (acc, lstObj its na) (List.mem_append_right _ (List.mem_append_left _ (by simp)))
          refine ⟨fun b hb => ?_, fun b hb o e => (I8.pin (b, o) (List.mem_append_right _ (List.mem_append_right _ (mem_pinsAt hb e)))).1, pa.1, pa.2.1⟩
          obtain ⟨o, e, d⟩ := T.obj _ _ st5 b hb
          exact (I8.pin (b, o) (List.mem_append_right _ (List.mem_append_right _ (mem_pinsAt hb e)))).2.1
        cases ok with
        | false =>
          rw [if_neg Bool.false_ne_true]
          rw [qc] at hrest
          obtain ⟨k1, k2, k3, k4⟩ := fpk I7
          exact ⟨t.ds.length - (i + 1), by omega, i + 1, σ6, H7, θ7, Mb, ds, rest, vs, its, na, rfl, hlt, I7.unpinned, own.back qs (hdY.go g7), T.keep _ _ _ st5 k2, k1, g'.trans (gy.trans g7), rd'.go (gy.trans g7), rv', hrest, hes⟩
        | true =>
          rw [if_pos rfl]
          rw [qc] at hrest
          have hrest : (match ge ρ1 Mb with
            | .ok e M2 => (compGoT t xs.length sg gc ge (t.ds.drop (i + 1)) ρ M2).bind fun es M3 => .ok (e :: es) M3
            | _ => .bad) = Out.ok rest Mend := hrest
          cases qe : ge ρ1 Mb with
          | bad => rw [qe] at hrest; cases hrest
          | err c Mx => rw [qe] at hrest; cases hrest
          | ok dv Mv =>
            rw [qe] at hrest
            have hrest : ((compGoT t xs.length sg gc ge (t.ds.drop (i + 1)) ρ Mv).bind fun es M3 => Out.ok (dv :: es) M3) = Out.ok rest Mend := hrest
            refine thn (he C _ s7 _ H7 (fun w H8 => ∃ θ8, Go X.K θ7 H7 θ8 H8 Mv ∧ isD X.K θ8 H8 dv w) I7 ⟨_, θ7, Mb, hdY.go g7, g7.wr, ?_⟩) fun uv s8 ⟨w, H8, I8, rw8, θ8, g8, rd8⟩ => ?_
            · rw [qe]; exact fun w θ8 H8 g8 rd8 => ⟨θ8, g8, rd8⟩
            obtain ⟨k1, k2, k3, k4⟩ := fpk I8
            cases qr : compGoT t xs.length sg gc ge (t.ds.drop (i + 1)) ρ Mv with
            | bad => rw [qr] at hrest; cases hrest
            | err c Mx => rw [qr] at hrest; cases hrest
            | ok rest' Mr =>
              rw [qr] at hrest
              have hrest : Out.ok (dv :: rest') Mr = Out.ok rest Mend := hrest
              cases hrest
              have hsz : its.length < sizeLine := by
                have e2 : (ds ++ dv :: rest').length ≤ sizeLine := by rw [hes]; exact hlen
                rw [List.length_append, List.length_cons, isDs_length rd', rv'.length] at e2
                omega
              refine call_meets F.slot_list_append ⟨_, k3, rfl⟩ F.entry_list_append (F.args_list_append_2 _ _) (PySem.list_append acc its.toArray na uv (by rw [List.size_toArray]; omega)) ⟨k3, ?_⟩
              have qup := PySem.IsL.update k3 (fun a => a.push uv)
              have eup : (its.toArray.push uv) = (its ++ [uv]).toArray := by simp
              have keepb : ∀ b o, b ≠ acc → s8.heap.get? b = some o → (s8.heap.update acc (Obj.mapSeq fun a => a.push uv)).get? b = some o := fun b o hb e => (Heap.get?_update_other s8.heap _ (Ne.symm hb)).trans e
              have I9 : L2.Inv (compCx X scope xs R fp s2 H2 C) [] σ6 H8 { s8 with heap := s8.heap.update acc (Obj.mapSeq fun a => a.push uv), toks := s8.toks } := by
                refine Inv.turned (it := acc) (I8.pins_of (pins' := []) fun p hp => absurd hp (by simp)) keepb k4 hDC (.inr (Nat.le_of_eq hAd)) (fun y c e z => ?_) fun p hp => absurd (show p ∈ ([] : List (Addr × Obj)) from hp) (by simp)
                obtain ⟨v', o, ho, hdd⟩ := I2.cell y c (caps_lookup S I2 e)
                exact ne_ltE' (Heap.lt_size ho) hAd z
              obtain ⟨n', eq'⟩ : ∃ n', (s8.heap.update acc (Obj.mapSeq fun a => a.push uv)).get? acc = some (lstObj (its ++ [uv]) n') := by
                have q2 := qup
                rw [eup] at q2
                exact ⟨_, q2⟩
              exact ⟨t.ds.length - (i + 1), by omega, i + 1, σ6, H8, θ8, Mv, ds ++ [dv], rest', vs ++ [w], its ++ [uv], n', rfl, hlt, pin0 I9 eq' k4, own.back qs (hdY.go (g7.trans g8)), T.keep _ _ _ st5 (fun b hb o e => keepb b o (ne_ltE' (hfl b hb) hAd) (k2 b hb o e)), k1, g'.trans (gy.trans (g7.trans g8)), isDs_append (rd'.go (gy.trans (g7.trans g8))) ⟨w, [], rfl, rd8, rfl⟩, rv'.append (.cons rw8 .nil), qr, by rw [← hes]; simp⟩
    · have e : i = t.ds.length := by omega
      subst e
      rw [List.drop_length, compGoT, if_pos hok] at hrest
      cases hrest
      have hes : ds = es := by rw [← hes]; simp
      subst hes
      refine thn (T.done (compCx X scope xs R fp s2 H2 C) rfl rfl rfl hc _ _ s' _ H' _ I' (fpY fr') st' (hst (Nat.le_refl _))) fun r s4 ⟨hr, I4⟩ => ?_
      subst hr
      have pa := I4.pin (acc, lstObj its na) (List.mem_append_right _ (by simp))
      have e4 : s4.heap.get? acc = some (lstObj its na) := pa.1
      have n4 : H' acc = none := pa.2.1
      have lv : vs.length ≤ sizeLine := by rw [← isDs_length rd']; exact hlen
      obtain ⟨mC, hnC, _⟩ := I4.loc
      have hHC : H' C = none := I4.free
      have unb : Un (frs X.stack) fp H2 H' s2.heap s4.heap := I4.base
      have neA : ∀ {b : Addr} {o : Obj}, s2.heap.get? b = some o → b ≠ acc := fun {b o} e => ne_ltE' (Heap.lt_size e) hAd
      have neH : ∀ {b : Addr} {u : HO}, H' b = some u → b ≠ acc := fun {b u} e z => by rw [z, n4] at e; cases e
      have un4 : Un (frs X.stack) fp H2 (upd H' acc (.lst vs)) s2.heap s4.heap := by
        refine ⟨unb.keep, unb.slot, fun b o e n hx => ?_, unb.there, fun b xs e => ?_, fun b o u e => ?_, fun b ps e => ?_⟩
        · rw [upd_ne (neA e)]; exact unb.free b o e n hx
        · have z := unb.tups b xs e
          rw [upd_ne (neH z)]; exact z
        · have z := unb.frzs b o u e
          rw [upd_ne (neH z)]; exact z
        · obtain ⟨more, z⟩ := unb.tbls b ps e
          exact ⟨more, by rw [upd_ne (neH z)]; exact z⟩
      have hok4 : HOk X.prog X.w (upd H' acc (.lst vs)) s4.heap := fun b u e => by
        by_cases hb : b = acc
        · subst hb
          rw [upd_same] at e; cases e
          exact ⟨lv, its, na, rv', e4⟩
        · rw [upd_ne hb] at e
          exact (I4.hok b u e).stay (fun c v _ q => q) (fun c q => by rw [upd_ne (neH q)]; exact q) fun c xs q => by rw [upd_ne (neH q)]; exact q
      have IX : L2.Inv X pins σ (upd H' acc (.lst vs)) s4 := I2.call' (ch := fp) I4.os un4 hok4 I4.bare fun b hb => ⟨(f2 b hb).2.2.2.1, (f2 b hb).2.1, (f2 b hb).2.2.2.2.1, (f2 b hb).2.2.2.2.2⟩
      refine fin acc C s4 H' θ' vs mC IX hnC (I2.fpOk hCs ?_) g' n4 rd'
      rw [upd_ne (Ne.symm hDC)]; exact hHC
  exact codeAny_compStart_list (loop _ rfl) (T.self _ 0 _ _ _ (T.keep 0 _ _ st2 fun b hb o e => old b o e) (loop _ rfl))
end
end DL

set_option Elab.async false
set_option linter.all false
set_option maxRecDepth 100000
set_option maxHeartbeats 4000000
/-! The data layer, sixth part: comprehensions as expressions and as values of a name; all, isinstance; methods of lists; what a def leaves behind. -/
namespace DL
open PySem PySem.Spec PyProof.Rows L2

section
variable {X : Cx} {scope : Scope} {xs : List Str} {tg : Expr} {sg : GG} {x : Str} {px : Pos} {R : List Str} {elt iter : Expr} {ifs : List Expr} {pos : Pos} {gi : GI} {gc : GT} {ge : GE}
/-- what a list that a comprehension makes is: it stays, or it may change -/
def MkOk (mk : List D → Mem → Out D) : Prop := ∀ (X : Cx) (θ : List Addr) (H : Hp) (Q : VK) (ds : List D) (M : Mem) (vs : List V), FinE X θ H Q (mk ds M) → Wr X.K θ H M → isDs X.K θ H ds vs → vs.length ≤ sizeLine ∧ ∀ p, H p = none → Q (.ref p) (upd H p (.lst vs))
theorem mkLst_ok : MkOk mkLst := fun X θ H Q ds M vs h hw r => FinE.lst h hw r
theorem mkMut_ok : MkOk mkMut := fun X θ H Q ds M vs h hw r => FinE.mut h hw r
theorem mk_len {mk : List D → Mem → Out D} (hm : mk = mkLst ∨ mk = mkMut) {X : Cx} {θ : List Addr} {H : Hp} {Q : VK} {ds : List D} {M : Mem} (h : FinE X θ H Q (mk ds M)) : ds.length ≤ sizeLine := by
  rcases hm with e | e <;> subst e
  · unfold mkLst at h
    split at h
    · assumption
    · exact h.elim
  · unfold mkMut at h
    split at h
    · assumption
    · exact h.elim
theorem mk_ok {mk : List D → Mem → Out D} (hm : mk = mkLst ∨ mk = mkMut) : MkOk mk := by
  rcases hm with e | e <;> subst e
  · exact mkLst_ok
  · exact mkMut_ok
/-- how the tests of a comprehension are read -/
def TestsOk (X : Cx) (scope : Scope) (xs : List Str) (R : List Str) (ifs : List Expr) (gc : GT) : Prop := ∀ fp s2 H2 C, ∃ cond, (forIn (m := Sem) ifs true fun c r => if r = true then do let ok ← isTrue c (compCx X scope xs R fp s2 H2 C).env (eval c (compCx X scope xs R fp s2 H2 C).env); pure (ForInStep.yield ok) else pure (ForInStep.yield r)) = cond ∧
      ∀ (pins : List (Addr × Obj)) (s : Shared) (σ : L2.St) (H : Hp) (Q : Bool → Hp → Prop), L2.Inv (compCx X scope xs R fp s2 H2 C) pins σ H s → tT (compCx X scope xs R fp s2 H2 C) gc σ H Q → wpAny (model X.prog X.w) X.A cond (TP (compCx X scope xs R fp s2 H2 C) pins σ Q) (fun _ _ => False) s
theorem no_tests : TestsOk X scope xs R [] gAll := fun fp s2 H2 C => ⟨_, tests_none, fun pins s σ H Q I ⟨ρ, θ, M, hd, hw, h⟩ => wpAny_pure ⟨H, I, h θ H (.refl hw)⟩⟩
theorem one_test {c : Expr} (h : ∀ fp s2 H2 C, PT (compCx X scope xs R fp s2 H2 C) c (tT (compCx X scope xs R fp s2 H2 C) gc)) : TestsOk X scope xs R [c] gc := fun fp s2 H2 C => ⟨_, tests_one, fun pins s σ H Q I q => h fp s2 H2 C pins s σ H Q I q⟩
theorem comp_noerr {t : Its} {n : Nat} {sg : GG} {gc : GT} {ge : GE} {ρ : Rho} {c : Str} {M' : Mem} : ∀ (ds : List D) (M : Mem), compGoT t n sg gc ge ds ρ M = .err c M' → False
  | [], M, h => by
    unfold compGoT at h
    split at h <;> cases h
  | d :: r, M, h => by
    unfold compGoT at h
    split at h
    · split at h
      · cases h
      · split at h
        · rename_i M1 q1
          split at h
          · rename_i e M2 q2
            cases q : compGoT t n sg gc ge r ρ M2 with
            | ok es M3 => rw [q] at h; cases h
            | err c2 M3 => exact comp_noerr r M2 q
            | bad => rw [q] at h; cases h
          · cases h
        · rename_i M1 q1
          exact comp_noerr r M1 h
        · cases h
    · cases h
theorem de_compT {mk : List D → Mem → Out D} (hS : compChk scope X.env.kindOf xs R X.N = true) (hc : X.calm = true) (hm : mk = mkLst ∨ mk = mkMut) (hi : PI X tg iter (tI X gi)) (own : OwnG xs.length sg) (hg : ∀ fp s H C, PG (compCx X scope xs R fp s H C) tg (tG (compCx X scope xs R fp s H C) sg)) (hts : TestsOk X scope xs R ifs gc)
    (he : ∀ fp s H C, PE (compCx X scope xs R fp s H C) elt (tE (compCx X scope xs R fp s H C) ge))
    (hs : ∀ x, foldedSetIterable iter X.env x = pure x := by intro _; rfl) : PE X (.ListComp elt [⟨tg, iter, ifs, 0⟩] scope pos) (tE X (gCompT gi xs.length sg gc ge mk)) := by
  have S := CompScope.of hS
  intro pins s σ H Q I h
  obtain ⟨ρ, θ, M, hd, hw, h⟩ := h
  rw [eval_ListComp]
  refine wpAny_comprehension_free (use := none) rfl hs (closure_caps (S.cells I)) S.kind S.lnames ?_
  refine thn (hi pins s σ H (fun J H2 => ∃ t M1 θ1, gi ρ M = .ok t M1 ∧ Go X.K θ H θ1 H2 M1 ∧ ItD X.K J θ1 H2 t) I ⟨ρ, θ, M, hd, hw, ?_⟩) fun v s1 h1 => thn h1 fun itv s2 h2 => ?_
  · cases q : gi ρ M with
    | ok t M1 => exact fun J θ1 H1 g1 hJ => ⟨t, M1, θ1, rfl, g1, hJ⟩
    | err c M1 => unfold gCompT at h; rw [q] at h; exact h
    | bad => unfold gCompT at h; rw [q] at h; exact h
  obtain ⟨it, fp, tn, J, H2, rfl, I2, T, st2, f2, t, M1, θ1, eg, g1, hJ⟩ := h2
  unfold gCompT at h
  rw [eg] at h
  have h : FinE X θ H Q ((compGoT t xs.length sg gc ge t.ds ρ M1).bind mk) := h
  cases q : compGoT t xs.length sg gc ge t.ds ρ M1 with
  | bad => rw [q] at h; exact h.elim
  | err c Mx => exact (comp_noerr _ _ q).elim
  | ok es Mend =>
    rw [q] at h
    have h : FinE X θ H Q (mk es Mend) := h
    refine comp_block (RR := fun acc C => compPost (model X.prog X.w) X.A X.xe none (EP X pins σ Q) acc C) S hc I2 T st2 f2 g1.wr (hd.go g1) hJ q (mk_len hm h) (fun C => hts fp s2 H2 C) own (fun C => hg fp s2 H2 C) (fun C => he fp s2 H2 C) ?_
    intro acc C s' H' θ' vs m IX hnC fC g' na rd
    refine ⟨m, hnC, fun h' sb => ?_⟩
    have I3 : L2.Inv X pins σ (upd H' acc (.lst vs)) { s' with heap := h', toks := s'.toks } := IX.turned (it := C) (fun b o hb e => (sb.2 b hb).trans e) fC.1 fC.2.1 fC.2.2.2.1 fC.2.2.2.2.1 fC.2.2.2.2.2
    exact ⟨.ref acc, _, I3, rfl, (mk_ok hm X θ' H' Q es Mend vs (FinE.go (g1.trans g') h) g'.wr rd).2 acc na⟩
/-- y = [.. for x in ..], where the store comes ahead of the block's end -/
theorem ds_setCompT {mk : List D → Mem → Out D} {j : Nat} {y : Str} {py spos : Pos} (hS : compChk scope X.env.kindOf xs R X.N = true) (hc : X.calm = true) (hm : mk = mkLst ∨ mk = mkMut) (hi : PI X tg iter (tI X gi)) (own : OwnG xs.length sg) (hg : ∀ fp s H C, PG (compCx X scope xs R fp s H C) tg (tG (compCx X scope xs R fp s H C) sg)) (hts : TestsOk X scope xs R ifs gc)
    (he : ∀ fp s H C, PE (compCx X scope xs R fp s H C) elt (tE (compCx X scope xs R fp s H C) ge))
    (hN : X.N.Nodup) (hj : X.N[j]? = some y) (hy : X.env.scope.names.lookup y = some .local)
    (hsw : swapsWith (.ListComp elt [⟨tg, iter, ifs, 0⟩] scope pos) (some (.Name y py)) spos.line X.env = pure true)
    (hs : ∀ x, foldedSetIterable iter X.env x = pure x := by intro _; rfl) : PS X (.Assign [.Name y py] (.ListComp elt [⟨tg, iter, ifs, 0⟩] scope pos) spos) (tS X (sSet j (gCompT gi xs.length sg gc ge mk))) := by
  have S := CompScope.of hS
  intro pins s σ H Q I h
  obtain ⟨ρ, θ, M, hd, hw, h⟩ := h
  rw [exec_Assign_Name_used _ _ _ _ hsw]
  refine wpAny_bind (wpAny_standAt (wpAny_bind ?_))
  show wpAny _ X.A (do let _ ← comprehension (.ListComp elt [⟨tg, iter, ifs, 0⟩] scope pos) scope X.env _ (newList []) false (eval iter X.env) (some (assign (.Name y py) X.env))) _ _ s
  refine wpAny_bind (wpAny_mono (wpAny_comprehension_free (use := some (assign (.Name y py) X.env)) (Q := fun _ s' => SP X pins Q .next s') rfl hs (closure_caps (S.cells I)) S.kind S.lnames ?_) (fun _ s' hq => wpAny_pure (wpAny_pure hq)) fun _ _ e => e)
  refine thn (hi pins s σ H (fun J H2 => ∃ t M1 θ1, gi ρ M = .ok t M1 ∧ Go X.K θ H θ1 H2 M1 ∧ ItD X.K J θ1 H2 t) I ⟨ρ, θ, M, hd, hw, ?_⟩) fun v s1 h1 => thn h1 fun itv s2 h2 => ?_
  · cases q : gi ρ M with
    | ok t M1 => exact fun J θ1 H1 g1 hJ => ⟨t, M1, θ1, rfl, g1, hJ⟩
    | err c M1 => unfold sSet gCompT at h; rw [q] at h; exact h
    | bad => unfold sSet gCompT at h; rw [q] at h; exact h
  obtain ⟨it, fp, tn, J, H2, rfl, I2, T, st2, f2, t, M1, θ1, eg, g1, hJ⟩ := h2
  unfold sSet gCompT at h
  rw [eg] at h
  have h : FinS X θ H Q (((compGoT t xs.length sg gc ge t.ds ρ M1).bind mk).bind fun d M2 => .ok (.nx (ρ.set j (some d))) M2) := h
  cases q : compGoT t xs.length sg gc ge t.ds ρ M1 with
  | bad => rw [q] at h; exact h.elim
  | err c Mx => exact (comp_noerr _ _ q).elim
  | ok es Mend =>
    rw [q] at h
    have h : FinS X θ H Q ((mk es Mend).bind fun d M2 => .ok (.nx (ρ.set j (some d))) M2) := h
    -- the same as a wish about the value
    have hE : FinE X θ H (fun v H' => ∃ θ' M', Go X.K θ H θ' H' M' ∧ ∃ d, mk es Mend = .ok d M' ∧ isD X.K θ' H' d v) (mk es Mend) := by
      cases qm : mk es Mend with
      | ok d M2 => exact fun v θ' H' g' r => ⟨θ', M2, g', d, rfl, r⟩
      | err c M2 => rw [qm] at h; exact h
      | bad => rw [qm] at h; exact h
    refine comp_block (RR := fun acc C => compPost (model X.prog X.w) X.A X.xe (some (assign (.Name y py) X.env)) (fun _ s' => SP X pins Q .next s') acc C) S hc I2 T st2 f2 g1.wr (hd.go g1) hJ q (mk_len hm hE) (fun C => hts fp s2 H2 C) own (fun C => hg fp s2 H2 C) (fun C => he fp s2 H2 C) ?_
    intro acc C s' H' θ' vs m IX hnC fC g' na rd
    obtain ⟨θe, Me, ge', d, ed, rde⟩ := (mk_ok hm X θ' H' _ es Mend vs (FinE.go (g1.trans g') hE) g'.wr rd).2 acc na
    show wpAny _ X.A (assign (.Name y py) X.env (.ref acc)) _ _ s'
    refine wpAny_assign_Name (store_ok2 IX hN hj (.inl hy) (v := .ref acc) rfl (fun s3 I3 ⟨a, sa, ha⟩ => ?_) (.inr hy))
    have hCa : C ≠ a := by
      rcases ha with e | e
      · rw [e]; exact fC.2.1
      · exact fun z => fC.2.2.2.2.1 y a e z.symm
    refine ⟨m, hnC.sameBut sa hCa, fun h' sb => ?_⟩
    have I4 : L2.Inv X pins (σ.set j (some (.ref acc))) (upd H' acc (.lst vs)) { s3 with heap := h', toks := s3.toks } := I3.turned (it := C) (fun b o hb e => (sb.2 b hb).trans e) fC.1 fC.2.1 fC.2.2.2.1 fC.2.2.2.2.1 fC.2.2.2.2.2
    rw [ed] at h
    exact ⟨_, _, I4, h _ θe _ ge' ((hd.go ge').set rde j)⟩
theorem name_pg {px : Pos} (hS : compChk scope X.env.kindOf [x] R X.N = true) (fp : List Addr) (s : Shared) (H : Hp) (C : Addr) : PG (compCx X scope [x] R fp s H C) (.Name x px) (tG (compCx X scope [x] R fp s H C) (oneN 0)) :=
  have S := CompScope.of hS
  dg_name (X := compCx X scope [x] R fp s H C) S.nd rfl (.inl (lookup_relabel_local (S.own x (by simp)))) (.inr (lookup_relabel_local (S.own x (by simp))))
theorem gComp_T (mk : List D → Mem → Out D) : gComp gi gc ge mk = gCompT gi 1 (oneN 0) gc ge mk := by
  funext ρ M
  unfold gComp gCompT
  simp only [compGo_T]
theorem de_comp {mk : List D → Mem → Out D} (hS : compChk scope X.env.kindOf [x] R X.N = true) (hc : X.calm = true) (hm : mk = mkLst ∨ mk = mkMut) (hi : PI X (.Name x px) iter (tI X gi)) (hts : TestsOk X scope [x] R ifs gc)
    (he : ∀ fp s H C, PE (compCx X scope [x] R fp s H C) elt (tE (compCx X scope [x] R fp s H C) ge))
    (hs : ∀ x, foldedSetIterable iter X.env x = pure x := by intro _; rfl) : PE X (.ListComp elt [⟨.Name x px, iter, ifs, 0⟩] scope pos) (tE X (gComp gi gc ge mk)) := by
  rw [gComp_T]
  exact de_compT (xs := [x]) hS hc hm hi (own_one (Nat.zero_lt_one)) (name_pg hS) hts he hs
theorem ds_setComp {mk : List D → Mem → Out D} {j : Nat} {y : Str} {py spos : Pos} (hS : compChk scope X.env.kindOf [x] R X.N = true) (hc : X.calm = true) (hm : mk = mkLst ∨ mk = mkMut) (hi : PI X (.Name x px) iter (tI X gi)) (hts : TestsOk X scope [x] R ifs gc)
    (he : ∀ fp s H C, PE (compCx X scope [x] R fp s H C) elt (tE (compCx X scope [x] R fp s H C) ge))
    (hN : X.N.Nodup) (hj : X.N[j]? = some y) (hy : X.env.scope.names.lookup y = some .local)
    (hsw : swapsWith (.ListComp elt [⟨.Name x px, iter, ifs, 0⟩] scope pos) (some (.Name y py)) spos.line X.env = pure true)
    (hs : ∀ x, foldedSetIterable iter X.env x = pure x := by intro _; rfl) : PS X (.Assign [.Name y py] (.ListComp elt [⟨.Name x px, iter, ifs, 0⟩] scope pos) spos) (tS X (sSet j (gComp gi gc ge mk))) := by
  rw [gComp_T]
  exact ds_setCompT (xs := [x]) hS hc hm hi (own_one (Nat.zero_lt_one)) (name_pg hS) hts he hN hj hy hsw hs
end

/-! ### all -/
def boolsOf : List D → Option (List Bool)
  | [] => some []
  | .bl b :: r => (boolsOf r).map (b :: ·)
  | _ => none
def allF : FD := fun ds M => match ds with
  | [d] => match itemsOf d M with
    | some xs => match boolsOf xs with
      | some bs => .ok (.bl (bs.all id)) M
      | none => .bad
    | none => .bad
  | _ => .bad
def anyF : FD := fun ds M => match ds with
  | [d] => match itemsOf d M with
    | some xs => match boolsOf xs with
      | some bs => .ok (.bl (bs.any id)) M
      | none => .bad
    | none => .bad
  | _ => .bad
theorem bools_vals {K : PySem.W.Frag} {θ : List Addr} {H : Hp} : ∀ {ds : List D} {vs : List V} {us : List Value} {bs : List Bool}, isDs K θ H ds vs → Vals vs us → boolsOf ds = some bs → us = bs.map Value.bool
  | [], vs, us, bs, r, q, e => by
    have e1 : vs = [] := r
    subst e1; cases q; cases e; rfl
  | d :: ds, vs, us, bs, r, q, e => by
    obtain ⟨v, rr, e1, h1, h2⟩ := r
    subst e1
    cases d with
    | bl b =>
      cases qb : boolsOf ds with
      | none => simp [boolsOf, qb] at e
      | some bs' =>
        simp [boolsOf, qb] at e
        subst e
        have e2 : v = .bl b := h1
        subst e2
        cases q with
        | cons q1 q2 =>
          cases q1
          rw [List.map_cons, bools_vals h2 q2 qb]
    | _ => simp [boolsOf] at e
theorem range_all (bs : List Bool) : (List.range bs.length).all (fun i => bs.getD i false) = bs.all id := by
  rw [Bool.eq_iff_iff]
  simp only [List.all_eq_true, List.mem_range, id]
  constructor
  · intro h b hb
    obtain ⟨i, hi, e⟩ := List.mem_iff_getElem.mp hb
    have := h i hi
    rw [List.getD_eq_getElem?_getD, List.getElem?_eq_getElem hi] at this
    rw [← e]; exact this
  · intro h i hi
    rw [List.getD_eq_getElem?_getD, List.getElem?_eq_getElem hi]
    exact h _ (List.getElem_mem hi)
theorem range_any (bs : List Bool) : (List.range bs.length).any (fun i => bs.getD i false) = bs.any id := by
  rw [Bool.eq_iff_iff]
  simp only [List.any_eq_true, List.mem_range, id]
  constructor
  · rintro ⟨i, hi, h⟩
    rw [List.getD_eq_getElem?_getD, List.getElem?_eq_getElem hi] at h
    exact ⟨_, List.getElem_mem hi, h⟩
  · rintro ⟨b, hb, h⟩
    obtain ⟨i, hi, e⟩ := List.mem_iff_getElem.mp hb
    refine ⟨i, hi, ?_⟩
    rw [List.getD_eq_getElem?_getD, List.getElem?_eq_getElem hi]
    rw [← e] at h; exact h
section
variable {X : Cx}
theorem truth_bools {prog : Program} {w : World} {A : Around} (bs : List Bool) : TruthOf prog w A (fun i v => ((bs.map Value.bool).toArray)[i]? = some v) (fun i => bs.getD i false) := fun i v s Q E hP hQ => by
  have hP : (bs.map Value.bool)[i]? = some v := by simpa using hP
  rw [List.getElem?_map] at hP
  cases q : bs[i]? with
  | none => rw [q] at hP; cases hP
  | some b =>
    rw [q] at hP
    cases hP
    have e : bs.getD i false = b := by rw [List.getD_eq_getElem?_getD, q]; rfl
    dsimp only at hQ
    rw [e] at hQ
    exact wpAny_truthy_bool hQ
theorem walk_bools {pins : List (Addr × Obj)} {σ : L2.St} {H : Hp} {s : Shared} {d : D} {θ : List Addr} {M : Mem} {xs : List D} {bs : List Bool} {v : V} {u : Value} (hc : X.calm = true) (I : L2.Inv X pins σ H s) (hw : Wr X.K θ H M) (rv : isD X.K θ H d v) (ru : RelV v u) (q : itemsOf d M = some xs) (qb : boolsOf xs = some bs) {Q : Bool → Hp → Prop} {f : (Nat → Bool) → Nat → Bool} {E : Value → Shared → Prop}
    (h : ∀ h' tk, L2.Inv X pins σ H { s with heap := h', toks := tk } → Q (f (fun i => bs.getD i false) bs.length) H) :
    wpAny (model X.prog X.w) X.A.in1 (pyIter u) (fun it s₂ => ∃ I fp wr n P St tr, it = .ref I ∧ Walks X.prog X.w X.A.in1 I fp wr n P St ∧ St 0 s₂.heap ∧ TruthOf X.prog X.w X.A.in1 P tr ∧
      ∀ h' tk, (∀ b o, b ∉ wr → s₂.heap.get? b = some o → h'.get? b = some o) → EP X pins σ (fun v H => ∃ b, v = .bl b ∧ Q b H) (.bool (f tr n)) { s₂ with heap := h', toks := tk }) E s := by
  have hh : X.A.in1.handled = none := I.ok.hd hc
  obtain ⟨a, vs, ea, sq, ra⟩ := seq_of hw rv q
  subst ea; cases ru
  rcases sq with sq | sq
  · obtain ⟨its, r1, p, hz⟩ := I.list sq
    have e := bools_vals ra r1 qb
    subst e
    have hlt : a < s.heap.objs.size := by obtain ⟨o, n, e, _⟩ := p; exact Heap.lt_size e
    refine wpAny_pyIter_list p.isList ⟨s.heap.objs.size, _, _, _, _, _, _, rfl, Walks.list hh s.heap.objs.size a (Nat.ne_of_lt hlt) _, ⟨⟨_, Heap.get?_push_size _ rfl, rfl, rfl⟩, p.isList.push _⟩, truth_bools bs, fun h' tk k => ?_⟩
    have I' : L2.Inv X pins σ H { s with heap := h', toks := tk } := I.kept fun b o e => k b o (by have := Heap.lt_size e; simp; exact Nat.ne_of_lt this) (Heap.get?_push_of_some _ e)
    refine ⟨.bl _, H, I', rfl, _, rfl, ?_⟩
    have := h h' tk I'
    simpa using this
  · obtain ⟨its, r1, p, hz⟩ := I.tuple sq
    have e := bools_vals ra r1 qb
    subst e
    have hlt : a < s.heap.objs.size := by obtain ⟨o, e, _⟩ := p; exact Heap.lt_size e
    have pt : s.heap.IsTuple a (bs.map Value.bool).toArray := p
    refine wpAny_pyIter_tuple pt ⟨s.heap.objs.size, _, _, _, _, _, _, rfl, Walks.tuple hh s.heap.objs.size a (Nat.ne_of_lt hlt) _, ⟨⟨_, Heap.get?_push_size _ rfl, rfl, rfl⟩, ?_⟩, truth_bools bs, fun h' tk k => ?_⟩
    · obtain ⟨o, e, r⟩ := p
      exact ⟨o, Heap.get?_push_of_some _ e, r⟩
    have I' : L2.Inv X pins σ H { s with heap := h', toks := tk } := I.kept fun b o e => k b o (by have := Heap.lt_size e; simp; exact Nat.ne_of_lt this) (Heap.get?_push_of_some _ e)
    refine ⟨.bl _, H, I', rfl, _, rfl, ?_⟩
    have := h h' tk I'
    simpa using this
theorem cd_all (hc : X.calm = true) : CallR X (.builtin "all") (rC X allF) := by
  intro pins s σ H xs us Q I r h
  obtain ⟨θ, M, ds, hw, rd, h⟩ := h
  unfold allF at h
  split at h
  · rename_i d
    obtain ⟨v, e, rv⟩ := one_of rd
    subst e
    obtain ⟨u, rfl, ru⟩ := vals1 r
    split at h
    · rename_i ys q
      split at h
      · rename_i bs qb
        refine thn (call_all_walk (walk_bools hc I hw rv ru q qb (Q := fun b H => Q (.bl b) H) (f := fun tr n => (List.range n).all tr) (fun h' tk I' => ?_))) fun u' s' ⟨v', H', I', r', b, eb, q'⟩ => ⟨v', H', I', r', by rw [eb]; exact q'⟩
        rw [range_all]
        exact h _ θ H (.refl hw) rfl
      · exact h.elim
    · exact h.elim
  · exact h.elim
theorem cd_any (hc : X.calm = true) : CallR X (.builtin "any") (rC X anyF) := by
  intro pins s σ H xs us Q I r h
  obtain ⟨θ, M, ds, hw, rd, h⟩ := h
  unfold anyF at h
  split at h
  · rename_i d
    obtain ⟨v, e, rv⟩ := one_of rd
    subst e
    obtain ⟨u, rfl, ru⟩ := vals1 r
    split at h
    · rename_i ys q
      split at h
      · rename_i bs qb
        refine thn (call_any_walk (walk_bools hc I hw rv ru q qb (Q := fun b H => Q (.bl b) H) (f := fun tr n => (List.range n).any tr) (fun h' tk I' => ?_))) fun u' s' ⟨v', H', I', r', b, eb, q'⟩ => ⟨v', H', I', r', by rw [eb]; exact q'⟩
        rw [range_any]
        exact h _ θ H (.refl hw) rfl
      · exact h.elim
    · exact h.elim
  · exact h.elim

/-! ### isinstance of a type of Python's own -/
def tyD : D → Option String
  | .non => some "NoneType"
  | .bl _ => some "bool"
  | .int _ => some "int"
  | .str _ => some "str"
  | .tup _ => some "tuple"
  | .lst _ => some "list"
  | .ro _ => some "list"
  | _ => none
def tyM (d : D) (M : Mem) : Option String := match d with
  | .mr k => match M[k]? with
    | some (.lst _) => some "list"
    | _ => none
  | d => tyD d
def subT (t T : String) : Bool := t == T || (t == "bool" && T == "int")
def gIsi (T : String) (g : GE) : GE := fun ρ M => (g ρ M).bind fun d M1 => match tyM d M1 with
  | some t => .ok (.bl (subT t T)) M1
  | none => .bad
def PlainTy (T : String) : Prop := T = "int" ∨ T = "bool" ∨ T = "str" ∨ T = "tuple" ∨ T = "list"
theorem kit_plain (K : PySem.W.Frag) {T : String} (hT : PlainTy T) : ∀ t ∈ ["NoneType", "bool", "int", "str", "tuple", "list"], PySem.W.kitOne K (.type t) (.type T) = some (subT t T) := by
  intro t ht
  simp only [List.mem_cons, List.mem_nil_iff, or_false] at ht
  rcases hT with rfl | rfl | rfl | rfl | rfl <;> rcases ht with rfl | rfl | rfl | rfl | rfl | rfl <;> rfl
theorem cd_isi {T : String} (hT : PlainTy T) : CallR X (.builtin "isinstance") (fun xs H Q => ∃ θ M d v, Wr X.K θ H M ∧ isD X.K θ H d v ∧ xs = [v, .ty T] ∧ FinE X θ H Q (match tyM d M with | some t => .ok (.bl (subT t T)) M | none => .bad)) := by
  intro pins s σ H xs us Q I r h
  obtain ⟨θ, M, d, v, hw, rv, e, h⟩ := h
  subst e
  obtain ⟨u, c, rfl, ru, rc⟩ := vals2 r
  cases rc
  have fin : ∀ t tk, tyM d M = some t → EP X pins σ Q (.bool (subT t T)) { s with toks := tk } := fun t tk e => by
    rw [e] at h
    exact ⟨.bl _, H, I.tok _, rfl, h _ θ H (.refl hw) rfl⟩
  cases d with
  | non => have e : v = .non := rv; subst e; cases ru; exact PySem.W.kia_one PySem.W.kitx_none I.kIn True.intro (kit_plain X.K hT "NoneType" (by simp)) (fun z => nomatch z) fun tk => fin _ tk rfl
  | bl b => have e : v = .bl b := rv; subst e; cases ru; exact PySem.W.kia_one PySem.W.kitx_bool I.kIn True.intro (kit_plain X.K hT "bool" (by simp)) (fun z => nomatch z) fun tk => fin _ tk rfl
  | int i => have e : v = .int i := rv; subst e; obtain ⟨t, rfl⟩ := ru; exact PySem.W.kia_one PySem.W.kitx_int I.kIn True.intro (kit_plain X.K hT "int" (by simp)) (fun z => nomatch z) fun tk => fin _ tk rfl
  | str i => have e : v = .str i := rv; subst e; obtain ⟨t, rfl⟩ := ru; exact PySem.W.kia_one PySem.W.kitx_str I.kIn True.intro (kit_plain X.K hT "str" (by simp)) (fun z => nomatch z) fun tk => fin _ tk rfl
  | tup ds =>
    obtain ⟨a, vs, e, ta, ra⟩ := rv; subst e; cases ru
    obtain ⟨its, _, ⟨o, h1, h2, _⟩, _⟩ := I.tuple ta.sq
    exact PySem.W.kia_one PySem.W.kitx_tuple I.kIn ⟨o, h1, h2⟩ (kit_plain X.K hT "tuple" (by simp)) (fun z => nomatch z) fun tk => fin _ tk rfl
  | lst ds =>
    obtain ⟨a, vs, e, ta, ra⟩ := rv; subst e; cases ru
    obtain ⟨its, _, ⟨o, n, h1, h2, _⟩, _⟩ := I.list (ta.sq (K := X.K))
    exact PySem.W.kia_one PySem.W.kitx_list I.kIn ⟨o, h1, h2⟩ (kit_plain X.K hT "list" (by simp)) (fun z => nomatch z) fun tk => fin _ tk rfl
  | ro ds =>
    obtain ⟨a, vs, e, ta, ra⟩ := rv; subst e; cases ru
    obtain ⟨its, _, ⟨o, n, h1, h2, _⟩, _⟩ := I.list ta.sq
    exact PySem.W.kia_one PySem.W.kitx_list I.kIn ⟨o, h1, h2⟩ (kit_plain X.K hT "list" (by simp)) (fun z => nomatch z) fun tk => fin _ tk rfl
  | mr k =>
    obtain ⟨a, e, ta⟩ := rv; subst e; cases ru
    cases qm : M[k]? with
    | none => simp only [tyM, qm] at h; exact h.elim
    | some m =>
      cases m with
      | lst ys =>
        obtain ⟨vs, hv, _⟩ := hw.at_ k a _ ta qm
        obtain ⟨its, _, ⟨o, n, h1, h2, _⟩, _⟩ := I.list (X := X) (xs := vs) (.inl (.inl hv))
        exact PySem.W.kia_one PySem.W.kitx_list I.kIn ⟨o, h1, h2⟩ (kit_plain X.K hT "list" (by simp)) (fun z => nomatch z) fun tk => fin _ tk (by simp only [tyM, qm])
      | _ => simp only [tyM, qm] at h; exact h.elim
  | exc c => exact h.elim
  | any => exact h.elim
theorem de_isi {T : String} {x : Str} {e : Expr} {p p2 pos : Pos} {g : GE} (hT : PlainTy T) (hv : bootBuiltins x = some (.type T)) (hg : Gl X x) (hm : X.mg x = none) (hgi : Gl X "isinstance") (hmi : X.mg "isinstance" = none) (he : PE X e (tE X g))
    (hn : x ≠ "__name__" := by decide) (hd : (x == ("__debug__" : Str)) = false := by decide) (hbi : bootBuiltins "isinstance" = some (.builtin "isinstance") := by kernel_rfl) (hs : starEach [e, .Name x p2] X.env = (false, eval e X.env) :: starEach [.Name x p2] X.env := by rfl)
    (hs2 : starEach [.Name x p2] X.env = (false, eval (.Name x p2) X.env) :: starEach [] X.env := by rfl) (hpl : (backTo pos (starEach [.Name x p2] X.env)).any (·.1) = false := by rfl) :
    PE X (.Call (.Name "isinstance" p) [e, .Name x p2] [] pos) (tE X (gIsi T g)) :=
  (pe_callB (cd_isi hT) hgi hmi hbi (pa_cons he (pa_cons (pe_bltn hg hm hv (v := .ty T) rfl hn hd) pa_nil hs2) hs) (by decide) (by decide) hs hpl).of fun σ H Q ⟨ρ, θ, M, hd, hw, h⟩ => by
    refine thenE hd hw (FinE X θ H Q) (fun c M' h => h) (fun h => h) h fun d M1 v θ1 H1 g1 r1 h1 => ?_
    exact ⟨θ1, M1, d, v, g1.wr, r1, rfl, FinE.go g1 h1⟩
end
end DL

set_option Elab.async false
set_option linter.all false
set_option maxRecDepth 100000
set_option maxHeartbeats 4000000
/-! The data layer, seventh part: in; the other way round; a range as a list; methods of lists; while; what a def leaves behind. -/
namespace DL
open PySem PySem.Spec PyProof.Rows L2

/-! ### in -/
def flatD : D → Bool
  | .non => true
  | .bl _ => true
  | .int _ => true
  | .str _ => true
  | _ => false
def toV : D → V
  | .non => .non
  | .bl b => .bl b
  | .int i => .int i
  | .str x => .str x
  | _ => .non
theorem flat_is {K : PySem.W.Frag} {θ : List Addr} {H : Hp} {d : D} {v : V} (r : isD K θ H d v) (f : flatD d = true) : v = toV d ∧ flatV v = true := by
  cases d with
  | non => have e : v = .non := r; subst e; exact ⟨rfl, rfl⟩
  | bl b => have e : v = .bl b := r; subst e; exact ⟨rfl, rfl⟩
  | int b => have e : v = .int b := r; subst e; exact ⟨rfl, rfl⟩
  | str b => have e : v = .str b := r; subst e; exact ⟨rfl, rfl⟩
  | _ => cases f
theorem flat_are {K : PySem.W.Frag} {θ : List Addr} {H : Hp} : ∀ {ds : List D} {vs : List V}, isDs K θ H ds vs → ds.all flatD = true → vs = ds.map toV ∧ vs.all flatV = true
  | [], vs, r, f => by have e : vs = [] := r; subst e; exact ⟨rfl, rfl⟩
  | d :: ds, vs, r, f => by
    obtain ⟨v, rr, e, h1, h2⟩ := r
    subst e
    rw [List.all_cons, Bool.and_eq_true] at f
    obtain ⟨e1, f1⟩ := flat_is h1 f.1
    obtain ⟨e2, f2⟩ := flat_are h2 f.2
    exact ⟨by rw [List.map_cons, ← e1, ← e2], by rw [List.all_cons, f1, f2]; rfl⟩
theorem eqV_toV {x y : D} (fx : flatD x = true) (fy : flatD y = true) : eqV (toV x) (toV y) = eqB x y := by
  cases x <;> cases y <;> simp_all [flatD, toV, eqV, eqB]
theorem inV_toV {x : D} : ∀ {ds : List D}, flatD x = true → ds.all flatD = true → inV (toV x) (ds.map toV) = ds.any fun y => eqB y x
  | [], fx, fs => rfl
  | d :: ds, fx, fs => by
    rw [List.all_cons, Bool.and_eq_true] at fs
    have ih := inV_toV (x := x) (ds := ds) fx fs.2
    unfold inV at ih ⊢
    rw [List.map_cons, List.any_cons, List.any_cons, ih, eqV_toV fs.1 fx]
def inOp (neg : Bool) : F2 := fun x y M => match itemsOf y M with
  | some xs => if flatD x && xs.all flatD then .ok (.bl ((xs.any fun y => eqB y x) != neg)) M else .bad
  | none => .bad
section
variable {X : Cx}
theorem od_in : OpR X (compareOp .In) (rD X (inOp false)) := by
  intro pins s σ H x y v u Q I rx ry h
  obtain ⟨θ, M, dx, dy, hw, r1, r2, h⟩ := h
  unfold inOp at h
  split at h
  · rename_i xs q
    split at h
    · rename_i hc
      rw [Bool.and_eq_true] at hc
      obtain ⟨a, vs, ea, sq, ra⟩ := seq_of hw r2 q
      obtain ⟨e1, f1⟩ := flat_is r1 hc.1
      obtain ⟨e2, f2⟩ := flat_are ra hc.2
      refine op_in_seq pins s σ H x y v u Q I rx ry ⟨a, vs, ea, sq, f1, f2, ?_⟩
      have := h _ θ H (.refl hw) rfl
      rw [Bool.bne_false] at this
      rw [if_neg (by decide), e1, e2, inV_toV hc.1 hc.2]
      exact this
    · exact h.elim
  · exact h.elim
end

/-! ### t[::-1] -/
section
variable {prog : Program} {w : World} {A : Around} {E : Value → Shared → Prop} {s : Shared}
end
def gRev (g : GE) : GE := fun ρ M => (g ρ M).bind fun x M1 => match x with
  | .tup xs => .ok (.tup xs.reverse) M1
  | _ => .bad
section
variable {X : Cx}
/-! ### list(range(..)) -/
def lr2 (ds : List D) (M : Mem) : Out D := match ds with
  | [.int i, .int j] => if (-(2 ^ 62) ≤ i ∧ i < 2 ^ 62 ∧ -(2 ^ 62) ≤ j ∧ j < 2 ^ 62) ∧ (j - i).toNat ≤ sizeLine then .ok (.lst (rangeD i (j - i).toNat)) M else .bad
  | _ => .bad
def lr1 (ds : List D) (M : Mem) : Out D := match ds with
  | [.int j] => if (-(2 ^ 62) ≤ j ∧ j < 2 ^ 62) ∧ j.toNat ≤ sizeLine then .ok (.lst (rangeD 0 j.toNat)) M else .bad
  | _ => .bad
/-! ### methods of lists -/
def appD (k : Nat) (x : D) (M : Mem) : Out D := match M[k]? with
  | some (.lst xs) => if xs.length < sizeLine then .ok .non (M.set k (.lst (xs ++ [x]))) else .bad
  | _ => .bad
def gApp (go ge : GE) : GE := fun ρ M => (go ρ M).bind fun o M1 => match o with
  | .mr k => match M1[k]? with
    | some (.lst _) => (ge ρ M1).bind (appD k)
    | _ => .bad
  | _ => .bad
theorem de_append {o e : Expr} {go ge : GE} {apos cpos : Pos} (ho : PE X o (tE X go)) (he : PE X e (tE X ge))
    (hbase : attributeBase o "append" X.env (eval o X.env) = eval o X.env := by rfl)
    (hfew : ((backTo cpos (starEach [e] X.env)).all (fun x => !x.1) && (backToKw cpos (keywordEach [] X.env)).all (fun x => x.1.isSome)
      && decide ([e].length + ([] : List Keyword).length + (if ([] : List Keyword).isEmpty then 0 else 1) < 30)) = true := by rfl)
    (hline : (apos.endLine == cpos.line) = true := by rfl) (hs : starEach [e] X.env = (false, eval e X.env) :: starEach [] X.env := by rfl) (hplain : (backTo cpos (starEach [] X.env)).any (·.1) = false := by rfl) :
    PE X (.Call (.Attribute o "append" apos) [e] [] cpos) (tE X (gApp go ge)) :=
  (pe_bm PySem.F.plainAttrs_list PySem.F.slot_list_append PySem.F.type_list_append mt_append ho (pa_cons he pa_nil hs) hbase hfew hline hs hplain).of fun σ H Q ⟨ρ, θ, M, hd, hw, h⟩ => by
    refine thenE hd hw (FinE X θ H Q) (fun c M' h => h) (fun h => h) h fun d M1 v θ1 H1 g1 r1 h1 => ?_
    have h2 := FinE.go g1 h1
    cases d with
    | mr k =>
      have h2 : FinE X θ1 H1 Q (match M1[k]? with | some (.lst _) => (ge ρ M1).bind (appD k) | _ => .bad) := h2
      cases qm1 : M1[k]? with
      | none => rw [qm1] at h2; exact h2.elim
      | some m1 =>
        cases m1 with
        | obj _ _ => rw [qm1] at h2; exact h2.elim
        | dK _ => rw [qm1] at h2; exact h2.elim
        | dT _ => rw [qm1] at h2; exact h2.elim
        | lst ys1 =>
          rw [qm1] at h2
          obtain ⟨a1, ea1, ta1⟩ := id r1
          obtain ⟨vs1, hv1, _⟩ := g1.wr.at_ k a1 _ ta1 qm1
          refine ⟨by rw [ea1]; exact .inl ⟨rfl, vs1, .inl (.inl hv1)⟩, ?_⟩
          refine thenE (hd.go g1) g1.wr (FinE X θ1 H1 Q) (fun c M' h => h) (fun h => h) h2 fun dx M2 vx θ2 H2 g2 r2 h3 => ?_
          have h3 : FinE X θ1 H1 Q (match M2[k]? with | some (.lst xs) => if xs.length < sizeLine then .ok .non (M2.set k (.lst (xs ++ [dx]))) else .bad | _ => .bad) := h3
          obtain ⟨a, ea, ta⟩ := r1.go g2
          cases qm : M2[k]? with
          | none => rw [qm] at h3; exact h3.elim
          | some m =>
            cases m with
            | obj _ _ => rw [qm] at h3; exact h3.elim
            | dK _ => rw [qm] at h3; exact h3.elim
            | dT _ => rw [qm] at h3; exact h3.elim
            | lst ys =>
              rw [qm] at h3
              obtain ⟨vs, hv, ra⟩ := g2.wr.at_ k a _ ta qm
              have h3 : FinE X θ1 H1 Q (if ys.length < sizeLine then .ok .non (M2.set k (.lst (ys ++ [dx]))) else .bad) := h3
              split at h3
              · rename_i hl
                have gs := go_set (ds := ys) g2.wr ta (isDs_append ra (show isDs X.K θ2 H2 [dx] [vx] from ⟨vx, [], rfl, r2, rfl⟩))
                exact ⟨a, vs, vx, ea, rfl, hv, by rw [← isDs_length ra]; exact hl, h3 _ θ2 _ (g2.trans gs) rfl⟩
              · exact h3.elim
    | _ => exact h2.elim
end
/-! ### what a def leaves behind: the lists that it made itself stay from then on -/
def optMap (f : D → Option D) : List D → Option (List D)
  | [] => some []
  | d :: ds => match f d, optMap f ds with
    | some x, some xs => some (x :: xs)
    | _, _ => none
def frz (n : Nat) (M : Mem) : Nat → D → Option D
  | 0, _ => none
  | f + 1, d => match d with
    | .mr k => if k < n then some (.mr k) else match M[k]? with
      | some (.lst xs) => (optMap (frz n M f) xs).map .lst
      | _ => none
    | .tup xs => (optMap (frz n M f) xs).map .tup
    | .lst xs => (optMap (frz n M f) xs).map .lst
    | .ro xs => (optMap (frz n M f) xs).map .ro
    | d => some d
/-- the fields likewise -/
def frzF (f : D → Option D) : List (Str × D) → Option (List (Str × D))
  | [] => some []
  | (x, d) :: r => match f d, frzF f r with
    | some e, some r' => some ((x, e) :: r')
    | _, _ => none
def frzK {κ : Type} (f : D → Option D) : List (κ × D) → Option (List (κ × D))
  | [] => some []
  | (x, d) :: r => match f d, frzK f r with
    | some e, some r' => some ((x, e) :: r')
    | _, _ => none
def frzM (n : Nat) (M : Mem) : List MO → Option (List MO)
  | [] => some []
  | .lst xs :: r => match optMap (frz n M 30) xs, frzM n M r with
    | some ys, some r' => some (.lst ys :: r')
    | _, _ => none
  | .obj c fs :: r => match frzF (frz n M 30) fs, frzM n M r with
    | some gs, some r' => some (.obj c gs :: r')
    | _, _ => none
  | .dK fs :: r => match frzK (frz n M 30) fs, frzM n M r with
    | some gs, some r' => some (.dK gs :: r')
    | _, _ => none
  | .dT fs :: r => match frzK (frz n M 30) fs, frzM n M r with
    | some gs, some r' => some (.dT gs :: r')
    | _, _ => none
def retP (n : Nat) (o : Out D) : Out D := match o with
  | .ok d M => if M.length = n then .ok d M else match frz n M 30 d, frzM n M (M.take n) with
    | some d', some M' => .ok d' M'
    | _, _ => .bad
  | .err c M => if M.length = n then .err c M else match frzM n M (M.take n) with
    | some M' => .err c M'
    | none => .bad
  | .bad => .bad
section
variable {K : PySem.W.Frag} {θ more : List Addr} {H : Hp} {M : Mem} {n : Nat}
theorem optMap_is {f : D → Option D} {θ' : List Addr} : ∀ {ds es : List D} {vs : List V}, optMap f ds = some es → isDs K θ' H ds vs → (∀ d ∈ ds, ∀ e v, f d = some e → isD K θ' H d v → isD K θ H e v) → isDs K θ H es vs
  | [], es, vs, h, r, k => by cases h; exact r
  | d :: ds, es, vs, h, r, k => by
    obtain ⟨v, rr, e, h1, h2⟩ := r
    unfold optMap at h
    cases q1 : f d with
    | none => rw [q1] at h; cases h
    | some x =>
      cases q2 : optMap f ds with
      | none => rw [q1, q2] at h; cases h
      | some xs =>
        rw [q1, q2] at h
        cases h
        exact ⟨v, rr, e, k d List.mem_cons_self x v q1 h1, optMap_is q2 h2 fun d' hd => k d' (List.mem_cons_of_mem _ hd)⟩
theorem frz_is (hw : Wr K (θ ++ more) H M) (hn : θ.length = n) : ∀ (f : Nat) (d e : D) (v : V), frz n M f d = some e → isD K (θ ++ more) H d v → isD K θ H e v
  | 0, d, e, v, h, r => by cases h
  | f + 1, d, e, v, h, r => by
    have ih := frz_is hw hn f
    have sub : ∀ {a : Addr}, a ∉ θ ++ more → a ∉ θ := fun {a} z y => z (List.mem_append_left _ y)
    cases d with
    | mr k =>
      obtain ⟨a, ea, ta⟩ := r
      by_cases hk : k < n
      · have h : (if k < n then some (D.mr k) else _) = some e := h
        rw [if_pos hk] at h
        cases h
        exact ⟨a, ea, by rw [List.getElem?_append_left (by rw [hn]; exact hk)] at ta; exact ta⟩
      · have h : (if k < n then some (D.mr k) else match M[k]? with | some (.lst xs) => (optMap (frz n M f) xs).map .lst | _ => none) = some e := h
        rw [if_neg hk] at h
        cases qm : M[k]? with
        | none => rw [qm] at h; cases h
        | some m =>
          cases m with
          | lst xs =>
            rw [qm] at h
            have h : (optMap (frz n M f) xs).map D.lst = some e := h
            obtain ⟨vs, hv, ra⟩ := hw.at_ k a _ ta qm
            cases qo : optMap (frz n M f) xs with
            | none => rw [qo] at h; cases h
            | some ys =>
              rw [qo] at h
              cases h
              refine ⟨a, vs, ea, ⟨hv, fun z => ?_⟩, optMap_is qo ra fun d _ e v => ih d e v⟩
              rw [List.getElem?_append_right (by omega)] at ta
              have hm := List.mem_of_getElem? ta
              exact (List.nodup_append.mp hw.nd).2.2 a z a hm rfl
          | _ => rw [qm] at h; cases h
    | tup xs =>
      have h : (optMap (frz n M f) xs).map D.tup = some e := h
      cases qo : optMap (frz n M f) xs with
      | none => rw [qo] at h; cases h
      | some ys =>
        rw [qo] at h; cases h
        obtain ⟨a, vs, ea, ta, ra⟩ := r
        refine ⟨a, vs, ea, ?_, optMap_is qo ra fun d _ e v => ih d e v⟩
        rcases ta with ⟨t1, t2⟩ | t
        · exact .inl ⟨t1, sub t2⟩
        · exact .inr t
    | lst xs =>
      have h : (optMap (frz n M f) xs).map D.lst = some e := h
      cases qo : optMap (frz n M f) xs with
      | none => rw [qo] at h; cases h
      | some ys =>
        rw [qo] at h; cases h
        obtain ⟨a, vs, ea, ta, ra⟩ := r
        exact ⟨a, vs, ea, ⟨ta.1, sub ta.2⟩, optMap_is qo ra fun d _ e v => ih d e v⟩
    | ro xs =>
      have h : (optMap (frz n M f) xs).map D.ro = some e := h
      cases qo : optMap (frz n M f) xs with
      | none => rw [qo] at h; cases h
      | some ys =>
        rw [qo] at h; cases h
        obtain ⟨a, vs, ea, ta, ra⟩ := r
        refine ⟨a, vs, ea, ?_, optMap_is qo ra fun d _ e v => ih d e v⟩
        rcases ta with ⟨t1, t2⟩ | t
        · exact .inl ⟨t1, sub t2⟩
        · exact .inr t
    | non => cases h; exact r
    | bl b => cases h; exact r
    | int b => cases h; exact r
    | str b => cases h; exact r
    | exc c =>
      cases h
      obtain ⟨a, C, ea, kc, t1, t2⟩ := r
      exact ⟨a, C, ea, kc, t1, sub t2⟩
    | any => cases h; exact r
theorem frzF_is {f : D → Option D} {θ' : List Addr} : ∀ {fs gs : List (Str × D)} {vs : List (Str × V)}, frzF f fs = some gs → isFs K θ' H fs vs → (∀ d e v, f d = some e → isD K θ' H d v → isD K θ H e v) → isFs K θ H gs vs
  | [], gs, vs, h, r, k => by cases h; exact r
  | (x, d) :: fs, gs, vs, h, r, k => by
    obtain ⟨v, rr, e, h1, h2⟩ := r
    unfold frzF at h
    cases q1 : f d with
    | none => rw [q1] at h; cases h
    | some y =>
      cases q2 : frzF f fs with
      | none => rw [q1, q2] at h; cases h
      | some ys =>
        rw [q1, q2] at h
        cases h
        exact ⟨v, rr, e, k d y v q1 h1, frzF_is q2 h2 k⟩
theorem frzK_is {κ : Type} {f : D → Option D} {θ' : List Addr} : ∀ {fs gs : List (κ × D)} {vs : List (κ × V)}, frzK f fs = some gs → isKs K θ' H fs vs → (∀ d e v, f d = some e → isD K θ' H d v → isD K θ H e v) → isKs K θ H gs vs
  | [], gs, vs, h, r, k => by cases h; exact r
  | (x, d) :: fs, gs, vs, h, r, k => by
    obtain ⟨v, rr, e, h1, h2⟩ := r
    unfold frzK at h
    cases q1 : f d with
    | none => rw [q1] at h; cases h
    | some y =>
      cases q2 : frzK f fs with
      | none => rw [q1, q2] at h; cases h
      | some ys =>
        rw [q1, q2] at h
        cases h
        exact ⟨v, rr, e, k d y v q1 h1, frzK_is q2 h2 k⟩
theorem frzM_is (hw : Wr K (θ ++ more) H M) (hn : θ.length = n) : ∀ (l l' : List MO), frzM n M l = some l' → l'.length = l.length ∧ ∀ (i : Nat) m m' a, l[i]? = some m → l'[i]? = some m' → MoOk K (θ ++ more) H m a → MoOk K θ H m' a
  | [], l', h => by cases h; exact ⟨rfl, fun i m m' a e => by simp at e⟩
  | .lst xs :: r, l', h => by
    unfold frzM at h
    cases q1 : optMap (frz n M 30) xs with
    | none => rw [q1] at h; cases h
    | some ys =>
      cases q2 : frzM n M r with
      | none => rw [q1, q2] at h; cases h
      | some r' =>
        rw [q1, q2] at h
        cases h
        obtain ⟨hl, hr⟩ := frzM_is hw hn r r' q2
        refine ⟨by rw [List.length_cons, List.length_cons, hl], fun i m m' a e1 e2 ok => ?_⟩
        cases i with
        | zero =>
          have e1 : some (MO.lst xs) = some m := e1
          have e2 : some (MO.lst ys) = some m' := e2
          cases e1; cases e2
          obtain ⟨vs, hv, ra⟩ := ok
          exact ⟨vs, hv, optMap_is q1 ra fun d _ e v => frz_is hw hn 30 d e v⟩
        | succ i => exact hr i m m' a e1 e2 ok
  | .obj c fs :: r, l', h => by
    unfold frzM at h
    cases q1 : frzF (frz n M 30) fs with
    | none => rw [q1] at h; cases h
    | some gs =>
      cases q2 : frzM n M r with
      | none => rw [q1, q2] at h; cases h
      | some r' =>
        rw [q1, q2] at h
        cases h
        obtain ⟨hl, hr⟩ := frzM_is hw hn r r' q2
        refine ⟨by rw [List.length_cons, List.length_cons, hl], fun i m m' a e1 e2 ok => ?_⟩
        cases i with
        | zero =>
          have e1 : some (MO.obj c fs) = some m := e1
          have e2 : some (MO.obj c gs) = some m' := e2
          cases e1; cases e2
          obtain ⟨C, dx, vs, kC, hv, ra⟩ := ok
          exact ⟨C, dx, vs, kC, hv, frzF_is q1 ra fun d e v => frz_is hw hn 30 d e v⟩
        | succ i => exact hr i m m' a e1 e2 ok
  | .dK fs :: r, l', h => by
    unfold frzM at h
    cases q1 : frzK (frz n M 30) fs with
    | none => rw [q1] at h; cases h
    | some gs =>
      cases q2 : frzM n M r with
      | none => rw [q1, q2] at h; cases h
      | some r' =>
        rw [q1, q2] at h
        cases h
        obtain ⟨hl, hr⟩ := frzM_is hw hn r r' q2
        refine ⟨by rw [List.length_cons, List.length_cons, hl], fun i m m' a e1 e2 ok => ?_⟩
        cases i with
        | zero =>
          have e1 : some (MO.dK fs) = some m := e1
          have e2 : some (MO.dK gs) = some m' := e2
          cases e1; cases e2
          obtain ⟨vs, hv, ra⟩ := ok
          exact ⟨vs, hv, frzK_is q1 ra fun d e v => frz_is hw hn 30 d e v⟩
        | succ i => exact hr i m m' a e1 e2 ok
  | .dT fs :: r, l', h => by
    unfold frzM at h
    cases q1 : frzK (frz n M 30) fs with
    | none => rw [q1] at h; cases h
    | some gs =>
      cases q2 : frzM n M r with
      | none => rw [q1, q2] at h; cases h
      | some r' =>
        rw [q1, q2] at h
        cases h
        obtain ⟨hl, hr⟩ := frzM_is hw hn r r' q2
        refine ⟨by rw [List.length_cons, List.length_cons, hl], fun i m m' a e1 e2 ok => ?_⟩
        cases i with
        | zero =>
          have e1 : some (MO.dT fs) = some m := e1
          have e2 : some (MO.dT gs) = some m' := e2
          cases e1; cases e2
          obtain ⟨vs, hv, ra⟩ := ok
          exact ⟨vs, hv, frzK_is q1 ra fun d e v => frz_is hw hn 30 d e v⟩
        | succ i => exact hr i m m' a e1 e2 ok
theorem go_pop {θ0 : List Addr} {H0 : Hp} {θ' : List Addr} {H' : Hp} {M' M2 : Mem} {n : Nat} (hn : θ0.length = n) (g : Go K θ0 H0 θ' H' M') (h : frzM n M' (M'.take n) = some M2) : Go K θ0 H0 θ0 H' M2 := by
  obtain ⟨m, em, hm⟩ := g.ext
  have hw := g.wr
  rw [em] at hw
  obtain ⟨hl, hr⟩ := frzM_is hw hn _ _ h
  have hlen : n ≤ M'.length := by rw [← g.wr.len, em, List.length_append]; omega
  refine ⟨⟨⟨[], by simp, fun _ z => by cases z⟩, g.keep, g.tkeep⟩, by rw [hl, List.length_take]; omega, (List.nodup_append.mp hw.nd).1, fun i a mo e1 e2 => ?_, g.wr.tb⟩
  have hi : i < n := by rw [← hn]; exact (List.getElem?_eq_some_iff.mp e1).1
  have hiM : i < M'.length := by omega
  refine hr i M'[i] mo a (by rw [List.getElem?_take_of_lt hi]; exact List.getElem?_eq_getElem hiM) e2 (hw.at_ i a _ ?_ (List.getElem?_eq_getElem hiM))
  rw [List.getElem?_append_left (by rw [hn]; exact hi)]
  exact e1
end
theorem fn_pop {P : Program} {w : World} {K : PySem.W.Frag} {mg : Str → Option Value} {base : Heap} {k n : Nat} {f : Addr} {fd : FuncData} {ps : List Str} {F : FD} {CX : CXT} (h : FnOk P w K mg base CX k f fd ps (spD K n F)) :
    FnOk P w K mg base CX k f fd ps (spD K n fun ds M => retP M.length (F ds M)) := h.imp fun vs H Q E ⟨θ, M, ds, hl, r, hw, q⟩ => by
  refine ⟨θ, M, ds, hl, r, hw, ?_⟩
  have q : FinC K θ H Q E (retP M.length (F ds M)) := q
  cases e : F ds M with
  | bad => rw [e] at q; exact q
  | err c M1 =>
    rw [e] at q
    have q : FinC K θ H Q E (if M1.length = M.length then .err c M1 else match frzM M.length M1 (M1.take M.length) with | some M' => .err c M' | none => .bad) := q
    split at q
    · exact q
    · split at q
      · rename_i M2 e2
        exact fun C θ' H' a kC g => q C θ H' a kC (go_pop hw.len g e2)
      · exact q.elim
  | ok d M1 =>
    rw [e] at q
    have q : FinC K θ H Q E (if M1.length = M.length then .ok d M1 else match frz M.length M1 30 d, frzM M.length M1 (M1.take M.length) with | some d', some M' => .ok d' M' | _, _ => .bad) := q
    split at q
    · exact q
    · split at q
      · rename_i d' M2 e1 e2
        intro v θ' H' g rd
        refine q v θ H' (go_pop hw.len g e2) ?_
        obtain ⟨m, em, _⟩ := g.ext
        have hw' := g.wr
        rw [em] at hw' rd
        exact frz_is hw' hw.len 30 d d' v e1 rd
      · exact q.elim
end DL

set_option Elab.async false
set_option linter.all false
set_option maxRecDepth 100000
/-! The data layer, last part: short words for what is printed by program. -/
namespace DL
open PySem PySem.Spec PyProof.Rows L2

/-- a def of the text, as it stands behind the top -/
structure Fn (K : PySem.W.Frag) (mg : Str → Option Value) (x : Str) (st : Stmt) (f : Addr) (fd : FuncData) (ps : List Str) : Prop where
  F : Fun K x x st f fd
  m : mg x = some (.ref f)
  b : Binds K fd ps []
section
variable {X : Cx}
theorem vv (i : Nat) {x : Str} {pos : Pos} (hN : X.N[i]? = some x := by rfl) (hv : Vis X.env.scope x := by first | exact Or.inl rfl | exact Or.inr (Or.inl rfl) | exact Or.inr (Or.inr rfl)) (hd : (x == ("__debug__" : Str)) = false := by decide)
    (hcd : (x == ("__classdict__" : Str)) = false := by decide) : PE X (.Name x pos) (tE X (gVar i)) := de_var (pe_var hN hv hd hcd)
theorem ss (i : Nat) {x : Str} {pos pos' : Pos} {e : Expr} {g : GE} (hN : X.N.Nodup) (he : PE X e (tE X g)) (hi : X.N[i]? = some x := by rfl) (hx : Loc X.env.scope x := by first | exact Or.inl rfl | exact Or.inr rfl)
    (hs : swapsWith e (some (.Name x pos')) pos.line X.env = pure false := by rfl) (hf : X.fn x = true ∨ X.env.scope.names.lookup x = some .local := by first | exact .inl rfl | exact .inr rfl) :
    PS X (.Assign [.Name x pos'] e pos) (tS X (sSet i g)) := ds_set hN hi hx he hs hf
theorem gg (i : Nat) {x : Str} {pos : Pos} (hN : X.N.Nodup) (hi : X.N[i]? = some x := by rfl) (hx : Loc X.env.scope x := by first | exact Or.inl rfl | exact Or.inr rfl) (hf : X.fn x = true ∨ X.env.scope.names.lookup x = some .local := by first | exact .inl rfl | exact .inr rfl) : PG X (.Name x pos) (tG X (oneN i)) := dg_name hN hi hx hf
end
/-- the law, from what its run tells -/
theorem law_sp {K : PySem.W.Frag} {F : FD} {H : Hp} {a : Addr} {ns : List Int} (tb : Tabs K H) (hS : SqL K H a (ns.map V.int)) (h : ∃ M', F [.ro (ns.map D.int)] [] = .ok (.bl true) M') {E : XK} : spD K 1 F [.ref a] H (fun v _ => v = .bl true) E := by
  obtain ⟨M', e⟩ := h
  refine ⟨[], [], [.ro (ns.map D.int)], rfl, ⟨_, [], rfl, ⟨a, ns.map V.int, rfl, ?_, ?_⟩, rfl⟩, ⟨rfl, List.nodup_nil, fun i a m e => by simp at e, tb⟩, ?_⟩
  · rcases hS with h | h
    · exact .inl ⟨h, by simp⟩
    · exact .inr h
  · clear e
    induction ns with
    | nil => exact rfl
    | cons n ns ih =>
      refine ⟨.int n, ns.map V.int, rfl, rfl, ?_⟩
      have gen : ∀ l : List Int, isDs K [] H (l.map D.int) (l.map V.int) := by
        intro l
        induction l with
        | nil => exact rfl
        | cons m l ih => exact ⟨_, _, rfl, rfl, ih⟩
      exact gen ns
  · rw [e]
    exact fun v θ' H' g r => r
end DL

set_option Elab.async false
set_option linter.all false
set_option maxRecDepth 100000
/-! The data layer: while; a def that calls itself. -/
namespace DL
open PySem PySem.Spec PyProof.Rows L2

/-- so many turns at most: beyond them nothing is known -/
def whileGo (t : GT) (b : GS) : Nat → Rho → Mem → Out Fl
  | 0, _, _ => .bad
  | n + 1, ρ, M => (t ρ M).bind fun c M1 => if c then (b ρ M1).bind fun f M2 => match f with
      | .nx ρ2 => whileGo t b n ρ2 M2
      | .ct ρ2 => whileGo t b n ρ2 M2
      | .bk ρ2 => .ok (.nx ρ2) M2
      | .rt d => .ok (.rt d) M2
    else .ok (.nx ρ) M1
def sWhile (n : Nat) (t : GT) (b : GS) : GS := whileGo t b n
end DL
/-! ### short words: no star among the arguments -/
namespace DL
open PySem PySem.Spec PyProof.Rows L2
def noStar : Expr → Bool
  | .Starred _ _ => false
  | _ => true
def noStars (es : List Expr) : Bool := es.all noStar
theorem sE {e : Expr} {es : List Expr} {env : Env} (h : noStar e = true) : starEach (e :: es) env = (false, eval e env) :: starEach es env := by
  cases e <;> first | rfl | (simp [noStar] at h)
theorem sS {pos : Pos} {env : Env} : ∀ {es : List Expr}, noStars es = true → (backTo pos (starEach es env)).any (·.1) = false
  | [], _ => rfl
  | e :: es, h => by
    unfold noStars at h
    rw [List.all_cons, Bool.and_eq_true] at h
    have ih := sS (pos := pos) (env := env) (es := es) h.2
    rw [sE h.1]
    unfold backTo at ih ⊢
    rw [List.map_cons, List.any_cons, ih]
    rfl
section
variable {X : Cx} {e : Expr} {es : List Expr} {x : Str} {p pos : Pos} {k n : Nat} {f : Addr} {fd : FuncData} {ps : List Str} {F : FD} {ga : GA} {g : GE} {tg : Expr}
theorem da_c {gr : GA} (ha : PE X e (tE X g)) (hr : PA X es (tA X gr)) (h : noStar e = true := by rfl) : PA X (e :: es) (tA X (DL.gCons g gr)) := da_cons ha hr (sE h)
theorem de_cl (Fn : FnOk X.prog X.w X.K X.mg X.base (CXd X.prog X.w) k f fd ps (spD X.K n F)) (hr : Room k X.A) (hg : Gl X x) (hm : X.mg x = some (.ref f)) (hk : PySem.W.keepIn X.K (.ref f) = true) (hb : Binds X.K fd ps [])
    (ha : PA X (e :: es) (tA X ga)) (hdb : (x == ("__debug__" : Str)) = false := by decide) (h1 : noStar e = true := by rfl) (h2 : noStars es = true := by rfl) :
    PE X (.Call (.Name x p) (e :: es) [] pos) (tE X (gCall n F ga)) := de_call Fn hr hg hm hk hb ha hdb (sE h1) (sS h2)
theorem de_cB {id : String} (hc : CallR X (.builtin id) (rC X F)) (hg : Gl X x) (hm : X.mg x = none) (hv : bootBuiltins x = some (.builtin id)) (ha : PA X (e :: es) (tA X ga)) (hn : x ≠ "__name__" := by decide) (hdb : (x == ("__debug__" : Str)) = false := by decide)
    (h1 : noStar e = true := by rfl) (h2 : noStars es = true := by rfl) : PE X (.Call (.Name x p) (e :: es) [] pos) (tE X (gBlt F ga)) := de_callB hc hg hm hv ha hn hdb (sE h1) (sS h2)
theorem de_cT {T : String} (hc : CallR X (.type T) (rC X F)) (hg : Gl X x) (hm : X.mg x = none) (hv : bootBuiltins x = some (.type T)) (ha : PA X (e :: es) (tA X ga)) (hn : x ≠ "__name__" := by decide) (hdb : (x == ("__debug__" : Str)) = false := by decide)
    (h1 : noStar e = true := by rfl) (h2 : noStars es = true := by rfl) : PE X (.Call (.Name x p) (e :: es) [] pos) (tE X (gBlt F ga)) := de_callTy hc hg hm hv ha hn hdb (sE h1) (sS h2)
theorem de_is {T : String} {p2 : Pos} (hT : PlainTy T) (hv : bootBuiltins x = some (.type T)) (hg : Gl X x) (hm : X.mg x = none) (hgi : Gl X "isinstance") (hmi : X.mg "isinstance" = none) (he : PE X e (tE X g))
    (h1 : noStar e = true := by rfl) (hn : x ≠ "__name__" := by decide) (hd : (x == ("__debug__" : Str)) = false := by decide) : PE X (.Call (.Name "isinstance" p) [e, .Name x p2] [] pos) (tE X (gIsi T g)) :=
  de_isi hT hv hg hm hgi hmi he hn hd boot_isinstance (sE h1) (sE rfl) (sS rfl)
theorem di_r1 {a : Expr} (hg : Gl X "range") (hm : X.mg "range" = none) (ha : PA X [a] (tA X ga)) (h1 : noStar a = true := by rfl) : PI X tg (.Call (.Name "range" p) [a] [] pos) (tI X (gRng1 ga)) := di_range1 hg hm ha (sE h1)
end
end DL

set_option Elab.async false
set_option linter.all false
/-! Words about the walks of loops and comprehensions, for the mathematics. -/
namespace DL
open PySem L2
theorem rng1_ok {j : Int} (h : -(2 ^ 62) ≤ j ∧ j < 2 ^ 62) (M : Mem) : rng1 [.int j] M = .ok ⟨rangeD 0 j.toNat, none⟩ M := by
  unfold rng1; exact if_pos h
theorem its_ok {ds : List D} {M : Mem} : Its.ok ⟨ds, none⟩ M = true := rfl
/-- a comprehension whose elements keep P and have Q -/
theorem comp_all {ds0 : List D} {ge : GE} {ρ : Rho} {P : Mem → Prop} {Q : D → Prop} : ∀ (ds : List D), (∀ d ∈ ds, ∀ M, P M → ∃ e M', P M' ∧ Q e ∧ ge (some d :: ρ) M = .ok e M') → ∀ M, P M →
    ∃ es M', P M' ∧ es.length = ds.length ∧ (∀ e ∈ es, Q e) ∧ compGo ⟨ds0, none⟩ gAll ge ds ρ M = .ok es M'
  | [], h, M, hM => ⟨[], M, hM, rfl, (fun e he => by cases he), rfl⟩
  | d :: ds, h, M, hM => by
    obtain ⟨e, M1, h1, q1, e1⟩ := h d List.mem_cons_self M hM
    obtain ⟨es, M2, h2, l2, q2, e2⟩ := comp_all (ds0 := ds0) ds (fun d' hd => h d' (List.mem_cons_of_mem _ hd)) M1 h1
    refine ⟨e :: es, M2, h2, by simp [l2], fun x hx => ?_, ?_⟩
    · rcases List.mem_cons.mp hx with z | z
      · subst z; exact q1
      · exact q2 x z
    · simp [compGo, its_ok, gAll, e1, e2]
/-- a comprehension that reckons alone -/
theorem comp_map {ds0 : List D} {ge : GE} {ρ : Rho} {f : D → D} {M : Mem} : ∀ (ds : List D), (∀ d ∈ ds, ge (some d :: ρ) M = .ok (f d) M) → compGo ⟨ds0, none⟩ gAll ge ds ρ M = .ok (ds.map f) M
  | [], h => rfl
  | d :: ds, h => by
    have e1 := h d List.mem_cons_self
    have e2 := comp_map (ds0 := ds0) ds fun d' hd => h d' (List.mem_cons_of_mem _ hd)
    simp [compGo, its_ok, gAll, e1, e2]
/-- a loop that keeps its word and leaves nowhere -/
theorem for_all {ds0 : List D} {s : GG} {body : GS} {W : Rho → Mem → Prop} : ∀ (ds : List D), (∀ d ∈ ds, ∀ ρ M, W ρ M → ∃ ρ1 ρ2 M2, s d ρ = some ρ1 ∧ body ρ1 M = .ok (.nx ρ2) M2 ∧ W ρ2 M2) → ∀ ρ M, W ρ M →
    ∃ ρ' M', W ρ' M' ∧ forGo ⟨ds0, none⟩ s body ds ρ M = .ok (.nx ρ') M'
  | [], h, ρ, M, hW => ⟨ρ, M, hW, rfl⟩
  | d :: ds, h, ρ, M, hW => by
    obtain ⟨ρ1, ρ2, M2, e1, e2, h2⟩ := h d List.mem_cons_self ρ M hW
    obtain ⟨ρ', M', h3, e3⟩ := for_all (ds0 := ds0) ds (fun d' hd => h d' (List.mem_cons_of_mem _ hd)) ρ2 M2 h2
    exact ⟨ρ', M', h3, by simp [forGo, its_ok, e1, e2, e3]⟩
theorem rangeD_length (lo : Int) (n : Nat) : (rangeD lo n).length = n := by simp [rangeD]
/-- data of whole numbers alone -/
theorem ints_of {ds : List D} {Q : Int → Prop} (h : ∀ d ∈ ds, ∃ k, d = .int k ∧ Q k) : ∃ ks : List Int, ds = ks.map D.int ∧ ∀ k ∈ ks, Q k := by
  induction ds with
  | nil => exact ⟨[], rfl, fun k hk => by cases hk⟩
  | cons d ds ih =>
    obtain ⟨k, e, q⟩ := h d List.mem_cons_self
    obtain ⟨ks, e2, q2⟩ := ih fun d' hd => h d' (List.mem_cons_of_mem _ hd)
    refine ⟨k :: ks, by rw [e, e2]; rfl, fun x hx => ?_⟩
    rcases List.mem_cons.mp hx with z | z
    · subst z; exact q
    · exact q2 x z
theorem le_line {n : Nat} (h : n ≤ 1000000) : n ≤ sizeLine := Nat.le_trans h (by rw [sizeLine_eq]; decide)
end DL
namespace DL
@[simp] theorem eqB_ii (i j : Int) : eqB (.int i) (.int j) = (i == j) := by simp [eqB]
@[simp] theorem eqB_bb (i j : Bool) : eqB (.bl i) (.bl j) = (i == j) := by simp [eqB]
@[simp] theorem eqB_ss (i j : PySem.Str) : eqB (.str i) (.str j) = (i == j) := by simp [eqB]
@[simp] theorem eqB_nn : eqB .non .non = true := by simp [eqB]
@[simp] theorem eqB_in (i : Int) : eqB (.int i) .non = false := by simp [eqB]
@[simp] theorem eqB_ni (i : Int) : eqB .non (.int i) = false := by simp [eqB]
@[simp] theorem eqB_tt (xs ys : List D) : eqB (.tup xs) (.tup ys) = eqBs xs ys := by simp [eqB]
@[simp] theorem eqB_ll (xs ys : List D) : eqB (.lst xs) (.lst ys) = eqBs xs ys := by simp [eqB]
@[simp] theorem eqBs_nil : eqBs [] [] = true := by simp [eqBs]
@[simp] theorem eqBs_nc (y : D) (ys : List D) : eqBs [] (y :: ys) = false := by simp [eqBs]
@[simp] theorem eqBs_cn (y : D) (ys : List D) : eqBs (y :: ys) [] = false := by simp [eqBs]
@[simp] theorem eqBs_cc (x y : D) (xs ys : List D) : eqBs (x :: xs) (y :: ys) = (eqB x y && eqBs xs ys) := by simp [eqBs]
@[simp] theorem cmpOk_int (n : Nat) (i : Int) : cmpOk n (.int i) = true := by cases n <;> simp [cmpOk]
@[simp] theorem cmpOk_bl (n : Nat) (i : Bool) : cmpOk n (.bl i) = true := by cases n <;> simp [cmpOk]
@[simp] theorem cmpOk_non (n : Nat) : cmpOk n .non = true := by cases n <;> simp [cmpOk]
@[simp] theorem cmpOk_str (n : Nat) (x : PySem.Str) : cmpOk n (.str x) = PySem.PyData.strOk x := by cases n <;> simp [cmpOk]
@[simp] theorem cmpOk_tup (n : Nat) (xs : List D) : cmpOk (n + 1) (.tup xs) = cmpOks n xs := by simp [cmpOk]
@[simp] theorem cmpOk_lst (n : Nat) (xs : List D) : cmpOk (n + 1) (.lst xs) = cmpOks n xs := by simp [cmpOk]
@[simp] theorem cmpOk_tup40 (xs : List D) : cmpOk 40 (.tup xs) = cmpOks 39 xs := cmpOk_tup 39 xs
@[simp] theorem cmpOk_lst40 (xs : List D) : cmpOk 40 (.lst xs) = cmpOks 39 xs := cmpOk_lst 39 xs
@[simp] theorem cmpOks_nil (n : Nat) : cmpOks n [] = true := by cases n <;> simp [cmpOks]
@[simp] theorem cmpOks_cons (n : Nat) (x : D) (xs : List D) : cmpOks n (x :: xs) = (cmpOk n x && cmpOks n xs) := by cases n <;> simp [cmpOks]
@[simp] theorem now_int (i : Int) (M : Mem) : now (.int i) M = .int i := rfl
@[simp] theorem now_bl (i : Bool) (M : Mem) : now (.bl i) M = .bl i := rfl
@[simp] theorem now_non (M : Mem) : now .non M = .non := rfl
@[simp] theorem now_str (x : PySem.Str) (M : Mem) : now (.str x) M = .str x := rfl
@[simp] theorem now_tup (xs : List D) (M : Mem) : now (.tup xs) M = .tup xs := rfl
@[simp] theorem now_lst (xs : List D) (M : Mem) : now (.lst xs) M = .lst xs := rfl
end DL

set_option Elab.async false
set_option linter.all false
set_option maxRecDepth 100000
/-! The data layer: exceptions: their class asked, raised, caught. -/
namespace DL
open PySem PySem.Spec PyProof.Rows L2 PySem.W PySem.Builtin PySem.Builtin.ObjectAttr PySem.Builtin.Getset_descriptor
/-- what the written part says of an exception class at C -/
structure ExcK (K : Frag) (C : Addr) : Prop where
  cl : (clsIn K C).isSome = true
  ca : findIn K (.ref C) "__class__" = some (some (.builtin "object.__class__"))
  sp : specialIn K (.builtin "object.__class__") "__get__" = some (some (.builtin "getset_descriptor.__get__"))
  tk : takesIn K (.builtin "object.__class__") = some true
  ob : mroIn K C (.type "object") = some true
  ga : findIn K (.ref C) "__getattribute__" = some (some (.builtin "BaseException.__getattribute__"))
  gh : findIn K (.ref C) "__getattr__" = some none
  be : mroIn K C (.type "BaseException") = some true
/-- an object of that class -/
def OfC (a C : Addr) (h : Heap) : Prop := ∃ o, h.get? a = some o ∧ o.cls = .ref C
section
variable {prog : Program} {w : World} {A : Around} {E : Value → Shared → Prop} {K : Frag} {a C : Addr} {h : Heap} {g : Array GenState} {d : Drawn} {t : Nat} {os : OsState}
theorem OfC.type {M : Model} (I : OfC a C h) : Looks M h (typeOf (.ref a)) (.ref C) := by
  obtain ⟨o, e, c⟩ := I
  exact c ▸ (Looks.ld e).andThen .now
theorem exc_get {R : Result → Shared → Prop} {tp : Value} (X : K.In h) (I : OfC a C h) (k : ExcK K C) (hq : R (.ok (.ret (.ref C))) ⟨h, g, d, t, os⟩) :
    codeAny (model prog w) A (.call (.builtin "getset_descriptor.__get__") ⟨[.builtin "object.__class__", .ref a, tp], []⟩) R ⟨h, g, d, t, os⟩ := by
  have L0 := I.type (M := model prog w)
  have L1 := looks_mroIn (M := model prog w) X k.ob
  have go := KF.slot_gs.check (model prog w) A.in1
  refine codeAny_call_builtin KF.slot_gs.plain KF.entry_gs ?_
  refine go _ _ _ _ _ _ KF.type_class (KF.args_gs _ _ _) ?_
  unfold Builtin.«getset_descriptor.__get__» descrGet
  rw [dga_obj]
  refine wpAny_bind (wpAny_pure ?_)
  unfold descrGetter descrCheckInstance descrNameAndClass isInstance
  simp only [KF.owner_class]
  repeat lk
  refine ⟨Code.quiet_builtin _ (by decide +kernel), codeAny_builtin KF.entry_class ?_⟩
  unfold Builtin.«object.__class__» shownTypeOf
  repeat lk
  exact hq
theorem exc_find (X : K.In h) (I : OfC a C h) (k : ExcK K C) : Looks (model prog w) h (Builtin.ObjectAttr.find (.ref a) (.ref C) "__class__") (.bind (.builtin "getset_descriptor.__get__") (.builtin "object.__class__")) := by
  have L1 := looks_findIn (M := model prog w) X k.ca
  have L2 : Looks (model prog w) h (Builtin.ObjectAttr.getOf (some (.builtin "object.__class__"))) (some (.builtin "getset_descriptor.__get__")) := looks_specialIn X k.sp
  unfold Builtin.ObjectAttr.find
  refine L1.andThen (L2.andThen ?_)
  have L3 := looks_takesIn (M := model prog w) X k.tk
  have L4 : Looks (model prog w) h (Builtin.ObjectAttr.dataDescriptor? (some (.builtin "object.__class__")) (some (.builtin "getset_descriptor.__get__"))) (some (.builtin "getset_descriptor.__get__", .builtin "object.__class__")) := L3.andThen .now
  exact L4.andThen (Looks.tag .now)
theorem exc_entry {tk : Tok} {Q : PySem.Fin → Shared → Prop} (X : K.In h) (I : OfC a C h) (k : ExcK K C) (hq : Q (.done (.ret (.ref C))) ⟨h, g, d, t, os⟩) :
    wpAny (model prog w) A (Builtin.«object.__getattribute__» ⟨[.ref a, .str "__class__" tk], []⟩) Q E ⟨h, g, d, t, os⟩ := by
  unfold Builtin.«object.__getattribute__»
  refine wpAny_bind (wpAny_pure ?_)
  refine wpAny_bind (wpAny_pure ?_)
  refine wpAny_bind (I.type.at ?_)
  refine wpAny_bind ((exc_find X I k).at ?_)
  show wpAny (model prog w) A (Builtin.ObjectAttr.bindTo _ _ _ _) Q E _
  unfold Builtin.ObjectAttr.bindTo
  refine wpAny_bind (wpAny_holding (wpAny_call (exc_get X I k ?_)))
  exact wpAny_pure hq
theorem exc_by {tk : Tok} {Q : Value → Shared → Prop} (X : K.In h) (I : OfC a C h) (k : ExcK K C) (hq : Q (.ref C) ⟨h, g, d, t, os⟩) : wpAny (model prog w) A (getAttrBy (.ref a) (.str "__class__" tk) false) Q E ⟨h, g, d, t, os⟩ := by
  have L0 := I.type (M := model prog w)
  have L1 := looks_findIn (M := model prog w) X k.ga
  have L2 := looks_findIn (M := model prog w) X k.gh
  have hkind : builtinKind "BaseException.__getattribute__" = some .slot := by decide +kernel
  have hcut : splitId "BaseException.__getattribute__" = some ("BaseException", "__getattribute__") := by decide +kernel
  have hargs := F.args_bexc_ga (.ref a) (.str "__class__" tk)
  have LB := looks_mroIn (M := model prog w) X k.be
  have chk : ∀ {A' : Around} {E' : Value → Shared → Prop} {Q' : Unit → Shared → Prop}, Q' () ⟨h, g, d, t, os⟩ → wpAny (model prog w) A' (checkBuiltinCall "BaseException.__getattribute__" ⟨[.ref a, .str "__class__" tk], []⟩) Q' E' ⟨h, g, d, t, os⟩ := fun hq' => by
    simp only [checkBuiltinCall, hkind, hcut]
    refine wpAny_bind ?_
    unfold isInstance
    refine wpAny_bind (L0.at (LB.at ?_))
    repeat (first | wp_step)
    exact hq'
  have f3 := PySem.F.attr_ValueError.ga.bind (.ref a)
  unfold getAttrBy
  refine wpAny_holding (wpAny_bind (L0.at (wpAny_bind (L1.at ?_))))
  show wpAny _ _ (getAttrByItsOwn _ _ _ _ _ _) _ _ _
  unfold getAttrByItsOwn hookBefore
  refine wpAny_bind ?_
  rw [if_pos (show onTheHeap (Value.ref C) = true from rfl)]
  refine L2.at ?_
  refine wpAny_bind (wpAny_attempt (wpAny_holding ?_))
  unfold callGetattribute
  rw [if_neg (by simp)]
  unfold boundAndCalled
  rw [f3]
  refine wpAny_bind (wpAny_pure ?_)
  refine wpAny_call (codeAny_call_builtin PySem.F.attr_ValueError.ga.plain F.entry_bexc_ga (chk (exc_entry X I k ?_)))
  exact wpAny_pure hq
theorem exc_attr {Q : Option Value → Shared → Prop} (X : K.In h) (I : OfC a C h) (k : ExcK K C) (hq : Q (some (.ref C)) ⟨h, g, d, t + 1, os⟩) : wpAny (model prog w) A (getAttr? (.ref a) "__class__") Q E ⟨h, g, d, t, os⟩ := by
  unfold getAttr? getAttrBy?
  refine wpAny_bind (wpAny_mkText ?_)
  refine wpAny_bind (wpAny_attempt (exc_by X I k ?_))
  exact wpAny_pure hq
theorem kitx_exc (k : ExcK K C) : KitX K (.ref a) (.ref C) (OfC a C) where
  ty := fun M h _ I => I.type
  it := fun M h X I => by
    have hc := k.cl
    obtain ⟨cd, hc⟩ := Option.isSome_iff_exists.mp hc
    unfold clsIn at hc
    split at hc
    · rename_i ho
      intro A' Q' E' s' k' q
      unfold isType loadHead
      exact wpAny_bind (wpAny_loadPart (k' _ _ (X _ _ ho)) (wpAny_pure q))
    · cases hc
  ne := fun h tp dd its n sl X htp => by
    refine Bool.eq_false_iff.mpr fun q => ?_
    obtain ⟨cd, hc⟩ := Option.isSome_iff_exists.mp k.cl
    have e : C = tp := Value.ref.inj (beq_iff_eq.mp q)
    subst e
    unfold clsIn at hc
    split at hc
    · rename_i ho
      have z := (X _ _ ho).symm.trans htp
      cases z
    · cases hc
  ca := fun {prog w A E Q s} X I hq => by
    obtain ⟨h, g, d, t, os⟩ := s
    exact exc_attr X I k hq
end
end DL

set_option Elab.async false
set_option linter.all false
set_option maxRecDepth 100000
/-! The data layer: raise, try. -/
namespace DL
open PySem PySem.Spec PyProof.Rows L2

/-! ### raise -/
abbrev bmVE : List Value := [.type "ValueError", .type "Exception", .type "BaseException", .type "object"]
/-- an exception class of the text: called c, at C -/
structure Ec (K : PySem.W.Frag) (mg : Str → Option Value) (c : Str) (C : Addr) : Prop where
  at_ : ClsAt K c C
  m : mg c = some (.ref C)
  k : ExcK K C
  ex : PySem.W.excIn K C bmVE "ValueError.__new__" = true
  ty : PySem.W.typeIn K (.ref C) = some (.type "type")
  sf : PySem.W.mroIn K C (.ref C) = some true
/-- the class's object, its own names, what stands behind it -/
theorem own_in {K : PySem.W.Frag} {h : Heap} {C : Addr} {bmB : List Value} {newId : String} (X : K.In h) (q : PySem.W.excIn K C bmB newId = true) :
    ∃ bm N nm qn bs hdct sn sub ab col dd k0 k1 k2 k3 k5 mN, h.get? C = some (excClassObj nm qn C N bs bm hdct sn sub ab col dd k0 k1 k2 k3 k5 newId) ∧ h.Ns N mN ∧ mN "__init__" = none ∧ OwnTail h bmB bm := by
  unfold PySem.W.excIn at q
  split at q
  · rename_i d1 cd s1 at1
    split at q
    · rename_i C2 rest j0 j1 j2 j3 nn j5 e1 e2
      simp only [Bool.and_eq_true, beq_iff_eq, Bool.not_eq_true'] at q
      obtain ⟨⟨⟨⟨⟨r1, r2⟩, r3⟩, r4⟩, r5⟩, r6⟩ := q
      subst r1; subst r2
      cases cd with
      | mk c1 c2 c3 c4 c5 c6 c7 c8 c9 c10 c11 =>
        dsimp only at e1 r3 r5 r6
        subst e1; subst r3
        have e3 : s1 = #[j0, j1, j2, j3, some (.builtin nn), j5] := by
          cases s1 with
          | mk l =>
            have e4 : l = _ := e2
            rw [e4]
        subst e3
        refine ⟨rest, c4, c1, c5, c2, c6, c7, c8, c9, c10, d1, j0, j1, j2, j3, j5, h.nsMap c4, X _ _ at1, ?_, PySem.W.nsMap_none_of_in X r5 r6, PySem.W.tail_of_in X r4⟩
        exact Heap.Ns.of_isNs (PySem.W.isNs_of_in X r5)
    · cases q
  · cases q
def sRaise (c : Str) (g : GE) : GS := fun ρ M => (g ρ M).bind fun _ M1 => .err c M1
theorem ds_raise {X : Cx} {c : Str} {C : Addr} {e : Expr} {g : GE} {np cpos pos : Pos} (k : Ec X.K X.mg c C) (hc : X.calm = true) (hg : Gl X c) (he : PE X e (tE X g)) (h1 : noStar e = true := by rfl) (hd : (c == ("__debug__" : Str)) = false := by decide) :
    PS X (.Raise (some (.Call (.Name c np) [e] [] cpos)) none pos) (tS X (sRaise c g)) := by
  intro pins s σ H D I h
  obtain ⟨ρ, θ, M, hdn, hw, h⟩ := h
  obtain ⟨bm, N, nm, qn, bs, hdct, sn, sub, ab, col, dd, k0, k1, k2, k3, k5, mN, hC, hN, hni, T⟩ := own_in I.ok.mod.kin k.ex
  have hs : starEach [e] X.env = (false, eval e X.env) :: starEach [] X.env := sE h1
  have hplain : (backTo cpos (starEach [e] X.env)).any (·.1) = false := sS (by unfold noStars; simp [h1])
  refine wpAny_Raise_call_subT (C := C) (nm := nm) (q := qn) (N := N) (bs := bs) (bm := bm) (hdct := hdct) (sn := sn) (sub := sub) (ab := ab) (col := col) (dd := dd) (k0 := k0) (k1 := k1) (k2 := k2) (k3 := k3) (k5 := k5)
    PySem.F.excBase_ValueError (mN := mN) (T.hasType PySem.F.excBase_ValueError.hasBase) (I.ok.hd hc) hplain hni (ld_glob I hg k.m ⟨rfl, ?_⟩ hd)
  have hv := pa_cons he pa_nil hs cpos pins s σ H (fun vs H1 => vs.length = 1 ∧ ∃ θ1 M1, Go X.K θ H θ1 H1 M1 ∧ ErrOk X θ1 H1 c M1) I (by
    refine thenE hdn hw (FinS X θ H D) (fun c M' h => h) (fun h => h) h fun d M1 v θ1 H1 g1 r1 h2 => ?_
    exact ⟨rfl, θ1, M1, g1, ErrOk.go g1 h2⟩)
  rw [hs] at hv ⊢
  refine Calls.evalArgs_plain (wpAny_mono hv (fun us s2 hq => ⟨rfl, ?_⟩) fun _ _ y => y)
  obtain ⟨vs, H1, I1, rv, hl, θ1, M1, g1, ok⟩ := hq
  refine ⟨by show us.length ≤ sizeLine; rw [← rv.length, hl]; exact Nat.le_trans (by decide : 1 ≤ 1000000) (by rw [sizeLine_eq]; decide), I1.bk _ _ hC, hN.keeps I1.bk, T.keeps I1.bk, fun h' e' hm => ?_⟩
  exact ok C θ1 H1 e' _ k.at_ (.refl g1.wr) ⟨pins, σ, .inl ⟨s2.heap, us, I1, hm⟩⟩

/-! ### an exception is caught -/
section
variable {M : Model} {A : Around} {E : Value → Shared → Prop} {K : PySem.W.Frag} {a C G : Addr} {h : Heap} {g : Array GenState} {d : Drawn} {t : Nat} {os : OsState}
theorem looks_isType (X : K.In h) (k : (PySem.W.clsIn K G).isSome = true) : PySem.W.Looks M h (isType (.ref G)) true := by
  obtain ⟨cd, hc⟩ := Option.isSome_iff_exists.mp k
  unfold PySem.W.clsIn at hc
  split at hc
  · rename_i ho
    intro A' Q' E' s' k' q
    unfold isType loadHead
    exact wpAny_bind (wpAny_loadPart (k' _ _ (X _ _ ho)) (wpAny_pure q))
  · cases hc
theorem exc_matches {Q : Bool → Shared → Prop} {b : Bool} (X : K.In h) (I : OfC a C h) (kG : ExcK K G) (tG : PySem.W.typeIn K (.ref G) = some (.type "type")) (hm : PySem.W.mroIn K C (.ref G) = some b)
    (hq : Q b ⟨h, g, d, t, os⟩) : wpAny M A (excMatches (.ref a) (.ref G)) Q E ⟨h, g, d, t, os⟩ := by
  have L0 : PySem.W.Looks M h (typeOf (.ref a)) (.ref C) := I.type
  have L1 := PySem.W.looks_typeIn (M := M) X tG
  have L2 : PySem.W.Looks M h (isSubtype (.type "type") (.type "tuple")) false := PySem.W.Looks.of_pure tc_notTuple
  have L3 := PySem.W.looks_mroIn (M := M) X kG.be
  have L4 := PySem.W.looks_mroIn (M := M) X hm
  have L5 : PySem.W.Looks M h (isInstance (.ref G) (.type "tuple")) false := L1.andThen L2
  have L6 : PySem.W.Looks M h (isType (.ref G)) true := looks_isType X kG.cl
  unfold excMatches
  refine wpAny_bind (L5.at ?_)
  simp only [Bool.false_eq_true, if_false]
  refine wpAny_bind (wpAny_pure ?_)
  simp only [List.forIn_cons, List.forIn_nil]
  unfold isExcClass
  refine wpAny_bind (wpAny_bind (wpAny_bind (wpAny_bind (L6.at ?_))))
  simp only [if_true]
  refine L3.at ?_
  simp only [Bool.not_true, Bool.false_eq_true, if_false]
  refine wpAny_pure ?_
  refine wpAny_pure ?_
  refine wpAny_bind (L0.at ?_)
  refine wpAny_bind (wpAny_bind (wpAny_bind (L4.at ?_)))
  cases b with
  | true =>
    simp only [if_true]
    exact wpAny_pure (wpAny_pure (wpAny_pure hq))
  | false =>
    simp only [Bool.false_eq_true, if_false]
    exact wpAny_pure (wpAny_pure (wpAny_pure hq))
end
end DL

set_option Elab.async false
set_option linter.all false
set_option maxRecDepth 100000
/-! The data layer: try with one handler. -/
namespace DL
open PySem PySem.Spec PyProof.Rows L2
section
variable {X : Cx} {pins : List (Addr × Obj)} {σ : L2.St} {H : Hp} {s : Shared} {B : Heap} {a C : Addr} {a0 : Value}
/-- the caught exception is tracked from now on -/
theorem inv_track (I : L2.Inv X pins σ H s) (cov : Cov X pins H B) (fl : Heap.FlyingW B X.stack a (.ref C) a0 s.heap) (hn : H a = none) : L2.Inv X pins σ (upd H a (excO a C)) s := by
  obtain ⟨oe, vs, he, hcl, hd, _⟩ := fl.first
  have hBa : B.get? a = none := fl.2.1
  have nfld : ∀ b o, s.heap.get? b = some o → (∀ ws, o.data ≠ .fields ws) → b ≠ a := fun b o e n z => by
    subst z
    rw [he] at e; cases e
    exact n vs hd
  have nB : ∀ b o, B.get? b = some o → b ≠ a := fun b o e z => by rw [z, hBa] at e; cases e
  have nloc : X.env.locals ≠ a := by
    obtain ⟨m, ⟨o, es, ep, ho, hdat, _⟩, _⟩ := I.loc
    exact nfld _ o ho fun ws q => by rw [hdat] at q; cases q
  have nold : ∀ b o, X.s₀.heap.get? b = some o → b ∉ X.ex → b ≠ a := fun b o e nx => by
    by_cases hf : b ∈ X.fs
    · obtain ⟨_, ob, e2, nf⟩ := I.funs.mem hf
      exact nfld b ob e2 nf
    · obtain ⟨o', e'⟩ := cov.old b o e nx (inv_old I e hf)
      exact nB b o' e'
  refine ⟨I.ok, I.os, I.bare, ⟨I.base.keep, I.base.slot, fun b o e n nx => ?_, I.base.there, fun b xs e => ?_, fun b o u e => ?_, fun b ps e => ?_⟩, I.loc, I.cell, ?_, fun x c e => ?_, fun p hp => ?_, fun b o e => ?_, I.len⟩
  · rw [upd_ne (nold b o e nx)]; exact I.base.free b o e n nx
  · have q := I.base.tups b xs e
    rw [upd_ne (fun z => by rw [z, hn] at q; cases q)]; exact q
  · have q := I.base.frzs b o u e
    rw [upd_ne (fun z => by rw [z, hn] at q; cases q)]; exact q
  · obtain ⟨m, q⟩ := I.base.tbls b ps e
    exact ⟨m, by rw [upd_ne (fun z => by rw [z, hn] at q; cases q)]; exact q⟩
  · rw [upd_ne nloc]; exact I.free
  · obtain ⟨v, o, ho, hdat⟩ := I.cell x c e
    rw [upd_ne (nfld c o ho fun ws q => by rw [hdat] at q; cases q)]
    exact I.freeC x c e
  · obtain ⟨e, n, ne, nf, d⟩ := I.pin p hp
    obtain ⟨o', e'⟩ := cov.pin p hp
    exact ⟨e, by rw [upd_ne (nB _ _ e')]; exact n, ne, nf, d⟩
  · by_cases hb : b = a
    · subst hb
      rw [upd_same] at e; cases e
      exact ⟨⟨oe, he, hcl⟩, ⟨oe, he⟩, fun h1 h2 ⟨o, e1, e2⟩ k => ⟨o, k o e1, e2⟩⟩
    · rw [upd_ne hb] at e
      exact (I.hok b o e).stay (fun _ _ _ q => q) (fun c q => by rw [upd_ne (fun z => by rw [z, hn] at q; cases q)]; exact q) fun c xs q => by rw [upd_ne (fun z => by rw [z, hn] at q; cases q)]; exact q
/-- except .. as n: the name goes behind the suite -/
theorem name_goes {M : Model} {A : Around} {E : Value → Shared → Prop} {i : Nat} {n : Str} {pos : Pos} {Q : Unit → Shared → Prop} (I : L2.Inv X pins σ H s) (hN : X.N.Nodup) (hi : X.N[i]? = some n) (hl : X.env.kindOf n = some .local)
    (h : ∀ s', L2.Inv X pins (σ.set i none) H s' → Q () s') : wpAny M A (do bindName X.env n .none; unbindBehindTheSuite X.env n pos) Q E s := by
  obtain ⟨m, hn, lk⟩ := I.loc
  have hcls : (X.env.scope.kind == .class || (X.env.scope.kind == .module && X.env.locals != X.env.globals)) = false := by rw [I.ok.kind]; rfl
  have hiσ : i < σ.length := by rw [I.len]; exact (List.getElem?_eq_some_iff.mp hi).1
  refine wpAny_nameGoes_keeps hl hn hcls fun h' v hn' hs => h _ ?_
  have old : ∀ b o, X.s₀.heap.get? b = some o → b ≠ X.env.locals := fun b o e => Nat.ne_of_lt (Nat.lt_of_lt_of_le (Heap.lt_size e) I.ok.above)
  refine ⟨I.ok, I.os, I.bare, ⟨fun b o e n hb hx => (hs.2 b (old b o e)).trans (I.base.keep b o e n hb hx), fun b o e n hb hx => ?_, I.base.free, fun b o e hx => ?_, I.base.tups, I.base.frzs, I.base.tbls⟩, ⟨_, hn', fun j y v' e1 e2 e3 => ?_⟩, fun y c e => ?_, I.free, I.freeC, fun p hp => ?_, fun b o e => ?_, ?_⟩
  · obtain ⟨sl, e1⟩ := I.base.slot b o e n hb hx
    exact ⟨sl, (hs.2 b (old b o e)).trans e1⟩
  · obtain ⟨o', e1⟩ := I.base.there b o e hx
    exact ⟨o', (hs.2 b (old b o e)).trans e1⟩
  · by_cases hj : j = i
    · subst hj
      rw [List.getElem?_set_self hiσ] at e2
      cases e2
    · rw [List.getElem?_set_ne (Ne.symm hj)] at e2
      obtain ⟨u', r', q⟩ := lk j y v' e1 e2 e3
      refine ⟨u', r', ?_⟩
      rcases q with ⟨k, e⟩ | ⟨k, c, e, z⟩
      · have ny : y ≠ n := fun e => hj (nodup_ix hN e1 (e ▸ hi))
        exact .inl ⟨k, by show (if y = n then v else m y) = some u'; rw [if_neg ny]; exact e⟩
      · exact .inr ⟨k, c, e, z.sameBut hs (I.cne y c e)⟩
  · obtain ⟨w', z⟩ := I.cell y c e
    exact ⟨w', z.sameBut hs (I.cne y c e)⟩
  · obtain ⟨e, n, ne, nf, d⟩ := I.pin p hp
    exact ⟨(hs.2 p.1 ne).trans e, n, ne, nf, d⟩
  · refine (I.hok b o e).stay (fun c w' hc q => (hs.2 c ?_).trans q) (fun _ q => q) fun _ _ q => q
    rintro z
    have hf := I.free
    rw [← z] at hf
    rcases hc with hc | hc
    · rw [← hc, hf] at e; cases e
    · rw [hf] at hc; cases hc
  · rw [List.length_set]; exact I.len
/-- a new exception is seen by its own frame -/
theorem looks_made {M : Model} {A : Around} {E : Value → Shared → Prop} {env : Env} {outer : List Env} {L : Addr} {base h : Heap} {vs : List Value} {Q : Unit → Shared → Prop}
    (hfr : A.frames = some (env :: outer)) (hf : env.frame = some L) (hkb : base.StaysIn h) (hl : h.FunFrames base (env :: outer)) (m : Heap.MadeExcOf h s.heap a (.ref C) vs)
    (hQ : ∀ h' t, Heap.HeldW base (env :: outer) a (.ref C) (.ref t) L h' → s.heap.UpToSlots h' → Q () { s with heap := h' }) : wpAny M A (noteFrame (.ref a) env) Q E s := by
  obtain ⟨t, he, htn, ht⟩ := m.there
  have fresh : base.get? a = none := by
    cases hq : base.get? a with
    | none => rfl
    | some o' => have z := hkb a o' hq; rw [m.new] at z; cases z
  unfold noteFrame
  simp only [hf]
  refine wpAny_bind (wpAny_field he rfl (x := .none) rfl ?_)
  rw [if_neg (by decide)]
  refine wpAny_entryW (a0 := .ref t) hfr (hl.of_keeps fun b o hb _ => ⟨o, m.keeps b o hb, rfl⟩) hf he (fun b o hb => m.keeps b o (hkb b o hb)) fresh rfl (by show 1 < 6; decide) rfl fun h' hN => ?_
  obtain ⟨x1, x2, x3, x4⟩ := hN
  exact hQ h' t ⟨x1, fresh, x2, x3⟩ x4
end

/-! ### try: .. except G as n: .. -/
def unb (i : Nat) : Fl → Fl
  | .nx ρ => .nx (ρ.set i none)
  | .bk ρ => .bk (ρ.set i none)
  | .ct ρ => .ct (ρ.set i none)
  | .rt d => .rt d
/-- behind a refusal nothing is known of the names but the handler's own -/
def sTry (i : Nat) (ok : Str → Bool) (gb gh : GS) : GS := fun ρ M => match gb ρ M with
  | .err c M1 => if ok c then match gh ((List.replicate ρ.length none).set i (some (.exc c))) M1 with
      | .ok f M2 => .ok (unb i f) M2
      | _ => .bad
    else .bad
  | o => o
abbrev tryB (X : Cx) (pn : List (Addr × Obj)) (E : Value → Shared → Prop) : Cx := { X with pn := pn, xe := E }
abbrev hand (X : Cx) (pn : List (Addr × Obj)) (a : Addr) : Cx := { X with A := X.A.mark (some (.ref a)), calm := false, pn := pn, xe := fun _ _ => False }
section
variable {X : Cx} {pins pins' pn : List (Addr × Obj)} {σ : L2.St} {H : Hp} {s : Shared} {E : Value → Shared → Prop} {a : Addr}
theorem ok_try (k : X.Ok) : (tryB X pn E).Ok := ⟨k.mod, k.kind, k.glob, k.blt, k.above, k.inj, k.has, k.cab, k.hd, k.frames, k.stk, k.exf, k.bs, k.bsz, k.noex, k.exfs, k.funs, k.frf⟩
theorem ok_hand (k : X.Ok) : (hand X pn a).Ok := ⟨k.mod, k.kind, k.glob, k.blt, k.above, k.inj, k.has, k.cab, (fun z => by cases z), k.frames, k.stk, k.exf, k.bs, k.bsz, k.noex, k.exfs, k.funs, k.frf⟩
theorem ok_untry (k : (tryB X pn E).Ok) : X.Ok := ⟨k.mod, k.kind, k.glob, k.blt, k.above, k.inj, k.has, k.cab, k.hd, k.frames, k.stk, k.exf, k.bs, k.bsz, k.noex, k.exfs, k.funs, k.frf⟩
theorem inv_try (I : L2.Inv X pins σ H s) : L2.Inv (tryB X (X.pn ++ pins) E) [] σ H s := ⟨ok_try I.ok, I.os, I.bare, I.base, I.loc, I.cell, I.free, I.freeC, fun p hp => I.pin p (by simpa using hp), I.hok, I.len⟩
theorem inv_untry (I : L2.Inv (tryB X (X.pn ++ pins) E) pins' σ H s) : L2.Inv X pins σ H s := ⟨ok_untry I.ok, I.os, I.bare, I.base, I.loc, I.cell, I.free, I.freeC, fun p hp => I.pin p (List.mem_append_left _ hp), I.hok, I.len⟩
theorem inv_hand (I : L2.Inv (tryB X pn E) pins' σ H s) : L2.Inv (hand X pn a) pins' σ H s := ⟨ok_hand (ok_untry I.ok), I.os, I.bare, I.base, I.loc, I.cell, I.free, I.freeC, I.pin, I.hok, I.len⟩
theorem inv_unhand (k : X.Ok) (I : L2.Inv (hand X (X.pn ++ pins) a) pins' σ H s) : L2.Inv X pins σ H s := ⟨k, I.os, I.bare, I.base, I.loc, I.cell, I.free, I.freeC, fun p hp => I.pin p (List.mem_append_left _ hp), I.hok, I.len⟩
end
theorem Den.clear {K : PySem.W.Frag} {θ : List Addr} {H : Hp} {σ : L2.St} {ρ : Rho} (h : Den K θ H σ ρ) (i : Nat) : Den K θ H (σ.set i none) (ρ.set i none) := by
  refine ⟨by rw [List.length_set, List.length_set]; exact h.len, fun j d e => ?_⟩
  by_cases hj : j = i
  · subst hj
    have hl : j < ρ.length := by have := (List.getElem?_eq_some_iff.mp e).1; rw [List.length_set] at this; exact this
    rw [List.getElem?_set_self hl] at e
    cases e
  · rw [List.getElem?_set_ne (Ne.symm hj)] at e
    obtain ⟨u, e1, r1⟩ := h.at_ j d e
    exact ⟨u, by rw [List.getElem?_set_ne (Ne.symm hj)]; exact e1, r1⟩
theorem den_only {K : PySem.W.Frag} {θ : List Addr} {H : Hp} {σ : L2.St} {n i : Nat} {d : D} {v : V} (hl : σ.length = n) (r : isD K θ H d v) : Den K θ H (σ.set i (some v)) ((List.replicate n none).set i (some d)) := by
  refine ⟨by rw [List.length_set, List.length_set, List.length_replicate, hl], fun j d' e => ?_⟩
  by_cases hj : j = i
  · subst hj
    have hlt : j < n := by have := (List.getElem?_eq_some_iff.mp e).1; rw [List.length_set, List.length_replicate] at this; exact this
    rw [List.getElem?_set_self (by rw [List.length_replicate]; exact hlt)] at e
    have e' : d = d' := by simpa using e
    subst e'
    exact ⟨v, List.getElem?_set_self (by rw [hl]; exact hlt), r⟩
  · rw [List.getElem?_set_ne (Ne.symm hj), List.getElem?_replicate] at e
    split at e <;> cases e
theorem ds_try {X : Cx} {G n : Str} {Ga : Addr} {i : Nat} {ok : Str → Bool} {gb gh : GS} {body suite : List Stmt} {b0 : Stmt} {np hpos pos : Pos} (kG : Ec X.K X.mg G Ga) (hok : ∀ c C, ok c = true → ClsAt X.K c C → PySem.W.mroIn X.K C (.ref Ga) = some true)
    (hg : Gl X G) (hst : X.stack = X.env :: X.outer) (hf : X.env.frame = some X.env.locals) (hN : X.N.Nodup) (hi : X.N[i]? = some n) (hl : X.env.kindOf n = some .local) (hfn : X.fn n = true ∨ X.env.scope.names.lookup n = some .local)
    (hb : ∀ pn E, PSs (tryB X pn E) body (tS (tryB X pn E) gb)) (hh : ∀ pn a, PSs (hand X pn a) (b0 :: suite) (tS (hand X pn a) gh)) (hd : (G == ("__debug__" : Str)) = false := by decide) :
    PS X (.Try body [.ExceptHandler (some (.Name G np)) (some n) (b0 :: suite) hpos] [] [] pos) (tS X (sTry i ok gb gh)) := by
  intro pins s σ H D I h
  obtain ⟨ρ, θ, M, hdn, hw, h⟩ := h
  have fin : ∀ (f : Flow) (s1 : Shared) (E : Value → Shared → Prop), SP (tryB X (X.pn ++ pins) E) [] D f s1 → SP X pins D f s1 := fun f s1 E q => by
    cases f with
    | next => obtain ⟨σ', H', I', q⟩ := q; exact ⟨σ', H', inv_untry I', q⟩
    | brk => obtain ⟨σ', H', I', q⟩ := q; exact ⟨σ', H', inv_untry I', q⟩
    | cont => obtain ⟨σ', H', I', q⟩ := q; exact ⟨σ', H', inv_untry I', q⟩
    | ret u => obtain ⟨v, σ', H', I', r, q⟩ := q; exact ⟨v, σ', H', inv_untry I', r, q⟩
  refine wpAny_Try_except ?_
  refine wpAny_mono (hb (X.pn ++ pins) (fun e s₁ => wpAny (model X.prog X.w) X.A (noteFrame e X.env) (fun _ s₂ => wpAny (model X.prog X.w) X.A (setFlight e none) (fun _ s₃ => wpAny (model X.prog X.w) X.A (handleBy e X.env [.ExceptHandler (some (.Name G np)) (some n) (b0 :: suite) hpos]) (SP X pins D) X.xe s₃) X.xe s₂) X.xe s₁) [] s σ H D (inv_try I) ⟨ρ, θ, M, hdn, hw, ?_⟩) (fun f s1 q => ?_) fun _ _ y => y
  · unfold sTry at h
    cases q : gb ρ M with
    | ok f M1 => rw [q] at h; cases f <;> exact h
    | bad => rw [q] at h; exact h
    | err c M1 =>
      rw [q] at h
      have h : FinS X θ H D (if ok c = true then (match gh ((List.replicate ρ.length none).set i (some (.exc c))) M1 with | .ok f M2 => .ok (unb i f) M2 | _ => .bad) else .bad) := h
      by_cases hc : ok c = true
      · rw [if_pos hc] at h
        intro C θ1 H1 a s1 kC g1 fl
        obtain ⟨pins', σ', fl⟩ := fl
        -- behind the landing
        have land : ∀ (B : Heap) (a0 : Value) (s5 : Shared), L2.Inv (tryB X (X.pn ++ pins) (fun e s₁ => wpAny (model X.prog X.w) X.A (noteFrame e X.env) (fun _ s₂ => wpAny (model X.prog X.w) X.A (setFlight e none) (fun _ s₃ => wpAny (model X.prog X.w) X.A (handleBy e X.env [.ExceptHandler (some (.Name G np)) (some n) (b0 :: suite) hpos]) (SP X pins D) X.xe s₃) X.xe s₂) X.xe s₁)) pins' σ' H1 s5 → H1 a = none →
            Heap.FlyingW B X.stack a (.ref C) a0 s5.heap → Cov (hand X (X.pn ++ pins) a) pins' H1 B → wpAny (model X.prog X.w) X.A (handleBy (.ref a) X.env [.ExceptHandler (some (.Name G np)) (some n) (b0 :: suite) hpos]) (SP X pins D) X.xe s5 := fun B a0 s5 I5 hn fl5 cov => by
          have J5 : L2.Inv (hand X (X.pn ++ pins) a) pins' σ' H1 s5 := inv_hand I5
          refine wpAny_handleBy_cons (codeAny_handlers_test (ld_glob (X := hand X (X.pn ++ pins) a) J5 hg kG.m ?_ hd)) (by intro q; cases q)
          obtain ⟨hp5, gg5, dd5, tt5, os5⟩ := s5
          refine exc_matches J5.kIn fl5.there kG.k kG.ty (hok c C hc kC) (codeAny_handlers_suite_as ?_)
          refine lands_againW fl5 fun h6 fl6 up6 => ?_
          have J6 := inv_seen J5 cov fl5.1 fl6.1 up6
          have J7 := inv_track J6 cov fl6 hn
          refine store_ok (X := hand X (X.pn ++ pins) a) J7 hN hi (.inl hl) (v := .ref a) rfl (fun s8 J8 => ?_) hfn
          have g7 : Go X.K θ1 H1 θ1 (upd H1 a (excO a C)) M1 := go_new g1.wr hn
          have ra : isD X.K θ1 (upd H1 a (excO a C)) (.exc c) (.ref a) := ⟨a, C, rfl, kC, upd_same, g1.wr.fresh hn⟩
          have hlen : σ'.length = ρ.length := by rw [hdn.len, J7.len]; exact I.len.symm
          refine wpAny_mono (hh (X.pn ++ pins) a pins' s8 _ _ { nx := fun σ2 H2 => D.nx (σ2.set i none) H2, bk := fun σ2 H2 => D.bk (σ2.set i none) H2, ct := fun σ2 H2 => D.ct (σ2.set i none) H2, rt := D.rt } J8 ⟨_, θ1, M1, den_only hlen ra, g7.wr, ?_⟩) (fun f s9 q9 => ?_) fun _ _ z => z.elim
          · cases qg : gh ((List.replicate ρ.length none).set i (some (.exc c))) M1 with
            | bad => rw [qg] at h; exact h
            | err c2 M2 => rw [qg] at h; exact h.elim
            | ok f M2 =>
              rw [qg] at h
              have gg := g1.trans g7
              cases f with
              | nx ρ2 => exact fun σ2 θ2 H2 g2 d2 => h (σ2.set i none) θ2 H2 (gg.trans g2) (d2.clear i)
              | bk ρ2 => exact fun σ2 θ2 H2 g2 d2 => h (σ2.set i none) θ2 H2 (gg.trans g2) (d2.clear i)
              | ct ρ2 => exact fun σ2 θ2 H2 g2 d2 => h (σ2.set i none) θ2 H2 (gg.trans g2) (d2.clear i)
              | rt d => exact fun v θ2 H2 g2 r2 => h v θ2 H2 (gg.trans g2) r2
          · cases f with
            | next =>
              obtain ⟨σ9, H9, I9, q9⟩ := q9
              exact name_goes (X := hand X (X.pn ++ pins) a) I9 hN hi hl fun s' I' => ⟨_, H9, inv_unhand I.ok I', q9⟩
            | brk =>
              obtain ⟨σ9, H9, I9, q9⟩ := q9
              exact name_goes (X := hand X (X.pn ++ pins) a) I9 hN hi hl fun s' I' => ⟨_, H9, inv_unhand I.ok I', q9⟩
            | cont =>
              obtain ⟨σ9, H9, I9, q9⟩ := q9
              exact name_goes (X := hand X (X.pn ++ pins) a) I9 hN hi hl fun s' I' => ⟨_, H9, inv_unhand I.ok I', q9⟩
            | ret u =>
              obtain ⟨v9, σ9, H9, I9, r9, q9⟩ := q9
              exact name_goes (X := hand X (X.pn ++ pins) a) I9 hN hi hl fun s' I' => ⟨v9, _, H9, inv_unhand I.ok I', r9, q9⟩
        have hfrm : X.A.frames = some (X.env :: X.outer) := by rw [← hst]; exact I.ok.frames
        rcases fl with ⟨h0, vs, I0, m⟩ | ⟨I0, hn, B, a0, fl, cov⟩ | ⟨I0, hn, B, a0, L, hL, held, cov⟩
        · have cov := cov_hide I0
          have hid : ∀ b o, (PySem.W.hideAll h0 (frs X.stack)).get? b = some o → h0.get? b = some o := fun b o q => PySem.W.of_hideAll _ q
          have ff : h0.FunFrames (PySem.W.hideAll h0 (frs X.stack)) (X.env :: X.outer) := by rw [← hst]; exact frames_hide I0
          refine looks_made hfrm hf hid ff m fun h4 t held4 up4 => ?_
          refine wpAny_landsW held4 fun h5 fl5 up5 => ?_
          have I1 := I0.kept (t' := s1.toks) (h' := s1.heap) m.keeps
          have I5 := inv_seen (s := s1) (h' := h5) I1 cov (fun b o q => m.keeps b o (hid b o q)) fl5.1 (up4.trans up5)
          have fl6 := fl5
          rw [← hst] at fl6
          exact land _ _ _ I5 (made_free I0 m) fl6 ⟨cov.trk, cov.pin, cov.old⟩
        · have fl : Heap.FlyingW B (X.env :: X.outer) a (.ref C) a0 s1.heap := by rw [← hst]; exact fl
          refine wpAny_looks_onW hfrm hf fl fun h4 held4 up4 => ?_
          refine wpAny_landsW held4 fun h5 fl5 up5 => ?_
          have I5 := inv_seen (s := s1) (h' := h5) I0 cov fl.1 fl5.1 (up4.trans up5)
          have fl6 := fl5
          rw [← hst] at fl6
          exact land B a0 _ I5 hn fl6 ⟨cov.trk, cov.pin, cov.old⟩
        · refine wpAny_noteFrame_againW hL held.2.2.2 ?_
          refine wpAny_landsW held fun h5 fl5 up5 => ?_
          have I5 := inv_seen (s := s1) (h' := h5) I0 cov held.1 fl5.1 up5
          exact land B a0 _ I5 hn fl5 ⟨cov.trk, cov.pin, cov.old⟩
      · rw [if_neg hc] at h
        exact h.elim
  · cases f with
    | next => exact wpAny_execs_nil (fin .next s1 _ q)
    | brk => exact fin .brk s1 _ q
    | cont => exact fin .cont s1 _ q
    | ret u => exact fin (.ret u) s1 _ q
end DL

set_option Elab.async false
set_option linter.all false
set_option maxRecDepth 100000
/-! The data layer: divmod, texts in braces, count, index, isinstance of an exception. -/
namespace DL
open PySem PySem.Spec PyProof.Rows L2
section
variable {X : Cx}
/-! ### divmod -/
def divF : FD := fun ds M => match ds with
  | [.int i, .int j] => if 0 < j ∧ j.natAbs.log2 < 9000 then .ok (.tup [.int (i / j), .int (i % j)]) M else .bad
  | _ => .bad
/-! ### f-strings -/
def fmtD : D → Option Str
  | .int a => if a.natAbs.log2 < 1920 then some (toString a) else none
  | .str x => if x.length ≤ sizeLine then some x else none
  | _ => none
def gFmt (g : GE) : GE := fun ρ M => (g ρ M).bind fun d M1 => match fmtD d with
  | some x => .ok (.str x) M1
  | none => .bad
inductive PEs (X : Cx) : List Expr → List GE → Prop where
  | nil : PEs X [] []
  | cons {e : Expr} {es : List Expr} {g : GE} {gs : List GE} : PE X e (tE X g) → PEs X es gs → PEs X (e :: es) (g :: gs)
def joinG : List GE → Str → GE
  | [], acc => fun _ M => .ok (.str acc) M
  | g :: gs, acc => fun ρ M => (g ρ M).bind fun d M1 => match d with
    | .str y => if (acc ++ y).length ≤ sizeLine then joinG gs (acc ++ y) ρ M1 else .bad
    | _ => .bad
/-! ### xs.count(x), xs.index(x) of flat items -/
theorem countP_eqU {x : V} : ∀ {xs : List V} {us : List Value}, Vals xs us → xs.all flatV = true → us.countP (eqU x) = xs.countP fun y => eqV y x
  | _, _, .nil, _ => rfl
  | y :: xs, u :: us, .cons r t, f => by
    rw [List.all_cons, Bool.and_eq_true] at f
    rw [List.countP_cons, List.countP_cons, eqU_of r f.1, countP_eqU t f.2]
theorem idx_eqU {x : V} : ∀ {xs : List V} {us : List Value}, Vals xs us → xs.all flatV = true → us.findIdx? (eqU x) = xs.findIdx? fun y => eqV y x
  | _, _, .nil, _ => rfl
  | y :: xs, u :: us, .cons r t, f => by
    rw [List.all_cons, Bool.and_eq_true] at f
    rw [List.findIdx?_cons, List.findIdx?_cons, eqU_of r f.1, idx_eqU t f.2]
def lstOf (d : D) (M : Mem) : Option (List D) := match d with
  | .lst xs => some xs
  | .ro xs => some xs
  | .mr k => match M[k]? with
    | some (.lst xs) => some xs
    | _ => none
  | _ => none
theorem lst_of {K : PySem.W.Frag} {θ : List Addr} {H : Hp} {M : Mem} {d : D} {xs : List D} {v : V} (hw : Wr K θ H M) (r : isD K θ H d v) (e : lstOf d M = some xs) : ∃ a vs, v = .ref a ∧ SqL K H a vs ∧ isDs K θ H xs vs := by
  cases d with
  | lst ys => cases e; obtain ⟨a, vs, ea, ta, ra⟩ := r; exact ⟨a, vs, ea, ta.sq, ra⟩
  | ro ys => cases e; obtain ⟨a, vs, ea, ta, ra⟩ := r; exact ⟨a, vs, ea, ta.sq, ra⟩
  | mr k =>
    obtain ⟨a, ea, ta⟩ := r
    have e : (match M[k]? with | some (.lst xs) => some xs | _ => none) = some xs := e
    cases q : M[k]? with
    | none => rw [q] at e; cases e
    | some m =>
      cases m with
      | lst ys =>
        rw [q] at e
        cases e
        obtain ⟨vs, hv, ra⟩ := hw.at_ k a _ ta q
        exact ⟨a, vs, ea, .inl (.inl hv), ra⟩
      | _ => rw [q] at e; cases e
  | _ => cases e
def rCount (K : PySem.W.Frag) : V → List V → Hp → VK → Prop := fun x vs H Q => ∃ p xs y, x = .ref p ∧ vs = [y] ∧ SqL K H p xs ∧ flatV y = true ∧ xs.all flatV = true ∧ Q (.int (xs.countP fun z => eqV z y)) H
theorem mt_count : MtR X "list.count" (rCount X.K) := by
  intro pins s σ H x vs v us Q I rx rv h
  obtain ⟨p, xs, y, rfl, rfl, hq, fy, fs, q⟩ := h
  cases rx
  obtain ⟨u, rfl, ru⟩ := rv.one
  obtain ⟨its, r, ⟨o, n, h1, h2, h3, h4⟩, hz⟩ := I.list hq
  obtain ⟨c, dd, dat, sl⟩ := o
  have e1 : c = .type "list" := h2
  have e2 : dat = .seq its.toArray n := h4
  subst e1; subst e2
  refine call_meets F.slot_list_count ⟨_, h1, rfl⟩ F.entry_list_count (F.args_list_count_2 _ _) (SeqAt.list_countAt p its.toArray n dd sl u (eqU y)) ⟨h1, fun w hw => mem_eqAt ru fy r fs w (by simpa using hw), ?_⟩
  refine ⟨.int (xs.countP fun z => eqV z y), H, I.tok _, ⟨s.toks, ?_⟩, q⟩
  rw [← countP_eqU r fs]
def rIndex (K : PySem.W.Frag) : V → List V → Hp → VK → Prop := fun x vs H Q => ∃ p xs y j, x = .ref p ∧ vs = [y] ∧ SqL K H p xs ∧ flatV y = true ∧ xs.all flatV = true ∧ (xs.findIdx? fun z => eqV z y) = some j ∧ Q (.int (j : Nat)) H
theorem mt_index : MtR X "list.index" (rIndex X.K) := by
  intro pins s σ H x vs v us Q I rx rv h
  obtain ⟨p, xs, y, j, rfl, rfl, hq, fy, fs, hj, q⟩ := h
  cases rx
  obtain ⟨u, rfl, ru⟩ := rv.one
  obtain ⟨its, r, ⟨o, n, h1, h2, h3, h4⟩, hz⟩ := I.list hq
  obtain ⟨c, dd, dat, sl⟩ := o
  have e1 : c = .type "list" := h2
  have e2 : dat = .seq its.toArray n := h4
  subst e1; subst e2
  rw [← idx_eqU r fs] at hj
  obtain ⟨hlt, hhit, hno⟩ := List.findIdx?_eq_some_iff_getElem.mp hj
  have hsz : j < its.toArray.size := by simpa using hlt
  have hsmall : (j : Int) < 2 ^ 63 - 1 := by
    have l1 := r.length
    have l2 := line63
    omega
  refine call_meets F.slot_list_index ⟨_, h1, rfl⟩ F.entry_list_index (F.args_list_index_2 _ _) (SeqAt.list_indexAt p its.toArray n dd sl u (eqU y) j hsz hsmall (by simpa using hhit) (fun m hm hmj => by have := hno m hmj; simpa using this)) ⟨h1, fun w hw => mem_eqAt ru fy r fs w (by simpa using hw), ?_⟩
  exact ⟨.int j, H, I.tok _, ⟨s.toks, rfl⟩, q⟩
def gMeth (F : List D → D → Mem → Out D) (go ge : GE) : GE := fun ρ M => (go ρ M).bind fun o M1 => match lstOf o M1 with
  | some _ => (ge ρ M1).bind fun x M2 => match lstOf o M2 with
    | some xs => F xs x M2
    | none => .bad
  | none => .bad
def countF (xs : List D) (x : D) (M : Mem) : Out D := if flatD x && xs.all flatD then .ok (.int (xs.countP fun y => eqB y x)) M else .bad
def indexF (xs : List D) (x : D) (M : Mem) : Out D := if flatD x && xs.all flatD then (match xs.findIdx? fun y => eqB y x with | some j => .ok (.int (j : Nat)) M | none => .bad) else .bad
theorem countP_toV {x : D} : ∀ {ds : List D}, flatD x = true → ds.all flatD = true → (ds.map toV).countP (fun z => eqV z (toV x)) = ds.countP fun y => eqB y x
  | [], _, _ => rfl
  | d :: ds, fx, f => by
    rw [List.all_cons, Bool.and_eq_true] at f
    rw [List.map_cons, List.countP_cons, List.countP_cons, countP_toV fx f.2, eqV_toV f.1 fx]
theorem idx_toV {x : D} : ∀ {ds : List D}, flatD x = true → ds.all flatD = true → (ds.map toV).findIdx? (fun z => eqV z (toV x)) = ds.findIdx? fun y => eqB y x
  | [], _, _ => rfl
  | d :: ds, fx, f => by
    rw [List.all_cons, Bool.and_eq_true] at f
    rw [List.map_cons, List.findIdx?_cons, List.findIdx?_cons, idx_toV fx f.2, eqV_toV f.1 fx]
section
variable {o e : Expr} {go ge : GE} {apos cpos : Pos}
theorem meth_of {F : List D → D → Mem → Out D} {rr : V → List V → Hp → VK → Prop} {σ : L2.St} {H : Hp} {Q : VK} (hs : starEach [e] X.env = (false, eval e X.env) :: starEach [] X.env)
    (hF : ∀ θ H M o x xs v y Q, Wr X.K θ H M → isD X.K θ H o v → lstOf o M = some xs → isD X.K θ H x y → FinE X θ H Q (F xs x M) → rr v [y] H Q) (h : tE X (gMeth F go ge) σ H Q) : tBM X.K "list" rr (tE X go) (tCons (tE X ge) tNil) σ H Q := by
  obtain ⟨ρ, θ, M, hd, hw, h⟩ := h
  refine thenE hd hw (FinE X θ H Q) (fun c M' h => h) (fun h => h) h fun d M1 v θ1 H1 g1 r1 h1 => ?_
  have h2 := FinE.go g1 h1
  cases ql : lstOf d M1 with
  | none => rw [ql] at h2; exact h2.elim
  | some xs0 =>
    rw [ql] at h2
    obtain ⟨a, vs, ea, sq, ra⟩ := lst_of g1.wr r1 ql
    refine ⟨by rw [ea]; exact .inl ⟨rfl, vs, sq⟩, ?_⟩
    refine thenE (hd.go g1) g1.wr (FinE X θ1 H1 Q) (fun c M' h => h) (fun h => h) h2 fun dx M2 vx θ2 H2 g2 r2 h3 => ?_
    have h4 := FinE.go g2 h3
    cases ql2 : lstOf d M2 with
    | none => rw [ql2] at h4; exact h4.elim
    | some xs =>
      rw [ql2] at h4
      exact hF θ2 H2 M2 d dx xs v vx Q g2.wr (r1.go g2) ql2 r2 h4
theorem count_of {θ : List Addr} {H : Hp} {M : Mem} {o x : D} {xs : List D} {v y : V} {Q : VK} (hw : Wr X.K θ H M) (r : isD X.K θ H o v) (el : lstOf o M = some xs) (ry : isD X.K θ H x y) (h : FinE X θ H Q (countF xs x M)) : rCount X.K v [y] H Q := by
  obtain ⟨a, vs, ea, sq, ra⟩ := lst_of hw r el
  unfold countF at h
  split at h
  · rename_i hc
    rw [Bool.and_eq_true] at hc
    obtain ⟨e1, f1⟩ := flat_is ry hc.1
    obtain ⟨e2, f2⟩ := flat_are ra hc.2
    refine ⟨a, vs, y, ea, rfl, sq, f1, f2, ?_⟩
    rw [e1, e2, countP_toV hc.1 hc.2]
    exact h _ θ H (.refl hw) rfl
  · exact h.elim
theorem index_of {θ : List Addr} {H : Hp} {M : Mem} {o x : D} {xs : List D} {v y : V} {Q : VK} (hw : Wr X.K θ H M) (r : isD X.K θ H o v) (el : lstOf o M = some xs) (ry : isD X.K θ H x y) (h : FinE X θ H Q (indexF xs x M)) : rIndex X.K v [y] H Q := by
  obtain ⟨a, vs, ea, sq, ra⟩ := lst_of hw r el
  unfold indexF at h
  split at h
  · rename_i hc
    rw [Bool.and_eq_true] at hc
    obtain ⟨e1, f1⟩ := flat_is ry hc.1
    obtain ⟨e2, f2⟩ := flat_are ra hc.2
    split at h
    · rename_i j hj
      exact ⟨a, vs, y, j, ea, rfl, sq, f1, f2, by rw [e1, e2, idx_toV hc.1 hc.2]; exact hj, h _ θ H (.refl hw) rfl⟩
    · exact h.elim
  · exact h.elim
theorem fewOne {env : Env} (h : noStar e = true) : ((backTo cpos (starEach [e] env)).all (fun x => !x.1) && (backToKw cpos (keywordEach [] env)).all (fun x => x.1.isSome)
      && decide ([e].length + ([] : List Keyword).length + (if ([] : List Keyword).isEmpty then 0 else 1) < 30)) = true := by
  rw [sE h]; rfl
theorem de_count (ho : PE X o (tE X go)) (he : PE X e (tE X ge)) (h1 : noStar e = true := by rfl) (hbase : attributeBase o "count" X.env (eval o X.env) = eval o X.env := by rfl) (hline : (apos.endLine == cpos.line) = true := by rfl) :
    PE X (.Call (.Attribute o "count" apos) [e] [] cpos) (tE X (gMeth countF go ge)) :=
  (pe_bm PySem.F.plainAttrs_list PySem.F.slot_list_count PySem.F.type_list_count mt_count ho (pa_cons he pa_nil (sE h1)) hbase (fewOne h1) hline (sE h1) rfl).of fun σ H Q h => meth_of (sE h1) (fun θ H M o x xs v y Q => count_of) h
theorem de_index (ho : PE X o (tE X go)) (he : PE X e (tE X ge)) (h1 : noStar e = true := by rfl) (hbase : attributeBase o "index" X.env (eval o X.env) = eval o X.env := by rfl) (hline : (apos.endLine == cpos.line) = true := by rfl) :
    PE X (.Call (.Attribute o "index" apos) [e] [] cpos) (tE X (gMeth indexF go ge)) :=
  (pe_bm PySem.F.plainAttrs_list PySem.F.slot_list_index PySem.F.type_list_index mt_index ho (pa_cons he pa_nil (sE h1)) hbase (fewOne h1) hline (sE h1) rfl).of fun σ H Q h => meth_of (sE h1) (fun θ H M o x xs v y Q => index_of) h
end

/-! ### isinstance of an exception -/
def gIsx (ok : Str → Option Bool) (g : GE) : GE := fun ρ M => (g ρ M).bind fun d M1 => match d with
  | .exc c => match ok c with
    | some b => .ok (.bl b) M1
    | none => .bad
  | _ => .bad
theorem cd_isx {c0 : Value} {v0 : V} {ok : Str → Option Bool} (r0 : ∀ c, L2.RelV v0 c → c = c0) (hk : ∀ c b C, ok c = some b → ClsAt X.K c C → ExcK X.K C ∧ PySem.W.kitOne X.K (.ref C) c0 = some b) :
    CallR X (.builtin "isinstance") (fun xs H Q => ∃ θ M d v, Wr X.K θ H M ∧ isD X.K θ H d v ∧ xs = [v, v0] ∧ FinE X θ H Q (match d with | .exc c => (match ok c with | some b => .ok (.bl b) M | none => .bad) | _ => .bad)) := by
  intro pins s σ H xs us Q I r h
  obtain ⟨θ, M, d, v, hw, rv, e, h⟩ := h
  subst e
  obtain ⟨u, c, rfl, ru, rc⟩ := vals2 r
  have ec : c = c0 := r0 c rc
  subst ec
  cases d with
  | exc c =>
    obtain ⟨a, C, ea, kC, t, na⟩ := rv
    subst ea; cases ru
    cases q : ok c with
    | none => simp only [q] at h; exact h.elim
    | some b =>
      simp only [q] at h
      obtain ⟨kx, e1⟩ := hk c b C q kC
      obtain ⟨p, _, _⟩ := I.hok a _ t
      exact PySem.W.kia_one (kitx_exc kx) I.kIn p e1 (fun z => nomatch z) fun tk => ⟨.bl b, H, I.tok _, rfl, h _ θ H (.refl hw) rfl⟩
  | _ => exact h.elim
def okL (l : List (Str × Bool)) (c : Str) : Option Bool := l.lookup c
theorem okn {P : Str × Bool → Prop} : ∀ p ∈ ([] : List (Str × Bool)), P p := fun p hp => by cases hp
theorem okc {P : Str × Bool → Prop} {x : Str × Bool} {l : List (Str × Bool)} (h : P x) (t : ∀ p ∈ l, P p) : ∀ p ∈ x :: l, P p := fun p hp => by
  rcases List.mem_cons.mp hp with e | e
  · rw [e]; exact h
  · exact t p e
theorem okL_hk {K : PySem.W.Frag} {l : List (Str × Bool)} {c0 : Value} (h : ∀ p ∈ l, ∃ C, ClsAt K p.1 C ∧ ExcK K C ∧ PySem.W.kitOne K (.ref C) c0 = some p.2) : ∀ c b C, okL l c = some b → ClsAt K c C → ExcK K C ∧ PySem.W.kitOne K (.ref C) c0 = some b := fun c b C e kC => by
  obtain ⟨C', k1, k2, k3⟩ := h (c, b) (PySem.mem_of_lookup e)
  have := k1.inj kC
  subst this
  exact ⟨k2, k3⟩
theorem kit_own {K : PySem.W.Frag} {mg : Str → Option Value} {g : Str} {C G : Addr} {b : Bool} (kG : Ec K mg g G) (hm : PySem.W.mroIn K C (.ref G) = some b) : PySem.W.kitOne K (.ref C) (.ref G) = some b := by
  unfold PySem.W.kitOne
  split
  · rename_i q
    have e : C = G := Value.ref.inj (beq_iff_eq.mp q)
    subst e
    rw [kG.sf] at hm
    exact hm
  · show (if ((PySem.W.clsIn K G).isSome && PySem.W.typeIn K (.ref G) == some (.type "type")) = true then PySem.W.subIn K (.ref C) (.ref G) else none) = some b
    rw [if_pos (by rw [kG.k.cl, kG.ty]; rfl)]
    exact hm
theorem kit_bltn {K : PySem.W.Frag} {T : String} {C : Addr} {b : Bool} (hT : PySem.W.kitMeta T = true) (hm : PySem.W.mroIn K C (.type T) = some b) : PySem.W.kitOne K (.ref C) (.type T) = some b := by
  unfold PySem.W.kitOne
  rw [if_neg (by intro q; cases beq_iff_eq.mp q)]
  show (if PySem.W.kitMeta T = true then PySem.W.subIn K (.ref C) (.type T) else none) = some b
  rw [if_pos hT]
  exact hm
section
variable {e : Expr} {g : GE} {p p2 pos : Pos} {x : Str} {ok : Str → Option Bool}
theorem isx_of {v0 : V} {σ : L2.St} {H : Hp} {Q : VK} (h : tE X (gIsx ok g) σ H Q) : tCB (fun xs H Q => ∃ θ M d v, Wr X.K θ H M ∧ isD X.K θ H d v ∧ xs = [v, v0] ∧ FinE X θ H Q (match d with | .exc c => (match ok c with | some b => .ok (.bl b) M | none => .bad) | _ => .bad)) (tCons (tE X g) (tCons (tC v0) tNil)) σ H Q := by
  obtain ⟨ρ, θ, M, hd, hw, h⟩ := h
  refine thenE hd hw (FinE X θ H Q) (fun c M' h => h) (fun h => h) h fun d M1 v θ1 H1 g1 r1 h1 => ?_
  exact ⟨θ1, M1, d, v, g1.wr, r1, rfl, FinE.go g1 h1⟩
theorem de_isx {G : Addr} (hm : X.mg x = some (.ref G)) (hk : ∀ c b C, ok c = some b → ClsAt X.K c C → ExcK X.K C ∧ PySem.W.kitOne X.K (.ref C) (.ref G) = some b) (hg : Gl X x) (hgi : Gl X "isinstance") (hmi : X.mg "isinstance" = none) (he : PE X e (tE X g))
    (h1 : noStar e = true := by rfl) (hd : (x == ("__debug__" : Str)) = false := by decide) : PE X (.Call (.Name "isinstance" p) [e, .Name x p2] [] pos) (tE X (gIsx ok g)) :=
  (pe_callB (cd_isx (v0 := .ref G) (fun c z => z) hk) hgi hmi boot_isinstance (pa_cons he (pa_cons (pe_glob hg hm (v := .ref G) rfl hd) pa_nil (sE rfl)) (sE h1)) (by decide) (by decide) (sE h1) (sS rfl)).of fun σ H Q h => isx_of h
theorem de_isxB {T : String} (hv : bootBuiltins x = some (.type T)) (hm : X.mg x = none) (hk : ∀ c b C, ok c = some b → ClsAt X.K c C → ExcK X.K C ∧ PySem.W.kitOne X.K (.ref C) (.type T) = some b) (hg : Gl X x) (hgi : Gl X "isinstance") (hmi : X.mg "isinstance" = none) (he : PE X e (tE X g))
    (h1 : noStar e = true := by rfl) (hn : x ≠ "__name__" := by decide) (hd : (x == ("__debug__" : Str)) = false := by decide) : PE X (.Call (.Name "isinstance" p) [e, .Name x p2] [] pos) (tE X (gIsx ok g)) :=
  (pe_callB (cd_isx (v0 := .ty T) (fun c z => z) hk) hgi hmi boot_isinstance (pa_cons he (pa_cons (pe_bltn hg hm hv (v := .ty T) rfl hn hd) pa_nil (sE rfl)) (sE h1)) (by decide) (by decide) (sE h1) (sS rfl)).of fun σ H Q h => isx_of h
end
/-! ### which refusals a handler takes -/
theorem okt {K : PySem.W.Frag} {l : List Str} {Ga : Addr} (h : ∀ c ∈ l, ∃ C, ClsAt K c C ∧ PySem.W.mroIn K C (.ref Ga) = some true) : ∀ c C, l.contains c = true → ClsAt K c C → PySem.W.mroIn K C (.ref Ga) = some true := fun c C e kC => by
  obtain ⟨C', k1, k2⟩ := h c (List.contains_iff_mem.mp e)
  have := k1.inj kC
  subst this
  exact k2
theorem otn {P : Str → Prop} : ∀ p ∈ ([] : List Str), P p := fun p hp => by cases hp
theorem otc {P : Str → Prop} {x : Str} {l : List Str} (h : P x) (t : ∀ p ∈ l, P p) : ∀ p ∈ x :: l, P p := fun p hp => by
  rcases List.mem_cons.mp hp with e | e
  · rw [e]; exact h
  · exact t p e
end
end DL
namespace DL
open PySem L2
theorem cx_no {P : Program} {w : World} {H : Hp} {s : Shared} {e : Value} {s' : Shared} (z : CXd P w [] H s (fun _ _ _ => False) e s') : False := by
  obtain ⟨_, _, _, _, _, _, _, _, _, _, _, _, _, _, h⟩ := z
  exact h
end DL

set_option Elab.async false
set_option linter.all false
set_option maxRecDepth 100000
/-! The data layer: instances of the text's own classes: made, their fields, their methods; x += e. -/
namespace DL
open PySem PySem.Spec PyProof.Rows L2
section
variable {K : PySem.W.Frag} {θ : List Addr} {H : Hp} {M : Mem}
def putFD (f : Str) (d : D) : List (Str × D) → List (Str × D)
  | [] => [(f, d)]
  | (g, x) :: r => if g = f then (g, d) :: r else (g, x) :: putFD f d r
end
/-- a class of the text: called c, at C -/
structure Kc (K : PySem.W.Frag) (mg : Str → Option Value) (c : Str) (C : Addr) : Prop where
  at_ : ClsAt K c C
  m : mg c = some (.ref C)
  cl : Cls K C
/-- the instance that o is -/
def objOf (c : Str) (o : D) (M : Mem) : Option (Nat × List (Str × D)) := match o with
  | .mr k => match M[k]? with
    | some (.obj c' fs) => if c' = c then some (k, fs) else none
    | _ => none
  | _ => none
section
variable {X : Cx} {c f : Str} {C : Addr} {o e value : Expr} {g go gv : GE} {pos pos' apos p : Pos}
def gFld (c f : Str) (g : GE) : GE := fun ρ M => (g ρ M).bind fun o M1 => match objOf c o M1 with
  | some (_, fs) => match fs.lookup f with
    | some d => .ok d M1
    | none => .bad
  | none => .bad
def setF (c f : Str) (o y : D) (M : Mem) : Out Unit := match objOf c o M with
  | some (k, fs) => if fs.length < 1000 then .ok () (M.set k (.obj c (putFD f y fs))) else .bad
  | none => .bad
def sFldD (c f : Str) (go gv : GE) : GS := fun ρ M => (gv ρ M).bind fun y M1 => (go ρ M1).bind fun o M2 => (setF c f o y M2).bind fun _ M3 => .ok (.nx ρ) M3
/-- o.m(..) -/
def gMth (c m : Str) (n : Nat) (F : FD) (go : GE) (ga : GA) : GE := fun ρ M => (go ρ M).bind fun o M1 => match objOf c o M1 with
  | some (_, fs) => if fs.lookup m = none then (ga ρ M1).bind fun ds M2 => if ds.length + 1 = n then F (o :: ds) M2 else .bad else .bad
  | none => .bad
section
variable {m : Str} {k n : Nat} {fa : Addr} {fd : FuncData} {ps : List Str} {F : FD} {ga : GA} {es : List Expr} {pl : Sem Bool}
end
/-- C(..) -/
def gMake (c : Str) (n : Nat) (F : FD) (ga : GA) : GE := fun ρ M => (ga ρ M).bind fun ds M1 => if ds.length + 1 = n then (F (.mr M1.length :: ds) (M1 ++ [.obj c []])).bind fun d M2 => match d with
    | .non => .ok (.mr M1.length) M2
    | _ => .bad
  else .bad
section
variable {x : Str} {k n : Nat} {fa : Addr} {fd : FuncData} {ps : List Str} {F : FD} {ga : GA} {es : List Expr}
end
/-! ### x += e, o.f += e -/
def augI (add : Bool) (x y : D) (M : Mem) : Out D := match x, y with
  | .int i, .int j => .ok (.int (if add then i + j else i - j)) M
  | _, _ => .bad
def sAug (i : Nat) (add : Bool) (g : GE) : GS := fun ρ M => (gVar i ρ M).bind fun x M0 => (g ρ M0).bind fun y M1 => (augI add x y M1).bind fun z M2 => .ok (.nx (ρ.set i (some z))) M2
end
end DL

set_option Elab.async false
set_option linter.all false
set_option maxRecDepth 100000
/-! The data layer: lists that may change, once more: xs.clear(), xs.pop(), a slice that may change. -/
namespace DL
open PySem PySem.Spec PyProof.Rows L2
section
variable {X : Cx}
def gClr (go : GE) : GE := fun ρ M => (go ρ M).bind fun o M1 => match o with
  | .mr k => match M1[k]? with
    | some (.lst _) => .ok .non (M1.set k (.lst []))
    | _ => .bad
  | _ => .bad
def gPopL (go : GE) : GE := fun ρ M => (go ρ M).bind fun o M1 => match o with
  | .mr k => match M1[k]? with
    | some (.lst xs) => match xs[xs.length - 1]? with
      | some y => .ok y (M1.set k (.lst xs.dropLast))
      | none => .bad
    | _ => .bad
  | _ => .bad
/-! ### a slice that may change -/
def sliceM (x : D) (lo hi : Option Int) (M : Mem) : Out D := match mlOf x M with
  | some xs => .ok (.mr M.length) (M ++ [.lst (cutD xs lo hi)])
  | none => .bad
def gSlM (g : GE) (gl gh : GO) : GE := fun ρ M => (g ρ M).bind fun x M1 => (gl ρ M1).bind fun lo M2 => (gh ρ M2).bind fun hi M3 => sliceM x lo hi M3
def rSlM (X : Cx) : V → Option Int → Option Int → Hp → VK → Prop := fun x lo hi H Q => ∃ θ M d, Wr X.K θ H M ∧ isD X.K θ H d x ∧ FinE X θ H Q (sliceM d lo hi M)
end
end DL

set_option Elab.async false
set_option linter.all false
set_option maxRecDepth 100000
set_option maxHeartbeats 4000000
/-! The data layer: enumerate. -/
namespace DL
open PySem PySem.Spec PyProof.Rows L2
section
variable {prog : Program} {w : World} {A : Around} {E : Value → Shared → Prop} {s : Shared}
end
open AutoSeq1 (wpAny_loadPart') in
section
variable {X : Cx} {pins : List (Addr × Obj)} {σ : L2.St} {H : Hp} {s : Shared}
end
/-- pairs of a count and the thing there: of the list (b = false) or tuple at a -/
def SqB (K : PySem.W.Frag) (b : Bool) (H : Hp) (a : Addr) (xs : List V) : Prop := match b with
  | true => SqT K H a xs
  | false => SqL K H a xs
def Iten (K : PySem.W.Frag) (b : Bool) (a : Addr) : It :=
  ⟨fun i H => ∃ xs x, SqB K b H a xs ∧ xs[i]? = some x, fun i H x H' => ∃ p y, H p = none ∧ H' = upd H p (.tup [.int (i : Int), y]) ∧ x = .ref p ∧ ∀ xs, SqB K b H a xs → xs[i]? = some y, fun i H => ∃ xs, SqB K b H a xs ∧ xs.length ≤ i⟩
def SeqIter (b : Bool) (h : Heap) (it a : Addr) (i : Nat) : Prop := match b with
  | true => h.IsTupleIter it a i
  | false => h.IsListIter it a i
theorem SeqIter.at {b : Bool} {h h' : Heap} {it a : Addr} {i : Nat} (x : SeqIter b h it a i) (e : ∀ o, h.get? it = some o → h'.get? it = some o) : SeqIter b h' it a i := by
  cases b with
  | true => exact Heap.IsTupleIter.at x e
  | false => exact Heap.IsListIter.at x e
theorem SeqIter.obj {b : Bool} {h : Heap} {it a : Addr} {i : Nat} (x : SeqIter b h it a i) : ∃ o, h.get? it = some o ∧ (o.cls = .type "tuple_iterator" ∨ o.cls = .type "list_iterator") ∧ ∃ vs, o.data = .fields vs := by
  cases b with
  | true => obtain ⟨o, e, c, d⟩ := x; exact ⟨o, e, .inl c, _, d⟩
  | false => obtain ⟨o, e, c, d⟩ := x; exact ⟨o, e, .inr c, _, d⟩
/-- the pairs -/
def enumD (ds : List D) : List D := (List.range ds.length).zipWith (fun (k : Nat) d => D.tup [.int (k : Int), d]) ds
def enOf (ds : List D) (M : Mem) : Out Its := match ds with
  | [.lst xs] => .ok ⟨enumD xs, none⟩ M
  | [.ro xs] => .ok ⟨enumD xs, none⟩ M
  | [.tup xs] => .ok ⟨enumD xs, none⟩ M
  | _ => .bad
def gEnum (g : GA) : GI := fun ρ M => (g ρ M).bind enOf
end DL

set_option Elab.async false
set_option linter.all false
set_option maxRecDepth 100000
set_option maxHeartbeats 4000000
/-! The data layer: xs[a:c] = ys; a written table asked on the spot. -/
namespace DL
open PySem PySem.Spec PyProof.Rows L2
def setSlD (o x : D) (lo hi : Int) (M : Mem) : Out Unit := match o, x with
  | .mr k, .lst ys => match M[k]? with
    | some (.lst xs) => if 0 ≤ lo ∧ lo ≤ hi ∧ hi ≤ (xs.length : Int) ∧ xs.length + ys.length ≤ sizeLine then .ok () (M.set k (.lst (xs.take lo.toNat ++ ys ++ xs.drop hi.toNat))) else .bad
    | _ => .bad
  | _, _ => .bad
def slcGo (o x l h : D) (M : Mem) : Out Unit := match l, h with
  | .int l, .int h => setSlD o x l h M
  | _, _ => .bad
def sSlc (go gl gh g : GE) : GS := fun ρ M => (g ρ M).bind fun x M1 => (go ρ M1).bind fun o M2 => (gl ρ M2).bind fun l M3 => (gh ρ M3).bind fun h M4 => (slcGo o x l h M4).bind fun _ M5 => .ok (.nx ρ) M5
section
variable {X : Cx} {e o lo hi : Expr} {g go gl gh : GE} {pos ip sp : Pos}
/-! a, b = x, y -/
def sPar (i j : Nat) (ga : GA) : GS := fun ρ M => (ga ρ M).bind fun ds M1 => match ds with
  | [d, e] => .ok (.nx ((ρ.set i (some d)).set j (some e))) M1
  | _ => .bad
/-! ### {..}[e] -/
def tabV (tab : List (Str × Int)) : List (V × V) := tab.map fun p => (.str p.1, .int p.2)
def tabK (tab : List (Str × Int)) : List (Key × V) := tab.map fun p => (Sum.inr p.1, V.int p.2)
def tabT (tab : List (Str × Int)) : List (TE × TE) := tab.map fun p => (tC (.str p.1), tC (.int p.2))
def gDix (tab : List (Str × Int)) (g : GE) : GE := fun ρ M => (g ρ M).bind fun d M1 => match d with
  | .str x => match valV (mergeK [] (tabK tab)) (Sum.inr x) with
    | some (.int i) => .ok (.int i) M1
    | _ => .bad
  | _ => .bad
/-- what is never reached -/
def gBad : GE := fun _ _ => .bad
def sBad : GS := fun _ _ => .bad
end
end DL

set_option Elab.async false
set_option linter.all false
set_option maxRecDepth 100000
set_option maxHeartbeats 4000000
/-! The data layer: the law's call where defs with lambdas stand in the text: their code's tables are tracked from the start. -/
namespace DL
open PySem PySem.Spec PyProof.Rows L2
/-- what is tracked at first: the script (where it is none of the module's own), the tables, the module of the builtins -/
def H0 (K : PySem.W.Frag) (a : Addr) (so : Obj) (xs : List V) (ts : List Addr) (bm : Addr) (ob : Obj) : Hp := fun b =>
  if b = a then (if K.lookup a = none then some (.frz so (.lst xs)) else none) else if b ∈ ts then some (.tbl #[]) else if b = bm then some (bmO ob) else none
structure Lam (K : PySem.W.Frag) (h : Heap) (ts : List Addr) (bm : Addr) (ob : Obj) : Prop where
  tab : ∀ P ∈ ts, h.get? P = some (PySem.W.tabObj #[]) ∧ isCodeTable h P ∧ K.lookup P = none
  names : ∀ x, x ∈ lamNames → ∀ c P, PySem.W.tabIn K x = some (c, P) → P ∈ ts
  bmk : PySem.W.nsIn K mainGlobals "__builtins__" = some (some (.ref bm))
  bmh : h.get? bm = some ob
  bmc : ob.cls = .type "module" ∧ ob.dict = some builtinsNs ∧ ob.data = .plain
  bmn : bm ≠ builtinsNs ∧ bm ≠ mainGlobals
  bml : K.lookup bm = none
end DL

set_option Elab.async false
set_option linter.all false
set_option maxRecDepth 100000
set_option maxHeartbeats 4000000
/-! The data layer: lambdas, first part: a lambda that sees nothing of what is around it, made and called. -/
namespace DL
open PySem PySem.Spec PyProof.Rows L2
/-- the function object at q -/
def fnO (q : Addr) (fd : FuncData) : HO := .ext fun h => h.get? q = some { cls := .type "function", data := .func fd }
/-- the function that a lambda makes: its text, its code -/
abbrev lamFd (qual : Str) (params : Arguments) (body : Expr) (scope : Scope) (pm cv ctv : Value) : FuncData := PySem.W.kla_fn "<lambda>" qual params body scope [] pm cv ctv
def exD (k : Nat) (g : GE) : FD := fun ds M => g (rho0 k ds) M
/-- the facts of a def within which a lambda stands -/
structure TabF (K : PySem.W.Frag) (x : Str) (c P : Addr) : Prop where
  mem : x ∈ lamNames
  tab : PySem.W.tabIn K x = some (c, P)
  uniq : ∀ y, y ∈ lamNames → y ≠ x → ∀ c2, PySem.W.tabIn K y ≠ some (c2, P)
  hd : ∃ o vs file tf flags tg inF text tt, K.lookup c = some o ∧ o.cls = .type "code" ∧ o.data = .fields vs ∧ vs[11]? = some (.ref P) ∧ vs.getD 11 .none = .ref P ∧ vs.getD 18 .none = .str file tf ∧
    vs.getD 7 .none = .int flags tg ∧ vs.getD 9 .none = .bool inF ∧ vs.getD 10 .none = .int text tt ∧ c ≠ P
/-- behind the making of a lambda -/
structure Made (X : Cx) (θ : List Addr) (H : Hp) (M : Mem) (qual : Str) (params : Arguments) (body : Expr) (scope : Scope) (u : Value) (H' : Hp) : Prop where
  ex : ∃ q c pm ctv, u = .ref q ∧ H q = none ∧ H' q = some (fnO q (lamFd qual params body scope pm (.ref c) ctv)) ∧ H' c = some (codeO c qual)
  go : Go X.K θ H θ H' M
end DL

set_option Elab.async false
set_option linter.all false
set_option maxRecDepth 100000
set_option maxHeartbeats 4000000
/-! The data layer: min by a key that is a lambda; the greatest of a list of tuples of whole numbers. -/
namespace DL
open PySem PySem.Spec PyProof.Rows L2
/-- a tuple of whole numbers -/
def intsO : List D → Option (List Int)
  | [] => some []
  | .int i :: r => (intsO r).map (i :: ·)
  | _ => none
def intsT : D → Option (List Int)
  | .tup ds => intsO ds
  | _ => none
def minGo (F : FD) : List D → D → List Int → Mem → Out D
  | [], b, _, M => .ok b M
  | d :: r, b, kb, M => match F [d] M with
    | .ok k M1 => match intsT k with
      | some ks => if HT.lexLt ks kb then minGo F r d ks M1 else minGo F r b kb M1
      | none => .bad
    | _ => .bad
def minK (F : FD) (ds : List D) (M : Mem) : Out D := match ds with
  | [] => .bad
  | d :: r => match F [d] M with
    | .ok k M1 => match intsT k with
      | some ks => minGo F r d ks M1
      | none => .bad
    | _ => .bad
section
variable {X : Cx} {pins : List (Addr × Obj)} {σ : L2.St} {q c : Addr} {fd : FuncData} {px qual : Str} {k : Nat} {F : FD}
end
end DL

set_option Elab.async false
set_option linter.all false
set_option maxRecDepth 100000
set_option maxHeartbeats 4000000
/-! The data layer: min(e, key=lambda ..) as an expression; defs within which lambdas stand. -/
namespace DL
open PySem PySem.Spec PyProof.Rows L2
section
variable {X : Cx} {pins : List (Addr × Obj)} {σ : L2.St} {q c : Addr} {fd : FuncData} {px qual : Str} {k : Nat} {F : FD}
end
def gMinK (F : FD) (g : GE) : GE := fun ρ M => (g ρ M).bind fun d M1 => match d with
  | .lst ds => minK F ds M1
  | .ro ds => minK F ds M1
  | _ => .bad
end DL

set_option Elab.async false
set_option linter.all false
set_option maxRecDepth 100000
set_option maxHeartbeats 4000000
/-! The data layer: the greatest of a list of tuples of whole numbers; the facts of tables. -/
namespace DL
open PySem PySem.Spec PyProof.Rows L2
section
open PySem.SeqAt
open PySem.AutoSeq1 (wpAny_loadPart')
open PySem.MeetsSeq PySem.MeetsSeq2 PySem.MeetsSeq3
end
/-- the greatest, the first of like ones -/
def maxGo : List D → D → List Int → Option D
  | [], b, _ => some b
  | d :: r, b, kb => match intsT d with
    | some ks => if HT.lexLt kb ks then maxGo r d ks else maxGo r b kb
    | none => none
def maxL (ds : List D) : Option D := match ds with
  | [] => none
  | d :: r => match intsT d with
    | some ks => maxGo r d ks
    | none => none
section
variable {X : Cx} {pins : List (Addr × Obj)} {σ : L2.St}
/-- max of two whole numbers, or of a list of tuples -/
def maxF1 : FD := fun ds M => match ds with
  | [.lst xs] => match maxL xs with
    | some d => .ok d M
    | none => .bad
  | [.ro xs] => match maxL xs with
    | some d => .ok d M
    | none => .bad
  | ds => maxF ds M
end
end DL

set_option Elab.async false
set_option linter.all false
set_option maxRecDepth 100000
set_option maxHeartbeats 4000000
/-! The data layer: texts: their signs, in, their methods; constants of the module. -/
namespace DL
open PySem PySem.Spec PyProof.Rows L2
section
variable {X : Cx} {o e : Expr} {go ge : GE} {apos cpos : Pos}
/-! ### x[i], of a text too -/
def ixA : F2 := fun x y M => match x, y with
  | .str z, .int i => if z.length ≤ sizeLine then (match atI z.cps.toList i with
    | some c => .ok (.str ⟨#[c]⟩) M
    | none => .bad) else .bad
  | x, y => ixD x y M
theorem od_ixA : IxR X (rD X ixA) := by
  intro value slice pins s σ H x y v u Q I rx ry h hs
  obtain ⟨θ, M, dx, dy, hw, r1, r2, h⟩ := h
  have rest : FinE X θ H Q (ixD dx dy M) → _ := fun h => od_ix value slice pins s σ H x y v u Q I rx ry ⟨θ, M, dx, dy, hw, r1, r2, h⟩ hs
  cases dx with
  | str z =>
    cases dy with
    | int i =>
      have h : FinE X θ H Q (if z.length ≤ sizeLine then (match atI z.cps.toList i with | some c => .ok (.str ⟨#[c]⟩) M | none => .bad) else .bad) := h
      split at h
      · rename_i hz
        cases q : atI z.cps.toList i with
        | none => rw [q] at h; exact h.elim
        | some c =>
          rw [q] at h
          exact ix_str value slice pins s σ H x y v u Q I rx ry ⟨z, i, c, r1, r2, hz, q, h _ θ H (.refl hw) rfl⟩ hs
      · exact h.elim
    | _ => exact rest h
  | _ => exact rest h
theorem de_ixA {a b : Expr} {pos : Pos} {ga gb : GE} (ha : PE X a (tE X ga)) (hb : PE X b (tE X gb)) (hs : PlainIx b := by intro _ _; rfl) : PE X (.Subscript a b pos) (tE X (g2 ixA ga gb)) :=
  (pe_ix od_ixA ha hb hs).of fun _ _ _ h => t2_of h
/-! ### in, of a text too -/
def occB (j i : Str) : Bool := !(Builtin.Str.occurrences j i 0 j.length 1).isEmpty
def inA : F2 := fun x y M => match x, y with
  | .str i, .str j => .ok (.bl (occB j i)) M
  | x, y => inOp false x y M
theorem od_inA : OpR X (compareOp .In) (rD X inA) := by
  intro pins s σ H x y v u Q I rx ry h
  obtain ⟨θ, M, dx, dy, hw, r1, r2, h⟩ := h
  have rest : FinE X θ H Q (inOp false dx dy M) → _ := fun h => od_in pins s σ H x y v u Q I rx ry ⟨θ, M, dx, dy, hw, r1, r2, h⟩
  cases dx with
  | str i =>
    cases dy with
    | str j => exact op_in_str pins s σ H x y v u Q I rx ry ⟨i, j, r1, r2, h _ θ H (.refl hw) rfl⟩
    | _ => exact rest h
  | _ => exact rest h
/-! ### methods of a text -/
def gMethS (F : Str → D → Mem → Out D) (go ge : GE) : GE := fun ρ M => (go ρ M).bind fun o M1 => match o with
  | .str x => (ge ρ M1).bind fun d M2 => F x d M2
  | _ => .bad
theorem methS_of {F : Str → D → Mem → Out D} {rr : V → List V → Hp → VK → Prop} {σ : L2.St} {H : Hp} {Q : VK}
    (hF : ∀ θ H M x d y Q, Wr X.K θ H M → isD X.K θ H d y → FinE X θ H Q (F x d M) → rr (.str x) [y] H Q) (h : tE X (gMethS F go ge) σ H Q) : tBM X.K "str" rr (tE X go) (tCons (tE X ge) tNil) σ H Q := by
  obtain ⟨ρ, θ, M, hd, hw, h⟩ := h
  refine thenE hd hw (FinE X θ H Q) (fun c M' h => h) (fun h => h) h fun d M1 v θ1 H1 g1 r1 h1 => ?_
  have h2 := FinE.go g1 h1
  cases d with
  | str x =>
    have ev : v = .str x := r1
    subst ev
    refine ⟨rfl, ?_⟩
    refine thenE (hd.go g1) g1.wr (FinE X θ1 H1 Q) (fun c M' h => h) (fun h => h) h2 fun dx M2 vx θ2 H2 g2 r2 h3 => ?_
    exact hF θ2 H2 M2 x dx vx Q g2.wr r2 (FinE.go g2 h3)
  | _ => exact h2.elim
def findF (x : Str) (d : D) (M : Mem) : Out D := match d with
  | .str y => .ok (.int (Txt.find x y)) M
  | _ => .bad
def rFindS : V → List V → Hp → VK → Prop := fun x vs H Q => ∃ a b, x = .str a ∧ vs = [.str b] ∧ Q (.int (Txt.find a b)) H
theorem mt_find : MtR X "str.find" rFindS := by
  intro pins s σ H x vs v us Q I rx rv h
  obtain ⟨a, b, rfl, rfl, q⟩ := h
  obtain ⟨t, rfl⟩ := rx
  obtain ⟨u, rfl, ru⟩ := rv.one
  obtain ⟨t', rfl⟩ := ru
  exact SC.find ⟨.int _, H, I.tok _, ⟨s.toks, rfl⟩, q⟩
theorem find_of {θ : List Addr} {H : Hp} {M : Mem} {x : Str} {d : D} {y : V} {Q : VK} (hw : Wr X.K θ H M) (ry : isD X.K θ H d y) (h : FinE X θ H Q (findF x d M)) : rFindS (.str x) [y] H Q := by
  cases d with
  | str z =>
    have ev : y = .str z := ry
    subst ev
    exact ⟨x, z, rfl, rfl, h _ θ H (.refl hw) rfl⟩
  | _ => exact h.elim
theorem de_find (ho : PE X o (tE X go)) (he : PE X e (tE X ge)) (h1 : noStar e = true := by rfl) (hbase : attributeBase o "find" X.env (eval o X.env) = eval o X.env := by rfl) (hline : (apos.endLine == cpos.line) = true := by rfl) :
    PE X (.Call (.Attribute o "find" apos) [e] [] cpos) (tE X (gMethS findF go ge)) :=
  (pe_bm PySem.F.plainAttrs_str PySem.F.slot_str_find PySem.F.type_str_find mt_find ho (pa_cons he pa_nil (sE h1)) hbase (fewOne h1) hline (sE h1) rfl).of fun σ H Q h => methS_of (fun θ H M x d y Q => find_of) h
def indexSF (x : Str) (d : D) (M : Mem) : Out D := match d with
  | .str y => (match Builtin.Str.occurrences x y 0 x.length 1 with
    | i :: _ => .ok (.int (i : Nat)) M
    | [] => .bad)
  | _ => .bad
def rIndexS : V → List V → Hp → VK → Prop := fun x vs H Q => ∃ a b i r, x = .str a ∧ vs = [.str b] ∧ Builtin.Str.occurrences a b 0 a.length 1 = i :: r ∧ Q (.int (i : Nat)) H
theorem mt_indexS : MtR X "str.index" rIndexS := by
  intro pins s σ H x vs v us Q I rx rv h
  obtain ⟨a, b, i, r, rfl, rfl, ho, q⟩ := h
  obtain ⟨t, rfl⟩ := rx
  obtain ⟨u, rfl, ru⟩ := rv.one
  obtain ⟨t', rfl⟩ := ru
  exact SC.index ho ⟨.int _, H, I.tok _, ⟨s.toks, rfl⟩, q⟩
theorem indexS_of {θ : List Addr} {H : Hp} {M : Mem} {x : Str} {d : D} {y : V} {Q : VK} (hw : Wr X.K θ H M) (ry : isD X.K θ H d y) (h : FinE X θ H Q (indexSF x d M)) : rIndexS (.str x) [y] H Q := by
  cases d with
  | str z =>
    have ev : y = .str z := ry
    subst ev
    have h : FinE X θ H Q (match Builtin.Str.occurrences x z 0 x.length 1 with | i :: _ => .ok (.int (i : Nat)) M | [] => .bad) := h
    cases q : Builtin.Str.occurrences x z 0 x.length 1 with
    | nil => rw [q] at h; exact h.elim
    | cons i r =>
      rw [q] at h
      exact ⟨x, z, i, r, rfl, rfl, q, h _ θ H (.refl hw) rfl⟩
  | _ => exact h.elim
theorem de_indexS (ho : PE X o (tE X go)) (he : PE X e (tE X ge)) (h1 : noStar e = true := by rfl) (hbase : attributeBase o "index" X.env (eval o X.env) = eval o X.env := by rfl) (hline : (apos.endLine == cpos.line) = true := by rfl) :
    PE X (.Call (.Attribute o "index" apos) [e] [] cpos) (tE X (gMethS indexSF go ge)) :=
  (pe_bm PySem.F.plainAttrs_str PySem.F.slot_str_index PySem.F.type_str_index mt_indexS ho (pa_cons he pa_nil (sE h1)) hbase (fewOne h1) hline (sE h1) rfl).of fun σ H Q h => methS_of (fun θ H M x d y Q => indexS_of) h
/-! ### constants of the module -/
theorem de_glb {x z : Str} {tk : Tok} {pos : Pos} (hg : Gl X x) (hm : X.mg x = some (.str z tk)) (hd : (x == ("__debug__" : Str)) = false := by decide) : PE X (.Name x pos) (tE X (gC (.str z))) :=
  (pe_glob hg hm (v := .str z) ⟨tk, rfl⟩ hd).of fun σ H Q h => by
    obtain ⟨ρ, θ, M, _, hw, h⟩ := h
    exact h _ θ H (.refl hw) rfl
end
end DL

set_option Elab.async false
set_option linter.all false
set_option maxRecDepth 100000
set_option maxHeartbeats 4000000
/-! The data layer: texts walked sign by sign; split and join. -/
namespace DL
open PySem PySem.Spec PyProof.Rows L2
/-! ### a text walked -/
def signsD (x : Str) : List D := x.cps.toList.map fun c => D.str ⟨#[c]⟩
def Itx (x : Str) : It := ⟨fun i _ => i < x.cps.size, fun i H v H' => H' = H ∧ ∃ c, x.cps[i]? = some c ∧ v = .str ⟨#[c]⟩, fun i _ => x.cps.size ≤ i⟩
theorem turn_str {P : Program} {w : World} {K : PySem.W.Frag} {tg : Expr} {T : String} {x : Str} {t : Tok} (it : Addr) (hn : ["enumerate", "zip", "dict_itemiterator", "dict_reverseitemiterator", "odict_iterator", "itertools.zip_longest", "itertools.pairwise"].contains T = false)
    (W : ∀ A : Around, A.handled = none → Walks P w A it [it] [it] x.cps.size (fun i v => ∃ c u, x.cps[i]? = some c ∧ v = .str ⟨#[c]⟩ u) fun i h => h.IsStrIter it T x t i)
    (hs : ∀ (A : Around) (i : Nat) (s : Shared) (Q : Value → Shared → Prop) (E : Value → Shared → Prop), s.heap.IsStrIter it T x t i → Q (.ref it) s → wpAny (model P w) A (pyIter (.ref it)) Q E s) :
    Turn P w K tg (Itx x) [it] it (fun i h => h.IsStrIter it T x t i ∧ i ≤ x.cps.size) where
  mem := by simp
  obj := fun i h st b hb => by
    have e : b = it := by simpa using hb
    subst e
    obtain ⟨⟨o, e, c, d⟩, _⟩ := st
    exact ⟨o, e, fun v z => by rw [d] at z; cases z⟩
  keep := fun i h h' st k => by
    obtain ⟨⟨o, e, c, d⟩, hi⟩ := st
    exact ⟨⟨o, k it (by simp) o e, c, d⟩, hi⟩
  item := by
    intro X hP hw hK hc i pins s σ H E I hf st hg
    subst hP hw hK
    obtain ⟨f0, f1, f2, f3, f4, f5⟩ := hf it (by simp)
    have hg : i < x.cps.size := hg
    refine (W X.A (I.ok.hd hc)).item i s _ _ hg st.1 fun v h' tk hv st' kk => ?_
    obtain ⟨c, u, ec, rfl⟩ := hv
    have I1 : Inv X pins σ H { s with heap := h', toks := tk } := I.turned (fun b o hb e => kk b o (by simpa using hb) e) f0 f1 f3 f4 f5
    obtain ⟨o, e, oc, od⟩ := id st'
    exact ⟨_, rfl, go_of (s := { s with heap := h', toks := tk }) e oc od hn ⟨.str ⟨#[c]⟩, H, I1, ⟨u, rfl⟩, ⟨rfl, c, ec, rfl⟩, ⟨st', hg⟩, fun b hb => (hf b hb).1⟩⟩
  done := by
    intro X hP hw hK hc i pins s σ H E I hf st hg
    subst hP hw hK
    obtain ⟨f0, f1, f2, f3, f4, f5⟩ := hf it (by simp)
    have hg : x.cps.size ≤ i := hg
    have e : i = x.cps.size := Nat.le_antisymm st.2 hg
    subst e
    exact (W X.A (I.ok.hd hc)).done s _ _ st.1 fun h' tk kk => ⟨rfl, I.turned (fun b o hb e => kk b o (by simpa using hb) e) f0 f1 f3 f4 f5⟩
  self := fun A i s Q E st h => hs A i s Q E st.1 h
theorem itd_str {K : PySem.W.Frag} {θ : List Addr} {H : Hp} (x : Str) : ItD K (Itx x) θ H ⟨signsD x, none⟩ := by
  intro θ1 H1 M1 g _ i
  refine ⟨fun d e => ?_, fun hl => ?_⟩
  · have hi : i < x.cps.size := by
      have := (List.getElem?_eq_some_iff.mp e).1
      simpa [signsD] using this
    refine ⟨hi, fun v H2 y => ?_⟩
    obtain ⟨eH, c, ec, rfl⟩ := y
    subst eH
    refine ⟨.refl g.wr, ?_⟩
    have e' : D.str ⟨#[c]⟩ = d := by
      have : (signsD x)[i]? = some (D.str ⟨#[c]⟩) := by simp [signsD, ec]
      rw [this] at e; exact Option.some.inj e
    subst e'
    rfl
  · have h2 : (signsD x).length ≤ i := hl
    have h3 : x.cps.size ≤ i := by simpa [signsD] using h2
    exact h3
def itsA (d : D) (M : Mem) : Out Its := match d with
  | .str x => .ok ⟨signsD x, none⟩ M
  | d => itsOf d M
def gItsA (g : GE) : GI := fun ρ M => (g ρ M).bind itsA
section
variable {X : Cx} {tg : Expr}
theorem iter_str {pins : List (Addr × Obj)} {s : Shared} {σ : L2.St} {H : Hp} {R : It → Hp → Prop} {x : Str} {t : Tok} (I : L2.Inv X pins σ H s) (h : R (Itx x) H) : wpAny (model X.prog X.w) X.A (pyIter (.str x t)) (PIE X pins σ tg R) X.xe s := by
  have fp : ∀ b ∈ [s.heap.objs.size], FpOk X pins H b := fun b hb => by
    have e : b = s.heap.objs.size := by simpa using hb
    subst e
    exact I.fpOk (Nat.le_refl _) (I.hok.fresh (Nat.le_refl _))
  cases ha : x.cps.all (· < 128) with
  | true =>
    refine wpAny_pyIter_ascii ha ?_
    refine ⟨s.heap.objs.size, [s.heap.objs.size], _, _, H, rfl, I.kept (t' := s.toks) fun b o e => Heap.get?_push_of_some _ e, turn_str (T := "str_ascii_iterator") (x := x) (t := t) _ (by decide) (fun A hA => Walks.strAscii hA _ x t) (fun A i s Q E st hQ => ?_), ⟨⟨_, Heap.get?_push_size _ rfl, rfl, rfl⟩, Nat.zero_le _⟩, fp, h⟩
    exact wpAny_pyIter_striter_ascii st hQ
  | false =>
    refine wpAny_pyIter_wide ha ?_
    refine ⟨s.heap.objs.size, [s.heap.objs.size], _, _, H, rfl, I.kept (t' := s.toks) fun b o e => Heap.get?_push_of_some _ e, turn_str (T := "str_iterator") (x := x) (t := t) _ (by decide) (fun A hA => Walks.strWide hA _ x t) (fun A i s Q E st hQ => ?_), ⟨⟨_, Heap.get?_push_size _ rfl, rfl, rfl⟩, Nat.zero_le _⟩, fp, h⟩
    exact wpAny_pyIter_striter_wide st hQ
theorem pi_sqA {l : Expr} {tl : TE} (hl : PE X l tl) : PI X tg l (fun σ H R => tl σ H fun x H1 => (∃ z, x = .str z ∧ R (Itx z) H1) ∨ ∃ a, x = .ref a ∧ (((∃ xs, SqL X.K H1 a xs) ∧ R (Itl X.K a) H1) ∨ ((∃ xs, SqT X.K H1 a xs) ∧ R (Itt X.K a) H1))) := by
  intro pins s σ H R I h
  refine thn (hl pins s σ H _ I h) fun v s1 ⟨x, H1, I1, r1, q1⟩ => ?_
  rcases q1 with ⟨z, e, q1⟩ | ⟨a, e, q1⟩
  · subst e
    obtain ⟨t, rfl⟩ := r1
    exact iter_str I1 q1
  subst e
  cases r1
  rcases q1 with ⟨⟨xs, hq⟩, q⟩ | ⟨⟨xs, hq⟩, q⟩
  · obtain ⟨its, rv, p, hz⟩ := I1.list hq
    refine wpAny_pyIter_list p.isList ?_
    refine ⟨s1.heap.objs.size, [s1.heap.objs.size], _, _, H1, rfl, I1.kept (t' := s1.toks) fun b o e => Heap.get?_push_of_some _ e, turn_list a _, ⟨_, Heap.get?_push_size _ rfl, rfl, rfl⟩, fun b hb => ?_, q⟩
    have e : b = s1.heap.objs.size := by simpa using hb
    subst e
    exact I1.fpOk (Nat.le_refl _) (I1.hok.fresh (Nat.le_refl _))
  · obtain ⟨its, rv, p, hz⟩ := I1.tuple hq
    refine wpAny_pyIter_tuple (show s1.heap.IsTuple a its.toArray from p) ?_
    refine ⟨s1.heap.objs.size, [s1.heap.objs.size], _, _, H1, rfl, I1.kept (t' := s1.toks) fun b o e => Heap.get?_push_of_some _ e, turn_tuple a _, ⟨_, Heap.get?_push_size _ rfl, rfl, rfl⟩, fun b hb => ?_, q⟩
    have e : b = s1.heap.objs.size := by simpa using hb
    subst e
    exact I1.fpOk (Nat.le_refl _) (I1.hok.fresh (Nat.le_refl _))
theorem di_seqA {l : Expr} {g : GE} (hl : PE X l (tE X g)) : PI X tg l (tI X (gItsA g)) := by
  intro pins s σ H R I h
  refine pi_sqA hl pins s σ H R I ?_
  obtain ⟨ρ, θ, M, hd, hw, h⟩ := h
  refine thenE hd hw (FinI X θ H R) (fun c M' h => h) (fun h => h) h fun d M1 v θ1 H1 g1 r1 h1 => ?_
  cases d with
  | str z => exact .inl ⟨z, r1, h1 _ θ1 H1 g1 (itd_str z)⟩
  | lst ds =>
    obtain ⟨a, vs, e, ta, r⟩ := r1
    exact .inr ⟨a, e, .inl ⟨⟨vs, ta.sq⟩, h1 _ θ1 H1 g1 (itd_lst (.inl ⟨.inl ta.1, ta.2⟩) r)⟩⟩
  | ro ds =>
    obtain ⟨a, vs, e, ta, r⟩ := r1
    exact .inr ⟨a, e, .inl ⟨⟨vs, ta.sq⟩, h1 _ θ1 H1 g1 (itd_lst ta r)⟩⟩
  | tup ds =>
    obtain ⟨a, vs, e, ta, r⟩ := r1
    exact .inr ⟨a, e, .inr ⟨⟨vs, ta.sq⟩, h1 _ θ1 H1 g1 (itd_tup ta r)⟩⟩
  | mr k =>
    obtain ⟨a, e, ta⟩ := r1
    have h2 : FinI X θ H R (match M1[k]? with | some (.lst ds) => .ok ⟨ds, some k⟩ M1 | _ => .bad) := h1
    cases q : M1[k]? with
    | none => rw [q] at h2; exact h2.elim
    | some m =>
      cases m with
      | lst ds =>
        rw [q] at h2
        obtain ⟨vs, hv, r⟩ := g1.wr.at_ k a _ ta q
        exact .inr ⟨a, e, .inl ⟨⟨vs, .inl (.inl hv)⟩, h2 _ θ1 H1 g1 (itd_mut ta)⟩⟩
      | _ => rw [q] at h2; exact h2.elim
  | _ => exact h1.elim
end
/-! ### split, join -/
theorem vals_strs : ∀ l : List (Str × Tok), Vals (l.map fun p => V.str p.1) (strValues l)
  | [] => .nil
  | p :: l => .cons ⟨p.2, rfl⟩ (vals_strs l)
theorem strs_vals : ∀ {ys : List Str} {us : List Value}, Vals (ys.map V.str) us → ∃ l : List (Str × Tok), us = strValues l ∧ l.map (·.1) = ys
  | [], us, h => by cases h; exact ⟨[], rfl, rfl⟩
  | y :: ys, us, h => by
    cases h with
    | cons h1 h2 =>
      obtain ⟨t, rfl⟩ := h1
      obtain ⟨l, rfl, e⟩ := strs_vals h2
      exact ⟨(y, t) :: l, rfl, by rw [List.map_cons, e]⟩
theorem isDs_strs {K : PySem.W.Frag} {θ : List Addr} {H : Hp} : ∀ ys : List Str, isDs K θ H (ys.map D.str) (ys.map V.str)
  | [] => rfl
  | y :: ys => ⟨_, _, rfl, rfl, isDs_strs ys⟩
def strsO : List D → Option (List Str)
  | [] => some []
  | .str x :: r => (strsO r).map (x :: ·)
  | _ => none
theorem strsO_is {K : PySem.W.Frag} {θ : List Addr} {H : Hp} : ∀ {ds : List D} {ys : List Str} {vs : List V}, strsO ds = some ys → isDs K θ H ds vs → vs = ys.map V.str
  | [], ys, vs, h, r => by cases h; exact r
  | d :: ds, ys, vs, h, r => by
    obtain ⟨v, rr, e, h1, h2⟩ := r
    cases d with
    | str x =>
      cases q : strsO ds with
      | none => simp [strsO, q] at h
      | some ks =>
        simp only [strsO, q, Option.map_some, Option.some.injEq] at h
        subst h
        have e1 : v = .str x := h1
        subst e1
        rw [e, strsO_is q h2]
        rfl
    | _ => cases h
section
open Builtin Builtin.Str
theorem split_at {P : Program} {W : World} {A : Around} {E : Value → Shared → Prop} {s : Shared} {txt sep : Str} {k1 k2 : Tok} {Q : Value → Shared → Prop} (some_ : (sep.length == 0) = false)
    (fin : ∀ (ps : List (Str × Tok)) (k : Tok), ps.map (·.1) = Txt.split txt sep → Q (.ref s.heap.objs.size) { s with toks := k, heap := s.heap.push { cls := .type "list", data := .seq (strValues ps).toArray } })
    (z1 : txt.length ≤ sizeLine) (z2 : (partsBetween txt (occurrences txt sep 0 txt.length (txt.length + 1)) sep.length).length ≤ sizeLine) :
    wpAny (model P W) A (call (.builtin "str.split") [.str txt k1, .str sep k2]) Q E s := by
  by_cases far : (decide (txt.length < sep.length) || decide (strKind txt < strKind sep)) = true
  · have whole : [txt] = Txt.split txt sep := (if_pos far).symm
    exact call_meets F.slot_str_split (typeIs_str s txt k1) F.entry_str_split (F.args_str_split_2 _ _) (meets_str_split_cannot_occur txt sep k1 k2 far) (fin [(txt, k1)] s.toks whole)
  · have near := Bool.eq_false_iff.mpr far
    by_cases none_ : (occurrences txt sep 0 txt.length (txt.length + 1)).isEmpty = true
    · have whole : [txt] = Txt.split txt sep := ((if_neg far).trans (if_pos none_)).symm
      exact call_meets F.slot_str_split (typeIs_str s txt k1) F.entry_str_split (F.args_str_split_2 _ _) (meets_str_split_not_found txt sep k1 k2 near some_ none_) (fin [(txt, k1)] s.toks whole)
    · have found := Bool.eq_false_iff.mpr none_
      have parts : ∀ k : Tok, (numbered k (partsBetween txt (occurrences txt sep 0 txt.length (txt.length + 1)) sep.length)).map (·.1) = Txt.split txt sep := fun k =>
        (numbered_texts k _).trans ((if_neg far).trans (if_neg none_)).symm
      refine call_meets F.slot_str_split (typeIs_str s txt k1) F.entry_str_split (F.args_str_split_2 _ _) (meets_str_split_sep txt sep k1 k2 near some_ found z1 z2) ?_
      have said := fin (numbered s.toks (partsBetween txt (occurrences txt sep 0 txt.length (txt.length + 1)) sep.length))
      rw [← strsFrom_eq] at said
      exact said _ (parts s.toks)
end
section
variable {X : Cx} {o e : Expr} {go ge : GE} {apos cpos : Pos}
def splitOk (x y : Str) : Bool := !(y.length == 0) && decide (x.length ≤ sizeLine) && decide ((Builtin.Str.partsBetween x (Builtin.Str.occurrences x y 0 x.length (x.length + 1)) y.length).length ≤ sizeLine) && decide ((Txt.split x y).length ≤ sizeLine)
def splitF (x : Str) (d : D) (M : Mem) : Out D := match d with
  | .str y => if splitOk x y then .ok (.lst ((Txt.split x y).map D.str)) M else .bad
  | _ => .bad
def splitM (x : Str) (d : D) (M : Mem) : Out D := match d with
  | .str y => if splitOk x y then .ok (.mr M.length) (M ++ [.lst ((Txt.split x y).map D.str)]) else .bad
  | _ => .bad
def rSplit : V → List V → Hp → VK → Prop := fun x vs H Q => ∃ a b, x = .str a ∧ vs = [.str b] ∧ splitOk a b = true ∧ ∀ l, H l = none → Q (.ref l) (upd H l (.lst ((Txt.split a b).map V.str)))
theorem mt_split : MtR X "str.split" rSplit := by
  intro pins s σ H x vs v us Q I rx rv h
  obtain ⟨a, b, rfl, rfl, ok, q⟩ := h
  obtain ⟨t, rfl⟩ := rx
  obtain ⟨u, rfl, ru⟩ := rv.one
  obtain ⟨t', rfl⟩ := ru
  unfold splitOk at ok
  rw [Bool.and_eq_true, Bool.and_eq_true, Bool.and_eq_true, decide_eq_true_eq, decide_eq_true_eq, decide_eq_true_eq, Bool.not_eq_true'] at ok
  obtain ⟨⟨⟨o1, o2⟩, o3⟩, o4⟩ := ok
  refine split_at o1 (fun l k el => ?_) o2 o3
  have rl := vals_strs l
  have em : (l.map fun p => V.str p.1) = (Txt.split a b).map V.str := by rw [← el, List.map_map]; rfl
  rw [em] at rl
  exact ⟨.ref s.heap.objs.size, _, I.laid (t' := k) (fun b o e => Heap.get?_push_of_some _ e) (Nat.le_refl _) (show ObjOk X.prog X.w _ _ _ (.lst ((Txt.split a b).map V.str)) from ⟨by rw [List.length_map]; exact o4, strValues l, _, rl, Heap.get?_push_size _ rfl⟩), rfl, q _ (I.hok.fresh (Nat.le_refl _))⟩
theorem split_of {θ : List Addr} {H : Hp} {M : Mem} {x : Str} {d : D} {y : V} {Q : VK} (hw : Wr X.K θ H M) (ry : isD X.K θ H d y) (h : FinE X θ H Q (splitF x d M)) : rSplit (.str x) [y] H Q := by
  cases d with
  | str z =>
    have ev : y = .str z := ry
    subst ev
    have h : FinE X θ H Q (if splitOk x z then .ok (.lst ((Txt.split x z).map D.str)) M else .bad) := h
    split at h
    · rename_i hk
      exact ⟨x, z, rfl, rfl, hk, fun l hl => h _ θ _ (go_new hw hl) (new_lst hw hl (isDs_strs _))⟩
    · exact h.elim
  | _ => exact h.elim
theorem splitM_of {θ : List Addr} {H : Hp} {M : Mem} {x : Str} {d : D} {y : V} {Q : VK} (hw : Wr X.K θ H M) (ry : isD X.K θ H d y) (h : FinE X θ H Q (splitM x d M)) : rSplit (.str x) [y] H Q := by
  cases d with
  | str z =>
    have ev : y = .str z := ry
    subst ev
    have h : FinE X θ H Q (if splitOk x z then .ok (.mr M.length) (M ++ [.lst ((Txt.split x z).map D.str)]) else .bad) := h
    split at h
    · rename_i hk
      exact ⟨x, z, rfl, rfl, hk, fun l hl => h _ _ _ (go_mut hw hl (isDs_strs _)) (mut_last hw)⟩
    · exact h.elim
  | _ => exact h.elim
theorem de_split (ho : PE X o (tE X go)) (he : PE X e (tE X ge)) (h1 : noStar e = true := by rfl) (hbase : attributeBase o "split" X.env (eval o X.env) = eval o X.env := by rfl) (hline : (apos.endLine == cpos.line) = true := by rfl) :
    PE X (.Call (.Attribute o "split" apos) [e] [] cpos) (tE X (gMethS splitF go ge)) :=
  (pe_bm PySem.F.plainAttrs_str PySem.F.slot_str_split PySem.F.type_str_split mt_split ho (pa_cons he pa_nil (sE h1)) hbase (fewOne h1) hline (sE h1) rfl).of fun σ H Q h => methS_of (fun θ H M x d y Q => split_of) h
theorem de_splitM (ho : PE X o (tE X go)) (he : PE X e (tE X ge)) (h1 : noStar e = true := by rfl) (hbase : attributeBase o "split" X.env (eval o X.env) = eval o X.env := by rfl) (hline : (apos.endLine == cpos.line) = true := by rfl) :
    PE X (.Call (.Attribute o "split" apos) [e] [] cpos) (tE X (gMethS splitM go ge)) :=
  (pe_bm PySem.F.plainAttrs_str PySem.F.slot_str_split PySem.F.type_str_split mt_split ho (pa_cons he pa_nil (sE h1)) hbase (fewOne h1) hline (sE h1) rfl).of fun σ H Q h => methS_of (fun θ H M x d y Q => splitM_of) h
def joinF (x : Str) (d : D) (M : Mem) : Out D := match lstOf d M with
  | some ds => match strsO ds with
    | some ys => if JoinOk x ys then .ok (.str (Txt.join x ys)) M else .bad
    | none => .bad
  | none => .bad
def rJoin (K : PySem.W.Frag) : V → List V → Hp → VK → Prop := fun x vs H Q => ∃ a p ys, x = .str a ∧ vs = [.ref p] ∧ SqL K H p (ys.map V.str) ∧ JoinOk a ys = true ∧ Q (.str (Txt.join a ys)) H
theorem mt_join : MtR X "str.join" (rJoin X.K) := by
  intro pins s σ H x vs v us Q I rx rv h
  obtain ⟨a, p, ys, rfl, rfl, hq, ok, q⟩ := h
  obtain ⟨t, rfl⟩ := rx
  obtain ⟨u, rfl, ru⟩ := rv.one
  cases ru
  obtain ⟨its, r, pl, hz⟩ := I.list hq
  obtain ⟨l, rfl, el⟩ := strs_vals r
  exact SC.join pl.isList el ok fun t' k => ⟨.str _, H, I.tok k, ⟨t', rfl⟩, q⟩
theorem join_of {θ : List Addr} {H : Hp} {M : Mem} {x : Str} {d : D} {y : V} {Q : VK} (hw : Wr X.K θ H M) (ry : isD X.K θ H d y) (h : FinE X θ H Q (joinF x d M)) : rJoin X.K (.str x) [y] H Q := by
  unfold joinF at h
  cases ql : lstOf d M with
  | none => rw [ql] at h; exact h.elim
  | some ds =>
    rw [ql] at h
    dsimp only at h
    obtain ⟨a, vs, ea, sq, ra⟩ := lst_of hw ry ql
    cases qs : strsO ds with
    | none => rw [qs] at h; exact h.elim
    | some ys =>
      rw [qs] at h
      dsimp only at h
      split at h
      · rename_i hk
        rw [strsO_is qs ra] at sq
        exact ⟨x, a, ys, rfl, by rw [ea], sq, hk, h _ θ H (.refl hw) rfl⟩
      · exact h.elim
theorem de_join (ho : PE X o (tE X go)) (he : PE X e (tE X ge)) (h1 : noStar e = true := by rfl) (hbase : attributeBase o "join" X.env (eval o X.env) = eval o X.env := by rfl) (hline : (apos.endLine == cpos.line) = true := by rfl) :
    PE X (.Call (.Attribute o "join" apos) [e] [] cpos) (tE X (gMethS joinF go ge)) :=
  (pe_bm PySem.F.plainAttrs_str PySem.F.slot_str_join PySem.F.type_str_join mt_join ho (pa_cons he pa_nil (sE h1)) hbase (fewOne h1) hline (sE h1) rfl).of fun σ H Q h => methS_of (fun θ H M x d y Q => join_of) h
end
end DL

set_option Elab.async false
set_option linter.all false
set_option maxRecDepth 100000
set_option maxHeartbeats 4000000
/-! The data layer: the signs of a text as a list; insert and pop at a place. -/
namespace DL
open PySem PySem.Spec PyProof.Rows L2
section
variable {X : Cx}
/-! ### list(text) -/
theorem vals_signs {x : Str} {acc : Array Value} (h : ItemsOf (SignAt x) acc x.cps.size) : Vals (x.cps.toList.map fun c => V.str ⟨#[c]⟩) acc.toList := by
  obtain ⟨h1, h2⟩ := h
  have go : ∀ (cs : List Nat) (us : List Value), cs.length = us.length → (∀ (j : Nat) (u : Value), us[j]? = some u → ∃ c t, cs[j]? = some c ∧ u = Value.str ⟨#[c]⟩ t) → Vals (cs.map fun c => V.str ⟨#[c]⟩) us := by
    intro cs
    induction cs with
    | nil =>
      intro us hl _
      cases us with
      | nil => exact .nil
      | cons _ _ => cases hl
    | cons c cs ih =>
      intro us hl hu
      cases us with
      | nil => cases hl
      | cons u us =>
        obtain ⟨c', t, ec, eu⟩ := hu 0 u rfl
        cases ec
        exact .cons ⟨t, eu⟩ (ih us (by simpa using hl) fun j v hj => hu (j + 1) v hj)
  refine go _ _ (by simp [h1]) fun j u hj => ?_
  obtain ⟨c, t, ec, eu⟩ := h2 j u (by simpa using hj)
  exact ⟨c, t, by simpa using ec, eu⟩
theorem isDs_signs {K : PySem.W.Frag} {θ : List Addr} {H : Hp} : ∀ cs : List Nat, isDs K θ H (cs.map fun c => D.str ⟨#[c]⟩) (cs.map fun c => V.str ⟨#[c]⟩)
  | [] => rfl
  | c :: cs => ⟨_, _, rfl, rfl, isDs_signs cs⟩
def listA : FD := fun ds M => match ds with
  | [.str x] => if x.cps.size ≤ sizeLine then .ok (.lst (signsD x)) M else .bad
  | ds => listF ds M
def listMA : FD := fun ds M => match ds with
  | [.str x] => if x.cps.size ≤ sizeLine then .ok (.mr M.length) (M ++ [.lst (signsD x)]) else .bad
  | ds => listM ds M
theorem call_list_txt (hc : X.calm = true) : CallR X (.type "list") (fun xs H Q => ∃ x, xs = [.str x] ∧ x.cps.size ≤ sizeLine ∧ ∀ l, H l = none → Q (.ref l) (upd H l (.lst (x.cps.toList.map fun c => V.str ⟨#[c]⟩)))) := by
  intro pins s σ H xs us Q I r h
  obtain ⟨x, rfl, hz, q⟩ := h
  obtain ⟨u, rfl, rx⟩ := vals1 r
  obtain ⟨t, rfl⟩ := rx
  refine call_list_str (I.ok.hd hc) x t (fun h' tk acc c' kp e it => ?_) hz
  exact ⟨.ref s.heap.objs.size, _, I.laid (t' := tk) kp (Nat.le_refl _) (show ObjOk X.prog X.w _ h' _ (.lst (x.cps.toList.map fun c => V.str ⟨#[c]⟩)) from ⟨by simpa using hz, acc.toList, c', vals_signs it, by simpa using e⟩), rfl, q _ (I.hok.fresh (Nat.le_refl _))⟩
theorem cd_listA (hc : X.calm = true) : CallR X (.type "list") (rC X listA) := by
  intro pins s σ H xs us Q I r h
  obtain ⟨θ, M, ds, hw, rd, h⟩ := h
  have rest : FinE X θ H Q (listF ds M) → _ := fun h => cd_list pins s σ H xs us Q I r ⟨θ, M, ds, hw, rd, h⟩
  unfold listA at h
  split at h
  · rename_i x
    split at h
    · rename_i hz
      obtain ⟨v, e, rv⟩ := one_of rd
      have ev : v = .str x := rv
      subst ev
      exact call_list_txt hc pins s σ H xs us Q I r ⟨x, e, hz, fun l hl => h _ θ _ (go_new hw hl) (new_lst hw hl (isDs_signs _))⟩
    · exact h.elim
  · exact rest h
theorem cd_listMA (hc : X.calm = true) : CallR X (.type "list") (rC X listMA) := by
  intro pins s σ H xs us Q I r h
  obtain ⟨θ, M, ds, hw, rd, h⟩ := h
  have rest : FinE X θ H Q (listM ds M) → _ := fun h => cd_listM pins s σ H xs us Q I r ⟨θ, M, ds, hw, rd, h⟩
  unfold listMA at h
  split at h
  · rename_i x
    split at h
    · rename_i hz
      obtain ⟨v, e, rv⟩ := one_of rd
      have ev : v = .str x := rv
      subst ev
      exact call_list_txt hc pins s σ H xs us Q I r ⟨x, e, hz, fun l hl => h _ _ _ (go_mut hw hl (isDs_signs _)) (mut_last hw)⟩
    · exact h.elim
  · exact rest h
/-! ### methods that change a list -/
def lsM (M : Mem) (k : Nat) : Option (List D) := match M[k]? with
  | some (.lst xs) => some xs
  | _ => none
theorem lsM_at {M : Mem} {k : Nat} {xs : List D} (h : lsM M k = some xs) : M[k]? = some (.lst xs) := by
  unfold lsM at h
  split at h
  · rename_i ys e; cases h; exact e
  · cases h
def gMM (F : List D → List D → Option (D × List D)) (go : GE) (ga : GA) : GE := fun ρ M => (go ρ M).bind fun o M1 => match o with
  | .mr k => match lsM M1 k with
    | some _ => (ga ρ M1).bind fun ds M2 => match lsM M2 k with
      | some xs => match F xs ds with
        | some r => .ok r.1 (M2.set k (.lst r.2))
        | none => .bad
      | none => .bad
    | none => .bad
  | _ => .bad
theorem mm_of {F : List D → List D → Option (D × List D)} {rr : V → List V → Hp → VK → Prop} {σ : L2.St} {H : Hp} {Q : VK} {go : GE} {ga : GA}
    (hF : ∀ θ H M a (k : Nat) xs vs ds us r Q, Wr X.K θ H M → θ[k]? = some a → M[k]? = some (.lst xs) → H a = some (.lst vs) → isDs X.K θ H xs vs → isDs X.K θ H ds us → F xs ds = some r → FinE X θ H Q (.ok r.1 (M.set k (.lst r.2))) → rr (.ref a) us H Q)
    (h : tE X (gMM F go ga) σ H Q) : tBM X.K "list" rr (tE X go) (tA X ga) σ H Q := by
  obtain ⟨ρ, θ, M, hd, hw, h⟩ := h
  refine thenE hd hw (FinE X θ H Q) (fun c M' h => h) (fun h => h) h fun d M1 v θ1 H1 g1 r1 h1 => ?_
  have h2 := FinE.go g1 h1
  cases d with
  | mr k =>
    have h2 : FinE X θ1 H1 Q (match lsM M1 k with
      | some _ => (ga ρ M1).bind fun ds M2 => match lsM M2 k with
        | some xs => match F xs ds with
          | some r => .ok r.1 (M2.set k (.lst r.2))
          | none => .bad
        | none => .bad
      | none => .bad) := h2
    cases q1 : lsM M1 k with
    | none => rw [q1] at h2; exact h2.elim
    | some ys =>
      rw [q1] at h2
      obtain ⟨a, ea, ta⟩ := id r1
      obtain ⟨vs1, hv1, _⟩ := g1.wr.at_ k a _ ta (lsM_at q1)
      refine ⟨by rw [ea]; exact .inl ⟨rfl, vs1, .inl (.inl hv1)⟩, ?_⟩
      refine thenA (hd.go g1) g1.wr (FinE X θ1 H1 Q) (fun c M' h => h) (fun h => h) h2 fun ds M2 us θ2 H2 g2 r2 h3 => ?_
      have h4 := FinE.go g2 h3
      cases q2 : lsM M2 k with
      | none => rw [q2] at h4; exact h4.elim
      | some xs =>
        rw [q2] at h4
        dsimp only at h4
        cases q3 : F xs ds with
        | none => rw [q3] at h4; exact h4.elim
        | some r =>
          rw [q3] at h4
          obtain ⟨a2, ea2, ta2⟩ := r1.go g2
          rw [ea] at ea2
          cases ea2
          obtain ⟨vs, hv, ra⟩ := g2.wr.at_ k a _ ta2 (lsM_at q2)
          rw [ea]
          exact hF θ2 H2 M2 a k xs vs ds us r Q g2.wr ta2 (lsM_at q2) hv ra r2 q3 h4
  | _ => exact h2.elim
def popF (xs ds : List D) : Option (D × List D) := match ds with
  | [.int i] => if 0 ≤ i ∧ i < 2 ^ 62 then (xs[i.toNat]?).map fun d => (d, xs.eraseIdx i.toNat) else none
  | _ => none
theorem isDs_erase {K : PySem.W.Frag} {θ : List Addr} {H : Hp} : ∀ {ds : List D} {vs : List V} (n : Nat), isDs K θ H ds vs → isDs K θ H (ds.eraseIdx n) (vs.eraseIdx n)
  | [], vs, n, h => by cases (show vs = [] from h); rw [List.eraseIdx_nil, List.eraseIdx_nil]; exact rfl
  | d :: ds, vs, 0, h => by obtain ⟨v, r, e, h1, h2⟩ := h; subst e; exact h2
  | d :: ds, vs, n + 1, h => by
    obtain ⟨v, r, e, h1, h2⟩ := h
    subst e
    exact ⟨v, r.eraseIdx n, rfl, h1, isDs_erase n h2⟩
theorem pop_of {θ : List Addr} {H : Hp} {M : Mem} {a : Addr} {k : Nat} {xs : List D} {vs : List V} {ds : List D} {us : List V} {r : D × List D} {Q : VK} (hw : Wr X.K θ H M) (ta : θ[k]? = some a) (em : M[k]? = some (.lst xs)) (hv : H a = some (.lst vs)) (ra : isDs X.K θ H xs vs) (ru : isDs X.K θ H ds us)
    (hF : popF xs ds = some r) (h : FinE X θ H Q (.ok r.1 (M.set k (.lst r.2)))) : rPopAt (.ref a) us H Q := by
  unfold popF at hF
  split at hF
  · rename_i i
    split at hF
    · rename_i hi
      obtain ⟨v, e, rv⟩ := one_of ru
      have ev : v = .int i := rv
      subst ev
      cases qx : xs[i.toNat]? with
      | none => rw [qx] at hF; cases hF
      | some d =>
        rw [qx] at hF
        cases hF
        obtain ⟨y, ey, ry⟩ := isDs_get ra qx
        have hlt := (List.getElem?_eq_some_iff.mp ey).1
        have gs := go_set (ds := xs) hw ta (isDs_erase i.toNat ra)
        refine ⟨a, vs, i, i.toNat, y, rfl, e, hv, by omega, by omega, ?_, ey, h _ θ _ gs (ry.go gs)⟩
        unfold seqIndex?
        have : ¬ i < 0 := by omega
        have e1 : (0 ≤ i) := hi.1
        have e2 : i < (vs.length : Int) := by omega
        simp [this, e1, e2]
    · cases hF
  · cases hF
def rInsert : V → List V → Hp → VK → Prop := fun x vs H Q => ∃ l xs i y, x = .ref l ∧ vs = [.int i, y] ∧ H l = some (.lst xs) ∧ 0 ≤ i ∧ i < 2 ^ 62 ∧ xs.length < sizeLine ∧ Q .non (upd H l (.lst (xs.take i.toNat ++ y :: xs.drop i.toNat)))
theorem mt_insert : MtM X "list.insert" rInsert := by
  intro pins s σ H x vs v us Q I rx rv h
  obtain ⟨l, xs, i, y, rfl, rfl, hH, i0, i1, hz, q⟩ := h
  cases rx
  obtain ⟨u1, u2, rfl, r1, r2⟩ := rv.two
  obtain ⟨t, rfl⟩ := r1
  obtain ⟨z, its, n, r, hl, e⟩ := I.lstM hH
  have fit : ¬ (!Builtin.List.listFitsIndex i) = true := by
    unfold Builtin.List.listFitsIndex
    simp
    omega
  refine call_meets F.slot_list_insert ⟨_, e, rfl⟩ F.entry_list_insert (F.args_list_insert_3 _ _ _) (AutoSeq1.list_insert_list_int_val_1 l its.toArray n i t u2 fit (by rw [List.size_toArray]; omega)) ⟨e, ?_⟩
  have nn : ¬ i < 0 := by omega
  refine ⟨.non, _, I.lset (its' := its.take i.toNat ++ u2 :: its.drop i.toNat) hH e ?_ ((r.take i.toNat).append (.cons r2 (r.drop i.toNat))) ?_, rfl, q⟩
  · show ((its.toArray.extract 0 (if i < 0 then (i + ((its.toArray.size : Nat) : Int)).toNat else min i.toNat its.toArray.size)).push u2 ++ its.toArray.extract (if i < 0 then (i + ((its.toArray.size : Nat) : Int)).toNat else min i.toNat its.toArray.size)) = _
    rw [if_neg nn, List.size_toArray]
    apply Array.toList_inj.mp
    rcases Nat.le_total i.toNat its.length with h | h
    · rw [Nat.min_eq_left h]
      simp
      exact List.take_of_length_le (by rw [List.length_drop]; exact Nat.le_refl _)
    · rw [Nat.min_eq_right h]
      simp [List.take_of_length_le h, List.drop_of_length_le h]
  · rw [List.length_append, List.length_cons, List.length_take, List.length_drop]
    omega
def insF (xs ds : List D) : Option (D × List D) := match ds with
  | [.int i, d] => if 0 ≤ i ∧ i < 2 ^ 62 ∧ xs.length < sizeLine then some (.non, xs.take i.toNat ++ d :: xs.drop i.toNat) else none
  | _ => none
theorem ins_of {θ : List Addr} {H : Hp} {M : Mem} {a : Addr} {k : Nat} {xs : List D} {vs : List V} {ds : List D} {us : List V} {r : D × List D} {Q : VK} (hw : Wr X.K θ H M) (ta : θ[k]? = some a) (em : M[k]? = some (.lst xs)) (hv : H a = some (.lst vs)) (ra : isDs X.K θ H xs vs) (ru : isDs X.K θ H ds us)
    (hF : insF xs ds = some r) (h : FinE X θ H Q (.ok r.1 (M.set k (.lst r.2)))) : rInsert (.ref a) us H Q := by
  unfold insF at hF
  split at hF
  · rename_i i d
    split at hF
    · rename_i hi
      cases hF
      obtain ⟨v1, r1, e1, q1, q2⟩ := ru
      obtain ⟨v2, r2, e2, q3, q4⟩ := q2
      have e3 : r2 = [] := q4
      subst e3 e2 e1
      have ev : v1 = .int i := q1
      subst ev
      have gs := go_set (ds := xs) hw ta (isDs_append (isDs_take i.toNat ra) (show isDs X.K θ H (d :: xs.drop i.toNat) (v2 :: vs.drop i.toNat) from ⟨v2, _, rfl, q3, isDs_drop i.toNat ra⟩))
      exact ⟨a, vs, i, v2, rfl, rfl, hv, hi.1, hi.2.1, by rw [← isDs_length ra]; exact hi.2.2, h _ θ _ gs rfl⟩
    · cases hF
  · cases hF
variable {o e e2 : Expr} {go : GE} {ga : GA} {apos cpos : Pos}
theorem de_popAt (ho : PE X o (tE X go)) (ha : PA X [e] (tA X ga)) (h1 : noStar e = true := by rfl) (hbase : attributeBase o "pop" X.env (eval o X.env) = eval o X.env := by rfl) (hline : (apos.endLine == cpos.line) = true := by rfl) :
    PE X (.Call (.Attribute o "pop" apos) [e] [] cpos) (tE X (gMM popF go ga)) :=
  (pe_bm PySem.F.plainAttrs_list PySem.F.slot_list_pop PySem.F.type_list_pop mt_popAt ho ha hbase (fewOne h1) hline (sE h1) rfl).of fun σ H Q h => mm_of (fun θ H M a k xs vs ds us r Q => pop_of) h
theorem fewTwo {env : Env} (h : noStar e = true) (h2 : noStar e2 = true) : ((backTo cpos (starEach [e, e2] env)).all (fun x => !x.1) && (backToKw cpos (keywordEach [] env)).all (fun x => x.1.isSome)
      && decide ([e, e2].length + ([] : List Keyword).length + (if ([] : List Keyword).isEmpty then 0 else 1) < 30)) = true := by
  rw [sE h, sE h2]; rfl
theorem de_insert (ho : PE X o (tE X go)) (ha : PA X [e, e2] (tA X ga)) (h1 : noStar e = true := by rfl) (h2 : noStar e2 = true := by rfl) (hbase : attributeBase o "insert" X.env (eval o X.env) = eval o X.env := by rfl) (hline : (apos.endLine == cpos.line) = true := by rfl) :
    PE X (.Call (.Attribute o "insert" apos) [e, e2] [] cpos) (tE X (gMM insF go ga)) :=
  (pe_bm PySem.F.plainAttrs_list PySem.F.slot_list_insert PySem.F.type_list_insert mt_insert ho ha hbase (fewTwo h1 h2) hline (sE h1) (by rw [sE h2]; rfl)).of fun σ H Q h => mm_of (fun θ H M a k xs vs ds us r Q => ins_of) h
end
end DL

set_option Elab.async false
set_option linter.all false
set_option maxRecDepth 100000
set_option maxHeartbeats 4000000
/-! The data layer: a comprehension whose element may raise (begun: the loop, the whole). -/
namespace DL
open PySem PySem.Spec PyProof.Rows L2
section
variable {prog : Program} {w : World} {A : Around} {R : Result → Shared → Prop} {s : Shared}
theorem codeAny_compLoop_anyE {E0 : Value → Shared → Prop} {elt target iter : Expr} {ifs : List Expr} {scope : Scope} {pos : Pos} {it acc : Value} {env : Env} {cond : Sem Bool}
    (hE : ∀ e s', E0 e s' → notedBy (model prog w) A env (fun x s'' => R (.error x) s'') e s') (hc : (forIn (m := Sem) ifs true fun c r => if r = true then do let ok ← isTrue c env (eval c env); pure (ForInStep.yield ok) else pure (ForInStep.yield r)) = cond) (I : Nat → Shared → Prop)
    (turn : ∀ n s, I n s → wpAny (model prog w) A (pyNext it) (fun r s₁ => match r with
      | none => R (.ok .next) s₁
      | some v => wpAny (model prog w) A (letOwnedTupleGo target it v) (fun _ s₂ => wpAny (model prog w) A (assign target env v) (fun _ s₃ => wpAny (model prog w) A cond (fun ok s₄ => if ok = true then
          wpAny (model prog w) A (eval elt env) (fun x s₅ => wpAny (model prog w) A (call (.builtin "list.append") [acc, x]) (fun _ s₆ => ∃ m, m < n ∧ I m s₆) (fun _ _ => False) s₅) E0 s₄
          else ∃ m, m < n ∧ I m s₄) (fun _ _ => False) s₃) (fun _ _ => False) s₂) (fun _ _ => False) s₁) (fun _ _ => False) s)
    (n : Nat) (h : I n s) : codeAny (model prog w) A (.compLoop (.ListComp elt [⟨target, iter, ifs, 0⟩] scope pos) 0 it acc env) R s := by
  refine codeAny_loop rfl I (fun n s hI => ?_) n h
  show wpAny _ _ ((compTurn (.ListComp elt [⟨target, iter, ifs, 0⟩] scope pos) 0 it acc env).onRaise (fun x => do noteFrame x env; theTreesLotGoes x)) _ _ s
  refine wpAny_noted ?_
  rw [compTurn_if _ _ _ _ _ _ _ _ _ _ hc]
  refine wpAny_bind (wpAny_standAt (wpAny_bind (wpAny_mono (turn n s hI) (fun r s₁ h₁ => ?_) fun _ _ z => z.elim)))
  cases r with
  | none => exact wpAny_pure h₁
  | some v =>
    refine wpAny_bind (wpAny_mono h₁ (fun _ s₂ h₂ => ?_) fun _ _ z => z.elim)
    refine wpAny_bind (wpAny_mono h₂ (fun _ s₃ h₃ => ?_) fun _ _ z => z.elim)
    refine wpAny_bind (wpAny_mono h₃ (fun ok s₄ h₄ => ?_) fun _ _ z => z.elim)
    cases ok with
    | true =>
      rw [if_pos rfl] at h₄
      rw [if_pos rfl]
      exact wpAny_bind (wpAny_bind (wpAny_mono h₄ (fun x s₅ h₅ => wpAny_bind (wpAny_mono h₅ (fun _ s₆ h₆ => wpAny_pure (wpAny_pure ⟨rfl, h₆⟩)) fun _ _ z => z.elim)) fun e s' z => hE e s' z))
    | false =>
      rw [if_neg Bool.false_ne_true] at h₄
      rw [if_neg Bool.false_ne_true]
      exact wpAny_pure ⟨rfl, h₄⟩
end
section
variable {M : Model} {A : Around} {E : Value → Shared → Prop} {s : Shared} {env : Env}
/-- what is to be shown behind a comprehension's block; where it raised, the block's own env is told -/
def endOf (M : Model) (A : Around) (E : Value → Shared → Prop) (use : Option (Value → Sem Unit)) (Q : Value → Shared → Prop) (acc : Value) (ce : Env) (r : Result) (s' : Shared) : Prop :=
  match r with
  | .ok f => compPost M A E use Q acc ce.locals (.ok f) s'
  | .error x => ∃ m, s'.heap.Ns ce.locals m ∧ ∀ h', Heap.SameBut ce.locals s'.heap h' → wpAny M A (passOn "comprehension.variables-let-go" x ce : Sem Value) (fun _ _ => False) E { s' with heap := h' }
theorem comp_whole {e : Expr} {scope : Scope} {pos : Pos} {mk fst : Sem Value} {c0 : Comprehension} {cs : List Comprehension} {cl : List (Str × Addr)} {use : Option (Value → Sem Unit)} {Q : Value → Shared → Prop}
    (k1 : clausesOf e = c0 :: cs) (k2 : ∀ x, foldedSetIterable c0.iter env x = pure x) (k3 : closureFor scope env = pure cl) (k4 : scope.kind = .function) (k5 : ∀ x ∈ scope.names, x.2 = .local → scope.names.lookup x.1 = some .local)
    (go : wpAny M A fst (fun x s1 => wpAny M A (pyIter x) (fun it s2 => wpAny M A mk (fun acc s3 => wpAny M A (newFunctionEnv scope env.globals cl [] env.qual none .none (some env)) (fun ce s4 =>
      codeAny M A (.compStart e 0 it acc { ce with scope := relabel scope env }) (endOf M A E use Q acc { ce with scope := relabel scope env }) s4) E s3) E s2) E s1) E s) :
    wpAny M A (comprehension e scope env pos mk false fst use) Q E s := by
  unfold comprehension
  rw [k3, k1]
  refine wpAny_bind (wpAny_mono go (fun x s1 g1 => ?_) fun _ _ z => z)
  refine wpAny_bind (wpAny_standAt (wpAny_bind (wpAny_of_eq (k2 x) (wpAny_bind (wpAny_holding (wpAny_mono g1 (fun it s2 g2 => ?_) fun _ _ z => z))))))
  refine wpAny_standIf (wpAny_bind (wpAny_mono g2 (fun acc s3 g3 => ?_) fun _ _ z => z))
  refine wpAny_bind (wpAny_pure (wpAny_bind (wpAny_mono g3 (fun ce s4 g4 => ?_) fun _ _ z => z)))
  dsimp only
  have loc : ∀ y ∈ (scope.names.filter fun y => (y.2 == .local || y.2 == .cell) && y.1 != (".0" : Str)).reverse, y.2 = .local → Env.kindOf { ce with scope := relabel scope env } y.1 = some .local :=
    fun y hy hl => lookup_relabel_local (k5 y (List.mem_filter.mp (List.mem_reverse.mp hy)).1 hl)
  have loc2 : ∀ y ∈ (scope.names.filter fun y => (y.2 == .local || y.2 == .cell) && y.1 != (".0" : Str)).reverse.drop 1 ++ (scope.names.filter fun y => (y.2 == .local || y.2 == .cell) && y.1 != (".0" : Str)).reverse.take 1,
      y.2 = .local → Env.kindOf { ce with scope := relabel scope env } y.1 = some .local := fun y hy hl => by
    rcases List.mem_append.mp hy with z | z
    · exact loc y (List.mem_of_mem_drop z) hl
    · exact loc y (List.mem_of_mem_take z) hl
  refine wpAny_holding (wpAny_bind (wpAny_attempt (wpAny_holding (wpAny_run (codeAny_mono g4 fun r s5 g5 => ?_)))))
  cases r with
  | ok f =>
    cases use with
    | none =>
      obtain ⟨m, hn, g6⟩ := g5
      exact wpAny_bind (wpAny_holding (wpAny_comp_letGo (cenv := { ce with scope := relabel scope env }) k4 _ s5 m loc hn fun h' m' _ sb => wpAny_pure (g6 h' sb)))
    | some u =>
      refine wpAny_bind (wpAny_rule (wpAny_bind (wpAny_holding (wpAny_mono g5 (fun _ s6 g6 => ?_) fun _ _ z => z))))
      obtain ⟨m, hn, g7⟩ := g6
      exact wpAny_bind (wpAny_comp_letGo (cenv := { ce with scope := relabel scope env }) k4 _ s6 m loc2 hn fun h' m' _ sb => wpAny_pure (g7 h' sb))
  | error x =>
    obtain ⟨m, hn, g6⟩ := g5
    exact wpAny_bind (wpAny_holding (wpAny_comp_letGo (cenv := { ce with scope := relabel scope env }) k4 _ s5 m loc hn fun h' m' _ sb => wpAny_mono (g6 h' sb) (fun _ _ z => z.elim) fun _ _ z => z))
end
section
variable {M : Model} {A : Around} {E : Value → Shared → Prop} {s : Shared}
theorem note_same {e : Value} {v1 v2 : Env} (h : v1.frame = v2.frame) : noteFrame e v1 = noteFrame e v2 := by
  unfold noteFrame PySem.frameOf
  rw [h]
/-- an exception that is noted in a frame passes on within it -/
theorem pass_held {α : Type} {B : Heap} {l : List Env} {a L : Addr} {cls a0 : Value} {what : String} {ce : Env} {Q : α → Shared → Prop} (hf : ce.frame = some L) (held : Heap.HeldW B l a cls a0 L s.heap)
    (fin : ∀ h', Heap.HeldW B l a cls a0 L h' → s.heap.UpToSlots h' → E (.ref a) { s with heap := h' }) : wpAny M A (passOn what (.ref a) ce : Sem α) Q E s := by
  obtain ⟨f1, f2, f3, oe, vs, T, oT, ts, e1, cl, d1, v1, nT, Ta, e2, d2, v3⟩ := held
  have z3 : 3 < ts.size := (Array.getElem?_eq_some_iff.mp v3).1
  have off : ∀ b, b ≠ T → (s.heap.update T (Obj.mapFields (·.setIfInBounds 3 (rawInt L)))).get? b = s.heap.get? b := fun b hb => Heap.get?_update_other _ _ (Ne.symm hb)
  have rec_ : ∀ b o, s.heap.get? b = some o → (∀ us, o.data ≠ .fields us) → b ≠ T := fun b o hb n z => by
    rw [z, e2] at hb
    cases hb
    exact n ts d2
  have here : Heap.HeldW B l a cls a0 L (s.heap.update T (Obj.mapFields (·.setIfInBounds 3 (rawInt L)))) :=
    ⟨fun b o q => (off b fun z => by rw [z, nT] at q; cases q).trans (f1 b o q), f2, f3.of_keeps fun b o q n => ⟨o, (off b (rec_ b o q n)).trans q, rfl⟩,
      oe, vs, T, _, _, (off a (Ne.symm Ta)).trans e1, cl, d1, v1, nT, Ta, Heap.get?_update_self _ e2 (Obj.isFreed_of_fields (Obj.data_mapFields d2 _)), Obj.data_mapFields d2 _, by simp [z3]⟩
  unfold PySem.passOn
  refine wpAny_bind (wpAny_field e1 d1 v1 ?_)
  rw [if_neg (by simp)]
  refine wpAny_bind ?_
  unfold setFlight
  refine wpAny_bind (wpAny_field e1 d1 v1 ?_)
  rw [if_pos (by simp), hf]
  refine wpAny_setField e2 d2 z3 (wpAny_throw ?_)
  exact fin _ here fun b o q n => ⟨o.slots, (off b (rec_ b o q n)).trans q⟩
end
section
variable {X : Cx} {pins : List (Addr × Obj)} {σ : L2.St} {scope : Scope} {xs R : List Str} {fp : List Addr} {s2 : Shared} {H2 : Hp} {C : Addr}
theorem frames_off {h h' B : Heap} {C : Addr} (sb : Heap.SameBut C h h') : ∀ {l : List Env}, (∀ b ∈ frs l, b ≠ C) → h.FunFrames B l → h'.FunFrames (PySem.W.hideAll B [C]) l
  | [], _, _ => trivial
  | env :: r, n, k => by
    obtain ⟨k1, ⟨L, o, hf, hb, ho, hd⟩, k3⟩ := k
    have mL : L ∈ frs (env :: r) := List.mem_filterMap.mpr ⟨env, List.mem_cons_self .., hf⟩
    refine ⟨k1, ⟨L, o, hf, ?_, (sb.2 L (n L mL)).trans ho, hd⟩, frames_off sb (fun b hb => ?_) k3⟩
    · cases q : (PySem.W.hideAll B [C]).get? L with
      | none => rfl
      | some o => rw [PySem.W.of_hideAll _ q] at hb; cases hb
    · obtain ⟨e, he, hf⟩ := List.mem_filterMap.mp hb
      exact n b (List.mem_filterMap.mpr ⟨e, List.mem_cons_of_mem _ he, hf⟩)
/-- an exception leaves a comprehension's block -/
theorem comp_pass {H' : Hp} {a Cc L : Addr} {s1 : Shared} {use : Option (Value → Sem Unit)} {Q : Value → Shared → Prop} {acc : Value} (I2 : L2.Inv X pins σ H2 s2) (f2 : ∀ b ∈ fp, FpOk X pins H2 b) (hfl : ∀ b ∈ fp, b < s2.heap.objs.size) (hC : s2.heap.objs.size ≤ C)
    (hst : X.stack = X.env :: X.outer) (hf : X.env.frame = some L) (fl : Fly (compCx X scope xs R fp s2 H2 C) H' a Cc s1) (hx : ∀ s4, Fly X H' a Cc s4 → X.xe (.ref a) s4) :
    notedBy (model X.prog X.w) X.A (compCx X scope xs R fp s2 H2 C).env (fun x s' => endOf (model X.prog X.w) X.A X.xe use Q acc (compCx X scope xs R fp s2 H2 C).env (.error x) s') (.ref a) s1 := by
  obtain ⟨pins', σ', fl⟩ := fl
  have hfr : X.A.frames = some (X.env :: X.outer) := by rw [← hst]; exact I2.ok.frames
  -- behind the noting
  have out : ∀ (B : Heap) (a0 : Value) (h4 : Heap), L2.Inv (compCx X scope xs R fp s2 H2 C) pins' σ' H' { s1 with heap := h4 } → H' a = none → Heap.HeldW B X.stack a (.ref Cc) a0 L h4 → Cov (compCx X scope xs R fp s2 H2 C) pins' H' B →
      endOf (model X.prog X.w) X.A X.xe use Q acc (compCx X scope xs R fp s2 H2 C).env (.error (.ref a)) { s1 with heap := h4 } := fun B a0 h4 I4 hn held cov => by
    obtain ⟨m, hnC, _⟩ := I4.loc
    refine ⟨m, hnC, fun h5 sb => ?_⟩
    have hnC : h4.Ns C m := hnC
    have fC : FpOk X pins H' C := I2.fpOk hC I4.free
    have IX4 : L2.Inv X pins σ H' { s1 with heap := h4 } := I2.call' (ch := fp) I4.os I4.base I4.hok I4.bare fun b hb => ⟨(f2 b hb).2.2.2.1, (f2 b hb).2.1, (f2 b hb).2.2.2.2.1, (f2 b hb).2.2.2.2.2⟩
    have IX5 : L2.Inv X pins σ H' { s1 with heap := h5 } := IX4.turned (t' := s1.toks) (fun b o hb e => (sb.2 b hb).trans e) fC.1 fC.2.1 fC.2.2.2.1 fC.2.2.2.2.1 fC.2.2.2.2.2
    have neC : ∀ b o us, h4.get? b = some o → o.data = .fields us → b ≠ C := fun b o us e d z => by
      obtain ⟨o', es, ep, e1, e2, _⟩ := hnC
      rw [z, e1] at e
      cases e
      rw [e2] at d; cases d
    have inB : ∀ b o, B.get? b = some o → b ≠ C → (PySem.W.hideAll B [C]).get? b = some o := fun b o e n => PySem.W.hideAll_get [C] e fun z => n (by simpa using z)
    have old : ∀ b o, s2.heap.get? b = some o → b ∉ fp → b ∉ frs X.stack → ∃ o', (PySem.W.hideAll B [C]).get? b = some o' := fun b o e n1 n2 => by
      obtain ⟨o', e'⟩ := cov.old b o e n1 n2
      exact ⟨o', inB b o' e' (Nat.ne_of_lt (Nat.lt_of_lt_of_le (Heap.lt_size e) hC))⟩
    have covX : Cov X pins H' (PySem.W.hideAll B [C]) := by
      refine ⟨fun b o e => ?_, fun p hp => ?_, fun b o e n1 n2 => ?_⟩
      · obtain ⟨o', e'⟩ := cov.trk b o e
        exact ⟨o', inB b o' e' fun z => by rw [z, fC.1] at e; cases e⟩
      · obtain ⟨e, n, ne, nf, d⟩ := I2.pin p hp
        refine old p.1 p.2 e (fun z => (f2 p.1 z).2.2.2.2.2 p hp rfl) fun z => ?_
        rcases List.mem_cons.mp (I2.stkSub _ z) with q | q
        · exact ne q
        · exact nf q
      · obtain ⟨o', e'⟩ := I2.base.there b o e n1
        refine old b o' e' (fun z => ?_) n2
        rcases (f2 b z).2.2.2.1 with q | q
        · exact n1 q
        · exact absurd (Heap.lt_size e) (Nat.not_lt.mpr q)
    obtain ⟨g1, g2, g3, oe, vs, T, oT, ts, e1, cl, d1, v1, nT, Ta, e2, d2, v3⟩ := held
    have hid : ∀ b, B.get? b = none → (PySem.W.hideAll B [C]).get? b = none := fun b e => by
      cases q : (PySem.W.hideAll B [C]).get? b with
      | none => rfl
      | some o => rw [PySem.W.of_hideAll _ q] at e; cases e
    have held5 : Heap.HeldW (PySem.W.hideAll B [C]) X.stack a (.ref Cc) a0 L h5 := by
      refine ⟨fun b o q => ?_, hid a g2, ?_, oe, vs, T, oT, ts, (sb.2 a (neC a oe vs e1 d1)).trans e1, cl, d1, v1, hid T nT, Ta, (sb.2 T (neC T oT ts e2 d2)).trans e2, d2, v3⟩
      · have hb : b ≠ C := fun z => by
          rw [z, PySem.W.hideAll_none [C] (by simp)] at q; cases q
        exact (sb.2 b hb).trans (g1 b o (PySem.W.of_hideAll _ q))
      · exact frames_off sb (fun b hb z => by
          rcases List.mem_cons.mp (I2.stkSub b hb) with q | q
          · exact absurd I2.lt (Nat.not_lt.mpr (by rw [← q, z]; exact hC))
          · exact I2.nofs hC (by have z : b = C := z; rw [← z]; exact q)) g3
    refine pass_held (s := { s1 with heap := h5 }) (L := L) hf held5 fun h6 held6 up6 => ?_
    exact hx _ ⟨pins, σ, .inr (.inr ⟨inv_seen IX5 covX held5.1 held6.1 up6, hn, _, a0, L, hf, held6, covX⟩)⟩
  unfold notedBy
  rw [note_same (v1 := (compCx X scope xs R fp s2 H2 C).env) (v2 := X.env) rfl]
  rcases fl with ⟨h, vs, I, m⟩ | ⟨I, hn, B, a0, fl, cov⟩ | ⟨I, hn, B, a0, L', hL, held, cov⟩
  · have cov := cov_hide I
    have hid : ∀ b o, (PySem.W.hideAll h (frs X.stack)).get? b = some o → h.get? b = some o := fun b o q => PySem.W.of_hideAll _ q
    have ff : h.FunFrames (PySem.W.hideAll h (frs X.stack)) (X.env :: X.outer) := by rw [← hst]; exact frames_hide I
    refine looks_made hfr hf hid ff m fun h4 t held4 up4 => ?_
    rw [← hst] at held4
    exact out _ _ h4 (inv_seen (s := s1) (I.kept (t' := s1.toks) (h' := s1.heap) m.keeps) cov (fun b o q => m.keeps b o (hid b o q)) held4.1 up4) (made_free I m) held4 cov
  · have fl' : Heap.FlyingW B (X.env :: X.outer) a (.ref Cc) a0 s1.heap := by rw [← hst]; exact fl
    refine wpAny_looks_onW hfr hf fl' fun h4 held4 up4 => ?_
    rw [← hst] at held4
    exact out B a0 h4 (inv_seen I cov fl.1 held4.1 up4) hn held4 cov
  · have hL' : X.env.frame = some L' := hL
    have e : L' = L := by rw [hf] at hL'; cases hL'; rfl
    subst e
    exact wpAny_noteFrame_againW hf held.2.2.2 (out B a0 _ I hn held cov)
end
end DL

set_option Elab.async false
set_option linter.all false
set_option maxRecDepth 100000
set_option maxHeartbeats 4000000
/-! The data layer: a comprehension whose element may raise: its block. -/
namespace DL
open PySem PySem.Spec PyProof.Rows L2
def compGoE (t : Its) (n : Nat) (sg : GG) (gc : GT) (ge : GE) : List D → Rho → Mem → Out (List D)
  | [], ρ, M => if t.ok M then .ok [] M else .bad
  | d :: r, ρ, M => if t.ok M then
      match sg d (List.replicate n none ++ ρ) with
      | none => .bad
      | some ρ1 => match gc ρ1 M with
        | .ok true M1 => match ge ρ1 M1 with
          | .ok e M2 => (compGoE t n sg gc ge r ρ M2).bind fun es M3 => .ok (e :: es) M3
          | .err c M2 => .err c M2
          | .bad => .bad
        | .ok false M1 => compGoE t n sg gc ge r ρ M1
        | _ => .bad
    else .bad
def compCxE (X : Cx) (scope : Scope) (xs : List Str) (R : List Str) (fp : List Addr) (s : Shared) (H : Hp) (C : Addr) : Cx :=
  { compCx X scope xs R fp s H C with xe := fun e s' => ∃ a Cc c θ' H' M', e = .ref a ∧ ClsAt X.K c Cc ∧ Wr X.K θ' H' M' ∧ ErrOk X θ' H' c M' ∧ Fly (compCx X scope xs R fp s H C) H' a Cc s' }
section
variable {X : Cx} {pins : List (Addr × Obj)} {σ : L2.St} {s : Shared} {scope : Scope} {xs : List Str} {tg : Expr} {sg : GG} {R : List Str} {elt iter : Expr} {ifs : List Expr} {pos : Pos} {E : Value → Shared → Prop}
theorem inv_E {fp : List Addr} {s2 : Shared} {H2 : Hp} {C : Addr} {pins' : List (Addr × Obj)} {σ' : L2.St} {H : Hp} (I : L2.Inv (compCx X scope xs R fp s2 H2 C) pins' σ' H s) : L2.Inv (compCxE X scope xs R fp s2 H2 C) pins' σ' H s :=
  have k := I.ok
  ⟨⟨k.mod, k.kind, k.glob, k.blt, k.above, k.inj, k.has, k.cab, k.hd, k.frames, k.stk, k.exf, k.bs, k.bsz, k.noex, k.exfs, k.funs, k.frf⟩, I.os, I.bare, I.base, I.loc, I.cell, I.free, I.freeC, I.pin, I.hok, I.len⟩
theorem inv_unE {fp : List Addr} {s2 : Shared} {H2 : Hp} {C : Addr} {pins' : List (Addr × Obj)} {σ' : L2.St} {H : Hp} (I : L2.Inv (compCxE X scope xs R fp s2 H2 C) pins' σ' H s) : L2.Inv (compCx X scope xs R fp s2 H2 C) pins' σ' H s :=
  have k := I.ok
  ⟨⟨k.mod, k.kind, k.glob, k.blt, k.above, k.inj, k.has, k.cab, k.hd, k.frames, k.stk, k.exf, k.bs, k.bsz, k.noex, k.exfs, k.funs, k.frf⟩, I.os, I.bare, I.base, I.loc, I.cell, I.free, I.freeC, I.pin, I.hok, I.len⟩
theorem fly_unE {fp : List Addr} {s2 : Shared} {H2 : Hp} {C : Addr} {H : Hp} {a Cc : Addr} (fl : Fly (compCxE X scope xs R fp s2 H2 C) H a Cc s) : Fly (compCx X scope xs R fp s2 H2 C) H a Cc s := by
  obtain ⟨p, q, fl⟩ := fl
  refine ⟨p, q, ?_⟩
  rcases fl with ⟨h, vs, I, m⟩ | ⟨I, hn, B, a0, fl, cov⟩ | ⟨I, hn, B, a0, L, hL, held, cov⟩
  · exact .inl ⟨h, vs, inv_unE I, m⟩
  · exact .inr (.inl ⟨inv_unE I, hn, B, a0, fl, cov.trk, cov.pin, cov.old⟩)
  · exact .inr (.inr ⟨inv_unE I, hn, B, a0, L, hL, held, cov.trk, cov.pin, cov.old⟩)
theorem errE_comp {fp : List Addr} {s2 : Shared} {H2 : Hp} {C : Addr} {θ : List Addr} {H : Hp} {c : Str} {M : Mem} (h : ErrOk X θ H c M) : ErrOk (compCxE X scope xs R fp s2 H2 C) θ H c M :=
  fun Cc θ' H' a s' kC g fl => ⟨a, Cc, c, θ', H', M, rfl, kC, g.wr, ErrOk.go g h, fly_unE fl⟩
theorem comp_leaves {fp : List Addr} {s2 : Shared} {H2 : Hp} {C L : Addr} {e : Value} {s1 : Shared} {use : Option (Value → Sem Unit)} {Q : Value → Shared → Prop} {acc : Value} (I2 : L2.Inv X pins σ H2 s2) (f2 : ∀ b ∈ fp, FpOk X pins H2 b) (hfl : ∀ b ∈ fp, b < s2.heap.objs.size) (hC : s2.heap.objs.size ≤ C)
    (hst : X.stack = X.env :: X.outer) (hf : X.env.frame = some L) (h : (compCxE X scope xs R fp s2 H2 C).xe e s1) :
    notedBy (model X.prog X.w) X.A (compCx X scope xs R fp s2 H2 C).env (fun x s' => endOf (model X.prog X.w) X.A X.xe use Q acc (compCx X scope xs R fp s2 H2 C).env (.error x) s') e s1 := by
  obtain ⟨a, Cc, c, θ', H', M', rfl, kC, hw, ok, fl⟩ := h
  exact comp_pass I2 f2 hfl hC hst hf fl fun s4 f4 => ok Cc θ' H' a s4 kC (.refl hw) f4
/-- the block, where an element may raise -/
theorem comp_blockE {fp : List Addr} {it : Addr} {tn : Nat → Heap → Prop} {J : It} {H2 : Hp} {s2 : Shared} {t : Its} {M1 : Mem} {θ1 : List Addr} {ρ : Rho} {gc : GT} {ge : GE} {o : Out (List D)} {use : Option (Value → Sem Unit)} {QQ : Value → Shared → Prop} {Lf : Addr}
    (S : CompScope scope X.env.kindOf xs R X.N) (hc : X.calm = true) (I2 : L2.Inv X pins σ H2 s2) (T : Turn X.prog X.w X.K tg J fp it tn) (st2 : tn 0 s2.heap) (f2 : ∀ b ∈ fp, FpOk X pins H2 b)
    (hw1 : Wr X.K θ1 H2 M1) (hd1 : Den X.K θ1 H2 σ ρ) (hJ : ItD X.K J θ1 H2 t) (hst : X.stack = X.env :: X.outer) (hfr : X.env.frame = some Lf) (hgo : compGoE t xs.length sg gc ge t.ds ρ M1 = o) (hbad : o ≠ .bad) (hroom : t.ds.length ≤ sizeLine) (hlen : ∀ es Mend, o = .ok es Mend → es.length ≤ sizeLine) (herr : ∀ c Mend, o = .err c Mend → ErrOk X θ1 H2 c Mend)
    (hcd : ∀ C, ∃ cond, (forIn (m := Sem) ifs true fun c r => if r = true then do let ok ← isTrue c (compCx X scope xs R fp s2 H2 C).env (eval c (compCx X scope xs R fp s2 H2 C).env); pure (ForInStep.yield ok) else pure (ForInStep.yield r)) = cond ∧
      ∀ (pins : List (Addr × Obj)) (s : Shared) (σ : L2.St) (H : Hp) (Q : Bool → Hp → Prop), L2.Inv (compCx X scope xs R fp s2 H2 C) pins σ H s → tT (compCx X scope xs R fp s2 H2 C) gc σ H Q → wpAny (model X.prog X.w) X.A cond (TP (compCx X scope xs R fp s2 H2 C) pins σ Q) (fun _ _ => False) s)
    (own : OwnG xs.length sg) (hg : ∀ C, PG (compCx X scope xs R fp s2 H2 C) tg (tG (compCx X scope xs R fp s2 H2 C) sg))
    (he : ∀ C, PE (compCxE X scope xs R fp s2 H2 C) elt (tE (compCxE X scope xs R fp s2 H2 C) ge))
    (fin : ∀ (es : List D) (Mend : Mem), o = .ok es Mend → ∀ (acc C : Addr) (s' : Shared) (H' : Hp) (θ' : List Addr) (vs : List V) (m : Str → Option Value), L2.Inv X pins σ (upd H' acc (.lst vs)) s' → s'.heap.Ns C m → FpOk X pins (upd H' acc (.lst vs)) C → Go X.K θ1 H2 θ' H' Mend → H' acc = none → isDs X.K θ' H' es vs → compPost (model X.prog X.w) X.A X.xe use QQ (.ref acc) C (.ok .next) s') :
    wpAny (model X.prog X.w) X.A (newList []) (fun acc s₃ => wpAny (model X.prog X.w) X.A (newFunctionEnv scope X.env.globals (capsOf X.env.cells scope.names []) [] X.env.qual none .none (some X.env)) (fun cenv s₄ =>
      codeAny (model X.prog X.w) X.A (.compStart (.ListComp elt [⟨tg, iter, ifs, 0⟩] scope pos) 0 (.ref it) acc { cenv with scope := relabel scope X.env }) (endOf (model X.prog X.w) X.A X.xe use QQ acc { cenv with scope := relabel scope X.env }) s₄) E s₃) E s2 := by
  refine wpAny_newObj_type (wpAny_newFunctionEnv S.nocell (by intro y hy; simp at hy) (fun h₁ hns₁ hsb₁ => ?_) S.kind)
  dsimp only at hns₁ hsb₁ ⊢
  generalize hHp : s2.heap.push { cls := .type "list", dict := none, data := .seq ([] : List Value).toArray } = Hp2 at hns₁ hsb₁ ⊢
  have hCe : Hp2.objs.size = s2.heap.objs.size + 1 := by rw [← hHp, Heap.size_push]
  generalize hCd : Hp2.objs.size = C at hns₁ hsb₁ hCe ⊢
  generalize hAd : s2.heap.objs.size = acc at hCe ⊢
  have hDC : acc ≠ C := by rw [hCe]; exact Nat.ne_of_lt (Nat.lt_succ_self _)
  have old : ∀ b o, s2.heap.get? b = some o → h₁.get? b = some o := fun b o e => by
    have hb : b < acc := by rw [← hAd]; exact Heap.lt_size e
    refine hsb₁.extBut b o (ne_succ hb hCe) (Heap.get?_push_of_some _ ?_)
    rw [← hHp]; exact Heap.get?_push_of_some _ e
  have hacc0 : h₁.get? acc = some (lstObj [] 0) := by
    refine hsb₁.extBut acc _ hDC (Heap.get?_push_of_some _ ?_)
    rw [← hHp, ← hAd]; exact Heap.get?_push_size _ rfl
  have hfl : ∀ b ∈ fp, b < s2.heap.objs.size := fun b hb => by
    obtain ⟨o, e, _⟩ := T.obj 0 _ st2 b hb
    exact Heap.lt_size e
  have hCs : s2.heap.objs.size ≤ C := by omega
  have IY0 : L2.Inv (compCx X scope xs R fp s2 H2 C) [] (List.replicate xs.length none ++ σ) H2 { s2 with heap := h₁, toks := s2.toks + ([] : List (Str × Value)).length } := comp_inv S I2 hCs old hns₁ f2 hfl
  obtain ⟨cond, hcond, hct⟩ := hcd C
  -- what is true of the iterator's objects within the block
  have fpY : ∀ {H' : Hp} {p : Obj}, (∀ b ∈ fp, H' b = none) → ∀ b ∈ fp, FpOk (compCx X scope xs R fp s2 H2 C) [(acc, p)] H' b := fun {H' p} hn b hb => by
    refine ⟨hn b hb, ?_, fun z => ?_, .inl hb, fun y c e => ?_, fun q hq => ?_⟩
    · exact Nat.ne_of_lt (Nat.lt_of_lt_of_le (hfl b hb) hCs)
    · rcases List.mem_cons.mp (I2.stkSub b z) with e | e
      · exact (f2 b hb).2.1 e
      · exact (f2 b hb).2.2.1 e
    · exact (f2 b hb).2.2.2.2.1 y c (caps_lookup S I2 e)
    · have hq : q ∈ ([] : List (Addr × Obj)) ++ [(acc, p)] := hq
      have e : q = (acc, p) := by simpa using hq
      rw [e]
      exact ne_ltE (hfl b hb) hAd
  have accF : ∀ b ∈ frs X.stack, acc ≠ b := fun b hb e => by
    have : acc ∉ X.env.locals :: X.fs := by
      intro z
      rcases List.mem_cons.mp z with z | z
      · exact ne_ltE I2.lt hAd z
      · exact I2.nofs (Nat.le_of_eq hAd) z
    exact this (e ▸ I2.stkSub b hb)
  have loop : ∀ s₃ : Shared, s₃ = { s2 with heap := h₁, toks := s2.toks + ([] : List (Str × Value)).length } →
      codeAny (model X.prog X.w) X.A (.compLoop (.ListComp elt [⟨tg, iter, ifs, 0⟩] scope pos) 0 (.ref it) (.ref acc) (compCx X scope xs R fp s2 H2 C).env) (endOf (model X.prog X.w) X.A X.xe use QQ (.ref acc) (compCx X scope xs R fp s2 H2 C).env) s₃ := by
    rintro s₃ rfl
    have pin0 : ∀ {σ' : L2.St} {H' : Hp} {s' : Shared} {its : List Value} {n : Nat}, L2.Inv (compCx X scope xs R fp s2 H2 C) [] σ' H' s' → s'.heap.get? acc = some (lstObj its n) → H' acc = none → L2.Inv (compCx X scope xs R fp s2 H2 C) [(acc, lstObj its n)] σ' H' s' := fun {σ' H' s' its n} I' e hn =>
      I'.pins_of fun p hp => by
        have ep : p = (acc, lstObj its n) := by simpa using hp
        subst ep
        exact ⟨e, hn, hDC, fun z => accF acc z rfl, fun v z => by cases z⟩
    refine codeAny_compLoop_anyE (E0 := (compCxE X scope xs R fp s2 H2 C).xe) (fun e s' he' => comp_leaves I2 f2 hfl hCs hst hfr he') hcond (fun n s' => ∃ (i : Nat) (τ : L2.St) (H' : Hp) (θ' : List Addr) (M' : Mem) (ds : List D) (vs : List V) (its : List Value) (na : Nat), n = t.ds.length - i ∧ i ≤ t.ds.length ∧
      L2.Inv (compCx X scope xs R fp s2 H2 C) [(acc, lstObj its na)] τ H' s' ∧ Den X.K θ' H' τ (List.replicate xs.length none ++ ρ) ∧ tn i s'.heap ∧ (∀ b ∈ fp, H' b = none) ∧ Go X.K θ1 H2 θ' H' M' ∧ isDs X.K θ' H' ds vs ∧ Vals vs its ∧
      (compGoE t xs.length sg gc ge (t.ds.drop i) ρ M').bind (fun rest M3 => .ok (ds ++ rest) M3) = o ∧ ds.length ≤ i) ?_ t.ds.length
      ⟨0, _, H2, θ1, M1, [], [], [], 0, rfl, Nat.zero_le _, pin0 IY0 hacc0 (I2.hok.fresh (Nat.le_of_eq hAd)), den_pre hd1, T.keep 0 _ _ st2 (fun b hb o e => old b o e), fun b hb => (f2 b hb).1, .refl hw1, rfl, .nil, by rw [List.drop_zero, hgo]; cases o <;> rfl, Nat.le_refl _⟩
    rintro n s' ⟨i, τ, H', θ', M', ds, vs, its, na, rfl, hil, I', dn', st', fr', g', rd', rv', hrest, hdl⟩
    have hok : t.ok M' = true := by
      cases hq : t.ok M' with
      | true => rfl
      | false =>
        exfalso
        cases hdr : t.ds.drop i with
        | nil => rw [hdr, compGoE, if_neg (by rw [hq]; exact Bool.false_ne_true)] at hrest; exact hbad hrest.symm
        | cons d r => rw [hdr, compGoE, if_neg (by rw [hq]; exact Bool.false_ne_true)] at hrest; exact hbad hrest.symm
    obtain ⟨hy, hstop⟩ := hJ θ' H' M' g' hok i
    by_cases hlt : i < t.ds.length
    · have e1 : t.ds[i]? = some t.ds[i] := List.getElem?_eq_getElem hlt
      obtain ⟨hgo', hyl⟩ := hy _ e1
      rw [List.drop_eq_getElem_cons hlt, compGoE, if_pos hok] at hrest
      refine thn (T.item (compCx X scope xs R fp s2 H2 C) rfl rfl rfl hc i _ s' _ H' _ I' (fpY fr') st' hgo') fun r s4 ⟨u, hr, h4⟩ => ?_
      subst hr
      refine thn h4 fun _ s5 ⟨v, H5, I5, r5, y5, st5, fr5⟩ => ?_
      obtain ⟨gy, rx⟩ := hyl v H5 y5
      have I5' := I5.pinned (fpY fr5) (T.obj _ _ st5)
      cases qs : sg t.ds[i] (List.replicate xs.length none ++ ρ) with
      | none => rw [qs] at hrest; exact absurd hrest.symm hbad
      | some ρ1 =>
      rw [qs] at hrest
      dsimp only at hrest
      refine thn (hg C _ s5 _ H5 v u (fun σ6 H6 => Den X.K θ' H6 σ6 ρ1 ∧ H6 = H5) I5' r5 ⟨_, θ', M', t.ds[i], dn'.go gy, gy.wr, rx, ρ1, qs, fun σ6 d6 => ⟨d6, rfl⟩⟩) fun _ s6 ⟨σ6, H6, I6, hdY, eH6⟩ => ?_
      subst eH6
      -- the test
      cases qc : gc ρ1 M' with
      | bad => rw [qc] at hrest; exact absurd hrest.symm hbad
      | err c Mx => rw [qc] at hrest; exact absurd hrest.symm hbad
      | ok b Mb =>
        refine thn (hct _ s6 _ H6 (fun b' H7 => b' = b ∧ ∃ θ7, Go X.K θ' H6 θ7 H7 Mb) I6 ⟨_, θ', M', hdY, gy.wr, ?_⟩) fun ok s7 ⟨H7, I7, eb, θ7, g7⟩ => ?_
        · rw [qc]; exact fun θ7 H7 g7 => ⟨rfl, θ7, g7⟩
        subst eb
        have fpk : ∀ {s8 : Shared} {σ8 : L2.St} {H8 : Hp}, L2.Inv (compCx X scope xs R fp s2 H2 C) ([(acc, lstObj its na)] ++ pinsAt fp s5.heap) σ8 H8 s8 → (∀ b ∈ fp, H8 b = none) ∧ (∀ b ∈ fp, ∀ o, s5.heap.get? b = some o → s8.heap.get? b = some o) ∧ s8.heap.get? acc = some (lstObj its na) ∧ H8 acc = none := fun {s8 σ8 H8} I8 => by
          have pa := I8.pin (acc, lstObj its na) (List.mem_append_right _ (List.mem_append_left _ (by simp)))
          refine ⟨fun b hb => ?_, fun b hb o e => (I8.pin (b, o) (List.mem_append_right _ (List.mem_append_right _ (mem_pinsAt hb e)))).1, pa.1, pa.2.1⟩
          obtain ⟨o, e, d⟩ := T.obj _ _ st5 b hb
          exact (I8.pin (b, o) (List.mem_append_right _ (List.mem_append_right _ (mem_pinsAt hb e)))).2.1
        cases ok with
        | false =>
          rw [if_neg Bool.false_ne_true]
          rw [qc] at hrest
          obtain ⟨k1, k2, k3, k4⟩ := fpk I7
          exact ⟨t.ds.length - (i + 1), by omega, i + 1, σ6, H7, θ7, Mb, ds, vs, its, na, rfl, hlt, I7.unpinned, own.back qs (hdY.go g7), T.keep _ _ _ st5 k2, k1, g'.trans (gy.trans g7), rd'.go (gy.trans g7), rv', hrest, Nat.le_succ_of_le hdl⟩
        | true =>
          rw [if_pos rfl]
          rw [qc] at hrest
          have hrest : (match ge ρ1 Mb with
            | .ok e M2 => (compGoE t xs.length sg gc ge (t.ds.drop (i + 1)) ρ M2).bind fun es M3 => .ok (e :: es) M3
            | .err c M2 => .err c M2
            | .bad => .bad : Out (List D)).bind (fun rest M3 => Out.ok (ds ++ rest) M3) = o := hrest
          cases qe : ge ρ1 Mb with
          | bad => rw [qe] at hrest; exact absurd hrest.symm hbad
          | err c Mx =>
            rw [qe] at hrest
            have eo : o = .err c Mx := hrest.symm
            refine wpAny_mono (he C _ s7 _ H7 (fun _ _ => False) (inv_E I7) ⟨_, θ7, Mb, hdY.go g7, g7.wr, ?_⟩) (fun _ _ z => by obtain ⟨_, _, _, _, z⟩ := z; exact z.elim) fun _ _ z => z
            rw [qe]
            exact errE_comp (ErrOk.go (g'.trans (gy.trans g7)) (herr c Mx eo))
          | ok dv Mv =>
            rw [qe] at hrest
            have hrest : (((compGoE t xs.length sg gc ge (t.ds.drop (i + 1)) ρ Mv).bind fun es M3 => Out.ok (dv :: es) M3) : Out (List D)).bind (fun rest M3 => Out.ok (ds ++ rest) M3) = o := hrest
            have hrest : (compGoE t xs.length sg gc ge (t.ds.drop (i + 1)) ρ Mv).bind (fun rest M3 => Out.ok ((ds ++ [dv]) ++ rest) M3) = o := by
              rw [← hrest]
              cases compGoE t xs.length sg gc ge (t.ds.drop (i + 1)) ρ Mv with
              | ok r M3 => show Out.ok ((ds ++ [dv]) ++ r) M3 = Out.ok (ds ++ (dv :: r)) M3; rw [List.append_assoc]; rfl
              | err c M3 => rfl
              | bad => rfl
            refine thn (he C _ s7 _ H7 (fun w H8 => ∃ θ8, Go X.K θ7 H7 θ8 H8 Mv ∧ isD X.K θ8 H8 dv w) (inv_E I7) ⟨_, θ7, Mb, hdY.go g7, g7.wr, ?_⟩) fun uv s8 ⟨w, H8, I8E, rw8, θ8, g8, rd8⟩ => ?_
            · rw [qe]; exact fun w θ8 H8 g8 rd8 => ⟨θ8, g8, rd8⟩
            have I8 := inv_unE I8E
            obtain ⟨k1, k2, k3, k4⟩ := fpk I8
            have hsz : its.length < sizeLine := by
              have e2 : ds.length = its.length := by rw [isDs_length rd', rv'.length]
              omega
            refine call_meets F.slot_list_append ⟨_, k3, rfl⟩ F.entry_list_append (F.args_list_append_2 _ _) (PySem.list_append acc its.toArray na uv (by rw [List.size_toArray]; omega)) ⟨k3, ?_⟩
            have qup := PySem.IsL.update k3 (fun a => a.push uv)
            have eup : (its.toArray.push uv) = (its ++ [uv]).toArray := by simp
            have keepb : ∀ b o, b ≠ acc → s8.heap.get? b = some o → (s8.heap.update acc (Obj.mapSeq fun a => a.push uv)).get? b = some o := fun b o hb e => (Heap.get?_update_other s8.heap _ (Ne.symm hb)).trans e
            have I9 : L2.Inv (compCx X scope xs R fp s2 H2 C) [] σ6 H8 { s8 with heap := s8.heap.update acc (Obj.mapSeq fun a => a.push uv), toks := s8.toks } := by
              refine Inv.turned (it := acc) (I8.pins_of (pins' := []) fun p hp => absurd hp (by simp)) keepb k4 hDC (.inr (Nat.le_of_eq hAd)) (fun y c e z => ?_) fun p hp => absurd (show p ∈ ([] : List (Addr × Obj)) from hp) (by simp)
              obtain ⟨v', o, ho, hdd⟩ := I2.cell y c (caps_lookup S I2 e)
              exact ne_ltE' (Heap.lt_size ho) hAd z
            obtain ⟨n', eq'⟩ : ∃ n', (s8.heap.update acc (Obj.mapSeq fun a => a.push uv)).get? acc = some (lstObj (its ++ [uv]) n') := by
              have q2 := qup
              rw [eup] at q2
              exact ⟨_, q2⟩
            exact ⟨t.ds.length - (i + 1), by omega, i + 1, σ6, H8, θ8, Mv, ds ++ [dv], vs ++ [w], its ++ [uv], n', rfl, hlt, pin0 I9 eq' k4, own.back qs (hdY.go (g7.trans g8)), T.keep _ _ _ st5 (fun b hb o e => keepb b o (ne_ltE' (hfl b hb) hAd) (k2 b hb o e)), k1, g'.trans (gy.trans (g7.trans g8)), isDs_append (rd'.go (gy.trans (g7.trans g8))) ⟨w, [], rfl, rd8, rfl⟩, rv'.append (.cons rw8 .nil), hrest, by rw [List.length_append, List.length_singleton]; omega⟩
    · have e : i = t.ds.length := by omega
      subst e
      rw [List.drop_length, compGoE, if_pos hok] at hrest
      have eo : o = .ok ds M' := by rw [← hrest]; show Out.ok (ds ++ []) M' = _; rw [List.append_nil]
      refine thn (T.done (compCx X scope xs R fp s2 H2 C) rfl rfl rfl hc _ _ s' _ H' _ I' (fpY fr') st' (hstop (Nat.le_refl _))) fun r s4 ⟨hr, I4⟩ => ?_
      subst hr
      have pa := I4.pin (acc, lstObj its na) (List.mem_append_right _ (by simp))
      have e4 : s4.heap.get? acc = some (lstObj its na) := pa.1
      have n4 : H' acc = none := pa.2.1
      have lv : vs.length ≤ sizeLine := by rw [← isDs_length rd']; exact hlen ds M' eo
      obtain ⟨mC, hnC, _⟩ := I4.loc
      have hHC : H' C = none := I4.free
      have unb : Un (frs X.stack) fp H2 H' s2.heap s4.heap := I4.base
      have neA : ∀ {b : Addr} {o : Obj}, s2.heap.get? b = some o → b ≠ acc := fun {b o} e => ne_ltE' (Heap.lt_size e) hAd
      have neH : ∀ {b : Addr} {u : HO}, H' b = some u → b ≠ acc := fun {b u} e z => by rw [z, n4] at e; cases e
      have un4 : Un (frs X.stack) fp H2 (upd H' acc (.lst vs)) s2.heap s4.heap := by
        refine ⟨unb.keep, unb.slot, fun b o e n hx => ?_, unb.there, fun b xs e => ?_, fun b o u e => ?_, fun b ps e => ?_⟩
        · rw [upd_ne (neA e)]; exact unb.free b o e n hx
        · have z := unb.tups b xs e
          rw [upd_ne (neH z)]; exact z
        · have z := unb.frzs b o u e
          rw [upd_ne (neH z)]; exact z
        · obtain ⟨more, z⟩ := unb.tbls b ps e
          exact ⟨more, by rw [upd_ne (neH z)]; exact z⟩
      have hok4 : HOk X.prog X.w (upd H' acc (.lst vs)) s4.heap := fun b u e => by
        by_cases hb : b = acc
        · subst hb
          rw [upd_same] at e; cases e
          exact ⟨lv, its, na, rv', e4⟩
        · rw [upd_ne hb] at e
          exact (I4.hok b u e).stay (fun c v _ q => q) (fun c q => by rw [upd_ne (neH q)]; exact q) fun c xs q => by rw [upd_ne (neH q)]; exact q
      have IX : L2.Inv X pins σ (upd H' acc (.lst vs)) s4 := I2.call' (ch := fp) I4.os un4 hok4 I4.bare fun b hb => ⟨(f2 b hb).2.2.2.1, (f2 b hb).2.1, (f2 b hb).2.2.2.2.1, (f2 b hb).2.2.2.2.2⟩
      refine fin ds M' eo acc C s4 H' θ' vs mC IX hnC (I2.fpOk hCs ?_) g' n4 rd'
      rw [upd_ne (Ne.symm hDC)]; exact hHC
  exact codeAny_compStart_list (loop _ rfl) (T.self _ 0 _ _ _ (T.keep 0 _ _ st2 fun b hb o e => old b o e) (loop _ rfl))
end
end DL

set_option Elab.async false
set_option linter.all false
set_option maxRecDepth 100000
set_option maxHeartbeats 4000000
/-! The data layer: a comprehension whose element may raise, as an expression and as the value of a name. -/
namespace DL
open PySem PySem.Spec PyProof.Rows L2
def gCompE (gi : GI) (n : Nat) (sg : GG) (gc : GT) (ge : GE) (mk : List D → Mem → Out D) : GE := fun ρ M => (gi ρ M).bind fun t M1 => if t.ds.length ≤ sizeLine then (compGoE t n sg gc ge t.ds ρ M1).bind mk else .bad
section
variable {X : Cx} {scope : Scope} {xs : List Str} {tg : Expr} {sg : GG} {x : Str} {px : Pos} {R : List Str} {elt iter : Expr} {ifs : List Expr} {pos : Pos} {gi : GI} {gc : GT} {ge : GE}
/-- y = [.. for x in ..], where the store comes ahead of the block's end -/
theorem ds_setCompE {mk : List D → Mem → Out D} {j : Nat} {y : Str} {py spos : Pos} (hS : compChk scope X.env.kindOf xs R X.N = true) (hst : X.stack = X.env :: X.outer) (hfr : X.env.frame = some X.env.locals) (hc : X.calm = true) (hm : mk = mkLst ∨ mk = mkMut) (hi : PI X tg iter (tI X gi)) (own : OwnG xs.length sg) (hg : ∀ fp s H C, PG (compCx X scope xs R fp s H C) tg (tG (compCx X scope xs R fp s H C) sg)) (hts : TestsOk X scope xs R ifs gc)
    (he : ∀ fp s H C, PE (compCxE X scope xs R fp s H C) elt (tE (compCxE X scope xs R fp s H C) ge))
    (hN : X.N.Nodup) (hj : X.N[j]? = some y) (hy : X.env.scope.names.lookup y = some .local)
    (hsw : swapsWith (.ListComp elt [⟨tg, iter, ifs, 0⟩] scope pos) (some (.Name y py)) spos.line X.env = pure true)
    (hs : ∀ x, foldedSetIterable iter X.env x = pure x := by intro _; rfl) : PS X (.Assign [.Name y py] (.ListComp elt [⟨tg, iter, ifs, 0⟩] scope pos) spos) (tS X (sSet j (gCompE gi xs.length sg gc ge mk))) := by
  have S := CompScope.of hS
  intro pins s σ H Q I h
  obtain ⟨ρ, θ, M, hd, hw, h⟩ := h
  rw [exec_Assign_Name_used _ _ _ _ hsw]
  refine wpAny_bind (wpAny_standAt (wpAny_bind ?_))
  show wpAny _ X.A (do let _ ← comprehension (.ListComp elt [⟨tg, iter, ifs, 0⟩] scope pos) scope X.env _ (newList []) false (eval iter X.env) (some (assign (.Name y py) X.env))) _ _ s
  refine wpAny_bind (wpAny_mono (comp_whole (use := some (assign (.Name y py) X.env)) (Q := fun _ s' => SP X pins Q .next s') rfl hs (closure_caps (S.cells I)) S.kind S.lnames ?_) (fun _ s' hq => wpAny_pure (wpAny_pure hq)) fun _ _ e => e)
  refine thn (hi pins s σ H (fun J H2 => ∃ t M1 θ1, gi ρ M = .ok t M1 ∧ Go X.K θ H θ1 H2 M1 ∧ ItD X.K J θ1 H2 t) I ⟨ρ, θ, M, hd, hw, ?_⟩) fun v s1 h1 => thn h1 fun itv s2 h2 => ?_
  · cases q : gi ρ M with
    | ok t M1 => exact fun J θ1 H1 g1 hJ => ⟨t, M1, θ1, rfl, g1, hJ⟩
    | err c M1 => unfold sSet gCompE at h; rw [q] at h; exact h
    | bad => unfold sSet gCompE at h; rw [q] at h; exact h
  obtain ⟨it, fp, tn, J, H2, rfl, I2, T, st2, f2, t, M1, θ1, eg, g1, hJ⟩ := h2
  unfold sSet gCompE at h
  rw [eg] at h
  have h : FinS X θ H Q ((if t.ds.length ≤ sizeLine then (compGoE t xs.length sg gc ge t.ds ρ M1).bind mk else .bad).bind fun d M2 => .ok (.nx (ρ.set j (some d))) M2) := h
  by_cases hroom : t.ds.length ≤ sizeLine
  case neg => rw [if_neg hroom] at h; exact h.elim
  rw [if_pos hroom] at h
  cases q : compGoE t xs.length sg gc ge t.ds ρ M1 with
  | bad => rw [q] at h; exact h.elim
  | err c Mx =>
    rw [q] at h
    have h : ErrOk X θ H c Mx := h
    exact comp_blockE (use := some (assign (.Name y py) X.env)) (QQ := fun _ s' => SP X pins Q .next s') S hc I2 T st2 f2 g1.wr (hd.go g1) hJ hst hfr q (fun z => by cases z) hroom (fun _ _ z => by cases z) (fun c' M' z => by cases z; exact ErrOk.go g1 h) (fun C => hts fp s2 H2 C) own (fun C => hg fp s2 H2 C) (fun C => he fp s2 H2 C) fun _ _ z => by cases z
  | ok es Mend =>
    rw [q] at h
    have h : FinS X θ H Q ((mk es Mend).bind fun d M2 => .ok (.nx (ρ.set j (some d))) M2) := h
    -- the same as a wish about the value
    have hE : FinE X θ H (fun v H' => ∃ θ' M', Go X.K θ H θ' H' M' ∧ ∃ d, mk es Mend = .ok d M' ∧ isD X.K θ' H' d v) (mk es Mend) := by
      cases qm : mk es Mend with
      | ok d M2 => exact fun v θ' H' g' r => ⟨θ', M2, g', d, rfl, r⟩
      | err c M2 => rw [qm] at h; exact h
      | bad => rw [qm] at h; exact h
    refine comp_blockE (use := some (assign (.Name y py) X.env)) (QQ := fun _ s' => SP X pins Q .next s') S hc I2 T st2 f2 g1.wr (hd.go g1) hJ hst hfr q (fun z => by cases z) hroom (fun _ _ z => by cases z; exact mk_len hm hE) (fun _ _ z => by cases z) (fun C => hts fp s2 H2 C) own (fun C => hg fp s2 H2 C) (fun C => he fp s2 H2 C) ?_
    intro es' Mend' eo
    cases eo
    intro acc C s' H' θ' vs m IX hnC fC g' na rd
    obtain ⟨θe, Me, ge', d, ed, rde⟩ := (mk_ok hm X θ' H' _ es Mend vs (FinE.go (g1.trans g') hE) g'.wr rd).2 acc na
    show wpAny _ X.A (assign (.Name y py) X.env (.ref acc)) _ _ s'
    refine wpAny_assign_Name (store_ok2 IX hN hj (.inl hy) (v := .ref acc) rfl (fun s3 I3 ⟨a, sa, ha⟩ => ?_) (.inr hy))
    have hCa : C ≠ a := by
      rcases ha with e | e
      · rw [e]; exact fC.2.1
      · exact fun z => fC.2.2.2.2.1 y a e z.symm
    refine ⟨m, hnC.sameBut sa hCa, fun h' sb => ?_⟩
    have I4 : L2.Inv X pins (σ.set j (some (.ref acc))) (upd H' acc (.lst vs)) { s3 with heap := h', toks := s3.toks } := I3.turned (it := C) (fun b o hb e => (sb.2 b hb).trans e) fC.1 fC.2.1 fC.2.2.2.1 fC.2.2.2.2.1 fC.2.2.2.2.2
    rw [ed] at h
    exact ⟨_, _, I4, h _ θe _ ge' ((hd.go ge').set rde j)⟩
end
end DL

set_option Elab.async false
set_option linter.all false
set_option maxRecDepth 100000
/-! The data layer: the rules once more, the judgements wrapped, so that nothing is unfolded where a term is read. -/
namespace DL
open PySem PySem.Spec PyProof.Rows L2
structure QE (X : Cx) (e : Expr) (g : GE) : Prop where
  h : PE X e (tE X g)
structure QT (X : Cx) (e : Expr) (g : GT) : Prop where
  h : PT X e (tT X g)
structure QW (X : Cx) (e : Expr) (g : GT) : Prop where
  h : PW X e (tT X g)
structure QA (X : Cx) (es : List Expr) (g : GA) : Prop where
  h : PA X es (tA X g)
structure QS (X : Cx) (st : Stmt) (g : GS) : Prop where
  h : PS X st (tS X g)
structure QB (X : Cx) (st : List Stmt) (g : GS) : Prop where
  h : PSs X st (tS X g)
structure QI (X : Cx) (tg e : Expr) (g : GI) : Prop where
  h : PI X tg e (tI X g)
structure QG (X : Cx) (tg : Expr) (s : GG) : Prop where
  h : PG X tg (tG X s)
structure QGs (X : Cx) (tgs : List Expr) (is : List Nat) : Prop where
  h : PGs X tgs (tGs X is)
structure QP (X : Cx) (e : Option Expr) (g : GO) : Prop where
  h : PO X e (tO X g)
structure Q2 (X : Cx) (f : Value → Value → Sem Value) (F : F2) : Prop where
  h : OpR X f (rD X F)
structure QC (X : Cx) (f : Value) (F : FD) : Prop where
  h : CallR X f (rC X F)
structure QTs (X : Cx) (scope : Scope) (xs : List Str) (R : List Str) (ifs : List Expr) (gc : GT) : Prop where
  h : TestsOk X scope xs R ifs gc
structure QGG (X : Cx) (tgs : List Expr) (ss : List GG) : Prop where
  h : PGs X tgs (tGsG X ss)
structure QO (n : Nat) (sg : GG) : Prop where
  h : OwnG n sg
structure QOs (n : Nat) (ss : List GG) : Prop where
  h : OwnGs n ss
structure QF (X : Cx) (es : List Expr) (gs : List GE) : Prop where
  h : PEs X es gs
section
variable {X : Cx} {e a b c o i : Expr} {es rest : List Expr} {x : Str} {p p2 pos pos' : Pos} {g ga gb gc go gi ge : GE} {ta tb : GT} {gA : GA}
/-! operations -/
theorem q_add : Q2 X (binaryOp .Add) addD := ⟨od_add⟩
theorem q_addM : Q2 X (binaryOp .Add) addM := ⟨od_addM⟩
theorem q_sub : Q2 X (binaryOp .Sub) subD := ⟨od_sub⟩
theorem q_mul : Q2 X (binaryOp .Mult) mulD := ⟨od_mul⟩
theorem q_fdiv : Q2 X (binaryOp .FloorDiv) fdivD := ⟨od_fdiv⟩
theorem q_mod : Q2 X (binaryOp .Mod) modD := ⟨od_mod⟩
theorem q_pow : Q2 X (binaryOp .Pow) powD := ⟨od_pow⟩
theorem q_lt : Q2 X (compareOp .Lt) ltD := ⟨od_lt⟩
theorem q_le : Q2 X (compareOp .LtE) leD := ⟨od_le⟩
theorem q_gt : Q2 X (compareOp .Gt) gtD := ⟨od_gt⟩
theorem q_ge : Q2 X (compareOp .GtE) geD := ⟨od_ge⟩
theorem q_eq {k : Nat} (hr : Room k X.A) : Q2 X (compareOp .Eq) (eqOp false) := ⟨od_eq hr.units⟩
theorem q_ne {k : Nat} (hr : Room k X.A) : Q2 X (compareOp .NotEq) (eqOp true) := ⟨od_ne hr.units⟩
theorem q_is : Q2 X (compareOp .Is) (isOp false) := ⟨od_is⟩
theorem q_len : QC X (.builtin "len") lenF := ⟨cd_len⟩
theorem q_min (hc : X.calm = true := by rfl) : QC X (.builtin "min") minF := ⟨cd_min hc⟩
theorem q_all (hc : X.calm = true := by rfl) : QC X (.builtin "all") allF := ⟨cd_all hc⟩
theorem q_any (hc : X.calm = true := by rfl) : QC X (.builtin "any") anyF := ⟨cd_any hc⟩
theorem q_tuple : QC X (.type "tuple") tupleF := ⟨cd_tuple⟩
/-! expressions -/
theorem qv (i : Nat) {x : Str} {pos : Pos} (hN : X.N[i]? = some x := by rfl) (hv : Vis X.env.scope x := by first | exact Or.inl rfl | exact Or.inr (Or.inl rfl) | exact Or.inr (Or.inr rfl)) (hd : (x == ("__debug__" : Str)) = false := by decide)
    (hcd : (x == ("__classdict__" : Str)) = false := by decide) : QE X (.Name x pos) (gVar i) := ⟨vv i hN hv hd hcd⟩
theorem qe_int {i : Int} {j pos} : QE X (.Constant (.int i) j pos) (gC (.int i)) := ⟨de_int⟩
theorem qe_bl {b j pos} : QE X (.Constant (.bool b) j pos) (gC (.bl b)) := ⟨de_bl⟩
theorem qe_non {j pos} : QE X (.Constant .none j pos) (gC .non) := ⟨de_non⟩
theorem qe_str {x j pos} : QE X (.Constant (.str x) j pos) (gC (.str x)) := ⟨de_str⟩
theorem qe_neg (h : QE X a g) : QE X (.UnaryOp .USub a pos) (gNeg g) := ⟨de_neg h.h⟩
theorem qe_op {op : Operator} {f : F2} (ho : Q2 X (binaryOp op) f) (ha : QE X a ga) (hb : QE X b gb) : QE X (.BinOp a op b pos) (g2 f ga gb) := ⟨de_op ho.h ha.h hb.h⟩
def noIn : CmpOp → Bool
  | .In => false
  | .NotIn => false
  | _ => true
theorem noIn_mark {op : CmpOp} {b : Expr} (h : noIn op = true) : behindInMarks op b = false := by
  cases op <;> first | exact nomark _ | (cases h)
theorem qe_cmp {op : CmpOp} {f : F2} (ho : Q2 X (compareOp op) f) (ha : QE X a ga) (hb : QE X b gb) (hm : noIn op = true := by rfl) : QE X (.Compare a [op] [b] pos) (g2 f ga gb) := ⟨de_cmp ho.h ha.h hb.h (noIn_mark hm)⟩
theorem qt_cmp {op : CmpOp} {f : F2} (ho : Q2 X (compareOp op) f) (ha : QE X a ga) (hb : QE X b gb) (hm : noIn op = true := by rfl) : QT X (.Compare a [op] [b] pos) (gTst (g2 f ga gb)) := ⟨dt_cmp ho.h ha.h hb.h (noIn_mark hm)⟩
theorem qe_cmpI {op : CmpOp} {f : F2} (ho : Q2 X (compareOp op) f) (ha : QE X a ga) (hb : QE X b gb) (hm : behindInMarks op b = false := by with_unfolding_all rfl) : QE X (.Compare a [op] [b] pos) (g2 f ga gb) := ⟨de_cmp ho.h ha.h hb.h hm⟩
theorem qt_cmpI {op : CmpOp} {f : F2} (ho : Q2 X (compareOp op) f) (ha : QE X a ga) (hb : QE X b gb) (hm : behindInMarks op b = false := by with_unfolding_all rfl) : QT X (.Compare a [op] [b] pos) (gTst (g2 f ga gb)) := ⟨dt_cmp ho.h ha.h hb.h hm⟩
theorem qt_chain {op op' : CmpOp} {f f' : F2} (ho : Q2 X (compareOp op) f) (ho' : Q2 X (compareOp op') f') (ha : QE X a ga) (hb : QE X b gb) (hc : QE X c gc) (hm : lastMarks [op, op'] [b, c] = false := by with_unfolding_all rfl) : QT X (.Compare a [op, op'] [b, c] pos) (gTst (gCh f f' ga gb gc)) := ⟨dt_chain ho.h ho'.h ha.h hb.h hc.h hm⟩
theorem qw_and1 (ha : QT X a ta) : QW X (.BoolOp .And [a] pos) ta := ⟨dw_and1 ha.h⟩
theorem qw_or1 (ha : QT X a ta) : QW X (.BoolOp .Or [a] pos) ta := ⟨dw_or1 ha.h⟩
theorem qw_and (ha : QT X a ta) (hb : QW X (.BoolOp .And (b :: rest) pos) tb) : QW X (.BoolOp .And (a :: b :: rest) pos) (gAndT ta tb) := ⟨dw_and ha.h hb.h⟩
theorem qw_or (ha : QT X a ta) (hb : QW X (.BoolOp .Or (b :: rest) pos) tb) : QW X (.BoolOp .Or (a :: b :: rest) pos) (gOrT ta tb) := ⟨dw_or ha.h hb.h⟩
theorem qt_w (h : QW X a ta) : QT X a ta := ⟨PW.pt h.h⟩
theorem qt_not (h : QT X a ta) : QT X (.UnaryOp .Not a pos) (gNotT ta) := ⟨dt_not h.h⟩
theorem qt_tru (h : QE X a g) (he : ∀ whole, isTrue a X.env whole = (do let v ← whole; standAt a.pos; holding [v] (truthy v)) := by intro _; rfl) : QT X a (gTru g) := ⟨dt_tru h.h he⟩
theorem qa_nil : QA X [] DL.gNil := ⟨da_nil⟩
theorem qa_c {gr : GA} (ha : QE X e g) (hr : QA X es gr) (h : noStar e = true := by rfl) : QA X (e :: es) (DL.gCons g gr) := ⟨da_c ha.h hr.h h⟩
theorem qe_tup {x1} (h : QA X es gA) : QE X (.Tuple es x1 pos) (DL.gTup gA) := ⟨de_tup h.h⟩
theorem qe_lst (h : QA X es gA) : QE X (.List es pos) (gLst gA) := ⟨de_lst h.h⟩
theorem qe_mut (h : QA X es gA) : QE X (.List es pos) (gMut gA) := ⟨de_mut h.h⟩
section
variable {apos cpos : Pos} {k n : Nat} {f : Addr} {fd : FuncData} {ps : List Str} {F : FD} {T : String} {id : String}
theorem qe_append (ho : QE X o go) (he : QE X e ge) (h1 : noStar e = true := by rfl) (hbase : attributeBase o "append" X.env (eval o X.env) = eval o X.env := by rfl) (hline : (apos.endLine == cpos.line) = true := by rfl) : QE X (.Call (.Attribute o "append" apos) [e] [] cpos) (gApp go ge) := ⟨de_append ho.h he.h hbase (fewOne h1) hline (sE h1) rfl⟩
theorem qe_count (ho : QE X o go) (he : QE X e ge) (h1 : noStar e = true := by rfl) (hbase : attributeBase o "count" X.env (eval o X.env) = eval o X.env := by rfl) (hline : (apos.endLine == cpos.line) = true := by rfl) : QE X (.Call (.Attribute o "count" apos) [e] [] cpos) (gMeth countF go ge) := ⟨de_count ho.h he.h h1 hbase hline⟩
theorem qe_index (ho : QE X o go) (he : QE X e ge) (h1 : noStar e = true := by rfl) (hbase : attributeBase o "index" X.env (eval o X.env) = eval o X.env := by rfl) (hline : (apos.endLine == cpos.line) = true := by rfl) : QE X (.Call (.Attribute o "index" apos) [e] [] cpos) (gMeth indexF go ge) := ⟨de_index ho.h he.h h1 hbase hline⟩
theorem qe_cl (Fn : FnOk X.prog X.w X.K X.mg X.base (CXd X.prog X.w) k f fd ps (spD X.K n F)) (hr : Room k X.A) (hg : Gl X x) (hm : X.mg x = some (.ref f)) (hk : PySem.W.keepIn X.K (.ref f) = true) (hb : Binds X.K fd ps []) (ha : QA X (e :: es) gA)
    (hdb : (x == ("__debug__" : Str)) = false := by decide) (h1 : noStar e = true := by rfl) (h2 : noStars es = true := by rfl) : QE X (.Call (.Name x p) (e :: es) [] pos) (gCall n F gA) := ⟨de_cl Fn hr hg hm hk hb ha.h hdb h1 h2⟩
theorem qe_cB (hc : QC X (.builtin id) F) (hg : Gl X x) (hm : X.mg x = none) (hv : bootBuiltins x = some (.builtin id)) (ha : QA X (e :: es) gA) (hn : x ≠ "__name__" := by decide) (hdb : (x == ("__debug__" : Str)) = false := by decide)
    (h1 : noStar e = true := by rfl) (h2 : noStars es = true := by rfl) : QE X (.Call (.Name x p) (e :: es) [] pos) (gBlt F gA) := ⟨de_cB hc.h hg hm hv ha.h hn hdb h1 h2⟩
theorem qe_cT (hc : QC X (.type T) F) (hg : Gl X x) (hm : X.mg x = none) (hv : bootBuiltins x = some (.type T)) (ha : QA X (e :: es) gA) (hn : x ≠ "__name__" := by decide) (hdb : (x == ("__debug__" : Str)) = false := by decide)
    (h1 : noStar e = true := by rfl) (h2 : noStars es = true := by rfl) : QE X (.Call (.Name x p) (e :: es) [] pos) (gBlt F gA) := ⟨de_cT hc.h hg hm hv ha.h hn hdb h1 h2⟩
theorem qe_is (hT : PlainTy T) (hv : bootBuiltins x = some (.type T)) (hg : Gl X x) (hm : X.mg x = none) (hgi : Gl X "isinstance") (hmi : X.mg "isinstance" = none) (he : QE X e g)
    (h1 : noStar e = true := by rfl) (hn : x ≠ "__name__" := by decide) (hd : (x == ("__debug__" : Str)) = false := by decide) : QE X (.Call (.Name "isinstance" p) [e, .Name x p2] [] pos) (gIsi T g) := ⟨de_is hT hv hg hm hgi hmi he.h h1 hn hd⟩
theorem qe_isx {G : Addr} {ok : Str → Option Bool} (hm : X.mg x = some (.ref G)) (hk : ∀ c b C, ok c = some b → ClsAt X.K c C → ExcK X.K C ∧ PySem.W.kitOne X.K (.ref C) (.ref G) = some b) (hg : Gl X x) (hgi : Gl X "isinstance") (hmi : X.mg "isinstance" = none) (he : QE X e g)
    (h1 : noStar e = true := by rfl) (hd : (x == ("__debug__" : Str)) = false := by decide) : QE X (.Call (.Name "isinstance" p) [e, .Name x p2] [] pos) (gIsx ok g) := ⟨de_isx hm hk hg hgi hmi he.h h1 hd⟩
theorem qe_isxB {ok : Str → Option Bool} (hv : bootBuiltins x = some (.type T)) (hm : X.mg x = none) (hk : ∀ c b C, ok c = some b → ClsAt X.K c C → ExcK X.K C ∧ PySem.W.kitOne X.K (.ref C) (.type T) = some b) (hg : Gl X x) (hgi : Gl X "isinstance") (hmi : X.mg "isinstance" = none) (he : QE X e g)
    (h1 : noStar e = true := by rfl) (hn : x ≠ "__name__" := by decide) (hd : (x == ("__debug__" : Str)) = false := by decide) : QE X (.Call (.Name "isinstance" p) [e, .Name x p2] [] pos) (gIsx ok g) := ⟨de_isxB hv hm hk hg hgi hmi he.h h1 hn hd⟩
end
/-! what is walked -/
theorem qi_r1 {tg : Expr} (hg : Gl X "range") (hm : X.mg "range" = none) (ha : QA X [a] gA) (h1 : noStar a = true := by rfl) : QI X tg (.Call (.Name "range" p) [a] [] pos) (gRng1 gA) := ⟨di_r1 hg hm ha.h h1⟩
section
variable {scope : Scope} {R : List Str} {iter elt : Expr} {ifs : List Expr} {gI : GI} {gC : GT} {px : Pos} {mk : List D → Mem → Out D}
theorem q_notests {xs : List Str} : QTs X scope xs R [] gAll := ⟨no_tests⟩
theorem q_onetest {xs : List Str} (h : ∀ fp s2 H2 C, QT (compCx X scope xs R fp s2 H2 C) c ta) : QTs X scope xs R [c] ta := ⟨one_test fun fp s2 H2 C => (h fp s2 H2 C).h⟩
theorem qe_comp (hS : compChk scope X.env.kindOf [x] R X.N = true) (hm : mk = mkLst ∨ mk = mkMut) (hi : QI X (.Name x px) iter gI) (hts : QTs X scope [x] R ifs gC) (he : ∀ fp s H C, QE (compCx X scope [x] R fp s H C) elt ge)
    (hc : X.calm = true := by rfl) (hs : ∀ x, foldedSetIterable iter X.env x = pure x := by intro _; rfl) : QE X (.ListComp elt [⟨.Name x px, iter, ifs, 0⟩] scope pos) (gComp gI gC ge mk) := ⟨de_comp hS hc hm hi.h hts.h (fun fp s H C => (he fp s H C).h) hs⟩
theorem qs_setComp {j : Nat} {y : Str} {py spos : Pos} (hS : compChk scope X.env.kindOf [x] R X.N = true) (hm : mk = mkLst ∨ mk = mkMut) (hN : X.N.Nodup) (hi : QI X (.Name x px) iter gI) (hts : QTs X scope [x] R ifs gC) (he : ∀ fp s H C, QE (compCx X scope [x] R fp s H C) elt ge)
    (hc : X.calm = true := by rfl) (hj : X.N[j]? = some y := by rfl) (hy : X.env.scope.names.lookup y = some .local := by rfl) (hsw : swapsWith (.ListComp elt [⟨.Name x px, iter, ifs, 0⟩] scope pos) (some (.Name y py)) spos.line X.env = pure true := by rfl)
    (hs : ∀ x, foldedSetIterable iter X.env x = pure x := by intro _; rfl) : QS X (.Assign [.Name y py] (.ListComp elt [⟨.Name x px, iter, ifs, 0⟩] scope pos) spos) (sSet j (gComp gI gC ge mk)) := ⟨ds_setComp hS hc hm hi.h hts.h (fun fp s H C => (he fp s H C).h) hN hj hy hsw hs⟩
/-! comprehensions with a target of several names -/
theorem qo_one (n i : Nat) (h : i < n := by decide) : QO n (oneN i) := ⟨own_one h⟩
theorem own_local {xs : List Str} {fp : List Addr} {s : Shared} {H : Hp} {C : Addr} {y : Str} (hS : compChk scope X.env.kindOf xs R X.N = true) (h : y ∈ xs) : (compCx X scope xs R fp s H C).env.scope.names.lookup y = some .local := lookup_relabel_local ((CompScope.of hS).own y h)
theorem qnT {xs : List Str} {fp : List Addr} {s : Shared} {H : Hp} {C : Addr} {y : Str} (i : Nat) (hS : compChk scope X.env.kindOf xs R X.N = true) (hi : (xs ++ R)[i]? = some y := by rfl) (hx : y ∈ xs := by simp) : QG (compCx X scope xs R fp s H C) (.Name y pos) (oneN i) :=
  ⟨dg_name (X := compCx X scope xs R fp s H C) (CompScope.of hS).nd hi (.inl (own_local hS hx)) (.inr (own_local hS hx))⟩
theorem qs_setCompE {tg : Expr} {sg : GG} (xs : List Str) {j : Nat} {y : Str} {py spos : Pos} (hS : compChk scope X.env.kindOf xs R X.N = true) (hm : mk = mkLst ∨ mk = mkMut) (own : QO xs.length sg) (hN : X.N.Nodup) (hi : QI X tg iter gI) (hg : ∀ fp s H C, QG (compCx X scope xs R fp s H C) tg sg) (hts : QTs X scope xs R ifs gC) (he : ∀ fp s H C, QE (compCxE X scope xs R fp s H C) elt ge)
    (hst : X.stack = X.env :: X.outer := by rfl) (hfr : X.env.frame = some X.env.locals := by rfl) (hc : X.calm = true := by rfl) (hj : X.N[j]? = some y := by rfl) (hy : X.env.scope.names.lookup y = some .local := by rfl) (hsw : swapsWith (.ListComp elt [⟨tg, iter, ifs, 0⟩] scope pos) (some (.Name y py)) spos.line X.env = pure true := by rfl)
    (hs : ∀ x, foldedSetIterable iter X.env x = pure x := by intro _; rfl) : QS X (.Assign [.Name y py] (.ListComp elt [⟨tg, iter, ifs, 0⟩] scope pos) spos) (sSet j (gCompE gI xs.length sg gC ge mk)) := ⟨ds_setCompE hS hst hfr hc hm hi.h own.h (fun fp s H C => (hg fp s H C).h) hts.h (fun fp s H C => (he fp s H C).h) hN hj hy hsw hs⟩
end
/-! statements -/
def notComp : Expr → Bool
  | .ListComp .. => false
  | .SetComp .. => false
  | .DictComp .. => false
  | _ => true
theorem swaps_no {t : Option Expr} {l : Nat} {env : Env} (h : notComp e = true) : swapsWith e t l env = pure false := by
  cases e <;> first | rfl | (simp [notComp] at h)
section
variable {st : Stmt} {stmts : List Stmt} {t u : GS}
theorem qs_nil : QB X [] sNext := ⟨ds_nil⟩
theorem qs_cons (h1 : QS X st t) (h2 : QB X stmts u) : QB X (st :: stmts) (sSeq t u) := ⟨ds_cons h1.h h2.h⟩
theorem qs_one (h1 : QS X st t) : QB X [st] t := ⟨ds_one h1.h⟩
theorem qs_set (i : Nat) {x : Str} (hN : X.N.Nodup) (he : QE X e g) (hi : X.N[i]? = some x := by rfl) (hx : Loc X.env.scope x := by first | exact Or.inl rfl | exact Or.inr rfl) (hs : notComp e = true := by rfl) (hf : X.fn x = true ∨ X.env.scope.names.lookup x = some .local := by first | exact .inl rfl | exact .inr rfl) :
    QS X (.Assign [.Name x pos'] e pos) (sSet i g) := ⟨ss i hN he.h hi hx (swaps_no hs) hf⟩
theorem qs_setC (i : Nat) {x : Str} (hN : X.N.Nodup) (he : QE X e g) (hi : X.N[i]? = some x := by rfl) (hx : Loc X.env.scope x := by first | exact Or.inl rfl | exact Or.inr rfl) (hs : swapsWith e (some (.Name x pos')) pos.line X.env = pure false := by rfl) (hf : X.fn x = true ∨ X.env.scope.names.lookup x = some .local := by first | exact .inl rfl | exact .inr rfl) :
    QS X (.Assign [.Name x pos'] e pos) (sSet i g) := ⟨ss i hN he.h hi hx hs hf⟩
theorem qs_ret (he : QE X e g) : QS X (.Return (some e) pos) (sRet g) := ⟨ds_ret he.h⟩
theorem qs_drop (he : QE X e g) (hs : notComp e = true := by rfl) : QS X (.Expr e pos) (sDrop g) := ⟨ds_drop he.h (swaps_no hs)⟩
theorem qs_if {a b : List Stmt} {tc : GT} (hc : QT X c tc) (ha : QB X a t) (hb : QB X b u) : QS X (.If c a b pos) (sIf tc t u) := ⟨ds_if hc.h ha.h hb.h⟩
theorem qn (i : Nat) {x : Str} (hN : X.N.Nodup) (hi : X.N[i]? = some x := by rfl) (hx : Loc X.env.scope x := by first | exact Or.inl rfl | exact Or.inr rfl) (hf : X.fn x = true ∨ X.env.scope.names.lookup x = some .local := by first | exact .inl rfl | exact .inr rfl) : QG X (.Name x pos) (oneN i) := ⟨gg i hN hi hx hf⟩
theorem qs_sub {ip : Pos} (he : QE X e g) (ho : QE X o go) (hi : QE X i gi)
    (ha : ∀ v, assign (.Subscript o i ip) X.env v = (do
      let ov ← holding [v] (eval o X.env)
      let iv ← holding [v, ov] (eval i X.env)
      standAt ip
      holding [v, ov, iv] (setItem ov iv v)
      release [v, ov, iv] []) := by intro _; rfl)
    (hs : notComp e = true := by rfl) (hw : swappedStores [.Subscript o i ip] e X.env = pure none := by rfl) : QS X (.Assign [.Subscript o i ip] e pos) (sSub go gi g) := ⟨ds_sub he.h ho.h hi.h ha (by unfold swapsWithSole; exact swaps_no hs) hw rfl⟩
theorem qs_for {tg iter : Expr} {body : List Stmt} {gI : GI} {sg : GG} {gB : GS} (hp : PassesOwn (model X.prog X.w) X.A X.env X.xe) (hi : QI X tg iter gI) (hg : QG X tg sg) (hb : QB X body gB) (hc : X.calm = true := by rfl) (hs : ∀ x, foldedSetIterable iter X.env x = pure x := by intro _; rfl) :
    QS X (.For tg iter body [] pos) (sFor gI sg gB) := ⟨ds_for hp hc hi.h hg.h hb.h hs⟩
theorem qs_raise {x : Str} {C : Addr} {np cpos : Pos} (k : Ec X.K X.mg x C) (hg : Gl X x) (he : QE X e g) (hc : X.calm = true := by rfl) (h1 : noStar e = true := by rfl) (hd : (x == ("__debug__" : Str)) = false := by decide) : QS X (.Raise (some (.Call (.Name x np) [e] [] cpos)) none pos) (sRaise x g) := ⟨ds_raise k hc hg he.h h1 hd⟩
theorem qs_try {G n : Str} {Ga : Addr} {i : Nat} {ok : Str → Bool} {gB gh : GS} {body suite : List Stmt} {b0 : Stmt} {np hpos : Pos} (kG : Ec X.K X.mg G Ga) (hok : ∀ c C, ok c = true → ClsAt X.K c C → PySem.W.mroIn X.K C (.ref Ga) = some true) (hN : X.N.Nodup)
    (hb : ∀ pn E, QB (tryB X pn E) body gB) (hh : ∀ pn a, QB (hand X pn a) (b0 :: suite) gh)
    (hg : Gl X G := by rfl) (hst : X.stack = X.env :: X.outer := by rfl) (hf : X.env.frame = some X.env.locals := by rfl) (hi : X.N[i]? = some n := by rfl) (hl : X.env.kindOf n = some .local := by rfl) (hfn : X.fn n = true ∨ X.env.scope.names.lookup n = some .local := by first | exact .inl rfl | exact .inr rfl)
    (hd : (G == ("__debug__" : Str)) = false := by decide) : QS X (.Try body [.ExceptHandler (some (.Name G np)) (some n) (b0 :: suite) hpos] [] [] pos) (sTry i ok gB gh) := ⟨ds_try kG hok hg hst hf hN hi hl hfn (fun pn E => (hb pn E).h) (fun pn a => (hh pn a).h) hd⟩
end
end
/-! instances -/
section
variable {X : Cx} {c f m : Str} {C : Addr} {o e value : Expr} {es : List Expr} {g go gv : GE} {gA : GA} {pos pos' apos p : Pos} {k n : Nat} {fa : Addr} {fd : FuncData} {ps : List Str} {F : FD} {pl : Sem Bool}
end
structure QD (X : Cx) (pos : Pos) (keys : List (Option Expr)) (values : List Expr) (tab : List (Str × Int)) : Prop where
  h : PPs X pos keys values (tabT tab)
section
variable {X : Cx} {e o lo hi i : Expr} {g go gl gh : GE} {pos ip sp dpos p1 p2 : Pos} {keys : List (Option Expr)} {values : List Expr} {tab : List (Str × Int)}
end
/-- a method of the text -/
structure Mf (K : PySem.W.Frag) (C : Addr) (x qual : Str) (st : Stmt) (f : Addr) (fd : FuncData) (ps : List Str) : Prop where
  F : Fun K x qual st f fd
  me : Meth K C x f
  b : Binds K fd ps []
/-- THE RULE for a def, wrapped -/
theorem fn_q {P : Program} {w : World} {K : PySem.W.Frag} {mg : Str → Option Value} {base : Heap} {x qual : Str} {st : Stmt} {f : Addr} {fd : FuncData} {N ps : List Str} {k n : Nat} {g : GS} (F : Fun K x qual st f fd) (S : FnScope N ps (defScope st)) (hn : ps.length = n)
    (hbody : ∀ (cdv : Value) (A : Around) (outer : List Env) (s : Shared) (H : Hp) (E : XK), Room k (A.deeper (envOfC qual (defScope st) s.heap.objs.size f cdv)) → QB (cxOf (CXd P w) P w K mg base N qual (defScope st) f cdv A outer s H E) (defBody st) g) :
    FnOk P w K mg base (CXd P w) (k + 1) f fd ps (spD K n (runD (N.length - n) g)) := fn_d F S hn fun cdv A outer s H E hr => (hbody cdv A outer s H E hr).h
theorem walk_d {l : PySem.W.OpenLaw} {n k : Nat} {q : Program} {loose : List Str} {XP : (Str → Option Value) → Heap → Prop} {YP : World → Heap → Prop} {d : DefRec} {K : Params → PySem.W.Frag} {x : Str} {F : FD}
    (hn : l.most = some n) (hn2 : n ≤ sizeLine) (hdf : d.params.defaults = []) (hr : Room k callerA) (hY : ∀ (w : World) (h : Heap), YP w h → (K w.params).In h)
    (hF : ∀ (w : World) (mg : Str → Option Value) (fa : Addr) (h : Heap), (K w.params).In h → h.Ns mainGlobals mg → mg d.name = some (.ref fa) →
      ∃ fd : FuncData, (∀ (s : Shared) (u : Value), BindsTo s fd ⟨[u], []⟩ [(x, u)]) ∧ ∀ base : Heap, (K w.params).In base → base.Ns mainGlobals mg → FnOk l.prog w (K w.params) mg base (CXd l.prog w) k fa fd [x] (spD (K w.params) 1 F))
    (h1 : ∀ w : World, PySem.W.nsIn (K w.params) mainGlobals "ink_shown" = some none) (h2 : ∀ w : World, PySem.W.nsIn (K w.params) mainGlobals "table_within" = some none)
    (h3 : ∀ w : World, PySem.W.nsIn (K w.params) mainGlobals "slots_given" = some none) (h4 : ∀ w : World, PySem.W.nsIn (K w.params) mainGlobals "cast_on_slots" = some none)
    (ht : ∀ ns : List Int, ns.length ≤ n → ∃ M', F [.ro (ns.map D.int)] [] = .ok (.bl true) M') :
    PySem.W.WalkO q loose XP YP l.row.toRowW d [] (fun f vs => PySem.call f vs) :=
  L2.walk_of (CX := fun w => CXd l.prog w) (sp := fun w => spD (K w.params) 1 F) hn hn2 hdf hr hY hF (fun w H a ns hl _ hS => law_sp (.no fun y hy => by
    simp only [lamNames, List.mem_cons, List.not_mem_nil, or_false] at hy
    rcases hy with rfl | rfl | rfl | rfl
    · exact h1 w
    · exact h2 w
    · exact h3 w
    · exact h4 w) hS (ht ns hl)) fun w H s e s' z => cx_no z
/-! texts -/
section
variable {X : Cx} {e a b o : Expr} {x z : Str} {p pos apos cpos : Pos} {g ga gb go ge : GE} {gA : GA}
theorem qe_ixA (ha : QE X a ga) (hb : QE X b gb) (hs : PlainIx b := by intro _ _; rfl) : QE X (.Subscript a b pos) (g2 ixA ga gb) := ⟨de_ixA ha.h hb.h hs⟩
theorem q_inA : Q2 X (compareOp .In) inA := ⟨od_inA⟩
theorem qi_seqA {tg : Expr} (h : QE X e g) : QI X tg e (gItsA g) := ⟨di_seqA h.h⟩
theorem q_listA (hc : X.calm = true := by rfl) : QC X (.type "list") listA := ⟨cd_listA hc⟩
theorem q_listMA (hc : X.calm = true := by rfl) : QC X (.type "list") listMA := ⟨cd_listMA hc⟩
theorem qe_find (ho : QE X o go) (he : QE X e ge) (h1 : noStar e = true := by rfl) (hbase : attributeBase o "find" X.env (eval o X.env) = eval o X.env := by rfl) (hline : (apos.endLine == cpos.line) = true := by rfl) : QE X (.Call (.Attribute o "find" apos) [e] [] cpos) (gMethS findF go ge) := ⟨de_find ho.h he.h h1 hbase hline⟩
theorem qe_indexS (ho : QE X o go) (he : QE X e ge) (h1 : noStar e = true := by rfl) (hbase : attributeBase o "index" X.env (eval o X.env) = eval o X.env := by rfl) (hline : (apos.endLine == cpos.line) = true := by rfl) : QE X (.Call (.Attribute o "index" apos) [e] [] cpos) (gMethS indexSF go ge) := ⟨de_indexS ho.h he.h h1 hbase hline⟩
theorem qe_split (ho : QE X o go) (he : QE X e ge) (h1 : noStar e = true := by rfl) (hbase : attributeBase o "split" X.env (eval o X.env) = eval o X.env := by rfl) (hline : (apos.endLine == cpos.line) = true := by rfl) : QE X (.Call (.Attribute o "split" apos) [e] [] cpos) (gMethS splitF go ge) := ⟨de_split ho.h he.h h1 hbase hline⟩
theorem qe_splitM (ho : QE X o go) (he : QE X e ge) (h1 : noStar e = true := by rfl) (hbase : attributeBase o "split" X.env (eval o X.env) = eval o X.env := by rfl) (hline : (apos.endLine == cpos.line) = true := by rfl) : QE X (.Call (.Attribute o "split" apos) [e] [] cpos) (gMethS splitM go ge) := ⟨de_splitM ho.h he.h h1 hbase hline⟩
theorem qe_join (ho : QE X o go) (he : QE X e ge) (h1 : noStar e = true := by rfl) (hbase : attributeBase o "join" X.env (eval o X.env) = eval o X.env := by rfl) (hline : (apos.endLine == cpos.line) = true := by rfl) : QE X (.Call (.Attribute o "join" apos) [e] [] cpos) (gMethS joinF go ge) := ⟨de_join ho.h he.h h1 hbase hline⟩
theorem qe_popAt (ho : QE X o go) (ha : QA X [e] gA) (h1 : noStar e = true := by rfl) (hbase : attributeBase o "pop" X.env (eval o X.env) = eval o X.env := by rfl) (hline : (apos.endLine == cpos.line) = true := by rfl) : QE X (.Call (.Attribute o "pop" apos) [e] [] cpos) (gMM popF go gA) := ⟨de_popAt ho.h ha.h h1 hbase hline⟩
theorem qe_insert (ho : QE X o go) (ha : QA X [e, a] gA) (h1 : noStar e = true := by rfl) (h2 : noStar a = true := by rfl) (hbase : attributeBase o "insert" X.env (eval o X.env) = eval o X.env := by rfl) (hline : (apos.endLine == cpos.line) = true := by rfl) : QE X (.Call (.Attribute o "insert" apos) [e, a] [] cpos) (gMM insF go gA) := ⟨de_insert ho.h ha.h h1 h2 hbase hline⟩
theorem qe_glb (hm : ∃ tk, X.mg x = some (.str z tk)) (hg : Gl X x := by rfl) (hd : (x == ("__debug__" : Str)) = false := by decide) : QE X (.Name x pos) (gC (.str z)) := by
  obtain ⟨tk, hm⟩ := hm
  exact ⟨de_glb hg hm hd⟩
end
end DL

set_option Elab.async false
set_option linter.all false
/-! Words for the mathematics: data without lists that may change. -/
namespace DL
open PySem L2
def pureD : Nat → D → Bool
  | 0, _ => false
  | f + 1, d => match d with
    | .mr _ => false
    | .tup xs => xs.all (pureD f)
    | .lst xs => xs.all (pureD f)
    | .ro xs => xs.all (pureD f)
    | _ => true
theorem optMap_same {f : D → Option D} : ∀ {xs : List D}, (∀ x ∈ xs, f x = some x) → optMap f xs = some xs
  | [], _ => rfl
  | x :: xs, h => by
    unfold optMap
    rw [h x List.mem_cons_self, optMap_same fun y hy => h y (List.mem_cons_of_mem _ hy)]
theorem frz_pure {n : Nat} {M : Mem} : ∀ (f : Nat) (d : D), pureD f d = true → frz n M f d = some d
  | 0, d, h => by cases h
  | f + 1, d, h => by
    cases d with
    | mr k => cases h
    | tup xs =>
      have h : xs.all (pureD f) = true := h
      show (optMap (frz n M f) xs).map D.tup = _
      rw [optMap_same fun x hx => frz_pure f x (List.all_eq_true.mp h x hx)]; rfl
    | lst xs =>
      have h : xs.all (pureD f) = true := h
      show (optMap (frz n M f) xs).map D.lst = _
      rw [optMap_same fun x hx => frz_pure f x (List.all_eq_true.mp h x hx)]; rfl
    | ro xs =>
      have h : xs.all (pureD f) = true := h
      show (optMap (frz n M f) xs).map D.ro = _
      rw [optMap_same fun x hx => frz_pure f x (List.all_eq_true.mp h x hx)]; rfl
    | _ => rfl
def pureM : MO → Bool
  | .lst xs => xs.all (pureD 30)
  | .obj _ fs => fs.all fun p => pureD 30 p.2
  | .dK fs => fs.all fun p => pureD 30 p.2
  | .dT fs => fs.all fun p => pureD 30 p.2
theorem frzK_same {κ : Type} {f : D → Option D} : ∀ {fs : List (κ × D)}, (∀ p ∈ fs, f p.2 = some p.2) → frzK f fs = some fs
  | [], _ => rfl
  | (x, d) :: fs, h => by
    unfold frzK
    rw [h (x, d) List.mem_cons_self, frzK_same fun y hy => h y (List.mem_cons_of_mem _ hy)]
theorem frzF_same {f : D → Option D} : ∀ {fs : List (Str × D)}, (∀ p ∈ fs, f p.2 = some p.2) → frzF f fs = some fs
  | [], _ => rfl
  | (x, d) :: fs, h => by
    unfold frzF
    rw [h (x, d) List.mem_cons_self, frzF_same fun y hy => h y (List.mem_cons_of_mem _ hy)]
theorem frzM_pure {n : Nat} {M : Mem} : ∀ {l : List MO}, l.all pureM = true → frzM n M l = some l
  | [], _ => rfl
  | .lst xs :: r, h => by
    rw [List.all_cons, Bool.and_eq_true] at h
    unfold frzM
    rw [frzM_pure h.2]
    have h1 : xs.all (pureD 30) = true := h.1
    rw [optMap_same fun x hx => frz_pure 30 x (List.all_eq_true.mp h1 x hx)]
  | .obj c fs :: r, h => by
    rw [List.all_cons, Bool.and_eq_true] at h
    unfold frzM
    rw [frzM_pure h.2]
    have h1 : (fs.all fun p => pureD 30 p.2) = true := h.1
    rw [frzF_same fun p hp => frz_pure 30 p.2 (List.all_eq_true.mp h1 p hp)]
  | .dK fs :: r, h => by
    rw [List.all_cons, Bool.and_eq_true] at h
    unfold frzM
    rw [frzM_pure h.2]
    have h1 : (fs.all fun p => pureD 30 p.2) = true := h.1
    rw [frzK_same fun p hp => frz_pure 30 p.2 (List.all_eq_true.mp h1 p hp)]
  | .dT fs :: r, h => by
    rw [List.all_cons, Bool.and_eq_true] at h
    unfold frzM
    rw [frzM_pure h.2]
    have h1 : (fs.all fun p => pureD 30 p.2) = true := h.1
    rw [frzK_same fun p hp => frz_pure 30 p.2 (List.all_eq_true.mp h1 p hp)]
/-- a def that made lists of its own leaves the old ones -/
theorem retP_pure {d : D} {M E : Mem} (hd : pureD 30 d = true) (hM : M.all pureM = true) : retP M.length (.ok d (M ++ E)) = .ok d M := by
  unfold retP
  by_cases h : (M ++ E).length = M.length
  · have : E = [] := by
      rw [List.length_append] at h
      exact List.length_eq_zero_iff.mp (by omega)
    subst this
    simp
  · simp only [if_neg h]
    rw [List.take_left, frz_pure 30 d hd, frzM_pure hM]
@[simp] theorem pureD_int (f : Nat) (i : Int) : pureD (f + 1) (.int i) = true := rfl
@[simp] theorem pureD_bl (f : Nat) (i : Bool) : pureD (f + 1) (.bl i) = true := rfl
@[simp] theorem pureD_non (f : Nat) : pureD (f + 1) .non = true := rfl
@[simp] theorem pureD_str (f : Nat) (x : Str) : pureD (f + 1) (.str x) = true := rfl
theorem pureD_tup (f : Nat) (xs : List D) : pureD (f + 1) (.tup xs) = xs.all (pureD f) := rfl
theorem pureD_lst (f : Nat) (xs : List D) : pureD (f + 1) (.lst xs) = xs.all (pureD f) := rfl
theorem pure_ints (f : Nat) (l : List Int) : (l.map D.int).all (pureD (f + 1)) = true := by
  rw [List.all_map]; exact List.all_eq_true.mpr fun x _ => rfl
end DL

/-! The head: the text's top is run by the kernel in one go; no state is written out. -/
set_option Elab.async false
set_option maxRecDepth 100000
set_option autoImplicit false
namespace Hd
open PySem PySem.W PySem.Calls PyProof.Rows

def topRunT (tb : String → Option Builtin) (p : Program) (w : World) (n0 : Nat) (ann : Option Value) : Nat → SharedT → Thread → Option SharedT
  | 0, _, _ => none
  | n + 1, s, t => match through t with
    | true => some s
    | false => match stepOk n0 ann t with
      | false => none
      | true => match stepT (denote tb) p w s t with
        | some (s', t') => topRunT tb p w n0 ann n s' t'
        | none => none

theorem topRun_of {tb : String → Option Builtin} {p : Program} {w : World} {n0 : Nat} {ann : Option Value} : ∀ {n : Nat} {s s' : SharedT} {t : Thread}, topRunT tb p w n0 ann n s t = some s' → topRun tb p w n0 ann n s.abs t = some s'.abs
  | 0, _, _, _, h => by cases h
  | n + 1, s, s', t, h => by
    unfold topRunT at h
    unfold topRun
    cases he : through t with
    | true => rw [he] at h; cases h; rfl
    | false =>
      rw [he] at h
      cases hk : stepOk n0 ann t with
      | false => rw [hk] at h; cases h
      | true =>
        rw [hk] at h
        cases hs : stepT (denote tb) p w s t with
        | none => rw [hs] at h; cases h
        | some r => obtain ⟨s2, t2⟩ := r; rw [hs] at h; rw [stepT_spec hs]; exact topRun_of h

def grow : List Obj → BT → Nat → BT
  | [], t, _ => t
  | o :: r, t, n => grow r (t.ins n o) (n + 1)
def grown : List Obj → BT → Nat → Bool
  | [], _, _ => true
  | o :: r, t, n => ((t.ins n o).get n).isSome && grown r (t.ins n o) (n + 1)
theorem grow_abs (life : Life) : ∀ (l : List Obj) (t : BT) (n : Nat), grown l t n = true → absHeap (grow l t n) (n + l.length) life = ⟨(absHeap t n life).objs ++ l.toArray, life⟩
  | [], t, n, _ => by simp [grow, absHeap]
  | o :: r, t, n, h => by
    obtain ⟨h1, h2⟩ := Bool.and_eq_true_iff.mp h
    have e := grow_abs life r (t.ins n o) (n + 1) h2
    have e2 : absHeap (t.ins n o) (n + 1) life = (absHeap t n life).push o := absHeap_ins h1
    show absHeap (grow r (t.ins n o) (n + 1)) (n + (r.length + 1)) life = _
    rw [show n + (r.length + 1) = n + 1 + r.length by omega, e, e2]
    simp [Heap.push]

theorem left_whole {p q : Program} {loose : List Str} {Xt : Shared → Bool} {A : Type} {Yf : Shared → A} {Ya : World → A} {N : Nat} {g0 : Bool} {H : Params → Heap} {gs : Array GenState} {d : Drawn} {k : Nat} {m : Nat} {ann : Option Value} {T : Params → BT} {lf : Life}
    (open_ : ∀ w : World, (fencedOpening treeTable p w N).map (fun s => (s.heap, s.gens, s.drawn, s.toks)) = some (H w.params, gs, d, k))
    (size : ∀ w : World, ((H w.params).isNs mainGlobals && gs.size == 0, (H w.params).objs.size, (H w.params).nsMap mainGlobals "__annotations__") = (true, m, ann))
    (tree : ∀ P, H P = absHeap (T P) m lf)
    (run : ∀ (w : World) (os : OsState), (topRunT treeTable p w m ann N ⟨T w.params, m, lf, gs, d, k, os⟩ (topStub p)).map (fun s =>
        ((staticsOk (importedModules p.main.body) (H w.params) s.abs.heap && namesBound p s.abs.heap && gensDone s.abs && laidKept (H w.params) s.abs.heap),
        openSeen q loose (importedModules p.main.body) Xt g0 s.abs, Yf s.abs)) = some (true, openGood q loose, Ya w)) : LeftO p q loose Xt Yf Ya N g0 := fun w => by
  obtain ⟨⟨h, gs', d', k', os⟩, e, e'⟩ := Option.map_eq_some_iff.mp (open_ w)
  obtain ⟨rfl, rfl, rfl, rfl⟩ : h = H w.params ∧ gs' = gs ∧ d' = d ∧ k' = k := by simpa using e'
  obtain ⟨z1, z2, z3⟩ : _ ∧ _ ∧ _ := by simpa only [Prod.mk.injEq] using size w
  obtain ⟨s, r1, r2⟩ := Option.map_eq_some_iff.mp (run w os)
  obtain ⟨l1, l2, l3⟩ : _ ∧ _ ∧ _ := by simpa only [Prod.mk.injEq] using r2
  have r := topRun_of r1
  have ea : SharedT.abs ⟨T w.params, m, lf, gs', d', k', os⟩ = ⟨H w.params, gs', d', k', os⟩ := by rw [tree]; rfl
  rw [ea] at r
  have t : topFrom treeTable p w N ⟨H w.params, gs', d', k', os⟩ = some s.abs := by
    unfold topFrom
    dsimp only
    rw [z1, z2, z3, r]
    show (match staticsOk (importedModules p.main.body) (H w.params) s.abs.heap && namesBound p s.abs.heap && gensDone s.abs && laidKept (H w.params) s.abs.heap with | true => _ | false => _) = _
    rw [l1]
  unfold openEnds
  rw [e]
  show (topFrom treeTable p w N _).map _ = _
  rw [t]
  exact congrArg some (Prod.ext l2 l3)

noncomputable def bootT (P : Params) : BT := grow (boot_heap P).objs.toList .nil 0
lay_quick Hd.topRunT PySem.W.topStub
theorem boot_tree (P : Params) : boot_heap P = absHeap (bootT P) 11 {} := by
  have h := grow_abs {} (boot_heap P).objs.toList .nil 0 (by kernel_rfl)
  exact h.symm
end Hd

set_option Elab.async false
set_option linter.all false
set_option maxRecDepth 100000
set_option maxHeartbeats 4000000
namespace K21
open PySem PySem.Spec PyProof.Rows L2 DL
def top (i : Nat) : Stmt := PySem.Challenge.pw_glowrow_k21_pictures_as_texts.main.body.getD i (.Pass ⟨0, 0, 0, 0⟩)
abbrev s__law_draw : Stmt := top 19
abbrev s__law_size : Stmt := top 20
abbrev s__law_turned : Stmt := top 24
abbrev s__law_bent : Stmt := top 25
abbrev s__law_word : Stmt := top 21
abbrev s_read_signs : Stmt := top 15
abbrev s_read_picture : Stmt := top 17
abbrev s__law_read : Stmt := top 26
abbrev s__law_inks_read : Stmt := top 23
abbrev s__law_due : Stmt := top 27
abbrev s__law_signs : Stmt := top 22
abbrev s_signs_of : Stmt := top 14
abbrev s_picture_text : Stmt := top 16
abbrev s_law : Stmt := top 28
structure Ad where
  f__law_draw : Addr
  d__law_draw : FuncData
  f__law_size : Addr
  d__law_size : FuncData
  f__law_turned : Addr
  d__law_turned : FuncData
  f__law_bent : Addr
  d__law_bent : FuncData
  f__law_word : Addr
  d__law_word : FuncData
  f_read_signs : Addr
  d_read_signs : FuncData
  f_read_picture : Addr
  d_read_picture : FuncData
  f__law_read : Addr
  d__law_read : FuncData
  f__law_inks_read : Addr
  d__law_inks_read : FuncData
  f__law_due : Addr
  d__law_due : FuncData
  f__law_signs : Addr
  d__law_signs : FuncData
  f_signs_of : Addr
  d_signs_of : FuncData
  f_picture_text : Addr
  d_picture_text : FuncData
  f_law : Addr
  d_law : FuncData
  c_Clash : Addr
  c_GlowError : Addr
  c_NoDeed : Addr
  c_NoFilm : Addr
  c_NoFrame : Addr
  c_NoRow : Addr
  c_NoScore : Addr
  c_NoStand : Addr
  c_NoText : Addr
  c_NoTick : Addr
  c_Over : Addr
structure Tx (K : PySem.W.Frag) (mg : Str → Option Value) (a : Ad) : Prop where
  n__law_draw : Fn K mg "_law_draw" s__law_draw a.f__law_draw a.d__law_draw ["tape", "many"]
  n__law_size : Fn K mg "_law_size" s__law_size a.f__law_size a.d__law_size ["tape", "most"]
  n__law_turned : Fn K mg "_law_turned" s__law_turned a.f__law_turned a.d__law_turned ["row", "way", "at", "thing"]
  n__law_bent : Fn K mg "_law_bent" s__law_bent a.f__law_bent a.d__law_bent ["tape", "text"]
  n__law_word : Fn K mg "_law_word" s__law_word a.f__law_word a.d__law_word ["error"]
  n_read_signs : Fn K mg "read_signs" s_read_signs a.f_read_signs a.d_read_signs ["text"]
  n_read_picture : Fn K mg "read_picture" s_read_picture a.f_read_picture a.d_read_picture ["text"]
  n__law_read : Fn K mg "_law_read" s__law_read a.f__law_read a.d__law_read ["text"]
  n__law_inks_read : Fn K mg "_law_inks_read" s__law_inks_read a.f__law_inks_read a.d__law_inks_read ["text"]
  n__law_due : Fn K mg "_law_due" s__law_due a.f__law_due a.d__law_due ["text"]
  n__law_signs : Fn K mg "_law_signs" s__law_signs a.f__law_signs a.d__law_signs ["numbers"]
  n_signs_of : Fn K mg "signs_of" s_signs_of a.f_signs_of a.d_signs_of ["numbers"]
  n_picture_text : Fn K mg "picture_text" s_picture_text a.f_picture_text a.d_picture_text ["picture"]
  n_law : Fn K mg "law" s_law a.f_law a.d_law ["script"]
  z_ValueError : mg "ValueError" = none
  z_all : mg "all" = none
  z_any : mg "any" = none
  z_isinstance : mg "isinstance" = none
  z_len : mg "len" = none
  z_list : mg "list" = none
  z_min : mg "min" = none
  z_range : mg "range" = none
  z_str : mg "str" = none
  z_tuple : mg "tuple" = none
  e_Clash : Ec K mg "Clash" a.c_Clash
  e_GlowError : Ec K mg "GlowError" a.c_GlowError
  e_NoDeed : Ec K mg "NoDeed" a.c_NoDeed
  e_NoFilm : Ec K mg "NoFilm" a.c_NoFilm
  e_NoFrame : Ec K mg "NoFrame" a.c_NoFrame
  e_NoRow : Ec K mg "NoRow" a.c_NoRow
  e_NoScore : Ec K mg "NoScore" a.c_NoScore
  e_NoStand : Ec K mg "NoStand" a.c_NoStand
  e_NoText : Ec K mg "NoText" a.c_NoText
  e_NoTick : Ec K mg "NoTick" a.c_NoTick
  e_Over : Ec K mg "Over" a.c_Over
  m_NoText_Clash : PySem.W.mroIn K a.c_NoText (.ref a.c_Clash) = some false
  m_NoText_GlowError : PySem.W.mroIn K a.c_NoText (.ref a.c_GlowError) = some true
  m_NoText_NoDeed : PySem.W.mroIn K a.c_NoText (.ref a.c_NoDeed) = some false
  m_NoText_NoFilm : PySem.W.mroIn K a.c_NoText (.ref a.c_NoFilm) = some false
  m_NoText_NoFrame : PySem.W.mroIn K a.c_NoText (.ref a.c_NoFrame) = some false
  m_NoText_NoRow : PySem.W.mroIn K a.c_NoText (.ref a.c_NoRow) = some false
  m_NoText_NoScore : PySem.W.mroIn K a.c_NoText (.ref a.c_NoScore) = some false
  m_NoText_NoStand : PySem.W.mroIn K a.c_NoText (.ref a.c_NoStand) = some false
  m_NoText_NoText : PySem.W.mroIn K a.c_NoText (.ref a.c_NoText) = some true
  m_NoText_NoTick : PySem.W.mroIn K a.c_NoText (.ref a.c_NoTick) = some false
  m_NoText_Over : PySem.W.mroIn K a.c_NoText (.ref a.c_Over) = some false
  m_NoText_ValueError : PySem.W.mroIn K a.c_NoText (.type "ValueError") = some true
  v_SIGNS : ∃ tk, mg "SIGNS" = some (.str "0123456789abcdefghijklmnopqrstuvwxyzABCDEFGHIJKLMNOPQRSTUVWXYZ+-" tk)
def g__law_draw : GS := (sSeq (sSet 2 (gC (.int 2305843009213693951))) (sSeq (sIf (gTst (g2 ltD (g2 ixA (gVar 0) (gC (.int 2))) (gVar 1))) (sSeq (sSet 3 (gC (.int 0))) (sSeq (sIf (gTst (g2 gtD (gBlt lenF (DL.gCons (g2 ixA (gVar 0) (gC (.int 0))) DL.gNil)) (gC (.int 0)))) (sSet 3 (g2 ixA (g2 ixA (gVar 0) (gC (.int 0))) (g2 modD (g2 ixA (gVar 0) (gC (.int 1))) (gBlt lenF (DL.gCons (g2 ixA (gVar 0) (gC (.int 0))) DL.gNil))))) sNext) (sSeq (sIf (gOrT (gTst (g2 geD (g2 ixA (gVar 0) (gC (.int 1))) (gBlt lenF (DL.gCons (g2 ixA (gVar 0) (gC (.int 0))) DL.gNil)))) (gTst (g2 ltD (gVar 3) (g2 powD (gC (.int 10)) (gC (.int 18)))))) (sSeq (sSet 3 (g2 modD (g2 addD (gVar 3) (g2 mulD (gC (.int 1000003)) (g2 ixA (gVar 0) (gC (.int 1))))) (gVar 2))) (sSeq (sSet 3 (g2 modD (g2 addD (g2 addD (g2 mulD (gVar 3) (gVar 3)) (g2 mulD (gC (.int 1181783497276652981)) (gVar 3))) (gC (.int 2049848353892358983))) (gVar 2))) (sSet 3 (g2 modD (g2 addD (g2 mulD (gVar 3) (gVar 3)) (gC (.int 1442695040888963407))) (gVar 2))))) sNext) (sSeq (sSub (gVar 0) (gC (.int 1)) (g2 addD (g2 ixA (gVar 0) (gC (.int 1))) (gC (.int 1)))) (sSub (gVar 0) (gC (.int 2)) (gVar 3)))))) sNext) (sSeq (sSet 4 (g2 modD (g2 ixA (gVar 0) (gC (.int 2))) (gVar 1))) (sSeq (sSub (gVar 0) (gC (.int 2)) (g2 fdivD (g2 ixA (gVar 0) (gC (.int 2))) (gVar 1))) (sRet (gVar 4))))))
def F__law_draw : FD := runD 3 g__law_draw
theorem sc__law_draw : FnScope ["tape", "many", "prime", "cell", "found"] ["tape", "many"] (defScope s__law_draw) := ⟨rfl, rfl, rfl, by decide +kernel, rfl, by decide +kernel, by decide +kernel⟩
theorem ok__law_draw {P : Program} {w : World} {K : PySem.W.Frag} {mg : Str → Option Value} {base : Heap} {a : Ad} (T : Tx K mg a) : FnOk P w K mg base (CXd P w) 1 a.f__law_draw a.d__law_draw ["tape", "many"] (spD K 2 F__law_draw) := fn_q T.n__law_draw.F sc__law_draw rfl fun cdv A outer s H E hr => by
  have nd := sc__law_draw.nd
  refine qs_cons ?_ ?_
  · exact (qs_set 2 nd qe_int)
  refine qs_cons ?_ ?_
  · refine qs_if ?_ ?_ ?_
    · exact (qt_cmp q_lt (qe_ixA (qv 0) qe_int) (qv 1))
    · refine qs_cons ?_ ?_
      · exact (qs_set 3 nd qe_int)
      refine qs_cons ?_ ?_
      · refine qs_if ?_ ?_ ?_
        · exact (qt_cmp q_gt (qe_cB q_len (by rfl) T.z_len Boot.«len» (qa_c (qe_ixA (qv 0) qe_int) qa_nil)) qe_int)
        · refine qs_one ?_
          refine qs_set 3 nd ?_
          refine qe_ixA ?_ ?_
          · exact (qe_ixA (qv 0) qe_int)
          · refine qe_op q_mod ?_ ?_
            · exact (qe_ixA (qv 0) qe_int)
            · exact (qe_cB q_len (by rfl) T.z_len Boot.«len» (qa_c (qe_ixA (qv 0) qe_int) qa_nil))
        · exact qs_nil
      refine qs_cons ?_ ?_
      · refine qs_if ?_ ?_ ?_
        · refine qt_w ?_
          refine qw_or ?_ ?_
          · refine qt_cmp q_ge ?_ ?_
            · exact (qe_ixA (qv 0) qe_int)
            · exact (qe_cB q_len (by rfl) T.z_len Boot.«len» (qa_c (qe_ixA (qv 0) qe_int) qa_nil))
          · exact (qw_or1 (qt_cmp q_lt (qv 3) (qe_op q_pow qe_int qe_int)))
        · refine qs_cons ?_ ?_
          · refine qs_set 3 nd ?_
            refine qe_op q_mod ?_ ?_
            · exact (qe_op q_add (qv 3) (qe_op q_mul qe_int (qe_ixA (qv 0) qe_int)))
            · exact (qv 2)
          refine qs_cons ?_ ?_
          · refine qs_set 3 nd ?_
            refine qe_op q_mod ?_ ?_
            · refine qe_op q_add ?_ ?_
              · exact (qe_op q_add (qe_op q_mul (qv 3) (qv 3)) (qe_op q_mul qe_int (qv 3)))
              · exact qe_int
            · exact (qv 2)
          refine qs_one ?_
          refine qs_set 3 nd ?_
          exact (qe_op q_mod (qe_op q_add (qe_op q_mul (qv 3) (qv 3)) qe_int) (qv 2))
        · exact qs_nil
      refine qs_cons ?_ ?_
      · refine qs_sub ?_ ?_ ?_
        · exact (qe_op q_add (qe_ixA (qv 0) qe_int) qe_int)
        · exact (qv 0)
        · exact qe_int
      refine qs_one ?_
      exact (qs_sub (qv 3) (qv 0) qe_int)
    · exact qs_nil
  refine qs_cons ?_ ?_
  · exact (qs_set 4 nd (qe_op q_mod (qe_ixA (qv 0) qe_int) (qv 1)))
  refine qs_cons ?_ ?_
  · refine qs_sub ?_ ?_ ?_
    · exact (qe_op q_fdiv (qe_ixA (qv 0) qe_int) (qv 1))
    · exact (qv 0)
    · exact qe_int
  refine qs_one ?_
  exact (qs_ret (qv 4))
def g__law_size : GS := (sRet (g2 addD (gC (.int 1)) (g2 ixA (gLst (DL.gCons (gCall 2 F__law_draw (DL.gCons (gVar 0) (DL.gCons (gBlt minF (DL.gCons (gVar 1) (DL.gCons (gC (.int 6)) DL.gNil))) DL.gNil))) (DL.gCons (gCall 2 F__law_draw (DL.gCons (gVar 0) (DL.gCons (gVar 1) DL.gNil))) (DL.gCons (g2 subD (gVar 1) (gC (.int 1))) DL.gNil)))) (g2 fdivD (g2 mulD (gCall 2 F__law_draw (DL.gCons (gVar 0) (DL.gCons (gC (.int 8)) DL.gNil))) (gC (.int 3))) (gC (.int 10))))))
def F__law_size : FD := runD 0 g__law_size
theorem sc__law_size : FnScope ["tape", "most"] ["tape", "most"] (defScope s__law_size) := ⟨rfl, rfl, rfl, by decide +kernel, rfl, by decide +kernel, by decide +kernel⟩
theorem ok__law_size {P : Program} {w : World} {K : PySem.W.Frag} {mg : Str → Option Value} {base : Heap} {a : Ad} (T : Tx K mg a) : FnOk P w K mg base (CXd P w) 2 a.f__law_size a.d__law_size ["tape", "most"] (spD K 2 F__law_size) := fn_q T.n__law_size.F sc__law_size rfl fun cdv A outer s H E hr => by
  have nd := sc__law_size.nd
  refine qs_one ?_
  refine qs_ret ?_
  refine qe_op q_add ?_ ?_
  · exact qe_int
  · refine qe_ixA ?_ ?_
    · refine qe_lst ?_
      refine qa_c ?_ ?_
      · refine qe_cl (ok__law_draw T) (hr.mono (by decide)) (by rfl) T.n__law_draw.m T.n__law_draw.F.kp T.n__law_draw.b ?_
        exact (qa_c (qv 0) (qa_c (qe_cB q_min (by rfl) T.z_min Boot.«min» (qa_c (qv 1) (qa_c qe_int qa_nil))) qa_nil))
      refine qa_c ?_ ?_
      · exact (qe_cl (ok__law_draw T) (hr.mono (by decide)) (by rfl) T.n__law_draw.m T.n__law_draw.F.kp T.n__law_draw.b (qa_c (qv 0) (qa_c (qv 1) qa_nil)))
      refine qa_c ?_ ?_
      · exact (qe_op q_sub (qv 1) qe_int)
      exact qa_nil
    · refine qe_op q_fdiv ?_ ?_
      · exact (qe_op q_mul (qe_cl (ok__law_draw T) (hr.mono (by decide)) (by rfl) T.n__law_draw.m T.n__law_draw.F.kp T.n__law_draw.b (qa_c (qv 0) (qa_c qe_int qa_nil))) qe_int)
      · exact qe_int
def g__law_turned : GS := (sSeq (sSet 0 (gBlt listMA (DL.gCons (gVar 0) DL.gNil))) (sSeq (sIf (gOrT (gTst (g2 (eqOp false) (gVar 1) (gC (.int 2)))) (gTst (g2 (eqOp false) (gBlt lenF (DL.gCons (gVar 0) DL.gNil)) (gC (.int 0))))) (sSeq (sDrop (gMM insF (gVar 0) (DL.gCons (g2 modD (gVar 2) (g2 addD (gBlt lenF (DL.gCons (gVar 0) DL.gNil)) (gC (.int 1)))) (DL.gCons (gVar 3) DL.gNil)))) (sRet (gVar 0))) sNext) (sSeq (sSet 2 (g2 modD (gVar 2) (gBlt lenF (DL.gCons (gVar 0) DL.gNil)))) (sSeq (sIf (gTst (g2 (eqOp false) (gVar 1) (gC (.int 0)))) (sSub (gVar 0) (gVar 2) (gVar 3)) (sIf (gTst (g2 (eqOp false) (gVar 1) (gC (.int 1)))) (sDrop (gMM popF (gVar 0) (DL.gCons (gVar 2) DL.gNil))) (sSeq (sSet 4 (g2 ixA (gVar 0) (gVar 2))) (sSeq (sSub (gVar 0) (gVar 2) (g2 ixA (gVar 0) (g2 modD (g2 addD (gVar 2) (gC (.int 1))) (gBlt lenF (DL.gCons (gVar 0) DL.gNil))))) (sSub (gVar 0) (g2 modD (g2 addD (gVar 2) (gC (.int 1))) (gBlt lenF (DL.gCons (gVar 0) DL.gNil))) (gVar 4)))))) (sRet (gVar 0))))))
def F__law_turned : FD := runD 1 g__law_turned
theorem sc__law_turned : FnScope ["row", "way", "at", "thing", "other"] ["row", "way", "at", "thing"] (defScope s__law_turned) := ⟨rfl, rfl, rfl, by decide +kernel, rfl, by decide +kernel, by decide +kernel⟩
theorem ok__law_turned {P : Program} {w : World} {K : PySem.W.Frag} {mg : Str → Option Value} {base : Heap} {a : Ad} (T : Tx K mg a) : FnOk P w K mg base (CXd P w) 1 a.f__law_turned a.d__law_turned ["row", "way", "at", "thing"] (spD K 4 F__law_turned) := fn_q T.n__law_turned.F sc__law_turned rfl fun cdv A outer s H E hr => by
  have nd := sc__law_turned.nd
  refine qs_cons ?_ ?_
  · exact (qs_set 0 nd (qe_cT q_listMA (by rfl) T.z_list Boot.«list» (qa_c (qv 0) qa_nil)))
  refine qs_cons ?_ ?_
  · refine qs_if ?_ ?_ ?_
    · refine qt_w ?_
      refine qw_or ?_ ?_
      · exact (qt_cmp (q_eq hr) (qv 1) qe_int)
      · exact (qw_or1 (qt_cmp (q_eq hr) (qe_cB q_len (by rfl) T.z_len Boot.«len» (qa_c (qv 0) qa_nil)) qe_int))
    · refine qs_cons ?_ ?_
      · refine qs_drop ?_
        refine qe_insert ?_ ?_
        · exact (qv 0)
        · refine qa_c ?_ ?_
          · exact (qe_op q_mod (qv 2) (qe_op q_add (qe_cB q_len (by rfl) T.z_len Boot.«len» (qa_c (qv 0) qa_nil)) qe_int))
          refine qa_c ?_ ?_
          · exact (qv 3)
          exact qa_nil
      refine qs_one ?_
      exact (qs_ret (qv 0))
    · exact qs_nil
  refine qs_cons ?_ ?_
  · exact (qs_set 2 nd (qe_op q_mod (qv 2) (qe_cB q_len (by rfl) T.z_len Boot.«len» (qa_c (qv 0) qa_nil))))
  refine qs_cons ?_ ?_
  · refine qs_if ?_ ?_ ?_
    · exact (qt_cmp (q_eq hr) (qv 1) qe_int)
    · refine qs_one ?_
      exact (qs_sub (qv 3) (qv 0) (qv 2))
    · refine qs_one ?_
      refine qs_if ?_ ?_ ?_
      · exact (qt_cmp (q_eq hr) (qv 1) qe_int)
      · refine qs_one ?_
        exact (qs_drop (qe_popAt (qv 0) (qa_c (qv 2) qa_nil)))
      · refine qs_cons ?_ ?_
        · exact (qs_set 4 nd (qe_ixA (qv 0) (qv 2)))
        refine qs_cons ?_ ?_
        · refine qs_sub ?_ ?_ ?_
          · refine qe_ixA ?_ ?_
            · exact (qv 0)
            · exact (qe_op q_mod (qe_op q_add (qv 2) qe_int) (qe_cB q_len (by rfl) T.z_len Boot.«len» (qa_c (qv 0) qa_nil)))
          · exact (qv 0)
          · exact (qv 2)
        refine qs_one ?_
        refine qs_sub ?_ ?_ ?_
        · exact (qv 4)
        · exact (qv 0)
        · exact (qe_op q_mod (qe_op q_add (qv 2) qe_int) (qe_cB q_len (by rfl) T.z_len Boot.«len» (qa_c (qv 0) qa_nil)))
  refine qs_one ?_
  exact (qs_ret (qv 0))
def g__law_bent : GS := (sSeq (sSet 2 (gC (.str " !\"#$&'()*+,-./0123456789:;<=>?@ABCDEFGHIJKLMNOPQRSTUVWXYZ[\\]^_`abcdefghijklm"))) (sSeq (sSet 2 (g2 addD (gVar 2) (gC (.str "nopqrstuvwxyz{|}~\n")))) (sSeq (sSet 3 (gCall 2 F__law_draw (DL.gCons (gVar 0) (DL.gCons (gC (.int 3)) DL.gNil)))) (sSeq (sSet 4 (gCall 2 F__law_draw (DL.gCons (gVar 0) (DL.gCons (gC (.int 4)) DL.gNil)))) (sSeq (sIf (gAndT (gTst (g2 (eqOp false) (gVar 3) (gC (.int 0)))) (gTst (g2 (eqOp true) (gVar 1) (gC (.str ""))))) (sSeq (sSet 5 (g2 ixA (gLst (DL.gCons (g2 ixA (gVar 2) (gCall 2 F__law_draw (DL.gCons (gVar 0) (DL.gCons (gBlt lenF (DL.gCons (gVar 2) DL.gNil)) DL.gNil)))) (DL.gCons (g2 ixA (gVar 1) (gCall 2 F__law_draw (DL.gCons (gVar 0) (DL.gCons (gBlt lenF (DL.gCons (gVar 1) DL.gNil)) DL.gNil)))) DL.gNil))) (gCall 2 F__law_draw (DL.gCons (gVar 0) (DL.gCons (gC (.int 2)) DL.gNil))))) (sRet (gMethS joinF (gC (.str "")) (gCall 4 F__law_turned (DL.gCons (gBlt listA (DL.gCons (gVar 1) DL.gNil)) (DL.gCons (gVar 4) (DL.gCons (gCall 2 F__law_draw (DL.gCons (gVar 0) (DL.gCons (g2 addD (gBlt lenF (DL.gCons (gVar 1) DL.gNil)) (gC (.int 1))) DL.gNil))) (DL.gCons (gVar 5) DL.gNil)))))))) sNext) (sSeq (sSet 6 (gMethS splitM (gVar 1) (gC (.str "\n")))) (sSeq (sIf (gTst (g2 (eqOp false) (gVar 3) (gC (.int 1)))) (sSeq (sSet 7 (g2 ixA (gVar 6) (gCall 2 F__law_draw (DL.gCons (gVar 0) (DL.gCons (gBlt lenF (DL.gCons (gVar 6) DL.gNil)) DL.gNil))))) (sRet (gMethS joinF (gC (.str "\n")) (gCall 4 F__law_turned (DL.gCons (gVar 6) (DL.gCons (gVar 4) (DL.gCons (gCall 2 F__law_draw (DL.gCons (gVar 0) (DL.gCons (g2 addD (gBlt lenF (DL.gCons (gVar 6) DL.gNil)) (gC (.int 1))) DL.gNil))) (DL.gCons (gVar 7) DL.gNil)))))))) sNext) (sSeq (sSet 8 (gCall 2 F__law_draw (DL.gCons (gVar 0) (DL.gCons (gBlt lenF (DL.gCons (gVar 6) DL.gNil)) DL.gNil)))) (sSeq (sSet 9 (gMethS splitM (g2 ixA (gVar 6) (gVar 8)) (gC (.str " ")))) (sSeq (sSet 10 (gLst (DL.gCons (gC (.str "off")) (DL.gCons (gC (.str "0")) (DL.gCons (gC (.str "-1")) (DL.gCons (gC (.str "-0")) (DL.gCons (gC (.str "00")) (DL.gCons (gC (.str "1001")) (DL.gCons (gC (.str "-1001")) (DL.gCons (gC (.str "16")) (DL.gCons (gC (.str "64")) (DL.gCons (gC (.str "move")) (DL.gCons (gC (.str "pot")) (DL.gCons (gC (.str "at")) (DL.gCons (gC (.str "shape")) (DL.gCons (gC (.str "")) (DL.gCons (gC (.str "12345")) DL.gNil))))))))))))))))) (sSeq (sSet 10 (g2 addD (gVar 10) (gLst (DL.gCons (gC (.str "g")) (DL.gCons (gC (.str "0/1")) DL.gNil))))) (sSeq (sSet 11 (g2 ixA (g2 addD (gVar 10) (gVar 9)) (gCall 2 F__law_draw (DL.gCons (gVar 0) (DL.gCons (g2 addD (gC (.int 17)) (gBlt lenF (DL.gCons (gVar 9) DL.gNil))) DL.gNil))))) (sSeq (sSub (gVar 6) (gVar 8) (gMethS joinF (gC (.str " ")) (gCall 4 F__law_turned (DL.gCons (gVar 9) (DL.gCons (gVar 4) (DL.gCons (gCall 2 F__law_draw (DL.gCons (gVar 0) (DL.gCons (g2 addD (gBlt lenF (DL.gCons (gVar 9) DL.gNil)) (gC (.int 1))) DL.gNil))) (DL.gCons (gVar 11) DL.gNil))))))) (sRet (gMethS joinF (gC (.str "\n")) (gVar 6))))))))))))))))
def F__law_bent : FD := fun ds M => retP M.length (runD 10 g__law_bent ds M)
theorem sc__law_bent : FnScope ["tape", "text", "signs", "level", "way", "sign", "lines", "line", "at", "words", "some", "word"] ["tape", "text"] (defScope s__law_bent) := ⟨rfl, rfl, rfl, by decide +kernel, rfl, by decide +kernel, by decide +kernel⟩
theorem ok__law_bent {P : Program} {w : World} {K : PySem.W.Frag} {mg : Str → Option Value} {base : Heap} {a : Ad} (T : Tx K mg a) : FnOk P w K mg base (CXd P w) 2 a.f__law_bent a.d__law_bent ["tape", "text"] (spD K 2 F__law_bent) := fn_pop (F := runD 10 g__law_bent) <| fn_q T.n__law_bent.F sc__law_bent rfl fun cdv A outer s H E hr => by
  have nd := sc__law_bent.nd
  refine qs_cons ?_ ?_
  · exact (qs_set 2 nd qe_str)
  refine qs_cons ?_ ?_
  · exact (qs_set 2 nd (qe_op q_add (qv 2) qe_str))
  refine qs_cons ?_ ?_
  · exact (qs_set 3 nd (qe_cl (ok__law_draw T) (hr.mono (by decide)) (by rfl) T.n__law_draw.m T.n__law_draw.F.kp T.n__law_draw.b (qa_c (qv 0) (qa_c qe_int qa_nil))))
  refine qs_cons ?_ ?_
  · exact (qs_set 4 nd (qe_cl (ok__law_draw T) (hr.mono (by decide)) (by rfl) T.n__law_draw.m T.n__law_draw.F.kp T.n__law_draw.b (qa_c (qv 0) (qa_c qe_int qa_nil))))
  refine qs_cons ?_ ?_
  · refine qs_if ?_ ?_ ?_
    · refine qt_w ?_
      refine qw_and ?_ ?_
      · exact (qt_cmp (q_eq hr) (qv 3) qe_int)
      · exact (qw_and1 (qt_cmp (q_ne hr) (qv 1) qe_str))
    · refine qs_cons ?_ ?_
      · refine qs_set 5 nd ?_
        refine qe_ixA ?_ ?_
        · refine qe_lst ?_
          refine qa_c ?_ ?_
          · refine qe_ixA ?_ ?_
            · exact (qv 2)
            · exact (qe_cl (ok__law_draw T) (hr.mono (by decide)) (by rfl) T.n__law_draw.m T.n__law_draw.F.kp T.n__law_draw.b (qa_c (qv 0) (qa_c (qe_cB q_len (by rfl) T.z_len Boot.«len» (qa_c (qv 2) qa_nil)) qa_nil)))
          refine qa_c ?_ ?_
          · refine qe_ixA ?_ ?_
            · exact (qv 1)
            · exact (qe_cl (ok__law_draw T) (hr.mono (by decide)) (by rfl) T.n__law_draw.m T.n__law_draw.F.kp T.n__law_draw.b (qa_c (qv 0) (qa_c (qe_cB q_len (by rfl) T.z_len Boot.«len» (qa_c (qv 1) qa_nil)) qa_nil)))
          exact qa_nil
        · exact (qe_cl (ok__law_draw T) (hr.mono (by decide)) (by rfl) T.n__law_draw.m T.n__law_draw.F.kp T.n__law_draw.b (qa_c (qv 0) (qa_c qe_int qa_nil)))
      refine qs_one ?_
      refine qs_ret ?_
      refine qe_join ?_ ?_
      · exact qe_str
      · refine qe_cl (ok__law_turned T) (hr.mono (by decide)) (by rfl) T.n__law_turned.m T.n__law_turned.F.kp T.n__law_turned.b ?_
        refine qa_c ?_ ?_
        · exact (qe_cT q_listA (by rfl) T.z_list Boot.«list» (qa_c (qv 1) qa_nil))
        refine qa_c ?_ ?_
        · exact (qv 4)
        refine qa_c ?_ ?_
        · refine qe_cl (ok__law_draw T) (hr.mono (by decide)) (by rfl) T.n__law_draw.m T.n__law_draw.F.kp T.n__law_draw.b ?_
          exact (qa_c (qv 0) (qa_c (qe_op q_add (qe_cB q_len (by rfl) T.z_len Boot.«len» (qa_c (qv 1) qa_nil)) qe_int) qa_nil))
        refine qa_c ?_ ?_
        · exact (qv 5)
        exact qa_nil
    · exact qs_nil
  refine qs_cons ?_ ?_
  · exact (qs_set 6 nd (qe_splitM (qv 1) qe_str))
  refine qs_cons ?_ ?_
  · refine qs_if ?_ ?_ ?_
    · exact (qt_cmp (q_eq hr) (qv 3) qe_int)
    · refine qs_cons ?_ ?_
      · refine qs_set 7 nd ?_
        refine qe_ixA ?_ ?_
        · exact (qv 6)
        · exact (qe_cl (ok__law_draw T) (hr.mono (by decide)) (by rfl) T.n__law_draw.m T.n__law_draw.F.kp T.n__law_draw.b (qa_c (qv 0) (qa_c (qe_cB q_len (by rfl) T.z_len Boot.«len» (qa_c (qv 6) qa_nil)) qa_nil)))
      refine qs_one ?_
      refine qs_ret ?_
      refine qe_join ?_ ?_
      · exact qe_str
      · refine qe_cl (ok__law_turned T) (hr.mono (by decide)) (by rfl) T.n__law_turned.m T.n__law_turned.F.kp T.n__law_turned.b ?_
        refine qa_c ?_ ?_
        · exact (qv 6)
        refine qa_c ?_ ?_
        · exact (qv 4)
        refine qa_c ?_ ?_
        · refine qe_cl (ok__law_draw T) (hr.mono (by decide)) (by rfl) T.n__law_draw.m T.n__law_draw.F.kp T.n__law_draw.b ?_
          exact (qa_c (qv 0) (qa_c (qe_op q_add (qe_cB q_len (by rfl) T.z_len Boot.«len» (qa_c (qv 6) qa_nil)) qe_int) qa_nil))
        refine qa_c ?_ ?_
        · exact (qv 7)
        exact qa_nil
    · exact qs_nil
  refine qs_cons ?_ ?_
  · refine qs_set 8 nd ?_
    exact (qe_cl (ok__law_draw T) (hr.mono (by decide)) (by rfl) T.n__law_draw.m T.n__law_draw.F.kp T.n__law_draw.b (qa_c (qv 0) (qa_c (qe_cB q_len (by rfl) T.z_len Boot.«len» (qa_c (qv 6) qa_nil)) qa_nil)))
  refine qs_cons ?_ ?_
  · exact (qs_set 9 nd (qe_splitM (qe_ixA (qv 6) (qv 8)) qe_str))
  refine qs_cons ?_ ?_
  · refine qs_set 10 nd ?_
    refine qe_lst ?_
    refine qa_c ?_ ?_
    · exact qe_str
    refine qa_c ?_ ?_
    · exact qe_str
    refine qa_c ?_ ?_
    · exact qe_str
    refine qa_c ?_ ?_
    · exact qe_str
    refine qa_c ?_ ?_
    · exact qe_str
    refine qa_c ?_ ?_
    · exact qe_str
    refine qa_c ?_ ?_
    · exact qe_str
    refine qa_c ?_ ?_
    · exact qe_str
    refine qa_c ?_ ?_
    · exact qe_str
    refine qa_c ?_ ?_
    · exact qe_str
    refine qa_c ?_ ?_
    · exact qe_str
    refine qa_c ?_ ?_
    · exact qe_str
    refine qa_c ?_ ?_
    · exact qe_str
    refine qa_c ?_ ?_
    · exact qe_str
    refine qa_c ?_ ?_
    · exact qe_str
    exact qa_nil
  refine qs_cons ?_ ?_
  · refine qs_set 10 nd ?_
    exact (qe_op q_add (qv 10) (qe_lst (qa_c qe_str (qa_c qe_str qa_nil))))
  refine qs_cons ?_ ?_
  · refine qs_set 11 nd ?_
    refine qe_ixA ?_ ?_
    · exact (qe_op q_add (qv 10) (qv 9))
    · refine qe_cl (ok__law_draw T) (hr.mono (by decide)) (by rfl) T.n__law_draw.m T.n__law_draw.F.kp T.n__law_draw.b ?_
      exact (qa_c (qv 0) (qa_c (qe_op q_add qe_int (qe_cB q_len (by rfl) T.z_len Boot.«len» (qa_c (qv 9) qa_nil))) qa_nil))
  refine qs_cons ?_ ?_
  · refine qs_sub ?_ ?_ ?_
    · refine qe_join ?_ ?_
      · exact qe_str
      · refine qe_cl (ok__law_turned T) (hr.mono (by decide)) (by rfl) T.n__law_turned.m T.n__law_turned.F.kp T.n__law_turned.b ?_
        refine qa_c ?_ ?_
        · exact (qv 9)
        refine qa_c ?_ ?_
        · exact (qv 4)
        refine qa_c ?_ ?_
        · refine qe_cl (ok__law_draw T) (hr.mono (by decide)) (by rfl) T.n__law_draw.m T.n__law_draw.F.kp T.n__law_draw.b ?_
          exact (qa_c (qv 0) (qa_c (qe_op q_add (qe_cB q_len (by rfl) T.z_len Boot.«len» (qa_c (qv 9) qa_nil)) qe_int) qa_nil))
        refine qa_c ?_ ?_
        · exact (qv 11)
        exact qa_nil
    · exact (qv 6)
    · exact (qv 8)
  refine qs_one ?_
  exact (qs_ret (qe_join qe_str (qv 6)))
def g__law_word : GS := (sSeq (sSet 1 (gMut (DL.gCons (gIsx (okL [("NoText", false)]) (gVar 0)) (DL.gCons (gIsx (okL [("NoText", false)]) (gVar 0)) (DL.gCons (gIsx (okL [("NoText", false)]) (gVar 0)) DL.gNil))))) (sSeq (sSet 1 (g2 addM (gVar 1) (gLst (DL.gCons (gIsx (okL [("NoText", false)]) (gVar 0)) (DL.gCons (gIsx (okL [("NoText", false)]) (gVar 0)) (DL.gCons (gIsx (okL [("NoText", false)]) (gVar 0)) DL.gNil)))))) (sSeq (sSet 1 (g2 addM (gVar 1) (gLst (DL.gCons (gIsx (okL [("NoText", false)]) (gVar 0)) (DL.gCons (gIsx (okL [("NoText", true)]) (gVar 0)) (DL.gCons (gIsx (okL [("NoText", false)]) (gVar 0)) DL.gNil)))))) (sSeq (sDrop (gApp (gVar 1) (gIsx (okL [("NoText", false)]) (gVar 0)))) (sSeq (sIf (gOrT (gNotT (gTru (gIsx (okL [("NoText", true)]) (gVar 0)))) (gTst (g2 (eqOp true) (gMeth countF (gVar 1) (gC (.bl true))) (gC (.int 1))))) (sRet (DL.gTup (DL.gCons (gC (.str "another")) DL.gNil))) sNext) (sSeq (sSet 2 (gLst (DL.gCons (gC (.str "frame")) (DL.gCons (gC (.str "stand")) (DL.gCons (gC (.str "tick")) (DL.gCons (gC (.str "deed")) (DL.gCons (gC (.str "over")) (DL.gCons (gC (.str "score")) (DL.gCons (gC (.str "clash")) (DL.gCons (gC (.str "text")) (DL.gCons (gC (.str "film")) (DL.gCons (gC (.str "row")) DL.gNil)))))))))))) (sRet (DL.gTup (DL.gCons (g2 ixA (gVar 2) (gMeth indexF (gVar 1) (gC (.bl true)))) DL.gNil)))))))))
def F__law_word : FD := fun ds M => retP M.length (runD 2 g__law_word ds M)
theorem sc__law_word : FnScope ["error", "kinds", "words"] ["error"] (defScope s__law_word) := ⟨rfl, rfl, rfl, by decide +kernel, rfl, by decide +kernel, by decide +kernel⟩
theorem ok__law_word {P : Program} {w : World} {K : PySem.W.Frag} {mg : Str → Option Value} {base : Heap} {a : Ad} (T : Tx K mg a) : FnOk P w K mg base (CXd P w) 1 a.f__law_word a.d__law_word ["error"] (spD K 1 F__law_word) := fn_pop (F := runD 2 g__law_word) <| fn_q T.n__law_word.F sc__law_word rfl fun cdv A outer s H E hr => by
  have nd := sc__law_word.nd
  refine qs_cons ?_ ?_
  · refine qs_set 1 nd ?_
    refine qe_mut ?_
    exact (qa_c (qe_isx T.e_NoFrame.m (okL_hk (okc ⟨_, T.e_NoText.at_, T.e_NoText.k, kit_own T.e_NoFrame T.m_NoText_NoFrame⟩ okn)) (by rfl) (by rfl) T.z_isinstance (qv 0)) (qa_c (qe_isx T.e_NoStand.m (okL_hk (okc ⟨_, T.e_NoText.at_, T.e_NoText.k, kit_own T.e_NoStand T.m_NoText_NoStand⟩ okn)) (by rfl) (by rfl) T.z_isinstance (qv 0)) (qa_c (qe_isx T.e_NoTick.m (okL_hk (okc ⟨_, T.e_NoText.at_, T.e_NoText.k, kit_own T.e_NoTick T.m_NoText_NoTick⟩ okn)) (by rfl) (by rfl) T.z_isinstance (qv 0)) qa_nil)))
  refine qs_cons ?_ ?_
  · refine qs_set 1 nd ?_
    refine qe_op q_addM ?_ ?_
    · exact (qv 1)
    · refine qe_lst ?_
      exact (qa_c (qe_isx T.e_NoDeed.m (okL_hk (okc ⟨_, T.e_NoText.at_, T.e_NoText.k, kit_own T.e_NoDeed T.m_NoText_NoDeed⟩ okn)) (by rfl) (by rfl) T.z_isinstance (qv 0)) (qa_c (qe_isx T.e_Over.m (okL_hk (okc ⟨_, T.e_NoText.at_, T.e_NoText.k, kit_own T.e_Over T.m_NoText_Over⟩ okn)) (by rfl) (by rfl) T.z_isinstance (qv 0)) (qa_c (qe_isx T.e_NoScore.m (okL_hk (okc ⟨_, T.e_NoText.at_, T.e_NoText.k, kit_own T.e_NoScore T.m_NoText_NoScore⟩ okn)) (by rfl) (by rfl) T.z_isinstance (qv 0)) qa_nil)))
  refine qs_cons ?_ ?_
  · refine qs_set 1 nd ?_
    refine qe_op q_addM ?_ ?_
    · exact (qv 1)
    · refine qe_lst ?_
      exact (qa_c (qe_isx T.e_Clash.m (okL_hk (okc ⟨_, T.e_NoText.at_, T.e_NoText.k, kit_own T.e_Clash T.m_NoText_Clash⟩ okn)) (by rfl) (by rfl) T.z_isinstance (qv 0)) (qa_c (qe_isx T.e_NoText.m (okL_hk (okc ⟨_, T.e_NoText.at_, T.e_NoText.k, kit_own T.e_NoText T.m_NoText_NoText⟩ okn)) (by rfl) (by rfl) T.z_isinstance (qv 0)) (qa_c (qe_isx T.e_NoFilm.m (okL_hk (okc ⟨_, T.e_NoText.at_, T.e_NoText.k, kit_own T.e_NoFilm T.m_NoText_NoFilm⟩ okn)) (by rfl) (by rfl) T.z_isinstance (qv 0)) qa_nil)))
  refine qs_cons ?_ ?_
  · exact (qs_drop (qe_append (qv 1) (qe_isx T.e_NoRow.m (okL_hk (okc ⟨_, T.e_NoText.at_, T.e_NoText.k, kit_own T.e_NoRow T.m_NoText_NoRow⟩ okn)) (by rfl) (by rfl) T.z_isinstance (qv 0))))
  refine qs_cons ?_ ?_
  · refine qs_if ?_ ?_ ?_
    · refine qt_w ?_
      refine qw_or ?_ ?_
      · exact (qt_not (qt_tru (qe_isxB Boot.«ValueError» T.z_ValueError (okL_hk (okc ⟨_, T.e_NoText.at_, T.e_NoText.k, kit_bltn (by kernel_rfl) T.m_NoText_ValueError⟩ okn)) (by rfl) (by rfl) T.z_isinstance (qv 0))))
      · exact (qw_or1 (qt_cmp (q_ne hr) (qe_count (qv 1) qe_bl) qe_int))
    · refine qs_one ?_
      exact (qs_ret (qe_tup (qa_c qe_str qa_nil)))
    · exact qs_nil
  refine qs_cons ?_ ?_
  · refine qs_set 2 nd ?_
    refine qe_lst ?_
    refine qa_c ?_ ?_
    · exact qe_str
    refine qa_c ?_ ?_
    · exact qe_str
    refine qa_c ?_ ?_
    · exact qe_str
    refine qa_c ?_ ?_
    · exact qe_str
    refine qa_c ?_ ?_
    · exact qe_str
    refine qa_c ?_ ?_
    · exact qe_str
    refine qa_c ?_ ?_
    · exact qe_str
    refine qa_c ?_ ?_
    · exact qe_str
    refine qa_c ?_ ?_
    · exact qe_str
    refine qa_c ?_ ?_
    · exact qe_str
    exact qa_nil
  refine qs_one ?_
  refine qs_ret ?_
  exact (qe_tup (qa_c (qe_ixA (qv 2) (qe_index (qv 1) qe_bl)) qa_nil))
def e1_read_signs : GE := (gMethS findF (gC (.str "0123456789abcdefghijklmnopqrstuvwxyzABCDEFGHIJKLMNOPQRSTUVWXYZ+-")) (gVar 0))
def g_read_signs : GS := (sSeq (sSet 1 (gComp (gItsA (gVar 0)) gAll e1_read_signs mkLst)) (sSeq (sIf (gTst (g2 inA (gNeg (gC (.int 1))) (gVar 1))) (sRaise "NoText" (gC (.str "there is a sign that writes no number"))) sNext) (sRet (gVar 1))))
def F_read_signs : FD := runD 1 g_read_signs
theorem sc_read_signs : FnScope ["text", "numbers"] ["text"] (defScope s_read_signs) := ⟨rfl, rfl, rfl, by decide +kernel, rfl, by decide +kernel, by decide +kernel⟩
theorem ok_read_signs {P : Program} {w : World} {K : PySem.W.Frag} {mg : Str → Option Value} {base : Heap} {a : Ad} (T : Tx K mg a) : FnOk P w K mg base (CXd P w) 1 a.f_read_signs a.d_read_signs ["text"] (spD K 1 F_read_signs) := fn_q T.n_read_signs.F sc_read_signs rfl fun cdv A outer s H E hr => by
  have nd := sc_read_signs.nd
  refine qs_cons ?_ ?_
  · exact (qs_setComp (j := 1) (R := ["text", "numbers"]) (by kernel_rfl) (.inl rfl)  nd (qi_seqA (qv 0)) q_notests (fun _ _ _ _ => (qe_find (qe_glb T.v_SIGNS) (qv 0))))
  refine qs_cons ?_ ?_
  · refine qs_if ?_ ?_ ?_
    · exact (qt_cmpI q_inA (qe_neg qe_int) (qv 1))
    · refine qs_one ?_
      exact (qs_raise T.e_NoText (by rfl) qe_str)
    · exact qs_nil
  refine qs_one ?_
  exact (qs_ret (qv 1))
def e1_read_picture : GE := (gCall 1 F_read_signs (DL.gCons (gVar 0) DL.gNil))
def e2_read_picture : GE := (g2 (eqOp true) (gBlt lenF (DL.gCons (gVar 0) DL.gNil)) (gVar 3))
def g_read_picture : GS := (sSeq (sIf (gNotT (gTru (gIsi "str" (gVar 0)))) (sRaise "NoText" (gC (.str "that is no text"))) sNext) (sSeq (sSet 1 (gCompE (gItsA (gMethS splitF (gVar 0) (gC (.str "\n")))) 1 (oneN 0) gAll e1_read_picture mkLst)) (sSeq (sSet 2 (gBlt lenF (DL.gCons (g2 ixA (gVar 1) (gC (.int 0))) DL.gNil))) (sSeq (sIf (gNotT (gAndT (gTst (gCh leD leD (gC (.int 1)) (gVar 2) (gC (.int 40)))) (gTst (g2 leD (gBlt lenF (DL.gCons (gVar 1) DL.gNil)) (gC (.int 40)))))) (sRaise "NoText" (gC (.str "a picture has 1 to 40 rows of 1 to 40 spots"))) sNext) (sSeq (sIf (gTru (gBlt anyF (DL.gCons (gComp (gItsA (gVar 1)) gAll e2_read_picture mkLst) DL.gNil))) (sRaise "NoText" (gC (.str "the rows are not of one length"))) sNext) (sRet (gVar 1)))))))
def F_read_picture : FD := runD 2 g_read_picture
theorem sc_read_picture : FnScope ["text", "picture", "wide"] ["text"] (defScope s_read_picture) := ⟨rfl, rfl, rfl, by decide +kernel, rfl, by decide +kernel, by decide +kernel⟩
theorem ok_read_picture {P : Program} {w : World} {K : PySem.W.Frag} {mg : Str → Option Value} {base : Heap} {a : Ad} (T : Tx K mg a) : FnOk P w K mg base (CXd P w) 2 a.f_read_picture a.d_read_picture ["text"] (spD K 1 F_read_picture) := fn_q T.n_read_picture.F sc_read_picture rfl fun cdv A outer s H E hr => by
  have nd := sc_read_picture.nd
  refine qs_cons ?_ ?_
  · refine qs_if ?_ ?_ ?_
    · exact (qt_not (qt_tru (qe_is (.inr (.inr (.inl rfl))) Boot.«str» (by rfl) T.z_str (by rfl) T.z_isinstance (qv 0))))
    · refine qs_one ?_
      exact (qs_raise T.e_NoText (by rfl) qe_str)
    · exact qs_nil
  refine qs_cons ?_ ?_
  · refine qs_setCompE ["line"] (j := 1) (R := ["text", "picture", "wide"]) (by kernel_rfl) (.inl rfl) (qo_one 1 0) nd ?_ ?_ ?_ ?_
    · exact (qi_seqA (qe_split (qv 0) qe_str))
    · exact (fun _ _ _ _ => (qnT 0 (by kernel_rfl)))
    · exact q_notests
    · exact (fun _ _ _ _ => (qe_cl (ok_read_signs T) (hr.mono (by decide)) (by rfl) T.n_read_signs.m T.n_read_signs.F.kp T.n_read_signs.b (qa_c (qv 0) qa_nil)))
  refine qs_cons ?_ ?_
  · exact (qs_set 2 nd (qe_cB q_len (by rfl) T.z_len Boot.«len» (qa_c (qe_ixA (qv 1) qe_int) qa_nil)))
  refine qs_cons ?_ ?_
  · refine qs_if ?_ ?_ ?_
    · refine qt_not ?_
      refine qt_w ?_
      refine qw_and ?_ ?_
      · exact (qt_chain q_le q_le qe_int (qv 2) qe_int)
      · exact (qw_and1 (qt_cmp q_le (qe_cB q_len (by rfl) T.z_len Boot.«len» (qa_c (qv 1) qa_nil)) qe_int))
    · refine qs_one ?_
      exact (qs_raise T.e_NoText (by rfl) qe_str)
    · exact qs_nil
  refine qs_cons ?_ ?_
  · refine qs_if ?_ ?_ ?_
    · refine qt_tru ?_
      refine qe_cB q_any (by rfl) T.z_any Boot.«any» ?_
      refine qa_c ?_ ?_
      · refine qe_comp (R := ["text", "picture", "wide"]) (by kernel_rfl) (.inl rfl)  ?_ ?_ ?_
        · exact (qi_seqA (qv 1))
        · exact q_notests
        · exact (fun _ _ _ _ => (qe_cmp (q_ne hr) (qe_cB q_len (by rfl) T.z_len Boot.«len» (qa_c (qv 0) qa_nil)) (qv 3)))
      exact qa_nil
    · refine qs_one ?_
      exact (qs_raise T.e_NoText (by rfl) qe_str)
    · exact qs_nil
  refine qs_one ?_
  exact (qs_ret (qv 1))
def g__law_read : GS := (sSeq (sSet 1 (gC .non)) (sSeq (sSet 2 (gC .non)) (sSeq (sTry 3 (List.contains ["NoText"]) (sSet 2 (gCall 1 F_read_picture (DL.gCons (gVar 0) DL.gNil))) (sSet 1 (gVar 3))) (sSeq (sIf (gTst (g2 (isOp false) (gVar 1) (gC .non))) (sRet (gVar 2)) sNext) (sRet (gCall 1 F__law_word (DL.gCons (gVar 1) DL.gNil)))))))
def F__law_read : FD := runD 3 g__law_read
theorem sc__law_read : FnScope ["text", "error", "found", "e"] ["text"] (defScope s__law_read) := ⟨rfl, rfl, rfl, by decide +kernel, rfl, by decide +kernel, by decide +kernel⟩
theorem ok__law_read {P : Program} {w : World} {K : PySem.W.Frag} {mg : Str → Option Value} {base : Heap} {a : Ad} (T : Tx K mg a) : FnOk P w K mg base (CXd P w) 3 a.f__law_read a.d__law_read ["text"] (spD K 1 F__law_read) := fn_q T.n__law_read.F sc__law_read rfl fun cdv A outer s H E hr => by
  have nd := sc__law_read.nd
  refine qs_cons ?_ ?_
  · exact (qs_set 1 nd qe_non)
  refine qs_cons ?_ ?_
  · exact (qs_set 2 nd qe_non)
  refine qs_cons ?_ ?_
  · refine qs_try T.e_GlowError (okt (l := ["NoText"]) (otc ⟨_, T.e_NoText.at_, T.m_NoText_GlowError⟩ otn)) nd ?_ ?_
    · intro _ _
      refine qs_one ?_
      exact (qs_set 2 nd (qe_cl (ok_read_picture T) (hr.mono (by decide)) (by rfl) T.n_read_picture.m T.n_read_picture.F.kp T.n_read_picture.b (qa_c (qv 0) qa_nil)))
    · intro _ _
      refine qs_one ?_
      exact (qs_set 1 nd (qv 3))
  refine qs_cons ?_ ?_
  · refine qs_if ?_ ?_ ?_
    · exact (qt_cmp q_is (qv 1) qe_non)
    · refine qs_one ?_
      exact (qs_ret (qv 2))
    · exact qs_nil
  refine qs_one ?_
  exact (qs_ret (qe_cl (ok__law_word T) (hr.mono (by decide)) (by rfl) T.n__law_word.m T.n__law_word.F.kp T.n__law_word.b (qa_c (qv 1) qa_nil)))
def e1__law_inks_read : GE := (g2 inA (gVar 0) (gVar 2))
def e2__law_inks_read : GE := (gMethS indexSF (gVar 2) (gVar 0))
def b1__law_inks_read : GS := (sSeq (sIf (gNotT (gTru (gBlt allF (DL.gCons (gComp (gItsA (gVar 3)) gAll e1__law_inks_read mkLst) DL.gNil)))) (sRet (DL.gTup DL.gNil)) sNext) (sDrop (gApp (gVar 2) (gBlt tupleF (DL.gCons (gComp (gItsA (gVar 3)) gAll e2__law_inks_read mkLst) DL.gNil)))))
def g__law_inks_read : GS := (sSeq (sSet 1 (gC (.str "0123456789abcdefghijklmnopqrstuvwxyzABCDEFGHIJKLMNOPQRSTUVWXYZ+-"))) (sSeq (sSet 2 (gMut DL.gNil)) (sSeq (sFor (gItsA (gMethS splitF (gVar 0) (gC (.str "/")))) (oneN 3) b1__law_inks_read) (sRet (gBlt tupleF (DL.gCons (gVar 2) DL.gNil))))))
def F__law_inks_read : FD := fun ds M => retP M.length (runD 3 g__law_inks_read ds M)
theorem sc__law_inks_read : FnScope ["text", "signs", "rows", "part"] ["text"] (defScope s__law_inks_read) := ⟨rfl, rfl, rfl, by decide +kernel, rfl, by decide +kernel, by decide +kernel⟩
theorem ok__law_inks_read {P : Program} {w : World} {K : PySem.W.Frag} {mg : Str → Option Value} {base : Heap} {a : Ad} (T : Tx K mg a) : FnOk P w K mg base (CXd P w) 1 a.f__law_inks_read a.d__law_inks_read ["text"] (spD K 1 F__law_inks_read) := fn_pop (F := runD 3 g__law_inks_read) <| fn_q T.n__law_inks_read.F sc__law_inks_read rfl fun cdv A outer s H E hr => by
  have nd := sc__law_inks_read.nd
  refine qs_cons ?_ ?_
  · exact (qs_set 1 nd qe_str)
  refine qs_cons ?_ ?_
  · exact (qs_set 2 nd (qe_mut qa_nil))
  refine qs_cons ?_ ?_
  · refine qs_for PassesOwn.leaving ?_ ?_ ?_
    · exact (qi_seqA (qe_split (qv 0) qe_str))
    · exact (qn 3 nd)
    · refine qs_cons ?_ ?_
      · refine qs_if ?_ ?_ ?_
        · refine qt_not ?_
          refine qt_tru ?_
          refine qe_cB q_all (by rfl) T.z_all Boot.«all» ?_
          refine qa_c ?_ ?_
          · exact (qe_comp (R := ["text", "signs", "rows", "part"]) (by kernel_rfl) (.inl rfl)  (qi_seqA (qv 3)) q_notests (fun _ _ _ _ => (qe_cmpI q_inA (qv 0) (qv 2))))
          exact qa_nil
        · refine qs_one ?_
          exact (qs_ret (qe_tup qa_nil))
        · exact qs_nil
      refine qs_one ?_
      refine qs_drop ?_
      refine qe_append ?_ ?_
      · exact (qv 2)
      · refine qe_cT q_tuple (by rfl) T.z_tuple Boot.«tuple» ?_
        refine qa_c ?_ ?_
        · exact (qe_comp (R := ["text", "signs", "rows", "part"]) (by kernel_rfl) (.inl rfl)  (qi_seqA (qv 3)) q_notests (fun _ _ _ _ => (qe_indexS (qv 2) (qv 0))))
        exact qa_nil
  refine qs_one ?_
  exact (qs_ret (qe_cT q_tuple (by rfl) T.z_tuple Boot.«tuple» (qa_c (qv 2) qa_nil)))
def e1__law_due : GE := (gBlt listA (DL.gCons (gVar 0) DL.gNil))
def e2__law_due : GE := (gVar 0)
def t1__law_due : GT := (gTst (g2 (eqOp true) (gBlt lenF (DL.gCons (gVar 0) DL.gNil)) (gBlt lenF (DL.gCons (g2 ixA (gVar 2) (gC (.int 0))) DL.gNil))))
def g__law_due : GS := (sSeq (sSet 1 (gComp (gItsA (gCall 1 F__law_inks_read (DL.gCons (gMethS joinF (gC (.str "/")) (gMethS splitF (gVar 0) (gC (.str "\n")))) DL.gNil))) gAll e1__law_due mkLst)) (sSeq (sIf (gOrT (gTst (g2 inA (gC (.str "/")) (gVar 0))) (gOrT (gTst (g2 (eqOp false) (gVar 1) (gLst DL.gNil))) (gOrT (gTst (g2 gtD (gBlt lenF (DL.gCons (gVar 1) DL.gNil)) (gC (.int 40)))) (gNotT (gTst (gCh leD leD (gC (.int 1)) (gBlt lenF (DL.gCons (g2 ixA (gVar 1) (gC (.int 0))) DL.gNil)) (gC (.int 40)))))))) (sRet (DL.gTup (DL.gCons (gC (.str "text")) DL.gNil))) sNext) (sSeq (sIf (gTst (g2 (eqOp true) (gComp (gItsA (gVar 1)) t1__law_due e2__law_due mkLst) (gLst DL.gNil))) (sRet (DL.gTup (DL.gCons (gC (.str "text")) DL.gNil))) sNext) (sRet (gVar 1)))))
def F__law_due : FD := runD 1 g__law_due
theorem sc__law_due : FnScope ["text", "rows"] ["text"] (defScope s__law_due) := ⟨rfl, rfl, rfl, by decide +kernel, rfl, by decide +kernel, by decide +kernel⟩
theorem ok__law_due {P : Program} {w : World} {K : PySem.W.Frag} {mg : Str → Option Value} {base : Heap} {a : Ad} (T : Tx K mg a) : FnOk P w K mg base (CXd P w) 2 a.f__law_due a.d__law_due ["text"] (spD K 1 F__law_due) := fn_q T.n__law_due.F sc__law_due rfl fun cdv A outer s H E hr => by
  have nd := sc__law_due.nd
  refine qs_cons ?_ ?_
  · refine qs_setC 1 nd (qe_comp (R := ["text", "rows"]) (by kernel_rfl) (.inl rfl)  ?_ ?_ ?_)
    · refine qi_seqA ?_
      exact (qe_cl (ok__law_inks_read T) (hr.mono (by decide)) (by rfl) T.n__law_inks_read.m T.n__law_inks_read.F.kp T.n__law_inks_read.b (qa_c (qe_join qe_str (qe_split (qv 0) qe_str)) qa_nil))
    · exact q_notests
    · exact (fun _ _ _ _ => (qe_cT q_listA (by rfl) T.z_list Boot.«list» (qa_c (qv 0) qa_nil)))
  refine qs_cons ?_ ?_
  · refine qs_if ?_ ?_ ?_
    · refine qt_w ?_
      refine qw_or ?_ ?_
      · exact (qt_cmpI q_inA qe_str (qv 0))
      · refine qw_or ?_ ?_
        · exact (qt_cmp (q_eq hr) (qv 1) (qe_lst qa_nil))
        · refine qw_or ?_ ?_
          · exact (qt_cmp q_gt (qe_cB q_len (by rfl) T.z_len Boot.«len» (qa_c (qv 1) qa_nil)) qe_int)
          · refine qw_or1 ?_
            refine qt_not ?_
            refine qt_chain q_le q_le ?_ ?_ ?_
            · exact qe_int
            · exact (qe_cB q_len (by rfl) T.z_len Boot.«len» (qa_c (qe_ixA (qv 1) qe_int) qa_nil))
            · exact qe_int
    · refine qs_one ?_
      exact (qs_ret (qe_tup (qa_c qe_str qa_nil)))
    · exact qs_nil
  refine qs_cons ?_ ?_
  · refine qs_if ?_ ?_ ?_
    · refine qt_cmp (q_ne hr) ?_ ?_
      · refine qe_comp (R := ["text", "rows"]) (by kernel_rfl) (.inl rfl)  ?_ ?_ ?_
        · exact (qi_seqA (qv 1))
        · refine q_onetest ?_
          intro _ _ _ _
          refine qt_cmp (q_ne hr) ?_ ?_
          · exact (qe_cB q_len (by rfl) T.z_len Boot.«len» (qa_c (qv 0) qa_nil))
          · exact (qe_cB q_len (by rfl) T.z_len Boot.«len» (qa_c (qe_ixA (qv 2) qe_int) qa_nil))
        · exact (fun _ _ _ _ => (qv 0))
      · exact (qe_lst qa_nil)
    · refine qs_one ?_
      exact (qs_ret (qe_tup (qa_c qe_str qa_nil)))
    · exact qs_nil
  refine qs_one ?_
  exact (qs_ret (qv 1))
def e1__law_signs : GE := (g2 ixA (gVar 2) (gVar 0))
def g__law_signs : GS := (sSeq (sSet 1 (gC (.str "0123456789abcdefghijklmnopqrstuvwxyzABCDEFGHIJKLMNOPQRSTUVWXYZ+-"))) (sRet (gMethS joinF (gC (.str "")) (gComp (gItsA (gVar 0)) gAll e1__law_signs mkLst))))
def F__law_signs : FD := runD 1 g__law_signs
theorem sc__law_signs : FnScope ["numbers", "signs"] ["numbers"] (defScope s__law_signs) := ⟨rfl, rfl, rfl, by decide +kernel, rfl, by decide +kernel, by decide +kernel⟩
theorem ok__law_signs {P : Program} {w : World} {K : PySem.W.Frag} {mg : Str → Option Value} {base : Heap} {a : Ad} (T : Tx K mg a) : FnOk P w K mg base (CXd P w) 1 a.f__law_signs a.d__law_signs ["numbers"] (spD K 1 F__law_signs) := fn_q T.n__law_signs.F sc__law_signs rfl fun cdv A outer s H E hr => by
  have nd := sc__law_signs.nd
  refine qs_cons ?_ ?_
  · exact (qs_set 1 nd qe_str)
  refine qs_one ?_
  refine qs_ret ?_
  refine qe_join ?_ ?_
  · exact qe_str
  · exact (qe_comp (R := ["numbers", "signs"]) (by kernel_rfl) (.inl rfl)  (qi_seqA (qv 0)) q_notests (fun _ _ _ _ => (qe_ixA (qv 2) (qv 0))))
def e1_signs_of : GE := (g2 ixA (gC (.str "0123456789abcdefghijklmnopqrstuvwxyzABCDEFGHIJKLMNOPQRSTUVWXYZ+-")) (gVar 0))
def g_signs_of : GS := (sRet (gMethS joinF (gC (.str "")) (gComp (gItsA (gVar 0)) gAll e1_signs_of mkLst)))
def F_signs_of : FD := runD 0 g_signs_of
theorem sc_signs_of : FnScope ["numbers"] ["numbers"] (defScope s_signs_of) := ⟨rfl, rfl, rfl, by decide +kernel, rfl, by decide +kernel, by decide +kernel⟩
theorem ok_signs_of {P : Program} {w : World} {K : PySem.W.Frag} {mg : Str → Option Value} {base : Heap} {a : Ad} (T : Tx K mg a) : FnOk P w K mg base (CXd P w) 1 a.f_signs_of a.d_signs_of ["numbers"] (spD K 1 F_signs_of) := fn_q T.n_signs_of.F sc_signs_of rfl fun cdv A outer s H E hr => by
  have nd := sc_signs_of.nd
  refine qs_one ?_
  refine qs_ret ?_
  refine qe_join ?_ ?_
  · exact qe_str
  · exact (qe_comp (R := ["numbers"]) (by kernel_rfl) (.inl rfl)  (qi_seqA (qv 0)) q_notests (fun _ _ _ _ => (qe_ixA (qe_glb T.v_SIGNS) (qv 0))))
def e1_picture_text : GE := (gCall 1 F_signs_of (DL.gCons (gVar 0) DL.gNil))
def g_picture_text : GS := (sRet (gMethS joinF (gC (.str "\n")) (gComp (gItsA (gVar 0)) gAll e1_picture_text mkLst)))
def F_picture_text : FD := runD 0 g_picture_text
theorem sc_picture_text : FnScope ["picture"] ["picture"] (defScope s_picture_text) := ⟨rfl, rfl, rfl, by decide +kernel, rfl, by decide +kernel, by decide +kernel⟩
theorem ok_picture_text {P : Program} {w : World} {K : PySem.W.Frag} {mg : Str → Option Value} {base : Heap} {a : Ad} (T : Tx K mg a) : FnOk P w K mg base (CXd P w) 2 a.f_picture_text a.d_picture_text ["picture"] (spD K 1 F_picture_text) := fn_q T.n_picture_text.F sc_picture_text rfl fun cdv A outer s H E hr => by
  have nd := sc_picture_text.nd
  refine qs_one ?_
  refine qs_ret ?_
  refine qe_join ?_ ?_
  · exact qe_str
  · exact (qe_comp (R := ["picture"]) (by kernel_rfl) (.inl rfl)  (qi_seqA (qv 0)) q_notests (fun _ _ _ _ => (qe_cl (ok_signs_of T) (hr.mono (by decide)) (by rfl) T.n_signs_of.m T.n_signs_of.F.kp T.n_signs_of.b (qa_c (qv 0) qa_nil))))
def b1_law : GS := (sIf (gTst (g2 (eqOp true) (gCall 1 F__law_read (DL.gCons (gVar 2) DL.gNil)) (DL.gTup (DL.gCons (gC (.str "text")) DL.gNil)))) (sRet (gC (.bl false))) sNext)
def e1_law : GE := (gCall 2 F__law_draw (DL.gCons (gVar 2) (DL.gCons (gVar 6) DL.gNil)))
def b2_law : GS := (sDrop (gApp (gVar 6) (gComp (gRng1 (DL.gCons (gVar 4) DL.gNil)) gAll e1_law mkLst)))
def e2_law : GE := (gCall 1 F__law_signs (DL.gCons (gVar 0) DL.gNil))
def e3_law : GE := (gBlt listA (DL.gCons (gVar 0) DL.gNil))
def b3_law : GS := (sSeq (sSet 4 (gCall 2 F__law_size (DL.gCons (gVar 1) (DL.gCons (gC (.int 40)) DL.gNil)))) (sSeq (sSet 5 (g2 ixA (gLst (DL.gCons (gC (.int 2)) (DL.gCons (gC (.int 16)) (DL.gCons (gC (.int 64)) DL.gNil)))) (gCall 2 F__law_draw (DL.gCons (gVar 1) (DL.gCons (gC (.int 3)) DL.gNil))))) (sSeq (sSet 6 (gMut DL.gNil)) (sSeq (sFor (gRng1 (DL.gCons (gCall 2 F__law_size (DL.gCons (gVar 1) (DL.gCons (gC (.int 40)) DL.gNil))) DL.gNil)) (oneN 7) b2_law) (sSeq (sSet 8 (gMethS joinF (gC (.str "\n")) (gComp (gItsA (gVar 6)) gAll e2_law mkLst))) (sSeq (sIf (gOrT (gTst (g2 (eqOp true) (gCall 1 F_picture_text (DL.gCons (gComp (gItsA (gVar 6)) gAll e3_law mkLst) DL.gNil)) (gVar 8))) (gTst (g2 (eqOp true) (gCall 1 F__law_read (DL.gCons (gVar 8) DL.gNil)) (gVar 6)))) (sRet (gC (.bl false))) sNext) (sSeq (sSet 9 (gCall 2 F__law_bent (DL.gCons (gVar 1) (DL.gCons (gVar 8) DL.gNil)))) (sSeq (sIf (gTst (g2 (eqOp false) (gCall 2 F__law_draw (DL.gCons (gVar 1) (DL.gCons (gC (.int 6)) DL.gNil))) (gC (.int 0)))) (sSet 9 (g2 ixA (gLst (DL.gCons (g2 addD (gVar 8) (gC (.str "\n"))) (DL.gCons (gC (.str "")) (DL.gCons (gC (.str "\n")) (DL.gCons (g2 addD (g2 addD (gVar 8) (gC (.str "\n"))) (gVar 8)) (DL.gCons (g2 addD (gC (.str " ")) (gVar 8)) DL.gNil)))))) (gCall 2 F__law_draw (DL.gCons (gVar 1) (DL.gCons (gC (.int 5)) DL.gNil))))) sNext) (sSeq (sSet 10 (gCall 1 F__law_read (DL.gCons (gVar 9) DL.gNil))) (sIf (gTst (g2 (eqOp true) (gVar 10) (gCall 1 F__law_due (DL.gCons (gVar 9) DL.gNil)))) (sRet (gC (.bl false))) sNext))))))))))
def g_law : GS := (sSeq (sSet 1 (gMut (DL.gCons (gBlt listA (DL.gCons (gVar 0) DL.gNil)) (DL.gCons (gC (.int 0)) (DL.gCons (gC (.int 0)) DL.gNil))))) (sSeq (sFor (gItsA (gLst (DL.gCons (gC .non) (DL.gCons (gC (.int 7)) (DL.gCons (gLst DL.gNil) (DL.gCons (DL.gTup (DL.gCons (gC (.str "0")) DL.gNil)) (DL.gCons (gLst (DL.gCons (gLst (DL.gCons (gC (.int 0)) DL.gNil)) DL.gNil)) (DL.gCons (gC (.bl true)) DL.gNil)))))))) (oneN 2) b1_law) (sSeq (sFor (gRng1 (DL.gCons (gC (.int 6)) DL.gNil)) (oneN 3) b3_law) (sRet (gC (.bl true))))))
def F_law : FD := runD 10 g_law
theorem sc_law : FnScope ["script", "tape", "thing", "turn", "wide", "most", "picture", "k", "text", "bent", "found"] ["script"] (defScope s_law) := ⟨rfl, rfl, rfl, by decide +kernel, rfl, by decide +kernel, by decide +kernel⟩
theorem ok_law {P : Program} {w : World} {K : PySem.W.Frag} {mg : Str → Option Value} {base : Heap} {a : Ad} (T : Tx K mg a) : FnOk P w K mg base (CXd P w) 4 a.f_law a.d_law ["script"] (spD K 1 F_law) := fn_q T.n_law.F sc_law rfl fun cdv A outer s H E hr => by
  have nd := sc_law.nd
  refine qs_cons ?_ ?_
  · refine qs_set 1 nd ?_
    refine qe_mut ?_
    exact (qa_c (qe_cT q_listA (by rfl) T.z_list Boot.«list» (qa_c (qv 0) qa_nil)) (qa_c qe_int (qa_c qe_int qa_nil)))
  refine qs_cons ?_ ?_
  · refine qs_for PassesOwn.leaving ?_ ?_ ?_
    · refine qi_seqA ?_
      refine qe_lst ?_
      refine qa_c ?_ ?_
      · exact qe_non
      refine qa_c ?_ ?_
      · exact qe_int
      refine qa_c ?_ ?_
      · exact (qe_lst qa_nil)
      refine qa_c ?_ ?_
      · exact (qe_tup (qa_c qe_str qa_nil))
      refine qa_c ?_ ?_
      · exact (qe_lst (qa_c (qe_lst (qa_c qe_int qa_nil)) qa_nil))
      refine qa_c ?_ ?_
      · exact qe_bl
      exact qa_nil
    · exact (qn 2 nd)
    · refine qs_one ?_
      refine qs_if ?_ ?_ ?_
      · exact (qt_cmp (q_ne hr) (qe_cl (ok__law_read T) (hr.mono (by decide)) (by rfl) T.n__law_read.m T.n__law_read.F.kp T.n__law_read.b (qa_c (qv 2) qa_nil)) (qe_tup (qa_c qe_str qa_nil)))
      · refine qs_one ?_
        exact (qs_ret qe_bl)
      · exact qs_nil
  refine qs_cons ?_ ?_
  · refine qs_for PassesOwn.leaving ?_ ?_ ?_
    · exact (qi_r1 (by rfl) T.z_range (qa_c qe_int qa_nil))
    · exact (qn 3 nd)
    · refine qs_cons ?_ ?_
      · exact (qs_set 4 nd (qe_cl (ok__law_size T) (hr.mono (by decide)) (by rfl) T.n__law_size.m T.n__law_size.F.kp T.n__law_size.b (qa_c (qv 1) (qa_c qe_int qa_nil))))
      refine qs_cons ?_ ?_
      · refine qs_set 5 nd ?_
        refine qe_ixA ?_ ?_
        · exact (qe_lst (qa_c qe_int (qa_c qe_int (qa_c qe_int qa_nil))))
        · exact (qe_cl (ok__law_draw T) (hr.mono (by decide)) (by rfl) T.n__law_draw.m T.n__law_draw.F.kp T.n__law_draw.b (qa_c (qv 1) (qa_c qe_int qa_nil)))
      refine qs_cons ?_ ?_
      · exact (qs_set 6 nd (qe_mut qa_nil))
      refine qs_cons ?_ ?_
      · refine qs_for PassesOwn.leaving ?_ ?_ ?_
        · exact (qi_r1 (by rfl) T.z_range (qa_c (qe_cl (ok__law_size T) (hr.mono (by decide)) (by rfl) T.n__law_size.m T.n__law_size.F.kp T.n__law_size.b (qa_c (qv 1) (qa_c qe_int qa_nil))) qa_nil))
        · exact (qn 7 nd)
        · refine qs_one ?_
          refine qs_drop ?_
          refine qe_append ?_ ?_
          · exact (qv 6)
          · refine qe_comp (R := ["script", "tape", "thing", "turn", "wide", "most", "picture", "k", "text", "bent", "found"]) (by kernel_rfl) (.inl rfl)  ?_ ?_ ?_
            · exact (qi_r1 (by rfl) T.z_range (qa_c (qv 4) qa_nil))
            · exact q_notests
            · exact (fun _ _ _ _ => (qe_cl (ok__law_draw T) (hr.mono (by decide)) (by rfl) T.n__law_draw.m T.n__law_draw.F.kp T.n__law_draw.b (qa_c (qv 2) (qa_c (qv 6) qa_nil))))
      refine qs_cons ?_ ?_
      · refine qs_set 8 nd ?_
        refine qe_join ?_ ?_
        · exact qe_str
        · exact (qe_comp (R := ["script", "tape", "thing", "turn", "wide", "most", "picture", "k", "text", "bent", "found"]) (by kernel_rfl) (.inl rfl)  (qi_seqA (qv 6)) q_notests (fun _ _ _ _ => (qe_cl (ok__law_signs T) (hr.mono (by decide)) (by rfl) T.n__law_signs.m T.n__law_signs.F.kp T.n__law_signs.b (qa_c (qv 0) qa_nil))))
      refine qs_cons ?_ ?_
      · refine qs_if ?_ ?_ ?_
        · refine qt_w ?_
          refine qw_or ?_ ?_
          · refine qt_cmp (q_ne hr) ?_ ?_
            · refine qe_cl (ok_picture_text T) (hr.mono (by decide)) (by rfl) T.n_picture_text.m T.n_picture_text.F.kp T.n_picture_text.b ?_
              refine qa_c ?_ ?_
              · exact (qe_comp (R := ["script", "tape", "thing", "turn", "wide", "most", "picture", "k", "text", "bent", "found"]) (by kernel_rfl) (.inl rfl)  (qi_seqA (qv 6)) q_notests (fun _ _ _ _ => (qe_cT q_listA (by rfl) T.z_list Boot.«list» (qa_c (qv 0) qa_nil))))
              exact qa_nil
            · exact (qv 8)
          · exact (qw_or1 (qt_cmp (q_ne hr) (qe_cl (ok__law_read T) (hr.mono (by decide)) (by rfl) T.n__law_read.m T.n__law_read.F.kp T.n__law_read.b (qa_c (qv 8) qa_nil)) (qv 6)))
        · refine qs_one ?_
          exact (qs_ret qe_bl)
        · exact qs_nil
      refine qs_cons ?_ ?_
      · exact (qs_set 9 nd (qe_cl (ok__law_bent T) (hr.mono (by decide)) (by rfl) T.n__law_bent.m T.n__law_bent.F.kp T.n__law_bent.b (qa_c (qv 1) (qa_c (qv 8) qa_nil))))
      refine qs_cons ?_ ?_
      · refine qs_if ?_ ?_ ?_
        · exact (qt_cmp (q_eq hr) (qe_cl (ok__law_draw T) (hr.mono (by decide)) (by rfl) T.n__law_draw.m T.n__law_draw.F.kp T.n__law_draw.b (qa_c (qv 1) (qa_c qe_int qa_nil))) qe_int)
        · refine qs_one ?_
          refine qs_set 9 nd ?_
          refine qe_ixA ?_ ?_
          · refine qe_lst ?_
            refine qa_c ?_ ?_
            · exact (qe_op q_add (qv 8) qe_str)
            refine qa_c ?_ ?_
            · exact qe_str
            refine qa_c ?_ ?_
            · exact qe_str
            refine qa_c ?_ ?_
            · exact (qe_op q_add (qe_op q_add (qv 8) qe_str) (qv 8))
            refine qa_c ?_ ?_
            · exact (qe_op q_add qe_str (qv 8))
            exact qa_nil
          · exact (qe_cl (ok__law_draw T) (hr.mono (by decide)) (by rfl) T.n__law_draw.m T.n__law_draw.F.kp T.n__law_draw.b (qa_c (qv 1) (qa_c qe_int qa_nil)))
        · exact qs_nil
      refine qs_cons ?_ ?_
      · exact (qs_set 10 nd (qe_cl (ok__law_read T) (hr.mono (by decide)) (by rfl) T.n__law_read.m T.n__law_read.F.kp T.n__law_read.b (qa_c (qv 9) qa_nil)))
      refine qs_one ?_
      refine qs_if ?_ ?_ ?_
      · exact (qt_cmp (q_ne hr) (qv 10) (qe_cl (ok__law_due T) (hr.mono (by decide)) (by rfl) T.n__law_due.m T.n__law_due.F.kp T.n__law_due.b (qa_c (qv 9) qa_nil)))
      · refine qs_one ?_
        exact (qs_ret qe_bl)
      · exact qs_nil
  refine qs_one ?_
  exact (qs_ret qe_bl)
theorem all_mk {l : PySem.W.OpenLaw} {w : World} {K : PySem.W.Frag} {h : Heap} {mg : Str → Option Value} {fa : Addr} (X : K.In h) (G : h.Ns mainGlobals mg) (hfa : mg "law" = some (.ref fa))
    {f0 : Addr} {od0 an0 : Option Addr} {sl0 : Array (Option Value)} {oc0 kV0 dc0 pm0 cd0 ct0 : Value}
    {f1 : Addr} {od1 an1 : Option Addr} {sl1 : Array (Option Value)} {oc1 kV1 dc1 pm1 cd1 ct1 : Value}
    {f2 : Addr} {od2 an2 : Option Addr} {sl2 : Array (Option Value)} {oc2 kV2 dc2 pm2 cd2 ct2 : Value}
    {f3 : Addr} {od3 an3 : Option Addr} {sl3 : Array (Option Value)} {oc3 kV3 dc3 pm3 cd3 ct3 : Value}
    {f4 : Addr} {od4 an4 : Option Addr} {sl4 : Array (Option Value)} {oc4 kV4 dc4 pm4 cd4 ct4 : Value}
    {f5 : Addr} {od5 an5 : Option Addr} {sl5 : Array (Option Value)} {oc5 kV5 dc5 pm5 cd5 ct5 : Value}
    {f6 : Addr} {od6 an6 : Option Addr} {sl6 : Array (Option Value)} {oc6 kV6 dc6 pm6 cd6 ct6 : Value}
    {f7 : Addr} {od7 an7 : Option Addr} {sl7 : Array (Option Value)} {oc7 kV7 dc7 pm7 cd7 ct7 : Value}
    {f8 : Addr} {od8 an8 : Option Addr} {sl8 : Array (Option Value)} {oc8 kV8 dc8 pm8 cd8 ct8 : Value}
    {f9 : Addr} {od9 an9 : Option Addr} {sl9 : Array (Option Value)} {oc9 kV9 dc9 pm9 cd9 ct9 : Value}
    {f10 : Addr} {od10 an10 : Option Addr} {sl10 : Array (Option Value)} {oc10 kV10 dc10 pm10 cd10 ct10 : Value}
    {f11 : Addr} {od11 an11 : Option Addr} {sl11 : Array (Option Value)} {oc11 kV11 dc11 pm11 cd11 ct11 : Value}
    {f12 : Addr} {od12 an12 : Option Addr} {sl12 : Array (Option Value)} {oc12 kV12 dc12 pm12 cd12 ct12 : Value}
    {f13 : Addr} {od13 an13 : Option Addr} {sl13 : Array (Option Value)} {oc13 kV13 dc13 pm13 cd13 ct13 : Value}
    {C_Clash C_GlowError C_NoDeed C_NoFilm C_NoFrame C_NoRow C_NoScore C_NoStand C_NoText C_NoTick C_Over : Addr}
    {tk_SIGNS : Tok}
    (a0 : PySem.W.nsIn K mainGlobals "_law_draw" = some (some (.ref f0))) (l0 : K.lookup f0 = some ⟨oc0, od0, .func (PySem.W.fnOf "_law_draw" "_law_draw" (defArgs s__law_draw) (defBody s__law_draw) (defScope s__law_draw) .none kV0 dc0 pm0 an0 cd0 ct0), sl0⟩) (c0 : PySem.W.codeIn K cd0 "_law_draw" = true) (k0 : PySem.W.keepIn K (.ref f0) = true)
    (a1 : PySem.W.nsIn K mainGlobals "_law_size" = some (some (.ref f1))) (l1 : K.lookup f1 = some ⟨oc1, od1, .func (PySem.W.fnOf "_law_size" "_law_size" (defArgs s__law_size) (defBody s__law_size) (defScope s__law_size) .none kV1 dc1 pm1 an1 cd1 ct1), sl1⟩) (c1 : PySem.W.codeIn K cd1 "_law_size" = true) (k1 : PySem.W.keepIn K (.ref f1) = true)
    (a2 : PySem.W.nsIn K mainGlobals "_law_turned" = some (some (.ref f2))) (l2 : K.lookup f2 = some ⟨oc2, od2, .func (PySem.W.fnOf "_law_turned" "_law_turned" (defArgs s__law_turned) (defBody s__law_turned) (defScope s__law_turned) .none kV2 dc2 pm2 an2 cd2 ct2), sl2⟩) (c2 : PySem.W.codeIn K cd2 "_law_turned" = true) (k2 : PySem.W.keepIn K (.ref f2) = true)
    (a3 : PySem.W.nsIn K mainGlobals "_law_bent" = some (some (.ref f3))) (l3 : K.lookup f3 = some ⟨oc3, od3, .func (PySem.W.fnOf "_law_bent" "_law_bent" (defArgs s__law_bent) (defBody s__law_bent) (defScope s__law_bent) .none kV3 dc3 pm3 an3 cd3 ct3), sl3⟩) (c3 : PySem.W.codeIn K cd3 "_law_bent" = true) (k3 : PySem.W.keepIn K (.ref f3) = true)
    (a4 : PySem.W.nsIn K mainGlobals "_law_word" = some (some (.ref f4))) (l4 : K.lookup f4 = some ⟨oc4, od4, .func (PySem.W.fnOf "_law_word" "_law_word" (defArgs s__law_word) (defBody s__law_word) (defScope s__law_word) .none kV4 dc4 pm4 an4 cd4 ct4), sl4⟩) (c4 : PySem.W.codeIn K cd4 "_law_word" = true) (k4 : PySem.W.keepIn K (.ref f4) = true)
    (a5 : PySem.W.nsIn K mainGlobals "read_signs" = some (some (.ref f5))) (l5 : K.lookup f5 = some ⟨oc5, od5, .func (PySem.W.fnOf "read_signs" "read_signs" (defArgs s_read_signs) (defBody s_read_signs) (defScope s_read_signs) .none kV5 dc5 pm5 an5 cd5 ct5), sl5⟩) (c5 : PySem.W.codeIn K cd5 "read_signs" = true) (k5 : PySem.W.keepIn K (.ref f5) = true)
    (a6 : PySem.W.nsIn K mainGlobals "read_picture" = some (some (.ref f6))) (l6 : K.lookup f6 = some ⟨oc6, od6, .func (PySem.W.fnOf "read_picture" "read_picture" (defArgs s_read_picture) (defBody s_read_picture) (defScope s_read_picture) .none kV6 dc6 pm6 an6 cd6 ct6), sl6⟩) (c6 : PySem.W.codeIn K cd6 "read_picture" = true) (k6 : PySem.W.keepIn K (.ref f6) = true)
    (a7 : PySem.W.nsIn K mainGlobals "_law_read" = some (some (.ref f7))) (l7 : K.lookup f7 = some ⟨oc7, od7, .func (PySem.W.fnOf "_law_read" "_law_read" (defArgs s__law_read) (defBody s__law_read) (defScope s__law_read) .none kV7 dc7 pm7 an7 cd7 ct7), sl7⟩) (c7 : PySem.W.codeIn K cd7 "_law_read" = true) (k7 : PySem.W.keepIn K (.ref f7) = true)
    (a8 : PySem.W.nsIn K mainGlobals "_law_inks_read" = some (some (.ref f8))) (l8 : K.lookup f8 = some ⟨oc8, od8, .func (PySem.W.fnOf "_law_inks_read" "_law_inks_read" (defArgs s__law_inks_read) (defBody s__law_inks_read) (defScope s__law_inks_read) .none kV8 dc8 pm8 an8 cd8 ct8), sl8⟩) (c8 : PySem.W.codeIn K cd8 "_law_inks_read" = true) (k8 : PySem.W.keepIn K (.ref f8) = true)
    (a9 : PySem.W.nsIn K mainGlobals "_law_due" = some (some (.ref f9))) (l9 : K.lookup f9 = some ⟨oc9, od9, .func (PySem.W.fnOf "_law_due" "_law_due" (defArgs s__law_due) (defBody s__law_due) (defScope s__law_due) .none kV9 dc9 pm9 an9 cd9 ct9), sl9⟩) (c9 : PySem.W.codeIn K cd9 "_law_due" = true) (k9 : PySem.W.keepIn K (.ref f9) = true)
    (a10 : PySem.W.nsIn K mainGlobals "_law_signs" = some (some (.ref f10))) (l10 : K.lookup f10 = some ⟨oc10, od10, .func (PySem.W.fnOf "_law_signs" "_law_signs" (defArgs s__law_signs) (defBody s__law_signs) (defScope s__law_signs) .none kV10 dc10 pm10 an10 cd10 ct10), sl10⟩) (c10 : PySem.W.codeIn K cd10 "_law_signs" = true) (k10 : PySem.W.keepIn K (.ref f10) = true)
    (a11 : PySem.W.nsIn K mainGlobals "signs_of" = some (some (.ref f11))) (l11 : K.lookup f11 = some ⟨oc11, od11, .func (PySem.W.fnOf "signs_of" "signs_of" (defArgs s_signs_of) (defBody s_signs_of) (defScope s_signs_of) .none kV11 dc11 pm11 an11 cd11 ct11), sl11⟩) (c11 : PySem.W.codeIn K cd11 "signs_of" = true) (k11 : PySem.W.keepIn K (.ref f11) = true)
    (a12 : PySem.W.nsIn K mainGlobals "picture_text" = some (some (.ref f12))) (l12 : K.lookup f12 = some ⟨oc12, od12, .func (PySem.W.fnOf "picture_text" "picture_text" (defArgs s_picture_text) (defBody s_picture_text) (defScope s_picture_text) .none kV12 dc12 pm12 an12 cd12 ct12), sl12⟩) (c12 : PySem.W.codeIn K cd12 "picture_text" = true) (k12 : PySem.W.keepIn K (.ref f12) = true)
    (a13 : PySem.W.nsIn K mainGlobals "law" = some (some (.ref f13))) (l13 : K.lookup f13 = some ⟨oc13, od13, .func (PySem.W.fnOf "law" "law" (defArgs s_law) (defBody s_law) (defScope s_law) .none kV13 dc13 pm13 an13 cd13 ct13), sl13⟩) (c13 : PySem.W.codeIn K cd13 "law" = true) (k13 : PySem.W.keepIn K (.ref f13) = true)
    (z0 : PySem.W.nsIn K mainGlobals "ValueError" = some none)
    (z1 : PySem.W.nsIn K mainGlobals "all" = some none)
    (z2 : PySem.W.nsIn K mainGlobals "any" = some none)
    (z3 : PySem.W.nsIn K mainGlobals "isinstance" = some none)
    (z4 : PySem.W.nsIn K mainGlobals "len" = some none)
    (z5 : PySem.W.nsIn K mainGlobals "list" = some none)
    (z6 : PySem.W.nsIn K mainGlobals "min" = some none)
    (z7 : PySem.W.nsIn K mainGlobals "range" = some none)
    (z8 : PySem.W.nsIn K mainGlobals "str" = some none)
    (z9 : PySem.W.nsIn K mainGlobals "tuple" = some none)
    (sp : PySem.W.specialIn K (.builtin "object.__class__") "__get__" = some (some (.builtin "getset_descriptor.__get__"))) (tk : PySem.W.takesIn K (.builtin "object.__class__") = some true)
    (q_Clash : PySem.W.nsIn K mainGlobals "Clash" = some (some (.ref C_Clash))) (cl_Clash : PySem.W.isClsIn K C_Clash = true) (ca_Clash : PySem.W.findIn K (.ref C_Clash) "__class__" = some (some (.builtin "object.__class__"))) (ob_Clash : PySem.W.mroIn K C_Clash (.type "object") = some true) (ga_Clash : PySem.W.findIn K (.ref C_Clash) "__getattribute__" = some (some (.builtin "BaseException.__getattribute__"))) (gh_Clash : PySem.W.findIn K (.ref C_Clash) "__getattr__" = some none) (be_Clash : PySem.W.mroIn K C_Clash (.type "BaseException") = some true) (ex_Clash : PySem.W.excIn K C_Clash bmVE "ValueError.__new__" = true) (ty_Clash : PySem.W.typeIn K (.ref C_Clash) = some (.type "type")) (sf_Clash : PySem.W.mroIn K C_Clash (.ref C_Clash) = some true)
    (q_GlowError : PySem.W.nsIn K mainGlobals "GlowError" = some (some (.ref C_GlowError))) (cl_GlowError : PySem.W.isClsIn K C_GlowError = true) (ca_GlowError : PySem.W.findIn K (.ref C_GlowError) "__class__" = some (some (.builtin "object.__class__"))) (ob_GlowError : PySem.W.mroIn K C_GlowError (.type "object") = some true) (ga_GlowError : PySem.W.findIn K (.ref C_GlowError) "__getattribute__" = some (some (.builtin "BaseException.__getattribute__"))) (gh_GlowError : PySem.W.findIn K (.ref C_GlowError) "__getattr__" = some none) (be_GlowError : PySem.W.mroIn K C_GlowError (.type "BaseException") = some true) (ex_GlowError : PySem.W.excIn K C_GlowError bmVE "ValueError.__new__" = true) (ty_GlowError : PySem.W.typeIn K (.ref C_GlowError) = some (.type "type")) (sf_GlowError : PySem.W.mroIn K C_GlowError (.ref C_GlowError) = some true)
    (q_NoDeed : PySem.W.nsIn K mainGlobals "NoDeed" = some (some (.ref C_NoDeed))) (cl_NoDeed : PySem.W.isClsIn K C_NoDeed = true) (ca_NoDeed : PySem.W.findIn K (.ref C_NoDeed) "__class__" = some (some (.builtin "object.__class__"))) (ob_NoDeed : PySem.W.mroIn K C_NoDeed (.type "object") = some true) (ga_NoDeed : PySem.W.findIn K (.ref C_NoDeed) "__getattribute__" = some (some (.builtin "BaseException.__getattribute__"))) (gh_NoDeed : PySem.W.findIn K (.ref C_NoDeed) "__getattr__" = some none) (be_NoDeed : PySem.W.mroIn K C_NoDeed (.type "BaseException") = some true) (ex_NoDeed : PySem.W.excIn K C_NoDeed bmVE "ValueError.__new__" = true) (ty_NoDeed : PySem.W.typeIn K (.ref C_NoDeed) = some (.type "type")) (sf_NoDeed : PySem.W.mroIn K C_NoDeed (.ref C_NoDeed) = some true)
    (q_NoFilm : PySem.W.nsIn K mainGlobals "NoFilm" = some (some (.ref C_NoFilm))) (cl_NoFilm : PySem.W.isClsIn K C_NoFilm = true) (ca_NoFilm : PySem.W.findIn K (.ref C_NoFilm) "__class__" = some (some (.builtin "object.__class__"))) (ob_NoFilm : PySem.W.mroIn K C_NoFilm (.type "object") = some true) (ga_NoFilm : PySem.W.findIn K (.ref C_NoFilm) "__getattribute__" = some (some (.builtin "BaseException.__getattribute__"))) (gh_NoFilm : PySem.W.findIn K (.ref C_NoFilm) "__getattr__" = some none) (be_NoFilm : PySem.W.mroIn K C_NoFilm (.type "BaseException") = some true) (ex_NoFilm : PySem.W.excIn K C_NoFilm bmVE "ValueError.__new__" = true) (ty_NoFilm : PySem.W.typeIn K (.ref C_NoFilm) = some (.type "type")) (sf_NoFilm : PySem.W.mroIn K C_NoFilm (.ref C_NoFilm) = some true)
    (q_NoFrame : PySem.W.nsIn K mainGlobals "NoFrame" = some (some (.ref C_NoFrame))) (cl_NoFrame : PySem.W.isClsIn K C_NoFrame = true) (ca_NoFrame : PySem.W.findIn K (.ref C_NoFrame) "__class__" = some (some (.builtin "object.__class__"))) (ob_NoFrame : PySem.W.mroIn K C_NoFrame (.type "object") = some true) (ga_NoFrame : PySem.W.findIn K (.ref C_NoFrame) "__getattribute__" = some (some (.builtin "BaseException.__getattribute__"))) (gh_NoFrame : PySem.W.findIn K (.ref C_NoFrame) "__getattr__" = some none) (be_NoFrame : PySem.W.mroIn K C_NoFrame (.type "BaseException") = some true) (ex_NoFrame : PySem.W.excIn K C_NoFrame bmVE "ValueError.__new__" = true) (ty_NoFrame : PySem.W.typeIn K (.ref C_NoFrame) = some (.type "type")) (sf_NoFrame : PySem.W.mroIn K C_NoFrame (.ref C_NoFrame) = some true)
    (q_NoRow : PySem.W.nsIn K mainGlobals "NoRow" = some (some (.ref C_NoRow))) (cl_NoRow : PySem.W.isClsIn K C_NoRow = true) (ca_NoRow : PySem.W.findIn K (.ref C_NoRow) "__class__" = some (some (.builtin "object.__class__"))) (ob_NoRow : PySem.W.mroIn K C_NoRow (.type "object") = some true) (ga_NoRow : PySem.W.findIn K (.ref C_NoRow) "__getattribute__" = some (some (.builtin "BaseException.__getattribute__"))) (gh_NoRow : PySem.W.findIn K (.ref C_NoRow) "__getattr__" = some none) (be_NoRow : PySem.W.mroIn K C_NoRow (.type "BaseException") = some true) (ex_NoRow : PySem.W.excIn K C_NoRow bmVE "ValueError.__new__" = true) (ty_NoRow : PySem.W.typeIn K (.ref C_NoRow) = some (.type "type")) (sf_NoRow : PySem.W.mroIn K C_NoRow (.ref C_NoRow) = some true)
    (q_NoScore : PySem.W.nsIn K mainGlobals "NoScore" = some (some (.ref C_NoScore))) (cl_NoScore : PySem.W.isClsIn K C_NoScore = true) (ca_NoScore : PySem.W.findIn K (.ref C_NoScore) "__class__" = some (some (.builtin "object.__class__"))) (ob_NoScore : PySem.W.mroIn K C_NoScore (.type "object") = some true) (ga_NoScore : PySem.W.findIn K (.ref C_NoScore) "__getattribute__" = some (some (.builtin "BaseException.__getattribute__"))) (gh_NoScore : PySem.W.findIn K (.ref C_NoScore) "__getattr__" = some none) (be_NoScore : PySem.W.mroIn K C_NoScore (.type "BaseException") = some true) (ex_NoScore : PySem.W.excIn K C_NoScore bmVE "ValueError.__new__" = true) (ty_NoScore : PySem.W.typeIn K (.ref C_NoScore) = some (.type "type")) (sf_NoScore : PySem.W.mroIn K C_NoScore (.ref C_NoScore) = some true)
    (q_NoStand : PySem.W.nsIn K mainGlobals "NoStand" = some (some (.ref C_NoStand))) (cl_NoStand : PySem.W.isClsIn K C_NoStand = true) (ca_NoStand : PySem.W.findIn K (.ref C_NoStand) "__class__" = some (some (.builtin "object.__class__"))) (ob_NoStand : PySem.W.mroIn K C_NoStand (.type "object") = some true) (ga_NoStand : PySem.W.findIn K (.ref C_NoStand) "__getattribute__" = some (some (.builtin "BaseException.__getattribute__"))) (gh_NoStand : PySem.W.findIn K (.ref C_NoStand) "__getattr__" = some none) (be_NoStand : PySem.W.mroIn K C_NoStand (.type "BaseException") = some true) (ex_NoStand : PySem.W.excIn K C_NoStand bmVE "ValueError.__new__" = true) (ty_NoStand : PySem.W.typeIn K (.ref C_NoStand) = some (.type "type")) (sf_NoStand : PySem.W.mroIn K C_NoStand (.ref C_NoStand) = some true)
    (q_NoText : PySem.W.nsIn K mainGlobals "NoText" = some (some (.ref C_NoText))) (cl_NoText : PySem.W.isClsIn K C_NoText = true) (ca_NoText : PySem.W.findIn K (.ref C_NoText) "__class__" = some (some (.builtin "object.__class__"))) (ob_NoText : PySem.W.mroIn K C_NoText (.type "object") = some true) (ga_NoText : PySem.W.findIn K (.ref C_NoText) "__getattribute__" = some (some (.builtin "BaseException.__getattribute__"))) (gh_NoText : PySem.W.findIn K (.ref C_NoText) "__getattr__" = some none) (be_NoText : PySem.W.mroIn K C_NoText (.type "BaseException") = some true) (ex_NoText : PySem.W.excIn K C_NoText bmVE "ValueError.__new__" = true) (ty_NoText : PySem.W.typeIn K (.ref C_NoText) = some (.type "type")) (sf_NoText : PySem.W.mroIn K C_NoText (.ref C_NoText) = some true)
    (q_NoTick : PySem.W.nsIn K mainGlobals "NoTick" = some (some (.ref C_NoTick))) (cl_NoTick : PySem.W.isClsIn K C_NoTick = true) (ca_NoTick : PySem.W.findIn K (.ref C_NoTick) "__class__" = some (some (.builtin "object.__class__"))) (ob_NoTick : PySem.W.mroIn K C_NoTick (.type "object") = some true) (ga_NoTick : PySem.W.findIn K (.ref C_NoTick) "__getattribute__" = some (some (.builtin "BaseException.__getattribute__"))) (gh_NoTick : PySem.W.findIn K (.ref C_NoTick) "__getattr__" = some none) (be_NoTick : PySem.W.mroIn K C_NoTick (.type "BaseException") = some true) (ex_NoTick : PySem.W.excIn K C_NoTick bmVE "ValueError.__new__" = true) (ty_NoTick : PySem.W.typeIn K (.ref C_NoTick) = some (.type "type")) (sf_NoTick : PySem.W.mroIn K C_NoTick (.ref C_NoTick) = some true)
    (q_Over : PySem.W.nsIn K mainGlobals "Over" = some (some (.ref C_Over))) (cl_Over : PySem.W.isClsIn K C_Over = true) (ca_Over : PySem.W.findIn K (.ref C_Over) "__class__" = some (some (.builtin "object.__class__"))) (ob_Over : PySem.W.mroIn K C_Over (.type "object") = some true) (ga_Over : PySem.W.findIn K (.ref C_Over) "__getattribute__" = some (some (.builtin "BaseException.__getattribute__"))) (gh_Over : PySem.W.findIn K (.ref C_Over) "__getattr__" = some none) (be_Over : PySem.W.mroIn K C_Over (.type "BaseException") = some true) (ex_Over : PySem.W.excIn K C_Over bmVE "ValueError.__new__" = true) (ty_Over : PySem.W.typeIn K (.ref C_Over) = some (.type "type")) (sf_Over : PySem.W.mroIn K C_Over (.ref C_Over) = some true)
    (m_NoText_Clash : PySem.W.mroIn K C_NoText (.ref C_Clash) = some false)
    (m_NoText_GlowError : PySem.W.mroIn K C_NoText (.ref C_GlowError) = some true)
    (m_NoText_NoDeed : PySem.W.mroIn K C_NoText (.ref C_NoDeed) = some false)
    (m_NoText_NoFilm : PySem.W.mroIn K C_NoText (.ref C_NoFilm) = some false)
    (m_NoText_NoFrame : PySem.W.mroIn K C_NoText (.ref C_NoFrame) = some false)
    (m_NoText_NoRow : PySem.W.mroIn K C_NoText (.ref C_NoRow) = some false)
    (m_NoText_NoScore : PySem.W.mroIn K C_NoText (.ref C_NoScore) = some false)
    (m_NoText_NoStand : PySem.W.mroIn K C_NoText (.ref C_NoStand) = some false)
    (m_NoText_NoText : PySem.W.mroIn K C_NoText (.ref C_NoText) = some true)
    (m_NoText_NoTick : PySem.W.mroIn K C_NoText (.ref C_NoTick) = some false)
    (m_NoText_Over : PySem.W.mroIn K C_NoText (.ref C_Over) = some false)
    (m_NoText_ValueError : PySem.W.mroIn K C_NoText (.type "ValueError") = some true)
    (v_SIGNS : PySem.W.nsIn K mainGlobals "SIGNS" = some (some (.str "0123456789abcdefghijklmnopqrstuvwxyzABCDEFGHIJKLMNOPQRSTUVWXYZ+-" tk_SIGNS))) :
    ∃ fd : FuncData, (∀ (s : Shared) (v : Value), BindsTo s fd ⟨[v], []⟩ [("script", v)]) ∧ ∀ base : Heap, K.In base → base.Ns mainGlobals mg → FnOk l.prog w K mg base (CXd l.prog w) 4 fa fd ["script"] (spD K 1 F_law) := by
  have e := hfa.symm.trans (PySem.W.mg_of X G a13)
  cases e
  let ad : Ad := ⟨f0, PySem.W.fnOf "_law_draw" "_law_draw" (defArgs s__law_draw) (defBody s__law_draw) (defScope s__law_draw) .none kV0 dc0 pm0 an0 cd0 ct0, f1, PySem.W.fnOf "_law_size" "_law_size" (defArgs s__law_size) (defBody s__law_size) (defScope s__law_size) .none kV1 dc1 pm1 an1 cd1 ct1, f2, PySem.W.fnOf "_law_turned" "_law_turned" (defArgs s__law_turned) (defBody s__law_turned) (defScope s__law_turned) .none kV2 dc2 pm2 an2 cd2 ct2, f3, PySem.W.fnOf "_law_bent" "_law_bent" (defArgs s__law_bent) (defBody s__law_bent) (defScope s__law_bent) .none kV3 dc3 pm3 an3 cd3 ct3, f4, PySem.W.fnOf "_law_word" "_law_word" (defArgs s__law_word) (defBody s__law_word) (defScope s__law_word) .none kV4 dc4 pm4 an4 cd4 ct4, f5, PySem.W.fnOf "read_signs" "read_signs" (defArgs s_read_signs) (defBody s_read_signs) (defScope s_read_signs) .none kV5 dc5 pm5 an5 cd5 ct5, f6, PySem.W.fnOf "read_picture" "read_picture" (defArgs s_read_picture) (defBody s_read_picture) (defScope s_read_picture) .none kV6 dc6 pm6 an6 cd6 ct6, f7, PySem.W.fnOf "_law_read" "_law_read" (defArgs s__law_read) (defBody s__law_read) (defScope s__law_read) .none kV7 dc7 pm7 an7 cd7 ct7, f8, PySem.W.fnOf "_law_inks_read" "_law_inks_read" (defArgs s__law_inks_read) (defBody s__law_inks_read) (defScope s__law_inks_read) .none kV8 dc8 pm8 an8 cd8 ct8, f9, PySem.W.fnOf "_law_due" "_law_due" (defArgs s__law_due) (defBody s__law_due) (defScope s__law_due) .none kV9 dc9 pm9 an9 cd9 ct9, f10, PySem.W.fnOf "_law_signs" "_law_signs" (defArgs s__law_signs) (defBody s__law_signs) (defScope s__law_signs) .none kV10 dc10 pm10 an10 cd10 ct10, f11, PySem.W.fnOf "signs_of" "signs_of" (defArgs s_signs_of) (defBody s_signs_of) (defScope s_signs_of) .none kV11 dc11 pm11 an11 cd11 ct11, f12, PySem.W.fnOf "picture_text" "picture_text" (defArgs s_picture_text) (defBody s_picture_text) (defScope s_picture_text) .none kV12 dc12 pm12 an12 cd12 ct12, fa, PySem.W.fnOf "law" "law" (defArgs s_law) (defBody s_law) (defScope s_law) .none kV13 dc13 pm13 an13 cd13 ct13, C_Clash, C_GlowError, C_NoDeed, C_NoFilm, C_NoFrame, C_NoRow, C_NoScore, C_NoStand, C_NoText, C_NoTick, C_Over⟩
  have T : Tx K mg ad := ⟨⟨fun_mk (st := s__law_draw) l0 c0 k0, PySem.W.mg_of X G a0, (fun_mk (st := s__law_draw) l0 c0 k0).binds fun _ _ _ _ _ _ us hl => match us, hl with | [_, _], _ => rfl⟩,
    ⟨fun_mk (st := s__law_size) l1 c1 k1, PySem.W.mg_of X G a1, (fun_mk (st := s__law_size) l1 c1 k1).binds fun _ _ _ _ _ _ us hl => match us, hl with | [_, _], _ => rfl⟩,
    ⟨fun_mk (st := s__law_turned) l2 c2 k2, PySem.W.mg_of X G a2, (fun_mk (st := s__law_turned) l2 c2 k2).binds fun _ _ _ _ _ _ us hl => match us, hl with | [_, _, _, _], _ => rfl⟩,
    ⟨fun_mk (st := s__law_bent) l3 c3 k3, PySem.W.mg_of X G a3, (fun_mk (st := s__law_bent) l3 c3 k3).binds fun _ _ _ _ _ _ us hl => match us, hl with | [_, _], _ => rfl⟩,
    ⟨fun_mk (st := s__law_word) l4 c4 k4, PySem.W.mg_of X G a4, (fun_mk (st := s__law_word) l4 c4 k4).binds fun _ _ _ _ _ _ us hl => match us, hl with | [_], _ => rfl⟩,
    ⟨fun_mk (st := s_read_signs) l5 c5 k5, PySem.W.mg_of X G a5, (fun_mk (st := s_read_signs) l5 c5 k5).binds fun _ _ _ _ _ _ us hl => match us, hl with | [_], _ => rfl⟩,
    ⟨fun_mk (st := s_read_picture) l6 c6 k6, PySem.W.mg_of X G a6, (fun_mk (st := s_read_picture) l6 c6 k6).binds fun _ _ _ _ _ _ us hl => match us, hl with | [_], _ => rfl⟩,
    ⟨fun_mk (st := s__law_read) l7 c7 k7, PySem.W.mg_of X G a7, (fun_mk (st := s__law_read) l7 c7 k7).binds fun _ _ _ _ _ _ us hl => match us, hl with | [_], _ => rfl⟩,
    ⟨fun_mk (st := s__law_inks_read) l8 c8 k8, PySem.W.mg_of X G a8, (fun_mk (st := s__law_inks_read) l8 c8 k8).binds fun _ _ _ _ _ _ us hl => match us, hl with | [_], _ => rfl⟩,
    ⟨fun_mk (st := s__law_due) l9 c9 k9, PySem.W.mg_of X G a9, (fun_mk (st := s__law_due) l9 c9 k9).binds fun _ _ _ _ _ _ us hl => match us, hl with | [_], _ => rfl⟩,
    ⟨fun_mk (st := s__law_signs) l10 c10 k10, PySem.W.mg_of X G a10, (fun_mk (st := s__law_signs) l10 c10 k10).binds fun _ _ _ _ _ _ us hl => match us, hl with | [_], _ => rfl⟩,
    ⟨fun_mk (st := s_signs_of) l11 c11 k11, PySem.W.mg_of X G a11, (fun_mk (st := s_signs_of) l11 c11 k11).binds fun _ _ _ _ _ _ us hl => match us, hl with | [_], _ => rfl⟩,
    ⟨fun_mk (st := s_picture_text) l12 c12 k12, PySem.W.mg_of X G a12, (fun_mk (st := s_picture_text) l12 c12 k12).binds fun _ _ _ _ _ _ us hl => match us, hl with | [_], _ => rfl⟩,
    ⟨fun_mk (st := s_law) l13 c13 k13, PySem.W.mg_of X G a13, (fun_mk (st := s_law) l13 c13 k13).binds fun _ _ _ _ _ _ us hl => match us, hl with | [_], _ => rfl⟩,
    PySem.W.mg_none_of X G z0,
    PySem.W.mg_none_of X G z1,
    PySem.W.mg_none_of X G z2,
    PySem.W.mg_none_of X G z3,
    PySem.W.mg_none_of X G z4,
    PySem.W.mg_none_of X G z5,
    PySem.W.mg_none_of X G z6,
    PySem.W.mg_none_of X G z7,
    PySem.W.mg_none_of X G z8,
    PySem.W.mg_none_of X G z9,
    ⟨q_Clash, PySem.W.mg_of X G q_Clash, ⟨cl_Clash, ca_Clash, sp, tk, ob_Clash, ga_Clash, gh_Clash, be_Clash⟩, ex_Clash, ty_Clash, sf_Clash⟩,
    ⟨q_GlowError, PySem.W.mg_of X G q_GlowError, ⟨cl_GlowError, ca_GlowError, sp, tk, ob_GlowError, ga_GlowError, gh_GlowError, be_GlowError⟩, ex_GlowError, ty_GlowError, sf_GlowError⟩,
    ⟨q_NoDeed, PySem.W.mg_of X G q_NoDeed, ⟨cl_NoDeed, ca_NoDeed, sp, tk, ob_NoDeed, ga_NoDeed, gh_NoDeed, be_NoDeed⟩, ex_NoDeed, ty_NoDeed, sf_NoDeed⟩,
    ⟨q_NoFilm, PySem.W.mg_of X G q_NoFilm, ⟨cl_NoFilm, ca_NoFilm, sp, tk, ob_NoFilm, ga_NoFilm, gh_NoFilm, be_NoFilm⟩, ex_NoFilm, ty_NoFilm, sf_NoFilm⟩,
    ⟨q_NoFrame, PySem.W.mg_of X G q_NoFrame, ⟨cl_NoFrame, ca_NoFrame, sp, tk, ob_NoFrame, ga_NoFrame, gh_NoFrame, be_NoFrame⟩, ex_NoFrame, ty_NoFrame, sf_NoFrame⟩,
    ⟨q_NoRow, PySem.W.mg_of X G q_NoRow, ⟨cl_NoRow, ca_NoRow, sp, tk, ob_NoRow, ga_NoRow, gh_NoRow, be_NoRow⟩, ex_NoRow, ty_NoRow, sf_NoRow⟩,
    ⟨q_NoScore, PySem.W.mg_of X G q_NoScore, ⟨cl_NoScore, ca_NoScore, sp, tk, ob_NoScore, ga_NoScore, gh_NoScore, be_NoScore⟩, ex_NoScore, ty_NoScore, sf_NoScore⟩,
    ⟨q_NoStand, PySem.W.mg_of X G q_NoStand, ⟨cl_NoStand, ca_NoStand, sp, tk, ob_NoStand, ga_NoStand, gh_NoStand, be_NoStand⟩, ex_NoStand, ty_NoStand, sf_NoStand⟩,
    ⟨q_NoText, PySem.W.mg_of X G q_NoText, ⟨cl_NoText, ca_NoText, sp, tk, ob_NoText, ga_NoText, gh_NoText, be_NoText⟩, ex_NoText, ty_NoText, sf_NoText⟩,
    ⟨q_NoTick, PySem.W.mg_of X G q_NoTick, ⟨cl_NoTick, ca_NoTick, sp, tk, ob_NoTick, ga_NoTick, gh_NoTick, be_NoTick⟩, ex_NoTick, ty_NoTick, sf_NoTick⟩,
    ⟨q_Over, PySem.W.mg_of X G q_Over, ⟨cl_Over, ca_Over, sp, tk, ob_Over, ga_Over, gh_Over, be_Over⟩, ex_Over, ty_Over, sf_Over⟩,
    m_NoText_Clash,
    m_NoText_GlowError,
    m_NoText_NoDeed,
    m_NoText_NoFilm,
    m_NoText_NoFrame,
    m_NoText_NoRow,
    m_NoText_NoScore,
    m_NoText_NoStand,
    m_NoText_NoText,
    m_NoText_NoTick,
    m_NoText_Over,
    m_NoText_ValueError,
    ⟨_, PySem.W.mg_of X G v_SIGNS⟩⟩
  exact ⟨ad.d_law, fun s v => .of_eq rfl, fun base _ _ => ok_law T⟩
end K21

set_option Elab.async false
set_option linter.all false
set_option maxRecDepth 100000
set_option maxHeartbeats 4000000
set_option autoImplicit false
namespace K21
open PySem PySem.Spec PyProof.Rows L2 DL
local macro_rules | `(tactic| simp_arith [$args,*] $[$loc]?) => `(tactic| simp [sSeq, sSet, sIf, sRet, sSub, sDrop, sNext, sAsg, gVar, gC, DL.g2, gCall, gBlt, DL.gCons, DL.gNil, gTst, asB, gTru, truD, gOrT, gAndT, gNotT, gAnd, gOr, gNot, gIfE, DL.gTup, gLst, gMut, mkTup, mkLst, mkMut, gNeg, gRev, gCh, gIsi, tyD, subT, retOf, runD, rho0, setD, addD, subD, mulD, fdivD, modD, powD, ltD, leD, gtD, geD, ixD, itemsOf, lenF, minF, maxF, intF, listF, tupleF, allF, gIts, itsOf, gRng1, gRng2, oneN, tupN, manyN, gPart, gNoPart, gSl, sliceD, inOp, flatD, isOp, isP, gAll, sRaise, gIsx, okL, divF, gFmt, fmtD, joinG, gMeth, countF, indexF, lstOf, appD, gApp, addM, listM, sTry, unb, tyM, mlOf, objOf, gFld, setF, sFldD, gMth, gMake, putFD, sAug, augI, gClr, gPopL, sliceM, gSlM, tupG, manyG, gEnum, enOf, sPar, sSlc, slcGo, setSlD, gDix, gMinK, minK, exD, maxF1, gMethS, findF, indexSF, splitF, splitM, joinF, ixA, inA, gItsA, itsA, listA, listMA, gMM, lsM, $args,*] $[$loc]?)
/-! the tape -/
def tp (l : List Int) (i c : Int) : MO := .lst [.lst (l.map D.int), .int i, .int c]
/-- the tape lies first, the rest stays -/
def Tape (l : List Int) (rest : Mem) (M : Mem) : Prop := ∃ i c, 0 ≤ i ∧ M = tp l i c :: rest
def mixI (v i : Int) : Int :=
  ((((v + 1000003 * i) % 2305843009213693951 * ((v + 1000003 * i) % 2305843009213693951) + 1181783497276652981 * ((v + 1000003 * i) % 2305843009213693951) + 2049848353892358983) % 2305843009213693951) *
    (((v + 1000003 * i) % 2305843009213693951 * ((v + 1000003 * i) % 2305843009213693951) + 1181783497276652981 * ((v + 1000003 * i) % 2305843009213693951) + 2049848353892358983) % 2305843009213693951) + 1442695040888963407) % 2305843009213693951
theorem atI_ints {l : List Int} {k : Int} (h0 : 0 ≤ k) (h1 : k < l.length) : ∃ v, atI (l.map D.int) k = some (.int v) := by
  obtain ⟨n, rfl⟩ := Int.eq_ofNat_of_zero_le h0
  have hn : n < l.length := by omega
  exact ⟨l[n], atI_nat (by simp [hn])⟩
set_option maxRecDepth 100000 in
theorem draw_ok {l : List Int} {rest M : Mem} {many : Int} (hm : 0 < many) (hlog : many.natAbs.log2 < 9000) (h : Tape l rest M) :
    ∃ f M', 0 ≤ f ∧ f < many ∧ Tape l rest M' ∧ F__law_draw [.mr 0, .int many] M = .ok (.int f) M' := by
  obtain ⟨i, c, hi, rfl⟩ := h
  have hp : (0 : Int) < 2305843009213693951 := by decide
  have fin : ∀ c' i', 0 ≤ i' → ∃ f M', 0 ≤ f ∧ f < many ∧ Tape l rest M' ∧ (Out.ok (D.int (c' % many)) (tp l i' (c' / many) :: rest) : Out D) = .ok (.int f) M' := fun c' i' hi' =>
    ⟨c' % many, _, Int.emod_nonneg _ (by omega), Int.emod_lt_of_pos _ hm, ⟨i', c' / many, hi', rfl⟩, rfl⟩
  have i0 : ixN 3 0 = some 0 := by decide
  have i1 : ixN 3 1 = some 1 := by decide
  have i2 : ixN 3 2 = some 2 := by decide
  have a0 : ∀ x y z : D, atI [x, y, z] 0 = some x := fun _ _ _ => rfl
  have a1 : ∀ x y z : D, atI [x, y, z] 1 = some y := fun _ _ _ => rfl
  have a2 : ∀ x y z : D, atI [x, y, z] 2 = some z := fun _ _ _ => rfl
  have b1 : ∀ x : Int, -18446744073709551616 < x % 2305843009213693951 ∧ x % 2305843009213693951 < 18446744073709551616 := fun x => by
    have h0 := Int.emod_nonneg x (show (2305843009213693951 : Int) ≠ 0 by decide)
    have h1 := Int.emod_lt_of_pos x hp
    omega
  by_cases h1 : c < many
  · by_cases hl : l = []
    · subst hl
      have e : F__law_draw [.mr 0, .int many] (tp [] i c :: rest) = .ok (.int (mixI 0 i % many)) (tp [] (i + 1) (mixI 0 i / many) :: rest) := by
        unfold F__law_draw g__law_draw
        simp_arith [mixI, tp, a0, a1, a2, i0, i1, i2, h1, hm, hlog, hi, b1]
      rw [e]; exact fin _ _ (by omega)
    · have hl0 : 0 < l.length := List.length_pos_iff.mpr hl
      obtain ⟨v, hv⟩ := atI_ints (l := l) (k := i % l.length) (Int.emod_nonneg _ (by omega)) (Int.emod_lt_of_pos _ (by omega))
      by_cases h2 : (l.length : Int) ≤ i ∨ v < 1000000000000000000
      · have e : F__law_draw [.mr 0, .int many] (tp l i c :: rest) = .ok (.int (mixI v i % many)) (tp l (i + 1) (mixI v i / many) :: rest) := by
          unfold F__law_draw g__law_draw
          rcases h2 with h2 | h2
          · simp_arith [mixI, tp, a0, a1, a2, i0, i1, i2, h1, h2, hm, hlog, hi, b1, hl0, hv]
          · by_cases h3 : (l.length : Int) ≤ i
            · simp_arith [mixI, tp, a0, a1, a2, i0, i1, i2, h1, h2, h3, hm, hlog, hi, b1, hl0, hv]
            · simp_arith [mixI, tp, a0, a1, a2, i0, i1, i2, h1, h2, h3, hm, hlog, hi, b1, hl0, hv]
        rw [e]; exact fin _ _ (by omega)
      · have h3 : ¬ (l.length : Int) ≤ i := fun z => h2 (.inl z)
        have h4 : ¬ v < 1000000000000000000 := fun z => h2 (.inr z)
        have e : F__law_draw [.mr 0, .int many] (tp l i c :: rest) = .ok (.int (v % many)) (tp l (i + 1) (v / many) :: rest) := by
          unfold F__law_draw g__law_draw
          simp_arith [tp, a0, a1, a2, i0, i1, i2, h1, h3, h4, hm, hlog, hi, b1, hl0, hv]
        rw [e]; exact fin _ _ (by omega)
  · have e : F__law_draw [.mr 0, .int many] (tp l i c :: rest) = .ok (.int (c % many)) (tp l i (c / many) :: rest) := by
      unfold F__law_draw g__law_draw
      simp_arith [tp, a0, a1, a2, i0, i1, i2, h1, hm, hlog]
    rw [e]; exact fin _ _ hi
theorem log_small {x : Int} (h0 : 0 < x) (h1 : x ≤ 1000000) : x.natAbs.log2 < 9000 := by
  have h2 : x.natAbs < 2 ^ 20 := by omega
  have h3 : x.natAbs ≠ 0 := by omega
  have := (Nat.log2_lt h3).mpr h2
  omega
theorem size_ok {l : List Int} {rest M : Mem} {most : Int} (hm : 1 ≤ most) (hm2 : most ≤ 1000) (h : Tape l rest M) :
    ∃ f M', 1 ≤ f ∧ f ≤ most ∧ Tape l rest M' ∧ F__law_size [.mr 0, .int most] M = .ok (.int f) M' := by
  have lg : ∀ x : Int, 0 < x → x ≤ 1000 → x.natAbs.log2 < 9000 := fun x h0 h1 => by
    have h2 : x.natAbs < 2 ^ 10 := by omega
    have h3 : x.natAbs ≠ 0 := by omega
    have := (Nat.log2_lt h3).mpr h2
    omega
  have hmin : 0 < (if 6 < most then 6 else most) ∧ (if 6 < most then 6 else most) ≤ most ∧ (if 6 < most then (6 : Int) else most) ≤ 1000 := by split <;> omega
  obtain ⟨f1, M1, a1, b1, t1, e1⟩ := draw_ok hmin.1 (lg _ hmin.1 hmin.2.2) h
  obtain ⟨f2, M2, a2, b2, t2, e2⟩ := draw_ok (many := most) (by omega) (lg _ (by omega) hm2) t1
  obtain ⟨f3, M3, a3, b3, t3, e3⟩ := draw_ok (many := 8) (by decide) (lg _ (by decide) (by decide)) t2
  have l3 : (3 : Nat) ≤ sizeLine := le_line (by decide)
  have hix : 0 ≤ f3 * 3 / 10 ∧ f3 * 3 / 10 < 3 := by omega
  have c3 : Nat.log2 10 < 9000 := by decide
  have c4 : -18446744073709551616 < f3 ∧ f3 < 18446744073709551616 := by omega
  have pick : ∃ f, 1 ≤ f ∧ f ≤ most ∧ ∃ y, f = 1 + y ∧ atI [D.int f1, D.int f2, D.int (most - 1)] (f3 * 3 / 10) = some (.int y) := by
    have : f3 * 3 / 10 = 0 ∨ f3 * 3 / 10 = 1 ∨ f3 * 3 / 10 = 2 := by omega
    rcases this with q | q | q <;> rw [q]
    · exact ⟨1 + f1, by omega, by omega, f1, rfl, rfl⟩
    · exact ⟨1 + f2, by omega, by omega, f2, rfl, rfl⟩
    · exact ⟨1 + (most - 1), by omega, by omega, most - 1, rfl, rfl⟩
  obtain ⟨f, hf1, hf2, y, ey, ha⟩ := pick
  refine ⟨f, M3, hf1, hf2, t3, ?_⟩
  unfold F__law_size g__law_size
  simp_arith [e1, e2, e3, l3, c3, c4, ha, ey]
/-! numbers as signs -/
def sgn : Str := "0123456789abcdefghijklmnopqrstuvwxyzABCDEFGHIJKLMNOPQRSTUVWXYZ+-"
theorem sgn_len : sgn.cps.toList.length = 64 := by decide +kernel
def sg1 (k : Int) : Str := ⟨#[sgn.cps.toList.getD k.toNat 0]⟩
theorem sgn_at {k : Int} (h0 : 0 ≤ k) (h1 : k < 64) : atI sgn.cps.toList k = some (sgn.cps.toList.getD k.toNat 0) := by
  obtain ⟨n, rfl⟩ := Int.eq_ofNat_of_zero_le h0
  have hn : n < sgn.cps.toList.length := by rw [sgn_len]; omega
  refine atI_nat ?_
  rw [Int.toNat_natCast, List.getD, List.getElem?_eq_getElem hn]; rfl
theorem sgn_short : sgn.length ≤ sizeLine := by
  have : sgn.length = 64 := by decide +kernel
  rw [this]; exact le_line (by decide)
theorem strsO_map {α : Type} (f : α → Str) : ∀ xs : List α, strsO (xs.map fun x => D.str (f x)) = some (xs.map f)
  | [] => rfl
  | x :: xs => by
    show (strsO (xs.map fun x => D.str (f x))).map (f x :: ·) = _
    rw [strsO_map f xs]; rfl
theorem join_few {sep : Str} {ys : List Str} {n : Nat} (hy : ∀ y ∈ ys, y.length ≤ n) (h : ys.length * n + ys.length * sep.length ≤ 16777216) : JoinOk sep ys = true := by
  unfold JoinOk
  rw [StrLaws.joinFits hy h]; rfl
def numText (ks : List Int) : Str := Txt.join "" (ks.map sg1)
theorem sg1_len (k : Int) : (sg1 k).length = 1 := rfl
theorem ixA_sgn {k : Int} {M : Mem} (h0 : 0 ≤ k) (h1 : k < 64) : ixA (.str sgn) (.int k) M = .ok (.str (sg1 k)) M := by
  have e := sgn_at h0 h1
  unfold ixA
  dsimp only
  rw [if_pos sgn_short, e]; rfl
theorem numText_ok {ks : List Int} (hk : ∀ k ∈ ks, 0 ≤ k ∧ k < 64) (hl : ks.length ≤ 1000) : JoinOk "" (ks.map sg1) = true := by
  refine join_few (n := 1) (fun y hy => ?_) ?_
  · obtain ⟨k, _, rfl⟩ := List.mem_map.mp hy
    exact Nat.le_of_eq (sg1_len k)
  · have : ("" : Str).length = 0 := by decide +kernel
    rw [this, List.length_map]; omega
theorem signsp_ok {ks : List Int} {M : Mem} (hk : ∀ k ∈ ks, 0 ≤ k ∧ k < 64) (hl : ks.length ≤ 1000) : F_signs_of [.lst (ks.map D.int)] M = .ok (.str (numText ks)) M := by
  have c := comp_map (ds0 := ks.map D.int) (ge := e1_signs_of) (ρ := [some (.lst (ks.map D.int))]) (f := fun d => match d with | .int k => .str (sg1 k) | d => d) (M := M) (ks.map D.int) fun d hd => by
    obtain ⟨k, hk', rfl⟩ := List.mem_map.mp hd
    have e := ixA_sgn (M := M) (hk k hk').1 (hk k hk').2
    unfold sgn at e
    show g2 ixA _ _ _ _ = _
    unfold DL.g2 gC gVar
    exact e
  rw [List.map_map] at c
  have ec : (List.map ((fun d => match d with | .int k => D.str (sg1 k) | d => d) ∘ D.int) ks) = ks.map fun k => D.str (sg1 k) := List.map_congr_left fun _ _ => rfl
  rw [ec] at c
  have l1 : ks.length ≤ sizeLine := le_line (by omega)
  have s1 := strsO_map sg1 ks
  have j1 := numText_ok hk hl
  unfold F_signs_of g_signs_of numText
  simp [gComp, c, l1, s1, j1, sRet, gMethS, joinF, gC, gItsA, itsA, itsOf, gVar, runD, rho0, retOf, mkLst, lstOf, DL.bind_ok]
theorem signsl_ok {ks : List Int} {M : Mem} (hk : ∀ k ∈ ks, 0 ≤ k ∧ k < 64) (hl : ks.length ≤ 1000) : F__law_signs [.lst (ks.map D.int)] M = .ok (.str (numText ks)) M := by
  have c := comp_map (ds0 := ks.map D.int) (ge := e1__law_signs) (ρ := [some (.lst (ks.map D.int)), some (.str sgn)]) (f := fun d => match d with | .int k => .str (sg1 k) | d => d) (M := M) (ks.map D.int) fun d hd => by
    obtain ⟨k, hk', rfl⟩ := List.mem_map.mp hd
    have e := ixA_sgn (M := M) (hk k hk').1 (hk k hk').2
    show g2 ixA _ _ _ _ = _
    unfold DL.g2 gVar
    exact e
  rw [List.map_map] at c
  have ec : (List.map ((fun d => match d with | .int k => D.str (sg1 k) | d => d) ∘ D.int) ks) = ks.map fun k => D.str (sg1 k) := List.map_congr_left fun _ _ => rfl
  rw [ec] at c
  have l1 : ks.length ≤ sizeLine := le_line (by omega)
  have s1 := strsO_map sg1 ks
  have j1 := numText_ok hk hl
  unfold sgn at c
  unfold F__law_signs g__law_signs numText
  simp [gComp, c, l1, s1, j1, sSeq, sSet, sRet, gMethS, joinF, gC, gItsA, itsA, itsOf, gVar, runD, rho0, retOf, mkLst, lstOf, DL.bind_ok]
/-! signs read -/
def findS (c : Nat) : Int := Txt.find sgn ⟨#[c]⟩
def readNums (x : Str) : List Int := x.cps.toList.map findS
theorem any_neg (ks : List Int) : ((ks.map D.int).any fun y => eqB y (.int (-1))) = ks.any (· == -1) := by
  rw [List.any_map]; rfl
theorem flat_ints : ∀ ks : List Int, (ks.map D.int).all flatD = true
  | [] => rfl
  | k :: ks => by rw [List.map_cons, List.all_cons, flat_ints ks]; rfl
theorem readp_ok {x : Str} {M : Mem} (hx : x.cps.size ≤ 100000) :
    F_read_signs [.str x] M = if (readNums x).any (· == -1) then .err "NoText" M else .ok (.lst ((readNums x).map D.int)) M := by
  have c := comp_map (ds0 := signsD x) (ge := e1_read_signs) (ρ := [some (.str x), none]) (f := fun d => match d with | .str ⟨cs⟩ => .int (Txt.find sgn ⟨cs⟩) | d => d) (M := M) (signsD x) fun d hd => by
    obtain ⟨n, _, rfl⟩ := List.mem_map.mp hd
    rfl
  have ec : (signsD x).map (fun d => match d with | .str ⟨cs⟩ => .int (Txt.find sgn ⟨cs⟩) | d => d) = (readNums x).map D.int := by
    unfold signsD readNums
    rw [List.map_map, List.map_map]
    exact List.map_congr_left fun _ _ => rfl
  rw [ec] at c
  have l0 : (readNums x).length = x.cps.size := by simp [readNums]
  have l1 : (readNums x).length ≤ sizeLine := by rw [l0]; exact le_line (by omega)
  have f1 := flat_ints (readNums x)
  have a1 := any_neg (readNums x)
  have i1 : inA (.int (-1)) (.lst ((readNums x).map D.int)) M = .ok (.bl ((readNums x).any (· == -1))) M := by
    unfold inA
    dsimp only
    unfold inOp
    show (if flatD (.int (-1)) && ((readNums x).map D.int).all flatD then Out.ok (D.bl ((((readNums x).map D.int).any fun y => eqB y (.int (-1))) != false)) M else .bad) = _
    rw [f1, a1]
    simp [flatD]
  generalize (readNums x).any (· == -1) = b at i1 ⊢
  unfold F_read_signs g_read_signs
  cases b <;> simp [gComp, c, l1, i1, sSeq, sSet, sIf, sRet, sNext, sRaise, gTst, asB, DL.g2, gNeg, gC, gItsA, itsA, gVar, runD, rho0, retOf, mkLst, DL.bind_ok]
/-! rows read -/
def badRow (r : Str) : Bool := (readNums r).any (· == -1)
def rowD (r : Str) : D := .lst ((readNums r).map D.int)
theorem rowsE_ok {ds0 : List D} {ρ : Rho} {M : Mem} : ∀ rows : List Str, (∀ r ∈ rows, r.cps.size ≤ 100000) →
    compGoE ⟨ds0, none⟩ 1 (oneN 0) gAll e1_read_picture (rows.map D.str) ρ M = if rows.any badRow then .err "NoText" M else .ok (rows.map rowD) M
  | [], _ => rfl
  | r :: rs, h => by
    have ih := rowsE_ok (ds0 := ds0) (ρ := ρ) (M := M) rs fun y hy => h y (List.mem_cons_of_mem _ hy)
    have e := readp_ok (M := M) (h r (List.mem_cons_self ..))
    have el : e1_read_picture (some (.str r) :: ρ) M = if badRow r then .err "NoText" M else .ok (rowD r) M := by
      rw [← show F_read_signs [.str r] M = if badRow r then .err "NoText" M else .ok (rowD r) M from e]
      rfl
    have st : oneN 0 (.str r) (List.replicate 1 none ++ ρ) = some (some (.str r) :: ρ) := rfl
    rw [List.map_cons, compGoE, if_pos its_ok, st]
    dsimp only [gAll]
    rw [el, List.any_cons]
    cases badRow r with
    | true => rfl
    | false =>
      rw [if_neg Bool.false_ne_true]
      dsimp only
      rw [ih, Bool.false_or]
      cases rs.any badRow <;> rfl
/-! a picture read -/
def picB (rows : List Str) : Bool := !rows.any badRow && (decide (1 ≤ (rows.getD 0 Str.empty).cps.size) && decide ((rows.getD 0 Str.empty).cps.size ≤ 40) && decide (rows.length ≤ 40)) && rows.all fun r => decide (r.cps.size = (rows.getD 0 Str.empty).cps.size)
theorem bools_mapS {p : Str → Bool} : ∀ xs : List Str, boolsOf (xs.map fun d => D.bl (p d)) = some (xs.map p)
  | [] => rfl
  | x :: xs => by
    show (boolsOf (xs.map fun d => D.bl (p d))).map (p x :: ·) = _
    rw [bools_mapS xs]; rfl
theorem rowD_len (r : Str) : (readNums r).length = r.cps.size := by simp [readNums]
theorem readpic_ok {x : Str} {M : Mem} (hs : splitOk x "\n" = true) (hr : ∀ r ∈ Txt.split x "\n", r.cps.size ≤ 100000) (hne : Txt.split x "\n" ≠ []) :
    F_read_picture [.str x] M = if picB (Txt.split x "\n") then .ok (.lst ((Txt.split x "\n").map rowD)) M else .err "NoText" M := by
  have sp : ∀ M, splitF x (.str "\n") M = .ok (.lst ((Txt.split x "\n").map D.str)) M := fun M => by
    unfold splitF; dsimp only; rw [if_pos hs]
  have ll : (Txt.split x "\n").length ≤ sizeLine := by
    unfold splitOk at hs
    rw [Bool.and_eq_true, decide_eq_true_eq] at hs
    exact hs.2
  generalize Txt.split x "\n" = rows at *
  have c1 := rowsE_ok (ds0 := rows.map D.str) (ρ := [some (.str x), none, none]) (M := M) rows hr
  have st : gTru (gIsi "str" (gVar 0)) [some (.str x), none, none] M = .ok true M := rfl
  cases hb : rows.any badRow with
  | true =>
    rw [hb, if_pos rfl] at c1
    have pb : picB rows = false := by simp [picB, hb]
    rw [pb, if_neg Bool.false_ne_true]
    unfold F_read_picture g_read_picture
    simp [sSeq, sSet, sIf, sNext, sRaise, gNotT, st, gCompE, gItsA, itsA, itsOf, gMethS, sp, gC, gVar, runD, rho0, retOf, DL.bind_ok, List.length_map, ll, c1]
  | false =>
    rw [hb, if_neg Bool.false_ne_true] at c1
    cases rows with
    | nil => exact absurd rfl hne
    | cons r0 rs =>
      have eqi : ∀ (a b : Int) (M : Mem), eqOp true (.int a) (.int b) M = .ok (.bl (!decide (a = b))) M := fun a b M => by
        unfold eqOp
        by_cases q : a = b <;> simp [now, cmpOk, eqB, q]
      have c2 := comp_map (ds0 := (r0 :: rs).map rowD) (ge := e2_read_picture) (ρ := [some (.str x), some (.lst ((r0 :: rs).map rowD)), some (.int r0.cps.size)])
        (f := fun d => match d with | .lst xs => .bl (!decide ((xs.length : Int) = r0.cps.size)) | d => d) (M := M) ((r0 :: rs).map rowD) fun d hd => by
          obtain ⟨r, _, rfl⟩ := List.mem_map.mp hd
          exact eqi _ _ M
      have em : ((r0 :: rs).map rowD).map (fun d => match d with | .lst xs => D.bl (!decide ((xs.length : Int) = r0.cps.size)) | d => d) = (r0 :: rs).map fun r => D.bl (!decide (r.cps.size = r0.cps.size)) := by
        rw [List.map_map]
        refine List.map_congr_left fun r _ => ?_
        show D.bl (!decide ((((readNums r).map D.int).length : Int) = r0.cps.size)) = _
        rw [List.length_map, rowD_len]
        congr 2
        exact decide_eq_decide.mpr (by omega)
      rw [em] at c2
      have b2 := bools_mapS (p := fun r => !decide (r.cps.size = r0.cps.size)) (r0 :: rs)
      have a0 : atI ((r0 :: rs).map rowD) 0 = some (rowD r0) := atI_nat (j := 0) rfl
      have ln : ∀ M, lenF [rowD r0] M = .ok (.int r0.cps.size) M := fun M => by
        show Out.ok (D.int (((readNums r0).map D.int).length : Int)) M = _
        rw [List.length_map, rowD_len]
      have an : ((r0 :: rs).map fun r => !decide (r.cps.size = r0.cps.size)).any id = !((r0 :: rs).all fun r => decide (r.cps.size = r0.cps.size)) := by
        rw [List.any_map, List.not_all_eq_any_not]; rfl
      have pb : picB (r0 :: rs) = (decide (1 ≤ r0.cps.size) && decide (r0.cps.size ≤ 40) && decide ((r0 :: rs).length ≤ 40) && (r0 :: rs).all fun r => decide (r.cps.size = r0.cps.size)) := by
        unfold picB
        rw [hb]
        rfl
      rw [pb]
      generalize hA : ((r0 :: rs).all fun r => decide (r.cps.size = r0.cps.size)) = A at *
      generalize hR : (r0 :: rs).map rowD = rd at *
      have lr : rd.length = (r0 :: rs).length := by rw [← hR, List.length_map]
      have lm : ((r0 :: rs).map fun r => D.bl (!decide (r.cps.size = r0.cps.size))).length = (r0 :: rs).length := List.length_map ..
      generalize hB : ((r0 :: rs).map fun r => D.bl (!decide (r.cps.size = r0.cps.size))) = bd at *
      have lb : bd.length ≤ sizeLine := by rw [lm]; exact ll
      have lr' : rd.length ≤ sizeLine := by rw [lr]; exact ll
      have ix0 : ∀ M, ixA (.lst rd) (.int 0) M = .ok (rowD r0) M := fun M => by
        unfold ixA
        dsimp only
        unfold ixD itemsOf
        dsimp only
        rw [a0]
      have ln2 : ∀ M, lenF [.lst rd] M = .ok (.int rd.length) M := fun M => rfl
      have an2 : ∀ M, anyF [.lst bd] M = .ok (.bl (!A)) M := fun M => by
        unfold anyF itemsOf
        dsimp only
        rw [b2]
        dsimp only
        rw [an]
      have lsd : ((r0 :: rs).map D.str).length ≤ sizeLine := by rw [List.length_map]; exact ll
      generalize hD : (r0 :: rs).map D.str = sd at *
      have st2 : gIsi "str" (gVar 0) [some (.str x), none, none] M = .ok (.bl true) M := rfl
      unfold F_read_picture g_read_picture
      by_cases k1 : (1 : Int) ≤ r0.cps.size
      · by_cases k2 : (r0.cps.size : Int) ≤ 40
        · by_cases k3 : (rd.length : Int) ≤ 40
          · have q1 : 1 ≤ r0.cps.size := by omega
            have q2 : r0.cps.size ≤ 40 := by omega
            have q3 : (r0 :: rs).length ≤ 40 := by omega
            rw [decide_eq_true q1, decide_eq_true q2, decide_eq_true q3]
            cases A <;> simp [sSeq, sSet, sIf, sNext, sRet, sRaise, gNotT, gAndT, gTst, asB, gTru, truD, st2, lsd, gCompE, gComp, gItsA, itsA, itsOf, gMethS, sp, gC, gVar, runD, rho0, retOf, mkLst, gBlt, DL.gCons, DL.gNil, DL.g2, gCh, leD, DL.bind_ok, c1, c2, lb, lr', ix0, ln, ln2, an2, k1, k2, k3]
          · have q3 : ¬ (r0 :: rs).length ≤ 40 := by omega
            rw [decide_eq_false q3]
            simp [sSeq, sSet, sIf, sNext, sRet, sRaise, gNotT, gAndT, gTst, asB, gTru, truD, st2, lsd, gCompE, gComp, gItsA, itsA, itsOf, gMethS, sp, gC, gVar, runD, rho0, retOf, mkLst, gBlt, DL.gCons, DL.gNil, DL.g2, gCh, leD, DL.bind_ok, c1, c2, lb, lr', ix0, ln, ln2, an2, k1, k2, k3]
        · have q2 : ¬ r0.cps.size ≤ 40 := by omega
          rw [decide_eq_false q2]
          simp [sSeq, sSet, sIf, sNext, sRet, sRaise, gNotT, gAndT, gTst, asB, gTru, truD, st2, lsd, gCompE, gComp, gItsA, itsA, itsOf, gMethS, sp, gC, gVar, runD, rho0, retOf, mkLst, gBlt, DL.gCons, DL.gNil, DL.g2, gCh, leD, DL.bind_ok, c1, c2, lb, lr', ix0, ln, ln2, an2, k1, k2]
      · have q1 : ¬ 1 ≤ r0.cps.size := by omega
        rw [decide_eq_false q1]
        simp [sSeq, sSet, sIf, sNext, sRet, sRaise, gNotT, gAndT, gTst, asB, gTru, truD, st2, lsd, gCompE, gComp, gItsA, itsA, itsOf, gMethS, sp, gC, gVar, runD, rho0, retOf, mkLst, gBlt, DL.gCons, DL.gNil, DL.g2, gCh, leD, DL.bind_ok, c1, c2, lb, lr', ix0, ln, ln2, an2, k1]
/-! a picture's text -/
theorem sum_ones : ∀ ks : List Int, ((ks.map sg1).map (·.length)).sum = ks.length
  | [] => rfl
  | k :: ks => by
    rw [List.map_cons, List.map_cons, List.sum_cons, sum_ones ks, sg1_len, List.length_cons]; omega
theorem numText_len (ks : List Int) : (numText ks).length ≤ ks.length := by
  have h := StrLaws.join_length_le "" (ks.map sg1)
  have z : ("" : Str).length = 0 := by decide +kernel
  rw [z, Nat.mul_zero, Nat.add_zero, sum_ones] at h
  unfold numText Txt.join
  rw [StrLaws.glued_eq_join]
  exact h
def picText (rs : List (List Int)) : Str := Txt.join "\n" (rs.map numText)
def rowsL (rs : List (List Int)) : List D := rs.map fun r => D.lst (r.map D.int)
theorem pictext_ok {rs : List (List Int)} {M : Mem} (hr : ∀ r ∈ rs, r.length ≤ 40 ∧ ∀ k ∈ r, 0 ≤ k ∧ k < 64) (hl : rs.length ≤ 40) : F_picture_text [.lst (rowsL rs)] M = .ok (.str (picText rs)) M := by
  have c := comp_map (ds0 := rowsL rs) (ge := e1_picture_text) (ρ := [some (.lst (rowsL rs))]) (f := fun d => match d with | .lst xs => .str (numText (xs.map fun d => match d with | .int k => k | _ => 0)) | d => d) (M := M) (rowsL rs) fun d hd => by
    obtain ⟨r, hr', rfl⟩ := List.mem_map.mp hd
    have e := signsp_ok (M := M) (hr r hr').2 (by have := (hr r hr').1; omega)
    have er : (r.map D.int).map (fun d => match d with | .int k => k | _ => (0 : Int)) = r := by rw [List.map_map]; exact List.map_id' _ |>.symm ▸ rfl
    show F_signs_of [.lst (r.map D.int)] M = .ok (.str (numText ((r.map D.int).map fun d => match d with | .int k => k | _ => 0))) M
    rw [er, e]
  have em : (rowsL rs).map (fun d => match d with | .lst xs => D.str (numText (xs.map fun d => match d with | .int k => k | _ => 0)) | d => d) = rs.map fun r => D.str (numText r) := by
    unfold rowsL
    rw [List.map_map]
    refine List.map_congr_left fun r _ => ?_
    show D.str (numText ((r.map D.int).map fun d => match d with | .int k => k | _ => 0)) = _
    rw [List.map_map]
    congr 2
    exact List.map_id'' (fun _ => rfl) r
  rw [em] at c
  have l0 : (rowsL rs).length = rs.length := List.length_map ..
  have s1 := strsO_map numText rs
  have j1 : JoinOk "\n" (rs.map numText) = true := by
    refine join_few (n := 40) (fun y hy => ?_) ?_
    · obtain ⟨r, hr', rfl⟩ := List.mem_map.mp hy
      exact Nat.le_trans (numText_len r) (hr r hr').1
    · have : ("\n" : Str).length = 1 := by decide +kernel
      rw [this, List.length_map]; omega
  have lb : (rs.map fun r => D.str (numText r)).length ≤ sizeLine := by rw [List.length_map]; exact le_line (by omega)
  generalize rs.map (fun r => D.str (numText r)) = bd at *
  generalize rowsL rs = rd at *
  unfold F_picture_text g_picture_text picText
  simp [gComp, c, lb, s1, j1, sRet, gMethS, joinF, gC, gItsA, itsA, itsOf, gVar, runD, rho0, retOf, mkLst, lstOf, DL.bind_ok]
/-! a sign among the signs -/
theorem find_nil {x y : Str} (h : Builtin.Str.occurrences x y 0 x.length 1 = []) : Txt.find x y = -1 := by simp [Txt.find, h]
theorem find_cons {x y : Str} {i : Nat} {r : List Nat} (h : Builtin.Str.occurrences x y 0 x.length 1 = i :: r) : Txt.find x y = (i : Int) := by simp [Txt.find, h]
theorem sign_in (c : Nat) (M : Mem) : inA (.str ⟨#[c]⟩) (.str sgn) M = .ok (.bl (findS c != -1)) M := by
  unfold inA occB findS
  dsimp only
  cases h : Builtin.Str.occurrences sgn ⟨#[c]⟩ 0 sgn.length 1 with
  | nil => rw [find_nil h]; rfl
  | cons i r =>
    rw [find_cons h]
    have : ((i : Int) != -1) = true := by simp
    rw [this]; rfl
theorem sign_index {c : Nat} (hc : findS c ≠ -1) (M : Mem) : indexSF sgn (.str ⟨#[c]⟩) M = .ok (.int (findS c)) M := by
  unfold indexSF
  dsimp only
  cases h : Builtin.Str.occurrences sgn ⟨#[c]⟩ 0 sgn.length 1 with
  | nil => exact absurd (find_nil h) hc
  | cons i r =>
    have e : findS c = (i : Int) := find_cons h
    rw [e]
/-! texts split and joined by one sign -/
theorem cut_same {c : Nat} : ∀ {a b A B : List Nat}, c ∉ a → c ∉ b → a ++ c :: A = b ++ c :: B → a = b ∧ A = B
  | [], [], A, B, _, _, h => ⟨rfl, (List.cons.inj h).2⟩
  | [], y :: b, A, B, _, hb, h => absurd (by rw [(List.cons.inj h).1]; exact List.mem_cons_self ..) hb
  | x :: a, [], A, B, ha, _, h => absurd (by rw [← (List.cons.inj h).1]; exact List.mem_cons_self ..) ha
  | x :: a, y :: b, A, B, ha, hb, h => by
    obtain ⟨h1, h2⟩ := List.cons.inj h
    obtain ⟨h3, h4⟩ := cut_same (fun z => ha (List.mem_cons_of_mem _ z)) (fun z => hb (List.mem_cons_of_mem _ z)) h2
    exact ⟨by rw [h1, h3], h4⟩
theorem join_two (c : Nat) (p q : Str) (r : List Str) : (Str.join ⟨#[c]⟩ (p :: q :: r)).cps.toList = p.cps.toList ++ c :: (Str.join ⟨#[c]⟩ (q :: r)).cps.toList := by
  show (p ++ ⟨#[c]⟩ ++ Str.join ⟨#[c]⟩ (q :: r)).cps.toList = _
  simp only [Str.cps_append, Array.toList_append]
  simp
theorem str_ext {a b : Str} (h : a.cps.toList = b.cps.toList) : a = b := Str.ext' (Array.toList_inj.mp h)
theorem join_inj {c : Nat} : ∀ {ps qs : List Str}, ps ≠ [] → qs ≠ [] → (∀ p ∈ ps, c ∉ p.cps.toList) → (∀ p ∈ qs, c ∉ p.cps.toList) → (Str.join ⟨#[c]⟩ ps).cps.toList = (Str.join ⟨#[c]⟩ qs).cps.toList → ps = qs
  | [], _, h, _, _, _, _ => absurd rfl h
  | _, [], _, h, _, _, _ => absurd rfl h
  | [p], [q], _, _, _, _, h => by rw [str_ext (a := p) (b := q) h]
  | [p], q :: q2 :: r, _, _, hp, _, h => by
    rw [join_two] at h
    have : c ∈ p.cps.toList := by
      show c ∈ (Str.join ⟨#[c]⟩ [p]).cps.toList
      rw [h]; simp
    exact absurd this (hp p (List.mem_cons_self ..))
  | p :: p2 :: r, [q], _, _, _, hq, h => by
    rw [join_two] at h
    have : c ∈ q.cps.toList := by
      show c ∈ (Str.join ⟨#[c]⟩ [q]).cps.toList
      rw [← h]; simp
    exact absurd this (hq q (List.mem_cons_self ..))
  | p :: p2 :: r, q :: q2 :: r2, _, _, hp, hq, h => by
    rw [join_two, join_two] at h
    obtain ⟨h1, h2⟩ := cut_same (hp p (List.mem_cons_self ..)) (hq q (List.mem_cons_self ..)) h
    rw [str_ext h1, join_inj (by simp) (by simp) (fun x hx => hp x (List.mem_cons_of_mem _ hx)) (fun x hx => hq x (List.mem_cons_of_mem _ hx)) h2]
theorem split_ne (x y : Str) : Txt.split x y ≠ [] := fun h => by
  have := split_pos x y
  rw [h] at this
  simp at this
theorem split_join {c : Nat} {ps : List Str} (hne : ps ≠ []) (hf : ∀ p ∈ ps, c ∉ p.cps.toList) : Txt.split (Str.join ⟨#[c]⟩ ps) ⟨#[c]⟩ = ps :=
  join_inj (split_ne _ _) hne (StrLaws.split_free _ c) hf (by rw [StrLaws.join_split])
theorem tjoin (sep : Str) (ps : List Str) : Txt.join sep ps = Str.join sep ps := StrLaws.glued_eq_join sep ps
theorem join_mem {c k : Nat} : ∀ {ps : List Str}, k ∈ (Str.join ⟨#[c]⟩ ps).cps.toList → k = c ∨ ∃ p ∈ ps, k ∈ p.cps.toList
  | [], h => by simp [Str.join, Str.empty] at h
  | [p], h => .inr ⟨p, List.mem_cons_self .., h⟩
  | p :: q :: r, h => by
    rw [join_two, List.mem_append, List.mem_cons] at h
    rcases h with h | h | h
    · exact .inr ⟨p, List.mem_cons_self .., h⟩
    · exact .inl h
    · rcases join_mem h with h | ⟨x, hx, hk⟩
      · exact .inl h
      · exact .inr ⟨x, List.mem_cons_of_mem _ hx, hk⟩
theorem mem_join {c k : Nat} : ∀ {ps : List Str} {p : Str}, p ∈ ps → k ∈ p.cps.toList → k ∈ (Str.join ⟨#[c]⟩ ps).cps.toList
  | [q], p, h, hk => by rw [List.mem_singleton.mp h] at hk; exact hk
  | q :: q2 :: r, p, h, hk => by
    rw [join_two, List.mem_append, List.mem_cons]
    rcases List.mem_cons.mp h with h | h
    · exact .inl (h ▸ hk)
    · exact .inr (.inr (mem_join h hk))
theorem mem_split {x : Str} {c k : Nat} {p : Str} (h : p ∈ Txt.split x ⟨#[c]⟩) (hk : k ∈ p.cps.toList) : k ∈ x.cps.toList := by
  have := mem_join (c := c) h hk
  rwa [StrLaws.join_split] at this
theorem split_mem {x : Str} {c k : Nat} (hk : k ∈ x.cps.toList) (hn : k ≠ c) : ∃ p ∈ Txt.split x ⟨#[c]⟩, k ∈ p.cps.toList := by
  have h : k ∈ (Str.join ⟨#[c]⟩ (Txt.split x ⟨#[c]⟩)).cps.toList := by rw [StrLaws.join_split]; exact hk
  rcases join_mem h with h | h
  · exact absurd h hn
  · exact h
theorem join_len1 {c : Nat} : ∀ {ps : List Str} {p : Str}, p ∈ ps → p.cps.toList.length ≤ (Str.join ⟨#[c]⟩ ps).cps.toList.length
  | [q], p, h => by rw [List.mem_singleton.mp h]; exact Nat.le_refl _
  | q :: q2 :: r, p, h => by
    rw [join_two, List.length_append, List.length_cons]
    rcases List.mem_cons.mp h with h | h
    · rw [h]; omega
    · have := join_len1 (c := c) h; omega
theorem split_len1 {x : Str} {c : Nat} {p : Str} (h : p ∈ Txt.split x ⟨#[c]⟩) : p.cps.size ≤ x.cps.size := by
  have := join_len1 (c := c) h
  rw [StrLaws.join_split] at this
  simpa using this
/-! what the law reads of rows -/
theorem slash_eq : ("/" : Str) = ⟨#[47]⟩ := by decide +kernel
theorem lf_eq : ("\n" : Str) = ⟨#[10]⟩ := by decide +kernel
theorem sp_eq : (" " : Str) = ⟨#[32]⟩ := by decide +kernel
theorem split_okN {x : Str} (c : Nat) (hx : x.cps.size ≤ 100000) : splitOk x ⟨#[c]⟩ = true := by
  have h1 : x.length = x.cps.size := rfl
  have h2 := split_le x ⟨#[c]⟩
  have h3 := StrLaws.occ_length_le x ⟨#[c]⟩ 0 x.length (x.length + 1)
  have h4 := len_partsBetween x (Builtin.Str.occurrences x ⟨#[c]⟩ 0 x.length (x.length + 1)) (⟨#[c]⟩ : Str).length
  have z : ((⟨#[c]⟩ : Str).length == 0) = false := rfl
  unfold splitOk
  rw [z]
  have b1 : x.length ≤ sizeLine := le_line (by omega)
  have b2 : (Builtin.Str.partsBetween x (Builtin.Str.occurrences x ⟨#[c]⟩ 0 x.length (x.length + 1)) (⟨#[c]⟩ : Str).length).length ≤ sizeLine := le_line (by omega)
  have b3 : (Txt.split x ⟨#[c]⟩).length ≤ sizeLine := le_line (by omega)
  simp [b1, b2, b3]
def tupR (r : Str) : D := .tup ((readNums r).map D.int)
def inksT (ps : List Str) : List D := if ps.any badRow then [] else ps.map tupR
theorem row_all {r : Str} {M : Mem} {ρ : Rho} (hr : r.cps.size ≤ 100000) (h : ρ[1]? = some (some (.str sgn))) (h3 : ρ[3]? = some (some (.str r))) :
    gTru (gBlt allF (DL.gCons (gComp (gItsA (gVar 3)) gAll e1__law_inks_read mkLst) DL.gNil)) ρ M = .ok (!badRow r) M := by
  have c := comp_map (ds0 := signsD r) (ge := e1__law_inks_read) (ρ := ρ) (f := fun d => match d with | .str ⟨cs⟩ => .bl (Txt.find sgn ⟨cs⟩ != -1) | d => d) (M := M) (signsD r) fun d hd => by
    obtain ⟨n, _, rfl⟩ := List.mem_map.mp hd
    have e := sign_in n M
    show g2 inA (gVar 0) (gVar 2) (some (.str ⟨#[n]⟩) :: ρ) M = _
    have v : gVar 2 (some (.str ⟨#[n]⟩) :: ρ) M = .ok (.str sgn) M := by
      unfold gVar
      rw [show (some (D.str ⟨#[n]⟩) :: ρ)[2]? = some (some (.str sgn)) from h]
    have v0 : gVar 0 (some (D.str ⟨#[n]⟩) :: ρ) M = .ok (.str ⟨#[n]⟩) M := rfl
    unfold DL.g2
    rw [v0, DL.bind_ok, v, DL.bind_ok]
    exact e
  have em : (signsD r).map (fun d => match d with | .str ⟨cs⟩ => D.bl (Txt.find sgn ⟨cs⟩ != -1) | d => d) = (readNums r).map fun k => D.bl (k != -1) := by
    unfold signsD readNums
    rw [List.map_map, List.map_map]
    exact List.map_congr_left fun _ _ => rfl
  rw [em] at c
  have bo : ∀ ks : List Int, boolsOf (ks.map fun k => D.bl (k != -1)) = some (ks.map fun k => k != -1) := fun ks => by
    induction ks with
    | nil => rfl
    | cons k ks ih => show (boolsOf (ks.map fun k => D.bl (k != -1))).map ((k != -1) :: ·) = _; rw [ih]; rfl
  have l0 : (readNums r).length = r.cps.size := by simp [readNums]
  have l1 : (readNums r).length ≤ sizeLine := by rw [l0]; exact le_line (by omega)
  have al : ((readNums r).map fun k => k != -1).all id = !badRow r := by
    unfold badRow
    rw [List.all_map, List.not_any_eq_all_not]
    rfl
  have v3 : gVar 3 ρ M = .ok (.str r) M := by
    unfold gVar
    rw [h3]
  have b1 := bo (readNums r)
  simp [gTru, gBlt, DL.gCons, DL.gNil, gComp, gItsA, itsA, v3, c, mkLst, l1, allF, itemsOf, b1, al, truD, DL.bind_ok]
theorem row_tup {r : Str} {M : Mem} {ρ : Rho} (hr : r.cps.size ≤ 100000) (hb : badRow r = false) (h : ρ[1]? = some (some (.str sgn))) (h3 : ρ[3]? = some (some (.str r))) :
    gBlt tupleF (DL.gCons (gComp (gItsA (gVar 3)) gAll e2__law_inks_read mkLst) DL.gNil) ρ M = .ok (tupR r) M := by
  have c := comp_map (ds0 := signsD r) (ge := e2__law_inks_read) (ρ := ρ) (f := fun d => match d with | .str ⟨cs⟩ => .int (Txt.find sgn ⟨cs⟩) | d => d) (M := M) (signsD r) fun d hd => by
    obtain ⟨n, hn, rfl⟩ := List.mem_map.mp hd
    have nf : findS n ≠ -1 := fun z => by
      have : badRow r = true := by
        unfold badRow readNums
        rw [List.any_map]
        exact List.any_eq_true.mpr ⟨n, hn, by simp [z]⟩
      rw [hb] at this; cases this
    have e := sign_index nf M
    show gMethS indexSF (gVar 2) (gVar 0) (some (.str ⟨#[n]⟩) :: ρ) M = _
    have v : gVar 2 (some (.str ⟨#[n]⟩) :: ρ) M = .ok (.str sgn) M := by
      unfold gVar
      rw [show (some (D.str ⟨#[n]⟩) :: ρ)[2]? = some (some (.str sgn)) from h]
    unfold gMethS
    rw [v, DL.bind_ok]
    exact e
  have em : (signsD r).map (fun d => match d with | .str ⟨cs⟩ => D.int (Txt.find sgn ⟨cs⟩) | d => d) = (readNums r).map D.int := by
    unfold signsD readNums
    rw [List.map_map, List.map_map]
    exact List.map_congr_left fun _ _ => rfl
  rw [em] at c
  have l0 : (readNums r).length = r.cps.size := by simp [readNums]
  have l1 : ((readNums r).map D.int).length ≤ sizeLine := by rw [List.length_map, l0]; exact le_line (by omega)
  have v3 : gVar 3 ρ M = .ok (.str r) M := by
    unfold gVar
    rw [h3]
  rw [List.length_map] at l1
  simp [gBlt, DL.gCons, DL.gNil, gComp, gItsA, itsA, v3, c, mkLst, l1, tupleF, itemsOf, tupR, DL.bind_ok]
theorem inks_go {ds0 : List D} {y : Str} {M : Mem} : ∀ (ps pre : List Str) (x3 : Option D), (∀ p ∈ ps, p.cps.size ≤ 100000) → pre.length + ps.length ≤ 200000 →
    (ps.any badRow = true → ∃ E, forGo ⟨ds0, none⟩ (oneN 3) b1__law_inks_read (ps.map D.str) [some (.str y), some (.str sgn), some (.mr M.length), x3] (M ++ [.lst (pre.map tupR)]) = .ok (.rt (.tup [])) (M ++ E)) ∧
    (ps.any badRow = false → ∃ y3, forGo ⟨ds0, none⟩ (oneN 3) b1__law_inks_read (ps.map D.str) [some (.str y), some (.str sgn), some (.mr M.length), x3] (M ++ [.lst (pre.map tupR)]) = .ok (.nx [some (.str y), some (.str sgn), some (.mr M.length), y3]) (M ++ [.lst ((pre ++ ps).map tupR)]))
  | [], pre, x3, _, _ => ⟨(fun h => by cases h), fun _ => ⟨x3, by rw [List.append_nil]; rfl⟩⟩
  | p :: ps, pre, x3, hs, hl => by
    have ih := inks_go (ds0 := ds0) (y := y) (M := M) ps (pre ++ [p]) (some (.str p)) (fun q hq => hs q (List.mem_cons_of_mem _ hq)) (by simp at hl ⊢; omega)
    have st : oneN 3 (.str p) [some (.str y), some (.str sgn), some (.mr M.length), x3] = some [some (.str y), some (.str sgn), some (.mr M.length), some (.str p)] := rfl
    have ra := row_all (M := M ++ [.lst (pre.map tupR)]) (ρ := [some (.str y), some (.str sgn), some (.mr M.length), some (.str p)]) (hs p List.mem_cons_self) rfl rfl
    rw [List.map_cons, List.any_cons]
    have gt : (M ++ [MO.lst (pre.map tupR)])[M.length]? = some (.lst (pre.map tupR)) := by simp
    cases hb : badRow p with
    | true =>
      rw [hb] at ra
      refine ⟨fun _ => ⟨[.lst (pre.map tupR)], ?_⟩, fun h => by simp at h⟩
      rw [forGo, if_pos its_ok, st]
      dsimp only
      unfold b1__law_inks_read
      simp [sSeq, sIf, gNotT, ra, sRet, DL.gTup, DL.gNil, mkTup, DL.bind_ok]
    | false =>
      rw [hb] at ra
      have rt := row_tup (M := M ++ [.lst (pre.map tupR)]) (ρ := [some (.str y), some (.str sgn), some (.mr M.length), some (.str p)]) (hs p List.mem_cons_self) hb rfl rfl
      have ll : (pre.map tupR).length < sizeLine := by
        rw [List.length_map]
        have : pre.length < 1000000 := by simp at hl; omega
        exact Nat.lt_of_lt_of_le this (by rw [sizeLine_eq]; decide)
      have bd : b1__law_inks_read [some (.str y), some (.str sgn), some (.mr M.length), some (.str p)] (M ++ [.lst (pre.map tupR)]) = .ok (.nx [some (.str y), some (.str sgn), some (.mr M.length), some (.str p)]) (M ++ [.lst ((pre ++ [p]).map tupR)]) := by
        unfold b1__law_inks_read
        have v2 : gVar 2 [some (.str y), some (.str sgn), some (.mr M.length), some (.str p)] (M ++ [.lst (pre.map tupR)]) = .ok (.mr M.length) (M ++ [.lst (pre.map tupR)]) := rfl
        rw [List.length_map] at ll
        simp [sSeq, sIf, gNotT, ra, sNext, sDrop, gApp, v2, rt, appD, gt, ll, DL.bind_ok]
      rw [List.append_assoc] at ih
      refine ⟨fun h => ?_, fun h => ?_⟩
      · obtain ⟨E, e⟩ := ih.1 (by simpa using h)
        exact ⟨E, by rw [forGo, if_pos its_ok, st]; dsimp only; rw [bd, DL.bind_ok]; exact e⟩
      · obtain ⟨y3, e⟩ := ih.2 (by simpa using h)
        exact ⟨y3, by rw [forGo, if_pos its_ok, st]; dsimp only; rw [bd, DL.bind_ok]; exact e⟩
theorem pure_tupR (ps : List Str) : (ps.map tupR).all (pureD 29) = true := by
  rw [List.all_map]
  refine List.all_eq_true.mpr fun p _ => ?_
  exact pure_ints 27 _
theorem inksread_ok {y : Str} {M : Mem} (hy : y.cps.size ≤ 100000) (hM : M.all pureM = true) : F__law_inks_read [.str y] M = .ok (.tup (inksT (Txt.split y "/"))) M := by
  have hs : splitOk y "/" = true := by rw [slash_eq]; exact split_okN 47 hy
  have sp : ∀ M, splitF y (.str "/") M = .ok (.lst ((Txt.split y "/").map D.str)) M := fun M => by
    unfold splitF; dsimp only; rw [if_pos hs]
  have hp : ∀ p ∈ Txt.split y "/", p.cps.size ≤ 100000 := fun p h => by
    rw [slash_eq] at h
    exact Nat.le_trans (split_len1 h) hy
  have hl : (Txt.split y "/").length ≤ 100002 := by
    have := split_le y "/"
    have e : y.length = y.cps.size := rfl
    omega
  have go := inks_go (ds0 := (Txt.split y "/").map D.str) (y := y) (M := M) (Txt.split y "/") [] none hp (by simp; omega)
  unfold F__law_inks_read
  show retP M.length (retOf (g__law_inks_read [some (.str y), none, none, none] M)) = _
  have s0 : ∀ ρ, g__law_inks_read ρ M = (sSeq (sSet 1 (gC (.str sgn))) (sSeq (sSet 2 (gMut DL.gNil)) (sSeq (sFor (gItsA (gMethS splitF (gVar 0) (gC (.str "/")))) (oneN 3) b1__law_inks_read) (sRet (gBlt tupleF (DL.gCons (gVar 2) DL.gNil)))))) ρ M := fun ρ => rfl
  rw [s0]
  unfold inksT
  have z0 : (0 : Nat) ≤ sizeLine := Nat.zero_le _
  cases hb : (Txt.split y "/").any badRow with
  | true =>
    obtain ⟨E, e⟩ := go.1 hb
    rw [if_pos rfl]
    have := retP_pure (d := .tup []) (E := E) rfl hM
    simp at e
    simp [sSeq, sSet, gC, gMut, mkMut, DL.gNil, z0, sFor, gItsA, gMethS, gVar, sp, itsA, itsOf, e, retOf, DL.bind_ok, this]
  | false =>
    obtain ⟨y3, e⟩ := go.2 hb
    rw [if_neg Bool.false_ne_true]
    have gt : (M ++ [MO.lst ((Txt.split y "/").map tupR)])[M.length]? = some (.lst ((Txt.split y "/").map tupR)) := by simp
    have ll : ((Txt.split y "/").map tupR).length ≤ sizeLine := by rw [List.length_map]; exact le_line (by omega)
    have pu : pureD 30 (.tup ((Txt.split y "/").map tupR)) = true := pure_tupR _
    have := retP_pure (E := [.lst ((Txt.split y "/").map tupR)]) pu hM
    simp at e
    generalize (Txt.split y "/").map tupR = td at *
    simp [sSeq, sSet, gC, gMut, mkMut, DL.gNil, DL.gCons, z0, sFor, gItsA, gMethS, gVar, sp, itsA, itsOf, e, retOf, sRet, gBlt, tupleF, DL.bind_ok, itemsOf, lstOf, gt, ll, this]
/-! comparing a thing with itself -/
mutual
theorem eqB_self : ∀ (d : D) (n : Nat), cmpOk n d = true → eqB d d = true
  | .non, n, h => by simp [eqB]
  | .bl a, n, h => by simp [eqB]
  | .int a, n, h => by simp [eqB]
  | .str a, n, h => by simp [eqB]
  | .tup xs, n, h => by
    cases n with
    | zero => simp [cmpOk] at h
    | succ n => rw [eqB]; exact eqBs_self xs n (by simpa [cmpOk] using h)
  | .lst xs, n, h => by
    cases n with
    | zero => simp [cmpOk] at h
    | succ n => rw [eqB]; exact eqBs_self xs n (by simpa [cmpOk] using h)
  | .ro xs, n, h => by
    cases n with
    | zero => simp [cmpOk] at h
    | succ n => rw [eqB]; exact eqBs_self xs n (by simpa [cmpOk] using h)
  | .mr a, n, h => by simp [cmpOk] at h
  | .exc a, n, h => by simp [cmpOk] at h
  | .any, n, h => by simp [cmpOk] at h
theorem eqBs_self : ∀ (ds : List D) (n : Nat), cmpOks n ds = true → eqBs ds ds = true
  | [], n, h => by simp [eqBs]
  | d :: ds, n, h => by
    simp only [cmpOks, Bool.and_eq_true] at h
    simp only [eqBs, Bool.and_eq_true]
    exact ⟨eqB_self d n h.1, eqBs_self ds n h.2⟩
end
theorem cmpOks_all {n : Nat} : ∀ {ds : List D}, (∀ d ∈ ds, cmpOk n d = true) → cmpOks n ds = true
  | [], _ => rfl
  | d :: ds, h => by
    simp only [cmpOks, Bool.and_eq_true]
    exact ⟨h d List.mem_cons_self, cmpOks_all fun e he => h e (List.mem_cons_of_mem _ he)⟩
/-! what is due of a text -/
theorem join_len {c : Nat} : ∀ {ps : List Str}, ps ≠ [] → (Str.join ⟨#[c]⟩ ps).cps.toList.length + 1 = (ps.map (·.length)).sum + ps.length
  | [], h => absurd rfl h
  | [p], _ => by
    show p.cps.toList.length + 1 = ([p].map (·.length)).sum + 1
    simp [Str.length]
  | p :: q :: r, _ => by
    have ih := join_len (c := c) (ps := q :: r) (by simp)
    rw [join_two, List.length_append, List.length_cons, List.map_cons, List.sum_cons, List.length_cons]
    have : p.cps.toList.length = p.length := by simp [Str.length]
    omega
theorem joinOk_sum {sep : Str} {ps : List Str} (h : (ps.map (·.length)).sum + ps.length * sep.length ≤ 1000000) : JoinOk sep ps = true := by
  unfold JoinOk
  rw [StrLaws.joinTotal]
  have : ¬ (ps.map (·.length)).sum + ps.length * sep.length > sizeLine := by
    have := le_line h; omega
  simp only [Builtin.Str.tooLong, decide_eq_false this, Bool.not_false]
theorem joinOk_split {x : Str} {c k : Nat} (hx : x.cps.size ≤ 100000) : JoinOk ⟨#[k]⟩ (Txt.split x ⟨#[c]⟩) = true := by
  refine joinOk_sum ?_
  have h := join_len (c := c) (split_ne x ⟨#[c]⟩)
  rw [StrLaws.join_split] at h
  have e : x.cps.toList.length = x.cps.size := by simp
  show _ + (Txt.split x ⟨#[c]⟩).length * 1 ≤ _
  omega
theorem join_size {c k : Nat} {ps : List Str} (h : ps ≠ []) : (Str.join ⟨#[c]⟩ ps).cps.size = (Str.join ⟨#[k]⟩ ps).cps.size := by
  have h1 := join_len (c := c) h
  have h2 := join_len (c := k) h
  have e1 : (Str.join ⟨#[c]⟩ ps).cps.toList.length = (Str.join ⟨#[c]⟩ ps).cps.size := by simp
  have e2 : (Str.join ⟨#[k]⟩ ps).cps.toList.length = (Str.join ⟨#[k]⟩ ps).cps.size := by simp
  omega
theorem comp_filter {ds0 : List D} {gc : GT} {ge : GE} {ρ : Rho} {p : D → Bool} {f : D → D} {M : Mem} : ∀ (ds : List D), (∀ d ∈ ds, gc (some d :: ρ) M = .ok (p d) M) → (∀ d ∈ ds, ge (some d :: ρ) M = .ok (f d) M) → compGo ⟨ds0, none⟩ gc ge ds ρ M = .ok ((ds.filter p).map f) M
  | [], _, _ => rfl
  | d :: ds, h, h2 => by
    have e1 := h d List.mem_cons_self
    have e2 := h2 d List.mem_cons_self
    have ih := comp_filter (ds0 := ds0) ds (fun d' hd => h d' (List.mem_cons_of_mem _ hd)) (fun d' hd => h2 d' (List.mem_cons_of_mem _ hd))
    rw [compGo, if_pos its_ok, e1, List.filter_cons]
    cases p d with
    | true => dsimp only; rw [e2]; dsimp only; rw [ih]; rfl
    | false => dsimp only; rw [ih]; rfl
theorem slash_bad {r : Str} (h : 47 ∈ r.cps.toList) : badRow r = true := by
  unfold badRow readNums
  rw [List.any_map]
  exact List.any_eq_true.mpr ⟨47, h, by
    have : findS 47 = -1 := by decide +kernel
    simp [this]⟩
theorem cmpOk_rows {n : Nat} (ps : List Str) : cmpOks (n + 1) (ps.map rowD) = true := by
  refine cmpOks_all fun d hd => ?_
  obtain ⟨p, _, rfl⟩ := List.mem_map.mp hd
  show cmpOks n ((readNums p).map D.int) = true
  refine cmpOks_all fun d hd => ?_
  obtain ⟨k, _, rfl⟩ := List.mem_map.mp hd
  cases n <;> rfl
def dueD (ps : List Str) : D := if picB ps then .lst (ps.map rowD) else .tup [.str "text"]
theorem due_ok {x : Str} {M : Mem} (hx : x.cps.size ≤ 90000) (hM : M.all pureM = true) : F__law_due [.str x] M = .ok (dueD (Txt.split x "\n")) M := by
  have hs : splitOk x "\n" = true := by rw [lf_eq]; exact split_okN 10 (by omega)
  have sp : ∀ M, splitF x (.str "\n") M = .ok (.lst ((Txt.split x "\n").map D.str)) M := fun M => by
    unfold splitF; dsimp only; rw [if_pos hs]
  have jo : JoinOk "/" (Txt.split x "\n") = true := by rw [slash_eq, lf_eq]; exact joinOk_split (by omega)
  have so := strsO_map (fun p : Str => p) (Txt.split x "\n")
  rw [List.map_id' (Txt.split x "\n")] at so
  have ys : (Txt.join "/" (Txt.split x "\n")).cps.size ≤ 100000 := by
    rw [tjoin, slash_eq, lf_eq, join_size (k := 10) (split_ne _ _), StrLaws.join_split]; omega
  have ir := inksread_ok (M := M) ys hM
  have nsl : 47 ∉ x.cps.toList → Txt.split (Txt.join "/" (Txt.split x "\n")) "/" = Txt.split x "\n" := fun h => by
    rw [tjoin, slash_eq, lf_eq]
    exact split_join (split_ne _ _) fun p hp hm => h (mem_split hp hm)
  have inx : ∀ M, inA (.str "/") (.str x) M = .ok (.bl (decide (47 ∈ x.cps.toList))) M := fun M => by
    show Out.ok (D.bl (occB x "/")) M = _
    rw [slash_eq]
    unfold occB
    rw [StrLaws.found_one]
  have cm : ∀ (ps : List Str) (ds0 : List D) (ρ : Rho), compGo ⟨ds0, none⟩ gAll e1__law_due (ps.map tupR) ρ M = .ok (ps.map rowD) M := fun ps ds0 ρ => by
    have c := comp_map (ds0 := ds0) (ge := e1__law_due) (ρ := ρ) (f := fun d => match d with | .tup xs => .lst xs | d => d) (M := M) (ps.map tupR) fun d hd => by
      obtain ⟨p, _, rfl⟩ := List.mem_map.mp hd
      rfl
    rw [c, List.map_map]
    rfl
  have l2 : ∀ q : Str, (Txt.split q "/").length ≤ q.cps.size + 2 := fun q => split_le q "/"
  have lq := l2 (Txt.join "/" (Txt.split x "\n"))
  generalize hy : Txt.join "/" (Txt.split x "\n") = y at *
  have ll : (Txt.split x "\n").length ≤ 90002 := by
    have := split_le x "\n"
    have e : x.length = x.cps.size := rfl
    omega
  have hne := split_ne x "\n"
  have smem : 47 ∈ x.cps.toList → ∃ p ∈ Txt.split x "\n", 47 ∈ p.cps.toList := fun h => by rw [lf_eq]; exact split_mem h (by decide)
  generalize Txt.split x "\n" = ps at *
  have tx : (1 : Nat) ≤ sizeLine := le_line (by decide)
  have z0 : (0 : Nat) ≤ sizeLine := Nat.zero_le _
  by_cases hsl : 47 ∈ x.cps.toList
  · -- a stroke: refused
    have pb : picB ps = false := by
      obtain ⟨p, hp, hm⟩ := smem hsl
      have : ps.any badRow = true := List.any_eq_true.mpr ⟨p, hp, slash_bad hm⟩
      simp [picB, this]
    rw [decide_eq_true hsl] at inx
    unfold dueD
    rw [pb, if_neg Bool.false_ne_true]
    unfold F__law_due g__law_due
    unfold inksT at ir
    have c0 : ∀ (ds0 : List D) (ρ : Rho), compGo ⟨ds0, none⟩ gAll e1__law_due [] ρ M = .ok [] M := fun _ _ => rfl
    cases hb : (Txt.split y "/").any badRow with
    | true =>
      rw [hb, if_pos rfl] at ir
      simp [sSeq, sSet, gComp, gItsA, gCall, DL.gCons, DL.gNil, gMethS, gC, gVar, sp, joinF, lstOf, so, jo, hy, ir, itsA, itsOf, c0, mkLst, z0, runD, rho0, retOf, sIf, gOrT, gTst, DL.g2, inx, asB, sRet, DL.gTup, mkTup, tx, DL.bind_ok]
    | false =>
      rw [hb, if_neg Bool.false_ne_true] at ir
      have c1 := cm (Txt.split y "/")
      have l1 : (Txt.split y "/").length ≤ sizeLine := le_line (by omega)
      simp [sSeq, sSet, gComp, gItsA, gCall, DL.gCons, DL.gNil, gMethS, gC, gVar, sp, joinF, lstOf, so, jo, hy, ir, itsA, itsOf, c1, mkLst, l1, runD, rho0, retOf, sIf, gOrT, gTst, DL.g2, inx, asB, sRet, DL.gTup, mkTup, tx, DL.bind_ok]
  · rw [nsl hsl] at ir
    rw [decide_eq_false hsl] at inx
    have c0 : ∀ (ds0 : List D) (ρ : Rho), compGo ⟨ds0, none⟩ gAll e1__law_due [] ρ M = .ok [] M := fun _ _ => rfl
    unfold inksT at ir
    cases hb : ps.any badRow with
    | true =>
      rw [hb, if_pos rfl] at ir
      have pb : picB ps = false := by simp [picB, hb]
      unfold dueD
      rw [pb, if_neg Bool.false_ne_true]
      have e0 : ∀ M, eqOp false (.lst []) (.lst []) M = .ok (.bl true) M := fun M => rfl
      unfold F__law_due g__law_due
      simp [sSeq, sSet, gComp, gItsA, gCall, DL.gCons, DL.gNil, gMethS, gC, gVar, sp, joinF, lstOf, so, jo, hy, ir, itsA, itsOf, c0, mkLst, z0, runD, rho0, retOf, sIf, gOrT, gTst, DL.g2, inx, asB, sRet, DL.gTup, mkTup, tx, gLst, e0, DL.bind_ok]
    | false =>
      rw [hb, if_neg Bool.false_ne_true] at ir
      have c1 := cm ps
      have l1 : ps.length ≤ sizeLine := le_line (by omega)
      cases ps with
      | nil => exact absurd rfl hne
      | cons r0 rs =>
        have eqi : ∀ (a b : Int) (M : Mem), eqOp true (.int a) (.int b) M = .ok (.bl (!decide (a = b))) M := fun a b M => by
          unfold eqOp
          by_cases q : a = b <;> simp [now, cmpOk, eqB, q]
        have rl : ∀ (r : Str) (M : Mem), lenF [rowD r] M = .ok (.int r.cps.size) M := fun r M => by
          show Out.ok (D.int (((readNums r).map D.int).length : Int)) M = _
          rw [List.length_map, rowD_len]
        have a0 : atI ((r0 :: rs).map rowD) 0 = some (rowD r0) := atI_nat (j := 0) rfl
        have ix0 : ∀ M, ixA (.lst ((r0 :: rs).map rowD)) (.int 0) M = .ok (rowD r0) M := fun M => by
          unfold ixA
          dsimp only
          unfold ixD itemsOf
          dsimp only
          rw [a0]
        have ne0 : ∀ M, eqOp false (.lst ((r0 :: rs).map rowD)) (.lst []) M = .ok (.bl false) M := fun M => by
          have h1 : cmpOk 40 (.lst ((r0 :: rs).map rowD)) = true := cmpOk_rows (n := 38) (r0 :: rs)
          unfold eqOp
          simp only [now, h1]
          rfl
        have c2 : compGo ⟨(r0 :: rs).map rowD, none⟩ t1__law_due e2__law_due ((r0 :: rs).map rowD) [some (.str x), some (.lst ((r0 :: rs).map rowD))] M = .ok (((r0 :: rs).filter fun r => !decide (r.cps.size = r0.cps.size)).map rowD) M := by
          have c := comp_filter (ds0 := (r0 :: rs).map rowD) (gc := t1__law_due) (ge := e2__law_due) (ρ := [some (.str x), some (.lst ((r0 :: rs).map rowD))]) (p := fun d => match d with | .lst xs => !decide ((xs.length : Int) = r0.cps.size) | _ => true) (f := fun d => d) (M := M) ((r0 :: rs).map rowD)
            (fun d hd => by
              obtain ⟨r, _, rfl⟩ := List.mem_map.mp hd
              have e : t1__law_due (some (rowD r) :: [some (.str x), some (.lst ((r0 :: rs).map rowD))]) M = .ok (!decide ((r.cps.size : Int) = r0.cps.size)) M := by
                unfold t1__law_due
                generalize hR : (r0 :: rs).map rowD = rd at *
                simp [gTst, DL.g2, gBlt, DL.gCons, DL.gNil, gVar, rl, ix0, gC, eqi, asB, DL.bind_ok]
              rw [e]
              have : (((readNums r).map D.int).length : Int) = r.cps.size := by rw [List.length_map, rowD_len]
              show _ = Out.ok (!decide ((((readNums r).map D.int).length : Int) = r0.cps.size)) M
              rw [this])
            (fun d hd => rfl)
          rw [c, List.map_id' _, List.filter_map]
          congr 2
          refine List.filter_congr fun r _ => ?_
          show (!decide ((((readNums r).map D.int).length : Int) = r0.cps.size)) = _
          rw [List.length_map, rowD_len]
          congr 1
          exact decide_eq_decide.mpr (by omega)
        have pb : picB (r0 :: rs) = (decide (1 ≤ r0.cps.size) && decide (r0.cps.size ≤ 40) && decide ((r0 :: rs).length ≤ 40) && (r0 :: rs).all fun r => decide (r.cps.size = r0.cps.size)) := by
          unfold picB
          rw [hb]
          rfl
        unfold dueD
        rw [pb]
        have lf : (((r0 :: rs).filter fun r => !decide (r.cps.size = r0.cps.size)).map rowD).length ≤ sizeLine := by
          rw [List.length_map]
          have := List.length_filter_le (fun r => !decide (r.cps.size = r0.cps.size)) (r0 :: rs)
          omega
        have ef : ∀ M, eqOp true (.lst (((r0 :: rs).filter fun r => !decide (r.cps.size = r0.cps.size)).map rowD)) (.lst []) M = .ok (.bl (!((r0 :: rs).all fun r => decide (r.cps.size = r0.cps.size)))) M := fun M => by
          have h1 : cmpOk 40 (.lst (((r0 :: rs).filter fun r => !decide (r.cps.size = r0.cps.size)).map rowD)) = true := cmpOk_rows (n := 38) _
          unfold eqOp
          simp only [now, h1]
          cases q : (r0 :: rs).filter fun r => !decide (r.cps.size = r0.cps.size) with
          | nil =>
            have : ((r0 :: rs).all fun r => decide (r.cps.size = r0.cps.size)) = true := List.all_eq_true.mpr fun r hr => by
              have := List.filter_eq_nil_iff.mp q r hr
              simpa using this
            rw [this]; rfl
          | cons r rr =>
            have : ((r0 :: rs).all fun r => decide (r.cps.size = r0.cps.size)) = false := by
              have hm : r ∈ (r0 :: rs).filter fun r => !decide (r.cps.size = r0.cps.size) := by rw [q]; exact List.mem_cons_self
              obtain ⟨h1, h2⟩ := List.mem_filter.mp hm
              exact List.all_eq_false.mpr ⟨r, h1, by simpa using h2⟩
            rw [this]; rfl
        have lr : ∀ M, lenF [.lst ((r0 :: rs).map rowD)] M = .ok (.int (r0 :: rs).length) M := fun M => by
          show Out.ok (D.int (((r0 :: rs).map rowD).length : Int)) M = _
          rw [List.length_map]
        have ld : ((r0 :: rs).map rowD).length ≤ sizeLine := by rw [List.length_map]; exact l1
        generalize (r0 :: rs).all (fun r => decide (r.cps.size = r0.cps.size)) = A at *
        generalize ((r0 :: rs).filter fun r => !decide (r.cps.size = r0.cps.size)).map rowD = fd at *
        generalize hP : (r0 :: rs).map rowD = rd at *
        generalize hT : (r0 :: rs).map tupR = td at *
        generalize hn : (r0 :: rs).length = n at *
        have so' : strsO ((r0 :: rs).map D.str) = some (r0 :: rs) := so
        clear so
        generalize hS : (r0 :: rs).map D.str = sd at *
        unfold F__law_due g__law_due
        have cl : ∀ (a b : Int) (M : Mem), leD (.int a) (.int b) M = .ok (.bl (decide (a ≤ b))) M := fun a b M => rfl
        have cg : ∀ (a b : Int) (M : Mem), gtD (.int a) (.int b) M = .ok (.bl (decide (b < a))) M := fun a b M => rfl
        by_cases k3 : (n : Int) ≤ 40
        · have q3 : n ≤ 40 := by omega
          have k3' : ¬ (40 : Int) < n := by omega
          by_cases k1 : (1 : Int) ≤ r0.cps.size
          · have q1 : 1 ≤ r0.cps.size := by omega
            by_cases k2 : (r0.cps.size : Int) ≤ 40
            · have q2 : r0.cps.size ≤ 40 := by omega
              rw [decide_eq_true q1, decide_eq_true q2, decide_eq_true q3]
              cases A <;> simp [sSeq, sSet, gComp, gItsA, gCall, DL.gCons, DL.gNil, gMethS, gC, gVar, sp, joinF, lstOf, so', jo, hy, ir, itsA, itsOf, c1, c2, mkLst, ld, lf, runD, rho0, retOf, sIf, gOrT, gNotT, gTst, DL.g2, inx, asB, sRet, DL.gTup, mkTup, tx, gLst, z0, ne0, gBlt, lr, ix0, rl, gCh, cl, cg, k1, k2, k3', ef, sNext, DL.bind_ok]
            · have q2 : ¬ r0.cps.size ≤ 40 := by omega
              rw [decide_eq_false q2]
              simp [sSeq, sSet, gComp, gItsA, gCall, DL.gCons, DL.gNil, gMethS, gC, gVar, sp, joinF, lstOf, so', jo, hy, ir, itsA, itsOf, c1, mkLst, ld, runD, rho0, retOf, sIf, gOrT, gNotT, gTst, DL.g2, inx, asB, sRet, DL.gTup, mkTup, tx, gLst, z0, ne0, gBlt, lr, ix0, rl, gCh, cl, cg, k1, k2, k3', DL.bind_ok]
          · have q1 : ¬ 1 ≤ r0.cps.size := by omega
            rw [decide_eq_false q1]
            simp [sSeq, sSet, gComp, gItsA, gCall, DL.gCons, DL.gNil, gMethS, gC, gVar, sp, joinF, lstOf, so', jo, hy, ir, itsA, itsOf, c1, mkLst, ld, runD, rho0, retOf, sIf, gOrT, gNotT, gTst, DL.g2, inx, asB, sRet, DL.gTup, mkTup, tx, gLst, z0, ne0, gBlt, lr, ix0, rl, gCh, cl, cg, k1, k3', DL.bind_ok]
        · have q3 : ¬ n ≤ 40 := by omega
          have k3' : (40 : Int) < n := by omega
          rw [decide_eq_false q3]
          simp [sSeq, sSet, gComp, gItsA, gCall, DL.gCons, DL.gNil, gMethS, gC, gVar, sp, joinF, lstOf, so', jo, hy, ir, itsA, itsOf, c1, mkLst, ld, runD, rho0, retOf, sIf, gOrT, gTst, DL.g2, inx, asB, sRet, DL.gTup, mkTup, tx, gLst, z0, ne0, gBlt, lr, cg, k3', DL.bind_ok]
/-! a row of texts turned -/
theorem ixN_nat {n k : Nat} (h : k < n) : ixN n (k : Int) = some k := by
  unfold ixN
  rw [if_pos (by omega)]
  simp [h]
theorem mapStr_at {xs : List Str} {n : Nat} (h : n < xs.length) : (xs.map D.str)[n]? = some (.str xs[n]) := by
  rw [List.getElem?_map, List.getElem?_eq_getElem h]; rfl
theorem erase_map : ∀ (xs : List Str) (n : Nat), (xs.map D.str).eraseIdx n = (xs.eraseIdx n).map D.str
  | [], _ => by simp
  | x :: xs, 0 => by simp
  | x :: xs, n + 1 => by simp [erase_map xs n]
theorem mem_set1 {xs : List Str} {n : Nat} {t y : Str} (h : y ∈ xs.set n t) : y ∈ xs ∨ y = t := by
  rcases List.mem_or_eq_of_mem_set h with h | h
  · exact .inl h
  · exact .inr h
def tnB : GS := (sIf (gTst (g2 (eqOp false) (gVar 1) (gC (.int 0)))) (sSub (gVar 0) (gVar 2) (gVar 3)) (sIf (gTst (g2 (eqOp false) (gVar 1) (gC (.int 1)))) (sDrop (gMM popF (gVar 0) (DL.gCons (gVar 2) DL.gNil))) (sSeq (sSet 4 (g2 ixA (gVar 0) (gVar 2))) (sSeq (sSub (gVar 0) (gVar 2) (g2 ixA (gVar 0) (g2 modD (g2 addD (gVar 2) (gC (.int 1))) (gBlt lenF (DL.gCons (gVar 0) DL.gNil))))) (sSub (gVar 0) (g2 modD (g2 addD (gVar 2) (gC (.int 1))) (gBlt lenF (DL.gCons (gVar 0) DL.gNil))) (gVar 4))))))
def tnC : GT := (gOrT (gTst (g2 (eqOp false) (gVar 1) (gC (.int 2)))) (gTst (g2 (eqOp false) (gBlt lenF (DL.gCons (gVar 0) DL.gNil)) (gC (.int 0)))))
def tnI : GS := (sSeq (sDrop (gMM insF (gVar 0) (DL.gCons (g2 modD (gVar 2) (g2 addD (gBlt lenF (DL.gCons (gVar 0) DL.gNil)) (gC (.int 1)))) (DL.gCons (gVar 3) DL.gNil)))) (sRet (gVar 0)))
theorem turned_eq (ρ : Rho) (M : Mem) : g__law_turned ρ M = sSeq (sSet 0 (gBlt listMA (DL.gCons (gVar 0) DL.gNil))) (sSeq (sIf tnC tnI sNext) (sSeq (sSet 2 (g2 modD (gVar 2) (gBlt lenF (DL.gCons (gVar 0) DL.gNil)))) (sSeq tnB (sRet (gVar 0))))) ρ M := rfl
theorem eqi_f (a b : Int) (M : Mem) : eqOp false (.int a) (.int b) M = .ok (.bl (decide (a = b))) M := by
  unfold eqOp
  by_cases q : a = b <;> simp [now, cmpOk, eqB, q]
theorem mr_at (M : Mem) (E : List D) : (M ++ [MO.lst E])[M.length]? = some (.lst E) := by simp
theorem mr_set (M : Mem) (E E' : List D) : (M ++ [MO.lst E]).set M.length (.lst E') = M ++ [MO.lst E'] := by simp
theorem mr_ls (M : Mem) (E : List D) : lsM (M ++ [MO.lst E]) M.length = some E := by simp [lsM]
theorem mr_items (M : Mem) (E : List D) : itemsOf (.mr M.length) (M ++ [MO.lst E]) = some E := by simp [itemsOf]
theorem mr_len (M : Mem) (E : List D) : lenF [.mr M.length] (M ++ [MO.lst E]) = .ok (.int E.length) (M ++ [MO.lst E]) := by
  show (match itemsOf (.mr M.length) (M ++ [MO.lst E]) with | some xs => Out.ok (D.int xs.length) (M ++ [MO.lst E]) | none => .bad) = _
  rw [mr_items]
theorem mr_ix (M : Mem) {E : List D} {k : Nat} {d : D} (h : E[k]? = some d) : ixA (.mr M.length) (.int k) (M ++ [MO.lst E]) = .ok d (M ++ [MO.lst E]) := by
  have a := atI_nat (xs := E) (j := k) h
  show ixD (.mr M.length) (.int k) (M ++ [MO.lst E]) = _
  unfold ixD
  rw [mr_items]
  dsimp only
  rw [a]
theorem lt62 {i : Int} (h : i < 1000000) : i < 2 ^ 62 := Int.lt_trans h (by decide)
theorem pop_at {xs : List D} {i : Int} {d : D} (h0 : 0 ≤ i) (h1 : i < 1000000) (h : xs[i.toNat]? = some d) : popF xs [.int i] = some (d, xs.eraseIdx i.toNat) := by
  have b2 := lt62 h1
  unfold popF
  split
  · rename_i j e
    cases e
    rw [if_pos ⟨h0, b2⟩, h]; rfl
  · rename_i e
    exact absurd rfl (e i)
theorem gMM_ok {F : List D → List D → Option (D × List D)} {go : GE} {ga : GA} {ρ : Rho} {M : Mem} {k : Nat} {xs ds : List D} {r : D × List D} (h1 : go ρ M = .ok (.mr k) M) (h2 : lsM M k = some xs) (h3 : ga ρ M = .ok ds M) (h4 : F xs ds = some r) : gMM F go ga ρ M = .ok r.1 (M.set k (.lst r.2)) := by
  unfold gMM
  rw [h1, DL.bind_ok]
  dsimp only
  rw [h2]
  dsimp only
  rw [h3, DL.bind_ok, h2]
  dsimp only
  rw [h4]
theorem turned_in {xs : List Str} {d0 : D} {M : Mem} {way at_ : Int} {t : Str} (h0 : listMA [d0] M = .ok (.mr M.length) (M ++ [.lst (xs.map D.str)])) (hx : xs.length ≤ 90000) (hA : way = 2 ∨ xs = []) :
    F__law_turned [d0, .int way, .int at_, .str t] M = .ok (.mr M.length) (M ++ [.lst ((xs.take (at_ % ((xs.length : Int) + 1)).toNat ++ t :: xs.drop (at_ % ((xs.length : Int) + 1)).toNat).map D.str)]) := by
  have lX : (xs.map D.str).length = xs.length := List.length_map ..
  have hm0 : 0 ≤ at_ % ((xs.length : Int) + 1) := Int.emod_nonneg _ (by omega)
  have hm1 : at_ % ((xs.length : Int) + 1) < xs.length + 1 := Int.emod_lt_of_pos _ (by omega)
  have ins : insF (xs.map D.str) [.int (at_ % ((xs.length : Int) + 1)), .str t] = some (.non, (xs.take (at_ % ((xs.length : Int) + 1)).toNat ++ t :: xs.drop (at_ % ((xs.length : Int) + 1)).toNat).map D.str) := by
    have b1 : (xs.map D.str).length < sizeLine := by rw [lX, sizeLine_eq]; exact Nat.lt_of_le_of_lt hx (by decide)
    have b2 := lt62 (i := at_ % ((xs.length : Int) + 1)) (by omega)
    show (if 0 ≤ at_ % ((xs.length : Int) + 1) ∧ at_ % ((xs.length : Int) + 1) < 2 ^ 62 ∧ (xs.map D.str).length < sizeLine then _ else _) = _
    rw [if_pos ⟨hm0, b2, b1⟩, List.map_append, List.map_cons, List.map_take, List.map_drop]
  have po : (0 : Int) < (xs.length : Int) + 1 := by omega
  have md : ∀ M, modD (.int at_) (.int ((xs.length : Int) + 1)) M = .ok (.int (at_ % ((xs.length : Int) + 1))) M := fun M => by unfold modD; dsimp only; rw [if_pos po]
  generalize at_ % ((xs.length : Int) + 1) = i at *
  generalize hY : (xs.take i.toNat ++ t :: xs.drop i.toNat).map D.str = yd at *
  have l1 := mr_len M (xs.map D.str)
  rw [lX] at l1
  have cond : tnC [some (.mr M.length), some (.int way), some (.int at_), some (.str t), none] (M ++ [MO.lst (xs.map D.str)]) = .ok true (M ++ [MO.lst (xs.map D.str)]) := by
    unfold tnC
    rcases hA with h | h
    · simp [gOrT, gTst, DL.g2, gVar, gC, eqi_f, h, asB, DL.bind_ok]
    · by_cases h2 : way = 2
      · simp [gOrT, gTst, DL.g2, gVar, gC, eqi_f, h2, asB, DL.bind_ok]
      · have z : xs.length = 0 := by rw [h]; rfl
        rw [z] at l1
        generalize xs.map D.str = xd at *
        simp [gOrT, gTst, DL.g2, gVar, gC, eqi_f, h2, asB, gBlt, DL.gCons, DL.gNil, l1, DL.bind_ok]
  have ls := mr_ls M (xs.map D.str)
  have ss := mr_set M (xs.map D.str) yd
  generalize xs.map D.str = xd at *
  have body : tnI [some (.mr M.length), some (.int way), some (.int at_), some (.str t), none] (M ++ [MO.lst xd]) = .ok (.rt (.mr M.length)) (M ++ [MO.lst yd]) := by
    unfold tnI
    simp [sSeq, sDrop, gMM, gVar, ls, DL.gCons, DL.gNil, DL.g2, gBlt, l1, addD, gC, md, ins, ss, sRet, DL.bind_ok]
  show retOf (g__law_turned [some d0, some (.int way), some (.int at_), some (.str t), none] M) = _
  rw [turned_eq]
  simp [sSeq, sSet, gBlt, DL.gCons, DL.gNil, gVar, h0, sIf, cond, body, retOf, DL.bind_ok]
theorem turned_fin {xs ys : List Str} {d0 : D} {M : Mem} {way at_ : Int} {t : Str} {n : Nat} {z : Option D} (h0 : listMA [d0] M = .ok (.mr M.length) (M ++ [.lst (xs.map D.str)])) (h2 : ¬ way = 2) (hne : xs ≠ []) (hn : at_ % (xs.length : Int) = n)
    (e : tnB [some (.mr M.length), some (.int way), some (.int n), some (.str t), none] (M ++ [MO.lst (xs.map D.str)]) = .ok (.nx [some (.mr M.length), some (.int way), some (.int n), some (.str t), z]) (M ++ [MO.lst (ys.map D.str)])) :
    F__law_turned [d0, .int way, .int at_, .str t] M = .ok (.mr M.length) (M ++ [.lst (ys.map D.str)]) := by
  have hp : 0 < xs.length := List.length_pos_iff.mpr hne
  have po : (0 : Int) < (xs.length : Int) := by omega
  have md : ∀ M, modD (.int at_) (.int (xs.length : Int)) M = .ok (.int n) M := fun M => by unfold modD; dsimp only; rw [if_pos po, hn]
  have l1 := mr_len M (xs.map D.str)
  rw [List.length_map] at l1
  have cond : tnC [some (.mr M.length), some (.int way), some (.int at_), some (.str t), none] (M ++ [MO.lst (xs.map D.str)]) = .ok false (M ++ [MO.lst (xs.map D.str)]) := by
    unfold tnC
    have z : ¬ (xs.length : Int) = 0 := by omega
    generalize xs.map D.str = xd at *
    generalize hL : (xs.length : Int) = L at *
    simp [gOrT, gTst, DL.g2, gVar, gC, eqi_f, h2, asB, gBlt, DL.gCons, DL.gNil, l1, z, DL.bind_ok]
  generalize xs.map D.str = xd at *
  generalize ys.map D.str = yd at *
  show retOf (g__law_turned [some d0, some (.int way), some (.int at_), some (.str t), none] M) = _
  rw [turned_eq]
  generalize tnB = body at *
  simp [sSeq, sSet, gBlt, DL.gCons, DL.gNil, gVar, h0, sIf, cond, sNext, DL.g2, l1, md, e, sRet, retOf, DL.bind_ok]
theorem tn_set {xs : List Str} {M : Mem} {t : Str} {n : Nat} (hn : n < xs.length) :
    tnB [some (.mr M.length), some (.int 0), some (.int n), some (.str t), none] (M ++ [MO.lst (xs.map D.str)]) = .ok (.nx [some (.mr M.length), some (.int 0), some (.int n), some (.str t), none]) (M ++ [MO.lst ((xs.set n t).map D.str)]) := by
  have ix : ixN (xs.map D.str).length (n : Int) = some n := by rw [List.length_map]; exact ixN_nat hn
  have e2 : (xs.map D.str).set n (.str t) = (xs.set n t).map D.str := List.map_set.symm
  have gt := mr_at M (xs.map D.str)
  have ss := mr_set M (xs.map D.str) ((xs.set n t).map D.str)
  generalize hY : (xs.set n t).map D.str = yd at *
  generalize hX : xs.map D.str = xd at *
  unfold tnB
  simp [sIf, gTst, DL.g2, gVar, gC, eqi_f, asB, sSub, setD, gt, ix, e2, ss, DL.bind_ok]
theorem tn_pop {xs : List Str} {M : Mem} {t : Str} {n : Nat} (hn : n < xs.length) (hx : xs.length ≤ 90000) :
    tnB [some (.mr M.length), some (.int 1), some (.int n), some (.str t), none] (M ++ [MO.lst (xs.map D.str)]) = .ok (.nx [some (.mr M.length), some (.int 1), some (.int n), some (.str t), none]) (M ++ [MO.lst ((xs.eraseIdx n).map D.str)]) := by
  have pf : popF (xs.map D.str) [.int n] = some (.str xs[n], (xs.eraseIdx n).map D.str) := by
    rw [pop_at (i := (n : Int)) (d := .str xs[n]) (by omega) (by omega) (by rw [Int.toNat_natCast]; exact mapStr_at hn), Int.toNat_natCast, erase_map]
  have ls := mr_ls M (xs.map D.str)
  have ss := mr_set M (xs.map D.str) ((xs.eraseIdx n).map D.str)
  generalize hY : (xs.eraseIdx n).map D.str = yd at *
  generalize hX : xs.map D.str = xd at *
  have g := gMM_ok (F := popF) (go := gVar 0) (ga := DL.gCons (gVar 2) DL.gNil) (ρ := [some (.mr M.length), some (.int 1), some (.int n), some (.str t), none]) (M := M ++ [MO.lst xd]) (ds := [.int n]) rfl ls rfl pf
  unfold tnB
  generalize gMM popF (gVar 0) (DL.gCons (gVar 2) DL.gNil) = gm at *
  simp [sIf, gTst, DL.g2, gVar, gC, eqi_f, asB, sDrop, g, ss, DL.bind_ok]
theorem tn_swap {xs : List Str} {M : Mem} {t : Str} {n m : Nat} {way : Int} (w0 : ¬ way = 0) (w1 : ¬ way = 1) (hn : n < xs.length) (hm : m < xs.length) (hk : ((n : Int) + 1) % (xs.length : Int) = m) :
    tnB [some (.mr M.length), some (.int way), some (.int n), some (.str t), none] (M ++ [MO.lst (xs.map D.str)]) = .ok (.nx [some (.mr M.length), some (.int way), some (.int n), some (.str t), some (.str xs[n])]) (M ++ [MO.lst (((xs.set n xs[m]).set m xs[n]).map D.str)]) := by
  have po : (0 : Int) < (xs.length : Int) := by omega
  have md2 : ∀ M, modD (.int ((n : Int) + 1)) (.int (xs.length : Int)) M = .ok (.int m) M := fun M => by unfold modD; dsimp only; rw [if_pos po, hk]
  have xn := mr_ix M (mapStr_at hn)
  have xm := mr_ix M (mapStr_at hm)
  have i1 : ixN (xs.map D.str).length (n : Int) = some n := by rw [List.length_map]; exact ixN_nat hn
  have e2 : (xs.map D.str).set n (.str xs[m]) = (xs.set n xs[m]).map D.str := List.map_set.symm
  have i2 : ixN ((xs.set n xs[m]).map D.str).length (m : Int) = some m := by rw [List.length_map, List.length_set]; exact ixN_nat hm
  have e3 : ((xs.set n xs[m]).map D.str).set m (.str xs[n]) = ((xs.set n xs[m]).set m xs[n]).map D.str := List.map_set.symm
  have l2 := mr_len M (xs.map D.str)
  rw [List.length_map] at l2
  have l3 := mr_len M ((xs.set n xs[m]).map D.str)
  rw [List.length_map, List.length_set] at l3
  have gt := mr_at M
  have ss := mr_set M
  generalize hA' : xs[n] = a at *
  generalize hB' : xs[m] = b at *
  generalize hY : ((xs.set n b).set m a).map D.str = yd at *
  generalize hZ : (xs.set n b).map D.str = zd at *
  generalize hX : xs.map D.str = xd at *
  generalize hL : (xs.length : Int) = L at *
  unfold tnB
  simp [sIf, gTst, DL.g2, gVar, gC, eqi_f, w0, w1, asB, sSeq, sSet, xn, xm, addD, gBlt, DL.gCons, DL.gNil, l2, l3, md2, sSub, setD, gt, i1, e2, i2, e3, DL.bind_ok]
theorem turned_ok {xs : List Str} {d0 : D} {M : Mem} {way at_ : Int} {t : Str} (h0 : listMA [d0] M = .ok (.mr M.length) (M ++ [.lst (xs.map D.str)])) (hx : xs.length ≤ 90000) :
    ∃ ys : List Str, (∀ y ∈ ys, y ∈ xs ∨ y = t) ∧ ys.length ≤ xs.length + 1 ∧ F__law_turned [d0, .int way, .int at_, .str t] M = .ok (.mr M.length) (M ++ [.lst (ys.map D.str)]) := by
  by_cases hA : way = 2 ∨ xs = []
  · refine ⟨_, fun y hy => ?_, ?_, turned_in h0 hx hA⟩
    · rcases List.mem_append.mp hy with h | h
      · exact .inl (List.mem_of_mem_take h)
      · rcases List.mem_cons.mp h with h | h
        · exact .inr h
        · exact .inl (List.mem_of_mem_drop h)
    · simp; omega
  · have h2 : ¬ way = 2 := fun z => hA (.inl z)
    have hne : xs ≠ [] := fun z => hA (.inr z)
    have hp : 0 < xs.length := List.length_pos_iff.mpr hne
    have hm0 : 0 ≤ at_ % (xs.length : Int) := Int.emod_nonneg _ (by omega)
    have hm1 : at_ % (xs.length : Int) < xs.length := Int.emod_lt_of_pos _ (by omega)
    obtain ⟨n, hn⟩ := Int.eq_ofNat_of_zero_le hm0
    have hn1 : n < xs.length := by omega
    have hk0 : 0 ≤ ((n : Int) + 1) % (xs.length : Int) := Int.emod_nonneg _ (by omega)
    have hk1 : ((n : Int) + 1) % (xs.length : Int) < xs.length := Int.emod_lt_of_pos _ (by omega)
    obtain ⟨m, hm⟩ := Int.eq_ofNat_of_zero_le hk0
    have hm2 : m < xs.length := by omega
    by_cases w0 : way = 0
    · subst w0
      exact ⟨_, fun y hy => mem_set1 hy, by simp, turned_fin h0 h2 hne hn (tn_set hn1)⟩
    · by_cases w1 : way = 1
      · subst w1
        exact ⟨_, fun y hy => .inl (List.mem_of_mem_eraseIdx hy), by rw [List.length_eraseIdx]; split <;> omega, turned_fin h0 h2 hne hn (tn_pop hn1 hx)⟩
      · refine ⟨_, fun y hy => ?_, ?_, turned_fin h0 h2 hne hn (tn_swap w0 w1 hn1 hm2 hm)⟩
        · rcases mem_set1 hy with h | h
          · rcases mem_set1 h with h | h
            · exact .inl h
            · exact .inl (h ▸ List.getElem_mem hm2)
          · exact .inl (h ▸ List.getElem_mem hn1)
        · simp
/-! a text bent -/
def bn4t : GT := (gAndT (gTst (g2 (eqOp false) (gVar 3) (gC (.int 0)))) (gTst (g2 (eqOp true) (gVar 1) (gC (.str "")))))
def bn4a : GS := (sSeq (sSet 5 (g2 ixA (gLst (DL.gCons (g2 ixA (gVar 2) (gCall 2 F__law_draw (DL.gCons (gVar 0) (DL.gCons (gBlt lenF (DL.gCons (gVar 2) DL.gNil)) DL.gNil)))) (DL.gCons (g2 ixA (gVar 1) (gCall 2 F__law_draw (DL.gCons (gVar 0) (DL.gCons (gBlt lenF (DL.gCons (gVar 1) DL.gNil)) DL.gNil)))) DL.gNil))) (gCall 2 F__law_draw (DL.gCons (gVar 0) (DL.gCons (gC (.int 2)) DL.gNil))))) (sRet (gMethS joinF (gC (.str "")) (gCall 4 F__law_turned (DL.gCons (gBlt listA (DL.gCons (gVar 1) DL.gNil)) (DL.gCons (gVar 4) (DL.gCons (gCall 2 F__law_draw (DL.gCons (gVar 0) (DL.gCons (g2 addD (gBlt lenF (DL.gCons (gVar 1) DL.gNil)) (gC (.int 1))) DL.gNil))) (DL.gCons (gVar 5) DL.gNil))))))))
def bn4 : GS := (sIf bn4t bn4a sNext)
def bn6a : GS := (sSeq (sSet 7 (g2 ixA (gVar 6) (gCall 2 F__law_draw (DL.gCons (gVar 0) (DL.gCons (gBlt lenF (DL.gCons (gVar 6) DL.gNil)) DL.gNil))))) (sRet (gMethS joinF (gC (.str "\n")) (gCall 4 F__law_turned (DL.gCons (gVar 6) (DL.gCons (gVar 4) (DL.gCons (gCall 2 F__law_draw (DL.gCons (gVar 0) (DL.gCons (g2 addD (gBlt lenF (DL.gCons (gVar 6) DL.gNil)) (gC (.int 1))) DL.gNil))) (DL.gCons (gVar 7) DL.gNil))))))))
def bn6 : GS := (sIf (gTst (g2 (eqOp false) (gVar 3) (gC (.int 1)))) bn6a sNext)
def bn9 : GS := (sSet 10 (gLst (DL.gCons (gC (.str "off")) (DL.gCons (gC (.str "0")) (DL.gCons (gC (.str "-1")) (DL.gCons (gC (.str "-0")) (DL.gCons (gC (.str "00")) (DL.gCons (gC (.str "1001")) (DL.gCons (gC (.str "-1001")) (DL.gCons (gC (.str "16")) (DL.gCons (gC (.str "64")) (DL.gCons (gC (.str "move")) (DL.gCons (gC (.str "pot")) (DL.gCons (gC (.str "at")) (DL.gCons (gC (.str "shape")) (DL.gCons (gC (.str "")) (DL.gCons (gC (.str "12345")) DL.gNil)))))))))))))))))
def bn11 : GS := (sSet 11 (g2 ixA (g2 addD (gVar 10) (gVar 9)) (gCall 2 F__law_draw (DL.gCons (gVar 0) (DL.gCons (g2 addD (gC (.int 17)) (gBlt lenF (DL.gCons (gVar 9) DL.gNil))) DL.gNil)))))
def bn12 : GS := (sSub (gVar 6) (gVar 8) (gMethS joinF (gC (.str " ")) (gCall 4 F__law_turned (DL.gCons (gVar 9) (DL.gCons (gVar 4) (DL.gCons (gCall 2 F__law_draw (DL.gCons (gVar 0) (DL.gCons (g2 addD (gBlt lenF (DL.gCons (gVar 9) DL.gNil)) (gC (.int 1))) DL.gNil))) (DL.gCons (gVar 11) DL.gNil)))))))
theorem bn_eq (ρ : Rho) (M : Mem) : g__law_bent ρ M = (sSeq (sSet 2 (gC (.str " !\"#$&'()*+,-./0123456789:;<=>?@ABCDEFGHIJKLMNOPQRSTUVWXYZ[\\]^_`abcdefghijklm"))) (sSeq (sSet 2 (g2 addD (gVar 2) (gC (.str "nopqrstuvwxyz{|}~\n")))) (sSeq (sSet 3 (gCall 2 F__law_draw (DL.gCons (gVar 0) (DL.gCons (gC (.int 3)) DL.gNil)))) (sSeq (sSet 4 (gCall 2 F__law_draw (DL.gCons (gVar 0) (DL.gCons (gC (.int 4)) DL.gNil)))) (sSeq bn4 (sSeq (sSet 6 (gMethS splitM (gVar 1) (gC (.str "\n")))) (sSeq bn6 (sSeq (sSet 8 (gCall 2 F__law_draw (DL.gCons (gVar 0) (DL.gCons (gBlt lenF (DL.gCons (gVar 6) DL.gNil)) DL.gNil)))) (sSeq (sSet 9 (gMethS splitM (g2 ixA (gVar 6) (gVar 8)) (gC (.str " ")))) (sSeq bn9 (sSeq (sSet 10 (g2 addD (gVar 10) (gLst (DL.gCons (gC (.str "g")) (DL.gCons (gC (.str "0/1")) DL.gNil))))) (sSeq bn11 (sSeq bn12 (sRet (gMethS joinF (gC (.str "\n")) (gVar 6)))))))))))))))) ρ M := rfl
def sg2 : Str := (" !\"#$&'()*+,-./0123456789:;<=>?@ABCDEFGHIJKLMNOPQRSTUVWXYZ[\\]^_`abcdefghijklm" : Str) ++ ("nopqrstuvwxyz{|}~\n" : Str)
theorem sg2_len : sg2.cps.size = 95 := by decide +kernel
theorem ixA_str {x : Str} {f : Int} (h0 : 0 ≤ f) (h1 : f < x.cps.size) (hx : x.cps.size ≤ 90000) : ∃ c, ∀ M, ixA (.str x) (.int f) M = .ok (.str ⟨#[c]⟩) M := by
  obtain ⟨n, rfl⟩ := Int.eq_ofNat_of_zero_le h0
  have hn : n < x.cps.toList.length := by simp; omega
  refine ⟨x.cps.toList[n], fun M => ?_⟩
  have e := atI_nat (xs := x.cps.toList) (j := n) (List.getElem?_eq_getElem hn)
  have hl : x.length ≤ sizeLine := le_line (show x.cps.size ≤ 1000000 by omega)
  show (if x.length ≤ sizeLine then (match atI x.cps.toList (n : Int) with | some c => Out.ok (D.str ⟨#[c]⟩) M | none => .bad) else .bad) = _
  rw [if_pos hl, e]
theorem ixA_two {a b : Str} {f : Int} (h0 : 0 ≤ f) (h1 : f < 2) : ∃ t, (t = a ∨ t = b) ∧ ∀ M, ixA (.lst [.str a, .str b]) (.int f) M = .ok (.str t) M := by
  have : f = 0 ∨ f = 1 := by omega
  rcases this with rfl | rfl
  · exact ⟨a, .inl rfl, fun M => rfl⟩
  · exact ⟨b, .inr rfl, fun M => rfl⟩
theorem len_str {x : Str} (hx : x.cps.size ≤ 90000) (M : Mem) : lenF [.str x] M = .ok (.int x.cps.size) M := by
  have hl : x.length ≤ sizeLine := le_line (show x.cps.size ≤ 1000000 by omega)
  show (if x.length ≤ sizeLine then Out.ok (D.int x.length) M else .bad) = _
  rw [if_pos hl]; rfl
theorem sum_le {B : Nat} {ys : List Str} (h : ∀ y ∈ ys, y.cps.size ≤ B) : (ys.map (·.length)).sum ≤ ys.length * B := StrLaws.sumLen_le ys h
theorem join_le {sep : Str} {ys : List Str} : (Txt.join sep ys).cps.size ≤ (ys.map (·.length)).sum + ys.length * sep.length := by
  rw [tjoin]; exact StrLaws.join_length_le sep ys
theorem lst_mr {M : Mem} {k : Nat} {xs : List D} (hm : M[k]? = some (.lst xs)) : lstOf (.mr k) M = some xs := by simp [lstOf, hm]
theorem items_mr {M : Mem} {k : Nat} {xs : List D} (hm : M[k]? = some (.lst xs)) : itemsOf (.mr k) M = some xs := by simp [itemsOf, hm]
/-- joined what is few and short -/
theorem joined {sep : Str} {ys : List Str} {M : Mem} {k n B s : Nat} (hm : M[k]? = some (.lst (ys.map D.str))) (hn : ys.length ≤ n) (hB : ∀ y ∈ ys, y.cps.size ≤ B) (hs : sep.length ≤ s) (hb : n * B + n * s ≤ 90000) :
    joinF sep (.mr k) M = .ok (.str (Txt.join sep ys)) M ∧ (Txt.join sep ys).cps.size ≤ 90000 := by
  have h1 := sum_le hB
  have h2 : ys.length * B ≤ n * B := Nat.mul_le_mul_right _ hn
  have h3 : ys.length * sep.length ≤ n * s := Nat.mul_le_mul hn hs
  have h4 := join_le (sep := sep) (ys := ys)
  have so : strsO (ys.map D.str) = some ys := by
    have := strsO_map (fun p : Str => p) ys
    rwa [List.map_id' ys] at this
  have jo : JoinOk sep ys = true := joinOk_sum (by omega)
  refine ⟨?_, by omega⟩
  unfold joinF
  rw [lst_mr hm]
  dsimp only
  rw [so]
  dsimp only
  rw [if_pos jo]
theorem bent0 {l : List Int} {rest M : Mem} {x : Str} {lv way : Int} {x5 x6 x7 x8 x9 x10 x11 : Option D} (hM : Tape l rest M) (hx : x.cps.size ≤ 2000) (hx0 : 0 < x.cps.size) :
    ∃ y i c E, 0 ≤ i ∧ y.cps.size ≤ 90000 ∧ bn4a [some (.mr 0), some (.str x), some (.str sg2), some (.int lv), some (.int way), x5, x6, x7, x8, x9, x10, x11] M = .ok (.rt (.str y)) (tp l i c :: (rest ++ E)) := by
  obtain ⟨f1, M1, a1, b1, t1, e1⟩ := draw_ok (many := 95) (by decide) (log_small (by decide) (by decide)) hM
  obtain ⟨f2, M2, a2, b2, t2, e2⟩ := draw_ok (many := (x.cps.size : Int)) (by omega) (log_small (by omega) (by omega)) t1
  obtain ⟨f3, M3, a3, b3, t3, e3⟩ := draw_ok (many := 2) (by decide) (log_small (by decide) (by decide)) t2
  obtain ⟨f4, M4, a4, b4, t4, e4⟩ := draw_ok (many := (x.cps.size : Int) + 1) (by omega) (log_small (by omega) (by omega)) t3
  obtain ⟨c1, k1⟩ := ixA_str (x := sg2) (f := f1) a1 (by rw [sg2_len]; omega) (by rw [sg2_len]; decide)
  obtain ⟨c2, k2⟩ := ixA_str (x := x) (f := f2) a2 b2 (by omega)
  obtain ⟨t, ht, k3⟩ := ixA_two (a := ⟨#[c1]⟩) (b := ⟨#[c2]⟩) a3 b3
  have l1 := len_str (x := sg2) (by rw [sg2_len]; decide)
  rw [sg2_len] at l1
  have l2 := len_str (x := x) (by omega)
  have two : (2 : Nat) ≤ sizeLine := le_line (by decide)
  obtain ⟨i, c, hi, rfl⟩ := t4
  have hla : ∀ M, listA [.str x] M = .ok (.lst ((x.cps.toList.map fun c => (⟨#[c]⟩ : Str)).map D.str)) M := fun M => by
    have hl : x.cps.size ≤ sizeLine := le_line (by omega)
    show (if x.cps.size ≤ sizeLine then Out.ok (D.lst (signsD x)) M else .bad) = _
    rw [if_pos hl, List.map_map]; rfl
  have hxl : (x.cps.toList.map fun c => (⟨#[c]⟩ : Str)).length = x.cps.size := by simp
  obtain ⟨ys, hy, ly, ey⟩ := turned_ok (xs := x.cps.toList.map fun c => (⟨#[c]⟩ : Str)) (d0 := .lst ((x.cps.toList.map fun c => (⟨#[c]⟩ : Str)).map D.str)) (M := tp l i c :: rest) (way := way) (at_ := f4) (t := t) rfl (by rw [hxl]; omega)
  have hy1 : ∀ y ∈ ys, y.cps.size ≤ 1 := fun y h => by
    rcases hy y h with h | h
    · obtain ⟨n, _, rfl⟩ := List.mem_map.mp h; exact Nat.le_refl 1
    · rcases ht with q | q <;> rw [h, q] <;> exact Nat.le_refl 1
  have hm : ((tp l i c :: rest) ++ [MO.lst (ys.map D.str)])[(tp l i c :: rest).length]? = some (.lst (ys.map D.str)) := by simp
  obtain ⟨ej, sj⟩ := joined (sep := "") (n := 2001) (B := 1) (s := 0) hm (by omega) hy1 (by decide +kernel) (by decide)
  refine ⟨_, i, c, [.lst (ys.map D.str)], hi, sj, ?_⟩
  generalize hX : (x.cps.toList.map fun c => (⟨#[c]⟩ : Str)).map D.str = xd at *
  generalize ys.map D.str = yd at *
  generalize Txt.join "" ys = y at *
  rw [List.cons_append] at ey ej
  generalize (tp l i c :: rest).length = k at *
  unfold bn4a
  simp [sSeq, sSet, DL.g2, gLst, mkLst, gVar, gCall, DL.gCons, DL.gNil, gBlt, l1, l2, e1, e2, e3, e4, k1, k2, k3, two, gC, sRet, gMethS, hla, addD, ey, ej, DL.bind_ok]
theorem ixA_mr {M : Mem} {k n : Nat} {xs : List Str} (hm : M[k]? = some (.lst (xs.map D.str))) (h : n < xs.length) : ixA (.mr k) (.int n) M = .ok (.str xs[n]) M := by
  have a := atI_nat (xs := xs.map D.str) (j := n) (mapStr_at h)
  show ixD (.mr k) (.int n) M = _
  unfold ixD
  rw [items_mr hm]
  dsimp only
  rw [a]
theorem len_mr {M : Mem} {k : Nat} {xs : List D} (hm : M[k]? = some (.lst xs)) : lenF [.mr k] M = .ok (.int xs.length) M := by
  show (match itemsOf (.mr k) M with | some xs => Out.ok (D.int xs.length) M | none => .bad) = _
  rw [items_mr hm]
theorem list_mr {M : Mem} {k : Nat} {xs : List D} (hm : M[k]? = some (.lst xs)) : listMA [.mr k] M = .ok (.mr M.length) (M ++ [.lst xs]) := by
  show (match itemsOf (.mr k) M with | some xs => Out.ok (D.mr M.length) (M ++ [MO.lst xs]) | none => .bad) = _
  rw [items_mr hm]
theorem bent1 {l : List Int} {rest M : Mem} {ps : List Str} {lv way : Int} {x1 x2 x5 x7 x8 x9 x10 x11 : Option D} (hM : Tape l (rest ++ [.lst (ps.map D.str)]) M) (hp0 : 0 < ps.length) (hp : ps.length ≤ 40) (hB : ∀ p ∈ ps, p.cps.size ≤ 40) :
    ∃ y i c E, 0 ≤ i ∧ y.cps.size ≤ 90000 ∧ bn6a [some (.mr 0), x1, x2, some (.int lv), some (.int way), x5, some (.mr (rest.length + 1)), x7, x8, x9, x10, x11] M = .ok (.rt (.str y)) (tp l i c :: (rest ++ E)) := by
  have lP : (ps.map D.str).length = ps.length := List.length_map ..
  have at_ : ∀ i c, (tp l i c :: (rest ++ [MO.lst (ps.map D.str)]))[rest.length + 1]? = some (.lst (ps.map D.str)) := fun i c => by simp
  obtain ⟨i0, c0, hi0, rfl⟩ := hM
  have n0 := len_mr (at_ i0 c0)
  rw [lP] at n0
  obtain ⟨f1, M1, a1, b1, t1, e1⟩ := draw_ok (l := l) (rest := rest ++ [.lst (ps.map D.str)]) (many := (ps.length : Int)) (by omega) (log_small (by omega) (by omega)) ⟨i0, c0, hi0, rfl⟩
  obtain ⟨i1, c1, hi1, rfl⟩ := t1
  obtain ⟨n, rfl⟩ := Int.eq_ofNat_of_zero_le a1
  have hn : n < ps.length := by omega
  have x1' := ixA_mr (at_ i1 c1) hn
  have n1 := len_mr (at_ i1 c1)
  rw [lP] at n1
  obtain ⟨f2, M2, a2, b2, t2, e2⟩ := draw_ok (l := l) (rest := rest ++ [.lst (ps.map D.str)]) (many := (ps.length : Int) + 1) (by omega) (log_small (by omega) (by omega)) ⟨i1, c1, hi1, rfl⟩
  obtain ⟨i2, c2, hi2, rfl⟩ := t2
  obtain ⟨ys, hy, ly, ey⟩ := turned_ok (xs := ps) (d0 := .mr (rest.length + 1)) (M := tp l i2 c2 :: (rest ++ [MO.lst (ps.map D.str)])) (way := way) (at_ := f2) (t := ps[n]) (list_mr (at_ i2 c2)) (by omega)
  have hy1 : ∀ y ∈ ys, y.cps.size ≤ 40 := fun y h => by
    rcases hy y h with h | h
    · exact hB y h
    · rw [h]; exact hB _ (List.getElem_mem hn)
  have hm : ((tp l i2 c2 :: (rest ++ [MO.lst (ps.map D.str)])) ++ [MO.lst (ys.map D.str)])[(tp l i2 c2 :: (rest ++ [MO.lst (ps.map D.str)])).length]? = some (.lst (ys.map D.str)) := by simp
  obtain ⟨ej, sj⟩ := joined (sep := "\n") (n := 41) (B := 40) (s := 1) hm (by omega) hy1 (by decide +kernel) (by decide)
  refine ⟨_, i2, c2, [.lst (ps.map D.str)] ++ [.lst (ys.map D.str)], hi2, sj, ?_⟩
  rw [← List.append_assoc]
  generalize hT : ps[n] = tt at *
  generalize ps.map D.str = pd at *
  generalize ys.map D.str = yd at *
  generalize Txt.join "\n" ys = y at *
  rw [List.cons_append] at ey ej
  generalize (tp l i2 c2 :: (rest ++ [MO.lst pd])).length = k at *
  generalize rest.length + 1 = q at *
  clear hm at_
  generalize tp l i2 c2 :: (rest ++ [MO.lst pd] ++ [MO.lst yd]) = N3 at *
  generalize tp l i0 c0 :: (rest ++ [MO.lst pd]) = N0 at *
  generalize tp l i1 c1 :: (rest ++ [MO.lst pd]) = N1 at *
  generalize tp l i2 c2 :: (rest ++ [MO.lst pd]) = N2 at *
  unfold bn6a
  simp [sSeq, sSet, DL.g2, gVar, gCall, DL.gCons, DL.gNil, gBlt, n0, n1, e1, e2, x1', gC, sRet, gMethS, addD, ey, ej, DL.bind_ok]
def someL : List Str := ["off", "0", "-1", "-0", "00", "1001", "-1001", "16", "64", "move", "pot", "at", "shape", "", "12345", "g", "0/1"]
theorem someL_len : someL.length = 17 := rfl
theorem someL_short : ∀ p ∈ someL, p.cps.size ≤ 40 := by decide +kernel
theorem bent2 {l : List Int} {rest M : Mem} {ps : List Str} {lv way : Int} {x1 x2 x5 x7 x8 x9 x10 x11 : Option D} (hM : Tape l (rest ++ [.lst (ps.map D.str)]) M) (hp0 : 0 < ps.length) (hp : ps.length ≤ 40) (hB : ∀ p ∈ ps, p.cps.size ≤ 40) :
    ∃ y i c E, 0 ≤ i ∧ y.cps.size ≤ 90000 ∧ (sSeq (sSet 8 (gCall 2 F__law_draw (DL.gCons (gVar 0) (DL.gCons (gBlt lenF (DL.gCons (gVar 6) DL.gNil)) DL.gNil)))) (sSeq (sSet 9 (gMethS splitM (g2 ixA (gVar 6) (gVar 8)) (gC (.str " ")))) (sSeq bn9 (sSeq (sSet 10 (g2 addD (gVar 10) (gLst (DL.gCons (gC (.str "g")) (DL.gCons (gC (.str "0/1")) DL.gNil))))) (sSeq bn11 (sSeq bn12 (sRet (gMethS joinF (gC (.str "\n")) (gVar 6))))))))) [some (.mr 0), x1, x2, some (.int lv), some (.int way), x5, some (.mr (rest.length + 1)), x7, x8, x9, x10, x11] M = .ok (.rt (.str y)) (tp l i c :: (rest ++ E)) := by
  have lP : (ps.map D.str).length = ps.length := List.length_map ..
  have at_ : ∀ i c, (tp l i c :: (rest ++ [MO.lst (ps.map D.str)]))[rest.length + 1]? = some (.lst (ps.map D.str)) := fun i c => by simp
  obtain ⟨i0, c0, hi0, rfl⟩ := hM
  have n0 := len_mr (at_ i0 c0)
  rw [lP] at n0
  obtain ⟨f1, M1, a1, b1, t1, e1⟩ := draw_ok (l := l) (rest := rest ++ [.lst (ps.map D.str)]) (many := (ps.length : Int)) (by omega) (log_small (by omega) (by omega)) ⟨i0, c0, hi0, rfl⟩
  obtain ⟨i1, c1, hi1, rfl⟩ := t1
  obtain ⟨n, rfl⟩ := Int.eq_ofNat_of_zero_le a1
  have hn : n < ps.length := by omega
  have x1' := ixA_mr (at_ i1 c1) hn
  have sN := hB _ (List.getElem_mem hn)
  have hs : splitOk ps[n] " " = true := by rw [sp_eq]; exact split_okN 32 (by omega)
  have sp : ∀ M, splitM ps[n] (.str " ") M = .ok (.mr M.length) (M ++ [.lst ((Txt.split ps[n] " ").map D.str)]) := fun M => by
    unfold splitM; dsimp only; rw [if_pos hs]
  have wl : (Txt.split ps[n] " ").length ≤ 42 := by
    have := split_le ps[n] " "
    have e : (ps[n]).length = (ps[n]).cps.size := rfl
    omega
  have wB : ∀ p ∈ Txt.split ps[n] " ", p.cps.size ≤ 40 := fun p h => by
    rw [sp_eq] at h
    exact Nat.le_trans (split_len1 h) sN
  generalize Txt.split ps[n] " " = ws at *
  generalize hT : ps[n] = tt at *
  have lW : (ws.map D.str).length = ws.length := List.length_map ..
  have wt_ : ∀ i c, (tp l i c :: (rest ++ [MO.lst (ps.map D.str)] ++ [MO.lst (ws.map D.str)]))[rest.length + 2]? = some (.lst (ws.map D.str)) := fun i c => by simp
  have sp1 := sp (tp l i1 c1 :: (rest ++ [MO.lst (ps.map D.str)]))
  rw [List.cons_append, show (tp l i1 c1 :: (rest ++ [MO.lst (ps.map D.str)])).length = rest.length + 2 by simp] at sp1
  have w1 := len_mr (wt_ i1 c1)
  rw [lW] at w1
  obtain ⟨f2, M2, a2, b2, t2, e2⟩ := draw_ok (l := l) (rest := rest ++ [.lst (ps.map D.str)] ++ [.lst (ws.map D.str)]) (many := 17 + (ws.length : Int)) (by omega) (log_small (by omega) (by omega)) ⟨i1, c1, hi1, rfl⟩
  obtain ⟨i2, c2, hi2, rfl⟩ := t2
  obtain ⟨m, rfl⟩ := Int.eq_ofNat_of_zero_le a2
  have hm : m < (someL ++ ws).length := by rw [List.length_append, someL_len]; omega
  have w2 := len_mr (wt_ i2 c2)
  rw [lW] at w2
  have ad : addD (.lst (someL.map D.str)) (.mr (rest.length + 2)) (tp l i1 c1 :: (rest ++ [MO.lst (ps.map D.str)] ++ [MO.lst (ws.map D.str)])) = .ok (.lst ((someL ++ ws).map D.str)) (tp l i1 c1 :: (rest ++ [MO.lst (ps.map D.str)] ++ [MO.lst (ws.map D.str)])) := by
    have ml : mlOf (.mr (rest.length + 2)) (tp l i1 c1 :: (rest ++ [MO.lst (ps.map D.str)] ++ [MO.lst (ws.map D.str)])) = some (ws.map D.str) := by
      unfold mlOf
      dsimp only
      rw [wt_]
    have bd : (someL.map D.str).length + (ws.map D.str).length ≤ sizeLine := by rw [List.length_map, List.length_map, someL_len]; exact le_line (by omega)
    show (match mlOf (.lst (someL.map D.str)) _, mlOf (.mr (rest.length + 2)) (tp l i1 c1 :: (rest ++ [MO.lst (ps.map D.str)] ++ [MO.lst (ws.map D.str)])) with
      | some a, some b => if a.length + b.length ≤ sizeLine then Out.ok (D.lst (a ++ b)) (tp l i1 c1 :: (rest ++ [MO.lst (ps.map D.str)] ++ [MO.lst (ws.map D.str)])) else .bad
      | _, _ => .bad) = _
    rw [ml]
    show (if (someL.map D.str).length + (ws.map D.str).length ≤ sizeLine then Out.ok (D.lst (someL.map D.str ++ ws.map D.str)) _ else .bad) = _
    rw [if_pos bd, List.map_append]
  have x2' : ixA (.lst ((someL ++ ws).map D.str)) (.int m) (tp l i2 c2 :: (rest ++ [MO.lst (ps.map D.str)] ++ [MO.lst (ws.map D.str)])) = .ok (.str (someL ++ ws)[m]) (tp l i2 c2 :: (rest ++ [MO.lst (ps.map D.str)] ++ [MO.lst (ws.map D.str)])) := by
    have a := atI_nat (xs := (someL ++ ws).map D.str) (j := m) (mapStr_at hm)
    show ixD (.lst ((someL ++ ws).map D.str)) (.int m) _ = _
    unfold ixD itemsOf
    dsimp only
    rw [a]
  have tB : (someL ++ ws)[m].cps.size ≤ 40 := by
    rcases List.mem_append.mp (List.getElem_mem hm) with h | h
    · exact someL_short _ h
    · exact wB _ h
  generalize (someL ++ ws)[m] = t at *
  obtain ⟨f3, M3, a3, b3, t3, e3⟩ := draw_ok (l := l) (rest := rest ++ [.lst (ps.map D.str)] ++ [.lst (ws.map D.str)]) (many := (ws.length : Int) + 1) (by omega) (log_small (by omega) (by omega)) ⟨i2, c2, hi2, rfl⟩
  obtain ⟨i3, c3, hi3, rfl⟩ := t3
  obtain ⟨ys, hy, ly, ey⟩ := turned_ok (xs := ws) (d0 := .mr (rest.length + 2)) (M := tp l i3 c3 :: (rest ++ [MO.lst (ps.map D.str)] ++ [MO.lst (ws.map D.str)])) (way := way) (at_ := f3) (t := t) (list_mr (wt_ i3 c3)) (by omega)
  have hy1 : ∀ y ∈ ys, y.cps.size ≤ 40 := fun y h => by
    rcases hy y h with h | h
    · exact wB y h
    · rw [h]; exact tB
  have hj : ((tp l i3 c3 :: (rest ++ [MO.lst (ps.map D.str)] ++ [MO.lst (ws.map D.str)])) ++ [MO.lst (ys.map D.str)])[(tp l i3 c3 :: (rest ++ [MO.lst (ps.map D.str)] ++ [MO.lst (ws.map D.str)])).length]? = some (.lst (ys.map D.str)) := by simp
  have one : (" " : Str).length ≤ 1 := by decide +kernel
  obtain ⟨ej, sj⟩ := joined (sep := " ") (n := 43) (B := 40) (s := 1) hj (by omega) hy1 one (by decide)
  have ls1 := sum_le hy1
  have jl := join_le (sep := " ") (ys := ys)
  have jb : (Txt.join " " ys).cps.size ≤ 1763 := by
    have h3 : ys.length * (" " : Str).length ≤ 43 * 1 := Nat.mul_le_mul (by omega) one
    have h4 : ys.length * 40 ≤ 43 * 40 := Nat.mul_le_mul_right _ (by omega)
    omega
  generalize Txt.join " " ys = z at *
  have st : (tp l i3 c3 :: (rest ++ [MO.lst (ps.map D.str)] ++ [MO.lst (ws.map D.str)]) ++ [MO.lst (ys.map D.str)]).set (rest.length + 1) (.lst ((ps.map D.str).set n (.str z))) = tp l i3 c3 :: (rest ++ ([MO.lst ((ps.set n z).map D.str)] ++ [MO.lst (ws.map D.str)] ++ [MO.lst (ys.map D.str)])) := by
    rw [List.map_set]
    simp
  have g6 : (tp l i3 c3 :: (rest ++ [MO.lst (ps.map D.str)] ++ [MO.lst (ws.map D.str)]) ++ [MO.lst (ys.map D.str)])[rest.length + 1]? = some (.lst (ps.map D.str)) := by simp
  have ix6 : ixN (ps.map D.str).length (n : Int) = some n := by rw [lP]; exact ixN_nat hn
  have hf : (tp l i3 c3 :: (rest ++ ([MO.lst ((ps.set n z).map D.str)] ++ [MO.lst (ws.map D.str)] ++ [MO.lst (ys.map D.str)])))[rest.length + 1]? = some (.lst ((ps.set n z).map D.str)) := by simp
  have fB : ∀ y ∈ ps.set n z, y.cps.size ≤ 1763 := fun y h => by
    rcases mem_set1 h with h | h
    · exact Nat.le_trans (hB y h) (by decide)
    · rw [h]; exact jb
  have one' : ("\n" : Str).length ≤ 1 := by decide +kernel
  obtain ⟨ef, sf⟩ := joined (sep := "\n") (n := 40) (B := 1763) (s := 1) hf (by rw [List.length_set]; omega) fB one' (by decide)
  refine ⟨_, i3, c3, [MO.lst ((ps.set n z).map D.str)] ++ [MO.lst (ws.map D.str)] ++ [MO.lst (ys.map D.str)], hi3, sf, ?_⟩
  have sd : setD (.mr (rest.length + 1)) (.int n) (.str z) (tp l i3 c3 :: (rest ++ [MO.lst (ps.map D.str)] ++ [MO.lst (ws.map D.str)]) ++ [MO.lst (ys.map D.str)]) = .ok () (tp l i3 c3 :: (rest ++ ([MO.lst ((ps.set n z).map D.str)] ++ [MO.lst (ws.map D.str)] ++ [MO.lst (ys.map D.str)]))) := by
    rw [← st]
    unfold setD
    dsimp only
    rw [g6]
    dsimp only
    rw [ix6]
  generalize Txt.join "\n" (ps.set n z) = y at *
  generalize (tp l i3 c3 :: (rest ++ [MO.lst (ps.map D.str)] ++ [MO.lst (ws.map D.str)])).length = k at *
  have b15 : (15 : Nat) ≤ sizeLine := le_line (by decide)
  have b17 : (17 : Nat) ≤ sizeLine := le_line (by decide)
  have b2 : (2 : Nat) ≤ sizeLine := le_line (by decide)
  have hsome : ∀ (ρ : Rho) (M : Mem), ∀ x0 x1 x2 x3 x4 x5 x6 x7 x8 x9 x10 x11, ρ = [x0, x1, x2, x3, x4, x5, x6, x7, x8, x9, x10, x11] → (sSeq bn9 (sSet 10 (g2 addD (gVar 10) (gLst (DL.gCons (gC (.str "g")) (DL.gCons (gC (.str "0/1")) DL.gNil)))))) ρ M = .ok (.nx [x0, x1, x2, x3, x4, x5, x6, x7, x8, x9, some (.lst (someL.map D.str)), x11]) M := by
    intro ρ M x0 x1 x2 x3 x4 x5 x6 x7 x8 x9 x10 x11 h
    subst h
    unfold bn9
    simp [sSeq, sSet, gLst, DL.gCons, DL.gNil, gC, mkLst, b15, DL.g2, gVar, addD, mlOf, b2, b17, someL, DL.bind_ok]
  have asc : ∀ (a b c : GS) (ρ : Rho) (M : Mem), sSeq a (sSeq b c) ρ M = sSeq (sSeq a b) c ρ M := fun a b c ρ M => by
    unfold sSeq
    cases a ρ M with
    | ok f M1 => cases f <;> rfl
    | err _ _ => rfl
    | bad => rfl
  clear hj hf g6 st wt_ at_
  generalize hS : someL.map D.str = sdl at *
  generalize (someL ++ ws).map D.str = swl at *
  generalize tp l i3 c3 :: (rest ++ ([MO.lst ((ps.set n z).map D.str)] ++ [MO.lst (ws.map D.str)] ++ [MO.lst (ys.map D.str)])) = N6 at *
  generalize tp l i3 c3 :: (rest ++ [MO.lst (ps.map D.str)] ++ [MO.lst (ws.map D.str)]) ++ [MO.lst (ys.map D.str)] = N5 at *
  generalize tp l i0 c0 :: (rest ++ [MO.lst (ps.map D.str)]) = N0 at *
  generalize tp l i1 c1 :: (rest ++ [MO.lst (ps.map D.str)] ++ [MO.lst (ws.map D.str)]) = N2 at *
  generalize tp l i1 c1 :: (rest ++ [MO.lst (ps.map D.str)]) = N1 at *
  generalize tp l i2 c2 :: (rest ++ [MO.lst (ps.map D.str)] ++ [MO.lst (ws.map D.str)]) = N3 at *
  generalize tp l i3 c3 :: (rest ++ [MO.lst (ps.map D.str)] ++ [MO.lst (ws.map D.str)]) = N4 at *
  generalize hq : rest.length + 1 = q at *
  generalize hq2 : rest.length + 2 = q2 at *
  have s8 : (sSet 8 (gCall 2 F__law_draw (DL.gCons (gVar 0) (DL.gCons (gBlt lenF (DL.gCons (gVar 6) DL.gNil)) DL.gNil)))) [some (.mr 0), x1, x2, some (.int lv), some (.int way), x5, some (.mr q), x7, x8, x9, x10, x11] N0 = .ok (.nx [some (.mr 0), x1, x2, some (.int lv), some (.int way), x5, some (.mr q), x7, some (.int n), x9, x10, x11]) N1 := by
    simp [sSet, gCall, DL.gCons, DL.gNil, gVar, gBlt, n0, e1, DL.bind_ok]
  have s9 : (sSet 9 (gMethS splitM (g2 ixA (gVar 6) (gVar 8)) (gC (.str " ")))) [some (.mr 0), x1, x2, some (.int lv), some (.int way), x5, some (.mr q), x7, some (.int n), x9, x10, x11] N1 = .ok (.nx [some (.mr 0), x1, x2, some (.int lv), some (.int way), x5, some (.mr q), x7, some (.int n), some (.mr q2), x10, x11]) N2 := by
    simp [sSet, gMethS, DL.g2, gVar, gC, x1', sp1, DL.bind_ok]
  have s10 := hsome _ N2 (some (.mr 0)) x1 x2 (some (.int lv)) (some (.int way)) x5 (some (.mr q)) x7 (some (.int n)) (some (.mr q2)) x10 x11 rfl
  have s11 : bn11 [some (.mr 0), x1, x2, some (.int lv), some (.int way), x5, some (.mr q), x7, some (.int n), some (.mr q2), some (.lst sdl), x11] N2 = .ok (.nx [some (.mr 0), x1, x2, some (.int lv), some (.int way), x5, some (.mr q), x7, some (.int n), some (.mr q2), some (.lst sdl), some (.str t)]) N3 := by
    have a17 : ∀ k M, addD (.int 17) (.int k) M = .ok (.int (17 + k)) M := fun _ _ => rfl
    unfold bn11
    simp [sSet, DL.g2, gVar, gC, gCall, DL.gCons, DL.gNil, gBlt, w1, ad, a17, e2, x2', DL.bind_ok]
  have s12 : bn12 [some (.mr 0), x1, x2, some (.int lv), some (.int way), x5, some (.mr q), x7, some (.int n), some (.mr q2), some (.lst sdl), some (.str t)] N3 = .ok (.nx [some (.mr 0), x1, x2, some (.int lv), some (.int way), x5, some (.mr q), x7, some (.int n), some (.mr q2), some (.lst sdl), some (.str t)]) N6 := by
    have a1 : ∀ k M, addD (.int k) (.int 1) M = .ok (.int (k + 1)) M := fun _ _ => rfl
    unfold bn12
    simp [sSub, gMethS, DL.g2, gVar, gC, gCall, DL.gCons, DL.gNil, gBlt, w2, a1, e3, ey, ej, sd, DL.bind_ok]
  have s13 : (sRet (gMethS joinF (gC (.str "\n")) (gVar 6))) [some (.mr 0), x1, x2, some (.int lv), some (.int way), x5, some (.mr q), x7, some (.int n), some (.mr q2), some (.lst sdl), some (.str t)] N6 = .ok (.rt (.str y)) N6 := by
    simp [sRet, gMethS, gVar, gC, ef, DL.bind_ok]
  have sq : ∀ (a b : GS) (ρ ρ1 : Rho) (M M1 : Mem), a ρ M = .ok (.nx ρ1) M1 → sSeq a b ρ M = b ρ1 M1 := fun a b ρ ρ1 M M1 h => by
    unfold sSeq; rw [h]; rfl
  rw [sq _ _ _ _ _ _ s8, sq _ _ _ _ _ _ s9, asc, sq _ _ _ _ _ _ s10, sq _ _ _ _ _ _ s11, sq _ _ _ _ _ _ s12, s13]
/-! a text bent, whole -/
theorem sq_nx {a b : GS} {ρ ρ1 : Rho} {M M1 : Mem} (h : a ρ M = .ok (.nx ρ1) M1) : sSeq a b ρ M = b ρ1 M1 := by
  unfold sSeq; rw [h]; rfl
theorem sq_rt {a b : GS} {ρ : Rho} {d : D} {M M1 : Mem} (h : a ρ M = .ok (.rt d) M1) : sSeq a b ρ M = .ok (.rt d) M1 := by
  unfold sSeq; rw [h]; rfl
theorem if_t {t : GT} {a b : GS} {ρ : Rho} {M M1 : Mem} (h : t ρ M = .ok true M1) : sIf t a b ρ M = a ρ M1 := by
  unfold sIf; rw [h, DL.bind_ok, if_pos rfl]
theorem if_f {t : GT} {a b : GS} {ρ : Rho} {M M1 : Mem} (h : t ρ M = .ok false M1) : sIf t a b ρ M = b ρ M1 := by
  unfold sIf; rw [h, DL.bind_ok, if_neg Bool.false_ne_true]
theorem set_ok {i : Nat} {g : GE} {ρ : Rho} {M M1 : Mem} {d : D} (h : g ρ M = .ok d M1) : sSet i g ρ M = .ok (.nx (ρ.set i (some d))) M1 := by
  unfold sSet; rw [h, DL.bind_ok]
theorem pure_tp {l : List Int} {i c : Int} {rest : Mem} (hr : rest.all pureM = true) : (tp l i c :: rest).all pureM = true := by
  have h : pureM (tp l i c) = true := by
    show (D.lst (l.map D.int) :: [D.int i, D.int c]).all (pureD 30) = true
    have := pure_ints 28 l
    simp [pureD_lst, this, pureD]
  rw [List.all_cons, h, hr]; rfl
theorem bent_ok {l : List Int} {rest M : Mem} {x : Str} (hM : Tape l rest M) (hr : rest.all pureM = true) (so : PyData.strOk x = true) (hx : x.cps.size ≤ 2000) (hx0 : 0 < x.cps.size) (hl : (Txt.split x "\n").length ≤ 40) (hp : ∀ p ∈ Txt.split x "\n", p.cps.size ≤ 40) :
    ∃ y M', y.cps.size ≤ 90000 ∧ Tape l rest M' ∧ F__law_bent [.mr 0, .str x] M = .ok (.str y) M' := by
  obtain ⟨f1, M1, a1, b1, t1, e1⟩ := draw_ok (many := 3) (by decide) (log_small (by decide) (by decide)) hM
  obtain ⟨f2, M2, a2, b2, t2, e2⟩ := draw_ok (many := 4) (by decide) (log_small (by decide) (by decide)) t1
  have lM : M.length = rest.length + 1 := by obtain ⟨i, c, _, rfl⟩ := hM; rfl
  have fin : ∀ y i c E, 0 ≤ i → y.cps.size ≤ 90000 → g__law_bent [some (.mr 0), some (.str x), none, none, none, none, none, none, none, none, none, none] M = .ok (.rt (.str y)) (tp l i c :: (rest ++ E)) →
      ∃ y M', y.cps.size ≤ 90000 ∧ Tape l rest M' ∧ F__law_bent [.mr 0, .str x] M = .ok (.str y) M' := fun y i c E hi hy e => by
    refine ⟨y, tp l i c :: rest, hy, ⟨i, c, hi, rfl⟩, ?_⟩
    have h := retP_pure (d := .str y) (M := tp l i c :: rest) (E := E) rfl (pure_tp hr)
    show retP M.length (retOf (g__law_bent [some (.mr 0), some (.str x), none, none, none, none, none, none, none, none, none, none] M)) = _
    rw [e, lM]
    exact h
  have sb : ("nopqrstuvwxyz{|}~\n" : Str).length ≤ 1000 := by decide +kernel
  have sa : (" !\"#$&'()*+,-./0123456789:;<=>?@ABCDEFGHIJKLMNOPQRSTUVWXYZ[\\]^_`abcdefghijklm" : Str).length ≤ 1000 := by decide +kernel
  have ad : ∀ M, addD (.str " !\"#$&'()*+,-./0123456789:;<=>?@ABCDEFGHIJKLMNOPQRSTUVWXYZ[\\]^_`abcdefghijklm") (.str "nopqrstuvwxyz{|}~\n") M = .ok (.str sg2) M := fun M => by
    unfold addD
    dsimp only
    rw [if_pos (le_line (by omega))]; rfl
  have d1 : gCall 2 F__law_draw (DL.gCons (gVar 0) (DL.gCons (gC (.int 3)) DL.gNil)) [some (.mr 0), some (.str x), some (.str sg2), none, none, none, none, none, none, none, none, none] M = .ok (.int f1) M1 := by
    simp [gCall, DL.gCons, DL.gNil, gVar, gC, e1, DL.bind_ok]
  have d2 : gCall 2 F__law_draw (DL.gCons (gVar 0) (DL.gCons (gC (.int 4)) DL.gNil)) [some (.mr 0), some (.str x), some (.str sg2), some (.int f1), none, none, none, none, none, none, none, none] M1 = .ok (.int f2) M2 := by
    simp [gCall, DL.gCons, DL.gNil, gVar, gC, e2, DL.bind_ok]
  have ne : ∀ M, eqOp true (.str x) (.str "") M = .ok (.bl true) M := fun M => by
    have h1 : PyData.strOk "" = true := by decide +kernel
    have h2 : (x == ("" : Str)) = false := by
      rw [beq_eq_false_iff_ne]
      intro z
      rw [z] at hx0
      exact absurd hx0 (by decide +kernel)
    unfold eqOp
    simp [now, cmpOk, so, h1, eqB, h2]
  have head : ∀ (r : GS), (sSeq (sSet 2 (gC (.str " !\"#$&'()*+,-./0123456789:;<=>?@ABCDEFGHIJKLMNOPQRSTUVWXYZ[\\]^_`abcdefghijklm"))) (sSeq (sSet 2 (g2 addD (gVar 2) (gC (.str "nopqrstuvwxyz{|}~\n")))) (sSeq (sSet 3 (gCall 2 F__law_draw (DL.gCons (gVar 0) (DL.gCons (gC (.int 3)) DL.gNil)))) (sSeq (sSet 4 (gCall 2 F__law_draw (DL.gCons (gVar 0) (DL.gCons (gC (.int 4)) DL.gNil)))) r))) : GS) [some (.mr 0), some (.str x), none, none, none, none, none, none, none, none, none, none] M = r [some (.mr 0), some (.str x), some (.str sg2), some (.int f1), some (.int f2), none, none, none, none, none, none, none] M2 := fun r => by
    rw [sq_nx (set_ok (d := .str " !\"#$&'()*+,-./0123456789:;<=>?@ABCDEFGHIJKLMNOPQRSTUVWXYZ[\\]^_`abcdefghijklm") (M1 := M) rfl)]
    have q : g2 addD (gVar 2) (gC (.str "nopqrstuvwxyz{|}~\n")) [some (.mr 0), some (.str x), some (.str " !\"#$&'()*+,-./0123456789:;<=>?@ABCDEFGHIJKLMNOPQRSTUVWXYZ[\\]^_`abcdefghijklm"), none, none, none, none, none, none, none, none, none] M = .ok (.str sg2) M := by
      unfold DL.g2
      show ((Out.ok (D.str _) M).bind fun y M2 => ((Out.ok (D.str _) M2).bind fun z M3 => addD y z M3)) = _
      rw [DL.bind_ok, DL.bind_ok, ad]
    show sSeq (sSet 2 (g2 addD (gVar 2) (gC (.str "nopqrstuvwxyz{|}~\n")))) _ [some (.mr 0), some (.str x), some (.str " !\"#$&'()*+,-./0123456789:;<=>?@ABCDEFGHIJKLMNOPQRSTUVWXYZ[\\]^_`abcdefghijklm"), none, none, none, none, none, none, none, none, none] M = _
    rw [sq_nx (set_ok q)]
    show sSeq (sSet 3 (gCall 2 F__law_draw (DL.gCons (gVar 0) (DL.gCons (gC (.int 3)) DL.gNil)))) _ [some (.mr 0), some (.str x), some (.str sg2), none, none, none, none, none, none, none, none, none] M = _
    rw [sq_nx (set_ok d1)]
    show sSeq (sSet 4 (gCall 2 F__law_draw (DL.gCons (gVar 0) (DL.gCons (gC (.int 4)) DL.gNil)))) _ [some (.mr 0), some (.str x), some (.str sg2), some (.int f1), none, none, none, none, none, none, none, none] M1 = _
    rw [sq_nx (set_ok d2)]
    rfl
  by_cases h0 : f1 = 0
  · obtain ⟨y, i, c, E, hi, hy, e⟩ := bent0 (lv := f1) (way := f2) (x5 := none) (x6 := none) (x7 := none) (x8 := none) (x9 := none) (x10 := none) (x11 := none) t2 hx hx0
    refine fin y i c E hi hy ?_
    have t : bn4t [some (.mr 0), some (.str x), some (.str sg2), some (.int f1), some (.int f2), none, none, none, none, none, none, none] M2 = .ok true M2 := by
      unfold bn4t
      simp [gAndT, gTst, DL.g2, gVar, gC, eqi_f, h0, ne, asB, DL.bind_ok]
    rw [bn_eq, head]
    unfold bn4
    exact sq_rt ((if_t t).trans e)
  · have t : bn4t [some (.mr 0), some (.str x), some (.str sg2), some (.int f1), some (.int f2), none, none, none, none, none, none, none] M2 = .ok false M2 := by
      unfold bn4t
      simp [gAndT, gTst, DL.g2, gVar, gC, eqi_f, h0, asB, DL.bind_ok]
    have hs : splitOk x "\n" = true := by rw [lf_eq]; exact split_okN 10 (by omega)
    have hne := split_pos x "\n"
    obtain ⟨i2, c2, hi2, rfl⟩ := t2
    have sp : splitM x (.str "\n") (tp l i2 c2 :: rest) = .ok (.mr (rest.length + 1)) (tp l i2 c2 :: (rest ++ [.lst ((Txt.split x "\n").map D.str)])) := by
      unfold splitM; dsimp only; rw [if_pos hs]; rfl
    generalize Txt.split x "\n" = ps at *
    have hb4 : ∀ r : GS, sSeq bn4 r [some (.mr 0), some (.str x), some (.str sg2), some (.int f1), some (.int f2), none, none, none, none, none, none, none] (tp l i2 c2 :: rest) = r [some (.mr 0), some (.str x), some (.str sg2), some (.int f1), some (.int f2), none, none, none, none, none, none, none] (tp l i2 c2 :: rest) := fun r => by
      refine sq_nx ?_
      unfold bn4
      exact (if_f t).trans rfl
    have gs : gMethS splitM (gVar 1) (gC (.str "\n")) [some (.mr 0), some (.str x), some (.str sg2), some (.int f1), some (.int f2), none, none, none, none, none, none, none] (tp l i2 c2 :: rest) = .ok (.mr (rest.length + 1)) (tp l i2 c2 :: (rest ++ [.lst (ps.map D.str)])) := by
      unfold gMethS
      show ((Out.ok (D.str x) (tp l i2 c2 :: rest)).bind fun o M1 => match o with | .str z => (gC (.str "\n") _ M1).bind fun d M2 => splitM z d M2 | _ => .bad) = _
      rw [DL.bind_ok]
      exact sp
    have hs6 : ∀ r : GS, sSeq (sSet 6 (gMethS splitM (gVar 1) (gC (.str "\n")))) r [some (.mr 0), some (.str x), some (.str sg2), some (.int f1), some (.int f2), none, none, none, none, none, none, none] (tp l i2 c2 :: rest) = r [some (.mr 0), some (.str x), some (.str sg2), some (.int f1), some (.int f2), none, some (.mr (rest.length + 1)), none, none, none, none, none] (tp l i2 c2 :: (rest ++ [.lst (ps.map D.str)])) := fun r => sq_nx (set_ok gs)
    by_cases h1 : f1 = 1
    · obtain ⟨y, i, c, E, hi, hy, e⟩ := bent1 (l := l) (rest := rest) (M := tp l i2 c2 :: (rest ++ [.lst (ps.map D.str)])) (lv := f1) (way := f2) (x1 := some (.str x)) (x2 := some (.str sg2)) (x5 := none) (x7 := none) (x8 := none) (x9 := none) (x10 := none) (x11 := none) ⟨i2, c2, hi2, rfl⟩ hne hl hp
      refine fin y i c E hi hy ?_
      have t6 : gTst (g2 (eqOp false) (gVar 3) (gC (.int 1))) [some (.mr 0), some (.str x), some (.str sg2), some (.int f1), some (.int f2), none, some (.mr (rest.length + 1)), none, none, none, none, none] (tp l i2 c2 :: (rest ++ [.lst (ps.map D.str)])) = .ok true (tp l i2 c2 :: (rest ++ [.lst (ps.map D.str)])) := by
        simp [gTst, DL.g2, gVar, gC, eqi_f, h1, asB, DL.bind_ok]
      rw [bn_eq, head, hb4, hs6]
      unfold bn6
      exact sq_rt ((if_t t6).trans e)
    · obtain ⟨y, i, c, E, hi, hy, e⟩ := bent2 (l := l) (rest := rest) (M := tp l i2 c2 :: (rest ++ [.lst (ps.map D.str)])) (lv := f1) (way := f2) (x1 := some (.str x)) (x2 := some (.str sg2)) (x5 := none) (x7 := none) (x8 := none) (x9 := none) (x10 := none) (x11 := none) ⟨i2, c2, hi2, rfl⟩ hne hl hp
      refine fin y i c E hi hy ?_
      have t6 : gTst (g2 (eqOp false) (gVar 3) (gC (.int 1))) [some (.mr 0), some (.str x), some (.str sg2), some (.int f1), some (.int f2), none, some (.mr (rest.length + 1)), none, none, none, none, none] (tp l i2 c2 :: (rest ++ [.lst (ps.map D.str)])) = .ok false (tp l i2 c2 :: (rest ++ [.lst (ps.map D.str)])) := by
        simp [gTst, DL.g2, gVar, gC, eqi_f, h1, asB, DL.bind_ok]
      rw [bn_eq, head, hb4, hs6]
      have h6 : bn6 [some (.mr 0), some (.str x), some (.str sg2), some (.int f1), some (.int f2), none, some (.mr (rest.length + 1)), none, none, none, none, none] (tp l i2 c2 :: (rest ++ [.lst (ps.map D.str)])) = .ok (.nx [some (.mr 0), some (.str x), some (.str sg2), some (.int f1), some (.int f2), none, some (.mr (rest.length + 1)), none, none, none, none, none]) (tp l i2 c2 :: (rest ++ [.lst (ps.map D.str)])) := by
        unfold bn6
        exact (if_f t6).trans rfl
      rw [sq_nx h6]
      exact e
/-! loops, turn by turn -/
theorem for_ix {ds0 : List D} {s : GG} {body : GS} {W : Nat → Rho → Mem → Prop} : ∀ (ds : List D) (i : Nat), (∀ j d, ds[j]? = some d → ∀ ρ M, W (i + j) ρ M → ∃ ρ1 ρ2 M2, s d ρ = some ρ1 ∧ body ρ1 M = .ok (.nx ρ2) M2 ∧ W (i + j + 1) ρ2 M2) → ∀ ρ M, W i ρ M →
    ∃ ρ' M', W (i + ds.length) ρ' M' ∧ forGo ⟨ds0, none⟩ s body ds ρ M = .ok (.nx ρ') M'
  | [], i, h, ρ, M, hW => ⟨ρ, M, hW, rfl⟩
  | d :: ds, i, h, ρ, M, hW => by
    obtain ⟨ρ1, ρ2, M2, e1, e2, h2⟩ := h 0 d rfl ρ M hW
    obtain ⟨ρ', M', h3, e3⟩ := for_ix (ds0 := ds0) (s := s) (body := body) (W := W) ds (i + 1) (fun j d' hd ρ M hW => by
      have e : i + 1 + j = i + (j + 1) := by omega
      rw [e] at hW ⊢
      exact h (j + 1) d' hd ρ M hW) ρ2 M2 h2
    refine ⟨ρ', M', ?_, by simp [forGo, its_ok, e1, e2, e3]⟩
    have e : i + (d :: ds).length = i + 1 + ds.length := by simp; omega
    rw [e]; exact h3
theorem get_rangeD {lo : Int} {n j : Nat} {d : D} (h : (rangeD lo n)[j]? = some d) : j < n ∧ d = .int (lo + j) := by
  unfold rangeD at h
  rw [List.getElem?_map] at h
  cases q : (List.range n)[j]? with
  | none => rw [q] at h; cases h
  | some k =>
    rw [q] at h
    obtain ⟨hj, ek⟩ := List.getElem?_eq_some_iff.mp q
    rw [List.length_range] at hj
    rw [List.getElem_range] at ek
    subst ek
    cases h
    exact ⟨hj, rfl⟩
/-! the law of pictures as texts -/
theorem nil_eq : ("" : Str) = ⟨#[]⟩ := by decide +kernel
theorem numText_eq (r : List Int) : numText r = ⟨(r.map fun k => sgn.cps.toList.getD k.toNat 0).toArray⟩ := by
  unfold numText
  rw [tjoin, nil_eq]
  have h := join_ones (r.map fun k => sgn.cps.toList.getD k.toNat 0)
  rw [List.map_map] at h
  exact h
theorem numText_size (r : List Int) : (numText r).cps.size = r.length := by rw [numText_eq]; simp
theorem find_sgn : ∀ n : Fin 64, findS (sgn.cps.toList.getD n.val 0) = (n.val : Int) ∧ sgn.cps.toList.getD n.val 0 ≠ 10 ∧ sgn.cps.toList.getD n.val 0 < 1114112 := by decide +kernel
theorem find_sgn' {k : Int} (h0 : 0 ≤ k) (h1 : k < 64) : findS (sgn.cps.toList.getD k.toNat 0) = k ∧ sgn.cps.toList.getD k.toNat 0 ≠ 10 ∧ sgn.cps.toList.getD k.toNat 0 < 1114112 := by
  obtain ⟨n, rfl⟩ := Int.eq_ofNat_of_zero_le h0
  exact find_sgn ⟨n, by omega⟩
def RowOk (w : Int) (r : List Int) : Prop := (r.length : Int) = w ∧ ∀ k ∈ r, 0 ≤ k ∧ k < 64
theorem readNums_num {w : Int} {r : List Int} (h : RowOk w r) : readNums (numText r) = r := by
  rw [numText_eq]
  unfold readNums
  show (r.map fun k => sgn.cps.toList.getD k.toNat 0).map findS = r
  rw [List.map_map]
  have : ∀ k ∈ r, (findS ∘ fun k : Int => sgn.cps.toList.getD k.toNat 0) k = k := fun k hk => (find_sgn' (h.2 k hk).1 (h.2 k hk).2).1
  exact (List.map_congr_left this).trans (List.map_id' _)
theorem num_mem {w : Int} {r : List Int} (h : RowOk w r) {c : Nat} (hc : c ∈ (numText r).cps.toList) : c ≠ 10 ∧ c < 1114112 := by
  rw [numText_eq] at hc
  obtain ⟨k, hk, rfl⟩ := List.mem_map.mp (show c ∈ r.map _ from hc)
  exact (find_sgn' (h.2 k hk).1 (h.2 k hk).2).2
theorem pic_split {w : Int} {rs : List (List Int)} (hne : rs ≠ []) (h : ∀ r ∈ rs, RowOk w r) : Txt.split (picText rs) "\n" = rs.map numText := by
  unfold picText
  rw [tjoin, lf_eq]
  refine split_join (by simpa using hne) fun p hp => ?_
  obtain ⟨r, hr, rfl⟩ := List.mem_map.mp hp
  exact fun hc => (num_mem (h r hr) hc).1 rfl
theorem pic_strOk {w : Int} {rs : List (List Int)} (h : ∀ r ∈ rs, RowOk w r) : PyData.strOk (picText rs) = true := by
  unfold PyData.strOk
  rw [← Array.all_toList, List.all_eq_true]
  intro c hc
  rw [decide_eq_true_eq]
  unfold picText at hc
  rw [tjoin, lf_eq] at hc
  rcases join_mem hc with rfl | ⟨p, hp, hk⟩
  · decide
  · obtain ⟨r, hr, rfl⟩ := List.mem_map.mp hp
    exact (num_mem (h r hr) hk).2
theorem pic_size {w : Int} {rs : List (List Int)} (hw : w ≤ 40) (hne : rs ≠ []) (hl : rs.length ≤ 40) (h : ∀ r ∈ rs, RowOk w r) : (picText rs).cps.size ≤ 1640 := by
  have h1 := join_le (sep := "\n") (ys := rs.map numText)
  have h2 : ((rs.map numText).map (·.length)).sum ≤ (rs.map numText).length * 40 := sum_le fun y hy => by
    obtain ⟨r, hr, rfl⟩ := List.mem_map.mp hy
    rw [numText_size]
    have := (h r hr).1
    omega
  have h3 : ("\n" : Str).length = 1 := by decide +kernel
  rw [h3, List.length_map] at h1
  rw [List.length_map] at h2
  have : rs.length * 40 ≤ 40 * 40 := Nat.mul_le_mul_right _ hl
  show (Txt.join "\n" (rs.map numText)).cps.size ≤ _
  omega
theorem pic_pos {w : Int} {rs : List (List Int)} (hw : 1 ≤ w) (hne : rs ≠ []) (h : ∀ r ∈ rs, RowOk w r) : 0 < (picText rs).cps.size := by
  cases rs with
  | nil => exact absurd rfl hne
  | cons r rr =>
    have : (numText r) ∈ (r :: rr).map numText := List.mem_map.mpr ⟨r, List.mem_cons_self, rfl⟩
    have q := join_len1 (c := 10) this
    have e : (numText r).cps.toList.length = r.length := by rw [← numText_size r]; simp
    have := (h r List.mem_cons_self).1
    have e2 : (Str.join ⟨#[10]⟩ ((r :: rr).map numText)).cps.toList.length = (picText (r :: rr)).cps.size := by
      unfold picText; rw [tjoin, lf_eq]; simp
    omega
theorem pic_due {w : Int} {rs : List (List Int)} (hw : 1 ≤ w) (hw2 : w ≤ 40) (hne : rs ≠ []) (hl : rs.length ≤ 40) (h : ∀ r ∈ rs, RowOk w r) : dueD (rs.map numText) = .lst (rowsL rs) := by
  have em : (rs.map numText).map rowD = rowsL rs := by
    rw [List.map_map]
    refine List.map_congr_left fun r hr => ?_
    show D.lst ((readNums (numText r)).map D.int) = _
    rw [readNums_num (h r hr)]
  have sz : ∀ p ∈ rs.map numText, (p.cps.size : Int) = w := fun p hp => by
    obtain ⟨r, hr, rfl⟩ := List.mem_map.mp hp
    rw [numText_size]; exact (h r hr).1
  have bd : (rs.map numText).any badRow = false := by
    rw [List.any_eq_false]
    intro p hp
    obtain ⟨r, hr, rfl⟩ := List.mem_map.mp hp
    unfold badRow
    rw [readNums_num (h r hr)]
    intro z
    obtain ⟨k, hk, e⟩ := List.any_eq_true.mp z
    have := (h r hr).2 k hk
    have : k = -1 := by simpa using e
    omega
  have pb : picB (rs.map numText) = true := by
    unfold picB
    rw [bd]
    cases rs with
    | nil => exact absurd rfl hne
    | cons r rr =>
      have s0 := sz (numText r) (List.mem_map.mpr ⟨r, List.mem_cons_self, rfl⟩)
      have e0 : ((r :: rr).map numText).getD 0 Str.empty = numText r := rfl
      rw [e0]
      have q1 : 1 ≤ (numText r).cps.size := by omega
      have q2 : (numText r).cps.size ≤ 40 := by omega
      have q3 : ((r :: rr).map numText).length ≤ 40 := by rw [List.length_map]; exact hl
      rw [decide_eq_true q1, decide_eq_true q2, decide_eq_true q3]
      rw [Bool.not_false, Bool.true_and, Bool.true_and, Bool.true_and]
      refine List.all_eq_true.mpr fun p hp => decide_eq_true ?_
      have := sz p hp
      omega
  unfold dueD
  rw [pb, if_pos rfl, em]
theorem word_text {M : Mem} (hM : M.all pureM = true) : F__law_word [.exc "NoText"] M = .ok (.tup [.str "text"]) M := by
  have l3 : (3 : Nat) ≤ sizeLine := le_line (by decide)
  have l6 : (6 : Nat) ≤ sizeLine := le_line (by decide)
  have l9 : (9 : Nat) < sizeLine := by rw [sizeLine_eq]; decide
  have l9' : (9 : Nat) ≤ sizeLine := le_line (by decide)
  have l10 : (10 : Nat) ≤ sizeLine := le_line (by decide)
  have l1 : (1 : Nat) ≤ sizeLine := le_line (by decide)
  have e : ∃ E, runD 2 g__law_word [.exc "NoText"] M = .ok (.tup [.str "text"]) (M ++ E) := by
    unfold g__law_word
    have at7 : ∀ a b c d e f g h i j : D, atI [a, b, c, d, e, f, g, h, i, j] 7 = some h := fun _ _ _ _ _ _ _ _ _ _ => rfl
    simp_arith [l3, l6, l9, l9', l10, l1, List.lookup, eqOp, List.findIdx?_cons, at7]
  obtain ⟨E, e⟩ := e
  unfold F__law_word
  rw [e]
  exact retP_pure rfl hM
theorem read_err {d : D} {M : Mem} (hM : M.all pureM = true) (h : F_read_picture [d] M = .err "NoText" M) : F__law_read [d] M = .ok (.tup [.str "text"]) M := by
  have w := word_text hM
  unfold F__law_read g__law_read
  simp_arith [h, w]
theorem lawread_ok {x : Str} {M : Mem} (hM : M.all pureM = true) (hx : x.cps.size ≤ 90000) : F__law_read [.str x] M = .ok (dueD (Txt.split x "\n")) M := by
  have hs : splitOk x "\n" = true := by rw [lf_eq]; exact split_okN 10 (by omega)
  have hp : ∀ p ∈ Txt.split x "\n", p.cps.size ≤ 100000 := fun p h => by
    rw [lf_eq] at h
    have := split_len1 h
    omega
  have e := readpic_ok (M := M) hs hp (split_ne _ _)
  unfold dueD
  cases hb : picB (Txt.split x "\n") with
  | false =>
    rw [hb, if_neg Bool.false_ne_true] at e
    rw [if_neg Bool.false_ne_true]
    exact read_err hM e
  | true =>
    rw [hb, if_pos rfl] at e
    rw [if_pos rfl]
    generalize (Txt.split x "\n").map rowD = rd at *
    unfold F__law_read g__law_read
    simp_arith [e]
def lw1 : GS := (sSet 5 (g2 ixA (gLst (DL.gCons (gC (.int 2)) (DL.gCons (gC (.int 16)) (DL.gCons (gC (.int 64)) DL.gNil)))) (gCall 2 F__law_draw (DL.gCons (gVar 1) (DL.gCons (gC (.int 3)) DL.gNil)))))
def lw3 : GS := (sFor (gRng1 (DL.gCons (gCall 2 F__law_size (DL.gCons (gVar 1) (DL.gCons (gC (.int 40)) DL.gNil))) DL.gNil)) (oneN 7) b2_law)
def lw5t : GT := (gOrT (gTst (g2 (eqOp true) (gCall 1 F_picture_text (DL.gCons (gComp (gItsA (gVar 6)) gAll e3_law mkLst) DL.gNil)) (gVar 8))) (gTst (g2 (eqOp true) (gCall 1 F__law_read (DL.gCons (gVar 8) DL.gNil)) (gVar 6))))
def lw5 : GS := (sIf lw5t (sRet (gC (.bl false))) sNext)
def lw7t : GT := (gTst (g2 (eqOp false) (gCall 2 F__law_draw (DL.gCons (gVar 1) (DL.gCons (gC (.int 6)) DL.gNil))) (gC (.int 0))))
def lw7a : GS := (sSet 9 (g2 ixA (gLst (DL.gCons (g2 addD (gVar 8) (gC (.str "\n"))) (DL.gCons (gC (.str "")) (DL.gCons (gC (.str "\n")) (DL.gCons (g2 addD (g2 addD (gVar 8) (gC (.str "\n"))) (gVar 8)) (DL.gCons (g2 addD (gC (.str " ")) (gVar 8)) DL.gNil)))))) (gCall 2 F__law_draw (DL.gCons (gVar 1) (DL.gCons (gC (.int 5)) DL.gNil)))))
def lw7 : GS := (sIf lw7t lw7a sNext)
theorem lw_eq (ρ : Rho) (M : Mem) : b3_law ρ M = (sSeq (sSet 4 (gCall 2 F__law_size (DL.gCons (gVar 1) (DL.gCons (gC (.int 40)) DL.gNil)))) (sSeq lw1 (sSeq (sSet 6 (gMut DL.gNil)) (sSeq lw3 (sSeq (sSet 8 (gMethS joinF (gC (.str "\n")) (gComp (gItsA (gVar 6)) gAll e2_law mkLst))) (sSeq lw5 (sSeq (sSet 9 (gCall 2 F__law_bent (DL.gCons (gVar 1) (DL.gCons (gVar 8) DL.gNil)))) (sSeq lw7 (sSeq (sSet 10 (gCall 1 F__law_read (DL.gCons (gVar 9) DL.gNil))) (sIf (gTst (g2 (eqOp true) (gVar 10) (gCall 1 F__law_due (DL.gCons (gVar 9) DL.gNil)))) (sRet (gC (.bl false))) sNext)))))))))) ρ M := rfl
def lg0 : GS := (sSet 1 (gMut (DL.gCons (gBlt listA (DL.gCons (gVar 0) DL.gNil)) (DL.gCons (gC (.int 0)) (DL.gCons (gC (.int 0)) DL.gNil)))))
def lg1 : GS := (sFor (gItsA (gLst (DL.gCons (gC .non) (DL.gCons (gC (.int 7)) (DL.gCons (gLst DL.gNil) (DL.gCons (DL.gTup (DL.gCons (gC (.str "0")) DL.gNil)) (DL.gCons (gLst (DL.gCons (gLst (DL.gCons (gC (.int 0)) DL.gNil)) DL.gNil)) (DL.gCons (gC (.bl true)) DL.gNil)))))))) (oneN 2) b1_law)
theorem lg_eq (ρ : Rho) (M : Mem) : g_law ρ M = (sSeq lg0 (sSeq lg1 (sSeq (sFor (gRng1 (DL.gCons (gC (.int 6)) DL.gNil)) (oneN 3) b3_law) (sRet (gC (.bl true)))))) ρ M := rfl

theorem rowsL_pure (rs : List (List Int)) : pureM (.lst (rowsL rs)) = true := by
  show (rowsL rs).all (pureD 30) = true
  unfold rowsL
  rw [List.all_map]
  refine List.all_eq_true.mpr fun r _ => ?_
  exact pure_ints 28 r
theorem rowsL_cmp (rs : List (List Int)) : cmpOk 40 (.lst (rowsL rs)) = true := by
  show cmpOks 39 (rowsL rs) = true
  refine cmpOks_all fun d hd => ?_
  obtain ⟨r, _, rfl⟩ := List.mem_map.mp hd
  show cmpOks 38 (r.map D.int) = true
  refine cmpOks_all fun d hd => ?_
  obtain ⟨k, _, rfl⟩ := List.mem_map.mp hd
  rfl
theorem due_cmp (ps : List Str) : cmpOk 40 (dueD ps) = true := by
  unfold dueD
  split
  · exact cmpOk_rows (n := 38) ps
  · decide +kernel
theorem eq_same {d : D} (h : cmpOk 40 d = true) (hm : ∀ M, now d M = d) (M : Mem) : eqOp true d d M = .ok (.bl false) M := by
  unfold eqOp
  rw [hm, h, eqB_self d 40 h]; rfl
theorem now_due (ps : List Str) (M : Mem) : now (dueD ps) M = dueD ps := by
  unfold dueD
  split <;> rfl
/-- the picture drawn -/
theorem drawn_ok {ns : List Int} {rest M : Mem} {most w : Int} {hi : Nat} {x0 x2 x3 x7 x8 x9 x10 : Option D} (hm : 0 < most) (hm2 : most ≤ 64) (hw : 1 ≤ w) (hw2 : w ≤ 40) (hh : hi ≤ 40) (t : Tape ns (rest ++ [.lst []]) M) :
    ∃ rs y7 M', rs.length = hi ∧ (∀ r ∈ rs, RowOk w r) ∧ Tape ns (rest ++ [.lst (rowsL rs)]) M' ∧
      forGo ⟨rangeD 0 hi, none⟩ (oneN 7) b2_law (rangeD 0 hi) [x0, some (.mr 0), x2, x3, some (.int w), some (.int most), some (.mr (rest.length + 1)), x7, x8, x9, x10] M = .ok (.nx [x0, some (.mr 0), x2, x3, some (.int w), some (.int most), some (.mr (rest.length + 1)), y7, x8, x9, x10]) M' := by
  obtain ⟨ρ', M', ⟨rs, y7, lr, hr, t', rfl⟩, ef⟩ := for_ix (ds0 := rangeD 0 hi) (s := oneN 7) (body := b2_law)
    (W := fun j ρ N => ∃ rs y7, rs.length = j ∧ (∀ r ∈ rs, RowOk w r) ∧ Tape ns (rest ++ [.lst (rowsL rs)]) N ∧ ρ = [x0, some (.mr 0), x2, x3, some (.int w), some (.int most), some (.mr (rest.length + 1)), y7, x8, x9, x10])
    (rangeD 0 hi) 0 (fun j d hd ρ N hW => by
      obtain ⟨rs, y7, lr, hr, t', rfl⟩ := hW
      obtain ⟨hj, hd'⟩ := get_rangeD hd
      subst hd'
      clear hd
      generalize 0 + (j : Int) = jj
      have rw_ : ∀ M, rng1 [.int w] M = .ok ⟨rangeD 0 w.toNat, none⟩ M := fun M => rng1_ok (by omega) M
      obtain ⟨es, N1, t1, le, he, ec⟩ := comp_all (ds0 := rangeD 0 w.toNat) (ge := e1_law) (ρ := [x0, some (.mr 0), x2, x3, some (.int w), some (.int most), some (.mr (rest.length + 1)), some (.int jj), x8, x9, x10]) (P := Tape ns (rest ++ [.lst (rowsL rs)])) (Q := fun e => ∃ k, e = .int k ∧ (0 ≤ k ∧ k < 64)) (rangeD 0 w.toNat)
        (fun d hd M hM => by
          obtain ⟨f, M', f0, f1, tf, ef⟩ := draw_ok hm (log_small hm (by omega)) hM
          refine ⟨.int f, M', tf, ⟨f, rfl, f0, by omega⟩, ?_⟩
          unfold e1_law
          simp [gCall, DL.gCons, DL.gNil, gVar, ef, DL.bind_ok]) N t'
      obtain ⟨ks, rfl, hk⟩ := ints_of he
      rw [List.length_map, rangeD_length] at le
      obtain ⟨i1, c1, hi1, rfl⟩ := t1
      have gt : (tp ns i1 c1 :: (rest ++ [MO.lst (rowsL rs)]))[rest.length + 1]? = some (.lst (rowsL rs)) := by simp
      have ll : (rowsL rs).length < sizeLine := by
        unfold rowsL
        rw [List.length_map, sizeLine_eq]
        exact Nat.lt_of_lt_of_le (by omega : rs.length < 100) (by decide)
      have lk : (ks.map D.int).length ≤ sizeLine := by rw [List.length_map]; exact le_line (by omega)
      have st : (tp ns i1 c1 :: (rest ++ [MO.lst (rowsL rs)])).set (rest.length + 1) (.lst (rowsL rs ++ [.lst (ks.map D.int)])) = tp ns i1 c1 :: (rest ++ [MO.lst (rowsL (rs ++ [ks]))]) := by
        unfold rowsL
        simp
      have ap : appD (rest.length + 1) (.lst (ks.map D.int)) (tp ns i1 c1 :: (rest ++ [MO.lst (rowsL rs)])) = .ok .non (tp ns i1 c1 :: (rest ++ [MO.lst (rowsL (rs ++ [ks]))])) := by
        unfold appD
        rw [gt]
        dsimp only
        rw [if_pos ll, st]
      refine ⟨_, [x0, some (.mr 0), x2, x3, some (.int w), some (.int most), some (.mr (rest.length + 1)), some (.int jj), x8, x9, x10], tp ns i1 c1 :: (rest ++ [.lst (rowsL (rs ++ [ks]))]), rfl, ?_, rs ++ [ks], some (.int jj), by rw [List.length_append, lr]; rfl, fun r h => ?_, ⟨i1, c1, hi1, rfl⟩, rfl⟩
      · obtain ⟨i0, c0, hi0, rfl⟩ := t'
        have gt0 : (tp ns i0 c0 :: (rest ++ [MO.lst (rowsL rs)]))[rest.length + 1]? = some (.lst (rowsL rs)) := by simp
        generalize tp ns i0 c0 :: (rest ++ [MO.lst (rowsL rs)]) = N0 at *
        generalize tp ns i1 c1 :: (rest ++ [MO.lst (rowsL rs)]) = N1 at *
        generalize tp ns i1 c1 :: (rest ++ [MO.lst (rowsL (rs ++ [ks]))]) = N2 at *
        generalize ks.map D.int = kd at *
        generalize rest.length + 1 = q at *
        unfold b2_law
        simp [sDrop, gApp, gVar, gt0, gComp, gRng1, DL.gCons, DL.gNil, rw_, ec, mkLst, lk, ap, DL.bind_ok]
      · rcases List.mem_append.mp h with h | h
        · exact hr r h
        · rw [List.mem_singleton.mp h]; exact ⟨by omega, hk⟩) [x0, some (.mr 0), x2, x3, some (.int w), some (.int most), some (.mr (rest.length + 1)), x7, x8, x9, x10] M ⟨[], x7, rfl, (fun r h => by cases h), t, rfl⟩
  rw [rangeD_length, Nat.zero_add] at lr
  exact ⟨rs, y7, M', lr, hr, t', ef⟩
theorem signs_comp {rs : List (List Int)} {M : Mem} {ρ : Rho} {t : Its} {w : Int} (ht : t.ok M = true) (h : ∀ r ∈ rs, RowOk w r) (hw : w ≤ 40) : compGo t gAll e2_law (rowsL rs) ρ M = .ok (rs.map fun r => .str (numText r)) M := by
  induction rs with
  | nil => show (if t.ok M then Out.ok [] M else .bad) = _; rw [if_pos ht]; rfl
  | cons r rs ih =>
    have ih := ih fun r h' => h r (List.mem_cons_of_mem _ h')
    have h1 := h r List.mem_cons_self
    have e := signsl_ok (ks := r) (M := M) h1.2 (by have := h1.1; omega)
    have e2 : e2_law (some (.lst (r.map D.int)) :: ρ) M = .ok (.str (numText r)) M := by
      unfold e2_law
      simp [gCall, DL.gCons, DL.gNil, gVar, e, DL.bind_ok]
    show compGo t gAll e2_law (.lst (r.map D.int) :: rowsL rs) ρ M = _
    rw [compGo, if_pos ht]
    dsimp only [gAll]
    rw [e2]
    dsimp only
    rw [ih]; rfl
theorem copy_comp {rs : List (List Int)} {M : Mem} {ρ : Rho} {t : Its} (ht : t.ok M = true) : compGo t gAll e3_law (rowsL rs) ρ M = .ok (rowsL rs) M := by
  induction rs with
  | nil => show (if t.ok M then Out.ok [] M else .bad) = _; rw [if_pos ht]; rfl
  | cons r rs ih =>
    have e2 : e3_law (some (.lst (r.map D.int)) :: ρ) M = .ok (.lst (r.map D.int)) M := rfl
    show compGo t gAll e3_law (.lst (r.map D.int) :: rowsL rs) ρ M = _
    rw [compGo, if_pos ht]
    dsimp only [gAll]
    rw [e2]
    dsimp only
    rw [ih]; rfl
theorem pick3 {f : Int} (h0 : 0 ≤ f) (h1 : f < 3) : ∃ m, 0 < m ∧ m ≤ 64 ∧ ∀ M, ixA (.lst [.int 2, .int 16, .int 64]) (.int f) M = .ok (.int m) M := by
  have : f = 0 ∨ f = 1 ∨ f = 2 := by omega
  rcases this with rfl | rfl | rfl
  · exact ⟨2, by decide, by decide, fun M => rfl⟩
  · exact ⟨16, by decide, by decide, fun M => rfl⟩
  · exact ⟨64, by decide, by decide, fun M => rfl⟩
theorem pick5 {a b c d e : Str} {f : Int} (h0 : 0 ≤ f) (h1 : f < 5) (B : Nat) (ha : a.cps.size ≤ B) (hb : b.cps.size ≤ B) (hc : c.cps.size ≤ B) (hd : d.cps.size ≤ B) (he : e.cps.size ≤ B) : ∃ m : Str, m.cps.size ≤ B ∧ ∀ M, ixA (.lst [.str a, .str b, .str c, .str d, .str e]) (.int f) M = .ok (.str m) M := by
  have : f = 0 ∨ f = 1 ∨ f = 2 ∨ f = 3 ∨ f = 4 := by omega
  rcases this with rfl | rfl | rfl | rfl | rfl
  · exact ⟨a, ha, fun M => rfl⟩
  · exact ⟨b, hb, fun M => rfl⟩
  · exact ⟨c, hc, fun M => rfl⟩
  · exact ⟨d, hd, fun M => rfl⟩
  · exact ⟨e, he, fun M => rfl⟩
theorem add_str {a b : Str} (h : a.cps.size + b.cps.size ≤ 90000) (M : Mem) : addD (.str a) (.str b) M = .ok (.str (a ++ b)) M := by
  have : a.length + b.length ≤ sizeLine := le_line (show a.cps.size + b.cps.size ≤ 1000000 by omega)
  show (if a.length + b.length ≤ sizeLine then Out.ok (D.str (a ++ b)) M else .bad) = _
  rw [if_pos this]
theorem app_size (a b : Str) : (a ++ b).cps.size = a.cps.size + b.cps.size := by rw [Str.cps_append]; simp
theorem turn_ok {ns : List Int} {rest M : Mem} {x0 x2 x3 x4 x5 x6 x7 x8 x9 x10 : Option D} (t0 : Tape ns rest M) (hr : rest.all pureM = true) :
    ∃ y4 y5 y6 y7 y8 y9 y10 rest' M', Tape ns rest' M' ∧ rest'.all pureM = true ∧ b3_law [x0, some (.mr 0), x2, x3, x4, x5, x6, x7, x8, x9, x10] M = .ok (.nx [x0, some (.mr 0), x2, x3, y4, y5, y6, y7, y8, y9, y10]) M' := by
  obtain ⟨w, M1, w1, w2, t1, e1⟩ := size_ok (most := 40) (by decide) (by decide) t0
  obtain ⟨f2, M2, a2, b2, t2, e2⟩ := draw_ok (many := 3) (by decide) (log_small (by decide) (by decide)) t1
  obtain ⟨most, m1, m2, k2⟩ := pick3 a2 b2
  have three : (3 : Nat) ≤ sizeLine := le_line (by decide)
  have five : (5 : Nat) ≤ sizeLine := le_line (by decide)
  have s0 : (sSet 4 (gCall 2 F__law_size (DL.gCons (gVar 1) (DL.gCons (gC (.int 40)) DL.gNil)))) [x0, some (.mr 0), x2, x3, x4, x5, x6, x7, x8, x9, x10] M = .ok (.nx [x0, some (.mr 0), x2, x3, some (.int w), x5, x6, x7, x8, x9, x10]) M1 := by
    simp [sSet, gCall, DL.gCons, DL.gNil, gVar, gC, e1, DL.bind_ok]
  have s1 : lw1 [x0, some (.mr 0), x2, x3, some (.int w), x5, x6, x7, x8, x9, x10] M1 = .ok (.nx [x0, some (.mr 0), x2, x3, some (.int w), some (.int most), x6, x7, x8, x9, x10]) M2 := by
    unfold lw1
    simp [sSet, DL.g2, gLst, mkLst, gCall, DL.gCons, DL.gNil, gVar, gC, e2, k2, three, DL.bind_ok]
  obtain ⟨i2, c2, hi2, rfl⟩ := t2
  have s2 : (sSet 6 (gMut DL.gNil)) [x0, some (.mr 0), x2, x3, some (.int w), some (.int most), x6, x7, x8, x9, x10] (tp ns i2 c2 :: rest) = .ok (.nx [x0, some (.mr 0), x2, x3, some (.int w), some (.int most), some (.mr (rest.length + 1)), x7, x8, x9, x10]) (tp ns i2 c2 :: (rest ++ [.lst []])) := by
    have z0 : (0 : Nat) ≤ sizeLine := Nat.zero_le _
    simp [sSet, gMut, DL.gNil, mkMut, z0, DL.bind_ok]
  obtain ⟨h, M3, h1, h2, t3, e3⟩ := size_ok (l := ns) (rest := rest ++ [.lst []]) (most := 40) (by decide) (by decide) ⟨i2, c2, hi2, rfl⟩
  obtain ⟨rs, y7, M4, lr, hrs, t4, e4⟩ := drawn_ok (hi := h.toNat) (x0 := x0) (x2 := x2) (x3 := x3) (x7 := x7) (x8 := x8) (x9 := x9) (x10 := x10) m1 m2 w1 w2 (by omega) t3
  have rh : ∀ M, rng1 [.int h] M = .ok ⟨rangeD 0 h.toNat, none⟩ M := fun M => rng1_ok (by omega) M
  have s3 : lw3 [x0, some (.mr 0), x2, x3, some (.int w), some (.int most), some (.mr (rest.length + 1)), x7, x8, x9, x10] (tp ns i2 c2 :: (rest ++ [.lst []])) = .ok (.nx [x0, some (.mr 0), x2, x3, some (.int w), some (.int most), some (.mr (rest.length + 1)), y7, x8, x9, x10]) M4 := by
    generalize tp ns i2 c2 :: (rest ++ [MO.lst []]) = N0 at *
    generalize rest.length + 1 = q at *
    unfold lw3
    simp [sFor, gRng1, gCall, DL.gCons, DL.gNil, gVar, gC, e3, rh, e4, DL.bind_ok]
  have hne : rs ≠ [] := fun z => by rw [z] at lr; simp at lr; omega
  have hl : rs.length ≤ 40 := by omega
  obtain ⟨i4, c4, hi4, rfl⟩ := t4
  have pr : (rest ++ [MO.lst (rowsL rs)]).all pureM = true := by rw [List.all_append, hr]; simp [rowsL_pure]
  have pM : ∀ i c, (tp ns i c :: (rest ++ [MO.lst (rowsL rs)])).all pureM = true := fun i c => pure_tp pr
  have g6 : ∀ i c, (tp ns i c :: (rest ++ [MO.lst (rowsL rs)]))[rest.length + 1]? = some (.lst (rowsL rs)) := fun i c => by simp
  have it6 : ∀ i c, itsA (.mr (rest.length + 1)) (tp ns i c :: (rest ++ [MO.lst (rowsL rs)])) = .ok ⟨rowsL rs, some (rest.length + 1)⟩ (tp ns i c :: (rest ++ [MO.lst (rowsL rs)])) := fun i c => by
    show itsOf (.mr (rest.length + 1)) _ = _
    unfold itsOf
    dsimp only
    rw [g6]
  have ok6 : ∀ i c, Its.ok ⟨rowsL rs, some (rest.length + 1)⟩ (tp ns i c :: (rest ++ [MO.lst (rowsL rs)])) = true := fun i c => by
    show (match (tp ns i c :: (rest ++ [MO.lst (rowsL rs)]))[rest.length + 1]? with | some (MO.lst xs) => beqDs xs (rowsL rs) | _ => false) = true
    rw [g6]
    exact beqDs_refl _
  have pt := pictext_ok (rs := rs) (M := tp ns i4 c4 :: (rest ++ [.lst (rowsL rs)])) (fun r h => ⟨by have := (hrs r h).1; omega, (hrs r h).2⟩) hl
  have sz := pic_size w2 hne hl hrs
  have lrd := lawread_ok (x := picText rs) (M := tp ns i4 c4 :: (rest ++ [.lst (rowsL rs)])) (pM _ _) (by omega)
  rw [pic_split hne hrs, pic_due w1 w2 hne hl hrs] at lrd
  have lR : (rowsL rs).length ≤ sizeLine := by unfold rowsL; rw [List.length_map]; exact le_line (by omega)
  have lS : (rs.map fun r => D.str (numText r)).length ≤ sizeLine := by rw [List.length_map]; exact le_line (by omega)
  have sc := signs_comp (ρ := [x0, some (.mr 0), x2, x3, some (.int w), some (.int most), some (.mr (rest.length + 1)), y7, x8, x9, x10]) (ok6 i4 c4) hrs w2
  have cc := copy_comp (rs := rs) (ρ := [x0, some (.mr 0), x2, x3, some (.int w), some (.int most), some (.mr (rest.length + 1)), y7, some (.str (picText rs)), x9, x10]) (ok6 i4 c4)
  have so := strsO_map numText rs
  have jo : JoinOk "\n" (rs.map numText) = true := by
    refine join_few (n := 40) (fun y hy => ?_) ?_
    · obtain ⟨r, hr', rfl⟩ := List.mem_map.mp hy
      have := (hrs r hr').1
      have := numText_len r
      omega
    · have : ("\n" : Str).length = 1 := by decide +kernel
      rw [this, List.length_map]; omega
  have s4 : (sSet 8 (gMethS joinF (gC (.str "\n")) (gComp (gItsA (gVar 6)) gAll e2_law mkLst))) [x0, some (.mr 0), x2, x3, some (.int w), some (.int most), some (.mr (rest.length + 1)), y7, x8, x9, x10] (tp ns i4 c4 :: (rest ++ [.lst (rowsL rs)])) = .ok (.nx [x0, some (.mr 0), x2, x3, some (.int w), some (.int most), some (.mr (rest.length + 1)), y7, some (.str (picText rs)), x9, x10]) (tp ns i4 c4 :: (rest ++ [.lst (rowsL rs)])) := by
    have it := it6 i4 c4
    unfold picText
    generalize tp ns i4 c4 :: (rest ++ [MO.lst (rowsL rs)]) = N at *
    generalize rest.length + 1 = q at *
    generalize rs.map (fun r => D.str (numText r)) = sd at *
    simp [sSet, gMethS, gC, gComp, gItsA, gVar, it, sc, mkLst, lS, joinF, lstOf, so, jo, DL.bind_ok]
  have soP := pic_strOk hrs
  have ep : ∀ M, eqOp true (.str (picText rs)) (.str (picText rs)) M = .ok (.bl false) M := eq_same soP fun _ => rfl
  have er : eqOp true (.lst (rowsL rs)) (.mr (rest.length + 1)) (tp ns i4 c4 :: (rest ++ [.lst (rowsL rs)])) = .ok (.bl false) (tp ns i4 c4 :: (rest ++ [.lst (rowsL rs)])) := by
    have nw : now (.mr (rest.length + 1)) (tp ns i4 c4 :: (rest ++ [.lst (rowsL rs)])) = .lst (rowsL rs) := by
      unfold now
      dsimp only
      rw [g6]
    have h := rowsL_cmp rs
    unfold eqOp
    rw [nw]
    show (if cmpOk 40 (.lst (rowsL rs)) && cmpOk 40 (.lst (rowsL rs)) then Out.ok (D.bl (eqB (.lst (rowsL rs)) (.lst (rowsL rs)) != true)) _ else .bad) = _
    rw [h, eqB_self _ 40 h]; rfl
  have s5 : lw5 [x0, some (.mr 0), x2, x3, some (.int w), some (.int most), some (.mr (rest.length + 1)), y7, some (.str (picText rs)), x9, x10] (tp ns i4 c4 :: (rest ++ [.lst (rowsL rs)])) = .ok (.nx [x0, some (.mr 0), x2, x3, some (.int w), some (.int most), some (.mr (rest.length + 1)), y7, some (.str (picText rs)), x9, x10]) (tp ns i4 c4 :: (rest ++ [.lst (rowsL rs)])) := by
    have it := it6 i4 c4
    have t : lw5t [x0, some (.mr 0), x2, x3, some (.int w), some (.int most), some (.mr (rest.length + 1)), y7, some (.str (picText rs)), x9, x10] (tp ns i4 c4 :: (rest ++ [.lst (rowsL rs)])) = .ok false (tp ns i4 c4 :: (rest ++ [.lst (rowsL rs)])) := by
      generalize tp ns i4 c4 :: (rest ++ [MO.lst (rowsL rs)]) = N at *
      generalize rest.length + 1 = q at *
      generalize picText rs = x at *
      generalize rowsL rs = rd at *
      unfold lw5t
      simp [gOrT, gTst, DL.g2, gCall, DL.gCons, DL.gNil, gComp, gItsA, gVar, it, cc, mkLst, lR, pt, ep, lrd, er, asB, DL.bind_ok]
    unfold lw5
    exact (if_f t).trans rfl
  have sp := pic_split hne hrs
  obtain ⟨y, M5, hy, t5, e5⟩ := bent_ok (l := ns) (rest := rest ++ [.lst (rowsL rs)]) (x := picText rs) ⟨i4, c4, hi4, rfl⟩ pr soP (by omega) (pic_pos w1 hne hrs) (by rw [sp, List.length_map]; exact hl) (by
    rw [sp]
    intro p hp
    obtain ⟨r, hr', rfl⟩ := List.mem_map.mp hp
    rw [numText_size]
    have := (hrs r hr').1
    omega)
  have s6 : (sSet 9 (gCall 2 F__law_bent (DL.gCons (gVar 1) (DL.gCons (gVar 8) DL.gNil)))) [x0, some (.mr 0), x2, x3, some (.int w), some (.int most), some (.mr (rest.length + 1)), y7, some (.str (picText rs)), x9, x10] (tp ns i4 c4 :: (rest ++ [.lst (rowsL rs)])) = .ok (.nx [x0, some (.mr 0), x2, x3, some (.int w), some (.int most), some (.mr (rest.length + 1)), y7, some (.str (picText rs)), some (.str y), x10]) M5 := by
    generalize tp ns i4 c4 :: (rest ++ [MO.lst (rowsL rs)]) = N at *
    simp [sSet, gCall, DL.gCons, DL.gNil, gVar, e5, DL.bind_ok]
  obtain ⟨f6, M6, a6, b6, t6, e6⟩ := draw_ok (many := 6) (by decide) (log_small (by decide) (by decide)) t5
  have lfs : ("\n" : Str).cps.size = 1 := by decide +kernel
  have sps : (" " : Str).cps.size = 1 := by decide +kernel
  have nls : ("" : Str).cps.size = 0 := by decide +kernel
  obtain ⟨z, M7, hz, t7, s7⟩ : ∃ z M7, z.cps.size ≤ 90000 ∧ Tape ns (rest ++ [.lst (rowsL rs)]) M7 ∧ lw7 [x0, some (.mr 0), x2, x3, some (.int w), some (.int most), some (.mr (rest.length + 1)), y7, some (.str (picText rs)), some (.str y), x10] M5 = .ok (.nx [x0, some (.mr 0), x2, x3, some (.int w), some (.int most), some (.mr (rest.length + 1)), y7, some (.str (picText rs)), some (.str z), x10]) M7 := by
    by_cases h6 : f6 = 0
    · obtain ⟨f7, M7, a7, b7, t7, e7⟩ := draw_ok (many := 5) (by decide) (log_small (by decide) (by decide)) t6
      have q1 := app_size (picText rs) "\n"
      have q2 := app_size (picText rs ++ ("\n" : Str)) (picText rs)
      have q3 := app_size " " (picText rs)
      obtain ⟨z, hz, kz⟩ := pick5 (a := picText rs ++ ("\n" : Str)) (b := "") (c := "\n") (d := picText rs ++ ("\n" : Str) ++ picText rs) (e := (" " : Str) ++ picText rs) a7 b7 90000 (by omega) (by omega) (by omega) (by omega) (by omega)
      refine ⟨z, M7, hz, t7, ?_⟩
      have p1 := add_str (a := picText rs) (b := "\n") (by omega)
      have p2 := add_str (a := picText rs ++ ("\n" : Str)) (b := picText rs) (by omega)
      have p3 := add_str (a := " ") (b := picText rs) (by omega)
      have t : lw7t [x0, some (.mr 0), x2, x3, some (.int w), some (.int most), some (.mr (rest.length + 1)), y7, some (.str (picText rs)), some (.str y), x10] M5 = .ok true M6 := by
        unfold lw7t
        simp [gTst, DL.g2, gCall, DL.gCons, DL.gNil, gVar, gC, e6, eqi_f, h6, asB, DL.bind_ok]
      unfold lw7
      rw [if_t t]
      generalize picText rs = x at *
      unfold lw7a
      simp [sSet, DL.g2, gLst, mkLst, gCall, DL.gCons, DL.gNil, gVar, gC, p1, p2, p3, e7, kz, five, DL.bind_ok]
    · refine ⟨y, M6, hy, t6, ?_⟩
      have t : lw7t [x0, some (.mr 0), x2, x3, some (.int w), some (.int most), some (.mr (rest.length + 1)), y7, some (.str (picText rs)), some (.str y), x10] M5 = .ok false M6 := by
        unfold lw7t
        simp [gTst, DL.g2, gCall, DL.gCons, DL.gNil, gVar, gC, e6, eqi_f, h6, asB, DL.bind_ok]
      unfold lw7
      exact (if_f t).trans rfl
  obtain ⟨i7, c7, hi7, rfl⟩ := t7
  have fr := lawread_ok (x := z) (M := tp ns i7 c7 :: (rest ++ [.lst (rowsL rs)])) (pM _ _) hz
  have fd := due_ok (x := z) (M := tp ns i7 c7 :: (rest ++ [.lst (rowsL rs)])) hz (pM _ _)
  have fe := eq_same (due_cmp (Txt.split z "\n")) (now_due _)
  refine ⟨some (.int w), some (.int most), some (.mr (rest.length + 1)), y7, some (.str (picText rs)), some (.str z), some (dueD (Txt.split z "\n")), rest ++ [.lst (rowsL rs)], tp ns i7 c7 :: (rest ++ [.lst (rowsL rs)]), ⟨i7, c7, hi7, rfl⟩, pr, ?_⟩
  rw [lw_eq, sq_nx s0, sq_nx s1, sq_nx s2, sq_nx s3, sq_nx s4, sq_nx s5, sq_nx s6, sq_nx s7]
  generalize tp ns i7 c7 :: (rest ++ [MO.lst (rowsL rs)]) = N at *
  generalize dueD (Txt.split z "\n") = dd at *
  simp [sSeq, sSet, gCall, DL.gCons, DL.gNil, gVar, fr, sIf, gTst, DL.g2, fd, fe, asB, sNext, DL.bind_ok]
theorem law_true (ns : List Int) (hl : ns.length ≤ 63) : ∃ M', F_law [.ro (ns.map D.int)] [] = .ok (.bl true) M' := by
  have pt : ([tp ns 0 0] : Mem).all pureM = true := pure_tp rfl
  have l3 : (3 : Nat) ≤ sizeLine := le_line (by decide)
  have g0 : lg0 [some (.ro (ns.map D.int)), none, none, none, none, none, none, none, none, none, none] [] = .ok (.nx [some (.ro (ns.map D.int)), some (.mr 0), none, none, none, none, none, none, none, none, none]) [tp ns 0 0] := by
    unfold lg0 tp
    simp [sSet, gMut, mkMut, gBlt, DL.gCons, DL.gNil, gVar, gC, listA, listF, itemsOf, l3, DL.bind_ok]
  have no : ∀ d ∈ [D.non, .int 7, .lst [], .tup [.str "0"], .lst [.lst [.int 0]], .bl true], F_read_picture [d] [tp ns 0 0] = .err "NoText" [tp ns 0 0] := by
    intro d hd
    simp only [List.mem_cons, List.not_mem_nil, or_false] at hd
    rcases hd with rfl | rfl | rfl | rfl | rfl | rfl <;> rfl
  have te : ∀ M, eqOp true (.tup [.str "text"]) (.tup [.str "text"]) M = .ok (.bl false) M := eq_same (by decide +kernel) fun _ => rfl
  obtain ⟨ρ1, M1, ⟨x2, rfl, rfl⟩, ef⟩ := for_all (ds0 := [D.non, .int 7, .lst [], .tup [.str "0"], .lst [.lst [.int 0]], .bl true]) (s := oneN 2) (body := b1_law) (W := fun ρ M => ∃ x2, M = [tp ns 0 0] ∧ ρ = [some (.ro (ns.map D.int)), some (.mr 0), x2, none, none, none, none, none, none, none, none]) [D.non, .int 7, .lst [], .tup [.str "0"], .lst [.lst [.int 0]], .bl true]
    (fun d hd ρ M hW => by
      obtain ⟨x2, rfl, rfl⟩ := hW
      refine ⟨_, [some (.ro (ns.map D.int)), some (.mr 0), some d, none, none, none, none, none, none, none, none], [tp ns 0 0], rfl, ?_, _, rfl, rfl⟩
      have e := read_err pt (no d hd)
      have one : (1 : Nat) ≤ sizeLine := le_line (by decide)
      generalize [tp ns 0 0] = N at *
      unfold b1_law
      simp [sIf, gTst, DL.g2, gCall, DL.gCons, DL.gNil, gVar, gC, e, DL.gTup, mkTup, one, te, asB, sNext, DL.bind_ok]) [some (.ro (ns.map D.int)), some (.mr 0), none, none, none, none, none, none, none, none, none] [tp ns 0 0] ⟨_, rfl, rfl⟩
  have g1 : lg1 [some (.ro (ns.map D.int)), some (.mr 0), none, none, none, none, none, none, none, none, none] [tp ns 0 0] = .ok (.nx [some (.ro (ns.map D.int)), some (.mr 0), x2, none, none, none, none, none, none, none, none]) [tp ns 0 0] := by
    have one : (1 : Nat) ≤ sizeLine := le_line (by decide)
    have six : (6 : Nat) ≤ sizeLine := le_line (by decide)
    have z0 : (0 : Nat) ≤ sizeLine := Nat.zero_le _
    generalize [tp ns 0 0] = N at *
    unfold lg1
    simp [sFor, gItsA, itsA, itsOf, gLst, mkLst, DL.gTup, mkTup, DL.gCons, DL.gNil, gC, one, six, z0, ef, DL.bind_ok]
  obtain ⟨ρ2, M2, _, ef2⟩ := for_all (ds0 := rangeD 0 6) (s := oneN 3) (body := b3_law) (W := fun ρ M => ∃ rest x2 x3 x4 x5 x6 x7 x8 x9 x10, Tape ns rest M ∧ rest.all pureM = true ∧ ρ = [some (.ro (ns.map D.int)), some (.mr 0), x2, x3, x4, x5, x6, x7, x8, x9, x10]) (rangeD 0 6)
    (fun d hd ρ M hW => by
      obtain ⟨rest, x2, x3, x4, x5, x6, x7, x8, x9, x10, t, pr, rfl⟩ := hW
      obtain ⟨y4, y5, y6, y7, y8, y9, y10, rest', M', t', pr', e⟩ := turn_ok (x0 := some (.ro (ns.map D.int))) (x2 := x2) (x3 := some d) (x4 := x4) (x5 := x5) (x6 := x6) (x7 := x7) (x8 := x8) (x9 := x9) (x10 := x10) t pr
      exact ⟨_, _, M', rfl, e, rest', _, _, _, _, _, _, _, _, _, t', pr', rfl⟩) [some (.ro (ns.map D.int)), some (.mr 0), x2, none, none, none, none, none, none, none, none] [tp ns 0 0] ⟨[], _, _, _, _, _, _, _, _, _, ⟨0, 0, by decide, rfl⟩, rfl, rfl⟩
  have r6 : ∀ M, rng1 [.int 6] M = .ok ⟨rangeD 0 6, none⟩ M := fun M => rng1_ok (j := 6) (by decide) M
  refine ⟨M2, ?_⟩
  show retOf (g_law [some (.ro (ns.map D.int)), none, none, none, none, none, none, none, none, none, none] []) = _
  rw [lg_eq, sq_nx g0, sq_nx g1]
  generalize [tp ns 0 0] = N at *
  simp [sSeq, sFor, gRng1, DL.gCons, DL.gNil, gC, r6, ef2, sRet, retOf, DL.bind_ok]
end K21


open PySem PySem.W PyProof.Rows
local macro_rules | `(tactic| o_head $H) => `(tactic| (
  refine holds_open (q := (view PySem.Challenge.pw_glowrow_k21_pictures_as_texts [1, 2, 3, 4, 5, 6, 7, 8, 9, 10, 11, 13, 14, 15, 16, 17, 19, 20, 21, 22, 23, 24, 25, 26, 27, 28])) (loose := []) (Xt := fun s => xlAt (view PySem.Challenge.pw_glowrow_k21_pictures_as_texts [1, 2, 3, 4, 5, 6, 7, 8, 9, 10, 11, 13, 14, 15, 16, 17, 19, 20, 21, 22, 23, 24, 25, 26, 27, 28]) [] s && recOk (RowW.records (OpenRow.toRowW (OpenLaw.row PySem.Challenge.rw_glowrow_k21_pictures_as_texts))) s) (XP := XL (view PySem.Challenge.pw_glowrow_k21_pictures_as_texts [1, 2, 3, 4, 5, 6, 7, 8, 9, 10, 11, 13, 14, 15, 16, 17, 19, 20, 21, 22, 23, 24, 25, 26, 27, 28]) []) (Yf := Hook.obs $H) (Ya := Hook.val $H) (YP := Hook.says $H) (N := 5644) ?hl (Hook.of $H) (Hook.keeps $H) (fun s e => xl_of s (Bool.and_eq_true_iff.mp e).1) XL.keeps (by rfl) (by rfl) (by rfl) (fun s e => recFacts_of (Bool.and_eq_true_iff.mp e).2) (by rfl) (by first | assumption | decide +kernel) (by decide +kernel) ⟨rfl, rfl, rfl, rfl, rfl, by decide +kernel⟩ ?hw ?hc;
  (case hl =>
    refine Hd.left_whole (H := boot_heap) (gs := Array.mk []) (d := boot_drawn) (k := boot_toks) (m := 11) (ann := some (Value.ref 6)) (T := Hd.bootT) (lf := {}) (boot_open (by kernel_rfl) rfl (fun s => by kernel_rfl)) (fun w => by kernel_rfl) Hd.boot_tree ?_
    intro w os
    rw [PySem.W.Fast.te15732481512506401174, PySem.W.Fast.te2530740449226627131, PySem.W.Fast.te4187177175401517315]
    kernel_rfl)))
set_option maxRecDepth 100000 in
set_option maxHeartbeats 0 in
theorem PySem.Challenge.cw_glowrow_k21_pictures_as_texts_holds : PySem.Challenge.rw_glowrow_k21_pictures_as_texts.Holds := by
  w_on; o_law; k_head; (case hw => w_witness2)
  k_fill
  refine DL.walk_d (l := PySem.Challenge.rw_glowrow_k21_pictures_as_texts) (n := 63) (k := 4) (x := "script") (F := K21.F_law) rfl (by decide) rfl ⟨rfl, by decide, by decide⟩ (fun w h Y => PySem.W.kIn_of Y) ?F ?t1 ?t2 ?t3 ?t4 K21.law_true
  case F =>
    intro w mg fa h KX G hmg
    refine' K21.all_mk KX G hmg ?a0 ?l0 ?c0 ?k0 ?a1 ?l1 ?c1 ?k1 ?a2 ?l2 ?c2 ?k2 ?a3 ?l3 ?c3 ?k3 ?a4 ?l4 ?c4 ?k4 ?a5 ?l5 ?c5 ?k5 ?a6 ?l6 ?c6 ?k6 ?a7 ?l7 ?c7 ?k7 ?a8 ?l8 ?c8 ?k8 ?a9 ?l9 ?c9 ?k9 ?a10 ?l10 ?c10 ?k10 ?a11 ?l11 ?c11 ?k11 ?a12 ?l12 ?c12 ?k12 ?a13 ?l13 ?c13 ?k13 ?z0 ?z1 ?z2 ?z3 ?z4 ?z5 ?z6 ?z7 ?z8 ?z9 ?sp ?tk ?q_Clash ?cl_Clash ?ca_Clash ?ob_Clash ?ga_Clash ?gh_Clash ?be_Clash ?ex_Clash ?ty_Clash ?sf_Clash ?q_GlowError ?cl_GlowError ?ca_GlowError ?ob_GlowError ?ga_GlowError ?gh_GlowError ?be_GlowError ?ex_GlowError ?ty_GlowError ?sf_GlowError ?q_NoDeed ?cl_NoDeed ?ca_NoDeed ?ob_NoDeed ?ga_NoDeed ?gh_NoDeed ?be_NoDeed ?ex_NoDeed ?ty_NoDeed ?sf_NoDeed ?q_NoFilm ?cl_NoFilm ?ca_NoFilm ?ob_NoFilm ?ga_NoFilm ?gh_NoFilm ?be_NoFilm ?ex_NoFilm ?ty_NoFilm ?sf_NoFilm ?q_NoFrame ?cl_NoFrame ?ca_NoFrame ?ob_NoFrame ?ga_NoFrame ?gh_NoFrame ?be_NoFrame ?ex_NoFrame ?ty_NoFrame ?sf_NoFrame ?q_NoRow ?cl_NoRow ?ca_NoRow ?ob_NoRow ?ga_NoRow ?gh_NoRow ?be_NoRow ?ex_NoRow ?ty_NoRow ?sf_NoRow ?q_NoScore ?cl_NoScore ?ca_NoScore ?ob_NoScore ?ga_NoScore ?gh_NoScore ?be_NoScore ?ex_NoScore ?ty_NoScore ?sf_NoScore ?q_NoStand ?cl_NoStand ?ca_NoStand ?ob_NoStand ?ga_NoStand ?gh_NoStand ?be_NoStand ?ex_NoStand ?ty_NoStand ?sf_NoStand ?q_NoText ?cl_NoText ?ca_NoText ?ob_NoText ?ga_NoText ?gh_NoText ?be_NoText ?ex_NoText ?ty_NoText ?sf_NoText ?q_NoTick ?cl_NoTick ?ca_NoTick ?ob_NoTick ?ga_NoTick ?gh_NoTick ?be_NoTick ?ex_NoTick ?ty_NoTick ?sf_NoTick ?q_Over ?cl_Over ?ca_Over ?ob_Over ?ga_Over ?gh_Over ?be_Over ?ex_Over ?ty_Over ?sf_Over ?m_NoText_Clash ?m_NoText_GlowError ?m_NoText_NoDeed ?m_NoText_NoFilm ?m_NoText_NoFrame ?m_NoText_NoRow ?m_NoText_NoScore ?m_NoText_NoStand ?m_NoText_NoText ?m_NoText_NoTick ?m_NoText_Over ?m_NoText_ValueError ?v_SIGNS
    (case a0 => k_is)
    (case l0 => k_is)
    (case c0 => k_is)
    (case k0 => k_is)
    (case a1 => k_is)
    (case l1 => k_is)
    (case c1 => k_is)
    (case k1 => k_is)
    (case a2 => k_is)
    (case l2 => k_is)
    (case c2 => k_is)
    (case k2 => k_is)
    (case a3 => k_is)
    (case l3 => k_is)
    (case c3 => k_is)
    (case k3 => k_is)
    (case a4 => k_is)
    (case l4 => k_is)
    (case c4 => k_is)
    (case k4 => k_is)
    (case a5 => k_is)
    (case l5 => k_is)
    (case c5 => k_is)
    (case k5 => k_is)
    (case a6 => k_is)
    (case l6 => k_is)
    (case c6 => k_is)
    (case k6 => k_is)
    (case a7 => k_is)
    (case l7 => k_is)
    (case c7 => k_is)
    (case k7 => k_is)
    (case a8 => k_is)
    (case l8 => k_is)
    (case c8 => k_is)
    (case k8 => k_is)
    (case a9 => k_is)
    (case l9 => k_is)
    (case c9 => k_is)
    (case k9 => k_is)
    (case a10 => k_is)
    (case l10 => k_is)
    (case c10 => k_is)
    (case k10 => k_is)
    (case a11 => k_is)
    (case l11 => k_is)
    (case c11 => k_is)
    (case k11 => k_is)
    (case a12 => k_is)
    (case l12 => k_is)
    (case c12 => k_is)
    (case k12 => k_is)
    (case a13 => k_is)
    (case l13 => k_is)
    (case c13 => k_is)
    (case k13 => k_is)
    (case z0 => k_is)
    (case z1 => k_is)
    (case z2 => k_is)
    (case z3 => k_is)
    (case z4 => k_is)
    (case z5 => k_is)
    (case z6 => k_is)
    (case z7 => k_is)
    (case z8 => k_is)
    (case z9 => k_is)
    (case sp => k_is)
    (case tk => k_is)
    (case q_Clash => k_is)
    (case cl_Clash => k_is)
    (case ca_Clash => k_is)
    (case ob_Clash => k_is)
    (case ga_Clash => k_is)
    (case gh_Clash => k_is)
    (case be_Clash => k_is)
    (case ex_Clash => k_exc)
    (case ty_Clash => k_is)
    (case sf_Clash => k_is)
    (case q_GlowError => k_is)
    (case cl_GlowError => k_is)
    (case ca_GlowError => k_is)
    (case ob_GlowError => k_is)
    (case ga_GlowError => k_is)
    (case gh_GlowError => k_is)
    (case be_GlowError => k_is)
    (case ex_GlowError => k_exc)
    (case ty_GlowError => k_is)
    (case sf_GlowError => k_is)
    (case q_NoDeed => k_is)
    (case cl_NoDeed => k_is)
    (case ca_NoDeed => k_is)
    (case ob_NoDeed => k_is)
    (case ga_NoDeed => k_is)
    (case gh_NoDeed => k_is)
    (case be_NoDeed => k_is)
    (case ex_NoDeed => k_exc)
    (case ty_NoDeed => k_is)
    (case sf_NoDeed => k_is)
    (case q_NoFilm => k_is)
    (case cl_NoFilm => k_is)
    (case ca_NoFilm => k_is)
    (case ob_NoFilm => k_is)
    (case ga_NoFilm => k_is)
    (case gh_NoFilm => k_is)
    (case be_NoFilm => k_is)
    (case ex_NoFilm => k_exc)
    (case ty_NoFilm => k_is)
    (case sf_NoFilm => k_is)
    (case q_NoFrame => k_is)
    (case cl_NoFrame => k_is)
    (case ca_NoFrame => k_is)
    (case ob_NoFrame => k_is)
    (case ga_NoFrame => k_is)
    (case gh_NoFrame => k_is)
    (case be_NoFrame => k_is)
    (case ex_NoFrame => k_exc)
    (case ty_NoFrame => k_is)
    (case sf_NoFrame => k_is)
    (case q_NoRow => k_is)
    (case cl_NoRow => k_is)
    (case ca_NoRow => k_is)
    (case ob_NoRow => k_is)
    (case ga_NoRow => k_is)
    (case gh_NoRow => k_is)
    (case be_NoRow => k_is)
    (case ex_NoRow => k_exc)
    (case ty_NoRow => k_is)
    (case sf_NoRow => k_is)
    (case q_NoScore => k_is)
    (case cl_NoScore => k_is)
    (case ca_NoScore => k_is)
    (case ob_NoScore => k_is)
    (case ga_NoScore => k_is)
    (case gh_NoScore => k_is)
    (case be_NoScore => k_is)
    (case ex_NoScore => k_exc)
    (case ty_NoScore => k_is)
    (case sf_NoScore => k_is)
    (case q_NoStand => k_is)
    (case cl_NoStand => k_is)
    (case ca_NoStand => k_is)
    (case ob_NoStand => k_is)
    (case ga_NoStand => k_is)
    (case gh_NoStand => k_is)
    (case be_NoStand => k_is)
    (case ex_NoStand => k_exc)
    (case ty_NoStand => k_is)
    (case sf_NoStand => k_is)
    (case q_NoText => k_is)
    (case cl_NoText => k_is)
    (case ca_NoText => k_is)
    (case ob_NoText => k_is)
    (case ga_NoText => k_is)
    (case gh_NoText => k_is)
    (case be_NoText => k_is)
    (case ex_NoText => k_exc)
    (case ty_NoText => k_is)
    (case sf_NoText => k_is)
    (case q_NoTick => k_is)
    (case cl_NoTick => k_is)
    (case ca_NoTick => k_is)
    (case ob_NoTick => k_is)
    (case ga_NoTick => k_is)
    (case gh_NoTick => k_is)
    (case be_NoTick => k_is)
    (case ex_NoTick => k_exc)
    (case ty_NoTick => k_is)
    (case sf_NoTick => k_is)
    (case q_Over => k_is)
    (case cl_Over => k_is)
    (case ca_Over => k_is)
    (case ob_Over => k_is)
    (case ga_Over => k_is)
    (case gh_Over => k_is)
    (case be_Over => k_is)
    (case ex_Over => k_exc)
    (case ty_Over => k_is)
    (case sf_Over => k_is)
    (case m_NoText_Clash => k_is)
    (case m_NoText_GlowError => k_is)
    (case m_NoText_NoDeed => k_is)
    (case m_NoText_NoFilm => k_is)
    (case m_NoText_NoFrame => k_is)
    (case m_NoText_NoRow => k_is)
    (case m_NoText_NoScore => k_is)
    (case m_NoText_NoStand => k_is)
    (case m_NoText_NoText => k_is)
    (case m_NoText_NoTick => k_is)
    (case m_NoText_Over => k_is)
    (case m_NoText_ValueError => k_is)
    (case v_SIGNS => k_is)
  case t1 => (intro w; k_is)
  case t2 => (intro w; k_is)
  case t3 => (intro w; k_is)
  case t4 => (intro w; k_is)

