import PyProof.Rows.All
import Wide.All
import OpenK.AllK
import Wide.FinOn
import Lean
import PyProof.EqAt
import PyProof.EqKinds
import PyProof.TupleCall
import KE.KIsAll
import PyProof.DictItems
import KE.KPairComp
import KE.KSortTup
import KE.IntBitsLaws
import KE.KRevIter
import PySem.Challenge.RW_manycounts_k82_laid_together
set_option Elab.async false
set_option linter.all false
set_option maxRecDepth 100000
set_option maxHeartbeats 4000000
/-! THE HAND LAYER, for ints, bools, texts, own classes, LISTS and tuples (index, slices, in, append, pop ..), calls, loops. Paste it whole ahead of your own text; what your proof does not reach may be deleted. -/
namespace L2
open PySem PySem.Spec PyProof.Rows

/-- a key: an int or a str -/
abbrev Key := Sum Int Str
def keyIs : Key → Value → Bool
  | .inl k, v => Value.isInt k v
  | .inr x, v => Value.isStrOf x v
def keyH (w : World) : Key → Int
  | .inl k => hashInt k
  | .inr x => hashStr w x
theorem keyIs_shape : ∀ {k : Key} {v : Value}, keyIs k v = true → (∃ i t, k = Sum.inl i ∧ v = Value.int i t) ∨ (∃ x t, k = Sum.inr x ∧ v = Value.str x t)
  | .inl i, v, h => by
    obtain ⟨t, e⟩ := Value.isInt_shape (k := i) (v := v) h
    exact .inl ⟨i, t, rfl, e⟩
  | .inr x, v, h => by
    obtain ⟨t, e⟩ := Value.isStrOf_shape (x := x) (v := v) h
    exact .inr ⟨x, t, rfl, e⟩
theorem key_ll (a b : Int) : decide ((Sum.inl a : Key) = Sum.inl b) = (a == b) := by
  by_cases e : a = b
  · subst e; simp
  · have h : ¬ (Sum.inl a : Key) = Sum.inl b := fun q => e (Sum.inl.inj q)
    rw [decide_eq_false h]
    exact (beq_eq_false_iff_ne.mpr e).symm
theorem key_rr (a b : Str) : decide ((Sum.inr a : Key) = Sum.inr b) = decide (a = b) := by
  by_cases e : a = b
  · subst e; simp
  · have h : ¬ (Sum.inr a : Key) = Sum.inr b := fun q => e (Sum.inr.inj q)
    rw [decide_eq_false h, decide_eq_false e]
theorem key_lr (a : Int) (b : Str) : decide ((Sum.inl a : Key) = Sum.inr b) = false := decide_eq_false (fun q => nomatch q)
theorem key_rl (a : Str) (b : Int) : decide ((Sum.inr a : Key) = Sum.inl b) = false := decide_eq_false (fun q => nomatch q)

def mixKind (prog : Program) (w : World) : PySem.KeyKind prog w Key where
  is := keyIs
  hash := keyH w
  inj := fun v a b ha hb => by
    rcases keyIs_shape ha with ⟨i, t, rfl, rfl⟩ | ⟨x, t, rfl, rfl⟩
    · rcases keyIs_shape hb with ⟨j, u, rfl, e⟩ | ⟨y, u, rfl, e⟩
      · injection e with e1 _; rw [e1]
      · exact nomatch e
    · rcases keyIs_shape hb with ⟨j, u, rfl, e⟩ | ⟨y, u, rfl, e⟩
      · exact nomatch e
      · injection e with e1 _; rw [e1]
  byValue := fun k v h => by
    rcases keyIs_shape h with ⟨i, t, rfl, rfl⟩ | ⟨x, t, rfl, rfl⟩ <;> rfl
  pyHash := fun hv h => by
    rcases keyIs_shape hv with ⟨i, t, rfl, rfl⟩ | ⟨x, t, rfl, rfl⟩
    · exact wpAny_pyHash_int h
    · exact wpAny_pyHash_str h
  eqBool := fun hu hv h => by
    rcases keyIs_shape hu with ⟨i, t, rfl, rfl⟩ | ⟨x, t, rfl, rfl⟩
    · rcases keyIs_shape hv with ⟨j, u, rfl, rfl⟩ | ⟨y, u, rfl, rfl⟩
      · rw [key_ll] at h; exact wpAny_eqBool_int h
      · rw [key_lr] at h; exact SeqAt.EqAt.int_str i t y u _ _ _ _ h
    · rcases keyIs_shape hv with ⟨j, u, rfl, rfl⟩ | ⟨y, u, rfl, rfl⟩
      · rw [key_rl] at h; exact SeqAt.EqAt.str_int x t j u _ _ _ _ h
      · rw [key_rr] at h; exact wpAny_eqBool_str h
  «strs» := fun k x t v h => by
    rcases keyIs_shape h with ⟨i, u, rfl, e⟩ | ⟨y, u, rfl, e⟩
    · exact nomatch e
    · injection e with e1 _
      subst e1
      cases v <;> rfl

end L2

namespace L2
open PySem PySem.Spec PyProof.Rows

/-- a value, without the heap -/
inductive V where
  | non | bl (b : Bool) | int (i : Int) | str (x : Str) | byt (b : Array UInt8) | flt (b : UInt64) | ref (a : Addr) | ty (n : String)
  deriving DecidableEq

def RelV : V → Value → Prop
  | .non, u => u = Value.none
  | .bl b, u => u = Value.bool b
  | .int i, u => ∃ t, u = Value.int i t
  | .str x, u => ∃ t, u = Value.str x t
  | .byt b, u => ∃ t, u = Value.bytes b t
  | .flt b, u => ∃ t, u = Value.float b t
  | .ref a, u => u = Value.ref a
  | .ty n, u => u = Value.type n

abbrev Vals : List V → List Value → Prop := Paired RelV
theorem Vals.length {xs : List V} {us : List Value} (r : Vals xs us) : xs.length = us.length := Paired.length r
theorem Vals.get : ∀ {xs : List V} {us : List Value} {i : Nat} {x : V}, Vals xs us → xs[i]? = some x → ∃ u, us[i]? = some u ∧ RelV x u
  | _, _, _, _, .nil, e => by simp at e
  | _, _, 0, _, .cons r _, e => by simp at e; subst e; exact ⟨_, rfl, r⟩
  | _, _, i + 1, x, .cons _ t, e => by
    obtain ⟨u, h1, h2⟩ := Vals.get (i := i) (x := x) t (by simpa using e)
    exact ⟨u, by simpa using h1, h2⟩
theorem Vals.append : ∀ {xs ys : List V} {us ws : List Value}, Vals xs us → Vals ys ws → Vals (xs ++ ys) (us ++ ws)
  | _, _, _, _, .nil, s => s
  | _, _, _, _, .cons r t, s => .cons r (Vals.append t s)
theorem Vals.take : ∀ {xs : List V} {us : List Value} (n : Nat), Vals xs us → Vals (xs.take n) (us.take n)
  | _, _, 0, _ => .nil
  | _, _, _ + 1, .nil => .nil
  | _, _, n + 1, .cons r t => .cons r (Vals.take n t)
theorem Vals.drop : ∀ {xs : List V} {us : List Value} (n : Nat), Vals xs us → Vals (xs.drop n) (us.drop n)
  | _, _, 0, r => r
  | _, _, _ + 1, .nil => .nil
  | _, _, n + 1, .cons _ t => Vals.drop n t
def RelO : Option V → Option Value → Prop
  | some v, some u => RelV v u
  | none, none => True
  | _, _ => False
def KV {κ : Type} : List (κ × V) → List (κ × Value) → Prop := Paired fun (p : κ × V) (q : κ × Value) => p.1 = q.1 ∧ RelV p.2 q.2

/-- a key of a dict (00_mix): an int or a text -/
def kV : Key → V
  | .inl i => .int i
  | .inr x => .str x

/-- what stands at a tracked address -/
inductive HO where
  /-- a list -/
  | lst (xs : List V)
  /-- a tuple (never changes) -/
  | tup (xs : List V)
  /-- a dict whose keys are ints and texts; one whose keys are tuples of ints and texts (the empty one is both) -/
  | dK (kvs : List (Key × V)) | dT (kvs : List (List Key × V))
  /-- a set of ints: its members, its size -/
  | set (S : Int → Bool) (n : Nat)
  /-- an instance of the class at C, its dict at dx, its attributes -/
  | ins (C dx : Addr) (fs : List (Str × V))
  /-- the dict of the instance at x -/
  | own (x : Addr)
  /-- the dict of an exception -/
  | xd (fs : List (Str × V))
  /-- a bound method, f of x -/
  | met (f x : Addr)
  /-- a range object lo, lo + 1, .. below hi -/
  | rng (lo hi : Int)
  /-- a thing that is known to the object (the script; a dict while a loop walks it): read, never written while it is so -/
  | frz (o : Obj) (u : HO)
  /-- a code object's table -/
  | tbl (ps : Array Value)
  /-- any other thing, by what is true of its one object (a def of one's own: SetO a S n := HO.ext fun h => ..) -/
  | ext (φ : Heap → Prop)

abbrev Hp := Addr → Option HO
def upd (H : Hp) (a : Addr) (o : HO) : Hp := fun b => if b = a then some o else H b
theorem upd_same {H : Hp} {a : Addr} {o : HO} : upd H a o a = some o := by unfold upd; rw [if_pos rfl]
theorem upd_ne {H : Hp} {a b : Addr} {o : HO} (h : b ≠ a) : upd H a o b = H b := by unfold upd; rw [if_neg h]
/-- two objects of different content stand apart -/
theorem ne_of {H : Hp} {a b : Addr} {o u : HO} (h : H a = some o) (h' : H b = some u) (d : o ≠ u) : a ≠ b := by
  intro e; subst e; rw [h] at h'; exact d (Option.some.inj h')
theorem ne_of_none {H : Hp} {a b : Addr} {o : HO} (h : H a = some o) (h' : H b = none) : a ≠ b := by
  intro e; subst e; rw [h] at h'; cases h'

section
variable (P : Program) (w : World)
def ObjOk (H : Hp) (h : Heap) (a : Addr) : HO → Prop
  | .lst xs => xs.length ≤ sizeLine ∧ ∃ (its : List Value) (n : Nat), Vals xs its ∧ h.get? a = some { cls := .type "list", data := .seq its.toArray n }
  | .tup xs => xs.length ≤ sizeLine ∧ ∃ its : List Value, Vals xs its ∧ IsTup h a its.toArray
  | .dK kvs => kvs.length ≤ sizeLine ∧ (a == sysModules) = false ∧ ∃ vs, KV kvs vs ∧ h.DictOf (mixKind P w) a vs
  | .dT kvs => kvs.length ≤ sizeLine ∧ (a == sysModules) = false ∧ ∃ xs : List (List Key × Addr × Value),
      Paired (fun (p : List Key × V) (q : List Key × Addr × Value) => p.1 = q.1 ∧ H q.2.1 = some (.tup (p.1.map kV)) ∧ RelV p.2 q.2.2) kvs xs ∧
      ∃ o es ep, h.get? a = some o ∧ o.ExactDict ∧ o.data = .dict es ep ∧ es.toList = xs.map (entryOfKey (tupleKind (mixKind P w))) ∧ (xs.map (·.1)).Nodup
  | .set S n => h.SetOf (intKind P w) a S n
  | .ins C dx fs => H dx = some (.own a) ∧ fs.length ≤ 1000 ∧ dx ≠ a ∧ h.get? a = some (PySem.W.instObj C dx) ∧
      ∃ mA, h.Ns1 dx mA ∧ (∀ f, RelO (fs.lookup f) (mA f)) ∧ PySem.Within mA (fs.map (·.1))
  | .own _ => ∃ o, h.get? a = some o
  | .xd fs => ∃ mA, h.Ns1 a mA ∧ ∀ f, RelO (fs.lookup f) (mA f)
  | .rng lo hi => ∃ t u v, h.get? a = some { cls := .type "range", data := .fields #[.int lo t, .int hi u, .int 1 v] }
  | .frz o u => h.get? a = some o ∧ ObjOk H h a u
  | .tbl ps => h.get? a = some { cls := .none, data := .fields ps }
  | .met f x => h.get? a = some (PySem.W.methodObj (.ref f) (.ref x))
  | .ext φ => φ h ∧ (∃ o, h.get? a = some o) ∧ ∀ h1 h2 : Heap, φ h1 → (∀ o, h1.get? a = some o → h2.get? a = some o) → φ h2
/-- the abstract heap is held -/
def HOk (H : Hp) (h : Heap) : Prop := ∀ a o, H a = some o → ObjOk P w H h a o
end

section
variable {P : Program} {w : World} {H H' : Hp} {h h' : Heap} {a : Addr} {o : HO}
theorem ObjOk.lt (x : ObjOk P w H h a o) : a < h.objs.size := by
  cases o with
  | lst xs => obtain ⟨_, _, _, _, e⟩ := x; exact Heap.lt_size e
  | tup xs => obtain ⟨_, _, _, p⟩ := x; exact p.lt
  | dK kvs => obtain ⟨_, _, _, _, o, _, _, e, _⟩ := x; exact Heap.lt_size e
  | dT kvs => obtain ⟨_, _, _, _, o, _, _, e, _⟩ := x; exact Heap.lt_size e
  | set S n => obtain ⟨o, _, _, _, e, _⟩ := x; exact Heap.lt_size e
  | ins C dx fs => obtain ⟨_, _, _, e, _⟩ := x; exact Heap.lt_size e
  | own y => obtain ⟨_, e⟩ := x; exact Heap.lt_size e
  | xd fs => obtain ⟨_, ⟨_, _, _, e, _⟩, _⟩ := x; exact Heap.lt_size e
  | rng lo hi => obtain ⟨_, _, _, e⟩ := x; exact Heap.lt_size e
  | frz ob u => obtain ⟨e, _⟩ := x; exact Heap.lt_size e
  | tbl ps => exact Heap.lt_size (show h.get? a = some _ from x)
  | met f y => exact Heap.lt_size (show h.get? a = some _ from x)
  | ext φ => obtain ⟨_, ⟨_, e⟩, _⟩ := x; exact Heap.lt_size e
theorem Paired.mapP {α β : Type} {F G : α → β → Prop} : ∀ {l₁ : List α} {l₂ : List β}, Paired F l₁ l₂ → (∀ a b, F a b → G a b) → Paired G l₁ l₂
  | _, _, .nil, _ => .nil
  | _, _, .cons r t, f => .cons (f _ _ r) (Paired.mapP t f)
/-- what an object's description leans on: its own object, its own dict, the tuples -/
theorem ObjOk.stay (x : ObjOk P w H h a o) (k : ∀ b u, (b = a ∨ H b = some (.own a)) → h.get? b = some u → h'.get? b = some u)
    (ho : ∀ b, H b = some (.own a) → H' b = some (.own a)) (ht : ∀ b xs, H b = some (.tup xs) → H' b = some (.tup xs)) : ObjOk P w H' h' a o := by
  induction o with
  | lst xs => obtain ⟨z, its, n, r, e⟩ := x; exact ⟨z, its, n, r, k _ _ (.inl rfl) e⟩
  | tup xs => obtain ⟨z, its, r, ob, e, c⟩ := x; exact ⟨z, its, r, ob, k _ _ (.inl rfl) e, c⟩
  | dK kvs => obtain ⟨z, y, vs, r, ob, es, ep, e, c⟩ := x; exact ⟨z, y, vs, r, ob, es, ep, k _ _ (.inl rfl) e, c⟩
  | dT kvs =>
    obtain ⟨z, y, xs, r, ob, es, ep, e, c⟩ := x
    exact ⟨z, y, xs, Paired.mapP r fun p q z => ⟨z.1, ht _ _ z.2.1, z.2.2⟩, ob, es, ep, k _ _ (.inl rfl) e, c⟩
  | set S n => obtain ⟨ob, es, ep, t, e, c⟩ := x; exact ⟨ob, es, ep, t, k _ _ (.inl rfl) e, c⟩
  | ins C dx fs =>
    obtain ⟨d, z, ne, e, mA, ⟨od, es, ep, e2, c⟩, r⟩ := x
    exact ⟨ho _ d, z, ne, k _ _ (.inl rfl) e, mA, ⟨od, es, ep, k _ _ (.inr d) e2, c⟩, r⟩
  | own y => obtain ⟨ob, e⟩ := x; exact ⟨ob, k _ _ (.inl rfl) e⟩
  | xd fs => obtain ⟨mA, ⟨od, es, ep, e, c⟩, r⟩ := x; exact ⟨mA, ⟨od, es, ep, k _ _ (.inl rfl) e, c⟩, r⟩
  | rng lo hi => obtain ⟨t, u, v, e⟩ := x; exact ⟨t, u, v, k _ _ (.inl rfl) e⟩
  | frz ob u ih => obtain ⟨e, q⟩ := x; exact ⟨k _ _ (.inl rfl) e, ih q⟩
  | tbl ps =>
    have e : h.get? a = some { cls := .none, data := .fields ps } := x
    show h'.get? a = some { cls := .none, data := .fields ps }
    exact k a _ (.inl rfl) e
  | met f y =>
    have e : h.get? a = some (PySem.W.methodObj (.ref f) (.ref y)) := x
    show h'.get? a = some (PySem.W.methodObj (.ref f) (.ref y))
    exact k a _ (.inl rfl) e
  | ext φ => obtain ⟨p, ⟨o, e⟩, st⟩ := x; exact ⟨st _ _ p fun o q => k _ _ (.inl rfl) q, ⟨o, k _ _ (.inl rfl) e⟩, st⟩
theorem HOk.lt (x : HOk P w H h) (e : H a = some o) : a < h.objs.size := (x a o e).lt
theorem HOk.fresh (x : HOk P w H h) (e : h.objs.size ≤ a) : H a = none := by
  cases q : H a with
  | none => rfl
  | some u => exact absurd (Nat.lt_of_lt_of_le (x.lt q) e) (Nat.lt_irrefl _)
/-- every object of the heap is kept -/
theorem HOk.kept (x : HOk P w H h) (k : ∀ b u, h.get? b = some u → h'.get? b = some u) : HOk P w H h' := fun a o e =>
  (x a o e).stay (fun b u _ q => k b u q) (fun _ q => q) fun _ _ q => q
/-- a new object is laid and tracked -/
theorem HOk.laid (x : HOk P w H h) (k : ∀ b u, h.get? b = some u → h'.get? b = some u) (hp : h.objs.size ≤ a) (new : ObjOk P w (upd H a o) h' a o) : HOk P w (upd H a o) h' := fun b u e => by
  have hn := x.fresh hp
  by_cases hb : b = a
  · subst hb; rw [upd_same] at e; cases e; exact new
  · rw [upd_ne hb] at e
    exact (x b u e).stay (fun c v _ q => k c v q) (fun c q => by rw [upd_ne (ne_of_none q hn)]; exact q) fun c xs q => by rw [upd_ne (ne_of_none q hn)]; exact q
end

/-- what may be read as u: it is u, or a known u -/
def Rd (H : Hp) (a : Addr) (u : HO) : Prop := H a = some u ∨ ∃ o, H a = some (.frz o u)
theorem Rd.ok {P : Program} {w : World} {H : Hp} {h : Heap} {a : Addr} {u : HO} (r : Rd H a u) (x : HOk P w H h) : ObjOk P w H h a u := by
  rcases r with r | ⟨o, r⟩
  · exact x a u r
  · obtain ⟨_, q⟩ := x a _ r
    exact q
/-- what may be written -/
def Mut : Option HO → Prop
  | some (.lst _) => True
  | some (.dK _) => True
  | some (.dT _) => True
  | some (.set _ _) => True
  | some (.ins _ _ _) => True
  | some (.ext _) => True
  | _ => False
section
variable {P : Program} {w : World} {H : Hp} {h h' : Heap} {x e : Addr} {o' : HO}
/-- the object at e is changed: x itself, or the dict of the instance x -/
theorem HOk.write (ok : HOk P w H h) (mu : Mut (H x)) (he : e = x ∨ H e = some (.own x)) (k : ∀ b u, b ≠ e → h.get? b = some u → h'.get? b = some u) (heo : ∃ u, h'.get? e = some u)
    (new : ObjOk P w (upd H x o') h' x o') : HOk P w (upd H x o') h' := fun b u q => by
  have nown : ∀ c y, H c = some (.own y) → c ≠ x := fun c y r z => by subst z; rw [r] at mu; exact mu
  have ntup : ∀ c xs, H c = some (.tup xs) → c ≠ x := fun c xs r z => by subst z; rw [r] at mu; exact mu
  by_cases hb : b = x
  · subst hb; rw [upd_same] at q; cases q; exact new
  · rw [upd_ne hb] at q
    by_cases hbe : b = e
    · have q' : H b = some (.own x) := by
        rcases he with z | z
        · exact absurd (hbe.trans z) hb
        · rw [hbe]; exact z
      rw [q] at q'; cases q'
      obtain ⟨v, hv⟩ := heo
      exact ⟨v, by rw [hbe]; exact hv⟩
    · refine (ok b u q).stay (fun c v hc r => k c v ?_ r) (fun c r => by rw [upd_ne (nown c b r)]; exact r) fun c xs r => by rw [upd_ne (ntup c xs r)]; exact r
      rcases hc with rfl | hc
      · exact hbe
      · rintro rfl
        rcases he with z | z
        · exact nown c b hc z
        · rw [hc] at z; cases z; exact hb rfl
end

/-! ### kept unless tracked; of the frames at fs (the callers') the slots may change (an exception that passes writes there); of the records at ex (iterators) nothing is said -/
structure Un (fs ex : List Addr) (H H' : Hp) (h h' : Heap) : Prop where
  keep : ∀ b o, h.get? b = some o → H b = none → b ∉ fs → b ∉ ex → h'.get? b = some o
  slot : ∀ b o, h.get? b = some o → H b = none → b ∈ fs → b ∉ ex → ∃ sl, h'.get? b = some { o with slots := sl }
  free : ∀ b o, h.get? b = some o → H b = none → b ∉ ex → H' b = none
  there : ∀ b o, h.get? b = some o → b ∉ ex → ∃ o', h'.get? b = some o'
  tups : ∀ b xs, H b = some (.tup xs) → H' b = some (.tup xs)
  frzs : ∀ b o u, H b = some (.frz o u) → H' b = some (.frz o u)
  tbls : ∀ b ps, H b = some (.tbl ps) → ∃ more, H' b = some (.tbl (ps ++ more))
section
variable {fs fs' ex ex' : List Addr} {H H1 H2 : Hp} {h h1 h2 h' : Heap} {a x e : Addr} {o : HO}
theorem Un.any (u : Un fs ex H H1 h h1) {b : Addr} {ob : Obj} (q : h.get? b = some ob) (n : H b = none) (hx : b ∉ ex) : ∃ sl, h1.get? b = some { ob with slots := sl } := by
  by_cases hb : b ∈ fs
  · exact u.slot b ob q n hb hx
  · exact ⟨ob.slots, u.keep b ob q n hb hx⟩
theorem Un.kept (k : ∀ b u, h.get? b = some u → h'.get? b = some u) : Un fs ex H H h h' :=
  ⟨fun b ob q _ _ _ => k b ob q, fun b ob q _ _ _ => ⟨ob.slots, k b ob q⟩, fun _ _ _ n _ => n, fun b ob q _ => ⟨ob, k b ob q⟩, fun _ _ q => q, fun _ _ _ q => q, fun _ ps q => ⟨#[], by rw [q]; simp⟩⟩
theorem Un.refl : Un fs ex H H h h := Un.kept fun _ _ q => q
theorem Un.laid (k : ∀ b u, h.get? b = some u → h'.get? b = some u) (hp : h.objs.size ≤ a) (hn : H a = none) : Un fs ex H (upd H a o) h h' where
  keep := fun b u q _ _ _ => k b u q
  slot := fun b u q _ _ _ => ⟨u.slots, k b u q⟩
  free := fun b u q n _ => by rw [upd_ne (Nat.ne_of_lt (Nat.lt_of_lt_of_le (Heap.lt_size q) hp))]; exact n
  there := fun b u q _ => ⟨u, k b u q⟩
  tups := fun b xs q => by rw [upd_ne (ne_of_none q hn)]; exact q
  frzs := fun b u xs q => by rw [upd_ne (ne_of_none q hn)]; exact q
  tbls := fun b ps q => ⟨#[], by rw [upd_ne (ne_of_none q hn), q]; simp⟩
theorem Un.write (mu : Mut (H x)) (he : e = x ∨ H e = some (.own x)) (k : ∀ b u, b ≠ e → h.get? b = some u → h'.get? b = some u) (heo : ∃ u, h'.get? e = some u) : Un fs ex H (upd H x o) h h' := by
  have hx : ∀ b, H b = none → b ≠ x := fun b n z => by subst z; rw [n] at mu; exact mu
  have hb : ∀ b, H b = none → b ≠ e := fun b n z => by
    subst z
    rcases he with r | r
    · exact hx b n r
    · rw [n] at r; cases r
  have hm : ∀ b u, H b = some u → ¬ Mut (some u) → b ≠ x := fun b u q nm z => by subst z; rw [q] at mu; exact nm mu
  refine ⟨fun b u q n _ _ => k b u (hb b n) q, fun b u q n _ _ => ⟨u.slots, k b u (hb b n) q⟩, fun b u q n _ => by rw [upd_ne (hx b n)]; exact n, fun b u q _ => ?_,
    fun b xs q => by rw [upd_ne (hm b _ q fun z => z)]; exact q, fun b u xs q => by rw [upd_ne (hm b _ q fun z => z)]; exact q, fun b ps q => ⟨#[], by rw [upd_ne (hm b _ q fun z => z), q]; simp⟩⟩
  by_cases hbe : b = e
  · subst hbe; exact heo
  · exact ⟨u, k b u hbe q⟩
end

/-! ### the heap without what is tracked -/
def trk (h : Heap) (H : Hp) : List Addr := (List.range h.objs.size).filter fun a => (H a).isSome
def hidT (h : Heap) (H : Hp) : Heap := PySem.W.hideAll h (trk h H)
theorem hidT_size (h : Heap) (H : Hp) : (hidT h H).objs.size = h.objs.size := PySem.W.hideAll_size _ _
theorem hidT_get {h : Heap} {H : Hp} {b : Addr} {o : Obj} (e : h.get? b = some o) (n : H b = none) : (hidT h H).get? b = some o :=
  PySem.W.hideAll_get _ e fun hm => by
    have q : (H b).isSome = true := (List.mem_filter.mp hm).2
    rw [n] at q; simp at q
theorem of_hidT {h : Heap} {H : Hp} {b : Addr} {o : Obj} (e : (hidT h H).get? b = some o) : h.get? b = some o ∧ H b = none := by
  have e' : h.get? b = some o := PySem.W.of_hideAll (trk h H) e
  refine ⟨e', ?_⟩
  cases q : H b with
  | none => rfl
  | some x =>
    have hm : b ∈ trk h H := List.mem_filter.mpr ⟨List.mem_range.mpr (Heap.lt_size e'), by simp [q]⟩
    have z : (hidT h H).get? b = none := PySem.W.hideAll_none (trk h H) hm
    rw [z] at e; cases e

/-! ### OpenK's ledger, filled with every new object but one -/
def allNews (g h : Heap) (L : Addr) : List (Addr × Obj) := (List.range h.objs.size).filterMap fun a => if a = L ∨ (g.get? a).isSome = true then none else (h.get? a).map fun o => (a, o)
def rest (g h : Heap) (L d : Addr) : List (Addr × Obj) := (allNews g h L).filter fun p => decide (p.1 ≠ d)
end L2

namespace L2
open PySem PySem.Spec PyProof.Rows

/-- the module's facts, over the base: the heap at the law's entry without what is tracked there -/
structure Mod (K : PySem.W.Frag) (mg : Str → Option Value) (base : Heap) : Prop where
  kin : K.In base
  glob : base.Ns mainGlobals mg
  blt : ∃ mb, base.Ns builtinsNs mb ∧ ∀ x : Str, x ≠ "__name__" → mb x = bootBuiltins x
  nolimit : base.NoLimit

/-- the context: a def's body (or a comprehension's block) running. base: fixed through the whole law; s₀, H₀: the entry; outer: the frames whose slots others may change (a def's callers); stack: all frames that run;
   ex: iterators that were made ahead of the entry and are walked here (a comprehension's); fn: the names whose cells were made at the entry (a def: all; a comprehension's block: its own); calm: not within an except suite; pn: pins that every state bears; xe: what is wanted of an exception that leaves the code -/
structure Cx where
  prog : Program
  w : World
  K : PySem.W.Frag
  mg : Str → Option Value
  base : Heap
  A : Around
  N : List Str
  s₀ : Shared
  H₀ : Hp
  env : Env
  outer : List Env
  stack : List Env
  ex : List Addr
  fn : Str → Bool
  calm : Bool
  pn : List (Addr × Obj)
  xe : Value → Shared → Prop
/-- the callers' frames -/
def frs (l : List Env) : List Addr := l.filterMap (·.frame)
abbrev Cx.fs (X : Cx) : List Addr := frs X.outer

def Vis (sc : Scope) (x : Str) : Prop := sc.names.lookup x = some .local ∨ sc.names.lookup x = some .cell ∨ sc.names.lookup x = some .free
def Loc (sc : Scope) (x : Str) : Prop := sc.names.lookup x = some .local ∨ sc.names.lookup x = some .cell
def Look (env : Env) (h : Heap) (m : Str → Option Value) (x : Str) (u : Value) : Prop :=
  (env.kindOf x = some .local ∧ m x = some u) ∨ ((env.kindOf x = some .cell ∨ env.kindOf x = some .free) ∧ ∃ c, env.cells.lookup x = some c ∧ h.IsCell c (some u))

structure Cx.Ok (X : Cx) : Prop where
  mod : Mod X.K X.mg X.base
  kind : X.env.scope.kind = .function
  glob : X.env.globals = mainGlobals
  blt : X.env.builtins = builtinsNs
  above : X.s₀.heap.objs.size ≤ X.env.locals
  inj : ∀ x y c, X.env.cells.lookup x = some c → X.env.cells.lookup y = some c → x = y
  has : ∀ x, (X.env.kindOf x = some .cell ∨ X.env.kindOf x = some .free) → ∃ c, X.env.cells.lookup x = some c
  cab : ∀ x c, X.fn x = true → X.env.cells.lookup x = some c → X.s₀.heap.objs.size ≤ c
  hd : X.calm = true → X.A.handled = none
  frames : X.A.frames = some X.stack
  stk : X.stack = X.outer ∨ (X.stack = X.env :: X.outer ∧ X.env.frame = some X.env.locals)
  exf : ∀ b ∈ X.ex, b ≠ X.env.locals ∧ ∀ x c, X.env.cells.lookup x = some c → c ≠ b
  bs : ∀ b o, X.base.get? b = some o → X.s₀.heap.get? b = some o ∧ X.H₀ b = none
  bsz : X.base.objs.size ≤ X.s₀.heap.objs.size
  noex : ∀ b o, X.base.get? b = some o → b ∉ X.ex
  exfs : ∀ b ∈ X.ex, b ∉ X.fs
  funs : X.s₀.heap.FunFrames X.base X.outer
  frf : ∀ b ∈ X.fs, X.H₀ b = none

structure Inv (X : Cx) (pins : List (Addr × Obj)) (σ : List (Option V)) (H : Hp) (s : Shared) : Prop where
  ok : X.Ok
  os : s.os = X.s₀.os
  bare : AllBare s.gens
  base : Un X.fs X.ex X.H₀ H X.s₀.heap s.heap
  loc : ∃ m, s.heap.Ns X.env.locals m ∧ ∀ (i : Nat) (x : Str) (v : V), X.N[i]? = some x → σ[i]? = some (some v) → Vis X.env.scope x → ∃ u, RelV v u ∧ Look X.env s.heap m x u
  cell : ∀ x c, X.env.cells.lookup x = some c → ∃ v, s.heap.IsCell c v
  free : H X.env.locals = none
  freeC : ∀ x c, X.env.cells.lookup x = some c → H c = none
  pin : ∀ p ∈ X.pn ++ pins, s.heap.get? p.1 = some p.2 ∧ H p.1 = none ∧ p.1 ≠ X.env.locals ∧ p.1 ∉ X.fs ∧ ∀ v, p.2.data ≠ .cell v
  hok : HOk X.prog X.w H s.heap
  len : σ.length = X.N.length

section
variable {X : Cx} {pins : List (Addr × Obj)} {σ : List (Option V)} {H H' : Hp} {s : Shared} {h' : Heap}

theorem Cx.Ok.nofr (ok : X.Ok) {b : Addr} {o : Obj} (e : X.base.get? b = some o) : b ∉ X.fs := fun hb => by
  have := (ok.funs.mem hb).1
  rw [e] at this; cases this
theorem Inv.bs (I : Inv X pins σ H s) : ∀ b o, X.base.get? b = some o → s.heap.get? b = some o ∧ H b = none := fun b o e =>
  ⟨I.base.keep b o (I.ok.bs b o e).1 (I.ok.bs b o e).2 (I.ok.nofr e) (I.ok.noex b o e), I.base.free b o (I.ok.bs b o e).1 (I.ok.bs b o e).2 (I.ok.noex b o e)⟩
theorem Inv.bk (I : Inv X pins σ H s) : ∀ b o, X.base.get? b = some o → s.heap.get? b = some o := fun b o e => (I.bs b o e).1
theorem Inv.mod (I : Inv X pins σ H s) : Mod X.K X.mg X.base := I.ok.mod
theorem Inv.kIn (I : Inv X pins σ H s) : X.K.In s.heap := I.ok.mod.kin.keeps I.bk
theorem Inv.lt (I : Inv X pins σ H s) : X.env.locals < s.heap.objs.size := let ⟨_, hn, _⟩ := I.loc; hn.lt
theorem Inv.sz (I : Inv X pins σ H s) : X.s₀.heap.objs.size ≤ s.heap.objs.size := Nat.le_trans I.ok.above (Nat.le_of_lt I.lt)
theorem Inv.nofs (I : Inv X pins σ H s) {a : Addr} (h : s.heap.objs.size ≤ a) : a ∉ X.fs := fun hb => by
  obtain ⟨_, o, ho, _⟩ := I.ok.funs.mem hb
  exact absurd (Nat.lt_of_lt_of_le (Heap.lt_size ho) (Nat.le_trans I.sz h)) (Nat.lt_irrefl _)
theorem Inv.cne (I : Inv X pins σ H s) : ∀ x c, X.env.cells.lookup x = some c → c ≠ X.env.locals := fun x c e z => by
  obtain ⟨v, o, ho, hd⟩ := I.cell x c e
  obtain ⟨m, ⟨o', es, ep, ho', hd', _⟩, _⟩ := I.loc
  rw [z, ho'] at ho; cases ho; rw [hd'] at hd; cases hd
theorem Inv.funs (I : Inv X pins σ H s) : s.heap.FunFrames X.base X.outer := by
  have all : ∀ (l : List Env), (∀ b ∈ frs l, b ∈ X.fs) → X.s₀.heap.FunFrames X.base l → s.heap.FunFrames X.base l := by
    intro l
    induction l with
    | nil => intro _ _; trivial
    | cons env r ih =>
      intro hs hl
      obtain ⟨hk, ⟨L, o, hf, hn, ho, hd⟩, hr⟩ := hl
      have hL : L ∈ X.fs := hs L (by unfold frs; rw [List.filterMap_cons, hf]; exact List.mem_cons_self)
      obtain ⟨sl, e⟩ := I.base.slot L o ho (I.ok.frf L hL) hL fun z => I.ok.exfs L z hL
      exact ⟨hk, ⟨L, _, hf, hn, e, hd⟩, ih (fun b hb => hs b (by unfold frs; rw [List.filterMap_cons, hf]; exact List.mem_cons_of_mem _ hb)) hr⟩
  exact all X.outer (fun _ hb => hb) I.ok.funs

/-- the frames that run, for a call -/
theorem Inv.stack (I : Inv X pins σ H s) : s.heap.FunFrames X.base X.stack := by
  rcases I.ok.stk with e | ⟨e, hf⟩
  · rw [e]; exact I.funs
  · rw [e]
    obtain ⟨m, hn, _⟩ := I.loc
    refine .cons (by rw [I.ok.kind]; decide) hf hn ?_ I.funs
    exact Heap.get?_none_of_le (Nat.le_trans I.ok.bsz I.ok.above)
theorem Inv.stkSub (I : Inv X pins σ H s) : ∀ b ∈ frs X.stack, b ∈ X.env.locals :: X.fs := fun b hb => by
  rcases I.ok.stk with e | ⟨e, hf⟩
  · rw [e] at hb; exact List.mem_cons_of_mem _ hb
  · rw [e] at hb
    unfold frs at hb
    rw [List.filterMap_cons, hf] at hb
    exact hb
theorem Inv.stkFree (I : Inv X pins σ H s) : ∀ b ∈ frs X.stack, H b = none := fun b hb => by
  rcases List.mem_cons.mp (I.stkSub b hb) with e | hb
  · rw [e]; exact I.free
  · obtain ⟨_, o, ho, _⟩ := I.ok.funs.mem hb
    exact I.base.free b o ho (I.ok.frf b hb) fun z => I.ok.exfs b z hb

/-- THE STEP: the untracked objects but the frame and the records at ch are kept (the callers' frames up to slots), the frame's map is kept, the new abstract heap is held -/
theorem Inv.step {g' : Array GenState} {t' : Nat} {d' : Drawn} {ch : List Addr} (I : Inv X pins σ H s)
    (hch : ∀ b ∈ ch, (b ∈ X.ex ∨ X.s₀.heap.objs.size ≤ b) ∧ b ≠ X.env.locals ∧ (∀ x c, X.env.cells.lookup x = some c → c ≠ b) ∧ ∀ p ∈ X.pn ++ pins, p.1 ≠ b)
    (keep : ∀ b o, b ≠ X.env.locals → b ∉ X.fs → b ∉ ch → s.heap.get? b = some o → H b = none → h'.get? b = some o)
    (slot : ∀ b o, b ≠ X.env.locals → b ∈ X.fs → b ∉ ch → s.heap.get? b = some o → H b = none → ∃ sl, h'.get? b = some { o with slots := sl }) (free : ∀ b o, b ∉ ch → s.heap.get? b = some o → H b = none → H' b = none)
    (there : ∀ b o, b ∉ ch → s.heap.get? b = some o → ∃ o', h'.get? b = some o')
    (tups : ∀ b xs, H b = some (.tup xs) → H' b = some (.tup xs)) (frzs : ∀ b o u, H b = some (.frz o u) → H' b = some (.frz o u)) (tbls : ∀ b ps, H b = some (.tbl ps) → ∃ more, H' b = some (.tbl (ps ++ more)))
    (ns : ∀ m, s.heap.Ns X.env.locals m → h'.Ns X.env.locals m) (hok : HOk X.prog X.w H' h') (hg : AllBare g') :
    Inv X pins σ H' { s with heap := h', gens := g', drawn := d', toks := t' } := by
  have neL : ∀ b o, X.s₀.heap.get? b = some o → b ≠ X.env.locals := fun b o e => Nat.ne_of_lt (Nat.lt_of_lt_of_le (Heap.lt_size e) I.ok.above)
  have neC : ∀ b o, X.s₀.heap.get? b = some o → b ∉ X.ex → b ∉ ch := fun b o e hx hb => by
    rcases (hch b hb).1 with z | z
    · exact hx z
    · exact absurd (Nat.lt_of_lt_of_le (Heap.lt_size e) z) (Nat.lt_irrefl _)
  have cellK : ∀ x c, X.env.cells.lookup x = some c → ∀ v, s.heap.IsCell c v → h'.IsCell c v := fun x c e v ⟨o, ho, hd⟩ => by
    have nch : c ∉ ch := fun z => (hch c z).2.2.1 x c e rfl
    by_cases hc : c ∈ X.fs
    · obtain ⟨sl, q⟩ := slot c o (I.cne x c e) hc nch ho (I.freeC x c e)
      exact ⟨_, q, hd⟩
    · exact ⟨o, keep c o (I.cne x c e) hc nch ho (I.freeC x c e), hd⟩
  refine ⟨I.ok, I.os, hg, ⟨fun b o e n hb hx => ?_, fun b o e n hb hx => ?_, fun b o e n hx => ?_, fun b o e hx => ?_, fun b xs e => tups b xs (I.base.tups b xs e), fun b o xs e => frzs b o xs (I.base.frzs b o xs e), fun b ps e => ?_⟩, ?_, fun x c e => ?_, ?_, fun x c e => ?_, fun p hp => ?_, hok, I.len⟩
  · exact keep b o (neL b o e) hb (neC b o e hx) (I.base.keep b o e n hb hx) (I.base.free b o e n hx)
  · obtain ⟨sl, e1⟩ := I.base.slot b o e n hb hx
    obtain ⟨sl', e2⟩ := slot b _ (neL b o e) hb (neC b o e hx) e1 (I.base.free b o e n hx)
    exact ⟨sl', e2⟩
  · obtain ⟨o', e1⟩ := I.base.there b o e hx
    exact free b o' (neC b o e hx) e1 (I.base.free b o e n hx)
  · obtain ⟨o', e1⟩ := I.base.there b o e hx
    exact there b o' (neC b o e hx) e1
  · obtain ⟨m1, e1⟩ := I.base.tbls b ps e
    obtain ⟨m2, e2⟩ := tbls b _ e1
    exact ⟨m1 ++ m2, by rw [e2, Array.append_assoc]⟩
  · obtain ⟨m, hn, hl⟩ := I.loc
    refine ⟨m, ns m hn, fun i x v e1 e2 e3 => ?_⟩
    obtain ⟨u, r, l⟩ := hl i x v e1 e2 e3
    refine ⟨u, r, ?_⟩
    rcases l with l | ⟨k, c, e, z⟩
    · exact .inl l
    · exact .inr ⟨k, c, e, cellK x c e _ z⟩
  · obtain ⟨v, z⟩ := I.cell x c e
    exact ⟨v, cellK x c e v z⟩
  · obtain ⟨m, ⟨o, _, _, ho, _⟩, _⟩ := I.loc
    exact free _ o (fun z => (hch _ z).2.1 rfl) ho I.free
  · obtain ⟨v, o, ho, hd⟩ := I.cell x c e
    exact free c o (fun z => (hch c z).2.2.1 x c e rfl) ho (I.freeC x c e)
  · obtain ⟨e, n, ne, nf, d⟩ := I.pin p hp
    have nch : p.1 ∉ ch := fun z => (hch p.1 z).2.2.2 p hp rfl
    exact ⟨keep p.1 p.2 ne nf nch e n, free p.1 p.2 nch e n, ne, nf, d⟩
/-- .. where the frame's own object is kept too -/
theorem Inv.un {t' : Nat} (I : Inv X pins σ H s) (u : Un X.fs [] H H' s.heap h') (hok : HOk X.prog X.w H' h') : Inv X pins σ H' { s with heap := h', toks := t' } := by
  obtain ⟨m, ⟨o, es, ep, ho, r⟩, _⟩ := id I.loc
  obtain ⟨sl, hL⟩ := u.any ho I.free (by simp)
  exact I.step (g' := s.gens) (d' := s.drawn) (ch := []) (fun _ z => nomatch z) (fun b o _ hb _ e n => u.keep b o e n hb (by simp)) (fun b o _ hb _ e n => u.slot b o e n hb (by simp)) (fun b o _ e n => u.free b o e n (by simp)) (fun b o _ e => u.there b o e (by simp)) u.tups u.frzs u.tbls (fun m' hm => by
    obtain ⟨o', es', ep', ho', r'⟩ := hm
    rw [ho] at ho'; cases ho'
    exact ⟨_, es', ep', hL, r'⟩) hok I.bare
/-- behind a call (or a comprehension's block): the slots of this frame may have changed too, the records at ch may have turned -/
theorem Inv.call {g' : Array GenState} {t' : Nat} {d' : Drawn} {ch : List Addr} (I : Inv X pins σ H s) (u : Un (frs X.stack) ch H H' s.heap h') (hok : HOk X.prog X.w H' h') (hg : AllBare g')
    (hch : ∀ b ∈ ch, (b ∈ X.ex ∨ X.s₀.heap.objs.size ≤ b) ∧ b ≠ X.env.locals ∧ (∀ x c, X.env.cells.lookup x = some c → c ≠ b) ∧ ∀ p ∈ X.pn ++ pins, p.1 ≠ b) :
    Inv X pins σ H' { s with heap := h', gens := g', drawn := d', toks := t' } := by
  obtain ⟨m, ⟨o, es, ep, ho, r⟩, _⟩ := id I.loc
  obtain ⟨sl, hL⟩ := u.any ho I.free fun z => (hch _ z).2.1 rfl
  exact I.step (ch := ch) hch (fun b o hL hb hc e n => u.keep b o e n (fun z => (List.mem_cons.mp (I.stkSub b z)).elim hL hb) hc) (fun b o _ _ hc e n => u.any e n hc) (fun b o hc e n => u.free b o e n hc) (fun b o hc e => u.there b o e hc) u.tups u.frzs u.tbls (fun m' hm => by
    obtain ⟨o', es', ep', ho', r'⟩ := hm
    rw [ho] at ho'; cases ho'
    exact ⟨_, es', ep', hL, r'⟩) hok hg
/-- an untracked record of ours (an iterator) has turned -/
theorem Inv.turned {t' : Nat} {it : Addr} (I : Inv X pins σ H s) (k : ∀ b o, b ≠ it → s.heap.get? b = some o → h'.get? b = some o) (hn : H it = none) (hL : it ≠ X.env.locals)
    (h1 : it ∈ X.ex ∨ X.s₀.heap.objs.size ≤ it) (h2 : ∀ x c, X.env.cells.lookup x = some c → c ≠ it) (h3 : ∀ p ∈ X.pn ++ pins, p.1 ≠ it) : Inv X pins σ H { s with heap := h', toks := t' } := by
  have nit : ∀ b u, H b = some u → b ≠ it := fun b u e z => by rw [z, hn] at e; cases e
  refine I.step (g' := s.gens) (d' := s.drawn) (ch := [it]) (fun b hb => ?_) (fun b o _ _ hc e _ => k b o (fun z => hc (by simp [z])) e) (fun b o _ _ hc e _ => ⟨o.slots, k b o (fun z => hc (by simp [z])) e⟩) (fun _ _ _ _ n => n)
    (fun b o hc e => ⟨o, k b o (fun z => hc (by simp [z])) e⟩) (fun _ _ e => e) (fun _ _ _ e => e) (fun b ps e => ⟨#[], by rw [e]; simp⟩) (fun m hm => ?_) (fun b u e => ?_) I.bare
  · have e : b = it := by simpa using hb
    subst e
    exact ⟨h1, hL, h2, h3⟩
  · obtain ⟨o, es, ep, ho, r⟩ := hm
    exact ⟨o, es, ep, k _ o (Ne.symm hL) ho, r⟩
  · refine (I.hok b u e).stay (fun c v hc q => k c v ?_ q) (fun _ q => q) fun _ _ q => q
    rcases hc with z | z
    · rw [z]; exact nit b u e
    · exact nit c _ z
theorem Inv.tok (I : Inv X pins σ H s) (t : Nat) : Inv X pins σ H { s with toks := t } := I.un (h' := s.heap) (t' := t) Un.refl I.hok
/-- all objects kept -/
theorem Inv.kept {t' : Nat} (I : Inv X pins σ H s) (k : ∀ b u, s.heap.get? b = some u → h'.get? b = some u) : Inv X pins σ H { s with heap := h', toks := t' } := I.un (Un.kept k) (I.hok.kept k)
/-- a new object laid and tracked -/
theorem Inv.laid {a : Addr} {o : HO} {t' : Nat} (I : Inv X pins σ H s) (k : ∀ b u, s.heap.get? b = some u → h'.get? b = some u) (hp : s.heap.objs.size ≤ a) (new : ObjOk X.prog X.w (upd H a o) h' a o) :
    Inv X pins σ (upd H a o) { s with heap := h', toks := t' } := I.un (Un.laid k hp (I.hok.fresh hp)) (I.hok.laid k hp new)
/-- an object written -/
theorem Inv.write {x e : Addr} {o : HO} {t' : Nat} (I : Inv X pins σ H s) (mu : Mut (H x)) (he : e = x ∨ H e = some (.own x)) (k : ∀ b u, b ≠ e → s.heap.get? b = some u → h'.get? b = some u) (heo : ∃ u, h'.get? e = some u)
    (new : ObjOk X.prog X.w (upd H x o) h' x o) : Inv X pins σ (upd H x o) { s with heap := h', toks := t' } := I.un (Un.write mu he k heo) (I.hok.write mu he k heo new)
theorem Inv.pins_of {pins' : List (Addr × Obj)} (I : Inv X pins σ H s) (h : ∀ p ∈ pins', s.heap.get? p.1 = some p.2 ∧ H p.1 = none ∧ p.1 ≠ X.env.locals ∧ p.1 ∉ X.fs ∧ ∀ v, p.2.data ≠ .cell v) : Inv X pins' σ H s :=
  ⟨I.ok, I.os, I.bare, I.base, I.loc, I.cell, I.free, I.freeC, fun p hp => (List.mem_append.mp hp).elim (fun z => I.pin p (List.mem_append_left _ z)) (h p), I.hok, I.len⟩

theorem nodup_ix {N : List Str} (hN : N.Nodup) {i j : Nat} {x : Str} (a : N[i]? = some x) (b : N[j]? = some x) : i = j := by
  obtain ⟨h1, e1⟩ := List.getElem?_eq_some_iff.mp a
  obtain ⟨h2, e2⟩ := List.getElem?_eq_some_iff.mp b
  exact (List.getElem_inj hN).mp (e1.trans e2.symm)

/-- a name is stored; what changed -/
theorem store_ok2 {M : Model} {A : Around} {E : Value → Shared → Prop} {i : Nat} {x : Str} {v : V} {u : Value} {Q : Unit → Shared → Prop} (I : Inv X pins σ H s) (hN : X.N.Nodup) (hi : X.N[i]? = some x) (hx : Loc X.env.scope x) (r : RelV v u)
    (h : ∀ s', Inv X pins (σ.set i (some v)) H s' → (∃ a, Heap.SameBut a s.heap s'.heap ∧ (a = X.env.locals ∨ X.env.cells.lookup x = some a)) → Q () s') (hf : X.fn x = true ∨ X.env.scope.names.lookup x = some .local := by first | exact .inl rfl | exact .inr rfl | assumption) : wpAny M A (storeName X.env x u) Q E s := by
  obtain ⟨m, hn, hl⟩ := id I.loc
  have hcls : (X.env.scope.kind == .class || (X.env.scope.kind == .module && X.env.locals != X.env.globals)) = false := by rw [I.ok.kind]; rfl
  have hiσ : i < σ.length := by rw [I.len]; exact (List.getElem?_eq_some_iff.mp hi).1
  have cne := I.cne
  have tracked : ∀ {a : Addr} {h' : Heap}, (∃ o, s.heap.get? a = some o ∧ H a = none) → Heap.SameBut a s.heap h' → HOk X.prog X.w H h' := fun {a h'} ha hs b ob e => by
    obtain ⟨_, _, hfree⟩ := ha
    refine (I.hok b ob e).stay (fun c w' hc q => (hs.2 c ?_).trans q) (fun _ q => q) fun _ _ q => q
    rintro rfl
    rcases hc with rfl | hc
    · rw [hfree] at e; cases e
    · rw [hfree] at hc; cases hc
  rcases hx with hk | hk
  · refine wpAny_storeName_local hk hn (fun h' hn' hs => ?_) hcls
    obtain ⟨oL, _, _, hoL, _⟩ := id hn
    refine h _ ⟨I.ok, I.os, I.bare, ⟨fun b o e n hb hx => ?_, fun b o e n hb hx => ?_, I.base.free, fun b o e hx => ?_, I.base.tups, I.base.frzs, I.base.tbls⟩, ⟨_, hn', fun j y v' e1 e2 e3 => ?_⟩, fun y c e => ?_, I.free, I.freeC, fun p hp => ?_, tracked ⟨oL, hoL, I.free⟩ hs, by simpa using I.len⟩ ⟨_, hs, .inl rfl⟩
    · exact (hs.2 b (Nat.ne_of_lt (Nat.lt_of_lt_of_le (Heap.lt_size e) I.ok.above))).trans (I.base.keep b o e n hb hx)
    · obtain ⟨sl, e1⟩ := I.base.slot b o e n hb hx
      exact ⟨sl, (hs.2 b (Nat.ne_of_lt (Nat.lt_of_lt_of_le (Heap.lt_size e) I.ok.above))).trans e1⟩
    · obtain ⟨o', e1⟩ := I.base.there b o e hx
      exact ⟨o', (hs.2 b (Nat.ne_of_lt (Nat.lt_of_lt_of_le (Heap.lt_size e) I.ok.above))).trans e1⟩
    · by_cases hj : j = i
      · subst hj
        rw [hi] at e1; cases e1
        rw [List.getElem?_set_self hiσ] at e2
        cases e2
        exact ⟨u, r, .inl ⟨hk, by simp⟩⟩
      · rw [List.getElem?_set_ne (Ne.symm hj)] at e2
        obtain ⟨u', r', q⟩ := hl j y v' e1 e2 e3
        refine ⟨u', r', ?_⟩
        rcases q with ⟨k, e⟩ | ⟨k, c, e, z⟩
        · refine .inl ⟨k, ?_⟩
          have : y ≠ x := fun e => hj (nodup_ix hN e1 (e ▸ hi))
          simp [this, e]
        · exact .inr ⟨k, c, e, z.sameBut hs (cne y c e)⟩
    · obtain ⟨w', z⟩ := I.cell y c e
      exact ⟨w', z.sameBut hs (cne y c e)⟩
    · obtain ⟨e, n, ne, nf, d⟩ := I.pin p hp
      exact ⟨(hs.2 p.1 ne).trans e, n, ne, nf, d⟩
  · have hfn : X.fn x = true := by
      rcases hf with z | z
      · exact z
      · rw [z] at hk; cases hk
    obtain ⟨c, hc⟩ := I.ok.has x (.inl hk)
    obtain ⟨w', z⟩ := I.cell x c hc
    refine wpAny_storeName_cell I.ok.kind hk hc z (fun h' hc' hs => ?_)
    obtain ⟨oc, hoc, hocd⟩ := id z
    refine h { s with heap := h' } ⟨I.ok, I.os, I.bare, ⟨fun b o e n hb hx => ?_, fun b o e n hb hx => ?_, I.base.free, fun b o e hx => ?_, I.base.tups, I.base.frzs, I.base.tbls⟩, ⟨m, hn.sameBut hs (Ne.symm (cne x c hc)), fun j y v' e1 e2 e3 => ?_⟩, fun y c' e => ?_, I.free, I.freeC, fun p hp => ?_, tracked ⟨oc, hoc, I.freeC x c hc⟩ hs, by simpa using I.len⟩ ⟨c, hs, .inr hc⟩
    · exact (hs.2 b (Nat.ne_of_lt (Nat.lt_of_lt_of_le (Heap.lt_size e) (I.ok.cab x c hfn hc)))).trans (I.base.keep b o e n hb hx)
    · obtain ⟨sl, e1⟩ := I.base.slot b o e n hb hx
      exact ⟨sl, (hs.2 b (Nat.ne_of_lt (Nat.lt_of_lt_of_le (Heap.lt_size e) (I.ok.cab x c hfn hc)))).trans e1⟩
    · obtain ⟨o', e1⟩ := I.base.there b o e hx
      exact ⟨o', (hs.2 b (Nat.ne_of_lt (Nat.lt_of_lt_of_le (Heap.lt_size e) (I.ok.cab x c hfn hc)))).trans e1⟩
    · by_cases hj : j = i
      · subst hj
        rw [hi] at e1; cases e1
        rw [List.getElem?_set_self hiσ] at e2
        cases e2
        exact ⟨u, r, .inr ⟨.inl hk, c, hc, hc'⟩⟩
      · rw [List.getElem?_set_ne (Ne.symm hj)] at e2
        obtain ⟨u', r', q⟩ := hl j y v' e1 e2 e3
        refine ⟨u', r', ?_⟩
        rcases q with q | ⟨k, c', e, z'⟩
        · exact .inl q
        · refine .inr ⟨k, c', e, z'.sameBut hs ?_⟩
          rintro rfl
          exact hj (nodup_ix hN e1 (I.ok.inj _ _ _ e hc ▸ hi))
    · by_cases hcc : c' = c
      · subst hcc; exact ⟨_, hc'⟩
      · obtain ⟨w2, z2⟩ := I.cell y c' e
        exact ⟨w2, z2.sameBut hs hcc⟩
    · obtain ⟨e, n, ne, nf, d⟩ := I.pin p hp
      refine ⟨(hs.2 p.1 ?_).trans e, n, ne, nf, d⟩
      intro q
      rw [q, hoc] at e
      have q' : oc = p.2 := Option.some.inj e
      exact d w' (by rw [← q']; exact hocd)
theorem store_ok {M : Model} {A : Around} {E : Value → Shared → Prop} {i : Nat} {x : Str} {v : V} {u : Value} {Q : Unit → Shared → Prop} (I : Inv X pins σ H s) (hN : X.N.Nodup) (hi : X.N[i]? = some x) (hx : Loc X.env.scope x) (r : RelV v u)
    (h : ∀ s', Inv X pins (σ.set i (some v)) H s' → Q () s') (hf : X.fn x = true ∨ X.env.scope.names.lookup x = some .local := by first | exact .inl rfl | exact .inr rfl | assumption) : wpAny M A (storeName X.env x u) Q E s :=
  store_ok2 I hN hi hx r (fun s' I' _ => h s' I') hf
/-- behind a call or a block, the state as it is -/
theorem Inv.call' {s' : Shared} {ch : List Addr} (I : Inv X pins σ H s) (ho : s'.os = s.os) (u : Un (frs X.stack) ch H H' s.heap s'.heap) (hok : HOk X.prog X.w H' s'.heap) (hg : AllBare s'.gens)
    (hch : ∀ b ∈ ch, (b ∈ X.ex ∨ X.s₀.heap.objs.size ≤ b) ∧ b ≠ X.env.locals ∧ (∀ x c, X.env.cells.lookup x = some c → c ≠ b) ∧ ∀ p ∈ X.pn ++ pins, p.1 ≠ b) : Inv X pins σ H' s' := by
  obtain ⟨h', g', d', t', o'⟩ := s'
  have e : o' = s.os := ho
  subst e
  exact I.call (g' := g') (t' := t') (d' := d') u hok hg hch
end

/-! ### the judgements -/
/-- an exception: its class, its own dict's address (where it has one), the abstract heap behind it -/
abbrev XK := Value → Option Addr → Hp → Prop
abbrev St := List (Option V)
abbrev VK := V → Hp → Prop
/-- an expression's reading; a test's; an argument list's -/
abbrev TE := St → Hp → VK → Prop
abbrev TT := St → Hp → (Bool → Hp → Prop) → Prop
abbrev TA := St → Hp → (List V → Hp → Prop) → Prop
/-- what is wanted behind a statement -/
structure Ends where
  nx : St → Hp → Prop
  rt : VK
  bk : St → Hp → Prop := fun _ _ => False
  ct : St → Hp → Prop := fun _ _ => False
abbrev TS := Ends → St → Hp → Prop

def EP (X : Cx) (pins : List (Addr × Obj)) (σ : St) (Q : VK) (u : Value) (s' : Shared) : Prop := ∃ v H', Inv X pins σ H' s' ∧ RelV v u ∧ Q v H'
def TP (X : Cx) (pins : List (Addr × Obj)) (σ : St) (Q : Bool → Hp → Prop) (b : Bool) (s' : Shared) : Prop := ∃ H', Inv X pins σ H' s' ∧ Q b H'
def AP (X : Cx) (pins : List (Addr × Obj)) (σ : St) (Q : List V → Hp → Prop) (us : List Value) (s' : Shared) : Prop := ∃ vs H', Inv X pins σ H' s' ∧ Vals vs us ∧ Q vs H'
def SP (X : Cx) (pins : List (Addr × Obj)) (D : Ends) (f : Flow) (s' : Shared) : Prop :=
  match f with
  | .next => ∃ σ' H', Inv X pins σ' H' s' ∧ D.nx σ' H'
  | .brk => ∃ σ' H', Inv X pins σ' H' s' ∧ D.bk σ' H'
  | .cont => ∃ σ' H', Inv X pins σ' H' s' ∧ D.ct σ' H'
  | .ret u => ∃ v σ' H', Inv X pins σ' H' s' ∧ RelV v u ∧ D.rt v H'

def PE (X : Cx) (e : Expr) (t : TE) : Prop :=
  ∀ (pins : List (Addr × Obj)) (s : Shared) (σ : St) (H : Hp) (Q : VK), Inv X pins σ H s → t σ H Q → wpAny (model X.prog X.w) X.A (eval e X.env) (EP X pins σ Q) X.xe s
def PT (X : Cx) (e : Expr) (t : TT) : Prop :=
  ∀ (pins : List (Addr × Obj)) (s : Shared) (σ : St) (H : Hp) (Q : Bool → Hp → Prop), Inv X pins σ H s → t σ H Q → wpAny (model X.prog X.w) X.A (isTrue e X.env (eval e X.env)) (TP X pins σ Q) X.xe s
/-- a test whatever its 'whole' is (and, or) -/
def PW (X : Cx) (e : Expr) (t : TT) : Prop :=
  ∀ (whole : Sem Value) (pins : List (Addr × Obj)) (s : Shared) (σ : St) (H : Hp) (Q : Bool → Hp → Prop), Inv X pins σ H s → t σ H Q → wpAny (model X.prog X.w) X.A (isTrue e X.env whole) (TP X pins σ Q) X.xe s
theorem PW.pt {X : Cx} {e : Expr} {t : TT} (h : PW X e t) : PT X e t := h _
/-- an argument list (no star), from the left -/
def PA (X : Cx) (es : List Expr) (t : TA) : Prop :=
  ∀ (pos : Pos) (pins : List (Addr × Obj)) (s : Shared) (σ : St) (H : Hp) (Q : List V → Hp → Prop), Inv X pins σ H s → t σ H Q → wpAny (model X.prog X.w) X.A (spliced (backTo pos (starEach es X.env))) (AP X pins σ Q) X.xe s
def PS (X : Cx) (st : Stmt) (t : TS) : Prop :=
  ∀ (pins : List (Addr × Obj)) (s : Shared) (σ : St) (H : Hp) (D : Ends), Inv X pins σ H s → t D σ H → wpAny (model X.prog X.w) X.A (exec st X.env) (SP X pins D) X.xe s
def PSs (X : Cx) (st : List Stmt) (t : TS) : Prop :=
  ∀ (pins : List (Addr × Obj)) (s : Shared) (σ : St) (H : Hp) (D : Ends), Inv X pins σ H s → t D σ H → wpAny (model X.prog X.w) X.A (execs st X.env) (SP X pins D) X.xe s
/-- weaken the end -/
theorem thn {α : Type} {t : Sem α} {Q Q' : α → Shared → Prop} {M : Model} {A : Around} {E : Value → Shared → Prop} {s : Shared} (h : wpAny M A t Q E s) (hQ : ∀ a s, Q a s → Q' a s) : wpAny M A t Q' E s := wpAny_mono h hQ fun _ _ x => x
end L2

namespace L2
open PySem PySem.Spec PyProof.Rows
section
variable {X : Cx}

/-! ### names and constants -/
def tVar (i : Nat) : TE := fun σ H Q => ∃ v, σ[i]? = some (some v) ∧ Q v H
def tC (v : V) : TE := fun _ H Q => Q v H
theorem pe_var {i : Nat} {x : Str} {pos : Pos} (hN : X.N[i]? = some x) (hv : Vis X.env.scope x) (hd : (x == ("__debug__" : Str)) = false := by decide) (hcd : (x == ("__classdict__" : Str)) = false := by decide) : PE X (.Name x pos) (tVar i) := by
  intro pins s σ H Q I h
  obtain ⟨v, e, h⟩ := h
  obtain ⟨m, hn, hl⟩ := I.loc
  obtain ⟨u, r, l⟩ := hl i x v hN e hv
  have fin : EP X pins σ Q u s := ⟨v, H, I, r, h⟩
  rcases l with ⟨hk, hm⟩ | ⟨hk, c, hc, hcell⟩
  · exact wpAny_Name (wpAny_loadName_local I.ok.kind hk hn hm fin) hd
  · rcases hk with hk | hk
    · exact wpAny_Name (wpAny_loadName_cell I.ok.kind hk hc hcell fin) hd
    · exact wpAny_Name (wpAny_loadName_free I.ok.kind hk hc hcell fin hcd) hd
theorem pe_int {i j pos} : PE X (.Constant (.int i) j pos) (tC (.int i)) := fun _ _ _ H _ I h => wpAny_Constant_int ⟨.int i, H, I.tok _, ⟨_, rfl⟩, h⟩
theorem pe_bl {b j pos} : PE X (.Constant (.bool b) j pos) (tC (.bl b)) := fun _ _ _ H _ I h => Constant_bool ⟨.bl b, H, I, rfl, h⟩
theorem pe_str {x j pos} : PE X (.Constant (.str x) j pos) (tC (.str x)) := fun _ _ _ H _ I h => Calls.Constant_str ⟨.str x, H, I.tok _, ⟨_, rfl⟩, h⟩

/-- a global name of the def -/
def Gl (X : Cx) (x : Str) : Prop := X.env.kindOf x = some .globalImplicit
theorem ld_glob {E : Value → Shared → Prop} {pins : List (Addr × Obj)} {s : Shared} {σ : St} {H : Hp} {x : Str} {u : Value} {pos : Pos} {Q : Value → Shared → Prop} (I : Inv X pins σ H s) (hg : Gl X x) (hm : X.mg x = some u) (h : Q u s)
    (hd : (x == ("__debug__" : Str)) = false := by decide) : wpAny (model X.prog X.w) X.A (eval (.Name x pos) X.env) Q E s :=
  Calls.Name_function_global I.ok.kind hg (Calls.loadGlobal_global (by rw [I.ok.glob]; exact I.mod.glob.keeps I.bk) hm h) hd
theorem ld_blt {E : Value → Shared → Prop} {pins : List (Addr × Obj)} {s : Shared} {σ : St} {H : Hp} {x : Str} {u : Value} {pos : Pos} {Q : Value → Shared → Prop} (I : Inv X pins σ H s) (hg : Gl X x) (hm : X.mg x = none) (hv : bootBuiltins x = some u) (h : Q u s)
    (hn : x ≠ "__name__" := by decide) (hd : (x == ("__debug__" : Str)) = false := by decide) : wpAny (model X.prog X.w) X.A (eval (.Name x pos) X.env) Q E s := by
  obtain ⟨mb, h1, h2⟩ := I.mod.blt
  exact Calls.Name_function_global I.ok.kind hg (Calls.loadGlobal_builtin (by rw [I.ok.glob]; exact I.mod.glob.keeps I.bk) hm (by rw [I.ok.blt]; exact h1.keeps I.bk) ((h2 x hn).trans hv) h) hd
/-- a module's constant, a class, a function, as a value -/
theorem pe_glob {x : Str} {v : V} {u : Value} {pos : Pos} (hg : Gl X x) (hm : X.mg x = some u) (r : RelV v u) (hd : (x == ("__debug__" : Str)) = false := by decide) : PE X (.Name x pos) (tC v) :=
  fun _ _ _ H _ I h => ld_glob I hg hm ⟨v, H, I, r, h⟩ hd
theorem pe_bltn {x : Str} {v : V} {u : Value} {pos : Pos} (hg : Gl X x) (hm : X.mg x = none) (hv : bootBuiltins x = some u) (r : RelV v u) (hn : x ≠ "__name__" := by decide) (hd : (x == ("__debug__" : Str)) = false := by decide) : PE X (.Name x pos) (tC v) :=
  fun _ _ _ H _ I h => ld_blt I hg hm hv ⟨v, H, I, r, h⟩ hn hd

/-! ### arithmetic -/
/-- two ints -/
def t2I (ta tb : TE) (k : Int → Int → Hp → Prop) : St → Hp → Prop := fun σ H => ta σ H fun x H1 => tb σ H1 fun y H2 => ∃ i j, x = .int i ∧ y = .int j ∧ k i j H2
def tAdd (ta tb : TE) : TE := fun σ H Q => t2I ta tb (fun i j H2 => Q (.int (i + j)) H2) σ H
def tSub (ta tb : TE) : TE := fun σ H Q => t2I ta tb (fun i j H2 => Q (.int (i - j)) H2) σ H
/-- the left factor below 2^64 -/
def tMul (ta tb : TE) : TE := fun σ H Q => t2I ta tb (fun i j H2 => (-(2 ^ 64) < i ∧ i < 2 ^ 64) ∧ Q (.int (i * j)) H2) σ H
variable {a b : Expr} {ta tb : TE} {pos : Pos}
/-! ### comparisons -/
def PC (X : Cx) (op : CmpOp) (a b : Expr) (t : TE) : Prop :=
  ∀ (pins : List (Addr × Obj)) (s : Shared) (σ : St) (H : Hp) (Q : VK), Inv X pins σ H s → t σ H Q →
    wpAny (model X.prog X.w) X.A (eval a X.env) (fun v s₁ => wpAny (model X.prog X.w) X.A (eval b X.env) (fun u s₂ => wpAny (model X.prog X.w) X.A (compareOp op v u) (EP X pins σ Q) X.xe s₂) X.xe s₁) X.xe s
def tCmp (p : Int → Int → Bool) (ta tb : TE) : TE := fun σ H Q => t2I ta tb (fun i j H2 => Q (.bl (p i j)) H2) σ H
abbrev tLt : TE → TE → TE := tCmp fun i j => decide (i < j)
abbrev tLe : TE → TE → TE := tCmp fun i j => decide (i ≤ j)
abbrev tGt : TE → TE → TE := tCmp fun i j => decide (j < i)
abbrev tGe : TE → TE → TE := tCmp fun i j => decide (j ≤ i)
abbrev tEqI : TE → TE → TE := tCmp fun i j => decide (i = j)
abbrev tNeI : TE → TE → TE := tCmp fun i j => !decide (i = j)
/-- is None -/
def tIsN (ta : TE) : TE := fun σ H Q => ta σ H fun x H1 => Q (.bl (decide (x = .non))) H1
def tNotN (ta : TE) : TE := fun σ H Q => ta σ H fun x H1 => Q (.bl (!decide (x = .non))) H1
/-- a comparison as a value, as a test -/
def tB (t : TE) : TT := fun σ H Q => t σ H fun x H1 => ∃ c, x = .bl c ∧ Q c H1
/-- an expression whose value is a bool, as a test -/
theorem pt_val {e : Expr} {t : TE} (h : PE X e t) (he : ∀ whole, isTrue e X.env whole = (do let v ← whole; standAt e.pos; holding [v] (truthy v)) := by intro _; rfl) : PT X e (tB t) := by
  intro pins s σ H Q I hw
  refine isTrue_plain (thn (h pins s σ H _ I hw) fun v s1 ⟨x, H1, I1, r1, q1⟩ => ?_) (he _)
  obtain ⟨d, rfl, q⟩ := q1
  cases r1
  exact wpAny_truthy_bool ⟨H1, I1, q⟩

/-! ### and, or, not -/
variable {tA tB' : TT} {rest : List Expr}
def tAnd (t u : TT) : TT := fun σ H Q => t σ H fun c H1 => if c = true then u σ H1 Q else Q false H1
def tOr (t u : TT) : TT := fun σ H Q => t σ H fun c H1 => if c = true then Q true H1 else u σ H1 Q
def tNot (t : TT) : TT := fun σ H Q => t σ H fun c H1 => Q (!c) H1
theorem pw_or1 (ha : PT X a tA) : PW X (.BoolOp .Or [a] pos) tA := by
  intro wh pins s σ H Q I h
  refine isTrue_or (thn (ha pins s σ H Q I h) fun c s1 e => ?_)
  cases c with
  | false => exact isTrue_or_nil e
  | true => exact e
theorem pw_or (ha : PT X a tA) (hb : PW X (.BoolOp .Or (b :: rest) pos) tB') : PW X (.BoolOp .Or (a :: b :: rest) pos) (tOr tA tB') := by
  intro wh pins s σ H Q I h
  refine isTrue_or (thn (ha pins s σ H _ I h) fun c s1 ⟨H1, I1, q1⟩ => ?_)
  cases c with
  | true => exact ⟨H1, I1, q1⟩
  | false => exact hb wh pins s1 σ H1 Q I1 q1
theorem pt_not (ha : PT X a tA) : PT X (.UnaryOp .Not a pos) (tNot tA) := by
  intro pins s σ H Q I h
  exact isTrue_not (ha pins s σ H (fun c H1 => Q (!c) H1) I h)
/-- .. as values (bools) -/
def tAndV (ta tb : TE) : TE := fun σ H Q => ta σ H fun x H1 => ∃ c, x = .bl c ∧ if c = true then tb σ H1 Q else Q (.bl false) H1
def tOrV (ta tb : TE) : TE := fun σ H Q => ta σ H fun x H1 => ∃ c, x = .bl c ∧ if c = true then Q (.bl true) H1 else tb σ H1 Q
def tNotV (ta : TE) : TE := fun σ H Q => ta σ H fun x H1 => ∃ c, x = .bl c ∧ Q (.bl (!c)) H1
theorem pe_one {op} {t : TE} (h : PE X a t) : PE X (.BoolOp op [a] pos) t := fun pins s σ H Q I hw => BoolOp_one (h pins s σ H Q I hw)
theorem pe_and (ha : PE X a ta) (hb : PE X (.BoolOp .And (b :: rest) pos) tb) : PE X (.BoolOp .And (a :: b :: rest) pos) (tAndV ta tb) := by
  intro pins s σ H Q I h
  refine BoolOp_and (thn (ha pins s σ H _ I h) fun v s1 ⟨x, H1, I1, r1, q1⟩ => ?_)
  obtain ⟨c, rfl, q1⟩ := q1
  cases r1
  refine wpAny_truthy_bool ?_
  cases c with
  | true => exact hb pins s1 σ H1 Q I1 q1
  | false => exact ⟨.bl false, H1, I1, rfl, q1⟩
theorem pe_not (ha : PE X a ta) : PE X (.UnaryOp .Not a pos) (tNotV ta) := by
  intro pins s σ H Q I h
  refine UnaryOp_ (thn (ha pins s σ H _ I h) fun v s1 ⟨x, H1, I1, r1, q1⟩ => ?_)
  obtain ⟨c, rfl, q1⟩ := q1
  cases r1
  exact not_of (wpAny_truthy_bool ⟨.bl (!c), H1, I1, rfl, q1⟩)
/-- a if t else b -/
def tIf (t : TT) (ta tb : TE) : TE := fun σ H Q => t σ H fun c H1 => if c = true then ta σ H1 Q else tb σ H1 Q
theorem pe_ifExp {c : Expr} (hc : PT X c tA) (ha : PE X a ta) (hb : PE X b tb) : PE X (.IfExp c a b pos) (tIf tA ta tb) := by
  intro pins s σ H Q I h
  refine wpAny_IfExp (thn (hc pins s σ H _ I h) fun d s1 ⟨H1, I1, q1⟩ => ?_)
  cases d with
  | true => exact ha pins s1 σ H1 Q I1 q1
  | false => exact hb pins s1 σ H1 Q I1 q1
end
end L2

namespace L2
open PySem PySem.Spec PyProof.Rows

/-! ### a list, a tuple that is read: tracked, frozen, or an object of the module -/
def SqL (K : PySem.W.Frag) (H : Hp) (a : Addr) (xs : List V) : Prop :=
  Rd H a (.lst xs) ∨
    ∃ (o : Obj) (its : Array Value) (n : Nat), K.lookup a = some o ∧ o.cls = .type "list" ∧ o.dict = none ∧ o.data = .seq its n ∧ its.size ≤ sizeLine ∧ Vals xs its.toList
def SqT (K : PySem.W.Frag) (H : Hp) (a : Addr) (xs : List V) : Prop :=
  Rd H a (.tup xs) ∨
    ∃ (o : Obj) (its : Array Value) (n : Nat), K.lookup a = some o ∧ o.cls = .type "tuple" ∧ o.data = .seq its n ∧ its.size ≤ sizeLine ∧ Vals xs its.toList
def absV : Value → Option V
  | .none => some .non
  | .bool b => some (.bl b)
  | .int i _ => some (.int i)
  | .str x _ => some (.str x)
  | .bytes b _ => some (.byt b)
  | .float b _ => some (.flt b)
  | .ref a => some (.ref a)
  | .type n => some (.ty n)
  | _ => none
theorem RelV.abs {x : V} {u : Value} (r : RelV x u) : absV u = some x := by
  cases x with
  | non => cases r; rfl
  | bl _ => cases r; rfl
  | int _ => obtain ⟨t, rfl⟩ := r; rfl
  | str _ => obtain ⟨t, rfl⟩ := r; rfl
  | byt _ => obtain ⟨t, rfl⟩ := r; rfl
  | flt _ => obtain ⟨t, rfl⟩ := r; rfl
  | ref _ => cases r; rfl
  | ty _ => cases r; rfl
theorem RelV.inj {x y : V} {u : Value} (r : RelV x u) (q : RelV y u) : x = y := Option.some.inj (r.abs.symm.trans q.abs)
theorem Vals.inj : ∀ {xs ys : List V} {us : List Value}, Vals xs us → Vals ys us → xs = ys
  | _, _, _, .nil, .nil => rfl
  | _, _, _, .cons r t, .cons r' t' => by rw [r.inj r', Vals.inj t t']
section
variable {X : Cx} {pins : List (Addr × Obj)} {σ : St} {H : Hp} {s : Shared} {a : Addr} {xs ys : List V}
theorem SqL.of {K : PySem.W.Frag} (h : H a = some (.lst xs)) : SqL K H a xs := .inl (.inl h)
theorem SqT.of {K : PySem.W.Frag} (h : H a = some (.tup xs)) : SqT K H a xs := .inl (.inl h)
theorem Inv.list (I : Inv X pins σ H s) (h : SqL X.K H a xs) : ∃ its : List Value, Vals xs its ∧ PlainL s.heap a its.toArray ∧ xs.length ≤ sizeLine := by
  rcases h with h | ⟨o, its, n, hk, hc, hd, hs, hz, r⟩
  · obtain ⟨z, its, n, r, e⟩ := h.ok I.hok
    exact ⟨its, r, ⟨_, n, e, rfl, rfl, rfl⟩, z⟩
  · refine ⟨its.toList, r, ⟨o, n, I.kIn a o hk, hc, hd, by simpa using hs⟩, ?_⟩
    have e := r.length
    simp only [Array.length_toList] at e
    omega
theorem Inv.tuple (I : Inv X pins σ H s) (h : SqT X.K H a xs) : ∃ its : List Value, Vals xs its ∧ IsTup s.heap a its.toArray ∧ xs.length ≤ sizeLine := by
  rcases h with h | ⟨o, its, n, hk, hc, hs, hz, r⟩
  · obtain ⟨z, its, r, p⟩ := h.ok I.hok
    exact ⟨its, r, p, z⟩
  · refine ⟨its.toList, r, ⟨o, I.kIn a o hk, hc, n, by simpa using hs⟩, ?_⟩
    have e := r.length
    simp only [Array.length_toList] at e
    omega
theorem Inv.list_inj (I : Inv X pins σ H s) (h : SqL X.K H a xs) (h' : SqL X.K H a ys) : xs = ys := by
  obtain ⟨its, r, ⟨o, n, e, _, _, d⟩, _⟩ := I.list h
  obtain ⟨its', r', ⟨o', n', e', _, _, d'⟩, _⟩ := I.list h'
  rw [e] at e'; cases e'
  rw [d] at d'
  injection d' with d1 _
  have : its = its' := by simpa using congrArg Array.toList d1
  subst this
  exact r.inj r'
theorem Inv.tuple_inj (I : Inv X pins σ H s) (h : SqT X.K H a xs) (h' : SqT X.K H a ys) : xs = ys := by
  obtain ⟨its, r, ⟨o, e, _, n, d⟩, _⟩ := I.tuple h
  obtain ⟨its', r', ⟨o', e', _, n', d'⟩, _⟩ := I.tuple h'
  rw [e] at e'; cases e'
  rw [d] at d'
  injection d' with d1 _
  have : its = its' := by simpa using congrArg Array.toList d1
  subst this
  exact r.inj r'
end

/-! ### another wish about exceptions -/
abbrev Cx.wish (X : Cx) (E : Value → Shared → Prop) : Cx := { X with xe := E }
/-- no exception leaves -/
abbrev Cx.nox (X : Cx) : Cx := X.wish fun _ _ => False
theorem Cx.Ok.wish {X : Cx} (ok : X.Ok) (E : Value → Shared → Prop) : (X.wish E).Ok :=
  ⟨ok.mod, ok.kind, ok.glob, ok.blt, ok.above, ok.inj, ok.has, ok.cab, ok.hd, ok.frames, ok.stk, ok.exf, ok.bs, ok.bsz, ok.noex, ok.exfs, ok.funs, ok.frf⟩
theorem Cx.Ok.unwish {X : Cx} {E : Value → Shared → Prop} (ok : (X.wish E).Ok) : X.Ok :=
  ⟨ok.mod, ok.kind, ok.glob, ok.blt, ok.above, ok.inj, ok.has, ok.cab, ok.hd, ok.frames, ok.stk, ok.exf, ok.bs, ok.bsz, ok.noex, ok.exfs, ok.funs, ok.frf⟩
section
variable {X : Cx} {pins : List (Addr × Obj)} {σ : St} {H : Hp} {s : Shared} {E : Value → Shared → Prop}
theorem Inv.wish (I : Inv X pins σ H s) (E : Value → Shared → Prop) : Inv (X.wish E) pins σ H s := ⟨I.ok.wish E, I.os, I.bare, I.base, I.loc, I.cell, I.free, I.freeC, I.pin, I.hok, I.len⟩
theorem Inv.unwish (I : Inv (X.wish E) pins σ H s) : Inv X pins σ H s := ⟨I.ok.unwish, I.os, I.bare, I.base, I.loc, I.cell, I.free, I.freeC, I.pin, I.hok, I.len⟩
theorem SP.unwish {D : Ends} {f : Flow} {s' : Shared} (h : SP (X.wish E) pins D f s') : SP X pins D f s' := by
  cases f with
  | next => obtain ⟨σ', H', I, q⟩ := h; exact ⟨σ', H', I.unwish, q⟩
  | brk => obtain ⟨σ', H', I, q⟩ := h; exact ⟨σ', H', I.unwish, q⟩
  | cont => obtain ⟨σ', H', I, q⟩ := h; exact ⟨σ', H', I.unwish, q⟩
  | ret u => obtain ⟨v, σ', H', I, r, q⟩ := h; exact ⟨v, σ', H', I.unwish, r, q⟩
theorem PSs.nox {st : List Stmt} {t : TS} (h : PSs X.nox st t) : PSs X st t := fun pins s σ H D I hw =>
  wpAny_mono (h pins s σ H D (I.wish _) hw) (fun _ _ q => q.unwish) fun _ _ z => False.elim z
end

/-! ### blocks and small statements -/
section
variable {X : Cx} {st : Stmt} {rest : List Stmt} {t u : TS} {e : Expr} {te : TE} {pos : Pos}
def tNext : TS := fun D σ H => D.nx σ H
def tSeq (t u : TS) : TS := fun D σ H => t { D with nx := u D } σ H
theorem pss_nil : PSs X [] tNext := fun _ _ σ H _ I h => wpAny_execs_nil ⟨σ, H, I, h⟩
theorem pss_cons (h1 : PS X st t) (h2 : PSs X rest u) : PSs X (st :: rest) (tSeq t u) := by
  intro pins s σ H D I h
  refine wpAny_execs_cons (thn (h1 pins s σ H { D with nx := u D } I h) fun f s1 q => ?_)
  cases f with
  | next =>
    obtain ⟨σ', H', I', q⟩ := q
    exact h2 pins s1 σ' H' D I' q
  | ret v => exact q
  | brk => exact q
  | cont => exact q
theorem pss_one (h1 : PS X st t) : PSs X [st] t := by
  intro pins s σ H D I h
  refine wpAny_execs_cons (thn (h1 pins s σ H D I h) fun f s1 q => ?_)
  cases f with
  | next => exact wpAny_execs_nil q
  | ret v => exact q
  | brk => exact q
  | cont => exact q
def tBreak : TS := fun D σ H => D.bk σ H
def tCont : TS := fun D σ H => D.ct σ H
/-- in a def's body nothing is shown -/
theorem Inv.quiet {pins : List (Addr × Obj)} {σ : St} {H : Hp} {s : Shared} (I : Inv X pins σ H s) : interactive X.env = false := by simp [interactive, I.ok.kind]
/-- an expression whose value is dropped -/
def tDrop (te : TE) : TS := fun D σ H => te σ H fun _ H1 => D.nx σ H1
theorem ps_expr (he : PE X e te) (hs : swapsWith e none pos.line X.env = pure false := by rfl) : PS X (.Expr e pos) (tDrop te) := by
  intro pins s σ H D I h
  exact wpAny_Expr_any (thn (he pins s σ H _ I h) fun v s1 ⟨x, H1, I1, r1, q1⟩ => ⟨σ, H1, I1, q1⟩) I.quiet hs
def tRet (te : TE) : TS := fun D σ H => te σ H D.rt
theorem ps_ret (he : PE X e te) : PS X (.Return (some e) pos) (tRet te) := by
  intro pins s σ H D I h
  exact wpAny_Return_some (thn (he pins s σ H _ I h) fun v s1 ⟨x, H1, I1, r1, q1⟩ => ⟨x, σ, H1, I1, r1, q1⟩)
def tRetN : TS := fun D _ H => D.rt .non H
def tIfS (c : TT) (t u : TS) : TS := fun D σ H => c σ H fun b H1 => if b = true then t D σ H1 else u D σ H1
theorem ps_if {c : Expr} {a b : List Stmt} {tc : TT} (hc : PT X c tc) (ha : PSs X a t) (hb : PSs X b u) : PS X (.If c a b pos) (tIfS tc t u) := by
  intro pins s σ H D I h
  refine wpAny_If (thn (hc pins s σ H _ I h) fun d s1 ⟨H1, I1, q1⟩ => ?_)
  cases d with
  | true => exact ha pins s1 σ H1 D I1 q1
  | false => exact hb pins s1 σ H1 D I1 q1
/-- code that the proof never comes to -/
def tNever : TS := fun _ _ _ => False
theorem pss_never {sts : List Stmt} : PSs X sts tNever := fun _ _ _ _ _ _ h => h.elim
end

/-! ### targets -/
abbrev TG := V → St → Hp → (St → Hp → Prop) → Prop
abbrev TGs := List V → St → Hp → (St → Hp → Prop) → Prop
def PG (X : Cx) (target : Expr) (t : TG) : Prop :=
  ∀ (pins : List (Addr × Obj)) (s : Shared) (σ : St) (H : Hp) (v : V) (u : Value) (Q : St → Hp → Prop), Inv X pins σ H s → RelV v u → t v σ H Q →
    wpAny (model X.prog X.w) X.A (assign target X.env u) (fun _ s' => ∃ σ' H', Inv X pins σ' H' s' ∧ Q σ' H') X.xe s
/-- several targets, one after another -/
def PGs (X : Cx) (ts : List Expr) (t : TGs) : Prop :=
  ∀ (pins : List (Addr × Obj)) (s : Shared) (σ : St) (H : Hp) (vs : List V) (us : List Value) (Q : St → Hp → Prop), Inv X pins σ H s → Vals vs us → t vs σ H Q →
    wpAny (model X.prog X.w) X.A (assignInOrder ((assignEach ts X.env).map (·.2)) us) (fun _ s' => ∃ σ' H', Inv X pins σ' H' s' ∧ Q σ' H') X.xe s
/-- o[i] = v, by values -/
abbrev TSet := V → V → V → Hp → (Hp → Prop) → Prop
def PSet (X : Cx) (t : TSet) : Prop :=
  ∀ (pins : List (Addr × Obj)) (s : Shared) (σ : St) (H : Hp) (o i v : V) (ov iv u : Value) (Q : Hp → Prop), Inv X pins σ H s → RelV o ov → RelV i iv → RelV v u → t o i v H Q →
    wpAny (model X.prog X.w) X.A (setItem ov iv u) (fun _ s' => ∃ H', Inv X pins σ H' s' ∧ Q H') X.xe s
/-- a op= b, by values -/
abbrev TIp := V → V → Hp → VK → Prop
def PIp (X : Cx) (op : Operator) (t : TIp) : Prop :=
  ∀ (pins : List (Addr × Obj)) (s : Shared) (σ : St) (H : Hp) (x y : V) (v u : Value) (Q : VK), Inv X pins σ H s → RelV x v → RelV y u → t x y H Q →
    wpAny (model X.prog X.w) X.A (inplaceOp op v u) (EP X pins σ Q) X.xe s
section
variable {X : Cx} {pos : Pos}
def gName (i : Nat) : TG := fun v σ H Q => Q (σ.set i (some v)) H
theorem pg_name {i : Nat} {x : Str} (hN : X.N.Nodup) (hi : X.N[i]? = some x) (hx : Loc X.env.scope x) (hf : X.fn x = true ∨ X.env.scope.names.lookup x = some .local := by first | exact .inl rfl | exact .inr rfl | assumption) : PG X (.Name x pos) (gName i) := by
  intro pins s σ H v u Q I r h
  exact wpAny_assign_Name (store_ok I hN hi hx r (fun s' I' => ⟨_, H, I', h⟩) hf)
def gNil : TGs := fun vs σ H Q => vs = [] ∧ Q σ H
def gCons (t : TG) (u : TGs) : TGs := fun vs σ H Q => ∃ v r, vs = v :: r ∧ t v σ H fun σ' H' => u r σ' H' Q
theorem pgs_nil : PGs X [] gNil := by
  intro pins s σ H vs us Q I r h
  obtain ⟨e, h⟩ := h
  subst e
  cases r
  exact assignInOrder_nil ⟨σ, H, I, h⟩
theorem pgs_cons {e : Expr} {es : List Expr} {t : TG} {u : TGs} (h1 : PG X e t) (h2 : PGs X es u)
    (hs : (assignEach (e :: es) X.env).map (·.2) = assign e X.env :: (assignEach es X.env).map (·.2) := by rfl) : PGs X (e :: es) (gCons t u) := by
  intro pins s σ H vs us Q I r h
  obtain ⟨v, vr, e1, h⟩ := h
  subst e1
  cases r with
  | cons r rr =>
    rw [hs]
    refine assignInOrder_cons (thn (h1 pins s σ H _ _ _ I r h) fun _ s1 ⟨σ1, H1, I1, q1⟩ => ?_)
    exact h2 pins s1 σ1 H1 _ _ Q I1 rr q1
/-- (a, b, ..) = a tuple of that length -/
def gTup (K : PySem.W.Frag) (n : Nat) (t : TGs) : TG := fun v σ H Q => ∃ a xs, v = .ref a ∧ SqT K H a xs ∧ xs.length = n ∧ t xs σ H Q
theorem pg_tup {es : List Expr} {k : Nat} {t : TGs} {n : Nat} (hc : X.calm = true) (h : PGs X es t)
    (hn : (assignEach es X.env).length = n := by rfl) (hst : (assignEach es X.env).findIdx? (·.1) = none := by rfl) : PG X (.Tuple es k pos) (gTup X.K n t) := by
  intro pins s σ H v u Q I r hw
  obtain ⟨a, xs, e1, hq, hl, hw⟩ := hw
  subst e1
  cases r
  obtain ⟨its, rv, ht, hz⟩ := I.tuple hq
  refine assign_Tuple_tuple (I.ok.hd hc) ht (by simp [hn, ← hl, rv.length]) hst fun h' hx => ?_
  have I1 : Inv X pins σ H { s with heap := h' } := I.kept (t' := s.toks) fun b o e => hx b o (Nat.ne_of_lt (Heap.lt_size e)) e
  exact h pins _ σ H xs _ Q I1 (by simpa using rv) hw
/-- o[i] = .. -/
def gSub (to ti : TE) (t : TSet) : TG := fun v σ H Q => to σ H fun o H1 => ti σ H1 fun i H2 => t o i v H2 fun H3 => Q σ H3
/-- target = value -/
def tAsg (te : TE) (g : TG) : TS := fun D σ H => te σ H fun x H1 => g x σ H1 D.nx
/-- name = value -/
theorem ps_set {i : Nat} {x : Str} {e : Expr} {te : TE} {pos' : Pos} (hN : X.N.Nodup) (hi : X.N[i]? = some x) (hx : Loc X.env.scope x) (he : PE X e te) (hs : swapsWith e (some (.Name x pos')) pos.line X.env = pure false := by rfl) (hf : X.fn x = true ∨ X.env.scope.names.lookup x = some .local := by first | exact .inl rfl | exact .inr rfl | assumption) :
    PS X (.Assign [.Name x pos'] e pos) (tAsg te (gName i)) := by
  intro pins s σ H D I h
  refine wpAny_Assign_Name (thn (he pins s σ H _ I h) fun v s1 ⟨y, H1, I1, r1, q1⟩ => ?_) hs
  exact store_ok I1 hN hi hx r1 (fun s2 I2 => ⟨_, H1, I2, q1⟩) hf
/-- a, b = x, y with plain local names: stored from the right; the pair itself is not tracked (the opening rows as in PyProof/Rows/TupAssign.lean:23) -/
def tPar (i j : Nat) (ta : TA) : TS := fun D σ H => ta σ H fun vs H1 => ∃ v w, vs = [v, w] ∧ D.nx ((σ.set i (some v)).set j (some w)) H1
theorem ps_par {i j : Nat} {x y : Str} {a b : Expr} {ta : TA} {px py pt : Pos} {kt k2 pt2} (hc : X.calm = true) (hN : X.N.Nodup) (hi : X.N[i]? = some x) (hj : X.N[j]? = some y) (hij : i ≠ j)
    (hx : X.env.scope.names.lookup x = some .local) (hy : X.env.scope.names.lookup y = some .local) (ha : PA X [a, b] ta)
    (hw : swappedStores [.Tuple [.Name x px, .Name y py] kt pt] (.Tuple [a, b] k2 pt2) X.env = pure (some [x, y]))
    (hs : swapsWithSole [.Tuple [.Name x px, .Name y py] kt pt] (.Tuple [a, b] k2 pt2) pos.line X.env = pure false := by rfl) :
    PS X (.Assign [.Tuple [.Name x px, .Name y py] kt pt] (.Tuple [a, b] k2 pt2) pos) (tPar i j ta) := by
  intro pins s σ H D I h
  rw [exec_Assign_arm]
  refine wpAny_bind (wpAny_standAt ?_)
  rw [hs]
  refine wpAny_bind (wpAny_pure ?_)
  rw [if_neg (by decide)]
  refine wpAny_bind (Tuple_ (thn (ha _ pins s σ H _ I h) fun us s1 ⟨vs, H1, I1, r1, q1⟩ => ?_))
  obtain ⟨v, w, e1, q1⟩ := q1
  subst e1
  obtain ⟨u1, u2, rfl, rv, rw'⟩ : ∃ u1 u2, us = [u1, u2] ∧ RelV v u1 ∧ RelV w u2 := by
    cases r1 with
    | cons p q =>
      cases q with
      | cons p' q' =>
        cases q'
        exact ⟨_, _, rfl, p, p'⟩
  refine wpAny_newObj_type ?_ (by show 2 ≤ sizeLine; decide)
  have I2 : Inv X pins σ H1 { s1 with heap := s1.heap.push { cls := .type "tuple", data := .seq [u1, u2].toArray } } := I1.kept (t' := s1.toks) fun b o e => Heap.get?_push_of_some _ e
  rw [hw]
  refine wpAny_bind (wpAny_pure ?_)
  show wpAny (model X.prog X.w) X.A (do rule "assign.swapped-stores"; let items ← unpackItems (.ref s1.heap.objs.size) 2 none; assignInOrder [fun v => bindName X.env y v, fun v => bindName X.env x v] items.reverse; pure Flow.next) _ _ _
  refine wpAny_bind (wpAny_rule (wpAny_bind (unpackItems_tuple (items := #[u1, u2]) (I.ok.hd hc) (IsTup.new s1.heap _) fun h' hx' => ?_)))
  have I3 := I2.kept (h' := h') (t' := s1.toks) fun b o e => hx' b o (Nat.ne_of_lt (Heap.lt_size e)) e
  show wpAny _ _ (assignInOrder [fun v => bindName X.env y v, fun v => bindName X.env x v] [u2, u1] >>= fun _ => pure Flow.next) _ _ _
  refine wpAny_bind (assignInOrder_cons (wpAny_bindName (store_ok I3 hN hj (.inl hy) rw' (fun s2 I4 => ?_) (.inr hy))))
  refine assignInOrder_cons (wpAny_bindName (store_ok I4 hN hi (.inl hx) rv (fun s3 I5 => assignInOrder_nil (wpAny_pure ?_)) (.inr hx)))
  rw [List.set_comm _ _ (Ne.symm hij)] at I5
  exact ⟨_, H1, I5, q1⟩
/-- name op= e -/
def tAug (i : Nat) (te : TE) (ti : TIp) : TS := fun D σ H => ∃ x, σ[i]? = some (some x) ∧ te σ H fun y H1 => ti x y H1 fun z H2 => D.nx (σ.set i (some z)) H2
/-- o[i] op= e -/
def tAugS (to ti te : TE) (tget : V → V → Hp → VK → Prop) (tip : TIp) (tset : TSet) : TS := fun D σ H => to σ H fun o H1 => ti σ H1 fun i H2 => tget o i H2 fun x H3 => te σ H3 fun y H4 => tip x y H4 fun z H5 => tset o i z H5 fun H6 => D.nx σ H6
/-- o[i], by values -/
def PGet (X : Cx) (t : V → V → Hp → VK → Prop) : Prop :=
  ∀ (pins : List (Addr × Obj)) (s : Shared) (σ : St) (H : Hp) (o i : V) (ov iv : Value) (Q : VK), Inv X pins σ H s → RelV o ov → RelV i iv → t o i H Q →
    wpAny (model X.prog X.w) X.A (getItem ov iv) (EP X pins σ Q) X.xe s
/-- ints -/
def ipI (f : Int → Int → Int) : TIp := fun x y H Q => ∃ i j, x = .int i ∧ y = .int j ∧ Q (.int (f i j)) H
end

/-! ### while -/
section
variable {X : Cx} {pos : Pos}
/-- the invariant W with its measure -/
def tWhile (c : TT) (tb : TS) : TS := fun D σ H => ∃ W : Nat → St → Hp → Prop, (∃ m, W m σ H) ∧ ∀ m σ H, W m σ H →
  c σ H fun b H1 => if b = true then ∃ N : St → Hp → Prop, (∀ σ' H', N σ' H' → ∃ m', m' < m ∧ W m' σ' H') ∧ tb { D with nx := N, ct := N, bk := D.nx } σ H1 else D.nx σ H1
end

/-! ### what a loop or a comprehension walks -/
/-- at turn i: it yields x (the heap may grow), or it stops -/
structure It where
  go : Nat → Hp → Prop
  yld : Nat → Hp → V → Hp → Prop
  stop : Nat → Hp → Prop
/-- the iterator's own objects may turn: they are not the frame's, not pinned, younger than the entry (or a comprehension's own) -/
def FpOk (X : Cx) (pins : List (Addr × Obj)) (H : Hp) (b : Addr) : Prop :=
  H b = none ∧ b ≠ X.env.locals ∧ b ∉ X.fs ∧ (b ∈ X.ex ∨ X.s₀.heap.objs.size ≤ b) ∧ (∀ x c, X.env.cells.lookup x = some c → c ≠ b) ∧ ∀ p ∈ X.pn ++ pins, p.1 ≠ b
theorem Inv.fpOk {X : Cx} {pins : List (Addr × Obj)} {σ : St} {H H' : Hp} {s : Shared} {b : Addr} (I : Inv X pins σ H s) (hb : s.heap.objs.size ≤ b) (hn : H' b = none) : FpOk X pins H' b := by
  refine ⟨hn, Nat.ne_of_gt (Nat.lt_of_lt_of_le I.lt hb), I.nofs hb, .inr (Nat.le_trans I.sz hb), fun x c e z => ?_, fun p hp z => ?_⟩
  · obtain ⟨v, q⟩ := I.cell x c e
    exact absurd (Nat.lt_of_lt_of_le q.lt (by rw [z]; exact hb)) (Nat.lt_irrefl _)
  · exact absurd (Nat.lt_of_lt_of_le (Heap.lt_size (I.pin p hp).1) (by rw [z]; exact hb)) (Nat.lt_irrefl _)
structure Turn (P : Program) (w : World) (K : PySem.W.Frag) (tg : Expr) (J : It) (fp : List Addr) (it : Addr) (tn : Nat → Heap → Prop) : Prop where
  mem : it ∈ fp
  obj : ∀ i h, tn i h → ∀ b ∈ fp, ∃ o, h.get? b = some o ∧ ∀ v, o.data ≠ .cell v
  keep : ∀ i h h', tn i h → (∀ b ∈ fp, ∀ o, h.get? b = some o → h'.get? b = some o) → tn i h'
  item : ∀ (X : Cx), X.prog = P → X.w = w → X.K = K → X.calm = true → ∀ (i : Nat) (pins : List (Addr × Obj)) (s : Shared) (σ : St) (H : Hp) (E : Value → Shared → Prop), Inv X pins σ H s → (∀ b ∈ fp, FpOk X pins H b) → tn i s.heap → J.go i H →
    wpAny (model P w) X.A (pyNext (.ref it)) (fun r s1 => ∃ u, r = some u ∧
      wpAny (model P w) X.A (letOwnedTupleGo tg (.ref it) u) (fun _ s2 => ∃ x H', Inv X pins σ H' s2 ∧ RelV x u ∧ J.yld i H x H' ∧ tn (i + 1) s2.heap ∧ ∀ b ∈ fp, H' b = none) E s1) E s
  done : ∀ (X : Cx), X.prog = P → X.w = w → X.K = K → X.calm = true → ∀ (i : Nat) (pins : List (Addr × Obj)) (s : Shared) (σ : St) (H : Hp) (E : Value → Shared → Prop), Inv X pins σ H s → (∀ b ∈ fp, FpOk X pins H b) → tn i s.heap → J.stop i H →
    wpAny (model P w) X.A (pyNext (.ref it)) (fun r s1 => r = none ∧ Inv X pins σ H s1) E s
  self : ∀ (A : Around) (i : Nat) (s : Shared) (Q : Value → Shared → Prop) (E : Value → Shared → Prop), tn i s.heap → Q (.ref it) s → wpAny (model P w) A (pyIter (.ref it)) Q E s
abbrev TI := St → Hp → (It → Hp → Prop) → Prop
/-- an iterator has come -/
def PIE (X : Cx) (pins : List (Addr × Obj)) (σ : St) (tg : Expr) (R : It → Hp → Prop) (itv : Value) (s2 : Shared) : Prop :=
  ∃ (it : Addr) (fp : List Addr) (tn : Nat → Heap → Prop) (J : It) (H' : Hp), itv = .ref it ∧ Inv X pins σ H' s2 ∧ Turn X.prog X.w X.K tg J fp it tn ∧ tn 0 s2.heap ∧ (∀ b ∈ fp, FpOk X pins H' b) ∧ R J H'
def PI (X : Cx) (tg iter : Expr) (wi : TI) : Prop :=
  ∀ (pins : List (Addr × Obj)) (s : Shared) (σ : St) (H : Hp) (R : It → Hp → Prop), Inv X pins σ H s → wi σ H R →
    wpAny (model X.prog X.w) X.A (eval iter X.env) (fun v s1 => wpAny (model X.prog X.w) X.A (pyIter v) (PIE X pins σ tg R) X.xe s1) X.xe s

/-- the step ahead of the store is nothing for an iterator that keeps no tuple -/
theorem go_of {M : Model} {A : Around} {E : Value → Shared → Prop} {s : Shared} {tg : Expr} {it : Addr} {u : Value} {o : Obj} {n : String} {vs : Array Value} {Q : Unit → Shared → Prop} (ho : s.heap.get? it = some o) (hc : o.cls = .type n) (hd : o.data = .fields vs)
    (hn : ["enumerate", "zip", "dict_itemiterator", "dict_reverseitemiterator", "odict_iterator", "itertools.zip_longest", "itertools.pairwise"].contains n = false) (hQ : Q () s) : wpAny M A (letOwnedTupleGo tg (.ref it) u) Q E s := by
  unfold letOwnedTupleGo
  cases tg <;> first
    | exact wpAny_pure hQ
    | (cases u <;> first
        | exact wpAny_pure hQ
        | (refine wpAny_bind (wpAny_load ho ?_)
           rw [hc, hd]
           show wpAny M A (if (["enumerate", "zip", "dict_itemiterator", "dict_reverseitemiterator", "odict_iterator", "itertools.zip_longest", "itertools.pairwise"].contains n && vs[0]? == some (rawInt _)) = true then _ else _) Q E s
           rw [if_neg (by intro h; rw [hn, Bool.false_and] at h; cases h)]
           exact wpAny_pure hQ))

/-- the list at a, as it stands at each turn (a loop may append to it) -/
def Itl (K : PySem.W.Frag) (a : Addr) : It :=
  ⟨fun i H => ∃ xs x, SqL K H a xs ∧ xs[i]? = some x, fun i H x H' => H' = H ∧ ∀ xs, SqL K H a xs → xs[i]? = some x, fun i H => ∃ xs, SqL K H a xs ∧ xs.length ≤ i⟩
def Itt (K : PySem.W.Frag) (a : Addr) : It :=
  ⟨fun i H => ∃ xs x, SqT K H a xs ∧ xs[i]? = some x, fun i H x H' => H' = H ∧ ∀ xs, SqT K H a xs → xs[i]? = some x, fun i H => ∃ xs, SqT K H a xs ∧ xs.length ≤ i⟩
/-- lo, lo + 1, .. (n of them) -/
def Itr (lo : Int) (n : Nat) : It := ⟨fun i _ => i < n, fun i H x H' => H' = H ∧ x = .int (lo + i), fun i _ => n ≤ i⟩
theorem turn_list {P : Program} {w : World} {K : PySem.W.Frag} {tg : Expr} (a it : Addr) : Turn P w K tg (Itl K a) [it] it (fun i h => h.IsListIter it a i) where
  mem := by simp
  obj := fun i h st b hb => by
    have e : b = it := by simpa using hb
    subst e
    obtain ⟨o, e, c, d⟩ := st
    exact ⟨o, e, fun v z => by rw [d] at z; cases z⟩
  keep := fun i h h' st k => st.at fun o e => k it (by simp) o e
  item := by
    intro X hP hw hK hc i pins s σ H E I hf st hg
    subst hP hw hK
    obtain ⟨xs, x, hq, hx⟩ := hg
    obtain ⟨its, rv, p, hz⟩ := I.list hq
    obtain ⟨u, hu, ru⟩ := rv.get hx
    obtain ⟨f0, f1, f2, f3, f4, f5⟩ := hf it (by simp)
    refine wpAny_pyNext_list_item st p.isList (x := u) (by simpa using hu) fun h' st' sb => ?_
    have I1 : Inv X pins σ H { s with heap := h' } := I.turned (t' := s.toks) (fun b o hb e => (sb.2 b hb).trans e) f0 f1 f3 f4 f5
    obtain ⟨o, e, c, d⟩ := id st'
    exact ⟨u, rfl, go_of (s := { s with heap := h' }) e c d (by decide) ⟨x, H, I1, ru, ⟨rfl, fun ys hy => by rw [I.list_inj hy hq]; exact hx⟩, st', fun b hb => (hf b hb).1⟩⟩
  done := by
    intro X hP hw hK hc i pins s σ H E I hf st hg
    subst hP hw hK
    obtain ⟨xs, hq, hx⟩ := hg
    obtain ⟨its, rv, p, hz⟩ := I.list hq
    obtain ⟨f0, f1, f2, f3, f4, f5⟩ := hf it (by simp)
    have hl := rv.length
    exact wpAny_pyNext_list_end (I.ok.hd hc) st p.isList (by simp; omega) fun h' eb => ⟨rfl, I.turned (t' := s.toks) (fun b o hb e => eb b o hb e) f0 f1 f3 f4 f5⟩
  self := fun _ _ _ _ _ st h => wpAny_pyIter_listiter st h
theorem turn_tuple {P : Program} {w : World} {K : PySem.W.Frag} {tg : Expr} (a it : Addr) : Turn P w K tg (Itt K a) [it] it (fun i h => h.IsTupleIter it a i) where
  mem := by simp
  obj := fun i h st b hb => by
    have e : b = it := by simpa using hb
    subst e
    obtain ⟨o, e, c, d⟩ := st
    exact ⟨o, e, fun v z => by rw [d] at z; cases z⟩
  keep := fun i h h' st k => st.at fun o e => k it (by simp) o e
  item := by
    intro X hP hw hK hc i pins s σ H E I hf st hg
    subst hP hw hK
    obtain ⟨xs, x, hq, hx⟩ := hg
    obtain ⟨its, rv, p, hz⟩ := I.tuple hq
    obtain ⟨u, hu, ru⟩ := rv.get hx
    obtain ⟨f0, f1, f2, f3, f4, f5⟩ := hf it (by simp)
    refine wpAny_pyNext_tuple_item st (show s.heap.IsTuple a its.toArray from p) (x := u) (by simpa using hu) fun h' st' sb => ?_
    have I1 : Inv X pins σ H { s with heap := h' } := I.turned (t' := s.toks) (fun b o hb e => (sb.2 b hb).trans e) f0 f1 f3 f4 f5
    obtain ⟨o, e, c, d⟩ := id st'
    exact ⟨u, rfl, go_of (s := { s with heap := h' }) e c d (by decide) ⟨x, H, I1, ru, ⟨rfl, fun ys hy => by rw [I.tuple_inj hy hq]; exact hx⟩, st', fun b hb => (hf b hb).1⟩⟩
  done := by
    intro X hP hw hK hc i pins s σ H E I hf st hg
    subst hP hw hK
    obtain ⟨xs, hq, hx⟩ := hg
    obtain ⟨its, rv, p, hz⟩ := I.tuple hq
    obtain ⟨f0, f1, f2, f3, f4, f5⟩ := hf it (by simp)
    have hl := rv.length
    exact wpAny_pyNext_tuple_end (I.ok.hd hc) st (show s.heap.IsTuple a its.toArray from p) (by simp; omega) fun h' eb => ⟨rfl, I.turned (t' := s.toks) (fun b o hb e => eb b o hb e) f0 f1 f3 f4 f5⟩
  self := fun _ _ _ _ _ st h => wpAny_pyIter_tupleiter st h
theorem turn_range {P : Program} {w : World} {K : PySem.W.Frag} {tg : Expr} (it : Addr) (lo : Int) (n : Nat) : Turn P w K tg (Itr lo n) [it] it (fun i h => IsRangeIter h it (lo + (i : Nat) * 1) ((n : Int) - (i : Nat)) 1) where
  mem := by simp
  obj := fun i h st b hb => by
    have e : b = it := by simpa using hb
    subst e
    exact ⟨_, st, fun v z => by
      have z' : Data.fields _ = Data.cell v := z
      cases z'⟩
  keep := fun i h h' st k => k it (by simp) _ st
  item := by
    intro X hP hw hK hc i pins s σ H E I hf st hg
    subst hP hw hK
    obtain ⟨f0, f1, f2, f3, f4, f5⟩ := hf it (by simp)
    have W := Walks.range (prog := X.prog) (w := X.w) (I.ok.hd hc) it lo 1 n
    refine W.item i s _ _ hg st fun v h' tk hv st' kk => ?_
    obtain ⟨t, rfl⟩ := hv
    have I1 : Inv X pins σ H { s with heap := h', toks := tk } := I.turned (fun b o hb e => kk b o (by simpa using hb) e) f0 f1 f3 f4 f5
    refine ⟨_, rfl, go_of (s := { s with heap := h', toks := tk }) (n := "range_iterator") st' rfl rfl (by decide) ⟨.int (lo + i), H, I1, ⟨t, ?_⟩, ⟨rfl, rfl⟩, st', fun b hb => (hf b hb).1⟩⟩
    rw [Int.mul_one]
  done := by
    intro X hP hw hK hc i pins s σ H E I hf st hg
    subst hP hw hK
    obtain ⟨f0, f1, f2, f3, f4, f5⟩ := hf it (by simp)
    exact wpAny_pyNext_range_end (I.ok.hd hc) st (by have : n ≤ i := hg; omega) fun h' eb => ⟨rfl, I.turned (t' := s.toks) (fun b o hb e => eb b o hb e) f0 f1 f3 f4 f5⟩
  self := fun _ _ _ _ _ st h => wpAny_pyIter_rangeiter st h
end L2

namespace L2
open PySem PySem.Spec PyProof.Rows
section
variable {X : Cx} {tg : Expr}
def iList (K : PySem.W.Frag) (tl : TE) : TI := fun σ H R => tl σ H fun x H1 => ∃ a, x = .ref a ∧ (∃ xs, SqL K H1 a xs) ∧ R (Itl K a) H1
def iTup (K : PySem.W.Frag) (tl : TE) : TI := fun σ H R => tl σ H fun x H1 => ∃ a, x = .ref a ∧ (∃ xs, SqT K H1 a xs) ∧ R (Itt K a) H1
theorem pi_list {l : Expr} {tl : TE} (hl : PE X l tl) : PI X tg l (iList X.K tl) := by
  intro pins s σ H R I h
  refine thn (hl pins s σ H _ I h) fun v s1 ⟨x, H1, I1, r1, q1⟩ => ?_
  obtain ⟨a, e, ⟨xs, hq⟩, q⟩ := q1
  subst e
  cases r1
  obtain ⟨its, rv, p, hz⟩ := I1.list hq
  refine wpAny_pyIter_list p.isList ?_
  refine ⟨s1.heap.objs.size, [s1.heap.objs.size], _, _, H1, rfl, I1.kept (t' := s1.toks) fun b o e => Heap.get?_push_of_some _ e, turn_list a _, ⟨_, Heap.get?_push_size _ rfl, rfl, rfl⟩, fun b hb => ?_, q⟩
  have e : b = s1.heap.objs.size := by simpa using hb
  subst e
  exact I1.fpOk (Nat.le_refl _) (I1.hok.fresh (Nat.le_refl _))
theorem pi_tup {l : Expr} {tl : TE} (hl : PE X l tl) : PI X tg l (iTup X.K tl) := by
  intro pins s σ H R I h
  refine thn (hl pins s σ H _ I h) fun v s1 ⟨x, H1, I1, r1, q1⟩ => ?_
  obtain ⟨a, e, ⟨xs, hq⟩, q⟩ := q1
  subst e
  cases r1
  obtain ⟨its, rv, p, hz⟩ := I1.tuple hq
  refine wpAny_pyIter_tuple (show s1.heap.IsTuple a its.toArray from p) ?_
  refine ⟨s1.heap.objs.size, [s1.heap.objs.size], _, _, H1, rfl, I1.kept (t' := s1.toks) fun b o e => Heap.get?_push_of_some _ e, turn_tuple a _, ⟨_, Heap.get?_push_size _ rfl, rfl, rfl⟩, fun b hb => ?_, q⟩
  have e : b = s1.heap.objs.size := by simpa using hb
  subst e
  exact I1.fpOk (Nat.le_refl _) (I1.hok.fresh (Nat.le_refl _))
/-- a range object just made, walked -/
theorem range_it {pins : List (Addr × Obj)} {σ : St} {H : Hp} {s : Shared} {R : It → Hp → Prop} {E : Value → Shared → Prop} {lo hi : Int} {t u v : Tok} {tk : Nat} (I : Inv X pins σ H s) (h1 : -(2 ^ 62) ≤ lo) (h2 : lo < 2 ^ 62) (h3 : -(2 ^ 62) ≤ hi) (h4 : hi < 2 ^ 62)
    (q : R (Itr lo (hi - lo).toNat) H) : wpAny (model X.prog X.w) X.A (pyIter (.ref s.heap.objs.size)) (PIE X pins σ tg R) E { s with heap := s.heap.push { cls := .type "range", data := .fields #[.int lo t, .int hi u, .int 1 v] }, toks := tk } := by
  refine wpAny_pyIter_range (IsRange.new ..) (small_one h1 h2 h3 h4) ?_
  have I1 : Inv X pins σ H { s with heap := s.heap.push { cls := .type "range", data := .fields #[.int lo t, .int hi u, .int 1 v] }, toks := tk } := I.kept fun b o e => Heap.get?_push_of_some _ e
  refine ⟨(s.heap.push { cls := .type "range", data := .fields #[.int lo t, .int hi u, .int 1 v] }).objs.size, [(s.heap.push { cls := .type "range", data := .fields #[.int lo t, .int hi u, .int 1 v] }).objs.size], _, _, H, rfl,
    I1.kept (t' := tk) fun b o e => Heap.get?_push_of_some _ e, turn_range _ lo (hi - lo).toNat, ?_, fun b hb => ?_, q⟩
  · have e1 : lo + ((0 : Nat) : Int) * 1 = lo := by simp
    have e2 : (((hi - lo).toNat : Nat) : Int) - ((0 : Nat) : Int) = Builtin.Range.rangeSize lo hi 1 := by rw [rangeSize_one]; split <;> omega
    show IsRangeIter _ _ (lo + ((0 : Nat) : Int) * 1) ((((hi - lo).toNat : Nat) : Int) - ((0 : Nat) : Int)) 1
    rw [e1, e2]
    exact Heap.get?_push_size _ rfl
  · have e : b = (s.heap.push { cls := .type "range", data := .fields #[.int lo t, .int hi u, .int 1 v] }).objs.size := by simpa using hb
    subst e
    exact I1.fpOk (Nat.le_refl _) (I1.hok.fresh (Nat.le_refl _))
def iRng1 (ta : TA) : TI := fun σ H R => ta σ H fun vs H1 => ∃ j : Int, vs = [.int j] ∧ -(2 ^ 62) ≤ j ∧ j < 2 ^ 62 ∧ R (Itr 0 j.toNat) H1
def iRng2 (ta : TA) : TI := fun σ H R => ta σ H fun vs H1 => ∃ i j : Int, vs = [.int i, .int j] ∧ (-(2 ^ 62) ≤ i ∧ i < 2 ^ 62 ∧ -(2 ^ 62) ≤ j ∧ j < 2 ^ 62) ∧ R (Itr i (j - i).toNat) H1
theorem pi_range1 {a : Expr} {ta : TA} {p pos : Pos} (hg : Gl X "range") (hm : X.mg "range" = none) (ha : PA X [a] ta) (hs : starEach [a] X.env = [(false, eval a X.env)] := by rfl) : PI X tg (.Call (.Name "range" p) [a] [] pos) (iRng1 ta) := by
  intro pins s σ H R I h
  refine Call_ (ld_blt I hg hm boot_range (PyProof.Rows.callWith_type1 (thn (ha pos pins s σ H _ I h) fun us s1 ⟨vs, H1, I1, r1, q1⟩ => ?_) hs rfl))
  obtain ⟨j, e, q1, q2, q⟩ := q1
  subst e
  cases r1 with
  | cons r rr =>
    cases rr
    obtain ⟨t, rfl⟩ := r
    exact call_range_1 (range_it I1 (by omega) (by omega) q1 q2 (by simpa using q))
theorem pi_range2 {a b : Expr} {ta : TA} {p pos : Pos} (hg : Gl X "range") (hm : X.mg "range" = none) (ha : PA X [a, b] ta) (hs : starEach [a, b] X.env = [(false, eval a X.env), (false, eval b X.env)] := by rfl) (hs2 : starEach [b] X.env = [(false, eval b X.env)] := by rfl) :
    PI X tg (.Call (.Name "range" p) [a, b] [] pos) (iRng2 ta) := by
  intro pins s σ H R I h
  refine Call_ (ld_blt I hg hm boot_range (PyProof.Rows.callWith_type1 (thn (ha pos pins s σ H _ I h) fun us s1 ⟨vs, H1, I1, r1, q1⟩ => ?_) (by rw [hs, hs2]) (by rw [hs2]; rfl)))
  obtain ⟨i, j, e, ⟨q1, q2, q3, q4⟩, q⟩ := q1
  subst e
  cases r1 with
  | cons r rr =>
    cases rr with
    | cons r' rr =>
      cases rr
      obtain ⟨t, rfl⟩ := r
      obtain ⟨t', rfl⟩ := r'
      exact call_range_2 (range_it I1 q1 q2 q3 q4 q)

/-! ### for -/
/-- W: the invariant by the turn and a measure; N: what the body is to reach -/
def tFor (wi : TI) (g : TG) (tb : TS) : TS := fun D σ H => wi σ H fun J H1 => ∃ W : Nat → Nat → St → Hp → Prop, (∃ m, W 0 m σ H1) ∧ ∀ i m σ H, W i m σ H →
  (J.stop i H ∧ D.nx σ H) ∨ (J.go i H ∧ ∃ N : St → Hp → Prop, (∀ σ' H', N σ' H' → ∃ m', m' < m ∧ W (i + 1) m' σ' H') ∧ ∀ x H', J.yld i H x H' → g x σ H' fun σ2 H2 => tb { D with nx := N, ct := N, bk := D.nx } σ2 H2)
/-- the records at fp as they stand -/
def pinsAt (fp : List Addr) (h : Heap) : List (Addr × Obj) := fp.filterMap fun b => (h.get? b).map fun o => (b, o)
theorem mem_pinsAt {fp : List Addr} {h : Heap} {b : Addr} {o : Obj} (hb : b ∈ fp) (e : h.get? b = some o) : (b, o) ∈ pinsAt fp h := List.mem_filterMap.mpr ⟨b, hb, by rw [e]; rfl⟩
theorem of_pinsAt {fp : List Addr} {h : Heap} {p : Addr × Obj} (hp : p ∈ pinsAt fp h) : p.1 ∈ fp ∧ h.get? p.1 = some p.2 := by
  obtain ⟨b, hb, e⟩ := List.mem_filterMap.mp hp
  cases q : h.get? b with
  | none => rw [q] at e; cases e
  | some o =>
    rw [q] at e
    have e' : (b, o) = p := Option.some.inj e
    subst e'
    exact ⟨hb, q⟩
theorem Inv.pinned {pins : List (Addr × Obj)} {σ : St} {H : Hp} {s : Shared} {fp : List Addr} (I : Inv X pins σ H s) (hf : ∀ b ∈ fp, FpOk X pins H b) (ho : ∀ b ∈ fp, ∃ o, s.heap.get? b = some o ∧ ∀ v, o.data ≠ .cell v) : Inv X (pins ++ pinsAt fp s.heap) σ H s :=
  I.pins_of fun p hp => (List.mem_append.mp hp).elim (fun z => I.pin p (List.mem_append_right _ z)) fun z => by
    obtain ⟨hb, e⟩ := of_pinsAt z
    obtain ⟨f0, f1, f2, _⟩ := hf p.1 hb
    obtain ⟨o, e', d⟩ := ho p.1 hb
    rw [e] at e'; cases e'
    exact ⟨e, f0, f1, f2, d⟩
theorem Inv.unpinned {pins pl : List (Addr × Obj)} {σ : St} {H : Hp} {s : Shared} (I : Inv X (pins ++ pl) σ H s) : Inv X pins σ H s := I.pins_of fun p hp => I.pin p (List.mem_append_right _ (List.mem_append_left _ hp))
theorem ps_for {iter : Expr} {body : List Stmt} {wi : TI} {g : TG} {tb : TS} {pos : Pos} (hp : PassesOwn (model X.prog X.w) X.A X.env X.xe) (hc : X.calm = true) (hi : PI X tg iter wi) (hg : PG X tg g) (hb : PSs X body tb)
    (hs : ∀ x, foldedSetIterable iter X.env x = pure x := by intro _; rfl) : PS X (.For tg iter body [] pos) (tFor wi g tb) := by
  intro pins s σ H D I h
  refine wpAny_For (thn (hi pins s σ H _ I h) fun v s1 h1 => thn h1 fun itv s2 h2 => ?_) hs
  obtain ⟨it, fp, tn, J, H2, e, I2, T, st2, f2, W, ⟨m0, w0⟩, turn⟩ := h2
  subst e
  -- what stays true of the iterator's objects through the loop
  have stat : ∀ {H' : Hp}, (∀ b ∈ fp, H' b = none) → ∀ b ∈ fp, FpOk X pins H' b := fun hn b hb => ⟨hn b hb, (f2 b hb).2⟩
  refine codeAny_forLoop_any (fun n s' => ∃ i σ' H', Inv X pins σ' H' s' ∧ tn i s'.heap ∧ (∀ b ∈ fp, H' b = none) ∧ W i n σ' H') ?_ m0 ⟨0, σ, H2, I2, st2, fun b hb => (f2 b hb).1, w0⟩
  rintro n s3 ⟨i, σ3, H3, I3, st3, fr3, w3⟩
  rcases turn i n σ3 H3 w3 with ⟨stop, qn⟩ | ⟨go, N, hN, step⟩
  · refine wpAny_passesOwn hp (thn (T.done X rfl rfl rfl hc i pins s3 σ3 H3 X.xe I3 (stat fr3) st3 stop) fun r s4 ⟨hr, I4⟩ => ?_)
    subst hr
    exact wpAny_execs_nil ⟨σ3, H3, I4, qn⟩
  · refine wpAny_passesOwn hp (thn (T.item X rfl rfl rfl hc i pins s3 σ3 H3 X.xe I3 (stat fr3) st3 go) fun r s4 ⟨u, hr, h4⟩ => ?_)
    subst hr
    refine wpAny_passesOwn hp (thn h4 fun _ s5 ⟨x, H5, I5, r5, y5, st5, fr5⟩ => ?_)
    have I5' := I5.pinned (stat fr5) (T.obj _ _ st5)
    refine wpAny_passesOwn hp (thn (hg _ s5 σ3 H5 x u _ I5' r5 (step x H5 y5)) fun _ s6 ⟨σ6, H6, I6, q6⟩ => ?_)
    refine wpAny_passesOwn hp (thn (hb _ s6 σ6 H6 _ I6 q6) fun f s7 q7 => ?_)
    have again : ∀ {σ7 : St} {H7 : Hp}, Inv X (pins ++ pinsAt fp s5.heap) σ7 H7 s7 → N σ7 H7 → ∃ m, m < n ∧ ∃ i σ' H', Inv X pins σ' H' s7 ∧ tn i s7.heap ∧ (∀ b ∈ fp, H' b = none) ∧ W i m σ' H' := fun {σ7 H7} I7 n7 => by
      obtain ⟨m', hm, w7⟩ := hN σ7 H7 n7
      refine ⟨m', hm, i + 1, σ7, H7, I7.unpinned, T.keep _ _ _ st5 fun b hb o e => (I7.pin (b, o) (List.mem_append_right _ (List.mem_append_right _ (mem_pinsAt hb e)))).1, fun b hb => ?_, w7⟩
      obtain ⟨o, e, d⟩ := T.obj _ _ st5 b hb
      exact (I7.pin (b, o) (List.mem_append_right _ (List.mem_append_right _ (mem_pinsAt hb e)))).2.1
    cases f with
    | next => obtain ⟨σ7, H7, I7, n7⟩ := q7; exact again I7 n7
    | cont => obtain ⟨σ7, H7, I7, n7⟩ := q7; exact again I7 n7
    | brk => obtain ⟨σ7, H7, I7, q7⟩ := q7; exact ⟨σ7, H7, I7.unpinned, q7⟩
    | ret v => obtain ⟨x7, σ7, H7, I7, r7, q7⟩ := q7; exact ⟨x7, σ7, H7, I7.unpinned, r7, q7⟩
end

/-! ### the forms one uses -/
/-- over a list that the body leaves as it is -/
theorem for_list {K : PySem.W.Frag} {a : Addr} {xs : List V} {g : TG} {tb : TS} {D : Ends} {σ : St} {H : Hp} (Pv : Nat → St → Hp → Prop) (h0 : Pv 0 σ H) (hl : ∀ i σ H, i ≤ xs.length → Pv i σ H → SqL K H a xs)
    (hs : ∀ i x σ H, xs[i]? = some x → Pv i σ H → g x σ H fun σ2 H2 => tb { D with nx := Pv (i + 1), ct := Pv (i + 1), bk := D.nx } σ2 H2) (hd : ∀ σ H, Pv xs.length σ H → D.nx σ H) :
    ∃ W : Nat → Nat → St → Hp → Prop, (∃ m, W 0 m σ H) ∧ ∀ i m σ H, W i m σ H →
      ((Itl K a).stop i H ∧ D.nx σ H) ∨ ((Itl K a).go i H ∧ ∃ N : St → Hp → Prop, (∀ σ' H', N σ' H' → ∃ m', m' < m ∧ W (i + 1) m' σ' H') ∧ ∀ x H', (Itl K a).yld i H x H' → g x σ H' fun σ2 H2 => tb { D with nx := N, ct := N, bk := D.nx } σ2 H2) := by
  refine ⟨fun i m σ H => m = xs.length - i ∧ i ≤ xs.length ∧ Pv i σ H, ⟨xs.length, by simp, Nat.zero_le _, h0⟩, ?_⟩
  rintro i m σ H ⟨rfl, hi, p⟩
  have q := hl i σ H hi p
  by_cases hlt : i < xs.length
  · refine .inr ⟨⟨xs, xs[i], q, by simp [hlt]⟩, Pv (i + 1), fun σ' H' p' => ⟨xs.length - (i + 1), by omega, rfl, hlt, p'⟩, fun x H' y => ?_⟩
    obtain ⟨e, y⟩ := y
    subst e
    exact hs i x σ _ (y xs q) p
  · have e : i = xs.length := by omega
    subst e
    exact .inl ⟨⟨xs, q, Nat.le_refl _⟩, hd σ H p⟩
theorem for_tup {K : PySem.W.Frag} {a : Addr} {xs : List V} {g : TG} {tb : TS} {D : Ends} {σ : St} {H : Hp} (Pv : Nat → St → Hp → Prop) (h0 : Pv 0 σ H) (hl : ∀ i σ H, i ≤ xs.length → Pv i σ H → SqT K H a xs)
    (hs : ∀ i x σ H, xs[i]? = some x → Pv i σ H → g x σ H fun σ2 H2 => tb { D with nx := Pv (i + 1), ct := Pv (i + 1), bk := D.nx } σ2 H2) (hd : ∀ σ H, Pv xs.length σ H → D.nx σ H) :
    ∃ W : Nat → Nat → St → Hp → Prop, (∃ m, W 0 m σ H) ∧ ∀ i m σ H, W i m σ H →
      ((Itt K a).stop i H ∧ D.nx σ H) ∨ ((Itt K a).go i H ∧ ∃ N : St → Hp → Prop, (∀ σ' H', N σ' H' → ∃ m', m' < m ∧ W (i + 1) m' σ' H') ∧ ∀ x H', (Itt K a).yld i H x H' → g x σ H' fun σ2 H2 => tb { D with nx := N, ct := N, bk := D.nx } σ2 H2) := by
  refine ⟨fun i m σ H => m = xs.length - i ∧ i ≤ xs.length ∧ Pv i σ H, ⟨xs.length, by simp, Nat.zero_le _, h0⟩, ?_⟩
  rintro i m σ H ⟨rfl, hi, p⟩
  have q := hl i σ H hi p
  by_cases hlt : i < xs.length
  · refine .inr ⟨⟨xs, xs[i], q, by simp [hlt]⟩, Pv (i + 1), fun σ' H' p' => ⟨xs.length - (i + 1), by omega, rfl, hlt, p'⟩, fun x H' y => ?_⟩
    obtain ⟨e, y⟩ := y
    subst e
    exact hs i x σ _ (y xs q) p
  · have e : i = xs.length := by omega
    subst e
    exact .inl ⟨⟨xs, q, Nat.le_refl _⟩, hd σ H p⟩
theorem for_range {lo : Int} {n : Nat} {g : TG} {tb : TS} {D : Ends} {σ : St} {H : Hp} (Pv : Nat → St → Hp → Prop) (h0 : Pv 0 σ H)
    (hs : ∀ i σ H, i < n → Pv i σ H → g (.int (lo + i)) σ H fun σ2 H2 => tb { D with nx := Pv (i + 1), ct := Pv (i + 1), bk := D.nx } σ2 H2) (hd : ∀ σ H, Pv n σ H → D.nx σ H) :
    ∃ W : Nat → Nat → St → Hp → Prop, (∃ m, W 0 m σ H) ∧ ∀ i m σ H, W i m σ H →
      ((Itr lo n).stop i H ∧ D.nx σ H) ∨ ((Itr lo n).go i H ∧ ∃ N : St → Hp → Prop, (∀ σ' H', N σ' H' → ∃ m', m' < m ∧ W (i + 1) m' σ' H') ∧ ∀ x H', (Itr lo n).yld i H x H' → g x σ H' fun σ2 H2 => tb { D with nx := N, ct := N, bk := D.nx } σ2 H2) := by
  refine ⟨fun i m σ H => m = n - i ∧ i ≤ n ∧ Pv i σ H, ⟨n, by simp, Nat.zero_le _, h0⟩, ?_⟩
  rintro i m σ H ⟨rfl, hi, p⟩
  by_cases hlt : i < n
  · refine .inr ⟨hlt, Pv (i + 1), fun σ' H' p' => ⟨n - (i + 1), by omega, rfl, hlt, p'⟩, fun x H' y => ?_⟩
    obtain ⟨e, y⟩ := y
    subst e y
    exact hs i σ _ hlt p
  · have e : i = n := by omega
    subst e
    exact .inl ⟨Nat.le_refl _, hd σ H p⟩
end L2

namespace L2
open PySem PySem.Spec PyProof.Rows

abbrev R2 := V → V → Hp → VK → Prop
/-- a two-place operation on values: f is binaryOp op, inplaceOp op or compareOp op -/
def OpR (X : Cx) (f : Value → Value → Sem Value) (r : R2) : Prop :=
  ∀ (pins : List (Addr × Obj)) (s : Shared) (σ : St) (H : Hp) (x y : V) (v u : Value) (Q : VK), Inv X pins σ H s → RelV x v → RelV y u → r x y H Q →
    wpAny (model X.prog X.w) X.A (f v u) (EP X pins σ Q) X.xe s
/-- a one-place operation -/
def UnR (X : Cx) (f : Value → Sem Value) (r : V → Hp → VK → Prop) : Prop :=
  ∀ (pins : List (Addr × Obj)) (s : Shared) (σ : St) (H : Hp) (x : V) (v : Value) (Q : VK), Inv X pins σ H s → RelV x v → r x H Q →
    wpAny (model X.prog X.w) X.A (f v) (EP X pins σ Q) X.xe s
/-- a call of a value that is known (a builtin, a type) with values -/
def CallR (X : Cx) (f : Value) (r : List V → Hp → VK → Prop) : Prop :=
  ∀ (pins : List (Addr × Obj)) (s : Shared) (σ : St) (H : Hp) (xs : List V) (us : List Value) (Q : VK), Inv X pins σ H s → Vals xs us → r xs H Q →
    wpAny (model X.prog X.w) X.A (call f us) (EP X pins σ Q) X.xe s
/-- a value's truth -/
def TruR (X : Cx) (r : V → Hp → (Bool → Hp → Prop) → Prop) : Prop :=
  ∀ (pins : List (Addr × Obj)) (s : Shared) (σ : St) (H : Hp) (x : V) (v : Value) (Q : Bool → Hp → Prop), Inv X pins σ H s → RelV x v → r x H Q →
    wpAny (model X.prog X.w) X.A (truthy v) (TP X pins σ Q) X.xe s

def tOp (r : R2) (ta tb : TE) : TE := fun σ H Q => ta σ H fun x H1 => tb σ H1 fun y H2 => r x y H2 Q
def tUn (r : V → Hp → VK → Prop) (ta : TE) : TE := fun σ H Q => ta σ H fun x H1 => r x H1 Q
/-- ints in, under C, and a value out -/
def rI (C : Int → Int → Prop) (g : Int → Int → V) : R2 := fun x y H Q => ∃ i j, x = .int i ∧ y = .int j ∧ C i j ∧ Q (g i j) H
def rI0 (g : Int → Int → V) : R2 := fun x y H Q => ∃ i j, x = .int i ∧ y = .int j ∧ Q (g i j) H
def rU (g : Int → V) : V → Hp → VK → Prop := fun x H Q => ∃ i, x = .int i ∧ Q (g i) H

section
variable {X : Cx} {a b c : Expr} {ta tb tc : TE} {pos : Pos}

theorem binT (ha : PE X a ta) (hb : PE X b tb) {pins : List (Addr × Obj)} {s : Shared} {σ : St} {H : Hp} {R : V → V → Hp → Prop} (I : Inv X pins σ H s)
    (h : ta σ H fun x H1 => tb σ H1 fun y H2 => R x y H2) {Q : Value → Shared → Prop} {f : Value → Value → Sem Value}
    (hf : ∀ v u s2 x y H2, Inv X pins σ H2 s2 → RelV x v → RelV y u → R x y H2 → wpAny (model X.prog X.w) X.A (f v u) Q X.xe s2) :
    wpAny (model X.prog X.w) X.A (eval a X.env) (fun v s₁ => wpAny (model X.prog X.w) X.A (eval b X.env) (fun u s₂ => wpAny (model X.prog X.w) X.A (f v u) Q X.xe s₂) X.xe s₁) X.xe s := by
  refine thn (ha pins s σ H _ I h) fun v s1 ⟨x, H1, I1, r1, q1⟩ => ?_
  refine thn (hb pins s1 σ H1 _ I1 q1) fun u s2 ⟨y, H2, I2, r2, q2⟩ => ?_
  exact hf v u s2 x y H2 I2 r1 r2 q2

theorem pe_op {op : Operator} {r : R2} (ho : OpR X (binaryOp op) r) (ha : PE X a ta) (hb : PE X b tb) : PE X (.BinOp a op b pos) (tOp r ta tb) := by
  intro pins s σ H Q I h
  exact wpAny_BinOp (binT ha hb I h fun v u s2 x y H2 I2 rx ry q => ho pins s2 σ H2 x y v u Q I2 rx ry q)
/-! ### ints -/
theorem opI {f : Value → Value → Sem Value} {C : Int → Int → Prop} {g : Int → Int → Int}
    (rule : ∀ (i j : Int) (t u : Tok) (s : Shared) (Q : Value → Shared → Prop) (E : Value → Shared → Prop), C i j → Q (.int (g i j) s.toks) { s with toks := s.toks + 1 } → wpAny (model X.prog X.w) X.A (f (.int i t) (.int j u)) Q E s) :
    OpR X f (rI C fun i j => .int (g i j)) := by
  intro pins s σ H x y v u Q I rx ry h
  obtain ⟨i, j, rfl, rfl, hc, q⟩ := h
  obtain ⟨t, rfl⟩ := rx
  obtain ⟨t', rfl⟩ := ry
  exact rule i j t t' s _ _ hc ⟨.int (g i j), H, I.tok _, ⟨_, rfl⟩, q⟩
theorem opI0 {f : Value → Value → Sem Value} {g : Int → Int → Int}
    (rule : ∀ (i j : Int) (t u : Tok) (s : Shared) (Q : Value → Shared → Prop) (E : Value → Shared → Prop), Q (.int (g i j) s.toks) { s with toks := s.toks + 1 } → wpAny (model X.prog X.w) X.A (f (.int i t) (.int j u)) Q E s) :
    OpR X f (rI0 fun i j => .int (g i j)) := by
  intro pins s σ H x y v u Q I rx ry h
  obtain ⟨i, j, rfl, rfl, q⟩ := h
  obtain ⟨t, rfl⟩ := rx
  obtain ⟨t', rfl⟩ := ry
  exact rule i j t t' s _ _ ⟨.int (g i j), H, I.tok _, ⟨_, rfl⟩, q⟩
theorem opB0 {f : Value → Value → Sem Value} {g : Int → Int → Bool}
    (rule : ∀ (i j : Int) (t u : Tok) (s : Shared) (Q : Value → Shared → Prop) (E : Value → Shared → Prop), Q (.bool (g i j)) s → wpAny (model X.prog X.w) X.A (f (.int i t) (.int j u)) Q E s) :
    OpR X f (rI0 fun i j => .bl (g i j)) := by
  intro pins s σ H x y v u Q I rx ry h
  obtain ⟨i, j, rfl, rfl, q⟩ := h
  obtain ⟨t, rfl⟩ := rx
  obtain ⟨t', rfl⟩ := ry
  exact rule i j t t' s _ _ ⟨.bl (g i j), H, I, rfl, q⟩

def CDiv (i j : Int) : Prop := 0 < j ∧ j < 1073741824
def CDivN (i j : Int) : Prop := j ≠ 0 ∧ j.natAbs < 1073741824
def CPow (i j : Int) : Prop := 0 ≤ j ∧ j ≤ 1000000 ∧ i.natAbs < 2 ^ 64
def CMul (i j : Int) : Prop := (-(2 ^ 64) < i ∧ i < 2 ^ 64) ∨ (-(2 ^ 64) < j ∧ j < 2 ^ 64)
theorem op_add : OpR X (binaryOp .Add) (rI0 fun i j => .int (i + j)) := opI0 fun _ _ _ _ _ _ _ q => add_int q
theorem op_sub : OpR X (binaryOp .Sub) (rI0 fun i j => .int (i - j)) := opI0 fun _ _ _ _ _ _ _ q => sub_int q
/-- // by a positive divisor -/
theorem op_fdiv : OpR X (binaryOp .FloorDiv) (rI CDiv fun i j => .int (i / j)) := opI fun i j _ _ _ _ _ hc q => by
  have h1 : (0 : Int) < j := hc.1
  have h2 : j < 1073741824 := hc.2
  exact floordiv_int (by omega) (by rw [Int.fdiv_eq_ediv_of_nonneg i (by omega)]; exact q) (.inl (PyProof.noPylong_small (by omega)))
/-- % by a positive divisor of any size -/
theorem op_mod : OpR X (binaryOp .Mod) (rI (fun _ j => 0 < j) fun i j => .int (i % j)) := opI fun i j _ _ _ _ _ hc q => by
  have h1 : (0 : Int) < j := hc
  exact mod_int' (by omega) (by rw [Int.fmod_eq_emod_of_nonneg i (by omega)]; exact q)
/-! ### bools among ints: n += (a < b) -/
end

/-! ### comparisons -/
/-- the scalars that == tells apart as data does -/
def scal : V → V → Bool
  | .non, .non => true | .non, .int _ => true | .int _, .non => true | .non, .bl _ => true | .bl _, .non => true | .non, .str _ => true | .str _, .non => true
  | .int _, .int _ => true | .bl _, .bl _ => true | .str _, .str _ => true | .byt _, .byt _ => true
  | .int _, .str _ => true | .str _, .int _ => true | .bl _, .str _ => true | .str _, .bl _ => true
  | _, _ => false
def rEq : R2 := fun x y H Q => scal x y = true ∧ Q (.bl (decide (x = y))) H
def rNe : R2 := fun x y H Q => scal x y = true ∧ Q (.bl (!decide (x = y))) H

theorem dec_int {i j : Int} : decide (V.int i = V.int j) = (i == j) := by
  rw [Bool.eq_iff_iff]
  simp
theorem dec_bl {i j : Bool} : decide (V.bl i = V.bl j) = (i == j) := by
  rw [Bool.eq_iff_iff]
  simp
theorem dec_str {i j : Str} : decide (V.str i = V.str j) = (i == j) := by
  rw [Bool.eq_iff_iff]
  simp
theorem dec_byt {i j : Array UInt8} : decide (V.byt i = V.byt j) = (i.toList == j.toList) := by
  rw [Bool.eq_iff_iff]
  cases i
  cases j
  simp

section
variable {X : Cx} {a b c : Expr} {ta tb tc : TE} {pos : Pos}
theorem fin_bl {pins : List (Addr × Obj)} {σ : St} {H : Hp} {s : Shared} {Q : VK} {k k' : Bool} (I : Inv X pins σ H s) (q : Q (.bl k) H) (e : k = k') : EP X pins σ Q (.bool k') s := by
  subst e
  exact ⟨.bl k, H, I, rfl, q⟩
theorem op_eq : OpR X (compareOp .Eq) rEq := by
  intro pins s σ H x y v u Q I rx ry h
  obtain ⟨hs, q⟩ := h
  cases x with
  | non =>
    cases rx
    cases y with
    | non => cases ry; exact PySem.EqNone.eq_none_none (fin_bl I q (by simp))
    | bl j => cases ry; exact PySem.EqNone.eq_none_bool (fin_bl I q (by simp))
    | int j => obtain ⟨t', rfl⟩ := ry; exact PySem.EqNone.eq_none_int (fin_bl I q (by simp))
    | str j => obtain ⟨t', rfl⟩ := ry; exact PySem.EqNone.eq_none_str (fin_bl I q (by simp))
    | _ => exact absurd (show false = true from hs) Bool.false_ne_true
  | bl i =>
    cases rx
    cases y with
    | non => cases ry; exact PySem.EqNone.eq_bool_none (fin_bl I q (by simp))
    | bl j => cases ry; exact eq_bool (fin_bl I q dec_bl)
    | str j => obtain ⟨t', rfl⟩ := ry; exact PySem.EqMixed.eq_bool_str (fin_bl I q (by simp))
    | _ => exact absurd (show false = true from hs) Bool.false_ne_true
  | int i =>
    obtain ⟨t, rfl⟩ := rx
    cases y with
    | non => cases ry; exact PySem.EqNone.eq_int_none (fin_bl I q (by simp))
    | int j => obtain ⟨t', rfl⟩ := ry; exact eq_int (fin_bl I q dec_int)
    | str j => obtain ⟨t', rfl⟩ := ry; exact PySem.EqMixed.eq_int_str (fin_bl I q (by simp))
    | _ => exact absurd (show false = true from hs) Bool.false_ne_true
  | str i =>
    obtain ⟨t, rfl⟩ := rx
    cases y with
    | non => cases ry; exact PySem.EqNone.eq_str_none (fin_bl I q (by simp))
    | bl j => cases ry; exact PySem.EqMixed.eq_str_bool (fin_bl I q (by simp))
    | int j => obtain ⟨t', rfl⟩ := ry; exact PySem.EqMixed.eq_str_int (fin_bl I q (by simp))
    | str j => obtain ⟨t', rfl⟩ := ry; exact eq_str (fin_bl I q dec_str)
    | _ => exact absurd (show false = true from hs) Bool.false_ne_true
  | byt i =>
    obtain ⟨t, rfl⟩ := rx
    cases y with
    | byt j => obtain ⟨t', rfl⟩ := ry; exact PySem.W.eq_bytes (fin_bl I q dec_byt)
    | _ => exact absurd (show false = true from hs) Bool.false_ne_true
  | _ => cases y <;> exact absurd (show false = true from hs) Bool.false_ne_true
theorem op_ne : OpR X (compareOp .NotEq) rNe := by
  intro pins s σ H x y v u Q I rx ry h
  obtain ⟨hs, q⟩ := h
  cases x with
  | non =>
    cases rx
    cases y with
    | non => cases ry; exact PySem.EqNone.ne_none_none (fin_bl I q (by simp))
    | bl j => cases ry; exact PySem.EqNone.ne_none_bool (fin_bl I q (by simp))
    | int j => obtain ⟨t', rfl⟩ := ry; exact PySem.EqNone.ne_none_int (fin_bl I q (by simp))
    | str j => obtain ⟨t', rfl⟩ := ry; exact PySem.EqNone.ne_none_str (fin_bl I q (by simp))
    | _ => exact absurd (show false = true from hs) Bool.false_ne_true
  | bl i =>
    cases rx
    cases y with
    | non => cases ry; exact PySem.EqNone.ne_bool_none (fin_bl I q (by simp))
    | bl j => cases ry; exact ne_bool (fin_bl I q (congrArg not dec_bl))
    | str j => obtain ⟨t', rfl⟩ := ry; exact PySem.EqMixed.ne_bool_str (fin_bl I q (by simp))
    | _ => exact absurd (show false = true from hs) Bool.false_ne_true
  | int i =>
    obtain ⟨t, rfl⟩ := rx
    cases y with
    | non => cases ry; exact PySem.EqNone.ne_int_none (fin_bl I q (by simp))
    | int j => obtain ⟨t', rfl⟩ := ry; exact ne_int (fin_bl I q (congrArg not dec_int))
    | str j => obtain ⟨t', rfl⟩ := ry; exact PySem.EqMixed.ne_int_str (fin_bl I q (by simp))
    | _ => exact absurd (show false = true from hs) Bool.false_ne_true
  | str i =>
    obtain ⟨t, rfl⟩ := rx
    cases y with
    | non => cases ry; exact PySem.EqNone.ne_str_none (fin_bl I q (by simp))
    | bl j => cases ry; exact PySem.EqMixed.ne_str_bool (fin_bl I q (by simp))
    | int j => obtain ⟨t', rfl⟩ := ry; exact PySem.EqMixed.ne_str_int (fin_bl I q (by simp))
    | str j => obtain ⟨t', rfl⟩ := ry; exact ne_str (fin_bl I q (congrArg not dec_str))
    | _ => exact absurd (show false = true from hs) Bool.false_ne_true
  | byt i =>
    obtain ⟨t, rfl⟩ := rx
    cases y with
    | byt j => obtain ⟨t', rfl⟩ := ry; exact PySem.W.ne_bytes (fin_bl I q (congrArg not dec_byt))
    | _ => exact absurd (show false = true from hs) Bool.false_ne_true
  | _ => cases y <;> exact absurd (show false = true from hs) Bool.false_ne_true

theorem op_le : OpR X (compareOp .LtE) (rI0 fun i j => .bl (decide (i ≤ j))) := opB0 fun _ _ _ _ _ _ _ q => le_int q
theorem op_gt : OpR X (compareOp .Gt) (rI0 fun i j => .bl (decide (j < i))) := opB0 fun _ _ _ _ _ _ _ q => gt_int q
/-- is, is not of two objects that are tracked lists or instances -/
def isObj : HO → Bool
  | .lst _ => true
  | .ins _ _ _ => true
  | _ => false
theorem nomark (b : Expr) {op : CmpOp} (h : op ≠ .In := by decide) (h2 : op ≠ .NotIn := by decide) : behindInMarks op b = false := by
  have e1 : (op == CmpOp.In) = false := by cases op <;> first | rfl | exact absurd rfl h
  have e2 : (op == CmpOp.NotIn) = false := by cases op <;> first | rfl | exact absurd rfl h2
  cases b <;> simp [behindInMarks, e1, e2]
/-- a comparison as a value; hm: nomark b, or (for in, not in) by with_unfolding_all rfl -/
theorem pe_cmpR {op : CmpOp} {r : R2} (ho : OpR X (compareOp op) r) (ha : PE X a ta) (hb : PE X b tb) (hm : behindInMarks op b = false) : PE X (.Compare a [op] [b] pos) (tOp r ta tb) := by
  intro pins s σ H Q I h
  exact wpAny_Compare1 (binT ha hb I h fun v u s2 x y H2 I2 rx ry q => ho pins s2 σ H2 x y v u Q I2 rx ry q) hm
/-- a reading of a value as a test -/
def tTest (t : TE) : TT := fun σ H Q => t σ H fun x H' => ∃ k, x = .bl k ∧ Q k H'
theorem pt_cmpR {op : CmpOp} {r : R2} (ho : OpR X (compareOp op) r) (ha : PE X a ta) (hb : PE X b tb) (hm : behindInMarks op b = false) : PT X (.Compare a [op] [b] pos) (tTest (tOp r ta tb)) := by
  intro pins s σ H Q I h
  refine wpAny_isTrue_Compare1 (thn (ha pins s σ H _ I h) fun v s1 ⟨x, H1, I1, r1, q1⟩ => thn (hb pins s1 σ H1 _ I1 q1) fun u s2 ⟨y, H2, I2, r2, q2⟩ =>
    thn (ho pins s2 σ H2 x y v u _ I2 r1 r2 q2) fun c s3 ⟨z, H3, I3, r3, k, e, q3⟩ => ?_) hm
  subst e
  cases r3
  exact wpAny_truthy_bool ⟨H3, I3, q3⟩
/-- a op1 b op2 c -/
def tChain (r r' : R2) (ta tb tc : TE) : TE := fun σ H Q => ta σ H fun x H1 => tb σ H1 fun y H2 => r x y H2 fun z H3 => ∃ k, z = .bl k ∧
  (if k = true then tc σ H3 fun w' H4 => r' y w' H4 Q else Q (.bl false) H3)
theorem pe_chain {op op' : CmpOp} {r r' : R2} (ho : OpR X (compareOp op) r) (ho' : OpR X (compareOp op') r') (ha : PE X a ta) (hb : PE X b tb) (hc : PE X c tc)
    (hm : lastMarks [op, op'] [b, c] = false := by with_unfolding_all rfl) : PE X (.Compare a [op, op'] [b, c] pos) (tChain r r' ta tb tc) := by
  intro pins s σ H Q I h
  refine Compare_chain (thn (ha pins s σ H _ I h) fun v s1 ⟨x, H1, I1, r1, q1⟩ => chain_link (thn (hb pins s1 σ H1 _ I1 q1) fun u s2 ⟨y, H2, I2, r2, q2⟩ =>
    thn (ho pins s2 σ H2 x y v u _ I2 r1 r2 q2) fun d s3 ⟨z, H3, I3, r3, k, e, q3⟩ => ?_)) hm
  subst e
  cases r3
  refine wpAny_truthy_bool ?_
  cases k with
  | false => exact ite_ff ⟨.bl false, H3, I3, rfl, q3⟩
  | true => exact ite_tt (chain_last (thn (hc pins s3 σ H3 _ I3 q3) fun w' s4 ⟨z', H4, I4, r4, q4⟩ => ho' pins s4 σ H4 y z' u w' Q I4 r2 r4 q4))
/-! ### truth -/
/-- a value's truth by the abstract heap -/
def TruV (K : PySem.W.Frag) (x : V) (H : Hp) (k : Bool) : Prop :=
  match x with
  | .non => k = false
  | .bl b => k = b
  | .int i => k = (i != 0)
  | .str y => y.length ≤ sizeLine ∧ k = ((y.length : Int) != 0)
  | .byt y => y.size ≤ sizeLine ∧ k = ((y.size : Int) != 0)
  | .ref p => (∃ xs, SqL K H p xs ∧ k = !xs.isEmpty) ∨ (∃ xs, SqT K H p xs ∧ k = !xs.isEmpty) ∨ ∃ kvs, H p = some (.dK kvs) ∧ k = !kvs.isEmpty
  | _ => False
theorem line63 : (sizeLine : Nat) < 2 ^ 63 := by rw [sizeLine_eq]; decide
/-! ### strs and bytes -/
def PlainIxT (b : Expr) : Prop := ∀ o i, subscripted b false o i = operate [o, i] (getItem o i)
/-! ### scalar builtins, by CallR -/
theorem vals1 {x : V} {us : List Value} (r : Vals [x] us) : ∃ u, us = [u] ∧ RelV x u := by
  cases r with
  | cons r1 r2 => cases r2; exact ⟨_, rfl, r1⟩
theorem vals2 {x y : V} {us : List Value} (r : Vals [x, y] us) : ∃ u w', us = [u, w'] ∧ RelV x u ∧ RelV y w' := by
  cases r with
  | cons r1 r2 =>
    cases r2 with
    | cons r3 r4 => cases r4; exact ⟨_, _, rfl, r1, r3⟩
theorem call_max2 (hc : X.calm = true) : CallR X (.builtin "max") (fun xs H Q => ∃ i j, xs = [.int i, .int j] ∧ Q (.int (if j > i then j else i)) H) := by
  intro pins s σ H xs us Q I r h
  obtain ⟨i, j, rfl, q⟩ := h
  obtain ⟨u, w', rfl, ⟨t, rfl⟩, ⟨t', rfl⟩⟩ := vals2 r
  refine max_two_ints (I.ok.hd hc) fun h' tk k => ⟨_, H, I.kept k, ?_, q⟩
  by_cases hj : j > i
  · rw [if_pos hj, if_pos hj]; exact ⟨_, rfl⟩
  · rw [if_neg hj, if_neg hj]; exact ⟨_, rfl⟩
theorem call_min2 (hc : X.calm = true) : CallR X (.builtin "min") (fun xs H Q => ∃ i j, xs = [.int i, .int j] ∧ Q (.int (if j < i then j else i)) H) := by
  intro pins s σ H xs us Q I r h
  obtain ⟨i, j, rfl, q⟩ := h
  obtain ⟨u, w', rfl, ⟨t, rfl⟩, ⟨t', rfl⟩⟩ := vals2 r
  refine min_two_ints (I.ok.hd hc) fun h' tk k => ⟨_, H, I.kept k, ?_, q⟩
  by_cases hj : j < i
  · rw [if_pos hj, if_pos hj]; exact ⟨_, rfl⟩
  · rw [if_neg hj, if_neg hj]; exact ⟨_, rfl⟩
/-- len of a str, a bytes, a list, a tuple -/
def LenV (K : PySem.W.Frag) (x : V) (H : Hp) (n : Nat) : Prop :=
  match x with
  | .str y => y.length ≤ sizeLine ∧ n = y.length
  | .byt y => y.size ≤ sizeLine ∧ n = y.size
  | .ref p => (∃ xs, SqL K H p xs ∧ n = xs.length) ∨ ∃ xs, SqT K H p xs ∧ n = xs.length
  | _ => False
end
end L2

namespace L2
open PySem PySem.Spec PyProof.Rows

/-! ### an instance, its attributes a map -/
structure ObjM (h : Heap) (x dx C : Addr) (mA : Str → Option Value) : Prop where
  obj : h.get? x = some (PySem.W.instObj C dx)
  ns : h.Ns1 dx mA
  ne : dx ≠ x

theorem lookIn_ns {h : Heap} {dx : Addr} {mA : Str → Option Value} (n : h.Ns1 dx mA) : ∃ od, h.get? dx = some od ∧ ∀ name, PySem.W.lookIn name od = some (mA name) := by
  obtain ⟨o, es, ep, ho, hd, hk, _, hm⟩ := n
  refine ⟨o, ho, fun name => ?_⟩
  have e := hm name
  unfold nsFind findBy at e
  rw [← Array.find?_toList] at e
  unfold PySem.W.lookIn
  rw [hd]
  dsimp only
  split
  · rename_i y q
    rw [q] at e
    exact congrArg some e
  · rename_i q
    rw [q] at e
    have a : es.toList.any (·.refKey) = false := by
      rw [List.any_eq_false]
      intro y hy
      obtain ⟨z, t, hkey⟩ := hk y (Array.mem_toList_iff.mp hy)
      simp [DictEntry.refKey, hkey]
    have a' : ¬ es.toList.any (·.refKey) = true := by rw [a]; exact Bool.false_ne_true
    rw [if_neg a']
    exact congrArg some e

theorem ObjM.look {h : Heap} {x dx C : Addr} {mA : Str → Option Value} (I : ObjM h x dx C mA) : ∃ od, PySem.W.InstAt h x (PySem.W.instObj C dx) C (some od) ∧ ∀ name, PySem.W.lookIn name od = some (mA name) :=
  let ⟨od, ho, hl⟩ := lookIn_ns I.ns
  ⟨od, ⟨I.obj, rfl, rfl, ho⟩, hl⟩

section
variable {prog : Program} {w : World} {A : Around} {E : Value → Shared → Prop} {s : Shared} {K : PySem.W.Frag} {x dx C f : Addr} {mA : Str → Option Value} {name : Str} {v : Value}

end

/-! ### the attributes as a list of pairs -/
def putF (f : Str) (v : V) : List (Str × V) → List (Str × V)
  | [] => [(f, v)]
  | (g, x) :: r => if g = f then (g, v) :: r else (g, x) :: putF f v r
section
variable {P : Program} {w : World} {H H' : Hp} {h h' : Heap} {a C dx : Addr} {fs fs' : List (Str × V)}
theorem ins_get (hok : HOk P w H h) (e : H a = some (.ins C dx fs)) : ∃ mA, ObjM h a dx C mA ∧ (∀ f, RelO (fs.lookup f) (mA f)) ∧ PySem.Within mA (fs.map (·.1)) ∧ fs.length ≤ 1000 ∧ H dx = some (.own a) := by
  obtain ⟨d, z, ne, ob, mA, n, r, q⟩ := (show ObjOk P w H h a (.ins C dx fs) from hok a _ e)
  exact ⟨mA, ⟨ob, n, ne⟩, r, q, z, d⟩
end

/-! ### what of the text a class must have -/
structure Cls (K : PySem.W.Frag) (C : Addr) : Prop where
  pg : PySem.W.plainGet K C Str.empty = true
  hd : PySem.W.hasDictIn K C = true
  po : PySem.W.plainOver K C = true
  sa : PySem.W.findIn K (.ref C) "__setattr__" = some (some (.builtin "object.__setattr__"))
theorem Cls.get {K : PySem.W.Frag} {C : Addr} (c : Cls K C) (f : Str) : PySem.W.plainGet K C f = true := c.pg
/-- no class of it has the name -/
def NoAttr (K : PySem.W.Frag) (C : Addr) (f : Str) : Prop := PySem.W.findIn K (.ref C) f = some none
/-- a constant of the class -/
structure Con (K : PySem.W.Frag) (C : Addr) (f : Str) (v : V) (u : Value) : Prop where
  at_ : PySem.W.findIn K (.ref C) f = some (some u)
  rel : RelV v u
  get : PySem.W.specialIn K u "__get__" = some none
  cp : PySem.W.copiedNames.contains f = false
/-- a method: a plain def of the class or of one above it -/
structure Meth (K : PySem.W.Frag) (C : Addr) (m : Str) (f : Addr) : Prop where
  at_ : PySem.W.findIn K (.ref C) m = some (some (.ref f))
  fn : PySem.W.isFn K (.ref f) = true
  kp : PySem.W.keepIn K (.ref f) = true

section
variable {X : Cx} {pins : List (Addr × Obj)} {σ : St} {H : Hp} {s : Shared} {a C dx : Addr} {fs : List (Str × V)} {f : Str} {v : V} {A : Around} {E : Value → Shared → Prop}

end

/-! ### readings and rules -/
/-- e.f, an attribute of the instance -/
def tFld (K : PySem.W.Frag) (ta : TE) (f : Str) : TE := fun σ H Q => ta σ H fun x H1 => ∃ a C dx fs v, x = .ref a ∧ H1 a = some (.ins C dx fs) ∧ Cls K C ∧ NoAttr K C f ∧ fs.lookup f = some v ∧ Q v H1
/-- e.f, a constant of the class -/
def tCon (K : PySem.W.Frag) (ta : TE) (f : Str) : TE := fun σ H Q => ta σ H fun x H1 => ∃ a C dx fs v u, x = .ref a ∧ H1 a = some (.ins C dx fs) ∧ Cls K C ∧ Con K C f v u ∧ fs.lookup f = none ∧ Q v H1
/-- e.f = value -/
def sFld (K : PySem.W.Frag) (ta tv : TE) (f : Str) : TS := fun D σ H => tv σ H fun y H1 => ta σ H1 fun x H2 => ∃ a C dx fs, x = .ref a ∧ H2 a = some (.ins C dx fs) ∧ Cls K C ∧ NoAttr K C f ∧ fs.length < 1000 ∧
  D.nx σ (upd H2 a (.ins C dx (putF f y fs)))
/-- an augmented operator on two values -/
def InOp (X : Cx) (op : Operator) (rd : V → V → Hp → VK → Prop) : Prop :=
  ∀ (pins : List (Addr × Obj)) (s : Shared) (σ : St) (H : Hp) (x y : V) (u v : Value) (Q : VK), Inv X pins σ H s → RelV x u → RelV y v → rd x y H Q → wpAny (model X.prog X.w) X.A (inplaceOp op u v) (EP X pins σ Q) X.xe s
/-- e.f op= value -/
def sFldAug (K : PySem.W.Frag) (ta tv : TE) (rd : V → V → Hp → VK → Prop) (f : Str) : TS := fun D σ H => ta σ H fun x H1 => ∃ a C dx fs v, x = .ref a ∧ H1 a = some (.ins C dx fs) ∧ Cls K C ∧ NoAttr K C f ∧ fs.lookup f = some v ∧
  tv σ H1 fun y H2 => rd v y H2 fun z H3 => ∃ dx' fs', H3 a = some (.ins C dx' fs') ∧ fs'.length < 1000 ∧ D.nx σ (upd H3 a (.ins C dx' (putF f z fs')))

section
variable {X : Cx} {o e value : Expr} {f : Str} {pos pos' tpos : Pos} {ta tv : TE}
def rAdd : V → V → Hp → VK → Prop := fun x y H Q => ∃ i j, x = .int i ∧ y = .int j ∧ Q (.int (i + j)) H
def rSub : V → V → Hp → VK → Prop := fun x y H Q => ∃ i j, x = .int i ∧ y = .int j ∧ Q (.int (i - j)) H
end

/-! ### isinstance -/
section
variable {X : Cx} {pins : List (Addr × Obj)} {σ : St} {H : Hp} {s : Shared} {A : Around} {E : Value → Shared → Prop} {Q : Value → Shared → Prop} {c : Value} {b : Bool}
/-- the type of a value, as the fragment's deciders take it; for an instance its class -/
inductive TyOf (K : PySem.W.Frag) (H : Hp) : V → Value → Prop where
  | non : TyOf K H .non (.type "NoneType")
  | bl (x : Bool) : TyOf K H (.bl x) (.type "bool")
  | int (i : Int) : TyOf K H (.int i) (.type "int")
  | str (x : Str) : TyOf K H (.str x) (.type "str")
  | flt (x : UInt64) : TyOf K H (.flt x) (.type "float")
  | lst {a : Addr} {xs : List V} (e : H a = some (.lst xs)) : TyOf K H (.ref a) (.type "list")
  | frz {a : Addr} {o : Obj} {xs : List V} (e : H a = some (.frz o (.lst xs))) : TyOf K H (.ref a) (.type "list")
  | tup {a : Addr} {xs : List V} (e : H a = some (.tup xs)) : TyOf K H (.ref a) (.type "tuple")
  | dK {a : Addr} {kvs : List (Key × V)} (e : H a = some (.dK kvs)) : TyOf K H (.ref a) (.type "dict")
  | dT {a : Addr} {kvs : List (List Key × V)} (e : H a = some (.dT kvs)) : TyOf K H (.ref a) (.type "dict")
  | ins {a C dx : Addr} {fs : List (Str × V)} (e : H a = some (.ins C dx fs)) (cl : Cls K C) (ha : PySem.W.findIn K (.ref C) "__class__" = some (some (.builtin "object.__class__")))
      (hn : PySem.W.specialIn K (.builtin "object.__class__") "__get__" = some (some (.builtin "getset_descriptor.__get__"))) (htk : PySem.W.takesIn K (.builtin "object.__class__") = some true)
      (hm : PySem.W.mroIn K C (.type "object") = some true) : TyOf K H (.ref a) (.ref C)
/-- isinstance(x, c) for one class c, a built-in or an own one: kitOne's answer -/
theorem isinst_ok {x : V} {u t : Value} (I : Inv X pins σ H s) (rx : RelV x u) (ty : TyOf X.K H x t) (e : PySem.W.kitOne X.K t c = some b) (h : ∀ tk, Q (.bool b) { s with toks := tk }) :
    wpAny (model X.prog X.w) A (call (.builtin "isinstance") [u, c]) Q E s := by
  cases ty with
  | non => cases (show u = Value.none from rx); exact PySem.W.kia_one PySem.W.kitx_none I.kIn True.intro e (fun z => nomatch z) h
  | bl y => cases (show u = Value.bool y from rx); exact PySem.W.kia_one PySem.W.kitx_bool I.kIn True.intro e (fun z => nomatch z) h
  | int i => obtain ⟨t, q⟩ := (show ∃ t, u = Value.int i t from rx); cases q; exact PySem.W.kia_one PySem.W.kitx_int I.kIn True.intro e (fun z => nomatch z) h
  | str y => obtain ⟨t, q⟩ := (show ∃ t, u = Value.str y t from rx); cases q; exact PySem.W.kia_one PySem.W.kitx_str I.kIn True.intro e (fun z => nomatch z) h
  | flt y => obtain ⟨t, q⟩ := (show ∃ t, u = Value.float y t from rx); cases q; exact PySem.W.kia_one PySem.W.kitx_float I.kIn True.intro e (fun z => nomatch z) h
  | @lst a xs ea =>
    cases (show u = Value.ref a from rx)
    obtain ⟨_, _, n, _, h1⟩ := (show ObjOk X.prog X.w H s.heap a (.lst xs) from I.hok a _ ea)
    exact PySem.W.kia_one PySem.W.kitx_list I.kIn ⟨_, h1, rfl⟩ e (fun z => nomatch z) h
  | @frz a ob xs ea =>
    cases (show u = Value.ref a from rx)
    obtain ⟨_, _, _, n, _, h1⟩ := (show ObjOk X.prog X.w H s.heap a (.frz ob (.lst xs)) from I.hok a _ ea)
    exact PySem.W.kia_one PySem.W.kitx_list I.kIn ⟨_, h1, rfl⟩ e (fun z => nomatch z) h
  | @tup a xs ea =>
    cases (show u = Value.ref a from rx)
    obtain ⟨_, _, _, p⟩ := (show ObjOk X.prog X.w H s.heap a (.tup xs) from I.hok a _ ea)
    obtain ⟨o, h1, h2, _⟩ := p
    exact PySem.W.kia_one PySem.W.kitx_tuple I.kIn ⟨o, h1, h2⟩ e (fun z => nomatch z) h
  | @dK a kvs ea =>
    cases (show u = Value.ref a from rx)
    obtain ⟨_, _, vs, _, p⟩ := (show ObjOk X.prog X.w H s.heap a (.dK kvs) from I.hok a _ ea)
    obtain ⟨o, es, ep, h1, h2, _⟩ := p
    exact PySem.W.kia_one PySem.W.kitx_dict I.kIn ⟨o, h1, h2.1⟩ e (fun z => nomatch z) h
  | @dT a kvs ea =>
    cases (show u = Value.ref a from rx)
    obtain ⟨_, _, xs, _, o, es, ep, h1, h2, _⟩ := (show ObjOk X.prog X.w H s.heap a (.dT kvs) from I.hok a _ ea)
    exact PySem.W.kia_one PySem.W.kitx_dict I.kIn ⟨o, h1, h2.1⟩ e (fun z => nomatch z) h
  | @ins a C dx fs ea cl ha hn htk hm =>
    cases (show u = Value.ref a from rx)
    obtain ⟨mA, O, _⟩ := ins_get I.hok ea
    obtain ⟨od, J, _⟩ := O.look
    exact PySem.W.kia_one (PySem.W.kitx_own (cl.get _) cl.hd ha hn htk hm) I.kIn J e (fun z => nomatch z) h
end
end L2

namespace L2
open PySem PySem.Spec PyProof.Rows

/-! ### room -/
structure Room (k : Nat) (A : Around) : Prop where
  hd : A.handled = none
  dp : A.depth + 3 * k + 5 < recursionLimit
  un : A.units + 16 * k + 200 < cLine
theorem Room.mono {j k : Nat} {A : Around} (r : Room k A) (h : j ≤ k) : Room j A := ⟨r.hd, by have := r.dp; omega, by have := r.un; omega⟩
theorem Room.deeper {k : Nat} {A : Around} (r : Room (k + 1) A) (env : Env) : Room k (A.deeper env) :=
  ⟨r.hd, by have := r.dp; show A.depth + 1 + 3 * k + 5 < _; omega, by have := r.un; show A.units + 3 + 16 * k + 200 < _; omega⟩
theorem Room.depth {k : Nat} {A : Around} (r : Room k A) : A.depth < recursionLimit := by have := r.dp; omega
/-! ### argument lists and displays -/
def tNil : TA := fun _ H Q => Q [] H
def tCons (ta : TE) (tr : TA) : TA := fun σ H Q => ta σ H fun x H1 => tr σ H1 fun xs H2 => Q (x :: xs) H2
section
variable {X : Cx} {e : Expr} {es : List Expr} {te : TE} {t : TA} {pos : Pos}
theorem pa_nil : PA X [] tNil := fun _ _ _ _ H Q I h => Calls.spliced_nil ⟨[], H, I, .nil, h⟩
theorem pa_cons (ha : PE X e te) (hr : PA X es t) (hs : starEach (e :: es) X.env = (false, eval e X.env) :: starEach es X.env := by rfl) : PA X (e :: es) (tCons te t) := by
  intro pos pins s σ H Q I h
  rw [hs]
  show wpAny _ _ (spliced ((false, eval e X.env) :: backTo pos (starEach es X.env))) _ _ s
  refine Calls.spliced_cons (thn (ha pins s σ H _ I h) fun u s1 ⟨x, H1, I1, r1, q1⟩ => ?_)
  exact thn (hr pos pins s1 σ H1 _ I1 q1) fun us s2 ⟨xs, H2, I2, r2, q2⟩ => ⟨x :: xs, H2, I2, .cons r1 r2, q2⟩

/-- a tuple, a list of written items -/
def tTup (t : TA) : TE := fun σ H Q => t σ H fun xs H1 => xs.length ≤ sizeLine ∧ ∀ p, H1 p = none → Q (.ref p) (upd H1 p (.tup xs))
def tLst (t : TA) : TE := fun σ H Q => t σ H fun xs H1 => xs.length ≤ sizeLine ∧ ∀ p, H1 p = none → Q (.ref p) (upd H1 p (.lst xs))
theorem pe_tup {x1} (h : PA X es t) : PE X (.Tuple es x1 pos) (tTup t) := by
  intro pins s σ H Q I hq
  refine wpAny_Tuple_spliced (thn (h pos pins s σ H _ I hq) fun us s1 ⟨xs, H1, I1, r, z, q⟩ => ⟨by rw [← r.length]; exact z, ?_⟩)
  have hf : H1 s1.heap.objs.size = none := I1.hok.fresh (Nat.le_refl _)
  refine ⟨.ref s1.heap.objs.size, upd H1 s1.heap.objs.size (.tup xs), I1.laid (t' := s1.toks) (fun b u e => Heap.get?_push_of_some _ e) (Nat.le_refl _) ?_, rfl, q _ hf⟩
  exact ⟨z, us, r, ⟨_, Heap.get?_push_size _ rfl, rfl, _, rfl⟩⟩
theorem pe_lst (h : PA X es t) : PE X (.List es pos) (tLst t) := by
  intro pins s σ H Q I hq
  refine wpAny_List_spliced (thn (h pos pins s σ H _ I hq) fun us s1 ⟨xs, H1, I1, r, z, q⟩ => ⟨by rw [← r.length]; exact z, ?_⟩)
  have hf : H1 s1.heap.objs.size = none := I1.hok.fresh (Nat.le_refl _)
  refine ⟨.ref s1.heap.objs.size, upd H1 s1.heap.objs.size (.lst xs), I1.laid (t' := s1.toks) (fun b u e => Heap.get?_push_of_some _ e) (Nat.le_refl _) ?_, rfl, q _ hf⟩
  exact ⟨z, us, 0, r, Heap.get?_push_size _ rfl⟩
end

/-! ### what a def promises -/
/-- a def's promise: the bound arguments in the parameters' order, the heap, the wanted end, the wanted exception -/
abbrev Sp := List V → Hp → VK → XK → Prop
/-- how an exception lies behind a call (file 08 gives it): the callers' frames, abstract heap and state ahead of the call, the wish, the exception, the state -/
abbrev CXT := List Env → Hp → Shared → XK → Value → Shared → Prop

/-- the state at a call -/
structure Env0 (P : Program) (w : World) (K : PySem.W.Frag) (mg : Str → Option Value) (base : Heap) (A : Around) (outer : List Env) (s : Shared) (H : Hp) : Prop where
  frames : A.frames = some outer
  mod : Mod K mg base
  bs : ∀ b o, base.get? b = some o → s.heap.get? b = some o ∧ H b = none
  bsz : base.objs.size ≤ s.heap.objs.size
  funs : s.heap.FunFrames base outer
  frf : ∀ b ∈ frs outer, H b = none
  hok : HOk P w H s.heap
  bare : AllBare s.gens
/-- a call's end -/
def CE (outer : List Env) (P : Program) (w : World) (H : Hp) (s : Shared) (Q : VK) (u : Value) (s' : Shared) : Prop :=
  ∃ v H', s'.os = s.os ∧ AllBare s'.gens ∧ Un (frs outer) [] H H' s.heap s'.heap ∧ HOk P w H' s'.heap ∧ RelV v u ∧ Q v H'
def CR (CX : CXT) (outer : List Env) (P : Program) (w : World) (H : Hp) (s : Shared) (Q : VK) (E : XK) (r : Result) (s' : Shared) : Prop :=
  match r with
  | .ok (.ret u) => CE outer P w H s Q u s'
  | .ok _ => False
  | .error e => CX outer H s E e s'
structure FnOk (P : Program) (w : World) (K : PySem.W.Frag) (mg : Str → Option Value) (base : Heap) (CX : CXT) (k : Nat) (f : Addr) (fd : FuncData) (ps : List Str) (sp : Sp) : Prop where
  len : ∀ vs H Q E, sp vs H Q E → vs.length = ps.length
  run : ∀ (A : Around) (outer : List Env) (s : Shared) (H : Hp) (args : Args) (us : List Value) (vs : List V) (Q : VK) (E : XK), Room k A → Env0 P w K mg base A outer s H → BindsTo s fd args (ps.zip us) → Vals vs us → sp vs H Q E →
    codeAny (model P w) A (.call (.ref f) args) (CR CX outer P w H s Q E) s
section
variable {X : Cx} {pins : List (Addr × Obj)} {σ : St} {H : Hp} {s s' : Shared}
/-- from a body: what a callee wants -/
theorem Inv.env0 (I : Inv X pins σ H s) : Env0 X.prog X.w X.K X.mg X.base X.A X.stack s H :=
  ⟨I.ok.frames, I.ok.mod, I.bs, Nat.le_trans I.ok.bsz I.sz, I.stack, I.stkFree, I.hok, I.bare⟩
/-- behind a call -/
theorem Inv.after {Q : VK} {u : Value} (I : Inv X pins σ H s) (h : CE X.stack X.prog X.w H s Q u s') : EP X pins σ Q u s' := by
  obtain ⟨v, H', os, bare, un, hok, r, q⟩ := h
  obtain ⟨hh, g, d, t, os'⟩ := s'
  obtain rfl : os' = s.os := os
  exact ⟨v, H', I.call (h' := hh) (g' := g) (d' := d) (t' := t) (ch := []) un hok bare (fun b z => absurd z (by simp)), r, q⟩
end

/-! ### calls -/
/-- f(..): the written arguments, then the defaults dvs; E: what is wanted of an exception -/
def tCall (sp : Sp) (dvs : List V) (E : XK) (t : TA) : TE := fun σ H Q => t σ H fun vs H1 => sp (vs ++ dvs) H1 Q E
/-- o.m(..) of an instance of the class at C -/
def tMeth (C : Addr) (m : Str) (sp : Sp) (dvs : List V) (E : XK) (ta : TE) (t : TA) : TE := fun σ H Q => ta σ H fun x H1 => ∃ a dx fs, x = .ref a ∧ H1 a = some (.ins C dx fs) ∧ fs.lookup m = none ∧
  t σ H1 fun vs H2 => sp (x :: (vs ++ dvs)) H2 Q E
/-- C(..): a new instance and its dict, then __init__ -/
def tMake (C : Addr) (sp : Sp) (dvs : List V) (E : XK) (t : TA) : TE := fun σ H Q => t σ H fun vs H1 => ∀ x dx, H1 x = none → H1 dx = none → dx ≠ x →
  sp (.ref x :: (vs ++ dvs)) (upd (upd H1 dx (.own x)) x (.ins C dx [])) (fun v H2 => v = .non ∧ Q (.ref x) H2) E

/-- how the parameters are bound: us the positional arguments, kw the keywords' values by name, ds the defaults that fill up -/
def Binds (K : PySem.W.Frag) (fd : FuncData) (ps : List Str) (ds : List Value) : Prop :=
  ∀ (s : Shared) (us : List Value), K.In s.heap → (us ++ ds).length = ps.length → BindsTo s fd ⟨us, []⟩ (ps.zip (us ++ ds))
/-- every parameter is given -/
theorem Binds.all {K : PySem.W.Frag} {fd : FuncData} {ps : List Str} (h : ∀ us : List Value, us.length = ps.length → bindArgs fd ⟨us, []⟩ = pure (ps.zip us)) : Binds K fd ps [] := fun s us _ hl => by
  rw [List.append_nil] at hl ⊢
  exact .of_eq (h us hl)

/-- an exception of a callee reaches what this body wants of exceptions -/
def Passes (CX : CXT) (X : Cx) (E : XK) : Prop := ∀ (pins : List (Addr × Obj)) (σ : St) (H : Hp) (s : Shared) (e : Value) (s' : Shared), Inv X pins σ H s → CX X.stack H s E e s' → X.xe e s'

section
variable {X : Cx} {CX : CXT} {k : Nat} {f C : Addr} {fd : FuncData} {ps : List Str} {sp : Sp} {dvs : List V} {ds : List Value} {E : XK} {x m : Str} {p pos apos : Pos} {e o : Expr} {es : List Expr} {ta : TE} {t : TA}

/-- the callee runs -/
theorem run_fn {pins : List (Addr × Obj)} {σ : St} {H : Hp} {s : Shared} {Q : VK} {us : List Value} {vs : List V} (F : FnOk X.prog X.w X.K X.mg X.base CX k f fd ps sp) (hr : Room k X.A) (hb : Binds X.K fd ps ds) (hd : Vals dvs ds) (hx : Passes CX X E)
    (I : Inv X pins σ H s) (r : Vals vs us) (h : sp (vs ++ dvs) H Q E) : wpAny (model X.prog X.w) X.A (call (.ref f) us) (EP X pins σ Q) X.xe s := by
  have r2 : Vals (vs ++ dvs) (us ++ ds) := r.append hd
  have hl : (us ++ ds).length = ps.length := by rw [← r2.length]; exact F.len _ _ _ _ h
  refine wpAny_call (codeAny_mono (F.run X.A X.stack s H ⟨us, []⟩ (us ++ ds) (vs ++ dvs) Q E hr I.env0 (hb s us I.kIn hl) r2 h) fun r s' hq => ?_)
  cases r with
  | error e => exact hx pins σ H s e s' I hq
  | ok fl =>
    cases fl with
    | ret u => exact I.after hq
    | next => exact False.elim hq
    | brk => exact False.elim hq
    | cont => exact False.elim hq

theorem pe_call (F : FnOk X.prog X.w X.K X.mg X.base CX k f fd ps sp) (hr : Room k X.A) (hg : Gl X x) (hm : X.mg x = some (.ref f)) (hk : PySem.W.keepIn X.K (.ref f) = true) (hb : Binds X.K fd ps ds) (hd : Vals dvs ds) (hx : Passes CX X E)
    (ha : PA X (e :: es) t) (hdb : (x == ("__debug__" : Str)) = false := by decide) (he : starEach (e :: es) X.env = (false, eval e X.env) :: starEach es X.env := by rfl) (hpl : (backTo pos (starEach es X.env)).any (·.1) = false := by rfl) :
    PE X (.Call (.Name x p) (e :: es) [] pos) (tCall sp dvs E t) := by
  intro pins s σ H Q I h
  refine wpAny_Call_Name_kw (ld_glob I hg hm ?_ hdb)
  refine PySem.W.callWith_K (h₀ := X.base) I.ok.mod.kin hk (thn (ha pos pins s σ H _ I h) fun us s1 ⟨vs, H1, I1, r, q⟩ => ⟨I1.kIn, ?_⟩) he hpl
  exact run_fn F hr hb hd hx I1 r q
/-- what a class must have to be made -/
structure Mk (K : PySem.W.Frag) (C f : Addr) : Prop where
  makes : PySem.W.makesIn K C = true
  init : PySem.W.findIn K (.ref C) "__init__" = some (some (.ref f))
  fn : PySem.W.isFn K (.ref f) = true
  kp : PySem.W.keepIn K (.ref C) = true

end

/-! ### keywords -/
/-- the values of the keywords, from the left -/
def PK (X : Cx) (kws : List Keyword) (t : TA) : Prop :=
  ∀ (pos : Pos) (pins : List (Addr × Obj)) (s : Shared) (σ : St) (H : Hp) (Q : List V → Hp → Prop), Inv X pins σ H s → t σ H Q → wpAny (model X.prog X.w) X.A (evalAll ((backToKw pos (keywordEach kws X.env)).map (·.2))) (AP X pins σ Q) X.xe s
section
variable {X : Cx} {CX : CXT} {k : Nat} {f C : Addr} {fd : FuncData} {ps ks : List Str} {sp : Sp} {E : XK} {x m : Str} {p pos apos kpos : Pos} {e o : Expr} {es : List Expr} {kws : List Keyword} {te ta : TE} {t tk : TA} {nm : Option Str}
/-- how a call with keywords binds: g puts the positional values us and the keywords' values ws (names ks) in the parameters' order, defaults among them -/
structure KBinds (K : PySem.W.Frag) (fd : FuncData) (ps ks : List Str) (g : List Value → List Value → List Value) (gV : List V → List V → List V) : Prop where
  to : ∀ (s : Shared) (us ws : List Value), K.In s.heap → (g us ws).length = ps.length → BindsTo s fd ⟨us, ks.zip ws⟩ (ps.zip (g us ws))
  rel : ∀ {vs : List V} {us : List Value} {zs : List V} {ws : List Value}, Vals vs us → Vals zs ws → Vals (gV vs zs) (g us ws)
def tCallK (sp : Sp) (gV : List V → List V → List V) (E : XK) (t tk : TA) : TE := fun σ H Q => t σ H fun vs H1 => tk σ H1 fun zs H2 => sp (gV vs zs) H2 Q E
variable {g : List Value → List Value → List Value} {gV : List V → List V → List V}
end

/-! ### a def's body keeps its promise -/
/-- names: the parameters first -/
structure FnScope (N P : List Str) (sc : Scope) : Prop where
  kind : sc.kind = .function
  co : sc.isCoroutine = false
  gen : sc.isGenerator = false
  nd : N.Nodup
  pre : N.take P.length = P
  par : ∀ x ∈ P, sc.names.lookup x = some .local ∨ sc.names.lookup x = some .cell
  nofree : ∀ y ∈ sc.names, y.2 ≠ .free

theorem bindL_out {kindOf : Str → Option NameKind} {x : Str} : ∀ {binds : List (Str × Value)} {m : Str → Option Value}, (∀ v, (x, v) ∉ binds) → bindL kindOf binds m x = m x
  | [], _, _ => rfl
  | (n, v) :: r, m, h => by
    unfold bindL
    rw [bindL_out fun w hw => h w (List.mem_cons_of_mem _ hw)]
    split
    · have : x ≠ n := by rintro rfl; exact h v List.mem_cons_self
      simp [this]
    · rfl
theorem bindC_out {kindOf : Str → Option NameKind} {x : Str} : ∀ {binds : List (Str × Value)} {m : Str → Option Value}, (∀ v, (x, v) ∉ binds) → bindC kindOf binds m x = m x
  | [], _, _ => rfl
  | (n, v) :: r, m, h => by
    unfold bindC
    rw [bindC_out fun w hw => h w (List.mem_cons_of_mem _ hw)]
    split
    · rfl
    · have : x ≠ n := by rintro rfl; exact h v List.mem_cons_self
      simp [this]
theorem bindL_get {kindOf : Str → Option NameKind} {x : Str} {v : Value} : ∀ {P : List Str} {vs : List Value} {i : Nat} {m : Str → Option Value}, P.Nodup → P[i]? = some x → vs[i]? = some v → kindOf x = some .local →
    bindL kindOf (P.zip vs) m x = some v
  | [], _, _, _, _, h, _, _ => by simp at h
  | _ :: _, [], _, _, _, _, h, _ => by simp at h
  | p :: P, w :: vs, 0, m, nd, h1, h2, hk => by
    simp at h1 h2; subst h1; subst h2
    show bindL kindOf ((p, w) :: P.zip vs) m p = _
    unfold bindL
    rw [bindL_out fun v hv => (List.nodup_cons.mp nd).1 (List.of_mem_zip hv).1, if_pos hk]
    simp
  | p :: P, w :: vs, i + 1, m, nd, h1, h2, hk => by
    show bindL kindOf ((p, w) :: P.zip vs) m x = _
    unfold bindL
    exact bindL_get (i := i) (List.nodup_cons.mp nd).2 (by simpa using h1) (by simpa using h2) hk
theorem bindC_get {kindOf : Str → Option NameKind} {x : Str} {v : Value} : ∀ {P : List Str} {vs : List Value} {i : Nat} {m : Str → Option Value}, P.Nodup → P[i]? = some x → vs[i]? = some v → kindOf x ≠ some .local →
    bindC kindOf (P.zip vs) m x = some v
  | [], _, _, _, _, h, _, _ => by simp at h
  | _ :: _, [], _, _, _, _, h, _ => by simp at h
  | p :: P, w :: vs, 0, m, nd, h1, h2, hk => by
    simp at h1 h2; subst h1; subst h2
    show bindC kindOf ((p, w) :: P.zip vs) m p = _
    unfold bindC
    rw [bindC_out fun v hv => (List.nodup_cons.mp nd).1 (List.of_mem_zip hv).1, if_neg hk]
    simp
  | p :: P, w :: vs, i + 1, m, nd, h1, h2, hk => by
    show bindC kindOf ((p, w) :: P.zip vs) m x = _
    unfold bindC
    exact bindC_get (i := i) (List.nodup_cons.mp nd).2 (by simpa using h1) (by simpa using h2) hk

/-- the names' values at the entry -/
def start (N : List Str) (vs : List V) : St := vs.map some ++ List.replicate (N.length - vs.length) none

/-- the context of a def's body, at its entry; an exception leaves the frame, then lies as CX says -/
def cxOf (CX : CXT) (P : Program) (w : World) (K : PySem.W.Frag) (mg : Str → Option Value) (base : Heap) (N : List Str) (qual : Str) (scope : Scope) (f : Addr) (cd : Value) (A : Around) (outer : List Env) (s : Shared) (H : Hp) (E : XK) : Cx where
  prog := P
  w := w
  K := K
  mg := mg
  base := base
  A := A.deeper (envOfC qual scope s.heap.objs.size f cd)
  N := N
  s₀ := s
  H₀ := H
  env := envOfC qual scope s.heap.objs.size f cd
  outer := outer
  stack := envOfC qual scope s.heap.objs.size f cd :: outer
  ex := []
  calm := true
  fn := fun _ => true
  pn := []
  xe := fun e s' => wpAny (model P w) (A.deeper (envOfC qual scope s.heap.objs.size f cd)) (leaving (envOfC qual scope s.heap.objs.size f cd) e) (fun _ s'' => CX outer H s E e s'') (fun e' s'' => CX outer H s E e' s'') s'

theorem cell_has {sc : Scope} {n : Nat} {x : Str} (h : sc.names.lookup x = some .cell) : ∃ c, (cellsFrom n sc.names []).lookup x = some c := by
  have q := PySem.W.cellsFrom_some sc.names n [] (.inl h)
  exact Option.isSome_iff_exists.mp q

theorem inv_start {CX : CXT} {P : Program} {w : World} {K : PySem.W.Frag} {mg : Str → Option Value} {base : Heap} {N ps : List Str} {qual : Str} {scope : Scope} {f : Addr} {cd : Value} {A : Around} {outer : List Env} {s s1 : Shared} {H : Hp} {E : XK} {us : List Value} {vs : List V}
    (S : FnScope N ps scope) (hd : A.handled = none) (e0 : Env0 P w K mg base A outer s H) (hl : vs.length = ps.length) (r : Vals vs us)
    (x : InCallC s s.heap.objs.size (bindL (envOfC qual scope s.heap.objs.size f cd).kindOf (ps.zip us) fun _ => none) (cellsFrom (s.heap.objs.size + 1) scope.names []) (bindC (envOfC qual scope s.heap.objs.size f cd).kindOf (ps.zip us) fun _ => none) s1) :
    Inv (cxOf CX P w K mg base N qual scope f cd A outer s H E) [] (start N vs) H s1 := by
  have hpl : ps.length ≤ N.length := by have := congrArg List.length S.pre; rw [List.length_take] at this; omega
  obtain ⟨h1, tk, rfl, hk⟩ := x.done
  have noA : ∀ b : Addr, b ∉ (cxOf CX P w K mg base N qual scope f cd A outer s H E).ex := fun b z => absurd (show b ∈ ([] : List Addr) from z) (by simp)
  refine ⟨⟨e0.mod, S.kind, rfl, rfl, Nat.le_refl _, fun y z c h1 h2 => ?_, fun y hy => ?_, fun y c _ h => ?_, fun _ => hd, Around.frames_deeper e0.frames, .inr ⟨rfl, rfl⟩, fun b z => absurd z (noA b), e0.bs, e0.bsz, fun b _ _ => noA b, fun b z => absurd z (noA b), e0.funs, e0.frf⟩,
    rfl, e0.bare, Un.kept hk, ⟨_, x.toInCall.ns, fun i y v h1 h2 h3 => ?_⟩, fun y c h => ⟨_, x.cell y c h⟩, e0.hok.fresh (Nat.le_refl _), fun y c h => ?_, fun p hp => absurd (show p ∈ ([] : List (Addr × Obj)) from hp) (by simp), e0.hok.kept hk, ?_⟩
  · exact name_of_addr x.apart (PySem.mem_of_lookup h1) (PySem.mem_of_lookup h2)
  · have hy : scope.names.lookup y = some .cell ∨ scope.names.lookup y = some .free := hy
    rcases hy with hy | hy
    · exact cell_has hy
    · exact absurd rfl (S.nofree _ (PySem.mem_of_lookup hy))
  · exact Nat.le_of_lt (x.above y c (PySem.mem_of_lookup h))
  · have hi : i < vs.length := by
      unfold start at h2
      by_cases hi : i < vs.length
      · exact hi
      · rw [List.getElem?_append_right (by simpa using hi)] at h2
        rw [List.getElem?_replicate] at h2
        split at h2 <;> cases h2
    have ha : vs[i]? = some v := by
      unfold start at h2
      rw [List.getElem?_append_left (by simpa using hi), List.getElem?_map] at h2
      cases e : vs[i]? with
      | none => rw [e] at h2; cases h2
      | some a => rw [e] at h2; cases h2; rfl
    obtain ⟨u, hu, rv⟩ := r.get ha
    have hp : ps[i]? = some y := by
      rw [← S.pre, List.getElem?_take_of_lt (by omega)]; exact h1
    have ndP : ps.Nodup := by rw [← S.pre]; exact S.nd.sublist (List.take_sublist _ _)
    refine ⟨u, rv, ?_⟩
    rcases S.par y (List.mem_of_getElem? hp) with k | k
    · exact .inl ⟨k, bindL_get ndP hp hu k⟩
    · obtain ⟨c, e⟩ := cell_has (n := s.heap.objs.size + 1) k
      refine .inr ⟨.inl k, c, e, ?_⟩
      have q := x.cell y c e
      rw [bindC_get ndP hp hu (by show scope.names.lookup y ≠ _; rw [k]; decide)] at q
      exact q
  · exact e0.hok.fresh (Nat.le_of_lt (x.above y c (PySem.mem_of_lookup h)))
  · unfold start
    show _ = N.length
    rw [List.length_append, List.length_map, List.length_replicate]
    omega

/-- THE RULE: a def (or a method) of the text, by its body. The body's reading t is chosen for each entry; it is run at the parameters' values -/
theorem fn_of {CX : CXT} {P : Program} {w : World} {K : PySem.W.Frag} {mg : Str → Option Value} {base : Heap} {k : Nat} {f : Addr} {name qual : Str} {params : Arguments} {body : List Stmt} {scope : Scope} {dV kV doc pm cdv ct oc : Value} {an od : Option Addr}
    {osl : Array (Option Value)} {N ps : List Str} {sp : Sp} (lk : K.lookup f = some ⟨oc, od, .func (PySem.W.fnOf name qual params body scope dV kV doc pm an cdv ct), osl⟩) (hcd : PySem.W.codeIn K cdv qual = true) (S : FnScope N ps scope)
    (len : ∀ vs H Q E, sp vs H Q E → vs.length = ps.length)
    (hbody : ∀ (A : Around) (outer : List Env) (s : Shared) (H : Hp) (vs : List V) (Q : VK) (E : XK), Room k (A.deeper (envOfC qual scope s.heap.objs.size f cdv)) → sp vs H Q E →
      ∃ t, PSs (cxOf CX P w K mg base N qual scope f cdv A outer s H E) body t ∧ t { nx := fun _ H' => Q .non H', rt := Q } (start N vs) H) :
    FnOk P w K mg base CX (k + 1) f (PySem.W.fnOf name qual params body scope dV kV doc pm an cdv ct) ps sp := by
  refine ⟨len, fun A outer s H args us vs Q E hr e0 hb r hsp => ?_⟩
  have hl := len _ _ _ _ hsp
  have KX : K.In s.heap := e0.mod.kin.keeps fun b o e => (e0.bs b o e).1
  have lim : s.heap.NoLimit := e0.mod.nolimit.keeps fun b o e => (e0.bs b o e).1
  have hkind : ∀ y ∈ ps.zip us, scope.names.lookup y.1 = some .local ∨ (scope.names.lookup y.1 = some .cell ∧ ((cellsFrom (s.heap.objs.size + 1) scope.names []).lookup y.1).isSome = true) := fun ⟨n, v⟩ hy => by
    rcases S.par n (List.of_mem_zip hy).1 with q | q
    · exact .inl q
    · exact .inr ⟨q, PySem.W.cellsFrom_some _ _ _ (.inl q)⟩
  refine codeAny_call_function hr.depth (KX _ _ lk) rfl S.co S.gen rfl (PySem.W.codeRec_of KX hcd) (hb _ _ _ _ ?_)
  refine wpAny_newFunctionEnv_cells S.kind hkind fun env he s1 x => ?_
  subst he
  refine ⟨lim.keeps x.toInCall.keep, codeAny_func ?_⟩
  obtain ⟨t, ht, hq⟩ := hbody A outer s H vs Q E (hr.deeper _) hsp
  have I : Inv (cxOf CX P w K mg base N qual scope f cdv A outer s H E) [] (start N vs) H s1 := inv_start S hr.hd e0 hl r x
  refine wpAny_mono (ht [] s1 (start N vs) H _ I hq) (fun fl s' hs => ?_) fun e s' hs => hs
  have fin : ∀ {σ' : St} {H' : Hp} {v : V} {u : Value}, Inv (cxOf CX P w K mg base N qual scope f cdv A outer s H E) [] σ' H' s' → RelV v u → Q v H' → CE outer P w H s Q u s' :=
    fun {σ' H' v u} J rv q => ⟨v, H', J.os, J.bare, J.base, J.hok, rv, q⟩
  cases fl with
  | ret u =>
    obtain ⟨v, σ', H', J, rv, q⟩ := hs
    exact fin J rv q
  | next =>
    obtain ⟨σ', H', J, q⟩ := hs
    exact fin (v := V.non) (u := Value.none) J rfl q
  | brk =>
    obtain ⟨_, _, _, q⟩ := hs
    exact False.elim q
  | cont =>
    obtain ⟨_, _, _, q⟩ := hs
    exact False.elim q
end L2

namespace L2
open PySem PySem.Spec PyProof.Rows
section
variable {X : Cx} {x : Str} {p pos : Pos} {e : Expr} {es : List Expr} {t : TA} {id T : String} {r : List V → Hp → VK → Prop}

def tCB (r : List V → Hp → VK → Prop) (t : TA) : TE := fun σ H Q => t σ H fun vs H1 => r vs H1 Q
/-- f(e, ..), f a built-in function -/
theorem pe_callB (hc : CallR X (.builtin id) r) (hg : Gl X x) (hm : X.mg x = none) (hv : bootBuiltins x = some (.builtin id)) (ha : PA X (e :: es) t) (hn : x ≠ "__name__" := by decide) (hdb : (x == ("__debug__" : Str)) = false := by decide)
    (he : starEach (e :: es) X.env = (false, eval e X.env) :: starEach es X.env := by rfl) (hpl : (backTo pos (starEach es X.env)).any (·.1) = false := by rfl) : PE X (.Call (.Name x p) (e :: es) [] pos) (tCB r t) := by
  intro pins s σ H Q I h
  refine wpAny_Call_Name_kw (ld_blt I hg hm hv ?_ hn hdb)
  exact PyProof.Rows.callWith_builtin1 (thn (ha pos pins s σ H _ I h) fun us s1 ⟨vs, H1, I1, r1, q1⟩ => hc pins s1 σ H1 vs us Q I1 r1 q1) he hpl
/-- T(e, ..), T a built-in type -/
theorem pe_callTy (hc : CallR X (.type T) r) (hg : Gl X x) (hm : X.mg x = none) (hv : bootBuiltins x = some (.type T)) (ha : PA X (e :: es) t) (hn : x ≠ "__name__" := by decide) (hdb : (x == ("__debug__" : Str)) = false := by decide)
    (he : starEach (e :: es) X.env = (false, eval e X.env) :: starEach es X.env := by rfl) (hpl : (backTo pos (starEach es X.env)).any (·.1) = false := by rfl) : PE X (.Call (.Name x p) (e :: es) [] pos) (tCB r t) := by
  intro pins s σ H Q I h
  refine wpAny_Call_Name_kw (ld_blt I hg hm hv ?_ hn hdb)
  exact PyProof.Rows.callWith_type1 (thn (ha pos pins s σ H _ I h) fun us s1 ⟨vs, H1, I1, r1, q1⟩ => hc pins s1 σ H1 vs us Q I1 r1 q1) he hpl
end
end L2

namespace HT
open PySem PyProof.Rows

/-- t < u of tuples of ints -/
def lexLt : List Int → List Int → Bool
  | [], [] => false
  | [], _ :: _ => true
  | _ :: _, [] => false
  | x :: xs, y :: ys => if x = y then lexLt xs ys else decide (x < y)
section
open PySem.SeqAt
open PySem.AutoSeq1 (wpAny_loadPart')
open PySem.MeetsSeq PySem.MeetsSeq2 PySem.MeetsSeq3

end

section
variable {prog : Program} {w : World} {A : Around} {E : Value → Shared → Prop} {s : Shared}

/-- t + u, t not empty -/
theorem cat_tup {t b : Addr} {vs ws : List Value} {Q : Value → Shared → Prop} (ht : IsTup s.heap t vs.toArray) (hb : IsTup s.heap b ws.toArray) (hv : vs ≠ [])
    (h1 : ws = [] → Q (.ref t) s) (h2 : ws ≠ [] → Q (.ref s.heap.objs.size) { s with heap := s.heap.push { cls := .type "tuple", data := .seq (vs ++ ws).toArray } })
    (hsz : vs.length + ws.length ≤ sizeLine) : wpAny (model prog w) A (binaryOp .Add (.ref t) (.ref b)) Q E s := by
  obtain ⟨⟨cls, dd, data, sl⟩, ho, hc, n, hd⟩ := id ht
  obtain ⟨⟨cls2, dd2, data2, sl2⟩, ho2, hc2, n2, hd2⟩ := id hb
  simp only at hc hd hc2 hd2
  subst hc hd hc2 hd2
  have e : vs.toArray ++ ws.toArray = (vs ++ ws).toArray := by simp
  by_cases hw : ws = []
  · exact concat_meets ⟨_, ho, rfl⟩ ⟨_, ho2, rfl⟩ noFill_tuple_add seq_tuple_add PySem.F.slot_tuple_add PySem.F.entry_tuple_add (PySem.F.args_tuple_add_2 _ _)
      (tuple_addW1 t b vs.toArray ws.toArray n n2 dd dd2 sl sl2 (by simpa using hv) (by simp [hw])) ⟨ho, ho2, h1 hw⟩
  · refine concat_meets ⟨_, ho, rfl⟩ ⟨_, ho2, rfl⟩ noFill_tuple_add seq_tuple_add PySem.F.slot_tuple_add PySem.F.entry_tuple_add (PySem.F.args_tuple_add_2 _ _)
      (tuple_addW2 t b vs.toArray ws.toArray n n2 dd dd2 sl sl2 (by simpa using hv) (by simpa using hw) (by rw [List.size_toArray, List.size_toArray]; exact hsz)) ⟨ho, ho2, ?_⟩
    rw [e]
    exact h2 hw

/-! ### t[a:b], not the whole -/
/-- a slice's bound as a place among n (d where it is left out) -/
def sIx (n d : Nat) : Option Int → Nat
  | none => d
  | some v => if v < 0 then (v + (n : Int)).toNat else min v.toNat n
end
end HT

namespace L2
open PySem PySem.Spec PyProof.Rows

/-! ### the parts of a slice -/
abbrev TO := St → Hp → (Option Int → Hp → Prop) → Prop
/-- a slice's part (left out, or an int) -/
def PO (X : Cx) (e : Option Expr) (t : TO) : Prop :=
  ∀ (pins : List (Addr × Obj)) (s : Shared) (σ : St) (H : Hp) (Q : Option Int → Hp → Prop), Inv X pins σ H s → t σ H Q →
    wpAny (model X.prog X.w) X.A (evalPart e X.env) (fun u s' => ∃ o H', Inv X pins σ H' s' ∧ IsPart u o ∧ Q o H') X.xe s
def tNoPart : TO := fun _ H Q => Q none H
def tPart (t : TE) : TO := fun σ H Q => t σ H fun x H1 => ∃ i, x = .int i ∧ Q (some i) H1

section
variable {X : Cx} {e : Expr} {te : TE} {lo hi : Option Expr} {tl th : TO} {pos p2 : Pos}

theorem po_none : PO X none tNoPart := by
  intro pins s σ H Q I h
  rw [evalPart_none]
  exact wpAny_pure ⟨none, H, I, .none, h⟩
theorem po_some (h : PE X e te) : PO X (some e) (tPart te) := by
  intro pins s σ H Q I hw
  rw [evalPart_some]
  refine thn (h pins s σ H _ I hw) fun u s1 ⟨x, H1, I1, r1, q1⟩ => ?_
  obtain ⟨i, rfl, q⟩ := q1
  obtain ⟨t, rfl⟩ := r1
  exact ⟨some i, H1, I1, .int i t, q⟩

/-- what a slice of a value is, by values: the slice object stands at sl -/
def SlR (X : Cx) (r : V → Option Int → Option Int → Hp → VK → Prop) : Prop :=
  ∀ (pins : List (Addr × Obj)) (s : Shared) (σ : St) (H : Hp) (x : V) (v vl vu : Value) (lo hi : Option Int) (sl : Addr) (Q : VK), Inv X pins σ H s → RelV x v → s.heap.IsSliceOf sl vl vu .none → IsPart vl lo → IsPart vu hi → r x lo hi H Q →
    ∃ T id, typeLookup (.type T) "__getitem__" = pure (some (.builtin id)) ∧ s.TypeIs v T ∧ wpAny (model X.prog X.w) X.A (getItem v (.ref sl)) (EP X pins σ Q) X.xe s
def tSl (r : V → Option Int → Option Int → Hp → VK → Prop) (te : TE) (tl th : TO) : TE := fun σ H Q => te σ H fun x H1 => tl σ H1 fun l H2 => th σ H2 fun u H3 => r x l u H3 Q
/-- a[lo:hi], any a -/
theorem pe_slice {r : V → Option Int → Option Int → Hp → VK → Prop} (hr : SlR X r) (he : PE X e te) (hl : PO X lo tl) (hu : PO X hi th) : PE X (.Subscript e (.Slice lo hi none p2) pos) (tSl r te tl th) := by
  intro pins s σ H Q I h
  refine Subscript_ (thn (he pins s σ H _ I h) fun v s1 ⟨x, H1, I1, r1, q1⟩ => ?_)
  refine wpAny_Slice (thn (hl pins s1 σ H1 _ I1 q1) fun vl s2 ⟨l, H2, I2, pl, q2⟩ => thn (hu pins s2 σ H2 _ I2 q2) fun vu s3 ⟨u, H3, I3, pu, q3⟩ => ?_)
  rw [evalPart_none]
  refine wpAny_pure ?_
  have I4 : Inv X pins σ H3 { s3 with heap := s3.heap.push { cls := .type "slice", data := .fields #[vl, vu, .none] } } := I3.kept (t' := s3.toks) fun b ob q => Heap.get?_push_of_some _ q
  obtain ⟨T, id, hT, ht, hg⟩ := hr pins { s3 with heap := s3.heap.push { cls := .type "slice", data := .fields #[vl, vu, .none] } } σ H3 x v vl vu l u s3.heap.objs.size Q I4 r1 (Heap.IsSliceOf.new ..) pl pu q3
  show wpAny (model X.prog X.w) X.A (subscriptTail e (.Slice lo hi none p2) v (.ref s3.heap.objs.size)) (EP X pins σ Q) X.xe { s3 with heap := s3.heap.push { cls := .type "slice", data := .fields #[vl, vu, .none] } }
  exact tail_any (ops := [.ref s3.heap.objs.size, v]) ht hT hg (by with_unfolding_all rfl)

/-- the items of xs[lo:hi] -/
def cutV (xs : List V) (lo hi : Option Int) : List V := (xs.drop (HT.sIx xs.length 0 lo)).take (HT.sIx xs.length xs.length hi - HT.sIx xs.length 0 lo)
theorem cutV_length (xs : List V) (lo hi : Option Int) : (cutV xs lo hi).length ≤ xs.length := by
  unfold cutV
  rw [List.length_take, List.length_drop]
  omega
/-- t[lo:hi], not the whole of it (the whole would be t itself) -/
def rSlT (K : PySem.W.Frag) : V → Option Int → Option Int → Hp → VK → Prop := fun x lo hi H Q => ∃ a xs, x = .ref a ∧ SqT K H a xs ∧
  ¬ (HT.sIx xs.length 0 lo = 0 ∧ HT.sIx xs.length xs.length hi = xs.length) ∧ ∀ p, H p = none → Q (.ref p) (upd H p (.tup (cutV xs lo hi)))
/-! ### t < u, t + u -/
def rLtT (K : PySem.W.Frag) : R2 := fun x y H Q => ∃ a b ns ms, x = .ref a ∧ y = .ref b ∧ SqT K H a (ns.map V.int) ∧ SqT K H b (ms.map V.int) ∧ Q (.bl (HT.lexLt ns ms)) H
/-- t + u, t not empty: u empty gives t itself -/
def rCatT (K : PySem.W.Frag) : R2 := fun x y H Q => ∃ a b xs ys, x = .ref a ∧ y = .ref b ∧ SqT K H a xs ∧ SqT K H b ys ∧ xs ≠ [] ∧ xs.length + ys.length ≤ sizeLine ∧
  (ys = [] → Q (.ref a) H) ∧ (ys ≠ [] → ∀ p, H p = none → Q (.ref p) (upd H p (.tup (xs ++ ys))))
theorem Vals.nil_iff {xs : List V} {us : List Value} (r : Vals xs us) : us = [] ↔ xs = [] := by
  cases r with
  | nil => simp
  | cons _ _ => simp
theorem op_catT : OpR X (binaryOp .Add) (rCatT X.K) := by
  intro pins s σ H x y v u Q I rx ry h
  obtain ⟨a, b, xs, ys, rfl, rfl, ha, hb, hx, hz, q1, q2⟩ := h
  cases rx
  cases ry
  obtain ⟨its, r1, p1, _⟩ := I.tuple ha
  obtain ⟨its2, r2, p2, _⟩ := I.tuple hb
  refine HT.cat_tup p1 p2 (fun z => hx (r1.nil_iff.mp z)) (fun z => ⟨.ref a, H, I, rfl, q1 (r2.nil_iff.mp z)⟩) (fun z => ?_) (by rw [← r1.length, ← r2.length]; exact hz)
  refine ⟨.ref s.heap.objs.size, _, I.laid (t' := s.toks) (o := .tup (xs ++ ys)) (fun b ob q => Heap.get?_push_of_some _ q) (Nat.le_refl _) ?_, rfl, q2 (fun w => z (r2.nil_iff.mpr w)) _ (I.hok.fresh (Nat.le_refl _))⟩
  exact ⟨by rw [List.length_append]; exact hz, _, r1.append r2, IsTup.new _ _⟩
end
end L2

namespace L2
open PySem PySem.Spec PyProof.Rows

/-! ### places -/
/-- the place that an index of any sign means -/
def ixN (n : Nat) (i : Int) : Option Nat := if 0 ≤ i then (if i < n then some i.toNat else none) else if -(n : Int) ≤ i then some (i + n).toNat else none
def atI {α : Type} (xs : List α) (i : Int) : Option α := (ixN xs.length i).bind fun j => xs[j]?
theorem ixN_seq {n : Nat} {i : Int} {j : Nat} (h : ixN n i = some j) : seqIndex? i n = some j ∧ j < n ∧ -(n : Int) ≤ i ∧ i < n := by
  unfold ixN at h
  by_cases h0 : 0 ≤ i
  · rw [if_pos h0] at h
    by_cases h1 : i < n
    · rw [if_pos h1] at h
      have e : i.toNat = j := Option.some.inj h
      exact ⟨by rw [seqIndex_of h0 h1, e], by omega, by omega, h1⟩
    · rw [if_neg h1] at h; cases h
  · rw [if_neg h0] at h
    by_cases h1 : -(n : Int) ≤ i
    · rw [if_pos h1] at h
      have e : (i + n).toNat = j := Option.some.inj h
      exact ⟨by rw [seqIndex_neg (by omega) h1, e], by omega, h1, by omega⟩
    · rw [if_neg h1] at h; cases h
theorem atI_get {α : Type} {xs : List α} {i : Int} {v : α} (h : atI xs i = some v) : ∃ j, seqIndex? i xs.length = some j ∧ xs[j]? = some v ∧ j < xs.length ∧ -(xs.length : Int) ≤ i ∧ i < xs.length := by
  unfold atI at h
  cases e : ixN xs.length i with
  | none => rw [e] at h; cases h
  | some j =>
    rw [e] at h
    obtain ⟨h1, h2, h3, h4⟩ := ixN_seq e
    exact ⟨j, h1, h, h2, h3, h4⟩
theorem atI_nat {α : Type} {xs : List α} {j : Nat} {v : α} (h : xs[j]? = some v) : atI xs (j : Int) = some v := by
  have hj : j < xs.length := (List.getElem?_eq_some_iff.mp h).1
  have e : ixN xs.length (j : Int) = some j := by
    unfold ixN
    rw [if_pos (by omega), if_pos (by omega)]; simp
  unfold atI; rw [e]; exact h
/-! ### what may be subscripted -/
/-- what stands as an index of a plain subscript -/
def PlainIx (b : Expr) : Prop := ∀ o i, subscripted b false o i = operate [o, i] (getItem o i)
/-- a subscript by values -/
def IxR (X : Cx) (r : R2) : Prop :=
  ∀ (value slice : Expr) (pins : List (Addr × Obj)) (s : Shared) (σ : St) (H : Hp) (x y : V) (v u : Value) (Q : VK), Inv X pins σ H s → RelV x v → RelV y u → r x y H Q →
    subscripted slice false v u = operate [v, u] (getItem v u) → wpAny (model X.prog X.w) X.A (subscriptTail value slice v u) (EP X pins σ Q) X.xe s
/-- a call of a builtin's method by values: the receiver, the arguments -/
def MtR (X : Cx) (id : String) (r : V → List V → Hp → VK → Prop) : Prop :=
  ∀ (pins : List (Addr × Obj)) (s : Shared) (σ : St) (H : Hp) (x : V) (xs : List V) (v : Value) (us : List Value) (Q : VK), Inv X pins σ H s → RelV x v → Vals xs us → r x xs H Q →
    wpAny (model X.prog X.w) X.A (call (.builtin id) (v :: us)) (EP X pins σ Q) X.xe s
section
variable {X : Cx} {a b : Expr} {ta tb : TE} {pos : Pos}
/-- a[b] -/
theorem pe_ix {r : R2} (hr : IxR X r) (ha : PE X a ta) (hb : PE X b tb) (hs : PlainIx b) : PE X (.Subscript a b pos) (tOp r ta tb) := by
  intro pins s σ H Q I h
  exact Subscript_ (binT ha hb I h fun v u s2 x y H2 I2 rx ry q => hr a b pins s2 σ H2 x y v u Q I2 rx ry q (hs _ _))

def rIxL (K : PySem.W.Frag) : R2 := fun x y H Q => ∃ p xs i v, x = .ref p ∧ y = .int i ∧ SqL K H p xs ∧ atI xs i = some v ∧ Q v H
def rIxT (K : PySem.W.Frag) : R2 := fun x y H Q => ∃ p xs i v, x = .ref p ∧ y = .int i ∧ SqT K H p xs ∧ atI xs i = some v ∧ Q v H
def rIxS : R2 := fun x y H Q => ∃ z i c, x = .str z ∧ y = .int i ∧ z.length ≤ sizeLine ∧ atI z.cps.toList i = some c ∧ Q (.str ⟨#[c]⟩) H
theorem ix_list : IxR X (rIxL X.K) := by
  intro value slice pins s σ H x y v u Q I rx ry h hs
  obtain ⟨p, xs, i, z, rfl, rfl, hq, he, q⟩ := h
  cases rx
  obtain ⟨t, rfl⟩ := ry
  obtain ⟨its, r, pl, hz⟩ := I.list hq
  obtain ⟨j, h1, h2, h3, h4, h5⟩ := atI_get he
  obtain ⟨w, ew, rw'⟩ := r.get h2
  have hl := r.length
  have hn := line63
  have fin : EP X pins σ Q w s := ⟨z, H, I, rw', q⟩
  by_cases h0 : 0 ≤ i
  · have hj : i.toNat = j := by
      rw [seqIndex_of h0 h5] at h1
      exact Option.some.inj h1
    exact item_listR pl.isList h0 (by omega) (by rw [hj]; simpa using ew) fin hs
  · have hj : (i + (its.toArray.size : Int)).toNat = j := by
      rw [seqIndex_neg (by omega) h4] at h1
      rw [List.size_toArray, ← hl]
      exact Option.some.inj h1
    exact subscriptTail_builtinR (x := w) pl.isList.typeIs slot_list_getitem.lookup
      (wpAny_getItem_list_neg (Q := fun r s' => r = w ∧ EP X pins σ Q r s') pl.isList (by omega) (by rw [List.size_toArray] <;> omega) (by omega) (by rw [hj]; simpa using ew) ⟨rfl, fin⟩) hs
theorem ix_tup : IxR X (rIxT X.K) := by
  intro value slice pins s σ H x y v u Q I rx ry h hs
  obtain ⟨p, xs, i, z, rfl, rfl, hq, he, q⟩ := h
  cases rx
  obtain ⟨t, rfl⟩ := ry
  obtain ⟨its, r, pl, hz⟩ := I.tuple hq
  obtain ⟨j, h1, h2, h3, h4, h5⟩ := atI_get he
  obtain ⟨w, ew, rw'⟩ := r.get h2
  have hl := r.length
  have hn := line63
  have fin : EP X pins σ Q w s := ⟨z, H, I, rw', q⟩
  exact subscriptTail_builtinR (x := w) pl.typeIs slot_tuple_getitem.lookup
    (getItem_tuple (j := j) (Q := fun r s' => r = w ∧ EP X pins σ Q r s') pl (by omega) (by omega) (by rw [List.size_toArray, ← hl]; exact h1) (by simpa using ew) ⟨rfl, fin⟩) hs
/-- list, tuple or str -/
def rIx (K : PySem.W.Frag) : R2 := fun x y H Q => rIxL K x y H Q ∨ rIxT K x y H Q ∨ rIxS x y H Q
/-! ### xs[i] = v, any sign -/
def rSetL : V → V → V → Hp → (Hp → Prop) → Prop := fun o i v H Q => ∃ p xs k j, o = .ref p ∧ i = .int k ∧ H p = some (.lst xs) ∧ ixN xs.length k = some j ∧ Q (upd H p (.lst (xs.set j v)))
/-! ### slices -/
theorem slice_bounds (lo hi : Option Int) (n : Nat) : (sliceBounds lo hi none n).1 = ((HT.sIx n 0 lo : Nat) : Int) ∧ (sliceBounds lo hi none n).2.1 = ((HT.sIx n n hi : Nat) : Int) ∧ (sliceBounds lo hi none n).2.2 = 1 := by
  refine ⟨?_, ?_, rfl⟩
  · cases lo with
    | none => simp [sliceBounds, HT.sIx]
    | some i =>
      simp only [sliceBounds, HT.sIx, Option.getD_none, show (1 : Int) > 0 by decide, if_true]
      by_cases h : i < 0
      · simp only [h, if_true] <;> omega
      · simp only [h, if_false] <;> omega
  · cases hi with
    | none => simp [sliceBounds, HT.sIx]
    | some i =>
      simp only [sliceBounds, HT.sIx, Option.getD_none, show (1 : Int) > 0 by decide, if_true]
      by_cases h : i < 0
      · simp only [h, if_true] <;> omega
      · simp only [h, if_false] <;> omega
theorem slicePick_cut (its : List Value) (lo hi : Option Int) : slicePick its.toArray lo hi none = ((its.drop (HT.sIx its.length 0 lo)).take (HT.sIx its.length its.length hi - HT.sIx its.length 0 lo)).toArray := by
  obtain ⟨h1, h2, h3⟩ := slice_bounds lo hi its.toArray.size
  unfold slicePick
  rw [h1, h2, h3]
  simp only [sliceRange_one, pick_run, List.size_toArray] <;> rfl
/-- xs[lo:hi] of a list: a new list -/
def rSlL (K : PySem.W.Frag) : V → Option Int → Option Int → Hp → VK → Prop := fun x lo hi H Q => ∃ a xs, x = .ref a ∧ SqL K H a xs ∧ ∀ p, H p = none → Q (.ref p) (upd H p (.lst (cutV xs lo hi)))
theorem sl_list : SlR X (rSlL X.K) := by
  intro pins s σ H x v vl vu lo hi sl Q I rx hs pl pu h
  obtain ⟨a, xs, rfl, hx, q⟩ := h
  cases rx
  obtain ⟨its, r, ht, hz⟩ := I.list hx
  have hlen := r.length
  refine ⟨"list", _, slot_list_getitem.lookup, ht.isList.typeIs, ?_⟩
  refine wpAny_getItem_list_slice ht.isList hs pl pu .none (by simp) ?_ (by rw [List.size_toArray] <;> omega)
  rw [slicePick_cut, ← hlen]
  refine ⟨.ref s.heap.objs.size, _, I.laid (t' := s.toks) (o := .lst (cutV xs lo hi)) (fun b ob q => Heap.get?_push_of_some _ q) (Nat.le_refl _) ?_, rfl, q _ (I.hok.fresh (Nat.le_refl _))⟩
  exact ⟨Nat.le_trans (cutV_length xs lo hi) hz, _, 0, (r.drop (HT.sIx xs.length 0 lo)).take (HT.sIx xs.length xs.length hi - HT.sIx xs.length 0 lo), Heap.get?_push_size _ rfl⟩

/-! ### in, not in: flat items -/
def flatV : V → Bool
  | .non => true
  | .bl _ => true
  | .int _ => true
  | .str _ => true
  | _ => false
/-- == of flat values -/
def eqV : V → V → Bool
  | .non, .non => true
  | .bl a, .bl b => a == b
  | .bl a, .int b => (if a then 1 else 0) == b
  | .int a, .bl b => a == (if b then 1 else 0)
  | .int a, .int b => a == b
  | .str a, .str b => a == b
  | _, _ => false
theorem eqAt_V {A : Around} {s : Shared} {y x : V} {u v : Value} (ry : RelV y u) (rx : RelV x v) (fy : flatV y = true) (fx : flatV x = true) : SeqAt.EqAt A s u v (eqV y x) := by
  cases y with
  | non =>
    cases ry
    cases x with
    | non => cases rx; exact SeqAt.EqAt.same _
    | bl b => cases rx; exact SeqAt.EqAt.none_bool b
    | int b => obtain ⟨t, rfl⟩ := rx; exact SeqAt.EqAt.none_int b t
    | str b => obtain ⟨t, rfl⟩ := rx; exact SeqAt.EqAt.none_str b t
    | _ => exact absurd (show false = true from fx) Bool.false_ne_true
  | bl a =>
    cases ry
    cases x with
    | non => cases rx; exact SeqAt.EqAt.bool_none a
    | bl b => cases rx; exact SeqAt.EqAt.bool_bool a b
    | int b => obtain ⟨t, rfl⟩ := rx; exact SeqAt.EqAt.bool_int a b t
    | str b => obtain ⟨t, rfl⟩ := rx; exact SeqAt.EqAt.bool_str a b t
    | _ => exact absurd (show false = true from fx) Bool.false_ne_true
  | int a =>
    obtain ⟨t', rfl⟩ := ry
    cases x with
    | non => cases rx; exact SeqAt.EqAt.int_none a t'
    | bl b => cases rx; exact SeqAt.EqAt.int_bool a t' b
    | int b => obtain ⟨t, rfl⟩ := rx; exact SeqAt.EqAt.int_int a t' b t
    | str b => obtain ⟨t, rfl⟩ := rx; exact SeqAt.EqAt.int_str a t' b t
    | _ => exact absurd (show false = true from fx) Bool.false_ne_true
  | str a =>
    obtain ⟨t', rfl⟩ := ry
    cases x with
    | non => cases rx; exact SeqAt.EqAt.str_none a t'
    | bl b => cases rx; exact SeqAt.EqAt.str_bool a t' b
    | int b => obtain ⟨t, rfl⟩ := rx; exact SeqAt.EqAt.str_int a t' b t
    | str b => obtain ⟨t, rfl⟩ := rx; exact SeqAt.EqAt.str_str a t' b t
    | _ => exact absurd (show false = true from fx) Bool.false_ne_true
  | _ => exact absurd (show false = true from fy) Bool.false_ne_true
/-- the items' answers, read off the values (a value's own answer does not lean on its token) -/
def eqU (x : V) (u : Value) : Bool := match u with
  | .none => eqV .non x
  | .bool b => eqV (.bl b) x
  | .int i _ => eqV (.int i) x
  | .str z _ => eqV (.str z) x
  | _ => false
def inV (x : V) (xs : List V) : Bool := xs.any fun y => eqV y x
/-- x in a list or tuple of flat items -/
def rIn (K : PySem.W.Frag) (neg : Bool) : R2 := fun x y H Q => ∃ p xs, y = .ref p ∧ (SqL K H p xs ∨ SqT K H p xs) ∧ flatV x = true ∧ xs.all flatV = true ∧ Q (.bl (if neg then !inV x xs else inV x xs)) H
/-! ### len, list(x), tuple(x) of any list or tuple that is read -/
theorem call_len_seq : CallR X (.builtin "len") (fun xs H Q => ∃ p ys, xs = [.ref p] ∧ (SqL X.K H p ys ∨ SqT X.K H p ys) ∧ Q (.int ys.length) H) := by
  intro pins s σ H xs us Q I r h
  obtain ⟨p, ys, rfl, hq, q⟩ := h
  obtain ⟨u, rfl, rx⟩ := vals1 r
  cases rx
  have hn := line63
  rcases hq with hq | hq
  · obtain ⟨its, r', pl, hz⟩ := I.list hq
    have hlen := r'.length
    exact Calls.call_len_list pl.isList (by simp only [List.size_toArray] <;> omega) ⟨.int ys.length, H, I.tok _, ⟨s.toks + 1, by rw [List.size_toArray, hlen]⟩, q⟩
  · obtain ⟨its, r', pl, hz⟩ := I.tuple hq
    have hlen := r'.length
    exact len_tuple pl (by simp only [List.size_toArray] <;> omega) ⟨.int ys.length, H, I.tok _, ⟨s.toks + 1, by rw [List.size_toArray, hlen]⟩, q⟩
theorem call_list_of : CallR X (.type "list") (fun xs H Q => ∃ p ys, xs = [.ref p] ∧ (SqL X.K H p ys ∨ SqT X.K H p ys) ∧ ∀ l, H l = none → Q (.ref l) (upd H l (.lst ys))) := by
  intro pins s σ H xs us Q I r h
  obtain ⟨p, ys, rfl, hq, q⟩ := h
  obtain ⟨u, rfl, rx⟩ := vals1 r
  cases rx
  have fin : ∀ (its : List Value), Vals ys its → ys.length ≤ sizeLine → ∀ (h' : Heap) (c' : Nat), (∀ b o', s.heap.get? b = some o' → h'.get? b = some o') →
      h'.get? s.heap.objs.size = some { cls := .type "list", dict := none, data := .seq its.toArray c', slots := #[] } → EP X pins σ Q (.ref s.heap.objs.size) { s with heap := h' } := fun its r' hz h' c' kp e =>
    ⟨.ref s.heap.objs.size, _, I.laid (t' := s.toks) kp (Nat.le_refl _) (show ObjOk X.prog X.w _ h' _ (.lst ys) from ⟨hz, its, c', r', e⟩), rfl, q _ (I.hok.fresh (Nat.le_refl _))⟩
  rcases hq with hq | hq
  · obtain ⟨its, r', pl, hz⟩ := I.list hq
    have hlen := r'.length
    obtain ⟨o, ho, hc, n, hd⟩ := pl.isList
    exact call_list_seq p (.inl rfl) ho hc hd (fun h' c' kp e => fin its r' hz h' c' kp e) (by simp only [List.size_toArray] <;> omega)
  · obtain ⟨its, r', pl, hz⟩ := I.tuple hq
    have hlen := r'.length
    obtain ⟨o, ho, hc, n, hd⟩ := pl
    exact call_list_seq p (.inr rfl) ho hc hd (fun h' c' kp e => fin its r' hz h' c' kp e) (by simp only [List.size_toArray] <;> omega)
theorem call_tuple_of : CallR X (.type "tuple") (fun xs H Q => ∃ p ys, xs = [.ref p] ∧ ((SqL X.K H p ys ∧ ∀ l, H l = none → Q (.ref l) (upd H l (.tup ys))) ∨ (SqT X.K H p ys ∧ Q (.ref p) H))) := by
  intro pins s σ H xs us Q I r h
  obtain ⟨p, ys, rfl, h⟩ := h
  obtain ⟨u, rfl, rx⟩ := vals1 r
  cases rx
  rcases h with ⟨hq, q⟩ | ⟨hq, q⟩
  · obtain ⟨its, r', pl, hz⟩ := I.list hq
    have hlen := r'.length
    refine call_tuple_list pl.isList (fun h' kp => ?_) (by simp only [List.size_toArray] <;> omega)
    have I1 : Inv X pins σ H { s with heap := h' } := I.kept (t' := s.toks) kp
    have I2 : Inv X pins σ (upd H h'.objs.size (.tup ys)) { s with heap := h'.push { cls := .type "tuple", data := .seq its.toArray } } :=
      I1.laid (t' := s.toks) (fun b o e => Heap.get?_push_of_some _ e) (Nat.le_refl _) (show ObjOk X.prog X.w _ _ _ (.tup ys) from ⟨hz, its, r', IsTup.new _ _⟩)
    exact ⟨.ref h'.objs.size, _, I2, rfl, q _ (I1.hok.fresh (Nat.le_refl _))⟩
  · obtain ⟨its, r', pl, hz⟩ := I.tuple hq
    exact call_tuple_same pl ⟨.ref p, H, I, rfl, q⟩

/-! ### the call of a builtin's method: o.m(..) -/
/-- the value is of that builtin type -/
def tyV (K : PySem.W.Frag) (T : String) (x : V) (H : Hp) : Prop := match x with
  | .str _ => T = "str"
  | .int _ => T = "int"
  | .ref p => (T = "list" ∧ ∃ xs, SqL K H p xs) ∨ (T = "tuple" ∧ ∃ o, K.lookup p = some o ∧ o.cls = .type "tuple" ∧ o.dict = none) ∨
      (T = "dict" ∧ ((∃ kvs, H p = some (.dK kvs)) ∨ ∃ kvs, H p = some (.dT kvs))) ∨ (T = "set" ∧ ∃ S n, H p = some (.set S n))
  | _ => False
theorem tyV_is {pins : List (Addr × Obj)} {σ : St} {H : Hp} {s : Shared} {T : String} {x : V} {v : Value} (I : Inv X pins σ H s) (r : RelV x v) (ty : tyV X.K T x H) :
    s.TypeIs v T ∧ ∀ a, v = .ref a → ∃ ob, s.heap.get? a = some ob ∧ ob.dict = none := by
  cases x with
  | str z =>
    obtain ⟨t, rfl⟩ := r
    cases (show T = "str" from ty)
    exact ⟨typeIs_str s z t, fun _ e => nomatch e⟩
  | int i =>
    obtain ⟨t, rfl⟩ := r
    cases (show T = "int" from ty)
    exact ⟨typeIs_int s i t, fun _ e => nomatch e⟩
  | ref p =>
    cases r
    rcases ty with ⟨rfl, xs, hq⟩ | ⟨rfl, o, hk, hc, hd⟩ | ⟨rfl, hk⟩ | ⟨rfl, S, n, hk⟩
    · obtain ⟨its, _, pl, _⟩ := I.list hq
      refine ⟨pl.isList.typeIs, fun a e => ?_⟩
      cases e
      obtain ⟨o, n, e, c, hd, _⟩ := pl
      exact ⟨o, e, hd⟩
    · refine ⟨⟨o, I.kIn p o hk, hc⟩, fun a e => ?_⟩
      cases e
      exact ⟨o, I.kIn _ o hk, hd⟩
    · have z : ∃ o, s.heap.get? p = some o ∧ o.ExactDict := by
        rcases hk with ⟨kvs, hk⟩ | ⟨kvs, hk⟩
        · obtain ⟨_, _, _, _, o, _, _, e, ex, _⟩ := I.hok p _ hk
          exact ⟨o, e, ex⟩
        · obtain ⟨_, _, _, _, o, _, _, e, ex, _⟩ := I.hok p _ hk
          exact ⟨o, e, ex⟩
      obtain ⟨o, e, ex⟩ := z
      refine ⟨⟨o, e, ex.1⟩, fun a e2 => ?_⟩
      cases e2
      exact ⟨o, e, ex.2.1⟩
    · obtain ⟨o, _, _, _, e, ex, _⟩ := I.hok p _ hk
      refine ⟨⟨o, e, ex.1⟩, fun a e2 => ?_⟩
      cases e2
      exact ⟨o, e, ex.2.1⟩
  | _ => exact False.elim ty
def tBM0 (K : PySem.W.Frag) (T : String) (r : V → List V → Hp → VK → Prop) (to : TE) : TE := fun σ H Q => to σ H fun x H1 => tyV K T x H1 ∧ r x [] H1 Q
def tBM (K : PySem.W.Frag) (T : String) (r : V → List V → Hp → VK → Prop) (to : TE) (t : TA) : TE := fun σ H Q => to σ H fun x H1 => tyV K T x H1 ∧ t σ H1 fun xs H2 => r x xs H2 Q
variable {o e : Expr} {es : List Expr} {to : TE} {t : TA} {name : Str} {apos cpos : Pos} {T id : String} {r : V → List V → Hp → VK → Prop}
theorem pe_bm (pa : PlainAttrs T) (slot : Slot T name id) (hty : typeOf (.builtin id) = pure (.type "method_descriptor")) (hm : MtR X id r) (ho : PE X o to) (ha : PA X (e :: es) t)
    (hbase : attributeBase o name X.env (eval o X.env) = eval o X.env := by rfl)
    (hfew : ((backTo cpos (starEach (e :: es) X.env)).all (fun x => !x.1) && (backToKw cpos (keywordEach [] X.env)).all (fun x => x.1.isSome)
      && decide ((e :: es).length + ([] : List Keyword).length + (if ([] : List Keyword).isEmpty then 0 else 1) < 30)) = true := by rfl)
    (hline : (apos.endLine == cpos.line) = true := by rfl) (hs : starEach (e :: es) X.env = (false, eval e X.env) :: starEach es X.env := by rfl) (hplain : (backTo cpos (starEach es X.env)).any (·.1) = false := by rfl) :
    PE X (.Call (.Attribute o name apos) (e :: es) [] cpos) (tBM X.K T r to t) := by
  intro pins s σ H Q I h
  refine wpAny_Call_method_late hbase hfew hline rfl (thn (ho pins s σ H _ I h) fun v s1 ⟨x, H1, I1, r1, ty, q1⟩ => ?_)
  obtain ⟨h1, h2⟩ := tyV_is I1 r1 ty
  refine ⟨T, id, pa, slot, hty, h1, h2, ?_⟩
  have hA := ha cpos pins s1 σ H1 _ I1 q1
  rw [hs] at hA ⊢
  refine Calls.callWith_builtin (by show (false || (backTo cpos (starEach es X.env)).any (·.1)) = false; rw [hplain] <;> rfl) (Calls.evalArgs_plain ?_)
  exact thn hA fun us s2 ⟨vs, H2, I2, r2, q2⟩ => hm pins s2 σ H2 x vs v us Q I2 r1 r2 q2
/- xs.append(e), list.index on a module's tuple .. are MtR facts of 06m -/
end
end L2

namespace L2
open PySem PySem.Spec PyProof.Rows

def MtM (X : Cx) (id : String) (r : V → List V → Hp → VK → Prop) : Prop :=
  ∀ (pins : List (Addr × Obj)) (s : Shared) (σ : St) (H : Hp) (x : V) (xs : List V) (v : Value) (us : List Value) (Q : VK), Inv X pins σ H s → RelV x v → Vals xs us → r x xs H Q →
    wpAny (model X.prog X.w) X.A (call (.builtin id) (v :: us)) (EP X pins σ Q) X.xe s

/-! ### lists of values -/
theorem Vals.one : ∀ {x : V} {us : List Value}, Vals [x] us → ∃ u, us = [u] ∧ RelV x u
  | _, _, .cons r .nil => ⟨_, rfl, r⟩
theorem Vals.two : ∀ {x y : V} {us : List Value}, Vals [x, y] us → ∃ u v, us = [u, v] ∧ RelV x u ∧ RelV y v
  | _, _, _, .cons r (.cons q .nil) => ⟨_, _, rfl, r, q⟩
theorem Vals.zero : ∀ {us : List Value}, Vals [] us → us = []
  | _, .nil => rfl
section
variable {X : Cx} {pins : List (Addr × Obj)} {σ : St} {H : Hp} {s : Shared} {l b : Addr} {xs ys zs : List V}

/-! ### the two steps: a tracked list is rewritten, a new list is laid -/
theorem Inv.lset {its its' : List Value} {n : Nat} {f : Array Value → Array Value} {t' : Nat} (I : Inv X pins σ H s) (hH : H l = some (.lst xs))
    (e : s.heap.get? l = some { cls := .type "list", data := .seq its.toArray n }) (hf : f its.toArray = its'.toArray) (hv : Vals ys its') (hz : ys.length ≤ sizeLine) :
    Inv X pins σ (upd H l (.lst ys)) { s with heap := s.heap.update l (Obj.mapSeq f), toks := t' } := by
  have q := PySem.IsL.update e f
  rw [hf] at q
  refine I.write (x := l) (e := l) (by rw [hH]; exact trivial) (.inl rfl) (fun b' u hb hu => (Heap.get?_update_other s.heap (Obj.mapSeq f) (Ne.symm hb)).trans hu) ⟨_, q⟩ ?_
  exact ⟨hz, its', _, hv, q⟩
theorem Inv.lnew {its : List Value} {t' : Nat} (I : Inv X pins σ H s) (hv : Vals ys its) (hz : ys.length ≤ sizeLine) :
    Inv X pins σ (upd H s.heap.objs.size (.lst ys)) { s with heap := s.heap.push { cls := .type "list", data := .seq its.toArray }, toks := t' } :=
  I.laid (fun _ _ q => Heap.get?_push_of_some _ q) (Nat.le_refl _) ⟨hz, its, 0, hv, Heap.get?_push_size _ rfl⟩
theorem Inv.fresh (I : Inv X pins σ H s) : H s.heap.objs.size = none := I.hok.fresh (Nat.le_refl _)
theorem Inv.lstM (I : Inv X pins σ H s) (hH : H l = some (.lst xs)) : xs.length ≤ sizeLine ∧ ∃ (its : List Value) (n : Nat), Vals xs its ∧ xs.length = its.length ∧ s.heap.get? l = some { cls := .type "list", data := .seq its.toArray n } := by
  obtain ⟨z, its, n, r, e⟩ := I.hok l _ hH
  exact ⟨z, its, n, r, r.length, e⟩

theorem notLongL {n : Nat} (h : n ≤ sizeLine) : Builtin.List.listTooLong n = false := by
  unfold Builtin.List.listTooLong
  exact decide_eq_false (by omega)
end

section
variable {X : Cx}

/-! ### methods -/
def rAppend : V → List V → Hp → VK → Prop := fun x vs H Q => ∃ l xs y, x = .ref l ∧ vs = [y] ∧ H l = some (.lst xs) ∧ xs.length < sizeLine ∧ Q .non (upd H l (.lst (xs ++ [y])))
theorem mt_append : MtM X "list.append" rAppend := by
  intro pins s σ H x vs v us Q I rx rv h
  obtain ⟨l, xs, y, rfl, rfl, hH, hz, q⟩ := h
  cases rx
  obtain ⟨u, rfl, ru⟩ := rv.one
  obtain ⟨z, its, n, r, hl, e⟩ := I.lstM hH
  refine call_meets F.slot_list_append ⟨_, e, rfl⟩ F.entry_list_append (F.args_list_append_2 _ _) (PySem.list_append l its.toArray n u (by rw [List.size_toArray]; omega)) ⟨e, ?_⟩
  refine ⟨.non, _, I.lset (its' := its ++ [u]) hH e (by simp) (r.append (.cons ru .nil)) ?_, rfl, q⟩
  rw [List.length_append, List.length_singleton]
  omega

def rExtend : V → List V → Hp → VK → Prop := fun x vs H Q => ∃ l b xs zs, x = .ref l ∧ vs = [.ref b] ∧ H l = some (.lst xs) ∧ H b = some (.lst zs) ∧ xs.length + zs.length ≤ sizeLine ∧ Q .non (upd H l (.lst (xs ++ zs)))
theorem mt_extend : MtM X "list.extend" rExtend := by
  intro pins s σ H x vs v us Q I rx rv h
  obtain ⟨l, b, xs, zs, rfl, rfl, hH, hB, hz, q⟩ := h
  cases rx
  obtain ⟨u, rfl, ru⟩ := rv.one
  cases ru
  obtain ⟨z, its, n, r, hl, e⟩ := I.lstM hH
  obtain ⟨z2, its2, n2, r2, hl2, e2⟩ := I.lstM hB
  have hsz : its.toArray.size + its2.toArray.size ≤ sizeLine := by rw [List.size_toArray, List.size_toArray]; omega
  have hlong : ¬ (!its.toArray.isEmpty && Builtin.List.listTooLong (its.toArray.size + its2.toArray.size)) = true := by
    rw [notLongL hsz, Bool.and_false]
    exact Bool.false_ne_true
  refine call_meets F.slot_list_extend ⟨_, e, rfl⟩ F.entry_list_extend (F.args_list_extend_2 _ _)
    (AutoSeq1.list_extend_list_list_0 l its.toArray n b its2.toArray n2 hlong (by rw [List.size_toArray]; omega) (by omega)) ⟨e, e2, ?_⟩
  refine ⟨.non, _, I.lset (its' := its ++ its2) hH e (by simp) (r.append r2) ?_, rfl, q⟩
  rw [List.length_append]
  omega

def rPop : V → List V → Hp → VK → Prop := fun x vs H Q => ∃ l xs y, x = .ref l ∧ vs = [] ∧ H l = some (.lst xs) ∧ xs[xs.length - 1]? = some y ∧ Q y (upd H l (.lst xs.dropLast))
def rPopAt : V → List V → Hp → VK → Prop := fun x vs H Q => ∃ l xs i k y, x = .ref l ∧ vs = [.int i] ∧ H l = some (.lst xs) ∧ -(2 ^ 63) ≤ i ∧ i < 2 ^ 63 ∧ seqIndex? i xs.length = some k ∧ xs[k]? = some y ∧ Q y (upd H l (.lst (xs.eraseIdx k)))
def rReverse : V → List V → Hp → VK → Prop := fun x vs H Q => ∃ l xs, x = .ref l ∧ vs = [] ∧ H l = some (.lst xs) ∧ Q .non (upd H l (.lst xs.reverse))
def rClear : V → List V → Hp → VK → Prop := fun x vs H Q => ∃ l xs, x = .ref l ∧ vs = [] ∧ H l = some (.lst xs) ∧ Q .non (upd H l (.lst []))
/-! ### list + list, list += list, list * int -/
def rCat : R2 := fun x y H Q => ∃ l b xs zs, x = .ref l ∧ y = .ref b ∧ H l = some (.lst xs) ∧ H b = some (.lst zs) ∧ xs.length + zs.length ≤ sizeLine ∧ ∀ p, H p = none → Q (.ref p) (upd H p (.lst (xs ++ zs)))
theorem op_cat : OpR X (binaryOp .Add) rCat := by
  intro pins s σ H x y v u Q I rx ry h
  obtain ⟨l, b, xs, zs, rfl, rfl, hH, hB, hz, q⟩ := h
  cases rx
  cases ry
  obtain ⟨z, its, n, r, hl, e⟩ := I.lstM hH
  obtain ⟨z2, its2, n2, r2, hl2, e2⟩ := I.lstM hB
  refine PySem.P.add_list e e2 ?_ (by rw [List.size_toArray, List.size_toArray]; omega)
  have ea : its.toArray ++ its2.toArray = (its ++ its2).toArray := by simp
  rw [ea]
  exact ⟨.ref _, _, I.lnew (t' := s.toks) (r.append r2) (by rw [List.length_append]; omega), rfl, q _ I.fresh⟩
/-- a list times an int (a negative one is nothing) -/
def rRep : R2 := fun x y H Q => ∃ l k xs, x = .ref l ∧ y = .int k ∧ H l = some (.lst xs) ∧ -(2 ^ 63) ≤ k ∧ k < 2 ^ 63 ∧ xs.length * k.toNat ≤ sizeLine ∧
  ∀ p, H p = none → Q (.ref p) (upd H p (.lst (List.replicate k.toNat xs).flatten))
/-! ### del xs[i] -/
end

/-! ### xs[a:b] = ys -/
section
variable {prog : Program} {w : World} {A : Around} {E : Value → Shared → Prop} {s : Shared}
set_option maxRecDepth 100000 in
end

section
variable {X : Cx}
end
end L2

namespace Att
open PySem PySem.W PySem.Calls PyProof.Rows

/-! ### the script -/
theorem ints_of_wellAll {P : Params} {h : Heap} : ∀ (ns : List Int) (vs : List Value), WellAll P h vs (ns.map WData.int) → IntsAre vs ns := by
  intro ns
  induction ns with
  | nil =>
    intro vs w
    rw [List.map_nil] at w
    cases w
    exact .nil
  | cons n ns ih =>
    intro vs w
    rw [List.map_cons] at w
    cases w with
    | cons a b =>
      cases a
      exact .cons _ _ (ih _ b)

theorem script_of {l : OpenLaw} {n : Nat} (hn : l.most = some n) {P : Params} {h : Heap} {args : List WData} {vals : List Value}
    (hpre : l.row.toRowW.claim.pre args = true) (hwl : WellAll P h vals args) :
    ∃ a vs ns, vals = [Value.ref a] ∧ args = [WData.list (ns.map WData.int)] ∧ h.get? a = some { cls := .type "list", data := .seq vs.toArray } ∧ IntsAre vs ns ∧ ns.length ≤ n := by
  have hsh : WShape.hasAll [] args [.list .int] = true := (pre_splitW hpre).1
  have hc : l.pre.holds [] { args := args } = true := (pre_splitW hpre).2
  obtain ⟨d, r, rfl, h1, h2⟩ := hasAllW_cons hsh
  obtain rfl := hasAllW_nil h2
  obtain ⟨xs, rfl, h3⟩ := hasW_list h1
  obtain ⟨ns, rfl⟩ := items_int h3
  have hlen : ns.length ≤ n := by
    unfold OpenLaw.pre at hc
    have h4 : (WTm.not (.lt (.lit (.int (n : Int))) (.len (.arg 0)))).holds [] { args := [.list (ns.map .int)] } = true := by
      have h4 := (holds_andW hc).1
      rw [hn] at h4
      exact h4
    have h5 := condW_of h4 (w_not (w_lt w_lit (w_len_list (w_arg rfl))))
    rw [List.length_map] at h5
    refine Nat.le_of_not_lt fun q => ?_
    have q' : (n : Int) < ((ns.length : Nat) : Int) := by omega
    first
      | (rw [decide_eq_true q'] at h5; exact absurd h5 (by decide))
      | (simp at h5; omega)
  cases hwl with
  | cons w1 w2 =>
    cases w2
    cases w1 with
    | list ho hall => exact ⟨_, _, ns, rfl, rfl, ho, ints_of_wellAll ns _ hall, hlen⟩

theorem post_true (l : OpenLaw) (args : List WData) : l.row.toRowW.claim.post args (.bool true) args = true :=
  postW_of (r := l.row.toRowW) (X := (true == true))
    (show WShape.has [] (.bool true) .bool = true by first | rfl | decide | simp [WShape.has, WShape.arms, WShape.armsAll])
    (show (WTm.eq .res (.lit (.bool true))).value [] { args := args, res := some (.bool true), after := args } = some (.bool (true == true)) from w_eq_bool (w_res rfl) w_lit) rfl

/-! ### the attachment: holds_open's last premise (the goal 'hc' behind k_head) from a wpAny of the law's body -/
/-- the same from a codeAny of the CALL (for a layer whose function contracts speak of calls) -/
theorem attach_call {l : OpenLaw} {n : Nat} {q : Program} {loose : List Str} {XP : (Str → Option Value) → Heap → Prop} {YP : World → Heap → Prop} {d : DefRec}
    (hn : l.most = some n) (hdf : d.params.defaults = [])
    (call : ∀ (w : World) (s₀ s₁ : Shared) (mg mb : Str → Option Value) (fa : Addr) (o : Obj) (pm cd doc : Value) (a : Addr) (vs : List Value) (ns : List Int),
      Ground q loose [] XP w s₀ mg mb s₁.heap → YP w s₁.heap →
      s₁.heap.get? fa = some o → o.data = .func (docDef d.name d.params d.body d.scope pm cd doc) → s₁.heap.CodeRec cd d.name → mg d.name = some (.ref fa) →
      s₁.heap.get? a = some { cls := .type "list", data := .seq vs.toArray } → IntsAre vs ns → ns.length ≤ n → s₁.gens = #[] →
      codeAny (model l.prog w) callerA (.call (.ref fa) ⟨[.ref a], []⟩) (fun r s' => r = .ok (.ret (.bool true)) ∧ OldK s₁.heap s'.heap ∧ s'.os = s₁.os ∧ AllBare s'.gens) s₁) :
    WalkO q loose XP YP l.row.toRowW d [] (fun f vs => PySem.call f vs) := by
  intro w s₀ s₁ mg mb G Y fa o pm cd doc dV kV ho hd hcd hD hmg hg args vals as hpre hlay hrd hwl hlo
  obtain rfl : dV = .none := Dflts.none hD hdf
  obtain rfl : kV = .none := Dflts.noKw hD
  obtain ⟨a, vs, ns, rfl, rfl, hobj, hints, hlen⟩ := script_of hn hpre hwl
  refine enter_call (codeAny_mono (call w s₀ s₁ mg mb fa o pm cd doc a vs ns G Y ho (fd_plain hd) hcd hmg hobj hints hlen hg) fun r s' hq => ?_)
  obtain ⟨rfl, h2, h3, h4⟩ := hq
  exact ⟨.inl ⟨.bool true, .bool true, [], rfl, fun _ => rfl, .bool true, post_true l _, fun _ => ⟨List.Pairwise.nil, fun _ hm => (nomatch hm)⟩⟩, h2, h3, h4⟩

/-! ### rules over ANY heap (no ledger) from facts about the written part K: the library's own take a ledger (News) for what they write -/
section
variable {prog : Program} {w : World} {A : Around} {E : Value → Shared → Prop} {s : Shared} {K : Frag}

/-! the whole heap as the ledger: makes every rule that writes through a ledger a rule over any heap -/
def noObjs (h : Heap) : Heap := { h with objs := #[] }
def ledger (h : Heap) (L d : Addr) : List (Addr × Obj) := (List.range h.objs.size).filterMap fun a => if a = L ∨ a = d then none else (h.get? a).map fun o => (a, o)
end
end Att

namespace L2
open PySem PySem.Spec PyProof.Rows

theorem vals_ints : ∀ {vs : List Value} {ns : List Int}, IntsAre vs ns → Vals (ns.map V.int) vs
  | _, _, .nil => .nil
  | _, _, .cons n t h => .cons ⟨t, rfl⟩ (vals_ints h)

/-- nothing is tracked but the script, known to the object (or it is an object of the module) -/
def Only (H : Hp) : Prop := ∀ b, H b = none ∨ ∃ o xs, H b = some (.frz o (.lst xs))

/-- THE HEAD: the law's promise, at the heap behind the top. F, the promise of the law's def, may use that base is part of the heap (so K.In base, base.Ns mainGlobals mg stand in Mod) -/
theorem law_call {P : Program} {w : World} {K : PySem.W.Frag} {mg mb : Str → Option Value} {CX : CXT} {k : Nat} {fa a : Addr} {fd : FuncData} {x : Str} {sp : Sp} {s₁ : Shared} {vs : List Value} {ns : List Int}
    (KX : K.In s₁.heap) (hns : s₁.heap.Ns mainGlobals mg) (hb : s₁.heap.Ns builtinsNs mb) (hbb : ∀ x : Str, x ≠ "__name__" → mb x = bootBuiltins x) (hlim : s₁.heap.NoLimit) (hg : s₁.gens = #[])
    (ha : s₁.heap.get? a = some { cls := .type "list", data := .seq vs.toArray }) (hi : IntsAre vs ns) (hl : ns.length ≤ sizeLine) (hr : Room k callerA)
    (F : ∀ base : Heap, K.In base → base.Ns mainGlobals mg → FnOk P w K mg base CX k fa fd [x] sp) (hbind : ∀ (s : Shared) (u : Value), BindsTo s fd ⟨[u], []⟩ [(x, u)])
    (hsp : ∀ H : Hp, Only H → SqL K H a (ns.map V.int) → sp [.ref a] H (fun v _ => v = .bl true) fun _ _ _ => False)
    (hCX : ∀ H e s', CX [] H s₁ (fun _ _ _ => False) e s' → False) :
    codeAny (model P w) callerA (.call (.ref fa) ⟨[.ref a], []⟩) (fun r s' => r = .ok (.ret (.bool true)) ∧ OldK s₁.heap s'.heap ∧ s'.os = s₁.os ∧ AllBare s'.gens) s₁ := by
  have rv := vals_ints hi
  have lenV := hi.length
  -- from an abstract heap in which nothing but the script may be tracked
  have core : ∀ H : Hp, Only H → SqL K H a (ns.map V.int) → HOk P w H s₁.heap → (∀ b, H b ≠ none → b = a) → (H a ≠ none → K.lookup a = none) →
      codeAny (model P w) callerA (.call (.ref fa) ⟨[.ref a], []⟩) (fun r s' => r = .ok (.ret (.bool true)) ∧ OldK s₁.heap s'.heap ∧ s'.os = s₁.os ∧ AllBare s'.gens) s₁ := by
    intro H hO hS hok hA hK
    have base_of : ∀ {b : Addr} {o : Obj}, s₁.heap.get? b = some o → H b = none → (hidT s₁.heap H).get? b = some o := fun e n => hidT_get e n
    have noA : ∀ {b : Addr} {o : Obj} {es : Array DictEntry} {ep : Nat}, s₁.heap.get? b = some o → o.data = .dict es ep → H b = none := fun {b o es ep} e d => by
      cases q : H b with
      | none => rfl
      | some u =>
        have e' : b = a := hA b (by rw [q]; simp)
        subst e'
        rw [ha] at e; cases e
        have d' : Data.seq vs.toArray _ = Data.dict es ep := d
        cases d'
    have nsK : ∀ {b : Addr} {m : Str → Option Value}, s₁.heap.Ns b m → (hidT s₁.heap H).Ns b m := fun {b m} ⟨o, es, ep, e, d, r⟩ => ⟨o, es, ep, base_of e (noA e d), d, r⟩
    have hKb : K.In (hidT s₁.heap H) := fun b o e => base_of (KX b o e) (by
      cases q : H b with
      | none => rfl
      | some u =>
        have e' : b = a := hA b (by rw [q]; simp)
        subst e'
        rw [hK (by rw [q]; simp)] at e; cases e)
    have hM : Mod K mg (hidT s₁.heap H) := ⟨hKb, nsK hns, ⟨mb, nsK hb, hbb⟩, let ⟨mc, h1, h2⟩ := hlim; ⟨mc, nsK h1, h2⟩⟩
    have e0 : Env0 P w K mg (hidT s₁.heap H) callerA [] s₁ H := ⟨rfl, hM, fun b o e => of_hidT e, Nat.le_of_eq (hidT_size _ _), trivial, fun b hb => absurd (show b ∈ ([] : List Addr) from hb) (by simp), hok, .of_eq hg⟩
    refine codeAny_mono ((F _ hKb (nsK hns)).run callerA [] s₁ H ⟨[.ref a], []⟩ [.ref a] [.ref a] _ _ hr e0 (hbind s₁ (.ref a)) (.cons rfl .nil) (hsp H hO hS)) fun r s' h => ?_
    cases r with
    | error e => exact (hCX H e s' h).elim
    | ok fl =>
      cases fl with
      | next => exact False.elim h
      | brk => exact False.elim h
      | cont => exact False.elim h
      | ret u =>
        obtain ⟨v, H', os, bare, un, hok', r', q⟩ := h
        have q' : v = .bl true := q
        subst q'
        obtain rfl : u = Value.bool true := r'
        refine ⟨rfl, OldK.of_keep fun b o e => ?_, os, bare⟩
        cases q : H b with
        | none => exact un.keep b o e q (by intro z; exact absurd (show b ∈ ([] : List Addr) from z) (by simp)) (by simp)
        | some u =>
          rcases hO b with z | ⟨ob, xs, z⟩
          · rw [q] at z; cases z
          · have z2 := un.frzs b ob _ z
            obtain ⟨e1, _⟩ := hok b _ z
            obtain ⟨e2, _⟩ := hok' b _ z2
            rw [e] at e1; cases e1
            exact e2
  cases hk : K.lookup a with
  | some o =>
    -- the script is one of the module's own objects
    have e := KX a o hk
    rw [ha] at e
    cases e
    refine core (fun _ => none) (fun _ => .inl rfl) (.inr ⟨_, vs.toArray, _, hk, rfl, rfl, rfl, by rw [List.size_toArray, lenV]; exact hl, by simpa using rv⟩) (fun b u z => by have z' : (none : Option HO) = some u := z; cases z') (fun b z => absurd rfl z) fun z => absurd rfl z
  | none =>
    refine core (fun b => if b = a then some (.frz { cls := .type "list", data := .seq vs.toArray } (.lst (ns.map V.int))) else none) (fun b => ?_) (.inl (.inr ⟨{ cls := .type "list", data := .seq vs.toArray }, if_pos rfl⟩)) (fun b u z => ?_) (fun b z => ?_) fun _ => hk
    · by_cases hb : b = a
      · exact .inr ⟨_, _, if_pos hb⟩
      · exact .inl (if_neg hb)
    · by_cases hb : b = a
      · have z' := (if_pos hb).symm.trans z
        cases z'
        subst hb
        exact ⟨ha, by rw [List.length_map]; exact hl, vs, _, rv, ha⟩
      · have z' := (if_neg hb).symm.trans z
        cases z'
    · by_cases hb : b = a
      · exact hb
      · exact absurd (if_neg hb) z
end L2

namespace L2
open PySem PySem.Spec PyProof.Rows

abbrev KOf {K : PySem.W.Frag} {h : Heap} (_ : K.In h) : PySem.W.Frag := K

/-- the goal that k_head leaves (case hc), from the law's promise. F gives the function object fd (K's own) once, then the promise over every base -/
theorem walk_of {l : PySem.W.OpenLaw} {n k : Nat} {q : Program} {loose : List Str} {XP : (Str → Option Value) → Heap → Prop} {YP : World → Heap → Prop} {d : DefRec} {K : Params → PySem.W.Frag} {CX : World → CXT} {sp : World → Sp} {x : Str}
    (hn : l.most = some n) (hn2 : n ≤ sizeLine) (hdf : d.params.defaults = []) (hr : Room k callerA)
    (hY : ∀ (w : World) (h : Heap), YP w h → (K w.params).In h)
    (F : ∀ (w : World) (mg : Str → Option Value) (fa : Addr) (h : Heap), (K w.params).In h → h.Ns mainGlobals mg → mg d.name = some (.ref fa) →
      ∃ fd : FuncData, (∀ (s : Shared) (u : Value), BindsTo s fd ⟨[u], []⟩ [(x, u)]) ∧
        ∀ base : Heap, (K w.params).In base → base.Ns mainGlobals mg → FnOk l.prog w (K w.params) mg base (CX w) k fa fd [x] (sp w))
    (hsp : ∀ (w : World) (H : Hp) (a : Addr) (ns : List Int), ns.length ≤ n → Only H → SqL (K w.params) H a (ns.map V.int) → sp w [.ref a] H (fun v _ => v = .bl true) fun _ _ _ => False)
    (hCX : ∀ (w : World) (H : Hp) (s : Shared) (e : Value) (s' : Shared), CX w [] H s (fun _ _ _ => False) e s' → False) :
    PySem.W.WalkO q loose XP YP l.row.toRowW d [] (fun f vs => PySem.call f vs) := by
  refine Att.attach_call hn hdf fun w s₀ s₁ mg mb fa o pm cd doc a vs ns G Y ho hd hcd hmg hobj hints hlen hg => ?_
  have KX := hY w _ Y
  obtain ⟨fd, hb, hF⟩ := F w mg fa _ KX G.T.g hmg
  exact law_call KX G.T.g G.T.b G.T.builtins G.T.nolimit hg hobj hints (Nat.le_trans hlen hn2) hr hF hb (fun H hO hS => hsp w H a ns hlen hO hS) fun H e s' => hCX w H s₁ e s'
end L2

/- THE LAST THEOREM (shape; LID, My.* are yours):
   My.Adr: a structure of the addresses that your layer names (classes, functions); My.Txt K t: a structure (Prop) of the equations over K;
   My.txt_mk : {K} {implicit addresses ..} (e1 : nsIn K mainGlobals "law" = some (some (.ref f))) (e2 : K.lookup f = some ⟨oc, od, .func (fnOf "law" "law" params body scope dV kV doc pm an cdv ct), sl⟩) (e3 : codeIn K cdv "law" = true) .. : ∃ t, My.Txt K t

set_option maxRecDepth 100000 in
set_option maxHeartbeats 0 in
theorem PySem.Challenge.cw_LID_holds : PySem.Challenge.rw_LID.Holds := by
  w_on; o_law; k_head; (case hw => w_witness2)
  k_fill
  refine L2.walk_of (l := PySem.Challenge.rw_LID) (n := 63) (k := 40) (x := "script") (CX := fun w => ..) (sp := fun _ => My.sp_law) rfl (by decide) rfl ⟨rfl, by decide, by decide⟩ (fun w h Y => PySem.W.kIn_of Y) ?F ?S ?C
  case F =>
    intro w mg fa h KX G hmg
    have T : ∃ t, My.Txt (L2.KOf KX) t := by
      dsimp only [L2.KOf]                          -- K must stand as «<heap const> w.params» for k_is
      refine' My.txt_mk ?e1 ?e2 ?e3 ..
      (case e1 => PySem.W.k_is)                    -- in the order: a name -> its address -> its object -> its parts
      (case e2 => PySem.W.k_is)
      ..
    obtain ⟨t, T⟩ := T
    have e0 := hmg.symm.trans (PySem.W.mg_of KX G T.law)
    cases e0                                       -- fa is the law's own address
    exact ⟨_, fun s u => .of_eq rfl, fun base kb nb => My.law_fn T kb nb⟩     -- if «.of_eq rfl» comes too early: refine' ⟨_, ?b, fun base kb nb => My.law_fn T kb nb⟩; exact fun s u => .of_eq rfl
  case S => exact fun w H a ns hl hO hS => ..
  case C => exact ..
(the tactic k_is has no namespace: write k_is) -/

/-! SHORT WORDS over the layer: a def of the text, its body, what a loop and a test want. -/
namespace L2
open PySem PySem.Spec PyProof.Rows

/-! ### the text by places -/
/-- the j-th statement of a class's body -/
def inClass (s : Stmt) (j : Nat) : Stmt := match s with
  | .ClassDef _ _ _ body _ _ _ _ _ _ _ => body.getD j (.Pass ⟨0, 0, 0, 0⟩)
  | _ => .Pass ⟨0, 0, 0, 0⟩
def defArgs (s : Stmt) : Arguments := match s with
  | .FunctionDef _ a _ _ _ _ _ _ _ _ => a
  | _ => { posonlyargs := [], args := [], vararg := none, kwonlyargs := [], kw_defaults := [], kwarg := none, defaults := [] }
def defBody (s : Stmt) : List Stmt := match s with
  | .FunctionDef _ _ b _ _ _ _ _ _ _ => b
  | _ => []
def defScope (s : Stmt) : Scope := match s with
  | .FunctionDef _ _ _ _ _ _ sc _ _ _ => sc
  | _ => { kind := .function, names := [], isGenerator := false, isCoroutine := false }

/-! ### no exception leaves a def -/
abbrev CX0 : CXT := fun _ _ _ _ _ _ => False
abbrev E0 : XK := fun _ _ _ => False
theorem pass0 {X : Cx} : Passes CX0 X E0 := fun _ _ _ _ _ _ _ h => h.elim

/-! ### a def (or method) of the text as it stands behind the top -/
structure Fun (K : PySem.W.Frag) (x qual : Str) (st : Stmt) (f : Addr) (fd : FuncData) : Prop where
  ex : ∃ (oc : Value) (od : Option Addr) (kV doc pm : Value) (an : Option Addr) (cdv ct : Value) (osl : Array (Option Value)),
    fd = PySem.W.fnOf x qual (defArgs st) (defBody st) (defScope st) .none kV doc pm an cdv ct ∧ K.lookup f = some ⟨oc, od, .func fd, osl⟩ ∧ PySem.W.codeIn K cdv qual = true
  kp : PySem.W.keepIn K (.ref f) = true
section
variable {P : Program} {w : World} {K : PySem.W.Frag} {mg : Str → Option Value} {base : Heap}
/-- THE RULE for a def: its body as a term of rules, and the reading of that term -/
theorem Fun.ok {x qual : Str} {st : Stmt} {f : Addr} {fd : FuncData} {N ps : List Str} {k : Nat} {sp : Sp} (F : Fun K x qual st f fd) (S : FnScope N ps (defScope st)) (len : ∀ vs H Q E, sp vs H Q E → vs.length = ps.length)
    (hbody : ∀ (cdv : Value) (A : Around) (outer : List Env) (s : Shared) (H : Hp) (vs : List V) (Q : VK) (E : XK), Room k (A.deeper (envOfC qual (defScope st) s.heap.objs.size f cdv)) → sp vs H Q E →
      ∃ t, PSs (cxOf CX0 P w K mg base N qual (defScope st) f cdv A outer s H E).nox (defBody st) t ∧ t { nx := fun _ H' => Q .non H', rt := Q } (start N vs) H) : FnOk P w K mg base CX0 (k + 1) f fd ps sp := by
  obtain ⟨oc, od, kV, doc, pm, an, cdv, ct, osl, rfl, lk, hcd⟩ := F.ex
  refine fn_of lk hcd S len fun A outer s H vs Q E hr hsp => ?_
  obtain ⟨t, h, q⟩ := hbody cdv A outer s H vs Q E hr hsp
  exact ⟨t, h.nox, q⟩
/-- how its arguments bind (no defaults): h is «fun _ _ _ _ _ _ us hl => match us, hl with | [_, _], _ => rfl», one _ a parameter -/
theorem Fun.binds {x qual : Str} {st : Stmt} {f : Addr} {fd : FuncData} {ps : List Str} (F : Fun K x qual st f fd)
    (h : ∀ (kV doc pm : Value) (an : Option Addr) (cdv ct : Value) (us : List Value), us.length = ps.length → bindArgs (PySem.W.fnOf x qual (defArgs st) (defBody st) (defScope st) .none kV doc pm an cdv ct) ⟨us, []⟩ = pure (ps.zip us)) : Binds K fd ps [] := by
  obtain ⟨oc, od, kV, doc, pm, an, cdv, ct, osl, rfl, lk, hcd⟩ := F.ex
  exact .all (h kV doc pm an cdv ct)
theorem fun_mk {x qual : Str} {st : Stmt} {f : Addr} {oc : Value} {od an : Option Addr} {osl : Array (Option Value)} {kV doc pm cdv ct : Value} (l : K.lookup f = some ⟨oc, od, .func (PySem.W.fnOf x qual (defArgs st) (defBody st) (defScope st) .none kV doc pm an cdv ct), osl⟩)
    (c : PySem.W.codeIn K cdv qual = true) (k : PySem.W.keepIn K (.ref f) = true) : Fun K x qual st f (PySem.W.fnOf x qual (defArgs st) (defBody st) (defScope st) .none kV doc pm an cdv ct) := ⟨⟨oc, od, kV, doc, pm, an, cdv, ct, osl, rfl, l, c⟩, k⟩
end
/-! ### expressions in short: the name that stands in the i-th slot -/
section
variable {X : Cx}
theorem pv (i : Nat) {x : Str} {pos : Pos} (hN : X.N[i]? = some x := by rfl) (hv : Vis X.env.scope x := by first | exact Or.inl rfl | exact Or.inr (Or.inl rfl) | exact Or.inr (Or.inr rfl)) (hd : (x == ("__debug__" : Str)) = false := by decide)
    (hcd : (x == ("__classdict__" : Str)) = false := by decide) : PE X (.Name x pos) (tVar i) := pe_var hN hv hd hcd
end

/-! ### tests -/
theorem iteF {A B : Prop} (h : B) : if false = true then A else B := by
  rw [if_neg Bool.false_ne_true]
  exact h
theorem iteT {A B : Prop} (h : A) : if true = true then A else B := by
  rw [if_pos rfl]
  exact h
theorem ite2 {c A B : Prop} [Decidable c] (h1 : c → A) (h2 : ¬ c → B) : if c then A else B := by
  by_cases h : c
  · rw [if_pos h]
    exact h1 h
  · rw [if_neg h]
    exact h2 h
theorem iteNS {c A B : Prop} [Decidable c] (hc : c) (h : B) : if (!decide c) = true then A else B := by
  rw [decide_eq_true hc]
  exact iteF h

/-! ### heaps -/
/-- all that was tracked is as it was -/
def Same (H H' : Hp) : Prop := ∀ b o, H b = some o → H' b = some o
theorem Same.refl (H : Hp) : Same H H := fun _ _ h => h
theorem Same.trans {H H1 H2 : Hp} (a : Same H H1) (b : Same H1 H2) : Same H H2 := fun c o h => b c o (a c o h)
theorem Same.seq {K : PySem.W.Frag} {H H' : Hp} {a : Addr} {xs : List V} (e : Same H H') (h : SqL K H a xs) : SqL K H' a xs := by
  rcases h with (h | ⟨o, h⟩) | h
  · exact .inl (.inl (e _ _ h))
  · exact .inl (.inr ⟨o, e _ _ h⟩)
  · exact .inr h

end L2

namespace L2
open PySem PySem.Spec PyProof.Rows

/-! ### list comprehensions, one clause -/
/-- the tests of a clause -/
def PIfs (X : Cx) (ifs : List Expr) (t : TT) : Prop :=
  ∀ (pins : List (Addr × Obj)) (s : Shared) (σ : St) (H : Hp) (Q : Bool → Hp → Prop), Inv X pins σ H s → t σ H Q →
    wpAny (model X.prog X.w) X.A (forIn ifs true fun c r => if r = true then do
      let ok ← isTrue c X.env (eval c X.env)
      pure (ForInStep.yield ok) else pure (ForInStep.yield r)) (TP X pins σ Q) X.xe s
def tYes : TT := fun _ H Q => Q true H
theorem pifs_nil {X : Cx} : PIfs X [] tYes := fun _ _ _ H _ I h => wpAny_tests_nil ⟨H, I, h⟩
theorem pifs_one {X : Cx} {c : Expr} {t : TT} (h : PT X c t) : PIfs X [c] t := fun pins s σ H Q I hw => wpAny_tests_one (h pins s σ H Q I hw)

/-- the cells that the block's names lead to -/
def clOf (env : Env) : List (Str × NameKind) → List (Str × Addr) → List (Str × Addr)
  | [], cs => cs
  | (n, k) :: r, cs => clOf env r (if (k == NameKind.free) = true then (n, (env.cells.lookup n).getD 0) :: cs else cs)
theorem clOf_loop {env : Env} : ∀ (names : List (Str × NameKind)) (cs : List (Str × Addr)), (∀ x ∈ names, x.2 = .free → ∃ c, env.cells.lookup x.1 = some c) →
    (forIn names cs fun (x : Str × NameKind) (r : List (Str × Addr)) => (if (x.2 == NameKind.free) = true then do
      let a ← cellOf env x.1
      pure (ForInStep.yield ((x.1, a) :: r)) else pure (ForInStep.yield r) : Sem (ForInStep (List (Str × Addr))))) = pure (clOf env names cs)
  | [], cs, _ => rfl
  | (n, k) :: r, cs, h => by
    rw [List.forIn_cons]
    by_cases hk : (k == NameKind.free) = true
    · obtain ⟨c, hc⟩ := h (n, k) List.mem_cons_self (by simpa using hk)
      have hc' : env.cells.lookup n = some c := hc
      have e1 : cellOf env n = pure c := by unfold cellOf; rw [hc']
      simp only [hk, if_true, e1, pure_bind]
      rw [clOf_loop r _ fun x hx => h x (List.mem_cons_of_mem _ hx)]
      simp [clOf, hk, hc']
    · simp only [hk, pure_bind]
      rw [if_neg (by simp), pure_bind]
      dsimp only
      rw [clOf_loop r _ fun x hx => h x (List.mem_cons_of_mem _ hx)]
      simp [clOf, hk]
theorem closure_is {scope : Scope} {env : Env} (h : ∀ x ∈ scope.names, x.2 = .free → ∃ c, env.cells.lookup x.1 = some c) : closureFor scope env = pure (clOf env scope.names []) := by
  have e := clOf_loop scope.names [] h
  simp only [closureFor]
  first
    | (rw [e]; rfl)
    | (refine Eq.trans (congrArg (fun t => t >>= _) e) ?_; rfl)
    | (simp only [e]; rfl)

theorem clOf_get {env : Env} {x : Str} {c : Addr} : ∀ (names : List (Str × NameKind)) (cs : List (Str × Addr)), (∀ y ∈ names, y.2 = .free → ∃ d, env.cells.lookup y.1 = some d) →
    (clOf env names cs).lookup x = some c → cs.lookup x = some c ∨ env.cells.lookup x = some c
  | [], cs, _, e => .inl e
  | (n, k) :: r, cs, h, e => by
    have e' : (clOf env r (if (k == NameKind.free) = true then (n, (env.cells.lookup n).getD 0) :: cs else cs)).lookup x = some c := e
    rcases clOf_get r _ (fun y hy => h y (List.mem_cons_of_mem _ hy)) e' with q | q
    · by_cases hk : (k == NameKind.free) = true
      · rw [if_pos hk] at q
        obtain ⟨d, hd⟩ := h (n, k) List.mem_cons_self (by simpa using hk)
        have hd' : env.cells.lookup n = some d := hd
        rw [List.lookup_cons] at q
        by_cases hx : (x == n) = true
        · rw [hx] at q
          have ex : x = n := by simpa using hx
          subst ex
          rw [hd'] at q
          simp at q
          exact .inr (by rw [hd', q])
        · simp only [hx] at q
          exact .inl q
      · rw [if_neg hk] at q
        exact .inl q
    · exact .inr q
theorem clOf_keep {env : Env} {x : Str} : ∀ (names : List (Str × NameKind)) (cs : List (Str × Addr)), (∃ c, cs.lookup x = some c) → ∃ c, (clOf env names cs).lookup x = some c
  | [], cs, h => h
  | (n, k) :: r, cs, h => by
    refine clOf_keep r _ ?_
    by_cases hk : (k == NameKind.free) = true
    · rw [if_pos hk, List.lookup_cons]
      cases hx : x == n with
      | true => exact ⟨_, rfl⟩
      | false => exact h
    · rw [if_neg hk]; exact h
theorem clOf_has {env : Env} {x : Str} : ∀ (names : List (Str × NameKind)) (cs : List (Str × Addr)), (x, NameKind.free) ∈ names → ∃ c, (clOf env names cs).lookup x = some c
  | (n, k) :: r, cs, h => by
    show ∃ c, (clOf env r (if (k == NameKind.free) = true then (n, (env.cells.lookup n).getD 0) :: cs else cs)).lookup x = some c
    rcases List.mem_cons.mp h with e | e
    · cases e
      refine clOf_keep r _ ⟨(env.cells.lookup x).getD 0, ?_⟩
      rw [if_pos (by rfl), List.lookup_cons]
      simp
    · exact clOf_has r _ e

def relN (env : Env) (names : List (Str × NameKind)) : List (Str × NameKind) :=
  names.map fun (n, k) => if (k == NameKind.free && env.scope.kind == .function && env.kindOf n == some .cell) then (n, NameKind.cell) else (n, k)
theorem relN_get {env : Env} {x : Str} {k' : NameKind} : ∀ (names : List (Str × NameKind)), (relN env names).lookup x = some k' → ∃ k, names.lookup x = some k ∧ (k' = k ∨ (k = .free ∧ k' = .cell))
  | [], h => by simp [relN] at h
  | (n, k) :: r, h => by
    have ih := relN_get (env := env) (x := x) (k' := k') r
    have h' : ((if (k == NameKind.free && env.scope.kind == .function && env.kindOf n == some .cell) = true then (n, NameKind.cell) else (n, k)) :: relN env r).lookup x = some k' := h
    by_cases hc : (k == NameKind.free && env.scope.kind == .function && env.kindOf n == some .cell) = true
    · rw [if_pos hc, List.lookup_cons] at h'
      rw [List.lookup_cons]
      cases hx : x == n with
      | true =>
        rw [hx] at h'
        have h2 : NameKind.cell = k' := Option.some.inj h'
        have hk : k = .free := by
          cases k <;> first | rfl | (simp at hc)
        exact ⟨k, rfl, .inr ⟨hk, h2.symm⟩⟩
      | false =>
        rw [hx] at h'
        exact ih h'
    · rw [if_neg hc, List.lookup_cons] at h'
      rw [List.lookup_cons]
      cases hx : x == n with
      | true =>
        rw [hx] at h'
        exact ⟨k, rfl, .inl (Option.some.inj h').symm⟩
      | false =>
        rw [hx] at h'
        exact ih h'

/-- the context of a comprehension's block -/
def cxComp (X : Cx) (scope : Scope) (N' : List Str) (fp : List Addr) (C : Addr) (s : Shared) (H : Hp) : Cx where
  prog := X.prog
  w := X.w
  K := X.K
  mg := X.mg
  base := X.base
  A := X.A
  N := N'
  s₀ := s
  H₀ := H
  env := compEnvC scope (clOf X.env scope.names []) C X.env
  outer := X.stack
  stack := X.stack
  ex := fp
  fn := fun _ => false
  calm := true
  pn := X.pn
  xe := fun _ _ => False

/-- the block's slots: own names empty, free ones from the frame around -/
def stComp (fr : List (Option Nat)) (σ : St) : St := fr.map fun o => o.bind fun j => (σ[j]?).join
def frOk (N : List Str) (kinds names : List (Str × NameKind)) (N' : List Str) (fr : List (Option Nat)) : Bool :=
  (N'.length == fr.length) && (N'.zip fr).all fun p => match p.2 with
    | none => true
    | some j => N[j]? == some p.1 && names.lookup p.1 == some NameKind.free && (kinds.lookup p.1 == some NameKind.cell || kinds.lookup p.1 == some NameKind.free)
theorem frOk_at {N : List Str} {kinds names : List (Str × NameKind)} {N' : List Str} {fr : List (Option Nat)} (h : frOk N kinds names N' fr = true) {i j : Nat} {x : Str} (h1 : N'[i]? = some x) (h2 : fr[i]? = some (some j)) :
    N[j]? = some x ∧ names.lookup x = some NameKind.free ∧ (kinds.lookup x = some NameKind.cell ∨ kinds.lookup x = some NameKind.free) := by
  unfold frOk at h
  rw [Bool.and_eq_true, List.all_eq_true] at h
  have hm : (x, some j) ∈ N'.zip fr := by
    refine List.mem_of_getElem? (i := i) ?_
    rw [List.getElem?_zip_eq_some]
    exact ⟨h1, h2⟩
  have q := h.2 _ hm
  simp only [Bool.and_eq_true, Bool.or_eq_true, beq_iff_eq] at q
  exact ⟨q.1.1, q.1.2, q.2⟩

/-- what a clause's scope must be -/
structure CompOk (X : Cx) (scope : Scope) (N' : List Str) (fr : List (Option Nat)) : Prop where
  kind : scope.kind = .function
  cells : ∀ y ∈ scope.names, y.2 ≠ .cell
  names : ∀ y ∈ scope.names, y.2 = .local → scope.names.lookup y.1 = some .local
  frees : ∀ y ∈ scope.names, y.2 = .free → X.env.kindOf y.1 = some .cell ∨ X.env.kindOf y.1 = some .free
  fr : frOk X.N X.env.scope.names scope.names N' fr = true

section
variable {X : Cx} {scope : Scope} {N' : List Str} {fr : List (Option Nat)} {pins : List (Addr × Obj)} {σ : St} {H : Hp} {s : Shared} {fp : List Addr}
theorem CompOk.has (c : CompOk X scope N' fr) (ok : X.Ok) : ∀ y ∈ scope.names, y.2 = .free → ∃ d, X.env.cells.lookup y.1 = some d := fun y hy h => ok.has _ (c.frees y hy h)
theorem inv_comp {C : Addr} {h' : Heap} {tk : Nat} {m : Str → Option Value} (c : CompOk X scope N' fr) (hc : X.calm = true) (I : Inv X pins σ H s) (hf : ∀ b ∈ fp, FpOk X pins H b) (hlt : ∀ b ∈ fp, b < s.heap.objs.size)
    (old : ∀ b o, s.heap.get? b = some o → h'.get? b = some o) (hC : s.heap.objs.size ≤ C) (hn : h'.Ns C m) :
    Inv (cxComp X scope N' fp C s H) pins (stComp fr σ) H { s with heap := h', toks := tk } := by
  have get : ∀ x d, (clOf X.env scope.names []).lookup x = some d → X.env.cells.lookup x = some d := fun x d e => by
    rcases clOf_get scope.names [] (c.has I.ok) e with q | q
    · simp at q
    · exact q
  have old2 : ∀ b, b < s.heap.objs.size → b ≠ C := fun b hb => Nat.ne_of_lt (Nat.lt_of_lt_of_le hb hC)
  have hl : (stComp fr σ).length = N'.length := by
    have q := c.fr
    unfold frOk at q
    rw [Bool.and_eq_true] at q
    have q1 : N'.length = fr.length := by simpa using q.1
    rw [stComp, List.length_map, q1]
  refine ⟨⟨I.ok.mod, c.kind, I.ok.glob, I.ok.blt, hC, ?_, ?_, (fun _ _ z => nomatch z), fun _ => I.ok.hd hc, I.ok.frames, .inl rfl, ?_, I.bs, Nat.le_trans I.ok.bsz I.sz, ?_, ?_, I.stack, I.stkFree⟩, rfl, I.bare, Un.kept old, ⟨m, hn, ?_⟩, ?_, I.hok.fresh hC, ?_, ?_, I.hok.kept old, hl⟩
  · exact fun x y d e1 e2 => I.ok.inj x y d (get x d e1) (get y d e2)
  · intro x hx
    have hx' : (relN X.env scope.names).lookup x = some .cell ∨ (relN X.env scope.names).lookup x = some .free := hx
    have fin : scope.names.lookup x = some .free → ∃ d, (clOf X.env scope.names []).lookup x = some d := fun e => clOf_has scope.names [] (PySem.mem_of_lookup e)
    rcases hx' with q | q
    · obtain ⟨k, e, z⟩ := relN_get scope.names q
      rcases z with z | ⟨z, _⟩
      · subst z
        exact absurd rfl (c.cells _ (PySem.mem_of_lookup e))
      · subst z
        exact fin e
    · obtain ⟨k, e, z⟩ := relN_get scope.names q
      rcases z with z | ⟨_, z⟩
      · subst z
        exact fin e
      · cases z
  · exact fun b hb => ⟨old2 b (hlt b hb), fun x d e => (hf b hb).2.2.2.2.1 x d (get x d e)⟩
  · intro b o e hb
    rcases (hf b hb).2.2.2.1 with z | z
    · exact I.ok.noex b o e z
    · exact absurd (Nat.lt_of_lt_of_le (Heap.lt_size e) (Nat.le_trans I.ok.bsz z)) (Nat.lt_irrefl _)
  · intro b hb hs
    rcases List.mem_cons.mp (I.stkSub b hs) with z | z
    · exact (hf b hb).2.1 z
    · exact (hf b hb).2.2.1 z
  · intro i x v e1 e2 e3
    have e2' : (fr.map fun o => o.bind fun j => (σ[j]?).join)[i]? = some (some v) := e2
    rw [List.getElem?_map] at e2'
    cases q : fr[i]? with
    | none => rw [q] at e2'; cases e2'
    | some o =>
      rw [q] at e2'
      have e3' : (o.bind fun j => (σ[j]?).join) = some v := Option.some.inj e2'
      cases o with
      | none => cases e3'
      | some j =>
        have e4 : (σ[j]?).join = some v := e3'
        have e5 : σ[j]? = some (some v) := by
          cases z : σ[j]? with
          | none => rw [z] at e4; cases e4
          | some w => rw [z] at e4; exact congrArg some e4
        obtain ⟨f1, f2, f3⟩ := frOk_at c.fr e1 q
        obtain ⟨m0, hn0, hl0⟩ := I.loc
        have vis : Vis X.env.scope x := f3.elim (fun z => .inr (.inl z)) fun z => .inr (.inr z)
        obtain ⟨u, r, look⟩ := hl0 j x v f1 e5 vis
        refine ⟨u, r, ?_⟩
        rcases look with ⟨k, _⟩ | ⟨k, d, hd, hcell⟩
        · have k' : X.env.scope.names.lookup x = some .local := k
          rcases f3 with z | z <;> (rw [k'] at z; cases z)
        · refine .inr ⟨?_, d, ?_, ?_⟩
          · have e3'' : (relN X.env scope.names).lookup x = some .local ∨ (relN X.env scope.names).lookup x = some .cell ∨ (relN X.env scope.names).lookup x = some .free := e3
            rcases e3'' with z | z | z
            · obtain ⟨k2, e, z2⟩ := relN_get scope.names z
              rw [f2] at e
              cases e
              rcases z2 with z2 | ⟨_, z2⟩ <;> cases z2
            · exact .inl z
            · exact .inr z
          · obtain ⟨d', e⟩ := clOf_has (env := X.env) scope.names [] (PySem.mem_of_lookup f2)
            have := get x d' e
            rw [hd] at this
            cases this
            exact e
          · obtain ⟨ob, h1, h2⟩ := hcell
            exact ⟨ob, old _ _ h1, h2⟩
  · intro x d e
    obtain ⟨v, ob, h1, h2⟩ := I.cell x d (get x d e)
    exact ⟨v, ob, old _ _ h1, h2⟩
  · exact fun x d e => I.freeC x d (get x d e)
  · intro p hp
    obtain ⟨e, n, ne, nf, dd⟩ := I.pin p hp
    refine ⟨old _ _ e, n, old2 _ (Heap.lt_size e), fun hs => ?_, dd⟩
    rcases List.mem_cons.mp (I.stkSub p.1 hs) with z | z
    · exact ne z
    · exact nf z
end
end L2

namespace L2
open PySem PySem.Spec PyProof.Rows

section
variable {prog : Program} {w : World} {A : Around} {R : Result → Shared → Prop} {s : Shared}
/-- the loop of a list comprehension, any target -/
theorem comp_loop {elt tg iter : Expr} {ifs : List Expr} {scope : Scope} {pos : Pos} {it acc : Value} {env : Env} (J : Nat → Shared → Prop)
    (turn : ∀ n s, J n s → wpAny (model prog w) A (pyNext it) (fun r s1 => match r with
      | none => R (.ok .next) s1
      | some v => wpAny (model prog w) A (letOwnedTupleGo tg it v) (fun _ s2 => wpAny (model prog w) A (assign tg env v) (fun _ s3 =>
          wpAny (model prog w) A (forIn ifs true fun c r => if r = true then do
            let ok ← isTrue c env (eval c env)
            pure (ForInStep.yield ok) else pure (ForInStep.yield r)) (fun ok s4 =>
              if ok = true then wpAny (model prog w) A (eval elt env) (fun x s5 =>
                wpAny (model prog w) A (call (.builtin "list.append") [acc, x]) (fun _ s6 => ∃ m, m < n ∧ J m s6) (fun _ _ => False) s5) (fun _ _ => False) s4
              else ∃ m, m < n ∧ J m s4) (fun _ _ => False) s3) (fun _ _ => False) s2) (fun _ _ => False) s1) (fun _ _ => False) s)
    (n : Nat) (h : J n s) : codeAny (model prog w) A (.compLoop (.ListComp elt [⟨tg, iter, ifs, 0⟩] scope pos) 0 it acc env) R s := by
  refine codeAny_loop rfl J (fun k s1 hJ => ?_) n h
  show wpAny _ A ((compTurn (.ListComp elt [⟨tg, iter, ifs, 0⟩] scope pos) 0 it acc env).onRaise (fun y => do noteFrame y env; theTreesLotGoes y)) _ _ s1
  refine wpAny_noted (wpAny_mono (E := fun _ _ => False) ?_ (fun _ _ q => q) fun _ _ z => z.elim)
  rw [compTurn_list]
  refine wpAny_bind (wpAny_standAt (wpAny_bind (thn (turn k s1 hJ) fun r s2 h2 => ?_)))
  cases r with
  | none => exact wpAny_pure h2
  | some v =>
    refine wpAny_bind (thn h2 fun _ s3 h3 => wpAny_bind (thn h3 fun _ s4 h4 => wpAny_bind (thn h4 fun ok s5 h5 => ?_)))
    cases ok with
    | false => exact wpAny_pure ⟨rfl, h5⟩
    | true =>
      refine wpAny_bind (wpAny_bind (thn h5 fun x s6 h6 => wpAny_bind (thn h6 fun _ s7 h7 => ?_)))
      exact wpAny_pure (wpAny_pure ⟨rfl, h7⟩)
end

/-- an untracked object is tracked -/
theorem HOk.track {P : Program} {w : World} {H : Hp} {h : Heap} {a : Addr} {o : HO} (ok : HOk P w H h) (hn : H a = none) (new : ObjOk P w (upd H a o) h a o) : HOk P w (upd H a o) h := fun b u q => by
  by_cases hb : b = a
  · subst hb
    rw [upd_same] at q
    cases q
    exact new
  · rw [upd_ne hb] at q
    exact (ok b u q).stay (fun _ _ _ r => r) (fun c r => by rw [upd_ne (ne_of_none r hn)]; exact r) fun c xs r => by rw [upd_ne (ne_of_none r hn)]; exact r

/-- what the block does, turn by turn: W by the turn, a measure, the list so far, the slots, the heap -/
def CompW (J : It) (g : TG) (tt : TT) (te : TE) (fin : List V → Hp → Prop) (W : Nat → Nat → List V → St → Hp → Prop) : Prop :=
  ∀ i m ys σ H, W i m ys σ H → (J.stop i H ∧ ys.length ≤ sizeLine ∧ fin ys H) ∨ (J.go i H ∧ ys.length < sizeLine ∧ ∀ x H', J.yld i H x H' → g x σ H' fun σ2 H2 => tt σ2 H2 fun b H3 =>
    if b = true then te σ2 H3 fun y H4 => ∃ m', m' < m ∧ W (i + 1) m' (ys ++ [y]) σ2 H4 else ∃ m', m' < m ∧ W (i + 1) m' ys σ2 H3)

section
variable {X : Cx} {scope : Scope} {N' : List Str} {fr : List (Option Nat)} {pins : List (Addr × Obj)} {σ : St} {H : Hp} {s : Shared} {fp : List Addr} {it : Addr} {tn : Nat → Heap → Prop} {J : It}
  {elt tg iter : Expr} {ifs : List Expr} {g : TG} {tt : TT} {te : TE} {pos : Pos} {fin : List V → Hp → Prop} {W : Nat → Nat → List V → St → Hp → Prop} {RR : Value → Addr → Result → Shared → Prop} {E : Value → Shared → Prop}
theorem comp_block (c : CompOk X scope N' fr) (hc : X.calm = true) (I : Inv X pins σ H s) (T : Turn X.prog X.w X.K tg J fp it tn) (st : tn 0 s.heap) (hf : ∀ b ∈ fp, FpOk X pins H b)
    (hg : ∀ fp C s H, PG (cxComp X scope N' fp C s H) tg g) (ht : ∀ fp C s H, PIfs (cxComp X scope N' fp C s H) ifs tt) (he : ∀ fp C s H, PE (cxComp X scope N' fp C s H) elt te)
    (hW : CompW J g tt te fin W) (h0 : ∃ m, W 0 m [] (stComp fr σ) H)
    (hRR : ∀ D C ys H' s', Inv X pins σ (upd H' D (.lst ys)) s' → (∃ m, s'.heap.Ns C m) → FpOk X pins (upd H' D (.lst ys)) C → H' D = none → fin ys H' → RR (.ref D) C (.ok .next) s') :
    wpAny (model X.prog X.w) X.A (newList []) (fun acc s3 => wpAny (model X.prog X.w) X.A (newFunctionEnv scope X.env.globals (clOf X.env scope.names []) [] X.env.qual none .none (some X.env)) (fun cenv s4 =>
      codeAny (model X.prog X.w) X.A (.compStart (.ListComp elt [⟨tg, iter, ifs, 0⟩] scope pos) 0 (.ref it) acc { cenv with scope := relabel scope X.env }) (RR acc cenv.locals) s4) E s3) E s := by
  refine wpAny_newObj_type (wpAny_newFunctionEnv c.cells (by intro y hy; simp at hy) (fun h1 hns hsb => ?_) c.kind)
  dsimp only at hns hsb ⊢
  generalize hH2 : s.heap.push { cls := .type "list", dict := none, data := .seq ([] : List Value).toArray } = H2 at hns hsb ⊢
  have hD0 : s.heap.objs.size < H2.objs.size := by rw [← hH2, Heap.size_push]; exact Nat.lt_succ_self _
  generalize hDD : s.heap.objs.size = D at hD0 ⊢
  generalize hCC : H2.objs.size = C at hns hsb hD0 ⊢
  have up : ∀ b o, s.heap.get? b = some o → h1.get? b = some o := fun b o e => hsb.extBut b o (by
    have := Heap.lt_size e
    rw [hDD] at this
    exact Nat.ne_of_lt (Nat.lt_trans this hD0)) (Heap.get?_push_of_some _ (by rw [← hH2]; exact Heap.get?_push_of_some _ e))
  have accD : h1.get? D = some { cls := .type "list", dict := none, data := .seq ([] : List Value).toArray } := hsb.extBut _ _ (Nat.ne_of_lt hD0) (Heap.get?_push_of_some _ (by rw [← hH2, ← hDD]; exact Heap.get?_push_size _ rfl))
  have hlt : ∀ b ∈ fp, b < s.heap.objs.size := fun b hb => by
    obtain ⟨o, e, _⟩ := T.obj 0 _ st b hb
    exact Heap.lt_size e
  have hle : s.heap.objs.size ≤ C := by rw [hDD]; exact Nat.le_of_lt hD0
  generalize hX' : cxComp X scope N' fp C s H = X'
  have I1 : Inv X' pins (stComp fr σ) H { s with heap := h1, toks := s.toks + ([] : List (Str × Value)).length } := by
    subst hX'
    exact inv_comp c hc I hf hlt up hle hns
  have st1 : tn 0 h1 := T.keep _ _ _ st fun b hb o e => up b o e
  have pm : X'.prog = X.prog := by subst hX'; rfl
  have wm : X'.w = X.w := by subst hX'; rfl
  have km : X'.K = X.K := by subst hX'; rfl
  have cm : X'.calm = true := by subst hX'; rfl
  have am : X'.A = X.A := by subst hX'; rfl
  have xm : X'.xe = fun _ _ => False := by subst hX'; rfl
  have lm : X'.env.locals = C := by subst hX'; rfl
  have szm : X'.s₀.heap.objs.size = s.heap.objs.size := by subst hX'; rfl
  have nm : X'.pn = X.pn := by subst hX'; rfl
  have hg' := hg fp C s H
  have ht' := ht fp C s H
  have he' := he fp C s H
  have em : X'.env = compEnvC scope (clOf X.env scope.names []) C X.env := by subst hX'; rfl
  have fsm : X'.fs = frs X.stack := by subst hX'; rfl
  have exm : X'.ex = fp := by subst hX'; rfl
  rw [hX'] at hg' ht' he'
  have ageP : ∀ p ∈ X.pn ++ pins, p.1 < D := fun p hp => by rw [← hDD]; exact Heap.lt_size (I.pin p hp).1
  have ageC : ∀ x d, X'.env.cells.lookup x = some d → d < D := fun x d e => by
    rw [em] at e
    rcases clOf_get scope.names [] (c.has I.ok) e with q | q
    · simp at q
    · obtain ⟨v, z⟩ := I.cell x d q
      rw [← hDD]
      exact z.lt
  have cellF : ∀ x d, X'.env.cells.lookup x = some d → X.env.cells.lookup x = some d := fun x d e => by
    rw [em] at e
    rcases clOf_get scope.names [] (c.has I.ok) e with q | q
    · simp at q
    · exact q
  have fps : ∀ {H' : Hp} {oD : Obj}, (∀ b ∈ fp, H' b = none) → ∀ b ∈ fp, FpOk X' (pins ++ [(D, oD)]) H' b := fun {H' oD} hn b hb => by
    obtain ⟨_, f1, f2, f3, f4, f5⟩ := hf b hb
    have hbD : b < D := by rw [← hDD]; exact hlt b hb
    refine ⟨hn b hb, ?_, ?_, .inl (by rw [exm]; exact hb), fun x d e => f4 x d (cellF x d e), fun p hp => ?_⟩
    · rw [lm]; exact Nat.ne_of_lt (Nat.lt_trans hbD hD0)
    · rw [fsm]
      intro hs
      rcases List.mem_cons.mp (I.stkSub b hs) with z | z
      · exact f1 z
      · exact f2 z
    · rw [nm, ← List.append_assoc] at hp
      rcases List.mem_append.mp hp with z | z
      · exact f5 p z
      · rw [List.mem_singleton.mp z]
        exact Nat.ne_of_gt hbD
  have pinD : ∀ {σ' : St} {H' : Hp} {s' : Shared} {its : List Value} {k : Nat}, Inv X' pins σ' H' s' → s'.heap.get? D = some { cls := .type "list", data := .seq its.toArray k } → H' D = none →
      Inv X' (pins ++ [(D, { cls := .type "list", data := .seq its.toArray k })]) σ' H' s' := fun {σ' H' s' its k} J0 e n => J0.pins_of fun p hp => by
    rcases List.mem_append.mp hp with z | z
    · exact J0.pin p (List.mem_append_right _ z)
    · rw [List.mem_singleton.mp z]
      refine ⟨e, n, ?_, ?_, fun v q => by cases q⟩
      · show D ≠ X'.env.locals
        rw [lm]
        exact Nat.ne_of_lt hD0
      · rw [fsm]
        intro hs
        have hb := I.stkSub D hs
        rcases List.mem_cons.mp hb with z | z
        · have := I.lt
          rw [← z, hDD] at this
          exact Nat.lt_irrefl _ this
        · exact I.nofs (Nat.le_of_eq hDD) z
  have loop : ∀ s0 : Shared, s0 = { s with heap := h1, toks := s.toks + ([] : List (Str × Value)).length } →
      codeAny (model X.prog X.w) X.A (.compLoop (.ListComp elt [⟨tg, iter, ifs, 0⟩] scope pos) 0 (.ref it) (.ref D) X'.env) (RR (.ref D) C) s0 := by
    rintro s0 rfl
    obtain ⟨m0, w0⟩ := h0
    refine comp_loop (fun n s' => ∃ i ys σ' H' its k, Inv X' pins σ' H' s' ∧ tn i s'.heap ∧ (∀ b ∈ fp, H' b = none) ∧ s'.heap.get? D = some { cls := .type "list", data := .seq (its : List Value).toArray k } ∧ H' D = none ∧ Vals ys its ∧ W i n ys σ' H')
      ?_ m0 ⟨0, [], stComp fr σ, H, [], 0, I1, st1, fun b hb => (hf b hb).1, accD, I.hok.fresh (by rw [hDD]; exact Nat.le_refl _), .nil, w0⟩
    rintro n s1 ⟨i, ys, σ1, H1, its, k, J1, t1, n1, d1, nD1, v1, w1⟩
    have J1' := pinD J1 d1 nD1
    rcases hW i n ys σ1 H1 w1 with ⟨stop, hlen, fi⟩ | ⟨go, hlen, step⟩
    · have a1 := T.done X' pm wm km cm i _ s1 σ1 H1 (fun _ _ => False) J1' (fps n1) t1 stop
      rw [am] at a1
      refine thn a1 fun r s2 ⟨hr, J2⟩ => ?_
      subst hr
      obtain ⟨d2, nD2, _⟩ := J2.pin (D, _) (List.mem_append_right _ (List.mem_append_right _ List.mem_cons_self))
      have u2 : Un (frs X.stack) fp H H1 s.heap s2.heap := by
        have := J2.base
        subst hX'
        exact this
      have hok2 : HOk X.prog X.w (upd H1 D (.lst ys)) s2.heap := by
        have h2 := J2.hok
        rw [pm, wm] at h2
        exact h2.track nD1 ⟨hlen, its, k, v1, d2⟩
      have J3 : Inv X pins σ (upd H1 D (.lst ys)) s2 := by
        refine I.call' (ch := fp) (by have := J2.os; subst hX'; exact this) ⟨fun b o e n hb hx => u2.keep b o e n hb hx, fun b o e n hb hx => u2.slot b o e n hb hx, fun b o e n hx => ?_, fun b o e hx => u2.there b o e hx, fun b xs e => ?_, fun b o u e => ?_, fun b ps e => ?_⟩ hok2 J2.bare fun b hb => ?_
        · have ne : b ≠ D := Nat.ne_of_lt (by rw [← hDD]; exact Heap.lt_size e)
          rw [upd_ne ne]
          exact u2.free b o e n hx
        · have q := u2.tups b xs e
          rw [upd_ne (ne_of_none q nD1)]
          exact q
        · have q := u2.frzs b o u e
          rw [upd_ne (ne_of_none q nD1)]
          exact q
        · obtain ⟨more, q⟩ := u2.tbls b ps e
          exact ⟨more, by rw [upd_ne (ne_of_none q nD1)]; exact q⟩
        · obtain ⟨_, f1, f2, f3, f4, f5⟩ := hf b hb
          exact ⟨f3, f1, f4, f5⟩
      have nC : (upd H1 D (.lst ys)) C = none := by
        rw [upd_ne (Nat.ne_of_gt hD0)]
        have := J2.free
        rw [lm] at this
        exact this
      refine hRR D C ys H1 s2 J3 ?_ (I.fpOk hle nC) nD1 fi
      obtain ⟨m, hm, _⟩ := J2.loc
      rw [lm] at hm
      exact ⟨m, hm⟩
    · have a1 := T.item X' pm wm km cm i _ s1 σ1 H1 (fun _ _ => False) J1' (fps n1) t1 go
      rw [am] at a1
      refine thn a1 fun r s2 ⟨u, hr, h2⟩ => ?_
      subst hr
      refine thn h2 fun _ s3 ⟨x, H3, J3, r3, y3, t3, n3⟩ => ?_
      have J3' := J3.pinned (fps n3) (T.obj _ _ t3)
      have a3 := hg' _ s3 σ1 H3 x u _ J3' r3 (step x H3 y3)
      rw [pm, wm, am, xm] at a3
      refine thn a3 fun _ s4 ⟨σ4, H4, J4, q4⟩ => ?_
      have a4 := ht' _ s4 σ4 H4 _ J4 q4
      rw [pm, wm, am, xm] at a4
      refine thn a4 fun ok s5 ⟨H5, J5, q5⟩ => ?_
      have keepT : ∀ {σ' : St} {H' : Hp} {s' : Shared}, Inv X' (pins ++ [(D, { cls := .type "list", data := .seq its.toArray k })] ++ pinsAt fp s3.heap) σ' H' s' → tn (i + 1) s'.heap ∧ (∀ b ∈ fp, H' b = none) ∧ s'.heap.get? D = some { cls := .type "list", data := .seq its.toArray k } ∧ H' D = none ∧ Inv X' pins σ' H' s' := fun {σ' H' s'} J0 => by
        refine ⟨T.keep _ _ _ t3 fun b hb o e => (J0.pin (b, o) (List.mem_append_right _ (List.mem_append_right _ (mem_pinsAt hb e)))).1, fun b hb => ?_, ?_, ?_, J0.unpinned.unpinned⟩
        · obtain ⟨o, e, _⟩ := T.obj _ _ t3 b hb
          exact (J0.pin (b, o) (List.mem_append_right _ (List.mem_append_right _ (mem_pinsAt hb e)))).2.1
        · exact (J0.pin (D, _) (List.mem_append_right _ (List.mem_append_left _ (List.mem_append_right _ List.mem_cons_self)))).1
        · exact (J0.pin (D, { cls := .type "list", data := .seq its.toArray k }) (List.mem_append_right _ (List.mem_append_left _ (List.mem_append_right _ List.mem_cons_self)))).2.1
      cases ok with
      | false =>
        obtain ⟨m', hm, w'⟩ := q5
        obtain ⟨e1, e2, e3, e4, e5⟩ := keepT J5
        rw [if_neg Bool.false_ne_true]
        exact ⟨m', hm, i + 1, ys, σ4, H5, its, k, e5, e1, e2, e3, e4, v1, w'⟩
      | true =>
        rw [if_pos rfl]
        have a5 := he' _ s5 σ4 H5 _ J5 q5
        rw [pm, wm, am, xm] at a5
        refine thn a5 fun u6 s6 ⟨y, H6, J6, r6, m', hm, w6⟩ => ?_
        obtain ⟨e1, e2, e3, e4, e5⟩ := keepT J6
        refine append_at (hsz := by show its.toArray.size ≤ sizeLine; rw [List.size_toArray, ← v1.length]; exact Nat.le_of_lt hlen) e3 fun h7 sb7 d7 => ?_
        have J7 : Inv X' pins σ4 H6 { s6 with heap := h7 } := e5.turned (t' := s6.toks) (it := D) (fun b o hb e => sb7.extBut b o hb e) e4 (by rw [lm]; exact Nat.ne_of_lt hD0) (.inr (by rw [szm, hDD]; exact Nat.le_refl _)) (fun x d e => Nat.ne_of_lt (ageC x d e)) fun p hp => by
          rw [nm] at hp
          exact Nat.ne_of_lt (ageP p hp)
        refine ⟨m', hm, i + 1, ys ++ [y], σ4, H6, its ++ [u6], k + 1, J7, T.keep _ _ _ e1 fun b hb o e => sb7.extBut b o (Nat.ne_of_lt (by rw [← hDD]; exact hlt b hb)) e, e2, ?_, e4, v1.append (.cons r6 .nil), w6⟩
        rw [d7, List.push_toArray]
  have env1 : ({ newEnv scope C X.env.globals (clOf X.env scope.names []) X.env.qual none .none (some X.env) 0 with scope := relabel scope X.env } : Env) = X'.env := by rw [em]; rfl
  have lp := loop _ rfl
  rw [em] at lp
  exact codeAny_compStart_list lp (T.self _ 0 _ _ _ st1 lp)
/-- a list comprehension of one clause -/
def tComp (wi : TI) (fr : List (Option Nat)) (g : TG) (tt : TT) (te : TE) : TE := fun σ H Q => wi σ H fun J H1 =>
  ∃ W, CompW J g tt te (fun ys H' => ∀ p, H' p = none → Q (.ref p) (upd H' p (.lst ys))) W ∧ ∃ m, W 0 m [] (stComp fr σ) H1
theorem pe_comp {wi : TI} (c : CompOk X scope N' fr) (hc : X.calm = true) (hi : PI X tg iter wi) (hg : ∀ fp C s H, PG (cxComp X scope N' fp C s H) tg g) (ht : ∀ fp C s H, PIfs (cxComp X scope N' fp C s H) ifs tt)
    (he : ∀ fp C s H, PE (cxComp X scope N' fp C s H) elt te) (hs : ∀ x, foldedSetIterable iter X.env x = pure x := by intro _; rfl) : PE X (.ListComp elt [⟨tg, iter, ifs, 0⟩] scope pos) (tComp wi fr g tt te) := by
  intro pins s σ H Q I h
  rw [eval_ListComp]
  refine wpAny_comprehension_free (use := none) rfl hs (closure_is (c.has I.ok)) c.kind c.names (thn (hi pins s σ H _ I h) fun v s1 h1 => thn h1 fun itv s2 h2 => ?_)
  obtain ⟨it, fp, tn, J, H2, e, I2, T, st2, f2, W, hW, h0⟩ := h2
  subst e
  refine comp_block c hc I2 T st2 f2 hg ht he hW h0 ?_
  rintro D C ys H' s' J3 ⟨m, hm⟩ ⟨f0, f1, _, f3, f4, f5⟩ nD fi
  exact ⟨m, hm, fun h'' sb => ⟨.ref D, _, J3.turned (t' := s'.toks) (it := C) (fun b o hb e => sb.extBut b o hb e) f0 f1 f3 f4 f5, rfl, fi D nD⟩⟩
/-- name = [.. for .. in ..] -/
def tSetComp (i : Nat) (wi : TI) (fr : List (Option Nat)) (g : TG) (tt : TT) (te : TE) : TS := fun D σ H => wi σ H fun J H1 =>
  ∃ W, CompW J g tt te (fun ys H' => ∀ p, H' p = none → D.nx (σ.set i (some (.ref p))) (upd H' p (.lst ys))) W ∧ ∃ m, W 0 m [] (stComp fr σ) H1
theorem ps_setComp {wi : TI} {i : Nat} {y : Str} {py spos : Pos} (hN : X.N.Nodup) (hi' : X.N[i]? = some y) (hy : Loc X.env.scope y) (c : CompOk X scope N' fr) (hc : X.calm = true) (hi : PI X tg iter wi) (hg : ∀ fp C s H, PG (cxComp X scope N' fp C s H) tg g) (ht : ∀ fp C s H, PIfs (cxComp X scope N' fp C s H) ifs tt)
    (he : ∀ fp C s H, PE (cxComp X scope N' fp C s H) elt te) (hs : ∀ x, foldedSetIterable iter X.env x = pure x := by intro _; rfl)
    (hsw : swapsWith (.ListComp elt [⟨tg, iter, ifs, 0⟩] scope pos) (some (.Name y py)) spos.line X.env = pure true := by rfl) (hf : X.fn y = true ∨ X.env.scope.names.lookup y = some .local := by first | exact .inl rfl | exact .inr rfl | assumption) :
    PS X (.Assign [.Name y py] (.ListComp elt [⟨tg, iter, ifs, 0⟩] scope pos) spos) (tSetComp i wi fr g tt te) := by
  intro pins s σ H D I h
  rw [exec_Assign_Name_used _ _ _ _ hsw]
  refine wpAny_bind (wpAny_standAt (wpAny_bind ?_))
  show wpAny _ X.A (do let _ ← comprehension (.ListComp elt [⟨tg, iter, ifs, 0⟩] scope pos) scope X.env _ (newList []) false (eval iter X.env) (some (assign (.Name y py) X.env))) _ _ s
  refine wpAny_bind (thn (wpAny_comprehension_free (use := some (assign (.Name y py) X.env)) (Q := fun _ s' => SP X pins D .next s') rfl hs (closure_is (c.has I.ok)) c.kind c.names
    (thn (hi pins s σ H _ I h) fun v s1 h1 => thn h1 fun itv s2 h2 => ?_)) fun _ s' hq => wpAny_pure (wpAny_pure hq))
  obtain ⟨it, fp, tn, J, H2, e, I2, T, st2, f2, W, hW, h0⟩ := h2
  subst e
  refine comp_block c hc I2 T st2 f2 hg ht he hW h0 ?_
  rintro B C ys H' s' J3 ⟨m, hm⟩ ⟨f0, f1, _, f3, f4, f5⟩ nD fi
  show wpAny _ X.A (assign (.Name y py) X.env (.ref B)) _ _ s'
  refine wpAny_assign_Name (store_ok2 J3 hN hi' hy (show RelV (.ref B) (.ref B) from rfl) (fun s4 J4 ⟨a, sb, ha⟩ => ?_) hf)
  have nCa : C ≠ a := by
    rcases ha with z | z
    · rw [z]; exact f1
    · exact fun q => f4 y a z q.symm
  exact ⟨m, hm.sameBut sb nCa, fun h'' sb2 => ⟨_, _, J4.turned (t' := s4.toks) (it := C) (fun b o hb e => sb2.extBut b o hb e) f0 f1 f3 f4 f5, fi B nD⟩⟩
end
end L2

namespace L2
open PySem PySem.Spec PyProof.Rows

section
variable {X : Cx}
/-! ### isinstance, as a call by values -/
theorem call_isinst : CallR X (.builtin "isinstance") (fun xs H Q => ∃ x c t u b, xs = [x, c] ∧ RelV c u ∧ TyOf X.K H x t ∧ PySem.W.kitOne X.K t u = some b ∧ Q (.bl b) H) := by
  intro pins s σ H xs us Q I r h
  obtain ⟨x, c, t, u, b, rfl, rc, ty, e, q⟩ := h
  obtain ⟨u1, u2, rfl, r1, r2⟩ := Vals.two r
  have hu : u2 = u := by
    cases c <;> first
      | exact (show u2 = _ from r2).trans (show u = _ from rc).symm
      | skip
    all_goals (exfalso; obtain ⟨_, rfl⟩ := rc; unfold PySem.W.kitOne PySem.W.kitCls at e; split at e <;> first | (cases ty <;> simp_all) | (simp at e))
  subst hu
  exact isinst_ok I r1 ty e fun tk => ⟨.bl b, H, I.tok tk, rfl, q⟩

/-! ### deep sameness: both sides hold the same data -/
inductive SameD (K : PySem.W.Frag) (H : Hp) : Nat → V → V → Prop
  | flat {n : Nat} {x : V} (f : flatV x = true) : SameD K H n x x
  | tup {n : Nat} {a b : Addr} {xs ys : List V} (ha : SqT K H a xs) (hb : SqT K H b ys) (hl : xs.length = ys.length) (h : ∀ (i : Nat) (x y : V), xs[i]? = some x → ys[i]? = some y → SameD K H n x y) : SameD K H (n + 1) (.ref a) (.ref b)
  | lst {n : Nat} {a b : Addr} {xs ys : List V} (ha : SqL K H a xs) (hb : SqL K H b ys) (hl : xs.length = ys.length) (h : ∀ (i : Nat) (x y : V), xs[i]? = some x → ys[i]? = some y → SameD K H n x y) : SameD K H (n + 1) (.ref a) (.ref b)

theorem eqV_self {x : V} (f : flatV x = true) : eqV x x = true := by
  cases x <;> first | (exact absurd (show false = true from f) Bool.false_ne_true) | rfl | (simp [eqV])
theorem range_all_true (n : Nat) (e : Nat → Bool) (h : ∀ i, e i = true) : (List.range n).all e = true := by
  rw [List.all_eq_true]; intro i _; exact h i
theorem in1_units {A : Around} : A.in1.units ≤ A.units + 1 := by
  first
    | exact Nat.le_refl _
    | exact Nat.le_succ _
    | (simp [Around.in1])

theorem SameD.rc {pins : List (Addr × Obj)} {σ : St} {H : Hp} {s : Shared} (I : Inv X pins σ H s) {n : Nat} {x y : V} (h : SameD X.K H n x y) : ∀ (A : Around), A.units + n < cLine → ∀ (u v : Value), RelV x u → RelV y v → SeqAt.EqAt A s u v true := by
  induction h with
  | flat f => intro A hu u v ru rv; have := eqAt_V (A := A) (s := s) ru rv f f; rw [eqV_self f] at this; exact this
  | @tup n a b xs ys ha hb hl _ ih =>
    intro A hu u v ru rv
    cases (show u = Value.ref a from ru)
    cases (show v = Value.ref b from rv)
    by_cases e : a = b
    · subst e; exact SeqAt.EqAt.same _
    · obtain ⟨its, r1, t1, _⟩ := I.tuple ha
      obtain ⟨its2, r2, t2, _⟩ := I.tuple hb
      have hz : its.toArray.size = its2.toArray.size := by simp [← r1.length, ← r2.length, hl]
      refine SeqAt.EqAt.of_refs e ?_
      have q := SeqAt.RcAt.tuples (e := fun _ => true) (A := A) t1 t2 (by omega) (fun j h1 h2 => ?_)
      · rw [range_all_true _ _ (fun _ => rfl), hz] at q
        simpa using q
      · have l1 : j < xs.length := by have := r1.length; simp at h1; omega
        have l2 : j < ys.length := by omega
        obtain ⟨u1, e1, q1⟩ := r1.get (i := j) (x := xs[j]) (by simp [l1])
        obtain ⟨u2, e2, q2⟩ := r2.get (i := j) (x := ys[j]) (by simp [l2])
        have w1 : its.toArray[j] = u1 := by have := List.getElem?_eq_some_iff.mp e1; simpa using this.2
        have w2 : its2.toArray[j] = u2 := by have := List.getElem?_eq_some_iff.mp e2; simpa using this.2
        rw [w1, w2]
        exact ih j _ _ (by simp [l1]) (by simp [l2]) A.in1 (by have := @in1_units A; omega) _ _ q1 q2
  | @lst n a b xs ys ha hb hl _ ih =>
    intro A hu u v ru rv
    cases (show u = Value.ref a from ru)
    cases (show v = Value.ref b from rv)
    by_cases e : a = b
    · subst e; exact SeqAt.EqAt.same _
    · obtain ⟨its, r1, t1, _⟩ := I.list ha
      obtain ⟨its2, r2, t2, _⟩ := I.list hb
      have hz : its.toArray.size = its2.toArray.size := by simp [← r1.length, ← r2.length, hl]
      refine SeqAt.EqAt.of_refs e ?_
      have q := SeqAt.RcAt.lists (e := fun _ => true) (A := A) t1.isList t2.isList hz (by omega) (fun j h1 h2 => ?_)
      · rw [range_all_true _ _ (fun _ => rfl)] at q
        exact q
      · have l1 : j < xs.length := by have := r1.length; simp at h1; omega
        have l2 : j < ys.length := by omega
        obtain ⟨u1, e1, q1⟩ := r1.get (i := j) (x := xs[j]) (by simp [l1])
        obtain ⟨u2, e2, q2⟩ := r2.get (i := j) (x := ys[j]) (by simp [l2])
        have w1 : its.toArray[j] = u1 := by have := List.getElem?_eq_some_iff.mp e1; simpa using this.2
        have w2 : its2.toArray[j] = u2 := by have := List.getElem?_eq_some_iff.mp e2; simpa using this.2
        rw [w1, w2]
        exact ih j _ _ (by simp [l1]) (by simp [l2]) A.in1 (by have := @in1_units A; omega) _ _ q1 q2

/-- x == y, x != y where both hold the same data (tuples, lists at the top) -/
def rSame (K : PySem.W.Frag) (out : Bool) : R2 := fun x y H Q => ∃ a b xs ys n, x = .ref a ∧ y = .ref b ∧ ((SqT K H a xs ∧ SqT K H b ys) ∨ (SqL K H a xs ∧ SqL K H b ys)) ∧ xs.length = ys.length ∧ n ≤ 64 ∧
  (∀ (i : Nat) (x y : V), xs[i]? = some x → ys[i]? = some y → SameD K H n x y) ∧ Q (.bl out) H
theorem same_items {pins : List (Addr × Obj)} {σ : St} {H : Hp} {s : Shared} (I : Inv X pins σ H s) {A : Around} {n : Nat} {xs ys : List V} {its its2 : List Value} (hu : A.units + n < cLine) (r1 : Vals xs its) (r2 : Vals ys its2) (hl : xs.length = ys.length)
    (h : ∀ (i : Nat) (x y : V), xs[i]? = some x → ys[i]? = some y → SameD X.K H n x y) : ∀ j (h1 : j < its.toArray.size) (h2 : j < its2.toArray.size), SeqAt.EqAt A s its.toArray[j] its2.toArray[j] true := by
  intro j h1 h2
  have l1 : j < xs.length := by have := r1.length; simp at h1; omega
  have l2 : j < ys.length := by omega
  obtain ⟨u1, e1, q1⟩ := r1.get (i := j) (x := xs[j]) (by simp [l1])
  obtain ⟨u2, e2, q2⟩ := r2.get (i := j) (x := ys[j]) (by simp [l2])
  have w1 : its.toArray[j] = u1 := by have := List.getElem?_eq_some_iff.mp e1; simpa using this.2
  have w2 : its2.toArray[j] = u2 := by have := List.getElem?_eq_some_iff.mp e2; simpa using this.2
  rw [w1, w2]
  exact (h j _ _ (by simp [l1]) (by simp [l2])).rc I A hu _ _ q1 q2
theorem op_neS (hu : X.A.units + 66 < cLine) : OpR X (compareOp .NotEq) (rSame X.K false) := by
  intro pins s σ H x y v u Q I rx ry h
  obtain ⟨a, b, xs, ys, n, rfl, rfl, hk, hl, hn, hs, q⟩ := h
  cases (show v = Value.ref a from rx)
  cases (show u = Value.ref b from ry)
  have hu1 : X.A.in1.units + n < cLine := by have := @in1_units X.A; omega
  rcases hk with ⟨ha, hb⟩ | ⟨ha, hb⟩
  · obtain ⟨its, r1, t1, _⟩ := I.tuple ha
    obtain ⟨its2, r2, t2, _⟩ := I.tuple hb
    have hz : its.toArray.size = its2.toArray.size := by simp [← r1.length, ← r2.length, hl]
    refine EqBoolInt.of_rcne (SeqAt.RcNeAt.tuples (e := fun _ => true) t1 t2 (by omega) (same_items I hu1 r1 r2 hl hs)) ?_
    rw [range_all_true _ _ (fun _ => rfl), hz]
    exact ⟨.bl false, H, I, by simp [RelV], q⟩
  · obtain ⟨its, r1, t1, _⟩ := I.list ha
    obtain ⟨its2, r2, t2, _⟩ := I.list hb
    have hz : its.toArray.size = its2.toArray.size := by simp [← r1.length, ← r2.length, hl]
    refine EqBoolInt.of_rcne (SeqAt.RcNeAt.lists (e := fun _ => true) t1.isList t2.isList hz (by omega) (same_items I hu1 r1 r2 hl hs)) ?_
    rw [range_all_true _ _ (fun _ => rfl)]
    exact ⟨.bl false, H, I, rfl, q⟩

/-! ### xs == [], xs != []: by the length alone -/
def rNil (K : PySem.W.Frag) (neg : Bool) : R2 := fun x y H Q => ∃ a b xs, x = .ref a ∧ y = .ref b ∧ SqL K H a xs ∧ SqL K H b [] ∧ Q (.bl (neg ^^ decide (xs = []))) H
theorem op_eqNil (hu : X.A.units + 66 < cLine) : OpR X (compareOp .Eq) (rNil X.K false) := by
  intro pins s σ H x y v u Q I rx ry h
  obtain ⟨a, b, xs, rfl, rfl, ha, hb, q⟩ := h
  cases (show v = Value.ref a from rx)
  cases (show u = Value.ref b from ry)
  obtain ⟨its, r1, t1, _⟩ := I.list ha
  obtain ⟨its2, r2, t2, _⟩ := I.list hb
  have z2 : its2 = [] := Vals.zero r2
  subst z2
  cases xs with
  | nil =>
    have z1 : its = [] := Vals.zero r1
    subst z1
    exact SeqAt.eq_listAt (e := fun _ => true) t1.isList t2.isList rfl (by omega) (fun j h1 _ => absurd h1 (by simp)) ⟨.bl true, H, I, by simp [RelV], by simpa using q⟩
  | cons x xs =>
    have hl := r1.length
    exact SeqAt.eq_list_lengthsAt t1.isList t2.isList (by simp [← hl]) (by omega) ⟨.bl false, H, I, rfl, by simpa using q⟩
end
end L2

namespace L2
open PySem PySem.Spec PyProof.Rows

section
variable {X : Cx}
theorem kept_iter {h h' : Heap} {o : Obj} (hk : ∀ b u, b ∉ [h.objs.size] → (h.push o).get? b = some u → h'.get? b = some u) : ∀ b u, h.get? b = some u → h'.get? b = some u := fun b u e =>
  hk b u (fun hm => absurd (Heap.lt_size e) (by rw [List.mem_singleton.mp hm]; exact Nat.lt_irrefl _)) (Heap.get?_push_of_some _ e)
/-! ### min(t), max(t): a tuple of two ints -/
end
end L2

namespace L2
open PySem PySem.Spec PyProof.Rows

section
variable {X : Cx} {pins : List (Addr × Obj)} {σ : St} {H : Hp} {s : Shared}
end

/-! ### a list or a tuple, walked by its iterator -/
inductive Kd | l | t
def ItAt (k : Kd) (h : Heap) (it a : Addr) (i : Nat) : Prop := match k with | .l => h.IsListIter it a i | .t => h.IsTupleIter it a i
def SqK (k : Kd) (K : PySem.W.Frag) (H : Hp) (a : Addr) (xs : List V) : Prop := match k with | .l => SqL K H a xs | .t => SqT K H a xs
def SeqIs (k : Kd) (h : Heap) (a : Addr) (its : List Value) : Prop := match k with | .l => h.IsList a its.toArray | .t => h.IsTuple a its.toArray
def iterTy : Kd → String | .l => "list_iterator" | .t => "tuple_iterator"
section
variable {prog : Program} {w : World} {A : Around} {E : Value → Shared → Prop} {s : Shared}
end
end L2

namespace L2
open PySem PySem.Spec PyProof.Rows
open AutoSeq1 (wpAny_loadPart')

section
variable {prog : Program} {w : World} {A : Around} {E : Value → Shared → Prop} {s : Shared}
end

/-! ### for .. in enumerate(..), a tuple of names as its target -/
def ItE (k : Kd) (K : PySem.W.Frag) (a : Addr) : It :=
  ⟨fun i H => ∃ xs x, SqK k K H a xs ∧ xs[i]? = some x, fun i H x H' => ∃ p y, H p = none ∧ x = .ref p ∧ (∀ xs, SqK k K H a xs → xs[i]? = some y) ∧ H' = upd H p (.tup [.int i, y]), fun i H => ∃ xs, SqK k K H a xs ∧ xs.length ≤ i⟩
def iEnum (k : Kd) (K : PySem.W.Frag) (ta : TA) : TI := fun σ H R => ta σ H fun vs H1 => ∃ a xs, vs = [.ref a] ∧ SqK k K H1 a xs ∧ R (ItE k K a) H1
end L2

namespace L2
open PySem PySem.Spec PyProof.Rows
open AutoSeq1 (wpAny_loadPart')

/-- a zip at z over the iterators i1, i2, its pair of iterators at TI, its pair of last items at TO -/
structure ZipAt (h : Heap) (k1 k2 : Kd) (z TI TO i1 i2 l1 l2 : Addr) (f0 : Value) (n : Nat) : Prop where
  zz : IsZip h z TI TO f0
  ti : IsPair h TI (.ref i1) (.ref i2)
  to : ∃ a b, IsPair h TO a b
  a1 : ItAt k1 h i1 l1 n
  a2 : ItAt k2 h i2 l2 n
structure ZipNe (z TI TO i1 i2 : Addr) : Prop where
  TIz : TI ≠ z
  TOz : TO ≠ z
  i1z : i1 ≠ z
  i2z : i2 ≠ z
  TITO : TI ≠ TO
  TIi1 : TI ≠ i1
  TIi2 : TI ≠ i2
  TOi1 : TO ≠ i1
  TOi2 : TO ≠ i2
  i12 : i1 ≠ i2
section
variable {prog : Program} {w : World} {A : Around} {E : Value → Shared → Prop} {s : Shared}
abbrev zp1 (k1 : Kd) (h : Heap) (l1 : Addr) : Heap := h.push { cls := .type (iterTy k1), data := .fields #[.ref l1, .int 0 0] }
abbrev zp2 (k1 k2 : Kd) (h : Heap) (l1 l2 : Addr) : Heap := (zp1 k1 h l1).push { cls := .type (iterTy k2), data := .fields #[.ref l2, .int 0 0] }
abbrev zp3 (k1 k2 : Kd) (h : Heap) (l1 l2 : Addr) : Heap := (zp2 k1 k2 h l1 l2).push { cls := .type "tuple", data := .seq #[.ref h.objs.size, .ref (zp1 k1 h l1).objs.size] }
abbrev zp4 (k1 k2 : Kd) (h : Heap) (l1 l2 : Addr) : Heap := (zp3 k1 k2 h l1 l2).push { cls := .type "tuple", data := .seq #[.none, .none] }
abbrev zp5 (k1 k2 : Kd) (h : Heap) (l1 l2 : Addr) : Heap := (zp4 k1 k2 h l1 l2).push { cls := .type "zip", data := .fields #[.none, .bool false, .bool false, .ref (zp2 k1 k2 h l1 l2).objs.size, .ref (zp3 k1 k2 h l1 l2).objs.size] }
end

/-! ### for .. in zip(.., ..): the first is no longer than the second -/
def ItZ (k1 k2 : Kd) (K : PySem.W.Frag) (a b : Addr) : It :=
  ⟨fun i H => ∃ xs ys x y, SqK k1 K H a xs ∧ SqK k2 K H b ys ∧ xs[i]? = some x ∧ ys[i]? = some y,
   fun i H v H' => ∃ p x y, H p = none ∧ v = .ref p ∧ (∀ xs, SqK k1 K H a xs → xs[i]? = some x) ∧ (∀ ys, SqK k2 K H b ys → ys[i]? = some y) ∧ H' = upd H p (.tup [x, y]),
   fun i H => ∃ xs, SqK k1 K H a xs ∧ xs.length ≤ i⟩
def iZip (k1 k2 : Kd) (K : PySem.W.Frag) (ta : TA) : TI := fun σ H R => ta σ H fun vs H1 => ∃ a b xs ys, vs = [.ref a, .ref b] ∧ SqK k1 K H1 a xs ∧ SqK k2 K H1 b ys ∧ R (ItZ k1 k2 K a b) H1
/-! ### range with a step -/
def Itc (lo c : Int) (n : Nat) : It := ⟨fun i _ => i < n, fun i H x H' => H' = H ∧ x = .int (lo + i * c), fun i _ => n ≤ i⟩
def iRng3 (ta : TA) : TI := fun σ H R => ta σ H fun vs H1 => ∃ a b c : Int, vs = [.int a, .int b, .int c] ∧ c ≠ 0 ∧ c.natAbs < 1073741824 ∧ Builtin.Range.small a b c = true ∧ R (Itc a c (Builtin.Range.rangeSize a b c).toNat) H1
end L2

namespace L2
open PySem PySem.Spec PyProof.Rows

/-! ### a def of the text, by its name -/
structure Src (K : PySem.W.Frag) (mg : Str → Option Value) (x : Str) (st : Stmt) (ps : List Str) : Prop where
  ex : ∃ f fd, Fun K x x st f fd ∧ Binds K fd ps [] ∧ mg x = some (.ref f)
structure Def (P : Program) (w : World) (K : PySem.W.Frag) (mg : Str → Option Value) (base : Heap) (k : Nat) (x : Str) (ps : List Str) (sp : Sp) : Prop where
  ex : ∃ f fd, FnOk P w K mg base CX0 k f fd ps sp ∧ Binds K fd ps [] ∧ mg x = some (.ref f) ∧ PySem.W.keepIn K (.ref f) = true
theorem Src.def {P : Program} {w : World} {K : PySem.W.Frag} {mg : Str → Option Value} {base : Heap} {k : Nat} {x : Str} {st : Stmt} {N ps : List Str} {sp : Sp} (S : Src K mg x st ps) (sc : FnScope N ps (defScope st)) (len : ∀ vs H Q E, sp vs H Q E → vs.length = ps.length)
    (hbody : ∀ (f : Addr) (cdv : Value) (A : Around) (outer : List Env) (s : Shared) (H : Hp) (vs : List V) (Q : VK) (E : XK), Room k (A.deeper (envOfC x (defScope st) s.heap.objs.size f cdv)) → sp vs H Q E →
      ∃ t, PSs (cxOf CX0 P w K mg base N x (defScope st) f cdv A outer s H E).nox (defBody st) t ∧ t { nx := fun _ H' => Q .non H', rt := Q } (start N vs) H) : Def P w K mg base (k + 1) x ps sp := by
  obtain ⟨f, fd, F, b, m⟩ := S.ex
  exact ⟨f, fd, F.ok sc len (hbody f), b, m, F.kp⟩
theorem pe_def {X : Cx} {k : Nat} {x : Str} {ps : List Str} {sp : Sp} {e : Expr} {es : List Expr} {t : TA} {p pos : Pos} (D : Def X.prog X.w X.K X.mg X.base k x ps sp) (hr : Room k X.A) (hg : Gl X x) (ha : PA X (e :: es) t)
    (hdb : (x == ("__debug__" : Str)) = false := by decide) (he : starEach (e :: es) X.env = (false, eval e X.env) :: starEach es X.env := by rfl) (hpl : (backTo pos (starEach es X.env)).any (·.1) = false := by rfl) :
    PE X (.Call (.Name x p) (e :: es) [] pos) (tCall sp [] E0 t) := by
  obtain ⟨f, fd, F, b, m, kp⟩ := D.ex
  exact pe_call F hr hg m kp b .nil pass0 ha hdb he hpl

/-! ### sameness of the tracked heap -/
theorem Same.tup {K : PySem.W.Frag} {H H' : Hp} {a : Addr} {xs : List V} (e : Same H H') (h : SqT K H a xs) : SqT K H' a xs := by
  rcases h with (h | ⟨o, h⟩) | h
  · exact .inl (.inl (e _ _ h))
  · exact .inl (.inr ⟨o, e _ _ h⟩)
  · exact .inr h
theorem Same.seqK {K : PySem.W.Frag} {H H' : Hp} {k : Kd} {a : Addr} {xs : List V} (e : Same H H') (h : SqK k K H a xs) : SqK k K H' a xs := by
  cases k with
  | l => exact e.seq h
  | t => exact e.tup h
theorem Same.new {H : Hp} {p : Addr} {o : HO} (h : H p = none) : Same H (upd H p o) := fun b u e => by rw [upd_ne (ne_of_none e h)]; exact e
/-! ### paired lists -/
theorem Paired.at {α β : Type} {F : α → β → Prop} : ∀ {l₁ : List α} {l₂ : List β}, Paired F l₁ l₂ → ∀ {i : Nat} {a : α}, l₁[i]? = some a → ∃ b, l₂[i]? = some b ∧ F a b
  | _, _, .nil, i, a, e => by simp at e
  | _, _, .cons r t, 0, a, e => by simp at e; subst e; exact ⟨_, rfl, r⟩
  | _, _, .cons r t, i + 1, a, e => by
    obtain ⟨b, h1, h2⟩ := Paired.at t (i := i) (by simpa using e)
    exact ⟨b, by simpa using h1, h2⟩
theorem Paired.snoc {α β : Type} {F : α → β → Prop} : ∀ {l₁ : List α} {l₂ : List β}, Paired F l₁ l₂ → ∀ {a : α} {b : β}, F a b → Paired F (l₁ ++ [a]) (l₂ ++ [b])
  | _, _, .nil, _, _, h => .cons h .nil
  | _, _, .cons r t, _, _, h => .cons r (Paired.snoc t h)
theorem take_succ_of {α : Type} {l : List α} {i : Nat} {a : α} (h : l[i]? = some a) : l.take (i + 1) = l.take i ++ [a] := by
  rw [List.take_add_one, h]; rfl

/-! ### a comprehension over a list or a tuple -/
def ItK (k : Kd) (K : PySem.W.Frag) (a : Addr) : It := match k with | .l => Itl K a | .t => Itt K a
def iSeq (k : Kd) (K : PySem.W.Frag) (tl : TE) : TI := fun σ H R => tl σ H fun x H1 => ∃ a, x = .ref a ∧ (∃ xs, SqK k K H1 a xs) ∧ R (ItK k K a) H1
theorem pi_seq {X : Cx} {tg : Expr} (k : Kd) {l : Expr} {tl : TE} (hl : PE X l tl) : PI X tg l (iSeq k X.K tl) := by
  cases k with
  | l => exact pi_list hl
  | t => exact pi_tup hl
theorem itk_go {k : Kd} {K : PySem.W.Frag} {H : Hp} {a : Addr} {xs : List V} {i : Nat} (h : SqK k K H a xs) (hi : i < xs.length) : (ItK k K a).go i H := by
  cases k with
  | l => exact ⟨xs, xs[i], h, by simp [hi]⟩
  | t => exact ⟨xs, xs[i], h, by simp [hi]⟩
theorem itk_stop {k : Kd} {K : PySem.W.Frag} {H : Hp} {a : Addr} {xs : List V} {i : Nat} (h : SqK k K H a xs) (hi : xs.length ≤ i) : (ItK k K a).stop i H := by
  cases k with
  | l => exact ⟨xs, h, hi⟩
  | t => exact ⟨xs, h, hi⟩
theorem itk_yld {k : Kd} {K : PySem.W.Frag} {H H' : Hp} {a : Addr} {xs : List V} {i : Nat} {x : V} (h : SqK k K H a xs) (y : (ItK k K a).yld i H x H') : H' = H ∧ xs[i]? = some x := by
  cases k with
  | l => exact ⟨y.1, y.2 xs h⟩
  | t => exact ⟨y.1, y.2 xs h⟩
/-- S: what holds of the block's slots; Pv: of the turn, the list so far and the heap -/
theorem comp_seq {k : Kd} {K : PySem.W.Frag} {a : Addr} {xs : List V} {g : TG} {tt : TT} {te : TE} {fin : List V → Hp → Prop} {σ : St} {H : Hp} (S : St → Prop) (Pv : Nat → List V → Hp → Prop) (hσ : S σ) (h0 : Pv 0 [] H) (hz : xs.length < sizeLine)
    (hl : ∀ i ys H, i ≤ xs.length → Pv i ys H → SqK k K H a xs)
    (hs : ∀ (i : Nat) (x : V) (ys : List V) (σ : St) (H : Hp) (N : List V → St → Hp → Prop), xs[i]? = some x → S σ → Pv i ys H → (∀ ys' σ' H', S σ' → Pv (i + 1) ys' H' → ys'.length ≤ ys.length + 1 → N ys' σ' H') →
      g x σ H fun σ2 H2 => tt σ2 H2 fun b H3 => if b = true then te σ2 H3 fun y H4 => N (ys ++ [y]) σ2 H4 else N ys σ2 H3)
    (hd : ∀ ys H, Pv xs.length ys H → fin ys H) : ∃ W, CompW (ItK k K a) g tt te fin W ∧ ∃ m, W 0 m [] σ H := by
  refine ⟨fun i m ys σ H => m = xs.length - i ∧ i ≤ xs.length ∧ ys.length ≤ i ∧ S σ ∧ Pv i ys H, ?_, xs.length, by simp, Nat.zero_le _, Nat.le_refl _, hσ, h0⟩
  rintro i m ys σ H ⟨rfl, hi, hy, hS, p⟩
  have q := hl i ys H hi p
  by_cases hlt : i < xs.length
  · refine .inr ⟨itk_go q hlt, by omega, fun x H' y => ?_⟩
    obtain ⟨e, hy2⟩ := itk_yld q y
    subst e
    have := hs i x ys σ H' (fun ys' σ' H'' => ∃ m', m' < xs.length - i ∧ m' = xs.length - (i + 1) ∧ i + 1 ≤ xs.length ∧ ys'.length ≤ i + 1 ∧ S σ' ∧ Pv (i + 1) ys' H'') hy2 hS p (fun ys' σ' H'' a b c => ⟨_, by omega, rfl, hlt, by omega, a, b⟩)
    exact this
  · have e : i = xs.length := by omega
    subst e
    exact .inl ⟨itk_stop q (Nat.le_refl _), by omega, hd ys H p⟩

/-! ### for over enumerate, zip, a stepped range -/
theorem units66 {A : Around} {k : Nat} (hr : Room k A) : A.units + 66 < cLine := by have := hr.un; omega
end L2

namespace L2
open PySem PySem.Spec PyProof.Rows
/-- the check of a clause's scope, by computation -/
def compB (kinds : List (Str × NameKind)) (N : List Str) (scope : Scope) (N' : List Str) (fr : List (Option Nat)) : Bool :=
  (scope.kind == .function) && (scope.names.all fun y => y.2 != .cell) && (scope.names.all fun y => y.2 != .local || scope.names.lookup y.1 == some .local) &&
  (scope.names.all fun y => y.2 != .free || (kinds.lookup y.1 == some .cell || kinds.lookup y.1 == some .free)) && frOk N kinds scope.names N' fr
theorem compOk_of {X : Cx} {scope : Scope} {N' : List Str} {fr : List (Option Nat)} (h : compB X.env.scope.names X.N scope N' fr = true) : CompOk X scope N' fr := by
  unfold compB at h
  simp only [Bool.and_eq_true, List.all_eq_true] at h
  obtain ⟨⟨⟨⟨h1, h2⟩, h3⟩, h4⟩, h5⟩ := h
  refine ⟨by simpa using h1, fun y hy => by simpa using h2 y hy, fun y hy e => ?_, fun y hy e => ?_, h5⟩
  · have := h3 y hy
    rw [e] at this
    simpa using this
  · have := h4 y hy
    rw [e] at this
    simpa [Env.kindOf] using this
theorem yesT {σ : St} {H : Hp} {A B : Hp → Prop} (h : A H) : tYes σ H fun b H3 => if b = true then A H3 else B H3 := by
  show if true = true then A H else B H
  exact iteT h
end L2

namespace L2
open PySem PySem.Spec PyProof.Rows
section
open PySem.SeqAt
open PySem.AutoSeq1 (wpAny_loadPart')
open PySem.MeetsSeq PySem.MeetsSeq2 PySem.MeetsSeq3
/-- x <= y, as the interpreter asks it -/
def LeAt (A : Around) (s : Shared) (v u : Value) (r : Bool) : Prop := ∀ (prog : Program) (w : World) (E : Value → Shared → Prop) (Q : Value → Shared → Prop), Q (.bool r) s → wpAny (model prog w) A (richCompare .LtE v u) Q E s
/-- two tuples' items, up to the first that differ; z: what the sizes say -/
inductive CmpL (A : Around) (s : Shared) (z : Bool) : List Value → List Value → Bool → Prop
  | nilL (ws : List Value) : CmpL A s z [] ws z
  | nilR (v : Value) (vs : List Value) : CmpL A s z (v :: vs) [] z
  | eq {v u : Value} {vs ws : List Value} {b : Bool} (e : EqAt A s v u true) (t : CmpL A s z vs ws b) : CmpL A s z (v :: vs) (u :: ws) b
  | ne {v u : Value} {vs ws : List Value} {r : Bool} (e : EqAt A s v u false) (t : LeAt A s v u r) : CmpL A s z (v :: vs) (u :: ws) r
end
/-- t <= u of tuples of ints -/
def lexLe (z : Bool) : List Int → List Int → Bool
  | [], _ => z
  | _ :: _, [] => z
  | x :: xs, y :: ys => if x = y then lexLe z xs ys else decide (x ≤ y)
section
variable {X : Cx}
/-- (i, t) <= (j, u), the tuples of ints unlike -/
def rLeP (K : PySem.W.Frag) : R2 := fun x y H Q => ∃ a b i j p q ns ms, x = .ref a ∧ y = .ref b ∧ SqT K H a [.int i, .ref p] ∧ SqT K H b [.int j, .ref q] ∧ SqT K H p (ns.map V.int) ∧ SqT K H q (ms.map V.int) ∧ (i = j → ns ≠ ms) ∧
  Q (.bl (if i = j then lexLe (decide (ns.length ≤ ms.length)) ns ms else decide (i ≤ j))) H
/-! ### () + t is t -/
def rCat0 (K : PySem.W.Frag) : R2 := fun x y H Q => ∃ a b ys, x = .ref a ∧ y = .ref b ∧ SqT K H a [] ∧ SqT K H b ys ∧ Q (.ref b) H
theorem op_cat0 : OpR X (binaryOp .Add) (rCat0 X.K) := by
  intro pins s σ H x y v u Q I rx ry h
  obtain ⟨a, b, ys, rfl, rfl, ha, hb, k⟩ := h
  cases (show v = Value.ref a from rx)
  cases (show u = Value.ref b from ry)
  obtain ⟨its, r1, t1, _⟩ := I.tuple ha
  obtain ⟨its2, r2, t2, _⟩ := I.tuple hb
  rw [Vals.zero r1] at t1
  obtain ⟨⟨cls, dd, data, sl⟩, ho, hc, n, hd⟩ := id t1
  obtain ⟨⟨cls2, dd2, data2, sl2⟩, ho2, hc2, n2, hd2⟩ := id t2
  simp only at hc hd hc2 hd2
  subst hc hd hc2 hd2
  exact concat_meets ⟨_, ho, rfl⟩ ⟨_, ho2, rfl⟩ noFill_tuple_add seq_tuple_add PySem.F.slot_tuple_add PySem.F.entry_tuple_add (PySem.F.args_tuple_add_2 _ _) (tuple_addW0 a b _ its2.toArray n n2 dd dd2 sl sl2 (by simp)) ⟨ho, ho2, ⟨.ref b, H, I, rfl, k⟩⟩
end

/-! ### a comprehension over a range -/
theorem comp_range {lo : Int} {n : Nat} {g : TG} {tt : TT} {te : TE} {fin : List V → Hp → Prop} {σ : St} {H : Hp} (S : St → Prop) (Pv : Nat → List V → Hp → Prop) (hσ : S σ) (h0 : Pv 0 [] H) (hz : n < sizeLine)
    (hs : ∀ (i : Nat) (ys : List V) (σ : St) (H : Hp) (N : List V → St → Hp → Prop), i < n → S σ → Pv i ys H → (∀ ys' σ' H', S σ' → Pv (i + 1) ys' H' → ys'.length ≤ ys.length + 1 → N ys' σ' H') →
      g (.int (lo + i)) σ H fun σ2 H2 => tt σ2 H2 fun b H3 => if b = true then te σ2 H3 fun y H4 => N (ys ++ [y]) σ2 H4 else N ys σ2 H3)
    (hd : ∀ ys H, Pv n ys H → fin ys H) : ∃ W, CompW (Itr lo n) g tt te fin W ∧ ∃ m, W 0 m [] σ H := by
  refine ⟨fun i m ys σ H => m = n - i ∧ i ≤ n ∧ ys.length ≤ i ∧ S σ ∧ Pv i ys H, ?_, n, by simp, Nat.zero_le _, Nat.le_refl _, hσ, h0⟩
  rintro i m ys σ H ⟨rfl, hi, hy, hS, p⟩
  by_cases hlt : i < n
  · refine .inr ⟨hlt, by omega, fun x H' y => ?_⟩
    obtain ⟨e, y⟩ := y
    subst e y
    exact hs i ys σ _ (fun ys' σ' H'' => ∃ m', m' < n - i ∧ m' = n - (i + 1) ∧ i + 1 ≤ n ∧ ys'.length ≤ i + 1 ∧ S σ' ∧ Pv (i + 1) ys' H'') hlt hS p (fun ys' σ' H'' a b c => ⟨_, by omega, rfl, hlt, by omega, a, b⟩)
  · have e : i = n := by omega
    subst e
    exact .inl ⟨Nat.le_refl _, by omega, hd ys H p⟩
end L2

namespace L2
open PySem PySem.Spec PyProof.Rows
/-! ### splitting a text at a sign -/
def splitA (c : Nat) : List Nat → List Nat → List (List Nat)
  | cur, [] => [cur]
  | cur, x :: xs => if x = c then cur :: splitA c [] xs else splitA c (cur ++ [x]) xs
def cutsAt (c : Nat) : Nat → List Nat → List Nat
  | _, [] => []
  | k, x :: xs => if x = c then k :: cutsAt c (k + 1) xs else cutsAt c (k + 1) xs
/-- parts with a sign between them -/
def glue (c : Nat) : List (List Nat) → List Nat
  | [] => []
  | [p] => p
  | p :: q :: r => p ++ c :: glue c (q :: r)
/-! the model's own search for one sign -/
def mkS (l : List Nat) : Str := ⟨l.toArray⟩
section
variable {X : Cx}
/-- s.split(c), c one sign -/
def rSplit : V → List V → Hp → VK → Prop := fun x vs H Q => ∃ (z : Str) (c : Nat), x = .str z ∧ vs = [.str ⟨#[c]⟩] ∧ c < 256 ∧ z.length < 1000 ∧ ∀ p, H p = none → Q (.ref p) (upd H p (.lst ((splitA c [] z.cps.toList).map fun l => V.str (mkS l))))
end
end L2

namespace L2
open PySem PySem.Spec PyProof.Rows
section
variable {X : Cx}
/-! ### sum of a list of ints: some int -/
/-! ### int(text) -/
/-! ### f-strings -/
def TJ := St → Hp → Str → (Str → Hp → Prop) → Prop
def PJ (X : Cx) (es : List Expr) (t : TJ) : Prop := ∀ (pins : List (Addr × Obj)) (s : Shared) (σ : St) (H : Hp) (acc : Str) (Q : Str → Hp → Prop), Inv X pins σ H s → t σ H acc Q →
  Joins (model X.prog X.w) X.A X.xe (evalEach es X.env) acc (fun out s1 => ∃ H', Inv X pins σ H' s1 ∧ Q out H') s
def tJ0 : TJ := fun _ H acc Q => Q acc H
def tJ1 (te : TE) (tr : TJ) : TJ := fun σ H acc Q => te σ H fun v H1 => ∃ y, v = .str y ∧ (acc ++ y).length ≤ sizeLine ∧ tr σ H1 (acc ++ y) Q
theorem pj_nil : PJ X [] tJ0 := fun _ _ _ H _ _ I h => ⟨H, I, h⟩
theorem joins_mono {M : Model} {A : Around} {E : Value → Shared → Prop} : ∀ {es : List (Sem Value)} {acc : Str} {Q Q' : Str → Shared → Prop} {s : Shared}, (∀ o s, Q o s → Q' o s) → Joins M A E es acc Q s → Joins M A E es acc Q' s
  | [], _, _, _, _, f, h => f _ _ h
  | e :: es, _, _, _, _, f, h => thn h fun v s1 ⟨y, t, e1, e2, e3⟩ => ⟨y, t, e1, e2, joins_mono f e3⟩
theorem pj_cons {e : Expr} {es : List Expr} {te : TE} {tr : TJ} (he : PE X e te) (hr : PJ X es tr) : PJ X (e :: es) (tJ1 te tr) := by
  intro pins s σ H acc Q I h
  show wpAny _ _ (eval e X.env) _ _ s
  refine thn (he pins s σ H _ I h) fun v s1 ⟨x, H1, I1, r1, y, e1, hl, q⟩ => ?_
  subst e1
  obtain ⟨t, rfl⟩ := r1
  exact ⟨y, t, rfl, hl, hr pins s1 σ H1 _ Q I1 q⟩
theorem pe_joined {v1 v2 : Expr} {rest : List Expr} {t : TJ} {pos : Pos} (h : PJ X (v1 :: v2 :: rest) t) : PE X (.JoinedStr (v1 :: v2 :: rest) pos) (fun σ H Q => t σ H Str.empty fun out H' => out.length ≤ sizeLine ∧ Q (.str out) H') := by
  intro pins s σ H Q I hw
  refine wpAny_JoinedStr (joins_mono (fun o s1 ⟨H', I', hl, q⟩ => ⟨hl, ?_⟩) (h pins s σ H _ _ I hw))
  exact ⟨.str o, H', I'.tok _, ⟨_, rfl⟩, q⟩
theorem pe_fint {value : Expr} {te : TE} {pos : Pos} (h : PE X value te) : PE X (.FormattedValue value (-1) none pos) (fun σ H Q => te σ H fun v H1 => ∃ i, v = .int i ∧ i.natAbs.log2 < 1920 ∧ Q (.str (toString i)) H1) := by
  intro pins s σ H Q I hw
  refine wpAny_FormattedValue_plain (thn (h pins s σ H _ I hw) fun v s1 ⟨x, H1, I1, r1, i, e1, hl, q⟩ => ?_)
  subst e1
  obtain ⟨t, rfl⟩ := r1
  exact wpAny_formatField_int hl ⟨.str _, H1, I1.tok _, ⟨_, rfl⟩, q⟩
/-! ### sep.join(list of texts) -/
def rJoin (K : PySem.W.Frag) : V → List V → Hp → VK → Prop := fun x vs H Q => ∃ (z : Str) (l : Addr) (ys : List Str), x = .str z ∧ vs = [.ref l] ∧ SqL K H l (ys.map V.str) ∧ (ys.map (·.length)).sum + ys.length * z.length ≤ 16777216 ∧ Q (.str (Txt.join z ys)) H
/-! ### a text walked sign by sign -/
def Its (z : Str) : It := ⟨fun i _ => i < z.cps.size, fun i H x H' => H' = H ∧ ∃ c, z.cps[i]? = some c ∧ x = .str ⟨#[c]⟩, fun i _ => z.cps.size ≤ i⟩
def iStr (tl : TE) : TI := fun σ H R => tl σ H fun x H1 => ∃ z, x = .str z ∧ z.cps.all (· < 128) = true ∧ R (Its z) H1
end
end L2

namespace L2
open PySem PySem.Spec PyProof.Rows
/-! ### exceptions of the text's own classes -/
theorem ObjOk.there {P : Program} {w : World} {H : Hp} {h : Heap} {a : Addr} {o : HO} (x : ObjOk P w H h a o) : ∃ u, h.get? a = some u := by
  cases o with
  | lst xs => obtain ⟨_, _, _, _, e⟩ := x; exact ⟨_, e⟩
  | tup xs => obtain ⟨_, _, _, _, e, _⟩ := x; exact ⟨_, e⟩
  | dK kvs => obtain ⟨_, _, _, _, o, _, _, e, _⟩ := x; exact ⟨_, e⟩
  | dT kvs => obtain ⟨_, _, _, _, o, _, _, e, _⟩ := x; exact ⟨_, e⟩
  | set S n => obtain ⟨o, _, _, _, e, _⟩ := x; exact ⟨_, e⟩
  | ins C dx fs => obtain ⟨_, _, _, e, _⟩ := x; exact ⟨_, e⟩
  | own y => exact x
  | xd fs => obtain ⟨_, ⟨_, _, _, e, _⟩, _⟩ := x; exact ⟨_, e⟩
  | rng lo hi => obtain ⟨_, _, _, e⟩ := x; exact ⟨_, e⟩
  | frz ob u => exact ⟨_, x.1⟩
  | tbl ps => exact ⟨_, show h.get? a = some { cls := .none, data := .fields ps } from x⟩
  | met f y => exact ⟨_, show h.get? a = some (PySem.W.methodObj (.ref f) (.ref y)) from x⟩
  | ext φ => exact x.2.1
/-- every tracked object is kept -/
theorem HOk.stays {P : Program} {w : World} {H : Hp} {h h' : Heap} (x : HOk P w H h) (k : ∀ b u v, H b = some v → h.get? b = some u → h'.get? b = some u) : HOk P w H h' := fun a o e => by
  refine (x a o e).stay (fun b u hb q => ?_) (fun _ q => q) fun _ _ q => q
  rcases hb with rfl | hb
  · exact k _ u _ e q
  · exact k b u _ hb q
/-- how an exception lies behind a call: its object is new, a base below it holds all that was there and all that is tracked -/
def CXr (P : Program) (w : World) : CXT := fun outer H s E e s' => ∃ (ea C : Addr) (a0 : Value) (B : Heap) (H' : Hp), e = .ref ea ∧ s'.os = s.os ∧ AllBare s'.gens ∧ Un (frs outer) [] H H' s.heap s'.heap ∧ HOk P w H' s'.heap ∧
  Heap.FlyingW B outer ea (.ref C) a0 s'.heap ∧ (∀ b o, s'.heap.get? b = some o → ((∃ q, s.heap.get? b = some q) ∨ ∃ q, H' b = some q) → b ∉ frs outer → B.get? b = some o) ∧ E (.ref C) none H'
section
variable {P : Program} {w : World} {K : PySem.W.Frag} {mg : Str → Option Value} {base : Heap} {N : List Str} {qual : Str} {scope : Scope} {f : Addr} {cd : Value} {A : Around} {outer : List Env} {s0 : Shared} {H0 : Hp} {E : XK}
theorem frames_nf {h : Heap} {B : Heap} {l : List Env} (F : h.FunFrames B l) {b : Addr} {o : Obj} (hb : b ∈ frs l) (e : h.get? b = some o) : ∀ vs, o.data ≠ .fields vs := by
  obtain ⟨_, o', h1, h2⟩ := F.mem hb
  rw [e] at h1
  cases h1
  exact h2
theorem leave_raise {pins : List (Addr × Obj)} {σ : St} {H : Hp} {s2 : Shared} {h' : Heap} {e C : Addr} {vs : List Value} {E2 : Value → Shared → Prop} (I : Inv (cxOf (CXr P w) P w K mg base N qual scope f cd A outer s0 H0 E) pins σ H s2)
    (hx : Heap.MadeExcOf s2.heap h' e (.ref C) vs) (q : E (.ref C) none H) :
    wpAny (model P w) (A.deeper (envOfC qual scope s0.heap.objs.size f cd)) (leaving (envOfC qual scope s0.heap.objs.size f cd) (.ref e)) (fun _ s'' => CXr P w outer H0 s0 E (.ref e) s'') E2 { s2 with heap := h' } := by
  have hin : ∀ env ∈ (envOfC qual scope s0.heap.objs.size f cd :: outer), ∀ b, env.frame = some b → b ∈ frs (envOfC qual scope s0.heap.objs.size f cd :: outer) := fun env he b hb => List.mem_filterMap.mpr ⟨env, he, hb⟩
  have St : s2.heap.FunFrames base (envOfC qual scope s0.heap.objs.size f cd :: outer) := I.stack
  have hfr : (A.deeper (envOfC qual scope s0.heap.objs.size f cd)).frames = some (envOfC qual scope s0.heap.objs.size f cd :: outer) := I.ok.frames
  refine wpAny_leaves_madeW (s := { s2 with heap := h' }) (base := PySem.W.hideAll s2.heap (frs (envOfC qual scope s0.heap.objs.size f cd :: outer))) hfr rfl (fun b o z => PySem.W.of_hideAll _ z) (PySem.W.funFrames_hide St hin) hx fun h'' t x1 _ _ x4 => ?_
  have up : s2.heap.UpToSlots h'' := (Heap.UpToSlots.of_keeps hx.keeps).trans x4
  have fsub : ∀ b, b ∈ frs (envOfC qual scope s0.heap.objs.size f cd :: outer) → b = s0.heap.objs.size ∨ b ∈ frs outer := fun b hb => by
    have e : frs (envOfC qual scope s0.heap.objs.size f cd :: outer) = s0.heap.objs.size :: frs outer := rfl
    rw [e] at hb
    exact List.mem_cons.mp hb
  have kept : ∀ b o, b ≠ s0.heap.objs.size → b ∉ frs outer → s2.heap.get? b = some o → (PySem.W.hideAll s2.heap (frs (envOfC qual scope s0.heap.objs.size f cd :: outer))).get? b = some o := fun b o n1 n2 z =>
    PySem.W.hideAll_get _ z fun hm => (fsub b hm).elim n1 n2
  have slot : ∀ b o, b ∈ frs outer → s2.heap.get? b = some o → ∃ sl, h''.get? b = some { o with slots := sl } := fun b o hb z => up b o z (frames_nf I.funs hb z)
  have B : Un (frs outer) [] H0 H s0.heap s2.heap := I.base
  have ne0 : ∀ b o, s0.heap.get? b = some o → b ≠ s0.heap.objs.size := fun b o z => Nat.ne_of_lt (Heap.lt_size z)
  have freeL : H s0.heap.objs.size = none := I.free
  have trk : ∀ b u v, H b = some v → s2.heap.get? b = some u → (PySem.W.hideAll s2.heap (frs (envOfC qual scope s0.heap.objs.size f cd :: outer))).get? b = some u := fun b u v hv z => by
    refine PySem.W.hideAll_get _ z fun hm => ?_
    have := I.stkFree b hm
    rw [hv] at this
    cases this
  refine ⟨e, C, _, _, H, rfl, I.os, I.bare, ⟨fun b o z n hb hx' => ?_, fun b o z n hb hx' => ?_, B.free, fun b o z hx' => ?_, B.tups, B.frzs, B.tbls⟩, ?_, x1, fun b o z hh hb => ?_, q⟩
  · exact x1.1 b o (kept b o (ne0 b o z) hb (B.keep b o z n hb hx'))
  · obtain ⟨sl, z2⟩ := B.slot b o z n hb hx'
    obtain ⟨sl', z3⟩ := slot b _ hb z2
    exact ⟨sl', z3⟩
  · obtain ⟨o', z2⟩ := B.there b o z hx'
    by_cases hb : b ∈ frs outer
    · obtain ⟨sl', z3⟩ := slot b _ hb z2
      exact ⟨_, z3⟩
    · exact ⟨_, x1.1 b o' (kept b o' (ne0 b o z) hb z2)⟩
  · exact I.hok.stays fun b u v hv z => x1.1 b u (trk b u v hv z)
  · have : ∃ u, (PySem.W.hideAll s2.heap (frs (envOfC qual scope s0.heap.objs.size f cd :: outer))).get? b = some u := by
      rcases hh with ⟨q1, z1⟩ | ⟨q1, z1⟩
      · obtain ⟨o', z2⟩ := B.there b q1 z1 (by simp)
        exact ⟨o', kept b o' (ne0 b q1 z1) hb z2⟩
      · obtain ⟨u, z2⟩ := (I.hok b q1 z1).there
        exact ⟨u, trk b u _ z1 z2⟩
    obtain ⟨u, hu⟩ := this
    have := x1.1 b u hu
    rw [z] at this
    cases this
    exact hu
end
/-! the text's own classes under ValueError -/
abbrev bmVE : List Value := [.type "ValueError", .type "Exception", .type "BaseException", .type "object"]
structure ExcAt (h : Heap) (C : Addr) (bm : List Value) : Prop where
  ex : ∃ (N : Addr) (nm qn : Str) (bs : List Value) (hd : Bool) (sn : List Str) (sub : List Value) (ab : Bool) (col : Option Bool) (dd : Option Addr) (k0 k1 k2 k3 k5 : Option Value) (mN : Str → Option Value),
    h.get? C = some (excClassObj nm qn C N bs bm hd sn sub ab col dd k0 k1 k2 k3 k5 "ValueError.__new__") ∧ h.Ns N mN ∧ mN "__init__" = none ∧ OwnTail h bmVE bm
/-- what the frame says of a class, ready to be computed -/
def excB (K : PySem.W.Frag) (C : Addr) (bm : List Value) : Bool := PySem.W.excIn K C bmVE "ValueError.__new__" && (match K.lookup C with | some o => (match o.data with | .cls cd => cd.mro == .ref C :: bm | _ => false) | _ => false)
theorem excAt_of {K : PySem.W.Frag} {h : Heap} {C : Addr} {bm : List Value} (X : K.In h) (z : excB K C bm = true) : ExcAt h C bm := by
  unfold excB at z
  rw [Bool.and_eq_true] at z
  obtain ⟨z1, z2⟩ := z
  unfold PySem.W.excIn at z1
  split at z1
  next dd cd sl lk =>
    rw [lk] at z2
    split at z1
    next C2 bm2 k0 k1 k2 k3 n k5 hm hs =>
      simp only [Bool.and_eq_true, beq_iff_eq, Bool.not_eq_true'] at z1
      obtain ⟨⟨⟨⟨⟨y1, y2⟩, y3⟩, y4⟩, y5⟩, y6⟩ := z1
      subst y1 y2
      have z3 : (cd.mro == .ref C2 :: bm) = true := z2
      rw [beq_iff_eq, hm] at z3
      cases z3
      cases cd with
      | mk nm bs mro ns qn hd sn sub ab col del =>
        have e1 : mro = .ref C2 :: bm := hm
        have e2 : del = false := y3
        subst e1 e2
        have e3 : sl = #[k0, k1, k2, k3, some (.builtin "ValueError.__new__"), k5] := by
          cases sl with
          | mk l => exact congrArg Array.mk hs
        subst e3
        exact ⟨ns, nm, qn, bs, hd, sn, sub, ab, col, dd, k0, k1, k2, k3, k5, _, X _ _ lk, .of_isNs (PySem.W.isNs_of_in X y5), PySem.W.nsMap_none_of_in X y5 y6, PySem.W.tail_of_in X y4⟩
    next => cases z1
  next => cases z1
section
variable {P : Program} {w : World} {K : PySem.W.Frag} {mg : Str → Option Value} {base : Heap} {N : List Str} {qual : Str} {scope : Scope} {f : Addr} {cd : Value} {A : Around} {outer : List Env} {s0 : Shared} {H0 : Hp} {E : XK}
theorem bmVE_base : bmVE.contains (.type "BaseException") = true := by decide +kernel
theorem bmVE_value : bmVE.contains (.type "ValueError") = true := by decide +kernel
def tRaise (C : Addr) (E : XK) (ta : TA) : TS := fun _ σ H => ta σ H fun vs H1 => vs.length ≤ 100 ∧ E (.ref C) none H1
theorem ps_raise {x : Str} {C : Addr} {bm : List Value} {np cpos pos : Pos} {e : Expr} {ta : TA} (hg : Gl (cxOf (CXr P w) P w K mg base N qual scope f cd A outer s0 H0 E) x) (hm : mg x = some (.ref C)) (hc : excB K C bm = true)
    (ha : PA (cxOf (CXr P w) P w K mg base N qual scope f cd A outer s0 H0 E) [e] ta) (hd : (x == ("__debug__" : Str)) = false := by decide)
    (hs : starEach [e] (envOfC qual scope s0.heap.objs.size f cd) = [(false, eval e (envOfC qual scope s0.heap.objs.size f cd))] := by rfl) :
    PS (cxOf (CXr P w) P w K mg base N qual scope f cd A outer s0 H0 E) (.Raise (some (.Call (.Name x np) [e] [] cpos)) none pos) (tRaise C E ta) := by
  intro pins s σ H D I h
  have XA := excAt_of I.mod.kin hc
  obtain ⟨Na, nm, qn, bs, hd', sn, sub, ab, col, dd, k0, k1, k2, k3, k5, mN, e1, e2, e3, e4⟩ := XA.ex
  refine wpAny_Raise_call_subU (mN := mN) (nm := nm) (q := qn) (N := Na) (bs := bs) (bm := bm) (hdct := hd') (sn := sn) (sub := sub) (ab := ab) (col := col) (dd := dd) (k0 := k0) (k1 := k1) (k2 := k2) (k3 := k3) (k5 := k5) F.excBase_ValueError bmVE_value F.excBase_ValueError (e4.hasType bmVE_base) (I.ok.hd rfl) (by show (backTo cpos (starEach [e] (envOfC qual scope s0.heap.objs.size f cd))).any (·.1) = false; rw [hs]; rfl) e3 (ld_glob I hg hm ⟨rfl, ?_⟩ hd)
  have hA := ha cpos pins s σ H _ I h
  show wpAny _ _ (evalArgs (.ref C) true (backTo cpos (starEach [e] (envOfC qual scope s0.heap.objs.size f cd))) []) _ _ _
  have hA' : wpAny (model P w) (A.deeper (envOfC qual scope s0.heap.objs.size f cd)) (spliced (backTo cpos (starEach [e] (envOfC qual scope s0.heap.objs.size f cd)))) _ _ s := hA
  rw [hs] at hA' ⊢
  refine Calls.evalArgs_plain (thn hA' fun us s2 ⟨vs, H2, I2, r2, q2⟩ => ?_)
  refine ⟨rfl, ?_, I2.bk _ _ e1, e2.keeps I2.bk, e4.keeps I2.bk, fun h' ea hx => ?_⟩
  · show us.length ≤ sizeLine
    rw [← r2.length]
    exact Nat.le_trans q2.1 (by decide)
  · exact leave_raise I2 hx q2.2
end
end L2

namespace L2
open PySem PySem.Spec PyProof.Rows PySem.W
/-! ### isinstance of an exception of the text's own -/
def excKB (K : Frag) (C : Addr) : Bool :=
  findIn K (.ref C) "__getattribute__" == some (some (.builtin "BaseException.__getattribute__")) && findIn K (.ref C) "__getattr__" == some none && findIn K (.ref C) "__class__" == some (some (.builtin "object.__class__"))
    && subIn K (.ref C) (.type "BaseException") == some true && subIn K (.ref C) (.type "object") == some true && (clsIn K C).isSome
structure ExcK (K : Frag) (C : Addr) : Prop where
  g1 : findIn K (.ref C) "__getattribute__" = some (some (.builtin "BaseException.__getattribute__"))
  g2 : findIn K (.ref C) "__getattr__" = some none
  g3 : findIn K (.ref C) "__class__" = some (some (.builtin "object.__class__"))
  g4 : subIn K (.ref C) (.type "BaseException") = some true
  g5 : subIn K (.ref C) (.type "object") = some true
  g6 : (clsIn K C).isSome = true
theorem excK_of {K : Frag} {C : Addr} (h : excKB K C = true) : ExcK K C := by
  unfold excKB at h
  simp only [Bool.and_eq_true, beq_iff_eq] at h
  obtain ⟨⟨⟨⟨⟨h1, h2⟩, h3⟩, h4⟩, h5⟩, h6⟩ := h
  exact ⟨h1, h2, h3, h4, h5, h6⟩
section
variable {K : Frag} {prog : Program} {w : World} {A : Around} {E : Value → Shared → Prop} {h : Heap} {g : Array GenState} {d : Drawn} {t : Nat} {os : OsState} {a C : Addr} {o : Obj}
theorem xc_get {R : Result → Shared → Prop} (Z : ExcK K C) (X : K.In h) (hx : h.get? a = some o) (hc : o.cls = .ref C) (hq : R (.ok (.ret (.ref C))) ⟨h, g, d, t, os⟩) :
    codeAny (model prog w) A (.call (.builtin "getset_descriptor.__get__") ⟨[.builtin "object.__class__", .ref a, .ref C], []⟩) R ⟨h, g, d, t, os⟩ := by
  have hT5 : (⟨h, g, d, t, os⟩ : Shared).TypeIs (.builtin "object.__class__") "getset_descriptor" := F.typeOf_object_class
  have hs : Looks (model prog w) h (isSubtype (.ref C) (.type (".".intercalate ("object.__class__".cutAt '.').dropLast))) true := by rw [F.owner_object_class]; exact looks_subIn X Z.g5
  refine codeAny_call_builtin F.slot_gs_get.plain F.entry_gs_get (F.slot_gs_get.check _ _ _ _ _ _ _ _ hT5 (F.args_gs_get _ _ _) ?_)
  repeat (any_goals (first | assumption | (with_reducible refine wpAny_loadPart_at hx ?_; rw [hc]) | with_reducible refine Looks.at hs ?_ | wp_step))
  refine ⟨Code.quiet_builtin _ (by decide +kernel), codeAny_builtin F.entry_object_class ?_⟩
  repeat (any_goals (first | assumption | (with_reducible refine wpAny_loadPart_at hx ?_; rw [hc]) | wp_step))
theorem xc_entry {tk : Tok} {Q : Fin → Shared → Prop} (Z : ExcK K C) (X : K.In h) (hx : h.get? a = some o) (hc : o.cls = .ref C) (hq : Q (.done (.ret (.ref C))) ⟨h, g, d, t, os⟩) :
    wpAny (model prog w) A (Builtin.«object.__getattribute__» ⟨[.ref a, .str "__class__" tk], []⟩) Q E ⟨h, g, d, t, os⟩ := by
  have hT5 : (⟨h, g, d, t, os⟩ : Shared).TypeIs (.builtin "object.__class__") "getset_descriptor" := F.typeOf_object_class
  have f5 := F.typeOf_object_class
  have f6 := F.slot_gs_get.lookup
  have f7 := F.slot_gs_set.lookup
  have l3 : Looks (model prog w) h (typeLookup (.ref C) "__class__") _ := looks_findIn X Z.g3
  repeat (any_goals (first | assumption | (with_reducible refine wpAny_loadPart_at hx ?_; rw [hc]) | with_reducible refine Looks.at l3 ?_ | wp_step))
  refine xc_get Z X hx hc ?_
  repeat (any_goals (first | assumption | wp_step))
theorem xc_check {M : Model} {nameV : Value} {Q : Unit → Shared → Prop} (Z : ExcK K C) (X : K.In h) (hx : h.get? a = some o) (hc : o.cls = .ref C) (hq : Q () ⟨h, g, d, t, os⟩) : wpAny M A (checkBuiltinCall "BaseException.__getattribute__" ⟨[.ref a, nameV], []⟩) Q E ⟨h, g, d, t, os⟩ := by
  have hk : builtinKind "BaseException.__getattribute__" = some .slot := by decide +kernel
  have hsplit : splitId "BaseException.__getattribute__" = some ("BaseException", "__getattribute__") := by decide +kernel
  have ha := F.args_bexc_ga (.ref a) nameV
  have hs : Looks M h (isSubtype (.ref C) (.type "BaseException")) true := looks_subIn X Z.g4
  simp only [checkBuiltinCall, hk, hsplit]
  refine wpAny_bind ?_
  unfold isInstance
  repeat (first | (with_reducible refine wpAny_loadPart_at hx ?_; rw [hc]) | with_reducible refine Looks.at hs ?_ | wp_step)
  exact hq
theorem xc_call {tk : Tok} {R : Result → Shared → Prop} (Z : ExcK K C) (X : K.In h) (hx : h.get? a = some o) (hc : o.cls = .ref C) (hq : R (.ok (.ret (.ref C))) ⟨h, g, d, t, os⟩) :
    codeAny (model prog w) A (.call (.builtin "BaseException.__getattribute__") ⟨[.ref a, .str "__class__" tk], []⟩) R ⟨h, g, d, t, os⟩ :=
  codeAny_call_builtin F.attrBase_ValueError.ga.plain F.entry_bexc_ga (xc_check Z X hx hc (xc_entry Z X hx hc hq))
theorem xc_by {tk : Tok} {Q : Value → Shared → Prop} (Z : ExcK K C) (X : K.In h) (hx : h.get? a = some o) (hc : o.cls = .ref C) (hq : Q (.ref C) ⟨h, g, d, t, os⟩) :
    wpAny (model prog w) A (getAttrBy (.ref a) (.str "__class__" tk) false) Q E ⟨h, g, d, t, os⟩ := by
  have f3 := F.attrBase_ValueError.ga.bind (.ref a)
  have y0 : (false && onTheHeap (Value.builtin "BaseException.__getattribute__")) = false := rfl
  have y2 : (Value.builtin "BaseException.__getattribute__" == Value.builtin "object.__getattribute__") = false := by decide +kernel
  have y1 : (onTheHeap (Value.ref C) && Value.builtin "BaseException.__getattribute__" == Value.builtin "object.__getattribute__") = false := by rw [y2]; rfl
  have l1 : Looks (model prog w) h (typeLookup (.ref C) "__getattribute__") _ := looks_findIn X Z.g1
  have l2 : Looks (model prog w) h (typeLookup (.ref C) "__getattr__") _ := looks_findIn X Z.g2
  repeat (any_goals (first | assumption | (with_reducible refine wpAny_loadPart_at hx ?_; rw [hc]) | with_reducible refine Looks.at l1 ?_ | with_reducible refine Looks.at l2 ?_ | wp_step))
  refine xc_call Z X hx hc ?_
  repeat (any_goals (first | assumption | wp_step))
theorem xc_attr {Q : Option Value → Shared → Prop} (Z : ExcK K C) (X : K.In h) (hx : h.get? a = some o) (hc : o.cls = .ref C) (hq : Q (some (.ref C)) ⟨h, g, d, t + 1, os⟩) :
    wpAny (model prog w) A (getAttr? (.ref a) "__class__") Q E ⟨h, g, d, t, os⟩ := by
  unfold getAttr? getAttrBy?
  repeat (any_goals (first | assumption | with_reducible apply xc_by Z X hx hc | wp_step))
end
/-- the exception's object -/
def ExcObj (a C : Addr) (h : Heap) : Prop := ∃ o, h.get? a = some o ∧ o.cls = .ref C
theorem kitx_exc {K : Frag} {a C : Addr} (Z : ExcK K C) : KitX K (.ref a) (.ref C) (ExcObj a C) where
  ty := fun M h _ p => by
    obtain ⟨o, h1, h2⟩ := p
    exact h2 ▸ (Looks.ld h1).andThen .now
  it := fun M h X _ => by
    have z0 := Z.g6
    unfold clsIn at z0
    split at z0
    · rename_i ho
      intro A' Q' E' s' k q
      unfold isType loadHead
      exact wpAny_bind (wpAny_loadPart (k _ _ (X _ _ ho)) (wpAny_pure q))
    · cases z0
  ne := fun h tp dd its n sl X htp => by
    refine Bool.eq_false_iff.mpr fun q => ?_
    have e : Value.ref C = .ref tp := beq_iff_eq.mp q
    cases e
    have z0 := Z.g6
    unfold clsIn at z0
    split at z0
    · rename_i ho
      rw [X _ _ ho] at htp
      cases htp
    · cases z0
  ca := fun {prog w A E Q s} X p k => by
    obtain ⟨h, g, d, t, os⟩ := s
    obtain ⟨o, h1, h2⟩ := p
    exact xc_attr Z X h1 h2 k
/-- an exception, tracked -/
def excO (a C : Addr) : HO := .ext (ExcObj a C)
theorem excO_ok {P : Program} {w : World} {H : Hp} {h : Heap} {a C : Addr} (x : ExcObj a C h) : ObjOk P w H h a (excO a C) := by
  obtain ⟨o, h1, h2⟩ := id x
  exact ⟨x, ⟨o, h1⟩, fun a1 a2 ⟨o', e1, e2⟩ k => ⟨o', k o' e1, e2⟩⟩
section
variable {X : Cx}
theorem call_isinstX : CallR X (.builtin "isinstance") (fun xs H Q => ∃ (a C : Addr) (c : V) (u : Value) (b : Bool), xs = [.ref a, c] ∧ RelV c u ∧ H a = some (excO a C) ∧ ExcK X.K C ∧ kitOne X.K (.ref C) u = some b ∧ Q (.bl b) H) := by
  intro pins s σ H xs us Q I r h
  obtain ⟨a, C, c, u, b, rfl, rc, ha, Z, e, q⟩ := h
  obtain ⟨v1, v2, rfl, r1, r2⟩ : ∃ v1 v2, us = [v1, v2] ∧ RelV (.ref a) v1 ∧ RelV c v2 := by
    cases r with
    | cons p q =>
      cases q with
      | cons p' q' =>
        cases q'
        exact ⟨_, _, rfl, p, p'⟩
  cases r1
  obtain ⟨hx, _⟩ := I.hok a _ ha
  have e2 : v2 = u := by
    cases c <;> first
      | exact (show v2 = _ from r2).trans (show u = _ from rc).symm
      | skip
    all_goals (exfalso; obtain ⟨_, rfl⟩ := rc; unfold kitOne kitCls at e; split at e <;> simp_all)
  subst e2
  exact kia_one (kitx_exc Z) I.kIn hx e (by intro z; cases z) fun tk => ⟨.bl b, H, I.tok _, rfl, q⟩
end
end L2

namespace L2
open PySem PySem.Spec PyProof.Rows PySem.W
/-! ### try: a call, except C as n: a suite -/
section
variable {X : Cx} {pins : List (Addr × Obj)} {σ : St} {H H' : Hp} {s s' : Shared}
theorem Inv.track {a : Addr} {o : HO} (I : Inv X pins σ H s) (hn : H a = none) (new : ObjOk X.prog X.w (upd H a o) s.heap a o) (hL : a ≠ X.env.locals) (hC : ∀ x c, X.env.cells.lookup x = some c → c ≠ a) (hp : ∀ p ∈ X.pn ++ pins, p.1 ≠ a)
    (h0 : ∀ b u, X.s₀.heap.get? b = some u → b ∉ X.ex → b ≠ a) : Inv X pins σ (upd H a o) s := by
  have up : ∀ b v, H b = some v → upd H a o b = some v := fun b v e => by rw [upd_ne (ne_of_none e hn)]; exact e
  refine ⟨I.ok, I.os, I.bare, ⟨I.base.keep, I.base.slot, fun b u e n hx => ?_, I.base.there, fun b xs e => up _ _ (I.base.tups b xs e), fun b u xs e => up _ _ (I.base.frzs b u xs e), fun b ps e => ?_⟩, I.loc, I.cell, ?_, fun x c e => ?_, fun p q => ?_, HOk.track I.hok hn new, I.len⟩
  · rw [upd_ne (h0 b u e hx)]
    exact I.base.free b u e n hx
  · obtain ⟨m, e'⟩ := I.base.tbls b ps e
    exact ⟨m, up _ _ e'⟩
  · rw [upd_ne (Ne.symm hL)]
    exact I.free
  · rw [upd_ne (hC x c e)]
    exact I.freeC x c e
  · obtain ⟨e, n, r⟩ := I.pin p q
    exact ⟨e, by rw [upd_ne (hp p q)]; exact n, r⟩
/-- a name goes -/
theorem unbind_ok {M : Model} {A : Around} {E : Value → Shared → Prop} {i : Nat} {x : Str} {pos : Pos} {Q : Unit → Shared → Prop} (I : Inv X pins σ H s) (hN : X.N.Nodup) (hi : X.N[i]? = some x) (hx : X.env.scope.names.lookup x = some .local)
    (h : ∀ s', Inv X pins (σ.set i none) H s' → Q () s') : wpAny M A (do bindName X.env x .none; unbindBehindTheSuite X.env x pos) Q E s := by
  obtain ⟨m, hn, hl⟩ := id I.loc
  have kd : (X.env.scope.kind == .class || (X.env.scope.kind == .module && X.env.locals != X.env.globals)) = false := by rw [I.ok.kind]; rfl
  have hiσ : i < σ.length := by rw [I.len]; exact (List.getElem?_eq_some_iff.mp hi).1
  refine wpAny_nameGoes_keeps (env := X.env) hx hn kd fun h' v hn' hs => ?_
  obtain ⟨oL, _, _, hoL, _⟩ := id hn
  have away : ∀ b o, X.s₀.heap.get? b = some o → b ≠ X.env.locals := fun b o e => Nat.ne_of_lt (Nat.lt_of_lt_of_le (Heap.lt_size e) I.ok.above)
  refine h _ ⟨I.ok, I.os, I.bare, ⟨fun b o e n hb hx => (hs.2 b (away b o e)).trans (I.base.keep b o e n hb hx), fun b o e n hb hx => ?_, I.base.free, fun b o e hx => ?_, I.base.tups, I.base.frzs, I.base.tbls⟩, ⟨_, hn', fun j y v' e1 e2 e3 => ?_⟩, fun y c e => ?_, I.free, I.freeC, fun p hp => ?_, I.hok.stays fun b u v hv z => (hs.2 b fun q => ?_).trans z, by simpa using I.len⟩
  · obtain ⟨sl, e1⟩ := I.base.slot b o e n hb hx
    exact ⟨sl, (hs.2 b (away b o e)).trans e1⟩
  · obtain ⟨o', e1⟩ := I.base.there b o e hx
    exact ⟨o', (hs.2 b (away b o e)).trans e1⟩
  · by_cases hj : j = i
    · subst hj
      rw [List.getElem?_set_self hiσ] at e2
      cases e2
    · rw [List.getElem?_set_ne (Ne.symm hj)] at e2
      obtain ⟨u', r', q⟩ := hl j y v' e1 e2 e3
      refine ⟨u', r', ?_⟩
      rcases q with ⟨k, e⟩ | ⟨k, c, e, z⟩
      · refine .inl ⟨k, ?_⟩
        have : y ≠ x := fun e => hj (nodup_ix hN e1 (e ▸ hi))
        simp [this, e]
      · exact .inr ⟨k, c, e, z.sameBut hs (I.cne y c e)⟩
  · obtain ⟨w', z⟩ := I.cell y c e
    exact ⟨w', z.sameBut hs (I.cne y c e)⟩
  · obtain ⟨e, n, ne, nf, d⟩ := I.pin p hp
    exact ⟨(hs.2 p.1 ne).trans e, n, ne, nf, d⟩
  · rw [q, I.free] at hv
    cases hv
/-- behind a caught exception -/
theorem caught_inv {B h' : Heap} (I : Inv X pins σ H s) (os : s'.os = s.os) (bare : AllBare s'.gens) (un : Un (frs X.stack) [] H H' s.heap s'.heap) (hok : HOk X.prog X.w H' s'.heap) (fr : s'.heap.FunFrames B X.stack)
    (kB : ∀ b o, s'.heap.get? b = some o → ((∃ q, s.heap.get? b = some q) ∨ ∃ q, H' b = some q) → b ∉ frs X.stack → B.get? b = some o) (st : B.StaysIn h') (up : s'.heap.UpToSlots h') : Inv X pins σ H' { s' with heap := h' } := by
  have sl : ∀ b o, b ∈ frs X.stack → s'.heap.get? b = some o → ∃ sl, h'.get? b = some { o with slots := sl } := fun b o hb z => up b o z (frames_nf fr hb z)
  refine I.call' (ch := []) (s' := { s' with heap := h' }) os ⟨fun b o z n hb hx => ?_, fun b o z n hb hx => ?_, un.free, fun b o z hx => ?_, un.tups, un.frzs, un.tbls⟩ (hok.stays fun b u v hv z => ?_) bare (fun b z => absurd z (by simp))
  · exact st b o (kB b o (un.keep b o z n hb hx) (.inl ⟨o, z⟩) hb)
  · obtain ⟨s1, z2⟩ := un.slot b o z n hb hx
    obtain ⟨s2, z3⟩ := sl b _ hb z2
    exact ⟨s2, z3⟩
  · obtain ⟨o', z2⟩ := un.there b o z hx
    by_cases hb : b ∈ frs X.stack
    · obtain ⟨s2, z3⟩ := sl b _ hb z2
      exact ⟨_, z3⟩
    · exact ⟨_, st b o' (kB b o' z2 (.inl ⟨o, z⟩) hb)⟩
  · refine st b u (kB b u z (.inr ⟨v, hv⟩) fun hb => ?_)
    obtain ⟨_, o, z1, _⟩ := I.stack.mem hb
    have := un.free b o z1 (I.stkFree b hb) (by simp)
    rw [hv] at this
    cases this
end
/-- the suite's context: an exception is handled -/
def Cx.marked (X : Cx) (v : Value) : Cx := { X with A := X.A.mark (some v), calm := false, xe := fun _ _ => False }
section
variable {X : Cx} {pins : List (Addr × Obj)} {σ : St} {H H' : Hp} {s s' : Shared} {v : Value}
theorem Inv.mark (I : Inv X pins σ H s) : Inv (X.marked v) pins σ H s :=
  ⟨⟨I.ok.mod, I.ok.kind, I.ok.glob, I.ok.blt, I.ok.above, I.ok.inj, I.ok.has, I.ok.cab, fun z => (by cases z), I.ok.frames, I.ok.stk, I.ok.exf, I.ok.bs, I.ok.bsz, I.ok.noex, I.ok.exfs, I.ok.funs, I.ok.frf⟩, I.os, I.bare, I.base, I.loc, I.cell, I.free, I.freeC, I.pin, I.hok, I.len⟩
theorem Inv.unmark (I : Inv (X.marked v) pins σ H s) (hd : X.calm = true → X.A.handled = none) : Inv X pins σ H s :=
  ⟨⟨I.ok.mod, I.ok.kind, I.ok.glob, I.ok.blt, I.ok.above, I.ok.inj, I.ok.has, I.ok.cab, hd, I.ok.frames, I.ok.stk, I.ok.exf, I.ok.bs, I.ok.bsz, I.ok.noex, I.ok.exfs, I.ok.funs, I.ok.frf⟩, I.os, I.bare, I.base, I.loc, I.cell, I.free, I.freeC, I.pin, I.hok, I.len⟩
end
theorem xc_matches {K : Frag} {M : Model} {A : Around} {E : Value → Shared → Prop} {h : Heap} {g : Array GenState} {d : Drawn} {t : Nat} {os : OsState} {e C W : Addr} {oe : Obj} {bmW : List Value} {Q : Bool → Shared → Prop} (X : K.In h) (hW : excB K W bmW = true) (sb : subIn K (.ref C) (.ref W) = some true)
    (he : h.get? e = some oe) (hcls : oe.cls = .ref C) (hq : Q true ⟨h, g, d, t, os⟩) : wpAny M A (excMatches (.ref e) (.ref W)) Q E ⟨h, g, d, t, os⟩ := by
  obtain ⟨N, nm, qn, bs, hd, sn, sub, ab, col, dd, k0, k1, k2, k3, k5, mN, hC, e2, e3, e4⟩ := (excAt_of X hW).ex
  have c1 : (Value.ref W :: bmW).contains (.type "BaseException") = true := by rw [List.contains_cons, e4.hasType bmVE_base, Bool.or_true]
  have l1 : Looks M h (isSubtype (.ref C) (.ref W)) true := looks_subIn X sb
  have f := tc_notTuple
  unfold excMatches
  repeat (first | (with_reducible refine wpAny_loadPart_at he ?_; rw [hcls]) | with_reducible refine wpAny_loadPart_at hC ?_ | with_reducible refine Looks.at l1 ?_ | (with_reducible refine wpAny_isSubtype_exc hC ?_; rw [c1]) | wp_step)
  exact hq
/-- a def that may raise -/
structure DefX (P : Program) (w : World) (K : PySem.W.Frag) (mg : Str → Option Value) (base : Heap) (k : Nat) (x : Str) (ps : List Str) (sp : Sp) : Prop where
  ex : ∃ f fd, FnOk P w K mg base (CXr P w) k f fd ps sp ∧ Binds K fd ps [] ∧ mg x = some (.ref f) ∧ PySem.W.keepIn K (.ref f) = true
theorem passX {P : Program} {w : World} {X : Cx} : Passes (CXr P w) X E0 := fun _ _ _ _ _ _ _ ⟨_, _, _, _, _, _, _, _, _, _, _, _, z⟩ => z.elim
/-- .. called where it does not raise -/
theorem pe_defX {X : Cx} {k : Nat} {x : Str} {ps : List Str} {sp : Sp} {e : Expr} {es : List Expr} {t : TA} {p pos : Pos} (D : DefX X.prog X.w X.K X.mg X.base k x ps sp) (hr : Room k X.A) (hg : Gl X x) (ha : PA X (e :: es) t)
    (hdb : (x == ("__debug__" : Str)) = false := by decide) (he : starEach (e :: es) X.env = (false, eval e X.env) :: starEach es X.env := by rfl) (hpl : (backTo pos (starEach es X.env)).any (·.1) = false := by rfl) :
    PE X (.Call (.Name x p) (e :: es) [] pos) (tCall sp [] E0 t) := by
  obtain ⟨f, fd, F, b, m, kp⟩ := D.ex
  exact pe_call F hr hg m kp b .nil passX ha hdb he hpl
theorem Src.defX {P : Program} {w : World} {K : PySem.W.Frag} {mg : Str → Option Value} {base : Heap} {k : Nat} {x : Str} {st : Stmt} {N ps : List Str} {sp : Sp} (S : Src K mg x st ps) (sc : FnScope N ps (defScope st)) (len : ∀ vs H Q E, sp vs H Q E → vs.length = ps.length)
    (hbody : ∀ (f : Addr) (cdv : Value) (A : Around) (outer : List Env) (s : Shared) (H : Hp) (vs : List V) (Q : VK) (E : XK), Room k (A.deeper (envOfC x (defScope st) s.heap.objs.size f cdv)) → sp vs H Q E →
      ∃ t, PSs (cxOf (CXr P w) P w K mg base N x (defScope st) f cdv A outer s H E) (defBody st) t ∧ t { nx := fun _ H' => Q .non H', rt := Q } (start N vs) H) : DefX P w K mg base (k + 1) x ps sp := by
  obtain ⟨f, fd, F, b, m⟩ := S.ex
  obtain ⟨oc, od, kV, doc, pm, an, cdv, ct, osl, e, lk, hcd⟩ := F.ex
  subst e
  exact ⟨f, _, fn_of lk hcd sc len (hbody f cdv), b, m, F.kp⟩
def tTry (K : Frag) (sp : Sp) (ta : TA) (i : Nat) (W : Addr) (tb : TS) : TS := fun D σ H => ta σ H fun vs H1 => sp (vs ++ []) H1 (fun _ H2 => D.nx σ H2) fun c _ H2 => ∃ C, c = .ref C ∧ subIn K (.ref C) (.ref W) = some true ∧
  ∀ ea, H2 ea = none → tb { nx := fun σ' H' => D.nx (σ'.set i none) H', rt := D.rt } (σ.set i (some (.ref ea))) (upd H2 ea (excO ea C))
theorem ps_try {X : Cx} {k i : Nat} {x cx n : Str} {ps : List Str} {sp : Sp} {e : Expr} {es : List Expr} {ta : TA} {tb : TS} {b0 : Stmt} {suite : List Stmt} {W : Addr} {bmW : List Value} {p np pos epos hpos tpos : Pos} (D : DefX X.prog X.w X.K X.mg X.base k x ps sp) (hr : Room k X.A) (hg : Gl X x)
    (hgc : Gl X cx) (hmc : X.mg cx = some (.ref W)) (hW : excB X.K W bmW = true) (hN : X.N.Nodup) (hi : X.N[i]? = some n) (hlo : X.env.scope.names.lookup n = some .local) (ha : PA X (e :: es) ta) (hb : ∀ v, PSs (X.marked v) (b0 :: suite) tb)
    (hst : X.stack = X.env :: X.outer) (hfr : X.env.frame = some X.env.locals) (hxe : ∀ e s, X.xe e s → False) (hdb : (x == ("__debug__" : Str)) = false := by decide) (hdc : (cx == ("__debug__" : Str)) = false := by decide)
    (he : starEach (e :: es) X.env = (false, eval e X.env) :: starEach es X.env := by rfl) (hpl : (backTo pos (starEach es X.env)).any (·.1) = false := by rfl)
    (hs : swapsWith (.Call (.Name x p) (e :: es) [] pos) none epos.line X.env = pure false := by rfl) :
    PS X (.Try [.Expr (.Call (.Name x p) (e :: es) [] pos) epos] [.ExceptHandler (some (.Name cx np)) (some n) (b0 :: suite) hpos] [] [] tpos) (tTry X.K sp ta i W tb) := by
  intro pins s σ H D0 I h
  obtain ⟨f, fd, F, bd, m, kp⟩ := D.ex
  refine wpAny_Try_except (wpAny_execs_cons (wpAny_Expr_any ?_ I.quiet hs))
  refine wpAny_Call_Name_kw (ld_glob I hg m ?_ hdb)
  refine PySem.W.callWith_K (h₀ := X.base) I.ok.mod.kin kp (wpAny_mono (ha pos pins s σ H _ I h) (fun us s1 ⟨vs, H1, I1, r, q⟩ => ⟨I1.kIn, ?_⟩) fun _ _ z => (hxe _ _ z).elim) he hpl
  have r2 : Vals (vs ++ []) (us ++ []) := r.append .nil
  have hl : (us ++ []).length = ps.length := by rw [← r2.length]; exact F.len _ _ _ _ q
  refine wpAny_call (codeAny_mono (F.run X.A X.stack s1 H1 ⟨us, []⟩ (us ++ []) (vs ++ []) _ _ hr I1.env0 (bd s1 us I1.kIn hl) r2 q) fun r s' hq => ?_)
  cases r with
  | ok fl =>
    cases fl with
    | ret u =>
      obtain ⟨v, H2, I2, _, q2⟩ := I1.after hq
      exact wpAny_execs_nil (wpAny_execs_nil ⟨σ, H2, I2, q2⟩)
    | next => exact False.elim hq
    | brk => exact False.elim hq
    | cont => exact False.elim hq
  | error ev =>
    obtain ⟨ea, C, a0, B, H', rfl, os, bare, un, hok, fly, kB, C', eC, sb, tq⟩ := hq
    cases eC
    have inv : ∀ h', B.StaysIn h' → s'.heap.UpToSlots h' → Inv X pins σ H' { s' with heap := h' } := fun h' a b => caught_inv I1 os bare un hok fly.2.2.1 kB a b
    obtain ⟨oe, ve, _, _, _, heo, ⟨_, _⟩, hdo, _⟩ := fly.2.2.2
    have nfr : ea ∉ frs X.stack := fun hm => frames_nf fly.2.2.1 hm heo ve hdo
    have fresh1 : s1.heap.get? ea = none := by
      cases z : s1.heap.get? ea with
      | none => rfl
      | some q1 =>
        have := kB ea oe heo (.inl ⟨q1, z⟩) nfr
        rw [fly.2.1] at this
        cases this
    have freshH : H' ea = none := by
      cases z : H' ea with
      | none => rfl
      | some q1 =>
        have := kB ea oe heo (.inr ⟨q1, z⟩) nfr
        rw [fly.2.1] at this
        cases this
    have hA : X.A.frames = some (X.env :: X.outer) := by rw [← hst]; exact I.ok.frames
    have fly' := fly
    rw [hst] at fly'
    refine wpAny_looks_onW hA hfr fly' fun h4 held4 up4 => ?_
    refine wpAny_landsW held4 fun h5 fly5 up5 => ?_
    have up45 := up4.trans up5
    have J5 := inv h5 fly5.1 up45
    refine wpAny_handleBy_cons (codeAny_handlers_test ?_) (by intro z; cases z)
    refine ld_glob (X := X.marked (.ref ea)) (Inv.mark J5) hgc hmc ?_ hdc
    obtain ⟨oe5, he5, hc5⟩ := fly5.there
    refine xc_matches J5.kIn hW sb he5 hc5 ?_
    refine codeAny_handlers_suite_as ?_
    refine lands_againW fly5 fun h6 fly6 up6 => ?_
    have J6 := inv h6 fly6.1 (up45.trans up6)
    obtain ⟨oe6, he6, hc6⟩ := fly6.there
    have gone : ∀ b o, s1.heap.get? b = some o → b ≠ ea := fun b o z q => by rw [q, fresh1] at z; cases z
    have J7 : Inv X pins σ (upd H' ea (excO ea C)) { s' with heap := h6 } := by
      refine J6.track freshH (excO_ok ⟨oe6, he6, hc6⟩) ?_ ?_ ?_ ?_
      · obtain ⟨_, ⟨o, _, _, z, _⟩, _⟩ := I1.loc
        exact Ne.symm (gone _ o z)
      · intro y c z
        obtain ⟨_, o, z2, _⟩ := I1.cell y c z
        exact gone _ o z2
      · intro p0 hp0
        exact gone _ _ (I1.pin p0 hp0).1
      · intro b u z hx
        obtain ⟨o', z2⟩ := I1.base.there b u z hx
        exact gone _ o' z2
    refine store_ok J7 hN hi (.inl hlo) (show RelV (.ref ea) (.ref ea) from rfl) (fun s8 J8 => ?_) (.inr hlo)
    refine wpAny_mono (hb (.ref ea) pins s8 _ _ _ (Inv.mark J8) (tq ea freshH)) (fun fl s9 q9 => ?_) fun _ _ z => z.elim
    cases fl with
    | next =>
      obtain ⟨σ9, H9, J9, q⟩ := q9
      refine unbind_ok (X := X) (Inv.unmark J9 I.ok.hd) hN hi hlo fun s10 J10 => ⟨_, H9, J10, q⟩
    | ret u =>
      obtain ⟨v, σ9, H9, J9, r9, q⟩ := q9
      exact unbind_ok (X := X) (Inv.unmark J9 I.ok.hd) hN hi hlo fun s10 J10 => ⟨v, _, H9, J10, r9, q⟩
    | brk =>
      obtain ⟨_, _, _, q⟩ := q9
      exact False.elim q
    | cont =>
      obtain ⟨_, _, _, q⟩ := q9
      exact False.elim q
end L2

namespace L2
open PySem PySem.Spec PyProof.Rows
open PySem.AutoSeq1 (wpAny_loadPart')
/-! ### range objects handed to list, tuple -/
section
variable {prog : Program} {w : World} {A : Around} {E : Value → Shared → Prop} {s : Shared}
end
def upN (n : Nat) : List V := (List.range n).map fun (i : Nat) => V.int i
section
variable {X : Cx}
/-- how many different ones -/
def dcr : List Int → Nat
  | [] => 0
  | x :: xs => dcr xs + if x ∈ xs then 0 else 1
def dcount (l : List Int) : Nat := dcr l.reverse
end
end L2

namespace L2
open PySem PySem.Spec PyProof.Rows
section
variable {X : Cx}
def rIsX (K : PySem.W.Frag) : List V → Hp → VK → Prop := fun xs H Q => ∃ (a C : Addr) (c : V) (u : Value) (b : Bool), xs = [.ref a, c] ∧ RelV c u ∧ H a = some (excO a C) ∧ ExcK K C ∧ PySem.W.kitOne K (.ref C) u = some b ∧ Q (.bl b) H
theorem call_isX : CallR X (.builtin "isinstance") (rIsX X.K) := call_isinstX
end
end L2

namespace L2
open PySem PySem.Spec PyProof.Rows
/-! ### an exception of a callee leaves this body too -/
theorem pass_on {P : Program} {w : World} {K : PySem.W.Frag} {mg : Str → Option Value} {base : Heap} {N : List Str} {qual : Str} {scope : Scope} {f : Addr} {cd : Value} {A : Around} {outer : List Env} {s0 : Shared} {H0 : Hp} {E : XK} :
    Passes (CXr P w) (cxOf (CXr P w) P w K mg base N qual scope f cd A outer s0 H0 E) E := by
  intro pins σ H s e s' I hx
  obtain ⟨ea, C, a0, B, H', rfl, os, bare, un, hok, fly, kB, q⟩ := hx
  have hfr : (A.deeper (envOfC qual scope s0.heap.objs.size f cd)).frames = some (envOfC qual scope s0.heap.objs.size f cd :: outer) := I.ok.frames
  show wpAny (model P w) (A.deeper (envOfC qual scope s0.heap.objs.size f cd)) (leaving (envOfC qual scope s0.heap.objs.size f cd) (.ref ea)) (fun _ s'' => CXr P w outer H0 s0 E (.ref ea) s'') _ s'
  have fly0 : Heap.FlyingW B (envOfC qual scope s0.heap.objs.size f cd :: outer) ea (.ref C) a0 s'.heap := fly
  refine wpAny_leaves_onW hfr rfl fly0 fun h' fly' up => ?_
  have eS : frs (envOfC qual scope s0.heap.objs.size f cd :: outer) = s0.heap.objs.size :: frs outer := rfl
  have fsub : ∀ b, b ∉ frs outer → b ≠ s0.heap.objs.size → b ∉ frs (envOfC qual scope s0.heap.objs.size f cd :: outer) := fun b h1 h2 hb => by
    rw [eS] at hb
    exact (List.mem_cons.mp hb).elim h2 h1
  have fin : ∀ b, b ∈ frs outer → b ∈ frs (envOfC qual scope s0.heap.objs.size f cd :: outer) := fun b hb => by rw [eS]; exact List.mem_cons_of_mem _ hb
  have ne0 : ∀ b o, s0.heap.get? b = some o → b ≠ s0.heap.objs.size := fun b o z => Nat.ne_of_lt (Heap.lt_size z)
  have BS : Un (frs outer) [] H0 H s0.heap s.heap := I.base
  have un' : Un (frs (envOfC qual scope s0.heap.objs.size f cd :: outer)) [] H H' s.heap s'.heap := un
  have sl : ∀ b o, b ∈ frs outer → s'.heap.get? b = some o → ∃ sl, h'.get? b = some { o with slots := sl } := fun b o hb z => up b o z (frames_nf fly0.2.2.1 (fin b hb) z)
  have kB' : ∀ b o, s'.heap.get? b = some o → ((∃ q, s.heap.get? b = some q) ∨ ∃ q, H' b = some q) → b ∉ frs (envOfC qual scope s0.heap.objs.size f cd :: outer) → B.get? b = some o := kB
  have trf : ∀ b, b ∈ frs (envOfC qual scope s0.heap.objs.size f cd :: outer) → H' b = none := fun b hb => by
    obtain ⟨_, o, z1, _⟩ := (show s.heap.FunFrames base (envOfC qual scope s0.heap.objs.size f cd :: outer) from I.stack).mem hb
    exact un'.free b o z1 (I.stkFree b hb) (by simp)
  refine ⟨ea, C, a0, B, H', rfl, os.trans I.os, bare, ⟨fun b o z n hb hx => ?_, fun b o z n hb hx => ?_, fun b o z n hx => ?_, fun b o z hx => ?_, fun b xs z => un'.tups b xs (BS.tups b xs z), fun b o u z => un'.frzs b o u (BS.frzs b o u z), fun b ps z => ?_⟩, ?_, fly', fun b o z hh hb => ?_, q⟩
  · have z1 := BS.keep b o z n hb hx
    have z2 := un'.keep b o z1 (BS.free b o z n hx) (fsub b hb (ne0 b o z)) (by simp)
    exact fly'.1 b o (kB' b o z2 (.inl ⟨o, z1⟩) (fsub b hb (ne0 b o z)))
  · obtain ⟨s1, z1⟩ := BS.slot b o z n hb hx
    obtain ⟨s2, z2⟩ := un'.slot b _ z1 (BS.free b o z n hx) (fin b hb) (by simp)
    obtain ⟨s3, z3⟩ := sl b _ hb z2
    exact ⟨s3, z3⟩
  · obtain ⟨o', z1⟩ := BS.there b o z hx
    exact un'.free b o' z1 (BS.free b o z n hx) (by simp)
  · obtain ⟨o1, z1⟩ := BS.there b o z hx
    obtain ⟨o2, z2⟩ := un'.there b o1 z1 (by simp)
    by_cases hb : b ∈ frs outer
    · obtain ⟨s3, z3⟩ := sl b _ hb z2
      exact ⟨_, z3⟩
    · exact ⟨_, fly'.1 b o2 (kB' b o2 z2 (.inl ⟨o1, z1⟩) (fsub b hb (ne0 b o z)))⟩
  · obtain ⟨m1, z1⟩ := BS.tbls b ps z
    obtain ⟨m2, z2⟩ := un'.tbls b _ z1
    exact ⟨m1 ++ m2, by rw [z2, Array.append_assoc]⟩
  · refine hok.stays fun b u v hv z => fly'.1 b u (kB' b u z (.inr ⟨v, hv⟩) fun hb => ?_)
    have := trf b hb
    rw [hv] at this
    cases this
  · have ex : ∃ u, s'.heap.get? b = some u ∧ B.get? b = some u := by
      rcases hh with ⟨q1, z1⟩ | ⟨q1, z1⟩
      · obtain ⟨o1, z2⟩ := BS.there b q1 z1 (by simp)
        obtain ⟨o2, z3⟩ := un'.there b o1 z2 (by simp)
        exact ⟨o2, z3, kB' b o2 z3 (.inl ⟨o1, z2⟩) (fsub b hb (ne0 b q1 z1))⟩
      · obtain ⟨u, z2⟩ := (hok b q1 z1).there
        refine ⟨u, z2, kB' b u z2 (.inr ⟨q1, z1⟩) fun hm => ?_⟩
        have := trf b hm
        rw [z1] at this
        cases this
    obtain ⟨u, _, hu⟩ := ex
    have := fly'.1 b u hu
    rw [z] at this
    cases this
    exact hu
/-- a def that may raise, called in one that may raise the same way -/
theorem pe_defP {P : Program} {w : World} {K : PySem.W.Frag} {mg : Str → Option Value} {base : Heap} {N : List Str} {qual : Str} {scope : Scope} {f : Addr} {cd : Value} {A : Around} {outer : List Env} {s0 : Shared} {H0 : Hp} {E : XK} {k : Nat} {x : Str} {ps : List Str} {sp : Sp} {e : Expr} {es : List Expr} {t : TA} {p pos : Pos}
    (D : DefX P w K mg base k x ps sp) (hr : Room k (A.deeper (envOfC qual scope s0.heap.objs.size f cd))) (hg : Gl (cxOf (CXr P w) P w K mg base N qual scope f cd A outer s0 H0 E) x) (ha : PA (cxOf (CXr P w) P w K mg base N qual scope f cd A outer s0 H0 E) (e :: es) t)
    (hdb : (x == ("__debug__" : Str)) = false := by decide) (he : starEach (e :: es) (envOfC qual scope s0.heap.objs.size f cd) = (false, eval e (envOfC qual scope s0.heap.objs.size f cd)) :: starEach es (envOfC qual scope s0.heap.objs.size f cd) := by rfl)
    (hpl : (backTo pos (starEach es (envOfC qual scope s0.heap.objs.size f cd))).any (·.1) = false := by rfl) :
    PE (cxOf (CXr P w) P w K mg base N qual scope f cd A outer s0 H0 E) (.Call (.Name x p) (e :: es) [] pos) (tCall sp [] E t) := by
  obtain ⟨g, fd, F, b, m, kp⟩ := D.ex
  exact pe_call F hr hg m kp b .nil pass_on ha hdb he hpl
/-! ### isinstance(e, (C1, .., Cn)) -/
section
variable {X : Cx}
def rIsXs (K : PySem.W.Frag) : List V → Hp → VK → Prop := fun xs H Q => ∃ (a C p : Addr) (cs : List V) (b : Bool), xs = [.ref a, .ref p] ∧ SqT K H p cs ∧ H a = some (excO a C) ∧ ExcK K C ∧ (∀ us, Vals cs us → PySem.W.kitAny K (.ref C) us = some b) ∧ Q (.bl b) H
end
end L2

namespace L2
open PySem PySem.Spec PyProof.Rows
/-! ### a def called while an exception is handled (its body walks nothing) -/
structure RoomH (k : Nat) (A : Around) : Prop where
  dp : A.depth + 3 * k + 5 < recursionLimit
  un : A.units + 16 * k + 200 < cLine
def cxH (P : Program) (w : World) (K : PySem.W.Frag) (mg : Str → Option Value) (base : Heap) (N : List Str) (qual : Str) (scope : Scope) (f : Addr) (cd : Value) (A : Around) (outer : List Env) (s : Shared) (H : Hp) (E : XK) : Cx :=
  { (cxOf CX0 P w K mg base N qual scope f cd A outer s H E).nox with calm := false }
structure FnOkH (P : Program) (w : World) (K : PySem.W.Frag) (mg : Str → Option Value) (base : Heap) (k : Nat) (f : Addr) (fd : FuncData) (ps : List Str) (sp : Sp) : Prop where
  len : ∀ vs H Q E, sp vs H Q E → vs.length = ps.length
  run : ∀ (A : Around) (outer : List Env) (s : Shared) (H : Hp) (args : Args) (us : List Value) (vs : List V) (Q : VK) (E : XK), RoomH k A → Env0 P w K mg base A outer s H → BindsTo s fd args (ps.zip us) → Vals vs us → sp vs H Q E →
    codeAny (model P w) A (.call (.ref f) args) (CR CX0 outer P w H s Q E) s
structure DefH (P : Program) (w : World) (K : PySem.W.Frag) (mg : Str → Option Value) (base : Heap) (k : Nat) (x : Str) (ps : List Str) (sp : Sp) : Prop where
  ex : ∃ f fd, FnOkH P w K mg base k f fd ps sp ∧ Binds K fd ps [] ∧ mg x = some (.ref f) ∧ PySem.W.keepIn K (.ref f) = true
end L2

namespace L2
open PySem PySem.Spec PyProof.Rows
/-! ### sorted of a list of ints -/
section
variable {X : Cx}
def rSortedI (K : PySem.W.Frag) : List V → Hp → VK → Prop := fun xs H Q => ∃ (p : Addr) (ns : List Int), xs = [.ref p] ∧ SqL K H p (ns.map V.int) ∧ ns.length < 64 ∧ ∀ (l : Addr) (ms : List Int), ms.Perm ns → ms.Pairwise (· ≤ ·) → H l = none → Q (.ref l) (upd H l (.lst (ms.map V.int)))
end
end L2

namespace L2
open PySem PySem.Spec PyProof.Rows PySem.W
/-! ### a try's body of any statements; what raises is a call of a def -/
abbrev TSX := Ends → (St → XK) → St → Hp → Prop
/-- behind an exception: where the call stood, and what is wanted there -/
def XP (X : Cx) (pins : List (Addr × Obj)) (DX : St → XK) (e : Value) (s' : Shared) : Prop := ∃ σ H s, Inv X pins σ H s ∧ CXr X.prog X.w X.stack H s (DX σ) e s'
def PX (X : Cx) (st : Stmt) (t : TSX) : Prop := ∀ (pins : List (Addr × Obj)) (s : Shared) (σ : St) (H : Hp) (D : Ends) (DX : St → XK), Inv X pins σ H s → t D DX σ H → wpAny (model X.prog X.w) X.A (exec st X.env) (SP X pins D) (XP X pins DX) s
def PXs (X : Cx) (st : List Stmt) (t : TSX) : Prop := ∀ (pins : List (Addr × Obj)) (s : Shared) (σ : St) (H : Hp) (D : Ends) (DX : St → XK), Inv X pins σ H s → t D DX σ H → wpAny (model X.prog X.w) X.A (execs st X.env) (SP X pins D) (XP X pins DX) s
section
variable {X : Cx}
def xSeq (t u : TSX) : TSX := fun D DX σ H => t { D with nx := u D DX } DX σ H
def xCall (sp : Sp) (ta : TA) : TSX := fun D DX σ H => ta σ H fun vs H1 => sp (vs ++ []) H1 (fun _ H2 => D.nx σ H2) (DX σ)
def xSet (i : Nat) (sp : Sp) (ta : TA) : TSX := fun D DX σ H => ta σ H fun vs H1 => sp (vs ++ []) H1 (fun v H2 => D.nx (σ.set i (some v)) H2) (DX σ)
def xIf (tc : TT) (t u : TSX) : TSX := fun D DX σ H => tc σ H fun b H1 => if b = true then t D DX σ H1 else u D DX σ H1
def tTryX (K : Frag) (tbody : TSX) (i : Nat) (W : Addr) (tb : TS) : TS := fun D σ H => tbody D (fun σ1 c _ H2 => ∃ C, c = .ref C ∧ subIn K (.ref C) (.ref W) = some true ∧
  ∀ ea, H2 ea = none → tb { D with nx := fun σ' H' => D.nx (σ'.set i none) H', bk := fun _ _ => False, ct := fun _ _ => False } (σ1.set i (some (.ref ea))) (upd H2 ea (excO ea C))) σ H
end
end L2

namespace L2
open PySem PySem.Spec PyProof.Rows
section
variable {X : Cx}
/-! ### t == () -/
def rNilT (K : PySem.W.Frag) : R2 := fun x y H Q => ∃ a b xs, x = .ref a ∧ y = .ref b ∧ SqT K H a xs ∧ SqT K H b [] ∧ Q (.bl (decide (xs = []))) H
/-! ### t + u, any two tuples -/
def rCatA (K : PySem.W.Frag) : R2 := fun x y H Q => ∃ a b xs ys, x = .ref a ∧ y = .ref b ∧ H a = some (.tup xs) ∧ H b = some (.tup ys) ∧ xs.length + ys.length ≤ sizeLine ∧ ∀ p H', Same H H' → H' p = some (.tup (xs ++ ys)) → Q (.ref p) H'
theorem op_catA : OpR X (binaryOp .Add) (rCatA X.K) := by
  intro pins s σ H x y v u Q I rx ry h
  obtain ⟨a, b, xs, ys, rfl, rfl, ha, hb, hz, q⟩ := h
  by_cases hx : xs = []
  · subst hx
    exact op_cat0 pins s σ H _ _ v u Q I rx ry ⟨a, b, ys, rfl, rfl, SqT.of ha, SqT.of hb, q b H (Same.refl H) hb⟩
  · refine op_catT pins s σ H _ _ v u Q I rx ry ⟨a, b, xs, ys, rfl, rfl, SqT.of ha, SqT.of hb, hx, hz, fun hy => ?_, fun hy p hp => q p _ (Same.new hp) upd_same⟩
    subst hy
    exact q a H (Same.refl H) (by rw [List.append_nil]; exact ha)
end
end L2

namespace L2
open PySem PySem.Spec PyProof.Rows

/-! ### lists of pairs as tables -/
section
variable {κ : Type} [DecidableEq κ]
def valV (kvs : List (κ × V)) (k : κ) : Option V := (kvs.find? fun kv => decide (kv.1 = k)).map (·.2)
/-- in its place, or at the end -/
def putK (kvs : List (κ × V)) (k : κ) (v : V) : List (κ × V) :=
  if (kvs.any fun kv => decide (kv.1 = k)) = true then kvs.map (fun kv => if kv.1 = k then (kv.1, v) else kv) else kvs ++ [(k, v)]
def dropK (kvs : List (κ × V)) (k : κ) : List (κ × V) := kvs.filter fun kv => decide (kv.1 ≠ k)

end


/-! ### a tracked dict, its keys ints and texts or tuples of these -/
/-- raw entries of a dict with tuple keys -/
abbrev KT (H : Hp) : List (List Key × V) → List (List Key × Addr × Value) → Prop := Paired fun p q => p.1 = q.1 ∧ H q.2.1 = some (.tup (p.1.map kV)) ∧ RelV p.2 q.2.2
section
variable {P : Program} {w : World} {H : Hp} {h : Heap} {a : Addr}
end

/-- what the dict at a holds at the key y -/
def DGet (H : Hp) (a : Addr) (y : V) (r : Option V) : Prop :=
  (∃ kvs k, Rd H a (.dK kvs) ∧ y = kV k ∧ r = valV kvs k) ∨ ∃ kvs k b, Rd H a (.dT kvs) ∧ y = .ref b ∧ H b = some (.tup (k.map kV)) ∧ r = valV kvs k
/-- the heap behind a[y] = v -/
def DPut (H : Hp) (a : Addr) (y v : V) (H' : Hp) : Prop :=
  (∃ kvs k, H a = some (.dK kvs) ∧ y = kV k ∧ kvs.length < sizeLine ∧ H' = upd H a (.dK (putK kvs k v))) ∨
  ∃ kvs k b, H a = some (.dT kvs) ∧ y = .ref b ∧ H b = some (.tup (k.map kV)) ∧ kvs.length < sizeLine ∧ H' = upd H a (.dT (putK kvs k v))
section
variable {X : Cx} {pins : List (Addr × Obj)} {σ : St} {H : Hp} {s : Shared} {a : Addr} {y v : V} {u r : Value} {o : Option V} {A : Around} {E : Value → Shared → Prop}

end

section
variable {X : Cx} {pins : List (Addr × Obj)} {σ : St} {H : Hp} {s : Shared} {a : Addr} {kvs : List (Key × V)} {k : Key} {u : Value} {A : Around} {E : Value → Shared → Prop}
end


/-! ### readings and rules -/
/-- the element of a subscription, not a slice -/
def NoSl (i : Expr) : Prop := ∀ ov iv, subscripted i false ov iv = operate [ov, iv] (getItem ov iv)
/-- d[y] -/
def tDGet (td ty : TE) : TE := fun σ H Q => td σ H fun x H1 => ty σ H1 fun y H2 => ∃ a v, x = .ref a ∧ DGet H2 a y (some v) ∧ Q v H2
/-- y in d, y not in d -/
def tDIn (ty td : TE) : TE := fun σ H Q => ty σ H fun y H1 => td σ H1 fun x H2 => ∃ a o, x = .ref a ∧ DGet H2 a y o ∧ Q (.bl o.isSome) H2
def tDNotIn (ty td : TE) : TE := fun σ H Q => ty σ H fun y H1 => td σ H1 fun x H2 => ∃ a o, x = .ref a ∧ DGet H2 a y o ∧ Q (.bl (!o.isSome)) H2
/-- d[y] = v -/
def sDPut (td ty tv : TE) : TS := fun D σ H => tv σ H fun v H1 => td σ H1 fun x H2 => ty σ H2 fun y H3 => ∃ a H4, x = .ref a ∧ DPut H3 a y v H4 ∧ D.nx σ H4
/-- d[y] op= v -/
def sDAug (td ty tv : TE) (rd : V → V → Hp → VK → Prop) : TS := fun D σ H => td σ H fun x H1 => ty σ H1 fun y H2 => ∃ a v, x = .ref a ∧ DGet H2 a y (some v) ∧
  tv σ H2 fun y2 H3 => rd v y2 H3 fun z H4 => ∃ H5, DPut H4 a y z H5 ∧ D.nx σ H5
/-- del d[y] -/
def sDDel (td ty : TE) : TS := fun D σ H => td σ H fun x H1 => ty σ H1 fun y H2 => ∃ a kvs k, x = .ref a ∧ H2 a = some (.dK kvs) ∧ y = kV k ∧ (valV kvs k).isSome = true ∧ D.nx σ (upd H2 a (.dK (dropK kvs k)))

section
variable {X : Cx} {o i e value : Expr} {pos pos' tpos : Pos} {td ty tv : TE}
end


/-! ### displays -/
/-- {}, to be a dict of the kind that is wanted -/
def tDNewK : TE := fun _ H Q => ∀ p, H p = none → Q (.ref p) (upd H p (.dK []))
def tDNewT : TE := fun _ H Q => ∀ p, H p = none → Q (.ref p) (upd H p (.dT []))
section
variable {X : Cx} {pos : Pos}
end

/-- the pairs of a display, from the left -/
def tPairs : List (TE × TE) → St → Hp → (List (V × V) → Hp → Prop) → Prop
  | [], _, H, Q => Q [] H
  | (tk, tv) :: r, σ, H, Q => tk σ H fun x H1 => tv σ H1 fun y H2 => tPairs r σ H2 fun ps H3 => Q ((x, y) :: ps) H3
abbrev VV : List (V × V) → List (Value × Value) → Prop := Paired fun p q => RelV p.1 q.1 ∧ RelV p.2 q.2
def PPs (X : Cx) (pos : Pos) (keys : List (Option Expr)) (values : List Expr) (trs : List (TE × TE)) : Prop :=
  ∀ (pins : List (Addr × Obj)) (s : Shared) (σ : St) (H : Hp) (Q : List (V × V) → Hp → Prop), Inv X pins σ H s → tPairs trs σ H Q →
    wpAny (model X.prog X.w) X.A (evalPairs (pairTrees keys values X.env pos)) (fun vs s' => ∃ ps H', Inv X pins σ H' s' ∧ VV ps vs ∧ Q ps H') X.xe s
def mergeK (kvs more : List (Key × V)) : List (Key × V) := more.foldl (fun acc kv => putK acc kv.1 kv.2) kvs
/-- {k: v, ..} with keys ints and texts; the new dict stands empty while the pairs are made -/
def tDisp (trs : List (TE × TE)) : TE := fun σ H Q => ∀ p, H p = none → tPairs trs σ (upd H p (.dK [])) fun ps H2 => H2 p = some (.dK []) ∧ ∃ kvs : List (Key × V), ps = kvs.map (fun kv => (kV kv.1, kv.2)) ∧ kvs.length ≤ 15 ∧ Q (.ref p) (upd H2 p (.dK (mergeK [] kvs)))
/-! ### methods -/
/-- a method call o.m(e) of a built-in, with one argument: what must be seen of the text -/
structure M1 (X : Cx) (o : Expr) (m : Str) (apos : Pos) (e : Expr) (cpos : Pos) : Prop where
  base : attributeBase o m X.env (eval o X.env) = eval o X.env
  few : ((backTo cpos (starEach [e] X.env)).all (fun x => !x.1) && (backToKw cpos (keywordEach [] X.env)).all (fun x => x.1.isSome)
    && decide (([e] : List Expr).length + ([] : List Keyword).length + (if ([] : List Keyword).isEmpty then 0 else 1) < 30)) = true
  line : (apos.endLine == cpos.line) = true
  trees : backTo cpos (starEach [e] X.env) = [(false, eval e X.env)]
structure M2 (X : Cx) (o : Expr) (m : Str) (apos : Pos) (e f : Expr) (cpos : Pos) : Prop where
  base : attributeBase o m X.env (eval o X.env) = eval o X.env
  few : ((backTo cpos (starEach [e, f] X.env)).all (fun x => !x.1) && (backToKw cpos (keywordEach [] X.env)).all (fun x => x.1.isSome)
    && decide (([e, f] : List Expr).length + ([] : List Keyword).length + (if ([] : List Keyword).isEmpty then 0 else 1) < 30)) = true
  line : (apos.endLine == cpos.line) = true
  trees : backTo cpos (starEach [e, f] X.env) = [(false, eval e X.env), (false, eval f X.env)]

/-- a is a dict, whatever its keys -/
def IsD (H : Hp) (a : Addr) : Prop := (∃ kvs, Rd H a (.dK kvs)) ∨ ∃ kvs, Rd H a (.dT kvs)
section
variable {X : Cx} {pins : List (Addr × Obj)} {σ : St} {H : Hp} {s : Shared} {a : Addr} {y d : V} {u r : Value} {o : Option V} {A : Around} {E : Value → Shared → Prop}
end

def tDGet1 (td ty : TE) : TE := fun σ H Q => td σ H fun x H1 => ∃ a, x = .ref a ∧ IsD H1 a ∧ ty σ H1 fun y H2 => ∃ o, DGet H2 a y o ∧ Q (o.getD .non) H2
def tDGet2 (td ty tx : TE) : TE := fun σ H Q => td σ H fun x H1 => ∃ a, x = .ref a ∧ IsD H1 a ∧ ty σ H1 fun y H2 => tx σ H2 fun z H3 => ∃ o, DGet H3 a y o ∧ Q (o.getD z) H3
/-- d.pop(k): there; d.pop(k, x): there or not -/
def tDPop1 (td ty : TE) : TE := fun σ H Q => td σ H fun x H1 => ∃ a, x = .ref a ∧ IsD H1 a ∧ ty σ H1 fun y H2 => ∃ kvs k v, H2 a = some (.dK kvs) ∧ y = kV k ∧ valV kvs k = some v ∧ Q v (upd H2 a (.dK (dropK kvs k)))
def tDPop2 (td ty tx : TE) : TE := fun σ H Q => td σ H fun x H1 => ∃ a, x = .ref a ∧ IsD H1 a ∧ ty σ H1 fun y H2 => tx σ H2 fun z H3 => ∃ kvs k, H3 a = some (.dK kvs) ∧ y = kV k ∧
  (∀ v, valV kvs k = some v → Q v (upd H3 a (.dK (dropK kvs k)))) ∧ (valV kvs k = none → Q z H3)
section
variable {X : Cx} {o e f : Expr} {apos cpos : Pos} {td ty tx : TE}
end

/-! ### dict(d): a copy -/
section
variable {X : Cx} {pins : List (Addr × Obj)} {σ : St} {H : Hp} {s : Shared} {a : Addr} {kvs : List (Key × V)} {A : Around} {E : Value → Shared → Prop}
end


section
variable {X : Cx} {pins : List (Addr × Obj)} {σ : St} {H : Hp} {s : Shared} {a : Addr} {y : V} {u : Value} {A : Around} {E : Value → Shared → Prop}
end
end L2

namespace L2
open PySem PySem.Spec PyProof.Rows
section
variable {prog : Program} {w : World} {A : Around} {E : Value → Shared → Prop} {s : Shared} {it d v : Addr} {i ep : Nat} {es : Array DictEntry} {o : Obj}
/-! ### a dict's entries walked, whatever the keys are -/
end
end L2

namespace L2
open PySem PySem.Spec PyProof.Rows
section
variable {prog : Program} {w : World} {A : Around} {E : Value → Shared → Prop} {s : Shared} {it d v : Addr} {i ep : Nat} {es : Array DictEntry} {o : Obj}
end
end L2

namespace L2
open PySem PySem.Spec PyProof.Rows
/-! ### a dict with tuple keys, walked: it is frozen from then on -/
abbrev TTab := List (List Key × V)
section
variable {X : Cx} {pins : List (Addr × Obj)} {σ : St} {H : Hp} {s : Shared} {d : Addr} {kvs : TTab}
end
def ItDK (d : Addr) (o : Obj) (kvs : TTab) : It :=
  ⟨fun i H => H d = some (.frz o (.dT kvs)) ∧ i < kvs.length, fun i H x H' => H' = H ∧ ∃ b k v, x = .ref b ∧ kvs[i]? = some (k, v) ∧ H b = some (.tup (k.map kV)), fun i H => H d = some (.frz o (.dT kvs)) ∧ kvs.length ≤ i⟩
def iDK (td : TE) : TI := fun σ H R => td σ H fun x H1 => ∃ d kvs, x = .ref d ∧ H1 d = some (.dT kvs) ∧ ∀ o, R (ItDK d o kvs) (upd H1 d (.frz o (.dT kvs)))
/-! ### d.items() -/
def viewO (v d : Addr) : HO := .ext fun h => h.IsItemsView v d
section
variable {X : Cx}
def rItems : V → List V → Hp → VK → Prop := fun x xs H Q => ∃ d kvs, x = .ref d ∧ xs = [] ∧ H d = some (.dT kvs) ∧ ∀ v, H v = none → Q (.ref v) (upd H v (viewO v d))
end
def ItDI (d : Addr) (o : Obj) (kvs : TTab) : It :=
  ⟨fun i H => H d = some (.frz o (.dT kvs)) ∧ i < kvs.length, fun i H x H' => ∃ T b k v, x = .ref T ∧ H T = none ∧ kvs[i]? = some (k, v) ∧ H b = some (.tup (k.map kV)) ∧ H' = upd H T (.tup [.ref b, v]), fun i H => H d = some (.frz o (.dT kvs)) ∧ kvs.length ≤ i⟩
def iDI (tv : TE) : TI := fun σ H R => tv σ H fun x H1 => ∃ v d kvs, x = .ref v ∧ H1 v = some (viewO v d) ∧ H1 d = some (.dT kvs) ∧ ∀ o, R (ItDI d o kvs) (upd H1 d (.frz o (.dT kvs)))
/-! ### a comprehension over such a walk -/
end L2

namespace L2
open PySem PySem.W PyProof.Rows
/-! ### the questions that a sort asks, answered by an order: what comes out is sorted -/
inductive Ran (lt : Nat → Nat → Bool) (N : Nat) {α : Type} : KasT α → α → Prop
  | ret (a : α) : Ran lt N (.ret a) a
  | ask {i j : Nat} {k : Bool → KasT α} {a : α} (hi : i < N) (hj : j < N) (h : Ran lt N (k (lt i j)) a) : Ran lt N (.ask i j k) a
structure Ord (lt : Nat → Nat → Bool) : Prop where
  as : ∀ i j, lt i j = true → lt j i = false
  tr : ∀ i j k, lt j i = false → lt k j = false → lt k i = false
/-- the places that are sorted -/
structure PB (N : Nat) (p : Array Nat) : Prop where
  perm : p.Perm (List.range N).toArray
section
variable {lt : Nat → Nat → Bool} {N : Nat}
def Up (lt : Nat → Nat → Bool) (p : Array Nat) (m : Nat) : Prop := ∀ i j, i ≤ j → j < m → lt (p.getD j 0) (p.getD i 0) = false
def Down (lt : Nat → Nat → Bool) (p : Array Nat) (m : Nat) : Prop := ∀ i j, i ≤ j → j < m → lt (p.getD i 0) (p.getD j 0) = false
/-- the last ones are alike -/
def Flat (lt : Nat → Nat → Bool) (p : Array Nat) (a b : Nat) : Prop := ∀ i j, a ≤ i → i < b → a ≤ j → j < b → lt (p.getD i 0) (p.getD j 0) = false
end
end L2

namespace L2
open PySem PySem.W PyProof.Rows
/-! ### sorted(l) by any order of the items -/
section
variable {prog : Program} {w : World} {A : Around} {E : Value → Shared → Prop} {s : Shared}
/-- how the items are asked for their kind, and compared, whatever else the heap holds -/
def Asks (prog : Program) (w : World) (s : Shared) (lt : Nat → Nat → Bool) (vs : List Value) : Prop :=
  ∀ (A : Around) (h' : Heap), (∀ b u, s.heap.get? b = some u → h'.get? b = some u) → 2 ≤ vs.length → ∃ κ : SortKind, (∀ (E : Value → Shared → Prop) (Q : SortKind → Shared → Prop), Q κ { s with heap := h' } → wpAny (model prog w) A (keyKind' vs.toArray) Q E { s with heap := h' }) ∧
    ∀ (i j : Nat) (C : Bool → Shared → Prop), i < vs.length → j < vs.length → C (lt i j) { s with heap := h' } → wpAny (model prog w) A (keyLt' κ (vs.getD i Value.none) (vs.getD j Value.none)) C (fun _ _ => False) { s with heap := h' }
def outOf (vs : List Value) (p : Array Nat) : List Value := p.toList.map fun i => vs.getD i Value.none
end
end L2

namespace L2
open PySem PySem.W PyProof.Rows
/-! ### tuples of ints, compared and sorted -/
/-- the walk over both, side by side -/
def lexZ (fin : Bool) : List Int → List Int → Bool
  | x :: xs, y :: ys => if x = y then lexZ fin xs ys else decide (x < y)
  | _, _ => fin
section
variable {prog : Program} {w : World} {A : Around} {E : Value → Shared → Prop} {s : Shared}
/-- a tuple of ints -/
def TupI (h : Heap) (v : Value) (ks : List Int) : Prop := ∃ a o xs n, v = .ref a ∧ h.get? a = some o ∧ o.cls = .type "tuple" ∧ o.data = .seq xs n ∧ IntsAre xs.toList ks
end
/-! ### the rule -/
def IntsAt (H : Hp) (v : V) (ks : List Int) : Prop := ∃ a, v = .ref a ∧ H a = some (.tup (ks.map V.int))
def LexLe (a b : List Int) : Prop := HT.lexLt b a = false
section
variable {X : Cx}
def rSortedT (K : PySem.W.Frag) : List V → Hp → VK → Prop := fun xs H Q => ∃ (p : Addr) (rs : List V) (kss : List (List Int)), xs = [.ref p] ∧ SqL K H p rs ∧ rs.length < 64 ∧ Paired (IntsAt H) rs kss ∧ (∀ ks ∈ kss, ks ≠ []) ∧
  ∀ (l : Addr) (rs' : List V) (kss' : List (List Int)), Paired (IntsAt H) rs' kss' → kss'.Perm kss → kss'.Pairwise LexLe → H l = none → Q (.ref l) (upd H l (.lst rs'))
end
end L2

namespace L2
open PySem PySem.Spec PyProof.Rows
/-! ### a loop over a list or a tuple -/
theorem for_seq {k : Kd} {K : PySem.W.Frag} {a : Addr} {xs : List V} {g : TG} {tb : TS} {D : Ends} {σ : St} {H : Hp} (Pv : Nat → St → Hp → Prop) (h0 : Pv 0 σ H) (hl : ∀ i σ H, i ≤ xs.length → Pv i σ H → SqK k K H a xs)
    (hs : ∀ i x σ H, xs[i]? = some x → Pv i σ H → g x σ H fun σ2 H2 => tb { D with nx := Pv (i + 1), ct := Pv (i + 1), bk := D.nx } σ2 H2) (hd : ∀ σ H, Pv xs.length σ H → D.nx σ H) :
    ∃ W : Nat → Nat → St → Hp → Prop, (∃ m, W 0 m σ H) ∧ ∀ i m σ H, W i m σ H →
      ((ItK k K a).stop i H ∧ D.nx σ H) ∨ ((ItK k K a).go i H ∧ ∃ N : St → Hp → Prop, (∀ σ' H', N σ' H' → ∃ m', m' < m ∧ W (i + 1) m' σ' H') ∧ ∀ x H', (ItK k K a).yld i H x H' → g x σ H' fun σ2 H2 => tb { D with nx := N, ct := N, bk := D.nx } σ2 H2) := by
  cases k with
  | l => exact for_list Pv h0 hl hs hd
  | t => exact for_tup Pv h0 hl hs hd
section
variable {X : Cx}
/-! ### big factors -/
/-! ### sum, told -/
end
/-! ### t >= u of tuples of ints -/
section
open PySem.SeqAt
open PySem.AutoSeq1 (wpAny_loadPart')
open PySem.MeetsSeq PySem.MeetsSeq2 PySem.MeetsSeq3
def GeAt (A : Around) (s : Shared) (v u : Value) (r : Bool) : Prop := ∀ (prog : Program) (w : World) (E : Value → Shared → Prop) (Q : Value → Shared → Prop), Q (.bool r) s → wpAny (model prog w) A (richCompare .GtE v u) Q E s
inductive CmpG (A : Around) (s : Shared) (z : Bool) : List Value → List Value → Bool → Prop
  | nilL (ws : List Value) : CmpG A s z [] ws z
  | nilR (v : Value) (vs : List Value) : CmpG A s z (v :: vs) [] z
  | eq {v u : Value} {vs ws : List Value} {b : Bool} (e : EqAt A s v u true) (t : CmpG A s z vs ws b) : CmpG A s z (v :: vs) (u :: ws) b
  | ne {v u : Value} {vs ws : List Value} {r : Bool} (e : EqAt A s v u false) (t : GeAt A s v u r) : CmpG A s z (v :: vs) (u :: ws) r
end
def lexGe (z : Bool) : List Int → List Int → Bool
  | x :: xs, y :: ys => if x = y then lexGe z xs ys else decide (y ≤ x)
  | _, _ => z
section
variable {X : Cx}
def rGeT (K : PySem.W.Frag) : R2 := fun x y H Q => ∃ a b ns ms, x = .ref a ∧ y = .ref b ∧ SqT K H a (ns.map V.int) ∧ SqT K H b (ms.map V.int) ∧ Q (.bl (lexGe (decide (ms.length ≤ ns.length)) ns ms)) H
end
end L2

namespace L2
open PySem PySem.Spec PyProof.Rows
/-! ### list(reversed(l)) -/
section
variable {prog : Program} {w : World} {A : Around} {E : Value → Shared → Prop} {s : Shared} {it l : Addr} {its : Array Value}
end
section
variable {X : Cx}
def tListRev (K : PySem.W.Frag) (tl : TE) : TE := fun σ H Q => tl σ H fun x H1 => ∃ a ys, x = .ref a ∧ SqL K H1 a ys ∧ ys.length ≤ 1000 ∧ ∀ p, H1 p = none → Q (.ref p) (upd H1 p (.lst ys.reverse))
end
end L2

namespace L2
open PySem PySem.Spec PyProof.Rows
/-! ### a set of small ints, its table told -/
def cE (e : Int × Value) : Int × Value := (e.1, .int e.1 0)
/-- a table as ints are added to it one by one (by scan) -/
def addT (st : Array (Int × Value) × SetTable) (n : Int) : Array (Int × Value) × SetTable :=
  let L := layNew st.2 st.1 n (.int n 0)
  if (!L.2.2.1 && L.2.1.tooFull) = true then ((relayAll L.2.1 L.1 (SetTable.grown L.1.size)).1, (relayAll L.2.1 L.1 (SetTable.grown L.1.size)).2.1) else (L.1, L.2.1)
def tabOf (led : Bool) (ns : List Int) : Array (Int × Value) × SetTable := ns.foldl addT (#[], SetTable.fresh 0 0 led)
end L2

namespace L2
open PySem PySem.Spec PyProof.Rows
/-- the set at a, its table as it was filled with ns -/
def TabS (h : Heap) (a : Addr) (led : Bool) (ns : List Int) : Prop :=
  ∃ o es ep t, h.get? a = some o ∧ o.ExactSet ∧ o.data = .set es ep t ∧ es.map cE = (tabOf led ns).1 ∧ t = (tabOf led ns).2 ∧ (∀ e ∈ es.toList, (∃ tk, e.2 = .int e.1 tk) ∧ 0 ≤ e.1 ∧ e.1 ≤ 8) ∧ (es.toList.map (·.1)).Perm ns ∧ t.fits es.size = true ∧ es.size < 100
section
variable {prog : Program} {w : World} {A : Around} {E : Value → Shared → Prop} {s : Shared} {a : Addr} {led : Bool} {ns : List Int}
end
end L2

namespace L2
open PySem PySem.Spec PyProof.Rows
section
variable {prog : Program} {w : World} {A : Around} {R : Result → Shared → Prop} {I : Addr} {fp wr : List Addr} {G : Array GenState → Array GenState → Prop} {n : Nat} {P : Nat → Value → Prop} {St : Nat → Shared → Prop}
end
section
variable {prog : Program} {w : World} {A : Around} {E : Value → Shared → Prop} {s : Shared}
set_option maxHeartbeats 8000000 in
end
end L2

namespace L2
open PySem PySem.Spec PyProof.Rows
/-! ### a set walked -/
abbrev setIt (slot i : Int) (a : Addr) (n ep : Nat) : Obj := { cls := .type "set_iterator", data := .fields #[rawInt slot, rawInt i, .ref a, rawInt n, rawInt ep] }
end L2

namespace L2
open PySem PySem.Spec PyProof.Rows
/-- where the walk stands ahead of the i-th entry -/
def slotAt (t : SetTable) (i : Nat) : Nat := if i = 0 then 0 else t.place.getD (i - 1) 0 + 1
/-- the walk meets the entries one by one -/
def goesOn (t : SetTable) (n : Nat) : Bool := t.plain && t.led && (t.place.size == n) && (List.range (n + 1)).all fun i => SetTable.below t.place (slotAt t i) == i
section
variable {prog : Program} {w : World} {A : Around} {E : Value → Shared → Prop} {s : Shared} {it a : Addr} {o : Obj} {es : Array (Int × Value)} {ep i : Nat} {t : SetTable} {slot : Nat}
end
end L2

namespace L2
open PySem PySem.Spec PyProof.Rows
/-- the entries in the order of the walk -/
def ordOf (w : World) (a : Addr) (ep : Nat) (es : Array (Int × Value)) : Array (Int × Value) := if w.params.followText "set-order" = true then pickOrder (w.params.setOrder a ep) es else es
section
variable {prog : Program} {w : World} {A : Around} {E : Value → Shared → Prop} {s : Shared} {it a : Addr} {o : Obj} {es : Array (Int × Value)} {ep i : Nat} {t : SetTable} {slot : Nat}
end
end L2

namespace L2
open PySem PySem.Spec PyProof.Rows
section
variable {prog : Program} {w : World} {A : Around} {E : Value → Shared → Prop} {s : Shared} {a : Addr} {o : Obj} {es : Array (Int × Value)} {ep : Nat} {t : SetTable}
end
end L2

namespace L2
open PySem PySem.Spec PyProof.Rows
/-! ### sorted(set(l)) -/
section
variable {prog : Program} {w : World} {A : Around} {E : Value → Shared → Prop} {s : Shared} {a : Addr}
end
section
variable {X : Cx}
def setO (w : World) (a : Addr) (ns : List Int) : HO := .ext fun h => TabS h a (!w.params.followText "set-order") ns
end
/-! ### the tables of heads -/
def risers (m : Nat) : List Int := 0 :: (List.range 8).filterMap fun i => if m.testBit i then some ((i : Int) + 1) else none
end L2

namespace L2
open PySem PySem.Spec PyProof.Rows
/-! ### sorted of a tuple of ints -/
section
variable {prog : Program} {w : World} {A : Around} {E : Value → Shared → Prop} {s : Shared}
end
section
variable {X : Cx}
end
/-! ### a list walked from behind -/
def ItRv (K : PySem.W.Frag) (a : Addr) (n : Nat) : It :=
  ⟨fun i H => ∃ xs, SqL K H a xs ∧ xs.length = n ∧ i < n, fun i H x H' => H' = H ∧ ∀ xs, SqL K H a xs → xs[n - 1 - i]? = some x, fun i H => ∃ xs, SqL K H a xs ∧ xs.length = n ∧ i = n⟩
def iRev (K : PySem.W.Frag) (tl : TE) : TI := fun σ H R => tl σ H fun x H1 => ∃ a xs, x = .ref a ∧ SqL K H1 a xs ∧ R (ItRv K a xs.length) H1
end L2

namespace L2
open PySem PySem.W PyProof.Rows
def gallop' : Bool → Keyed → Array Keyed → Nat → Nat → Nat → StateT SortSt Sem (Option Nat) := sortPriv% PySem.Builtin.gallop
section
variable {prog : Program} {w : World} {A : Around} {E : Value → Shared → Prop} {s : Shared} {κ : SortKind} {it : Array Keyed} {lt : Nat → Nat → Bool} {N : Nat}
/-- how two of the items are compared: by lt, and nothing changes -/
def Cmp (prog : Program) (w : World) (A : Around) (κ : SortKind) (it : Array Keyed) (lt : Nat → Nat → Bool) (N : Nat) (s : Shared) : Prop := ∀ i j C, i < N → j < N → C (lt i j) s → kas_cmp prog w A κ it i j C s
/-- those to be passed come first -/
def Bey (lt : Nat → Nat → Bool) (left : Bool) (k x : Nat) : Bool := if left = true then lt x k else !lt k x
end
end L2

namespace L2
open PySem PySem.W PyProof.Rows
def mergeLo' : Array Keyed → Array Keyed → StateT SortSt Sem (Array Keyed) := sortPriv% PySem.Builtin.mergeLo
def mergeHi' : Array Keyed → Array Keyed → StateT SortSt Sem (Array Keyed) := sortPriv% PySem.Builtin.mergeHi
/-- alike but for how keen it is to gallop -/
def Gs (st st' : SortSt) : Prop := kindOf st' = kindOf st ∧ arrOf st' = arrOf st ∧ pendingOf st' = pendingOf st ∧ failedOf st' = failedOf st
section
variable {lt : Nat → Nat → Bool}
abbrev Le (lt : Nat → Nat → Bool) (x y : Nat) : Prop := lt y x = false
structure MI (lt : Nat → Nat → Bool) (La Lb out : List Nat) (ia ib : Nat) : Prop where
  p : (out ++ (La.drop ia ++ Lb.drop ib)).Perm (La ++ Lb)
  s : out.Pairwise (Le lt)
  c : ∀ x ∈ out, ∀ y ∈ La.drop ia ++ Lb.drop ib, Le lt x y
/-- what a merge tells -/
def Told (lt : Nat → Nat → Bool) (it : Array Keyed) (La Lb : List Nat) (res : Array Keyed) : Prop := ∃ L : List Nat, res.toList = L.map (kas_item it) ∧ L.Perm (La ++ Lb) ∧ L.Pairwise (Le lt)
end
section
variable {prog : Program} {w : World} {A : Around} {E : Value → Shared → Prop} {s : Shared} {κ : SortKind} {it : Array Keyed} {lt : Nat → Nat → Bool} {N : Nat}
/-- where a merge stands -/
def At (lt : Nat → Nat → Bool) (it : Array Keyed) (La Lb : List Nat) (out : Array Keyed) (ia ib : Nat) : Prop := ∃ L : List Nat, out.toList = L.map (kas_item it) ∧ MI lt La Lb L ia ib
end
end L2

namespace L2
open PySem PySem.W PyProof.Rows
section
variable {prog : Program} {w : World} {A : Around} {E : Value → Shared → Prop} {s : Shared} {κ : SortKind} {it : Array Keyed} {lt : Nat → Nat → Bool} {N : Nat}
end
end L2

namespace L2
open PySem PySem.W PyProof.Rows
section
variable {prog : Program} {w : World} {A : Around} {E : Value → Shared → Prop} {s : Shared} {κ : SortKind} {it : Array Keyed} {lt : Nat → Nat → Bool} {N : Nat}
structure MH (lt : Nat → Nat → Bool) (La Lb R : List Nat) (na nb : Nat) : Prop where
  p : ((La.take na ++ Lb.take nb) ++ R).Perm (La ++ Lb)
  s : R.Pairwise (Le lt)
  c : ∀ x ∈ La.take na ++ Lb.take nb, ∀ y ∈ R, Le lt x y
def Ah (lt : Nat → Nat → Bool) (it : Array Keyed) (La Lb : List Nat) (out : Array Keyed) (na nb : Nat) : Prop := ∃ R : List Nat, out.toList = R.reverse.map (kas_item it) ∧ MH lt La Lb R na nb
end
end L2

namespace L2
open PySem PySem.W PyProof.Rows
section
variable {prog : Program} {w : World} {A : Around} {E : Value → Shared → Prop} {s : Shared} {κ : SortKind} {it : Array Keyed} {lt : Nat → Nat → Bool} {N : Nat}
/-- a state: the items in the order L, these runs, nothing failed -/
structure StAt (κ : SortKind) (it : Array Keyed) (st : SortSt) (L : List Nat) (pd : Array (Nat × Nat × Nat)) : Prop where
  k : kindOf st = κ
  a : arrOf st = (L.map (kas_item it)).toArray
  p : pendingOf st = pd
  f : failedOf st = none
end
end L2

namespace L2
open PySem PySem.W PyProof.Rows
section
variable {prog : Program} {w : World} {A : Around} {E : Value → Shared → Prop} {s : Shared} {κ : SortKind} {it : Array Keyed} {lt : Nat → Nat → Bool} {N : Nat}
/-- a state: the items in the order p -/
structure StP (κ : SortKind) (it : Array Keyed) (st : SortSt) (p : Array Nat) (pd : Array (Nat × Nat × Nat)) : Prop where
  k : kindOf st = κ
  a : arrOf st = p.map (kas_item it)
  p : pendingOf st = pd
  f : failedOf st = none
def UpF (lt : Nat → Nat → Bool) (p : Array Nat) (lo n : Nat) : Prop := ∀ i j, lo ≤ i → i ≤ j → j < lo + n → lt (p.getD j 0) (p.getD i 0) = false
end
end L2

namespace L2
open PySem PySem.W PyProof.Rows
section
variable {prog : Program} {w : World} {A : Around} {E : Value → Shared → Prop} {s : Shared} {κ : SortKind} {it : Array Keyed} {lt : Nat → Nat → Bool} {N : Nat}
def DownF (lt : Nat → Nat → Bool) (p : Array Nat) (lo n : Nat) : Prop := ∀ i j, lo ≤ i → i ≤ j → j < lo + n → lt (p.getD i 0) (p.getD j 0) = false
end
end L2

namespace L2
open PySem PySem.W PyProof.Rows
section
variable {prog : Program} {w : World} {A : Around} {E : Value → Shared → Prop} {s : Shared} {κ : SortKind} {it : Array Keyed} {lt : Nat → Nat → Bool} {N : Nat}
/-- runs from a to b, one behind the other, each sorted -/
inductive Rn (lt : Nat → Nat → Bool) (p : Array Nat) : Nat → List (Nat × Nat × Nat) → Nat → Prop
  | nil (a : Nat) : Rn lt p a [] a
  | cons {a n pw b : Nat} {ps : List (Nat × Nat × Nat)} (h0 : 0 < n) (u : UpF lt p a n) (t : Rn lt p (a + n) ps b) : Rn lt p a ((a, n, pw) :: ps) b
end
end L2

namespace L2
open PySem PySem.W PyProof.Rows
section
variable {prog : Program} {w : World} {A : Around} {E : Value → Shared → Prop} {s : Shared} {κ : SortKind} {it : Array Keyed} {lt : Nat → Nat → Bool} {N : Nat}
end
end L2

namespace L2
open PySem PySem.W PyProof.Rows
section
variable {prog : Program} {w : World} {A : Around} {E : Value → Shared → Prop} {s : Shared}
end
end L2

namespace L2
open PySem PySem.W PyProof.Rows
section
variable {X : Cx}
def rSortedG (K : PySem.W.Frag) : List V → Hp → VK → Prop := fun xs H Q => ∃ (p : Addr) (rs : List V) (kss : List (List Int)), xs = [.ref p] ∧ SqL K H p rs ∧ rs.length ≤ 1000000 ∧ Paired (IntsAt H) rs kss ∧ (∀ ks ∈ kss, ks ≠ []) ∧
  ∀ (l : Addr) (rs' : List V) (kss' : List (List Int)), Paired (IntsAt H) rs' kss' → kss'.Perm kss → kss'.Pairwise LexLe → H l = none → Q (.ref l) (upd H l (.lst rs'))
end
end L2

namespace L2
open PySem PySem.Spec PyProof.Rows
section
variable {X : Cx}
/-! ### isinstance of a tuple, wherever it lies -/
/-! ### t + u, wherever they lie -/
def rCatS (K : PySem.W.Frag) : R2 := fun x y H Q => ∃ a b xs ys, x = .ref a ∧ y = .ref b ∧ SqT K H a xs ∧ SqT K H b ys ∧ xs.length + ys.length ≤ sizeLine ∧ ∀ p H', Same H H' → SqT K H' p (xs ++ ys) → Q (.ref p) H'
end
end L2

namespace L2
open PySem PySem.W PyProof.Rows
/-! ### sorted of tuples of ints: one alone may be empty -/
section
variable {X : Cx}
def rSortedH (K : PySem.W.Frag) : List V → Hp → VK → Prop := fun xs H Q => ∃ (p : Addr) (rs : List V) (kss : List (List Int)), xs = [.ref p] ∧ SqL K H p rs ∧ rs.length ≤ 1000000 ∧ Paired (IntsAt H) rs kss ∧ (2 ≤ kss.length → ∀ ks ∈ kss, ks ≠ []) ∧
  ∀ (l : Addr) (rs' : List V) (kss' : List (List Int)), Paired (IntsAt H) rs' kss' → kss'.Perm kss → kss'.Pairwise LexLe → H l = none → Q (.ref l) (upd H l (.lst rs'))
end
/-! ### max(l, default=d) -/
section
variable {prog : Program} {w : World} {A : Around}
abbrev mxC (I S : Addr) (d : Value) : Code := .builtin "max.loop" ⟨[.ref I, .none, .ref S], [("default", d)]⟩
abbrev mxO (c : Nat) (xs : Array Value) : Obj := { cls := .type "list", dict := none, data := .seq xs c, slots := #[] }
end
/-- the greatest, d where there is none -/
def maxD (d : Int) : List Int → Int
  | [] => d
  | n :: ns => ns.foldl (fun a b => if b > a then b else a) n
theorem best_take (ns : List Int) : ∀ k, k < ns.length → ns.getD (argBest (fun i j => decide (ns.getD i 0 > ns.getD j 0)) k) 0 = maxD 0 (ns.take (k + 1))
  | 0, h => by
    cases ns with
    | nil => simp at h
    | cons n ns => rfl
  | k + 1, h => by
    have ih := best_take ns k (by omega)
    have e : ns.take (k + 1 + 1) = ns.take (k + 1) ++ [ns.getD (k + 1) 0] := by
      rw [List.take_add_one]
      congr 1
      simp [h]
    have ne : ns.take (k + 1) ≠ [] := by
      intro z
      have := congrArg List.length z
      rw [List.length_take, List.length_nil] at this
      omega
    rw [e]
    cases hh : ns.take (k + 1) with
    | nil => exact absurd hh ne
    | cons a as =>
      rw [hh] at ih
      show ns.getD (if decide (ns.getD (k + 1) 0 > ns.getD (argBest (fun i j => decide (ns.getD i 0 > ns.getD j 0)) k) 0) = true then k + 1 else argBest (fun i j => decide (ns.getD i 0 > ns.getD j 0)) k) 0 = (as ++ [ns.getD (k + 1) 0]).foldl _ a
      rw [List.foldl_append, ih]
      show _ = (if ns.getD (k + 1) 0 > maxD 0 (a :: as) then ns.getD (k + 1) 0 else maxD 0 (a :: as))
      by_cases g : ns.getD (k + 1) 0 > maxD 0 (a :: as)
      · rw [decide_eq_true g, if_pos rfl, if_pos g]
      · rw [decide_eq_false g, if_neg g]
        exact ih
section
variable {X : Cx}
theorem ints_at' {ns : List Int} {its : List Value} (r : Vals (ns.map V.int) its) {i : Nat} {v : Value} (e : its.toArray[i]? = some v) : ∃ t, v = .int (ns.getD i 0) t := by
  have e' : its[i]? = some v := by simpa using e
  have hl : i < its.length := (List.getElem?_eq_some_iff.mp e').1
  have hb : i < ns.length := by have := r.length; rw [List.length_map] at this; omega
  obtain ⟨u, e1, t, q⟩ := r.get (i := i) (x := V.int ns[i]) (by simp [hb])
  rw [e1] at e'
  cases e'
  exact ⟨t, by rw [q]; simp [List.getD, hb]⟩
def rMaxD (K : PySem.W.Frag) (vs : List V) (y : V) (H : Hp) (Q : VK) : Prop := ∃ p ns d, vs = [.ref p] ∧ y = .int d ∧ SqL K H p (ns.map V.int) ∧ Q (.int (maxD d ns)) H
def tMaxD (K : PySem.W.Frag) (te td : TE) : TE := fun σ H Q => tCons te tNil σ H fun vs H1 => td σ H1 fun y H2 => rMaxD K vs y H2 Q
end
end L2

namespace L2
open PySem PySem.Spec PyProof.Rows
/-! ### a tuple of ints in a list of such -/
section
variable {X : Cx}
def inU (H : Hp) (ks : List Int) (u : Value) : Bool := match u with
  | .ref b => (match H b with | some (.tup ys) => decide (ys = ks.map V.int) | _ => false)
  | _ => false
def rInT (K : PySem.W.Frag) (neg : Bool) : R2 := fun x y H Q => ∃ a p rs ks kss, x = .ref a ∧ y = .ref p ∧ SqT K H a (ks.map V.int) ∧ SqL K H p rs ∧ Paired (IntsAt H) rs kss ∧ Q (.bl (if neg then !decide (ks ∈ kss) else decide (ks ∈ kss))) H
end
end L2

namespace L2
open PySem PySem.W PyProof.Rows
/-! ### list(d): the keys of a dict with tuple keys -/
section
variable {prog : Program} {w : World} {d : Addr} {es : Array DictEntry} {ep : Nat} {o : Obj}
end
section
variable {X : Cx}
def KeyAt (H : Hp) (v : V) (k : List Key) : Prop := ∃ b, v = .ref b ∧ H b = some (.tup (k.map kV))
def rListD (K : PySem.W.Frag) : List V → Hp → VK → Prop := fun xs H Q => ∃ (d : Addr) (kvs : TTab), xs = [.ref d] ∧ H d = some (.dT kvs) ∧ kvs.length ≤ 1000 ∧ ∀ l rs, H l = none → Paired (KeyAt H) rs (kvs.map (·.1)) → Q (.ref l) (upd H l (.lst rs))
end
end L2

namespace L2
open PySem PySem.Spec PyProof.Rows
section
variable {X : Cx}
/-! ### t <= u, tuples of ints -/
def rLeT (K : PySem.W.Frag) : R2 := fun x y H Q => ∃ a b ns ms, x = .ref a ∧ y = .ref b ∧ SqT K H a (ns.map V.int) ∧ SqT K H b (ms.map V.int) ∧ Q (.bl (lexLe (decide (ns.length ≤ ms.length)) ns ms)) H
end
end L2

namespace L2
open PySem PySem.Spec PyProof.Rows
section
variable {X : Cx}
/-! ### any(a list of bools) -/
/-! ### xs.insert(i, y), the place within -/
def rInsert : V → List V → Hp → VK → Prop := fun x vs H Q => ∃ (l : Addr) (xs : List V) (i : Nat) (y : V), x = .ref l ∧ vs = [.int (i : Int), y] ∧ H l = some (.lst xs) ∧ i ≤ xs.length ∧ xs.length < 1000 ∧ Q .non (upd H l (.lst (xs.take i ++ y :: xs.drop i)))
/-! ### xs.index(k), ints -/
def rIndex (K : PySem.W.Frag) : V → List V → Hp → VK → Prop := fun x vs H Q => ∃ (l : Addr) (ns : List Int) (k : Int) (j : Nat), x = .ref l ∧ vs = [.int k] ∧ H l = some (.lst (ns.map V.int)) ∧ ns.length < 1000 ∧ ns[j]? = some k ∧ (∀ m, m < j → ns[m]? ≠ some k) ∧ Q (.int (j : Int)) H
def isK (k : Int) (v : Value) : Bool := match v with | .int a _ => a == k | _ => false
end
end L2

namespace L2
open PySem PySem.Spec PyProof.Rows PySem.MeetsSeq
section
variable {X : Cx}
def rIndexT (K : PySem.W.Frag) : V → List V → Hp → VK → Prop := fun x vs H Q => ∃ (l : Addr) (ns : List Int) (k : Int) (j : Nat), x = .ref l ∧ vs = [.int k] ∧ SqT K H l (ns.map V.int) ∧ ns[j]? = some k ∧ (∀ m, m < j → ns[m]? ≠ some k) ∧ Q (.int (j : Int)) H
/-! ### isinstance(a list or a tuple, (T1, .., Tn)) -/
def rIsTs (K : PySem.W.Frag) : List V → Hp → VK → Prop := fun xs H Q => ∃ (a p : Addr) (cs ys : List V) (T : String) (b : Bool), xs = [.ref a, .ref p] ∧ SqT K H p cs ∧ ((H a = some (.lst ys) ∧ T = "list") ∨ (H a = some (.tup ys) ∧ T = "tuple")) ∧ (∀ us, Vals cs us → PySem.W.kitAny K (.type T) us = some b) ∧ Q (.bl b) H
end
/-! ### a def whose last parameter has None as its default -/
structure SrcD (K : PySem.W.Frag) (mg : Str → Option Value) (x : Str) (st : Stmt) (ps : List Str) : Prop where
  ex : ∃ (f T : Addr) (oc : Value) (od : Option Addr) (kV doc pm : Value) (an : Option Addr) (cdv ct : Value) (osl : Array (Option Value)) (o : Obj) (n : Nat),
    K.lookup f = some ⟨oc, od, .func (PySem.W.fnOf x x (defArgs st) (defBody st) (defScope st) (.ref T) kV doc pm an cdv ct), osl⟩ ∧ PySem.W.codeIn K cdv x = true ∧ PySem.W.keepIn K (.ref f) = true ∧ mg x = some (.ref f) ∧
    K.lookup T = some o ∧ o.data = .seq #[.none] n ∧
    (∀ us : List Value, us.length = ps.length → ∃ k : Option (Array Value) → Sem (List (Str × Value)), bindArgs (PySem.W.fnOf x x (defArgs st) (defBody st) (defScope st) (.ref T) kV doc pm an cdv ct) ⟨us, []⟩ = seqItems? (.ref T) >>= k ∧ k (some #[.none]) = pure (ps.zip us)) ∧
    (∀ us : List Value, us.length + 1 = ps.length → ∃ k : Option (Array Value) → Sem (List (Str × Value)), bindArgs (PySem.W.fnOf x x (defArgs st) (defBody st) (defScope st) (.ref T) kV doc pm an cdv ct) ⟨us, []⟩ = seqItems? (.ref T) >>= k ∧ k (some #[.none]) = pure (ps.zip (us ++ [.none])))
structure DefD (P : Program) (w : World) (K : PySem.W.Frag) (mg : Str → Option Value) (base : Heap) (k : Nat) (x : Str) (ps : List Str) (sp : Sp) : Prop where
  ex : ∃ f fd, FnOk P w K mg base (CXr P w) k f fd ps sp ∧ Binds K fd ps [] ∧ Binds K fd ps [.none] ∧ mg x = some (.ref f) ∧ PySem.W.keepIn K (.ref f) = true
end L2

namespace L2
open PySem PySem.Spec PyProof.Rows PySem.MeetsSeq
/-- a tuple told with its object, which has no dict of its own: its methods may be called -/
def FzT (H : Hp) (a : Addr) (xs : List V) : Prop := ∃ o : Obj, o.cls = .type "tuple" ∧ o.dict = none ∧ H a = some (.frz o (.tup xs))
section
variable {X : Cx}
def tBMF (r : V → List V → Hp → VK → Prop) (to : TE) (t : TA) : TE := fun σ H Q => to σ H fun x H1 => (∃ a xs, x = .ref a ∧ FzT H1 a xs) ∧ t σ H1 fun xs H2 => r x xs H2 Q
variable {o e : Expr} {es : List Expr} {to : TE} {t : TA} {name : Str} {apos cpos : Pos} {id : String} {r : V → List V → Hp → VK → Prop}
/-- isinstance(a list, or a tuple so told, (T1, .., Tn)) -/
def rIsTsF (K : PySem.W.Frag) : List V → Hp → VK → Prop := fun xs H Q => ∃ (a p : Addr) (cs ys : List V) (T : String) (b : Bool), xs = [.ref a, .ref p] ∧ SqT K H p cs ∧ ((H a = some (.lst ys) ∧ T = "list") ∨ (FzT H a ys ∧ T = "tuple")) ∧ (∀ us, Vals cs us → PySem.W.kitAny K (.type T) us = some b) ∧ Q (.bl b) H
end
end L2

namespace HT
open PySem PySem.Spec PyProof.Rows
section
variable {prog : Program} {w : World} {A : Around} {E : Value → Shared → Prop} {s : Shared}
end
end HT
namespace L2
open PySem PySem.Spec PyProof.Rows
section
variable {X : Cx}
/-- x[:], of a list a new one, of a tuple itself -/
def rSlW (K : PySem.W.Frag) : V → Option Int → Option Int → Hp → VK → Prop := fun x lo hi H Q => lo = none ∧ hi = none ∧ ((∃ a xs, x = .ref a ∧ SqL K H a xs ∧ ∀ p, H p = none → Q (.ref p) (upd H p (.lst (cutV xs none none)))) ∨ (∃ a xs, x = .ref a ∧ SqT K H a xs ∧ Q (.ref a) H))
end
end L2

namespace L2
open PySem PySem.Spec PyProof.Rows
/-! ### sorted of tuples of ints of which the first may be empty: all are asked by `<` -/
section
open PySem.SeqAt
open PySem.AutoSeq1 (wpAny_loadPart')
open PySem.MeetsSeq PySem.MeetsSeq2 PySem.MeetsSeq3
/-- x < y, as the interpreter asks it -/
def LtAt (A : Around) (s : Shared) (v u : Value) (r : Bool) : Prop := ∀ (prog : Program) (w : World) (E : Value → Shared → Prop) (Q : Value → Shared → Prop), Q (.bool r) s → wpAny (model prog w) A (richCompare .Lt v u) Q E s
/-- two tuples' items, up to the first that differ; z: what the sizes say -/
inductive CmpT (A : Around) (s : Shared) (z : Bool) : List Value → List Value → Bool → Prop
  | nilL (ws : List Value) : CmpT A s z [] ws z
  | nilR (v : Value) (vs : List Value) : CmpT A s z (v :: vs) [] z
  | eq {v u : Value} {vs ws : List Value} {b : Bool} (e : EqAt A s v u true) (t : CmpT A s z vs ws b) : CmpT A s z (v :: vs) (u :: ws) b
  | ne {v u : Value} {vs ws : List Value} {r : Bool} (e : EqAt A s v u false) (t : LtAt A s v u r) : CmpT A s z (v :: vs) (u :: ws) r
end
end L2
namespace L2
open PySem PySem.W PyProof.Rows
section
variable {prog : Program} {w : World} {A : Around} {E : Value → Shared → Prop} {s : Shared}
end
section
variable {X : Cx}
/-- no empty one, or the first one is empty -/
def rSortedE (K : PySem.W.Frag) : List V → Hp → VK → Prop := fun xs H Q => ∃ (p : Addr) (rs : List V) (kss : List (List Int)), xs = [.ref p] ∧ SqL K H p rs ∧ rs.length ≤ 1000000 ∧ Paired (IntsAt H) rs kss ∧ (kss.head? = some [] ∨ ∀ ks ∈ kss, ks ≠ []) ∧
  ∀ (l : Addr) (rs' : List V) (kss' : List (List Int)), Paired (IntsAt H) rs' kss' → kss'.Perm kss → kss'.Pairwise LexLe → H l = none → Q (.ref l) (upd H l (.lst rs'))
end
end L2

namespace L2
open PySem PySem.Spec PyProof.Rows
/-! ### a list comprehension of which some own names are cells (a comprehension within it uses them) -/
/-- all cells of the block -/
def csOf (env : Env) (C : Addr) (names : List (Str × NameKind)) : List (Str × Addr) := cellsFrom (C + 1) names (clOf env names [])
section
variable {env : Env} {C : Addr} {names : List (Str × NameKind)} {x : Str} {d : Addr}
end
/-- the context of such a block -/
def cxCompC (X : Cx) (scope : Scope) (N' : List Str) (fp : List Addr) (C : Addr) (s : Shared) (H : Hp) : Cx where
  prog := X.prog
  w := X.w
  K := X.K
  mg := X.mg
  base := X.base
  A := X.A
  N := N'
  s₀ := s
  H₀ := H
  env := compEnvC scope (csOf X.env C scope.names) C X.env
  outer := X.stack
  stack := X.stack
  ex := fp
  fn := fun y => scope.names.lookup y == some NameKind.cell
  calm := true
  pn := X.pn
  xe := fun _ _ => False
structure CompOkC (X : Cx) (scope : Scope) (N' : List Str) (fr : List (Option Nat)) : Prop where
  kind : scope.kind = .function
  own : ∀ y ∈ scope.names, y.2 = .cell → scope.names.lookup y.1 = some .cell
  names : ∀ y ∈ scope.names, y.2 = .local → scope.names.lookup y.1 = some .local
  frees : ∀ y ∈ scope.names, y.2 = .free → X.env.kindOf y.1 = some .cell ∨ X.env.kindOf y.1 = some .free
  fr : frOk X.N X.env.scope.names scope.names N' fr = true
def compBC (kinds : List (Str × NameKind)) (N : List Str) (scope : Scope) (N' : List Str) (fr : List (Option Nat)) : Bool :=
  (scope.kind == .function) && (scope.names.all fun y => y.2 != .cell || scope.names.lookup y.1 == some .cell) && (scope.names.all fun y => y.2 != .local || scope.names.lookup y.1 == some .local) &&
  (scope.names.all fun y => y.2 != .free || (kinds.lookup y.1 == some .cell || kinds.lookup y.1 == some .free)) && frOk N kinds scope.names N' fr
section
variable {X : Cx} {scope : Scope} {N' : List Str} {fr : List (Option Nat)} {pins : List (Addr × Obj)} {σ : St} {H : Hp} {s : Shared} {fp : List Addr}
end
section
variable {X : Cx} {scope : Scope} {N' : List Str} {fr : List (Option Nat)} {pins : List (Addr × Obj)} {σ : St} {H : Hp} {s : Shared} {fp : List Addr} {it : Addr} {tn : Nat → Heap → Prop} {J : It}
  {elt tg iter : Expr} {ifs : List Expr} {g : TG} {tt : TT} {te : TE} {pos : Pos} {fin : List V → Hp → Prop} {W : Nat → Nat → List V → St → Hp → Prop} {RR : Value → Addr → Result → Shared → Prop} {E : Value → Shared → Prop}
end
end L2

namespace L2
open PySem PySem.Spec PyProof.Rows PySem.MeetsSeq PySem.AutoSeq1
/-! ### xs.extend(t), t any tuple -/
def rExtendT (K : PySem.W.Frag) : V → List V → Hp → VK → Prop := fun x vs H Q => ∃ l b xs zs, x = .ref l ∧ vs = [.ref b] ∧ H l = some (.lst xs) ∧ SqT K H b zs ∧ xs.length + zs.length ≤ sizeLine ∧ Q .non (upd H l (.lst (xs ++ zs)))
end L2

namespace L2
open PySem PySem.Spec PyProof.Rows
/-! ### for x in reversed(l) -/
section
variable {X : Cx}
/-! ### int(b) -/
/-! ### max(l), min(t), max(t) -/
theorem call_max1L (hc : X.calm = true) : CallR X (.builtin "max") (fun xs H Q => ∃ (p : Addr) (ns : List Int), xs = [.ref p] ∧ SqL X.K H p (ns.map V.int) ∧ ns ≠ [] ∧ Q (.int (maxD 0 ns)) H) := by
  intro pins s σ H xs us Q I r h
  obtain ⟨p, ns, rfl, hp, ne, q⟩ := h
  obtain ⟨u1, rfl, ru⟩ := Vals.one r
  cases (show u1 = Value.ref p from ru)
  obtain ⟨its, rr, t1, _⟩ := I.list hp
  have hh : X.A.in1.handled = none := I.ok.hd hc
  have hlt : p < s.heap.objs.size := by obtain ⟨_, e, _⟩ := t1.isList; exact Heap.lt_size e
  have hz : its.toArray.size = ns.length := by have := rr.length; rw [List.length_map] at this; simp; omega
  have n0 : 0 < ns.length := List.length_pos_iff.mpr ne
  refine call_max_walk (wpAny_pyIter_list t1.isList ⟨_, _, _, _, _, _, _, rfl, Walks.list hh _ p (Nat.ne_of_lt hlt) its.toArray, ⟨⟨_, Heap.get?_push_size _ rfl, rfl, rfl⟩, t1.isList.push _⟩, ?_, by omega, CmpOf.ints_gt (fun i => ns.getD i 0) (fun i v e => ints_at' rr e), ?_⟩)
  · intro c hc'
    show c < (s.heap.push _).objs.size
    rw [Heap.size_push]
    rcases List.mem_cons.mp hc' with rfl | hc'
    · exact Nat.lt_succ_self _
    · rw [List.mem_singleton.mp hc']; exact Nat.lt_succ_of_lt hlt
  · intro v h' tk hP hk
    rw [hz] at hP
    obtain ⟨t, e⟩ := ints_at' rr hP
    have b := best_take ns (ns.length - 1) (by omega)
    rw [show ns.length - 1 + 1 = ns.length by omega, List.take_length] at b
    have e' : v = Value.int (maxD 0 ns) t := by rw [e, ← b]
    exact ⟨.int (maxD 0 ns), H, I.kept (kept_iter hk), ⟨t, e'⟩, q⟩
def rPick2 (K : PySem.W.Frag) (f : Int → Int → Int) : List V → Hp → VK → Prop := fun xs H Q => ∃ (p : Addr) (x y : Int), xs = [.ref p] ∧ SqT K H p [.int x, .int y] ∧ Q (.int (f x y)) H
theorem call_max1T (hc : X.calm = true) : CallR X (.builtin "max") (rPick2 X.K fun x y => if y > x then y else x) := by
  intro pins s σ H xs us Q I r h
  obtain ⟨p, x, y, rfl, hp, q⟩ := h
  obtain ⟨u1, rfl, ru⟩ := Vals.one r
  cases (show u1 = Value.ref p from ru)
  obtain ⟨its, rr, t1, _⟩ := I.tuple hp
  replace rr : Vals ([x, y].map V.int) its := rr
  have hh : X.A.in1.handled = none := I.ok.hd hc
  have hlt : p < s.heap.objs.size := by obtain ⟨_, e, _⟩ := t1; exact Heap.lt_size e
  have hz : its.toArray.size = 2 := by have := rr.length; rw [List.length_map] at this; simp at this ⊢; omega
  refine call_max_walk (wpAny_pyIter_tuple t1 ⟨_, _, _, _, _, _, _, rfl, Walks.tuple hh _ p (Nat.ne_of_lt hlt) its.toArray, ⟨⟨_, Heap.get?_push_size _ rfl, rfl, rfl⟩, t1.push _⟩, ?_, by omega, CmpOf.ints_gt (fun i => [x, y].getD i 0) (fun i v e => ints_at' rr e), ?_⟩)
  · intro c hc'
    show c < (s.heap.push _).objs.size
    rw [Heap.size_push]
    rcases List.mem_cons.mp hc' with rfl | hc'
    · exact Nat.lt_succ_self _
    · rw [List.mem_singleton.mp hc']; exact Nat.lt_succ_of_lt hlt
  · intro v h' tk hP hk
    rw [hz] at hP
    obtain ⟨t, e⟩ := ints_at' rr hP
    refine ⟨.int (if y > x then y else x), H, I.kept (kept_iter hk), ⟨t, ?_⟩, q⟩
    rw [e]
    congr 1
    show [x, y].getD (if decide (y > x) = true then 1 else 0) 0 = _
    by_cases g : y > x
    · rw [decide_eq_true g, if_pos rfl, if_pos g]; rfl
    · rw [decide_eq_false g, if_neg (by decide), if_neg g]; rfl
theorem call_min1T (hc : X.calm = true) : CallR X (.builtin "min") (rPick2 X.K fun x y => if y < x then y else x) := by
  intro pins s σ H xs us Q I r h
  obtain ⟨p, x, y, rfl, hp, q⟩ := h
  obtain ⟨u1, rfl, ru⟩ := Vals.one r
  cases (show u1 = Value.ref p from ru)
  obtain ⟨its, rr, t1, _⟩ := I.tuple hp
  replace rr : Vals ([x, y].map V.int) its := rr
  have hh : X.A.in1.handled = none := I.ok.hd hc
  have hlt : p < s.heap.objs.size := by obtain ⟨_, e, _⟩ := t1; exact Heap.lt_size e
  have hz : its.toArray.size = 2 := by have := rr.length; rw [List.length_map] at this; simp at this ⊢; omega
  refine call_min_walk (wpAny_pyIter_tuple t1 ⟨_, _, _, _, _, _, _, rfl, Walks.tuple hh _ p (Nat.ne_of_lt hlt) its.toArray, ⟨⟨_, Heap.get?_push_size _ rfl, rfl, rfl⟩, t1.push _⟩, ?_, by omega, CmpOf.ints_lt (fun i => [x, y].getD i 0) (fun i v e => ints_at' rr e), ?_⟩)
  · intro c hc'
    show c < (s.heap.push _).objs.size
    rw [Heap.size_push]
    rcases List.mem_cons.mp hc' with rfl | hc'
    · exact Nat.lt_succ_self _
    · rw [List.mem_singleton.mp hc']; exact Nat.lt_succ_of_lt hlt
  · intro v h' tk hP hk
    rw [hz] at hP
    obtain ⟨t, e⟩ := ints_at' rr hP
    refine ⟨.int (if y < x then y else x), H, I.kept (kept_iter hk), ⟨t, ?_⟩, q⟩
    rw [e]
    congr 1
    show [x, y].getD (if decide (y < x) = true then 1 else 0) 0 = _
    by_cases g : y < x
    · rw [decide_eq_true g, if_pos rfl, if_pos g]; rfl
    · rw [decide_eq_false g, if_neg (by decide), if_neg g]; rfl
end
end L2

namespace My
open PySem L2
def top (i : Nat) : Stmt := PySem.Challenge.pw_manycounts_k82_laid_together.main.body.getD i (.Pass ⟨0, 0, 0, 0⟩)
abbrev sIsWhole : Stmt := top 5
abbrev sWithin : Stmt := top 6
abbrev sLesser : Stmt := top 10
abbrev sNoPt : Stmt := top 11
abbrev sTiesAt : Stmt := top 13
abbrev sBeside : Stmt := top 14
abbrev sLaidAt : Stmt := top 15
abbrev sLaidW : Stmt := top 16
abbrev sSmall : Stmt := top 18
abbrev sIsWeb : Stmt := top 19
abbrev sMoved : Stmt := top 20
abbrev sLBes : Stmt := top 21
abbrev sLLaid : Stmt := top 22
abbrev sAsked : Stmt := top 23
abbrev sRefused : Stmt := top 24
abbrev sLaw : Stmt := top 25
end My

namespace My
open PySem L2
/-- a tuple of two ints -/
def TieAt (H : Hp) (v : V) (p : Int × Int) : Prop := ∃ a, v = .ref a ∧ H a = some (.tup [.int p.1, .int p.2])
theorem TieAt.same {H H' : Hp} {v : V} {p : Int × Int} (h : TieAt H v p) (e : Same H H') : TieAt H' v p := let ⟨a, h1, h2⟩ := h; ⟨a, h1, e _ _ h2⟩
theorem ties_same {H H' : Hp} {xs : List V} {ps : List (Int × Int)} (h : Paired (TieAt H) xs ps) (e : Same H H') : Paired (TieAt H') xs ps := L2.Paired.mapP h fun _ _ q => q.same e
def norm (p : Int × Int) : Int × Int := if p.1 ≤ p.2 then (p.1, p.2) else (p.2, p.1)
structure WebAt (H : Hp) (w : V) (n : Int) (ps : List (Int × Int)) : Prop where
  ex : ∃ c d xs, w = .ref c ∧ H c = some (.tup [.int n, .ref d]) ∧ H d = some (.tup xs) ∧ Paired (TieAt H) xs ps
theorem WebAt.same {H H' : Hp} {w : V} {n : Int} {ps : List (Int × Int)} (h : WebAt H w n ps) (e : Same H H') : WebAt H' w n ps := by
  obtain ⟨c, d, xs, h1, h2, h3, h4⟩ := h.ex
  exact ⟨c, d, xs, h1, e _ _ h2, e _ _ h3, ties_same h4 e⟩
/-- what the walk asks of the top -/
structure Txt (K : PySem.W.Frag) (mg : Str → Option Value) : Prop where
  isi : mg "isinstance" = none
  int : mg "int" = none
  bool : mg "bool" = none
  len : mg "len" = none
  tuple : mg "tuple" = none
  all : mg "all" = none
  list : mg "list" = none
  min : mg "min" = none
  max : mg "max" = none
  range : mg "range" = none
  set : mg "set" = none
  sorted : mg "sorted" = none
theorem boot_isi : bootBuiltins "isinstance" = some (.builtin "isinstance") := by first | rfl | decide +kernel
theorem boot_int' : bootBuiltins "int" = some (.type "int") := by first | rfl | decide +kernel
theorem boot_bool' : bootBuiltins "bool" = some (.type "bool") := by first | rfl | decide +kernel
theorem boot_tuple' : bootBuiltins "tuple" = some (.type "tuple") := by first | rfl | decide +kernel
theorem boot_list' : bootBuiltins "list" = some (.type "list") := by first | rfl | decide +kernel
theorem boot_min' : bootBuiltins "min" = some (.builtin "min") := by first | rfl | decide +kernel
theorem boot_max' : bootBuiltins "max" = some (.builtin "max") := by first | rfl | decide +kernel
def InN (n : Int) (p : Int × Int) : Prop := 0 ≤ p.1 ∧ p.1 < n ∧ 0 ≤ p.2 ∧ p.2 < n
theorem mod_in (a n : Int) (h : 0 < n) : 0 ≤ a % n ∧ a % n < n := ⟨Int.emod_nonneg _ (by omega), Int.emod_lt_of_pos _ h⟩
theorem cut_map (ns : List Int) (lo hi : Option Int) : ∃ ms : List Int, cutV (ns.map V.int) lo hi = ms.map V.int ∧ ms.length ≤ ns.length := by
  refine ⟨(ns.drop (HT.sIx (ns.map V.int).length 0 lo)).take (HT.sIx (ns.map V.int).length (ns.map V.int).length hi - HT.sIx (ns.map V.int).length 0 lo), ?_, ?_⟩
  · unfold cutV
    rw [List.map_take, List.map_drop]
  · rw [List.length_take, List.length_drop]; omega
end My

namespace My
open PySem L2
def ups (n : Int) : List Int := (List.range n.toNat).map fun (i : Nat) => (i : Int)
theorem ups_len (n : Int) : (ups n).length = n.toNat := by unfold ups; simp
theorem mem_ups {n i : Int} : i ∈ ups n ↔ 0 ≤ i ∧ i < n := by
  unfold ups
  rw [List.mem_map]
  constructor
  · rintro ⟨j, hj, rfl⟩
    have := List.mem_range.mp hj
    omega
  · rintro ⟨a, b⟩
    exact ⟨i.toNat, List.mem_range.mpr (by omega), by omega⟩
theorem ups_snoc {j : Int} (h : 0 ≤ j) : ups (j + 1) = ups j ++ [j] := by
  unfold ups
  rw [show (j + 1).toNat = j.toNat + 1 by omega, List.range_succ, List.map_append]
  simp
  exact Int.max_eq_left h
def at0 (l : List Int) (i : Int) : Int := l.getD i.toNat 0
def tieN (ps : List (Int × Int)) (k : Int) : Int × Int := ps.getD k.toNat (0, 0)
theorem at_int {l : List Int} {i : Int} (h0 : 0 ≤ i) (hl : i < l.length) : atI (l.map V.int) i = some (.int (at0 l i)) := by
  obtain ⟨j, rfl⟩ := Int.eq_ofNat_of_zero_le h0
  have hj : j < l.length := by omega
  refine atI_nat ?_
  unfold at0
  simp [List.getD, hj]
def WebOk (n : Int) (ps : List (Int × Int)) : Prop := (1 ≤ n ∧ n ≤ 9) ∧ (∀ p ∈ ps, InN n p) ∧ ps.length ≤ 8
def NrmP (ps : List (Int × Int)) : Prop := ∀ p ∈ ps, p.1 ≤ p.2
theorem ten_line {n : Nat} (h : n ≤ 10) : n < sizeLine := Nat.lt_of_le_of_lt h (by decide)
theorem line100 {n : Nat} (h : n ≤ 100) : n < sizeLine := Nat.lt_of_le_of_lt h (by decide)
theorem put_fresh {H H2 : Hp} {g : Addr} {o : HO} (s : Same H H2) (h : H g = none) : Same H (upd H2 g o) := fun b u e => by rw [upd_ne (ne_of_none e h)]; exact s b u e
theorem get_int' {ks : List Int} {i : Nat} {x : V} (hx : (ks.map V.int)[i]? = some x) : ∃ k, ks[i]? = some k ∧ V.int k = x := by
  rw [List.getElem?_map] at hx
  cases e : ks[i]? with
  | none => rw [e] at hx; simp at hx
  | some k => rw [e] at hx; simp at hx; exact ⟨k, rfl, hx⟩
theorem ties_put {H : Hp} {l : Addr} {ys zs : List V} {xs : List V} {ps : List (Int × Int)} (h : Paired (TieAt H) xs ps) (hl : H l = some (.lst ys)) : Paired (TieAt (upd H l (.lst zs))) xs ps := L2.Paired.mapP h fun _ _ ⟨a, h1, h2⟩ => ⟨a, h1, by
  rw [upd_ne (ne_of h2 hl (fun z => nomatch z))]
  exact h2⟩
theorem ite_st {b : Bool} {p : Prop} {F : St → Hp → Prop} {σ : St} {H : Hp} (S : St → Hp → Prop) (key : ∀ σ H, S σ H → F σ H) (h2 : S σ H) (hp : (∀ σ H, S σ H → F σ H) → p) : if b = true then p else F σ H := by
  cases b with
  | true => exact hp key
  | false => exact key _ _ h2
def rIsi (K : PySem.W.Frag) : List V → Hp → VK → Prop := fun xs H Q => ∃ x c t u b, xs = [x, c] ∧ RelV c u ∧ TyOf K H x t ∧ PySem.W.kitOne K t u = some b ∧ Q (.bl b) H
theorem kp_int (K : PySem.W.Frag) : PySem.W.kitOne K (.type "int") (.type "int") = some true := by first | rfl | decide +kernel
theorem kp_intb (K : PySem.W.Frag) : PySem.W.kitOne K (.type "int") (.type "bool") = some false := by first | rfl | decide +kernel
theorem kp_tup (K : PySem.W.Frag) : PySem.W.kitOne K (.type "tuple") (.type "tuple") = some true := by rfl
def rIxK (kd : Kd) (K : PySem.W.Frag) : R2 := fun x y H Q => ∃ p xs i v, x = .ref p ∧ y = .int i ∧ SqK kd K H p xs ∧ atI xs i = some v ∧ Q v H
theorem ix_kd {X : Cx} (kd : Kd) : IxR X (rIxK kd X.K) := by
  cases kd with
  | l => exact ix_list
  | t => exact ix_tup
theorem norm_min (p : Int × Int) : (if p.2 < p.1 then p.2 else p.1) = (norm p).1 ∧ (if p.2 > p.1 then p.2 else p.1) = (norm p).2 := by
  unfold norm
  by_cases h : p.1 ≤ p.2
  · simp only [h, if_true]
    constructor <;> (split <;> omega)
  · simp only [h, if_false]
    constructor <;> (split <;> omega)
theorem norm_cases (p : Int × Int) : (norm p).1 = p.1 ∧ (norm p).2 = p.2 ∨ (norm p).1 = p.2 ∧ (norm p).2 = p.1 := by
  unfold norm
  split
  · exact .inl ⟨rfl, rfl⟩
  · exact .inr ⟨rfl, rfl⟩
theorem same_tie {K : PySem.W.Frag} {H : Hp} {a b : Addr} {x y : Int} (h1 : H a = some (.tup [.int x, .int y])) (h2 : H b = some (.tup [.int x, .int y])) : SameD K H 1 (.ref a) (.ref b) := by
  refine .tup (SqT.of h1) (SqT.of h2) rfl fun i u v e1 e2 => ?_
  rw [e1] at e2
  cases e2
  match i with
  | 0 => simp at e1; rw [← e1]; exact .flat rfl
  | 1 => simp at e1; rw [← e1]; exact .flat rfl
  | j + 2 => simp at e1
/-- two webs of the same data are == -/
theorem same_web {K : PySem.W.Frag} {H : Hp} {v u : V} {n : Int} {ps : List (Int × Int)} (h1 : WebAt H v n ps) (h2 : WebAt H u n ps) {Q : VK} {out : Bool} (q : Q (.bl out) H) : rSame K out v u H Q := by
  obtain ⟨c, d, xs, rfl, c1, d1, t1⟩ := h1.ex
  obtain ⟨c', d', xs', rfl, c2, d2, t2⟩ := h2.ex
  have l1 := Paired.length t1
  have l2 := Paired.length t2
  refine ⟨c, c', _, _, 2, rfl, rfl, .inl ⟨SqT.of c1, SqT.of c2⟩, rfl, by decide, fun i x y e1 e2 => ?_, q⟩
  match i with
  | 0 => simp at e1 e2; rw [← e1, ← e2]; exact .flat rfl
  | 1 =>
    simp at e1 e2
    rw [← e1, ← e2]
    refine .tup (SqT.of d1) (SqT.of d2) (by omega) fun j x y f1 f2 => ?_
    obtain ⟨p1, g1, a1, rfl, b1⟩ := Paired.at t1 f1
    obtain ⟨p2, g2, a2, rfl, b2⟩ := Paired.at t2 f2
    rw [g1] at g2
    cases g2
    exact same_tie b1 b2
  | j + 2 => simp at e1
end My

namespace My
open PySem L2
def renT (f : List Int) (p : Int × Int) : Int × Int := norm (at0 f p.1, at0 f p.2)
def spLess : Sp := fun vs H Q _ => ∃ a b : Int, vs = [.int a, .int b] ∧ ∀ d, H d = none → Q (.ref d) (upd H d (.tup [.int (norm (a, b)).1, .int (norm (a, b)).2]))
def spTiesAt (K : PySem.W.Frag) : Sp := fun vs H Q _ => ∃ (kd : Kd) (t a : Addr) (n : Int) (f : List Int) (xs : List V) (ps : List (Int × Int)), vs = [.ref t, .ref a] ∧ H t = some (.tup xs) ∧ Paired (TieAt H) xs ps ∧ SqK kd K H a (f.map V.int) ∧ n ≤ (f.length : Int) ∧ (∀ p ∈ ps, InN n p) ∧ ps.length ≤ 8 ∧
  ∀ r ys H', Same H H' → H' r = some (.tup ys) → Paired (TieAt H') ys (ps.map (renT f)) → Q (.ref r) H'
section
variable {P : Program} {w : World} {K : PySem.W.Frag} {mg : Str → Option Value} {base : Heap}
theorem scLess : FnScope ["a", "b"] ["a", "b"] (defScope sLesser) := ⟨rfl, rfl, rfl, by decide +kernel, rfl, by decide +kernel, by decide +kernel⟩
theorem d_less (S : Src K mg "lesser_first" sLesser ["a", "b"]) : Def P w K mg base 1 "lesser_first" ["a", "b"] spLess := by
  refine S.def scLess (fun vs H Q E h => ?_) (fun f cdv A outer s H vs Q E hr h => ?_)
  · obtain ⟨_, _, rfl, _⟩ := h; rfl
  · obtain ⟨a, b, rfl, q⟩ := h
    refine ⟨_, pss_one (ps_ret (pe_ifExp (pt_cmpR op_le (pv 0) (pv 1) (nomark _)) (pe_tup (pa_cons (pv 0) (pa_cons (pv 1) pa_nil))) (pe_tup (pa_cons (pv 1) (pa_cons (pv 0) pa_nil))))), ?_⟩
    refine ⟨_, rfl, _, rfl, _, _, rfl, rfl, _, rfl, ?_⟩
    by_cases h : a ≤ b
    · rw [decide_eq_true h]
      refine iteT ⟨_, rfl, _, rfl, by show 2 ≤ sizeLine; decide, fun d hd => ?_⟩
      have := q d hd
      rw [show norm (a, b) = (a, b) from if_pos h] at this
      exact this
    · rw [decide_eq_false h]
      refine iteF ⟨_, rfl, _, rfl, by show 2 ≤ sizeLine; decide, fun d hd => ?_⟩
      have := q d hd
      rw [show norm (a, b) = (b, a) from if_neg h] at this
      exact this
theorem scTiesAt : FnScope ["ties", "places"] ["ties", "places"] (defScope sTiesAt) := ⟨rfl, rfl, rfl, by decide +kernel, rfl, by decide +kernel, by decide +kernel⟩
theorem ndabp : (["a", "b", "places"] : List Str).Nodup := by decide +kernel
theorem d_tiesat (T : Txt K mg) (S : Src K mg "ties_at" sTiesAt ["ties", "places"]) (DL : Def P w K mg base 1 "lesser_first" ["a", "b"] spLess) : Def P w K mg base 2 "ties_at" ["ties", "places"] (spTiesAt K) := by
  refine S.def scTiesAt (fun vs H Q E h => ?_) (fun f cdv A outer s H vs Q E hr h => ?_)
  · obtain ⟨_, _, _, _, _, _, _, rfl, _⟩ := h; rfl
  · obtain ⟨kd, t, a, n, f, xs, ps, rfl, ht, pt, ha, hn, hb, h8, q⟩ := h
    have xl : xs.length = ps.length := Paired.length pt
    refine ⟨_, pss_one (ps_ret (pe_callTy call_tuple_of rfl T.tuple boot_tuple' (pa_cons (pe_comp (N' := ["a", "b", "places"]) (fr := [none, none, some 1]) (compOk_of (by rfl)) rfl (pi_seq .t (pv 0))
      (g := gTup K 2 (gCons (gName 0) (gCons (gName 1) gNil))) (fun _ _ _ _ => pg_tup rfl (pgs_cons (pg_name (i := 0) ndabp rfl (Or.inl rfl) (Or.inr rfl)) (pgs_cons (pg_name (i := 1) ndabp rfl (Or.inl rfl) (Or.inr rfl)) pgs_nil))) (fun _ _ _ _ => pifs_nil)
      (fun _ _ _ _ => pe_def DL hr rfl (pa_cons (pe_ix (r := rIxK kd K) (ix_kd kd) (pv 2) (pv 0) (fun _ _ => rfl)) (pa_cons (pe_ix (r := rIxK kd K) (ix_kd kd) (pv 2) (pv 1) (fun _ _ => rfl)) pa_nil)))) pa_nil))), ?_⟩
    refine ⟨_, rfl, t, rfl, ⟨_, SqT.of ht⟩, comp_seq (k := .t) (a := t) (xs := xs) (fun σ => ∃ u v, σ = [u, v, some (.ref a)]) (fun j ys H2 => Same H H2 ∧ Paired (TieAt H2) ys ((ps.take j).map (renT f))) ⟨_, _, rfl⟩ ⟨Same.refl _, .nil⟩ (ten_line (by omega)) (fun j ys H2 _ z => SqT.of (z.1 _ _ ht)) ?_ ?_⟩
    · rintro j x ys σ H2 N hx ⟨u, v, rfl⟩ ⟨s2, hys⟩ hN
      obtain ⟨p, ep, c, rfl, hc⟩ := Paired.at pt hx
      obtain ⟨b1, b2, b3, b4⟩ := hb p (List.mem_of_getElem? ep)
      have a0 := at_int (l := f) (i := p.1) b1 (by omega)
      have a1 := at_int (l := f) (i := p.2) b3 (by omega)
      have ha2 := s2.seqK ha
      refine ⟨c, _, rfl, SqT.of (s2 _ _ hc), rfl, _, _, rfl, _, _, rfl, rfl, ?_⟩
      dsimp only [gName, List.set]
      refine yesT ⟨_, rfl, _, rfl, a, _, _, _, rfl, rfl, ha2, a0, _, rfl, _, rfl, a, _, _, _, rfl, rfl, ha2, a1, _, _, rfl, fun d hd => ?_⟩
      have s3 := Same.new (o := HO.tup [.int (norm (at0 f p.1, at0 f p.2)).1, .int (norm (at0 f p.1, at0 f p.2)).2]) hd
      refine hN _ _ _ ⟨_, _, rfl⟩ ⟨s2.trans s3, ?_⟩ (by simp)
      rw [take_succ_of ep, List.map_append]
      exact L2.Paired.snoc (ties_same hys s3) ⟨d, rfl, upd_same⟩
    · rintro ys H2 ⟨s2, hys⟩ p3 hp3
      rw [xl, List.take_length] at hys
      have s3 := Same.new (o := HO.lst ys) hp3
      refine ⟨p3, ys, rfl, .inl ⟨SqL.of upd_same, fun d hd => ?_⟩⟩
      have s4 := Same.new (o := HO.tup ys) hd
      exact q d ys _ (s2.trans (s3.trans s4)) upd_same (ties_same hys (s3.trans s4))
end
end My

namespace My
open PySem L2
def spIsWeb : Sp := fun vs H Q _ => ∃ (v u : V) (n : Int) (ps : List (Int × Int)), vs = [v, u] ∧ WebAt H v n ps ∧ WebAt H u n ps ∧ ps.length ≤ 8 ∧ ∀ H', Same H H' → Q (.bl true) H'
section
variable {P : Program} {w : World} {K : PySem.W.Frag} {mg : Str → Option Value} {base : Heap}
theorem scIsWeb : FnScope ["_law_found", "_law_due", "_law_numbers", "_law_tie"] ["_law_found", "_law_due"] (defScope sIsWeb) := ⟨rfl, rfl, rfl, by decide +kernel, rfl, by decide +kernel, by decide +kernel⟩
theorem nd1o : (["_law_one"] : List Str).Nodup := by decide +kernel
theorem d_isweb (T : Txt K mg) (S : Src K mg "_law_is_web" sIsWeb ["_law_found", "_law_due"]) : Def P w K mg base 1 "_law_is_web" ["_law_found", "_law_due"] spIsWeb := by
  refine S.def scIsWeb (fun vs H Q E h => ?_) (fun f cdv A outer s H vs Q E hr h => ?_)
  · obtain ⟨_, _, _, _, rfl, _⟩ := h; rfl
  · obtain ⟨v, u, n, ps, rfl, W, U, h8, q⟩ := h
    obtain ⟨c, d, xs, rfl, hc, hd, ht⟩ := id W.ex
    have xl : xs.length = ps.length := Paired.length ht
    refine ⟨_, pss_cons (ps_if (PW.pt (pw_or (pt_not (pt_val (pe_callB call_isinst (by rfl) T.isi boot_isi (pa_cons (pv 0) (pa_cons (pe_bltn (v := .ty "tuple") rfl T.tuple boot_tuple' rfl) pa_nil)))))
        (pw_or (pt_cmpR op_ne (pe_callB call_len_seq (by rfl) T.len PySem.boot_len (pa_cons (pv 0) pa_nil)) pe_int (nomark _))
        (pw_or (pt_not (pt_val (pe_callB call_isinst (by rfl) T.isi boot_isi (pa_cons (pe_ix ix_tup (pv 0) pe_int (fun _ _ => rfl)) (pa_cons (pe_bltn (v := .ty "tuple") rfl T.tuple boot_tuple' rfl) pa_nil)))))
        (pw_or1 (pt_cmpR (op_neS (units66 hr)) (pv 0) (pv 1) (nomark _))))))) (pss_one (ps_ret pe_bl)) pss_nil)
      (pss_cons (ps_set (i := 2) scIsWeb.nd rfl (Or.inl rfl) (pe_lst (pa_cons (pe_ix ix_tup (pv 0) pe_int (fun _ _ => rfl)) pa_nil)))
      (pss_cons (ps_for PassesOwn.never rfl (pi_seq .t (pe_ix ix_tup (pv 0) pe_int (fun _ _ => rfl))) (pg_name (i := 3) scIsWeb.nd rfl (Or.inl rfl))
        (pss_cons (ps_if (pt_not (pt_val (pe_callB call_isinst (by rfl) T.isi boot_isi (pa_cons (pv 3) (pa_cons (pe_bltn (v := .ty "tuple") rfl T.tuple boot_tuple' rfl) pa_nil))))) (pss_one (ps_ret pe_bl)) pss_nil)
        (pss_one (ps_expr (pe_bm PySem.F.plainAttrs_list PySem.F.slot_list_extend PySem.F.type_list_extend mt_extend (pv 2) (pa_cons (pe_callTy call_list_of rfl T.list boot_list' (pa_cons (pv 3) pa_nil)) pa_nil))))))
      (pss_one (ps_ret (pe_cmpR (op_eqNil (units66 hr)) (pe_comp (N' := ["_law_one"]) (fr := [none]) (compOk_of (by rfl)) rfl (pi_seq .l (pv 2)) (fun _ _ _ _ => pg_name (i := 0) nd1o rfl (Or.inl rfl) (Or.inr rfl))
        (fun _ _ _ _ => pifs_one (PW.pt (pw_or (pt_not (pt_val (pe_callB (r := rIsi K) call_isinst (by rfl) T.isi boot_isi (pa_cons (pv 0) (pa_cons (pe_bltn (v := .ty "int") rfl T.int boot_int' rfl) pa_nil))))) (pw_or1 (pt_val (pe_callB (r := rIsi K) call_isinst (by rfl) T.isi boot_isi (pa_cons (pv 0) (pa_cons (pe_bltn (v := .ty "bool") rfl T.bool boot_bool' rfl) pa_nil))))))))
        (fun _ _ _ _ => pv 0)) (pe_lst pa_nil) (nomark _)))))), ?_⟩
    have i0 : atI ([.int n, .ref d] : List V) 0 = some (.int n) := atI_nat (j := 0) rfl
    have i1 : atI ([.int n, .ref d] : List V) 1 = some (.ref d) := atI_nat (j := 1) rfl
    refine ⟨_, rfl, _, _, _, _, _, rfl, rfl, .tup hc, kp_tup K, _, rfl, iteF ?_⟩
    refine ⟨_, rfl, c, _, rfl, .inr (SqT.of hc), rfl, _, rfl, iteNS rfl ?_⟩
    refine ⟨_, rfl, c, _, _, _, rfl, rfl, SqT.of hc, i1, _, _, _, _, _, rfl, rfl, .tup hd, kp_tup K, _, rfl, iteF ?_⟩
    refine ⟨_, rfl, _, rfl, same_web W U ⟨_, rfl, iteF ?_⟩⟩
    refine ⟨_, rfl, c, _, _, _, rfl, rfl, SqT.of hc, i0, by show 1 ≤ sizeLine; decide, fun l hl => ?_⟩
    have s1 := Same.new (o := HO.lst [.int n]) hl
    have g1 : (upd H l (.lst [.int n])) l = some (.lst (([n] : List Int).map V.int)) := upd_same
    generalize upd H l (.lst [.int n]) = H1 at s1 g1 ⊢
    refine ⟨_, rfl, c, _, _, _, rfl, rfl, SqT.of (s1 _ _ hc), i1, d, rfl, ⟨_, SqT.of (s1 _ _ hd)⟩, for_seq (k := .t) (K := K) (a := d) (xs := xs) (fun i σ H' => (∃ t, σ = [some (.ref c), some u, some (.ref l), t]) ∧ Same H H' ∧ ∃ ms : List Int, H' l = some (.lst (ms.map V.int)) ∧ ms.length = 1 + 2 * i) ⟨⟨_, rfl⟩, s1, [n], g1, rfl⟩ (fun i σ H' _ z => SqT.of (z.2.1 _ _ hd)) ?_ ?_⟩
    · rintro i x σ H2 hx ⟨⟨t, rfl⟩, sm, ms, hm, ml⟩
      obtain ⟨p, ep, b, rfl, hb⟩ := Paired.at ht hx
      have hi := (List.getElem?_eq_some_iff.mp hx).1
      have hb2 := sm _ _ hb
      dsimp only [gName, List.set]
      refine ⟨_, rfl, _, _, _, _, _, rfl, rfl, .tup hb2, kp_tup K, _, rfl, iteF ?_⟩
      refine ⟨_, rfl, .inl ⟨rfl, _, SqL.of hm⟩, _, rfl, b, _, rfl, .inr (SqT.of hb2), fun g hg => ?_⟩
      have s3 := Same.new (o := HO.lst [.int p.1, .int p.2]) hg
      refine ⟨l, g, _, [.int p.1, .int p.2], rfl, rfl, s3 _ _ hm, upd_same, ?_, ⟨_, rfl⟩, put_fresh (sm.trans s3) hl, ms ++ [p.1, p.2], ?_, ?_⟩
      · rw [List.length_map, ml]
        exact Nat.le_of_lt (line100 (by show 1 + 2 * i + 2 ≤ 100; omega))
      · rw [upd_same, List.map_append]
        rfl
      · rw [List.length_append, ml]
        show 1 + 2 * i + 2 = 1 + 2 * (i + 1)
        omega
    · rintro σ H2 ⟨⟨t, rfl⟩, sm, ms, hm, ml⟩
      refine ⟨_, rfl, l, rfl, ⟨_, SqL.of hm⟩, comp_seq (k := .l) (a := l) (xs := ms.map V.int) (fun σ => ∃ v, σ = [v]) (fun i ys H3 => H3 = H2 ∧ ys = []) ⟨_, rfl⟩ ⟨rfl, rfl⟩ (line100 (by rw [List.length_map]; omega)) (fun i ys H3 _ z => by rw [z.1]; exact SqL.of hm) ?_ ?_⟩
      · rintro i x ys σ H3 N hx ⟨u, rfl⟩ ⟨rfl, rfl⟩ hN
        obtain ⟨k, ek, rfl⟩ := get_int' hx
        dsimp only [gName, List.set]
        refine ⟨_, rfl, _, _, _, _, _, rfl, rfl, .int _, kp_int K, _, rfl, iteF ⟨_, rfl, _, _, _, _, _, rfl, rfl, .int _, kp_intb K, _, rfl, iteF ?_⟩⟩
        exact hN _ _ _ ⟨_, rfl⟩ ⟨rfl, rfl⟩ (by simp)
      · rintro ys H3 ⟨rfl, rfl⟩ p4 hp4
        have s4 := Same.new (o := HO.lst []) hp4
        refine ⟨Nat.zero_le _, fun e he => ⟨p4, e, [], rfl, rfl, SqL.of (Same.new he _ _ upd_same), SqL.of upd_same, q _ (sm.trans (s4.trans (Same.new he)))⟩⟩
end
end My

namespace My
open PySem L2
theorem pair_app {α β : Type} {F : α → β → Prop} : ∀ {l₁ m₁ : List α} {l₂ m₂ : List β}, Paired F l₁ l₂ → Paired F m₁ m₂ → Paired F (l₁ ++ m₁) (l₂ ++ m₂)
  | _, _, _, _, .nil, h => h
  | _, _, _, _, .cons r t, h => .cons r (pair_app t h)
theorem fold_max : ∀ (ns : List Int) (a : Int), (a ≤ ns.foldl (fun a b => if b > a then b else a) a) ∧ (∀ x ∈ ns, x ≤ ns.foldl (fun a b => if b > a then b else a) a) ∧ (ns.foldl (fun a b => if b > a then b else a) a = a ∨ ns.foldl (fun a b => if b > a then b else a) a ∈ ns)
  | [], a => ⟨Int.le_refl _, (fun _ z => nomatch z), .inl rfl⟩
  | b :: ns, a => by
    obtain ⟨h1, h2, h3⟩ := fold_max ns (if b > a then b else a)
    rw [List.foldl_cons]
    generalize ns.foldl (fun a b => if b > a then b else a) (if b > a then b else a) = m at h1 h2 h3
    refine ⟨by split at h1 <;> omega, fun x hx => ?_, ?_⟩
    · rcases List.mem_cons.mp hx with rfl | hx
      · split at h1 <;> omega
      · exact h2 x hx
    · rcases h3 with h3 | h3
      · by_cases c : b > a
        · rw [if_pos c] at h3
          exact .inr (by rw [h3]; exact List.mem_cons_self)
        · rw [if_neg c] at h3
          exact .inl h3
      · exact .inr (List.mem_cons_of_mem _ h3)
theorem maxD_of {ns : List Int} {m : Int} (hm : m ∈ ns) (h : ∀ x ∈ ns, x ≤ m) : maxD 0 ns = m := by
  cases ns with
  | nil => cases hm
  | cons n ns =>
    obtain ⟨h1, h2, h3⟩ := fold_max ns n
    show ns.foldl (fun a b => if b > a then b else a) n = m
    have a1 : m ≤ ns.foldl (fun a b => if b > a then b else a) n := by
      rcases List.mem_cons.mp hm with rfl | hm
      · exact h1
      · exact h2 m hm
    have a2 : ns.foldl (fun a b => if b > a then b else a) n ≤ m := by
      rcases h3 with h3 | h3
      · rw [h3]; exact h n List.mem_cons_self
      · exact h _ (List.mem_cons_of_mem _ h3)
    omega
/-! ### the places of the second one's points -/
def besP (n1 n2 : Nat) : List Int := (ups (n2 : Int)).map fun i => (n1 : Int) + i
def aheP (n1 q : Nat) : List Int := (ups (q : Int)).map fun i => (n1 : Int) + i
def behP (n1 q k : Nat) : List Int := (List.range k).map fun (i : Nat) => (n1 : Int) + ((q : Int) + 1 + (i : Int)) - 1
def layP (n1 p q n2 : Nat) : List Int := aheP n1 q ++ [(p : Int)] ++ behP n1 q (n2 - (q + 1))
structure Places (n1 n2 n : Nat) (f : List Int) : Prop where
  len : f.length = n2
  inn : ∀ x ∈ f, 0 ≤ x ∧ x < (n : Int)
  top : (if maxD 0 f + 1 > (n1 : Int) then maxD 0 f + 1 else (n1 : Int)) = (n : Int)
  ne : f ≠ []
  le : n1 ≤ n
theorem bes_ok {n1 n2 : Nat} (h : 1 ≤ n2) : Places n1 n2 (n1 + n2) (besP n1 n2) := by
  have l : (besP n1 n2).length = n2 := by unfold besP; rw [List.length_map, ups_len]; omega
  have m : maxD 0 (besP n1 n2) = (n1 : Int) + ((n2 : Int) - 1) := maxD_of (List.mem_map.mpr ⟨(n2 : Int) - 1, mem_ups.mpr ⟨by omega, by omega⟩, rfl⟩) (fun x hx => by
    obtain ⟨i, hi, rfl⟩ := List.mem_map.mp hx
    have := mem_ups.mp hi
    omega)
  refine ⟨l, fun x hx => ?_, ?_, fun z => by rw [z] at l; simp at l; omega, by omega⟩
  · obtain ⟨i, hi, rfl⟩ := List.mem_map.mp hx
    have := mem_ups.mp hi
    omega
  · rw [m, if_pos (by omega)]
    omega
theorem lay_ok {n1 n2 p q : Nat} (hp : p < n1) (hq : q < n2) : Places n1 n2 (n1 + n2 - 1) (layP n1 p q n2) := by
  have l : (layP n1 p q n2).length = n2 := by
    unfold layP aheP behP
    rw [List.length_append, List.length_append, List.length_map, List.length_map, ups_len, List.length_range]
    show (q : Int).toNat + 1 + (n2 - (q + 1)) = n2
    omega
  have mem : ∀ x, x ∈ layP n1 p q n2 ↔ ((∃ i : Nat, i < q ∧ x = (n1 : Int) + (i : Int)) ∨ x = (p : Int) ∨ ∃ i : Nat, i < n2 - (q + 1) ∧ x = (n1 : Int) + ((q : Int) + 1 + (i : Int)) - 1) := fun x => by
    unfold layP aheP behP
    rw [List.mem_append, List.mem_append, List.mem_singleton, List.mem_map, List.mem_map]
    constructor
    · rintro ((⟨i, hi, rfl⟩ | rfl) | ⟨i, hi, rfl⟩)
      · have := mem_ups.mp hi
        exact .inl ⟨i.toNat, by omega, by omega⟩
      · exact .inr (.inl rfl)
      · exact .inr (.inr ⟨i, List.mem_range.mp hi, rfl⟩)
    · rintro (⟨i, hi, rfl⟩ | rfl | ⟨i, hi, rfl⟩)
      · exact .inl (.inl ⟨(i : Int), mem_ups.mpr ⟨by omega, by omega⟩, rfl⟩)
      · exact .inl (.inr rfl)
      · exact .inr ⟨i, List.mem_range.mpr hi, rfl⟩
  have inn : ∀ x ∈ layP n1 p q n2, 0 ≤ x ∧ x < ((n1 + n2 - 1 : Nat) : Int) := fun x hx => by
    rcases (mem x).mp hx with ⟨i, hi, rfl⟩ | rfl | ⟨i, hi, rfl⟩ <;> omega
  refine ⟨l, inn, ?_, fun z => by rw [z] at l; simp at l; omega, by omega⟩
  by_cases c : n2 = 1
  · have m : maxD 0 (layP n1 p q n2) = (p : Int) := maxD_of ((mem _).mpr (.inr (.inl rfl))) fun x hx => by
      rcases (mem x).mp hx with ⟨i, hi, rfl⟩ | rfl | ⟨i, hi, rfl⟩ <;> omega
    rw [m]
    split <;> omega
  · have m : maxD 0 (layP n1 p q n2) = (n1 : Int) + (n2 : Int) - 2 := by
      refine maxD_of ((mem _).mpr ?_) fun x hx => by
        have := (inn x hx).2
        omega
      by_cases d : q + 1 = n2
      · exact .inl ⟨q - 1, by omega, by omega⟩
      · exact .inr (.inr ⟨n2 - (q + 1) - 1, by omega, by omega⟩)
    rw [m, if_pos (by omega)]
    omega
/-! ### webs -/
structure OkV (n : Nat) (ps : List (Int × Int)) : Prop where
  n1 : 1 ≤ n
  hb : ∀ p ∈ ps, InN n p
theorem at0_memI {l : List Int} {i : Int} (h0 : 0 ≤ i) (h : i < l.length) : at0 l i ∈ l := by
  unfold at0
  have : i.toNat < l.length := by omega
  simp [List.getD, this]
theorem laid_ok {n1 n2 n : Nat} {f : List Int} {ps1 ps2 : List (Int × Int)} (F : Places n1 n2 n f) (o1 : OkV n1 ps1) (o2 : OkV n2 ps2) : OkV n (ps1 ++ ps2.map (renT f)) := by
  have fl := F.len
  have fe := F.le
  have on := o1.n1
  refine ⟨by omega, fun q hq => ?_⟩
  rcases List.mem_append.mp hq with h | h
  · obtain ⟨a, b, c, d⟩ := o1.hb q h
    exact ⟨a, by omega, c, by omega⟩
  · obtain ⟨p, hp, rfl⟩ := List.mem_map.mp h
    obtain ⟨a, b, c, d⟩ := o2.hb p hp
    have e1 := F.inn _ (at0_memI (l := f) a (by omega))
    have e2 := F.inn _ (at0_memI (l := f) c (by omega))
    unfold InN renT
    rcases norm_cases (at0 f p.1, at0 f p.2) with ⟨h1, h2⟩ | ⟨h1, h2⟩ <;> rw [h1, h2] <;> exact ⟨by first | exact e1.1 | exact e2.1, by first | exact e1.2 | exact e2.2, by first | exact e2.1 | exact e1.1, by first | exact e2.2 | exact e1.2⟩
end My

namespace My
open PySem L2
def spWholeI : Sp := fun vs H Q _ => ∃ i : Int, vs = [.int i] ∧ Q (.bl true) H
def spWithI : Sp := fun vs H Q _ => ∃ x a b : Int, vs = [.int x, .int a, .int b] ∧ a ≤ x ∧ x ≤ b ∧ Q (.bl true) H
def spNoPt : Sp := fun vs H Q _ => ∃ (wv : V) (n : Int) (ps : List (Int × Int)) (p : Int), vs = [wv, .int p] ∧ WebAt H wv n ps ∧ 0 ≤ p ∧ p < n ∧ Q .non H
def Both (C : Addr) (n : Nat) (qs : List (Int × Int)) (H : Hp) (Q : VK) (E : XK) : Prop := (n ≤ 9 → qs.length ≤ 8 → ∀ v H', Same H H' → WebAt H' v n qs → Q v H') ∧ ((9 < n ∨ 8 < qs.length) → ∀ H', Same H H' → E (.ref C) none H')
theorem Both.same {C : Addr} {n : Nat} {qs : List (Int × Int)} {H H1 : Hp} {Q : VK} {E : XK} (h : Both C n qs H Q E) (s : Same H H1) : Both C n qs H1 Q E := ⟨fun a b v H' s' W => h.1 a b v H' (s.trans s') W, fun a H' s' => h.2 a H' (s.trans s')⟩
def spLW (C : Addr) : Sp := fun vs H Q E => ∃ (ov tv : V) (pl : Addr) (n1 n2 n : Nat) (f : List Int) (ps1 ps2 : List (Int × Int)), vs = [ov, tv, .ref pl] ∧ WebAt H ov n1 ps1 ∧ WebAt H tv n2 ps2 ∧ H pl = some (.lst (f.map V.int)) ∧ Places n1 n2 n f ∧ OkV n2 ps2 ∧ ps1.length ≤ 8 ∧ ps2.length ≤ 8 ∧ Both C n (ps1 ++ ps2.map (renT f)) H Q E
def spBes (C : Addr) : Sp := fun vs H Q E => ∃ (ov tv : V) (n1 n2 : Nat) (ps1 ps2 : List (Int × Int)), vs = [ov, tv] ∧ WebAt H ov n1 ps1 ∧ WebAt H tv n2 ps2 ∧ OkV n2 ps2 ∧ n2 ≤ 9 ∧ ps1.length ≤ 8 ∧ ps2.length ≤ 8 ∧ Both C (n1 + n2) (ps1 ++ ps2.map (renT (besP n1 n2))) H Q E
def spLat (C : Addr) : Sp := fun vs H Q E => ∃ (ov tv : V) (n1 n2 p q : Nat) (ps1 ps2 : List (Int × Int)), vs = [ov, .int p, tv, .int q] ∧ WebAt H ov n1 ps1 ∧ WebAt H tv n2 ps2 ∧ OkV n2 ps2 ∧ n2 ≤ 9 ∧ ps1.length ≤ 8 ∧ ps2.length ≤ 8 ∧ p < n1 ∧ q < n2 ∧ Both C (n1 + n2 - 1) (ps1 ++ ps2.map (renT (layP n1 p q n2))) H Q E
section
variable {P : Program} {w : World} {K : PySem.W.Frag} {mg : Str → Option Value} {base : Heap}
theorem scIsWhole : FnScope ["thing"] ["thing"] (defScope sIsWhole) := ⟨rfl, rfl, rfl, by decide +kernel, rfl, by decide +kernel, by decide +kernel⟩
theorem d_wholeI (T : Txt K mg) (S : Src K mg "is_whole" sIsWhole ["thing"]) : Def P w K mg base 1 "is_whole" ["thing"] spWholeI := by
  refine S.def scIsWhole (fun vs H Q E h => ?_) (fun f cdv A outer s H vs Q E hr h => ?_)
  · obtain ⟨x, rfl, _⟩ := h; rfl
  · obtain ⟨i, rfl, q⟩ := h
    refine ⟨_, pss_one (ps_ret (pe_and (pe_callB call_isinst (by rfl) T.isi boot_isi (pa_cons (pv 0) (pa_cons (pe_bltn (v := .ty "int") rfl T.int boot_int' rfl) pa_nil)))
      (pe_one (pe_not (pe_callB call_isinst (by rfl) T.isi boot_isi (pa_cons (pv 0) (pa_cons (pe_bltn (v := .ty "bool") rfl T.bool boot_bool' rfl) pa_nil))))))), ?_⟩
    exact ⟨_, rfl, _, _, _, _, _, rfl, rfl, .int _, kp_int K, _, rfl, iteT ⟨_, rfl, _, _, _, _, _, rfl, rfl, .int _, kp_intb K, _, rfl, q⟩⟩
theorem scWithin : FnScope ["thing", "least", "greatest"] ["thing", "least", "greatest"] (defScope sWithin) := ⟨rfl, rfl, rfl, by decide +kernel, rfl, by decide +kernel, by decide +kernel⟩
theorem d_withI (S : Src K mg "is_whole_within" sWithin ["thing", "least", "greatest"]) (D : Def P w K mg base 1 "is_whole" ["thing"] spWholeI) : Def P w K mg base 2 "is_whole_within" ["thing", "least", "greatest"] spWithI := by
  refine S.def scWithin (fun vs H Q E h => ?_) (fun f cdv A outer s H vs Q E hr h => ?_)
  · obtain ⟨x, lo, hi, rfl, _⟩ := h; rfl
  · obtain ⟨x, lo, hi, rfl, h1, h2, q⟩ := h
    refine ⟨_, pss_one (ps_ret (pe_and (pe_def D hr rfl (pa_cons (pv 0) pa_nil)) (pe_one (pe_chain op_le op_le (pv 1) (pv 0) (pv 2))))), ?_⟩
    refine ⟨_, rfl, x, rfl, _, rfl, iteT ⟨_, rfl, _, rfl, _, _, rfl, rfl, _, rfl, ?_⟩⟩
    rw [decide_eq_true h1]
    refine iteT ⟨_, rfl, _, _, rfl, rfl, ?_⟩
    dsimp only
    rw [decide_eq_true h2]
    exact q
theorem scNoPt : FnScope ["web", "point"] ["web", "point"] (defScope sNoPt) := ⟨rfl, rfl, rfl, by decide +kernel, rfl, by decide +kernel, by decide +kernel⟩
theorem d_nopt (S : Src K mg "refuse_no_point_of" sNoPt ["web", "point"]) (D : Def P w K mg base 2 "is_whole_within" ["thing", "least", "greatest"] spWithI) : Def P w K mg base 3 "refuse_no_point_of" ["web", "point"] spNoPt := by
  refine S.def scNoPt (fun vs H Q E h => ?_) (fun f cdv A outer s H vs Q E hr h => ?_)
  · obtain ⟨_, _, _, _, rfl, _⟩ := h; rfl
  · obtain ⟨wv, n, ps, p, rfl, W, p0, pn, q⟩ := h
    obtain ⟨c, d, xs, rfl, hc, hd, ht⟩ := W.ex
    refine ⟨_, pss_one (ps_if (pt_not (pt_val (pe_def D hr rfl (pa_cons (pv 1) (pa_cons pe_int (pa_cons (pe_op op_sub (pe_ix ix_tup (pv 0) pe_int (fun _ _ => rfl)) pe_int) pa_nil)))))) pss_never pss_nil), ?_⟩
    have i0 : atI ([.int n, .ref d] : List V) 0 = some (.int n) := atI_nat (j := 0) rfl
    exact ⟨_, rfl, _, rfl, c, _, _, _, rfl, rfl, SqT.of hc, i0, _, _, rfl, rfl, p, 0, n - 1, rfl, p0, by omega, _, rfl, iteF q⟩
theorem scLaidW : FnScope ["one", "other", "places", "points", "ties"] ["one", "other", "places"] (defScope sLaidW) := ⟨rfl, rfl, rfl, by decide +kernel, rfl, by decide +kernel, by decide +kernel⟩
theorem d_lw {C : Addr} {bm : List Value} {t9 t8 : Tok} (T : Txt K mg) (S : Src K mg "laid_with" sLaidW ["one", "other", "places"]) (m9 : mg "MOST_POINTS" = some (.int 9 t9)) (m8 : mg "MOST_TIES" = some (.int 8 t8)) (hm : mg "TooMany" = some (.ref C)) (hc : excB K C bm = true) (DT : Def P w K mg base 2 "ties_at" ["ties", "places"] (spTiesAt K)) : DefX P w K mg base 3 "laid_with" ["one", "other", "places"] (spLW C) := by
  refine Src.defX S scLaidW (fun vs H Q E h => ?_) (fun f cdv A outer s H vs Q E hr h => ?_)
  · obtain ⟨_, _, _, _, _, _, _, _, _, rfl, _⟩ := h; rfl
  · obtain ⟨ov, tv, pl, n1, n2, n, f, ps1, ps2, rfl, W1, W2, hpl, F, o2, l1, l2, B⟩ := h
    obtain ⟨c1, d1, xs1, rfl, hc1, hd1, ht1⟩ := W1.ex
    obtain ⟨c2, d2, xs2, rfl, hc2, hd2, ht2⟩ := W2.ex
    have x1 : xs1.length = ps1.length := Paired.length ht1
    refine ⟨_, pss_cons (ps_set (i := 3) scLaidW.nd rfl (Or.inl rfl) (pe_callB (call_max2 rfl) (by rfl) T.max boot_max' (pa_cons (pe_ix ix_tup (pv 0) pe_int (fun _ _ => rfl)) (pa_cons (pe_op op_add (pe_callB (call_max1L rfl) (by rfl) T.max boot_max' (pa_cons (pv 2) pa_nil)) pe_int) pa_nil))))
      (pss_cons (ps_set (i := 4) scLaidW.nd rfl (Or.inl rfl) (pe_op op_catA (pe_ix ix_tup (pv 0) pe_int (fun _ _ => rfl)) (pe_def DT hr rfl (pa_cons (pe_ix ix_tup (pv 1) pe_int (fun _ _ => rfl)) (pa_cons (pv 2) pa_nil)))))
      (pss_cons (ps_if (PW.pt (pw_or (pt_cmpR op_gt (pv 3) (pe_glob (v := .int 9) rfl m9 ⟨_, rfl⟩) (nomark _)) (pw_or1 (pt_cmpR op_gt (pe_callB call_len_seq (by rfl) T.len PySem.boot_len (pa_cons (pv 4) pa_nil)) (pe_glob (v := .int 8) rfl m8 ⟨_, rfl⟩) (nomark _)))))
        (pss_one (ps_raise rfl hm hc (pa_cons (pe_joined (pj_cons pe_str (pj_cons (pe_fint (pe_glob (v := .int 9) rfl m9 ⟨_, rfl⟩)) (pj_cons pe_str (pj_cons (pe_fint (pe_glob (v := .int 8) rfl m8 ⟨_, rfl⟩)) (pj_cons pe_str pj_nil)))))) pa_nil))) pss_nil)
      (pss_one (ps_ret (pe_tup (pa_cons (pv 3) (pa_cons (pv 4) pa_nil))))))), ?_⟩
    have i0 : atI ([.int (n1 : Int), .ref d1] : List V) 0 = some (.int (n1 : Int)) := atI_nat (j := 0) rfl
    have i1 : atI ([.int (n1 : Int), .ref d1] : List V) 1 = some (.ref d1) := atI_nat (j := 1) rfl
    have j1 : atI ([.int (n2 : Int), .ref d2] : List V) 1 = some (.ref d2) := atI_nat (j := 1) rfl
    refine ⟨_, rfl, c1, _, _, _, rfl, rfl, SqT.of hc1, i0, _, rfl, pl, f, rfl, SqL.of hpl, F.ne, _, _, rfl, rfl, _, _, rfl, ?_⟩
    have top := F.top
    have fl := F.len
    dsimp only [List.set]
    rw [top]
    refine ⟨_, rfl, c1, _, _, _, rfl, rfl, SqT.of hc1, i1, _, rfl, c2, _, _, _, rfl, rfl, SqT.of hc2, j1, _, rfl, .l, d2, pl, (n2 : Int), f, xs2, ps2, rfl, hd2, ht2, SqL.of hpl, by omega, o2.hb, l2, fun r ys H1 s1 hr1 py => ?_⟩
    have yl : ys.length = ps2.length := by rw [Paired.length py, List.length_map]
    refine ⟨d1, r, xs1, ys, rfl, rfl, s1 _ _ hd1, hr1, Nat.le_of_lt (line100 (by omega)), fun t H2 s2 ht => ?_⟩
    have py2 := pair_app (ties_same ht1 (s1.trans s2)) (ties_same py s2)
    have ql : (ps1 ++ ps2.map (renT f)).length = (xs1 ++ ys).length := (Paired.length py2).symm
    have s02 := s1.trans s2
    have rz : ∀ H', Same H H' → (9 < n ∨ 8 < (ps1 ++ ps2.map (renT f)).length) → E (.ref C) none H' := fun H' s' z => B.2 z H' s'
    dsimp only [List.set]
    refine ⟨_, rfl, _, _, rfl, rfl, _, rfl, ?_⟩
    by_cases h9 : 9 < n
    · rw [decide_eq_true (show (9 : Int) < (n : Int) by omega)]
      refine iteT ⟨_, rfl, by decide +kernel, 9, rfl, by decide +kernel, _, rfl, by decide +kernel, _, rfl, by decide +kernel, 8, rfl, by decide +kernel, _, rfl, by decide +kernel, _, rfl, by decide +kernel, by decide +kernel, by show 1 ≤ 100; decide, rz _ s02 (.inl h9)⟩
    · rw [decide_eq_false (show ¬ (9 : Int) < (n : Int) by omega)]
      refine iteF ⟨_, rfl, t, _, rfl, .inr (SqT.of ht), _, _, rfl, rfl, _, rfl, ?_⟩
      rw [← ql]
      by_cases h8 : 8 < (ps1 ++ ps2.map (renT f)).length
      · rw [decide_eq_true (show (8 : Int) < ((ps1 ++ ps2.map (renT f)).length : Int) by omega)]
        refine iteT ⟨_, rfl, by decide +kernel, 9, rfl, by decide +kernel, _, rfl, by decide +kernel, _, rfl, by decide +kernel, 8, rfl, by decide +kernel, _, rfl, by decide +kernel, _, rfl, by decide +kernel, by decide +kernel, by show 1 ≤ 100; decide, rz _ s02 (.inr h8)⟩
      · rw [decide_eq_false (show ¬ (8 : Int) < ((ps1 ++ ps2.map (renT f)).length : Int) by omega)]
        refine iteF ⟨_, rfl, _, rfl, by show 2 ≤ sizeLine; decide, fun e he => ?_⟩
        have s3 := Same.new (o := HO.tup [.int (n : Int), .ref t]) he
        exact B.1 (by omega) (by omega) (.ref e) _ (s02.trans s3) ⟨e, t, _, rfl, upd_same, s3 _ _ ht, ties_same py2 s3⟩
theorem scBeside : FnScope ["one", "other"] ["one", "other"] (defScope sBeside) := ⟨rfl, rfl, rfl, by decide +kernel, rfl, by decide +kernel, by decide +kernel⟩
theorem ndpo : (["point", "one"] : List Str).Nodup := by decide +kernel
theorem d_bes {C : Addr} (T : Txt K mg) (S : Src K mg "laid_beside" sBeside ["one", "other"]) (DW : DefX P w K mg base 3 "laid_with" ["one", "other", "places"] (spLW C)) : DefX P w K mg base 4 "laid_beside" ["one", "other"] (spBes C) := by
  refine Src.defX S scBeside (fun vs H Q E h => ?_) (fun f cdv A outer s H vs Q E hr h => ?_)
  · obtain ⟨_, _, _, _, _, _, rfl, _⟩ := h; rfl
  · obtain ⟨ov, tv, n1, n2, ps1, ps2, rfl, W1, W2, o2, n9, l1, l2, B⟩ := h
    obtain ⟨c1, d1, xs1, rfl, hc1, hd1, ht1⟩ := id W1.ex
    obtain ⟨c2, d2, xs2, rfl, hc2, hd2, ht2⟩ := id W2.ex
    refine ⟨_, pss_one (ps_ret (pe_defP DW hr rfl (pa_cons (pv 0) (pa_cons (pv 1) (pa_cons (pe_comp (N' := ["point", "one"]) (fr := [none, some 0]) (compOk_of (by rfl)) rfl (pi_range1 rfl T.range (pa_cons (pe_ix ix_tup (pv 1) pe_int (fun _ _ => rfl)) pa_nil)) (fun _ _ _ _ => pg_name (i := 0) ndpo rfl (Or.inl rfl) (Or.inr rfl)) (fun _ _ _ _ => pifs_nil)
      (fun _ _ _ _ => pe_op op_add (pe_ix (r := rIxT K) ix_tup (pv 1) pe_int (fun _ _ => rfl)) (pv 0))) pa_nil))))), ?_⟩
    have i0 : atI ([.int (n1 : Int), .ref d1] : List V) 0 = some (.int (n1 : Int)) := atI_nat (j := 0) rfl
    have j0 : atI ([.int (n2 : Int), .ref d2] : List V) 0 = some (.int (n2 : Int)) := atI_nat (j := 0) rfl
    refine ⟨_, rfl, _, rfl, _, rfl, c2, _, _, _, rfl, rfl, SqT.of hc2, j0, (n2 : Int), rfl, by omega, by omega, ?_⟩
    rw [Int.toNat_natCast]
    refine comp_range (lo := 0) (n := n2) (fun σ => ∃ u, σ = [u, some (.ref c1)]) (fun i ys H2 => H2 = H ∧ ys = ((ups (i : Int)).map fun i => (n1 : Int) + i).map V.int) ⟨_, rfl⟩ ⟨rfl, rfl⟩ (line100 (by omega)) ?_ ?_
    · rintro i ys σ H2 N hi ⟨u, rfl⟩ ⟨rfl, rfl⟩ hN
      rw [show (0 : Int) + (i : Int) = (i : Int) by omega]
      dsimp only [gName, List.set]
      refine yesT ⟨_, rfl, c1, _, _, _, rfl, rfl, SqT.of hc1, i0, _, rfl, _, _, rfl, rfl, ?_⟩
      refine hN _ _ _ ⟨_, rfl⟩ ⟨rfl, ?_⟩ (by simp)
      rw [show ((i + 1 : Nat) : Int) = (i : Int) + 1 by omega, ups_snoc (by omega), List.map_append, List.map_append]
      rfl
    · rintro ys H2 ⟨rfl, rfl⟩ p3 hp3
      have s3 := Same.new (o := HO.lst ((besP n1 n2).map V.int)) hp3
      exact ⟨.ref c1, .ref c2, p3, n1, n2, n1 + n2, besP n1 n2, ps1, ps2, rfl, W1.same s3, W2.same s3, upd_same, bes_ok o2.n1, o2, l1, l2, B.same s3⟩
theorem scLaidAt : FnScope ["one", "p", "other", "q", "ahead", "behind"] ["one", "p", "other", "q"] (defScope sLaidAt) := ⟨rfl, rfl, rfl, by decide +kernel, rfl, by decide +kernel, by decide +kernel⟩
theorem d_lat {C : Addr} (T : Txt K mg) (S : Src K mg "laid_at" sLaidAt ["one", "p", "other", "q"]) (DP : Def P w K mg base 3 "refuse_no_point_of" ["web", "point"] spNoPt) (DW : DefX P w K mg base 3 "laid_with" ["one", "other", "places"] (spLW C)) : DefX P w K mg base 4 "laid_at" ["one", "p", "other", "q"] (spLat C) := by
  refine Src.defX S scLaidAt (fun vs H Q E h => ?_) (fun f cdv A outer s H vs Q E hr h => ?_)
  · obtain ⟨_, _, _, _, _, _, _, _, rfl, _⟩ := h; rfl
  · obtain ⟨ov, tv, n1, n2, p, q, ps1, ps2, rfl, W1, W2, o2, n9, l1, l2, hp, hq, B⟩ := h
    obtain ⟨c1, d1, xs1, rfl, hc1, hd1, ht1⟩ := id W1.ex
    obtain ⟨c2, d2, xs2, rfl, hc2, hd2, ht2⟩ := id W2.ex
    refine ⟨_, pss_cons (ps_expr (pe_def DP hr rfl (pa_cons (pv 0) (pa_cons (pv 1) pa_nil))))
      (pss_cons (ps_expr (pe_def DP hr rfl (pa_cons (pv 2) (pa_cons (pv 3) pa_nil))))
      (pss_cons (ps_setComp (i := 4) scLaidAt.nd rfl (Or.inl rfl) (N' := ["point", "one"]) (fr := [none, some 0]) (compOk_of (by rfl)) rfl (pi_range1 rfl T.range (pa_cons (pv 3) pa_nil)) (fun _ _ _ _ => pg_name (i := 0) ndpo rfl (Or.inl rfl) (Or.inr rfl)) (fun _ _ _ _ => pifs_nil)
        (fun _ _ _ _ => pe_op op_add (pe_ix (r := rIxT K) ix_tup (pv 1) pe_int (fun _ _ => rfl)) (pv 0)))
      (pss_cons (ps_setComp (i := 5) scLaidAt.nd rfl (Or.inl rfl) (N' := ["point", "one"]) (fr := [none, some 0]) (compOk_of (by rfl)) rfl (pi_range2 rfl T.range (pa_cons (pe_op op_add (pv 3) pe_int) (pa_cons (pe_ix ix_tup (pv 2) pe_int (fun _ _ => rfl)) pa_nil))) (fun _ _ _ _ => pg_name (i := 0) ndpo rfl (Or.inl rfl) (Or.inr rfl)) (fun _ _ _ _ => pifs_nil)
        (fun _ _ _ _ => pe_op op_sub (pe_op op_add (pe_ix (r := rIxT K) ix_tup (pv 1) pe_int (fun _ _ => rfl)) (pv 0)) pe_int))
      (pss_one (ps_ret (pe_defP DW hr rfl (pa_cons (pv 0) (pa_cons (pv 2) (pa_cons (pe_op op_cat (pe_op op_cat (pv 4) (pe_lst (pa_cons (pv 1) pa_nil))) (pv 5)) pa_nil))))))))), ?_⟩
    have i0 : atI ([.int (n1 : Int), .ref d1] : List V) 0 = some (.int (n1 : Int)) := atI_nat (j := 0) rfl
    have j0 : atI ([.int (n2 : Int), .ref d2] : List V) 0 = some (.int (n2 : Int)) := atI_nat (j := 0) rfl
    refine ⟨_, rfl, _, rfl, .ref c1, (n1 : Int), ps1, (p : Int), rfl, W1, by omega, by omega, ?_⟩
    refine ⟨_, rfl, _, rfl, .ref c2, (n2 : Int), ps2, (q : Int), rfl, W2, by omega, by omega, ?_⟩
    refine ⟨_, rfl, (q : Int), rfl, by omega, by omega, ?_⟩
    rw [Int.toNat_natCast]
    refine comp_range (lo := 0) (n := q) (fun σ => ∃ u, σ = [u, some (.ref c1)]) (fun i ys H2 => H2 = H ∧ ys = ((ups (i : Int)).map fun i => (n1 : Int) + i).map V.int) ⟨_, rfl⟩ ⟨rfl, rfl⟩ (line100 (by omega)) ?_ ?_
    · rintro i ys σ H2 N hi ⟨u, rfl⟩ ⟨rfl, rfl⟩ hN
      rw [show (0 : Int) + (i : Int) = (i : Int) by omega]
      dsimp only [gName, List.set]
      refine yesT ⟨_, rfl, c1, _, _, _, rfl, rfl, SqT.of hc1, i0, _, rfl, _, _, rfl, rfl, ?_⟩
      refine hN _ _ _ ⟨_, rfl⟩ ⟨rfl, ?_⟩ (by simp)
      rw [show ((i + 1 : Nat) : Int) = (i : Int) + 1 by omega, ups_snoc (by omega), List.map_append, List.map_append]
      rfl
    · rintro ys H2 ⟨rfl, rfl⟩ p3 hp3
      have s3 := Same.new (o := HO.lst ((aheP n1 q).map V.int)) hp3
      have h3 : (upd H2 p3 (.lst ((aheP n1 q).map V.int))) p3 = some (.lst ((aheP n1 q).map V.int)) := upd_same
      have al : (aheP n1 q).length = q := by unfold aheP; rw [List.length_map, ups_len]; omega
      unfold aheP at s3 h3 al
      generalize upd H2 p3 (.lst (((ups (q : Int)).map fun i => (n1 : Int) + i).map V.int)) = H3 at s3 h3 ⊢
      dsimp only [List.set]
      refine ⟨_, rfl, _, _, rfl, rfl, _, rfl, c2, _, _, _, rfl, rfl, SqT.of (s3 _ _ hc2), j0, (q : Int) + 1, (n2 : Int), rfl, ⟨by omega, by omega, by omega, by omega⟩, ?_⟩
      rw [show ((n2 : Int) - ((q : Int) + 1)).toNat = n2 - (q + 1) by omega]
      refine comp_range (lo := (q : Int) + 1) (n := n2 - (q + 1)) (fun σ => ∃ u, σ = [u, some (.ref c1)]) (fun i ys H4 => H4 = H3 ∧ ys = (behP n1 q i).map V.int) ⟨_, rfl⟩ ⟨rfl, rfl⟩ (line100 (by omega)) ?_ ?_
      · rintro i ys σ H4 N hi ⟨u, rfl⟩ ⟨rfl, rfl⟩ hN
        dsimp only [gName, List.set]
        refine yesT ⟨_, rfl, c1, _, _, _, rfl, rfl, SqT.of (s3 _ _ hc1), i0, _, rfl, _, _, rfl, rfl, _, _, rfl, rfl, ?_⟩
        refine hN _ _ _ ⟨_, rfl⟩ ⟨rfl, ?_⟩ (by simp)
        unfold behP
        rw [List.range_succ, List.map_append, List.map_append]
        rfl
      · rintro ys H4 ⟨rfl, rfl⟩ p5 hp5
        have s5 := Same.new (o := HO.lst ((behP n1 q (n2 - (q + 1))).map V.int)) hp5
        have h5 : (upd H4 p5 (.lst ((behP n1 q (n2 - (q + 1))).map V.int))) p5 = some (.lst ((behP n1 q (n2 - (q + 1))).map V.int)) := upd_same
        have h35 := s5 _ _ h3
        have s05 := s3.trans s5
        have bl : (behP n1 q (n2 - (q + 1))).length = n2 - (q + 1) := by unfold behP; rw [List.length_map, List.length_range]
        generalize upd H4 p5 (.lst ((behP n1 q (n2 - (q + 1))).map V.int)) = H5 at s5 h5 h35 s05 ⊢
        dsimp only [List.set]
        refine ⟨_, rfl, _, rfl, _, rfl, _, rfl, by show 1 ≤ sizeLine; decide, fun e he => ?_⟩
        have s6 := Same.new (o := HO.lst [.int (p : Int)]) he
        have h6 : (upd H5 e (.lst [.int (p : Int)])) e = some (.lst [.int (p : Int)]) := upd_same
        have h36 := s6 _ _ h35
        have h56 := s6 _ _ h5
        have s06 := s05.trans s6
        generalize upd H5 e (.lst [.int (p : Int)]) = H6 at s6 h6 h36 h56 s06 ⊢
        refine ⟨p3, e, _, _, rfl, rfl, h36, h6, Nat.le_of_lt (line100 (by rw [List.length_map, al]; show q + 1 ≤ 100; omega)), fun g hg => ?_⟩
        have s7 := Same.new (o := HO.lst ((((ups (q : Int)).map fun i => (n1 : Int) + i).map V.int) ++ [.int (p : Int)])) hg
        refine ⟨_, rfl, g, p5, _, _, rfl, rfl, upd_same, s7 _ _ h56, Nat.le_of_lt (line100 (by rw [List.length_append, List.length_map, List.length_map (as := behP n1 q (n2 - (q + 1))), bl, al]; show q + 1 + (n2 - (q + 1)) ≤ 100; omega)), fun k hk => ?_⟩
        have e8 : (((ups (q : Int)).map fun i => (n1 : Int) + i).map V.int ++ [V.int (p : Int)]) ++ (behP n1 q (n2 - (q + 1))).map V.int = (layP n1 p q n2).map V.int := by
          unfold layP aheP
          rw [List.map_append, List.map_append]
          rfl
        rw [e8]
        have s8 := Same.new (o := HO.lst ((layP n1 p q n2).map V.int)) hk
        have s08 := s06.trans (s7.trans s8)
        exact ⟨.ref c1, .ref c2, k, n1, n2, n1 + n2 - 1, layP n1 p q n2, ps1, ps2, rfl, W1.same s08, W2.same s08, upd_same, lay_ok hp hq, o2, l1, l2, B.same s08⟩
end
end My

namespace My
open PySem L2
def spSmall : Sp := fun vs H Q _ => ∃ c : Int, vs = [.int c] ∧ ∀ wv (n : Nat) ps H', Same H H' → WebAt H' wv n ps → OkV n ps → n ≤ 3 → ps.length ≤ 3 → Q wv H'
def spMoved : Sp := fun vs H Q _ => ∃ (t r : Addr) (n : Int) (f : List Int) (xs : List V) (ps : List (Int × Int)), vs = [.ref t, .ref r] ∧ H t = some (.tup xs) ∧ Paired (TieAt H) xs ps ∧ H r = some (.lst (f.map V.int)) ∧ n ≤ (f.length : Int) ∧ (∀ p ∈ ps, InN n p) ∧ ps.length ≤ 8 ∧
  ∀ z ys H', Same H H' → H' z = some (.tup ys) → Paired (TieAt H') ys (ps.map (renT f)) → Q (.ref z) H'
def spLBes : Sp := fun vs H Q _ => ∃ (ov tv : V) (n1 n2 : Nat) (ps1 ps2 : List (Int × Int)), vs = [ov, tv] ∧ WebAt H ov n1 ps1 ∧ WebAt H tv n2 ps2 ∧ OkV n2 ps2 ∧ n2 ≤ 9 ∧ ps1.length ≤ 8 ∧ ps2.length ≤ 8 ∧ ∀ v H', Same H H' → WebAt H' v ((n1 + n2 : Nat) : Int) (ps1 ++ ps2.map (renT (besP n1 n2))) → Q v H'
def spLLaid : Sp := fun vs H Q _ => ∃ (ov tv : V) (n1 n2 p q : Nat) (ps1 ps2 : List (Int × Int)), vs = [ov, .int p, tv, .int q] ∧ WebAt H ov n1 ps1 ∧ WebAt H tv n2 ps2 ∧ OkV n2 ps2 ∧ n2 ≤ 9 ∧ ps1.length ≤ 8 ∧ ps2.length ≤ 8 ∧ p < n1 ∧ q < n2 ∧ ∀ v H', Same H H' → WebAt H' v ((n1 + n2 - 1 : Nat) : Int) (ps1 ++ ps2.map (renT (layP n1 p q n2))) → Q v H'
section
variable {P : Program} {w : World} {K : PySem.W.Frag} {mg : Str → Option Value} {base : Heap}
theorem scSmall : FnScope ["_law_load", "_law_points", "_law_ties", "_law_rest", "_law_k", "_law_a", "_law_b"] ["_law_load"] (defScope sSmall) := ⟨rfl, rfl, rfl, by decide +kernel, rfl, by decide +kernel, by decide +kernel⟩
theorem d_small (T : Txt K mg) (S : Src K mg "_law_small" sSmall ["_law_load"]) : Def P w K mg base 1 "_law_small" ["_law_load"] spSmall := by
  refine S.def scSmall (fun vs H Q E h => ?_) (fun f cdv A outer s H vs Q E hr h => ?_)
  · obtain ⟨_, rfl, _⟩ := h; rfl
  · obtain ⟨c, rfl, q⟩ := h
    refine ⟨_, pss_cons (ps_set (i := 1) scSmall.nd rfl (Or.inl rfl) (pe_op op_add pe_int (pe_op op_mod (pv 0) pe_int)))
      (pss_cons (ps_set (i := 2) scSmall.nd rfl (Or.inl rfl) (pe_lst pa_nil))
      (pss_cons (ps_set (i := 3) scSmall.nd rfl (Or.inl rfl) (pe_op op_fdiv (pv 0) pe_int))
      (pss_cons (ps_for PassesOwn.never rfl (pi_range1 rfl T.range (pa_cons (pe_op op_mod (pe_op op_fdiv (pv 0) pe_int) pe_int) pa_nil)) (pg_name (i := 4) scSmall.nd rfl (Or.inl rfl))
        (pss_cons (ps_set (i := 5) scSmall.nd rfl (Or.inl rfl) (pe_op op_mod (pv 3) (pv 1)))
        (pss_cons (ps_set (i := 6) scSmall.nd rfl (Or.inl rfl) (pe_op op_mod (pe_op op_fdiv (pv 3) (pv 1)) (pv 1)))
        (pss_cons (ps_expr (pe_bm PySem.F.plainAttrs_list PySem.F.slot_list_append PySem.F.type_list_append mt_append (pv 2) (pa_cons (pe_tup (pa_cons (pe_callB (call_min2 rfl) (by rfl) T.min boot_min' (pa_cons (pv 5) (pa_cons (pv 6) pa_nil))) (pa_cons (pe_callB (call_max2 rfl) (by rfl) T.max boot_max' (pa_cons (pv 5) (pa_cons (pv 6) pa_nil))) pa_nil))) pa_nil)))
        (pss_one (ps_set (i := 3) scSmall.nd rfl (Or.inl rfl) (pe_op op_fdiv (pv 3) pe_int)))))))
      (pss_one (ps_ret (pe_tup (pa_cons (pv 1) (pa_cons (pe_callTy call_tuple_of rfl T.tuple boot_tuple' (pa_cons (pv 2) pa_nil)) pa_nil)))))))), ?_⟩
    have b1 := mod_in c 3 (by decide)
    have b2 := mod_in (c / 3) 4 (by decide)
    obtain ⟨n, en, n1, n3⟩ : ∃ n : Nat, 1 + c % 3 = (n : Int) ∧ 1 ≤ n ∧ n ≤ 3 := ⟨(1 + c % 3).toNat, by omega, by omega, by omega⟩
    obtain ⟨m, emm, m3⟩ : ∃ m : Nat, c / 3 % 4 = (m : Int) ∧ m ≤ 3 := ⟨(c / 3 % 4).toNat, by omega, by omega⟩
    refine ⟨_, rfl, _, _, rfl, rfl, (by show (0 : Int) < 3; decide), _, _, rfl, rfl, ?_⟩
    dsimp only [List.set]
    rw [en]
    refine ⟨Nat.zero_le _, fun l hl => ?_⟩
    have s1 := Same.new (o := HO.lst []) hl
    have g1 : (upd H l (.lst [])) l = some (.lst []) := upd_same
    generalize upd H l (.lst []) = H1 at s1 g1 ⊢
    refine ⟨_, rfl, _, _, rfl, rfl, ⟨by decide, by decide⟩, ?_⟩
    dsimp only [List.set]
    refine ⟨_, rfl, _, _, rfl, rfl, ⟨by decide, by decide⟩, _, _, rfl, rfl, (by show (0 : Int) < 4; decide), (m : Int), (by show [V.int (c / 3 % 4)] = [V.int (m : Int)]; rw [emm]), by omega, by omega, ?_⟩
    rw [Int.toNat_natCast]
    refine for_range (lo := 0) (n := m) (fun i σ H' => ∃ (z : Int) (u v r : Option V), σ = [some (.int c), some (.int (n : Int)), some (.ref l), some (.int z), u, v, r] ∧ Same H H' ∧ ∃ xs ps, H' l = some (.lst xs) ∧ Paired (TieAt H') xs ps ∧ OkV n ps ∧ ps.length = i) ⟨_, _, _, _, rfl, s1, [], [], g1, .nil, ⟨n1, fun _ z => nomatch z⟩, rfl⟩ ?_ ?_
    · rintro i σ H3 hi ⟨z, u, v, r, rfl, sm, xs, ps, hl3, ht, ov, pl⟩
      dsimp only [gName, List.set]
      refine ⟨_, rfl, _, rfl, _, _, rfl, rfl, (by show (0 : Int) < (n : Int); omega), ?_⟩
      refine ⟨_, rfl, _, rfl, _, _, rfl, rfl, ⟨by show (0 : Int) < (n : Int); omega, by show (n : Int) < 1073741824; omega⟩, _, rfl, _, _, rfl, rfl, (by show (0 : Int) < (n : Int); omega), ?_⟩
      have m1 := mod_in z (n : Int) (by omega)
      have m2 := mod_in (z / (n : Int)) (n : Int) (by omega)
      dsimp only [List.set]
      generalize z % (n : Int) = A1 at m1 ⊢
      generalize z / (n : Int) % (n : Int) = B1 at m2 ⊢
      refine ⟨_, rfl, .inl ⟨rfl, _, SqL.of hl3⟩, _, rfl, _, rfl, _, _, rfl, _, rfl, _, rfl, _, _, rfl, by show 2 ≤ sizeLine; decide, fun c5 hc => ?_⟩
      have s5 := Same.new (o := HO.tup [.int (if B1 < A1 then B1 else A1), .int (if B1 > A1 then B1 else A1)]) hc
      have hl5 := s5 _ _ hl3
      have ht5 := ties_same ht s5
      have hc5 : (upd H3 c5 (.tup [.int (if B1 < A1 then B1 else A1), .int (if B1 > A1 then B1 else A1)])) c5 = some (.tup [.int (if B1 < A1 then B1 else A1), .int (if B1 > A1 then B1 else A1)]) := upd_same
      have sm5 := sm.trans s5
      generalize upd H3 c5 (.tup [.int (if B1 < A1 then B1 else A1), .int (if B1 > A1 then B1 else A1)]) = H5 at hl5 ht5 hc5 sm5 ⊢
      have xl : xs.length = ps.length := Paired.length ht5
      refine ⟨l, xs, .ref c5, rfl, rfl, hl5, line100 (by omega), ?_⟩
      have tc : Paired (TieAt H5) (xs ++ [.ref c5]) (ps ++ [(if B1 < A1 then B1 else A1, if B1 > A1 then B1 else A1)]) := L2.Paired.snoc ht5 ⟨c5, rfl, hc5⟩
      refine ⟨_, rfl, _, _, rfl, rfl, ⟨by decide, by decide⟩, ?_⟩
      refine ⟨_, _, _, _, rfl, put_fresh sm5 hl, xs ++ [.ref c5], _, upd_same, ties_put tc hl5, ⟨n1, fun p hp => ?_⟩, by rw [List.length_append, pl, List.length_singleton]⟩
      rcases List.mem_append.mp hp with hp | hp
      · exact ov.hb p hp
      · rw [List.mem_singleton.mp hp]
        unfold InN
        dsimp only
        split <;> split <;> omega
    · rintro σ H3 ⟨z, u, v, r, rfl, sm, xs, ps, hl3, ht, ov, pl⟩
      refine ⟨_, rfl, _, rfl, l, xs, rfl, .inl ⟨SqL.of hl3, fun d hd => ⟨by show 2 ≤ sizeLine; decide, fun c hc => ?_⟩⟩⟩
      have s4 := Same.new (o := HO.tup xs) hd
      have s5 := Same.new (o := HO.tup [.int (n : Int), .ref d]) hc
      exact q (.ref c) n ps _ (sm.trans (s4.trans s5)) ⟨c, d, xs, rfl, upd_same, s5 _ _ upd_same, ties_same ht (s4.trans s5)⟩ ov n3 (by omega)
theorem scMoved : FnScope ["_law_ties", "_law_places", "_law_ends"] ["_law_ties", "_law_places"] (defScope sMoved) := ⟨rfl, rfl, rfl, by decide +kernel, rfl, by decide +kernel, by decide +kernel⟩
theorem ndabq : (["_law_a", "_law_b", "_law_places"] : List Str).Nodup := by decide +kernel
theorem nd1t : (["_law_tie"] : List Str).Nodup := by decide +kernel
theorem d_moved (T : Txt K mg) (S : Src K mg "_law_moved" sMoved ["_law_ties", "_law_places"]) : Def P w K mg base 1 "_law_moved" ["_law_ties", "_law_places"] spMoved := by
  refine S.def scMoved (fun vs H Q E h => ?_) (fun f cdv A outer s H vs Q E hr h => ?_)
  · obtain ⟨_, _, _, _, _, _, rfl, _⟩ := h; rfl
  · obtain ⟨d, r, n, row, xs, ps, rfl, hd, ht, hrow, rl, hb, h8, q⟩ := h
    have xl : xs.length = ps.length := Paired.length ht
    refine ⟨_, pss_cons (ps_setComp (i := 2) scMoved.nd rfl (Or.inl rfl) (N' := ["_law_a", "_law_b", "_law_places"]) (fr := [none, none, some 1]) (compOk_of (by rfl)) rfl (pi_seq .t (pv 0))
        (g := gTup K 2 (gCons (gName 0) (gCons (gName 1) gNil))) (fun _ _ _ _ => pg_tup rfl (pgs_cons (pg_name (i := 0) ndabq rfl (Or.inl rfl) (Or.inr rfl)) (pgs_cons (pg_name (i := 1) ndabq rfl (Or.inl rfl) (Or.inr rfl)) pgs_nil))) (fun _ _ _ _ => pifs_nil)
        (fun _ _ _ _ => pe_tup (pa_cons (pe_ix (r := rIxL K) ix_list (pv 2) (pv 0) (fun _ _ => rfl)) (pa_cons (pe_ix (r := rIxL K) ix_list (pv 2) (pv 1) (fun _ _ => rfl)) pa_nil))))
      (pss_one (ps_ret (pe_callTy call_tuple_of rfl T.tuple boot_tuple' (pa_cons (pe_comp (N' := ["_law_tie"]) (fr := [none]) (compOk_of (by rfl)) rfl (pi_seq .l (pv 2)) (fun _ _ _ _ => pg_name (i := 0) nd1t rfl (Or.inl rfl) (Or.inr rfl)) (fun _ _ _ _ => pifs_nil)
        (fun _ _ _ _ => pe_tup (pa_cons (pe_callB (r := rPick2 K fun x y => if y < x then y else x) (call_min1T rfl) (by rfl) T.min boot_min' (pa_cons (pv 0) pa_nil)) (pa_cons (pe_callB (r := rPick2 K fun x y => if y > x then y else x) (call_max1T rfl) (by rfl) T.max boot_max' (pa_cons (pv 0) pa_nil)) pa_nil)))) pa_nil)))), ?_⟩
    refine ⟨_, rfl, d, rfl, ⟨_, SqT.of hd⟩, comp_seq (k := .t) (a := d) (xs := xs) (fun σ => ∃ u v, σ = [u, v, some (.ref r)]) (fun j ys H2 => Same H H2 ∧ Paired (TieAt H2) ys ((ps.take j).map fun p => (at0 row p.1, at0 row p.2))) ⟨_, _, rfl⟩ ⟨Same.refl _, .nil⟩ (ten_line (by omega)) (fun j ys H2 _ z => SqT.of (z.1 _ _ hd)) ?_ ?_⟩
    · rintro j x ys σ H2 N hx ⟨u, v, rfl⟩ ⟨s2, hys⟩ hN
      obtain ⟨p, ep, e, rfl, he⟩ := Paired.at ht hx
      obtain ⟨b1, b2, b3, b4⟩ := hb p (List.mem_of_getElem? ep)
      have a0 := at_int (l := row) (i := p.1) b1 (by omega)
      have a1 := at_int (l := row) (i := p.2) b3 (by omega)
      have hr2 := s2 _ _ hrow
      refine ⟨e, _, rfl, SqT.of (s2 _ _ he), rfl, _, _, rfl, _, _, rfl, rfl, ?_⟩
      dsimp only [gName, List.set]
      refine yesT ⟨_, rfl, _, rfl, r, _, _, _, rfl, rfl, SqL.of hr2, a0, _, rfl, _, rfl, r, _, _, _, rfl, rfl, SqL.of hr2, a1, by show 2 ≤ sizeLine; decide, fun g hg => ?_⟩
      have s3 := Same.new (o := HO.tup [.int (at0 row p.1), .int (at0 row p.2)]) hg
      refine hN _ _ _ ⟨_, _, rfl⟩ ⟨s2.trans s3, ?_⟩ (by simp)
      rw [take_succ_of ep, List.map_append]
      exact L2.Paired.snoc (ties_same hys s3) ⟨g, rfl, upd_same⟩
    · rintro ys H2 ⟨s2, hys⟩ p3 hp3
      rw [xl, List.take_length] at hys
      have s3 := s2.trans (Same.new (o := HO.lst ys) hp3)
      have h3 : (upd H2 p3 (.lst ys)) p3 = some (.lst ys) := upd_same
      have py := ties_same hys (Same.new (o := HO.lst ys) hp3)
      generalize upd H2 p3 (.lst ys) = H3 at s3 h3 py ⊢
      have yl : ys.length = ps.length := by rw [Paired.length py, List.length_map]
      dsimp only [List.set]
      refine ⟨_, rfl, p3, rfl, ⟨_, SqL.of h3⟩, comp_seq (k := .l) (a := p3) (xs := ys) (fun σ => ∃ u, σ = [u]) (fun j zs H4 => Same H3 H4 ∧ Paired (TieAt H4) zs ((ps.take j).map (renT row))) ⟨_, rfl⟩ ⟨Same.refl _, .nil⟩ (ten_line (by omega)) (fun j ys H4 _ z => SqL.of (z.1 _ _ h3)) ?_ ?_⟩
      · rintro j x zs σ H4 N hx ⟨u, rfl⟩ ⟨s4, hzs⟩ hN
        obtain ⟨t, et, e, rfl, he⟩ := Paired.at py hx
        rw [List.getElem?_map] at et
        obtain ⟨p, ep, rfl⟩ : ∃ p, ps[j]? = some p ∧ (at0 row p.1, at0 row p.2) = t := by
          cases h : ps[j]? with
          | none => rw [h] at et; cases et
          | some p => rw [h] at et; exact ⟨p, rfl, Option.some.inj et⟩
        have he4 := s4 _ _ he
        have nmn := norm_min (at0 row p.1, at0 row p.2)
        dsimp only [gName, List.set]
        refine yesT ⟨_, rfl, e, _, _, rfl, SqT.of he4, _, rfl, e, _, _, rfl, SqT.of he4, by show 2 ≤ sizeLine; decide, fun g hg => ?_⟩
        have s5 := Same.new (o := HO.tup [.int (if at0 row p.2 < at0 row p.1 then at0 row p.2 else at0 row p.1), .int (if at0 row p.2 > at0 row p.1 then at0 row p.2 else at0 row p.1)]) hg
        refine hN _ _ _ ⟨_, rfl⟩ ⟨s4.trans s5, ?_⟩ (by simp)
        rw [take_succ_of ep, List.map_append]
        refine L2.Paired.snoc (ties_same hzs s5) ⟨g, rfl, ?_⟩
        show upd H4 g _ g = some (.tup [.int (norm (at0 row p.1, at0 row p.2)).1, .int (norm (at0 row p.1, at0 row p.2)).2])
        rw [← nmn.1, ← nmn.2]
        exact upd_same
      · rintro zs H4 ⟨s4, hzs⟩ p5 hp5
        rw [yl, List.take_length] at hzs
        have s5 := Same.new (o := HO.lst zs) hp5
        refine ⟨p5, zs, rfl, .inl ⟨SqL.of upd_same, fun e he => ?_⟩⟩
        have s6 := Same.new (o := HO.tup zs) he
        exact q e zs _ (s3.trans (s4.trans (s5.trans s6))) upd_same (ties_same hzs (s5.trans s6))
theorem scLBes : FnScope ["_law_one", "_law_other", "_law_places"] ["_law_one", "_law_other"] (defScope sLBes) := ⟨rfl, rfl, rfl, by decide +kernel, rfl, by decide +kernel, by decide +kernel⟩
theorem ndlpo : (["_law_point", "_law_one"] : List Str).Nodup := by decide +kernel
theorem d_lbes (T : Txt K mg) (S : Src K mg "_law_beside" sLBes ["_law_one", "_law_other"]) (DM : Def P w K mg base 1 "_law_moved" ["_law_ties", "_law_places"] spMoved) : Def P w K mg base 2 "_law_beside" ["_law_one", "_law_other"] spLBes := by
  refine S.def scLBes (fun vs H Q E h => ?_) (fun f cdv A outer s H vs Q E hr h => ?_)
  · obtain ⟨_, _, _, _, _, _, rfl, _⟩ := h; rfl
  · obtain ⟨ov, tv, n1, n2, ps1, ps2, rfl, W1, W2, o2, n9, l1, l2, q⟩ := h
    obtain ⟨c1, d1, xs1, rfl, hc1, hd1, ht1⟩ := id W1.ex
    obtain ⟨c2, d2, xs2, rfl, hc2, hd2, ht2⟩ := id W2.ex
    have x1 : xs1.length = ps1.length := Paired.length ht1
    refine ⟨_, pss_cons (ps_setComp (i := 2) scLBes.nd rfl (Or.inl rfl) (N' := ["_law_point", "_law_one"]) (fr := [none, some 0]) (compOk_of (by rfl)) rfl (pi_range1 rfl T.range (pa_cons (pe_ix ix_tup (pv 1) pe_int (fun _ _ => rfl)) pa_nil)) (fun _ _ _ _ => pg_name (i := 0) ndlpo rfl (Or.inl rfl) (Or.inr rfl)) (fun _ _ _ _ => pifs_nil)
        (fun _ _ _ _ => pe_op op_add (pv 0) (pe_ix (r := rIxT K) ix_tup (pv 1) pe_int (fun _ _ => rfl))))
      (pss_one (ps_ret (pe_tup (pa_cons (pe_op op_add (pe_ix ix_tup (pv 0) pe_int (fun _ _ => rfl)) (pe_ix ix_tup (pv 1) pe_int (fun _ _ => rfl))) (pa_cons (pe_op op_catA (pe_ix ix_tup (pv 0) pe_int (fun _ _ => rfl)) (pe_def DM hr rfl (pa_cons (pe_ix ix_tup (pv 1) pe_int (fun _ _ => rfl)) (pa_cons (pv 2) pa_nil)))) pa_nil))))), ?_⟩
    have i0 : atI ([.int (n1 : Int), .ref d1] : List V) 0 = some (.int (n1 : Int)) := atI_nat (j := 0) rfl
    have i1 : atI ([.int (n1 : Int), .ref d1] : List V) 1 = some (.ref d1) := atI_nat (j := 1) rfl
    have j0 : atI ([.int (n2 : Int), .ref d2] : List V) 0 = some (.int (n2 : Int)) := atI_nat (j := 0) rfl
    have j1 : atI ([.int (n2 : Int), .ref d2] : List V) 1 = some (.ref d2) := atI_nat (j := 1) rfl
    refine ⟨_, rfl, c2, _, _, _, rfl, rfl, SqT.of hc2, j0, (n2 : Int), rfl, by omega, by omega, ?_⟩
    rw [Int.toNat_natCast]
    refine comp_range (lo := 0) (n := n2) (fun σ => ∃ u, σ = [u, some (.ref c1)]) (fun i ys H2 => H2 = H ∧ ys = ((ups (i : Int)).map fun i => (n1 : Int) + i).map V.int) ⟨_, rfl⟩ ⟨rfl, rfl⟩ (line100 (by omega)) ?_ ?_
    · rintro i ys σ H2 N hi ⟨u, rfl⟩ ⟨rfl, rfl⟩ hN
      rw [show (0 : Int) + (i : Int) = (i : Int) by omega]
      dsimp only [gName, List.set]
      refine yesT ⟨_, rfl, _, rfl, c1, _, _, _, rfl, rfl, SqT.of hc1, i0, _, _, rfl, rfl, ?_⟩
      refine hN _ _ _ ⟨_, rfl⟩ ⟨rfl, ?_⟩ (by simp)
      rw [show ((i + 1 : Nat) : Int) = (i : Int) + 1 by omega, ups_snoc (by omega), List.map_append, List.map_append]
      show _ = _ ++ [V.int ((n1 : Int) + (i : Int))]
      rw [Int.add_comm (n1 : Int) (i : Int)]
    · rintro ys H2 ⟨rfl, rfl⟩ p3 hp3
      have s3 := Same.new (o := HO.lst ((besP n1 n2).map V.int)) hp3
      have h3 : (upd H2 p3 (.lst ((besP n1 n2).map V.int))) p3 = some (.lst ((besP n1 n2).map V.int)) := upd_same
      have F := bes_ok (n1 := n1) o2.n1
      have fl := F.len
      unfold besP at s3 h3
      generalize upd H2 p3 (.lst (((ups (n2 : Int)).map fun i => (n1 : Int) + i).map V.int)) = H3 at s3 h3 ⊢
      dsimp only [List.set]
      refine ⟨_, rfl, c1, _, _, _, rfl, rfl, SqT.of (s3 _ _ hc1), i0, _, rfl, c2, _, _, _, rfl, rfl, SqT.of (s3 _ _ hc2), j0, _, _, rfl, rfl, _, rfl, c1, _, _, _, rfl, rfl, SqT.of (s3 _ _ hc1), i1, _, rfl, c2, _, _, _, rfl, rfl, SqT.of (s3 _ _ hc2), j1, _, rfl, d2, p3, (n2 : Int), besP n1 n2, xs2, ps2, rfl, s3 _ _ hd2, ties_same ht2 s3, h3, by omega, o2.hb, l2, fun z ys H4 s4 hz py => ?_⟩
      have yl : ys.length = ps2.length := by rw [Paired.length py, List.length_map]
      refine ⟨d1, z, xs1, ys, rfl, rfl, (s3.trans s4) _ _ hd1, hz, Nat.le_of_lt (line100 (by omega)), fun t H5 s5 ht => ⟨by show 2 ≤ sizeLine; decide, fun e he => ?_⟩⟩
      have s6 := Same.new (o := HO.tup [.int ((n1 : Int) + (n2 : Int)), .ref t]) he
      have s06 := s3.trans (s4.trans (s5.trans s6))
      exact q (.ref e) _ s06 ⟨e, t, _, rfl, by rw [Int.natCast_add]; exact upd_same, s6 _ _ ht, pair_app (ties_same ht1 s06) (ties_same py (s5.trans s6))⟩
end
end My

namespace My
open PySem L2
open PySem.W (subIn kitOne)
def askN (ap : Bool) (n1 n2 : Nat) : Nat := if ap = true then n1 + n2 else n1 + n2 - 1
def askP (ap : Bool) (n1 p q n2 : Nat) (ps1 ps2 : List (Int × Int)) : List (Int × Int) := ps1 ++ ps2.map (renT (if ap = true then besP n1 n2 else layP n1 p q n2))
def spAsked (C : Addr) : Sp := fun vs H Q E => ∃ (ov tv : V) (n1 n2 p q : Nat) (ap : Bool) (ps1 ps2 : List (Int × Int)), vs = [ov, .int p, tv, .int q, .bl ap] ∧ WebAt H ov n1 ps1 ∧ WebAt H tv n2 ps2 ∧ OkV n2 ps2 ∧ n2 ≤ 9 ∧ ps1.length ≤ 8 ∧ ps2.length ≤ 8 ∧ p < n1 ∧ q < n2 ∧ Both C (askN ap n1 n2) (askP ap n1 p q n2 ps1 ps2) H Q E
def spRefd : Sp := fun vs H Q _ => ∃ (ov tv : V) (n1 n2 p q : Nat) (ap : Bool) (ps1 ps2 : List (Int × Int)), vs = [ov, .int p, tv, .int q, .bl ap] ∧ WebAt H ov n1 ps1 ∧ WebAt H tv n2 ps2 ∧ OkV n2 ps2 ∧ n2 ≤ 9 ∧ ps1.length ≤ 8 ∧ ps2.length ≤ 8 ∧ p < n1 ∧ q < n2 ∧ (9 < askN ap n1 n2 ∨ 8 < (askP ap n1 p q n2 ps1 ps2).length) ∧ ∀ H', Same H H' → Q (.bl true) H'
structure ExcT (K : PySem.W.Frag) (mg : Str → Option Value) (CS CW : Addr) (bS bW : List Value) : Prop where
  hs : mg "TooMany" = some (.ref CS)
  hw : mg "WebError" = some (.ref CW)
  xs : excB K CS bS = true
  xw : excB K CW bW = true
  kx : excKB K CS = true
  sb : subIn K (.ref CS) (.ref CW) = some true
theorem kit_self (K : PySem.W.Frag) (C : Addr) : kitOne K (.ref C) (.ref C) = some true := by
  unfold kitOne
  rw [if_pos (by simp)]
section
variable {P : Program} {w : World} {K : PySem.W.Frag} {mg : Str → Option Value} {base : Heap}
theorem scLLaid : FnScope ["_law_one", "_law_p", "_law_other", "_law_q", "_law_places"] ["_law_one", "_law_p", "_law_other", "_law_q"] (defScope sLLaid) := ⟨rfl, rfl, rfl, by decide +kernel, rfl, by decide +kernel, by decide +kernel⟩
theorem d_llaid (T : Txt K mg) (S : Src K mg "_law_laid" sLLaid ["_law_one", "_law_p", "_law_other", "_law_q"]) (DM : Def P w K mg base 1 "_law_moved" ["_law_ties", "_law_places"] spMoved) : Def P w K mg base 2 "_law_laid" ["_law_one", "_law_p", "_law_other", "_law_q"] spLLaid := by
  refine S.def scLLaid (fun vs H Q E h => ?_) (fun f cdv A outer s H vs Q E hr h => ?_)
  · obtain ⟨_, _, _, _, _, _, _, _, rfl, _⟩ := h; rfl
  · obtain ⟨ov, tv, n1, n2, p, q, ps1, ps2, rfl, W1, W2, o2, n9, l1, l2, hp, hq, k⟩ := h
    obtain ⟨c1, d1, xs1, rfl, hc1, hd1, ht1⟩ := id W1.ex
    obtain ⟨c2, d2, xs2, rfl, hc2, hd2, ht2⟩ := id W2.ex
    have x1 : xs1.length = ps1.length := Paired.length ht1
    refine ⟨_, pss_cons (ps_set (i := 4) scLLaid.nd rfl (Or.inl rfl) (pe_op op_cat (pe_comp (N' := ["_law_point", "_law_one"]) (fr := [none, some 0]) (compOk_of (by rfl)) rfl (pi_range1 rfl T.range (pa_cons (pv 3) pa_nil)) (fun _ _ _ _ => pg_name (i := 0) ndlpo rfl (Or.inl rfl) (Or.inr rfl)) (fun _ _ _ _ => pifs_nil)
        (fun _ _ _ _ => pe_op op_add (pe_ix (r := rIxT K) ix_tup (pv 1) pe_int (fun _ _ => rfl)) (pv 0))) (pe_lst (pa_cons (pv 1) pa_nil))))
      (pss_cons (ps_set (i := 4) scLLaid.nd rfl (Or.inl rfl) (pe_op op_cat (pv 4) (pe_comp (N' := ["_law_point", "_law_one"]) (fr := [none, some 0]) (compOk_of (by rfl)) rfl (pi_range2 rfl T.range (pa_cons (pe_op op_add (pv 3) pe_int) (pa_cons (pe_ix ix_tup (pv 2) pe_int (fun _ _ => rfl)) pa_nil))) (fun _ _ _ _ => pg_name (i := 0) ndlpo rfl (Or.inl rfl) (Or.inr rfl)) (fun _ _ _ _ => pifs_nil)
        (fun _ _ _ _ => pe_op op_add (pe_op op_sub (pe_ix (r := rIxT K) ix_tup (pv 1) pe_int (fun _ _ => rfl)) pe_int) (pv 0)))))
      (pss_one (ps_ret (pe_tup (pa_cons (pe_op op_sub (pe_op op_add (pe_ix ix_tup (pv 0) pe_int (fun _ _ => rfl)) (pe_ix ix_tup (pv 2) pe_int (fun _ _ => rfl))) pe_int) (pa_cons (pe_op op_catA (pe_ix ix_tup (pv 0) pe_int (fun _ _ => rfl)) (pe_def DM hr rfl (pa_cons (pe_ix ix_tup (pv 2) pe_int (fun _ _ => rfl)) (pa_cons (pv 4) pa_nil)))) pa_nil)))))), ?_⟩
    have i0 : atI ([.int (n1 : Int), .ref d1] : List V) 0 = some (.int (n1 : Int)) := atI_nat (j := 0) rfl
    have i1 : atI ([.int (n1 : Int), .ref d1] : List V) 1 = some (.ref d1) := atI_nat (j := 1) rfl
    have j0 : atI ([.int (n2 : Int), .ref d2] : List V) 0 = some (.int (n2 : Int)) := atI_nat (j := 0) rfl
    have j1 : atI ([.int (n2 : Int), .ref d2] : List V) 1 = some (.ref d2) := atI_nat (j := 1) rfl
    refine ⟨_, rfl, (q : Int), rfl, by omega, by omega, ?_⟩
    rw [Int.toNat_natCast]
    refine comp_range (lo := 0) (n := q) (fun σ => ∃ u, σ = [u, some (.ref c1)]) (fun i ys H2 => H2 = H ∧ ys = (aheP n1 i).map V.int) ⟨_, rfl⟩ ⟨rfl, rfl⟩ (line100 (by omega)) ?_ ?_
    · rintro i ys σ H2 N hi ⟨u, rfl⟩ ⟨rfl, rfl⟩ hN
      rw [show (0 : Int) + (i : Int) = (i : Int) by omega]
      dsimp only [gName, List.set]
      refine yesT ⟨_, rfl, c1, _, _, _, rfl, rfl, SqT.of hc1, i0, _, rfl, _, _, rfl, rfl, ?_⟩
      refine hN _ _ _ ⟨_, rfl⟩ ⟨rfl, ?_⟩ (by simp)
      unfold aheP
      rw [show ((i + 1 : Nat) : Int) = (i : Int) + 1 by omega, ups_snoc (by omega), List.map_append, List.map_append]
      rfl
    rintro ys H2 ⟨rfl, rfl⟩ p3 hp3
    have s3 := Same.new (o := HO.lst ((aheP n1 q).map V.int)) hp3
    have h3 : (upd H2 p3 (.lst ((aheP n1 q).map V.int))) p3 = some (.lst ((aheP n1 q).map V.int)) := upd_same
    have al : (aheP n1 q).length = q := by unfold aheP; rw [List.length_map, ups_len]; omega
    generalize upd H2 p3 (.lst ((aheP n1 q).map V.int)) = H3 at s3 h3 ⊢
    refine ⟨_, rfl, by show 1 ≤ sizeLine; decide, fun e he => ?_⟩
    have s4 := Same.new (o := HO.lst [.int (p : Int)]) he
    refine ⟨p3, e, _, _, rfl, rfl, s4 _ _ h3, upd_same, Nat.le_of_lt (line100 (by rw [List.length_map, al]; show q + 1 ≤ 100; omega)), fun g hg => ?_⟩
    have s5 := Same.new (o := HO.lst ((aheP n1 q).map V.int ++ [.int (p : Int)])) hg
    have h5 : (upd (upd H3 e (.lst [.int (p : Int)])) g (.lst ((aheP n1 q).map V.int ++ [.int (p : Int)]))) g = some (.lst ((aheP n1 q).map V.int ++ [.int (p : Int)])) := upd_same
    have s05 := s3.trans (s4.trans s5)
    generalize upd (upd H3 e (.lst [.int (p : Int)])) g (.lst ((aheP n1 q).map V.int ++ [.int (p : Int)])) = H5 at s05 h5 ⊢
    clear s4 s5 s3 h3 hp3
    dsimp only [List.set]
    have hc15 := s05 _ _ hc1
    have hc25 := s05 _ _ hc2
    refine ⟨_, rfl, _, rfl, _, _, rfl, rfl, _, rfl, c2, _, _, _, rfl, rfl, SqT.of hc25, j0, (q : Int) + 1, (n2 : Int), rfl, ⟨by omega, by omega, by omega, by omega⟩, ?_⟩
    rw [show ((n2 : Int) - ((q : Int) + 1)).toNat = n2 - (q + 1) by omega]
    refine comp_range (lo := (q : Int) + 1) (n := n2 - (q + 1)) (fun σ => ∃ u, σ = [u, some (.ref c1)]) (fun i ys H4 => H4 = H5 ∧ ys = (behP n1 q i).map V.int) ⟨_, rfl⟩ ⟨rfl, rfl⟩ (line100 (by omega)) ?_ ?_
    · rintro i ys σ H4 N hi ⟨u, rfl⟩ ⟨rfl, rfl⟩ hN
      dsimp only [gName, List.set]
      refine yesT ⟨_, rfl, c1, _, _, _, rfl, rfl, SqT.of hc15, i0, _, _, rfl, rfl, _, rfl, _, _, rfl, rfl, ?_⟩
      refine hN _ _ _ ⟨_, rfl⟩ ⟨rfl, ?_⟩ (by simp)
      unfold behP
      rw [List.range_succ, List.map_append, List.map_append]
      show _ = _ ++ [V.int ((n1 : Int) + ((q : Int) + 1 + (i : Int)) - 1)]
      rw [show (n1 : Int) + ((q : Int) + 1 + (i : Int)) - 1 = (n1 : Int) - 1 + ((q : Int) + 1 + (i : Int)) by omega]
    rintro ys H4 ⟨rfl, rfl⟩ p6 hp6
    have s6 := Same.new (o := HO.lst ((behP n1 q (n2 - (q + 1))).map V.int)) hp6
    have bl : (behP n1 q (n2 - (q + 1))).length = n2 - (q + 1) := by unfold behP; rw [List.length_map, List.length_range]
    refine ⟨g, p6, _, _, rfl, rfl, s6 _ _ h5, upd_same, Nat.le_of_lt (line100 (by rw [List.length_append, List.length_map, List.length_map, al, bl]; show q + 1 + (n2 - (q + 1)) ≤ 100; omega)), fun k8 hk8 => ?_⟩
    have e8 : ((aheP n1 q).map V.int ++ [V.int (p : Int)]) ++ (behP n1 q (n2 - (q + 1))).map V.int = (layP n1 p q n2).map V.int := by
      unfold layP
      rw [List.map_append, List.map_append]
      rfl
    rw [e8] at *
    have s8 := Same.new (o := HO.lst ((layP n1 p q n2).map V.int)) hk8
    have h8 : (upd (upd H4 p6 (.lst ((behP n1 q (n2 - (q + 1))).map V.int))) k8 (.lst ((layP n1 p q n2).map V.int))) k8 = some (.lst ((layP n1 p q n2).map V.int)) := upd_same
    have s08 := s05.trans (s6.trans s8)
    have F := lay_ok hp hq
    have fl := F.len
    generalize upd (upd H4 p6 (.lst ((behP n1 q (n2 - (q + 1))).map V.int))) k8 (.lst ((layP n1 p q n2).map V.int)) = H8 at s08 h8 ⊢
    dsimp only [List.set]
    have hc18 := s08 _ _ hc1
    have hc28 := s08 _ _ hc2
    refine ⟨_, rfl, c1, _, _, _, rfl, rfl, SqT.of hc18, i0, _, rfl, c2, _, _, _, rfl, rfl, SqT.of hc28, j0, _, _, rfl, rfl, _, _, rfl, rfl, _, rfl, c1, _, _, _, rfl, rfl, SqT.of hc18, i1, _, rfl, c2, _, _, _, rfl, rfl, SqT.of hc28, j1, _, rfl, d2, k8, (n2 : Int), layP n1 p q n2, xs2, ps2, rfl, s08 _ _ hd2, ties_same ht2 s08, h8, by omega, o2.hb, l2, fun z ys H9 s9 hz py => ?_⟩
    have yl : ys.length = ps2.length := by rw [Paired.length py, List.length_map]
    refine ⟨d1, z, xs1, ys, rfl, rfl, (s08.trans s9) _ _ hd1, hz, Nat.le_of_lt (line100 (by omega)), fun t Ha sa ht => ⟨by show 2 ≤ sizeLine; decide, fun e he => ?_⟩⟩
    have sb := Same.new (o := HO.tup [.int ((n1 : Int) + (n2 : Int) - 1), .ref t]) he
    have s0b := s08.trans (s9.trans (sa.trans sb))
    exact k (.ref e) _ s0b ⟨e, t, _, rfl, by rw [show ((n1 + n2 - 1 : Nat) : Int) = (n1 : Int) + (n2 : Int) - 1 by omega]; exact upd_same, sb _ _ ht, pair_app (ties_same ht1 s0b) (ties_same py (sa.trans sb))⟩
theorem scAsked : FnScope ["_law_one", "_law_p", "_law_other", "_law_q", "_law_apart"] ["_law_one", "_law_p", "_law_other", "_law_q", "_law_apart"] (defScope sAsked) := ⟨rfl, rfl, rfl, by decide +kernel, rfl, by decide +kernel, by decide +kernel⟩
theorem d_asked {C : Addr} (S : Src K mg "_law_asked" sAsked ["_law_one", "_law_p", "_law_other", "_law_q", "_law_apart"]) (DB : DefX P w K mg base 4 "laid_beside" ["one", "other"] (spBes C)) (DL : DefX P w K mg base 4 "laid_at" ["one", "p", "other", "q"] (spLat C)) : DefX P w K mg base 5 "_law_asked" ["_law_one", "_law_p", "_law_other", "_law_q", "_law_apart"] (spAsked C) := by
  refine Src.defX S scAsked (fun vs H Q E h => ?_) (fun f cdv A outer s H vs Q E hr h => ?_)
  · obtain ⟨_, _, _, _, _, _, _, _, _, rfl, _⟩ := h; rfl
  · obtain ⟨ov, tv, n1, n2, p, q, ap, ps1, ps2, rfl, W1, W2, o2, n9, l1, l2, hp, hq, B⟩ := h
    refine ⟨_, pss_cons (ps_if (pt_val (pv 4)) (pss_one (ps_ret (pe_defP DB hr rfl (pa_cons (pv 0) (pa_cons (pv 2) pa_nil))))) pss_nil)
      (pss_one (ps_ret (pe_defP DL hr rfl (pa_cons (pv 0) (pa_cons (pv 1) (pa_cons (pv 2) (pa_cons (pv 3) pa_nil))))))), ?_⟩
    refine ⟨_, rfl, _, rfl, ?_⟩
    cases ap with
    | true => exact iteT ⟨_, rfl, _, rfl, ov, tv, n1, n2, ps1, ps2, rfl, W1, W2, o2, n9, l1, l2, B⟩
    | false => exact iteF ⟨_, rfl, _, rfl, _, rfl, _, rfl, ov, tv, n1, n2, p, q, ps1, ps2, rfl, W1, W2, o2, n9, l1, l2, hp, hq, B⟩
theorem scRefused : FnScope ["_law_one", "_law_p", "_law_other", "_law_q", "_law_apart", "e"] ["_law_one", "_law_p", "_law_other", "_law_q", "_law_apart"] (defScope sRefused) := ⟨rfl, rfl, rfl, by decide +kernel, rfl, by decide +kernel, by decide +kernel⟩
theorem d_refused {CS CW : Addr} {bS bW : List Value} (T : Txt K mg) (X : ExcT K mg CS CW bS bW) (S : Src K mg "_law_refused" sRefused ["_law_one", "_law_p", "_law_other", "_law_q", "_law_apart"]) (DK : DefX P w K mg base 5 "_law_asked" ["_law_one", "_law_p", "_law_other", "_law_q", "_law_apart"] (spAsked CS)) :
    Def P w K mg base 6 "_law_refused" ["_law_one", "_law_p", "_law_other", "_law_q", "_law_apart"] spRefd := by
  refine S.def scRefused (fun vs H Q E h => ?_) (fun f cdv A outer s H vs Q E hr h => ?_)
  · obtain ⟨_, _, _, _, _, _, _, _, _, rfl, _⟩ := h; rfl
  · obtain ⟨ov, tv, n1, n2, p, q, ap, ps1, ps2, rfl, W1, W2, o2, n9, l1, l2, hp, hq, z, k⟩ := h
    refine ⟨_, pss_cons (ps_try (i := 5) DK hr rfl rfl X.hw X.xw scRefused.nd rfl rfl (pa_cons (pv 0) (pa_cons (pv 1) (pa_cons (pv 2) (pa_cons (pv 3) (pa_cons (pv 4) pa_nil))))) (fun v =>
        pss_one (ps_ret (pe_callB (r := rIsX K) call_isX (by rfl) T.isi boot_isi (pa_cons (pv 5) (pa_cons (pe_glob (v := .ref CS) rfl X.hs rfl) pa_nil)))))
        rfl rfl (fun _ _ z => z))
      (pss_one (ps_ret pe_bl)), ?_⟩
    refine ⟨_, rfl, _, rfl, _, rfl, _, rfl, _, rfl, ov, tv, n1, n2, p, q, ap, ps1, ps2, rfl, W1, W2, o2, n9, l1, l2, hp, hq, ⟨fun a b => ?_, fun _ H2 s2 => ⟨CS, rfl, X.sb, fun ea hea => ?_⟩⟩⟩
    · omega
    · have Z := L2.excK_of X.kx
      exact ⟨_, rfl, ea, CS, _, _, true, rfl, rfl, upd_same, Z, kit_self K CS, k _ (s2.trans (Same.new hea))⟩
end
end My

namespace My
open PySem L2
def spLaw (K : PySem.W.Frag) : Sp := fun vs H Q _ => ∃ (a : Addr) (ns : List Int), vs = [.ref a] ∧ SqL K H a (ns.map V.int) ∧ ns.length ≤ 63 ∧ ∀ H', Q (.bl true) H'
theorem ask_ok {ap : Bool} {n1 n2 p q : Nat} {ps1 ps2 : List (Int × Int)} (hp : p < n1) (hq : q < n2) (o1 : OkV n1 ps1) (o2 : OkV n2 ps2) : OkV (askN ap n1 n2) (askP ap n1 p q n2 ps1 ps2) := by
  unfold askN askP
  cases ap with
  | true => exact laid_ok (bes_ok o2.n1) o1 o2
  | false => exact laid_ok (lay_ok hp hq) o1 o2
section
variable {P : Program} {w : World} {K : PySem.W.Frag} {mg : Str → Option Value} {base : Heap}
theorem scLaw : FnScope ["_law_script", "_law_web", "_law_cell", "_law_small_here", "_law_one", "_law_other", "_law_apart", "_law_p", "_law_q", "_law_due"] ["_law_script"] (defScope sLaw) := ⟨rfl, rfl, rfl, by decide +kernel, rfl, by decide +kernel, by decide +kernel⟩
theorem ok_law {C : Addr} {f : Addr} {fd : FuncData} (F : Fun K "law" "law" sLaw f fd) (T : Txt K mg) (DS : Def P w K mg base 1 "_law_small" ["_law_load"] spSmall) (DB : Def P w K mg base 2 "_law_beside" ["_law_one", "_law_other"] spLBes) (DL : Def P w K mg base 2 "_law_laid" ["_law_one", "_law_p", "_law_other", "_law_q"] spLLaid) (DR : Def P w K mg base 6 "_law_refused" ["_law_one", "_law_p", "_law_other", "_law_q", "_law_apart"] spRefd) (DA : DefX P w K mg base 5 "_law_asked" ["_law_one", "_law_p", "_law_other", "_law_q", "_law_apart"] (spAsked C)) (DI : Def P w K mg base 1 "_law_is_web" ["_law_found", "_law_due"] spIsWeb) (DT : DefX P w K mg base 4 "laid_at" ["one", "p", "other", "q"] (spLat C)) : FnOk P w K mg base CX0 7 f fd ["_law_script"] (spLaw K) := by
  refine F.ok scLaw (fun vs H Q E h => ?_) (fun cdv A outer s H vs Q E hr h => ?_)
  · obtain ⟨a, ns, rfl, _⟩ := h; rfl
  · obtain ⟨a, ns, rfl, hq, hlen, q⟩ := h
    have hr1 : Room 1 _ := hr.mono (by decide)
    have hr2 : Room 2 _ := hr.mono (by decide)
    have hr4 : Room 4 _ := hr.mono (by decide)
    have hr5 : Room 5 _ := hr.mono (by decide)
    refine ⟨_, pss_cons (ps_set (i := 1) scLaw.nd rfl (Or.inl rfl) (pe_tup (pa_cons pe_int (pa_cons (pe_tup pa_nil) pa_nil))))
      (pss_cons (ps_for PassesOwn.never rfl (pi_seq .l (pe_slice sl_list (pv 0) po_none (po_some pe_int))) (pg_name (i := 2) scLaw.nd rfl (Or.inl rfl))
        (pss_cons (ps_set (i := 3) scLaw.nd rfl (Or.inl rfl) (pe_def DS hr1 rfl (pa_cons (pe_op op_fdiv (pv 2) pe_int) pa_nil)))
        (pss_cons (ps_par (i := 4) (j := 5) rfl scLaw.nd rfl rfl (by decide) rfl rfl (pa_cons (pv 1) (pa_cons (pv 3) pa_nil)) rfl)
        (pss_cons (ps_if (pt_cmpR op_eq (pe_op op_mod (pv 2) pe_int) pe_int (nomark _)) (pss_one (ps_par (i := 4) (j := 5) rfl scLaw.nd rfl rfl (by decide) rfl rfl (pa_cons (pv 3) (pa_cons (pv 1) pa_nil)) rfl)) pss_nil)
        (pss_cons (ps_set (i := 6) scLaw.nd rfl (Or.inl rfl) (pe_cmpR op_eq (pe_op op_mod (pe_op op_fdiv (pv 2) pe_int) pe_int) pe_int (nomark _)))
        (pss_cons (ps_set (i := 7) scLaw.nd rfl (Or.inl rfl) (pe_op op_mod (pe_op op_fdiv (pv 2) pe_int) (pe_ix ix_tup (pv 4) pe_int (fun _ _ => rfl))))
        (pss_cons (ps_set (i := 8) scLaw.nd rfl (Or.inl rfl) (pe_op op_mod (pe_op op_fdiv (pv 2) pe_int) (pe_ix ix_tup (pv 5) pe_int (fun _ _ => rfl))))
        (pss_cons (ps_if (pt_val (pv 6)) (pss_one (ps_set (i := 9) scLaw.nd rfl (Or.inl rfl) (pe_def DB hr2 rfl (pa_cons (pv 4) (pa_cons (pv 5) pa_nil))))) (pss_one (ps_set (i := 9) scLaw.nd rfl (Or.inl rfl) (pe_def DL hr2 rfl (pa_cons (pv 4) (pa_cons (pv 7) (pa_cons (pv 5) (pa_cons (pv 8) pa_nil))))))))
        (pss_one (ps_if (PW.pt (pw_or (pt_cmpR op_gt (pe_ix ix_tup (pv 9) pe_int (fun _ _ => rfl)) pe_int (nomark _)) (pw_or1 (pt_cmpR op_gt (pe_callB call_len_seq (by rfl) T.len PySem.boot_len (pa_cons (pe_ix ix_tup (pv 9) pe_int (fun _ _ => rfl)) pa_nil)) pe_int (nomark _)))))
          (pss_cons (ps_if (pt_not (pt_val (pe_def DR hr rfl (pa_cons (pv 4) (pa_cons (pv 7) (pa_cons (pv 5) (pa_cons (pv 8) (pa_cons (pv 6) pa_nil)))))))) (pss_one (ps_ret pe_bl)) pss_nil) (pss_one (ps_set (i := 1) scLaw.nd rfl (Or.inl rfl) (pv 3))))
          (pss_cons (ps_if (pt_not (pt_val (pe_def DI hr1 rfl (pa_cons (pe_defX DA hr5 rfl (pa_cons (pv 4) (pa_cons (pv 7) (pa_cons (pv 5) (pa_cons (pv 8) (pa_cons (pv 6) pa_nil)))))) (pa_cons (pv 9) pa_nil))))) (pss_one (ps_ret pe_bl)) pss_nil) (pss_one (ps_set (i := 1) scLaw.nd rfl (Or.inl rfl) (pv 9))))))))))))))
      (pss_one (ps_ret (pe_def DI hr1 rfl (pa_cons (pe_defX DT hr4 rfl (pa_cons (pv 1) (pa_cons pe_int (pa_cons (pe_tup (pa_cons pe_int (pa_cons (pe_tup pa_nil) pa_nil))) (pa_cons pe_int pa_nil))))) (pa_cons (pv 1) pa_nil)))))), ?_⟩
    refine ⟨by show 0 ≤ sizeLine; decide, fun e1 he1 => ⟨by show 2 ≤ sizeLine; decide, fun c1 hc1 => ?_⟩⟩
    have t1 := Same.new (o := HO.tup []) he1
    have t2 := Same.new (o := HO.tup [.int 1, .ref e1]) hc1
    have W0 : WebAt (upd (upd H e1 (.tup [])) c1 (.tup [.int 1, .ref e1])) (.ref c1) ((1 : Nat) : Int) [] := ⟨c1, e1, [], rfl, upd_same, t2 _ _ upd_same, .nil⟩
    have s1 := t1.trans t2
    generalize upd (upd H e1 (.tup [])) c1 (.tup [.int 1, .ref e1]) = H1 at W0 s1 ⊢
    clear t1 t2
    dsimp only [List.set]
    obtain ⟨ms, em, ml⟩ := cut_map ns none (some 60)
    refine ⟨_, rfl, _, rfl, a, _, rfl, s1.seq hq, fun p1 hp1 => ⟨p1, rfl, ⟨_, SqL.of upd_same⟩, ?_⟩⟩
    rw [em]
    have s2 := s1.trans (Same.new (o := HO.lst (ms.map V.int)) hp1)
    have h2 : (upd H1 p1 (.lst (ms.map V.int))) p1 = some (.lst (ms.map V.int)) := upd_same
    have W2 := W0.same (Same.new (o := HO.lst (ms.map V.int)) hp1)
    generalize upd H1 p1 (.lst (ms.map V.int)) = H2 at s2 h2 W2 ⊢
    refine for_seq (k := .l) (K := K) (a := p1) (xs := ms.map V.int) (fun i σ H' => Same H2 H' ∧ ∃ (wv : V) (n : Nat) (ps : List (Int × Int)) (u2 u3 u4 u5 u6 u7 u8 u9 : Option V), σ = [some (.ref a), some wv, u2, u3, u4, u5, u6, u7, u8, u9] ∧ WebAt H' wv n ps ∧ OkV n ps ∧ n ≤ 9 ∧ ps.length ≤ 8)
      ⟨Same.refl _, .ref c1, 1, [], _, _, _, _, _, _, _, _, rfl, W2, ⟨Nat.le_refl _, fun _ z => nomatch z⟩, by decide, by decide⟩ (fun i σ H' _ z => SqL.of (z.1 _ _ h2)) ?_ ?_
    · rintro i x σ H3 hx ⟨s3, wv, n, ps, u2, u3, u4, u5, u6, u7, u8, u9, rfl, W3, o3, n9, l8⟩
      obtain ⟨cell, ec, rfl⟩ := get_int' hx
      dsimp only [gName, List.set]
      refine ⟨_, rfl, _, _, rfl, rfl, ⟨by decide, by decide⟩, _, rfl, fun sv m qs H4 s4 S4 oS m3 l3 => ?_⟩
      have W4 := W3.same s4
      have s24 := s3.trans s4
      dsimp only [List.set]
      refine ⟨_, rfl, _, rfl, _, _, rfl, ?_⟩
      dsimp only [List.set]
      refine ⟨_, rfl, _, _, rfl, rfl, (by show (0 : Int) < 2; decide), rfl, _, rfl, ?_⟩
      refine ite_st (fun σ H5 => H4 = H5 ∧ ∃ (ov tv : V) (n1 n2 : Nat) (ps1 ps2 : List (Int × Int)), WebAt H4 ov n1 ps1 ∧ WebAt H4 tv n2 ps2 ∧ OkV n1 ps1 ∧ OkV n2 ps2 ∧ n1 ≤ 9 ∧ n2 ≤ 9 ∧ ps1.length ≤ 8 ∧ ps2.length ≤ 8 ∧ σ = [some (.ref a), some wv, some (.int cell), some sv, some ov, some tv, u6, u7, u8, u9]) ?_ ⟨rfl, wv, sv, n, m, ps, qs, W4, S4, o3, oS, n9, by omega, l8, by omega, rfl⟩ (fun key => ⟨_, rfl, _, rfl, _, _, rfl, key _ _ ⟨rfl, sv, wv, m, n, qs, ps, S4, W4, oS, o3, by omega, n9, by omega, l8, rfl⟩⟩)
      rintro σ _ ⟨rfl, ov, tv, n1, n2, ps1, ps2, O, Tt, o1, o2, k1, k2, l1, l2, rfl⟩
      obtain ⟨c1', d1, xs1, rfl, hc1', hd1, ht1⟩ := id O.ex
      obtain ⟨c2, d2, xs2, rfl, hc2, hd2, ht2⟩ := id Tt.ex
      have i0 : atI ([.int (n1 : Int), .ref d1] : List V) 0 = some (.int (n1 : Int)) := atI_nat (j := 0) rfl
      have j0 : atI ([.int (n2 : Int), .ref d2] : List V) 0 = some (.int (n2 : Int)) := atI_nat (j := 0) rfl
      have n1p := o1.n1
      have n2p := o2.n1
      refine ⟨_, rfl, _, _, rfl, rfl, ⟨by decide, by decide⟩, _, _, rfl, rfl, (by show (0 : Int) < 3; decide), rfl, ?_⟩
      generalize decide (V.int (cell / 2 % 3) = V.int 1) = ap
      dsimp only [List.set]
      refine ⟨_, rfl, _, _, rfl, rfl, ⟨by decide, by decide⟩, _, rfl, c1', _, _, _, rfl, rfl, SqT.of hc1', i0, _, _, rfl, rfl, (by show (0 : Int) < (n1 : Int); omega), ?_⟩
      have mp := mod_in (cell / 6) (n1 : Int) (by omega)
      obtain ⟨p, ep, hp⟩ : ∃ p : Nat, cell / 6 % (n1 : Int) = (p : Int) ∧ p < n1 := ⟨(cell / 6 % (n1 : Int)).toNat, by omega, by omega⟩
      dsimp only [List.set]
      rw [ep]
      refine ⟨_, rfl, _, _, rfl, rfl, ⟨by decide, by decide⟩, _, rfl, c2, _, _, _, rfl, rfl, SqT.of hc2, j0, _, _, rfl, rfl, (by show (0 : Int) < (n2 : Int); omega), ?_⟩
      have mq := mod_in (cell / 54) (n2 : Int) (by omega)
      obtain ⟨r, er, hrr⟩ : ∃ r : Nat, cell / 54 % (n2 : Int) = (r : Int) ∧ r < n2 := ⟨(cell / 54 % (n2 : Int)).toNat, by omega, by omega⟩
      dsimp only [List.set]
      rw [er]
      refine ⟨_, rfl, _, rfl, ?_⟩
      have ok := ask_ok (ap := ap) hp hrr o1 o2
      refine ite2 (fun hb => ?_) (fun hb => ?_)
      case' refine_1 =>
        refine ⟨_, rfl, _, rfl, .ref c1', .ref c2, n1, n2, ps1, ps2, rfl, O, Tt, o2, k2, l1, l2, fun dv H9 s9 W9 => ?_⟩
        replace W9 : WebAt H9 dv ((askN ap n1 n2 : Nat) : Int) (askP ap n1 p r n2 ps1 ps2) := by
          unfold askN askP
          rw [if_pos hb, if_pos hb]
          exact W9
      case' refine_2 =>
        refine ⟨_, rfl, _, rfl, _, rfl, _, rfl, .ref c1', .ref c2, n1, n2, p, r, ps1, ps2, rfl, O, Tt, o2, k2, l1, l2, hp, hrr, fun dv H9 s9 W9 => ?_⟩
        replace W9 : WebAt H9 dv ((askN ap n1 n2 : Nat) : Int) (askP ap n1 p r n2 ps1 ps2) := by
          unfold askN askP
          rw [if_neg hb, if_neg hb]
          exact W9
      all_goals (
        obtain ⟨c9, d9, xs9, rfl, hc9, hd9, ht9⟩ := id W9.ex
        have xl : xs9.length = (askP ap n1 p r n2 ps1 ps2).length := Paired.length ht9
        have a0 : atI ([.int ((askN ap n1 n2 : Nat) : Int), .ref d9] : List V) 0 = some (.int ((askN ap n1 n2 : Nat) : Int)) := atI_nat (j := 0) rfl
        have a1 : atI ([.int ((askN ap n1 n2 : Nat) : Int), .ref d9] : List V) 1 = some (.ref d9) := atI_nat (j := 1) rfl
        have O9 := O.same s9
        have T9 := Tt.same s9
        have s29 := s24.trans s9
        dsimp only [List.set]
        refine ⟨_, rfl, c9, _, _, _, rfl, rfl, SqT.of hc9, a0, _, _, rfl, rfl, _, rfl, ?_⟩
        by_cases h9 : 9 < askN ap n1 n2
        · rw [decide_eq_true (show (9 : Int) < ((askN ap n1 n2 : Nat) : Int) by omega)]
          refine iteT ⟨_, rfl, _, rfl, _, rfl, _, rfl, _, rfl, .ref c1', .ref c2, n1, n2, p, r, ap, ps1, ps2, rfl, O9, T9, o2, k2, l1, l2, hp, hrr, .inl h9, fun Ha sa => ⟨_, rfl, iteF ⟨_, rfl, s29.trans sa, sv, m, qs, _, _, _, _, _, _, _, _, rfl, S4.same (s9.trans sa), oS, by omega, by omega⟩⟩⟩
        · rw [decide_eq_false (show ¬ (9 : Int) < ((askN ap n1 n2 : Nat) : Int) by omega)]
          refine iteF ⟨_, rfl, c9, _, _, _, rfl, rfl, SqT.of hc9, a1, d9, _, rfl, .inr (SqT.of hd9), _, _, rfl, rfl, _, rfl, ?_⟩
          rw [xl]
          by_cases h8 : 8 < (askP ap n1 p r n2 ps1 ps2).length
          · rw [decide_eq_true (show (8 : Int) < ((askP ap n1 p r n2 ps1 ps2).length : Int) by omega)]
            refine iteT ⟨_, rfl, _, rfl, _, rfl, _, rfl, _, rfl, .ref c1', .ref c2, n1, n2, p, r, ap, ps1, ps2, rfl, O9, T9, o2, k2, l1, l2, hp, hrr, .inr h8, fun Ha sa => ⟨_, rfl, iteF ⟨_, rfl, s29.trans sa, sv, m, qs, _, _, _, _, _, _, _, _, rfl, S4.same (s9.trans sa), oS, by omega, by omega⟩⟩⟩
          · rw [decide_eq_false (show ¬ (8 : Int) < ((askP ap n1 p r n2 ps1 ps2).length : Int) by omega)]
            refine iteF ⟨_, rfl, _, rfl, _, rfl, _, rfl, _, rfl, .ref c1', .ref c2, n1, n2, p, r, ap, ps1, ps2, rfl, O9, T9, o2, k2, l1, l2, hp, hrr, ⟨fun _ _ fv Ha sa Fa => ?_, fun z => absurd z (by omega)⟩⟩
            refine ⟨_, rfl, fv, .ref c9, ((askN ap n1 n2 : Nat) : Int), askP ap n1 p r n2 ps1 ps2, rfl, Fa, W9.same sa, by omega, fun Hb sb => ⟨_, rfl, iteF ⟨_, rfl, s29.trans (sa.trans sb), .ref c9, askN ap n1 n2, askP ap n1 p r n2 ps1 ps2, _, _, _, _, _, _, _, _, rfl, W9.same (sa.trans sb), ok, by omega, by omega⟩⟩⟩)
    · rintro σ H3 ⟨s3, wv, n, ps, u2, u3, u4, u5, u6, u7, u8, u9, rfl, W3, o3, n9, l8⟩
      refine ⟨_, rfl, by show 0 ≤ sizeLine; decide, fun e2 he2 => ⟨by show 2 ≤ sizeLine; decide, fun c2 hc2 => ?_⟩⟩
      have t1 := Same.new (o := HO.tup []) he2
      have t2 := Same.new (o := HO.tup [.int 1, .ref e2]) hc2
      have Wt : WebAt (upd (upd H3 e2 (.tup [])) c2 (.tup [.int 1, .ref e2])) (.ref c2) ((1 : Nat) : Int) [] := ⟨c2, e2, [], rfl, upd_same, t2 _ _ upd_same, .nil⟩
      have st := t1.trans t2
      have on := o3.n1
      refine ⟨wv, .ref c2, n, 1, 0, 0, ps, [], rfl, W3.same st, Wt, ⟨Nat.le_refl _, fun _ z => nomatch z⟩, by decide, l8, by decide, by omega, by decide, ⟨fun _ _ fv Ha sa Fa => ?_, fun z => ?_⟩⟩
      · rw [List.map_nil, List.append_nil, Nat.add_sub_cancel] at Fa
        exact ⟨_, rfl, fv, wv, (n : Int), ps, rfl, Fa, W3.same (st.trans sa), l8, fun H' _ => q H'⟩
      · rw [List.map_nil, List.append_nil] at z
        omega
end
end My

namespace My
open PySem L2
def mroT (K : PySem.W.Frag) (C : Addr) : List Value := match K.lookup C with | some o => (match o.data with | .cls cd => cd.mro.tail | _ => []) | none => []
def chk82 (K : PySem.W.Frag) (CS CW : Addr) : Bool := excB K CS (mroT K CS) && (excB K CW (mroT K CW) && (excKB K CS && (PySem.W.subIn K (.ref CS) (.ref CW) == some true)))
theorem chk82_of {K : PySem.W.Frag} {CS CW : Addr} (h : chk82 K CS CW = true) : excB K CS (mroT K CS) = true ∧ excB K CW (mroT K CW) = true ∧ excKB K CS = true ∧ PySem.W.subIn K (.ref CS) (.ref CW) = some true := by
  unfold chk82 at h
  simp only [Bool.and_eq_true, beq_iff_eq] at h
  exact h
theorem src_mk {K : PySem.W.Frag} {h : Heap} {mg : Str → Option Value} {x : Str} {st : Stmt} {f : Addr} {ps : List Str} {oc : Value} {od an : Option Addr} {osl : Array (Option Value)} {kV doc pm cdv ct : Value} (X : K.In h) (G : h.Ns mainGlobals mg)
    (a : PySem.W.nsIn K mainGlobals x = some (some (.ref f))) (l : K.lookup f = some ⟨oc, od, .func (PySem.W.fnOf x x (defArgs st) (defBody st) (defScope st) .none kV doc pm an cdv ct), osl⟩) (c : PySem.W.codeIn K cdv x = true) (k : PySem.W.keepIn K (.ref f) = true)
    (hb : ∀ (kV doc pm : Value) (an : Option Addr) (cdv ct : Value) (us : List Value), us.length = ps.length → bindArgs (PySem.W.fnOf x x (defArgs st) (defBody st) (defScope st) .none kV doc pm an cdv ct) ⟨us, []⟩ = pure (ps.zip us)) : Src K mg x st ps :=
  ⟨_, _, fun_mk (st := st) l c k, (fun_mk (st := st) l c k).binds hb, PySem.W.mg_of X G a⟩
theorem len1 {p : List Value → Prop} (h : ∀ a, p [a]) : ∀ us : List Value, us.length = 1 → p us
  | [a], _ => h a
theorem len2 {p : List Value → Prop} (h : ∀ a b, p [a, b]) : ∀ us : List Value, us.length = 2 → p us
  | [a, b], _ => h a b
theorem len3 {p : List Value → Prop} (h : ∀ a b c, p [a, b, c]) : ∀ us : List Value, us.length = 3 → p us
  | [a, b, c], _ => h a b c
theorem len4 {p : List Value → Prop} (h : ∀ a b c d, p [a, b, c, d]) : ∀ us : List Value, us.length = 4 → p us
  | [a, b, c, d], _ => h a b c d
theorem len5 {p : List Value → Prop} (h : ∀ a b c d e, p [a, b, c, d, e]) : ∀ us : List Value, us.length = 5 → p us
  | [a, b, c, d, e], _ => h a b c d e
theorem all_mk {l : PySem.W.OpenLaw} {w : World} {K : PySem.W.Frag} {h : Heap} {mg : Str → Option Value} {fa : Addr} (X : K.In h) (G : h.Ns mainGlobals mg) (hfa : mg "law" = some (.ref fa))
    {f0 : Addr} {od0 an0 : Option Addr} {sl0 : Array (Option Value)} {oc0 kV0 dc0 pm0 cd0 ct0 : Value}
    (a0 : PySem.W.nsIn K mainGlobals "is_whole" = some (some (.ref f0))) (l0 : K.lookup f0 = some ⟨oc0, od0, .func (PySem.W.fnOf "is_whole" "is_whole" (defArgs sIsWhole) (defBody sIsWhole) (defScope sIsWhole) .none kV0 dc0 pm0 an0 cd0 ct0), sl0⟩) (c0 : PySem.W.codeIn K cd0 "is_whole" = true) (k0 : PySem.W.keepIn K (.ref f0) = true)
    {f1 : Addr} {od1 an1 : Option Addr} {sl1 : Array (Option Value)} {oc1 kV1 dc1 pm1 cd1 ct1 : Value}
    (a1 : PySem.W.nsIn K mainGlobals "is_whole_within" = some (some (.ref f1))) (l1 : K.lookup f1 = some ⟨oc1, od1, .func (PySem.W.fnOf "is_whole_within" "is_whole_within" (defArgs sWithin) (defBody sWithin) (defScope sWithin) .none kV1 dc1 pm1 an1 cd1 ct1), sl1⟩) (c1 : PySem.W.codeIn K cd1 "is_whole_within" = true) (k1 : PySem.W.keepIn K (.ref f1) = true)
    {f2 : Addr} {od2 an2 : Option Addr} {sl2 : Array (Option Value)} {oc2 kV2 dc2 pm2 cd2 ct2 : Value}
    (a2 : PySem.W.nsIn K mainGlobals "lesser_first" = some (some (.ref f2))) (l2 : K.lookup f2 = some ⟨oc2, od2, .func (PySem.W.fnOf "lesser_first" "lesser_first" (defArgs sLesser) (defBody sLesser) (defScope sLesser) .none kV2 dc2 pm2 an2 cd2 ct2), sl2⟩) (c2 : PySem.W.codeIn K cd2 "lesser_first" = true) (k2 : PySem.W.keepIn K (.ref f2) = true)
    {f3 : Addr} {od3 an3 : Option Addr} {sl3 : Array (Option Value)} {oc3 kV3 dc3 pm3 cd3 ct3 : Value}
    (a3 : PySem.W.nsIn K mainGlobals "refuse_no_point_of" = some (some (.ref f3))) (l3 : K.lookup f3 = some ⟨oc3, od3, .func (PySem.W.fnOf "refuse_no_point_of" "refuse_no_point_of" (defArgs sNoPt) (defBody sNoPt) (defScope sNoPt) .none kV3 dc3 pm3 an3 cd3 ct3), sl3⟩) (c3 : PySem.W.codeIn K cd3 "refuse_no_point_of" = true) (k3 : PySem.W.keepIn K (.ref f3) = true)
    {f4 : Addr} {od4 an4 : Option Addr} {sl4 : Array (Option Value)} {oc4 kV4 dc4 pm4 cd4 ct4 : Value}
    (a4 : PySem.W.nsIn K mainGlobals "ties_at" = some (some (.ref f4))) (l4 : K.lookup f4 = some ⟨oc4, od4, .func (PySem.W.fnOf "ties_at" "ties_at" (defArgs sTiesAt) (defBody sTiesAt) (defScope sTiesAt) .none kV4 dc4 pm4 an4 cd4 ct4), sl4⟩) (c4 : PySem.W.codeIn K cd4 "ties_at" = true) (k4 : PySem.W.keepIn K (.ref f4) = true)
    {f5 : Addr} {od5 an5 : Option Addr} {sl5 : Array (Option Value)} {oc5 kV5 dc5 pm5 cd5 ct5 : Value}
    (a5 : PySem.W.nsIn K mainGlobals "laid_beside" = some (some (.ref f5))) (l5 : K.lookup f5 = some ⟨oc5, od5, .func (PySem.W.fnOf "laid_beside" "laid_beside" (defArgs sBeside) (defBody sBeside) (defScope sBeside) .none kV5 dc5 pm5 an5 cd5 ct5), sl5⟩) (c5 : PySem.W.codeIn K cd5 "laid_beside" = true) (k5 : PySem.W.keepIn K (.ref f5) = true)
    {f6 : Addr} {od6 an6 : Option Addr} {sl6 : Array (Option Value)} {oc6 kV6 dc6 pm6 cd6 ct6 : Value}
    (a6 : PySem.W.nsIn K mainGlobals "laid_at" = some (some (.ref f6))) (l6 : K.lookup f6 = some ⟨oc6, od6, .func (PySem.W.fnOf "laid_at" "laid_at" (defArgs sLaidAt) (defBody sLaidAt) (defScope sLaidAt) .none kV6 dc6 pm6 an6 cd6 ct6), sl6⟩) (c6 : PySem.W.codeIn K cd6 "laid_at" = true) (k6 : PySem.W.keepIn K (.ref f6) = true)
    {f7 : Addr} {od7 an7 : Option Addr} {sl7 : Array (Option Value)} {oc7 kV7 dc7 pm7 cd7 ct7 : Value}
    (a7 : PySem.W.nsIn K mainGlobals "laid_with" = some (some (.ref f7))) (l7 : K.lookup f7 = some ⟨oc7, od7, .func (PySem.W.fnOf "laid_with" "laid_with" (defArgs sLaidW) (defBody sLaidW) (defScope sLaidW) .none kV7 dc7 pm7 an7 cd7 ct7), sl7⟩) (c7 : PySem.W.codeIn K cd7 "laid_with" = true) (k7 : PySem.W.keepIn K (.ref f7) = true)
    {f8 : Addr} {od8 an8 : Option Addr} {sl8 : Array (Option Value)} {oc8 kV8 dc8 pm8 cd8 ct8 : Value}
    (a8 : PySem.W.nsIn K mainGlobals "_law_small" = some (some (.ref f8))) (l8 : K.lookup f8 = some ⟨oc8, od8, .func (PySem.W.fnOf "_law_small" "_law_small" (defArgs sSmall) (defBody sSmall) (defScope sSmall) .none kV8 dc8 pm8 an8 cd8 ct8), sl8⟩) (c8 : PySem.W.codeIn K cd8 "_law_small" = true) (k8 : PySem.W.keepIn K (.ref f8) = true)
    {f9 : Addr} {od9 an9 : Option Addr} {sl9 : Array (Option Value)} {oc9 kV9 dc9 pm9 cd9 ct9 : Value}
    (a9 : PySem.W.nsIn K mainGlobals "_law_is_web" = some (some (.ref f9))) (l9 : K.lookup f9 = some ⟨oc9, od9, .func (PySem.W.fnOf "_law_is_web" "_law_is_web" (defArgs sIsWeb) (defBody sIsWeb) (defScope sIsWeb) .none kV9 dc9 pm9 an9 cd9 ct9), sl9⟩) (c9 : PySem.W.codeIn K cd9 "_law_is_web" = true) (k9 : PySem.W.keepIn K (.ref f9) = true)
    {f10 : Addr} {od10 an10 : Option Addr} {sl10 : Array (Option Value)} {oc10 kV10 dc10 pm10 cd10 ct10 : Value}
    (a10 : PySem.W.nsIn K mainGlobals "_law_moved" = some (some (.ref f10))) (l10 : K.lookup f10 = some ⟨oc10, od10, .func (PySem.W.fnOf "_law_moved" "_law_moved" (defArgs sMoved) (defBody sMoved) (defScope sMoved) .none kV10 dc10 pm10 an10 cd10 ct10), sl10⟩) (c10 : PySem.W.codeIn K cd10 "_law_moved" = true) (k10 : PySem.W.keepIn K (.ref f10) = true)
    {f11 : Addr} {od11 an11 : Option Addr} {sl11 : Array (Option Value)} {oc11 kV11 dc11 pm11 cd11 ct11 : Value}
    (a11 : PySem.W.nsIn K mainGlobals "_law_beside" = some (some (.ref f11))) (l11 : K.lookup f11 = some ⟨oc11, od11, .func (PySem.W.fnOf "_law_beside" "_law_beside" (defArgs sLBes) (defBody sLBes) (defScope sLBes) .none kV11 dc11 pm11 an11 cd11 ct11), sl11⟩) (c11 : PySem.W.codeIn K cd11 "_law_beside" = true) (k11 : PySem.W.keepIn K (.ref f11) = true)
    {f12 : Addr} {od12 an12 : Option Addr} {sl12 : Array (Option Value)} {oc12 kV12 dc12 pm12 cd12 ct12 : Value}
    (a12 : PySem.W.nsIn K mainGlobals "_law_laid" = some (some (.ref f12))) (l12 : K.lookup f12 = some ⟨oc12, od12, .func (PySem.W.fnOf "_law_laid" "_law_laid" (defArgs sLLaid) (defBody sLLaid) (defScope sLLaid) .none kV12 dc12 pm12 an12 cd12 ct12), sl12⟩) (c12 : PySem.W.codeIn K cd12 "_law_laid" = true) (k12 : PySem.W.keepIn K (.ref f12) = true)
    {f13 : Addr} {od13 an13 : Option Addr} {sl13 : Array (Option Value)} {oc13 kV13 dc13 pm13 cd13 ct13 : Value}
    (a13 : PySem.W.nsIn K mainGlobals "_law_asked" = some (some (.ref f13))) (l13 : K.lookup f13 = some ⟨oc13, od13, .func (PySem.W.fnOf "_law_asked" "_law_asked" (defArgs sAsked) (defBody sAsked) (defScope sAsked) .none kV13 dc13 pm13 an13 cd13 ct13), sl13⟩) (c13 : PySem.W.codeIn K cd13 "_law_asked" = true) (k13 : PySem.W.keepIn K (.ref f13) = true)
    {f14 : Addr} {od14 an14 : Option Addr} {sl14 : Array (Option Value)} {oc14 kV14 dc14 pm14 cd14 ct14 : Value}
    (a14 : PySem.W.nsIn K mainGlobals "_law_refused" = some (some (.ref f14))) (l14 : K.lookup f14 = some ⟨oc14, od14, .func (PySem.W.fnOf "_law_refused" "_law_refused" (defArgs sRefused) (defBody sRefused) (defScope sRefused) .none kV14 dc14 pm14 an14 cd14 ct14), sl14⟩) (c14 : PySem.W.codeIn K cd14 "_law_refused" = true) (k14 : PySem.W.keepIn K (.ref f14) = true)
    {f15 : Addr} {od15 an15 : Option Addr} {sl15 : Array (Option Value)} {oc15 kV15 dc15 pm15 cd15 ct15 : Value}
    (a15 : PySem.W.nsIn K mainGlobals "law" = some (some (.ref f15))) (l15 : K.lookup f15 = some ⟨oc15, od15, .func (PySem.W.fnOf "law" "law" (defArgs sLaw) (defBody sLaw) (defScope sLaw) .none kV15 dc15 pm15 an15 cd15 ct15), sl15⟩) (c15 : PySem.W.codeIn K cd15 "law" = true) (k15 : PySem.W.keepIn K (.ref f15) = true)
    (z0 : PySem.W.nsIn K mainGlobals "isinstance" = some none)
    (z1 : PySem.W.nsIn K mainGlobals "int" = some none)
    (z2 : PySem.W.nsIn K mainGlobals "bool" = some none)
    (z3 : PySem.W.nsIn K mainGlobals "len" = some none)
    (z4 : PySem.W.nsIn K mainGlobals "tuple" = some none)
    (z5 : PySem.W.nsIn K mainGlobals "all" = some none)
    (z6 : PySem.W.nsIn K mainGlobals "list" = some none)
    (z7 : PySem.W.nsIn K mainGlobals "min" = some none)
    (z8 : PySem.W.nsIn K mainGlobals "max" = some none)
    (z9 : PySem.W.nsIn K mainGlobals "range" = some none)
    (z10 : PySem.W.nsIn K mainGlobals "set" = some none)
    (z11 : PySem.W.nsIn K mainGlobals "sorted" = some none)
    {ti0 : Tok} (y0 : PySem.W.nsIn K mainGlobals "MOST_POINTS" = some (some (.int 9 ti0)))
    {ti1 : Tok} (y1 : PySem.W.nsIn K mainGlobals "MOST_TIES" = some (some (.int 8 ti1)))
    {CS : Addr} (qs : PySem.W.nsIn K mainGlobals "TooMany" = some (some (.ref CS)))
    {CW : Addr} (qw : PySem.W.nsIn K mainGlobals "WebError" = some (some (.ref CW)))
    (x1 : chk82 K CS CW = true)
    : ∃ fd : FuncData, (∀ (s : Shared) (v : Value), BindsTo s fd ⟨[v], []⟩ [("_law_script", v)]) ∧ ∀ base : Heap, K.In base → base.Ns mainGlobals mg → FnOk l.prog w K mg base CX0 7 fa fd ["_law_script"] (spLaw K) := by
  have e := hfa.symm.trans (PySem.W.mg_of X G a15)
  cases e
  have S0 : Src K mg "is_whole" sIsWhole ["thing"] := src_mk X G a0 l0 c0 k0 fun _ _ _ _ _ _ => len1 (fun _ => rfl)
  have S1 : Src K mg "is_whole_within" sWithin ["thing", "least", "greatest"] := src_mk X G a1 l1 c1 k1 fun _ _ _ _ _ _ => len3 (fun _ _ _ => rfl)
  have S2 : Src K mg "lesser_first" sLesser ["a", "b"] := src_mk X G a2 l2 c2 k2 fun _ _ _ _ _ _ => len2 (fun _ _ => rfl)
  have S3 : Src K mg "refuse_no_point_of" sNoPt ["web", "point"] := src_mk X G a3 l3 c3 k3 fun _ _ _ _ _ _ => len2 (fun _ _ => rfl)
  have S4 : Src K mg "ties_at" sTiesAt ["ties", "places"] := src_mk X G a4 l4 c4 k4 fun _ _ _ _ _ _ => len2 (fun _ _ => rfl)
  have S5 : Src K mg "laid_beside" sBeside ["one", "other"] := src_mk X G a5 l5 c5 k5 fun _ _ _ _ _ _ => len2 (fun _ _ => rfl)
  have S6 : Src K mg "laid_at" sLaidAt ["one", "p", "other", "q"] := src_mk X G a6 l6 c6 k6 fun _ _ _ _ _ _ => len4 (fun _ _ _ _ => rfl)
  have S7 : Src K mg "laid_with" sLaidW ["one", "other", "places"] := src_mk X G a7 l7 c7 k7 fun _ _ _ _ _ _ => len3 (fun _ _ _ => rfl)
  have S8 : Src K mg "_law_small" sSmall ["_law_load"] := src_mk X G a8 l8 c8 k8 fun _ _ _ _ _ _ => len1 (fun _ => rfl)
  have S9 : Src K mg "_law_is_web" sIsWeb ["_law_found", "_law_due"] := src_mk X G a9 l9 c9 k9 fun _ _ _ _ _ _ => len2 (fun _ _ => rfl)
  have S10 : Src K mg "_law_moved" sMoved ["_law_ties", "_law_places"] := src_mk X G a10 l10 c10 k10 fun _ _ _ _ _ _ => len2 (fun _ _ => rfl)
  have S11 : Src K mg "_law_beside" sLBes ["_law_one", "_law_other"] := src_mk X G a11 l11 c11 k11 fun _ _ _ _ _ _ => len2 (fun _ _ => rfl)
  have S12 : Src K mg "_law_laid" sLLaid ["_law_one", "_law_p", "_law_other", "_law_q"] := src_mk X G a12 l12 c12 k12 fun _ _ _ _ _ _ => len4 (fun _ _ _ _ => rfl)
  have S13 : Src K mg "_law_asked" sAsked ["_law_one", "_law_p", "_law_other", "_law_q", "_law_apart"] := src_mk X G a13 l13 c13 k13 fun _ _ _ _ _ _ => len5 (fun _ _ _ _ _ => rfl)
  have S14 : Src K mg "_law_refused" sRefused ["_law_one", "_law_p", "_law_other", "_law_q", "_law_apart"] := src_mk X G a14 l14 c14 k14 fun _ _ _ _ _ _ => len5 (fun _ _ _ _ _ => rfl)
  have T : Txt K mg := ⟨PySem.W.mg_none_of X G z0, PySem.W.mg_none_of X G z1, PySem.W.mg_none_of X G z2, PySem.W.mg_none_of X G z3, PySem.W.mg_none_of X G z4, PySem.W.mg_none_of X G z5, PySem.W.mg_none_of X G z6, PySem.W.mg_none_of X G z7, PySem.W.mg_none_of X G z8, PySem.W.mg_none_of X G z9, PySem.W.mg_none_of X G z10, PySem.W.mg_none_of X G z11⟩
  have XT : ExcT K mg CS CW (mroT K CS) (mroT K CW) := by
    obtain ⟨x1, x2, x3, x4⟩ := chk82_of x1
    exact ⟨PySem.W.mg_of X G qs, PySem.W.mg_of X G qw, x1, x2, x3, x4⟩
  refine ⟨PySem.W.fnOf "law" "law" (defArgs sLaw) (defBody sLaw) (defScope sLaw) .none kV15 dc15 pm15 an15 cd15 ct15, fun s v => .of_eq rfl, fun base _ _ => ?_⟩
  have D0 : Def l.prog w K mg base 1 _ _ _ := d_wholeI T S0
  have D1 : Def l.prog w K mg base 2 _ _ _ := d_withI S1 D0
  have D3 : Def l.prog w K mg base 3 _ _ _ := d_nopt S3 D1
  have D2 : Def l.prog w K mg base 1 _ _ _ := d_less S2
  have D4 : Def l.prog w K mg base 2 _ _ _ := d_tiesat T S4 D2
  have D7 : DefX l.prog w K mg base 3 _ _ _ := d_lw T S7 (PySem.W.mg_of X G y0) (PySem.W.mg_of X G y1) XT.hs XT.xs D4
  have D5 : DefX l.prog w K mg base 4 _ _ _ := d_bes T S5 D7
  have D6 : DefX l.prog w K mg base 4 _ _ _ := d_lat T S6 D3 D7
  have D8 : Def l.prog w K mg base 1 _ _ _ := d_small T S8
  have D9 : Def l.prog w K mg base 1 _ _ _ := d_isweb T S9
  have D10 : Def l.prog w K mg base 1 _ _ _ := d_moved T S10
  have D11 : Def l.prog w K mg base 2 _ _ _ := d_lbes T S11 D10
  have D12 : Def l.prog w K mg base 2 _ _ _ := d_llaid T S12 D10
  have D13 : DefX l.prog w K mg base 5 _ _ _ := d_asked S13 D5 D6
  have D14 : Def l.prog w K mg base 6 _ _ _ := d_refused T XT S14 D13
  exact ok_law (fun_mk (st := sLaw) l15 c15 k15) T D8 D11 D12 D14 D13 D9 D6
theorem walk {l : PySem.W.OpenLaw} {q : Program} {loose : List Str} {XP : (Str → Option Value) → Heap → Prop} {YP : World → Heap → Prop} {d : DefRec} {K : Params → PySem.W.Frag} (hn : l.most = some 63) (hdf : d.params.defaults = [])
    (hY : ∀ (w : World) (h : Heap), YP w h → (K w.params).In h)
    (F : ∀ (w : World) (mg : Str → Option Value) (fa : Addr) (h : Heap), (K w.params).In h → h.Ns mainGlobals mg → mg d.name = some (.ref fa) →
      ∃ fd : FuncData, (∀ (s : Shared) (u : Value), BindsTo s fd ⟨[u], []⟩ [("_law_script", u)]) ∧ ∀ base : Heap, (K w.params).In base → base.Ns mainGlobals mg → FnOk l.prog w (K w.params) mg base CX0 7 fa fd ["_law_script"] (spLaw (K w.params))) :
    PySem.W.WalkO q loose XP YP l.row.toRowW d [] (fun f vs => PySem.call f vs) :=
  L2.walk_of (n := 63) (k := 7) (x := "_law_script") (CX := fun _ => CX0) (sp := fun w => spLaw (K w.params)) hn (by decide) hdf ⟨rfl, by decide, by decide⟩ hY F (fun _ _ a ns hl _ hS => ⟨a, ns, rfl, hS, hl, fun _ => rfl⟩) fun _ _ _ _ _ z => z
end My
open PySem PySem.W PyProof.Rows
set_option maxRecDepth 100000 in
set_option maxHeartbeats 0 in
theorem PySem.Challenge.cw_manycounts_k82_laid_together_holds : PySem.Challenge.rw_manycounts_k82_laid_together.Holds := by
  w_on; o_law; k_head; (case hw => w_witness2)
  k_fill
  refine My.walk (l := PySem.Challenge.rw_manycounts_k82_laid_together) rfl rfl (fun w h Y => PySem.W.kIn_of Y) ?F
  case F =>
    intro w mg fa h KX G hmg
    refine' My.all_mk KX G hmg ?a0 ?l0 ?c0 ?k0 ?a1 ?l1 ?c1 ?k1 ?a2 ?l2 ?c2 ?k2 ?a3 ?l3 ?c3 ?k3 ?a4 ?l4 ?c4 ?k4 ?a5 ?l5 ?c5 ?k5 ?a6 ?l6 ?c6 ?k6 ?a7 ?l7 ?c7 ?k7 ?a8 ?l8 ?c8 ?k8 ?a9 ?l9 ?c9 ?k9 ?a10 ?l10 ?c10 ?k10 ?a11 ?l11 ?c11 ?k11 ?a12 ?l12 ?c12 ?k12 ?a13 ?l13 ?c13 ?k13 ?a14 ?l14 ?c14 ?k14 ?a15 ?l15 ?c15 ?k15 ?z0 ?z1 ?z2 ?z3 ?z4 ?z5 ?z6 ?z7 ?z8 ?z9 ?z10 ?z11 ?y0 ?y1 ?qs ?qw ?x1
    (case a0 => k_is); (case l0 => k_is); (case c0 => k_is); (case k0 => k_is)
    (case a1 => k_is); (case l1 => k_is); (case c1 => k_is); (case k1 => k_is)
    (case a2 => k_is); (case l2 => k_is); (case c2 => k_is); (case k2 => k_is)
    (case a3 => k_is); (case l3 => k_is); (case c3 => k_is); (case k3 => k_is)
    (case a4 => k_is); (case l4 => k_is); (case c4 => k_is); (case k4 => k_is)
    (case a5 => k_is); (case l5 => k_is); (case c5 => k_is); (case k5 => k_is)
    (case a6 => k_is); (case l6 => k_is); (case c6 => k_is); (case k6 => k_is)
    (case a7 => k_is); (case l7 => k_is); (case c7 => k_is); (case k7 => k_is)
    (case a8 => k_is); (case l8 => k_is); (case c8 => k_is); (case k8 => k_is)
    (case a9 => k_is); (case l9 => k_is); (case c9 => k_is); (case k9 => k_is)
    (case a10 => k_is); (case l10 => k_is); (case c10 => k_is); (case k10 => k_is)
    (case a11 => k_is); (case l11 => k_is); (case c11 => k_is); (case k11 => k_is)
    (case a12 => k_is); (case l12 => k_is); (case c12 => k_is); (case k12 => k_is)
    (case a13 => k_is); (case l13 => k_is); (case c13 => k_is); (case k13 => k_is)
    (case a14 => k_is); (case l14 => k_is); (case c14 => k_is); (case k14 => k_is)
    (case a15 => k_is); (case l15 => k_is); (case c15 => k_is); (case k15 => k_is)
    (case z0 => k_is); (case z1 => k_is); (case z2 => k_is); (case z3 => k_is)
    (case z4 => k_is); (case z5 => k_is); (case z6 => k_is); (case z7 => k_is)
    (case z8 => k_is); (case z9 => k_is); (case z10 => k_is); (case z11 => k_is)
    (case y0 => k_is); (case y1 => k_is)
    (case qs => k_is)
    (case qw => k_is)
    (case x1 => kernel_rfl)
