import PyProof.Rows.All
import Wide.All
import OpenK.AllK
import Wide.FinOn
import Lean
import PyProof.EqAt
import PyProof.EqKinds
import PyProof.TupleCall
import KE.KIsAll
import PyProof.DictItems
import KE.KPairComp
import KE.KSortTup
import KE.IntBitsLaws
import KE.KRevIter
import PySem.Challenge.RW_manycounts_k77_whole_signs_and_pointings
set_option Elab.async false
set_option linter.all false
set_option maxRecDepth 100000
set_option maxHeartbeats 4000000
namespace L2
open PySem PySem.Spec PyProof.Rows
abbrev Key := Sum Int Str
def keyIs : Key -> Value -> Bool
 | .inl k, v => Value.isInt k v
 | .inr x, v => Value.isStrOf x v
def keyH (w : World) : Key -> Int
 | .inl k => hashInt k
 | .inr x => hashStr w x
theorem zbp : ∀ {k : Key} {v : Value}, keyIs k v = true -> (∃ i t, k = Sum.inl i /\ v = Value.int i t) \/ (∃ x t, k = Sum.inr x /\ v = Value.str x t)
 | .inl i, v, h => by
  obtain ⟨t, e⟩ := Value.isInt_shape (k := i) (v := v) h
  exact .inl ⟨i, t, rfl, e⟩
 | .inr x, v, h => by
  obtain ⟨t, e⟩ := Value.isStrOf_shape (x := x) (v := v) h
  exact .inr ⟨x, t, rfl, e⟩
theorem zun (i : Int) (t : Tok) : keyIs (.inl i) (.int i t) = true := by simp [keyIs, Value.isInt]
theorem zum (x : Str) (t : Tok) : keyIs (.inr x) (.str x t) = true := by simp [keyIs, Value.isStrOf]
theorem zEi (a b : Int) : decide ((Sum.inl a : Key) = Sum.inl b) = (a == b) := by
 by_cases e : a = b
 ·subst e; simp
 ·have h : ¬ (Sum.inl a : Key) = Sum.inl b := fun q => e (Sum.inl.inj q)
  rw [decide_eq_false h]
  exact (beq_eq_false_iff_ne.mpr e).symm
theorem zEf (a b : Str) : decide ((Sum.inr a : Key) = Sum.inr b) = decide (a = b) := by
 by_cases e : a = b
 ·subst e; simp
 ·have h : ¬ (Sum.inr a : Key) = Sum.inr b := fun q => e (Sum.inr.inj q)
  rw [decide_eq_false h, decide_eq_false e]
theorem zEh (a : Int) (b : Str) : decide ((Sum.inl a : Key) = Sum.inr b) = false := decide_eq_false (fun q => nomatch q)
theorem zEg (a : Str) (b : Int) : decide ((Sum.inr a : Key) = Sum.inl b) = false := decide_eq_false (fun q => nomatch q)
def zbm (prog : Program) (w : World) : PySem.KeyKind prog w Key where
 is := keyIs
 hash := keyH w
 inj := fun v a b ha hb => by
  rcases zbp ha with ⟨i, t, rfl, rfl⟩ | ⟨x, t, rfl, rfl⟩
  ·rcases zbp hb with ⟨j, u, rfl, e⟩ | ⟨y, u, rfl, e⟩
   ·injection e with e1 _; rw [e1]
   ·exact nomatch e
  ·rcases zbp hb with ⟨j, u, rfl, e⟩ | ⟨y, u, rfl, e⟩
   ·exact nomatch e
   ·injection e with e1 _; rw [e1]
 byValue := fun k v h => by
  rcases zbp h with ⟨i, t, rfl, rfl⟩ | ⟨x, t, rfl, rfl⟩ <;> rfl
 pyHash := fun hv h => by
  rcases zbp hv with ⟨i, t, rfl, rfl⟩ | ⟨x, t, rfl, rfl⟩
  ·exact wpAny_pyHash_int h
  ·exact wpAny_pyHash_str h
 eqBool := fun hu hv h => by
  rcases zbp hu with ⟨i, t, rfl, rfl⟩ | ⟨x, t, rfl, rfl⟩
  ·rcases zbp hv with ⟨j, u, rfl, rfl⟩ | ⟨y, u, rfl, rfl⟩
   ·rw [zEi] at h; exact wpAny_eqBool_int h
   ·rw [zEh] at h; exact SeqAt.EqAt.int_str i t y u _ _ _ _ h
  ·rcases zbp hv with ⟨j, u, rfl, rfl⟩ | ⟨y, u, rfl, rfl⟩
   ·rw [zEg] at h; exact SeqAt.EqAt.str_int x t j u _ _ _ _ h
   ·rw [zEf] at h; exact wpAny_eqBool_str h
 «strs» := fun k x t v h => by
  rcases zbp h with ⟨i, u, rfl, e⟩ | ⟨y, u, rfl, e⟩
  ·exact nomatch e
  ·injection e with e1 _
   subst e1
   cases v <;> rfl
theorem znk (prog : Program) (w : World) (i : Int) (t : Tok) : (zbm prog w).is (.inl i) (.int i t) = true := zun i t
theorem znj (prog : Program) (w : World) (x : Str) (t : Tok) : (zbm prog w).is (.inr x) (.str x t) = true := zum x t
inductive V where
 | non | bl (b : Bool) | int (i : Int) | str (x : Str) | byt (b : Array UInt8) | flt (b : UInt64) | ref (a : Addr) | ty (n : String)
 deriving DecidableEq
def RelV : V -> Value -> Prop
 | .non, u => u = Value.none
 | .bl b, u => u = Value.bool b
 | .int i, u => ∃ t, u = Value.int i t
 | .str x, u => ∃ t, u = Value.str x t
 | .byt b, u => ∃ t, u = Value.bytes b t
 | .flt b, u => ∃ t, u = Value.float b t
 | .ref a, u => u = Value.ref a
 | .ty n, u => u = Value.type n
abbrev Vals : List V -> List Value -> Prop := Paired RelV
theorem Vals.length {xs : List V} {us : List Value} (r : Vals xs us) : xs.length = us.length := Paired.length r
theorem Vals.get : ∀ {xs : List V} {us : List Value} {i : Nat} {x : V}, Vals xs us -> xs[i]? = some x -> ∃ u, us[i]? = some u /\ RelV x u
 | _, _, _, _, .nil, e => by simp at e
 | _, _, 0, _, .cons r _, e => by simp at e; subst e; exact ⟨_, rfl, r⟩
 | _, _, i + 1, x, .cons _ t, e => by
  obtain ⟨u, h1, h2⟩ := Vals.get (i := i) (x := x) t (by simpa using e)
  exact ⟨u, by simpa using h1, h2⟩
theorem Vals.set {x : V} {u : Value} (r : RelV x u) : ∀ {xs : List V} {us : List Value} (i : Nat), Vals xs us -> Vals (xs.set i x) (us.set i u)
 | _, _, _, .nil => .nil
 | _, _, 0, .cons _ t => .cons r t
 | _, _, i + 1, .cons q t => .cons q (Vals.set r i t)
theorem Vals.append : ∀ {xs ys : List V} {us ws : List Value}, Vals xs us -> Vals ys ws -> Vals (xs ++ ys) (us ++ ws)
 | _, _, _, _, .nil, s => s
 | _, _, _, _, .cons r t, s => .cons r (Vals.append t s)
theorem Vals.take : ∀ {xs : List V} {us : List Value} (n : Nat), Vals xs us -> Vals (xs.take n) (us.take n)
 | _, _, 0, _ => .nil
 | _, _, _ + 1, .nil => .nil
 | _, _, n + 1, .cons r t => .cons r (Vals.take n t)
theorem Vals.drop : ∀ {xs : List V} {us : List Value} (n : Nat), Vals xs us -> Vals (xs.drop n) (us.drop n)
 | _, _, 0, r => r
 | _, _, _ + 1, .nil => .nil
 | _, _, n + 1, .cons _ t => Vals.drop n t
def RelO : Option V -> Option Value -> Prop
 | some v, some u => RelV v u
 | none, none => True
 | _, _ => False
def KV {κ : Type} : List (κ × V) -> List (κ × Value) -> Prop := Paired fun (p : κ × V) (q : κ × Value) => p.1 = q.1 /\ RelV p.2 q.2
def kV : Key -> V
 | .inl i => .int i
 | .inr x => .str x
inductive HO where
  | lst (xs : List V)
  | tup (xs : List V)
  | dK (kvs : List (Key × V)) | dT (kvs : List (List Key × V))
  | set (S : Int -> Bool) (n : Nat)
  | ins (C dx : Addr) (fs : List (Str × V))
  | own (x : Addr)
  | xd (fs : List (Str × V))
  | met (f x : Addr)
  | rng (lo hi : Int)
  | frz (o : Obj) (u : HO)
  | tbl (ps : Array Value)
  | ext (φ : Heap -> Prop)
abbrev Hp := Addr -> Option HO
def upd (H : Hp) (a : Addr) (o : HO) : Hp := fun b => if b = a then some o else H b
theorem zab {H : Hp} {a : Addr} {o : HO} : upd H a o a = some o := by unfold upd; rw [if_pos rfl]
theorem zas {H : Hp} {a b : Addr} {o : HO} (h : b ≠ a) : upd H a o b = H b := by unfold upd; rw [if_neg h]
theorem ne_of {H : Hp} {a b : Addr} {o u : HO} (h : H a = some o) (h' : H b = some u) (d : o ≠ u) : a ≠ b := by
 intro e; subst e; rw [h] at h'; exact d (Option.some.inj h')
theorem zao {H : Hp} {a b : Addr} {o : HO} (h : H a = some o) (h' : H b = none) : a ≠ b := by
 intro e; subst e; rw [h] at h'; cases h'
section
variable (P : Program) (w : World)
def ObjOk (H : Hp) (h : Heap) (a : Addr) : HO -> Prop
 | .lst xs => xs.length <= sizeLine /\ ∃ (its : List Value) (n : Nat), Vals xs its /\ h.get? a = some { cls := .type "list", data := .seq its.toArray n }
 | .tup xs => xs.length <= sizeLine /\ ∃ its : List Value, Vals xs its /\ IsTup h a its.toArray
 | .dK kvs => kvs.length <= sizeLine /\ (a == sysModules) = false /\ ∃ vs, KV kvs vs /\ h.DictOf (zbm P w) a vs
 | .dT kvs => kvs.length <= sizeLine /\ (a == sysModules) = false /\ ∃ xs : List (List Key × Addr × Value),
   Paired (fun (p : List Key × V) (q : List Key × Addr × Value) => p.1 = q.1 /\ H q.2.1 = some (.tup (p.1.map kV)) /\ RelV p.2 q.2.2) kvs xs /\
   ∃ o es ep, h.get? a = some o /\ o.ExactDict /\ o.data = .dict es ep /\ es.toList = xs.map (entryOfKey (tupleKind (zbm P w))) /\ (xs.map (·.1)).Nodup
 | .set S n => h.SetOf (intKind P w) a S n
 | .ins C dx fs => H dx = some (.own a) /\ fs.length <= 1000 /\ dx ≠ a /\ h.get? a = some (PySem.W.instObj C dx) /\
   ∃ mA, h.Ns1 dx mA /\ (∀ f, RelO (fs.lookup f) (mA f)) /\ PySem.Within mA (fs.map (·.1))
 | .own _ => ∃ o, h.get? a = some o
 | .xd fs => ∃ mA, h.Ns1 a mA /\ ∀ f, RelO (fs.lookup f) (mA f)
 | .rng lo hi => ∃ t u v, h.get? a = some { cls := .type "range", data := .fields #[.int lo t, .int hi u, .int 1 v] }
 | .frz o u => h.get? a = some o /\ ObjOk H h a u
 | .tbl ps => h.get? a = some { cls := .none, data := .fields ps }
 | .met f x => h.get? a = some (PySem.W.methodObj (.ref f) (.ref x))
 | .ext φ => φ h /\ (∃ o, h.get? a = some o) /\ ∀ h1 h2 : Heap, φ h1 -> (∀ o, h1.get? a = some o -> h2.get? a = some o) -> φ h2
def HOk (H : Hp) (h : Heap) : Prop := ∀ a o, H a = some o -> ObjOk P w H h a o
end
section
variable {P : Program} {w : World} {H H' : Hp} {h h' : Heap} {a : Addr} {o : HO}
theorem ObjOk.lt (x : ObjOk P w H h a o) : a < h.objs.size := by
 cases o with
 | lst xs => obtain ⟨_, _, _, _, e⟩ := x; exact Heap.lt_size e
 | tup xs => obtain ⟨_, _, _, p⟩ := x; exact p.lt
 | dK kvs => obtain ⟨_, _, _, _, o, _, _, e, _⟩ := x; exact Heap.lt_size e
 | dT kvs => obtain ⟨_, _, _, _, o, _, _, e, _⟩ := x; exact Heap.lt_size e
 | set S n => obtain ⟨o, _, _, _, e, _⟩ := x; exact Heap.lt_size e
 | ins C dx fs => obtain ⟨_, _, _, e, _⟩ := x; exact Heap.lt_size e
 | own y => obtain ⟨_, e⟩ := x; exact Heap.lt_size e
 | xd fs => obtain ⟨_, ⟨_, _, _, e, _⟩, _⟩ := x; exact Heap.lt_size e
 | rng lo hi => obtain ⟨_, _, _, e⟩ := x; exact Heap.lt_size e
 | frz ob u => obtain ⟨e, _⟩ := x; exact Heap.lt_size e
 | tbl ps => exact Heap.lt_size (show h.get? a = some _ from x)
 | met f y => exact Heap.lt_size (show h.get? a = some _ from x)
 | ext φ => obtain ⟨_, ⟨_, e⟩, _⟩ := x; exact Heap.lt_size e
theorem Paired.mapP {α β : Type} {F G : α -> β -> Prop} : ∀ {l₁ : List α} {l₂ : List β}, Paired F l₁ l₂ -> (∀ a b, F a b -> G a b) -> Paired G l₁ l₂
 | _, _, .nil, _ => .nil
 | _, _, .cons r t, f => .cons (f _ _ r) (Paired.mapP t f)
theorem ObjOk.stay (x : ObjOk P w H h a o) (k : ∀ b u, (b = a \/ H b = some (.own a)) -> h.get? b = some u -> h'.get? b = some u)
  (ho : ∀ b, H b = some (.own a) -> H' b = some (.own a)) (ht : ∀ b xs, H b = some (.tup xs) -> H' b = some (.tup xs)) : ObjOk P w H' h' a o := by
 induction o with
 | lst xs => obtain ⟨z, its, n, r, e⟩ := x; exact ⟨z, its, n, r, k _ _ (.inl rfl) e⟩
 | tup xs => obtain ⟨z, its, r, ob, e, c⟩ := x; exact ⟨z, its, r, ob, k _ _ (.inl rfl) e, c⟩
 | dK kvs => obtain ⟨z, y, vs, r, ob, es, ep, e, c⟩ := x; exact ⟨z, y, vs, r, ob, es, ep, k _ _ (.inl rfl) e, c⟩
 | dT kvs =>
  obtain ⟨z, y, xs, r, ob, es, ep, e, c⟩ := x
  exact ⟨z, y, xs, Paired.mapP r fun p q z => ⟨z.1, ht _ _ z.2.1, z.2.2⟩, ob, es, ep, k _ _ (.inl rfl) e, c⟩
 | set S n => obtain ⟨ob, es, ep, t, e, c⟩ := x; exact ⟨ob, es, ep, t, k _ _ (.inl rfl) e, c⟩
 | ins C dx fs =>
  obtain ⟨d, z, ne, e, mA, ⟨od, es, ep, e2, c⟩, r⟩ := x
  exact ⟨ho _ d, z, ne, k _ _ (.inl rfl) e, mA, ⟨od, es, ep, k _ _ (.inr d) e2, c⟩, r⟩
 | own y => obtain ⟨ob, e⟩ := x; exact ⟨ob, k _ _ (.inl rfl) e⟩
 | xd fs => obtain ⟨mA, ⟨od, es, ep, e, c⟩, r⟩ := x; exact ⟨mA, ⟨od, es, ep, k _ _ (.inl rfl) e, c⟩, r⟩
 | rng lo hi => obtain ⟨t, u, v, e⟩ := x; exact ⟨t, u, v, k _ _ (.inl rfl) e⟩
 | frz ob u ih => obtain ⟨e, q⟩ := x; exact ⟨k _ _ (.inl rfl) e, ih q⟩
 | tbl ps =>
  have e : h.get? a = some { cls := .none, data := .fields ps } := x
  show h'.get? a = some { cls := .none, data := .fields ps }
  exact k a _ (.inl rfl) e
 | met f y =>
  have e : h.get? a = some (PySem.W.methodObj (.ref f) (.ref y)) := x
  show h'.get? a = some (PySem.W.methodObj (.ref f) (.ref y))
  exact k a _ (.inl rfl) e
 | ext φ => obtain ⟨p, ⟨o, e⟩, st⟩ := x; exact ⟨st _ _ p fun o q => k _ _ (.inl rfl) q, ⟨o, k _ _ (.inl rfl) e⟩, st⟩
theorem HOk.lt (x : HOk P w H h) (e : H a = some o) : a < h.objs.size := (x a o e).lt
theorem HOk.fresh (x : HOk P w H h) (e : h.objs.size <= a) : H a = none := by
 cases q : H a with
 | none => rfl
 | some u => exact absurd (Nat.lt_of_lt_of_le (x.lt q) e) (Nat.lt_irrefl _)
theorem HOk.kept (x : HOk P w H h) (k : ∀ b u, h.get? b = some u -> h'.get? b = some u) : HOk P w H h' := fun a o e =>
 (x a o e).stay (fun b u _ q => k b u q) (fun _ q => q) fun _ _ q => q
theorem HOk.laid (x : HOk P w H h) (k : ∀ b u, h.get? b = some u -> h'.get? b = some u) (hp : h.objs.size <= a) (new : ObjOk P w (upd H a o) h' a o) : HOk P w (upd H a o) h' := fun b u e => by
 have hn := x.fresh hp
 by_cases hb : b = a
 ·subst hb; rw [zab] at e; cases e; exact new
 ·rw [zas hb] at e
  exact (x b u e).stay (fun c v _ q => k c v q) (fun c q => by rw [zas (zao q hn)]; exact q) fun c xs q => by rw [zas (zao q hn)]; exact q
end
def Rd (H : Hp) (a : Addr) (u : HO) : Prop := H a = some u \/ ∃ o, H a = some (.frz o u)
theorem Rd.ok {P : Program} {w : World} {H : Hp} {h : Heap} {a : Addr} {u : HO} (r : Rd H a u) (x : HOk P w H h) : ObjOk P w H h a u := by
 rcases r with r | ⟨o, r⟩
 ·exact x a u r
 ·obtain ⟨_, q⟩ := x a _ r
  exact q
def Mut : Option HO -> Prop
 | some (.lst _) => True
 | some (.dK _) => True
 | some (.dT _) => True
 | some (.set _ _) => True
 | some (.ins _ _ _) => True
 | some (.ext _) => True
 | _ => False
section
variable {P : Program} {w : World} {H : Hp} {h h' : Heap} {x e : Addr} {o' : HO}
theorem HOk.write (ok : HOk P w H h) (mu : Mut (H x)) (he : e = x \/ H e = some (.own x)) (k : ∀ b u, b ≠ e -> h.get? b = some u -> h'.get? b = some u) (heo : ∃ u, h'.get? e = some u)
  (new : ObjOk P w (upd H x o') h' x o') : HOk P w (upd H x o') h' := fun b u q => by
 have nown : ∀ c y, H c = some (.own y) -> c ≠ x := fun c y r z => by subst z; rw [r] at mu; exact mu
 have ntup : ∀ c xs, H c = some (.tup xs) -> c ≠ x := fun c xs r z => by subst z; rw [r] at mu; exact mu
 by_cases hb : b = x
 ·subst hb; rw [zab] at q; cases q; exact new
 ·rw [zas hb] at q
  by_cases hbe : b = e
  ·have q' : H b = some (.own x) := by
    rcases he with z | z
    ·exact absurd (hbe.trans z) hb
    ·rw [hbe]; exact z
   rw [q] at q'; cases q'
   obtain ⟨v, hv⟩ := heo
   exact ⟨v, by rw [hbe]; exact hv⟩
  ·refine (ok b u q).stay (fun c v hc r => k c v ?_ r) (fun c r => by rw [zas (nown c b r)]; exact r) fun c xs r => by rw [zas (ntup c xs r)]; exact r
   rcases hc with rfl | hc
   ·exact hbe
   ·rintro rfl
    rcases he with z | z
    ·exact nown c b hc z
    ·rw [hc] at z; cases z; exact hb rfl
end
structure Un (fs ex : List Addr) (H H' : Hp) (h h' : Heap) : Prop where
 keep : ∀ b o, h.get? b = some o -> H b = none -> b ∉ fs -> b ∉ ex -> h'.get? b = some o
 slot : ∀ b o, h.get? b = some o -> H b = none -> b ∈ fs -> b ∉ ex -> ∃ sl, h'.get? b = some { o with slots := sl }
 free : ∀ b o, h.get? b = some o -> H b = none -> b ∉ ex -> H' b = none
 there : ∀ b o, h.get? b = some o -> b ∉ ex -> ∃ o', h'.get? b = some o'
 tups : ∀ b xs, H b = some (.tup xs) -> H' b = some (.tup xs)
 frzs : ∀ b o u, H b = some (.frz o u) -> H' b = some (.frz o u)
 tbls : ∀ b ps, H b = some (.tbl ps) -> ∃ more, H' b = some (.tbl (ps ++ more))
section
variable {fs fs' ex ex' : List Addr} {H H1 H2 : Hp} {h h1 h2 h' : Heap} {a x e : Addr} {o : HO}
theorem Un.any (u : Un fs ex H H1 h h1) {b : Addr} {ob : Obj} (q : h.get? b = some ob) (n : H b = none) (hx : b ∉ ex) : ∃ sl, h1.get? b = some { ob with slots := sl } := by
 by_cases hb : b ∈ fs
 ·exact u.slot b ob q n hb hx
 ·exact ⟨ob.slots, u.keep b ob q n hb hx⟩
theorem Un.kept (k : ∀ b u, h.get? b = some u -> h'.get? b = some u) : Un fs ex H H h h' :=
 ⟨fun b ob q _ _ _ => k b ob q, fun b ob q _ _ _ => ⟨ob.slots, k b ob q⟩, fun _ _ _ n _ => n, fun b ob q _ => ⟨ob, k b ob q⟩, fun _ _ q => q, fun _ _ _ q => q, fun _ ps q => ⟨#[], by rw [q]; simp⟩⟩
theorem Un.refl : Un fs ex H H h h := Un.kept fun _ _ q => q
theorem Un.laid (k : ∀ b u, h.get? b = some u -> h'.get? b = some u) (hp : h.objs.size <= a) (hn : H a = none) : Un fs ex H (upd H a o) h h' where
 keep := fun b u q _ _ _ => k b u q
 slot := fun b u q _ _ _ => ⟨u.slots, k b u q⟩
 free := fun b u q n _ => by rw [zas (Nat.ne_of_lt (Nat.lt_of_lt_of_le (Heap.lt_size q) hp))]; exact n
 there := fun b u q _ => ⟨u, k b u q⟩
 tups := fun b xs q => by rw [zas (zao q hn)]; exact q
 frzs := fun b u xs q => by rw [zas (zao q hn)]; exact q
 tbls := fun b ps q => ⟨#[], by rw [zas (zao q hn), q]; simp⟩
theorem Un.write (mu : Mut (H x)) (he : e = x \/ H e = some (.own x)) (k : ∀ b u, b ≠ e -> h.get? b = some u -> h'.get? b = some u) (heo : ∃ u, h'.get? e = some u) : Un fs ex H (upd H x o) h h' := by
 have hx : ∀ b, H b = none -> b ≠ x := fun b n z => by subst z; rw [n] at mu; exact mu
 have hb : ∀ b, H b = none -> b ≠ e := fun b n z => by
  subst z
  rcases he with r | r
  ·exact hx b n r
  ·rw [n] at r; cases r
 have hm : ∀ b u, H b = some u -> ¬ Mut (some u) -> b ≠ x := fun b u q nm z => by subst z; rw [q] at mu; exact nm mu
 refine ⟨fun b u q n _ _ => k b u (hb b n) q, fun b u q n _ _ => ⟨u.slots, k b u (hb b n) q⟩, fun b u q n _ => by rw [zas (hx b n)]; exact n, fun b u q _ => ?_,
  fun b xs q => by rw [zas (hm b _ q fun z => z)]; exact q, fun b u xs q => by rw [zas (hm b _ q fun z => z)]; exact q, fun b ps q => ⟨#[], by rw [zas (hm b _ q fun z => z), q]; simp⟩⟩
 by_cases hbe : b = e
 ·subst hbe; exact heo
 ·exact ⟨u, k b u hbe q⟩
end
def trk (h : Heap) (H : Hp) : List Addr := (List.range h.objs.size).filter fun a => (H a).isSome
def hidT (h : Heap) (H : Hp) : Heap := PySem.W.hideAll h (trk h H)
theorem zux (h : Heap) (H : Hp) : (hidT h H).objs.size = h.objs.size := PySem.W.hideAll_size _ _
theorem zxx {h : Heap} {H : Hp} {b : Addr} {o : Obj} (e : h.get? b = some o) (n : H b = none) : (hidT h H).get? b = some o :=
 PySem.W.hideAll_get _ e fun hm => by
  have q : (H b).isSome = true := (List.mem_filter.mp hm).2
  rw [n] at q; simp at q
theorem zBd {h : Heap} {H : Hp} {b : Addr} {o : Obj} (e : (hidT h H).get? b = some o) : h.get? b = some o /\ H b = none := by
 have e' : h.get? b = some o := PySem.W.of_hideAll (trk h H) e
 refine ⟨e', ?_⟩
 cases q : H b with
 | none => rfl
 | some x =>
  have hm : b ∈ trk h H := List.mem_filter.mpr ⟨List.mem_range.mpr (Heap.lt_size e'), by simp [q]⟩
  have z : (hidT h H).get? b = none := PySem.W.hideAll_none (trk h H) hm
  rw [z] at e; cases e
def zCq (g h : Heap) (L : Addr) : List (Addr × Obj) := (List.range h.objs.size).filterMap fun a => if a = L \/ (g.get? a).isSome = true then none else (h.get? a).map fun o => (a, o)
def rest (g h : Heap) (L d : Addr) : List (Addr × Obj) := (zCq g h L).filter fun p => decide (p.1 ≠ d)
structure Mod (K : PySem.W.Frag) (mg : Str -> Option Value) (base : Heap) : Prop where
 kin : K.In base
 glob : base.Ns mainGlobals mg
 blt : ∃ mb, base.Ns builtinsNs mb /\ ∀ x : Str, x ≠ "__name__" -> mb x = bootBuiltins x
 nolimit : base.NoLimit
structure Cx where
 prog : Program
 w : World
 K : PySem.W.Frag
 mg : Str -> Option Value
 base : Heap
 A : Around
 N : List Str
 s₀ : Shared
 H₀ : Hp
 env : Env
 outer : List Env
 stack : List Env
 ex : List Addr
 fn : Str -> Bool
 calm : Bool
 pn : List (Addr × Obj)
 xe : Value -> Shared -> Prop
def frs (l : List Env) : List Addr := l.filterMap (·.frame)
abbrev Cx.fs (X : Cx) : List Addr := frs X.outer
def Vis (sc : Scope) (x : Str) : Prop := sc.names.lookup x = some .local \/ sc.names.lookup x = some .cell \/ sc.names.lookup x = some .free
def Loc (sc : Scope) (x : Str) : Prop := sc.names.lookup x = some .local \/ sc.names.lookup x = some .cell
def Look (env : Env) (h : Heap) (m : Str -> Option Value) (x : Str) (u : Value) : Prop :=
 (env.kindOf x = some .local /\ m x = some u) \/ ((env.kindOf x = some .cell \/ env.kindOf x = some .free) /\ ∃ c, env.cells.lookup x = some c /\ h.IsCell c (some u))
structure Cx.Ok (X : Cx) : Prop where
 mod : Mod X.K X.mg X.base
 kind : X.env.scope.kind = .function
 glob : X.env.globals = mainGlobals
 blt : X.env.builtins = builtinsNs
 above : X.s₀.heap.objs.size <= X.env.locals
 inj : ∀ x y c, X.env.cells.lookup x = some c -> X.env.cells.lookup y = some c -> x = y
 has : ∀ x, (X.env.kindOf x = some .cell \/ X.env.kindOf x = some .free) -> ∃ c, X.env.cells.lookup x = some c
 cab : ∀ x c, X.fn x = true -> X.env.cells.lookup x = some c -> X.s₀.heap.objs.size <= c
 hd : X.calm = true -> X.A.handled = none
 frames : X.A.frames = some X.stack
 stk : X.stack = X.outer \/ (X.stack = X.env :: X.outer /\ X.env.frame = some X.env.locals)
 exf : ∀ b ∈ X.ex, b ≠ X.env.locals /\ ∀ x c, X.env.cells.lookup x = some c -> c ≠ b
 bs : ∀ b o, X.base.get? b = some o -> X.s₀.heap.get? b = some o /\ X.H₀ b = none
 bsz : X.base.objs.size <= X.s₀.heap.objs.size
 noex : ∀ b o, X.base.get? b = some o -> b ∉ X.ex
 exfs : ∀ b ∈ X.ex, b ∉ X.fs
 funs : X.s₀.heap.FunFrames X.base X.outer
 frf : ∀ b ∈ X.fs, X.H₀ b = none
structure Inv (X : Cx) (pins : List (Addr × Obj)) (σ : List (Option V)) (H : Hp) (s : Shared) : Prop where
 ok : X.Ok
 os : s.os = X.s₀.os
 bare : AllBare s.gens
 base : Un X.fs X.ex X.H₀ H X.s₀.heap s.heap
 loc : ∃ m, s.heap.Ns X.env.locals m /\ ∀ (i : Nat) (x : Str) (v : V), X.N[i]? = some x -> σ[i]? = some (some v) -> Vis X.env.scope x -> ∃ u, RelV v u /\ Look X.env s.heap m x u
 cell : ∀ x c, X.env.cells.lookup x = some c -> ∃ v, s.heap.IsCell c v
 free : H X.env.locals = none
 freeC : ∀ x c, X.env.cells.lookup x = some c -> H c = none
 pin : ∀ p ∈ X.pn ++ pins, s.heap.get? p.1 = some p.2 /\ H p.1 = none /\ p.1 ≠ X.env.locals /\ p.1 ∉ X.fs /\ ∀ v, p.2.data ≠ .cell v
 hok : HOk X.prog X.w H s.heap
 len : σ.length = X.N.length
section
variable {X : Cx} {pins : List (Addr × Obj)} {σ : List (Option V)} {H H' : Hp} {s : Shared} {h' : Heap}
theorem Cx.Ok.nofr (ok : X.Ok) {b : Addr} {o : Obj} (e : X.base.get? b = some o) : b ∉ X.fs := fun hb => by
 have := (ok.funs.mem hb).1
 rw [e] at this; cases this
theorem Inv.bs (I : Inv X pins σ H s) : ∀ b o, X.base.get? b = some o -> s.heap.get? b = some o /\ H b = none := fun b o e =>
 ⟨I.base.keep b o (I.ok.bs b o e).1 (I.ok.bs b o e).2 (I.ok.nofr e) (I.ok.noex b o e), I.base.free b o (I.ok.bs b o e).1 (I.ok.bs b o e).2 (I.ok.noex b o e)⟩
theorem Inv.bk (I : Inv X pins σ H s) : ∀ b o, X.base.get? b = some o -> s.heap.get? b = some o := fun b o e => (I.bs b o e).1
theorem Inv.mod (I : Inv X pins σ H s) : Mod X.K X.mg X.base := I.ok.mod
theorem Inv.kIn (I : Inv X pins σ H s) : X.K.In s.heap := I.ok.mod.kin.keeps I.bk
theorem Inv.lt (I : Inv X pins σ H s) : X.env.locals < s.heap.objs.size := let ⟨_, hn, _⟩ := I.loc; hn.lt
theorem Inv.sz (I : Inv X pins σ H s) : X.s₀.heap.objs.size <= s.heap.objs.size := Nat.le_trans I.ok.above (Nat.le_of_lt I.lt)
theorem Inv.nofs (I : Inv X pins σ H s) {a : Addr} (h : s.heap.objs.size <= a) : a ∉ X.fs := fun hb => by
 obtain ⟨_, o, ho, _⟩ := I.ok.funs.mem hb
 exact absurd (Nat.lt_of_lt_of_le (Heap.lt_size ho) (Nat.le_trans I.sz h)) (Nat.lt_irrefl _)
theorem Inv.cne (I : Inv X pins σ H s) : ∀ x c, X.env.cells.lookup x = some c -> c ≠ X.env.locals := fun x c e z => by
 obtain ⟨v, o, ho, hd⟩ := I.cell x c e
 obtain ⟨m, ⟨o', es, ep, ho', hd', _⟩, _⟩ := I.loc
 rw [z, ho'] at ho; cases ho; rw [hd'] at hd; cases hd
theorem Inv.funs (I : Inv X pins σ H s) : s.heap.FunFrames X.base X.outer := by
 have all : ∀ (l : List Env), (∀ b ∈ frs l, b ∈ X.fs) -> X.s₀.heap.FunFrames X.base l -> s.heap.FunFrames X.base l := by
  intro l
  induction l with
  | nil => intro _ _; trivial
  | cons env r ih =>
   intro hs hl
   obtain ⟨hk, ⟨L, o, hf, hn, ho, hd⟩, hr⟩ := hl
   have hL : L ∈ X.fs := hs L (by unfold frs; rw [List.filterMap_cons, hf]; exact List.mem_cons_self)
   obtain ⟨sl, e⟩ := I.base.slot L o ho (I.ok.frf L hL) hL fun z => I.ok.exfs L z hL
   exact ⟨hk, ⟨L, _, hf, hn, e, hd⟩, ih (fun b hb => hs b (by unfold frs; rw [List.filterMap_cons, hf]; exact List.mem_cons_of_mem _ hb)) hr⟩
 exact all X.outer (fun _ hb => hb) I.ok.funs
theorem Inv.stack (I : Inv X pins σ H s) : s.heap.FunFrames X.base X.stack := by
 rcases I.ok.stk with e | ⟨e, hf⟩
 ·rw [e]; exact I.funs
 ·rw [e]
  obtain ⟨m, hn, _⟩ := I.loc
  refine .cons (by rw [I.ok.kind]; decide) hf hn ?_ I.funs
  exact Heap.get?_none_of_le (Nat.le_trans I.ok.bsz I.ok.above)
theorem Inv.stkSub (I : Inv X pins σ H s) : ∀ b ∈ frs X.stack, b ∈ X.env.locals :: X.fs := fun b hb => by
 rcases I.ok.stk with e | ⟨e, hf⟩
 ·rw [e] at hb; exact List.mem_cons_of_mem _ hb
 ·rw [e] at hb
  unfold frs at hb
  rw [List.filterMap_cons, hf] at hb
  exact hb
theorem Inv.stkFree (I : Inv X pins σ H s) : ∀ b ∈ frs X.stack, H b = none := fun b hb => by
 rcases List.mem_cons.mp (I.stkSub b hb) with e | hb
 ·rw [e]; exact I.free
 ·obtain ⟨_, o, ho, _⟩ := I.ok.funs.mem hb
  exact I.base.free b o ho (I.ok.frf b hb) fun z => I.ok.exfs b z hb
theorem Inv.step {g' : Array GenState} {t' : Nat} {d' : Drawn} {ch : List Addr} (I : Inv X pins σ H s)
  (hch : ∀ b ∈ ch, (b ∈ X.ex \/ X.s₀.heap.objs.size <= b) /\ b ≠ X.env.locals /\ (∀ x c, X.env.cells.lookup x = some c -> c ≠ b) /\ ∀ p ∈ X.pn ++ pins, p.1 ≠ b)
  (keep : ∀ b o, b ≠ X.env.locals -> b ∉ X.fs -> b ∉ ch -> s.heap.get? b = some o -> H b = none -> h'.get? b = some o)
  (slot : ∀ b o, b ≠ X.env.locals -> b ∈ X.fs -> b ∉ ch -> s.heap.get? b = some o -> H b = none -> ∃ sl, h'.get? b = some { o with slots := sl }) (free : ∀ b o, b ∉ ch -> s.heap.get? b = some o -> H b = none -> H' b = none)
  (there : ∀ b o, b ∉ ch -> s.heap.get? b = some o -> ∃ o', h'.get? b = some o')
  (tups : ∀ b xs, H b = some (.tup xs) -> H' b = some (.tup xs)) (frzs : ∀ b o u, H b = some (.frz o u) -> H' b = some (.frz o u)) (tbls : ∀ b ps, H b = some (.tbl ps) -> ∃ more, H' b = some (.tbl (ps ++ more)))
  (ns : ∀ m, s.heap.Ns X.env.locals m -> h'.Ns X.env.locals m) (hok : HOk X.prog X.w H' h') (hg : AllBare g') :
  Inv X pins σ H' { s with heap := h', gens := g', drawn := d', toks := t' } := by
 have neL : ∀ b o, X.s₀.heap.get? b = some o -> b ≠ X.env.locals := fun b o e => Nat.ne_of_lt (Nat.lt_of_lt_of_le (Heap.lt_size e) I.ok.above)
 have neC : ∀ b o, X.s₀.heap.get? b = some o -> b ∉ X.ex -> b ∉ ch := fun b o e hx hb => by
  rcases (hch b hb).1 with z | z
  ·exact hx z
  ·exact absurd (Nat.lt_of_lt_of_le (Heap.lt_size e) z) (Nat.lt_irrefl _)
 have cellK : ∀ x c, X.env.cells.lookup x = some c -> ∀ v, s.heap.IsCell c v -> h'.IsCell c v := fun x c e v ⟨o, ho, hd⟩ => by
  have nch : c ∉ ch := fun z => (hch c z).2.2.1 x c e rfl
  by_cases hc : c ∈ X.fs
  ·obtain ⟨sl, q⟩ := slot c o (I.cne x c e) hc nch ho (I.freeC x c e)
   exact ⟨_, q, hd⟩
  ·exact ⟨o, keep c o (I.cne x c e) hc nch ho (I.freeC x c e), hd⟩
 refine ⟨I.ok, I.os, hg, ⟨fun b o e n hb hx => ?_, fun b o e n hb hx => ?_, fun b o e n hx => ?_, fun b o e hx => ?_, fun b xs e => tups b xs (I.base.tups b xs e), fun b o xs e => frzs b o xs (I.base.frzs b o xs e), fun b ps e => ?_⟩, ?_, fun x c e => ?_, ?_, fun x c e => ?_, fun p hp => ?_, hok, I.len⟩
 ·exact keep b o (neL b o e) hb (neC b o e hx) (I.base.keep b o e n hb hx) (I.base.free b o e n hx)
 ·obtain ⟨sl, e1⟩ := I.base.slot b o e n hb hx
  obtain ⟨sl', e2⟩ := slot b _ (neL b o e) hb (neC b o e hx) e1 (I.base.free b o e n hx)
  exact ⟨sl', e2⟩
 ·obtain ⟨o', e1⟩ := I.base.there b o e hx
  exact free b o' (neC b o e hx) e1 (I.base.free b o e n hx)
 ·obtain ⟨o', e1⟩ := I.base.there b o e hx
  exact there b o' (neC b o e hx) e1
 ·obtain ⟨m1, e1⟩ := I.base.tbls b ps e
  obtain ⟨m2, e2⟩ := tbls b _ e1
  exact ⟨m1 ++ m2, by rw [e2, Array.append_assoc]⟩
 ·obtain ⟨m, hn, hl⟩ := I.loc
  refine ⟨m, ns m hn, fun i x v e1 e2 e3 => ?_⟩
  obtain ⟨u, r, l⟩ := hl i x v e1 e2 e3
  refine ⟨u, r, ?_⟩
  rcases l with l | ⟨k, c, e, z⟩
  ·exact .inl l
  ·exact .inr ⟨k, c, e, cellK x c e _ z⟩
 ·obtain ⟨v, z⟩ := I.cell x c e
  exact ⟨v, cellK x c e v z⟩
 ·obtain ⟨m, ⟨o, _, _, ho, _⟩, _⟩ := I.loc
  exact free _ o (fun z => (hch _ z).2.1 rfl) ho I.free
 ·obtain ⟨v, o, ho, hd⟩ := I.cell x c e
  exact free c o (fun z => (hch c z).2.2.1 x c e rfl) ho (I.freeC x c e)
 ·obtain ⟨e, n, ne, nf, d⟩ := I.pin p hp
  have nch : p.1 ∉ ch := fun z => (hch p.1 z).2.2.2 p hp rfl
  exact ⟨keep p.1 p.2 ne nf nch e n, free p.1 p.2 nch e n, ne, nf, d⟩
theorem Inv.un {t' : Nat} (I : Inv X pins σ H s) (u : Un X.fs [] H H' s.heap h') (hok : HOk X.prog X.w H' h') : Inv X pins σ H' { s with heap := h', toks := t' } := by
 obtain ⟨m, ⟨o, es, ep, ho, r⟩, _⟩ := id I.loc
 obtain ⟨sl, hL⟩ := u.any ho I.free (by simp)
 exact I.step (g' := s.gens) (d' := s.drawn) (ch := []) (fun _ z => nomatch z) (fun b o _ hb _ e n => u.keep b o e n hb (by simp)) (fun b o _ hb _ e n => u.slot b o e n hb (by simp)) (fun b o _ e n => u.free b o e n (by simp)) (fun b o _ e => u.there b o e (by simp)) u.tups u.frzs u.tbls (fun m' hm => by
  obtain ⟨o', es', ep', ho', r'⟩ := hm
  rw [ho] at ho'; cases ho'
  exact ⟨_, es', ep', hL, r'⟩) hok I.bare
theorem Inv.call {g' : Array GenState} {t' : Nat} {d' : Drawn} {ch : List Addr} (I : Inv X pins σ H s) (u : Un (frs X.stack) ch H H' s.heap h') (hok : HOk X.prog X.w H' h') (hg : AllBare g')
  (hch : ∀ b ∈ ch, (b ∈ X.ex \/ X.s₀.heap.objs.size <= b) /\ b ≠ X.env.locals /\ (∀ x c, X.env.cells.lookup x = some c -> c ≠ b) /\ ∀ p ∈ X.pn ++ pins, p.1 ≠ b) :
  Inv X pins σ H' { s with heap := h', gens := g', drawn := d', toks := t' } := by
 obtain ⟨m, ⟨o, es, ep, ho, r⟩, _⟩ := id I.loc
 obtain ⟨sl, hL⟩ := u.any ho I.free fun z => (hch _ z).2.1 rfl
 exact I.step (ch := ch) hch (fun b o hL hb hc e n => u.keep b o e n (fun z => (List.mem_cons.mp (I.stkSub b z)).elim hL hb) hc) (fun b o _ _ hc e n => u.any e n hc) (fun b o hc e n => u.free b o e n hc) (fun b o hc e => u.there b o e hc) u.tups u.frzs u.tbls (fun m' hm => by
  obtain ⟨o', es', ep', ho', r'⟩ := hm
  rw [ho] at ho'; cases ho'
  exact ⟨_, es', ep', hL, r'⟩) hok hg
theorem Inv.turned {t' : Nat} {it : Addr} (I : Inv X pins σ H s) (k : ∀ b o, b ≠ it -> s.heap.get? b = some o -> h'.get? b = some o) (hn : H it = none) (hL : it ≠ X.env.locals)
  (h1 : it ∈ X.ex \/ X.s₀.heap.objs.size <= it) (h2 : ∀ x c, X.env.cells.lookup x = some c -> c ≠ it) (h3 : ∀ p ∈ X.pn ++ pins, p.1 ≠ it) : Inv X pins σ H { s with heap := h', toks := t' } := by
 have nit : ∀ b u, H b = some u -> b ≠ it := fun b u e z => by rw [z, hn] at e; cases e
 refine I.step (g' := s.gens) (d' := s.drawn) (ch := [it]) (fun b hb => ?_) (fun b o _ _ hc e _ => k b o (fun z => hc (by simp [z])) e) (fun b o _ _ hc e _ => ⟨o.slots, k b o (fun z => hc (by simp [z])) e⟩) (fun _ _ _ _ n => n)
  (fun b o hc e => ⟨o, k b o (fun z => hc (by simp [z])) e⟩) (fun _ _ e => e) (fun _ _ _ e => e) (fun b ps e => ⟨#[], by rw [e]; simp⟩) (fun m hm => ?_) (fun b u e => ?_) I.bare
 ·have e : b = it := by simpa using hb
  subst e
  exact ⟨h1, hL, h2, h3⟩
 ·obtain ⟨o, es, ep, ho, r⟩ := hm
  exact ⟨o, es, ep, k _ o (Ne.symm hL) ho, r⟩
 ·refine (I.hok b u e).stay (fun c v hc q => k c v ?_ q) (fun _ q => q) fun _ _ q => q
  rcases hc with z | z
  ·rw [z]; exact nit b u e
  ·exact nit c _ z
theorem Inv.tok (I : Inv X pins σ H s) (t : Nat) : Inv X pins σ H { s with toks := t } := I.un (h' := s.heap) (t' := t) Un.refl I.hok
theorem Inv.kept {t' : Nat} (I : Inv X pins σ H s) (k : ∀ b u, s.heap.get? b = some u -> h'.get? b = some u) : Inv X pins σ H { s with heap := h', toks := t' } := I.un (Un.kept k) (I.hok.kept k)
theorem Inv.laid {a : Addr} {o : HO} {t' : Nat} (I : Inv X pins σ H s) (k : ∀ b u, s.heap.get? b = some u -> h'.get? b = some u) (hp : s.heap.objs.size <= a) (new : ObjOk X.prog X.w (upd H a o) h' a o) :
  Inv X pins σ (upd H a o) { s with heap := h', toks := t' } := I.un (Un.laid k hp (I.hok.fresh hp)) (I.hok.laid k hp new)
theorem Inv.write {x e : Addr} {o : HO} {t' : Nat} (I : Inv X pins σ H s) (mu : Mut (H x)) (he : e = x \/ H e = some (.own x)) (k : ∀ b u, b ≠ e -> s.heap.get? b = some u -> h'.get? b = some u) (heo : ∃ u, h'.get? e = some u)
  (new : ObjOk X.prog X.w (upd H x o) h' x o) : Inv X pins σ (upd H x o) { s with heap := h', toks := t' } := I.un (Un.write mu he k heo) (I.hok.write mu he k heo new)
theorem Inv.pins_of {pins' : List (Addr × Obj)} (I : Inv X pins σ H s) (h : ∀ p ∈ pins', s.heap.get? p.1 = some p.2 /\ H p.1 = none /\ p.1 ≠ X.env.locals /\ p.1 ∉ X.fs /\ ∀ v, p.2.data ≠ .cell v) : Inv X pins' σ H s :=
 ⟨I.ok, I.os, I.bare, I.base, I.loc, I.cell, I.free, I.freeC, fun p hp => (List.mem_append.mp hp).elim (fun z => I.pin p (List.mem_append_left _ z)) (h p), I.hok, I.len⟩
theorem zpm {N : List Str} (hN : N.Nodup) {i j : Nat} {x : Str} (a : N[i]? = some x) (b : N[j]? = some x) : i = j := by
 obtain ⟨h1, e1⟩ := List.getElem?_eq_some_iff.mp a
 obtain ⟨h2, e2⟩ := List.getElem?_eq_some_iff.mp b
 exact (List.getElem_inj hN).mp (e1.trans e2.symm)
theorem zlc {M : Model} {A : Around} {E : Value -> Shared -> Prop} {i : Nat} {x : Str} {v : V} {u : Value} {Q : Unit -> Shared -> Prop} (I : Inv X pins σ H s) (hN : X.N.Nodup) (hi : X.N[i]? = some x) (hx : Loc X.env.scope x) (r : RelV v u)
  (h : ∀ s', Inv X pins (σ.set i (some v)) H s' -> (∃ a, Heap.SameBut a s.heap s'.heap /\ (a = X.env.locals \/ X.env.cells.lookup x = some a)) -> Q () s') (hf : X.fn x = true \/ X.env.scope.names.lookup x = some .local := by first | exact .inl rfl | exact .inr rfl | assumption) : wpAny M A (storeName X.env x u) Q E s := by
 obtain ⟨m, hn, hl⟩ := id I.loc
 have hcls : (X.env.scope.kind == .class || (X.env.scope.kind == .module && X.env.locals != X.env.globals)) = false := by rw [I.ok.kind]; rfl
 have hiσ : i < σ.length := by rw [I.len]; exact (List.getElem?_eq_some_iff.mp hi).1
 have cne := I.cne
 have tracked : ∀ {a : Addr} {h' : Heap}, (∃ o, s.heap.get? a = some o /\ H a = none) -> Heap.SameBut a s.heap h' -> HOk X.prog X.w H h' := fun {a h'} ha hs b ob e => by
  obtain ⟨_, _, hfree⟩ := ha
  refine (I.hok b ob e).stay (fun c w' hc q => (hs.2 c ?_).trans q) (fun _ q => q) fun _ _ q => q
  rintro rfl
  rcases hc with rfl | hc
  ·rw [hfree] at e; cases e
  ·rw [hfree] at hc; cases hc
 rcases hx with hk | hk
 ·refine wpAny_storeName_local hk hn (fun h' hn' hs => ?_) hcls
  obtain ⟨oL, _, _, hoL, _⟩ := id hn
  refine h _ ⟨I.ok, I.os, I.bare, ⟨fun b o e n hb hx => ?_, fun b o e n hb hx => ?_, I.base.free, fun b o e hx => ?_, I.base.tups, I.base.frzs, I.base.tbls⟩, ⟨_, hn', fun j y v' e1 e2 e3 => ?_⟩, fun y c e => ?_, I.free, I.freeC, fun p hp => ?_, tracked ⟨oL, hoL, I.free⟩ hs, by simpa using I.len⟩ ⟨_, hs, .inl rfl⟩
  ·exact (hs.2 b (Nat.ne_of_lt (Nat.lt_of_lt_of_le (Heap.lt_size e) I.ok.above))).trans (I.base.keep b o e n hb hx)
  ·obtain ⟨sl, e1⟩ := I.base.slot b o e n hb hx
   exact ⟨sl, (hs.2 b (Nat.ne_of_lt (Nat.lt_of_lt_of_le (Heap.lt_size e) I.ok.above))).trans e1⟩
  ·obtain ⟨o', e1⟩ := I.base.there b o e hx
   exact ⟨o', (hs.2 b (Nat.ne_of_lt (Nat.lt_of_lt_of_le (Heap.lt_size e) I.ok.above))).trans e1⟩
  ·by_cases hj : j = i
   ·subst hj
    rw [hi] at e1; cases e1
    rw [List.getElem?_set_self hiσ] at e2
    cases e2
    exact ⟨u, r, .inl ⟨hk, by simp⟩⟩
   ·rw [List.getElem?_set_ne (Ne.symm hj)] at e2
    obtain ⟨u', r', q⟩ := hl j y v' e1 e2 e3
    refine ⟨u', r', ?_⟩
    rcases q with ⟨k, e⟩ | ⟨k, c, e, z⟩
    ·refine .inl ⟨k, ?_⟩
     have : y ≠ x := fun e => hj (zpm hN e1 (e ▸ hi))
     simp [this, e]
    ·exact .inr ⟨k, c, e, z.sameBut hs (cne y c e)⟩
  ·obtain ⟨w', z⟩ := I.cell y c e
   exact ⟨w', z.sameBut hs (cne y c e)⟩
  ·obtain ⟨e, n, ne, nf, d⟩ := I.pin p hp
   exact ⟨(hs.2 p.1 ne).trans e, n, ne, nf, d⟩
 ·have hfn : X.fn x = true := by
   rcases hf with z | z
   ·exact z
   ·rw [z] at hk; cases hk
  obtain ⟨c, hc⟩ := I.ok.has x (.inl hk)
  obtain ⟨w', z⟩ := I.cell x c hc
  refine wpAny_storeName_cell I.ok.kind hk hc z (fun h' hc' hs => ?_)
  obtain ⟨oc, hoc, hocd⟩ := id z
  refine h { s with heap := h' } ⟨I.ok, I.os, I.bare, ⟨fun b o e n hb hx => ?_, fun b o e n hb hx => ?_, I.base.free, fun b o e hx => ?_, I.base.tups, I.base.frzs, I.base.tbls⟩, ⟨m, hn.sameBut hs (Ne.symm (cne x c hc)), fun j y v' e1 e2 e3 => ?_⟩, fun y c' e => ?_, I.free, I.freeC, fun p hp => ?_, tracked ⟨oc, hoc, I.freeC x c hc⟩ hs, by simpa using I.len⟩ ⟨c, hs, .inr hc⟩
  ·exact (hs.2 b (Nat.ne_of_lt (Nat.lt_of_lt_of_le (Heap.lt_size e) (I.ok.cab x c hfn hc)))).trans (I.base.keep b o e n hb hx)
  ·obtain ⟨sl, e1⟩ := I.base.slot b o e n hb hx
   exact ⟨sl, (hs.2 b (Nat.ne_of_lt (Nat.lt_of_lt_of_le (Heap.lt_size e) (I.ok.cab x c hfn hc)))).trans e1⟩
  ·obtain ⟨o', e1⟩ := I.base.there b o e hx
   exact ⟨o', (hs.2 b (Nat.ne_of_lt (Nat.lt_of_lt_of_le (Heap.lt_size e) (I.ok.cab x c hfn hc)))).trans e1⟩
  ·by_cases hj : j = i
   ·subst hj
    rw [hi] at e1; cases e1
    rw [List.getElem?_set_self hiσ] at e2
    cases e2
    exact ⟨u, r, .inr ⟨.inl hk, c, hc, hc'⟩⟩
   ·rw [List.getElem?_set_ne (Ne.symm hj)] at e2
    obtain ⟨u', r', q⟩ := hl j y v' e1 e2 e3
    refine ⟨u', r', ?_⟩
    rcases q with q | ⟨k, c', e, z'⟩
    ·exact .inl q
    ·refine .inr ⟨k, c', e, z'.sameBut hs ?_⟩
     rintro rfl
     exact hj (zpm hN e1 (I.ok.inj _ _ _ e hc ▸ hi))
  ·by_cases hcc : c' = c
   ·subst hcc; exact ⟨_, hc'⟩
   ·obtain ⟨w2, z2⟩ := I.cell y c' e
    exact ⟨w2, z2.sameBut hs hcc⟩
  ·obtain ⟨e, n, ne, nf, d⟩ := I.pin p hp
   refine ⟨(hs.2 p.1 ?_).trans e, n, ne, nf, d⟩
   intro q
   rw [q, hoc] at e
   have q' : oc = p.2 := Option.some.inj e
   exact d w' (by rw [<- q']; exact hocd)
theorem zog {M : Model} {A : Around} {E : Value -> Shared -> Prop} {i : Nat} {x : Str} {v : V} {u : Value} {Q : Unit -> Shared -> Prop} (I : Inv X pins σ H s) (hN : X.N.Nodup) (hi : X.N[i]? = some x) (hx : Loc X.env.scope x) (r : RelV v u)
  (h : ∀ s', Inv X pins (σ.set i (some v)) H s' -> Q () s') (hf : X.fn x = true \/ X.env.scope.names.lookup x = some .local := by first | exact .inl rfl | exact .inr rfl | assumption) : wpAny M A (storeName X.env x u) Q E s :=
 zlc I hN hi hx r (fun s' I' _ => h s' I') hf
theorem Inv.call' {s' : Shared} {ch : List Addr} (I : Inv X pins σ H s) (ho : s'.os = s.os) (u : Un (frs X.stack) ch H H' s.heap s'.heap) (hok : HOk X.prog X.w H' s'.heap) (hg : AllBare s'.gens)
  (hch : ∀ b ∈ ch, (b ∈ X.ex \/ X.s₀.heap.objs.size <= b) /\ b ≠ X.env.locals /\ (∀ x c, X.env.cells.lookup x = some c -> c ≠ b) /\ ∀ p ∈ X.pn ++ pins, p.1 ≠ b) : Inv X pins σ H' s' := by
 obtain ⟨h', g', d', t', o'⟩ := s'
 have e : o' = s.os := ho
 subst e
 exact I.call (g' := g') (t' := t') (d' := d') u hok hg hch
end
abbrev XK := Value -> Option Addr -> Hp -> Prop
abbrev St := List (Option V)
abbrev VK := V -> Hp -> Prop
abbrev TE := St -> Hp -> VK -> Prop
abbrev TT := St -> Hp -> (Bool -> Hp -> Prop) -> Prop
abbrev TA := St -> Hp -> (List V -> Hp -> Prop) -> Prop
structure Ends where
 nx : St -> Hp -> Prop
 rt : VK
 bk : St -> Hp -> Prop := fun _ _ => False
 ct : St -> Hp -> Prop := fun _ _ => False
abbrev TS := Ends -> St -> Hp -> Prop
def EP (X : Cx) (pins : List (Addr × Obj)) (σ : St) (Q : VK) (u : Value) (s' : Shared) : Prop := ∃ v H', Inv X pins σ H' s' /\ RelV v u /\ Q v H'
def TP (X : Cx) (pins : List (Addr × Obj)) (σ : St) (Q : Bool -> Hp -> Prop) (b : Bool) (s' : Shared) : Prop := ∃ H', Inv X pins σ H' s' /\ Q b H'
def AP (X : Cx) (pins : List (Addr × Obj)) (σ : St) (Q : List V -> Hp -> Prop) (us : List Value) (s' : Shared) : Prop := ∃ vs H', Inv X pins σ H' s' /\ Vals vs us /\ Q vs H'
def SP (X : Cx) (pins : List (Addr × Obj)) (D : Ends) (f : Flow) (s' : Shared) : Prop :=
 match f with
 | .next => ∃ σ' H', Inv X pins σ' H' s' /\ D.nx σ' H'
 | .brk => ∃ σ' H', Inv X pins σ' H' s' /\ D.bk σ' H'
 | .cont => ∃ σ' H', Inv X pins σ' H' s' /\ D.ct σ' H'
 | .ret u => ∃ v σ' H', Inv X pins σ' H' s' /\ RelV v u /\ D.rt v H'
def PE (X : Cx) (e : Expr) (t : TE) : Prop :=
 ∀ (pins : List (Addr × Obj)) (s : Shared) (σ : St) (H : Hp) (Q : VK), Inv X pins σ H s -> t σ H Q -> wpAny (model X.prog X.w) X.A (eval e X.env) (EP X pins σ Q) X.xe s
def PT (X : Cx) (e : Expr) (t : TT) : Prop :=
 ∀ (pins : List (Addr × Obj)) (s : Shared) (σ : St) (H : Hp) (Q : Bool -> Hp -> Prop), Inv X pins σ H s -> t σ H Q -> wpAny (model X.prog X.w) X.A (isTrue e X.env (eval e X.env)) (TP X pins σ Q) X.xe s
def PW (X : Cx) (e : Expr) (t : TT) : Prop :=
 ∀ (whole : Sem Value) (pins : List (Addr × Obj)) (s : Shared) (σ : St) (H : Hp) (Q : Bool -> Hp -> Prop), Inv X pins σ H s -> t σ H Q -> wpAny (model X.prog X.w) X.A (isTrue e X.env whole) (TP X pins σ Q) X.xe s
theorem PW.pt {X : Cx} {e : Expr} {t : TT} (h : PW X e t) : PT X e t := h _
def PA (X : Cx) (es : List Expr) (t : TA) : Prop :=
 ∀ (pos : Pos) (pins : List (Addr × Obj)) (s : Shared) (σ : St) (H : Hp) (Q : List V -> Hp -> Prop), Inv X pins σ H s -> t σ H Q -> wpAny (model X.prog X.w) X.A (spliced (backTo pos (starEach es X.env))) (AP X pins σ Q) X.xe s
def PS (X : Cx) (st : Stmt) (t : TS) : Prop :=
 ∀ (pins : List (Addr × Obj)) (s : Shared) (σ : St) (H : Hp) (D : Ends), Inv X pins σ H s -> t D σ H -> wpAny (model X.prog X.w) X.A (exec st X.env) (SP X pins D) X.xe s
def PSs (X : Cx) (st : List Stmt) (t : TS) : Prop :=
 ∀ (pins : List (Addr × Obj)) (s : Shared) (σ : St) (H : Hp) (D : Ends), Inv X pins σ H s -> t D σ H -> wpAny (model X.prog X.w) X.A (execs st X.env) (SP X pins D) X.xe s
theorem thn {α : Type} {t : Sem α} {Q Q' : α -> Shared -> Prop} {M : Model} {A : Around} {E : Value -> Shared -> Prop} {s : Shared} (h : wpAny M A t Q E s) (hQ : ∀ a s, Q a s -> Q' a s) : wpAny M A t Q' E s := wpAny_mono h hQ fun _ _ x => x
section
variable {X : Cx}
def tVar (i : Nat) : TE := fun σ H Q => ∃ v, σ[i]? = some (some v) /\ Q v H
def tC (v : V) : TE := fun _ H Q => Q v H
theorem zDx {i : Nat} {x : Str} {pos : Pos} (hN : X.N[i]? = some x) (hv : Vis X.env.scope x) (hd : (x == ("__debug__" : Str)) = false := by decide) (hcd : (x == ("__classdict__" : Str)) = false := by decide) : PE X (.Name x pos) (tVar i) := by
 intro pins s σ H Q I h
 obtain ⟨v, e, h⟩ := h
 obtain ⟨m, hn, hl⟩ := I.loc
 obtain ⟨u, r, l⟩ := hl i x v hN e hv
 have fin : EP X pins σ Q u s := ⟨v, H, I, r, h⟩
 rcases l with ⟨hk, hm⟩ | ⟨hk, c, hc, hcell⟩
 ·exact wpAny_Name (wpAny_loadName_local I.ok.kind hk hn hm fin) hd
 ·rcases hk with hk | hk
  ·exact wpAny_Name (wpAny_loadName_cell I.ok.kind hk hc hcell fin) hd
  ·exact wpAny_Name (wpAny_loadName_free I.ok.kind hk hc hcell fin hcd) hd
theorem zaf {i j pos} : PE X (.Constant (.int i) j pos) (tC (.int i)) := fun _ _ _ H _ I h => wpAny_Constant_int ⟨.int i, H, I.tok _, ⟨_, rfl⟩, h⟩
theorem pe_bl {b j pos} : PE X (.Constant (.bool b) j pos) (tC (.bl b)) := fun _ _ _ H _ I h => Constant_bool ⟨.bl b, H, I, rfl, h⟩
theorem zyy {j pos} : PE X (.Constant .none j pos) (tC .non) := fun _ _ _ H _ I h => Constant_none ⟨.non, H, I, rfl, h⟩
def Gl (X : Cx) (x : Str) : Prop := X.env.kindOf x = some .globalImplicit
theorem zuh {E : Value -> Shared -> Prop} {pins : List (Addr × Obj)} {s : Shared} {σ : St} {H : Hp} {x : Str} {u : Value} {pos : Pos} {Q : Value -> Shared -> Prop} (I : Inv X pins σ H s) (hg : Gl X x) (hm : X.mg x = some u) (h : Q u s)
  (hd : (x == ("__debug__" : Str)) = false := by decide) : wpAny (model X.prog X.w) X.A (eval (.Name x pos) X.env) Q E s :=
 Calls.Name_function_global I.ok.kind hg (Calls.loadGlobal_global (by rw [I.ok.glob]; exact I.mod.glob.keeps I.bk) hm h) hd
theorem zge {E : Value -> Shared -> Prop} {pins : List (Addr × Obj)} {s : Shared} {σ : St} {H : Hp} {x : Str} {u : Value} {pos : Pos} {Q : Value -> Shared -> Prop} (I : Inv X pins σ H s) (hg : Gl X x) (hm : X.mg x = none) (hv : bootBuiltins x = some u) (h : Q u s)
  (hn : x ≠ "__name__" := by decide) (hd : (x == ("__debug__" : Str)) = false := by decide) : wpAny (model X.prog X.w) X.A (eval (.Name x pos) X.env) Q E s := by
 obtain ⟨mb, h1, h2⟩ := I.mod.blt
 exact Calls.Name_function_global I.ok.kind hg (Calls.loadGlobal_builtin (by rw [I.ok.glob]; exact I.mod.glob.keeps I.bk) hm (by rw [I.ok.blt]; exact h1.keeps I.bk) ((h2 x hn).trans hv) h) hd
theorem zAy {x : Str} {v : V} {u : Value} {pos : Pos} (hg : Gl X x) (hm : X.mg x = some u) (r : RelV v u) (hd : (x == ("__debug__" : Str)) = false := by decide) : PE X (.Name x pos) (tC v) :=
 fun _ _ _ H _ I h => zuh I hg hm ⟨v, H, I, r, h⟩ hd
theorem zdg {x : Str} {v : V} {u : Value} {pos : Pos} (hg : Gl X x) (hm : X.mg x = none) (hv : bootBuiltins x = some u) (r : RelV v u) (hn : x ≠ "__name__" := by decide) (hd : (x == ("__debug__" : Str)) = false := by decide) : PE X (.Name x pos) (tC v) :=
 fun _ _ _ H _ I h => zge I hg hm hv ⟨v, H, I, r, h⟩ hn hd
variable {a b : Expr} {ta tb : TE} {pos : Pos}
def PC (X : Cx) (op : CmpOp) (a b : Expr) (t : TE) : Prop :=
 ∀ (pins : List (Addr × Obj)) (s : Shared) (σ : St) (H : Hp) (Q : VK), Inv X pins σ H s -> t σ H Q ->
  wpAny (model X.prog X.w) X.A (eval a X.env) (fun v s₁ => wpAny (model X.prog X.w) X.A (eval b X.env) (fun u s₂ => wpAny (model X.prog X.w) X.A (compareOp op v u) (EP X pins σ Q) X.xe s₂) X.xe s₁) X.xe s
theorem zpn (b : Expr) {op : CmpOp} (h : op ≠ .In) (h2 : op ≠ .NotIn) : behindInMarks op b = false := by
 have e1 : (op == CmpOp.In) = false := by cases op <;> first | rfl | exact absurd rfl h
 have e2 : (op == CmpOp.NotIn) = false := by cases op <;> first | rfl | exact absurd rfl h2
 cases b <;> simp [behindInMarks, e1, e2]
def tIsN (ta : TE) : TE := fun σ H Q => ta σ H fun x H1 => Q (.bl (decide (x = .non))) H1
def tNotN (ta : TE) : TE := fun σ H Q => ta σ H fun x H1 => Q (.bl (!decide (x = .non))) H1
theorem RelV.none_iff {x : V} {v : Value} (r : RelV x v) : (v == Value.none) = decide (x = .non) := by
 cases x with
 | non => cases r; rfl
 | bl _ => cases r; rfl
 | int _ => obtain ⟨t, rfl⟩ := r; rfl
 | str _ => obtain ⟨t, rfl⟩ := r; rfl
 | byt _ => obtain ⟨t, rfl⟩ := r; rfl
 | flt _ => obtain ⟨t, rfl⟩ := r; rfl
 | ref _ => cases r; rfl
 | ty _ => cases r; rfl
theorem zza {j pos'} (ha : PE X a ta) : PC X .Is a (.Constant .none j pos') (tIsN ta) := by
 intro pins s σ H Q I h
 refine thn (ha pins s σ H _ I h) fun v s1 ⟨x, H1, I1, r1, q1⟩ => ?_
 exact Constant_none (is_none_gen ⟨.bl _, H1, I1, by rw [r1.none_iff]; rfl, q1⟩)
theorem ztq {j pos'} (ha : PE X a ta) : PC X .IsNot a (.Constant .none j pos') (tNotN ta) := by
 intro pins s σ H Q I h
 refine thn (ha pins s σ H _ I h) fun v s1 ⟨x, H1, I1, r1, q1⟩ => ?_
 exact Constant_none (isnot_none_gen ⟨.bl _, H1, I1, by rw [r1.none_iff]; rfl, q1⟩)
def tB (t : TE) : TT := fun σ H Q => t σ H fun x H1 => ∃ c, x = .bl c /\ Q c H1
theorem zDy {op : CmpOp} {t : TE} (h : PC X op a b t) (h1 : behindInMarks op b = false := by first | exact zpn _ (by decide) (by decide) | rfl) : PE X (.Compare a [op] [b] pos) t := fun pins s σ H Q I hw => wpAny_Compare1 (h pins s σ H Q I hw) h1
theorem zoy {op : CmpOp} {t : TE} (h : PC X op a b t) (h1 : behindInMarks op b = false := by first | exact zpn _ (by decide) (by decide) | rfl) : PT X (.Compare a [op] [b] pos) (tB t) := by
 intro pins s σ H Q I hw
 refine wpAny_isTrue_Compare1 (thn (h pins s σ H _ I hw) fun v s1 h1 => thn h1 fun u s2 h2 => thn h2 fun c s3 ⟨x, H1, I1, r1, q1⟩ => ?_) h1
 obtain ⟨d, rfl, q⟩ := q1
 cases r1
 exact wpAny_truthy_bool ⟨H1, I1, q⟩
theorem zet {e : Expr} {t : TE} (h : PE X e t) (he : ∀ whole, isTrue e X.env whole = (do let v <- whole; standAt e.pos; holding [v] (truthy v)) := by intro _; rfl) : PT X e (tB t) := by
 intro pins s σ H Q I hw
 refine isTrue_plain (thn (h pins s σ H _ I hw) fun v s1 ⟨x, H1, I1, r1, q1⟩ => ?_) (he _)
 obtain ⟨d, rfl, q⟩ := q1
 cases r1
 exact wpAny_truthy_bool ⟨H1, I1, q⟩
variable {tA tB' : TT} {rest : List Expr}
def tAnd (t u : TT) : TT := fun σ H Q => t σ H fun c H1 => if c = true then u σ H1 Q else Q false H1
def tOr (t u : TT) : TT := fun σ H Q => t σ H fun c H1 => if c = true then Q true H1 else u σ H1 Q
def tNot (t : TT) : TT := fun σ H Q => t σ H fun c H1 => Q (!c) H1
theorem zAt (ha : PT X a tA) : PW X (.BoolOp .And [a] pos) tA := by
 intro wh pins s σ H Q I h
 refine isTrue_and (thn (ha pins s σ H Q I h) fun c s1 e => ?_)
 cases c with
 | true => exact isTrue_and_nil e
 | false => exact e
theorem zox (ha : PT X a tA) : PW X (.BoolOp .Or [a] pos) tA := by
 intro wh pins s σ H Q I h
 refine isTrue_or (thn (ha pins s σ H Q I h) fun c s1 e => ?_)
 cases c with
 | false => exact isTrue_or_nil e
 | true => exact e
theorem zDq (ha : PT X a tA) (hb : PW X (.BoolOp .And (b :: rest) pos) tB') : PW X (.BoolOp .And (a :: b :: rest) pos) (tAnd tA tB') := by
 intro wh pins s σ H Q I h
 refine isTrue_and (thn (ha pins s σ H _ I h) fun c s1 ⟨H1, I1, q1⟩ => ?_)
 cases c with
 | true => exact hb wh pins s1 σ H1 Q I1 q1
 | false => exact ⟨H1, I1, q1⟩
theorem pw_or (ha : PT X a tA) (hb : PW X (.BoolOp .Or (b :: rest) pos) tB') : PW X (.BoolOp .Or (a :: b :: rest) pos) (tOr tA tB') := by
 intro wh pins s σ H Q I h
 refine isTrue_or (thn (ha pins s σ H _ I h) fun c s1 ⟨H1, I1, q1⟩ => ?_)
 cases c with
 | true => exact ⟨H1, I1, q1⟩
 | false => exact hb wh pins s1 σ H1 Q I1 q1
theorem zfh (ha : PT X a tA) : PT X (.UnaryOp .Not a pos) (tNot tA) := by
 intro pins s σ H Q I h
 exact isTrue_not (ha pins s σ H (fun c H1 => Q (!c) H1) I h)
def tAndV (ta tb : TE) : TE := fun σ H Q => ta σ H fun x H1 => ∃ c, x = .bl c /\ if c = true then tb σ H1 Q else Q (.bl false) H1
def tOrV (ta tb : TE) : TE := fun σ H Q => ta σ H fun x H1 => ∃ c, x = .bl c /\ if c = true then Q (.bl true) H1 else tb σ H1 Q
def tNotV (ta : TE) : TE := fun σ H Q => ta σ H fun x H1 => ∃ c, x = .bl c /\ Q (.bl (!c)) H1
theorem zix {op} {t : TE} (h : PE X a t) : PE X (.BoolOp op [a] pos) t := fun pins s σ H Q I hw => BoolOp_one (h pins s σ H Q I hw)
theorem ziy (ha : PE X a ta) (hb : PE X (.BoolOp .And (b :: rest) pos) tb) : PE X (.BoolOp .And (a :: b :: rest) pos) (tAndV ta tb) := by
 intro pins s σ H Q I h
 refine BoolOp_and (thn (ha pins s σ H _ I h) fun v s1 ⟨x, H1, I1, r1, q1⟩ => ?_)
 obtain ⟨c, rfl, q1⟩ := q1
 cases r1
 refine wpAny_truthy_bool ?_
 cases c with
 | true => exact hb pins s1 σ H1 Q I1 q1
 | false => exact ⟨.bl false, H1, I1, rfl, q1⟩
theorem pe_or (ha : PE X a ta) (hb : PE X (.BoolOp .Or (b :: rest) pos) tb) : PE X (.BoolOp .Or (a :: b :: rest) pos) (tOrV ta tb) := by
 intro pins s σ H Q I h
 refine BoolOp_or (thn (ha pins s σ H _ I h) fun v s1 ⟨x, H1, I1, r1, q1⟩ => ?_)
 obtain ⟨c, rfl, q1⟩ := q1
 cases r1
 refine wpAny_truthy_bool ?_
 cases c with
 | false => exact hb pins s1 σ H1 Q I1 q1
 | true => exact ⟨.bl true, H1, I1, rfl, q1⟩
theorem ztp (ha : PE X a ta) : PE X (.UnaryOp .Not a pos) (tNotV ta) := by
 intro pins s σ H Q I h
 refine UnaryOp_ (thn (ha pins s σ H _ I h) fun v s1 ⟨x, H1, I1, r1, q1⟩ => ?_)
 obtain ⟨c, rfl, q1⟩ := q1
 cases r1
 exact not_of (wpAny_truthy_bool ⟨.bl (!c), H1, I1, rfl, q1⟩)
def tIf (t : TT) (ta tb : TE) : TE := fun σ H Q => t σ H fun c H1 => if c = true then ta σ H1 Q else tb σ H1 Q
theorem zgu {c : Expr} (hc : PT X c tA) (ha : PE X a ta) (hb : PE X b tb) : PE X (.IfExp c a b pos) (tIf tA ta tb) := by
 intro pins s σ H Q I h
 refine wpAny_IfExp (thn (hc pins s σ H _ I h) fun d s1 ⟨H1, I1, q1⟩ => ?_)
 cases d with
 | true => exact ha pins s1 σ H1 Q I1 q1
 | false => exact hb pins s1 σ H1 Q I1 q1
end
def SqL (K : PySem.W.Frag) (H : Hp) (a : Addr) (xs : List V) : Prop :=
 Rd H a (.lst xs) \/
  ∃ (o : Obj) (its : Array Value) (n : Nat), K.lookup a = some o /\ o.cls = .type "list" /\ o.dict = none /\ o.data = .seq its n /\ its.size <= sizeLine /\ Vals xs its.toList
def SqT (K : PySem.W.Frag) (H : Hp) (a : Addr) (xs : List V) : Prop :=
 Rd H a (.tup xs) \/
  ∃ (o : Obj) (its : Array Value) (n : Nat), K.lookup a = some o /\ o.cls = .type "tuple" /\ o.data = .seq its n /\ its.size <= sizeLine /\ Vals xs its.toList
def absV : Value -> Option V
 | .none => some .non
 | .bool b => some (.bl b)
 | .int i _ => some (.int i)
 | .str x _ => some (.str x)
 | .bytes b _ => some (.byt b)
 | .float b _ => some (.flt b)
 | .ref a => some (.ref a)
 | .type n => some (.ty n)
 | _ => none
theorem RelV.abs {x : V} {u : Value} (r : RelV x u) : absV u = some x := by
 cases x with
 | non => cases r; rfl
 | bl _ => cases r; rfl
 | int _ => obtain ⟨t, rfl⟩ := r; rfl
 | str _ => obtain ⟨t, rfl⟩ := r; rfl
 | byt _ => obtain ⟨t, rfl⟩ := r; rfl
 | flt _ => obtain ⟨t, rfl⟩ := r; rfl
 | ref _ => cases r; rfl
 | ty _ => cases r; rfl
theorem RelV.inj {x y : V} {u : Value} (r : RelV x u) (q : RelV y u) : x = y := Option.some.inj (r.abs.symm.trans q.abs)
theorem Vals.inj : ∀ {xs ys : List V} {us : List Value}, Vals xs us -> Vals ys us -> xs = ys
 | _, _, _, .nil, .nil => rfl
 | _, _, _, .cons r t, .cons r' t' => by rw [r.inj r', Vals.inj t t']
section
variable {X : Cx} {pins : List (Addr × Obj)} {σ : St} {H : Hp} {s : Shared} {a : Addr} {xs ys : List V}
theorem SqL.of {K : PySem.W.Frag} (h : H a = some (.lst xs)) : SqL K H a xs := .inl (.inl h)
theorem SqT.of {K : PySem.W.Frag} (h : H a = some (.tup xs)) : SqT K H a xs := .inl (.inl h)
theorem Inv.list (I : Inv X pins σ H s) (h : SqL X.K H a xs) : ∃ its : List Value, Vals xs its /\ PlainL s.heap a its.toArray /\ xs.length <= sizeLine := by
 rcases h with h | ⟨o, its, n, hk, hc, hd, hs, hz, r⟩
 ·obtain ⟨z, its, n, r, e⟩ := h.ok I.hok
  exact ⟨its, r, ⟨_, n, e, rfl, rfl, rfl⟩, z⟩
 ·refine ⟨its.toList, r, ⟨o, n, I.kIn a o hk, hc, hd, by simpa using hs⟩, ?_⟩
  have e := r.length
  simp only [Array.length_toList] at e
  lia
theorem Inv.tuple (I : Inv X pins σ H s) (h : SqT X.K H a xs) : ∃ its : List Value, Vals xs its /\ IsTup s.heap a its.toArray /\ xs.length <= sizeLine := by
 rcases h with h | ⟨o, its, n, hk, hc, hs, hz, r⟩
 ·obtain ⟨z, its, r, p⟩ := h.ok I.hok
  exact ⟨its, r, p, z⟩
 ·refine ⟨its.toList, r, ⟨o, I.kIn a o hk, hc, n, by simpa using hs⟩, ?_⟩
  have e := r.length
  simp only [Array.length_toList] at e
  lia
theorem Inv.list_inj (I : Inv X pins σ H s) (h : SqL X.K H a xs) (h' : SqL X.K H a ys) : xs = ys := by
 obtain ⟨its, r, ⟨o, n, e, _, _, d⟩, _⟩ := I.list h
 obtain ⟨its', r', ⟨o', n', e', _, _, d'⟩, _⟩ := I.list h'
 rw [e] at e'; cases e'
 rw [d] at d'
 injection d' with d1 _
 have : its = its' := by simpa using congrArg Array.toList d1
 subst this
 exact r.inj r'
theorem Inv.tuple_inj (I : Inv X pins σ H s) (h : SqT X.K H a xs) (h' : SqT X.K H a ys) : xs = ys := by
 obtain ⟨its, r, ⟨o, e, _, n, d⟩, _⟩ := I.tuple h
 obtain ⟨its', r', ⟨o', e', _, n', d'⟩, _⟩ := I.tuple h'
 rw [e] at e'; cases e'
 rw [d] at d'
 injection d' with d1 _
 have : its = its' := by simpa using congrArg Array.toList d1
 subst this
 exact r.inj r'
end
abbrev Cx.wish (X : Cx) (E : Value -> Shared -> Prop) : Cx := { X with xe := E }
abbrev Cx.nox (X : Cx) : Cx := X.wish fun _ _ => False
theorem Cx.Ok.wish {X : Cx} (ok : X.Ok) (E : Value -> Shared -> Prop) : (X.wish E).Ok :=
 ⟨ok.mod, ok.kind, ok.glob, ok.blt, ok.above, ok.inj, ok.has, ok.cab, ok.hd, ok.frames, ok.stk, ok.exf, ok.bs, ok.bsz, ok.noex, ok.exfs, ok.funs, ok.frf⟩
theorem Cx.Ok.unwish {X : Cx} {E : Value -> Shared -> Prop} (ok : (X.wish E).Ok) : X.Ok :=
 ⟨ok.mod, ok.kind, ok.glob, ok.blt, ok.above, ok.inj, ok.has, ok.cab, ok.hd, ok.frames, ok.stk, ok.exf, ok.bs, ok.bsz, ok.noex, ok.exfs, ok.funs, ok.frf⟩
section
variable {X : Cx} {pins : List (Addr × Obj)} {σ : St} {H : Hp} {s : Shared} {E : Value -> Shared -> Prop}
theorem Inv.wish (I : Inv X pins σ H s) (E : Value -> Shared -> Prop) : Inv (X.wish E) pins σ H s := ⟨I.ok.wish E, I.os, I.bare, I.base, I.loc, I.cell, I.free, I.freeC, I.pin, I.hok, I.len⟩
theorem Inv.unwish (I : Inv (X.wish E) pins σ H s) : Inv X pins σ H s := ⟨I.ok.unwish, I.os, I.bare, I.base, I.loc, I.cell, I.free, I.freeC, I.pin, I.hok, I.len⟩
theorem SP.unwish {D : Ends} {f : Flow} {s' : Shared} (h : SP (X.wish E) pins D f s') : SP X pins D f s' := by
 cases f with
 | next => obtain ⟨σ', H', I, q⟩ := h; exact ⟨σ', H', I.unwish, q⟩
 | brk => obtain ⟨σ', H', I, q⟩ := h; exact ⟨σ', H', I.unwish, q⟩
 | cont => obtain ⟨σ', H', I, q⟩ := h; exact ⟨σ', H', I.unwish, q⟩
 | ret u => obtain ⟨v, σ', H', I, r, q⟩ := h; exact ⟨v, σ', H', I.unwish, r, q⟩
theorem PSs.nox {st : List Stmt} {t : TS} (h : PSs X.nox st t) : PSs X st t := fun pins s σ H D I hw =>
 wpAny_mono (h pins s σ H D (I.wish _) hw) (fun _ _ q => q.unwish) fun _ _ z => False.elim z
end
section
variable {X : Cx} {st : Stmt} {rest : List Stmt} {t u : TS} {e : Expr} {te : TE} {pos : Pos}
def tNext : TS := fun D σ H => D.nx σ H
def tSeq (t u : TS) : TS := fun D σ H => t { D with nx := u D } σ H
theorem zbz : PSs X [] tNext := fun _ _ σ H _ I h => wpAny_execs_nil ⟨σ, H, I, h⟩
theorem zae (h1 : PS X st t) (h2 : PSs X rest u) : PSs X (st :: rest) (tSeq t u) := by
 intro pins s σ H D I h
 refine wpAny_execs_cons (thn (h1 pins s σ H { D with nx := u D } I h) fun f s1 q => ?_)
 cases f with
 | next =>
  obtain ⟨σ', H', I', q⟩ := q
  exact h2 pins s1 σ' H' D I' q
 | ret v => exact q
 | brk => exact q
 | cont => exact q
theorem zag (h1 : PS X st t) : PSs X [st] t := by
 intro pins s σ H D I h
 refine wpAny_execs_cons (thn (h1 pins s σ H D I h) fun f s1 q => ?_)
 cases f with
 | next => exact wpAny_execs_nil q
 | ret v => exact q
 | brk => exact q
 | cont => exact q
theorem Inv.quiet {pins : List (Addr × Obj)} {σ : St} {H : Hp} {s : Shared} (I : Inv X pins σ H s) : interactive X.env = false := by simp [interactive, I.ok.kind]
def tDrop (te : TE) : TS := fun D σ H => te σ H fun _ H1 => D.nx σ H1
theorem zcx (he : PE X e te) (hs : swapsWith e none pos.line X.env = pure false := by rfl) : PS X (.Expr e pos) (tDrop te) := by
 intro pins s σ H D I h
 exact wpAny_Expr_any (thn (he pins s σ H _ I h) fun v s1 ⟨x, H1, I1, r1, q1⟩ => ⟨σ, H1, I1, q1⟩) I.quiet hs
def tRet (te : TE) : TS := fun D σ H => te σ H D.rt
theorem zaw (he : PE X e te) : PS X (.Return (some e) pos) (tRet te) := by
 intro pins s σ H D I h
 exact wpAny_Return_some (thn (he pins s σ H _ I h) fun v s1 ⟨x, H1, I1, r1, q1⟩ => ⟨x, σ, H1, I1, r1, q1⟩)
def tIfS (c : TT) (t u : TS) : TS := fun D σ H => c σ H fun b H1 => if b = true then t D σ H1 else u D σ H1
theorem ps_if {c : Expr} {a b : List Stmt} {tc : TT} (hc : PT X c tc) (ha : PSs X a t) (hb : PSs X b u) : PS X (.If c a b pos) (tIfS tc t u) := by
 intro pins s σ H D I h
 refine wpAny_If (thn (hc pins s σ H _ I h) fun d s1 ⟨H1, I1, q1⟩ => ?_)
 cases d with
 | true => exact ha pins s1 σ H1 D I1 q1
 | false => exact hb pins s1 σ H1 D I1 q1
def zDb : TS := fun _ _ _ => False
theorem zlj {sts : List Stmt} : PSs X sts zDb := fun _ _ _ _ _ _ h => h.elim
end
abbrev TG := V -> St -> Hp -> (St -> Hp -> Prop) -> Prop
abbrev TGs := List V -> St -> Hp -> (St -> Hp -> Prop) -> Prop
def PG (X : Cx) (target : Expr) (t : TG) : Prop :=
 ∀ (pins : List (Addr × Obj)) (s : Shared) (σ : St) (H : Hp) (v : V) (u : Value) (Q : St -> Hp -> Prop), Inv X pins σ H s -> RelV v u -> t v σ H Q ->
  wpAny (model X.prog X.w) X.A (assign target X.env u) (fun _ s' => ∃ σ' H', Inv X pins σ' H' s' /\ Q σ' H') X.xe s
def PGs (X : Cx) (ts : List Expr) (t : TGs) : Prop :=
 ∀ (pins : List (Addr × Obj)) (s : Shared) (σ : St) (H : Hp) (vs : List V) (us : List Value) (Q : St -> Hp -> Prop), Inv X pins σ H s -> Vals vs us -> t vs σ H Q ->
  wpAny (model X.prog X.w) X.A (assignInOrder ((assignEach ts X.env).map (·.2)) us) (fun _ s' => ∃ σ' H', Inv X pins σ' H' s' /\ Q σ' H') X.xe s
abbrev TSet := V -> V -> V -> Hp -> (Hp -> Prop) -> Prop
def PSet (X : Cx) (t : TSet) : Prop :=
 ∀ (pins : List (Addr × Obj)) (s : Shared) (σ : St) (H : Hp) (o i v : V) (ov iv u : Value) (Q : Hp -> Prop), Inv X pins σ H s -> RelV o ov -> RelV i iv -> RelV v u -> t o i v H Q ->
  wpAny (model X.prog X.w) X.A (setItem ov iv u) (fun _ s' => ∃ H', Inv X pins σ H' s' /\ Q H') X.xe s
section
variable {X : Cx} {pos : Pos}
def gName (i : Nat) : TG := fun v σ H Q => Q (σ.set i (some v)) H
theorem zak {i : Nat} {x : Str} (hN : X.N.Nodup) (hi : X.N[i]? = some x) (hx : Loc X.env.scope x) (hf : X.fn x = true \/ X.env.scope.names.lookup x = some .local := by first | exact .inl rfl | exact .inr rfl | assumption) : PG X (.Name x pos) (gName i) := by
 intro pins s σ H v u Q I r h
 exact wpAny_assign_Name (zog I hN hi hx r (fun s' I' => ⟨_, H, I', h⟩) hf)
def gNil : TGs := fun vs σ H Q => vs = [] /\ Q σ H
def gCons (t : TG) (u : TGs) : TGs := fun vs σ H Q => ∃ v r, vs = v :: r /\ t v σ H fun σ' H' => u r σ' H' Q
theorem zcc : PGs X [] gNil := by
 intro pins s σ H vs us Q I r h
 obtain ⟨e, h⟩ := h
 subst e
 cases r
 exact assignInOrder_nil ⟨σ, H, I, h⟩
theorem zaq {e : Expr} {es : List Expr} {t : TG} {u : TGs} (h1 : PG X e t) (h2 : PGs X es u)
  (hs : (assignEach (e :: es) X.env).map (·.2) = assign e X.env :: (assignEach es X.env).map (·.2) := by rfl) : PGs X (e :: es) (gCons t u) := by
 intro pins s σ H vs us Q I r h
 obtain ⟨v, vr, e1, h⟩ := h
 subst e1
 cases r with
 | cons r rr =>
  rw [hs]
  refine assignInOrder_cons (thn (h1 pins s σ H _ _ _ I r h) fun _ s1 ⟨σ1, H1, I1, q1⟩ => ?_)
  exact h2 pins s1 σ1 H1 _ _ Q I1 rr q1
def gTup (K : PySem.W.Frag) (n : Nat) (t : TGs) : TG := fun v σ H Q => ∃ a xs, v = .ref a /\ SqT K H a xs /\ xs.length = n /\ t xs σ H Q
theorem zDw {es : List Expr} {k : Nat} {t : TGs} {n : Nat} (hc : X.calm = true) (h : PGs X es t)
  (hn : (assignEach es X.env).length = n := by rfl) (hst : (assignEach es X.env).findIdx? (·.1) = none := by rfl) : PG X (.Tuple es k pos) (gTup X.K n t) := by
 intro pins s σ H v u Q I r hw
 obtain ⟨a, xs, e1, hq, hl, hw⟩ := hw
 subst e1
 cases r
 obtain ⟨its, rv, ht, hz⟩ := I.tuple hq
 refine assign_Tuple_tuple (I.ok.hd hc) ht (by simp [hn, <- hl, rv.length]) hst fun h' hx => ?_
 have I1 : Inv X pins σ H { s with heap := h' } := I.kept (t' := s.toks) fun b o e => hx b o (Nat.ne_of_lt (Heap.lt_size e)) e
 exact h pins _ σ H xs _ Q I1 (by simpa using rv) hw
def gSub (to ti : TE) (t : TSet) : TG := fun v σ H Q => to σ H fun o H1 => ti σ H1 fun i H2 => t o i v H2 fun H3 => Q σ H3
theorem zto {o i : Expr} {to ti : TE} {t : TSet} (ho : PE X o to) (hi : PE X i ti) (hs : PSet X t)
  (ha : ∀ v, assign (.Subscript o i pos) X.env v = (do
   let ov <- holding [v] (eval o X.env)
   let iv <- holding [v, ov] (eval i X.env)
   standAt pos
   holding [v, ov, iv] (setItem ov iv v)
   release [v, ov, iv] []) := by intro _; rfl) : PG X (.Subscript o i pos) (gSub to ti t) := by
 intro pins s σ H v u Q I r h
 rw [ha]
 refine wpAny_bind (wpAny_holding (thn (ho pins s σ H _ I h) fun ov s1 ⟨x, H1, I1, r1, q1⟩ => ?_))
 refine wpAny_bind (wpAny_holding (thn (hi pins s1 σ H1 _ I1 q1) fun iv s2 ⟨y, H2, I2, r2, q2⟩ => ?_))
 refine wpAny_bind (wpAny_standAt (wpAny_bind (wpAny_holding (thn (hs pins s2 σ H2 x y v ov iv u _ I2 r1 r2 r q2) fun _ s3 ⟨H3, I3, q3⟩ => ?_))))
 exact wpAny_release ⟨σ, H3, I3, q3⟩
def tAsg (te : TE) (g : TG) : TS := fun D σ H => te σ H fun x H1 => g x σ H1 D.nx
theorem zpa {tg e : Expr} {te : TE} {g : TG} (he : PE X e te) (hg : PG X tg g) (hs : swapsWithSole [tg] e pos.line X.env = pure false := by rfl) (hw : swappedStores [tg] e X.env = pure none := by rfl)
  (h1 : (assignEach [tg] X.env).map (·.2) = [assign tg X.env] := by rfl) : PS X (.Assign [tg] e pos) (tAsg te g) := by
 intro pins s σ H D I h
 refine wpAny_Assign_stores (thn (he pins s σ H _ I h) fun v s1 ⟨x, H1, I1, r1, q1⟩ => ?_) hs hw
 rw [h1]
 exact thn (hg pins s1 σ H1 x v _ I1 r1 q1) fun _ s2 q => q
theorem zap {i : Nat} {x : Str} {e : Expr} {te : TE} {pos' : Pos} (hN : X.N.Nodup) (hi : X.N[i]? = some x) (hx : Loc X.env.scope x) (he : PE X e te) (hs : swapsWith e (some (.Name x pos')) pos.line X.env = pure false := by rfl) (hf : X.fn x = true \/ X.env.scope.names.lookup x = some .local := by first | exact .inl rfl | exact .inr rfl | assumption) :
  PS X (.Assign [.Name x pos'] e pos) (tAsg te (gName i)) := by
 intro pins s σ H D I h
 refine wpAny_Assign_Name (thn (he pins s σ H _ I h) fun v s1 ⟨y, H1, I1, r1, q1⟩ => ?_) hs
 exact zog I1 hN hi hx r1 (fun s2 I2 => ⟨_, H1, I2, q1⟩) hf
def zDa (c : TT) (tb : TS) : TS := fun D σ H => ∃ W : Nat -> St -> Hp -> Prop, (∃ m, W m σ H) /\ ∀ m σ H, W m σ H ->
 c σ H fun b H1 => if b = true then ∃ N : St -> Hp -> Prop, (∀ σ' H', N σ' H' -> ∃ m', m' < m /\ W m' σ' H') /\ tb { D with nx := N, ct := N, bk := D.nx } σ H1 else D.nx σ H1
theorem zoz {c : Expr} {body : List Stmt} {tc : TT} {tb : TS} (hp : PassesOwn (model X.prog X.w) X.A X.env X.xe) (hc : PT X c tc) (hb : PSs X body tb) : PS X (.While c body [] pos) (zDa tc tb) := by
 intro pins s σ H D I h
 obtain ⟨W, ⟨m0, w0⟩, turn⟩ := h
 refine wpAny_While (codeAny_whileLoop (fun n s' => ∃ σ' H', Inv X pins σ' H' s' /\ W n σ' H') ?_ m0 ⟨σ, H, I, w0⟩)
 rintro n s1 ⟨σ1, H1, I1, w1⟩
 refine wpAny_passesOwn hp (thn (hc pins s1 σ1 H1 _ I1 (turn n σ1 H1 w1)) fun b s2 ⟨H2, I2, q2⟩ => ?_)
 cases b with
 | true =>
  obtain ⟨N, hN, q2⟩ := q2
  rw [if_pos rfl]
  refine wpAny_passesOwn hp (thn (hb pins s2 σ1 H2 _ I2 q2) fun f s3 q3 => ?_)
  cases f with
  | next =>
   obtain ⟨σ3, H3, I3, n3⟩ := q3
   obtain ⟨m', hm, w3⟩ := hN σ3 H3 n3
   exact ⟨m', hm, σ3, H3, I3, w3⟩
  | cont =>
   obtain ⟨σ3, H3, I3, n3⟩ := q3
   obtain ⟨m', hm, w3⟩ := hN σ3 H3 n3
   exact ⟨m', hm, σ3, H3, I3, w3⟩
  | brk => exact q3
  | ret v => exact q3
 | false =>
  rw [if_neg Bool.false_ne_true]
  exact wpAny_execs_nil ⟨σ1, H2, I2, q2⟩
end
structure It where
 go : Nat -> Hp -> Prop
 yld : Nat -> Hp -> V -> Hp -> Prop
 stop : Nat -> Hp -> Prop
def FpOk (X : Cx) (pins : List (Addr × Obj)) (H : Hp) (b : Addr) : Prop :=
 H b = none /\ b ≠ X.env.locals /\ b ∉ X.fs /\ (b ∈ X.ex \/ X.s₀.heap.objs.size <= b) /\ (∀ x c, X.env.cells.lookup x = some c -> c ≠ b) /\ ∀ p ∈ X.pn ++ pins, p.1 ≠ b
theorem Inv.fpOk {X : Cx} {pins : List (Addr × Obj)} {σ : St} {H H' : Hp} {s : Shared} {b : Addr} (I : Inv X pins σ H s) (hb : s.heap.objs.size <= b) (hn : H' b = none) : FpOk X pins H' b := by
 refine ⟨hn, Nat.ne_of_gt (Nat.lt_of_lt_of_le I.lt hb), I.nofs hb, .inr (Nat.le_trans I.sz hb), fun x c e z => ?_, fun p hp z => ?_⟩
 ·obtain ⟨v, q⟩ := I.cell x c e
  exact absurd (Nat.lt_of_lt_of_le q.lt (by rw [z]; exact hb)) (Nat.lt_irrefl _)
 ·exact absurd (Nat.lt_of_lt_of_le (Heap.lt_size (I.pin p hp).1) (by rw [z]; exact hb)) (Nat.lt_irrefl _)
structure Turn (P : Program) (w : World) (K : PySem.W.Frag) (tg : Expr) (J : It) (fp : List Addr) (it : Addr) (tn : Nat -> Heap -> Prop) : Prop where
 mem : it ∈ fp
 obj : ∀ i h, tn i h -> ∀ b ∈ fp, ∃ o, h.get? b = some o /\ ∀ v, o.data ≠ .cell v
 keep : ∀ i h h', tn i h -> (∀ b ∈ fp, ∀ o, h.get? b = some o -> h'.get? b = some o) -> tn i h'
 item : ∀ (X : Cx), X.prog = P -> X.w = w -> X.K = K -> X.calm = true -> ∀ (i : Nat) (pins : List (Addr × Obj)) (s : Shared) (σ : St) (H : Hp) (E : Value -> Shared -> Prop), Inv X pins σ H s -> (∀ b ∈ fp, FpOk X pins H b) -> tn i s.heap -> J.go i H ->
  wpAny (model P w) X.A (pyNext (.ref it)) (fun r s1 => ∃ u, r = some u /\
   wpAny (model P w) X.A (letOwnedTupleGo tg (.ref it) u) (fun _ s2 => ∃ x H', Inv X pins σ H' s2 /\ RelV x u /\ J.yld i H x H' /\ tn (i + 1) s2.heap /\ ∀ b ∈ fp, H' b = none) E s1) E s
 done : ∀ (X : Cx), X.prog = P -> X.w = w -> X.K = K -> X.calm = true -> ∀ (i : Nat) (pins : List (Addr × Obj)) (s : Shared) (σ : St) (H : Hp) (E : Value -> Shared -> Prop), Inv X pins σ H s -> (∀ b ∈ fp, FpOk X pins H b) -> tn i s.heap -> J.stop i H ->
  wpAny (model P w) X.A (pyNext (.ref it)) (fun r s1 => r = none /\ Inv X pins σ H s1) E s
 self : ∀ (A : Around) (i : Nat) (s : Shared) (Q : Value -> Shared -> Prop) (E : Value -> Shared -> Prop), tn i s.heap -> Q (.ref it) s -> wpAny (model P w) A (pyIter (.ref it)) Q E s
abbrev TI := St -> Hp -> (It -> Hp -> Prop) -> Prop
def PIE (X : Cx) (pins : List (Addr × Obj)) (σ : St) (tg : Expr) (R : It -> Hp -> Prop) (itv : Value) (s2 : Shared) : Prop :=
 ∃ (it : Addr) (fp : List Addr) (tn : Nat -> Heap -> Prop) (J : It) (H' : Hp), itv = .ref it /\ Inv X pins σ H' s2 /\ Turn X.prog X.w X.K tg J fp it tn /\ tn 0 s2.heap /\ (∀ b ∈ fp, FpOk X pins H' b) /\ R J H'
def PI (X : Cx) (tg iter : Expr) (wi : TI) : Prop :=
 ∀ (pins : List (Addr × Obj)) (s : Shared) (σ : St) (H : Hp) (R : It -> Hp -> Prop), Inv X pins σ H s -> wi σ H R ->
  wpAny (model X.prog X.w) X.A (eval iter X.env) (fun v s1 => wpAny (model X.prog X.w) X.A (pyIter v) (PIE X pins σ tg R) X.xe s1) X.xe s
theorem go_of {M : Model} {A : Around} {E : Value -> Shared -> Prop} {s : Shared} {tg : Expr} {it : Addr} {u : Value} {o : Obj} {n : String} {vs : Array Value} {Q : Unit -> Shared -> Prop} (ho : s.heap.get? it = some o) (hc : o.cls = .type n) (hd : o.data = .fields vs)
  (hn : ["enumerate", "zip", "dict_itemiterator", "dict_reverseitemiterator", "odict_iterator", "itertools.zip_longest", "itertools.pairwise"].contains n = false) (hQ : Q () s) : wpAny M A (letOwnedTupleGo tg (.ref it) u) Q E s := by
 unfold letOwnedTupleGo
 cases tg <;> first
  | exact wpAny_pure hQ
  | (cases u <;> first
    | exact wpAny_pure hQ
    | (refine wpAny_bind (wpAny_load ho ?_)
       rw [hc, hd]
       show wpAny M A (if (["enumerate", "zip", "dict_itemiterator", "dict_reverseitemiterator", "odict_iterator", "itertools.zip_longest", "itertools.pairwise"].contains n && vs[0]? == some (rawInt _)) = true then _ else _) Q E s
       rw [if_neg (by intro h; rw [hn, Bool.false_and] at h; cases h)]
       exact wpAny_pure hQ))
def Itl (K : PySem.W.Frag) (a : Addr) : It :=
 ⟨fun i H => ∃ xs x, SqL K H a xs /\ xs[i]? = some x, fun i H x H' => H' = H /\ ∀ xs, SqL K H a xs -> xs[i]? = some x, fun i H => ∃ xs, SqL K H a xs /\ xs.length <= i⟩
def Itt (K : PySem.W.Frag) (a : Addr) : It :=
 ⟨fun i H => ∃ xs x, SqT K H a xs /\ xs[i]? = some x, fun i H x H' => H' = H /\ ∀ xs, SqT K H a xs -> xs[i]? = some x, fun i H => ∃ xs, SqT K H a xs /\ xs.length <= i⟩
def Itr (lo : Int) (n : Nat) : It := ⟨fun i _ => i < n, fun i H x H' => H' = H /\ x = .int (lo + i), fun i _ => n <= i⟩
theorem zro {P : Program} {w : World} {K : PySem.W.Frag} {tg : Expr} (a it : Addr) : Turn P w K tg (Itl K a) [it] it (fun i h => h.IsListIter it a i) where
 mem := by simp
 obj := fun i h st b hb => by
  have e : b = it := by simpa using hb
  subst e
  obtain ⟨o, e, c, d⟩ := st
  exact ⟨o, e, fun v z => by rw [d] at z; cases z⟩
 keep := fun i h h' st k => st.at fun o e => k it (by simp) o e
 item := by
  intro X hP hw hK hc i pins s σ H E I hf st hg
  subst hP hw hK
  obtain ⟨xs, x, hq, hx⟩ := hg
  obtain ⟨its, rv, p, hz⟩ := I.list hq
  obtain ⟨u, hu, ru⟩ := rv.get hx
  obtain ⟨f0, f1, f2, f3, f4, f5⟩ := hf it (by simp)
  refine wpAny_pyNext_list_item st p.isList (x := u) (by simpa using hu) fun h' st' sb => ?_
  have I1 : Inv X pins σ H { s with heap := h' } := I.turned (t' := s.toks) (fun b o hb e => (sb.2 b hb).trans e) f0 f1 f3 f4 f5
  obtain ⟨o, e, c, d⟩ := id st'
  exact ⟨u, rfl, go_of (s := { s with heap := h' }) e c d (by decide) ⟨x, H, I1, ru, ⟨rfl, fun ys hy => by rw [I.list_inj hy hq]; exact hx⟩, st', fun b hb => (hf b hb).1⟩⟩
 done := by
  intro X hP hw hK hc i pins s σ H E I hf st hg
  subst hP hw hK
  obtain ⟨xs, hq, hx⟩ := hg
  obtain ⟨its, rv, p, hz⟩ := I.list hq
  obtain ⟨f0, f1, f2, f3, f4, f5⟩ := hf it (by simp)
  have hl := rv.length
  exact wpAny_pyNext_list_end (I.ok.hd hc) st p.isList (by simp; lia) fun h' eb => ⟨rfl, I.turned (t' := s.toks) (fun b o hb e => eb b o hb e) f0 f1 f3 f4 f5⟩
 self := fun _ _ _ _ _ st h => wpAny_pyIter_listiter st h
theorem zqr {P : Program} {w : World} {K : PySem.W.Frag} {tg : Expr} (a it : Addr) : Turn P w K tg (Itt K a) [it] it (fun i h => h.IsTupleIter it a i) where
 mem := by simp
 obj := fun i h st b hb => by
  have e : b = it := by simpa using hb
  subst e
  obtain ⟨o, e, c, d⟩ := st
  exact ⟨o, e, fun v z => by rw [d] at z; cases z⟩
 keep := fun i h h' st k => st.at fun o e => k it (by simp) o e
 item := by
  intro X hP hw hK hc i pins s σ H E I hf st hg
  subst hP hw hK
  obtain ⟨xs, x, hq, hx⟩ := hg
  obtain ⟨its, rv, p, hz⟩ := I.tuple hq
  obtain ⟨u, hu, ru⟩ := rv.get hx
  obtain ⟨f0, f1, f2, f3, f4, f5⟩ := hf it (by simp)
  refine wpAny_pyNext_tuple_item st (show s.heap.IsTuple a its.toArray from p) (x := u) (by simpa using hu) fun h' st' sb => ?_
  have I1 : Inv X pins σ H { s with heap := h' } := I.turned (t' := s.toks) (fun b o hb e => (sb.2 b hb).trans e) f0 f1 f3 f4 f5
  obtain ⟨o, e, c, d⟩ := id st'
  exact ⟨u, rfl, go_of (s := { s with heap := h' }) e c d (by decide) ⟨x, H, I1, ru, ⟨rfl, fun ys hy => by rw [I.tuple_inj hy hq]; exact hx⟩, st', fun b hb => (hf b hb).1⟩⟩
 done := by
  intro X hP hw hK hc i pins s σ H E I hf st hg
  subst hP hw hK
  obtain ⟨xs, hq, hx⟩ := hg
  obtain ⟨its, rv, p, hz⟩ := I.tuple hq
  obtain ⟨f0, f1, f2, f3, f4, f5⟩ := hf it (by simp)
  have hl := rv.length
  exact wpAny_pyNext_tuple_end (I.ok.hd hc) st (show s.heap.IsTuple a its.toArray from p) (by simp; lia) fun h' eb => ⟨rfl, I.turned (t' := s.toks) (fun b o hb e => eb b o hb e) f0 f1 f3 f4 f5⟩
 self := fun _ _ _ _ _ st h => wpAny_pyIter_tupleiter st h
theorem zqs {P : Program} {w : World} {K : PySem.W.Frag} {tg : Expr} (it : Addr) (lo : Int) (n : Nat) : Turn P w K tg (Itr lo n) [it] it (fun i h => IsRangeIter h it (lo + (i : Nat) * 1) ((n : Int) - (i : Nat)) 1) where
 mem := by simp
 obj := fun i h st b hb => by
  have e : b = it := by simpa using hb
  subst e
  exact ⟨_, st, fun v z => by
   have z' : Data.fields _ = Data.cell v := z
   cases z'⟩
 keep := fun i h h' st k => k it (by simp) _ st
 item := by
  intro X hP hw hK hc i pins s σ H E I hf st hg
  subst hP hw hK
  obtain ⟨f0, f1, f2, f3, f4, f5⟩ := hf it (by simp)
  have W := Walks.range (prog := X.prog) (w := X.w) (I.ok.hd hc) it lo 1 n
  refine W.item i s _ _ hg st fun v h' tk hv st' kk => ?_
  obtain ⟨t, rfl⟩ := hv
  have I1 : Inv X pins σ H { s with heap := h', toks := tk } := I.turned (fun b o hb e => kk b o (by simpa using hb) e) f0 f1 f3 f4 f5
  refine ⟨_, rfl, go_of (s := { s with heap := h', toks := tk }) (n := "range_iterator") st' rfl rfl (by decide) ⟨.int (lo + i), H, I1, ⟨t, ?_⟩, ⟨rfl, rfl⟩, st', fun b hb => (hf b hb).1⟩⟩
  rw [Int.mul_one]
 done := by
  intro X hP hw hK hc i pins s σ H E I hf st hg
  subst hP hw hK
  obtain ⟨f0, f1, f2, f3, f4, f5⟩ := hf it (by simp)
  exact wpAny_pyNext_range_end (I.ok.hd hc) st (by have : n <= i := hg; lia) fun h' eb => ⟨rfl, I.turned (t' := s.toks) (fun b o hb e => eb b o hb e) f0 f1 f3 f4 f5⟩
 self := fun _ _ _ _ _ st h => wpAny_pyIter_rangeiter st h
section
variable {X : Cx} {tg : Expr}
def iList (K : PySem.W.Frag) (tl : TE) : TI := fun σ H R => tl σ H fun x H1 => ∃ a, x = .ref a /\ (∃ xs, SqL K H1 a xs) /\ R (Itl K a) H1
def iTup (K : PySem.W.Frag) (tl : TE) : TI := fun σ H R => tl σ H fun x H1 => ∃ a, x = .ref a /\ (∃ xs, SqT K H1 a xs) /\ R (Itt K a) H1
theorem ztn {l : Expr} {tl : TE} (hl : PE X l tl) : PI X tg l (iList X.K tl) := by
 intro pins s σ H R I h
 refine thn (hl pins s σ H _ I h) fun v s1 ⟨x, H1, I1, r1, q1⟩ => ?_
 obtain ⟨a, e, ⟨xs, hq⟩, q⟩ := q1
 subst e
 cases r1
 obtain ⟨its, rv, p, hz⟩ := I1.list hq
 refine wpAny_pyIter_list p.isList ?_
 refine ⟨s1.heap.objs.size, [s1.heap.objs.size], _, _, H1, rfl, I1.kept (t' := s1.toks) fun b o e => Heap.get?_push_of_some _ e, zro a _, ⟨_, Heap.get?_push_size _ rfl, rfl, rfl⟩, fun b hb => ?_, q⟩
 have e : b = s1.heap.objs.size := by simpa using hb
 subst e
 exact I1.fpOk (Nat.le_refl _) (I1.hok.fresh (Nat.le_refl _))
theorem zDt {l : Expr} {tl : TE} (hl : PE X l tl) : PI X tg l (iTup X.K tl) := by
 intro pins s σ H R I h
 refine thn (hl pins s σ H _ I h) fun v s1 ⟨x, H1, I1, r1, q1⟩ => ?_
 obtain ⟨a, e, ⟨xs, hq⟩, q⟩ := q1
 subst e
 cases r1
 obtain ⟨its, rv, p, hz⟩ := I1.tuple hq
 refine wpAny_pyIter_tuple (show s1.heap.IsTuple a its.toArray from p) ?_
 refine ⟨s1.heap.objs.size, [s1.heap.objs.size], _, _, H1, rfl, I1.kept (t' := s1.toks) fun b o e => Heap.get?_push_of_some _ e, zqr a _, ⟨_, Heap.get?_push_size _ rfl, rfl, rfl⟩, fun b hb => ?_, q⟩
 have e : b = s1.heap.objs.size := by simpa using hb
 subst e
 exact I1.fpOk (Nat.le_refl _) (I1.hok.fresh (Nat.le_refl _))
theorem zow {pins : List (Addr × Obj)} {σ : St} {H : Hp} {s : Shared} {R : It -> Hp -> Prop} {E : Value -> Shared -> Prop} {lo hi : Int} {t u v : Tok} {tk : Nat} (I : Inv X pins σ H s) (h1 : -(2 ^ 62) <= lo) (h2 : lo < 2 ^ 62) (h3 : -(2 ^ 62) <= hi) (h4 : hi < 2 ^ 62)
  (q : R (Itr lo (hi - lo).toNat) H) : wpAny (model X.prog X.w) X.A (pyIter (.ref s.heap.objs.size)) (PIE X pins σ tg R) E { s with heap := s.heap.push { cls := .type "range", data := .fields #[.int lo t, .int hi u, .int 1 v] }, toks := tk } := by
 refine wpAny_pyIter_range (IsRange.new ..) (small_one h1 h2 h3 h4) ?_
 have I1 : Inv X pins σ H { s with heap := s.heap.push { cls := .type "range", data := .fields #[.int lo t, .int hi u, .int 1 v] }, toks := tk } := I.kept fun b o e => Heap.get?_push_of_some _ e
 refine ⟨(s.heap.push { cls := .type "range", data := .fields #[.int lo t, .int hi u, .int 1 v] }).objs.size, [(s.heap.push { cls := .type "range", data := .fields #[.int lo t, .int hi u, .int 1 v] }).objs.size], _, _, H, rfl,
  I1.kept (t' := tk) fun b o e => Heap.get?_push_of_some _ e, zqs _ lo (hi - lo).toNat, ?_, fun b hb => ?_, q⟩
 ·have e1 : lo + ((0 : Nat) : Int) * 1 = lo := by simp
  have e2 : (((hi - lo).toNat : Nat) : Int) - ((0 : Nat) : Int) = Builtin.Range.rangeSize lo hi 1 := by rw [rangeSize_one]; split <;> lia
  show IsRangeIter _ _ (lo + ((0 : Nat) : Int) * 1) ((((hi - lo).toNat : Nat) : Int) - ((0 : Nat) : Int)) 1
  rw [e1, e2]
  exact Heap.get?_push_size _ rfl
 ·have e : b = (s.heap.push { cls := .type "range", data := .fields #[.int lo t, .int hi u, .int 1 v] }).objs.size := by simpa using hb
  subst e
  exact I1.fpOk (Nat.le_refl _) (I1.hok.fresh (Nat.le_refl _))
def iRng1 (ta : TA) : TI := fun σ H R => ta σ H fun vs H1 => ∃ j : Int, vs = [.int j] /\ -(2 ^ 62) <= j /\ j < 2 ^ 62 /\ R (Itr 0 j.toNat) H1
def iRng2 (ta : TA) : TI := fun σ H R => ta σ H fun vs H1 => ∃ i j : Int, vs = [.int i, .int j] /\ (-(2 ^ 62) <= i /\ i < 2 ^ 62 /\ -(2 ^ 62) <= j /\ j < 2 ^ 62) /\ R (Itr i (j - i).toNat) H1
theorem zln {a : Expr} {ta : TA} {p pos : Pos} (hg : Gl X "range") (hm : X.mg "range" = none) (ha : PA X [a] ta) (hs : starEach [a] X.env = [(false, eval a X.env)] := by rfl) : PI X tg (.Call (.Name "range" p) [a] [] pos) (iRng1 ta) := by
 intro pins s σ H R I h
 refine Call_ (zge I hg hm boot_range (PyProof.Rows.callWith_type1 (thn (ha pos pins s σ H _ I h) fun us s1 ⟨vs, H1, I1, r1, q1⟩ => ?_) hs rfl))
 obtain ⟨j, e, q1, q2, q⟩ := q1
 subst e
 cases r1 with
 | cons r rr =>
  cases rr
  obtain ⟨t, rfl⟩ := r
  exact call_range_1 (zow I1 (by lia) (by lia) q1 q2 (by simpa using q))
theorem ztm {a b : Expr} {ta : TA} {p pos : Pos} (hg : Gl X "range") (hm : X.mg "range" = none) (ha : PA X [a, b] ta) (hs : starEach [a, b] X.env = [(false, eval a X.env), (false, eval b X.env)] := by rfl) (hs2 : starEach [b] X.env = [(false, eval b X.env)] := by rfl) :
  PI X tg (.Call (.Name "range" p) [a, b] [] pos) (iRng2 ta) := by
 intro pins s σ H R I h
 refine Call_ (zge I hg hm boot_range (PyProof.Rows.callWith_type1 (thn (ha pos pins s σ H _ I h) fun us s1 ⟨vs, H1, I1, r1, q1⟩ => ?_) (by rw [hs, hs2]) (by rw [hs2]; rfl)))
 obtain ⟨i, j, e, ⟨q1, q2, q3, q4⟩, q⟩ := q1
 subst e
 cases r1 with
 | cons r rr =>
  cases rr with
  | cons r' rr =>
   cases rr
   obtain ⟨t, rfl⟩ := r
   obtain ⟨t', rfl⟩ := r'
   exact call_range_2 (zow I1 q1 q2 q3 q4 q)
def tFor (wi : TI) (g : TG) (tb : TS) : TS := fun D σ H => wi σ H fun J H1 => ∃ W : Nat -> Nat -> St -> Hp -> Prop, (∃ m, W 0 m σ H1) /\ ∀ i m σ H, W i m σ H ->
 (J.stop i H /\ D.nx σ H) \/ (J.go i H /\ ∃ N : St -> Hp -> Prop, (∀ σ' H', N σ' H' -> ∃ m', m' < m /\ W (i + 1) m' σ' H') /\ ∀ x H', J.yld i H x H' -> g x σ H' fun σ2 H2 => tb { D with nx := N, ct := N, bk := D.nx } σ2 H2)
def zlm (fp : List Addr) (h : Heap) : List (Addr × Obj) := fp.filterMap fun b => (h.get? b).map fun o => (b, o)
theorem zel {fp : List Addr} {h : Heap} {b : Addr} {o : Obj} (hb : b ∈ fp) (e : h.get? b = some o) : (b, o) ∈ zlm fp h := List.mem_filterMap.mpr ⟨b, hb, by rw [e]; rfl⟩
theorem ztx {fp : List Addr} {h : Heap} {p : Addr × Obj} (hp : p ∈ zlm fp h) : p.1 ∈ fp /\ h.get? p.1 = some p.2 := by
 obtain ⟨b, hb, e⟩ := List.mem_filterMap.mp hp
 cases q : h.get? b with
 | none => rw [q] at e; cases e
 | some o =>
  rw [q] at e
  have e' : (b, o) = p := Option.some.inj e
  subst e'
  exact ⟨hb, q⟩
theorem Inv.pinned {pins : List (Addr × Obj)} {σ : St} {H : Hp} {s : Shared} {fp : List Addr} (I : Inv X pins σ H s) (hf : ∀ b ∈ fp, FpOk X pins H b) (ho : ∀ b ∈ fp, ∃ o, s.heap.get? b = some o /\ ∀ v, o.data ≠ .cell v) : Inv X (pins ++ zlm fp s.heap) σ H s :=
 I.pins_of fun p hp => (List.mem_append.mp hp).elim (fun z => I.pin p (List.mem_append_right _ z)) fun z => by
  obtain ⟨hb, e⟩ := ztx z
  obtain ⟨f0, f1, f2, _⟩ := hf p.1 hb
  obtain ⟨o, e', d⟩ := ho p.1 hb
  rw [e] at e'; cases e'
  exact ⟨e, f0, f1, f2, d⟩
theorem Inv.unpinned {pins pl : List (Addr × Obj)} {σ : St} {H : Hp} {s : Shared} (I : Inv X (pins ++ pl) σ H s) : Inv X pins σ H s := I.pins_of fun p hp => I.pin p (List.mem_append_right _ (List.mem_append_left _ hp))
theorem zcb {iter : Expr} {body : List Stmt} {wi : TI} {g : TG} {tb : TS} {pos : Pos} (hp : PassesOwn (model X.prog X.w) X.A X.env X.xe) (hc : X.calm = true) (hi : PI X tg iter wi) (hg : PG X tg g) (hb : PSs X body tb)
  (hs : ∀ x, foldedSetIterable iter X.env x = pure x := by intro _; rfl) : PS X (.For tg iter body [] pos) (tFor wi g tb) := by
 intro pins s σ H D I h
 refine wpAny_For (thn (hi pins s σ H _ I h) fun v s1 h1 => thn h1 fun itv s2 h2 => ?_) hs
 obtain ⟨it, fp, tn, J, H2, e, I2, T, st2, f2, W, ⟨m0, w0⟩, turn⟩ := h2
 subst e
 have stat : ∀ {H' : Hp}, (∀ b ∈ fp, H' b = none) -> ∀ b ∈ fp, FpOk X pins H' b := fun hn b hb => ⟨hn b hb, (f2 b hb).2⟩
 refine codeAny_forLoop_any (fun n s' => ∃ i σ' H', Inv X pins σ' H' s' /\ tn i s'.heap /\ (∀ b ∈ fp, H' b = none) /\ W i n σ' H') ?_ m0 ⟨0, σ, H2, I2, st2, fun b hb => (f2 b hb).1, w0⟩
 rintro n s3 ⟨i, σ3, H3, I3, st3, fr3, w3⟩
 rcases turn i n σ3 H3 w3 with ⟨stop, qn⟩ | ⟨go, N, hN, step⟩
 ·refine wpAny_passesOwn hp (thn (T.done X rfl rfl rfl hc i pins s3 σ3 H3 X.xe I3 (stat fr3) st3 stop) fun r s4 ⟨hr, I4⟩ => ?_)
  subst hr
  exact wpAny_execs_nil ⟨σ3, H3, I4, qn⟩
 ·refine wpAny_passesOwn hp (thn (T.item X rfl rfl rfl hc i pins s3 σ3 H3 X.xe I3 (stat fr3) st3 go) fun r s4 ⟨u, hr, h4⟩ => ?_)
  subst hr
  refine wpAny_passesOwn hp (thn h4 fun _ s5 ⟨x, H5, I5, r5, y5, st5, fr5⟩ => ?_)
  have I5' := I5.pinned (stat fr5) (T.obj _ _ st5)
  refine wpAny_passesOwn hp (thn (hg _ s5 σ3 H5 x u _ I5' r5 (step x H5 y5)) fun _ s6 ⟨σ6, H6, I6, q6⟩ => ?_)
  refine wpAny_passesOwn hp (thn (hb _ s6 σ6 H6 _ I6 q6) fun f s7 q7 => ?_)
  have again : ∀ {σ7 : St} {H7 : Hp}, Inv X (pins ++ zlm fp s5.heap) σ7 H7 s7 -> N σ7 H7 -> ∃ m, m < n /\ ∃ i σ' H', Inv X pins σ' H' s7 /\ tn i s7.heap /\ (∀ b ∈ fp, H' b = none) /\ W i m σ' H' := fun {σ7 H7} I7 n7 => by
   obtain ⟨m', hm, w7⟩ := hN σ7 H7 n7
   refine ⟨m', hm, i + 1, σ7, H7, I7.unpinned, T.keep _ _ _ st5 fun b hb o e => (I7.pin (b, o) (List.mem_append_right _ (List.mem_append_right _ (zel hb e)))).1, fun b hb => ?_, w7⟩
   obtain ⟨o, e, d⟩ := T.obj _ _ st5 b hb
   exact (I7.pin (b, o) (List.mem_append_right _ (List.mem_append_right _ (zel hb e)))).2.1
  cases f with
  | next => obtain ⟨σ7, H7, I7, n7⟩ := q7; exact again I7 n7
  | cont => obtain ⟨σ7, H7, I7, n7⟩ := q7; exact again I7 n7
  | brk => obtain ⟨σ7, H7, I7, q7⟩ := q7; exact ⟨σ7, H7, I7.unpinned, q7⟩
  | ret v => obtain ⟨x7, σ7, H7, I7, r7, q7⟩ := q7; exact ⟨x7, σ7, H7, I7.unpinned, r7, q7⟩
end
theorem zqe {K : PySem.W.Frag} {a : Addr} {xs : List V} {g : TG} {tb : TS} {D : Ends} {σ : St} {H : Hp} (Pv : Nat -> St -> Hp -> Prop) (h0 : Pv 0 σ H) (hl : ∀ i σ H, i <= xs.length -> Pv i σ H -> SqL K H a xs)
  (hs : ∀ i x σ H, xs[i]? = some x -> Pv i σ H -> g x σ H fun σ2 H2 => tb { D with nx := Pv (i + 1), ct := Pv (i + 1), bk := D.nx } σ2 H2) (hd : ∀ σ H, Pv xs.length σ H -> D.nx σ H) :
  ∃ W : Nat -> Nat -> St -> Hp -> Prop, (∃ m, W 0 m σ H) /\ ∀ i m σ H, W i m σ H ->
   ((Itl K a).stop i H /\ D.nx σ H) \/ ((Itl K a).go i H /\ ∃ N : St -> Hp -> Prop, (∀ σ' H', N σ' H' -> ∃ m', m' < m /\ W (i + 1) m' σ' H') /\ ∀ x H', (Itl K a).yld i H x H' -> g x σ H' fun σ2 H2 => tb { D with nx := N, ct := N, bk := D.nx } σ2 H2) := by
 refine ⟨fun i m σ H => m = xs.length - i /\ i <= xs.length /\ Pv i σ H, ⟨xs.length, by simp, Nat.zero_le _, h0⟩, ?_⟩
 rintro i m σ H ⟨rfl, hi, p⟩
 have q := hl i σ H hi p
 by_cases hlt : i < xs.length
 ·refine .inr ⟨⟨xs, xs[i], q, by simp [hlt]⟩, Pv (i + 1), fun σ' H' p' => ⟨xs.length - (i + 1), by lia, rfl, hlt, p'⟩, fun x H' y => ?_⟩
  obtain ⟨e, y⟩ := y
  subst e
  exact hs i x σ _ (y xs q) p
 ·have e : i = xs.length := by lia
  subst e
  exact .inl ⟨⟨xs, q, Nat.le_refl _⟩, hd σ H p⟩
theorem zBt {K : PySem.W.Frag} {a : Addr} {xs : List V} {g : TG} {tb : TS} {D : Ends} {σ : St} {H : Hp} (Pv : Nat -> St -> Hp -> Prop) (h0 : Pv 0 σ H) (hl : ∀ i σ H, i <= xs.length -> Pv i σ H -> SqT K H a xs)
  (hs : ∀ i x σ H, xs[i]? = some x -> Pv i σ H -> g x σ H fun σ2 H2 => tb { D with nx := Pv (i + 1), ct := Pv (i + 1), bk := D.nx } σ2 H2) (hd : ∀ σ H, Pv xs.length σ H -> D.nx σ H) :
  ∃ W : Nat -> Nat -> St -> Hp -> Prop, (∃ m, W 0 m σ H) /\ ∀ i m σ H, W i m σ H ->
   ((Itt K a).stop i H /\ D.nx σ H) \/ ((Itt K a).go i H /\ ∃ N : St -> Hp -> Prop, (∀ σ' H', N σ' H' -> ∃ m', m' < m /\ W (i + 1) m' σ' H') /\ ∀ x H', (Itt K a).yld i H x H' -> g x σ H' fun σ2 H2 => tb { D with nx := N, ct := N, bk := D.nx } σ2 H2) := by
 refine ⟨fun i m σ H => m = xs.length - i /\ i <= xs.length /\ Pv i σ H, ⟨xs.length, by simp, Nat.zero_le _, h0⟩, ?_⟩
 rintro i m σ H ⟨rfl, hi, p⟩
 have q := hl i σ H hi p
 by_cases hlt : i < xs.length
 ·refine .inr ⟨⟨xs, xs[i], q, by simp [hlt]⟩, Pv (i + 1), fun σ' H' p' => ⟨xs.length - (i + 1), by lia, rfl, hlt, p'⟩, fun x H' y => ?_⟩
  obtain ⟨e, y⟩ := y
  subst e
  exact hs i x σ _ (y xs q) p
 ·have e : i = xs.length := by lia
  subst e
  exact .inl ⟨⟨xs, q, Nat.le_refl _⟩, hd σ H p⟩
theorem zma {lo : Int} {n : Nat} {g : TG} {tb : TS} {D : Ends} {σ : St} {H : Hp} (Pv : Nat -> St -> Hp -> Prop) (h0 : Pv 0 σ H)
  (hs : ∀ i σ H, i < n -> Pv i σ H -> g (.int (lo + i)) σ H fun σ2 H2 => tb { D with nx := Pv (i + 1), ct := Pv (i + 1), bk := D.nx } σ2 H2) (hd : ∀ σ H, Pv n σ H -> D.nx σ H) :
  ∃ W : Nat -> Nat -> St -> Hp -> Prop, (∃ m, W 0 m σ H) /\ ∀ i m σ H, W i m σ H ->
   ((Itr lo n).stop i H /\ D.nx σ H) \/ ((Itr lo n).go i H /\ ∃ N : St -> Hp -> Prop, (∀ σ' H', N σ' H' -> ∃ m', m' < m /\ W (i + 1) m' σ' H') /\ ∀ x H', (Itr lo n).yld i H x H' -> g x σ H' fun σ2 H2 => tb { D with nx := N, ct := N, bk := D.nx } σ2 H2) := by
 refine ⟨fun i m σ H => m = n - i /\ i <= n /\ Pv i σ H, ⟨n, by simp, Nat.zero_le _, h0⟩, ?_⟩
 rintro i m σ H ⟨rfl, hi, p⟩
 by_cases hlt : i < n
 ·refine .inr ⟨hlt, Pv (i + 1), fun σ' H' p' => ⟨n - (i + 1), by lia, rfl, hlt, p'⟩, fun x H' y => ?_⟩
  obtain ⟨e, y⟩ := y
  subst e y
  exact hs i σ _ hlt p
 ·have e : i = n := by lia
  subst e
  exact .inl ⟨Nat.le_refl _, hd σ H p⟩
abbrev R2 := V -> V -> Hp -> VK -> Prop
def OpR (X : Cx) (f : Value -> Value -> Sem Value) (r : R2) : Prop :=
 ∀ (pins : List (Addr × Obj)) (s : Shared) (σ : St) (H : Hp) (x y : V) (v u : Value) (Q : VK), Inv X pins σ H s -> RelV x v -> RelV y u -> r x y H Q ->
  wpAny (model X.prog X.w) X.A (f v u) (EP X pins σ Q) X.xe s
def UnR (X : Cx) (f : Value -> Sem Value) (r : V -> Hp -> VK -> Prop) : Prop :=
 ∀ (pins : List (Addr × Obj)) (s : Shared) (σ : St) (H : Hp) (x : V) (v : Value) (Q : VK), Inv X pins σ H s -> RelV x v -> r x H Q ->
  wpAny (model X.prog X.w) X.A (f v) (EP X pins σ Q) X.xe s
def CallR (X : Cx) (f : Value) (r : List V -> Hp -> VK -> Prop) : Prop :=
 ∀ (pins : List (Addr × Obj)) (s : Shared) (σ : St) (H : Hp) (xs : List V) (us : List Value) (Q : VK), Inv X pins σ H s -> Vals xs us -> r xs H Q ->
  wpAny (model X.prog X.w) X.A (call f us) (EP X pins σ Q) X.xe s
def TruR (X : Cx) (r : V -> Hp -> (Bool -> Hp -> Prop) -> Prop) : Prop :=
 ∀ (pins : List (Addr × Obj)) (s : Shared) (σ : St) (H : Hp) (x : V) (v : Value) (Q : Bool -> Hp -> Prop), Inv X pins σ H s -> RelV x v -> r x H Q ->
  wpAny (model X.prog X.w) X.A (truthy v) (TP X pins σ Q) X.xe s
def tOp (r : R2) (ta tb : TE) : TE := fun σ H Q => ta σ H fun x H1 => tb σ H1 fun y H2 => r x y H2 Q
def tUn (r : V -> Hp -> VK -> Prop) (ta : TE) : TE := fun σ H Q => ta σ H fun x H1 => r x H1 Q
def rI (C : Int -> Int -> Prop) (g : Int -> Int -> V) : R2 := fun x y H Q => ∃ i j, x = .int i /\ y = .int j /\ C i j /\ Q (g i j) H
def rI0 (g : Int -> Int -> V) : R2 := fun x y H Q => ∃ i j, x = .int i /\ y = .int j /\ Q (g i j) H
def rU (g : Int -> V) : V -> Hp -> VK -> Prop := fun x H Q => ∃ i, x = .int i /\ Q (g i) H
section
variable {X : Cx} {a b c : Expr} {ta tb tc : TE} {pos : Pos}
theorem binT (ha : PE X a ta) (hb : PE X b tb) {pins : List (Addr × Obj)} {s : Shared} {σ : St} {H : Hp} {R : V -> V -> Hp -> Prop} (I : Inv X pins σ H s)
  (h : ta σ H fun x H1 => tb σ H1 fun y H2 => R x y H2) {Q : Value -> Shared -> Prop} {f : Value -> Value -> Sem Value}
  (hf : ∀ v u s2 x y H2, Inv X pins σ H2 s2 -> RelV x v -> RelV y u -> R x y H2 -> wpAny (model X.prog X.w) X.A (f v u) Q X.xe s2) :
  wpAny (model X.prog X.w) X.A (eval a X.env) (fun v s₁ => wpAny (model X.prog X.w) X.A (eval b X.env) (fun u s₂ => wpAny (model X.prog X.w) X.A (f v u) Q X.xe s₂) X.xe s₁) X.xe s := by
 refine thn (ha pins s σ H _ I h) fun v s1 ⟨x, H1, I1, r1, q1⟩ => ?_
 refine thn (hb pins s1 σ H1 _ I1 q1) fun u s2 ⟨y, H2, I2, r2, q2⟩ => ?_
 exact hf v u s2 x y H2 I2 r1 r2 q2
theorem pe_op {op : Operator} {r : R2} (ho : OpR X (binaryOp op) r) (ha : PE X a ta) (hb : PE X b tb) : PE X (.BinOp a op b pos) (tOp r ta tb) := by
 intro pins s σ H Q I h
 exact wpAny_BinOp (binT ha hb I h fun v u s2 x y H2 I2 rx ry q => ho pins s2 σ H2 x y v u Q I2 rx ry q)
theorem pe_un {op : UnaryOp} {r : V -> Hp -> VK -> Prop} (ho : UnR X (unaryOp op) r) (ha : PE X a ta) : PE X (.UnaryOp op a pos) (tUn r ta) := by
 intro pins s σ H Q I h
 exact UnaryOp_ (thn (ha pins s σ H _ I h) fun v s1 ⟨x, H1, I1, r1, q1⟩ => ho pins s1 σ H1 x v Q I1 r1 q1)
theorem opI {f : Value -> Value -> Sem Value} {C : Int -> Int -> Prop} {g : Int -> Int -> Int}
  (rule : ∀ (i j : Int) (t u : Tok) (s : Shared) (Q : Value -> Shared -> Prop) (E : Value -> Shared -> Prop), C i j -> Q (.int (g i j) s.toks) { s with toks := s.toks + 1 } -> wpAny (model X.prog X.w) X.A (f (.int i t) (.int j u)) Q E s) :
  OpR X f (rI C fun i j => .int (g i j)) := by
 intro pins s σ H x y v u Q I rx ry h
 obtain ⟨i, j, rfl, rfl, hc, q⟩ := h
 obtain ⟨t, rfl⟩ := rx
 obtain ⟨t', rfl⟩ := ry
 exact rule i j t t' s _ _ hc ⟨.int (g i j), H, I.tok _, ⟨_, rfl⟩, q⟩
theorem opI0 {f : Value -> Value -> Sem Value} {g : Int -> Int -> Int}
  (rule : ∀ (i j : Int) (t u : Tok) (s : Shared) (Q : Value -> Shared -> Prop) (E : Value -> Shared -> Prop), Q (.int (g i j) s.toks) { s with toks := s.toks + 1 } -> wpAny (model X.prog X.w) X.A (f (.int i t) (.int j u)) Q E s) :
  OpR X f (rI0 fun i j => .int (g i j)) := by
 intro pins s σ H x y v u Q I rx ry h
 obtain ⟨i, j, rfl, rfl, q⟩ := h
 obtain ⟨t, rfl⟩ := rx
 obtain ⟨t', rfl⟩ := ry
 exact rule i j t t' s _ _ ⟨.int (g i j), H, I.tok _, ⟨_, rfl⟩, q⟩
theorem opB0 {f : Value -> Value -> Sem Value} {g : Int -> Int -> Bool}
  (rule : ∀ (i j : Int) (t u : Tok) (s : Shared) (Q : Value -> Shared -> Prop) (E : Value -> Shared -> Prop), Q (.bool (g i j)) s -> wpAny (model X.prog X.w) X.A (f (.int i t) (.int j u)) Q E s) :
  OpR X f (rI0 fun i j => .bl (g i j)) := by
 intro pins s σ H x y v u Q I rx ry h
 obtain ⟨i, j, rfl, rfl, q⟩ := h
 obtain ⟨t, rfl⟩ := rx
 obtain ⟨t', rfl⟩ := ry
 exact rule i j t t' s _ _ ⟨.bl (g i j), H, I, rfl, q⟩
def CDiv (i j : Int) : Prop := 0 < j /\ j < 1073741824
def CMul (i j : Int) : Prop := (-(2 ^ 64) < i /\ i < 2 ^ 64) \/ (-(2 ^ 64) < j /\ j < 2 ^ 64)
theorem CMul.ok {i j : Int} (h : CMul i j) : IntMulOk i j := by
 rcases h with ⟨h1, h2⟩ | ⟨h1, h2⟩
 ·exact .of_left (intBits_le_64 h1 h2)
 ·exact .of_right (intBits_le_64 h1 h2)
theorem zdu : OpR X (binaryOp .Add) (rI0 fun i j => .int (i + j)) := opI0 fun _ _ _ _ _ _ _ q => add_int q
theorem zhm : OpR X (binaryOp .Sub) (rI0 fun i j => .int (i - j)) := opI0 fun _ _ _ _ _ _ _ q => sub_int q
theorem zzc : OpR X (binaryOp .Mult) (rI CMul fun i j => .int (i * j)) := opI fun _ _ _ _ _ _ _ hc q => mul_int q hc.ok
theorem ztt : OpR X (binaryOp .FloorDiv) (rI CDiv fun i j => .int (i / j)) := opI fun i j _ _ _ _ _ hc q => by
 have h1 : (0 : Int) < j := hc.1
 have h2 : j < 1073741824 := hc.2
 exact floordiv_int (by lia) (by rw [Int.fdiv_eq_ediv_of_nonneg i (by lia)]; exact q) (.inl (PyProof.noPylong_small (by lia)))
theorem zgc : OpR X (binaryOp .Mod) (rI (fun _ j => 0 < j) fun i j => .int (i % j)) := opI fun i j _ _ _ _ _ hc q => by
 have h1 : (0 : Int) < j := hc
 exact mod_int' (by lia) (by rw [Int.fmod_eq_emod_of_nonneg i (by lia)]; exact q)
theorem unI {f : Value -> Sem Value} {g : Int -> Int}
  (rule : ∀ (i : Int) (t : Tok) (s : Shared) (Q : Value -> Shared -> Prop) (E : Value -> Shared -> Prop), Q (.int (g i) s.toks) { s with toks := s.toks + 1 } -> wpAny (model X.prog X.w) X.A (f (.int i t)) Q E s) :
  UnR X f (rU fun i => .int (g i)) := by
 intro pins s σ H x v Q I rx h
 obtain ⟨i, rfl, q⟩ := h
 obtain ⟨t, rfl⟩ := rx
 exact rule i t s _ _ ⟨.int (g i), H, I.tok _, ⟨_, rfl⟩, q⟩
theorem zdo : UnR X (unaryOp .USub) (rU fun i => .int (-i)) := unI fun _ _ _ _ _ q => neg_int q
end
def scal : V -> V -> Bool
 | .non, .non => true | .non, .int _ => true | .int _, .non => true | .non, .bl _ => true | .bl _, .non => true | .non, .str _ => true | .str _, .non => true
 | .int _, .int _ => true | .bl _, .bl _ => true | .str _, .str _ => true | .byt _, .byt _ => true
 | .int _, .str _ => true | .str _, .int _ => true | .bl _, .str _ => true | .str _, .bl _ => true
 | _, _ => false
def rEq : R2 := fun x y H Q => scal x y = true /\ Q (.bl (decide (x = y))) H
def rNe : R2 := fun x y H Q => scal x y = true /\ Q (.bl (!decide (x = y))) H
theorem dec_int {i j : Int} : decide (V.int i = V.int j) = (i == j) := by
 rw [Bool.eq_iff_iff]
 simp
theorem zzt {i j : Bool} : decide (V.bl i = V.bl j) = (i == j) := by
 rw [Bool.eq_iff_iff]
 simp
theorem zvg {i j : Str} : decide (V.str i = V.str j) = (i == j) := by
 rw [Bool.eq_iff_iff]
 simp
theorem zvh {i j : Array UInt8} : decide (V.byt i = V.byt j) = (i.toList == j.toList) := by
 rw [Bool.eq_iff_iff]
 cases i
 cases j
 simp
section
variable {X : Cx} {a b c : Expr} {ta tb tc : TE} {pos : Pos}
theorem zbl {pins : List (Addr × Obj)} {σ : St} {H : Hp} {s : Shared} {Q : VK} {k k' : Bool} (I : Inv X pins σ H s) (q : Q (.bl k) H) (e : k = k') : EP X pins σ Q (.bool k') s := by
 subst e
 exact ⟨.bl k, H, I, rfl, q⟩
theorem op_eq : OpR X (compareOp .Eq) rEq := by
 intro pins s σ H x y v u Q I rx ry h
 obtain ⟨hs, q⟩ := h
 cases x with
 | non =>
  cases rx
  cases y with
  | non => cases ry; exact PySem.EqNone.eq_none_none (zbl I q (by simp))
  | bl j => cases ry; exact PySem.EqNone.eq_none_bool (zbl I q (by simp))
  | int j => obtain ⟨t', rfl⟩ := ry; exact PySem.EqNone.eq_none_int (zbl I q (by simp))
  | str j => obtain ⟨t', rfl⟩ := ry; exact PySem.EqNone.eq_none_str (zbl I q (by simp))
  | _ => exact absurd (show false = true from hs) Bool.false_ne_true
 | bl i =>
  cases rx
  cases y with
  | non => cases ry; exact PySem.EqNone.eq_bool_none (zbl I q (by simp))
  | bl j => cases ry; exact eq_bool (zbl I q zzt)
  | str j => obtain ⟨t', rfl⟩ := ry; exact PySem.EqMixed.eq_bool_str (zbl I q (by simp))
  | _ => exact absurd (show false = true from hs) Bool.false_ne_true
 | int i =>
  obtain ⟨t, rfl⟩ := rx
  cases y with
  | non => cases ry; exact PySem.EqNone.eq_int_none (zbl I q (by simp))
  | int j => obtain ⟨t', rfl⟩ := ry; exact eq_int (zbl I q dec_int)
  | str j => obtain ⟨t', rfl⟩ := ry; exact PySem.EqMixed.eq_int_str (zbl I q (by simp))
  | _ => exact absurd (show false = true from hs) Bool.false_ne_true
 | str i =>
  obtain ⟨t, rfl⟩ := rx
  cases y with
  | non => cases ry; exact PySem.EqNone.eq_str_none (zbl I q (by simp))
  | bl j => cases ry; exact PySem.EqMixed.eq_str_bool (zbl I q (by simp))
  | int j => obtain ⟨t', rfl⟩ := ry; exact PySem.EqMixed.eq_str_int (zbl I q (by simp))
  | str j => obtain ⟨t', rfl⟩ := ry; exact eq_str (zbl I q zvg)
  | _ => exact absurd (show false = true from hs) Bool.false_ne_true
 | byt i =>
  obtain ⟨t, rfl⟩ := rx
  cases y with
  | byt j => obtain ⟨t', rfl⟩ := ry; exact PySem.W.eq_bytes (zbl I q zvh)
  | _ => exact absurd (show false = true from hs) Bool.false_ne_true
 | _ => cases y <;> exact absurd (show false = true from hs) Bool.false_ne_true
theorem op_ne : OpR X (compareOp .NotEq) rNe := by
 intro pins s σ H x y v u Q I rx ry h
 obtain ⟨hs, q⟩ := h
 cases x with
 | non =>
  cases rx
  cases y with
  | non => cases ry; exact PySem.EqNone.ne_none_none (zbl I q (by simp))
  | bl j => cases ry; exact PySem.EqNone.ne_none_bool (zbl I q (by simp))
  | int j => obtain ⟨t', rfl⟩ := ry; exact PySem.EqNone.ne_none_int (zbl I q (by simp))
  | str j => obtain ⟨t', rfl⟩ := ry; exact PySem.EqNone.ne_none_str (zbl I q (by simp))
  | _ => exact absurd (show false = true from hs) Bool.false_ne_true
 | bl i =>
  cases rx
  cases y with
  | non => cases ry; exact PySem.EqNone.ne_bool_none (zbl I q (by simp))
  | bl j => cases ry; exact ne_bool (zbl I q (congrArg not zzt))
  | str j => obtain ⟨t', rfl⟩ := ry; exact PySem.EqMixed.ne_bool_str (zbl I q (by simp))
  | _ => exact absurd (show false = true from hs) Bool.false_ne_true
 | int i =>
  obtain ⟨t, rfl⟩ := rx
  cases y with
  | non => cases ry; exact PySem.EqNone.ne_int_none (zbl I q (by simp))
  | int j => obtain ⟨t', rfl⟩ := ry; exact ne_int (zbl I q (congrArg not dec_int))
  | str j => obtain ⟨t', rfl⟩ := ry; exact PySem.EqMixed.ne_int_str (zbl I q (by simp))
  | _ => exact absurd (show false = true from hs) Bool.false_ne_true
 | str i =>
  obtain ⟨t, rfl⟩ := rx
  cases y with
  | non => cases ry; exact PySem.EqNone.ne_str_none (zbl I q (by simp))
  | bl j => cases ry; exact PySem.EqMixed.ne_str_bool (zbl I q (by simp))
  | int j => obtain ⟨t', rfl⟩ := ry; exact PySem.EqMixed.ne_str_int (zbl I q (by simp))
  | str j => obtain ⟨t', rfl⟩ := ry; exact ne_str (zbl I q (congrArg not zvg))
  | _ => exact absurd (show false = true from hs) Bool.false_ne_true
 | byt i =>
  obtain ⟨t, rfl⟩ := rx
  cases y with
  | byt j => obtain ⟨t', rfl⟩ := ry; exact PySem.W.ne_bytes (zbl I q (congrArg not zvh))
  | _ => exact absurd (show false = true from hs) Bool.false_ne_true
 | _ => cases y <;> exact absurd (show false = true from hs) Bool.false_ne_true
theorem op_lt : OpR X (compareOp .Lt) (rI0 fun i j => .bl (decide (i < j))) := opB0 fun _ _ _ _ _ _ _ q => lt_int q
theorem op_le : OpR X (compareOp .LtE) (rI0 fun i j => .bl (decide (i <= j))) := opB0 fun _ _ _ _ _ _ _ q => le_int q
theorem OpR.or {f : Value -> Value -> Sem Value} {r r' : R2} (h : OpR X f r) (h' : OpR X f r') : OpR X f (fun x y H Q => r x y H Q \/ r' x y H Q) := by
 intro pins s σ H x y v u Q I rx ry q
 rcases q with q | q
 ·exact h pins s σ H x y v u Q I rx ry q
 ·exact h' pins s σ H x y v u Q I rx ry q
theorem zch (b : Expr) {op : CmpOp} (h : op ≠ .In := by decide) (h2 : op ≠ .NotIn := by decide) : behindInMarks op b = false := by
 have e1 : (op == CmpOp.In) = false := by cases op <;> first | rfl | exact absurd rfl h
 have e2 : (op == CmpOp.NotIn) = false := by cases op <;> first | rfl | exact absurd rfl h2
 cases b <;> simp [behindInMarks, e1, e2]
theorem zfv {op : CmpOp} {r : R2} (ho : OpR X (compareOp op) r) (ha : PE X a ta) (hb : PE X b tb) (hm : behindInMarks op b = false) : PE X (.Compare a [op] [b] pos) (tOp r ta tb) := by
 intro pins s σ H Q I h
 exact wpAny_Compare1 (binT ha hb I h fun v u s2 x y H2 I2 rx ry q => ho pins s2 σ H2 x y v u Q I2 rx ry q) hm
def tTest (t : TE) : TT := fun σ H Q => t σ H fun x H' => ∃ k, x = .bl k /\ Q k H'
theorem zcp {op : CmpOp} {r : R2} (ho : OpR X (compareOp op) r) (ha : PE X a ta) (hb : PE X b tb) (hm : behindInMarks op b = false) : PT X (.Compare a [op] [b] pos) (tTest (tOp r ta tb)) := by
 intro pins s σ H Q I h
 refine wpAny_isTrue_Compare1 (thn (ha pins s σ H _ I h) fun v s1 ⟨x, H1, I1, r1, q1⟩ => thn (hb pins s1 σ H1 _ I1 q1) fun u s2 ⟨y, H2, I2, r2, q2⟩ =>
  thn (ho pins s2 σ H2 x y v u _ I2 r1 r2 q2) fun c s3 ⟨z, H3, I3, r3, k, e, q3⟩ => ?_) hm
 subst e
 cases r3
 exact wpAny_truthy_bool ⟨H3, I3, q3⟩
def zDf (r r' : R2) (ta tb tc : TE) : TE := fun σ H Q => ta σ H fun x H1 => tb σ H1 fun y H2 => r x y H2 fun z H3 => ∃ k, z = .bl k /\
 (if k = true then tc σ H3 fun w' H4 => r' y w' H4 Q else Q (.bl false) H3)
theorem zxk {op op' : CmpOp} {r r' : R2} (ho : OpR X (compareOp op) r) (ho' : OpR X (compareOp op') r') (ha : PE X a ta) (hb : PE X b tb) (hc : PE X c tc)
  (hm : lastMarks [op, op'] [b, c] = false := by with_unfolding_all rfl) : PE X (.Compare a [op, op'] [b, c] pos) (zDf r r' ta tb tc) := by
 intro pins s σ H Q I h
 refine Compare_chain (thn (ha pins s σ H _ I h) fun v s1 ⟨x, H1, I1, r1, q1⟩ => chain_link (thn (hb pins s1 σ H1 _ I1 q1) fun u s2 ⟨y, H2, I2, r2, q2⟩ =>
  thn (ho pins s2 σ H2 x y v u _ I2 r1 r2 q2) fun d s3 ⟨z, H3, I3, r3, k, e, q3⟩ => ?_)) hm
 subst e
 cases r3
 refine wpAny_truthy_bool ?_
 cases k with
 | false => exact ite_ff ⟨.bl false, H3, I3, rfl, q3⟩
 | true => exact ite_tt (chain_last (thn (hc pins s3 σ H3 _ I3 q3) fun w' s4 ⟨z', H4, I4, r4, q4⟩ => ho' pins s4 σ H4 y z' u w' Q I4 r2 r4 q4))
def TruV (K : PySem.W.Frag) (x : V) (H : Hp) (k : Bool) : Prop :=
 match x with
 | .non => k = false
 | .bl b => k = b
 | .int i => k = (i != 0)
 | .str y => y.length <= sizeLine /\ k = ((y.length : Int) != 0)
 | .byt y => y.size <= sizeLine /\ k = ((y.size : Int) != 0)
 | .ref p => (∃ xs, SqL K H p xs /\ k = !xs.isEmpty) \/ (∃ xs, SqT K H p xs /\ k = !xs.isEmpty) \/ ∃ kvs, H p = some (.dK kvs) /\ k = !kvs.isEmpty
 | _ => False
theorem zre {κ : Type} {kvs : List (κ × V)} {vs : List (κ × Value)} (r : KV kvs vs) : (!vs.isEmpty) = !kvs.isEmpty := by
 cases r <;> rfl
theorem zjd {xs : List V} {its : List Value} (r : Vals xs its) : (!its.toArray.isEmpty) = !xs.isEmpty := by
 cases r <;> simp
theorem zlv : (sizeLine : Nat) < 2 ^ 63 := by rw [sizeLine_eq]; decide
theorem zCy : TruR X (fun x H Q => ∃ k, TruV X.K x H k /\ Q k H) := by
 intro pins s σ H x v Q I rx h
 obtain ⟨k, e, q⟩ := h
 have hl := zlv
 have hs : sizeLine = 16777216 := sizeLine_eq
 cases x with
 | non =>
  cases rx
  have e' : k = false := e
  subst e'
  exact truthy_none ⟨H, I, q⟩
 | bl b =>
  cases rx
  have e' : k = b := e
  subst e'
  exact wpAny_truthy_bool ⟨H, I, q⟩
 | int i =>
  obtain ⟨t, rfl⟩ := rx
  have e' : k = (i != 0) := e
  subst e'
  exact PySem.P.truthy_int ⟨H, I, q⟩
 | str y =>
  obtain ⟨t, rfl⟩ := rx
  obtain ⟨hy, e'⟩ : y.length <= sizeLine /\ k = ((y.length : Int) != 0) := e
  subst e'
  exact PySem.P.truthy_str (by lia) ⟨H, I.tok _, q⟩
 | byt y =>
  obtain ⟨t, rfl⟩ := rx
  obtain ⟨hy, e'⟩ : y.size <= sizeLine /\ k = ((y.size : Int) != 0) := e
  subst e'
  exact PySem.W.truthy_bytes (by lia) ⟨H, I.tok _, q⟩
 | ref p =>
  cases rx
  have e' : (∃ xs, SqL X.K H p xs /\ k = !xs.isEmpty) \/ (∃ xs, SqT X.K H p xs /\ k = !xs.isEmpty) \/ ∃ kvs, H p = some (.dK kvs) /\ k = !kvs.isEmpty := e
  rcases e' with ⟨xs, hx, e'⟩ | ⟨xs, hx, e'⟩ | ⟨kvs, hx, e'⟩
  ·subst e'
   obtain ⟨its, r, pl, hz⟩ := I.list hx
   have hlen := r.length
   exact wpAny_truthy_list pl.isList (by simp only [List.size_toArray]; lia) ⟨H, I.tok _, by rw [zjd r]; exact q⟩
  ·subst e'
   obtain ⟨its, r, pl, hz⟩ := I.tuple hx
   have hlen := r.length
   exact truthy_tuple pl (by simp only [List.size_toArray]; lia) ⟨H, I.tok _, by rw [zjd r]; exact q⟩
  ·subst e'
   obtain ⟨hz, hS, vs, r, m⟩ : kvs.length <= sizeLine /\ (p == sysModules) = false /\ ∃ vs, KV kvs vs /\ s.heap.DictOf (zbm X.prog X.w) p vs := I.hok p _ hx
   have hlen : kvs.length = vs.length := Paired.length r
   exact wpAny_truthy_dict hS m (by lia) ⟨H, I.tok _, by rw [zre r]; exact q⟩
 | _ => exact (show False from e).elim
theorem zgs (ha : PE X a ta) (he : ∀ whole, isTrue a X.env whole = (do let v <- whole; standAt a.pos; holding [v] (truthy v))) :
  PT X a (fun σ H Q => ta σ H fun x H' => ∃ k, TruV X.K x H' k /\ Q k H') := by
 intro pins s σ H Q I h
 exact isTrue_plain (thn (ha pins s σ H _ I h) fun v s1 ⟨x, H1, I1, r1, q1⟩ => zCy pins s1 σ H1 x v Q I1 r1 q1) (he _)
theorem vals1 {x : V} {us : List Value} (r : Vals [x] us) : ∃ u, us = [u] /\ RelV x u := by
 cases r with
 | cons r1 r2 => cases r2; exact ⟨_, rfl, r1⟩
theorem vals2 {x y : V} {us : List Value} (r : Vals [x, y] us) : ∃ u w', us = [u, w'] /\ RelV x u /\ RelV y w' := by
 cases r with
 | cons r1 r2 =>
  cases r2 with
  | cons r3 r4 => cases r4; exact ⟨_, _, rfl, r1, r3⟩
theorem zmi (hc : X.calm = true) : CallR X (.builtin "max") (fun xs H Q => ∃ i j, xs = [.int i, .int j] /\ Q (.int (if j > i then j else i)) H) := by
 intro pins s σ H xs us Q I r h
 obtain ⟨i, j, rfl, q⟩ := h
 obtain ⟨u, w', rfl, ⟨t, rfl⟩, ⟨t', rfl⟩⟩ := vals2 r
 refine max_two_ints (I.ok.hd hc) fun h' tk k => ⟨_, H, I.kept k, ?_, q⟩
 by_cases hj : j > i
 ·rw [if_pos hj, if_pos hj]; exact ⟨_, rfl⟩
 ·rw [if_neg hj, if_neg hj]; exact ⟨_, rfl⟩
theorem zmh (hc : X.calm = true) : CallR X (.builtin "min") (fun xs H Q => ∃ i j, xs = [.int i, .int j] /\ Q (.int (if j < i then j else i)) H) := by
 intro pins s σ H xs us Q I r h
 obtain ⟨i, j, rfl, q⟩ := h
 obtain ⟨u, w', rfl, ⟨t, rfl⟩, ⟨t', rfl⟩⟩ := vals2 r
 refine min_two_ints (I.ok.hd hc) fun h' tk k => ⟨_, H, I.kept k, ?_, q⟩
 by_cases hj : j < i
 ·rw [if_pos hj, if_pos hj]; exact ⟨_, rfl⟩
 ·rw [if_neg hj, if_neg hj]; exact ⟨_, rfl⟩
theorem zib : CallR X (.type "int") (fun xs H Q => (∃ i, xs = [.int i] /\ Q (.int i) H) \/ ∃ k, xs = [.bl k] /\ Q (.int (if k then 1 else 0)) H) := by
 intro pins s σ H xs us Q I r h
 rcases h with ⟨i, rfl, q⟩ | ⟨k, rfl, q⟩
 ·obtain ⟨u, rfl, t, rfl⟩ := vals1 r
  exact call_int_int ⟨.int i, H, I, ⟨_, rfl⟩, q⟩
 ·obtain ⟨u, rfl, r1⟩ := vals1 r
  cases r1
  exact call_int_bool ⟨.int (if k then 1 else 0), H, I.tok _, ⟨_, rfl⟩, q⟩
end
structure ObjM (h : Heap) (x dx C : Addr) (mA : Str -> Option Value) : Prop where
 obj : h.get? x = some (PySem.W.instObj C dx)
 ns : h.Ns1 dx mA
 ne : dx ≠ x
theorem zud {h : Heap} {dx : Addr} {mA : Str -> Option Value} (n : h.Ns1 dx mA) : ∃ od, h.get? dx = some od /\ ∀ name, PySem.W.lookIn name od = some (mA name) := by
 obtain ⟨o, es, ep, ho, hd, hk, _, hm⟩ := n
 refine ⟨o, ho, fun name => ?_⟩
 have e := hm name
 unfold nsFind findBy at e
 rw [<- Array.find?_toList] at e
 unfold PySem.W.lookIn
 rw [hd]
 dsimp only
 split
 ·rename_i y q
  rw [q] at e
  exact congrArg some e
 ·rename_i q
  rw [q] at e
  have a : es.toList.any (·.refKey) = false := by
   rw [List.any_eq_false]
   intro y hy
   obtain ⟨z, t, hkey⟩ := hk y (Array.mem_toList_iff.mp hy)
   simp [DictEntry.refKey, hkey]
  have a' : ¬ es.toList.any (·.refKey) = true := by rw [a]; exact Bool.false_ne_true
  rw [if_neg a']
  exact congrArg some e
theorem ObjM.look {h : Heap} {x dx C : Addr} {mA : Str -> Option Value} (I : ObjM h x dx C mA) : ∃ od, PySem.W.InstAt h x (PySem.W.instObj C dx) C (some od) /\ ∀ name, PySem.W.lookIn name od = some (mA name) :=
 let ⟨od, ho, hl⟩ := zud I.ns
 ⟨od, ⟨I.obj, rfl, rfl, ho⟩, hl⟩
section
variable {prog : Program} {w : World} {A : Around} {E : Value -> Shared -> Prop} {s : Shared} {K : PySem.W.Frag} {x dx C f : Addr} {mA : Str -> Option Value} {name : Str} {v : Value}
end
theorem RelO.some_of {v : V} {o : Option Value} (r : RelO (some v) o) : ∃ u, o = some u /\ RelV v u := by
 cases o with
 | none => exact (show False from r).elim
 | some u => exact ⟨u, rfl, r⟩
section
variable {P : Program} {w : World} {H H' : Hp} {h h' : Heap} {a C dx : Addr} {fs fs' : List (Str × V)}
theorem zBo (hok : HOk P w H h) (e : H a = some (.ins C dx fs)) : ∃ mA, ObjM h a dx C mA /\ (∀ f, RelO (fs.lookup f) (mA f)) /\ PySem.Within mA (fs.map (·.1)) /\ fs.length <= 1000 /\ H dx = some (.own a) := by
 obtain ⟨d, z, ne, ob, mA, n, r, q⟩ := (show ObjOk P w H h a (.ins C dx fs) from hok a _ e)
 exact ⟨mA, ⟨ob, n, ne⟩, r, q, z, d⟩
end
structure Cls (K : PySem.W.Frag) (C : Addr) : Prop where
 pg : PySem.W.plainGet K C Str.empty = true
 hd : PySem.W.hasDictIn K C = true
 po : PySem.W.plainOver K C = true
 sa : PySem.W.findIn K (.ref C) "__setattr__" = some (some (.builtin "object.__setattr__"))
theorem Cls.get {K : PySem.W.Frag} {C : Addr} (c : Cls K C) (f : Str) : PySem.W.plainGet K C f = true := c.pg
section
variable {X : Cx} {pins : List (Addr × Obj)} {σ : St} {H : Hp} {s : Shared} {a C dx : Addr} {fs : List (Str × V)} {f : Str} {v : V} {A : Around} {E : Value -> Shared -> Prop}
end
section
variable {X : Cx} {o e value : Expr} {f : Str} {pos pos' tpos : Pos} {ta tv : TE}
end
section
variable {X : Cx} {pins : List (Addr × Obj)} {σ : St} {H : Hp} {s : Shared} {A : Around} {E : Value -> Shared -> Prop} {Q : Value -> Shared -> Prop} {c : Value} {b : Bool}
inductive TyOf (K : PySem.W.Frag) (H : Hp) : V -> Value -> Prop where
 | non : TyOf K H .non (.type "NoneType")
 | bl (x : Bool) : TyOf K H (.bl x) (.type "bool")
 | int (i : Int) : TyOf K H (.int i) (.type "int")
 | str (x : Str) : TyOf K H (.str x) (.type "str")
 | flt (x : UInt64) : TyOf K H (.flt x) (.type "float")
 | lst {a : Addr} {xs : List V} (e : H a = some (.lst xs)) : TyOf K H (.ref a) (.type "list")
 | frz {a : Addr} {o : Obj} {xs : List V} (e : H a = some (.frz o (.lst xs))) : TyOf K H (.ref a) (.type "list")
 | tup {a : Addr} {xs : List V} (e : H a = some (.tup xs)) : TyOf K H (.ref a) (.type "tuple")
 | dK {a : Addr} {kvs : List (Key × V)} (e : H a = some (.dK kvs)) : TyOf K H (.ref a) (.type "dict")
 | dT {a : Addr} {kvs : List (List Key × V)} (e : H a = some (.dT kvs)) : TyOf K H (.ref a) (.type "dict")
 | ins {a C dx : Addr} {fs : List (Str × V)} (e : H a = some (.ins C dx fs)) (cl : Cls K C) (ha : PySem.W.findIn K (.ref C) "__class__" = some (some (.builtin "object.__class__")))
   (hn : PySem.W.specialIn K (.builtin "object.__class__") "__get__" = some (some (.builtin "getset_descriptor.__get__"))) (htk : PySem.W.takesIn K (.builtin "object.__class__") = some true)
   (hm : PySem.W.mroIn K C (.type "object") = some true) : TyOf K H (.ref a) (.ref C)
theorem zus {x : V} {u t : Value} (I : Inv X pins σ H s) (rx : RelV x u) (ty : TyOf X.K H x t) (e : PySem.W.kitOne X.K t c = some b) (h : ∀ tk, Q (.bool b) { s with toks := tk }) :
  wpAny (model X.prog X.w) A (call (.builtin "isinstance") [u, c]) Q E s := by
 cases ty with
 | non => cases (show u = Value.none from rx); exact PySem.W.kia_one PySem.W.kitx_none I.kIn True.intro e (fun z => nomatch z) h
 | bl y => cases (show u = Value.bool y from rx); exact PySem.W.kia_one PySem.W.kitx_bool I.kIn True.intro e (fun z => nomatch z) h
 | int i => obtain ⟨t, q⟩ := (show ∃ t, u = Value.int i t from rx); cases q; exact PySem.W.kia_one PySem.W.kitx_int I.kIn True.intro e (fun z => nomatch z) h
 | str y => obtain ⟨t, q⟩ := (show ∃ t, u = Value.str y t from rx); cases q; exact PySem.W.kia_one PySem.W.kitx_str I.kIn True.intro e (fun z => nomatch z) h
 | flt y => obtain ⟨t, q⟩ := (show ∃ t, u = Value.float y t from rx); cases q; exact PySem.W.kia_one PySem.W.kitx_float I.kIn True.intro e (fun z => nomatch z) h
 | @lst a xs ea =>
  cases (show u = Value.ref a from rx)
  obtain ⟨_, _, n, _, h1⟩ := (show ObjOk X.prog X.w H s.heap a (.lst xs) from I.hok a _ ea)
  exact PySem.W.kia_one PySem.W.kitx_list I.kIn ⟨_, h1, rfl⟩ e (fun z => nomatch z) h
 | @frz a ob xs ea =>
  cases (show u = Value.ref a from rx)
  obtain ⟨_, _, _, n, _, h1⟩ := (show ObjOk X.prog X.w H s.heap a (.frz ob (.lst xs)) from I.hok a _ ea)
  exact PySem.W.kia_one PySem.W.kitx_list I.kIn ⟨_, h1, rfl⟩ e (fun z => nomatch z) h
 | @tup a xs ea =>
  cases (show u = Value.ref a from rx)
  obtain ⟨_, _, _, p⟩ := (show ObjOk X.prog X.w H s.heap a (.tup xs) from I.hok a _ ea)
  obtain ⟨o, h1, h2, _⟩ := p
  exact PySem.W.kia_one PySem.W.kitx_tuple I.kIn ⟨o, h1, h2⟩ e (fun z => nomatch z) h
 | @dK a kvs ea =>
  cases (show u = Value.ref a from rx)
  obtain ⟨_, _, vs, _, p⟩ := (show ObjOk X.prog X.w H s.heap a (.dK kvs) from I.hok a _ ea)
  obtain ⟨o, es, ep, h1, h2, _⟩ := p
  exact PySem.W.kia_one PySem.W.kitx_dict I.kIn ⟨o, h1, h2.1⟩ e (fun z => nomatch z) h
 | @dT a kvs ea =>
  cases (show u = Value.ref a from rx)
  obtain ⟨_, _, xs, _, o, es, ep, h1, h2, _⟩ := (show ObjOk X.prog X.w H s.heap a (.dT kvs) from I.hok a _ ea)
  exact PySem.W.kia_one PySem.W.kitx_dict I.kIn ⟨o, h1, h2.1⟩ e (fun z => nomatch z) h
 | @ins a C dx fs ea cl ha hn htk hm =>
  cases (show u = Value.ref a from rx)
  obtain ⟨mA, O, _⟩ := zBo I.hok ea
  obtain ⟨od, J, _⟩ := O.look
  exact PySem.W.kia_one (PySem.W.kitx_own (cl.get _) cl.hd ha hn htk hm) I.kIn J e (fun z => nomatch z) h
end
structure Room (k : Nat) (A : Around) : Prop where
 hd : A.handled = none
 dp : A.depth + 3 * k + 5 < recursionLimit
 un : A.units + 16 * k + 200 < cLine
theorem Room.mono {j k : Nat} {A : Around} (r : Room k A) (h : j <= k) : Room j A := ⟨r.hd, by have := r.dp; lia, by have := r.un; lia⟩
theorem Room.deeper {k : Nat} {A : Around} (r : Room (k + 1) A) (env : Env) : Room k (A.deeper env) :=
 ⟨r.hd, by have := r.dp; show A.depth + 1 + 3 * k + 5 < _; lia, by have := r.un; show A.units + 3 + 16 * k + 200 < _; lia⟩
theorem Room.depth {k : Nat} {A : Around} (r : Room k A) : A.depth < recursionLimit := by have := r.dp; lia
theorem Room.units {k : Nat} {A : Around} (r : Room k A) : A.units + 64 < cLine := by have := r.un; lia
def tNil : TA := fun _ H Q => Q [] H
def tCons (ta : TE) (tr : TA) : TA := fun σ H Q => ta σ H fun x H1 => tr σ H1 fun xs H2 => Q (x :: xs) H2
section
variable {X : Cx} {e : Expr} {es : List Expr} {te : TE} {t : TA} {pos : Pos}
theorem zac : PA X [] tNil := fun _ _ _ _ H Q I h => Calls.spliced_nil ⟨[], H, I, .nil, h⟩
theorem zaa (ha : PE X e te) (hr : PA X es t) (hs : starEach (e :: es) X.env = (false, eval e X.env) :: starEach es X.env := by rfl) : PA X (e :: es) (tCons te t) := by
 intro pos pins s σ H Q I h
 rw [hs]
 show wpAny _ _ (spliced ((false, eval e X.env) :: backTo pos (starEach es X.env))) _ _ s
 refine Calls.spliced_cons (thn (ha pins s σ H _ I h) fun u s1 ⟨x, H1, I1, r1, q1⟩ => ?_)
 exact thn (hr pos pins s1 σ H1 _ I1 q1) fun us s2 ⟨xs, H2, I2, r2, q2⟩ => ⟨x :: xs, H2, I2, .cons r1 r2, q2⟩
def tTup (t : TA) : TE := fun σ H Q => t σ H fun xs H1 => xs.length <= sizeLine /\ ∀ p, H1 p = none -> Q (.ref p) (upd H1 p (.tup xs))
def tLst (t : TA) : TE := fun σ H Q => t σ H fun xs H1 => xs.length <= sizeLine /\ ∀ p, H1 p = none -> Q (.ref p) (upd H1 p (.lst xs))
theorem zbj {x1} (h : PA X es t) : PE X (.Tuple es x1 pos) (tTup t) := by
 intro pins s σ H Q I hq
 refine wpAny_Tuple_spliced (thn (h pos pins s σ H _ I hq) fun us s1 ⟨xs, H1, I1, r, z, q⟩ => ⟨by rw [<- r.length]; exact z, ?_⟩)
 have hf : H1 s1.heap.objs.size = none := I1.hok.fresh (Nat.le_refl _)
 refine ⟨.ref s1.heap.objs.size, upd H1 s1.heap.objs.size (.tup xs), I1.laid (t' := s1.toks) (fun b u e => Heap.get?_push_of_some _ e) (Nat.le_refl _) ?_, rfl, q _ hf⟩
 exact ⟨z, us, r, ⟨_, Heap.get?_push_size _ rfl, rfl, _, rfl⟩⟩
theorem zbu (h : PA X es t) : PE X (.List es pos) (tLst t) := by
 intro pins s σ H Q I hq
 refine wpAny_List_spliced (thn (h pos pins s σ H _ I hq) fun us s1 ⟨xs, H1, I1, r, z, q⟩ => ⟨by rw [<- r.length]; exact z, ?_⟩)
 have hf : H1 s1.heap.objs.size = none := I1.hok.fresh (Nat.le_refl _)
 refine ⟨.ref s1.heap.objs.size, upd H1 s1.heap.objs.size (.lst xs), I1.laid (t' := s1.toks) (fun b u e => Heap.get?_push_of_some _ e) (Nat.le_refl _) ?_, rfl, q _ hf⟩
 exact ⟨z, us, 0, r, Heap.get?_push_size _ rfl⟩
end
abbrev Sp := List V -> Hp -> VK -> XK -> Prop
abbrev CXT := List Env -> Hp -> Shared -> XK -> Value -> Shared -> Prop
structure Env0 (P : Program) (w : World) (K : PySem.W.Frag) (mg : Str -> Option Value) (base : Heap) (A : Around) (outer : List Env) (s : Shared) (H : Hp) : Prop where
 frames : A.frames = some outer
 mod : Mod K mg base
 bs : ∀ b o, base.get? b = some o -> s.heap.get? b = some o /\ H b = none
 bsz : base.objs.size <= s.heap.objs.size
 funs : s.heap.FunFrames base outer
 frf : ∀ b ∈ frs outer, H b = none
 hok : HOk P w H s.heap
 bare : AllBare s.gens
def CE (outer : List Env) (P : Program) (w : World) (H : Hp) (s : Shared) (Q : VK) (u : Value) (s' : Shared) : Prop :=
 ∃ v H', s'.os = s.os /\ AllBare s'.gens /\ Un (frs outer) [] H H' s.heap s'.heap /\ HOk P w H' s'.heap /\ RelV v u /\ Q v H'
def CR (CX : CXT) (outer : List Env) (P : Program) (w : World) (H : Hp) (s : Shared) (Q : VK) (E : XK) (r : Result) (s' : Shared) : Prop :=
 match r with
 | .ok (.ret u) => CE outer P w H s Q u s'
 | .ok _ => False
 | .error e => CX outer H s E e s'
structure FnOk (P : Program) (w : World) (K : PySem.W.Frag) (mg : Str -> Option Value) (base : Heap) (CX : CXT) (k : Nat) (f : Addr) (fd : FuncData) (ps : List Str) (sp : Sp) : Prop where
 len : ∀ vs H Q E, sp vs H Q E -> vs.length = ps.length
 run : ∀ (A : Around) (outer : List Env) (s : Shared) (H : Hp) (args : Args) (us : List Value) (vs : List V) (Q : VK) (E : XK), Room k A -> Env0 P w K mg base A outer s H -> BindsTo s fd args (ps.zip us) -> Vals vs us -> sp vs H Q E ->
  codeAny (model P w) A (.call (.ref f) args) (CR CX outer P w H s Q E) s
section
variable {X : Cx} {pins : List (Addr × Obj)} {σ : St} {H : Hp} {s s' : Shared}
theorem Inv.env0 (I : Inv X pins σ H s) : Env0 X.prog X.w X.K X.mg X.base X.A X.stack s H :=
 ⟨I.ok.frames, I.ok.mod, I.bs, Nat.le_trans I.ok.bsz I.sz, I.stack, I.stkFree, I.hok, I.bare⟩
theorem Inv.after {Q : VK} {u : Value} (I : Inv X pins σ H s) (h : CE X.stack X.prog X.w H s Q u s') : EP X pins σ Q u s' := by
 obtain ⟨v, H', os, bare, un, hok, r, q⟩ := h
 obtain ⟨hh, g, d, t, os'⟩ := s'
 obtain rfl : os' = s.os := os
 exact ⟨v, H', I.call (h' := hh) (g' := g) (d' := d) (t' := t) (ch := []) un hok bare (fun b z => absurd z (by simp)), r, q⟩
end
def tCall (sp : Sp) (dvs : List V) (E : XK) (t : TA) : TE := fun σ H Q => t σ H fun vs H1 => sp (vs ++ dvs) H1 Q E
def Binds (K : PySem.W.Frag) (fd : FuncData) (ps : List Str) (ds : List Value) : Prop :=
 ∀ (s : Shared) (us : List Value), K.In s.heap -> (us ++ ds).length = ps.length -> BindsTo s fd ⟨us, []⟩ (ps.zip (us ++ ds))
theorem Binds.all {K : PySem.W.Frag} {fd : FuncData} {ps : List Str} (h : ∀ us : List Value, us.length = ps.length -> bindArgs fd ⟨us, []⟩ = pure (ps.zip us)) : Binds K fd ps [] := fun s us _ hl => by
 rw [List.append_nil] at hl ⊢
 exact .of_eq (h us hl)
def zwj (CX : CXT) (X : Cx) (E : XK) : Prop := ∀ (pins : List (Addr × Obj)) (σ : St) (H : Hp) (s : Shared) (e : Value) (s' : Shared), Inv X pins σ H s -> CX X.stack H s E e s' -> X.xe e s'
section
variable {X : Cx} {CX : CXT} {k : Nat} {f C : Addr} {fd : FuncData} {ps : List Str} {sp : Sp} {dvs : List V} {ds : List Value} {E : XK} {x m : Str} {p pos apos : Pos} {e o : Expr} {es : List Expr} {ta : TE} {t : TA}
theorem zDl {pins : List (Addr × Obj)} {σ : St} {H : Hp} {s : Shared} {Q : VK} {us : List Value} {vs : List V} (F : FnOk X.prog X.w X.K X.mg X.base CX k f fd ps sp) (hr : Room k X.A) (hb : Binds X.K fd ps ds) (hd : Vals dvs ds) (hx : zwj CX X E)
  (I : Inv X pins σ H s) (r : Vals vs us) (h : sp (vs ++ dvs) H Q E) : wpAny (model X.prog X.w) X.A (call (.ref f) us) (EP X pins σ Q) X.xe s := by
 have r2 : Vals (vs ++ dvs) (us ++ ds) := r.append hd
 have hl : (us ++ ds).length = ps.length := by rw [<- r2.length]; exact F.len _ _ _ _ h
 refine wpAny_call (codeAny_mono (F.run X.A X.stack s H ⟨us, []⟩ (us ++ ds) (vs ++ dvs) Q E hr I.env0 (hb s us I.kIn hl) r2 h) fun r s' hq => ?_)
 cases r with
 | error e => exact hx pins σ H s e s' I hq
 | ok fl =>
  cases fl with
  | ret u => exact I.after hq
  | next => exact False.elim hq
  | brk => exact False.elim hq
  | cont => exact False.elim hq
theorem zBb (F : FnOk X.prog X.w X.K X.mg X.base CX k f fd ps sp) (hr : Room k X.A) (hg : Gl X x) (hm : X.mg x = some (.ref f)) (hk : PySem.W.keepIn X.K (.ref f) = true) (hb : Binds X.K fd ps ds) (hd : Vals dvs ds) (hx : zwj CX X E)
  (ha : PA X (e :: es) t) (hdb : (x == ("__debug__" : Str)) = false := by decide) (he : starEach (e :: es) X.env = (false, eval e X.env) :: starEach es X.env := by rfl) (hpl : (backTo pos (starEach es X.env)).any (·.1) = false := by rfl) :
  PE X (.Call (.Name x p) (e :: es) [] pos) (tCall sp dvs E t) := by
 intro pins s σ H Q I h
 refine wpAny_Call_Name_kw (zuh I hg hm ?_ hdb)
 refine PySem.W.callWith_K (h₀ := X.base) I.ok.mod.kin hk (thn (ha pos pins s σ H _ I h) fun us s1 ⟨vs, H1, I1, r, q⟩ => ⟨I1.kIn, ?_⟩) he hpl
 exact zDl F hr hb hd hx I1 r q
end
section
variable {X : Cx} {CX : CXT} {k : Nat} {f C : Addr} {fd : FuncData} {ps ks : List Str} {sp : Sp} {E : XK} {x m : Str} {p pos apos kpos : Pos} {e o : Expr} {es : List Expr} {kws : List Keyword} {te ta : TE} {t tk : TA} {nm : Option Str}
variable {g : List Value -> List Value -> List Value} {gV : List V -> List V -> List V}
end
structure zan (N P : List Str) (sc : Scope) : Prop where
 kind : sc.kind = .function
 co : sc.isCoroutine = false
 gen : sc.isGenerator = false
 nd : N.Nodup
 pre : N.take P.length = P
 par : ∀ x ∈ P, sc.names.lookup x = some .local \/ sc.names.lookup x = some .cell
 nofree : ∀ y ∈ sc.names, y.2 ≠ .free
theorem zmn {kindOf : Str -> Option NameKind} {x : Str} : ∀ {binds : List (Str × Value)} {m : Str -> Option Value}, (∀ v, (x, v) ∉ binds) -> bindL kindOf binds m x = m x
 | [], _, _ => rfl
 | (n, v) :: r, m, h => by
  unfold bindL
  rw [zmn fun w hw => h w (List.mem_cons_of_mem _ hw)]
  split
  ·have : x ≠ n := by rintro rfl; exact h v List.mem_cons_self
   simp [this]
  ·rfl
theorem zmp {kindOf : Str -> Option NameKind} {x : Str} : ∀ {binds : List (Str × Value)} {m : Str -> Option Value}, (∀ v, (x, v) ∉ binds) -> bindC kindOf binds m x = m x
 | [], _, _ => rfl
 | (n, v) :: r, m, h => by
  unfold bindC
  rw [zmp fun w hw => h w (List.mem_cons_of_mem _ hw)]
  split
  ·rfl
  ·have : x ≠ n := by rintro rfl; exact h v List.mem_cons_self
   simp [this]
theorem zmo {kindOf : Str -> Option NameKind} {x : Str} {v : Value} : ∀ {P : List Str} {vs : List Value} {i : Nat} {m : Str -> Option Value}, P.Nodup -> P[i]? = some x -> vs[i]? = some v -> kindOf x = some .local ->
  bindL kindOf (P.zip vs) m x = some v
 | [], _, _, _, _, h, _, _ => by simp at h
 | _ :: _, [], _, _, _, _, h, _ => by simp at h
 | p :: P, w :: vs, 0, m, nd, h1, h2, hk => by
  simp at h1 h2; subst h1; subst h2
  show bindL kindOf ((p, w) :: P.zip vs) m p = _
  unfold bindL
  rw [zmn fun v hv => (List.nodup_cons.mp nd).1 (List.of_mem_zip hv).1, if_pos hk]
  simp
 | p :: P, w :: vs, i + 1, m, nd, h1, h2, hk => by
  show bindL kindOf ((p, w) :: P.zip vs) m x = _
  unfold bindL
  exact zmo (i := i) (List.nodup_cons.mp nd).2 (by simpa using h1) (by simpa using h2) hk
theorem zmq {kindOf : Str -> Option NameKind} {x : Str} {v : Value} : ∀ {P : List Str} {vs : List Value} {i : Nat} {m : Str -> Option Value}, P.Nodup -> P[i]? = some x -> vs[i]? = some v -> kindOf x ≠ some .local ->
  bindC kindOf (P.zip vs) m x = some v
 | [], _, _, _, _, h, _, _ => by simp at h
 | _ :: _, [], _, _, _, _, h, _ => by simp at h
 | p :: P, w :: vs, 0, m, nd, h1, h2, hk => by
  simp at h1 h2; subst h1; subst h2
  show bindC kindOf ((p, w) :: P.zip vs) m p = _
  unfold bindC
  rw [zmp fun v hv => (List.nodup_cons.mp nd).1 (List.of_mem_zip hv).1, if_neg hk]
  simp
 | p :: P, w :: vs, i + 1, m, nd, h1, h2, hk => by
  show bindC kindOf ((p, w) :: P.zip vs) m x = _
  unfold bindC
  exact zmq (i := i) (List.nodup_cons.mp nd).2 (by simpa using h1) (by simpa using h2) hk
def start (N : List Str) (vs : List V) : St := vs.map some ++ List.replicate (N.length - vs.length) none
def cxOf (CX : CXT) (P : Program) (w : World) (K : PySem.W.Frag) (mg : Str -> Option Value) (base : Heap) (N : List Str) (qual : Str) (scope : Scope) (f : Addr) (cd : Value) (A : Around) (outer : List Env) (s : Shared) (H : Hp) (E : XK) : Cx where
 prog := P
 w := w
 K := K
 mg := mg
 base := base
 A := A.deeper (envOfC qual scope s.heap.objs.size f cd)
 N := N
 s₀ := s
 H₀ := H
 env := envOfC qual scope s.heap.objs.size f cd
 outer := outer
 stack := envOfC qual scope s.heap.objs.size f cd :: outer
 ex := []
 calm := true
 fn := fun _ => true
 pn := []
 xe := fun e s' => wpAny (model P w) (A.deeper (envOfC qual scope s.heap.objs.size f cd)) (leaving (envOfC qual scope s.heap.objs.size f cd) e) (fun _ s'' => CX outer H s E e s'') (fun e' s'' => CX outer H s E e' s'') s'
theorem zqm {sc : Scope} {n : Nat} {x : Str} (h : sc.names.lookup x = some .cell) : ∃ c, (cellsFrom n sc.names []).lookup x = some c := by
 have q := PySem.W.cellsFrom_some sc.names n [] (.inl h)
 exact Option.isSome_iff_exists.mp q
theorem zut {CX : CXT} {P : Program} {w : World} {K : PySem.W.Frag} {mg : Str -> Option Value} {base : Heap} {N ps : List Str} {qual : Str} {scope : Scope} {f : Addr} {cd : Value} {A : Around} {outer : List Env} {s s1 : Shared} {H : Hp} {E : XK} {us : List Value} {vs : List V}
  (S : zan N ps scope) (hd : A.handled = none) (e0 : Env0 P w K mg base A outer s H) (hl : vs.length = ps.length) (r : Vals vs us)
  (x : InCallC s s.heap.objs.size (bindL (envOfC qual scope s.heap.objs.size f cd).kindOf (ps.zip us) fun _ => none) (cellsFrom (s.heap.objs.size + 1) scope.names []) (bindC (envOfC qual scope s.heap.objs.size f cd).kindOf (ps.zip us) fun _ => none) s1) :
  Inv (cxOf CX P w K mg base N qual scope f cd A outer s H E) [] (start N vs) H s1 := by
 have hpl : ps.length <= N.length := by have := congrArg List.length S.pre; rw [List.length_take] at this; lia
 obtain ⟨h1, tk, rfl, hk⟩ := x.done
 have noA : ∀ b : Addr, b ∉ (cxOf CX P w K mg base N qual scope f cd A outer s H E).ex := fun b z => absurd (show b ∈ ([] : List Addr) from z) (by simp)
 refine ⟨⟨e0.mod, S.kind, rfl, rfl, Nat.le_refl _, fun y z c h1 h2 => ?_, fun y hy => ?_, fun y c _ h => ?_, fun _ => hd, Around.frames_deeper e0.frames, .inr ⟨rfl, rfl⟩, fun b z => absurd z (noA b), e0.bs, e0.bsz, fun b _ _ => noA b, fun b z => absurd z (noA b), e0.funs, e0.frf⟩,
  rfl, e0.bare, Un.kept hk, ⟨_, x.toInCall.ns, fun i y v h1 h2 h3 => ?_⟩, fun y c h => ⟨_, x.cell y c h⟩, e0.hok.fresh (Nat.le_refl _), fun y c h => ?_, fun p hp => absurd (show p ∈ ([] : List (Addr × Obj)) from hp) (by simp), e0.hok.kept hk, ?_⟩
 ·exact name_of_addr x.apart (PySem.mem_of_lookup h1) (PySem.mem_of_lookup h2)
 ·have hy : scope.names.lookup y = some .cell \/ scope.names.lookup y = some .free := hy
  rcases hy with hy | hy
  ·exact zqm hy
  ·exact absurd rfl (S.nofree _ (PySem.mem_of_lookup hy))
 ·exact Nat.le_of_lt (x.above y c (PySem.mem_of_lookup h))
 ·have hi : i < vs.length := by
   unfold start at h2
   by_cases hi : i < vs.length
   ·exact hi
   ·rw [List.getElem?_append_right (by simpa using hi)] at h2
    rw [List.getElem?_replicate] at h2
    split at h2 <;> cases h2
  have ha : vs[i]? = some v := by
   unfold start at h2
   rw [List.getElem?_append_left (by simpa using hi), List.getElem?_map] at h2
   cases e : vs[i]? with
   | none => rw [e] at h2; cases h2
   | some a => rw [e] at h2; cases h2; rfl
  obtain ⟨u, hu, rv⟩ := r.get ha
  have hp : ps[i]? = some y := by
   rw [<- S.pre, List.getElem?_take_of_lt (by lia)]; exact h1
  have ndP : ps.Nodup := by rw [<- S.pre]; exact S.nd.sublist (List.take_sublist _ _)
  refine ⟨u, rv, ?_⟩
  rcases S.par y (List.mem_of_getElem? hp) with k | k
  ·exact .inl ⟨k, zmo ndP hp hu k⟩
  ·obtain ⟨c, e⟩ := zqm (n := s.heap.objs.size + 1) k
   refine .inr ⟨.inl k, c, e, ?_⟩
   have q := x.cell y c e
   rw [zmq ndP hp hu (by show scope.names.lookup y ≠ _; rw [k]; decide)] at q
   exact q
 ·exact e0.hok.fresh (Nat.le_of_lt (x.above y c (PySem.mem_of_lookup h)))
 ·unfold start
  show _ = N.length
  rw [List.length_append, List.length_map, List.length_replicate]
  lia
theorem fn_of {CX : CXT} {P : Program} {w : World} {K : PySem.W.Frag} {mg : Str -> Option Value} {base : Heap} {k : Nat} {f : Addr} {name qual : Str} {params : Arguments} {body : List Stmt} {scope : Scope} {dV kV doc pm cdv ct oc : Value} {an od : Option Addr}
  {osl : Array (Option Value)} {N ps : List Str} {sp : Sp} (lk : K.lookup f = some ⟨oc, od, .func (PySem.W.fnOf name qual params body scope dV kV doc pm an cdv ct), osl⟩) (hcd : PySem.W.codeIn K cdv qual = true) (S : zan N ps scope)
  (len : ∀ vs H Q E, sp vs H Q E -> vs.length = ps.length)
  (hbody : ∀ (A : Around) (outer : List Env) (s : Shared) (H : Hp) (vs : List V) (Q : VK) (E : XK), Room k (A.deeper (envOfC qual scope s.heap.objs.size f cdv)) -> sp vs H Q E ->
   ∃ t, PSs (cxOf CX P w K mg base N qual scope f cdv A outer s H E) body t /\ t { nx := fun _ H' => Q .non H', rt := Q } (start N vs) H) :
  FnOk P w K mg base CX (k + 1) f (PySem.W.fnOf name qual params body scope dV kV doc pm an cdv ct) ps sp := by
 refine ⟨len, fun A outer s H args us vs Q E hr e0 hb r hsp => ?_⟩
 have hl := len _ _ _ _ hsp
 have KX : K.In s.heap := e0.mod.kin.keeps fun b o e => (e0.bs b o e).1
 have lim : s.heap.NoLimit := e0.mod.nolimit.keeps fun b o e => (e0.bs b o e).1
 have hkind : ∀ y ∈ ps.zip us, scope.names.lookup y.1 = some .local \/ (scope.names.lookup y.1 = some .cell /\ ((cellsFrom (s.heap.objs.size + 1) scope.names []).lookup y.1).isSome = true) := fun ⟨n, v⟩ hy => by
  rcases S.par n (List.of_mem_zip hy).1 with q | q
  ·exact .inl q
  ·exact .inr ⟨q, PySem.W.cellsFrom_some _ _ _ (.inl q)⟩
 refine codeAny_call_function hr.depth (KX _ _ lk) rfl S.co S.gen rfl (PySem.W.codeRec_of KX hcd) (hb _ _ _ _ ?_)
 refine wpAny_newFunctionEnv_cells S.kind hkind fun env he s1 x => ?_
 subst he
 refine ⟨lim.keeps x.toInCall.keep, codeAny_func ?_⟩
 obtain ⟨t, ht, hq⟩ := hbody A outer s H vs Q E (hr.deeper _) hsp
 have I : Inv (cxOf CX P w K mg base N qual scope f cdv A outer s H E) [] (start N vs) H s1 := zut S hr.hd e0 hl r x
 refine wpAny_mono (ht [] s1 (start N vs) H _ I hq) (fun fl s' hs => ?_) fun e s' hs => hs
 have fin : ∀ {σ' : St} {H' : Hp} {v : V} {u : Value}, Inv (cxOf CX P w K mg base N qual scope f cdv A outer s H E) [] σ' H' s' -> RelV v u -> Q v H' -> CE outer P w H s Q u s' :=
  fun {σ' H' v u} J rv q => ⟨v, H', J.os, J.bare, J.base, J.hok, rv, q⟩
 cases fl with
 | ret u =>
  obtain ⟨v, σ', H', J, rv, q⟩ := hs
  exact fin J rv q
 | next =>
  obtain ⟨σ', H', J, q⟩ := hs
  exact fin (v := V.non) (u := Value.none) J rfl q
 | brk =>
  obtain ⟨_, _, _, q⟩ := hs
  exact False.elim q
 | cont =>
  obtain ⟨_, _, _, q⟩ := hs
  exact False.elim q
section
variable {X : Cx} {x : Str} {p pos : Pos} {e : Expr} {es : List Expr} {t : TA} {id T : String} {r : List V -> Hp -> VK -> Prop}
def tCB (r : List V -> Hp -> VK -> Prop) (t : TA) : TE := fun σ H Q => t σ H fun vs H1 => r vs H1 Q
theorem zaz (hc : CallR X (.builtin id) r) (hg : Gl X x) (hm : X.mg x = none) (hv : bootBuiltins x = some (.builtin id)) (ha : PA X (e :: es) t) (hn : x ≠ "__name__" := by decide) (hdb : (x == ("__debug__" : Str)) = false := by decide)
  (he : starEach (e :: es) X.env = (false, eval e X.env) :: starEach es X.env := by rfl) (hpl : (backTo pos (starEach es X.env)).any (·.1) = false := by rfl) : PE X (.Call (.Name x p) (e :: es) [] pos) (tCB r t) := by
 intro pins s σ H Q I h
 refine wpAny_Call_Name_kw (zge I hg hm hv ?_ hn hdb)
 exact PyProof.Rows.callWith_builtin1 (thn (ha pos pins s σ H _ I h) fun us s1 ⟨vs, H1, I1, r1, q1⟩ => hc pins s1 σ H1 vs us Q I1 r1 q1) he hpl
theorem zbh (hc : CallR X (.type T) r) (hg : Gl X x) (hm : X.mg x = none) (hv : bootBuiltins x = some (.type T)) (ha : PA X (e :: es) t) (hn : x ≠ "__name__" := by decide) (hdb : (x == ("__debug__" : Str)) = false := by decide)
  (he : starEach (e :: es) X.env = (false, eval e X.env) :: starEach es X.env := by rfl) (hpl : (backTo pos (starEach es X.env)).any (·.1) = false := by rfl) : PE X (.Call (.Name x p) (e :: es) [] pos) (tCB r t) := by
 intro pins s σ H Q I h
 refine wpAny_Call_Name_kw (zge I hg hm hv ?_ hn hdb)
 exact PyProof.Rows.callWith_type1 (thn (ha pos pins s σ H _ I h) fun us s1 ⟨vs, H1, I1, r1, q1⟩ => hc pins s1 σ H1 vs us Q I1 r1 q1) he hpl
end
end L2
namespace HT
open PySem PyProof.Rows
def lexLt : List Int -> List Int -> Bool
 | [], [] => false
 | [], _ :: _ => true
 | _ :: _, [] => false
 | x :: xs, y :: ys => if x = y then lexLt xs ys else decide (x < y)
theorem lexLt_cons (x y : Int) (xs ys : List Int) : lexLt (x :: xs) (y :: ys) = if x = y then lexLt xs ys else decide (x < y) := rfl
section
open PySem.SeqAt
open PySem.AutoSeq1 (wpAny_loadPart')
open PySem.MeetsSeq PySem.MeetsSeq2 PySem.MeetsSeq3
end
section
variable {prog : Program} {w : World} {A : Around} {E : Value -> Shared -> Prop} {s : Shared}
theorem cat_tup {t b : Addr} {vs ws : List Value} {Q : Value -> Shared -> Prop} (ht : IsTup s.heap t vs.toArray) (hb : IsTup s.heap b ws.toArray) (hv : vs ≠ [])
  (h1 : ws = [] -> Q (.ref t) s) (h2 : ws ≠ [] -> Q (.ref s.heap.objs.size) { s with heap := s.heap.push { cls := .type "tuple", data := .seq (vs ++ ws).toArray } })
  (hsz : vs.length + ws.length <= sizeLine) : wpAny (model prog w) A (binaryOp .Add (.ref t) (.ref b)) Q E s := by
 obtain ⟨⟨cls, dd, data, sl⟩, ho, hc, n, hd⟩ := id ht
 obtain ⟨⟨cls2, dd2, data2, sl2⟩, ho2, hc2, n2, hd2⟩ := id hb
 simp only at hc hd hc2 hd2
 subst hc hd hc2 hd2
 have e : vs.toArray ++ ws.toArray = (vs ++ ws).toArray := by simp
 by_cases hw : ws = []
 ·exact concat_meets ⟨_, ho, rfl⟩ ⟨_, ho2, rfl⟩ noFill_tuple_add seq_tuple_add PySem.F.slot_tuple_add PySem.F.entry_tuple_add (PySem.F.args_tuple_add_2 _ _)
   (tuple_addW1 t b vs.toArray ws.toArray n n2 dd dd2 sl sl2 (by simpa using hv) (by simp [hw])) ⟨ho, ho2, h1 hw⟩
 ·refine concat_meets ⟨_, ho, rfl⟩ ⟨_, ho2, rfl⟩ noFill_tuple_add seq_tuple_add PySem.F.slot_tuple_add PySem.F.entry_tuple_add (PySem.F.args_tuple_add_2 _ _)
   (tuple_addW2 t b vs.toArray ws.toArray n n2 dd dd2 sl sl2 (by simpa using hv) (by simpa using hw) (by rw [List.size_toArray, List.size_toArray]; exact hsz)) ⟨ho, ho2, ?_⟩
  rw [e]
  exact h2 hw
def sIx (n d : Nat) : Option Int -> Nat
 | none => d
 | some v => if v < 0 then (v + (n : Int)).toNat else min v.toNat n
theorem sIx_nat (n d k : Nat) : sIx n d (some (k : Int)) = min k n := by
 show (if (k : Int) < 0 then ((k : Int) + (n : Int)).toNat else min (k : Int).toNat n) = min k n
 rw [if_neg (by lia), Int.toNat_natCast]
end
end HT
namespace L2
open PySem PySem.Spec PyProof.Rows
abbrev TO := St -> Hp -> (Option Int -> Hp -> Prop) -> Prop
def PO (X : Cx) (e : Option Expr) (t : TO) : Prop :=
 ∀ (pins : List (Addr × Obj)) (s : Shared) (σ : St) (H : Hp) (Q : Option Int -> Hp -> Prop), Inv X pins σ H s -> t σ H Q ->
  wpAny (model X.prog X.w) X.A (evalPart e X.env) (fun u s' => ∃ o H', Inv X pins σ H' s' /\ IsPart u o /\ Q o H') X.xe s
def tPart (t : TE) : TO := fun σ H Q => t σ H fun x H1 => ∃ i, x = .int i /\ Q (some i) H1
theorem zrg {ns : List Int} : ∀ {us : List Value}, Vals (ns.map V.int) us -> IntsAre us ns := by
 induction ns with
 | nil => intro us r; rw [List.map_nil] at r; cases r; exact .nil
 | cons n ns ih =>
  intro us r
  rw [List.map_cons] at r
  cases r with
  | cons r1 r2 =>
   obtain ⟨t, e⟩ := r1
   subst e
   exact .cons n t (ih r2)
section
variable {X : Cx} {e : Expr} {te : TE} {lo hi : Option Expr} {tl th : TO} {pos p2 : Pos}
theorem zjy (h : PE X e te) : PO X (some e) (tPart te) := by
 intro pins s σ H Q I hw
 rw [evalPart_some]
 refine thn (h pins s σ H _ I hw) fun u s1 ⟨x, H1, I1, r1, q1⟩ => ?_
 obtain ⟨i, rfl, q⟩ := q1
 obtain ⟨t, rfl⟩ := r1
 exact ⟨some i, H1, I1, .int i t, q⟩
def SlR (X : Cx) (r : V -> Option Int -> Option Int -> Hp -> VK -> Prop) : Prop :=
 ∀ (pins : List (Addr × Obj)) (s : Shared) (σ : St) (H : Hp) (x : V) (v vl vu : Value) (lo hi : Option Int) (sl : Addr) (Q : VK), Inv X pins σ H s -> RelV x v -> s.heap.IsSliceOf sl vl vu .none -> IsPart vl lo -> IsPart vu hi -> r x lo hi H Q ->
  ∃ T id, typeLookup (.type T) "__getitem__" = pure (some (.builtin id)) /\ s.TypeIs v T /\ wpAny (model X.prog X.w) X.A (getItem v (.ref sl)) (EP X pins σ Q) X.xe s
def tSl (r : V -> Option Int -> Option Int -> Hp -> VK -> Prop) (te : TE) (tl th : TO) : TE := fun σ H Q => te σ H fun x H1 => tl σ H1 fun l H2 => th σ H2 fun u H3 => r x l u H3 Q
theorem zpf {r : V -> Option Int -> Option Int -> Hp -> VK -> Prop} (hr : SlR X r) (he : PE X e te) (hl : PO X lo tl) (hu : PO X hi th) : PE X (.Subscript e (.Slice lo hi none p2) pos) (tSl r te tl th) := by
 intro pins s σ H Q I h
 refine Subscript_ (thn (he pins s σ H _ I h) fun v s1 ⟨x, H1, I1, r1, q1⟩ => ?_)
 refine wpAny_Slice (thn (hl pins s1 σ H1 _ I1 q1) fun vl s2 ⟨l, H2, I2, pl, q2⟩ => thn (hu pins s2 σ H2 _ I2 q2) fun vu s3 ⟨u, H3, I3, pu, q3⟩ => ?_)
 rw [evalPart_none]
 refine wpAny_pure ?_
 have I4 : Inv X pins σ H3 { s3 with heap := s3.heap.push { cls := .type "slice", data := .fields #[vl, vu, .none] } } := I3.kept (t' := s3.toks) fun b ob q => Heap.get?_push_of_some _ q
 obtain ⟨T, id, hT, ht, hg⟩ := hr pins { s3 with heap := s3.heap.push { cls := .type "slice", data := .fields #[vl, vu, .none] } } σ H3 x v vl vu l u s3.heap.objs.size Q I4 r1 (Heap.IsSliceOf.new ..) pl pu q3
 show wpAny (model X.prog X.w) X.A (subscriptTail e (.Slice lo hi none p2) v (.ref s3.heap.objs.size)) (EP X pins σ Q) X.xe { s3 with heap := s3.heap.push { cls := .type "slice", data := .fields #[vl, vu, .none] } }
 exact tail_any (ops := [.ref s3.heap.objs.size, v]) ht hT hg (by with_unfolding_all rfl)
def cutV (xs : List V) (lo hi : Option Int) : List V := (xs.drop (HT.sIx xs.length 0 lo)).take (HT.sIx xs.length xs.length hi - HT.sIx xs.length 0 lo)
theorem zns (xs : List V) (lo hi : Option Int) : (cutV xs lo hi).length <= xs.length := by
 unfold cutV
 rw [List.length_take, List.length_drop]
 lia
def rCatT (K : PySem.W.Frag) : R2 := fun x y H Q => ∃ a b xs ys, x = .ref a /\ y = .ref b /\ SqT K H a xs /\ SqT K H b ys /\ xs ≠ [] /\ xs.length + ys.length <= sizeLine /\
 (ys = [] -> Q (.ref a) H) /\ (ys ≠ [] -> ∀ p, H p = none -> Q (.ref p) (upd H p (.tup (xs ++ ys))))
theorem Vals.nil_iff {xs : List V} {us : List Value} (r : Vals xs us) : us = [] ↔ xs = [] := by
 cases r with
 | nil => simp
 | cons _ _ => simp
theorem ztu : OpR X (binaryOp .Add) (rCatT X.K) := by
 intro pins s σ H x y v u Q I rx ry h
 obtain ⟨a, b, xs, ys, rfl, rfl, ha, hb, hx, hz, q1, q2⟩ := h
 cases rx
 cases ry
 obtain ⟨its, r1, p1, _⟩ := I.tuple ha
 obtain ⟨its2, r2, p2, _⟩ := I.tuple hb
 refine HT.cat_tup p1 p2 (fun z => hx (r1.nil_iff.mp z)) (fun z => ⟨.ref a, H, I, rfl, q1 (r2.nil_iff.mp z)⟩) (fun z => ?_) (by rw [<- r1.length, <- r2.length]; exact hz)
 refine ⟨.ref s.heap.objs.size, _, I.laid (t' := s.toks) (o := .tup (xs ++ ys)) (fun b ob q => Heap.get?_push_of_some _ q) (Nat.le_refl _) ?_, rfl, q2 (fun w => z (r2.nil_iff.mpr w)) _ (I.hok.fresh (Nat.le_refl _))⟩
 exact ⟨by rw [List.length_append]; exact hz, _, r1.append r2, IsTup.new _ _⟩
end
def ixN (n : Nat) (i : Int) : Option Nat := if 0 <= i then (if i < n then some i.toNat else none) else if -(n : Int) <= i then some (i + n).toNat else none
def atI {α : Type} (xs : List α) (i : Int) : Option α := (ixN xs.length i).bind fun j => xs[j]?
theorem zuo {n : Nat} {i : Int} {j : Nat} (h : ixN n i = some j) : seqIndex? i n = some j /\ j < n /\ -(n : Int) <= i /\ i < n := by
 unfold ixN at h
 by_cases h0 : 0 <= i
 ·rw [if_pos h0] at h
  by_cases h1 : i < n
  ·rw [if_pos h1] at h
   have e : i.toNat = j := Option.some.inj h
   exact ⟨by rw [seqIndex_of h0 h1, e], by lia, by lia, h1⟩
  ·rw [if_neg h1] at h; cases h
 ·rw [if_neg h0] at h
  by_cases h1 : -(n : Int) <= i
  ·rw [if_pos h1] at h
   have e : (i + n).toNat = j := Option.some.inj h
   exact ⟨by rw [seqIndex_neg (by lia) h1, e], by lia, h1, by lia⟩
  ·rw [if_neg h1] at h; cases h
theorem zwe {α : Type} {xs : List α} {i : Int} {v : α} (h : atI xs i = some v) : ∃ j, seqIndex? i xs.length = some j /\ xs[j]? = some v /\ j < xs.length /\ -(xs.length : Int) <= i /\ i < xs.length := by
 unfold atI at h
 cases e : ixN xs.length i with
 | none => rw [e] at h; cases h
 | some j =>
  rw [e] at h
  obtain ⟨h1, h2, h3, h4⟩ := zuo e
  exact ⟨j, h1, h, h2, h3, h4⟩
theorem zar {α : Type} {xs : List α} {j : Nat} {v : α} (h : xs[j]? = some v) : atI xs (j : Int) = some v := by
 have hj : j < xs.length := (List.getElem?_eq_some_iff.mp h).1
 have e : ixN xs.length (j : Int) = some j := by
  unfold ixN
  rw [if_pos (by lia), if_pos (by lia)]; simp
 unfold atI; rw [e]; exact h
theorem zqp {α : Type} (xs : List α) (v : α) : atI (xs ++ [v]) (-1) = some v := by
 have hl : (xs ++ [v]).length = xs.length + 1 := by simp
 have e : ixN (xs ++ [v]).length (-1) = some xs.length := by
  unfold ixN
  rw [hl, if_neg (by decide), if_pos (by lia)]
  congr 1
  lia
 unfold atI
 rw [e]
 show (xs ++ [v])[xs.length]? = some v
 simp
def zCt (b : Expr) : Prop := ∀ o i, subscripted b false o i = operate [o, i] (getItem o i)
def IxR (X : Cx) (r : R2) : Prop :=
 ∀ (value slice : Expr) (pins : List (Addr × Obj)) (s : Shared) (σ : St) (H : Hp) (x y : V) (v u : Value) (Q : VK), Inv X pins σ H s -> RelV x v -> RelV y u -> r x y H Q ->
  subscripted slice false v u = operate [v, u] (getItem v u) -> wpAny (model X.prog X.w) X.A (subscriptTail value slice v u) (EP X pins σ Q) X.xe s
def MtR (X : Cx) (id : String) (r : V -> List V -> Hp -> VK -> Prop) : Prop :=
 ∀ (pins : List (Addr × Obj)) (s : Shared) (σ : St) (H : Hp) (x : V) (xs : List V) (v : Value) (us : List Value) (Q : VK), Inv X pins σ H s -> RelV x v -> Vals xs us -> r x xs H Q ->
  wpAny (model X.prog X.w) X.A (call (.builtin id) (v :: us)) (EP X pins σ Q) X.xe s
section
variable {X : Cx} {a b : Expr} {ta tb : TE} {pos : Pos}
theorem pe_ix {r : R2} (hr : IxR X r) (ha : PE X a ta) (hb : PE X b tb) (hs : zCt b) : PE X (.Subscript a b pos) (tOp r ta tb) := by
 intro pins s σ H Q I h
 exact Subscript_ (binT ha hb I h fun v u s2 x y H2 I2 rx ry q => hr a b pins s2 σ H2 x y v u Q I2 rx ry q (hs _ _))
def rIxL (K : PySem.W.Frag) : R2 := fun x y H Q => ∃ p xs i v, x = .ref p /\ y = .int i /\ SqL K H p xs /\ atI xs i = some v /\ Q v H
def rIxT (K : PySem.W.Frag) : R2 := fun x y H Q => ∃ p xs i v, x = .ref p /\ y = .int i /\ SqT K H p xs /\ atI xs i = some v /\ Q v H
theorem zBn : IxR X (rIxL X.K) := by
 intro value slice pins s σ H x y v u Q I rx ry h hs
 obtain ⟨p, xs, i, z, rfl, rfl, hq, he, q⟩ := h
 cases rx
 obtain ⟨t, rfl⟩ := ry
 obtain ⟨its, r, pl, hz⟩ := I.list hq
 obtain ⟨j, h1, h2, h3, h4, h5⟩ := zwe he
 obtain ⟨w, ew, rw'⟩ := r.get h2
 have hl := r.length
 have hn := zlv
 have fin : EP X pins σ Q w s := ⟨z, H, I, rw', q⟩
 by_cases h0 : 0 <= i
 ·have hj : i.toNat = j := by
   rw [seqIndex_of h0 h5] at h1
   exact Option.some.inj h1
  exact item_listR pl.isList h0 (by lia) (by rw [hj]; simpa using ew) fin hs
 ·have hj : (i + (its.toArray.size : Int)).toNat = j := by
   rw [seqIndex_neg (by lia) h4] at h1
   rw [List.size_toArray, <- hl]
   exact Option.some.inj h1
  exact subscriptTail_builtinR (x := w) pl.isList.typeIs slot_list_getitem.lookup
   (wpAny_getItem_list_neg (Q := fun r s' => r = w /\ EP X pins σ Q r s') pl.isList (by lia) (by rw [List.size_toArray] <;> lia) (by lia) (by rw [hj]; simpa using ew) ⟨rfl, fin⟩) hs
theorem zEj : IxR X (rIxT X.K) := by
 intro value slice pins s σ H x y v u Q I rx ry h hs
 obtain ⟨p, xs, i, z, rfl, rfl, hq, he, q⟩ := h
 cases rx
 obtain ⟨t, rfl⟩ := ry
 obtain ⟨its, r, pl, hz⟩ := I.tuple hq
 obtain ⟨j, h1, h2, h3, h4, h5⟩ := zwe he
 obtain ⟨w, ew, rw'⟩ := r.get h2
 have hl := r.length
 have hn := zlv
 have fin : EP X pins σ Q w s := ⟨z, H, I, rw', q⟩
 exact subscriptTail_builtinR (x := w) pl.typeIs slot_tuple_getitem.lookup
  (getItem_tuple (j := j) (Q := fun r s' => r = w /\ EP X pins σ Q r s') pl (by lia) (by lia) (by rw [List.size_toArray, <- hl]; exact h1) (by simpa using ew) ⟨rfl, fin⟩) hs
theorem zra (its : List Value) (n j : Nat) (u : Value) : Obj.mapSeq (·.setIfInBounds j u) { cls := .type "list", data := .seq its.toArray n } = { cls := .type "list", data := .seq (its.set j u).toArray n } := by
 simp [Obj.mapSeq]
theorem Inv.lst {pins : List (Addr × Obj)} {σ : St} {H : Hp} {s : Shared} {p : Addr} {xs : List V} (I : Inv X pins σ H s) (h : H p = some (.lst xs)) :
  ∃ (its : List Value) (n : Nat), Vals xs its /\ s.heap.get? p = some { cls := .type "list", data := .seq its.toArray n } /\ xs.length <= sizeLine := by
 obtain ⟨z, its, n, r, e⟩ := I.hok p _ h
 exact ⟨its, n, r, e, z⟩
theorem Inv.lstUpd {pins : List (Addr × Obj)} {σ : St} {H : Hp} {s : Shared} {p : Addr} {xs ys : List V} {its its' : List Value} {n n' : Nat} {f : Obj -> Obj} (I : Inv X pins σ H s) (h : H p = some (.lst xs))
  (ho : s.heap.get? p = some { cls := .type "list", data := .seq its.toArray n }) (hf : f { cls := .type "list", data := .seq its.toArray n } = { cls := .type "list", data := .seq its'.toArray n' }) (r : Vals ys its') (hz : ys.length <= sizeLine) (t : Nat) :
  Inv X pins σ (upd H p (.lst ys)) { s with heap := s.heap.update p f, toks := t } := by
 have e : (s.heap.update p f).get? p = some { cls := .type "list", data := .seq its'.toArray n' } := by
  rw [Heap.get?_update_self f ho (by rw [hf] <;> rfl), hf]
 refine I.write (x := p) (e := p) (by rw [h]; trivial) (.inl rfl) (fun b u hb q => (Heap.get?_update_other _ _ (Ne.symm hb)).trans q) ⟨_, e⟩ ?_
 exact ⟨hz, its', n', r, e⟩
def rSetL : V -> V -> V -> Hp -> (Hp -> Prop) -> Prop := fun o i v H Q => ∃ p xs k j, o = .ref p /\ i = .int k /\ H p = some (.lst xs) /\ ixN xs.length k = some j /\ Q (upd H p (.lst (xs.set j v)))
theorem zjt : PSet X rSetL := by
 intro pins s σ H o i v ov iv u Q I ro ri rv h
 obtain ⟨p, xs, k, j, rfl, rfl, hp, hj, q⟩ := h
 cases ro
 obtain ⟨t, rfl⟩ := ri
 obtain ⟨its, n, r, ho, hz⟩ := I.lst hp
 obtain ⟨h1, h2, h3, h4⟩ := zuo hj
 have hl := r.length
 have hn := zlv
 have I' : Inv X pins σ (upd H p (.lst (xs.set j v))) { s with heap := s.heap.update p (Obj.mapSeq (·.setIfInBounds j u)) } :=
  I.lstUpd hp ho (zra its n j u) (r.set rv j) (by rw [List.length_set]; exact hz) s.toks
 by_cases h0 : 0 <= k
 ·have hk : k.toNat = j := by
   rw [seqIndex_of h0 h4] at h1
   exact Option.some.inj h1
  exact PySem.W.ki_setAt ho h0 (by lia) (by rw [List.size_toArray, <- hl]; exact h4) (by rw [hk]; exact ⟨_, I', q⟩)
 ·have hk : (k + (its.toArray.size : Int)).toNat = j := by
   rw [seqIndex_neg (by lia) h3] at h1
   rw [List.size_toArray, <- hl]
   exact Option.some.inj h1
  exact PySem.W.ki_setBack ho (by lia) (by rw [List.size_toArray, <- hl]; exact h3) (by lia) (by rw [hk]; exact ⟨_, I', q⟩)
theorem zlg (lo hi : Option Int) (n : Nat) : (sliceBounds lo hi none n).1 = ((HT.sIx n 0 lo : Nat) : Int) /\ (sliceBounds lo hi none n).2.1 = ((HT.sIx n n hi : Nat) : Int) /\ (sliceBounds lo hi none n).2.2 = 1 := by
 refine ⟨?_, ?_, rfl⟩
 ·cases lo with
  | none => simp [sliceBounds, HT.sIx]
  | some i =>
   simp only [sliceBounds, HT.sIx, Option.getD_none, show (1 : Int) > 0 by decide, if_true]
   by_cases h : i < 0
   ·simp only [h, if_true] <;> lia
   ·simp only [h, if_false] <;> lia
 ·cases hi with
  | none => simp [sliceBounds, HT.sIx]
  | some i =>
   simp only [sliceBounds, HT.sIx, Option.getD_none, show (1 : Int) > 0 by decide, if_true]
   by_cases h : i < 0
   ·simp only [h, if_true] <;> lia
   ·simp only [h, if_false] <;> lia
theorem zjs (its : List Value) (lo hi : Option Int) : slicePick its.toArray lo hi none = ((its.drop (HT.sIx its.length 0 lo)).take (HT.sIx its.length its.length hi - HT.sIx its.length 0 lo)).toArray := by
 obtain ⟨h1, h2, h3⟩ := zlg lo hi its.toArray.size
 unfold slicePick
 rw [h1, h2, h3]
 simp only [sliceRange_one, pick_run, List.size_toArray] <;> rfl
def rSlL (K : PySem.W.Frag) : V -> Option Int -> Option Int -> Hp -> VK -> Prop := fun x lo hi H Q => ∃ a xs, x = .ref a /\ SqL K H a xs /\ ∀ p, H p = none -> Q (.ref p) (upd H p (.lst (cutV xs lo hi)))
theorem zAh : SlR X (rSlL X.K) := by
 intro pins s σ H x v vl vu lo hi sl Q I rx hs pl pu h
 obtain ⟨a, xs, rfl, hx, q⟩ := h
 cases rx
 obtain ⟨its, r, ht, hz⟩ := I.list hx
 have hlen := r.length
 refine ⟨"list", _, slot_list_getitem.lookup, ht.isList.typeIs, ?_⟩
 refine wpAny_getItem_list_slice ht.isList hs pl pu .none (by simp) ?_ (by rw [List.size_toArray] <;> lia)
 rw [zjs, <- hlen]
 refine ⟨.ref s.heap.objs.size, _, I.laid (t' := s.toks) (o := .lst (cutV xs lo hi)) (fun b ob q => Heap.get?_push_of_some _ q) (Nat.le_refl _) ?_, rfl, q _ (I.hok.fresh (Nat.le_refl _))⟩
 exact ⟨Nat.le_trans (zns xs lo hi) hz, _, 0, (r.drop (HT.sIx xs.length 0 lo)).take (HT.sIx xs.length xs.length hi - HT.sIx xs.length 0 lo), Heap.get?_push_size _ rfl⟩
theorem zmj : CallR X (.builtin "len") (fun xs H Q => ∃ p ys, xs = [.ref p] /\ (SqL X.K H p ys \/ SqT X.K H p ys) /\ Q (.int ys.length) H) := by
 intro pins s σ H xs us Q I r h
 obtain ⟨p, ys, rfl, hq, q⟩ := h
 obtain ⟨u, rfl, rx⟩ := vals1 r
 cases rx
 have hn := zlv
 rcases hq with hq | hq
 ·obtain ⟨its, r', pl, hz⟩ := I.list hq
  have hlen := r'.length
  exact Calls.call_len_list pl.isList (by simp only [List.size_toArray] <;> lia) ⟨.int ys.length, H, I.tok _, ⟨s.toks + 1, by rw [List.size_toArray, hlen]⟩, q⟩
 ·obtain ⟨its, r', pl, hz⟩ := I.tuple hq
  have hlen := r'.length
  exact len_tuple pl (by simp only [List.size_toArray] <;> lia) ⟨.int ys.length, H, I.tok _, ⟨s.toks + 1, by rw [List.size_toArray, hlen]⟩, q⟩
theorem zkn : CallR X (.type "tuple") (fun xs H Q => ∃ p ys, xs = [.ref p] /\ ((SqL X.K H p ys /\ ∀ l, H l = none -> Q (.ref l) (upd H l (.tup ys))) \/ (SqT X.K H p ys /\ Q (.ref p) H))) := by
 intro pins s σ H xs us Q I r h
 obtain ⟨p, ys, rfl, h⟩ := h
 obtain ⟨u, rfl, rx⟩ := vals1 r
 cases rx
 rcases h with ⟨hq, q⟩ | ⟨hq, q⟩
 ·obtain ⟨its, r', pl, hz⟩ := I.list hq
  have hlen := r'.length
  refine call_tuple_list pl.isList (fun h' kp => ?_) (by simp only [List.size_toArray] <;> lia)
  have I1 : Inv X pins σ H { s with heap := h' } := I.kept (t' := s.toks) kp
  have I2 : Inv X pins σ (upd H h'.objs.size (.tup ys)) { s with heap := h'.push { cls := .type "tuple", data := .seq its.toArray } } :=
   I1.laid (t' := s.toks) (fun b o e => Heap.get?_push_of_some _ e) (Nat.le_refl _) (show ObjOk X.prog X.w _ _ _ (.tup ys) from ⟨hz, its, r', IsTup.new _ _⟩)
  exact ⟨.ref h'.objs.size, _, I2, rfl, q _ (I1.hok.fresh (Nat.le_refl _))⟩
 ·obtain ⟨its, r', pl, hz⟩ := I.tuple hq
  exact call_tuple_same pl ⟨.ref p, H, I, rfl, q⟩
def tyV (K : PySem.W.Frag) (T : String) (x : V) (H : Hp) : Prop := match x with
 | .str _ => T = "str"
 | .int _ => T = "int"
 | .ref p => (T = "list" /\ ∃ xs, SqL K H p xs) \/ (T = "tuple" /\ ∃ o, K.lookup p = some o /\ o.cls = .type "tuple" /\ o.dict = none) \/
   (T = "dict" /\ ((∃ kvs, H p = some (.dK kvs)) \/ ∃ kvs, H p = some (.dT kvs))) \/ (T = "set" /\ ∃ S n, H p = some (.set S n))
 | _ => False
theorem zyq {pins : List (Addr × Obj)} {σ : St} {H : Hp} {s : Shared} {T : String} {x : V} {v : Value} (I : Inv X pins σ H s) (r : RelV x v) (ty : tyV X.K T x H) :
  s.TypeIs v T /\ ∀ a, v = .ref a -> ∃ ob, s.heap.get? a = some ob /\ ob.dict = none := by
 cases x with
 | str z =>
  obtain ⟨t, rfl⟩ := r
  cases (show T = "str" from ty)
  exact ⟨typeIs_str s z t, fun _ e => nomatch e⟩
 | int i =>
  obtain ⟨t, rfl⟩ := r
  cases (show T = "int" from ty)
  exact ⟨typeIs_int s i t, fun _ e => nomatch e⟩
 | ref p =>
  cases r
  rcases ty with ⟨rfl, xs, hq⟩ | ⟨rfl, o, hk, hc, hd⟩ | ⟨rfl, hk⟩ | ⟨rfl, S, n, hk⟩
  ·obtain ⟨its, _, pl, _⟩ := I.list hq
   refine ⟨pl.isList.typeIs, fun a e => ?_⟩
   cases e
   obtain ⟨o, n, e, c, hd, _⟩ := pl
   exact ⟨o, e, hd⟩
  ·refine ⟨⟨o, I.kIn p o hk, hc⟩, fun a e => ?_⟩
   cases e
   exact ⟨o, I.kIn _ o hk, hd⟩
  ·have z : ∃ o, s.heap.get? p = some o /\ o.ExactDict := by
    rcases hk with ⟨kvs, hk⟩ | ⟨kvs, hk⟩
    ·obtain ⟨_, _, _, _, o, _, _, e, ex, _⟩ := I.hok p _ hk
     exact ⟨o, e, ex⟩
    ·obtain ⟨_, _, _, _, o, _, _, e, ex, _⟩ := I.hok p _ hk
     exact ⟨o, e, ex⟩
   obtain ⟨o, e, ex⟩ := z
   refine ⟨⟨o, e, ex.1⟩, fun a e2 => ?_⟩
   cases e2
   exact ⟨o, e, ex.2.1⟩
  ·obtain ⟨o, _, _, _, e, ex, _⟩ := I.hok p _ hk
   refine ⟨⟨o, e, ex.1⟩, fun a e2 => ?_⟩
   cases e2
   exact ⟨o, e, ex.2.1⟩
 | _ => exact False.elim ty
def tBM0 (K : PySem.W.Frag) (T : String) (r : V -> List V -> Hp -> VK -> Prop) (to : TE) : TE := fun σ H Q => to σ H fun x H1 => tyV K T x H1 /\ r x [] H1 Q
def tBM (K : PySem.W.Frag) (T : String) (r : V -> List V -> Hp -> VK -> Prop) (to : TE) (t : TA) : TE := fun σ H Q => to σ H fun x H1 => tyV K T x H1 /\ t σ H1 fun xs H2 => r x xs H2 Q
variable {o e : Expr} {es : List Expr} {to : TE} {t : TA} {name : Str} {apos cpos : Pos} {T id : String} {r : V -> List V -> Hp -> VK -> Prop}
theorem zyz (pa : PlainAttrs T) (slot : Slot T name id) (hty : typeOf (.builtin id) = pure (.type "method_descriptor")) (hm : MtR X id r) (ho : PE X o to)
  (hbase : attributeBase o name X.env (eval o X.env) = eval o X.env := by rfl) (hline : (apos.endLine == cpos.line) = true := by rfl) : PE X (.Call (.Attribute o name apos) [] [] cpos) (tBM0 X.K T r to) := by
 intro pins s σ H Q I h
 refine wpAny_Call_method0_late hbase hline (thn (ho pins s σ H _ I h) fun v s1 ⟨x, H1, I1, r1, ty, q1⟩ => ?_)
 obtain ⟨h1, h2⟩ := zyq I1 r1 ty
 exact ⟨T, id, pa, slot, hty, h1, h2, Calls.callWith_builtin rfl (PySem.evalArgs_none (hm pins s1 σ H1 x [] v [] Q I1 r1 .nil q1))⟩
theorem pe_bm (pa : PlainAttrs T) (slot : Slot T name id) (hty : typeOf (.builtin id) = pure (.type "method_descriptor")) (hm : MtR X id r) (ho : PE X o to) (ha : PA X (e :: es) t)
  (hbase : attributeBase o name X.env (eval o X.env) = eval o X.env := by rfl)
  (hfew : ((backTo cpos (starEach (e :: es) X.env)).all (fun x => !x.1) && (backToKw cpos (keywordEach [] X.env)).all (fun x => x.1.isSome)
   && decide ((e :: es).length + ([] : List Keyword).length + (if ([] : List Keyword).isEmpty then 0 else 1) < 30)) = true := by rfl)
  (hline : (apos.endLine == cpos.line) = true := by rfl) (hs : starEach (e :: es) X.env = (false, eval e X.env) :: starEach es X.env := by rfl) (hplain : (backTo cpos (starEach es X.env)).any (·.1) = false := by rfl) :
  PE X (.Call (.Attribute o name apos) (e :: es) [] cpos) (tBM X.K T r to t) := by
 intro pins s σ H Q I h
 refine wpAny_Call_method_late hbase hfew hline rfl (thn (ho pins s σ H _ I h) fun v s1 ⟨x, H1, I1, r1, ty, q1⟩ => ?_)
 obtain ⟨h1, h2⟩ := zyq I1 r1 ty
 refine ⟨T, id, pa, slot, hty, h1, h2, ?_⟩
 have hA := ha cpos pins s1 σ H1 _ I1 q1
 rw [hs] at hA ⊢
 refine Calls.callWith_builtin (by show (false || (backTo cpos (starEach es X.env)).any (·.1)) = false; rw [hplain] <;> rfl) (Calls.evalArgs_plain ?_)
 exact thn hA fun us s2 ⟨vs, H2, I2, r2, q2⟩ => hm pins s2 σ H2 x vs v us Q I2 r1 r2 q2
end
def MtM (X : Cx) (id : String) (r : V -> List V -> Hp -> VK -> Prop) : Prop :=
 ∀ (pins : List (Addr × Obj)) (s : Shared) (σ : St) (H : Hp) (x : V) (xs : List V) (v : Value) (us : List Value) (Q : VK), Inv X pins σ H s -> RelV x v -> Vals xs us -> r x xs H Q ->
  wpAny (model X.prog X.w) X.A (call (.builtin id) (v :: us)) (EP X pins σ Q) X.xe s
theorem Vals.one : ∀ {x : V} {us : List Value}, Vals [x] us -> ∃ u, us = [u] /\ RelV x u
 | _, _, .cons r .nil => ⟨_, rfl, r⟩
theorem Vals.two : ∀ {x y : V} {us : List Value}, Vals [x, y] us -> ∃ u v, us = [u, v] /\ RelV x u /\ RelV y v := by
 intro x y us h
 cases h with
 | cons r h => cases h with
  | cons q h => cases h; exact ⟨_, _, rfl, r, q⟩
theorem Vals.zero : ∀ {us : List Value}, Vals [] us -> us = []
 | _, .nil => rfl
theorem Vals.eraseIdx : ∀ {xs : List V} {us : List Value} (i : Nat), Vals xs us -> Vals (xs.eraseIdx i) (us.eraseIdx i)
 | _, _, _, .nil => .nil
 | _, _, 0, .cons _ t => t
 | _, _, i + 1, .cons r t => .cons r (Vals.eraseIdx i t)
theorem Vals.rep {xs : List V} {us : List Value} (h : Vals xs us) : ∀ k : Nat, Vals (List.replicate k xs).flatten (List.replicate k us).flatten
 | 0 => .nil
 | k + 1 => by
  rw [List.replicate_succ, List.replicate_succ, List.flatten_cons, List.flatten_cons]
  exact Vals.append h (Vals.rep h k)
theorem zlw {α : Type} : ∀ (l : List α) (i : Nat), (l.eraseIdx i).length <= l.length
 | [], _ => Nat.le_refl _
 | _ :: _, 0 => Nat.le_succ _
 | _ :: r, i + 1 => Nat.succ_le_succ (zlw r i)
theorem zmb (its : List Value) : ∀ (k : Nat) (acc : List Value),
  List.foldl (fun x1 x2 => x1 ++ x2) acc.toArray (List.replicate k its.toArray) = (acc ++ (List.replicate k its).flatten).toArray
 | 0, acc => by simp
 | k + 1, acc => by
  have e : acc.toArray ++ its.toArray = (acc ++ its).toArray := by simp
  have e2 : (acc ++ its) ++ (List.replicate k its).flatten = acc ++ (List.replicate (k + 1) its).flatten := by
   rw [List.replicate_succ, List.flatten_cons, List.append_assoc]
  rw [<- e2, <- zmb its k (acc ++ its), <- e, List.replicate_succ, List.foldl_cons]
section
variable {X : Cx} {pins : List (Addr × Obj)} {σ : St} {H : Hp} {s : Shared} {l b : Addr} {xs ys zs : List V}
theorem Inv.lset {its its' : List Value} {n : Nat} {f : Array Value -> Array Value} {t' : Nat} (I : Inv X pins σ H s) (hH : H l = some (.lst xs))
  (e : s.heap.get? l = some { cls := .type "list", data := .seq its.toArray n }) (hf : f its.toArray = its'.toArray) (hv : Vals ys its') (hz : ys.length <= sizeLine) :
  Inv X pins σ (upd H l (.lst ys)) { s with heap := s.heap.update l (Obj.mapSeq f), toks := t' } := by
 have q := PySem.IsL.update e f
 rw [hf] at q
 refine I.write (x := l) (e := l) (by rw [hH]; exact trivial) (.inl rfl) (fun b' u hb hu => (Heap.get?_update_other s.heap (Obj.mapSeq f) (Ne.symm hb)).trans hu) ⟨_, q⟩ ?_
 exact ⟨hz, its', _, hv, q⟩
theorem Inv.lnew {its : List Value} {t' : Nat} (I : Inv X pins σ H s) (hv : Vals ys its) (hz : ys.length <= sizeLine) :
  Inv X pins σ (upd H s.heap.objs.size (.lst ys)) { s with heap := s.heap.push { cls := .type "list", data := .seq its.toArray }, toks := t' } :=
 I.laid (fun _ _ q => Heap.get?_push_of_some _ q) (Nat.le_refl _) ⟨hz, its, 0, hv, Heap.get?_push_size _ rfl⟩
theorem Inv.fresh (I : Inv X pins σ H s) : H s.heap.objs.size = none := I.hok.fresh (Nat.le_refl _)
theorem Inv.lstM (I : Inv X pins σ H s) (hH : H l = some (.lst xs)) : xs.length <= sizeLine /\ ∃ (its : List Value) (n : Nat), Vals xs its /\ xs.length = its.length /\ s.heap.get? l = some { cls := .type "list", data := .seq its.toArray n } := by
 obtain ⟨z, its, n, r, e⟩ := I.hok l _ hH
 exact ⟨z, its, n, r, r.length, e⟩
theorem zka {n : Nat} (h : n <= sizeLine) : Builtin.List.listTooLong n = false := by
 unfold Builtin.List.listTooLong
 exact decide_eq_false (by lia)
end
section
variable {X : Cx}
def zAs : V -> List V -> Hp -> VK -> Prop := fun x vs H Q => ∃ l xs y, x = .ref l /\ vs = [y] /\ H l = some (.lst xs) /\ xs.length < sizeLine /\ Q .non (upd H l (.lst (xs ++ [y])))
theorem zlt : MtM X "list.append" zAs := by
 intro pins s σ H x vs v us Q I rx rv h
 obtain ⟨l, xs, y, rfl, rfl, hH, hz, q⟩ := h
 cases rx
 obtain ⟨u, rfl, ru⟩ := rv.one
 obtain ⟨z, its, n, r, hl, e⟩ := I.lstM hH
 refine call_meets F.slot_list_append ⟨_, e, rfl⟩ F.entry_list_append (F.args_list_append_2 _ _) (PySem.list_append l its.toArray n u (by rw [List.size_toArray]; lia)) ⟨e, ?_⟩
 refine ⟨.non, _, I.lset (its' := its ++ [u]) hH e (by simp) (r.append (.cons ru .nil)) ?_, rfl, q⟩
 rw [List.length_append, List.length_singleton]
 lia
def zth : V -> List V -> Hp -> VK -> Prop := fun x vs H Q => ∃ l b xs zs, x = .ref l /\ vs = [.ref b] /\ H l = some (.lst xs) /\ H b = some (.lst zs) /\ xs.length + zs.length <= sizeLine /\ Q .non (upd H l (.lst (xs ++ zs)))
theorem zdx : MtM X "list.extend" zth := by
 intro pins s σ H x vs v us Q I rx rv h
 obtain ⟨l, b, xs, zs, rfl, rfl, hH, hB, hz, q⟩ := h
 cases rx
 obtain ⟨u, rfl, ru⟩ := rv.one
 cases ru
 obtain ⟨z, its, n, r, hl, e⟩ := I.lstM hH
 obtain ⟨z2, its2, n2, r2, hl2, e2⟩ := I.lstM hB
 have hsz : its.toArray.size + its2.toArray.size <= sizeLine := by rw [List.size_toArray, List.size_toArray]; lia
 have hlong : ¬ (!its.toArray.isEmpty && Builtin.List.listTooLong (its.toArray.size + its2.toArray.size)) = true := by
  rw [zka hsz, Bool.and_false]
  exact Bool.false_ne_true
 refine call_meets F.slot_list_extend ⟨_, e, rfl⟩ F.entry_list_extend (F.args_list_extend_2 _ _)
  (AutoSeq1.list_extend_list_list_0 l its.toArray n b its2.toArray n2 hlong (by rw [List.size_toArray]; lia) (by lia)) ⟨e, e2, ?_⟩
 refine ⟨.non, _, I.lset (its' := its ++ its2) hH e (by simp) (r.append r2) ?_, rfl, q⟩
 rw [List.length_append]
 lia
def zDo : V -> List V -> Hp -> VK -> Prop := fun x vs H Q => ∃ l xs i k y, x = .ref l /\ vs = [.int i] /\ H l = some (.lst xs) /\ -(2 ^ 63) <= i /\ i < 2 ^ 63 /\ seqIndex? i xs.length = some k /\ xs[k]? = some y /\ Q y (upd H l (.lst (xs.eraseIdx k)))
theorem zxp : MtM X "list.pop" zDo := by
 intro pins s σ H x vs v us Q I rx rv h
 obtain ⟨l, xs, i, k, y, rfl, rfl, hH, h1, h2, hk, hy, q⟩ := h
 cases rx
 obtain ⟨u, rfl, ru⟩ := rv.one
 obtain ⟨t, rfl⟩ := ru
 obtain ⟨z, its, n, r, hl, e⟩ := I.lstM hH
 obtain ⟨w, hw, rw'⟩ := r.get hy
 refine call_meets F.slot_list_pop ⟨_, e, rfl⟩ F.entry_list_pop (F.args_list_pop_2 _ _)
  (MeetsSeq.list_pop_at l its.toArray n i t k w (fitsIndex_both h1 h2) (by rw [List.size_toArray, <- hl]; exact hk) (by rw [<- Array.getElem?_toList]; exact hw) (by rw [List.size_toArray]; lia)) ⟨e, ?_⟩
 refine ⟨y, _, I.lset (its' := its.eraseIdx k) hH e ?_ (r.eraseIdx k) ?_, rw', q⟩
 ·show its.toArray.eraseIdxIfInBounds k = (its.eraseIdx k).toArray
  rw [List.eraseIdxIfInBounds_toArray]
 ·have := zlw xs k
  lia
def rCat : R2 := fun x y H Q => ∃ l b xs zs, x = .ref l /\ y = .ref b /\ H l = some (.lst xs) /\ H b = some (.lst zs) /\ xs.length + zs.length <= sizeLine /\ ∀ p, H p = none -> Q (.ref p) (upd H p (.lst (xs ++ zs)))
theorem zzd : OpR X (binaryOp .Add) rCat := by
 intro pins s σ H x y v u Q I rx ry h
 obtain ⟨l, b, xs, zs, rfl, rfl, hH, hB, hz, q⟩ := h
 cases rx
 cases ry
 obtain ⟨z, its, n, r, hl, e⟩ := I.lstM hH
 obtain ⟨z2, its2, n2, r2, hl2, e2⟩ := I.lstM hB
 refine PySem.P.add_list e e2 ?_ (by rw [List.size_toArray, List.size_toArray]; lia)
 have ea : its.toArray ++ its2.toArray = (its ++ its2).toArray := by simp
 rw [ea]
 exact ⟨.ref _, _, I.lnew (t' := s.toks) (r.append r2) (by rw [List.length_append]; lia), rfl, q _ I.fresh⟩
def rRep : R2 := fun x y H Q => ∃ l k xs, x = .ref l /\ y = .int k /\ H l = some (.lst xs) /\ -(2 ^ 63) <= k /\ k < 2 ^ 63 /\ xs.length * k.toNat <= sizeLine /\
 ∀ p, H p = none -> Q (.ref p) (upd H p (.lst (List.replicate k.toNat xs).flatten))
theorem zBl {α : Type} (xs : List α) (k : Nat) : (List.replicate k xs).flatten.length = k * xs.length := by
 induction k with
 | zero => simp
 | succ k ih => rw [List.replicate_succ, List.flatten_cons, List.length_append, ih, Nat.succ_mul, Nat.add_comm]
theorem zzb : OpR X (binaryOp .Mult) rRep := by
 intro pins s σ H x y v u Q I rx ry h
 obtain ⟨l, k, xs, rfl, rfl, hH, h1, h2, hz, q⟩ := h
 cases rx
 obtain ⟨t, rfl⟩ := ry
 obtain ⟨z, its, n, r, hl, e⟩ := I.lstM hH
 have hlen : its.toArray.size * k.toNat <= sizeLine := by rw [List.size_toArray, <- hl]; exact hz
 have hcap : ¬ its.toArray.size * k.toNat > (2 ^ 63 - 1) / 8 := by
  have : (sizeLine : Nat) <= (2 ^ 63 - 1) / 8 := by decide
  lia
 have hfit : ¬ (!Builtin.List.listFitsIndex k) = true := by
  rw [fitsIndex_both h1 h2]
  exact Bool.false_ne_true
 have hlong : ¬ Builtin.List.listTooLong (its.toArray.size * k.toNat) = true := by
  rw [zka hlen]
  exact Bool.false_ne_true
 have hnew : List.foldl (fun x1 x2 => x1 ++ x2) #[] (List.replicate (if its.toArray.isEmpty = true then 0 else k.toNat) its.toArray) = (List.replicate k.toNat its).flatten.toArray := by
  have f0 : ∀ m : Nat, List.foldl (fun x1 x2 => x1 ++ x2) #[] (List.replicate m its.toArray) = (List.replicate m its).flatten.toArray := fun m => by
   have := zmb its m []
   rw [List.nil_append] at this
   exact this
  rw [f0]
  cases its with
  | nil => simp
  | cons a r' => rw [if_neg (by simp)]
 refine wpAny_binaryOp_repeat_ref (T := "list") (U := "int") (by decide) ⟨_, e, rfl⟩ (fun s' => typeIs_int s' k t) noFill_list_mul F.fills_int_mul F.slot_int_rmul repeat_list F.slot_int_index.lookup
  (call_meets F.slot_int_rmul (typeIs_int s k t) F.entry_int_rmul (F.args_int_rmul_2 _ _) (int___rmul___int_list k t l its.toArray n)
   ⟨e, rfl, ⟨_, e, rfl⟩, call_meets F.slot_list_mul ⟨_, e, rfl⟩ F.entry_list_mul (F.args_list_mul_2 _ _) (AutoListH.list___mul___list_int_3 l its.toArray n k t hfit hcap hlong) ⟨e, ?_⟩⟩)
 rw [hnew]
 exact ⟨.ref _, _, I.lnew (t' := s.toks) (r.rep k.toNat) (by rw [zBl, Nat.mul_comm]; exact hz), rfl, q _ I.fresh⟩
end
section
variable {prog : Program} {w : World} {A : Around} {E : Value -> Shared -> Prop} {s : Shared}
set_option maxRecDepth 100000 in
end
section
variable {X : Cx}
end
end L2
namespace Att
open PySem PySem.W PySem.Calls PyProof.Rows
theorem zhq {P : Params} {h : Heap} : ∀ (ns : List Int) (vs : List Value), WellAll P h vs (ns.map WData.int) -> IntsAre vs ns := by
 intro ns
 induction ns with
 | nil =>
  intro vs w
  rw [List.map_nil] at w
  cases w
  exact .nil
 | cons n ns ih =>
  intro vs w
  rw [List.map_cons] at w
  cases w with
  | cons a b =>
   cases a
   exact .cons _ _ (ih _ b)
theorem zsv {l : OpenLaw} {n : Nat} (hn : l.most = some n) {P : Params} {h : Heap} {args : List WData} {vals : List Value}
  (hpre : l.row.toRowW.claim.pre args = true) (hwl : WellAll P h vals args) :
  ∃ a vs ns, vals = [Value.ref a] /\ args = [WData.list (ns.map WData.int)] /\ h.get? a = some { cls := .type "list", data := .seq vs.toArray } /\ IntsAre vs ns /\ ns.length <= n := by
 have hsh : WShape.hasAll [] args [.list .int] = true := (pre_splitW hpre).1
 have hc : l.pre.holds [] { args := args } = true := (pre_splitW hpre).2
 obtain ⟨d, r, rfl, h1, h2⟩ := hasAllW_cons hsh
 obtain rfl := hasAllW_nil h2
 obtain ⟨xs, rfl, h3⟩ := hasW_list h1
 obtain ⟨ns, rfl⟩ := items_int h3
 have hlen : ns.length <= n := by
  unfold OpenLaw.pre at hc
  have h4 : (WTm.not (.lt (.lit (.int (n : Int))) (.len (.arg 0)))).holds [] { args := [.list (ns.map .int)] } = true := by
   have h4 := (holds_andW hc).1
   rw [hn] at h4
   exact h4
  have h5 := condW_of h4 (w_not (w_lt w_lit (w_len_list (w_arg rfl))))
  rw [List.length_map] at h5
  refine Nat.le_of_not_lt fun q => ?_
  have q' : (n : Int) < ((ns.length : Nat) : Int) := by lia
  first
   | (rw [decide_eq_true q'] at h5; exact absurd h5 (by decide))
   | (simp at h5; lia)
 cases hwl with
 | cons w1 w2 =>
  cases w2
  cases w1 with
  | list ho hall => exact ⟨_, _, ns, rfl, rfl, ho, zhq ns _ hall, hlen⟩
theorem ztj (l : OpenLaw) (args : List WData) : l.row.toRowW.claim.post args (.bool true) args = true :=
 postW_of (r := l.row.toRowW) (X := (true == true))
  (show WShape.has [] (.bool true) .bool = true by first | rfl | decide | simp [WShape.has, WShape.arms, WShape.armsAll])
  (show (WTm.eq .res (.lit (.bool true))).value [] { args := args, res := some (.bool true), after := args } = some (.bool (true == true)) from w_eq_bool (w_res rfl) w_lit) rfl
theorem attach_call {l : OpenLaw} {n : Nat} {q : Program} {loose : List Str} {XP : (Str -> Option Value) -> Heap -> Prop} {YP : World -> Heap -> Prop} {d : DefRec}
  (hn : l.most = some n) (hdf : d.params.defaults = [])
  (call : ∀ (w : World) (s₀ s₁ : Shared) (mg mb : Str -> Option Value) (fa : Addr) (o : Obj) (pm cd doc : Value) (a : Addr) (vs : List Value) (ns : List Int),
   Ground q loose [] XP w s₀ mg mb s₁.heap -> YP w s₁.heap ->
   s₁.heap.get? fa = some o -> o.data = .func (docDef d.name d.params d.body d.scope pm cd doc) -> s₁.heap.CodeRec cd d.name -> mg d.name = some (.ref fa) ->
   s₁.heap.get? a = some { cls := .type "list", data := .seq vs.toArray } -> IntsAre vs ns -> ns.length <= n -> s₁.gens = #[] ->
   codeAny (model l.prog w) callerA (.call (.ref fa) ⟨[.ref a], []⟩) (fun r s' => r = .ok (.ret (.bool true)) /\ OldK s₁.heap s'.heap /\ s'.os = s₁.os /\ AllBare s'.gens) s₁) :
  WalkO q loose XP YP l.row.toRowW d [] (fun f vs => PySem.call f vs) := by
 intro w s₀ s₁ mg mb G Y fa o pm cd doc dV kV ho hd hcd hD hmg hg args vals as hpre hlay hrd hwl hlo
 obtain rfl : dV = .none := Dflts.none hD hdf
 obtain rfl : kV = .none := Dflts.noKw hD
 obtain ⟨a, vs, ns, rfl, rfl, hobj, hints, hlen⟩ := zsv hn hpre hwl
 refine enter_call (codeAny_mono (call w s₀ s₁ mg mb fa o pm cd doc a vs ns G Y ho (fd_plain hd) hcd hmg hobj hints hlen hg) fun r s' hq => ?_)
 obtain ⟨rfl, h2, h3, h4⟩ := hq
 exact ⟨.inl ⟨.bool true, .bool true, [], rfl, fun _ => rfl, .bool true, ztj l _, fun _ => ⟨List.Pairwise.nil, fun _ hm => (nomatch hm)⟩⟩, h2, h3, h4⟩
section
variable {prog : Program} {w : World} {A : Around} {E : Value -> Shared -> Prop} {s : Shared} {K : Frag}
end
end Att
namespace L2
open PySem PySem.Spec PyProof.Rows
theorem zkw : ∀ {vs : List Value} {ns : List Int}, IntsAre vs ns -> Vals (ns.map V.int) vs
 | _, _, .nil => .nil
 | _, _, .cons n t h => .cons ⟨t, rfl⟩ (zkw h)
def Only (H : Hp) : Prop := ∀ b, H b = none \/ ∃ o xs, H b = some (.frz o (.lst xs))
theorem zxt {P : Program} {w : World} {K : PySem.W.Frag} {mg mb : Str -> Option Value} {CX : CXT} {k : Nat} {fa a : Addr} {fd : FuncData} {x : Str} {sp : Sp} {s₁ : Shared} {vs : List Value} {ns : List Int}
  (KX : K.In s₁.heap) (hns : s₁.heap.Ns mainGlobals mg) (hb : s₁.heap.Ns builtinsNs mb) (hbb : ∀ x : Str, x ≠ "__name__" -> mb x = bootBuiltins x) (hlim : s₁.heap.NoLimit) (hg : s₁.gens = #[])
  (ha : s₁.heap.get? a = some { cls := .type "list", data := .seq vs.toArray }) (hi : IntsAre vs ns) (hl : ns.length <= sizeLine) (hr : Room k callerA)
  (F : ∀ base : Heap, K.In base -> base.Ns mainGlobals mg -> FnOk P w K mg base CX k fa fd [x] sp) (hbind : ∀ (s : Shared) (u : Value), BindsTo s fd ⟨[u], []⟩ [(x, u)])
  (hsp : ∀ H : Hp, Only H -> SqL K H a (ns.map V.int) -> sp [.ref a] H (fun v _ => v = .bl true) fun _ _ _ => False)
  (hCX : ∀ H e s', CX [] H s₁ (fun _ _ _ => False) e s' -> False) :
  codeAny (model P w) callerA (.call (.ref fa) ⟨[.ref a], []⟩) (fun r s' => r = .ok (.ret (.bool true)) /\ OldK s₁.heap s'.heap /\ s'.os = s₁.os /\ AllBare s'.gens) s₁ := by
 have rv := zkw hi
 have lenV := hi.length
 have core : ∀ H : Hp, Only H -> SqL K H a (ns.map V.int) -> HOk P w H s₁.heap -> (∀ b, H b ≠ none -> b = a) -> (H a ≠ none -> K.lookup a = none) ->
   codeAny (model P w) callerA (.call (.ref fa) ⟨[.ref a], []⟩) (fun r s' => r = .ok (.ret (.bool true)) /\ OldK s₁.heap s'.heap /\ s'.os = s₁.os /\ AllBare s'.gens) s₁ := by
  intro H hO hS hok hA hK
  have base_of : ∀ {b : Addr} {o : Obj}, s₁.heap.get? b = some o -> H b = none -> (hidT s₁.heap H).get? b = some o := fun e n => zxx e n
  have noA : ∀ {b : Addr} {o : Obj} {es : Array DictEntry} {ep : Nat}, s₁.heap.get? b = some o -> o.data = .dict es ep -> H b = none := fun {b o es ep} e d => by
   cases q : H b with
   | none => rfl
   | some u =>
    have e' : b = a := hA b (by rw [q]; simp)
    subst e'
    rw [ha] at e; cases e
    have d' : Data.seq vs.toArray _ = Data.dict es ep := d
    cases d'
  have nsK : ∀ {b : Addr} {m : Str -> Option Value}, s₁.heap.Ns b m -> (hidT s₁.heap H).Ns b m := fun {b m} ⟨o, es, ep, e, d, r⟩ => ⟨o, es, ep, base_of e (noA e d), d, r⟩
  have hKb : K.In (hidT s₁.heap H) := fun b o e => base_of (KX b o e) (by
   cases q : H b with
   | none => rfl
   | some u =>
    have e' : b = a := hA b (by rw [q]; simp)
    subst e'
    rw [hK (by rw [q]; simp)] at e; cases e)
  have hM : Mod K mg (hidT s₁.heap H) := ⟨hKb, nsK hns, ⟨mb, nsK hb, hbb⟩, let ⟨mc, h1, h2⟩ := hlim; ⟨mc, nsK h1, h2⟩⟩
  have e0 : Env0 P w K mg (hidT s₁.heap H) callerA [] s₁ H := ⟨rfl, hM, fun b o e => zBd e, Nat.le_of_eq (zux _ _), trivial, fun b hb => absurd (show b ∈ ([] : List Addr) from hb) (by simp), hok, .of_eq hg⟩
  refine codeAny_mono ((F _ hKb (nsK hns)).run callerA [] s₁ H ⟨[.ref a], []⟩ [.ref a] [.ref a] _ _ hr e0 (hbind s₁ (.ref a)) (.cons rfl .nil) (hsp H hO hS)) fun r s' h => ?_
  cases r with
  | error e => exact (hCX H e s' h).elim
  | ok fl =>
   cases fl with
   | next => exact False.elim h
   | brk => exact False.elim h
   | cont => exact False.elim h
   | ret u =>
    obtain ⟨v, H', os, bare, un, hok', r', q⟩ := h
    have q' : v = .bl true := q
    subst q'
    obtain rfl : u = Value.bool true := r'
    refine ⟨rfl, OldK.of_keep fun b o e => ?_, os, bare⟩
    cases q : H b with
    | none => exact un.keep b o e q (by intro z; exact absurd (show b ∈ ([] : List Addr) from z) (by simp)) (by simp)
    | some u =>
     rcases hO b with z | ⟨ob, xs, z⟩
     ·rw [q] at z; cases z
     ·have z2 := un.frzs b ob _ z
      obtain ⟨e1, _⟩ := hok b _ z
      obtain ⟨e2, _⟩ := hok' b _ z2
      rw [e] at e1; cases e1
      exact e2
 cases hk : K.lookup a with
 | some o =>
  have e := KX a o hk
  rw [ha] at e
  cases e
  refine core (fun _ => none) (fun _ => .inl rfl) (.inr ⟨_, vs.toArray, _, hk, rfl, rfl, rfl, by rw [List.size_toArray, lenV]; exact hl, by simpa using rv⟩) (fun b u z => by have z' : (none : Option HO) = some u := z; cases z') (fun b z => absurd rfl z) fun z => absurd rfl z
 | none =>
  refine core (fun b => if b = a then some (.frz { cls := .type "list", data := .seq vs.toArray } (.lst (ns.map V.int))) else none) (fun b => ?_) (.inl (.inr ⟨{ cls := .type "list", data := .seq vs.toArray }, if_pos rfl⟩)) (fun b u z => ?_) (fun b z => ?_) fun _ => hk
  ·by_cases hb : b = a
   ·exact .inr ⟨_, _, if_pos hb⟩
   ·exact .inl (if_neg hb)
  ·by_cases hb : b = a
   ·have z' := (if_pos hb).symm.trans z
    cases z'
    subst hb
    exact ⟨ha, by rw [List.length_map]; exact hl, vs, _, rv, ha⟩
   ·have z' := (if_neg hb).symm.trans z
    cases z'
  ·by_cases hb : b = a
   ·exact hb
   ·exact absurd (if_neg hb) z
abbrev KOf {K : PySem.W.Frag} {h : Heap} (_ : K.In h) : PySem.W.Frag := K
theorem walk_of {l : PySem.W.OpenLaw} {n k : Nat} {q : Program} {loose : List Str} {XP : (Str -> Option Value) -> Heap -> Prop} {YP : World -> Heap -> Prop} {d : DefRec} {K : Params -> PySem.W.Frag} {CX : World -> CXT} {sp : World -> Sp} {x : Str}
  (hn : l.most = some n) (hn2 : n <= sizeLine) (hdf : d.params.defaults = []) (hr : Room k callerA)
  (hY : ∀ (w : World) (h : Heap), YP w h -> (K w.params).In h)
  (F : ∀ (w : World) (mg : Str -> Option Value) (fa : Addr) (h : Heap), (K w.params).In h -> h.Ns mainGlobals mg -> mg d.name = some (.ref fa) ->
   ∃ fd : FuncData, (∀ (s : Shared) (u : Value), BindsTo s fd ⟨[u], []⟩ [(x, u)]) /\
    ∀ base : Heap, (K w.params).In base -> base.Ns mainGlobals mg -> FnOk l.prog w (K w.params) mg base (CX w) k fa fd [x] (sp w))
  (hsp : ∀ (w : World) (H : Hp) (a : Addr) (ns : List Int), ns.length <= n -> Only H -> SqL (K w.params) H a (ns.map V.int) -> sp w [.ref a] H (fun v _ => v = .bl true) fun _ _ _ => False)
  (hCX : ∀ (w : World) (H : Hp) (s : Shared) (e : Value) (s' : Shared), CX w [] H s (fun _ _ _ => False) e s' -> False) :
  PySem.W.WalkO q loose XP YP l.row.toRowW d [] (fun f vs => PySem.call f vs) := by
 refine Att.attach_call hn hdf fun w s₀ s₁ mg mb fa o pm cd doc a vs ns G Y ho hd hcd hmg hobj hints hlen hg => ?_
 have KX := hY w _ Y
 obtain ⟨fd, hb, hF⟩ := F w mg fa _ KX G.T.g hmg
 exact zxt KX G.T.g G.T.b G.T.builtins G.T.nolimit hg hobj hints (Nat.le_trans hlen hn2) hr hF hb (fun H hO hS => hsp w H a ns hlen hO hS) fun H e s' => hCX w H s₁ e s'
end L2
namespace L2
open PySem PySem.Spec PyProof.Rows
def zam (s : Stmt) : Arguments := match s with
 | .FunctionDef _ a _ _ _ _ _ _ _ _ => a
 | _ => { posonlyargs := [], args := [], vararg := none, kwonlyargs := [], kw_defaults := [], kwarg := none, defaults := [] }
def zal (s : Stmt) : List Stmt := match s with
 | .FunctionDef _ _ b _ _ _ _ _ _ _ => b
 | _ => []
def zad (s : Stmt) : Scope := match s with
 | .FunctionDef _ _ _ _ _ _ sc _ _ _ => sc
 | _ => { kind := .function, names := [], isGenerator := false, isCoroutine := false }
abbrev CX0 : CXT := fun _ _ _ _ _ _ => False
abbrev E0 : XK := fun _ _ _ => False
theorem pass0 {X : Cx} : zwj CX0 X E0 := fun _ _ _ _ _ _ _ h => h.elim
structure Fun (K : PySem.W.Frag) (x qual : Str) (st : Stmt) (f : Addr) (fd : FuncData) : Prop where
 ex : ∃ (oc : Value) (od : Option Addr) (kV doc pm : Value) (an : Option Addr) (cdv ct : Value) (osl : Array (Option Value)),
  fd = PySem.W.fnOf x qual (zam st) (zal st) (zad st) .none kV doc pm an cdv ct /\ K.lookup f = some ⟨oc, od, .func fd, osl⟩ /\ PySem.W.codeIn K cdv qual = true
 kp : PySem.W.keepIn K (.ref f) = true
section
variable {P : Program} {w : World} {K : PySem.W.Frag} {mg : Str -> Option Value} {base : Heap}
theorem Fun.ok {x qual : Str} {st : Stmt} {f : Addr} {fd : FuncData} {N ps : List Str} {k : Nat} {sp : Sp} (F : Fun K x qual st f fd) (S : zan N ps (zad st)) (len : ∀ vs H Q E, sp vs H Q E -> vs.length = ps.length)
  (hbody : ∀ (cdv : Value) (A : Around) (outer : List Env) (s : Shared) (H : Hp) (vs : List V) (Q : VK) (E : XK), Room k (A.deeper (envOfC qual (zad st) s.heap.objs.size f cdv)) -> sp vs H Q E ->
   ∃ t, PSs (cxOf CX0 P w K mg base N qual (zad st) f cdv A outer s H E).nox (zal st) t /\ t { nx := fun _ H' => Q .non H', rt := Q } (start N vs) H) : FnOk P w K mg base CX0 (k + 1) f fd ps sp := by
 obtain ⟨oc, od, kV, doc, pm, an, cdv, ct, osl, rfl, lk, hcd⟩ := F.ex
 refine fn_of lk hcd S len fun A outer s H vs Q E hr hsp => ?_
 obtain ⟨t, h, q⟩ := hbody cdv A outer s H vs Q E hr hsp
 exact ⟨t, h.nox, q⟩
theorem Fun.binds {x qual : Str} {st : Stmt} {f : Addr} {fd : FuncData} {ps : List Str} (F : Fun K x qual st f fd)
  (h : ∀ (kV doc pm : Value) (an : Option Addr) (cdv ct : Value) (us : List Value), us.length = ps.length -> bindArgs (PySem.W.fnOf x qual (zam st) (zal st) (zad st) .none kV doc pm an cdv ct) ⟨us, []⟩ = pure (ps.zip us)) : Binds K fd ps [] := by
 obtain ⟨oc, od, kV, doc, pm, an, cdv, ct, osl, rfl, lk, hcd⟩ := F.ex
 exact .all (h kV doc pm an cdv ct)
theorem zva {x qual : Str} {st : Stmt} {f : Addr} {oc : Value} {od an : Option Addr} {osl : Array (Option Value)} {kV doc pm cdv ct : Value} (l : K.lookup f = some ⟨oc, od, .func (PySem.W.fnOf x qual (zam st) (zal st) (zad st) .none kV doc pm an cdv ct), osl⟩)
  (c : PySem.W.codeIn K cdv qual = true) (k : PySem.W.keepIn K (.ref f) = true) : Fun K x qual st f (PySem.W.fnOf x qual (zam st) (zal st) (zad st) .none kV doc pm an cdv ct) := ⟨⟨oc, od, kV, doc, pm, an, cdv, ct, osl, rfl, l, c⟩, k⟩
end
theorem hu_of {A : Around} {k : Nat} (hr : Room k A) : A.units + 1 < cLine := Nat.lt_of_le_of_lt (Nat.add_le_add_left (by decide : 1 <= 64) _) hr.units
section
variable {X : Cx}
theorem pv (i : Nat) {x : Str} {pos : Pos} (hN : X.N[i]? = some x := by rfl) (hv : Vis X.env.scope x := by first | exact Or.inl rfl | exact Or.inr (Or.inl rfl) | exact Or.inr (Or.inr rfl)) (hd : (x == ("__debug__" : Str)) = false := by decide)
  (hcd : (x == ("__classdict__" : Str)) = false := by decide) : PE X (.Name x pos) (tVar i) := zDx hN hv hd hcd
end
theorem iteF {A B : Prop} (h : B) : if false = true then A else B := by
 rw [if_neg Bool.false_ne_true]
 exact h
theorem iteT {A B : Prop} (h : A) : if true = true then A else B := by
 rw [if_pos rfl]
 exact h
theorem ite2 {c A B : Prop} [Decidable c] (h1 : c -> A) (h2 : ¬ c -> B) : if c then A else B := by
 by_cases h : c
 ·rw [if_pos h]
  exact h1 h
 ·rw [if_neg h]
  exact h2 h
theorem iteNS {c A B : Prop} [Decidable c] (hc : c) (h : B) : if (!decide c) = true then A else B := by
 rw [decide_eq_true hc]
 exact iteF h
def Same (H H' : Hp) : Prop := ∀ b o, H b = some o -> H' b = some o
theorem Same.refl (H : Hp) : Same H H := fun _ _ h => h
theorem Same.trans {H H1 H2 : Hp} (a : Same H H1) (b : Same H1 H2) : Same H H2 := fun c o h => b c o (a c o h)
theorem Same.free {H H' : Hp} (e : Same H H') {l : Addr} (h : H' l = Option.none) : H l = Option.none := by
 cases q : H l with
 | none => rfl
 | some o =>
  rw [e l o q] at h
  cases h
theorem Same.seq {K : PySem.W.Frag} {H H' : Hp} {a : Addr} {xs : List V} (e : Same H H') (h : SqL K H a xs) : SqL K H' a xs := by
 rcases h with (h | ⟨o, h⟩) | h
 ·exact .inl (.inl (e _ _ h))
 ·exact .inl (.inr ⟨o, e _ _ h⟩)
 ·exact .inr h
def PIfs (X : Cx) (ifs : List Expr) (t : TT) : Prop :=
 ∀ (pins : List (Addr × Obj)) (s : Shared) (σ : St) (H : Hp) (Q : Bool -> Hp -> Prop), Inv X pins σ H s -> t σ H Q ->
  wpAny (model X.prog X.w) X.A (forIn ifs true fun c r => if r = true then do
   let ok <- isTrue c X.env (eval c X.env)
   pure (ForInStep.yield ok) else pure (ForInStep.yield r)) (TP X pins σ Q) X.xe s
def tYes : TT := fun _ H Q => Q true H
theorem zck {X : Cx} : PIfs X [] tYes := fun _ _ _ H _ I h => wpAny_tests_nil ⟨H, I, h⟩
theorem zgt {X : Cx} {c : Expr} {t : TT} (h : PT X c t) : PIfs X [c] t := fun pins s σ H Q I hw => wpAny_tests_one (h pins s σ H Q I hw)
def clOf (env : Env) : List (Str × NameKind) -> List (Str × Addr) -> List (Str × Addr)
 | [], cs => cs
 | (n, k) :: r, cs => clOf env r (if (k == NameKind.free) = true then (n, (env.cells.lookup n).getD 0) :: cs else cs)
theorem zhz {env : Env} : ∀ (names : List (Str × NameKind)) (cs : List (Str × Addr)), (∀ x ∈ names, x.2 = .free -> ∃ c, env.cells.lookup x.1 = some c) ->
  (forIn names cs fun (x : Str × NameKind) (r : List (Str × Addr)) => (if (x.2 == NameKind.free) = true then do
   let a <- cellOf env x.1
   pure (ForInStep.yield ((x.1, a) :: r)) else pure (ForInStep.yield r) : Sem (ForInStep (List (Str × Addr))))) = pure (clOf env names cs)
 | [], cs, _ => rfl
 | (n, k) :: r, cs, h => by
  rw [List.forIn_cons]
  by_cases hk : (k == NameKind.free) = true
  ·obtain ⟨c, hc⟩ := h (n, k) List.mem_cons_self (by simpa using hk)
   have hc' : env.cells.lookup n = some c := hc
   have e1 : cellOf env n = pure c := by unfold cellOf; rw [hc']
   simp only [hk, if_true, e1, pure_bind]
   rw [zhz r _ fun x hx => h x (List.mem_cons_of_mem _ hx)]
   simp [clOf, hk, hc']
  ·simp only [hk, pure_bind]
   rw [if_neg (by simp), pure_bind]
   dsimp only
   rw [zhz r _ fun x hx => h x (List.mem_cons_of_mem _ hx)]
   simp [clOf, hk]
theorem zjg {scope : Scope} {env : Env} (h : ∀ x ∈ scope.names, x.2 = .free -> ∃ c, env.cells.lookup x.1 = some c) : closureFor scope env = pure (clOf env scope.names []) := by
 have e := zhz scope.names [] h
 simp only [closureFor]
 first
  | (rw [e]; rfl)
  | (refine Eq.trans (congrArg (fun t => t >>= _) e) ?_; rfl)
  | (simp only [e]; rfl)
theorem zgy {env : Env} {x : Str} {c : Addr} : ∀ (names : List (Str × NameKind)) (cs : List (Str × Addr)), (∀ y ∈ names, y.2 = .free -> ∃ d, env.cells.lookup y.1 = some d) ->
  (clOf env names cs).lookup x = some c -> cs.lookup x = some c \/ env.cells.lookup x = some c
 | [], cs, _, e => .inl e
 | (n, k) :: r, cs, h, e => by
  have e' : (clOf env r (if (k == NameKind.free) = true then (n, (env.cells.lookup n).getD 0) :: cs else cs)).lookup x = some c := e
  rcases zgy r _ (fun y hy => h y (List.mem_cons_of_mem _ hy)) e' with q | q
  ·by_cases hk : (k == NameKind.free) = true
   ·rw [if_pos hk] at q
    obtain ⟨d, hd⟩ := h (n, k) List.mem_cons_self (by simpa using hk)
    have hd' : env.cells.lookup n = some d := hd
    rw [List.lookup_cons] at q
    by_cases hx : (x == n) = true
    ·rw [hx] at q
     have ex : x = n := by simpa using hx
     subst ex
     rw [hd'] at q
     simp at q
     exact .inr (by rw [hd', q])
    ·simp only [hx] at q
     exact .inl q
   ·rw [if_neg hk] at q
    exact .inl q
  ·exact .inr q
theorem zmg {env : Env} {x : Str} : ∀ (names : List (Str × NameKind)) (cs : List (Str × Addr)), (∃ c, cs.lookup x = some c) -> ∃ c, (clOf env names cs).lookup x = some c
 | [], cs, h => h
 | (n, k) :: r, cs, h => by
  refine zmg r _ ?_
  by_cases hk : (k == NameKind.free) = true
  ·rw [if_pos hk, List.lookup_cons]
   cases hx : x == n with
   | true => exact ⟨_, rfl⟩
   | false => exact h
  ·rw [if_neg hk]; exact h
theorem zkm {env : Env} {x : Str} : ∀ (names : List (Str × NameKind)) (cs : List (Str × Addr)), (x, NameKind.free) ∈ names -> ∃ c, (clOf env names cs).lookup x = some c
 | (n, k) :: r, cs, h => by
  show ∃ c, (clOf env r (if (k == NameKind.free) = true then (n, (env.cells.lookup n).getD 0) :: cs else cs)).lookup x = some c
  rcases List.mem_cons.mp h with e | e
  ·cases e
   refine zmg r _ ⟨(env.cells.lookup x).getD 0, ?_⟩
   rw [if_pos (by rfl), List.lookup_cons]
   simp
  ·exact zkm r _ e
def relN (env : Env) (names : List (Str × NameKind)) : List (Str × NameKind) :=
 names.map fun (n, k) => if (k == NameKind.free && env.scope.kind == .function && env.kindOf n == some .cell) then (n, NameKind.cell) else (n, k)
theorem zgq {env : Env} {x : Str} {k' : NameKind} : ∀ (names : List (Str × NameKind)), (relN env names).lookup x = some k' -> ∃ k, names.lookup x = some k /\ (k' = k \/ (k = .free /\ k' = .cell))
 | [], h => by simp [relN] at h
 | (n, k) :: r, h => by
  have ih := zgq (env := env) (x := x) (k' := k') r
  have h' : ((if (k == NameKind.free && env.scope.kind == .function && env.kindOf n == some .cell) = true then (n, NameKind.cell) else (n, k)) :: relN env r).lookup x = some k' := h
  by_cases hc : (k == NameKind.free && env.scope.kind == .function && env.kindOf n == some .cell) = true
  ·rw [if_pos hc, List.lookup_cons] at h'
   rw [List.lookup_cons]
   cases hx : x == n with
   | true =>
    rw [hx] at h'
    have h2 : NameKind.cell = k' := Option.some.inj h'
    have hk : k = .free := by
     cases k <;> first | rfl | (simp at hc)
    exact ⟨k, rfl, .inr ⟨hk, h2.symm⟩⟩
   | false =>
    rw [hx] at h'
    exact ih h'
  ·rw [if_neg hc, List.lookup_cons] at h'
   rw [List.lookup_cons]
   cases hx : x == n with
   | true =>
    rw [hx] at h'
    exact ⟨k, rfl, .inl (Option.some.inj h').symm⟩
   | false =>
    rw [hx] at h'
    exact ih h'
def zeb (X : Cx) (scope : Scope) (N' : List Str) (fp : List Addr) (C : Addr) (s : Shared) (H : Hp) : Cx where
 prog := X.prog
 w := X.w
 K := X.K
 mg := X.mg
 base := X.base
 A := X.A
 N := N'
 s₀ := s
 H₀ := H
 env := compEnvC scope (clOf X.env scope.names []) C X.env
 outer := X.stack
 stack := X.stack
 ex := fp
 fn := fun _ => false
 calm := true
 pn := X.pn
 xe := fun _ _ => False
def zga (fr : List (Option Nat)) (σ : St) : St := fr.map fun o => o.bind fun j => (σ[j]?).join
def frOk (N : List Str) (kinds names : List (Str × NameKind)) (N' : List Str) (fr : List (Option Nat)) : Bool :=
 (N'.length == fr.length) && (N'.zip fr).all fun p => match p.2 with
  | none => true
  | some j => N[j]? == some p.1 && names.lookup p.1 == some NameKind.free && (kinds.lookup p.1 == some NameKind.cell || kinds.lookup p.1 == some NameKind.free)
theorem zBs {N : List Str} {kinds names : List (Str × NameKind)} {N' : List Str} {fr : List (Option Nat)} (h : frOk N kinds names N' fr = true) {i j : Nat} {x : Str} (h1 : N'[i]? = some x) (h2 : fr[i]? = some (some j)) :
  N[j]? = some x /\ names.lookup x = some NameKind.free /\ (kinds.lookup x = some NameKind.cell \/ kinds.lookup x = some NameKind.free) := by
 unfold frOk at h
 rw [Bool.and_eq_true, List.all_eq_true] at h
 have hm : (x, some j) ∈ N'.zip fr := by
  refine List.mem_of_getElem? (i := i) ?_
  rw [List.getElem?_zip_eq_some]
  exact ⟨h1, h2⟩
 have q := h.2 _ hm
 simp only [Bool.and_eq_true, Bool.or_eq_true, beq_iff_eq] at q
 exact ⟨q.1.1, q.1.2, q.2⟩
structure CompOk (X : Cx) (scope : Scope) (N' : List Str) (fr : List (Option Nat)) : Prop where
 kind : scope.kind = .function
 cells : ∀ y ∈ scope.names, y.2 ≠ .cell
 names : ∀ y ∈ scope.names, y.2 = .local -> scope.names.lookup y.1 = some .local
 frees : ∀ y ∈ scope.names, y.2 = .free -> X.env.kindOf y.1 = some .cell \/ X.env.kindOf y.1 = some .free
 fr : frOk X.N X.env.scope.names scope.names N' fr = true
section
variable {X : Cx} {scope : Scope} {N' : List Str} {fr : List (Option Nat)} {pins : List (Addr × Obj)} {σ : St} {H : Hp} {s : Shared} {fp : List Addr}
theorem CompOk.has (c : CompOk X scope N' fr) (ok : X.Ok) : ∀ y ∈ scope.names, y.2 = .free -> ∃ d, X.env.cells.lookup y.1 = some d := fun y hy h => ok.has _ (c.frees y hy h)
theorem zxw {C : Addr} {h' : Heap} {tk : Nat} {m : Str -> Option Value} (c : CompOk X scope N' fr) (hc : X.calm = true) (I : Inv X pins σ H s) (hf : ∀ b ∈ fp, FpOk X pins H b) (hlt : ∀ b ∈ fp, b < s.heap.objs.size)
  (old : ∀ b o, s.heap.get? b = some o -> h'.get? b = some o) (hC : s.heap.objs.size <= C) (hn : h'.Ns C m) :
  Inv (zeb X scope N' fp C s H) pins (zga fr σ) H { s with heap := h', toks := tk } := by
 have get : ∀ x d, (clOf X.env scope.names []).lookup x = some d -> X.env.cells.lookup x = some d := fun x d e => by
  rcases zgy scope.names [] (c.has I.ok) e with q | q
  ·simp at q
  ·exact q
 have old2 : ∀ b, b < s.heap.objs.size -> b ≠ C := fun b hb => Nat.ne_of_lt (Nat.lt_of_lt_of_le hb hC)
 have hl : (zga fr σ).length = N'.length := by
  have q := c.fr
  unfold frOk at q
  rw [Bool.and_eq_true] at q
  have q1 : N'.length = fr.length := by simpa using q.1
  rw [zga, List.length_map, q1]
 refine ⟨⟨I.ok.mod, c.kind, I.ok.glob, I.ok.blt, hC, ?_, ?_, (fun _ _ z => nomatch z), fun _ => I.ok.hd hc, I.ok.frames, .inl rfl, ?_, I.bs, Nat.le_trans I.ok.bsz I.sz, ?_, ?_, I.stack, I.stkFree⟩, rfl, I.bare, Un.kept old, ⟨m, hn, ?_⟩, ?_, I.hok.fresh hC, ?_, ?_, I.hok.kept old, hl⟩
 ·exact fun x y d e1 e2 => I.ok.inj x y d (get x d e1) (get y d e2)
 ·intro x hx
  have hx' : (relN X.env scope.names).lookup x = some .cell \/ (relN X.env scope.names).lookup x = some .free := hx
  have fin : scope.names.lookup x = some .free -> ∃ d, (clOf X.env scope.names []).lookup x = some d := fun e => zkm scope.names [] (PySem.mem_of_lookup e)
  rcases hx' with q | q
  ·obtain ⟨k, e, z⟩ := zgq scope.names q
   rcases z with z | ⟨z, _⟩
   ·subst z
    exact absurd rfl (c.cells _ (PySem.mem_of_lookup e))
   ·subst z
    exact fin e
  ·obtain ⟨k, e, z⟩ := zgq scope.names q
   rcases z with z | ⟨_, z⟩
   ·subst z
    exact fin e
   ·cases z
 ·exact fun b hb => ⟨old2 b (hlt b hb), fun x d e => (hf b hb).2.2.2.2.1 x d (get x d e)⟩
 ·intro b o e hb
  rcases (hf b hb).2.2.2.1 with z | z
  ·exact I.ok.noex b o e z
  ·exact absurd (Nat.lt_of_lt_of_le (Heap.lt_size e) (Nat.le_trans I.ok.bsz z)) (Nat.lt_irrefl _)
 ·intro b hb hs
  rcases List.mem_cons.mp (I.stkSub b hs) with z | z
  ·exact (hf b hb).2.1 z
  ·exact (hf b hb).2.2.1 z
 ·intro i x v e1 e2 e3
  have e2' : (fr.map fun o => o.bind fun j => (σ[j]?).join)[i]? = some (some v) := e2
  rw [List.getElem?_map] at e2'
  cases q : fr[i]? with
  | none => rw [q] at e2'; cases e2'
  | some o =>
   rw [q] at e2'
   have e3' : (o.bind fun j => (σ[j]?).join) = some v := Option.some.inj e2'
   cases o with
   | none => cases e3'
   | some j =>
    have e4 : (σ[j]?).join = some v := e3'
    have e5 : σ[j]? = some (some v) := by
     cases z : σ[j]? with
     | none => rw [z] at e4; cases e4
     | some w => rw [z] at e4; exact congrArg some e4
    obtain ⟨f1, f2, f3⟩ := zBs c.fr e1 q
    obtain ⟨m0, hn0, hl0⟩ := I.loc
    have vis : Vis X.env.scope x := f3.elim (fun z => .inr (.inl z)) fun z => .inr (.inr z)
    obtain ⟨u, r, look⟩ := hl0 j x v f1 e5 vis
    refine ⟨u, r, ?_⟩
    rcases look with ⟨k, _⟩ | ⟨k, d, hd, hcell⟩
    ·have k' : X.env.scope.names.lookup x = some .local := k
     rcases f3 with z | z <;> (rw [k'] at z; cases z)
    ·refine .inr ⟨?_, d, ?_, ?_⟩
     ·have e3'' : (relN X.env scope.names).lookup x = some .local \/ (relN X.env scope.names).lookup x = some .cell \/ (relN X.env scope.names).lookup x = some .free := e3
      rcases e3'' with z | z | z
      ·obtain ⟨k2, e, z2⟩ := zgq scope.names z
       rw [f2] at e
       cases e
       rcases z2 with z2 | ⟨_, z2⟩ <;> cases z2
      ·exact .inl z
      ·exact .inr z
     ·obtain ⟨d', e⟩ := zkm (env := X.env) scope.names [] (PySem.mem_of_lookup f2)
      have := get x d' e
      rw [hd] at this
      cases this
      exact e
     ·obtain ⟨ob, h1, h2⟩ := hcell
      exact ⟨ob, old _ _ h1, h2⟩
 ·intro x d e
  obtain ⟨v, ob, h1, h2⟩ := I.cell x d (get x d e)
  exact ⟨v, ob, old _ _ h1, h2⟩
 ·exact fun x d e => I.freeC x d (get x d e)
 ·intro p hp
  obtain ⟨e, n, ne, nf, dd⟩ := I.pin p hp
  refine ⟨old _ _ e, n, old2 _ (Heap.lt_size e), fun hs => ?_, dd⟩
  rcases List.mem_cons.mp (I.stkSub p.1 hs) with z | z
  ·exact ne z
  ·exact nf z
end
section
variable {prog : Program} {w : World} {A : Around} {R : Result -> Shared -> Prop} {s : Shared}
theorem zvo {elt tg iter : Expr} {ifs : List Expr} {scope : Scope} {pos : Pos} {it acc : Value} {env : Env} (J : Nat -> Shared -> Prop)
  (turn : ∀ n s, J n s -> wpAny (model prog w) A (pyNext it) (fun r s1 => match r with
   | none => R (.ok .next) s1
   | some v => wpAny (model prog w) A (letOwnedTupleGo tg it v) (fun _ s2 => wpAny (model prog w) A (assign tg env v) (fun _ s3 =>
     wpAny (model prog w) A (forIn ifs true fun c r => if r = true then do
      let ok <- isTrue c env (eval c env)
      pure (ForInStep.yield ok) else pure (ForInStep.yield r)) (fun ok s4 =>
       if ok = true then wpAny (model prog w) A (eval elt env) (fun x s5 =>
        wpAny (model prog w) A (call (.builtin "list.append") [acc, x]) (fun _ s6 => ∃ m, m < n /\ J m s6) (fun _ _ => False) s5) (fun _ _ => False) s4
       else ∃ m, m < n /\ J m s4) (fun _ _ => False) s3) (fun _ _ => False) s2) (fun _ _ => False) s1) (fun _ _ => False) s)
  (n : Nat) (h : J n s) : codeAny (model prog w) A (.compLoop (.ListComp elt [⟨tg, iter, ifs, 0⟩] scope pos) 0 it acc env) R s := by
 refine codeAny_loop rfl J (fun k s1 hJ => ?_) n h
 show wpAny _ A ((compTurn (.ListComp elt [⟨tg, iter, ifs, 0⟩] scope pos) 0 it acc env).onRaise (fun y => do noteFrame y env; theTreesLotGoes y)) _ _ s1
 refine wpAny_noted (wpAny_mono (E := fun _ _ => False) ?_ (fun _ _ q => q) fun _ _ z => z.elim)
 rw [compTurn_list]
 refine wpAny_bind (wpAny_standAt (wpAny_bind (thn (turn k s1 hJ) fun r s2 h2 => ?_)))
 cases r with
 | none => exact wpAny_pure h2
 | some v =>
  refine wpAny_bind (thn h2 fun _ s3 h3 => wpAny_bind (thn h3 fun _ s4 h4 => wpAny_bind (thn h4 fun ok s5 h5 => ?_)))
  cases ok with
  | false => exact wpAny_pure ⟨rfl, h5⟩
  | true =>
   refine wpAny_bind (wpAny_bind (thn h5 fun x s6 h6 => wpAny_bind (thn h6 fun _ s7 h7 => ?_)))
   exact wpAny_pure (wpAny_pure ⟨rfl, h7⟩)
end
theorem HOk.track {P : Program} {w : World} {H : Hp} {h : Heap} {a : Addr} {o : HO} (ok : HOk P w H h) (hn : H a = none) (new : ObjOk P w (upd H a o) h a o) : HOk P w (upd H a o) h := fun b u q => by
 by_cases hb : b = a
 ·subst hb
  rw [zab] at q
  cases q
  exact new
 ·rw [zas hb] at q
  exact (ok b u q).stay (fun _ _ _ r => r) (fun c r => by rw [zas (zao r hn)]; exact r) fun c xs r => by rw [zas (zao r hn)]; exact r
def CompW (J : It) (g : TG) (tt : TT) (te : TE) (fin : List V -> Hp -> Prop) (W : Nat -> Nat -> List V -> St -> Hp -> Prop) : Prop :=
 ∀ i m ys σ H, W i m ys σ H -> (J.stop i H /\ ys.length <= sizeLine /\ fin ys H) \/ (J.go i H /\ ys.length < sizeLine /\ ∀ x H', J.yld i H x H' -> g x σ H' fun σ2 H2 => tt σ2 H2 fun b H3 =>
  if b = true then te σ2 H3 fun y H4 => ∃ m', m' < m /\ W (i + 1) m' (ys ++ [y]) σ2 H4 else ∃ m', m' < m /\ W (i + 1) m' ys σ2 H3)
section
variable {X : Cx} {scope : Scope} {N' : List Str} {fr : List (Option Nat)} {pins : List (Addr × Obj)} {σ : St} {H : Hp} {s : Shared} {fp : List Addr} {it : Addr} {tn : Nat -> Heap -> Prop} {J : It}
 {elt tg iter : Expr} {ifs : List Expr} {g : TG} {tt : TT} {te : TE} {pos : Pos} {fin : List V -> Hp -> Prop} {W : Nat -> Nat -> List V -> St -> Hp -> Prop} {RR : Value -> Addr -> Result -> Shared -> Prop} {E : Value -> Shared -> Prop}
theorem zjf (c : CompOk X scope N' fr) (hc : X.calm = true) (I : Inv X pins σ H s) (T : Turn X.prog X.w X.K tg J fp it tn) (st : tn 0 s.heap) (hf : ∀ b ∈ fp, FpOk X pins H b)
  (hg : ∀ fp C s H, PG (zeb X scope N' fp C s H) tg g) (ht : ∀ fp C s H, PIfs (zeb X scope N' fp C s H) ifs tt) (he : ∀ fp C s H, PE (zeb X scope N' fp C s H) elt te)
  (hW : CompW J g tt te fin W) (h0 : ∃ m, W 0 m [] (zga fr σ) H)
  (hRR : ∀ D C ys H' s', Inv X pins σ (upd H' D (.lst ys)) s' -> (∃ m, s'.heap.Ns C m) -> FpOk X pins (upd H' D (.lst ys)) C -> H' D = none -> fin ys H' -> RR (.ref D) C (.ok .next) s') :
  wpAny (model X.prog X.w) X.A (newList []) (fun acc s3 => wpAny (model X.prog X.w) X.A (newFunctionEnv scope X.env.globals (clOf X.env scope.names []) [] X.env.qual none .none (some X.env)) (fun cenv s4 =>
   codeAny (model X.prog X.w) X.A (.compStart (.ListComp elt [⟨tg, iter, ifs, 0⟩] scope pos) 0 (.ref it) acc { cenv with scope := relabel scope X.env }) (RR acc cenv.locals) s4) E s3) E s := by
 refine wpAny_newObj_type (wpAny_newFunctionEnv c.cells (by intro y hy; simp at hy) (fun h1 hns hsb => ?_) c.kind)
 dsimp only at hns hsb ⊢
 generalize hH2 : s.heap.push { cls := .type "list", dict := none, data := .seq ([] : List Value).toArray } = H2 at hns hsb ⊢
 have hD0 : s.heap.objs.size < H2.objs.size := by rw [<- hH2, Heap.size_push]; exact Nat.lt_succ_self _
 generalize hDD : s.heap.objs.size = D at hD0 ⊢
 generalize hCC : H2.objs.size = C at hns hsb hD0 ⊢
 have up : ∀ b o, s.heap.get? b = some o -> h1.get? b = some o := fun b o e => hsb.extBut b o (by
  have := Heap.lt_size e
  rw [hDD] at this
  exact Nat.ne_of_lt (Nat.lt_trans this hD0)) (Heap.get?_push_of_some _ (by rw [<- hH2]; exact Heap.get?_push_of_some _ e))
 have accD : h1.get? D = some { cls := .type "list", dict := none, data := .seq ([] : List Value).toArray } := hsb.extBut _ _ (Nat.ne_of_lt hD0) (Heap.get?_push_of_some _ (by rw [<- hH2, <- hDD]; exact Heap.get?_push_size _ rfl))
 have hlt : ∀ b ∈ fp, b < s.heap.objs.size := fun b hb => by
  obtain ⟨o, e, _⟩ := T.obj 0 _ st b hb
  exact Heap.lt_size e
 have hle : s.heap.objs.size <= C := by rw [hDD]; exact Nat.le_of_lt hD0
 generalize hX' : zeb X scope N' fp C s H = X'
 have I1 : Inv X' pins (zga fr σ) H { s with heap := h1, toks := s.toks + ([] : List (Str × Value)).length } := by
  subst hX'
  exact zxw c hc I hf hlt up hle hns
 have st1 : tn 0 h1 := T.keep _ _ _ st fun b hb o e => up b o e
 have pm : X'.prog = X.prog := by subst hX'; rfl
 have wm : X'.w = X.w := by subst hX'; rfl
 have km : X'.K = X.K := by subst hX'; rfl
 have cm : X'.calm = true := by subst hX'; rfl
 have am : X'.A = X.A := by subst hX'; rfl
 have xm : X'.xe = fun _ _ => False := by subst hX'; rfl
 have lm : X'.env.locals = C := by subst hX'; rfl
 have szm : X'.s₀.heap.objs.size = s.heap.objs.size := by subst hX'; rfl
 have nm : X'.pn = X.pn := by subst hX'; rfl
 have hg' := hg fp C s H
 have ht' := ht fp C s H
 have he' := he fp C s H
 have em : X'.env = compEnvC scope (clOf X.env scope.names []) C X.env := by subst hX'; rfl
 have fsm : X'.fs = frs X.stack := by subst hX'; rfl
 have exm : X'.ex = fp := by subst hX'; rfl
 rw [hX'] at hg' ht' he'
 have ageP : ∀ p ∈ X.pn ++ pins, p.1 < D := fun p hp => by rw [<- hDD]; exact Heap.lt_size (I.pin p hp).1
 have ageC : ∀ x d, X'.env.cells.lookup x = some d -> d < D := fun x d e => by
  rw [em] at e
  rcases zgy scope.names [] (c.has I.ok) e with q | q
  ·simp at q
  ·obtain ⟨v, z⟩ := I.cell x d q
   rw [<- hDD]
   exact z.lt
 have cellF : ∀ x d, X'.env.cells.lookup x = some d -> X.env.cells.lookup x = some d := fun x d e => by
  rw [em] at e
  rcases zgy scope.names [] (c.has I.ok) e with q | q
  ·simp at q
  ·exact q
 have fps : ∀ {H' : Hp} {oD : Obj}, (∀ b ∈ fp, H' b = none) -> ∀ b ∈ fp, FpOk X' (pins ++ [(D, oD)]) H' b := fun {H' oD} hn b hb => by
  obtain ⟨_, f1, f2, f3, f4, f5⟩ := hf b hb
  have hbD : b < D := by rw [<- hDD]; exact hlt b hb
  refine ⟨hn b hb, ?_, ?_, .inl (by rw [exm]; exact hb), fun x d e => f4 x d (cellF x d e), fun p hp => ?_⟩
  ·rw [lm]; exact Nat.ne_of_lt (Nat.lt_trans hbD hD0)
  ·rw [fsm]
   intro hs
   rcases List.mem_cons.mp (I.stkSub b hs) with z | z
   ·exact f1 z
   ·exact f2 z
  ·rw [nm, <- List.append_assoc] at hp
   rcases List.mem_append.mp hp with z | z
   ·exact f5 p z
   ·rw [List.mem_singleton.mp z]
    exact Nat.ne_of_gt hbD
 have pinD : ∀ {σ' : St} {H' : Hp} {s' : Shared} {its : List Value} {k : Nat}, Inv X' pins σ' H' s' -> s'.heap.get? D = some { cls := .type "list", data := .seq its.toArray k } -> H' D = none ->
   Inv X' (pins ++ [(D, { cls := .type "list", data := .seq its.toArray k })]) σ' H' s' := fun {σ' H' s' its k} J0 e n => J0.pins_of fun p hp => by
  rcases List.mem_append.mp hp with z | z
  ·exact J0.pin p (List.mem_append_right _ z)
  ·rw [List.mem_singleton.mp z]
   refine ⟨e, n, ?_, ?_, fun v q => by cases q⟩
   ·show D ≠ X'.env.locals
    rw [lm]
    exact Nat.ne_of_lt hD0
   ·rw [fsm]
    intro hs
    have hb := I.stkSub D hs
    rcases List.mem_cons.mp hb with z | z
    ·have := I.lt
     rw [<- z, hDD] at this
     exact Nat.lt_irrefl _ this
    ·exact I.nofs (Nat.le_of_eq hDD) z
 have loop : ∀ s0 : Shared, s0 = { s with heap := h1, toks := s.toks + ([] : List (Str × Value)).length } ->
   codeAny (model X.prog X.w) X.A (.compLoop (.ListComp elt [⟨tg, iter, ifs, 0⟩] scope pos) 0 (.ref it) (.ref D) X'.env) (RR (.ref D) C) s0 := by
  rintro s0 rfl
  obtain ⟨m0, w0⟩ := h0
  refine zvo (fun n s' => ∃ i ys σ' H' its k, Inv X' pins σ' H' s' /\ tn i s'.heap /\ (∀ b ∈ fp, H' b = none) /\ s'.heap.get? D = some { cls := .type "list", data := .seq (its : List Value).toArray k } /\ H' D = none /\ Vals ys its /\ W i n ys σ' H')
   ?_ m0 ⟨0, [], zga fr σ, H, [], 0, I1, st1, fun b hb => (hf b hb).1, accD, I.hok.fresh (by rw [hDD]; exact Nat.le_refl _), .nil, w0⟩
  rintro n s1 ⟨i, ys, σ1, H1, its, k, J1, t1, n1, d1, nD1, v1, w1⟩
  have J1' := pinD J1 d1 nD1
  rcases hW i n ys σ1 H1 w1 with ⟨stop, hlen, fi⟩ | ⟨go, hlen, step⟩
  ·have a1 := T.done X' pm wm km cm i _ s1 σ1 H1 (fun _ _ => False) J1' (fps n1) t1 stop
   rw [am] at a1
   refine thn a1 fun r s2 ⟨hr, J2⟩ => ?_
   subst hr
   obtain ⟨d2, nD2, _⟩ := J2.pin (D, _) (List.mem_append_right _ (List.mem_append_right _ List.mem_cons_self))
   have u2 : Un (frs X.stack) fp H H1 s.heap s2.heap := by
    have := J2.base
    subst hX'
    exact this
   have hok2 : HOk X.prog X.w (upd H1 D (.lst ys)) s2.heap := by
    have h2 := J2.hok
    rw [pm, wm] at h2
    exact h2.track nD1 ⟨hlen, its, k, v1, d2⟩
   have J3 : Inv X pins σ (upd H1 D (.lst ys)) s2 := by
    refine I.call' (ch := fp) (by have := J2.os; subst hX'; exact this) ⟨fun b o e n hb hx => u2.keep b o e n hb hx, fun b o e n hb hx => u2.slot b o e n hb hx, fun b o e n hx => ?_, fun b o e hx => u2.there b o e hx, fun b xs e => ?_, fun b o u e => ?_, fun b ps e => ?_⟩ hok2 J2.bare fun b hb => ?_
    ·have ne : b ≠ D := Nat.ne_of_lt (by rw [<- hDD]; exact Heap.lt_size e)
     rw [zas ne]
     exact u2.free b o e n hx
    ·have q := u2.tups b xs e
     rw [zas (zao q nD1)]
     exact q
    ·have q := u2.frzs b o u e
     rw [zas (zao q nD1)]
     exact q
    ·obtain ⟨more, q⟩ := u2.tbls b ps e
     exact ⟨more, by rw [zas (zao q nD1)]; exact q⟩
    ·obtain ⟨_, f1, f2, f3, f4, f5⟩ := hf b hb
     exact ⟨f3, f1, f4, f5⟩
   have nC : (upd H1 D (.lst ys)) C = none := by
    rw [zas (Nat.ne_of_gt hD0)]
    have := J2.free
    rw [lm] at this
    exact this
   refine hRR D C ys H1 s2 J3 ?_ (I.fpOk hle nC) nD1 fi
   obtain ⟨m, hm, _⟩ := J2.loc
   rw [lm] at hm
   exact ⟨m, hm⟩
  ·have a1 := T.item X' pm wm km cm i _ s1 σ1 H1 (fun _ _ => False) J1' (fps n1) t1 go
   rw [am] at a1
   refine thn a1 fun r s2 ⟨u, hr, h2⟩ => ?_
   subst hr
   refine thn h2 fun _ s3 ⟨x, H3, J3, r3, y3, t3, n3⟩ => ?_
   have J3' := J3.pinned (fps n3) (T.obj _ _ t3)
   have a3 := hg' _ s3 σ1 H3 x u _ J3' r3 (step x H3 y3)
   rw [pm, wm, am, xm] at a3
   refine thn a3 fun _ s4 ⟨σ4, H4, J4, q4⟩ => ?_
   have a4 := ht' _ s4 σ4 H4 _ J4 q4
   rw [pm, wm, am, xm] at a4
   refine thn a4 fun ok s5 ⟨H5, J5, q5⟩ => ?_
   have keepT : ∀ {σ' : St} {H' : Hp} {s' : Shared}, Inv X' (pins ++ [(D, { cls := .type "list", data := .seq its.toArray k })] ++ zlm fp s3.heap) σ' H' s' -> tn (i + 1) s'.heap /\ (∀ b ∈ fp, H' b = none) /\ s'.heap.get? D = some { cls := .type "list", data := .seq its.toArray k } /\ H' D = none /\ Inv X' pins σ' H' s' := fun {σ' H' s'} J0 => by
    refine ⟨T.keep _ _ _ t3 fun b hb o e => (J0.pin (b, o) (List.mem_append_right _ (List.mem_append_right _ (zel hb e)))).1, fun b hb => ?_, ?_, ?_, J0.unpinned.unpinned⟩
    ·obtain ⟨o, e, _⟩ := T.obj _ _ t3 b hb
     exact (J0.pin (b, o) (List.mem_append_right _ (List.mem_append_right _ (zel hb e)))).2.1
    ·exact (J0.pin (D, _) (List.mem_append_right _ (List.mem_append_left _ (List.mem_append_right _ List.mem_cons_self)))).1
    ·exact (J0.pin (D, { cls := .type "list", data := .seq its.toArray k }) (List.mem_append_right _ (List.mem_append_left _ (List.mem_append_right _ List.mem_cons_self)))).2.1
   cases ok with
   | false =>
    obtain ⟨m', hm, w'⟩ := q5
    obtain ⟨e1, e2, e3, e4, e5⟩ := keepT J5
    rw [if_neg Bool.false_ne_true]
    exact ⟨m', hm, i + 1, ys, σ4, H5, its, k, e5, e1, e2, e3, e4, v1, w'⟩
   | true =>
    rw [if_pos rfl]
    have a5 := he' _ s5 σ4 H5 _ J5 q5
    rw [pm, wm, am, xm] at a5
    refine thn a5 fun u6 s6 ⟨y, H6, J6, r6, m', hm, w6⟩ => ?_
    obtain ⟨e1, e2, e3, e4, e5⟩ := keepT J6
    refine append_at (hsz := by show its.toArray.size <= sizeLine; rw [List.size_toArray, <- v1.length]; exact Nat.le_of_lt hlen) e3 fun h7 sb7 d7 => ?_
    have J7 : Inv X' pins σ4 H6 { s6 with heap := h7 } := e5.turned (t' := s6.toks) (it := D) (fun b o hb e => sb7.extBut b o hb e) e4 (by rw [lm]; exact Nat.ne_of_lt hD0) (.inr (by rw [szm, hDD]; exact Nat.le_refl _)) (fun x d e => Nat.ne_of_lt (ageC x d e)) fun p hp => by
     rw [nm] at hp
     exact Nat.ne_of_lt (ageP p hp)
    refine ⟨m', hm, i + 1, ys ++ [y], σ4, H6, its ++ [u6], k + 1, J7, T.keep _ _ _ e1 fun b hb o e => sb7.extBut b o (Nat.ne_of_lt (by rw [<- hDD]; exact hlt b hb)) e, e2, ?_, e4, v1.append (.cons r6 .nil), w6⟩
    rw [d7, List.push_toArray]
 have env1 : ({ newEnv scope C X.env.globals (clOf X.env scope.names []) X.env.qual none .none (some X.env) 0 with scope := relabel scope X.env } : Env) = X'.env := by rw [em]; rfl
 have lp := loop _ rfl
 rw [em] at lp
 exact codeAny_compStart_list lp (T.self _ 0 _ _ _ st1 lp)
def tComp (wi : TI) (fr : List (Option Nat)) (g : TG) (tt : TT) (te : TE) : TE := fun σ H Q => wi σ H fun J H1 =>
 ∃ W, CompW J g tt te (fun ys H' => ∀ p, H' p = none -> Q (.ref p) (upd H' p (.lst ys))) W /\ ∃ m, W 0 m [] (zga fr σ) H1
theorem zci {wi : TI} (c : CompOk X scope N' fr) (hc : X.calm = true) (hi : PI X tg iter wi) (hg : ∀ fp C s H, PG (zeb X scope N' fp C s H) tg g) (ht : ∀ fp C s H, PIfs (zeb X scope N' fp C s H) ifs tt)
  (he : ∀ fp C s H, PE (zeb X scope N' fp C s H) elt te) (hs : ∀ x, foldedSetIterable iter X.env x = pure x := by intro _; rfl) : PE X (.ListComp elt [⟨tg, iter, ifs, 0⟩] scope pos) (tComp wi fr g tt te) := by
 intro pins s σ H Q I h
 rw [eval_ListComp]
 refine wpAny_comprehension_free (use := none) rfl hs (zjg (c.has I.ok)) c.kind c.names (thn (hi pins s σ H _ I h) fun v s1 h1 => thn h1 fun itv s2 h2 => ?_)
 obtain ⟨it, fp, tn, J, H2, e, I2, T, st2, f2, W, hW, h0⟩ := h2
 subst e
 refine zjf c hc I2 T st2 f2 hg ht he hW h0 ?_
 rintro D C ys H' s' J3 ⟨m, hm⟩ ⟨f0, f1, _, f3, f4, f5⟩ nD fi
 exact ⟨m, hm, fun h'' sb => ⟨.ref D, _, J3.turned (t' := s'.toks) (it := C) (fun b o hb e => sb.extBut b o hb e) f0 f1 f3 f4 f5, rfl, fi D nD⟩⟩
def zwt (i : Nat) (wi : TI) (fr : List (Option Nat)) (g : TG) (tt : TT) (te : TE) : TS := fun D σ H => wi σ H fun J H1 =>
 ∃ W, CompW J g tt te (fun ys H' => ∀ p, H' p = none -> D.nx (σ.set i (some (.ref p))) (upd H' p (.lst ys))) W /\ ∃ m, W 0 m [] (zga fr σ) H1
theorem zqy {wi : TI} {i : Nat} {y : Str} {py spos : Pos} (hN : X.N.Nodup) (hi' : X.N[i]? = some y) (hy : Loc X.env.scope y) (c : CompOk X scope N' fr) (hc : X.calm = true) (hi : PI X tg iter wi) (hg : ∀ fp C s H, PG (zeb X scope N' fp C s H) tg g) (ht : ∀ fp C s H, PIfs (zeb X scope N' fp C s H) ifs tt)
  (he : ∀ fp C s H, PE (zeb X scope N' fp C s H) elt te) (hs : ∀ x, foldedSetIterable iter X.env x = pure x := by intro _; rfl)
  (hsw : swapsWith (.ListComp elt [⟨tg, iter, ifs, 0⟩] scope pos) (some (.Name y py)) spos.line X.env = pure true := by rfl) (hf : X.fn y = true \/ X.env.scope.names.lookup y = some .local := by first | exact .inl rfl | exact .inr rfl | assumption) :
  PS X (.Assign [.Name y py] (.ListComp elt [⟨tg, iter, ifs, 0⟩] scope pos) spos) (zwt i wi fr g tt te) := by
 intro pins s σ H D I h
 rw [exec_Assign_Name_used _ _ _ _ hsw]
 refine wpAny_bind (wpAny_standAt (wpAny_bind ?_))
 show wpAny _ X.A (do let _ <- comprehension (.ListComp elt [⟨tg, iter, ifs, 0⟩] scope pos) scope X.env _ (newList []) false (eval iter X.env) (some (assign (.Name y py) X.env))) _ _ s
 refine wpAny_bind (thn (wpAny_comprehension_free (use := some (assign (.Name y py) X.env)) (Q := fun _ s' => SP X pins D .next s') rfl hs (zjg (c.has I.ok)) c.kind c.names
  (thn (hi pins s σ H _ I h) fun v s1 h1 => thn h1 fun itv s2 h2 => ?_)) fun _ s' hq => wpAny_pure (wpAny_pure hq))
 obtain ⟨it, fp, tn, J, H2, e, I2, T, st2, f2, W, hW, h0⟩ := h2
 subst e
 refine zjf c hc I2 T st2 f2 hg ht he hW h0 ?_
 rintro B C ys H' s' J3 ⟨m, hm⟩ ⟨f0, f1, _, f3, f4, f5⟩ nD fi
 show wpAny _ X.A (assign (.Name y py) X.env (.ref B)) _ _ s'
 refine wpAny_assign_Name (zlc J3 hN hi' hy (show RelV (.ref B) (.ref B) from rfl) (fun s4 J4 ⟨a, sb, ha⟩ => ?_) hf)
 have nCa : C ≠ a := by
  rcases ha with z | z
  ·rw [z]; exact f1
  ·exact fun q => f4 y a z q.symm
 exact ⟨m, hm.sameBut sb nCa, fun h'' sb2 => ⟨_, _, J4.turned (t' := s4.toks) (it := C) (fun b o hb e => sb2.extBut b o hb e) f0 f1 f3 f4 f5, fi B nD⟩⟩
end
section
variable {X : Cx}
theorem znw : CallR X (.builtin "isinstance") (fun xs H Q => ∃ x c t u b, xs = [x, c] /\ RelV c u /\ TyOf X.K H x t /\ PySem.W.kitOne X.K t u = some b /\ Q (.bl b) H) := by
 intro pins s σ H xs us Q I r h
 obtain ⟨x, c, t, u, b, rfl, rc, ty, e, q⟩ := h
 obtain ⟨u1, u2, rfl, r1, r2⟩ := Vals.two r
 have hu : u2 = u := by
  cases c <;> first
   | exact (show u2 = _ from r2).trans (show u = _ from rc).symm
   | skip
  all_goals (exfalso; obtain ⟨_, rfl⟩ := rc; unfold PySem.W.kitOne PySem.W.kitCls at e; split at e <;> first | (cases ty <;> simp_all) | (simp at e))
 subst hu
 exact zus I r1 ty e fun tk => ⟨.bl b, H, I.tok tk, rfl, q⟩
def rNil (K : PySem.W.Frag) (neg : Bool) : R2 := fun x y H Q => ∃ a b xs, x = .ref a /\ y = .ref b /\ SqL K H a xs /\ SqL K H b [] /\ Q (.bl (neg ^^ decide (xs = []))) H
theorem zxl (hu : X.A.units + 66 < cLine) : OpR X (compareOp .Eq) (rNil X.K false) := by
 intro pins s σ H x y v u Q I rx ry h
 obtain ⟨a, b, xs, rfl, rfl, ha, hb, q⟩ := h
 cases (show v = Value.ref a from rx)
 cases (show u = Value.ref b from ry)
 obtain ⟨its, r1, t1, _⟩ := I.list ha
 obtain ⟨its2, r2, t2, _⟩ := I.list hb
 have z2 : its2 = [] := Vals.zero r2
 subst z2
 cases xs with
 | nil =>
  have z1 : its = [] := Vals.zero r1
  subst z1
  exact SeqAt.eq_listAt (e := fun _ => true) t1.isList t2.isList rfl (by lia) (fun j h1 _ => absurd h1 (by simp)) ⟨.bl true, H, I, by simp [RelV], by simpa using q⟩
 | cons x xs =>
  have hl := r1.length
  exact SeqAt.eq_list_lengthsAt t1.isList t2.isList (by simp [<- hl]) (by lia) ⟨.bl false, H, I, rfl, by simpa using q⟩
theorem zlx {h h' : Heap} {o : Obj} (hk : ∀ b u, b ∉ [h.objs.size] -> (h.push o).get? b = some u -> h'.get? b = some u) : ∀ b u, h.get? b = some u -> h'.get? b = some u := fun b u e =>
 hk b u (fun hm => absurd (Heap.lt_size e) (by rw [List.mem_singleton.mp hm]; exact Nat.lt_irrefl _)) (Heap.get?_push_of_some _ e)
theorem zyp {bs : List Bool} {its : List Value} (r : Vals (bs.map V.bl) its) {i : Nat} {v : Value} (e : its.toArray[i]? = some v) : v = .bool (bs.getD i false) := by
 have e' : its[i]? = some v := by simpa using e
 have hl : i < its.length := (List.getElem?_eq_some_iff.mp e').1
 have hb : i < bs.length := by have := r.length; rw [List.length_map] at this; lia
 obtain ⟨u, e1, q⟩ := r.get (i := i) (x := V.bl bs[i]) (by simp [hb])
 rw [e1] at e'
 cases e'
 have e3 : v = Value.bool bs[i] := q
 rw [e3]
 simp [List.getD, hb]
theorem zjw (bs : List Bool) : (List.range bs.length).all (fun i => bs.getD i false) = bs.all id := by
 rw [Bool.eq_iff_iff, List.all_eq_true, List.all_eq_true]
 constructor
 ·intro h x hx
  obtain ⟨i, hi, e⟩ := List.mem_iff_getElem.mp hx
  have := h i (List.mem_range.mpr hi)
  simp [List.getD, hi, e] at this
  exact this
 ·intro h i hi
  have hi' := List.mem_range.mp hi
  have := h bs[i] (List.getElem_mem hi')
  simpa [List.getD, hi'] using this
theorem zyo (hc : X.calm = true) : CallR X (.builtin "all") (fun xs H Q => ∃ (p : Addr) (bs : List Bool), xs = [.ref p] /\ SqL X.K H p (bs.map V.bl) /\ Q (.bl (bs.all id)) H) := by
 intro pins s σ H xs us Q I r h
 obtain ⟨p, bs, rfl, hp, q⟩ := h
 obtain ⟨u, rfl, ru⟩ := Vals.one r
 cases (show u = Value.ref p from ru)
 obtain ⟨its, r1, t1, _⟩ := I.list hp
 have hh : X.A.in1.handled = none := I.ok.hd hc
 have hlt : p < s.heap.objs.size := by obtain ⟨_, e, _⟩ := t1.isList; exact Heap.lt_size e
 refine call_all_walk (wpAny_pyIter_list t1.isList ⟨_, _, _, _, _, _, fun i => bs.getD i false, rfl, Walks.list hh _ p (Nat.ne_of_lt hlt) its.toArray, ⟨⟨_, Heap.get?_push_size _ rfl, rfl, rfl⟩, t1.isList.push _⟩, ?_, ?_⟩)
 ·intro i v s' Q' E' e hq
  rw [zyp r1 e]
  exact wpAny_truthy_bool hq
 ·intro h' tk hk
  have hl : its.toArray.size = bs.length := by have := r1.length; simp at this ⊢; lia
  rw [hl, zjw]
  exact ⟨.bl _, H, I.kept (zlx hk), rfl, q⟩
end
section
variable {X : Cx} {pins : List (Addr × Obj)} {σ : St} {H : Hp} {s : Shared}
theorem Inv.turnM {ch : List Addr} {t' : Nat} {h' : Heap} (I : Inv X pins σ H s) (hf : ∀ b ∈ ch, FpOk X pins H b) (k : ∀ b u, b ∉ ch -> s.heap.get? b = some u -> h'.get? b = some u) : Inv X pins σ H { s with heap := h', toks := t' } := by
 have nch : ∀ b u, H b = some u -> b ∉ ch := fun b u e z => by have := (hf b z).1; rw [this] at e; cases e
 refine I.step (g' := s.gens) (d' := s.drawn) (ch := ch) (fun b hb => ⟨(hf b hb).2.2.2.1, (hf b hb).2.1, (hf b hb).2.2.2.2.1, (hf b hb).2.2.2.2.2⟩) (fun b o _ _ hc e _ => k b o hc e) (fun b o _ _ hc e _ => ⟨o.slots, k b o hc e⟩) (fun _ _ _ _ n => n)
  (fun b o hc e => ⟨o, k b o hc e⟩) (fun _ _ e => e) (fun _ _ _ e => e) (fun b ps e => ⟨#[], by rw [e]; simp⟩) (fun m hm => ?_) (fun b u e => ?_) I.bare
 ·obtain ⟨o, es, ep, ho, r⟩ := hm
  exact ⟨o, es, ep, k _ o (fun z => (hf _ z).2.1 rfl) ho, r⟩
 ·refine (I.hok b u e).stay (fun c v hc q => k c v ?_ q) (fun _ q => q) fun _ _ q => q
  rcases hc with z | z
  ·rw [z]; exact nch b u e
  ·exact nch c _ z
theorem Inv.turnNew {ch : List Addr} {T : Addr} {o : HO} {t' : Nat} {h' : Heap} (I : Inv X pins σ H s) (hf : ∀ b ∈ ch, FpOk X pins H b) (k : ∀ b u, b ∉ ch -> s.heap.get? b = some u -> h'.get? b = some u) (hT : s.heap.objs.size <= T)
  (new : ObjOk X.prog X.w (upd H T o) h' T o) : Inv X pins σ (upd H T o) { s with heap := h', toks := t' } := by
 have nch : ∀ b u, H b = some u -> b ∉ ch := fun b u e z => by have := (hf b z).1; rw [this] at e; cases e
 have nT : H T = none := I.hok.fresh hT
 have neT : ∀ b u, s.heap.get? b = some u -> b ≠ T := fun b u e => Nat.ne_of_lt (Nat.lt_of_lt_of_le (Heap.lt_size e) hT)
 refine I.step (g' := s.gens) (d' := s.drawn) (ch := ch) (fun b hb => ⟨(hf b hb).2.2.2.1, (hf b hb).2.1, (hf b hb).2.2.2.2.1, (hf b hb).2.2.2.2.2⟩) (fun b o _ _ hc e _ => k b o hc e) (fun b o _ _ hc e _ => ⟨o.slots, k b o hc e⟩) (fun b u _ e n => by rw [zas (neT b u e)]; exact n)
  (fun b o hc e => ⟨o, k b o hc e⟩) (fun b xs e => by rw [zas (zao e nT)]; exact e) (fun b o u e => by rw [zas (zao e nT)]; exact e) (fun b ps e => ⟨#[], by rw [zas (zao e nT), e]; simp⟩) (fun m hm => ?_) (fun b u e => ?_) I.bare
 ·obtain ⟨o, es, ep, ho, r⟩ := hm
  exact ⟨o, es, ep, k _ o (fun z => (hf _ z).2.1 rfl) ho, r⟩
 ·by_cases hb : b = T
  ·subst hb
   rw [zab] at e
   cases e
   exact new
  ·rw [zas hb] at e
   refine (I.hok b u e).stay (fun c v hc q => k c v ?_ q) (fun c r => by rw [zas (zao r nT)]; exact r) fun c xs r => by rw [zas (zao r nT)]; exact r
   rcases hc with z | z
   ·rw [z]; exact nch b u e
   ·exact nch c _ z
end
inductive Kd | l | t
def ItAt (k : Kd) (h : Heap) (it a : Addr) (i : Nat) : Prop := match k with | .l => h.IsListIter it a i | .t => h.IsTupleIter it a i
def SqK (k : Kd) (K : PySem.W.Frag) (H : Hp) (a : Addr) (xs : List V) : Prop := match k with | .l => SqL K H a xs | .t => SqT K H a xs
def SeqIs (k : Kd) (h : Heap) (a : Addr) (its : List Value) : Prop := match k with | .l => h.IsList a its.toArray | .t => h.IsTuple a its.toArray
def zqa : Kd -> String | .l => "list_iterator" | .t => "tuple_iterator"
theorem Inv.seq {X : Cx} {pins : List (Addr × Obj)} {σ : St} {H : Hp} {s : Shared} (I : Inv X pins σ H s) {k : Kd} {a : Addr} {xs : List V} (h : SqK k X.K H a xs) : ∃ its : List Value, Vals xs its /\ SeqIs k s.heap a its /\ xs.length <= sizeLine := by
 cases k with
 | l => obtain ⟨its, r, t, z⟩ := I.list h; exact ⟨its, r, t.isList, z⟩
 | t => obtain ⟨its, r, t, z⟩ := I.tuple h; exact ⟨its, r, t, z⟩
theorem ItAt.kept {k : Kd} {h h' : Heap} {it a : Addr} {i : Nat} (q : ItAt k h it a i) (e : ∀ o, h.get? it = some o -> h'.get? it = some o) : ItAt k h' it a i := by
 cases k with
 | l => obtain ⟨o, ho, r⟩ := (show h.IsListIter it a i from q); exact ⟨o, e _ ho, r⟩
 | t => obtain ⟨o, ho, r⟩ := (show h.IsTupleIter it a i from q); exact ⟨o, e _ ho, r⟩
theorem ItAt.obj {k : Kd} {h : Heap} {it a : Addr} {i : Nat} (q : ItAt k h it a i) : ∃ o, h.get? it = some o /\ ∀ v, o.data ≠ .cell v := by
 cases k with
 | l => obtain ⟨o, ho, _, d⟩ := (show h.IsListIter it a i from q); exact ⟨o, ho, fun v z => by rw [d] at z; cases z⟩
 | t => obtain ⟨o, ho, _, d⟩ := (show h.IsTupleIter it a i from q); exact ⟨o, ho, fun v z => by rw [d] at z; cases z⟩
theorem SeqIs.kept {k : Kd} {h h' : Heap} {a : Addr} {its : List Value} (q : SeqIs k h a its) (e : ∀ o, h.get? a = some o -> h'.get? a = some o) : SeqIs k h' a its := by
 cases k with
 | l => obtain ⟨o, ho, r⟩ := (show h.IsList a its.toArray from q); exact ⟨o, e _ ho, r⟩
 | t => obtain ⟨o, ho, r⟩ := (show h.IsTuple a its.toArray from q); exact ⟨o, e _ ho, r⟩
section
variable {prog : Program} {w : World} {A : Around} {E : Value -> Shared -> Prop} {s : Shared}
theorem zxo {it t : Addr} {i : Nat} {its : List Value} {x : Value} {Q : Value -> Shared -> Prop} (hi : s.heap.IsTupleIter it t i) (ht : s.heap.IsTuple t its.toArray) (hx : its[i]? = some x)
  (q : ∀ h', h'.IsTupleIter it t (i + 1) -> Heap.SameBut it s.heap h' -> Q x { s with heap := h' }) : wpAny (model prog w) A (Builtin.SmallTypes.nextOf (.ref it)) Q E s := by
 obtain ⟨oi, gi, ci, di⟩ := id hi
 obtain ⟨ot, gt, _, nt, dt⟩ := ht
 have hx' : its.toArray[i]? = some x := by simpa using hx
 unfold Builtin.SmallTypes.nextOf
 refine wpAny_bind (wpAny_callSpecial?_slot (name := Str.ofString "__next__") hi.typeIs F.slot_tuple_iterator_next (wpAny_call_entry F.slot_tuple_iterator_next hi.typeIs F.entry_tuple_iterator_next ?_ (F.args_tuple_iterator_next_1 _)))
 show wpAny _ _ (field (Value.ref it) 0 >>= _) _ _ s
 refine wpAny_bind (wpAny_field gi di (x := Value.ref t) rfl ?_)
 rw [if_neg (show ¬ ((Value.ref t == Value.none) = true) by intro z; cases z)]
 refine wpAny_bind (wpAny_field gi di (x := Value.int i 0) rfl ?_)
 refine wpAny_bind (wpAny_seqItems gt dt ?_)
 simp only [Int.toNat_natCast, hx']
 refine wpAny_bind (wpAny_setField gi di (by simp) (wpAny_pure ⟨x, rfl, wpAny_pure (q _ ?_ (Heap.SameBut.update ..))⟩))
 refine ⟨_, Heap.get?_update_self _ gi (Obj.isFreed_of_fields (Obj.data_mapFields di _)), (Obj.cls_mapFields ..).trans ci, ?_⟩
 rw [Obj.data_mapFields di]
 simp [rawInt]
theorem zBx {it t : Addr} {i : Nat} {its : List Value} {Q : Value -> Shared -> Prop} (hh : A.handled = none) (hi : s.heap.IsTupleIter it t i) (ht : s.heap.IsTuple t its.toArray) (hx : its.length <= i)
  (q : ∀ h' e, Heap.ExtBut it s.heap h' -> (∃ o, h'.get? e = some o /\ o.cls = .type "StopIteration") -> E (.ref e) { s with heap := h' }) : wpAny (model prog w) A (Builtin.SmallTypes.nextOf (.ref it)) Q E s := by
 obtain ⟨oi, gi, ci, di⟩ := id hi
 obtain ⟨ot, gt, _, nt, dt⟩ := ht
 have hx' : its.toArray[i]? = none := by simpa using hx
 unfold Builtin.SmallTypes.nextOf
 refine wpAny_bind (wpAny_callSpecial?_slot (name := Str.ofString "__next__") hi.typeIs F.slot_tuple_iterator_next (wpAny_call_entry F.slot_tuple_iterator_next hi.typeIs F.entry_tuple_iterator_next ?_ (F.args_tuple_iterator_next_1 _)))
 show wpAny _ _ (field (Value.ref it) 0 >>= _) _ _ s
 refine wpAny_bind (wpAny_field gi di (x := Value.ref t) rfl ?_)
 rw [if_neg (show ¬ ((Value.ref t == Value.none) = true) by intro z; cases z)]
 refine wpAny_bind (wpAny_field gi di (x := Value.int i 0) rfl ?_)
 refine wpAny_bind (wpAny_seqItems gt dt ?_)
 simp only [Int.toNat_natCast, hx']
 refine wpAny_bind (wpAny_rule (wpAny_bind (wpAny_setField gi di (by simp) (wpAny_bind ?_))))
 simp only [newExc, newTuple]
 refine wpAny_bind (wpAny_newObj_type (wpAny_bind (m := firstArgMember _ _) (wpAny_of_eq (a := Value.none) ?_ (wpAny_newObj_type ?_ (by size_fits)))) (by size_fits))
 ·first | rfl | (simp only [firstArgMember]; rfl)
 simp only [raiseNew]
 refine wpAny_bind (wpAny_handled ?_)
 first | rw [show A.in1.handled = none from hh] | rw [hh]
 exact wpAny_bind (wpAny_pure (wpAny_throw (q _ _ (((Heap.SameBut.update ..).extBut.push _).push _) ⟨_, Heap.get?_push_size _ rfl, rfl⟩)))
theorem zkb {k : Kd} {it a : Addr} {i : Nat} {its : List Value} {x : Value} {Q : Value -> Shared -> Prop} (hi : ItAt k s.heap it a i) (hs : SeqIs k s.heap a its) (hx : its[i]? = some x)
  (q : ∀ h', ItAt k h' it a (i + 1) -> Heap.SameBut it s.heap h' -> Q x { s with heap := h' }) : wpAny (model prog w) A (Builtin.SmallTypes.nextOf (.ref it)) Q E s := by
 cases k with
 | l => exact wpAny_nextOf_list_item hi hs (by simpa using hx) q
 | t => exact zxo hi hs hx q
theorem zvf {k : Kd} {it a : Addr} {i : Nat} {its : List Value} {Q : Value -> Shared -> Prop} (hh : A.handled = none) (hi : ItAt k s.heap it a i) (hs : SeqIs k s.heap a its) (hx : its.length <= i)
  (q : ∀ h' e, Heap.ExtBut it s.heap h' -> (∃ o, h'.get? e = some o /\ o.cls = .type "StopIteration") -> E (.ref e) { s with heap := h' }) : wpAny (model prog w) A (Builtin.SmallTypes.nextOf (.ref it)) Q E s := by
 cases k with
 | l => exact wpAny_nextOf_list_end hh hi hs (by simpa using hx) q
 | t => exact zBx hh hi hs hx q
theorem zpz {k : Kd} {a : Addr} {its : List Value} {Q : Value -> Shared -> Prop} (hs : SeqIs k s.heap a its)
  (q : Q (.ref s.heap.objs.size) { s with heap := s.heap.push { cls := .type (zqa k), data := .fields #[.ref a, .int 0 0] } }) : wpAny (model prog w) A (pyIter (.ref a)) Q E s := by
 cases k with
 | l => exact wpAny_pyIter_list hs q
 | t => exact wpAny_pyIter_tuple hs q
theorem zuq {k : Kd} {h : Heap} {a : Addr} : ItAt k (h.push { cls := .type (zqa k), data := .fields #[.ref a, .int 0 0] }) h.objs.size a 0 := by
 cases k with
 | l => exact ⟨_, Heap.get?_push_size _ rfl, rfl, rfl⟩
 | t => exact ⟨_, Heap.get?_push_size _ rfl, rfl, rfl⟩
end
open AutoSeq1 (wpAny_loadPart')
section
variable {prog : Program} {w : World} {A : Around} {E : Value -> Shared -> Prop} {s : Shared}
theorem zvc {k : Kd} {e it a : Addr} {i : Nat} {its : List Value} {x old : Value} {Q : Value -> Shared -> Prop} (he : IsEnum s.heap e it i old) (hi : ItAt k s.heap it a i) (hs : SeqIs k s.heap a its) (hx : its[i]? = some x) (ne : e ≠ it)
  (q : ∀ h', IsEnumOut h' e it ((i : Int) + 1) x s.heap.objs.size -> ItAt k h' it a (i + 1) -> h'.get? s.heap.objs.size = some { cls := .type "tuple", data := .seq #[.int i s.toks, x] } ->
   (∀ b o, b ≠ e -> b ≠ it -> s.heap.get? b = some o -> h'.get? b = some o) -> Q (.ref s.heap.objs.size) { s with heap := h', toks := s.toks + 1 }) :
  wpAny (model prog w) A (Builtin.«enumerate.__next__» ⟨[.ref e], []⟩) (fun fin s' => ∃ v, fin = .done (.ret v) /\ Q v s') E s := by
 obtain ⟨hp, g, d, tk, os⟩ := s
 show wpAny _ _ (field (Value.ref e) 2 >>= _) _ _ _
 refine wpAny_bind (wpAny_field he rfl (x := Value.ref it) rfl (wpAny_bind (zkb hi hs hx fun g1 i1 b1 => ?_)))
 replace b1 : Heap.SameBut it hp g1 := b1
 have e1 : IsEnum g1 e it i old := (b1.2 e ne).trans he
 refine wpAny_bind (wpAny_field (s := ⟨g1, g, d, tk, os⟩) e1 rfl (x := rawInt i) rfl (wpAny_bind (wpAny_field (s := ⟨g1, g, d, tk, os⟩) e1 rfl (x := Value.none) rfl ?_)))
 refine wpAny_bind (wpAny_mkInt (wpAny_bind (wpAny_setField_rec (s := ⟨g1, g, d, tk + 1, os⟩) e1 (by simp) fun g2 e2 b2 => ?_)))
 replace b2 : Heap.SameBut e g1 g2 := b2
 replace e2 : IsEnum g2 e it ((i : Int) + 1) old := e2
 refine wpAny_bind (wpAny_setField_rec (s := ⟨g2, g, d, tk + 1, os⟩) e2 (by simp) fun g3 e3 b3 => ?_)
 replace b3 : Heap.SameBut e g2 g3 := b3
 replace e3 : IsEnum g3 e it ((i : Int) + 1) old := e3
 refine wpAny_bind (wpAny_newTuple ?_)
 have hz : g3.objs.size = hp.objs.size := by rw [b3.1, b2.1, b1.1]
 have el : e < hp.objs.size := Heap.lt_size he
 obtain ⟨oi, gi, _⟩ := hi.obj
 have il : it < hp.objs.size := Heap.lt_size gi
 have e4 : IsEnum (g3.push { cls := .type "tuple", data := .seq #[.int i tk, x] }) e it ((i : Int) + 1) old := Heap.get?_push_of_some _ e3
 have t4 : (g3.push { cls := .type "tuple", data := .seq #[.int i tk, x] }).get? hp.objs.size = some { cls := .type "tuple", data := .seq #[.int i tk, x] } := by rw [<- hz]; exact Heap.get?_push_size _ rfl
 have k4 : ∀ b o, b ≠ e -> b ≠ it -> hp.get? b = some o -> (g3.push { cls := .type "tuple", data := .seq #[.int i tk, x] }).get? b = some o := fun b o h1 h2 h3 =>
  Heap.get?_push_of_some _ (b3.extBut b o h1 (b2.extBut b o h1 (b1.extBut b o h2 h3)))
 have i4 : ItAt k (g3.push { cls := .type "tuple", data := .seq #[.int i tk, x] }) it a (i + 1) := i1.kept fun o h => Heap.get?_push_of_some _ (b3.extBut it o ne.symm (b2.extBut it o ne.symm h))
 show wpAny _ _ (Builtin.SmallTypes.ownedTupleIsFree (Value.ref e) >>= _) _ _ ⟨g3.push { cls := .type "tuple", data := .seq #[.int i tk, x] }, g, d, tk + 1, os⟩
 rw [hz]
 generalize g3.push { cls := .type "tuple", data := .seq #[.int i tk, x] } = g4 at e4 t4 k4 i4
 refine wpAny_bind ?_
 unfold Builtin.SmallTypes.ownedTupleIsFree
 refine wpAny_bind (wpAny_field e4 rfl (x := Value.none) rfl (wpAny_pure ?_))
 simp only [if_true]
 refine wpAny_bind (wpAny_rule (wpAny_bind (wpAny_field e4 rfl (x := old) rfl (wpAny_bind (wpAny_setField_rec e4 (by simp) fun g5 e5 b5 => ?_)))))
 replace b5 : Heap.SameBut e g4 g5 := b5
 replace e5 : IsEnum g5 e it ((i : Int) + 1) x := e5
 refine wpAny_bind ?_
 unfold Builtin.SmallTypes.ownedTupleHandOut
 refine wpAny_bind (wpAny_setField_rec e5 (by simp) fun g6 e6 b6 => ?_)
 replace b6 : Heap.SameBut e g5 g6 := b6
 replace e6 : IsEnumOut g6 e it ((i : Int) + 1) x hp.objs.size := e6
 refine wpAny_setField_rec e6 (by simp) fun g7 e7 b7 => ?_
 replace b7 : Heap.SameBut e g6 g7 := b7
 replace e7 : IsEnumOut g7 e it ((i : Int) + 1) x hp.objs.size := e7
 have up : ∀ b o, b ≠ e -> g4.get? b = some o -> g7.get? b = some o := fun b o h1 h2 => b7.extBut b o h1 (b6.extBut b o h1 (b5.extBut b o h1 h2))
 exact wpAny_bind (wpAny_letGo (wpAny_pure ⟨_, rfl, q g7 e7 (i4.kept fun o h => up it o ne.symm h) (up _ _ (Nat.ne_of_gt el) t4) fun b o h1 h2 h3 => up b o h1 (k4 b o h1 h2 h3)⟩))
theorem zvd {k : Kd} {e it a : Addr} {i : Nat} {its : List Value} {x old : Value} {Q : Option Value -> Shared -> Prop} (he : IsEnum s.heap e it i old) (hi : ItAt k s.heap it a i) (hs : SeqIs k s.heap a its) (hx : its[i]? = some x) (ne : e ≠ it)
  (q : ∀ h', IsEnumOut h' e it ((i : Int) + 1) x s.heap.objs.size -> ItAt k h' it a (i + 1) -> h'.get? s.heap.objs.size = some { cls := .type "tuple", data := .seq #[.int i s.toks, x] } ->
   (∀ b o, b ≠ e -> b ≠ it -> s.heap.get? b = some o -> h'.get? b = some o) -> Q (some (.ref s.heap.objs.size)) { s with heap := h', toks := s.toks + 1 }) :
  wpAny (model prog w) A (pyNext (.ref e)) Q E s := by
 have ty : s.TypeIs (.ref e) "enumerate" := ⟨_, he, rfl⟩
 unfold pyNext
 exact wpAny_bind (wpAny_attempt (wpAny_callSpecial?_slot (name := Str.ofString "__next__") ty F.slot_enumerate_next (wpAny_call_entry F.slot_enumerate_next ty F.entry_enumerate_next
   (zvc he hi hs hx ne fun h' a b c d => wpAny_pure (q h' a b c d)) (F.args_enumerate_next_1 _))))
theorem zve {k : Kd} {e it a : Addr} {i : Nat} {its : List Value} {old : Value} {Q : Option Value -> Shared -> Prop} (hh : A.handled = none) (he : IsEnum s.heap e it i old) (hi : ItAt k s.heap it a i) (hs : SeqIs k s.heap a its) (hx : its.length <= i)
  (q : ∀ h', Heap.ExtBut it s.heap h' -> Q none { s with heap := h' }) : wpAny (model prog w) A (pyNext (.ref e)) Q E s := by
 have ty : s.TypeIs (.ref e) "enumerate" := ⟨_, he, rfl⟩
 unfold pyNext
 refine wpAny_bind (wpAny_attempt (wpAny_callSpecial?_slot (name := Str.ofString "__next__") ty F.slot_enumerate_next (wpAny_call_entry F.slot_enumerate_next ty F.entry_enumerate_next ?_ (F.args_enumerate_next_1 _))))
 show wpAny _ _ (field (Value.ref e) 2 >>= _) _ _ _
 refine wpAny_bind (wpAny_field he rfl (x := Value.ref it) rfl (wpAny_bind (zvf hh hi hs hx fun h' z k1 k2 => ?_)))
 obtain ⟨o, ho, hc⟩ := k2
 exact wpAny_bind (wpAny_isInstance (T := "StopIteration") (b := true) ⟨o, ho, hc⟩ isSubtype_stop (wpAny_pure (q _ k1)))
theorem zmc (t : Addr) (items : Array Value) (n : Nat) (dct : Option Addr) (sl : Array (Option Value)) :
  Meets (Builtin.«enumerate.__new__» ⟨[.type "enumerate", .ref t], []⟩) (fun _ R s => s.heap.get? t = some { cls := .type "tuple", dict := dct, data := .seq items n, slots := sl } /\
   R (.ok (.ret (.ref (s.heap.push { cls := .type "tuple_iterator", data := .fields #[.ref t, .int 0 0] }).objs.size)))
    { s with heap := (s.heap.push { cls := .type "tuple_iterator", data := .fields #[.ref t, .int 0 0] }).push { cls := .type "enumerate", data := .fields #[.none, .bool false, .ref s.heap.objs.size, rawInt 0, .none, .none] } }) :=
 .of_wp fun prog w A R s h => by
  obtain ⟨hp, g, d, tk, os⟩ := s
  obtain ⟨ht, h⟩ := h
  have hsub := sub_enumerate
  have hT : Heap.IsTuple (Shared.heap ⟨hp, g, d, tk, os⟩) t items := ⟨_, ht, rfl, n, rfl⟩
  wp_walk using wpAny_loadPart' ht
  refine wpAny_stack_any fun st => wpAny_pure ?_
  split
  ·rename_i c _ _ _ _ _
   cases (c == Value.type "enumerate") <;>
   ·wp_walk using wpAny_loadPart' ht, wpAny_pyIter_tuple hT
    exact ⟨_, rfl, h⟩
  ·wp_walk using wpAny_loadPart' ht, wpAny_pyIter_tuple hT
   exact ⟨_, rfl, h⟩
theorem zvw {k : Kd} {a : Addr} {its : List Value} {Q : Value -> Shared -> Prop} (hs : SeqIs k s.heap a its)
  (q : ∀ h', IsEnum h' (s.heap.objs.size + 1) s.heap.objs.size 0 .none -> ItAt k h' s.heap.objs.size a 0 -> (∀ b o, s.heap.get? b = some o -> h'.get? b = some o) -> Q (.ref (s.heap.objs.size + 1)) { s with heap := h' }) :
  wpAny (model prog w) A (call (.type "enumerate") [.ref a]) Q E s := by
 cases k with
 | l => exact call_enumerate_list hs fun h' a b _ d => q h' a b d
 | t =>
  obtain ⟨⟨c, dct, dt, sl⟩, ht, hc, n, hd⟩ := (show s.heap.IsTuple a its.toArray from hs)
  replace hc : c = .type "tuple" := hc
  replace hd : dt = .seq its.toArray n := hd
  subst hc hd
  refine callType_new F.called_enumerate (by decide) (F.typeCall_enumerate_1 _) (F.newCall_enumerate_1 _) (fun obj => F.args_object_init_2 obj _) F.entry_enumerate_new (zmc a its.toArray n dct sl) ⟨ht, ?_⟩
  have z : (s.heap.push { cls := .type "tuple_iterator", data := .fields #[.ref a, .int 0 0] }).objs.size = s.heap.objs.size + 1 := Heap.size_push ..
  show _ /\ _
  have e1 := Heap.get?_push_size (s.heap.push { cls := .type "tuple_iterator", data := .fields #[.ref a, .int 0 0] }) (o := { cls := .type "enumerate", data := .fields #[.none, .bool false, .ref s.heap.objs.size, rawInt 0, .none, .none] }) rfl
  rw [z] at e1 ⊢
  exact ⟨⟨_, e1, rfl⟩, q _ e1 ⟨_, Heap.get?_push_of_some _ (Heap.get?_push_size _ rfl), rfl, rfl⟩ fun b o x => Heap.get?_push_of_some _ (Heap.get?_push_of_some _ x)⟩
end
def ItE (k : Kd) (K : PySem.W.Frag) (a : Addr) : It :=
 ⟨fun i H => ∃ xs x, SqK k K H a xs /\ xs[i]? = some x, fun i H x H' => ∃ p y, H p = none /\ x = .ref p /\ (∀ xs, SqK k K H a xs -> xs[i]? = some y) /\ H' = upd H p (.tup [.int i, y]), fun i H => ∃ xs, SqK k K H a xs /\ xs.length <= i⟩
theorem Inv.seq_inj {X : Cx} {pins : List (Addr × Obj)} {σ : St} {H : Hp} {s : Shared} (I : Inv X pins σ H s) {k : Kd} {a : Addr} {xs ys : List V} (h : SqK k X.K H a xs) (h' : SqK k X.K H a ys) : xs = ys := by
 cases k with
 | l => exact I.list_inj h h'
 | t => exact I.tuple_inj h h'
theorem zrp {P : Program} {w : World} {K : PySem.W.Frag} {elts : List Expr} {x1 : Nat} {tpos : Pos} (k : Kd) (a e it : Addr) (ne : e ≠ it) : Turn P w K (.Tuple elts x1 tpos) (ItE k K a) [e, it] e (fun i h => (∃ old, IsEnum h e it i old) /\ ItAt k h it a i) where
 mem := by simp
 obj := fun i h st b hb => by
  obtain ⟨⟨old, q⟩, r⟩ := st
  rcases List.mem_cons.mp hb with rfl | hb
  ·exact ⟨_, q, fun v z => by cases z⟩
  ·rw [List.mem_singleton.mp hb]; exact r.obj
 keep := fun i h h' st kk => ⟨let ⟨old, q⟩ := st.1; ⟨old, kk e (by simp) _ q⟩, st.2.kept fun o x => kk it (by simp) o x⟩
 item := by
  intro X hP hw hK hc i pins s σ H E I hf st hg
  subst hP hw hK
  obtain ⟨⟨old, he⟩, hi⟩ := st
  obtain ⟨xs, x, hq, hx⟩ := hg
  obtain ⟨its, r, hs, hz⟩ := I.seq hq
  obtain ⟨u, e1, ru⟩ := r.get hx
  refine zvd he hi hs e1 ne fun h' a1 a2 a3 a4 => ⟨_, rfl, ?_⟩
  refine wpAny_letOwnedTupleGo_enum (s := { s with heap := h', toks := s.toks + 1 }) a1 fun h2 b1 b2 => ?_
  replace b2 : Heap.SameBut e h' h2 := b2
  have el : e < s.heap.objs.size := Heap.lt_size he
  have kk : ∀ b o, b ∉ [e, it] -> s.heap.get? b = some o -> h2.get? b = some o := fun b o hb q => by
   simp at hb
   exact b2.extBut b o hb.1 (a4 b o hb.1 hb.2 q)
  have tt : h2.get? s.heap.objs.size = some { cls := .type "tuple", data := .seq #[.int i s.toks, u] } := b2.extBut _ _ (Nat.ne_of_gt el) a3
  have fr : H s.heap.objs.size = none := I.hok.fresh (Nat.le_refl _)
  refine ⟨.ref s.heap.objs.size, upd H s.heap.objs.size (.tup [.int i, x]), I.turnNew hf kk (Nat.le_refl _) ?_, rfl, ⟨_, x, fr, rfl, fun ys hy => ?_, rfl⟩, ⟨⟨u, ?_⟩, a2.kept fun o q => b2.extBut it o ne.symm q⟩, fun b hb => ?_⟩
  ·exact ⟨by show 2 <= sizeLine; decide, [.int i s.toks, u], .cons ⟨_, rfl⟩ (.cons ru .nil), ⟨_, tt, rfl, 0, rfl⟩⟩
  ·rw [I.seq_inj hy hq]; exact hx
  ·have : ((i + 1 : Nat) : Int) = (i : Int) + 1 := by push_cast; rfl
   rw [this]; exact b1
  ·rw [zas]
   ·exact (hf b hb).1
   ·rcases List.mem_cons.mp hb with rfl | hb
    ·exact Nat.ne_of_lt el
    ·rw [List.mem_singleton.mp hb]
     obtain ⟨o, q, _⟩ := hi.obj
     exact Nat.ne_of_lt (Heap.lt_size q)
 done := by
  intro X hP hw hK hc i pins s σ H E I hf st hg
  subst hP hw hK
  obtain ⟨⟨old, he⟩, hi⟩ := st
  obtain ⟨xs, hq, hx⟩ := hg
  obtain ⟨its, r, hs, hz⟩ := I.seq hq
  refine zve (I.ok.hd hc) he hi hs (by rw [<- r.length]; exact hx) fun h' q => ⟨rfl, I.turnM (t' := s.toks) hf fun b o hb z => q b o (fun y => hb (by simp [y])) z⟩
 self := fun _ _ _ _ _ st h => let ⟨⟨_, he⟩, _⟩ := st; wpAny_pyIter_enum he h
def iEnum (k : Kd) (K : PySem.W.Frag) (ta : TA) : TI := fun σ H R => ta σ H fun vs H1 => ∃ a xs, vs = [.ref a] /\ SqK k K H1 a xs /\ R (ItE k K a) H1
theorem zic : bootBuiltins "enumerate" = some (.type "enumerate") := by first | rfl | decide +kernel
theorem zAw {X : Cx} {elts : List Expr} {x1 : Nat} {tpos : Pos} {l : Expr} {ta : TA} {p pos : Pos} (k : Kd) (hg : Gl X "enumerate") (hm : X.mg "enumerate" = none) (ha : PA X [l] ta) (hs : starEach [l] X.env = [(false, eval l X.env)] := by rfl) :
  PI X (.Tuple elts x1 tpos) (.Call (.Name "enumerate" p) [l] [] pos) (iEnum k X.K ta) := by
 intro pins s σ H R I h
 refine Call_ (zge I hg hm zic (PyProof.Rows.callWith_type1 (thn (ha pos pins s σ H _ I h) fun us s1 ⟨vs, H1, I1, r1, q1⟩ => ?_) hs rfl))
 obtain ⟨a, xs, rfl, hq, q⟩ := q1
 obtain ⟨u, rfl, ru⟩ := Vals.one r1
 cases (show u = Value.ref a from ru)
 obtain ⟨its, r, hsq, hz⟩ := I1.seq hq
 refine zvw hsq fun h' a1 a2 a3 => wpAny_pyIter_enum (s := { s1 with heap := h' }) a1 ?_
 refine ⟨s1.heap.objs.size + 1, [s1.heap.objs.size + 1, s1.heap.objs.size], _, _, H1, rfl, I1.kept (t' := s1.toks) a3, zrp k a _ _ (Nat.succ_ne_self _), ⟨⟨_, a1⟩, a2⟩, fun b hb => ?_, q⟩
 rcases List.mem_cons.mp hb with rfl | hb
 ·exact I1.fpOk (Nat.le_succ _) (I1.hok.fresh (Nat.le_succ _))
 ·rw [List.mem_singleton.mp hb]; exact I1.fpOk (Nat.le_refl _) (I1.hok.fresh (Nat.le_refl _))
open AutoSeq1 (wpAny_loadPart')
structure ZipAt (h : Heap) (k1 k2 : Kd) (z TI TO i1 i2 l1 l2 : Addr) (f0 : Value) (n : Nat) : Prop where
 zz : IsZip h z TI TO f0
 ti : IsPair h TI (.ref i1) (.ref i2)
 to : ∃ a b, IsPair h TO a b
 a1 : ItAt k1 h i1 l1 n
 a2 : ItAt k2 h i2 l2 n
structure ZipNe (z TI TO i1 i2 : Addr) : Prop where
 TIz : TI ≠ z
 TOz : TO ≠ z
 i1z : i1 ≠ z
 i2z : i2 ≠ z
 TITO : TI ≠ TO
 TIi1 : TI ≠ i1
 TIi2 : TI ≠ i2
 TOi1 : TO ≠ i1
 TOi2 : TO ≠ i2
 i12 : i1 ≠ i2
section
variable {prog : Program} {w : World} {A : Around} {E : Value -> Shared -> Prop} {s : Shared}
theorem zwk {k1 k2 : Kd} {z TI TO i1 i2 l1 l2 : Addr} {n : Nat} {xs ys : List Value} {x y : Value} {Q : Value -> Shared -> Prop} (D : ZipNe z TI TO i1 i2) (Z : ZipAt s.heap k1 k2 z TI TO i1 i2 l1 l2 .none n)
  (L1 : ∀ h', (∀ b o, b ≠ z -> b ≠ TO -> b ≠ i1 -> b ≠ i2 -> s.heap.get? b = some o -> h'.get? b = some o) -> SeqIs k1 h' l1 xs) (L2 : ∀ h', (∀ b o, b ≠ z -> b ≠ TO -> b ≠ i1 -> b ≠ i2 -> s.heap.get? b = some o -> h'.get? b = some o) -> SeqIs k2 h' l2 ys)
  (hx : xs[n]? = some x) (hy : ys[n]? = some y)
  (q : ∀ h', ZipAt h' k1 k2 z TI TO i1 i2 l1 l2 (rawInt s.heap.objs.size) (n + 1) -> IsPair h' s.heap.objs.size x y ->
   (∀ c o, c ≠ z -> c ≠ TO -> c ≠ i1 -> c ≠ i2 -> s.heap.get? c = some o -> h'.get? c = some o) -> Q (.ref s.heap.objs.size) { s with heap := h' }) :
  wpAny (model prog w) A (Builtin.«zip.__next__» ⟨[.ref z], []⟩) (fun fin s' => ∃ v, fin = .done (.ret v) /\ Q v s') E s := by
 obtain ⟨zz, ti, ⟨a, b, to⟩, a1, a2⟩ := Z
 show wpAny _ _ (field (Value.ref z) 2 >>= _) _ _ _
 refine wpAny_bind (wpAny_field zz rfl (x := Value.bool false) rfl (wpAny_bind (wpAny_field zz rfl (x := Value.ref TI) rfl (wpAny_bind (wpAny_seqItems ti rfl (wpAny_bind ?_))))))
 unfold Builtin.SmallTypes.ownedTupleIsFree
 refine wpAny_bind (wpAny_field zz rfl (x := Value.none) rfl (wpAny_pure ?_))
 simp only [if_true]
 refine wpAny_bind (wpAny_rule (wpAny_bind (wpAny_field zz rfl (x := Value.ref TO) rfl (wpAny_bind (wpAny_setField_rec zz (by simp) fun g1 z1 b1 => wpAny_bind ?_)))))
 replace z1 : IsZip g1 z TI TO .ellipsis := z1
 replace b1 : Heap.SameBut z s.heap g1 := b1
 simp only [List.zipIdx_cons, List.zipIdx_nil, List.forIn_cons, List.forIn_nil]
 have K1 : ∀ c o, c ≠ z -> c ≠ TO -> c ≠ i1 -> c ≠ i2 -> s.heap.get? c = some o -> g1.get? c = some o := fun c o h1 _ _ _ e => b1.extBut c o h1 e
 refine wpAny_bind (wpAny_bind (wpAny_onRaise (wpAny_bind (zkb (s := { s with heap := g1 }) (a1.kept fun o e => b1.extBut _ o D.i1z e) (L1 g1 K1) hx fun g2 j1 b2 => wpAny_pure ?_))))
 replace b2 : Heap.SameBut i1 g1 g2 := b2
 have t2 : IsPair g2 TO a b := b2.extBut _ _ D.TOi1 (b1.extBut _ _ D.TOz to)
 refine wpAny_bind (wpAny_seqItems t2 rfl (wpAny_bind (wpAny_updateSeq_pair t2 fun g3 t3 b3 => ?_)))
 replace t3 : IsPair g3 TO x b := t3
 replace b3 : Heap.SameBut TO g2 g3 := b3
 refine wpAny_bind (wpAny_letGo (wpAny_pure ?_))
 have K3 : ∀ c o, c ≠ z -> c ≠ TO -> c ≠ i1 -> c ≠ i2 -> s.heap.get? c = some o -> g3.get? c = some o := fun c o h1 h2 h3 h4 e => b3.extBut c o h2 (b2.extBut c o h3 (K1 c o h1 h2 h3 h4 e))
 have a3 : ItAt k2 g3 i2 l2 n := a2.kept fun o e => b3.extBut _ o D.TOi2.symm (b2.extBut _ o D.i12.symm (b1.extBut _ o D.i2z e))
 refine wpAny_bind (wpAny_bind (wpAny_onRaise (wpAny_bind (zkb (s := { s with heap := g3 }) a3 (L2 g3 K3) hy fun g4 j2 b4 => wpAny_pure ?_))))
 replace b4 : Heap.SameBut i2 g3 g4 := b4
 have t4 : IsPair g4 TO x b := b4.extBut _ _ D.TOi2 t3
 refine wpAny_bind (wpAny_seqItems t4 rfl (wpAny_bind (wpAny_updateSeq_pair t4 fun g5 t5 b5 => ?_)))
 replace t5 : IsPair g5 TO x y := t5
 replace b5 : Heap.SameBut TO g4 g5 := b5
 refine wpAny_bind (wpAny_letGo (wpAny_pure (wpAny_pure (wpAny_bind (wpAny_seqItems t5 rfl (wpAny_bind (wpAny_newTuple ?_)))))))
 have sz : g5.objs.size = s.heap.objs.size := by rw [b5.1, b4.1, b3.1, b2.1, b1.1]
 have z5 : IsZip g5 z TI TO .ellipsis := b5.extBut _ _ D.TOz.symm (b4.extBut _ _ D.i2z.symm (b3.extBut _ _ D.TOz.symm (b2.extBut _ _ D.i1z.symm z1)))
 have K5 : ∀ c o, c ≠ z -> c ≠ TO -> c ≠ i1 -> c ≠ i2 -> s.heap.get? c = some o -> g5.get? c = some o := fun c o h1 h2 h3 h4 e => b5.extBut c o h2 (b4.extBut c o h4 (K3 c o h1 h2 h3 h4 e))
 have m1 : ItAt k1 g5 i1 l1 (n + 1) := j1.kept fun o e => b5.extBut _ o D.TOi1.symm (b4.extBut _ o D.i12 (b3.extBut _ o D.TOi1.symm e))
 have m2 : ItAt k2 g5 i2 l2 (n + 1) := j2.kept fun o e => b5.extBut _ o D.TOi2.symm e
 have zl : z < g5.objs.size := Heap.lt_size z5
 show wpAny _ _ (Builtin.SmallTypes.ownedTupleHandOut (Value.ref z) (Value.ref g5.objs.size) >>= _) _ _ _
 refine wpAny_bind ?_
 unfold Builtin.SmallTypes.ownedTupleHandOut
 have z6 : IsZip (g5.push { cls := .type "tuple", data := .seq #[x, y] }) z TI TO .ellipsis := Heap.get?_push_of_some _ z5
 refine wpAny_bind (wpAny_setField_rec z6 (by simp) fun g7 z7 b7 => wpAny_setField_rec z7 (by simp) fun g8 z8 b8 => ?_)
 replace z8 : IsZip g8 z TI TO (rawInt g5.objs.size) := z8
 replace b8 : Heap.SameBut z g7 g8 := b8
 replace b7 : Heap.SameBut z (g5.push { cls := .type "tuple", data := .seq #[x, y] }) g7 := b7
 have up : ∀ c o, c ≠ z -> g5.get? c = some o -> g8.get? c = some o := fun c o h e => b8.extBut _ _ h (b7.extBut _ _ h (Heap.get?_push_of_some _ e))
 have t8 : IsPair g8 g5.objs.size x y := b8.extBut _ _ (Nat.ne_of_gt zl) (b7.extBut _ _ (Nat.ne_of_gt zl) (Heap.get?_push_size _ rfl))
 rw [sz] at z8 t8
 refine wpAny_pure ⟨_, rfl, ?_⟩
 show Q (Value.ref g5.objs.size) _
 rw [sz]
 exact q g8 ⟨z8, up _ _ D.TIz (K5 _ _ D.TIz D.TITO D.TIi1 D.TIi2 ti), ⟨_, _, up _ _ D.TOz t5⟩, m1.kept fun o e => up _ o D.i1z e, m2.kept fun o e => up _ o D.i2z e⟩ t8 fun c o h1 h2 h3 h4 e => up c o h1 (K5 c o h1 h2 h3 h4 e)
theorem zwl {k1 k2 : Kd} {z TI TO i1 i2 l1 l2 : Addr} {n : Nat} {xs ys : List Value} {x y : Value} {Q : Option Value -> Shared -> Prop} (D : ZipNe z TI TO i1 i2) (Z : ZipAt s.heap k1 k2 z TI TO i1 i2 l1 l2 .none n)
  (L1 : ∀ h', (∀ b o, b ≠ z -> b ≠ TO -> b ≠ i1 -> b ≠ i2 -> s.heap.get? b = some o -> h'.get? b = some o) -> SeqIs k1 h' l1 xs) (L2 : ∀ h', (∀ b o, b ≠ z -> b ≠ TO -> b ≠ i1 -> b ≠ i2 -> s.heap.get? b = some o -> h'.get? b = some o) -> SeqIs k2 h' l2 ys)
  (hx : xs[n]? = some x) (hy : ys[n]? = some y)
  (q : ∀ h', ZipAt h' k1 k2 z TI TO i1 i2 l1 l2 (rawInt s.heap.objs.size) (n + 1) -> IsPair h' s.heap.objs.size x y ->
   (∀ c o, c ≠ z -> c ≠ TO -> c ≠ i1 -> c ≠ i2 -> s.heap.get? c = some o -> h'.get? c = some o) -> Q (some (.ref s.heap.objs.size)) { s with heap := h' }) :
  wpAny (model prog w) A (pyNext (.ref z)) Q E s := by
 have ty : s.TypeIs (.ref z) "zip" := ⟨_, Z.zz, rfl⟩
 unfold pyNext
 exact wpAny_bind (wpAny_attempt (wpAny_callSpecial?_slot (name := Str.ofString "__next__") ty F.slot_zip_next (wpAny_call_entry F.slot_zip_next ty F.entry_zip_next
   (zwk D Z L1 L2 hx hy fun h' a b c => wpAny_pure (q h' a b c)) (F.args_zip_next_1 _))))
theorem zwm {k1 k2 : Kd} {z TI TO i1 i2 l1 l2 : Addr} {n : Nat} {xs : List Value} {Q : Option Value -> Shared -> Prop} (hh : A.handled = none) (D : ZipNe z TI TO i1 i2) (Z : ZipAt s.heap k1 k2 z TI TO i1 i2 l1 l2 .none n)
  (L1 : ∀ h', (∀ b o, b ≠ z -> b ≠ TO -> b ≠ i1 -> b ≠ i2 -> s.heap.get? b = some o -> h'.get? b = some o) -> SeqIs k1 h' l1 xs) (hx : xs.length <= n)
  (q : ∀ h', (∀ c o, c ≠ z -> c ≠ TO -> c ≠ i1 -> c ≠ i2 -> s.heap.get? c = some o -> h'.get? c = some o) -> Q none { s with heap := h' }) : wpAny (model prog w) A (pyNext (.ref z)) Q E s := by
 have ty : s.TypeIs (.ref z) "zip" := ⟨_, Z.zz, rfl⟩
 obtain ⟨zz, ti, ⟨a, b, to⟩, a1, a2⟩ := Z
 unfold pyNext
 refine wpAny_bind (wpAny_attempt (wpAny_callSpecial?_slot (name := Str.ofString "__next__") ty F.slot_zip_next (wpAny_call_entry F.slot_zip_next ty F.entry_zip_next ?_ (F.args_zip_next_1 _))))
 show wpAny _ _ (field (Value.ref z) 2 >>= _) _ _ _
 refine wpAny_bind (wpAny_field zz rfl (x := Value.bool false) rfl (wpAny_bind (wpAny_field zz rfl (x := Value.ref TI) rfl (wpAny_bind (wpAny_seqItems ti rfl (wpAny_bind ?_))))))
 unfold Builtin.SmallTypes.ownedTupleIsFree
 refine wpAny_bind (wpAny_field zz rfl (x := Value.none) rfl (wpAny_pure ?_))
 simp only [if_true]
 refine wpAny_bind (wpAny_rule (wpAny_bind (wpAny_field zz rfl (x := Value.ref TO) rfl (wpAny_bind (wpAny_setField_rec zz (by simp) fun g1 z1 b1 => wpAny_bind ?_)))))
 replace z1 : IsZip g1 z TI TO .ellipsis := z1
 replace b1 : Heap.SameBut z s.heap g1 := b1
 simp only [List.zipIdx_cons, List.zipIdx_nil, List.forIn_cons, List.forIn_nil]
 have K1 : ∀ c o, c ≠ z -> c ≠ TO -> c ≠ i1 -> c ≠ i2 -> s.heap.get? c = some o -> g1.get? c = some o := fun c o h1 _ _ _ e => b1.extBut c o h1 e
 refine wpAny_bind (wpAny_bind (wpAny_onRaise (wpAny_bind (zvf (s := { s with heap := g1 }) hh (a1.kept fun o e => b1.extBut _ o D.i1z e) (L1 g1 K1) hx fun g2 e b2 he => ?_))))
 replace b2 : Heap.ExtBut i1 g1 g2 := b2
 obtain ⟨oe, hoe, hce⟩ := he
 have z2 : IsZip g2 z TI TO .ellipsis := b2 _ _ D.i1z.symm z1
 have ez : e ≠ z := fun x => by subst x; rw [z2] at hoe; cases hoe; simp at hce
 refine wpAny_setField_rec z2 (by simp) fun g3 _ b3 => ?_
 replace b3 : Heap.SameBut z g2 g3 := b3
 refine wpAny_bind (wpAny_isInstance (T := "StopIteration") (b := true) ⟨oe, b3.extBut _ _ ez hoe, hce⟩ isSubtype_stop (wpAny_pure (q g3 fun c o h1 h2 h3 h4 x => b3.extBut _ _ h1 (b2 _ _ h3 (b1.extBut _ _ h1 x)))))
theorem zCu {elts : List Expr} {x1 : Nat} {pos : Pos} {z TI TO T : Addr} {Q : Unit -> Shared -> Prop} (hz : IsZip s.heap z TI TO (rawInt T))
  (q : ∀ h', IsZip h' z TI TO .none -> Heap.SameBut z s.heap h' -> Q () { s with heap := h' }) : wpAny (model prog w) A (letOwnedTupleGo (.Tuple elts x1 pos) (.ref z) (.ref T)) Q E s := wpAny_letOwnedTupleGo_zip hz q
abbrev zp1 (k1 : Kd) (h : Heap) (l1 : Addr) : Heap := h.push { cls := .type (zqa k1), data := .fields #[.ref l1, .int 0 0] }
abbrev zp2 (k1 k2 : Kd) (h : Heap) (l1 l2 : Addr) : Heap := (zp1 k1 h l1).push { cls := .type (zqa k2), data := .fields #[.ref l2, .int 0 0] }
abbrev zp3 (k1 k2 : Kd) (h : Heap) (l1 l2 : Addr) : Heap := (zp2 k1 k2 h l1 l2).push { cls := .type "tuple", data := .seq #[.ref h.objs.size, .ref (zp1 k1 h l1).objs.size] }
abbrev zp4 (k1 k2 : Kd) (h : Heap) (l1 l2 : Addr) : Heap := (zp3 k1 k2 h l1 l2).push { cls := .type "tuple", data := .seq #[.none, .none] }
abbrev zp5 (k1 k2 : Kd) (h : Heap) (l1 l2 : Addr) : Heap := (zp4 k1 k2 h l1 l2).push { cls := .type "zip", data := .fields #[.none, .bool false, .bool false, .ref (zp2 k1 k2 h l1 l2).objs.size, .ref (zp3 k1 k2 h l1 l2).objs.size] }
theorem zzz (k1 k2 : Kd) (l1 l2 : Addr) (xs ys : List Value) :
  Meets (Builtin.«zip.__new__» ⟨[.type "zip", .ref l1, .ref l2], []⟩) (fun _ R s => SeqIs k1 s.heap l1 xs /\ SeqIs k2 s.heap l2 ys /\
   R (.ok (.ret (.ref (zp4 k1 k2 s.heap l1 l2).objs.size))) { s with heap := zp5 k1 k2 s.heap l1 l2 }) :=
 .of_wp fun prog w A R s h => by
  obtain ⟨hp, g, d, tk, os⟩ := s
  obtain ⟨h1, h2, h⟩ := h
  have hsub := sub_zip
  have hL1 : SeqIs k1 (Shared.heap ⟨hp, g, d, tk, os⟩) l1 xs := h1
  have hL2 : SeqIs k2 (Shared.heap ⟨zp1 k1 hp l1, g, d, tk, os⟩) l2 ys := h2.kept fun o e => Heap.get?_push_of_some _ e
  wp_walk using zpz hL1, zpz hL2
  exact ⟨_, rfl, h⟩
theorem zyn {k1 k2 : Kd} {l1 l2 : Addr} {xs ys : List Value} {Q : Value -> Shared -> Prop} (h1 : SeqIs k1 s.heap l1 xs) (h2 : SeqIs k2 s.heap l2 ys)
  (q : ∀ h', ZipAt h' k1 k2 (s.heap.objs.size + 4) (s.heap.objs.size + 2) (s.heap.objs.size + 3) s.heap.objs.size (s.heap.objs.size + 1) l1 l2 .none 0 ->
   (∀ c o, s.heap.get? c = some o -> h'.get? c = some o) -> Q (.ref (s.heap.objs.size + 4)) { s with heap := h' }) :
  wpAny (model prog w) A (call (.type "zip") [.ref l1, .ref l2]) Q E s := by
 refine callType_new F.called_zip (by decide) (F.typeCall_zip_2 _ _) (F.newCall_zip_2 _ _) (fun obj => F.args_object_init_3 obj _ _) F.entry_zip_new (zzz k1 k2 l1 l2 xs ys) ⟨h1, h2, ?_⟩
 have z1 : (zp1 k1 s.heap l1).objs.size = s.heap.objs.size + 1 := Heap.size_push ..
 have z2 : (zp2 k1 k2 s.heap l1 l2).objs.size = s.heap.objs.size + 2 := by rw [Heap.size_push, z1]
 have z3 : (zp3 k1 k2 s.heap l1 l2).objs.size = s.heap.objs.size + 3 := by rw [Heap.size_push, z2]
 have z4 : (zp4 k1 k2 s.heap l1 l2).objs.size = s.heap.objs.size + 4 := by rw [Heap.size_push, z3]
 have u : ∀ {h : Heap} {o : Obj} {b : Addr} {v : Obj}, h.get? b = some v -> (h.push o).get? b = some v := fun e => Heap.get?_push_of_some _ e
 have g5 : (zp5 k1 k2 s.heap l1 l2).get? (zp4 k1 k2 s.heap l1 l2).objs.size = some _ := Heap.get?_push_size _ rfl
 have g4 : (zp5 k1 k2 s.heap l1 l2).get? (zp3 k1 k2 s.heap l1 l2).objs.size = some _ := u (Heap.get?_push_size _ rfl)
 have g3 : (zp5 k1 k2 s.heap l1 l2).get? (zp2 k1 k2 s.heap l1 l2).objs.size = some _ := u (u (Heap.get?_push_size _ rfl))
 have g2 : ItAt k2 (zp5 k1 k2 s.heap l1 l2) (zp1 k1 s.heap l1).objs.size l2 0 := (zuq (k := k2) (h := zp1 k1 s.heap l1) (a := l2)).kept fun o e => u (u (u e))
 have g1 : ItAt k1 (zp5 k1 k2 s.heap l1 l2) s.heap.objs.size l1 0 := (zuq (k := k1) (h := s.heap) (a := l1)).kept fun o e => u (u (u (u e)))
 show _ /\ _
 rw [z2, z3, z4] at g5
 rw [z1, z2] at g3
 rw [z3] at g4
 rw [z1] at g2
 rw [z4]
 exact ⟨⟨_, g5, rfl⟩, q _ ⟨g5, g3, ⟨_, _, g4⟩, g1, g2⟩ fun c o x => u (u (u (u (u x))))⟩
end
def ItZ (k1 k2 : Kd) (K : PySem.W.Frag) (a b : Addr) : It :=
 ⟨fun i H => ∃ xs ys x y, SqK k1 K H a xs /\ SqK k2 K H b ys /\ xs[i]? = some x /\ ys[i]? = some y,
  fun i H v H' => ∃ p x y, H p = none /\ v = .ref p /\ (∀ xs, SqK k1 K H a xs -> xs[i]? = some x) /\ (∀ ys, SqK k2 K H b ys -> ys[i]? = some y) /\ H' = upd H p (.tup [x, y]),
  fun i H => ∃ xs, SqK k1 K H a xs /\ xs.length <= i⟩
theorem Inv.seq_ne {X : Cx} {pins : List (Addr × Obj)} {σ : St} {H : Hp} {s : Shared} (I : Inv X pins σ H s) {k : Kd} {a b : Addr} {xs : List V} (h : SqK k X.K H a xs) (f : FpOk X pins H b) : a ≠ b := by
 rintro rfl
 have hn := f.1
 have young : ∀ o, X.K.lookup a = some o -> False := fun o e => by
  have e1 := I.mod.kin a o e
  rcases f.2.2.2.1 with z | z
  ·exact I.ok.noex a o e1 z
  ·exact absurd (Nat.lt_of_lt_of_le (Heap.lt_size e1) (Nat.le_trans I.ok.bsz z)) (Nat.lt_irrefl _)
 cases k with
 | l =>
  rcases h with h | ⟨o, _, _, e, _⟩
  ·rcases h with h | ⟨o, h⟩ <;> (rw [hn] at h; cases h)
  ·exact young o e
 | t =>
  rcases h with h | ⟨o, _, _, e, _⟩
  ·rcases h with h | ⟨o, h⟩ <;> (rw [hn] at h; cases h)
  ·exact young o e
theorem zwq {P : Program} {w : World} {K : PySem.W.Frag} {elts : List Expr} {x1 : Nat} {tpos : Pos} (k1 k2 : Kd) (a b z TI TO i1 i2 : Addr) (D : ZipNe z TI TO i1 i2) :
  Turn P w K (.Tuple elts x1 tpos) (ItZ k1 k2 K a b) [z, TI, TO, i1, i2] z (fun i h => ZipAt h k1 k2 z TI TO i1 i2 a b .none i) where
 mem := by simp
 obj := fun i h st c hc => by
  obtain ⟨zz, ti, ⟨u, v, to⟩, a1, a2⟩ := st
  simp at hc
  rcases hc with rfl | rfl | rfl | rfl | rfl
  ·exact ⟨_, zz, fun v z => by cases z⟩
  ·exact ⟨_, ti, fun v z => by cases z⟩
  ·exact ⟨_, to, fun v z => by cases z⟩
  ·exact a1.obj
  ·exact a2.obj
 keep := fun i h h' st kk => by
  obtain ⟨zz, ti, ⟨u, v, to⟩, a1, a2⟩ := st
  exact ⟨kk z (by simp) _ zz, kk TI (by simp) _ ti, ⟨u, v, kk TO (by simp) _ to⟩, a1.kept fun o e => kk i1 (by simp) o e, a2.kept fun o e => kk i2 (by simp) o e⟩
 item := by
  intro X hP hw hK hc i pins s σ H E I hf st hg
  subst hP hw hK
  obtain ⟨xs, ys, x, y, hq1, hq2, hx, hy⟩ := hg
  obtain ⟨its1, r1, s1, _⟩ := I.seq hq1
  obtain ⟨its2, r2, s2, _⟩ := I.seq hq2
  obtain ⟨u1, e1, ru1⟩ := r1.get hx
  obtain ⟨u2, e2, ru2⟩ := r2.get hy
  have nz := hf z (by simp)
  have nO := hf TO (by simp)
  have n1 := hf i1 (by simp)
  have n2 := hf i2 (by simp)
  refine zwl D st (fun h' kk => s1.kept fun o e => kk a o (I.seq_ne hq1 nz) (I.seq_ne hq1 nO) (I.seq_ne hq1 n1) (I.seq_ne hq1 n2) e)
   (fun h' kk => s2.kept fun o e => kk b o (I.seq_ne hq2 nz) (I.seq_ne hq2 nO) (I.seq_ne hq2 n1) (I.seq_ne hq2 n2) e) e1 e2 fun h' c1 c2 c3 => ⟨_, rfl, ?_⟩
  refine zCu (s := { s with heap := h' }) c1.zz fun h2 d1 d2 => ?_
  replace d2 : Heap.SameBut z h' h2 := d2
  have zl : z < s.heap.objs.size := Heap.lt_size st.zz
  have lt : ∀ c ∈ [z, TI, TO, i1, i2], c < s.heap.objs.size := fun c hc => by
   obtain ⟨zz, ti, ⟨u, v, to⟩, a1, a2⟩ := st
   simp at hc
   rcases hc with rfl | rfl | rfl | rfl | rfl
   ·exact zl
   ·exact Heap.lt_size ti
   ·exact Heap.lt_size to
   ·obtain ⟨o, e, _⟩ := a1.obj; exact Heap.lt_size e
   ·obtain ⟨o, e, _⟩ := a2.obj; exact Heap.lt_size e
  have kk : ∀ c o, c ∉ [z, TI, TO, i1, i2] -> s.heap.get? c = some o -> h2.get? c = some o := fun c o hc q => by
   simp at hc
   exact d2.extBut c o hc.1 (c3 c o hc.1 hc.2.2.1 hc.2.2.2.1 hc.2.2.2.2 q)
  have tt : IsPair h2 s.heap.objs.size u1 u2 := d2.extBut _ _ (Nat.ne_of_gt zl) c2
  have fr : H s.heap.objs.size = none := I.hok.fresh (Nat.le_refl _)
  refine ⟨.ref s.heap.objs.size, upd H s.heap.objs.size (.tup [x, y]), I.turnNew (t' := s.toks) hf kk (Nat.le_refl _) ?_, rfl, ⟨_, x, y, fr, rfl, fun vs hv => ?_, fun vs hv => ?_, rfl⟩, ?_, fun c hc => ?_⟩
  ·exact ⟨by show 2 <= sizeLine; decide, [u1, u2], .cons ru1 (.cons ru2 .nil), ⟨_, tt, rfl, 0, rfl⟩⟩
  ·rw [I.seq_inj hv hq1]; exact hx
  ·rw [I.seq_inj hv hq2]; exact hy
  ·obtain ⟨zz, ti, ⟨u, v, to⟩, a1, a2⟩ := c1
   exact ⟨d1, d2.extBut _ _ D.TIz ti, ⟨u, v, d2.extBut _ _ D.TOz to⟩, a1.kept fun o e => d2.extBut _ o D.i1z e, a2.kept fun o e => d2.extBut _ o D.i2z e⟩
  ·rw [zas (Nat.ne_of_lt (lt c hc))]
   exact (hf c hc).1
 done := by
  intro X hP hw hK hc i pins s σ H E I hf st hg
  subst hP hw hK
  obtain ⟨xs, hq1, hx⟩ := hg
  obtain ⟨its1, r1, s1, _⟩ := I.seq hq1
  have nz := hf z (by simp)
  have nO := hf TO (by simp)
  have n1 := hf i1 (by simp)
  have n2 := hf i2 (by simp)
  exact zwm (I.ok.hd hc) D st (fun h' kk => s1.kept fun o e => kk a o (I.seq_ne hq1 nz) (I.seq_ne hq1 nO) (I.seq_ne hq1 n1) (I.seq_ne hq1 n2) e) (by rw [<- r1.length]; exact hx)
   fun h' kk => ⟨rfl, I.turnM (t' := s.toks) hf fun c o hc q => by simp at hc; exact kk c o hc.1 hc.2.2.1 hc.2.2.2.1 hc.2.2.2.2 q⟩
 self := fun _ _ _ _ _ st h => wpAny_pyIter_zip st.zz h
def iZip (k1 k2 : Kd) (K : PySem.W.Frag) (ta : TA) : TI := fun σ H R => ta σ H fun vs H1 => ∃ a b xs ys, vs = [.ref a, .ref b] /\ SqK k1 K H1 a xs /\ SqK k2 K H1 b ys /\ R (ItZ k1 k2 K a b) H1
theorem zvy : bootBuiltins "zip" = some (.type "zip") := by first | rfl | decide +kernel
theorem zipNe (n : Nat) : ZipNe (n + 4) (n + 2) (n + 3) n (n + 1) := by
 refine ⟨?_, ?_, ?_, ?_, ?_, ?_, ?_, ?_, ?_, ?_⟩ <;> (intro z; have z' : (_ : Nat) = _ := z; omega)
theorem zDs {X : Cx} {elts : List Expr} {x1 : Nat} {tpos : Pos} {l m : Expr} {ta : TA} {p pos : Pos} (k1 k2 : Kd) (hg : Gl X "zip") (hm : X.mg "zip" = none) (ha : PA X [l, m] ta)
  (hs : starEach [l, m] X.env = [(false, eval l X.env), (false, eval m X.env)] := by rfl) (hs2 : starEach [m] X.env = [(false, eval m X.env)] := by rfl) :
  PI X (.Tuple elts x1 tpos) (.Call (.Name "zip" p) [l, m] [] pos) (iZip k1 k2 X.K ta) := by
 intro pins s σ H R I h
 refine Call_ (zge I hg hm zvy (PyProof.Rows.callWith_type1 (thn (ha pos pins s σ H _ I h) fun us s1 ⟨vs, H1, I1, r1, q1⟩ => ?_) (by rw [hs, hs2]) (by rw [hs2]; rfl)))
 obtain ⟨a, b, xs, ys, rfl, hq1, hq2, q⟩ := q1
 obtain ⟨u, v, rfl, ru, rv⟩ := Vals.two r1
 cases (show u = Value.ref a from ru)
 cases (show v = Value.ref b from rv)
 obtain ⟨its1, _, t1, _⟩ := I1.seq hq1
 obtain ⟨its2, _, t2, _⟩ := I1.seq hq2
 refine zyn t1 t2 fun h' c1 c2 => wpAny_pyIter_zip (s := { s1 with heap := h' }) c1.zz ?_
 refine ⟨_, [s1.heap.objs.size + 4, s1.heap.objs.size + 2, s1.heap.objs.size + 3, s1.heap.objs.size, s1.heap.objs.size + 1], _, _, H1, rfl, I1.kept (t' := s1.toks) c2,
  zwq k1 k2 a b _ _ _ _ _ (zipNe s1.heap.objs.size), c1, fun c hc => ?_, q⟩
 have le : s1.heap.objs.size <= c := by
  simp at hc
  rcases hc with rfl | rfl | rfl | rfl | rfl
  ·exact Nat.le_add_right _ _
  ·exact Nat.le_add_right _ _
  ·exact Nat.le_add_right _ _
  ·exact Nat.le_refl _
  ·exact Nat.le_add_right _ _
 exact I1.fpOk le (I1.hok.fresh le)
structure Src (K : PySem.W.Frag) (mg : Str -> Option Value) (x : Str) (st : Stmt) (ps : List Str) : Prop where
 ex : ∃ f fd, Fun K x x st f fd /\ Binds K fd ps [] /\ mg x = some (.ref f)
structure Def (P : Program) (w : World) (K : PySem.W.Frag) (mg : Str -> Option Value) (base : Heap) (k : Nat) (x : Str) (ps : List Str) (sp : Sp) : Prop where
 ex : ∃ f fd, FnOk P w K mg base CX0 k f fd ps sp /\ Binds K fd ps [] /\ mg x = some (.ref f) /\ PySem.W.keepIn K (.ref f) = true
theorem Src.def {P : Program} {w : World} {K : PySem.W.Frag} {mg : Str -> Option Value} {base : Heap} {k : Nat} {x : Str} {st : Stmt} {N ps : List Str} {sp : Sp} (S : Src K mg x st ps) (sc : zan N ps (zad st)) (len : ∀ vs H Q E, sp vs H Q E -> vs.length = ps.length)
  (hbody : ∀ (f : Addr) (cdv : Value) (A : Around) (outer : List Env) (s : Shared) (H : Hp) (vs : List V) (Q : VK) (E : XK), Room k (A.deeper (envOfC x (zad st) s.heap.objs.size f cdv)) -> sp vs H Q E ->
   ∃ t, PSs (cxOf CX0 P w K mg base N x (zad st) f cdv A outer s H E).nox (zal st) t /\ t { nx := fun _ H' => Q .non H', rt := Q } (start N vs) H) : Def P w K mg base (k + 1) x ps sp := by
 obtain ⟨f, fd, F, b, m⟩ := S.ex
 exact ⟨f, fd, F.ok sc len (hbody f), b, m, F.kp⟩
theorem zaj {X : Cx} {k : Nat} {x : Str} {ps : List Str} {sp : Sp} {e : Expr} {es : List Expr} {t : TA} {p pos : Pos} (D : Def X.prog X.w X.K X.mg X.base k x ps sp) (hr : Room k X.A) (hg : Gl X x) (ha : PA X (e :: es) t)
  (hdb : (x == ("__debug__" : Str)) = false := by decide) (he : starEach (e :: es) X.env = (false, eval e X.env) :: starEach es X.env := by rfl) (hpl : (backTo pos (starEach es X.env)).any (·.1) = false := by rfl) :
  PE X (.Call (.Name x p) (e :: es) [] pos) (tCall sp [] E0 t) := by
 obtain ⟨f, fd, F, b, m, kp⟩ := D.ex
 exact zBb F hr hg m kp b .nil pass0 ha hdb he hpl
theorem Same.tup {K : PySem.W.Frag} {H H' : Hp} {a : Addr} {xs : List V} (e : Same H H') (h : SqT K H a xs) : SqT K H' a xs := by
 rcases h with (h | ⟨o, h⟩) | h
 ·exact .inl (.inl (e _ _ h))
 ·exact .inl (.inr ⟨o, e _ _ h⟩)
 ·exact .inr h
theorem Same.seqK {K : PySem.W.Frag} {H H' : Hp} {k : Kd} {a : Addr} {xs : List V} (e : Same H H') (h : SqK k K H a xs) : SqK k K H' a xs := by
 cases k with
 | l => exact e.seq h
 | t => exact e.tup h
theorem Same.new {H : Hp} {p : Addr} {o : HO} (h : H p = none) : Same H (upd H p o) := fun b u e => by rw [zas (zao e h)]; exact e
theorem Paired.at {α β : Type} {F : α -> β -> Prop} : ∀ {l₁ : List α} {l₂ : List β}, Paired F l₁ l₂ -> ∀ {i : Nat} {a : α}, l₁[i]? = some a -> ∃ b, l₂[i]? = some b /\ F a b
 | _, _, .nil, i, a, e => by simp at e
 | _, _, .cons r t, 0, a, e => by simp at e; subst e; exact ⟨_, rfl, r⟩
 | _, _, .cons r t, i + 1, a, e => by
  obtain ⟨b, h1, h2⟩ := Paired.at t (i := i) (by simpa using e)
  exact ⟨b, by simpa using h1, h2⟩
theorem Paired.snoc {α β : Type} {F : α -> β -> Prop} : ∀ {l₁ : List α} {l₂ : List β}, Paired F l₁ l₂ -> ∀ {a : α} {b : β}, F a b -> Paired F (l₁ ++ [a]) (l₂ ++ [b])
 | _, _, .nil, _, _, h => .cons h .nil
 | _, _, .cons r t, _, _, h => .cons r (Paired.snoc t h)
theorem zai {α : Type} {l : List α} {i : Nat} {a : α} (h : l[i]? = some a) : l.take (i + 1) = l.take i ++ [a] := by
 rw [List.take_add_one, h]; rfl
def ItK (k : Kd) (K : PySem.W.Frag) (a : Addr) : It := match k with | .l => Itl K a | .t => Itt K a
def iSeq (k : Kd) (K : PySem.W.Frag) (tl : TE) : TI := fun σ H R => tl σ H fun x H1 => ∃ a, x = .ref a /\ (∃ xs, SqK k K H1 a xs) /\ R (ItK k K a) H1
theorem zDu {X : Cx} {tg : Expr} (k : Kd) {l : Expr} {tl : TE} (hl : PE X l tl) : PI X tg l (iSeq k X.K tl) := by
 cases k with
 | l => exact ztn hl
 | t => exact zDt hl
theorem zzn {k : Kd} {K : PySem.W.Frag} {H : Hp} {a : Addr} {xs : List V} {i : Nat} (h : SqK k K H a xs) (hi : i < xs.length) : (ItK k K a).go i H := by
 cases k with
 | l => exact ⟨xs, xs[i], h, by simp [hi]⟩
 | t => exact ⟨xs, xs[i], h, by simp [hi]⟩
theorem zpy {k : Kd} {K : PySem.W.Frag} {H : Hp} {a : Addr} {xs : List V} {i : Nat} (h : SqK k K H a xs) (hi : xs.length <= i) : (ItK k K a).stop i H := by
 cases k with
 | l => exact ⟨xs, h, hi⟩
 | t => exact ⟨xs, h, hi⟩
theorem zup {k : Kd} {K : PySem.W.Frag} {H H' : Hp} {a : Addr} {xs : List V} {i : Nat} {x : V} (h : SqK k K H a xs) (y : (ItK k K a).yld i H x H') : H' = H /\ xs[i]? = some x := by
 cases k with
 | l => exact ⟨y.1, y.2 xs h⟩
 | t => exact ⟨y.1, y.2 xs h⟩
theorem zct {k : Kd} {K : PySem.W.Frag} {a : Addr} {xs : List V} {g : TG} {tt : TT} {te : TE} {fin : List V -> Hp -> Prop} {σ : St} {H : Hp} (S : St -> Prop) (Pv : Nat -> List V -> Hp -> Prop) (hσ : S σ) (h0 : Pv 0 [] H) (hz : xs.length < sizeLine)
  (hl : ∀ i ys H, i <= xs.length -> Pv i ys H -> SqK k K H a xs)
  (hs : ∀ (i : Nat) (x : V) (ys : List V) (σ : St) (H : Hp) (N : List V -> St -> Hp -> Prop), xs[i]? = some x -> S σ -> Pv i ys H -> (∀ ys' σ' H', S σ' -> Pv (i + 1) ys' H' -> ys'.length <= ys.length + 1 -> N ys' σ' H') ->
   g x σ H fun σ2 H2 => tt σ2 H2 fun b H3 => if b = true then te σ2 H3 fun y H4 => N (ys ++ [y]) σ2 H4 else N ys σ2 H3)
  (hd : ∀ ys H, Pv xs.length ys H -> fin ys H) : ∃ W, CompW (ItK k K a) g tt te fin W /\ ∃ m, W 0 m [] σ H := by
 refine ⟨fun i m ys σ H => m = xs.length - i /\ i <= xs.length /\ ys.length <= i /\ S σ /\ Pv i ys H, ?_, xs.length, by simp, Nat.zero_le _, Nat.le_refl _, hσ, h0⟩
 rintro i m ys σ H ⟨rfl, hi, hy, hS, p⟩
 have q := hl i ys H hi p
 by_cases hlt : i < xs.length
 ·refine .inr ⟨zzn q hlt, by lia, fun x H' y => ?_⟩
  obtain ⟨e, hy2⟩ := zup q y
  subst e
  have := hs i x ys σ H' (fun ys' σ' H'' => ∃ m', m' < xs.length - i /\ m' = xs.length - (i + 1) /\ i + 1 <= xs.length /\ ys'.length <= i + 1 /\ S σ' /\ Pv (i + 1) ys' H'') hy2 hS p (fun ys' σ' H'' a b c => ⟨_, by lia, rfl, hlt, by lia, a, b⟩)
  exact this
 ·have e : i = xs.length := by lia
  subst e
  exact .inl ⟨zpy q (Nat.le_refl _), by lia, hd ys H p⟩
theorem zxz {k : Kd} {K : PySem.W.Frag} {a : Addr} {xs : List V} {g : TG} {tb : TS} {D : Ends} {σ : St} {H : Hp} (Pv : Nat -> St -> Hp -> Prop) (h0 : Pv 0 σ H) (hl : ∀ i σ H, i <= xs.length -> Pv i σ H -> SqK k K H a xs)
  (hs : ∀ (i : Nat) x p σ H, xs[i]? = some x -> Pv i σ H -> H p = none -> g (.ref p) σ (upd H p (.tup [.int i, x])) fun σ2 H2 => tb { D with nx := Pv (i + 1), ct := Pv (i + 1), bk := D.nx } σ2 H2) (hd : ∀ σ H, Pv xs.length σ H -> D.nx σ H) :
  ∃ W : Nat -> Nat -> St -> Hp -> Prop, (∃ m, W 0 m σ H) /\ ∀ i m σ H, W i m σ H ->
   ((ItE k K a).stop i H /\ D.nx σ H) \/ ((ItE k K a).go i H /\ ∃ N : St -> Hp -> Prop, (∀ σ' H', N σ' H' -> ∃ m', m' < m /\ W (i + 1) m' σ' H') /\ ∀ x H', (ItE k K a).yld i H x H' -> g x σ H' fun σ2 H2 => tb { D with nx := N, ct := N, bk := D.nx } σ2 H2) := by
 refine ⟨fun i m σ H => m = xs.length - i /\ i <= xs.length /\ Pv i σ H, ⟨xs.length, by simp, Nat.zero_le _, h0⟩, ?_⟩
 rintro i m σ H ⟨rfl, hi, p⟩
 have q := hl i σ H hi p
 by_cases hlt : i < xs.length
 ·refine .inr ⟨⟨xs, xs[i], q, by simp [hlt]⟩, Pv (i + 1), fun σ' H' p' => ⟨xs.length - (i + 1), by lia, rfl, hlt, p'⟩, fun x H' y => ?_⟩
  obtain ⟨r, y, hn, rfl, hy, rfl⟩ := y
  exact hs i y r σ H (hy xs q) p hn
 ·have e : i = xs.length := by lia
  subst e
  exact .inl ⟨⟨xs, q, Nat.le_refl _⟩, hd σ H p⟩
theorem zrn {A : Around} {k : Nat} (hr : Room k A) : A.units + 66 < cLine := by have := hr.un; lia
def compB (kinds : List (Str × NameKind)) (N : List Str) (scope : Scope) (N' : List Str) (fr : List (Option Nat)) : Bool :=
 (scope.kind == .function) && (scope.names.all fun y => y.2 != .cell) && (scope.names.all fun y => y.2 != .local || scope.names.lookup y.1 == some .local) &&
 (scope.names.all fun y => y.2 != .free || (kinds.lookup y.1 == some .cell || kinds.lookup y.1 == some .free)) && frOk N kinds scope.names N' fr
theorem zbn {X : Cx} {scope : Scope} {N' : List Str} {fr : List (Option Nat)} (h : compB X.env.scope.names X.N scope N' fr = true) : CompOk X scope N' fr := by
 unfold compB at h
 simp only [Bool.and_eq_true, List.all_eq_true] at h
 obtain ⟨⟨⟨⟨h1, h2⟩, h3⟩, h4⟩, h5⟩ := h
 refine ⟨by simpa using h1, fun y hy => by simpa using h2 y hy, fun y hy e => ?_, fun y hy e => ?_, h5⟩
 ·have := h3 y hy
  rw [e] at this
  simpa using this
 ·have := h4 y hy
  rw [e] at this
  simpa [Env.kindOf] using this
theorem yesT {σ : St} {H : Hp} {A B : Hp -> Prop} (h : A H) : tYes σ H fun b H3 => if b = true then A H3 else B H3 := by
 show if true = true then A H else B H
 exact iteT h
section
open PySem.SeqAt
open PySem.AutoSeq1 (wpAny_loadPart')
open PySem.MeetsSeq PySem.MeetsSeq2 PySem.MeetsSeq3
end
section
variable {X : Cx}
def rCat0 (K : PySem.W.Frag) : R2 := fun x y H Q => ∃ a b ys, x = .ref a /\ y = .ref b /\ SqT K H a [] /\ SqT K H b ys /\ Q (.ref b) H
theorem ztv : OpR X (binaryOp .Add) (rCat0 X.K) := by
 intro pins s σ H x y v u Q I rx ry h
 obtain ⟨a, b, ys, rfl, rfl, ha, hb, k⟩ := h
 cases (show v = Value.ref a from rx)
 cases (show u = Value.ref b from ry)
 obtain ⟨its, r1, t1, _⟩ := I.tuple ha
 obtain ⟨its2, r2, t2, _⟩ := I.tuple hb
 rw [Vals.zero r1] at t1
 obtain ⟨⟨cls, dd, data, sl⟩, ho, hc, n, hd⟩ := id t1
 obtain ⟨⟨cls2, dd2, data2, sl2⟩, ho2, hc2, n2, hd2⟩ := id t2
 simp only at hc hd hc2 hd2
 subst hc hd hc2 hd2
 exact concat_meets ⟨_, ho, rfl⟩ ⟨_, ho2, rfl⟩ noFill_tuple_add seq_tuple_add PySem.F.slot_tuple_add PySem.F.entry_tuple_add (PySem.F.args_tuple_add_2 _ _) (tuple_addW0 a b _ its2.toArray n n2 dd dd2 sl sl2 (by simp)) ⟨ho, ho2, ⟨.ref b, H, I, rfl, k⟩⟩
end
theorem zri {lo : Int} {n : Nat} {g : TG} {tt : TT} {te : TE} {fin : List V -> Hp -> Prop} {σ : St} {H : Hp} (S : St -> Prop) (Pv : Nat -> List V -> Hp -> Prop) (hσ : S σ) (h0 : Pv 0 [] H) (hz : n < sizeLine)
  (hs : ∀ (i : Nat) (ys : List V) (σ : St) (H : Hp) (N : List V -> St -> Hp -> Prop), i < n -> S σ -> Pv i ys H -> (∀ ys' σ' H', S σ' -> Pv (i + 1) ys' H' -> ys'.length <= ys.length + 1 -> N ys' σ' H') ->
   g (.int (lo + i)) σ H fun σ2 H2 => tt σ2 H2 fun b H3 => if b = true then te σ2 H3 fun y H4 => N (ys ++ [y]) σ2 H4 else N ys σ2 H3)
  (hd : ∀ ys H, Pv n ys H -> fin ys H) : ∃ W, CompW (Itr lo n) g tt te fin W /\ ∃ m, W 0 m [] σ H := by
 refine ⟨fun i m ys σ H => m = n - i /\ i <= n /\ ys.length <= i /\ S σ /\ Pv i ys H, ?_, n, by simp, Nat.zero_le _, Nat.le_refl _, hσ, h0⟩
 rintro i m ys σ H ⟨rfl, hi, hy, hS, p⟩
 by_cases hlt : i < n
 ·refine .inr ⟨hlt, by omega, fun x H' y => ?_⟩
  obtain ⟨e, y⟩ := y
  subst e y
  exact hs i ys σ _ (fun ys' σ' H'' => ∃ m', m' < n - i /\ m' = n - (i + 1) /\ i + 1 <= n /\ ys'.length <= i + 1 /\ S σ' /\ Pv (i + 1) ys' H'') hlt hS p (fun ys' σ' H'' a b c => ⟨_, by omega, rfl, hlt, by omega, a, b⟩)
 ·have e : i = n := by omega
  subst e
  exact .inl ⟨Nat.le_refl _, by omega, hd ys H p⟩
section
variable {X : Cx}
end
def CXr (P : Program) (w : World) : CXT := fun outer H s E e s' => ∃ (ea C : Addr) (a0 : Value) (B : Heap) (H' : Hp), e = .ref ea /\ s'.os = s.os /\ AllBare s'.gens /\ Un (frs outer) [] H H' s.heap s'.heap /\ HOk P w H' s'.heap /\
 Heap.FlyingW B outer ea (.ref C) a0 s'.heap /\ (∀ b o, s'.heap.get? b = some o -> ((∃ q, s.heap.get? b = some q) \/ ∃ q, H' b = some q) -> b ∉ frs outer -> B.get? b = some o) /\ E (.ref C) none H'
section
variable {P : Program} {w : World} {K : PySem.W.Frag} {mg : Str -> Option Value} {base : Heap} {N : List Str} {qual : Str} {scope : Scope} {f : Addr} {cd : Value} {A : Around} {outer : List Env} {s0 : Shared} {H0 : Hp} {E : XK}
end
section
variable {P : Program} {w : World} {K : PySem.W.Frag} {mg : Str -> Option Value} {base : Heap} {N : List Str} {qual : Str} {scope : Scope} {f : Addr} {cd : Value} {A : Around} {outer : List Env} {s0 : Shared} {H0 : Hp} {E : XK}
end
end L2
namespace L2
open PySem PySem.Spec PyProof.Rows PySem.W
section
variable {K : Frag} {prog : Program} {w : World} {A : Around} {E : Value -> Shared -> Prop} {h : Heap} {g : Array GenState} {d : Drawn} {t : Nat} {os : OsState} {a C : Addr} {o : Obj}
end
section
variable {X : Cx}
end
end L2
namespace L2
open PySem PySem.Spec PyProof.Rows PySem.W
section
variable {X : Cx} {pins : List (Addr × Obj)} {σ : St} {H H' : Hp} {s s' : Shared}
end
section
variable {X : Cx} {pins : List (Addr × Obj)} {σ : St} {H H' : Hp} {s s' : Shared} {v : Value}
end
end L2
namespace L2
open PySem PySem.Spec PyProof.Rows
open PySem.AutoSeq1 (wpAny_loadPart')
section
variable {prog : Program} {w : World} {A : Around} {E : Value -> Shared -> Prop} {s : Shared}
theorem zfo {R : Result -> Shared -> Prop} {r : Addr} {a b c : Int} {t u v : Tok} {n : Nat} (hh : A.handled = none) (hr : IsRange s.heap r a b c t u v) (hsm : Builtin.Range.small a b c = true) (hn : Builtin.Range.rangeSize a b c = n) (hl : n <= 2 ^ 24)
  (hR : ∀ h' tk acc c', (∀ b o, s.heap.get? b = some o -> h'.get? b = some o) -> h'.get? s.heap.objs.size = some { cls := .type "list", dict := none, data := .seq acc c', slots := #[] } -> ItemsOf (fun i v => ∃ t, v = .int (a + i * c) t) acc n ->
   R (.ok (.ret (.ref s.heap.objs.size))) { s with heap := h', toks := tk }) : codeAny (model prog w) A (.builtin "proto.collect" ⟨[.ref r], []⟩) R s := by
 refine codeAny_builtin PySem.F.entry_proto_collect ?_
 rw [Around.under_plainId PySem.F.plain_proto_collect _]
 show wpAny _ A.in1 (newList [] >>= fun l => again (.builtin "list.__iadd__" ⟨[l, .ref r], []⟩)) _ _ s
 refine wpAny_bind (wpAny_newObj_type ?_)
 refine wpAny_pure ⟨plainId_quiet PySem.F.plain_list_iadd _, codeAny_builtin PySem.F.entry_list_iadd ?_⟩
 rw [Around.under_plainId PySem.F.plain_list_iadd _]
 show wpAny _ A.in1 (Builtin.List.listExtendWith (.ref s.heap.objs.size) (.ref r) (.ref s.heap.objs.size)) _ _ _
 exact wpAny_extend_range (R := R) (s := { s with heap := s.heap.push { cls := .type "list", data := .seq ([] : List Value).toArray } }) hh (Heap.get?_push_of_some _ hr) hsm hn hl s.heap.objs.size (.ref s.heap.objs.size) 0 (Heap.get?_push_size _ rfl) fun h' tk acc c' hk hS hacc =>
  hR h' tk acc c' (fun b o e => hk b o (Nat.ne_of_lt (Heap.lt_size e)) (Heap.get?_push_of_some _ e)) hS hacc
theorem zkk {Q : List Value -> Shared -> Prop} {r : Addr} {a b c : Int} {t u v : Tok} {n : Nat} (hh : A.handled = none) (hr : IsRange s.heap r a b c t u v) (hsm : Builtin.Range.small a b c = true) (hn : Builtin.Range.rangeSize a b c = n) (hl : n <= 2 ^ 24)
  (hQ : ∀ h' tk acc, (∀ b o, s.heap.get? b = some o -> h'.get? b = some o) -> s.heap.objs.size < h'.objs.size -> ItemsOf (fun i v => ∃ t, v = .int (a + i * c) t) acc n -> Q acc.toList { s with heap := h', toks := tk }) : wpAny (model prog w) A (collect (.ref r)) Q E s := by
 unfold collect
 refine wpAny_bind (wpAny_runValue (zfo hh hr hsm hn hl fun h' tk acc c' hk hS hacc => ?_))
 show wpAny _ A (load s.heap.objs.size >>= _) _ _ _
 refine wpAny_bind (wpAny_load hS ?_)
 exact wpAny_pure (hQ h' tk acc hk (Heap.lt_size hS) hacc)
end
theorem zdw (r : Addr) (a b c : Int) (t u v : Tok) (n : Nat) (hsm : Builtin.Range.small a b c = true) (hn : Builtin.Range.rangeSize a b c = n) (hl : n <= 2 ^ 24) :
  Meets (Builtin.«tuple.__new__» ⟨[.type "tuple", .ref r], []⟩)
   (fun A R s => (A.handled = none /\ IsRange s.heap r a b c t u v) /\ ∀ (h' : Heap) (tk : Nat) (acc : Array Value), (∀ b o, s.heap.get? b = some o -> h'.get? b = some o) -> s.heap.objs.size < h'.objs.size -> ItemsOf (fun i v => ∃ t, v = .int (a + i * c) t) acc n ->
    R (.ok (.ret (.ref h'.objs.size))) { s with heap := h'.push { cls := .type "tuple", data := .seq acc }, toks := tk }) :=
 .of_wp fun prog w A R s h => by
  obtain ⟨⟨hh, hr⟩, h⟩ := h
  have hsub := sub_tuple_self
  have hinit := init_tuple_lookup
  have hmh := madeHere_tuple
  have hT : s.TypeIs (.ref r) "range" := ⟨_, hr, rfl⟩
  have hh1 : A.in1.handled = none := hh
  wp_walk using wpAny_typeOf hT, zkk hh1 hr hsm hn hl
  intro h' tk acc hk hz hacc
  show wpAny _ _ (Builtin.Tuple.tupleExact acc.toList.toArray >>= fun v => ret v) _ _ _
  unfold Builtin.Tuple.tupleExact
  refine wpAny_bind (wpAny_newObj_type ?_ (show acc.toList.toArray.size <= sizeLine by simp only [Array.toArray_toList]; rw [hacc.1, sizeLine_eq]; omega))
  refine wpAny_pure ⟨_, rfl, ?_⟩
  have e : acc.toList.toArray = acc := by simp
  rw [e]
  exact h h' tk acc hk hz hacc
def upN (n : Nat) : List V := (List.range n).map fun (i : Nat) => V.int i
theorem zke {acc : Array Value} {n : Nat} (h : ItemsOf (fun i v => ∃ t, v = .int (0 + (i : Int) * 1) t) acc n) : Vals (upN n) acc.toList := by
 obtain ⟨hz, hi⟩ := h
 have key : ∀ (l : List Value) (k : Nat), (∀ (j : Nat) (v : Value), l[j]? = some v -> ∃ t, v = Value.int ((k + j : Nat) : Int) t) -> Vals ((List.range' k l.length).map fun (i : Nat) => V.int i) l := by
  intro l
  induction l with
  | nil => intro k _; exact .nil
  | cons a r ih =>
   intro k hk
   obtain ⟨t, e⟩ := hk 0 a rfl
   refine .cons ⟨t, by simpa using e⟩ (ih (k + 1) fun j v e => ?_)
   obtain ⟨t', e'⟩ := hk (j + 1) v (by simpa using e)
   exact ⟨t', by rw [e']; congr 2; omega⟩
 have := key acc.toList 0 fun j v e => by
  obtain ⟨t, e'⟩ := hi j v (by simpa using e)
  exact ⟨t, by rw [e']; congr 1; simp⟩
 have el : acc.toList.length = n := by simpa using hz
 rw [el] at this
 unfold upN
 rw [List.range_eq_range']
 exact this
section
variable {X : Cx}
theorem zcy : CallR X (.type "range") (fun xs H Q => ∃ j : Int, xs = [.int j] /\ ∀ p, H p = none -> Q (.ref p) (upd H p (.rng 0 j))) := by
 intro pins s σ H xs us Q I r h
 obtain ⟨j, rfl, q⟩ := h
 obtain ⟨u, rfl, ru⟩ := Vals.one r
 obtain ⟨t, rfl⟩ := ru
 refine call_range_1 ⟨.ref s.heap.objs.size, upd H s.heap.objs.size (.rng 0 j), I.laid (fun b o e => Heap.get?_push_of_some _ e) (Nat.le_refl _) ?_, rfl, q _ (I.hok.fresh (Nat.le_refl _))⟩
 exact ⟨_, _, _, Heap.get?_push_size _ rfl⟩
theorem size1 (n : Nat) : Builtin.Range.rangeSize 0 (n : Int) 1 = (n : Int) := by rw [rangeSize_one]; split <;> omega
theorem zdm (hc : X.calm = true) : CallR X (.type "list") (fun xs H Q => ∃ (p : Addr) (n : Nat), xs = [.ref p] /\ H p = some (.rng 0 n) /\ n <= 1000 /\ ∀ l, H l = none -> Q (.ref l) (upd H l (.lst (upN n)))) := by
 intro pins s σ H xs us Q I r h
 obtain ⟨p, n, rfl, hp, hn, q⟩ := h
 obtain ⟨u, rfl, ru⟩ := Vals.one r
 cases (show u = Value.ref p from ru)
 obtain ⟨t1, t2, t3, e⟩ := I.hok p _ hp
 refine call_list_range (t := t1) (u := t2) (v := t3) (I.ok.hd hc) e (small_one (by decide) (by decide) (by omega) (by omega)) (size1 n) (by omega) fun h' tk acc c' hk hS hacc => ?_
 refine ⟨.ref s.heap.objs.size, upd H s.heap.objs.size (.lst (upN n)), I.laid hk (Nat.le_refl _) ?_, rfl, q _ (I.hok.fresh (Nat.le_refl _))⟩
 exact ⟨by unfold upN; rw [List.length_map, List.length_range]; exact Nat.le_trans hn (by decide), acc.toList, c', zke hacc, by rw [hS]⟩
theorem zif (hc : X.calm = true) : CallR X (.type "tuple") (fun xs H Q => ∃ (p : Addr) (n : Nat), xs = [.ref p] /\ H p = some (.rng 0 n) /\ n <= 1000 /\ ∀ l, H l = none -> Q (.ref l) (upd H l (.tup (upN n)))) := by
 intro pins s σ H xs us Q I r h
 obtain ⟨p, n, rfl, hp, hn, q⟩ := h
 obtain ⟨u, rfl, ru⟩ := Vals.one r
 cases (show u = Value.ref p from ru)
 obtain ⟨t1, t2, t3, e⟩ := I.hok p _ hp
 refine callType_new F.called_tuple (by decide) (F.typeCall_tuple_1 _) (F.newCall_tuple_1 _) (fun obj => F.args_object_init_2 obj _) F.entry_tuple_new
  (zdw p 0 n 1 t1 t2 t3 n (small_one (by decide) (by decide) (by omega) (by omega)) (size1 n) (by omega)) ⟨⟨I.ok.hd hc, e⟩, fun h' tk acc hk hz hacc => ⟨⟨_, Heap.get?_push_size _ rfl, rfl⟩, ?_⟩⟩
 have ge : s.heap.objs.size <= h'.objs.size := Nat.le_of_lt hz
 refine ⟨.ref h'.objs.size, upd H h'.objs.size (.tup (upN n)), I.laid (fun b o e => Heap.get?_push_of_some _ (hk b o e)) ge ?_, rfl, q _ (I.hok.fresh ge)⟩
 refine ⟨by unfold upN; rw [List.length_map, List.length_range]; exact Nat.le_trans hn (by decide), acc.toList, zke hacc, _, Heap.get?_push_size _ rfl, rfl, 0, by simp⟩
def dcr : List Int -> Nat
 | [] => 0
 | x :: xs => dcr xs + if x ∈ xs then 0 else 1
def zau (l : List Int) : Nat := dcr l.reverse
theorem zfa (ns : List Int) : ∀ i, i <= ns.length -> (firstMet (fun i => ns.getD i 0) i).length = zau (ns.take i)
 | 0, _ => rfl
 | i + 1, h => by
  have hi : i < ns.length := by omega
  have ih := zfa ns i (by omega)
  have e1 : ns.take (i + 1) = ns.take i ++ [ns.getD i 0] := by
   rw [List.take_add_one]
   congr 1
   simp [List.getD, hi]
  have e2 : ((List.range i).map fun i => ns.getD i 0) = ns.take i := by
   apply List.ext_getElem?
   intro j
   by_cases hj : j < i
   ·rw [List.getElem?_take_of_lt hj, List.getElem?_map, List.getElem?_range hj]
    have : j < ns.length := by omega
    simp [List.getD, this]
   ·rw [List.getElem?_take_eq_none (by omega)]
    rw [List.getElem?_eq_none (by simp; omega)]
  have ea := firstMet_any (fun i => ns.getD i 0) i (ns.getD i 0)
  rw [e2] at ea
  rw [firstMet_succ, step_length, ea, ih, e1]
  unfold zau
  rw [List.reverse_append]
  show _ = dcr (ns.getD i 0 :: (ns.take i).reverse)
  show _ = dcr (ns.take i).reverse + if ns.getD i 0 ∈ (ns.take i).reverse then 0 else 1
  by_cases hm : ns.getD i 0 ∈ ns.take i
  ·have h1 : (ns.take i).any (· == ns.getD i 0) = true := List.any_eq_true.mpr ⟨_, hm, by simp⟩
   rw [h1, if_pos (List.mem_reverse.mpr hm)]
   simp
  ·have h1 : (ns.take i).any (· == ns.getD i 0) = false := by
    rw [List.any_eq_false]
    intro x hx e
    have : x = ns.getD i 0 := by simpa using e
    exact hm (this ▸ hx)
   rw [h1, if_neg (fun z => hm (List.mem_reverse.mp z))]
   simp
theorem zuu {ns : List Int} : ∀ {us : List Value}, Vals (ns.map V.int) us -> IntsAre us ns := by
 induction ns with
 | nil => intro us r; rw [Vals.zero r]; exact .nil
 | cons y ys ih =>
  intro us r
  cases r with
  | cons h t =>
   obtain ⟨tk, rfl⟩ := h
   exact .cons y tk (ih t)
theorem zko (hc : X.calm = true) : CallR X (.type "set") (fun xs H Q => ∃ (p : Addr) (ns : List Int), xs = [.ref p] /\ SqL X.K H p (ns.map V.int) /\ ns.length <= 1000 /\ ∀ l S, H l = none -> Q (.ref l) (upd H l (.set S (zau ns)))) := by
 intro pins s σ H xs us Q I r h
 obtain ⟨p, ns, rfl, hp, hn, q⟩ := h
 obtain ⟨u, rfl, ru⟩ := Vals.one r
 cases (show u = Value.ref p from ru)
 obtain ⟨its, r1, t1, _⟩ := I.list hp
 have hl : its.length = ns.length := by have := r1.length; rw [List.length_map] at this; omega
 refine PySem.call_set_list (I.ok.hd hc) t1.isList (by simpa using zuu r1) (by show its.toArray.size + 1 < 4096; rw [List.size_toArray]; omega) fun h' tk hS hk => ?_
 have hs : its.toArray.size = ns.length := by rw [List.size_toArray, hl]
 rw [hs, zfa ns ns.length (Nat.le_refl _), List.take_length] at hS
 exact ⟨.ref s.heap.objs.size, upd H s.heap.objs.size (.set _ (zau ns)), I.laid (fun b o e => hk b o (Heap.lt_size e) e) (Nat.le_refl _) hS, rfl, q _ _ (I.hok.fresh (Nat.le_refl _))⟩
theorem zkp : CallR X (.builtin "len") (fun xs H Q => ∃ (p : Addr) (S : Int -> Bool) (n : Nat), xs = [.ref p] /\ H p = some (.set S n) /\ Q (.int n) H) := by
 intro pins s σ H xs us Q I r h
 obtain ⟨p, S, n, rfl, hp, q⟩ := h
 obtain ⟨u, rfl, ru⟩ := Vals.one r
 cases (show u = Value.ref p from ru)
 obtain ⟨o, es, ep, t, e1, e2, e3, _, _, e4, e5, e6⟩ := I.hok p _ hp
 subst e6
 refine call_len_set e1 e2 e3 e5 ?_ ⟨.int es.size, H, I.tok _, ⟨_, rfl⟩, q⟩
 have : es.size < 4096 := e4
 omega
end
section
variable {X : Cx}
end
end L2
namespace L2
open PySem PySem.Spec PyProof.Rows PySem.W
def XP (X : Cx) (pins : List (Addr × Obj)) (DX : St -> XK) (e : Value) (s' : Shared) : Prop := ∃ σ H s, Inv X pins σ H s /\ CXr X.prog X.w X.stack H s (DX σ) e s'
section
variable {X : Cx}
end
end L2
namespace L2
open PySem PySem.Spec PyProof.Rows
section
variable {X : Cx}
def rCatA (K : PySem.W.Frag) : R2 := fun x y H Q => ∃ a b xs ys, x = .ref a /\ y = .ref b /\ H a = some (.tup xs) /\ H b = some (.tup ys) /\ xs.length + ys.length <= sizeLine /\ ∀ p H', Same H H' -> H' p = some (.tup (xs ++ ys)) -> Q (.ref p) H'
theorem zBc : OpR X (binaryOp .Add) (rCatA X.K) := by
 intro pins s σ H x y v u Q I rx ry h
 obtain ⟨a, b, xs, ys, rfl, rfl, ha, hb, hz, q⟩ := h
 by_cases hx : xs = []
 ·subst hx
  exact ztv pins s σ H _ _ v u Q I rx ry ⟨a, b, ys, rfl, rfl, SqT.of ha, SqT.of hb, q b H (Same.refl H) hb⟩
 ·refine ztu pins s σ H _ _ v u Q I rx ry ⟨a, b, xs, ys, rfl, rfl, SqT.of ha, SqT.of hb, hx, hz, fun hy => ?_, fun hy p hp => q p _ (Same.new hp) zab⟩
  subst hy
  exact q a H (Same.refl H) (by rw [List.append_nil]; exact ha)
end
section
variable {κ : Type} [DecidableEq κ]
def valV (kvs : List (κ × V)) (k : κ) : Option V := (kvs.find? fun kv => decide (kv.1 = k)).map (·.2)
def putK (kvs : List (κ × V)) (k : κ) (v : V) : List (κ × V) :=
 if (kvs.any fun kv => decide (kv.1 = k)) = true then kvs.map (fun kv => if kv.1 = k then (kv.1, v) else kv) else kvs ++ [(k, v)]
theorem zjm {p : κ × V} {r : List (κ × V)} {k : κ} (e : p.1 = k) : valV (p :: r) k = some p.2 := by simp [valV, List.find?_cons, e]
theorem zjn {p : κ × V} {r : List (κ × V)} {k : κ} (e : ¬ p.1 = k) : valV (p :: r) k = valV r k := by simp [valV, List.find?_cons, e]
theorem zjo (k : κ) : ∀ kvs : List (κ × V), (kvs.any fun kv => decide (kv.1 = k)) = (valV kvs k).isSome
 | [] => rfl
 | p :: r => by
  rw [List.any_cons]
  by_cases e : p.1 = k
  ·simp only [zjm e, decide_eq_true e, Bool.true_or, Option.isSome_some]
  ·rw [zjn e, decide_eq_false e, Bool.false_or]; exact zjo k r
theorem zdi (kvs : List (κ × V)) (k : κ) (v : V) : (putK kvs k v).length <= kvs.length + 1 := by
 unfold putK
 split
 ·rw [List.length_map]; lia
 ·rw [List.length_append, List.length_cons, List.length_nil]; lia
theorem zxf {kvs : List (κ × V)} {k : κ} (v : V) (h : valV kvs k = none) : putK kvs k v = kvs ++ [(k, v)] := by
 unfold putK
 rw [zjo, h]
 exact if_neg (by decide)
theorem RelO.isSome_eq {o : Option V} {u : Option Value} (r : RelO o u) : o.isSome = u.isSome := by
 cases o with
 | none => cases u with
  | none => rfl
  | some _ => exact (show False from r).elim
 | some _ => cases u with
  | none => exact (show False from r).elim
  | some _ => rfl
theorem RelO.getD {o : Option V} {u : Option Value} {d : V} {d' : Value} (r : RelO o u) (rd : RelV d d') : RelV (o.getD d) (u.getD d') := by
 cases o with
 | none => cases u with
  | none => exact rd
  | some _ => exact (show False from r).elim
 | some _ => cases u with
  | none => exact (show False from r).elim
  | some _ => exact r
theorem KV.val {kvs : List (κ × V)} {vs : List (κ × Value)} (r : KV kvs vs) (k : κ) : RelO (valV kvs k) (valueAt vs k) := by
 unfold KV at r
 induction r with
 | nil => exact True.intro
 | @cons p q ps qs h t ih =>
  obtain ⟨h1, h2⟩ := h
  by_cases e : p.1 = k
  ·have e' : q.1 = k := h1.symm.trans e
   have b : valueAt (q :: qs) k = some q.2 := by simp [valueAt, List.find?_cons, e']
   rw [zjm e, b]; exact h2
  ·have e' : ¬ q.1 = k := fun z => e (h1.trans z)
   have b : valueAt (q :: qs) k = valueAt qs k := by simp [valueAt, List.find?_cons, e']
   rw [zjn e, b]; exact ih
theorem KV.any {kvs : List (κ × V)} {vs : List (κ × Value)} (r : KV kvs vs) (k : κ) : (kvs.any fun kv => decide (kv.1 = k)) = vs.any fun kv => decide (kv.1 = k) := by
 unfold KV at r
 induction r with
 | nil => rfl
 | cons h t ih => rw [List.any_cons, List.any_cons, ih, h.1]
theorem KV.repl {kvs : List (κ × V)} {vs : List (κ × Value)} (r : KV kvs vs) (k : κ) {y : V} {u : Value} (ry : RelV y u) :
  KV (kvs.map fun kv => if kv.1 = k then (kv.1, y) else kv) (vs.map fun kv => if kv.1 = k then (kv.1, u) else kv) := by
 unfold KV at r ⊢
 induction r with
 | nil => exact .nil
 | @cons p q ps qs h t ih =>
  rw [List.map_cons, List.map_cons]
  refine .cons ?_ ih
  obtain ⟨h1, h2⟩ := h
  by_cases e : p.1 = k
  ·rw [if_pos e, if_pos (h1.symm.trans e)]; exact ⟨h1, ry⟩
  ·rw [if_neg e, if_neg (fun z => e (h1.trans z))]; exact ⟨h1, h2⟩
theorem KV.put {kvs : List (κ × V)} {vs : List (κ × Value)} (r : KV kvs vs) (k : κ) {y : V} {u : Value} (ry : RelV y u) : KV (putK kvs k y) (stored vs k u) := by
 unfold putK stored
 rw [r.any k]
 by_cases e : (vs.any fun kv => decide (kv.1 = k)) = true
 ·rw [if_pos e, if_pos e]; exact r.repl k ry
 ·rw [if_neg e, if_neg e]; exact Paired.snoc r ⟨rfl, ry⟩
theorem KV.length {kvs : List (κ × V)} {vs : List (κ × Value)} (r : KV kvs vs) : kvs.length = vs.length := Paired.length r
end
theorem kV_is {P : Program} {w : World} {k : Key} {u : Value} (r : RelV (kV k) u) : (zbm P w).is k u = true := by
 cases k with
 | inl i => obtain ⟨t, e⟩ := (show ∃ t, u = Value.int i t from r); subst e; exact znk P w i t
 | inr x => obtain ⟨t, e⟩ := (show ∃ t, u = Value.str x t from r); subst e; exact znj P w x t
theorem zlz {P : Program} {w : World} : ∀ {ks : List Key} {us : List Value}, Vals (ks.map kV) us -> ItemsAre (zbm P w) ks us
 | [], _, r => by rw [List.map_nil] at r; cases r; exact .nil
 | k :: ks, _, r => by
  rw [List.map_cons] at r
  cases r with
  | cons h t => exact .cons (kV_is h) (zlz t)
abbrev KT (H : Hp) : List (List Key × V) -> List (List Key × Addr × Value) -> Prop := Paired fun p q => p.1 = q.1 /\ H q.2.1 = some (.tup (p.1.map kV)) /\ RelV p.2 q.2.2
theorem KT.val {H : Hp} {kvs : List (List Key × V)} {xs : List (List Key × Addr × Value)} (r : KT H kvs xs) (k : List Key) : RelO (valV kvs k) ((atKey xs k).map (·.2)) := by
 induction r with
 | nil => exact True.intro
 | @cons p q ps qs h t ih =>
  obtain ⟨h1, _, h2⟩ := h
  by_cases e : p.1 = k
  ·have e' : q.1 = k := h1.symm.trans e
   have b : atKey (q :: qs) k = some q.2 := by simp [atKey, List.find?_cons, e']
   rw [zjm e, b]; exact h2
  ·have e' : ¬ q.1 = k := fun z => e (h1.trans z)
   have b : atKey (q :: qs) k = atKey qs k := by simp [atKey, List.find?_cons, e']
   rw [zjn e, b]; exact ih
theorem KT.repl {H : Hp} {kvs : List (List Key × V)} {xs : List (List Key × Addr × Value)} (r : KT H kvs xs) (k : List Key) {y : V} {u : Value} (ry : RelV y u) :
  KT H (kvs.map fun kv => if kv.1 = k then (kv.1, y) else kv) (xs.map (putAt k u)) := by
 induction r with
 | nil => exact .nil
 | @cons p q ps qs h t ih =>
  rw [List.map_cons, List.map_cons]
  refine .cons ?_ ih
  obtain ⟨h1, h2, h3⟩ := h
  unfold putAt
  by_cases e : p.1 = k
  ·rw [if_pos e, if_pos (h1.symm.trans e)]; exact ⟨h1, h2, ry⟩
  ·rw [if_neg e, if_neg (fun z => e (h1.trans z))]; exact ⟨h1, h2, h3⟩
theorem KT.put {H : Hp} {kvs : List (List Key × V)} {xs : List (List Key × Addr × Value)} (r : KT H kvs xs) (k : List Key) {b : Addr} {y : V} {u : Value} (hb : H b = some (.tup (k.map kV))) (ry : RelV y u) :
  KT H (putK kvs k y) (storedH xs k b u) := by
 have e : (kvs.any fun kv => decide (kv.1 = k)) = (atKey xs k).isSome := by
  rw [zjo, (r.val k).isSome_eq, Option.isSome_map]
 unfold putK storedH
 rw [e]
 by_cases q : (atKey xs k).isSome = true
 ·rw [if_pos q, if_pos q]; exact r.repl k ry
 ·rw [if_neg q, if_neg q]; exact Paired.snoc r ⟨rfl, hb, ry⟩
theorem KT.keeps {H H' : Hp} {kvs : List (List Key × V)} {xs : List (List Key × Addr × Value)} (r : KT H kvs xs) (ht : ∀ b ys, H b = some (.tup ys) -> H' b = some (.tup ys)) : KT H' kvs xs :=
 Paired.mapP r fun _ _ z => ⟨z.1, ht _ _ z.2.1, z.2.2⟩
section
variable {P : Program} {w : World} {H : Hp} {h : Heap} {a : Addr}
theorem rd_of {u : HO} (ok : HOk P w H h) (e : Rd H a u) : ObjOk P w H h a u := e.ok ok
theorem dk_rd {kvs : List (Key × V)} (ok : HOk P w H h) (e : Rd H a (.dK kvs)) : kvs.length <= sizeLine /\ (a == sysModules) = false /\ ∃ vs, KV kvs vs /\ h.DictOf (zbm P w) a vs :=
 show ObjOk P w H h a (.dK kvs) from rd_of ok e
theorem dk_of {kvs : List (Key × V)} (ok : HOk P w H h) (e : H a = some (.dK kvs)) : kvs.length <= sizeLine /\ (a == sysModules) = false /\ ∃ vs, KV kvs vs /\ h.DictOf (zbm P w) a vs := dk_rd ok (.inl e)
theorem zjc {ks : List Key} (ok : HOk P w H h) (e : H a = some (.tup (ks.map kV))) : (tupleKind (zbm P w)).is h ks a := by
 obtain ⟨_, its, r, o, h1, h2, n, h3⟩ := (show ObjOk P w H h a (.tup (ks.map kV)) from ok a _ e)
 exact ⟨o, its.toArray, n, h1, h2, h3, by simpa using zlz r⟩
theorem dt_rd {kvs : List (List Key × V)} (ok : HOk P w H h) (e : Rd H a (.dT kvs)) : kvs.length <= sizeLine /\ (a == sysModules) = false /\
  ∃ xs, KT H kvs xs /\ h.DictOfH (tupleKind (zbm P w)) a xs := by
 obtain ⟨z, y, xs, r, o, es, ep, h1, h2, h3, h4, h5⟩ := (show ObjOk P w H h a (.dT kvs) from rd_of ok e)
 refine ⟨z, y, xs, r, o, es, ep, h1, h2, h3, h4, fun x hx => ?_, h5⟩
 have all : ∀ {l : List (List Key × V)} {m : List (List Key × Addr × Value)}, KT H l m -> ∀ x ∈ m, (tupleKind (zbm P w)).is h x.1 x.2.1 := by
  intro l m q
  induction q with
  | nil => intro x hx; exact nomatch hx
  | @cons p q ps qs hq t ih =>
   intro x hx
   rcases List.mem_cons.mp hx with e | hx
   ·subst e
    exact zjc ok (by rw [<- hq.1]; exact hq.2.1)
   ·exact ih x hx
 exact all r x hx
theorem dt_of {kvs : List (List Key × V)} (ok : HOk P w H h) (e : H a = some (.dT kvs)) : kvs.length <= sizeLine /\ (a == sysModules) = false /\
  ∃ xs, KT H kvs xs /\ h.DictOfH (tupleKind (zbm P w)) a xs := dt_rd ok (.inl e)
end
def DGet (H : Hp) (a : Addr) (y : V) (r : Option V) : Prop :=
 (∃ kvs k, Rd H a (.dK kvs) /\ y = kV k /\ r = valV kvs k) \/ ∃ kvs k b, Rd H a (.dT kvs) /\ y = .ref b /\ H b = some (.tup (k.map kV)) /\ r = valV kvs k
def DPut (H : Hp) (a : Addr) (y v : V) (H' : Hp) : Prop :=
 (∃ kvs k, H a = some (.dK kvs) /\ y = kV k /\ kvs.length < sizeLine /\ H' = upd H a (.dK (putK kvs k v))) \/
 ∃ kvs k b, H a = some (.dT kvs) /\ y = .ref b /\ H b = some (.tup (k.map kV)) /\ kvs.length < sizeLine /\ H' = upd H a (.dT (putK kvs k v))
theorem DGet.k {H : Hp} {a : Addr} {kvs : List (Key × V)} {k : Key} (e : H a = some (.dK kvs)) : DGet H a (kV k) (valV kvs k) := .inl ⟨kvs, k, .inl e, rfl, rfl⟩
theorem DGet.t {H : Hp} {a b : Addr} {kvs : List (List Key × V)} {k : List Key} (e : H a = some (.dT kvs)) (eb : H b = some (.tup (k.map kV))) : DGet H a (.ref b) (valV kvs k) := .inr ⟨kvs, k, b, .inl e, rfl, eb, rfl⟩
theorem DPut.k {H : Hp} {a : Addr} {kvs : List (Key × V)} {k : Key} {v : V} (e : H a = some (.dK kvs)) (hl : kvs.length < sizeLine) : DPut H a (kV k) v (upd H a (.dK (putK kvs k v))) := .inl ⟨kvs, k, e, rfl, hl, rfl⟩
theorem DPut.t {H : Hp} {a b : Addr} {kvs : List (List Key × V)} {k : List Key} {v : V} (e : H a = some (.dT kvs)) (eb : H b = some (.tup (k.map kV))) (hl : kvs.length < sizeLine) :
  DPut H a (.ref b) v (upd H a (.dT (putK kvs k v))) := .inr ⟨kvs, k, b, e, rfl, eb, hl, rfl⟩
section
variable {X : Cx} {pins : List (Addr × Obj)} {σ : St} {H : Hp} {s : Shared} {a : Addr} {y v : V} {u r : Value} {o : Option V} {A : Around} {E : Value -> Shared -> Prop}
theorem Inv.big (I : Inv X pins σ H s) : sysModules < s.heap.objs.size := by
 have h : mainGlobals < s.heap.objs.size := (I.mod.glob.keeps I.bk).lt
 exact Nat.lt_trans (by decide) h
theorem zvm {Q : Value -> Shared -> Prop} (hu : A.units + 1 < cLine) (I : Inv X pins σ H s) (g : DGet H a y (some v)) (ry : RelV y u) (h : ∀ w' s', Inv X pins σ H s' -> RelV v w' -> Q w' s') :
  wpAny (model X.prog X.w) A (getItem (.ref a) u) Q E s := by
 rcases g with ⟨kvs, k, e, ey, l⟩ | ⟨kvs, k, b, e, ey, eb, l⟩
 ·subst ey
  obtain ⟨z, hd, vs, rel, dd⟩ := dk_rd I.hok e
  obtain ⟨w', hw, rw'⟩ := RelO.some_of (v := v) (o := valueAt vs k) (by rw [l]; exact rel.val k)
  exact wpAny_getItem_of (kV_is ry) dd.mapOf hw (h w' _ (I.tok _) rw')
 ·subst ey
  cases (show u = Value.ref b from ry)
  obtain ⟨z, hd, xs, rel, dd⟩ := dt_rd I.hok e
  obtain ⟨w', hw, rw'⟩ := RelO.some_of (v := v) (o := (atKey xs k).map (·.2)) (by rw [l]; exact rel.val k)
  obtain ⟨p, hp, hp2⟩ := Option.map_eq_some_iff.mp hw
  refine wpAny_getItem_heap (tupleKind_room_in1 hu) (zjc I.hok eb) dd hp ?_
  rw [hp2]
  exact h w' _ (I.tok _) rw'
theorem zCd {Q : Value -> Shared -> Prop} (hu : A.units + 1 < cLine) (I : Inv X pins σ H s) (g : DGet H a y o) (ry : RelV y u) (h : ∀ s', Inv X pins σ H s' -> Q (.bool (!o.isSome)) s') :
  wpAny (model X.prog X.w) A (compareOp .NotIn u (.ref a)) Q E s := by
 rcases g with ⟨kvs, k, e, ey, l⟩ | ⟨kvs, k, b, e, ey, eb, l⟩
 ·subst ey
  obtain ⟨z, hd, vs, rel, dd⟩ := dk_rd I.hok e
  refine wpAny_notIn_of (kV_is ry) hd dd.mapOf ?_
  rw [<- (rel.val k).isSome_eq, <- l]
  exact h _ (I.tok _)
 ·subst ey
  cases (show u = Value.ref b from ry)
  obtain ⟨z, hd, xs, rel, dd⟩ := dt_rd I.hok e
  refine wpAny_notIn_heap (tupleKind_room_in1 hu) (zjc I.hok eb) hd dd ?_
  have q := (rel.val k).isSome_eq
  rw [Option.isSome_map] at q
  rw [<- q, <- l]
  exact h _ (I.tok _)
theorem znr {h' : Heap} {t' : Nat} {ob : HO} (I : Inv X pins σ H s) (mu : Mut (H a)) (hs : Heap.SameBut a s.heap h') (he : ∃ q, h'.get? a = some q) (new : ObjOk X.prog X.w (upd H a ob) h' a ob) :
  Inv X pins σ (upd H a ob) { s with heap := h', toks := t' } :=
 I.write (x := a) (e := a) mu (.inl rfl) (fun b q hb z => (hs.2 b hb).trans z) he new
theorem zzs {P : Program} {w : World} {H' : Hp} {h' : Heap} {kvs : List (Key × V)} {vs : List (Key × Value)} (z : kvs.length <= sizeLine) (hd : (a == sysModules) = false) (rel : KV kvs vs) (dd : h'.DictOf (zbm P w) a vs) :
  ObjOk P w H' h' a (.dK kvs) := ⟨z, hd, vs, rel, dd⟩
theorem zvk {H' : Hp} {Q : Unit -> Shared -> Prop} (hu : A.units + 1 < cLine) (I : Inv X pins σ H s) (g : DPut H a y v H') (ry : RelV y u) (rv : RelV v r) (h : ∀ s', Inv X pins σ H' s' -> Q () s') :
  wpAny (model X.prog X.w) A (setItem (.ref a) u r) Q E s := by
 rcases g with ⟨kvs, k, e, ey, l, eH⟩ | ⟨kvs, k, b, e, ey, eb, l, eH⟩
 ·subst ey eH
  obtain ⟨z, hd, vs, rel, dd⟩ := dk_of I.hok e
  have hz : vs.length <= sizeLine := by rw [<- rel.length]; exact z
  have hl : (putK kvs k v).length <= sizeLine := by have := zdi kvs k v; lia
  refine wpAny_setItem_pairs (hsz := hz) (kV_is ry) dd fun h' dd' hs => h _ ?_
  have he : ∃ q, h'.get? a = some q := let ⟨q, _, _, hq, _⟩ := dd'; ⟨q, hq⟩
  exact znr I (by rw [e]; exact True.intro) hs he (zzs hl hd (rel.put k rv) dd')
 ·subst ey eH
  cases (show u = Value.ref b from ry)
  obtain ⟨z, hd, xs, rel, dd⟩ := dt_of I.hok e
  have hz : xs.length <= sizeLine := by rw [<- Paired.length rel]; exact z
  have hl : (putK kvs k v).length <= sizeLine := by have := zdi kvs k v; lia
  refine wpAny_setItem_heap (hsz := hz) (tupleKind_room_in1 hu) (zjc I.hok eb) dd fun h' dd' hs => h _ ?_
  obtain ⟨q, es, ep, hq, h2, h3, h4, _, h5⟩ := dd'
  refine znr I (by rw [e]; exact True.intro) hs ⟨q, hq⟩ ⟨hl, hd, _, (rel.put k eb rv).keeps fun c ys ec => ?_, q, es, ep, hq, h2, h3, h4, h5⟩
  rw [zas (ne_of ec e (fun z => nomatch z))]
  exact ec
end
section
variable {X : Cx} {pins : List (Addr × Obj)} {σ : St} {H : Hp} {s : Shared} {a : Addr} {kvs : List (Key × V)} {k : Key} {u : Value} {A : Around} {E : Value -> Shared -> Prop}
end
def NoSl (i : Expr) : Prop := ∀ ov iv, subscripted i false ov iv = operate [ov, iv] (getItem ov iv)
theorem zAg {prog : Program} {w : World} {A : Around} {E : Value -> Shared -> Prop} {s : Shared} {env : Env} {value slice : Expr} {pos : Pos} {T id : String} {Q : Value -> Shared -> Prop}
  (hl : typeLookup (.type T) "__getitem__" = pure (some (.builtin id))) (hs : NoSl slice)
  (h : wpAny (model prog w) A (eval value env) (fun o s₁ => wpAny (model prog w) A (eval slice env) (fun i s₂ => s₂.TypeIs o T /\ wpAny (model prog w) A (getItem o i) Q E s₂) E s₁) E s) :
  wpAny (model prog w) A (eval (.Subscript value slice pos) env) Q E s := by
 refine Subscript_ (wpAny_mono h (fun o s₁ h₁ => wpAny_mono h₁ (fun i s₂ h₂ => ?_) fun _ _ x => x) fun _ _ x => x)
 obtain ⟨hT, h₂⟩ := h₂
 unfold subscriptTail
 refine wpAny_bind ?_
 rw [getitemInPython_of_ne hT.not_modules]
 refine wpAny_bind (wpAny_specialOf hT hl ?_)
 have fin : wpAny (model prog w) A (subscripted slice false o i) (fun r s₃ => wpAny (model prog w) A (letTemporaryGo value o r >>= fun _ => pure r) Q E s₃) E s₂ := by
  rw [hs o i]
  exact wpAny_operating (wpAny_mono h₂ (fun r s₃ h₃ => wpAny_bind (wpAny_letTemporaryGo (wpAny_pure h₃))) fun _ _ x => x)
 first
  | exact wpAny_pure (wpAny_bind fin)
  | exact wpAny_bind (wpAny_pure (wpAny_bind fin))
  | exact wpAny_bind fin
theorem znq {X : Cx} {pins : List (Addr × Obj)} {σ : St} {H : Hp} {s : Shared} {a : Addr} {y : V} {o : Option V} (I : Inv X pins σ H s) (g : DGet H a y o) : s.TypeIs (.ref a) "dict" := by
 rcases g with ⟨kvs, k, e, _, _⟩ | ⟨kvs, k, b, e, _, _, _⟩
 ·obtain ⟨_, _, vs, _, dd⟩ := dk_rd I.hok e
  exact dd.typeIs
 ·obtain ⟨_, _, xs, _, dd⟩ := dt_rd I.hok e
  exact dd.typeIs
def tDGet (td ty : TE) : TE := fun σ H Q => td σ H fun x H1 => ty σ H1 fun y H2 => ∃ a v, x = .ref a /\ DGet H2 a y (some v) /\ Q v H2
def zAf (ty td : TE) : TE := fun σ H Q => ty σ H fun y H1 => td σ H1 fun x H2 => ∃ a o, x = .ref a /\ DGet H2 a y o /\ Q (.bl (!o.isSome)) H2
def sDPut (td ty tv : TE) : TS := fun D σ H => tv σ H fun v H1 => td σ H1 fun x H2 => ty σ H2 fun y H3 => ∃ a H4, x = .ref a /\ DPut H3 a y v H4 /\ D.nx σ H4
section
variable {X : Cx} {o i e value : Expr} {pos pos' tpos : Pos} {td ty tv : TE}
theorem zBa (hu : X.A.units + 1 < cLine) (ho : PE X o td) (hi : PE X i ty) (hs : NoSl i) : PE X (.Subscript o i pos) (tDGet td ty) := by
 intro pins s σ H Q I h
 refine zAg PySem.F.slot_dict_getitem.lookup hs (thn (ho pins s σ H _ I h) fun u s1 ⟨x, H1, I1, rx, q1⟩ => thn (hi pins s1 σ H1 _ I1 q1) fun iv s2 ⟨y, H2, I2, ry, a, v, ex, g, q2⟩ => ?_)
 subst ex
 obtain rfl : u = Value.ref a := rx
 exact ⟨znq I2 g, zvm hu I2 g ry fun w' s3 I3 rw' => ⟨v, H2, I3, rw', q2⟩⟩
theorem ztr (hu : X.A.units + 1 < cLine) (hi : PE X i ty) (ho : PE X o td) : PC X .NotIn i o (zAf ty td) := by
 intro pins s σ H Q I h
 refine thn (hi pins s σ H _ I h) fun iv s1 ⟨y, H1, I1, ry, q1⟩ => thn (ho pins s1 σ H1 _ I1 q1) fun u s2 ⟨x, H2, I2, rx, a, ov, ex, g, q2⟩ => ?_
 subst ex
 obtain rfl : u = Value.ref a := rx
 exact zCd hu I2 g ry fun s3 I3 => ⟨.bl (!ov.isSome), H2, I3, rfl, q2⟩
theorem znf (hu : X.A.units + 1 < cLine) (ho : PE X o td) (hi : PE X i ty) (hv : PE X value tv) (hs : swapsWith value (some (.Subscript o i pos')) pos.line X.env = pure false) :
  PS X (.Assign [.Subscript o i pos'] value pos) (sDPut td ty tv) := by
 intro pins s σ H D I h
 refine wpAny_Assign_Subscript (thn (hv pins s σ H _ I h) fun r s1 ⟨v, H1, I1, rv, q1⟩ => thn (ho pins s1 σ H1 _ I1 q1) fun u s2 ⟨x, H2, I2, rx, q2⟩ => thn (hi pins s2 σ H2 _ I2 q2) fun iv s3 ⟨y, H3, I3, ry, a, H4, ex, g, q3⟩ => ?_) hs
 subst ex
 obtain rfl : u = Value.ref a := rx
 exact zvk hu I3 g ry rv fun s4 I4 => ⟨σ, H4, I4, q3⟩
end
theorem zyf {P : Program} {w : World} {H : Hp} (h : Heap) (hb : sysModules < h.objs.size) : ObjOk P w H (h.push { cls := .type "dict", data := .dict #[] }) h.objs.size (.dK []) :=
 ⟨Nat.zero_le _, beq_eq_false_iff_ne.mpr (Ne.symm (Nat.ne_of_lt hb)), [], .nil, Heap.DictOf.new h⟩
theorem zye {P : Program} {w : World} {H : Hp} (h : Heap) (hb : sysModules < h.objs.size) : ObjOk P w H (h.push { cls := .type "dict", data := .dict #[] }) h.objs.size (.dT []) :=
 ⟨Nat.zero_le _, beq_eq_false_iff_ne.mpr (Ne.symm (Nat.ne_of_lt hb)), [], .nil, _, #[], 0, Heap.get?_push_size _ rfl, ⟨rfl, rfl, rfl⟩, rfl, rfl, List.nodup_nil⟩
def zDc : TE := fun _ H Q => ∀ p, H p = none -> Q (.ref p) (upd H p (.dT []))
section
variable {X : Cx} {pos : Pos}
theorem zpg : PE X (.Dict [] [] pos) zDc := fun pins s σ H Q I h =>
 wpAny_Dict_empty ⟨.ref s.heap.objs.size, _, I.laid (a := s.heap.objs.size) (o := .dT []) (t' := s.toks) (fun _ _ q => Heap.get?_push_of_some _ q) (Nat.le_refl _) (zye s.heap I.big), rfl, h _ (I.hok.fresh (Nat.le_refl _))⟩
end
def zrv : List (TE × TE) -> St -> Hp -> (List (V × V) -> Hp -> Prop) -> Prop
 | [], _, H, Q => Q [] H
 | (tk, tv) :: r, σ, H, Q => tk σ H fun x H1 => tv σ H1 fun y H2 => zrv r σ H2 fun ps H3 => Q ((x, y) :: ps) H3
abbrev VV : List (V × V) -> List (Value × Value) -> Prop := Paired fun p q => RelV p.1 q.1 /\ RelV p.2 q.2
def PPs (X : Cx) (pos : Pos) (keys : List (Option Expr)) (values : List Expr) (trs : List (TE × TE)) : Prop :=
 ∀ (pins : List (Addr × Obj)) (s : Shared) (σ : St) (H : Hp) (Q : List (V × V) -> Hp -> Prop), Inv X pins σ H s -> zrv trs σ H Q ->
  wpAny (model X.prog X.w) X.A (evalPairs (pairTrees keys values X.env pos)) (fun vs s' => ∃ ps H', Inv X pins σ H' s' /\ VV ps vs /\ Q ps H') X.xe s
theorem zAu {X : Cx} {pos : Pos} : PPs X pos [] [] [] := fun pins s σ H Q I h => pairTrees_nil_walk ⟨[], H, I, .nil, h⟩
theorem zxg {X : Cx} {pos : Pos} {k v : Expr} {ks : List (Option Expr)} {vs : List Expr} {tk tv : TE} {trs : List (TE × TE)} (hk : PE X k tk) (hv : PE X v tv) (hr : PPs X pos ks vs trs) :
  PPs X pos (some k :: ks) (v :: vs) ((tk, tv) :: trs) := fun pins s σ H Q I h =>
 pairTrees_cons_walk (thn (hk pins s σ H _ I h) fun u s1 ⟨x, H1, I1, rx, q1⟩ => thn (hv pins s1 σ H1 _ I1 q1) fun w2 s2 ⟨y, H2, I2, ry, q2⟩ =>
  thn (hr pins s2 σ H2 _ I2 q2) fun ws s3 ⟨ps, H3, I3, rel, q3⟩ => ⟨(x, y) :: ps, H3, I3, .cons ⟨rx, ry⟩ rel, q3⟩)
def ziz (kvs more : List (Key × V)) : List (Key × V) := more.foldl (fun acc kv => putK acc kv.1 kv.2) kvs
theorem KV.merge : ∀ {more : List (Key × V)} {rs : List (Key × Value)} {kvs : List (Key × V)} {vs : List (Key × Value)}, KV more rs -> KV kvs vs -> KV (ziz kvs more) (merged vs rs) := by
 intro more rs kvs vs r
 unfold KV at r
 induction r generalizing kvs vs with
 | nil => intro q; exact q
 | @cons p q ps qs h t ih =>
  intro r0
  have e : KV (putK kvs p.1 p.2) (stored vs q.1 q.2) := by
   have := r0.put p.1 h.2
   rw [<- h.1]; exact this
  exact ih e
theorem zfj : ∀ (more kvs : List (Key × V)), (ziz kvs more).length <= kvs.length + more.length
 | [], kvs => by show kvs.length <= kvs.length + 0; lia
 | p :: r, kvs => by
  have h1 := zfj r (putK kvs p.1 p.2)
  have h2 := zdi kvs p.1 p.2
  show (ziz (putK kvs p.1 p.2) r).length <= _
  rw [List.length_cons]; lia
theorem zjh {P : Program} {w : World} : ∀ {kvs : List (Key × V)} {ws : List (Value × Value)}, VV (kvs.map fun kv => (kV kv.1, kv.2)) ws -> ∃ rs, Carries (zbm P w) ws rs /\ KV kvs rs
 | [], _, r => by rw [List.map_nil] at r; cases r; exact ⟨[], True.intro, .nil⟩
 | p :: kvs, _, r => by
  rw [List.map_cons] at r
  cases r with
  | @cons a b as bs h t =>
   obtain ⟨rs, c, q⟩ := zjh (P := P) (w := w) t
   obtain ⟨b1, b2⟩ := b
   exact ⟨(p.1, b2) :: rs, ⟨kV_is h.1, rfl, c⟩, .cons ⟨rfl, h.2⟩ q⟩
def tDisp (trs : List (TE × TE)) : TE := fun σ H Q => ∀ p, H p = none -> zrv trs σ (upd H p (.dK [])) fun ps H2 => H2 p = some (.dK []) /\ ∃ kvs : List (Key × V), ps = kvs.map (fun kv => (kV kv.1, kv.2)) /\ kvs.length <= 15 /\ Q (.ref p) (upd H2 p (.dK (ziz [] kvs)))
theorem zAz {X : Cx} {pos : Pos} {keys : List (Option Expr)} {values : List Expr} {trs : List (TE × TE)} (h : PPs X pos keys values trs) (hall : keys.all (·.isSome) = true) (hl : keys.length = values.length) (h0 : keys ≠ [])
  (h15 : keys.length <= 15) : PE X (.Dict keys values pos) (tDisp trs) := by
 intro pins s σ H Q I q
 have hn := I.hok.fresh (Nat.le_refl s.heap.objs.size)
 have I1 := I.laid (a := s.heap.objs.size) (o := .dK []) (h' := s.heap.push { cls := .type "dict", data := .dict #[] }) (t' := s.toks) (fun _ _ q => Heap.get?_push_of_some _ q) (Nat.le_refl _) (zyf s.heap I.big)
 refine wpAny_Dict_walk (knd := zbm X.prog X.w) hall hl h0 h15 (thn (h pins _ σ _ _ I1 (q _ hn)) fun ws s2 ⟨ps, H2, I2, rel, e, kvs, ep, lk, q2⟩ => ?_)
 subst ep
 obtain ⟨rs, c, rk⟩ := zjh (P := X.prog) (w := X.w) rel
 obtain ⟨z, hd, vs0, r0, dd⟩ := dk_of I2.hok e
 cases r0
 refine ⟨rs, c, dd, fun h' dd' hs => ⟨.ref s.heap.objs.size, _, ?_, rfl, q2⟩⟩
 have hz : (ziz [] kvs).length <= sizeLine := by
  have h1 := zfj kvs []
  rw [List.length_nil] at h1
  rw [sizeLine_eq]; lia
 have he : ∃ q, h'.get? s.heap.objs.size = some q := let ⟨q, _, _, hq, _⟩ := dd'; ⟨q, hq⟩
 exact znr I2 (by rw [e]; exact True.intro) hs he (zzs hz hd (rk.merge .nil) dd')
structure M1 (X : Cx) (o : Expr) (m : Str) (apos : Pos) (e : Expr) (cpos : Pos) : Prop where
 base : attributeBase o m X.env (eval o X.env) = eval o X.env
 few : ((backTo cpos (starEach [e] X.env)).all (fun x => !x.1) && (backToKw cpos (keywordEach [] X.env)).all (fun x => x.1.isSome)
  && decide (([e] : List Expr).length + ([] : List Keyword).length + (if ([] : List Keyword).isEmpty then 0 else 1) < 30)) = true
 line : (apos.endLine == cpos.line) = true
 trees : backTo cpos (starEach [e] X.env) = [(false, eval e X.env)]
structure M2 (X : Cx) (o : Expr) (m : Str) (apos : Pos) (e f : Expr) (cpos : Pos) : Prop where
 base : attributeBase o m X.env (eval o X.env) = eval o X.env
 few : ((backTo cpos (starEach [e, f] X.env)).all (fun x => !x.1) && (backToKw cpos (keywordEach [] X.env)).all (fun x => x.1.isSome)
  && decide (([e, f] : List Expr).length + ([] : List Keyword).length + (if ([] : List Keyword).isEmpty then 0 else 1) < 30)) = true
 line : (apos.endLine == cpos.line) = true
 trees : backTo cpos (starEach [e, f] X.env) = [(false, eval e X.env), (false, eval f X.env)]
def IsD (H : Hp) (a : Addr) : Prop := (∃ kvs, Rd H a (.dK kvs)) \/ ∃ kvs, Rd H a (.dT kvs)
theorem zzo {X : Cx} {pins : List (Addr × Obj)} {σ : St} {H : Hp} {s : Shared} {a : Addr} (I : Inv X pins σ H s) (d : IsD H a) :
  s.TypeIs (.ref a) "dict" /\ (∀ b, Value.ref a = .ref b -> ∃ ob, s.heap.get? b = some ob /\ ob.dict = none) /\ (a == sysModules) = false := by
 rcases d with ⟨kvs, e⟩ | ⟨kvs, e⟩
 ·obtain ⟨_, hd, vs, _, dd⟩ := dk_rd I.hok e
  refine ⟨dd.typeIs, fun b q => ?_, hd⟩
  cases q
  obtain ⟨ob, _, _, h1, h2, _⟩ := dd
  exact ⟨ob, h1, h2.2.1⟩
 ·obtain ⟨_, hd, xs, _, dd⟩ := dt_rd I.hok e
  refine ⟨dd.typeIs, fun b q => ?_, hd⟩
  cases q
  obtain ⟨ob, _, _, h1, h2, _⟩ := dd
  exact ⟨ob, h1, h2.2.1⟩
section
variable {X : Cx} {pins : List (Addr × Obj)} {σ : St} {H : Hp} {s : Shared} {a : Addr} {y d : V} {u r : Value} {o : Option V} {A : Around} {E : Value -> Shared -> Prop}
theorem zEt {Q : Value -> Shared -> Prop} (hu : A.units + 1 < cLine) (I : Inv X pins σ H s) (g : DGet H a y o) (ry : RelV y u) (h : ∀ w' s', Inv X pins σ H s' -> RelV (o.getD .non) w' -> Q w' s') :
  wpAny (model X.prog X.w) A (call (.builtin "dict.get") [.ref a, u]) Q E s := by
 rcases g with ⟨kvs, k, e, ey, l⟩ | ⟨kvs, k, b, e, ey, eb, l⟩
 ·subst ey
  obtain ⟨z, hd, vs, rel, dd⟩ := dk_rd I.hok e
  refine call_meetsIn PySem.F.slot_dict_get dd.typeIs PySem.F.entry_dict_get (PySem.F.args_dict_get_2 _ _) (meets_dict_get (zbm X.prog X.w) a (kV_is ry) hd) ⟨_, dd.mapOf, h _ _ (I.tok _) ?_⟩
  rw [l]
  exact (rel.val k).getD rfl
 ·subst ey
  cases (show u = Value.ref b from ry)
  obtain ⟨z, hd, xs, rel, dd⟩ := dt_rd I.hok e
  refine call_meetsIn PySem.F.slot_dict_get dd.typeIs PySem.F.entry_dict_get (PySem.F.args_dict_get_2 _ _) (meetsH_dict_get (tupleKind (zbm X.prog X.w)) a b hd) ⟨tupleKind_room_in1 hu, k, xs, zjc I.hok eb, dd, h _ _ (I.tok _) ?_⟩
  rw [l]
  exact (rel.val k).getD rfl
theorem zEs {Q : Value -> Shared -> Prop} (hu : A.units + 1 < cLine) (I : Inv X pins σ H s) (g : DGet H a y o) (ry : RelV y u) (rd : RelV d r) (h : ∀ w' s', Inv X pins σ H s' -> RelV (o.getD d) w' -> Q w' s') :
  wpAny (model X.prog X.w) A (call (.builtin "dict.get") [.ref a, u, r]) Q E s := by
 rcases g with ⟨kvs, k, e, ey, l⟩ | ⟨kvs, k, b, e, ey, eb, l⟩
 ·subst ey
  obtain ⟨z, hd, vs, rel, dd⟩ := dk_rd I.hok e
  refine call_meetsIn PySem.F.slot_dict_get dd.typeIs PySem.F.entry_dict_get (PySem.F.args_dict_get_3 _ _ _) (meets_dict_get_default (zbm X.prog X.w) a (kV_is ry) hd r) ⟨_, dd.mapOf, h _ _ (I.tok _) ?_⟩
  rw [l]
  exact (rel.val k).getD rd
 ·subst ey
  cases (show u = Value.ref b from ry)
  obtain ⟨z, hd, xs, rel, dd⟩ := dt_rd I.hok e
  refine call_meetsIn PySem.F.slot_dict_get dd.typeIs PySem.F.entry_dict_get (PySem.F.args_dict_get_3 _ _ _) (meetsH_dict_get_default (tupleKind (zbm X.prog X.w)) a b hd r) ⟨tupleKind_room_in1 hu, k, xs, zjc I.hok eb, dd, h _ _ (I.tok _) ?_⟩
  rw [l]
  exact (rel.val k).getD rd
end
def zDe (td ty : TE) : TE := fun σ H Q => td σ H fun x H1 => ∃ a, x = .ref a /\ IsD H1 a /\ ty σ H1 fun y H2 => ∃ o, DGet H2 a y o /\ Q (o.getD .non) H2
def zDd (td ty tx : TE) : TE := fun σ H Q => td σ H fun x H1 => ∃ a, x = .ref a /\ IsD H1 a /\ ty σ H1 fun y H2 => tx σ H2 fun z H3 => ∃ o, DGet H3 a y o /\ Q (o.getD z) H3
section
variable {X : Cx} {o e f : Expr} {apos cpos : Pos} {td ty tx : TE}
theorem zxj (hu : X.A.units + 1 < cLine) (ho : PE X o td) (he : PE X e ty) (m : M1 X o "get" apos e cpos) : PE X (.Call (.Attribute o "get" apos) [e] [] cpos) (zDe td ty) := by
 intro pins s σ H Q I h
 refine wpAny_Call_method m.base m.few m.line PySem.F.plainAttrs_dict PySem.F.slot_dict_get PySem.F.type_dict_get (thn (ho pins s σ H _ I h) fun u s1 ⟨x, H1, I1, rx, a, ex, d, q1⟩ => ?_)
 subst ex
 obtain rfl : u = Value.ref a := rx
 obtain ⟨t1, t2, _⟩ := zzo I1 d
 refine ⟨t1, t2, ?_⟩
 rw [m.trees]
 refine Calls.callWith_builtin rfl (Calls.evalArgs_plain (Calls.spliced_cons (thn (he pins s1 σ H1 _ I1 q1) fun iv s2 ⟨y, H2, I2, ry, ov, g, q2⟩ => Calls.spliced_nil ?_)))
 exact zEt hu I2 g ry fun w' s3 I3 rw' => ⟨_, H2, I3, rw', q2⟩
theorem zph (hu : X.A.units + 1 < cLine) (ho : PE X o td) (he : PE X e ty) (hf : PE X f tx) (m : M2 X o "get" apos e f cpos) : PE X (.Call (.Attribute o "get" apos) [e, f] [] cpos) (zDd td ty tx) := by
 intro pins s σ H Q I h
 refine wpAny_Call_method m.base m.few m.line PySem.F.plainAttrs_dict PySem.F.slot_dict_get PySem.F.type_dict_get (thn (ho pins s σ H _ I h) fun u s1 ⟨x, H1, I1, rx, a, ex, d, q1⟩ => ?_)
 subst ex
 obtain rfl : u = Value.ref a := rx
 obtain ⟨t1, t2, _⟩ := zzo I1 d
 refine ⟨t1, t2, ?_⟩
 rw [m.trees]
 refine Calls.callWith_builtin rfl (Calls.evalArgs_plain (Calls.spliced_cons (thn (he pins s1 σ H1 _ I1 q1) fun iv s2 ⟨y, H2, I2, ry, q2⟩ =>
  Calls.spliced_cons (thn (hf pins s2 σ H2 _ I2 q2) fun fv s3 ⟨z, H3, I3, rz, ov, g, q3⟩ => Calls.spliced_nil ?_))))
 exact zEs hu I3 g ry rz fun w' s4 I4 rw' => ⟨_, H3, I4, rw', q3⟩
end
section
variable {X : Cx} {pins : List (Addr × Obj)} {σ : St} {H : Hp} {s : Shared} {a : Addr} {kvs : List (Key × V)} {A : Around} {E : Value -> Shared -> Prop}
end
section
variable {X : Cx} {pins : List (Addr × Obj)} {σ : St} {H : Hp} {s : Shared} {a : Addr} {y : V} {u : Value} {A : Around} {E : Value -> Shared -> Prop}
end
section
variable {prog : Program} {w : World} {A : Around} {E : Value -> Shared -> Prop} {s : Shared} {it d v : Addr} {i ep : Nat} {es : Array DictEntry} {o : Obj}
theorem zrd {Q : Value -> Shared -> Prop} (hs : (d == sysModules) = false) (ho : s.heap.get? d = some o) (hx : o.ExactDict)
  (q : Q (.ref s.heap.objs.size) { s with heap := s.heap.push { cls := .type "dict_items", data := .fields #[.ref d] } }) : wpAny (model prog w) A (call (.builtin "dict.items") [.ref d]) Q E s := by
 have ty : s.TypeIs (.ref d) "dict" := ⟨o, ho, hx.1⟩
 refine wpAny_call_entry F.slot_dict_items ty F.entry_dict_items ?_ (F.args_dict_items_1 _)
 unfold Builtin.«dict.items»
 refine wpAny_bind ?_
 unfold Builtin.Dict.noArgs
 refine wpAny_bind (wpAny_notOrdered_dict ty ?_)
 show wpAny _ _ (pure d) _ _ s
 refine wpAny_pure ?_
 show wpAny _ _ (Builtin.Dict.showsAll d >>= _) _ _ s
 unfold Builtin.Dict.showsAll
 rw [if_neg (by rw [hs]; exact Bool.false_ne_true)]
 exact wpAny_bind (wpAny_pure (wpAny_bind (wpAny_newObj_type (wpAny_pure ⟨_, rfl, q⟩))))
theorem zrc {Q : Value -> Shared -> Prop} (hv : s.heap.IsItemsView v d) (ho : s.heap.get? d = some o) (hd : o.data = .dict es ep)
  (q : Q (.ref s.heap.objs.size) { s with heap := s.heap.push { cls := .type "dict_itemiterator", data := .fields #[.none, .bool false, .ref d, .int 0 0, .int es.size 0, .int ep 0, .none, .none] } }) :
  wpAny (model prog w) A (pyIter (.ref v)) Q E s := by
 obtain ⟨ov, h1, h2, h3⟩ := id hv
 refine wpAny_pyIter_slot hv.typeIs F.slot_dict_items_iter (wpAny_call_entry F.slot_dict_items_iter hv.typeIs F.entry_dict_items_iter ?_ (F.args_dict_items_iter_1 _))
 unfold Builtin.«dict_items.__iter__»
 refine wpAny_bind (wpAny_pure (wpAny_bind ?_))
 unfold Builtin.Dict_items.dictOf
 refine wpAny_bind (wpAny_field h1 h3 (x := .ref d) rfl (wpAny_pure (wpAny_bind ?_)))
 unfold Builtin.Dict_items.newIterator
 refine wpAny_bind (wpAny_dictEntries ho hd (wpAny_bind (wpAny_dictEpoch ho hd ?_)))
 simp only [show Builtin.Dict_items.ownsTuple "dict_itemiterator" = true from by decide, if_true]
 refine wpAny_newObj_type (wpAny_pure ⟨_, rfl, "dict_itemiterator", _, ⟨_, Heap.get?_push_size _ rfl, rfl⟩, F.slot_dict_itemiterator_next.lookup, ?_⟩) (by simp only [sizeOk, Builtin.Dict_items.ownedTupleFields, List.size_toArray, List.length_append, List.length_cons, List.length_nil, sizeLine_eq]; lia)
 simpa [rawInt, Builtin.Dict_items.ownedTupleFields] using q
theorem zrb {e : DictEntry} {ok ov : Value} {Q : Option Value -> Shared -> Prop} (hit : IsItemIter s.heap it d i es.size ep ok ov) (ho : s.heap.get? d = some o) (hd : o.data = .dict es ep) (hx : es[i]? = some e)
  (q : ∀ h', IsItemIterOut h' it d (i + 1) es.size ep e.key e.val s.heap.objs.size -> h'.get? s.heap.objs.size = some { cls := .type "tuple", data := .seq #[e.key, e.val] } ->
   (∀ b o, b ≠ it -> s.heap.get? b = some o -> h'.get? b = some o) -> Q (some (.ref s.heap.objs.size)) { s with heap := h' }) : wpAny (model prog w) A (pyNext (.ref it)) Q E s := by
 obtain ⟨hp, g, dr, tk, os⟩ := s
 have ty : Shared.TypeIs ⟨hp, g, dr, tk, os⟩ (.ref it) "dict_itemiterator" := ⟨_, hit, rfl⟩
 unfold pyNext
 refine wpAny_bind (wpAny_attempt (wpAny_callSpecial?_slot (name := Str.ofString "__next__") ty F.slot_dict_itemiterator_next (wpAny_call_entry F.slot_dict_itemiterator_next ty F.entry_dict_itemiterator_next ?_ (F.args_dict_itemiterator_next_1 _))))
 refine wpAny_bind (wpAny_pure (wpAny_bind (wpAny_bind (wpAny_bind (wpAny_typeNameOfWhole_itemiter ty (wpAny_pure (wpAny_bind (wpAny_fieldsOf hit rfl ?_))))))))
 simp only [show Builtin.Dict_items.ownsTuple "dict_itemiterator" = true from by decide, if_true]
 show wpAny _ _ (if (Value.ref d == Value.none) = true then _ else _) _ _ _
 rw [if_neg (show ¬ (Value.ref d == Value.none) = true from Bool.false_ne_true)]
 refine wpAny_bind (wpAny_pure (wpAny_bind (wpAny_dictEntries ho hd ?_)))
 rw [if_neg (by simp)]
 refine wpAny_bind (wpAny_pure (wpAny_bind (wpAny_dictEpoch ho hd ?_)))
 rw [if_neg (by simp)]
 refine wpAny_pure ?_
 simp only [show ¬ ((i : Int) < 0) from by lia, if_false, Int.toNat_natCast, hx]
 refine wpAny_bind (wpAny_bind (wpAny_typeNameOfWhole_itemiter ty (wpAny_pure (wpAny_bind (wpAny_isOneOf_itemiter ty ?_)))))
 show wpAny _ _ (setField (.ref it) 3 (rawInt ((i : Int) + 1)) >>= _) _ _ ⟨hp, g, dr, tk, os⟩
 refine wpAny_bind (wpAny_setField_rec hit (by simp) fun g1 e1 b1 => ?_)
 replace b1 : Heap.SameBut it hp g1 := b1
 replace e1 : IsItemIter g1 it d (i + 1) es.size ep ok ov := by
  unfold IsItemIter
  rw [show ((i + 1 : Nat) : Int) = (i : Int) + 1 by lia]
  simpa [rawInt] using e1
 have ty1 : Shared.TypeIs ⟨g1, g, dr, tk, os⟩ (.ref it) "dict_itemiterator" := ⟨_, e1, rfl⟩
 refine wpAny_bind (wpAny_holding (wpAny_bind (wpAny_isOneOf_itemiter ty1 (wpAny_bind (wpAny_isOneOf_itemiter ty1 ?_)))))
 show wpAny _ _ (Builtin.Dict_items.pairFromOwner (.ref it) 6 e.key e.val) _ _ ⟨g1, g, dr, tk, os⟩
 unfold Builtin.Dict_items.pairFromOwner
 refine wpAny_bind (wpAny_newTuple ?_)
 have e2 : IsItemIter (g1.push { cls := .type "tuple", data := .seq #[e.key, e.val] }) it d (i + 1) es.size ep ok ov := Heap.get?_push_of_some _ e1
 have z1 : g1.objs.size = hp.objs.size := b1.1
 have il : it < hp.objs.size := Heap.lt_size hit
 have t2 : (g1.push { cls := .type "tuple", data := .seq #[e.key, e.val] }).get? hp.objs.size = some { cls := .type "tuple", data := .seq #[e.key, e.val] } := by rw [<- z1]; exact Heap.get?_push_size _ rfl
 have k2 : ∀ b o, b ≠ it -> hp.get? b = some o -> (g1.push { cls := .type "tuple", data := .seq #[e.key, e.val] }).get? b = some o := fun b o hb z => Heap.get?_push_of_some _ (b1.extBut b o hb z)
 show wpAny _ _ (Builtin.Dict_items.ownedTupleIsFree (.ref it) >>= _) _ _ ⟨g1.push { cls := .type "tuple", data := .seq #[e.key, e.val] }, g, dr, tk, os⟩
 rw [z1]
 generalize g1.push { cls := .type "tuple", data := .seq #[e.key, e.val] } = g2 at e2 t2 k2
 refine wpAny_bind ?_
 unfold Builtin.Dict_items.ownedTupleIsFree
 refine wpAny_bind (wpAny_field e2 rfl (x := Value.none) rfl (wpAny_pure ?_))
 simp only [if_true]
 refine wpAny_bind (wpAny_field e2 rfl (x := ok) rfl (wpAny_bind (wpAny_field e2 rfl (x := ov) rfl (wpAny_bind (wpAny_setField_rec e2 (by simp) fun g3 e3 b3 => ?_)))))
 replace b3 : Heap.SameBut it g2 g3 := b3
 replace e3 : IsItemIter g3 it d (i + 1) es.size ep e.key ov := e3
 refine wpAny_bind (wpAny_setField_rec e3 (by simp) fun g4 e4 b4 => ?_)
 replace b4 : Heap.SameBut it g3 g4 := b4
 replace e4 : IsItemIter g4 it d (i + 1) es.size ep e.key e.val := e4
 refine wpAny_bind (wpAny_setField_rec e4 (by simp) fun g5 e5 b5 => ?_)
 replace b5 : Heap.SameBut it g4 g5 := b5
 replace e5 : IsItemIterOut g5 it d (i + 1) es.size ep e.key e.val hp.objs.size := e5
 refine wpAny_bind (wpAny_setField_rec e5 (by simp) fun g6 e6 b6 => ?_)
 replace b6 : Heap.SameBut it g5 g6 := b6
 replace e6 : IsItemIterOut g6 it d (i + 1) es.size ep e.key e.val hp.objs.size := e6
 have up : ∀ b o, b ≠ it -> g2.get? b = some o -> g6.get? b = some o := fun b o hb z => b6.extBut b o hb (b5.extBut b o hb (b4.extBut b o hb (b3.extBut b o hb z)))
 exact wpAny_bind (wpAny_letGo (wpAny_pure (wpAny_pure ⟨_, rfl, wpAny_pure (q g6 e6 (up _ _ (Nat.ne_of_gt il) t2) fun b o hb z => up b o hb (k2 b o hb z))⟩)))
theorem zur {ok ov : Value} {Q : Option Value -> Shared -> Prop} (hh : A.handled = none) (hit : IsItemIter s.heap it d i es.size ep ok ov) (ho : s.heap.get? d = some o) (hd : o.data = .dict es ep) (hx : es.size <= i)
  (q : ∀ h', Heap.ExtBut it s.heap h' -> Q none { s with heap := h' }) : wpAny (model prog w) A (pyNext (.ref it)) Q E s := by
 have ty : s.TypeIs (.ref it) "dict_itemiterator" := ⟨_, hit, rfl⟩
 unfold pyNext
 refine wpAny_bind (wpAny_attempt (wpAny_callSpecial?_slot (name := Str.ofString "__next__") ty F.slot_dict_itemiterator_next (wpAny_call_entry F.slot_dict_itemiterator_next ty F.entry_dict_itemiterator_next ?_ (F.args_dict_itemiterator_next_1 _))))
 refine wpAny_bind (wpAny_pure (wpAny_bind (wpAny_bind (wpAny_bind (wpAny_typeNameOfWhole_itemiter ty (wpAny_pure (wpAny_bind (wpAny_fieldsOf hit rfl ?_))))))))
 simp only [show Builtin.Dict_items.ownsTuple "dict_itemiterator" = true from by decide, if_true]
 show wpAny _ _ (if (Value.ref d == Value.none) = true then _ else _) _ _ s
 rw [if_neg (show ¬ (Value.ref d == Value.none) = true from Bool.false_ne_true)]
 refine wpAny_bind (wpAny_pure (wpAny_bind (wpAny_dictEntries ho hd ?_)))
 rw [if_neg (by simp)]
 refine wpAny_bind (wpAny_pure (wpAny_bind (wpAny_dictEpoch ho hd ?_)))
 rw [if_neg (by simp)]
 refine wpAny_pure ?_
 simp only [show ¬ ((i : Int) < 0) from by lia, if_false, Int.toNat_natCast, Array.getElem?_eq_none hx]
 refine wpAny_bind (wpAny_bind (wpAny_typeNameOfWhole_itemiter ty (wpAny_pure ?_)))
 show wpAny _ _ (setField (.ref it) 2 .none >>= _) _ _ s
 refine wpAny_bind (wpAny_setField hit rfl (by simp) ?_)
 show wpAny _ _ (newExc (.type "StopIteration") [] >>= _) _ _ _
 refine wpAny_bind ?_
 simp only [newExc, newTuple]
 refine wpAny_bind (wpAny_newObj_type (wpAny_bind (m := firstArgMember _ _) (wpAny_of_eq (a := Value.none) (by first | rfl | (simp only [firstArgMember]; rfl)) (wpAny_newObj_type ?_ (by size_fits)))) (by size_fits))
 simp only [raiseNew]
 refine wpAny_bind (wpAny_handled ?_)
 rw [show A.in1.handled = none from hh]
 refine wpAny_bind (wpAny_pure (wpAny_throw ?_))
 exact wpAny_bind (wpAny_isInstance (T := "StopIteration") (b := true) ⟨_, Heap.get?_push_size _ rfl, rfl⟩ isSubtype_stop (wpAny_pure (q _ (((Heap.SameBut.update ..).extBut.push _).push _))))
end
abbrev TTab := List (List Key × V)
section
variable {X : Cx} {pins : List (Addr × Obj)} {σ : St} {H : Hp} {s : Shared} {d : Addr} {kvs : TTab}
theorem KT.at {H : Hp} : ∀ {kvs : TTab} {xs : List (List Key × Addr × Value)} {i : Nat} {k : List Key} {v : V}, KT H kvs xs -> kvs[i]? = some (k, v) -> ∃ b u, xs[i]? = some (k, b, u) /\ H b = some (.tup (k.map kV)) /\ RelV v u
 | _, _, _, _, _, .nil, e => by simp at e
 | _, _, 0, k, v, .cons (a := p) (b := q) r _, e => by
  simp at e
  subst e
  obtain ⟨r1, r2, r3⟩ := r
  obtain ⟨q1, q2, q3⟩ := q
  cases (show k = q1 from r1)
  exact ⟨q2, q3, by simp, r2, r3⟩
 | _, _, i + 1, k, v, .cons _ t, e => by
  obtain ⟨b, u, h1, h2⟩ := KT.at (i := i) t (by simpa using e)
  exact ⟨b, u, by simpa using h1, h2⟩
theorem zno {o : Obj} (I : Inv X pins σ H s) (h : H d = some (.frz o (.dT kvs))) : s.heap.get? d = some o /\ ∃ xs es ep, KT H kvs xs /\ o.ExactDict /\ o.data = .dict es ep /\ es.toList = xs.map (entryOfKey (tupleKind (zbm X.prog X.w))) := by
 obtain ⟨g, z, y, xs, r, o', es, ep, g', h1, h2, h3, _⟩ := I.hok d _ h
 rw [g] at g'
 cases g'
 exact ⟨g, xs, es, ep, r, h1, h2, h3⟩
theorem zEl {o : Obj} {es : Array DictEntry} {ep : Nat} (I : Inv X pins σ H s) (h : H d = some (.frz o (.dT kvs))) (hd : o.data = .dict es ep) {i : Nat} {k : List Key} {v : V} (e : kvs[i]? = some (k, v)) :
  ∃ en b, es[i]? = some en /\ en.key = .ref b /\ H b = some (.tup (k.map kV)) /\ RelV v en.val := by
 obtain ⟨g, xs, es', ep', r, h1, h2, h3⟩ := zno I h
 rw [hd] at h2
 cases h2
 obtain ⟨b, u, e1, e2, e3⟩ := KT.at r e
 have e4 : es.toList[i]? = some (entryOfKey (tupleKind (zbm X.prog X.w)) (k, b, u)) := by rw [h3, List.getElem?_map, e1]; rfl
 exact ⟨_, b, by rw [Array.getElem?_toList] at e4; exact e4, rfl, e2, e3⟩
theorem Inv.freeze (I : Inv X pins σ H s) (h : H d = some (.dT kvs)) : ∃ o es ep, s.heap.get? d = some o /\ o.ExactDict /\ o.data = .dict es ep /\ (d == sysModules) = false /\ es.size = kvs.length /\ Inv X pins σ (upd H d (.frz o (.dT kvs))) s := by
 obtain ⟨z, y, xs, r, o, es, ep, g, h1, h2, h3, h4⟩ := I.hok d _ h
 refine ⟨o, es, ep, g, h1, h2, y, ?_, ?_⟩
 ·have := congrArg List.length h3
  rw [List.length_map, <- Paired.length r] at this
  simpa using this
 ·refine I.write (x := d) (e := d) (h' := s.heap) (t' := s.toks) (by rw [h]; exact True.intro) (.inl rfl) (fun _ _ _ q => q) ⟨o, g⟩ ⟨g, z, y, xs, KT.keeps r fun c ys ec => ?_, o, es, ep, g, h1, h2, h3, h4⟩
  rw [zas (ne_of ec h (fun z => nomatch z))]
  exact ec
end
def viewO (v d : Addr) : HO := .ext fun h => h.IsItemsView v d
section
variable {X : Cx}
def zDp : V -> List V -> Hp -> VK -> Prop := fun x xs H Q => ∃ d kvs, x = .ref d /\ xs = [] /\ H d = some (.dT kvs) /\ ∀ v, H v = none -> Q (.ref v) (upd H v (viewO v d))
theorem zpo : MtR X "dict.items" zDp := by
 intro pins s σ H x xs v us Q I rx r h
 obtain ⟨d, kvs, rfl, rfl, hd, q⟩ := h
 cases (show v = Value.ref d from rx)
 cases Vals.zero r
 obtain ⟨z, y, ys, rr, o, es, ep, g, h1, h2, h3, h4⟩ := I.hok d _ hd
 refine zrd y g h1 ⟨.ref s.heap.objs.size, _, I.laid (t' := s.toks) (o := viewO s.heap.objs.size d) (fun b ob q => Heap.get?_push_of_some _ q) (Nat.le_refl _) ?_, rfl, q _ (I.hok.fresh (Nat.le_refl _))⟩
 exact ⟨⟨_, Heap.get?_push_size _ rfl, rfl, rfl⟩, ⟨_, Heap.get?_push_size _ rfl⟩, fun h1 h2 p k => let ⟨u, e, r⟩ := p; ⟨u, k _ e, r⟩⟩
end
def ItDI (d : Addr) (o : Obj) (kvs : TTab) : It :=
 ⟨fun i H => H d = some (.frz o (.dT kvs)) /\ i < kvs.length, fun i H x H' => ∃ T b k v, x = .ref T /\ H T = none /\ kvs[i]? = some (k, v) /\ H b = some (.tup (k.map kV)) /\ H' = upd H T (.tup [.ref b, v]), fun i H => H d = some (.frz o (.dT kvs)) /\ kvs.length <= i⟩
theorem zAd {P : Program} {w : World} {K : PySem.W.Frag} {elts : List Expr} {x1 : Nat} {tpos : Pos} (d it : Addr) (o : Obj) (es : Array DictEntry) (ep : Nat) (kvs : TTab) (hd : o.data = .dict es ep) (hn : es.size = kvs.length) :
  Turn P w K (.Tuple elts x1 tpos) (ItDI d o kvs) [it] it (fun i h => ∃ ok ov, IsItemIter h it d i es.size ep ok ov) where
 mem := by simp
 obj := fun i h st b hb => by
  have e : b = it := by simpa using hb
  subst e
  obtain ⟨_, _, e⟩ := st
  exact ⟨_, e, fun v z => by cases z⟩
 keep := fun i h h' st k => let ⟨ok, ov, e⟩ := st; ⟨ok, ov, k it (by simp) _ e⟩
 item := by
  intro X hP hw hK hc i pins s σ H E I hf st hg
  subst hP hw hK
  obtain ⟨hq, hi⟩ := hg
  obtain ⟨ok, ov, st⟩ := st
  obtain ⟨g, _⟩ := zno I hq
  obtain ⟨⟨k, v⟩, ek⟩ : ∃ p, kvs[i]? = some p := ⟨kvs[i], by simp [hi]⟩
  obtain ⟨en, b, e1, e2, e3, e4⟩ := zEl I hq hd ek
  refine zrb st g hd e1 fun h' a1 a2 a3 => ⟨_, rfl, ?_⟩
  refine wpAny_letOwnedTupleGo_items (s := { s with heap := h' }) a1 fun h2 b1 b2 => ?_
  replace b2 : Heap.SameBut it h' h2 := b2
  have el : it < s.heap.objs.size := Heap.lt_size st
  have kk : ∀ b o, b ∉ [it] -> s.heap.get? b = some o -> h2.get? b = some o := fun b o hb q => by
   simp at hb
   exact b2.extBut b o hb (a3 b o hb q)
  have tt : h2.get? s.heap.objs.size = some { cls := .type "tuple", data := .seq #[en.key, en.val] } := b2.extBut _ _ (Nat.ne_of_gt el) a2
  have fr : H s.heap.objs.size = none := I.hok.fresh (Nat.le_refl _)
  refine ⟨.ref s.heap.objs.size, upd H s.heap.objs.size (.tup [.ref b, v]), I.turnNew (t' := s.toks) hf kk (Nat.le_refl _) ?_, rfl, ⟨_, b, k, v, rfl, fr, ek, e3, rfl⟩, ⟨_, _, b1⟩, fun c hc => ?_⟩
  ·exact ⟨by show 2 <= sizeLine; decide, [en.key, en.val], .cons e2 (.cons e4 .nil), ⟨_, tt, rfl, 0, rfl⟩⟩
  ·rw [zas]
   ·exact (hf c hc).1
   ·rw [List.mem_singleton.mp hc]
    exact Nat.ne_of_lt el
 done := by
  intro X hP hw hK hc i pins s σ H E I hf st hg
  subst hP hw hK
  obtain ⟨hq, hi⟩ := hg
  obtain ⟨ok, ov, st⟩ := st
  obtain ⟨g, _⟩ := zno I hq
  exact zur (I.ok.hd hc) st g hd (by lia) fun h' q => ⟨rfl, I.turnM (t' := s.toks) hf fun b o hb z => q b o (fun y => hb (by simp [y])) z⟩
 self := fun _ _ _ _ _ st h => let ⟨_, _, he⟩ := st; PySem.W.kcp_self he h
def iDI (tv : TE) : TI := fun σ H R => tv σ H fun x H1 => ∃ v d kvs, x = .ref v /\ H1 v = some (viewO v d) /\ H1 d = some (.dT kvs) /\ ∀ o, R (ItDI d o kvs) (upd H1 d (.frz o (.dT kvs)))
theorem zlo {X : Cx} {elts : List Expr} {x1 : Nat} {tpos : Pos} {l : Expr} {tl : TE} (hl : PE X l tl) : PI X (.Tuple elts x1 tpos) l (iDI tl) := by
 intro pins s σ H R I h
 refine thn (hl pins s σ H _ I h) fun u s1 ⟨x, H1, I1, r1, q1⟩ => ?_
 obtain ⟨v, d, kvs, rfl, hv, hq, q⟩ := q1
 cases (show u = Value.ref v from r1)
 obtain ⟨vw, _⟩ := I1.hok v _ hv
 obtain ⟨o, es, ep, g, y1, y2, y, hn, I2⟩ := I1.freeze hq
 refine zrc vw g y2 ?_
 refine ⟨s1.heap.objs.size, [s1.heap.objs.size], _, _, upd H1 d (.frz o (.dT kvs)), rfl, I2.kept (t' := s1.toks) fun b o e => Heap.get?_push_of_some _ e, zAd d _ o es ep kvs y2 hn, ⟨_, _, Heap.get?_push_size _ rfl⟩, fun b hb => ?_, q o⟩
 have e : b = s1.heap.objs.size := by simpa using hb
 subst e
 exact I2.fpOk (Nat.le_refl _) (I2.hok.fresh (Nat.le_refl _))
theorem zvq {d : Addr} {o : Obj} {kvs : TTab} {g : TG} {tt : TT} {te : TE} {fin : List V -> Hp -> Prop} {σ : St} {H : Hp} (S : St -> Prop) (Pv : Nat -> List V -> Hp -> Prop) (hσ : S σ) (h0 : Pv 0 [] H) (hz : kvs.length < sizeLine)
  (hl : ∀ i ys H, Pv i ys H -> H d = some (.frz o (.dT kvs)))
  (hs : ∀ (i : Nat) (T b : Addr) (k : List Key) (v : V) (ys : List V) (σ : St) (H : Hp) (N : List V -> St -> Hp -> Prop), kvs[i]? = some (k, v) -> H T = none -> H b = some (.tup (k.map kV)) -> S σ -> Pv i ys H -> (∀ ys' σ' H', S σ' -> Pv (i + 1) ys' H' -> ys'.length <= ys.length + 1 -> N ys' σ' H') ->
   g (.ref T) σ (upd H T (.tup [.ref b, v])) fun σ2 H2 => tt σ2 H2 fun b H3 => if b = true then te σ2 H3 fun y H4 => N (ys ++ [y]) σ2 H4 else N ys σ2 H3)
  (hd : ∀ ys H, Pv kvs.length ys H -> fin ys H) : ∃ W, CompW (ItDI d o kvs) g tt te fin W /\ ∃ m, W 0 m [] σ H := by
 refine ⟨fun i m ys σ H => m = kvs.length - i /\ i <= kvs.length /\ ys.length <= i /\ S σ /\ Pv i ys H, ?_, kvs.length, by simp, Nat.zero_le _, Nat.le_refl _, hσ, h0⟩
 rintro i m ys σ H ⟨rfl, hi, hy, hS, p⟩
 by_cases hlt : i < kvs.length
 ·refine .inr ⟨⟨hl i ys H p, hlt⟩, by lia, fun x H' y => ?_⟩
  obtain ⟨T, b, k, v, rfl, hT, ek, eb, rfl⟩ := y
  exact hs i T b k v ys σ _ (fun ys' σ' H'' => ∃ m', m' < kvs.length - i /\ m' = kvs.length - (i + 1) /\ i + 1 <= kvs.length /\ ys'.length <= i + 1 /\ S σ' /\ Pv (i + 1) ys' H'') ek hT eb hS p (fun ys' σ' H'' a b c => ⟨_, by lia, rfl, hlt, by lia, a, b⟩)
 ·have e : i = kvs.length := by lia
  subst e
  exact .inl ⟨⟨hl _ ys H p, Nat.le_refl _⟩, by lia, hd ys H p⟩
end L2
namespace L2
open PySem PySem.W PyProof.Rows
inductive Ran (lt : Nat -> Nat -> Bool) (N : Nat) {α : Type} : KasT α -> α -> Prop
 | ret (a : α) : Ran lt N (.ret a) a
 | ask {i j : Nat} {k : Bool -> KasT α} {a : α} (hi : i < N) (hj : j < N) (h : Ran lt N (k (lt i j)) a) : Ran lt N (.ask i j k) a
theorem Ran.bind {lt : Nat -> Nat -> Bool} {N : Nat} {α β : Type} {t : KasT α} {a : α} {f : α -> KasT β} {b : β} (h : Ran lt N t a) (h2 : Ran lt N (f a) b) : Ran lt N (t.bind f) b := by
 induction h with
 | ret a => exact h2
 | ask hi hj _ ih => exact .ask hi hj (ih h2)
theorem Ran.wp {lt : Nat -> Nat -> Bool} {N : Nat} {α : Type} {t : KasT α} {a : α} {cmp : Nat -> Nat -> (Bool -> Shared -> Prop) -> Shared -> Prop} {s : Shared} {Q : α -> Shared -> Prop} (h : Ran lt N t a)
  (hc : ∀ i j C, i < N -> j < N -> C (lt i j) s -> cmp i j C s) (q : Q a s) : t.kasWp cmp Q s := by
 induction h with
 | ret a => exact q
 | ask hi hj _ ih => exact hc _ _ _ hi hj (ih q)
structure Ord (lt : Nat -> Nat -> Bool) : Prop where
 as : ∀ i j, lt i j = true -> lt j i = false
 tr : ∀ i j k, lt j i = false -> lt k j = false -> lt k i = false
theorem Ord.rf {lt : Nat -> Nat -> Bool} (o : Ord lt) (i : Nat) : lt i i = false := by
 cases h : lt i i with
 | false => rfl
 | true => have := o.as i i h; rw [h] at this; exact this
structure PB (N : Nat) (p : Array Nat) : Prop where
 perm : p.Perm (List.range N).toArray
theorem PB.size {N : Nat} {p : Array Nat} (h : PB N p) : p.size = N := by have := h.perm.size_eq; simpa using this
theorem PB.lt {N : Nat} {p : Array Nat} (h : PB N p) {i : Nat} (hi : i < N) : p.getD i 0 < N := by
 have hs : i < p.size := by rw [h.size]; exact hi
 have e : p.getD i 0 = p[i] := by simp [Array.getD, hs]
 rw [e]
 have hm : p[i] ∈ p := Array.getElem_mem hs
 have := h.perm.mem_iff.mp hm
 simpa using this
theorem PB.rev {N : Nat} {p : Array Nat} (h : PB N p) (i j : Nat) : PB N (kas_rev p i j) := ⟨(mirror_perm p i j _).trans h.perm⟩
theorem PB.bub {N : Nat} {p : Array Nat} (h : PB N p) (i j : Nat) : PB N (bubble p i j) := ⟨(bubble_perm p i j).trans h.perm⟩
theorem zht {xs ys : Array Nat} {i j : Nat} (h : xs[i]? = ys[j]?) : xs.getD i 0 = ys.getD j 0 := by
 rw [Array.getD_eq_getD_getElem?, Array.getD_eq_getD_getElem?, h]
theorem zes {N : Nat} {p : Array Nat} (h : PB N p) {i j : Nat} (hj : j <= N) (k : Nat) : (kas_rev p i j).getD k 0 = if i <= k /\ k < j then p.getD (i + j - 1 - k) 0 else p.getD k 0 := by
 have e := getElem?_mirror_all (xs := p) (i := i) (j := j) (by rw [h.size]; exact hj) k
 unfold kas_rev
 by_cases c : i <= k /\ k < j
 ·rw [if_pos c] at e ⊢; exact zht e
 ·rw [if_neg c] at e ⊢; exact zht e
theorem zzw {N : Nat} {p : Array Nat} (h : PB N p) {k l : Nat} (hk : k < N) (hl : l <= k) (i : Nat) :
  (bubble p k (k - l)).getD i 0 = if i = l then p.getD k 0 else if l < i /\ i <= k then p.getD (i - 1) 0 else p.getD i 0 := by
 have e := getElem?_bubble (xs := p) (src := k) (by rw [h.size]; exact hk) (k - l) (by lia) i
 rw [show k - (k - l) = l by lia] at e
 by_cases c : i = l
 ·rw [if_pos c] at e ⊢; exact zht e
 ·rw [if_neg c] at e ⊢
  by_cases c2 : l < i /\ i <= k
  ·rw [if_pos c2] at e ⊢; exact zht e
  ·rw [if_neg c2] at e ⊢; exact zht e
section
variable {lt : Nat -> Nat -> Bool} {N : Nat}
def Up (lt : Nat -> Nat -> Bool) (p : Array Nat) (m : Nat) : Prop := ∀ i j, i <= j -> j < m -> lt (p.getD j 0) (p.getD i 0) = false
def Down (lt : Nat -> Nat -> Bool) (p : Array Nat) (m : Nat) : Prop := ∀ i j, i <= j -> j < m -> lt (p.getD i 0) (p.getD j 0) = false
def Flat (lt : Nat -> Nat -> Bool) (p : Array Nat) (a b : Nat) : Prop := ∀ i j, a <= i -> i < b -> a <= j -> j < b -> lt (p.getD i 0) (p.getD j 0) = false
theorem zAc (o : Ord lt) {p : Array Nat} {n : Nat} (h : Up lt p n) (n1 : 1 <= n) (c : lt (p.getD n 0) (p.getD (n - 1) 0) = false) : Up lt p (n + 1) := by
 intro i j hij hj
 by_cases e : j = n
 ·subst e
  by_cases e2 : i = j
  ·subst e2; exact o.rf _
  ·exact o.tr _ _ _ (h i (j - 1) (by lia) (by lia)) c
 ·exact h i j hij (by lia)
theorem zea (o : Ord lt) {p : Array Nat} {n : Nat} (h : Down lt p n) (n1 : 1 <= n) (c : lt (p.getD (n - 1) 0) (p.getD n 0) = false) : Down lt p (n + 1) := by
 intro i j hij hj
 by_cases e : j = n
 ·subst e
  by_cases e2 : i = j
  ·subst e2; exact o.rf _
  ·exact o.tr _ _ _ c (h i (j - 1) (by lia) (by lia))
 ·exact h i j hij (by lia)
theorem zne (o : Ord lt) {p : Array Nat} (B : PB N p) : ∀ (f n : Nat), 1 <= n -> n + f <= N -> Up lt p n -> ∃ m, Ran lt N (kas_asc p f n) m /\ n <= m /\ m <= n + f /\ Up lt p m /\ (m = n + f \/ (m < N /\ lt (p.getD m 0) (p.getD (m - 1) 0) = true))
 | 0, n, _, _, h => ⟨n, .ret n, Nat.le_refl _, Nat.le_refl _, h, .inl rfl⟩
 | f + 1, n, n1, hf, h => by
  have b1 := B.lt (i := n) (by lia)
  have b2 := B.lt (i := n - 1) (by lia)
  cases c : lt (p.getD n 0) (p.getD (n - 1) 0) with
  | true =>
   refine ⟨n, .ask b1 b2 ?_, Nat.le_refl _, by lia, h, .inr ⟨by lia, c⟩⟩
   rw [c]
   exact .ret n
  | false =>
   obtain ⟨m, r, m1, m2, u, z⟩ := zne o B f (n + 1) (by lia) (by lia) (zAc o h n1 c)
   refine ⟨m, .ask b1 b2 ?_, by lia, by lia, u, ?_⟩
   ·rw [c]; exact r
   ·rcases z with z | z
    ·exact .inl (by lia)
    ·exact .inr z
theorem zmd (o : Ord lt) {p : Array Nat} (B : PB N p) {n q : Nat} (hn : n <= N) (hq : q + 1 <= n) (h : Down lt p n) (fl : Flat lt p (n - (q + 1)) n) : Down lt (kas_rev p (n - (q + 1)) n) n := by
 intro i j hij hj
 rw [zes B hn, zes B hn]
 by_cases c1 : n - (q + 1) <= i /\ i < n
 ·rw [if_pos c1, if_pos (by lia)]
  exact fl _ _ (by lia) (by lia) (by lia) (by lia)
 ·rw [if_neg c1]
  by_cases c2 : n - (q + 1) <= j /\ j < n
  ·rw [if_pos c2]
   exact h _ _ (by lia) (by lia)
  ·rw [if_neg c2]
   exact h _ _ hij hj
theorem zgr (o : Ord lt) : ∀ (f : Nat) (p : Array Nat) (n q : Nat), PB N p -> q + 1 <= n -> n + f <= N -> Down lt p n -> Flat lt p (n - (q + 1)) n ->
  ∃ p' n' q', Ran lt N (kas_desc f p n q) (p', n', q') /\ PB N p' /\ n <= n' /\ n' <= n + f /\ q' + 1 <= n' /\ Down lt p' n' /\ Flat lt p' (n' - (q' + 1)) n'
 | 0, p, n, q, B, hq, hf, h, fl => ⟨p, n, q, .ret _, B, Nat.le_refl _, Nat.le_refl _, hq, h, fl⟩
 | f + 1, p, n, q, B, hq, hf, h, fl => by
  have b1 := B.lt (i := n) (by lia)
  have b2 := B.lt (i := n - 1) (by lia)
  cases c : lt (p.getD n 0) (p.getD (n - 1) 0) with
  | true =>
   have c' := o.as _ _ c
   by_cases q0 : q > 0
   ·have B1 := B.rev (n - (q + 1)) n
    have d1 := zmd o B (by lia) hq h fl
    have en : (kas_rev p (n - (q + 1)) n).getD n 0 = p.getD n 0 := by rw [zes B (by lia), if_neg (by lia)]
    have el : (kas_rev p (n - (q + 1)) n).getD (n - 1) 0 = p.getD (n - (q + 1)) 0 := by
     rw [zes B (by lia), if_pos (by lia)]
     congr 1
     lia
    have d2 : Down lt (kas_rev p (n - (q + 1)) n) (n + 1) := zea o d1 (by lia) (by
     rw [en, el]
     exact o.tr _ _ _ c' (h _ _ (by lia) (by lia)))
    obtain ⟨p', n', q', r, z1, z2, z3, z4, z5, z6⟩ := zgr o f _ (n + 1) 0 B1 (by lia) (by lia) d2 (fun i j i1 i2 j1 j2 => by
     have : i = j := by lia
     subst this; exact o.rf _)
    refine ⟨p', n', q', .ask b1 b2 ?_, z1, by lia, by lia, z4, z5, z6⟩
    rw [c]
    simp only [if_true, if_pos q0]
    exact r
   ·obtain ⟨p', n', q', r, z1, z2, z3, z4, z5, z6⟩ := zgr o f p (n + 1) 0 B (by lia) (by lia) (zea o h (by lia) c') (fun i j i1 i2 j1 j2 => by
     have : i = j := by lia
     subst this; exact o.rf _)
    refine ⟨p', n', q', .ask b1 b2 ?_, z1, by lia, by lia, z4, z5, z6⟩
    rw [c]
    simp only [if_true, if_neg q0]
    exact r
  | false =>
   cases c2 : lt (p.getD (n - 1) 0) (p.getD n 0) with
   | true =>
    refine ⟨p, n, q, .ask b1 b2 ?_, B, Nat.le_refl _, by lia, hq, h, fl⟩
    rw [c]
    simp only [Bool.false_eq_true, if_false]
    refine .ask b2 b1 ?_
    rw [c2]
    simp only [if_true]
    exact .ret _
   | false =>
    have fl2 : Flat lt p (n + 1 - (q + 1 + 1)) (n + 1) := by
     intro i j i1 i2 j1 j2
     by_cases ei : i = n
     ·subst ei
      by_cases ej : j = i
      ·subst ej; exact o.rf _
      ·exact o.tr _ _ _ (fl (i - 1) j (by lia) (by lia) (by lia) (by lia)) c
     ·by_cases ej : j = n
      ·subst ej
       exact o.tr _ _ _ c2 (fl i (j - 1) (by lia) (by lia) (by lia) (by lia))
      ·exact fl i j (by lia) (by lia) (by lia) (by lia)
    obtain ⟨p', n', q', r, z1, z2, z3, z4, z5, z6⟩ := zgr o f p (n + 1) (q + 1) B (by lia) (by lia) (zea o h (by lia) c2) fl2
    refine ⟨p', n', q', .ask b1 b2 ?_, z1, by lia, by lia, z4, z5, z6⟩
    rw [c]
    simp only [Bool.false_eq_true, if_false]
    refine .ask b2 b1 ?_
    rw [c2]
    simp only [Bool.false_eq_true, if_false]
    exact r
theorem zCw {p : Array Nat} (B : PB N p) {n : Nat} (hn : n <= N) (h : Down lt p n) : Up lt (kas_rev p 0 n) n := by
 intro i j hij hj
 rw [zes B hn, zes B hn, if_pos (by lia), if_pos (by lia)]
 exact h _ _ (by lia) (by lia)
theorem zli (o : Ord lt) {p : Array Nat} (B : PB N p) {n : Nat} (n1 : 1 <= n) (hn : n <= N) (h : Down lt p n) : ∃ m p', Ran lt N (kas_tail3 n N p) (m, p') /\ PB N p' /\ 1 <= m /\ m <= N /\ Up lt p' m := by
 obtain ⟨m, r, m1, m2, u, _⟩ := zne o (B.rev 0 n) (N - n) n n1 (by lia) (zCw B hn h)
 exact ⟨m, _, r.bind (.ret _), B.rev 0 n, by lia, by lia, u⟩
theorem zgb (o : Ord lt) {p : Array Nat} (B : PB N p) {n : Nat} (hn : n + 1 <= N) (h : Down lt p (n + 1)) : ∃ m p', Ran lt N (kas_descPart n N p) (m, p') /\ PB N p' /\ 1 <= m /\ m <= N /\ Up lt p' m := by
 obtain ⟨p', n', q', r, z1, z2, z3, z4, z5, z6⟩ := zgr o (N - (n + 1)) p (n + 1) 0 B (by lia) (by lia) h (fun i j i1 i2 j1 j2 => by
  have : i = j := by lia
  subst this; exact o.rf _)
 by_cases q0 : q' > 0
 ·obtain ⟨m, p2, r2, y⟩ := zli o (z1.rev (n' - (q' + 1)) n') (n := n') (by lia) (by lia) (zmd o z1 (by lia) z4 z5 z6)
  exact ⟨m, p2, r.bind (by rw [if_pos q0]; exact r2), y⟩
 ·obtain ⟨m, p2, r2, y⟩ := zli o z1 (n := n') (by lia) (by lia) z5
  exact ⟨m, p2, r.bind (by rw [if_neg q0]; exact r2), y⟩
theorem ztf (o : Ord lt) {p : Array Nat} (B : PB N p) (hN : 1 <= N) : ∃ m p', Ran lt N (kas_count N p) (m, p') /\ PB N p' /\ 1 <= m /\ m <= N /\ Up lt p' m := by
 obtain ⟨n, r, n1, n2, u, z⟩ := zne o B (N - 1) 1 (Nat.le_refl _) (by lia) (fun i j hij hj => by
  have : i = j := by lia
  subst this; exact o.rf _)
 by_cases e : n = N
 ·exact ⟨n, p, r.bind (by rw [if_pos (by simp [e])]; exact .ret _), B, n1, by lia, u⟩
 ·have zz : n < N /\ lt (p.getD n 0) (p.getD (n - 1) 0) = true := by
   rcases z with z | z
   ·lia
   ·exact z
  have c' := o.as _ _ zz.2
  by_cases g : n > 1
  ·cases c : lt (p.getD 0 0) (p.getD (n - 1) 0) with
   | true =>
    refine ⟨n, p, r.bind ?_, B, n1, by lia, u⟩
    rw [if_neg (by simp [e]), if_pos g]
    refine .ask (B.lt (by lia)) (B.lt (by lia)) ?_
    rw [c]
    simp only [if_true]
    exact .ret _
   | false =>
    have alike : ∀ i j, i < n -> j < n -> lt (p.getD i 0) (p.getD j 0) = false := by
     intro i j hi hj
     have a1 : lt (p.getD i 0) (p.getD 0 0) = false := u 0 i (by lia) hi
     have a2 : lt (p.getD (n - 1) 0) (p.getD j 0) = false := u j (n - 1) (by lia) (by lia)
     exact o.tr _ _ _ a2 (o.tr _ _ _ c a1)
    have dn : Down lt (kas_rev p 0 n) (n + 1) := by
     refine zea o (fun i j hij hj => ?_) n1 ?_
     ·rw [zes B (by lia), zes B (by lia), if_pos (by lia), if_pos (by lia)]
      exact alike _ _ (by lia) (by lia)
     ·rw [zes B (by lia), zes B (by lia), if_pos (by lia), if_neg (by lia)]
      exact o.tr _ _ _ c' (alike _ _ (by lia) (by lia))
    obtain ⟨m, p2, r2, y⟩ := zgb o (B.rev 0 n) (n := n) (by lia) dn
    refine ⟨m, p2, r.bind ?_, y⟩
    rw [if_neg (by simp [e]), if_pos g]
    refine .ask (B.lt (by lia)) (B.lt (by lia)) ?_
    rw [c]
    simp only [Bool.false_eq_true, if_false]
    exact r2
  ·obtain rfl : n = 1 := by lia
   have dn : Down lt p (1 + 1) := zea o (fun i j hij hj => by
    have : i = j := by lia
    subst this; exact o.rf _) (Nat.le_refl _) c'
   obtain ⟨m, p2, r2, y⟩ := zgb o B (n := 1) (by lia) dn
   exact ⟨m, p2, r.bind (by rw [if_neg (by simp [e]), if_neg g]; exact r2), y⟩
theorem zhj (o : Ord lt) {p : Array Nat} (B : PB N p) {k : Nat} (hk : k < N) (u : Up lt p k) : ∀ (f l r : Nat), l <= r -> r <= k -> r - l <= f -> (∀ i, i < l -> lt (p.getD k 0) (p.getD i 0) = false) -> (∀ i, r <= i -> i < k -> lt (p.getD i 0) (p.getD k 0) = false) ->
  ∃ m, Ran lt N (kas_place p k f l r) m /\ m <= k /\ (∀ i, i < m -> lt (p.getD k 0) (p.getD i 0) = false) /\ (∀ i, m <= i -> i < k -> lt (p.getD i 0) (p.getD k 0) = false)
 | 0, l, r, h1, h2, h3, a, b => ⟨l, .ret _, by lia, a, fun i i1 i2 => b i (by lia) i2⟩
 | f + 1, l, r, h1, h2, h3, a, b => by
  by_cases g : l >= r
  ·refine ⟨l, ?_, by lia, a, fun i i1 i2 => b i (by lia) i2⟩
   unfold kas_place
   rw [if_pos g]
   exact .ret _
  ·cases c : lt (p.getD k 0) (p.getD ((l + r) / 2) 0) with
   | true =>
    obtain ⟨m, rr, y⟩ := zhj o B hk u f l ((l + r) / 2) (by lia) (by lia) (by lia) a (fun i i1 i2 => o.tr _ _ _ (o.as _ _ c) (u _ _ i1 i2))
    refine ⟨m, ?_, y⟩
    unfold kas_place
    rw [if_neg g]
    refine .ask (B.lt hk) (B.lt (by lia)) ?_
    rw [c]
    simp only [if_true]
    exact rr
   | false =>
    obtain ⟨m, rr, y⟩ := zhj o B hk u f ((l + r) / 2 + 1) r (by lia) (by lia) (by lia) (fun i i1 => o.tr _ _ _ (u i ((l + r) / 2) (by lia) (by lia)) c) b
    refine ⟨m, ?_, y⟩
    unfold kas_place
    rw [if_neg g]
    refine .ask (B.lt hk) (B.lt (by lia)) ?_
    rw [c]
    simp only [Bool.false_eq_true, if_false]
    exact rr
theorem ztg (o : Ord lt) : ∀ (f : Nat) (p : Array Nat) (k : Nat), PB N p -> k + f <= N -> Up lt p k -> ∃ p', Ran lt N (kas_bin f p k) p' /\ PB N p' /\ Up lt p' (k + f)
 | 0, p, k, B, _, u => ⟨p, .ret _, B, u⟩
 | f + 1, p, k, B, hf, u => by
  have hk : k < N := by lia
  obtain ⟨l, r, hl, a, b⟩ := zhj o B hk u k 0 k (Nat.zero_le _) (Nat.le_refl _) (by lia) (fun i hi => absurd hi (by lia)) (fun i i1 i2 => absurd i2 (by lia))
  have u2 : Up lt (bubble p k (k - l)) (k + 1) := by
   intro i j hij hj
   rw [zzw B hk hl, zzw B hk hl]
   by_cases ej : j = l
   ·rw [if_pos ej]
    by_cases ei : i = l
    ·rw [if_pos ei]; exact o.rf _
    ·rw [if_neg ei, if_neg (by lia)]
     exact a i (by lia)
   ·rw [if_neg ej]
    by_cases cj : l < j /\ j <= k
    ·rw [if_pos cj]
     by_cases ei : i = l
     ·rw [if_pos ei]
      exact b _ (by lia) (by lia)
     ·rw [if_neg ei]
      by_cases ci : l < i /\ i <= k
      ·rw [if_pos ci]; exact u _ _ (by lia) (by lia)
      ·rw [if_neg ci]; exact u _ _ (by lia) (by lia)
    ·rw [if_neg cj, if_neg (show ¬ i = l by lia), if_neg (by lia)]
     exact u _ _ hij (by lia)
  obtain ⟨p', r2, B2, u3⟩ := ztg o f _ (k + 1) (B.bub k (k - l)) (by lia) u2
  exact ⟨p', r.bind r2, B2, by rw [show k + (f + 1) = k + 1 + f by lia]; exact u3⟩
theorem zxc (o : Ord lt) (hN : 1 <= N) : ∃ p, Ran lt N (kas_sort N) p /\ PB N p /\ Up lt p N := by
 obtain ⟨m, p, r, B, m1, m2, u⟩ := ztf o (p := (List.range N).toArray) ⟨Array.Perm.refl _⟩ hN
 by_cases c : m < N
 ·obtain ⟨p2, r2, B2, u2⟩ := ztg o (N - max m 1) p (max m 1) B (by lia) (by rw [Nat.max_eq_left m1]; exact u)
  refine ⟨p2, r.bind (by rw [if_pos c]; exact r2), B2, ?_⟩
  rw [show max m 1 + (N - max m 1) = N by lia] at u2
  exact u2
 ·obtain rfl : m = N := by lia
  exact ⟨p, r.bind (by rw [if_neg c]; exact .ret _), B, u⟩
end
end L2
namespace L2
open PySem PySem.W PyProof.Rows
section
variable {prog : Program} {w : World} {A : Around} {E : Value -> Shared -> Prop} {s : Shared}
def Asks (prog : Program) (w : World) (s : Shared) (lt : Nat -> Nat -> Bool) (vs : List Value) : Prop :=
 ∀ (A : Around) (h' : Heap), (∀ b u, s.heap.get? b = some u -> h'.get? b = some u) -> 2 <= vs.length -> ∃ κ : SortKind, (∀ (E : Value -> Shared -> Prop) (Q : SortKind -> Shared -> Prop), Q κ { s with heap := h' } -> wpAny (model prog w) A (keyKind' vs.toArray) Q E { s with heap := h' }) /\
  ∀ (i j : Nat) (C : Bool -> Shared -> Prop), i < vs.length -> j < vs.length -> C (lt i j) { s with heap := h' } -> wpAny (model prog w) A (keyLt' κ (vs.getD i Value.none) (vs.getD j Value.none)) C (fun _ _ => False) { s with heap := h' }
def outOf (vs : List Value) (p : Array Nat) : List Value := p.toList.map fun i => vs.getD i Value.none
theorem zon {vs : List Value} (h : ¬ vs.length >= 2) : outOf vs (List.range vs.length).toArray = vs := by
 unfold outOf
 match vs with
 | [] => rfl
 | [v] => rfl
 | _ :: _ :: _ => simp at h
theorem zzy (vs : List Value) : (vs.toArray.zip vs.toArray).map (·.2) = vs.toArray := by
 apply Array.toList_inj.mp
 rw [Array.toList_map, Array.toList_zip]
 exact List.map_snd_zip (Nat.le_refl _)
theorem zsl {a : Addr} {vs : List Value} {n : Nat} {lt : Nat -> Nat -> Bool} {P : PySem.Fin -> Shared -> Prop} (ho : s.heap.get? a = some (seqObj "list" vs.toArray n)) (o : Ord lt) (h64 : vs.length < 64)
  (ask : 2 <= vs.length -> ∀ h', (∀ b u, b ≠ a -> s.heap.get? b = some u -> h'.get? b = some u) -> ∃ κ : SortKind, (∀ (E : Value -> Shared -> Prop) (Q : SortKind -> Shared -> Prop), Q κ { s with heap := h' } -> wpAny (model prog w) A (keyKind' vs.toArray) Q E { s with heap := h' }) /\
   ∀ (i j : Nat) (C : Bool -> Shared -> Prop), i < vs.length -> j < vs.length -> C (lt i j) { s with heap := h' } -> wpAny (model prog w) A (keyLt' κ (vs.getD i Value.none) (vs.getD j Value.none)) C (fun _ _ => False) { s with heap := h' })
  (q : ∀ p, PB vs.length p -> Up lt p vs.length -> P (.done (.ret .none)) { s with heap := sortedHeap s.heap a vs (outOf vs p).toArray }) : wpAny (model prog w) A (Builtin.«list.sort» ⟨[.ref a], []⟩) P E s := by
 rw [list_sort_plain]
 have la : a < s.heap.objs.size := Heap.lt_size ho
 have zs : vs.length <= sizeLine := by rw [sizeLine_eq]; lia
 refine wpAny_bind (listItems_at ho rfl (wpAny_bind (listUpdate_at ho rfl ?_ (by rw [List.size_toArray]; exact zs) (Nat.zero_le _))))
 obtain ⟨e1, o1⟩ : ∃ e1, (s.heap.update a (Obj.mapSeq fun _ => (#[] : Array Value))).get? a = some (seqObj "list" #[] e1) := ⟨_, get?_update_seq ho fun _ => #[]⟩
 refine wpAny_bind (seqEpoch_at o1 rfl (wpAny_bind (wpAny_newTuple (wpAny_bind (wpAny_newList (wpAny_holding ?_) (Nat.zero_le _))) (by show vs.length <= _; exact zs))))
 have sb := Heap.SameBut.update s.heap a (Obj.mapSeq fun _ => (#[] : Array Value))
 have keep : ∀ b u, b ≠ a -> s.heap.get? b = some u -> (((s.heap.update a (Obj.mapSeq fun _ => #[])).push (seqObj "tuple" vs.toArray 0)).push (seqObj "list" #[] 0)).get? b = some u := fun b u hb z =>
  Heap.get?_push_of_some _ (Heap.get?_push_of_some _ ((sb.2 b hb).trans z))
 have o6 : (((s.heap.update a (Obj.mapSeq fun _ => #[])).push (seqObj "tuple" vs.toArray 0)).push (seqObj "list" #[] 0)).get? a = some (seqObj "list" #[] e1) := Heap.get?_push_of_some _ (Heap.get?_push_of_some _ o1)
 show wpAny (model prog w) A _ P E { s with heap := ((s.heap.update a (Obj.mapSeq fun _ => (#[] : Array Value))).push (seqObj "tuple" vs.toArray 0)).push (seqObj "list" #[] 0) }
 dsimp only
 have fin : ∀ (st : SortSt) (out : List Value), (arrOf st).map (·.2) = out.toArray -> out.length = vs.length -> failedOf st = none -> P (.done (.ret .none)) { s with heap := sortedHeap s.heap a vs out.toArray } ->
   wpAny (model prog w) A (do
    let touched := (<- seqEpoch a) != e1
    Builtin.List.listUpdate (.ref a) fun _ => (arrOf st).map (·.2)
    if let some e := failedOf st then rule "list.sort.comparison-raised"; throw e
    if touched then rule "list.sort.modified"; raiseError "ValueError" "list modified during sort"
    ret .none) P E { s with heap := ((s.heap.update a (Obj.mapSeq fun _ => (#[] : Array Value))).push (seqObj "tuple" vs.toArray 0)).push (seqObj "list" #[] 0) } := by
  intro st out eo el ef qq
  refine wpAny_bind (seqEpoch_at o6 rfl ?_)
  rw [eo]
  refine wpAny_bind (listUpdate_at o6 rfl ?_ (Nat.zero_le _) (by show out.toArray.size <= _; rw [List.size_toArray, el, sizeLine_eq]; lia))
  rw [ef]
  simp only [bne_self_eq_false, Bool.false_eq_true, if_false]
  exact wpAny_pure qq
 by_cases two : vs.length >= 2
 ·have hn2 : ¬ vs.toArray.size < 2 := by rw [List.size_toArray]; lia
  rw [if_neg hn2, if_neg hn2]
  obtain ⟨κ, kk, cc⟩ := ask two _ keep
  obtain ⟨p, ran, pb, up⟩ := zxc (N := vs.length) o (by lia)
  refine wpAny_bind (kk _ _ ?_)
  refine wpAny_bind (wpAny_mono (kat_run (E := E) (Q := fun st' s' => s' = { s with heap := ((s.heap.update a (Obj.mapSeq fun _ => (#[] : Array Value))).push (seqObj "tuple" vs.toArray 0)).push (seqObj "list" #[] 0) } /\ arrOf st' = p.map (kas_item (vs.toArray.zip vs.toArray)) /\ failedOf st' = none)
   (G := fun p' s' => p' = p /\ s' = { s with heap := ((s.heap.update a (Obj.mapSeq fun _ => (#[] : Array Value))).push (seqObj "tuple" vs.toArray 0)).push (seqObj "list" #[] 0) }) rfl two h64 (fun p' st' s' a1 a2 a3 a4 => ⟨a4.2, by rw [a2, a4.1], a3⟩) (ran.wp (fun i j C hi hj hC => cc i j C hi hj hC) ⟨rfl, rfl⟩)) ?_ fun _ _ x => x)
  rintro ⟨⟨⟩, st'⟩ s' ⟨rfl, ea, ef⟩
  exact fin st' (outOf vs p) (kat_snds rfl ea) (by unfold outOf; rw [List.length_map, Array.length_toList, pb.size]) ef (q p pb up)
 ·have hn2 : vs.toArray.size < 2 := by rw [List.size_toArray]; lia
  rw [if_pos hn2, if_pos hn2]
  refine wpAny_bind (wpAny_pure ?_)
  rw [StateT.run_pure]
  refine wpAny_bind (wpAny_pure ?_)
  refine fin (SortSt.mk' general' (vs.toArray.zip vs.toArray) #[] 7 none) (outOf vs (List.range vs.length).toArray) ?_ (by rw [zon two]) rfl (q _ ⟨Array.Perm.refl _⟩ ?_)
  ·rw [zon two]; exact zzy vs
  ·intro i j hij hj
   have : i = j := by lia
   subst this; exact o.rf _
theorem zqv {l : Addr} {vs : List Value} {lt : Nat -> Nat -> Bool} {Q : Value -> Shared -> Prop} (hl : s.heap.IsList l vs.toArray) (o : Ord lt) (h64 : vs.length < 64) (ask : Asks prog w s lt vs)
  (q : ∀ p, PB vs.length p -> Up lt p vs.length -> Q (.ref (s.heap.objs.size + 1)) { s with heap := sortedAll s.heap vs (outOf vs p).toArray }) : wpAny (model prog w) A (call (.builtin "sorted") [.ref l]) Q E s := by
 refine Calls.call_function_entry kind_sorted plain_sorted entry_sorted (args_sorted1 _) ?_
 unfold Builtin.«sorted»
 refine wpAny_bind (m := checkCount "sorted" 1 1 _) (wpAny_pure (wpAny_bind (collect_list hl (wpAny_bind (wpAny_newList ?_ (by rw [sizeLine_eq]; lia))) (by rw [sizeLine_eq]; lia))))
 have z1 : ((s.heap.push (seqObj "list" #[] 0)).update s.heap.objs.size (Obj.mapSeq (· ++ vs.toArray))).objs.size = s.heap.objs.size + 1 := by rw [Heap.size_update, size_push']
 have oL : (((s.heap.push (seqObj "list" #[] 0)).update s.heap.objs.size (Obj.mapSeq (· ++ vs.toArray))).push (seqObj "list" vs.toArray 0)).get? (s.heap.objs.size + 1) = some (seqObj "list" vs.toArray 0) := by
  rw [<- z1]; exact Heap.get?_push_size _ rfl
 have keep : ∀ b u, s.heap.get? b = some u -> (((s.heap.push (seqObj "list" #[] 0)).update s.heap.objs.size (Obj.mapSeq (· ++ vs.toArray))).push (seqObj "list" vs.toArray 0)).get? b = some u := fun b u z => by
  have lb : b < s.heap.objs.size := Heap.lt_size z
  exact Heap.get?_push_of_some _ (by rw [Heap.get?_update_ne _ _ _ _ (Nat.ne_of_lt lb)]; exact Heap.get?_push_of_some _ z)
 show wpAny _ _ _ _ _ { s with heap := ((s.heap.push (seqObj "list" #[] 0)).update s.heap.objs.size (Obj.mapSeq (· ++ vs.toArray))).push (seqObj "list" vs.toArray 0) }
 rw [z1]
 refine wpAny_bind (wpAny_holding (wpAny_call_entry slot_list_sort ⟨_, oL, rfl⟩ entry_list_sort (zsl oL o h64 (fun two h' k => ask _ h' (fun b u z => k b u (fun e => ?_) (keep b u z)) two) fun p pb up => ⟨_, rfl, ?_⟩) (args_list_sort _)))
 ·exact absurd (Heap.lt_size z) (by rw [e]; exact Nat.not_lt.mpr (Nat.le_succ _))
 ·exact wpAny_pure ⟨_, rfl, q p pb up⟩
end
end L2
namespace L2
open PySem PySem.W PyProof.Rows
theorem zzk : ∀ (a b : List Int), HT.lexLt a b = true -> HT.lexLt b a = false
 | [], [], h => by cases h
 | [], _ :: _, _ => rfl
 | _ :: _, [], h => by cases h
 | x :: xs, y :: ys, h => by
  rw [HT.lexLt_cons] at h ⊢
  by_cases e : x = y
  ·rw [if_pos e] at h; rw [if_pos e.symm]; exact zzk xs ys h
  ·rw [if_neg e] at h; rw [if_neg (Ne.symm e)]
   have := of_decide_eq_true h
   exact decide_eq_false (by lia)
theorem zzj : ∀ (a b c : List Int), HT.lexLt b a = false -> HT.lexLt c b = false -> HT.lexLt c a = false
 | [], [], c, _, h => h
 | [], _ :: _, [], _, h => by cases h
 | [], _ :: _, _ :: _, _, _ => rfl
 | _ :: _, [], _, h, _ => by cases h
 | x :: xs, y :: ys, [], _, h => by cases h
 | x :: xs, y :: ys, z :: zs, h1, h2 => by
  rw [HT.lexLt_cons] at h1 h2 ⊢
  by_cases e1 : y = x
  ·rw [if_pos e1] at h1
   by_cases e2 : z = y
   ·rw [if_pos e2] at h2
    rw [if_pos (e2.trans e1)]
    exact zzj xs ys zs h1 h2
   ·rw [if_neg e2] at h2
    rw [if_neg (fun q => e2 (q.trans e1.symm))]
    have := of_decide_eq_false h2
    exact decide_eq_false (by lia)
  ·rw [if_neg e1] at h1
   have g1 := of_decide_eq_false h1
   by_cases e2 : z = y
   ·rw [if_neg (fun q => e1 (e2.symm.trans q))]
    exact decide_eq_false (by lia)
   ·rw [if_neg e2] at h2
    have g2 := of_decide_eq_false h2
    rw [if_neg (by lia)]
    exact decide_eq_false (by lia)
theorem zBk (kss : List (List Int)) : Ord fun i j => HT.lexLt (kss.getD i []) (kss.getD j []) := ⟨fun _ _ h => zzk _ _ h, fun _ _ _ h1 h2 => zzj _ _ _ h1 h2⟩
def lexZ (fin : Bool) : List Int -> List Int -> Bool
 | x :: xs, y :: ys => if x = y then lexZ fin xs ys else decide (x < y)
 | _, _ => fin
theorem zug : ∀ (a b : List Int), lexZ (decide (a.length < b.length)) a b = HT.lexLt a b
 | [], [] => rfl
 | [], _ :: _ => by show decide _ = true; simp
 | _ :: _, [] => by show decide _ = false; simp
 | x :: xs, y :: ys => by
  rw [HT.lexLt_cons]
  show (if x = y then lexZ _ xs ys else decide (x < y)) = _
  have : decide ((x :: xs).length < (y :: ys).length) = decide (xs.length < ys.length) := by simp
  rw [this, zug xs ys]
section
variable {prog : Program} {w : World} {A : Around} {E : Value -> Shared -> Prop} {s : Shared}
theorem zqb {fin : Bool} {Q : Bool -> Shared -> Prop} : ∀ {us : List Value} {ks : List Int} {ws : List Value} {ms : List Int} (i : Nat), IntsAre us ks -> IntsAre ws ms -> Q (lexZ fin ks ms) s -> KatLex prog w A true fin Q (us.zip ws) i s
 | _, _, _, _, _, .nil, _, q => kat_nil q
 | _, _, _, _, _, .cons _ _ _, .nil, q => kat_nil q
 | _, _, _, _, i, .cons (vs := us) (ns := ks) x t h1, .cons (vs := ws) (ns := ms) y u h2, q => by
  refine kat_cons (wpAny_eqBool_int (kat_go (fun e => kat_yes (zqb (i + 1) h1 h2 ?_)) fun e => kat_no ?_))
  ·have : x = y := by simpa using e
   have z : lexZ fin (x :: ks) (y :: ms) = lexZ fin ks ms := by show (if x = y then _ else _) = _; rw [if_pos this]
   rw [z] at q; exact q
  ·have : ¬ x = y := by simpa using e
   have z : lexZ fin (x :: ks) (y :: ms) = decide (x < y) := by show (if x = y then _ else _) = _; rw [if_neg this]
   rw [z] at q
   cases h0 : (true && i == 0) with
   | true => exact oneLt_int q
   | false => exact kat_one _ _ (lt_int q)
def TupI (h : Heap) (v : Value) (ks : List Int) : Prop := ∃ a o xs n, v = .ref a /\ h.get? a = some o /\ o.cls = .type "tuple" /\ o.data = .seq xs n /\ IntsAre xs.toList ks
theorem TupI.kept {h h' : Heap} {v : Value} {ks : List Int} (x : TupI h v ks) (k : ∀ b u, h.get? b = some u -> h'.get? b = some u) : TupI h' v ks := let ⟨a, o, xs, n, e, g, r⟩ := x; ⟨a, o, xs, n, e, k _ _ g, r⟩
theorem zrf {us : List Value} {x : Int} {ks : List Int} (h : IntsAre us (x :: ks)) : ∃ t, us[0]? = some (.int x t) := by
 cases h with
 | cons _ t _ => exact ⟨t, rfl⟩
theorem zhb {h : Heap} : ∀ {vs : List Value} {kss : List (List Int)}, Paired (TupI h) vs kss -> (∀ ks ∈ kss, ks ≠ []) -> ∃ fs, KatTups h vs fs /\ fs.length = vs.length /\ ∀ f ∈ fs, ∃ x t, f = .int x t
 | _, _, .nil, _ => ⟨[], .nil, rfl, fun f hf => nomatch hf⟩
 | _, _, .cons (b := ks) r t, hne => by
  obtain ⟨fs, k, l, a⟩ := zhb t fun ks hk => hne ks (List.mem_cons_of_mem _ hk)
  obtain ⟨ad, o, xs, n, rfl, g, hc, hd, hi⟩ := r
  cases ks with
  | nil => exact absurd rfl (hne _ (List.mem_cons_self ..))
  | cons x ks =>
   obtain ⟨tk, e⟩ := zrf hi
   refine ⟨.int x tk :: fs, .cons g hc hd (by rw [Array.getElem?_toList] at e; exact e) k, by simp [l], fun f hf => ?_⟩
   rcases List.mem_cons.mp hf with rfl | hf
   ·exact ⟨x, tk, rfl⟩
   ·exact a f hf
theorem zwf {vs : List Value} {kss : List (List Int)} (h : Paired (TupI s.heap) vs kss) (hne : ∀ ks ∈ kss, ks ≠ []) : Asks prog w s (fun i j => HT.lexLt (kss.getD i []) (kss.getD j [])) vs := by
 intro A h' keep two
 have h2 : Paired (TupI h') vs kss := Paired.mapP h fun _ _ x => x.kept keep
 refine ⟨tuples' true, fun E Q q => ?_, fun i j C hi hj q => ?_⟩
 ·obtain ⟨fs, k, l, a⟩ := zhb h2 hne
  have e : (Value.type "int" != Value.type "tuple") = true := by decide
  refine kat_kind (T := .type "int") k (by lia) (fun f hf => ?_) (by decide) (by rw [e]; exact q)
  obtain ⟨x, t, rfl⟩ := a f hf
  exact .now
 ·have gi : ∀ i, i < vs.length -> ∃ v ks, vs.getD i Value.none = v /\ kss.getD i [] = ks /\ TupI h' v ks := fun i hi => by
   obtain ⟨ks, e, r⟩ := Paired.at h2 (i := i) (a := vs[i]) (by simp [hi])
   exact ⟨vs[i], ks, by simp [hi], by rw [List.getD_eq_getElem?_getD, e]; rfl, r⟩
  obtain ⟨v, ks, ev, ek, a, o, xs, n, rfl, g, _, hd, hI⟩ := gi i hi
  obtain ⟨u, ms, eu, em, b, o2, ys, n2, rfl, g2, _, hd2, hI2⟩ := gi j hj
  rw [ev, eu]
  refine kat_lt (s := { s with heap := h' }) g hd g2 hd2 (zqb 0 hI hI2 ?_)
  have l1 : xs.size = ks.length := by have := hI.length; simpa using this
  have l2 : ys.size = ms.length := by have := hI2.length; simpa using this
  rw [l1, l2, zug]
  have q' : C (HT.lexLt (kss.getD i []) (kss.getD j [])) { s with heap := h' } := q
  rw [ek, em] at q'
  exact q'
end
def zgj (H : Hp) (v : V) (ks : List Int) : Prop := ∃ a, v = .ref a /\ H a = some (.tup (ks.map V.int))
def LexLe (a b : List Int) : Prop := HT.lexLt b a = false
section
variable {X : Cx}
def zxd (K : PySem.W.Frag) : List V -> Hp -> VK -> Prop := fun xs H Q => ∃ (p : Addr) (rs : List V) (kss : List (List Int)), xs = [.ref p] /\ SqL K H p rs /\ rs.length < 64 /\ Paired (zgj H) rs kss /\ (∀ ks ∈ kss, ks ≠ []) /\
 ∀ (l : Addr) (rs' : List V) (kss' : List (List Int)), Paired (zgj H) rs' kss' -> kss'.Perm kss -> kss'.Pairwise LexLe -> H l = none -> Q (.ref l) (upd H l (.lst rs'))
theorem zei {α β γ : Type} {F : α -> β -> Prop} {f : γ -> α} {g : γ -> β} : ∀ {l : List γ}, (∀ c ∈ l, F (f c) (g c)) -> Paired F (l.map f) (l.map g)
 | [], _ => .nil
 | c :: l, h => .cons (h c (List.mem_cons_self ..)) (zei fun d hd => h d (List.mem_cons_of_mem _ hd))
theorem zfu {α : Type} (l : List α) (d : α) : (List.range l.length).map (fun i => l.getD i d) = l := by
 apply List.ext_getElem
 ·simp
 ·intro i h1 h2
  simp at h1
  simp [h1]
theorem PB.list {N : Nat} {p : Array Nat} (h : PB N p) : p.toList.Perm (List.range N) := by
 have := Array.perm_iff_toList_perm.mp h.perm
 simpa using this
theorem zgh : CallR X (.builtin "sorted") (zxd X.K) := by
 intro pins s σ H xs us Q I r h
 obtain ⟨p, rs, kss, rfl, hp, hn, hk, hne, q⟩ := h
 obtain ⟨u, rfl, ru⟩ := Vals.one r
 cases (show u = Value.ref p from ru)
 obtain ⟨its, r1, t1, _⟩ := I.list hp
 have hl : its.length = rs.length := r1.length.symm
 have kl : rs.length = kss.length := Paired.length hk
 have tup : ∀ i, i < rs.length -> ∃ a ks, rs.getD i .non = .ref a /\ kss.getD i [] = ks /\ its.getD i Value.none = .ref a /\ H a = some (.tup (ks.map V.int)) := fun i hi => by
  obtain ⟨ks, e, a, ea, ha⟩ := Paired.at hk (i := i) (a := rs[i]) (by simp [hi])
  obtain ⟨v, ev, rv⟩ := r1.get (i := i) (x := rs[i]) (by simp [hi])
  rw [ea] at rv
  refine ⟨a, ks, by simp [hi, ea], by rw [List.getD_eq_getElem?_getD, e]; rfl, ?_, ha⟩
  rw [List.getD_eq_getElem?_getD, ev]
  exact rv
 have tups : Paired (TupI s.heap) its kss := by
  have e1 := zfu its Value.none
  have e2 := zfu kss []
  rw [hl] at e1
  rw [<- kl] at e2
  rw [<- e1, <- e2]
  refine zei fun i hi => ?_
  obtain ⟨a, ks, _, e4, e5, e6⟩ := tup i (List.mem_range.mp hi)
  obtain ⟨_, us, ru, o, g, hc, n, hd⟩ := I.hok a _ e6
  rw [e4, e5]
  exact ⟨a, o, us.toArray, n, rfl, g, hc, hd, by simpa using zrg ru⟩
 refine zqv t1.isList (zBk kss) (by lia) (zwf tups hne) fun pm pb up => ?_
 obtain ⟨e, he⟩ := sortedAll_at s.heap its (outOf its pm).toArray
 have fr : s.heap.objs.size <= s.heap.objs.size + 1 := Nat.le_succ _
 have pl : ∀ i ∈ pm.toList, i < rs.length := fun i hi => by
  have := pb.list.mem_iff.mp hi
  rw [List.mem_range, hl] at this
  exact this
 have ls : pm.toList.length = rs.length := by rw [Array.length_toList, pb.size, hl]
 refine ⟨.ref (s.heap.objs.size + 1), upd H (s.heap.objs.size + 1) (.lst (pm.toList.map fun i => rs.getD i .non)), I.laid (t' := s.toks) (fun b o z => sortedAll_old z) fr ?_, rfl,
  q _ _ (pm.toList.map fun i => kss.getD i []) (zei fun i hi => ?_) ?_ ?_ (I.hok.fresh fr)⟩
 ·refine ⟨?_, outOf its pm, e, zei fun i hi => ?_, he⟩
  ·rw [List.length_map, ls, sizeLine_eq]; lia
  ·obtain ⟨a, ks, e3, e4, e5, e6⟩ := tup i (pl i hi)
   rw [e3, e5]
   exact rfl
 ·obtain ⟨a, ks, e3, e4, e5, e6⟩ := tup i (pl i hi)
  rw [e3, e4]
  exact ⟨a, rfl, e6⟩
 ·have := pb.list.map fun i => kss.getD i []
  rw [hl, kl, zfu] at this
  exact this
 ·rw [List.pairwise_iff_getElem]
  intro i j hi hj hij
  rw [List.length_map] at hi hj
  have := up i j (by lia) (by rw [hl]; lia)
  simp only [List.getElem_map, Array.getElem_toList]
  have gi : pm.getD i 0 = pm[i] := by simp [Array.getD, show i < pm.size by rw [<- Array.length_toList]; exact hi]
  have gj : pm.getD j 0 = pm[j] := by simp [Array.getD, show j < pm.size by rw [<- Array.length_toList]; exact hj]
  rw [gi, gj] at this
  exact this
end
end L2
namespace L2
open PySem PySem.Spec PyProof.Rows
theorem zcq {k : Kd} {K : PySem.W.Frag} {a : Addr} {xs : List V} {g : TG} {tb : TS} {D : Ends} {σ : St} {H : Hp} (Pv : Nat -> St -> Hp -> Prop) (h0 : Pv 0 σ H) (hl : ∀ i σ H, i <= xs.length -> Pv i σ H -> SqK k K H a xs)
  (hs : ∀ i x σ H, xs[i]? = some x -> Pv i σ H -> g x σ H fun σ2 H2 => tb { D with nx := Pv (i + 1), ct := Pv (i + 1), bk := D.nx } σ2 H2) (hd : ∀ σ H, Pv xs.length σ H -> D.nx σ H) :
  ∃ W : Nat -> Nat -> St -> Hp -> Prop, (∃ m, W 0 m σ H) /\ ∀ i m σ H, W i m σ H ->
   ((ItK k K a).stop i H /\ D.nx σ H) \/ ((ItK k K a).go i H /\ ∃ N : St -> Hp -> Prop, (∀ σ' H', N σ' H' -> ∃ m', m' < m /\ W (i + 1) m' σ' H') /\ ∀ x H', (ItK k K a).yld i H x H' -> g x σ H' fun σ2 H2 => tb { D with nx := N, ct := N, bk := D.nx } σ2 H2) := by
 cases k with
 | l => exact zqe Pv h0 hl hs hd
 | t => exact zBt Pv h0 hl hs hd
section
variable {X : Cx}
theorem zhn : OpR X (binaryOp .Mult) (rI IntMulOk fun i j => .int (i * j)) := opI fun _ _ _ _ _ _ _ hc q => mul_int q hc
theorem zll (ns : List Int) : ∀ j, j <= ns.length -> preSum (fun i => ns.getD i 0) j = (ns.take j).sum
 | 0, _ => rfl
 | j + 1, h => by
  have e : ns[j]? = some ns[j] := by simp [show j < ns.length by lia]
  show preSum _ j + ns.getD j 0 = _
  rw [zll ns j (by lia), zai e, List.sum_append]
  simp [show j < ns.length by lia]
theorem zvv (hc : X.calm = true) : CallR X (.builtin "sum") (fun xs H Q => ∃ (p : Addr) (ns : List Int), xs = [.ref p] /\ SqL X.K H p (ns.map V.int) /\ Q (.int ns.sum) H) := by
 intro pins s σ H xs us Q I r h
 obtain ⟨p, ns, rfl, hp, q⟩ := h
 obtain ⟨u, rfl, ru⟩ := Vals.one r
 cases (show u = Value.ref p from ru)
 obtain ⟨its, r1, t1, _⟩ := I.list hp
 have hh : X.A.in1.handled = none := I.ok.hd hc
 have hlt : p < s.heap.objs.size := by obtain ⟨_, e, _⟩ := t1.isList; exact Heap.lt_size e
 have il : its.length = ns.length := by have := r1.length; rw [List.length_map] at this; lia
 refine call_sum_walkG (wpAny_pyIter_list t1.isList ⟨_, _, _, _, _, _, fun i => ns.getD i 0, rfl, Walks.list hh _ p (Nat.ne_of_lt hlt) its.toArray, ⟨⟨_, Heap.get?_push_size _ rfl, rfl, rfl⟩, t1.isList.push _⟩, ?_, ?_, ?_⟩)
 ·intro c hc
  show c < (s.heap.push _).objs.size
  rw [Heap.size_push]
  rcases List.mem_cons.mp hc with rfl | hc
  ·exact Nat.lt_succ_self _
  ·rw [List.mem_singleton.mp hc]; exact Nat.lt_succ_of_lt hlt
 ·intro i v e
  have e' : its[i]? = some v := by simpa using e
  have hl : i < its.length := (List.getElem?_eq_some_iff.mp e').1
  have hb : i < ns.length := by lia
  obtain ⟨u, e1, t, e2⟩ := r1.get (i := i) (x := V.int ns[i]) (by simp [hb])
  rw [e1] at e'
  cases e'
  exact ⟨t, by rw [e2]; simp [List.getD, hb]⟩
 ·intro h' tk t' hk
  have e : preSum (fun i => ns.getD i 0) its.toArray.size = ns.sum := by
   rw [List.size_toArray, il, zll ns _ (Nat.le_refl _), List.take_length]
  exact ⟨.int ns.sum, H, I.kept (zlx hk), ⟨t', by rw [e]⟩, q⟩
end
section
open PySem.SeqAt
open PySem.AutoSeq1 (wpAny_loadPart')
open PySem.MeetsSeq PySem.MeetsSeq2 PySem.MeetsSeq3
end
section
variable {X : Cx}
end
section
variable {prog : Program} {w : World} {A : Around} {E : Value -> Shared -> Prop} {s : Shared} {it l : Addr} {its : Array Value}
end
section
variable {X : Cx}
theorem zig : bootBuiltins "reversed" = some (.type "reversed") := by first | rfl | decide +kernel
end
section
variable {prog : Program} {w : World} {A : Around} {E : Value -> Shared -> Prop} {s : Shared} {a : Addr} {led : Bool} {ns : List Int}
end
section
variable {prog : Program} {w : World} {A : Around} {R : Result -> Shared -> Prop} {I : Addr} {fp wr : List Addr} {G : Array GenState -> Array GenState -> Prop} {n : Nat} {P : Nat -> Value -> Prop} {St : Nat -> Shared -> Prop}
end
section
variable {prog : Program} {w : World} {A : Around} {E : Value -> Shared -> Prop} {s : Shared}
set_option maxHeartbeats 8000000 in
end
section
variable {prog : Program} {w : World} {A : Around} {E : Value -> Shared -> Prop} {s : Shared} {it a : Addr} {o : Obj} {es : Array (Int × Value)} {ep i : Nat} {t : SetTable} {slot : Nat}
end
section
variable {prog : Program} {w : World} {A : Around} {E : Value -> Shared -> Prop} {s : Shared} {it a : Addr} {o : Obj} {es : Array (Int × Value)} {ep i : Nat} {t : SetTable} {slot : Nat}
end
section
variable {prog : Program} {w : World} {A : Around} {E : Value -> Shared -> Prop} {s : Shared} {a : Addr} {o : Obj} {es : Array (Int × Value)} {ep : Nat} {t : SetTable}
end
section
variable {prog : Program} {w : World} {A : Around} {E : Value -> Shared -> Prop} {s : Shared} {a : Addr}
end
section
variable {X : Cx}
end
section
variable {prog : Program} {w : World} {A : Around} {E : Value -> Shared -> Prop} {s : Shared}
end
section
variable {X : Cx}
end
def ItRv (K : PySem.W.Frag) (a : Addr) (n : Nat) : It :=
 ⟨fun i H => ∃ xs, SqL K H a xs /\ xs.length = n /\ i < n, fun i H x H' => H' = H /\ ∀ xs, SqL K H a xs -> xs[n - 1 - i]? = some x, fun i H => ∃ xs, SqL K H a xs /\ xs.length = n /\ i = n⟩
theorem zwr {P : Program} {w : World} {K : PySem.W.Frag} {tg : Expr} (a it : Addr) (n : Nat) : Turn P w K tg (ItRv K a n) [it] it (fun i h => h.IsRevIter it a ((n : Int) - 1 - (i : Int))) where
 mem := by simp
 obj := fun i h st b hb => by
  have e : b = it := by simpa using hb
  subst e
  obtain ⟨o, e, c, d⟩ := st
  exact ⟨o, e, fun v z => by rw [d] at z; cases z⟩
 keep := fun i h h' st k => st.at fun o e => k it (by simp) o e
 item := by
  intro X hP hw hK hc i pins s σ H E I hf st hg
  subst hP hw hK
  obtain ⟨xs, hq, hn, hi⟩ := hg
  obtain ⟨its, rv, p, hz⟩ := I.list hq
  obtain ⟨x, hx⟩ : ∃ x, xs[n - 1 - i]? = some x := ⟨xs[n - 1 - i]'(by omega), List.getElem?_eq_getElem _⟩
  obtain ⟨u, hu, ru⟩ := rv.get hx
  obtain ⟨f0, f1, f2, f3, f4, f5⟩ := hf it (by simp)
  have e : (n : Int) - 1 - (i : Int) = ((n - 1 - i : Nat) : Int) := by omega
  rw [e] at st
  refine wpAny_pyNext_rev_item st p.isList (x := u) (by simpa using hu) fun h' st' sb => ?_
  have e2 : ((n - 1 - i : Nat) : Int) - 1 = (n : Int) - 1 - ((i + 1 : Nat) : Int) := by omega
  rw [e2] at st'
  have I1 : Inv X pins σ H { s with heap := h' } := I.turned (t' := s.toks) (fun b o hb e => (sb.2 b hb).trans e) f0 f1 f3 f4 f5
  obtain ⟨o, e, c, d⟩ := id st'
  exact ⟨u, rfl, go_of (s := { s with heap := h' }) e c d (by decide) ⟨x, H, I1, ru, ⟨rfl, fun ys hy => by rw [I.list_inj hy hq]; exact hx⟩, st', fun b hb => (hf b hb).1⟩⟩
 done := by
  intro X hP hw hK hc i pins s σ H E I hf st hg
  subst hP hw hK
  obtain ⟨xs, hq, hn, hi⟩ := hg
  obtain ⟨f0, f1, f2, f3, f4, f5⟩ := hf it (by simp)
  have e : (n : Int) - 1 - (i : Int) = -1 := by omega
  rw [e] at st
  exact wpAny_pyNext_rev_end (I.ok.hd hc) st fun h' eb => ⟨rfl, I.turned (t' := s.toks) (fun b o hb e => eb b o hb e) f0 f1 f3 f4 f5⟩
 self := fun _ _ _ _ _ st h => wpAny_pyIter_revIter st h
def iRev (K : PySem.W.Frag) (tl : TE) : TI := fun σ H R => tl σ H fun x H1 => ∃ a xs, x = .ref a /\ SqL K H1 a xs /\ R (ItRv K a xs.length) H1
theorem zDv {X : Cx} {tg l : Expr} {tl : TE} {p2 pos2 : Pos} (hgr : Gl X "reversed") (hmr : X.mg "reversed" = none) (hl : PE X l tl) (hs : starEach [l] X.env = [(false, eval l X.env)] := by rfl) :
  PI X tg (.Call (.Name "reversed" p2) [l] [] pos2) (iRev X.K tl) := by
 intro pins s σ H R I h
 refine Call_ (zge I hgr hmr zig (PyProof.Rows.callWith_type1 ?_ hs rfl))
 rw [hs]
 refine Calls.spliced_cons (thn (hl pins s σ H _ I h) fun u s1 ⟨x, H1, I1, r1, a, ys, ex, hq, q⟩ => Calls.spliced_nil ?_)
 subst ex
 cases (show u = Value.ref a from r1)
 obtain ⟨its, rv, t1, _⟩ := I1.list hq
 have il : its.toArray.size = ys.length := by rw [List.size_toArray]; exact rv.length.symm
 refine call_reversed_list t1.isList ?_
 rw [il]
 have I2 : Inv X pins σ H1 { s1 with heap := s1.heap.push (revObj a ((ys.length : Int) - 1)) } := I1.kept (t' := s1.toks) fun b o e => Heap.get?_push_of_some _ e
 have gi : (s1.heap.push (revObj a ((ys.length : Int) - 1))).IsRevIter s1.heap.objs.size a ((ys.length : Int) - 1) := ⟨_, Heap.get?_push_size _ rfl, rfl, rfl⟩
 refine wpAny_pyIter_revIter (s := { s1 with heap := s1.heap.push (revObj a ((ys.length : Int) - 1)) }) gi ?_
 refine ⟨s1.heap.objs.size, [s1.heap.objs.size], _, _, H1, rfl, I2, zwr a _ ys.length, ?_, fun b hb => ?_, q⟩
 ·show Heap.IsRevIter _ _ _ ((ys.length : Int) - 1 - ((0 : Nat) : Int))
  rw [show (ys.length : Int) - 1 - ((0 : Nat) : Int) = (ys.length : Int) - 1 by omega]
  exact gi
 ·have e : b = s1.heap.objs.size := by simpa using hb
  subst e
  exact I1.fpOk (Nat.le_refl _) (I1.hok.fresh (Nat.le_refl _))
end L2
namespace L2
open PySem PySem.W PyProof.Rows
section
variable {prog : Program} {w : World} {A : Around} {E : Value -> Shared -> Prop} {s : Shared} {κ : SortKind} {it : Array Keyed} {lt : Nat -> Nat -> Bool} {N : Nat}
end
end L2
namespace L2
open PySem PySem.W PyProof.Rows
section
variable {lt : Nat -> Nat -> Bool}
end
section
variable {prog : Program} {w : World} {A : Around} {E : Value -> Shared -> Prop} {s : Shared} {κ : SortKind} {it : Array Keyed} {lt : Nat -> Nat -> Bool} {N : Nat}
end
end L2
namespace L2
open PySem PySem.W PyProof.Rows
section
variable {prog : Program} {w : World} {A : Around} {E : Value -> Shared -> Prop} {s : Shared} {κ : SortKind} {it : Array Keyed} {lt : Nat -> Nat -> Bool} {N : Nat}
end
end L2
namespace L2
open PySem PySem.W PyProof.Rows
section
variable {prog : Program} {w : World} {A : Around} {E : Value -> Shared -> Prop} {s : Shared} {κ : SortKind} {it : Array Keyed} {lt : Nat -> Nat -> Bool} {N : Nat}
end
end L2
namespace L2
open PySem PySem.W PyProof.Rows
section
variable {prog : Program} {w : World} {A : Around} {E : Value -> Shared -> Prop} {s : Shared} {κ : SortKind} {it : Array Keyed} {lt : Nat -> Nat -> Bool} {N : Nat}
end
end L2
namespace L2
open PySem PySem.W PyProof.Rows
section
variable {prog : Program} {w : World} {A : Around} {E : Value -> Shared -> Prop} {s : Shared} {κ : SortKind} {it : Array Keyed} {lt : Nat -> Nat -> Bool} {N : Nat}
def UpF (lt : Nat -> Nat -> Bool) (p : Array Nat) (lo n : Nat) : Prop := ∀ i j, lo <= i -> i <= j -> j < lo + n -> lt (p.getD j 0) (p.getD i 0) = false
end
end L2
namespace L2
open PySem PySem.W PyProof.Rows
section
variable {prog : Program} {w : World} {A : Around} {E : Value -> Shared -> Prop} {s : Shared} {κ : SortKind} {it : Array Keyed} {lt : Nat -> Nat -> Bool} {N : Nat}
end
end L2
namespace L2
open PySem PySem.W PyProof.Rows
section
variable {prog : Program} {w : World} {A : Around} {E : Value -> Shared -> Prop} {s : Shared} {κ : SortKind} {it : Array Keyed} {lt : Nat -> Nat -> Bool} {N : Nat}
inductive Rn (lt : Nat -> Nat -> Bool) (p : Array Nat) : Nat -> List (Nat × Nat × Nat) -> Nat -> Prop
 | nil (a : Nat) : Rn lt p a [] a
 | cons {a n pw b : Nat} {ps : List (Nat × Nat × Nat)} (h0 : 0 < n) (u : UpF lt p a n) (t : Rn lt p (a + n) ps b) : Rn lt p a ((a, n, pw) :: ps) b
end
end L2
namespace L2
open PySem PySem.W PyProof.Rows
section
variable {prog : Program} {w : World} {A : Around} {E : Value -> Shared -> Prop} {s : Shared} {κ : SortKind} {it : Array Keyed} {lt : Nat -> Nat -> Bool} {N : Nat}
end
end L2
namespace L2
open PySem PySem.W PyProof.Rows
section
variable {prog : Program} {w : World} {A : Around} {E : Value -> Shared -> Prop} {s : Shared}
end
end L2
namespace L2
open PySem PySem.W PyProof.Rows
section
variable {X : Cx}
end
end L2
namespace L2
open PySem PySem.Spec PyProof.Rows
theorem sqT {K : PySem.W.Frag} {H H' : Hp} {a : Addr} {xs : List V} (e : Same H H') (h : SqT K H a xs) : SqT K H' a xs := e.seqK (k := .t) h
section
variable {X : Cx}
end
end L2
namespace L2
open PySem PySem.W PyProof.Rows
section
variable {X : Cx}
end
section
variable {prog : Program} {w : World} {A : Around}
end
section
variable {X : Cx}
end
end L2
namespace L2
open PySem PySem.Spec PyProof.Rows
section
variable {X : Cx}
end
end L2
namespace L2
open PySem PySem.W PyProof.Rows
section
variable {prog : Program} {w : World} {d : Addr} {es : Array DictEntry} {ep : Nat} {o : Obj}
end
section
variable {X : Cx}
end
end L2
namespace L2
open PySem PySem.Spec PyProof.Rows
section
variable {X : Cx}
end
end L2
namespace L2
open PySem PySem.Spec PyProof.Rows PySem.MeetsSeq
section
variable {X : Cx}
end
end L2
namespace L2
open PySem PySem.Spec PyProof.Rows PySem.MeetsSeq
def FzT (H : Hp) (a : Addr) (xs : List V) : Prop := ∃ o : Obj, o.cls = .type "tuple" /\ o.dict = none /\ H a = some (.frz o (.tup xs))
theorem FzT.sq {K : PySem.W.Frag} {H : Hp} {a : Addr} {xs : List V} (h : FzT H a xs) : SqT K H a xs := let ⟨o, _, _, e⟩ := h; .inl (.inr ⟨o, e⟩)
theorem FzT.new {H : Hp} {a : Addr} {xs : List V} {o : Obj} (c : o.cls = .type "tuple") (d : o.dict = none) : FzT (upd H a (.frz o (.tup xs))) a xs := ⟨o, c, d, zab⟩
section
variable {X : Cx}
variable {o e : Expr} {es : List Expr} {to : TE} {t : TA} {name : Str} {apos cpos : Pos} {id : String} {r : V -> List V -> Hp -> VK -> Prop}
theorem zia (hc : X.calm = true) : CallR X (.type "tuple") (fun xs H Q => ∃ (p : Addr) (n : Nat), xs = [.ref p] /\ H p = some (.rng 0 n) /\ n <= 1000 /\ ∀ l o, o.cls = .type "tuple" -> o.dict = none -> H l = none -> Q (.ref l) (upd H l (.frz o (.tup (upN n))))) := by
 intro pins s σ H xs us Q I r h
 obtain ⟨p, n, rfl, hp, hn, q⟩ := h
 obtain ⟨u, rfl, ru⟩ := Vals.one r
 cases (show u = Value.ref p from ru)
 obtain ⟨t1, t2, t3, e⟩ := I.hok p _ hp
 refine callType_new F.called_tuple (by decide) (F.typeCall_tuple_1 _) (F.newCall_tuple_1 _) (fun obj => F.args_object_init_2 obj _) F.entry_tuple_new
  (zdw p 0 n 1 t1 t2 t3 n (small_one (by decide) (by decide) (by lia) (by lia)) (size1 n) (by lia)) ⟨⟨I.ok.hd hc, e⟩, fun h' tk acc hk hz hacc => ⟨⟨_, Heap.get?_push_size _ rfl, rfl⟩, ?_⟩⟩
 have ge : s.heap.objs.size <= h'.objs.size := Nat.le_of_lt hz
 refine ⟨.ref h'.objs.size, upd H h'.objs.size (.frz { cls := .type "tuple", data := .seq acc } (.tup (upN n))), I.laid (fun b o e => Heap.get?_push_of_some _ (hk b o e)) ge ?_, rfl, q _ _ rfl rfl (I.hok.fresh ge)⟩
 refine ⟨Heap.get?_push_size _ rfl, by unfold upN; rw [List.length_map, List.length_range]; exact Nat.le_trans hn (by decide), acc.toList, zke hacc, _, Heap.get?_push_size _ rfl, rfl, 0, by simp⟩
end
end L2
namespace HT
open PySem PySem.Spec PyProof.Rows
section
variable {prog : Program} {w : World} {A : Around} {E : Value -> Shared -> Prop} {s : Shared}
end
end HT
namespace L2
open PySem PySem.Spec PyProof.Rows
section
variable {X : Cx}
end
end L2
namespace L2
open PySem PySem.Spec PyProof.Rows
section
open PySem.SeqAt
open PySem.AutoSeq1 (wpAny_loadPart')
open PySem.MeetsSeq PySem.MeetsSeq2 PySem.MeetsSeq3
end
end L2
namespace L2
open PySem PySem.W PyProof.Rows
section
variable {prog : Program} {w : World} {A : Around} {E : Value -> Shared -> Prop} {s : Shared}
end
section
variable {X : Cx}
end
end L2
namespace L2
open PySem PySem.Spec PyProof.Rows
section
variable {env : Env} {C : Addr} {names : List (Str × NameKind)} {x : Str} {d : Addr}
end
section
variable {X : Cx} {scope : Scope} {N' : List Str} {fr : List (Option Nat)} {pins : List (Addr × Obj)} {σ : St} {H : Hp} {s : Shared} {fp : List Addr}
end
section
variable {X : Cx} {scope : Scope} {N' : List Str} {fr : List (Option Nat)} {pins : List (Addr × Obj)} {σ : St} {H : Hp} {s : Shared} {fp : List Addr} {it : Addr} {tn : Nat -> Heap -> Prop} {J : It}
 {elt tg iter : Expr} {ifs : List Expr} {g : TG} {tt : TT} {te : TE} {pos : Pos} {fin : List V -> Hp -> Prop} {W : Nat -> Nat -> List V -> St -> Hp -> Prop} {RR : Value -> Addr -> Result -> Shared -> Prop} {E : Value -> Shared -> Prop}
end
end L2
namespace L2
open PySem PySem.Spec PyProof.Rows PySem.MeetsSeq PySem.AutoSeq1
theorem zBw (l b : Addr) (us ts : Array Value) (nu nt : Nat) (dd : Option Addr) (ss : Array (Option Value)) (h0 : ¬ (!us.isEmpty && Builtin.List.listTooLong (us.size + ts.size)) = true) (h1 : us.size <= sizeLine) (h2 : us.size + ts.size <= sizeLine + 1) :
  Meets (Builtin.«list.extend» ⟨[.ref l, .ref b], []⟩) fun _ R s => s.heap.get? l = some { cls := .type "list", data := .seq us nu } /\ s.heap.get? b = some ⟨.type "tuple", dd, .seq ts nt, ss⟩ /\ R (.ok (.ret .none)) { s with heap := s.heap.update l (Obj.mapSeq fun x => x ++ ts) } := by
 refine .of_wp fun prog w A R s h => ?_
 obtain ⟨hp, g, d, tk, os⟩ := s
 obtain ⟨hl, hb, h⟩ := h
 have e1 := AutoSeq1.sub_tuple_tuple
 have e2 := AutoSeq1.sub_list_list
 have e3 := AutoSeq1.sub_tuple_list
 have e4 := AutoSeq1.sub_list_tuple
 have hz : (us ++ ts).size <= sizeLine + 1 := by rw [Array.size_append]; exact h2
 wp_walk using (wpAny_updateSeq hl rfl (hz := h1) (_hz' := hz)), wpAny_loadPart' hl, wpAny_loadPart' hb
 exact ⟨_, rfl, h⟩
def zxe (K : PySem.W.Frag) : V -> List V -> Hp -> VK -> Prop := fun x vs H Q => ∃ l b xs zs, x = .ref l /\ vs = [.ref b] /\ H l = some (.lst xs) /\ SqT K H b zs /\ xs.length + zs.length <= sizeLine /\ Q .non (upd H l (.lst (xs ++ zs)))
theorem zqz {X : Cx} : MtM X "list.extend" (zxe X.K) := by
 intro pins s σ H x vs v us Q I rx rv h
 obtain ⟨l, b, xs, zs, rfl, rfl, hH, hB, hz, q⟩ := h
 cases rx
 obtain ⟨u, rfl, ru⟩ := rv.one
 cases ru
 obtain ⟨z, its, n, r, hl, e⟩ := I.lstM hH
 obtain ⟨ts, r2, ⟨⟨oc, od, oda, osl⟩, e2, c2, n2, d2⟩, z2⟩ := I.tuple hB
 cases c2
 cases d2
 have tl := r2.length
 have hsz : its.toArray.size + ts.toArray.size <= sizeLine := by rw [List.size_toArray, List.size_toArray]; omega
 have hlong : ¬ (!its.toArray.isEmpty && Builtin.List.listTooLong (its.toArray.size + ts.toArray.size)) = true := by
  rw [zka hsz, Bool.and_false]
  decide
 refine call_meets F.slot_list_extend ⟨_, e, rfl⟩ F.entry_list_extend (F.args_list_extend_2 _ _) (zBw l b its.toArray ts.toArray n n2 od osl hlong (by rw [List.size_toArray]; omega) (by omega)) ⟨e, e2, ?_⟩
 refine ⟨.non, _, I.lset (its' := its ++ ts) hH e (by simp) (r.append r2) ?_, rfl, q⟩
 rw [List.length_append]
 omega
end L2
namespace L2
open PySem PySem.Spec PyProof.Rows
theorem zBu {K : PySem.W.Frag} {a : Addr} {xs : List V} {g : TG} {tb : TS} {D : Ends} {σ : St} {H : Hp} (Pv : Nat -> St -> Hp -> Prop) (h0 : Pv 0 σ H) (hl : ∀ i σ H, i <= xs.length -> Pv i σ H -> SqL K H a xs)
  (hs : ∀ i x σ H, xs.reverse[i]? = some x -> Pv i σ H -> g x σ H fun σ2 H2 => tb { D with nx := Pv (i + 1), ct := Pv (i + 1), bk := D.nx } σ2 H2) (hd : ∀ σ H, Pv xs.length σ H -> D.nx σ H) :
  ∃ W : Nat -> Nat -> St -> Hp -> Prop, (∃ m, W 0 m σ H) /\ ∀ i m σ H, W i m σ H ->
   ((ItRv K a xs.length).stop i H /\ D.nx σ H) \/ ((ItRv K a xs.length).go i H /\ ∃ N : St -> Hp -> Prop, (∀ σ' H', N σ' H' -> ∃ m', m' < m /\ W (i + 1) m' σ' H') /\ ∀ x H', (ItRv K a xs.length).yld i H x H' -> g x σ H' fun σ2 H2 => tb { D with nx := N, ct := N, bk := D.nx } σ2 H2) := by
 refine ⟨fun i m σ H => m = xs.length - i /\ i <= xs.length /\ Pv i σ H, ⟨xs.length, by simp, Nat.zero_le _, h0⟩, ?_⟩
 rintro i m σ H ⟨rfl, hi, p⟩
 have q := hl i σ H hi p
 by_cases hlt : i < xs.length
 ·refine .inr ⟨⟨xs, q, rfl, hlt⟩, Pv (i + 1), fun σ' H' h => ⟨xs.length - (i + 1), by lia, rfl, hlt, h⟩, fun x H' y => ?_⟩
  obtain ⟨e, hy2⟩ := y
  subst e
  exact hs i x σ H' (by rw [List.getElem?_reverse hlt]; exact hy2 xs q) p
 ·have e : i = xs.length := by lia
  subst e
  exact .inl ⟨⟨xs, q, rfl, rfl⟩, hd σ H p⟩
section
variable {X : Cx}
end
def rLenK (K : PySem.W.Frag) : List V -> Hp -> VK -> Prop := fun xs H Q => ∃ p ys, xs = [.ref p] /\ (SqL K H p ys \/ SqT K H p ys) /\ Q (.int ys.length) H
def rIsiK (K : PySem.W.Frag) : List V -> Hp -> VK -> Prop := fun xs H Q => ∃ x c t u b, xs = [x, c] /\ RelV c u /\ TyOf K H x t /\ PySem.W.kitOne K t u = some b /\ Q (.bl b) H
def zAr (K : PySem.W.Frag) : List V -> Hp -> VK -> Prop := fun xs H Q => ∃ p ys, xs = [.ref p] /\ ((SqL K H p ys /\ ∀ l, H l = none -> Q (.ref l) (upd H l (.tup ys))) \/ (SqT K H p ys /\ Q (.ref p) H))
theorem zbg {A B : TS} {D : Ends} {σ : St} {H : Hp} (h : ∀ M : St -> Hp -> Prop, (∀ σ H, B D σ H -> M σ H) -> A { D with nx := M } σ H) : tSeq A B D σ H := h _ fun _ _ z => z
section
variable {X : Cx} (K : PySem.W.Frag)
theorem zbk (h : X.K = K := by rfl) : IxR X (rIxL K) := h ▸ zBn
theorem zav (h : X.K = K := by rfl) : IxR X (rIxT K) := h ▸ zEj
theorem zoo (h : X.K = K := by rfl) : SlR X (rSlL K) := h ▸ zAh
theorem zbx (h : X.K = K := by rfl) : CallR X (.builtin "len") (rLenK K) := h ▸ zmj
theorem zce (h : X.K = K := by rfl) : CallR X (.builtin "isinstance") (rIsiK K) := h ▸ znw
theorem zeu (h : X.K = K := by rfl) : CallR X (.type "tuple") (zAr K) := h ▸ zkn
theorem zlp (hu : X.A.units + 66 < cLine) (h : X.K = K := by rfl) : OpR X (compareOp .Eq) (rNil K false) := h ▸ zxl hu
theorem zpi (h : X.K = K := by rfl) : OpR X (binaryOp .Add) (rCatA K) := h ▸ zBc
theorem zbi {tg : Expr} (k : Kd) {l : Expr} {tl : TE} (hl : PE X l tl) (h : X.K = K := by rfl) : PI X tg l (iSeq k K tl) := h ▸ zDu k hl
theorem zcd (n : Nat) {es : List Expr} {k : Nat} {t : TGs} {pos : Pos} (hc : X.calm = true) (h : PGs X es t)
  (hn : (assignEach es X.env).length = n := by rfl) (hst : (assignEach es X.env).findIdx? (·.1) = none := by rfl) (hK : X.K = K := by rfl) : PG X (.Tuple es k pos) (gTup K n t) := hK ▸ zDw hc h hn hst
theorem zpe {elts : List Expr} {x1 : Nat} {tpos : Pos} {l : Expr} {ta : TA} {p pos : Pos} (k : Kd) (hg : Gl X "enumerate") (hm : X.mg "enumerate" = none) (ha : PA X [l] ta) (hs : starEach [l] X.env = [(false, eval l X.env)] := by rfl) (h : X.K = K := by rfl) :
  PI X (.Tuple elts x1 tpos) (.Call (.Name "enumerate" p) [l] [] pos) (iEnum k K ta) := h ▸ zAw k hg hm ha hs
theorem zAv {elts : List Expr} {x1 : Nat} {tpos : Pos} {l m : Expr} {ta : TA} {p pos : Pos} (k1 k2 : Kd) (hg : Gl X "zip") (hm : X.mg "zip" = none) (ha : PA X [l, m] ta)
  (hs : starEach [l, m] X.env = [(false, eval l X.env), (false, eval m X.env)] := by rfl) (hs2 : starEach [m] X.env = [(false, eval m X.env)] := by rfl) (h : X.K = K := by rfl) :
  PI X (.Tuple elts x1 tpos) (.Call (.Name "zip" p) [l, m] [] pos) (iZip k1 k2 K ta) := h ▸ zDs k1 k2 hg hm ha hs hs2
end
section
variable {X : Cx}
end
section
variable {X : Cx}
end
section
variable {X : Cx} {m : Str} {apos pos : Pos} {o : Expr} {ta : TE}
end
section
variable {X : Cx}
end
section
variable {X : Cx}
end
end L2
namespace L2
open PySem PySem.W PyProof.Rows
section
variable {X : Cx}
end
end L2
namespace L2
open PySem PySem.W PyProof.Rows
section
variable {prog : Program} {w : World} {A : Around} {E : Value -> Shared -> Prop} {s : Shared}
end
end L2
namespace L2
open PySem PySem.W PyProof.Rows
section
variable {X : Cx}
end
end L2
namespace L2
open PySem PySem.W PyProof.Rows
section
variable {X : Cx} {pos : Pos}
end
end L2
namespace L2
open PySem PySem.SetTable
def adv (m : Nat) (p : Probe) : Probe :=
 if p.more > 0 then { p with j := p.j + 1, more := p.more - 1 } else
 let (i, perturb) := leap m p.i p.perturb
 { p with j := i, more := runEnd m i - i, i, perturb }
def zCv (m : Nat) (h : Int) : Probe := { j := bits h % (m + 1), more := runEnd m (bits h % (m + 1)) - bits h % (m + 1), i := bits h % (m + 1), perturb := bits h, dummy := none }
def way (m : Nat) (h : Int) : Nat -> Probe
 | 0 => zCv m h
 | n + 1 => adv m (way m h n)
def nx (m i : Nat) : Nat := (i * 5 + 1) % (m + 1)
end L2
namespace L2
open PySem PySem.SetTable
def lv (m : Nat) (o : Array (Option Nat)) : List (Nat × Nat) := (List.range (m + 1)).filterMap fun j => (o.getD j none).map (j, ·)
end L2
namespace L2
open PySem PySem.SetTable
section
variable {prog : Program} {w : World} {A : Around} {E : Value -> Shared -> Prop} {s : Shared}
end
end L2
namespace L2
open PySem PySem.SetTable
section
variable {prog : Program} {w : World} {A : Around} {E : Value -> Shared -> Prop} {s : Shared} {a b : Addr} {o : Obj} {es : Array (Int × Value)} {ep : Nat} {t : SetTable} {kx : List Int}
end
end L2
namespace L2
open PySem PySem.SetTable PyProof.Rows
section
variable {prog : Program} {w : World} {G : Value -> List Int -> Prop} {A : Around} {E : Value -> Shared -> Prop} {s : Shared} {a b : Addr} {led : Bool} {kss : List (List Int)} {kx : List Int}
end
end L2
namespace L2
open PySem PySem.Spec PyProof.Rows
section
variable {prog : Program} {w : World} {A : Around} {R : Result -> Shared -> Prop} {I : Addr} {fp wr : List Addr} {G : Array GenState -> Array GenState -> Prop} {n : Nat} {P : Nat -> Value -> Prop} {St : Nat -> Shared -> Prop}
end
section
variable {prog : Program} {w : World} {A : Around} {E : Value -> Shared -> Prop} {s : Shared}
set_option maxHeartbeats 8000000 in
end
end L2
namespace L2
open PySem PySem.W PyProof.Rows
section
variable {prog : Program} {w : World} {A : Around} {E : Value -> Shared -> Prop} {s : Shared} {a : Addr} {kss : List (List Int)} {G : Value -> List Int -> Prop}
end
section
variable {X : Cx}
end
end L2
namespace L2
open PySem PySem.W PyProof.Rows
section
variable {X : Cx}
end
end L2
namespace L2
open PySem PySem.W PyProof.Rows
section
variable {X : Cx}
end
end L2
namespace L2
open PySem PySem.Spec PyProof.Rows PySem.W
end L2
namespace L2
open PySem PySem.Spec PyProof.Rows PySem.W
section
variable {P : Program} {w : World} {K : PySem.W.Frag} {mg : Str -> Option Value} {base : Heap} {N : List Str} {qual : Str} {scope : Scope} {f : Addr} {cd : Value} {A : Around} {outer : List Env} {s0 : Shared} {H0 : Hp} {E : XK}
end
section
variable {X : Cx}
end
section
variable {M : Model} {A : Around} {E : Value -> Shared -> Prop} {s : Shared}
end
section
variable {X : Cx}
end
end L2
namespace L2
open PySem PySem.Spec PyProof.Rows PySem.W
section
variable {K : Frag} {prog : Program} {w : World} {A : Around} {E : Value -> Shared -> Prop} {h : Heap} {g : Array GenState} {d : Drawn} {t : Nat} {os : OsState} {a C dx : Addr} {vs : Array Value} {sl : Array (Option Value)} {f : Str} {v : Value} {mA : Str -> Option Value} {cc : Value} {cdd : Option Addr} {cd : ClassData} {csl : Array (Option Value)}
end
section
variable {X : Cx} {e : Expr} {f : Str} {pos : Pos} {ta : TE}
end
end L2
namespace L2
open PySem PySem.Spec PyProof.Rows PySem.W
section
variable {K : Frag} {prog : Program} {w : World} {A : Around} {E : Value -> Shared -> Prop} {h : Heap} {g : Array GenState} {d : Drawn} {t : Nat} {os : OsState} {C fI : Addr} {oI : Obj} {bm : List Value}
end
end L2
namespace L2
open PySem PySem.Spec PyProof.Rows PySem.W PySem.Builtin PySem.Builtin.ObjectAttr
section
variable {K : Frag} {prog : Program} {w : World} {A : Around} {E : Value -> Shared -> Prop} {s : Shared} {a C : Addr} {vs : Array Value} {f : Str} {v : Value}
end
end L2
namespace L2
open PySem PySem.Spec PyProof.Rows PySem.W
section
variable {K : Frag} {prog : Program} {w : World} {A : Around} {E : Value -> Shared -> Prop} {h : Heap} {g : Array GenState} {d : Drawn} {t : Nat} {os : OsState} {e C : Addr} {bm : List Value}
end
section
variable {X : Cx}
end
end L2
namespace L2
open PySem PySem.Spec PyProof.Rows PySem.W
section
variable {P : Program} {w : World} {K : PySem.W.Frag} {mg : Str -> Option Value} {base : Heap} {N : List Str} {qual : Str} {scope : Scope} {f : Addr} {cd : Value} {A : Around} {outer : List Env} {s0 : Shared} {H0 : Hp} {E : XK}
end
section
variable {M : Model} {A : Around} {E : Value -> Shared -> Prop} {env : Env} {K : Frag} {C : Addr} {bm : List Value}
end
end L2
namespace L2
open PySem PySem.Spec PyProof.Rows PySem.W
section
variable {P : Program} {w : World} {K : PySem.W.Frag} {mg : Str -> Option Value} {base : Heap} {N : List Str} {qual : Str} {scope : Scope} {f : Addr} {cd : Value} {A : Around} {outer : List Env} {s0 : Shared} {H0 : Hp} {E : XK}
end
end L2
namespace L2
open PySem PySem.Spec PyProof.Rows
section
variable {prog : Program} {w : World} {A : Around} {R : Result -> Shared -> Prop} {s : Shared}
end
section
variable {X : Cx} {scope : Scope} {N' : List Str} {fr : List (Option Nat)} {pins : List (Addr × Obj)} {σ : St} {H : Hp} {s : Shared} {fp : List Addr} {it : Addr} {tn : Nat -> Heap -> Prop} {J : It}
 {elt tg iter : Expr} {ifs : List Expr} {g : TG} {tt : TT} {te : TE} {pos : Pos} {fin : List V -> Hp -> Prop} {W : Nat -> Nat -> List V -> St -> Hp -> Prop} {RR : Value -> Addr -> Result -> Shared -> Prop} {E : Value -> Shared -> Prop}
end
section
variable {M : Model} {A : Around} {E : Value -> Shared -> Prop} {s : Shared}
end
section
variable {P : Program} {w : World} {K : PySem.W.Frag} {mg : Str -> Option Value} {base : Heap} {N : List Str} {qual : Str} {scope0 : Scope} {f : Addr} {cd : Value} {A : Around} {outer : List Env} {s0 : Shared} {H0 : Hp} {E : XK}
variable {scope : Scope} {N' : List Str} {fr : List (Option Nat)} {elt tg iter : Expr} {ifs : List Expr} {g : TG} {tt : TT} {te : TE} {pos : Pos}
end
end L2
namespace L2
open PySem PySem.Spec PyProof.Rows PySem.Builtin PySem.Builtin.Str
section
variable {X : Cx}
end
end L2
namespace L2
open PySem PySem.Spec PyProof.Rows
section
variable {X : Cx}
end
section
variable {X : Cx} {pins : List (Addr × Obj)} {σ : St} {H : Hp} {s : Shared} {d : Addr} {kvs : TTab}
end
section
variable {X : Cx} {o : Expr} {to : TE} {apos cpos : Pos}
end
end L2
namespace L2
open PySem PySem.Spec PyProof.Rows PySem.W
section
variable {P : Program} {w : World} {K : PySem.W.Frag} {mg : Str -> Option Value} {base : Heap} {k : Nat} {x : Str} {ps : List Str} {sp : Sp}
end
section
variable {X : Cx}
end
end L2
namespace L2
open PySem PySem.Spec PyProof.Rows
section
variable {X : Cx}
end
section
variable {P : Program} {w : World} {K : PySem.W.Frag} {mg : Str -> Option Value} {base : Heap} {k : Nat} {x : Str} {ps : List Str} {sp : Sp}
end
end L2
namespace L2
open PySem PySem.Spec PyProof.Rows PySem.W
section
variable {X : Cx}
end
end L2
namespace L2
open PySem PySem.Spec PyProof.Rows
section
variable {prog : Program} {w : World} {A : Around} {E : Value -> Shared -> Prop} {s : Shared} {a : Addr} {led : Bool} {ns : List Int}
end
--T3
section
variable {prog : Program} {w : World} {A : Around} {R : Result -> Shared -> Prop} {I : Addr} {fp wr : List Addr} {G : Array GenState -> Array GenState -> Prop} {n : Nat} {P : Nat -> Value -> Prop} {St : Nat -> Shared -> Prop}
end
section
variable {prog : Program} {w : World} {A : Around} {E : Value -> Shared -> Prop} {s : Shared}
end
section
variable {prog : Program} {w : World} {A : Around} {E : Value -> Shared -> Prop} {s : Shared} {a : Addr}
end
section
variable {X : Cx}
end
end L2
namespace L2
open PySem PySem.Spec PyProof.Rows PySem.W
section
variable {P : Program} {w : World} {K : PySem.W.Frag} {mg : Str -> Option Value} {base : Heap} {k : Nat} {x : Str} {ps : List Str} {sp : Sp}
end
end L2
namespace My
open PySem L2
def top (i : Nat) : Stmt := PySem.Challenge.pw_manycounts_k77_whole_signs_and_pointings.main.body.getD i (.Pass ⟨0, 0, 0, 0⟩)
abbrev zdd : Stmt := top 5
abbrev zfq : Stmt := top 6
abbrev ziq : Stmt := top 8
abbrev zhg : Stmt := top 9
abbrev sAll : Stmt := top 10
abbrev sMore : Stmt := top 11
abbrev zit : Stmt := top 13
abbrev sRank : Stmt := top 14
abbrev zio : Stmt := top 15
abbrev sGath : Stmt := top 18
abbrev sProd : Stmt := top 19
abbrev zil : Stmt := top 20
abbrev sExch : Stmt := top 21
abbrev sPow : Stmt := top 22
abbrev sST : Stmt := top 24
abbrev sByP : Stmt := top 25
abbrev sRef : Stmt := top 27
abbrev sCRow : Stmt := top 28
abbrev sOL : Stmt := top 29
abbrev zim : Stmt := top 30
abbrev sWRow : Stmt := top 31
abbrev zfs : Stmt := top 32
abbrev sFRow : Stmt := top 34
abbrev zfr : Stmt := top 35
abbrev sPtg : Stmt := top 37
abbrev zef : Stmt := top 38
abbrev sRI : Stmt := top 39
abbrev sRT : Stmt := top 40
abbrev sTB : Stmt := top 41
abbrev sRW : Stmt := top 42
abbrev sRD : Stmt := top 43
abbrev sIR : Stmt := top 44
abbrev sAt : Stmt := top 46
abbrev zeg : Stmt := top 47
abbrev sTies : Stmt := top 48
abbrev zir : Stmt := top 49
abbrev zis : Stmt := top 50
abbrev zin : Stmt := top 51
abbrev sEnds : Stmt := top 52
abbrev sLaw : Stmt := top 53
def TieAt (H : Hp) (v : V) (p : Int × Int) : Prop := ∃ a, v = .ref a /\ H a = some (.tup [.int p.1, .int p.2])
theorem TieAt.same {H H' : Hp} {v : V} {p : Int × Int} (h : TieAt H v p) (e : Same H H') : TieAt H' v p := let ⟨a, h1, h2⟩ := h; ⟨a, h1, e _ _ h2⟩
theorem zcw {H H' : Hp} {xs : List V} {ps : List (Int × Int)} (h : Paired (TieAt H) xs ps) (e : Same H H') : Paired (TieAt H') xs ps := L2.Paired.mapP h fun _ _ q => q.same e
def norm (p : Int × Int) : Int × Int := if p.1 <= p.2 then (p.1, p.2) else (p.2, p.1)
structure WebAt (H : Hp) (w : V) (n : Int) (ps : List (Int × Int)) : Prop where
 ex : ∃ c d xs, w = .ref c /\ H c = some (.tup [.int n, .ref d]) /\ H d = some (.tup xs) /\ Paired (TieAt H) xs ps
theorem WebAt.same {H H' : Hp} {w : V} {n : Int} {ps : List (Int × Int)} (h : WebAt H w n ps) (e : Same H H') : WebAt H' w n ps := by
 obtain ⟨c, d, xs, h1, h2, h3, h4⟩ := h.ex
 exact ⟨c, d, xs, h1, e _ _ h2, e _ _ h3, zcw h4 e⟩
structure Txt (K : W.Frag) (mg : Str -> Option Value) : Prop where
 isi : mg "isinstance" = none
 int : mg "int" = none
 bool : mg "bool" = none
 len : mg "len" = none
 tuple : mg "tuple" = none
 all : mg "all" = none
 list : mg "list" = none
 min : mg "min" = none
 max : mg "max" = none
 range : mg "range" = none
 set : mg "set" = none
 sorted : mg "sorted" = none
theorem zcu : bootBuiltins "isinstance" = some (.builtin "isinstance") := by first | rfl | decide +kernel
theorem zda : bootBuiltins "int" = some (.type "int") := by first | rfl | decide +kernel
theorem zep : bootBuiltins "bool" = some (.type "bool") := by first | rfl | decide +kernel
theorem zdn : bootBuiltins "tuple" = some (.type "tuple") := by first | rfl | decide +kernel
theorem zeo : bootBuiltins "list" = some (.type "list") := by first | rfl | decide +kernel
theorem zwb : bootBuiltins "all" = some (.builtin "all") := by first | rfl | decide +kernel
theorem zml : bootBuiltins "min" = some (.builtin "min") := by first | rfl | decide +kernel
theorem zmm : bootBuiltins "max" = some (.builtin "max") := by first | rfl | decide +kernel
theorem zmk : bootBuiltins "sorted" = some (.builtin "sorted") := by first | rfl | decide +kernel
def InN (n : Int) (p : Int × Int) : Prop := 0 <= p.1 /\ p.1 < n /\ 0 <= p.2 /\ p.2 < n
theorem zpq (a n : Int) (h : 0 < n) : 0 <= a % n /\ a % n < n := ⟨Int.emod_nonneg _ (by lia), Int.emod_lt_of_pos _ h⟩
def ups (n : Int) : List Int := (List.range n.toNat).map fun (i : Nat) => (i : Int)
theorem zha (n : Nat) : upN n = (ups n).map V.int := by
 unfold upN ups
 rw [List.map_map, Int.toNat_natCast]
 rfl
def at0 (l : List Int) (i : Int) : Int := l.getD i.toNat 0
def stepH (hs : List Int) (p : Int × Int) : List Int :=
 hs.map fun h => if h = (if at0 hs p.2 > at0 hs p.1 then at0 hs p.2 else at0 hs p.1) then (if at0 hs p.2 < at0 hs p.1 then at0 hs p.2 else at0 hs p.1) else h
def tieN (ps : List (Int × Int)) (k : Int) : Int × Int := ps.getD k.toNat (0, 0)
def hdF (ps : List (Int × Int)) (hs : List Int) (ks : List Int) : List Int := ks.foldl (fun hs k => stepH hs (tieN ps k)) hs
def stepM (st : List Int × Int) (p : Int × Int) : List Int × Int :=
 if at0 st.1 p.1 = at0 st.1 p.2 then st else (st.1.map fun m => if m = at0 st.1 p.2 then at0 st.1 p.1 else m, st.2 + 1)
def rkF (ps : List (Int × Int)) (st : List Int × Int) (ks : List Int) : List Int × Int := ks.foldl (fun st k => stepM st (tieN ps k)) st
def rk (n : Int) (ps : List (Int × Int)) (ks : List Int) : Int := (rkF ps (ups n, 0) ks).2
theorem zme (u v : Int) (huv : u ≠ v) : ∀ l : List Int, dcr (l.map fun x => if x = v then u else x) + (if u ∈ l /\ v ∈ l then 1 else 0) = dcr l
 | [] => by simp [dcr]
 | x :: xs => by
  have ih := zme u v huv xs
  have mem : ∀ z, z ≠ v -> (z ∈ xs.map (fun x => if x = v then u else x) ↔ z ∈ xs \/ (z = u /\ v ∈ xs)) := by
   intro z hz
   rw [List.mem_map]
   constructor
   ·rintro ⟨y, hy, e⟩
    by_cases hyv : y = v
    ·rw [if_pos hyv] at e
     exact .inr ⟨e.symm, hyv ▸ hy⟩
    ·rw [if_neg hyv] at e
     exact .inl (e ▸ hy)
   ·rintro (h | ⟨rfl, h⟩)
    ·exact ⟨z, h, if_neg hz⟩
    ·exact ⟨v, h, if_pos rfl⟩
  rw [List.map_cons]
  show dcr (xs.map fun x => if x = v then u else x) + (if (if x = v then u else x) ∈ xs.map (fun x => if x = v then u else x) then 0 else 1) + _ = dcr xs + if x ∈ xs then 0 else 1
  generalize hd : dcr (xs.map fun x => if x = v then u else x) = d at ih
  generalize hd2 : dcr xs = d2 at ih
  by_cases hxv : x = v
  ·subst hxv
   rw [if_pos rfl]
   have m := mem u huv
   by_cases h1 : u ∈ xs <;> by_cases h2 : x ∈ xs <;> simp [m, h1, h2, huv] at ih ⊢ <;> lia
  ·rw [if_neg hxv]
   have m := mem x hxv
   by_cases hxu : x = u
   ·subst hxu
    by_cases h1 : x ∈ xs <;> by_cases h2 : v ∈ xs <;> simp [m, h1, h2, Ne.symm huv] at ih ⊢ <;> lia
   ·have e1 : ¬ (u = x) := fun z => hxu z.symm
    have e2 : ¬ (v = x) := fun z => hxv z.symm
    by_cases h1 : u ∈ xs <;> by_cases h2 : v ∈ xs <;> by_cases h3 : x ∈ xs <;> simp [m, h1, h2, h3, e1, e2, hxu] at ih ⊢ <;> lia
theorem zcn {u v : Int} (huv : u ≠ v) {l : List Int} (h1 : u ∈ l) (h2 : v ∈ l) : zau (l.map fun x => if x = v then u else x) + 1 = zau l := by
 unfold zau
 rw [<- List.map_reverse]
 have := zme u v huv l.reverse
 rw [if_pos ⟨List.mem_reverse.mpr h1, List.mem_reverse.mpr h2⟩] at this
 exact this
def Rel (n : Nat) (hs ms : List Int) : Prop := ∀ i j, i < n -> j < n -> (hs.getD i 0 = hs.getD j 0 ↔ ms.getD i 0 = ms.getD j 0)
theorem zdk {l : List Int} {f : Int -> Int} {i : Nat} (h : i < l.length) : (l.map f).getD i 0 = f (l.getD i 0) := by simp [List.getD, h]
theorem zfl {l : List Int} {i : Nat} (h : i < l.length) : l.getD i 0 ∈ l := by simp [List.getD, h]
theorem zca {hs : List Int} {p : Int × Int} (h : at0 hs p.1 = at0 hs p.2) : stepH hs p = hs := by
 unfold stepH
 rw [h]
 have e : (fun x : Int => if x = (if at0 hs p.2 > at0 hs p.2 then at0 hs p.2 else at0 hs p.2) then (if at0 hs p.2 < at0 hs p.2 then at0 hs p.2 else at0 hs p.2) else x) = id := by
  funext x
  show _ = x
  split <;> simp_all
 rw [e, List.map_id]
theorem zgo {hs : List Int} {p : Int × Int} (h : at0 hs p.1 ≠ at0 hs p.2) : ∃ u v, u ≠ v /\ stepH hs p = hs.map (fun x => if x = v then u else x) /\ ((u = at0 hs p.1 /\ v = at0 hs p.2) \/ (u = at0 hs p.2 /\ v = at0 hs p.1)) := by
 unfold stepH
 by_cases hlt : at0 hs p.2 < at0 hs p.1
 ·refine ⟨at0 hs p.2, at0 hs p.1, fun z => h z.symm, ?_, .inr ⟨rfl, rfl⟩⟩
  rw [if_neg (by lia), if_pos hlt]
 ·have : at0 hs p.2 > at0 hs p.1 := by lia
  refine ⟨at0 hs p.1, at0 hs p.2, h, ?_, .inl ⟨rfl, rfl⟩⟩
  rw [if_pos this, if_neg hlt]
theorem zfx (p : Int × Int) : (norm p).1 = p.1 /\ (norm p).2 = p.2 \/ (norm p).1 = p.2 /\ (norm p).2 = p.1 := by
 unfold norm
 split
 ·exact .inl ⟨rfl, rfl⟩
 ·exact .inr ⟨rfl, rfl⟩
theorem zpr {u v x y : Int} (huv : u ≠ v) : ((if x = v then u else x) = (if y = v then u else y)) ↔ (x = y \/ ((x = u \/ x = v) /\ (y = u \/ y = v))) := by
 split <;> split <;> lia
theorem zww {n : Nat} {hs ms : List Int} {c : Int} {p : Int × Int} (lh : hs.length = n) (lm : ms.length = n) (R : Rel n hs ms) (hc : c + (zau hs : Int) = n) (hp : InN n p) :
  (stepH hs (norm p)).length = n /\ (stepM (ms, c) p).1.length = n /\ Rel n (stepH hs (norm p)) (stepM (ms, c) p).1 /\ (stepM (ms, c) p).2 + (zau (stepH hs (norm p)) : Int) = n := by
 obtain ⟨p1, p2, p3, p4⟩ := hp
 have a1 : p.1.toNat < n := by lia
 have a2 : p.2.toNat < n := by lia
 have r12 := R p.1.toNat p.2.toNat a1 a2
 have swap : at0 hs (norm p).1 = at0 hs (norm p).2 ↔ at0 hs p.1 = at0 hs p.2 := by
  rcases zfx p with ⟨e1, e2⟩ | ⟨e1, e2⟩ <;> rw [e1, e2]
  exact eq_comm
 by_cases he : at0 hs p.1 = at0 hs p.2
 ·have em : at0 ms p.1 = at0 ms p.2 := r12.mp he
  have e1 : stepH hs (norm p) = hs := zca (swap.mpr he)
  have e2 : stepM (ms, c) p = (ms, c) := by unfold stepM; exact if_pos em
  rw [e1, e2]
  exact ⟨lh, lm, R, hc⟩
 ·have em : ¬ at0 ms p.1 = at0 ms p.2 := fun z => he (r12.mpr z)
  have e2 : stepM (ms, c) p = (ms.map (fun m => if m = at0 ms p.2 then at0 ms p.1 else m), c + 1) := by unfold stepM; exact if_neg em
  obtain ⟨u, v, huv, e1, hu⟩ := zgo (hs := hs) (p := norm p) (fun z => he (swap.mp z))
  have hu' : (u = at0 hs p.1 /\ v = at0 hs p.2) \/ (u = at0 hs p.2 /\ v = at0 hs p.1) := by
   rcases zfx p with ⟨f1, f2⟩ | ⟨f1, f2⟩ <;> rw [f1, f2] at hu
   ·exact hu
   ·exact hu.symm
  have m1 : at0 hs p.1 ∈ hs := zfl (by lia)
  have m2 : at0 hs p.2 ∈ hs := zfl (by lia)
  have mu : u ∈ hs := by rcases hu' with ⟨z, _⟩ | ⟨z, _⟩ <;> rw [z] <;> assumption
  have mv : v ∈ hs := by rcases hu' with ⟨_, z⟩ | ⟨_, z⟩ <;> rw [z] <;> assumption
  rw [e1, e2]
  refine ⟨by rw [List.length_map]; exact lh, by rw [List.length_map]; exact lm, fun i j hi hj => ?_, ?_⟩
  ·rw [zdk (by lia), zdk (by lia), zdk (by lia), zdk (by lia), zpr huv, zpr em]
   have ri := R i p.1.toNat hi a1
   have ri2 := R i p.2.toNat hi a2
   have rj := R j p.1.toNat hj a1
   have rj2 := R j p.2.toNat hj a2
   have rij := R i j hi hj
   have ti : (hs.getD i 0 = u \/ hs.getD i 0 = v) ↔ (ms.getD i 0 = at0 ms p.1 \/ ms.getD i 0 = at0 ms p.2) := by
    rcases hu' with ⟨z1, z2⟩ | ⟨z1, z2⟩
    ·rw [z1, z2]; exact or_congr ri ri2
    ·rw [z1, z2]; exact (or_congr ri2 ri).trans or_comm
   have tj : (hs.getD j 0 = u \/ hs.getD j 0 = v) ↔ (ms.getD j 0 = at0 ms p.1 \/ ms.getD j 0 = at0 ms p.2) := by
    rcases hu' with ⟨z1, z2⟩ | ⟨z1, z2⟩
    ·rw [z1, z2]; exact or_congr rj rj2
    ·rw [z1, z2]; exact (or_congr rj2 rj).trans or_comm
   exact or_congr rij (and_congr ti tj)
  ·have := zcn huv mu mv
   show c + 1 + (zau (hs.map fun x => if x = v then u else x) : Int) = n
   lia
theorem zdq {n : Int} {ps : List (Int × Int)} {k : Int} (hb : ∀ p ∈ ps, InN n p) (k0 : 0 <= k) (kl : k < ps.length) : InN n (tieN ps k) := by
 have : k.toNat < ps.length := by lia
 unfold tieN
 refine hb _ ?_
 simp [List.getD, this]
theorem zkz {ps : List (Int × Int)} {k : Int} (k0 : 0 <= k) (kl : k < ps.length) : tieN (ps.map norm) k = norm (tieN ps k) := by
 have : k.toNat < ps.length := by lia
 unfold tieN
 simp [List.getD, this]
theorem zsz {n : Nat} {ps : List (Int × Int)} (hb : ∀ p ∈ ps, InN n p) : ∀ (ks : List Int), (∀ k ∈ ks, 0 <= k /\ k < ps.length) -> ∀ (hs ms : List Int) (c : Int), hs.length = n -> ms.length = n -> Rel n hs ms -> c + (zau hs : Int) = n ->
  (rkF ps (ms, c) ks).2 + (zau (hdF (ps.map norm) hs ks) : Int) = n
 | [], _, hs, ms, c, _, _, _, hc => hc
 | k :: ks, hk, hs, ms, c, lh, lm, R, hc => by
  obtain ⟨k0, kl⟩ := hk k List.mem_cons_self
  obtain ⟨s1, s2, s3, s4⟩ := zww lh lm R hc (zdq hb k0 kl)
  have := zsz hb ks (fun j hj => hk j (List.mem_cons_of_mem _ hj)) _ _ _ s1 s2 s3 s4
  rw [<- zkz k0 kl] at this
  exact this
theorem zbc (n : Int) : (ups n).length = n.toNat := by unfold ups; simp
theorem nine {n : Int} (h1 : 1 <= n) (h9 : n <= 9) : n = 1 \/ n = 2 \/ n = 3 \/ n = 4 \/ n = 5 \/ n = 6 \/ n = 7 \/ n = 8 \/ n = 9 := by lia
theorem zrl {n : Int} (h1 : 1 <= n) (h9 : n <= 9) : (zau (ups n) : Int) = n := by
 rcases nine h1 h9 with rfl | rfl | rfl | rfl | rfl | rfl | rfl | rfl | rfl <;> decide +kernel
theorem zAq {n : Int} {ps : List (Int × Int)} {ks : List Int} (h1 : 1 <= n) (h9 : n <= 9) (hb : ∀ p ∈ ps, InN n p) (hk : ∀ k ∈ ks, 0 <= k /\ k < ps.length) : n - (zau (hdF (ps.map norm) (ups n) ks) : Int) = rk n ps ks := by
 have e : ((n.toNat : Nat) : Int) = n := by lia
 have := zsz (n := n.toNat) (ps := ps) (by rw [e]; exact hb) ks hk (ups n) (ups n) 0 (zbc n) (zbc n) (fun i j _ _ => Iff.rfl) (by rw [zrl h1 h9]; lia)
 unfold rk
 lia
theorem zhc (hs : List Int) (p : Int × Int) : (stepH hs p).length = hs.length := by unfold stepH; simp
theorem zkg (ps : List (Int × Int)) (hs ks : List Int) (k : Int) : hdF ps hs (ks ++ [k]) = stepH (hdF ps hs ks) (tieN ps k) := by unfold hdF; rw [List.foldl_append]; rfl
theorem zos (ps : List (Int × Int)) (st : List Int × Int) (ks : List Int) (k : Int) : rkF ps st (ks ++ [k]) = stepM (rkF ps st ks) (tieN ps k) := by unfold rkF; rw [List.foldl_append]; rfl
theorem zkh (ps : List (Int × Int)) : ∀ (ks hs : List Int), (hdF ps hs ks).length = hs.length
 | [], _ => rfl
 | k :: ks, hs => by
  show (hdF ps (stepH hs (tieN ps k)) ks).length = _
  rw [zkh ps ks, zhc]
theorem zrz (st : List Int × Int) (p : Int × Int) : (stepM st p).1.length = st.1.length := by unfold stepM; split <;> simp
theorem zta (ps : List (Int × Int)) : ∀ (ks : List Int) (st : List Int × Int), (rkF ps st ks).1.length = st.1.length
 | [], _ => rfl
 | k :: ks, st => by
  show (rkF ps (stepM st (tieN ps k)) ks).1.length = _
  rw [zta ps ks, zrz]
theorem zcz : bootBuiltins "range" = some (.type "range") := by first | rfl | decide +kernel
theorem zwa : bootBuiltins "set" = some (.type "set") := by first | rfl | decide +kernel
theorem zvz : bootBuiltins "sum" = some (.builtin "sum") := by first | rfl | decide +kernel
theorem zqd {k : Kd} {K : W.Frag} {a : Addr} {xs : List V} {g : TG} {tb : TS} {D : Ends} {σ : St} {H : Hp} (Pv : Nat -> St -> Hp -> Prop) (h0 : Pv 0 σ H) (hl : ∀ i σ H, i <= xs.length -> Pv i σ H -> SqK k K H a xs)
  (hs : ∀ (i : Nat) (x : V) (σ : St) (H : Hp), xs[i]? = some x -> Pv i σ H -> g x σ H fun σ2 H2 => tb { D with nx := Pv (i + 1), ct := Pv (i + 1), bk := D.nx } σ2 H2) (hd : ∀ σ H, Pv xs.length σ H -> D.nx σ H) :
  ∃ W : Nat -> Nat -> St -> Hp -> Prop, (∃ m, W 0 m σ H) /\ ∀ i m σ H, W i m σ H ->
   ((ItK k K a).stop i H /\ D.nx σ H) \/ ((ItK k K a).go i H /\ ∃ N : St -> Hp -> Prop, (∀ σ' H', N σ' H' -> ∃ m', m' < m /\ W (i + 1) m' σ' H') /\ ∀ x H', (ItK k K a).yld i H x H' -> g x σ H' fun σ2 H2 => tb { D with nx := N, ct := N, bk := D.nx } σ2 H2) := by
 refine ⟨fun i m σ H => m = xs.length - i /\ i <= xs.length /\ Pv i σ H, ⟨xs.length, by simp, Nat.zero_le _, h0⟩, ?_⟩
 rintro i m σ H ⟨rfl, hi, p⟩
 have q := hl i σ H hi p
 by_cases hlt : i < xs.length
 ·refine .inr ⟨zzn q hlt, Pv (i + 1), fun σ' H' p' => ⟨xs.length - (i + 1), by lia, rfl, hlt, p'⟩, fun x H' y => ?_⟩
  obtain ⟨e, hy2⟩ := zup q y
  subst e
  exact hs i x σ H' hy2 p
 ·have e : i = xs.length := by lia
  subst e
  exact .inl ⟨zpy q (Nat.le_refl _), hd σ H p⟩
theorem zji {l : List Int} {i : Int} (h0 : 0 <= i) (hl : i < l.length) : atI (l.map V.int) i = some (.int (at0 l i)) := by
 obtain ⟨j, rfl⟩ := Int.eq_ofNat_of_zero_le h0
 have hj : j < l.length := by lia
 refine zar ?_
 unfold at0
 simp [List.getD, hj]
theorem zzx {H : Hp} {xs : List V} {ps : List (Int × Int)} (h : Paired (TieAt H) xs ps) {k : Int} (h0 : 0 <= k) (hl : k < ps.length) : ∃ c, atI xs k = some (.ref c) /\ H c = some (.tup [.int (tieN ps k).1, .int (tieN ps k).2]) := by
 obtain ⟨j, rfl⟩ := Int.eq_ofNat_of_zero_le h0
 have xl := Paired.length h
 have hj : j < xs.length := by lia
 obtain ⟨p, e1, c, e2, e3⟩ := Paired.at h (show xs[j]? = some xs[j] by simp [hj])
 refine ⟨c, zar (by rw [List.getElem?_eq_getElem hj, e2]), ?_⟩
 have : tieN ps (j : Int) = p := by
  unfold tieN
  rw [Int.toNat_natCast, List.getD_eq_getElem?_getD, e1]
  rfl
 rw [this]
 exact e3
def spWP : Sp := fun vs H Q _ => ∃ (wv : V) (n : Int) (ps : List (Int × Int)), vs = [wv] /\ WebAt H wv n ps /\ ps.length <= 8 /\ ∀ t H', Same H H' -> H' t = some (.tup ((ups ps.length).map V.int)) -> Q (.ref t) H'
def Ks (m : Nat) (ks : List Int) : Prop := ∀ k ∈ ks, 0 <= k /\ k < (m : Int)
def zsi (K : W.Frag) : Sp := fun vs H Q _ => ∃ (wv : V) (pk : Addr) (n : Int) (ps : List (Int × Int)) (ks : List Int), vs = [wv, .ref pk] /\ WebAt H wv n ps /\ 1 <= n /\ n <= 9 /\ (∀ p ∈ ps, InN n p) /\ SqT K H pk (ks.map V.int) /\ Ks ps.length ks /\
 ∀ l H', Same H H' -> H' l = some (.lst ((hdF ps (ups n) ks).map V.int)) -> Q (.ref l) H'
theorem zee {n : Nat} (h : n <= 10) : n < sizeLine := Nat.lt_of_le_of_lt h (by decide)
section
variable {P : Program} {w : World} {K : W.Frag} {mg : Str -> Option Value} {base : Heap}
theorem scHeads : zan ["web", "pick", "heads", "k", "tie", "low", "high"] ["web", "pick"] (zad zit) := ⟨rfl, rfl, rfl, by decide +kernel, rfl, by decide +kernel, by decide +kernel⟩
theorem nd3 : (["head", "high", "low"] : List Str).Nodup := by decide +kernel
theorem zCi (T : Txt K mg) (S : Src K mg "heads_of" zit ["web", "pick"]) : Def P w K mg base 1 "heads_of" ["web", "pick"] (zsi K) := by
 refine S.def scHeads (fun vs H Q E h => ?_) (fun f cdv A outer s H vs Q E hr h => ?_)
 ·obtain ⟨_, _, _, _, _, rfl, _⟩ := h; rfl
 ·obtain ⟨wv, pk, n, ps, ks, rfl, W, n1, n9, hb, hk, hks, q⟩ := h
  obtain ⟨c, d, xs, rfl, hc, hd, ht⟩ := W.ex
  obtain ⟨m, rfl⟩ := Int.eq_ofNat_of_zero_le (show 0 <= n by lia)
  refine ⟨_, zae (zap (i := 2) scHeads.nd rfl (Or.inl rfl) (zbh (zdm rfl) rfl T.list zeo (zaa (zbh zcy rfl T.range zcz (zaa (pe_ix (zav K) (pv 0) zaf (fun _ _ => rfl)) zac)) zac)))
   (zae (zcb PassesOwn.never rfl (zbi K .t (pv 1)) (zak (i := 3) scHeads.nd rfl (Or.inl rfl))
    (zae (zap (i := 4) scHeads.nd rfl (Or.inl rfl) (pe_ix (zav K) (pe_ix (zav K) (pv 0) zaf (fun _ _ => rfl)) (pv 3) (fun _ _ => rfl)))
    (zae (zap (i := 5) scHeads.nd rfl (Or.inr rfl) (zaz (zmh rfl) (by rfl) T.min zml (zaa (pe_ix (zbk K) (pv 2) (pe_ix (zav K) (pv 4) zaf (fun _ _ => rfl)) (fun _ _ => rfl)) (zaa (pe_ix (zbk K) (pv 2) (pe_ix (zav K) (pv 4) zaf (fun _ _ => rfl)) (fun _ _ => rfl)) zac))))
    (zae (zap (i := 6) scHeads.nd rfl (Or.inr rfl) (zaz (zmi rfl) (by rfl) T.max zmm (zaa (pe_ix (zbk K) (pv 2) (pe_ix (zav K) (pv 4) zaf (fun _ _ => rfl)) (fun _ _ => rfl)) (zaa (pe_ix (zbk K) (pv 2) (pe_ix (zav K) (pv 4) zaf (fun _ _ => rfl)) (fun _ _ => rfl)) zac))))
    (zag (zqy (i := 2) scHeads.nd rfl (Or.inl rfl) (N' := ["head", "high", "low"]) (fr := [none, some 6, some 5]) (zbn (by rfl)) rfl (zbi K .l (pv 2))
     (fun _ _ _ _ => zak (i := 0) nd3 rfl (Or.inl rfl) (Or.inr rfl)) (fun _ _ _ _ => zck)
     (fun _ _ _ _ => zgu (zcp op_eq (pv 0) (pv 1) (zch _)) (pv 2) (pv 0))))))))
   (zag (zaw (pv 2)))), ?_⟩
  have i0 : atI ([.int m, .ref d] : List V) 0 = some (.int m) := zar (j := 0) rfl
  have i1 : atI ([.int m, .ref d] : List V) 1 = some (.ref d) := zar (j := 1) rfl
  refine ⟨_, rfl, c, _, _, _, rfl, rfl, SqT.of hc, i0, _, rfl, fun p hp => ⟨p, m, rfl, zab, by lia, fun l hl => ?_⟩⟩
  have s1 := (Same.new (o := HO.rng 0 m) hp).trans (Same.new (o := HO.lst (upN m)) hl)
  have hl1 : (upd (upd H p (.rng 0 m)) l (.lst (upN m))) l = some (.lst ((ups m).map V.int)) := by rw [zab, zha]
  generalize upd (upd H p (.rng 0 m)) l (.lst (upN m)) = H1 at s1 hl1 ⊢
  refine ⟨_, rfl, pk, rfl, ⟨_, s1.tup hk⟩, zqd (k := .t) (K := K) (a := pk) (xs := ks.map V.int) (fun i σ H' => ∃ l u v t r, σ = [some (.ref c), some (.ref pk), some (.ref l), u, v, t, r] /\ Same H H' /\ H' l = some (.lst ((hdF ps (ups m) (ks.take i)).map V.int))) ⟨l, _, _, _, _, rfl, s1, hl1⟩ (fun i σ H' _ ⟨_, _, _, _, _, _, z, _⟩ => z.tup hk) ?_ ?_⟩
  ·rintro i x σ H' hx ⟨l, u, v, t, r, rfl, sm, hl⟩
   obtain ⟨k, ek, rfl⟩ : ∃ k, ks[i]? = some k /\ V.int k = x := by
    rw [List.getElem?_map] at hx
    cases e : ks[i]? with
    | none => rw [e] at hx; simp at hx
    | some k => rw [e] at hx; simp at hx; exact ⟨k, rfl, hx⟩
   obtain ⟨k0, kl⟩ := hks k (List.mem_of_getElem? ek)
   obtain ⟨tc, et, htc⟩ := zzx ht k0 kl
   obtain ⟨b1, b2, b3, b4⟩ := zdq hb k0 kl
   generalize hhs : hdF ps (ups m) (ks.take i) = hs at hl
   have hsl : hs.length = m := by rw [<- hhs, zkh, zbc]; simp
   have t0 : atI ([.int (tieN ps k).1, .int (tieN ps k).2] : List V) 0 = some (.int (tieN ps k).1) := zar (j := 0) rfl
   have t1 : atI ([.int (tieN ps k).1, .int (tieN ps k).2] : List V) 1 = some (.int (tieN ps k).2) := zar (j := 1) rfl
   have a0 := zji (l := hs) (i := (tieN ps k).1) b1 (by lia)
   have a1 := zji (l := hs) (i := (tieN ps k).2) b3 (by lia)
   have htc' := sm _ _ htc
   dsimp only [gName, List.set]
   refine ⟨_, rfl, c, _, _, _, rfl, rfl, SqT.of (sm _ _ hc), i1, _, rfl, d, _, _, _, rfl, rfl, SqT.of (sm _ _ hd), et, ?_⟩
   refine ⟨_, rfl, _, rfl, tc, _, _, _, rfl, rfl, SqT.of htc', t0, l, _, _, _, rfl, rfl, SqL.of hl, a0, _, rfl, _, rfl, tc, _, _, _, rfl, rfl, SqT.of htc', t1, l, _, _, _, rfl, rfl, SqL.of hl, a1, _, _, rfl, ?_⟩
   refine ⟨_, rfl, _, rfl, tc, _, _, _, rfl, rfl, SqT.of htc', t0, l, _, _, _, rfl, rfl, SqL.of hl, a0, _, rfl, _, rfl, tc, _, _, _, rfl, rfl, SqT.of htc', t1, l, _, _, _, rfl, rfl, SqL.of hl, a1, _, _, rfl, ?_⟩
   generalize hlow : (if at0 hs (tieN ps k).2 < at0 hs (tieN ps k).1 then at0 hs (tieN ps k).2 else at0 hs (tieN ps k).1) = low
   generalize hhigh : (if at0 hs (tieN ps k).2 > at0 hs (tieN ps k).1 then at0 hs (tieN ps k).2 else at0 hs (tieN ps k).1) = high
   refine ⟨_, rfl, l, rfl, ⟨_, SqL.of hl⟩, zct (k := .l) (a := l) (xs := hs.map V.int) (fun σ => ∃ v, σ = [v, some (.int high), some (.int low)]) (fun j ys H2 => H2 = H' /\ ys = (hs.take j).map fun h => V.int (if h = high then low else h)) ⟨_, rfl⟩ ⟨rfl, rfl⟩ (by rw [List.length_map]; exact zee (by lia)) (fun j ys H2 _ z => SqL.of (by rw [z.1]; exact hl)) ?_ ?_⟩
   ·rintro j x ys σ H2 N hx ⟨u, rfl⟩ ⟨rfl, rfl⟩ hN
    obtain ⟨h0, eh, rfl⟩ : ∃ h0, hs[j]? = some h0 /\ V.int h0 = x := by
     rw [List.getElem?_map] at hx
     cases e : hs[j]? with
     | none => rw [e] at hx; simp at hx
     | some k => rw [e] at hx; simp at hx; exact ⟨k, rfl, hx⟩
    dsimp only [gName, List.set]
    refine yesT ?_
    refine ⟨_, rfl, _, rfl, rfl, _, rfl, ?_⟩
    by_cases he : h0 = high
    ·rw [decide_eq_true (show V.int h0 = V.int high by rw [he])]
     refine iteT ⟨_, rfl, ?_⟩
     refine hN _ _ _ ⟨_, rfl⟩ ⟨rfl, ?_⟩ (by simp)
     rw [zai eh, List.map_append, List.map_cons, List.map_nil, if_pos he]
    ·rw [decide_eq_false (show ¬ V.int h0 = V.int high from fun z => he (by injection z))]
     refine iteF ⟨_, rfl, ?_⟩
     refine hN _ _ _ ⟨_, rfl⟩ ⟨rfl, ?_⟩ (by simp)
     rw [zai eh, List.map_append, List.map_cons, List.map_nil, if_neg he]
   ·rintro ys H2 ⟨rfl, rfl⟩ p2 hp2
    refine ⟨p2, _, _, _, _, rfl, sm.trans (Same.new hp2), ?_⟩
    rw [zab, zai ek, zkg, hhs]
    unfold stepH
    rw [hlow, hhigh, List.length_map, List.take_length, List.map_map]
    rfl
  ·rintro σ H' ⟨l, u, v, t, r, rfl, sm, hl⟩
   rw [List.length_map, List.take_length] at hl
   exact ⟨_, rfl, q l H' sm hl⟩
end
def spWPF : Sp := fun vs H Q _ => ∃ (wv : V) (n : Int) (ps : List (Int × Int)), vs = [wv] /\ WebAt H wv n ps /\ ps.length <= 8 /\ ∀ t H', Same H H' -> FzT H' t ((ups ps.length).map V.int) -> Q (.ref t) H'
section
variable {P : Program} {w : World} {K : W.Frag} {mg : Str -> Option Value} {base : Heap}
theorem scWP : zan ["web"] ["web"] (zad zhg) := ⟨rfl, rfl, rfl, by decide +kernel, rfl, by decide +kernel, by decide +kernel⟩
theorem d_wp (T : Txt K mg) (S : Src K mg "whole_pick" zhg ["web"]) : Def P w K mg base 1 "whole_pick" ["web"] spWPF := by
 refine S.def scWP (fun vs H Q E h => ?_) (fun f cdv A outer s H vs Q E hr h => ?_)
 ·obtain ⟨i, _, _, rfl, _⟩ := h; rfl
 ·obtain ⟨wv, n, ps, rfl, W, hl8, q⟩ := h
  obtain ⟨c, d, xs, rfl, hc, hd, ht⟩ := W.ex
  have xl : xs.length = ps.length := Paired.length ht
  refine ⟨_, zag (zaw (zbh (zia rfl) rfl T.tuple zdn (zaa (zbh zcy rfl T.range zcz (zaa (zaz (zbx K) (by rfl) T.len PySem.boot_len (zaa (pe_ix (zav K) (pv 0) zaf (fun _ _ => rfl)) zac)) zac)) zac))), ?_⟩
  have i1 : atI ([.int n, .ref d] : List V) 1 = some (.ref d) := zar (j := 1) rfl
  refine ⟨_, rfl, c, _, _, _, rfl, rfl, SqT.of hc, i1, d, xs, rfl, .inr (SqT.of hd), _, rfl, fun p hp => ⟨p, xs.length, rfl, zab, by lia, fun l o oc od hl => ?_⟩⟩
  refine q l _ ((Same.new hp).trans (Same.new hl)) ?_
  rw [zha, xl]
  exact FzT.new oc od
end
def zse (K : W.Frag) : Sp := fun vs H Q _ => ∃ (wv : V) (pk : Addr) (n : Int) (ps : List (Int × Int)) (ks : List Int), vs = [wv, .ref pk] /\ WebAt H wv n ps /\ 1 <= n /\ n <= 9 /\ (∀ p ∈ ps, InN n p) /\ SqT K H pk (ks.map V.int) /\ Ks ps.length ks /\
 ∀ H', Same H H' -> Q (.int (n - (zau (hdF ps (ups n) ks) : Int))) H'
section
variable {P : Program} {w : World} {K : W.Frag} {mg : Str -> Option Value} {base : Heap}
theorem zDj : zan ["web", "pick"] ["web", "pick"] (zad sRank) := ⟨rfl, rfl, rfl, by decide +kernel, rfl, by decide +kernel, by decide +kernel⟩
theorem zEo (T : Txt K mg) (hset : mg "set" = none) (S : Src K mg "rank_of" sRank ["web", "pick"]) (DH : Def P w K mg base 1 "heads_of" ["web", "pick"] (zsi K)) : Def P w K mg base 2 "rank_of" ["web", "pick"] (zse K) := by
 refine S.def zDj (fun vs H Q E h => ?_) (fun f cdv A outer s H vs Q E hr h => ?_)
 ·obtain ⟨_, _, _, _, _, rfl, _⟩ := h; rfl
 ·obtain ⟨wv, pk, n, ps, ks, rfl, W, n1, n9, hb, hk, hks, q⟩ := h
  obtain ⟨c, d, xs, rfl, hc, hd, ht⟩ := W.ex
  refine ⟨_, zag (zaw (pe_op zhm (pe_ix (zav K) (pv 0) zaf (fun _ _ => rfl)) (zaz zkp (by rfl) T.len PySem.boot_len (zaa (zbh (zko rfl) rfl hset zwa (zaa (zaj DH hr rfl (zaa (pv 0) (zaa (pv 1) zac))) zac)) zac)))), ?_⟩
  have i0 : atI ([.int n, .ref d] : List V) 0 = some (.int n) := zar (j := 0) rfl
  refine ⟨_, rfl, c, _, _, _, rfl, rfl, SqT.of hc, i0, _, rfl, _, rfl, .ref c, pk, n, ps, ks, rfl, W, n1, n9, hb, hk, hks, fun l H1 s1 hl => ?_⟩
  refine ⟨l, _, rfl, SqL.of hl, by rw [zkh, zbc]; lia, fun a S0 ha => ⟨a, S0, _, rfl, zab, _, _, rfl, rfl, ?_⟩⟩
  exact q _ (s1.trans (Same.new ha))
end
def zjq (K : W.Frag) : Sp := fun vs H Q _ => ∃ (wv : V) (n : Int) (ps : List (Int × Int)), vs = [wv] /\ WebAt H wv n ps /\ 1 <= n /\ n <= 9 /\ (∀ p ∈ ps, InN n p) /\ ps.length <= 8 /\
 ∀ H', Same H H' -> Q (.int (n - (zau (hdF ps (ups n) (ups ps.length)) : Int))) H'
theorem zcf (m : Nat) : Ks m (ups m) := by
 intro k hk
 unfold ups at hk
 obtain ⟨i, hi, rfl⟩ := List.mem_map.mp hk
 have : i < (m : Int).toNat := List.mem_range.mp hi
 lia
section
variable {P : Program} {w : World} {K : W.Frag} {mg : Str -> Option Value} {base : Heap}
theorem zAi : zan ["web"] ["web"] (zad zio) := ⟨rfl, rfl, rfl, by decide +kernel, rfl, by decide +kernel, by decide +kernel⟩
theorem zCc (S : Src K mg "rank_of_web" zio ["web"]) (DP : Def P w K mg base 1 "whole_pick" ["web"] spWPF) (DR : Def P w K mg base 2 "rank_of" ["web", "pick"] (zse K)) : Def P w K mg base 3 "rank_of_web" ["web"] (zjq K) := by
 refine S.def zAi (fun vs H Q E h => ?_) (fun f cdv A outer s H vs Q E hr h => ?_)
 ·obtain ⟨_, _, _, rfl, _⟩ := h; rfl
 ·obtain ⟨wv, n, ps, rfl, W, n1, n9, hb, hl8, q⟩ := h
  have hr1 : Room 1 _ := hr.mono (by decide)
  have hr2 : Room 2 _ := hr.mono (by decide)
  refine ⟨_, zag (zaw (zaj DR hr2 rfl (zaa (pv 0) (zaa (zaj DP hr1 rfl (zaa (pv 0) zac)) zac)))), ?_⟩
  refine ⟨_, rfl, _, rfl, wv, n, ps, rfl, W, hl8, fun t H1 s1 ht1 => ?_⟩
  exact ⟨wv, t, n, ps, ups ps.length, rfl, W.same s1, n1, n9, hb, FzT.sq ht1, zcf _, fun H2 s2 => q H2 (s1.trans s2)⟩
end
end My
namespace My
def first (p : List Int) : Int := match p.getLast? with | none => 0 | some x => x + 1
def more (m : Int) (p : List Int) : List (List Int) := (List.range (m - first p).toNat).map fun (k : Nat) => p ++ [first p + (k : Int)]
def level (m : Int) : Nat -> List (List Int)
 | 0 => [[]]
 | s + 1 => (level m s).flatMap (more m)
def upto (m : Int) : Nat -> List (List Int)
 | 0 => []
 | s + 1 => upto m s ++ level m s
def zzl (z : Bool) : List Int -> List Int -> Bool
 | [], _ => z
 | _ :: _, [] => z
 | x :: xs, y :: ys => if x = y then zzl z xs ys else decide (x <= y)
def leq (p q : List Int) : Bool := if p.length = q.length then zzl (decide (p.length <= q.length)) p q else decide (p.length <= q.length)
def ziv : List Int -> Bool
 | [] => true
 | [_] => true
 | x :: y :: r => decide (x < y) && ziv (y :: r)
def zgd (m : Int) (p : List Int) : Bool := p.all (fun x => decide (0 <= x) && decide (x < m)) && ziv p && decide (p.length <= 8)
def zng : List (List Int) -> Bool
 | [] => true
 | [_] => true
 | p :: q :: r => decide (p ≠ q) && !leq q p && zng (q :: r)
def chk (m : Int) : Bool :=
 (level m (m.toNat + 1)).isEmpty && (List.range (m.toNat + 1)).all (fun j => !(level m j).isEmpty && decide ((level m j).length <= 100) && decide ((upto m j).length <= 300)) && decide ((upto m (m.toNat + 1)).length = 2 ^ m.toNat) &&
 (upto m (m.toNat + 1)).all (zgd m) && zng (upto m (m.toNat + 1)) && decide ((upto m (m.toNat + 1)).length <= 300)
theorem zCl : ∀ m ∈ ([0, 1, 2, 3, 4, 5, 6, 7, 8] : List Int), chk m = true := by decide +kernel
end My
namespace My
theorem zFb {m : Int} (h0 : 0 <= m) (h8 : m <= 8) : chk m = true := by
 refine zCl m ?_
 have : m = 0 \/ m = 1 \/ m = 2 \/ m = 3 \/ m = 4 \/ m = 5 \/ m = 6 \/ m = 7 \/ m = 8 := by lia
 rcases this with rfl | rfl | rfl | rfl | rfl | rfl | rfl | rfl | rfl <;> decide
structure zwi (m : Int) : Prop where
 fin : level m (m.toNat + 1) = []
 ne : ∀ j, j <= m.toNat -> level m j ≠ []
 len : ∀ j, j <= m.toNat + 1 -> (level m j).length <= 100
 ulen : ∀ j, j <= m.toNat + 1 -> (upto m j).length <= 300
 many : (upto m (m.toNat + 1)).length = 2 ^ m.toNat
 ok : ∀ p ∈ upto m (m.toNat + 1), zgd m p = true
 ord : zng (upto m (m.toNat + 1)) = true
theorem zpd {m : Int} (h0 : 0 <= m) (h8 : m <= 8) : zwi m := by
 have h := zFb h0 h8
 unfold chk at h
 simp only [Bool.and_eq_true, List.all_eq_true, decide_eq_true_eq, Bool.not_eq_true', List.mem_range] at h
 obtain ⟨⟨⟨⟨⟨h1, h2⟩, h3⟩, h4⟩, h5⟩, h6⟩ := h
 have e1 : level m (m.toNat + 1) = [] := List.isEmpty_iff.mp h1
 refine ⟨e1, fun j hj e => ?_, fun j hj => ?_, fun j hj => ?_, h3, h4, h5⟩
 ·have := (h2 j (by lia)).1.1
  rw [e] at this
  cases this
 ·by_cases hj' : j = m.toNat + 1
  ·rw [hj', e1]; exact Nat.zero_le _
  ·exact (h2 j (by lia)).1.2
 ·by_cases hj' : j = m.toNat + 1
  ·rw [hj']; exact h6
  ·exact (h2 j (by lia)).2
theorem zoc {m : Int} {p : List Int} : ∀ {n j : Nat}, j < n -> p ∈ level m j -> p ∈ upto m n
 | n + 1, j, h, hp => by
  show p ∈ upto m n ++ level m n
  by_cases e : j = n
  ·subst e; exact List.mem_append_right _ hp
  ·exact List.mem_append_left _ (zoc (by lia) hp)
theorem zdv {m : Int} {p : List Int} (h : zgd m p = true) : (∀ x ∈ p, 0 <= x /\ x < m) /\ ziv p = true /\ p.length <= 8 := by
 unfold zgd at h
 simp only [Bool.and_eq_true, List.all_eq_true, decide_eq_true_eq] at h
 exact ⟨fun x hx => h.1.1 x hx, h.1.2, h.2⟩
theorem zqh {m : Int} {p : List Int} (h : ∀ x ∈ p, 0 <= x /\ x < m) (h0 : 0 <= m) : 0 <= first p /\ first p <= m := by
 unfold first
 cases e : p.getLast? with
 | none => exact ⟨Int.le_refl _, h0⟩
 | some x =>
  have := h x (List.mem_of_getLast? e)
  simp only
  lia
end My
namespace My
open PySem L2
def TupAt (H : Hp) (v : V) (p : List Int) : Prop := ∃ a, v = .ref a /\ H a = some (.tup (p.map V.int))
theorem TupAt.same {H H' : Hp} {v : V} {p : List Int} (h : TupAt H v p) (e : Same H H') : TupAt H' v p := let ⟨a, h1, h2⟩ := h; ⟨a, h1, e _ _ h2⟩
theorem zbq {H H' : Hp} {xs : List V} {ps : List (List Int)} (h : Paired (TupAt H) xs ps) (e : Same H H') : Paired (TupAt H') xs ps := L2.Paired.mapP h fun _ _ q => q.same e
theorem zjz {α β : Type} {F : α -> β -> Prop} : ∀ {l₁ m₁ : List α} {l₂ m₂ : List β}, Paired F l₁ l₂ -> Paired F m₁ m₂ -> Paired F (l₁ ++ m₁) (l₂ ++ m₂)
 | _, _, _, _, .nil, h => h
 | _, _, _, _, .cons r t, h => .cons r (zjz t h)
theorem zfc {g : Addr} {H H' : Hp} {zs xs : List V} {ps : List (List Int)} (hg : H g = some (.lst zs)) (b : ∀ c o, c ≠ g -> H c = some o -> H' c = some o) (h : Paired (TupAt H) xs ps) : Paired (TupAt H') xs ps :=
 L2.Paired.mapP h fun _ _ ⟨a, e1, e2⟩ => ⟨a, e1, b _ _ (ne_of e2 hg (by intro z; cases z)) e2⟩
theorem Same.put' {H H2 : Hp} {p : Addr} {o : HO} (s : Same H H2) (h : H p = none) : Same H (upd H2 p o) := fun b u e => by rw [zas (zao e h)]; exact s b u e
def zyr (K : W.Frag) : Sp := fun vs H Q _ => ∃ (l : Addr) (m : Int) (xs : List V) (ps : List (List Int)), vs = [.ref l, .int m] /\ H l = some (.lst xs) /\ Paired (TupAt H) xs ps /\ 0 <= m /\ m <= 8 /\ ps.length <= 100 /\ (∀ p ∈ ps, zgd m p = true) /\
 ∀ g ys H', Same H H' -> H g = none -> H' g = some (.lst ys) -> Paired (TupAt H') ys (ps.flatMap (more m)) -> Q (.ref g) H'
theorem zpp {m : Int} {p : List Int} (h : zgd m p = true) (h0 : 0 <= m) (h8 : m <= 8) : (more m p).length <= 8 := by
 have := zqh (zdv h).1 h0
 unfold more
 rw [List.length_map, List.length_range]
 lia
theorem zqg {m : Int} (h0 : 0 <= m) (h8 : m <= 8) : ∀ {ps : List (List Int)}, (∀ p ∈ ps, zgd m p = true) -> (ps.flatMap (more m)).length <= 8 * ps.length
 | [], _ => by simp
 | p :: ps, h => by
  rw [List.flatMap_cons, List.length_append, List.length_cons]
  have h1 := zpp (h p (List.mem_cons_self)) h0 h8
  have h2 := zqg h0 h8 (ps := ps) fun q hq => h q (List.mem_cons_of_mem _ hq)
  lia
section
variable {P : Program} {w : World} {K : W.Frag} {mg : Str -> Option Value} {base : Heap}
theorem scMore : zan ["picks", "many", "greater", "pick", "first"] ["picks", "many"] (zad sMore) := ⟨rfl, rfl, rfl, by decide +kernel, rfl, by decide +kernel, by decide +kernel⟩
theorem zEr (T : Txt K mg) (S : Src K mg "with_one_more" sMore ["picks", "many"]) : Def P w K mg base 1 "with_one_more" ["picks", "many"] (zyr K) := by
 refine S.def scMore (fun vs H Q E h => ?_) (fun f cdv A outer s H vs Q E hr h => ?_)
 ·obtain ⟨l, m, xs, ps, rfl, _⟩ := h; rfl
 ·obtain ⟨l, m, xs, ps, rfl, hl, hp, m0, m8, hlen, hok, q⟩ := h
  have xl : xs.length = ps.length := Paired.length hp
  refine ⟨_, zae (zap (i := 2) scMore.nd rfl (Or.inl rfl) (zbu zac))
   (zae (zcb PassesOwn.never rfl (ztn (pv 0)) (zak (i := 3) scMore.nd rfl (Or.inr rfl))
    (zae (zap (i := 4) scMore.nd rfl (Or.inl rfl) (zgu (zgs (pv 3) (fun _ => rfl)) (pe_op zdu (pe_ix (zav K) (pv 3) (pe_un zdo zaf) (fun _ _ => rfl)) zaf) zaf))
    (zag (zcx (pe_bm PySem.F.plainAttrs_list PySem.F.slot_list_extend PySem.F.type_list_extend zdx (pv 2) (zaa (zci (N' := ["k", "pick"]) (fr := [none, some 3]) (zbn (by rfl)) rfl (ztm rfl T.range (zaa (pv 4) (zaa (pv 1) zac)))
     (fun _ _ _ _ => zak (i := 0) (show (["k", "pick"] : List Str).Nodup by decide +kernel) rfl (Or.inl rfl) (Or.inr rfl)) (fun _ _ _ _ => zck)
     (fun _ _ _ _ => pe_op (r := fun x y H Q => rCat0 K x y H Q \/ rCatT K x y H Q) (OpR.or ztv ztu) (pv 1) (zbj (zaa (pv 0) zac)))) zac))))))
   (zag (zaw (pv 2)))), ?_⟩
  refine ⟨Nat.zero_le _, fun g hg => ?_⟩
  have ngl : l ≠ g := zao hl hg
  have s0 := Same.new (o := HO.lst []) hg
  have g0 : (upd H g (.lst [])) g = some (.lst []) := zab
  generalize upd H g (.lst []) = H1 at s0 g0 ⊢
  refine ⟨_, rfl, l, rfl, ⟨_, SqL.of (s0 _ _ hl)⟩, zqe (K := K) (a := l) (xs := xs) (fun i σ H2 => (∃ u v, σ = [some (.ref l), some (.int m), some (.ref g), u, v]) /\ Same H H2 /\ ∃ ys, H2 g = some (.lst ys) /\ Paired (TupAt H2) ys ((ps.take i).flatMap (more m)))
   ⟨⟨_, _, rfl⟩, s0, [], g0, .nil⟩ (fun i σ H2 _ z => SqL.of (z.2.1 _ _ hl)) ?_ ?_⟩
  ·rintro i x σ H2 hx ⟨⟨u, v, rfl⟩, s2, ys, hg2, hy⟩
   obtain ⟨p, e1, c, rfl, hc⟩ := Paired.at hp hx
   have pm : p ∈ ps := List.mem_of_getElem? e1
   have ok := zdv (hok p pm)
   have fn := zqh ok.1 m0
   have hc2 := s2 _ _ hc
   have fin : ∀ (f : Int), f = first p -> tDrop (tBM K "list" zth (tVar 2) (tCons (tComp (iRng2 (tCons (tVar 4) (tCons (tVar 1) tNil))) [none, some 3] (gName 0) tYes
     (tOp (fun x y H Q => rCat0 K x y H Q \/ rCatT K x y H Q) (tVar 1) (tTup (tCons (tVar 0) tNil)))) tNil))
     { nx := fun σ H2 => (∃ u v, σ = [some (.ref l), some (.int m), some (.ref g), u, v]) /\ Same H H2 /\ ∃ ys, H2 g = some (.lst ys) /\ Paired (TupAt H2) ys ((ps.take (i + 1)).flatMap (more m)), rt := Q } [some (.ref l), some (.int m), some (.ref g), some (.ref c), some (.int f)] H2 := by
    rintro f rfl
    refine ⟨_, rfl, .inl ⟨rfl, _, SqL.of hg2⟩, _, rfl, _, rfl, _, _, rfl, ⟨by lia, by lia, by lia, by lia⟩, ?_⟩
    refine zri (S := fun σ => ∃ v, σ = [v, some (.ref c)]) (Pv := fun j zs H3 => Same H2 H3 /\ Paired (TupAt H3) zs ((List.range j).map fun (k : Nat) => p ++ [first p + (k : Int)])) ⟨_, rfl⟩ ⟨Same.refl _, .nil⟩ (Nat.lt_of_le_of_lt (show (m - first p).toNat <= 8 by lia) (by decide)) ?_ ?_
    ·rintro j zs σ H3 N hj ⟨u', rfl⟩ ⟨s3, hz⟩ hN
     dsimp only [gName, List.set]
     refine yesT ?_
     have hc3 := s3 _ _ hc2
     refine ⟨_, rfl, _, rfl, by show 1 <= sizeLine; decide, fun d hd => ?_⟩
     have s4 := Same.new (o := HO.tup [.int (first p + (j : Int))]) hd
     have hd4 : (upd H3 d (.tup [.int (first p + (j : Int))])) d = some (.tup [.int (first p + (j : Int))]) := zab
     generalize upd H3 d (.tup [.int (first p + (j : Int))]) = H4 at s4 hd4 ⊢
     have go : ∀ (v : V) (H5 : Hp), Same H4 H5 -> TupAt H5 v (p ++ [first p + (j : Int)]) -> N (zs ++ [v]) [some (.int (first p + (j : Int))), some (.ref c)] H5 := fun v H5 s5 hv => by
      refine hN _ _ _ ⟨_, rfl⟩ ⟨s3.trans (s4.trans s5), ?_⟩ (by simp)
      rw [List.range_succ, List.map_append]
      exact L2.Paired.snoc (zbq hz (s4.trans s5)) hv
     cases p with
     | nil =>
      exact .inl ⟨c, d, _, rfl, rfl, SqT.of (s4 _ _ hc3), SqT.of hd4, go _ _ (Same.refl _) ⟨d, rfl, hd4⟩⟩
     | cons p0 pr =>
      refine .inr ⟨c, d, _, _, rfl, rfl, SqT.of (s4 _ _ hc3), SqT.of hd4, by simp, ?_, (fun z => nomatch z), fun _ r hr4 => ?_⟩
      ·have := ok.2.2
       rw [List.length_map]
       exact Nat.le_trans (Nat.add_le_add_right this _) (by show 8 + 1 <= sizeLine; decide)
      ·refine go _ _ (Same.new hr4) ⟨r, rfl, ?_⟩
       rw [List.map_append]
       exact zab
    ·rintro zs H3 ⟨s3, hz⟩ r hr3
     have e2 : (List.range (m - first p).toNat).map (fun (k : Nat) => p ++ [first p + (k : Int)]) = more m p := rfl
     rw [e2] at hz
     have s4 := Same.new (o := HO.lst zs) hr3
     have hr4 : (upd H3 r (.lst zs)) r = some (.lst zs) := zab
     generalize upd H3 r (.lst zs) = H4 at s4 hr4 ⊢
     have hg4 := s4 _ _ (s3 _ _ hg2)
     have y4 := zbq hy (s3.trans s4)
     have z4 := zbq hz s4
     have yl : ys.length = ((ps.take i).flatMap (more m)).length := Paired.length hy
     have zl : zs.length = (more m p).length := Paired.length hz
     have l1 := zqg m0 m8 (ps := ps.take i) fun q hq => hok q (List.mem_of_mem_take hq)
     have l2 := zpp (hok p pm) m0 m8
     have l3 : (ps.take i).length <= 100 := Nat.le_trans (by rw [List.length_take]; exact Nat.min_le_right _ _) hlen
     refine ⟨g, r, ys, zs, rfl, rfl, hg4, hr4, Nat.le_trans (show ys.length + zs.length <= 1000 by lia) (by decide), ?_⟩
     refine ⟨⟨_, _, rfl⟩, Same.put' (s2.trans (s3.trans s4)) hg, ys ++ zs, zab, ?_⟩
     have b : ∀ (cc : Addr) (o : HO), cc ≠ g -> H4 cc = some o -> (upd H4 g (.lst (ys ++ zs))) cc = some o := fun cc o h1 h2 => by rw [zas h1]; exact h2
     rw [zai e1, List.flatMap_append]
     refine zjz (zfc hg4 b y4) ?_
     rw [List.flatMap_cons, List.flatMap_nil, List.append_nil]
     exact zfc hg4 b z4
   refine ⟨_, rfl, _, .inr (.inl ⟨_, SqT.of hc2, rfl⟩), ?_⟩
   cases p with
   | nil => exact iteF (fin 0 rfl)
   | cons p0 pr =>
    refine iteT ?_
    obtain ⟨ini, z, ez⟩ : ∃ ini z, p0 :: pr = ini ++ [z] := ⟨(p0 :: pr).dropLast, (p0 :: pr).getLast (by simp), (List.dropLast_concat_getLast (by simp)).symm⟩
    have ea : atI ((p0 :: pr).map V.int) (-1) = some (V.int z) := by rw [ez, List.map_append]; exact zqp _ _
    refine ⟨_, rfl, _, rfl, c, _, _, _, rfl, rfl, SqT.of hc2, ea, _, _, rfl, rfl, ?_⟩
    refine fin (z + 1) ?_
    rw [ez]
    unfold first
    rw [List.getLast?_append]
    rfl
  ·rintro σ H2 ⟨⟨u, v, rfl⟩, s2, ys, hg2, hy⟩
   rw [show ps.take xs.length = ps by rw [xl]; exact List.take_length] at hy
   exact ⟨_, rfl, q g ys H2 s2 hg hg2 hy⟩
end
def spAll (K : W.Frag) : Sp := fun vs H Q _ => ∃ (wv : V) (n : Int) (ps : List (Int × Int)), vs = [wv] /\ WebAt H wv n ps /\ ps.length <= 8 /\
 ∀ g ys H', Same H H' -> H g = none -> H' g = some (.lst ys) -> Paired (TupAt H') ys (upto (ps.length : Int) (ps.length + 1)) -> Q (.ref g) H'
section
variable {P : Program} {w : World} {K : W.Frag} {mg : Str -> Option Value} {base : Heap}
theorem scAll : zan ["web", "many", "picks", "of_one_size"] ["web"] (zad sAll) := ⟨rfl, rfl, rfl, by decide +kernel, rfl, by decide +kernel, by decide +kernel⟩
theorem d_all (T : Txt K mg) (S : Src K mg "all_picks" sAll ["web"]) (DM : Def P w K mg base 1 "with_one_more" ["picks", "many"] (zyr K)) : Def P w K mg base 2 "all_picks" ["web"] (spAll K) := by
 refine S.def scAll (fun vs H Q E h => ?_) (fun f cdv A outer s H vs Q E hr h => ?_)
 ·obtain ⟨wv, n, ps, rfl, _⟩ := h; rfl
 ·obtain ⟨wv, n, ps, rfl, W, hlen, q⟩ := h
  obtain ⟨c, d, xs, rfl, hc, hd, ht⟩ := W.ex
  have xl : xs.length = ps.length := Paired.length ht
  refine ⟨_, zae (zap (i := 1) scAll.nd rfl (Or.inl rfl) (zaz (zbx K) (by rfl) T.len PySem.boot_len (zaa (pe_ix (zav K) (pv 0) zaf (fun _ _ => rfl)) zac)))
   (zae (zap (i := 2) scAll.nd rfl (Or.inl rfl) (zbu zac))
   (zae (zap (i := 3) scAll.nd rfl (Or.inl rfl) (zbu (zaa (zbj zac) zac)))
   (zae (zoz PassesOwn.never (zgs (pv 3) (fun _ => rfl))
    (zae (zcx (pe_bm PySem.F.plainAttrs_list PySem.F.slot_list_extend PySem.F.type_list_extend zdx (pv 2) (zaa (pv 3) zac)))
    (zag (zap (i := 3) scAll.nd rfl (Or.inl rfl) (zaj DM hr rfl (zaa (pv 3) (zaa (pv 1) zac)))))))
   (zag (zaw (pv 2)))))), ?_⟩
  have i1 : atI ([.int n, .ref d] : List V) 1 = some (.ref d) := zar (j := 1) rfl
  refine ⟨_, rfl, c, _, _, _, rfl, rfl, SqT.of hc, i1, d, xs, rfl, .inr (SqT.of hd), ?_⟩
  rw [xl]
  have m0 : (0 : Int) <= (ps.length : Int) := by lia
  have m8 : (ps.length : Int) <= 8 := by lia
  have PO := zpd m0 m8
  have tn : ((ps.length : Int)).toNat = ps.length := by lia
  rw [<- show ((ps.length : Int)).toNat + 1 = ps.length + 1 by lia] at q
  generalize (ps.length : Int) = m at m0 m8 PO tn q ⊢
  refine ⟨Nat.zero_le _, fun g hg => ?_⟩
  have s1 := Same.new (o := HO.lst []) hg
  have g1 : (upd H g (.lst [])) g = some (.lst []) := zab
  generalize upd H g (.lst []) = H1 at s1 g1 ⊢
  refine ⟨Nat.zero_le _, fun e he => ⟨by show 1 <= sizeLine; decide, fun l hl => ?_⟩⟩
  have s2 := Same.new (o := HO.tup []) he
  have s3 := Same.new (o := HO.lst [.ref e]) hl
  have he2 : (upd (upd H1 e (.tup [])) l (.lst [.ref e])) e = some (.tup []) := s3 _ _ zab
  have hl2 : (upd (upd H1 e (.tup [])) l (.lst [.ref e])) l = some (.lst [.ref e]) := zab
  have s13 := s2.trans s3
  have ngl : g ≠ l := zao (s2 _ _ g1) hl
  generalize upd (upd H1 e (.tup [])) l (.lst [.ref e]) = H3 at he2 hl2 s13 ⊢
  refine ⟨fun k σ H4 => ∃ (j : Nat) (l : Addr) (zs ys : List V), k = m.toNat + 1 - j /\ j <= m.toNat + 1 /\ σ = [some (.ref c), some (.int m), some (.ref g), some (.ref l)] /\ Same H H4 /\ H4 g = some (.lst ys) /\ Paired (TupAt H4) ys (upto m j) /\ H4 l = some (.lst zs) /\ Paired (TupAt H4) zs (level m j) /\ g ≠ l,
   ⟨_, 0, l, _, [], rfl, Nat.zero_le _, rfl, s1.trans s13, s13 _ _ g1, .nil, hl2, .cons ⟨e, rfl, he2⟩ .nil, ngl⟩, ?_⟩
  rintro k σ H4 ⟨j, l, zs, ys, rfl, hj, rfl, s4, hg4, hy, hl4, hz, ngl⟩
  refine ⟨_, rfl, _, .inl ⟨zs, SqL.of hl4, rfl⟩, ?_⟩
  by_cases hjm : j = m.toNat + 1
  ·rw [hjm, PO.fin] at hz
   have ez : zs = [] := by cases hz; rfl
   subst ez
   refine iteF ⟨_, rfl, ?_⟩
   rw [hjm] at hy
   exact q g ys H4 s4 hg hg4 hy
  ·have hj' : j <= m.toNat := by lia
   have nz : zs ≠ [] := fun e => PO.ne j hj' (by rw [e] at hz; cases hh : level m j with | nil => rfl | cons a b => rw [hh] at hz; cases hz)
   have ez : (!zs.isEmpty) = true := by cases zs with | nil => exact absurd rfl nz | cons a b => rfl
   rw [ez]
   refine iteT ⟨fun σ' H' => ∃ (j' : Nat) (l : Addr) (zs ys : List V), j' = j + 1 /\ σ' = [some (.ref c), some (.int m), some (.ref g), some (.ref l)] /\ Same H H' /\ H' g = some (.lst ys) /\ Paired (TupAt H') ys (upto m j') /\ H' l = some (.lst zs) /\ Paired (TupAt H') zs (level m j') /\ g ≠ l,
    fun σ' H' h => (by
     obtain ⟨j', l, zs, ys, e, r⟩ := h
     subst e
     exact ⟨_, Nat.sub_lt_sub_left (Nat.lt_succ_of_le hj') (Nat.lt_succ_self j), j + 1, l, zs, ys, rfl, Nat.succ_le_succ hj', r⟩), ?_⟩
   have yl : ys.length = (upto m j).length := Paired.length hy
   have zl : zs.length = (level m j).length := Paired.length hz
   have b1 := PO.ulen j hj
   have b2 := PO.len j hj
   refine ⟨_, rfl, .inl ⟨rfl, _, SqL.of hg4⟩, _, rfl, g, l, ys, zs, rfl, rfl, hg4, hl4, Nat.le_trans (show ys.length + zs.length <= 1000 by lia) (by decide), ?_⟩
   have bt : ∀ (cc : Addr) (o : HO), cc ≠ g -> H4 cc = some o -> (upd H4 g (.lst (ys ++ zs))) cc = some o := fun cc o h1 h2 => by rw [zas h1]; exact h2
   have s5 : Same H (upd H4 g (.lst (ys ++ zs))) := Same.put' s4 hg
   have hg5 : (upd H4 g (.lst (ys ++ zs))) g = some (.lst (ys ++ zs)) := zab
   have hl5 := bt l _ ngl.symm hl4
   have y5 := zjz (zfc hg4 bt hy) (zfc hg4 bt hz)
   have z5 := zfc hg4 bt hz
   generalize upd H4 g (.lst (ys ++ zs)) = H5 at s5 hg5 hl5 y5 z5 ⊢
   refine ⟨_, rfl, _, rfl, l, m, zs, level m j, rfl, hl5, z5, m0, m8, b2, fun p hp => PO.ok p (zoc (show j < m.toNat + 1 by lia) hp), fun g2 ws H6 s6 f2 hg6 hw => ?_⟩
   exact ⟨j + 1, g2, ws, ys ++ zs, rfl, rfl, s5.trans s6, s6 _ _ hg5, zbq y5 s6, hg6, hw, zao hg5 f2⟩
end
def rkP (n : Int) (ps : List (Int × Int)) (ks : List Int) : Int := n - (zau (hdF ps (ups n) ks) : Int)
def allP (ps : List (Int × Int)) : List (List Int) := upto (ps.length : Int) (ps.length + 1)
def withP (n : Int) (ps : List (Int × Int)) (s r : Int) : List (List Int) := ((allP ps).filter fun p => decide ((p.length : Int) = s)).filter fun p => decide (rkP n ps p = r)
def rkAll (n : Int) (ps : List (Int × Int)) : Int := rkP n ps (ups ps.length)
def zbs (n : Int) (ps : List (Int × Int)) : List (List Int) := withP n ps (rkAll n ps) (rkAll n ps)
def WebOk (n : Int) (ps : List (Int × Int)) : Prop := (1 <= n /\ n <= 9) /\ (∀ p ∈ ps, InN n p) /\ ps.length <= 8
def isTr (n : Int) (ps : List (Int × Int)) (ks : List Int) : Bool := decide ((ks.length : Int) = rkAll n ps) && decide (rkP n ps ks = rkAll n ps)
theorem zwg {ps : List (Int × Int)} (h8 : ps.length <= 8) : zwi (ps.length : Int) := zpd (by lia) (by lia)
theorem zgz {ps : List (Int × Int)} (h8 : ps.length <= 8) : (allP ps).length <= 300 := by
 have := (zwg h8).ulen (ps.length + 1) (by lia)
 exact this
theorem zny {ps : List (Int × Int)} (h8 : ps.length <= 8) {p : List Int} (hp : p ∈ allP ps) : zgd (ps.length : Int) p = true := by
 refine (zwg h8).ok p ?_
 rw [show ((ps.length : Int)).toNat = ps.length by lia]
 exact hp
theorem zcj {ps : List (Int × Int)} (h8 : ps.length <= 8) {p : List Int} (hp : p ∈ allP ps) : Ks ps.length p := fun k hk => (zdv (zny h8 hp)).1 k hk
theorem zdz {n : Nat} (h : n <= 300) : n < sizeLine := Nat.lt_of_le_of_lt h (by decide)
theorem zhu {α : Type} {l : List α} {i : Nat} {x : α} (f : α -> Bool) (e : l[i]? = some x) : (l.take (i + 1)).filter f = (l.take i).filter f ++ (if f x then [x] else []) := by
 rw [zai e, List.filter_append]
 congr 1
 cases h : f x <;> simp [h]
theorem dec_int (a b : Int) : decide (V.int a = V.int b) = decide (a = b) := by
 rw [decide_eq_decide]
 exact ⟨fun z => by injection z, fun z => by rw [z]⟩
end My
namespace My
open PySem L2 PyProof.Rows
theorem zie {l : List Int} {i : Int} (h0 : 0 <= i) (h : i < l.length) : at0 l i ∈ l := zfl (by lia)
theorem zev {l : List Int} {f : Int -> Int} {i : Int} (h0 : 0 <= i) (h : i < l.length) : at0 (l.map f) i = f (at0 l i) := zdk (by lia)
theorem zfp {n i : Int} (h0 : 0 <= i) (h : i < n) : at0 (ups n) i = i := by
 have : i.toNat < n.toNat := by lia
 unfold at0 ups
 simp [List.getD, this]
 lia
theorem mem_ups {n i : Int} : i ∈ ups n ↔ 0 <= i /\ i < n := by
 unfold ups
 rw [List.mem_map]
 constructor
 ·rintro ⟨j, hj, rfl⟩
  have := List.mem_range.mp hj
  lia
 ·rintro ⟨a, b⟩
  exact ⟨i.toNat, List.mem_range.mpr (by lia), by lia⟩
theorem zcl (n : Int) : (ups n).Pairwise (· < ·) := by
 unfold ups
 rw [List.pairwise_map]
 exact List.pairwise_lt_range.imp fun h => by lia
theorem zod {j : Int} (h : 0 <= j) : ups (j + 1) = ups j ++ [j] := by
 unfold ups
 rw [show (j + 1).toNat = j.toNat + 1 by lia, List.range_succ, List.map_append]
 simp
 exact Int.max_eq_left h
structure GH (n : Int) (ps : List (Int × Int)) (ks hs : List Int) : Prop where
 len : (hs.length : Int) = n
 le : ∀ i, 0 <= i -> i < n -> 0 <= at0 hs i /\ at0 hs i <= i
 idem : ∀ i, 0 <= i -> i < n -> at0 hs (at0 hs i) = at0 hs i
 join : ∀ k ∈ ks, at0 hs (tieN ps k).1 = at0 hs (tieN ps k).2
 cl : ∀ F : Int -> Prop, (∀ k ∈ ks, (F (tieN ps k).1 ↔ F (tieN ps k).2)) -> ∀ i, 0 <= i -> i < n -> (F i ↔ F (at0 hs i))
theorem zxy {n : Int} (h1 : 1 <= n) (ps : List (Int × Int)) : GH n ps [] (ups n) where
 len := by rw [zbc]; lia
 le i a b := by rw [zfp a b]; lia
 idem i a b := by rw [zfp a b, zfp a b]
 join k hk := nomatch hk
 cl F _ i a b := by rw [zfp a b]
theorem zBq {n : Int} {ps : List (Int × Int)} {ks hs : List Int} {k : Int} (G : GH n ps ks hs) (hall : ∀ k ∈ ks, InN n (tieN ps k)) (hp : InN n (tieN ps k)) : GH n ps (ks ++ [k]) (stepH hs (tieN ps k)) := by
 generalize hp' : tieN ps k = p at hp ⊢
 obtain ⟨a1, a2, b1, b2⟩ := id hp
 have ln := G.len
 by_cases he : at0 hs p.1 = at0 hs p.2
 ·rw [zca he]
  refine ⟨G.len, G.le, G.idem, fun j hj => ?_, fun F hF i h0 hi => G.cl F (fun j hj => hF j (List.mem_append_left _ hj)) i h0 hi⟩
  rcases List.mem_append.mp hj with z | z
  ·exact G.join j z
  ·rw [List.mem_singleton.mp z, hp']; exact he
 ·obtain ⟨low, high, lh, es, fl, fh, lp, lle, dom⟩ : ∃ low high, low < high /\ stepH hs p = hs.map (fun x => if x = high then low else x) /\ at0 hs low = low /\ at0 hs high = high /\ 0 <= low /\ high < n /\ ((at0 hs p.1 = low /\ at0 hs p.2 = high) \/ (at0 hs p.1 = high /\ at0 hs p.2 = low)) := by
   have la := G.le p.1 a1 a2
   have lb := G.le p.2 b1 b2
   have ia := G.idem p.1 a1 a2
   have ib := G.idem p.2 b1 b2
   by_cases hlt : at0 hs p.2 < at0 hs p.1
   ·refine ⟨at0 hs p.2, at0 hs p.1, hlt, ?_, ib, ia, lb.1, by lia, .inr ⟨rfl, rfl⟩⟩
    unfold stepH
    rw [if_neg (by lia), if_pos hlt]
   ·refine ⟨at0 hs p.1, at0 hs p.2, by lia, ?_, ia, ib, la.1, by lia, .inl ⟨rfl, rfl⟩⟩
    unfold stepH
    rw [if_pos (by lia), if_neg hlt]
  rw [es]
  have am : ∀ i, 0 <= i -> i < n -> at0 (hs.map fun x => if x = high then low else x) i = if at0 hs i = high then low else at0 hs i := fun i h0 hi => zev h0 (by lia)
  refine ⟨by rw [List.length_map]; exact ln, fun i h0 hi => ?_, fun i h0 hi => ?_, fun j hj => ?_, fun F hF i h0 hi => ?_⟩
  ·rw [am i h0 hi]
   have := G.le i h0 hi
   split <;> lia
  ·rw [am i h0 hi]
   have l1 := G.le i h0 hi
   by_cases c : at0 hs i = high
   ·rw [if_pos c, am low lp (by lia), fl, if_neg (by lia)]
   ·rw [if_neg c, am (at0 hs i) l1.1 (by lia), G.idem i h0 hi, if_neg c]
  ·have inj : InN n (tieN ps j) := by
    rcases List.mem_append.mp hj with z | z
    ·exact hall j z
    ·rw [List.mem_singleton.mp z, hp']; exact hp
   obtain ⟨c1, c2, c3, c4⟩ := inj
   rw [am _ c1 c2, am _ c3 c4]
   rcases List.mem_append.mp hj with z | z
   ·rw [G.join j z]
   ·rw [List.mem_singleton.mp z, hp']
    rcases dom with ⟨d1, d2⟩ | ⟨d1, d2⟩ <;> rw [d1, d2] <;> simp
  ·have old := G.cl F (fun j hj => hF j (List.mem_append_left _ hj))
   have fp : F p.1 ↔ F p.2 := by have := hF k (by simp); rw [hp'] at this; exact this
   rw [am i h0 hi, old i h0 hi]
   by_cases c : at0 hs i = high
   ·rw [if_pos c, c]
    have o1 := old p.1 a1 a2
    have o2 := old p.2 b1 b2
    rcases dom with ⟨d1, d2⟩ | ⟨d1, d2⟩
    ·rw [d1] at o1; rw [d2] at o2
     exact o2.symm.trans (fp.symm.trans o1)
    ·rw [d1] at o1; rw [d2] at o2
     exact o1.symm.trans (fp.trans o2)
   ·rw [if_neg c]
theorem gh_go {n : Int} {ps : List (Int × Int)} : ∀ (ks done hs : List Int), (∀ k ∈ done ++ ks, InN n (tieN ps k)) -> GH n ps done hs -> GH n ps (done ++ ks) (hdF ps hs ks)
 | [], done, hs, _, G => by rw [List.append_nil]; exact G
 | k :: ks, done, hs, h, G => by
  have := gh_go ks (done ++ [k]) (stepH hs (tieN ps k)) (by rw [List.append_assoc]; exact h) (zBq G (fun j hj => h j (List.mem_append_left _ hj)) (h k (by simp)))
  rw [List.append_assoc] at this
  exact this
theorem zgg {n : Int} {ps : List (Int × Int)} {ks : List Int} (h1 : 1 <= n) (hb : ∀ p ∈ ps, InN n p) (hk : Ks ps.length ks) : GH n ps ks (hdF ps (ups n) ks) :=
 gh_go ks [] (ups n) (fun k h => zdq hb (hk k h).1 (hk k h).2) (zxy h1 ps)
def under (n : Int) (hs : List Int) (h : Int) : List Int := (ups n).filter fun i => decide (at0 hs i = h)
def hpts (n : Int) (hs : List Int) : List Int := (ups n).filter fun i => decide (at0 hs i = i)
def parts (n : Int) (hs : List Int) : List (List Int) := (hpts n hs).map (under n hs)
theorem zAx {l m : List Int} (p : l.Perm m) (h1 : l.Pairwise (· <= ·)) (h2 : m.Pairwise (· <= ·)) : l = m := List.Perm.eq_of_pairwise (fun a b _ _ h1 h2 => by lia) h1 h2 p
theorem zhf {l m : List Int} (h1 : l.Nodup) (h2 : m.Nodup) (h : ∀ i, i ∈ l ↔ i ∈ m) : l.Perm m := (List.perm_ext_iff_of_nodup h1 h2).mpr h
theorem zls {n : Int} {l : List Int} (h0 : 0 <= n) (nd : l.Nodup) (h : ∀ i ∈ l, 0 <= i /\ i < n) : (l.length : Int) <= n := by
 have p : l.Perm ((ups n).filter fun i => decide (i ∈ l)) := zhf nd (((zcl n).filter _).imp fun h => by lia) fun i => by
  rw [List.mem_filter, mem_ups, decide_eq_true_iff]
  exact ⟨fun z => ⟨h i z, z⟩, fun z => z.2⟩
 have := p.length_eq
 have := List.length_filter_le (fun i => decide (i ∈ l)) (ups n)
 rw [zbc] at this
 lia
theorem zlu {n : Int} {ps : List (Int × Int)} {ks hs : List Int} (G : GH n ps ks hs) : ∀ j : Nat, (j : Int) <= n -> firstMet (fun i => hs.getD i 0) j = (ups j).filter fun i => decide (at0 hs i = i)
 | 0, _ => rfl
 | j + 1, h => by
  have ih := zlu G j (by lia)
  have l1 := G.le j (by lia) (by lia)
  have l2 := G.idem j (by lia) (by lia)
  have ej : hs.getD j 0 = at0 hs j := rfl
  rw [firstMet_succ, ih, show ((j + 1 : Nat) : Int) = (j : Int) + 1 by lia, zod (by lia), List.filter_append, ej]
  unfold step_dedup
  by_cases c : at0 hs j = (j : Int)
  ·have : (((ups j).filter fun i => decide (at0 hs i = i)).any (· == at0 hs j)) = false := by
    rw [List.any_eq_false]
    intro x hx e
    have : x = at0 hs j := by simpa using e
    have := (mem_ups.mp (List.mem_filter.mp hx).1).2
    lia
   rw [this]
   simp [c]
  ·have : (((ups j).filter fun i => decide (at0 hs i = i)).any (· == at0 hs j)) = true := by
    rw [List.any_eq_true]
    exact ⟨at0 hs j, List.mem_filter.mpr ⟨mem_ups.mpr ⟨l1.1, by lia⟩, by simpa using l2⟩, by simp⟩
   rw [this]
   simp [c]
end My
namespace My
open PySem L2 PyProof.Rows
def cN (n : Int) (ps : List (Int × Int)) (ks : List Int) : Int := (zau (hdF ps (ups n) ks) : Nat)
theorem zqu (hs : List Int) (p : Int × Int) : stepH hs (norm p) = stepH hs p := by
 rcases zfx p with ⟨e1, e2⟩ | ⟨e1, e2⟩
 ·unfold stepH; rw [e1, e2]
 ·unfold stepH
  rw [e1, e2]
  have h1 : (if at0 hs p.1 > at0 hs p.2 then at0 hs p.1 else at0 hs p.2) = if at0 hs p.2 > at0 hs p.1 then at0 hs p.2 else at0 hs p.1 := by split <;> split <;> lia
  have h2 : (if at0 hs p.1 < at0 hs p.2 then at0 hs p.1 else at0 hs p.2) = if at0 hs p.2 < at0 hs p.1 then at0 hs p.2 else at0 hs p.1 := by split <;> split <;> lia
  rw [h1, h2]
theorem zqc {ps : List (Int × Int)} : ∀ (ks hs : List Int), Ks ps.length ks -> hdF (ps.map norm) hs ks = hdF ps hs ks
 | [], _, _ => rfl
 | k :: ks, hs, h => by
  show hdF (ps.map norm) (stepH hs (tieN (ps.map norm) k)) ks = hdF ps (stepH hs (tieN ps k)) ks
  obtain ⟨k0, kl⟩ := h k List.mem_cons_self
  rw [zkz k0 kl, zqu, zqc ks _ fun j hj => h j (List.mem_cons_of_mem _ hj)]
theorem zuz {n : Int} {ps : List (Int × Int)} {ks ks' hs hs' : List Int} (G : GH n ps ks hs) (G' : GH n ps ks' hs') (sub : ∀ k ∈ ks, k ∈ ks') {i j : Int} (i0 : 0 <= i) (i1 : i < n) (j0 : 0 <= j) (j1 : j < n) (e : at0 hs i = at0 hs j) : at0 hs' i = at0 hs' j := by
 have c := G.cl (fun x => at0 hs' i = at0 hs' x) fun k hk => by rw [G'.join k (sub k hk)]
 have c1 := c i i0 i1
 rw [e] at c1
 exact (c j j0 j1).mpr (c1.mp rfl)
theorem gh_le {n : Int} {ps : List (Int × Int)} {ks ks' hs hs' : List Int} (G : GH n ps ks hs) (G' : GH n ps ks' hs') (sub : ∀ k ∈ ks, k ∈ ks') {i : Int} (i0 : 0 <= i) (i1 : i < n) : at0 hs' i <= at0 hs i := by
 have l := G.le i i0 i1
 have m := zuz G G' sub l.1 (by lia) i0 i1 (G.idem i i0 i1)
 have l2 := G'.le (at0 hs i) l.1 (by lia)
 lia
theorem zBr {n : Int} {ps : List (Int × Int)} {ks ks' hs hs' : List Int} (G : GH n ps ks hs) (G' : GH n ps ks' hs') (h : ∀ k, k ∈ ks ↔ k ∈ ks') : hs = hs' := by
 have l1 := G.len
 have l2 := G'.len
 apply List.ext_getElem (by lia)
 intro i h1 h2
 have a := gh_le G G' (fun k hk => (h k).mp hk) (i := i) (by lia) (by lia)
 have b := gh_le G' G (fun k hk => (h k).mpr hk) (i := i) (by lia) (by lia)
 have e1 : at0 hs i = hs[i] := by unfold at0; rw [Int.toNat_natCast]; simp [List.getD, h1]
 have e2 : at0 hs' i = hs'[i] := by unfold at0; rw [Int.toNat_natCast]; simp [List.getD, h2]
 lia
section
variable {n : Int} {ps : List (Int × Int)}
theorem zFc (n1 : 1 <= n) (hb : ∀ p ∈ ps, InN n p) {ks ks' : List Int} (h1 : Ks ps.length ks) (h2 : Ks ps.length ks') (h : ∀ k, k ∈ ks ↔ k ∈ ks') : cN n ps ks = cN n ps ks' := by
 unfold cN
 rw [zBr (zgg n1 hb h1) (zgg n1 hb h2) h]
theorem zvx (n1 : 1 <= n) (hb : ∀ p ∈ ps, InN n p) {ks : List Int} {k : Int} (h1 : Ks ps.length ks) (k0 : 0 <= k) (kl : k < ps.length) :
  cN n ps (ks ++ [k]) = cN n ps ks - if at0 (hdF ps (ups n) ks) (tieN ps k).1 = at0 (hdF ps (ups n) ks) (tieN ps k).2 then 0 else 1 := by
 have G := zgg n1 hb h1
 obtain ⟨a1, a2, b1, b2⟩ := zdq hb k0 kl
 unfold cN
 rw [zkg]
 generalize hdF ps (ups n) ks = hs at G ⊢
 have ln := G.len
 by_cases e : at0 hs (tieN ps k).1 = at0 hs (tieN ps k).2
 ·rw [zca e, if_pos e]; lia
 ·obtain ⟨u, v, huv, e1, hu⟩ := zgo e
  have m1 : at0 hs (tieN ps k).1 ∈ hs := zie a1 (by lia)
  have m2 : at0 hs (tieN ps k).2 ∈ hs := zie b1 (by lia)
  have mu : u ∈ hs := by rcases hu with ⟨z, _⟩ | ⟨z, _⟩ <;> rw [z] <;> assumption
  have mv : v ∈ hs := by rcases hu with ⟨_, z⟩ | ⟨_, z⟩ <;> rw [z] <;> assumption
  have := zcn huv mu mv
  rw [e1, if_neg e]
  lia
theorem zax {m : Nat} {X Y : List Int} (h1 : Ks m X) (h2 : Ks m Y) : Ks m (X ++ Y) := fun k hk => by
 rcases List.mem_append.mp hk with z | z
 ·exact h1 k z
 ·exact h2 k z
theorem c_sub (n1 : 1 <= n) (hb : ∀ p ∈ ps, InN n p) : ∀ (D X Y : List Int), Ks ps.length D -> Ks ps.length X -> Ks ps.length Y -> (∀ k ∈ X, k ∈ Y) -> cN n ps Y - cN n ps (Y ++ D) <= cN n ps X - cN n ps (X ++ D)
 | [], X, Y, _, _, _, _ => by simp
 | d :: D, X, Y, hD, hX, hY, sub => by
  obtain ⟨d0, dl⟩ := hD d List.mem_cons_self
  have hd1 : Ks ps.length [d] := fun k hk => by rw [List.mem_singleton.mp hk]; exact ⟨d0, dl⟩
  have ih := c_sub n1 hb D (X ++ [d]) (Y ++ [d]) (fun k hk => hD k (List.mem_cons_of_mem _ hk)) (zax hX hd1) (zax hY hd1) fun k hk => by
   rcases List.mem_append.mp hk with z | z
   ·exact List.mem_append_left _ (sub k z)
   ·exact List.mem_append_right _ z
  rw [List.append_assoc, List.append_assoc] at ih
  have cx := zvx n1 hb hX d0 dl
  have cy := zvx n1 hb hY d0 dl
  obtain ⟨a1, a2, b1, b2⟩ := zdq hb d0 dl
  have mono := zuz (zgg n1 hb hX) (zgg n1 hb hY) sub a1 a2 b1 b2
  have key : cN n ps Y - cN n ps (Y ++ [d]) <= cN n ps X - cN n ps (X ++ [d]) := by
   rw [cx, cy]
   by_cases e : at0 (hdF ps (ups n) X) (tieN ps d).1 = at0 (hdF ps (ups n) X) (tieN ps d).2
   ·rw [if_pos e, if_pos (mono e)]; lia
   ·rw [if_neg e]; split <;> lia
  show cN n ps Y - cN n ps (Y ++ ([d] ++ D)) <= cN n ps X - cN n ps (X ++ ([d] ++ D))
  lia
theorem c_app (n1 : 1 <= n) (hb : ∀ p ∈ ps, InN n p) : ∀ (D X : List Int), Ks ps.length D -> Ks ps.length X -> 0 <= cN n ps X - cN n ps (X ++ D) /\ cN n ps X - cN n ps (X ++ D) <= D.length
 | [], X, _, _ => by simp
 | d :: D, X, hD, hX => by
  obtain ⟨d0, dl⟩ := hD d List.mem_cons_self
  have hd1 : Ks ps.length [d] := fun k hk => by rw [List.mem_singleton.mp hk]; exact ⟨d0, dl⟩
  have ih := c_app n1 hb D (X ++ [d]) (fun k hk => hD k (List.mem_cons_of_mem _ hk)) (zax hX hd1)
  rw [List.append_assoc] at ih
  have cx := zvx n1 hb hX d0 dl
  show 0 <= cN n ps X - cN n ps (X ++ ([d] ++ D)) /\ cN n ps X - cN n ps (X ++ ([d] ++ D)) <= ((D.length + 1 : Nat) : Int)
  split at cx <;> lia
theorem c_nil (n1 : 1 <= n) (n9 : n <= 9) : cN n ps [] = n := zrl n1 n9
theorem zqn (n1 : 1 <= n) (n9 : n <= 9) (hb : ∀ p ∈ ps, InN n p) {A : List Int} (hA : Ks ps.length A) : 0 <= n - cN n ps A /\ n - cN n ps A <= A.length := by
 have := c_app n1 hb A [] hA (fun _ z => nomatch z)
 rw [List.nil_append, c_nil n1 n9] at this
 exact this
theorem zCm (n1 : 1 <= n) (hb : ∀ p ∈ ps, InN n p) {A : List Int} (hA : Ks ps.length A) : ((parts n (hdF ps (ups n) A)).length : Int) = cN n ps A := by
 have G := zgg n1 hb hA
 have ln := G.len
 unfold cN
 generalize hdF ps (ups n) A = hs at G ln ⊢
 have m := zlu G n.toNat (by lia)
 rw [show ((n.toNat : Nat) : Int) = n by lia] at m
 have d := zfa hs n.toNat (by lia)
 rw [List.take_of_length_le (by lia), m] at d
 unfold parts hpts
 rw [List.length_map, d]
end
def mvP (n t : Int) (p : Int × Int) : Int × Int := ((p.1 + t) % n, (p.2 + t) % n)
def mv (n t : Int) (ps : List (Int × Int)) : List (Int × Int) := ps.reverse.map (mvP n t)
def tn (ps : List (Int × Int)) (k : Int) : Int := (ps.length : Int) - 1 - k
end My
namespace My
open PySem L2
def allB : Nat -> List (List Bool)
 | 0 => [[]]
 | m + 1 => (allB m).flatMap fun l => [true :: l, false :: l]
theorem zqq : ∀ {m : Nat} {bs : List Bool}, bs.length = m -> bs ∈ allB m
 | 0, [], _ => List.mem_singleton.mpr rfl
 | 0, _ :: _, h => nomatch h
 | m + 1, [], h => nomatch h
 | m + 1, b :: bs, h => by
  refine List.mem_flatMap.mpr ⟨bs, zqq (by simpa using h), ?_⟩
  cases b <;> simp
def pkL (m : Nat) (bs : List Bool) : List Int := (((ups m).zip bs).filter (·.2)).map (·.1)
def pkN (m b : Nat) : List Int := (((List.range m).filter fun k => b.testBit k).map fun (k : Nat) => (k : Int))
def pw : List (List Int) -> Bool
 | [] => true
 | p :: l => l.all (fun q => !HT.lexLt q p) && pw l
theorem pw_of : ∀ {l : List (List Int)}, pw l = true -> l.Pairwise LexLe
 | [], _ => .nil
 | p :: l, h => by
  have e : pw (p :: l) = (l.all (fun q => !HT.lexLt q p) && pw l) := rfl
  rw [e, Bool.and_eq_true, List.all_eq_true] at h
  exact .cons (fun q hq => by have := h.1 q hq; simpa [LexLe] using this) (pw_of h.2)
def ndB : List (List Int) -> Bool
 | [] => true
 | p :: l => !l.contains p && ndB l
theorem zzf : ∀ {l : List (List Int)}, ndB l = true -> l.Nodup
 | [], _ => .nil
 | p :: l, h => by
  have e : ndB (p :: l) = (!l.contains p && ndB l) := rfl
  rw [e, Bool.and_eq_true] at h
  exact List.nodup_cons.mpr ⟨by simpa using h.1, zzf h.2⟩
def chkM (m : Nat) : Bool :=
 ((List.range (2 ^ m)).map (pkN m)).isPerm (upto m (m + 1)) && ((allB m).all fun bs => (upto m (m + 1)).contains (pkL m bs)) && (List.range (m + 1)).all (fun r => pw ((upto m (m + 1)).filter fun p => decide (p.length = r))) && ndB (upto m (m + 1))
theorem zym : ∀ m ∈ ([0, 1, 2, 3, 4, 5, 6, 7, 8] : List Nat), chkM m = true := by decide +kernel
structure PkOk (m : Nat) : Prop where
 perm : ((List.range (2 ^ m)).map (pkN m)).Perm (upto m (m + 1))
 all : ∀ bs : List Bool, bs.length = m -> pkL m bs ∈ upto m (m + 1)
 nd : (upto m (m + 1)).Nodup
 up : ∀ r, r <= m -> ((upto m (m + 1)).filter fun p => decide (p.length = r)).Pairwise LexLe
theorem pk_ok {m : Nat} (h : m <= 8) : PkOk m := by
 have c : chkM m = true := zym m (by
  have : m = 0 \/ m = 1 \/ m = 2 \/ m = 3 \/ m = 4 \/ m = 5 \/ m = 6 \/ m = 7 \/ m = 8 := by lia
  rcases this with rfl | rfl | rfl | rfl | rfl | rfl | rfl | rfl | rfl <;> decide)
 unfold chkM at c
 rw [Bool.and_eq_true, Bool.and_eq_true, Bool.and_eq_true, List.all_eq_true, List.all_eq_true] at c
 obtain ⟨⟨⟨c1, c2⟩, c3⟩, c4⟩ := c
 refine ⟨List.isPerm_iff.mp c1, fun bs hb => ?_, zzf c4, fun r hr => pw_of (c3 r (List.mem_range.mpr (by lia)))⟩
 have := c2 bs (zqq hb)
 simpa using this
theorem zki (q : Int -> Bool) : ∀ l : List Int, l.filter q = ((l.zip (l.map q)).filter (·.2)).map (·.1)
 | [] => rfl
 | x :: l => by
  rw [List.map_cons, List.zip_cons_cons]
  cases h : q x
  ·rw [List.filter_cons_of_neg (by simp [h]), List.filter_cons_of_neg (by simp), zki q l]
  ·rw [List.filter_cons_of_pos h, List.filter_cons_of_pos (by simp), List.map_cons, zki q l]
theorem up_eq : ∀ {a b : List Int}, a.Pairwise (· < ·) -> b.Pairwise (· < ·) -> (∀ i, i ∈ a ↔ i ∈ b) -> a = b := fun {a b} h1 h2 h =>
 zAx (zhf (h1.imp fun z => by lia) (h2.imp fun z => by lia) h) (h1.imp fun z => by lia) (h2.imp fun z => by lia)
theorem zou {m : Nat} {ks : List Int} (h8 : m <= 8) (hk : Ks m ks) (up : ks.Pairwise (· < ·)) : ks ∈ upto m (m + 1) := by
 have e : ks = (ups m).filter fun i => decide (i ∈ ks) := up_eq up ((zcl m).filter _) fun i => by
  rw [List.mem_filter, mem_ups, decide_eq_true_iff]
  exact ⟨fun z => ⟨hk i z, z⟩, fun z => z.2⟩
 rw [e, zki]
 exact (pk_ok h8).all _ (by rw [List.length_map, zbc]; simp)
theorem ztb : ∀ {p : List Int}, ziv p = true -> p.Pairwise (· < ·)
 | [], _ => .nil
 | [x], _ => List.pairwise_singleton _ _
 | x :: y :: r, h => by
  have e : ziv (x :: y :: r) = (decide (x < y) && ziv (y :: r)) := rfl
  rw [e, Bool.and_eq_true, decide_eq_true_iff] at h
  have ih := ztb h.2
  refine .cons (fun z hz => ?_) ih
  rcases List.mem_cons.mp hz with e | hz
  ·rw [e]; exact h.1
  ·have := (List.pairwise_cons.mp ih).1 z hz
   lia
section
variable {n : Int} {ps : List (Int × Int)}
theorem rkP_c (ks : List Int) : rkP n ps ks = n - cN n ps ks := rfl
theorem zyw (n1 : 1 <= n) (n9 : n <= 9) (hb : ∀ p ∈ ps, InN n p) {ks : List Int} (hk : Ks ps.length ks) : rkP n ps ks = rk n ps ks := by
 rw [<- zAq n1 n9 hb hk, zqc ks _ hk]
 rfl
theorem zbv (h8 : ps.length <= 8) {p : List Int} : p ∈ allP ps ↔ Ks ps.length p /\ p.Pairwise (· < ·) := ⟨fun h => ⟨zcj h8 h, ztb (zdv (zny h8 h)).2.1⟩, fun h => zou h8 h.1 h.2⟩
theorem zks (h8 : ps.length <= 8) : (upto ps.length (ps.length + 1)).Nodup := (pk_ok h8).nd
theorem zxv (h8 : ps.length <= 8) {ks : List Int} (hk : Ks ps.length ks) (up : ks.Pairwise (· < ·)) : isTr n ps ks = decide (ks ∈ zbs n ps) := by
 unfold isTr zbs withP
 rw [Bool.eq_iff_iff, Bool.and_eq_true, decide_eq_true_iff, decide_eq_true_iff, decide_eq_true_iff, List.mem_filter, List.mem_filter, decide_eq_true_iff, decide_eq_true_iff]
 exact ⟨fun z => ⟨⟨zou h8 hk up, z.1⟩, z.2⟩, fun z => ⟨z.1.2, z.2⟩⟩
theorem zdp {p : List Int} (h : p ∈ zbs n ps) : (p.length : Int) = rkAll n ps := by
 unfold zbs withP at h
 have := (List.mem_filter.mp (List.mem_filter.mp h).1).2
 exact of_decide_eq_true this
theorem zrr {p : List Int} (h : p ∈ zbs n ps) : p ∈ allP ps := (List.mem_filter.mp (List.mem_filter.mp h).1).1
end
def spAt (K : W.Frag) : Sp := fun vs H Q _ => ∃ (a : Addr) (ns : List Int) (k : Nat), vs = [.ref a, .int k] /\ SqL K H a (ns.map V.int) /\ Q (.int (ns.getD k 0)) H
theorem zws {H : Hp} {l : Addr} {ys zs : List V} {xs : List V} {ps : List (Int × Int)} (h : Paired (TieAt H) xs ps) (hl : H l = some (.lst ys)) : Paired (TieAt (upd H l (.lst zs))) xs ps := L2.Paired.mapP h fun _ _ ⟨a, h1, h2⟩ => ⟨a, h1, by
 rw [zas (ne_of h2 hl (fun z => nomatch z))]
 exact h2⟩
theorem zxa {H H2 : Hp} {p : Addr} {o : HO} (s : Same H H2) (h : H p = none) : Same H (upd H2 p o) := fun b u e => by rw [zas (zao e h)]; exact s b u e
theorem zdj {ks : List Int} {i : Nat} {x : V} (hx : (ks.map V.int)[i]? = some x) : ∃ k, ks[i]? = some k /\ V.int k = x := by
 rw [List.getElem?_map] at hx
 cases e : ks[i]? with
 | none => rw [e] at hx; simp at hx
 | some k => rw [e] at hx; simp at hx; exact ⟨k, rfl, hx⟩
section
variable {P : Program} {w : World} {K : W.Frag} {mg : Str -> Option Value} {base : Heap}
theorem scAt : zan ["_law_script", "_law_k"] ["_law_script", "_law_k"] (zad sAt) := ⟨rfl, rfl, rfl, by decide +kernel, rfl, by decide +kernel, by decide +kernel⟩
theorem d_at (T : Txt K mg) (S : Src K mg "_law_at" sAt ["_law_script", "_law_k"]) : Def P w K mg base 1 "_law_at" ["_law_script", "_law_k"] (spAt K) := by
 refine S.def scAt (fun vs H Q E h => ?_) (fun f cdv A outer s H vs Q E hr h => ?_)
 ·obtain ⟨_, _, _, rfl, _⟩ := h; rfl
 ·obtain ⟨a, ns, k, rfl, hq, q⟩ := h
  refine ⟨_, zae (ps_if (zcp op_lt (pv 1) (zaz (zbx K) (by rfl) T.len PySem.boot_len (zaa (pv 0) zac)) (zch _)) (zag (zaw (pe_ix (zbk K) (pv 0) (pv 1) (fun _ _ => rfl)))) zbz) (zag (zaw zaf)), ?_⟩
  refine ⟨_, rfl, _, rfl, a, _, rfl, .inl hq, _, _, rfl, rfl, _, rfl, ?_⟩
  rw [List.length_map]
  by_cases h : k < ns.length
  ·rw [decide_eq_true (show (k : Int) < (ns.length : Int) by lia)]
   refine iteT ⟨_, rfl, _, rfl, a, _, _, .int (ns.getD k 0), rfl, rfl, hq, zar ?_, q⟩
   rw [List.getElem?_map, List.getD_eq_getElem?_getD]
   simp [h]
  ·rw [decide_eq_false (show ¬ (k : Int) < (ns.length : Int) by lia)]
   refine iteF ?_
   rw [List.getD_eq_getElem?_getD, List.getElem?_eq_none (by lia)] at q
   exact q
end
theorem zcm {H H2 : Hp} {g : Addr} {o : HO} (s : Same H H2) (h : H g = none) : Same H (upd H2 g o) := fun b u e => by rw [zas (zao e h)]; exact s b u e
theorem zuj (K : W.Frag) : PySem.W.kitOne K (.type "int") (.type "int") = some true := by first | rfl | decide +kernel
theorem znn (K : W.Frag) : PySem.W.kitOne K (.type "int") (.type "bool") = some false := by first | rfl | decide +kernel
theorem zEe (K : W.Frag) : PySem.W.kitOne K (.type "list") (.type "list") = some true := by rfl
def zoi : Sp := fun vs H Q _ => ∃ i : Int, vs = [.int i] /\ Q (.bl true) H
section
variable {P : Program} {w : World} {K : W.Frag} {mg : Str -> Option Value} {base : Heap}
theorem zsy : zan ["thing"] ["thing"] (zad zdd) := ⟨rfl, rfl, rfl, by decide +kernel, rfl, by decide +kernel, by decide +kernel⟩
theorem zyh (T : Txt K mg) (S : Src K mg "is_whole" zdd ["thing"]) : Def P w K mg base 1 "is_whole" ["thing"] zoi := by
 refine S.def zsy (fun vs H Q E h => ?_) (fun f cdv A outer s H vs Q E hr h => ?_)
 ·obtain ⟨x, rfl, _⟩ := h; rfl
 ·obtain ⟨i, rfl, q⟩ := h
  refine ⟨_, zag (zaw (ziy (zaz (zce K) (by rfl) T.isi zcu (zaa (pv 0) (zaa (zdg (v := .ty "int") rfl T.int zda rfl) zac)))
   (zix (ztp (zaz (zce K) (by rfl) T.isi zcu (zaa (pv 0) (zaa (zdg (v := .ty "bool") rfl T.bool zep rfl) zac))))))), ?_⟩
  exact ⟨_, rfl, _, _, _, _, _, rfl, rfl, .int _, zuj K, _, rfl, iteT ⟨_, rfl, _, _, _, _, _, rfl, rfl, .int _, znn K, _, rfl, q⟩⟩
end
def ixOf : List Int -> Int -> Nat
 | [], _ => 0
 | x :: l, k => if x = k then 0 else ixOf l k + 1
def dropG (t : List Int) (g : Int) : List Int := t.filter fun k => decide (k ≠ g)
def apart (hs : List Int) (p : Int × Int) : Bool := !decide (at0 hs p.1 = at0 hs p.2)
def mkB (n : Int) (ps : List (Int × Int)) (t : List Int) (g c : Int) : Bool := decide (rk n ps (dropG t g ++ [c]) = (t.length : Int))
def linP (n : Int) (ps : List (Int × Int)) (t ord : List Int) : List Int := t.filter fun g => !(((ord.take (ixOf ord g)).filter fun c => !decide (c ∈ t)).any fun c => mkB n ps t g c)
def loutP (n : Int) (ps : List (Int × Int)) (t ord : List Int) : List Int := (ups ps.length).filter fun c => !decide (c ∈ t) && !(((ord.take (ixOf ord c)).filter fun g => decide (g ∈ t)).any fun g => mkB n ps t g c)
theorem zen : ∀ {t : List Int} {g : Int}, t.Pairwise (· < ·) -> g ∈ t -> (dropG t g).length + 1 = t.length
 | x :: t, g, up, h => by
  obtain ⟨a, b⟩ := List.pairwise_cons.mp up
  unfold dropG
  by_cases c : x = g
  ·rw [List.filter_cons_of_neg (by rw [c]; simp), List.filter_eq_self.mpr, List.length_cons]
   intro y hy
   have := a y hy
   exact decide_eq_true (by lia)
  ·rw [List.filter_cons_of_pos (by exact decide_eq_true c), List.length_cons, List.length_cons]
   have := zen b ((List.mem_cons.mp h).resolve_left fun z => c z.symm)
   unfold dropG at this
   lia
structure Tree (n : Int) (ps : List (Int × Int)) (t : List Int) : Prop where
 ks : Ks ps.length t
 up : t.Pairwise (· < ·)
 rk : (t.length : Int) = n - cN n ps t
theorem zed {n : Int} {ps : List (Int × Int)} (ok : WebOk n ps) {t : List Int} (h : t ∈ zbs n ps) : Tree n ps t := by
 obtain ⟨_, _, h8⟩ := ok
 obtain ⟨a, b⟩ := (zbv h8).mp (zrr h)
 have e1 := zdp h
 have e2 := of_decide_eq_true (List.mem_filter.mp h).2
 rw [rkP_c] at e2
 exact ⟨a, b, by lia⟩
structure RankOk (m : Nat) (r : List Int -> Int) : Prop where
 same : ∀ {X Y : List Int}, Ks m X -> Ks m Y -> (∀ k, k ∈ X ↔ k ∈ Y) -> r X = r Y
 gain : ∀ {D X : List Int}, Ks m D -> Ks m X -> 0 <= r (X ++ D) - r X /\ r (X ++ D) - r X <= D.length
 sub : ∀ {D X Y : List Int}, Ks m D -> Ks m X -> Ks m Y -> (∀ k ∈ X, k ∈ Y) -> r (Y ++ D) - r Y <= r (X ++ D) - r X
 nil : r [] = 0
theorem zbw {n : Int} {ps : List (Int × Int)} (n1 : 1 <= n) (n9 : n <= 9) (hb : ∀ p ∈ ps, InN n p) : RankOk ps.length (rkP n ps) where
 same := fun h1 h2 h => by rw [rkP_c, rkP_c, zFc n1 hb h1 h2 h]
 gain := fun {D X} h1 h2 => by
  have := c_app n1 hb D X h1 h2
  rw [rkP_c, rkP_c]
  lia
 sub := fun {D X Y} h1 h2 h3 h => by
  have := c_sub n1 hb D X Y h1 h2 h3 h
  rw [rkP_c, rkP_c, rkP_c, rkP_c]
  lia
 nil := by rw [rkP_c, c_nil n1 n9]; lia
section
variable {m : Nat} {r : List Int -> Int}
theorem RankOk.mono (o : RankOk m r) {X Y : List Int} (hX : Ks m X) (hY : Ks m Y) (h : ∀ k ∈ X, k ∈ Y) : r X <= r Y := by
 have e := o.same hY (zax hX hY) fun k => by
  rw [List.mem_append]
  exact ⟨.inr, fun z => z.elim (h k) id⟩
 have := o.gain hY hX
 lia
theorem RankOk.le (o : RankOk m r) {X : List Int} (hX : Ks m X) : r X <= X.length := by
 have := o.gain hX (fun _ z => nomatch z : Ks m [])
 rw [List.nil_append, o.nil] at this
 lia
theorem zgf {k : Int} (h0 : 0 <= k) (h1 : k < (m : Int)) : Ks m [k] := fun j hj => by rw [List.mem_singleton.mp hj]; exact ⟨h0, h1⟩
theorem RankOk.span (o : RankOk m r) {Y : List Int} (hY : Ks m Y) : ∀ (D : List Int), Ks m D -> (∀ c ∈ D, r (Y ++ [c]) = r Y) -> r (Y ++ D) = r Y
 | [], _, _ => by rw [List.append_nil]
 | c :: D, hD, h => by
  have hc : Ks m [c] := fun j hj => hD j (by rw [List.mem_singleton.mp hj]; exact List.mem_cons_self)
  have hD' : Ks m D := fun j hj => hD j (List.mem_cons_of_mem _ hj)
  have ih := o.span hY D hD' fun c hc => h c (List.mem_cons_of_mem _ hc)
  have s := o.sub (D := [c]) (X := Y) (Y := Y ++ D) hc hY (zax hY hD') fun k hk => List.mem_append_left _ hk
  have g := o.gain hc (zax hY hD')
  have e := o.same (X := Y ++ c :: D) (Y := Y ++ D ++ [c]) (zax hY hD) (zax (zax hY hD') hc) fun k => by
   simp only [List.mem_append, List.mem_cons, List.not_mem_nil, or_false]
   constructor
   ·rintro (z | z | z)
    ·exact .inl (.inl z)
    ·exact .inr z
    ·exact .inl (.inr z)
   ·rintro ((z | z) | z)
    ·exact .inl z
    ·exact .inr (.inr z)
    ·exact .inr (.inl z)
  have := h c List.mem_cons_self
  lia
theorem RankOk.stays (o : RankOk m r) : ∀ (Z Y : List Int), Ks m Z -> Ks m Y -> r (Y ++ Z) < r Y + Z.length -> ∃ Z1 g Z2, Z = Z1 ++ g :: Z2 /\ r (Y ++ Z1 ++ [g]) = r (Y ++ Z1)
 | [], Y, _, _, h => by rw [List.append_nil] at h; simp at h
 | g :: Z, Y, hZ, hY, h => by
  have hg : Ks m [g] := fun j hj => hZ j (by rw [List.mem_singleton.mp hj]; exact List.mem_cons_self)
  have hZ' : Ks m Z := fun j hj => hZ j (List.mem_cons_of_mem _ hj)
  by_cases e : r (Y ++ [g]) = r Y
  ·exact ⟨[], g, Z, rfl, by rw [List.append_nil]; exact e⟩
  ·have ga := o.gain hg hY
   have l1 : (([g] : List Int).length : Int) = 1 := rfl
   obtain ⟨Z1, g', Z2, e1, e2⟩ := o.stays Z (Y ++ [g]) hZ' (zax hY hg) (by
    rw [List.append_assoc]
    rw [List.length_cons] at h
    show r (Y ++ g :: Z) < _
    lia)
   refine ⟨g :: Z1, g', Z2, by rw [e1]; rfl, ?_⟩
   have : Y ++ g :: Z1 = Y ++ [g] ++ Z1 := by rw [List.append_assoc]; rfl
   rw [this]
   exact e2
def insU (m : Nat) (t : List Int) (k : Int) : List Int := (ups m).filter fun x => decide (x ∈ t \/ x = k)
theorem zdy {t : List Int} {k x : Int} (ht : Ks m t) (k0 : 0 <= k /\ k < (m : Int)) : x ∈ insU m t k ↔ x ∈ t \/ x = k := by
 unfold insU
 rw [List.mem_filter, mem_ups, decide_eq_true_iff]
 exact ⟨fun z => z.2, fun z => ⟨z.elim (ht x) (fun e => by rw [e]; exact k0), z⟩⟩
def condT (r : List Int -> Int) (R : Int) (pick t ra : List Int) (k : Int) : Bool := decide (r (t ++ ra) < R) || (decide (k ∈ pick) && !decide (r (t ++ [k]) = r t))
def trG (m : Nat) (r : List Int -> Int) (R : Int) (pick : List Int) : List Int -> List Int -> List Int
 | [], t => t
 | k :: ra, t => trG m r R pick ra (if condT r R pick t ra k = true then insU m t k else t)
structure WalkT (m : Nat) (r : List Int -> Int) (R : Int) (ra t : List Int) : Prop where
 kt : Ks m t
 up : t.Pairwise (· < ·)
 kr : Ks m ra
 nd : ra.Nodup
 dis : ∀ x ∈ t, x ∉ ra
 ind : r t = t.length
 full : r (t ++ ra) = R
theorem zzp (t : List Int) (k : Int) : (insU m t k).Pairwise (· < ·) := (zcl m).filter _
theorem zby {t : List Int} (h : t.Pairwise (· < ·)) : t.Nodup := h.imp fun z => by lia
theorem zpu {X Y : List Int} (h1 : X.Nodup) (h2 : Y.Nodup) (h : ∀ k, k ∈ X ↔ k ∈ Y) : X.length = Y.length := (zhf h1 h2 h).length_eq
theorem WalkT.step (o : RankOk m r) {R : Int} {pick ra t : List Int} {k : Int} (W : WalkT m r R (k :: ra) t) : WalkT m r R ra (if condT r R pick t ra k = true then insU m t k else t) := by
 have km := W.kr k List.mem_cons_self
 have kr' : Ks m ra := fun j hj => W.kr j (List.mem_cons_of_mem _ hj)
 obtain ⟨nk, nd'⟩ := List.nodup_cons.mp W.nd
 have k1 := zgf km.1 km.2
 have kn : k ∉ t := fun z => W.dis k z List.mem_cons_self
 have g1 := o.gain k1 W.kt
 have l1 : (([k] : List Int).length : Int) = 1 := rfl
 have ft := W.full
 have e1 : r (t ++ k :: ra) = r (t ++ ra ++ [k]) := o.same (zax W.kt W.kr) (zax (zax W.kt kr') k1) fun x => by
  simp only [List.mem_append, List.mem_cons, List.not_mem_nil, or_false]
  constructor
  ·rintro (z | z | z)
   ·exact .inl (.inl z)
   ·exact .inr z
   ·exact .inl (.inr z)
  ·rintro ((z | z) | z)
   ·exact .inl z
   ·exact .inr (.inr z)
   ·exact .inr (.inl z)
 have g2 := o.gain k1 (zax W.kt kr')
 by_cases c : condT r R pick t ra k = true
 ·rw [if_pos c]
  have ki : Ks m (insU m t k) := fun x hx => by
   rcases (zdy W.kt km).mp hx with z | z
   ·exact W.kt x z
   ·rw [z]; exact km
  have si : ∀ x, x ∈ insU m t k ↔ x ∈ t ++ [k] := fun x => by
   rw [zdy W.kt km, List.mem_append, List.mem_singleton]
  have ndk : (t ++ [k]).Nodup := by
   rw [List.nodup_append]
   exact ⟨zby W.up, List.nodup_cons.mpr ⟨(fun z => nomatch z), .nil⟩, fun a ha b hb => by rw [List.mem_singleton.mp hb]; exact fun z => kn (by rw [<- z]; exact ha)⟩
  have li := zpu (zby (zzp t k)) ndk si
  have ri := o.same ki (zax W.kt k1) si
  have raise : r (t ++ [k]) = r t + 1 := by
   unfold condT at c
   rw [Bool.or_eq_true, Bool.and_eq_true, decide_eq_true_iff, Bool.not_eq_true', decide_eq_false_iff_not] at c
   rcases c with c | c
   ·have s := o.sub (D := [k]) (X := t) (Y := t ++ ra) k1 W.kt (zax W.kt kr') fun x hx => List.mem_append_left _ hx
    lia
   ·have := c.2
    lia
  refine ⟨ki, zzp t k, kr', nd', fun x hx => ?_, ?_, ?_⟩
  ·rcases (zdy W.kt km).mp hx with z | z
   ·exact fun y => W.dis x z (List.mem_cons_of_mem _ y)
   ·rw [z]; exact nk
  ·rw [ri, li, raise, W.ind, List.length_append]
   rfl
  ·rw [<- ft]
   refine o.same (zax ki kr') (zax W.kt W.kr) fun x => ?_
   rw [List.mem_append, List.mem_append, List.mem_cons, si, List.mem_append, List.mem_singleton]
   exact ⟨fun z => z.elim (fun z => z.elim .inl fun z => .inr (.inl z)) fun z => .inr (.inr z), fun z => z.elim (fun z => .inl (.inl z)) fun z => z.elim (fun z => .inl (.inr z)) .inr⟩
 ·rw [if_neg c]
  refine ⟨W.kt, W.up, kr', nd', fun x hx y => W.dis x hx (List.mem_cons_of_mem _ y), W.ind, ?_⟩
  unfold condT at c
  rw [Bool.or_eq_true, decide_eq_true_iff] at c
  have : ¬ r (t ++ ra) < R := fun z => c (.inl z)
  lia
theorem zjk (o : RankOk m r) {R : Int} {pick : List Int} : ∀ (ra t : List Int), WalkT m r R ra t -> WalkT m r R [] (trG m r R pick ra t) /\ ∀ x, x ∉ ra -> (x ∈ trG m r R pick ra t ↔ x ∈ t)
 | [], t, W => ⟨W, fun _ _ => Iff.rfl⟩
 | k :: ra, t, W => by
  have S := W.step o (pick := pick)
  obtain ⟨h1, h2⟩ := zjk o (pick := pick) ra _ S
  refine ⟨h1, fun x hx => ?_⟩
  show x ∈ trG m r R pick ra _ ↔ _
  rw [h2 x fun z => hx (List.mem_cons_of_mem _ z)]
  split
  ·rw [zdy W.kt (W.kr k List.mem_cons_self)]
   exact ⟨fun z => z.resolve_right fun e => hx (by rw [e]; exact List.mem_cons_self), .inl⟩
  ·exact Iff.rfl
theorem drop_mem {t : List Int} {g x : Int} : x ∈ dropG t g ↔ x ∈ t /\ x ≠ g := by
 unfold dropG
 rw [List.mem_filter, decide_eq_true_iff]
theorem zkv (o : RankOk m r) {R : Int} {pick : List Int} : ∀ (ra t : List Int), WalkT m r R ra t -> ∀ pre k post, ra = pre ++ k :: post ->
  (k ∈ trG m r R pick ra t -> k ∉ pick -> ∀ c ∈ post, r (dropG (trG m r R pick ra t) k ++ [c]) ≠ R) /\ (k ∈ pick -> k ∉ trG m r R pick ra t -> ∀ g ∈ post, g ∈ trG m r R pick ra t -> r (dropG (trG m r R pick ra t) g ++ [k]) ≠ R)
 | [], t, W, pre, k, post, e => by cases pre <;> cases e
 | a :: ra, t, W, pre, k, post, e => by
  have S := W.step o (pick := pick)
  obtain ⟨h1, h2⟩ := zjk o (pick := pick) ra _ S
  cases pre with
  | cons p pre =>
   injection e with e1 e2
   exact zkv o ra _ S pre k post e2
  | nil =>
   injection e with e1 e2
   subst e1 e2
   obtain ⟨nk, nd'⟩ := List.nodup_cons.mp W.nd
   have am := W.kr a List.mem_cons_self
   have kr' : Ks m ra := fun j hj => W.kr j (List.mem_cons_of_mem _ hj)
   have an : a ∉ t := fun z => W.dis a z List.mem_cons_self
   have tT : ∀ x ∈ t, x ∈ trG m r R pick (a :: ra) t := fun x hx => by
    show x ∈ trG m r R pick ra _
    rw [h2 x fun z => W.dis x hx (List.mem_cons_of_mem _ z)]
    split
    ·exact (zdy W.kt am).mpr (.inl hx)
    ·exact hx
   have Tt : ∀ x ∈ trG m r R pick (a :: ra) t, x ∈ t \/ x = a \/ x ∈ ra := fun x hx => by
    by_cases z : x ∈ ra
    ·exact .inr (.inr z)
    ·have hx' : x ∈ trG m r R pick ra _ := hx
     rw [h2 x z] at hx'
     split at hx'
     ·rcases (zdy W.kt am).mp hx' with y | y
      ·exact .inl y
      ·exact .inr (.inl y)
     ·exact .inl hx'
   have aT : a ∈ trG m r R pick (a :: ra) t ↔ condT r R pick t ra a = true := by
    show a ∈ trG m r R pick ra _ ↔ _
    rw [h2 a nk]
    split
    ·next c => exact ⟨fun _ => c, fun _ => (zdy W.kt am).mpr (.inr rfl)⟩
    ·next c => exact ⟨fun z => absurd z an, fun z => absurd z c⟩
   have KT : Ks m (trG m r R pick (a :: ra) t) := h1.kt
   have IT : r (trG m r R pick (a :: ra) t) = (trG m r R pick (a :: ra) t).length := h1.ind
   have RT : r (trG m r R pick (a :: ra) t) = R := by have := h1.full; rw [List.append_nil] at this; exact this
   have UT : (trG m r R pick (a :: ra) t).Pairwise (· < ·) := h1.up
   generalize trG m r R pick (a :: ra) t = T at tT Tt aT KT IT RT UT
   unfold condT at aT
   rw [Bool.or_eq_true, Bool.and_eq_true, decide_eq_true_iff, decide_eq_true_iff, Bool.not_eq_true', decide_eq_false_iff_not] at aT
   constructor
   ·intro hT hp c hc
    have nd := (aT.mp hT).resolve_right fun z => hp z.1
    have cm := kr' c hc
    have := o.mono (X := dropG T a ++ [c]) (Y := t ++ ra) (zax (fun x hx => KT x (drop_mem.mp hx).1) (zgf cm.1 cm.2)) (zax W.kt kr') fun x hx => by
     rcases List.mem_append.mp hx with z | z
     ·obtain ⟨z1, z2⟩ := drop_mem.mp z
      rcases Tt x z1 with y | y | y
      ·exact List.mem_append_left _ y
      ·exact absurd y z2
      ·exact List.mem_append_right _ y
     ·rw [List.mem_singleton.mp z]
      exact List.mem_append_right _ hc
    lia
   ·intro hp hT g hg gT
    have k1 := zgf am.1 am.2
    have kd : Ks m (dropG T g) := fun x hx => KT x (drop_mem.mp hx).1
    have nc : r (t ++ [a]) = r t := by
     by_cases z : r (t ++ [a]) = r t
     ·exact z
     ·exact absurd (aT.mpr (.inr ⟨hp, z⟩)) hT
    have s := o.sub (D := [a]) (X := t) (Y := dropG T g) k1 W.kt kd fun x hx => drop_mem.mpr ⟨tT x hx, fun z => W.dis x hx (by rw [z]; exact List.mem_cons_of_mem _ hg)⟩
    have l := o.le kd
    have dl := zen UT gT
    lia
theorem zku (o : RankOk m r) {R : Int} {pick T : List Int} (KT : Ks m T) (UT : T.Pairwise (· < ·)) (IT : r T = T.length) (RT : r T = R) (top : ∀ X : List Int, Ks m X -> r X <= R) :
  ∀ (ra t : List Int), WalkT m r R ra t -> (∀ x, x ∉ ra -> (x ∈ t ↔ x ∈ T)) ->
  (∀ pre k post, ra = pre ++ k :: post -> (k ∈ T -> k ∉ pick -> ∀ c ∈ post, c ∉ T -> r (dropG T k ++ [c]) ≠ R) /\ (k ∈ pick -> k ∉ T -> ∀ g ∈ post, g ∈ T -> r (dropG T g ++ [k]) ≠ R)) -> ∀ x, x ∈ trG m r R pick ra t ↔ x ∈ T
 | [], t, W, h, _ => fun x => h x (fun z => nomatch z)
 | a :: ra, t, W, h, st => by
  have S := W.step o (pick := pick)
  obtain ⟨nk, nd'⟩ := List.nodup_cons.mp W.nd
  have am := W.kr a List.mem_cons_self
  have a1 := zgf am.1 am.2
  have kr' : Ks m ra := fun j hj => W.kr j (List.mem_cons_of_mem _ hj)
  have an : a ∉ t := fun z => W.dis a z List.mem_cons_self
  have tT : ∀ x ∈ t, x ∈ T := fun x hx => (h x (W.dis x hx)).mp hx
  have Tt : ∀ x ∈ T, x ∈ t \/ x = a \/ x ∈ ra := fun x hx => by
   by_cases z : x ∈ a :: ra
   ·rcases List.mem_cons.mp z with y | y
    ·exact .inr (.inl y)
    ·exact .inr (.inr y)
   ·exact .inl ((h x z).mpr hx)
  obtain ⟨s1, s2⟩ := st [] a ra rfl
  have g1 := o.gain a1 W.kt
  have l1 : (([a] : List Int).length : Int) = 1 := rfl
  have key : condT r R pick t ra a = true ↔ a ∈ T := by
   unfold condT
   rw [Bool.or_eq_true, Bool.and_eq_true, decide_eq_true_iff, decide_eq_true_iff, Bool.not_eq_true', decide_eq_false_iff_not]
   constructor
   ·intro c
    by_cases hT : a ∈ T
    ·exact hT
    exfalso
    have sub : ∀ x ∈ T, x ∈ t ++ ra := fun x hx => by
     rcases Tt x hx with y | y | y
     ·exact List.mem_append_left _ y
     ·exact absurd hx (by rw [y]; exact hT)
     ·exact List.mem_append_right _ y
    rcases c with c | ⟨cp, cn⟩
    ·have := o.mono KT (zax W.kt kr') sub
     lia
    ·-- some tie of T ahead stays behind it
     have kz : Ks m (ra.filter fun x => decide (x ∈ T)) := fun x hx => kr' x (List.mem_filter.mp hx).1
     have mz : ∀ x, x ∈ ra.filter (fun x => decide (x ∈ T)) ↔ x ∈ ra /\ x ∈ T := fun x => by rw [List.mem_filter, decide_eq_true_iff]
     have ndz : (ra.filter fun x => decide (x ∈ T)).Nodup := nd'.filter _
     generalize hZ : (ra.filter fun x => decide (x ∈ T)) = Z at kz mz ndz
     have ndtz : (t ++ Z).Nodup := by
      rw [List.nodup_append]
      exact ⟨zby W.up, ndz, fun x hx y hy e => W.dis x hx (by rw [e]; exact List.mem_cons_of_mem _ ((mz y).mp hy).1)⟩
     have lz := zpu ndtz (zby UT) fun x => by
      rw [List.mem_append]
      constructor
      ·rintro (z | z)
       ·exact tT x z
       ·exact ((mz x).mp z).2
      ·intro z
       rcases Tt x z with y | y | y
       ·exact .inl y
       ·exact absurd z (by rw [y]; exact hT)
       ·exact .inr ((mz x).mpr ⟨y, z⟩)
     rw [List.length_append] at lz
     have tp := top (t ++ [a] ++ Z) (zax (zax W.kt a1) kz)
     have it := W.ind
     obtain ⟨Z1, g, Z2, ez, eg⟩ := o.stays Z (t ++ [a]) kz (zax W.kt a1) (by lia)
     have gz : g ∈ Z := by rw [ez]; exact List.mem_append_right _ List.mem_cons_self
     obtain ⟨gr, gT⟩ := (mz g).mp gz
     have gm := KT g gT
     have gk1 := zgf gm.1 gm.2
     have kz1 : Ks m Z1 := fun x hx => kz x (by rw [ez]; exact List.mem_append_left _ hx)
     have kd : Ks m (dropG T g ++ [a]) := zax (fun x hx => KT x (drop_mem.mp hx).1) a1
     have gz1 : g ∉ Z1 := by
      rw [ez] at ndz
      intro z
      exact (List.nodup_append.mp ndz).2.2 g z g List.mem_cons_self rfl
     have s := o.sub (D := [g]) (X := t ++ [a] ++ Z1) (Y := dropG T g ++ [a]) gk1 (zax (zax W.kt a1) kz1) kd fun x hx => by
      rcases List.mem_append.mp hx with z | z
      ·rcases List.mem_append.mp z with y | y
       ·exact List.mem_append_left _ (drop_mem.mpr ⟨tT x y, fun e => W.dis x y (by rw [e]; exact List.mem_cons_of_mem _ gr)⟩)
       ·exact List.mem_append_right _ y
      ·exact List.mem_append_left _ (drop_mem.mpr ⟨((mz x).mp (by rw [ez]; exact List.mem_append_left _ z)).2, fun e => gz1 (by rw [<- e]; exact z)⟩)
     have mo := o.mono (X := T) (Y := dropG T g ++ [a] ++ [g]) KT (zax kd gk1) fun x hx => by
      by_cases e : x = g
      ·rw [e]; exact List.mem_append_right _ List.mem_cons_self
      ·exact List.mem_append_left _ (List.mem_append_left _ (drop_mem.mpr ⟨hx, e⟩))
     have tp2 := top _ kd
     exact s2 cp hT g gr gT (by lia)
   ·intro hT
    by_cases c : r (t ++ ra) < R
    ·exact .inl c
    refine .inr ⟨?_, ?_⟩
    ·by_cases hp : a ∈ pick
     ·exact hp
     exfalso
     have kd : Ks m (dropG T a) := fun x hx => KT x (drop_mem.mp hx).1
     have dl := zen UT hT
     have le := o.le kd
     have lo := o.gain a1 kd
     have ea := o.same (X := dropG T a ++ [a]) (Y := T) (zax kd a1) KT fun x => by
      rw [List.mem_append, drop_mem, List.mem_singleton]
      by_cases e : x = a
      ·rw [e]; exact ⟨fun _ => hT, fun _ => .inr rfl⟩
      ·exact ⟨fun z => (z.resolve_right e).1, fun z => .inl ⟨z, e⟩⟩
     have sp := o.span kd ra kr' fun c hc => by
      have cm := kr' c hc
      have c1 := zgf cm.1 cm.2
      have gc := o.gain c1 kd
      have lc : (([c] : List Int).length : Int) = 1 := rfl
      by_cases cT : c ∈ T
      ·refine o.same (zax kd c1) kd fun x => ?_
       rw [List.mem_append, List.mem_singleton]
       exact ⟨fun z => z.elim id fun e => by rw [e]; exact drop_mem.mpr ⟨cT, fun e => nk (by rw [<- e]; exact hc)⟩, .inl⟩
      ·have := s1 hT hp c hc cT
       have tp := top _ (zax kd c1)
       lia
     have mo := o.mono (X := t ++ ra) (Y := dropG T a ++ ra) (zax W.kt kr') (zax kd kr') fun x hx => by
      rcases List.mem_append.mp hx with z | z
      ·exact List.mem_append_left _ (drop_mem.mpr ⟨tT x z, fun e => an (by rw [<- e]; exact z)⟩)
      ·exact List.mem_append_right _ z
     lia
    ·-- t and a are within T
     have s := o.sub (D := [a]) (X := t) (Y := dropG T a) a1 W.kt (fun x hx => KT x (drop_mem.mp hx).1) fun x hx => drop_mem.mpr ⟨tT x hx, fun e => an (by rw [<- e]; exact hx)⟩
     have kd : Ks m (dropG T a) := fun x hx => KT x (drop_mem.mp hx).1
     have dl := zen UT hT
     have le := o.le kd
     have ea := o.same (X := dropG T a ++ [a]) (Y := T) (zax kd a1) KT fun x => by
      rw [List.mem_append, drop_mem, List.mem_singleton]
      by_cases e : x = a
      ·rw [e]; exact ⟨fun _ => hT, fun _ => .inr rfl⟩
      ·exact ⟨fun z => (z.resolve_right e).1, fun z => .inl ⟨z, e⟩⟩
     lia
  refine zku o KT UT IT RT top ra _ S (fun x hx => ?_) fun pre k post e => st (a :: pre) k post (by rw [e]; rfl)
  by_cases c : condT r R pick t ra a = true
  ·rw [if_pos c, zdy W.kt am]
   by_cases e : x = a
   ·rw [e]; exact ⟨fun _ => key.mp c, fun _ => .inr rfl⟩
   ·rw [<- h x fun z => (List.mem_cons.mp z).elim e hx]
    exact ⟨fun z => z.resolve_right e, .inl⟩
  ·rw [if_neg c]
   by_cases e : x = a
   ·rw [e]; exact ⟨fun z => absurd z an, fun z => absurd (key.mpr z) c⟩
   ·exact h x fun z => (List.mem_cons.mp z).elim e hx
end
def treeO (n : Int) (ps : List (Int × Int)) (pick ord : List Int) : List Int := trG ps.length (rkP n ps) (rkAll n ps) pick ord.reverse []
theorem walk0 {n : Int} {ps : List (Int × Int)} (ok : WebOk n ps) {ord : List Int} (pm : ord.Perm (ups ps.length)) : WalkT ps.length (rkP n ps) (rkAll n ps) ord.reverse [] := by
 obtain ⟨⟨n1, n9⟩, hb, h8⟩ := ok
 have o := zbw n1 n9 hb
 have ko : Ks ps.length ord.reverse := fun k hk => mem_ups.mp (pm.mem_iff.mp (List.mem_reverse.mp hk))
 refine ⟨(fun _ z => nomatch z), .nil, ko, ?_, (fun _ z => nomatch z), o.nil, ?_⟩
 ·exact ((List.reverse_perm ord).trans pm).nodup_iff.mpr (zby (zcl _))
 ·rw [List.nil_append]
  exact o.same ko (zcf _) fun k => by rw [List.mem_reverse]; exact pm.mem_iff
theorem zjp : ∀ {A B : List Int} {k : Int}, k ∉ A -> (A ++ k :: B).take (ixOf (A ++ k :: B) k) = A
 | [], B, k, _ => by
  show (k :: B).take (if k = k then 0 else _) = []
  rw [if_pos rfl]
  rfl
 | a :: A, B, k, h => by
  have ne : ¬ a = k := fun z => h (by rw [z]; exact List.mem_cons_self)
  show (a :: (A ++ k :: B)).take (if a = k then 0 else ixOf (A ++ k :: B) k + 1) = a :: A
  rw [if_neg ne, List.take_succ_cons, zjp fun z => h (List.mem_cons_of_mem _ z)]
def liesP (n : Int) (ps : List (Int × Int)) (pick t ord : List Int) : Bool := decide ((t.filter fun k => !decide (k ∈ pick) && !decide (k ∈ linP n ps t ord)) = []) && decide ((pick.filter fun k => !decide (k ∈ t) && !decide (k ∈ loutP n ps t ord)) = [])
section
variable {n : Int} {ps : List (Int × Int)}
theorem mem_lin {t ord : List Int} {g : Int} : g ∈ linP n ps t ord ↔ g ∈ t /\ ∀ c ∈ ord.take (ixOf ord g), c ∉ t -> mkB n ps t g c = false := by
 unfold linP
 rw [List.mem_filter, Bool.not_eq_true', List.any_eq_false]
 refine and_congr Iff.rfl ⟨fun h c hc ct => ?_, fun h c hc => ?_⟩
 ·exact Bool.eq_false_iff.mpr (h c (List.mem_filter.mpr ⟨hc, by simp [ct]⟩))
 ·obtain ⟨h1, h2⟩ := List.mem_filter.mp hc
  rw [h c h1 (by simpa using h2)]
  decide
theorem mem_lout {t ord : List Int} {c : Int} : c ∈ loutP n ps t ord ↔ (0 <= c /\ c < (ps.length : Int)) /\ c ∉ t /\ ∀ g ∈ ord.take (ixOf ord c), g ∈ t -> mkB n ps t g c = false := by
 unfold loutP
 rw [List.mem_filter, Bool.and_eq_true, Bool.not_eq_true', Bool.not_eq_true', List.any_eq_false, mem_ups, decide_eq_false_iff_not]
 refine and_congr Iff.rfl (and_congr Iff.rfl ⟨fun h g hg gt => ?_, fun h g hg => ?_⟩)
 ·exact Bool.eq_false_iff.mpr (h g (List.mem_filter.mpr ⟨hg, by simp [gt]⟩))
 ·obtain ⟨h1, h2⟩ := List.mem_filter.mp hg
  rw [h g h1 (of_decide_eq_true h2)]
  decide
theorem lies_iff {pick t ord : List Int} : liesP n ps pick t ord = true ↔ (∀ k ∈ t, k ∉ pick -> k ∈ linP n ps t ord) /\ ∀ k ∈ pick, k ∉ t -> k ∈ loutP n ps t ord := by
 unfold liesP
 rw [Bool.and_eq_true, decide_eq_true_iff, decide_eq_true_iff, List.filter_eq_nil_iff, List.filter_eq_nil_iff]
 refine and_congr ⟨fun h k hk hp => ?_, fun h k hk => ?_⟩ ⟨fun h k hk hp => ?_, fun h k hk => ?_⟩
 ·have := h k hk
  by_cases z : k ∈ linP n ps t ord
  ·exact z
  ·simp [hp, z] at this
 ·by_cases hp : k ∈ pick
  ·simp [hp]
  ·simp [h k hk hp]
 ·have := h k hk
  by_cases z : k ∈ loutP n ps t ord
  ·exact z
  ·simp [hp, z] at this
 ·by_cases hp : k ∈ t
  ·simp [hp]
  ·simp [h k hk hp]
theorem zfe {ord pre post : List Int} {k : Int} (nd : ord.Nodup) (e : ord.reverse = pre ++ k :: post) : ∀ c, c ∈ ord.take (ixOf ord k) ↔ c ∈ post := by
 have e2 : ord = post.reverse ++ k :: pre.reverse := by
  have := congrArg List.reverse e
  rw [List.reverse_reverse, List.reverse_append, List.reverse_cons, List.append_assoc] at this
  exact this
 have nk : k ∉ post.reverse := by
  rw [e2] at nd
  intro z
  exact (List.nodup_append.mp nd).2.2 k z k List.mem_cons_self rfl
 intro c
 rw [e2, zjp nk, List.mem_reverse]
variable (ok : WebOk n ps) {ord : List Int} (pm : ord.Perm (ups ps.length))
include ok pm
theorem zky (pick : List Int) : WalkT ps.length (rkP n ps) (rkAll n ps) [] (treeO n ps pick ord) := by
 obtain ⟨⟨n1, n9⟩, hb, h8⟩ := id ok
 exact (zjk (zbw n1 n9 hb) _ _ (walk0 ok pm)).1
theorem zgm (pick : List Int) : treeO n ps pick ord ∈ zbs n ps := by
 have W := zky ok pm pick
 have f := W.full
 rw [List.append_nil] at f
 have i := W.ind
 have t : isTr n ps (treeO n ps pick ord) = true := by
  unfold isTr
  rw [Bool.and_eq_true, decide_eq_true_iff, decide_eq_true_iff]
  exact ⟨by lia, f⟩
 rw [zxv ok.2.2 W.kt W.up, decide_eq_true_iff] at t
 exact t
theorem mk_no {t : List Int} (T : Tree n ps t) (hR : (t.length : Int) = rkAll n ps) {g c : Int} (c0 : 0 <= c /\ c < (ps.length : Int)) : mkB n ps t g c = false ↔ rkP n ps (dropG t g ++ [c]) ≠ rkAll n ps := by
 obtain ⟨⟨n1, n9⟩, hb, h8⟩ := id ok
 have kd : Ks ps.length (dropG t g ++ [c]) := zax (fun x hx => T.ks x (drop_mem.mp hx).1) (zgf c0.1 c0.2)
 unfold mkB
 rw [<- zyw n1 n9 hb kd, hR, decide_eq_false_iff_not]
theorem zpt (pick : List Int) (kp : Ks ps.length pick) : liesP n ps pick (treeO n ps pick ord) ord = true := by
 obtain ⟨⟨n1, n9⟩, hb, h8⟩ := id ok
 have L := zkv (zbw n1 n9 hb) (pick := pick) _ _ (walk0 ok pm)
 have TR := zed ok (zgm ok pm pick)
 have hR := zdp (zgm ok pm pick)
 have nd : ord.Nodup := pm.nodup_iff.mpr (zby (zcl _))
 have inn : ∀ c ∈ ord, 0 <= c /\ c < (ps.length : Int) := fun c hc => mem_ups.mp (pm.mem_iff.mp hc)
 have split : ∀ k, 0 <= k /\ k < (ps.length : Int) -> ∃ pre post, ord.reverse = pre ++ k :: post := fun k hk => List.append_of_mem (List.mem_reverse.mpr (pm.mem_iff.mpr (mem_ups.mpr hk)))
 refine lies_iff.mpr ⟨fun k hk hp => ?_, fun k hk hp => ?_⟩
 ·obtain ⟨pre, post, e⟩ := split k (TR.ks k hk)
  refine mem_lin.mpr ⟨hk, fun c hc _ => ?_⟩
  exact (mk_no ok pm TR hR (inn c (List.mem_of_mem_take hc))).mpr ((L pre k post e).1 hk hp c ((zfe nd e c).mp hc))
 ·obtain ⟨pre, post, e⟩ := split k (kp k hk)
  refine mem_lout.mpr ⟨kp k hk, hp, fun g hg gt => ?_⟩
  exact (mk_no ok pm TR hR (kp k hk)).mpr ((L pre k post e).2 hk hp g ((zfe nd e g).mp hg) gt)
theorem zuf {pick t : List Int} (ht : t ∈ zbs n ps) (h : liesP n ps pick t ord = true) : t = treeO n ps pick ord := by
 obtain ⟨⟨n1, n9⟩, hb, h8⟩ := id ok
 have o := zbw n1 n9 hb
 have TR := zed ok ht
 have hR := zdp ht
 have rt : rkP n ps t = (t.length : Int) := by rw [rkP_c]; have := TR.rk; lia
 obtain ⟨h1, h2⟩ := lies_iff.mp h
 have nd : ord.Nodup := pm.nodup_iff.mpr (zby (zcl _))
 have inn : ∀ c ∈ ord, 0 <= c /\ c < (ps.length : Int) := fun c hc => mem_ups.mp (pm.mem_iff.mp hc)
 have W0 := walk0 ok pm
 have key := zku o (pick := pick) (R := rkAll n ps) TR.ks TR.up rt (by lia) (fun X hX => o.mono hX (zcf _) fun k hk => mem_ups.mpr (hX k hk)) _ _ W0 (fun x hx => ⟨fun z => (nomatch z), fun z => absurd (List.mem_reverse.mpr (pm.mem_iff.mpr (mem_ups.mpr (TR.ks x z)))) hx⟩) fun pre k post e => ⟨fun hk hp c hc ct => ?_, fun hk hp g hg gt => ?_⟩
 ·exact up_eq TR.up (zky ok pm pick).up fun x => (key x).symm
 ·have hc' := (zfe nd e c).mpr hc
  exact (mk_no ok pm TR hR (inn c (List.mem_of_mem_take hc'))).mp ((mem_lin.mp (h1 k hk hp)).2 c hc' ct)
 ·have hg' := (zfe nd e g).mpr hg
  obtain ⟨k0, _, h3⟩ := mem_lout.mp (h2 k hk hp)
  exact (mk_no ok pm TR hR k0).mp (h3 g hg' gt)
theorem zxs (pick : List Int) (kp : Ks ps.length pick) : (zbs n ps).filter (fun t => liesP n ps pick t ord) = [treeO n ps pick ord] := by
 have nd : (zbs n ps).Nodup := ((zks ok.2.2).filter _).filter _
 have hin := zgm ok pm pick
 have e : (zbs n ps).filter (fun t => liesP n ps pick t ord) = (zbs n ps).filter (fun t => decide (t = treeO n ps pick ord)) := by
  refine List.filter_congr fun t ht => ?_
  rw [Bool.eq_iff_iff, decide_eq_true_iff]
  exact ⟨fun z => zuf ok pm ht z, fun z => by rw [z]; exact zpt ok pm pick kp⟩
 rw [e]
 have : ∀ {l : List (List Int)} {a : List Int}, l.Nodup -> a ∈ l -> l.filter (fun t => decide (t = a)) = [a] := by
  intro l a
  induction l with
  | nil => intro _ h; cases h
  | cons x l ih =>
   intro nd h
   obtain ⟨h1, h2⟩ := List.nodup_cons.mp nd
   by_cases z : x = a
   ·subst z
    rw [List.filter_cons_of_pos (by simp)]
    congr 1
    exact List.filter_eq_nil_iff.mpr fun y hy => by
     rw [decide_eq_true_iff]
     exact fun e => h1 (by rw [<- e]; exact hy)
   ·rw [List.filter_cons_of_neg (by simpa using z)]
    exact ih h2 ((List.mem_cons.mp h).resolve_left fun e => z e.symm)
 exact this nd hin
end
def offL (t I : List Int) : List Int := t.filter fun k => !decide (k ∈ I)
theorem mem_off {t I : List Int} {k : Int} : k ∈ offL t I ↔ k ∈ t /\ k ∉ I := by
 unfold offL
 rw [List.mem_filter]
 simp
theorem zpk (t I : List Int) (g : Int) : offL t (g :: I) = dropG (offL t I) g := by
 unfold offL dropG
 rw [List.filter_filter]
 refine List.filter_congr fun k _ => ?_
 rw [Bool.eq_iff_iff]
 simp [not_or]
theorem znh (t : List Int) : offL t [] = t := by
 unfold offL
 exact List.filter_eq_self.mpr fun k _ => by simp
theorem zlq {t : List Int} (up : t.Pairwise (· < ·)) (I : List Int) : (offL t I).Pairwise (· < ·) := up.filter _
theorem zho {t : List Int} (up : t.Pairwise (· < ·)) : ∀ I : List Int, I.Nodup -> (∀ g ∈ I, g ∈ t) -> (offL t I).length + I.length = t.length
 | [], _, _ => by rw [znh]; rfl
 | g :: I, nd, h => by
  obtain ⟨g1, nd2⟩ := List.nodup_cons.mp nd
  have ih := zho up I nd2 fun x hx => h x (List.mem_cons_of_mem _ hx)
  have e := zen (zlq up I) (mem_off.mpr ⟨h g List.mem_cons_self, g1⟩)
  rw [zpk, List.length_cons]
  lia
section
variable {m : Nat} {r : List Int -> Int} (o : RankOk m r) {t : List Int} (kt : Ks m t) (up : t.Pairwise (· < ·)) (rt : r t = (t.length : Int))
include o kt up rt
theorem zpj (I : List Int) (nd : I.Nodup) (h : ∀ g ∈ I, g ∈ t) : r (offL t I) = (t.length : Int) - I.length := by
 have ks : Ks m (offL t I) := fun k hk => kt k (mem_off.mp hk).1
 have ki : Ks m I := fun k hk => kt k (h k hk)
 have a := o.gain ki ks
 have b := o.le ks
 have c := zho up I nd h
 have e : r (offL t I ++ I) = r t := o.same (zax ks ki) kt fun k => by
  rw [List.mem_append, mem_off]
  constructor
  ·rintro (z | z)
   ·exact z.1
   ·exact h k z
  ·intro z
   by_cases y : k ∈ I
   ·exact .inr y
   ·exact .inl ⟨z, y⟩
 lia
theorem zzu (top : ∀ X, Ks m X -> r X <= r t) {c : Int} (kc : Ks m [c]) : ∀ I : List Int, I.Nodup -> (∀ g ∈ I, g ∈ t) -> (∀ g ∈ I, r (dropG t g ++ [c]) ≠ r t) -> r (offL t I ++ [c]) = r (offL t I)
 | [], _, _, _ => by
  rw [znh]
  have a := o.gain kc kt
  have b := top _ (zax kt kc)
  lia
 | g :: I, nd, h, hn => by
  obtain ⟨g1, nd2⟩ := List.nodup_cons.mp nd
  have gt := h g List.mem_cons_self
  have ih := zzu top kc I nd2 (fun x hx => h x (List.mem_cons_of_mem _ hx)) fun x hx => hn x (List.mem_cons_of_mem _ hx)
  have r1 := zpj o kt up rt I nd2 fun x hx => h x (List.mem_cons_of_mem _ hx)
  have r2 := zpj o kt up rt (g :: I) nd h
  rw [List.length_cons] at r2
  have ks : Ks m (offL t I) := fun k hk => kt k (mem_off.mp hk).1
  have ks2 : Ks m (offL t (g :: I)) := fun k hk => kt k (mem_off.mp hk).1
  have kg : Ks m [g] := fun k hk => by rw [List.mem_singleton.mp hk]; exact kt g gt
  have kd : Ks m (dropG t g) := fun k hk => kt k (drop_mem.mp hk).1
  have s := o.sub (D := [g]) (X := offL t (g :: I) ++ [c]) (Y := dropG t g ++ [c]) kg (zax ks2 kc) (zax kd kc) fun k hk => by
   rcases List.mem_append.mp hk with z | z
   ·obtain ⟨a, b⟩ := mem_off.mp z
    exact List.mem_append_left _ (drop_mem.mpr ⟨a, fun e => b (by rw [e]; exact List.mem_cons_self)⟩)
   ·exact List.mem_append_right _ z
  have e1 : r (dropG t g ++ [c] ++ [g]) = r (t ++ [c]) := o.same (zax (zax kd kc) kg) (zax kt kc) fun k => by
   simp only [List.mem_append, List.mem_singleton, drop_mem]
   constructor
   ·rintro ((z | z) | z)
    ·exact .inl z.1
    ·exact .inr z
    ·exact .inl (by rw [z]; exact gt)
   ·rintro (z | z)
    ·by_cases y : k = g
     ·exact .inr y
     ·exact .inl (.inl ⟨z, y⟩)
    ·exact .inl (.inr z)
  have e2 : r (offL t (g :: I) ++ [c] ++ [g]) = r (offL t I ++ [c]) := o.same (zax (zax ks2 kc) kg) (zax ks kc) fun k => by
   simp only [List.mem_append, mem_off, List.mem_cons, List.not_mem_nil, or_false, not_or]
   constructor
   ·rintro ((z | z) | z)
    ·exact .inl ⟨z.1, z.2.2⟩
    ·exact .inr z
    ·exact .inl (by rw [z]; exact ⟨gt, g1⟩)
   ·rintro (z | z)
    ·by_cases y : k = g
     ·exact .inr y
     ·exact .inl (.inl ⟨z.1, y, z.2⟩)
    ·exact .inl (.inr z)
  have a1 := o.gain kc kt
  have a2 := top _ (zax kt kc)
  have a3 := o.gain kc kd
  have a4 := hn g List.mem_cons_self
  have a5 := top _ (zax kd kc)
  have a6 := o.gain kc ks2
  have dl := zen up gt
  have d1 : r (dropG t g) = (t.length : Int) - 1 := by
   have := zpj o kt up rt [g] (by simp) (fun x hx => by rw [List.mem_singleton.mp hx]; exact gt)
   rw [zpk, znh] at this
   exact this
  lia
end
theorem ix_or {ord : List Int} (nd : ord.Nodup) {g c : Int} (hg : g ∈ ord) (hc : c ∈ ord) (ne : c ≠ g) : c ∈ ord.take (ixOf ord g) \/ g ∈ ord.take (ixOf ord c) := by
 obtain ⟨A, B, rfl⟩ := List.append_of_mem hg
 have n1 := List.nodup_append.mp nd
 have gA : g ∉ A := fun z => n1.2.2 g z g List.mem_cons_self rfl
 rw [zjp gA]
 rcases List.mem_append.mp hc with z | z
 ·exact .inl z
 ·right
  have cB := (List.mem_cons.mp z).resolve_left ne
  obtain ⟨B1, B2, rfl⟩ := List.append_of_mem cB
  have e : A ++ g :: (B1 ++ c :: B2) = (A ++ g :: B1) ++ c :: B2 := by simp
  rw [e] at nd ⊢
  have n2 := List.nodup_append.mp nd
  rw [zjp fun z => n2.2.2 c z c List.mem_cons_self rfl]
  exact List.mem_append_right _ List.mem_cons_self
section
variable {n : Int} {ps : List (Int × Int)}
theorem zhs {X : List Int} {m : Nat} (kx : Ks m X) (up : X.Pairwise (· < ·)) (q : Int -> Bool) : X.filter q = (ups m).filter fun k => decide (k ∈ X) && q k :=
 up_eq (up.filter _) ((zcl _).filter _) fun k => by
  rw [List.mem_filter, List.mem_filter, mem_ups, Bool.and_eq_true, decide_eq_true_iff]
  exact ⟨fun h => ⟨kx k h.1, h⟩, fun h => h.2⟩
theorem zue (ok : WebOk n ps) {ord : List Int} (pm : ord.Perm (ups ps.length)) {A t : List Int} (kA : Ks ps.length A) (uA : A.Pairwise (· < ·)) (ht : t ∈ zbs n ps) (h : liesP n ps A t ord = true) :
  rkAll n ps - rkP n ps A = (offL t A).length /\ (A.length : Int) - rkP n ps A = (offL A t).length := by
 obtain ⟨⟨n1, n9⟩, hb, h8⟩ := id ok
 have o := zbw n1 n9 hb
 have TR := zed ok ht
 have hR := zdp ht
 have rt : rkP n ps t = (t.length : Int) := by rw [rkP_c]; have := TR.rk; lia
 have nd : ord.Nodup := pm.nodup_iff.mpr (zby (zcl _))
 have top : ∀ X, Ks ps.length X -> rkP n ps X <= rkP n ps t := fun X hX => by
  rw [rt, hR]
  exact o.mono hX (zcf _) fun k hk => mem_ups.mpr (hX k hk)
 obtain ⟨l1, l2⟩ := lies_iff.mp h
 have iI : ∀ g ∈ offL t A, g ∈ t := fun g hg => (mem_off.mp hg).1
 have nI : (offL t A).Nodup := zby (zlq TR.up A)
 have kS : Ks ps.length (offL t (offL t A)) := fun k hk => TR.ks k (mem_off.mp hk).1
 have rS := zpj o TR.ks TR.up rt (offL t A) nI iI
 have kO : Ks ps.length (offL A t) := fun k hk => kA k (mem_off.mp hk).1
 have sp := o.span kS (offL A t) kO fun c hc => by
  obtain ⟨cA, ct⟩ := mem_off.mp hc
  refine zzu o TR.ks TR.up rt top (zgf (kA c cA).1 (kA c cA).2) _ nI iI fun g hg => ?_
  obtain ⟨gt, gA⟩ := mem_off.mp hg
  have mk : mkB n ps t g c = false := by
   rcases ix_or nd (pm.mem_iff.mpr (mem_ups.mpr (TR.ks g gt))) (pm.mem_iff.mpr (mem_ups.mpr (kA c cA))) (fun e => ct (by rw [e]; exact gt)) with z | z
   ·exact (mem_lin.mp (l1 g gt gA)).2 c z ct
   ·exact (mem_lout.mp (l2 c cA ct)).2.2 g z gt
  rw [rt, hR]
  exact (mk_no ok pm TR hR (kA c cA)).mp mk
 have eA : rkP n ps A = rkP n ps (offL t (offL t A) ++ offL A t) := o.same kA (zax kS kO) fun k => by
  simp only [List.mem_append, mem_off, not_and, Classical.not_not]
  constructor
  ·intro z
   by_cases y : k ∈ t
   ·exact .inl ⟨y, fun _ => z⟩
   ·exact .inr ⟨z, y⟩
  ·rintro (z | z)
   ·exact z.2 z.1
   ·exact z.1
 have c1 := zho TR.up (offL t A) nI iI
 have c2 := zho uA (offL A t) (zby (zlq uA t)) fun g hg => (mem_off.mp hg).1
 have c3 : offL A (offL A t) = offL t (offL t A) := up_eq (zlq uA _) (zlq TR.up _) fun k => by
  simp only [mem_off, not_and, Classical.not_not]
  exact ⟨fun z => ⟨z.2 z.1, fun _ => z.1⟩, fun z => ⟨z.2 z.1, fun _ => z.1⟩⟩
 rw [c3] at c2
 lia
end
def sm {α : Type} (l : List α) (f : α -> Int) : Int := (l.map f).sum
theorem zlf {α : Type} (f : α -> Int) : sm [] f = 0 := rfl
theorem zbf {α : Type} (a : α) (l : List α) (f : α -> Int) : sm (a :: l) f = f a + sm l f := rfl
theorem zyu {α : Type} (l k : List α) (f : α -> Int) : sm (l ++ k) f = sm l f + sm k f := by
 unfold sm
 rw [List.map_append, List.sum_append]
theorem zfg {α : Type} (f g : α -> Int) : ∀ l : List α, sm l (fun a => f a + g a) = sm l f + sm l g
 | [] => rfl
 | a :: l => by
  rw [zbf, zbf, zbf, zfg f g l]
  lia
theorem zds {α : Type} {f : α -> Int} : ∀ {l : List α}, (∀ a ∈ l, f a = 0) -> sm l f = 0
 | [], _ => rfl
 | a :: l, h => by rw [zbf, h a List.mem_cons_self, zds fun x hx => h x (List.mem_cons_of_mem _ hx)]; rfl
theorem zah {α : Type} {f g : α -> Int} {l : List α} (h : ∀ a ∈ l, f a = g a) : sm l f = sm l g := by
 unfold sm
 rw [List.map_congr_left h]
theorem zsn {α β : Type} (l : List α) (u : α -> β) (f : β -> Int) : sm (l.map u) f = sm l fun a => f (u a) := by
 unfold sm
 rw [List.map_map]
 rfl
theorem zew {α : Type} {l k : List α} (h : l.Perm k) (f : α -> Int) : sm l f = sm k f := by
 induction h with
 | nil => rfl
 | cons a _ ih => rw [zbf, zbf, ih]
 | swap a b l => rw [zbf, zbf, zbf, zbf]; lia
 | trans _ _ h1 h2 => rw [h1, h2]
theorem zhd {α β : Type} (f : α -> β -> Int) (k : List β) : ∀ l : List α, (sm l fun a => sm k (f a)) = sm k fun b => sm l fun a => f a b
 | [] => (zds fun _ _ => rfl).symm
 | a :: l => by
  rw [zbf, zhd f k l, <- zfg]
  rfl
theorem zff {α : Type} (q : α -> Bool) (f : α -> Int) : ∀ l : List α, sm (l.filter q) f = sm l fun a => if q a then f a else 0
 | [] => rfl
 | a :: l => by
  rw [zbf, <- zff q f l]
  cases e : q a with
  | true => rw [List.filter_cons_of_pos e]; rfl
  | false => rw [List.filter_cons_of_neg (by rw [e]; decide), if_neg (by decide)]; lia
def subs : Nat -> List (List Int)
 | 0 => [[]]
 | m + 1 => subs m ++ (subs m).map (· ++ [(m : Int)])
theorem subs_mem : ∀ {m : Nat} {p : List Int}, p ∈ subs m ↔ Ks m p /\ p.Pairwise (· < ·)
 | 0, p => by
  show p ∈ [[]] ↔ _
  rw [List.mem_singleton]
  constructor
  ·rintro rfl
   exact ⟨(fun _ z => nomatch z), .nil⟩
  ·rintro ⟨h, _⟩
   cases p with
   | nil => rfl
   | cons a l => have := h a List.mem_cons_self; lia
 | m + 1, p => by
  show p ∈ subs m ++ (subs m).map (· ++ [(m : Int)]) ↔ _
  rw [List.mem_append, List.mem_map]
  constructor
  ·rintro (z | ⟨q, z, rfl⟩)
   ·obtain ⟨a, b⟩ := subs_mem.mp z
    exact ⟨fun k hk => ⟨(a k hk).1, by have := (a k hk).2; lia⟩, b⟩
   ·obtain ⟨a, b⟩ := subs_mem.mp z
    refine ⟨fun k hk => ?_, List.pairwise_append.mpr ⟨b, List.pairwise_singleton _ _, fun x hx y hy => ?_⟩⟩
    ·rcases List.mem_append.mp hk with y | y
     ·exact ⟨(a k y).1, by have := (a k y).2; lia⟩
     ·rw [List.mem_singleton.mp y]; lia
    ·rw [List.mem_singleton.mp hy]
     exact (a x hx).2
  ·rintro ⟨a, b⟩
   by_cases c : (m : Int) ∈ p
   ·right
    have kd : Ks m (dropG p m) := fun k hk => by
     obtain ⟨x, y⟩ := drop_mem.mp hk
     have := a k x
     lia
    have ud : (dropG p m).Pairwise (· < ·) := b.filter _
    refine ⟨dropG p m, subs_mem.mpr ⟨kd, ud⟩, up_eq (List.pairwise_append.mpr ⟨ud, List.pairwise_singleton _ _, fun x hx y hy => by rw [List.mem_singleton.mp hy]; exact (kd x hx).2⟩) b fun k => ?_⟩
    rw [List.mem_append, drop_mem, List.mem_singleton]
    constructor
    ·rintro (z | z)
     ·exact z.1
     ·rw [z]; exact c
    ·intro z
     by_cases y : k = m
     ·exact .inr y
     ·exact .inl ⟨z, y⟩
   ·left
    refine subs_mem.mpr ⟨fun k hk => ?_, b⟩
    have := a k hk
    have : k ≠ m := fun e => c (by rw [<- e]; exact hk)
    lia
theorem zmy : ∀ m : Nat, (subs m).Nodup
 | 0 => by show ([[]] : List (List Int)).Nodup; simp
 | m + 1 => by
  show (subs m ++ (subs m).map (· ++ [(m : Int)])).Nodup
  refine List.nodup_append.mpr ⟨zmy m, ?_, fun x hx y hy e => ?_⟩
  ·exact List.pairwise_map.mpr ((zmy m).imp fun {a b} h e => h (List.append_cancel_right e))
  ·obtain ⟨q, _, rfl⟩ := List.mem_map.mp hy
   have := (subs_mem.mp hx).1 m (by rw [e]; exact List.mem_append_right _ List.mem_cons_self)
   lia
section
variable (T I O : Int -> Bool)
def okS (m : Nat) (A : List Int) : Bool := (ups m).all fun k => if T k then (decide (k ∈ A) || I k) else (!decide (k ∈ A) || O k)
def cS (m : Nat) (A : List Int) : Nat := ((ups m).filter fun k => T k && !decide (k ∈ A)).length
def dS (m : Nat) (A : List Int) : Nat := ((ups m).filter fun k => !T k && decide (k ∈ A)).length
def nI (m : Nat) : Nat := ((ups m).filter fun k => T k && I k).length
def nO (m : Nat) : Nat := ((ups m).filter fun k => !T k && O k).length
theorem ups_s (m : Nat) : ups ((m + 1 : Nat) : Int) = ups m ++ [(m : Int)] := by rw [show ((m + 1 : Nat) : Int) = (m : Int) + 1 by lia, zod (by lia)]
theorem fl_s (m : Nat) (q : Int -> Bool) : ((ups ((m + 1 : Nat) : Int)).filter q).length = ((ups m).filter q).length + if q m then 1 else 0 := by
 rw [ups_s, List.filter_append, List.length_append]
 congr 1
 cases e : q m with
 | true => rw [List.filter_cons_of_pos e]; rfl
 | false => rw [List.filter_cons_of_neg (by rw [e]; decide)]; rfl
theorem fl_c {m : Nat} {q q' : Int -> Bool} (h : ∀ k ∈ ups (m : Int), q k = q' k) : ((ups m).filter q).length = ((ups m).filter q').length := by rw [List.filter_congr h]
theorem al_s (m : Nat) (q : Int -> Bool) : (ups ((m + 1 : Nat) : Int)).all q = ((ups m).all q && q m) := by
 rw [ups_s, List.all_append]
 simp
theorem al_c {m : Nat} {q q' : Int -> Bool} (h : ∀ k ∈ ups (m : Int), q k = q' k) : (ups m).all q = (ups m).all q' := by
 rw [Bool.eq_iff_iff, List.all_eq_true, List.all_eq_true]
 exact ⟨fun z k hk => by rw [<- h k hk]; exact z k hk, fun z k hk => by rw [h k hk]; exact z k hk⟩
theorem zuw {m : Nat} {A : List Int} {k : Int} (hk : k ∈ ups (m : Int)) : decide (k ∈ A ++ [(m : Int)]) = decide (k ∈ A) := by
 have := mem_ups.mp hk
 rw [decide_eq_decide, List.mem_append, List.mem_singleton]
 exact ⟨fun z => z.resolve_right (by lia), .inl⟩
theorem zgn (g : Nat -> Nat -> Nat -> Nat -> Int) (h1 : ∀ p q a b, g p q a b + g p q (a + 1) b = g (p + 1) q a b) (h2 : ∀ p q a b, g p q a b + g p q a (b + 1) = g p (q + 1) a b) :
  ∀ (m p q a b : Nat), (sm (subs m) fun A => if okS T I O m A then g p q (a + cS T m A) (b + dS T m A) else 0) = g (p + nI T I m) (q + nO T O m) a b
 | 0, p, q, a, b => by
  show (if okS T I O 0 [] then g p q (a + cS T 0 []) (b + dS T 0 []) else 0) + 0 = _
  have u0 : ups ((0 : Nat) : Int) = [] := rfl
  unfold okS cS dS nI nO
  rw [u0]
  simp
 | m + 1, p, q, a, b => by
  have ih := zgn g h1 h2 m
  have nm : ∀ A ∈ subs m, (m : Int) ∉ A := fun A hA z => by have := (subs_mem.mp hA).1 m z; lia
  show sm (subs m ++ (subs m).map (· ++ [(m : Int)])) _ = _
  rw [zyu, zsn]
  have a1 : (sm (subs m) fun A => if okS T I O (m + 1) A then g p q (a + cS T (m + 1) A) (b + dS T (m + 1) A) else 0) = sm (subs m) fun A => if okS T I O m A && (if T m then I m else true) then g p q (a + (cS T m A + if T m then 1 else 0)) (b + dS T m A) else 0 := by
   refine zah fun A hA => ?_
   have n1 := nm A hA
   have e1 : okS T I O (m + 1) A = (okS T I O m A && (if T m then I m else true)) := by
    unfold okS
    rw [al_s]
    cases T m <;> simp [n1]
   have e2 : cS T (m + 1) A = cS T m A + if T m then 1 else 0 := by
    unfold cS
    rw [fl_s]
    cases T m <;> simp [n1]
   have e3 : dS T (m + 1) A = dS T m A := by
    unfold dS
    rw [fl_s]
    simp [n1]
   rw [e1, e2, e3]
  have a2 : (sm (subs m) fun A => if okS T I O (m + 1) (A ++ [(m : Int)]) then g p q (a + cS T (m + 1) (A ++ [(m : Int)])) (b + dS T (m + 1) (A ++ [(m : Int)])) else 0) = sm (subs m) fun A => if okS T I O m A && (if T m then true else O m) then g p q (a + cS T m A) (b + (dS T m A + if T m then 0 else 1)) else 0 := by
   refine zah fun A hA => ?_
   have e1 : okS T I O (m + 1) (A ++ [(m : Int)]) = (okS T I O m A && (if T m then true else O m)) := by
    unfold okS
    rw [al_s, al_c fun k hk => by rw [zuw hk]]
    cases T m <;> simp
   have e2 : cS T (m + 1) (A ++ [(m : Int)]) = cS T m A := by
    unfold cS
    rw [fl_s, fl_c fun k hk => by rw [zuw hk]]
    simp
   have e3 : dS T (m + 1) (A ++ [(m : Int)]) = dS T m A + if T m then 0 else 1 := by
    unfold dS
    rw [fl_s, fl_c fun k hk => by rw [zuw hk]]
    cases T m <;> simp
   rw [e1, e2, e3]
  rw [a1, a2]
  have n1 : nI T I (m + 1) = nI T I m + if T m && I m then 1 else 0 := by unfold nI; rw [fl_s]
  have n2 : nO T O (m + 1) = nO T O m + if !T m && O m then 1 else 0 := by unfold nO; rw [fl_s]
  rw [n1, n2]
  have z : (sm (subs m) fun A => if (okS T I O m A && false) = true then g p q (a + (cS T m A + 1)) (b + dS T m A) else 0) = 0 := zds fun A _ => by rw [Bool.and_false]; rfl
  have z2 : (sm (subs m) fun A => if (okS T I O m A && false) = true then g p q (a + cS T m A) (b + (dS T m A + 1)) else 0) = 0 := zds fun A _ => by rw [Bool.and_false]; rfl
  have i0 := ih p q a b
  have i1 := ih p q (a + 1) b
  have i2 := ih p q a (b + 1)
  have r1 : (sm (subs m) fun A => if okS T I O m A then g p q (a + (cS T m A + 1)) (b + dS T m A) else 0) = sm (subs m) fun A => if okS T I O m A then g p q (a + 1 + cS T m A) (b + dS T m A) else 0 := zah fun A _ => by rw [show a + (cS T m A + 1) = a + 1 + cS T m A by lia]
  have r2 : (sm (subs m) fun A => if okS T I O m A then g p q (a + cS T m A) (b + (dS T m A + 1)) else 0) = sm (subs m) fun A => if okS T I O m A then g p q (a + cS T m A) (b + 1 + dS T m A) else 0 := zah fun A _ => by rw [show b + (dS T m A + 1) = b + 1 + dS T m A by lia]
  cases hT : T m with
  | true =>
   cases hI : I m with
   | true =>
    simp only [if_true, Bool.and_true, Nat.add_zero, Bool.not_true, Bool.false_and, Bool.false_eq_true, if_false]
    rw [r1, i1, i0, Int.add_comm, h1, Nat.add_assoc]
   | false =>
    simp only [if_true, Bool.and_true, Nat.add_zero, Bool.not_true, Bool.false_and, Bool.and_false, Bool.false_eq_true, if_false] at z ⊢
    rw [i0, z, Int.zero_add]
  | false =>
   cases hO : O m with
   | true =>
    simp only [if_true, Bool.and_true, Nat.add_zero, Bool.not_false, Bool.false_and, Bool.and_false, Bool.false_eq_true, if_false]
    rw [r2, i2, i0, h2, Nat.add_assoc]
   | false =>
    simp only [if_true, Bool.and_true, Nat.add_zero, Bool.not_false, Bool.false_and, Bool.and_false, Bool.false_eq_true, if_false] at z2 ⊢
    rw [i0, z2, Int.add_zero]
end
section
variable {n : Int} {ps : List (Int × Int)}
theorem zkr (h8 : ps.length <= 8) : (allP ps).Perm (subs ps.length) := (List.perm_ext_iff_of_nodup (zks h8) (zmy _)).mpr fun p => by
 rw [subs_mem]
 exact zbv h8
theorem zEb {t ord : List Int} (up : t.Pairwise (· < ·)) : (linP n ps t ord).Pairwise (· < ·) := up.filter _
theorem zmz (ok : WebOk n ps) {ord : List Int} {t : List Int} (ht : t ∈ zbs n ps) (g : Nat -> Nat -> Nat -> Nat -> Int) (h1 : ∀ p q a b, g p q a b + g p q (a + 1) b = g (p + 1) q a b) (h2 : ∀ p q a b, g p q a b + g p q a (b + 1) = g p (q + 1) a b) :
  (sm (allP ps) fun A => if liesP n ps A t ord then g 0 0 (offL t A).length (offL A t).length else 0) = g (linP n ps t ord).length (loutP n ps t ord).length 0 0 := by
 have TR := zed ok ht
 rw [zew (zkr ok.2.2)]
 have key := zgn (fun k => decide (k ∈ t)) (fun k => decide (k ∈ linP n ps t ord)) (fun k => decide (k ∈ loutP n ps t ord)) g h1 h2 ps.length 0 0 0 0
 have e1 : nI (fun k => decide (k ∈ t)) (fun k => decide (k ∈ linP n ps t ord)) ps.length = (linP n ps t ord).length := by
  unfold nI
  rw [<- zhs TR.ks TR.up]
  congr 1
  exact up_eq (TR.up.filter _) (zEb TR.up) fun k => by
   rw [List.mem_filter, decide_eq_true_iff]
   exact ⟨fun z => z.2, fun z => ⟨(mem_lin.mp z).1, z⟩⟩
 have e2 : nO (fun k => decide (k ∈ t)) (fun k => decide (k ∈ loutP n ps t ord)) ps.length = (loutP n ps t ord).length := by
  unfold nO
  congr 1
  refine up_eq ((zcl _).filter _) (by unfold loutP; exact (zcl _).filter _) fun k => ?_
  rw [List.mem_filter, mem_ups, Bool.and_eq_true, Bool.not_eq_true', decide_eq_false_iff_not, decide_eq_true_iff]
  exact ⟨fun z => z.2.2, fun z => ⟨(mem_lout.mp z).1, (mem_lout.mp z).2.1, z⟩⟩
 rw [e1, e2, Nat.zero_add, Nat.zero_add] at key
 rw [<- key]
 refine zah fun A hA => ?_
 obtain ⟨kA, uA⟩ := subs_mem.mp hA
 have f1 : liesP n ps A t ord = okS (fun k => decide (k ∈ t)) (fun k => decide (k ∈ linP n ps t ord)) (fun k => decide (k ∈ loutP n ps t ord)) ps.length A := by
  rw [Bool.eq_iff_iff, lies_iff]
  unfold okS
  rw [List.all_eq_true]
  constructor
  ·rintro ⟨a, b⟩ k _
   by_cases kt : k ∈ t
   ·by_cases kA' : k ∈ A
    ·simp [kt, kA']
    ·simp [kt, a k kt kA']
   ·by_cases kA' : k ∈ A
    ·simp [kt, b k kA' kt]
    ·simp [kt, kA']
  ·intro h
   refine ⟨fun k kt nA => ?_, fun k kA' nt => ?_⟩
   ·have := h k (mem_ups.mpr (TR.ks k kt))
    simpa [kt, nA] using this
   ·have := h k (mem_ups.mpr (kA k kA'))
    simpa [nt, kA'] using this
 have f2 : (offL t A).length = 0 + cS (fun k => decide (k ∈ t)) ps.length A := by
  unfold offL cS
  rw [zhs TR.ks TR.up, Nat.zero_add]
 have f3 : (offL A t).length = 0 + dS (fun k => decide (k ∈ t)) ps.length A := by
  unfold offL dS
  rw [zhs kA uA, Nat.zero_add]
  congr 1
  exact List.filter_congr fun k _ => Bool.and_comm _ _
 rw [f1, f2, f3]
theorem zii (ok : WebOk n ps) {ord : List Int} (pm : ord.Perm (ups ps.length)) (g : Nat -> Nat -> Nat -> Nat -> Int) (h1 : ∀ p q a b, g p q a b + g p q (a + 1) b = g (p + 1) q a b) (h2 : ∀ p q a b, g p q a b + g p q a (b + 1) = g p (q + 1) a b) :
  (sm (allP ps) fun A => g 0 0 (rkAll n ps - rkP n ps A).toNat ((A.length : Int) - rkP n ps A).toNat) = sm (zbs n ps) fun t => g (linP n ps t ord).length (loutP n ps t ord).length 0 0 := by
 have e1 : (sm (zbs n ps) fun t => g (linP n ps t ord).length (loutP n ps t ord).length 0 0) = sm (zbs n ps) fun t => sm (allP ps) fun A => if liesP n ps A t ord then g 0 0 (offL t A).length (offL A t).length else 0 := zah fun t ht => (zmz ok ht g h1 h2).symm
 rw [e1, <- zhd]
 refine zah fun A hA => ?_
 obtain ⟨kA, uA⟩ := (zbv ok.2.2).mp hA
 rw [<- zff, zxs ok pm A kA, zbf, zlf]
 obtain ⟨a, b⟩ := zue ok pm kA uA (zgm ok pm A) (zpt ok pm A kA)
 rw [a, b, Int.toNat_natCast, Int.toNat_natCast]
 lia
end
abbrev T3 := Int × Int × Int
def k3 (t : T3) : Int × Int := (t.1, t.2.1)
def coef (ts : List T3) (k : Int × Int) : Int := ((ts.filter fun t => decide (k3 t = k)).map (·.2.2)).sum
theorem zba (t : T3) (ts : List T3) (k : Int × Int) : coef (t :: ts) k = (if k3 t = k then t.2.2 else 0) + coef ts k := by
 unfold coef
 by_cases h : k3 t = k
 ·rw [List.filter_cons_of_pos (by simpa using h), if_pos h, List.map_cons, List.sum_cons]
 ·rw [List.filter_cons_of_neg (by simpa using h), if_neg h, Int.zero_add]
theorem zfn (a b : List T3) (k : Int × Int) : coef (a ++ b) k = coef a k + coef b k := by
 induction a with
 | nil => show coef b k = 0 + coef b k; lia
 | cons t a ih => rw [List.cons_append, zba, zba, ih]; lia
theorem zbo {ts : List T3} {k : Int × Int} (h : ∀ t ∈ ts, k3 t ≠ k) : coef ts k = 0 := by
 induction ts with
 | nil => rfl
 | cons t ts ih =>
  rw [zba, if_neg (h t (List.mem_cons_self ..)), ih fun u hu => h u (List.mem_cons_of_mem _ hu)]
  lia
def keyLt (a b : T3) : Prop := a.1 < b.1 \/ (a.1 = b.1 /\ a.2.1 < b.2.1)
structure PolyIs (ts L : List T3) : Prop where
 up : L.Pairwise keyLt
 mem : ∀ t, t ∈ L ↔ t.2.2 ≠ 0 /\ t.2.2 = coef ts (k3 t)
def kk (k : Int × Int) : List Key := [.inl k.1, .inl k.2]
theorem zuk {a b : Int × Int} (h : kk a = kk b) : a = b := by
 unfold kk at h
 simp only [List.cons.injEq, Sum.inl.injEq, and_true] at h
 exact Prod.ext h.1 h.2
structure TabIs (ts : List T3) (kvs : TTab) : Prop where
 nd : (kvs.map (·.1)).Nodup
 val : ∀ p ∈ kvs, ∃ k, p = (kk k, V.int (coef ts k))
 has : ∀ t ∈ ts, kk (k3 t) ∈ kvs.map (·.1)
 len : kvs.length <= ts.length
theorem TabIs.nil : TabIs [] [] := ⟨by simp, (fun _ h => nomatch h), (fun _ h => nomatch h), Nat.le_refl _⟩
theorem zwp {kvs : TTab} {k : List Key} {v : V} (h : valV kvs k = some v) : (k, v) ∈ kvs := by
 unfold valV at h
 obtain ⟨p, hp, rfl⟩ := Option.map_eq_some_iff.mp h
 have h1 := List.mem_of_find?_eq_some hp
 have h2 := List.find?_some hp
 have : p.1 = k := by simpa using h2
 rw [<- this]
 exact h1
theorem zrj {kvs : TTab} {k : List Key} (h : valV kvs k = none) : k ∉ kvs.map (·.1) := by
 unfold valV at h
 rw [Option.map_eq_none_iff] at h
 intro hm
 obtain ⟨p, hp, e⟩ := List.mem_map.mp hm
 have := List.find?_eq_none.mp h p hp
 exact this (by simpa using e)
theorem TabIs.at {ts : List T3} {kvs : TTab} (h : TabIs ts kvs) (k : Int × Int) : (valV kvs (kk k)).getD (.int 0) = .int (coef ts k) := by
 cases e : valV kvs (kk k) with
 | some v =>
  obtain ⟨k', e'⟩ := h.val _ (zwp e)
  injection e' with e1 e2
  rw [zuk e1, e2]
  rfl
 | none =>
  have := zrj e
  rw [zbo fun t ht z => this (by rw [<- z]; exact h.has t ht)]
  rfl
theorem TabIs.put {ts : List T3} {kvs : TTab} (h : TabIs ts kvs) (t : T3) : TabIs (ts ++ [t]) (putK kvs (kk (k3 t)) (.int (coef ts (k3 t) + t.2.2))) := by
 have c1 : coef (ts ++ [t]) (k3 t) = coef ts (k3 t) + t.2.2 := by
  rw [zfn, zba, if_pos rfl]
  show _ + (_ + 0) = _
  lia
 have c2 : ∀ k, k3 t ≠ k -> coef (ts ++ [t]) k = coef ts k := fun k hk => by
  rw [zfn, zba, if_neg hk]
  show _ + (0 + 0) = _
  lia
 refine ⟨?_, ?_, ?_, ?_⟩
 ·unfold putK
  split
  ·rw [List.map_map]
   have : ((fun x : List Key × V => x.1) ∘ fun kv : List Key × V => if kv.1 = kk (k3 t) then (kv.1, V.int (coef ts (k3 t) + t.2.2)) else kv) = fun x => x.1 := by
    funext p
    show (if p.1 = kk (k3 t) then (p.1, _) else p).1 = p.1
    split <;> rfl
   rw [this]
   exact h.nd
  ·rename_i hn
   rw [List.map_append, List.nodup_append]
   refine ⟨h.nd, by simp, fun a ha b hb => ?_⟩
   have : b = kk (k3 t) := by simpa using hb
   subst this
   intro e
   subst e
   apply hn
   obtain ⟨p, hp, e⟩ := List.mem_map.mp ha
   exact List.any_eq_true.mpr ⟨p, hp, by simpa using e⟩
 ·intro p hp
  unfold putK at hp
  split at hp
  ·obtain ⟨q, hq, rfl⟩ := List.mem_map.mp hp
   obtain ⟨k, e⟩ := h.val q hq
   by_cases c : q.1 = kk (k3 t)
   ·rw [if_pos c]
    exact ⟨k3 t, by rw [c, c1]⟩
   ·rw [if_neg c]
    refine ⟨k, ?_⟩
    rw [e, c2 k fun z => c (by rw [e, z])]
  ·rename_i hn
   rcases List.mem_append.mp hp with hp | hp
   ·obtain ⟨k, e⟩ := h.val p hp
    refine ⟨k, ?_⟩
    rw [e, c2 k fun z => hn (List.any_eq_true.mpr ⟨p, hp, by rw [e, z]; simp⟩)]
   ·have : p = (kk (k3 t), V.int (coef ts (k3 t) + t.2.2)) := by simpa using hp
    exact ⟨k3 t, by rw [this, c1]⟩
 ·have keep : ∀ x ∈ kvs.map (·.1), x ∈ (putK kvs (kk (k3 t)) (V.int (coef ts (k3 t) + t.2.2))).map (·.1) := by
   intro x hx
   unfold putK
   split
   ·obtain ⟨p, hp, rfl⟩ := List.mem_map.mp hx
    refine List.mem_map.mpr ⟨_, List.mem_map.mpr ⟨p, hp, rfl⟩, ?_⟩
    show (if p.1 = kk (k3 t) then (p.1, _) else p).1 = p.1
    split <;> rfl
   ·rw [List.map_append]
    exact List.mem_append_left _ hx
  intro u hu
  rcases List.mem_append.mp hu with hu | hu
  ·exact keep _ (h.has u hu)
  ·have : u = t := by simpa using hu
   subst this
   unfold putK
   split
   ·rename_i hy
    obtain ⟨p, hp, e⟩ := List.any_eq_true.mp hy
    have e' : p.1 = kk (k3 u) := by simpa using e
    refine List.mem_map.mpr ⟨_, List.mem_map.mpr ⟨p, hp, rfl⟩, ?_⟩
    show (if p.1 = kk (k3 u) then (p.1, _) else p).1 = _
    rw [if_pos e', e']
   ·rw [List.map_append]
    exact List.mem_append_right _ (by simp)
 ·have := zdi kvs (kk (k3 t)) (V.int (coef ts (k3 t) + t.2.2))
  have := h.len
  rw [List.length_append]
  show _ <= _ + 1
  lia
def selP (p : List Key × V) : Option T3 := match p with
 | ([.inl i, .inl j], .int n) => if n = 0 then none else some (i, j, n)
 | _ => none
def sel (kvs : TTab) : List T3 := kvs.filterMap selP
theorem zey (k : Int × Int) (n : Int) : selP (kk k, .int n) = if n = 0 then none else some (k.1, k.2, n) := rfl
theorem zss {ts : List T3} {kvs : TTab} (h : TabIs ts kvs) (t : T3) : t ∈ sel kvs ↔ t.2.2 ≠ 0 /\ t.2.2 = coef ts (k3 t) := by
 unfold sel
 rw [List.mem_filterMap]
 constructor
 ·rintro ⟨p, hp, e⟩
  obtain ⟨k, rfl⟩ := h.val p hp
  rw [zey] at e
  by_cases c : coef ts k = 0
  ·rw [if_pos c] at e; cases e
  ·rw [if_neg c] at e
   cases e
   exact ⟨c, rfl⟩
 ·rintro ⟨c, e⟩
  have : ∃ u ∈ ts, k3 u = k3 t := by
   refine Classical.byContradiction fun hn => c ?_
   rw [e]
   exact zbo fun u hu z => hn ⟨u, hu, z⟩
  obtain ⟨u, hu, eu⟩ := this
  obtain ⟨p, hp, e2⟩ := List.mem_map.mp (h.has u hu)
  obtain ⟨k, rfl⟩ := h.val p hp
  have ek : k = k3 t := by rw [<- eu]; exact zuk e2
  refine ⟨_, hp, ?_⟩
  rw [zey, ek, <- e, if_neg c]
  rfl
theorem zoq {ts : List T3} {kvs : TTab} (h : TabIs ts kvs) : ((sel kvs).map k3).Nodup := by
 have hv := h.val
 have hn := h.nd
 clear h
 induction kvs with
 | nil => simp [sel]
 | cons p kvs ih =>
  rw [List.map_cons, List.nodup_cons] at hn
  have ih' := ih (fun q hq => hv q (List.mem_cons_of_mem _ hq)) hn.2
  obtain ⟨k, rfl⟩ := hv p (List.mem_cons_self ..)
  unfold sel at ih' ⊢
  by_cases c : coef ts k = 0
  ·rw [List.filterMap_cons_none (by rw [zey, if_pos c])]
   exact ih'
  ·rw [List.filterMap_cons_some (by rw [zey, if_neg c]), List.map_cons, List.nodup_cons]
   refine ⟨fun hm => hn.1 ?_, ih'⟩
   obtain ⟨t, ht, e⟩ := List.mem_map.mp hm
   obtain ⟨q, hq, eq⟩ := List.mem_filterMap.mp ht
   obtain ⟨k', rfl⟩ := hv q (List.mem_cons_of_mem _ hq)
   rw [zey] at eq
   by_cases c' : coef ts k' = 0
   ·rw [if_pos c'] at eq; cases eq
   ·rw [if_neg c'] at eq
    cases eq
    have : k' = k := e
    subst this
    exact List.mem_map.mpr ⟨_, hq, rfl⟩
theorem znd {ts : List T3} {kvs : TTab} (h : TabIs ts kvs) : (sel kvs).length <= ts.length := Nat.le_trans (List.length_filterMap_le ..) h.len
def l3 (t : T3) : List Int := [t.1, t.2.1, t.2.2]
def u3 (l : List Int) : T3 := (l.getD 0 0, l.getD 1 0, l.getD 2 0)
theorem u3_l3 (t : T3) : u3 (l3 t) = t := rfl
theorem zEd {a b : T3} (h : LexLe (l3 a) (l3 b)) (ne : k3 a ≠ k3 b) : keyLt a b := by
 unfold LexLe l3 at h
 rw [HT.lexLt_cons] at h
 unfold keyLt
 by_cases e : b.1 = a.1
 ·rw [if_pos e, HT.lexLt_cons] at h
  by_cases e2 : b.2.1 = a.2.1
  ·exact absurd (show (a.1, a.2.1) = (b.1, b.2.1) by rw [e, e2]) ne
  ·rw [if_neg e2] at h
   have := of_decide_eq_false h
   exact .inr ⟨e.symm, by lia⟩
 ·rw [if_neg e] at h
  have := of_decide_eq_false h
  exact .inl (by lia)
theorem zhl {ts : List T3} {kvs : TTab} (h : TabIs ts kvs) {kss : List (List Int)} (hp : kss.Perm ((sel kvs).map l3)) (hs : kss.Pairwise LexLe) : ∃ L, kss = L.map l3 /\ PolyIs ts L /\ L.length <= ts.length := by
 have e1 : kss.map u3 |>.map l3 |> (· = kss) := by
  rw [List.map_map]
  have : ∀ x ∈ kss, (l3 ∘ u3) x = x := fun x hx => by
   obtain ⟨t, _, rfl⟩ := List.mem_map.mp (hp.mem_iff.mp hx)
   show l3 (u3 (l3 t)) = l3 t
   rw [u3_l3]
  exact (List.map_congr_left this).trans (List.map_id _)
 have pm : (kss.map u3).Perm (sel kvs) := by
  have := hp.map u3
  rw [List.map_map] at this
  have e2 : (sel kvs).map (u3 ∘ l3) = sel kvs := (List.map_congr_left fun t _ => u3_l3 t).trans (List.map_id _)
  rw [e2] at this
  exact this
 refine ⟨kss.map u3, e1.symm, ⟨?_, fun t => by rw [pm.mem_iff, zss h]⟩, by rw [pm.length_eq]; exact znd h⟩
 have nd : ((kss.map u3).map k3).Nodup := (pm.map k3).nodup_iff.mpr (zoq h)
 have nd2 : (kss.map u3).Pairwise fun a b => k3 a ≠ k3 b := List.pairwise_map.mp nd
 have s2 : (kss.map u3).Pairwise fun a b => LexLe (l3 a) (l3 b) := by
  rw [<- e1] at hs
  exact List.pairwise_map.mp hs
 exact (s2.and nd2).imp fun ⟨x, y⟩ => zEd x y
def TermAt (H : Hp) (v : V) (t : T3) : Prop := ∃ a, v = .ref a /\ H a = some (.tup [.int t.1, .int t.2.1, .int t.2.2])
theorem TermAt.same {H H' : Hp} {v : V} {t : T3} (h : TermAt H v t) (e : Same H H') : TermAt H' v t := let ⟨a, h1, h2⟩ := h; ⟨a, h1, e _ _ h2⟩
theorem zay {H H' : Hp} {xs : List V} {ts : List T3} (h : Paired (TermAt H) xs ts) (e : Same H H') : Paired (TermAt H') xs ts := L2.Paired.mapP h fun _ _ q => q.same e
theorem Same.put {H H2 : Hp} {p : Addr} {o : HO} (s : Same H H2) (h : H p = none) : Same H (upd H2 p o) := fun b u e => by rw [zas (zao e h)]; exact s b u e
structure PolyAt (H : Hp) (v : V) (L : List T3) : Prop where
 ex : ∃ c rs, v = .ref c /\ H c = some (.tup rs) /\ Paired (TermAt H) rs L
theorem PolyAt.same {H H' : Hp} {v : V} {L : List T3} (h : PolyAt H v L) (e : Same H H') : PolyAt H' v L := by
 obtain ⟨c, rs, h1, h2, h3⟩ := h.ex
 exact ⟨c, rs, h1, e _ _ h2, zay h3 e⟩
theorem key2 {H : Hp} {b : Addr} {k : Int × Int} (h : H b = some (.tup ((kk k).map kV))) : H b = some (.tup [.int k.1, .int k.2]) := h
structure TxP (mg : Str -> Option Value) : Prop where
 isi : mg "isinstance" = none
 int : mg "int" = none
 bool : mg "bool" = none
 len : mg "len" = none
 tuple : mg "tuple" = none
 list : mg "list" = none
 range : mg "range" = none
 sorted : mg "sorted" = none
theorem Txt.p {K : W.Frag} {mg : Str -> Option Value} (T : Txt K mg) : TxP mg := ⟨T.isi, T.int, T.bool, T.len, T.tuple, T.list, T.range, T.sorted⟩
def TermK (K : W.Frag) (H : Hp) (v : V) (t : T3) : Prop := ∃ a, v = .ref a /\ SqT K H a [.int t.1, .int t.2.1, .int t.2.2]
theorem TermAt.K {K : W.Frag} {H : Hp} {v : V} {t : T3} (h : TermAt H v t) : TermK K H v t := let ⟨a, h1, h2⟩ := h; ⟨a, h1, SqT.of h2⟩
theorem TermK.same {K : W.Frag} {H H' : Hp} {v : V} {t : T3} (h : TermK K H v t) (e : Same H H') : TermK K H' v t := let ⟨a, h1, h2⟩ := h; ⟨a, h1, sqT e h2⟩
theorem zla {K : W.Frag} {H : Hp} {xs : List V} {ts : List T3} (h : Paired (TermAt H) xs ts) : Paired (TermK K H) xs ts := L2.Paired.mapP h fun _ _ q => q.K
theorem zmx {K : W.Frag} {H H' : Hp} {xs : List V} {ts : List T3} (h : Paired (TermK K H) xs ts) (e : Same H H') : Paired (TermK K H') xs ts := L2.Paired.mapP h fun _ _ q => q.same e
structure PolyK (K : W.Frag) (H : Hp) (v : V) (L : List T3) : Prop where
 ex : ∃ c rs, v = .ref c /\ SqT K H c rs /\ Paired (TermK K H) rs L
theorem PolyAt.K {K : W.Frag} {H : Hp} {v : V} {L : List T3} (h : PolyAt H v L) : PolyK K H v L := by
 obtain ⟨c, rs, h1, h2, h3⟩ := h.ex
 exact ⟨c, rs, h1, SqT.of h2, zla h3⟩
theorem PolyK.same {K : W.Frag} {H H' : Hp} {v : V} {L : List T3} (h : PolyK K H v L) (e : Same H H') : PolyK K H' v L := by
 obtain ⟨c, rs, h1, h2, h3⟩ := h.ex
 exact ⟨c, rs, h1, sqT e h2, zmx h3 e⟩
def Bd (ts : List T3) : Prop := ∀ t ∈ ts, 0 <= t.1 /\ 0 <= t.2.1 /\ t.1 + t.2.1 <= 9
def BdS (ts : List T3) : Prop := ∀ t ∈ ts, 0 <= t.2.1 /\ t.2.1 <= t.1 /\ t.1 <= 8
def cd (i j : Int) : Int := if j <= 4 then i * 5 + j else (10 - i) * 5 + (9 - j)
theorem zzv {i j k l : Int} (h1 : 0 <= i /\ 0 <= j /\ i + j <= 9) (h2 : 0 <= k /\ 0 <= l /\ k + l <= 9) (e : cd i j = cd k l) : i = k /\ j = l := by
 unfold cd at e
 split at e <;> split at e <;> lia
theorem cd_in {i j : Int} (h1 : 0 <= i /\ 0 <= j /\ i + j <= 9) : 0 <= cd i j /\ cd i j < 55 := by
 unfold cd
 split <;> lia
theorem zst {ts : List T3} {kvs : TTab} (tab : TabIs ts kvs) {t : T3} (ht : t ∈ sel kvs) : ∃ u ∈ ts, u.1 = t.1 /\ u.2.1 = t.2.1 := by
 obtain ⟨h1, h2⟩ := (zss tab t).mp ht
 by_cases c : ∃ u ∈ ts, k3 u = k3 t
 ·obtain ⟨u, hu, e⟩ := c
  have e1 : (k3 u).1 = (k3 t).1 := by rw [e]
  have e2 : (k3 u).2 = (k3 t).2 := by rw [e]
  exact ⟨u, hu, e1, e2⟩
 ·exact absurd (h2.trans (zbo fun u hu e => c ⟨u, hu, e⟩)) h1
theorem zsu {ts : List T3} {kvs : TTab} (tab : TabIs ts kvs) (g : T3 -> Int) (hg : ∀ t ∈ sel kvs, 0 <= g t /\ g t < 55) (hi : ∀ t ∈ sel kvs, ∀ u ∈ sel kvs, g t = g u -> k3 t = k3 u) : (sel kvs).length < 64 := by
 have nd : ((sel kvs).map g).Nodup := List.pairwise_map.mpr ((List.pairwise_map.mp (zoq tab)).imp_of_mem fun {x y} hx hy hne e => hne (hi x hx y hy e))
 have l := zls (n := 55) (by decide) nd fun i h => by
  obtain ⟨t, ht, rfl⟩ := List.mem_map.mp h
  exact hg t ht
 rw [List.length_map] at l
 lia
theorem zsr {ts : List T3} {kvs : TTab} (tab : TabIs ts kvs) (b : Bd ts) : (sel kvs).length < 64 := by
 have bd : Bd (sel kvs) := fun t ht => by
  obtain ⟨u, hu, e1, e2⟩ := zst tab ht
  have := b u hu
  rw [e1, e2] at this
  exact this
 exact zsu tab (fun t => cd t.1 t.2.1) (fun t ht => cd_in (bd t ht)) fun t ht u hu e => by
  obtain ⟨a, c⟩ := zzv (bd t ht) (bd u hu) e
  exact Prod.ext a c
theorem zqw {ts : List T3} {kvs : TTab} (tab : TabIs ts kvs) (b : BdS ts) : (sel kvs).length < 64 := by
 have bd : ∀ t ∈ sel kvs, 0 <= t.1 - t.2.1 /\ 0 <= t.2.1 /\ t.1 - t.2.1 + t.2.1 <= 9 := fun t ht => by
  obtain ⟨u, hu, e1, e2⟩ := zst tab ht
  have := b u hu
  lia
 exact zsu tab (fun t => cd (t.1 - t.2.1) t.2.1) (fun t ht => cd_in (bd t ht)) fun t ht u hu e => by
  obtain ⟨a, c⟩ := zzv (bd t ht) (bd u hu) e
  exact Prod.ext (show t.1 = u.1 by lia) c
theorem natB {n : Nat} (h : n < 100000) : n < sizeLine := Nat.lt_of_lt_of_le h (by decide)
def zle (K : W.Frag) : Sp := fun vs H Q _ => ∃ (k : Kd) (a : Addr) (rs : List V) (ts : List T3), vs = [.ref a] /\ SqK k K H a rs /\ Paired (TermK K H) rs ts /\ ts.length < 100000 /\ Bd ts /\
 ∀ v L H', Same H H' -> PolyIs ts L -> L.length <= ts.length -> PolyAt H' v L -> Q v H'
theorem zop {kvs : TTab} {i : Nat} {p : List Key × V} (e : kvs[i]? = some p) : sel (kvs.take (i + 1)) = sel (kvs.take i) ++ (selP p).toList := by
 unfold sel
 rw [zai e, List.filterMap_append]
 congr 1
section
variable {P : Program} {w : World} {K : W.Frag} {mg : Str -> Option Value} {base : Heap}
theorem scGath : zan ["terms", "times_of", "i", "j", "times"] ["terms"] (zad sGath) := ⟨rfl, rfl, rfl, by decide +kernel, rfl, by decide +kernel, by decide +kernel⟩
theorem ndG : (["key", "times"] : List Str).Nodup := by decide +kernel
theorem zEu (T : TxP mg) (S : Src K mg "gathered" sGath ["terms"]) : Def P w K mg base 1 "gathered" ["terms"] (zle K) := by
 refine S.def scGath (fun vs H Q E h => ?_) (fun f cdv A outer s H vs Q E hr h => ?_)
 ·obtain ⟨_, _, _, _, rfl, _⟩ := h; rfl
 ·obtain ⟨k, a, rs, ts, rfl, hq, ht, h64, bd, q⟩ := h
  have rl : rs.length = ts.length := Paired.length ht
  refine ⟨_, zae (zap (i := 1) scGath.nd rfl (Or.inl rfl) zpg)
   (zae (zcb PassesOwn.never rfl (zbi K k (pv 0)) (zcd K 3 rfl (zaq (zak (i := 2) scGath.nd rfl (Or.inl rfl)) (zaq (zak (i := 3) scGath.nd rfl (Or.inl rfl)) (zaq (zak (i := 4) scGath.nd rfl (Or.inl rfl)) zcc))))
    (zag (znf (hu_of hr) (pv 1) (zbj (zaa (pv 2) (zaa (pv 3) zac))) (pe_op zdu (zph (hu_of hr) (pv 1) (zbj (zaa (pv 2) (zaa (pv 3) zac))) zaf ⟨rfl, rfl, rfl, rfl⟩) (pv 4)) rfl)))
   (zag (zaw (zbh (zeu K) rfl T.tuple zdn (zaa (zaz zgh (by rfl) T.sorted zmk (zaa (zci (N' := ["key", "times"]) (fr := [none, none]) (zbn (by rfl)) rfl (zlo (zyz PySem.F.plainAttrs_dict PySem.F.slot_dict_items PySem.F.type_dict_items zpo (pv 1)))
    (g := gTup K 2 (gCons (gName 0) (gCons (gName 1) gNil))) (fun _ _ _ _ => zcd K 2 rfl (zaq (zak (i := 0) ndG rfl (Or.inl rfl) (Or.inr rfl)) (zaq (zak (i := 1) ndG rfl (Or.inl rfl) (Or.inr rfl)) zcc)))
    (fun _ _ _ _ => zgt (zcp op_ne (pv 1) zaf (zch _)))
    (fun _ _ _ _ => zbj (zaa (pe_ix (r := rIxT K) (zav K) (pv 0) zaf (fun _ _ => rfl)) (zaa (pe_ix (r := rIxT K) (zav K) (pv 0) zaf (fun _ _ => rfl)) (zaa (pv 1) zac))))) zac)) zac))))), ?_⟩
  intro d hd
  have s1 := Same.new (o := HO.dT []) hd
  have hd1 : (upd H d (.dT [])) d = some (.dT []) := zab
  generalize upd H d (.dT []) = H1 at s1 hd1 ⊢
  refine ⟨_, rfl, a, rfl, ⟨rs, s1.seqK hq⟩, zcq (k := k) (K := K) (a := a) (xs := rs) (fun i σ H' => (∃ u v r, σ = [some (.ref a), some (.ref d), u, v, r]) /\ Same H H' /\ ∃ kvs, H' d = some (.dT kvs) /\ TabIs (ts.take i) kvs)
   ⟨⟨_, _, _, rfl⟩, s1, [], hd1, TabIs.nil⟩ (fun i σ H' _ z => z.2.1.seqK hq) ?_ ?_⟩
  ·rintro i x σ H2 hx ⟨⟨u, v, r, rfl⟩, sm, kvs, hk, tab⟩
   obtain ⟨t, e1, b, rfl, hb⟩ := Paired.at ht hx
   refine ⟨b, _, rfl, sqT sm hb, rfl, _, _, rfl, _, _, rfl, _, _, rfl, rfl, ?_⟩
   have kl : kvs.length < 100000 := by
    have := tab.len
    rw [List.length_take] at this
    lia
   refine ⟨_, rfl, d, rfl, .inr ⟨_, .inl hk⟩, _, rfl, _, rfl, by show 2 <= sizeLine; decide, fun c hc => ?_⟩
   have s3 := Same.new (o := HO.tup [.int t.1, .int t.2.1]) hc
   have hc3 : (upd H2 c (.tup [.int t.1, .int t.2.1])) c = some (.tup ((kk (k3 t)).map kV)) := zab
   have hk3 := s3 _ _ hk
   have sm3 := sm.trans s3
   generalize upd H2 c (.tup [.int t.1, .int t.2.1]) = H3 at s3 hc3 hk3 sm3 ⊢
   refine ⟨_, DGet.t hk3 hc3, ?_⟩
   rw [tab.at]
   refine ⟨_, rfl, _, _, rfl, rfl, _, rfl, _, rfl, _, rfl, by show 2 <= sizeLine; decide, fun c2 hc2 => ?_⟩
   have s4 := Same.new (o := HO.tup [.int t.1, .int t.2.1]) hc2
   have hc4 : (upd H3 c2 (.tup [.int t.1, .int t.2.1])) c2 = some (.tup ((kk (k3 t)).map kV)) := zab
   have hk4 := s4 _ _ hk3
   have sm4 := sm3.trans s4
   generalize upd H3 c2 (.tup [.int t.1, .int t.2.1]) = H4 at s4 hc4 hk4 sm4 ⊢
   refine ⟨d, _, rfl, DPut.t hk4 hc4 (natB kl), ⟨_, _, _, rfl⟩, Same.put sm4 hd, _, zab, ?_⟩
   rw [zai e1]
   exact tab.put t
  ·rintro σ H2 ⟨⟨u, v, r, rfl⟩, sm, kvs, hk, tab⟩
   rw [rl, List.take_length] at tab
   have kl : kvs.length < 100000 := Nat.lt_of_le_of_lt tab.len h64
   refine ⟨_, rfl, .inr (.inr (.inl ⟨rfl, .inr ⟨_, hk⟩⟩)), d, kvs, rfl, rfl, hk, fun vw hvw => ?_⟩
   have s3 := Same.new (o := viewO vw d) hvw
   refine ⟨vw, d, kvs, rfl, zab, s3 _ _ hk, fun o => ?_⟩
   have hf : (upd (upd H2 vw (viewO vw d)) d (.frz o (.dT kvs))) d = some (.frz o (.dT kvs)) := zab
   have sm3 : Same H (upd (upd H2 vw (viewO vw d)) d (.frz o (.dT kvs))) := Same.put (sm.trans s3) hd
   generalize upd (upd H2 vw (viewO vw d)) d (.frz o (.dT kvs)) = H3 at hf sm3 ⊢
   refine zvq (fun σ => ∃ u v, σ = [u, v]) (fun i ys H' => Same H3 H' /\ Paired (TermAt H') ys (sel (kvs.take i))) ⟨_, _, rfl⟩ ⟨Same.refl _, .nil⟩ (natB kl) (fun i ys H' z => z.1 _ _ hf) ?_ ?_
   ·rintro i Tp b key vv ys σ H4 N ek hT hb ⟨u, v, rfl⟩ ⟨sm4, hy⟩ hN
    obtain ⟨k2, e2⟩ := tab.val _ (List.mem_of_getElem? ek)
    injection e2 with e3 e4
    subst e3 e4
    have s5 := Same.new (o := HO.tup [.ref b, .int (coef ts k2)]) hT
    have hT5 : (upd H4 Tp (.tup [.ref b, .int (coef ts k2)])) Tp = some (.tup [.ref b, .int (coef ts k2)]) := zab
    have hb5 := key2 (s5 _ _ hb)
    have sm5 := sm4.trans s5
    have hy5 := zay hy s5
    generalize upd H4 Tp (.tup [.ref b, .int (coef ts k2)]) = H5 at s5 hT5 hb5 sm5 hy5 ⊢
    refine ⟨Tp, _, rfl, SqT.of hT5, rfl, _, _, rfl, _, _, rfl, rfl, ?_⟩
    dsimp only [gName, List.set]
    refine ⟨_, rfl, rfl, _, rfl, ?_⟩
    have e5 := zop ek
    rw [zey] at e5
    by_cases c : coef ts k2 = 0
    ·rw [decide_eq_true (show V.int (coef ts k2) = V.int 0 by rw [c])]
     rw [if_pos c, Option.toList_none, List.append_nil] at e5
     refine iteF (hN _ _ _ ⟨_, _, rfl⟩ ⟨sm5, ?_⟩ (by lia))
     rw [e5]
     exact hy5
    ·rw [decide_eq_false (show ¬ V.int (coef ts k2) = V.int 0 from fun z => c (by injection z))]
     rw [if_neg c, Option.toList_some] at e5
     have j0 : atI ([.int k2.1, .int k2.2] : List V) 0 = some (.int k2.1) := zar (j := 0) rfl
     have j1 : atI ([.int k2.1, .int k2.2] : List V) 1 = some (.int k2.2) := zar (j := 1) rfl
     refine iteT ⟨_, rfl, b, _, _, _, rfl, rfl, SqT.of hb5, j0, _, rfl, b, _, _, _, rfl, rfl, SqT.of hb5, j1, _, rfl, by show 3 <= sizeLine; decide, fun c2 hc2 => ?_⟩
     have s6 := Same.new (o := HO.tup [.int k2.1, .int k2.2, .int (coef ts k2)]) hc2
     refine hN _ _ _ ⟨_, _, rfl⟩ ⟨sm5.trans s6, ?_⟩ (by simp)
     rw [e5]
     exact L2.Paired.snoc (zay hy5 s6) ⟨c2, rfl, zab⟩
   ·rintro ys H4 ⟨sm4, hy⟩ l hl
    rw [List.take_length] at hy
    have s5 := Same.new (o := HO.lst ys) hl
    have hl5 : (upd H4 l (.lst ys)) l = some (.lst ys) := zab
    have hy5 := zay hy s5
    have sm5 := sm4.trans s5
    generalize upd H4 l (.lst ys) = H5 at s5 hl5 hy5 sm5 ⊢
    have yl : ys.length = (sel kvs).length := Paired.length hy
    have sl := znd tab
    have ss := zsr tab bd
    have py : Paired (zgj H5) ys ((sel kvs).map l3) := by
     have : ∀ {ys : List V} {us : List T3}, Paired (TermAt H5) ys us -> Paired (zgj H5) ys (us.map l3) := by
      intro ys us h
      induction h with
      | nil => exact .nil
      | cons r _ ih => exact .cons (let ⟨a, e1, e2⟩ := r; ⟨a, e1, e2⟩) ih
     exact this hy5
    refine ⟨l, ys, _, rfl, SqL.of hl5, by lia, py, fun ks hks => ?_, fun l2 rs' kss' p1 p2 p3 hl2 => ?_⟩
    ·obtain ⟨t, _, rfl⟩ := List.mem_map.mp hks
     intro z
     cases z
    ·obtain ⟨L, rfl, pL, ll⟩ := zhl tab p2 p3
     have s6 := Same.new (o := HO.lst rs') hl2
     refine ⟨l2, rs', rfl, .inl ⟨SqL.of zab, fun c hc => ?_⟩⟩
     have s7 := Same.new (o := HO.tup rs') hc
     have pt : Paired (TermAt H5) rs' L := by
      have : ∀ {rs : List V} {us : List T3}, Paired (zgj H5) rs (us.map l3) -> Paired (TermAt H5) rs us := by
       intro rs us
       induction us generalizing rs with
       | nil => intro h; cases h; exact .nil
       | cons t us ih =>
        intro h
        rw [List.map_cons] at h
        cases h with
        | cons r t => exact .cons (let ⟨a, e1, e2⟩ := r; ⟨a, e1, e2⟩) (ih t)
      exact this p1
     exact q _ L _ ((sm3.trans sm5).trans (s6.trans s7)) pL ll ⟨c, rs', rfl, zab, zay pt (s6.trans s7)⟩
end
theorem zek : ∀ {U : List T3}, (U.map k3).Nodup -> ∀ t ∈ U, coef U (k3 t) = t.2.2
 | [], _, t, h => nomatch h
 | a :: U, nd, t, h => by
  rw [List.map_cons, List.nodup_cons] at nd
  rw [zba]
  rcases List.mem_cons.mp h with rfl | h
  ·rw [if_pos rfl, zbo fun u hu e => nd.1 (List.mem_map.mpr ⟨u, hu, e⟩)]
   lia
  ·rw [if_neg (fun e => nd.1 (List.mem_map.mpr ⟨t, h, e.symm⟩)), zek nd.2 t h]
   lia
theorem zgl {L : List T3} (h : L.Pairwise keyLt) : (L.map k3).Nodup := by
 refine List.pairwise_map.mpr (h.imp fun {a b} x e => ?_)
 obtain ⟨e1, e2⟩ := Prod.mk.inj (show (a.1, a.2.1) = (b.1, b.2.1) from e)
 unfold keyLt at x
 lia
theorem PolyIs.coef {ts L : List T3} (h : PolyIs ts L) (k : Int × Int) : My.coef L k = My.coef ts k := by
 by_cases c : My.coef ts k = 0
 ·rw [c]
  refine zbo fun t ht e => ?_
  obtain ⟨a, b⟩ := (h.mem t).mp ht
  rw [e, c] at b
  exact a b
 ·have hm : (k.1, k.2, My.coef ts k) ∈ L := (h.mem _).mpr ⟨c, rfl⟩
  exact zek (zgl h.up) _ hm
def sw (t : T3) : T3 := (t.2.1, t.1, t.2.2)
def mulT (t u : T3) : T3 := (t.1 + u.1, t.2.1 + u.2.1, t.2.2 * u.2.2)
def prodL (ts us : List T3) : List T3 := ts.flatMap fun t => us.map (mulT t)
theorem zlk (ts us : List T3) : (prodL ts us).length = ts.length * us.length := by
 unfold prodL
 induction ts with
 | nil => simp
 | cons t ts ih => rw [List.flatMap_cons, List.length_append, ih, List.length_map, List.length_cons, Nat.add_mul, Nat.one_mul, Nat.add_comm]
theorem zdr {H : Hp} {l : Addr} {ys zs : List V} {xs : List V} {ts : List T3} (h : Paired (TermAt H) xs ts) (hl : H l = some (.lst ys)) : Paired (TermAt (upd H l (.lst zs))) xs ts := L2.Paired.mapP h fun _ _ ⟨a, h1, h2⟩ => ⟨a, h1, by
 rw [zas (ne_of h2 hl (fun z => nomatch z))]
 exact h2⟩
theorem zfw {α β : Type} {F : α -> β -> Prop} {l₁ : List α} {l₂ : List β} {m₁ : List α} {m₂ : List β} (h : Paired F l₁ l₂) (h2 : Paired F m₁ m₂) : Paired F (l₁ ++ m₁) (l₂ ++ m₂) := by
 induction h with
 | nil => exact h2
 | cons r _ ih => exact .cons r ih
def zij (K : W.Frag) : Sp := fun vs H Q _ => ∃ (v u : V) (ts us : List T3), vs = [v, u] /\ PolyK K H v ts /\ PolyK K H u us /\ ts.length * us.length < 100000 /\ us.length < 100000 /\ (∀ t ∈ ts, ∀ r ∈ us, IntMulOk t.2.2 r.2.2) /\ Bd (prodL ts us) /\
 ∀ x L H', Same H H' -> PolyIs (prodL ts us) L -> L.length <= (prodL ts us).length -> PolyAt H' x L -> Q x H'
section
variable {P : Program} {w : World} {K : W.Frag} {mg : Str -> Option Value} {base : Heap}
theorem scProd : zan ["one", "other", "terms", "i", "j", "times"] ["one", "other"] (zad sProd) := ⟨rfl, rfl, rfl, by decide +kernel, rfl, by decide +kernel, by decide +kernel⟩
theorem nd4p : (["term", "i", "j", "times"] : List Str).Nodup := by decide +kernel
theorem zEp (S : Src K mg "product_of" sProd ["one", "other"]) (DG : Def P w K mg base 1 "gathered" ["terms"] (zle K)) : Def P w K mg base 2 "product_of" ["one", "other"] (zij K) := by
 refine S.def scProd (fun vs H Q E h => ?_) (fun f cdv A outer s H vs Q E hr h => ?_)
 ·obtain ⟨_, _, _, _, rfl, _⟩ := h; rfl
 ·obtain ⟨v, u, ts, us, rfl, pv', pu', hl, hl2, hm, bd, q⟩ := h
  have hr1 : Room 1 _ := hr.mono (by decide)
  obtain ⟨c, rs, rfl, hc, ht⟩ := pv'.ex
  obtain ⟨d, rs2, rfl, hd, ht2⟩ := pu'.ex
  have l1 := Paired.length ht
  have l2 := Paired.length ht2
  refine ⟨_, zae (zap (i := 2) scProd.nd rfl (Or.inl rfl) (zbu zac))
   (zae (zcb PassesOwn.never rfl (zbi K .t (pv 0)) (zcd K 3 rfl (zaq (zak (i := 3) scProd.nd rfl (Or.inr rfl)) (zaq (zak (i := 4) scProd.nd rfl (Or.inr rfl)) (zaq (zak (i := 5) scProd.nd rfl (Or.inr rfl)) zcc))))
    (zag (zcx (pe_bm PySem.F.plainAttrs_list PySem.F.slot_list_extend PySem.F.type_list_extend zdx (pv 2) (zaa (zci (N' := ["term", "i", "j", "times"]) (fr := [none, some 3, some 4, some 5]) (zbn (by rfl)) rfl (zbi K .t (pv 1))
     (fun _ _ _ _ => zak (i := 0) nd4p rfl (Or.inl rfl) (Or.inr rfl)) (fun _ _ _ _ => zck)
     (fun _ _ _ _ => zbj (zaa (pe_op zdu (pv 1) (pe_ix (r := rIxT K) (zav K) (pv 0) zaf (fun _ _ => rfl))) (zaa (pe_op zdu (pv 2) (pe_ix (r := rIxT K) (zav K) (pv 0) zaf (fun _ _ => rfl))) (zaa (pe_op zhn (pv 3) (pe_ix (r := rIxT K) (zav K) (pv 0) zaf (fun _ _ => rfl))) zac))))) zac)))))
   (zag (zaw (zaj DG hr1 rfl (zaa (pv 2) zac))))), ?_⟩
  refine ⟨by show 0 <= sizeLine; decide, fun l hlN => ?_⟩
  have s1 := Same.new (o := HO.lst []) hlN
  refine ⟨_, rfl, c, rfl, ⟨rs, sqT s1 hc⟩, zcq (k := .t) (K := K) (a := c) (xs := rs) (fun i σ H' => (∃ a b e, σ = [some (.ref c), some (.ref d), some (.ref l), a, b, e]) /\ Same H H' /\ ∃ zs, H' l = some (.lst zs) /\ Paired (TermAt H') zs (prodL (ts.take i) us))
   ⟨⟨_, _, _, rfl⟩, s1, [], zab, .nil⟩ (fun i σ H' _ z => sqT z.2.1 hc) ?_ ?_⟩
  ·rintro i x σ H2 hx ⟨⟨a, b, e, rfl⟩, sm, zs, hz, pz⟩
   obtain ⟨t, et, b1, rfl, hb⟩ := Paired.at ht hx
   have tin := List.mem_of_getElem? et
   refine ⟨b1, _, rfl, sqT sm hb, rfl, _, _, rfl, _, _, rfl, _, _, rfl, rfl, ?_⟩
   dsimp only [List.set]
   refine ⟨_, rfl, .inl ⟨rfl, _, SqL.of hz⟩, _, rfl, d, rfl, ⟨_, sqT sm hd⟩, ?_⟩
   refine zct (k := .t) (a := d) (xs := rs2) (fun σ => ∃ v, σ = [v, some (.int t.1), some (.int t.2.1), some (.int t.2.2)]) (fun j ys H3 => Same H2 H3 /\ Paired (TermAt H3) ys ((us.take j).map (mulT t))) ⟨_, rfl⟩ ⟨Same.refl _, .nil⟩ (natB (by lia)) (fun j ys H3 _ z => sqT z.1 (sqT sm hd)) ?_ ?_
   ·rintro j x ys σ H3 N hx3 ⟨u3, rfl⟩ ⟨sm3, py⟩ hN
    obtain ⟨r, er, b3, rfl, hb3⟩ := Paired.at ht2 hx3
    have rin := List.mem_of_getElem? er
    have hb3' := sqT sm3 (sqT sm hb3)
    have i0 : atI ([.int r.1, .int r.2.1, .int r.2.2] : List V) 0 = some (.int r.1) := zar (j := 0) rfl
    have i1 : atI ([.int r.1, .int r.2.1, .int r.2.2] : List V) 1 = some (.int r.2.1) := zar (j := 1) rfl
    have i2 : atI ([.int r.1, .int r.2.1, .int r.2.2] : List V) 2 = some (.int r.2.2) := zar (j := 2) rfl
    dsimp only [gName, List.set]
    refine yesT ?_
    refine ⟨_, rfl, _, rfl, b3, _, _, _, rfl, rfl, hb3', i0, _, _, rfl, rfl, _, rfl, _, rfl, b3, _, _, _, rfl, rfl, hb3', i1, _, _, rfl, rfl, _, rfl, _, rfl, b3, _, _, _, rfl, rfl, hb3', i2, _, _, rfl, rfl, hm t tin r rin, by show 3 <= sizeLine; decide, fun p4 hp4 => ?_⟩
    refine hN _ _ _ ⟨_, rfl⟩ ⟨sm3.trans (Same.new hp4), ?_⟩ (by simp)
    rw [zai er, List.map_append]
    exact L2.Paired.snoc (zay py (Same.new hp4)) ⟨p4, rfl, zab⟩
   ·rintro ys H3 ⟨sm3, py⟩ p4 hp4
    rw [l2, List.take_length] at py
    have s4 := Same.new (o := HO.lst ys) hp4
    have ex : prodL (ts.take (i + 1)) us = prodL (ts.take i) us ++ us.map (mulT t) := by
     unfold prodL
     rw [zai et, List.flatMap_append]
     simp
    have ll : (prodL (ts.take (i + 1)) us).length <= ts.length * us.length := by
     rw [zlk]
     exact Nat.mul_le_mul_right _ (by rw [List.length_take]; lia)
    rw [ex, List.length_append] at ll
    have z1 := Paired.length pz
    have z2 := Paired.length py
    have hz4 := s4 _ _ (sm3 _ _ hz)
    refine ⟨l, p4, zs, ys, rfl, rfl, hz4, zab, Nat.le_of_lt (natB (by lia)), ?_⟩
    refine ⟨⟨_, _, _, rfl⟩, My.Same.put ((sm.trans sm3).trans s4) hlN, zs ++ ys, zab, ?_⟩
    rw [ex]
    exact zdr (zfw (zay pz (sm3.trans s4)) (zay py s4)) hz4
  ·rintro σ H2 ⟨⟨a, b, e, rfl⟩, sm, zs, hz, pz⟩
   rw [l1, List.take_length] at pz
   refine ⟨_, rfl, .l, l, zs, prodL ts us, rfl, SqL.of hz, zla pz, by rw [zlk]; exact hl, bd, fun x L H3 s3 pi pl pa => ?_⟩
   exact q x L H3 (sm.trans s3) pi pl pa
end
def Eqv (ts us : List T3) : Prop := ∀ k, coef ts k = coef us k
theorem Eqv.refl (ts : List T3) : Eqv ts ts := fun _ => rfl
theorem PolyIs.eqv {ts L : List T3} (h : PolyIs ts L) : Eqv L ts := fun k => h.coef k
theorem PolyIs.of_eqv {ts us L : List T3} (h : PolyIs ts L) (e : Eqv ts us) : PolyIs us L := ⟨h.up, fun t => by rw [h.mem t, e]⟩
def lin (ts : List T3) (g : Int × Int -> Int) : Int := (ts.map fun t => t.2.2 * g (k3 t)).sum
theorem zcs (t : T3) (ts : List T3) (g : Int × Int -> Int) : lin (t :: ts) g = t.2.2 * g (k3 t) + lin ts g := rfl
theorem zrw (f : Int × Int -> Int) (a : Int × Int) (c : Int) : ∀ K : List (Int × Int), K.Nodup -> (K.map fun k => (if a = k then c else 0) * f k).sum = if a ∈ K then c * f a else 0
 | [], _ => rfl
 | k :: K, nd => by
  obtain ⟨h1, h2⟩ := List.nodup_cons.mp nd
  rw [List.map_cons, List.sum_cons, zrw f a c K h2]
  by_cases e : a = k
  ·subst e
   rw [if_pos rfl, if_neg h1, if_pos List.mem_cons_self]
   lia
  ·rw [if_neg e, Int.zero_mul, Int.zero_add]
   by_cases m : a ∈ K
   ·rw [if_pos m, if_pos (List.mem_cons_of_mem _ m)]
   ·rw [if_neg m, if_neg (fun z => (List.mem_cons.mp z).elim e m)]
theorem zrx (f g : Int × Int -> Int) : ∀ K : List (Int × Int), (K.map fun k => f k + g k).sum = (K.map f).sum + (K.map g).sum
 | [] => rfl
 | k :: K => by
  rw [List.map_cons, List.sum_cons, zrx f g K, List.map_cons, List.sum_cons, List.map_cons, List.sum_cons]
  lia
theorem zgv (g : Int × Int -> Int) (K : List (Int × Int)) (nd : K.Nodup) : ∀ ts : List T3, (∀ t ∈ ts, k3 t ∈ K) -> lin ts g = (K.map fun k => coef ts k * g k).sum
 | [], _ => by
  have : (K.map fun k => coef [] k * g k) = K.map fun _ => (0 : Int) := List.map_congr_left fun k _ => by show coef [] k * g k = 0; rw [show coef [] k = 0 from rfl, Int.zero_mul]
  rw [this]
  have : ∀ K : List (Int × Int), (K.map fun _ => (0 : Int)).sum = 0 := fun K => by induction K with
   | nil => rfl
   | cons _ _ ih => rw [List.map_cons, List.sum_cons, ih]; rfl
  rw [this]
  rfl
 | t :: ts, h => by
  have ih := zgv g K nd ts fun u hu => h u (List.mem_cons_of_mem _ hu)
  have e : (K.map fun k => coef (t :: ts) k * g k) = K.map fun k => (if k3 t = k then t.2.2 else 0) * g k + coef ts k * g k := List.map_congr_left fun k _ => by rw [zba, Int.add_mul]
  rw [zcs, ih, e, zrx (fun k => (if k3 t = k then t.2.2 else 0) * g k), zrw g (k3 t) t.2.2 K nd, if_pos (h t List.mem_cons_self)]
def ddup : List (Int × Int) -> List (Int × Int)
 | [] => []
 | a :: l => if a ∈ l then ddup l else a :: ddup l
theorem ddup_mem : ∀ {l : List (Int × Int)} {a : Int × Int}, a ∈ ddup l ↔ a ∈ l
 | [], _ => Iff.rfl
 | b :: l, a => by
  unfold ddup
  by_cases h : b ∈ l
  ·rw [if_pos h, ddup_mem, List.mem_cons]
   exact ⟨.inr, fun z => z.elim (fun e => e ▸ h) id⟩
  ·rw [if_neg h, List.mem_cons, List.mem_cons, ddup_mem]
theorem zkj : ∀ l : List (Int × Int), (ddup l).Nodup
 | [] => .nil
 | b :: l => by
  unfold ddup
  by_cases h : b ∈ l
  ·rw [if_pos h]; exact zkj l
  ·rw [if_neg h]; exact List.nodup_cons.mpr ⟨fun z => h (ddup_mem.mp z), zkj l⟩
theorem zde {ts us : List T3} (h : Eqv ts us) (g : Int × Int -> Int) : lin ts g = lin us g := by
 have a := zgv g (ddup ((ts ++ us).map k3)) (zkj _) ts fun t ht => ddup_mem.mpr (List.mem_map_of_mem (List.mem_append_left _ ht))
 have b := zgv g (ddup ((ts ++ us).map k3)) (zkj _) us fun t ht => ddup_mem.mpr (List.mem_map_of_mem (List.mem_append_right _ ht))
 rw [a, b]
 congr 1
 exact List.map_congr_left fun k _ => by rw [h k]
def ksub (k : Int × Int) (t : Int × Int) : Int × Int := (k.1 - t.1, k.2 - t.2)
theorem zmf (t : T3) (k : Int × Int) : ∀ us : List T3, coef (us.map (mulT t)) k = t.2.2 * coef us (ksub k (k3 t))
 | [] => by rw [show coef [] (ksub k (k3 t)) = 0 from rfl, Int.mul_zero]; rfl
 | u :: us => by
  rw [List.map_cons, zba, zba, zmf t k us, Int.mul_add]
  congr 1
  have e : k3 (mulT t u) = k ↔ k3 u = ksub k (k3 t) := by
   unfold k3 mulT ksub
   rw [Prod.ext_iff, Prod.ext_iff]
   dsimp only
   lia
  by_cases c : k3 (mulT t u) = k
  ·rw [if_pos c, if_pos (e.mp c)]; rfl
  ·rw [if_neg c, if_neg (fun z => c (e.mpr z)), Int.mul_zero]
theorem zfm (us : List T3) (k : Int × Int) : ∀ ts : List T3, coef (prodL ts us) k = lin ts fun a => coef us (ksub k a)
 | [] => rfl
 | t :: ts => by
  show coef (us.map (mulT t) ++ prodL ts us) k = _
  rw [zfn, zmf, zfm us k ts, zcs]
theorem zpb {ts ts' us us' : List T3} (h : Eqv ts ts') (h2 : Eqv us us') : Eqv (prodL ts us) (prodL ts' us') := fun k => by
 rw [zfm, zfm, zde h]
 congr 1
 funext a
 exact h2 _
def pwL (us : List T3) : Nat -> List T3
 | 0 => [(0, 0, 1)]
 | k + 1 => prodL (pwL us k) us
theorem zhp (a b : List T3) (g : Int × Int -> Int) : lin (a ++ b) g = lin a g + lin b g := by
 unfold lin
 rw [List.map_append, List.sum_append]
theorem zps {g : Int × Int -> Int} (t : T3) (ht : 0 <= t.1 /\ 0 <= t.2.1) (hg : ∀ a b : Int × Int, 0 <= a.1 -> 0 <= a.2 -> 0 <= b.1 -> 0 <= b.2 -> g (a.1 + b.1, a.2 + b.2) = g a * g b) : ∀ us : List T3, (∀ u ∈ us, 0 <= u.1 /\ 0 <= u.2.1) -> lin (us.map (mulT t)) g = t.2.2 * g (k3 t) * lin us g
 | [], _ => by rw [show lin [] g = 0 from rfl, Int.mul_zero]; rfl
 | u :: us, h => by
  obtain ⟨u1, u2⟩ := h u List.mem_cons_self
  rw [List.map_cons, zcs, zcs, zps t ht hg us fun v hv => h v (List.mem_cons_of_mem _ hv), Int.mul_add]
  congr 1
  have e := hg (k3 t) (k3 u) ht.1 ht.2 u1 u2
  show t.2.2 * u.2.2 * g (t.1 + u.1, t.2.1 + u.2.1) = _
  rw [show g (t.1 + u.1, t.2.1 + u.2.1) = g (k3 t) * g (k3 u) from e]
  rw [Int.mul_assoc, Int.mul_assoc, Int.mul_left_comm u.2.2]
theorem zfi {g : Int × Int -> Int} (hg : ∀ a b : Int × Int, 0 <= a.1 -> 0 <= a.2 -> 0 <= b.1 -> 0 <= b.2 -> g (a.1 + b.1, a.2 + b.2) = g a * g b) (us : List T3) (hu : ∀ u ∈ us, 0 <= u.1 /\ 0 <= u.2.1) : ∀ ts : List T3, (∀ t ∈ ts, 0 <= t.1 /\ 0 <= t.2.1) -> lin (prodL ts us) g = lin ts g * lin us g
 | [], _ => by rw [show lin [] g = 0 from rfl, Int.zero_mul]; rfl
 | t :: ts, h => by
  show lin (us.map (mulT t) ++ prodL ts us) g = _
  rw [zhp, zps t (h t List.mem_cons_self) hg us hu, zfi hg us hu ts fun v hv => h v (List.mem_cons_of_mem _ hv), zcs, Int.add_mul]
def xy (x y : Int) (k : Int × Int) : Int := x ^ k.1.toNat * y ^ k.2.toNat
theorem znz (x y : Int) (a b : Int × Int) (h1 : 0 <= a.1) (h2 : 0 <= a.2) (h3 : 0 <= b.1) (h4 : 0 <= b.2) : xy x y (a.1 + b.1, a.2 + b.2) = xy x y a * xy x y b := by
 unfold xy
 dsimp only
 rw [Int.toNat_add h1 h3, Int.toNat_add h2 h4, Int.pow_add, Int.pow_add]
 rw [Int.mul_assoc, Int.mul_assoc, Int.mul_left_comm (x ^ b.1.toNat)]
def nrm (ts : List T3) : Nat := (ts.map fun t => t.2.2.natAbs).sum
theorem zcr (t : T3) (ts : List T3) : nrm (t :: ts) = t.2.2.natAbs + nrm ts := rfl
theorem zni (a b : List T3) : nrm (a ++ b) = nrm a + nrm b := by unfold nrm; rw [List.map_append, List.sum_append]
theorem zdh {ts : List T3} {t : T3} (h : t ∈ ts) : t.2.2.natAbs <= nrm ts := by
 induction ts with
 | nil => exact nomatch h
 | cons u ts ih =>
  rw [zcr]
  rcases List.mem_cons.mp h with z | z
  ·rw [z]; lia
  ·have := ih z; lia
theorem zpl (t : T3) : ∀ us : List T3, nrm (us.map (mulT t)) = t.2.2.natAbs * nrm us
 | [] => rfl
 | u :: us => by
  rw [List.map_cons, zcr, zcr, zpl t us, Nat.mul_add]
  congr 1
  exact Int.natAbs_mul _ _
theorem zej (us : List T3) : ∀ ts : List T3, nrm (prodL ts us) = nrm ts * nrm us
 | [] => by rw [show nrm [] = 0 from rfl, Nat.zero_mul]; rfl
 | t :: ts => by
  show nrm (us.map (mulT t) ++ prodL ts us) = _
  rw [zni, zpl, zej us ts, zcr, Nat.add_mul]
theorem zDg {K : List (Int × Int)} {f g : Int × Int -> Nat} (h : ∀ k, f k <= g k) : (K.map f).sum <= (K.map g).sum := by
 induction K with
 | nil => exact Nat.le_refl _
 | cons k K ih => rw [List.map_cons, List.sum_cons, List.map_cons, List.sum_cons]; have := h k; lia
theorem zof (f g : Int × Int -> Nat) : ∀ K : List (Int × Int), (K.map fun k => f k + g k).sum = (K.map f).sum + (K.map g).sum
 | [] => rfl
 | k :: K => by
  rw [List.map_cons, List.sum_cons, zof f g K, List.map_cons, List.sum_cons, List.map_cons, List.sum_cons]
  lia
theorem zoe (a : Int × Int) (c : Nat) : ∀ K : List (Int × Int), K.Nodup -> (K.map fun k => if a = k then c else 0).sum <= c /\ (a ∉ K -> (K.map fun k => if a = k then c else 0).sum = 0)
 | [], _ => ⟨Nat.zero_le _, fun _ => rfl⟩
 | k :: K, nd => by
  obtain ⟨h1, h2⟩ := List.nodup_cons.mp nd
  obtain ⟨i1, i2⟩ := zoe a c K h2
  rw [List.map_cons, List.sum_cons]
  by_cases e : a = k
  ·rw [if_pos e, i2 (by rw [e]; exact h1)]
   exact ⟨Nat.le_refl _, fun z => absurd (by rw [e]; exact List.mem_cons_self) z⟩
  ·rw [if_neg e, Nat.zero_add]
   exact ⟨i1, fun z => i2 fun y => z (List.mem_cons_of_mem _ y)⟩
theorem zpw (K : List (Int × Int)) (nd : K.Nodup) : ∀ ts : List T3, (K.map fun k => (coef ts k).natAbs).sum <= nrm ts
 | [] => by
  have : (K.map fun k => (coef [] k).natAbs) = K.map fun _ => 0 := List.map_congr_left fun k _ => rfl
  rw [this]
  have : ∀ K : List (Int × Int), (K.map fun _ => 0).sum = 0 := fun K => by induction K with
   | nil => rfl
   | cons _ _ ih => rw [List.map_cons, List.sum_cons, ih]
  rw [this]
  exact Nat.zero_le _
 | t :: ts => by
  have ih := zpw K nd ts
  have a := zDg (K := K) (f := fun k => (coef (t :: ts) k).natAbs) (g := fun k => (if k3 t = k then t.2.2.natAbs else 0) + (coef ts k).natAbs) fun k => by
   rw [zba]
   split <;> lia
  rw [zof (fun k => if k3 t = k then t.2.2.natAbs else 0)] at a
  have b := (zoe (k3 t) t.2.2.natAbs K nd).1
  rw [zcr]
  exact Nat.le_trans a (Nat.add_le_add b ih)
theorem PolyIs.nrm {ts L : List T3} (h : PolyIs ts L) : My.nrm L <= My.nrm ts := by
 have a := zpw (L.map k3) (zgl h.up) ts
 rw [List.map_map] at a
 have e : (L.map ((fun k => (My.coef ts k).natAbs) ∘ k3)) = L.map fun t => t.2.2.natAbs := List.map_congr_left fun t ht => by
  show (My.coef ts (k3 t)).natAbs = _
  rw [<- ((h.mem t).mp ht).2]
 rw [e] at a
 exact a
def Deg (d : Int) (ts : List T3) : Prop := ∀ t ∈ ts, (0 <= t.1 /\ t.1 <= d) /\ 0 <= t.2.1 /\ t.2.1 <= d
theorem Deg.prod {d e : Int} {ts us : List T3} (h : Deg d ts) (h2 : Deg e us) : Deg (d + e) (prodL ts us) := by
 intro t ht
 obtain ⟨a, ha, hab⟩ := List.mem_flatMap.mp ht
 obtain ⟨b, hb, rfl⟩ := List.mem_map.mp hab
 have x := h a ha
 have y := h2 b hb
 unfold mulT
 dsimp only
 lia
theorem PolyIs.deg {d : Int} {ts L : List T3} (h : PolyIs ts L) (hd : Deg d ts) : Deg d L := by
 intro t ht
 obtain ⟨h1, h2⟩ := (h.mem t).mp ht
 obtain ⟨u, hu, e⟩ : ∃ u ∈ ts, k3 u = k3 t := by
  refine Classical.byContradiction fun z => h1 ?_
  rw [h2]
  exact zbo fun u hu e => z ⟨u, hu, e⟩
 have := hd u hu
 have e1 : u.1 = t.1 := congrArg (fun k : Int × Int => k.1) e
 have e2 : u.2.1 = t.2.1 := congrArg (fun k : Int × Int => k.2) e
 rw [e1, e2] at this
 exact this
theorem zBg {l : List Nat} {M : Nat} (nd : l.Nodup) (h : ∀ i ∈ l, i < M) : l.length <= M := by
 have p : l.Perm ((List.range M).filter fun i => decide (i ∈ l)) := (List.perm_ext_iff_of_nodup nd (List.Pairwise.filter _ List.nodup_range)).mpr fun i => by
  rw [List.mem_filter, List.mem_range, decide_eq_true_iff]
  exact ⟨fun z => ⟨h i z, z⟩, fun z => z.2⟩
 have a := p.length_eq
 have b := List.length_filter_le (fun i => decide (i ∈ l)) (List.range M)
 rw [List.length_range] at b
 lia
theorem zdl {d : Nat} {L : List T3} (up : L.Pairwise keyLt) (h : Deg d L) : L.length <= (d + 1) * (d + 1) := by
 have nd : (L.map fun t => t.1.toNat * (d + 1) + t.2.1.toNat).Nodup := by
  rw [List.Nodup, List.pairwise_map]
  refine List.Pairwise.imp_of_mem ?_ up
  intro a b ha hb k e
  have x := h a ha
  have y := h b hb
  have a2 : a.2.1.toNat < d + 1 := by lia
  have b2 : b.2.1.toNat < d + 1 := by lia
  have e1 : a.1.toNat = b.1.toNat := by
   have this : (a.1.toNat * (d + 1) + a.2.1.toNat) / (d + 1) = (b.1.toNat * (d + 1) + b.2.1.toNat) / (d + 1) := by rw [e]
   rw [Nat.mul_comm, Nat.mul_add_div (by lia), Nat.div_eq_of_lt a2, Nat.mul_comm b.1.toNat, Nat.mul_add_div (by lia), Nat.div_eq_of_lt b2] at this
   lia
  rw [e1] at e
  unfold keyLt at k
  lia
 have := zBg nd (M := (d + 1) * (d + 1)) fun i hi => by
  obtain ⟨t, ht, rfl⟩ := List.mem_map.mp hi
  have x := h t ht
  have a1 : t.1.toNat <= d := by lia
  have a2 : t.2.1.toNat < d + 1 := by lia
  have := Nat.mul_le_mul_right (d + 1) a1
  rw [Nat.add_mul, Nat.one_mul]
  lia
 rw [List.length_map] at this
 exact this
open Builtin.Int (intBits)
theorem zxh : PolyIs [(0, 0, 1)] [(0, 0, 1)] := by
 refine ⟨List.pairwise_singleton _ _, fun t => ?_⟩
 rw [List.mem_singleton]
 constructor
 ·rintro rfl
  exact ⟨by decide, by decide⟩
 ·rintro ⟨a, b⟩
  rw [zba] at b
  by_cases c : k3 ((0, 0, 1) : T3) = k3 t
  ·rw [if_pos c] at b
   obtain ⟨e1, e2⟩ := Prod.mk.inj (show ((0 : Int), (0 : Int)) = (t.1, t.2.1) from c)
   exact Prod.ext e1.symm (Prod.ext e2.symm (by rw [b]; rfl))
  ·rw [if_neg c] at b
   exact absurd b a
theorem zhv {d : Nat} {ts : List T3} (h : Deg d ts) : ∀ k : Nat, Deg ((d * k : Nat) : Int) (pwL ts k)
 | 0 => by
  intro t ht
  rw [List.mem_singleton.mp ht]
  simp
 | k + 1 => by
  have a := (zhv h k).prod h
  have e : (((d * k : Nat) : Int) + (d : Int)) = ((d * (k + 1) : Nat) : Int) := by rw [Nat.mul_succ]; lia
  rw [e] at a
  exact a
theorem zlr (ts : List T3) : ∀ k : Nat, nrm (pwL ts k) = nrm ts ^ k
 | 0 => rfl
 | k + 1 => by
  show nrm (prodL (pwL ts k) ts) = _
  rw [zej, zlr ts k, Nat.pow_succ]
theorem zzh {x y : Int} {d : Nat} {ts : List T3} (h : Deg d ts) : ∀ k : Nat, lin (pwL ts k) (xy x y) = lin ts (xy x y) ^ k
 | 0 => by
  show 1 * (x ^ 0 * y ^ 0) + 0 = _
  rw [Int.pow_zero, Int.pow_zero, Int.pow_zero]
  decide
 | k + 1 => by
  show lin (prodL (pwL ts k) ts) (xy x y) = _
  rw [zfi (znz x y) ts (fun u hu => ⟨(h u hu).1.1, (h u hu).2.1⟩) (pwL ts k) (fun u hu => ⟨(zhv h k u hu).1.1, (zhv h k u hu).2.1⟩), zzh h k, Int.pow_succ]
theorem zDr {n j N a : Nat} (h : n <= 2 ^ a) (hj : a * j <= N) : n ^ j < 2 ^ (N + 1) := by
 have h1 : n ^ j <= 2 ^ (a * j) := by
  rw [Nat.pow_mul]
  exact Nat.pow_le_pow_left h j
 have h2 : 2 ^ (a * j) <= 2 ^ N := Nat.pow_le_pow_right (by decide) hj
 have h3 : 2 ^ N < 2 ^ (N + 1) := Nat.pow_lt_pow_right (by decide) (by lia)
 lia
theorem zjx {ts L : List T3} {j : Nat} (hn : nrm ts <= 2 ^ 400) (hj : j <= 20) (h : PolyIs (pwL ts j) L) : ∀ t ∈ L, intBits t.2.2 <= 8001 := fun t ht => intBits_le_iff.mpr (by
 have a := zdh ht
 have b := h.nrm
 rw [zlr] at b
 have c := zDr (N := 8000) hn (show 400 * j <= 8000 by lia)
 lia)
def TD (e : Int) (ts : List T3) : Prop := ∀ t ∈ ts, 0 <= t.1 /\ 0 <= t.2.1 /\ t.1 + t.2.1 <= e
theorem TD.prod {d e : Int} {ts us : List T3} (h : TD d ts) (h2 : TD e us) : TD (d + e) (prodL ts us) := by
 intro t ht
 obtain ⟨a, ha, hab⟩ := List.mem_flatMap.mp ht
 obtain ⟨b, hb, rfl⟩ := List.mem_map.mp hab
 have x := h a ha
 have y := h2 b hb
 unfold mulT
 dsimp only
 lia
theorem PolyIs.td {d : Int} {ts L : List T3} (h : PolyIs ts L) (hd : TD d ts) : TD d L := by
 intro t ht
 obtain ⟨h1, h2⟩ := (h.mem t).mp ht
 obtain ⟨u, hu, e⟩ : ∃ u ∈ ts, k3 u = k3 t := by
  refine Classical.byContradiction fun z => h1 ?_
  rw [h2]
  exact zbo fun u hu e => z ⟨u, hu, e⟩
 have := hd u hu
 have e1 : u.1 = t.1 := congrArg (fun k : Int × Int => k.1) e
 have e2 : u.2.1 = t.2.1 := congrArg (fun k : Int × Int => k.2) e
 rw [e1, e2] at this
 exact this
theorem td_pw {d : Nat} {ts : List T3} (h : TD d ts) : ∀ k : Nat, TD ((d * k : Nat) : Int) (pwL ts k)
 | 0 => by
  intro t ht
  rw [List.mem_singleton.mp ht]
  simp
 | k + 1 => by
  have a := (td_pw h k).prod h
  have e : (((d * k : Nat) : Int) + (d : Int)) = ((d * (k + 1) : Nat) : Int) := by rw [Nat.mul_succ]; lia
  rw [e] at a
  exact a
theorem bd_td {e : Int} {ts : List T3} (h : TD e ts) (h9 : e <= 9) : Bd ts := fun t ht => by
 obtain ⟨a, c, d⟩ := h t ht
 exact ⟨a, c, by lia⟩
def spPow (K : W.Frag) : Sp := fun vs H Q _ => ∃ (v : V) (ts : List T3) (k : Int) (d : Nat), vs = [v, .int k] /\ PolyK K H v ts /\ 0 <= k /\ k <= 20 /\ Deg d ts /\ (∀ j : Nat, j < k.toNat -> (d * j + 1) * (d * j + 1) * ts.length < 100000) /\ ts.length < 100000 /\ TD (d : Int) ts /\ (∀ j : Nat, j < k.toNat -> d * j + d <= 9) /\ nrm ts <= 2 ^ 400 /\
 ∀ x L H', Same H H' -> PolyIs (pwL ts k.toNat) L -> PolyK K H' x L -> Q x H'
section
variable {P : Program} {w : World} {K : W.Frag} {mg : Str -> Option Value} {base : Heap}
theorem scPow : zan ["poly", "k", "power", "step"] ["poly", "k"] (zad zil) := ⟨rfl, rfl, rfl, by decide +kernel, rfl, by decide +kernel, by decide +kernel⟩
theorem zBz (T : TxP mg) (S : Src K mg "to_power" zil ["poly", "k"]) {oa : Addr} (ho : mg "ONE" = some (.ref oa)) (hk : ∀ H, PolyK K H (.ref oa) [(0, 0, 1)]) (DP : Def P w K mg base 2 "product_of" ["one", "other"] (zij K)) : Def P w K mg base 3 "to_power" ["poly", "k"] (spPow K) := by
 refine S.def scPow (fun vs H Q E h => ?_) (fun f cdv A outer s H vs Q E hr h => ?_)
 ·obtain ⟨_, _, _, _, rfl, _⟩ := h; rfl
 ·obtain ⟨v, ts, k, d, rfl, pk, k0, k2, hd, hlen, hts, htd, h6, hn, q⟩ := h
  have hr2 : Room 2 _ := hr.mono (by decide)
  refine ⟨_, zae (zap (i := 2) scPow.nd rfl (Or.inl rfl) (zAy (v := .ref oa) rfl ho rfl))
   (zae (zcb PassesOwn.never rfl (zln rfl T.range (zaa (pv 1) zac)) (zak (i := 3) scPow.nd rfl (Or.inl rfl))
    (zag (zap (i := 2) scPow.nd rfl (Or.inl rfl) (zaj DP hr2 rfl (zaa (pv 2) (zaa (pv 0) zac))))))
   (zag (zaw (pv 2)))), ?_⟩
  refine ⟨_, rfl, k, rfl, by lia, by lia, ?_⟩
  refine zma (lo := 0) (n := k.toNat) (fun j σ H' => (∃ x u L, σ = [some v, some (.int k), some x, u] /\ PolyIs (pwL ts j) L /\ PolyK K H' x L) /\ Same H H') ⟨⟨_, none, _, rfl, zxh, hk _⟩, Same.refl _⟩ ?_ ?_
  ·rintro j σ H' hj ⟨⟨x, u, L, rfl, pi, px⟩, sm⟩
   dsimp only [gName, List.set]
   refine ⟨_, rfl, _, rfl, x, v, L, ts, rfl, px, pk.same sm, ?_, hts, fun t ht r hr' => ?_, bd_td ((pi.td (td_pw htd j)).prod htd) (by have := h6 j hj; lia), fun x2 L2 H2 s2 pi2 _ pa2 => ⟨⟨x2, _, L2, rfl, ?_, pa2.K⟩, sm.trans s2⟩⟩
   ·have a := zdl pi.up (pi.deg (zhv hd j))
    exact Nat.lt_of_le_of_lt (Nat.mul_le_mul_right _ a) (hlen j hj)
   ·have a := zdh hr'
    have b : 2 ^ 400 < 2 ^ 401 := Nat.pow_lt_pow_right (by decide) (by lia)
    have c : intBits r.2.2 <= 401 := intBits_le_iff.mpr (by lia)
    exact IntMulOk.of_le (zjx hn (show j <= 20 by lia) pi t ht) c (by decide)
   ·exact pi2.of_eqv (zpb pi.eqv (Eqv.refl _))
  ·rintro σ H' ⟨⟨x, u, L, rfl, pi, px⟩, sm⟩
   exact ⟨_, rfl, q x L H' sm pi px⟩
end
def tmS (n : Int) (ps : List (Int × Int)) (p : List Int) : T3 := ((p.length : Int), rkP n ps p, 1)
def tmsP (n : Int) (ps : List (Int × Int)) : List T3 := (allP ps).map (tmS n ps)
def spST (K : W.Frag) : Sp := fun vs H Q _ => ∃ (wv : V) (n : Int) (ps : List (Int × Int)), vs = [wv] /\ WebAt H wv n ps /\ WebOk n ps /\
 ∀ g rs L H', Same H H' -> H g = none -> H' g = some (.lst rs) -> Paired (TermAt H') rs L -> PolyIs (tmsP n ps) L -> L.length <= 300 -> Q (.ref g) H'
def KFrom (ts : List T3) (kvs : TTab) : Prop := ∀ p ∈ kvs, ∃ t ∈ ts, p.1 = kk (k3 t)
theorem KFrom.put {ts : List T3} {kvs : TTab} (h : KFrom ts kvs) (t : T3) (v : V) : KFrom (ts ++ [t]) (putK kvs (kk (k3 t)) v) := by
 intro p hp
 unfold putK at hp
 split at hp
 ·obtain ⟨q, hq, rfl⟩ := List.mem_map.mp hp
  obtain ⟨u, hu, e⟩ := h q hq
  refine ⟨u, List.mem_append_left _ hu, ?_⟩
  rw [<- e]
  split <;> rfl
 ·rcases List.mem_append.mp hp with z | z
  ·obtain ⟨u, hu, e⟩ := h p z
   exact ⟨u, List.mem_append_left _ hu, e⟩
  ·rw [List.mem_singleton.mp z]
   exact ⟨t, List.mem_append_right _ (List.mem_singleton.mpr rfl), rfl⟩
theorem zqk : ∀ {ts : List T3} {k : Int × Int}, (∀ t ∈ ts, t.2.2 = 1) -> 0 <= coef ts k /\ ((∃ t ∈ ts, k3 t = k) -> 0 < coef ts k)
 | [], k, _ => ⟨Int.le_refl _, fun ⟨t, ht, _⟩ => nomatch ht⟩
 | t :: ts, k, h => by
  obtain ⟨a, b⟩ := zqk (ts := ts) (k := k) fun u hu => h u (List.mem_cons_of_mem _ hu)
  have e := h t List.mem_cons_self
  rw [zba]
  by_cases c : k3 t = k
  ·rw [if_pos c, e]
   exact ⟨by lia, fun _ => by lia⟩
  ·rw [if_neg c]
   refine ⟨by lia, fun ⟨u, hu, eu⟩ => ?_⟩
   rcases List.mem_cons.mp hu with z | z
   ·rw [z] at eu; exact absurd eu c
   ·have := b ⟨u, z, eu⟩
    lia
theorem KFrom.ne {ts : List T3} {kvs : TTab} (h : KFrom ts kvs) (one : ∀ t ∈ ts, t.2.2 = 1) {k : Int × Int} {v : V} (hp : (kk k, v) ∈ kvs) : coef ts k ≠ 0 := by
 obtain ⟨t, ht, e⟩ := h _ hp
 have := (zqk (k := k) one).2 ⟨t, ht, (zuk e).symm⟩
 lia
theorem zAe (n : Int) (ps : List (Int × Int)) : ∀ t ∈ tmsP n ps, t.2.2 = 1 := fun t ht => by
 obtain ⟨p, _, rfl⟩ := List.mem_map.mp ht
 rfl
theorem zCz {n : Int} {ps : List (Int × Int)} (ok : WebOk n ps) : BdS (tmsP n ps) := fun u hu => by
 obtain ⟨A, hA, rfl⟩ := List.mem_map.mp hu
 obtain ⟨⟨n1, n9⟩, hb, h8⟩ := id ok
 have o := zbw n1 n9 hb
 have kA := zcj h8 hA
 obtain ⟨_, up⟩ := (zbv h8).mp hA
 have lA : (A.length : Int) <= ps.length := zls (by lia) (up.imp fun h => by lia) kA
 have r1 := o.le kA
 have r2 := o.gain kA (fun _ z => nomatch z : Ks ps.length [])
 rw [List.nil_append, o.nil] at r2
 exact ⟨by show 0 <= rkP n ps A; lia, by show rkP n ps A <= (A.length : Int); lia, by show (A.length : Int) <= 8; lia⟩
section
variable {P : Program} {w : World} {K : W.Frag} {mg : Str -> Option Value} {base : Heap}
theorem scST : zan ["web", "many_of", "pick", "key"] ["web"] (zad sST) := ⟨rfl, rfl, rfl, by decide +kernel, rfl, by decide +kernel, by decide +kernel⟩
theorem ndKM : (["key", "many"] : List Str).Nodup := by decide +kernel
theorem zkq : bootBuiltins "sorted" = some (.builtin "sorted") := by first | rfl | decide +kernel
theorem d_st (T : Txt K mg) (hsor : mg "sorted" = none) (S : Src K mg "size_table" sST ["web"]) (DA : Def P w K mg base 2 "all_picks" ["web"] (spAll K)) (DR : Def P w K mg base 2 "rank_of" ["web", "pick"] (zse K)) : Def P w K mg base 3 "size_table" ["web"] (spST K) := by
 refine S.def scST (fun vs H Q E h => ?_) (fun f cdv A outer s H vs Q E hr h => ?_)
 ·obtain ⟨_, _, _, rfl, _⟩ := h; rfl
 ·obtain ⟨wv, n, ps, rfl, W, ok, q⟩ := h
  obtain ⟨⟨n1, n9⟩, hb, h8⟩ := id ok
  have hr2 : Room 2 _ := hr.mono (by decide)
  refine ⟨_, zae (zap (i := 1) scST.nd rfl (Or.inl rfl) zpg)
   (zae (zcb PassesOwn.never rfl (zbi K .l (zaj DA hr2 rfl (zaa (pv 0) zac))) (zak (i := 2) scST.nd rfl (Or.inl rfl))
    (zae (zap (i := 3) scST.nd rfl (Or.inl rfl) (zbj (zaa (zaz (zbx K) (by rfl) T.len PySem.boot_len (zaa (pv 2) zac)) (zaa (zaj DR hr2 rfl (zaa (pv 0) (zaa (pv 2) zac))) zac))))
    (zag (znf (hu_of hr) (pv 1) (pv 3) (pe_op zdu (zph (hu_of hr) (pv 1) (pv 3) zaf ⟨rfl, rfl, rfl, rfl⟩) zaf) rfl))))
   (zag (zaw (zaz zgh (by rfl) hsor zkq (zaa (zci (N' := ["key", "many"]) (fr := [none, none]) (zbn (by rfl)) rfl (zlo (zyz PySem.F.plainAttrs_dict PySem.F.slot_dict_items PySem.F.type_dict_items zpo (pv 1)))
    (g := gTup K 2 (gCons (gName 0) (gCons (gName 1) gNil))) (fun _ _ _ _ => zcd K 2 rfl (zaq (zak (i := 0) ndKM rfl (Or.inl rfl) (Or.inr rfl)) (zaq (zak (i := 1) ndKM rfl (Or.inl rfl) (Or.inr rfl)) zcc)))
    (fun _ _ _ _ => zck)
    (fun _ _ _ _ => zbj (zaa (pe_ix (r := rIxT K) (zav K) (pv 0) zaf (fun _ _ => rfl)) (zaa (pe_ix (r := rIxT K) (zav K) (pv 0) zaf (fun _ _ => rfl)) (zaa (pv 1) zac))))) zac))))), ?_⟩
  intro d hd
  have s1 := Same.new (o := HO.dT []) hd
  have hd1 : (upd H d (.dT [])) d = some (.dT []) := zab
  generalize upd H d (.dT []) = H1 at s1 hd1 ⊢
  refine ⟨_, rfl, wv, n, ps, rfl, W.same s1, h8, fun g ys H2 s2 hgN hg hy => ?_⟩
  have hy : Paired (TupAt H2) ys (allP ps) := hy
  have s12 := s1.trans s2
  have yl : ys.length = (allP ps).length := Paired.length hy
  have al := zgz h8
  have tl : (tmsP n ps).length = (allP ps).length := List.length_map ..
  refine ⟨g, rfl, ⟨_, SqL.of hg⟩, zcq (k := .l) (K := K) (a := g) (xs := ys) (fun i σ H' => (∃ u v, σ = [some wv, some (.ref d), u, v]) /\ Same H H' /\ H' g = some (.lst ys) /\ Paired (TupAt H') ys (allP ps) /\ ∃ kvs, H' d = some (.dT kvs) /\ TabIs ((tmsP n ps).take i) kvs /\ KFrom ((tmsP n ps).take i) kvs)
   ⟨⟨_, _, rfl⟩, s12, hg, hy, [], s2 _ _ hd1, TabIs.nil, fun _ z => nomatch z⟩ (fun i σ H' _ z => SqL.of z.2.2.1) ?_ ?_⟩
  ·rintro i x σ H3 hx ⟨⟨u, v, rfl⟩, sm, hg3, hy3, kvs, hk, tab, kf⟩
   obtain ⟨p, ep, c, rfl, hc⟩ := Paired.at hy3 hx
   have pin := List.mem_of_getElem? ep
   have et : (tmsP n ps)[i]? = some (tmS n ps p) := by unfold tmsP; rw [List.getElem?_map, ep]; rfl
   dsimp only [gName, List.set]
   refine ⟨_, rfl, c, _, rfl, .inr (SqT.of hc), _, rfl, _, rfl, wv, c, n, ps, p, rfl, W.same sm, n1, n9, hb, SqT.of hc, zcj h8 pin, fun H4 s4 => ⟨by show 2 <= sizeLine; decide, fun b hb4 => ?_⟩⟩
   rw [List.length_map]
   have s5 := s4.trans (Same.new (o := HO.tup [.int (p.length : Int), .int (rkP n ps p)]) hb4)
   have hb5 : (upd H4 b (.tup [.int (p.length : Int), .int (rkP n ps p)])) b = some (.tup ((kk (k3 (tmS n ps p))).map kV)) := zab
   have hk5 := s5 _ _ hk
   have hg5 := s5 _ _ hg3
   have hy5 := zbq hy3 s5
   have sm5 := sm.trans s5
   have ex : upd H4 b (.tup [.int (p.length : Int), .int (n - (zau (hdF ps (ups n) p) : Int))]) = upd H4 b (.tup [.int (p.length : Int), .int (rkP n ps p)]) := rfl
   rw [ex]
   generalize upd H4 b (.tup [.int (p.length : Int), .int (rkP n ps p)]) = H5 at hb5 hk5 hg5 hy5 sm5 ⊢
   have kl : kvs.length < 100000 := by
    have := tab.len
    rw [List.length_take] at this
    lia
   refine ⟨_, rfl, d, rfl, .inr ⟨_, .inl hk5⟩, _, rfl, ?_⟩
   refine ⟨_, DGet.t hk5 hb5, ?_⟩
   rw [tab.at]
   refine ⟨_, _, rfl, rfl, _, rfl, _, rfl, ?_⟩
   refine ⟨d, _, rfl, DPut.t hk5 hb5 (Nat.lt_of_lt_of_le kl (by decide)), ⟨_, _, rfl⟩, My.Same.put sm5 hd, ?_, ?_, _, zab, ?_, ?_⟩
   ·rw [zas (ne_of hg5 hk5 (fun z => nomatch z))]; exact hg5
   ·exact L2.Paired.mapP hy5 fun _ _ ⟨a, h1, h2⟩ => ⟨a, h1, by rw [zas (ne_of h2 hk5 (fun z => nomatch z))]; exact h2⟩
   ·rw [zai et]
    exact tab.put (tmS n ps p)
   ·rw [zai et]
    exact kf.put (tmS n ps p) _
  ·rintro σ H3 ⟨⟨u, v, rfl⟩, sm, _, _, kvs, hk, tab, kf⟩
   rw [yl, <- tl, List.take_length] at tab kf
   have kl : kvs.length <= 300 := by
    have := tab.len
    lia
   refine ⟨_, rfl, .inr (.inr (.inl ⟨rfl, .inr ⟨_, hk⟩⟩)), d, kvs, rfl, rfl, hk, fun vw hvw => ?_⟩
   have s3 := Same.new (o := viewO vw d) hvw
   refine ⟨vw, d, kvs, rfl, zab, s3 _ _ hk, fun o => ?_⟩
   have hf : (upd (upd H3 vw (viewO vw d)) d (.frz o (.dT kvs))) d = some (.frz o (.dT kvs)) := zab
   have sm3 : Same H (upd (upd H3 vw (viewO vw d)) d (.frz o (.dT kvs))) := My.Same.put (sm.trans s3) hd
   generalize upd (upd H3 vw (viewO vw d)) d (.frz o (.dT kvs)) = H4 at hf sm3 ⊢
   refine zvq (fun σ => ∃ u v, σ = [u, v]) (fun i ys H' => Same H4 H' /\ Paired (TermAt H') ys (sel (kvs.take i))) ⟨_, _, rfl⟩ ⟨Same.refl _, .nil⟩ (zdz kl) (fun i ys H' z => z.1 _ _ hf) ?_ ?_
   ·rintro i Tp b key vv ys σ H5 N ek hT hb5 ⟨u, v, rfl⟩ ⟨sm4, hy⟩ hN
    have kin := List.mem_of_getElem? ek
    obtain ⟨k2, e2⟩ := tab.val _ kin
    injection e2 with e3 e4
    subst e3 e4
    have c := kf.ne (zAe n ps) kin
    have s5 := Same.new (o := HO.tup [.ref b, .int (coef (tmsP n ps) k2)]) hT
    have hT5 : (upd H5 Tp (.tup [.ref b, .int (coef (tmsP n ps) k2)])) Tp = some (.tup [.ref b, .int (coef (tmsP n ps) k2)]) := zab
    have hb6 := key2 (s5 _ _ hb5)
    have sm5 := sm4.trans s5
    have hy5 := zay hy s5
    generalize upd H5 Tp (.tup [.ref b, .int (coef (tmsP n ps) k2)]) = H6 at s5 hT5 hb6 sm5 hy5 ⊢
    refine ⟨Tp, _, rfl, SqT.of hT5, rfl, _, _, rfl, _, _, rfl, rfl, ?_⟩
    dsimp only [gName, List.set]
    have e5 := zop ek
    rw [zey, if_neg c, Option.toList_some] at e5
    have j0 : atI ([.int k2.1, .int k2.2] : List V) 0 = some (.int k2.1) := zar (j := 0) rfl
    have j1 : atI ([.int k2.1, .int k2.2] : List V) 1 = some (.int k2.2) := zar (j := 1) rfl
    refine yesT ⟨_, rfl, b, _, _, _, rfl, rfl, SqT.of hb6, j0, _, rfl, b, _, _, _, rfl, rfl, SqT.of hb6, j1, _, rfl, by show 3 <= sizeLine; decide, fun c2 hc2 => ?_⟩
    have s6 := Same.new (o := HO.tup [.int k2.1, .int k2.2, .int (coef (tmsP n ps) k2)]) hc2
    refine hN _ _ _ ⟨_, _, rfl⟩ ⟨sm5.trans s6, ?_⟩ (by simp)
    rw [e5]
    exact L2.Paired.snoc (zay hy5 s6) ⟨c2, rfl, zab⟩
   ·rintro ys5 H5 ⟨sm4, hy⟩ l hl
    rw [List.take_length] at hy
    have s5 := Same.new (o := HO.lst ys5) hl
    have hl5 : (upd H5 l (.lst ys5)) l = some (.lst ys5) := zab
    have hy5 := zay hy s5
    have sm5 := sm4.trans s5
    generalize upd H5 l (.lst ys5) = H6 at s5 hl5 hy5 sm5 ⊢
    have yl5 : ys5.length = (sel kvs).length := Paired.length hy
    have sl := znd tab
    have ss := zqw tab (zCz ok)
    have py : Paired (zgj H6) ys5 ((sel kvs).map l3) := by
     have : ∀ {ys : List V} {us : List T3}, Paired (TermAt H6) ys us -> Paired (zgj H6) ys (us.map l3) := by
      intro ys us h
      induction h with
      | nil => exact .nil
      | cons r _ ih => exact .cons (let ⟨a, e1, e2⟩ := r; ⟨a, e1, e2⟩) ih
     exact this hy5
    refine ⟨l, ys5, _, rfl, SqL.of hl5, by lia, py, fun ks hks => ?_, fun l2 rs' kss' p1 p2 p3 hl2 => ?_⟩
    ·obtain ⟨t, _, rfl⟩ := List.mem_map.mp hks
     intro z
     cases z
    ·obtain ⟨L, rfl, pL, ll⟩ := zhl tab p2 p3
     have s6 := Same.new (o := HO.lst rs') hl2
     have pt : Paired (TermAt H6) rs' L := by
      have : ∀ {rs : List V} {us : List T3}, Paired (zgj H6) rs (us.map l3) -> Paired (TermAt H6) rs us := by
       intro rs us
       induction us generalizing rs with
       | nil => intro h; cases h; exact .nil
       | cons t us ih =>
        intro h
        rw [List.map_cons] at h
        cases h with
        | cons r t => exact .cons (let ⟨a, e1, e2⟩ := r; ⟨a, e1, e2⟩) (ih t)
      exact this p1
     have s46 := sm3.trans (sm5.trans s6)
     refine q l2 rs' L _ s46 ?_ zab (zay pt s6) pL (by lia)
     cases e : H l2 with
     | none => rfl
     | some ob => exact absurd ((sm3.trans sm5) _ _ e) (by rw [hl2]; intro z; cases z)
end
def zok : Sp := fun vs H Q _ => ∃ x k : Int, vs = [.int x, .int k] /\ 0 <= k /\ k <= 60 /\ Builtin.Int.intBits x <= 256 /\ Q (.int (x ^ k.toNat)) H
theorem zpc {x : Int} {k : Nat} (hx : Builtin.Int.intBits x <= 256) (hk : k <= 60) : Builtin.Int.intBits (x ^ k) <= 15361 :=
 Nat.le_trans (intBits_pow_le hx k) (by lia)
theorem mul1 {x : Int} {k : Nat} (hx : Builtin.Int.intBits x <= 256) (hk : k <= 60) : IntMulOk (x ^ k) x := IntMulOk.of_le (zpc hx hk) hx (by decide)
theorem mul2 {n x : Int} {k : Nat} (hn : Builtin.Int.intBits n <= 256) (hx : Builtin.Int.intBits x <= 256) (hk : k <= 60) : IntMulOk n (x ^ k) := IntMulOk.of_le hn (zpc hx hk) (by decide)
section
variable {P : Program} {w : World} {K : W.Frag} {mg : Str -> Option Value} {base : Heap}
theorem scNPow : zan ["number", "k", "power", "step"] ["number", "k"] (zad sPow) := ⟨rfl, rfl, rfl, by decide +kernel, rfl, by decide +kernel, by decide +kernel⟩
theorem zEq (T : TxP mg) (S : Src K mg "number_to_power" sPow ["number", "k"]) : Def P w K mg base 1 "number_to_power" ["number", "k"] zok := by
 refine S.def scNPow (fun vs H Q E h => ?_) (fun f cdv A outer s H vs Q E hr h => ?_)
 ·obtain ⟨_, _, rfl, _⟩ := h; rfl
 ·obtain ⟨x, k, rfl, k0, k60, hx, q⟩ := h
  refine ⟨_, zae (zap (i := 2) scNPow.nd rfl (Or.inl rfl) zaf)
   (zae (zcb PassesOwn.never rfl (zln rfl T.range (zaa (pv 1) zac)) (zak (i := 3) scNPow.nd rfl (Or.inl rfl)) (zag (zap (i := 2) scNPow.nd rfl (Or.inl rfl) (pe_op zhn (pv 2) (pv 0)))))
   (zag (zaw (pv 2)))), ?_⟩
  refine ⟨_, rfl, k, rfl, by lia, by lia, ?_⟩
  refine zma (fun i σ H' => (∃ u, σ = [some (.int x), some (.int k), some (.int (x ^ i)), u]) /\ H' = H) ⟨⟨none, by rw [Int.pow_zero]; rfl⟩, rfl⟩ ?_ ?_
  ·rintro i σ H' hi ⟨⟨u, rfl⟩, rfl⟩
   refine ⟨_, rfl, _, rfl, _, _, rfl, rfl, mul1 hx (by lia), ⟨⟨some (.int (0 + (i : Int))), ?_⟩, rfl⟩⟩
   rw [Int.pow_succ]
   rfl
  ·rintro σ H' ⟨⟨u, rfl⟩, rfl⟩
   exact ⟨_, rfl, q⟩
end
def alf : Nat -> Int -> Int
 | 0, i => if i = 0 then 1 else 0
 | a + 1, i => alf a (i - 1) - alf a i
def xOne : List T3 := [(0, 0, -1), (1, 0, 1)]
def yOne : List T3 := [(0, 0, -1), (0, 1, 1)]
theorem zkc (t u : T3) (k : Int × Int) : k3 (mulT t u) = k ↔ k3 t = ksub k (k3 u) := by
 unfold k3 mulT ksub
 dsimp only
 rw [Prod.ext_iff, Prod.ext_iff]
 dsimp only
 lia
theorem zkl (u1 u2 : T3) (k : Int × Int) : ∀ ts : List T3, coef (prodL ts [u1, u2]) k = u1.2.2 * coef ts (ksub k (k3 u1)) + u2.2.2 * coef ts (ksub k (k3 u2))
 | [] => by
  show (0 : Int) = u1.2.2 * 0 + u2.2.2 * 0
  lia
 | t :: ts => by
  have e : prodL (t :: ts) [u1, u2] = mulT t u1 :: mulT t u2 :: prodL ts [u1, u2] := rfl
  rw [e, zba, zba, zba, zba, zkl u1 u2 k ts, Int.mul_add, Int.mul_add]
  have m1 : (if k3 (mulT t u1) = k then (mulT t u1).2.2 else 0) = u1.2.2 * (if k3 t = ksub k (k3 u1) then t.2.2 else 0) := by
   by_cases c : k3 t = ksub k (k3 u1)
   ·rw [if_pos c, if_pos ((zkc t u1 k).mpr c)]; exact Int.mul_comm _ _
   ·rw [if_neg c, if_neg fun z => c ((zkc t u1 k).mp z), Int.mul_zero]
  have m2 : (if k3 (mulT t u2) = k then (mulT t u2).2.2 else 0) = u2.2.2 * (if k3 t = ksub k (k3 u2) then t.2.2 else 0) := by
   by_cases c : k3 t = ksub k (k3 u2)
   ·rw [if_pos c, if_pos ((zkc t u2 k).mpr c)]; exact Int.mul_comm _ _
   ·rw [if_neg c, if_neg fun z => c ((zkc t u2 k).mp z), Int.mul_zero]
  rw [m1, m2]
  lia
theorem znv : ∀ (a : Nat) (i j : Int), coef (pwL xOne a) (i, j) = if j = 0 then alf a i else 0
 | 0, i, j => by
  show coef [(0, 0, 1)] (i, j) = _
  rw [zba, show coef [] (i, j) = 0 from rfl, Int.add_zero]
  unfold alf k3
  dsimp only
  by_cases c : j = 0
  ·by_cases d : i = 0
   ·rw [c, d]; rfl
   ·rw [if_neg (by rw [Prod.ext_iff]; dsimp only; lia), if_pos c, if_neg d]
  ·rw [if_neg (by rw [Prod.ext_iff]; dsimp only; lia), if_neg c]
 | a + 1, i, j => by
  show coef (prodL (pwL xOne a) [(0, 0, -1), (1, 0, 1)]) (i, j) = _
  rw [zkl]
  unfold ksub k3
  dsimp only
  rw [Int.sub_zero, Int.sub_zero, znv a, znv a]
  by_cases c : j = 0
  ·rw [if_pos c, if_pos c, if_pos c]
   show _ = alf a (i - 1) - alf a i
   lia
  ·rw [if_neg c, if_neg c, if_neg c]
   rfl
theorem znu : ∀ (b : Nat) (i j : Int), coef (pwL yOne b) (i, j) = if i = 0 then alf b j else 0
 | 0, i, j => by
  show coef [(0, 0, 1)] (i, j) = _
  rw [zba, show coef [] (i, j) = 0 from rfl, Int.add_zero]
  unfold alf k3
  dsimp only
  by_cases c : i = 0
  ·by_cases d : j = 0
   ·rw [c, d]; rfl
   ·rw [if_neg (by rw [Prod.ext_iff]; dsimp only; lia), if_pos c, if_neg d]
  ·rw [if_neg (by rw [Prod.ext_iff]; dsimp only; lia), if_neg c]
 | b + 1, i, j => by
  show coef (prodL (pwL yOne b) [(0, 0, -1), (0, 1, 1)]) (i, j) = _
  rw [zkl]
  unfold ksub k3
  dsimp only
  rw [Int.sub_zero, Int.sub_zero, znu b, znu b]
  by_cases c : i = 0
  ·rw [if_pos c, if_pos c, if_pos c]
   show _ = alf b (j - 1) - alf b j
   lia
  ·rw [if_neg c, if_neg c, if_neg c]
   rfl
theorem zti : ∀ (a : Nat), ∀ t ∈ pwL xOne a, t.2.1 = 0
 | 0, t, h => by rw [List.mem_singleton.mp h]
 | a + 1, t, h => by
  have h : t ∈ (pwL xOne a).flatMap fun t => xOne.map (mulT t) := h
  obtain ⟨u, hu, h2⟩ := List.mem_flatMap.mp h
  obtain ⟨v, hv, rfl⟩ := List.mem_map.mp h2
  have e := zti a u hu
  unfold mulT
  dsimp only
  rw [e]
  unfold xOne at hv
  rcases List.mem_cons.mp hv with rfl | hv
  ·rfl
  ·rw [List.mem_singleton.mp hv]; rfl
theorem zzg (b : Nat) (i j : Int) : ∀ X : List T3, (∀ t ∈ X, t.2.1 = 0) -> (lin X fun k => coef (pwL yOne b) (ksub (i, j) k)) = coef X (i, 0) * alf b j
 | [], _ => by
  show (0 : Int) = 0 * alf b j
  lia
 | t :: X, h => by
  rw [zcs, zzg b i j X fun u hu => h u (List.mem_cons_of_mem _ hu), zba, Int.add_mul]
  congr 1
  have e := h t List.mem_cons_self
  unfold k3 ksub
  dsimp only
  rw [e, Int.sub_zero, znu]
  by_cases c : t.1 = i
  ·rw [if_pos (by lia), if_pos (by rw [c])]
  ·rw [if_neg (by lia), if_neg (by rw [Prod.ext_iff]; dsimp only; lia), Int.mul_zero, Int.zero_mul]
theorem zyl (a b : Nat) (i j : Int) : coef (prodL (pwL xOne a) (pwL yOne b)) (i, j) = alf a i * alf b j := by
 rw [zfm, zzg b i j _ (zti a), znv, if_pos rfl]
def scT (c : Int) (t : T3) : T3 := (t.1, t.2.1, c * t.2.2)
theorem zvu (c : Int) (k : Int × Int) : ∀ L : List T3, coef (L.map (scT c)) k = c * coef L k
 | [] => by show (0 : Int) = c * 0; lia
 | t :: L => by
  rw [List.map_cons, zba, zba, zvu c k L, Int.mul_add]
  congr 1
  show (if k3 t = k then c * t.2.2 else 0) = _
  by_cases z : k3 t = k
  ·rw [if_pos z, if_pos z]
  ·rw [if_neg z, if_neg z, Int.mul_zero]
def tut (n : Int) (ps : List (Int × Int)) (k : Int × Int) : Int := sm (allP ps) fun A => alf (rkAll n ps - rkP n ps A).toNat k.1 * alf ((A.length : Int) - rkP n ps A).toNat k.2
def trT (n : Int) (ps : List (Int × Int)) (ord : List Int) : List T3 := (zbs n ps).map fun t => (((linP n ps t ord).length : Int), ((loutP n ps t ord).length : Int), 1)
theorem zBj (n : Int) (ps : List (Int × Int)) (g : Int × Int -> Int) : lin (tmsP n ps) g = sm (allP ps) fun A => g ((A.length : Int), rkP n ps A) := by
 unfold lin tmsP sm
 rw [List.map_map]
 congr 1
 refine List.map_congr_left fun A _ => ?_
 show 1 * g ((A.length : Int), rkP n ps A) = _
 lia
theorem zvt {α : Type} (f : α -> T3) (k : Int × Int) : ∀ l : List α, coef (l.map f) k = sm l fun a => if k3 (f a) = k then (f a).2.2 else 0
 | [] => rfl
 | a :: l => by rw [List.map_cons, zba, zbf, zvt f k l]
theorem alf_g (i j : Int) : (∀ p q a b : Nat, alf a (i - p) * alf b (j - q) + alf (a + 1) (i - p) * alf b (j - q) = alf a (i - (p + 1 : Nat)) * alf b (j - q)) /\ ∀ p q a b : Nat, alf a (i - p) * alf b (j - q) + alf a (i - p) * alf (b + 1) (j - q) = alf a (i - p) * alf b (j - (q + 1 : Nat)) := by
 constructor
 ·intro p q a b
  have e : alf (a + 1) (i - p) = alf a (i - p - 1) - alf a (i - p) := rfl
  rw [e, <- Int.add_mul, show i - (p : Int) - 1 = i - (p + 1 : Nat) by lia]
  congr 1
  lia
 ·intro p q a b
  have e : alf (b + 1) (j - q) = alf b (j - q - 1) - alf b (j - q) := rfl
  rw [e, <- Int.mul_add, show j - (q : Int) - 1 = j - (q + 1 : Nat) by lia]
  congr 1
  lia
theorem zvs {n : Int} {ps : List (Int × Int)} (ok : WebOk n ps) {ord : List Int} (pm : ord.Perm (ups ps.length)) (k : Int × Int) : coef (trT n ps ord) k = tut n ps k := by
 obtain ⟨i, j⟩ := k
 unfold trT tut
 rw [zvt]
 have key := zii ok pm (fun p q a b => alf a (i - p) * alf b (j - q)) (alf_g i j).1 (alf_g i j).2
 dsimp only at key ⊢
 rw [show i - ((0 : Nat) : Int) = i by lia, show j - ((0 : Nat) : Int) = j by lia] at key
 rw [key]
 refine zah fun t _ => ?_
 unfold alf k3
 dsimp only
 by_cases c : ((linP n ps t ord).length : Int) = i
 ·by_cases d : ((loutP n ps t ord).length : Int) = j
  ·rw [if_pos (by rw [c, d]), if_pos (by lia), if_pos (by lia)]; rfl
  ·rw [if_neg (by rw [Prod.ext_iff]; dsimp only; lia), if_neg (show ¬ (j - ((loutP n ps t ord).length : Int) = 0) by lia), Int.mul_zero]
 ·rw [if_neg (by rw [Prod.ext_iff]; dsimp only; lia), if_neg (show ¬ (i - ((linP n ps t ord).length : Int) = 0) by lia), Int.zero_mul]
theorem zgk {n : Int} {ps : List (Int × Int)} (ok : WebOk n ps) {ord : List Int} (pm : ord.Perm (ups ps.length)) (x y : Int) : lin (trT n ps ord) (xy x y) = sm (allP ps) fun A => (x - 1) ^ (rkAll n ps - rkP n ps A).toNat * (y - 1) ^ ((A.length : Int) - rkP n ps A).toNat := by
 have e0 : ∀ P A z : Int, P * (A * (z - 1)) = P * z * A - P * A := fun P A z => by rw [Int.mul_sub, Int.mul_one, Int.mul_sub, <- Int.mul_assoc P A z, Int.mul_right_comm P A z]
 have h1 : ∀ p q a b : Nat, x ^ p * (x - 1) ^ a * (y ^ q * (y - 1) ^ b) + x ^ p * (x - 1) ^ (a + 1) * (y ^ q * (y - 1) ^ b) = x ^ (p + 1) * (x - 1) ^ a * (y ^ q * (y - 1) ^ b) := fun p q a b => by
  rw [Int.pow_succ (x - 1), Int.pow_succ x, e0, <- Int.add_mul]
  congr 1
  lia
 have h2 : ∀ p q a b : Nat, x ^ p * (x - 1) ^ a * (y ^ q * (y - 1) ^ b) + x ^ p * (x - 1) ^ a * (y ^ q * (y - 1) ^ (b + 1)) = x ^ p * (x - 1) ^ a * (y ^ (q + 1) * (y - 1) ^ b) := fun p q a b => by
  rw [Int.pow_succ (y - 1), Int.pow_succ y, e0, <- Int.mul_add]
  congr 1
  lia
 have key := zii ok pm (fun p q a b => x ^ p * (x - 1) ^ a * (y ^ q * (y - 1) ^ b)) h1 h2
 have e1 : (sm (allP ps) fun A => (x - 1) ^ (rkAll n ps - rkP n ps A).toNat * (y - 1) ^ ((A.length : Int) - rkP n ps A).toNat) = sm (allP ps) fun A => x ^ 0 * (x - 1) ^ (rkAll n ps - rkP n ps A).toNat * (y ^ 0 * (y - 1) ^ ((A.length : Int) - rkP n ps A).toNat) := zah fun A _ => by rw [Int.pow_zero, Int.pow_zero, Int.one_mul, Int.one_mul]
 rw [e1, key]
 unfold trT lin sm
 rw [List.map_map]
 congr 1
 refine List.map_congr_left fun t _ => ?_
 show 1 * (x ^ ((linP n ps t ord).length : Int).toNat * y ^ ((loutP n ps t ord).length : Int).toNat) = _
 rw [Int.toNat_natCast, Int.toNat_natCast, Int.pow_zero, Int.pow_zero, Int.mul_one, Int.mul_one, Int.one_mul]
def spByP (K : W.Frag) : Sp := fun vs H Q _ => ∃ (wv : V) (n : Int) (ps : List (Int × Int)), vs = [wv] /\ WebAt H wv n ps /\ WebOk n ps /\
 ∀ v L ts H', Same H H' -> PolyIs ts L -> (∀ k, coef ts k = tut n ps k) -> PolyAt H' v L -> Bd ts -> Q v H'
theorem zty (n : Int) (ps : List (Int × Int)) : ∀ l : List (List Int), nrm (l.map (tmS n ps)) = l.length
 | [] => rfl
 | a :: l => by
  rw [List.map_cons, zcr, zty n ps l, List.length_cons]
  show 1 + l.length = l.length + 1
  lia
theorem deg_x : Deg (1 : Nat) xOne := fun t ht => by
 unfold xOne at ht
 rcases List.mem_cons.mp ht with rfl | ht
 ·decide
 ·rw [List.mem_singleton.mp ht]; decide
theorem deg_y : Deg (1 : Nat) yOne := fun t ht => by
 unfold yOne at ht
 rcases List.mem_cons.mp ht with rfl | ht
 ·decide
 ·rw [List.mem_singleton.mp ht]; decide
theorem row_of {n : Int} {ps : List (Int × Int)} (ok : WebOk n ps) {L : List T3} (pi : PolyIs (tmsP n ps) L) {t : T3} (ht : t ∈ L) : 0 <= rkAll n ps - t.2.1 /\ 0 <= t.1 - t.2.1 /\ (rkAll n ps - t.2.1) + (t.1 - t.2.1) <= 8 /\ t.2.2.natAbs <= 300 := by
 obtain ⟨⟨n1, n9⟩, hb, h8⟩ := id ok
 have o := zbw n1 n9 hb
 obtain ⟨a, b⟩ := (pi.mem t).mp ht
 have ex : ∃ u ∈ tmsP n ps, k3 u = k3 t := by
  by_cases c : ∃ u ∈ tmsP n ps, k3 u = k3 t
  ·exact c
  ·exact absurd (b.trans (zbo fun u hu e => c ⟨u, hu, e⟩)) a
 obtain ⟨u, hu, e⟩ := ex
 obtain ⟨A, hA, rfl⟩ := List.mem_map.mp hu
 have kA := zcj h8 hA
 have lA : (A.length : Int) <= ps.length := by
  have := (zdv (zny h8 hA)).2.2
  obtain ⟨_, up⟩ := (zbv h8).mp hA
  exact zls (by lia) (up.imp fun h => by lia) kA
 have e1 : (A.length : Int) = t.1 := congrArg Prod.fst e
 have e2 : rkP n ps A = t.2.1 := congrArg Prod.snd e
 have r1 := o.le kA
 have r2 := o.gain kA (fun _ z => nomatch z : Ks ps.length [])
 rw [List.nil_append, o.nil] at r2
 have r3 : rkP n ps A <= rkAll n ps := o.mono kA (zcf _) fun k hk => mem_ups.mpr (kA k hk)
 have ndA : A.Nodup := zby ((zbv h8).mp hA).2
 have r4 := zho (zcl (ps.length : Int)) A ndA fun k hk => mem_ups.mpr (kA k hk)
 rw [zbc] at r4
 have kD : Ks ps.length (offL (ups ps.length) A) := fun k hk => mem_ups.mp (mem_off.mp hk).1
 have r5 := o.gain kD kA
 have r6 : rkP n ps (A ++ offL (ups ps.length) A) = rkAll n ps := o.same (zax kA kD) (zcf _) fun k => by
  rw [List.mem_append, mem_off]
  constructor
  ·rintro (z | z)
   ·exact mem_ups.mpr (kA k z)
   ·exact z.1
  ·intro z
   by_cases y : k ∈ A
   ·exact .inl y
   ·exact .inr ⟨z, y⟩
 have c1 := zdh ht
 have c2 := pi.nrm
 have c3 : nrm (tmsP n ps) = (allP ps).length := zty n ps _
 have c4 := zgz h8
 exact ⟨by lia, by lia, by lia, by lia⟩
theorem td_x : TD ((1 : Nat) : Int) xOne := fun t ht => by
 unfold xOne at ht
 rcases List.mem_cons.mp ht with rfl | ht
 ·decide
 ·rw [List.mem_singleton.mp ht]; decide
theorem td_y : TD ((1 : Nat) : Int) yOne := fun t ht => by
 unfold yOne at ht
 rcases List.mem_cons.mp ht with rfl | ht
 ·decide
 ·rw [List.mem_singleton.mp ht]; decide
section
variable {P : Program} {w : World} {K : W.Frag} {mg : Str -> Option Value} {base : Heap}
theorem scByP : zan ["web", "whole", "x_less_one", "y_less_one", "terms", "size", "rank", "many", "of_one_pick"] ["web"] (zad sByP) := ⟨rfl, rfl, rfl, by decide +kernel, rfl, by decide +kernel, by decide +kernel⟩
theorem zua : (["i", "j", "times", "many"] : List Str).Nodup := by decide +kernel
theorem d_byp (S : Src K mg "by_picks" sByP ["web"]) (DW : Def P w K mg base 3 "rank_of_web" ["web"] (zjq K)) (DS : Def P w K mg base 3 "size_table" ["web"] (spST K)) (DP : Def P w K mg base 2 "product_of" ["one", "other"] (zij K)) (DT : Def P w K mg base 3 "to_power" ["poly", "k"] (spPow K)) (DG : Def P w K mg base 1 "gathered" ["terms"] (zle K)) : Def P w K mg base 4 "by_picks" ["web"] (spByP K) := by
 refine S.def scByP (fun vs H Q E h => ?_) (fun f cdv A outer s H vs Q E hr h => ?_)
 ·obtain ⟨_, _, _, rfl, _⟩ := h; rfl
 ·obtain ⟨wv, n, ps, rfl, W, ok, q⟩ := h
  obtain ⟨⟨n1, n9⟩, hb, h8⟩ := id ok
  have hr1 : Room 1 _ := hr.mono (by decide)
  have hr2 : Room 2 _ := hr.mono (by decide)
  refine ⟨_, zae (zap (i := 1) scByP.nd rfl (Or.inl rfl) (zaj DW hr rfl (zaa (pv 0) zac)))
   (zae (zap (i := 2) scByP.nd rfl (Or.inl rfl) (zbj (zaa (zbj (zaa zaf (zaa zaf (zaa (pe_un zdo zaf) zac)))) (zaa (zbj (zaa zaf (zaa zaf (zaa zaf zac)))) zac))))
   (zae (zap (i := 3) scByP.nd rfl (Or.inl rfl) (zbj (zaa (zbj (zaa zaf (zaa zaf (zaa (pe_un zdo zaf) zac)))) (zaa (zbj (zaa zaf (zaa zaf (zaa zaf zac)))) zac))))
   (zae (zap (i := 4) scByP.nd rfl (Or.inl rfl) (zbu zac))
   (zae (zcb PassesOwn.never rfl (zbi K .l (zaj DS hr rfl (zaa (pv 0) zac))) (zcd K 3 rfl (zaq (zak (i := 5) scByP.nd rfl (Or.inl rfl)) (zaq (zak (i := 6) scByP.nd rfl (Or.inl rfl)) (zaq (zak (i := 7) scByP.nd rfl (Or.inr rfl)) zcc))))
    (zae (zap (i := 8) scByP.nd rfl (Or.inl rfl) (zaj DP hr2 rfl (zaa (zaj DT hr rfl (zaa (pv 2) (zaa (pe_op zhm (pv 1) (pv 6)) zac))) (zaa (zaj DT hr rfl (zaa (pv 3) (zaa (pe_op zhm (pv 5) (pv 6)) zac))) zac))))
    (zag (zcx (pe_bm PySem.F.plainAttrs_list PySem.F.slot_list_extend PySem.F.type_list_extend zdx (pv 4) (zaa (zci (N' := ["i", "j", "times", "many"]) (fr := [none, none, none, some 7]) (zbn (by rfl)) rfl (zbi K .t (pv 8))
     (g := gTup K 3 (gCons (gName 0) (gCons (gName 1) (gCons (gName 2) gNil)))) (fun _ _ _ _ => zcd K 3 rfl (zaq (zak (i := 0) zua rfl (Or.inl rfl) (Or.inr rfl)) (zaq (zak (i := 1) zua rfl (Or.inl rfl) (Or.inr rfl)) (zaq (zak (i := 2) zua rfl (Or.inl rfl) (Or.inr rfl)) zcc))))
     (fun _ _ _ _ => zck) (fun _ _ _ _ => zbj (zaa (pv 0) (zaa (pv 1) (zaa (pe_op zhn (pv 3) (pv 2)) zac))))) zac))))))
   (zag (zaw (zaj DG hr1 rfl (zaa (pv 4) zac)))))))), ?_⟩
  refine zbg fun M hM => ?_
  refine ⟨_, rfl, wv, n, ps, rfl, W, n1, n9, hb, h8, fun H1 s1 => ?_⟩
  have eR : n - ((zau (hdF ps (ups n) (ups ps.length)) : Nat) : Int) = rkAll n ps := rfl
  rw [eR]
  refine hM _ _ ?_
  clear hM M
  refine zbg fun M hM => ?_
  refine ⟨_, rfl, by show 3 <= sizeLine; decide, fun a1 ha1 => ⟨by show 3 <= sizeLine; decide, fun a2 ha2 => ⟨by show 2 <= sizeLine; decide, fun xo hxo => ?_⟩⟩⟩
  have u1 := Same.new (o := HO.tup [.int 0, .int 0, .int (-1)]) ha1
  have u2 := Same.new (o := HO.tup [.int 1, .int 0, .int 1]) ha2
  have u3 := Same.new (o := HO.tup [.ref a1, .ref a2]) hxo
  have s2 := s1.trans (u1.trans (u2.trans u3))
  have px : PolyAt (upd (upd (upd H1 a1 (.tup [.int 0, .int 0, .int (-1)])) a2 (.tup [.int 1, .int 0, .int 1])) xo (.tup [.ref a1, .ref a2])) (.ref xo) xOne := ⟨xo, _, rfl, zab, .cons ⟨a1, rfl, (u2.trans u3) _ _ zab⟩ (.cons ⟨a2, rfl, u3 _ _ zab⟩ .nil)⟩
  clear u1 u2 u3
  generalize upd (upd (upd H1 a1 (.tup [.int 0, .int 0, .int (-1)])) a2 (.tup [.int 1, .int 0, .int 1])) xo (.tup [.ref a1, .ref a2]) = H2 at px s2 ⊢
  refine hM _ _ ?_
  clear hM M
  refine zbg fun M hM => ?_
  refine ⟨_, rfl, by show 3 <= sizeLine; decide, fun b1 hb1 => ⟨by show 3 <= sizeLine; decide, fun b2 hb2 => ⟨by show 2 <= sizeLine; decide, fun yo hyo => ?_⟩⟩⟩
  replace hb2 : upd H2 b1 (.tup [.int 0, .int 0, .int (-1)]) b2 = none := hb2
  replace hyo : upd (upd H2 b1 (.tup [.int 0, .int 0, .int (-1)])) b2 (.tup [.int 0, .int 1, .int 1]) yo = none := hyo
  have u1 := Same.new (o := HO.tup [.int 0, .int 0, .int (-1)]) hb1
  have u2 := Same.new (o := HO.tup [.int 0, .int 1, .int 1]) hb2
  have u3 := Same.new (o := HO.tup [.ref b1, .ref b2]) hyo
  have s3 := s2.trans (u1.trans (u2.trans u3))
  have px3 := px.same (u1.trans (u2.trans u3))
  have py3 : PolyAt (upd (upd (upd H2 b1 (.tup [.int 0, .int 0, .int (-1)])) b2 (.tup [.int 0, .int 1, .int 1])) yo (.tup [.ref b1, .ref b2])) (.ref yo) yOne := ⟨yo, _, rfl, zab, .cons ⟨b1, rfl, (u2.trans u3) _ _ zab⟩ (.cons ⟨b2, rfl, u3 _ _ zab⟩ .nil)⟩
  clear u1 u2 u3
  generalize upd (upd (upd H2 b1 (.tup [.int 0, .int 0, .int (-1)])) b2 (.tup [.int 0, .int 1, .int 1])) yo (.tup [.ref b1, .ref b2]) = H3 at px3 py3 s3 ⊢
  refine hM _ _ ?_
  clear hM M
  refine zbg fun M hM => ?_
  refine ⟨by show 0 <= sizeLine; decide, fun l hlN => ?_⟩
  have s4 := Same.new (o := HO.lst []) hlN
  have hl4 : (upd H3 l (.lst [])) l = some (.lst []) := zab
  generalize upd H3 l (.lst []) = H4 at s4 hl4 ⊢
  refine hM _ _ ?_
  clear hM M
  refine zbg fun M hM => ?_
  refine ⟨_, rfl, wv, n, ps, rfl, W.same (s3.trans s4), ok, fun g rs L H5 s5 hgN hg hrs pi ll => ?_⟩
  have rl : rs.length = L.length := Paired.length hrs
  have s35 := s4.trans s5
  refine ⟨g, rfl, ⟨_, SqL.of hg⟩, zcq (k := .l) (K := K) (a := g) (xs := rs) (fun i σ H' => (∃ c5 c6 c7 c8, σ = [some wv, some (.int (rkAll n ps)), some (.ref xo), some (.ref yo), some (.ref l), c5, c6, c7, c8]) /\ Same H3 H' /\ H' g = some (.lst rs) /\ Paired (TermAt H') rs L /\ ∃ zs ts, H' l = some (.lst zs) /\ Paired (TermAt H') zs ts /\ ts.length <= 289 * i /\ Bd ts /\ ∀ k : Int × Int, coef ts k = lin (L.take i) fun m => alf (rkAll n ps - m.2).toNat k.1 * alf (m.1 - m.2).toNat k.2)
   ⟨⟨_, _, _, _, rfl⟩, s35, hg, hrs, [], [], s5 _ _ hl4, .nil, Nat.zero_le _, (fun _ z => nomatch z), fun _ => rfl⟩ (fun i σ H' _ z => SqL.of z.2.2.1) ?_ ?_⟩
  ·rintro i x σ H6 hx ⟨⟨c5, c6, c7, c8, rfl⟩, sm, hg6, hrs6, zs, ts, hz, pz, tl, bd, hco⟩
   have il : i < rs.length := (List.getElem?_eq_some_iff.mp hx).1
   obtain ⟨t, et, b, rfl, hb6⟩ := Paired.at hrs6 hx
   obtain ⟨m0, k0, mk8, c300⟩ := row_of ok pi (List.mem_of_getElem? et)
   have m8 : rkAll n ps - t.2.1 <= 8 := by lia
   have k8 : t.1 - t.2.1 <= 8 := by lia
   refine ⟨b, _, rfl, SqT.of hb6, rfl, _, _, rfl, _, _, rfl, _, _, rfl, rfl, ?_⟩
   dsimp only [List.set]
   have nx : nrm xOne <= 2 ^ 400 := Nat.le_trans (show 2 <= 2 ^ 1 by decide) (Nat.pow_le_pow_right (by decide) (by decide))
   have ny : nrm yOne <= 2 ^ 400 := Nat.le_trans (show 2 <= 2 ^ 1 by decide) (Nat.pow_le_pow_right (by decide) (by decide))
   have hlen : ∀ k : Int, k <= 8 -> ∀ j : Nat, j < k.toNat -> (1 * j + 1) * (1 * j + 1) * 2 < 100000 := fun k hk j hj => by
    have : (1 * j + 1) * (1 * j + 1) <= 9 * 9 := Nat.mul_le_mul (by lia) (by lia)
    lia
   refine zbg fun M1 hM1 => ?_
   refine ⟨_, rfl, _, rfl, _, rfl, _, _, rfl, rfl, .ref xo, xOne, rkAll n ps - t.2.1, 1, rfl, (px3.same sm).K, m0, by lia, deg_x, hlen _ m8, (by show 2 < 100000; decide), td_x, (fun j hj => by lia), nx, fun x1 L1 G1 r1 pi1 px1 => ?_⟩
   refine ⟨_, rfl, _, rfl, _, rfl, _, _, rfl, rfl, .ref yo, yOne, t.1 - t.2.1, 1, rfl, (py3.same (sm.trans r1)).K, k0, by lia, deg_y, hlen _ k8, (by show 2 < 100000; decide), td_y, (fun j hj => by lia), ny, fun x2 M2 G2 r2 pi2 px2 => ?_⟩
   have d1 := pi1.deg (zhv deg_x (rkAll n ps - t.2.1).toNat)
   have d2 := pi2.deg (zhv deg_y (t.1 - t.2.1).toNat)
   have t1 := pi1.td (td_pw td_x (rkAll n ps - t.2.1).toNat)
   have t2 := pi2.td (td_pw td_y (t.1 - t.2.1).toNat)
   have l1 : L1.length <= 81 := Nat.le_trans (zdl pi1.up d1) (Nat.mul_le_mul (show _ <= 9 by lia) (show _ <= 9 by lia))
   have l2 : M2.length <= 81 := Nat.le_trans (zdl pi2.up d2) (Nat.mul_le_mul (show _ <= 9 by lia) (show _ <= 9 by lia))
   have l12 : L1.length * M2.length <= 81 * 81 := Nat.mul_le_mul l1 l2
   refine ⟨x1, x2, L1, M2, rfl, px1.same r2, px2, by lia, by lia, fun a ha b hb => IntMulOk.of_le (zjx nx (by lia) pi1 a ha) (zjx ny (by lia) pi2 b hb) (by decide), bd_td (t1.prod t2) (by lia), fun x3 L3 G3 r3 pi3 _ pa3 => ?_⟩
   have r63 := r1.trans (r2.trans r3)
   obtain ⟨c3, rs3, rfl, hc3, ht3⟩ := pa3.ex
   have rl3 : rs3.length = L3.length := Paired.length ht3
   have d3 : Deg (((1 * (rkAll n ps - t.2.1).toNat + 1 * (t.1 - t.2.1).toNat : Nat)) : Int) L3 := by
    have := pi3.deg (d1.prod d2)
    rw [Int.natCast_add]
    exact this
   have l3 : L3.length <= 289 := Nat.le_trans (zdl pi3.up d3) (Nat.mul_le_mul (show _ <= 17 by lia) (show _ <= 17 by lia))
   have n3 : nrm L3 <= 2 ^ 8 * 2 ^ 8 := by
    refine Nat.le_trans pi3.nrm ?_
    rw [zej]
    refine Nat.mul_le_mul (Nat.le_trans pi1.nrm ?_) (Nat.le_trans pi2.nrm ?_)
    ·rw [zlr]
     exact Nat.pow_le_pow_right (by decide) (by lia)
    ·rw [zlr]
     exact Nat.pow_le_pow_right (by decide) (by lia)
   have hm : ∀ r ∈ L3, IntMulOk t.2.2 r.2.2 := fun r hr3 => by
    have a := zdh hr3
    have b1 : intBits t.2.2 <= 9 := intBits_le_iff.mpr (show t.2.2.natAbs < 2 ^ 9 by lia)
    have b2 : intBits r.2.2 <= 17 := intBits_le_iff.mpr (show r.2.2.natAbs < 2 ^ 17 by lia)
    exact IntMulOk.of_le b1 b2 (by decide)
   have hz3 := r63 _ _ hz
   refine hM1 _ _ ?_
   clear hM1 M1
   refine ⟨_, rfl, .inl ⟨rfl, _, SqL.of hz3⟩, _, rfl, c3, rfl, ⟨_, SqT.of hc3⟩, ?_⟩
   refine zct (k := .t) (a := c3) (xs := rs3) (fun σ => ∃ e1 e2 e3, σ = [e1, e2, e3, some (.int t.2.2)]) (fun j ys H7 => Same G3 H7 /\ Paired (TermAt H7) ys ((L3.take j).map (scT t.2.2))) ⟨_, _, _, rfl⟩ ⟨Same.refl _, .nil⟩ (natB (by lia)) (fun j ys H7 _ z => SqT.of (z.1 _ _ hc3)) ?_ ?_
   ·rintro j x ys σ H7 N hx3 ⟨e1, e2, e3, rfl⟩ ⟨s7, py⟩ hN
    obtain ⟨r, er, b3, rfl, hb3⟩ := Paired.at ht3 hx3
    refine ⟨b3, _, rfl, SqT.of (s7 _ _ hb3), rfl, _, _, rfl, _, _, rfl, _, _, rfl, rfl, ?_⟩
    dsimp only [gName, List.set]
    refine yesT ⟨_, rfl, _, rfl, _, rfl, _, rfl, _, _, rfl, rfl, hm r (List.mem_of_getElem? er), by show 3 <= sizeLine; decide, fun p4 hp4 => ?_⟩
    refine hN _ _ _ ⟨_, _, _, rfl⟩ ⟨s7.trans (Same.new hp4), ?_⟩ (by simp)
    rw [zai er, List.map_append]
    exact L2.Paired.snoc (zay py (Same.new hp4)) ⟨p4, rfl, zab⟩
   ·rintro ys H7 ⟨s7, py⟩ p4 hp4
    rw [rl3, List.take_length] at py
    have r7 := Same.new (o := HO.lst ys) hp4
    have r67 := r63.trans (s7.trans r7)
    have z1 := Paired.length pz
    have z2 := Paired.length py
    rw [List.length_map] at z2
    have hz4 := r67 _ _ hz
    refine ⟨l, p4, zs, ys, rfl, rfl, hz4, zab, Nat.le_of_lt (natB (by lia)), ?_⟩
    have hg7 := r67 _ _ hg6
    have ngl : g ≠ l := fun e => by
     rw [e, hl4] at hgN
     cases hgN
    refine ⟨⟨_, _, _, _, rfl⟩, My.Same.put (sm.trans r67) hlN, by rw [zas ngl]; exact hg7, zdr (zay hrs6 r67) hz4, zs ++ ys, ts ++ L3.map (scT t.2.2), zab, zdr (zfw (zay pz r67) (zay py r7)) hz4, ?_, ?_, fun k => ?_⟩
    ·rw [List.length_append, List.length_map]
     lia
    ·intro u hu
     rcases List.mem_append.mp hu with z | z
     ·exact bd u z
     ·obtain ⟨v, hv, rfl⟩ := List.mem_map.mp z
      exact bd_td (pi3.td (t1.prod t2)) (by lia) v hv
    ·rw [zfn, zvu, hco k, zai et, zhp, zcs, show lin [] (fun m : Int × Int => alf (rkAll n ps - m.2).toNat k.1 * alf (m.1 - m.2).toNat k.2) = 0 from rfl, Int.add_zero, pi3.coef, zpb pi1.eqv pi2.eqv (k.1, k.2), zyl]
     rfl
  ·rintro σ H6 ⟨⟨c5, c6, c7, c8, rfl⟩, sm, hg6, hrs6, zs, ts, hz, pz, tl, bd, hco⟩
   refine hM _ _ ?_
   refine ⟨_, rfl, .l, l, zs, ts, rfl, SqL.of hz, zla pz, by lia, bd, fun x L' H7 s7 pi7 pl7 pa7 => ?_⟩
   refine q x L' ts H7 (s3.trans (sm.trans s7)) pi7 (fun k => ?_) pa7 bd
   rw [hco k, rl, List.take_length, zde pi.eqv, zBj]
   rfl
end
def allT (q : Nat) : Nat -> List (List Int)
 | 0 => [[]]
 | p + 1 => (allT q p).flatMap fun f => (ups q).map fun c => f ++ [c]
theorem allT_mem {q : Nat} : ∀ {p : Nat} {f : List Int}, f ∈ allT q p ↔ f.length = p /\ ∀ c ∈ f, 0 <= c /\ c < (q : Int)
 | 0, f => by
  show f ∈ [[]] ↔ _
  rw [List.mem_singleton]
  constructor
  ·rintro rfl
   exact ⟨rfl, fun _ z => nomatch z⟩
  ·rintro ⟨h, _⟩
   exact List.eq_nil_of_length_eq_zero h
 | p + 1, f => by
  show f ∈ (allT q p).flatMap (fun f => (ups q).map fun c => f ++ [c]) ↔ _
  rw [List.mem_flatMap]
  constructor
  ·rintro ⟨g, hg, h⟩
   obtain ⟨c, hc, rfl⟩ := List.mem_map.mp h
   obtain ⟨a, b⟩ := allT_mem.mp hg
   refine ⟨by rw [List.length_append, a]; rfl, fun d hd => ?_⟩
   rcases List.mem_append.mp hd with z | z
   ·exact b d z
   ·rw [List.mem_singleton.mp z]; exact mem_ups.mp hc
  ·rintro ⟨a, b⟩
   have ne : f ≠ [] := fun z => by rw [z] at a; cases a
   refine ⟨f.dropLast, allT_mem.mpr ⟨by rw [List.length_dropLast, a]; rfl, fun c hc => b c ((List.dropLast_sublist f).subset hc)⟩, List.mem_map.mpr ⟨f.getLast ne, mem_ups.mpr (b _ (List.getLast_mem ne)), List.dropLast_concat_getLast ne⟩⟩
theorem zgi {l m : List Int} {i : Int} (h0 : 0 <= i) (h : i < l.length) : at0 (l ++ m) i = at0 l i := by
 unfold at0
 rw [List.getD_eq_getElem?_getD, List.getD_eq_getElem?_getD, List.getElem?_append_left (by lia)]
theorem zms {l : List Int} {c : Int} : at0 (l ++ [c]) (l.length : Int) = c := by
 unfold at0
 rw [Int.toNat_natCast, List.getD_eq_getElem?_getD, List.getElem?_append_right (Nat.le_refl _), Nat.sub_self]
 rfl
theorem zex {α β : Type} (F : α -> List β) (g : β -> Int) : ∀ l : List α, sm (l.flatMap F) g = sm l fun a => sm (F a) g
 | [] => rfl
 | a :: l => by rw [List.flatMap_cons, zyu, zex F g l, zbf]
theorem zer {α : Type} (c : Int) (f : α -> Int) : ∀ l : List α, (sm l fun a => c * f a) = c * sm l f
 | [] => by show (0 : Int) = c * 0; lia
 | a :: l => by rw [zbf, zbf, zer c f l, Int.mul_add]
theorem zdf {α : Type} (c : Int) : ∀ l : List α, (sm l fun _ => c) = (l.length : Int) * c
 | [] => by show (0 : Int) = 0 * c; lia
 | a :: l => by
  rw [zbf, zdf c l, List.length_cons, Int.natCast_add, Int.add_mul]
  lia
theorem zik {v d : Int} : ∀ {l : List Int}, l.Nodup -> v ∈ l -> (sm l fun c => if c = v then d else 0) = d
 | [], _, h => nomatch h
 | a :: l, nd, h => by
  obtain ⟨n1, n2⟩ := List.nodup_cons.mp nd
  rw [zbf]
  by_cases z : a = v
  ·rw [if_pos z, zds fun c hc => if_neg fun e => n1 (by rw [z, <- e]; exact hc), Int.add_zero]
  ·rw [if_neg z, zik n2 ((List.mem_cons.mp h).resolve_left fun e => z e.symm), Int.zero_add]
def okH (hs : List Int) (p : Nat) (f : List Int) : Bool := (ups p).all fun i => decide (at0 f i = at0 f (at0 hs i))
theorem zvn {n : Int} {ps : List (Int × Int)} {ks hs : List Int} (G : GH n ps ks hs) (q : Nat) : ∀ p : Nat, (p : Int) <= n -> (sm (allT q p) fun f => if okH hs p f then 1 else 0) = (q : Int) ^ ((ups p).filter fun i => decide (at0 hs i = i)).length
 | 0, _ => rfl
 | p + 1, h => by
  have ih := zvn G q p (by lia)
  obtain ⟨g0, g1⟩ := G.le p (by lia) (by lia)
  show sm ((allT q p).flatMap fun f => (ups q).map fun c => f ++ [c]) _ = _
  rw [zex, fl_s]
  have key : ∀ f ∈ allT q p, (sm ((ups q).map fun c => f ++ [c]) fun f => if okH hs (p + 1) f then 1 else 0) = (if at0 hs p = p then (q : Int) else 1) * if okH hs p f then 1 else 0 := by
   intro f hf
   obtain ⟨fl, fb⟩ := allT_mem.mp hf
   rw [zsn]
   have e1 : ∀ c : Int, okH hs (p + 1) (f ++ [c]) = (okH hs p f && decide (c = at0 (f ++ [c]) (at0 hs p))) := fun c => by
    unfold okH
    rw [al_s]
    congr 1
    ·refine al_c fun i hi => ?_
     obtain ⟨i0, i1⟩ := mem_ups.mp hi
     obtain ⟨j0, j1⟩ := G.le i i0 (by lia)
     rw [zgi i0 (by lia), zgi j0 (by lia)]
    ·have := zms (l := f) (c := c)
     rw [fl] at this
     rw [this]
   by_cases c0 : at0 hs p = p
   ·rw [if_pos c0]
    have e2 : ∀ c : Int, at0 (f ++ [c]) (at0 hs p) = c := fun c => by
     rw [c0, <- fl]
     exact zms
    have e3 : (sm (ups q) fun c => if okH hs (p + 1) (f ++ [c]) then (1 : Int) else 0) = sm (ups q) fun _ => if okH hs p f then 1 else 0 := zah fun c _ => by rw [e1 c, e2 c, decide_eq_true rfl, Bool.and_true]
    rw [e3, zdf, zbc]
    rfl
   ·rw [if_neg c0, Int.one_mul]
    have lt : at0 hs p < p := by lia
    have e2 : ∀ c : Int, at0 (f ++ [c]) (at0 hs p) = at0 f (at0 hs p) := fun c => zgi g0 (by lia)
    have vin : at0 f (at0 hs p) ∈ ups (q : Int) := mem_ups.mpr (fb _ (zie g0 (by lia)))
    have e3 : (sm (ups q) fun c => if okH hs (p + 1) (f ++ [c]) then (1 : Int) else 0) = sm (ups q) fun c => if c = at0 f (at0 hs p) then (if okH hs p f then 1 else 0) else 0 := zah fun c _ => by
     rw [e1 c, e2 c]
     by_cases z : c = at0 f (at0 hs p)
     ·rw [if_pos z, decide_eq_true z, Bool.and_true]
     ·rw [if_neg z, decide_eq_false z, Bool.and_false]
      rfl
    rw [e3, zik (zby (zcl _)) vin]
  rw [zah key, zer, ih]
  by_cases c0 : at0 hs p = p
  ·rw [if_pos c0, if_pos (decide_eq_true c0), Int.pow_succ, Int.mul_comm]
  ·rw [if_neg c0, if_neg (by rw [decide_eq_false c0]; decide), Int.one_mul, Nat.add_zero]
section
variable {n : Int} {ps : List (Int × Int)}
def monoK (ps : List (Int × Int)) (f : List Int) (k : Int) : Bool := decide (at0 f (tieN ps k).1 = at0 f (tieN ps k).2)
def zec (ps : List (Int × Int)) (f A : List Int) : Bool := A.all (monoK ps f)
def propF (ps : List (Int × Int)) (f : List Int) : Bool := ps.all fun p => !decide (at0 f p.1 = at0 f p.2)
theorem zCj (n1 : 1 <= n) (hb : ∀ p ∈ ps, InN n p) {A : List Int} (hA : Ks ps.length A) (f : List Int) : zec ps f A = okH (hdF ps (ups n) A) n.toNat f := by
 have G := zgg n1 hb hA
 generalize hdF ps (ups n) A = hs at G
 unfold zec okH monoK
 rw [Bool.eq_iff_iff, List.all_eq_true, List.all_eq_true]
 constructor
 ·intro h i hi
  obtain ⟨i0, i1⟩ := mem_ups.mp hi
  have c := G.cl (fun z => at0 f i = at0 f z) (fun k hk => by
   have := of_decide_eq_true (h k hk)
   rw [this]) i i0 (by lia)
  exact decide_eq_true (c.mp rfl)
 ·intro h k hk
  obtain ⟨a0, a1, b0, b1⟩ := zdq hb (hA k hk).1 (hA k hk).2
  have x := of_decide_eq_true (h _ (mem_ups.mpr ⟨a0, show _ < ((n.toNat : Nat) : Int) by lia⟩))
  have y := of_decide_eq_true (h _ (mem_ups.mpr ⟨b0, show _ < ((n.toNat : Nat) : Int) by lia⟩))
  refine decide_eq_true ?_
  rw [x, y, G.join k hk]
theorem znt (n1 : 1 <= n) (hb : ∀ p ∈ ps, InN n p) {A : List Int} (hA : Ks ps.length A) (q : Nat) : (sm (allT q n.toNat) fun f => if zec ps f A then 1 else 0) = (q : Int) ^ (cN n ps A).toNat := by
 have G := zgg n1 hb hA
 have e := zCm n1 hb hA
 have e1 : (sm (allT q n.toNat) fun f => if zec ps f A then (1 : Int) else 0) = sm (allT q n.toNat) fun f => if okH (hdF ps (ups n) A) n.toNat f then 1 else 0 := zah fun f _ => by rw [zCj n1 hb hA f]
 rw [e1, zvn G q n.toNat (by lia), <- e, Int.toNat_natCast]
 unfold parts hpts
 rw [List.length_map, show ((n.toNat : Nat) : Int) = n by lia]
def sgn (b : Nat) : Int := (-1) ^ b
theorem zdc (b : Nat) : sgn (b + 1) = - sgn b := by unfold sgn; rw [Int.pow_succ]; lia
theorem zxq (h8 : ps.length <= 8) (f : List Int) : (sm (allP ps) fun A => if zec ps f A then sgn A.length else 0) = if propF ps f then 1 else 0 := by
 rw [zew (zkr h8)]
 have key := zgn (fun _ => false) (fun _ => false) (monoK ps f) (fun _ q a b => if a = 0 then (if q = 0 then sgn b else 0) else 0)
  (fun p q a b => by
   by_cases z : a = 0
   ·subst z; simp
   ·simp [z])
  (fun p q a b => by
   by_cases z : a = 0
   ·rw [if_pos z, if_pos z, if_pos z, if_neg (show ¬ q + 1 = 0 by lia)]
    by_cases y : q = 0
    ·rw [if_pos y, if_pos y, zdc]; lia
    ·rw [if_neg y, if_neg y]; rfl
   ·rw [if_neg z, if_neg z, if_neg z]; rfl) ps.length 0 0 0 0
 have e1 : ∀ A, cS (fun _ => false) ps.length A = 0 := fun A => by
  unfold cS
  rw [List.filter_eq_nil_iff.mpr fun k _ => by simp]
  rfl
 have e2 : (if propF ps f then (1 : Int) else 0) = if nO (fun _ => false) (monoK ps f) ps.length = 0 then 1 else 0 := by
  have : propF ps f = decide (nO (fun _ => false) (monoK ps f) ps.length = 0) := by
   unfold nO propF monoK
   rw [Bool.eq_iff_iff, decide_eq_true_iff, List.length_eq_zero_iff, List.filter_eq_nil_iff, List.all_eq_true]
   constructor
   ·intro h k hk
    have := mem_ups.mp hk
    have hin : tieN ps k ∈ ps := by
     unfold tieN
     rw [List.getD_eq_getElem?_getD, List.getElem?_eq_getElem (by lia)]
     exact List.getElem_mem _
    have := h _ hin
    simpa using this
   ·intro h p hp
    obtain ⟨i, hi, rfl⟩ := List.mem_iff_getElem.mp hp
    have := h (i : Int) (mem_ups.mpr ⟨by lia, by lia⟩)
    unfold tieN at this
    rw [Int.toNat_natCast, List.getD_eq_getElem?_getD, List.getElem?_eq_getElem hi] at this
    simpa using this
  rw [this]
  by_cases z : nO (fun _ => false) (monoK ps f) ps.length = 0
  ·rw [if_pos (decide_eq_true z), if_pos z]
  ·rw [if_neg (by rw [decide_eq_false z]; decide), if_neg z]
 have key2 : (sm (subs ps.length) fun A => if okS (fun _ => false) (fun _ => false) (monoK ps f) ps.length A then (if 0 + cS (fun _ => false) ps.length A = 0 then (if 0 = 0 then sgn (0 + dS (fun _ => false) ps.length A) else 0) else 0) else 0) = if 0 = 0 then (if 0 + nO (fun _ => false) (monoK ps f) ps.length = 0 then sgn 0 else 0) else 0 := key
 rw [e2]
 rw [if_pos rfl, Nat.zero_add] at key2
 rw [show sgn 0 = 1 from rfl] at key2
 rw [<- key2]
 refine zah fun A hA => ?_
 obtain ⟨kA, uA⟩ := subs_mem.mp hA
 have f1 : okS (fun _ => false) (fun _ => false) (monoK ps f) ps.length A = zec ps f A := by
  unfold okS zec
  rw [Bool.eq_iff_iff, List.all_eq_true, List.all_eq_true]
  constructor
  ·intro h k hk
   have := h k (mem_ups.mpr (kA k hk))
   simpa [hk] using this
  ·intro h k _
   by_cases z : k ∈ A
   ·simp [h k z]
   ·simp [z]
 have f2 : dS (fun _ => false) ps.length A = A.length := by
  unfold dS
  congr 1
  refine up_eq ((zcl _).filter _) uA fun k => ?_
  rw [List.mem_filter, mem_ups]
  simp only [Bool.not_false, Bool.true_and, decide_eq_true_iff]
  exact ⟨fun z => z.2, fun z => ⟨kA k z, z⟩⟩
 rw [f1, e1, if_pos rfl, if_pos rfl, f2, Nat.zero_add]
theorem zAb (ok : WebOk n ps) (q : Nat) : (sm (allT q n.toNat) fun f => if propF ps f then 1 else 0) = sm (allP ps) fun A => sgn A.length * (q : Int) ^ (n - rkP n ps A).toNat := by
 obtain ⟨⟨n1, n9⟩, hb, h8⟩ := id ok
 have e1 : (sm (allT q n.toNat) fun f => if propF ps f then (1 : Int) else 0) = sm (allT q n.toNat) fun f => sm (allP ps) fun A => if zec ps f A then sgn A.length else 0 := zah fun f _ => (zxq h8 f).symm
 rw [e1, zhd]
 refine zah fun A hA => ?_
 have kA := zcj h8 hA
 have e2 : (sm (allT q n.toNat) fun f => if zec ps f A then sgn A.length else 0) = sm (allT q n.toNat) fun f => sgn A.length * if zec ps f A then 1 else 0 := zah fun f _ => by
  by_cases z : zec ps f A = true
  ·rw [if_pos z, if_pos z, Int.mul_one]
  ·rw [if_neg z, if_neg z, Int.mul_zero]
 rw [e2, zer, znt n1 hb kA, rkP_c]
 congr 2
 lia
end
def sh (D : Int -> Int) (p : Int × Int) (x : Int) : Int -> Int := fun v => D v - (if v = p.1 then x else 0) + (if v = p.2 then x else 0)
def zD (n q : Nat) (D : Int -> Int) : Bool := (ups (n : Int)).all fun v => decide (D v % (q : Int) = 0)
def cntR (n q : Nat) (ps : List (Int × Int)) : List Int -> (Int -> Int) -> Int
 | [], D => if zD n q D then 1 else 0
 | k :: ks, D => sm (ups (q : Int)) fun x => cntR n q ps ks (sh D (tieN ps k) x)
def hR (n : Nat) (ps : List (Int × Int)) (ks : List Int) : List Int := hdF ps (ups (n : Int)) ks.reverse
def clS (n : Nat) (hs : List Int) (D : Int -> Int) (h : Int) : Int := sm (ups (n : Int)) fun v => if at0 hs v = h then D v else 0
def zS (n q : Nat) (hs : List Int) (D : Int -> Int) : Bool := (ups (n : Int)).all fun v => decide (clS n hs D (at0 hs v) % (q : Int) = 0)
theorem zBp (n : Nat) (ps : List (Int × Int)) (k : Int) (ks : List Int) : hR n ps (k :: ks) = stepH (hR n ps ks) (tieN ps k) := by
 unfold hR
 rw [List.reverse_cons, zkg]
theorem zEk (n : Nat) (ps : List (Int × Int)) (ks : List Int) : (hR n ps ks).length = n := by
 unfold hR
 rw [zkh, zbc]
 lia
theorem zkx (n : Int) : (ups n).Nodup := (zcl n).imp fun h => by lia
theorem zsm {n : Nat} {hs : List Int} {h p x : Int} (h0 : 0 <= p) (hn : p < (n : Int)) : (sm (ups (n : Int)) fun v => if at0 hs v = h then (if v = p then x else 0) else 0) = if at0 hs p = h then x else 0 := by
 have e : (sm (ups (n : Int)) fun v => if at0 hs v = h then (if v = p then x else 0) else 0) = sm (ups (n : Int)) fun v => if v = p then (if at0 hs p = h then x else 0) else 0 := zah fun v _ => by
  by_cases c : v = p
  ·subst c
   simp
  ·simp [c]
 rw [e]
 exact zik (zkx _) (mem_ups.mpr ⟨h0, hn⟩)
theorem zql {n : Nat} {hs : List Int} {D : Int -> Int} {p : Int × Int} (hp : InN n p) (x h : Int) : clS n hs (sh D p x) h = clS n hs D h - (if at0 hs p.1 = h then x else 0) + (if at0 hs p.2 = h then x else 0) := by
 obtain ⟨a, b, c, d⟩ := hp
 rw [<- zsm (hs := hs) (h := h) (x := x) a b, <- zsm (hs := hs) (h := h) (x := x) c d]
 unfold clS sh
 have e : (sm (ups (n : Int)) fun v => if at0 hs v = h then D v - (if v = p.1 then x else 0) + (if v = p.2 then x else 0) else 0)
   + (sm (ups (n : Int)) fun v => if at0 hs v = h then (if v = p.1 then x else 0) else 0)
   = (sm (ups (n : Int)) fun v => if at0 hs v = h then D v else 0) + sm (ups (n : Int)) fun v => if at0 hs v = h then (if v = p.2 then x else 0) else 0 := by
  rw [<- zfg, <- zfg]
  refine zah fun v _ => ?_
  by_cases c : at0 hs v = h
  ·simp only [c, if_true]; lia
  ·simp only [c, if_false]
 lia
theorem zBh {q : Nat} (hq : 1 <= q) {a b x : Int} (x0 : 0 <= x) (xq : x < (q : Int)) : ((a - x) % (q : Int) = 0 /\ (b + x) % (q : Int) = 0) ↔ ((a + b) % (q : Int) = 0 /\ x = a % (q : Int)) := by
 constructor
 ·rintro ⟨h1, h2⟩
  obtain ⟨c, hc⟩ := Int.dvd_of_emod_eq_zero h1
  obtain ⟨d, hd⟩ := Int.dvd_of_emod_eq_zero h2
  refine ⟨Int.emod_eq_zero_of_dvd ⟨c + d, by rw [Int.mul_add]; lia⟩, ?_⟩
  have e : a = x + (q : Int) * c := by lia
  rw [e, Int.add_mul_emod_self_left, Int.emod_eq_of_lt x0 xq]
 ·rintro ⟨h1, h2⟩
  obtain ⟨c, hc⟩ := Int.dvd_of_emod_eq_zero h1
  have e := Int.emod_add_mul_ediv a (q : Int)
  rw [<- h2] at e
  refine ⟨Int.emod_eq_zero_of_dvd ⟨a / (q : Int), by lia⟩, Int.emod_eq_zero_of_dvd ⟨c - a / (q : Int), by rw [Int.mul_sub]; lia⟩⟩
theorem zhy {n : Nat} {hs : List Int} (hl : hs.length = n) {u v : Int} (huv : u ≠ v) (D : Int -> Int) (h : Int) : clS n (hs.map fun x => if x = v then u else x) D h = if h = u then clS n hs D u + clS n hs D v else (if h = v then 0 else clS n hs D h) := by
 have at_ : ∀ w ∈ ups (n : Int), at0 (hs.map fun x => if x = v then u else x) w = if at0 hs w = v then u else at0 hs w := fun w hw => by
  have := mem_ups.mp hw
  unfold at0
  exact zdk (by lia)
 unfold clS
 by_cases c : h = u
 ·rw [if_pos c, <- zfg]
  refine zah fun w hw => ?_
  rw [at_ w hw, c]
  by_cases d : at0 hs w = v
  ·rw [if_pos d, if_pos rfl, if_neg (by rw [d]; exact fun z => huv z.symm), if_pos d, Int.zero_add]
  ·rw [if_neg d, if_neg d, Int.add_zero]
 ·rw [if_neg c]
  by_cases d : h = v
  ·rw [if_pos d]
   refine zds fun w hw => ?_
   rw [at_ w hw]
   refine if_neg ?_
   split
   ·intro z; lia
   ·intro z; lia
  ·rw [if_neg d]
   refine zah fun w hw => ?_
   rw [at_ w hw]
   by_cases e : at0 hs w = v
   ·rw [if_pos e, if_neg (fun z => c z.symm), if_neg (by rw [e]; exact fun z => d z.symm)]
   ·rw [if_neg e]
theorem zih {n q : Nat} {hs : List Int} {D : Int -> Int} : zS n q hs D = true ↔ ∀ v, 0 <= v -> v < (n : Int) -> clS n hs D (at0 hs v) % (q : Int) = 0 := by
 unfold zS
 rw [List.all_eq_true]
 exact ⟨fun h v a b => of_decide_eq_true (h v (mem_ups.mpr ⟨a, b⟩)), fun h v hv => decide_eq_true (h v (mem_ups.mp hv).1 (mem_ups.mp hv).2)⟩
theorem zwo {n q : Nat} (hq : 1 <= q) {hs : List Int} (hl : hs.length = n) {p : Int × Int} (hp : InN n p) (ne : at0 hs p.1 ≠ at0 hs p.2) (D : Int -> Int) {x : Int} (x0 : 0 <= x) (xq : x < (q : Int)) : zS n q hs (sh D p x) = (zS n q (stepH hs p) D && decide (x = clS n hs D (at0 hs p.1) % (q : Int))) := by
 obtain ⟨u, v, huv, e, alt⟩ := zgo ne
 rw [e, Bool.eq_iff_iff, Bool.and_eq_true, decide_eq_true_iff, zih, zih]
 have key := zBh hq (a := clS n hs D (at0 hs p.1)) (b := clS n hs D (at0 hs p.2)) x0 xq
 have c1 : clS n hs (sh D p x) (at0 hs p.1) = clS n hs D (at0 hs p.1) - x := by
  rw [zql hp, if_pos rfl, if_neg (fun z => ne z.symm)]; lia
 have c2 : clS n hs (sh D p x) (at0 hs p.2) = clS n hs D (at0 hs p.2) + x := by
  rw [zql hp, if_neg ne, if_pos rfl]; lia
 have c3 : ∀ h, h ≠ at0 hs p.1 -> h ≠ at0 hs p.2 -> clS n hs (sh D p x) h = clS n hs D h := fun h h1 h2 => by
  rw [zql hp, if_neg (fun z => h1 z.symm), if_neg (fun z => h2 z.symm)]; lia
 have at_ : ∀ w, 0 <= w -> w < (n : Int) -> at0 (hs.map fun x => if x = v then u else x) w = if at0 hs w = v then u else at0 hs w := fun w a b => by
  unfold at0
  exact zdk (by lia)
 have su : clS n hs D u + clS n hs D v = clS n hs D (at0 hs p.1) + clS n hs D (at0 hs p.2) := by
  rcases alt with ⟨rfl, rfl⟩ | ⟨rfl, rfl⟩ <;> lia
 obtain ⟨p0, pn, r0, rn⟩ := hp
 have huv' : ∀ h, (h ≠ u /\ h ≠ v) ↔ (h ≠ at0 hs p.1 /\ h ≠ at0 hs p.2) := fun h => by
  rcases alt with ⟨rfl, rfl⟩ | ⟨rfl, rfl⟩
  ·exact Iff.rfl
  ·exact ⟨fun z => ⟨z.2, z.1⟩, fun z => ⟨z.2, z.1⟩⟩
 constructor
 ·intro h
  have k := key.mp ⟨by rw [<- c1]; exact h _ p0 pn, by rw [<- c2]; exact h _ r0 rn⟩
  refine ⟨fun w w0 wn => ?_, k.2⟩
  rw [zhy hl huv, at_ w w0 wn]
  by_cases d : at0 hs w = v
  ·rw [if_pos d, if_pos rfl, su]; exact k.1
  ·rw [if_neg d]
   by_cases d2 : at0 hs w = u
   ·rw [if_pos d2, su]; exact k.1
   ·rw [if_neg d2, if_neg d]
    obtain ⟨q1, q2⟩ := (huv' _).mp ⟨d2, d⟩
    rw [<- c3 _ q1 q2]
    exact h w w0 wn
 ·rintro ⟨h, hx⟩
  have top : (clS n hs D (at0 hs p.1) + clS n hs D (at0 hs p.2)) % (q : Int) = 0 := by
   have := h p.1 p0 pn
   rw [zhy hl huv, at_ _ p0 pn] at this
   have z : (if at0 hs p.1 = v then u else at0 hs p.1) = u := by
    rcases alt with ⟨rfl, rfl⟩ | ⟨rfl, rfl⟩
    ·rw [if_neg ne]
    ·rw [if_pos rfl]
   rw [if_pos z, su] at this
   exact this
  have k := key.mpr ⟨top, hx⟩
  intro w w0 wn
  by_cases d1 : at0 hs w = at0 hs p.1
  ·rw [d1, c1]; exact k.1
  ·by_cases d2 : at0 hs w = at0 hs p.2
   ·rw [d2, c2]; exact k.2
   ·rw [c3 _ d1 d2]
    have := h w w0 wn
    obtain ⟨q1, q2⟩ := (huv' _).mpr ⟨d1, d2⟩
    rw [zhy hl huv, at_ w w0 wn, if_neg q2, if_neg q1, if_neg q2] at this
    exact this
theorem zAa {n q : Nat} {hs : List Int} {p : Int × Int} (hp : InN n p) (e : at0 hs p.1 = at0 hs p.2) (D : Int -> Int) (x : Int) : zS n q hs (sh D p x) = zS n q hs D := by
 rw [Bool.eq_iff_iff, zih, zih]
 have c : ∀ h, clS n hs (sh D p x) h = clS n hs D h := fun h => by
  rw [zql hp, e]
  split <;> lia
 exact ⟨fun h v a b => by rw [<- c]; exact h v a b, fun h v a b => by rw [c]; exact h v a b⟩
theorem zwn {n q : Nat} (D : Int -> Int) : zS n q (ups (n : Int)) D = zD n q D := by
 rw [Bool.eq_iff_iff, zih]
 unfold zD
 rw [List.all_eq_true]
 have c : ∀ v, 0 <= v -> v < (n : Int) -> clS n (ups (n : Int)) D (at0 (ups (n : Int)) v) = D v := fun v a b => by
  rw [zfp a b]
  unfold clS
  have e : (sm (ups (n : Int)) fun w => if at0 (ups (n : Int)) w = v then D w else 0) = sm (ups (n : Int)) fun w => if w = v then D v else 0 := zah fun w hw => by
   obtain ⟨w0, wn⟩ := mem_ups.mp hw
   rw [zfp w0 wn]
   by_cases z : w = v
   ·rw [if_pos z, if_pos z, z]
   ·rw [if_neg z, if_neg z]
  rw [e]
  exact zik (zkx _) (mem_ups.mpr ⟨a, b⟩)
 exact ⟨fun h v hv => by
  obtain ⟨a, b⟩ := mem_ups.mp hv
  rw [<- c v a b]
  exact decide_eq_true (h v a b), fun h v a b => by
  rw [c v a b]
  exact of_decide_eq_true (h v (mem_ups.mpr ⟨a, b⟩))⟩
theorem zqf {n q : Nat} {ps : List (Int × Int)} (n1 : 1 <= n) (n9 : n <= 9) (hq : 1 <= q) (hb : ∀ p ∈ ps, InN n p) : ∀ {ks : List Int}, Ks ps.length ks -> ∀ D, cntR n q ps ks D = if zS n q (hR n ps ks) D then (q : Int) ^ ((ks.length : Int) - ((n : Int) - (zau (hR n ps ks) : Int))).toNat else 0
 | [], _, D => by
  have e : hR n ps [] = ups (n : Int) := rfl
  rw [e, zwn, zrl (by lia) (by lia)]
  show (if zD n q D = true then (1 : Int) else 0) = _
  rw [show (((([] : List Int).length : Nat) : Int) - ((n : Int) - (n : Int))).toNat = 0 from by simp, Int.pow_zero]
 | k :: ks, hk, D => by
  have hk' : Ks ps.length ks := fun j hj => hk j (List.mem_cons_of_mem _ hj)
  have ih := zqf n1 n9 hq hb hk'
  obtain ⟨k0, kl⟩ := hk k List.mem_cons_self
  have hp := zdq hb k0 kl
  have hl := zEk n ps ks
  have o := zbw (n := (n : Int)) (by lia) (by lia) hb
  have kr : Ks ps.length ks.reverse := fun j hj => hk' j (List.mem_reverse.mp hj)
  have r1 := o.le kr
  rw [List.length_reverse] at r1
  have r0 : rkP (n : Int) ps ks.reverse = (n : Int) - (zau (hR n ps ks) : Int) := rfl
  rw [r0] at r1
  have ql : (ups (q : Int)).length = q := by rw [zbc]; lia
  show (sm (ups (q : Int)) fun x => cntR n q ps ks (sh D (tieN ps k) x)) = _
  rw [zBp]
  by_cases e : at0 (hR n ps ks) (tieN ps k).1 = at0 (hR n ps ks) (tieN ps k).2
  ·rw [zca e]
   have e1 : (sm (ups (q : Int)) fun x => cntR n q ps ks (sh D (tieN ps k) x)) = sm (ups (q : Int)) fun _ => if zS n q (hR n ps ks) D then (q : Int) ^ ((ks.length : Int) - ((n : Int) - (zau (hR n ps ks) : Int))).toNat else 0 := zah fun x _ => by rw [ih, zAa hp e]
   rw [e1, zdf, ql]
   by_cases z : zS n q (hR n ps ks) D = true
   ·rw [if_pos z, if_pos z, List.length_cons, show (((ks.length + 1 : Nat) : Int) - ((n : Int) - (zau (hR n ps ks) : Int))).toNat = ((ks.length : Int) - ((n : Int) - (zau (hR n ps ks) : Int))).toNat + 1 by lia, Int.pow_succ, Int.mul_comm]
   ·rw [if_neg z, if_neg z, Int.mul_zero]
  ·have cd : zau (stepH (hR n ps ks) (tieN ps k)) + 1 = zau (hR n ps ks) := by
    obtain ⟨u, v, huv, es, alt⟩ := zgo e
    rw [es]
    obtain ⟨p0, pn, s0, sn⟩ := hp
    have m1 : at0 (hR n ps ks) (tieN ps k).1 ∈ hR n ps ks := zfl (by lia)
    have m2 : at0 (hR n ps ks) (tieN ps k).2 ∈ hR n ps ks := zfl (by lia)
    rcases alt with ⟨rfl, rfl⟩ | ⟨rfl, rfl⟩
    ·exact zcn huv m1 m2
    ·exact zcn huv m2 m1
   have e1 : (sm (ups (q : Int)) fun x => cntR n q ps ks (sh D (tieN ps k) x)) = sm (ups (q : Int)) fun x => if x = clS n (hR n ps ks) D (at0 (hR n ps ks) (tieN ps k).1) % (q : Int) then (if zS n q (stepH (hR n ps ks) (tieN ps k)) D then (q : Int) ^ ((ks.length : Int) - ((n : Int) - (zau (hR n ps ks) : Int))).toNat else 0) else 0 := zah fun x hx => by
    obtain ⟨x0, xq⟩ := mem_ups.mp hx
    rw [ih, zwo hq hl hp e D x0 xq]
    by_cases z : zS n q (stepH (hR n ps ks) (tieN ps k)) D = true
    ·by_cases y : x = clS n (hR n ps ks) D (at0 (hR n ps ks) (tieN ps k).1) % (q : Int)
     ·rw [if_pos y, if_pos z, if_pos (by rw [z, decide_eq_true y]; rfl)]
     ·rw [if_neg y, if_neg (by rw [decide_eq_false y, Bool.and_false]; decide)]
    ·rw [if_neg z, if_neg (fun y => z (Bool.and_eq_true_iff.mp y).1)]
     split <;> rfl
   rw [e1, zik (zkx _) (mem_ups.mpr (zpq _ _ (by lia)))]
   by_cases z : zS n q (stepH (hR n ps ks) (tieN ps k)) D = true
   ·rw [if_pos z, if_pos z, List.length_cons]
    congr 1
    lia
   ·rw [if_neg z, if_neg z]
theorem zyc {n q : Nat} {ps : List (Int × Int)} (n1 : 1 <= n) (n9 : n <= 9) (hq : 1 <= q) (hb : ∀ p ∈ ps, InN n p) {A : List Int} (hA : Ks ps.length A) : cntR n q ps A.reverse (fun _ => 0) = (q : Int) ^ ((A.length : Int) - rkP (n : Int) ps A).toNat := by
 have kr : Ks ps.length A.reverse := fun j hj => hA j (List.mem_reverse.mp hj)
 rw [zqf n1 n9 hq hb kr, if_pos]
 ·rw [List.length_reverse]
  unfold hR
  rw [List.reverse_reverse]
  rfl
 ·rw [zih]
  intro v _ _
  have : clS n (hR n ps A.reverse) (fun _ => 0) (at0 (hR n ps A.reverse) v) = 0 := zds fun w _ => by split <;> rfl
  rw [this]
  simp
def ovS (ps : List (Int × Int)) (f : List Int) (v : Int) : Nat -> Int
 | 0 => 0
 | j + 1 => ovS ps f v j + (if v = (tieN ps (j : Int)).1 then at0 f (j : Int) else 0) - (if v = (tieN ps (j : Int)).2 then at0 f (j : Int) else 0)
def flP (n q : Nat) (ps : List (Int × Int)) (f : List Int) : Bool := zD n q fun v => ovS ps f v ps.length
def supp (B : Int -> Bool) (f : List Int) (j : Nat) : Bool := (ups (j : Int)).all fun k => B k || decide (at0 f k = 0)
def nzF (f : List Int) (j : Nat) : Bool := (ups (j : Int)).all fun k => !decide (at0 f k = 0)
theorem zts {ps : List (Int × Int)} {f : List Int} {x v : Int} : ∀ {j : Nat}, j <= f.length -> ovS ps (f ++ [x]) v j = ovS ps f v j
 | 0, _ => rfl
 | j + 1, h => by
  show ovS ps (f ++ [x]) v j + _ - _ = ovS ps f v j + _ - _
  rw [zts (by lia), zgi (by lia) (by lia)]
theorem zwu {B : Int -> Bool} {f : List Int} {x : Int} : supp B (f ++ [x]) (f.length + 1) = (supp B f f.length && (B (f.length : Int) || decide (x = 0))) := by
 unfold supp
 rw [ups_s, List.all_append]
 congr 1
 ·rw [Bool.eq_iff_iff, List.all_eq_true, List.all_eq_true]
  constructor
  ·intro h k hk
   have := h k hk
   obtain ⟨a, b⟩ := mem_ups.mp hk
   rw [zgi a b] at this
   exact this
  ·intro h k hk
   obtain ⟨a, b⟩ := mem_ups.mp hk
   rw [zgi a b]
   exact h k hk
 ·rw [List.all_cons, List.all_nil, Bool.and_true, zms]
theorem zjj {n q : Nat} {D E : Int -> Int} (h : ∀ v, D v = E v) : zD n q D = zD n q E := by
 have : D = E := funext h
 rw [this]
theorem zju {n q : Nat} (hq : 1 <= q) (ps : List (Int × Int)) (B : Int -> Bool) : ∀ (j : Nat) (D : Int -> Int), (sm (allT q j) fun f => if (supp B f j && zD n q fun v => D v - ovS ps f v j) then (1 : Int) else 0) = cntR n q ps ((ups (j : Int)).filter B).reverse D
 | 0, D => by
  show (if (true && zD n q fun v => D v - 0) then (1 : Int) else 0) + 0 = if zD n q D then 1 else 0
  rw [Int.add_zero, Bool.true_and, zjj fun v => Int.sub_zero (D v)]
 | j + 1, D => by
  show (sm ((allT q j).flatMap fun f => (ups (q : Int)).map fun c => f ++ [c]) _) = _
  rw [zex]
  have e : (sm (allT q j) fun f => sm ((ups (q : Int)).map fun c => f ++ [c]) fun f => if (supp B f (j + 1) && zD n q fun v => D v - ovS ps f v (j + 1)) then (1 : Int) else 0)
    = sm (allT q j) fun f => sm (ups (q : Int)) fun x => if (B (j : Int) || decide (x = 0)) then (if (supp B f j && zD n q fun v => sh D (tieN ps (j : Int)) x v - ovS ps f v j) then (1 : Int) else 0) else 0 := zah fun f hf => by
   have fl := (allT_mem.mp hf).1
   rw [zsn]
   refine zah fun x _ => ?_
   subst fl
   have z : (zD n q fun v => D v - ovS ps (f ++ [x]) v (f.length + 1)) = zD n q fun v => sh D (tieN ps (f.length : Int)) x v - ovS ps f v f.length := zjj fun v => by
    show D v - (ovS ps (f ++ [x]) v f.length + _ - _) = _
    rw [zts (Nat.le_refl _), zms]
    unfold sh
    lia
   rw [zwu, z]
   cases supp B f f.length <;> cases (B (f.length : Int) || decide (x = 0)) <;> simp
  rw [e]
  have es : (ups ((j + 1 : Nat) : Int)).filter B = (ups (j : Int)).filter B ++ if B (j : Int) then [(j : Int)] else [] := by
   rw [ups_s, List.filter_append]
   congr 1
   cases h : B (j : Int) <;> simp [h]
  rw [es]
  cases hB : B (j : Int) with
  | true =>
   rw [if_pos rfl, List.reverse_append]
   show _ = sm (ups (q : Int)) fun x => cntR n q ps ((ups (j : Int)).filter B).reverse (sh D (tieN ps (j : Int)) x)
   have e3 : (sm (allT q j) fun f => sm (ups (q : Int)) fun x => if (true || decide (x = 0)) then (if (supp B f j && zD n q fun v => sh D (tieN ps (j : Int)) x v - ovS ps f v j) then (1 : Int) else 0) else 0) = sm (allT q j) fun f => sm (ups (q : Int)) fun x => if (supp B f j && zD n q fun v => sh D (tieN ps (j : Int)) x v - ovS ps f v j) then (1 : Int) else 0 := zah fun f _ => zah fun x _ => by rw [Bool.true_or, if_pos rfl]
   rw [e3, zhd (fun (f : List Int) (x : Int) => if (supp B f j && zD n q fun v => sh D (tieN ps (j : Int)) x v - ovS ps f v j) then (1 : Int) else 0)]
   refine zah fun x _ => ?_
   exact zju hq ps B j (sh D (tieN ps (j : Int)) x)
  | false =>
   rw [if_neg (by decide), List.append_nil, <- zju hq ps B j D]
   refine zah fun f _ => ?_
   have e2 : (sm (ups (q : Int)) fun x => if (false || decide (x = 0)) then (if (supp B f j && zD n q fun v => sh D (tieN ps (j : Int)) x v - ovS ps f v j) then (1 : Int) else 0) else 0) = sm (ups (q : Int)) fun x => if x = 0 then (if (supp B f j && zD n q fun v => D v - ovS ps f v j) then (1 : Int) else 0) else 0 := zah fun x _ => by
    rw [Bool.false_or]
    by_cases z : x = 0
    ·subst z
     rw [if_pos (decide_eq_true rfl), if_pos rfl, zjj (D := fun v => sh D (tieN ps (j : Int)) 0 v - ovS ps f v j) (E := fun v => D v - ovS ps f v j) fun v => by
      unfold sh
      split <;> split <;> lia]
    ·rw [if_neg (by rw [decide_eq_false z]; decide), if_neg z]
   rw [e2]
   exact zik (zkx _) (mem_ups.mpr ⟨by lia, by lia⟩)
theorem zje {α : Type} (p : α -> Bool) : ∀ l : List α, l.length = (l.filter p).length + (l.filter fun a => !p a).length
 | [] => rfl
 | a :: l => by
  have ih := zje p l
  cases h : p a with
  | true =>
   rw [List.filter_cons_of_pos h, List.filter_cons_of_neg (by rw [h]; decide), List.length_cons, List.length_cons]
   lia
  | false =>
   rw [List.filter_cons_of_neg (by rw [h]; decide), List.filter_cons_of_pos (by rw [h]; rfl), List.length_cons, List.length_cons]
   lia
theorem zEa {ps : List (Int × Int)} (h8 : ps.length <= 8) (f : List Int) : (sm (allP ps) fun A => if supp (fun k => decide (k ∈ A)) f ps.length then sgn (ps.length - A.length) else 0) = if nzF f ps.length then 1 else 0 := by
 rw [zew (zkr h8)]
 have key := zgn (fun _ => true) (fun k => decide (at0 f k = 0)) (fun _ => false) (fun p _ a b => if b = 0 then (if p = 0 then sgn a else 0) else 0)
  (fun p q a b => by
   by_cases z : b = 0
   ·rw [if_pos z, if_pos z, if_pos z, if_neg (show ¬ p + 1 = 0 by lia)]
    by_cases y : p = 0
    ·rw [if_pos y, if_pos y, zdc]; lia
    ·rw [if_neg y, if_neg y]; rfl
   ·rw [if_neg z, if_neg z, if_neg z]; rfl)
  (fun p q a b => by
   by_cases z : b = 0
   ·subst z; simp
   ·simp [z]) ps.length 0 0 0 0
 have e1 : ∀ A, dS (fun _ => true) ps.length A = 0 := fun A => by
  unfold dS
  rw [List.filter_eq_nil_iff.mpr fun k _ => by simp]
  rfl
 have e2 : (if nzF f ps.length then (1 : Int) else 0) = if nI (fun _ => true) (fun k => decide (at0 f k = 0)) ps.length = 0 then 1 else 0 := by
  have : nzF f ps.length = decide (nI (fun _ => true) (fun k => decide (at0 f k = 0)) ps.length = 0) := by
   unfold nI nzF
   rw [Bool.eq_iff_iff, decide_eq_true_iff, List.length_eq_zero_iff, List.filter_eq_nil_iff, List.all_eq_true]
   constructor
   ·intro h k hk
    have := h k hk
    simpa using this
   ·intro h k hk
    have := h k hk
    simpa using this
  rw [this]
  by_cases z : nI (fun _ => true) (fun k => decide (at0 f k = 0)) ps.length = 0
  ·rw [if_pos (decide_eq_true z), if_pos z]
  ·rw [if_neg (by rw [decide_eq_false z]; decide), if_neg z]
 have key2 : (sm (subs ps.length) fun A => if okS (fun _ => true) (fun k => decide (at0 f k = 0)) (fun _ => false) ps.length A then (if 0 + dS (fun _ => true) ps.length A = 0 then (if 0 = 0 then sgn (0 + cS (fun _ => true) ps.length A) else 0) else 0) else 0) = if 0 = 0 then (if 0 + nI (fun _ => true) (fun k => decide (at0 f k = 0)) ps.length = 0 then sgn 0 else 0) else 0 := key
 rw [e2]
 rw [if_pos rfl, Nat.zero_add] at key2
 rw [show sgn 0 = 1 from rfl] at key2
 rw [<- key2]
 refine zah fun A hA => ?_
 obtain ⟨kA, uA⟩ := subs_mem.mp hA
 have f1 : okS (fun _ => true) (fun k => decide (at0 f k = 0)) (fun _ => false) ps.length A = supp (fun k => decide (k ∈ A)) f ps.length := rfl
 have f2 : cS (fun _ => true) ps.length A = ps.length - A.length := by
  have fa : ((ups (ps.length : Int)).filter fun k => decide (k ∈ A)) = A := up_eq ((zcl _).filter _) uA fun k => by
   rw [List.mem_filter, mem_ups, decide_eq_true_iff]
   exact ⟨fun z => z.2, fun z => ⟨kA k z, z⟩⟩
  have sp := zje (fun k => decide (k ∈ A)) (ups (ps.length : Int))
  rw [fa, zbc] at sp
  unfold cS
  have : ((ups (ps.length : Int)).filter fun k => true && !decide (k ∈ A)) = (ups (ps.length : Int)).filter fun k => !decide (k ∈ A) := List.filter_congr fun k _ => Bool.true_and _
  rw [this]
  lia
 rw [f1, e1, if_pos rfl, if_pos rfl, f2, Nat.zero_add]
theorem zya {n q : Nat} {ps : List (Int × Int)} (n1 : 1 <= n) (n9 : n <= 9) (hq : 1 <= q) (hb : ∀ p ∈ ps, InN n p) (h8 : ps.length <= 8) : (sm (allT q ps.length) fun f => if (nzF f ps.length && flP n q ps f) then (1 : Int) else 0) = sm (allP ps) fun A => sgn (ps.length - A.length) * (q : Int) ^ ((A.length : Int) - rkP (n : Int) ps A).toNat := by
 have fz : ∀ f, flP n q ps f = zD n q fun v => 0 - ovS ps f v ps.length := fun f => by
  unfold flP zD
  rw [Bool.eq_iff_iff, List.all_eq_true, List.all_eq_true]
  have eq : ∀ a : Int, (a % (q : Int) = 0) ↔ ((0 - a) % (q : Int) = 0) := fun a => by
   constructor
   ·intro h
    obtain ⟨c, hc⟩ := Int.dvd_of_emod_eq_zero h
    exact Int.emod_eq_zero_of_dvd ⟨-c, by rw [Int.mul_neg]; lia⟩
   ·intro h
    obtain ⟨c, hc⟩ := Int.dvd_of_emod_eq_zero h
    exact Int.emod_eq_zero_of_dvd ⟨-c, by rw [Int.mul_neg]; lia⟩
  exact ⟨fun h v hv => decide_eq_true ((eq _).mp (of_decide_eq_true (h v hv))), fun h v hv => decide_eq_true ((eq _).mpr (of_decide_eq_true (h v hv)))⟩
 have e1 : (sm (allT q ps.length) fun f => if (nzF f ps.length && flP n q ps f) then (1 : Int) else 0) = sm (allT q ps.length) fun f => sm (allP ps) fun A => if (supp (fun k => decide (k ∈ A)) f ps.length && zD n q fun v => 0 - ovS ps f v ps.length) then sgn (ps.length - A.length) else 0 := zah fun f _ => by
  rw [<- fz f]
  cases h : flP n q ps f with
  | true =>
   rw [Bool.and_true, <- zEa h8 f]
   exact zah fun A _ => by rw [Bool.and_true]
  | false =>
   rw [Bool.and_false, if_neg (by decide)]
   exact (zds fun A _ => by rw [Bool.and_false]; rfl).symm
 rw [e1, zhd (fun (f : List Int) (A : List Int) => if (supp (fun k => decide (k ∈ A)) f ps.length && zD n q fun v => 0 - ovS ps f v ps.length) then sgn (ps.length - A.length) else 0)]
 refine zah fun A hA => ?_
 have kA := zcj h8 hA
 have uA := ((zbv h8).mp hA).2
 have fa : ((ups (ps.length : Int)).filter fun k => decide (k ∈ A)) = A := up_eq ((zcl _).filter _) uA fun k => by
  rw [List.mem_filter, mem_ups, decide_eq_true_iff]
  exact ⟨fun z => z.2, fun z => ⟨kA k z, z⟩⟩
 have e2 := zju (n := n) hq ps (fun k => decide (k ∈ A)) ps.length (fun _ => 0)
 rw [fa, zyc n1 n9 hq hb kA] at e2
 rw [<- e2, <- zer]
 refine zah fun f _ => ?_
 split
 ·rw [Int.mul_one]
 ·rw [Int.mul_zero]
theorem zyb {n q : Nat} {ps : List (Int × Int)} (ok : WebOk (n : Int) ps) (hq : 1 <= q) : sgn ((ps.length : Int) - rkAll (n : Int) ps).toNat * lin (trT (n : Int) ps (ups ps.length)) (xy 0 (1 - q)) = sm (allT q ps.length) fun f => if (nzF f ps.length && flP n q ps f) then (1 : Int) else 0 := by
 obtain ⟨⟨n1, n9⟩, hb, h8⟩ := id ok
 rw [zya (by lia) (by lia) hq hb h8, zgk ok (List.Perm.refl _), <- zer]
 have o := zbw n1 n9 hb
 refine zah fun A hA => ?_
 have kA := zcj h8 hA
 obtain ⟨_, up⟩ := (zbv h8).mp hA
 have lA : (A.length : Int) <= ps.length := zls (by lia) (up.imp fun h => by lia) kA
 have r1 := o.le kA
 have r2 := o.gain kA (fun _ z => nomatch z : Ks ps.length [])
 rw [List.nil_append, o.nil] at r2
 have r3 : rkP (n : Int) ps A <= rkAll (n : Int) ps := o.mono kA (zcf _) fun k hk => mem_ups.mpr (kA k hk)
 have r4 : rkAll (n : Int) ps <= (ups (ps.length : Int)).length := o.le (zcf _)
 rw [zbc] at r4
 have e1 : ((1 : Int) - q - 1) = -1 * (q : Int) := by lia
 have e2 : (0 : Int) - 1 = -1 := by decide
 have ea : (ps.length - A.length) + 2 * ((A.length : Int) - rkP (n : Int) ps A).toNat = ((ps.length : Int) - rkAll (n : Int) ps).toNat + (rkAll (n : Int) ps - rkP (n : Int) ps A).toNat + ((A.length : Int) - rkP (n : Int) ps A).toNat := by lia
 have es : sgn (ps.length - A.length) = sgn ((ps.length : Int) - rkAll (n : Int) ps).toNat * (-1) ^ (rkAll (n : Int) ps - rkP (n : Int) ps A).toNat * (-1) ^ ((A.length : Int) - rkP (n : Int) ps A).toNat := by
  have e3 : sgn ((ps.length - A.length) + 2 * ((A.length : Int) - rkP (n : Int) ps A).toNat) = sgn (ps.length - A.length) := by
   unfold sgn
   rw [Int.pow_add, Int.pow_mul, show ((-1 : Int) ^ 2) = 1 from rfl, Int.one_pow, Int.mul_one]
  rw [<- e3, ea]
  unfold sgn
  rw [Int.pow_add, Int.pow_add]
 rw [e1, e2, Int.mul_pow, es]
 generalize sgn ((ps.length : Int) - rkAll (n : Int) ps).toNat = s0
 generalize (-1 : Int) ^ (rkAll (n : Int) ps - rkP (n : Int) ps A).toNat = s1
 generalize (-1 : Int) ^ ((A.length : Int) - rkP (n : Int) ps A).toNat = s2
 generalize (q : Int) ^ ((A.length : Int) - rkP (n : Int) ps A).toNat = u2
 simp only [Int.mul_assoc, Int.mul_left_comm, Int.mul_comm]
def ev : List Int -> Int -> Int
 | [], _ => 0
 | a :: c, x => a + x * ev c x
theorem zzr : ∀ (c d : List Int) (x : Int), ev (c ++ d) x = ev c x + x ^ c.length * ev d x
 | [], d, x => by
  show ev d x = 0 + x ^ 0 * ev d x
  rw [Int.pow_zero, Int.one_mul, Int.zero_add]
 | a :: c, d, x => by
  show a + x * ev (c ++ d) x = a + x * ev c x + x ^ (c.length + 1) * ev d x
  rw [zzr c d x, Int.mul_add, Int.pow_succ, Int.mul_comm (x ^ c.length) x, Int.mul_assoc, Int.add_assoc]
theorem zqi (f : Nat -> Int) (x : Int) : ∀ m : Nat, ev ((List.range m).map f) x = ((List.range m).map fun i => f i * x ^ i).sum
 | 0 => rfl
 | m + 1 => by
  rw [List.range_succ, List.map_append, List.map_append, zzr, zqi f x m, List.sum_append, List.length_map, List.length_range]
  show _ + x ^ m * (f m + x * 0) = _ + (f m * x ^ m + 0)
  rw [Int.mul_zero, Int.add_zero, Int.add_zero, Int.mul_comm]
def NrmP (ps : List (Int × Int)) : Prop := ∀ p ∈ ps, p.1 <= p.2
def spRef : Sp := fun vs H Q _ => ∃ q l : Int, vs = [.int q, .int l] /\ l <= q /\ Q .non H
theorem zrq {H : Hp} {l : Addr} {ys zs : List V} {xs : List V} {ps : List (List Int)} (h : Paired (TupAt H) xs ps) (hl : H l = some (.lst ys)) : Paired (TupAt (upd H l (.lst zs))) xs ps := L2.Paired.mapP h fun _ _ ⟨a, h1, h2⟩ => ⟨a, h1, by
 rw [zas (ne_of h2 hl (fun z => nomatch z))]
 exact h2⟩
section
variable {P : Program} {w : World} {K : W.Frag} {mg : Str -> Option Value} {base : Heap}
theorem scRef : zan ["thing", "least"] ["thing", "least"] (zad sRef) := ⟨rfl, rfl, rfl, by decide +kernel, rfl, by decide +kernel, by decide +kernel⟩
theorem d_ref (S : Src K mg "refuse_less_than" sRef ["thing", "least"]) (DI : Def P w K mg base 1 "is_whole" ["thing"] zoi) : Def P w K mg base 2 "refuse_less_than" ["thing", "least"] spRef := by
 refine S.def scRef (fun vs H Q E h => ?_) (fun f cdv A outer s H vs Q E hr h => ?_)
 ·obtain ⟨_, _, rfl, _⟩ := h; rfl
 ·obtain ⟨q, l, rfl, hl, k⟩ := h
  refine ⟨_, zag (ps_if (PW.pt (pw_or (zfh (zet (zaj DI hr rfl (zaa (pv 0) zac)))) (zox (zcp op_lt (pv 0) (pv 1) (zch _))))) zlj zbz), ?_⟩
  refine ⟨_, rfl, q, rfl, _, rfl, iteF ⟨_, rfl, _, rfl, _, _, rfl, rfl, _, rfl, ?_⟩⟩
  rw [decide_eq_false (show ¬ q < l by lia)]
  exact iteF k
end
def zdb (L : List T3) : Prop := ∀ t ∈ L, 0 <= t.1 /\ t.1 <= 60 /\ t.2.1 = 0
def rowL (L : List T3) (m : Nat) : List Int := (List.range m).map fun i : Nat => coef L ((i : Int), 0)
def rowOf (L : List T3) : List Int := match L.getLast? with
 | none => []
 | some t => rowL L (t.1.toNat + 1)
theorem zgp (L : List T3) (m : Nat) : (rowL L m).length = m := by unfold rowL; simp
theorem zxb (k : Nat) : (List.replicate k [V.int 0]).flatten = (rowL [] k).map V.int := by
 rw [List.flatten_replicate_singleton]
 unfold rowL
 rw [List.map_map]
 refine List.ext_getElem? fun i => ?_
 by_cases h : i < k
 ·rw [List.getElem?_map, List.getElem?_range h, List.getElem?_replicate, if_pos h]
  rfl
 ·rw [List.getElem?_map, List.getElem?_replicate, if_neg h, List.getElem?_eq_none (by rw [List.length_range]; lia)]
  rfl
theorem zwd {rs : List V} {v : V} (h : 0 < rs.length) (e : rs[rs.length - 1]? = some v) : atI rs (-1) = some v := by
 have ne : rs ≠ [] := List.length_pos_iff.mp h
 have e2 : rs.getLast ne = v := by
  rw [List.getLast_eq_getElem]
  rw [List.getElem?_eq_getElem (by lia)] at e
  exact Option.some.inj e
 rw [<- List.dropLast_concat_getLast ne, e2]
 exact zqp _ _
theorem zrm : ∀ {L : List T3} {t u : T3}, L.Pairwise keyLt -> zdb L -> L.getLast? = some t -> u ∈ L -> u.1 <= t.1 := by
 intro L t u up rp e hu
 obtain ⟨M, rfl⟩ := List.getLast?_eq_some_iff.mp e
 rcases List.mem_append.mp hu with z | z
 ·have := (List.pairwise_append.mp up).2.2 u z t (List.mem_singleton.mpr rfl)
  unfold keyLt at this
  lia
 ·rw [List.mem_singleton.mp z]
  exact Int.le_refl _
theorem zAm {L : List T3} {m : Nat} {t : T3} (h0 : coef L (k3 t) = 0) (t0 : 0 <= t.1) (tm : t.1 < m) (tj : t.2.1 = 0) : ((rowL L m).map V.int).set t.1.toNat (.int t.2.2) = (rowL (L ++ [t]) m).map V.int := by
 refine List.ext_getElem? fun i => ?_
 rw [List.getElem?_set]
 unfold rowL
 rw [List.length_map, List.length_map, List.length_range]
 have ek : k3 t = (t.1, 0) := by unfold k3; rw [tj]
 have c1 : ∀ j : Nat, coef (L ++ [t]) ((j : Int), 0) = coef L ((j : Int), 0) + if t.1 = (j : Int) then t.2.2 else 0 := fun j => by
  rw [zfn, zba, show coef [] ((j : Int), 0) = 0 from rfl, Int.add_zero, ek]
  congr 1
  by_cases z : t.1 = (j : Int)
  ·rw [if_pos z, if_pos (by rw [z])]
  ·rw [if_neg z, if_neg (by rw [Prod.ext_iff]; dsimp only; lia)]
 by_cases z : t.1.toNat = i
 ·rw [if_pos z]
  have il : i < m := by lia
  have ei : t.1 = (i : Int) := by lia
  rw [if_pos (by lia)]
  simp only [List.getElem?_map, List.getElem?_range il, Option.map_some]
  rw [c1 i, if_pos ei, <- ei, <- ek, h0, Int.zero_add]
 ·rw [if_neg z]
  by_cases il : i < m
  ·simp only [List.getElem?_map, List.getElem?_range il, Option.map_some]
   rw [c1 i, if_neg (by lia), Int.add_zero]
  ·simp [il]
theorem zhh {L : List T3} (up : L.Pairwise keyLt) (rp : zdb L) (g : Nat -> Int) : (((List.range (rowOf L).length).map fun k => (rowOf L).getD k 0 * g k)).sum = lin L fun m => g m.1.toNat := by
 unfold rowOf
 cases e : L.getLast? with
 | none =>
  have : L = [] := List.getLast?_eq_none_iff.mp e
  rw [this]
  rfl
 | some t =>
  dsimp only
  rw [zgp]
  have nd : ((List.range (t.1.toNat + 1)).map fun i : Nat => ((i : Int), (0 : Int))).Nodup := List.pairwise_map.mpr (List.nodup_range.imp fun h e => h (by have := congrArg Prod.fst e; exact Int.ofNat.inj this))
  have key := zgv (fun m => g m.1.toNat) _ nd L fun u hu => by
   obtain ⟨u0, _, uj⟩ := rp u hu
   have ul := zrm up rp e hu
   refine List.mem_map.mpr ⟨u.1.toNat, List.mem_range.mpr (by lia), ?_⟩
   unfold k3
   rw [uj, show ((u.1.toNat : Nat) : Int) = u.1 by lia]
  rw [key, List.map_map]
  congr 1
  refine List.map_congr_left fun i hi => ?_
  have il := List.mem_range.mp hi
  show _ = coef L ((i : Int), 0) * g ((i : Int)).toNat
  rw [Int.toNat_natCast]
  congr 1
  unfold rowL
  rw [List.getD_eq_getElem?_getD, List.getElem?_map, List.getElem?_range il]
  rfl
def znb : Sp := fun vs H Q _ => ∃ (v : V) (L : List T3), vs = [v] /\ PolyAt H v L /\ L.Pairwise keyLt /\ zdb L /\ ∀ l H', Same H H' -> H' l = some (.lst ((rowOf L).map V.int)) -> Q (.ref l) H'
section
variable {P : Program} {w : World} {K : W.Frag} {mg : Str -> Option Value} {base : Heap}
theorem scRowOf : zan ["poly", "row", "i", "j", "times"] ["poly"] (zad zim) := ⟨rfl, rfl, rfl, by decide +kernel, rfl, by decide +kernel, by decide +kernel⟩
theorem zCa (S : Src K mg "row_of" zim ["poly"]) : Def P w K mg base 1 "row_of" ["poly"] znb := by
 refine S.def scRowOf (fun vs H Q E h => ?_) (fun f cdv A outer s H vs Q E hr h => ?_)
 ·obtain ⟨_, _, rfl, _⟩ := h; rfl
 ·obtain ⟨v, L, rfl, pa, up, rp, q⟩ := h
  obtain ⟨c, rs, rfl, hc, ht⟩ := pa.ex
  have rl : rs.length = L.length := Paired.length ht
  refine ⟨_, zae (ps_if (zfh (zgs (pv 0) (fun _ => rfl))) (zag (zaw (zbu zac))) zbz)
   (zae (zap (i := 1) scRowOf.nd rfl (Or.inl rfl) (pe_op zzb (zbu (zaa zaf zac)) (pe_op zdu (pe_ix (zav K) (pe_ix (zav K) (pv 0) (pe_un zdo zaf) (fun _ _ => rfl)) zaf (fun _ _ => rfl)) zaf)))
   (zae (zcb PassesOwn.never rfl (zbi K .t (pv 0)) (zcd K 3 rfl (zaq (zak (i := 2) scRowOf.nd rfl (Or.inl rfl)) (zaq (zak (i := 3) scRowOf.nd rfl (Or.inl rfl)) (zaq (zak (i := 4) scRowOf.nd rfl (Or.inl rfl)) zcc))))
    (zag (zpa (pv 4) (zto (pv 1) (pv 2) zjt))))
   (zag (zaw (pv 1))))), ?_⟩
  refine ⟨_, rfl, !rs.isEmpty, .inr (.inl ⟨rs, SqT.of hc, rfl⟩), ?_⟩
  cases hrs : rs.isEmpty with
  | true =>
   have e0 : rs = [] := List.isEmpty_iff.mp hrs
   have e1 : L = [] := by
    rw [e0] at rl
    exact List.eq_nil_of_length_eq_zero rl.symm
   refine iteT ⟨by show 0 <= sizeLine; decide, fun l hl => ?_⟩
   refine q l _ (Same.new hl) ?_
   rw [zab, e1]
   rfl
  | false =>
   refine iteF ?_
   have ne : rs ≠ [] := fun z => by rw [z] at hrs; cases hrs
   have rp0 : 0 < rs.length := List.length_pos_iff.mpr ne
   obtain ⟨t, et, b, eb, hb⟩ := Paired.at ht (show rs[rs.length - 1]? = some rs[rs.length - 1] by simp [rp0])
   have hat : atI rs (-1) = some (.ref b) := zwd rp0 (by rw [List.getElem?_eq_getElem (by lia), eb])
   have gl : L.getLast? = some t := by rw [List.getLast?_eq_getElem?, <- rl]; exact et
   have tin := List.mem_of_getElem? et
   obtain ⟨t0, t60, _⟩ := rp t tin
   have i0 : atI ([.int t.1, .int t.2.1, .int t.2.2] : List V) 0 = some (.int t.1) := zar (j := 0) rfl
   refine ⟨by show 1 <= sizeLine; decide, fun z hz => ?_⟩
   have s1 := Same.new (o := HO.lst [.int 0]) hz
   have hz1 : (upd H z (.lst [.int 0])) z = some (.lst [.int 0]) := zab
   generalize upd H z (.lst [.int 0]) = H1 at s1 hz1 ⊢
   have e63 : t.1 + 1 < 2 ^ 63 := by lia
   refine ⟨_, rfl, _, rfl, c, _, _, _, rfl, rfl, SqT.of (s1 _ _ hc), hat, b, _, _, _, rfl, rfl, SqT.of (s1 _ _ hb), i0, _, _, rfl, rfl, z, t.1 + 1, [.int 0], rfl, rfl, hz1, by lia, e63, ?_, fun p hp => ?_⟩
   ·show 1 * (t.1 + 1).toNat <= sizeLine
    exact Nat.le_of_lt (zdz (by lia))
   rw [zxb, show (t.1 + 1).toNat = t.1.toNat + 1 by lia]
   have pN : H p = none := by
    cases e : H p with
    | none => rfl
    | some o => rw [s1 _ _ e] at hp; cases hp
   have s2 := s1.trans (Same.new (o := HO.lst ((rowL [] (t.1.toNat + 1)).map V.int)) hp)
   have hp2 : (upd H1 p (.lst ((rowL [] (t.1.toNat + 1)).map V.int))) p = some (.lst ((rowL [] (t.1.toNat + 1)).map V.int)) := zab
   generalize upd H1 p (.lst ((rowL [] (t.1.toNat + 1)).map V.int)) = H2 at s2 hp2 ⊢
   refine ⟨_, rfl, c, rfl, ⟨_, SqT.of (s2 _ _ hc)⟩, zcq (k := .t) (K := K) (a := c) (xs := rs) (fun i σ H' => (∃ u v r, σ = [some (.ref c), some (.ref p), u, v, r]) /\ Same H H' /\ H' p = some (.lst ((rowL (L.take i) (t.1.toNat + 1)).map V.int))) ⟨⟨_, _, _, rfl⟩, s2, hp2⟩ (fun i σ H' _ z => SqT.of (z.2.1 _ _ hc)) ?_ ?_⟩
   ·rintro i x σ H3 hx ⟨⟨u, v, r, rfl⟩, sm, hp3⟩
    obtain ⟨y, ey, by_, rfl, hy⟩ := Paired.at ht hx
    have yin := List.mem_of_getElem? ey
    obtain ⟨y0, _, yj⟩ := rp y yin
    have yl := zrm up rp gl yin
    refine ⟨by_, _, rfl, SqT.of (sm _ _ hy), rfl, _, _, rfl, _, _, rfl, _, _, rfl, rfl, ?_⟩
    dsimp only [List.set]
    refine ⟨_, rfl, _, rfl, _, rfl, p, _, y.1, y.1.toNat, rfl, rfl, hp3, ?_, ⟨_, _, _, rfl⟩, zcm sm pN, ?_⟩
    ·unfold ixN
     rw [if_pos y0, List.length_map, zgp, if_pos (by lia)]
    ·rw [zab, zai ey, zAm ?_ y0 (by lia) yj]
     refine zbo fun x hx e => ?_
     have sp : L = L.take i ++ y :: L.drop (i + 1) := by
      have il := (List.getElem?_eq_some_iff.mp ey)
      obtain ⟨h1, h2⟩ := il
      rw [<- h2, List.getElem_cons_drop, List.take_append_drop]
     have up2 := up
     rw [sp] at up2
     have := (List.pairwise_append.mp up2).2.2 x hx y List.mem_cons_self
     have e1 : (k3 x).1 = (k3 y).1 := by rw [e]
     have e2 : (k3 x).2 = (k3 y).2 := by rw [e]
     replace e1 : x.1 = y.1 := e1
     replace e2 : x.2.1 = y.2.1 := e2
     unfold keyLt at this
     lia
   ·rintro σ H3 ⟨⟨u, v, r, rfl⟩, sm, hp3⟩
    rw [rl, List.take_length] at hp3
    refine ⟨_, rfl, q p H3 sm ?_⟩
    unfold rowOf
    rw [gl]
    exact hp3
end
theorem zvp {k : Kd} {K : W.Frag} {a : Addr} {xs : List V} {g : TG} {tt : TT} {te : TE} {fin : List V -> Hp -> Prop} {σ : St} {H : Hp} (S : St -> Prop) (Pv : Nat -> List V -> Hp -> Prop) (hσ : S σ) (h0 : Pv 0 [] H) (hz : xs.length < sizeLine)
  (hl : ∀ i ys H, i <= xs.length -> Pv i ys H -> SqK k K H a xs)
  (hs : ∀ (i : Nat) (x : V) (p : Addr) (ys : List V) (σ : St) (H : Hp) (N : List V -> St -> Hp -> Prop), xs[i]? = some x -> S σ -> Pv i ys H -> H p = none -> (∀ ys' σ' H', S σ' -> Pv (i + 1) ys' H' -> ys'.length <= ys.length + 1 -> N ys' σ' H') ->
   g (.ref p) σ (upd H p (.tup [.int i, x])) fun σ2 H2 => tt σ2 H2 fun b H3 => if b = true then te σ2 H3 fun y H4 => N (ys ++ [y]) σ2 H4 else N ys σ2 H3)
  (hd : ∀ ys H, Pv xs.length ys H -> fin ys H) : ∃ W, CompW (ItE k K a) g tt te fin W /\ ∃ m, W 0 m [] σ H := by
 refine ⟨fun i m ys σ H => m = xs.length - i /\ i <= xs.length /\ ys.length <= i /\ S σ /\ Pv i ys H, ?_, xs.length, by simp, Nat.zero_le _, Nat.le_refl _, hσ, h0⟩
 rintro i m ys σ H ⟨rfl, hi, hy, hS, p⟩
 have q := hl i ys H hi p
 by_cases hlt : i < xs.length
 ·refine .inr ⟨⟨xs, xs[i], q, by simp [hlt]⟩, by lia, fun x H' y => ?_⟩
  obtain ⟨r, x, hn, rfl, hx2, rfl⟩ := y
  exact hs i x r ys σ H (fun ys' σ' H'' => ∃ m', m' < xs.length - i /\ m' = xs.length - (i + 1) /\ i + 1 <= xs.length /\ ys'.length <= i + 1 /\ S σ' /\ Pv (i + 1) ys' H'') (hx2 xs q) hS p hn (fun ys' σ' H'' a b c => ⟨_, by lia, rfl, hlt, by lia, a, b⟩)
 ·have e : i = xs.length := by lia
  subst e
  exact .inl ⟨⟨xs, q, Nat.le_refl _⟩, by lia, hd ys H p⟩
def rowW (row : List Int) (q : Int) (m : Nat) : List Int := (List.range m).map fun k => row.getD k 0 * q ^ k
def zsb : Sp := fun vs H Q _ => ∃ (l : Addr) (row : List Int) (q : Int), vs = [.ref l, .int q] /\ H l = some (.lst (row.map V.int)) /\ row.length <= 61 /\ (∀ x ∈ row, intBits x <= 256) /\ intBits q <= 256 /\ ∀ H', Same H H' -> Q (.int (rowW row q row.length).sum) H'
section
variable {P : Program} {w : World} {K : W.Frag} {mg : Str -> Option Value} {base : Heap}
theorem zDi : zan ["row", "q"] ["row", "q"] (zad sWRow) := ⟨rfl, rfl, rfl, by decide +kernel, rfl, by decide +kernel, by decide +kernel⟩
theorem ndktq : (["k", "times", "q"] : List Str).Nodup := by decide +kernel
theorem zEn (hsum : mg "sum" = none) (henum : mg "enumerate" = none) (S : Src K mg "worth_of_row" sWRow ["row", "q"]) (DN : Def P w K mg base 1 "number_to_power" ["number", "k"] zok) : Def P w K mg base 2 "worth_of_row" ["row", "q"] zsb := by
 refine S.def zDi (fun vs H Q E h => ?_) (fun f cdv A outer s H vs Q E hr h => ?_)
 ·obtain ⟨_, _, _, rfl, _⟩ := h; rfl
 ·obtain ⟨l, row, q, rfl, hl, rl, rb, qb, k⟩ := h
  refine ⟨_, zag (zaw (zaz (zvv rfl) (by rfl) hsum zvz (zaa (zci (N' := ["k", "times", "q"]) (fr := [none, none, some 1]) (zbn (by rfl)) rfl (zpe K .l rfl henum (zaa (pv 0) zac))
   (g := gTup K 2 (gCons (gName 0) (gCons (gName 1) gNil))) (fun _ _ _ _ => zcd K 2 rfl (zaq (zak (i := 0) ndktq rfl (Or.inl rfl) (Or.inr rfl)) (zaq (zak (i := 1) ndktq rfl (Or.inl rfl) (Or.inr rfl)) zcc)))
   (fun _ _ _ _ => zck) (fun _ _ _ _ => pe_op zhn (pv 1) (zaj DN hr rfl (zaa (pv 2) (zaa (pv 0) zac))))) zac))), ?_⟩
  refine ⟨_, rfl, l, _, rfl, SqL.of hl, zvp (k := .l) (K := K) (a := l) (xs := row.map V.int) (fun σ => ∃ u v, σ = [u, v, some (.int q)]) (fun j ys H' => Same H H' /\ ys = (rowW row q j).map V.int) ⟨_, _, rfl⟩ ⟨Same.refl _, rfl⟩ (zdz (by rw [List.length_map]; lia)) (fun j ys H' _ z => SqL.of (z.1 _ _ hl)) ?_ ?_⟩
  ·rintro i x p ys σ H' N hx ⟨u, v, rfl⟩ ⟨sm, rfl⟩ hp hN
   obtain ⟨t, et, rfl⟩ := zdj hx
   have il := (List.getElem?_eq_some_iff.mp et).1
   have sp := Same.new (o := HO.tup [.int (i : Int), .int t]) hp
   refine ⟨p, _, rfl, SqT.of zab, rfl, _, _, rfl, _, _, rfl, rfl, ?_⟩
   dsimp only [gName, List.set]
   refine yesT ⟨_, rfl, _, rfl, _, rfl, q, (i : Int), rfl, by lia, by lia, qb, _, _, rfl, rfl, ?_, ?_⟩
   ·rw [Int.toNat_natCast]
    exact mul2 (rb t (List.mem_of_getElem? et)) qb (by lia)
   ·refine hN _ _ _ ⟨_, _, rfl⟩ ⟨sm.trans sp, ?_⟩ (by simp)
    unfold rowW
    rw [List.range_succ, List.map_append, List.map_append, Int.toNat_natCast]
    show _ = _ ++ [V.int (row.getD i 0 * q ^ i)]
    rw [List.getD_eq_getElem?_getD, et]
    rfl
  ·rintro ys H' ⟨sm, rfl⟩ p hp
   rw [List.length_map]
   exact ⟨p, _, rfl, SqL.of zab, k _ (sm.trans (Same.new hp))⟩
end
def oneL : List T3 := [(0, 0, 1), (1, 0, -1)]
theorem deg_o : Deg (1 : Nat) oneL := fun t ht => by
 unfold oneL at ht
 rcases List.mem_cons.mp ht with rfl | ht
 ·decide
 ·rw [List.mem_singleton.mp ht]; decide
theorem ztk : ∀ (a : Nat), ∀ t ∈ pwL oneL a, t.2.1 = 0
 | 0, t, h => by rw [List.mem_singleton.mp h]
 | a + 1, t, h => by
  have h : t ∈ (pwL oneL a).flatMap fun t => oneL.map (mulT t) := h
  obtain ⟨u, hu, h2⟩ := List.mem_flatMap.mp h
  obtain ⟨v, hv, rfl⟩ := List.mem_map.mp h2
  have e := ztk a u hu
  unfold mulT
  dsimp only
  rw [e]
  unfold oneL at hv
  rcases List.mem_cons.mp hv with rfl | hv
  ·rfl
  ·rw [List.mem_singleton.mp hv]; rfl
theorem zxr (x : Int) : lin oneL (xy x 1) = 1 - x := by
 unfold oneL lin xy k3
 simp
 rw [show x ^ 1 = x by rw [Int.pow_succ, Int.pow_zero, Int.one_mul]]
 lia
theorem zCk {n : Int} {ps : List (Int × Int)} (ok : WebOk n ps) (q : Nat) : sgn (rkAll n ps).toNat * (q : Int) ^ (n - rkAll n ps).toNat * lin (trT n ps (ups ps.length)) (xy (1 - q) 0) = sm (allT q n.toNat) fun f => if propF ps f then 1 else 0 := by
 rw [zAb ok q, zgk ok (List.Perm.refl _), <- zer]
 obtain ⟨⟨n1, n9⟩, hb, h8⟩ := id ok
 have o := zbw n1 n9 hb
 refine zah fun A hA => ?_
 have kA := zcj h8 hA
 have r1 := o.le kA
 have r2 := o.gain kA (fun _ z => nomatch z : Ks ps.length [])
 rw [List.nil_append, o.nil] at r2
 have r3 : rkP n ps A <= rkAll n ps := o.mono kA (zcf _) fun k hk => mem_ups.mpr (kA k hk)
 have r4 : rkAll n ps <= n := by
  have := zqn n1 n9 hb (zcf ps.length)
  have e : rkAll n ps = n - cN n ps (ups ps.length) := rfl
  have p : 0 <= cN n ps (ups ps.length) := Int.natCast_nonneg _
  lia
 have e1 : ((1 : Int) - q - 1) = -1 * (q : Int) := by lia
 have e2 : (0 : Int) - 1 = -1 := by decide
 have ea : A.length + 2 * (rkAll n ps - rkP n ps A).toNat = (rkAll n ps).toNat + (rkAll n ps - rkP n ps A).toNat + ((A.length : Int) - rkP n ps A).toNat := by lia
 have eb : (n - rkP n ps A).toNat = (n - rkAll n ps).toNat + (rkAll n ps - rkP n ps A).toNat := by lia
 rw [e1, e2, Int.mul_pow, eb, Int.pow_add]
 have es : sgn A.length = sgn (rkAll n ps).toNat * (-1) ^ (rkAll n ps - rkP n ps A).toNat * (-1) ^ ((A.length : Int) - rkP n ps A).toNat := by
  have e3 : sgn (A.length + 2 * (rkAll n ps - rkP n ps A).toNat) = sgn A.length := by
   unfold sgn
   rw [Int.pow_add, Int.pow_mul, show ((-1 : Int) ^ 2) = 1 from rfl, Int.one_pow, Int.mul_one]
  rw [<- e3, ea]
  unfold sgn
  rw [Int.pow_add, Int.pow_add]
 rw [es]
 generalize sgn (rkAll n ps).toNat = s0
 generalize (-1 : Int) ^ (rkAll n ps - rkP n ps A).toNat = s1
 generalize (-1 : Int) ^ ((A.length : Int) - rkP n ps A).toNat = s2
 generalize (q : Int) ^ (n - rkAll n ps).toNat = u1
 generalize (q : Int) ^ (rkAll n ps - rkP n ps A).toNat = u2
 simp only [Int.mul_assoc, Int.mul_left_comm, Int.mul_comm]
def hX (x : Int) (m : Int × Int) : Int := if m.2 = 0 then (1 - x) ^ m.1.toNat else 0
def zsk (K : W.Frag) : Sp := fun vs H Q _ => ∃ (wv : V) (n : Int) (ps : List (Int × Int)), vs = [wv] /\ WebAt H wv n ps /\ WebOk n ps /\
 ∀ l L H', Same H H' -> L.Pairwise keyLt -> zdb L -> (∀ t ∈ L, t.2.2 ≠ 0) -> (∀ t ∈ L, intBits t.2.2 <= 256) -> (∀ x : Int, lin L (xy x 1) = sgn (rkAll n ps).toNat * x ^ (n - rkAll n ps).toNat * lin (trT n ps (ups ps.length)) (xy (1 - x) 0)) -> H' l = some (.lst ((rowOf L).map V.int)) -> Q (.ref l) H'
theorem zru {n : Int} {ps : List (Int × Int)} (ok : WebOk n ps) (ord : List Int) : Deg ((8 : Nat) : Int) (trT n ps ord) := by
 intro u hu
 obtain ⟨t, ht, rfl⟩ := List.mem_map.mp hu
 have TR := zed ok ht
 have h8 := ok.2.2
 have l1 : (t.length : Int) <= ps.length := zls (by lia) (TR.up.imp fun h => by lia) TR.ks
 have l2 : (linP n ps t ord).length <= t.length := List.length_filter_le _ _
 have l3 : (loutP n ps t ord).length <= (ups (ps.length : Int)).length := List.length_filter_le _ _
 rw [zbc] at l3
 exact ⟨⟨by show (0 : Int) <= ((linP n ps t ord).length : Int); lia, by show ((linP n ps t ord).length : Int) <= _; lia⟩, by show (0 : Int) <= ((loutP n ps t ord).length : Int); lia, by show ((loutP n ps t ord).length : Int) <= _; lia⟩
theorem zrt {n : Int} {ps : List (Int × Int)} (ord : List Int) : ∀ l : List (List Int), nrm (l.map fun t => ((((linP n ps t ord).length : Int), ((loutP n ps t ord).length : Int), 1) : T3)) = l.length
 | [] => rfl
 | a :: l => by
  rw [List.map_cons, zcr, zrt ord l, List.length_cons]
  show 1 + l.length = l.length + 1
  lia
theorem zzi {L : List T3} (h : ∀ t ∈ L, 0 <= t.2.1) (x : Int) : lin L (hX x) = lin L (xy (1 - x) 0) := by
 unfold lin
 congr 1
 refine List.map_congr_left fun t ht => ?_
 have t0 := h t ht
 unfold hX xy k3
 dsimp only
 by_cases z : t.2.1 = 0
 ·rw [if_pos z, z]
  show _ = t.2.2 * ((1 - x) ^ t.1.toNat * (0 : Int) ^ 0)
  rw [Int.pow_zero, Int.mul_one]
 ·rw [if_neg z]
  obtain ⟨j, hj⟩ : ∃ j, t.2.1.toNat = j + 1 := ⟨t.2.1.toNat - 1, by lia⟩
  rw [hj, Int.pow_succ]
  simp
theorem td_o : TD ((1 : Nat) : Int) oneL := fun t ht => by
 unfold oneL at ht
 rcases List.mem_cons.mp ht with rfl | ht
 ·decide
 ·rw [List.mem_singleton.mp ht]; decide
theorem zrs {n : Int} {ps : List (Int × Int)} (ok : WebOk n ps) : rkAll n ps <= 8 := by
 obtain ⟨⟨n1, n9⟩, hb, h8⟩ := id ok
 have o := zbw n1 n9 hb
 have r4 : rkAll n ps <= (ups (ps.length : Int)).length := o.le (zcf _)
 rw [zbc] at r4
 omega
theorem tr_x {n : Int} {ps : List (Int × Int)} (ok : WebOk n ps) {L : List T3} (pi : PolyIs (trT n ps (ups ps.length)) L) : ∀ t ∈ L, t.1 <= rkAll n ps := by
 intro u hu
 obtain ⟨h1, h2⟩ := (pi.mem u).mp hu
 obtain ⟨v, hv, e⟩ : ∃ v ∈ trT n ps (ups ps.length), k3 v = k3 u := by
  refine Classical.byContradiction fun z => h1 ?_
  rw [h2]
  exact zbo fun u hu e => z ⟨u, hu, e⟩
 have e1 : v.1 = u.1 := congrArg (fun k : Int × Int => k.1) e
 obtain ⟨t, ht, rfl⟩ := List.mem_map.mp hv
 have TR := zed ok ht
 have l2 : (linP n ps t (ups ps.length)).length <= t.length := List.length_filter_le _ _
 have sz := zdp ht
 rw [<- e1]
 show ((linP n ps t (ups ps.length)).length : Int) <= rkAll n ps
 omega
section
variable {P : Program} {w : World} {K : W.Frag} {mg : Str -> Option Value} {base : Heap}
theorem zhe : ∀ b : Nat, (sgn b).natAbs = 1
 | 0 => rfl
 | b + 1 => by rw [zdc, Int.natAbs_neg, zhe b]
theorem zpx {ts L : List T3} (pi : PolyIs ts L) {u : T3} (hu : u ∈ L) : ∃ v ∈ ts, v.1 = u.1 /\ v.2.1 = u.2.1 := by
 obtain ⟨h1, h2⟩ := (pi.mem u).mp hu
 by_cases c : ∃ v ∈ ts, k3 v = k3 u
 ·obtain ⟨v, hv, e⟩ := c
  have e1 : (k3 v).1 = (k3 u).1 := by rw [e]
  have e2 : (k3 v).2 = (k3 u).2 := by rw [e]
  exact ⟨v, hv, e1, e2⟩
 ·exact absurd (h2.trans (zbo fun v hv e => c ⟨v, hv, e⟩)) h1
def spOL (K : W.Frag) : Sp := fun vs H Q _ => ∃ (v : V) (Lp : List T3) (D : Int), vs = [v] /\ PolyAt H v Lp /\ Deg ((8 : Nat) : Int) Lp /\ Lp.length <= 81 /\ nrm Lp <= 300 /\ (∀ t ∈ Lp, t.1 <= D) /\ D <= 8 /\
 ∀ x Lg H', Same H H' -> (∀ u ∈ Lg, 0 <= u.1 /\ u.1 <= D /\ u.2.1 = 0) -> nrm Lg <= 76800 -> Lg.length < 100000 -> (∀ q : Int, lin Lg (xy q 1) = lin Lp (hX q)) -> PolyAt H' x Lg -> Q x H'
theorem scOL : zan ["poly", "one_less_q", "terms", "i", "j", "times"] ["poly"] (zad sOL) := ⟨rfl, rfl, rfl, by decide +kernel, rfl, by decide +kernel, by decide +kernel⟩
theorem d_ol (S : Src K mg "with_one_less_q" sOL ["poly"]) (DP : Def P w K mg base 2 "product_of" ["one", "other"] (zij K)) (DT : Def P w K mg base 3 "to_power" ["poly", "k"] (spPow K)) (DG : Def P w K mg base 1 "gathered" ["terms"] (zle K)) : Def P w K mg base 4 "with_one_less_q" ["poly"] (spOL K) := by
 refine S.def scOL (fun vs H Q E h => ?_) (fun f cdv A outer s H1 vs Q E hr h => ?_)
 ·obtain ⟨_, _, _, rfl, _⟩ := h; rfl
 ·obtain ⟨v, Lp, Dg, rfl, pa1, dP, lP, nP, hD, D8, q⟩ := h
  have hr1 : Room 1 _ := hr.mono (by decide)
  have hr2 : Room 2 _ := hr.mono (by decide)
  refine ⟨_, (zae (zap (i := 1) scOL.nd rfl (Or.inl rfl) (zbj (zaa (zbj (zaa zaf (zaa zaf (zaa zaf zac)))) (zaa (zbj (zaa zaf (zaa zaf (zaa (pe_un zdo zaf) zac)))) zac))))
   (zae (zap (i := 2) scOL.nd rfl (Or.inl rfl) (zbu zac))
   (zae (zcb PassesOwn.never rfl (zbi K .t (pv 0)) (zcd K 3 rfl (zaq (zak (i := 3) scOL.nd rfl (Or.inl rfl)) (zaq (zak (i := 4) scOL.nd rfl (Or.inl rfl)) (zaq (zak (i := 5) scOL.nd rfl (Or.inl rfl)) zcc))))
    (zag (ps_if (zcp op_eq (pv 4) zaf (zch _)) (zag (zcx (pe_bm PySem.F.plainAttrs_list PySem.F.slot_list_extend PySem.F.type_list_extend zqz (pv 2) (zaa (zaj DP hr2 rfl (zaa (zbj (zaa (zbj (zaa zaf (zaa zaf (zaa (pv 5) zac)))) zac)) (zaa (zaj DT hr rfl (zaa (pv 1) (zaa (pv 3) zac))) zac))) zac)))) zbz)))
   (zag (zaw (zaj DG hr1 rfl (zaa (pv 2) zac))))))), ?_⟩
  refine zbg fun M hM => ?_
  refine ⟨by show 3 <= sizeLine; decide, fun a1 ha1 => ⟨_, rfl, by show 3 <= sizeLine; decide, fun a2 ha2 => ⟨by show 2 <= sizeLine; decide, fun xo hxo => ?_⟩⟩⟩
  replace hxo : upd (upd H1 a1 (.tup [.int 0, .int 0, .int 1])) a2 (.tup [.int 1, .int 0, .int (-1)]) xo = none := hxo
  have u1 := Same.new (o := HO.tup [.int 0, .int 0, .int 1]) ha1
  have u2 := Same.new (o := HO.tup [.int 1, .int 0, .int (-1)]) ha2
  have u3 := Same.new (o := HO.tup [.ref a1, .ref a2]) hxo
  have s2 := u1.trans (u2.trans u3)
  have px : PolyAt (upd (upd (upd H1 a1 (.tup [.int 0, .int 0, .int 1])) a2 (.tup [.int 1, .int 0, .int (-1)])) xo (.tup [.ref a1, .ref a2])) (.ref xo) oneL := ⟨xo, _, rfl, zab, .cons ⟨a1, rfl, (u2.trans u3) _ _ zab⟩ (.cons ⟨a2, rfl, u3 _ _ zab⟩ .nil)⟩
  clear u1 u2 u3
  generalize upd (upd (upd H1 a1 (.tup [.int 0, .int 0, .int 1])) a2 (.tup [.int 1, .int 0, .int (-1)])) xo (.tup [.ref a1, .ref a2]) = H2 at px s2 ⊢
  refine hM _ _ ?_
  clear hM M
  refine zbg fun M hM => ?_
  refine ⟨by show 0 <= sizeLine; decide, fun l hlN => ?_⟩
  have s3 := Same.new (o := HO.lst []) hlN
  have hl3 : (upd H2 l (.lst [])) l = some (.lst []) := zab
  generalize upd H2 l (.lst []) = H3 at s3 hl3 ⊢
  refine hM _ _ ?_
  clear hM M
  have pa4 := pa1.same (s2.trans s3)
  obtain ⟨cp, rsp, rfl, hcp, htp⟩ := pa4.ex
  have rlp : rsp.length = Lp.length := Paired.length htp
  have cpl : cp ≠ l := fun e => by
   rw [e, hl3] at hcp
   cases hcp
  have no : nrm oneL <= 2 ^ 400 := Nat.le_trans (show 2 <= 2 ^ 1 by decide) (Nat.pow_le_pow_right (by decide) (by decide))
  refine zbg fun M hM => ?_
  refine ⟨_, rfl, cp, rfl, ⟨_, SqT.of hcp⟩, zcq (k := .t) (K := K) (a := cp) (xs := rsp) (fun i σ H' => (∃ c4 c5 c6, σ = [some (.ref cp), some (.ref xo), some (.ref l), c4, c5, c6]) /\ Same H2 H' /\ H' cp = some (.tup rsp) /\ Paired (TermAt H') rsp Lp /\ ∃ zs ts, H' l = some (.lst zs) /\ Paired (TermAt H') zs ts /\ ts.length <= 81 * i /\ (∀ t ∈ ts, 0 <= t.1 /\ t.1 <= Dg /\ t.2.1 = 0) /\ nrm ts <= 256 * nrm (Lp.take i) /\ ∀ x : Int, lin ts (xy x 1) = lin (Lp.take i) (hX x))
   ⟨⟨_, _, _, rfl⟩, s3, hcp, htp, [], [], hl3, .nil, Nat.zero_le _, (fun _ z => nomatch z), Nat.zero_le _, fun _ => rfl⟩ (fun i σ H' _ z => SqT.of z.2.2.1) ?_ ?_⟩
  ·rintro i x σ H5 hx ⟨⟨c4, c5, c6, rfl⟩, sm, hcp5, htp5, zs, ts, hz, pz, tl, td, tn, tx⟩
   have il : i < rsp.length := (List.getElem?_eq_some_iff.mp hx).1
   obtain ⟨t, et, b, rfl, hb5⟩ := Paired.at htp5 hx
   have tin := List.mem_of_getElem? et
   obtain ⟨⟨t0, t8⟩, j0, j8⟩ := dP t tin
   have tD := hD t tin
   have tb := zdh tin
   have nt : nrm (Lp.take (i + 1)) = nrm (Lp.take i) + t.2.2.natAbs := by
    rw [zai et, zni]
    rfl
   refine ⟨b, _, rfl, SqT.of hb5, rfl, _, _, rfl, _, _, rfl, _, _, rfl, rfl, ?_⟩
   dsimp only [List.set]
   refine ⟨_, rfl, rfl, _, rfl, ?_⟩
   rw [dec_int]
   refine ite2 (fun z => ?_) (fun z => ?_)
   ·have zj := of_decide_eq_true z
    refine ⟨_, rfl, .inl ⟨rfl, _, SqL.of hz⟩, _, rfl, by show 3 <= sizeLine; decide, fun e1 he1 => ⟨by show 1 <= sizeLine; decide, fun e2 he2 => ?_⟩⟩
    have w1 := Same.new (o := HO.tup [.int 0, .int 0, .int t.2.2]) he1
    have w2 := Same.new (o := HO.tup [.ref e1]) he2
    have pe : PolyAt (upd (upd H5 e1 (.tup [.int 0, .int 0, .int t.2.2])) e2 (.tup [.ref e1])) (.ref e2) [(0, 0, t.2.2)] := ⟨e2, _, rfl, zab, .cons ⟨e1, rfl, w2 _ _ zab⟩ .nil⟩
    have s6 := w1.trans w2
    clear w1 w2
    generalize upd (upd H5 e1 (.tup [.int 0, .int 0, .int t.2.2])) e2 (.tup [.ref e1]) = H6 at pe s6 ⊢
    refine ⟨_, rfl, _, rfl, .ref xo, oneL, t.1, 1, rfl, (px.same (sm.trans s6)).K, t0, by omega, deg_o, fun j hj => ?_, (by show 2 < 100000; decide), td_o, (fun j hj => by omega), no, fun x1 L1 G1 r1 pi1 px1 => ?_⟩
    ·have : (1 * j + 1) * (1 * j + 1) <= 9 * 9 := Nat.mul_le_mul (by omega) (by omega)
     show (1 * j + 1) * (1 * j + 1) * 2 < 100000
     omega
    have d1 := pi1.deg (zhv deg_o t.1.toNat)
    have l1 : L1.length <= 81 := Nat.le_trans (zdl pi1.up d1) (Nat.mul_le_mul (show _ <= 9 by omega) (show _ <= 9 by omega))
    have td1 := pi1.td (td_pw td_o t.1.toNat)
    have td0 : TD 0 [(0, 0, t.2.2)] := fun u hu => by rw [List.mem_singleton.mp hu]; exact ⟨Int.le_refl _, Int.le_refl _, Int.le_refl _⟩
    have tbits : intBits t.2.2 <= 9 := intBits_le_iff.mpr (show t.2.2.natAbs < 2 ^ 9 by omega)
    refine ⟨.ref e2, x1, [(0, 0, t.2.2)], L1, rfl, (pe.same r1).K, px1, (by show 1 * L1.length < 100000; omega), by omega, fun a ha c hc => ?_, bd_td (td0.prod td1) (by omega), fun x3 L3 G3 r3 pi3 _ pa3 => ?_⟩
    ·rw [List.mem_singleton.mp ha]
     exact IntMulOk.of_le tbits (zjx no (by omega) pi1 c hc) (by decide)
    obtain ⟨c3, rs3, rfl, hc3, ht3⟩ := pa3.ex
    have rl3 : rs3.length = L3.length := Paired.length ht3
    have d0 : Deg ((0 : Nat) : Int) [(0, 0, t.2.2)] := fun u hu => by rw [List.mem_singleton.mp hu]; exact ⟨⟨Int.le_refl _, Int.le_refl _⟩, Int.le_refl _, Int.le_refl _⟩
    have d3 : Deg (((0 + 1 * t.1.toNat : Nat)) : Int) L3 := by
     have := pi3.deg (d0.prod d1)
     rw [Int.natCast_add]
     exact this
    have l3 : L3.length <= 81 := Nat.le_trans (zdl pi3.up d3) (Nat.mul_le_mul (show _ <= 9 by omega) (show _ <= 9 by omega))
    have r63 := s6.trans (r1.trans r3)
    have hz4 := r63 _ _ hz
    have z1 := Paired.length pz
    refine ⟨l, c3, zs, rs3, rfl, rfl, hz4, SqT.of hc3, Nat.le_of_lt (natB (by omega)), ⟨_, _, _, rfl⟩, My.Same.put (sm.trans r63) hlN, by rw [zas cpl]; exact r63 _ _ hcp5, zdr (zay htp5 r63) hz4, zs ++ rs3, ts ++ L3, zab, zdr (zfw (zay pz r63) ht3) hz4, ?_, ?_, ?_, fun x => ?_⟩
    ·rw [List.length_append]
     omega
    ·intro u hu
     rcases List.mem_append.mp hu with y | y
     ·exact td u y
     ·obtain ⟨⟨p1, p2⟩, _, _⟩ := d3 u y
      refine ⟨p1, by omega, ?_⟩
      obtain ⟨h1, h2⟩ := (pi3.mem u).mp y
      by_cases c : ∃ v ∈ prodL [(0, 0, t.2.2)] L1, k3 v = k3 u
      ·obtain ⟨v, hv, e⟩ := c
       have hv : v ∈ ([(0, 0, t.2.2)] : List T3).flatMap fun t => L1.map (mulT t) := hv
       obtain ⟨a, ha, hv⟩ := List.mem_flatMap.mp hv
       obtain ⟨c, hc, rfl⟩ := List.mem_map.mp hv
       rw [List.mem_singleton.mp ha] at e
       have e2 : (k3 (mulT (0, 0, t.2.2) c)).2 = (k3 u).2 := by rw [e]
       replace e2 : 0 + c.2.1 = u.2.1 := e2
       have cz : c.2.1 = 0 := by
        obtain ⟨g1, g2⟩ := (pi1.mem c).mp hc
        by_cases y : ∃ v ∈ pwL oneL t.1.toNat, k3 v = k3 c
        ·obtain ⟨v, hv, e⟩ := y
         have e3 : (k3 v).2 = (k3 c).2 := by rw [e]
         replace e3 : v.2.1 = c.2.1 := e3
         rw [<- e3]
         exact ztk _ v hv
        ·exact absurd (g2.trans (zbo fun v hv e => y ⟨v, hv, e⟩)) g1
       omega
      ·exact absurd (h2.trans (zbo fun v hv e => c ⟨v, hv, e⟩)) h1
    ·rw [zni, nt]
     have a := pi3.nrm
     have b := pi1.nrm
     rw [zej] at a
     rw [zlr] at b
     have c : nrm oneL ^ t.1.toNat <= 2 ^ 8 := Nat.pow_le_pow_right (by decide) (by omega)
     have d : nrm ([(0, 0, t.2.2)] : List T3) = t.2.2.natAbs := Nat.add_zero _
     rw [d] at a
     have e : t.2.2.natAbs * nrm L1 <= t.2.2.natAbs * 256 := Nat.mul_le_mul_left _ (by omega)
     omega
    ·rw [zhp, tx x, zai et, zhp, zcs, show lin [] (hX x) = 0 from rfl, Int.add_zero, zde pi3.eqv]
     congr 1
     rw [zfi (znz x 1) _ (fun u hu => ⟨(d1 u hu).1.1, (d1 u hu).2.1⟩) _ (fun u hu => ⟨(d0 u hu).1.1, (d0 u hu).2.1⟩), zde pi1.eqv, zzh deg_o, zxr]
     unfold hX k3
     rw [if_pos zj]
     congr 1
     unfold lin xy k3
     simp
   ·have zj : ¬ t.2.1 = 0 := fun e => z (decide_eq_true e)
    refine ⟨⟨_, _, _, rfl⟩, sm, hcp5, htp5, zs, ts, hz, pz, by omega, td, by rw [nt]; omega, fun x => ?_⟩
    rw [tx x, zai et, zhp, zcs, show lin [] (hX x) = 0 from rfl, Int.add_zero]
    unfold hX k3
    rw [if_neg zj, Int.mul_zero, Int.add_zero]
  ·rintro σ H5 ⟨⟨c4, c5, c6, rfl⟩, sm, _, _, zs, ts, hz, pz, tl, td, tn, tx⟩
   refine hM _ _ ?_
   rw [rlp, List.take_length] at tn
   refine ⟨_, rfl, .l, l, zs, ts, rfl, SqL.of hz, zla pz, by omega, (fun u hu => by have := td u hu; omega), fun xg Lg H7 s7 pig plg pag => ?_⟩
   refine q xg Lg H7 (s2.trans (sm.trans s7)) (fun u hu => ?_) (Nat.le_trans pig.nrm (by omega)) (by omega) (fun x => ?_) pag
   ·obtain ⟨v, hv, e1, e2⟩ := zpx pig hu
    have := td v hv
    omega
   ·rw [zde pig.eqv, tx x, rlp, List.take_length]
theorem scCRow : zan ["web", "rank", "ahead"] ["web"] (zad sCRow) := ⟨rfl, rfl, rfl, by decide +kernel, rfl, by decide +kernel, by decide +kernel⟩
theorem zEy (S : Src K mg "colour_row" sCRow ["web"]) (DW : Def P w K mg base 3 "rank_of_web" ["web"] (zjq K)) (DB : Def P w K mg base 4 "by_picks" ["web"] (spByP K)) (DP : Def P w K mg base 2 "product_of" ["one", "other"] (zij K)) (DN : Def P w K mg base 1 "number_to_power" ["number", "k"] zok) (DL : Def P w K mg base 4 "with_one_less_q" ["poly"] (spOL K)) (DR : Def P w K mg base 1 "row_of" ["poly"] znb) : Def P w K mg base 5 "colour_row" ["web"] (zsk K) := by
 refine S.def scCRow (fun vs H Q E h => ?_) (fun f cdv A outer s H vs Q E hr h => ?_)
 ·obtain ⟨_, _, _, rfl, _⟩ := h; rfl
 ·obtain ⟨wv, n, ps, rfl, W, ok, q⟩ := h
  obtain ⟨⟨n1, n9⟩, hb, h8⟩ := id ok
  obtain ⟨cw, dw, xw, rfl, hcw, hdw, htw⟩ := id W.ex
  have hr1 : Room 1 _ := hr.mono (by decide)
  have hr2 : Room 2 _ := hr.mono (by decide)
  have hr3 : Room 3 _ := hr.mono (by decide)
  refine ⟨_, zae (zap (i := 1) scCRow.nd rfl (Or.inl rfl) (zaj DW hr3 rfl (zaa (pv 0) zac)))
   (zae (zap (i := 2) scCRow.nd rfl (Or.inl rfl) (zbj (zaa (zbj (zaa (pe_op zhm (pe_ix (zav K) (pv 0) zaf (fun _ _ => rfl)) (pv 1)) (zaa zaf (zaa (zaj DN hr1 rfl (zaa (pe_un zdo zaf) (zaa (pv 1) zac))) zac)))) zac)))
   (zag (zaw (zaj DR hr1 rfl (zaa (zaj DP hr2 rfl (zaa (pv 2) (zaa (zaj DL hr rfl (zaa (zaj DB hr rfl (zaa (pv 0) zac)) zac)) zac))) zac))))), ?_⟩
  refine ⟨_, rfl, .ref cw, n, ps, rfl, W, n1, n9, hb, h8, fun H1 s1 => ?_⟩
  have eR : n - ((zau (hdF ps (ups n) (ups ps.length)) : Nat) : Int) = rkAll n ps := rfl
  rw [eR]
  have o := zbw n1 n9 hb
  have R0 : 0 <= rkAll n ps := by
   have := o.mono (fun _ z => nomatch z : Ks ps.length []) (zcf ps.length) fun _ z => nomatch z
   rw [o.nil] at this
   exact this
  have Rn : rkAll n ps <= n := by
   have e : rkAll n ps = n - cN n ps (ups ps.length) := rfl
   have p : 0 <= cN n ps (ups ps.length) := Int.natCast_nonneg _
   omega
  have i0 : atI ([.int n, .ref dw] : List V) 0 = some (.int n) := zar (j := 0) rfl
  refine ⟨_, rfl, cw, _, _, _, rfl, rfl, SqT.of (s1 _ _ hcw), i0, _, rfl, _, _, rfl, rfl, _, rfl, _, rfl, -1, rkAll n ps, rfl, R0, by omega, by decide, by show 3 <= sizeLine; decide, fun f1 hf1 => ⟨by show 1 <= sizeLine; decide, fun f2 hf2 => ?_⟩⟩
  replace hf2 : upd H1 f1 (.tup [.int (n - rkAll n ps), .int 0, .int (sgn (rkAll n ps).toNat)]) f2 = none := hf2
  have w1 := Same.new (o := HO.tup [.int (n - rkAll n ps), .int 0, .int (sgn (rkAll n ps).toNat)]) hf1
  have w2 := Same.new (o := HO.tup [.ref f1]) hf2
  have pe : PolyAt (upd (upd H1 f1 (.tup [.int (n - rkAll n ps), .int 0, .int (sgn (rkAll n ps).toNat)])) f2 (.tup [.ref f1])) (.ref f2) [(n - rkAll n ps, 0, sgn (rkAll n ps).toNat)] := ⟨f2, _, rfl, zab, .cons ⟨f1, rfl, w2 _ _ zab⟩ .nil⟩
  have s6 := w1.trans w2
  clear w1 w2
  rw [show ((-1 : Int)) ^ (rkAll n ps).toNat = sgn (rkAll n ps).toNat from rfl]
  generalize upd (upd H1 f1 (.tup [.int (n - rkAll n ps), .int 0, .int (sgn (rkAll n ps).toNat)])) f2 (.tup [.ref f1]) = H6 at pe s6 ⊢
  refine ⟨_, rfl, _, rfl, .ref cw, n, ps, rfl, W.same (s1.trans s6), ok, fun pv0 Lp ts0 H4 s4 pi0 co0 pa0 _ => ?_⟩
  have pi : PolyIs (trT n ps (ups ps.length)) Lp := pi0.of_eqv fun k => by rw [co0 k, zvs ok (List.Perm.refl _)]
  have dP := pi.deg (zru ok _)
  have lP : Lp.length <= 81 := zdl pi.up dP
  have nP : nrm Lp <= 300 := by
   have a := pi.nrm
   have b : nrm (trT n ps (ups ps.length)) = (zbs n ps).length := zrt _ _
   have c : (zbs n ps).length <= 300 := by
    unfold zbs withP
    exact Nat.le_trans (List.length_filter_le _ _) (Nat.le_trans (List.length_filter_le _ _) (zgz h8))
   omega
  have r8 := zrs ok
  refine ⟨pv0, Lp, rkAll n ps, rfl, pa0, dP, lP, nP, tr_x ok pi, r8, fun xg Lg H7 s7 gk ng lg tx pag => ?_⟩
  have tx' : ∀ x : Int, lin Lg (xy x 1) = lin (trT n ps (ups ps.length)) (xy (1 - x) 0) := fun x => by
   rw [tx x, zzi (fun t ht => (dP t ht).2.1), zde pi.eqv]
  have sb : intBits (sgn (rkAll n ps).toNat) <= 1 := intBits_le_iff.mpr (by rw [zhe]; decide)
  refine ⟨.ref f2, xg, [(n - rkAll n ps, 0, sgn (rkAll n ps).toNat)], Lg, rfl, (pe.same (s4.trans s7)).K, pag.K, (by show 1 * Lg.length < 100000; omega), by omega, fun a ha c hc => ?_, ?_, fun x3 L3 H8 s8 pi3 _ pa3 => ?_⟩
  ·rw [List.mem_singleton.mp ha]
   have := zdh hc
   have cb : intBits c.2.2 <= 17 := intBits_le_iff.mpr (show c.2.2.natAbs < 2 ^ 17 by omega)
   exact IntMulOk.of_le sb cb (by decide)
  ·intro u hu
   have hu : u ∈ ([(n - rkAll n ps, 0, sgn (rkAll n ps).toNat)] : List T3).flatMap fun t => Lg.map (mulT t) := hu
   obtain ⟨a, ha, hu⟩ := List.mem_flatMap.mp hu
   obtain ⟨c, hc, rfl⟩ := List.mem_map.mp hu
   rw [List.mem_singleton.mp ha]
   have := gk c hc
   show 0 <= n - rkAll n ps + c.1 /\ 0 <= 0 + c.2.1 /\ n - rkAll n ps + c.1 + (0 + c.2.1) <= 9
   omega
  have rp3 : zdb L3 := fun u hu => by
   obtain ⟨v, hv, e1, e2⟩ := zpx pi3 hu
   have hv : v ∈ ([(n - rkAll n ps, 0, sgn (rkAll n ps).toNat)] : List T3).flatMap fun t => Lg.map (mulT t) := hv
   obtain ⟨a, ha, hv⟩ := List.mem_flatMap.mp hv
   obtain ⟨c, hc, rfl⟩ := List.mem_map.mp hv
   rw [List.mem_singleton.mp ha] at e1 e2
   replace e1 : n - rkAll n ps + c.1 = u.1 := e1
   replace e2 : 0 + c.2.1 = u.2.1 := e2
   have := gk c hc
   omega
  refine ⟨x3, L3, rfl, pa3, pi3.up, rp3, fun lr H9 s9 hlr => ?_⟩
  refine q lr L3 H9 (s1.trans (s6.trans (s4.trans (s7.trans (s8.trans s9))))) pi3.up rp3 (fun u hu => ((pi3.mem u).mp hu).1) (fun u hu => ?_) (fun x => ?_) hlr
  ·have a := zdh hu
   have b := pi3.nrm
   rw [zej] at b
   have c : nrm ([(n - rkAll n ps, 0, sgn (rkAll n ps).toNat)] : List T3) = 1 := by
    show (sgn (rkAll n ps).toNat).natAbs + 0 = 1
    rw [zhe]
   rw [c, Nat.one_mul] at b
   have : intBits u.2.2 <= 17 := intBits_le_iff.mpr (show u.2.2.natAbs < 2 ^ 17 by omega)
   omega
  ·rw [zde pi3.eqv, zfi (znz x 1) _ (fun u hu => ⟨(gk u hu).1, by have := gk u hu; omega⟩) _ (fun u hu => by rw [List.mem_singleton.mp hu]; exact ⟨by show 0 <= n - rkAll n ps; omega, Int.le_refl _⟩), tx' x]
   congr 1
   unfold lin xy k3
   simp
end
def nums (q : Nat) : List Int := (List.range (q - 1)).map fun (i : Nat) => 1 + (i : Int)
def allN (q : Nat) : Nat -> List (List Int)
 | 0 => [[]]
 | p + 1 => (allN q p).flatMap fun f => (nums q).map fun c => f ++ [c]
def flsP (q n : Nat) (ps : List (Int × Int)) : List (List Int) := (allN q ps.length).filter (flP n q ps)
theorem zxn {q : Nat} {c : Int} : c ∈ nums q ↔ 1 <= c /\ c < (q : Int) := by
 unfold nums
 rw [List.mem_map]
 constructor
 ·rintro ⟨i, hi, rfl⟩
  have := List.mem_range.mp hi
  lia
 ·rintro ⟨a, b⟩
  exact ⟨(c - 1).toNat, List.mem_range.mpr (by lia), by lia⟩
theorem zBf (q : Nat) : (nums q).Pairwise (· < ·) := by
 unfold nums
 rw [List.pairwise_map]
 exact List.pairwise_lt_range.imp fun h => by lia
theorem zxm (q : Nat) : (ups (q : Int)).filter (fun c => !decide (c = 0)) = nums q := up_eq ((zcl _).filter _) (zBf q) fun c => by
 rw [List.mem_filter, mem_ups, zxn]
 simp
 lia
theorem zBe {f : List Int} {x : Int} : nzF (f ++ [x]) (f.length + 1) = (nzF f f.length && !decide (x = 0)) := by
 unfold nzF
 rw [ups_s, List.all_append]
 congr 1
 ·rw [Bool.eq_iff_iff, List.all_eq_true, List.all_eq_true]
  constructor
  ·intro h k hk
   have := h k hk
   obtain ⟨a, b⟩ := mem_ups.mp hk
   rw [zgi a b] at this
   exact this
  ·intro h k hk
   obtain ⟨a, b⟩ := mem_ups.mp hk
   rw [zgi a b]
   exact h k hk
 ·rw [List.all_cons, List.all_nil, Bool.and_true, zms]
theorem zwh (q : Nat) : ∀ p : Nat, (allT q p).filter (fun f => nzF f p) = allN q p
 | 0 => rfl
 | p + 1 => by
  rw [show allN q (p + 1) = (allN q p).flatMap fun f => (nums q).map fun c => f ++ [c] from rfl, <- zwh q p]
  show ((allT q p).flatMap fun f => (ups (q : Int)).map fun c => f ++ [c]).filter (fun f => nzF f (p + 1)) = _
  have gen : ∀ l : List (List Int), (∀ f ∈ l, f.length = p) -> (l.flatMap fun f => (ups (q : Int)).map fun c => f ++ [c]).filter (fun f => nzF f (p + 1)) = (l.filter fun f => nzF f p).flatMap fun f => (nums q).map fun c => f ++ [c] := by
   intro l
   induction l with
   | nil => intro _; rfl
   | cons f l ih =>
    intro h
    have ih := ih fun g hg => h g (List.mem_cons_of_mem _ hg)
    have fl := h f List.mem_cons_self
    rw [List.flatMap_cons, List.filter_append, ih]
    have e1 : ((ups (q : Int)).map fun c => f ++ [c]).filter (fun f => nzF f (p + 1)) = if nzF f p then (nums q).map (fun c => f ++ [c]) else [] := by
     rw [List.filter_map]
     have e2 : ((fun f => nzF f (p + 1)) ∘ fun c => f ++ [c]) = fun c => nzF f p && !decide (c = 0) := funext fun c => by
      show nzF (f ++ [c]) (p + 1) = _
      rw [<- fl]
      exact zBe
     rw [e2]
     cases hz : nzF f p with
     | true =>
      rw [if_pos rfl, <- zxm]
      congr 1
     | false =>
      rw [if_neg (by decide), List.filter_eq_nil_iff.mpr fun c _ => by simp]
      rfl
    rw [e1]
    cases hz : nzF f p with
    | true => rw [List.filter_cons_of_pos (p := fun f => nzF f p) hz, List.flatMap_cons, if_pos rfl]
    | false => rw [List.filter_cons_of_neg (p := fun f => nzF f p) (by rw [hz]; decide), if_neg (by decide), List.nil_append]
  exact gen _ fun f hf => (allT_mem.mp hf).1
theorem zDh {α : Type} (p : α -> Bool) (l : List α) : (sm l fun a => if p a then (1 : Int) else 0) = ((l.filter p).length : Int) := by
 rw [<- zff p (fun _ => 1), zdf, Int.mul_one]
theorem zBv (q n : Nat) (ps : List (Int × Int)) : (sm (allT q ps.length) fun f => if (nzF f ps.length && flP n q ps f) then (1 : Int) else 0) = ((flsP q n ps).length : Int) := by
 rw [zDh (fun f => nzF f ps.length && flP n q ps f)]
 unfold flsP
 rw [<- zwh, List.filter_filter]
 congr 2
 exact List.filter_congr fun f _ => Bool.and_comm _ _
def colsP (q : Nat) (n : Int) (ps : List (Int × Int)) : List (List Int) := (allT q n.toNat).filter (propF ps)
def zom (K : W.Frag) : Sp := fun vs H Q _ => ∃ (wv : V) (n : Int) (ps : List (Int × Int)) (q : Nat), vs = [wv, .int q] /\ WebAt H wv n ps /\ WebOk n ps /\ intBits (q : Int) <= 256 /\ ∀ H', Same H H' -> Q (.int ((colsP q n ps).length : Int)) H'
theorem zjr {α : Type} (p : α -> Bool) (l : List α) : (sm l fun a => if p a then (1 : Int) else 0) = ((l.filter p).length : Int) := by
 rw [<- zff p (fun _ => 1), zdf, Int.mul_one]
theorem zeh {L : List T3} (up : L.Pairwise keyLt) (rp : zdb L) (hb : ∀ t ∈ L, intBits t.2.2 <= 256) : (rowOf L).length <= 61 /\ ∀ x ∈ rowOf L, intBits x <= 256 := by
 unfold rowOf
 cases e : L.getLast? with
 | none => exact ⟨Nat.zero_le _, fun _ z => nomatch z⟩
 | some t =>
  dsimp only
  have tin : t ∈ L := List.mem_of_getLast? e
  obtain ⟨t0, t60, _⟩ := rp t tin
  refine ⟨by rw [zgp]; lia, fun x hx => ?_⟩
  unfold rowL at hx
  obtain ⟨i, _, rfl⟩ := List.mem_map.mp hx
  by_cases c : ∃ u ∈ L, k3 u = ((i : Int), 0)
  ·obtain ⟨u, hu, e2⟩ := c
   rw [<- e2, zek (zgl up) u hu]
   exact hb u hu
  ·rw [zbo fun u hu e2 => c ⟨u, hu, e2⟩]
   exact intBits_le_iff.mpr (Nat.two_pow_pos _)
section
variable {P : Program} {w : World} {K : W.Frag} {mg : Str -> Option Value} {base : Heap}
theorem zwz : zan ["web", "q"] ["web", "q"] (zad zfs) := ⟨rfl, rfl, rfl, by decide +kernel, rfl, by decide +kernel, by decide +kernel⟩
theorem zyj (S : Src K mg "colour_count" zfs ["web", "q"]) (DF : Def P w K mg base 2 "refuse_less_than" ["thing", "least"] spRef) (DC : Def P w K mg base 5 "colour_row" ["web"] (zsk K)) (DW : Def P w K mg base 2 "worth_of_row" ["row", "q"] zsb) : Def P w K mg base 6 "colour_count" ["web", "q"] (zom K) := by
 refine S.def zwz (fun vs H Q E h => ?_) (fun f cdv A outer s H vs Q E hr h => ?_)
 ·obtain ⟨_, _, _, _, rfl, _⟩ := h; rfl
 ·obtain ⟨wv, n, ps, q, rfl, W, ok, qb, k⟩ := h
  have hr2 : Room 2 _ := hr.mono (by decide)
  refine ⟨_, zae (zcx (zaj DF hr2 rfl (zaa (pv 1) (zaa zaf zac)))) (zag (zaw (zaj DW hr2 rfl (zaa (zaj DC hr rfl (zaa (pv 0) zac)) (zaa (pv 1) zac))))), ?_⟩
  refine ⟨_, rfl, (q : Int), 0, rfl, by lia, ?_⟩
  refine ⟨_, rfl, wv, n, ps, rfl, W, ok, fun l L H1 s1 up rp _ hb lx hl => ⟨_, rfl, l, rowOf L, (q : Int), rfl, hl, (zeh up rp hb).1, (zeh up rp hb).2, qb, fun H2 s2 => ?_⟩⟩
  have e : (rowW (rowOf L) (q : Int) (rowOf L).length).sum = ((colsP q n ps).length : Int) := by
   unfold rowW
   rw [zhh up rp (fun k => (q : Int) ^ k)]
   have b := lx (q : Int)
   rw [zCk ok q, zjr] at b
   rw [show (colsP q n ps).length = ((allT q n.toNat).filter (propF ps)).length from rfl, <- b]
   unfold lin xy
   simp only [Int.one_pow, Int.mul_one]
  rw [e]
  exact k H2 (s1.trans s2)
end
def zys (K : W.Frag) : Sp := fun vs H Q _ => ∃ (v : V) (L : List T3), vs = [v] /\ PolyAt H v L /\ L.length < 1000 /\ Bd (L.map sw) /\ ∀ v' M H', Same H H' -> PolyIs (L.map sw) M -> M.length <= L.length -> PolyAt H' v' M -> Q v' H'
section
variable {P : Program} {w : World} {K : W.Frag} {mg : Str -> Option Value} {base : Heap}
theorem zDk : zan ["poly"] ["poly"] (zad sExch) := ⟨rfl, rfl, rfl, by decide +kernel, rfl, by decide +kernel, by decide +kernel⟩
theorem ndijt : (["i", "j", "times"] : List Str).Nodup := by decide +kernel
theorem zEw (S : Src K mg "exchanged" sExch ["poly"]) (DG : Def P w K mg base 1 "gathered" ["terms"] (zle K)) : Def P w K mg base 2 "exchanged" ["poly"] (zys K) := by
 refine S.def zDk (fun vs H Q E h => ?_) (fun f cdv A outer s H vs Q E hr h => ?_)
 ·obtain ⟨_, _, rfl, _⟩ := h; rfl
 ·obtain ⟨v, L, rfl, pa, l64, bd, q⟩ := h
  obtain ⟨c, rs, rfl, hc, ht⟩ := pa.ex
  have rl : rs.length = L.length := Paired.length ht
  refine ⟨_, zag (zaw (zaj DG hr rfl (zaa (zci (N' := ["i", "j", "times"]) (fr := [none, none, none]) (zbn (by rfl)) rfl (zbi K .t (pv 0))
   (g := gTup K 3 (gCons (gName 0) (gCons (gName 1) (gCons (gName 2) gNil)))) (fun _ _ _ _ => zcd K 3 rfl (zaq (zak (i := 0) ndijt rfl (Or.inl rfl) (Or.inr rfl)) (zaq (zak (i := 1) ndijt rfl (Or.inl rfl) (Or.inr rfl)) (zaq (zak (i := 2) ndijt rfl (Or.inl rfl) (Or.inr rfl)) zcc))))
   (fun _ _ _ _ => zck) (fun _ _ _ _ => zbj (zaa (pv 1) (zaa (pv 0) (zaa (pv 2) zac))))) zac))), ?_⟩
  refine ⟨_, rfl, c, rfl, ⟨_, SqT.of hc⟩, zct (k := .t) (a := c) (xs := rs) (fun σ => ∃ u v r, σ = [u, v, r]) (fun i ys H' => Same H H' /\ Paired (TermAt H') ys ((L.take i).map sw)) ⟨_, _, _, rfl⟩ ⟨Same.refl _, .nil⟩ (natB (by lia)) (fun i ys H' _ z => SqT.of (z.1 _ _ hc)) ?_ ?_⟩
  ·rintro i z ys σ H' N hz ⟨u, v, r, rfl⟩ ⟨sm, hy⟩ hN
   obtain ⟨t, e1, b, rfl, hb⟩ := Paired.at ht hz
   refine ⟨b, _, rfl, SqT.of (sm _ _ hb), rfl, _, _, rfl, _, _, rfl, _, _, rfl, rfl, ?_⟩
   dsimp only [gName, List.set]
   refine yesT ⟨_, rfl, _, rfl, _, rfl, by show 3 <= sizeLine; decide, fun d hd => ?_⟩
   refine hN _ _ _ ⟨_, _, _, rfl⟩ ⟨sm.trans (Same.new hd), ?_⟩ (by simp)
   rw [zai e1, List.map_append]
   exact L2.Paired.snoc (zay hy (Same.new hd)) ⟨d, rfl, zab⟩
  ·rintro ys H' ⟨sm, hy⟩ p hp
   rw [rl, List.take_length] at hy
   have s1 := Same.new (o := HO.lst ys) hp
   exact ⟨.l, p, ys, L.map sw, rfl, SqL.of zab, zla (zay hy s1), by rw [List.length_map]; lia, bd, fun v' M H2 s2 pM ml pat => q v' M H2 ((sm.trans s1).trans s2) pM (by rw [List.length_map] at ml; exact ml) pat⟩
end
def zsj (K : W.Frag) : Sp := fun vs H Q _ => ∃ (wv : V) (n : Nat) (ps : List (Int × Int)), vs = [wv] /\ WebAt H wv n ps /\ WebOk (n : Int) ps /\
 ∀ l L H', Same H H' -> L.Pairwise keyLt -> zdb L -> (∀ t ∈ L, t.2.2 ≠ 0) -> (∀ t ∈ L, intBits t.2.2 <= 256) -> (∀ x : Int, lin L (xy x 1) = sgn ((ps.length : Int) - rkAll (n : Int) ps).toNat * lin (trT (n : Int) ps (ups ps.length)) (xy 0 (1 - x))) -> H' l = some (.lst ((rowOf L).map V.int)) -> Q (.ref l) H'
def zol (K : W.Frag) : Sp := fun vs H Q _ => ∃ (wv : V) (n : Nat) (ps : List (Int × Int)) (q : Nat), vs = [wv, .int q] /\ WebAt H wv n ps /\ WebOk (n : Int) ps /\ intBits (q : Int) <= 256 /\ 1 <= q /\ ∀ H', Same H H' -> Q (.int ((flsP q n ps).length : Int)) H'
theorem zEc (L : List T3) (a b : Int) : lin (L.map sw) (xy a b) = lin L (xy b a) := by
 unfold lin
 rw [List.map_map]
 congr 1
 refine List.map_congr_left fun t _ => ?_
 unfold xy k3 sw
 dsimp only [Function.comp]
 rw [Int.mul_comm (a ^ t.2.1.toNat)]
theorem zze : ∀ L : List T3, nrm (L.map sw) = nrm L
 | [] => rfl
 | t :: L => by
  rw [List.map_cons, zcr, zcr, zze L]
  rfl
theorem zEm {d : Int} {L : List T3} (h : Deg d L) : Deg d (L.map sw) := fun u hu => by
 obtain ⟨t, ht, rfl⟩ := List.mem_map.mp hu
 obtain ⟨a, b, c⟩ := h t ht
 exact ⟨⟨b, c⟩, a.1, a.2⟩
theorem bd_sw {ts L : List T3} (pi : PolyIs ts L) (b : Bd ts) : Bd (L.map sw) := fun u hu => by
 obtain ⟨t, ht, rfl⟩ := List.mem_map.mp hu
 obtain ⟨v, hv, e1, e2⟩ := zpx pi ht
 have := b v hv
 show 0 <= t.2.1 /\ 0 <= t.1 /\ t.2.1 + t.1 <= 9
 lia
section
variable {P : Program} {w : World} {K : W.Frag} {mg : Str -> Option Value} {base : Heap}
theorem scFRow : zan ["web", "sign"] ["web"] (zad sFRow) := ⟨rfl, rfl, rfl, by decide +kernel, rfl, by decide +kernel, by decide +kernel⟩
theorem zEv (T : Txt K mg) (S : Src K mg "flow_row" sFRow ["web"]) (DW : Def P w K mg base 3 "rank_of_web" ["web"] (zjq K)) (DB : Def P w K mg base 4 "by_picks" ["web"] (spByP K)) (DP : Def P w K mg base 2 "product_of" ["one", "other"] (zij K)) (DN : Def P w K mg base 1 "number_to_power" ["number", "k"] zok) (DL : Def P w K mg base 4 "with_one_less_q" ["poly"] (spOL K)) (DX : Def P w K mg base 2 "exchanged" ["poly"] (zys K)) (DR : Def P w K mg base 1 "row_of" ["poly"] znb) : Def P w K mg base 5 "flow_row" ["web"] (zsj K) := by
 refine S.def scFRow (fun vs H Q E h => ?_) (fun f cdv A outer s H vs Q E hr h => ?_)
 ·obtain ⟨_, _, _, rfl, _⟩ := h; rfl
 ·obtain ⟨wv, n, ps, rfl, W, ok, q⟩ := h
  obtain ⟨⟨n1, n9⟩, hb, h8⟩ := id ok
  obtain ⟨cw, dw, xw, rfl, hcw, hdw, htw⟩ := id W.ex
  have xl : xw.length = ps.length := Paired.length htw
  have hr1 : Room 1 _ := hr.mono (by decide)
  have hr2 : Room 2 _ := hr.mono (by decide)
  have hr3 : Room 3 _ := hr.mono (by decide)
  refine ⟨_, zae (zap (i := 1) scFRow.nd rfl (Or.inl rfl) (zaj DN hr1 rfl (zaa (pe_un zdo zaf) (zaa (pe_op zhm (zaz (zbx K) (by rfl) T.len PySem.boot_len (zaa (pe_ix (zav K) (pv 0) zaf (fun _ _ => rfl)) zac)) (zaj DW hr3 rfl (zaa (pv 0) zac))) zac))))
   (zag (zaw (zaj DR hr1 rfl (zaa (zaj DP hr2 rfl (zaa (zbj (zaa (zbj (zaa zaf (zaa zaf (zaa (pv 1) zac)))) zac)) (zaa (zaj DL hr rfl (zaa (zaj DX hr2 rfl (zaa (zaj DB hr rfl (zaa (pv 0) zac)) zac)) zac)) zac))) zac)))), ?_⟩
  have i1 : atI ([.int (n : Int), .ref dw] : List V) 1 = some (.ref dw) := zar (j := 1) rfl
  have r8 := zrs ok
  have o := zbw n1 n9 hb
  have R0 : 0 <= rkAll (n : Int) ps := by
   have := o.mono (fun _ z => nomatch z : Ks ps.length []) (zcf ps.length) fun _ z => nomatch z
   rw [o.nil] at this
   exact this
  have Rm : rkAll (n : Int) ps <= (ps.length : Int) := by
   have r4 : rkAll (n : Int) ps <= (ups (ps.length : Int)).length := o.le (zcf _)
   rw [zbc] at r4
   lia
  refine ⟨_, rfl, _, rfl, cw, _, _, _, rfl, rfl, SqT.of hcw, i1, dw, xw, rfl, .inr (SqT.of hdw), _, rfl, .ref cw, (n : Int), ps, rfl, W, n1, n9, hb, h8, fun H1 s1 => ?_⟩
  have eR : (n : Int) - ((zau (hdF ps (ups (n : Int)) (ups ps.length)) : Nat) : Int) = rkAll (n : Int) ps := rfl
  rw [eR, xl]
  refine ⟨_, _, rfl, rfl, -1, (ps.length : Int) - rkAll (n : Int) ps, rfl, by lia, by lia, by decide, ?_⟩
  rw [show ((-1 : Int)) ^ ((ps.length : Int) - rkAll (n : Int) ps).toNat = sgn ((ps.length : Int) - rkAll (n : Int) ps).toNat from rfl]
  have sa := zhe ((ps.length : Int) - rkAll (n : Int) ps).toNat
  generalize sgn ((ps.length : Int) - rkAll (n : Int) ps).toNat = sg at q sa ⊢
  dsimp only [List.set]
  refine ⟨_, rfl, by show 3 <= sizeLine; decide, fun f1 hf1 => ⟨by show 1 <= sizeLine; decide, fun f2 hf2 => ?_⟩⟩
  have w1 := Same.new (o := HO.tup [.int 0, .int 0, .int sg]) hf1
  have w2 := Same.new (o := HO.tup [.ref f1]) hf2
  have pe : PolyAt (upd (upd H1 f1 (.tup [.int 0, .int 0, .int sg])) f2 (.tup [.ref f1])) (.ref f2) [(0, 0, sg)] := ⟨f2, _, rfl, zab, .cons ⟨f1, rfl, w2 _ _ zab⟩ .nil⟩
  have s6 := w1.trans w2
  clear w1 w2
  generalize upd (upd H1 f1 (.tup [.int 0, .int 0, .int sg])) f2 (.tup [.ref f1]) = H6 at pe s6 ⊢
  refine ⟨_, rfl, .ref cw, (n : Int), ps, rfl, W.same (s1.trans s6), ok, fun pv0 Lp ts0 H4 s4 pi0 co0 pa0 bd0 => ?_⟩
  have pi : PolyIs (trT (n : Int) ps (ups ps.length)) Lp := pi0.of_eqv fun k => by rw [co0 k, zvs ok (List.Perm.refl _)]
  have dP := pi.deg (zru ok _)
  have lP : Lp.length <= 81 := zdl pi.up dP
  have nP : nrm Lp <= 300 := by
   have a := pi.nrm
   have b : nrm (trT (n : Int) ps (ups ps.length)) = (zbs (n : Int) ps).length := zrt _ _
   have c : (zbs (n : Int) ps).length <= 300 := by
    unfold zbs withP
    exact Nat.le_trans (List.length_filter_le _ _) (Nat.le_trans (List.length_filter_le _ _) (zgz h8))
   lia
  refine ⟨pv0, Lp, rfl, pa0, by lia, bd_sw pi0 bd0, fun v5 M H5 s5 pM ml paM => ?_⟩
  have dM := pM.deg (zEm dP)
  have nM : nrm M <= 300 := by
   have := pM.nrm
   rw [zze] at this
   lia
  refine ⟨v5, M, 8, rfl, paM, dM, zdl pM.up dM, nM, (fun t ht => (dM t ht).1.2), by decide, fun xg Lg H7 s7 gk ng lg tx pag => ?_⟩
  have tx' : ∀ x : Int, lin Lg (xy x 1) = lin (trT (n : Int) ps (ups ps.length)) (xy 0 (1 - x)) := fun x => by
   rw [tx x, zzi (fun t ht => (dM t ht).2.1), zde pM.eqv, zEc, zde pi.eqv]
  have sb : intBits sg <= 1 := intBits_le_iff.mpr (by rw [sa]; decide)
  refine ⟨.ref f2, xg, [(0, 0, sg)], Lg, rfl, (pe.same (s4.trans (s5.trans s7))).K, pag.K, (by show 1 * Lg.length < 100000; lia), by lia, fun a ha c hc => ?_, ?_, fun x3 L3 H8 s8 pi3 _ pa3 => ?_⟩
  ·rw [List.mem_singleton.mp ha]
   have := zdh hc
   have cb : intBits c.2.2 <= 17 := intBits_le_iff.mpr (show c.2.2.natAbs < 2 ^ 17 by lia)
   exact IntMulOk.of_le sb cb (by decide)
  ·intro u hu
   have hu : u ∈ ([(0, 0, sg)] : List T3).flatMap fun t => Lg.map (mulT t) := hu
   obtain ⟨a, ha, hu⟩ := List.mem_flatMap.mp hu
   obtain ⟨c, hc, rfl⟩ := List.mem_map.mp hu
   rw [List.mem_singleton.mp ha]
   have := gk c hc
   show 0 <= 0 + c.1 /\ 0 <= 0 + c.2.1 /\ 0 + c.1 + (0 + c.2.1) <= 9
   lia
  have rp3 : zdb L3 := fun u hu => by
   obtain ⟨v, hv, e1, e2⟩ := zpx pi3 hu
   have hv : v ∈ ([(0, 0, sg)] : List T3).flatMap fun t => Lg.map (mulT t) := hv
   obtain ⟨a, ha, hv⟩ := List.mem_flatMap.mp hv
   obtain ⟨c, hc, rfl⟩ := List.mem_map.mp hv
   rw [List.mem_singleton.mp ha] at e1 e2
   replace e1 : 0 + c.1 = u.1 := e1
   replace e2 : 0 + c.2.1 = u.2.1 := e2
   have := gk c hc
   lia
  refine ⟨x3, L3, rfl, pa3, pi3.up, rp3, fun lr H9 s9 hlr => ?_⟩
  refine q lr L3 H9 (s1.trans (s6.trans (s4.trans (s5.trans (s7.trans (s8.trans s9)))))) pi3.up rp3 (fun u hu => ((pi3.mem u).mp hu).1) (fun u hu => ?_) (fun x => ?_) hlr
  ·have a := zdh hu
   have b := pi3.nrm
   rw [zej] at b
   have c : nrm ([(0, 0, sg)] : List T3) = 1 := by
    show sg.natAbs + 0 = 1
    rw [sa]
   rw [c, Nat.one_mul] at b
   have : intBits u.2.2 <= 17 := intBits_le_iff.mpr (show u.2.2.natAbs < 2 ^ 17 by lia)
   lia
  ·rw [zde pi3.eqv, zfi (znz x 1) _ (fun u hu => ⟨(gk u hu).1, by have := gk u hu; lia⟩) _ (fun u hu => by rw [List.mem_singleton.mp hu]; exact ⟨Int.le_refl _, Int.le_refl _⟩), tx' x]
   congr 1
   unfold lin xy k3
   simp
theorem zwy : zan ["web", "q"] ["web", "q"] (zad zfr) := ⟨rfl, rfl, rfl, by decide +kernel, rfl, by decide +kernel, by decide +kernel⟩
theorem zyi (S : Src K mg "flow_count" zfr ["web", "q"]) (DF : Def P w K mg base 2 "refuse_less_than" ["thing", "least"] spRef) (DC : Def P w K mg base 5 "flow_row" ["web"] (zsj K)) (DW : Def P w K mg base 2 "worth_of_row" ["row", "q"] zsb) : Def P w K mg base 6 "flow_count" ["web", "q"] (zol K) := by
 refine S.def zwy (fun vs H Q E h => ?_) (fun f cdv A outer s H vs Q E hr h => ?_)
 ·obtain ⟨_, _, _, _, rfl, _⟩ := h; rfl
 ·obtain ⟨wv, n, ps, q, rfl, W, ok, qb, q1, k⟩ := h
  have hr2 : Room 2 _ := hr.mono (by decide)
  refine ⟨_, zae (zcx (zaj DF hr2 rfl (zaa (pv 1) (zaa zaf zac)))) (zag (zaw (zaj DW hr2 rfl (zaa (zaj DC hr rfl (zaa (pv 0) zac)) (zaa (pv 1) zac))))), ?_⟩
  refine ⟨_, rfl, (q : Int), 1, rfl, by lia, ?_⟩
  refine ⟨_, rfl, wv, n, ps, rfl, W, ok, fun l L H1 s1 up rp _ hb lx hl => ⟨_, rfl, l, rowOf L, (q : Int), rfl, hl, (zeh up rp hb).1, (zeh up rp hb).2, qb, fun H2 s2 => ?_⟩⟩
  have e : (rowW (rowOf L) (q : Int) (rowOf L).length).sum = ((flsP q n ps).length : Int) := by
   unfold rowW
   rw [zhh up rp (fun k => (q : Int) ^ k)]
   have b := lx (q : Int)
   rw [zyb ok q1, zBv] at b
   rw [<- b]
   unfold lin xy
   simp only [Int.one_pow, Int.mul_one]
  rw [e]
  exact k H2 (s1.trans s2)
end
structure zFf (n : Int) (ps : List (Int × Int)) (L : List T3) : Prop where
 up : L.Pairwise keyLt
 row : zdb L
 nz : ∀ t ∈ L, t.2.2 ≠ 0
 lin : ∀ x : Int, My.lin L (xy x 1) = sgn ((ps.length : Int) - rkAll n ps).toNat * My.lin (trT n ps (ups ps.length)) (xy 0 (1 - x))
section
variable {n : Nat} {ps : List (Int × Int)} {L : List T3}
theorem zsp (a b : Nat) : sgn (a + b) = sgn a * sgn b := by
 unfold sgn
 rw [Int.pow_add]
theorem zso (a : Nat) : sgn a * sgn a = 1 := by
 have := zhe a
 rcases Int.natAbs_eq (sgn a) with h | h
 ·rw [h, this]; rfl
 ·rw [h, this]; rfl
theorem zzq {L : List T3} (up : L.Pairwise keyLt) (rp : zdb L) (x : Int) : ev (rowOf L) x = My.lin L (xy x 1) := by
 have w := zhh up rp (fun k => x ^ k)
 have e : ev (rowOf L) x = ((List.range (rowOf L).length).map fun k => (rowOf L).getD k 0 * x ^ k).sum := by
  rw [<- zqi]
  congr 1
  refine List.ext_getElem? fun i => ?_
  by_cases h : i < (rowOf L).length
  ·rw [List.getElem?_map, List.getElem?_range h, List.getElem?_eq_getElem h]
   show some _ = some ((rowOf L).getD i 0)
   rw [List.getD_eq_getElem?_getD, List.getElem?_eq_getElem h]
   rfl
  ·rw [List.getElem?_eq_none (by lia), List.getElem?_eq_none (by rw [List.length_map, List.length_range]; lia)]
 rw [e, w]
 unfold My.lin xy
 simp only [Int.one_pow, Int.mul_one]
theorem zor {L : List T3} (up : L.Pairwise keyLt) (rp : zdb L) (nz : ∀ t ∈ L, t.2.2 ≠ 0) : rowOf L = [] \/ at0 (rowOf L) (((rowOf L).length : Int) - 1) ≠ 0 := by
 unfold rowOf
 cases e : L.getLast? with
 | none => exact .inl rfl
 | some t =>
  refine .inr ?_
  have ht : t ∈ L := List.mem_of_getLast? e
  obtain ⟨t0, t60, tj⟩ := rp t ht
  dsimp only
  rw [zgp]
  unfold at0 rowL
  rw [show (((t.1.toNat + 1 : Nat) : Int) - 1).toNat = t.1.toNat by lia, List.getD_eq_getElem?_getD, List.getElem?_map, List.getElem?_range (by lia)]
  show My.coef L (((t.1.toNat : Nat) : Int), 0) ≠ 0
  have k : (((t.1.toNat : Nat) : Int), (0 : Int)) = k3 t := by
   unfold k3
   rw [tj, show ((t.1.toNat : Nat) : Int) = t.1 by lia]
  rw [k, zek (zgl up) t ht]
  exact nz t ht
end
def signL : List V := [.int 1, .int (-1)]
theorem zyv {z : Int} (h : 0 <= z) : atI signL (z % 2) = some (.int (sgn z.toNat)) := by
 obtain ⟨k, rfl⟩ := Int.eq_ofNat_of_zero_le h
 rw [Int.toNat_natCast]
 have key : ∀ k : Nat, (sgn (2 * k) = 1) /\ sgn (2 * k + 1) = -1 := by
  intro k
  induction k with
  | zero => exact ⟨rfl, rfl⟩
  | succ k ih =>
   have e1 : sgn (2 * (k + 1)) = 1 := by
    rw [show 2 * (k + 1) = 2 * k + 1 + 1 by lia, zdc, ih.2]
    rfl
   exact ⟨e1, by rw [zdc, e1]⟩
 have := Nat.div_add_mod k 2
 have m2 : k % 2 = 0 \/ k % 2 = 1 := by lia
 rcases m2 with m | m
 ·rw [show (k : Int) % 2 = 0 by lia]
  have e : k = 2 * (k / 2) := by lia
  rw [e, (key _).1]
  exact zar (j := 0) rfl
 ·rw [show (k : Int) % 2 = 1 by lia]
  have e : k = 2 * (k / 2) + 1 := by lia
  rw [e, (key _).2]
  exact zar (j := 1) rfl
end My
namespace My
inductive Rch (L : List (Int × Int)) : Int -> Int -> Prop
 | refl (x : Int) : Rch L x x
 | step {x y z : Int} (h : Rch L x y) (e : (y, z) ∈ L) : Rch L x z
theorem Rch.trans {L : List (Int × Int)} {x y z : Int} (h1 : Rch L x y) (h2 : Rch L y z) : Rch L x z := by
 induction h2 with
 | refl => exact h1
 | step h e ih => exact .step ih e
def zbb (L : List (Int × Int)) : Prop := ∀ p ∈ L, ¬ Rch L p.2 p.1
def zbe (L : List (Int × Int)) : Prop := ∀ p ∈ L, Rch L p.2 p.1
open Classical in
noncomputable def zdt (L : List (Int × Int)) : Bool := decide (zbb L)
open Classical in
noncomputable def zez (L : List (Int × Int)) : Bool := decide (zbe L)
open Classical in
theorem ringlessB_iff {L : List (Int × Int)} : zdt L = true ↔ zbb L := by unfold zdt; exact decide_eq_true_iff
open Classical in
theorem zhi {L : List (Int × Int)} : zez L = true ↔ zbe L := by unfold zez; exact decide_eq_true_iff
theorem zqx {L : List (Int × Int)} {S : Int -> Prop} (c : ∀ x y, S x -> (x, y) ∈ L -> S y) {x z : Int} (hx : S x) (h : Rch L x z) : S z := by
 induction h with
 | refl => exact hx
 | step h e ih => exact c _ _ ih e
def ledP (L : List (Int × Int)) (l : List Int) : List Int := (L.filter fun q => decide (q.1 ∈ l)).map (·.2)
def nextP (L : List (Int × Int)) (l : List Int) : List Int := l.filter fun p => decide (p ∈ ledP L l)
def leftF (L : List (Int × Int)) (l : List Int) : Nat -> List Int
 | 0 => l
 | k + 1 => nextP L (leftF L l k)
open Classical in
def allW : Nat -> List (List Int)
 | 0 => [[]]
 | m + 1 => (allW m).flatMap fun p => [p ++ [0], p ++ [1]]
def zat (ps : List (Int × Int)) (w : List Int) : List (Int × Int) := List.zipWith (fun p b => if b = 0 then p else (p.2, p.1)) ps w
theorem zeq : ∀ m, (allW m).length = 2 ^ m
 | 0 => rfl
 | m + 1 => by
  have : ∀ l : List (List Int), (l.flatMap fun p => [p ++ [0], p ++ [1]]).length = 2 * l.length := by
   intro l
   induction l with
   | nil => rfl
   | cons a l ih => rw [List.flatMap_cons, List.length_append, ih, List.length_cons]; simp; omega
  show ((allW m).flatMap fun p => [p ++ [0], p ++ [1]]).length = _
  rw [this, zeq m, Nat.pow_succ]
  omega
theorem mem_allW : ∀ {m : Nat} {w : List Int}, w ∈ allW m ↔ w.length = m /\ ∀ x ∈ w, x = 0 \/ x = 1
 | 0, w => by
  show w ∈ [[]] ↔ _
  rw [List.mem_singleton]
  constructor
  ·rintro rfl; exact ⟨rfl, fun _ z => nomatch z⟩
  ·intro h; exact List.length_eq_zero_iff.mp h.1
 | m + 1, w => by
  show w ∈ (allW m).flatMap (fun p => [p ++ [0], p ++ [1]]) ↔ _
  rw [List.mem_flatMap]
  constructor
  ·rintro ⟨p, hp, hw⟩
   obtain ⟨pl, pb⟩ := mem_allW.mp hp
   have hw : w = p ++ [0] \/ w = p ++ [1] := by simpa using hw
   rcases hw with rfl | rfl
   ·refine ⟨by simp [pl], fun x hx => ?_⟩
    rcases List.mem_append.mp hx with z | z
    ·exact pb x z
    ·exact .inl (List.mem_singleton.mp z)
   ·refine ⟨by simp [pl], fun x hx => ?_⟩
    rcases List.mem_append.mp hx with z | z
    ·exact pb x z
    ·exact .inr (List.mem_singleton.mp z)
  ·rintro ⟨wl, wb⟩
   have ne : w ≠ [] := fun z => by rw [z] at wl; cases wl
   have e := List.dropLast_concat_getLast ne
   refine ⟨w.dropLast, mem_allW.mpr ⟨by rw [List.length_dropLast, wl]; rfl, fun x hx => wb x (List.dropLast_subset _ hx)⟩, ?_⟩
   rcases wb _ (List.getLast_mem ne) with z | z
   ·rw [z] at e
    have : w = w.dropLast ++ [0] := e.symm
    simp only [List.mem_cons]
    exact .inl this
   ·rw [z] at e
    have : w = w.dropLast ++ [1] := e.symm
    simp only [List.mem_cons]
    exact .inr (.inl this)
theorem zem {ps : List (Int × Int)} {w : List Int} (h : w.length = ps.length) : (zat ps w).length = ps.length := by unfold zat; rw [List.length_zipWith]; omega
theorem zjb {ps : List (Int × Int)} {w : List Int} {i : Nat} {p : Int × Int} {b : Int} (h1 : ps[i]? = some p) (h2 : w[i]? = some b) : (zat ps w)[i]? = some (if b = 0 then p else (p.2, p.1)) := by
 unfold zat
 rw [List.getElem?_zipWith, h1, h2]
theorem zja {ps : List (Int × Int)} {w : List Int} {q : Int × Int} (h : q ∈ zat ps w) : ∃ p ∈ ps, q = p \/ q = (p.2, p.1) := by
 obtain ⟨i, hi, e⟩ := List.mem_iff_getElem.mp h
 unfold zat at hi e
 rw [List.length_zipWith] at hi
 rw [List.getElem_zipWith] at e
 refine ⟨ps[i], List.getElem_mem _, ?_⟩
 split at e
 ·exact .inl e.symm
 ·exact .inr e.symm
end My
namespace My
theorem zmv {L : List (Int × Int)} {x z : Int} (h : Rch L x z) : x = z \/ ∃ y, (x, y) ∈ L /\ Rch L y z := by
 induction h with
 | refl => exact .inl rfl
 | @step y z h e ih =>
  rcases ih with rfl | ⟨t, e2, r⟩
  ·exact .inr ⟨z, e, .refl _⟩
  ·exact .inr ⟨t, e2, .step r e⟩
def mgP (x y : Int) (z : Int) : Int := if z = y then x else z
def mgQ (x y : Int) (q : Int × Int) : Int × Int := (mgP x y q.1, mgP x y q.2)
theorem Rch.mono {L M : List (Int × Int)} (h : ∀ q ∈ L, q ∈ M) {a b : Int} (r : Rch L a b) : Rch M a b := by
 induction r with
 | refl => exact .refl _
 | step _ e ih => exact .step ih (h _ e)
theorem Rch.map {L : List (Int × Int)} (f : Int -> Int) {a b : Int} (r : Rch L a b) : Rch (L.map fun q => (f q.1, f q.2)) (f a) (f b) := by
 induction r with
 | refl => exact .refl _
 | step _ e ih => exact .step ih (List.mem_map.mpr ⟨_, e, rfl⟩)
theorem zft {L : List (Int × Int)} {x y a b : Int} (r : Rch ((x, y) :: L) a b) : Rch L a b \/ (Rch L a x /\ Rch L y b) := by
 induction r with
 | refl => exact .inl (.refl _)
 | @step b c _ e ih =>
  rcases List.mem_cons.mp e with e | e
  ·cases e
   rcases ih with h | h
   ·exact .inr ⟨h, .refl _⟩
   ·exact .inr ⟨h.1, .refl _⟩
  ·rcases ih with h | h
   ·exact .inl (.step h e)
   ·exact .inr ⟨h.1, .step h.2 e⟩
theorem zte {L : List (Int × Int)} {x y a b : Int} (r : Rch ((x, y) :: (y, x) :: L) a b) : Rch L a b \/ ((Rch L a x \/ Rch L a y) /\ (Rch L x b \/ Rch L y b)) := by
 induction r with
 | refl => exact .inl (.refl _)
 | @step b c _ e ih =>
  rcases List.mem_cons.mp e with e | e
  ·cases e
   rcases ih with h | h
   ·exact .inr ⟨.inl h, .inr (.refl _)⟩
   ·exact .inr ⟨h.1, .inr (.refl _)⟩
  ·rcases List.mem_cons.mp e with e | e
   ·cases e
    rcases ih with h | h
    ·exact .inr ⟨.inr h, .inl (.refl _)⟩
    ·exact .inr ⟨h.1, .inl (.refl _)⟩
   ·rcases ih with h | h
    ·exact .inl (.step h e)
    ·exact .inr ⟨h.1, h.2.imp (fun z => .step z e) fun z => .step z e⟩
theorem zub {L : List (Int × Int)} {x y : Int} (a b : Int) (h : mgP x y a = mgP x y b) : Rch ((x, y) :: (y, x) :: L) a b := by
 have xy : Rch ((x, y) :: (y, x) :: L) x y := .step (.refl _) List.mem_cons_self
 have yx : Rch ((x, y) :: (y, x) :: L) y x := .step (.refl _) (List.mem_cons_of_mem _ List.mem_cons_self)
 unfold mgP at h
 by_cases ca : a = y
 ·by_cases cb : b = y
  ·rw [ca, cb]; exact .refl _
  ·rw [if_pos ca, if_neg cb] at h
   rw [ca, <- h]; exact yx
 ·by_cases cb : b = y
  ·rw [if_neg ca, if_pos cb] at h
   rw [cb, h]; exact xy
  ·rw [if_neg ca, if_neg cb] at h
   rw [h]; exact .refl _
theorem zuc {L : List (Int × Int)} {x y : Int} {u v : Int} (r : Rch (L.map (mgQ x y)) u v) : ∀ a b, mgP x y a = u -> mgP x y b = v -> Rch ((x, y) :: (y, x) :: L) a b := by
 induction r with
 | refl => intro a b ha hb; exact zub a b (ha.trans hb.symm)
 | @step v w _ e ih =>
  intro a b ha hb
  obtain ⟨⟨c, d⟩, hq, e⟩ := List.mem_map.mp e
  have e1 : mgP x y c = v := congrArg Prod.fst e
  have e2 : mgP x y d = w := congrArg Prod.snd e
  have r1 := ih a c ha e1
  have r2 : Rch ((x, y) :: (y, x) :: L) c d := .step (.refl _) (List.mem_cons_of_mem _ (List.mem_cons_of_mem _ hq))
  exact (r1.trans r2).trans (zub d b (e2.trans hb.symm))
theorem mg_x {x y : Int} : mgP x y x = x := by unfold mgP; split <;> rfl
theorem mg_y {x y : Int} : mgP x y y = x := by unfold mgP; rw [if_pos rfl]
theorem zDm {L M : List (Int × Int)} (h : ∀ q ∈ L, q ∈ M) (r : zbb M) : zbb L := fun p hp z => r p (h p hp) (z.mono h)
theorem ziu {L : List (Int × Int)} {x y : Int} (r : zbb L) (xy : x ≠ y) : zbb ((x, y) :: L) ↔ ¬ Rch L y x := by
 constructor
 ·exact fun h z => h (x, y) List.mem_cons_self (z.mono fun q hq => List.mem_cons_of_mem _ hq)
 ·intro h p hp z
  rcases List.mem_cons.mp hp with rfl | hp
  ·rcases zft z with z | z
   ·exact h z
   ·exact h z.2
  ·rcases zft z with z | z
   ·exact r p hp z
   ·exact h ((z.2.step (show (p.1, p.2) ∈ L from hp)).trans z.1)
theorem rl_mg {L : List (Int × Int)} {x y : Int} (r : zbb L) (xy : x ≠ y) : zbb (L.map (mgQ x y)) ↔ ¬ Rch L x y /\ ¬ Rch L y x := by
 constructor
 ·intro h
  have one : ∀ u v, u ≠ v -> mgP x y u = mgP x y v -> ¬ Rch L u v := fun u v uv e z => by
   rcases zmv z with z | ⟨t, e1, r1⟩
   ·exact uv z
   ·refine h (mgQ x y (u, t)) (List.mem_map.mpr ⟨_, e1, rfl⟩) ?_
    show Rch (L.map (mgQ x y)) (mgP x y t) (mgP x y u)
    rw [e]
    exact r1.map (mgP x y)
  exact ⟨one x y xy (by rw [mg_x, mg_y]), one y x xy.symm (by rw [mg_x, mg_y])⟩
 ·rintro ⟨h1, h2⟩ p hp z
  obtain ⟨⟨a, b⟩, hq, rfl⟩ := List.mem_map.mp hp
  rcases zte (zuc z b a rfl rfl) with z | ⟨z1, z2⟩
  ·exact r _ hq z
  ·have thru : ∀ {u v : Int}, Rch L b u -> Rch L v a -> Rch L v u := fun h1 h2 => (h2.step hq).trans h1
   rcases z1 with z1 | z1 <;> rcases z2 with z2 | z2
   ·exact r _ hq (z1.trans z2)
   ·exact h2 (thru z1 z2)
   ·exact h1 (thru z1 z2)
   ·exact r _ hq (z1.trans z2)
theorem zDn {L : List (Int × Int)} {x y : Int} (r : ¬ zbb L) : ¬ zbb (L.map (mgQ x y)) := fun h => r fun p hp z => h (mgQ x y p) (List.mem_map.mpr ⟨p, hp, rfl⟩) (z.map (mgP x y))
theorem zAn {L : List (Int × Int)} {x y : Int} (r : zbb L) (xy : x ≠ y) (h1 : Rch L x y) (h2 : Rch L y x) : False := by
 rcases zmv h1 with z | ⟨t, e, r1⟩
 ·exact xy z
 ·exact r _ e (r1.trans h2)
open Classical in
noncomputable def oneB (p : Prop) : Nat := if p then 1 else 0
theorem zcg {p : Prop} (h : p) : oneB p = 1 := by unfold oneB; rw [if_pos h]
theorem zbt {p : Prop} (h : ¬ p) : oneB p = 0 := by unfold oneB; rw [if_neg h]
theorem rl_dc (L : List (Int × Int)) {x y : Int} (xy : x ≠ y) : oneB (zbb ((x, y) :: L)) + oneB (zbb ((y, x) :: L)) = oneB (zbb L) + oneB (zbb (L.map (mgQ x y))) := by
 by_cases r : zbb L
 ·rw [zcg r]
  by_cases h1 : Rch L x y
  ·have h2 : ¬ Rch L y x := fun z => zAn r xy h1 z
   rw [zcg ((ziu r xy).mpr h2), zbt (fun z => (ziu r xy.symm).mp z h1), zbt (fun z => ((rl_mg r xy).mp z).1 h1)]
  ·by_cases h2 : Rch L y x
   ·rw [zbt (fun z => (ziu r xy).mp z h2), zcg ((ziu r xy.symm).mpr h1), zbt (fun z => ((rl_mg r xy).mp z).2 h2)]
   ·rw [zcg ((ziu r xy).mpr h2), zcg ((ziu r xy.symm).mpr h1), zcg ((rl_mg r xy).mpr ⟨h1, h2⟩)]
 ·have sub : ∀ q : Int × Int, ¬ zbb (q :: L) := fun q z => r (zDm (fun p hp => List.mem_cons_of_mem _ hp) z)
  rw [zbt r, zbt (sub _), zbt (sub _), zbt (zDn r)]
theorem ztc {L : List (Int × Int)} {x y : Int} (h : zbe L) : zbe (L.map (mgQ x y)) := fun p hp => by
 obtain ⟨q, hq, rfl⟩ := List.mem_map.mp hp
 exact (h q hq).map (mgP x y)
theorem zov {L : List (Int × Int)} {x y : Int} (h : zbe (L.map (mgQ x y))) : ∀ p ∈ L, Rch ((x, y) :: (y, x) :: L) p.2 p.1 := fun p hp => zuc (h (mgQ x y p) (List.mem_map.mpr ⟨p, hp, rfl⟩)) _ _ rfl rfl
theorem zjv {L M : List (Int × Int)} (h : ∀ a b, (a, b) ∈ M -> Rch L a b) {a b : Int} (r : Rch M a b) : Rch L a b := by
 induction r with
 | refl => exact .refl _
 | step _ e ih => exact ih.trans (h _ _ e)
theorem zlh {L : List (Int × Int)} {x y : Int} (h : zbe (L.map (mgQ x y))) : zbe ((x, y) :: L) ↔ Rch L y x := by
 constructor
 ·intro z
  rcases zft (z (x, y) List.mem_cons_self) with z | z
  ·exact z
  ·exact z.2
 ·intro z p hp
  have z' : Rch ((x, y) :: L) y x := z.mono fun q hq => List.mem_cons_of_mem _ hq
  rcases List.mem_cons.mp hp with rfl | hp
  ·exact z'
  ·refine zjv (fun a b e => ?_) (zov h p hp)
   rcases List.mem_cons.mp e with e | e
   ·cases e; exact .step (.refl _) List.mem_cons_self
   ·rcases List.mem_cons.mp e with e | e
    ·cases e; exact z'
    ·exact .step (.refl _) (List.mem_cons_of_mem _ e)
theorem zBi (L : List (Int × Int)) {x y : Int} : zbe (L.map (mgQ x y)) ↔ zbe (L.map (mgQ y x)) := by
 have one : ∀ x y : Int, zbe (L.map (mgQ x y)) -> zbe (L.map (mgQ y x)) := fun x y h p hp => by
  obtain ⟨q, hq, rfl⟩ := List.mem_map.mp hp
  have r := zov h q hq
  have m := r.map (mgP y x)
  refine zjv (fun a b e => ?_) m
  obtain ⟨t, ht, e⟩ := List.mem_map.mp e
  have e1 : mgP y x t.1 = a := congrArg Prod.fst e
  have e2 : mgP y x t.2 = b := congrArg Prod.snd e
  rcases List.mem_cons.mp ht with rfl | ht
  ·rw [<- e1, <- e2]; show Rch _ (mgP y x x) (mgP y x y); rw [mg_x, mg_y]; exact .refl _
  ·rcases List.mem_cons.mp ht with rfl | ht
   ·rw [<- e1, <- e2]; show Rch _ (mgP y x y) (mgP y x x); rw [mg_x, mg_y]; exact .refl _
   ·rw [<- e1, <- e2]; exact .step (.refl _) (List.mem_map.mpr ⟨t, ht, rfl⟩)
 exact ⟨one x y, one y x⟩
theorem ziw {L : List (Int × Int)} {x y : Int} (h : zbe (L.map (mgQ x y))) (h1 : ¬ Rch L x y) (h2 : ¬ Rch L y x) : zbe L := fun p hp => by
 rcases zte (zov h p hp) with z | ⟨z1, z2⟩
 ·exact z
 ·have thru : ∀ {u v : Int}, Rch L p.2 u -> Rch L v p.1 -> Rch L v u := fun a b => (b.step (show (p.1, p.2) ∈ L from hp)).trans a
  rcases z1 with z1 | z1 <;> rcases z2 with z2 | z2
  ·exact z1.trans z2
  ·exact absurd (thru z1 z2) h2
  ·exact absurd (thru z1 z2) h1
  ·exact z1.trans z2
theorem zAp {L : List (Int × Int)} {x y : Int} (h : zbe (L.map (mgQ x y))) (h1 : Rch L x y) (h2 : Rch L y x) : zbe L := fun p hp => zjv (fun a b e => by
 rcases List.mem_cons.mp e with e | e
 ·cases e; exact h1
 ·rcases List.mem_cons.mp e with e | e
  ·cases e; exact h2
  ·exact .step (.refl _) e) (zov h p hp)
inductive Jnd (L : List (Int × Int)) : Int -> Int -> Prop
 | refl (x : Int) : Jnd L x x
 | fwd {x y z : Int} (h : Jnd L x y) (e : (y, z) ∈ L) : Jnd L x z
 | bwd {x y z : Int} (h : Jnd L x y) (e : (z, y) ∈ L) : Jnd L x z
theorem Rch.jnd {L : List (Int × Int)} {x y : Int} (h : Rch L x y) : Jnd L x y := by
 induction h with
 | refl => exact .refl _
 | step _ e ih => exact .fwd ih e
theorem Jnd.symm' {L : List (Int × Int)} {x y z : Int} (h : Jnd L x y) : Jnd L z x -> Jnd L z y := by
 induction h with
 | refl => exact id
 | fwd _ e ih => exact fun z => .fwd (ih z) e
 | bwd _ e ih => exact fun z => .bwd (ih z) e
theorem Jnd.symm {L : List (Int × Int)} {x y : Int} (h : Jnd L x y) : Jnd L y x := by
 induction h with
 | refl => exact .refl _
 | fwd _ e ih => exact Jnd.symm' ih (.bwd (.refl _) e)
 | bwd _ e ih => exact Jnd.symm' ih (.fwd (.refl _) e)
theorem zyx {L : List (Int × Int)} (h : zbe L) {x y : Int} (j : Jnd L x y) : Rch L x y := by
 induction j with
 | refl => exact .refl _
 | fwd _ e ih => exact .step ih e
 | bwd _ e ih => exact ih.trans (h _ e)
theorem rd_dc (L : List (Int × Int)) {x y : Int} (j : Jnd L x y) : oneB (zbe ((x, y) :: L)) + oneB (zbe ((y, x) :: L)) = oneB (zbe (L.map (mgQ x y))) + oneB (zbe L) := by
 by_cases r : zbe (L.map (mgQ x y))
 ·rw [zcg r]
  have r' := (zBi L).mp r
  by_cases h1 : Rch L x y
  ·rw [zcg ((zlh r').mpr h1)]
   by_cases h2 : Rch L y x
   ·rw [zcg ((zlh r).mpr h2), zcg (zAp r h1 h2)]
   ·rw [zbt (fun z => h2 ((zlh r).mp z)), zbt (fun z => h2 (zyx z j.symm))]
  ·rw [zbt (fun z => h1 ((zlh r').mp z))]
   have nr : ¬ zbe L := fun z => h1 (zyx z j)
   by_cases h2 : Rch L y x
   ·rw [zcg ((zlh r).mpr h2), zbt nr]
   ·exact absurd (ziw r h1 h2) nr
 ·have a : ∀ u v, mgP x y u = mgP x y v -> ¬ zbe ((u, v) :: L) := fun u v e z => r fun p hp => by
   have h := ztc (x := x) (y := y) z p (List.mem_cons_of_mem _ hp)
   refine zjv (fun s t e' => ?_) h
   rcases List.mem_cons.mp e' with e' | e'
   ·have e1 : s = mgP x y u := congrArg Prod.fst e'
    have e2 : t = mgP x y v := congrArg Prod.snd e'
    rw [e1, e2, e]; exact .refl _
   ·exact .step (.refl _) e'
  rw [zbt r, zbt (a x y (by rw [mg_x, mg_y])), zbt (a y x (by rw [mg_x, mg_y])), zbt (fun z => r (ztc z))]
theorem ztd (L : List (Int × Int)) {x y : Int} (j : ¬ Jnd L x y) : ¬ zbe ((x, y) :: L) /\ ¬ zbe ((y, x) :: L) /\ (zbe (L.map (mgQ x y)) ↔ zbe L) := by
 have h1 : ¬ Rch L x y := fun z => j z.jnd
 have h2 : ¬ Rch L y x := fun z => j z.jnd.symm
 refine ⟨fun z => ?_, fun z => ?_, fun z => ziw z h1 h2, ztc⟩
 ·rcases zft (z (x, y) List.mem_cons_self) with z | z
  ·exact h2 z
  ·exact h2 z.2
 ·rcases zft (z (y, x) List.mem_cons_self) with z | z
  ·exact h1 z
  ·exact h1 z.2
theorem zAo (L : List (Int × Int)) (x : Int) : zbe ((x, x) :: L) ↔ zbe L := by
 constructor
 ·intro z p hp
  rcases zft (z p (List.mem_cons_of_mem _ hp)) with z | z
  ·exact z
  ·exact z.1.trans z.2
 ·intro z p hp
  rcases List.mem_cons.mp hp with rfl | hp
  ·exact .refl _
  ·exact (z p hp).mono fun q hq => List.mem_cons_of_mem _ hq
end My
namespace My
open PySem L2
def suc1 (A : List Int) : List Int := A.map (· + 1)
theorem zmu {e : Int × Int} {ps : List (Int × Int)} (h8 : (e :: ps).length <= 8) : (allP (e :: ps)).Perm ((allP ps).flatMap fun A => [suc1 A, 0 :: suc1 A]) := by
 have h8' : ps.length <= 8 := by rw [List.length_cons] at h8; lia
 have nd2 : ((allP ps).flatMap fun A => [suc1 A, 0 :: suc1 A]).Nodup := by
  have nd : (allP ps).Nodup := zks h8'
  have pos : ∀ A ∈ allP ps, ∀ k ∈ suc1 A, 1 <= k := fun A hA k hk => by
   unfold suc1 at hk
   obtain ⟨j, hj, rfl⟩ := List.mem_map.mp hk
   have := (zcj h8' hA j hj).1
   lia
  have inj : ∀ A B : List Int, suc1 A = suc1 B -> A = B := fun A B h => by
   unfold suc1 at h
   exact List.map_inj_right (fun a b z => by lia) |>.mp h
  generalize allP ps = l at nd pos
  induction l with
  | nil => exact .nil
  | cons A l ih =>
   obtain ⟨n1, n2⟩ := List.nodup_cons.mp nd
   rw [List.flatMap_cons]
   have p0 := pos A List.mem_cons_self
   have no0 : ∀ B ∈ A :: l, (0 : Int) ∉ suc1 B := fun B hB z => by have := pos B hB 0 z; lia
   refine List.nodup_append.mpr ⟨?_, ih n2 fun B hB => pos B (List.mem_cons_of_mem _ hB), fun x hx y hy e => ?_⟩
   ·refine List.nodup_cons.mpr ⟨fun z => ?_, by simp⟩
    have := List.mem_singleton.mp z
    exact no0 A List.mem_cons_self (by rw [this]; exact List.mem_cons_self)
   ·subst e
    obtain ⟨B, hB, hx2⟩ := List.mem_flatMap.mp hy
    have hB' := List.mem_cons_of_mem A hB
    simp only [List.mem_cons, List.not_mem_nil, or_false] at hx hx2
    have : A = B := by
     rcases hx with rfl | rfl <;> rcases hx2 with e | e
     ·exact inj _ _ e
     ·exact absurd (by rw [e]; exact List.mem_cons_self) (no0 A List.mem_cons_self)
     ·exact absurd (by rw [<- e]; exact List.mem_cons_self) (no0 B hB')
     ·exact inj _ _ (List.cons.inj e).2
    exact n1 (by rw [this]; exact hB)
 refine (List.perm_ext_iff_of_nodup (zks h8) nd2).mpr fun A => ?_
 show A ∈ allP (e :: ps) ↔ _
 rw [zbv h8, List.mem_flatMap]
 have up1 : ∀ B : List Int, B.Pairwise (· < ·) -> (suc1 B).Pairwise (· < ·) := fun B h => by
  unfold suc1
  rw [List.pairwise_map]
  exact h.imp fun z => by lia
 constructor
 ·rintro ⟨ks, up⟩
  have low : ∀ B : List Int, B.Pairwise (· < ·) -> (∀ k ∈ B, 1 <= k /\ k < (ps.length : Int) + 1) -> (B.map (· - 1)) ∈ allP ps /\ suc1 (B.map (· - 1)) = B := fun B hB kB => by
   refine ⟨(zbv h8').mpr ⟨fun k hk => ?_, ?_⟩, ?_⟩
   ·obtain ⟨j, hj, rfl⟩ := List.mem_map.mp hk
    have := kB j hj
    exact ⟨by lia, by lia⟩
   ·rw [List.pairwise_map]
    exact hB.imp fun z => by lia
   ·unfold suc1
    rw [List.map_map]
    refine Eq.trans (List.map_congr_left (g := id) fun k _ => ?_) (List.map_id B)
    show k - 1 + 1 = k
    lia
  have kA : ∀ k ∈ A, 0 <= k /\ k < (ps.length : Int) + 1 := fun k hk => by
   have := ks k hk
   rw [List.length_cons] at this
   exact ⟨this.1, by lia⟩
  cases A with
  | nil => exact ⟨[], (low [] .nil fun k hk => nomatch hk).1, by simp [suc1]⟩
  | cons a A =>
   obtain ⟨u1, u2⟩ := List.pairwise_cons.mp up
   by_cases c : a = 0
   ·subst c
    obtain ⟨m1, m2⟩ := low A u2 fun k hk => ⟨by have := u1 k hk; lia, (kA k (List.mem_cons_of_mem _ hk)).2⟩
    exact ⟨_, m1, by rw [m2]; simp⟩
   ·have a1 := (kA a List.mem_cons_self).1
    obtain ⟨m1, m2⟩ := low (a :: A) up fun k hk => ⟨by
     rcases List.mem_cons.mp hk with rfl | hk
     ·lia
     ·have := u1 k hk; lia, (kA k hk).2⟩
    exact ⟨_, m1, by rw [m2]; simp⟩
 ·rintro ⟨B, hB, h⟩
  obtain ⟨kB, uB⟩ := (zbv h8').mp hB
  have k1 : ∀ k ∈ suc1 B, 1 <= k /\ k < (ps.length : Int) + 1 := fun k hk => by
   unfold suc1 at hk
   obtain ⟨j, hj, rfl⟩ := List.mem_map.mp hk
   have := kB j hj
   exact ⟨by lia, by lia⟩
  simp only [List.mem_cons, List.not_mem_nil, or_false] at h
  rcases h with rfl | rfl
  ·exact ⟨fun k hk => by have := k1 k hk; rw [List.length_cons]; exact ⟨by lia, by lia⟩, up1 B uB⟩
  ·refine ⟨fun k hk => ?_, List.pairwise_cons.mpr ⟨fun k hk => by have := k1 k hk; lia, up1 B uB⟩⟩
   rw [List.length_cons]
   rcases List.mem_cons.mp hk with rfl | hk
   ·exact ⟨by lia, by lia⟩
   ·have := k1 k hk; exact ⟨by lia, by lia⟩
theorem zfz {e : Int × Int} {ps : List (Int × Int)} : ∀ (A hs : List Int), (∀ k ∈ A, 0 <= k) -> hdF (e :: ps) hs (suc1 A) = hdF ps hs A
 | [], hs, _ => rfl
 | k :: A, hs, h => by
  have k0 := h k List.mem_cons_self
  have et : tieN (e :: ps) (k + 1) = tieN ps k := by
   unfold tieN
   rw [show (k + 1).toNat = k.toNat + 1 by lia, List.getD_cons_succ]
  show hdF (e :: ps) (stepH hs (tieN (e :: ps) (k + 1))) (suc1 A) = hdF ps (stepH hs (tieN ps k)) A
  rw [et]
  exact zfz A _ fun j hj => h j (List.mem_cons_of_mem _ hj)
theorem zkf {e : Int × Int} {ps : List (Int × Int)} (hs A : List Int) : hdF (e :: ps) hs (0 :: A) = hdF (e :: ps) (stepH hs e) A := rfl
theorem znx : ∀ m, (allW m).Nodup
 | 0 => by show ([[]] : List (List Int)).Nodup; simp
 | m + 1 => by
  show ((allW m).flatMap fun p => [p ++ [0], p ++ [1]]).Nodup
  have := znx m
  generalize allW m = l at this
  induction l with
  | nil => simp
  | cons a l ih =>
   obtain ⟨n1, n2⟩ := List.nodup_cons.mp this
   rw [List.flatMap_cons]
   refine List.nodup_append.mpr ⟨?_, ih n2, fun x hx y hy e => ?_⟩
   ·simp
   ·subst e
    obtain ⟨b, hb, hx2⟩ := List.mem_flatMap.mp hy
    simp only [List.mem_cons, List.not_mem_nil, or_false] at hx hx2
    have : a = b := by
     rcases hx with rfl | rfl <;> rcases hx2 with e | e <;> exact (List.append_inj' e rfl).1
    exact n1 (by rw [this]; exact hb)
theorem zmt (m : Nat) : (allW (m + 1)).Perm ((allW m).flatMap fun w => [0 :: w, 1 :: w]) := by
 have nd2 : ((allW m).flatMap fun w => [(0 : Int) :: w, 1 :: w]).Nodup := by
  have nd := znx m
  generalize allW m = l at nd
  induction l with
  | nil => exact .nil
  | cons a l ih =>
   obtain ⟨n1, n2⟩ := List.nodup_cons.mp nd
   rw [List.flatMap_cons]
   refine List.nodup_append.mpr ⟨by simp, ih n2, fun x hx y hy e => ?_⟩
   subst e
   obtain ⟨b, hb, hx2⟩ := List.mem_flatMap.mp hy
   simp only [List.mem_cons, List.not_mem_nil, or_false] at hx hx2
   have : a = b := by
    rcases hx with rfl | rfl <;> rcases hx2 with e | e <;> exact (List.cons.inj e).2
   exact n1 (by rw [this]; exact hb)
 refine (List.perm_ext_iff_of_nodup (znx _) nd2).mpr fun w => ?_
 rw [mem_allW, List.mem_flatMap]
 constructor
 ·rintro ⟨wl, w01⟩
  cases w with
  | nil => cases wl
  | cons b w =>
   refine ⟨w, mem_allW.mpr ⟨Nat.succ.inj wl, fun x hx => w01 x (List.mem_cons_of_mem _ hx)⟩, ?_⟩
   rcases w01 b List.mem_cons_self with rfl | rfl <;> simp
 ·rintro ⟨v, hv, h⟩
  obtain ⟨vl, v01⟩ := mem_allW.mp hv
  simp only [List.mem_cons, List.not_mem_nil, or_false] at h
  rcases h with rfl | rfl
  ·exact ⟨by rw [List.length_cons, vl], fun x hx => (List.mem_cons.mp hx).elim (fun z => .inl z) (v01 x)⟩
  ·exact ⟨by rw [List.length_cons, vl], fun x hx => (List.mem_cons.mp hx).elim (fun z => .inr z) (v01 x)⟩
def labQ (hs : List Int) (q : Int × Int) : Int × Int := (at0 hs q.1, at0 hs q.2)
noncomputable def aW (qs : List (Int × Int)) : Int := sm (allW qs.length) fun w => (oneB (zbb (zat qs w)) : Int)
noncomputable def bW (qs : List (Int × Int)) : Int := sm (allW qs.length) fun w => (oneB (zbe (zat qs w)) : Int)
def sA (hs : List Int) (ps : List (Int × Int)) : Int := sm (allP ps) fun A => sgn (A.length + zau (hdF ps hs A))
def sB (hs : List Int) (ps : List (Int × Int)) : Int := sm (allP ps) fun A => sgn (zau (hdF ps hs A))
theorem zwv (A : List Int) : (suc1 A).length = A.length := by unfold suc1; rw [List.length_map]
theorem zAl {hs : List Int} {e : Int × Int} {ps : List (Int × Int)} (h8 : (e :: ps).length <= 8) : sA hs (e :: ps) = sA hs ps - sA (stepH hs e) ps := by
 have h8' : ps.length <= 8 := by rw [List.length_cons] at h8; lia
 unfold sA
 rw [zew (zmu h8), zex]
 have : (sm (allP ps) fun A => sm [suc1 A, 0 :: suc1 A] fun A => sgn (A.length + zau (hdF (e :: ps) hs A))) = sm (allP ps) fun A => sgn (A.length + zau (hdF ps hs A)) + (-1) * sgn (A.length + zau (hdF ps (stepH hs e) A)) := zah fun A hA => by
  have k0 : ∀ k ∈ A, 0 <= k := fun k hk => (zcj h8' hA k hk).1
  rw [zbf, zbf, zlf, zfz A hs k0, zkf, zfz A _ k0, List.length_cons, zwv, show A.length + 1 + zau (hdF ps (stepH hs e) A) = A.length + zau (hdF ps (stepH hs e) A) + 1 by lia, zdc]
  lia
 rw [this, zfg, zer]
 lia
theorem zAk {hs : List Int} {e : Int × Int} {ps : List (Int × Int)} (h8 : (e :: ps).length <= 8) : sB hs (e :: ps) = sB hs ps + sB (stepH hs e) ps := by
 have h8' : ps.length <= 8 := by rw [List.length_cons] at h8; lia
 unfold sB
 rw [zew (zmu h8), zex, <- zfg]
 refine zah fun A hA => ?_
 have k0 : ∀ k ∈ A, 0 <= k := fun k hk => (zcj h8' hA k hk).1
 rw [zbf, zbf, zlf, zfz A hs k0, zkf, zfz A _ k0]
 lia
theorem zcv (q : Int × Int) (qs : List (Int × Int)) (b : Int) (w : List Int) : zat (q :: qs) (b :: w) = (if b = 0 then q else (q.2, q.1)) :: zat qs w := rfl
theorem zkt (q : Int × Int) (qs : List (Int × Int)) : aW (q :: qs) = sm (allW qs.length) fun w => (oneB (zbb (q :: zat qs w)) : Int) + oneB (zbb ((q.2, q.1) :: zat qs w)) := by
 unfold aW
 rw [List.length_cons, zew (zmt _), zex]
 refine zah fun w _ => ?_
 rw [zbf, zbf, zlf, zcv, zcv, if_pos rfl, if_neg (by decide)]
 lia
theorem zid (q : Int × Int) (qs : List (Int × Int)) : bW (q :: qs) = sm (allW qs.length) fun w => (oneB (zbe (q :: zat qs w)) : Int) + oneB (zbe ((q.2, q.1) :: zat qs w)) := by
 unfold bW
 rw [List.length_cons, zew (zmt _), zex]
 refine zah fun w _ => ?_
 rw [zbf, zbf, zlf, zcv, zcv, if_pos rfl, if_neg (by decide)]
 lia
theorem zfk (x y : Int) : ∀ (qs : List (Int × Int)) (w : List Int), zat (qs.map (mgQ x y)) w = (zat qs w).map (mgQ x y)
 | [], w => by unfold zat; simp
 | q :: qs, [] => by unfold zat; simp
 | q :: qs, b :: w => by
  rw [List.map_cons, zcv, zcv, List.map_cons, zfk x y qs w]
  congr 1
  by_cases c : b = 0
  ·rw [if_pos c, if_pos c]
  ·rw [if_neg c, if_neg c]; rfl
theorem aW_dc (qs : List (Int × Int)) {x y : Int} (xy : x ≠ y) : aW ((x, y) :: qs) = aW qs + aW (qs.map (mgQ x y)) := by
 rw [zkt]
 unfold aW
 rw [List.length_map, <- zfg]
 refine zah fun w _ => ?_
 rw [zfk]
 have := rl_dc (zat qs w) xy
 simp only at this ⊢
 lia
theorem zCs (qs : List (Int × Int)) (x : Int) : aW ((x, x) :: qs) = 0 := by
 rw [zkt]
 have : (sm (allW qs.length) fun w => (oneB (zbb ((x, x) :: zat qs w)) : Int) + oneB (zbb ((((x, x) : Int × Int).2, ((x, x) : Int × Int).1) :: zat qs w))) = sm (allW qs.length) fun _ => (0 : Int) := zah fun w _ => by
  have no : ¬ zbb ((x, x) :: zat qs w) := fun z => z (x, x) List.mem_cons_self (.refl _)
  simp only
  rw [zbt no]
  rfl
 rw [this, zdf, Int.mul_zero]
theorem zCr (qs : List (Int × Int)) (x y : Int) : aW ((x, y) :: qs) = aW ((y, x) :: qs) := by
 rw [zkt, zkt]
 exact zah fun w _ => Int.add_comm _ _
theorem zgw {hs : List Int} {e : Int × Int} (ne : at0 hs e.1 ≠ at0 hs e.2) : ∃ x y, x ≠ y /\ ((at0 hs e.1 = x /\ at0 hs e.2 = y) \/ (at0 hs e.1 = y /\ at0 hs e.2 = x)) /\ stepH hs e = hs.map (mgP x y) := by
 by_cases c : at0 hs e.2 < at0 hs e.1
 ·refine ⟨at0 hs e.2, at0 hs e.1, fun z => ne z.symm, .inr ⟨rfl, rfl⟩, ?_⟩
  unfold stepH
  rw [if_neg (by lia), if_pos c]
  rfl
 ·refine ⟨at0 hs e.1, at0 hs e.2, ne, .inl ⟨rfl, rfl⟩, ?_⟩
  unfold stepH
  rw [if_pos (by lia), if_neg c]
  rfl
def InL (m : Nat) (ps : List (Int × Int)) : Prop := ∀ p ∈ ps, InN (m : Int) p
theorem znm {hs : List Int} {x y : Int} {ps : List (Int × Int)} (hb : InL hs.length ps) : ps.map (labQ (hs.map (mgP x y))) = (ps.map (labQ hs)).map (mgQ x y) := by
 rw [List.map_map]
 refine List.map_congr_left fun p hp => ?_
 have b := hb p hp
 show (at0 (hs.map (mgP x y)) p.1, at0 (hs.map (mgP x y)) p.2) = (mgP x y (at0 hs p.1), mgP x y (at0 hs p.2))
 rw [zev b.1 b.2.1, zev b.2.2.1 b.2.2.2]
theorem zvi {hs : List Int} {x y : Int} (xy : x ≠ y) (hx : x ∈ hs) (hy : y ∈ hs) : zau (hs.map (mgP x y)) + 1 = zau hs := zcn xy hx hy
theorem zna : ∀ (ps : List (Int × Int)) (hs : List Int), ps.length <= 8 -> InL hs.length ps -> sA hs ps = sgn (zau hs) * aW (ps.map (labQ hs))
 | [], hs, _, _ => by
  have e : allP [] = [[]] := by decide
  unfold sA aW
  rw [e]
  show sgn (0 + zau (hdF [] hs [])) + 0 = sgn (zau hs) * ((oneB (zbb []) : Int) + 0)
  rw [zcg (show zbb [] from fun p hp => nomatch hp), Nat.zero_add]
  show sgn (zau hs) + 0 = _
  lia
 | e :: ps, hs, h8, hb => by
  have h8' : ps.length <= 8 := by rw [List.length_cons] at h8; lia
  have hb' : InL hs.length ps := fun p hp => hb p (List.mem_cons_of_mem _ hp)
  have eb := hb e List.mem_cons_self
  rw [zAl h8, List.map_cons]
  show _ = _ * aW ((at0 hs e.1, at0 hs e.2) :: ps.map (labQ hs))
  by_cases c : at0 hs e.1 = at0 hs e.2
  ·rw [zca c, c, zCs, Int.mul_zero]
   lia
  ·obtain ⟨x, y, xy, h, es⟩ := zgw c
   have m1 := zie (l := hs) eb.1 eb.2.1
   have m2 := zie (l := hs) eb.2.2.1 eb.2.2.2
   have mem : x ∈ hs /\ y ∈ hs := by
    rcases h with ⟨a, b⟩ | ⟨a, b⟩
    ·rw [<- a, <- b]; exact ⟨m1, m2⟩
    ·rw [<- a, <- b]; exact ⟨m2, m1⟩
   have dd := zvi xy mem.1 mem.2
   have ea : aW ((at0 hs e.1, at0 hs e.2) :: ps.map (labQ hs)) = aW ((x, y) :: ps.map (labQ hs)) := by
    rcases h with ⟨a, b⟩ | ⟨a, b⟩
    ·rw [a, b]
    ·rw [a, b, zCr]
   rw [ea, aW_dc _ xy, zna ps hs h8' hb', es, zna ps (hs.map (mgP x y)) h8' (by rw [List.length_map]; exact hb'), znm hb', <- dd, zdc]
   generalize sgn (zau (hs.map (mgP x y))) = s
   generalize aW (ps.map (labQ hs)) = u
   generalize aW ((ps.map (labQ hs)).map (mgQ x y)) = v
   rw [Int.mul_add, Int.neg_mul, Int.neg_mul]
   lia
theorem Jnd.sub {L M : List (Int × Int)} (h : ∀ a b, (a, b) ∈ L -> (a, b) ∈ M \/ (b, a) ∈ M) {x y : Int} (j : Jnd L x y) : Jnd M x y := by
 induction j with
 | refl => exact .refl _
 | fwd _ e ih => exact (h _ _ e).elim (fun z => .fwd ih z) fun z => .bwd ih z
 | bwd _ e ih => exact (h _ _ e).elim (fun z => .bwd ih z) fun z => .fwd ih z
theorem Jnd.trans {L : List (Int × Int)} {x y z : Int} (h1 : Jnd L x y) (h2 : Jnd L y z) : Jnd L x z := Jnd.symm' h2 h1
theorem zly {qs : List (Int × Int)} {w : List Int} (wl : w.length = qs.length) {x y : Int} : Jnd (zat qs w) x y ↔ Jnd qs x y := by
 constructor
 ·refine Jnd.sub fun a b h => ?_
  obtain ⟨p, hp, e⟩ := zja h
  rcases e with e | e <;> cases e
  ·exact .inl hp
  ·exact .inr hp
 ·refine Jnd.sub fun a b h => ?_
  obtain ⟨i, hi, e⟩ := List.mem_iff_getElem.mp h
  have hw : i < w.length := by lia
  have g := zjb (ps := qs) (w := w) (i := i) (p := (a, b)) (b := w[i]) (by rw [List.getElem?_eq_getElem hi, e]) (List.getElem?_eq_getElem hw)
  by_cases c : w[i] = 0
  ·rw [if_pos c] at g; exact .inl (List.mem_of_getElem? g)
  ·rw [if_neg c] at g; exact .inr (List.mem_of_getElem? g)
theorem zkd {L : List (Int × Int)} {u v : Int} (a b : Int) (h : mgP u v a = mgP u v b) : Jnd ((u, v) :: L) a b := by
 have xy : Jnd ((u, v) :: L) u v := .fwd (.refl _) List.mem_cons_self
 unfold mgP at h
 by_cases ca : a = v
 ·by_cases cb : b = v
  ·rw [ca, cb]; exact .refl _
  ·rw [if_pos ca, if_neg cb] at h
   rw [ca, <- h]; exact xy.symm
 ·by_cases cb : b = v
  ·rw [if_neg ca, if_pos cb] at h
   rw [cb, h]; exact xy
  ·rw [if_neg ca, if_neg cb] at h
   rw [h]; exact .refl _
theorem zxu {L : List (Int × Int)} {u v s t : Int} (r : Jnd (L.map (mgQ u v)) s t) : ∀ a b, mgP u v a = s -> mgP u v b = t -> Jnd ((u, v) :: L) a b := by
 induction r with
 | refl => intro a b ha hb; exact zkd a b (ha.trans hb.symm)
 | @fwd y z _ e ih =>
  intro a b ha hb
  obtain ⟨⟨c, d⟩, hq, e⟩ := List.mem_map.mp e
  have e1 : mgP u v c = y := congrArg Prod.fst e
  have e2 : mgP u v d = z := congrArg Prod.snd e
  exact ((ih a c ha e1).fwd (List.mem_cons_of_mem _ hq)).trans (zkd d b (e2.trans hb.symm))
 | @bwd y z _ e ih =>
  intro a b ha hb
  obtain ⟨⟨c, d⟩, hq, e⟩ := List.mem_map.mp e
  have e1 : mgP u v c = z := congrArg Prod.fst e
  have e2 : mgP u v d = y := congrArg Prod.snd e
  exact ((ih a d ha e2).bwd (List.mem_cons_of_mem _ hq)).trans (zkd c b (e1.trans hb.symm))
theorem zzm {L : List (Int × Int)} {u v : Int} (a b : Int) : Jnd (L.map (mgQ u v)) (mgP u v a) (mgP u v b) ↔ Jnd ((u, v) :: L) a b := by
 constructor
 ·exact fun h => zxu h a b rfl rfl
 ·intro h
  induction h with
  | refl => exact .refl _
  | fwd _ e ih =>
   rcases List.mem_cons.mp e with e | e
   ·cases e; rw [mg_y]; rw [mg_x] at ih; exact ih
   ·exact .fwd ih (List.mem_map.mpr ⟨_, e, rfl⟩)
  | bwd _ e ih =>
   rcases List.mem_cons.mp e with e | e
   ·cases e; rw [mg_x]; rw [mg_y] at ih; exact ih
   ·exact .bwd ih (List.mem_map.mpr ⟨_, e, rfl⟩)
theorem zBm {x y : Int} (h : Jnd [] x y) : x = y := by
 induction h with
 | refl => rfl
 | fwd _ e _ => cases e
 | bwd _ e _ => cases e
def phi (a b h : Int) : Int := if h = (if b > a then b else a) then (if b < a then b else a) else h
theorem zfd (hs : List Int) (p : Int × Int) : stepH hs p = hs.map (phi (at0 hs p.1) (at0 hs p.2)) := rfl
theorem zxi (a b c d h : Int) : phi (phi a b c) (phi a b d) (phi a b h) = phi (phi c d a) (phi c d b) (phi c d h) := by
 have mx : ∀ a b h : Int, phi a b h = if h = max a b then min a b else h := fun a b h => by
  unfold phi
  by_cases c : b > a
  ·rw [if_pos c, if_neg (show ¬ b < a by lia), Int.max_eq_right (by lia), Int.min_eq_left (by lia)]
  ·by_cases c2 : b < a
   ·rw [if_neg c, if_pos c2, Int.max_eq_left (by lia), Int.min_eq_right (by lia)]
   ·rw [if_neg c, if_neg c2, Int.max_eq_left (by lia), Int.min_eq_left (by lia)]
 simp only [mx]
 grind
theorem zry {hs : List Int} {e f : Int × Int} (he : InN (hs.length : Int) e) (hf : InN (hs.length : Int) f) : stepH (stepH hs e) f = stepH (stepH hs f) e := by
 have l1 : ((stepH hs e).length : Int) = hs.length := by rw [zhc]
 rw [zfd (stepH hs e), zfd (stepH hs f), zfd hs e, zfd hs f, zev hf.1 hf.2.1, zev hf.2.2.1 hf.2.2.2, zev he.1 he.2.1, zev he.2.2.1 he.2.2.2, List.map_map, List.map_map]
 exact List.map_congr_left fun h _ => zxi _ _ _ _ h
def dAll (hs : List Int) (ps : List (Int × Int)) : Nat := zau (ps.foldl stepH hs)
theorem zhx (hs : List Int) (e : Int × Int) (ps : List (Int × Int)) : dAll hs (e :: ps) = dAll (stepH hs e) ps := rfl
theorem zuy : ∀ (ps : List (Int × Int)) (hs : List Int), hdF ps hs (ups ps.length) = ps.foldl stepH hs
 | [], hs => rfl
 | e :: ps, hs => by
  have eu : ups ((e :: ps).length : Int) = 0 :: suc1 (ups ps.length) := by
   unfold ups suc1
   rw [Int.toNat_natCast, Int.toNat_natCast, List.length_cons, List.range_succ_eq_map, List.map_cons, List.map_map, List.map_map]
   rfl
  have k0 : ∀ k ∈ ups (ps.length : Int), 0 <= k := fun k hk => (zcf ps.length k hk).1
  rw [eu, zkf, zfz _ _ k0, zuy ps]
  rfl
theorem zhw : ∀ (ps : List (Int × Int)) (hs : List Int) (e : Int × Int), InL hs.length ps -> InN (hs.length : Int) e -> at0 hs e.1 ≠ at0 hs e.2 ->
  (Jnd (ps.map (labQ hs)) (at0 hs e.1) (at0 hs e.2) -> dAll hs ps = dAll (stepH hs e) ps) /\ (¬ Jnd (ps.map (labQ hs)) (at0 hs e.1) (at0 hs e.2) -> dAll hs ps = dAll (stepH hs e) ps + 1)
 | [], hs, e, _, he, ne => by
  refine ⟨fun j => absurd (zBm j) ne, fun _ => ?_⟩
  obtain ⟨x, y, xy, h, es⟩ := zgw ne
  have m1 := zie (l := hs) he.1 he.2.1
  have m2 := zie (l := hs) he.2.2.1 he.2.2.2
  have mem : x ∈ hs /\ y ∈ hs := by
   rcases h with ⟨a, b⟩ | ⟨a, b⟩
   ·rw [<- a, <- b]; exact ⟨m1, m2⟩
   ·rw [<- a, <- b]; exact ⟨m2, m1⟩
  show zau hs = zau (stepH hs e) + 1
  rw [es]
  exact (zvi xy mem.1 mem.2).symm
 | f :: ps, hs, e, hb, he, ne => by
  have hb' : InL hs.length ps := fun p hp => hb p (List.mem_cons_of_mem _ hp)
  have hf := hb f List.mem_cons_self
  rw [zhx, zhx, zry he hf, List.map_cons]
  by_cases cf : at0 hs f.1 = at0 hs f.2
  ·rw [zca cf]
   have ih := zhw ps hs e hb' he ne
   have jj : Jnd (labQ hs f :: ps.map (labQ hs)) (at0 hs e.1) (at0 hs e.2) ↔ Jnd (ps.map (labQ hs)) (at0 hs e.1) (at0 hs e.2) := by
    have eq : labQ hs f = (at0 hs f.1, at0 hs f.1) := by unfold labQ; rw [<- cf]
    rw [eq, <- zzm]
    have id1 : ∀ z, mgP (at0 hs f.1) (at0 hs f.1) z = z := fun z => by unfold mgP; split <;> lia
    have id2 : (ps.map (labQ hs)).map (mgQ (at0 hs f.1) (at0 hs f.1)) = ps.map (labQ hs) := by
     refine Eq.trans (List.map_congr_left (g := id) fun q _ => ?_) (List.map_id _)
     show (mgP _ _ q.1, mgP _ _ q.2) = q
     rw [id1, id1]
    rw [id1, id1, id2]
   rw [jj]
   exact ih
  ·obtain ⟨x, y, xy, h, es⟩ := zgw cf
   have jj : Jnd (labQ hs f :: ps.map (labQ hs)) (at0 hs e.1) (at0 hs e.2) ↔ Jnd ((x, y) :: ps.map (labQ hs)) (at0 hs e.1) (at0 hs e.2) := by
    have sw : ∀ a b c d : Int, ((a = c /\ b = d) \/ (a = d /\ b = c)) -> ∀ {s t : Int}, Jnd ((a, b) :: ps.map (labQ hs)) s t -> Jnd ((c, d) :: ps.map (labQ hs)) s t := fun a b c d hh s t => Jnd.sub fun u v m => by
     rcases List.mem_cons.mp m with m | m
     ·cases m
      rcases hh with ⟨rfl, rfl⟩ | ⟨rfl, rfl⟩
      ·exact .inl List.mem_cons_self
      ·exact .inr List.mem_cons_self
     ·exact .inl (List.mem_cons_of_mem _ m)
    refine ⟨sw (at0 hs f.1) (at0 hs f.2) x y h, sw x y (at0 hs f.1) (at0 hs f.2) ?_⟩
    rcases h with ⟨a, b⟩ | ⟨a, b⟩
    ·exact .inl ⟨a.symm, b.symm⟩
    ·exact .inr ⟨b.symm, a.symm⟩
   rw [jj, <- zzm]
   have l1 : at0 (hs.map (mgP x y)) e.1 = mgP x y (at0 hs e.1) := zev he.1 he.2.1
   have l2 : at0 (hs.map (mgP x y)) e.2 = mgP x y (at0 hs e.2) := zev he.2.2.1 he.2.2.2
   rw [es]
   by_cases ce : mgP x y (at0 hs e.1) = mgP x y (at0 hs e.2)
   ·have same : stepH (hs.map (mgP x y)) e = hs.map (mgP x y) := zca (by rw [l1, l2]; exact ce)
    rw [same]
    exact ⟨fun _ => rfl, fun z => absurd (by rw [ce]; exact .refl _) z⟩
   ·have ih := zhw ps (hs.map (mgP x y)) e (by rw [List.length_map]; exact hb') (by rw [List.length_map]; exact he) (by rw [l1, l2]; exact ce)
    rw [l1, l2, znm hb'] at ih
    exact ih
theorem bW_dc (qs : List (Int × Int)) {x y : Int} (j : Jnd qs x y) : bW ((x, y) :: qs) = bW (qs.map (mgQ x y)) + bW qs := by
 rw [zid]
 unfold bW
 rw [List.length_map, <- zfg]
 refine zah fun w hw => ?_
 rw [zfk]
 have := rd_dc (zat qs w) ((zly (mem_allW.mp hw).1).mpr j)
 simp only at this ⊢
 lia
theorem zwc (qs : List (Int × Int)) {x y : Int} (j : ¬ Jnd qs x y) : bW ((x, y) :: qs) = 0 /\ bW (qs.map (mgQ x y)) = bW qs := by
 have br : ∀ w ∈ allW qs.length, _ := fun w hw => ztd (zat qs w) (x := x) (y := y) fun z => j ((zly (mem_allW.mp hw).1).mp z)
 constructor
 ·rw [zid]
  have : (sm (allW qs.length) fun w => (oneB (zbe ((x, y) :: zat qs w)) : Int) + oneB (zbe ((((x, y) : Int × Int).2, ((x, y) : Int × Int).1) :: zat qs w))) = sm (allW qs.length) fun _ => (0 : Int) := zah fun w hw => by
   simp only
   rw [zbt (br w hw).1, zbt (br w hw).2.1]
   rfl
  rw [this, zdf, Int.mul_zero]
 ·unfold bW
  rw [List.length_map]
  refine zah fun w hw => ?_
  rw [zfk]
  have := (br w hw).2.2
  by_cases c : zbe (zat qs w)
  ·rw [zcg c, zcg (this.mpr c)]
  ·rw [zbt c, zbt fun z => c (this.mp z)]
theorem zCo (qs : List (Int × Int)) (x : Int) : bW ((x, x) :: qs) = 2 * bW qs := by
 rw [zid]
 unfold bW
 rw [<- zer]
 refine zah fun w _ => ?_
 have := zAo (zat qs w) x
 simp only
 by_cases c : zbe (zat qs w)
 ·rw [zcg c, zcg (this.mpr c)]; rfl
 ·rw [zbt c, zbt fun z => c (this.mp z)]; rfl
theorem zCn (qs : List (Int × Int)) (x y : Int) : bW ((x, y) :: qs) = bW ((y, x) :: qs) := by
 rw [zid, zid]
 exact zah fun w _ => Int.add_comm _ _
theorem zqj : ∀ (ps : List (Int × Int)) (hs : List Int), ps.length <= 8 -> InL hs.length ps -> sB hs ps = sgn (dAll hs ps) * bW (ps.map (labQ hs))
 | [], hs, _, _ => by
  have e : allP [] = [[]] := by decide
  unfold sB bW
  rw [e]
  show sgn (zau (hdF [] hs [])) + 0 = sgn (zau hs) * ((oneB (zbe []) : Int) + 0)
  rw [zcg (show zbe [] from fun p hp => nomatch hp)]
  show sgn (zau hs) + 0 = _
  lia
 | e :: ps, hs, h8, hb => by
  have h8' : ps.length <= 8 := by rw [List.length_cons] at h8; lia
  have hb' : InL hs.length ps := fun p hp => hb p (List.mem_cons_of_mem _ hp)
  have eb := hb e List.mem_cons_self
  rw [zAk h8, List.map_cons, zhx]
  show _ = _ * bW ((at0 hs e.1, at0 hs e.2) :: ps.map (labQ hs))
  by_cases c : at0 hs e.1 = at0 hs e.2
  ·rw [zca c, c, zCo, zqj ps hs h8' hb']
   generalize sgn (dAll hs ps) = s
   generalize bW (ps.map (labQ hs)) = u
   rw [Int.mul_left_comm]
   lia
  ·obtain ⟨x, y, xy, h, es⟩ := zgw c
   obtain ⟨j1, j2⟩ := zhw ps hs e hb' eb c
   have ea : bW ((at0 hs e.1, at0 hs e.2) :: ps.map (labQ hs)) = bW ((x, y) :: ps.map (labQ hs)) := by
    rcases h with ⟨a, b⟩ | ⟨a, b⟩
    ·rw [a, b]
    ·rw [a, b, zCn]
   have ej : Jnd (ps.map (labQ hs)) (at0 hs e.1) (at0 hs e.2) ↔ Jnd (ps.map (labQ hs)) x y := by
    rcases h with ⟨a, b⟩ | ⟨a, b⟩
    ·rw [a, b]
    ·rw [a, b]; exact ⟨Jnd.symm, Jnd.symm⟩
   have ih := zqj ps (stepH hs e) h8' (by rw [zhc]; exact hb')
   rw [es, znm hb'] at ih
   rw [ea, es, ih, zqj ps hs h8' hb']
   rw [es] at j1 j2
   by_cases j : Jnd (ps.map (labQ hs)) x y
   ·rw [j1 (ej.mpr j), bW_dc _ j]
    generalize sgn (dAll (hs.map (mgP x y)) ps) = s
    rw [Int.mul_add]
    lia
   ·obtain ⟨b1, b2⟩ := zwc _ j
    rw [j2 (fun z => j (ej.mp z)), b1, b2, zdc]
    generalize sgn (dAll (hs.map (mgP x y)) ps) = s
    generalize bW (ps.map (labQ hs)) = u
    rw [Int.neg_mul]
    lia
def zfy : V -> Bool
 | .int _ => true
 | _ => false
def zgx (lo hi : Int) : V -> Bool
 | .int i => decide (lo <= i) && decide (i <= hi)
 | _ => false
def Plain (K : W.Frag) (H : Hp) (x : V) : Prop := ∃ t, TyOf K H x t /\ ∀ C, t ≠ .ref C
theorem ztl (K : W.Frag) (H : Hp) (i : Int) : Plain K H (.int i) := ⟨_, .int i, fun _ z => nomatch z⟩
theorem zul {K : W.Frag} {H : Hp} {x : V} {t : Value} (h : TyOf K H x t) (hn : ∀ C, t ≠ .ref C) :
  (PySem.W.kitOne K t (.type "int") = some false /\ zfy x = false) \/ (PySem.W.kitOne K t (.type "int") = some true /\ ∃ b, PySem.W.kitOne K t (.type "bool") = some b /\ zfy x = !b) := by
 cases h with
 | non => exact .inl ⟨by first | rfl | decide +kernel, rfl⟩
 | bl b => exact .inr ⟨by first | rfl | decide +kernel, true, by rfl, rfl⟩
 | int i => exact .inr ⟨by rfl, false, by first | rfl | decide +kernel, rfl⟩
 | str x => exact .inl ⟨by first | rfl | decide +kernel, rfl⟩
 | flt x => exact .inl ⟨by first | rfl | decide +kernel, rfl⟩
 | lst e => exact .inl ⟨by first | rfl | decide +kernel, rfl⟩
 | frz e => exact .inl ⟨by first | rfl | decide +kernel, rfl⟩
 | tup e => exact .inl ⟨by first | rfl | decide +kernel, rfl⟩
 | dK e => exact .inl ⟨by first | rfl | decide +kernel, rfl⟩
 | dT e => exact .inl ⟨by first | rfl | decide +kernel, rfl⟩
 | ins => exact absurd rfl (hn _)
def zsa (K : W.Frag) : Sp := fun vs H Q _ => ∃ x, vs = [x] /\ Plain K H x /\ Q (.bl (zfy x)) H
def zoh (K : W.Frag) : Sp := fun vs H Q _ => ∃ x lo hi, vs = [x, .int lo, .int hi] /\ Plain K H x /\ Q (.bl (zgx lo hi x)) H
section
variable {P : Program} {w : World} {K : W.Frag} {mg : Str -> Option Value} {base : Heap}
theorem zwx : zan ["thing"] ["thing"] (zad zdd) := ⟨rfl, rfl, rfl, by decide +kernel, rfl, by decide +kernel, by decide +kernel⟩
theorem zyg (T : Txt K mg) (S : Src K mg "is_whole" zdd ["thing"]) : Def P w K mg base 1 "is_whole" ["thing"] (zsa K) := by
 refine S.def zwx (fun vs H Q E h => ?_) (fun f cdv A outer s H vs Q E hr h => ?_)
 ·obtain ⟨x, rfl, _⟩ := h; rfl
 ·obtain ⟨x, rfl, ⟨t, ty, hn⟩, q⟩ := h
  refine ⟨_, zag (zaw (ziy (zaz (zce K) (by rfl) T.isi zcu (zaa (pv 0) (zaa (zdg (v := .ty "int") rfl T.int zda rfl) zac)))
   (zix (ztp (zaz (zce K) (by rfl) T.isi zcu (zaa (pv 0) (zaa (zdg (v := .ty "bool") rfl T.bool zep rfl) zac))))))), ?_⟩
  rcases zul ty hn with ⟨e1, e2⟩ | ⟨e1, b, e2, e3⟩
  ·rw [e2] at q
   exact ⟨_, rfl, _, _, _, _, _, rfl, rfl, ty, e1, _, rfl, iteF q⟩
  ·rw [e3] at q
   exact ⟨_, rfl, _, _, _, _, _, rfl, rfl, ty, e1, _, rfl, iteT ⟨_, rfl, _, _, _, _, _, rfl, rfl, ty, e2, _, rfl, q⟩⟩
theorem zsw : zan ["thing", "least", "greatest"] ["thing", "least", "greatest"] (zad zfq) := ⟨rfl, rfl, rfl, by decide +kernel, rfl, by decide +kernel, by decide +kernel⟩
theorem zvj (T : Txt K mg) (S : Src K mg "is_whole_within" zfq ["thing", "least", "greatest"]) (D : Def P w K mg base 1 "is_whole" ["thing"] (zsa K)) : Def P w K mg base 2 "is_whole_within" ["thing", "least", "greatest"] (zoh K) := by
 refine S.def zsw (fun vs H Q E h => ?_) (fun f cdv A outer s H vs Q E hr h => ?_)
 ·obtain ⟨x, lo, hi, rfl, _⟩ := h; rfl
 ·obtain ⟨x, lo, hi, rfl, hp, q⟩ := h
  refine ⟨_, zag (zaw (ziy (zaj D hr rfl (zaa (pv 0) zac)) (zix (zxk op_le op_le (pv 1) (pv 0) (pv 2))))), ?_⟩
  refine ⟨_, rfl, _, rfl, hp, _, rfl, ?_⟩
  cases hw : zfy x with
  | false =>
   have e : zgx lo hi x = false := by cases x <;> first | rfl | (simp [zfy] at hw)
   rw [e] at q
   exact iteF q
  | true =>
   obtain ⟨i, rfl⟩ : ∃ i, x = .int i := by cases x <;> first | exact ⟨_, rfl⟩ | (simp [zfy] at hw)
   refine iteT ⟨_, rfl, _, rfl, _, _, rfl, rfl, _, rfl, ?_⟩
   have e : zgx lo hi (.int i) = (decide (lo <= i) && decide (i <= hi)) := rfl
   rw [e] at q
   cases h1 : decide (lo <= i) with
   | false => rw [h1] at q; exact iteF q
   | true => rw [h1] at q; exact iteT ⟨_, rfl, _, _, rfl, rfl, q⟩
end
theorem zmw {i lo hi : Int} (h1 : lo <= i) (h2 : i <= hi) : zgx lo hi (.int i) = true := by
 show (decide (lo <= i) && decide (i <= hi)) = true
 simp [h1, h2]
theorem zfb {H H' : Hp} {l : Addr} (s : Same H H') (h : H' l = none) : H l = none := by
 cases e : H l with
 | none => rfl
 | some o => exact absurd (s _ _ e) (by rw [h]; intro z; cases z)
theorem zrk {n : Nat} {i : Nat} (h : i < n) : (ups n)[i]? = some (i : Int) := by
 unfold ups
 rw [Int.toNat_natCast]
 simp [h]
theorem zyk {k1 k2 : Kd} {K : W.Frag} {a b : Addr} {xs us : List V} {g : TG} {tt : TT} {te : TE} {fin : List V -> Hp -> Prop} {σ : St} {H : Hp} (S : St -> Prop) (Pv : Nat -> List V -> Hp -> Prop) (hσ : S σ) (h0 : Pv 0 [] H) (hz : xs.length < sizeLine)
  (hl : ∀ i ys H, i <= xs.length -> Pv i ys H -> SqK k1 K H a xs /\ SqK k2 K H b us) (hle : xs.length <= us.length)
  (hs : ∀ (i : Nat) (x y : V) (p : Addr) (ys : List V) (σ : St) (H : Hp) (N : List V -> St -> Hp -> Prop), xs[i]? = some x -> us[i]? = some y -> S σ -> Pv i ys H -> H p = none -> (∀ ys' σ' H', S σ' -> Pv (i + 1) ys' H' -> ys'.length <= ys.length + 1 -> N ys' σ' H') ->
   g (.ref p) σ (upd H p (.tup [x, y])) fun σ2 H2 => tt σ2 H2 fun b H3 => if b = true then te σ2 H3 fun y H4 => N (ys ++ [y]) σ2 H4 else N ys σ2 H3)
  (hd : ∀ ys H, Pv xs.length ys H -> fin ys H) : ∃ W, CompW (ItZ k1 k2 K a b) g tt te fin W /\ ∃ m, W 0 m [] σ H := by
 refine ⟨fun i m ys σ H => m = xs.length - i /\ i <= xs.length /\ ys.length <= i /\ S σ /\ Pv i ys H, ?_, xs.length, by simp, Nat.zero_le _, Nat.le_refl _, hσ, h0⟩
 rintro i m ys σ H ⟨rfl, hi, hy, hS, p⟩
 obtain ⟨q, q2⟩ := hl i ys H hi p
 by_cases hlt : i < xs.length
 ·have hlt2 : i < us.length := by omega
  refine .inr ⟨⟨xs, us, xs[i], us[i], q, q2, by simp [hlt], by simp [hlt2]⟩, by omega, fun x H' y => ?_⟩
  obtain ⟨r, x, y, hn, rfl, hx2, hy2, rfl⟩ := y
  exact hs i x y r ys σ H (fun ys' σ' H'' => ∃ m', m' < xs.length - i /\ m' = xs.length - (i + 1) /\ i + 1 <= xs.length /\ ys'.length <= i + 1 /\ S σ' /\ Pv (i + 1) ys' H'') (hx2 xs q) (hy2 us q2) hS p hn (fun ys' σ' H'' a b c => ⟨_, by omega, rfl, hlt, by omega, a, b⟩)
 ·have e : i = xs.length := by omega
  subst e
  exact .inl ⟨⟨xs, q, Nat.le_refl _⟩, by omega, hd ys H p⟩
theorem zCp {H : Hp} {xs : List V} {ps : List (Int × Int)} (h : Paired (TieAt H) xs ps) {j : Nat} (hl : j < ps.length) : ∃ c p, atI xs (j : Int) = some (.ref c) /\ ps[j]? = some p /\ H c = some (.tup [.int p.1, .int p.2]) := by
 have xl := Paired.length h
 have hj : j < xs.length := by omega
 obtain ⟨p, e1, c, e2, e3⟩ := Paired.at h (show xs[j]? = some xs[j] by simp [hj])
 exact ⟨c, p, zar (by rw [List.getElem?_eq_getElem hj, e2]), e1, e3⟩
def spPtg (K : W.Frag) : Sp := fun vs H Q _ => ∃ (wv : V) (n : Int) (ps : List (Int × Int)), vs = [wv] /\ WebAt H wv n ps /\ ps.length <= 8 /\
 ∀ g ys H', Same H H' -> H g = none -> H' g = some (.lst ys) -> Paired (TupAt H') ys (allW ps.length) -> Q (.ref g) H'
def zsf (K : W.Frag) : Sp := fun vs H Q _ => ∃ (wv : V) (pt : Addr) (n : Int) (ps : List (Int × Int)) (w : List Int), vs = [wv, .ref pt] /\ WebAt H wv n ps /\ SqT K H pt (w.map V.int) /\ w.length = ps.length /\ ps.length <= 8 /\
 ∀ l xs H', Same H H' -> H' l = some (.lst xs) -> Paired (TieAt H') xs (zat ps w) -> Q (.ref l) H'
def ext2 (p : List Int) : List (List Int) := [p ++ [0], p ++ [1]]
section
variable {P : Program} {w : World} {K : W.Frag} {mg : Str -> Option Value} {base : Heap}
theorem scPtg : zan ["web", "pointings", "k", "longer", "pointing"] ["web"] (zad sPtg) := ⟨rfl, rfl, rfl, by decide +kernel, rfl, by decide +kernel, by decide +kernel⟩
theorem zhk {m : Nat} (h : m <= 8) : 2 ^ m <= 256 := Nat.pow_le_pow_right (by decide) h
theorem d_ptg (T : Txt K mg) (S : Src K mg "all_pointings" sPtg ["web"]) (DW : Def P w K mg base 1 "whole_pick" ["web"] spWP) : Def P w K mg base 2 "all_pointings" ["web"] (spPtg K) := by
 refine S.def scPtg (fun vs H Q E h => ?_) (fun f cdv A outer s H vs Q E hr h => ?_)
 ·obtain ⟨_, _, _, rfl, _⟩ := h; rfl
 ·obtain ⟨wv, n, ps, rfl, W, h8, q⟩ := h
  have hr1 : Room 1 _ := hr.mono (by decide)
  refine ⟨_, zae (zap (i := 1) scPtg.nd rfl (Or.inl rfl) (zbu (zaa (zbj zac) zac)))
   (zae (zcb PassesOwn.never rfl (zbi K .t (zaj DW hr1 rfl (zaa (pv 0) zac))) (zak (i := 2) scPtg.nd rfl (Or.inl rfl))
    (zae (zap (i := 3) scPtg.nd rfl (Or.inl rfl) (zbu zac))
    (zae (zcb PassesOwn.never rfl (zbi K .l (pv 1)) (zak (i := 4) scPtg.nd rfl (Or.inl rfl))
     (zag (zcx (pe_bm PySem.F.plainAttrs_list PySem.F.slot_list_extend PySem.F.type_list_extend zdx (pv 3) (zaa (zbu (zaa (pe_op (zpi K) (pv 4) (zbj (zaa zaf zac))) (zaa (pe_op (zpi K) (pv 4) (zbj (zaa zaf zac))) zac))) zac)))))
    (zag (zap (i := 1) scPtg.nd rfl (Or.inl rfl) (pv 3))))))
   (zag (zaw (pv 1)))), ?_⟩
  refine ⟨Nat.zero_le _, fun e he => ⟨by show 1 <= sizeLine; decide, fun l hl => ?_⟩⟩
  have s2 := Same.new (o := HO.tup []) he
  have s3 := Same.new (o := HO.lst [.ref e]) hl
  have he2 : (upd (upd H e (.tup [])) l (.lst [.ref e])) e = some (.tup []) := s3 _ _ zab
  have hl2 : (upd (upd H e (.tup [])) l (.lst [.ref e])) l = some (.lst [.ref e]) := zab
  have hlN : H l = none := zfb s2 hl
  have s13 := s2.trans s3
  generalize upd (upd H e (.tup [])) l (.lst [.ref e]) = H3 at he2 hl2 s13 ⊢
  dsimp only [List.set]
  refine ⟨_, rfl, wv, n, ps, rfl, W.same s13, h8, fun t H4 s4 ht4 => ?_⟩
  have s14 := s13.trans s4
  have ul : ((ups ps.length).map V.int).length = ps.length := by rw [List.length_map, zbc]; simp
  refine ⟨t, rfl, ⟨_, SqT.of ht4⟩, zcq (k := .t) (K := K) (a := t) (xs := (ups ps.length).map V.int) (fun i σ H' => ∃ (l : Addr) (ys : List V) (u2 u3 u4 : Option V), σ = [some wv, some (.ref l), u2, u3, u4] /\ Same H H' /\ H l = none /\ H' t = some (.tup ((ups ps.length).map V.int)) /\ H' l = some (.lst ys) /\ Paired (TupAt H') ys (allW i))
   ⟨l, [.ref e], _, _, _, rfl, s14, hlN, ht4, s4 _ _ hl2, .cons ⟨e, rfl, s4 _ _ he2⟩ .nil⟩ (fun i σ H' _ ⟨_, _, _, _, _, _, _, _, z, _⟩ => SqT.of z) ?_ ?_⟩
  ·rintro i x σ H5 hx ⟨l, ys, u2, u3, u4, rfl, s5, lN, ht5, hl5, hy⟩
   have il : i < ps.length := by
    have := (List.getElem?_eq_some_iff.mp hx).1
    omega
   have yl : ys.length <= 256 := by rw [Paired.length hy, zeq]; exact zhk (by omega)
   dsimp only [gName, List.set]
   refine ⟨Nat.zero_le _, fun g hg => ?_⟩
   have gN : H g = none := zfb s5 hg
   have s6 := Same.new (o := HO.lst []) hg
   have hg6 : (upd H5 g (.lst [])) g = some (.lst []) := zab
   generalize upd H5 g (.lst []) = H6 at s6 hg6 ⊢
   dsimp only [List.set]
   refine ⟨_, rfl, l, rfl, ⟨_, SqL.of (s6 _ _ hl5)⟩, zcq (k := .l) (K := K) (a := l) (xs := ys) (fun j σ H' => ∃ (zs : List V) (u : Option V), σ = [some wv, some (.ref l), some x, some (.ref g), u] /\ Same H5 H' /\ H' g = some (.lst zs) /\ Paired (TupAt H') zs (((allW i).take j).flatMap ext2))
    ⟨[], _, rfl, s6, hg6, .nil⟩ (fun j σ H' _ ⟨_, _, _, z, _⟩ => SqL.of (z _ _ hl5)) ?_ ?_⟩
   ·rintro j y σ H7 hyj ⟨zs, u, rfl, s7, hg7, hz⟩
    obtain ⟨p, ep, c, rfl, hc⟩ := Paired.at hy hyj
    have pl : p.length = i := (mem_allW.mp (List.mem_of_getElem? ep)).1
    have hc7 := s7 _ _ hc
    have jl := (List.getElem?_eq_some_iff.mp hyj).1
    have zl : zs.length <= 600 := by
     have e1 : ∀ l : List (List Int), (l.flatMap ext2).length = 2 * l.length := by
      intro l
      induction l with
      | nil => rfl
      | cons a l ih => rw [List.flatMap_cons, List.length_append, ih, List.length_cons]; show 2 + _ = _; omega
     rw [Paired.length hz, e1, List.length_take]
     omega
    dsimp only [gName, List.set]
    refine ⟨_, rfl, .inl ⟨rfl, _, SqL.of hg7⟩, _, rfl, by show 1 <= sizeLine; decide, fun d1 hd1 => ?_⟩
    have s8 := Same.new (o := HO.tup [.int 0]) hd1
    refine ⟨c, d1, _, _, rfl, rfl, s8 _ _ hc7, zab, ?_, fun p1 H9 s9 hp1 => ⟨_, rfl, by show 1 <= sizeLine; decide, fun d2 hd2 => ?_⟩⟩
    ·rw [List.length_map]
     exact Nat.le_of_lt (zdz (show p.length + 1 <= 300 by omega))
    have s79 := s8.trans s9
    have s10 := Same.new (o := HO.tup [.int 1]) hd2
    refine ⟨c, d2, _, _, rfl, rfl, s10 _ _ (s79 _ _ hc7), zab, ?_, fun p2 H11 s11 hp2 => ⟨by show 2 <= sizeLine; decide, fun e5 he5 => ?_⟩⟩
    ·rw [List.length_map]
     exact Nat.le_of_lt (zdz (show p.length + 1 <= 300 by omega))
    have s12 := Same.new (o := HO.lst [.ref p1, .ref p2]) he5
    have s911 := s10.trans s11
    have s712 := s79.trans (s911.trans s12)
    have hg12 := s712 _ _ hg7
    have he12 : (upd H11 e5 (.lst [.ref p1, .ref p2])) e5 = some (.lst [.ref p1, .ref p2]) := zab
    have hp1' : TupAt (upd H11 e5 (.lst [.ref p1, .ref p2])) (.ref p1) (p ++ [0]) := ⟨p1, rfl, by rw [List.map_append]; exact (s911.trans s12) _ _ hp1⟩
    have hp2' : TupAt (upd H11 e5 (.lst [.ref p1, .ref p2])) (.ref p2) (p ++ [1]) := ⟨p2, rfl, by rw [List.map_append]; exact s12 _ _ hp2⟩
    have hz12 := zbq hz s712
    generalize upd H11 e5 (.lst [.ref p1, .ref p2]) = H12 at s12 s712 hg12 he12 hp1' hp2' hz12 ⊢
    refine ⟨g, e5, zs, _, rfl, rfl, hg12, he12, Nat.le_trans (show zs.length + 2 <= 1000 by omega) (by decide), ?_⟩
    refine ⟨zs ++ [.ref p1, .ref p2], _, rfl, zcm (s7.trans s712) hg, zab, ?_⟩
    refine zrq ?_ hg12
    rw [zai ep, List.flatMap_append]
    have := L2.Paired.snoc (L2.Paired.snoc hz12 hp1') hp2'
    rw [List.append_assoc, List.append_assoc] at this
    exact this
   ·rintro σ H7 ⟨zs, u, rfl, s7, hg7, hz⟩
    refine ⟨_, rfl, ?_⟩
    dsimp only [List.set]
    refine ⟨g, zs, _, _, _, rfl, s5.trans s7, gN, s7 _ _ ht5, hg7, ?_⟩
    have yl2 : ys.length = (allW i).length := Paired.length hy
    rw [yl2, List.take_length] at hz
    exact hz
  ·rintro σ H5 ⟨l, ys, u2, u3, u4, rfl, s5, lN, ht5, hl5, hy⟩
   rw [ul] at hy
   exact ⟨_, rfl, q l ys H5 s5 lN hl5 hy⟩
theorem zsx : zan ["web", "pointing"] ["web", "pointing"] (zad zef) := ⟨rfl, rfl, rfl, by decide +kernel, rfl, by decide +kernel, by decide +kernel⟩
theorem ndTW : (["tie", "way"] : List Str).Nodup := by decide +kernel
theorem zCg (hzip : mg "zip" = none) (S : Src K mg "leads_of" zef ["web", "pointing"]) : Def P w K mg base 1 "leads_of" ["web", "pointing"] (zsf K) := by
 refine S.def zsx (fun vs H Q E h => ?_) (fun f cdv A outer s H vs Q E hr h => ?_)
 ·obtain ⟨_, _, _, _, _, rfl, _⟩ := h; rfl
 ·obtain ⟨wv, pt, n, ps, wy, rfl, W, hp, wl, h8, q⟩ := h
  obtain ⟨c, d, xs, rfl, hc, hd, ht⟩ := W.ex
  have xl : xs.length = ps.length := Paired.length ht
  have i1 : atI ([.int n, .ref d] : List V) 1 = some (.ref d) := zar (j := 1) rfl
  refine ⟨_, zag (zaw (zci (N' := ["tie", "way"]) (fr := [none, none]) (zbn (by rfl)) rfl (zAv K .t .t rfl hzip (zaa (pe_ix (zav K) (pv 0) zaf (fun _ _ => rfl)) (zaa (pv 1) zac)))
   (g := gTup K 2 (gCons (gName 0) (gCons (gName 1) gNil))) (fun _ _ _ _ => zcd K 2 rfl (zaq (zak (i := 0) ndTW rfl (Or.inl rfl) (Or.inr rfl)) (zaq (zak (i := 1) ndTW rfl (Or.inl rfl) (Or.inr rfl)) zcc))) (fun _ _ _ _ => zck)
   (fun _ _ _ _ => zgu (zcp op_eq (pv 1) zaf (zch _)) (pv 0) (zbj (zaa (pe_ix (r := rIxT K) (zav K) (pv 0) zaf (fun _ _ => rfl)) (zaa (pe_ix (r := rIxT K) (zav K) (pv 0) zaf (fun _ _ => rfl)) zac)))))), ?_⟩
  refine ⟨_, rfl, c, _, _, _, rfl, rfl, SqT.of hc, i1, _, rfl, d, pt, xs, _, rfl, SqT.of hd, hp, ?_⟩
  refine zyk (k1 := .t) (k2 := .t) (K := K) (a := d) (b := pt) (xs := xs) (us := wy.map V.int) (fun σ => ∃ u v, σ = [u, v]) (fun j ys H' => Same H H' /\ Paired (TieAt H') ys ((zat ps wy).take j)) ⟨_, _, rfl⟩ ⟨Same.refl _, .nil⟩ (zee (by omega)) (fun j ys H' _ z => ⟨SqT.of (z.1 _ _ hd), sqT z.1 hp⟩) (by rw [List.length_map]; omega) ?_ ?_
  ·rintro j x y p ys σ H2 N hx hy ⟨u, v, rfl⟩ ⟨s2, hz⟩ hpN hN
   obtain ⟨pr, ep, b, rfl, hb⟩ := Paired.at ht hx
   obtain ⟨wb, ew, rfl⟩ : ∃ k, wy[j]? = some k /\ V.int k = y := by
    rw [List.getElem?_map] at hy
    cases e : wy[j]? with
    | none => rw [e] at hy; simp at hy
    | some k => rw [e] at hy; simp at hy; exact ⟨k, rfl, hy⟩
   have s3 := s2.trans (Same.new (o := HO.tup [.ref b, .int wb]) hpN)
   have hp3 : (upd H2 p (.tup [.ref b, .int wb])) p = some (.tup [.ref b, .int wb]) := zab
   have hz3 := zcw hz (Same.new (o := HO.tup [.ref b, .int wb]) hpN)
   generalize upd H2 p (.tup [.ref b, .int wb]) = H3 at s3 hp3 hz3 ⊢
   refine ⟨p, _, rfl, SqT.of hp3, rfl, _, _, rfl, _, _, rfl, rfl, ?_⟩
   dsimp only [gName, List.set]
   refine yesT ⟨_, rfl, rfl, _, rfl, ?_⟩
   rw [dec_int]
   have eL := zjb ep ew
   have hb3 := s3 _ _ hb
   refine ite2 (fun z => ⟨_, rfl, ?_⟩) (fun z => ?_)
   ·rw [if_pos (of_decide_eq_true z)] at eL
    refine hN _ _ _ ⟨_, _, rfl⟩ ⟨s3, ?_⟩ (by simp)
    rw [zai eL]
    exact L2.Paired.snoc hz3 ⟨b, rfl, hb3⟩
   ·rw [if_neg (of_decide_eq_false (by simpa using z))] at eL
    have t0 : atI ([.int pr.1, .int pr.2] : List V) 0 = some (.int pr.1) := zar (j := 0) rfl
    have t1 : atI ([.int pr.1, .int pr.2] : List V) 1 = some (.int pr.2) := zar (j := 1) rfl
    refine ⟨_, rfl, b, _, _, _, rfl, rfl, SqT.of hb3, t1, _, rfl, b, _, _, _, rfl, rfl, SqT.of hb3, t0, by show 2 <= sizeLine; decide, fun c4 hc4 => ?_⟩
    have s4 := Same.new (o := HO.tup [.int pr.2, .int pr.1]) hc4
    refine hN _ _ _ ⟨_, _, rfl⟩ ⟨s3.trans s4, ?_⟩ (by simp)
    rw [zai eL]
    exact L2.Paired.snoc (zcw hz3 s4) ⟨c4, rfl, zab⟩
  ·rintro ys H2 ⟨s2, hz⟩ l hl
   have s3 := Same.new (o := HO.lst ys) hl
   rw [show xs.length = (zat ps wy).length by rw [zem wl]; exact xl, List.take_length] at hz
   exact q l ys _ (s2.trans s3) zab (zcw hz s3)
end
theorem zjl {kvs : List (Key × V)} {k : Key} {v : V} (h : valV kvs k = some v) : (k, v) ∈ kvs := by
 unfold valV at h
 cases e : kvs.find? fun kv => decide (kv.1 = k) with
 | none => rw [e] at h; cases h
 | some kv =>
  rw [e] at h
  have h1 := List.mem_of_find?_eq_some e
  have h2 : kv.1 = k := by have := List.find?_some e; simpa using this
  cases h
  rw [<- h2]
  exact h1
theorem zob {kvs : List (Key × V)} {k : Key} (h : valV kvs k = none) : k ∉ kvs.map (·.1) := by
 intro z
 obtain ⟨kv, hk, e⟩ := List.mem_map.mp z
 unfold valV at h
 have := List.find?_eq_none.mp (Option.map_eq_none_iff.mp h) kv hk
 exact this (decide_eq_true e)
theorem zoa {kvs : List (Key × V)} {k : Key} (h : k ∈ kvs.map (·.1)) : ∃ v, valV kvs k = some v := by
 cases e : valV kvs k with
 | none => exact absurd h (zob e)
 | some v => exact ⟨v, rfl⟩
theorem zhr {ks : List Int} {x : Int} {kvs : List (Key × V)} (h : kvs.map (·.1) = ks.map Sum.inl) : (Sum.inl x : Key) ∈ kvs.map (·.1) ↔ x ∈ ks := by
 rw [h, List.mem_map]
 constructor
 ·rintro ⟨y, hy, e⟩
  injection e with e
  rw [<- e]; exact hy
 ·intro z
  exact ⟨x, z, rfl⟩
structure BfsAt (H0 H : Hp) (rd wt : Addr) (ks ws : List Int) : Prop where
 rN : H0 rd = none
 wN : H0 wt = none
 le : ws.length <= ks.length
 hw : H wt = some (.lst (ws.map V.int))
 hr : ∃ kvs : List (Key × V), H rd = some (.dK kvs) /\ kvs.map (·.1) = ks.map Sum.inl /\ ∀ kv ∈ kvs, ∃ l xs, kv.2 = .ref l /\ l ≠ wt /\ H l = some (.lst xs) /\ xs.length < ks.length
theorem BfsAt.same {H0 H H' : Hp} {rd wt : Addr} {ks ws : List Int} (h : BfsAt H0 H rd wt ks ws) (s : Same H H') : BfsAt H0 H' rd wt ks ws := by
 obtain ⟨a, b, le, c, kvs, d, e, g⟩ := h
 refine ⟨a, b, le, s _ _ c, kvs, s _ _ d, e, fun kv hk => ?_⟩
 obtain ⟨l, xs, e1, e2, e3, e4⟩ := g kv hk
 exact ⟨l, xs, e1, e2, s _ _ e3, e4⟩
theorem BfsAt.wput {H0 H : Hp} {rd wt : Addr} {ks ws ws' : List Int} (h : BfsAt H0 H rd wt ks ws) (le' : ws'.length <= ks.length) : BfsAt H0 (upd H wt (.lst (ws'.map V.int))) rd wt ks ws' := by
 obtain ⟨a, b, _, c, kvs, d, e, g⟩ := h
 refine ⟨a, b, le', zab, kvs, ?_, e, fun kv hk => ?_⟩
 ·rw [zas (ne_of d c (fun z => nomatch z))]
  exact d
 ·obtain ⟨l, xs, e1, e2, e3, e4⟩ := g kv hk
  exact ⟨l, xs, e1, e2, by rw [zas e2]; exact e3, e4⟩
structure Bfs (L : List (Int × Int)) (n start : Int) (ks : List Int) : Prop where
 st : start ∈ ks
 nd : ks.Nodup
 inn : ∀ k ∈ ks, 0 <= k /\ k < n
 rch : ∀ k ∈ ks, Rch L start k
theorem ztz {ks : List Int} {n : Int} (h0 : 0 <= n) (nd : ks.Nodup) (h : ∀ k ∈ ks, 0 <= k /\ k < n) : (ks.length : Int) <= n := by
 have p : ks.Perm ((ups n).filter fun i => decide (i ∈ ks)) := (List.perm_ext_iff_of_nodup nd ((zkx n).filter _)).mpr fun i => by
  rw [List.mem_filter, mem_ups, decide_eq_true_iff]
  exact ⟨fun z => ⟨h i z, z⟩, fun z => z.2⟩
 have := p.length_eq
 have := List.length_filter_le (fun i => decide (i ∈ ks)) (ups n)
 rw [zbc] at this
 omega
def spTB (K : W.Frag) : Sp := fun vs H Q _ => ∃ (l : Addr) (a b n : Int) (xs : List V) (L : List (Int × Int)), vs = [.ref l, .int a, .int b] /\ H l = some (.lst xs) /\ Paired (TieAt H) xs L /\ L.length <= 8 /\ (∀ q ∈ L, InN n q) /\ 0 <= a /\ a < n /\ n <= 9 /\
 ∀ v H', Same H H' -> ((v = .non /\ ¬ Rch L a b) \/ (Rch L a b /\ ∃ g zs, v = .ref g /\ H' g = some (.lst zs) /\ zs.length <= 9)) -> Q v H'
section
variable {P : Program} {w : World} {K : W.Frag} {mg : Str -> Option Value} {base : Heap}
theorem scTB : zan ["leads", "start", "goal", "reached", "waiting", "point", "k", "lead"] ["leads", "start", "goal"] (zad sTB) := ⟨rfl, rfl, rfl, by decide +kernel, rfl, by decide +kernel, by decide +kernel⟩
theorem idx0 {α : Type} {x : α} {l : List α} : seqIndex? 0 (x :: l).length = some 0 := by
 unfold seqIndex?
 simp
theorem d_tb (henum : mg "enumerate" = none) (S : Src K mg "ties_between" sTB ["leads", "start", "goal"]) : Def P w K mg base 1 "ties_between" ["leads", "start", "goal"] (spTB K) := by
 refine S.def scTB (fun vs H Q E h => ?_) (fun f cdv A outer s H vs Q E hr h => ?_)
 ·obtain ⟨_, _, _, _, _, _, rfl, _⟩ := h; rfl
 ·obtain ⟨l, st, goal, n, xs, L, rfl, hl, ht, l8, hin, a0, an, n9, q⟩ := h
  have xl : xs.length = L.length := Paired.length ht
  refine ⟨_, zae (zap (i := 3) scTB.nd rfl (Or.inl rfl) (zAz (zxg (pv 1) (zbu zac) zAu) rfl rfl (by simp) (by decide)))
   (zae (zap (i := 4) scTB.nd rfl (Or.inl rfl) (zbu (zaa (pv 1) zac)))
   (zae (zoz PassesOwn.never (zgs (pv 4) (fun _ => rfl))
    (zae (zap (i := 5) scTB.nd rfl (Or.inl rfl) (pe_bm PySem.F.plainAttrs_list PySem.F.slot_list_pop PySem.F.type_list_pop zxp (pv 4) (zaa zaf zac)))
    (zag (zcb PassesOwn.never rfl (zpe K .l rfl henum (zaa (pv 0) zac)) (zcd K 2 rfl (zaq (zak (i := 6) scTB.nd rfl (Or.inl rfl)) (zaq (zak (i := 7) scTB.nd rfl (Or.inl rfl)) zcc)))
     (zag (ps_if (PW.pt (zDq (zcp op_eq (pe_ix (zav K) (pv 7) zaf (fun _ _ => rfl)) (pv 5) (zch _)) (zAt (zoy (ztr (hu_of hr) (pe_ix (zav K) (pv 7) zaf (fun _ _ => rfl)) (pv 3)) rfl))))
      (zae (znf (hu_of hr) (pv 3) (pe_ix (zav K) (pv 7) zaf (fun _ _ => rfl)) (pe_op zzd (zBa (hu_of hr) (pv 3) (pv 5) (fun _ _ => rfl)) (zbu (zaa (pv 6) zac))) rfl)
      (zag (zcx (pe_bm PySem.F.plainAttrs_list PySem.F.slot_list_append PySem.F.type_list_append zlt (pv 4) (zaa (pe_ix (zav K) (pv 7) zaf (fun _ _ => rfl)) zac))))) zbz))))))
   (zag (zaw (zxj (hu_of hr) (pv 3) (pv 2) ⟨rfl, rfl, rfl, rfl⟩))))), ?_⟩
  refine fun rd hrd => ⟨_, rfl, Nat.zero_le _, fun e he => ?_⟩
  have ner : rd ≠ e := zao (zab (H := H) (a := rd) (o := HO.dK [])) he
  refine ⟨by rw [zas ner]; exact zab, [(.inl st, .ref e)], rfl, by show 1 <= 15; decide, ?_⟩
  have m1 : ziz [] [((.inl st : Key), V.ref e)] = [(.inl st, .ref e)] := rfl
  rw [m1]
  have s1 : Same H (upd (upd (upd H rd (.dK [])) e (.lst [])) rd (.dK [(.inl st, .ref e)])) := zcm ((Same.new hrd).trans (Same.new he)) hrd
  have hrd1 : (upd (upd (upd H rd (.dK [])) e (.lst [])) rd (.dK [(.inl st, .ref e)])) rd = some (.dK [(.inl st, .ref e)]) := zab
  have he1 : (upd (upd (upd H rd (.dK [])) e (.lst [])) rd (.dK [(.inl st, .ref e)])) e = some (.lst []) := by rw [zas ner.symm]; exact zab
  generalize upd (upd (upd H rd (.dK [])) e (.lst [])) rd (.dK [(.inl st, .ref e)]) = H1 at s1 hrd1 he1 ⊢
  dsimp only [List.set]
  refine ⟨_, rfl, by show 1 <= sizeLine; decide, fun wt hwt => ?_⟩
  have new : e ≠ wt := zao he1 hwt
  have s2 := Same.new (o := HO.lst [.int st]) hwt
  have B0 : BfsAt H (upd H1 wt (.lst [.int st])) rd wt [st] [st] := by
   refine ⟨hrd, zfb s1 hwt, Nat.le_refl _, zab, _, s2 _ _ hrd1, rfl, fun kv hk => ?_⟩
   rw [List.mem_singleton.mp hk]
   exact ⟨e, [], rfl, new, s2 _ _ he1, by simp⟩
  have s12 := s1.trans s2
  generalize upd H1 wt (.lst [.int st]) = H2 at B0 s12 ⊢
  dsimp only [List.set]
  have F0 : Bfs L n st [st] := ⟨List.mem_singleton.mpr rfl, List.nodup_cons.mpr ⟨(fun z => nomatch z), .nil⟩, fun k hk => by rw [List.mem_singleton.mp hk]; exact ⟨a0, an⟩, fun k hk => by rw [List.mem_singleton.mp hk]; exact .refl _⟩
  refine ⟨fun m σ H' => ∃ (ks ws : List Int) (u5 u6 u7 : Option V), m = 2 * (9 - ks.length) + ws.length /\ σ = [some (.ref l), some (.int st), some (.int goal), some (.ref rd), some (.ref wt), u5, u6, u7] /\ Same H H' /\ BfsAt H H' rd wt ks ws /\ Bfs L n st ks /\ (∀ x ∈ ws, x ∈ ks) /\ ∀ x ∈ ks, x ∉ ws -> ∀ y, (x, y) ∈ L -> y ∈ ks,
   ⟨_, [st], [st], _, _, _, rfl, rfl, s12, B0, F0, fun x hx => hx, fun x hx hn => absurd hx hn⟩, ?_⟩
  rintro m σ H3 ⟨ks, ws, u5, u6, u7, rfl, rfl, s3, B, F, hsub, hcl⟩
  have kl := ztz (by omega) F.nd F.inn
  refine ⟨_, rfl, _, .inl ⟨_, SqL.of B.hw, rfl⟩, ?_⟩
  cases ws with
  | nil =>
   refine iteF ?_
   obtain ⟨kvs, hk, ek, hv⟩ := B.hr
   refine ⟨_, rfl, rd, rfl, .inl ⟨kvs, .inl hk⟩, _, rfl, _, DGet.k (k := .inl goal) hk, ?_⟩
   have closed : ∀ x y, x ∈ ks -> (x, y) ∈ L -> y ∈ ks := fun x y hx e => hcl x hx (fun z => nomatch z) y e
   by_cases hg : goal ∈ ks
   ·obtain ⟨v, ev⟩ := zoa ((zhr ek).mpr hg)
    rw [ev]
    obtain ⟨lv, zs, e1, _, e3, e4⟩ := hv _ (zjl ev)
    exact q _ H3 s3 (.inr ⟨F.rch _ hg, lv, zs, e1, e3, by omega⟩)
   ·cases ev : valV kvs (.inl goal) with
    | some v => exact absurd ((zhr ek).mp (List.mem_map.mpr ⟨_, zjl ev, rfl⟩)) hg
    | none => exact q _ H3 s3 (.inl ⟨rfl, fun r => hg (zqx (S := (· ∈ ks)) closed F.st r)⟩)
  | cons p ws =>
   have ez : (!((p :: ws).map V.int).isEmpty) = true := rfl
   rw [ez]
   refine iteT ⟨fun σ' H' => ∃ (ks' ws' : List Int) (u5 u6 u7 : Option V), 2 * (9 - ks'.length) + ws'.length < 2 * (9 - ks.length) + (p :: ws).length /\ σ' = [some (.ref l), some (.int st), some (.int goal), some (.ref rd), some (.ref wt), u5, u6, u7] /\ Same H H' /\ BfsAt H H' rd wt ks' ws' /\ Bfs L n st ks' /\ (∀ x ∈ ws', x ∈ ks') /\ ∀ x ∈ ks', x ∉ ws' -> ∀ y, (x, y) ∈ L -> y ∈ ks',
    fun σ' H' ⟨ks', ws', u5, u6, u7, e, r1, r2, r3, r4, r5, r6⟩ => ⟨_, e, ks', ws', u5, u6, u7, rfl, r1, r2, r3, r4, r5, r6⟩, ?_⟩
   have pin : p ∈ ks := hsub p List.mem_cons_self
   refine ⟨_, rfl, .inl ⟨rfl, _, SqL.of B.hw⟩, wt, _, 0, 0, .int p, rfl, rfl, B.hw, by decide, by decide, idx0, rfl, ?_⟩
   have s4 : Same H (upd H3 wt (.lst (((p :: ws).map V.int).eraseIdx 0))) := zcm s3 B.wN
   have B4 : BfsAt H (upd H3 wt (.lst (((p :: ws).map V.int).eraseIdx 0))) rd wt ks ws := B.wput (ws' := ws) (by have := B.le; rw [List.length_cons] at this; omega)
   generalize upd H3 wt (.lst (((p :: ws).map V.int).eraseIdx 0)) = H4 at s4 B4 ⊢
   dsimp only [List.set]
   refine ⟨_, rfl, l, xs, rfl, SqL.of (s4 _ _ hl), zxz (k := .l) (K := K) (a := l) (xs := xs) (fun i σ H' => ∃ (ks' ws' : List Int) (u6 u7 : Option V), 2 * (9 - ks'.length) + ws'.length <= 2 * (9 - ks.length) + ws.length /\ σ = [some (.ref l), some (.int st), some (.int goal), some (.ref rd), some (.ref wt), some (.int p), u6, u7] /\ Same H H' /\ BfsAt H H' rd wt ks' ws' /\ Bfs L n st ks' /\ (∀ x ∈ ws', x ∈ ks') /\ p ∈ ks' /\ (∀ x ∈ ks', x ∉ ws' -> x ≠ p -> ∀ y, (x, y) ∈ L -> y ∈ ks') /\ ∀ j y, j < i -> L[j]? = some (p, y) -> y ∈ ks')
    ⟨ks, ws, _, _, Nat.le_refl _, rfl, s4, B4, F, fun x hx => hsub x (List.mem_cons_of_mem _ hx), pin, fun x hx hn hp => hcl x hx fun z => by
     rcases List.mem_cons.mp z with z | z
     ·exact hp z
     ·exact hn z, fun j y hj => absurd hj (Nat.not_lt_zero _)⟩ (fun i σ H' _ ⟨_, _, _, _, _, _, z, _⟩ => SqL.of (z _ _ hl)) ?_ ?_⟩
   ·rintro i x pp σ H5 hx ⟨ks', ws', u6, u7, me, rfl, s5, B5, F5, sub5, pin5, cl5, pl5⟩ hpp
    obtain ⟨tq, eq, c, rfl, hc⟩ := Paired.at ht hx
    obtain ⟨qa, qb⟩ := tq
    have qin := hin _ (List.mem_of_getElem? eq)
    have s6 := Same.new (o := HO.tup [.int (i : Int), .ref c]) hpp
    have hp6 : (upd H5 pp (.tup [.int (i : Int), .ref c])) pp = some (.tup [.int (i : Int), .ref c]) := zab
    have s06 := s5.trans s6
    have B6 := B5.same s6
    generalize upd H5 pp (.tup [.int (i : Int), .ref c]) = H6 at hp6 s06 B6 ⊢
    have hc6 := s06 _ _ hc
    refine ⟨pp, _, rfl, SqT.of hp6, rfl, _, _, rfl, _, _, rfl, rfl, ?_⟩
    dsimp only [gName, List.set]
    have t0 : atI ([.int qa, .int qb] : List V) 0 = some (.int qa) := zar (j := 0) rfl
    have t1 : atI ([.int qa, .int qb] : List V) 1 = some (.int qb) := zar (j := 1) rfl
    have step : ∀ y, (qa = p -> qb = y -> y ∈ ks') -> ∀ j, j < i + 1 -> L[j]? = some (p, y) -> y ∈ ks' := fun y hy j hj e => by
     by_cases hji : j = i
     ·rw [hji, eq] at e
      have e := Option.some.inj e
      injection e with e1 e2
      exact hy e1 e2
     ·exact pl5 j y (by omega) e
    refine ⟨_, rfl, c, _, _, _, rfl, rfl, SqT.of hc6, t0, _, rfl, rfl, _, rfl, ?_⟩
    rw [dec_int]
    refine ite2 (fun z1 => ?_) (fun z1 => iteF ?_)
    ·have hqp : qa = p := of_decide_eq_true z1
     obtain ⟨kvs, hk, ek, hv⟩ := B6.hr
     refine ⟨_, rfl, c, _, _, _, rfl, rfl, SqT.of hc6, t1, _, rfl, rd, _, rfl, DGet.k (k := .inl qb) hk, _, rfl, ?_⟩
     cases ev : valV kvs (.inl qb) with
     | some v =>
      have hb : qb ∈ ks' := (zhr ek).mp (List.mem_map.mpr ⟨_, zjl ev, rfl⟩)
      exact iteF ⟨ks', ws', _, _, me, rfl, s06, B6, F5, sub5, pin5, cl5, fun j y => step y (fun _ e => by rw [<- e]; exact hb) j⟩
     | none =>
      refine iteT ?_
      have nb : qb ∉ ks' := fun z => zob ev ((zhr ek).mpr z)
      obtain ⟨v, evp⟩ := zoa ((zhr ek).mpr pin5)
      obtain ⟨lv, zs, e1, e2, e3, e4⟩ := hv _ (zjl evp)
      have e1 : v = .ref lv := e1
      subst e1
      have kl5 := ztz (by omega) F5.nd F5.inn
      refine ⟨_, rfl, _, rfl, rd, .ref lv, rfl, by rw [<- evp]; exact DGet.k (k := .inl p) hk, _, rfl, by show 1 <= sizeLine; decide, fun g hg => ?_⟩
      have s7 := Same.new (o := HO.lst [.int (i : Int)]) hg
      have hg7 : (upd H6 g (.lst [.int (i : Int)])) g = some (.lst [.int (i : Int)]) := zab
      have B7 := B6.same s7
      have s07 := s06.trans s7
      have e37 := s7 _ _ e3
      have hk7 := s7 _ _ hk
      generalize upd H6 g (.lst [.int (i : Int)]) = H7 at hg7 B7 s07 e37 hk7 s7 ⊢
      refine ⟨lv, g, zs, _, rfl, rfl, e37, hg7, Nat.le_trans (show zs.length + 1 <= 300 by omega) (by decide), fun r hr' => ?_⟩
      have s8 := Same.new (o := HO.lst (zs ++ [.int (i : Int)])) hr'
      have hr8 : (upd H7 r (.lst (zs ++ [.int (i : Int)]))) r = some (.lst (zs ++ [.int (i : Int)])) := zab
      have B8 := B7.same s8
      have s08 := s07.trans s8
      have hk8 := s8 _ _ hk7
      have rwt : r ≠ wt := fun z => by rw [z, B7.hw] at hr'; cases hr'
      have hv8 : ∀ kv ∈ kvs, ∃ l xs, kv.2 = .ref l /\ l ≠ wt /\ (upd H7 r (.lst (zs ++ [.int (i : Int)]))) l = some (.lst xs) /\ xs.length < ks'.length := fun kv hkv => by
       obtain ⟨l, xs, f1, f2, f3, f4⟩ := hv kv hkv
       exact ⟨l, xs, f1, f2, s8 _ _ (s7 _ _ f3), f4⟩
      generalize upd H7 r (.lst (zs ++ [.int (i : Int)])) = H8 at hr8 B8 s08 hk8 hv8 ⊢
      have kvl : kvs.length = ks'.length := by have := congrArg List.length ek; simpa using this
      refine ⟨_, rfl, _, rfl, c, _, _, _, rfl, rfl, SqT.of (s08 _ _ hc), t1, rd, _, rfl, DPut.k (k := .inl qb) hk8 (zee (by omega)), ?_⟩
      rw [zxf _ ev]
      have s09 : Same H (upd H8 rd (.dK (kvs ++ [(.inl qb, .ref r)]))) := zcm s08 B8.rN
      have rdw : rd ≠ wt := ne_of hk8 B8.hw (fun z => nomatch z)
      have hwt9 : (upd H8 rd (.dK (kvs ++ [(.inl qb, .ref r)]))) wt = some (.lst (ws'.map V.int)) := by rw [zas rdw.symm]; exact B8.hw
      have B9 : BfsAt H (upd H8 rd (.dK (kvs ++ [(.inl qb, .ref r)]))) rd wt (ks' ++ [qb]) ws' := by
       refine ⟨B8.rN, B8.wN, by rw [List.length_append]; have := B8.le; omega, hwt9, _, zab, by rw [List.map_append, List.map_append, ek]; rfl, fun kv hkv => ?_⟩
       have lne : ∀ l xs, H8 l = some (.lst xs) -> (upd H8 rd (.dK (kvs ++ [(.inl qb, .ref r)]))) l = some (.lst xs) := fun l xs hl8 => by rw [zas (ne_of hl8 hk8 (fun z => nomatch z))]; exact hl8
       rcases List.mem_append.mp hkv with z | z
       ·obtain ⟨l, xs, f1, f2, f3, f4⟩ := hv8 kv z
        exact ⟨l, xs, f1, f2, lne _ _ f3, by rw [List.length_append]; omega⟩
       ·rw [List.mem_singleton.mp z]
        exact ⟨r, _, rfl, rwt, lne _ _ hr8, by rw [List.length_append, List.length_append]; simp; omega⟩
      generalize upd H8 rd (.dK (kvs ++ [(.inl qb, .ref r)])) = H9 at s09 B9 ⊢
      have F9 : Bfs L n st (ks' ++ [qb]) := by
       refine ⟨List.mem_append_left _ F5.st, ?_, fun k hk => ?_, fun k hk => ?_⟩
       ·rw [List.nodup_append]
        exact ⟨F5.nd, List.nodup_cons.mpr ⟨(fun z => nomatch z), .nil⟩, fun a ha b hb => by rw [List.mem_singleton.mp hb]; exact fun z => nb (by rw [<- z]; exact ha)⟩
       ·rcases List.mem_append.mp hk with z | z
        ·exact F5.inn k z
        ·rw [List.mem_singleton.mp z]; exact ⟨qin.2.2.1, qin.2.2.2⟩
       ·rcases List.mem_append.mp hk with z | z
        ·exact F5.rch k z
        ·rw [List.mem_singleton.mp z]
         exact .step (F5.rch p pin5) (by rw [<- hqp]; exact List.mem_of_getElem? eq)
      have kl9 := ztz (by omega) F9.nd F9.inn
      rw [List.length_append] at kl9
      have k1 : ([qb] : List Int).length = 1 := rfl
      have wl : ws'.length <= 300 := by have := B8.le; omega
      refine ⟨_, rfl, .inl ⟨rfl, _, SqL.of B9.hw⟩, _, rfl, c, _, _, _, rfl, rfl, SqT.of (s09 _ _ hc), t1, wt, _, .int qb, rfl, rfl, B9.hw, by rw [List.length_map]; exact zdz wl, ?_⟩
      have ea : (ws'.map V.int) ++ [V.int qb] = (ws' ++ [qb]).map V.int := by rw [List.map_append]; rfl
      rw [ea]
      refine ⟨ks' ++ [qb], ws' ++ [qb], _, _, ?_, rfl, zcm s09 B9.wN, B9.wput (by rw [List.length_append, List.length_append]; have := B8.le; omega), F9, fun x hx => ?_, List.mem_append_left _ pin5, fun x hx hn hp y e => ?_, fun j y hj e => ?_⟩
      ·rw [List.length_append, List.length_append, k1]
       omega
      ·rcases List.mem_append.mp hx with z | z
       ·exact List.mem_append_left _ (sub5 x z)
       ·exact List.mem_append_right _ z
      ·rcases List.mem_append.mp hx with z | z
       ·exact List.mem_append_left _ (cl5 x z (fun z2 => hn (List.mem_append_left _ z2)) hp y e)
       ·exact absurd (List.mem_append_right _ z) hn
      ·by_cases hji : j = i
       ·rw [hji, eq] at e
        have e := Option.some.inj e
        injection e with e1 e2
        exact List.mem_append_right _ (List.mem_singleton.mpr e2.symm)
       ·exact List.mem_append_left _ (pl5 j y (by omega) e)
    ·have hqp : qa ≠ p := of_decide_eq_false (by simpa using z1)
     exact ⟨ks', ws', _, _, me, rfl, s06, B6, F5, sub5, pin5, cl5, fun j y => step y (fun e _ => absurd e hqp) j⟩
   ·rintro σ H5 ⟨ks', ws', u6, u7, me, rfl, s5, B5, F5, sub5, pin5, cl5, pl5⟩
    refine ⟨ks', ws', _, _, _, by rw [List.length_cons]; omega, rfl, s5, B5, F5, sub5, fun x hx hn y e => ?_⟩
    by_cases hp : x = p
    ·obtain ⟨j, hj, ej⟩ := List.mem_iff_getElem.mp e
     refine pl5 j y (by omega) ?_
     rw [List.getElem?_eq_getElem hj, ej, hp]
    ·exact cl5 x hx hn hp y e
end
def zld (K : W.Frag) : Sp := fun vs H Q _ => ∃ (wv : V) (n : Int) (ps : List (Int × Int)) (j : Nat), vs = [wv, .int j] /\ WebAt H wv n ps /\ j < ps.length /\ Q .non H
def spRT (K : W.Frag) : Sp := fun vs H Q _ => ∃ (wv : V) (pt : Addr) (n : Int) (ps : List (Int × Int)) (w : List Int) (j : Nat) (p : Int × Int), vs = [wv, .ref pt, .int j] /\ WebAt H wv n ps /\ WebOk n ps /\ SqT K H pt (w.map V.int) /\ w.length = ps.length /\ (zat ps w)[j]? = some p /\
 ∀ v H', Same H H' -> ((v = .non /\ ¬ Rch (zat ps w) p.2 p.1) \/ (v ≠ .non /\ Rch (zat ps w) p.2 p.1)) -> Q v H'
theorem zpv {n : Int} {ps : List (Int × Int)} {w : List Int} (hb : ∀ p ∈ ps, InN n p) : ∀ q ∈ zat ps w, InN n q := fun q hq => by
 obtain ⟨p, hp, e⟩ := zja hq
 obtain ⟨a, b, c, d⟩ := hb p hp
 rcases e with rfl | rfl
 ·exact ⟨a, b, c, d⟩
 ·exact ⟨c, d, a, b⟩
section
variable {P : Program} {w : World} {K : W.Frag} {mg : Str -> Option Value} {base : Heap}
theorem d_wpT (T : Txt K mg) (S : Src K mg "whole_pick" zhg ["web"]) : Def P w K mg base 1 "whole_pick" ["web"] spWP := by
 refine S.def scWP (fun vs H Q E h => ?_) (fun f cdv A outer s H vs Q E hr h => ?_)
 ·obtain ⟨i, _, _, rfl, _⟩ := h; rfl
 ·obtain ⟨wv, n, ps, rfl, W, hl8, q⟩ := h
  obtain ⟨c, d, xs, rfl, hc, hd, ht⟩ := W.ex
  have xl : xs.length = ps.length := Paired.length ht
  refine ⟨_, zag (zaw (zbh (zif rfl) rfl T.tuple zdn (zaa (zbh zcy rfl T.range zcz (zaa (zaz (zbx K) (by rfl) T.len PySem.boot_len (zaa (pe_ix (zav K) (pv 0) zaf (fun _ _ => rfl)) zac)) zac)) zac))), ?_⟩
  have i1 : atI ([.int n, .ref d] : List V) 1 = some (.ref d) := zar (j := 1) rfl
  refine ⟨_, rfl, c, _, _, _, rfl, rfl, SqT.of hc, i1, d, xs, rfl, .inr (SqT.of hd), _, rfl, fun p hp => ⟨p, xs.length, rfl, zab, by omega, fun l hl => ?_⟩⟩
  refine q l _ ((Same.new hp).trans (Same.new hl)) ?_
  rw [zab, zha, xl]
theorem zAj : zan ["web", "k"] ["web", "k"] (zad ziq) := ⟨rfl, rfl, rfl, by decide +kernel, rfl, by decide +kernel, by decide +kernel⟩
theorem zvl (T : Txt K mg) (S : Src K mg "refuse_no_tie_of" ziq ["web", "k"]) (DW : Def P w K mg base 2 "is_whole_within" ["thing", "least", "greatest"] (zoh K)) : Def P w K mg base 3 "refuse_no_tie_of" ["web", "k"] (zld K) := by
 refine S.def zAj (fun vs H Q E h => ?_) (fun f cdv A outer s H vs Q E hr h => ?_)
 ·obtain ⟨_, _, _, _, rfl, _⟩ := h; rfl
 ·obtain ⟨wv, n, qs, j, rfl, W, jl, q⟩ := h
  obtain ⟨c, d, xs, rfl, hc', hd, ht⟩ := W.ex
  have xl : xs.length = qs.length := Paired.length ht
  refine ⟨_, zag (ps_if (zfh (zet (zaj DW hr rfl (zaa (pv 1) (zaa zaf (zaa (pe_op zhm (zaz (zbx K) (by rfl) T.len PySem.boot_len (zaa (pe_ix (zav K) (pv 0) zaf (fun _ _ => rfl)) zac)) zaf) zac)))))) zlj zbz), ?_⟩
  have i1 : atI ([.int n, .ref d] : List V) 1 = some (.ref d) := zar (j := 1) rfl
  refine ⟨_, rfl, _, rfl, c, _, _, _, rfl, rfl, SqT.of hc', i1, d, xs, rfl, .inr (SqT.of hd), _, _, rfl, rfl, _, _, _, rfl, ztl K H _, _, rfl, ?_⟩
  rw [xl, zmw (by omega) (by omega)]
  exact iteF q
theorem scRT : zan ["web", "pointing", "k", "leads", "back"] ["web", "pointing", "k"] (zad sRT) := ⟨rfl, rfl, rfl, by decide +kernel, rfl, by decide +kernel, by decide +kernel⟩
theorem d_rt (S : Src K mg "ring_through" sRT ["web", "pointing", "k"]) (DN : Def P w K mg base 3 "refuse_no_tie_of" ["web", "k"] (zld K)) (DL : Def P w K mg base 1 "leads_of" ["web", "pointing"] (zsf K)) (DB : Def P w K mg base 1 "ties_between" ["leads", "start", "goal"] (spTB K)) : Def P w K mg base 4 "ring_through" ["web", "pointing", "k"] (spRT K) := by
 refine S.def scRT (fun vs H Q E h => ?_) (fun f cdv A outer s H vs Q E hr h => ?_)
 ·obtain ⟨_, _, _, _, _, _, _, rfl, _⟩ := h; rfl
 ·obtain ⟨wv, pt, n, ps, wy, j, p, rfl, W, ok, hp, wl, ep, q⟩ := h
  obtain ⟨⟨n1, n9⟩, hb, h8⟩ := id ok
  have hr1 : Room 1 _ := hr.mono (by decide)
  have hr3 : Room 3 _ := hr.mono (by decide)
  have ll := zem wl
  have jl : j < ps.length := by have := (List.getElem?_eq_some_iff.mp ep).1; omega
  refine ⟨_, zae (zcx (zaj DN hr3 rfl (zaa (pv 0) (zaa (pv 2) zac))))
   (zae (zap (i := 3) scRT.nd rfl (Or.inl rfl) (zaj DL hr1 rfl (zaa (pv 0) (zaa (pv 1) zac))))
   (zae (zap (i := 4) scRT.nd rfl (Or.inl rfl) (zaj DB hr1 rfl (zaa (pv 3) (zaa (pe_ix (zav K) (pe_ix (zbk K) (pv 3) (pv 2) (fun _ _ => rfl)) zaf (fun _ _ => rfl)) (zaa (pe_ix (zav K) (pe_ix (zbk K) (pv 3) (pv 2) (fun _ _ => rfl)) zaf (fun _ _ => rfl)) zac)))))
   (zag (zaw (zgu (zoy (zza (pv 4))) zyy (pe_op zzd (zbu (zaa (pv 2) zac)) (pv 4))))))), ?_⟩
  refine ⟨_, rfl, _, rfl, wv, n, ps, j, rfl, W, jl, ?_⟩
  refine ⟨_, rfl, _, rfl, wv, pt, n, ps, wy, rfl, W, hp, wl, h8, fun l xs H1 s1 hl hz => ?_⟩
  obtain ⟨c, p', ec, ep', hc⟩ := zCp hz (j := j) (by omega)
  rw [ep] at ep'
  cases ep'
  have pin := zpv (w := wy) hb p (List.mem_of_getElem? ep)
  have t0 : atI ([.int p.1, .int p.2] : List V) 0 = some (.int p.1) := zar (j := 0) rfl
  have t1 : atI ([.int p.1, .int p.2] : List V) 1 = some (.int p.2) := zar (j := 1) rfl
  refine ⟨_, rfl, _, rfl, _, rfl, l, _, _, _, rfl, rfl, SqL.of hl, ec, c, _, _, _, rfl, rfl, SqT.of hc, t1, _, rfl, _, rfl, l, _, _, _, rfl, rfl, SqL.of hl, ec, c, _, _, _, rfl, rfl, SqT.of hc, t0, ?_⟩
  refine ⟨l, p.2, p.1, n, xs, _, rfl, hl, hz, by omega, zpv hb, pin.2.2.1, pin.2.2.2, n9, fun v H2 s2 hv => ?_⟩
  have s12 := s1.trans s2
  dsimp only [List.set]
  refine ⟨_, rfl, _, rfl, ?_⟩
  rcases hv with ⟨rfl, nr⟩ | ⟨r, g, zs, rfl, hg, zl⟩
  ·exact iteT (q _ H2 s12 (.inl ⟨rfl, nr⟩))
  ·refine iteF ⟨_, rfl, by show 1 <= sizeLine; decide, fun e he => ⟨_, rfl, e, g, _, zs, rfl, rfl, zab, Same.new he _ _ hg, ?_, fun r5 hr5 => ?_⟩⟩
   ·exact Nat.le_trans (show 1 + zs.length <= 300 by omega) (by decide)
   ·exact q _ _ (s12.trans ((Same.new he).trans (Same.new hr5))) (.inr ⟨(fun z => nomatch z), r⟩)
end
def spRI (K : W.Frag) : Sp := fun vs H Q _ => ∃ (wv : V) (pt : Addr) (n : Int) (ps : List (Int × Int)) (w : List Int), vs = [wv, .ref pt] /\ WebAt H wv n ps /\ WebOk n ps /\ SqT K H pt (w.map V.int) /\ w.length = ps.length /\
 ∀ v H', Same H H' -> ((v = .non /\ zbb (zat ps w)) \/ (v ≠ .non /\ ¬ zbb (zat ps w))) -> Q v H'
noncomputable def zbr (ps : List (Int × Int)) : List (List Int) := (allW ps.length).filter fun w => zdt (zat ps w)
def zoj (K : W.Frag) (F : List (Int × Int) -> List (List Int)) : Sp := fun vs H Q _ => ∃ (wv : V) (n : Int) (ps : List (Int × Int)), vs = [wv] /\ WebAt H wv n ps /\ WebOk n ps /\
 ∀ g ys H', Same H H' -> H g = none -> H' g = some (.lst ys) -> Paired (TupAt H') ys (F ps) -> Q (.ref g) H'
section
variable {P : Program} {w : World} {K : W.Frag} {mg : Str -> Option Value} {base : Heap}
theorem scRI : zan ["web", "pointing", "k", "ring"] ["web", "pointing"] (zad sRI) := ⟨rfl, rfl, rfl, by decide +kernel, rfl, by decide +kernel, by decide +kernel⟩
theorem d_ri (S : Src K mg "ring_in" sRI ["web", "pointing"]) (DW : Def P w K mg base 1 "whole_pick" ["web"] spWP) (DR : Def P w K mg base 4 "ring_through" ["web", "pointing", "k"] (spRT K)) : Def P w K mg base 5 "ring_in" ["web", "pointing"] (spRI K) := by
 refine S.def scRI (fun vs H Q E h => ?_) (fun f cdv A outer s H vs Q E hr h => ?_)
 ·obtain ⟨_, _, _, _, _, rfl, _⟩ := h; rfl
 ·obtain ⟨wv, pt, n, ps, wy, rfl, W, ok, hp, wl, q⟩ := h
  obtain ⟨⟨n1, n9⟩, hb, h8⟩ := id ok
  have hr1 : Room 1 _ := hr.mono (by decide)
  have hr4 : Room 4 _ := hr.mono (by decide)
  have ll := zem wl
  refine ⟨_, zae (zcb PassesOwn.never rfl (zbi K .t (zaj DW hr1 rfl (zaa (pv 0) zac))) (zak (i := 2) scRI.nd rfl (Or.inl rfl))
    (zae (zap (i := 3) scRI.nd rfl (Or.inl rfl) (zaj DR hr4 rfl (zaa (pv 0) (zaa (pv 1) (zaa (pv 2) zac)))))
    (zag (ps_if (zoy (ztq (pv 3))) (zag (zaw (pv 3))) zbz))))
   (zag (zaw zyy)), ?_⟩
  refine ⟨_, rfl, wv, n, ps, rfl, W, h8, fun t H1 s1 ht => ?_⟩
  have ul : ((ups ps.length).map V.int).length = ps.length := by rw [List.length_map, zbc]; simp
  refine ⟨t, rfl, ⟨_, SqT.of ht⟩, zcq (k := .t) (K := K) (a := t) (xs := (ups ps.length).map V.int) (fun i σ H' => (∃ u v, σ = [some wv, some (.ref pt), u, v]) /\ Same H1 H' /\ ∀ j p, j < i -> (zat ps wy)[j]? = some p -> ¬ Rch (zat ps wy) p.2 p.1) ⟨⟨_, _, rfl⟩, Same.refl _, fun j p hj => absurd hj (Nat.not_lt_zero _)⟩ (fun i σ H' _ z => SqT.of (z.2.1 _ _ ht)) ?_ ?_⟩
  ·rintro i x σ H2 hx ⟨⟨u, v, rfl⟩, s2, hno⟩
   have il : i < ps.length := by have := (List.getElem?_eq_some_iff.mp hx).1; omega
   have ex : x = .int (i : Int) := by
    rw [List.getElem?_map, zrk il] at hx
    exact (Option.some.inj hx).symm
   subst ex
   obtain ⟨p, ep⟩ : ∃ p, (zat ps wy)[i]? = some p := ⟨_, List.getElem?_eq_getElem (by omega)⟩
   have s12 := s1.trans s2
   dsimp only [gName, List.set]
   refine ⟨_, rfl, _, rfl, _, rfl, wv, pt, n, ps, wy, i, p, rfl, W.same s12, ok, sqT s12 hp, wl, ep, fun v3 H3 s3 hv => ?_⟩
   dsimp only [List.set]
   refine ⟨_, rfl, _, rfl, ?_⟩
   rcases hv with ⟨rfl, nr⟩ | ⟨nn, r⟩
   ·refine iteF ⟨⟨_, _, rfl⟩, s2.trans s3, fun j p' hj e => ?_⟩
    by_cases hji : j = i
    ·rw [hji, ep] at e
     cases e
     exact nr
    ·exact hno j p' (by omega) e
   ·rw [decide_eq_false nn]
    refine iteT ⟨_, rfl, q _ H3 (s12.trans s3) (.inr ⟨nn, fun z => z p (List.mem_of_getElem? ep) r⟩)⟩
  ·rintro σ H2 ⟨⟨u, v, rfl⟩, s2, hno⟩
   rw [ul] at hno
   refine q _ H2 (s1.trans s2) (.inl ⟨rfl, fun p hp' => ?_⟩)
   obtain ⟨j, hj, e⟩ := List.mem_iff_getElem.mp hp'
   exact hno j p (by omega) (by rw [List.getElem?_eq_getElem hj, e])
theorem scRW : zan ["web"] ["web"] (zad sRW) := ⟨rfl, rfl, rfl, by decide +kernel, rfl, by decide +kernel, by decide +kernel⟩
theorem ndPW : (["pointing", "web"] : List Str).Nodup := by decide +kernel
theorem d_rw (S : Src K mg "ringless_ways" sRW ["web"]) (DP : Def P w K mg base 2 "all_pointings" ["web"] (spPtg K)) (DI : Def P w K mg base 5 "ring_in" ["web", "pointing"] (spRI K)) : Def P w K mg base 6 "ringless_ways" ["web"] (zoj K zbr) := by
 refine S.def scRW (fun vs H Q E h => ?_) (fun f cdv A outer s H vs Q E hr h => ?_)
 ·obtain ⟨_, _, _, rfl, _⟩ := h; rfl
 ·obtain ⟨wv, n, ps, rfl, W, ok, q⟩ := h
  obtain ⟨⟨n1, n9⟩, hb, h8⟩ := id ok
  have hr2 : Room 2 _ := hr.mono (by decide)
  have hr5 : Room 5 _ := hr.mono (by decide)
  refine ⟨_, zag (zaw (zci (N' := ["pointing", "web"]) (fr := [none, some 0]) (zbn (by rfl)) rfl (zbi K .l (zaj DP hr2 rfl (zaa (pv 0) zac)))
   (fun _ _ _ _ => zak (i := 0) ndPW rfl (Or.inl rfl) (Or.inr rfl)) (fun _ _ _ _ => zgt (zoy (zza (zaj DI hr5 rfl (zaa (pv 1) (zaa (pv 0) zac)))))) (fun _ _ _ _ => pv 0))), ?_⟩
  refine ⟨_, rfl, wv, n, ps, rfl, W, h8, fun g ys H1 s1 hgN hg hy => ?_⟩
  have yl : ys.length = (allW ps.length).length := Paired.length hy
  have y256 : ys.length <= 256 := by rw [yl, zeq]; exact zhk h8
  refine ⟨g, rfl, ⟨_, SqL.of hg⟩, zct (k := .l) (a := g) (xs := ys) (fun σ => ∃ v, σ = [v, some wv]) (fun j zs H2 => Same H1 H2 /\ Paired (TupAt H2) zs (((allW ps.length).take j).filter fun w => zdt (zat ps w))) ⟨_, rfl⟩ ⟨Same.refl _, .nil⟩ (zdz (by omega)) (fun j zs H2 _ z => SqL.of (z.1 _ _ hg)) ?_ ?_⟩
  ·rintro j x zs σ H2 N hx ⟨u, rfl⟩ ⟨s2, hz⟩ hN
   obtain ⟨wy, ew, c, rfl, hc⟩ := Paired.at hy hx
   have wl := (mem_allW.mp (List.mem_of_getElem? ew)).1
   dsimp only [gName, List.set]
   refine ⟨_, rfl, _, rfl, wv, c, n, ps, wy, rfl, W.same (s1.trans s2), ok, SqT.of (s2 _ _ hc), wl, fun v H3 s3 hv => ⟨_, rfl, ?_⟩⟩
   have ef := zhu (fun w => zdt (zat ps w)) ew
   rcases hv with ⟨rfl, rl⟩ | ⟨nn, nr⟩
   ·refine iteT ⟨_, rfl, ?_⟩
    refine hN _ _ _ ⟨_, rfl⟩ ⟨s2.trans s3, ?_⟩ (by simp)
    rw [ef, if_pos (ringlessB_iff.mpr rl)]
    exact L2.Paired.snoc (zbq hz s3) ⟨c, rfl, s3 _ _ (s2 _ _ hc)⟩
   ·rw [decide_eq_false nn]
    refine iteF ?_
    refine hN _ _ _ ⟨_, rfl⟩ ⟨s2.trans s3, ?_⟩ (by omega)
    rw [ef, if_neg (fun z => nr (ringlessB_iff.mp z)), List.append_nil]
    exact zbq hz s3
  ·rintro zs H2 ⟨s2, hz⟩ l hl
   rw [yl, List.take_length] at hz
   have s3 := Same.new (o := HO.lst zs) hl
   have s12 := s1.trans s2
   exact q l zs _ (s12.trans s3) (zfb s12 hl) zab (zbq hz s3)
end
noncomputable def zco (ps : List (Int × Int)) : List (List Int) := (allW ps.length).filter fun w => zez (zat ps w)
def spIR (K : W.Frag) : Sp := fun vs H Q _ => ∃ (wv : V) (pt : Addr) (n : Int) (ps : List (Int × Int)) (w : List Int), vs = [wv, .ref pt] /\ WebAt H wv n ps /\ WebOk n ps /\ SqT K H pt (w.map V.int) /\ w.length = ps.length /\ ∀ H', Same H H' -> Q (.bl (zez (zat ps w))) H'
section
variable {P : Program} {w : World} {K : W.Frag} {mg : Str -> Option Value} {base : Heap}
theorem scIR : zan ["web", "pointing"] ["web", "pointing"] (zad sIR) := ⟨rfl, rfl, rfl, by decide +kernel, rfl, by decide +kernel, by decide +kernel⟩
theorem ndKPW : (["k", "pointing", "web"] : List Str).Nodup := by decide +kernel
theorem d_ir (T : Txt K mg) (S : Src K mg "is_ringed" sIR ["web", "pointing"]) (DW : Def P w K mg base 1 "whole_pick" ["web"] spWP) (DR : Def P w K mg base 4 "ring_through" ["web", "pointing", "k"] (spRT K)) : Def P w K mg base 5 "is_ringed" ["web", "pointing"] (spIR K) := by
 refine S.def scIR (fun vs H Q E h => ?_) (fun f cdv A outer s H vs Q E hr h => ?_)
 ·obtain ⟨_, _, _, _, _, rfl, _⟩ := h; rfl
 ·obtain ⟨wv, pt, n, ps, wy, rfl, W, ok, hp, wl, q⟩ := h
  obtain ⟨⟨n1, n9⟩, hb, h8⟩ := id ok
  have hr1 : Room 1 _ := hr.mono (by decide)
  have hr4 : Room 4 _ := hr.mono (by decide)
  have ll := zem wl
  refine ⟨_, zag (zaw (zaz (zyo rfl) (by rfl) T.all zwb (zaa (zci (N' := ["k", "pointing", "web"]) (fr := [none, some 1, some 0]) (zbn (by rfl)) rfl (zbi K .t (zaj DW hr1 rfl (zaa (pv 0) zac)))
   (fun _ _ _ _ => zak (i := 0) ndKPW rfl (Or.inl rfl) (Or.inr rfl)) (fun _ _ _ _ => zck) (fun _ _ _ _ => zDy (ztq (zaj DR hr4 rfl (zaa (pv 2) (zaa (pv 1) (zaa (pv 0) zac))))))) zac))), ?_⟩
  refine ⟨_, rfl, wv, n, ps, rfl, W, h8, fun t H1 s1 ht => ?_⟩
  have ul : ((ups ps.length).map V.int).length = ps.length := by rw [List.length_map, zbc]; simp
  refine ⟨t, rfl, ⟨_, SqT.of ht⟩, zct (k := .t) (a := t) (xs := (ups ps.length).map V.int) (fun σ => ∃ u, σ = [u, some (.ref pt), some wv]) (fun i ys H' => Same H1 H' /\ ∃ bs : List Bool, ys = bs.map V.bl /\ (bs.all id = true ↔ ∀ j p, j < i -> (zat ps wy)[j]? = some p -> Rch (zat ps wy) p.2 p.1)) ⟨_, rfl⟩ ⟨Same.refl _, [], rfl, fun _ j p hj => absurd hj (Nat.not_lt_zero _), fun _ => rfl⟩ (by rw [ul]; exact zee (by omega)) (fun i ys H' _ z => SqT.of (z.1 _ _ ht)) ?_ ?_⟩
  ·rintro i x ys σ H2 N hx ⟨u, rfl⟩ ⟨s2, bs, rfl, hbs⟩ hN
   have il : i < ps.length := by have := (List.getElem?_eq_some_iff.mp hx).1; omega
   have ex : x = .int (i : Int) := by
    rw [List.getElem?_map, zrk il] at hx
    exact (Option.some.inj hx).symm
   subst ex
   obtain ⟨p, ep⟩ : ∃ p, (zat ps wy)[i]? = some p := ⟨_, List.getElem?_eq_getElem (by omega)⟩
   have s12 := s1.trans s2
   dsimp only [gName, List.set]
   refine yesT ⟨_, rfl, _, rfl, _, rfl, wv, pt, n, ps, wy, i, p, rfl, W.same s12, ok, sqT s12 hp, wl, ep, fun v3 H3 s3 hv => ?_⟩
   have fin : ∀ b : Bool, (b = true ↔ Rch (zat ps wy) p.2 p.1) -> N ((bs.map V.bl) ++ [V.bl b]) [some (.int (i : Int)), some (.ref pt), some wv] H3 := fun b hb' => by
    refine hN _ _ _ ⟨_, rfl⟩ ⟨s2.trans s3, bs ++ [b], by rw [List.map_append]; rfl, ?_⟩ (by simp)
    rw [List.all_append, Bool.and_eq_true, hbs]
    have e1 : ([b].all id = true) ↔ b = true := by simp
    rw [e1, hb']
    constructor
    ·rintro ⟨z1, z2⟩ j p' hj e
     by_cases hji : j = i
     ·rw [hji, ep] at e
      cases e
      exact z2
     ·exact z1 j p' (by omega) e
    ·intro z
     exact ⟨fun j p' hj e => z j p' (by omega) e, z i p (by omega) ep⟩
   rcases hv with ⟨rfl, nr⟩ | ⟨nn, r⟩
   ·exact fin false ⟨(fun z => nomatch z), fun z => absurd z nr⟩
   ·have e : (V.bl (!decide (v3 = V.non))) = V.bl true := by rw [decide_eq_false nn]; rfl
    show N ((bs.map V.bl) ++ [V.bl (!decide (v3 = V.non))]) _ H3
    rw [e]
    exact fin true ⟨fun _ => r, fun _ => rfl⟩
  ·rintro ys H2 ⟨s2, bs, rfl, hbs⟩ p3 hp3
   refine ⟨p3, bs, rfl, SqL.of zab, ?_⟩
   rw [ul] at hbs
   have e : bs.all id = zez (zat ps wy) := by
    rw [Bool.eq_iff_iff, hbs, zhi]
    constructor
    ·intro z p hp'
     obtain ⟨j, hj, e⟩ := List.mem_iff_getElem.mp hp'
     exact z j p (by omega) (by rw [List.getElem?_eq_getElem hj, e])
    ·intro z j p _ e
     exact z p (List.mem_of_getElem? e)
   rw [e]
   exact q _ (s1.trans (s2.trans (Same.new hp3)))
theorem scRD : zan ["web"] ["web"] (zad sRD) := ⟨rfl, rfl, rfl, by decide +kernel, rfl, by decide +kernel, by decide +kernel⟩
theorem d_rd (S : Src K mg "ringed_ways" sRD ["web"]) (DP : Def P w K mg base 2 "all_pointings" ["web"] (spPtg K)) (DI : Def P w K mg base 5 "is_ringed" ["web", "pointing"] (spIR K)) : Def P w K mg base 6 "ringed_ways" ["web"] (zoj K zco) := by
 refine S.def scRD (fun vs H Q E h => ?_) (fun f cdv A outer s H vs Q E hr h => ?_)
 ·obtain ⟨_, _, _, rfl, _⟩ := h; rfl
 ·obtain ⟨wv, n, ps, rfl, W, ok, q⟩ := h
  obtain ⟨⟨n1, n9⟩, hb, h8⟩ := id ok
  have hr2 : Room 2 _ := hr.mono (by decide)
  have hr5 : Room 5 _ := hr.mono (by decide)
  refine ⟨_, zag (zaw (zci (N' := ["pointing", "web"]) (fr := [none, some 0]) (zbn (by rfl)) rfl (zbi K .l (zaj DP hr2 rfl (zaa (pv 0) zac)))
   (fun _ _ _ _ => zak (i := 0) ndPW rfl (Or.inl rfl) (Or.inr rfl)) (fun _ _ _ _ => zgt (zet (zaj DI hr5 rfl (zaa (pv 1) (zaa (pv 0) zac))))) (fun _ _ _ _ => pv 0))), ?_⟩
  refine ⟨_, rfl, wv, n, ps, rfl, W, h8, fun g ys H1 s1 hgN hg hy => ?_⟩
  have yl : ys.length = (allW ps.length).length := Paired.length hy
  have y256 : ys.length <= 256 := by rw [yl, zeq]; exact zhk h8
  refine ⟨g, rfl, ⟨_, SqL.of hg⟩, zct (k := .l) (a := g) (xs := ys) (fun σ => ∃ v, σ = [v, some wv]) (fun j zs H2 => Same H1 H2 /\ Paired (TupAt H2) zs (((allW ps.length).take j).filter fun w => zez (zat ps w))) ⟨_, rfl⟩ ⟨Same.refl _, .nil⟩ (zdz (by omega)) (fun j zs H2 _ z => SqL.of (z.1 _ _ hg)) ?_ ?_⟩
  ·rintro j x zs σ H2 N hx ⟨u, rfl⟩ ⟨s2, hz⟩ hN
   obtain ⟨wy, ew, c, rfl, hc⟩ := Paired.at hy hx
   have wl := (mem_allW.mp (List.mem_of_getElem? ew)).1
   dsimp only [gName, List.set]
   refine ⟨_, rfl, _, rfl, wv, c, n, ps, wy, rfl, W.same (s1.trans s2), ok, SqT.of (s2 _ _ hc), wl, fun H3 s3 => ⟨_, rfl, ?_⟩⟩
   have ef := zhu (fun w => zez (zat ps w)) ew
   refine ite2 (fun z => ⟨_, rfl, ?_⟩) (fun z => ?_)
   ·refine hN _ _ _ ⟨_, rfl⟩ ⟨s2.trans s3, ?_⟩ (by simp)
    rw [ef, if_pos z]
    exact L2.Paired.snoc (zbq hz s3) ⟨c, rfl, s3 _ _ (s2 _ _ hc)⟩
   ·refine hN _ _ _ ⟨_, rfl⟩ ⟨s2.trans s3, ?_⟩ (by omega)
    rw [ef, if_neg z, List.append_nil]
    exact zbq hz s3
  ·rintro zs H2 ⟨s2, hz⟩ l hl
   rw [yl, List.take_length] at hz
   have s3 := Same.new (o := HO.lst zs) hl
   have s12 := s1.trans s2
   exact q l zs _ (s12.trans s3) (zfb s12 hl) zab (zbq hz s3)
end
section
variable {n : Nat} {ps : List (Int × Int)}
theorem zui (hb : ∀ p ∈ ps, InN (n : Int) p) : ps.map (labQ (ups (n : Int))) = ps := by
 refine Eq.trans (List.map_congr_left (g := id) fun p hp => ?_) (List.map_id _)
 have b := hb p hp
 show (at0 (ups (n : Int)) p.1, at0 (ups (n : Int)) p.2) = p
 rw [zfp b.1 b.2.1, zfp b.2.2.1 b.2.2.2]
theorem zuv (hb : ∀ p ∈ ps, InN (n : Int) p) : InL (ups (n : Int)).length ps := fun p hp => by
 rw [zbc, Int.toNat_natCast]
 exact hb p hp
theorem ztw (p : Prop) (b : Bool) (h : b = true ↔ p) : (oneB p : Int) = if b then 1 else 0 := by
 by_cases c : p
 ·rw [zcg c, h.mpr c]; rfl
 ·rw [zbt c, Bool.eq_false_iff.mpr fun z => c (h.mp z)]; rfl
theorem zFe : aW ps = ((zbr ps).length : Int) := by
 unfold aW zbr
 rw [<- zjr]
 exact zah fun w _ => ztw _ _ ringlessB_iff
theorem zFd : bW ps = ((zco ps).length : Int) := by
 unfold bW zco
 rw [<- zjr]
 exact zah fun w _ => ztw _ _ zhi
theorem znc (b : Nat) : (-1 : Int) ^ b = sgn b := rfl
theorem dc_rk (ps : List (Int × Int)) (A : List Int) : (zau (hdF ps (ups (n : Int)) A) : Int) = (n : Int) - rkP (n : Int) ps A := by
 unfold rkP
 lia
theorem zlb (ok : WebOk (n : Int) ps) : (sm (allP ps) fun A => sgn ((A.length : Int) - rkP (n : Int) ps A).toNat) = ((zbr ps).length : Int) := by
 obtain ⟨⟨n1, n9⟩, hb, h8⟩ := id ok
 have o := zbw n1 n9 hb
 have st := zna ps (ups (n : Int)) h8 (zuv hb)
 rw [zui hb, zFe] at st
 have d0 : zau (ups (n : Int)) = n := by
  have := dc_rk (n := n) ps []
  rw [o.nil] at this
  have e : hdF ps (ups (n : Int)) [] = ups (n : Int) := rfl
  rw [e] at this
  lia
 rw [d0] at st
 have e : sA (ups (n : Int)) ps = sgn n * sm (allP ps) fun A => sgn ((A.length : Int) - rkP (n : Int) ps A).toNat := by
  unfold sA
  rw [<- zer]
  refine zah fun A hA => ?_
  have kA := zcj h8 hA
  have r1 := o.le kA
  have dd := dc_rk (n := n) ps A
  rw [show A.length + zau (hdF ps (ups (n : Int)) A) = n + ((A.length : Int) - rkP (n : Int) ps A).toNat by lia, zsp]
 rw [e] at st
 have := congrArg (sgn n * ·) st
 rw [<- Int.mul_assoc, <- Int.mul_assoc, zso, Int.one_mul, Int.one_mul] at this
 exact this
theorem zqt (ok : WebOk (n : Int) ps) : (sm (allP ps) fun A => sgn (rkAll (n : Int) ps - rkP (n : Int) ps A).toNat) = ((zco ps).length : Int) := by
 obtain ⟨⟨n1, n9⟩, hb, h8⟩ := id ok
 have o := zbw n1 n9 hb
 have st := zqj ps (ups (n : Int)) h8 (zuv hb)
 rw [zui hb, zFd] at st
 have da : (dAll (ups (n : Int)) ps : Int) = (n : Int) - rkAll (n : Int) ps := by
  have := dc_rk (n := n) ps (ups ps.length)
  rw [zuy] at this
  exact this
 have e : sB (ups (n : Int)) ps = sgn (dAll (ups (n : Int)) ps) * sm (allP ps) fun A => sgn (rkAll (n : Int) ps - rkP (n : Int) ps A).toNat := by
  unfold sB
  rw [<- zer]
  refine zah fun A hA => ?_
  have kA := zcj h8 hA
  have r3 : rkP (n : Int) ps A <= rkAll (n : Int) ps := o.mono kA (zcf _) fun k hk => mem_ups.mpr (kA k hk)
  have dd := dc_rk (n := n) ps A
  rw [show zau (hdF ps (ups (n : Int)) A) = dAll (ups (n : Int)) ps + (rkAll (n : Int) ps - rkP (n : Int) ps A).toNat by lia, zsp]
 rw [e] at st
 have := congrArg (sgn (dAll (ups (n : Int)) ps) * ·) st
 rw [<- Int.mul_assoc, <- Int.mul_assoc, zso, Int.one_mul, Int.one_mul] at this
 exact this
theorem zot (ok : WebOk (n : Int) ps) : 0 <= rkAll (n : Int) ps /\ rkAll (n : Int) ps <= n /\ rkAll (n : Int) ps <= ps.length := by
 obtain ⟨⟨n1, n9⟩, hb, h8⟩ := id ok
 have o := zbw n1 n9 hb
 have := zqn n1 n9 hb (zcf ps.length)
 rw [zbc, Int.toNat_natCast] at this
 have e : rkAll (n : Int) ps = n - cN n ps (ups ps.length) := rfl
 have p : 0 <= cN (n : Int) ps (ups ps.length) := Int.natCast_nonneg _
 lia
theorem zvr (ok : WebOk (n : Int) ps) : sgn (rkAll (n : Int) ps).toNat * (-1) ^ ((n : Int) - rkAll (n : Int) ps).toNat * lin (trT (n : Int) ps (ups ps.length)) (xy (1 - -1) 0) = ((zbr ps).length : Int) * sgn n := by
 obtain ⟨r0, r1, r2⟩ := zot ok
 rw [zgk ok (List.Perm.refl _), <- zlb ok, znc, <- zsp, show (rkAll (n : Int) ps).toNat + ((n : Int) - rkAll (n : Int) ps).toNat = n by lia, Int.mul_comm]
 congr 1
 refine zah fun A _ => ?_
 rw [show (1 : Int) - -1 - 1 = 1 by decide, show (0 : Int) - 1 = -1 by decide, Int.one_pow, Int.one_mul, znc]
theorem zrh (ok : WebOk (n : Int) ps) : sgn ((ps.length : Int) - rkAll (n : Int) ps).toNat * lin (trT (n : Int) ps (ups ps.length)) (xy 0 (1 - -1)) = ((zco ps).length : Int) * sgn ((ps.length : Int) - rkAll (n : Int) ps).toNat := by
 rw [zgk ok (List.Perm.refl _), <- zqt ok, Int.mul_comm]
 congr 1
 refine zah fun A _ => ?_
 rw [show (1 : Int) - -1 - 1 = 1 by decide, show (0 : Int) - 1 = -1 by decide, Int.one_pow, Int.mul_one, znc]
theorem zFa (n1 : 1 <= n) : (colsP 0 (n : Int) ps).length = 0 := by
 unfold colsP
 rw [Int.toNat_natCast]
 obtain ⟨m, rfl⟩ : ∃ m, n = m + 1 := ⟨n - 1, by lia⟩
 have : allT 0 (m + 1) = [] := List.eq_nil_iff_forall_not_mem.mpr fun f hf => by
  obtain ⟨fl, fc⟩ := allT_mem.mp hf
  cases f with
  | nil => cases fl
  | cons c f => have := fc c List.mem_cons_self; simp at this; lia
 rw [this]
 rfl
theorem zqo (m : Nat) (i : Int) : at0 (List.replicate m (0 : Int)) i = 0 := by
 unfold at0
 rw [List.getD_eq_getElem?_getD, List.getElem?_replicate]
 split <;> rfl
theorem zEz : ((colsP 1 (n : Int) ps).length : Int) = if ps.length = 0 then 1 else 0 := by
 unfold colsP
 rw [Int.toNat_natCast]
 have u1 : ups ((1 : Nat) : Int) = [0] := rfl
 have : ∀ m, allT 1 m = [List.replicate m 0] := fun m => by
  induction m with
  | zero => rfl
  | succ m ih =>
   show (allT 1 m).flatMap (fun f => (ups ((1 : Nat) : Int)).map fun c => f ++ [c]) = _
   rw [ih, u1, List.replicate_succ']
   rfl
 rw [this]
 cases ps with
 | nil => rfl
 | cons p ps =>
  have : propF (p :: ps) (List.replicate n 0) = false := by
   unfold propF
   rw [List.all_cons, zqo, zqo]
   rfl
  rw [List.filter_cons, this]
  rfl
theorem fls_1 : ((flsP 1 n ps).length : Int) = if ps.length = 0 then 1 else 0 := by
 unfold flsP
 cases ps with
 | nil =>
  have : flP n 1 [] [] = true := by
   unfold flP zD
   rw [List.all_eq_true]
   intro v _
   rfl
  show (((([[]] : List (List Int)).filter (flP n 1 [])).length : Nat) : Int) = 1
  rw [List.filter_cons, this]
  rfl
 | cons p ps =>
  have : allN 1 (ps.length + 1) = [] := by
   show (allN 1 ps.length).flatMap (fun f => (nums 1).map fun c => f ++ [c]) = []
   have e : nums 1 = [] := rfl
   rw [e]
   refine List.eq_nil_iff_forall_not_mem.mpr fun f hf => ?_
   obtain ⟨a, _, h⟩ := List.mem_flatMap.mp hf
   cases h
  rw [List.length_cons, this]
  rfl
def enN (ps : List (Int × Int)) (v : Int) : Nat -> Int
 | 0 => 0
 | j + 1 => enN ps v j + (if v = (tieN ps (j : Int)).1 then 1 else 0) + (if v = (tieN ps (j : Int)).2 then 1 else 0)
def endsP (n : Int) (ps : List (Int × Int)) : List Int := (ups n).map fun v => enN ps v ps.length
theorem ov_en (v : Int) (m : Nat) : ∀ j, j <= m -> ovS ps (List.replicate m 1) v j % 2 = enN ps v j % 2
 | 0, _ => rfl
 | j + 1, h => by
  have ih := ov_en v m j (by lia)
  have a1 : at0 (List.replicate m (1 : Int)) (j : Int) = 1 := by
   unfold at0
   rw [Int.toNat_natCast, List.getD_eq_getElem?_getD, List.getElem?_replicate, if_pos (by lia)]
   rfl
  show (ovS ps (List.replicate m 1) v j + _ - _) % 2 = (enN ps v j + _ + _) % 2
  rw [a1]
  split <;> split <;> lia
theorem fls_2 : ((flsP 2 n ps).length : Int) = if (endsP n ps).filter (fun x => decide (x % 2 = 1)) = [] then 1 else 0 := by
 unfold flsP
 have n2 : nums 2 = [1] := rfl
 have : ∀ m, allN 2 m = [List.replicate m 1] := fun m => by
  induction m with
  | zero => rfl
  | succ m ih =>
   show (allN 2 m).flatMap (fun f => (nums 2).map fun c => f ++ [c]) = _
   rw [ih, n2, List.replicate_succ']
   rfl
 rw [this, List.filter_cons]
 have key : flP n 2 ps (List.replicate ps.length 1) = true ↔ (endsP n ps).filter (fun x => decide (x % 2 = 1)) = [] := by
  unfold flP zD endsP
  rw [List.all_eq_true, List.filter_eq_nil_iff]
  constructor
  ·intro h x hx
   obtain ⟨v, hv, rfl⟩ := List.mem_map.mp hx
   have := of_decide_eq_true (h v hv)
   rw [show (((2 : Nat) : Int)) = 2 from rfl, ov_en v ps.length ps.length (Nat.le_refl _)] at this
   rw [decide_eq_true_iff]
   lia
  ·intro h v hv
   have := h _ (List.mem_map.mpr ⟨v, hv, rfl⟩)
   rw [decide_eq_true_iff] at this
   refine decide_eq_true ?_
   rw [show (((2 : Nat) : Int)) = 2 from rfl, ov_en v ps.length ps.length (Nat.le_refl _)]
   lia
 by_cases c : flP n 2 ps (List.replicate ps.length 1) = true
 ·rw [c, if_pos (key.mp c)]
  rfl
 ·rw [if_neg (fun z => c (key.mpr z)), Bool.eq_false_iff.mpr c]
  rfl
end
open Builtin.Int (intBits)
def spCIs : Sp := fun vs H Q _ => ∃ a : Int, vs = [.int a, .int a] /\ Q (.bl true) H
def zsc (K : W.Frag) : Sp := fun vs H Q _ => ∃ (a : Addr) (ms : List Int) (n : Int), vs = [.ref a, .int n] /\ SqL K H a (ms.map V.int) /\ ms.length <= 8 /\ 1 <= n /\ n <= 9 /\
 ∀ t xs ps H', Same H H' -> H' t = some (.tup xs) -> Paired (TieAt H') xs ps -> (∀ p ∈ ps, InN n p) -> NrmP ps -> ps.length <= 8 -> Q (.ref t) H'
section
variable {P : Program} {w : World} {K : W.Frag} {mg : Str -> Option Value} {base : Heap}
theorem scCIs : zan ["_law_found", "_law_due"] ["_law_found", "_law_due"] (zad zeg) := ⟨rfl, rfl, rfl, by decide +kernel, rfl, by decide +kernel, by decide +kernel⟩
theorem d_cis (T : Txt K mg) (S : Src K mg "_law_count_is" zeg ["_law_found", "_law_due"]) : Def P w K mg base 1 "_law_count_is" ["_law_found", "_law_due"] spCIs := by
 refine S.def scCIs (fun vs H Q E h => ?_) (fun f cdv A outer s H vs Q E hr h => ?_)
 ·obtain ⟨_, rfl, _⟩ := h; rfl
 ·obtain ⟨x, rfl, q⟩ := h
  refine ⟨_, zag (zaw (ziy (zaz (zce K) (by rfl) T.isi zcu (zaa (pv 0) (zaa (zdg (v := .ty "int") rfl T.int zda rfl) zac)))
   (ziy (ztp (zaz (zce K) (by rfl) T.isi zcu (zaa (pv 0) (zaa (zdg (v := .ty "bool") rfl T.bool zep rfl) zac))))
   (zix (zfv op_eq (pv 0) (pv 1) (zch _)))))), ?_⟩
  refine ⟨_, rfl, _, _, _, _, _, rfl, rfl, .int _, zuj K, _, rfl, iteT ⟨_, rfl, _, _, _, _, _, rfl, rfl, .int _, znn K, _, rfl, _, rfl, iteT ⟨_, rfl, _, rfl, rfl, ?_⟩⟩⟩
  rw [decide_eq_true rfl]
  exact q
theorem scLTies : zan ["_law_cells", "_law_n", "_law_ties_here", "_law_cell", "_law_a", "_law_b"] ["_law_cells", "_law_n"] (zad sTies) := ⟨rfl, rfl, rfl, by decide +kernel, rfl, by decide +kernel, by decide +kernel⟩
theorem zCe (T : Txt K mg) (S : Src K mg "_law_ties" sTies ["_law_cells", "_law_n"]) : Def P w K mg base 1 "_law_ties" ["_law_cells", "_law_n"] (zsc K) := by
 refine S.def scLTies (fun vs H Q E h => ?_) (fun f cdv A outer s H vs Q E hr h => ?_)
 ·obtain ⟨_, _, _, rfl, _⟩ := h; rfl
 ·obtain ⟨a, ms, n, rfl, hq, m8, n1, n9, q⟩ := h
  refine ⟨_, zae (zap (i := 2) scLTies.nd rfl (Or.inl rfl) (zbu zac))
   (zae (zcb PassesOwn.never rfl (zbi K .l (pv 0)) (zak (i := 3) scLTies.nd rfl (Or.inl rfl))
    (zae (zap (i := 4) scLTies.nd rfl (Or.inl rfl) (pe_op zgc (pv 3) (pv 1)))
    (zae (zap (i := 5) scLTies.nd rfl (Or.inl rfl) (pe_op zgc (pe_op ztt (pv 3) (pv 1)) (pv 1)))
    (zag (zcx (pe_bm PySem.F.plainAttrs_list PySem.F.slot_list_append PySem.F.type_list_append zlt (pv 2) (zaa (zbj (zaa (zaz (zmh rfl) (by rfl) T.min zml (zaa (pv 4) (zaa (pv 5) zac))) (zaa (zaz (zmi rfl) (by rfl) T.max zmm (zaa (pv 4) (zaa (pv 5) zac))) zac))) zac)))))))
   (zag (zaw (zbh (zeu K) rfl T.tuple zdn (zaa (pv 2) zac))))), ?_⟩
  refine ⟨Nat.zero_le _, fun l hl => ?_⟩
  have s1 := Same.new (o := HO.lst []) hl
  have g1 : (upd H l (.lst [])) l = some (.lst []) := zab
  generalize upd H l (.lst []) = H1 at s1 g1 ⊢
  refine ⟨_, rfl, a, rfl, ⟨_, s1.seq hq⟩, zcq (k := .l) (K := K) (a := a) (xs := ms.map V.int) (fun i σ H' => ∃ u v r, σ = [some (.ref a), some (.int n), some (.ref l), u, v, r] /\ Same H H' /\ ∃ xs ps, H' l = some (.lst xs) /\ Paired (TieAt H') xs ps /\ ps.length = i /\ (∀ p ∈ ps, InN n p) /\ NrmP ps)
   ⟨_, _, _, rfl, s1, [], [], g1, .nil, rfl, (fun _ z => nomatch z), fun _ z => nomatch z⟩ (fun i σ H' _ ⟨_, _, _, _, z, _⟩ => z.seq hq) ?_ ?_⟩
  ·rintro i x σ H3 hx ⟨u, v, r, rfl, sm, xs, ps, hl3, ht, pl, hb, nm⟩
   obtain ⟨cell, ec, rfl⟩ := zdj hx
   have il : i < 8 := by
    have := (List.getElem?_eq_some_iff.mp ec).1
    lia
   dsimp only [gName, List.set]
   refine ⟨_, rfl, _, rfl, _, _, rfl, rfl, (by show 0 < n; lia), ?_⟩
   refine ⟨_, rfl, _, rfl, _, _, rfl, rfl, ⟨by show 0 < n; lia, by show n < 1073741824; lia⟩, _, rfl, _, _, rfl, rfl, (by show 0 < n; lia), ?_⟩
   have m1 := zpq cell n (by lia)
   have m2 := zpq (cell / n) n (by lia)
   dsimp only [List.set]
   generalize cell % n = A1 at m1 ⊢
   generalize cell / n % n = B1 at m2 ⊢
   refine ⟨_, rfl, .inl ⟨rfl, _, SqL.of hl3⟩, _, rfl, _, rfl, _, _, rfl, _, rfl, _, rfl, _, _, rfl, by show 2 <= sizeLine; decide, fun c hc => ?_⟩
   have s5 := Same.new (o := HO.tup [.int (if B1 < A1 then B1 else A1), .int (if B1 > A1 then B1 else A1)]) hc
   have hl5 := s5 _ _ hl3
   have ht5 := zcw ht s5
   have hc5 : (upd H3 c (.tup [.int (if B1 < A1 then B1 else A1), .int (if B1 > A1 then B1 else A1)])) c = some (.tup [.int (if B1 < A1 then B1 else A1), .int (if B1 > A1 then B1 else A1)]) := zab
   have sm5 := sm.trans s5
   generalize upd H3 c (.tup [.int (if B1 < A1 then B1 else A1), .int (if B1 > A1 then B1 else A1)]) = H5 at hl5 ht5 hc5 sm5 ⊢
   have xl : xs.length = ps.length := Paired.length ht5
   refine ⟨l, xs, .ref c, rfl, rfl, hl5, Nat.lt_of_le_of_lt (show xs.length <= 8 by lia) (by decide), ?_⟩
   have tc : Paired (TieAt H5) (xs ++ [.ref c]) (ps ++ [(if B1 < A1 then B1 else A1, if B1 > A1 then B1 else A1)]) := L2.Paired.snoc ht5 ⟨c, rfl, hc5⟩
   refine ⟨_, _, _, rfl, zxa sm5 hl, xs ++ [.ref c], _, zab, zws tc hl5, by rw [List.length_append, pl, List.length_singleton], fun p hp => ?_, fun p hp => ?_⟩
   ·rcases List.mem_append.mp hp with hp | hp
    ·exact hb p hp
    ·rw [List.mem_singleton.mp hp]
     unfold InN
     dsimp only
     split <;> split <;> lia
   ·rcases List.mem_append.mp hp with hp | hp
    ·exact nm p hp
    ·rw [List.mem_singleton.mp hp]
     dsimp only
     split <;> split <;> lia
  ·rintro σ H3 ⟨u, v, r, rfl, sm, xs, ps, hl3, ht, pl, hb, nm⟩
   rw [List.length_map] at pl
   refine ⟨_, rfl, l, xs, rfl, .inl ⟨SqL.of hl3, fun d hd => ?_⟩⟩
   have s4 := Same.new (o := HO.tup xs) hd
   exact q d xs ps _ (sm.trans s4) zab (zcw ht s4) hb nm (by lia)
end
open Builtin.Int (intBits)
def zsh (K : W.Frag) : Sp := fun vs H Q _ => ∃ (l : Addr) (row : List Int), vs = [.ref l] /\ H l = some (.lst (row.map V.int)) /\ row.length <= 61 /\ (row = [] \/ at0 row ((row.length : Int) - 1) ≠ 0) /\ ∀ H', Same H H' -> Q (.bl true) H'
def zsd (K : W.Frag) : Sp := fun vs H Q _ => ∃ (l : Addr) (row : List Int) (q : Int), vs = [.ref l, .int q] /\ H l = some (.lst (row.map V.int)) /\ row.length <= 61 /\ (∀ x ∈ row, intBits x <= 256) /\ intBits q <= 256 /\ Q (.int (ev row q)) H
theorem zvb {q : Int} (hq : intBits q <= 256) : ∀ {c : List Int}, (∀ x ∈ c, intBits x <= 256) -> intBits (ev c q) <= 257 * c.length + 257
 | [], _ => by
  show intBits (0 : Int) <= _
  exact Nat.le_trans (intBits_le_iff.mpr (Nat.two_pow_pos 1)) (by lia)
 | a :: c, h => by
  have ih := zvb hq (c := c) fun x hx => h x (List.mem_cons_of_mem _ hx)
  have ha := h a List.mem_cons_self
  have hm := intBits_mul_le hq ih
  show intBits (a + q * ev c q) <= 257 * (c.length + 1) + 257
  have e1 := intBits_le_iff.mp ha
  have e2 := intBits_le_iff.mp hm
  refine intBits_le_iff.mpr ?_
  have e3 : (a + q * ev c q).natAbs <= a.natAbs + (q * ev c q).natAbs := Int.natAbs_add_le _ _
  have e4 : (2 : Nat) ^ 256 <= 2 ^ (256 + (257 * c.length + 257)) := Nat.pow_le_pow_right (by decide) (by lia)
  have e5 : 2 ^ (257 * (c.length + 1) + 257) = 2 ^ (256 + (257 * c.length + 257)) * 2 := by
   rw [<- Nat.pow_succ]
   congr 1
   lia
  lia
section
variable {P : Program} {w : World} {K : W.Frag} {mg : Str -> Option Value} {base : Heap}
theorem scRowAt : zan ["_law_row", "_law_q", "_law_found", "_law_number"] ["_law_row", "_law_q"] (zad zin) := ⟨rfl, rfl, rfl, by decide +kernel, rfl, by decide +kernel, by decide +kernel⟩
theorem zCb (hrev : mg "reversed" = none) (S : Src K mg "_law_row_at" zin ["_law_row", "_law_q"]) : Def P w K mg base 1 "_law_row_at" ["_law_row", "_law_q"] (zsd K) := by
 refine S.def scRowAt (fun vs H Q E h => ?_) (fun f cdv A outer s H vs Q E hr h => ?_)
 ·obtain ⟨_, _, _, rfl, _⟩ := h; rfl
 ·obtain ⟨l, row, q, rfl, hl, l61, rb, qb, k⟩ := h
  refine ⟨_, zae (zap (i := 2) scRowAt.nd rfl (Or.inl rfl) zaf)
   (zae (zcb PassesOwn.never rfl (zDv rfl hrev (pv 0)) (zak (i := 3) scRowAt.nd rfl (Or.inl rfl))
    (zag (zap (i := 2) scRowAt.nd rfl (Or.inl rfl) (pe_op zdu (pe_op zhn (pv 2) (pv 1)) (pv 3)))))
   (zag (zaw (pv 2)))), ?_⟩
  refine ⟨_, rfl, l, row.map V.int, rfl, SqL.of hl, zBu (K := K) (a := l) (xs := row.map V.int) (fun i σ H' => (∃ u, σ = [some (.ref l), some (.int q), some (.int (ev (row.drop (row.length - i)) q)), u]) /\ H' = H) ⟨⟨none, by rw [Nat.sub_zero, List.drop_length]; rfl⟩, rfl⟩ (fun i σ H' _ z => by rw [z.2]; exact SqL.of hl) ?_ ?_⟩
  ·rintro i x σ H' hx ⟨⟨u, rfl⟩, rfl⟩
   have il : i < row.length := by
    have := (List.getElem?_eq_some_iff.mp hx).1
    rwa [List.length_reverse, List.length_map] at this
   rw [List.getElem?_reverse (by rw [List.length_map]; exact il), List.length_map] at hx
   obtain ⟨a, ea, rfl⟩ := zdj hx
   have ed : row.drop (row.length - (i + 1)) = a :: row.drop (row.length - i) := by
    have jl : row.length - 1 - i < row.length := by lia
    have e1 : row.length - (i + 1) = row.length - 1 - i := by lia
    have e2 : row.length - i = row.length - 1 - i + 1 := by lia
    rw [e1, e2, List.drop_eq_getElem_cons jl]
    congr 1
    rw [List.getElem?_eq_getElem jl] at ea
    exact Option.some.inj ea
   have bits : intBits (ev (row.drop (row.length - i)) q) <= 16000 := by
    refine Nat.le_trans (zvb qb fun x hx => rb x (List.mem_of_mem_drop hx)) ?_
    rw [List.length_drop]
    lia
   dsimp only [gName, List.set]
   refine ⟨_, rfl, _, rfl, _, _, rfl, rfl, IntMulOk.of_le bits qb (by decide), _, rfl, _, _, rfl, rfl, ⟨some (.int a), ?_⟩, rfl⟩
   rw [ed]
   show [some (V.ref l), some (V.int q), some (V.int (ev (row.drop (row.length - i)) q * q + a)), some (V.int a)] = [some (V.ref l), some (V.int q), some (V.int (a + q * ev (row.drop (row.length - i)) q)), some (V.int a)]
   rw [Int.mul_comm, Int.add_comm]
  ·rintro σ H' ⟨⟨u, rfl⟩, rfl⟩
   rw [List.length_map, Nat.sub_self, List.drop_zero]
   exact ⟨_, rfl, k⟩
theorem scIsRow : zan ["_law_found", "_law_number"] ["_law_found"] (zad zis) := ⟨rfl, rfl, rfl, by decide +kernel, rfl, by decide +kernel, by decide +kernel⟩
theorem zCh (T : Txt K mg) (S : Src K mg "_law_is_row" zis ["_law_found"]) : Def P w K mg base 1 "_law_is_row" ["_law_found"] (zsh K) := by
 refine S.def scIsRow (fun vs H Q E h => ?_) (fun f cdv A outer s H vs Q E hr h => ?_)
 ·obtain ⟨_, _, rfl, _⟩ := h; rfl
 ·obtain ⟨l, row, rfl, hl, l61, ne, k⟩ := h
  refine ⟨_, zae (ps_if (zfh (zet (zaz (zce K) (by rfl) T.isi zcu (zaa (pv 0) (zaa (zdg (v := .ty "list") rfl T.list zeo rfl) zac))))) (zag (zaw pe_bl)) zbz)
   (zae (zcb PassesOwn.never rfl (zbi K .l (pv 0)) (zak (i := 1) scIsRow.nd rfl (Or.inl rfl))
    (zag (ps_if (PW.pt (pw_or (zfh (zet (zaz (zce K) (by rfl) T.isi zcu (zaa (pv 1) (zaa (zdg (v := .ty "int") rfl T.int zda rfl) zac))))) (zox (zet (zaz (zce K) (by rfl) T.isi zcu (zaa (pv 1) (zaa (zdg (v := .ty "bool") rfl T.bool zep rfl) zac))))))) (zag (zaw pe_bl)) zbz)))
   (zag (zaw (pe_or (zfv (zlp K (zrn hr)) (pv 0) (zbu zac) (zch _)) (zix (zfv op_ne (pe_ix (zbk K) (pv 0) (pe_un zdo zaf) (fun _ _ => rfl)) zaf (zch _))))))), ?_⟩
  refine ⟨_, rfl, _, _, _, _, _, rfl, rfl, .lst hl, zEe K, _, rfl, iteF ?_⟩
  refine ⟨_, rfl, l, rfl, ⟨_, SqL.of hl⟩, zcq (k := .l) (K := K) (a := l) (xs := row.map V.int) (fun i σ H' => (∃ u, σ = [some (.ref l), u]) /\ H' = H) ⟨⟨_, rfl⟩, rfl⟩ (fun i σ H' _ z => by rw [z.2]; exact SqL.of hl) ?_ ?_⟩
  ·rintro i x σ H2 hx ⟨⟨u, rfl⟩, rfl⟩
   obtain ⟨c, ec, rfl⟩ := zdj hx
   dsimp only [gName, List.set]
   exact ⟨_, rfl, _, _, _, _, _, rfl, rfl, .int _, zuj K, _, rfl, iteF ⟨_, rfl, _, _, _, _, _, rfl, rfl, .int _, znn K, _, rfl, iteF ⟨⟨_, rfl⟩, rfl⟩⟩⟩
  ·rintro σ H2 ⟨⟨u, rfl⟩, rfl⟩
   refine ⟨_, rfl, Nat.zero_le _, fun e he => ⟨l, e, row.map V.int, rfl, rfl, SqL.of (Same.new he _ _ hl), SqL.of zab, _, rfl, ?_⟩⟩
   have s3 := Same.new (o := HO.lst []) he
   have hl3 := s3 _ _ hl
   generalize upd H2 e (.lst []) = H3 at s3 hl3 ⊢
   rcases ne with rfl | ne
   ·exact iteT (k _ s3)
   ·by_cases z : row = []
    ·rw [decide_eq_true (show row.map V.int = [] by rw [z]; rfl)]
     exact iteT (k _ s3)
    ·have rp : 0 < row.length := List.length_pos_iff.mpr z
     have la : atI (row.map V.int) (-1) = some (.int (at0 row ((row.length : Int) - 1))) := by
      refine zwd (by rw [List.length_map]; exact rp) ?_
      rw [List.length_map, List.getElem?_map, List.getElem?_eq_getElem (by lia)]
      unfold at0
      rw [show ((row.length : Int) - 1).toNat = row.length - 1 by lia, List.getD_eq_getElem?_getD, List.getElem?_eq_getElem (by lia)]
      rfl
     rw [decide_eq_false (fun y => z (List.map_eq_nil_iff.mp y))]
     refine iteF ⟨_, rfl, _, rfl, l, _, _, _, rfl, rfl, SqL.of hl3, la, rfl, ?_⟩
     rw [decide_eq_false (fun y => ne (by injection y))]
     exact k _ s3
end
def zsg (K : W.Frag) : Sp := fun vs H Q _ => ∃ (wv : V) (pk : Addr) (n : Int) (ps : List (Int × Int)) (ks : List Int), vs = [wv, .ref pk] /\ WebAt H wv n ps /\ WebOk n ps /\ H pk = some (.lst (ks.map V.int)) /\ Ks ps.length ks /\ ∀ H', Same H H' -> Q (.int (rkP n ps ks)) H'
section
variable {P : Program} {w : World} {K : W.Frag} {mg : Str -> Option Value} {base : Heap}
theorem scLRank : zan ["_law_web", "_law_pick", "_law_marks", "_law_found", "_law_k", "_law_a", "_law_b", "_law_gone"] ["_law_web", "_law_pick"] (zad zir) := ⟨rfl, rfl, rfl, by decide +kernel, rfl, by decide +kernel, by decide +kernel⟩
theorem ndR : (["_law_mark", "_law_a", "_law_gone", "_law_marks"] : List Str).Nodup := by decide +kernel
theorem zCf (T : Txt K mg) (S : Src K mg "_law_rank" zir ["_law_web", "_law_pick"]) : Def P w K mg base 1 "_law_rank" ["_law_web", "_law_pick"] (zsg K) := by
 refine S.def scLRank (fun vs H Q E h => ?_) (fun f cdv A outer s H vs Q E hr h => ?_)
 ·obtain ⟨_, _, _, _, _, rfl, _⟩ := h; rfl
 ·obtain ⟨wv, pk, n, ps, ks, rfl, W, ⟨⟨n1, n9⟩, hb, h8⟩, hk, hks, q⟩ := h
  obtain ⟨c, d, xs, rfl, hc, hd, ht⟩ := W.ex
  obtain ⟨m, rfl⟩ := Int.eq_ofNat_of_zero_le (show 0 <= n by lia)
  rw [zyw n1 n9 hb hks] at q
  refine ⟨_, zae (zap (i := 2) scLRank.nd rfl (Or.inr rfl) (zbh (zdm rfl) rfl T.list zeo (zaa (zbh zcy rfl T.range zcz (zaa (pe_ix (zav K) (pv 0) zaf (fun _ _ => rfl)) zac)) zac)))
   (zae (zap (i := 3) scLRank.nd rfl (Or.inl rfl) zaf)
   (zae (zcb PassesOwn.never rfl (zbi K .l (pv 1)) (zak (i := 4) scLRank.nd rfl (Or.inl rfl))
    (zae (zpa (pe_ix (zav K) (pe_ix (zav K) (pv 0) zaf (fun _ _ => rfl)) (pv 4) (fun _ _ => rfl)) (zcd K 2 rfl (zaq (zak (i := 5) scLRank.nd rfl (Or.inr rfl)) (zaq (zak (i := 6) scLRank.nd rfl (Or.inl rfl)) zcc))))
    (zag (ps_if (zcp op_ne (pe_ix (zbk K) (pv 2) (pv 5) (fun _ _ => rfl)) (pe_ix (zbk K) (pv 2) (pv 6) (fun _ _ => rfl)) (zch _))
     (zae (zap (i := 3) scLRank.nd rfl (Or.inl rfl) (pe_op zdu (pv 3) zaf))
     (zae (zap (i := 7) scLRank.nd rfl (Or.inr rfl) (pe_ix (zbk K) (pv 2) (pv 6) (fun _ _ => rfl)))
     (zag (zap (i := 2) scLRank.nd rfl (Or.inr rfl) (zci (N' := ["_law_mark", "_law_a", "_law_gone", "_law_marks"]) (fr := [none, some 5, some 7, some 2]) (zbn (by rfl)) rfl (zbi K .l (pv 2))
      (fun _ _ _ _ => zak (i := 0) ndR rfl (Or.inl rfl) (Or.inr rfl)) (fun _ _ _ _ => zck)
      (fun _ _ _ _ => pe_ix (r := rIxL K) (zbk K) (zbu (zaa (pv 0) (zaa (pe_ix (r := rIxL K) (zbk K) (pv 3) (pv 1) (fun _ _ => rfl)) zac))) (zbh zib rfl T.int zda (zaa (zfv op_eq (pv 0) (pv 2) (zch _)) zac)) (fun _ _ => rfl))))))) zbz))))
   (zag (zaw (pv 3))))), ?_⟩
  have i0 : atI ([.int m, .ref d] : List V) 0 = some (.int m) := zar (j := 0) rfl
  have i1 : atI ([.int m, .ref d] : List V) 1 = some (.ref d) := zar (j := 1) rfl
  refine ⟨_, rfl, c, _, _, _, rfl, rfl, SqT.of hc, i0, _, rfl, fun p hp => ⟨p, m, rfl, zab, by lia, fun l hl => ?_⟩⟩
  have s1 := (Same.new (o := HO.rng 0 m) hp).trans (Same.new (o := HO.lst (upN m)) hl)
  have hl1 : (upd (upd H p (.rng 0 m)) l (.lst (upN m))) l = some (.lst ((ups m).map V.int)) := by rw [zab, zha]
  generalize upd (upd H p (.rng 0 m)) l (.lst (upN m)) = H1 at s1 hl1 ⊢
  refine ⟨_, rfl, pk, rfl, ⟨_, SqL.of (s1 _ _ hk)⟩, zcq (k := .l) (K := K) (a := pk) (xs := ks.map V.int) (fun i σ H' => ∃ l u v t z, σ = [some (.ref c), some (.ref pk), some (.ref l), some (.int (rkF ps (ups m, 0) (ks.take i)).2), u, v, t, z] /\ Same H H' /\ H' l = some (.lst ((rkF ps (ups m, 0) (ks.take i)).1.map V.int))) ⟨l, _, _, _, _, rfl, s1, hl1⟩ (fun i σ H' _ ⟨_, _, _, _, _, _, z, _⟩ => SqL.of (z _ _ hk)) ?_ ?_⟩
  ·rintro i x σ H' hx ⟨l, u, v, t, z, rfl, sm, hl⟩
   obtain ⟨k, ek, rfl⟩ := zdj hx
   obtain ⟨k0, kl⟩ := hks k (List.mem_of_getElem? ek)
   obtain ⟨tc, et, htc⟩ := zzx ht k0 kl
   obtain ⟨b1, b2, b3, b4⟩ := zdq hb k0 kl
   generalize hst : rkF ps (ups m, 0) (ks.take i) = st at hl
   have msl : st.1.length = m := by rw [<- hst, zta, zbc]; simp
   have a0 := zji (l := st.1) (i := (tieN ps k).1) b1 (by lia)
   have a1 := zji (l := st.1) (i := (tieN ps k).2) b3 (by lia)
   have htc' := sm _ _ htc
   have hc' := sm _ _ hc
   have hd' := sm _ _ hd
   dsimp only [gName, List.set]
   refine ⟨_, rfl, c, _, _, _, rfl, rfl, SqT.of hc', i1, _, rfl, d, _, _, _, rfl, rfl, SqT.of hd', et, tc, _, rfl, SqT.of htc', rfl, _, _, rfl, _, _, rfl, rfl, ?_⟩
   dsimp only [List.set]
   refine ⟨_, rfl, _, rfl, l, _, _, _, rfl, rfl, SqL.of hl, a0, _, rfl, _, rfl, l, _, _, _, rfl, rfl, SqL.of hl, a1, rfl, _, rfl, ?_⟩
   by_cases he : at0 st.1 (tieN ps k).1 = at0 st.1 (tieN ps k).2
   ·rw [he]
    refine iteNS rfl ?_
    have e2 : rkF ps (ups m, 0) (ks.take (i + 1)) = st := by
     rw [zai ek, zos, hst]
     unfold stepM
     exact if_pos he
    refine ⟨l, some (.int k), some (.int (tieN ps k).1), some (.int (tieN ps k).2), z, ?_, sm, by rw [e2]; exact hl⟩
    rw [e2]
   ·rw [decide_eq_false (show ¬ V.int (at0 st.1 (tieN ps k).1) = V.int (at0 st.1 (tieN ps k).2) from fun z => he (by injection z))]
    refine iteT ?_
    have e2 : rkF ps (ups m, 0) (ks.take (i + 1)) = (st.1.map fun z => if z = at0 st.1 (tieN ps k).2 then at0 st.1 (tieN ps k).1 else z, st.2 + 1) := by
     rw [zai ek, zos, hst]
     unfold stepM
     exact if_neg he
    refine ⟨_, rfl, _, _, rfl, rfl, ?_⟩
    refine ⟨_, rfl, _, rfl, l, _, _, _, rfl, rfl, SqL.of hl, a1, ?_⟩
    dsimp only [List.set]
    generalize at0 st.1 (tieN ps k).2 = oth at e2 ⊢
    generalize eone : at0 st.1 (tieN ps k).1 = one at e2 a0 ⊢
    refine ⟨_, rfl, l, rfl, ⟨_, SqL.of hl⟩, zct (k := .l) (a := l) (xs := st.1.map V.int) (fun σ => ∃ v, σ = [v, some (.int (tieN ps k).1), some (.int oth), some (.ref l)]) (fun j ys H2 => Same H' H2 /\ ys = (st.1.take j).map fun h => V.int (if h = oth then one else h)) ⟨_, rfl⟩ ⟨Same.refl _, rfl⟩ (by rw [List.length_map]; exact zee (by lia)) (fun j ys H2 _ z => SqL.of (z.1 _ _ hl)) ?_ ?_⟩
    ·rintro j x ys σ H2 N hx ⟨u, rfl⟩ ⟨sm2, rfl⟩ hN
     obtain ⟨h0, eh, rfl⟩ := zdj hx
     dsimp only [gName, List.set]
     refine yesT ?_
     refine ⟨_, rfl, _, rfl, _, rfl, l, _, _, _, rfl, rfl, SqL.of (sm2 _ _ hl), a0, by show 2 <= sizeLine; decide, fun g hg => ?_⟩
     have s3 := Same.new (o := HO.lst [V.int h0, .int one]) hg
     have hg3 : (upd H2 g (.lst [V.int h0, .int one])) g = some (.lst [V.int h0, .int one]) := zab
     generalize upd H2 g (.lst [V.int h0, .int one]) = H3 at s3 hg3 ⊢
     by_cases he2 : h0 = oth
     ·refine ⟨_, rfl, _, rfl, rfl, .inr ⟨true, by rw [decide_eq_true (show V.int h0 = V.int oth by rw [he2])], g, _, _, _, rfl, rfl, SqL.of hg3, zar (j := 1) rfl, ?_⟩⟩
      refine hN _ _ _ ⟨_, rfl⟩ ⟨sm2.trans s3, ?_⟩ (by simp)
      rw [zai eh, List.map_append, List.map_cons, List.map_nil, if_pos he2]
     ·refine ⟨_, rfl, _, rfl, rfl, .inr ⟨false, by rw [decide_eq_false (show ¬ V.int h0 = V.int oth from fun z => he2 (by injection z))], g, _, _, _, rfl, rfl, SqL.of hg3, zar (j := 0) rfl, ?_⟩⟩
      refine hN _ _ _ ⟨_, rfl⟩ ⟨sm2.trans s3, ?_⟩ (by simp)
      rw [zai eh, List.map_append, List.map_cons, List.map_nil, if_neg he2]
    ·rintro ys H2 ⟨sm2, rfl⟩ p2 hp2
     dsimp only [List.set]
     refine ⟨p2, some (.int k), some (.int (tieN ps k).1), some (.int (tieN ps k).2), some (.int oth), ?_, (sm.trans sm2).trans (Same.new hp2), ?_⟩
     ·rw [e2]
      rfl
     ·rw [zab, e2, List.length_map, List.take_length, List.map_map]
      rfl
  ·rintro σ H' ⟨l, u, v, t, z, rfl, sm, hl⟩
   have q' := q H' sm
   unfold rk at q'
   refine ⟨_, rfl, ?_⟩
   rw [List.length_map, List.take_length]
   exact q'
end
def zyt (K : W.Frag) : Sp := fun vs H Q _ => ∃ (wv : V) (n : Nat) (ps : List (Int × Int)), vs = [wv] /\ WebAt H wv n ps /\ WebOk (n : Int) ps /\ ∀ l H', Same H H' -> H' l = some (.lst ((endsP n ps).map V.int)) -> Q (.ref l) H'
def enL (n : Nat) (ps : List (Int × Int)) (j : Nat) : List Int := (ups (n : Int)).map fun v => enN ps v j
theorem znp (n : Nat) (ps : List (Int × Int)) (j : Nat) : (enL n ps j).length = n := by unfold enL; rw [List.length_map, zbc, Int.toNat_natCast]
def bmpL (es : List Int) (a : Int) : List Int := (ups (es.length : Int)).map fun v => at0 es v + if v = a then 1 else 0
theorem zmr {n : Nat} {f : Int -> Int} {v : Int} (h0 : 0 <= v) (h1 : v < (n : Int)) : at0 ((ups (n : Int)).map f) v = f v := by
 rw [zev h0 (by rw [zbc, Int.toNat_natCast]; exact h1), zfp h0 h1]
theorem zyd {n : Nat} {ps : List (Int × Int)} {j : Nat} : bmpL (bmpL (enL n ps j) (tieN ps (j : Int)).1) (tieN ps (j : Int)).2 = enL n ps (j + 1) := by
 unfold bmpL
 rw [znp, List.length_map, zbc, Int.toNat_natCast]
 refine List.map_congr_left fun v hv => ?_
 have b := mem_ups.mp hv
 rw [zmr b.1 b.2]
 unfold enL
 rw [zmr b.1 b.2]
 rfl
theorem zsq {es : List Int} {a : Nat} (h : a < es.length) : (es.map V.int).set a (.int (at0 es (a : Int) + 1)) = (bmpL es (a : Int)).map V.int := by
 refine List.ext_getElem? fun i => ?_
 unfold bmpL
 rw [List.getElem?_set, List.getElem?_map, List.getElem?_map, List.getElem?_map, List.length_map]
 by_cases hi : i < es.length
 ·have eu : (ups (es.length : Int))[i]? = some (i : Int) := by
   unfold ups
   rw [Int.toNat_natCast]
   simp [hi]
  have ea : at0 es (i : Int) = es[i] := by unfold at0; rw [Int.toNat_natCast]; simp [List.getD, hi]
  rw [eu, List.getElem?_eq_getElem hi]
  by_cases c : a = i
  ·subst c
   rw [if_pos rfl, if_pos h]
   simp
  ·rw [if_neg c]
   have : ¬ ((i : Int) = (a : Int)) := by lia
   simp [this, ea]
 ·have e1 : (ups (es.length : Int))[i]? = none := List.getElem?_eq_none (by rw [zbc, Int.toNat_natCast]; lia)
  rw [e1, if_neg (by lia), List.getElem?_eq_none (by lia)]
  rfl
theorem zBy (n : Nat) (ps : List (Int × Int)) : (List.replicate n [V.int 0]).flatten = (enL n ps 0).map V.int := by
 rw [List.flatten_replicate_singleton]
 refine (List.eq_replicate_iff.mpr ⟨by rw [List.length_map, znp], fun x hx => ?_⟩).symm
 unfold enL at hx
 rw [List.map_map] at hx
 obtain ⟨v, _, rfl⟩ := List.mem_map.mp hx
 rfl
section
variable {P : Program} {w : World} {K : W.Frag} {mg : Str -> Option Value} {base : Heap}
seal PSs PS PE PI PA PT PG
theorem scEnds : zan ["_law_web", "_law_ends_here", "_law_a", "_law_b"] ["_law_web"] (zad sEnds) := ⟨rfl, rfl, rfl, by decide +kernel, rfl, by decide +kernel, by decide +kernel⟩
theorem zEx (T : Txt K mg) (S : Src K mg "_law_ends" sEnds ["_law_web"]) : Def P w K mg base 1 "_law_ends" ["_law_web"] (zyt K) := by
 refine S.def scEnds (fun vs H Q E h => ?_) (fun f cdv A outer s H vs Q E hr h => ?_)
 ·obtain ⟨_, _, _, rfl, _⟩ := h; rfl
 ·obtain ⟨wv, n, ps, rfl, W, ok, q⟩ := h
  obtain ⟨⟨n1, n9⟩, hb, h8⟩ := id ok
  obtain ⟨c, d, xs, rfl, hc, hd, ht⟩ := id W.ex
  have xl : xs.length = ps.length := Paired.length ht
  refine ⟨_, zae (zap (i := 1) scEnds.nd rfl (Or.inl rfl) (pe_op zzb (zbu (zaa zaf zac)) (pe_ix (zav K) (pv 0) zaf (fun _ _ => rfl))))
   (zae (zcb PassesOwn.never rfl (zbi K .t (pe_ix (zav K) (pv 0) zaf (fun _ _ => rfl))) (zcd K 2 rfl (zaq (zak (i := 2) scEnds.nd rfl (Or.inl rfl)) (zaq (zak (i := 3) scEnds.nd rfl (Or.inl rfl)) zcc)))
    (zae (zpa (pe_op zdu (pe_ix (zbk K) (pv 1) (pv 2) (fun _ _ => rfl)) zaf) (zto (pv 1) (pv 2) zjt))
    (zag (zpa (pe_op zdu (pe_ix (zbk K) (pv 1) (pv 3) (fun _ _ => rfl)) zaf) (zto (pv 1) (pv 3) zjt)))))
   (zag (zaw (pv 1)))), ?_⟩
  have i0 : atI ([.int (n : Int), .ref d] : List V) 0 = some (.int (n : Int)) := zar (j := 0) rfl
  have i1 : atI ([.int (n : Int), .ref d] : List V) 1 = some (.ref d) := zar (j := 1) rfl
  refine zbg fun M hM => ?_
  refine ⟨by show 1 <= sizeLine; decide, fun z hz => ?_⟩
  have s1 := Same.new (o := HO.lst [.int 0]) hz
  have hz1 : (upd H z (.lst [.int 0])) z = some (.lst [.int 0]) := zab
  generalize upd H z (.lst [.int 0]) = H1 at s1 hz1 ⊢
  refine ⟨_, rfl, c, _, _, _, rfl, rfl, SqT.of (s1 _ _ hc), i0, z, (n : Int), [.int 0], rfl, rfl, hz1, by lia, by lia, ?_, fun l hl => ?_⟩
  ·show 1 * ((n : Int)).toNat <= sizeLine
   rw [Int.toNat_natCast, Nat.one_mul]
   exact Nat.le_trans (show n <= 300 by lia) (by decide)
  rw [Int.toNat_natCast, zBy n ps]
  have lN : H l = none := s1.free hl
  have s2 := s1.trans (Same.new (o := HO.lst ((enL n ps 0).map V.int)) hl)
  have h2 : (upd H1 l (.lst ((enL n ps 0).map V.int))) l = some (.lst ((enL n ps 0).map V.int)) := zab
  refine hM _ _ ?_
  clear hM M
  generalize upd H1 l (.lst ((enL n ps 0).map V.int)) = H2 at s2 h2 ⊢
  try dsimp only [List.set]
  refine ⟨_, rfl, c, _, _, _, rfl, rfl, SqT.of (s2 _ _ hc), i1, d, rfl, ⟨_, SqT.of (s2 _ _ hd)⟩, zqd (k := .t) (K := K) (a := d) (xs := xs) (fun i σ H' => (∃ u v, σ = [some (.ref c), some (.ref l), u, v]) /\ Same H H' /\ H' l = some (.lst ((enL n ps i).map V.int))) ⟨⟨_, _, rfl⟩, s2, h2⟩ (fun i σ H' _ z => SqT.of (z.2.1 _ _ hd)) ?_ ?_⟩
  ·rintro i x σ H3 hx ⟨⟨u, v, rfl⟩, s3, h3⟩
   obtain ⟨p, ep, tc, rfl, htc⟩ := Paired.at ht hx
   have et : tieN ps (i : Int) = p := by
    unfold tieN
    rw [Int.toNat_natCast, List.getD_eq_getElem?_getD, ep]
    rfl
   obtain ⟨b1, b2, b3, b4⟩ := hb p (List.mem_of_getElem? ep)
   obtain ⟨a, ea⟩ := Int.eq_ofNat_of_zero_le b1
   obtain ⟨b, eb⟩ := Int.eq_ofNat_of_zero_le b3
   refine ⟨tc, _, rfl, SqT.of (s3 _ _ htc), rfl, _, _, rfl, _, _, rfl, rfl, ?_⟩
   dsimp only [gName, List.set]
   have st := zyd (n := n) (ps := ps) (j := i)
   rw [et, ea, eb] at st
   rw [ea, eb]
   have l0 := znp n ps i
   generalize enL n ps i = es at h3 st l0
   have al : a < es.length := by lia
   have xa : ixN (es.map V.int).length (a : Int) = some a := by unfold ixN; rw [if_pos (by lia), List.length_map, if_pos (by lia), Int.toNat_natCast]
   refine zbg fun M hM => ?_
   refine ⟨_, rfl, _, rfl, l, _, _, _, rfl, rfl, SqL.of h3, zji (l := es) (i := (a : Int)) (by lia) (by lia), _, _, rfl, rfl, _, rfl, _, rfl, l, _, _, a, rfl, rfl, h3, xa, hM _ _ ?_⟩
   clear hM M
   have s4 := zcm (o := HO.lst ((es.map V.int).set a (.int (at0 es (a : Int) + 1)))) s3 lN
   have h4 : (upd H3 l (.lst ((es.map V.int).set a (.int (at0 es (a : Int) + 1))))) l = some (.lst ((bmpL es (a : Int)).map V.int)) := by rw [zab, zsq al]
   generalize upd H3 l (.lst ((es.map V.int).set a (.int (at0 es (a : Int) + 1)))) = H4 at s4 h4 ⊢
   have l1 : (bmpL es (a : Int)).length = es.length := by unfold bmpL; rw [List.length_map, zbc, Int.toNat_natCast]
   generalize bmpL es (a : Int) = fs at h4 st l1
   have bl : b < fs.length := by lia
   have xb : ixN (fs.map V.int).length (b : Int) = some b := by unfold ixN; rw [if_pos (by lia), List.length_map, if_pos (by lia), Int.toNat_natCast]
   refine ⟨_, rfl, _, rfl, l, _, _, _, rfl, rfl, SqL.of h4, zji (l := fs) (i := (b : Int)) (by lia) (by lia), _, _, rfl, rfl, _, rfl, _, rfl, l, _, _, b, rfl, rfl, h4, xb, ⟨_, _, rfl⟩, zcm s4 lN, ?_⟩
   rw [zab, <- st, <- zsq bl]
  ·rintro σ H3 ⟨⟨u, v, rfl⟩, s3, h3⟩
   rw [xl] at h3
   exact ⟨_, rfl, q l H3 s3 h3⟩
end
open Builtin.Int (intBits)
def spLaw (K : W.Frag) : Sp := fun vs H Q _ => ∃ (a : Addr) (ns : List Int), vs = [.ref a] /\ SqL K H a (ns.map V.int) /\ ns.length <= 63 /\ ∀ H', Q (.bl true) H'
theorem cut_2 (ns : List Int) {j : Int} (j0 : 0 <= j) (j6 : j < 9) : ∃ ms : List Int, cutV (ns.map V.int) (some 2) (some (2 + j)) = ms.map V.int /\ ms.length <= 8 := by
 obtain ⟨k, rfl⟩ := Int.eq_ofNat_of_zero_le j0
 refine ⟨(ns.drop (HT.sIx (ns.map V.int).length 0 (some ((2 : Nat) : Int)))).take (HT.sIx (ns.map V.int).length (ns.map V.int).length (some ((2 + k : Nat) : Int)) - HT.sIx (ns.map V.int).length 0 (some ((2 : Nat) : Int))), ?_, ?_⟩
 ·rw [show (some (2 : Int)) = some ((2 : Nat) : Int) from rfl, show (some (2 + (k : Int))) = some ((2 + k : Nat) : Int) from rfl]
  unfold cutV
  rw [List.map_take, List.map_drop]
 ·rw [List.length_take, HT.sIx_nat, HT.sIx_nat]
  lia
theorem zCx (a b z : Int) : ∃ d : Int, (d = a \/ d = b) /\ atI ([.int a, .int b] : List V) (z % 2) = some (.int d) := by
 have : z % 2 = 0 \/ z % 2 = 1 := by lia
 rcases this with e | e
 ·rw [e]; exact ⟨a, .inl rfl, zar (j := 0) rfl⟩
 ·rw [e]; exact ⟨b, .inr rfl, zar (j := 1) rfl⟩
theorem znl {l : List Int} : decide (l.map V.int = []) = decide (l = []) := by
 rw [decide_eq_decide]
 exact List.map_eq_nil_iff
section
variable {P : Program} {w : World} {K : W.Frag} {mg : Str -> Option Value} {base : Heap}
seal PSs PS PE PI PA PT PG
theorem scLaw : zan ["_law_script", "_law_n", "_law_cells", "_law_web", "_law_many", "_law_row", "_law_flows", "_law_odd", "_law_even", "_law_none"] ["_law_script"] (zad sLaw) := ⟨rfl, rfl, rfl, by decide +kernel, rfl, by decide +kernel, by decide +kernel⟩
theorem ndNum : (["_law_number"] : List Str).Nodup := by decide +kernel
theorem zDz {f : Addr} {fd : FuncData} (F : Fun K "law" "law" sLaw f fd) (T : Txt K mg) (DA : Def P w K mg base 1 "_law_at" ["_law_script", "_law_k"] (spAt K)) (DT : Def P w K mg base 1 "_law_ties" ["_law_cells", "_law_n"] (zsc K)) (DC : Def P w K mg base 5 "colour_row" ["web"] (zsk K)) (DF : Def P w K mg base 5 "flow_row" ["web"] (zsj K)) (DI : Def P w K mg base 1 "_law_is_row" ["_law_found"] (zsh K)) (DE : Def P w K mg base 1 "_law_row_at" ["_law_row", "_law_q"] (zsd K))
  (DW : Def P w K mg base 6 "ringless_ways" ["web"] (zoj K zbr)) (DG : Def P w K mg base 6 "ringed_ways" ["web"] (zoj K zco)) (DR : Def P w K mg base 1 "_law_rank" ["_law_web", "_law_pick"] (zsg K)) (DN : Def P w K mg base 1 "_law_ends" ["_law_web"] (zyt K)) (DS : Def P w K mg base 1 "_law_count_is" ["_law_found", "_law_due"] spCIs) (DX : Def P w K mg base 6 "colour_count" ["web", "q"] (zom K)) (DY : Def P w K mg base 6 "flow_count" ["web", "q"] (zol K)) : FnOk P w K mg base CX0 7 f fd ["_law_script"] (spLaw K) := by
 refine F.ok scLaw (fun vs H Q E h => ?_) (fun cdv A outer s H vs Q E hr h => ?_)
 ·obtain ⟨a, ns, rfl, _⟩ := h; rfl
 ·obtain ⟨a, ns, rfl, hq, hlen, q⟩ := h
  have hr1 : Room 1 _ := hr.mono (by decide)
  have hr5 : Room 5 _ := hr.mono (by decide)
  refine ⟨_, zae (zap (i := 1) scLaw.nd rfl (Or.inl rfl) (pe_op zdu zaf (pe_op zgc (pe_op ztt (zaj DA hr1 rfl (zaa (pv 0) (zaa zaf zac))) zaf) (pe_ix (zbk K) (zbu (zaa zaf (zaa zaf zac))) (pe_op zgc (zaj DA hr1 rfl (zaa (pv 0) (zaa zaf zac))) zaf) (fun _ _ => rfl)))))
   (zae (zap (i := 2) scLaw.nd rfl (Or.inl rfl) (zpf (zoo K) (pv 0) (zjy zaf) (zjy zaf)))
   (zae (ps_if (zcp op_eq (pe_op zgc (zaj DA hr1 rfl (zaa (pv 0) (zaa zaf zac))) zaf) zaf (zch _)) (zag (zap (i := 2) scLaw.nd rfl (Or.inl rfl) (zpf (zoo K) (pv 0) (zjy zaf) (zjy zaf)))) zbz)
   (zae (zap (i := 3) scLaw.nd rfl (Or.inl rfl) (zbj (zaa (pv 1) (zaa (zaj DT hr1 rfl (zaa (pv 2) (zaa (pv 1) zac))) zac))))
   (zae (zap (i := 4) scLaw.nd rfl (Or.inl rfl) (zaz (zbx K) (by rfl) T.len PySem.boot_len (zaa (pe_ix (zav K) (pv 3) zaf (fun _ _ => rfl)) zac)))
   (zae (zap (i := 5) scLaw.nd rfl (Or.inl rfl) (zaj DC hr5 rfl (zaa (pv 3) zac)))
   (zae (zap (i := 6) scLaw.nd rfl (Or.inl rfl) (zaj DF hr5 rfl (zaa (pv 3) zac)))
   (zae (ps_if (PW.pt (pw_or (zfh (zet (zaj DI hr1 rfl (zaa (pv 5) zac)))) (zox (zfh (zet (zaj DI hr1 rfl (zaa (pv 6) zac))))))) (zag (zaw pe_bl)) zbz)
   (zae (ps_if (zcp op_ne (zaj DE hr1 rfl (zaa (pv 5) (zaa (pe_un zdo zaf) zac))) (pe_op zzc (zaz (zbx K) (by rfl) T.len PySem.boot_len (zaa (zaj DW hr rfl (zaa (pv 3) zac)) zac)) (pe_ix (zbk K) (zbu (zaa zaf (zaa (pe_un zdo zaf) zac))) (pe_op zgc (pv 1) zaf) (fun _ _ => rfl))) (zch _)) (zag (zaw pe_bl)) zbz)
   (zae (zap (i := 7) scLaw.nd rfl (Or.inl rfl) (pe_op zgc (pe_op zhm (pv 4) (zaj DR hr1 rfl (zaa (pv 3) (zaa (zbh (zdm rfl) rfl T.list zeo (zaa (zbh zcy rfl T.range zcz (zaa (pv 4) zac)) zac)) zac)))) zaf))
   (zae (ps_if (zcp op_ne (zaj DE hr1 rfl (zaa (pv 6) (zaa (pe_un zdo zaf) zac))) (pe_op zzc (zaz (zbx K) (by rfl) T.len PySem.boot_len (zaa (zaj DG hr rfl (zaa (pv 3) zac)) zac)) (pe_ix (zbk K) (zbu (zaa zaf (zaa (pe_un zdo zaf) zac))) (pv 7) (fun _ _ => rfl))) (zch _)) (zag (zaw pe_bl)) zbz)
   (zae (zap (i := 8) scLaw.nd rfl (Or.inl rfl) (zbh zib rfl T.int zda (zaa (zfv (zlp K (zrn hr)) (zci (N' := ["_law_number"]) (fr := [none]) (zbn (by rfl)) rfl (zbi K .l (zaj DN hr1 rfl (zaa (pv 3) zac))) (fun _ _ _ _ => zak (i := 0) ndNum rfl (Or.inl rfl) (Or.inr rfl)) (fun _ _ _ _ => zgt (zcp op_eq (pe_op zgc (pv 0) zaf) zaf (zch _))) (fun _ _ _ _ => pv 0)) (zbu zac) (zch _)) zac)))
   (zae (zap (i := 9) scLaw.nd rfl (Or.inl rfl) (zbh zib rfl T.int zda (zaa (zfv op_eq (pv 4) zaf (zch _)) zac)))
   (zae (ps_if (PW.pt (pw_or (zfh (zet (zaj DS hr1 rfl (zaa (zaj DX hr rfl (zaa (pv 3) (zaa zaf zac))) (zaa zaf zac))))) (zox (zfh (zet (zaj DS hr1 rfl (zaa (zaj DX hr rfl (zaa (pv 3) (zaa zaf zac))) (zaa (pv 9) zac)))))))) (zag (zaw pe_bl)) zbz)
   (zag (zaw (ziy (zaj DS hr1 rfl (zaa (zaj DY hr rfl (zaa (pv 3) (zaa zaf zac))) (zaa (pv 9) zac))) (zix (zaj DS hr1 rfl (zaa (zaj DY hr rfl (zaa (pv 3) (zaa zaf zac))) (zaa (pv 8) zac)))))))))))))))))))), ?_⟩
  refine zbg fun M hM => ?_
  refine ⟨_, rfl, a, ns, 0, rfl, hq, _, _, rfl, rfl, ⟨by decide, by decide⟩, by show 2 <= sizeLine; decide, fun g0 hg0 => ?_⟩
  have s1 := Same.new (o := HO.lst [.int 6, .int 4]) hg0
  have h1 : (upd H g0 (.lst [.int 6, .int 4])) g0 = some (.lst [.int 6, .int 4]) := zab
  generalize upd H g0 (.lst [.int 6, .int 4]) = H1 at s1 h1 ⊢
  obtain ⟨dd, d93, ed⟩ := zCx 6 4 (ns.getD 0 0)
  refine ⟨_, rfl, a, ns, 0, rfl, s1.seq hq, _, _, rfl, rfl, (by show (0 : Int) < 2; decide), g0, _, _, _, rfl, rfl, SqL.of h1, ed, _, _, rfl, rfl, (by show (0 : Int) < dd; lia), _, _, rfl, rfl, ?_⟩
  have m9 := zpq (ns.getD 0 0 / 2) dd (by lia)
  obtain ⟨n, en, n1, n9⟩ : ∃ n : Nat, 1 + ns.getD 0 0 / 2 % dd = (n : Int) /\ 1 <= n /\ n <= 9 := ⟨(1 + ns.getD 0 0 / 2 % dd).toNat, by lia, by lia, by lia⟩
  dsimp only [List.set]
  rw [en]
  refine hM _ _ ?_
  clear hM M
  replace hq := s1.seq hq
  clear s1 h1 hg0
  refine zbg fun M hM => ?_
  obtain ⟨ms, em, ml⟩ := cut_2 ns (j := 6) (by decide) (by decide)
  refine ⟨_, rfl, _, rfl, _, rfl, a, _, rfl, hq, fun p2 hp2 => hM _ _ ?_⟩
  clear hM M
  have e8 : cutV (ns.map V.int) (some 2) (some 8) = ms.map V.int := em
  rw [e8]
  have s2 := Same.new (o := HO.lst (ms.map V.int)) hp2
  have h2 : (upd H1 p2 (.lst (ms.map V.int))) p2 = some (.lst (ms.map V.int)) := zab
  generalize upd H1 p2 (.lst (ms.map V.int)) = H2 at s2 h2 ⊢
  try dsimp only [List.set]
  refine zbg fun M hM => ?_
  have go : ∀ (p : Addr) (ms : List Int) (H' : Hp), Same H2 H' -> H' p = some (.lst (ms.map V.int)) -> ms.length <= 8 -> M [some (.ref a), some (.int (n : Int)), some (.ref p), none, none, none, none, none, none, none] H' := fun p ms H3 s3 h3 ml => by
   refine hM _ _ ?_
   clear hM M em e8 h2
   refine zbg fun M hM => ?_
   refine ⟨_, rfl, _, rfl, _, rfl, p, ms, (n : Int), rfl, SqL.of h3, ml, by lia, by lia, fun t xs ps H4 s4 ht pt hb nm h8 => ⟨by show 2 <= sizeLine; decide, fun wa hwa => hM _ _ ?_⟩⟩
   clear hM M
   have ok : WebOk (n : Int) ps := ⟨⟨by lia, by lia⟩, hb, h8⟩
   have xl : xs.length = ps.length := Paired.length pt
   have s5 := Same.new (o := HO.tup [.int (n : Int), .ref t]) hwa
   have W : WebAt (upd H4 wa (.tup [.int (n : Int), .ref t])) (.ref wa) (n : Int) ps := ⟨wa, t, xs, rfl, zab, s5 _ _ ht, zcw pt s5⟩
   have hw5 : (upd H4 wa (.tup [.int (n : Int), .ref t])) wa = some (.tup [.int (n : Int), .ref t]) := zab
   have ht5 := s5 _ _ ht
   generalize upd H4 wa (.tup [.int (n : Int), .ref t]) = H5 at W hw5 ht5 ⊢
   clear hwa s5 ht pt s4 h3 s3 ml s2
   try dsimp only [List.set]
   have i1 : atI ([.int (n : Int), .ref t] : List V) 1 = some (.ref t) := zar (j := 1) rfl
   refine zbg fun M hM => ?_
   refine ⟨_, rfl, wa, _, _, _, rfl, rfl, SqT.of hw5, i1, t, xs, rfl, .inr (SqT.of ht5), ?_⟩
   rw [xl]
   refine hM _ _ ?_
   clear hM M
   try dsimp only [List.set]
   refine zbg fun M hM => ?_
   refine ⟨_, rfl, .ref wa, (n : Int), ps, rfl, W, ok, fun lc Lc H6 s6 upc rpc nzc hbc lxc hl6 => hM _ _ ?_⟩
   clear hM M
   obtain ⟨cl61, cb⟩ := zeh upc rpc hbc
   try dsimp only [List.set]
   refine zbg fun M hM => ?_
   refine ⟨_, rfl, .ref wa, n, ps, rfl, W.same s6, ok, fun lf L H7 s7 up rp nz hbits lx hl7 => hM _ _ ?_⟩
   clear hM M
   obtain ⟨rl61, rb⟩ := zeh up rp hbits
   have ec : ev (rowOf Lc) (-1) = ((zbr ps).length : Int) * sgn n := by rw [zzq upc rpc, lxc, zvr ok]
   have ef : ev (rowOf L) (-1) = ((zco ps).length : Int) * sgn ((ps.length : Int) - rkAll (n : Int) ps).toNat := by rw [zzq up rp, lx, zrh ok]
   have nec : rowOf Lc = [] \/ at0 (rowOf Lc) (((rowOf Lc).length : Int) - 1) ≠ 0 := zor upc rpc nzc
   have ne : rowOf L = [] \/ at0 (rowOf L) (((rowOf L).length : Int) - 1) ≠ 0 := zor up rp nz
   replace hl6 := s7 _ _ hl6
   replace W := W.same (s6.trans s7)
   clear lx lxc nz nzc up rp upc rpc hbits hbc s6 s7 hw5 ht5
   generalize rowOf Lc = rc at *
   generalize rowOf L = rf at *
   try dsimp only [List.set]
   refine zbg fun M hM => ?_
   refine ⟨_, rfl, lc, rc, rfl, hl6, cl61, nec, fun H8 s8 => ⟨_, rfl, iteF ?_⟩⟩
   refine ⟨_, rfl, lf, rf, rfl, s8 _ _ hl7, rl61, ne, fun H9 s9 => ⟨_, rfl, iteF (hM _ _ ?_)⟩⟩
   clear hM M
   replace s9 := s8.trans s9
   replace hl6 := s9 _ _ hl6
   replace hl7 := s9 _ _ hl7
   replace W := W.same s9
   clear s9 s8 nec ne
   have wb : (zbr ps).length <= 256 := by
    have h1 : (zbr ps).length <= (allW ps.length).length := List.length_filter_le _ _
    rw [zeq] at h1
    have := zhk h8
    lia
   have gb : (zco ps).length <= 256 := by
    have h1 : (zco ps).length <= (allW ps.length).length := List.length_filter_le _ _
    rw [zeq] at h1
    have := zhk h8
    lia
   refine zbg fun M hM => ?_
   refine ⟨_, rfl, _, rfl, lc, rc, -1, rfl, hl6, cl61, cb, by decide, ?_⟩
   refine ⟨_, rfl, .ref wa, (n : Int), ps, rfl, W, ok, fun g ys H10 s10 _ hg hy => ?_⟩
   have yl : ys.length = (zbr ps).length := Paired.length hy
   refine ⟨g, ys, rfl, .inl (SqL.of hg), _, rfl, by show 2 <= sizeLine; decide, fun gl hgl => ?_⟩
   have s11 := s10.trans (Same.new (o := HO.lst signL) hgl)
   refine ⟨_, rfl, _, _, rfl, rfl, (by show (0 : Int) < 2; decide), gl, signL, _, _, rfl, rfl, SqL.of zab, zyv (z := (n : Int)) (by lia), _, _, rfl, rfl, .inl ⟨by lia, by lia⟩, rfl, _, rfl, ?_⟩
   rw [ec, yl, Int.toNat_natCast, show (!decide (V.int (((zbr ps).length : Int) * sgn n) = V.int (((zbr ps).length : Int) * sgn n))) = false by simp]
   refine iteF (hM _ _ ?_)
   clear hM M
   change Same _ (upd H10 gl (.lst [.int 1, .int (-1)])) at s11
   generalize upd H10 gl (.lst [.int 1, .int (-1)]) = H11 at s11 ⊢
   replace hl7 := s11 _ _ hl7
   replace W := W.same s11
   clear s11 s10 hl6 hgl hg hy
   obtain ⟨r0, r1, r2⟩ := zot ok
   try dsimp only [List.set]
   refine zbg fun M hM => ?_
   refine ⟨_, rfl, _, rfl, _, rfl, _, rfl, fun p hp' => ⟨p, ps.length, rfl, zab, by lia, fun lr hlr => ?_⟩⟩
   have s12 := (Same.new (o := HO.rng 0 ps.length) hp').trans (Same.new (o := HO.lst (upN ps.length)) hlr)
   have h12 : (upd (upd H11 p (.rng 0 ps.length)) lr (.lst (upN ps.length))) lr = some (.lst ((ups ps.length).map V.int)) := by rw [zab, zha]
   generalize upd (upd H11 p (.rng 0 ps.length)) lr (.lst (upN ps.length)) = H12 at s12 h12 ⊢
   refine ⟨.ref wa, lr, (n : Int), ps, ups ps.length, rfl, W.same s12, ok, h12, zcf _, fun H13 s13 => ⟨_, _, rfl, rfl, _, _, rfl, rfl, (by show (0 : Int) < 2; decide), hM _ _ ?_⟩⟩
   clear hM M
   replace s13 := s12.trans s13
   replace hl7 := s13 _ _ hl7
   replace W := W.same s13
   clear s13 s12 h12
   try dsimp only [List.set]
   refine zbg fun M hM => ?_
   refine ⟨_, rfl, _, rfl, lf, rf, -1, rfl, hl7, rl61, rb, by decide, ?_⟩
   refine ⟨_, rfl, .ref wa, (n : Int), ps, rfl, W, ok, fun g ys H14 s14 _ hg hy => ?_⟩
   have yl : ys.length = (zco ps).length := Paired.length hy
   refine ⟨g, ys, rfl, .inl (SqL.of hg), _, rfl, by show 2 <= sizeLine; decide, fun gl hgl => ?_⟩
   have s15 := s14.trans (Same.new (o := HO.lst signL) hgl)
   refine ⟨_, rfl, gl, signL, _, _, rfl, rfl, SqL.of zab, zyv (z := (ps.length : Int) - rkAll (n : Int) ps) (by lia), _, _, rfl, rfl, .inl ⟨by lia, by lia⟩, rfl, _, rfl, ?_⟩
   rw [ef, yl, show (!decide (V.int (((zco ps).length : Int) * sgn ((ps.length : Int) - rkAll (n : Int) ps).toNat) = V.int (((zco ps).length : Int) * sgn ((ps.length : Int) - rkAll (n : Int) ps).toNat))) = false by simp]
   refine iteF (hM _ _ ?_)
   clear hM M
   change Same _ (upd H14 gl (.lst [.int 1, .int (-1)])) at s15
   generalize upd H14 gl (.lst [.int 1, .int (-1)]) = H15 at s15 ⊢
   replace W := W.same s15
   clear s15 s14 hl7 hgl hg hy
   try dsimp only [List.set]
   refine zbg fun M hM => ?_
   refine ⟨_, rfl, .ref wa, n, ps, rfl, W, ok, fun le H16 s16 hle => ?_⟩
   have el : (endsP (n : Int) ps).length = n := by unfold endsP; rw [List.length_map, zbc, Int.toNat_natCast]
   replace W := W.same s16
   refine ⟨le, rfl, ⟨_, SqL.of hle⟩, zct (k := .l) (a := le) (xs := (endsP (n : Int) ps).map V.int) (fun σ => ∃ v, σ = [v]) (fun i ys H' => H' = H16 /\ ys = (((endsP (n : Int) ps).take i).filter fun x => decide (x % 2 = 1)).map V.int) ⟨_, rfl⟩ ⟨rfl, rfl⟩ (by rw [List.length_map, el]; exact zee (by lia)) (fun i ys H' _ z => by rw [z.1]; exact SqL.of hle) ?_ ?_⟩
   ·rintro i x ys σ H' N hx ⟨v, rfl⟩ ⟨rfl, rfl⟩ hN
    obtain ⟨y, ey, rfl⟩ := zdj hx
    dsimp only [gName, List.set]
    have fk := zhu (fun x => decide (x % 2 = 1)) ey
    refine ⟨_, rfl, _, _, rfl, rfl, (by show (0 : Int) < 2; decide), rfl, _, rfl, ?_⟩
    have de : decide (V.int (y % 2) = V.int 1) = decide (y % 2 = 1) := by
     rw [decide_eq_decide]
     exact ⟨fun z => by injection z, fun z => by rw [z]⟩
    rw [show decide ((fun i j => V.int (i % j)) y 2 = V.int 1) = decide (y % 2 = 1) from de]
    refine ite2 (fun z => ⟨_, rfl, ?_⟩) (fun z => ?_)
    ·refine hN _ _ _ ⟨_, rfl⟩ ⟨rfl, ?_⟩ (by simp)
     rw [fk, if_pos z, List.map_append]
     rfl
    ·refine hN _ _ _ ⟨_, rfl⟩ ⟨rfl, ?_⟩ (by simp)
     rw [fk, if_neg z, List.append_nil]
   rintro ys H' ⟨rfl, rfl⟩ e1 he1
   rw [List.length_map, List.take_length]
   have s17 := Same.new (o := HO.lst (((endsP (n : Int) ps).filter fun x => decide (x % 2 = 1)).map V.int)) he1
   refine ⟨Nat.zero_le _, fun e2 he2 => ⟨e1, e2, _, rfl, rfl, SqL.of (Same.new he2 _ _ zab), SqL.of zab, .inr ⟨_, rfl, hM _ _ ?_⟩⟩⟩
   clear hM M
   replace W := W.same (s17.trans (Same.new (o := HO.lst []) he2))
   generalize upd (upd H' e1 (.lst (((endsP (n : Int) ps).filter fun x => decide (x % 2 = 1)).map V.int))) e2 (.lst []) = H17 at W ⊢
   clear s17 he2 he1 hle s16
   have e8 : ((flsP 2 n ps).length : Int) = (if (false ^^ decide (((endsP (n : Int) ps).filter fun x => decide (x % 2 = 1)).map V.int = [])) = true then 1 else 0) := by
    rw [znl, fls_2, Bool.false_xor]
    by_cases c : ((endsP (n : Int) ps).filter fun x => decide (x % 2 = 1)) = []
    ·rw [if_pos c, decide_eq_true c]; rfl
    ·rw [if_neg c, decide_eq_false c]; rfl
   rw [<- e8]
   try dsimp only [List.set]
   refine zbg fun M hM => ?_
   refine ⟨_, rfl, rfl, .inr ⟨_, rfl, hM _ _ ?_⟩⟩
   clear hM M
   have e9 : (if ps.length = 0 then (1 : Int) else 0) = (if decide (V.int (ps.length : Int) = V.int 0) = true then 1 else 0) := by
    by_cases c : ps.length = 0
    ·rw [if_pos c, c]; rfl
    ·rw [if_neg c, decide_eq_false (fun z => c (by injection z with z; lia))]; rfl
   rw [<- e9]
   try dsimp only [List.set]
   have c0 : ((colsP 0 (n : Int) ps).length : Int) = 0 := by rw [zFa n1]; rfl
   refine zbg fun M hM => ?_
   refine ⟨_, rfl, .ref wa, (n : Int), ps, 0, rfl, W, ok, by decide, fun H18 s18 => ?_⟩
   rw [c0]
   refine ⟨0, rfl, _, rfl, iteF ?_⟩
   refine ⟨_, rfl, .ref wa, (n : Int), ps, 1, rfl, W.same s18, ok, by decide, fun H19 s19 => ?_⟩
   rw [zEz]
   refine ⟨_, rfl, _, rfl, _, rfl, iteF (hM _ _ ?_)⟩
   clear hM M
   have s19' := s18.trans s19
   refine ⟨_, rfl, .ref wa, n, ps, 1, rfl, W.same s19', ok, by decide, by decide, fun H20 s20 => ?_⟩
   rw [fls_1]
   refine ⟨_, rfl, _, rfl, _, rfl, iteT ?_⟩
   refine ⟨_, rfl, .ref wa, n, ps, 2, rfl, W.same (s19'.trans s20), ok, by decide, by decide, fun H21 s21 => ?_⟩
   exact ⟨_, rfl, _, rfl, q _⟩
  refine ⟨_, rfl, a, ns, 1, rfl, s2.seq hq, _, _, rfl, rfl, (by show (0 : Int) < 8; decide), rfl, _, rfl, ite2 (fun z => ?_) (fun z => go _ _ _ (Same.refl _) h2 ml)⟩
  obtain ⟨ms', em', ml'⟩ := cut_2 ns (j := 8) (by decide) (by decide)
  have e10 : cutV (ns.map V.int) (some 2) (some 10) = ms'.map V.int := em'
  refine ⟨_, rfl, _, rfl, _, rfl, a, _, rfl, s2.seq hq, fun p3 hp3 => ?_⟩
  rw [e10]
  exact go _ _ _ (Same.new hp3) zab ml'
end
theorem zbd {K : W.Frag} {h : Heap} {mg : Str -> Option Value} {x : Str} {st : Stmt} {f : Addr} {ps : List Str} {oc : Value} {od an : Option Addr} {osl : Array (Option Value)} {kV doc pm cdv ct : Value} (X : K.In h) (G : h.Ns mainGlobals mg)
  (a : PySem.W.nsIn K mainGlobals x = some (some (.ref f))) (l : K.lookup f = some ⟨oc, od, .func (PySem.W.fnOf x x (zam st) (zal st) (zad st) .none kV doc pm an cdv ct), osl⟩) (c : PySem.W.codeIn K cdv x = true) (k : PySem.W.keepIn K (.ref f) = true)
  (hb : ∀ (kV doc pm : Value) (an : Option Addr) (cdv ct : Value) (us : List Value), us.length = ps.length -> bindArgs (PySem.W.fnOf x x (zam st) (zal st) (zad st) .none kV doc pm an cdv ct) ⟨us, []⟩ = pure (ps.zip us)) : Src K mg x st ps :=
 ⟨_, _, zva (st := st) l c k, (zva (st := st) l c k).binds hb, PySem.W.mg_of X G a⟩
theorem lenC {p : List Value -> Prop} {n : Nat} (h : ∀ (a : Value) (us : List Value), us.length = n -> p (a :: us)) : ∀ us : List Value, us.length = n + 1 -> p us := fun us hl => by
 cases us with
 | nil => cases hl
 | cons a us => exact h a us (Nat.succ.inj hl)
theorem len0 {p : List Value -> Prop} (h : p []) : ∀ us : List Value, us.length = 0 -> p us := fun us hl => by
 rw [List.length_eq_zero_iff.mp hl]
 exact h
theorem len1 {p : List Value -> Prop} (h : ∀ a, p [a]) : ∀ us : List Value, us.length = 1 -> p us := lenC fun a => len0 (p := fun us => p (a :: us)) (h a)
theorem len2 {p : List Value -> Prop} (h : ∀ a b, p [a, b]) : ∀ us : List Value, us.length = 2 -> p us := lenC fun a => len1 (p := fun us => p (a :: us)) (h a)
theorem len3 {p : List Value -> Prop} (h : ∀ a b c, p [a, b, c]) : ∀ us : List Value, us.length = 3 -> p us := lenC fun a => len2 (p := fun us => p (a :: us)) (h a)
theorem all_mk {l : PySem.W.OpenLaw} {w : World} {K : W.Frag} {h : Heap} {mg : Str -> Option Value} {fa : Addr} (X : K.In h) (G : h.Ns mainGlobals mg) (hfa : mg "law" = some (.ref fa))
  {f0 : Addr} {od0 an0 : Option Addr} {sl0 : Array (Option Value)} {oc0 kV0 dc0 pm0 cd0 ct0 : Value}
  (a0 : PySem.W.nsIn K mainGlobals "is_whole" = some (some (.ref f0))) (l0 : K.lookup f0 = some ⟨oc0, od0, .func (PySem.W.fnOf "is_whole" "is_whole" (zam zdd) (zal zdd) (zad zdd) .none kV0 dc0 pm0 an0 cd0 ct0), sl0⟩) (c0 : PySem.W.codeIn K cd0 "is_whole" = true) (k0 : PySem.W.keepIn K (.ref f0) = true)
  {f1 : Addr} {od1 an1 : Option Addr} {sl1 : Array (Option Value)} {oc1 kV1 dc1 pm1 cd1 ct1 : Value}
  (a1 : PySem.W.nsIn K mainGlobals "whole_pick" = some (some (.ref f1))) (l1 : K.lookup f1 = some ⟨oc1, od1, .func (PySem.W.fnOf "whole_pick" "whole_pick" (zam zhg) (zal zhg) (zad zhg) .none kV1 dc1 pm1 an1 cd1 ct1), sl1⟩) (c1 : PySem.W.codeIn K cd1 "whole_pick" = true) (k1 : PySem.W.keepIn K (.ref f1) = true)
  {f2 : Addr} {od2 an2 : Option Addr} {sl2 : Array (Option Value)} {oc2 kV2 dc2 pm2 cd2 ct2 : Value}
  (a2 : PySem.W.nsIn K mainGlobals "all_picks" = some (some (.ref f2))) (l2 : K.lookup f2 = some ⟨oc2, od2, .func (PySem.W.fnOf "all_picks" "all_picks" (zam sAll) (zal sAll) (zad sAll) .none kV2 dc2 pm2 an2 cd2 ct2), sl2⟩) (c2 : PySem.W.codeIn K cd2 "all_picks" = true) (k2 : PySem.W.keepIn K (.ref f2) = true)
  {f3 : Addr} {od3 an3 : Option Addr} {sl3 : Array (Option Value)} {oc3 kV3 dc3 pm3 cd3 ct3 : Value}
  (a3 : PySem.W.nsIn K mainGlobals "with_one_more" = some (some (.ref f3))) (l3 : K.lookup f3 = some ⟨oc3, od3, .func (PySem.W.fnOf "with_one_more" "with_one_more" (zam sMore) (zal sMore) (zad sMore) .none kV3 dc3 pm3 an3 cd3 ct3), sl3⟩) (c3 : PySem.W.codeIn K cd3 "with_one_more" = true) (k3 : PySem.W.keepIn K (.ref f3) = true)
  {f4 : Addr} {od4 an4 : Option Addr} {sl4 : Array (Option Value)} {oc4 kV4 dc4 pm4 cd4 ct4 : Value}
  (a4 : PySem.W.nsIn K mainGlobals "heads_of" = some (some (.ref f4))) (l4 : K.lookup f4 = some ⟨oc4, od4, .func (PySem.W.fnOf "heads_of" "heads_of" (zam zit) (zal zit) (zad zit) .none kV4 dc4 pm4 an4 cd4 ct4), sl4⟩) (c4 : PySem.W.codeIn K cd4 "heads_of" = true) (k4 : PySem.W.keepIn K (.ref f4) = true)
  {f5 : Addr} {od5 an5 : Option Addr} {sl5 : Array (Option Value)} {oc5 kV5 dc5 pm5 cd5 ct5 : Value}
  (a5 : PySem.W.nsIn K mainGlobals "rank_of" = some (some (.ref f5))) (l5 : K.lookup f5 = some ⟨oc5, od5, .func (PySem.W.fnOf "rank_of" "rank_of" (zam sRank) (zal sRank) (zad sRank) .none kV5 dc5 pm5 an5 cd5 ct5), sl5⟩) (c5 : PySem.W.codeIn K cd5 "rank_of" = true) (k5 : PySem.W.keepIn K (.ref f5) = true)
  {f6 : Addr} {od6 an6 : Option Addr} {sl6 : Array (Option Value)} {oc6 kV6 dc6 pm6 cd6 ct6 : Value}
  (a6 : PySem.W.nsIn K mainGlobals "rank_of_web" = some (some (.ref f6))) (l6 : K.lookup f6 = some ⟨oc6, od6, .func (PySem.W.fnOf "rank_of_web" "rank_of_web" (zam zio) (zal zio) (zad zio) .none kV6 dc6 pm6 an6 cd6 ct6), sl6⟩) (c6 : PySem.W.codeIn K cd6 "rank_of_web" = true) (k6 : PySem.W.keepIn K (.ref f6) = true)
  {f7 : Addr} {od7 an7 : Option Addr} {sl7 : Array (Option Value)} {oc7 kV7 dc7 pm7 cd7 ct7 : Value}
  (a7 : PySem.W.nsIn K mainGlobals "gathered" = some (some (.ref f7))) (l7 : K.lookup f7 = some ⟨oc7, od7, .func (PySem.W.fnOf "gathered" "gathered" (zam sGath) (zal sGath) (zad sGath) .none kV7 dc7 pm7 an7 cd7 ct7), sl7⟩) (c7 : PySem.W.codeIn K cd7 "gathered" = true) (k7 : PySem.W.keepIn K (.ref f7) = true)
  {f8 : Addr} {od8 an8 : Option Addr} {sl8 : Array (Option Value)} {oc8 kV8 dc8 pm8 cd8 ct8 : Value}
  (a8 : PySem.W.nsIn K mainGlobals "product_of" = some (some (.ref f8))) (l8 : K.lookup f8 = some ⟨oc8, od8, .func (PySem.W.fnOf "product_of" "product_of" (zam sProd) (zal sProd) (zad sProd) .none kV8 dc8 pm8 an8 cd8 ct8), sl8⟩) (c8 : PySem.W.codeIn K cd8 "product_of" = true) (k8 : PySem.W.keepIn K (.ref f8) = true)
  {f9 : Addr} {od9 an9 : Option Addr} {sl9 : Array (Option Value)} {oc9 kV9 dc9 pm9 cd9 ct9 : Value}
  (a9 : PySem.W.nsIn K mainGlobals "to_power" = some (some (.ref f9))) (l9 : K.lookup f9 = some ⟨oc9, od9, .func (PySem.W.fnOf "to_power" "to_power" (zam zil) (zal zil) (zad zil) .none kV9 dc9 pm9 an9 cd9 ct9), sl9⟩) (c9 : PySem.W.codeIn K cd9 "to_power" = true) (k9 : PySem.W.keepIn K (.ref f9) = true)
  {f10 : Addr} {od10 an10 : Option Addr} {sl10 : Array (Option Value)} {oc10 kV10 dc10 pm10 cd10 ct10 : Value}
  (a10 : PySem.W.nsIn K mainGlobals "exchanged" = some (some (.ref f10))) (l10 : K.lookup f10 = some ⟨oc10, od10, .func (PySem.W.fnOf "exchanged" "exchanged" (zam sExch) (zal sExch) (zad sExch) .none kV10 dc10 pm10 an10 cd10 ct10), sl10⟩) (c10 : PySem.W.codeIn K cd10 "exchanged" = true) (k10 : PySem.W.keepIn K (.ref f10) = true)
  {f11 : Addr} {od11 an11 : Option Addr} {sl11 : Array (Option Value)} {oc11 kV11 dc11 pm11 cd11 ct11 : Value}
  (a11 : PySem.W.nsIn K mainGlobals "number_to_power" = some (some (.ref f11))) (l11 : K.lookup f11 = some ⟨oc11, od11, .func (PySem.W.fnOf "number_to_power" "number_to_power" (zam sPow) (zal sPow) (zad sPow) .none kV11 dc11 pm11 an11 cd11 ct11), sl11⟩) (c11 : PySem.W.codeIn K cd11 "number_to_power" = true) (k11 : PySem.W.keepIn K (.ref f11) = true)
  {f12 : Addr} {od12 an12 : Option Addr} {sl12 : Array (Option Value)} {oc12 kV12 dc12 pm12 cd12 ct12 : Value}
  (a12 : PySem.W.nsIn K mainGlobals "size_table" = some (some (.ref f12))) (l12 : K.lookup f12 = some ⟨oc12, od12, .func (PySem.W.fnOf "size_table" "size_table" (zam sST) (zal sST) (zad sST) .none kV12 dc12 pm12 an12 cd12 ct12), sl12⟩) (c12 : PySem.W.codeIn K cd12 "size_table" = true) (k12 : PySem.W.keepIn K (.ref f12) = true)
  {f13 : Addr} {od13 an13 : Option Addr} {sl13 : Array (Option Value)} {oc13 kV13 dc13 pm13 cd13 ct13 : Value}
  (a13 : PySem.W.nsIn K mainGlobals "by_picks" = some (some (.ref f13))) (l13 : K.lookup f13 = some ⟨oc13, od13, .func (PySem.W.fnOf "by_picks" "by_picks" (zam sByP) (zal sByP) (zad sByP) .none kV13 dc13 pm13 an13 cd13 ct13), sl13⟩) (c13 : PySem.W.codeIn K cd13 "by_picks" = true) (k13 : PySem.W.keepIn K (.ref f13) = true)
  {f14 : Addr} {od14 an14 : Option Addr} {sl14 : Array (Option Value)} {oc14 kV14 dc14 pm14 cd14 ct14 : Value}
  (a14 : PySem.W.nsIn K mainGlobals "refuse_less_than" = some (some (.ref f14))) (l14 : K.lookup f14 = some ⟨oc14, od14, .func (PySem.W.fnOf "refuse_less_than" "refuse_less_than" (zam sRef) (zal sRef) (zad sRef) .none kV14 dc14 pm14 an14 cd14 ct14), sl14⟩) (c14 : PySem.W.codeIn K cd14 "refuse_less_than" = true) (k14 : PySem.W.keepIn K (.ref f14) = true)
  {f15 : Addr} {od15 an15 : Option Addr} {sl15 : Array (Option Value)} {oc15 kV15 dc15 pm15 cd15 ct15 : Value}
  (a15 : PySem.W.nsIn K mainGlobals "colour_row" = some (some (.ref f15))) (l15 : K.lookup f15 = some ⟨oc15, od15, .func (PySem.W.fnOf "colour_row" "colour_row" (zam sCRow) (zal sCRow) (zad sCRow) .none kV15 dc15 pm15 an15 cd15 ct15), sl15⟩) (c15 : PySem.W.codeIn K cd15 "colour_row" = true) (k15 : PySem.W.keepIn K (.ref f15) = true)
  {f16 : Addr} {od16 an16 : Option Addr} {sl16 : Array (Option Value)} {oc16 kV16 dc16 pm16 cd16 ct16 : Value}
  (a16 : PySem.W.nsIn K mainGlobals "with_one_less_q" = some (some (.ref f16))) (l16 : K.lookup f16 = some ⟨oc16, od16, .func (PySem.W.fnOf "with_one_less_q" "with_one_less_q" (zam sOL) (zal sOL) (zad sOL) .none kV16 dc16 pm16 an16 cd16 ct16), sl16⟩) (c16 : PySem.W.codeIn K cd16 "with_one_less_q" = true) (k16 : PySem.W.keepIn K (.ref f16) = true)
  {f17 : Addr} {od17 an17 : Option Addr} {sl17 : Array (Option Value)} {oc17 kV17 dc17 pm17 cd17 ct17 : Value}
  (a17 : PySem.W.nsIn K mainGlobals "row_of" = some (some (.ref f17))) (l17 : K.lookup f17 = some ⟨oc17, od17, .func (PySem.W.fnOf "row_of" "row_of" (zam zim) (zal zim) (zad zim) .none kV17 dc17 pm17 an17 cd17 ct17), sl17⟩) (c17 : PySem.W.codeIn K cd17 "row_of" = true) (k17 : PySem.W.keepIn K (.ref f17) = true)
  {f18 : Addr} {od18 an18 : Option Addr} {sl18 : Array (Option Value)} {oc18 kV18 dc18 pm18 cd18 ct18 : Value}
  (a18 : PySem.W.nsIn K mainGlobals "worth_of_row" = some (some (.ref f18))) (l18 : K.lookup f18 = some ⟨oc18, od18, .func (PySem.W.fnOf "worth_of_row" "worth_of_row" (zam sWRow) (zal sWRow) (zad sWRow) .none kV18 dc18 pm18 an18 cd18 ct18), sl18⟩) (c18 : PySem.W.codeIn K cd18 "worth_of_row" = true) (k18 : PySem.W.keepIn K (.ref f18) = true)
  {f19 : Addr} {od19 an19 : Option Addr} {sl19 : Array (Option Value)} {oc19 kV19 dc19 pm19 cd19 ct19 : Value}
  (a19 : PySem.W.nsIn K mainGlobals "colour_count" = some (some (.ref f19))) (l19 : K.lookup f19 = some ⟨oc19, od19, .func (PySem.W.fnOf "colour_count" "colour_count" (zam zfs) (zal zfs) (zad zfs) .none kV19 dc19 pm19 an19 cd19 ct19), sl19⟩) (c19 : PySem.W.codeIn K cd19 "colour_count" = true) (k19 : PySem.W.keepIn K (.ref f19) = true)
  {f20 : Addr} {od20 an20 : Option Addr} {sl20 : Array (Option Value)} {oc20 kV20 dc20 pm20 cd20 ct20 : Value}
  (a20 : PySem.W.nsIn K mainGlobals "flow_row" = some (some (.ref f20))) (l20 : K.lookup f20 = some ⟨oc20, od20, .func (PySem.W.fnOf "flow_row" "flow_row" (zam sFRow) (zal sFRow) (zad sFRow) .none kV20 dc20 pm20 an20 cd20 ct20), sl20⟩) (c20 : PySem.W.codeIn K cd20 "flow_row" = true) (k20 : PySem.W.keepIn K (.ref f20) = true)
  {f21 : Addr} {od21 an21 : Option Addr} {sl21 : Array (Option Value)} {oc21 kV21 dc21 pm21 cd21 ct21 : Value}
  (a21 : PySem.W.nsIn K mainGlobals "flow_count" = some (some (.ref f21))) (l21 : K.lookup f21 = some ⟨oc21, od21, .func (PySem.W.fnOf "flow_count" "flow_count" (zam zfr) (zal zfr) (zad zfr) .none kV21 dc21 pm21 an21 cd21 ct21), sl21⟩) (c21 : PySem.W.codeIn K cd21 "flow_count" = true) (k21 : PySem.W.keepIn K (.ref f21) = true)
  {f22 : Addr} {od22 an22 : Option Addr} {sl22 : Array (Option Value)} {oc22 kV22 dc22 pm22 cd22 ct22 : Value}
  (a22 : PySem.W.nsIn K mainGlobals "is_whole_within" = some (some (.ref f22))) (l22 : K.lookup f22 = some ⟨oc22, od22, .func (PySem.W.fnOf "is_whole_within" "is_whole_within" (zam zfq) (zal zfq) (zad zfq) .none kV22 dc22 pm22 an22 cd22 ct22), sl22⟩) (c22 : PySem.W.codeIn K cd22 "is_whole_within" = true) (k22 : PySem.W.keepIn K (.ref f22) = true)
  {f23 : Addr} {od23 an23 : Option Addr} {sl23 : Array (Option Value)} {oc23 kV23 dc23 pm23 cd23 ct23 : Value}
  (a23 : PySem.W.nsIn K mainGlobals "refuse_no_tie_of" = some (some (.ref f23))) (l23 : K.lookup f23 = some ⟨oc23, od23, .func (PySem.W.fnOf "refuse_no_tie_of" "refuse_no_tie_of" (zam ziq) (zal ziq) (zad ziq) .none kV23 dc23 pm23 an23 cd23 ct23), sl23⟩) (c23 : PySem.W.codeIn K cd23 "refuse_no_tie_of" = true) (k23 : PySem.W.keepIn K (.ref f23) = true)
  {f24 : Addr} {od24 an24 : Option Addr} {sl24 : Array (Option Value)} {oc24 kV24 dc24 pm24 cd24 ct24 : Value}
  (a24 : PySem.W.nsIn K mainGlobals "all_pointings" = some (some (.ref f24))) (l24 : K.lookup f24 = some ⟨oc24, od24, .func (PySem.W.fnOf "all_pointings" "all_pointings" (zam sPtg) (zal sPtg) (zad sPtg) .none kV24 dc24 pm24 an24 cd24 ct24), sl24⟩) (c24 : PySem.W.codeIn K cd24 "all_pointings" = true) (k24 : PySem.W.keepIn K (.ref f24) = true)
  {f25 : Addr} {od25 an25 : Option Addr} {sl25 : Array (Option Value)} {oc25 kV25 dc25 pm25 cd25 ct25 : Value}
  (a25 : PySem.W.nsIn K mainGlobals "leads_of" = some (some (.ref f25))) (l25 : K.lookup f25 = some ⟨oc25, od25, .func (PySem.W.fnOf "leads_of" "leads_of" (zam zef) (zal zef) (zad zef) .none kV25 dc25 pm25 an25 cd25 ct25), sl25⟩) (c25 : PySem.W.codeIn K cd25 "leads_of" = true) (k25 : PySem.W.keepIn K (.ref f25) = true)
  {f26 : Addr} {od26 an26 : Option Addr} {sl26 : Array (Option Value)} {oc26 kV26 dc26 pm26 cd26 ct26 : Value}
  (a26 : PySem.W.nsIn K mainGlobals "ring_in" = some (some (.ref f26))) (l26 : K.lookup f26 = some ⟨oc26, od26, .func (PySem.W.fnOf "ring_in" "ring_in" (zam sRI) (zal sRI) (zad sRI) .none kV26 dc26 pm26 an26 cd26 ct26), sl26⟩) (c26 : PySem.W.codeIn K cd26 "ring_in" = true) (k26 : PySem.W.keepIn K (.ref f26) = true)
  {f27 : Addr} {od27 an27 : Option Addr} {sl27 : Array (Option Value)} {oc27 kV27 dc27 pm27 cd27 ct27 : Value}
  (a27 : PySem.W.nsIn K mainGlobals "ring_through" = some (some (.ref f27))) (l27 : K.lookup f27 = some ⟨oc27, od27, .func (PySem.W.fnOf "ring_through" "ring_through" (zam sRT) (zal sRT) (zad sRT) .none kV27 dc27 pm27 an27 cd27 ct27), sl27⟩) (c27 : PySem.W.codeIn K cd27 "ring_through" = true) (k27 : PySem.W.keepIn K (.ref f27) = true)
  {f28 : Addr} {od28 an28 : Option Addr} {sl28 : Array (Option Value)} {oc28 kV28 dc28 pm28 cd28 ct28 : Value}
  (a28 : PySem.W.nsIn K mainGlobals "ties_between" = some (some (.ref f28))) (l28 : K.lookup f28 = some ⟨oc28, od28, .func (PySem.W.fnOf "ties_between" "ties_between" (zam sTB) (zal sTB) (zad sTB) .none kV28 dc28 pm28 an28 cd28 ct28), sl28⟩) (c28 : PySem.W.codeIn K cd28 "ties_between" = true) (k28 : PySem.W.keepIn K (.ref f28) = true)
  {f29 : Addr} {od29 an29 : Option Addr} {sl29 : Array (Option Value)} {oc29 kV29 dc29 pm29 cd29 ct29 : Value}
  (a29 : PySem.W.nsIn K mainGlobals "ringless_ways" = some (some (.ref f29))) (l29 : K.lookup f29 = some ⟨oc29, od29, .func (PySem.W.fnOf "ringless_ways" "ringless_ways" (zam sRW) (zal sRW) (zad sRW) .none kV29 dc29 pm29 an29 cd29 ct29), sl29⟩) (c29 : PySem.W.codeIn K cd29 "ringless_ways" = true) (k29 : PySem.W.keepIn K (.ref f29) = true)
  {f30 : Addr} {od30 an30 : Option Addr} {sl30 : Array (Option Value)} {oc30 kV30 dc30 pm30 cd30 ct30 : Value}
  (a30 : PySem.W.nsIn K mainGlobals "ringed_ways" = some (some (.ref f30))) (l30 : K.lookup f30 = some ⟨oc30, od30, .func (PySem.W.fnOf "ringed_ways" "ringed_ways" (zam sRD) (zal sRD) (zad sRD) .none kV30 dc30 pm30 an30 cd30 ct30), sl30⟩) (c30 : PySem.W.codeIn K cd30 "ringed_ways" = true) (k30 : PySem.W.keepIn K (.ref f30) = true)
  {f31 : Addr} {od31 an31 : Option Addr} {sl31 : Array (Option Value)} {oc31 kV31 dc31 pm31 cd31 ct31 : Value}
  (a31 : PySem.W.nsIn K mainGlobals "is_ringed" = some (some (.ref f31))) (l31 : K.lookup f31 = some ⟨oc31, od31, .func (PySem.W.fnOf "is_ringed" "is_ringed" (zam sIR) (zal sIR) (zad sIR) .none kV31 dc31 pm31 an31 cd31 ct31), sl31⟩) (c31 : PySem.W.codeIn K cd31 "is_ringed" = true) (k31 : PySem.W.keepIn K (.ref f31) = true)
  {f32 : Addr} {od32 an32 : Option Addr} {sl32 : Array (Option Value)} {oc32 kV32 dc32 pm32 cd32 ct32 : Value}
  (a32 : PySem.W.nsIn K mainGlobals "_law_at" = some (some (.ref f32))) (l32 : K.lookup f32 = some ⟨oc32, od32, .func (PySem.W.fnOf "_law_at" "_law_at" (zam sAt) (zal sAt) (zad sAt) .none kV32 dc32 pm32 an32 cd32 ct32), sl32⟩) (c32 : PySem.W.codeIn K cd32 "_law_at" = true) (k32 : PySem.W.keepIn K (.ref f32) = true)
  {f33 : Addr} {od33 an33 : Option Addr} {sl33 : Array (Option Value)} {oc33 kV33 dc33 pm33 cd33 ct33 : Value}
  (a33 : PySem.W.nsIn K mainGlobals "_law_count_is" = some (some (.ref f33))) (l33 : K.lookup f33 = some ⟨oc33, od33, .func (PySem.W.fnOf "_law_count_is" "_law_count_is" (zam zeg) (zal zeg) (zad zeg) .none kV33 dc33 pm33 an33 cd33 ct33), sl33⟩) (c33 : PySem.W.codeIn K cd33 "_law_count_is" = true) (k33 : PySem.W.keepIn K (.ref f33) = true)
  {f34 : Addr} {od34 an34 : Option Addr} {sl34 : Array (Option Value)} {oc34 kV34 dc34 pm34 cd34 ct34 : Value}
  (a34 : PySem.W.nsIn K mainGlobals "_law_ties" = some (some (.ref f34))) (l34 : K.lookup f34 = some ⟨oc34, od34, .func (PySem.W.fnOf "_law_ties" "_law_ties" (zam sTies) (zal sTies) (zad sTies) .none kV34 dc34 pm34 an34 cd34 ct34), sl34⟩) (c34 : PySem.W.codeIn K cd34 "_law_ties" = true) (k34 : PySem.W.keepIn K (.ref f34) = true)
  {f35 : Addr} {od35 an35 : Option Addr} {sl35 : Array (Option Value)} {oc35 kV35 dc35 pm35 cd35 ct35 : Value}
  (a35 : PySem.W.nsIn K mainGlobals "_law_rank" = some (some (.ref f35))) (l35 : K.lookup f35 = some ⟨oc35, od35, .func (PySem.W.fnOf "_law_rank" "_law_rank" (zam zir) (zal zir) (zad zir) .none kV35 dc35 pm35 an35 cd35 ct35), sl35⟩) (c35 : PySem.W.codeIn K cd35 "_law_rank" = true) (k35 : PySem.W.keepIn K (.ref f35) = true)
  {f36 : Addr} {od36 an36 : Option Addr} {sl36 : Array (Option Value)} {oc36 kV36 dc36 pm36 cd36 ct36 : Value}
  (a36 : PySem.W.nsIn K mainGlobals "_law_is_row" = some (some (.ref f36))) (l36 : K.lookup f36 = some ⟨oc36, od36, .func (PySem.W.fnOf "_law_is_row" "_law_is_row" (zam zis) (zal zis) (zad zis) .none kV36 dc36 pm36 an36 cd36 ct36), sl36⟩) (c36 : PySem.W.codeIn K cd36 "_law_is_row" = true) (k36 : PySem.W.keepIn K (.ref f36) = true)
  {f37 : Addr} {od37 an37 : Option Addr} {sl37 : Array (Option Value)} {oc37 kV37 dc37 pm37 cd37 ct37 : Value}
  (a37 : PySem.W.nsIn K mainGlobals "_law_row_at" = some (some (.ref f37))) (l37 : K.lookup f37 = some ⟨oc37, od37, .func (PySem.W.fnOf "_law_row_at" "_law_row_at" (zam zin) (zal zin) (zad zin) .none kV37 dc37 pm37 an37 cd37 ct37), sl37⟩) (c37 : PySem.W.codeIn K cd37 "_law_row_at" = true) (k37 : PySem.W.keepIn K (.ref f37) = true)
  {f38 : Addr} {od38 an38 : Option Addr} {sl38 : Array (Option Value)} {oc38 kV38 dc38 pm38 cd38 ct38 : Value}
  (a38 : PySem.W.nsIn K mainGlobals "_law_ends" = some (some (.ref f38))) (l38 : K.lookup f38 = some ⟨oc38, od38, .func (PySem.W.fnOf "_law_ends" "_law_ends" (zam sEnds) (zal sEnds) (zad sEnds) .none kV38 dc38 pm38 an38 cd38 ct38), sl38⟩) (c38 : PySem.W.codeIn K cd38 "_law_ends" = true) (k38 : PySem.W.keepIn K (.ref f38) = true)
  {f39 : Addr} {od39 an39 : Option Addr} {sl39 : Array (Option Value)} {oc39 kV39 dc39 pm39 cd39 ct39 : Value}
  (a39 : PySem.W.nsIn K mainGlobals "law" = some (some (.ref f39))) (l39 : K.lookup f39 = some ⟨oc39, od39, .func (PySem.W.fnOf "law" "law" (zam sLaw) (zal sLaw) (zad sLaw) .none kV39 dc39 pm39 an39 cd39 ct39), sl39⟩) (c39 : PySem.W.codeIn K cd39 "law" = true) (k39 : PySem.W.keepIn K (.ref f39) = true)
  (z0 : PySem.W.nsIn K mainGlobals "isinstance" = some none)
  (z1 : PySem.W.nsIn K mainGlobals "int" = some none)
  (z2 : PySem.W.nsIn K mainGlobals "bool" = some none)
  (z3 : PySem.W.nsIn K mainGlobals "len" = some none)
  (z4 : PySem.W.nsIn K mainGlobals "tuple" = some none)
  (z5 : PySem.W.nsIn K mainGlobals "all" = some none)
  (z6 : PySem.W.nsIn K mainGlobals "list" = some none)
  (z7 : PySem.W.nsIn K mainGlobals "min" = some none)
  (z8 : PySem.W.nsIn K mainGlobals "max" = some none)
  (z9 : PySem.W.nsIn K mainGlobals "range" = some none)
  (z10 : PySem.W.nsIn K mainGlobals "set" = some none)
  (z11 : PySem.W.nsIn K mainGlobals "sorted" = some none)
  (z12 : PySem.W.nsIn K mainGlobals "sum" = some none)
  (z13 : PySem.W.nsIn K mainGlobals "enumerate" = some none)
  (z14 : PySem.W.nsIn K mainGlobals "reversed" = some none)
  (z15 : PySem.W.nsIn K mainGlobals "zip" = some none)
  {oa ob : Addr} {ood ood2 : Option Addr} {onn onn2 : Nat} {oos oos2 : Array (Option Value)} {ot0 ot1 ot2 : Tok}
  (oo : PySem.W.nsIn K mainGlobals "ONE" = some (some (.ref oa))) (ol : K.lookup oa = some ⟨.type "tuple", ood, .seq #[.ref ob] onn, oos⟩) (om : K.lookup ob = some ⟨.type "tuple", ood2, .seq #[.int 0 ot0, .int 0 ot1, .int 1 ot2] onn2, oos2⟩)
  : ∃ fd : FuncData, (∀ (s : Shared) (v : Value), BindsTo s fd ⟨[v], []⟩ [("_law_script", v)]) /\ ∀ base : Heap, K.In base -> base.Ns mainGlobals mg -> FnOk l.prog w K mg base CX0 7 fa fd ["_law_script"] (spLaw K) := by
 have e := hfa.symm.trans (PySem.W.mg_of X G a39)
 cases e
 have S0 : Src K mg "is_whole" zdd ["thing"] := zbd X G a0 l0 c0 k0 fun _ _ _ _ _ _ => len1 (fun _ => rfl)
 have S1 : Src K mg "whole_pick" zhg ["web"] := zbd X G a1 l1 c1 k1 fun _ _ _ _ _ _ => len1 (fun _ => rfl)
 have S2 : Src K mg "all_picks" sAll ["web"] := zbd X G a2 l2 c2 k2 fun _ _ _ _ _ _ => len1 (fun _ => rfl)
 have S3 : Src K mg "with_one_more" sMore ["picks", "many"] := zbd X G a3 l3 c3 k3 fun _ _ _ _ _ _ => len2 (fun _ _ => rfl)
 have S4 : Src K mg "heads_of" zit ["web", "pick"] := zbd X G a4 l4 c4 k4 fun _ _ _ _ _ _ => len2 (fun _ _ => rfl)
 have S5 : Src K mg "rank_of" sRank ["web", "pick"] := zbd X G a5 l5 c5 k5 fun _ _ _ _ _ _ => len2 (fun _ _ => rfl)
 have S6 : Src K mg "rank_of_web" zio ["web"] := zbd X G a6 l6 c6 k6 fun _ _ _ _ _ _ => len1 (fun _ => rfl)
 have S7 : Src K mg "gathered" sGath ["terms"] := zbd X G a7 l7 c7 k7 fun _ _ _ _ _ _ => len1 (fun _ => rfl)
 have S8 : Src K mg "product_of" sProd ["one", "other"] := zbd X G a8 l8 c8 k8 fun _ _ _ _ _ _ => len2 (fun _ _ => rfl)
 have S9 : Src K mg "to_power" zil ["poly", "k"] := zbd X G a9 l9 c9 k9 fun _ _ _ _ _ _ => len2 (fun _ _ => rfl)
 have S10 : Src K mg "exchanged" sExch ["poly"] := zbd X G a10 l10 c10 k10 fun _ _ _ _ _ _ => len1 (fun _ => rfl)
 have S11 : Src K mg "number_to_power" sPow ["number", "k"] := zbd X G a11 l11 c11 k11 fun _ _ _ _ _ _ => len2 (fun _ _ => rfl)
 have S12 : Src K mg "size_table" sST ["web"] := zbd X G a12 l12 c12 k12 fun _ _ _ _ _ _ => len1 (fun _ => rfl)
 have S13 : Src K mg "by_picks" sByP ["web"] := zbd X G a13 l13 c13 k13 fun _ _ _ _ _ _ => len1 (fun _ => rfl)
 have S14 : Src K mg "refuse_less_than" sRef ["thing", "least"] := zbd X G a14 l14 c14 k14 fun _ _ _ _ _ _ => len2 (fun _ _ => rfl)
 have S15 : Src K mg "colour_row" sCRow ["web"] := zbd X G a15 l15 c15 k15 fun _ _ _ _ _ _ => len1 (fun _ => rfl)
 have S16 : Src K mg "with_one_less_q" sOL ["poly"] := zbd X G a16 l16 c16 k16 fun _ _ _ _ _ _ => len1 (fun _ => rfl)
 have S17 : Src K mg "row_of" zim ["poly"] := zbd X G a17 l17 c17 k17 fun _ _ _ _ _ _ => len1 (fun _ => rfl)
 have S18 : Src K mg "worth_of_row" sWRow ["row", "q"] := zbd X G a18 l18 c18 k18 fun _ _ _ _ _ _ => len2 (fun _ _ => rfl)
 have S19 : Src K mg "colour_count" zfs ["web", "q"] := zbd X G a19 l19 c19 k19 fun _ _ _ _ _ _ => len2 (fun _ _ => rfl)
 have S20 : Src K mg "flow_row" sFRow ["web"] := zbd X G a20 l20 c20 k20 fun _ _ _ _ _ _ => len1 (fun _ => rfl)
 have S21 : Src K mg "flow_count" zfr ["web", "q"] := zbd X G a21 l21 c21 k21 fun _ _ _ _ _ _ => len2 (fun _ _ => rfl)
 have S22 : Src K mg "is_whole_within" zfq ["thing", "least", "greatest"] := zbd X G a22 l22 c22 k22 fun _ _ _ _ _ _ => len3 (fun _ _ _ => rfl)
 have S23 : Src K mg "refuse_no_tie_of" ziq ["web", "k"] := zbd X G a23 l23 c23 k23 fun _ _ _ _ _ _ => len2 (fun _ _ => rfl)
 have S24 : Src K mg "all_pointings" sPtg ["web"] := zbd X G a24 l24 c24 k24 fun _ _ _ _ _ _ => len1 (fun _ => rfl)
 have S25 : Src K mg "leads_of" zef ["web", "pointing"] := zbd X G a25 l25 c25 k25 fun _ _ _ _ _ _ => len2 (fun _ _ => rfl)
 have S26 : Src K mg "ring_in" sRI ["web", "pointing"] := zbd X G a26 l26 c26 k26 fun _ _ _ _ _ _ => len2 (fun _ _ => rfl)
 have S27 : Src K mg "ring_through" sRT ["web", "pointing", "k"] := zbd X G a27 l27 c27 k27 fun _ _ _ _ _ _ => len3 (fun _ _ _ => rfl)
 have S28 : Src K mg "ties_between" sTB ["leads", "start", "goal"] := zbd X G a28 l28 c28 k28 fun _ _ _ _ _ _ => len3 (fun _ _ _ => rfl)
 have S29 : Src K mg "ringless_ways" sRW ["web"] := zbd X G a29 l29 c29 k29 fun _ _ _ _ _ _ => len1 (fun _ => rfl)
 have S30 : Src K mg "ringed_ways" sRD ["web"] := zbd X G a30 l30 c30 k30 fun _ _ _ _ _ _ => len1 (fun _ => rfl)
 have S31 : Src K mg "is_ringed" sIR ["web", "pointing"] := zbd X G a31 l31 c31 k31 fun _ _ _ _ _ _ => len2 (fun _ _ => rfl)
 have S32 : Src K mg "_law_at" sAt ["_law_script", "_law_k"] := zbd X G a32 l32 c32 k32 fun _ _ _ _ _ _ => len2 (fun _ _ => rfl)
 have S33 : Src K mg "_law_count_is" zeg ["_law_found", "_law_due"] := zbd X G a33 l33 c33 k33 fun _ _ _ _ _ _ => len2 (fun _ _ => rfl)
 have S34 : Src K mg "_law_ties" sTies ["_law_cells", "_law_n"] := zbd X G a34 l34 c34 k34 fun _ _ _ _ _ _ => len2 (fun _ _ => rfl)
 have S35 : Src K mg "_law_rank" zir ["_law_web", "_law_pick"] := zbd X G a35 l35 c35 k35 fun _ _ _ _ _ _ => len2 (fun _ _ => rfl)
 have S36 : Src K mg "_law_is_row" zis ["_law_found"] := zbd X G a36 l36 c36 k36 fun _ _ _ _ _ _ => len1 (fun _ => rfl)
 have S37 : Src K mg "_law_row_at" zin ["_law_row", "_law_q"] := zbd X G a37 l37 c37 k37 fun _ _ _ _ _ _ => len2 (fun _ _ => rfl)
 have S38 : Src K mg "_law_ends" sEnds ["_law_web"] := zbd X G a38 l38 c38 k38 fun _ _ _ _ _ _ => len1 (fun _ => rfl)
 have T : Txt K mg := ⟨PySem.W.mg_none_of X G z0, PySem.W.mg_none_of X G z1, PySem.W.mg_none_of X G z2, PySem.W.mg_none_of X G z3, PySem.W.mg_none_of X G z4, PySem.W.mg_none_of X G z5, PySem.W.mg_none_of X G z6, PySem.W.mg_none_of X G z7, PySem.W.mg_none_of X G z8, PySem.W.mg_none_of X G z9, PySem.W.mg_none_of X G z10, PySem.W.mg_none_of X G z11⟩
 have hsum : mg "sum" = none := PySem.W.mg_none_of X G z12
 have henum : mg "enumerate" = none := PySem.W.mg_none_of X G z13
 have hrev : mg "reversed" = none := PySem.W.mg_none_of X G z14
 have hk : ∀ H, PolyK K H (.ref oa) [(0, 0, 1)] := fun H => ⟨oa, [.ref ob], rfl, .inr ⟨_, _, _, ol, rfl, rfl, by show 1 <= sizeLine; decide, .cons rfl .nil⟩, .cons ⟨ob, rfl, .inr ⟨_, _, _, om, rfl, rfl, by show 3 <= sizeLine; decide, .cons ⟨_, rfl⟩ (.cons ⟨_, rfl⟩ (.cons ⟨_, rfl⟩ .nil))⟩⟩ .nil⟩
 refine ⟨PySem.W.fnOf "law" "law" (zam sLaw) (zal sLaw) (zad sLaw) .none kV39 dc39 pm39 an39 cd39 ct39, fun s v => .of_eq rfl, fun base _ _ => ?_⟩
 have D0 : Def l.prog w K mg base 1 _ _ _ := zyh T S0
 have D1 : Def l.prog w K mg base 1 _ _ _ := d_wp T S1
 have D3 : Def l.prog w K mg base 1 _ _ _ := zEr T S3
 have D2 : Def l.prog w K mg base 2 _ _ _ := d_all T S2 D3
 have D4 : Def l.prog w K mg base 1 _ _ _ := zCi T S4
 have D5 : Def l.prog w K mg base 2 _ _ _ := zEo T T.set S5 D4
 have D6 : Def l.prog w K mg base 3 _ _ _ := zCc S6 D1 D5
 have D7 : Def l.prog w K mg base 1 _ _ _ := zEu T.p S7
 have D8 : Def l.prog w K mg base 2 _ _ _ := zEp S8 D7
 have D9 : Def l.prog w K mg base 3 _ _ _ := zBz T.p S9 (PySem.W.mg_of X G oo) hk D8
 have D11 : Def l.prog w K mg base 1 _ _ _ := zEq T.p S11
 have D12 : Def l.prog w K mg base 3 _ _ _ := d_st T T.sorted S12 D2 D5
 have D13 : Def l.prog w K mg base 4 _ _ _ := d_byp S13 D6 D12 D8 D9 D7
 have D10 : Def l.prog w K mg base 2 _ _ _ := zEw S10 D7
 have D14 : Def l.prog w K mg base 2 _ _ _ := d_ref S14 D0
 have D16 : Def l.prog w K mg base 4 _ _ _ := d_ol S16 D8 D9 D7
 have D17 : Def l.prog w K mg base 1 _ _ _ := zCa S17
 have D18 : Def l.prog w K mg base 2 _ _ _ := zEn hsum henum S18 D11
 have D15 : Def l.prog w K mg base 5 _ _ _ := zEy S15 D6 D13 D8 D11 D16 D17
 have D19 : Def l.prog w K mg base 6 _ _ _ := zyj S19 D14 D15 D18
 have D20 : Def l.prog w K mg base 5 _ _ _ := zEv T S20 D6 D13 D8 D11 D16 D10 D17
 have D21 : Def l.prog w K mg base 6 _ _ _ := zyi S21 D14 D20 D18
 have D32 : Def l.prog w K mg base 1 _ _ _ := d_at T S32
 have D33 : Def l.prog w K mg base 1 _ _ _ := d_cis T S33
 have D34 : Def l.prog w K mg base 1 _ _ _ := zCe T S34
 have D35 : Def l.prog w K mg base 1 _ _ _ := zCf T S35
 have D36 : Def l.prog w K mg base 1 _ _ _ := zCh T S36
 have D37 : Def l.prog w K mg base 1 _ _ _ := zCb hrev S37
 have D38 : Def l.prog w K mg base 1 _ _ _ := zEx T S38
 have hzip : mg "zip" = none := PySem.W.mg_none_of X G z15
 have W1 : Def l.prog w K mg base 1 _ _ _ := zyg T S0
 have WI : Def l.prog w K mg base 2 _ _ _ := zvj T S22 W1
 have NT : Def l.prog w K mg base 3 _ _ _ := zvl T S23 WI
 have WT : Def l.prog w K mg base 1 _ _ _ := d_wpT T S1
 have PG : Def l.prog w K mg base 2 _ _ _ := d_ptg T S24 WT
 have LO : Def l.prog w K mg base 1 _ _ _ := zCg hzip S25
 have TB : Def l.prog w K mg base 1 _ _ _ := d_tb henum S28
 have RT : Def l.prog w K mg base 4 _ _ _ := d_rt S27 NT LO TB
 have RI : Def l.prog w K mg base 5 _ _ _ := d_ri S26 WT RT
 have RW : Def l.prog w K mg base 6 _ _ _ := d_rw S29 PG RI
 have IR : Def l.prog w K mg base 5 _ _ _ := d_ir T S31 WT RT
 have RD : Def l.prog w K mg base 6 _ _ _ := d_rd S30 PG IR
 exact zDz (zva (st := sLaw) l39 c39 k39) T D32 D34 D15 D20 D36 D37 RW RD D35 D38 D33 D19 D21
theorem walk {l : PySem.W.OpenLaw} {q : Program} {loose : List Str} {XP : (Str -> Option Value) -> Heap -> Prop} {YP : World -> Heap -> Prop} {d : DefRec} {K : Params -> PySem.W.Frag} (hn : l.most = some 63) (hdf : d.params.defaults = [])
  (hY : ∀ (w : World) (h : Heap), YP w h -> (K w.params).In h)
  (F : ∀ (w : World) (mg : Str -> Option Value) (fa : Addr) (h : Heap), (K w.params).In h -> h.Ns mainGlobals mg -> mg d.name = some (.ref fa) ->
   ∃ fd : FuncData, (∀ (s : Shared) (u : Value), BindsTo s fd ⟨[u], []⟩ [("_law_script", u)]) /\ ∀ base : Heap, (K w.params).In base -> base.Ns mainGlobals mg -> FnOk l.prog w (K w.params) mg base CX0 7 fa fd ["_law_script"] (spLaw (K w.params))) :
  PySem.W.WalkO q loose XP YP l.row.toRowW d [] (fun f vs => PySem.call f vs) :=
 L2.walk_of (n := 63) (k := 7) (x := "_law_script") (CX := fun _ => CX0) (sp := fun w => spLaw (K w.params)) hn (by decide) hdf ⟨rfl, by decide, by decide⟩ hY F (fun _ _ a ns hl _ hS => ⟨a, ns, rfl, hS, hl, fun _ => rfl⟩) fun _ _ _ _ _ z => z
end My
def PySem.W.Fast.tw15096760798364851820 : Unit := ()
def PySem.W.Fast.tw4998536106537529072 : Unit := ()
def PySem.W.Fast.tw3111883374177634610 : Unit := ()
def PySem.W.Fast.tw15589552046013847624 : Unit := ()
def PySem.W.Fast.tw1646640994387380975 : Unit := ()
def PySem.W.Fast.tw10987067919497454250 : Unit := ()
def PySem.W.Fast.tw10787970467089882471 : Unit := ()
def PySem.W.Fast.tw12736336819585540399 : Unit := ()
open PySem PySem.W PyProof.Rows
set_option maxRecDepth 100000 in
set_option maxHeartbeats 0 in
theorem PySem.Challenge.cw_manycounts_k77_whole_signs_and_pointings_holds : PySem.Challenge.rw_manycounts_k77_whole_signs_and_pointings.Holds := by
 w_on; o_law; k_head; (case hw => w_witness2)
 k_fill
 refine My.walk (l := PySem.Challenge.rw_manycounts_k77_whole_signs_and_pointings) rfl rfl (fun w h Y => PySem.W.kIn_of Y) ?F
 case F =>
  intro w mg fa h KX G hmg
  refine' My.all_mk KX G hmg ?a0 ?l0 ?c0 ?k0 ?a1 ?l1 ?c1 ?k1 ?a2 ?l2 ?c2 ?k2 ?a3 ?l3 ?c3 ?k3 ?a4 ?l4 ?c4 ?k4 ?a5 ?l5 ?c5 ?k5 ?a6 ?l6 ?c6 ?k6 ?a7 ?l7 ?c7 ?k7 ?a8 ?l8 ?c8 ?k8 ?a9 ?l9 ?c9 ?k9 ?a10 ?l10 ?c10 ?k10 ?a11 ?l11 ?c11 ?k11 ?a12 ?l12 ?c12 ?k12 ?a13 ?l13 ?c13 ?k13 ?a14 ?l14 ?c14 ?k14 ?a15 ?l15 ?c15 ?k15 ?a16 ?l16 ?c16 ?k16 ?a17 ?l17 ?c17 ?k17 ?a18 ?l18 ?c18 ?k18 ?a19 ?l19 ?c19 ?k19 ?a20 ?l20 ?c20 ?k20 ?a21 ?l21 ?c21 ?k21 ?a22 ?l22 ?c22 ?k22 ?a23 ?l23 ?c23 ?k23 ?a24 ?l24 ?c24 ?k24 ?a25 ?l25 ?c25 ?k25 ?a26 ?l26 ?c26 ?k26 ?a27 ?l27 ?c27 ?k27 ?a28 ?l28 ?c28 ?k28 ?a29 ?l29 ?c29 ?k29 ?a30 ?l30 ?c30 ?k30 ?a31 ?l31 ?c31 ?k31 ?a32 ?l32 ?c32 ?k32 ?a33 ?l33 ?c33 ?k33 ?a34 ?l34 ?c34 ?k34 ?a35 ?l35 ?c35 ?k35 ?a36 ?l36 ?c36 ?k36 ?a37 ?l37 ?c37 ?k37 ?a38 ?l38 ?c38 ?k38 ?a39 ?l39 ?c39 ?k39 ?z0 ?z1 ?z2 ?z3 ?z4 ?z5 ?z6 ?z7 ?z8 ?z9 ?z10 ?z11 ?z12 ?z13 ?z14 ?z15 ?oo ?ol ?om
  (case a0 => k_is); (case l0 => k_is); (case c0 => k_is); (case k0 => k_is)
  (case a1 => k_is); (case l1 => k_is); (case c1 => k_is); (case k1 => k_is)
  (case a2 => k_is); (case l2 => k_is); (case c2 => k_is); (case k2 => k_is)
  (case a3 => k_is); (case l3 => k_is); (case c3 => k_is); (case k3 => k_is)
  (case a4 => k_is); (case l4 => k_is); (case c4 => k_is); (case k4 => k_is)
  (case a5 => k_is); (case l5 => k_is); (case c5 => k_is); (case k5 => k_is)
  (case a6 => k_is); (case l6 => k_is); (case c6 => k_is); (case k6 => k_is)
  (case a7 => k_is); (case l7 => k_is); (case c7 => k_is); (case k7 => k_is)
  (case a8 => k_is); (case l8 => k_is); (case c8 => k_is); (case k8 => k_is)
  (case a9 => k_is); (case l9 => k_is); (case c9 => k_is); (case k9 => k_is)
  (case a10 => k_is); (case l10 => k_is); (case c10 => k_is); (case k10 => k_is)
  (case a11 => k_is); (case l11 => k_is); (case c11 => k_is); (case k11 => k_is)
  (case a12 => k_is); (case l12 => k_is); (case c12 => k_is); (case k12 => k_is)
  (case a13 => k_is); (case l13 => k_is); (case c13 => k_is); (case k13 => k_is)
  (case a14 => k_is); (case l14 => k_is); (case c14 => k_is); (case k14 => k_is)
  (case a15 => k_is); (case l15 => k_is); (case c15 => k_is); (case k15 => k_is)
  (case a16 => k_is); (case l16 => k_is); (case c16 => k_is); (case k16 => k_is)
  (case a17 => k_is); (case l17 => k_is); (case c17 => k_is); (case k17 => k_is)
  (case a18 => k_is); (case l18 => k_is); (case c18 => k_is); (case k18 => k_is)
  (case a19 => k_is); (case l19 => k_is); (case c19 => k_is); (case k19 => k_is)
  (case a20 => k_is); (case l20 => k_is); (case c20 => k_is); (case k20 => k_is)
  (case a21 => k_is); (case l21 => k_is); (case c21 => k_is); (case k21 => k_is)
  (case a22 => k_is); (case l22 => k_is); (case c22 => k_is); (case k22 => k_is)
  (case a23 => k_is); (case l23 => k_is); (case c23 => k_is); (case k23 => k_is)
  (case a24 => k_is); (case l24 => k_is); (case c24 => k_is); (case k24 => k_is)
  (case a25 => k_is); (case l25 => k_is); (case c25 => k_is); (case k25 => k_is)
  (case a26 => k_is); (case l26 => k_is); (case c26 => k_is); (case k26 => k_is)
  (case a27 => k_is); (case l27 => k_is); (case c27 => k_is); (case k27 => k_is)
  (case a28 => k_is); (case l28 => k_is); (case c28 => k_is); (case k28 => k_is)
  (case a29 => k_is); (case l29 => k_is); (case c29 => k_is); (case k29 => k_is)
  (case a30 => k_is); (case l30 => k_is); (case c30 => k_is); (case k30 => k_is)
  (case a31 => k_is); (case l31 => k_is); (case c31 => k_is); (case k31 => k_is)
  (case a32 => k_is); (case l32 => k_is); (case c32 => k_is); (case k32 => k_is)
  (case a33 => k_is); (case l33 => k_is); (case c33 => k_is); (case k33 => k_is)
  (case a34 => k_is); (case l34 => k_is); (case c34 => k_is); (case k34 => k_is)
  (case a35 => k_is); (case l35 => k_is); (case c35 => k_is); (case k35 => k_is)
  (case a36 => k_is); (case l36 => k_is); (case c36 => k_is); (case k36 => k_is)
  (case a37 => k_is); (case l37 => k_is); (case c37 => k_is); (case k37 => k_is)
  (case a38 => k_is); (case l38 => k_is); (case c38 => k_is); (case k38 => k_is)
  (case a39 => k_is); (case l39 => k_is); (case c39 => k_is); (case k39 => k_is)
  (case z0 => k_is); (case z1 => k_is); (case z2 => k_is); (case z3 => k_is)
  (case z4 => k_is); (case z5 => k_is); (case z6 => k_is); (case z7 => k_is)
  (case z8 => k_is); (case z9 => k_is); (case z10 => k_is); (case z11 => k_is)
  (case z12 => k_is); (case z13 => k_is); (case z14 => k_is); (case z15 => k_is)
  (case oo => k_is)
  (case ol => k_is)
  (case om => k_is)
