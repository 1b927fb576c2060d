import PyProof.Rows.All
import Wide.All
import OpenK.AllK
import Wide.FinOn
import Lean
import PyProof.EqAt
import PyProof.EqKinds
import PyProof.TupleCall
import KE.KIsAll
import PyProof.DictItems
import KE.KPairComp
import KE.KSortTup
import KE.IntBitsLaws
import KE.KRevIter
import PySem.Challenge.RW_manycounts_k37_whole_leaves
set_option Elab.async false
set_option linter.all false
set_option maxRecDepth 100000
set_option maxHeartbeats 4000000
namespace L2
open PySem PySem.Spec PyProof.Rows
abbrev Key := Sum Int Str
def zgk : Key -> Value -> Bool
 | .inl k, v => Value.isInt k v
 | .inr x, v => Value.isStrOf x v
def zEx (w : World) : Key -> Int
 | .inl k => hashInt k
 | .inr x => hashStr w x
theorem y8 : ∀ {k : Key} {v : Value}, zgk k v = true -> (∃ i t, k = Sum.inl i /\ v = Value.int i t) \/ (∃ x t, k = Sum.inr x /\ v = Value.str x t)
 | .inl i, v, h => by
  obtain ⟨t, e⟩ := Value.isInt_shape (k := i) (v := v) h
  exact .inl ⟨i, t, rfl, e⟩
 | .inr x, v, h => by
  obtain ⟨t, e⟩ := Value.isStrOf_shape (x := x) (v := v) h
  exact .inr ⟨x, t, rfl, e⟩
theorem znk (i : Int) (t : Tok) : zgk (.inl i) (.int i t) = true := by simp [zgk, Value.isInt]
theorem znj (x : Str) (t : Tok) : zgk (.inr x) (.str x t) = true := by simp [zgk, Value.isStrOf]
theorem zzc (a b : Int) : decide ((Sum.inl a : Key) = Sum.inl b) = (a == b) := by
 by_cases e : a = b
 ·subst e; simp
 ·have h : ¬ (Sum.inl a : Key) = Sum.inl b := fun q => e (Sum.inl.inj q)
  rw [decide_eq_false h]
  exact (beq_eq_false_iff_ne.mpr e).symm
theorem zyz (a b : Str) : decide ((Sum.inr a : Key) = Sum.inr b) = decide (a = b) := by
 by_cases e : a = b
 ·subst e; simp
 ·have h : ¬ (Sum.inr a : Key) = Sum.inr b := fun q => e (Sum.inr.inj q)
  rw [decide_eq_false h, decide_eq_false e]
theorem zzb (a : Int) (b : Str) : decide ((Sum.inl a : Key) = Sum.inr b) = false := decide_eq_false (fun q => nomatch q)
theorem zza (a : Str) (b : Int) : decide ((Sum.inr a : Key) = Sum.inl b) = false := decide_eq_false (fun q => nomatch q)
def y4 (prog : Program) (w : World) : PySem.KeyKind prog w Key where
 is := zgk
 hash := zEx w
 inj := fun v a b ha hb => by
  rcases y8 ha with ⟨i, t, rfl, rfl⟩ | ⟨x, t, rfl, rfl⟩
  ·rcases y8 hb with ⟨j, u, rfl, e⟩ | ⟨y, u, rfl, e⟩
   ·injection e with e1 _; rw [e1]
   ·exact nomatch e
  ·rcases y8 hb with ⟨j, u, rfl, e⟩ | ⟨y, u, rfl, e⟩
   ·exact nomatch e
   ·injection e with e1 _; rw [e1]
 byValue := fun k v h => by
  rcases y8 h with ⟨i, t, rfl, rfl⟩ | ⟨x, t, rfl, rfl⟩ <;> rfl
 pyHash := fun hv h => by
  rcases y8 hv with ⟨i, t, rfl, rfl⟩ | ⟨x, t, rfl, rfl⟩
  ·exact wpAny_pyHash_int h
  ·exact wpAny_pyHash_str h
 eqBool := fun hu hv h => by
  rcases y8 hu with ⟨i, t, rfl, rfl⟩ | ⟨x, t, rfl, rfl⟩
  ·rcases y8 hv with ⟨j, u, rfl, rfl⟩ | ⟨y, u, rfl, rfl⟩
   ·rw [zzc] at h; exact wpAny_eqBool_int h
   ·rw [zzb] at h; exact SeqAt.EqAt.int_str i t y u _ _ _ _ h
  ·rcases y8 hv with ⟨j, u, rfl, rfl⟩ | ⟨y, u, rfl, rfl⟩
   ·rw [zza] at h; exact SeqAt.EqAt.str_int x t j u _ _ _ _ h
   ·rw [zyz] at h; exact wpAny_eqBool_str h
 «strs» := fun k x t v h => by
  rcases y8 h with ⟨i, u, rfl, e⟩ | ⟨y, u, rfl, e⟩
  ·exact nomatch e
  ·injection e with e1 _
   subst e1
   cases v <;> rfl
theorem zgu (prog : Program) (w : World) (i : Int) (t : Tok) : (y4 prog w).is (.inl i) (.int i t) = true := znk i t
theorem zgt (prog : Program) (w : World) (x : Str) (t : Tok) : (y4 prog w).is (.inr x) (.str x t) = true := znj x t
inductive V where
 | non | bl (b : Bool) | int (i : Int) | str (x : Str) | byt (b : Array UInt8) | flt (b : UInt64) | ref (a : Addr) | ty (n : String)
 deriving DecidableEq
def RelV : V -> Value -> Prop
 | .non, u => u = Value.none
 | .bl b, u => u = Value.bool b
 | .int i, u => ∃ t, u = Value.int i t
 | .str x, u => ∃ t, u = Value.str x t
 | .byt b, u => ∃ t, u = Value.bytes b t
 | .flt b, u => ∃ t, u = Value.float b t
 | .ref a, u => u = Value.ref a
 | .ty n, u => u = Value.type n
abbrev Vals : List V -> List Value -> Prop := Paired RelV
theorem Vals.length {xs : List V} {us : List Value} (r : Vals xs us) : xs.length = us.length := Paired.length r
theorem Vals.get : ∀ {xs : List V} {us : List Value} {i : Nat} {x : V}, Vals xs us -> xs[i]? = some x -> ∃ u, us[i]? = some u /\ RelV x u
 | _, _, _, _, .nil, e => by simp at e
 | _, _, 0, _, .cons r _, e => by simp at e; subst e; exact ⟨_, rfl, r⟩
 | _, _, i + 1, x, .cons _ t, e => by
  obtain ⟨u, h1, h2⟩ := Vals.get (i := i) (x := x) t (by simpa using e)
  exact ⟨u, by simpa using h1, h2⟩
theorem Vals.append : ∀ {xs ys : List V} {us ws : List Value}, Vals xs us -> Vals ys ws -> Vals (xs ++ ys) (us ++ ws)
 | _, _, _, _, .nil, s => s
 | _, _, _, _, .cons r t, s => .cons r (Vals.append t s)
theorem Vals.take : ∀ {xs : List V} {us : List Value} (n : Nat), Vals xs us -> Vals (xs.take n) (us.take n)
 | _, _, 0, _ => .nil
 | _, _, _ + 1, .nil => .nil
 | _, _, n + 1, .cons r t => .cons r (Vals.take n t)
theorem Vals.drop : ∀ {xs : List V} {us : List Value} (n : Nat), Vals xs us -> Vals (xs.drop n) (us.drop n)
 | _, _, 0, r => r
 | _, _, _ + 1, .nil => .nil
 | _, _, n + 1, .cons _ t => Vals.drop n t
def RelO : Option V -> Option Value -> Prop
 | some v, some u => RelV v u
 | none, none => True
 | _, _ => False
def KV {κ : Type} : List (κ × V) -> List (κ × Value) -> Prop := Paired fun (p : κ × V) (q : κ × Value) => p.1 = q.1 /\ RelV p.2 q.2
def kV : Key -> V
 | .inl i => .int i
 | .inr x => .str x
inductive HO where
  | lst (xs : List V)
  | tup (xs : List V)
  | dK (kvs : List (Key × V)) | dT (kvs : List (List Key × V))
  | set (S : Int -> Bool) (n : Nat)
  | ins (C dx : Addr) (fs : List (Str × V))
  | own (x : Addr)
  | xd (fs : List (Str × V))
  | met (f x : Addr)
  | rng (lo hi : Int)
  | frz (o : Obj) (u : HO)
  | tbl (ps : Array Value)
  | ext (φ : Heap -> Prop)
abbrev Hp := Addr -> Option HO
def upd (H : Hp) (a : Addr) (o : HO) : Hp := fun b => if b = a then some o else H b
theorem zC {H : Hp} {a : Addr} {o : HO} : upd H a o a = some o := by unfold upd; rw [if_pos rfl]
theorem zW {H : Hp} {a b : Addr} {o : HO} (h : b ≠ a) : upd H a o b = H b := by unfold upd; rw [if_neg h]
theorem zav {H : Hp} {a : Addr} {o u : HO} : upd (upd H a o) a u = upd H a u := by
 funext b; unfold upd; split <;> rfl
theorem zok {H : Hp} {a b : Addr} {o u : HO} (h : H a = some o) (h' : H b = some u) (d : o ≠ u) : a ≠ b := by
 intro e; subst e; rw [h] at h'; exact d (Option.some.inj h')
theorem zV {H : Hp} {a b : Addr} {o : HO} (h : H a = some o) (h' : H b = none) : a ≠ b := by
 intro e; subst e; rw [h] at h'; cases h'
section
variable (P : Program) (w : World)
def ObjOk (H : Hp) (h : Heap) (a : Addr) : HO -> Prop
 | .lst xs => xs.length <= sizeLine /\ ∃ (its : List Value) (n : Nat), Vals xs its /\ h.get? a = some { cls := .type "list", data := .seq its.toArray n }
 | .tup xs => xs.length <= sizeLine /\ ∃ its : List Value, Vals xs its /\ IsTup h a its.toArray
 | .dK kvs => kvs.length <= sizeLine /\ (a == sysModules) = false /\ ∃ vs, KV kvs vs /\ h.DictOf (y4 P w) a vs
 | .dT kvs => kvs.length <= sizeLine /\ (a == sysModules) = false /\ ∃ xs : List (List Key × Addr × Value),
   Paired (fun (p : List Key × V) (q : List Key × Addr × Value) => p.1 = q.1 /\ H q.2.1 = some (.tup (p.1.map kV)) /\ RelV p.2 q.2.2) kvs xs /\
   ∃ o es ep, h.get? a = some o /\ o.ExactDict /\ o.data = .dict es ep /\ es.toList = xs.map (entryOfKey (tupleKind (y4 P w))) /\ (xs.map (·.1)).Nodup
 | .set S n => h.SetOf (intKind P w) a S n
 | .ins C dx fs => H dx = some (.own a) /\ fs.length <= 1000 /\ dx ≠ a /\ h.get? a = some (PySem.W.instObj C dx) /\
   ∃ mA, h.Ns1 dx mA /\ (∀ f, RelO (fs.lookup f) (mA f)) /\ PySem.Within mA (fs.map (·.1))
 | .own _ => ∃ o, h.get? a = some o
 | .xd fs => ∃ mA, h.Ns1 a mA /\ ∀ f, RelO (fs.lookup f) (mA f)
 | .rng lo hi => ∃ t u v, h.get? a = some { cls := .type "range", data := .fields #[.int lo t, .int hi u, .int 1 v] }
 | .frz o u => h.get? a = some o /\ ObjOk H h a u
 | .tbl ps => h.get? a = some { cls := .none, data := .fields ps }
 | .met f x => h.get? a = some (PySem.W.methodObj (.ref f) (.ref x))
 | .ext φ => φ h /\ (∃ o, h.get? a = some o) /\ ∀ h1 h2 : Heap, φ h1 -> (∀ o, h1.get? a = some o -> h2.get? a = some o) -> φ h2
def HOk (H : Hp) (h : Heap) : Prop := ∀ a o, H a = some o -> ObjOk P w H h a o
end
section
variable {P : Program} {w : World} {H H' : Hp} {h h' : Heap} {a : Addr} {o : HO}
theorem ObjOk.lt (x : ObjOk P w H h a o) : a < h.objs.size := by
 cases o with
 | lst xs => obtain ⟨_, _, _, _, e⟩ := x; exact Heap.lt_size e
 | tup xs => obtain ⟨_, _, _, p⟩ := x; exact p.lt
 | dK kvs => obtain ⟨_, _, _, _, o, _, _, e, _⟩ := x; exact Heap.lt_size e
 | dT kvs => obtain ⟨_, _, _, _, o, _, _, e, _⟩ := x; exact Heap.lt_size e
 | set S n => obtain ⟨o, _, _, _, e, _⟩ := x; exact Heap.lt_size e
 | ins C dx fs => obtain ⟨_, _, _, e, _⟩ := x; exact Heap.lt_size e
 | own y => obtain ⟨_, e⟩ := x; exact Heap.lt_size e
 | xd fs => obtain ⟨_, ⟨_, _, _, e, _⟩, _⟩ := x; exact Heap.lt_size e
 | rng lo hi => obtain ⟨_, _, _, e⟩ := x; exact Heap.lt_size e
 | frz ob u => obtain ⟨e, _⟩ := x; exact Heap.lt_size e
 | tbl ps => exact Heap.lt_size (show h.get? a = some _ from x)
 | met f y => exact Heap.lt_size (show h.get? a = some _ from x)
 | ext φ => obtain ⟨_, ⟨_, e⟩, _⟩ := x; exact Heap.lt_size e
theorem Paired.mapP {α β : Type} {F G : α -> β -> Prop} : ∀ {l₁ : List α} {l₂ : List β}, Paired F l₁ l₂ -> (∀ a b, F a b -> G a b) -> Paired G l₁ l₂
 | _, _, .nil, _ => .nil
 | _, _, .cons r t, f => .cons (f _ _ r) (Paired.mapP t f)
theorem ObjOk.stay (x : ObjOk P w H h a o) (k : ∀ b u, (b = a \/ H b = some (.own a)) -> h.get? b = some u -> h'.get? b = some u)
  (ho : ∀ b, H b = some (.own a) -> H' b = some (.own a)) (ht : ∀ b xs, H b = some (.tup xs) -> H' b = some (.tup xs)) : ObjOk P w H' h' a o := by
 induction o with
 | lst xs => obtain ⟨z, its, n, r, e⟩ := x; exact ⟨z, its, n, r, k _ _ (.inl rfl) e⟩
 | tup xs => obtain ⟨z, its, r, ob, e, c⟩ := x; exact ⟨z, its, r, ob, k _ _ (.inl rfl) e, c⟩
 | dK kvs => obtain ⟨z, y, vs, r, ob, es, ep, e, c⟩ := x; exact ⟨z, y, vs, r, ob, es, ep, k _ _ (.inl rfl) e, c⟩
 | dT kvs =>
  obtain ⟨z, y, xs, r, ob, es, ep, e, c⟩ := x
  exact ⟨z, y, xs, Paired.mapP r fun p q z => ⟨z.1, ht _ _ z.2.1, z.2.2⟩, ob, es, ep, k _ _ (.inl rfl) e, c⟩
 | set S n => obtain ⟨ob, es, ep, t, e, c⟩ := x; exact ⟨ob, es, ep, t, k _ _ (.inl rfl) e, c⟩
 | ins C dx fs =>
  obtain ⟨d, z, ne, e, mA, ⟨od, es, ep, e2, c⟩, r⟩ := x
  exact ⟨ho _ d, z, ne, k _ _ (.inl rfl) e, mA, ⟨od, es, ep, k _ _ (.inr d) e2, c⟩, r⟩
 | own y => obtain ⟨ob, e⟩ := x; exact ⟨ob, k _ _ (.inl rfl) e⟩
 | xd fs => obtain ⟨mA, ⟨od, es, ep, e, c⟩, r⟩ := x; exact ⟨mA, ⟨od, es, ep, k _ _ (.inl rfl) e, c⟩, r⟩
 | rng lo hi => obtain ⟨t, u, v, e⟩ := x; exact ⟨t, u, v, k _ _ (.inl rfl) e⟩
 | frz ob u ih => obtain ⟨e, q⟩ := x; exact ⟨k _ _ (.inl rfl) e, ih q⟩
 | tbl ps =>
  have e : h.get? a = some { cls := .none, data := .fields ps } := x
  show h'.get? a = some { cls := .none, data := .fields ps }
  exact k a _ (.inl rfl) e
 | met f y =>
  have e : h.get? a = some (PySem.W.methodObj (.ref f) (.ref y)) := x
  show h'.get? a = some (PySem.W.methodObj (.ref f) (.ref y))
  exact k a _ (.inl rfl) e
 | ext φ => obtain ⟨p, ⟨o, e⟩, st⟩ := x; exact ⟨st _ _ p fun o q => k _ _ (.inl rfl) q, ⟨o, k _ _ (.inl rfl) e⟩, st⟩
theorem HOk.lt (x : HOk P w H h) (e : H a = some o) : a < h.objs.size := (x a o e).lt
theorem HOk.fresh (x : HOk P w H h) (e : h.objs.size <= a) : H a = none := by
 cases q : H a with
 | none => rfl
 | some u => exact absurd (Nat.lt_of_lt_of_le (x.lt q) e) (Nat.lt_irrefl _)
theorem HOk.kept (x : HOk P w H h) (k : ∀ b u, h.get? b = some u -> h'.get? b = some u) : HOk P w H h' := fun a o e =>
 (x a o e).stay (fun b u _ q => k b u q) (fun _ q => q) fun _ _ q => q
theorem HOk.laid (x : HOk P w H h) (k : ∀ b u, h.get? b = some u -> h'.get? b = some u) (hp : h.objs.size <= a) (new : ObjOk P w (upd H a o) h' a o) : HOk P w (upd H a o) h' := fun b u e => by
 have hn := x.fresh hp
 by_cases hb : b = a
 ·subst hb; rw [zC] at e; cases e; exact new
 ·rw [zW hb] at e
  exact (x b u e).stay (fun c v _ q => k c v q) (fun c q => by rw [zW (zV q hn)]; exact q) fun c xs q => by rw [zW (zV q hn)]; exact q
end
def Rd (H : Hp) (a : Addr) (u : HO) : Prop := H a = some u \/ ∃ o, H a = some (.frz o u)
theorem Rd.ok {P : Program} {w : World} {H : Hp} {h : Heap} {a : Addr} {u : HO} (r : Rd H a u) (x : HOk P w H h) : ObjOk P w H h a u := by
 rcases r with r | ⟨o, r⟩
 ·exact x a u r
 ·obtain ⟨_, q⟩ := x a _ r
  exact q
def Mut : Option HO -> Prop
 | some (.lst _) => True
 | some (.dK _) => True
 | some (.dT _) => True
 | some (.set _ _) => True
 | some (.ins _ _ _) => True
 | some (.ext _) => True
 | _ => False
section
variable {P : Program} {w : World} {H : Hp} {h h' : Heap} {x e : Addr} {o' : HO}
theorem HOk.write (ok : HOk P w H h) (mu : Mut (H x)) (he : e = x \/ H e = some (.own x)) (k : ∀ b u, b ≠ e -> h.get? b = some u -> h'.get? b = some u) (heo : ∃ u, h'.get? e = some u)
  (new : ObjOk P w (upd H x o') h' x o') : HOk P w (upd H x o') h' := fun b u q => by
 have nown : ∀ c y, H c = some (.own y) -> c ≠ x := fun c y r z => by subst z; rw [r] at mu; exact mu
 have ntup : ∀ c xs, H c = some (.tup xs) -> c ≠ x := fun c xs r z => by subst z; rw [r] at mu; exact mu
 by_cases hb : b = x
 ·subst hb; rw [zC] at q; cases q; exact new
 ·rw [zW hb] at q
  by_cases hbe : b = e
  ·have q' : H b = some (.own x) := by
    rcases he with z | z
    ·exact absurd (hbe.trans z) hb
    ·rw [hbe]; exact z
   rw [q] at q'; cases q'
   obtain ⟨v, hv⟩ := heo
   exact ⟨v, by rw [hbe]; exact hv⟩
  ·refine (ok b u q).stay (fun c v hc r => k c v ?_ r) (fun c r => by rw [zW (nown c b r)]; exact r) fun c xs r => by rw [zW (ntup c xs r)]; exact r
   rcases hc with rfl | hc
   ·exact hbe
   ·rintro rfl
    rcases he with z | z
    ·exact nown c b hc z
    ·rw [hc] at z; cases z; exact hb rfl
end
structure Un (fs ex : List Addr) (H H' : Hp) (h h' : Heap) : Prop where
 keep : ∀ b o, h.get? b = some o -> H b = none -> b ∉ fs -> b ∉ ex -> h'.get? b = some o
 slot : ∀ b o, h.get? b = some o -> H b = none -> b ∈ fs -> b ∉ ex -> ∃ sl, h'.get? b = some { o with slots := sl }
 free : ∀ b o, h.get? b = some o -> H b = none -> b ∉ ex -> H' b = none
 there : ∀ b o, h.get? b = some o -> b ∉ ex -> ∃ o', h'.get? b = some o'
 tups : ∀ b xs, H b = some (.tup xs) -> H' b = some (.tup xs)
 frzs : ∀ b o u, H b = some (.frz o u) -> H' b = some (.frz o u)
 tbls : ∀ b ps, H b = some (.tbl ps) -> ∃ zor, H' b = some (.tbl (ps ++ zor))
section
variable {fs fs' ex ex' : List Addr} {H H1 H2 : Hp} {h h1 h2 h' : Heap} {a x e : Addr} {o : HO}
theorem Un.any (u : Un fs ex H H1 h h1) {b : Addr} {ob : Obj} (q : h.get? b = some ob) (n : H b = none) (hx : b ∉ ex) : ∃ sl, h1.get? b = some { ob with slots := sl } := by
 by_cases hb : b ∈ fs
 ·exact u.slot b ob q n hb hx
 ·exact ⟨ob.slots, u.keep b ob q n hb hx⟩
theorem Un.kept (k : ∀ b u, h.get? b = some u -> h'.get? b = some u) : Un fs ex H H h h' :=
 ⟨fun b ob q _ _ _ => k b ob q, fun b ob q _ _ _ => ⟨ob.slots, k b ob q⟩, fun _ _ _ n _ => n, fun b ob q _ => ⟨ob, k b ob q⟩, fun _ _ q => q, fun _ _ _ q => q, fun _ ps q => ⟨#[], by rw [q]; simp⟩⟩
theorem Un.refl : Un fs ex H H h h := Un.kept fun _ _ q => q
theorem Un.laid (k : ∀ b u, h.get? b = some u -> h'.get? b = some u) (hp : h.objs.size <= a) (hn : H a = none) : Un fs ex H (upd H a o) h h' where
 keep := fun b u q _ _ _ => k b u q
 slot := fun b u q _ _ _ => ⟨u.slots, k b u q⟩
 free := fun b u q n _ => by rw [zW (Nat.ne_of_lt (Nat.lt_of_lt_of_le (Heap.lt_size q) hp))]; exact n
 there := fun b u q _ => ⟨u, k b u q⟩
 tups := fun b xs q => by rw [zW (zV q hn)]; exact q
 frzs := fun b u xs q => by rw [zW (zV q hn)]; exact q
 tbls := fun b ps q => ⟨#[], by rw [zW (zV q hn), q]; simp⟩
theorem Un.write (mu : Mut (H x)) (he : e = x \/ H e = some (.own x)) (k : ∀ b u, b ≠ e -> h.get? b = some u -> h'.get? b = some u) (heo : ∃ u, h'.get? e = some u) : Un fs ex H (upd H x o) h h' := by
 have hx : ∀ b, H b = none -> b ≠ x := fun b n z => by subst z; rw [n] at mu; exact mu
 have hb : ∀ b, H b = none -> b ≠ e := fun b n z => by
  subst z
  rcases he with r | r
  ·exact hx b n r
  ·rw [n] at r; cases r
 have hm : ∀ b u, H b = some u -> ¬ Mut (some u) -> b ≠ x := fun b u q nm z => by subst z; rw [q] at mu; exact nm mu
 refine ⟨fun b u q n _ _ => k b u (hb b n) q, fun b u q n _ _ => ⟨u.slots, k b u (hb b n) q⟩, fun b u q n _ => by rw [zW (hx b n)]; exact n, fun b u q _ => ?_,
  fun b xs q => by rw [zW (hm b _ q fun z => z)]; exact q, fun b u xs q => by rw [zW (hm b _ q fun z => z)]; exact q, fun b ps q => ⟨#[], by rw [zW (hm b _ q fun z => z), q]; simp⟩⟩
 by_cases hbe : b = e
 ·subst hbe; exact heo
 ·exact ⟨u, k b u hbe q⟩
end
def trk (h : Heap) (H : Hp) : List Addr := (List.range h.objs.size).filter fun a => (H a).isSome
def zje (h : Heap) (H : Hp) : Heap := PySem.W.hideAll h (trk h H)
theorem znq (h : Heap) (H : Hp) : (zje h H).objs.size = h.objs.size := PySem.W.hideAll_size _ _
theorem zql {h : Heap} {H : Hp} {b : Addr} {o : Obj} (e : h.get? b = some o) (n : H b = none) : (zje h H).get? b = some o :=
 PySem.W.hideAll_get _ e fun hm => by
  have q : (H b).isSome = true := (List.mem_filter.mp hm).2
  rw [n] at q; simp at q
theorem ztx {h : Heap} {H : Hp} {b : Addr} {o : Obj} (e : (zje h H).get? b = some o) : h.get? b = some o /\ H b = none := by
 have e' : h.get? b = some o := PySem.W.of_hideAll (trk h H) e
 refine ⟨e', ?_⟩
 cases q : H b with
 | none => rfl
 | some x =>
  have hm : b ∈ trk h H := List.mem_filter.mpr ⟨List.mem_range.mpr (Heap.lt_size e'), by simp [q]⟩
  have z : (zje h H).get? b = none := PySem.W.hideAll_none (trk h H) hm
  rw [z] at e; cases e
def zvq (g h : Heap) (L : Addr) : List (Addr × Obj) := (List.range h.objs.size).filterMap fun a => if a = L \/ (g.get? a).isSome = true then none else (h.get? a).map fun o => (a, o)
def rest (g h : Heap) (L d : Addr) : List (Addr × Obj) := (zvq g h L).filter fun p => decide (p.1 ≠ d)
structure Mod (K : PySem.W.Frag) (mg : Str -> Option Value) (base : Heap) : Prop where
 kin : K.In base
 glob : base.Ns mainGlobals mg
 blt : ∃ mb, base.Ns builtinsNs mb /\ ∀ x : Str, x ≠ "__name__" -> mb x = bootBuiltins x
 nolimit : base.NoLimit
structure Cx where
 prog : Program
 w : World
 K : PySem.W.Frag
 mg : Str -> Option Value
 base : Heap
 A : Around
 N : List Str
 s₀ : Shared
 H₀ : Hp
 env : Env
 outer : List Env
 stack : List Env
 ex : List Addr
 fn : Str -> Bool
 calm : Bool
 pn : List (Addr × Obj)
 xe : Value -> Shared -> Prop
def frs (l : List Env) : List Addr := l.filterMap (·.frame)
abbrev Cx.fs (X : Cx) : List Addr := frs X.outer
def Vis (sc : Scope) (x : Str) : Prop := sc.names.lookup x = some .local \/ sc.names.lookup x = some .cell \/ sc.names.lookup x = some .free
def Loc (sc : Scope) (x : Str) : Prop := sc.names.lookup x = some .local \/ sc.names.lookup x = some .cell
def zFf (env : Env) (h : Heap) (m : Str -> Option Value) (x : Str) (u : Value) : Prop :=
 (env.kindOf x = some .local /\ m x = some u) \/ ((env.kindOf x = some .cell \/ env.kindOf x = some .free) /\ ∃ c, env.cells.lookup x = some c /\ h.IsCell c (some u))
structure Cx.Ok (X : Cx) : Prop where
 mod : Mod X.K X.mg X.base
 kind : X.env.scope.kind = .function
 glob : X.env.globals = mainGlobals
 blt : X.env.builtins = builtinsNs
 above : X.s₀.heap.objs.size <= X.env.locals
 inj : ∀ x y c, X.env.cells.lookup x = some c -> X.env.cells.lookup y = some c -> x = y
 has : ∀ x, (X.env.kindOf x = some .cell \/ X.env.kindOf x = some .free) -> ∃ c, X.env.cells.lookup x = some c
 cab : ∀ x c, X.fn x = true -> X.env.cells.lookup x = some c -> X.s₀.heap.objs.size <= c
 hd : X.calm = true -> X.A.handled = none
 frames : X.A.frames = some X.stack
 stk : X.stack = X.outer \/ (X.stack = X.env :: X.outer /\ X.env.frame = some X.env.locals)
 exf : ∀ b ∈ X.ex, b ≠ X.env.locals /\ ∀ x c, X.env.cells.lookup x = some c -> c ≠ b
 bs : ∀ b o, X.base.get? b = some o -> X.s₀.heap.get? b = some o /\ X.H₀ b = none
 bsz : X.base.objs.size <= X.s₀.heap.objs.size
 noex : ∀ b o, X.base.get? b = some o -> b ∉ X.ex
 exfs : ∀ b ∈ X.ex, b ∉ X.fs
 funs : X.s₀.heap.FunFrames X.base X.outer
 frf : ∀ b ∈ X.fs, X.H₀ b = none
structure Inv (X : Cx) (pins : List (Addr × Obj)) (σ : List (Option V)) (H : Hp) (s : Shared) : Prop where
 ok : X.Ok
 os : s.os = X.s₀.os
 bare : AllBare s.gens
 base : Un X.fs X.ex X.H₀ H X.s₀.heap s.heap
 loc : ∃ m, s.heap.Ns X.env.locals m /\ ∀ (i : Nat) (x : Str) (v : V), X.N[i]? = some x -> σ[i]? = some (some v) -> Vis X.env.scope x -> ∃ u, RelV v u /\ zFf X.env s.heap m x u
 cell : ∀ x c, X.env.cells.lookup x = some c -> ∃ v, s.heap.IsCell c v
 free : H X.env.locals = none
 freeC : ∀ x c, X.env.cells.lookup x = some c -> H c = none
 pin : ∀ p ∈ X.pn ++ pins, s.heap.get? p.1 = some p.2 /\ H p.1 = none /\ p.1 ≠ X.env.locals /\ p.1 ∉ X.fs /\ ∀ v, p.2.data ≠ .cell v
 hok : HOk X.prog X.w H s.heap
 len : σ.length = X.N.length
section
variable {X : Cx} {pins : List (Addr × Obj)} {σ : List (Option V)} {H H' : Hp} {s : Shared} {h' : Heap}
theorem Cx.Ok.nofr (ok : X.Ok) {b : Addr} {o : Obj} (e : X.base.get? b = some o) : b ∉ X.fs := fun hb => by
 have := (ok.funs.mem hb).1
 rw [e] at this; cases this
theorem Inv.bs (I : Inv X pins σ H s) : ∀ b o, X.base.get? b = some o -> s.heap.get? b = some o /\ H b = none := fun b o e =>
 ⟨I.base.keep b o (I.ok.bs b o e).1 (I.ok.bs b o e).2 (I.ok.nofr e) (I.ok.noex b o e), I.base.free b o (I.ok.bs b o e).1 (I.ok.bs b o e).2 (I.ok.noex b o e)⟩
theorem Inv.bk (I : Inv X pins σ H s) : ∀ b o, X.base.get? b = some o -> s.heap.get? b = some o := fun b o e => (I.bs b o e).1
theorem Inv.mod (I : Inv X pins σ H s) : Mod X.K X.mg X.base := I.ok.mod
theorem Inv.kIn (I : Inv X pins σ H s) : X.K.In s.heap := I.ok.mod.kin.keeps I.bk
theorem Inv.lt (I : Inv X pins σ H s) : X.env.locals < s.heap.objs.size := let ⟨_, hn, _⟩ := I.loc; hn.lt
theorem Inv.sz (I : Inv X pins σ H s) : X.s₀.heap.objs.size <= s.heap.objs.size := Nat.le_trans I.ok.above (Nat.le_of_lt I.lt)
theorem Inv.nofs (I : Inv X pins σ H s) {a : Addr} (h : s.heap.objs.size <= a) : a ∉ X.fs := fun hb => by
 obtain ⟨_, o, ho, _⟩ := I.ok.funs.mem hb
 exact absurd (Nat.lt_of_lt_of_le (Heap.lt_size ho) (Nat.le_trans I.sz h)) (Nat.lt_irrefl _)
theorem Inv.cne (I : Inv X pins σ H s) : ∀ x c, X.env.cells.lookup x = some c -> c ≠ X.env.locals := fun x c e z => by
 obtain ⟨v, o, ho, hd⟩ := I.cell x c e
 obtain ⟨m, ⟨o', es, ep, ho', hd', _⟩, _⟩ := I.loc
 rw [z, ho'] at ho; cases ho; rw [hd'] at hd; cases hd
theorem Inv.funs (I : Inv X pins σ H s) : s.heap.FunFrames X.base X.outer := by
 have all : ∀ (l : List Env), (∀ b ∈ frs l, b ∈ X.fs) -> X.s₀.heap.FunFrames X.base l -> s.heap.FunFrames X.base l := by
  intro l
  induction l with
  | nil => intro _ _; trivial
  | cons env r ih =>
   intro hs hl
   obtain ⟨hk, ⟨L, o, hf, hn, ho, hd⟩, hr⟩ := hl
   have hL : L ∈ X.fs := hs L (by unfold frs; rw [List.filterMap_cons, hf]; exact List.mem_cons_self)
   obtain ⟨sl, e⟩ := I.base.slot L o ho (I.ok.frf L hL) hL fun z => I.ok.exfs L z hL
   exact ⟨hk, ⟨L, _, hf, hn, e, hd⟩, ih (fun b hb => hs b (by unfold frs; rw [List.filterMap_cons, hf]; exact List.mem_cons_of_mem _ hb)) hr⟩
 exact all X.outer (fun _ hb => hb) I.ok.funs
theorem Inv.stack (I : Inv X pins σ H s) : s.heap.FunFrames X.base X.stack := by
 rcases I.ok.stk with e | ⟨e, hf⟩
 ·rw [e]; exact I.funs
 ·rw [e]
  obtain ⟨m, hn, _⟩ := I.loc
  refine .cons (by rw [I.ok.kind]; decide) hf hn ?_ I.funs
  exact Heap.get?_none_of_le (Nat.le_trans I.ok.bsz I.ok.above)
theorem Inv.stkSub (I : Inv X pins σ H s) : ∀ b ∈ frs X.stack, b ∈ X.env.locals :: X.fs := fun b hb => by
 rcases I.ok.stk with e | ⟨e, hf⟩
 ·rw [e] at hb; exact List.mem_cons_of_mem _ hb
 ·rw [e] at hb
  unfold frs at hb
  rw [List.filterMap_cons, hf] at hb
  exact hb
theorem Inv.stkFree (I : Inv X pins σ H s) : ∀ b ∈ frs X.stack, H b = none := fun b hb => by
 rcases List.mem_cons.mp (I.stkSub b hb) with e | hb
 ·rw [e]; exact I.free
 ·obtain ⟨_, o, ho, _⟩ := I.ok.funs.mem hb
  exact I.base.free b o ho (I.ok.frf b hb) fun z => I.ok.exfs b z hb
theorem Inv.step {g' : Array GenState} {t' : Nat} {d' : Drawn} {ch : List Addr} (I : Inv X pins σ H s)
  (hch : ∀ b ∈ ch, (b ∈ X.ex \/ X.s₀.heap.objs.size <= b) /\ b ≠ X.env.locals /\ (∀ x c, X.env.cells.lookup x = some c -> c ≠ b) /\ ∀ p ∈ X.pn ++ pins, p.1 ≠ b)
  (keep : ∀ b o, b ≠ X.env.locals -> b ∉ X.fs -> b ∉ ch -> s.heap.get? b = some o -> H b = none -> h'.get? b = some o)
  (slot : ∀ b o, b ≠ X.env.locals -> b ∈ X.fs -> b ∉ ch -> s.heap.get? b = some o -> H b = none -> ∃ sl, h'.get? b = some { o with slots := sl }) (free : ∀ b o, b ∉ ch -> s.heap.get? b = some o -> H b = none -> H' b = none)
  (there : ∀ b o, b ∉ ch -> s.heap.get? b = some o -> ∃ o', h'.get? b = some o')
  (tups : ∀ b xs, H b = some (.tup xs) -> H' b = some (.tup xs)) (frzs : ∀ b o u, H b = some (.frz o u) -> H' b = some (.frz o u)) (tbls : ∀ b ps, H b = some (.tbl ps) -> ∃ zor, H' b = some (.tbl (ps ++ zor)))
  (ns : ∀ m, s.heap.Ns X.env.locals m -> h'.Ns X.env.locals m) (hok : HOk X.prog X.w H' h') (hg : AllBare g') :
  Inv X pins σ H' { s with heap := h', gens := g', drawn := d', toks := t' } := by
 have neL : ∀ b o, X.s₀.heap.get? b = some o -> b ≠ X.env.locals := fun b o e => Nat.ne_of_lt (Nat.lt_of_lt_of_le (Heap.lt_size e) I.ok.above)
 have neC : ∀ b o, X.s₀.heap.get? b = some o -> b ∉ X.ex -> b ∉ ch := fun b o e hx hb => by
  rcases (hch b hb).1 with z | z
  ·exact hx z
  ·exact absurd (Nat.lt_of_lt_of_le (Heap.lt_size e) z) (Nat.lt_irrefl _)
 have cellK : ∀ x c, X.env.cells.lookup x = some c -> ∀ v, s.heap.IsCell c v -> h'.IsCell c v := fun x c e v ⟨o, ho, hd⟩ => by
  have nch : c ∉ ch := fun z => (hch c z).2.2.1 x c e rfl
  by_cases hc : c ∈ X.fs
  ·obtain ⟨sl, q⟩ := slot c o (I.cne x c e) hc nch ho (I.freeC x c e)
   exact ⟨_, q, hd⟩
  ·exact ⟨o, keep c o (I.cne x c e) hc nch ho (I.freeC x c e), hd⟩
 refine ⟨I.ok, I.os, hg, ⟨fun b o e n hb hx => ?_, fun b o e n hb hx => ?_, fun b o e n hx => ?_, fun b o e hx => ?_, fun b xs e => tups b xs (I.base.tups b xs e), fun b o xs e => frzs b o xs (I.base.frzs b o xs e), fun b ps e => ?_⟩, ?_, fun x c e => ?_, ?_, fun x c e => ?_, fun p hp => ?_, hok, I.len⟩
 ·exact keep b o (neL b o e) hb (neC b o e hx) (I.base.keep b o e n hb hx) (I.base.free b o e n hx)
 ·obtain ⟨sl, e1⟩ := I.base.slot b o e n hb hx
  obtain ⟨sl', e2⟩ := slot b _ (neL b o e) hb (neC b o e hx) e1 (I.base.free b o e n hx)
  exact ⟨sl', e2⟩
 ·obtain ⟨o', e1⟩ := I.base.there b o e hx
  exact free b o' (neC b o e hx) e1 (I.base.free b o e n hx)
 ·obtain ⟨o', e1⟩ := I.base.there b o e hx
  exact there b o' (neC b o e hx) e1
 ·obtain ⟨m1, e1⟩ := I.base.tbls b ps e
  obtain ⟨m2, e2⟩ := tbls b _ e1
  exact ⟨m1 ++ m2, by rw [e2, Array.append_assoc]⟩
 ·obtain ⟨m, hn, hl⟩ := I.loc
  refine ⟨m, ns m hn, fun i x v e1 e2 e3 => ?_⟩
  obtain ⟨u, r, l⟩ := hl i x v e1 e2 e3
  refine ⟨u, r, ?_⟩
  rcases l with l | ⟨k, c, e, z⟩
  ·exact .inl l
  ·exact .inr ⟨k, c, e, cellK x c e _ z⟩
 ·obtain ⟨v, z⟩ := I.cell x c e
  exact ⟨v, cellK x c e v z⟩
 ·obtain ⟨m, ⟨o, _, _, ho, _⟩, _⟩ := I.loc
  exact free _ o (fun z => (hch _ z).2.1 rfl) ho I.free
 ·obtain ⟨v, o, ho, hd⟩ := I.cell x c e
  exact free c o (fun z => (hch c z).2.2.1 x c e rfl) ho (I.freeC x c e)
 ·obtain ⟨e, n, ne, nf, d⟩ := I.pin p hp
  have nch : p.1 ∉ ch := fun z => (hch p.1 z).2.2.2 p hp rfl
  exact ⟨keep p.1 p.2 ne nf nch e n, free p.1 p.2 nch e n, ne, nf, d⟩
theorem Inv.un {t' : Nat} (I : Inv X pins σ H s) (u : Un X.fs [] H H' s.heap h') (hok : HOk X.prog X.w H' h') : Inv X pins σ H' { s with heap := h', toks := t' } := by
 obtain ⟨m, ⟨o, es, ep, ho, r⟩, _⟩ := id I.loc
 obtain ⟨sl, hL⟩ := u.any ho I.free (by simp)
 exact I.step (g' := s.gens) (d' := s.drawn) (ch := []) (fun _ z => nomatch z) (fun b o _ hb _ e n => u.keep b o e n hb (by simp)) (fun b o _ hb _ e n => u.slot b o e n hb (by simp)) (fun b o _ e n => u.free b o e n (by simp)) (fun b o _ e => u.there b o e (by simp)) u.tups u.frzs u.tbls (fun m' hm => by
  obtain ⟨o', es', ep', ho', r'⟩ := hm
  rw [ho] at ho'; cases ho'
  exact ⟨_, es', ep', hL, r'⟩) hok I.bare
theorem Inv.call {g' : Array GenState} {t' : Nat} {d' : Drawn} {ch : List Addr} (I : Inv X pins σ H s) (u : Un (frs X.stack) ch H H' s.heap h') (hok : HOk X.prog X.w H' h') (hg : AllBare g')
  (hch : ∀ b ∈ ch, (b ∈ X.ex \/ X.s₀.heap.objs.size <= b) /\ b ≠ X.env.locals /\ (∀ x c, X.env.cells.lookup x = some c -> c ≠ b) /\ ∀ p ∈ X.pn ++ pins, p.1 ≠ b) :
  Inv X pins σ H' { s with heap := h', gens := g', drawn := d', toks := t' } := by
 obtain ⟨m, ⟨o, es, ep, ho, r⟩, _⟩ := id I.loc
 obtain ⟨sl, hL⟩ := u.any ho I.free fun z => (hch _ z).2.1 rfl
 exact I.step (ch := ch) hch (fun b o hL hb hc e n => u.keep b o e n (fun z => (List.mem_cons.mp (I.stkSub b z)).elim hL hb) hc) (fun b o _ _ hc e n => u.any e n hc) (fun b o hc e n => u.free b o e n hc) (fun b o hc e => u.there b o e hc) u.tups u.frzs u.tbls (fun m' hm => by
  obtain ⟨o', es', ep', ho', r'⟩ := hm
  rw [ho] at ho'; cases ho'
  exact ⟨_, es', ep', hL, r'⟩) hok hg
theorem Inv.turned {t' : Nat} {it : Addr} (I : Inv X pins σ H s) (k : ∀ b o, b ≠ it -> s.heap.get? b = some o -> h'.get? b = some o) (hn : H it = none) (hL : it ≠ X.env.locals)
  (h1 : it ∈ X.ex \/ X.s₀.heap.objs.size <= it) (h2 : ∀ x c, X.env.cells.lookup x = some c -> c ≠ it) (h3 : ∀ p ∈ X.pn ++ pins, p.1 ≠ it) : Inv X pins σ H { s with heap := h', toks := t' } := by
 have nit : ∀ b u, H b = some u -> b ≠ it := fun b u e z => by rw [z, hn] at e; cases e
 refine I.step (g' := s.gens) (d' := s.drawn) (ch := [it]) (fun b hb => ?_) (fun b o _ _ hc e _ => k b o (fun z => hc (by simp [z])) e) (fun b o _ _ hc e _ => ⟨o.slots, k b o (fun z => hc (by simp [z])) e⟩) (fun _ _ _ _ n => n)
  (fun b o hc e => ⟨o, k b o (fun z => hc (by simp [z])) e⟩) (fun _ _ e => e) (fun _ _ _ e => e) (fun b ps e => ⟨#[], by rw [e]; simp⟩) (fun m hm => ?_) (fun b u e => ?_) I.bare
 ·have e : b = it := by simpa using hb
  subst e
  exact ⟨h1, hL, h2, h3⟩
 ·obtain ⟨o, es, ep, ho, r⟩ := hm
  exact ⟨o, es, ep, k _ o (Ne.symm hL) ho, r⟩
 ·refine (I.hok b u e).stay (fun c v hc q => k c v ?_ q) (fun _ q => q) fun _ _ q => q
  rcases hc with z | z
  ·rw [z]; exact nit b u e
  ·exact nit c _ z
theorem Inv.tok (I : Inv X pins σ H s) (t : Nat) : Inv X pins σ H { s with toks := t } := I.un (h' := s.heap) (t' := t) Un.refl I.hok
theorem Inv.kept {t' : Nat} (I : Inv X pins σ H s) (k : ∀ b u, s.heap.get? b = some u -> h'.get? b = some u) : Inv X pins σ H { s with heap := h', toks := t' } := I.un (Un.kept k) (I.hok.kept k)
theorem Inv.laid {a : Addr} {o : HO} {t' : Nat} (I : Inv X pins σ H s) (k : ∀ b u, s.heap.get? b = some u -> h'.get? b = some u) (hp : s.heap.objs.size <= a) (new : ObjOk X.prog X.w (upd H a o) h' a o) :
  Inv X pins σ (upd H a o) { s with heap := h', toks := t' } := I.un (Un.laid k hp (I.hok.fresh hp)) (I.hok.laid k hp new)
theorem Inv.write {x e : Addr} {o : HO} {t' : Nat} (I : Inv X pins σ H s) (mu : Mut (H x)) (he : e = x \/ H e = some (.own x)) (k : ∀ b u, b ≠ e -> s.heap.get? b = some u -> h'.get? b = some u) (heo : ∃ u, h'.get? e = some u)
  (new : ObjOk X.prog X.w (upd H x o) h' x o) : Inv X pins σ (upd H x o) { s with heap := h', toks := t' } := I.un (Un.write mu he k heo) (I.hok.write mu he k heo new)
theorem Inv.pins_of {pins' : List (Addr × Obj)} (I : Inv X pins σ H s) (h : ∀ p ∈ pins', s.heap.get? p.1 = some p.2 /\ H p.1 = none /\ p.1 ≠ X.env.locals /\ p.1 ∉ X.fs /\ ∀ v, p.2.data ≠ .cell v) : Inv X pins' σ H s :=
 ⟨I.ok, I.os, I.bare, I.base, I.loc, I.cell, I.free, I.freeC, fun p hp => (List.mem_append.mp hp).elim (fun z => I.pin p (List.mem_append_left _ z)) (h p), I.hok, I.len⟩
theorem zhn {N : List Str} (hN : N.Nodup) {i j : Nat} {x : Str} (a : N[i]? = some x) (b : N[j]? = some x) : i = j := by
 obtain ⟨h1, e1⟩ := List.getElem?_eq_some_iff.mp a
 obtain ⟨h2, e2⟩ := List.getElem?_eq_some_iff.mp b
 exact (List.getElem_inj hN).mp (e1.trans e2.symm)
theorem zdl {M : Model} {A : Around} {E : Value -> Shared -> Prop} {i : Nat} {x : Str} {v : V} {u : Value} {Q : Unit -> Shared -> Prop} (I : Inv X pins σ H s) (hN : X.N.Nodup) (hi : X.N[i]? = some x) (hx : Loc X.env.scope x) (r : RelV v u)
  (h : ∀ s', Inv X pins (σ.set i (some v)) H s' -> (∃ a, Heap.SameBut a s.heap s'.heap /\ (a = X.env.locals \/ X.env.cells.lookup x = some a)) -> Q () s') (hf : X.fn x = true \/ X.env.scope.names.lookup x = some .local := by first | exact .inl rfl | exact .inr rfl | assumption) : wpAny M A (storeName X.env x u) Q E s := by
 obtain ⟨m, hn, hl⟩ := id I.loc
 have hcls : (X.env.scope.kind == .class || (X.env.scope.kind == .module && X.env.locals != X.env.globals)) = false := by rw [I.ok.kind]; rfl
 have hiσ : i < σ.length := by rw [I.len]; exact (List.getElem?_eq_some_iff.mp hi).1
 have cne := I.cne
 have tracked : ∀ {a : Addr} {h' : Heap}, (∃ o, s.heap.get? a = some o /\ H a = none) -> Heap.SameBut a s.heap h' -> HOk X.prog X.w H h' := fun {a h'} ha hs b ob e => by
  obtain ⟨_, _, hfree⟩ := ha
  refine (I.hok b ob e).stay (fun c w' hc q => (hs.2 c ?_).trans q) (fun _ q => q) fun _ _ q => q
  rintro rfl
  rcases hc with rfl | hc
  ·rw [hfree] at e; cases e
  ·rw [hfree] at hc; cases hc
 rcases hx with hk | hk
 ·refine wpAny_storeName_local hk hn (fun h' hn' hs => ?_) hcls
  obtain ⟨oL, _, _, hoL, _⟩ := id hn
  refine h _ ⟨I.ok, I.os, I.bare, ⟨fun b o e n hb hx => ?_, fun b o e n hb hx => ?_, I.base.free, fun b o e hx => ?_, I.base.tups, I.base.frzs, I.base.tbls⟩, ⟨_, hn', fun j y v' e1 e2 e3 => ?_⟩, fun y c e => ?_, I.free, I.freeC, fun p hp => ?_, tracked ⟨oL, hoL, I.free⟩ hs, by simpa using I.len⟩ ⟨_, hs, .inl rfl⟩
  ·exact (hs.2 b (Nat.ne_of_lt (Nat.lt_of_lt_of_le (Heap.lt_size e) I.ok.above))).trans (I.base.keep b o e n hb hx)
  ·obtain ⟨sl, e1⟩ := I.base.slot b o e n hb hx
   exact ⟨sl, (hs.2 b (Nat.ne_of_lt (Nat.lt_of_lt_of_le (Heap.lt_size e) I.ok.above))).trans e1⟩
  ·obtain ⟨o', e1⟩ := I.base.there b o e hx
   exact ⟨o', (hs.2 b (Nat.ne_of_lt (Nat.lt_of_lt_of_le (Heap.lt_size e) I.ok.above))).trans e1⟩
  ·by_cases hj : j = i
   ·subst hj
    rw [hi] at e1; cases e1
    rw [List.getElem?_set_self hiσ] at e2
    cases e2
    exact ⟨u, r, .inl ⟨hk, by simp⟩⟩
   ·rw [List.getElem?_set_ne (Ne.symm hj)] at e2
    obtain ⟨u', r', q⟩ := hl j y v' e1 e2 e3
    refine ⟨u', r', ?_⟩
    rcases q with ⟨k, e⟩ | ⟨k, c, e, z⟩
    ·refine .inl ⟨k, ?_⟩
     have : y ≠ x := fun e => hj (zhn hN e1 (e ▸ hi))
     simp [this, e]
    ·exact .inr ⟨k, c, e, z.sameBut hs (cne y c e)⟩
  ·obtain ⟨w', z⟩ := I.cell y c e
   exact ⟨w', z.sameBut hs (cne y c e)⟩
  ·obtain ⟨e, n, ne, nf, d⟩ := I.pin p hp
   exact ⟨(hs.2 p.1 ne).trans e, n, ne, nf, d⟩
 ·have hfn : X.fn x = true := by
   rcases hf with z | z
   ·exact z
   ·rw [z] at hk; cases hk
  obtain ⟨c, hc⟩ := I.ok.has x (.inl hk)
  obtain ⟨w', z⟩ := I.cell x c hc
  refine wpAny_storeName_cell I.ok.kind hk hc z (fun h' hc' hs => ?_)
  obtain ⟨oc, hoc, hocd⟩ := id z
  refine h { s with heap := h' } ⟨I.ok, I.os, I.bare, ⟨fun b o e n hb hx => ?_, fun b o e n hb hx => ?_, I.base.free, fun b o e hx => ?_, I.base.tups, I.base.frzs, I.base.tbls⟩, ⟨m, hn.sameBut hs (Ne.symm (cne x c hc)), fun j y v' e1 e2 e3 => ?_⟩, fun y c' e => ?_, I.free, I.freeC, fun p hp => ?_, tracked ⟨oc, hoc, I.freeC x c hc⟩ hs, by simpa using I.len⟩ ⟨c, hs, .inr hc⟩
  ·exact (hs.2 b (Nat.ne_of_lt (Nat.lt_of_lt_of_le (Heap.lt_size e) (I.ok.cab x c hfn hc)))).trans (I.base.keep b o e n hb hx)
  ·obtain ⟨sl, e1⟩ := I.base.slot b o e n hb hx
   exact ⟨sl, (hs.2 b (Nat.ne_of_lt (Nat.lt_of_lt_of_le (Heap.lt_size e) (I.ok.cab x c hfn hc)))).trans e1⟩
  ·obtain ⟨o', e1⟩ := I.base.there b o e hx
   exact ⟨o', (hs.2 b (Nat.ne_of_lt (Nat.lt_of_lt_of_le (Heap.lt_size e) (I.ok.cab x c hfn hc)))).trans e1⟩
  ·by_cases hj : j = i
   ·subst hj
    rw [hi] at e1; cases e1
    rw [List.getElem?_set_self hiσ] at e2
    cases e2
    exact ⟨u, r, .inr ⟨.inl hk, c, hc, hc'⟩⟩
   ·rw [List.getElem?_set_ne (Ne.symm hj)] at e2
    obtain ⟨u', r', q⟩ := hl j y v' e1 e2 e3
    refine ⟨u', r', ?_⟩
    rcases q with q | ⟨k, c', e, z'⟩
    ·exact .inl q
    ·refine .inr ⟨k, c', e, z'.sameBut hs ?_⟩
     rintro rfl
     exact hj (zhn hN e1 (I.ok.inj _ _ _ e hc ▸ hi))
  ·by_cases hcc : c' = c
   ·subst hcc; exact ⟨_, hc'⟩
   ·obtain ⟨w2, z2⟩ := I.cell y c' e
    exact ⟨w2, z2.sameBut hs hcc⟩
  ·obtain ⟨e, n, ne, nf, d⟩ := I.pin p hp
   refine ⟨(hs.2 p.1 ?_).trans e, n, ne, nf, d⟩
   intro q
   rw [q, hoc] at e
   have q' : oc = p.2 := Option.some.inj e
   exact d w' (by rw [<- q']; exact hocd)
theorem zhd {M : Model} {A : Around} {E : Value -> Shared -> Prop} {i : Nat} {x : Str} {v : V} {u : Value} {Q : Unit -> Shared -> Prop} (I : Inv X pins σ H s) (hN : X.N.Nodup) (hi : X.N[i]? = some x) (hx : Loc X.env.scope x) (r : RelV v u)
  (h : ∀ s', Inv X pins (σ.set i (some v)) H s' -> Q () s') (hf : X.fn x = true \/ X.env.scope.names.lookup x = some .local := by first | exact .inl rfl | exact .inr rfl | assumption) : wpAny M A (storeName X.env x u) Q E s :=
 zdl I hN hi hx r (fun s' I' _ => h s' I') hf
theorem Inv.call' {s' : Shared} {ch : List Addr} (I : Inv X pins σ H s) (ho : s'.os = s.os) (u : Un (frs X.stack) ch H H' s.heap s'.heap) (hok : HOk X.prog X.w H' s'.heap) (hg : AllBare s'.gens)
  (hch : ∀ b ∈ ch, (b ∈ X.ex \/ X.s₀.heap.objs.size <= b) /\ b ≠ X.env.locals /\ (∀ x c, X.env.cells.lookup x = some c -> c ≠ b) /\ ∀ p ∈ X.pn ++ pins, p.1 ≠ b) : Inv X pins σ H' s' := by
 obtain ⟨h', g', d', t', o'⟩ := s'
 have e : o' = s.os := ho
 subst e
 exact I.call (g' := g') (t' := t') (d' := d') u hok hg hch
end
abbrev XK := Value -> Option Addr -> Hp -> Prop
abbrev St := List (Option V)
abbrev VK := V -> Hp -> Prop
abbrev TE := St -> Hp -> VK -> Prop
abbrev TT := St -> Hp -> (Bool -> Hp -> Prop) -> Prop
abbrev TA := St -> Hp -> (List V -> Hp -> Prop) -> Prop
structure zeo where
 nx : St -> Hp -> Prop
 rt : VK
 bk : St -> Hp -> Prop := fun _ _ => False
 ct : St -> Hp -> Prop := fun _ _ => False
abbrev TS := zeo -> St -> Hp -> Prop
def EP (X : Cx) (pins : List (Addr × Obj)) (σ : St) (Q : VK) (u : Value) (s' : Shared) : Prop := ∃ v H', Inv X pins σ H' s' /\ RelV v u /\ Q v H'
def TP (X : Cx) (pins : List (Addr × Obj)) (σ : St) (Q : Bool -> Hp -> Prop) (b : Bool) (s' : Shared) : Prop := ∃ H', Inv X pins σ H' s' /\ Q b H'
def AP (X : Cx) (pins : List (Addr × Obj)) (σ : St) (Q : List V -> Hp -> Prop) (us : List Value) (s' : Shared) : Prop := ∃ vs H', Inv X pins σ H' s' /\ Vals vs us /\ Q vs H'
def SP (X : Cx) (pins : List (Addr × Obj)) (D : zeo) (f : Flow) (s' : Shared) : Prop :=
 match f with
 | .next => ∃ σ' H', Inv X pins σ' H' s' /\ D.nx σ' H'
 | .brk => ∃ σ' H', Inv X pins σ' H' s' /\ D.bk σ' H'
 | .cont => ∃ σ' H', Inv X pins σ' H' s' /\ D.ct σ' H'
 | .ret u => ∃ v σ' H', Inv X pins σ' H' s' /\ RelV v u /\ D.rt v H'
def PE (X : Cx) (e : Expr) (t : TE) : Prop :=
 ∀ (pins : List (Addr × Obj)) (s : Shared) (σ : St) (H : Hp) (Q : VK), Inv X pins σ H s -> t σ H Q -> wpAny (model X.prog X.w) X.A (eval e X.env) (EP X pins σ Q) X.xe s
def PT (X : Cx) (e : Expr) (t : TT) : Prop :=
 ∀ (pins : List (Addr × Obj)) (s : Shared) (σ : St) (H : Hp) (Q : Bool -> Hp -> Prop), Inv X pins σ H s -> t σ H Q -> wpAny (model X.prog X.w) X.A (isTrue e X.env (eval e X.env)) (TP X pins σ Q) X.xe s
def PW (X : Cx) (e : Expr) (t : TT) : Prop :=
 ∀ (whole : Sem Value) (pins : List (Addr × Obj)) (s : Shared) (σ : St) (H : Hp) (Q : Bool -> Hp -> Prop), Inv X pins σ H s -> t σ H Q -> wpAny (model X.prog X.w) X.A (isTrue e X.env whole) (TP X pins σ Q) X.xe s
theorem PW.pt {X : Cx} {e : Expr} {t : TT} (h : PW X e t) : PT X e t := h _
def PA (X : Cx) (es : List Expr) (t : TA) : Prop :=
 ∀ (pos : Pos) (pins : List (Addr × Obj)) (s : Shared) (σ : St) (H : Hp) (Q : List V -> Hp -> Prop), Inv X pins σ H s -> t σ H Q -> wpAny (model X.prog X.w) X.A (spliced (backTo pos (starEach es X.env))) (AP X pins σ Q) X.xe s
def PS (X : Cx) (st : Stmt) (t : TS) : Prop :=
 ∀ (pins : List (Addr × Obj)) (s : Shared) (σ : St) (H : Hp) (D : zeo), Inv X pins σ H s -> t D σ H -> wpAny (model X.prog X.w) X.A (exec st X.env) (SP X pins D) X.xe s
def PSs (X : Cx) (st : List Stmt) (t : TS) : Prop :=
 ∀ (pins : List (Addr × Obj)) (s : Shared) (σ : St) (H : Hp) (D : zeo), Inv X pins σ H s -> t D σ H -> wpAny (model X.prog X.w) X.A (execs st X.env) (SP X pins D) X.xe s
theorem thn {α : Type} {t : Sem α} {Q Q' : α -> Shared -> Prop} {M : Model} {A : Around} {E : Value -> Shared -> Prop} {s : Shared} (h : wpAny M A t Q E s) (hQ : ∀ a s, Q a s -> Q' a s) : wpAny M A t Q' E s := wpAny_mono h hQ fun _ _ x => x
section
variable {X : Cx}
def zCl (i : Nat) : TE := fun σ H Q => ∃ v, σ[i]? = some (some v) /\ Q v H
def tC (v : V) : TE := fun _ H Q => Q v H
theorem zyl {i : Nat} {x : Str} {pos : Pos} (hN : X.N[i]? = some x) (hv : Vis X.env.scope x) (hd : (x == ("__debug__" : Str)) = false := by decide) (hcd : (x == ("__classdict__" : Str)) = false := by decide) : PE X (.Name x pos) (zCl i) := by
 intro pins s σ H Q I h
 obtain ⟨v, e, h⟩ := h
 obtain ⟨m, hn, hl⟩ := I.loc
 obtain ⟨u, r, l⟩ := hl i x v hN e hv
 have fin : EP X pins σ Q u s := ⟨v, H, I, r, h⟩
 rcases l with ⟨hk, hm⟩ | ⟨hk, c, hc, hcell⟩
 ·exact wpAny_Name (wpAny_loadName_local I.ok.kind hk hn hm fin) hd
 ·rcases hk with hk | hk
  ·exact wpAny_Name (wpAny_loadName_cell I.ok.kind hk hc hcell fin) hd
  ·exact wpAny_Name (wpAny_loadName_free I.ok.kind hk hc hcell fin hcd) hd
theorem zG {i j pos} : PE X (.Constant (.int i) j pos) (tC (.int i)) := fun _ _ _ H _ I h => wpAny_Constant_int ⟨.int i, H, I.tok _, ⟨_, rfl⟩, h⟩
theorem qJ {b j pos} : PE X (.Constant (.bool b) j pos) (tC (.bl b)) := fun _ _ _ H _ I h => Constant_bool ⟨.bl b, H, I, rfl, h⟩
theorem zyn {j pos} : PE X (.Constant .none j pos) (tC .non) := fun _ _ _ H _ I h => Constant_none ⟨.non, H, I, rfl, h⟩
theorem zcu {x j pos} : PE X (.Constant (.str x) j pos) (tC (.str x)) := fun _ _ _ H _ I h => Calls.Constant_str ⟨.str x, H, I.tok _, ⟨_, rfl⟩, h⟩
def Gl (X : Cx) (x : Str) : Prop := X.env.kindOf x = some .globalImplicit
theorem zbl {E : Value -> Shared -> Prop} {pins : List (Addr × Obj)} {s : Shared} {σ : St} {H : Hp} {x : Str} {u : Value} {pos : Pos} {Q : Value -> Shared -> Prop} (I : Inv X pins σ H s) (hg : Gl X x) (hm : X.mg x = some u) (h : Q u s)
  (hd : (x == ("__debug__" : Str)) = false := by decide) : wpAny (model X.prog X.w) X.A (eval (.Name x pos) X.env) Q E s :=
 Calls.Name_function_global I.ok.kind hg (Calls.loadGlobal_global (by rw [I.ok.glob]; exact I.mod.glob.keeps I.bk) hm h) hd
theorem zcy {E : Value -> Shared -> Prop} {pins : List (Addr × Obj)} {s : Shared} {σ : St} {H : Hp} {x : Str} {u : Value} {pos : Pos} {Q : Value -> Shared -> Prop} (I : Inv X pins σ H s) (hg : Gl X x) (hm : X.mg x = none) (hv : bootBuiltins x = some u) (h : Q u s)
  (hn : x ≠ "__name__" := by decide) (hd : (x == ("__debug__" : Str)) = false := by decide) : wpAny (model X.prog X.w) X.A (eval (.Name x pos) X.env) Q E s := by
 obtain ⟨mb, h1, h2⟩ := I.mod.blt
 exact Calls.Name_function_global I.ok.kind hg (Calls.loadGlobal_builtin (by rw [I.ok.glob]; exact I.mod.glob.keeps I.bk) hm (by rw [I.ok.blt]; exact h1.keeps I.bk) ((h2 x hn).trans hv) h) hd
theorem kR {x : Str} {v : V} {u : Value} {pos : Pos} (hg : Gl X x) (hm : X.mg x = some u) (r : RelV v u) (hd : (x == ("__debug__" : Str)) = false := by decide) : PE X (.Name x pos) (tC v) :=
 fun _ _ _ H _ I h => zbl I hg hm ⟨v, H, I, r, h⟩ hd
theorem x4 {x : Str} {v : V} {u : Value} {pos : Pos} (hg : Gl X x) (hm : X.mg x = none) (hv : bootBuiltins x = some u) (r : RelV v u) (hn : x ≠ "__name__" := by decide) (hd : (x == ("__debug__" : Str)) = false := by decide) : PE X (.Name x pos) (tC v) :=
 fun _ _ _ H _ I h => zcy I hg hm hv ⟨v, H, I, r, h⟩ hn hd
variable {a b : Expr} {ta tb : TE} {pos : Pos}
def tB (t : TE) : TT := fun σ H Q => t σ H fun x H1 => ∃ c, x = .bl c /\ Q c H1
theorem xY {e : Expr} {t : TE} (h : PE X e t) (he : ∀ whole, isTrue e X.env whole = (do let v <- whole; standAt e.pos; holding [v] (truthy v)) := by intro _; rfl) : PT X e (tB t) := by
 intro pins s σ H Q I hw
 refine isTrue_plain (thn (h pins s σ H _ I hw) fun v s1 ⟨x, H1, I1, r1, q1⟩ => ?_) (he _)
 obtain ⟨d, rfl, q⟩ := q1
 cases r1
 exact wpAny_truthy_bool ⟨H1, I1, q⟩
variable {tA tB' : TT} {rest : List Expr}
def zDn (t u : TT) : TT := fun σ H Q => t σ H fun c H1 => if c = true then u σ H1 Q else Q false H1
def tOr (t u : TT) : TT := fun σ H Q => t σ H fun c H1 => if c = true then Q true H1 else u σ H1 Q
def zDg (t : TT) : TT := fun σ H Q => t σ H fun c H1 => Q (!c) H1
theorem ztp (ha : PT X a tA) : PW X (.BoolOp .And [a] pos) tA := by
 intro wh pins s σ H Q I h
 refine isTrue_and (thn (ha pins s σ H Q I h) fun c s1 e => ?_)
 cases c with
 | true => exact isTrue_and_nil e
 | false => exact e
theorem vT (ha : PT X a tA) : PW X (.BoolOp .Or [a] pos) tA := by
 intro wh pins s σ H Q I h
 refine isTrue_or (thn (ha pins s σ H Q I h) fun c s1 e => ?_)
 cases c with
 | false => exact isTrue_or_nil e
 | true => exact e
theorem zyh (ha : PT X a tA) (hb : PW X (.BoolOp .And (b :: rest) pos) tB') : PW X (.BoolOp .And (a :: b :: rest) pos) (zDn tA tB') := by
 intro wh pins s σ H Q I h
 refine isTrue_and (thn (ha pins s σ H _ I h) fun c s1 ⟨H1, I1, q1⟩ => ?_)
 cases c with
 | true => exact hb wh pins s1 σ H1 Q I1 q1
 | false => exact ⟨H1, I1, q1⟩
theorem vU (ha : PT X a tA) (hb : PW X (.BoolOp .Or (b :: rest) pos) tB') : PW X (.BoolOp .Or (a :: b :: rest) pos) (tOr tA tB') := by
 intro wh pins s σ H Q I h
 refine isTrue_or (thn (ha pins s σ H _ I h) fun c s1 ⟨H1, I1, q1⟩ => ?_)
 cases c with
 | true => exact ⟨H1, I1, q1⟩
 | false => exact hb wh pins s1 σ H1 Q I1 q1
theorem xZ (ha : PT X a tA) : PT X (.UnaryOp .Not a pos) (zDg tA) := by
 intro pins s σ H Q I h
 exact isTrue_not (ha pins s σ H (fun c H1 => Q (!c) H1) I h)
def zAx (ta tb : TE) : TE := fun σ H Q => ta σ H fun x H1 => ∃ c, x = .bl c /\ if c = true then tb σ H1 Q else Q (.bl false) H1
def zAr (ta : TE) : TE := fun σ H Q => ta σ H fun x H1 => ∃ c, x = .bl c /\ Q (.bl (!c)) H1
theorem zrv {op} {t : TE} (h : PE X a t) : PE X (.BoolOp op [a] pos) t := fun pins s σ H Q I hw => BoolOp_one (h pins s σ H Q I hw)
theorem zrw (ha : PE X a ta) (hb : PE X (.BoolOp .And (b :: rest) pos) tb) : PE X (.BoolOp .And (a :: b :: rest) pos) (zAx ta tb) := by
 intro pins s σ H Q I h
 refine BoolOp_and (thn (ha pins s σ H _ I h) fun v s1 ⟨x, H1, I1, r1, q1⟩ => ?_)
 obtain ⟨c, rfl, q1⟩ := q1
 cases r1
 refine wpAny_truthy_bool ?_
 cases c with
 | true => exact hb pins s1 σ H1 Q I1 q1
 | false => exact ⟨.bl false, H1, I1, rfl, q1⟩
theorem zym (ha : PE X a ta) : PE X (.UnaryOp .Not a pos) (zAr ta) := by
 intro pins s σ H Q I h
 refine UnaryOp_ (thn (ha pins s σ H _ I h) fun v s1 ⟨x, H1, I1, r1, q1⟩ => ?_)
 obtain ⟨c, rfl, q1⟩ := q1
 cases r1
 exact not_of (wpAny_truthy_bool ⟨.bl (!c), H1, I1, rfl, q1⟩)
def tIf (t : TT) (ta tb : TE) : TE := fun σ H Q => t σ H fun c H1 => if c = true then ta σ H1 Q else tb σ H1 Q
theorem kE {c : Expr} (hc : PT X c tA) (ha : PE X a ta) (hb : PE X b tb) : PE X (.IfExp c a b pos) (tIf tA ta tb) := by
 intro pins s σ H Q I h
 refine wpAny_IfExp (thn (hc pins s σ H _ I h) fun d s1 ⟨H1, I1, q1⟩ => ?_)
 cases d with
 | true => exact ha pins s1 σ H1 Q I1 q1
 | false => exact hb pins s1 σ H1 Q I1 q1
end
def SqL (K : PySem.W.Frag) (H : Hp) (a : Addr) (xs : List V) : Prop :=
 Rd H a (.lst xs) \/
  ∃ (o : Obj) (its : Array Value) (n : Nat), K.lookup a = some o /\ o.cls = .type "list" /\ o.dict = none /\ o.data = .seq its n /\ its.size <= sizeLine /\ Vals xs its.toList
def SqT (K : PySem.W.Frag) (H : Hp) (a : Addr) (xs : List V) : Prop :=
 Rd H a (.tup xs) \/
  ∃ (o : Obj) (its : Array Value) (n : Nat), K.lookup a = some o /\ o.cls = .type "tuple" /\ o.data = .seq its n /\ its.size <= sizeLine /\ Vals xs its.toList
def zFc : Value -> Option V
 | .none => some .non
 | .bool b => some (.bl b)
 | .int i _ => some (.int i)
 | .str x _ => some (.str x)
 | .bytes b _ => some (.byt b)
 | .float b _ => some (.flt b)
 | .ref a => some (.ref a)
 | .type n => some (.ty n)
 | _ => none
theorem RelV.abs {x : V} {u : Value} (r : RelV x u) : zFc u = some x := by
 cases x with
 | non => cases r; rfl
 | bl _ => cases r; rfl
 | int _ => obtain ⟨t, rfl⟩ := r; rfl
 | str _ => obtain ⟨t, rfl⟩ := r; rfl
 | byt _ => obtain ⟨t, rfl⟩ := r; rfl
 | flt _ => obtain ⟨t, rfl⟩ := r; rfl
 | ref _ => cases r; rfl
 | ty _ => cases r; rfl
theorem RelV.inj {x y : V} {u : Value} (r : RelV x u) (q : RelV y u) : x = y := Option.some.inj (r.abs.symm.trans q.abs)
theorem Vals.inj : ∀ {xs ys : List V} {us : List Value}, Vals xs us -> Vals ys us -> xs = ys
 | _, _, _, .nil, .nil => rfl
 | _, _, _, .cons r t, .cons r' t' => by rw [r.inj r', Vals.inj t t']
section
variable {X : Cx} {pins : List (Addr × Obj)} {σ : St} {H : Hp} {s : Shared} {a : Addr} {xs ys : List V}
theorem SqL.of {K : PySem.W.Frag} (h : H a = some (.lst xs)) : SqL K H a xs := .inl (.inl h)
theorem SqT.of {K : PySem.W.Frag} (h : H a = some (.tup xs)) : SqT K H a xs := .inl (.inl h)
theorem Inv.list (I : Inv X pins σ H s) (h : SqL X.K H a xs) : ∃ its : List Value, Vals xs its /\ PlainL s.heap a its.toArray /\ xs.length <= sizeLine := by
 rcases h with h | ⟨o, its, n, hk, hc, hd, hs, hz, r⟩
 ·obtain ⟨z, its, n, r, e⟩ := h.ok I.hok
  exact ⟨its, r, ⟨_, n, e, rfl, rfl, rfl⟩, z⟩
 ·refine ⟨its.toList, r, ⟨o, n, I.kIn a o hk, hc, hd, by simpa using hs⟩, ?_⟩
  have e := r.length
  simp only [Array.length_toList] at e
  lia
theorem Inv.tuple (I : Inv X pins σ H s) (h : SqT X.K H a xs) : ∃ its : List Value, Vals xs its /\ IsTup s.heap a its.toArray /\ xs.length <= sizeLine := by
 rcases h with h | ⟨o, its, n, hk, hc, hs, hz, r⟩
 ·obtain ⟨z, its, r, p⟩ := h.ok I.hok
  exact ⟨its, r, p, z⟩
 ·refine ⟨its.toList, r, ⟨o, I.kIn a o hk, hc, n, by simpa using hs⟩, ?_⟩
  have e := r.length
  simp only [Array.length_toList] at e
  lia
theorem Inv.list_inj (I : Inv X pins σ H s) (h : SqL X.K H a xs) (h' : SqL X.K H a ys) : xs = ys := by
 obtain ⟨its, r, ⟨o, n, e, _, _, d⟩, _⟩ := I.list h
 obtain ⟨its', r', ⟨o', n', e', _, _, d'⟩, _⟩ := I.list h'
 rw [e] at e'; cases e'
 rw [d] at d'
 injection d' with d1 _
 have : its = its' := by simpa using congrArg Array.toList d1
 subst this
 exact r.inj r'
theorem Inv.tuple_inj (I : Inv X pins σ H s) (h : SqT X.K H a xs) (h' : SqT X.K H a ys) : xs = ys := by
 obtain ⟨its, r, ⟨o, e, _, n, d⟩, _⟩ := I.tuple h
 obtain ⟨its', r', ⟨o', e', _, n', d'⟩, _⟩ := I.tuple h'
 rw [e] at e'; cases e'
 rw [d] at d'
 injection d' with d1 _
 have : its = its' := by simpa using congrArg Array.toList d1
 subst this
 exact r.inj r'
end
abbrev Cx.wish (X : Cx) (E : Value -> Shared -> Prop) : Cx := { X with xe := E }
abbrev Cx.nox (X : Cx) : Cx := X.wish fun _ _ => False
theorem Cx.Ok.wish {X : Cx} (ok : X.Ok) (E : Value -> Shared -> Prop) : (X.wish E).Ok :=
 ⟨ok.mod, ok.kind, ok.glob, ok.blt, ok.above, ok.inj, ok.has, ok.cab, ok.hd, ok.frames, ok.stk, ok.exf, ok.bs, ok.bsz, ok.noex, ok.exfs, ok.funs, ok.frf⟩
theorem Cx.Ok.unwish {X : Cx} {E : Value -> Shared -> Prop} (ok : (X.wish E).Ok) : X.Ok :=
 ⟨ok.mod, ok.kind, ok.glob, ok.blt, ok.above, ok.inj, ok.has, ok.cab, ok.hd, ok.frames, ok.stk, ok.exf, ok.bs, ok.bsz, ok.noex, ok.exfs, ok.funs, ok.frf⟩
section
variable {X : Cx} {pins : List (Addr × Obj)} {σ : St} {H : Hp} {s : Shared} {E : Value -> Shared -> Prop}
theorem Inv.wish (I : Inv X pins σ H s) (E : Value -> Shared -> Prop) : Inv (X.wish E) pins σ H s := ⟨I.ok.wish E, I.os, I.bare, I.base, I.loc, I.cell, I.free, I.freeC, I.pin, I.hok, I.len⟩
theorem Inv.unwish (I : Inv (X.wish E) pins σ H s) : Inv X pins σ H s := ⟨I.ok.unwish, I.os, I.bare, I.base, I.loc, I.cell, I.free, I.freeC, I.pin, I.hok, I.len⟩
theorem SP.unwish {D : zeo} {f : Flow} {s' : Shared} (h : SP (X.wish E) pins D f s') : SP X pins D f s' := by
 cases f with
 | next => obtain ⟨σ', H', I, q⟩ := h; exact ⟨σ', H', I.unwish, q⟩
 | brk => obtain ⟨σ', H', I, q⟩ := h; exact ⟨σ', H', I.unwish, q⟩
 | cont => obtain ⟨σ', H', I, q⟩ := h; exact ⟨σ', H', I.unwish, q⟩
 | ret u => obtain ⟨v, σ', H', I, r, q⟩ := h; exact ⟨v, σ', H', I.unwish, r, q⟩
theorem PSs.nox {st : List Stmt} {t : TS} (h : PSs X.nox st t) : PSs X st t := fun pins s σ H D I hw =>
 wpAny_mono (h pins s σ H D (I.wish _) hw) (fun _ _ q => q.unwish) fun _ _ z => False.elim z
end
section
variable {X : Cx} {st : Stmt} {rest : List Stmt} {t u : TS} {e : Expr} {te : TE} {pos : Pos}
def zAs : TS := fun D σ H => D.nx σ H
def zCm (t u : TS) : TS := fun D σ H => t { D with nx := u D } σ H
theorem yC : PSs X [] zAs := fun _ _ σ H _ I h => wpAny_execs_nil ⟨σ, H, I, h⟩
theorem zE (h1 : PS X st t) (h2 : PSs X rest u) : PSs X (st :: rest) (zCm t u) := by
 intro pins s σ H D I h
 refine wpAny_execs_cons (thn (h1 pins s σ H { D with nx := u D } I h) fun f s1 q => ?_)
 cases f with
 | next =>
  obtain ⟨σ', H', I', q⟩ := q
  exact h2 pins s1 σ' H' D I' q
 | ret v => exact q
 | brk => exact q
 | cont => exact q
theorem zF (h1 : PS X st t) : PSs X [st] t := by
 intro pins s σ H D I h
 refine wpAny_execs_cons (thn (h1 pins s σ H D I h) fun f s1 q => ?_)
 cases f with
 | next => exact wpAny_execs_nil q
 | ret v => exact q
 | brk => exact q
 | cont => exact q
theorem Inv.quiet {pins : List (Addr × Obj)} {σ : St} {H : Hp} {s : Shared} (I : Inv X pins σ H s) : interactive X.env = false := by simp [interactive, I.ok.kind]
def zAu (te : TE) : TS := fun D σ H => te σ H fun _ H1 => D.nx σ H1
theorem wZ (he : PE X e te) (hs : swapsWith e none pos.line X.env = pure false := by rfl) : PS X (.Expr e pos) (zAu te) := by
 intro pins s σ H D I h
 exact wpAny_Expr_any (thn (he pins s σ H _ I h) fun v s1 ⟨x, H1, I1, r1, q1⟩ => ⟨σ, H1, I1, q1⟩) I.quiet hs
def zDf (te : TE) : TS := fun D σ H => te σ H D.rt
theorem zK (he : PE X e te) : PS X (.Return (some e) pos) (zDf te) := by
 intro pins s σ H D I h
 exact wpAny_Return_some (thn (he pins s σ H _ I h) fun v s1 ⟨x, H1, I1, r1, q1⟩ => ⟨x, σ, H1, I1, r1, q1⟩)
def zDj (c : TT) (t u : TS) : TS := fun D σ H => c σ H fun b H1 => if b = true then t D σ H1 else u D σ H1
theorem xC {c : Expr} {a b : List Stmt} {tc : TT} (hc : PT X c tc) (ha : PSs X a t) (hb : PSs X b u) : PS X (.If c a b pos) (zDj tc t u) := by
 intro pins s σ H D I h
 refine wpAny_If (thn (hc pins s σ H _ I h) fun d s1 ⟨H1, I1, q1⟩ => ?_)
 cases d with
 | true => exact ha pins s1 σ H1 D I1 q1
 | false => exact hb pins s1 σ H1 D I1 q1
def zxh : TS := fun _ _ _ => False
theorem wA {sts : List Stmt} : PSs X sts zxh := fun _ _ _ _ _ _ h => h.elim
end
abbrev TG := V -> St -> Hp -> (St -> Hp -> Prop) -> Prop
abbrev TGs := List V -> St -> Hp -> (St -> Hp -> Prop) -> Prop
def PG (X : Cx) (target : Expr) (t : TG) : Prop :=
 ∀ (pins : List (Addr × Obj)) (s : Shared) (σ : St) (H : Hp) (v : V) (u : Value) (Q : St -> Hp -> Prop), Inv X pins σ H s -> RelV v u -> t v σ H Q ->
  wpAny (model X.prog X.w) X.A (assign target X.env u) (fun _ s' => ∃ σ' H', Inv X pins σ' H' s' /\ Q σ' H') X.xe s
def PGs (X : Cx) (ts : List Expr) (t : TGs) : Prop :=
 ∀ (pins : List (Addr × Obj)) (s : Shared) (σ : St) (H : Hp) (vs : List V) (us : List Value) (Q : St -> Hp -> Prop), Inv X pins σ H s -> Vals vs us -> t vs σ H Q ->
  wpAny (model X.prog X.w) X.A (assignInOrder ((assignEach ts X.env).map (·.2)) us) (fun _ s' => ∃ σ' H', Inv X pins σ' H' s' /\ Q σ' H') X.xe s
section
variable {X : Cx} {pos : Pos}
def yR (i : Nat) : TG := fun v σ H Q => Q (σ.set i (some v)) H
theorem zM {i : Nat} {x : Str} (hN : X.N.Nodup) (hi : X.N[i]? = some x) (hx : Loc X.env.scope x) (hf : X.fn x = true \/ X.env.scope.names.lookup x = some .local := by first | exact .inl rfl | exact .inr rfl | assumption) : PG X (.Name x pos) (yR i) := by
 intro pins s σ H v u Q I r h
 exact wpAny_assign_Name (zhd I hN hi hx r (fun s' I' => ⟨_, H, I', h⟩) hf)
def zou : TGs := fun vs σ H Q => vs = [] /\ Q σ H
def wW (t : TG) (u : TGs) : TGs := fun vs σ H Q => ∃ v r, vs = v :: r /\ t v σ H fun σ' H' => u r σ' H' Q
theorem xP : PGs X [] zou := by
 intro pins s σ H vs us Q I r h
 obtain ⟨e, h⟩ := h
 subst e
 cases r
 exact assignInOrder_nil ⟨σ, H, I, h⟩
theorem zU {e : Expr} {es : List Expr} {t : TG} {u : TGs} (h1 : PG X e t) (h2 : PGs X es u)
  (hs : (assignEach (e :: es) X.env).map (·.2) = assign e X.env :: (assignEach es X.env).map (·.2) := by rfl) : PGs X (e :: es) (wW t u) := by
 intro pins s σ H vs us Q I r h
 obtain ⟨v, vr, e1, h⟩ := h
 subst e1
 cases r with
 | cons r rr =>
  rw [hs]
  refine assignInOrder_cons (thn (h1 pins s σ H _ _ _ I r h) fun _ s1 ⟨σ1, H1, I1, q1⟩ => ?_)
  exact h2 pins s1 σ1 H1 _ _ Q I1 rr q1
def zls (K : PySem.W.Frag) (n : Nat) (t : TGs) : TG := fun v σ H Q => ∃ a xs, v = .ref a /\ SqT K H a xs /\ xs.length = n /\ t xs σ H Q
theorem zyk {es : List Expr} {k : Nat} {t : TGs} {n : Nat} (hc : X.calm = true) (h : PGs X es t)
  (hn : (assignEach es X.env).length = n := by rfl) (hst : (assignEach es X.env).findIdx? (·.1) = none := by rfl) : PG X (.Tuple es k pos) (zls X.K n t) := by
 intro pins s σ H v u Q I r hw
 obtain ⟨a, xs, e1, hq, hl, hw⟩ := hw
 subst e1
 cases r
 obtain ⟨its, rv, ht, hz⟩ := I.tuple hq
 refine assign_Tuple_tuple (I.ok.hd hc) ht (by simp [hn, <- hl, rv.length]) hst fun h' hx => ?_
 have I1 : Inv X pins σ H { s with heap := h' } := I.kept (t' := s.toks) fun b o e => hx b o (Nat.ne_of_lt (Heap.lt_size e)) e
 exact h pins _ σ H xs _ Q I1 (by simpa using rv) hw
def zCo (te : TE) (g : TG) : TS := fun D σ H => te σ H fun x H1 => g x σ H1 D.nx
theorem zrt {tg e : Expr} {te : TE} {g : TG} (he : PE X e te) (hg : PG X tg g) (hs : swapsWithSole [tg] e pos.line X.env = pure false := by rfl) (hw : swappedStores [tg] e X.env = pure none := by rfl)
  (h1 : (assignEach [tg] X.env).map (·.2) = [assign tg X.env] := by rfl) : PS X (.Assign [tg] e pos) (zCo te g) := by
 intro pins s σ H D I h
 refine wpAny_Assign_stores (thn (he pins s σ H _ I h) fun v s1 ⟨x, H1, I1, r1, q1⟩ => ?_) hs hw
 rw [h1]
 exact thn (hg pins s1 σ H1 x v _ I1 r1 q1) fun _ s2 q => q
theorem zT {i : Nat} {x : Str} {e : Expr} {te : TE} {pos' : Pos} (hN : X.N.Nodup) (hi : X.N[i]? = some x) (hx : Loc X.env.scope x) (he : PE X e te) (hs : swapsWith e (some (.Name x pos')) pos.line X.env = pure false := by rfl) (hf : X.fn x = true \/ X.env.scope.names.lookup x = some .local := by first | exact .inl rfl | exact .inr rfl | assumption) :
  PS X (.Assign [.Name x pos'] e pos) (zCo te (yR i)) := by
 intro pins s σ H D I h
 refine wpAny_Assign_Name (thn (he pins s σ H _ I h) fun v s1 ⟨y, H1, I1, r1, q1⟩ => ?_) hs
 exact zhd I1 hN hi hx r1 (fun s2 I2 => ⟨_, H1, I2, q1⟩) hf
end
structure It where
 go : Nat -> Hp -> Prop
 yld : Nat -> Hp -> V -> Hp -> Prop
 stop : Nat -> Hp -> Prop
def zen (X : Cx) (pins : List (Addr × Obj)) (H : Hp) (b : Addr) : Prop :=
 H b = none /\ b ≠ X.env.locals /\ b ∉ X.fs /\ (b ∈ X.ex \/ X.s₀.heap.objs.size <= b) /\ (∀ x c, X.env.cells.lookup x = some c -> c ≠ b) /\ ∀ p ∈ X.pn ++ pins, p.1 ≠ b
theorem Inv.fpOk {X : Cx} {pins : List (Addr × Obj)} {σ : St} {H H' : Hp} {s : Shared} {b : Addr} (I : Inv X pins σ H s) (hb : s.heap.objs.size <= b) (hn : H' b = none) : zen X pins H' b := by
 refine ⟨hn, Nat.ne_of_gt (Nat.lt_of_lt_of_le I.lt hb), I.nofs hb, .inr (Nat.le_trans I.sz hb), fun x c e z => ?_, fun p hp z => ?_⟩
 ·obtain ⟨v, q⟩ := I.cell x c e
  exact absurd (Nat.lt_of_lt_of_le q.lt (by rw [z]; exact hb)) (Nat.lt_irrefl _)
 ·exact absurd (Nat.lt_of_lt_of_le (Heap.lt_size (I.pin p hp).1) (by rw [z]; exact hb)) (Nat.lt_irrefl _)
structure zov (P : Program) (w : World) (K : PySem.W.Frag) (tg : Expr) (J : It) (fp : List Addr) (it : Addr) (tn : Nat -> Heap -> Prop) : Prop where
 mem : it ∈ fp
 obj : ∀ i h, tn i h -> ∀ b ∈ fp, ∃ o, h.get? b = some o /\ ∀ v, o.data ≠ .cell v
 keep : ∀ i h h', tn i h -> (∀ b ∈ fp, ∀ o, h.get? b = some o -> h'.get? b = some o) -> tn i h'
 item : ∀ (X : Cx), X.prog = P -> X.w = w -> X.K = K -> X.calm = true -> ∀ (i : Nat) (pins : List (Addr × Obj)) (s : Shared) (σ : St) (H : Hp) (E : Value -> Shared -> Prop), Inv X pins σ H s -> (∀ b ∈ fp, zen X pins H b) -> tn i s.heap -> J.go i H ->
  wpAny (model P w) X.A (pyNext (.ref it)) (fun r s1 => ∃ u, r = some u /\
   wpAny (model P w) X.A (letOwnedTupleGo tg (.ref it) u) (fun _ s2 => ∃ x H', Inv X pins σ H' s2 /\ RelV x u /\ J.yld i H x H' /\ tn (i + 1) s2.heap /\ ∀ b ∈ fp, H' b = none) E s1) E s
 done : ∀ (X : Cx), X.prog = P -> X.w = w -> X.K = K -> X.calm = true -> ∀ (i : Nat) (pins : List (Addr × Obj)) (s : Shared) (σ : St) (H : Hp) (E : Value -> Shared -> Prop), Inv X pins σ H s -> (∀ b ∈ fp, zen X pins H b) -> tn i s.heap -> J.stop i H ->
  wpAny (model P w) X.A (pyNext (.ref it)) (fun r s1 => r = none /\ Inv X pins σ H s1) E s
 self : ∀ (A : Around) (i : Nat) (s : Shared) (Q : Value -> Shared -> Prop) (E : Value -> Shared -> Prop), tn i s.heap -> Q (.ref it) s -> wpAny (model P w) A (pyIter (.ref it)) Q E s
abbrev TI := St -> Hp -> (It -> Hp -> Prop) -> Prop
def PIE (X : Cx) (pins : List (Addr × Obj)) (σ : St) (tg : Expr) (R : It -> Hp -> Prop) (itv : Value) (s2 : Shared) : Prop :=
 ∃ (it : Addr) (fp : List Addr) (tn : Nat -> Heap -> Prop) (J : It) (H' : Hp), itv = .ref it /\ Inv X pins σ H' s2 /\ zov X.prog X.w X.K tg J fp it tn /\ tn 0 s2.heap /\ (∀ b ∈ fp, zen X pins H' b) /\ R J H'
def PI (X : Cx) (tg iter : Expr) (wi : TI) : Prop :=
 ∀ (pins : List (Addr × Obj)) (s : Shared) (σ : St) (H : Hp) (R : It -> Hp -> Prop), Inv X pins σ H s -> wi σ H R ->
  wpAny (model X.prog X.w) X.A (eval iter X.env) (fun v s1 => wpAny (model X.prog X.w) X.A (pyIter v) (PIE X pins σ tg R) X.xe s1) X.xe s
theorem zsq {M : Model} {A : Around} {E : Value -> Shared -> Prop} {s : Shared} {tg : Expr} {it : Addr} {u : Value} {o : Obj} {n : String} {vs : Array Value} {Q : Unit -> Shared -> Prop} (ho : s.heap.get? it = some o) (hc : o.cls = .type n) (hd : o.data = .fields vs)
  (hn : ["enumerate", "zip", "dict_itemiterator", "dict_reverseitemiterator", "odict_iterator", "itertools.zip_longest", "itertools.pairwise"].contains n = false) (hQ : Q () s) : wpAny M A (letOwnedTupleGo tg (.ref it) u) Q E s := by
 unfold letOwnedTupleGo
 cases tg <;> first
  | exact wpAny_pure hQ
  | (cases u <;> first
    | exact wpAny_pure hQ
    | (refine wpAny_bind (wpAny_load ho ?_)
       rw [hc, hd]
       show wpAny M A (if (["enumerate", "zip", "dict_itemiterator", "dict_reverseitemiterator", "odict_iterator", "itertools.zip_longest", "itertools.pairwise"].contains n && vs[0]? == some (rawInt _)) = true then _ else _) Q E s
       rw [if_neg (by intro h; rw [hn, Bool.false_and] at h; cases h)]
       exact wpAny_pure hQ))
def Itl (K : PySem.W.Frag) (a : Addr) : It :=
 ⟨fun i H => ∃ xs x, SqL K H a xs /\ xs[i]? = some x, fun i H x H' => H' = H /\ ∀ xs, SqL K H a xs -> xs[i]? = some x, fun i H => ∃ xs, SqL K H a xs /\ xs.length <= i⟩
def Itt (K : PySem.W.Frag) (a : Addr) : It :=
 ⟨fun i H => ∃ xs x, SqT K H a xs /\ xs[i]? = some x, fun i H x H' => H' = H /\ ∀ xs, SqT K H a xs -> xs[i]? = some x, fun i H => ∃ xs, SqT K H a xs /\ xs.length <= i⟩
def Itr (lo : Int) (n : Nat) : It := ⟨fun i _ => i < n, fun i H x H' => H' = H /\ x = .int (lo + i), fun i _ => n <= i⟩
theorem zmn {P : Program} {w : World} {K : PySem.W.Frag} {tg : Expr} (a it : Addr) : zov P w K tg (Itl K a) [it] it (fun i h => h.IsListIter it a i) where
 mem := by simp
 obj := fun i h st b hb => by
  have e : b = it := by simpa using hb
  subst e
  obtain ⟨o, e, c, d⟩ := st
  exact ⟨o, e, fun v z => by rw [d] at z; cases z⟩
 keep := fun i h h' st k => st.at fun o e => k it (by simp) o e
 item := by
  intro X hP hw hK hc i pins s σ H E I hf st hg
  subst hP hw hK
  obtain ⟨xs, x, hq, hx⟩ := hg
  obtain ⟨its, rv, p, hz⟩ := I.list hq
  obtain ⟨u, hu, ru⟩ := rv.get hx
  obtain ⟨f0, f1, f2, f3, f4, f5⟩ := hf it (by simp)
  refine wpAny_pyNext_list_item st p.isList (x := u) (by simpa using hu) fun h' st' sb => ?_
  have I1 : Inv X pins σ H { s with heap := h' } := I.turned (t' := s.toks) (fun b o hb e => (sb.2 b hb).trans e) f0 f1 f3 f4 f5
  obtain ⟨o, e, c, d⟩ := id st'
  exact ⟨u, rfl, zsq (s := { s with heap := h' }) e c d (by decide) ⟨x, H, I1, ru, ⟨rfl, fun ys hy => by rw [I.list_inj hy hq]; exact hx⟩, st', fun b hb => (hf b hb).1⟩⟩
 done := by
  intro X hP hw hK hc i pins s σ H E I hf st hg
  subst hP hw hK
  obtain ⟨xs, hq, hx⟩ := hg
  obtain ⟨its, rv, p, hz⟩ := I.list hq
  obtain ⟨f0, f1, f2, f3, f4, f5⟩ := hf it (by simp)
  have hl := rv.length
  exact wpAny_pyNext_list_end (I.ok.hd hc) st p.isList (by simp; lia) fun h' eb => ⟨rfl, I.turned (t' := s.toks) (fun b o hb e => eb b o hb e) f0 f1 f3 f4 f5⟩
 self := fun _ _ _ _ _ st h => wpAny_pyIter_listiter st h
theorem zig {P : Program} {w : World} {K : PySem.W.Frag} {tg : Expr} (a it : Addr) : zov P w K tg (Itt K a) [it] it (fun i h => h.IsTupleIter it a i) where
 mem := by simp
 obj := fun i h st b hb => by
  have e : b = it := by simpa using hb
  subst e
  obtain ⟨o, e, c, d⟩ := st
  exact ⟨o, e, fun v z => by rw [d] at z; cases z⟩
 keep := fun i h h' st k => st.at fun o e => k it (by simp) o e
 item := by
  intro X hP hw hK hc i pins s σ H E I hf st hg
  subst hP hw hK
  obtain ⟨xs, x, hq, hx⟩ := hg
  obtain ⟨its, rv, p, hz⟩ := I.tuple hq
  obtain ⟨u, hu, ru⟩ := rv.get hx
  obtain ⟨f0, f1, f2, f3, f4, f5⟩ := hf it (by simp)
  refine wpAny_pyNext_tuple_item st (show s.heap.IsTuple a its.toArray from p) (x := u) (by simpa using hu) fun h' st' sb => ?_
  have I1 : Inv X pins σ H { s with heap := h' } := I.turned (t' := s.toks) (fun b o hb e => (sb.2 b hb).trans e) f0 f1 f3 f4 f5
  obtain ⟨o, e, c, d⟩ := id st'
  exact ⟨u, rfl, zsq (s := { s with heap := h' }) e c d (by decide) ⟨x, H, I1, ru, ⟨rfl, fun ys hy => by rw [I.tuple_inj hy hq]; exact hx⟩, st', fun b hb => (hf b hb).1⟩⟩
 done := by
  intro X hP hw hK hc i pins s σ H E I hf st hg
  subst hP hw hK
  obtain ⟨xs, hq, hx⟩ := hg
  obtain ⟨its, rv, p, hz⟩ := I.tuple hq
  obtain ⟨f0, f1, f2, f3, f4, f5⟩ := hf it (by simp)
  have hl := rv.length
  exact wpAny_pyNext_tuple_end (I.ok.hd hc) st (show s.heap.IsTuple a its.toArray from p) (by simp; lia) fun h' eb => ⟨rfl, I.turned (t' := s.toks) (fun b o hb e => eb b o hb e) f0 f1 f3 f4 f5⟩
 self := fun _ _ _ _ _ st h => wpAny_pyIter_tupleiter st h
theorem zih {P : Program} {w : World} {K : PySem.W.Frag} {tg : Expr} (it : Addr) (lo : Int) (n : Nat) : zov P w K tg (Itr lo n) [it] it (fun i h => IsRangeIter h it (lo + (i : Nat) * 1) ((n : Int) - (i : Nat)) 1) where
 mem := by simp
 obj := fun i h st b hb => by
  have e : b = it := by simpa using hb
  subst e
  exact ⟨_, st, fun v z => by
   have z' : Data.fields _ = Data.cell v := z
   cases z'⟩
 keep := fun i h h' st k => k it (by simp) _ st
 item := by
  intro X hP hw hK hc i pins s σ H E I hf st hg
  subst hP hw hK
  obtain ⟨f0, f1, f2, f3, f4, f5⟩ := hf it (by simp)
  have W := Walks.range (prog := X.prog) (w := X.w) (I.ok.hd hc) it lo 1 n
  refine W.item i s _ _ hg st fun v h' tk hv st' kk => ?_
  obtain ⟨t, rfl⟩ := hv
  have I1 : Inv X pins σ H { s with heap := h', toks := tk } := I.turned (fun b o hb e => kk b o (by simpa using hb) e) f0 f1 f3 f4 f5
  refine ⟨_, rfl, zsq (s := { s with heap := h', toks := tk }) (n := "range_iterator") st' rfl rfl (by decide) ⟨.int (lo + i), H, I1, ⟨t, ?_⟩, ⟨rfl, rfl⟩, st', fun b hb => (hf b hb).1⟩⟩
  rw [Int.mul_one]
 done := by
  intro X hP hw hK hc i pins s σ H E I hf st hg
  subst hP hw hK
  obtain ⟨f0, f1, f2, f3, f4, f5⟩ := hf it (by simp)
  exact wpAny_pyNext_range_end (I.ok.hd hc) st (by have : n <= i := hg; lia) fun h' eb => ⟨rfl, I.turned (t' := s.toks) (fun b o hb e => eb b o hb e) f0 f1 f3 f4 f5⟩
 self := fun _ _ _ _ _ st h => wpAny_pyIter_rangeiter st h
section
variable {X : Cx} {tg : Expr}
def zCb (K : PySem.W.Frag) (tl : TE) : TI := fun σ H R => tl σ H fun x H1 => ∃ a, x = .ref a /\ (∃ xs, SqL K H1 a xs) /\ R (Itl K a) H1
def zEy (K : PySem.W.Frag) (tl : TE) : TI := fun σ H R => tl σ H fun x H1 => ∃ a, x = .ref a /\ (∃ xs, SqT K H1 a xs) /\ R (Itt K a) H1
theorem ztr {l : Expr} {tl : TE} (hl : PE X l tl) : PI X tg l (zCb X.K tl) := by
 intro pins s σ H R I h
 refine thn (hl pins s σ H _ I h) fun v s1 ⟨x, H1, I1, r1, q1⟩ => ?_
 obtain ⟨a, e, ⟨xs, hq⟩, q⟩ := q1
 subst e
 cases r1
 obtain ⟨its, rv, p, hz⟩ := I1.list hq
 refine wpAny_pyIter_list p.isList ?_
 refine ⟨s1.heap.objs.size, [s1.heap.objs.size], _, _, H1, rfl, I1.kept (t' := s1.toks) fun b o e => Heap.get?_push_of_some _ e, zmn a _, ⟨_, Heap.get?_push_size _ rfl, rfl, rfl⟩, fun b hb => ?_, q⟩
 have e : b = s1.heap.objs.size := by simpa using hb
 subst e
 exact I1.fpOk (Nat.le_refl _) (I1.hok.fresh (Nat.le_refl _))
theorem zyi {l : Expr} {tl : TE} (hl : PE X l tl) : PI X tg l (zEy X.K tl) := by
 intro pins s σ H R I h
 refine thn (hl pins s σ H _ I h) fun v s1 ⟨x, H1, I1, r1, q1⟩ => ?_
 obtain ⟨a, e, ⟨xs, hq⟩, q⟩ := q1
 subst e
 cases r1
 obtain ⟨its, rv, p, hz⟩ := I1.tuple hq
 refine wpAny_pyIter_tuple (show s1.heap.IsTuple a its.toArray from p) ?_
 refine ⟨s1.heap.objs.size, [s1.heap.objs.size], _, _, H1, rfl, I1.kept (t' := s1.toks) fun b o e => Heap.get?_push_of_some _ e, zig a _, ⟨_, Heap.get?_push_size _ rfl, rfl, rfl⟩, fun b hb => ?_, q⟩
 have e : b = s1.heap.objs.size := by simpa using hb
 subst e
 exact I1.fpOk (Nat.le_refl _) (I1.hok.fresh (Nat.le_refl _))
theorem zpp {pins : List (Addr × Obj)} {σ : St} {H : Hp} {s : Shared} {R : It -> Hp -> Prop} {E : Value -> Shared -> Prop} {lo hi : Int} {t u v : Tok} {tk : Nat} (I : Inv X pins σ H s) (h1 : -(2 ^ 62) <= lo) (h2 : lo < 2 ^ 62) (h3 : -(2 ^ 62) <= hi) (h4 : hi < 2 ^ 62)
  (q : R (Itr lo (hi - lo).toNat) H) : wpAny (model X.prog X.w) X.A (pyIter (.ref s.heap.objs.size)) (PIE X pins σ tg R) E { s with heap := s.heap.push { cls := .type "range", data := .fields #[.int lo t, .int hi u, .int 1 v] }, toks := tk } := by
 refine wpAny_pyIter_range (IsRange.new ..) (small_one h1 h2 h3 h4) ?_
 have I1 : Inv X pins σ H { s with heap := s.heap.push { cls := .type "range", data := .fields #[.int lo t, .int hi u, .int 1 v] }, toks := tk } := I.kept fun b o e => Heap.get?_push_of_some _ e
 refine ⟨(s.heap.push { cls := .type "range", data := .fields #[.int lo t, .int hi u, .int 1 v] }).objs.size, [(s.heap.push { cls := .type "range", data := .fields #[.int lo t, .int hi u, .int 1 v] }).objs.size], _, _, H, rfl,
  I1.kept (t' := tk) fun b o e => Heap.get?_push_of_some _ e, zih _ lo (hi - lo).toNat, ?_, fun b hb => ?_, q⟩
 ·have e1 : lo + ((0 : Nat) : Int) * 1 = lo := by simp
  have e2 : (((hi - lo).toNat : Nat) : Int) - ((0 : Nat) : Int) = Builtin.Range.rangeSize lo hi 1 := by rw [rangeSize_one]; split <;> lia
  show IsRangeIter _ _ (lo + ((0 : Nat) : Int) * 1) ((((hi - lo).toNat : Nat) : Int) - ((0 : Nat) : Int)) 1
  rw [e1, e2]
  exact Heap.get?_push_size _ rfl
 ·have e : b = (s.heap.push { cls := .type "range", data := .fields #[.int lo t, .int hi u, .int 1 v] }).objs.size := by simpa using hb
  subst e
  exact I1.fpOk (Nat.le_refl _) (I1.hok.fresh (Nat.le_refl _))
def zCa (ta : TA) : TI := fun σ H R => ta σ H fun vs H1 => ∃ j : Int, vs = [.int j] /\ -(2 ^ 62) <= j /\ j < 2 ^ 62 /\ R (Itr 0 j.toNat) H1
theorem zdq {a : Expr} {ta : TA} {p pos : Pos} (hg : Gl X "range") (hm : X.mg "range" = none) (ha : PA X [a] ta) (hs : starEach [a] X.env = [(false, eval a X.env)] := by rfl) : PI X tg (.Call (.Name "range" p) [a] [] pos) (zCa ta) := by
 intro pins s σ H R I h
 refine Call_ (zcy I hg hm boot_range (PyProof.Rows.callWith_type1 (thn (ha pos pins s σ H _ I h) fun us s1 ⟨vs, H1, I1, r1, q1⟩ => ?_) hs rfl))
 obtain ⟨j, e, q1, q2, q⟩ := q1
 subst e
 cases r1 with
 | cons r rr =>
  cases rr
  obtain ⟨t, rfl⟩ := r
  exact call_range_1 (zpp I1 (by lia) (by lia) q1 q2 (by simpa using q))
def zDk (wi : TI) (g : TG) (tb : TS) : TS := fun D σ H => wi σ H fun J H1 => ∃ W : Nat -> Nat -> St -> Hp -> Prop, (∃ m, W 0 m σ H1) /\ ∀ i m σ H, W i m σ H ->
 (J.stop i H /\ D.nx σ H) \/ (J.go i H /\ ∃ N : St -> Hp -> Prop, (∀ σ' H', N σ' H' -> ∃ m', m' < m /\ W (i + 1) m' σ' H') /\ ∀ x H', J.yld i H x H' -> g x σ H' fun σ2 H2 => tb { D with nx := N, ct := N, bk := D.nx } σ2 H2)
def zct (fp : List Addr) (h : Heap) : List (Addr × Obj) := fp.filterMap fun b => (h.get? b).map fun o => (b, o)
theorem vI {fp : List Addr} {h : Heap} {b : Addr} {o : Obj} (hb : b ∈ fp) (e : h.get? b = some o) : (b, o) ∈ zct fp h := List.mem_filterMap.mpr ⟨b, hb, by rw [e]; rfl⟩
theorem znd {fp : List Addr} {h : Heap} {p : Addr × Obj} (hp : p ∈ zct fp h) : p.1 ∈ fp /\ h.get? p.1 = some p.2 := by
 obtain ⟨b, hb, e⟩ := List.mem_filterMap.mp hp
 cases q : h.get? b with
 | none => rw [q] at e; cases e
 | some o =>
  rw [q] at e
  have e' : (b, o) = p := Option.some.inj e
  subst e'
  exact ⟨hb, q⟩
theorem Inv.pinned {pins : List (Addr × Obj)} {σ : St} {H : Hp} {s : Shared} {fp : List Addr} (I : Inv X pins σ H s) (hf : ∀ b ∈ fp, zen X pins H b) (ho : ∀ b ∈ fp, ∃ o, s.heap.get? b = some o /\ ∀ v, o.data ≠ .cell v) : Inv X (pins ++ zct fp s.heap) σ H s :=
 I.pins_of fun p hp => (List.mem_append.mp hp).elim (fun z => I.pin p (List.mem_append_right _ z)) fun z => by
  obtain ⟨hb, e⟩ := znd z
  obtain ⟨f0, f1, f2, _⟩ := hf p.1 hb
  obtain ⟨o, e', d⟩ := ho p.1 hb
  rw [e] at e'; cases e'
  exact ⟨e, f0, f1, f2, d⟩
theorem Inv.unpinned {pins pl : List (Addr × Obj)} {σ : St} {H : Hp} {s : Shared} (I : Inv X (pins ++ pl) σ H s) : Inv X pins σ H s := I.pins_of fun p hp => I.pin p (List.mem_append_right _ (List.mem_append_left _ hp))
theorem wX {iter : Expr} {body : List Stmt} {wi : TI} {g : TG} {tb : TS} {pos : Pos} (hp : PassesOwn (model X.prog X.w) X.A X.env X.xe) (hc : X.calm = true) (hi : PI X tg iter wi) (hg : PG X tg g) (hb : PSs X body tb)
  (hs : ∀ x, foldedSetIterable iter X.env x = pure x := by intro _; rfl) : PS X (.For tg iter body [] pos) (zDk wi g tb) := by
 intro pins s σ H D I h
 refine wpAny_For (thn (hi pins s σ H _ I h) fun v s1 h1 => thn h1 fun itv s2 h2 => ?_) hs
 obtain ⟨it, fp, tn, J, H2, e, I2, T, st2, f2, W, ⟨m0, w0⟩, turn⟩ := h2
 subst e
 have stat : ∀ {H' : Hp}, (∀ b ∈ fp, H' b = none) -> ∀ b ∈ fp, zen X pins H' b := fun hn b hb => ⟨hn b hb, (f2 b hb).2⟩
 refine codeAny_forLoop_any (fun n s' => ∃ i σ' H', Inv X pins σ' H' s' /\ tn i s'.heap /\ (∀ b ∈ fp, H' b = none) /\ W i n σ' H') ?_ m0 ⟨0, σ, H2, I2, st2, fun b hb => (f2 b hb).1, w0⟩
 rintro n s3 ⟨i, σ3, H3, I3, st3, fr3, w3⟩
 rcases turn i n σ3 H3 w3 with ⟨stop, qn⟩ | ⟨go, N, hN, step⟩
 ·refine wpAny_passesOwn hp (thn (T.done X rfl rfl rfl hc i pins s3 σ3 H3 X.xe I3 (stat fr3) st3 stop) fun r s4 ⟨hr, I4⟩ => ?_)
  subst hr
  exact wpAny_execs_nil ⟨σ3, H3, I4, qn⟩
 ·refine wpAny_passesOwn hp (thn (T.item X rfl rfl rfl hc i pins s3 σ3 H3 X.xe I3 (stat fr3) st3 go) fun r s4 ⟨u, hr, h4⟩ => ?_)
  subst hr
  refine wpAny_passesOwn hp (thn h4 fun _ s5 ⟨x, H5, I5, r5, y5, st5, fr5⟩ => ?_)
  have I5' := I5.pinned (stat fr5) (T.obj _ _ st5)
  refine wpAny_passesOwn hp (thn (hg _ s5 σ3 H5 x u _ I5' r5 (step x H5 y5)) fun _ s6 ⟨σ6, H6, I6, q6⟩ => ?_)
  refine wpAny_passesOwn hp (thn (hb _ s6 σ6 H6 _ I6 q6) fun f s7 q7 => ?_)
  have again : ∀ {σ7 : St} {H7 : Hp}, Inv X (pins ++ zct fp s5.heap) σ7 H7 s7 -> N σ7 H7 -> ∃ m, m < n /\ ∃ i σ' H', Inv X pins σ' H' s7 /\ tn i s7.heap /\ (∀ b ∈ fp, H' b = none) /\ W i m σ' H' := fun {σ7 H7} I7 n7 => by
   obtain ⟨m', hm, w7⟩ := hN σ7 H7 n7
   refine ⟨m', hm, i + 1, σ7, H7, I7.unpinned, T.keep _ _ _ st5 fun b hb o e => (I7.pin (b, o) (List.mem_append_right _ (List.mem_append_right _ (vI hb e)))).1, fun b hb => ?_, w7⟩
   obtain ⟨o, e, d⟩ := T.obj _ _ st5 b hb
   exact (I7.pin (b, o) (List.mem_append_right _ (List.mem_append_right _ (vI hb e)))).2.1
  cases f with
  | next => obtain ⟨σ7, H7, I7, n7⟩ := q7; exact again I7 n7
  | cont => obtain ⟨σ7, H7, I7, n7⟩ := q7; exact again I7 n7
  | brk => obtain ⟨σ7, H7, I7, q7⟩ := q7; exact ⟨σ7, H7, I7.unpinned, q7⟩
  | ret v => obtain ⟨x7, σ7, H7, I7, r7, q7⟩ := q7; exact ⟨x7, σ7, H7, I7.unpinned, r7, q7⟩
end
theorem zqo {K : PySem.W.Frag} {a : Addr} {xs : List V} {g : TG} {tb : TS} {D : zeo} {σ : St} {H : Hp} (Pv : Nat -> St -> Hp -> Prop) (h0 : Pv 0 σ H) (hl : ∀ i σ H, i <= xs.length -> Pv i σ H -> SqL K H a xs)
  (hs : ∀ i x σ H, xs[i]? = some x -> Pv i σ H -> g x σ H fun σ2 H2 => tb { D with nx := Pv (i + 1), ct := Pv (i + 1), bk := D.nx } σ2 H2) (hd : ∀ σ H, Pv xs.length σ H -> D.nx σ H) :
  ∃ W : Nat -> Nat -> St -> Hp -> Prop, (∃ m, W 0 m σ H) /\ ∀ i m σ H, W i m σ H ->
   ((Itl K a).stop i H /\ D.nx σ H) \/ ((Itl K a).go i H /\ ∃ N : St -> Hp -> Prop, (∀ σ' H', N σ' H' -> ∃ m', m' < m /\ W (i + 1) m' σ' H') /\ ∀ x H', (Itl K a).yld i H x H' -> g x σ H' fun σ2 H2 => tb { D with nx := N, ct := N, bk := D.nx } σ2 H2) := by
 refine ⟨fun i m σ H => m = xs.length - i /\ i <= xs.length /\ Pv i σ H, ⟨xs.length, by simp, Nat.zero_le _, h0⟩, ?_⟩
 rintro i m σ H ⟨rfl, hi, p⟩
 have q := hl i σ H hi p
 by_cases hlt : i < xs.length
 ·refine .inr ⟨⟨xs, xs[i], q, by simp [hlt]⟩, Pv (i + 1), fun σ' H' p' => ⟨xs.length - (i + 1), by lia, rfl, hlt, p'⟩, fun x H' y => ?_⟩
  obtain ⟨e, y⟩ := y
  subst e
  exact hs i x σ _ (y xs q) p
 ·have e : i = xs.length := by lia
  subst e
  exact .inl ⟨⟨xs, q, Nat.le_refl _⟩, hd σ H p⟩
theorem zun {K : PySem.W.Frag} {a : Addr} {xs : List V} {g : TG} {tb : TS} {D : zeo} {σ : St} {H : Hp} (Pv : Nat -> St -> Hp -> Prop) (h0 : Pv 0 σ H) (hl : ∀ i σ H, i <= xs.length -> Pv i σ H -> SqT K H a xs)
  (hs : ∀ i x σ H, xs[i]? = some x -> Pv i σ H -> g x σ H fun σ2 H2 => tb { D with nx := Pv (i + 1), ct := Pv (i + 1), bk := D.nx } σ2 H2) (hd : ∀ σ H, Pv xs.length σ H -> D.nx σ H) :
  ∃ W : Nat -> Nat -> St -> Hp -> Prop, (∃ m, W 0 m σ H) /\ ∀ i m σ H, W i m σ H ->
   ((Itt K a).stop i H /\ D.nx σ H) \/ ((Itt K a).go i H /\ ∃ N : St -> Hp -> Prop, (∀ σ' H', N σ' H' -> ∃ m', m' < m /\ W (i + 1) m' σ' H') /\ ∀ x H', (Itt K a).yld i H x H' -> g x σ H' fun σ2 H2 => tb { D with nx := N, ct := N, bk := D.nx } σ2 H2) := by
 refine ⟨fun i m σ H => m = xs.length - i /\ i <= xs.length /\ Pv i σ H, ⟨xs.length, by simp, Nat.zero_le _, h0⟩, ?_⟩
 rintro i m σ H ⟨rfl, hi, p⟩
 have q := hl i σ H hi p
 by_cases hlt : i < xs.length
 ·refine .inr ⟨⟨xs, xs[i], q, by simp [hlt]⟩, Pv (i + 1), fun σ' H' p' => ⟨xs.length - (i + 1), by lia, rfl, hlt, p'⟩, fun x H' y => ?_⟩
  obtain ⟨e, y⟩ := y
  subst e
  exact hs i x σ _ (y xs q) p
 ·have e : i = xs.length := by lia
  subst e
  exact .inl ⟨⟨xs, q, Nat.le_refl _⟩, hd σ H p⟩
theorem zdx {lo : Int} {n : Nat} {g : TG} {tb : TS} {D : zeo} {σ : St} {H : Hp} (Pv : Nat -> St -> Hp -> Prop) (h0 : Pv 0 σ H)
  (hs : ∀ i σ H, i < n -> Pv i σ H -> g (.int (lo + i)) σ H fun σ2 H2 => tb { D with nx := Pv (i + 1), ct := Pv (i + 1), bk := D.nx } σ2 H2) (hd : ∀ σ H, Pv n σ H -> D.nx σ H) :
  ∃ W : Nat -> Nat -> St -> Hp -> Prop, (∃ m, W 0 m σ H) /\ ∀ i m σ H, W i m σ H ->
   ((Itr lo n).stop i H /\ D.nx σ H) \/ ((Itr lo n).go i H /\ ∃ N : St -> Hp -> Prop, (∀ σ' H', N σ' H' -> ∃ m', m' < m /\ W (i + 1) m' σ' H') /\ ∀ x H', (Itr lo n).yld i H x H' -> g x σ H' fun σ2 H2 => tb { D with nx := N, ct := N, bk := D.nx } σ2 H2) := by
 refine ⟨fun i m σ H => m = n - i /\ i <= n /\ Pv i σ H, ⟨n, by simp, Nat.zero_le _, h0⟩, ?_⟩
 rintro i m σ H ⟨rfl, hi, p⟩
 by_cases hlt : i < n
 ·refine .inr ⟨hlt, Pv (i + 1), fun σ' H' p' => ⟨n - (i + 1), by lia, rfl, hlt, p'⟩, fun x H' y => ?_⟩
  obtain ⟨e, y⟩ := y
  subst e y
  exact hs i σ _ hlt p
 ·have e : i = n := by lia
  subst e
  exact .inl ⟨Nat.le_refl _, hd σ H p⟩
abbrev R2 := V -> V -> Hp -> VK -> Prop
def OpR (X : Cx) (f : Value -> Value -> Sem Value) (r : R2) : Prop :=
 ∀ (pins : List (Addr × Obj)) (s : Shared) (σ : St) (H : Hp) (x y : V) (v u : Value) (Q : VK), Inv X pins σ H s -> RelV x v -> RelV y u -> r x y H Q ->
  wpAny (model X.prog X.w) X.A (f v u) (EP X pins σ Q) X.xe s
def UnR (X : Cx) (f : Value -> Sem Value) (r : V -> Hp -> VK -> Prop) : Prop :=
 ∀ (pins : List (Addr × Obj)) (s : Shared) (σ : St) (H : Hp) (x : V) (v : Value) (Q : VK), Inv X pins σ H s -> RelV x v -> r x H Q ->
  wpAny (model X.prog X.w) X.A (f v) (EP X pins σ Q) X.xe s
def xL (X : Cx) (f : Value) (r : List V -> Hp -> VK -> Prop) : Prop :=
 ∀ (pins : List (Addr × Obj)) (s : Shared) (σ : St) (H : Hp) (xs : List V) (us : List Value) (Q : VK), Inv X pins σ H s -> Vals xs us -> r xs H Q ->
  wpAny (model X.prog X.w) X.A (call f us) (EP X pins σ Q) X.xe s
def zFd (X : Cx) (r : V -> Hp -> (Bool -> Hp -> Prop) -> Prop) : Prop :=
 ∀ (pins : List (Addr × Obj)) (s : Shared) (σ : St) (H : Hp) (x : V) (v : Value) (Q : Bool -> Hp -> Prop), Inv X pins σ H s -> RelV x v -> r x H Q ->
  wpAny (model X.prog X.w) X.A (truthy v) (TP X pins σ Q) X.xe s
def tOp (r : R2) (ta tb : TE) : TE := fun σ H Q => ta σ H fun x H1 => tb σ H1 fun y H2 => r x y H2 Q
def tUn (r : V -> Hp -> VK -> Prop) (ta : TE) : TE := fun σ H Q => ta σ H fun x H1 => r x H1 Q
def rI (C : Int -> Int -> Prop) (g : Int -> Int -> V) : R2 := fun x y H Q => ∃ i j, x = .int i /\ y = .int j /\ C i j /\ Q (g i j) H
def rI0 (g : Int -> Int -> V) : R2 := fun x y H Q => ∃ i j, x = .int i /\ y = .int j /\ Q (g i j) H
def rU (g : Int -> V) : V -> Hp -> VK -> Prop := fun x H Q => ∃ i, x = .int i /\ Q (g i) H
section
variable {X : Cx} {a b c : Expr} {ta tb tc : TE} {pos : Pos}
theorem zAj (ha : PE X a ta) (hb : PE X b tb) {pins : List (Addr × Obj)} {s : Shared} {σ : St} {H : Hp} {R : V -> V -> Hp -> Prop} (I : Inv X pins σ H s)
  (h : ta σ H fun x H1 => tb σ H1 fun y H2 => R x y H2) {Q : Value -> Shared -> Prop} {f : Value -> Value -> Sem Value}
  (hf : ∀ v u s2 x y H2, Inv X pins σ H2 s2 -> RelV x v -> RelV y u -> R x y H2 -> wpAny (model X.prog X.w) X.A (f v u) Q X.xe s2) :
  wpAny (model X.prog X.w) X.A (eval a X.env) (fun v s₁ => wpAny (model X.prog X.w) X.A (eval b X.env) (fun u s₂ => wpAny (model X.prog X.w) X.A (f v u) Q X.xe s₂) X.xe s₁) X.xe s := by
 refine thn (ha pins s σ H _ I h) fun v s1 ⟨x, H1, I1, r1, q1⟩ => ?_
 refine thn (hb pins s1 σ H1 _ I1 q1) fun u s2 ⟨y, H2, I2, r2, q2⟩ => ?_
 exact hf v u s2 x y H2 I2 r1 r2 q2
theorem yB {op : Operator} {r : R2} (ho : OpR X (binaryOp op) r) (ha : PE X a ta) (hb : PE X b tb) : PE X (.BinOp a op b pos) (tOp r ta tb) := by
 intro pins s σ H Q I h
 exact wpAny_BinOp (zAj ha hb I h fun v u s2 x y H2 I2 rx ry q => ho pins s2 σ H2 x y v u Q I2 rx ry q)
theorem zsn {op : UnaryOp} {r : V -> Hp -> VK -> Prop} (ho : UnR X (unaryOp op) r) (ha : PE X a ta) : PE X (.UnaryOp op a pos) (tUn r ta) := by
 intro pins s σ H Q I h
 exact UnaryOp_ (thn (ha pins s σ H _ I h) fun v s1 ⟨x, H1, I1, r1, q1⟩ => ho pins s1 σ H1 x v Q I1 r1 q1)
theorem opI {f : Value -> Value -> Sem Value} {C : Int -> Int -> Prop} {g : Int -> Int -> Int}
  (rule : ∀ (i j : Int) (t u : Tok) (s : Shared) (Q : Value -> Shared -> Prop) (E : Value -> Shared -> Prop), C i j -> Q (.int (g i j) s.toks) { s with toks := s.toks + 1 } -> wpAny (model X.prog X.w) X.A (f (.int i t) (.int j u)) Q E s) :
  OpR X f (rI C fun i j => .int (g i j)) := by
 intro pins s σ H x y v u Q I rx ry h
 obtain ⟨i, j, rfl, rfl, hc, q⟩ := h
 obtain ⟨t, rfl⟩ := rx
 obtain ⟨t', rfl⟩ := ry
 exact rule i j t t' s _ _ hc ⟨.int (g i j), H, I.tok _, ⟨_, rfl⟩, q⟩
theorem zCw {f : Value -> Value -> Sem Value} {g : Int -> Int -> Int}
  (rule : ∀ (i j : Int) (t u : Tok) (s : Shared) (Q : Value -> Shared -> Prop) (E : Value -> Shared -> Prop), Q (.int (g i j) s.toks) { s with toks := s.toks + 1 } -> wpAny (model X.prog X.w) X.A (f (.int i t) (.int j u)) Q E s) :
  OpR X f (rI0 fun i j => .int (g i j)) := by
 intro pins s σ H x y v u Q I rx ry h
 obtain ⟨i, j, rfl, rfl, q⟩ := h
 obtain ⟨t, rfl⟩ := rx
 obtain ⟨t', rfl⟩ := ry
 exact rule i j t t' s _ _ ⟨.int (g i j), H, I.tok _, ⟨_, rfl⟩, q⟩
theorem zwf {f : Value -> Value -> Sem Value} {g : Int -> Int -> Bool}
  (rule : ∀ (i j : Int) (t u : Tok) (s : Shared) (Q : Value -> Shared -> Prop) (E : Value -> Shared -> Prop), Q (.bool (g i j)) s -> wpAny (model X.prog X.w) X.A (f (.int i t) (.int j u)) Q E s) :
  OpR X f (rI0 fun i j => .bl (g i j)) := by
 intro pins s σ H x y v u Q I rx ry h
 obtain ⟨i, j, rfl, rfl, q⟩ := h
 obtain ⟨t, rfl⟩ := rx
 obtain ⟨t', rfl⟩ := ry
 exact rule i j t t' s _ _ ⟨.bl (g i j), H, I, rfl, q⟩
def zFi (i j : Int) : Prop := 0 < j /\ j < 1073741824
def CMul (i j : Int) : Prop := (-(2 ^ 64) < i /\ i < 2 ^ 64) \/ (-(2 ^ 64) < j /\ j < 2 ^ 64)
theorem CMul.ok {i j : Int} (h : CMul i j) : IntMulOk i j := by
 rcases h with ⟨h1, h2⟩ | ⟨h1, h2⟩
 ·exact .of_left (intBits_le_64 h1 h2)
 ·exact .of_right (intBits_le_64 h1 h2)
theorem xH : OpR X (binaryOp .Add) (rI0 fun i j => .int (i + j)) := zCw fun _ _ _ _ _ _ _ q => add_int q
theorem zao : OpR X (binaryOp .Sub) (rI0 fun i j => .int (i - j)) := zCw fun _ _ _ _ _ _ _ q => sub_int q
theorem zju : OpR X (binaryOp .Mult) (rI CMul fun i j => .int (i * j)) := opI fun _ _ _ _ _ _ _ hc q => mul_int q hc.ok
theorem vP : OpR X (binaryOp .FloorDiv) (rI zFi fun i j => .int (i / j)) := opI fun i j _ _ _ _ _ hc q => by
 have h1 : (0 : Int) < j := hc.1
 have h2 : j < 1073741824 := hc.2
 exact floordiv_int (by lia) (by rw [Int.fdiv_eq_ediv_of_nonneg i (by lia)]; exact q) (.inl (PyProof.noPylong_small (by lia)))
theorem x6 : OpR X (binaryOp .Mod) (rI (fun _ j => 0 < j) fun i j => .int (i % j)) := opI fun i j _ _ _ _ _ hc q => by
 have h1 : (0 : Int) < j := hc
 exact mod_int' (by lia) (by rw [Int.fmod_eq_emod_of_nonneg i (by lia)]; exact q)
theorem unI {f : Value -> Sem Value} {g : Int -> Int}
  (rule : ∀ (i : Int) (t : Tok) (s : Shared) (Q : Value -> Shared -> Prop) (E : Value -> Shared -> Prop), Q (.int (g i) s.toks) { s with toks := s.toks + 1 } -> wpAny (model X.prog X.w) X.A (f (.int i t)) Q E s) :
  UnR X f (rU fun i => .int (g i)) := by
 intro pins s σ H x v Q I rx h
 obtain ⟨i, rfl, q⟩ := h
 obtain ⟨t, rfl⟩ := rx
 exact rule i t s _ _ ⟨.int (g i), H, I.tok _, ⟨_, rfl⟩, q⟩
theorem zjo : UnR X (unaryOp .USub) (rU fun i => .int (-i)) := unI fun _ _ _ _ _ q => neg_int q
end
def zCp : V -> V -> Bool
 | .non, .non => true | .non, .int _ => true | .int _, .non => true | .non, .bl _ => true | .bl _, .non => true | .non, .str _ => true | .str _, .non => true
 | .int _, .int _ => true | .bl _, .bl _ => true | .str _, .str _ => true | .byt _, .byt _ => true
 | .int _, .str _ => true | .str _, .int _ => true | .bl _, .str _ => true | .str _, .bl _ => true
 | _, _ => false
def rEq : R2 := fun x y H Q => zCp x y = true /\ Q (.bl (decide (x = y))) H
def rNe : R2 := fun x y H Q => zCp x y = true /\ Q (.bl (!decide (x = y))) H
theorem dec_int {i j : Int} : decide (V.int i = V.int j) = (i == j) := by
 rw [Bool.eq_iff_iff]
 simp
theorem zsh {i j : Bool} : decide (V.bl i = V.bl j) = (i == j) := by
 rw [Bool.eq_iff_iff]
 simp
theorem zlu {i j : Str} : decide (V.str i = V.str j) = (i == j) := by
 rw [Bool.eq_iff_iff]
 simp
theorem zlv {i j : Array UInt8} : decide (V.byt i = V.byt j) = (i.toList == j.toList) := by
 rw [Bool.eq_iff_iff]
 cases i
 cases j
 simp
section
variable {X : Cx} {a b c : Expr} {ta tb tc : TE} {pos : Pos}
theorem yP {pins : List (Addr × Obj)} {σ : St} {H : Hp} {s : Shared} {Q : VK} {k k' : Bool} (I : Inv X pins σ H s) (q : Q (.bl k) H) (e : k = k') : EP X pins σ Q (.bool k') s := by
 subst e
 exact ⟨.bl k, H, I, rfl, q⟩
theorem kF : OpR X (compareOp .Eq) rEq := by
 intro pins s σ H x y v u Q I rx ry h
 obtain ⟨hs, q⟩ := h
 cases x with
 | non =>
  cases rx
  cases y with
  | non => cases ry; exact PySem.EqNone.eq_none_none (yP I q (by simp))
  | bl j => cases ry; exact PySem.EqNone.eq_none_bool (yP I q (by simp))
  | int j => obtain ⟨t', rfl⟩ := ry; exact PySem.EqNone.eq_none_int (yP I q (by simp))
  | str j => obtain ⟨t', rfl⟩ := ry; exact PySem.EqNone.eq_none_str (yP I q (by simp))
  | _ => exact absurd (show false = true from hs) Bool.false_ne_true
 | bl i =>
  cases rx
  cases y with
  | non => cases ry; exact PySem.EqNone.eq_bool_none (yP I q (by simp))
  | bl j => cases ry; exact eq_bool (yP I q zsh)
  | str j => obtain ⟨t', rfl⟩ := ry; exact PySem.EqMixed.eq_bool_str (yP I q (by simp))
  | _ => exact absurd (show false = true from hs) Bool.false_ne_true
 | int i =>
  obtain ⟨t, rfl⟩ := rx
  cases y with
  | non => cases ry; exact PySem.EqNone.eq_int_none (yP I q (by simp))
  | int j => obtain ⟨t', rfl⟩ := ry; exact eq_int (yP I q dec_int)
  | str j => obtain ⟨t', rfl⟩ := ry; exact PySem.EqMixed.eq_int_str (yP I q (by simp))
  | _ => exact absurd (show false = true from hs) Bool.false_ne_true
 | str i =>
  obtain ⟨t, rfl⟩ := rx
  cases y with
  | non => cases ry; exact PySem.EqNone.eq_str_none (yP I q (by simp))
  | bl j => cases ry; exact PySem.EqMixed.eq_str_bool (yP I q (by simp))
  | int j => obtain ⟨t', rfl⟩ := ry; exact PySem.EqMixed.eq_str_int (yP I q (by simp))
  | str j => obtain ⟨t', rfl⟩ := ry; exact eq_str (yP I q zlu)
  | _ => exact absurd (show false = true from hs) Bool.false_ne_true
 | byt i =>
  obtain ⟨t, rfl⟩ := rx
  cases y with
  | byt j => obtain ⟨t', rfl⟩ := ry; exact PySem.W.eq_bytes (yP I q zlv)
  | _ => exact absurd (show false = true from hs) Bool.false_ne_true
 | _ => cases y <;> exact absurd (show false = true from hs) Bool.false_ne_true
theorem zbj : OpR X (compareOp .NotEq) rNe := by
 intro pins s σ H x y v u Q I rx ry h
 obtain ⟨hs, q⟩ := h
 cases x with
 | non =>
  cases rx
  cases y with
  | non => cases ry; exact PySem.EqNone.ne_none_none (yP I q (by simp))
  | bl j => cases ry; exact PySem.EqNone.ne_none_bool (yP I q (by simp))
  | int j => obtain ⟨t', rfl⟩ := ry; exact PySem.EqNone.ne_none_int (yP I q (by simp))
  | str j => obtain ⟨t', rfl⟩ := ry; exact PySem.EqNone.ne_none_str (yP I q (by simp))
  | _ => exact absurd (show false = true from hs) Bool.false_ne_true
 | bl i =>
  cases rx
  cases y with
  | non => cases ry; exact PySem.EqNone.ne_bool_none (yP I q (by simp))
  | bl j => cases ry; exact ne_bool (yP I q (congrArg not zsh))
  | str j => obtain ⟨t', rfl⟩ := ry; exact PySem.EqMixed.ne_bool_str (yP I q (by simp))
  | _ => exact absurd (show false = true from hs) Bool.false_ne_true
 | int i =>
  obtain ⟨t, rfl⟩ := rx
  cases y with
  | non => cases ry; exact PySem.EqNone.ne_int_none (yP I q (by simp))
  | int j => obtain ⟨t', rfl⟩ := ry; exact ne_int (yP I q (congrArg not dec_int))
  | str j => obtain ⟨t', rfl⟩ := ry; exact PySem.EqMixed.ne_int_str (yP I q (by simp))
  | _ => exact absurd (show false = true from hs) Bool.false_ne_true
 | str i =>
  obtain ⟨t, rfl⟩ := rx
  cases y with
  | non => cases ry; exact PySem.EqNone.ne_str_none (yP I q (by simp))
  | bl j => cases ry; exact PySem.EqMixed.ne_str_bool (yP I q (by simp))
  | int j => obtain ⟨t', rfl⟩ := ry; exact PySem.EqMixed.ne_str_int (yP I q (by simp))
  | str j => obtain ⟨t', rfl⟩ := ry; exact ne_str (yP I q (congrArg not zlu))
  | _ => exact absurd (show false = true from hs) Bool.false_ne_true
 | byt i =>
  obtain ⟨t, rfl⟩ := rx
  cases y with
  | byt j => obtain ⟨t', rfl⟩ := ry; exact PySem.W.ne_bytes (yP I q (congrArg not zlv))
  | _ => exact absurd (show false = true from hs) Bool.false_ne_true
 | _ => cases y <;> exact absurd (show false = true from hs) Bool.false_ne_true
theorem zwe : OpR X (compareOp .Lt) (rI0 fun i j => .bl (decide (i < j))) := zwf fun _ _ _ _ _ _ _ q => lt_int q
theorem zoj : OpR X (compareOp .LtE) (rI0 fun i j => .bl (decide (i <= j))) := zwf fun _ _ _ _ _ _ _ q => le_int q
theorem zso : OpR X (compareOp .Gt) (rI0 fun i j => .bl (decide (j < i))) := zwf fun _ _ _ _ _ _ _ q => gt_int q
theorem zBk : OpR X (compareOp .GtE) (rI0 fun i j => .bl (decide (j <= i))) := zwf fun _ _ _ _ _ _ _ q => ge_int q
theorem zyq : OpR X (compareOp .Is) (fun x y H Q => y = .non /\ Q (.bl (decide (x = .non))) H) := by
 intro pins s σ H x y v u Q I rx ry h
 obtain ⟨rfl, q⟩ := h
 cases ry
 refine is_none_gen (yP I q ?_)
 cases x <;> first
  | (cases rx; rfl)
  | (obtain ⟨t, rfl⟩ := rx; rfl)
theorem yF (b : Expr) {op : CmpOp} (h : op ≠ .In := by decide) (h2 : op ≠ .NotIn := by decide) : behindInMarks op b = false := by
 have e1 : (op == CmpOp.In) = false := by cases op <;> first | rfl | exact absurd rfl h
 have e2 : (op == CmpOp.NotIn) = false := by cases op <;> first | rfl | exact absurd rfl h2
 cases b <;> simp [behindInMarks, e1, e2]
theorem zfe {op : CmpOp} {r : R2} (ho : OpR X (compareOp op) r) (ha : PE X a ta) (hb : PE X b tb) (hm : behindInMarks op b = false) : PE X (.Compare a [op] [b] pos) (tOp r ta tb) := by
 intro pins s σ H Q I h
 exact wpAny_Compare1 (zAj ha hb I h fun v u s2 x y H2 I2 rx ry q => ho pins s2 σ H2 x y v u Q I2 rx ry q) hm
def zAp (t : TE) : TT := fun σ H Q => t σ H fun x H' => ∃ k, x = .bl k /\ Q k H'
theorem zX {op : CmpOp} {r : R2} (ho : OpR X (compareOp op) r) (ha : PE X a ta) (hb : PE X b tb) (hm : behindInMarks op b = false) : PT X (.Compare a [op] [b] pos) (zAp (tOp r ta tb)) := by
 intro pins s σ H Q I h
 refine wpAny_isTrue_Compare1 (thn (ha pins s σ H _ I h) fun v s1 ⟨x, H1, I1, r1, q1⟩ => thn (hb pins s1 σ H1 _ I1 q1) fun u s2 ⟨y, H2, I2, r2, q2⟩ =>
  thn (ho pins s2 σ H2 x y v u _ I2 r1 r2 q2) fun c s3 ⟨z, H3, I3, r3, k, e, q3⟩ => ?_) hm
 subst e
 cases r3
 exact wpAny_truthy_bool ⟨H3, I3, q3⟩
def zxm (r r' : R2) (ta tb tc : TE) : TE := fun σ H Q => ta σ H fun x H1 => tb σ H1 fun y H2 => r x y H2 fun z H3 => ∃ k, z = .bl k /\
 (if k = true then tc σ H3 fun w' H4 => r' y w' H4 Q else Q (.bl false) H3)
theorem zpy {op op' : CmpOp} {r r' : R2} (ho : OpR X (compareOp op) r) (ho' : OpR X (compareOp op') r') (ha : PE X a ta) (hb : PE X b tb) (hc : PE X c tc)
  (hm : lastMarks [op, op'] [b, c] = false := by with_unfolding_all rfl) : PE X (.Compare a [op, op'] [b, c] pos) (zxm r r' ta tb tc) := by
 intro pins s σ H Q I h
 refine Compare_chain (thn (ha pins s σ H _ I h) fun v s1 ⟨x, H1, I1, r1, q1⟩ => chain_link (thn (hb pins s1 σ H1 _ I1 q1) fun u s2 ⟨y, H2, I2, r2, q2⟩ =>
  thn (ho pins s2 σ H2 x y v u _ I2 r1 r2 q2) fun d s3 ⟨z, H3, I3, r3, k, e, q3⟩ => ?_)) hm
 subst e
 cases r3
 refine wpAny_truthy_bool ?_
 cases k with
 | false => exact ite_ff ⟨.bl false, H3, I3, rfl, q3⟩
 | true => exact ite_tt (chain_last (thn (hc pins s3 σ H3 _ I3 q3) fun w' s4 ⟨z', H4, I4, r4, q4⟩ => ho' pins s4 σ H4 y z' u w' Q I4 r2 r4 q4))
def zDc (K : PySem.W.Frag) (x : V) (H : Hp) (k : Bool) : Prop :=
 match x with
 | .non => k = false
 | .bl b => k = b
 | .int i => k = (i != 0)
 | .str y => y.length <= sizeLine /\ k = ((y.length : Int) != 0)
 | .byt y => y.size <= sizeLine /\ k = ((y.size : Int) != 0)
 | .ref p => (∃ xs, SqL K H p xs /\ k = !xs.isEmpty) \/ (∃ xs, SqT K H p xs /\ k = !xs.isEmpty) \/ ∃ kvs, H p = some (.dK kvs) /\ k = !kvs.isEmpty
 | _ => False
theorem zjc {κ : Type} {kvs : List (κ × V)} {vs : List (κ × Value)} (r : KV kvs vs) : (!vs.isEmpty) = !kvs.isEmpty := by
 cases r <;> rfl
theorem zbm {xs : List V} {its : List Value} (r : Vals xs its) : (!its.toArray.isEmpty) = !xs.isEmpty := by
 cases r <;> simp
theorem zgj : (sizeLine : Nat) < 2 ^ 63 := by rw [sizeLine_eq]; decide
theorem zxg : zFd X (fun x H Q => ∃ k, zDc X.K x H k /\ Q k H) := by
 intro pins s σ H x v Q I rx h
 obtain ⟨k, e, q⟩ := h
 have hl := zgj
 have hs : sizeLine = 16777216 := sizeLine_eq
 cases x with
 | non =>
  cases rx
  have e' : k = false := e
  subst e'
  exact truthy_none ⟨H, I, q⟩
 | bl b =>
  cases rx
  have e' : k = b := e
  subst e'
  exact wpAny_truthy_bool ⟨H, I, q⟩
 | int i =>
  obtain ⟨t, rfl⟩ := rx
  have e' : k = (i != 0) := e
  subst e'
  exact PySem.P.truthy_int ⟨H, I, q⟩
 | str y =>
  obtain ⟨t, rfl⟩ := rx
  obtain ⟨hy, e'⟩ : y.length <= sizeLine /\ k = ((y.length : Int) != 0) := e
  subst e'
  exact PySem.P.truthy_str (by lia) ⟨H, I.tok _, q⟩
 | byt y =>
  obtain ⟨t, rfl⟩ := rx
  obtain ⟨hy, e'⟩ : y.size <= sizeLine /\ k = ((y.size : Int) != 0) := e
  subst e'
  exact PySem.W.truthy_bytes (by lia) ⟨H, I.tok _, q⟩
 | ref p =>
  cases rx
  have e' : (∃ xs, SqL X.K H p xs /\ k = !xs.isEmpty) \/ (∃ xs, SqT X.K H p xs /\ k = !xs.isEmpty) \/ ∃ kvs, H p = some (.dK kvs) /\ k = !kvs.isEmpty := e
  rcases e' with ⟨xs, hx, e'⟩ | ⟨xs, hx, e'⟩ | ⟨kvs, hx, e'⟩
  ·subst e'
   obtain ⟨its, r, pl, hz⟩ := I.list hx
   have hlen := r.length
   exact wpAny_truthy_list pl.isList (by simp only [List.size_toArray]; lia) ⟨H, I.tok _, by rw [zbm r]; exact q⟩
  ·subst e'
   obtain ⟨its, r, pl, hz⟩ := I.tuple hx
   have hlen := r.length
   exact truthy_tuple pl (by simp only [List.size_toArray]; lia) ⟨H, I.tok _, by rw [zbm r]; exact q⟩
  ·subst e'
   obtain ⟨hz, hS, vs, r, m⟩ : kvs.length <= sizeLine /\ (p == sysModules) = false /\ ∃ vs, KV kvs vs /\ s.heap.DictOf (y4 X.prog X.w) p vs := I.hok p _ hx
   have hlen : kvs.length = vs.length := Paired.length r
   exact wpAny_truthy_dict hS m (by lia) ⟨H, I.tok _, by rw [zjc r]; exact q⟩
 | _ => exact (show False from e).elim
theorem zhi (ha : PE X a ta) (he : ∀ whole, isTrue a X.env whole = (do let v <- whole; standAt a.pos; holding [v] (truthy v))) :
  PT X a (fun σ H Q => ta σ H fun x H' => ∃ k, zDc X.K x H' k /\ Q k H') := by
 intro pins s σ H Q I h
 exact isTrue_plain (thn (ha pins s σ H _ I h) fun v s1 ⟨x, H1, I1, r1, q1⟩ => zxg pins s1 σ H1 x v Q I1 r1 q1) (he _)
theorem zof {x : V} {us : List Value} (r : Vals [x] us) : ∃ u, us = [u] /\ RelV x u := by
 cases r with
 | cons r1 r2 => cases r2; exact ⟨_, rfl, r1⟩
theorem zvu {x y : V} {us : List Value} (r : Vals [x, y] us) : ∃ u w', us = [u, w'] /\ RelV x u /\ RelV y w' := by
 cases r with
 | cons r1 r2 =>
  cases r2 with
  | cons r3 r4 => cases r4; exact ⟨_, _, rfl, r1, r3⟩
theorem zed (hc : X.calm = true) : xL X (.builtin "max") (fun xs H Q => ∃ i j, xs = [.int i, .int j] /\ Q (.int (if j > i then j else i)) H) := by
 intro pins s σ H xs us Q I r h
 obtain ⟨i, j, rfl, q⟩ := h
 obtain ⟨u, w', rfl, ⟨t, rfl⟩, ⟨t', rfl⟩⟩ := zvu r
 refine max_two_ints (I.ok.hd hc) fun h' tk k => ⟨_, H, I.kept k, ?_, q⟩
 by_cases hj : j > i
 ·rw [if_pos hj, if_pos hj]; exact ⟨_, rfl⟩
 ·rw [if_neg hj, if_neg hj]; exact ⟨_, rfl⟩
theorem zec (hc : X.calm = true) : xL X (.builtin "min") (fun xs H Q => ∃ i j, xs = [.int i, .int j] /\ Q (.int (if j < i then j else i)) H) := by
 intro pins s σ H xs us Q I r h
 obtain ⟨i, j, rfl, q⟩ := h
 obtain ⟨u, w', rfl, ⟨t, rfl⟩, ⟨t', rfl⟩⟩ := zvu r
 refine min_two_ints (I.ok.hd hc) fun h' tk k => ⟨_, H, I.kept k, ?_, q⟩
 by_cases hj : j < i
 ·rw [if_pos hj, if_pos hj]; exact ⟨_, rfl⟩
 ·rw [if_neg hj, if_neg hj]; exact ⟨_, rfl⟩
end
structure ObjM (h : Heap) (x dx C : Addr) (mA : Str -> Option Value) : Prop where
 obj : h.get? x = some (PySem.W.instObj C dx)
 ns : h.Ns1 dx mA
 ne : dx ≠ x
theorem zni {h : Heap} {dx : Addr} {mA : Str -> Option Value} (n : h.Ns1 dx mA) : ∃ od, h.get? dx = some od /\ ∀ name, PySem.W.lookIn name od = some (mA name) := by
 obtain ⟨o, es, ep, ho, hd, hk, _, hm⟩ := n
 refine ⟨o, ho, fun name => ?_⟩
 have e := hm name
 unfold nsFind findBy at e
 rw [<- Array.find?_toList] at e
 unfold PySem.W.lookIn
 rw [hd]
 dsimp only
 split
 ·rename_i y q
  rw [q] at e
  exact congrArg some e
 ·rename_i q
  rw [q] at e
  have a : es.toList.any (·.refKey) = false := by
   rw [List.any_eq_false]
   intro y hy
   obtain ⟨z, t, hkey⟩ := hk y (Array.mem_toList_iff.mp hy)
   simp [DictEntry.refKey, hkey]
  have a' : ¬ es.toList.any (·.refKey) = true := by rw [a]; exact Bool.false_ne_true
  rw [if_neg a']
  exact congrArg some e
theorem ObjM.look {h : Heap} {x dx C : Addr} {mA : Str -> Option Value} (I : ObjM h x dx C mA) : ∃ od, PySem.W.InstAt h x (PySem.W.instObj C dx) C (some od) /\ ∀ name, PySem.W.lookIn name od = some (mA name) :=
 let ⟨od, ho, hl⟩ := zni I.ns
 ⟨od, ⟨I.obj, rfl, rfl, ho⟩, hl⟩
section
variable {prog : Program} {w : World} {A : Around} {E : Value -> Shared -> Prop} {s : Shared} {K : PySem.W.Frag} {x dx C f : Addr} {mA : Str -> Option Value} {name : Str} {v : Value}
theorem zuk {expr : Bool} {Q : Value -> Shared -> Prop} (X : K.In s.heap) (I : ObjM s.heap x dx C mA) (hg : PySem.W.plainGet K C name = true) (hh : PySem.W.hasDictIn K C = true)
  (ha : PySem.W.findIn K (.ref C) name = some none) (hv : mA name = some v) (hv' : PySem.W.handedIn v = true) (h : Q v { s with toks := s.toks + 1 }) :
  wpAny (model prog w) A (getAttr (.ref x) name expr) Q E s := by
 obtain ⟨od, J, hl⟩ := I.look
 exact PySem.W.get_value X J (PySem.W.plainGet_of hg).1 (PySem.W.findObj_own hh ha rfl (by rw [hl, hv])) hv' h
theorem zqn {pl : Sem Bool} {Q : Value × List Value -> Shared -> Prop} (X : K.In s.heap) (I : ObjM s.heap x dx C mA) (hg : PySem.W.plainGet K C name = true)
  (hf : PySem.W.findIn K (.ref C) name = some (some (.ref f))) (ht : PySem.W.isFn K (.ref f) = true) (hv : mA name = none) (h : Q (.ref f, [.ref x]) s) :
  wpAny (model prog w) A (getMethod (.ref x) name pl) Q E s := by
 obtain ⟨od, J, hl⟩ := I.look
 exact PySem.W.method_fn X J (PySem.W.plainGet_of hg).1 (PySem.W.plainGet_of hg).2 hf (beq_iff_eq.mp ht) (by show (PySem.W.lookIn name od).map (·.isSome) = some false; rw [hl, hv]; rfl) h
theorem ztc {ns : List Str} {Q : Unit -> Shared -> Prop} (X : K.In s.heap) (I : ObjM s.heap x dx C mA)
  (hs : PySem.W.findIn K (.ref C) "__setattr__" = some (some (.builtin "object.__setattr__"))) (hp : PySem.W.plainOver K C = true) (ht : PySem.W.takerIn K C name = some none) (hh : PySem.W.hasDictIn K C = true)
  (hw : PySem.Within mA ns) (hsz : ns.length <= sizeLine)
  (h : ∀ h', ObjM h' x dx C (fun y => if y = name then some v else mA y) -> Heap.SameBut dx s.heap h' -> Q () { s with heap := h', toks := s.toks + 2 }) :
  wpAny (model prog w) A (setAttr (.ref x) name v) Q E s := by
 obtain ⟨od, J, hl⟩ := I.look
 refine PySem.W.set_plain X J hs (PySem.W.osa_open (s := { s with toks := s.toks + 1 }) (r := none) X J hp ht fun b => ?_)
 obtain ⟨cd, hc, hd'⟩ := PySem.W.any_some hh
 have hx : s.heap.get? x = some ⟨.ref C, some dx, .plain, #[]⟩ := I.obj
 refine wpAny_bind (wpAny_pure (wpAny_bind (wpAny_bind (wpAny_loadPart hx (wpAny_bind (PySem.W.Looks.here (s := { s with toks := s.toks + 1 }) (PySem.W.looks_clsIn X hc) ?_))))))
 rw [hd']
 refine wpAny_pure (a := some dx) (wpAny_bind (wpAny_pure (wpAny_bind ?_)))
 refine wpAny_nsSet1 (s := { s with toks := s.toks + 1 }) I.ns fun h' hn2 hs2 => ?_
 obtain ⟨oD, esD, epD, hoD, hdD, hcD⟩ := hn2.count (PySem.Within.cons name v hw)
 refine wpAny_bind (wpAny_lookBehind hoD (by rw [hdD]; exact pastItsLine_dict (Nat.le_trans hcD (by rw [List.length_cons]; lia))) ?_)
 exact wpAny_pure (h _ ⟨(hs2.2 _ (Ne.symm I.ne)).trans I.obj, hn2, I.ne⟩ hs2)
theorem zqh {R : Result -> Shared -> Prop} {vs : List Value} {kw : List (Str × Value)} (X : K.In s.heap) (hm : PySem.W.makesIn K C = true)
  (hi : PySem.W.findIn K (.ref C) "__init__" = some (some (.ref f))) (hf : PySem.W.typeIn K (.ref f) = some (.type "function"))
  (h : codeAny (model prog w) (A.under (.builtin "type.__call__" ⟨.ref C :: vs, kw⟩)) (.call (.ref f) ⟨.ref (s.heap.objs.size + 1) :: vs, kw⟩) (PySem.W.InitBack (s.heap.objs.size + 1) R)
   { s with heap := (s.heap.push PySem.W.emptyDict).push (PySem.W.instObj C s.heap.objs.size) }) :
  codeAny (model prog w) A (.call (.ref C) ⟨vs, kw⟩) R s := by
 obtain ⟨hh, g, d, t, os⟩ := s
 exact PySem.W.make_core (PySem.W.makes_of X hm) (PySem.W.looks_findIn X hi) (fun self => PySem.W.bind_fn X self hf) (.inl rfl) h
theorem znh {R : Result -> Shared -> Prop} (X : K.In s.heap) (hm : PySem.W.makesIn K C = true)
  (hi : PySem.W.findIn K (.ref C) "__init__" = some (some (.builtin "object.__init__")))
  (hb : ∀ self, PySem.W.Looks (model prog w) s.heap (bindSpecial (.builtin "object.__init__") self) (.builtin "object.__init__", [self]))
  (h : codeAny (model prog w) (A.under (.builtin "type.__call__" ⟨[.ref C], []⟩)) (.call (.builtin "object.__init__") ⟨[.ref (s.heap.objs.size + 1)], []⟩) (PySem.W.InitBack (s.heap.objs.size + 1) R)
   { s with heap := (s.heap.push PySem.W.emptyDict).push (PySem.W.instObj C s.heap.objs.size) }) :
  codeAny (model prog w) A (.call (.ref C) ⟨[], []⟩) R s := by
 obtain ⟨hh, g, d, t, os⟩ := s
 exact PySem.W.make_core (PySem.W.makes_of X hm) (PySem.W.looks_findIn X hi) hb (.inr ⟨rfl, rfl⟩) h
end
def vW (f : Str) (v : V) : List (Str × V) -> List (Str × V)
 | [] => [(f, v)]
 | (g, x) :: r => if g = f then (g, v) :: r else (g, x) :: vW f v r
theorem zL (f g : Str) (v : V) : ∀ fs : List (Str × V), (vW f v fs).lookup g = if g = f then some v else fs.lookup g
 | [] => by
  show List.lookup g [(f, v)] = _
  by_cases h : g = f
  ·have hb : (g == f) = true := beq_iff_eq.mpr h
   simp only [List.lookup, hb, if_pos h]
  ·have hb : (g == f) = false := beq_eq_false_iff_ne.mpr h
   simp only [List.lookup, hb, if_neg h]
 | (k, x) :: r => by
  have ih := zL f g v r
  rw [show vW f v ((k, x) :: r) = (if k = f then (k, v) :: r else (k, x) :: vW f v r) from rfl]
  by_cases hk : k = f
  ·rw [if_pos hk]
   by_cases h : g = k
   ·have hb : (g == k) = true := beq_iff_eq.mpr h
    simp only [List.lookup, hb, if_pos (h.trans hk)]
   ·have hb : (g == k) = false := beq_eq_false_iff_ne.mpr h
    simp only [List.lookup, hb, if_neg (fun e : g = f => h (e.trans hk.symm))]
  ·rw [if_neg hk]
   by_cases h : g = k
   ·have hb : (g == k) = true := beq_iff_eq.mpr h
    simp only [List.lookup, hb, if_neg (fun e : g = f => hk (h.symm.trans e))]
   ·have hb : (g == k) = false := beq_eq_false_iff_ne.mpr h
    simp only [List.lookup, hb]
    exact ih
theorem gJ (f : Str) (v : V) : ∀ fs : List (Str × V), f ∈ (vW f v fs).map (·.1) /\ ∀ g, g ∈ fs.map (·.1) -> g ∈ (vW f v fs).map (·.1)
 | [] => ⟨by simp [vW], fun g h => by simp at h⟩
 | (k, x) :: r => by
  obtain ⟨i1, i2⟩ := gJ f v r
  rw [show vW f v ((k, x) :: r) = (if k = f then (k, v) :: r else (k, x) :: vW f v r) from rfl]
  by_cases hk : k = f
  ·rw [if_pos hk]
   subst hk
   exact ⟨by simp, fun g h => by simpa using h⟩
  ·rw [if_neg hk]
   refine ⟨?_, fun g h => ?_⟩
   ·rw [List.map_cons]
    exact List.mem_cons_of_mem _ i1
   ·rw [List.map_cons] at h ⊢
    rcases List.mem_cons.mp h with e | e
    ·exact List.mem_cons.mpr (.inl e)
    ·exact List.mem_cons_of_mem _ (i2 g e)
theorem gQ (f : Str) (v : V) : ∀ fs : List (Str × V), (vW f v fs).length <= fs.length + 1
 | [] => by simp [vW]
 | (k, x) :: r => by
  have ih := gQ f v r
  rw [show vW f v ((k, x) :: r) = (if k = f then (k, v) :: r else (k, x) :: vW f v r) from rfl]
  by_cases hk : k = f
  ·rw [if_pos hk, List.length_cons, List.length_cons]; lia
  ·rw [if_neg hk, List.length_cons, List.length_cons]; lia
theorem RelO.some_of {v : V} {o : Option Value} (r : RelO (some v) o) : ∃ u, o = some u /\ RelV v u := by
 cases o with
 | none => exact (show False from r).elim
 | some u => exact ⟨u, rfl, r⟩
theorem RelO.none_of {o : Option Value} (r : RelO none o) : o = none := by
 cases o with
 | none => rfl
 | some u => exact (show False from r).elim
theorem znr {v : V} {u : Value} (r : RelV v u) : PySem.W.handedIn u = true := by
 cases v with
 | non => cases (show u = Value.none from r); rfl
 | bl b => cases (show u = Value.bool b from r); rfl
 | int i => obtain ⟨t, e⟩ := (show ∃ t, u = Value.int i t from r); cases e; rfl
 | str x => obtain ⟨t, e⟩ := (show ∃ t, u = Value.str x t from r); cases e; rfl
 | byt b => obtain ⟨t, e⟩ := (show ∃ t, u = Value.bytes b t from r); cases e; rfl
 | flt b => obtain ⟨t, e⟩ := (show ∃ t, u = Value.float b t from r); cases e; rfl
 | ref a => cases (show u = Value.ref a from r); rfl
 | ty n => cases (show u = Value.type n from r); rfl
section
variable {P : Program} {w : World} {H H' : Hp} {h h' : Heap} {a C dx : Addr} {fs fs' : List (Str × V)}
theorem zbn (hok : HOk P w H h) (e : H a = some (.ins C dx fs)) : ∃ mA, ObjM h a dx C mA /\ (∀ f, RelO (fs.lookup f) (mA f)) /\ PySem.Within mA (fs.map (·.1)) /\ fs.length <= 1000 /\ H dx = some (.own a) := by
 obtain ⟨d, z, ne, ob, mA, n, r, q⟩ := (show ObjOk P w H h a (.ins C dx fs) from hok a _ e)
 exact ⟨mA, ⟨ob, n, ne⟩, r, q, z, d⟩
end
structure Cls (K : PySem.W.Frag) (C : Addr) : Prop where
 pg : PySem.W.plainGet K C Str.empty = true
 hd : PySem.W.hasDictIn K C = true
 po : PySem.W.plainOver K C = true
 sa : PySem.W.findIn K (.ref C) "__setattr__" = some (some (.builtin "object.__setattr__"))
theorem Cls.get {K : PySem.W.Frag} {C : Addr} (c : Cls K C) (f : Str) : PySem.W.plainGet K C f = true := c.pg
def NoAttr (K : PySem.W.Frag) (C : Addr) (f : Str) : Prop := PySem.W.findIn K (.ref C) f = some none
theorem NoAttr.taker {K : PySem.W.Frag} {C : Addr} {f : Str} (n : NoAttr K C f) : PySem.W.takerIn K C f = some none := by
 unfold PySem.W.takerIn
 rw [show PySem.W.findIn K (.ref C) f = some none from n]
 rfl
structure jZ (K : PySem.W.Frag) (C : Addr) (m : Str) (f : Addr) : Prop where
 at_ : PySem.W.findIn K (.ref C) m = some (some (.ref f))
 fn : PySem.W.isFn K (.ref f) = true
 kp : PySem.W.keepIn K (.ref f) = true
section
variable {X : Cx} {pins : List (Addr × Obj)} {σ : St} {H : Hp} {s : Shared} {a C dx : Addr} {fs : List (Str × V)} {f : Str} {v : V} {A : Around} {E : Value -> Shared -> Prop}
theorem zjg {b : Bool} {Q : Value -> Shared -> Prop} (I : Inv X pins σ H s) (e : H a = some (.ins C dx fs)) (c : Cls X.K C) (n : NoAttr X.K C f) (l : fs.lookup f = some v)
  (h : ∀ u s', Inv X pins σ H s' -> RelV v u -> Q u s') : wpAny (model X.prog X.w) A (getAttr (.ref a) f b) Q E s := by
 obtain ⟨mA, O, r, _, _, _⟩ := zbn I.hok e
 obtain ⟨u, hu, ru⟩ := RelO.some_of (v := v) (o := mA f) (by rw [<- l]; exact r f)
 exact zuk I.kIn O (c.get f) c.hd n hu (znr ru) (h u _ (I.tok _) ru)
theorem zjf {m : Str} {g : Addr} {pl : Sem Bool} {Q : Value × List Value -> Shared -> Prop} (I : Inv X pins σ H s) (e : H a = some (.ins C dx fs)) (c : Cls X.K C) (k : jZ X.K C m g) (l : fs.lookup m = none)
  (h : Q (.ref g, [.ref a]) s) : wpAny (model X.prog X.w) A (getMethod (.ref a) m pl) Q E s := by
 obtain ⟨mA, O, r, _, _, _⟩ := zbn I.hok e
 have hn : mA m = none := RelO.none_of (by rw [<- l]; exact r m)
 exact zqn I.kIn O (c.get m) k.at_ k.fn hn h
theorem zin {y : V} {u : Value} {Q : Unit -> Shared -> Prop} (I : Inv X pins σ H s) (e : H a = some (.ins C dx fs)) (c : Cls X.K C) (n : NoAttr X.K C f) (hl : fs.length < 1000) (ry : RelV y u)
  (h : ∀ s', Inv X pins σ (upd H a (.ins C dx (vW f y fs))) s' -> Q () s') : wpAny (model X.prog X.w) A (setAttr (.ref a) f u) Q E s := by
 obtain ⟨mA, O, r, wi, _, ho⟩ := zbn I.hok e
 have hz : (fs.map (·.1)).length <= sizeLine := by rw [List.length_map, sizeLine_eq]; lia
 refine ztc I.kIn O c.sa c.po n.taker c.hd wi hz fun h' O' sb => h _ ?_
 have hd : ∃ o, h'.get? dx = some o := let ⟨o, _, _, e', _⟩ := O'.ns; ⟨o, e'⟩
 refine I.write (x := a) (e := dx) (by rw [e]; exact True.intro) (.inr ho) (fun b q hb z => (sb.2 b hb).trans z) hd ?_
 refine ⟨by rw [zW O.ne]; exact ho, ?_, O.ne, O'.obj, _, O'.ns, fun g => ?_, fun g hg => ?_⟩
 ·have := gQ f y fs; lia
 ·show RelO ((vW f y fs).lookup g) (if g = f then some u else mA g)
  rw [zL]
  by_cases q : g = f
  ·rw [if_pos q, if_pos q]; exact ry
  ·rw [if_neg q, if_neg q]; exact r g
 ·by_cases q : g = f
  ·rw [q]; exact (gJ f y fs).1
  ·refine (gJ f y fs).2 g (wi g fun z => hg ?_)
   show (if g = f then some u else mA g) = none
   rw [if_neg q]; exact z
theorem Inv.made (I : Inv X pins σ H s) : Inv X pins σ (upd (upd H s.heap.objs.size (.own (s.heap.objs.size + 1))) (s.heap.objs.size + 1) (.ins C s.heap.objs.size []))
  { s with heap := (s.heap.push PySem.W.emptyDict).push (PySem.W.instObj C s.heap.objs.size) } := by
 have e1 : (s.heap.push PySem.W.emptyDict).get? s.heap.objs.size = some PySem.W.emptyDict := Heap.get?_push_size s.heap rfl
 have e2 : ((s.heap.push PySem.W.emptyDict).push (PySem.W.instObj C s.heap.objs.size)).get? (s.heap.objs.size + 1) = some (PySem.W.instObj C s.heap.objs.size) := by
  have := Heap.get?_push_size (s.heap.push PySem.W.emptyDict) (o := PySem.W.instObj C s.heap.objs.size) rfl
  rwa [Heap.size_push] at this
 have e3 : (s.heap.push PySem.W.emptyDict).Ns s.heap.objs.size (fun _ => none) := ⟨PySem.W.emptyDict, #[], _, e1, rfl, (fun e he => absurd he (by simp)), fun _ => rfl⟩
 have I1 := I.laid (a := s.heap.objs.size) (o := .own (s.heap.objs.size + 1)) (h' := s.heap.push PySem.W.emptyDict) (t' := s.toks) (fun b u q => Heap.get?_push_of_some _ q) (Nat.le_refl _) ⟨_, e1⟩
 refine I1.laid (a := s.heap.objs.size + 1) (o := .ins C s.heap.objs.size []) (t' := s.toks) (fun b u q => Heap.get?_push_of_some _ q) (Nat.le_of_eq (Heap.size_push _ _)) ?_
 have ne : s.heap.objs.size ≠ s.heap.objs.size + 1 := Nat.ne_of_lt (Nat.lt_succ_self _)
 refine ⟨by rw [zW ne, zC], Nat.zero_le _, ne, e2, fun _ => none, (Heap.Ns1.of_empty e3).at fun o q => Heap.get?_push_of_some _ q, fun _ => True.intro, fun y hy => absurd rfl hy⟩
theorem zvn {prog : Program} {w : World} {env : Env} {e : Expr} {f : Str} {pos : Pos} {s : Shared} {Q : Value -> Shared -> Prop} (hb : attributeBase e f env (eval e env) = eval e env)
  (h : wpAny (model prog w) A (eval e env) (fun o s₁ => wpAny (model prog w) A (getAttr o f true) Q E s₁) E s) : wpAny (model prog w) A (eval (.Attribute e f pos) env) Q E s :=
 Attribute_any_ h (by rw [arm_eval_Attribute, hb])
end
def zCn (K : PySem.W.Frag) (ta : TE) (f : Str) : TE := fun σ H Q => ta σ H fun x H1 => ∃ a C dx fs v, x = .ref a /\ H1 a = some (.ins C dx fs) /\ Cls K C /\ NoAttr K C f /\ fs.lookup f = some v /\ Q v H1
def zEo (K : PySem.W.Frag) (ta tv : TE) (f : Str) : TS := fun D σ H => tv σ H fun y H1 => ta σ H1 fun x H2 => ∃ a C dx fs, x = .ref a /\ H2 a = some (.ins C dx fs) /\ Cls K C /\ NoAttr K C f /\ fs.length < 1000 /\
 D.nx σ (upd H2 a (.ins C dx (vW f y fs)))
section
variable {X : Cx} {o e value : Expr} {f : Str} {pos pos' tpos : Pos} {ta tv : TE}
theorem wL (he : PE X e ta) (hb : attributeBase e f X.env (eval e X.env) = eval e X.env) : PE X (.Attribute e f pos) (zCn X.K ta f) := by
 intro pins s σ H Q I h
 refine zvn hb (thn (he pins s σ H _ I h) fun u s1 ⟨x, H1, I1, rx, a, C, dx, fs, v, ex, ea, c, n, l, q⟩ => ?_)
 subst ex
 obtain rfl : u = Value.ref a := rx
 exact zjg I1 ea c n l fun u' s2 I2 ru => ⟨v, H1, I2, ru, q⟩
theorem j6 (ha : PE X o ta) (hv : PE X value tv) (hs : swapsWith value (some (.Attribute o f pos')) pos.line X.env = pure false) : PS X (.Assign [.Attribute o f pos'] value pos) (zEo X.K ta tv f) := by
 intro pins s σ H D I h
 refine plainObj_wpAny_Assign_Attribute (thn (hv pins s σ H _ I h) fun u s1 ⟨y, H1, I1, ry, q⟩ => thn (ha pins s1 σ H1 _ I1 q) fun ov s2 ⟨x, H2, I2, rx, a, C, dx, fs, ex, ea, c, n, l, q2⟩ => ?_) hs
 subst ex
 obtain rfl : ov = Value.ref a := rx
 exact zin I2 ea c n l ry fun s3 I3 => ⟨σ, _, I3, q2⟩
end
section
variable {X : Cx} {pins : List (Addr × Obj)} {σ : St} {H : Hp} {s : Shared} {A : Around} {E : Value -> Shared -> Prop} {Q : Value -> Shared -> Prop} {c : Value} {b : Bool}
inductive zbt (K : PySem.W.Frag) (H : Hp) : V -> Value -> Prop where
 | non : zbt K H .non (.type "NoneType")
 | bl (x : Bool) : zbt K H (.bl x) (.type "bool")
 | int (i : Int) : zbt K H (.int i) (.type "int")
 | str (x : Str) : zbt K H (.str x) (.type "str")
 | flt (x : UInt64) : zbt K H (.flt x) (.type "float")
 | lst {a : Addr} {xs : List V} (e : H a = some (.lst xs)) : zbt K H (.ref a) (.type "list")
 | frz {a : Addr} {o : Obj} {xs : List V} (e : H a = some (.frz o (.lst xs))) : zbt K H (.ref a) (.type "list")
 | tup {a : Addr} {xs : List V} (e : H a = some (.tup xs)) : zbt K H (.ref a) (.type "tuple")
 | dK {a : Addr} {kvs : List (Key × V)} (e : H a = some (.dK kvs)) : zbt K H (.ref a) (.type "dict")
 | dT {a : Addr} {kvs : List (List Key × V)} (e : H a = some (.dT kvs)) : zbt K H (.ref a) (.type "dict")
 | ins {a C dx : Addr} {fs : List (Str × V)} (e : H a = some (.ins C dx fs)) (cl : Cls K C) (ha : PySem.W.findIn K (.ref C) "__class__" = some (some (.builtin "object.__class__")))
   (hn : PySem.W.specialIn K (.builtin "object.__class__") "__get__" = some (some (.builtin "getset_descriptor.__get__"))) (htk : PySem.W.takesIn K (.builtin "object.__class__") = some true)
   (hm : PySem.W.mroIn K C (.type "object") = some true) : zbt K H (.ref a) (.ref C)
theorem znn {x : V} {u t : Value} (I : Inv X pins σ H s) (rx : RelV x u) (ty : zbt X.K H x t) (e : PySem.W.kitOne X.K t c = some b) (h : ∀ tk, Q (.bool b) { s with toks := tk }) :
  wpAny (model X.prog X.w) A (call (.builtin "isinstance") [u, c]) Q E s := by
 cases ty with
 | non => cases (show u = Value.none from rx); exact PySem.W.kia_one PySem.W.kitx_none I.kIn True.intro e (fun z => nomatch z) h
 | bl y => cases (show u = Value.bool y from rx); exact PySem.W.kia_one PySem.W.kitx_bool I.kIn True.intro e (fun z => nomatch z) h
 | int i => obtain ⟨t, q⟩ := (show ∃ t, u = Value.int i t from rx); cases q; exact PySem.W.kia_one PySem.W.kitx_int I.kIn True.intro e (fun z => nomatch z) h
 | str y => obtain ⟨t, q⟩ := (show ∃ t, u = Value.str y t from rx); cases q; exact PySem.W.kia_one PySem.W.kitx_str I.kIn True.intro e (fun z => nomatch z) h
 | flt y => obtain ⟨t, q⟩ := (show ∃ t, u = Value.float y t from rx); cases q; exact PySem.W.kia_one PySem.W.kitx_float I.kIn True.intro e (fun z => nomatch z) h
 | @lst a xs ea =>
  cases (show u = Value.ref a from rx)
  obtain ⟨_, _, n, _, h1⟩ := (show ObjOk X.prog X.w H s.heap a (.lst xs) from I.hok a _ ea)
  exact PySem.W.kia_one PySem.W.kitx_list I.kIn ⟨_, h1, rfl⟩ e (fun z => nomatch z) h
 | @frz a ob xs ea =>
  cases (show u = Value.ref a from rx)
  obtain ⟨_, _, _, n, _, h1⟩ := (show ObjOk X.prog X.w H s.heap a (.frz ob (.lst xs)) from I.hok a _ ea)
  exact PySem.W.kia_one PySem.W.kitx_list I.kIn ⟨_, h1, rfl⟩ e (fun z => nomatch z) h
 | @tup a xs ea =>
  cases (show u = Value.ref a from rx)
  obtain ⟨_, _, _, p⟩ := (show ObjOk X.prog X.w H s.heap a (.tup xs) from I.hok a _ ea)
  obtain ⟨o, h1, h2, _⟩ := p
  exact PySem.W.kia_one PySem.W.kitx_tuple I.kIn ⟨o, h1, h2⟩ e (fun z => nomatch z) h
 | @dK a kvs ea =>
  cases (show u = Value.ref a from rx)
  obtain ⟨_, _, vs, _, p⟩ := (show ObjOk X.prog X.w H s.heap a (.dK kvs) from I.hok a _ ea)
  obtain ⟨o, es, ep, h1, h2, _⟩ := p
  exact PySem.W.kia_one PySem.W.kitx_dict I.kIn ⟨o, h1, h2.1⟩ e (fun z => nomatch z) h
 | @dT a kvs ea =>
  cases (show u = Value.ref a from rx)
  obtain ⟨_, _, xs, _, o, es, ep, h1, h2, _⟩ := (show ObjOk X.prog X.w H s.heap a (.dT kvs) from I.hok a _ ea)
  exact PySem.W.kia_one PySem.W.kitx_dict I.kIn ⟨o, h1, h2.1⟩ e (fun z => nomatch z) h
 | @ins a C dx fs ea cl ha hn htk hm =>
  cases (show u = Value.ref a from rx)
  obtain ⟨mA, O, _⟩ := zbn I.hok ea
  obtain ⟨od, J, _⟩ := O.look
  exact PySem.W.kia_one (PySem.W.kitx_own (cl.get _) cl.hd ha hn htk hm) I.kIn J e (fun z => nomatch z) h
end
structure Room (k : Nat) (A : Around) : Prop where
 hd : A.handled = none
 dp : A.depth + 3 * k + 5 < recursionLimit
 un : A.units + 16 * k + 200 < cLine
theorem Room.mono {j k : Nat} {A : Around} (r : Room k A) (h : j <= k) : Room j A := ⟨r.hd, by have := r.dp; lia, by have := r.un; lia⟩
theorem Room.deeper {k : Nat} {A : Around} (r : Room (k + 1) A) (env : Env) : Room k (A.deeper env) :=
 ⟨r.hd, by have := r.dp; show A.depth + 1 + 3 * k + 5 < _; lia, by have := r.un; show A.units + 3 + 16 * k + 200 < _; lia⟩
theorem zix {A : Around} {C : Addr} {us : List Value} {kw : List (Str × Value)} : (A.under (.builtin "type.__call__" ⟨.ref C :: us, kw⟩)).depth = A.depth + 1 := by
 first | rfl | simp [Around.under, Code.weight, Code.isCreation, Code.isGuard, Code.isCaller, Code.frames, Code.isFrame, guardIds]
theorem ziw {A : Around} {C : Addr} {us : List Value} {kw : List (Str × Value)} : (A.under (.builtin "type.__call__" ⟨.ref C :: us, kw⟩)).units = A.units + 1 := by
 first | rfl | simp [Around.under, Code.cUnits, Code.frames, Code.isFrame]
theorem Room.make {k : Nat} {A : Around} (r : Room (k + 1) A) (C : Addr) (us : List Value) (kw : List (Str × Value)) : Room k (A.under (.builtin "type.__call__" ⟨.ref C :: us, kw⟩)) :=
 ⟨r.hd, by have := r.dp; rw [zix]; lia, by have := r.un; rw [ziw]; lia⟩
theorem Room.depth {k : Nat} {A : Around} (r : Room k A) : A.depth < recursionLimit := by have := r.dp; lia
theorem Room.units {k : Nat} {A : Around} (r : Room k A) : A.units + 64 < cLine := by have := r.un; lia
def zDh : TA := fun _ H Q => Q [] H
def zAv (ta : TE) (tr : TA) : TA := fun σ H Q => ta σ H fun x H1 => tr σ H1 fun xs H2 => Q (x :: xs) H2
section
variable {X : Cx} {e : Expr} {es : List Expr} {te : TE} {t : TA} {pos : Pos}
theorem zD : PA X [] zDh := fun _ _ _ _ H Q I h => Calls.spliced_nil ⟨[], H, I, .nil, h⟩
theorem zA (ha : PE X e te) (hr : PA X es t) (hs : starEach (e :: es) X.env = (false, eval e X.env) :: starEach es X.env := by rfl) : PA X (e :: es) (zAv te t) := by
 intro pos pins s σ H Q I h
 rw [hs]
 show wpAny _ _ (spliced ((false, eval e X.env) :: backTo pos (starEach es X.env))) _ _ s
 refine Calls.spliced_cons (thn (ha pins s σ H _ I h) fun u s1 ⟨x, H1, I1, r1, q1⟩ => ?_)
 exact thn (hr pos pins s1 σ H1 _ I1 q1) fun us s2 ⟨xs, H2, I2, r2, q2⟩ => ⟨x :: xs, H2, I2, .cons r1 r2, q2⟩
def zDe (t : TA) : TE := fun σ H Q => t σ H fun xs H1 => xs.length <= sizeLine /\ ∀ p, H1 p = none -> Q (.ref p) (upd H1 p (.tup xs))
def zDi (t : TA) : TE := fun σ H Q => t σ H fun xs H1 => xs.length <= sizeLine /\ ∀ p, H1 p = none -> Q (.ref p) (upd H1 p (.lst xs))
theorem y9 {x1} (h : PA X es t) : PE X (.Tuple es x1 pos) (zDe t) := by
 intro pins s σ H Q I hq
 refine wpAny_Tuple_spliced (thn (h pos pins s σ H _ I hq) fun us s1 ⟨xs, H1, I1, r, z, q⟩ => ⟨by rw [<- r.length]; exact z, ?_⟩)
 have hf : H1 s1.heap.objs.size = none := I1.hok.fresh (Nat.le_refl _)
 refine ⟨.ref s1.heap.objs.size, upd H1 s1.heap.objs.size (.tup xs), I1.laid (t' := s1.toks) (fun b u e => Heap.get?_push_of_some _ e) (Nat.le_refl _) ?_, rfl, q _ hf⟩
 exact ⟨z, us, r, ⟨_, Heap.get?_push_size _ rfl, rfl, _, rfl⟩⟩
theorem jD (h : PA X es t) : PE X (.List es pos) (zDi t) := by
 intro pins s σ H Q I hq
 refine wpAny_List_spliced (thn (h pos pins s σ H _ I hq) fun us s1 ⟨xs, H1, I1, r, z, q⟩ => ⟨by rw [<- r.length]; exact z, ?_⟩)
 have hf : H1 s1.heap.objs.size = none := I1.hok.fresh (Nat.le_refl _)
 refine ⟨.ref s1.heap.objs.size, upd H1 s1.heap.objs.size (.lst xs), I1.laid (t' := s1.toks) (fun b u e => Heap.get?_push_of_some _ e) (Nat.le_refl _) ?_, rfl, q _ hf⟩
 exact ⟨z, us, 0, r, Heap.get?_push_size _ rfl⟩
end
abbrev Sp := List V -> Hp -> VK -> XK -> Prop
abbrev CXT := List Env -> Hp -> Shared -> XK -> Value -> Shared -> Prop
structure Env0 (P : Program) (w : World) (K : PySem.W.Frag) (mg : Str -> Option Value) (base : Heap) (A : Around) (outer : List Env) (s : Shared) (H : Hp) : Prop where
 frames : A.frames = some outer
 mod : Mod K mg base
 bs : ∀ b o, base.get? b = some o -> s.heap.get? b = some o /\ H b = none
 bsz : base.objs.size <= s.heap.objs.size
 funs : s.heap.FunFrames base outer
 frf : ∀ b ∈ frs outer, H b = none
 hok : HOk P w H s.heap
 bare : AllBare s.gens
def CE (outer : List Env) (P : Program) (w : World) (H : Hp) (s : Shared) (Q : VK) (u : Value) (s' : Shared) : Prop :=
 ∃ v H', s'.os = s.os /\ AllBare s'.gens /\ Un (frs outer) [] H H' s.heap s'.heap /\ HOk P w H' s'.heap /\ RelV v u /\ Q v H'
def CR (CX : CXT) (outer : List Env) (P : Program) (w : World) (H : Hp) (s : Shared) (Q : VK) (E : XK) (r : Result) (s' : Shared) : Prop :=
 match r with
 | .ok (.ret u) => CE outer P w H s Q u s'
 | .ok _ => False
 | .error e => CX outer H s E e s'
structure FnOk (P : Program) (w : World) (K : PySem.W.Frag) (mg : Str -> Option Value) (base : Heap) (CX : CXT) (k : Nat) (f : Addr) (fd : FuncData) (ps : List Str) (sp : Sp) : Prop where
 len : ∀ vs H Q E, sp vs H Q E -> vs.length = ps.length
 run : ∀ (A : Around) (outer : List Env) (s : Shared) (H : Hp) (args : Args) (us : List Value) (vs : List V) (Q : VK) (E : XK), Room k A -> Env0 P w K mg base A outer s H -> BindsTo s fd args (ps.zip us) -> Vals vs us -> sp vs H Q E ->
  codeAny (model P w) A (.call (.ref f) args) (CR CX outer P w H s Q E) s
theorem FnOk.mono {P : Program} {w : World} {K : PySem.W.Frag} {mg : Str -> Option Value} {base : Heap} {CX : CXT} {j k : Nat} {f : Addr} {fd : FuncData} {ps : List Str} {sp : Sp} (F : FnOk P w K mg base CX j f fd ps sp) (h : j <= k) :
  FnOk P w K mg base CX k f fd ps sp := ⟨F.len, fun A outer s H args us vs Q E hr => F.run A outer s H args us vs Q E (hr.mono h)⟩
theorem Env0.make {P : Program} {w : World} {K : PySem.W.Frag} {mg : Str -> Option Value} {base : Heap} {A : Around} {outer : List Env} {s : Shared} {H : Hp} (e : Env0 P w K mg base A outer s H) (C : Addr) (us : List Value) (kw : List (Str × Value)) :
  Env0 P w K mg base (A.under (.builtin "type.__call__" ⟨.ref C :: us, kw⟩)) outer s H := ⟨by first | exact e.frames | (simpa [Around.under, Code.envs, Code.isFrame, pushEnvs] using e.frames), e.mod, e.bs, e.bsz, e.funs, e.frf, e.hok, e.bare⟩
section
variable {X : Cx} {pins : List (Addr × Obj)} {σ : St} {H : Hp} {s s' : Shared}
theorem Inv.env0 (I : Inv X pins σ H s) : Env0 X.prog X.w X.K X.mg X.base X.A X.stack s H :=
 ⟨I.ok.frames, I.ok.mod, I.bs, Nat.le_trans I.ok.bsz I.sz, I.stack, I.stkFree, I.hok, I.bare⟩
theorem Inv.after {Q : VK} {u : Value} (I : Inv X pins σ H s) (h : CE X.stack X.prog X.w H s Q u s') : EP X pins σ Q u s' := by
 obtain ⟨v, H', os, bare, un, hok, r, q⟩ := h
 obtain ⟨hh, g, d, t, os'⟩ := s'
 obtain rfl : os' = s.os := os
 exact ⟨v, H', I.call (h' := hh) (g' := g) (d' := d) (t' := t) (ch := []) un hok bare (fun b z => absurd z (by simp)), r, q⟩
end
def zsl (sp : Sp) (dvs : List V) (E : XK) (t : TA) : TE := fun σ H Q => t σ H fun vs H1 => sp (vs ++ dvs) H1 Q E
def zAt (C : Addr) (sp : Sp) (dvs : List V) (E : XK) (t : TA) : TE := fun σ H Q => t σ H fun vs H1 => ∀ x dx, H1 x = none -> H1 dx = none -> dx ≠ x ->
 sp (.ref x :: (vs ++ dvs)) (upd (upd H1 dx (.own x)) x (.ins C dx [])) (fun v H2 => v = .non /\ Q (.ref x) H2) E
def Binds (K : PySem.W.Frag) (fd : FuncData) (ps : List Str) (ds : List Value) : Prop :=
 ∀ (s : Shared) (us : List Value), K.In s.heap -> (us ++ ds).length = ps.length -> BindsTo s fd ⟨us, []⟩ (ps.zip (us ++ ds))
theorem Binds.all {K : PySem.W.Frag} {fd : FuncData} {ps : List Str} (h : ∀ us : List Value, us.length = ps.length -> bindArgs fd ⟨us, []⟩ = pure (ps.zip us)) : Binds K fd ps [] := fun s us _ hl => by
 rw [List.append_nil] at hl ⊢
 exact .of_eq (h us hl)
def zar (CX : CXT) (X : Cx) (E : XK) : Prop := ∀ (pins : List (Addr × Obj)) (σ : St) (H : Hp) (s : Shared) (e : Value) (s' : Shared), Inv X pins σ H s -> CX X.stack H s E e s' -> X.xe e s'
section
variable {X : Cx} {CX : CXT} {k : Nat} {f C : Addr} {fd : FuncData} {ps : List Str} {sp : Sp} {dvs : List V} {ds : List Value} {E : XK} {x m : Str} {p pos apos : Pos} {e o : Expr} {es : List Expr} {ta : TE} {t : TA}
theorem zrs {pins : List (Addr × Obj)} {σ : St} {H : Hp} {s : Shared} {Q : VK} {us : List Value} {vs : List V} (F : FnOk X.prog X.w X.K X.mg X.base CX k f fd ps sp) (hr : Room k X.A) (hb : Binds X.K fd ps ds) (hd : Vals dvs ds) (hx : zar CX X E)
  (I : Inv X pins σ H s) (r : Vals vs us) (h : sp (vs ++ dvs) H Q E) : wpAny (model X.prog X.w) X.A (call (.ref f) us) (EP X pins σ Q) X.xe s := by
 have r2 : Vals (vs ++ dvs) (us ++ ds) := r.append hd
 have hl : (us ++ ds).length = ps.length := by rw [<- r2.length]; exact F.len _ _ _ _ h
 refine wpAny_call (codeAny_mono (F.run X.A X.stack s H ⟨us, []⟩ (us ++ ds) (vs ++ dvs) Q E hr I.env0 (hb s us I.kIn hl) r2 h) fun r s' hq => ?_)
 cases r with
 | error e => exact hx pins σ H s e s' I hq
 | ok fl =>
  cases fl with
  | ret u => exact I.after hq
  | next => exact False.elim hq
  | brk => exact False.elim hq
  | cont => exact False.elim hq
theorem zlj (F : FnOk X.prog X.w X.K X.mg X.base CX k f fd ps sp) (hr : Room k X.A) (hg : Gl X x) (hm : X.mg x = some (.ref f)) (hk : PySem.W.keepIn X.K (.ref f) = true) (hb : Binds X.K fd ps ds) (hd : Vals dvs ds) (hx : zar CX X E)
  (ha : PA X (e :: es) t) (hdb : (x == ("__debug__" : Str)) = false := by decide) (he : starEach (e :: es) X.env = (false, eval e X.env) :: starEach es X.env := by rfl) (hpl : (backTo pos (starEach es X.env)).any (·.1) = false := by rfl) :
  PE X (.Call (.Name x p) (e :: es) [] pos) (zsl sp dvs E t) := by
 intro pins s σ H Q I h
 refine wpAny_Call_Name_kw (zbl I hg hm ?_ hdb)
 refine PySem.W.callWith_K (h₀ := X.base) I.ok.mod.kin hk (thn (ha pos pins s σ H _ I h) fun us s1 ⟨vs, H1, I1, r, q⟩ => ⟨I1.kIn, ?_⟩) he hpl
 exact zrs F hr hb hd hx I1 r q
structure Mk (K : PySem.W.Frag) (C f : Addr) : Prop where
 makes : PySem.W.makesIn K C = true
 init : PySem.W.findIn K (.ref C) "__init__" = some (some (.ref f))
 fn : PySem.W.isFn K (.ref f) = true
 kp : PySem.W.keepIn K (.ref C) = true
theorem zpl {pins : List (Addr × Obj)} {σ : St} {H : Hp} {s : Shared} {Q : VK} {us : List Value} {vs : List V} (M : Mk X.K C f) (F : FnOk X.prog X.w X.K X.mg X.base CX k f fd ps sp) (hr : Room (k + 1) X.A) (hb : Binds X.K fd ps ds) (hd : Vals dvs ds)
  (hx : zar CX X E) (I : Inv X pins σ H s) (r : Vals vs us)
  (h : ∀ x dx, H x = none -> H dx = none -> dx ≠ x -> sp (.ref x :: (vs ++ dvs)) (upd (upd H dx (.own x)) x (.ins C dx [])) (fun v H2 => v = .non /\ Q (.ref x) H2) E) :
  wpAny (model X.prog X.w) X.A (call (.ref C) us) (EP X pins σ Q) X.xe s := by
 have hq := h (s.heap.objs.size + 1) s.heap.objs.size (I.hok.fresh (Nat.le_succ _)) (I.hok.fresh (Nat.le_refl _)) (Nat.ne_of_lt (Nat.lt_succ_self _))
 have I2 := Inv.made (C := C) I
 have r2 : Vals (V.ref (s.heap.objs.size + 1) :: (vs ++ dvs)) (Value.ref (s.heap.objs.size + 1) :: (us ++ ds)) := .cons rfl (r.append hd)
 have hl : (Value.ref (s.heap.objs.size + 1) :: us ++ ds).length = ps.length := by
  have e := r2.length
  rw [F.len _ _ _ _ hq] at e
  exact e.symm
 refine wpAny_call (zqh (f := f) I.kIn M.makes M.init (beq_iff_eq.mp M.fn) (codeAny_mono (F.run _ X.stack _ _ ⟨Value.ref (s.heap.objs.size + 1) :: us, []⟩ (Value.ref (s.heap.objs.size + 1) :: (us ++ ds)) _ _ E (hr.make C us [])
  (I2.env0.make C us []) (hb _ (Value.ref (s.heap.objs.size + 1) :: us) I2.kIn hl) r2 hq) fun r s' hq' => ?_))
 cases r with
 | error e => exact hx pins σ _ _ e s' I2 hq'
 | ok fl =>
  cases fl with
  | ret u =>
   obtain ⟨v, H', I3, rv, ev, q3⟩ := I2.after hq'
   subst ev
   exact ⟨rv, ⟨V.ref (s.heap.objs.size + 1), H', I3, rfl, q3⟩⟩
  | next => exact False.elim hq'
  | brk => exact False.elim hq'
  | cont => exact False.elim hq'
theorem zfd (M : Mk X.K C f) (F : FnOk X.prog X.w X.K X.mg X.base CX k f fd ps sp) (hr : Room (k + 1) X.A) (hg : Gl X x) (hm : X.mg x = some (.ref C)) (hb : Binds X.K fd ps ds) (hd : Vals dvs ds) (hx : zar CX X E)
  (ha : PA X (e :: es) t) (hdb : (x == ("__debug__" : Str)) = false := by decide) (he : starEach (e :: es) X.env = (false, eval e X.env) :: starEach es X.env := by rfl) (hpl : (backTo pos (starEach es X.env)).any (·.1) = false := by rfl) :
  PE X (.Call (.Name x p) (e :: es) [] pos) (zAt C sp dvs E t) := by
 intro pins s σ H Q I h
 refine wpAny_Call_Name_kw (zbl I hg hm ?_ hdb)
 refine PySem.W.callWith_K (h₀ := X.base) I.ok.mod.kin M.kp (thn (ha pos pins s σ H _ I h) fun us s1 ⟨vs, H1, I1, r, q⟩ => ⟨I1.kIn, ?_⟩) he hpl
 exact zpl M F hr hb hd hx I1 r q
end
section
variable {X : Cx} {CX : CXT} {k : Nat} {f C : Addr} {fd : FuncData} {ps ks : List Str} {sp : Sp} {E : XK} {x m : Str} {p pos apos kpos : Pos} {e o : Expr} {es : List Expr} {kws : List Keyword} {te ta : TE} {t tk : TA} {nm : Option Str}
variable {g : List Value -> List Value -> List Value} {gV : List V -> List V -> List V}
end
structure zJ (N P : List Str) (sc : Scope) : Prop where
 kind : sc.kind = .function
 co : sc.isCoroutine = false
 gen : sc.isGenerator = false
 nd : N.Nodup
 pre : N.take P.length = P
 par : ∀ x ∈ P, sc.names.lookup x = some .local \/ sc.names.lookup x = some .cell
 nofree : ∀ y ∈ sc.names, y.2 ≠ .free
theorem zei {kindOf : Str -> Option NameKind} {x : Str} : ∀ {binds : List (Str × Value)} {m : Str -> Option Value}, (∀ v, (x, v) ∉ binds) -> bindL kindOf binds m x = m x
 | [], _, _ => rfl
 | (n, v) :: r, m, h => by
  unfold bindL
  rw [zei fun w hw => h w (List.mem_cons_of_mem _ hw)]
  split
  ·have : x ≠ n := by rintro rfl; exact h v List.mem_cons_self
   simp [this]
  ·rfl
theorem zek {kindOf : Str -> Option NameKind} {x : Str} : ∀ {binds : List (Str × Value)} {m : Str -> Option Value}, (∀ v, (x, v) ∉ binds) -> bindC kindOf binds m x = m x
 | [], _, _ => rfl
 | (n, v) :: r, m, h => by
  unfold bindC
  rw [zek fun w hw => h w (List.mem_cons_of_mem _ hw)]
  split
  ·rfl
  ·have : x ≠ n := by rintro rfl; exact h v List.mem_cons_self
   simp [this]
theorem zej {kindOf : Str -> Option NameKind} {x : Str} {v : Value} : ∀ {P : List Str} {vs : List Value} {i : Nat} {m : Str -> Option Value}, P.Nodup -> P[i]? = some x -> vs[i]? = some v -> kindOf x = some .local ->
  bindL kindOf (P.zip vs) m x = some v
 | [], _, _, _, _, h, _, _ => by simp at h
 | _ :: _, [], _, _, _, _, h, _ => by simp at h
 | p :: P, w :: vs, 0, m, nd, h1, h2, hk => by
  simp at h1 h2; subst h1; subst h2
  show bindL kindOf ((p, w) :: P.zip vs) m p = _
  unfold bindL
  rw [zei fun v hv => (List.nodup_cons.mp nd).1 (List.of_mem_zip hv).1, if_pos hk]
  simp
 | p :: P, w :: vs, i + 1, m, nd, h1, h2, hk => by
  show bindL kindOf ((p, w) :: P.zip vs) m x = _
  unfold bindL
  exact zej (i := i) (List.nodup_cons.mp nd).2 (by simpa using h1) (by simpa using h2) hk
theorem zel {kindOf : Str -> Option NameKind} {x : Str} {v : Value} : ∀ {P : List Str} {vs : List Value} {i : Nat} {m : Str -> Option Value}, P.Nodup -> P[i]? = some x -> vs[i]? = some v -> kindOf x ≠ some .local ->
  bindC kindOf (P.zip vs) m x = some v
 | [], _, _, _, _, h, _, _ => by simp at h
 | _ :: _, [], _, _, _, _, h, _ => by simp at h
 | p :: P, w :: vs, 0, m, nd, h1, h2, hk => by
  simp at h1 h2; subst h1; subst h2
  show bindC kindOf ((p, w) :: P.zip vs) m p = _
  unfold bindC
  rw [zek fun v hv => (List.nodup_cons.mp nd).1 (List.of_mem_zip hv).1, if_neg hk]
  simp
 | p :: P, w :: vs, i + 1, m, nd, h1, h2, hk => by
  show bindC kindOf ((p, w) :: P.zip vs) m x = _
  unfold bindC
  exact zel (i := i) (List.nodup_cons.mp nd).2 (by simpa using h1) (by simpa using h2) hk
def j8 (N : List Str) (vs : List V) : St := vs.map some ++ List.replicate (N.length - vs.length) none
def zlx (CX : CXT) (P : Program) (w : World) (K : PySem.W.Frag) (mg : Str -> Option Value) (base : Heap) (N : List Str) (qual : Str) (scope : Scope) (f : Addr) (cd : Value) (A : Around) (outer : List Env) (s : Shared) (H : Hp) (E : XK) : Cx where
 prog := P
 w := w
 K := K
 mg := mg
 base := base
 A := A.deeper (envOfC qual scope s.heap.objs.size f cd)
 N := N
 s₀ := s
 H₀ := H
 env := envOfC qual scope s.heap.objs.size f cd
 outer := outer
 stack := envOfC qual scope s.heap.objs.size f cd :: outer
 ex := []
 calm := true
 fn := fun _ => true
 pn := []
 xe := fun e s' => wpAny (model P w) (A.deeper (envOfC qual scope s.heap.objs.size f cd)) (leaving (envOfC qual scope s.heap.objs.size f cd) e) (fun _ s'' => CX outer H s E e s'') (fun e' s'' => CX outer H s E e' s'') s'
theorem zhz {sc : Scope} {n : Nat} {x : Str} (h : sc.names.lookup x = some .cell) : ∃ c, (cellsFrom n sc.names []).lookup x = some c := by
 have q := PySem.W.cellsFrom_some sc.names n [] (.inl h)
 exact Option.isSome_iff_exists.mp q
theorem zno {CX : CXT} {P : Program} {w : World} {K : PySem.W.Frag} {mg : Str -> Option Value} {base : Heap} {N ps : List Str} {qual : Str} {scope : Scope} {f : Addr} {cd : Value} {A : Around} {outer : List Env} {s s1 : Shared} {H : Hp} {E : XK} {us : List Value} {vs : List V}
  (S : zJ N ps scope) (hd : A.handled = none) (e0 : Env0 P w K mg base A outer s H) (hl : vs.length = ps.length) (r : Vals vs us)
  (x : InCallC s s.heap.objs.size (bindL (envOfC qual scope s.heap.objs.size f cd).kindOf (ps.zip us) fun _ => none) (cellsFrom (s.heap.objs.size + 1) scope.names []) (bindC (envOfC qual scope s.heap.objs.size f cd).kindOf (ps.zip us) fun _ => none) s1) :
  Inv (zlx CX P w K mg base N qual scope f cd A outer s H E) [] (j8 N vs) H s1 := by
 have hpl : ps.length <= N.length := by have := congrArg List.length S.pre; rw [List.length_take] at this; lia
 obtain ⟨h1, tk, rfl, hk⟩ := x.done
 have noA : ∀ b : Addr, b ∉ (zlx CX P w K mg base N qual scope f cd A outer s H E).ex := fun b z => absurd (show b ∈ ([] : List Addr) from z) (by simp)
 refine ⟨⟨e0.mod, S.kind, rfl, rfl, Nat.le_refl _, fun y z c h1 h2 => ?_, fun y hy => ?_, fun y c _ h => ?_, fun _ => hd, Around.frames_deeper e0.frames, .inr ⟨rfl, rfl⟩, fun b z => absurd z (noA b), e0.bs, e0.bsz, fun b _ _ => noA b, fun b z => absurd z (noA b), e0.funs, e0.frf⟩,
  rfl, e0.bare, Un.kept hk, ⟨_, x.toInCall.ns, fun i y v h1 h2 h3 => ?_⟩, fun y c h => ⟨_, x.cell y c h⟩, e0.hok.fresh (Nat.le_refl _), fun y c h => ?_, fun p hp => absurd (show p ∈ ([] : List (Addr × Obj)) from hp) (by simp), e0.hok.kept hk, ?_⟩
 ·exact name_of_addr x.apart (PySem.mem_of_lookup h1) (PySem.mem_of_lookup h2)
 ·have hy : scope.names.lookup y = some .cell \/ scope.names.lookup y = some .free := hy
  rcases hy with hy | hy
  ·exact zhz hy
  ·exact absurd rfl (S.nofree _ (PySem.mem_of_lookup hy))
 ·exact Nat.le_of_lt (x.above y c (PySem.mem_of_lookup h))
 ·have hi : i < vs.length := by
   unfold j8 at h2
   by_cases hi : i < vs.length
   ·exact hi
   ·rw [List.getElem?_append_right (by simpa using hi)] at h2
    rw [List.getElem?_replicate] at h2
    split at h2 <;> cases h2
  have ha : vs[i]? = some v := by
   unfold j8 at h2
   rw [List.getElem?_append_left (by simpa using hi), List.getElem?_map] at h2
   cases e : vs[i]? with
   | none => rw [e] at h2; cases h2
   | some a => rw [e] at h2; cases h2; rfl
  obtain ⟨u, hu, rv⟩ := r.get ha
  have hp : ps[i]? = some y := by
   rw [<- S.pre, List.getElem?_take_of_lt (by lia)]; exact h1
  have ndP : ps.Nodup := by rw [<- S.pre]; exact S.nd.sublist (List.take_sublist _ _)
  refine ⟨u, rv, ?_⟩
  rcases S.par y (List.mem_of_getElem? hp) with k | k
  ·exact .inl ⟨k, zej ndP hp hu k⟩
  ·obtain ⟨c, e⟩ := zhz (n := s.heap.objs.size + 1) k
   refine .inr ⟨.inl k, c, e, ?_⟩
   have q := x.cell y c e
   rw [zel ndP hp hu (by show scope.names.lookup y ≠ _; rw [k]; decide)] at q
   exact q
 ·exact e0.hok.fresh (Nat.le_of_lt (x.above y c (PySem.mem_of_lookup h)))
 ·unfold j8
  show _ = N.length
  rw [List.length_append, List.length_map, List.length_replicate]
  lia
theorem zws {CX : CXT} {P : Program} {w : World} {K : PySem.W.Frag} {mg : Str -> Option Value} {base : Heap} {k : Nat} {f : Addr} {name qual : Str} {params : Arguments} {body : List Stmt} {scope : Scope} {dV kV doc pm cdv ct oc : Value} {an od : Option Addr}
  {osl : Array (Option Value)} {N ps : List Str} {sp : Sp} (lk : K.lookup f = some ⟨oc, od, .func (PySem.W.fnOf name qual params body scope dV kV doc pm an cdv ct), osl⟩) (hcd : PySem.W.codeIn K cdv qual = true) (S : zJ N ps scope)
  (len : ∀ vs H Q E, sp vs H Q E -> vs.length = ps.length)
  (hbody : ∀ (A : Around) (outer : List Env) (s : Shared) (H : Hp) (vs : List V) (Q : VK) (E : XK), Room k (A.deeper (envOfC qual scope s.heap.objs.size f cdv)) -> sp vs H Q E ->
   ∃ t, PSs (zlx CX P w K mg base N qual scope f cdv A outer s H E) body t /\ t { nx := fun _ H' => Q .non H', rt := Q } (j8 N vs) H) :
  FnOk P w K mg base CX (k + 1) f (PySem.W.fnOf name qual params body scope dV kV doc pm an cdv ct) ps sp := by
 refine ⟨len, fun A outer s H args us vs Q E hr e0 hb r hsp => ?_⟩
 have hl := len _ _ _ _ hsp
 have KX : K.In s.heap := e0.mod.kin.keeps fun b o e => (e0.bs b o e).1
 have lim : s.heap.NoLimit := e0.mod.nolimit.keeps fun b o e => (e0.bs b o e).1
 have hkind : ∀ y ∈ ps.zip us, scope.names.lookup y.1 = some .local \/ (scope.names.lookup y.1 = some .cell /\ ((cellsFrom (s.heap.objs.size + 1) scope.names []).lookup y.1).isSome = true) := fun ⟨n, v⟩ hy => by
  rcases S.par n (List.of_mem_zip hy).1 with q | q
  ·exact .inl q
  ·exact .inr ⟨q, PySem.W.cellsFrom_some _ _ _ (.inl q)⟩
 refine codeAny_call_function hr.depth (KX _ _ lk) rfl S.co S.gen rfl (PySem.W.codeRec_of KX hcd) (hb _ _ _ _ ?_)
 refine wpAny_newFunctionEnv_cells S.kind hkind fun env he s1 x => ?_
 subst he
 refine ⟨lim.keeps x.toInCall.keep, codeAny_func ?_⟩
 obtain ⟨t, ht, hq⟩ := hbody A outer s H vs Q E (hr.deeper _) hsp
 have I : Inv (zlx CX P w K mg base N qual scope f cdv A outer s H E) [] (j8 N vs) H s1 := zno S hr.hd e0 hl r x
 refine wpAny_mono (ht [] s1 (j8 N vs) H _ I hq) (fun fl s' hs => ?_) fun e s' hs => hs
 have fin : ∀ {σ' : St} {H' : Hp} {v : V} {u : Value}, Inv (zlx CX P w K mg base N qual scope f cdv A outer s H E) [] σ' H' s' -> RelV v u -> Q v H' -> CE outer P w H s Q u s' :=
  fun {σ' H' v u} J rv q => ⟨v, H', J.os, J.bare, J.base, J.hok, rv, q⟩
 cases fl with
 | ret u =>
  obtain ⟨v, σ', H', J, rv, q⟩ := hs
  exact fin J rv q
 | next =>
  obtain ⟨σ', H', J, q⟩ := hs
  exact fin (v := V.non) (u := Value.none) J rfl q
 | brk =>
  obtain ⟨_, _, _, q⟩ := hs
  exact False.elim q
 | cont =>
  obtain ⟨_, _, _, q⟩ := hs
  exact False.elim q
section
variable {X : Cx} {x : Str} {p pos : Pos} {e : Expr} {es : List Expr} {t : TA} {id T : String} {r : List V -> Hp -> VK -> Prop}
def tCB (r : List V -> Hp -> VK -> Prop) (t : TA) : TE := fun σ H Q => t σ H fun vs H1 => r vs H1 Q
theorem zO (hc : xL X (.builtin id) r) (hg : Gl X x) (hm : X.mg x = none) (hv : bootBuiltins x = some (.builtin id)) (ha : PA X (e :: es) t) (hn : x ≠ "__name__" := by decide) (hdb : (x == ("__debug__" : Str)) = false := by decide)
  (he : starEach (e :: es) X.env = (false, eval e X.env) :: starEach es X.env := by rfl) (hpl : (backTo pos (starEach es X.env)).any (·.1) = false := by rfl) : PE X (.Call (.Name x p) (e :: es) [] pos) (tCB r t) := by
 intro pins s σ H Q I h
 refine wpAny_Call_Name_kw (zcy I hg hm hv ?_ hn hdb)
 exact PyProof.Rows.callWith_builtin1 (thn (ha pos pins s σ H _ I h) fun us s1 ⟨vs, H1, I1, r1, q1⟩ => hc pins s1 σ H1 vs us Q I1 r1 q1) he hpl
theorem yA (hc : xL X (.type T) r) (hg : Gl X x) (hm : X.mg x = none) (hv : bootBuiltins x = some (.type T)) (ha : PA X (e :: es) t) (hn : x ≠ "__name__" := by decide) (hdb : (x == ("__debug__" : Str)) = false := by decide)
  (he : starEach (e :: es) X.env = (false, eval e X.env) :: starEach es X.env := by rfl) (hpl : (backTo pos (starEach es X.env)).any (·.1) = false := by rfl) : PE X (.Call (.Name x p) (e :: es) [] pos) (tCB r t) := by
 intro pins s σ H Q I h
 refine wpAny_Call_Name_kw (zcy I hg hm hv ?_ hn hdb)
 exact PyProof.Rows.callWith_type1 (thn (ha pos pins s σ H _ I h) fun us s1 ⟨vs, H1, I1, r1, q1⟩ => hc pins s1 σ H1 vs us Q I1 r1 q1) he hpl
end
end L2
namespace HT
open PySem PyProof.Rows
def lexLt : List Int -> List Int -> Bool
 | [], [] => false
 | [], _ :: _ => true
 | _ :: _, [] => false
 | x :: xs, y :: ys => if x = y then lexLt xs ys else decide (x < y)
theorem lexLt_cons (x y : Int) (xs ys : List Int) : lexLt (x :: xs) (y :: ys) = if x = y then lexLt xs ys else decide (x < y) := rfl
theorem zcx : lexLt [] [] = false := rfl
theorem zas (y : Int) (ys : List Int) : lexLt [] (y :: ys) = true := rfl
theorem zat (x : Int) (xs : List Int) : lexLt (x :: xs) [] = false := rfl
theorem zqq (A : Around) (s : Shared) (a : Int) (t : Tok) (c : Int) (u : Tok) : ∃ e, SeqAt.EqAt A s (.int a t) (.int c u) e /\ (e = true ↔ a = c) :=
 ⟨(a == c), SeqAt.EqAt.int_int a t c u, by simp⟩
theorem zpo (A : Around) (s : Shared) (a : Int) (t : Tok) (c : Int) (u : Tok) (prog : Program) (w : World) (E : Value -> Shared -> Prop) (Q : Value -> Shared -> Prop) (h : Q (.bool (decide (a < c))) s) :
  wpAny (model prog w) A (richCompare .Lt (.int a t) (.int c u)) Q E s :=
 (PyProof.Rows.lt_int h : wpAny (model prog w) A (compareOp .Lt (.int a t) (.int c u)) Q E s)
section
open PySem.SeqAt
open PySem.AutoSeq1 (wpAny_loadPart')
open PySem.MeetsSeq PySem.MeetsSeq2 PySem.MeetsSeq3
theorem zcn (l b : Addr) (items items2 : Array Value) (n n2 : Nat) (dd dd2 : Option Addr) (sl sl2 : Array (Option Value)) (ns ms : List Int) (hi : IntsAre items.toList ns) (hj : IntsAre items2.toList ms) :
  Meets (Builtin.«tuple.__lt__» ⟨[.ref l, .ref b], []⟩)
   (fun _ R s => s.heap.get? l = some { cls := .type "tuple", dict := dd, data := .seq items n, slots := sl } /\ s.heap.get? b = some { cls := .type "tuple", dict := dd2, data := .seq items2 n2, slots := sl2 } /\
    R (.ok (.ret (.bool (lexLt ns ms)))) s) :=
 .of_wp fun prog w A R s h => by
  obtain ⟨hp, g, d, tk, os⟩ := s; obtain ⟨hl, hb, h⟩ := h
  have f2 := AutoSeq1.sub_tuple_tuple
  have z1 : items.size = ns.length := by rw [<- hi.length]; simp
  have z2 : items2.size = ms.length := by rw [<- hj.length]; simp
  wp_walk using wpAny_loadPart' hl, wpAny_loadPart' hb, wpAny_forIn_list _ (fun rest b s' => b.1 = none /\ s' = ⟨hp, g, d, tk, os⟩ /\ ∃ (vs ws : List Value) (ns' ms' : List Int), rest = vs.zip ws /\
   IntsAre vs ns' /\ IntsAre ws ms' /\ ns'.length + items2.size = ms'.length + items.size /\ R (.ok (.ret (.bool (lexLt ns' ms')))) ⟨hp, g, d, tk, os⟩) _
  case turn =>
   rintro ⟨y, x⟩ rest b s' ⟨hb', rfl, vs, ws, ns', ms', hz, hvi, hwi, hlen, hR⟩
   cases hvi with
   | nil => rw [List.zip_nil_left] at hz; cases hz
   | cons a t hvi' =>
    cases hwi with
    | nil => rw [List.zip_nil_right] at hz; cases hz
    | cons c u hwi' =>
     rw [List.zip_cons_cons] at hz
     injection hz with hyx hrest
     injection hyx with hy hx
     subst hy hx
     rw [lexLt_cons] at hR
     simp only [List.length_cons] at hlen
     obtain ⟨e, he, hiff⟩ := zqq A.in1 ⟨hp, g, d, tk, os⟩ a t c u
     refine wpAny_bind (he prog w _ _ ?_)
     cases e with
     | true =>
      rw [if_pos (hiff.mp rfl)] at hR
      wp_walk
      exact ⟨rfl, rfl, _, _, _, _, hrest, hvi', hwi', by lia, hR⟩
     | false =>
      rw [if_neg (fun q => absurd (hiff.mpr q) Bool.false_ne_true)] at hR
      have hri := zpo A.in1 ⟨hp, g, d, tk, os⟩ a t c u prog w
      wp_walk using hri
      exact ⟨_, rfl, by simpa using hR⟩
  case fin =>
   rintro ⟨b1, b2⟩ s' ⟨hb', rfl, vs, ws, ns', ms', hz, hvi, hwi, hlen, hR⟩
   simp only at hb'
   subst hb'
   have hv : lexLt ns' ms' = decide (items.size < items2.size) := by
    cases hvi with
    | nil =>
     cases hwi with
     | nil =>
      simp only [List.length_nil] at hlen
      rw [zcx]
      exact (decide_eq_false (by lia)).symm
     | cons c u hw =>
      simp only [List.length_nil, List.length_cons] at hlen
      rw [zas]
      exact (decide_eq_true (by lia)).symm
    | cons a t hv =>
     cases hwi with
     | nil =>
      simp only [List.length_nil, List.length_cons] at hlen
      rw [zat]
      exact (decide_eq_false (by lia)).symm
     | cons c u hw =>
      rw [List.zip_cons_cons] at hz
      cases hz
   rw [hv] at hR
   wp_walk
   exact ⟨_, rfl, by simpa [Builtin.Tuple.tupleCompareSizes] using hR⟩
  case h =>
   exact ⟨rfl, rfl, items.toList, items2.toList, ns, ms, rfl, hi, hj, by lia, h⟩
end
section
variable {prog : Program} {w : World} {A : Around} {E : Value -> Shared -> Prop} {s : Shared}
theorem lt_tupInts {l b : Addr} {items items2 : Array Value} {ns ms : List Int} {Q : Value -> Shared -> Prop} (hl : IsTup s.heap l items) (hb : IsTup s.heap b items2) (hi : IntsAre items.toList ns) (hj : IntsAre items2.toList ms)
  (hu : A.units < cLine) (h : Q (.bool (lexLt ns ms)) s) : wpAny (model prog w) A (compareOp .Lt (.ref l) (.ref b)) Q E s := by
 obtain ⟨⟨cls, dd, data, sl⟩, ho, hc, n, hd⟩ := id hl
 obtain ⟨⟨cls2, dd2, data2, sl2⟩, ho2, hc2, n2, hd2⟩ := id hb
 simp only at hc hd hc2 hd2
 subst hc hd hc2 hd2
 exact richCompare_meets_room (op := .Lt) ⟨_, ho, rfl⟩ ⟨_, ho2, rfl⟩ PySem.F.slot_tuple_lt PySem.F.entry_tuple_lt (PySem.F.args_tuple_lt_2 _ _) (zcn l b items items2 n n2 dd dd2 sl sl2 ns ms hi hj)
  ⟨ho, ho2, show Value.bool (lexLt ns ms) ≠ Value.notImplemented /\ Q (.bool (lexLt ns ms)) s from ⟨(fun x => nomatch x), h⟩⟩ hu
theorem cat_tup {t b : Addr} {vs ws : List Value} {Q : Value -> Shared -> Prop} (ht : IsTup s.heap t vs.toArray) (hb : IsTup s.heap b ws.toArray) (hv : vs ≠ [])
  (h1 : ws = [] -> Q (.ref t) s) (h2 : ws ≠ [] -> Q (.ref s.heap.objs.size) { s with heap := s.heap.push { cls := .type "tuple", data := .seq (vs ++ ws).toArray } })
  (hsz : vs.length + ws.length <= sizeLine) : wpAny (model prog w) A (binaryOp .Add (.ref t) (.ref b)) Q E s := by
 obtain ⟨⟨cls, dd, data, sl⟩, ho, hc, n, hd⟩ := id ht
 obtain ⟨⟨cls2, dd2, data2, sl2⟩, ho2, hc2, n2, hd2⟩ := id hb
 simp only at hc hd hc2 hd2
 subst hc hd hc2 hd2
 have e : vs.toArray ++ ws.toArray = (vs ++ ws).toArray := by simp
 by_cases hw : ws = []
 ·exact concat_meets ⟨_, ho, rfl⟩ ⟨_, ho2, rfl⟩ noFill_tuple_add seq_tuple_add PySem.F.slot_tuple_add PySem.F.entry_tuple_add (PySem.F.args_tuple_add_2 _ _)
   (tuple_addW1 t b vs.toArray ws.toArray n n2 dd dd2 sl sl2 (by simpa using hv) (by simp [hw])) ⟨ho, ho2, h1 hw⟩
 ·refine concat_meets ⟨_, ho, rfl⟩ ⟨_, ho2, rfl⟩ noFill_tuple_add seq_tuple_add PySem.F.slot_tuple_add PySem.F.entry_tuple_add (PySem.F.args_tuple_add_2 _ _)
   (tuple_addW2 t b vs.toArray ws.toArray n n2 dd dd2 sl sl2 (by simpa using hv) (by simpa using hw) (by rw [List.size_toArray, List.size_toArray]; exact hsz)) ⟨ho, ho2, ?_⟩
  rw [e]
  exact h2 hw
def sIx (n d : Nat) : Option Int -> Nat
 | none => d
 | some v => if v < 0 then (v + (n : Int)).toNat else min v.toNat n
theorem sIx_nat (n d k : Nat) : sIx n d (some (k : Int)) = min k n := by
 show (if (k : Int) < 0 then ((k : Int) + (n : Int)).toNat else min (k : Int).toNat n) = min k n
 rw [if_neg (by lia), Int.toNat_natCast]
theorem zyb (n d : Nat) (hd : d <= n) (o : Option Int) : sIx n d o <= n := by
 cases o with
 | none => exact hd
 | some v =>
  show (if v < 0 then (v + (n : Int)).toNat else min v.toNat n) <= n
  by_cases hv : v < 0
  ·rw [if_pos hv]; lia
  ·rw [if_neg hv]; exact Nat.min_le_right _ _
theorem zmd (v : Int) (n d : Nat) : (if v < 0 then max (v + (n : Int)) 0 else min v (n : Int)) = ((sIx n d (some v) : Nat) : Int) := by
 show (if v < 0 then max (v + (n : Int)) 0 else min v (n : Int)) = (((if v < 0 then (v + (n : Int)).toNat else min v.toNat n) : Nat) : Int)
 by_cases hv : v < 0
 ·simp only [if_pos hv]; lia
 ·simp only [if_neg hv]; lia
theorem zjk (lo hi : Option Int) (n : Nat) : Builtin.Slice.sliceAdjust lo hi 1 (n : Int) = (((sIx n 0 lo : Nat) : Int), ((sIx n n hi : Nat) : Int)) := by
 have h1 : ¬ ((1 : Int) < 0) := by lia
 unfold Builtin.Slice.sliceAdjust
 simp only [h1, if_false]
 refine Prod.ext ?_ ?_
 ·cases lo with
  | none => rfl
  | some v => exact zmd v n 0
 ·cases hi with
  | none => rfl
  | some v => exact zmd v n n
theorem zir (i j : Nat) : Builtin.Slice.slicePlaces (i : Int) (j : Int) 1 = j - i := by
 unfold Builtin.Slice.slicePlaces
 have h1 : (1 : Int) > 0 := by lia
 simp only [h1, if_true, Int.ediv_one]
 split <;> lia
theorem zbb {v : Value} {o : Option Int} {Q : Option Int -> Shared -> Prop} (p : IsPart v o) (h : Q o s) : wpAny (model prog w) A (Builtin.Slice.slicePartIndex v) Q E s := by
 cases p with
 | none => exact slicePart_none h
 | int i t => exact slicePart_int h
theorem kP {sl : Addr} {vl vu : Value} {lo hi : Option Int} {n : Nat} {Q : Int × Int × Nat -> Shared -> Prop} (hs : s.heap.IsSliceOf sl vl vu .none) (pl : IsPart vl lo) (pu : IsPart vu hi)
  (h : Q (((sIx n 0 lo : Nat) : Int), 1, sIx n n hi - sIx n 0 lo) s) : wpAny (model prog w) A (Builtin.Slice.sliceApplied (.ref sl) (pure (n : Int))) Q E s := by
 obtain ⟨os, hos, hcs, hds⟩ := id hs
 unfold Builtin.Slice.sliceApplied Builtin.Slice.sliceFields
 refine wpAny_bind (wpAny_bind (wpAny_field hos hds (x := vl) rfl (wpAny_bind (wpAny_field hos hds (x := vu) rfl (wpAny_bind (wpAny_field hos hds (x := .none) rfl (wpAny_pure ?_)))))))
 refine wpAny_bind (slicePart_none ?_)
 show wpAny _ _ (if ((1 : Int) == 0) = true then _ else _) _ _ s
 rw [if_neg (by decide)]
 refine wpAny_bind (zbb pl (wpAny_bind (zbb pu (wpAny_bind (wpAny_pure ?_)))))
 show wpAny _ _ (match Builtin.Slice.sliceAdjust lo hi 1 (n : Int) with | (lo, hi) => pure (lo, (1 : Int), Builtin.Slice.slicePlaces lo hi 1)) _ _ s
 rw [zjk lo hi n]
 show wpAny _ _ (pure (((sIx n 0 lo : Nat) : Int), (1 : Int), Builtin.Slice.slicePlaces ((sIx n 0 lo : Nat) : Int) ((sIx n n hi : Nat) : Int) 1)) _ _ s
 rw [zir]
 exact wpAny_pure h
theorem zpx (xs : Array Value) (i k : Nat) : ((List.range k).filterMap fun (m : Nat) => xs[((i : Int) + (m : Int) * 1).toNat]?).toArray = ((xs.toList.drop i).take k).toArray := by
 have e : (fun (m : Nat) => xs[((i : Int) + (m : Int) * 1).toNat]?) = fun m => xs[i + m]? := by
  funext m
  have : ((i : Int) + (m : Int) * 1).toNat = i + m := by lia
  rw [this]
 rw [e]
 have := pick_run xs i k
 rw [List.filterMap_map] at this
 have e2 : ((fun x => xs[x]?) ∘ fun x => i + x) = fun m => xs[i + m]? := rfl
 rw [e2] at this
 rw [this]
theorem getItem_tuple_cut {t sl : Addr} {items : Array Value} {vl vu : Value} {lo hi : Option Int} {Q : Value -> Shared -> Prop} (ht : IsTup s.heap t items) (hs : s.heap.IsSliceOf sl vl vu .none) (pl : IsPart vl lo) (pu : IsPart vu hi)
  (hw : ¬ (sIx items.size 0 lo = 0 /\ sIx items.size items.size hi = items.size))
  (h : Q (.ref s.heap.objs.size) { s with heap := s.heap.push { cls := .type "tuple", data := .seq ((items.toList.drop (sIx items.size 0 lo)).take (sIx items.size items.size hi - sIx items.size 0 lo)).toArray } })
  (hsz : items.size <= sizeLine) : wpAny (model prog w) A (getItem (.ref t) (.ref sl)) Q E s := by
 have htake : sizeOk (.seq ((items.toList.drop (sIx items.size 0 lo)).take (sIx items.size items.size hi - sIx items.size 0 lo)).toArray) := by
  show ((items.toList.drop (sIx items.size 0 lo)).take (sIx items.size items.size hi - sIx items.size 0 lo)).toArray.size <= sizeLine
  rw [List.size_toArray, List.length_take, List.length_drop, Array.length_toList]
  lia
 have hj : sIx items.size items.size hi <= items.size := zyb _ _ (Nat.le_refl _) hi
 obtain ⟨os, hos, hcs, hds⟩ := id hs
 have hTs : s.TypeIs (.ref sl) "slice" := ⟨os, hos, hcs⟩
 unfold getItem
 try with_reducible refine wpAny_holding ?_
 first | refine wpAny_bind (wpAny_pure ?_) | skip
 refine wpAny_bind (wpAny_sequenceKey ht.typeIs (by decide) ?_)
 refine wpAny_bind (wpAny_callSpecial?_slot (name := Str.ofString "__getitem__") ht.typeIs PyProof.Rows.slot_tuple_getitem
  (wpAny_call_entry PyProof.Rows.slot_tuple_getitem ht.typeIs entry_tuple_getitem ?_ (args_tuple_getitem _ _)))
 show wpAny _ _ (Builtin.Tuple.tupleItemsOf (.ref t) >>= _) _ _ s
 refine wpAny_bind (tupleItemsOf_ ht ?_)
 refine wpAny_bind (wpAny_typeOf hTs ?_)
 rw [if_pos (by decide)]
 refine wpAny_bind (kP hs pl pu ?_)
 have hno : ¬ ((((sIx items.size 0 lo : Nat) : Int) == 0 && (1 : Int) == 1 && (sIx items.size items.size hi - sIx items.size 0 lo) == items.size) = true) := by
  intro q
  rw [Bool.and_eq_true, Bool.and_eq_true] at q
  have q1 : ((sIx items.size 0 lo : Nat) : Int) = 0 := eq_of_beq q.1.1
  have q2 : sIx items.size items.size hi - sIx items.size 0 lo = items.size := eq_of_beq q.2
  exact hw ⟨by lia, by lia⟩
 show wpAny _ _ (if (((sIx items.size 0 lo : Nat) : Int) == 0 && (1 : Int) == 1 && (sIx items.size items.size hi - sIx items.size 0 lo) == items.size) = true then _ else _) _ _ s
 rw [if_neg hno, zpx]
 first
  | exact wpAny_bind (m := Builtin.Tuple.tupleExact _) (wpAny_newObj_type (wpAny_pure ⟨_, rfl, wpAny_pure h⟩) htake)
  | exact wpAny_bind (m := Builtin.Tuple.tupleExact _) (wpAny_newObj_type (wpAny_bind (wpAny_pure (wpAny_pure ⟨_, rfl, wpAny_pure h⟩))) htake)
  | exact wpAny_bind (wpAny_bind (m := Builtin.Tuple.tupleExact _) (wpAny_newObj_type (wpAny_pure (wpAny_pure ⟨_, rfl, wpAny_pure h⟩)) htake))
  | exact wpAny_bind (wpAny_bind (m := Builtin.Tuple.tupleExact _) (wpAny_newObj_type (wpAny_pure ⟨_, rfl, wpAny_pure h⟩) htake))
end
end HT
namespace L2
open PySem PySem.Spec PyProof.Rows
abbrev TO := St -> Hp -> (Option Int -> Hp -> Prop) -> Prop
def PO (X : Cx) (e : Option Expr) (t : TO) : Prop :=
 ∀ (pins : List (Addr × Obj)) (s : Shared) (σ : St) (H : Hp) (Q : Option Int -> Hp -> Prop), Inv X pins σ H s -> t σ H Q ->
  wpAny (model X.prog X.w) X.A (evalPart e X.env) (fun u s' => ∃ o H', Inv X pins σ H' s' /\ IsPart u o /\ Q o H') X.xe s
def zsz : TO := fun _ H Q => Q none H
def zAq (t : TE) : TO := fun σ H Q => t σ H fun x H1 => ∃ i, x = .int i /\ Q (some i) H1
theorem vK {ns : List Int} : ∀ {us : List Value}, Vals (ns.map V.int) us -> IntsAre us ns := by
 induction ns with
 | nil => intro us r; rw [List.map_nil] at r; cases r; exact .nil
 | cons n ns ih =>
  intro us r
  rw [List.map_cons] at r
  cases r with
  | cons r1 r2 =>
   obtain ⟨t, e⟩ := r1
   subst e
   exact .cons n t (ih r2)
section
variable {X : Cx} {e : Expr} {te : TE} {lo hi : Option Expr} {tl th : TO} {pos p2 : Pos}
theorem kQ : PO X none zsz := by
 intro pins s σ H Q I h
 rw [evalPart_none]
 exact wpAny_pure ⟨none, H, I, .none, h⟩
theorem vO (h : PE X e te) : PO X (some e) (zAq te) := by
 intro pins s σ H Q I hw
 rw [evalPart_some]
 refine thn (h pins s σ H _ I hw) fun u s1 ⟨x, H1, I1, r1, q1⟩ => ?_
 obtain ⟨i, rfl, q⟩ := q1
 obtain ⟨t, rfl⟩ := r1
 exact ⟨some i, H1, I1, .int i t, q⟩
def SlR (X : Cx) (r : V -> Option Int -> Option Int -> Hp -> VK -> Prop) : Prop :=
 ∀ (pins : List (Addr × Obj)) (s : Shared) (σ : St) (H : Hp) (x : V) (v vl vu : Value) (lo hi : Option Int) (sl : Addr) (Q : VK), Inv X pins σ H s -> RelV x v -> s.heap.IsSliceOf sl vl vu .none -> IsPart vl lo -> IsPart vu hi -> r x lo hi H Q ->
  ∃ T id, typeLookup (.type T) "__getitem__" = pure (some (.builtin id)) /\ s.TypeIs v T /\ wpAny (model X.prog X.w) X.A (getItem v (.ref sl)) (EP X pins σ Q) X.xe s
def tSl (r : V -> Option Int -> Option Int -> Hp -> VK -> Prop) (te : TE) (tl th : TO) : TE := fun σ H Q => te σ H fun x H1 => tl σ H1 fun l H2 => th σ H2 fun u H3 => r x l u H3 Q
theorem vC {r : V -> Option Int -> Option Int -> Hp -> VK -> Prop} (hr : SlR X r) (he : PE X e te) (hl : PO X lo tl) (hu : PO X hi th) : PE X (.Subscript e (.Slice lo hi none p2) pos) (tSl r te tl th) := by
 intro pins s σ H Q I h
 refine Subscript_ (thn (he pins s σ H _ I h) fun v s1 ⟨x, H1, I1, r1, q1⟩ => ?_)
 refine wpAny_Slice (thn (hl pins s1 σ H1 _ I1 q1) fun vl s2 ⟨l, H2, I2, pl, q2⟩ => thn (hu pins s2 σ H2 _ I2 q2) fun vu s3 ⟨u, H3, I3, pu, q3⟩ => ?_)
 rw [evalPart_none]
 refine wpAny_pure ?_
 have I4 : Inv X pins σ H3 { s3 with heap := s3.heap.push { cls := .type "slice", data := .fields #[vl, vu, .none] } } := I3.kept (t' := s3.toks) fun b ob q => Heap.get?_push_of_some _ q
 obtain ⟨T, id, hT, ht, hg⟩ := hr pins { s3 with heap := s3.heap.push { cls := .type "slice", data := .fields #[vl, vu, .none] } } σ H3 x v vl vu l u s3.heap.objs.size Q I4 r1 (Heap.IsSliceOf.new ..) pl pu q3
 show wpAny (model X.prog X.w) X.A (subscriptTail e (.Slice lo hi none p2) v (.ref s3.heap.objs.size)) (EP X pins σ Q) X.xe { s3 with heap := s3.heap.push { cls := .type "slice", data := .fields #[vl, vu, .none] } }
 exact tail_any (ops := [.ref s3.heap.objs.size, v]) ht hT hg (by with_unfolding_all rfl)
def gS (xs : List V) (lo hi : Option Int) : List V := (xs.drop (HT.sIx xs.length 0 lo)).take (HT.sIx xs.length xs.length hi - HT.sIx xs.length 0 lo)
theorem v5 (xs : List V) (lo hi : Option Int) : (gS xs lo hi).length <= xs.length := by
 unfold gS
 rw [List.length_take, List.length_drop]
 lia
def zCu (K : PySem.W.Frag) : V -> Option Int -> Option Int -> Hp -> VK -> Prop := fun x lo hi H Q => ∃ a xs, x = .ref a /\ SqT K H a xs /\
 ¬ (HT.sIx xs.length 0 lo = 0 /\ HT.sIx xs.length xs.length hi = xs.length) /\ ∀ p, H p = none -> Q (.ref p) (upd H p (.tup (gS xs lo hi)))
theorem zxs : SlR X (zCu X.K) := by
 intro pins s σ H x v vl vu lo hi sl Q I rx hs pl pu h
 obtain ⟨a, xs, rfl, hx, hw, q⟩ := h
 cases rx
 obtain ⟨its, r, ht, hz⟩ := I.tuple hx
 have hlen : its.toArray.size = xs.length := by rw [List.size_toArray]; exact r.length.symm
 refine ⟨"tuple", _, PyProof.Rows.slot_tuple_getitem.lookup, ht.typeIs, ?_⟩
 refine HT.getItem_tuple_cut ht hs pl pu (by rw [hlen]; exact hw) ?_ (by rw [hlen]; exact hz)
 rw [hlen]
 refine ⟨.ref s.heap.objs.size, _, I.laid (t' := s.toks) (o := .tup (gS xs lo hi)) (fun b ob q => Heap.get?_push_of_some _ q) (Nat.le_refl _) ?_, rfl, q _ (I.hok.fresh (Nat.le_refl _))⟩
 exact ⟨Nat.le_trans (v5 xs lo hi) hz, _, (r.drop (HT.sIx xs.length 0 lo)).take (HT.sIx xs.length xs.length hi - HT.sIx xs.length 0 lo), IsTup.new _ _⟩
def zBe (K : PySem.W.Frag) : R2 := fun x y H Q => ∃ a b xs ys, x = .ref a /\ y = .ref b /\ SqT K H a xs /\ SqT K H b ys /\ xs ≠ [] /\ xs.length + ys.length <= sizeLine /\
 (ys = [] -> Q (.ref a) H) /\ (ys ≠ [] -> ∀ p, H p = none -> Q (.ref p) (upd H p (.tup (xs ++ ys))))
theorem Vals.nil_iff {xs : List V} {us : List Value} (r : Vals xs us) : us = [] ↔ xs = [] := by
 cases r with
 | nil => simp
 | cons _ _ => simp
theorem zll : OpR X (binaryOp .Add) (zBe X.K) := by
 intro pins s σ H x y v u Q I rx ry h
 obtain ⟨a, b, xs, ys, rfl, rfl, ha, hb, hx, hz, q1, q2⟩ := h
 cases rx
 cases ry
 obtain ⟨its, r1, p1, _⟩ := I.tuple ha
 obtain ⟨its2, r2, p2, _⟩ := I.tuple hb
 refine HT.cat_tup p1 p2 (fun z => hx (r1.nil_iff.mp z)) (fun z => ⟨.ref a, H, I, rfl, q1 (r2.nil_iff.mp z)⟩) (fun z => ?_) (by rw [<- r1.length, <- r2.length]; exact hz)
 refine ⟨.ref s.heap.objs.size, _, I.laid (t' := s.toks) (o := .tup (xs ++ ys)) (fun b ob q => Heap.get?_push_of_some _ q) (Nat.le_refl _) ?_, rfl, q2 (fun w => z (r2.nil_iff.mpr w)) _ (I.hok.fresh (Nat.le_refl _))⟩
 exact ⟨by rw [List.length_append]; exact hz, _, r1.append r2, IsTup.new _ _⟩
end
def ixN (n : Nat) (i : Int) : Option Nat := if 0 <= i then (if i < n then some i.toNat else none) else if -(n : Int) <= i then some (i + n).toNat else none
def atI {α : Type} (xs : List α) (i : Int) : Option α := (ixN xs.length i).bind fun j => xs[j]?
theorem zuh {n : Nat} {i : Int} {j : Nat} (h : ixN n i = some j) : seqIndex? i n = some j /\ j < n /\ -(n : Int) <= i /\ i < n := by
 unfold ixN at h
 by_cases h0 : 0 <= i
 ·rw [if_pos h0] at h
  by_cases h1 : i < n
  ·rw [if_pos h1] at h
   have e : i.toNat = j := Option.some.inj h
   exact ⟨by rw [seqIndex_of h0 h1, e], by lia, by lia, h1⟩
  ·rw [if_neg h1] at h; cases h
 ·rw [if_neg h0] at h
  by_cases h1 : -(n : Int) <= i
  ·rw [if_pos h1] at h
   have e : (i + n).toNat = j := Option.some.inj h
   exact ⟨by rw [seqIndex_neg (by lia) h1, e], by lia, h1, by lia⟩
  ·rw [if_neg h1] at h; cases h
theorem zme {α : Type} {xs : List α} {i : Int} {v : α} (h : atI xs i = some v) : ∃ j, seqIndex? i xs.length = some j /\ xs[j]? = some v /\ j < xs.length /\ -(xs.length : Int) <= i /\ i < xs.length := by
 unfold atI at h
 cases e : ixN xs.length i with
 | none => rw [e] at h; cases h
 | some j =>
  rw [e] at h
  obtain ⟨h1, h2, h3, h4⟩ := zuh e
  exact ⟨j, h1, h, h2, h3, h4⟩
theorem zR {α : Type} {xs : List α} {j : Nat} {v : α} (h : xs[j]? = some v) : atI xs (j : Int) = some v := by
 have hj : j < xs.length := (List.getElem?_eq_some_iff.mp h).1
 have e : ixN xs.length (j : Int) = some j := by
  unfold ixN
  rw [if_pos (by lia), if_pos (by lia)]; simp
 unfold atI; rw [e]; exact h
theorem zrb {α : Type} (xs : List α) (v : α) : atI (xs ++ [v]) (-1) = some v := by
 have hl : (xs ++ [v]).length = xs.length + 1 := by simp
 have e : ixN (xs ++ [v]).length (-1) = some xs.length := by
  unfold ixN
  rw [hl, if_neg (by decide), if_pos (by lia)]
  congr 1
  lia
 unfold atI
 rw [e]
 show (xs ++ [v])[xs.length]? = some v
 simp
def zvr (b : Expr) : Prop := ∀ o i, subscripted b false o i = operate [o, i] (getItem o i)
def IxR (X : Cx) (r : R2) : Prop :=
 ∀ (value slice : Expr) (pins : List (Addr × Obj)) (s : Shared) (σ : St) (H : Hp) (x y : V) (v u : Value) (Q : VK), Inv X pins σ H s -> RelV x v -> RelV y u -> r x y H Q ->
  subscripted slice false v u = operate [v, u] (getItem v u) -> wpAny (model X.prog X.w) X.A (subscriptTail value slice v u) (EP X pins σ Q) X.xe s
def MtR (X : Cx) (id : String) (r : V -> List V -> Hp -> VK -> Prop) : Prop :=
 ∀ (pins : List (Addr × Obj)) (s : Shared) (σ : St) (H : Hp) (x : V) (xs : List V) (v : Value) (us : List Value) (Q : VK), Inv X pins σ H s -> RelV x v -> Vals xs us -> r x xs H Q ->
  wpAny (model X.prog X.w) X.A (call (.builtin id) (v :: us)) (EP X pins σ Q) X.xe s
section
variable {X : Cx} {a b : Expr} {ta tb : TE} {pos : Pos}
theorem yD {r : R2} (hr : IxR X r) (ha : PE X a ta) (hb : PE X b tb) (hs : zvr b) : PE X (.Subscript a b pos) (tOp r ta tb) := by
 intro pins s σ H Q I h
 exact Subscript_ (zAj ha hb I h fun v u s2 x y H2 I2 rx ry q => hr a b pins s2 σ H2 x y v u Q I2 rx ry q (hs _ _))
def zAf (K : PySem.W.Frag) : R2 := fun x y H Q => ∃ p xs i v, x = .ref p /\ y = .int i /\ SqL K H p xs /\ atI xs i = some v /\ Q v H
def zfc (K : PySem.W.Frag) : R2 := fun x y H Q => ∃ p xs i v, x = .ref p /\ y = .int i /\ SqT K H p xs /\ atI xs i = some v /\ Q v H
theorem zug : IxR X (zAf X.K) := by
 intro value slice pins s σ H x y v u Q I rx ry h hs
 obtain ⟨p, xs, i, z, rfl, rfl, hq, he, q⟩ := h
 cases rx
 obtain ⟨t, rfl⟩ := ry
 obtain ⟨its, r, pl, hz⟩ := I.list hq
 obtain ⟨j, h1, h2, h3, h4, h5⟩ := zme he
 obtain ⟨w, ew, rw'⟩ := r.get h2
 have hl := r.length
 have hn := zgj
 have fin : EP X pins σ Q w s := ⟨z, H, I, rw', q⟩
 by_cases h0 : 0 <= i
 ·have hj : i.toNat = j := by
   rw [seqIndex_of h0 h5] at h1
   exact Option.some.inj h1
  exact item_listR pl.isList h0 (by lia) (by rw [hj]; simpa using ew) fin hs
 ·have hj : (i + (its.toArray.size : Int)).toNat = j := by
   rw [seqIndex_neg (by lia) h4] at h1
   rw [List.size_toArray, <- hl]
   exact Option.some.inj h1
  exact subscriptTail_builtinR (x := w) pl.isList.typeIs slot_list_getitem.lookup
   (wpAny_getItem_list_neg (Q := fun r s' => r = w /\ EP X pins σ Q r s') pl.isList (by lia) (by rw [List.size_toArray] <;> lia) (by lia) (by rw [hj]; simpa using ew) ⟨rfl, fin⟩) hs
theorem zze : IxR X (zfc X.K) := by
 intro value slice pins s σ H x y v u Q I rx ry h hs
 obtain ⟨p, xs, i, z, rfl, rfl, hq, he, q⟩ := h
 cases rx
 obtain ⟨t, rfl⟩ := ry
 obtain ⟨its, r, pl, hz⟩ := I.tuple hq
 obtain ⟨j, h1, h2, h3, h4, h5⟩ := zme he
 obtain ⟨w, ew, rw'⟩ := r.get h2
 have hl := r.length
 have hn := zgj
 have fin : EP X pins σ Q w s := ⟨z, H, I, rw', q⟩
 exact subscriptTail_builtinR (x := w) pl.typeIs slot_tuple_getitem.lookup
  (getItem_tuple (j := j) (Q := fun r s' => r = w /\ EP X pins σ Q r s') pl (by lia) (by lia) (by rw [List.size_toArray, <- hl]; exact h1) (by simpa using ew) ⟨rfl, fin⟩) hs
theorem zeq (lo hi : Option Int) (n : Nat) : (sliceBounds lo hi none n).1 = ((HT.sIx n 0 lo : Nat) : Int) /\ (sliceBounds lo hi none n).2.1 = ((HT.sIx n n hi : Nat) : Int) /\ (sliceBounds lo hi none n).2.2 = 1 := by
 refine ⟨?_, ?_, rfl⟩
 ·cases lo with
  | none => simp [sliceBounds, HT.sIx]
  | some i =>
   simp only [sliceBounds, HT.sIx, Option.getD_none, show (1 : Int) > 0 by decide, if_true]
   by_cases h : i < 0
   ·simp only [h, if_true] <;> lia
   ·simp only [h, if_false] <;> lia
 ·cases hi with
  | none => simp [sliceBounds, HT.sIx]
  | some i =>
   simp only [sliceBounds, HT.sIx, Option.getD_none, show (1 : Int) > 0 by decide, if_true]
   by_cases h : i < 0
   ·simp only [h, if_true] <;> lia
   ·simp only [h, if_false] <;> lia
theorem zcq (its : List Value) (lo hi : Option Int) : slicePick its.toArray lo hi none = ((its.drop (HT.sIx its.length 0 lo)).take (HT.sIx its.length its.length hi - HT.sIx its.length 0 lo)).toArray := by
 obtain ⟨h1, h2, h3⟩ := zeq lo hi its.toArray.size
 unfold slicePick
 rw [h1, h2, h3]
 simp only [sliceRange_one, pick_run, List.size_toArray] <;> rfl
def zCv (K : PySem.W.Frag) : V -> Option Int -> Option Int -> Hp -> VK -> Prop := fun x lo hi H Q => ∃ a xs, x = .ref a /\ SqL K H a xs /\ ∀ p, H p = none -> Q (.ref p) (upd H p (.lst (gS xs lo hi)))
theorem ztb : SlR X (zCv X.K) := by
 intro pins s σ H x v vl vu lo hi sl Q I rx hs pl pu h
 obtain ⟨a, xs, rfl, hx, q⟩ := h
 cases rx
 obtain ⟨its, r, ht, hz⟩ := I.list hx
 have hlen := r.length
 refine ⟨"list", _, slot_list_getitem.lookup, ht.isList.typeIs, ?_⟩
 refine wpAny_getItem_list_slice ht.isList hs pl pu .none (by simp) ?_ (by rw [List.size_toArray] <;> lia)
 rw [zcq, <- hlen]
 refine ⟨.ref s.heap.objs.size, _, I.laid (t' := s.toks) (o := .lst (gS xs lo hi)) (fun b ob q => Heap.get?_push_of_some _ q) (Nat.le_refl _) ?_, rfl, q _ (I.hok.fresh (Nat.le_refl _))⟩
 exact ⟨Nat.le_trans (v5 xs lo hi) hz, _, 0, (r.drop (HT.sIx xs.length 0 lo)).take (HT.sIx xs.length xs.length hi - HT.sIx xs.length 0 lo), Heap.get?_push_size _ rfl⟩
def jS : V -> Bool
 | .non => true
 | .bl _ => true
 | .int _ => true
 | .str _ => true
 | _ => false
def eqV : V -> V -> Bool
 | .non, .non => true
 | .bl a, .bl b => a == b
 | .bl a, .int b => (if a then 1 else 0) == b
 | .int a, .bl b => a == (if b then 1 else 0)
 | .int a, .int b => a == b
 | .str a, .str b => a == b
 | _, _ => false
theorem zkd {A : Around} {s : Shared} {y x : V} {u v : Value} (ry : RelV y u) (rx : RelV x v) (fy : jS y = true) (fx : jS x = true) : SeqAt.EqAt A s u v (eqV y x) := by
 cases y with
 | non =>
  cases ry
  cases x with
  | non => cases rx; exact SeqAt.EqAt.same _
  | bl b => cases rx; exact SeqAt.EqAt.none_bool b
  | int b => obtain ⟨t, rfl⟩ := rx; exact SeqAt.EqAt.none_int b t
  | str b => obtain ⟨t, rfl⟩ := rx; exact SeqAt.EqAt.none_str b t
  | _ => exact absurd (show false = true from fx) Bool.false_ne_true
 | bl a =>
  cases ry
  cases x with
  | non => cases rx; exact SeqAt.EqAt.bool_none a
  | bl b => cases rx; exact SeqAt.EqAt.bool_bool a b
  | int b => obtain ⟨t, rfl⟩ := rx; exact SeqAt.EqAt.bool_int a b t
  | str b => obtain ⟨t, rfl⟩ := rx; exact SeqAt.EqAt.bool_str a b t
  | _ => exact absurd (show false = true from fx) Bool.false_ne_true
 | int a =>
  obtain ⟨t', rfl⟩ := ry
  cases x with
  | non => cases rx; exact SeqAt.EqAt.int_none a t'
  | bl b => cases rx; exact SeqAt.EqAt.int_bool a t' b
  | int b => obtain ⟨t, rfl⟩ := rx; exact SeqAt.EqAt.int_int a t' b t
  | str b => obtain ⟨t, rfl⟩ := rx; exact SeqAt.EqAt.int_str a t' b t
  | _ => exact absurd (show false = true from fx) Bool.false_ne_true
 | str a =>
  obtain ⟨t', rfl⟩ := ry
  cases x with
  | non => cases rx; exact SeqAt.EqAt.str_none a t'
  | bl b => cases rx; exact SeqAt.EqAt.str_bool a t' b
  | int b => obtain ⟨t, rfl⟩ := rx; exact SeqAt.EqAt.str_int a t' b t
  | str b => obtain ⟨t, rfl⟩ := rx; exact SeqAt.EqAt.str_str a t' b t
  | _ => exact absurd (show false = true from fx) Bool.false_ne_true
 | _ => exact absurd (show false = true from fy) Bool.false_ne_true
def eqU (x : V) (u : Value) : Bool := match u with
 | .none => eqV .non x
 | .bool b => eqV (.bl b) x
 | .int i _ => eqV (.int i) x
 | .str z _ => eqV (.str z) x
 | _ => false
theorem zsf {x y : V} {u : Value} (r : RelV y u) (f : jS y = true) : eqU x u = eqV y x := by
 cases y with
 | non => cases r; rfl
 | bl b => cases r; rfl
 | int i => obtain ⟨t, rfl⟩ := r; rfl
 | str z => obtain ⟨t, rfl⟩ := r; rfl
 | _ => exact absurd (show false = true from f) Bool.false_ne_true
theorem kZ {x : V} : ∀ {xs : List V} {us : List Value}, Vals xs us -> xs.all jS = true -> us.any (eqU x) = xs.any fun y => eqV y x
 | _, _, .nil, _ => rfl
 | y :: xs, u :: us, .cons r t, f => by
  rw [List.all_cons, Bool.and_eq_true] at f
  rw [List.any_cons, List.any_cons, zsf r f.1, kZ t f.2]
theorem qC {A : Around} {s : Shared} {x : V} {v : Value} (rx : RelV x v) (fx : jS x = true) : ∀ {xs : List V} {us : List Value}, Vals xs us -> xs.all jS = true -> ∀ u ∈ us, SeqAt.EqAt A s u v (eqU x u)
 | _, _, .nil, _ => fun u hu => by cases hu
 | y :: xs, u :: us, .cons r t, f => fun u' hu => by
  rw [List.all_cons, Bool.and_eq_true] at f
  rcases List.mem_cons.mp hu with rfl | hu
  ·rw [zsf r f.1]; exact zkd r rx f.1 fx
  ·exact qC rx fx t f.2 u' hu
def inV (x : V) (xs : List V) : Bool := xs.any fun y => eqV y x
def rIn (K : PySem.W.Frag) (neg : Bool) : R2 := fun x y H Q => ∃ p xs, y = .ref p /\ (SqL K H p xs \/ SqT K H p xs) /\ jS x = true /\ xs.all jS = true /\ Q (.bl (if neg then !inV x xs else inV x xs)) H
theorem znb : OpR X (compareOp .In) (rIn X.K false) := by
 intro pins s σ H x y v u Q I rx ry h
 obtain ⟨p, xs, rfl, hq, fx, fs, q⟩ := h
 cases ry
 rcases hq with hq | hq
 ·obtain ⟨its, r, pl, hz⟩ := I.list hq
  refine SeqAt.in_listAt (eqU x) pl.isList (fun w hw => qC rx fx r fs w (by simpa using hw)) ⟨.bl _, H, I, rfl, ?_⟩
  rw [show its.toArray.any (eqU x) = its.any (eqU x) by simp, kZ r fs]
  exact q
 ·obtain ⟨its, r, pl, hz⟩ := I.tuple hq
  refine SeqAt.in_tupleAt (eqU x) pl (fun w hw => qC rx fx r fs w (by simpa using hw)) ⟨.bl _, H, I, rfl, ?_⟩
  rw [show its.toArray.any (eqU x) = its.any (eqU x) by simp, kZ r fs]
  exact q
theorem zer : OpR X (compareOp .NotIn) (rIn X.K true) := by
 intro pins s σ H x y v u Q I rx ry h
 obtain ⟨p, xs, rfl, hq, fx, fs, q⟩ := h
 cases ry
 rcases hq with hq | hq
 ·obtain ⟨its, r, pl, hz⟩ := I.list hq
  refine SeqAt.notIn_listAt (eqU x) pl.isList (fun w hw => qC rx fx r fs w (by simpa using hw)) ⟨.bl _, H, I, rfl, ?_⟩
  rw [show its.toArray.any (eqU x) = its.any (eqU x) by simp, kZ r fs]
  exact q
 ·obtain ⟨its, r, pl, hz⟩ := I.tuple hq
  refine SeqAt.notIn_tupleAt (eqU x) pl (fun w hw => qC rx fx r fs w (by simpa using hw)) ⟨.bl _, H, I, rfl, ?_⟩
  rw [show its.toArray.any (eqU x) = its.any (eqU x) by simp, kZ r fs]
  exact q
theorem zew : xL X (.builtin "len") (fun xs H Q => ∃ p ys, xs = [.ref p] /\ (SqL X.K H p ys \/ SqT X.K H p ys) /\ Q (.int ys.length) H) := by
 intro pins s σ H xs us Q I r h
 obtain ⟨p, ys, rfl, hq, q⟩ := h
 obtain ⟨u, rfl, rx⟩ := zof r
 cases rx
 have hn := zgj
 rcases hq with hq | hq
 ·obtain ⟨its, r', pl, hz⟩ := I.list hq
  have hlen := r'.length
  exact Calls.call_len_list pl.isList (by simp only [List.size_toArray] <;> lia) ⟨.int ys.length, H, I.tok _, ⟨s.toks + 1, by rw [List.size_toArray, hlen]⟩, q⟩
 ·obtain ⟨its, r', pl, hz⟩ := I.tuple hq
  have hlen := r'.length
  exact len_tuple pl (by simp only [List.size_toArray] <;> lia) ⟨.int ys.length, H, I.tok _, ⟨s.toks + 1, by rw [List.size_toArray, hlen]⟩, q⟩
theorem zev : xL X (.type "list") (fun xs H Q => ∃ p ys, xs = [.ref p] /\ (SqL X.K H p ys \/ SqT X.K H p ys) /\ ∀ l, H l = none -> Q (.ref l) (upd H l (.lst ys))) := by
 intro pins s σ H xs us Q I r h
 obtain ⟨p, ys, rfl, hq, q⟩ := h
 obtain ⟨u, rfl, rx⟩ := zof r
 cases rx
 have fin : ∀ (its : List Value), Vals ys its -> ys.length <= sizeLine -> ∀ (h' : Heap) (c' : Nat), (∀ b o', s.heap.get? b = some o' -> h'.get? b = some o') ->
   h'.get? s.heap.objs.size = some { cls := .type "list", dict := none, data := .seq its.toArray c', slots := #[] } -> EP X pins σ Q (.ref s.heap.objs.size) { s with heap := h' } := fun its r' hz h' c' kp e =>
  ⟨.ref s.heap.objs.size, _, I.laid (t' := s.toks) kp (Nat.le_refl _) (show ObjOk X.prog X.w _ h' _ (.lst ys) from ⟨hz, its, c', r', e⟩), rfl, q _ (I.hok.fresh (Nat.le_refl _))⟩
 rcases hq with hq | hq
 ·obtain ⟨its, r', pl, hz⟩ := I.list hq
  have hlen := r'.length
  obtain ⟨o, ho, hc, n, hd⟩ := pl.isList
  exact call_list_seq p (.inl rfl) ho hc hd (fun h' c' kp e => fin its r' hz h' c' kp e) (by simp only [List.size_toArray] <;> lia)
 ·obtain ⟨its, r', pl, hz⟩ := I.tuple hq
  have hlen := r'.length
  obtain ⟨o, ho, hc, n, hd⟩ := pl
  exact call_list_seq p (.inr rfl) ho hc hd (fun h' c' kp e => fin its r' hz h' c' kp e) (by simp only [List.size_toArray] <;> lia)
theorem zdb : xL X (.type "tuple") (fun xs H Q => ∃ p ys, xs = [.ref p] /\ ((SqL X.K H p ys /\ ∀ l, H l = none -> Q (.ref l) (upd H l (.tup ys))) \/ (SqT X.K H p ys /\ Q (.ref p) H))) := by
 intro pins s σ H xs us Q I r h
 obtain ⟨p, ys, rfl, h⟩ := h
 obtain ⟨u, rfl, rx⟩ := zof r
 cases rx
 rcases h with ⟨hq, q⟩ | ⟨hq, q⟩
 ·obtain ⟨its, r', pl, hz⟩ := I.list hq
  have hlen := r'.length
  refine call_tuple_list pl.isList (fun h' kp => ?_) (by simp only [List.size_toArray] <;> lia)
  have I1 : Inv X pins σ H { s with heap := h' } := I.kept (t' := s.toks) kp
  have I2 : Inv X pins σ (upd H h'.objs.size (.tup ys)) { s with heap := h'.push { cls := .type "tuple", data := .seq its.toArray } } :=
   I1.laid (t' := s.toks) (fun b o e => Heap.get?_push_of_some _ e) (Nat.le_refl _) (show ObjOk X.prog X.w _ _ _ (.tup ys) from ⟨hz, its, r', IsTup.new _ _⟩)
  exact ⟨.ref h'.objs.size, _, I2, rfl, q _ (I1.hok.fresh (Nat.le_refl _))⟩
 ·obtain ⟨its, r', pl, hz⟩ := I.tuple hq
  exact call_tuple_same pl ⟨.ref p, H, I, rfl, q⟩
def tyV (K : PySem.W.Frag) (T : String) (x : V) (H : Hp) : Prop := match x with
 | .str _ => T = "str"
 | .int _ => T = "int"
 | .ref p => (T = "list" /\ ∃ xs, SqL K H p xs) \/ (T = "tuple" /\ ∃ o, K.lookup p = some o /\ o.cls = .type "tuple" /\ o.dict = none) \/
   (T = "dict" /\ ((∃ kvs, H p = some (.dK kvs)) \/ ∃ kvs, H p = some (.dT kvs))) \/ (T = "set" /\ ∃ S n, H p = some (.set S n))
 | _ => False
theorem zre {pins : List (Addr × Obj)} {σ : St} {H : Hp} {s : Shared} {T : String} {x : V} {v : Value} (I : Inv X pins σ H s) (r : RelV x v) (ty : tyV X.K T x H) :
  s.TypeIs v T /\ ∀ a, v = .ref a -> ∃ ob, s.heap.get? a = some ob /\ ob.dict = none := by
 cases x with
 | str z =>
  obtain ⟨t, rfl⟩ := r
  cases (show T = "str" from ty)
  exact ⟨typeIs_str s z t, fun _ e => nomatch e⟩
 | int i =>
  obtain ⟨t, rfl⟩ := r
  cases (show T = "int" from ty)
  exact ⟨typeIs_int s i t, fun _ e => nomatch e⟩
 | ref p =>
  cases r
  rcases ty with ⟨rfl, xs, hq⟩ | ⟨rfl, o, hk, hc, hd⟩ | ⟨rfl, hk⟩ | ⟨rfl, S, n, hk⟩
  ·obtain ⟨its, _, pl, _⟩ := I.list hq
   refine ⟨pl.isList.typeIs, fun a e => ?_⟩
   cases e
   obtain ⟨o, n, e, c, hd, _⟩ := pl
   exact ⟨o, e, hd⟩
  ·refine ⟨⟨o, I.kIn p o hk, hc⟩, fun a e => ?_⟩
   cases e
   exact ⟨o, I.kIn _ o hk, hd⟩
  ·have z : ∃ o, s.heap.get? p = some o /\ o.ExactDict := by
    rcases hk with ⟨kvs, hk⟩ | ⟨kvs, hk⟩
    ·obtain ⟨_, _, _, _, o, _, _, e, ex, _⟩ := I.hok p _ hk
     exact ⟨o, e, ex⟩
    ·obtain ⟨_, _, _, _, o, _, _, e, ex, _⟩ := I.hok p _ hk
     exact ⟨o, e, ex⟩
   obtain ⟨o, e, ex⟩ := z
   refine ⟨⟨o, e, ex.1⟩, fun a e2 => ?_⟩
   cases e2
   exact ⟨o, e, ex.2.1⟩
  ·obtain ⟨o, _, _, _, e, ex, _⟩ := I.hok p _ hk
   refine ⟨⟨o, e, ex.1⟩, fun a e2 => ?_⟩
   cases e2
   exact ⟨o, e, ex.2.1⟩
 | _ => exact False.elim ty
def zDm (K : PySem.W.Frag) (T : String) (r : V -> List V -> Hp -> VK -> Prop) (to : TE) : TE := fun σ H Q => to σ H fun x H1 => tyV K T x H1 /\ r x [] H1 Q
def tBM (K : PySem.W.Frag) (T : String) (r : V -> List V -> Hp -> VK -> Prop) (to : TE) (t : TA) : TE := fun σ H Q => to σ H fun x H1 => tyV K T x H1 /\ t σ H1 fun xs H2 => r x xs H2 Q
variable {o e : Expr} {es : List Expr} {to : TE} {t : TA} {name : Str} {apos cpos : Pos} {T id : String} {r : V -> List V -> Hp -> VK -> Prop}
theorem zgf (pa : PlainAttrs T) (slot : Slot T name id) (hty : typeOf (.builtin id) = pure (.type "method_descriptor")) (hm : MtR X id r) (ho : PE X o to)
  (hbase : attributeBase o name X.env (eval o X.env) = eval o X.env := by rfl) (hline : (apos.endLine == cpos.line) = true := by rfl) : PE X (.Call (.Attribute o name apos) [] [] cpos) (zDm X.K T r to) := by
 intro pins s σ H Q I h
 refine wpAny_Call_method0_late hbase hline (thn (ho pins s σ H _ I h) fun v s1 ⟨x, H1, I1, r1, ty, q1⟩ => ?_)
 obtain ⟨h1, h2⟩ := zre I1 r1 ty
 exact ⟨T, id, pa, slot, hty, h1, h2, Calls.callWith_builtin rfl (PySem.evalArgs_none (hm pins s1 σ H1 x [] v [] Q I1 r1 .nil q1))⟩
theorem zoi (pa : PlainAttrs T) (slot : Slot T name id) (hty : typeOf (.builtin id) = pure (.type "method_descriptor")) (hm : MtR X id r) (ho : PE X o to) (ha : PA X (e :: es) t)
  (hbase : attributeBase o name X.env (eval o X.env) = eval o X.env := by rfl)
  (hfew : ((backTo cpos (starEach (e :: es) X.env)).all (fun x => !x.1) && (backToKw cpos (keywordEach [] X.env)).all (fun x => x.1.isSome)
   && decide ((e :: es).length + ([] : List Keyword).length + (if ([] : List Keyword).isEmpty then 0 else 1) < 30)) = true := by rfl)
  (hline : (apos.endLine == cpos.line) = true := by rfl) (hs : starEach (e :: es) X.env = (false, eval e X.env) :: starEach es X.env := by rfl) (hplain : (backTo cpos (starEach es X.env)).any (·.1) = false := by rfl) :
  PE X (.Call (.Attribute o name apos) (e :: es) [] cpos) (tBM X.K T r to t) := by
 intro pins s σ H Q I h
 refine wpAny_Call_method_late hbase hfew hline rfl (thn (ho pins s σ H _ I h) fun v s1 ⟨x, H1, I1, r1, ty, q1⟩ => ?_)
 obtain ⟨h1, h2⟩ := zre I1 r1 ty
 refine ⟨T, id, pa, slot, hty, h1, h2, ?_⟩
 have hA := ha cpos pins s1 σ H1 _ I1 q1
 rw [hs] at hA ⊢
 refine Calls.callWith_builtin (by show (false || (backTo cpos (starEach es X.env)).any (·.1)) = false; rw [hplain] <;> rfl) (Calls.evalArgs_plain ?_)
 exact thn hA fun us s2 ⟨vs, H2, I2, r2, q2⟩ => hm pins s2 σ H2 x vs v us Q I2 r1 r2 q2
/- xs.append(e), list.index on a module's tuple .. are MtR facts of 06m -/
end
def MtM (X : Cx) (id : String) (r : V -> List V -> Hp -> VK -> Prop) : Prop :=
 ∀ (pins : List (Addr × Obj)) (s : Shared) (σ : St) (H : Hp) (x : V) (xs : List V) (v : Value) (us : List Value) (Q : VK), Inv X pins σ H s -> RelV x v -> Vals xs us -> r x xs H Q ->
  wpAny (model X.prog X.w) X.A (call (.builtin id) (v :: us)) (EP X pins σ Q) X.xe s
theorem Vals.one : ∀ {x : V} {us : List Value}, Vals [x] us -> ∃ u, us = [u] /\ RelV x u
 | _, _, .cons r .nil => ⟨_, rfl, r⟩
theorem Vals.two : ∀ {x y : V} {us : List Value}, Vals [x, y] us -> ∃ u v, us = [u, v] /\ RelV x u /\ RelV y v := by
 intro x y us h
 cases h with
 | cons r h => cases h with
  | cons q h => cases h; exact ⟨_, _, rfl, r, q⟩
theorem Vals.zero : ∀ {us : List Value}, Vals [] us -> us = []
 | _, .nil => rfl
section
variable {X : Cx} {pins : List (Addr × Obj)} {σ : St} {H : Hp} {s : Shared} {l b : Addr} {xs ys zs : List V}
theorem Inv.lset {its its' : List Value} {n : Nat} {f : Array Value -> Array Value} {t' : Nat} (I : Inv X pins σ H s) (hH : H l = some (.lst xs))
  (e : s.heap.get? l = some { cls := .type "list", data := .seq its.toArray n }) (hf : f its.toArray = its'.toArray) (hv : Vals ys its') (hz : ys.length <= sizeLine) :
  Inv X pins σ (upd H l (.lst ys)) { s with heap := s.heap.update l (Obj.mapSeq f), toks := t' } := by
 have q := PySem.IsL.update e f
 rw [hf] at q
 refine I.write (x := l) (e := l) (by rw [hH]; exact trivial) (.inl rfl) (fun b' u hb hu => (Heap.get?_update_other s.heap (Obj.mapSeq f) (Ne.symm hb)).trans hu) ⟨_, q⟩ ?_
 exact ⟨hz, its', _, hv, q⟩
theorem Inv.lnew {its : List Value} {t' : Nat} (I : Inv X pins σ H s) (hv : Vals ys its) (hz : ys.length <= sizeLine) :
  Inv X pins σ (upd H s.heap.objs.size (.lst ys)) { s with heap := s.heap.push { cls := .type "list", data := .seq its.toArray }, toks := t' } :=
 I.laid (fun _ _ q => Heap.get?_push_of_some _ q) (Nat.le_refl _) ⟨hz, its, 0, hv, Heap.get?_push_size _ rfl⟩
theorem Inv.fresh (I : Inv X pins σ H s) : H s.heap.objs.size = none := I.hok.fresh (Nat.le_refl _)
theorem Inv.lstM (I : Inv X pins σ H s) (hH : H l = some (.lst xs)) : xs.length <= sizeLine /\ ∃ (its : List Value) (n : Nat), Vals xs its /\ xs.length = its.length /\ s.heap.get? l = some { cls := .type "list", data := .seq its.toArray n } := by
 obtain ⟨z, its, n, r, e⟩ := I.hok l _ hH
 exact ⟨z, its, n, r, r.length, e⟩
theorem zqb {n : Nat} (h : n <= sizeLine) : Builtin.List.listTooLong n = false := by
 unfold Builtin.List.listTooLong
 exact decide_eq_false (by lia)
end
section
variable {X : Cx}
def zto : V -> List V -> Hp -> VK -> Prop := fun x vs H Q => ∃ l b xs zs, x = .ref l /\ vs = [.ref b] /\ H l = some (.lst xs) /\ H b = some (.lst zs) /\ xs.length + zs.length <= sizeLine /\ Q .non (upd H l (.lst (xs ++ zs)))
theorem zng : MtM X "list.extend" zto := by
 intro pins s σ H x vs v us Q I rx rv h
 obtain ⟨l, b, xs, zs, rfl, rfl, hH, hB, hz, q⟩ := h
 cases rx
 obtain ⟨u, rfl, ru⟩ := rv.one
 cases ru
 obtain ⟨z, its, n, r, hl, e⟩ := I.lstM hH
 obtain ⟨z2, its2, n2, r2, hl2, e2⟩ := I.lstM hB
 have hsz : its.toArray.size + its2.toArray.size <= sizeLine := by rw [List.size_toArray, List.size_toArray]; lia
 have hlong : ¬ (!its.toArray.isEmpty && Builtin.List.listTooLong (its.toArray.size + its2.toArray.size)) = true := by
  rw [zqb hsz, Bool.and_false]
  exact Bool.false_ne_true
 refine call_meets F.slot_list_extend ⟨_, e, rfl⟩ F.entry_list_extend (F.args_list_extend_2 _ _)
  (AutoSeq1.list_extend_list_list_0 l its.toArray n b its2.toArray n2 hlong (by rw [List.size_toArray]; lia) (by lia)) ⟨e, e2, ?_⟩
 refine ⟨.non, _, I.lset (its' := its ++ its2) hH e (by simp) (r.append r2) ?_, rfl, q⟩
 rw [List.length_append]
 lia
def zyg : V -> List V -> Hp -> VK -> Prop := fun x vs H Q => ∃ l xs, x = .ref l /\ vs = [] /\ H l = some (.lst xs) /\ Q .non (upd H l (.lst []))
theorem zhq : MtM X "list.clear" zyg := by
 intro pins s σ H x vs v us Q I rx rv h
 obtain ⟨l, xs, rfl, rfl, hH, q⟩ := h
 cases rx
 have hus := rv.zero
 subst hus
 obtain ⟨z, its, n, r, hl, e⟩ := I.lstM hH
 refine call_meets F.slot_list_clear ⟨_, e, rfl⟩ F.entry_list_clear (F.args_list_clear_1 _) (AutoSeq1.list_clear_list_0 l its.toArray n (by rw [List.size_toArray]; lia)) ⟨e, ?_⟩
 exact ⟨.non, _, I.lset (its' := []) (ys := []) hH e rfl .nil (Nat.zero_le _), rfl, q⟩
def zEq : R2 := fun x y H Q => ∃ l b xs zs, x = .ref l /\ y = .ref b /\ H l = some (.lst xs) /\ H b = some (.lst zs) /\ xs.length + zs.length <= sizeLine /\ ∀ p, H p = none -> Q (.ref p) (upd H p (.lst (xs ++ zs)))
theorem zyt : OpR X (binaryOp .Add) zEq := by
 intro pins s σ H x y v u Q I rx ry h
 obtain ⟨l, b, xs, zs, rfl, rfl, hH, hB, hz, q⟩ := h
 cases rx
 cases ry
 obtain ⟨z, its, n, r, hl, e⟩ := I.lstM hH
 obtain ⟨z2, its2, n2, r2, hl2, e2⟩ := I.lstM hB
 refine PySem.P.add_list e e2 ?_ (by rw [List.size_toArray, List.size_toArray]; lia)
 have ea : its.toArray ++ its2.toArray = (its ++ its2).toArray := by simp
 rw [ea]
 exact ⟨.ref _, _, I.lnew (t' := s.toks) (r.append r2) (by rw [List.length_append]; lia), rfl, q _ I.fresh⟩
end
section
variable {prog : Program} {w : World} {A : Around} {E : Value -> Shared -> Prop} {s : Shared}
set_option maxRecDepth 100000 in
end
section
variable {X : Cx}
end
end L2
namespace Att
open PySem PySem.W PySem.Calls PyProof.Rows
theorem gZ {P : Params} {h : Heap} : ∀ (ns : List Int) (vs : List Value), WellAll P h vs (ns.map WData.int) -> IntsAre vs ns := by
 intro ns
 induction ns with
 | nil =>
  intro vs w
  rw [List.map_nil] at w
  cases w
  exact .nil
 | cons n ns ih =>
  intro vs w
  rw [List.map_cons] at w
  cases w with
  | cons a b =>
   cases a
   exact .cons _ _ (ih _ b)
theorem zms {l : OpenLaw} {n : Nat} (hn : l.most = some n) {P : Params} {h : Heap} {args : List WData} {vals : List Value}
  (hpre : l.row.toRowW.claim.pre args = true) (hwl : WellAll P h vals args) :
  ∃ a vs ns, vals = [Value.ref a] /\ args = [WData.list (ns.map WData.int)] /\ h.get? a = some { cls := .type "list", data := .seq vs.toArray } /\ IntsAre vs ns /\ ns.length <= n := by
 have hsh : WShape.hasAll [] args [.list .int] = true := (pre_splitW hpre).1
 have hc : l.pre.holds [] { args := args } = true := (pre_splitW hpre).2
 obtain ⟨d, r, rfl, h1, h2⟩ := hasAllW_cons hsh
 obtain rfl := hasAllW_nil h2
 obtain ⟨xs, rfl, h3⟩ := hasW_list h1
 obtain ⟨ns, rfl⟩ := items_int h3
 have hlen : ns.length <= n := by
  unfold OpenLaw.pre at hc
  have h4 : (WTm.not (.lt (.lit (.int (n : Int))) (.len (.arg 0)))).holds [] { args := [.list (ns.map .int)] } = true := by
   have h4 := (holds_andW hc).1
   rw [hn] at h4
   exact h4
  have h5 := condW_of h4 (w_not (w_lt w_lit (w_len_list (w_arg rfl))))
  rw [List.length_map] at h5
  refine Nat.le_of_not_lt fun q => ?_
  have q' : (n : Int) < ((ns.length : Nat) : Int) := by lia
  first
   | (rw [decide_eq_true q'] at h5; exact absurd h5 (by decide))
   | (simp at h5; lia)
 cases hwl with
 | cons w1 w2 =>
  cases w2
  cases w1 with
  | list ho hall => exact ⟨_, _, ns, rfl, rfl, ho, gZ ns _ hall, hlen⟩
theorem zmz (l : OpenLaw) (args : List WData) : l.row.toRowW.claim.post args (.bool true) args = true :=
 postW_of (r := l.row.toRowW) (X := (true == true))
  (show WShape.has [] (.bool true) .bool = true by first | rfl | decide | simp [WShape.has, WShape.arms, WShape.armsAll])
  (show (WTm.eq .res (.lit (.bool true))).value [] { args := args, res := some (.bool true), after := args } = some (.bool (true == true)) from w_eq_bool (w_res rfl) w_lit) rfl
theorem attach_call {l : OpenLaw} {n : Nat} {q : Program} {loose : List Str} {XP : (Str -> Option Value) -> Heap -> Prop} {YP : World -> Heap -> Prop} {d : DefRec}
  (hn : l.most = some n) (hdf : d.params.defaults = [])
  (call : ∀ (w : World) (s₀ s₁ : Shared) (mg mb : Str -> Option Value) (fa : Addr) (o : Obj) (pm cd doc : Value) (a : Addr) (vs : List Value) (ns : List Int),
   Ground q loose [] XP w s₀ mg mb s₁.heap -> YP w s₁.heap ->
   s₁.heap.get? fa = some o -> o.data = .func (docDef d.name d.params d.body d.scope pm cd doc) -> s₁.heap.CodeRec cd d.name -> mg d.name = some (.ref fa) ->
   s₁.heap.get? a = some { cls := .type "list", data := .seq vs.toArray } -> IntsAre vs ns -> ns.length <= n -> s₁.gens = #[] ->
   codeAny (model l.prog w) callerA (.call (.ref fa) ⟨[.ref a], []⟩) (fun r s' => r = .ok (.ret (.bool true)) /\ OldK s₁.heap s'.heap /\ s'.os = s₁.os /\ AllBare s'.gens) s₁) :
  WalkO q loose XP YP l.row.toRowW d [] (fun f vs => PySem.call f vs) := by
 intro w s₀ s₁ mg mb G Y fa o pm cd doc dV kV ho hd hcd hD hmg hg args vals as hpre hlay hrd hwl hlo
 obtain rfl : dV = .none := Dflts.none hD hdf
 obtain rfl : kV = .none := Dflts.noKw hD
 obtain ⟨a, vs, ns, rfl, rfl, hobj, hints, hlen⟩ := zms hn hpre hwl
 refine enter_call (codeAny_mono (call w s₀ s₁ mg mb fa o pm cd doc a vs ns G Y ho (fd_plain hd) hcd hmg hobj hints hlen hg) fun r s' hq => ?_)
 obtain ⟨rfl, h2, h3, h4⟩ := hq
 exact ⟨.inl ⟨.bool true, .bool true, [], rfl, fun _ => rfl, .bool true, zmz l _, fun _ => ⟨List.Pairwise.nil, fun _ hm => (nomatch hm)⟩⟩, h2, h3, h4⟩
section
variable {prog : Program} {w : World} {A : Around} {E : Value -> Shared -> Prop} {s : Shared} {K : Frag}
end
end Att
namespace L2
open PySem PySem.Spec PyProof.Rows
theorem zdj : ∀ {vs : List Value} {ns : List Int}, IntsAre vs ns -> Vals (ns.map V.int) vs
 | _, _, .nil => .nil
 | _, _, .cons n t h => .cons ⟨t, rfl⟩ (zdj h)
def zAm (H : Hp) : Prop := ∀ b, H b = none \/ ∃ o xs, H b = some (.frz o (.lst xs))
theorem zqi {P : Program} {w : World} {K : PySem.W.Frag} {mg mb : Str -> Option Value} {CX : CXT} {k : Nat} {fa a : Addr} {fd : FuncData} {x : Str} {sp : Sp} {s₁ : Shared} {vs : List Value} {ns : List Int}
  (KX : K.In s₁.heap) (hns : s₁.heap.Ns mainGlobals mg) (hb : s₁.heap.Ns builtinsNs mb) (hbb : ∀ x : Str, x ≠ "__name__" -> mb x = bootBuiltins x) (hlim : s₁.heap.NoLimit) (hg : s₁.gens = #[])
  (ha : s₁.heap.get? a = some { cls := .type "list", data := .seq vs.toArray }) (hi : IntsAre vs ns) (hl : ns.length <= sizeLine) (hr : Room k callerA)
  (F : ∀ base : Heap, K.In base -> base.Ns mainGlobals mg -> FnOk P w K mg base CX k fa fd [x] sp) (hbind : ∀ (s : Shared) (u : Value), BindsTo s fd ⟨[u], []⟩ [(x, u)])
  (hsp : ∀ H : Hp, zAm H -> SqL K H a (ns.map V.int) -> sp [.ref a] H (fun v _ => v = .bl true) fun _ _ _ => False)
  (hCX : ∀ H e s', CX [] H s₁ (fun _ _ _ => False) e s' -> False) :
  codeAny (model P w) callerA (.call (.ref fa) ⟨[.ref a], []⟩) (fun r s' => r = .ok (.ret (.bool true)) /\ OldK s₁.heap s'.heap /\ s'.os = s₁.os /\ AllBare s'.gens) s₁ := by
 have rv := zdj hi
 have lenV := hi.length
 have core : ∀ H : Hp, zAm H -> SqL K H a (ns.map V.int) -> HOk P w H s₁.heap -> (∀ b, H b ≠ none -> b = a) -> (H a ≠ none -> K.lookup a = none) ->
   codeAny (model P w) callerA (.call (.ref fa) ⟨[.ref a], []⟩) (fun r s' => r = .ok (.ret (.bool true)) /\ OldK s₁.heap s'.heap /\ s'.os = s₁.os /\ AllBare s'.gens) s₁ := by
  intro H hO hS hok hA hK
  have base_of : ∀ {b : Addr} {o : Obj}, s₁.heap.get? b = some o -> H b = none -> (zje s₁.heap H).get? b = some o := fun e n => zql e n
  have noA : ∀ {b : Addr} {o : Obj} {es : Array DictEntry} {ep : Nat}, s₁.heap.get? b = some o -> o.data = .dict es ep -> H b = none := fun {b o es ep} e d => by
   cases q : H b with
   | none => rfl
   | some u =>
    have e' : b = a := hA b (by rw [q]; simp)
    subst e'
    rw [ha] at e; cases e
    have d' : Data.seq vs.toArray _ = Data.dict es ep := d
    cases d'
  have nsK : ∀ {b : Addr} {m : Str -> Option Value}, s₁.heap.Ns b m -> (zje s₁.heap H).Ns b m := fun {b m} ⟨o, es, ep, e, d, r⟩ => ⟨o, es, ep, base_of e (noA e d), d, r⟩
  have hKb : K.In (zje s₁.heap H) := fun b o e => base_of (KX b o e) (by
   cases q : H b with
   | none => rfl
   | some u =>
    have e' : b = a := hA b (by rw [q]; simp)
    subst e'
    rw [hK (by rw [q]; simp)] at e; cases e)
  have hM : Mod K mg (zje s₁.heap H) := ⟨hKb, nsK hns, ⟨mb, nsK hb, hbb⟩, let ⟨mc, h1, h2⟩ := hlim; ⟨mc, nsK h1, h2⟩⟩
  have e0 : Env0 P w K mg (zje s₁.heap H) callerA [] s₁ H := ⟨rfl, hM, fun b o e => ztx e, Nat.le_of_eq (znq _ _), trivial, fun b hb => absurd (show b ∈ ([] : List Addr) from hb) (by simp), hok, .of_eq hg⟩
  refine codeAny_mono ((F _ hKb (nsK hns)).run callerA [] s₁ H ⟨[.ref a], []⟩ [.ref a] [.ref a] _ _ hr e0 (hbind s₁ (.ref a)) (.cons rfl .nil) (hsp H hO hS)) fun r s' h => ?_
  cases r with
  | error e => exact (hCX H e s' h).elim
  | ok fl =>
   cases fl with
   | next => exact False.elim h
   | brk => exact False.elim h
   | cont => exact False.elim h
   | ret u =>
    obtain ⟨v, H', os, bare, un, hok', r', q⟩ := h
    have q' : v = .bl true := q
    subst q'
    obtain rfl : u = Value.bool true := r'
    refine ⟨rfl, OldK.of_keep fun b o e => ?_, os, bare⟩
    cases q : H b with
    | none => exact un.keep b o e q (by intro z; exact absurd (show b ∈ ([] : List Addr) from z) (by simp)) (by simp)
    | some u =>
     rcases hO b with z | ⟨ob, xs, z⟩
     ·rw [q] at z; cases z
     ·have z2 := un.frzs b ob _ z
      obtain ⟨e1, _⟩ := hok b _ z
      obtain ⟨e2, _⟩ := hok' b _ z2
      rw [e] at e1; cases e1
      exact e2
 cases hk : K.lookup a with
 | some o =>
  have e := KX a o hk
  rw [ha] at e
  cases e
  refine core (fun _ => none) (fun _ => .inl rfl) (.inr ⟨_, vs.toArray, _, hk, rfl, rfl, rfl, by rw [List.size_toArray, lenV]; exact hl, by simpa using rv⟩) (fun b u z => by have z' : (none : Option HO) = some u := z; cases z') (fun b z => absurd rfl z) fun z => absurd rfl z
 | none =>
  refine core (fun b => if b = a then some (.frz { cls := .type "list", data := .seq vs.toArray } (.lst (ns.map V.int))) else none) (fun b => ?_) (.inl (.inr ⟨{ cls := .type "list", data := .seq vs.toArray }, if_pos rfl⟩)) (fun b u z => ?_) (fun b z => ?_) fun _ => hk
  ·by_cases hb : b = a
   ·exact .inr ⟨_, _, if_pos hb⟩
   ·exact .inl (if_neg hb)
  ·by_cases hb : b = a
   ·have z' := (if_pos hb).symm.trans z
    cases z'
    subst hb
    exact ⟨ha, by rw [List.length_map]; exact hl, vs, _, rv, ha⟩
   ·have z' := (if_neg hb).symm.trans z
    cases z'
  ·by_cases hb : b = a
   ·exact hb
   ·exact absurd (if_neg hb) z
abbrev KOf {K : PySem.W.Frag} {h : Heap} (_ : K.In h) : PySem.W.Frag := K
theorem walk_of {l : PySem.W.OpenLaw} {n k : Nat} {q : Program} {loose : List Str} {XP : (Str -> Option Value) -> Heap -> Prop} {YP : World -> Heap -> Prop} {d : DefRec} {K : Params -> PySem.W.Frag} {CX : World -> CXT} {sp : World -> Sp} {x : Str}
  (hn : l.most = some n) (hn2 : n <= sizeLine) (hdf : d.params.defaults = []) (hr : Room k callerA)
  (hY : ∀ (w : World) (h : Heap), YP w h -> (K w.params).In h)
  (F : ∀ (w : World) (mg : Str -> Option Value) (fa : Addr) (h : Heap), (K w.params).In h -> h.Ns mainGlobals mg -> mg d.name = some (.ref fa) ->
   ∃ fd : FuncData, (∀ (s : Shared) (u : Value), BindsTo s fd ⟨[u], []⟩ [(x, u)]) /\
    ∀ base : Heap, (K w.params).In base -> base.Ns mainGlobals mg -> FnOk l.prog w (K w.params) mg base (CX w) k fa fd [x] (sp w))
  (hsp : ∀ (w : World) (H : Hp) (a : Addr) (ns : List Int), ns.length <= n -> zAm H -> SqL (K w.params) H a (ns.map V.int) -> sp w [.ref a] H (fun v _ => v = .bl true) fun _ _ _ => False)
  (hCX : ∀ (w : World) (H : Hp) (s : Shared) (e : Value) (s' : Shared), CX w [] H s (fun _ _ _ => False) e s' -> False) :
  PySem.W.WalkO q loose XP YP l.row.toRowW d [] (fun f vs => PySem.call f vs) := by
 refine Att.attach_call hn hdf fun w s₀ s₁ mg mb fa o pm cd doc a vs ns G Y ho hd hcd hmg hobj hints hlen hg => ?_
 have KX := hY w _ Y
 obtain ⟨fd, hb, hF⟩ := F w mg fa _ KX G.T.g hmg
 exact zqi KX G.T.g G.T.b G.T.builtins G.T.nolimit hg hobj hints (Nat.le_trans hlen hn2) hr hF hb (fun H hO hS => hsp w H a ns hlen hO hS) fun H e s' => hCX w H s₁ e s'
end L2
/- THE LAST THEOREM (shape; LID, My.* are yours):
   My.Adr: a structure of the addresses that your layer names (classes, functions); My.Txt K t: a structure (Prop) of the equations over K;
   My.txt_mk : {K} {implicit addresses ..} (e1 : nsIn K mainGlobals "law" = some (some (.ref f))) (e2 : K.lookup f = some ⟨oc, od, .func (fnOf "law" "law" params body scope dV kV doc pm an cdv ct), sl⟩) (e3 : codeIn K cdv "law" = true) .. : ∃ t, My.Txt K t
set_option maxRecDepth 100000 in
set_option maxHeartbeats 0 in
theorem PySem.Challenge.cw_LID_holds : PySem.Challenge.rw_LID.Holds := by
 w_on; o_law; k_head; (case hw => w_witness2)
 k_fill
 refine L2.walk_of (l := PySem.Challenge.rw_LID) (n := 63) (k := 40) (x := "script") (CX := fun w => ..) (sp := fun _ => My.sp_law) rfl (by decide) rfl ⟨rfl, by decide, by decide⟩ (fun w h Y => PySem.W.kIn_of Y) ?F ?S ?C
 case F =>
  intro w mg fa h KX G hmg
  have T : ∃ t, My.Txt (L2.KOf KX) t := by
   dsimp only [L2.KOf]                          -- K must stand as «<heap const> w.params» for k_is
   refine' My.txt_mk ?e1 ?e2 ?e3 ..
   (case e1 => PySem.W.k_is)                    -- in the order: a name -> its address -> its object -> its zBj
   (case e2 => PySem.W.k_is)
   ..
  obtain ⟨t, T⟩ := T
  have e0 := hmg.symm.trans (PySem.W.mg_of KX G T.law)
  cases e0                                       -- fa is the law's own address
  exact ⟨_, fun s u => .of_eq rfl, fun base kb nb => My.law_fn T kb nb⟩     -- if «.of_eq rfl» comes too early: refine' ⟨_, ?b, fun base kb nb => My.law_fn T kb nb⟩; exact fun s u => .of_eq rfl
 case S => exact fun w H a ns hl hO hS => ..
 case C => exact ..
(the tactic k_is has no namespace: write k_is) -/
namespace L2
open PySem PySem.Spec PyProof.Rows
def xF (s : Stmt) (j : Nat) : Stmt := match s with
 | .ClassDef _ _ _ body _ _ _ _ _ _ _ => body.getD j (.Pass ⟨0, 0, 0, 0⟩)
 | _ => .Pass ⟨0, 0, 0, 0⟩
def zI (s : Stmt) : Arguments := match s with
 | .FunctionDef _ a _ _ _ _ _ _ _ _ => a
 | _ => { posonlyargs := [], args := [], vararg := none, kwonlyargs := [], kw_defaults := [], kwarg := none, defaults := [] }
def zH (s : Stmt) : List Stmt := match s with
 | .FunctionDef _ _ b _ _ _ _ _ _ _ => b
 | _ => []
def zB (s : Stmt) : Scope := match s with
 | .FunctionDef _ _ _ _ _ _ sc _ _ _ => sc
 | _ => { kind := .function, names := [], isGenerator := false, isCoroutine := false }
abbrev CX0 : CXT := fun _ _ _ _ _ _ => False
abbrev E0 : XK := fun _ _ _ => False
theorem zis {X : Cx} : zar CX0 X E0 := fun _ _ _ _ _ _ _ h => h.elim
structure Fun (K : PySem.W.Frag) (x qual : Str) (st : Stmt) (f : Addr) (fd : FuncData) : Prop where
 ex : ∃ (oc : Value) (od : Option Addr) (kV doc pm : Value) (an : Option Addr) (cdv ct : Value) (osl : Array (Option Value)),
  fd = PySem.W.fnOf x qual (zI st) (zH st) (zB st) .none kV doc pm an cdv ct /\ K.lookup f = some ⟨oc, od, .func fd, osl⟩ /\ PySem.W.codeIn K cdv qual = true
 kp : PySem.W.keepIn K (.ref f) = true
section
variable {P : Program} {w : World} {K : PySem.W.Frag} {mg : Str -> Option Value} {base : Heap}
theorem Fun.ok {x qual : Str} {st : Stmt} {f : Addr} {fd : FuncData} {N ps : List Str} {k : Nat} {sp : Sp} (F : Fun K x qual st f fd) (S : zJ N ps (zB st)) (len : ∀ vs H Q E, sp vs H Q E -> vs.length = ps.length)
  (hbody : ∀ (cdv : Value) (A : Around) (outer : List Env) (s : Shared) (H : Hp) (vs : List V) (Q : VK) (E : XK), Room k (A.deeper (envOfC qual (zB st) s.heap.objs.size f cdv)) -> sp vs H Q E ->
   ∃ t, PSs (zlx CX0 P w K mg base N qual (zB st) f cdv A outer s H E).nox (zH st) t /\ t { nx := fun _ H' => Q .non H', rt := Q } (j8 N vs) H) : FnOk P w K mg base CX0 (k + 1) f fd ps sp := by
 obtain ⟨oc, od, kV, doc, pm, an, cdv, ct, osl, rfl, lk, hcd⟩ := F.ex
 refine zws lk hcd S len fun A outer s H vs Q E hr hsp => ?_
 obtain ⟨t, h, q⟩ := hbody cdv A outer s H vs Q E hr hsp
 exact ⟨t, h.nox, q⟩
theorem Fun.binds {x qual : Str} {st : Stmt} {f : Addr} {fd : FuncData} {ps : List Str} (F : Fun K x qual st f fd)
  (h : ∀ (kV doc pm : Value) (an : Option Addr) (cdv ct : Value) (us : List Value), us.length = ps.length -> bindArgs (PySem.W.fnOf x qual (zI st) (zH st) (zB st) .none kV doc pm an cdv ct) ⟨us, []⟩ = pure (ps.zip us)) : Binds K fd ps [] := by
 obtain ⟨oc, od, kV, doc, pm, an, cdv, ct, osl, rfl, lk, hcd⟩ := F.ex
 exact .all (h kV doc pm an cdv ct)
theorem yK {x qual : Str} {st : Stmt} {f : Addr} {oc : Value} {od an : Option Addr} {osl : Array (Option Value)} {kV doc pm cdv ct : Value} (l : K.lookup f = some ⟨oc, od, .func (PySem.W.fnOf x qual (zI st) (zH st) (zB st) .none kV doc pm an cdv ct), osl⟩)
  (c : PySem.W.codeIn K cdv qual = true) (k : PySem.W.keepIn K (.ref f) = true) : Fun K x qual st f (PySem.W.fnOf x qual (zI st) (zH st) (zB st) .none kV doc pm an cdv ct) := ⟨⟨oc, od, kV, doc, pm, an, cdv, ct, osl, rfl, l, c⟩, k⟩
end
theorem zom {A : Around} {k : Nat} (hr : Room k A) : A.units + 1 < cLine := Nat.lt_of_le_of_lt (Nat.add_le_add_left (by decide : 1 <= 64) _) hr.units
section
variable {X : Cx}
theorem pv (i : Nat) {x : Str} {pos : Pos} (hN : X.N[i]? = some x := by rfl) (hv : Vis X.env.scope x := by first | exact Or.inl rfl | exact Or.inr (Or.inl rfl) | exact Or.inr (Or.inr rfl)) (hd : (x == ("__debug__" : Str)) = false := by decide)
  (hcd : (x == ("__classdict__" : Str)) = false := by decide) : PE X (.Name x pos) (zCl i) := zyl hN hv hd hcd
end
theorem xD {A B : Prop} (h : B) : if false = true then A else B := by
 rw [if_neg Bool.false_ne_true]
 exact h
theorem jH {A B : Prop} (h : A) : if true = true then A else B := by
 rw [if_pos rfl]
 exact h
theorem zwo {c A B : Prop} [Decidable c] (h1 : c -> A) (h2 : ¬ c -> B) : if c then A else B := by
 by_cases h : c
 ·rw [if_pos h]
  exact h1 h
 ·rw [if_neg h]
  exact h2 h
theorem zwn {c A B : Prop} [Decidable c] (hc : c) (h : B) : if (!decide c) = true then A else B := by
 rw [decide_eq_true hc]
 exact xD h
def Same (H H' : Hp) : Prop := ∀ b o, H b = some o -> H' b = some o
theorem Same.refl (H : Hp) : Same H H := fun _ _ h => h
theorem Same.trans {H H1 H2 : Hp} (a : Same H H1) (b : Same H1 H2) : Same H H2 := fun c o h => b c o (a c o h)
theorem Same.free {H H' : Hp} (e : Same H H') {l : Addr} (h : H' l = Option.none) : H l = Option.none := by
 cases q : H l with
 | none => rfl
 | some o =>
  rw [e l o q] at h
  cases h
theorem Same.seq {K : PySem.W.Frag} {H H' : Hp} {a : Addr} {xs : List V} (e : Same H H') (h : SqL K H a xs) : SqL K H' a xs := by
 rcases h with (h | ⟨o, h⟩) | h
 ·exact .inl (.inl (e _ _ h))
 ·exact .inl (.inr ⟨o, e _ _ h⟩)
 ·exact .inr h
def zvs (X : Cx) (ifs : List Expr) (t : TT) : Prop :=
 ∀ (pins : List (Addr × Obj)) (s : Shared) (σ : St) (H : Hp) (Q : Bool -> Hp -> Prop), Inv X pins σ H s -> t σ H Q ->
  wpAny (model X.prog X.w) X.A (forIn ifs true fun c r => if r = true then do
   let ok <- isTrue c X.env (eval c X.env)
   pure (ForInStep.yield ok) else pure (ForInStep.yield r)) (TP X pins σ Q) X.xe s
def zCk : TT := fun _ H Q => Q true H
theorem xG {X : Cx} : zvs X [] zCk := fun _ _ _ H _ I h => wpAny_tests_nil ⟨H, I, h⟩
theorem qB {X : Cx} {c : Expr} {t : TT} (h : PT X c t) : zvs X [c] t := fun pins s σ H Q I hw => wpAny_tests_one (h pins s σ H Q I hw)
def gT (env : Env) : List (Str × NameKind) -> List (Str × Addr) -> List (Str × Addr)
 | [], cs => cs
 | (n, k) :: r, cs => gT env r (if (k == NameKind.free) = true then (n, (env.cells.lookup n).getD 0) :: cs else cs)
theorem gL {env : Env} : ∀ (names : List (Str × NameKind)) (cs : List (Str × Addr)), (∀ x ∈ names, x.2 = .free -> ∃ c, env.cells.lookup x.1 = some c) ->
  (forIn names cs fun (x : Str × NameKind) (r : List (Str × Addr)) => (if (x.2 == NameKind.free) = true then do
   let a <- cellOf env x.1
   pure (ForInStep.yield ((x.1, a) :: r)) else pure (ForInStep.yield r) : Sem (ForInStep (List (Str × Addr))))) = pure (gT env names cs)
 | [], cs, _ => rfl
 | (n, k) :: r, cs, h => by
  rw [List.forIn_cons]
  by_cases hk : (k == NameKind.free) = true
  ·obtain ⟨c, hc⟩ := h (n, k) List.mem_cons_self (by simpa using hk)
   have hc' : env.cells.lookup n = some c := hc
   have e1 : cellOf env n = pure c := by unfold cellOf; rw [hc']
   simp only [hk, if_true, e1, pure_bind]
   rw [gL r _ fun x hx => h x (List.mem_cons_of_mem _ hx)]
   simp [gT, hk, hc']
  ·simp only [hk, pure_bind]
   rw [if_neg (by simp), pure_bind]
   dsimp only
   rw [gL r _ fun x hx => h x (List.mem_cons_of_mem _ hx)]
   simp [gT, hk]
theorem zbr {scope : Scope} {env : Env} (h : ∀ x ∈ scope.names, x.2 = .free -> ∃ c, env.cells.lookup x.1 = some c) : closureFor scope env = pure (gT env scope.names []) := by
 have e := gL scope.names [] h
 simp only [closureFor]
 first
  | (rw [e]; rfl)
  | (refine Eq.trans (congrArg (fun t => t >>= _) e) ?_; rfl)
  | (simp only [e]; rfl)
theorem kL {env : Env} {x : Str} {c : Addr} : ∀ (names : List (Str × NameKind)) (cs : List (Str × Addr)), (∀ y ∈ names, y.2 = .free -> ∃ d, env.cells.lookup y.1 = some d) ->
  (gT env names cs).lookup x = some c -> cs.lookup x = some c \/ env.cells.lookup x = some c
 | [], cs, _, e => .inl e
 | (n, k) :: r, cs, h, e => by
  have e' : (gT env r (if (k == NameKind.free) = true then (n, (env.cells.lookup n).getD 0) :: cs else cs)).lookup x = some c := e
  rcases kL r _ (fun y hy => h y (List.mem_cons_of_mem _ hy)) e' with q | q
  ·by_cases hk : (k == NameKind.free) = true
   ·rw [if_pos hk] at q
    obtain ⟨d, hd⟩ := h (n, k) List.mem_cons_self (by simpa using hk)
    have hd' : env.cells.lookup n = some d := hd
    rw [List.lookup_cons] at q
    by_cases hx : (x == n) = true
    ·rw [hx] at q
     have ex : x = n := by simpa using hx
     subst ex
     rw [hd'] at q
     simp at q
     exact .inr (by rw [hd', q])
    ·simp only [hx] at q
     exact .inl q
   ·rw [if_neg hk] at q
    exact .inl q
  ·exact .inr q
theorem zeb {env : Env} {x : Str} : ∀ (names : List (Str × NameKind)) (cs : List (Str × Addr)), (∃ c, cs.lookup x = some c) -> ∃ c, (gT env names cs).lookup x = some c
 | [], cs, h => h
 | (n, k) :: r, cs, h => by
  refine zeb r _ ?_
  by_cases hk : (k == NameKind.free) = true
  ·rw [if_pos hk, List.lookup_cons]
   cases hx : x == n with
   | true => exact ⟨_, rfl⟩
   | false => exact h
  ·rw [if_neg hk]; exact h
theorem zck {env : Env} {x : Str} : ∀ (names : List (Str × NameKind)) (cs : List (Str × Addr)), (x, NameKind.free) ∈ names -> ∃ c, (gT env names cs).lookup x = some c
 | (n, k) :: r, cs, h => by
  show ∃ c, (gT env r (if (k == NameKind.free) = true then (n, (env.cells.lookup n).getD 0) :: cs else cs)).lookup x = some c
  rcases List.mem_cons.mp h with e | e
  ·cases e
   refine zeb r _ ⟨(env.cells.lookup x).getD 0, ?_⟩
   rw [if_pos (by rfl), List.lookup_cons]
   simp
  ·exact zck r _ e
def zld (env : Env) (names : List (Str × NameKind)) : List (Str × NameKind) :=
 names.map fun (n, k) => if (k == NameKind.free && env.scope.kind == .function && env.kindOf n == some .cell) then (n, NameKind.cell) else (n, k)
theorem kC {env : Env} {x : Str} {k' : NameKind} : ∀ (names : List (Str × NameKind)), (zld env names).lookup x = some k' -> ∃ k, names.lookup x = some k /\ (k' = k \/ (k = .free /\ k' = .cell))
 | [], h => by simp [zld] at h
 | (n, k) :: r, h => by
  have ih := kC (env := env) (x := x) (k' := k') r
  have h' : ((if (k == NameKind.free && env.scope.kind == .function && env.kindOf n == some .cell) = true then (n, NameKind.cell) else (n, k)) :: zld env r).lookup x = some k' := h
  by_cases hc : (k == NameKind.free && env.scope.kind == .function && env.kindOf n == some .cell) = true
  ·rw [if_pos hc, List.lookup_cons] at h'
   rw [List.lookup_cons]
   cases hx : x == n with
   | true =>
    rw [hx] at h'
    have h2 : NameKind.cell = k' := Option.some.inj h'
    have hk : k = .free := by
     cases k <;> first | rfl | (simp at hc)
    exact ⟨k, rfl, .inr ⟨hk, h2.symm⟩⟩
   | false =>
    rw [hx] at h'
    exact ih h'
  ·rw [if_neg hc, List.lookup_cons] at h'
   rw [List.lookup_cons]
   cases hx : x == n with
   | true =>
    rw [hx] at h'
    exact ⟨k, rfl, .inl (Option.some.inj h').symm⟩
   | false =>
    rw [hx] at h'
    exact ih h'
def wY (X : Cx) (scope : Scope) (N' : List Str) (fp : List Addr) (C : Addr) (s : Shared) (H : Hp) : Cx where
 prog := X.prog
 w := X.w
 K := X.K
 mg := X.mg
 base := X.base
 A := X.A
 N := N'
 s₀ := s
 H₀ := H
 env := compEnvC scope (gT X.env scope.names []) C X.env
 outer := X.stack
 stack := X.stack
 ex := fp
 fn := fun _ => false
 calm := true
 pn := X.pn
 xe := fun _ _ => False
def qP (fr : List (Option Nat)) (σ : St) : St := fr.map fun o => o.bind fun j => (σ[j]?).join
def zum (N : List Str) (kinds names : List (Str × NameKind)) (N' : List Str) (fr : List (Option Nat)) : Bool :=
 (N'.length == fr.length) && (N'.zip fr).all fun p => match p.2 with
  | none => true
  | some j => N[j]? == some p.1 && names.lookup p.1 == some NameKind.free && (kinds.lookup p.1 == some NameKind.cell || kinds.lookup p.1 == some NameKind.free)
theorem zul {N : List Str} {kinds names : List (Str × NameKind)} {N' : List Str} {fr : List (Option Nat)} (h : zum N kinds names N' fr = true) {i j : Nat} {x : Str} (h1 : N'[i]? = some x) (h2 : fr[i]? = some (some j)) :
  N[j]? = some x /\ names.lookup x = some NameKind.free /\ (kinds.lookup x = some NameKind.cell \/ kinds.lookup x = some NameKind.free) := by
 unfold zum at h
 rw [Bool.and_eq_true, List.all_eq_true] at h
 have hm : (x, some j) ∈ N'.zip fr := by
  refine List.mem_of_getElem? (i := i) ?_
  rw [List.getElem?_zip_eq_some]
  exact ⟨h1, h2⟩
 have q := h.2 _ hm
 simp only [Bool.and_eq_true, Bool.or_eq_true, beq_iff_eq] at q
 exact ⟨q.1.1, q.1.2, q.2⟩
structure CompOk (X : Cx) (scope : Scope) (N' : List Str) (fr : List (Option Nat)) : Prop where
 kind : scope.kind = .function
 cells : ∀ y ∈ scope.names, y.2 ≠ .cell
 names : ∀ y ∈ scope.names, y.2 = .local -> scope.names.lookup y.1 = some .local
 frees : ∀ y ∈ scope.names, y.2 = .free -> X.env.kindOf y.1 = some .cell \/ X.env.kindOf y.1 = some .free
 fr : zum X.N X.env.scope.names scope.names N' fr = true
section
variable {X : Cx} {scope : Scope} {N' : List Str} {fr : List (Option Nat)} {pins : List (Addr × Obj)} {σ : St} {H : Hp} {s : Shared} {fp : List Addr}
theorem CompOk.has (c : CompOk X scope N' fr) (ok : X.Ok) : ∀ y ∈ scope.names, y.2 = .free -> ∃ d, X.env.cells.lookup y.1 = some d := fun y hy h => ok.has _ (c.frees y hy h)
theorem zqj {C : Addr} {h' : Heap} {tk : Nat} {m : Str -> Option Value} (c : CompOk X scope N' fr) (hc : X.calm = true) (I : Inv X pins σ H s) (hf : ∀ b ∈ fp, zen X pins H b) (hlt : ∀ b ∈ fp, b < s.heap.objs.size)
  (old : ∀ b o, s.heap.get? b = some o -> h'.get? b = some o) (hC : s.heap.objs.size <= C) (hn : h'.Ns C m) :
  Inv (wY X scope N' fp C s H) pins (qP fr σ) H { s with heap := h', toks := tk } := by
 have get : ∀ x d, (gT X.env scope.names []).lookup x = some d -> X.env.cells.lookup x = some d := fun x d e => by
  rcases kL scope.names [] (c.has I.ok) e with q | q
  ·simp at q
  ·exact q
 have old2 : ∀ b, b < s.heap.objs.size -> b ≠ C := fun b hb => Nat.ne_of_lt (Nat.lt_of_lt_of_le hb hC)
 have hl : (qP fr σ).length = N'.length := by
  have q := c.fr
  unfold zum at q
  rw [Bool.and_eq_true] at q
  have q1 : N'.length = fr.length := by simpa using q.1
  rw [qP, List.length_map, q1]
 refine ⟨⟨I.ok.mod, c.kind, I.ok.glob, I.ok.blt, hC, ?_, ?_, (fun _ _ z => nomatch z), fun _ => I.ok.hd hc, I.ok.frames, .inl rfl, ?_, I.bs, Nat.le_trans I.ok.bsz I.sz, ?_, ?_, I.stack, I.stkFree⟩, rfl, I.bare, Un.kept old, ⟨m, hn, ?_⟩, ?_, I.hok.fresh hC, ?_, ?_, I.hok.kept old, hl⟩
 ·exact fun x y d e1 e2 => I.ok.inj x y d (get x d e1) (get y d e2)
 ·intro x hx
  have hx' : (zld X.env scope.names).lookup x = some .cell \/ (zld X.env scope.names).lookup x = some .free := hx
  have fin : scope.names.lookup x = some .free -> ∃ d, (gT X.env scope.names []).lookup x = some d := fun e => zck scope.names [] (PySem.mem_of_lookup e)
  rcases hx' with q | q
  ·obtain ⟨k, e, z⟩ := kC scope.names q
   rcases z with z | ⟨z, _⟩
   ·subst z
    exact absurd rfl (c.cells _ (PySem.mem_of_lookup e))
   ·subst z
    exact fin e
  ·obtain ⟨k, e, z⟩ := kC scope.names q
   rcases z with z | ⟨_, z⟩
   ·subst z
    exact fin e
   ·cases z
 ·exact fun b hb => ⟨old2 b (hlt b hb), fun x d e => (hf b hb).2.2.2.2.1 x d (get x d e)⟩
 ·intro b o e hb
  rcases (hf b hb).2.2.2.1 with z | z
  ·exact I.ok.noex b o e z
  ·exact absurd (Nat.lt_of_lt_of_le (Heap.lt_size e) (Nat.le_trans I.ok.bsz z)) (Nat.lt_irrefl _)
 ·intro b hb hs
  rcases List.mem_cons.mp (I.stkSub b hs) with z | z
  ·exact (hf b hb).2.1 z
  ·exact (hf b hb).2.2.1 z
 ·intro i x v e1 e2 e3
  have e2' : (fr.map fun o => o.bind fun j => (σ[j]?).join)[i]? = some (some v) := e2
  rw [List.getElem?_map] at e2'
  cases q : fr[i]? with
  | none => rw [q] at e2'; cases e2'
  | some o =>
   rw [q] at e2'
   have e3' : (o.bind fun j => (σ[j]?).join) = some v := Option.some.inj e2'
   cases o with
   | none => cases e3'
   | some j =>
    have e4 : (σ[j]?).join = some v := e3'
    have e5 : σ[j]? = some (some v) := by
     cases z : σ[j]? with
     | none => rw [z] at e4; cases e4
     | some w => rw [z] at e4; exact congrArg some e4
    obtain ⟨f1, f2, f3⟩ := zul c.fr e1 q
    obtain ⟨m0, hn0, hl0⟩ := I.loc
    have vis : Vis X.env.scope x := f3.elim (fun z => .inr (.inl z)) fun z => .inr (.inr z)
    obtain ⟨u, r, look⟩ := hl0 j x v f1 e5 vis
    refine ⟨u, r, ?_⟩
    rcases look with ⟨k, _⟩ | ⟨k, d, hd, hcell⟩
    ·have k' : X.env.scope.names.lookup x = some .local := k
     rcases f3 with z | z <;> (rw [k'] at z; cases z)
    ·refine .inr ⟨?_, d, ?_, ?_⟩
     ·have e3'' : (zld X.env scope.names).lookup x = some .local \/ (zld X.env scope.names).lookup x = some .cell \/ (zld X.env scope.names).lookup x = some .free := e3
      rcases e3'' with z | z | z
      ·obtain ⟨k2, e, z2⟩ := kC scope.names z
       rw [f2] at e
       cases e
       rcases z2 with z2 | ⟨_, z2⟩ <;> cases z2
      ·exact .inl z
      ·exact .inr z
     ·obtain ⟨d', e⟩ := zck (env := X.env) scope.names [] (PySem.mem_of_lookup f2)
      have := get x d' e
      rw [hd] at this
      cases this
      exact e
     ·obtain ⟨ob, h1, h2⟩ := hcell
      exact ⟨ob, old _ _ h1, h2⟩
 ·intro x d e
  obtain ⟨v, ob, h1, h2⟩ := I.cell x d (get x d e)
  exact ⟨v, ob, old _ _ h1, h2⟩
 ·exact fun x d e => I.freeC x d (get x d e)
 ·intro p hp
  obtain ⟨e, n, ne, nf, dd⟩ := I.pin p hp
  refine ⟨old _ _ e, n, old2 _ (Heap.lt_size e), fun hs => ?_, dd⟩
  rcases List.mem_cons.mp (I.stkSub p.1 hs) with z | z
  ·exact ne z
  ·exact nf z
end
section
variable {prog : Program} {w : World} {A : Around} {R : Result -> Shared -> Prop} {s : Shared}
theorem zny {elt tg iter : Expr} {ifs : List Expr} {scope : Scope} {pos : Pos} {it acc : Value} {env : Env} (J : Nat -> Shared -> Prop)
  (turn : ∀ n s, J n s -> wpAny (model prog w) A (pyNext it) (fun r s1 => match r with
   | none => R (.ok .next) s1
   | some v => wpAny (model prog w) A (letOwnedTupleGo tg it v) (fun _ s2 => wpAny (model prog w) A (assign tg env v) (fun _ s3 =>
     wpAny (model prog w) A (forIn ifs true fun c r => if r = true then do
      let ok <- isTrue c env (eval c env)
      pure (ForInStep.yield ok) else pure (ForInStep.yield r)) (fun ok s4 =>
       if ok = true then wpAny (model prog w) A (eval elt env) (fun x s5 =>
        wpAny (model prog w) A (call (.builtin "list.append") [acc, x]) (fun _ s6 => ∃ m, m < n /\ J m s6) (fun _ _ => False) s5) (fun _ _ => False) s4
       else ∃ m, m < n /\ J m s4) (fun _ _ => False) s3) (fun _ _ => False) s2) (fun _ _ => False) s1) (fun _ _ => False) s)
  (n : Nat) (h : J n s) : codeAny (model prog w) A (.compLoop (.ListComp elt [⟨tg, iter, ifs, 0⟩] scope pos) 0 it acc env) R s := by
 refine codeAny_loop rfl J (fun k s1 hJ => ?_) n h
 show wpAny _ A ((compTurn (.ListComp elt [⟨tg, iter, ifs, 0⟩] scope pos) 0 it acc env).onRaise (fun y => do noteFrame y env; theTreesLotGoes y)) _ _ s1
 refine wpAny_noted (wpAny_mono (E := fun _ _ => False) ?_ (fun _ _ q => q) fun _ _ z => z.elim)
 rw [compTurn_list]
 refine wpAny_bind (wpAny_standAt (wpAny_bind (thn (turn k s1 hJ) fun r s2 h2 => ?_)))
 cases r with
 | none => exact wpAny_pure h2
 | some v =>
  refine wpAny_bind (thn h2 fun _ s3 h3 => wpAny_bind (thn h3 fun _ s4 h4 => wpAny_bind (thn h4 fun ok s5 h5 => ?_)))
  cases ok with
  | false => exact wpAny_pure ⟨rfl, h5⟩
  | true =>
   refine wpAny_bind (wpAny_bind (thn h5 fun x s6 h6 => wpAny_bind (thn h6 fun _ s7 h7 => ?_)))
   exact wpAny_pure (wpAny_pure ⟨rfl, h7⟩)
end
theorem HOk.track {P : Program} {w : World} {H : Hp} {h : Heap} {a : Addr} {o : HO} (ok : HOk P w H h) (hn : H a = none) (new : ObjOk P w (upd H a o) h a o) : HOk P w (upd H a o) h := fun b u q => by
 by_cases hb : b = a
 ·subst hb
  rw [zC] at q
  cases q
  exact new
 ·rw [zW hb] at q
  exact (ok b u q).stay (fun _ _ _ r => r) (fun c r => by rw [zW (zV r hn)]; exact r) fun c xs r => by rw [zW (zV r hn)]; exact r
def zjn (J : It) (g : TG) (tt : TT) (te : TE) (fin : List V -> Hp -> Prop) (W : Nat -> Nat -> List V -> St -> Hp -> Prop) : Prop :=
 ∀ i m ys σ H, W i m ys σ H -> (J.stop i H /\ ys.length <= sizeLine /\ fin ys H) \/ (J.go i H /\ ys.length < sizeLine /\ ∀ x H', J.yld i H x H' -> g x σ H' fun σ2 H2 => tt σ2 H2 fun b H3 =>
  if b = true then te σ2 H3 fun y H4 => ∃ m', m' < m /\ W (i + 1) m' (ys ++ [y]) σ2 H4 else ∃ m', m' < m /\ W (i + 1) m' ys σ2 H3)
section
variable {X : Cx} {scope : Scope} {N' : List Str} {fr : List (Option Nat)} {pins : List (Addr × Obj)} {σ : St} {H : Hp} {s : Shared} {fp : List Addr} {it : Addr} {tn : Nat -> Heap -> Prop} {J : It}
 {elt tg iter : Expr} {ifs : List Expr} {g : TG} {tt : TT} {te : TE} {pos : Pos} {fin : List V -> Hp -> Prop} {W : Nat -> Nat -> List V -> St -> Hp -> Prop} {RR : Value -> Addr -> Result -> Shared -> Prop} {E : Value -> Shared -> Prop}
theorem zbq (c : CompOk X scope N' fr) (hc : X.calm = true) (I : Inv X pins σ H s) (T : zov X.prog X.w X.K tg J fp it tn) (st : tn 0 s.heap) (hf : ∀ b ∈ fp, zen X pins H b)
  (hg : ∀ fp C s H, PG (wY X scope N' fp C s H) tg g) (ht : ∀ fp C s H, zvs (wY X scope N' fp C s H) ifs tt) (he : ∀ fp C s H, PE (wY X scope N' fp C s H) elt te)
  (hW : zjn J g tt te fin W) (h0 : ∃ m, W 0 m [] (qP fr σ) H)
  (hRR : ∀ D C ys H' s', Inv X pins σ (upd H' D (.lst ys)) s' -> (∃ m, s'.heap.Ns C m) -> zen X pins (upd H' D (.lst ys)) C -> H' D = none -> fin ys H' -> RR (.ref D) C (.ok .next) s') :
  wpAny (model X.prog X.w) X.A (newList []) (fun acc s3 => wpAny (model X.prog X.w) X.A (newFunctionEnv scope X.env.globals (gT X.env scope.names []) [] X.env.qual none .none (some X.env)) (fun cenv s4 =>
   codeAny (model X.prog X.w) X.A (.compStart (.ListComp elt [⟨tg, iter, ifs, 0⟩] scope pos) 0 (.ref it) acc { cenv with scope := relabel scope X.env }) (RR acc cenv.locals) s4) E s3) E s := by
 refine wpAny_newObj_type (wpAny_newFunctionEnv c.cells (by intro y hy; simp at hy) (fun h1 hns hsb => ?_) c.kind)
 dsimp only at hns hsb ⊢
 generalize hH2 : s.heap.push { cls := .type "list", dict := none, data := .seq ([] : List Value).toArray } = H2 at hns hsb ⊢
 have hD0 : s.heap.objs.size < H2.objs.size := by rw [<- hH2, Heap.size_push]; exact Nat.lt_succ_self _
 generalize hDD : s.heap.objs.size = D at hD0 ⊢
 generalize hCC : H2.objs.size = C at hns hsb hD0 ⊢
 have up : ∀ b o, s.heap.get? b = some o -> h1.get? b = some o := fun b o e => hsb.extBut b o (by
  have := Heap.lt_size e
  rw [hDD] at this
  exact Nat.ne_of_lt (Nat.lt_trans this hD0)) (Heap.get?_push_of_some _ (by rw [<- hH2]; exact Heap.get?_push_of_some _ e))
 have accD : h1.get? D = some { cls := .type "list", dict := none, data := .seq ([] : List Value).toArray } := hsb.extBut _ _ (Nat.ne_of_lt hD0) (Heap.get?_push_of_some _ (by rw [<- hH2, <- hDD]; exact Heap.get?_push_size _ rfl))
 have hlt : ∀ b ∈ fp, b < s.heap.objs.size := fun b hb => by
  obtain ⟨o, e, _⟩ := T.obj 0 _ st b hb
  exact Heap.lt_size e
 have hle : s.heap.objs.size <= C := by rw [hDD]; exact Nat.le_of_lt hD0
 generalize hX' : wY X scope N' fp C s H = X'
 have I1 : Inv X' pins (qP fr σ) H { s with heap := h1, toks := s.toks + ([] : List (Str × Value)).length } := by
  subst hX'
  exact zqj c hc I hf hlt up hle hns
 have st1 : tn 0 h1 := T.keep _ _ _ st fun b hb o e => up b o e
 have pm : X'.prog = X.prog := by subst hX'; rfl
 have wm : X'.w = X.w := by subst hX'; rfl
 have km : X'.K = X.K := by subst hX'; rfl
 have cm : X'.calm = true := by subst hX'; rfl
 have am : X'.A = X.A := by subst hX'; rfl
 have xm : X'.xe = fun _ _ => False := by subst hX'; rfl
 have lm : X'.env.locals = C := by subst hX'; rfl
 have szm : X'.s₀.heap.objs.size = s.heap.objs.size := by subst hX'; rfl
 have nm : X'.pn = X.pn := by subst hX'; rfl
 have hg' := hg fp C s H
 have ht' := ht fp C s H
 have he' := he fp C s H
 have em : X'.env = compEnvC scope (gT X.env scope.names []) C X.env := by subst hX'; rfl
 have fsm : X'.fs = frs X.stack := by subst hX'; rfl
 have exm : X'.ex = fp := by subst hX'; rfl
 rw [hX'] at hg' ht' he'
 have ageP : ∀ p ∈ X.pn ++ pins, p.1 < D := fun p hp => by rw [<- hDD]; exact Heap.lt_size (I.pin p hp).1
 have ageC : ∀ x d, X'.env.cells.lookup x = some d -> d < D := fun x d e => by
  rw [em] at e
  rcases kL scope.names [] (c.has I.ok) e with q | q
  ·simp at q
  ·obtain ⟨v, z⟩ := I.cell x d q
   rw [<- hDD]
   exact z.lt
 have cellF : ∀ x d, X'.env.cells.lookup x = some d -> X.env.cells.lookup x = some d := fun x d e => by
  rw [em] at e
  rcases kL scope.names [] (c.has I.ok) e with q | q
  ·simp at q
  ·exact q
 have fps : ∀ {H' : Hp} {oD : Obj}, (∀ b ∈ fp, H' b = none) -> ∀ b ∈ fp, zen X' (pins ++ [(D, oD)]) H' b := fun {H' oD} hn b hb => by
  obtain ⟨_, f1, f2, f3, f4, f5⟩ := hf b hb
  have hbD : b < D := by rw [<- hDD]; exact hlt b hb
  refine ⟨hn b hb, ?_, ?_, .inl (by rw [exm]; exact hb), fun x d e => f4 x d (cellF x d e), fun p hp => ?_⟩
  ·rw [lm]; exact Nat.ne_of_lt (Nat.lt_trans hbD hD0)
  ·rw [fsm]
   intro hs
   rcases List.mem_cons.mp (I.stkSub b hs) with z | z
   ·exact f1 z
   ·exact f2 z
  ·rw [nm, <- List.append_assoc] at hp
   rcases List.mem_append.mp hp with z | z
   ·exact f5 p z
   ·rw [List.mem_singleton.mp z]
    exact Nat.ne_of_gt hbD
 have pinD : ∀ {σ' : St} {H' : Hp} {s' : Shared} {its : List Value} {k : Nat}, Inv X' pins σ' H' s' -> s'.heap.get? D = some { cls := .type "list", data := .seq its.toArray k } -> H' D = none ->
   Inv X' (pins ++ [(D, { cls := .type "list", data := .seq its.toArray k })]) σ' H' s' := fun {σ' H' s' its k} J0 e n => J0.pins_of fun p hp => by
  rcases List.mem_append.mp hp with z | z
  ·exact J0.pin p (List.mem_append_right _ z)
  ·rw [List.mem_singleton.mp z]
   refine ⟨e, n, ?_, ?_, fun v q => by cases q⟩
   ·show D ≠ X'.env.locals
    rw [lm]
    exact Nat.ne_of_lt hD0
   ·rw [fsm]
    intro hs
    have hb := I.stkSub D hs
    rcases List.mem_cons.mp hb with z | z
    ·have := I.lt
     rw [<- z, hDD] at this
     exact Nat.lt_irrefl _ this
    ·exact I.nofs (Nat.le_of_eq hDD) z
 have loop : ∀ s0 : Shared, s0 = { s with heap := h1, toks := s.toks + ([] : List (Str × Value)).length } ->
   codeAny (model X.prog X.w) X.A (.compLoop (.ListComp elt [⟨tg, iter, ifs, 0⟩] scope pos) 0 (.ref it) (.ref D) X'.env) (RR (.ref D) C) s0 := by
  rintro s0 rfl
  obtain ⟨m0, w0⟩ := h0
  refine zny (fun n s' => ∃ i ys σ' H' its k, Inv X' pins σ' H' s' /\ tn i s'.heap /\ (∀ b ∈ fp, H' b = none) /\ s'.heap.get? D = some { cls := .type "list", data := .seq (its : List Value).toArray k } /\ H' D = none /\ Vals ys its /\ W i n ys σ' H')
   ?_ m0 ⟨0, [], qP fr σ, H, [], 0, I1, st1, fun b hb => (hf b hb).1, accD, I.hok.fresh (by rw [hDD]; exact Nat.le_refl _), .nil, w0⟩
  rintro n s1 ⟨i, ys, σ1, H1, its, k, J1, t1, n1, d1, nD1, v1, w1⟩
  have J1' := pinD J1 d1 nD1
  rcases hW i n ys σ1 H1 w1 with ⟨stop, hlen, fi⟩ | ⟨go, hlen, step⟩
  ·have a1 := T.done X' pm wm km cm i _ s1 σ1 H1 (fun _ _ => False) J1' (fps n1) t1 stop
   rw [am] at a1
   refine thn a1 fun r s2 ⟨hr, J2⟩ => ?_
   subst hr
   obtain ⟨d2, nD2, _⟩ := J2.pin (D, _) (List.mem_append_right _ (List.mem_append_right _ List.mem_cons_self))
   have u2 : Un (frs X.stack) fp H H1 s.heap s2.heap := by
    have := J2.base
    subst hX'
    exact this
   have hok2 : HOk X.prog X.w (upd H1 D (.lst ys)) s2.heap := by
    have h2 := J2.hok
    rw [pm, wm] at h2
    exact h2.track nD1 ⟨hlen, its, k, v1, d2⟩
   have J3 : Inv X pins σ (upd H1 D (.lst ys)) s2 := by
    refine I.call' (ch := fp) (by have := J2.os; subst hX'; exact this) ⟨fun b o e n hb hx => u2.keep b o e n hb hx, fun b o e n hb hx => u2.slot b o e n hb hx, fun b o e n hx => ?_, fun b o e hx => u2.there b o e hx, fun b xs e => ?_, fun b o u e => ?_, fun b ps e => ?_⟩ hok2 J2.bare fun b hb => ?_
    ·have ne : b ≠ D := Nat.ne_of_lt (by rw [<- hDD]; exact Heap.lt_size e)
     rw [zW ne]
     exact u2.free b o e n hx
    ·have q := u2.tups b xs e
     rw [zW (zV q nD1)]
     exact q
    ·have q := u2.frzs b o u e
     rw [zW (zV q nD1)]
     exact q
    ·obtain ⟨zor, q⟩ := u2.tbls b ps e
     exact ⟨zor, by rw [zW (zV q nD1)]; exact q⟩
    ·obtain ⟨_, f1, f2, f3, f4, f5⟩ := hf b hb
     exact ⟨f3, f1, f4, f5⟩
   have nC : (upd H1 D (.lst ys)) C = none := by
    rw [zW (Nat.ne_of_gt hD0)]
    have := J2.free
    rw [lm] at this
    exact this
   refine hRR D C ys H1 s2 J3 ?_ (I.fpOk hle nC) nD1 fi
   obtain ⟨m, hm, _⟩ := J2.loc
   rw [lm] at hm
   exact ⟨m, hm⟩
  ·have a1 := T.item X' pm wm km cm i _ s1 σ1 H1 (fun _ _ => False) J1' (fps n1) t1 go
   rw [am] at a1
   refine thn a1 fun r s2 ⟨u, hr, h2⟩ => ?_
   subst hr
   refine thn h2 fun _ s3 ⟨x, H3, J3, r3, y3, t3, n3⟩ => ?_
   have J3' := J3.pinned (fps n3) (T.obj _ _ t3)
   have a3 := hg' _ s3 σ1 H3 x u _ J3' r3 (step x H3 y3)
   rw [pm, wm, am, xm] at a3
   refine thn a3 fun _ s4 ⟨σ4, H4, J4, q4⟩ => ?_
   have a4 := ht' _ s4 σ4 H4 _ J4 q4
   rw [pm, wm, am, xm] at a4
   refine thn a4 fun ok s5 ⟨H5, J5, q5⟩ => ?_
   have keepT : ∀ {σ' : St} {H' : Hp} {s' : Shared}, Inv X' (pins ++ [(D, { cls := .type "list", data := .seq its.toArray k })] ++ zct fp s3.heap) σ' H' s' -> tn (i + 1) s'.heap /\ (∀ b ∈ fp, H' b = none) /\ s'.heap.get? D = some { cls := .type "list", data := .seq its.toArray k } /\ H' D = none /\ Inv X' pins σ' H' s' := fun {σ' H' s'} J0 => by
    refine ⟨T.keep _ _ _ t3 fun b hb o e => (J0.pin (b, o) (List.mem_append_right _ (List.mem_append_right _ (vI hb e)))).1, fun b hb => ?_, ?_, ?_, J0.unpinned.unpinned⟩
    ·obtain ⟨o, e, _⟩ := T.obj _ _ t3 b hb
     exact (J0.pin (b, o) (List.mem_append_right _ (List.mem_append_right _ (vI hb e)))).2.1
    ·exact (J0.pin (D, _) (List.mem_append_right _ (List.mem_append_left _ (List.mem_append_right _ List.mem_cons_self)))).1
    ·exact (J0.pin (D, { cls := .type "list", data := .seq its.toArray k }) (List.mem_append_right _ (List.mem_append_left _ (List.mem_append_right _ List.mem_cons_self)))).2.1
   cases ok with
   | false =>
    obtain ⟨m', hm, w'⟩ := q5
    obtain ⟨e1, e2, e3, e4, e5⟩ := keepT J5
    rw [if_neg Bool.false_ne_true]
    exact ⟨m', hm, i + 1, ys, σ4, H5, its, k, e5, e1, e2, e3, e4, v1, w'⟩
   | true =>
    rw [if_pos rfl]
    have a5 := he' _ s5 σ4 H5 _ J5 q5
    rw [pm, wm, am, xm] at a5
    refine thn a5 fun u6 s6 ⟨y, H6, J6, r6, m', hm, w6⟩ => ?_
    obtain ⟨e1, e2, e3, e4, e5⟩ := keepT J6
    refine append_at (hsz := by show its.toArray.size <= sizeLine; rw [List.size_toArray, <- v1.length]; exact Nat.le_of_lt hlen) e3 fun h7 sb7 d7 => ?_
    have J7 : Inv X' pins σ4 H6 { s6 with heap := h7 } := e5.turned (t' := s6.toks) (it := D) (fun b o hb e => sb7.extBut b o hb e) e4 (by rw [lm]; exact Nat.ne_of_lt hD0) (.inr (by rw [szm, hDD]; exact Nat.le_refl _)) (fun x d e => Nat.ne_of_lt (ageC x d e)) fun p hp => by
     rw [nm] at hp
     exact Nat.ne_of_lt (ageP p hp)
    refine ⟨m', hm, i + 1, ys ++ [y], σ4, H6, its ++ [u6], k + 1, J7, T.keep _ _ _ e1 fun b hb o e => sb7.extBut b o (Nat.ne_of_lt (by rw [<- hDD]; exact hlt b hb)) e, e2, ?_, e4, v1.append (.cons r6 .nil), w6⟩
    rw [d7, List.push_toArray]
 have env1 : ({ newEnv scope C X.env.globals (gT X.env scope.names []) X.env.qual none .none (some X.env) 0 with scope := relabel scope X.env } : Env) = X'.env := by rw [em]; rfl
 have lp := loop _ rfl
 rw [em] at lp
 exact codeAny_compStart_list lp (T.self _ 0 _ _ _ st1 lp)
def zAw (wi : TI) (fr : List (Option Nat)) (g : TG) (tt : TT) (te : TE) : TE := fun σ H Q => wi σ H fun J H1 =>
 ∃ W, zjn J g tt te (fun ys H' => ∀ p, H' p = none -> Q (.ref p) (upd H' p (.lst ys))) W /\ ∃ m, W 0 m [] (qP fr σ) H1
theorem xI {wi : TI} (c : CompOk X scope N' fr) (hc : X.calm = true) (hi : PI X tg iter wi) (hg : ∀ fp C s H, PG (wY X scope N' fp C s H) tg g) (ht : ∀ fp C s H, zvs (wY X scope N' fp C s H) ifs tt)
  (he : ∀ fp C s H, PE (wY X scope N' fp C s H) elt te) (hs : ∀ x, foldedSetIterable iter X.env x = pure x := by intro _; rfl) : PE X (.ListComp elt [⟨tg, iter, ifs, 0⟩] scope pos) (zAw wi fr g tt te) := by
 intro pins s σ H Q I h
 rw [eval_ListComp]
 refine wpAny_comprehension_free (use := none) rfl hs (zbr (c.has I.ok)) c.kind c.names (thn (hi pins s σ H _ I h) fun v s1 h1 => thn h1 fun itv s2 h2 => ?_)
 obtain ⟨it, fp, tn, J, H2, e, I2, T, st2, f2, W, hW, h0⟩ := h2
 subst e
 refine zbq c hc I2 T st2 f2 hg ht he hW h0 ?_
 rintro D C ys H' s' J3 ⟨m, hm⟩ ⟨f0, f1, _, f3, f4, f5⟩ nD fi
 exact ⟨m, hm, fun h'' sb => ⟨.ref D, _, J3.turned (t' := s'.toks) (it := C) (fun b o hb e => sb.extBut b o hb e) f0 f1 f3 f4 f5, rfl, fi D nD⟩⟩
def zpe (i : Nat) (wi : TI) (fr : List (Option Nat)) (g : TG) (tt : TT) (te : TE) : TS := fun D σ H => wi σ H fun J H1 =>
 ∃ W, zjn J g tt te (fun ys H' => ∀ p, H' p = none -> D.nx (σ.set i (some (.ref p))) (upd H' p (.lst ys))) W /\ ∃ m, W 0 m [] (qP fr σ) H1
theorem jP {wi : TI} {i : Nat} {y : Str} {py spos : Pos} (hN : X.N.Nodup) (hi' : X.N[i]? = some y) (hy : Loc X.env.scope y) (c : CompOk X scope N' fr) (hc : X.calm = true) (hi : PI X tg iter wi) (hg : ∀ fp C s H, PG (wY X scope N' fp C s H) tg g) (ht : ∀ fp C s H, zvs (wY X scope N' fp C s H) ifs tt)
  (he : ∀ fp C s H, PE (wY X scope N' fp C s H) elt te) (hs : ∀ x, foldedSetIterable iter X.env x = pure x := by intro _; rfl)
  (hsw : swapsWith (.ListComp elt [⟨tg, iter, ifs, 0⟩] scope pos) (some (.Name y py)) spos.line X.env = pure true := by rfl) (hf : X.fn y = true \/ X.env.scope.names.lookup y = some .local := by first | exact .inl rfl | exact .inr rfl | assumption) :
  PS X (.Assign [.Name y py] (.ListComp elt [⟨tg, iter, ifs, 0⟩] scope pos) spos) (zpe i wi fr g tt te) := by
 intro pins s σ H D I h
 rw [exec_Assign_Name_used _ _ _ _ hsw]
 refine wpAny_bind (wpAny_standAt (wpAny_bind ?_))
 show wpAny _ X.A (do let _ <- comprehension (.ListComp elt [⟨tg, iter, ifs, 0⟩] scope pos) scope X.env _ (newList []) false (eval iter X.env) (some (assign (.Name y py) X.env))) _ _ s
 refine wpAny_bind (thn (wpAny_comprehension_free (use := some (assign (.Name y py) X.env)) (Q := fun _ s' => SP X pins D .next s') rfl hs (zbr (c.has I.ok)) c.kind c.names
  (thn (hi pins s σ H _ I h) fun v s1 h1 => thn h1 fun itv s2 h2 => ?_)) fun _ s' hq => wpAny_pure (wpAny_pure hq))
 obtain ⟨it, fp, tn, J, H2, e, I2, T, st2, f2, W, hW, h0⟩ := h2
 subst e
 refine zbq c hc I2 T st2 f2 hg ht he hW h0 ?_
 rintro B C ys H' s' J3 ⟨m, hm⟩ ⟨f0, f1, _, f3, f4, f5⟩ nD fi
 show wpAny _ X.A (assign (.Name y py) X.env (.ref B)) _ _ s'
 refine wpAny_assign_Name (zdl J3 hN hi' hy (show RelV (.ref B) (.ref B) from rfl) (fun s4 J4 ⟨a, sb, ha⟩ => ?_) hf)
 have nCa : C ≠ a := by
  rcases ha with z | z
  ·rw [z]; exact f1
  ·exact fun q => f4 y a z q.symm
 exact ⟨m, hm.sameBut sb nCa, fun h'' sb2 => ⟨_, _, J4.turned (t' := s4.toks) (it := C) (fun b o hb e => sb2.extBut b o hb e) f0 f1 f3 f4 f5, fi B nD⟩⟩
end
section
variable {X : Cx}
theorem zgx : xL X (.builtin "isinstance") (fun xs H Q => ∃ x c t u b, xs = [x, c] /\ RelV c u /\ zbt X.K H x t /\ PySem.W.kitOne X.K t u = some b /\ Q (.bl b) H) := by
 intro pins s σ H xs us Q I r h
 obtain ⟨x, c, t, u, b, rfl, rc, ty, e, q⟩ := h
 obtain ⟨u1, u2, rfl, r1, r2⟩ := Vals.two r
 have hu : u2 = u := by
  cases c <;> first
   | exact (show u2 = _ from r2).trans (show u = _ from rc).symm
   | skip
  all_goals (exfalso; obtain ⟨_, rfl⟩ := rc; unfold PySem.W.kitOne PySem.W.kitCls at e; split at e <;> first | (cases ty <;> simp_all) | (simp at e))
 subst hu
 exact znn I r1 ty e fun tk => ⟨.bl b, H, I.tok tk, rfl, q⟩
inductive SameD (K : PySem.W.Frag) (H : Hp) : Nat -> V -> V -> Prop
 | flat {n : Nat} {x : V} (f : jS x = true) : SameD K H n x x
 | tup {n : Nat} {a b : Addr} {xs ys : List V} (ha : SqT K H a xs) (hb : SqT K H b ys) (hl : xs.length = ys.length) (h : ∀ (i : Nat) (x y : V), xs[i]? = some x -> ys[i]? = some y -> SameD K H n x y) : SameD K H (n + 1) (.ref a) (.ref b)
 | lst {n : Nat} {a b : Addr} {xs ys : List V} (ha : SqL K H a xs) (hb : SqL K H b ys) (hl : xs.length = ys.length) (h : ∀ (i : Nat) (x y : V), xs[i]? = some x -> ys[i]? = some y -> SameD K H n x y) : SameD K H (n + 1) (.ref a) (.ref b)
theorem zqp {x : V} (f : jS x = true) : eqV x x = true := by
 cases x <;> first | (exact absurd (show false = true from f) Bool.false_ne_true) | rfl | (simp [eqV])
theorem xB (n : Nat) (e : Nat -> Bool) (h : ∀ i, e i = true) : (List.range n).all e = true := by
 rw [List.all_eq_true]; intro i _; exact h i
theorem wP {A : Around} : A.in1.units <= A.units + 1 := by
 first
  | exact Nat.le_refl _
  | exact Nat.le_succ _
  | (simp [Around.in1])
theorem SameD.rc {pins : List (Addr × Obj)} {σ : St} {H : Hp} {s : Shared} (I : Inv X pins σ H s) {n : Nat} {x y : V} (h : SameD X.K H n x y) : ∀ (A : Around), A.units + n < cLine -> ∀ (u v : Value), RelV x u -> RelV y v -> SeqAt.EqAt A s u v true := by
 induction h with
 | flat f => intro A hu u v ru rv; have := zkd (A := A) (s := s) ru rv f f; rw [zqp f] at this; exact this
 | @tup n a b xs ys ha hb hl _ ih =>
  intro A hu u v ru rv
  cases (show u = Value.ref a from ru)
  cases (show v = Value.ref b from rv)
  by_cases e : a = b
  ·subst e; exact SeqAt.EqAt.same _
  ·obtain ⟨its, r1, t1, _⟩ := I.tuple ha
   obtain ⟨its2, r2, t2, _⟩ := I.tuple hb
   have hz : its.toArray.size = its2.toArray.size := by simp [<- r1.length, <- r2.length, hl]
   refine SeqAt.EqAt.of_refs e ?_
   have q := SeqAt.RcAt.tuples (e := fun _ => true) (A := A) t1 t2 (by lia) (fun j h1 h2 => ?_)
   ·rw [xB _ _ (fun _ => rfl), hz] at q
    simpa using q
   ·have l1 : j < xs.length := by have := r1.length; simp at h1; lia
    have l2 : j < ys.length := by lia
    obtain ⟨u1, e1, q1⟩ := r1.get (i := j) (x := xs[j]) (by simp [l1])
    obtain ⟨u2, e2, q2⟩ := r2.get (i := j) (x := ys[j]) (by simp [l2])
    have w1 : its.toArray[j] = u1 := by have := List.getElem?_eq_some_iff.mp e1; simpa using this.2
    have w2 : its2.toArray[j] = u2 := by have := List.getElem?_eq_some_iff.mp e2; simpa using this.2
    rw [w1, w2]
    exact ih j _ _ (by simp [l1]) (by simp [l2]) A.in1 (by have := @wP A; lia) _ _ q1 q2
 | @lst n a b xs ys ha hb hl _ ih =>
  intro A hu u v ru rv
  cases (show u = Value.ref a from ru)
  cases (show v = Value.ref b from rv)
  by_cases e : a = b
  ·subst e; exact SeqAt.EqAt.same _
  ·obtain ⟨its, r1, t1, _⟩ := I.list ha
   obtain ⟨its2, r2, t2, _⟩ := I.list hb
   have hz : its.toArray.size = its2.toArray.size := by simp [<- r1.length, <- r2.length, hl]
   refine SeqAt.EqAt.of_refs e ?_
   have q := SeqAt.RcAt.lists (e := fun _ => true) (A := A) t1.isList t2.isList hz (by lia) (fun j h1 h2 => ?_)
   ·rw [xB _ _ (fun _ => rfl)] at q
    exact q
   ·have l1 : j < xs.length := by have := r1.length; simp at h1; lia
    have l2 : j < ys.length := by lia
    obtain ⟨u1, e1, q1⟩ := r1.get (i := j) (x := xs[j]) (by simp [l1])
    obtain ⟨u2, e2, q2⟩ := r2.get (i := j) (x := ys[j]) (by simp [l2])
    have w1 : its.toArray[j] = u1 := by have := List.getElem?_eq_some_iff.mp e1; simpa using this.2
    have w2 : its2.toArray[j] = u2 := by have := List.getElem?_eq_some_iff.mp e2; simpa using this.2
    rw [w1, w2]
    exact ih j _ _ (by simp [l1]) (by simp [l2]) A.in1 (by have := @wP A; lia) _ _ q1 q2
def zbe (K : PySem.W.Frag) (out : Bool) : R2 := fun x y H Q => ∃ a b xs ys n, x = .ref a /\ y = .ref b /\ ((SqT K H a xs /\ SqT K H b ys) \/ (SqL K H a xs /\ SqL K H b ys)) /\ xs.length = ys.length /\ n <= 64 /\
 (∀ (i : Nat) (x y : V), xs[i]? = some x -> ys[i]? = some y -> SameD K H n x y) /\ Q (.bl out) H
theorem vF {pins : List (Addr × Obj)} {σ : St} {H : Hp} {s : Shared} (I : Inv X pins σ H s) {A : Around} {n : Nat} {xs ys : List V} {its its2 : List Value} (hu : A.units + n < cLine) (r1 : Vals xs its) (r2 : Vals ys its2) (hl : xs.length = ys.length)
  (h : ∀ (i : Nat) (x y : V), xs[i]? = some x -> ys[i]? = some y -> SameD X.K H n x y) : ∀ j (h1 : j < its.toArray.size) (h2 : j < its2.toArray.size), SeqAt.EqAt A s its.toArray[j] its2.toArray[j] true := by
 intro j h1 h2
 have l1 : j < xs.length := by have := r1.length; simp at h1; lia
 have l2 : j < ys.length := by lia
 obtain ⟨u1, e1, q1⟩ := r1.get (i := j) (x := xs[j]) (by simp [l1])
 obtain ⟨u2, e2, q2⟩ := r2.get (i := j) (x := ys[j]) (by simp [l2])
 have w1 : its.toArray[j] = u1 := by have := List.getElem?_eq_some_iff.mp e1; simpa using this.2
 have w2 : its2.toArray[j] = u2 := by have := List.getElem?_eq_some_iff.mp e2; simpa using this.2
 rw [w1, w2]
 exact (h j _ _ (by simp [l1]) (by simp [l2])).rc I A hu _ _ q1 q2
theorem zys (hu : X.A.units + 66 < cLine) : OpR X (compareOp .Eq) (zbe X.K true) := by
 intro pins s σ H x y v u Q I rx ry h
 obtain ⟨a, b, xs, ys, n, rfl, rfl, hk, hl, hn, hs, q⟩ := h
 cases (show v = Value.ref a from rx)
 cases (show u = Value.ref b from ry)
 have hu1 : X.A.in1.units + n < cLine := by have := @wP X.A; lia
 rcases hk with ⟨ha, hb⟩ | ⟨ha, hb⟩
 ·obtain ⟨its, r1, t1, _⟩ := I.tuple ha
  obtain ⟨its2, r2, t2, _⟩ := I.tuple hb
  have hz : its.toArray.size = its2.toArray.size := by simp [<- r1.length, <- r2.length, hl]
  refine SeqAt.eq_tupleAt (e := fun _ => true) t1 t2 (by lia) (vF I hu1 r1 r2 hl hs) ?_
  rw [xB _ _ (fun _ => rfl), hz]
  exact ⟨.bl true, H, I, by simp [RelV], q⟩
 ·obtain ⟨its, r1, t1, _⟩ := I.list ha
  obtain ⟨its2, r2, t2, _⟩ := I.list hb
  have hz : its.toArray.size = its2.toArray.size := by simp [<- r1.length, <- r2.length, hl]
  refine SeqAt.eq_listAt (e := fun _ => true) t1.isList t2.isList hz (by lia) (vF I hu1 r1 r2 hl hs) ?_
  rw [xB _ _ (fun _ => rfl)]
  exact ⟨.bl true, H, I, rfl, q⟩
theorem zyp (hu : X.A.units + 66 < cLine) : OpR X (compareOp .NotEq) (zbe X.K false) := by
 intro pins s σ H x y v u Q I rx ry h
 obtain ⟨a, b, xs, ys, n, rfl, rfl, hk, hl, hn, hs, q⟩ := h
 cases (show v = Value.ref a from rx)
 cases (show u = Value.ref b from ry)
 have hu1 : X.A.in1.units + n < cLine := by have := @wP X.A; lia
 rcases hk with ⟨ha, hb⟩ | ⟨ha, hb⟩
 ·obtain ⟨its, r1, t1, _⟩ := I.tuple ha
  obtain ⟨its2, r2, t2, _⟩ := I.tuple hb
  have hz : its.toArray.size = its2.toArray.size := by simp [<- r1.length, <- r2.length, hl]
  refine EqBoolInt.of_rcne (SeqAt.RcNeAt.tuples (e := fun _ => true) t1 t2 (by lia) (vF I hu1 r1 r2 hl hs)) ?_
  rw [xB _ _ (fun _ => rfl), hz]
  exact ⟨.bl false, H, I, by simp [RelV], q⟩
 ·obtain ⟨its, r1, t1, _⟩ := I.list ha
  obtain ⟨its2, r2, t2, _⟩ := I.list hb
  have hz : its.toArray.size = its2.toArray.size := by simp [<- r1.length, <- r2.length, hl]
  refine EqBoolInt.of_rcne (SeqAt.RcNeAt.lists (e := fun _ => true) t1.isList t2.isList hz (by lia) (vF I hu1 r1 r2 hl hs)) ?_
  rw [xB _ _ (fun _ => rfl)]
  exact ⟨.bl false, H, I, rfl, q⟩
def zwa (K : PySem.W.Frag) (neg : Bool) : R2 := fun x y H Q => ∃ a b xs, x = .ref a /\ y = .ref b /\ SqL K H a xs /\ SqL K H b [] /\ Q (.bl (neg ^^ decide (xs = []))) H
theorem zqa (hu : X.A.units + 66 < cLine) : OpR X (compareOp .Eq) (zwa X.K false) := by
 intro pins s σ H x y v u Q I rx ry h
 obtain ⟨a, b, xs, rfl, rfl, ha, hb, q⟩ := h
 cases (show v = Value.ref a from rx)
 cases (show u = Value.ref b from ry)
 obtain ⟨its, r1, t1, _⟩ := I.list ha
 obtain ⟨its2, r2, t2, _⟩ := I.list hb
 have z2 : its2 = [] := Vals.zero r2
 subst z2
 cases xs with
 | nil =>
  have z1 : its = [] := Vals.zero r1
  subst z1
  exact SeqAt.eq_listAt (e := fun _ => true) t1.isList t2.isList rfl (by lia) (fun j h1 _ => absurd h1 (by simp)) ⟨.bl true, H, I, by simp [RelV], by simpa using q⟩
 | cons x xs =>
  have hl := r1.length
  exact SeqAt.eq_list_lengthsAt t1.isList t2.isList (by simp [<- hl]) (by lia) ⟨.bl false, H, I, rfl, by simpa using q⟩
theorem zpz (hu : X.A.units + 66 < cLine) : OpR X (compareOp .NotEq) (zwa X.K true) := by
 intro pins s σ H x y v u Q I rx ry h
 obtain ⟨a, b, xs, rfl, rfl, ha, hb, q⟩ := h
 cases (show v = Value.ref a from rx)
 cases (show u = Value.ref b from ry)
 obtain ⟨its, r1, t1, _⟩ := I.list ha
 obtain ⟨its2, r2, t2, _⟩ := I.list hb
 have z2 : its2 = [] := Vals.zero r2
 subst z2
 cases xs with
 | nil =>
  have z1 : its = [] := Vals.zero r1
  subst z1
  exact EqBoolInt.of_rcne (SeqAt.RcNeAt.lists (e := fun _ => true) t1.isList t2.isList rfl (by lia) (fun j h1 _ => absurd h1 (by simp))) ⟨.bl false, H, I, by simp [RelV], by simpa using q⟩
 | cons x xs =>
  have hl := r1.length
  exact EqBoolInt.of_rcne (SeqAt.RcNeAt.lists_lengths t1.isList t2.isList (by simp [<- hl]) (by lia)) ⟨.bl true, H, I, rfl, by simpa using q⟩
theorem znl {h h' : Heap} {o : Obj} (hk : ∀ b u, b ∉ [h.objs.size] -> (h.push o).get? b = some u -> h'.get? b = some u) : ∀ b u, h.get? b = some u -> h'.get? b = some u := fun b u e =>
 hk b u (fun hm => absurd (Heap.lt_size e) (by rw [List.mem_singleton.mp hm]; exact Nat.lt_irrefl _)) (Heap.get?_push_of_some _ e)
theorem zqz {bs : List Bool} {its : List Value} (r : Vals (bs.map V.bl) its) {i : Nat} {v : Value} (e : its.toArray[i]? = some v) : v = .bool (bs.getD i false) := by
 have e' : its[i]? = some v := by simpa using e
 have hl : i < its.length := (List.getElem?_eq_some_iff.mp e').1
 have hb : i < bs.length := by have := r.length; rw [List.length_map] at this; lia
 obtain ⟨u, e1, q⟩ := r.get (i := i) (x := V.bl bs[i]) (by simp [hb])
 rw [e1] at e'
 cases e'
 have e3 : v = Value.bool bs[i] := q
 rw [e3]
 simp [List.getD, hb]
theorem zcr (bs : List Bool) : (List.range bs.length).all (fun i => bs.getD i false) = bs.all id := by
 rw [Bool.eq_iff_iff, List.all_eq_true, List.all_eq_true]
 constructor
 ·intro h x hx
  obtain ⟨i, hi, e⟩ := List.mem_iff_getElem.mp hx
  have := h i (List.mem_range.mpr hi)
  simp [List.getD, hi, e] at this
  exact this
 ·intro h i hi
  have hi' := List.mem_range.mp hi
  have := h bs[i] (List.getElem_mem hi')
  simpa [List.getD, hi'] using this
theorem zib (hc : X.calm = true) : xL X (.builtin "all") (fun xs H Q => ∃ (p : Addr) (bs : List Bool), xs = [.ref p] /\ SqL X.K H p (bs.map V.bl) /\ Q (.bl (bs.all id)) H) := by
 intro pins s σ H xs us Q I r h
 obtain ⟨p, bs, rfl, hp, q⟩ := h
 obtain ⟨u, rfl, ru⟩ := Vals.one r
 cases (show u = Value.ref p from ru)
 obtain ⟨its, r1, t1, _⟩ := I.list hp
 have hh : X.A.in1.handled = none := I.ok.hd hc
 have hlt : p < s.heap.objs.size := by obtain ⟨_, e, _⟩ := t1.isList; exact Heap.lt_size e
 refine call_all_walk (wpAny_pyIter_list t1.isList ⟨_, _, _, _, _, _, fun i => bs.getD i false, rfl, Walks.list hh _ p (Nat.ne_of_lt hlt) its.toArray, ⟨⟨_, Heap.get?_push_size _ rfl, rfl, rfl⟩, t1.isList.push _⟩, ?_, ?_⟩)
 ·intro i v s' Q' E' e hq
  rw [zqz r1 e]
  exact wpAny_truthy_bool hq
 ·intro h' tk hk
  have hl : its.toArray.size = bs.length := by have := r1.length; simp at this ⊢; lia
  rw [hl, zcr]
  exact ⟨.bl _, H, I.kept (znl hk), rfl, q⟩
end
section
variable {X : Cx} {pins : List (Addr × Obj)} {σ : St} {H : Hp} {s : Shared}
theorem Inv.turnM {ch : List Addr} {t' : Nat} {h' : Heap} (I : Inv X pins σ H s) (hf : ∀ b ∈ ch, zen X pins H b) (k : ∀ b u, b ∉ ch -> s.heap.get? b = some u -> h'.get? b = some u) : Inv X pins σ H { s with heap := h', toks := t' } := by
 have nch : ∀ b u, H b = some u -> b ∉ ch := fun b u e z => by have := (hf b z).1; rw [this] at e; cases e
 refine I.step (g' := s.gens) (d' := s.drawn) (ch := ch) (fun b hb => ⟨(hf b hb).2.2.2.1, (hf b hb).2.1, (hf b hb).2.2.2.2.1, (hf b hb).2.2.2.2.2⟩) (fun b o _ _ hc e _ => k b o hc e) (fun b o _ _ hc e _ => ⟨o.slots, k b o hc e⟩) (fun _ _ _ _ n => n)
  (fun b o hc e => ⟨o, k b o hc e⟩) (fun _ _ e => e) (fun _ _ _ e => e) (fun b ps e => ⟨#[], by rw [e]; simp⟩) (fun m hm => ?_) (fun b u e => ?_) I.bare
 ·obtain ⟨o, es, ep, ho, r⟩ := hm
  exact ⟨o, es, ep, k _ o (fun z => (hf _ z).2.1 rfl) ho, r⟩
 ·refine (I.hok b u e).stay (fun c v hc q => k c v ?_ q) (fun _ q => q) fun _ _ q => q
  rcases hc with z | z
  ·rw [z]; exact nch b u e
  ·exact nch c _ z
theorem Inv.turnNew {ch : List Addr} {T : Addr} {o : HO} {t' : Nat} {h' : Heap} (I : Inv X pins σ H s) (hf : ∀ b ∈ ch, zen X pins H b) (k : ∀ b u, b ∉ ch -> s.heap.get? b = some u -> h'.get? b = some u) (hT : s.heap.objs.size <= T)
  (new : ObjOk X.prog X.w (upd H T o) h' T o) : Inv X pins σ (upd H T o) { s with heap := h', toks := t' } := by
 have nch : ∀ b u, H b = some u -> b ∉ ch := fun b u e z => by have := (hf b z).1; rw [this] at e; cases e
 have nT : H T = none := I.hok.fresh hT
 have neT : ∀ b u, s.heap.get? b = some u -> b ≠ T := fun b u e => Nat.ne_of_lt (Nat.lt_of_lt_of_le (Heap.lt_size e) hT)
 refine I.step (g' := s.gens) (d' := s.drawn) (ch := ch) (fun b hb => ⟨(hf b hb).2.2.2.1, (hf b hb).2.1, (hf b hb).2.2.2.2.1, (hf b hb).2.2.2.2.2⟩) (fun b o _ _ hc e _ => k b o hc e) (fun b o _ _ hc e _ => ⟨o.slots, k b o hc e⟩) (fun b u _ e n => by rw [zW (neT b u e)]; exact n)
  (fun b o hc e => ⟨o, k b o hc e⟩) (fun b xs e => by rw [zW (zV e nT)]; exact e) (fun b o u e => by rw [zW (zV e nT)]; exact e) (fun b ps e => ⟨#[], by rw [zW (zV e nT), e]; simp⟩) (fun m hm => ?_) (fun b u e => ?_) I.bare
 ·obtain ⟨o, es, ep, ho, r⟩ := hm
  exact ⟨o, es, ep, k _ o (fun z => (hf _ z).2.1 rfl) ho, r⟩
 ·by_cases hb : b = T
  ·subst hb
   rw [zC] at e
   cases e
   exact new
  ·rw [zW hb] at e
   refine (I.hok b u e).stay (fun c v hc q => k c v ?_ q) (fun c r => by rw [zW (zV r nT)]; exact r) fun c xs r => by rw [zW (zV r nT)]; exact r
   rcases hc with z | z
   ·rw [z]; exact nch b u e
   ·exact nch c _ z
end
inductive Kd | l | t
def ItAt (k : Kd) (h : Heap) (it a : Addr) (i : Nat) : Prop := match k with | .l => h.IsListIter it a i | .t => h.IsTupleIter it a i
def SqK (k : Kd) (K : PySem.W.Frag) (H : Hp) (a : Addr) (xs : List V) : Prop := match k with | .l => SqL K H a xs | .t => SqT K H a xs
def zdh (k : Kd) (h : Heap) (a : Addr) (its : List Value) : Prop := match k with | .l => h.IsList a its.toArray | .t => h.IsTuple a its.toArray
theorem Inv.seq {X : Cx} {pins : List (Addr × Obj)} {σ : St} {H : Hp} {s : Shared} (I : Inv X pins σ H s) {k : Kd} {a : Addr} {xs : List V} (h : SqK k X.K H a xs) : ∃ its : List Value, Vals xs its /\ zdh k s.heap a its /\ xs.length <= sizeLine := by
 cases k with
 | l => obtain ⟨its, r, t, z⟩ := I.list h; exact ⟨its, r, t.isList, z⟩
 | t => obtain ⟨its, r, t, z⟩ := I.tuple h; exact ⟨its, r, t, z⟩
theorem ItAt.kept {k : Kd} {h h' : Heap} {it a : Addr} {i : Nat} (q : ItAt k h it a i) (e : ∀ o, h.get? it = some o -> h'.get? it = some o) : ItAt k h' it a i := by
 cases k with
 | l => obtain ⟨o, ho, r⟩ := (show h.IsListIter it a i from q); exact ⟨o, e _ ho, r⟩
 | t => obtain ⟨o, ho, r⟩ := (show h.IsTupleIter it a i from q); exact ⟨o, e _ ho, r⟩
theorem ItAt.obj {k : Kd} {h : Heap} {it a : Addr} {i : Nat} (q : ItAt k h it a i) : ∃ o, h.get? it = some o /\ ∀ v, o.data ≠ .cell v := by
 cases k with
 | l => obtain ⟨o, ho, _, d⟩ := (show h.IsListIter it a i from q); exact ⟨o, ho, fun v z => by rw [d] at z; cases z⟩
 | t => obtain ⟨o, ho, _, d⟩ := (show h.IsTupleIter it a i from q); exact ⟨o, ho, fun v z => by rw [d] at z; cases z⟩
section
variable {prog : Program} {w : World} {A : Around} {E : Value -> Shared -> Prop} {s : Shared}
theorem zqd {it t : Addr} {i : Nat} {its : List Value} {x : Value} {Q : Value -> Shared -> Prop} (hi : s.heap.IsTupleIter it t i) (ht : s.heap.IsTuple t its.toArray) (hx : its[i]? = some x)
  (q : ∀ h', h'.IsTupleIter it t (i + 1) -> Heap.SameBut it s.heap h' -> Q x { s with heap := h' }) : wpAny (model prog w) A (Builtin.SmallTypes.nextOf (.ref it)) Q E s := by
 obtain ⟨oi, gi, ci, di⟩ := id hi
 obtain ⟨ot, gt, _, nt, dt⟩ := ht
 have hx' : its.toArray[i]? = some x := by simpa using hx
 unfold Builtin.SmallTypes.nextOf
 refine wpAny_bind (wpAny_callSpecial?_slot (name := Str.ofString "__next__") hi.typeIs F.slot_tuple_iterator_next (wpAny_call_entry F.slot_tuple_iterator_next hi.typeIs F.entry_tuple_iterator_next ?_ (F.args_tuple_iterator_next_1 _)))
 show wpAny _ _ (field (Value.ref it) 0 >>= _) _ _ s
 refine wpAny_bind (wpAny_field gi di (x := Value.ref t) rfl ?_)
 rw [if_neg (show ¬ ((Value.ref t == Value.none) = true) by intro z; cases z)]
 refine wpAny_bind (wpAny_field gi di (x := Value.int i 0) rfl ?_)
 refine wpAny_bind (wpAny_seqItems gt dt ?_)
 simp only [Int.toNat_natCast, hx']
 refine wpAny_bind (wpAny_setField gi di (by simp) (wpAny_pure ⟨x, rfl, wpAny_pure (q _ ?_ (Heap.SameBut.update ..))⟩))
 refine ⟨_, Heap.get?_update_self _ gi (Obj.isFreed_of_fields (Obj.data_mapFields di _)), (Obj.cls_mapFields ..).trans ci, ?_⟩
 rw [Obj.data_mapFields di]
 simp [rawInt]
theorem zuq {it t : Addr} {i : Nat} {its : List Value} {Q : Value -> Shared -> Prop} (hh : A.handled = none) (hi : s.heap.IsTupleIter it t i) (ht : s.heap.IsTuple t its.toArray) (hx : its.length <= i)
  (q : ∀ h' e, Heap.ExtBut it s.heap h' -> (∃ o, h'.get? e = some o /\ o.cls = .type "StopIteration") -> E (.ref e) { s with heap := h' }) : wpAny (model prog w) A (Builtin.SmallTypes.nextOf (.ref it)) Q E s := by
 obtain ⟨oi, gi, ci, di⟩ := id hi
 obtain ⟨ot, gt, _, nt, dt⟩ := ht
 have hx' : its.toArray[i]? = none := by simpa using hx
 unfold Builtin.SmallTypes.nextOf
 refine wpAny_bind (wpAny_callSpecial?_slot (name := Str.ofString "__next__") hi.typeIs F.slot_tuple_iterator_next (wpAny_call_entry F.slot_tuple_iterator_next hi.typeIs F.entry_tuple_iterator_next ?_ (F.args_tuple_iterator_next_1 _)))
 show wpAny _ _ (field (Value.ref it) 0 >>= _) _ _ s
 refine wpAny_bind (wpAny_field gi di (x := Value.ref t) rfl ?_)
 rw [if_neg (show ¬ ((Value.ref t == Value.none) = true) by intro z; cases z)]
 refine wpAny_bind (wpAny_field gi di (x := Value.int i 0) rfl ?_)
 refine wpAny_bind (wpAny_seqItems gt dt ?_)
 simp only [Int.toNat_natCast, hx']
 refine wpAny_bind (wpAny_rule (wpAny_bind (wpAny_setField gi di (by simp) (wpAny_bind ?_))))
 simp only [newExc, newTuple]
 refine wpAny_bind (wpAny_newObj_type (wpAny_bind (m := firstArgMember _ _) (wpAny_of_eq (a := Value.none) ?_ (wpAny_newObj_type ?_ (by size_fits)))) (by size_fits))
 ·first | rfl | (simp only [firstArgMember]; rfl)
 simp only [raiseNew]
 refine wpAny_bind (wpAny_handled ?_)
 first | rw [show A.in1.handled = none from hh] | rw [hh]
 exact wpAny_bind (wpAny_pure (wpAny_throw (q _ _ (((Heap.SameBut.update ..).extBut.push _).push _) ⟨_, Heap.get?_push_size _ rfl, rfl⟩)))
theorem zqe {k : Kd} {it a : Addr} {i : Nat} {its : List Value} {x : Value} {Q : Value -> Shared -> Prop} (hi : ItAt k s.heap it a i) (hs : zdh k s.heap a its) (hx : its[i]? = some x)
  (q : ∀ h', ItAt k h' it a (i + 1) -> Heap.SameBut it s.heap h' -> Q x { s with heap := h' }) : wpAny (model prog w) A (Builtin.SmallTypes.nextOf (.ref it)) Q E s := by
 cases k with
 | l => exact wpAny_nextOf_list_item hi hs (by simpa using hx) q
 | t => exact zqd hi hs hx q
theorem zur {k : Kd} {it a : Addr} {i : Nat} {its : List Value} {Q : Value -> Shared -> Prop} (hh : A.handled = none) (hi : ItAt k s.heap it a i) (hs : zdh k s.heap a its) (hx : its.length <= i)
  (q : ∀ h' e, Heap.ExtBut it s.heap h' -> (∃ o, h'.get? e = some o /\ o.cls = .type "StopIteration") -> E (.ref e) { s with heap := h' }) : wpAny (model prog w) A (Builtin.SmallTypes.nextOf (.ref it)) Q E s := by
 cases k with
 | l => exact wpAny_nextOf_list_end hh hi hs (by simpa using hx) q
 | t => exact zuq hh hi hs hx q
end
open AutoSeq1 (wpAny_loadPart')
section
variable {prog : Program} {w : World} {A : Around} {E : Value -> Shared -> Prop} {s : Shared}
theorem zns {k : Kd} {e it a : Addr} {i : Nat} {its : List Value} {x old : Value} {Q : Value -> Shared -> Prop} (he : IsEnum s.heap e it i old) (hi : ItAt k s.heap it a i) (hs : zdh k s.heap a its) (hx : its[i]? = some x) (ne : e ≠ it)
  (q : ∀ h', IsEnumOut h' e it ((i : Int) + 1) x s.heap.objs.size -> ItAt k h' it a (i + 1) -> h'.get? s.heap.objs.size = some { cls := .type "tuple", data := .seq #[.int i s.toks, x] } ->
   (∀ b o, b ≠ e -> b ≠ it -> s.heap.get? b = some o -> h'.get? b = some o) -> Q (.ref s.heap.objs.size) { s with heap := h', toks := s.toks + 1 }) :
  wpAny (model prog w) A (Builtin.«enumerate.__next__» ⟨[.ref e], []⟩) (fun fin s' => ∃ v, fin = .done (.ret v) /\ Q v s') E s := by
 obtain ⟨hp, g, d, tk, os⟩ := s
 show wpAny _ _ (field (Value.ref e) 2 >>= _) _ _ _
 refine wpAny_bind (wpAny_field he rfl (x := Value.ref it) rfl (wpAny_bind (zqe hi hs hx fun g1 i1 b1 => ?_)))
 replace b1 : Heap.SameBut it hp g1 := b1
 have e1 : IsEnum g1 e it i old := (b1.2 e ne).trans he
 refine wpAny_bind (wpAny_field (s := ⟨g1, g, d, tk, os⟩) e1 rfl (x := rawInt i) rfl (wpAny_bind (wpAny_field (s := ⟨g1, g, d, tk, os⟩) e1 rfl (x := Value.none) rfl ?_)))
 refine wpAny_bind (wpAny_mkInt (wpAny_bind (wpAny_setField_rec (s := ⟨g1, g, d, tk + 1, os⟩) e1 (by simp) fun g2 e2 b2 => ?_)))
 replace b2 : Heap.SameBut e g1 g2 := b2
 replace e2 : IsEnum g2 e it ((i : Int) + 1) old := e2
 refine wpAny_bind (wpAny_setField_rec (s := ⟨g2, g, d, tk + 1, os⟩) e2 (by simp) fun g3 e3 b3 => ?_)
 replace b3 : Heap.SameBut e g2 g3 := b3
 replace e3 : IsEnum g3 e it ((i : Int) + 1) old := e3
 refine wpAny_bind (wpAny_newTuple ?_)
 have hz : g3.objs.size = hp.objs.size := by rw [b3.1, b2.1, b1.1]
 have el : e < hp.objs.size := Heap.lt_size he
 obtain ⟨oi, gi, _⟩ := hi.obj
 have il : it < hp.objs.size := Heap.lt_size gi
 have e4 : IsEnum (g3.push { cls := .type "tuple", data := .seq #[.int i tk, x] }) e it ((i : Int) + 1) old := Heap.get?_push_of_some _ e3
 have t4 : (g3.push { cls := .type "tuple", data := .seq #[.int i tk, x] }).get? hp.objs.size = some { cls := .type "tuple", data := .seq #[.int i tk, x] } := by rw [<- hz]; exact Heap.get?_push_size _ rfl
 have k4 : ∀ b o, b ≠ e -> b ≠ it -> hp.get? b = some o -> (g3.push { cls := .type "tuple", data := .seq #[.int i tk, x] }).get? b = some o := fun b o h1 h2 h3 =>
  Heap.get?_push_of_some _ (b3.extBut b o h1 (b2.extBut b o h1 (b1.extBut b o h2 h3)))
 have i4 : ItAt k (g3.push { cls := .type "tuple", data := .seq #[.int i tk, x] }) it a (i + 1) := i1.kept fun o h => Heap.get?_push_of_some _ (b3.extBut it o ne.symm (b2.extBut it o ne.symm h))
 show wpAny _ _ (Builtin.SmallTypes.ownedTupleIsFree (Value.ref e) >>= _) _ _ ⟨g3.push { cls := .type "tuple", data := .seq #[.int i tk, x] }, g, d, tk + 1, os⟩
 rw [hz]
 generalize g3.push { cls := .type "tuple", data := .seq #[.int i tk, x] } = g4 at e4 t4 k4 i4
 refine wpAny_bind ?_
 unfold Builtin.SmallTypes.ownedTupleIsFree
 refine wpAny_bind (wpAny_field e4 rfl (x := Value.none) rfl (wpAny_pure ?_))
 simp only [if_true]
 refine wpAny_bind (wpAny_rule (wpAny_bind (wpAny_field e4 rfl (x := old) rfl (wpAny_bind (wpAny_setField_rec e4 (by simp) fun g5 e5 b5 => ?_)))))
 replace b5 : Heap.SameBut e g4 g5 := b5
 replace e5 : IsEnum g5 e it ((i : Int) + 1) x := e5
 refine wpAny_bind ?_
 unfold Builtin.SmallTypes.ownedTupleHandOut
 refine wpAny_bind (wpAny_setField_rec e5 (by simp) fun g6 e6 b6 => ?_)
 replace b6 : Heap.SameBut e g5 g6 := b6
 replace e6 : IsEnumOut g6 e it ((i : Int) + 1) x hp.objs.size := e6
 refine wpAny_setField_rec e6 (by simp) fun g7 e7 b7 => ?_
 replace b7 : Heap.SameBut e g6 g7 := b7
 replace e7 : IsEnumOut g7 e it ((i : Int) + 1) x hp.objs.size := e7
 have up : ∀ b o, b ≠ e -> g4.get? b = some o -> g7.get? b = some o := fun b o h1 h2 => b7.extBut b o h1 (b6.extBut b o h1 (b5.extBut b o h1 h2))
 exact wpAny_bind (wpAny_letGo (wpAny_pure ⟨_, rfl, q g7 e7 (i4.kept fun o h => up it o ne.symm h) (up _ _ (Nat.ne_of_gt el) t4) fun b o h1 h2 h3 => up b o h1 (k4 b o h1 h2 h3)⟩))
theorem znt {k : Kd} {e it a : Addr} {i : Nat} {its : List Value} {x old : Value} {Q : Option Value -> Shared -> Prop} (he : IsEnum s.heap e it i old) (hi : ItAt k s.heap it a i) (hs : zdh k s.heap a its) (hx : its[i]? = some x) (ne : e ≠ it)
  (q : ∀ h', IsEnumOut h' e it ((i : Int) + 1) x s.heap.objs.size -> ItAt k h' it a (i + 1) -> h'.get? s.heap.objs.size = some { cls := .type "tuple", data := .seq #[.int i s.toks, x] } ->
   (∀ b o, b ≠ e -> b ≠ it -> s.heap.get? b = some o -> h'.get? b = some o) -> Q (some (.ref s.heap.objs.size)) { s with heap := h', toks := s.toks + 1 }) :
  wpAny (model prog w) A (pyNext (.ref e)) Q E s := by
 have ty : s.TypeIs (.ref e) "enumerate" := ⟨_, he, rfl⟩
 unfold pyNext
 exact wpAny_bind (wpAny_attempt (wpAny_callSpecial?_slot (name := Str.ofString "__next__") ty F.slot_enumerate_next (wpAny_call_entry F.slot_enumerate_next ty F.entry_enumerate_next
   (zns he hi hs hx ne fun h' a b c d => wpAny_pure (q h' a b c d)) (F.args_enumerate_next_1 _))))
theorem znu {k : Kd} {e it a : Addr} {i : Nat} {its : List Value} {old : Value} {Q : Option Value -> Shared -> Prop} (hh : A.handled = none) (he : IsEnum s.heap e it i old) (hi : ItAt k s.heap it a i) (hs : zdh k s.heap a its) (hx : its.length <= i)
  (q : ∀ h', Heap.ExtBut it s.heap h' -> Q none { s with heap := h' }) : wpAny (model prog w) A (pyNext (.ref e)) Q E s := by
 have ty : s.TypeIs (.ref e) "enumerate" := ⟨_, he, rfl⟩
 unfold pyNext
 refine wpAny_bind (wpAny_attempt (wpAny_callSpecial?_slot (name := Str.ofString "__next__") ty F.slot_enumerate_next (wpAny_call_entry F.slot_enumerate_next ty F.entry_enumerate_next ?_ (F.args_enumerate_next_1 _))))
 show wpAny _ _ (field (Value.ref e) 2 >>= _) _ _ _
 refine wpAny_bind (wpAny_field he rfl (x := Value.ref it) rfl (wpAny_bind (zur hh hi hs hx fun h' z k1 k2 => ?_)))
 obtain ⟨o, ho, hc⟩ := k2
 exact wpAny_bind (wpAny_isInstance (T := "StopIteration") (b := true) ⟨o, ho, hc⟩ isSubtype_stop (wpAny_pure (q _ k1)))
theorem zet (t : Addr) (items : Array Value) (n : Nat) (dct : Option Addr) (sl : Array (Option Value)) :
  Meets (Builtin.«enumerate.__new__» ⟨[.type "enumerate", .ref t], []⟩) (fun _ R s => s.heap.get? t = some { cls := .type "tuple", dict := dct, data := .seq items n, slots := sl } /\
   R (.ok (.ret (.ref (s.heap.push { cls := .type "tuple_iterator", data := .fields #[.ref t, .int 0 0] }).objs.size)))
    { s with heap := (s.heap.push { cls := .type "tuple_iterator", data := .fields #[.ref t, .int 0 0] }).push { cls := .type "enumerate", data := .fields #[.none, .bool false, .ref s.heap.objs.size, rawInt 0, .none, .none] } }) :=
 .of_wp fun prog w A R s h => by
  obtain ⟨hp, g, d, tk, os⟩ := s
  obtain ⟨ht, h⟩ := h
  have hsub := sub_enumerate
  have hT : Heap.IsTuple (Shared.heap ⟨hp, g, d, tk, os⟩) t items := ⟨_, ht, rfl, n, rfl⟩
  wp_walk using wpAny_loadPart' ht
  refine wpAny_stack_any fun st => wpAny_pure ?_
  split
  ·rename_i c _ _ _ _ _
   cases (c == Value.type "enumerate") <;>
   ·wp_walk using wpAny_loadPart' ht, wpAny_pyIter_tuple hT
    exact ⟨_, rfl, h⟩
  ·wp_walk using wpAny_loadPart' ht, wpAny_pyIter_tuple hT
   exact ⟨_, rfl, h⟩
theorem zoa {k : Kd} {a : Addr} {its : List Value} {Q : Value -> Shared -> Prop} (hs : zdh k s.heap a its)
  (q : ∀ h', IsEnum h' (s.heap.objs.size + 1) s.heap.objs.size 0 .none -> ItAt k h' s.heap.objs.size a 0 -> (∀ b o, s.heap.get? b = some o -> h'.get? b = some o) -> Q (.ref (s.heap.objs.size + 1)) { s with heap := h' }) :
  wpAny (model prog w) A (call (.type "enumerate") [.ref a]) Q E s := by
 cases k with
 | l => exact call_enumerate_list hs fun h' a b _ d => q h' a b d
 | t =>
  obtain ⟨⟨c, dct, dt, sl⟩, ht, hc, n, hd⟩ := (show s.heap.IsTuple a its.toArray from hs)
  replace hc : c = .type "tuple" := hc
  replace hd : dt = .seq its.toArray n := hd
  subst hc hd
  refine callType_new F.called_enumerate (by decide) (F.typeCall_enumerate_1 _) (F.newCall_enumerate_1 _) (fun obj => F.args_object_init_2 obj _) F.entry_enumerate_new (zet a its.toArray n dct sl) ⟨ht, ?_⟩
  have z : (s.heap.push { cls := .type "tuple_iterator", data := .fields #[.ref a, .int 0 0] }).objs.size = s.heap.objs.size + 1 := Heap.size_push ..
  show _ /\ _
  have e1 := Heap.get?_push_size (s.heap.push { cls := .type "tuple_iterator", data := .fields #[.ref a, .int 0 0] }) (o := { cls := .type "enumerate", data := .fields #[.none, .bool false, .ref s.heap.objs.size, rawInt 0, .none, .none] }) rfl
  rw [z] at e1 ⊢
  exact ⟨⟨_, e1, rfl⟩, q _ e1 ⟨_, Heap.get?_push_of_some _ (Heap.get?_push_size _ rfl), rfl, rfl⟩ fun b o x => Heap.get?_push_of_some _ (Heap.get?_push_of_some _ x)⟩
end
def ItE (k : Kd) (K : PySem.W.Frag) (a : Addr) : It :=
 ⟨fun i H => ∃ xs x, SqK k K H a xs /\ xs[i]? = some x, fun i H x H' => ∃ p y, H p = none /\ x = .ref p /\ (∀ xs, SqK k K H a xs -> xs[i]? = some y) /\ H' = upd H p (.tup [.int i, y]), fun i H => ∃ xs, SqK k K H a xs /\ xs.length <= i⟩
theorem Inv.seq_inj {X : Cx} {pins : List (Addr × Obj)} {σ : St} {H : Hp} {s : Shared} (I : Inv X pins σ H s) {k : Kd} {a : Addr} {xs ys : List V} (h : SqK k X.K H a xs) (h' : SqK k X.K H a ys) : xs = ys := by
 cases k with
 | l => exact I.list_inj h h'
 | t => exact I.tuple_inj h h'
theorem zmo {P : Program} {w : World} {K : PySem.W.Frag} {elts : List Expr} {x1 : Nat} {tpos : Pos} (k : Kd) (a e it : Addr) (ne : e ≠ it) : zov P w K (.Tuple elts x1 tpos) (ItE k K a) [e, it] e (fun i h => (∃ old, IsEnum h e it i old) /\ ItAt k h it a i) where
 mem := by simp
 obj := fun i h st b hb => by
  obtain ⟨⟨old, q⟩, r⟩ := st
  rcases List.mem_cons.mp hb with rfl | hb
  ·exact ⟨_, q, fun v z => by cases z⟩
  ·rw [List.mem_singleton.mp hb]; exact r.obj
 keep := fun i h h' st kk => ⟨let ⟨old, q⟩ := st.1; ⟨old, kk e (by simp) _ q⟩, st.2.kept fun o x => kk it (by simp) o x⟩
 item := by
  intro X hP hw hK hc i pins s σ H E I hf st hg
  subst hP hw hK
  obtain ⟨⟨old, he⟩, hi⟩ := st
  obtain ⟨xs, x, hq, hx⟩ := hg
  obtain ⟨its, r, hs, hz⟩ := I.seq hq
  obtain ⟨u, e1, ru⟩ := r.get hx
  refine znt he hi hs e1 ne fun h' a1 a2 a3 a4 => ⟨_, rfl, ?_⟩
  refine wpAny_letOwnedTupleGo_enum (s := { s with heap := h', toks := s.toks + 1 }) a1 fun h2 b1 b2 => ?_
  replace b2 : Heap.SameBut e h' h2 := b2
  have el : e < s.heap.objs.size := Heap.lt_size he
  have kk : ∀ b o, b ∉ [e, it] -> s.heap.get? b = some o -> h2.get? b = some o := fun b o hb q => by
   simp at hb
   exact b2.extBut b o hb.1 (a4 b o hb.1 hb.2 q)
  have tt : h2.get? s.heap.objs.size = some { cls := .type "tuple", data := .seq #[.int i s.toks, u] } := b2.extBut _ _ (Nat.ne_of_gt el) a3
  have fr : H s.heap.objs.size = none := I.hok.fresh (Nat.le_refl _)
  refine ⟨.ref s.heap.objs.size, upd H s.heap.objs.size (.tup [.int i, x]), I.turnNew hf kk (Nat.le_refl _) ?_, rfl, ⟨_, x, fr, rfl, fun ys hy => ?_, rfl⟩, ⟨⟨u, ?_⟩, a2.kept fun o q => b2.extBut it o ne.symm q⟩, fun b hb => ?_⟩
  ·exact ⟨by show 2 <= sizeLine; decide, [.int i s.toks, u], .cons ⟨_, rfl⟩ (.cons ru .nil), ⟨_, tt, rfl, 0, rfl⟩⟩
  ·rw [I.seq_inj hy hq]; exact hx
  ·have : ((i + 1 : Nat) : Int) = (i : Int) + 1 := by push_cast; rfl
   rw [this]; exact b1
  ·rw [zW]
   ·exact (hf b hb).1
   ·rcases List.mem_cons.mp hb with rfl | hb
    ·exact Nat.ne_of_lt el
    ·rw [List.mem_singleton.mp hb]
     obtain ⟨o, q, _⟩ := hi.obj
     exact Nat.ne_of_lt (Heap.lt_size q)
 done := by
  intro X hP hw hK hc i pins s σ H E I hf st hg
  subst hP hw hK
  obtain ⟨⟨old, he⟩, hi⟩ := st
  obtain ⟨xs, hq, hx⟩ := hg
  obtain ⟨its, r, hs, hz⟩ := I.seq hq
  refine znu (I.ok.hd hc) he hi hs (by rw [<- r.length]; exact hx) fun h' q => ⟨rfl, I.turnM (t' := s.toks) hf fun b o hb z => q b o (fun y => hb (by simp [y])) z⟩
 self := fun _ _ _ _ _ st h => let ⟨⟨_, he⟩, _⟩ := st; wpAny_pyIter_enum he h
def zwp (k : Kd) (K : PySem.W.Frag) (ta : TA) : TI := fun σ H R => ta σ H fun vs H1 => ∃ a xs, vs = [.ref a] /\ SqK k K H1 a xs /\ R (ItE k K a) H1
theorem hE : bootBuiltins "enumerate" = some (.type "enumerate") := by first | rfl | decide +kernel
theorem zts {X : Cx} {elts : List Expr} {x1 : Nat} {tpos : Pos} {l : Expr} {ta : TA} {p pos : Pos} (k : Kd) (hg : Gl X "enumerate") (hm : X.mg "enumerate" = none) (ha : PA X [l] ta) (hs : starEach [l] X.env = [(false, eval l X.env)] := by rfl) :
  PI X (.Tuple elts x1 tpos) (.Call (.Name "enumerate" p) [l] [] pos) (zwp k X.K ta) := by
 intro pins s σ H R I h
 refine Call_ (zcy I hg hm hE (PyProof.Rows.callWith_type1 (thn (ha pos pins s σ H _ I h) fun us s1 ⟨vs, H1, I1, r1, q1⟩ => ?_) hs rfl))
 obtain ⟨a, xs, rfl, hq, q⟩ := q1
 obtain ⟨u, rfl, ru⟩ := Vals.one r1
 cases (show u = Value.ref a from ru)
 obtain ⟨its, r, hsq, hz⟩ := I1.seq hq
 refine zoa hsq fun h' a1 a2 a3 => wpAny_pyIter_enum (s := { s1 with heap := h' }) a1 ?_
 refine ⟨s1.heap.objs.size + 1, [s1.heap.objs.size + 1, s1.heap.objs.size], _, _, H1, rfl, I1.kept (t' := s1.toks) a3, zmo k a _ _ (Nat.succ_ne_self _), ⟨⟨_, a1⟩, a2⟩, fun b hb => ?_, q⟩
 rcases List.mem_cons.mp hb with rfl | hb
 ·exact I1.fpOk (Nat.le_succ _) (I1.hok.fresh (Nat.le_succ _))
 ·rw [List.mem_singleton.mp hb]; exact I1.fpOk (Nat.le_refl _) (I1.hok.fresh (Nat.le_refl _))
open AutoSeq1 (wpAny_loadPart')
section
variable {prog : Program} {w : World} {A : Around} {E : Value -> Shared -> Prop} {s : Shared}
end
structure Src (K : PySem.W.Frag) (mg : Str -> Option Value) (x : Str) (st : Stmt) (ps : List Str) : Prop where
 ex : ∃ f fd, Fun K x x st f fd /\ Binds K fd ps [] /\ mg x = some (.ref f)
structure Def (P : Program) (w : World) (K : PySem.W.Frag) (mg : Str -> Option Value) (base : Heap) (k : Nat) (x : Str) (ps : List Str) (sp : Sp) : Prop where
 ex : ∃ f fd, FnOk P w K mg base CX0 k f fd ps sp /\ Binds K fd ps [] /\ mg x = some (.ref f) /\ PySem.W.keepIn K (.ref f) = true
theorem Src.def {P : Program} {w : World} {K : PySem.W.Frag} {mg : Str -> Option Value} {base : Heap} {k : Nat} {x : Str} {st : Stmt} {N ps : List Str} {sp : Sp} (S : Src K mg x st ps) (sc : zJ N ps (zB st)) (len : ∀ vs H Q E, sp vs H Q E -> vs.length = ps.length)
  (hbody : ∀ (f : Addr) (cdv : Value) (A : Around) (outer : List Env) (s : Shared) (H : Hp) (vs : List V) (Q : VK) (E : XK), Room k (A.deeper (envOfC x (zB st) s.heap.objs.size f cdv)) -> sp vs H Q E ->
   ∃ t, PSs (zlx CX0 P w K mg base N x (zB st) f cdv A outer s H E).nox (zH st) t /\ t { nx := fun _ H' => Q .non H', rt := Q } (j8 N vs) H) : Def P w K mg base (k + 1) x ps sp := by
 obtain ⟨f, fd, F, b, m⟩ := S.ex
 exact ⟨f, fd, F.ok sc len (hbody f), b, m, F.kp⟩
theorem zP {X : Cx} {k : Nat} {x : Str} {ps : List Str} {sp : Sp} {e : Expr} {es : List Expr} {t : TA} {p pos : Pos} (D : Def X.prog X.w X.K X.mg X.base k x ps sp) (hr : Room k X.A) (hg : Gl X x) (ha : PA X (e :: es) t)
  (hdb : (x == ("__debug__" : Str)) = false := by decide) (he : starEach (e :: es) X.env = (false, eval e X.env) :: starEach es X.env := by rfl) (hpl : (backTo pos (starEach es X.env)).any (·.1) = false := by rfl) :
  PE X (.Call (.Name x p) (e :: es) [] pos) (zsl sp [] E0 t) := by
 obtain ⟨f, fd, F, b, m, kp⟩ := D.ex
 exact zlj F hr hg m kp b .nil zis ha hdb he hpl
theorem Same.tup {K : PySem.W.Frag} {H H' : Hp} {a : Addr} {xs : List V} (e : Same H H') (h : SqT K H a xs) : SqT K H' a xs := by
 rcases h with (h | ⟨o, h⟩) | h
 ·exact .inl (.inl (e _ _ h))
 ·exact .inl (.inr ⟨o, e _ _ h⟩)
 ·exact .inr h
theorem Same.seqK {K : PySem.W.Frag} {H H' : Hp} {k : Kd} {a : Addr} {xs : List V} (e : Same H H') (h : SqK k K H a xs) : SqK k K H' a xs := by
 cases k with
 | l => exact e.seq h
 | t => exact e.tup h
theorem Same.new {H : Hp} {p : Addr} {o : HO} (h : H p = none) : Same H (upd H p o) := fun b u e => by rw [zW (zV e h)]; exact e
theorem SqK.or {K : PySem.W.Frag} {H : Hp} {k : Kd} {a : Addr} {xs : List V} (h : SqK k K H a xs) : SqL K H a xs \/ SqT K H a xs := by
 cases k with
 | l => exact .inl h
 | t => exact .inr h
theorem Paired.at {α β : Type} {F : α -> β -> Prop} : ∀ {l₁ : List α} {l₂ : List β}, Paired F l₁ l₂ -> ∀ {i : Nat} {a : α}, l₁[i]? = some a -> ∃ b, l₂[i]? = some b /\ F a b
 | _, _, .nil, i, a, e => by simp at e
 | _, _, .cons r t, 0, a, e => by simp at e; subst e; exact ⟨_, rfl, r⟩
 | _, _, .cons r t, i + 1, a, e => by
  obtain ⟨b, h1, h2⟩ := Paired.at t (i := i) (by simpa using e)
  exact ⟨b, by simpa using h1, h2⟩
theorem Paired.snoc {α β : Type} {F : α -> β -> Prop} : ∀ {l₁ : List α} {l₂ : List β}, Paired F l₁ l₂ -> ∀ {a : α} {b : β}, F a b -> Paired F (l₁ ++ [a]) (l₂ ++ [b])
 | _, _, .nil, _, _, h => .cons h .nil
 | _, _, .cons r t, _, _, h => .cons r (Paired.snoc t h)
theorem Paired.take {α β : Type} {F : α -> β -> Prop} : ∀ (n : Nat) {l₁ : List α} {l₂ : List β}, Paired F l₁ l₂ -> Paired F (l₁.take n) (l₂.take n)
 | 0, _, _, _ => .nil
 | _ + 1, _, _, .nil => .nil
 | n + 1, _, _, .cons r t => .cons r (Paired.take n t)
theorem zS {α : Type} {l : List α} {i : Nat} {a : α} (h : l[i]? = some a) : l.take (i + 1) = l.take i ++ [a] := by
 rw [List.take_add_one, h]; rfl
def ItK (k : Kd) (K : PySem.W.Frag) (a : Addr) : It := match k with | .l => Itl K a | .t => Itt K a
def zDb (k : Kd) (K : PySem.W.Frag) (tl : TE) : TI := fun σ H R => tl σ H fun x H1 => ∃ a, x = .ref a /\ (∃ xs, SqK k K H1 a xs) /\ R (ItK k K a) H1
theorem zyj {X : Cx} {tg : Expr} (k : Kd) {l : Expr} {tl : TE} (hl : PE X l tl) : PI X tg l (zDb k X.K tl) := by
 cases k with
 | l => exact ztr hl
 | t => exact zyi hl
theorem zsd {k : Kd} {K : PySem.W.Frag} {H : Hp} {a : Addr} {xs : List V} {i : Nat} (h : SqK k K H a xs) (hi : i < xs.length) : (ItK k K a).go i H := by
 cases k with
 | l => exact ⟨xs, xs[i], h, by simp [hi]⟩
 | t => exact ⟨xs, xs[i], h, by simp [hi]⟩
theorem zhs {k : Kd} {K : PySem.W.Frag} {H : Hp} {a : Addr} {xs : List V} {i : Nat} (h : SqK k K H a xs) (hi : xs.length <= i) : (ItK k K a).stop i H := by
 cases k with
 | l => exact ⟨xs, h, hi⟩
 | t => exact ⟨xs, h, hi⟩
theorem zlp {k : Kd} {K : PySem.W.Frag} {H H' : Hp} {a : Addr} {xs : List V} {i : Nat} {x : V} (h : SqK k K H a xs) (y : (ItK k K a).yld i H x H') : H' = H /\ xs[i]? = some x := by
 cases k with
 | l => exact ⟨y.1, y.2 xs h⟩
 | t => exact ⟨y.1, y.2 xs h⟩
theorem yZ {k : Kd} {K : PySem.W.Frag} {a : Addr} {xs : List V} {g : TG} {tt : TT} {te : TE} {fin : List V -> Hp -> Prop} {σ : St} {H : Hp} (S : St -> Prop) (Pv : Nat -> List V -> Hp -> Prop) (hσ : S σ) (h0 : Pv 0 [] H) (hz : xs.length < sizeLine)
  (hl : ∀ i ys H, i <= xs.length -> Pv i ys H -> SqK k K H a xs)
  (hs : ∀ (i : Nat) (x : V) (ys : List V) (σ : St) (H : Hp) (N : List V -> St -> Hp -> Prop), xs[i]? = some x -> S σ -> Pv i ys H -> (∀ ys' σ' H', S σ' -> Pv (i + 1) ys' H' -> ys'.length <= ys.length + 1 -> N ys' σ' H') ->
   g x σ H fun σ2 H2 => tt σ2 H2 fun b H3 => if b = true then te σ2 H3 fun y H4 => N (ys ++ [y]) σ2 H4 else N ys σ2 H3)
  (hd : ∀ ys H, Pv xs.length ys H -> fin ys H) : ∃ W, zjn (ItK k K a) g tt te fin W /\ ∃ m, W 0 m [] σ H := by
 refine ⟨fun i m ys σ H => m = xs.length - i /\ i <= xs.length /\ ys.length <= i /\ S σ /\ Pv i ys H, ?_, xs.length, by simp, Nat.zero_le _, Nat.le_refl _, hσ, h0⟩
 rintro i m ys σ H ⟨rfl, hi, hy, hS, p⟩
 have q := hl i ys H hi p
 by_cases hlt : i < xs.length
 ·refine .inr ⟨zsd q hlt, by lia, fun x H' y => ?_⟩
  obtain ⟨e, hy2⟩ := zlp q y
  subst e
  have := hs i x ys σ H' (fun ys' σ' H'' => ∃ m', m' < xs.length - i /\ m' = xs.length - (i + 1) /\ i + 1 <= xs.length /\ ys'.length <= i + 1 /\ S σ' /\ Pv (i + 1) ys' H'') hy2 hS p (fun ys' σ' H'' a b c => ⟨_, by lia, rfl, hlt, by lia, a, b⟩)
  exact this
 ·have e : i = xs.length := by lia
  subst e
  exact .inl ⟨zhs q (Nat.le_refl _), by lia, hd ys H p⟩
theorem zhx {k : Kd} {K : PySem.W.Frag} {a : Addr} {xs : List V} {g : TG} {tb : TS} {D : zeo} {σ : St} {H : Hp} (Pv : Nat -> St -> Hp -> Prop) (h0 : Pv 0 σ H) (hl : ∀ i σ H, i <= xs.length -> Pv i σ H -> SqK k K H a xs)
  (hs : ∀ (i : Nat) x p σ H, xs[i]? = some x -> Pv i σ H -> H p = none -> g (.ref p) σ (upd H p (.tup [.int i, x])) fun σ2 H2 => tb { D with nx := Pv (i + 1), ct := Pv (i + 1), bk := D.nx } σ2 H2) (hd : ∀ σ H, Pv xs.length σ H -> D.nx σ H) :
  ∃ W : Nat -> Nat -> St -> Hp -> Prop, (∃ m, W 0 m σ H) /\ ∀ i m σ H, W i m σ H ->
   ((ItE k K a).stop i H /\ D.nx σ H) \/ ((ItE k K a).go i H /\ ∃ N : St -> Hp -> Prop, (∀ σ' H', N σ' H' -> ∃ m', m' < m /\ W (i + 1) m' σ' H') /\ ∀ x H', (ItE k K a).yld i H x H' -> g x σ H' fun σ2 H2 => tb { D with nx := N, ct := N, bk := D.nx } σ2 H2) := by
 refine ⟨fun i m σ H => m = xs.length - i /\ i <= xs.length /\ Pv i σ H, ⟨xs.length, by simp, Nat.zero_le _, h0⟩, ?_⟩
 rintro i m σ H ⟨rfl, hi, p⟩
 have q := hl i σ H hi p
 by_cases hlt : i < xs.length
 ·refine .inr ⟨⟨xs, xs[i], q, by simp [hlt]⟩, Pv (i + 1), fun σ' H' p' => ⟨xs.length - (i + 1), by lia, rfl, hlt, p'⟩, fun x H' y => ?_⟩
  obtain ⟨r, y, hn, rfl, hy, rfl⟩ := y
  exact hs i y r σ H (hy xs q) p hn
 ·have e : i = xs.length := by lia
  subst e
  exact .inl ⟨⟨xs, q, Nat.le_refl _⟩, hd σ H p⟩
theorem xE {A : Around} {k : Nat} (hr : Room k A) : A.units + 66 < cLine := by have := hr.un; lia
def zwv (kinds : List (Str × NameKind)) (N : List Str) (scope : Scope) (N' : List Str) (fr : List (Option Nat)) : Bool :=
 (scope.kind == .function) && (scope.names.all fun y => y.2 != .cell) && (scope.names.all fun y => y.2 != .local || scope.names.lookup y.1 == some .local) &&
 (scope.names.all fun y => y.2 != .free || (kinds.lookup y.1 == some .cell || kinds.lookup y.1 == some .free)) && zum N kinds scope.names N' fr
theorem yM {X : Cx} {scope : Scope} {N' : List Str} {fr : List (Option Nat)} (h : zwv X.env.scope.names X.N scope N' fr = true) : CompOk X scope N' fr := by
 unfold zwv at h
 simp only [Bool.and_eq_true, List.all_eq_true] at h
 obtain ⟨⟨⟨⟨h1, h2⟩, h3⟩, h4⟩, h5⟩ := h
 refine ⟨by simpa using h1, fun y hy => by simpa using h2 y hy, fun y hy e => ?_, fun y hy e => ?_, h5⟩
 ·have := h3 y hy
  rw [e] at this
  simpa using this
 ·have := h4 y hy
  rw [e] at this
  simpa [Env.kindOf] using this
theorem zdi {σ : St} {H : Hp} {A B : Hp -> Prop} (h : A H) : zCk σ H fun b H3 => if b = true then A H3 else B H3 := by
 show if true = true then A H else B H
 exact jH h
section
open PySem.SeqAt
open PySem.AutoSeq1 (wpAny_loadPart')
open PySem.MeetsSeq PySem.MeetsSeq2 PySem.MeetsSeq3
end
section
variable {X : Cx}
def zBh (K : PySem.W.Frag) : R2 := fun x y H Q => ∃ a b ys, x = .ref a /\ y = .ref b /\ SqT K H a [] /\ SqT K H b ys /\ Q (.ref b) H
theorem zfh : OpR X (binaryOp .Add) (zBh X.K) := by
 intro pins s σ H x y v u Q I rx ry h
 obtain ⟨a, b, ys, rfl, rfl, ha, hb, k⟩ := h
 cases (show v = Value.ref a from rx)
 cases (show u = Value.ref b from ry)
 obtain ⟨its, r1, t1, _⟩ := I.tuple ha
 obtain ⟨its2, r2, t2, _⟩ := I.tuple hb
 rw [Vals.zero r1] at t1
 obtain ⟨⟨cls, dd, data, sl⟩, ho, hc, n, hd⟩ := id t1
 obtain ⟨⟨cls2, dd2, data2, sl2⟩, ho2, hc2, n2, hd2⟩ := id t2
 simp only at hc hd hc2 hd2
 subst hc hd hc2 hd2
 exact concat_meets ⟨_, ho, rfl⟩ ⟨_, ho2, rfl⟩ noFill_tuple_add seq_tuple_add PySem.F.slot_tuple_add PySem.F.entry_tuple_add (PySem.F.args_tuple_add_2 _ _) (tuple_addW0 a b _ its2.toArray n n2 dd dd2 sl sl2 (by simp)) ⟨ho, ho2, ⟨.ref b, H, I, rfl, k⟩⟩
end
section
variable {X : Cx}
end
def CXr (P : Program) (w : World) : CXT := fun outer H s E e s' => ∃ (ea C : Addr) (a0 : Value) (B : Heap) (H' : Hp), e = .ref ea /\ s'.os = s.os /\ AllBare s'.gens /\ Un (frs outer) [] H H' s.heap s'.heap /\ HOk P w H' s'.heap /\
 Heap.FlyingW B outer ea (.ref C) a0 s'.heap /\ (∀ b o, s'.heap.get? b = some o -> ((∃ q, s.heap.get? b = some q) \/ ∃ q, H' b = some q) -> b ∉ frs outer -> B.get? b = some o) /\ E (.ref C) none H'
section
variable {P : Program} {w : World} {K : PySem.W.Frag} {mg : Str -> Option Value} {base : Heap} {N : List Str} {qual : Str} {scope : Scope} {f : Addr} {cd : Value} {A : Around} {outer : List Env} {s0 : Shared} {H0 : Hp} {E : XK}
end
section
variable {P : Program} {w : World} {K : PySem.W.Frag} {mg : Str -> Option Value} {base : Heap} {N : List Str} {qual : Str} {scope : Scope} {f : Addr} {cd : Value} {A : Around} {outer : List Env} {s0 : Shared} {H0 : Hp} {E : XK}
end
end L2
namespace L2
open PySem PySem.Spec PyProof.Rows PySem.W
section
variable {K : Frag} {prog : Program} {w : World} {A : Around} {E : Value -> Shared -> Prop} {h : Heap} {g : Array GenState} {d : Drawn} {t : Nat} {os : OsState} {a C : Addr} {o : Obj}
end
section
variable {X : Cx}
end
end L2
namespace L2
open PySem PySem.Spec PyProof.Rows PySem.W
section
variable {X : Cx} {pins : List (Addr × Obj)} {σ : St} {H H' : Hp} {s s' : Shared}
end
section
variable {X : Cx} {pins : List (Addr × Obj)} {σ : St} {H H' : Hp} {s s' : Shared} {v : Value}
end
theorem zBi {P : Program} {w : World} {X : Cx} : zar (CXr P w) X E0 := fun _ _ _ _ _ _ _ ⟨_, _, _, _, _, _, _, _, _, _, _, _, z⟩ => z.elim
end L2
namespace L2
open PySem PySem.Spec PyProof.Rows
open PySem.AutoSeq1 (wpAny_loadPart')
section
variable {prog : Program} {w : World} {A : Around} {E : Value -> Shared -> Prop} {s : Shared}
theorem jL {R : Result -> Shared -> Prop} {r : Addr} {a b c : Int} {t u v : Tok} {n : Nat} (hh : A.handled = none) (hr : IsRange s.heap r a b c t u v) (hsm : Builtin.Range.small a b c = true) (hn : Builtin.Range.rangeSize a b c = n) (hl : n <= 2 ^ 24)
  (hR : ∀ h' tk acc c', (∀ b o, s.heap.get? b = some o -> h'.get? b = some o) -> h'.get? s.heap.objs.size = some { cls := .type "list", dict := none, data := .seq acc c', slots := #[] } -> ItemsOf (fun i v => ∃ t, v = .int (a + i * c) t) acc n ->
   R (.ok (.ret (.ref s.heap.objs.size))) { s with heap := h', toks := tk }) : codeAny (model prog w) A (.builtin "proto.collect" ⟨[.ref r], []⟩) R s := by
 refine codeAny_builtin PySem.F.entry_proto_collect ?_
 rw [Around.under_plainId PySem.F.plain_proto_collect _]
 show wpAny _ A.in1 (newList [] >>= fun l => again (.builtin "list.__iadd__" ⟨[l, .ref r], []⟩)) _ _ s
 refine wpAny_bind (wpAny_newObj_type ?_)
 refine wpAny_pure ⟨plainId_quiet PySem.F.plain_list_iadd _, codeAny_builtin PySem.F.entry_list_iadd ?_⟩
 rw [Around.under_plainId PySem.F.plain_list_iadd _]
 show wpAny _ A.in1 (Builtin.List.listExtendWith (.ref s.heap.objs.size) (.ref r) (.ref s.heap.objs.size)) _ _ _
 exact wpAny_extend_range (R := R) (s := { s with heap := s.heap.push { cls := .type "list", data := .seq ([] : List Value).toArray } }) hh (Heap.get?_push_of_some _ hr) hsm hn hl s.heap.objs.size (.ref s.heap.objs.size) 0 (Heap.get?_push_size _ rfl) fun h' tk acc c' hk hS hacc =>
  hR h' tk acc c' (fun b o e => hk b o (Nat.ne_of_lt (Heap.lt_size e)) (Heap.get?_push_of_some _ e)) hS hacc
theorem zda {Q : List Value -> Shared -> Prop} {r : Addr} {a b c : Int} {t u v : Tok} {n : Nat} (hh : A.handled = none) (hr : IsRange s.heap r a b c t u v) (hsm : Builtin.Range.small a b c = true) (hn : Builtin.Range.rangeSize a b c = n) (hl : n <= 2 ^ 24)
  (hQ : ∀ h' tk acc, (∀ b o, s.heap.get? b = some o -> h'.get? b = some o) -> s.heap.objs.size < h'.objs.size -> ItemsOf (fun i v => ∃ t, v = .int (a + i * c) t) acc n -> Q acc.toList { s with heap := h', toks := tk }) : wpAny (model prog w) A (collect (.ref r)) Q E s := by
 unfold collect
 refine wpAny_bind (wpAny_runValue (jL hh hr hsm hn hl fun h' tk acc c' hk hS hacc => ?_))
 show wpAny _ A (load s.heap.objs.size >>= _) _ _ _
 refine wpAny_bind (wpAny_load hS ?_)
 exact wpAny_pure (hQ h' tk acc hk (Heap.lt_size hS) hacc)
end
theorem gX (r : Addr) (a b c : Int) (t u v : Tok) (n : Nat) (hsm : Builtin.Range.small a b c = true) (hn : Builtin.Range.rangeSize a b c = n) (hl : n <= 2 ^ 24) :
  Meets (Builtin.«tuple.__new__» ⟨[.type "tuple", .ref r], []⟩)
   (fun A R s => (A.handled = none /\ IsRange s.heap r a b c t u v) /\ ∀ (h' : Heap) (tk : Nat) (acc : Array Value), (∀ b o, s.heap.get? b = some o -> h'.get? b = some o) -> s.heap.objs.size < h'.objs.size -> ItemsOf (fun i v => ∃ t, v = .int (a + i * c) t) acc n ->
    R (.ok (.ret (.ref h'.objs.size))) { s with heap := h'.push { cls := .type "tuple", data := .seq acc }, toks := tk }) :=
 .of_wp fun prog w A R s h => by
  obtain ⟨⟨hh, hr⟩, h⟩ := h
  have hsub := sub_tuple_self
  have hinit := init_tuple_lookup
  have hmh := madeHere_tuple
  have hT : s.TypeIs (.ref r) "range" := ⟨_, hr, rfl⟩
  have hh1 : A.in1.handled = none := hh
  wp_walk using wpAny_typeOf hT, zda hh1 hr hsm hn hl
  intro h' tk acc hk hz hacc
  show wpAny _ _ (Builtin.Tuple.tupleExact acc.toList.toArray >>= fun v => ret v) _ _ _
  unfold Builtin.Tuple.tupleExact
  refine wpAny_bind (wpAny_newObj_type ?_ (show acc.toList.toArray.size <= sizeLine by simp only [Array.toArray_toList]; rw [hacc.1, sizeLine_eq]; omega))
  refine wpAny_pure ⟨_, rfl, ?_⟩
  have e : acc.toList.toArray = acc := by simp
  rw [e]
  exact h h' tk acc hk hz hacc
def upN (n : Nat) : List V := (List.range n).map fun (i : Nat) => V.int i
theorem zht {acc : Array Value} {n : Nat} (h : ItemsOf (fun i v => ∃ t, v = .int (0 + (i : Int) * 1) t) acc n) : Vals (upN n) acc.toList := by
 obtain ⟨hz, hi⟩ := h
 have key : ∀ (l : List Value) (k : Nat), (∀ (j : Nat) (v : Value), l[j]? = some v -> ∃ t, v = Value.int ((k + j : Nat) : Int) t) -> Vals ((List.range' k l.length).map fun (i : Nat) => V.int i) l := by
  intro l
  induction l with
  | nil => intro k _; exact .nil
  | cons a r ih =>
   intro k hk
   obtain ⟨t, e⟩ := hk 0 a rfl
   refine .cons ⟨t, by simpa using e⟩ (ih (k + 1) fun j v e => ?_)
   obtain ⟨t', e'⟩ := hk (j + 1) v (by simpa using e)
   exact ⟨t', by rw [e']; congr 2; omega⟩
 have := key acc.toList 0 fun j v e => by
  obtain ⟨t, e'⟩ := hi j v (by simpa using e)
  exact ⟨t, by rw [e']; congr 1; simp⟩
 have el : acc.toList.length = n := by simpa using hz
 rw [el] at this
 unfold upN
 rw [List.range_eq_range']
 exact this
section
variable {X : Cx}
theorem wH : xL X (.type "range") (fun xs H Q => ∃ j : Int, xs = [.int j] /\ ∀ p, H p = none -> Q (.ref p) (upd H p (.rng 0 j))) := by
 intro pins s σ H xs us Q I r h
 obtain ⟨j, rfl, q⟩ := h
 obtain ⟨u, rfl, ru⟩ := Vals.one r
 obtain ⟨t, rfl⟩ := ru
 refine call_range_1 ⟨.ref s.heap.objs.size, upd H s.heap.objs.size (.rng 0 j), I.laid (fun b o e => Heap.get?_push_of_some _ e) (Nat.le_refl _) ?_, rfl, q _ (I.hok.fresh (Nat.le_refl _))⟩
 exact ⟨_, _, _, Heap.get?_push_size _ rfl⟩
theorem zvy (n : Nat) : Builtin.Range.rangeSize 0 (n : Int) 1 = (n : Int) := by rw [rangeSize_one]; split <;> omega
theorem x9 (hc : X.calm = true) : xL X (.type "list") (fun xs H Q => ∃ (p : Addr) (n : Nat), xs = [.ref p] /\ H p = some (.rng 0 n) /\ n <= 1000 /\ ∀ l, H l = none -> Q (.ref l) (upd H l (.lst (upN n)))) := by
 intro pins s σ H xs us Q I r h
 obtain ⟨p, n, rfl, hp, hn, q⟩ := h
 obtain ⟨u, rfl, ru⟩ := Vals.one r
 cases (show u = Value.ref p from ru)
 obtain ⟨t1, t2, t3, e⟩ := I.hok p _ hp
 refine call_list_range (t := t1) (u := t2) (v := t3) (I.ok.hd hc) e (small_one (by decide) (by decide) (by omega) (by omega)) (zvy n) (by omega) fun h' tk acc c' hk hS hacc => ?_
 refine ⟨.ref s.heap.objs.size, upd H s.heap.objs.size (.lst (upN n)), I.laid hk (Nat.le_refl _) ?_, rfl, q _ (I.hok.fresh (Nat.le_refl _))⟩
 exact ⟨by unfold upN; rw [List.length_map, List.length_range]; exact Nat.le_trans hn (by decide), acc.toList, c', zht hacc, by rw [hS]⟩
def dcr : List Int -> Nat
 | [] => 0
 | x :: xs => dcr xs + if x ∈ xs then 0 else 1
def xM (l : List Int) : Nat := dcr l.reverse
theorem gR (ns : List Int) : ∀ i, i <= ns.length -> (firstMet (fun i => ns.getD i 0) i).length = xM (ns.take i)
 | 0, _ => rfl
 | i + 1, h => by
  have hi : i < ns.length := by omega
  have ih := gR ns i (by omega)
  have e1 : ns.take (i + 1) = ns.take i ++ [ns.getD i 0] := by
   rw [List.take_add_one]
   congr 1
   simp [List.getD, hi]
  have e2 : ((List.range i).map fun i => ns.getD i 0) = ns.take i := by
   apply List.ext_getElem?
   intro j
   by_cases hj : j < i
   ·rw [List.getElem?_take_of_lt hj, List.getElem?_map, List.getElem?_range hj]
    have : j < ns.length := by omega
    simp [List.getD, this]
   ·rw [List.getElem?_take_eq_none (by omega)]
    rw [List.getElem?_eq_none (by simp; omega)]
  have ea := firstMet_any (fun i => ns.getD i 0) i (ns.getD i 0)
  rw [e2] at ea
  rw [firstMet_succ, step_length, ea, ih, e1]
  unfold xM
  rw [List.reverse_append]
  show _ = dcr (ns.getD i 0 :: (ns.take i).reverse)
  show _ = dcr (ns.take i).reverse + if ns.getD i 0 ∈ (ns.take i).reverse then 0 else 1
  by_cases hm : ns.getD i 0 ∈ ns.take i
  ·have h1 : (ns.take i).any (· == ns.getD i 0) = true := List.any_eq_true.mpr ⟨_, hm, by simp⟩
   rw [h1, if_pos (List.mem_reverse.mpr hm)]
   simp
  ·have h1 : (ns.take i).any (· == ns.getD i 0) = false := by
    rw [List.any_eq_false]
    intro x hx e
    have : x = ns.getD i 0 := by simpa using e
    exact hm (this ▸ hx)
   rw [h1, if_neg (fun z => hm (List.mem_reverse.mp z))]
   simp
theorem znp {ns : List Int} : ∀ {us : List Value}, Vals (ns.map V.int) us -> IntsAre us ns := by
 induction ns with
 | nil => intro us r; rw [Vals.zero r]; exact .nil
 | cons y ys ih =>
  intro us r
  cases r with
  | cons h t =>
   obtain ⟨tk, rfl⟩ := h
   exact .cons y tk (ih t)
theorem zdd (hc : X.calm = true) : xL X (.type "set") (fun xs H Q => ∃ (p : Addr) (ns : List Int), xs = [.ref p] /\ SqL X.K H p (ns.map V.int) /\ ns.length <= 1000 /\ ∀ l S, H l = none -> Q (.ref l) (upd H l (.set S (xM ns)))) := by
 intro pins s σ H xs us Q I r h
 obtain ⟨p, ns, rfl, hp, hn, q⟩ := h
 obtain ⟨u, rfl, ru⟩ := Vals.one r
 cases (show u = Value.ref p from ru)
 obtain ⟨its, r1, t1, _⟩ := I.list hp
 have hl : its.length = ns.length := by have := r1.length; rw [List.length_map] at this; omega
 refine PySem.call_set_list (I.ok.hd hc) t1.isList (by simpa using znp r1) (by show its.toArray.size + 1 < 4096; rw [List.size_toArray]; omega) fun h' tk hS hk => ?_
 have hs : its.toArray.size = ns.length := by rw [List.size_toArray, hl]
 rw [hs, gR ns ns.length (Nat.le_refl _), List.take_length] at hS
 exact ⟨.ref s.heap.objs.size, upd H s.heap.objs.size (.set _ (xM ns)), I.laid (fun b o e => hk b o (Heap.lt_size e) e) (Nat.le_refl _) hS, rfl, q _ _ (I.hok.fresh (Nat.le_refl _))⟩
theorem zde : xL X (.builtin "len") (fun xs H Q => ∃ (p : Addr) (S : Int -> Bool) (n : Nat), xs = [.ref p] /\ H p = some (.set S n) /\ Q (.int n) H) := by
 intro pins s σ H xs us Q I r h
 obtain ⟨p, S, n, rfl, hp, q⟩ := h
 obtain ⟨u, rfl, ru⟩ := Vals.one r
 cases (show u = Value.ref p from ru)
 obtain ⟨o, es, ep, t, e1, e2, e3, _, _, e4, e5, e6⟩ := I.hok p _ hp
 subst e6
 refine call_len_set e1 e2 e3 e5 ?_ ⟨.int es.size, H, I.tok _, ⟨_, rfl⟩, q⟩
 have : es.size < 4096 := e4
 omega
end
theorem jU {us : List Value} {ns : List Int} (h : IntsAre us ns) : Vals (ns.map V.int) us := by
 induction h with
 | nil => exact .nil
 | cons n t _ ih => exact .cons ⟨t, rfl⟩ ih
section
variable {X : Cx}
def zpu (K : PySem.W.Frag) : List V -> Hp -> VK -> Prop := fun xs H Q => ∃ (p : Addr) (ns : List Int), xs = [.ref p] /\ SqL K H p (ns.map V.int) /\ ns.length < 64 /\ ∀ (l : Addr) (ms : List Int), ms.Perm ns -> ms.Pairwise (· <= ·) -> H l = none -> Q (.ref l) (upd H l (.lst (ms.map V.int)))
theorem zeu : xL X (.builtin "sorted") (zpu X.K) := by
 intro pins s σ H xs us Q I r h
 obtain ⟨p, ns, rfl, hp, hn, q⟩ := h
 obtain ⟨u, rfl, ru⟩ := Vals.one r
 cases (show u = Value.ref p from ru)
 obtain ⟨its, r1, t1, _⟩ := I.list hp
 have hl : its.length = ns.length := by have := r1.length; rw [List.length_map] at this; lia
 refine sorted_ints t1.isList (vK r1) (by lia) fun out ms a1 a2 a3 => ?_
 obtain ⟨e, he⟩ := sortedAll_at s.heap its out
 have fr : s.heap.objs.size <= s.heap.objs.size + 1 := Nat.le_succ _
 refine ⟨.ref (s.heap.objs.size + 1), upd H (s.heap.objs.size + 1) (.lst (ms.map V.int)), I.laid (t' := s.toks) (fun b o z => sortedAll_old z) fr ?_, rfl, q _ ms a2 a3 (I.hok.fresh fr)⟩
 refine ⟨?_, out.toList, e, jU a1, by rw [he]⟩
 rw [List.length_map, a2.length_eq]
 exact Nat.le_trans (Nat.le_of_lt hn) (by decide)
end
end L2
namespace L2
open PySem PySem.Spec PyProof.Rows PySem.W
def XP (X : Cx) (pins : List (Addr × Obj)) (DX : St -> XK) (e : Value) (s' : Shared) : Prop := ∃ σ H s, Inv X pins σ H s /\ CXr X.prog X.w X.stack H s (DX σ) e s'
section
variable {X : Cx}
end
end L2
namespace L2
open PySem PySem.Spec PyProof.Rows
section
variable {X : Cx}
def zwb (K : PySem.W.Frag) : R2 := fun x y H Q => ∃ a b xs ys, x = .ref a /\ y = .ref b /\ H a = some (.tup xs) /\ H b = some (.tup ys) /\ xs.length + ys.length <= sizeLine /\ ∀ p H', Same H H' -> H' p = some (.tup (xs ++ ys)) -> Q (.ref p) H'
theorem ztw : OpR X (binaryOp .Add) (zwb X.K) := by
 intro pins s σ H x y v u Q I rx ry h
 obtain ⟨a, b, xs, ys, rfl, rfl, ha, hb, hz, q⟩ := h
 by_cases hx : xs = []
 ·subst hx
  exact zfh pins s σ H _ _ v u Q I rx ry ⟨a, b, ys, rfl, rfl, SqT.of ha, SqT.of hb, q b H (Same.refl H) hb⟩
 ·refine zll pins s σ H _ _ v u Q I rx ry ⟨a, b, xs, ys, rfl, rfl, SqT.of ha, SqT.of hb, hx, hz, fun hy => ?_, fun hy p hp => q p _ (Same.new hp) zC⟩
  subst hy
  exact q a H (Same.refl H) (by rw [List.append_nil]; exact ha)
end
section
variable {κ : Type} [DecidableEq κ]
def kM (kvs : List (κ × V)) (k : κ) : Option V := (kvs.find? fun kv => decide (kv.1 = k)).map (·.2)
def jO (kvs : List (κ × V)) (k : κ) (v : V) : List (κ × V) :=
 if (kvs.any fun kv => decide (kv.1 = k)) = true then kvs.map (fun kv => if kv.1 = k then (kv.1, v) else kv) else kvs ++ [(k, v)]
theorem zbv {p : κ × V} {r : List (κ × V)} {k : κ} (e : p.1 = k) : kM (p :: r) k = some p.2 := by simp [kM, List.find?_cons, e]
theorem zbw {p : κ × V} {r : List (κ × V)} {k : κ} (e : ¬ p.1 = k) : kM (p :: r) k = kM r k := by simp [kM, List.find?_cons, e]
theorem zgy (k : κ) : ∀ kvs : List (κ × V), (kvs.any fun kv => decide (kv.1 = k)) = (kM kvs k).isSome
 | [] => rfl
 | p :: r => by
  rw [List.any_cons]
  by_cases e : p.1 = k
  ·simp only [zbv e, decide_eq_true e, Bool.true_or, Option.isSome_some]
  ·rw [zbw e, decide_eq_false e, Bool.false_or]; exact zgy k r
theorem v0 (kvs : List (κ × V)) (k : κ) (v : V) : (jO kvs k v).length <= kvs.length + 1 := by
 unfold jO
 split
 ·rw [List.length_map]; lia
 ·rw [List.length_append, List.length_cons, List.length_nil]; lia
theorem RelO.isSome_eq {o : Option V} {u : Option Value} (r : RelO o u) : o.isSome = u.isSome := by
 cases o with
 | none => cases u with
  | none => rfl
  | some _ => exact (show False from r).elim
 | some _ => cases u with
  | none => exact (show False from r).elim
  | some _ => rfl
theorem RelO.getD {o : Option V} {u : Option Value} {d : V} {d' : Value} (r : RelO o u) (rd : RelV d d') : RelV (o.getD d) (u.getD d') := by
 cases o with
 | none => cases u with
  | none => exact rd
  | some _ => exact (show False from r).elim
 | some _ => cases u with
  | none => exact (show False from r).elim
  | some _ => exact r
theorem KV.val {kvs : List (κ × V)} {vs : List (κ × Value)} (r : KV kvs vs) (k : κ) : RelO (kM kvs k) (valueAt vs k) := by
 unfold KV at r
 induction r with
 | nil => exact True.intro
 | @cons p q ps qs h t ih =>
  obtain ⟨h1, h2⟩ := h
  by_cases e : p.1 = k
  ·have e' : q.1 = k := h1.symm.trans e
   have b : valueAt (q :: qs) k = some q.2 := by simp [valueAt, List.find?_cons, e']
   rw [zbv e, b]; exact h2
  ·have e' : ¬ q.1 = k := fun z => e (h1.trans z)
   have b : valueAt (q :: qs) k = valueAt qs k := by simp [valueAt, List.find?_cons, e']
   rw [zbw e, b]; exact ih
theorem KV.any {kvs : List (κ × V)} {vs : List (κ × Value)} (r : KV kvs vs) (k : κ) : (kvs.any fun kv => decide (kv.1 = k)) = vs.any fun kv => decide (kv.1 = k) := by
 unfold KV at r
 induction r with
 | nil => rfl
 | cons h t ih => rw [List.any_cons, List.any_cons, ih, h.1]
theorem KV.repl {kvs : List (κ × V)} {vs : List (κ × Value)} (r : KV kvs vs) (k : κ) {y : V} {u : Value} (ry : RelV y u) :
  KV (kvs.map fun kv => if kv.1 = k then (kv.1, y) else kv) (vs.map fun kv => if kv.1 = k then (kv.1, u) else kv) := by
 unfold KV at r ⊢
 induction r with
 | nil => exact .nil
 | @cons p q ps qs h t ih =>
  rw [List.map_cons, List.map_cons]
  refine .cons ?_ ih
  obtain ⟨h1, h2⟩ := h
  by_cases e : p.1 = k
  ·rw [if_pos e, if_pos (h1.symm.trans e)]; exact ⟨h1, ry⟩
  ·rw [if_neg e, if_neg (fun z => e (h1.trans z))]; exact ⟨h1, h2⟩
theorem KV.put {kvs : List (κ × V)} {vs : List (κ × Value)} (r : KV kvs vs) (k : κ) {y : V} {u : Value} (ry : RelV y u) : KV (jO kvs k y) (stored vs k u) := by
 unfold jO stored
 rw [r.any k]
 by_cases e : (vs.any fun kv => decide (kv.1 = k)) = true
 ·rw [if_pos e, if_pos e]; exact r.repl k ry
 ·rw [if_neg e, if_neg e]; exact Paired.snoc r ⟨rfl, ry⟩
theorem KV.length {kvs : List (κ × V)} {vs : List (κ × Value)} (r : KV kvs vs) : kvs.length = vs.length := Paired.length r
end
theorem zsp {P : Program} {w : World} {k : Key} {u : Value} (r : RelV (kV k) u) : (y4 P w).is k u = true := by
 cases k with
 | inl i => obtain ⟨t, e⟩ := (show ∃ t, u = Value.int i t from r); subst e; exact zgu P w i t
 | inr x => obtain ⟨t, e⟩ := (show ∃ t, u = Value.str x t from r); subst e; exact zgt P w x t
theorem zdv {P : Program} {w : World} : ∀ {ks : List Key} {us : List Value}, Vals (ks.map kV) us -> ItemsAre (y4 P w) ks us
 | [], _, r => by rw [List.map_nil] at r; cases r; exact .nil
 | k :: ks, _, r => by
  rw [List.map_cons] at r
  cases r with
  | cons h t => exact .cons (zsp h) (zdv t)
abbrev KT (H : Hp) : List (List Key × V) -> List (List Key × Addr × Value) -> Prop := Paired fun p q => p.1 = q.1 /\ H q.2.1 = some (.tup (p.1.map kV)) /\ RelV p.2 q.2.2
theorem KT.val {H : Hp} {kvs : List (List Key × V)} {xs : List (List Key × Addr × Value)} (r : KT H kvs xs) (k : List Key) : RelO (kM kvs k) ((atKey xs k).map (·.2)) := by
 induction r with
 | nil => exact True.intro
 | @cons p q ps qs h t ih =>
  obtain ⟨h1, _, h2⟩ := h
  by_cases e : p.1 = k
  ·have e' : q.1 = k := h1.symm.trans e
   have b : atKey (q :: qs) k = some q.2 := by simp [atKey, List.find?_cons, e']
   rw [zbv e, b]; exact h2
  ·have e' : ¬ q.1 = k := fun z => e (h1.trans z)
   have b : atKey (q :: qs) k = atKey qs k := by simp [atKey, List.find?_cons, e']
   rw [zbw e, b]; exact ih
theorem KT.repl {H : Hp} {kvs : List (List Key × V)} {xs : List (List Key × Addr × Value)} (r : KT H kvs xs) (k : List Key) {y : V} {u : Value} (ry : RelV y u) :
  KT H (kvs.map fun kv => if kv.1 = k then (kv.1, y) else kv) (xs.map (putAt k u)) := by
 induction r with
 | nil => exact .nil
 | @cons p q ps qs h t ih =>
  rw [List.map_cons, List.map_cons]
  refine .cons ?_ ih
  obtain ⟨h1, h2, h3⟩ := h
  unfold putAt
  by_cases e : p.1 = k
  ·rw [if_pos e, if_pos (h1.symm.trans e)]; exact ⟨h1, h2, ry⟩
  ·rw [if_neg e, if_neg (fun z => e (h1.trans z))]; exact ⟨h1, h2, h3⟩
theorem KT.put {H : Hp} {kvs : List (List Key × V)} {xs : List (List Key × Addr × Value)} (r : KT H kvs xs) (k : List Key) {b : Addr} {y : V} {u : Value} (hb : H b = some (.tup (k.map kV))) (ry : RelV y u) :
  KT H (jO kvs k y) (storedH xs k b u) := by
 have e : (kvs.any fun kv => decide (kv.1 = k)) = (atKey xs k).isSome := by
  rw [zgy, (r.val k).isSome_eq, Option.isSome_map]
 unfold jO storedH
 rw [e]
 by_cases q : (atKey xs k).isSome = true
 ·rw [if_pos q, if_pos q]; exact r.repl k ry
 ·rw [if_neg q, if_neg q]; exact Paired.snoc r ⟨rfl, hb, ry⟩
theorem KT.keeps {H H' : Hp} {kvs : List (List Key × V)} {xs : List (List Key × Addr × Value)} (r : KT H kvs xs) (ht : ∀ b ys, H b = some (.tup ys) -> H' b = some (.tup ys)) : KT H' kvs xs :=
 Paired.mapP r fun _ _ z => ⟨z.1, ht _ _ z.2.1, z.2.2⟩
section
variable {P : Program} {w : World} {H : Hp} {h : Heap} {a : Addr}
theorem zvz {u : HO} (ok : HOk P w H h) (e : Rd H a u) : ObjOk P w H h a u := e.ok ok
theorem zsu {kvs : List (Key × V)} (ok : HOk P w H h) (e : Rd H a (.dK kvs)) : kvs.length <= sizeLine /\ (a == sysModules) = false /\ ∃ vs, KV kvs vs /\ h.DictOf (y4 P w) a vs :=
 show ObjOk P w H h a (.dK kvs) from zvz ok e
theorem zCf {kvs : List (Key × V)} (ok : HOk P w H h) (e : H a = some (.dK kvs)) : kvs.length <= sizeLine /\ (a == sysModules) = false /\ ∃ vs, KV kvs vs /\ h.DictOf (y4 P w) a vs := zsu ok (.inl e)
theorem zka {ks : List Key} (ok : HOk P w H h) (e : H a = some (.tup (ks.map kV))) : (tupleKind (y4 P w)).is h ks a := by
 obtain ⟨_, its, r, o, h1, h2, n, h3⟩ := (show ObjOk P w H h a (.tup (ks.map kV)) from ok a _ e)
 exact ⟨o, its.toArray, n, h1, h2, h3, by simpa using zdv r⟩
theorem zss {kvs : List (List Key × V)} (ok : HOk P w H h) (e : Rd H a (.dT kvs)) : kvs.length <= sizeLine /\ (a == sysModules) = false /\
  ∃ xs, KT H kvs xs /\ h.DictOfH (tupleKind (y4 P w)) a xs := by
 obtain ⟨z, y, xs, r, o, es, ep, h1, h2, h3, h4, h5⟩ := (show ObjOk P w H h a (.dT kvs) from zvz ok e)
 refine ⟨z, y, xs, r, o, es, ep, h1, h2, h3, h4, fun x hx => ?_, h5⟩
 have all : ∀ {l : List (List Key × V)} {m : List (List Key × Addr × Value)}, KT H l m -> ∀ x ∈ m, (tupleKind (y4 P w)).is h x.1 x.2.1 := by
  intro l m q
  induction q with
  | nil => intro x hx; exact nomatch hx
  | @cons p q ps qs hq t ih =>
   intro x hx
   rcases List.mem_cons.mp hx with e | hx
   ·subst e
    exact zka ok (by rw [<- hq.1]; exact hq.2.1)
   ·exact ih x hx
 exact all r x hx
theorem zCe {kvs : List (List Key × V)} (ok : HOk P w H h) (e : H a = some (.dT kvs)) : kvs.length <= sizeLine /\ (a == sysModules) = false /\
  ∃ xs, KT H kvs xs /\ h.DictOfH (tupleKind (y4 P w)) a xs := zss ok (.inl e)
end
def DGet (H : Hp) (a : Addr) (y : V) (r : Option V) : Prop :=
 (∃ kvs k, Rd H a (.dK kvs) /\ y = kV k /\ r = kM kvs k) \/ ∃ kvs k b, Rd H a (.dT kvs) /\ y = .ref b /\ H b = some (.tup (k.map kV)) /\ r = kM kvs k
def DPut (H : Hp) (a : Addr) (y v : V) (H' : Hp) : Prop :=
 (∃ kvs k, H a = some (.dK kvs) /\ y = kV k /\ kvs.length < sizeLine /\ H' = upd H a (.dK (jO kvs k v))) \/
 ∃ kvs k b, H a = some (.dT kvs) /\ y = .ref b /\ H b = some (.tup (k.map kV)) /\ kvs.length < sizeLine /\ H' = upd H a (.dT (jO kvs k v))
theorem DGet.t {H : Hp} {a b : Addr} {kvs : List (List Key × V)} {k : List Key} (e : H a = some (.dT kvs)) (eb : H b = some (.tup (k.map kV))) : DGet H a (.ref b) (kM kvs k) := .inr ⟨kvs, k, b, .inl e, rfl, eb, rfl⟩
theorem DPut.t {H : Hp} {a b : Addr} {kvs : List (List Key × V)} {k : List Key} {v : V} (e : H a = some (.dT kvs)) (eb : H b = some (.tup (k.map kV))) (hl : kvs.length < sizeLine) :
  DPut H a (.ref b) v (upd H a (.dT (jO kvs k v))) := .inr ⟨kvs, k, b, e, rfl, eb, hl, rfl⟩
section
variable {X : Cx} {pins : List (Addr × Obj)} {σ : St} {H : Hp} {s : Shared} {a : Addr} {y v : V} {u r : Value} {o : Option V} {A : Around} {E : Value -> Shared -> Prop}
theorem Inv.big (I : Inv X pins σ H s) : sysModules < s.heap.objs.size := by
 have h : mainGlobals < s.heap.objs.size := (I.mod.glob.keeps I.bk).lt
 exact Nat.lt_trans (by decide) h
theorem zlw {h' : Heap} {t' : Nat} {ob : HO} (I : Inv X pins σ H s) (mu : Mut (H a)) (hs : Heap.SameBut a s.heap h') (he : ∃ q, h'.get? a = some q) (new : ObjOk X.prog X.w (upd H a ob) h' a ob) :
  Inv X pins σ (upd H a ob) { s with heap := h', toks := t' } :=
 I.write (x := a) (e := a) mu (.inl rfl) (fun b q hb z => (hs.2 b hb).trans z) he new
theorem zzm {P : Program} {w : World} {H' : Hp} {h' : Heap} {kvs : List (Key × V)} {vs : List (Key × Value)} (z : kvs.length <= sizeLine) (hd : (a == sysModules) = false) (rel : KV kvs vs) (dd : h'.DictOf (y4 P w) a vs) :
  ObjOk P w H' h' a (.dK kvs) := ⟨z, hd, vs, rel, dd⟩
theorem znx {H' : Hp} {Q : Unit -> Shared -> Prop} (hu : A.units + 1 < cLine) (I : Inv X pins σ H s) (g : DPut H a y v H') (ry : RelV y u) (rv : RelV v r) (h : ∀ s', Inv X pins σ H' s' -> Q () s') :
  wpAny (model X.prog X.w) A (setItem (.ref a) u r) Q E s := by
 rcases g with ⟨kvs, k, e, ey, l, eH⟩ | ⟨kvs, k, b, e, ey, eb, l, eH⟩
 ·subst ey eH
  obtain ⟨z, hd, vs, rel, dd⟩ := zCf I.hok e
  have hz : vs.length <= sizeLine := by rw [<- rel.length]; exact z
  have hl : (jO kvs k v).length <= sizeLine := by have := v0 kvs k v; lia
  refine wpAny_setItem_pairs (hsz := hz) (zsp ry) dd fun h' dd' hs => h _ ?_
  have he : ∃ q, h'.get? a = some q := let ⟨q, _, _, hq, _⟩ := dd'; ⟨q, hq⟩
  exact zlw I (by rw [e]; exact True.intro) hs he (zzm hl hd (rel.put k rv) dd')
 ·subst ey eH
  cases (show u = Value.ref b from ry)
  obtain ⟨z, hd, xs, rel, dd⟩ := zCe I.hok e
  have hz : xs.length <= sizeLine := by rw [<- Paired.length rel]; exact z
  have hl : (jO kvs k v).length <= sizeLine := by have := v0 kvs k v; lia
  refine wpAny_setItem_heap (hsz := hz) (tupleKind_room_in1 hu) (zka I.hok eb) dd fun h' dd' hs => h _ ?_
  obtain ⟨q, es, ep, hq, h2, h3, h4, _, h5⟩ := dd'
  refine zlw I (by rw [e]; exact True.intro) hs ⟨q, hq⟩ ⟨hl, hd, _, (rel.put k eb rv).keeps fun c ys ec => ?_, q, es, ep, hq, h2, h3, h4, h5⟩
  rw [zW (zok ec e (fun z => nomatch z))]
  exact ec
end
section
variable {X : Cx} {pins : List (Addr × Obj)} {σ : St} {H : Hp} {s : Shared} {a : Addr} {kvs : List (Key × V)} {k : Key} {u : Value} {A : Around} {E : Value -> Shared -> Prop}
end
def zBa (td ty tv : TE) : TS := fun D σ H => tv σ H fun v H1 => td σ H1 fun x H2 => ty σ H2 fun y H3 => ∃ a H4, x = .ref a /\ DPut H3 a y v H4 /\ D.nx σ H4
section
variable {X : Cx} {o i e value : Expr} {pos pos' tpos : Pos} {td ty tv : TE}
theorem zlf (hu : X.A.units + 1 < cLine) (ho : PE X o td) (hi : PE X i ty) (hv : PE X value tv) (hs : swapsWith value (some (.Subscript o i pos')) pos.line X.env = pure false) :
  PS X (.Assign [.Subscript o i pos'] value pos) (zBa td ty tv) := by
 intro pins s σ H D I h
 refine wpAny_Assign_Subscript (thn (hv pins s σ H _ I h) fun r s1 ⟨v, H1, I1, rv, q1⟩ => thn (ho pins s1 σ H1 _ I1 q1) fun u s2 ⟨x, H2, I2, rx, q2⟩ => thn (hi pins s2 σ H2 _ I2 q2) fun iv s3 ⟨y, H3, I3, ry, a, H4, ex, g, q3⟩ => ?_) hs
 subst ex
 obtain rfl : u = Value.ref a := rx
 exact znx hu I3 g ry rv fun s4 I4 => ⟨σ, H4, I4, q3⟩
end
theorem zqr {P : Program} {w : World} {H : Hp} (h : Heap) (hb : sysModules < h.objs.size) : ObjOk P w H (h.push { cls := .type "dict", data := .dict #[] }) h.objs.size (.dT []) :=
 ⟨Nat.zero_le _, beq_eq_false_iff_ne.mpr (Ne.symm (Nat.ne_of_lt hb)), [], .nil, _, #[], 0, Heap.get?_push_size _ rfl, ⟨rfl, rfl, rfl⟩, rfl, rfl, List.nodup_nil⟩
def zxk : TE := fun _ H Q => ∀ p, H p = none -> Q (.ref p) (upd H p (.dT []))
section
variable {X : Cx} {pos : Pos}
theorem zhl : PE X (.Dict [] [] pos) zxk := fun pins s σ H Q I h =>
 wpAny_Dict_empty ⟨.ref s.heap.objs.size, _, I.laid (a := s.heap.objs.size) (o := .dT []) (t' := s.toks) (fun _ _ q => Heap.get?_push_of_some _ q) (Nat.le_refl _) (zqr s.heap I.big), rfl, h _ (I.hok.fresh (Nat.le_refl _))⟩
end
structure M1 (X : Cx) (o : Expr) (m : Str) (apos : Pos) (e : Expr) (cpos : Pos) : Prop where
 base : attributeBase o m X.env (eval o X.env) = eval o X.env
 few : ((backTo cpos (starEach [e] X.env)).all (fun x => !x.1) && (backToKw cpos (keywordEach [] X.env)).all (fun x => x.1.isSome)
  && decide (([e] : List Expr).length + ([] : List Keyword).length + (if ([] : List Keyword).isEmpty then 0 else 1) < 30)) = true
 line : (apos.endLine == cpos.line) = true
 trees : backTo cpos (starEach [e] X.env) = [(false, eval e X.env)]
structure M2 (X : Cx) (o : Expr) (m : Str) (apos : Pos) (e f : Expr) (cpos : Pos) : Prop where
 base : attributeBase o m X.env (eval o X.env) = eval o X.env
 few : ((backTo cpos (starEach [e, f] X.env)).all (fun x => !x.1) && (backToKw cpos (keywordEach [] X.env)).all (fun x => x.1.isSome)
  && decide (([e, f] : List Expr).length + ([] : List Keyword).length + (if ([] : List Keyword).isEmpty then 0 else 1) < 30)) = true
 line : (apos.endLine == cpos.line) = true
 trees : backTo cpos (starEach [e, f] X.env) = [(false, eval e X.env), (false, eval f X.env)]
def IsD (H : Hp) (a : Addr) : Prop := (∃ kvs, Rd H a (.dK kvs)) \/ ∃ kvs, Rd H a (.dT kvs)
theorem zzf {X : Cx} {pins : List (Addr × Obj)} {σ : St} {H : Hp} {s : Shared} {a : Addr} (I : Inv X pins σ H s) (d : IsD H a) :
  s.TypeIs (.ref a) "dict" /\ (∀ b, Value.ref a = .ref b -> ∃ ob, s.heap.get? b = some ob /\ ob.dict = none) /\ (a == sysModules) = false := by
 rcases d with ⟨kvs, e⟩ | ⟨kvs, e⟩
 ·obtain ⟨_, hd, vs, _, dd⟩ := zsu I.hok e
  refine ⟨dd.typeIs, fun b q => ?_, hd⟩
  cases q
  obtain ⟨ob, _, _, h1, h2, _⟩ := dd
  exact ⟨ob, h1, h2.2.1⟩
 ·obtain ⟨_, hd, xs, _, dd⟩ := zss I.hok e
  refine ⟨dd.typeIs, fun b q => ?_, hd⟩
  cases q
  obtain ⟨ob, _, _, h1, h2, _⟩ := dd
  exact ⟨ob, h1, h2.2.1⟩
section
variable {X : Cx} {pins : List (Addr × Obj)} {σ : St} {H : Hp} {s : Shared} {a : Addr} {y d : V} {u r : Value} {o : Option V} {A : Around} {E : Value -> Shared -> Prop}
theorem zzy {Q : Value -> Shared -> Prop} (hu : A.units + 1 < cLine) (I : Inv X pins σ H s) (g : DGet H a y o) (ry : RelV y u) (rd : RelV d r) (h : ∀ w' s', Inv X pins σ H s' -> RelV (o.getD d) w' -> Q w' s') :
  wpAny (model X.prog X.w) A (call (.builtin "dict.get") [.ref a, u, r]) Q E s := by
 rcases g with ⟨kvs, k, e, ey, l⟩ | ⟨kvs, k, b, e, ey, eb, l⟩
 ·subst ey
  obtain ⟨z, hd, vs, rel, dd⟩ := zsu I.hok e
  refine call_meetsIn PySem.F.slot_dict_get dd.typeIs PySem.F.entry_dict_get (PySem.F.args_dict_get_3 _ _ _) (meets_dict_get_default (y4 X.prog X.w) a (zsp ry) hd r) ⟨_, dd.mapOf, h _ _ (I.tok _) ?_⟩
  rw [l]
  exact (rel.val k).getD rd
 ·subst ey
  cases (show u = Value.ref b from ry)
  obtain ⟨z, hd, xs, rel, dd⟩ := zss I.hok e
  refine call_meetsIn PySem.F.slot_dict_get dd.typeIs PySem.F.entry_dict_get (PySem.F.args_dict_get_3 _ _ _) (meetsH_dict_get_default (tupleKind (y4 X.prog X.w)) a b hd r) ⟨tupleKind_room_in1 hu, k, xs, zka I.hok eb, dd, h _ _ (I.tok _) ?_⟩
  rw [l]
  exact (rel.val k).getD rd
end
def zxl (td ty tx : TE) : TE := fun σ H Q => td σ H fun x H1 => ∃ a, x = .ref a /\ IsD H1 a /\ ty σ H1 fun y H2 => tx σ H2 fun z H3 => ∃ o, DGet H3 a y o /\ Q (o.getD z) H3
section
variable {X : Cx} {o e f : Expr} {apos cpos : Pos} {td ty tx : TE}
theorem zhm (hu : X.A.units + 1 < cLine) (ho : PE X o td) (he : PE X e ty) (hf : PE X f tx) (m : M2 X o "get" apos e f cpos) : PE X (.Call (.Attribute o "get" apos) [e, f] [] cpos) (zxl td ty tx) := by
 intro pins s σ H Q I h
 refine wpAny_Call_method m.base m.few m.line PySem.F.plainAttrs_dict PySem.F.slot_dict_get PySem.F.type_dict_get (thn (ho pins s σ H _ I h) fun u s1 ⟨x, H1, I1, rx, a, ex, d, q1⟩ => ?_)
 subst ex
 obtain rfl : u = Value.ref a := rx
 obtain ⟨t1, t2, _⟩ := zzf I1 d
 refine ⟨t1, t2, ?_⟩
 rw [m.trees]
 refine Calls.callWith_builtin rfl (Calls.evalArgs_plain (Calls.spliced_cons (thn (he pins s1 σ H1 _ I1 q1) fun iv s2 ⟨y, H2, I2, ry, q2⟩ =>
  Calls.spliced_cons (thn (hf pins s2 σ H2 _ I2 q2) fun fv s3 ⟨z, H3, I3, rz, ov, g, q3⟩ => Calls.spliced_nil ?_))))
 exact zzy hu I3 g ry rz fun w' s4 I4 rw' => ⟨_, H3, I4, rw', q3⟩
end
section
variable {X : Cx} {pins : List (Addr × Obj)} {σ : St} {H : Hp} {s : Shared} {a : Addr} {kvs : List (Key × V)} {A : Around} {E : Value -> Shared -> Prop}
end
section
variable {X : Cx} {pins : List (Addr × Obj)} {σ : St} {H : Hp} {s : Shared} {a : Addr} {y : V} {u : Value} {A : Around} {E : Value -> Shared -> Prop}
end
section
variable {prog : Program} {w : World} {A : Around} {E : Value -> Shared -> Prop} {s : Shared} {it d v : Addr} {i ep : Nat} {es : Array DictEntry} {o : Obj}
theorem zjb {Q : Value -> Shared -> Prop} (hs : (d == sysModules) = false) (ho : s.heap.get? d = some o) (hx : o.ExactDict)
  (q : Q (.ref s.heap.objs.size) { s with heap := s.heap.push { cls := .type "dict_items", data := .fields #[.ref d] } }) : wpAny (model prog w) A (call (.builtin "dict.items") [.ref d]) Q E s := by
 have ty : s.TypeIs (.ref d) "dict" := ⟨o, ho, hx.1⟩
 refine wpAny_call_entry F.slot_dict_items ty F.entry_dict_items ?_ (F.args_dict_items_1 _)
 unfold Builtin.«dict.items»
 refine wpAny_bind ?_
 unfold Builtin.Dict.noArgs
 refine wpAny_bind (wpAny_notOrdered_dict ty ?_)
 show wpAny _ _ (pure d) _ _ s
 refine wpAny_pure ?_
 show wpAny _ _ (Builtin.Dict.showsAll d >>= _) _ _ s
 unfold Builtin.Dict.showsAll
 rw [if_neg (by rw [hs]; exact Bool.false_ne_true)]
 exact wpAny_bind (wpAny_pure (wpAny_bind (wpAny_newObj_type (wpAny_pure ⟨_, rfl, q⟩))))
theorem zja {Q : Value -> Shared -> Prop} (hv : s.heap.IsItemsView v d) (ho : s.heap.get? d = some o) (hd : o.data = .dict es ep)
  (q : Q (.ref s.heap.objs.size) { s with heap := s.heap.push { cls := .type "dict_itemiterator", data := .fields #[.none, .bool false, .ref d, .int 0 0, .int es.size 0, .int ep 0, .none, .none] } }) :
  wpAny (model prog w) A (pyIter (.ref v)) Q E s := by
 obtain ⟨ov, h1, h2, h3⟩ := id hv
 refine wpAny_pyIter_slot hv.typeIs F.slot_dict_items_iter (wpAny_call_entry F.slot_dict_items_iter hv.typeIs F.entry_dict_items_iter ?_ (F.args_dict_items_iter_1 _))
 unfold Builtin.«dict_items.__iter__»
 refine wpAny_bind (wpAny_pure (wpAny_bind ?_))
 unfold Builtin.Dict_items.dictOf
 refine wpAny_bind (wpAny_field h1 h3 (x := .ref d) rfl (wpAny_pure (wpAny_bind ?_)))
 unfold Builtin.Dict_items.newIterator
 refine wpAny_bind (wpAny_dictEntries ho hd (wpAny_bind (wpAny_dictEpoch ho hd ?_)))
 simp only [show Builtin.Dict_items.ownsTuple "dict_itemiterator" = true from by decide, if_true]
 refine wpAny_newObj_type (wpAny_pure ⟨_, rfl, "dict_itemiterator", _, ⟨_, Heap.get?_push_size _ rfl, rfl⟩, F.slot_dict_itemiterator_next.lookup, ?_⟩) (by simp only [sizeOk, Builtin.Dict_items.ownedTupleFields, List.size_toArray, List.length_append, List.length_cons, List.length_nil, sizeLine_eq]; lia)
 simpa [rawInt, Builtin.Dict_items.ownedTupleFields] using q
theorem ziz {e : DictEntry} {ok ov : Value} {Q : Option Value -> Shared -> Prop} (hit : IsItemIter s.heap it d i es.size ep ok ov) (ho : s.heap.get? d = some o) (hd : o.data = .dict es ep) (hx : es[i]? = some e)
  (q : ∀ h', IsItemIterOut h' it d (i + 1) es.size ep e.key e.val s.heap.objs.size -> h'.get? s.heap.objs.size = some { cls := .type "tuple", data := .seq #[e.key, e.val] } ->
   (∀ b o, b ≠ it -> s.heap.get? b = some o -> h'.get? b = some o) -> Q (some (.ref s.heap.objs.size)) { s with heap := h' }) : wpAny (model prog w) A (pyNext (.ref it)) Q E s := by
 obtain ⟨hp, g, dr, tk, os⟩ := s
 have ty : Shared.TypeIs ⟨hp, g, dr, tk, os⟩ (.ref it) "dict_itemiterator" := ⟨_, hit, rfl⟩
 unfold pyNext
 refine wpAny_bind (wpAny_attempt (wpAny_callSpecial?_slot (name := Str.ofString "__next__") ty F.slot_dict_itemiterator_next (wpAny_call_entry F.slot_dict_itemiterator_next ty F.entry_dict_itemiterator_next ?_ (F.args_dict_itemiterator_next_1 _))))
 refine wpAny_bind (wpAny_pure (wpAny_bind (wpAny_bind (wpAny_bind (wpAny_typeNameOfWhole_itemiter ty (wpAny_pure (wpAny_bind (wpAny_fieldsOf hit rfl ?_))))))))
 simp only [show Builtin.Dict_items.ownsTuple "dict_itemiterator" = true from by decide, if_true]
 show wpAny _ _ (if (Value.ref d == Value.none) = true then _ else _) _ _ _
 rw [if_neg (show ¬ (Value.ref d == Value.none) = true from Bool.false_ne_true)]
 refine wpAny_bind (wpAny_pure (wpAny_bind (wpAny_dictEntries ho hd ?_)))
 rw [if_neg (by simp)]
 refine wpAny_bind (wpAny_pure (wpAny_bind (wpAny_dictEpoch ho hd ?_)))
 rw [if_neg (by simp)]
 refine wpAny_pure ?_
 simp only [show ¬ ((i : Int) < 0) from by lia, if_false, Int.toNat_natCast, hx]
 refine wpAny_bind (wpAny_bind (wpAny_typeNameOfWhole_itemiter ty (wpAny_pure (wpAny_bind (wpAny_isOneOf_itemiter ty ?_)))))
 show wpAny _ _ (setField (.ref it) 3 (rawInt ((i : Int) + 1)) >>= _) _ _ ⟨hp, g, dr, tk, os⟩
 refine wpAny_bind (wpAny_setField_rec hit (by simp) fun g1 e1 b1 => ?_)
 replace b1 : Heap.SameBut it hp g1 := b1
 replace e1 : IsItemIter g1 it d (i + 1) es.size ep ok ov := by
  unfold IsItemIter
  rw [show ((i + 1 : Nat) : Int) = (i : Int) + 1 by lia]
  simpa [rawInt] using e1
 have ty1 : Shared.TypeIs ⟨g1, g, dr, tk, os⟩ (.ref it) "dict_itemiterator" := ⟨_, e1, rfl⟩
 refine wpAny_bind (wpAny_holding (wpAny_bind (wpAny_isOneOf_itemiter ty1 (wpAny_bind (wpAny_isOneOf_itemiter ty1 ?_)))))
 show wpAny _ _ (Builtin.Dict_items.pairFromOwner (.ref it) 6 e.key e.val) _ _ ⟨g1, g, dr, tk, os⟩
 unfold Builtin.Dict_items.pairFromOwner
 refine wpAny_bind (wpAny_newTuple ?_)
 have e2 : IsItemIter (g1.push { cls := .type "tuple", data := .seq #[e.key, e.val] }) it d (i + 1) es.size ep ok ov := Heap.get?_push_of_some _ e1
 have z1 : g1.objs.size = hp.objs.size := b1.1
 have il : it < hp.objs.size := Heap.lt_size hit
 have t2 : (g1.push { cls := .type "tuple", data := .seq #[e.key, e.val] }).get? hp.objs.size = some { cls := .type "tuple", data := .seq #[e.key, e.val] } := by rw [<- z1]; exact Heap.get?_push_size _ rfl
 have k2 : ∀ b o, b ≠ it -> hp.get? b = some o -> (g1.push { cls := .type "tuple", data := .seq #[e.key, e.val] }).get? b = some o := fun b o hb z => Heap.get?_push_of_some _ (b1.extBut b o hb z)
 show wpAny _ _ (Builtin.Dict_items.ownedTupleIsFree (.ref it) >>= _) _ _ ⟨g1.push { cls := .type "tuple", data := .seq #[e.key, e.val] }, g, dr, tk, os⟩
 rw [z1]
 generalize g1.push { cls := .type "tuple", data := .seq #[e.key, e.val] } = g2 at e2 t2 k2
 refine wpAny_bind ?_
 unfold Builtin.Dict_items.ownedTupleIsFree
 refine wpAny_bind (wpAny_field e2 rfl (x := Value.none) rfl (wpAny_pure ?_))
 simp only [if_true]
 refine wpAny_bind (wpAny_field e2 rfl (x := ok) rfl (wpAny_bind (wpAny_field e2 rfl (x := ov) rfl (wpAny_bind (wpAny_setField_rec e2 (by simp) fun g3 e3 b3 => ?_)))))
 replace b3 : Heap.SameBut it g2 g3 := b3
 replace e3 : IsItemIter g3 it d (i + 1) es.size ep e.key ov := e3
 refine wpAny_bind (wpAny_setField_rec e3 (by simp) fun g4 e4 b4 => ?_)
 replace b4 : Heap.SameBut it g3 g4 := b4
 replace e4 : IsItemIter g4 it d (i + 1) es.size ep e.key e.val := e4
 refine wpAny_bind (wpAny_setField_rec e4 (by simp) fun g5 e5 b5 => ?_)
 replace b5 : Heap.SameBut it g4 g5 := b5
 replace e5 : IsItemIterOut g5 it d (i + 1) es.size ep e.key e.val hp.objs.size := e5
 refine wpAny_bind (wpAny_setField_rec e5 (by simp) fun g6 e6 b6 => ?_)
 replace b6 : Heap.SameBut it g5 g6 := b6
 replace e6 : IsItemIterOut g6 it d (i + 1) es.size ep e.key e.val hp.objs.size := e6
 have up : ∀ b o, b ≠ it -> g2.get? b = some o -> g6.get? b = some o := fun b o hb z => b6.extBut b o hb (b5.extBut b o hb (b4.extBut b o hb (b3.extBut b o hb z)))
 exact wpAny_bind (wpAny_letGo (wpAny_pure (wpAny_pure ⟨_, rfl, wpAny_pure (q g6 e6 (up _ _ (Nat.ne_of_gt il) t2) fun b o hb z => up b o hb (k2 b o hb z))⟩)))
theorem znm {ok ov : Value} {Q : Option Value -> Shared -> Prop} (hh : A.handled = none) (hit : IsItemIter s.heap it d i es.size ep ok ov) (ho : s.heap.get? d = some o) (hd : o.data = .dict es ep) (hx : es.size <= i)
  (q : ∀ h', Heap.ExtBut it s.heap h' -> Q none { s with heap := h' }) : wpAny (model prog w) A (pyNext (.ref it)) Q E s := by
 have ty : s.TypeIs (.ref it) "dict_itemiterator" := ⟨_, hit, rfl⟩
 unfold pyNext
 refine wpAny_bind (wpAny_attempt (wpAny_callSpecial?_slot (name := Str.ofString "__next__") ty F.slot_dict_itemiterator_next (wpAny_call_entry F.slot_dict_itemiterator_next ty F.entry_dict_itemiterator_next ?_ (F.args_dict_itemiterator_next_1 _))))
 refine wpAny_bind (wpAny_pure (wpAny_bind (wpAny_bind (wpAny_bind (wpAny_typeNameOfWhole_itemiter ty (wpAny_pure (wpAny_bind (wpAny_fieldsOf hit rfl ?_))))))))
 simp only [show Builtin.Dict_items.ownsTuple "dict_itemiterator" = true from by decide, if_true]
 show wpAny _ _ (if (Value.ref d == Value.none) = true then _ else _) _ _ s
 rw [if_neg (show ¬ (Value.ref d == Value.none) = true from Bool.false_ne_true)]
 refine wpAny_bind (wpAny_pure (wpAny_bind (wpAny_dictEntries ho hd ?_)))
 rw [if_neg (by simp)]
 refine wpAny_bind (wpAny_pure (wpAny_bind (wpAny_dictEpoch ho hd ?_)))
 rw [if_neg (by simp)]
 refine wpAny_pure ?_
 simp only [show ¬ ((i : Int) < 0) from by lia, if_false, Int.toNat_natCast, Array.getElem?_eq_none hx]
 refine wpAny_bind (wpAny_bind (wpAny_typeNameOfWhole_itemiter ty (wpAny_pure ?_)))
 show wpAny _ _ (setField (.ref it) 2 .none >>= _) _ _ s
 refine wpAny_bind (wpAny_setField hit rfl (by simp) ?_)
 show wpAny _ _ (newExc (.type "StopIteration") [] >>= _) _ _ _
 refine wpAny_bind ?_
 simp only [newExc, newTuple]
 refine wpAny_bind (wpAny_newObj_type (wpAny_bind (m := firstArgMember _ _) (wpAny_of_eq (a := Value.none) (by first | rfl | (simp only [firstArgMember]; rfl)) (wpAny_newObj_type ?_ (by size_fits)))) (by size_fits))
 simp only [raiseNew]
 refine wpAny_bind (wpAny_handled ?_)
 rw [show A.in1.handled = none from hh]
 refine wpAny_bind (wpAny_pure (wpAny_throw ?_))
 exact wpAny_bind (wpAny_isInstance (T := "StopIteration") (b := true) ⟨_, Heap.get?_push_size _ rfl, rfl⟩ isSubtype_stop (wpAny_pure (q _ (((Heap.SameBut.update ..).extBut.push _).push _))))
end
abbrev qG := List (List Key × V)
section
variable {X : Cx} {pins : List (Addr × Obj)} {σ : St} {H : Hp} {s : Shared} {d : Addr} {kvs : qG}
theorem KT.at {H : Hp} : ∀ {kvs : qG} {xs : List (List Key × Addr × Value)} {i : Nat} {k : List Key} {v : V}, KT H kvs xs -> kvs[i]? = some (k, v) -> ∃ b u, xs[i]? = some (k, b, u) /\ H b = some (.tup (k.map kV)) /\ RelV v u
 | _, _, _, _, _, .nil, e => by simp at e
 | _, _, 0, k, v, .cons (a := p) (b := q) r _, e => by
  simp at e
  subst e
  obtain ⟨r1, r2, r3⟩ := r
  obtain ⟨q1, q2, q3⟩ := q
  cases (show k = q1 from r1)
  exact ⟨q2, q3, by simp, r2, r3⟩
 | _, _, i + 1, k, v, .cons _ t, e => by
  obtain ⟨b, u, h1, h2⟩ := KT.at (i := i) t (by simpa using e)
  exact ⟨b, u, by simpa using h1, h2⟩
theorem zfo {o : Obj} (I : Inv X pins σ H s) (h : H d = some (.frz o (.dT kvs))) : s.heap.get? d = some o /\ ∃ xs es ep, KT H kvs xs /\ o.ExactDict /\ o.data = .dict es ep /\ es.toList = xs.map (entryOfKey (tupleKind (y4 X.prog X.w))) := by
 obtain ⟨g, z, y, xs, r, o', es, ep, g', h1, h2, h3, _⟩ := I.hok d _ h
 rw [g] at g'
 cases g'
 exact ⟨g, xs, es, ep, r, h1, h2, h3⟩
theorem zzh {o : Obj} {es : Array DictEntry} {ep : Nat} (I : Inv X pins σ H s) (h : H d = some (.frz o (.dT kvs))) (hd : o.data = .dict es ep) {i : Nat} {k : List Key} {v : V} (e : kvs[i]? = some (k, v)) :
  ∃ en b, es[i]? = some en /\ en.key = .ref b /\ H b = some (.tup (k.map kV)) /\ RelV v en.val := by
 obtain ⟨g, xs, es', ep', r, h1, h2, h3⟩ := zfo I h
 rw [hd] at h2
 cases h2
 obtain ⟨b, u, e1, e2, e3⟩ := KT.at r e
 have e4 : es.toList[i]? = some (entryOfKey (tupleKind (y4 X.prog X.w)) (k, b, u)) := by rw [h3, List.getElem?_map, e1]; rfl
 exact ⟨_, b, by rw [Array.getElem?_toList] at e4; exact e4, rfl, e2, e3⟩
theorem Inv.freeze (I : Inv X pins σ H s) (h : H d = some (.dT kvs)) : ∃ o es ep, s.heap.get? d = some o /\ o.ExactDict /\ o.data = .dict es ep /\ (d == sysModules) = false /\ es.size = kvs.length /\ Inv X pins σ (upd H d (.frz o (.dT kvs))) s := by
 obtain ⟨z, y, xs, r, o, es, ep, g, h1, h2, h3, h4⟩ := I.hok d _ h
 refine ⟨o, es, ep, g, h1, h2, y, ?_, ?_⟩
 ·have := congrArg List.length h3
  rw [List.length_map, <- Paired.length r] at this
  simpa using this
 ·refine I.write (x := d) (e := d) (h' := s.heap) (t' := s.toks) (by rw [h]; exact True.intro) (.inl rfl) (fun _ _ _ q => q) ⟨o, g⟩ ⟨g, z, y, xs, KT.keeps r fun c ys ec => ?_, o, es, ep, g, h1, h2, h3, h4⟩
  rw [zW (zok ec h (fun z => nomatch z))]
  exact ec
end
def jM (v d : Addr) : HO := .ext fun h => h.IsItemsView v d
section
variable {X : Cx}
def zye : V -> List V -> Hp -> VK -> Prop := fun x xs H Q => ∃ d kvs, x = .ref d /\ xs = [] /\ H d = some (.dT kvs) /\ ∀ v, H v = none -> Q (.ref v) (upd H v (jM v d))
theorem zhp : MtR X "dict.items" zye := by
 intro pins s σ H x xs v us Q I rx r h
 obtain ⟨d, kvs, rfl, rfl, hd, q⟩ := h
 cases (show v = Value.ref d from rx)
 cases Vals.zero r
 obtain ⟨z, y, ys, rr, o, es, ep, g, h1, h2, h3, h4⟩ := I.hok d _ hd
 refine zjb y g h1 ⟨.ref s.heap.objs.size, _, I.laid (t' := s.toks) (o := jM s.heap.objs.size d) (fun b ob q => Heap.get?_push_of_some _ q) (Nat.le_refl _) ?_, rfl, q _ (I.hok.fresh (Nat.le_refl _))⟩
 exact ⟨⟨_, Heap.get?_push_size _ rfl, rfl, rfl⟩, ⟨_, Heap.get?_push_size _ rfl⟩, fun h1 h2 p k => let ⟨u, e, r⟩ := p; ⟨u, k _ e, r⟩⟩
end
def zAn (d : Addr) (o : Obj) (kvs : qG) : It :=
 ⟨fun i H => H d = some (.frz o (.dT kvs)) /\ i < kvs.length, fun i H x H' => ∃ T b k v, x = .ref T /\ H T = none /\ kvs[i]? = some (k, v) /\ H b = some (.tup (k.map kV)) /\ H' = upd H T (.tup [.ref b, v]), fun i H => H d = some (.frz o (.dT kvs)) /\ kvs.length <= i⟩
theorem zsy {P : Program} {w : World} {K : PySem.W.Frag} {elts : List Expr} {x1 : Nat} {tpos : Pos} (d it : Addr) (o : Obj) (es : Array DictEntry) (ep : Nat) (kvs : qG) (hd : o.data = .dict es ep) (hn : es.size = kvs.length) :
  zov P w K (.Tuple elts x1 tpos) (zAn d o kvs) [it] it (fun i h => ∃ ok ov, IsItemIter h it d i es.size ep ok ov) where
 mem := by simp
 obj := fun i h st b hb => by
  have e : b = it := by simpa using hb
  subst e
  obtain ⟨_, _, e⟩ := st
  exact ⟨_, e, fun v z => by cases z⟩
 keep := fun i h h' st k => let ⟨ok, ov, e⟩ := st; ⟨ok, ov, k it (by simp) _ e⟩
 item := by
  intro X hP hw hK hc i pins s σ H E I hf st hg
  subst hP hw hK
  obtain ⟨hq, hi⟩ := hg
  obtain ⟨ok, ov, st⟩ := st
  obtain ⟨g, _⟩ := zfo I hq
  obtain ⟨⟨k, v⟩, ek⟩ : ∃ p, kvs[i]? = some p := ⟨kvs[i], by simp [hi]⟩
  obtain ⟨en, b, e1, e2, e3, e4⟩ := zzh I hq hd ek
  refine ziz st g hd e1 fun h' a1 a2 a3 => ⟨_, rfl, ?_⟩
  refine wpAny_letOwnedTupleGo_items (s := { s with heap := h' }) a1 fun h2 b1 b2 => ?_
  replace b2 : Heap.SameBut it h' h2 := b2
  have el : it < s.heap.objs.size := Heap.lt_size st
  have kk : ∀ b o, b ∉ [it] -> s.heap.get? b = some o -> h2.get? b = some o := fun b o hb q => by
   simp at hb
   exact b2.extBut b o hb (a3 b o hb q)
  have tt : h2.get? s.heap.objs.size = some { cls := .type "tuple", data := .seq #[en.key, en.val] } := b2.extBut _ _ (Nat.ne_of_gt el) a2
  have fr : H s.heap.objs.size = none := I.hok.fresh (Nat.le_refl _)
  refine ⟨.ref s.heap.objs.size, upd H s.heap.objs.size (.tup [.ref b, v]), I.turnNew (t' := s.toks) hf kk (Nat.le_refl _) ?_, rfl, ⟨_, b, k, v, rfl, fr, ek, e3, rfl⟩, ⟨_, _, b1⟩, fun c hc => ?_⟩
  ·exact ⟨by show 2 <= sizeLine; decide, [en.key, en.val], .cons e2 (.cons e4 .nil), ⟨_, tt, rfl, 0, rfl⟩⟩
  ·rw [zW]
   ·exact (hf c hc).1
   ·rw [List.mem_singleton.mp hc]
    exact Nat.ne_of_lt el
 done := by
  intro X hP hw hK hc i pins s σ H E I hf st hg
  subst hP hw hK
  obtain ⟨hq, hi⟩ := hg
  obtain ⟨ok, ov, st⟩ := st
  obtain ⟨g, _⟩ := zfo I hq
  exact znm (I.ok.hd hc) st g hd (by lia) fun h' q => ⟨rfl, I.turnM (t' := s.toks) hf fun b o hb z => q b o (fun y => hb (by simp [y])) z⟩
 self := fun _ _ _ _ _ st h => let ⟨_, _, he⟩ := st; PySem.W.kcp_self he h
def iDI (tv : TE) : TI := fun σ H R => tv σ H fun x H1 => ∃ v d kvs, x = .ref v /\ H1 v = some (jM v d) /\ H1 d = some (.dT kvs) /\ ∀ o, R (zAn d o kvs) (upd H1 d (.frz o (.dT kvs)))
theorem zdr {X : Cx} {elts : List Expr} {x1 : Nat} {tpos : Pos} {l : Expr} {tl : TE} (hl : PE X l tl) : PI X (.Tuple elts x1 tpos) l (iDI tl) := by
 intro pins s σ H R I h
 refine thn (hl pins s σ H _ I h) fun u s1 ⟨x, H1, I1, r1, q1⟩ => ?_
 obtain ⟨v, d, kvs, rfl, hv, hq, q⟩ := q1
 cases (show u = Value.ref v from r1)
 obtain ⟨vw, _⟩ := I1.hok v _ hv
 obtain ⟨o, es, ep, g, y1, y2, y, hn, I2⟩ := I1.freeze hq
 refine zja vw g y2 ?_
 refine ⟨s1.heap.objs.size, [s1.heap.objs.size], _, _, upd H1 d (.frz o (.dT kvs)), rfl, I2.kept (t' := s1.toks) fun b o e => Heap.get?_push_of_some _ e, zsy d _ o es ep kvs y2 hn, ⟨_, _, Heap.get?_push_size _ rfl⟩, fun b hb => ?_, q o⟩
 have e : b = s1.heap.objs.size := by simpa using hb
 subst e
 exact I2.fpOk (Nat.le_refl _) (I2.hok.fresh (Nat.le_refl _))
theorem zma {d : Addr} {o : Obj} {kvs : qG} {g : TG} {tt : TT} {te : TE} {fin : List V -> Hp -> Prop} {σ : St} {H : Hp} (S : St -> Prop) (Pv : Nat -> List V -> Hp -> Prop) (hσ : S σ) (h0 : Pv 0 [] H) (hz : kvs.length < sizeLine)
  (hl : ∀ i ys H, Pv i ys H -> H d = some (.frz o (.dT kvs)))
  (hs : ∀ (i : Nat) (T b : Addr) (k : List Key) (v : V) (ys : List V) (σ : St) (H : Hp) (N : List V -> St -> Hp -> Prop), kvs[i]? = some (k, v) -> H T = none -> H b = some (.tup (k.map kV)) -> S σ -> Pv i ys H -> (∀ ys' σ' H', S σ' -> Pv (i + 1) ys' H' -> ys'.length <= ys.length + 1 -> N ys' σ' H') ->
   g (.ref T) σ (upd H T (.tup [.ref b, v])) fun σ2 H2 => tt σ2 H2 fun b H3 => if b = true then te σ2 H3 fun y H4 => N (ys ++ [y]) σ2 H4 else N ys σ2 H3)
  (hd : ∀ ys H, Pv kvs.length ys H -> fin ys H) : ∃ W, zjn (zAn d o kvs) g tt te fin W /\ ∃ m, W 0 m [] σ H := by
 refine ⟨fun i m ys σ H => m = kvs.length - i /\ i <= kvs.length /\ ys.length <= i /\ S σ /\ Pv i ys H, ?_, kvs.length, by simp, Nat.zero_le _, Nat.le_refl _, hσ, h0⟩
 rintro i m ys σ H ⟨rfl, hi, hy, hS, p⟩
 by_cases hlt : i < kvs.length
 ·refine .inr ⟨⟨hl i ys H p, hlt⟩, by lia, fun x H' y => ?_⟩
  obtain ⟨T, b, k, v, rfl, hT, ek, eb, rfl⟩ := y
  exact hs i T b k v ys σ _ (fun ys' σ' H'' => ∃ m', m' < kvs.length - i /\ m' = kvs.length - (i + 1) /\ i + 1 <= kvs.length /\ ys'.length <= i + 1 /\ S σ' /\ Pv (i + 1) ys' H'') ek hT eb hS p (fun ys' σ' H'' a b c => ⟨_, by lia, rfl, hlt, by lia, a, b⟩)
 ·have e : i = kvs.length := by lia
  subst e
  exact .inl ⟨⟨hl _ ys H p, Nat.le_refl _⟩, by lia, hd ys H p⟩
end L2
namespace L2
open PySem PySem.W PyProof.Rows
inductive Ran (lt : Nat -> Nat -> Bool) (N : Nat) {α : Type} : KasT α -> α -> Prop
 | ret (a : α) : Ran lt N (.ret a) a
 | ask {i j : Nat} {k : Bool -> KasT α} {a : α} (hi : i < N) (hj : j < N) (h : Ran lt N (k (lt i j)) a) : Ran lt N (.ask i j k) a
theorem Ran.bind {lt : Nat -> Nat -> Bool} {N : Nat} {α β : Type} {t : KasT α} {a : α} {f : α -> KasT β} {b : β} (h : Ran lt N t a) (h2 : Ran lt N (f a) b) : Ran lt N (t.bind f) b := by
 induction h with
 | ret a => exact h2
 | ask hi hj _ ih => exact .ask hi hj (ih h2)
theorem Ran.wp {lt : Nat -> Nat -> Bool} {N : Nat} {α : Type} {t : KasT α} {a : α} {cmp : Nat -> Nat -> (Bool -> Shared -> Prop) -> Shared -> Prop} {s : Shared} {Q : α -> Shared -> Prop} (h : Ran lt N t a)
  (hc : ∀ i j C, i < N -> j < N -> C (lt i j) s -> cmp i j C s) (q : Q a s) : t.kasWp cmp Q s := by
 induction h with
 | ret a => exact q
 | ask hi hj _ ih => exact hc _ _ _ hi hj (ih q)
structure Ord (lt : Nat -> Nat -> Bool) : Prop where
 as : ∀ i j, lt i j = true -> lt j i = false
 tr : ∀ i j k, lt j i = false -> lt k j = false -> lt k i = false
theorem Ord.rf {lt : Nat -> Nat -> Bool} (o : Ord lt) (i : Nat) : lt i i = false := by
 cases h : lt i i with
 | false => rfl
 | true => have := o.as i i h; rw [h] at this; exact this
structure PB (N : Nat) (p : Array Nat) : Prop where
 perm : p.Perm (List.range N).toArray
theorem PB.size {N : Nat} {p : Array Nat} (h : PB N p) : p.size = N := by have := h.perm.size_eq; simpa using this
theorem PB.lt {N : Nat} {p : Array Nat} (h : PB N p) {i : Nat} (hi : i < N) : p.getD i 0 < N := by
 have hs : i < p.size := by rw [h.size]; exact hi
 have e : p.getD i 0 = p[i] := by simp [Array.getD, hs]
 rw [e]
 have hm : p[i] ∈ p := Array.getElem_mem hs
 have := h.perm.mem_iff.mp hm
 simpa using this
theorem PB.rev {N : Nat} {p : Array Nat} (h : PB N p) (i j : Nat) : PB N (kas_rev p i j) := ⟨(mirror_perm p i j _).trans h.perm⟩
theorem PB.bub {N : Nat} {p : Array Nat} (h : PB N p) (i j : Nat) : PB N (bubble p i j) := ⟨(bubble_perm p i j).trans h.perm⟩
theorem kX {xs ys : Array Nat} {i j : Nat} (h : xs[i]? = ys[j]?) : xs.getD i 0 = ys.getD j 0 := by
 rw [Array.getD_eq_getD_getElem?, Array.getD_eq_getD_getElem?, h]
theorem xA {N : Nat} {p : Array Nat} (h : PB N p) {i j : Nat} (hj : j <= N) (k : Nat) : (kas_rev p i j).getD k 0 = if i <= k /\ k < j then p.getD (i + j - 1 - k) 0 else p.getD k 0 := by
 have e := getElem?_mirror_all (xs := p) (i := i) (j := j) (by rw [h.size]; exact hj) k
 unfold kas_rev
 by_cases c : i <= k /\ k < j
 ·rw [if_pos c] at e ⊢; exact kX e
 ·rw [if_neg c] at e ⊢; exact kX e
theorem zdf {N : Nat} {p : Array Nat} (h : PB N p) {k l : Nat} (hk : k < N) (hl : l <= k) (i : Nat) :
  (bubble p k (k - l)).getD i 0 = if i = l then p.getD k 0 else if l < i /\ i <= k then p.getD (i - 1) 0 else p.getD i 0 := by
 have e := getElem?_bubble (xs := p) (src := k) (by rw [h.size]; exact hk) (k - l) (by lia) i
 rw [show k - (k - l) = l by lia] at e
 by_cases c : i = l
 ·rw [if_pos c] at e ⊢; exact kX e
 ·rw [if_neg c] at e ⊢
  by_cases c2 : l < i /\ i <= k
  ·rw [if_pos c2] at e ⊢; exact kX e
  ·rw [if_neg c2] at e ⊢; exact kX e
section
variable {lt : Nat -> Nat -> Bool} {N : Nat}
def Up (lt : Nat -> Nat -> Bool) (p : Array Nat) (m : Nat) : Prop := ∀ i j, i <= j -> j < m -> lt (p.getD j 0) (p.getD i 0) = false
def zep (lt : Nat -> Nat -> Bool) (p : Array Nat) (m : Nat) : Prop := ∀ i j, i <= j -> j < m -> lt (p.getD i 0) (p.getD j 0) = false
def zoy (lt : Nat -> Nat -> Bool) (p : Array Nat) (a b : Nat) : Prop := ∀ i j, a <= i -> i < b -> a <= j -> j < b -> lt (p.getD i 0) (p.getD j 0) = false
theorem zsw (o : Ord lt) {p : Array Nat} {n : Nat} (h : Up lt p n) (n1 : 1 <= n) (c : lt (p.getD n 0) (p.getD (n - 1) 0) = false) : Up lt p (n + 1) := by
 intro i j hij hj
 by_cases e : j = n
 ·subst e
  by_cases e2 : i = j
  ·subst e2; exact o.rf _
  ·exact o.tr _ _ _ (h i (j - 1) (by lia) (by lia)) c
 ·exact h i j hij (by lia)
theorem w5 (o : Ord lt) {p : Array Nat} {n : Nat} (h : zep lt p n) (n1 : 1 <= n) (c : lt (p.getD (n - 1) 0) (p.getD n 0) = false) : zep lt p (n + 1) := by
 intro i j hij hj
 by_cases e : j = n
 ·subst e
  by_cases e2 : i = j
  ·subst e2; exact o.rf _
  ·exact o.tr _ _ _ c (h i (j - 1) (by lia) (by lia))
 ·exact h i j hij (by lia)
theorem zfb (o : Ord lt) {p : Array Nat} (B : PB N p) : ∀ (f n : Nat), 1 <= n -> n + f <= N -> Up lt p n -> ∃ m, Ran lt N (kas_asc p f n) m /\ n <= m /\ m <= n + f /\ Up lt p m /\ (m = n + f \/ (m < N /\ lt (p.getD m 0) (p.getD (m - 1) 0) = true))
 | 0, n, _, _, h => ⟨n, .ret n, Nat.le_refl _, Nat.le_refl _, h, .inl rfl⟩
 | f + 1, n, n1, hf, h => by
  have b1 := B.lt (i := n) (by lia)
  have b2 := B.lt (i := n - 1) (by lia)
  cases c : lt (p.getD n 0) (p.getD (n - 1) 0) with
  | true =>
   refine ⟨n, .ask b1 b2 ?_, Nat.le_refl _, by lia, h, .inr ⟨by lia, c⟩⟩
   rw [c]
   exact .ret n
  | false =>
   obtain ⟨m, r, m1, m2, u, z⟩ := zfb o B f (n + 1) (by lia) (by lia) (zsw o h n1 c)
   refine ⟨m, .ask b1 b2 ?_, by lia, by lia, u, ?_⟩
   ·rw [c]; exact r
   ·rcases z with z | z
    ·exact .inl (by lia)
    ·exact .inr z
theorem zdz (o : Ord lt) {p : Array Nat} (B : PB N p) {n q : Nat} (hn : n <= N) (hq : q + 1 <= n) (h : zep lt p n) (fl : zoy lt p (n - (q + 1)) n) : zep lt (kas_rev p (n - (q + 1)) n) n := by
 intro i j hij hj
 rw [xA B hn, xA B hn]
 by_cases c1 : n - (q + 1) <= i /\ i < n
 ·rw [if_pos c1, if_pos (by lia)]
  exact fl _ _ (by lia) (by lia) (by lia) (by lia)
 ·rw [if_neg c1]
  by_cases c2 : n - (q + 1) <= j /\ j < n
  ·rw [if_pos c2]
   exact h _ _ (by lia) (by lia)
  ·rw [if_neg c2]
   exact h _ _ hij hj
theorem kD (o : Ord lt) : ∀ (f : Nat) (p : Array Nat) (n q : Nat), PB N p -> q + 1 <= n -> n + f <= N -> zep lt p n -> zoy lt p (n - (q + 1)) n ->
  ∃ p' n' q', Ran lt N (kas_desc f p n q) (p', n', q') /\ PB N p' /\ n <= n' /\ n' <= n + f /\ q' + 1 <= n' /\ zep lt p' n' /\ zoy lt p' (n' - (q' + 1)) n'
 | 0, p, n, q, B, hq, hf, h, fl => ⟨p, n, q, .ret _, B, Nat.le_refl _, Nat.le_refl _, hq, h, fl⟩
 | f + 1, p, n, q, B, hq, hf, h, fl => by
  have b1 := B.lt (i := n) (by lia)
  have b2 := B.lt (i := n - 1) (by lia)
  cases c : lt (p.getD n 0) (p.getD (n - 1) 0) with
  | true =>
   have c' := o.as _ _ c
   by_cases q0 : q > 0
   ·have B1 := B.rev (n - (q + 1)) n
    have d1 := zdz o B (by lia) hq h fl
    have en : (kas_rev p (n - (q + 1)) n).getD n 0 = p.getD n 0 := by rw [xA B (by lia), if_neg (by lia)]
    have el : (kas_rev p (n - (q + 1)) n).getD (n - 1) 0 = p.getD (n - (q + 1)) 0 := by
     rw [xA B (by lia), if_pos (by lia)]
     congr 1
     lia
    have d2 : zep lt (kas_rev p (n - (q + 1)) n) (n + 1) := w5 o d1 (by lia) (by
     rw [en, el]
     exact o.tr _ _ _ c' (h _ _ (by lia) (by lia)))
    obtain ⟨p', n', q', r, z1, z2, z3, z4, z5, z6⟩ := kD o f _ (n + 1) 0 B1 (by lia) (by lia) d2 (fun i j i1 i2 j1 j2 => by
     have : i = j := by lia
     subst this; exact o.rf _)
    refine ⟨p', n', q', .ask b1 b2 ?_, z1, by lia, by lia, z4, z5, z6⟩
    rw [c]
    simp only [if_true, if_pos q0]
    exact r
   ·obtain ⟨p', n', q', r, z1, z2, z3, z4, z5, z6⟩ := kD o f p (n + 1) 0 B (by lia) (by lia) (w5 o h (by lia) c') (fun i j i1 i2 j1 j2 => by
     have : i = j := by lia
     subst this; exact o.rf _)
    refine ⟨p', n', q', .ask b1 b2 ?_, z1, by lia, by lia, z4, z5, z6⟩
    rw [c]
    simp only [if_true, if_neg q0]
    exact r
  | false =>
   cases c2 : lt (p.getD (n - 1) 0) (p.getD n 0) with
   | true =>
    refine ⟨p, n, q, .ask b1 b2 ?_, B, Nat.le_refl _, by lia, hq, h, fl⟩
    rw [c]
    simp only [Bool.false_eq_true, if_false]
    refine .ask b2 b1 ?_
    rw [c2]
    simp only [if_true]
    exact .ret _
   | false =>
    have fl2 : zoy lt p (n + 1 - (q + 1 + 1)) (n + 1) := by
     intro i j i1 i2 j1 j2
     by_cases ei : i = n
     ·subst ei
      by_cases ej : j = i
      ·subst ej; exact o.rf _
      ·exact o.tr _ _ _ (fl (i - 1) j (by lia) (by lia) (by lia) (by lia)) c
     ·by_cases ej : j = n
      ·subst ej
       exact o.tr _ _ _ c2 (fl i (j - 1) (by lia) (by lia) (by lia) (by lia))
      ·exact fl i j (by lia) (by lia) (by lia) (by lia)
    obtain ⟨p', n', q', r, z1, z2, z3, z4, z5, z6⟩ := kD o f p (n + 1) (q + 1) B (by lia) (by lia) (w5 o h (by lia) c2) fl2
    refine ⟨p', n', q', .ask b1 b2 ?_, z1, by lia, by lia, z4, z5, z6⟩
    rw [c]
    simp only [Bool.false_eq_true, if_false]
    refine .ask b2 b1 ?_
    rw [c2]
    simp only [Bool.false_eq_true, if_false]
    exact r
theorem zxf {p : Array Nat} (B : PB N p) {n : Nat} (hn : n <= N) (h : zep lt p n) : Up lt (kas_rev p 0 n) n := by
 intro i j hij hj
 rw [xA B hn, xA B hn, if_pos (by lia), if_pos (by lia)]
 exact h _ _ (by lia) (by lia)
theorem zdo (o : Ord lt) {p : Array Nat} (B : PB N p) {n : Nat} (n1 : 1 <= n) (hn : n <= N) (h : zep lt p n) : ∃ m p', Ran lt N (kas_tail3 n N p) (m, p') /\ PB N p' /\ 1 <= m /\ m <= N /\ Up lt p' m := by
 obtain ⟨m, r, m1, m2, u, _⟩ := zfb o (B.rev 0 n) (N - n) n n1 (by lia) (zxf B hn h)
 exact ⟨m, _, r.bind (.ret _), B.rev 0 n, by lia, by lia, u⟩
theorem jV (o : Ord lt) {p : Array Nat} (B : PB N p) {n : Nat} (hn : n + 1 <= N) (h : zep lt p (n + 1)) : ∃ m p', Ran lt N (kas_descPart n N p) (m, p') /\ PB N p' /\ 1 <= m /\ m <= N /\ Up lt p' m := by
 obtain ⟨p', n', q', r, z1, z2, z3, z4, z5, z6⟩ := kD o (N - (n + 1)) p (n + 1) 0 B (by lia) (by lia) h (fun i j i1 i2 j1 j2 => by
  have : i = j := by lia
  subst this; exact o.rf _)
 by_cases q0 : q' > 0
 ·obtain ⟨m, p2, r2, y⟩ := zdo o (z1.rev (n' - (q' + 1)) n') (n := n') (by lia) (by lia) (zdz o z1 (by lia) z4 z5 z6)
  exact ⟨m, p2, r.bind (by rw [if_pos q0]; exact r2), y⟩
 ·obtain ⟨m, p2, r2, y⟩ := zdo o z1 (n := n') (by lia) (by lia) z5
  exact ⟨m, p2, r.bind (by rw [if_neg q0]; exact r2), y⟩
theorem zmx (o : Ord lt) {p : Array Nat} (B : PB N p) (hN : 1 <= N) : ∃ m p', Ran lt N (kas_count N p) (m, p') /\ PB N p' /\ 1 <= m /\ m <= N /\ Up lt p' m := by
 obtain ⟨n, r, n1, n2, u, z⟩ := zfb o B (N - 1) 1 (Nat.le_refl _) (by lia) (fun i j hij hj => by
  have : i = j := by lia
  subst this; exact o.rf _)
 by_cases e : n = N
 ·exact ⟨n, p, r.bind (by rw [if_pos (by simp [e])]; exact .ret _), B, n1, by lia, u⟩
 ·have zz : n < N /\ lt (p.getD n 0) (p.getD (n - 1) 0) = true := by
   rcases z with z | z
   ·lia
   ·exact z
  have c' := o.as _ _ zz.2
  by_cases g : n > 1
  ·cases c : lt (p.getD 0 0) (p.getD (n - 1) 0) with
   | true =>
    refine ⟨n, p, r.bind ?_, B, n1, by lia, u⟩
    rw [if_neg (by simp [e]), if_pos g]
    refine .ask (B.lt (by lia)) (B.lt (by lia)) ?_
    rw [c]
    simp only [if_true]
    exact .ret _
   | false =>
    have alike : ∀ i j, i < n -> j < n -> lt (p.getD i 0) (p.getD j 0) = false := by
     intro i j hi hj
     have a1 : lt (p.getD i 0) (p.getD 0 0) = false := u 0 i (by lia) hi
     have a2 : lt (p.getD (n - 1) 0) (p.getD j 0) = false := u j (n - 1) (by lia) (by lia)
     exact o.tr _ _ _ a2 (o.tr _ _ _ c a1)
    have dn : zep lt (kas_rev p 0 n) (n + 1) := by
     refine w5 o (fun i j hij hj => ?_) n1 ?_
     ·rw [xA B (by lia), xA B (by lia), if_pos (by lia), if_pos (by lia)]
      exact alike _ _ (by lia) (by lia)
     ·rw [xA B (by lia), xA B (by lia), if_pos (by lia), if_neg (by lia)]
      exact o.tr _ _ _ c' (alike _ _ (by lia) (by lia))
    obtain ⟨m, p2, r2, y⟩ := jV o (B.rev 0 n) (n := n) (by lia) dn
    refine ⟨m, p2, r.bind ?_, y⟩
    rw [if_neg (by simp [e]), if_pos g]
    refine .ask (B.lt (by lia)) (B.lt (by lia)) ?_
    rw [c]
    simp only [Bool.false_eq_true, if_false]
    exact r2
  ·obtain rfl : n = 1 := by lia
   have dn : zep lt p (1 + 1) := w5 o (fun i j hij hj => by
    have : i = j := by lia
    subst this; exact o.rf _) (Nat.le_refl _) c'
   obtain ⟨m, p2, r2, y⟩ := jV o B (n := 1) (by lia) dn
   exact ⟨m, p2, r.bind (by rw [if_neg (by simp [e]), if_neg g]; exact r2), y⟩
theorem gA (o : Ord lt) {p : Array Nat} (B : PB N p) {k : Nat} (hk : k < N) (u : Up lt p k) : ∀ (f l r : Nat), l <= r -> r <= k -> r - l <= f -> (∀ i, i < l -> lt (p.getD k 0) (p.getD i 0) = false) -> (∀ i, r <= i -> i < k -> lt (p.getD i 0) (p.getD k 0) = false) ->
  ∃ m, Ran lt N (kas_place p k f l r) m /\ m <= k /\ (∀ i, i < m -> lt (p.getD k 0) (p.getD i 0) = false) /\ (∀ i, m <= i -> i < k -> lt (p.getD i 0) (p.getD k 0) = false)
 | 0, l, r, h1, h2, h3, a, b => ⟨l, .ret _, by lia, a, fun i i1 i2 => b i (by lia) i2⟩
 | f + 1, l, r, h1, h2, h3, a, b => by
  by_cases g : l >= r
  ·refine ⟨l, ?_, by lia, a, fun i i1 i2 => b i (by lia) i2⟩
   unfold kas_place
   rw [if_pos g]
   exact .ret _
  ·cases c : lt (p.getD k 0) (p.getD ((l + r) / 2) 0) with
   | true =>
    obtain ⟨m, rr, y⟩ := gA o B hk u f l ((l + r) / 2) (by lia) (by lia) (by lia) a (fun i i1 i2 => o.tr _ _ _ (o.as _ _ c) (u _ _ i1 i2))
    refine ⟨m, ?_, y⟩
    unfold kas_place
    rw [if_neg g]
    refine .ask (B.lt hk) (B.lt (by lia)) ?_
    rw [c]
    simp only [if_true]
    exact rr
   | false =>
    obtain ⟨m, rr, y⟩ := gA o B hk u f ((l + r) / 2 + 1) r (by lia) (by lia) (by lia) (fun i i1 => o.tr _ _ _ (u i ((l + r) / 2) (by lia) (by lia)) c) b
    refine ⟨m, ?_, y⟩
    unfold kas_place
    rw [if_neg g]
    refine .ask (B.lt hk) (B.lt (by lia)) ?_
    rw [c]
    simp only [Bool.false_eq_true, if_false]
    exact rr
theorem zle (o : Ord lt) : ∀ (f : Nat) (p : Array Nat) (k : Nat), PB N p -> k + f <= N -> Up lt p k -> ∃ p', Ran lt N (kas_bin f p k) p' /\ PB N p' /\ Up lt p' (k + f)
 | 0, p, k, B, _, u => ⟨p, .ret _, B, u⟩
 | f + 1, p, k, B, hf, u => by
  have hk : k < N := by lia
  obtain ⟨l, r, hl, a, b⟩ := gA o B hk u k 0 k (Nat.zero_le _) (Nat.le_refl _) (by lia) (fun i hi => absurd hi (by lia)) (fun i i1 i2 => absurd i2 (by lia))
  have u2 : Up lt (bubble p k (k - l)) (k + 1) := by
   intro i j hij hj
   rw [zdf B hk hl, zdf B hk hl]
   by_cases ej : j = l
   ·rw [if_pos ej]
    by_cases ei : i = l
    ·rw [if_pos ei]; exact o.rf _
    ·rw [if_neg ei, if_neg (by lia)]
     exact a i (by lia)
   ·rw [if_neg ej]
    by_cases cj : l < j /\ j <= k
    ·rw [if_pos cj]
     by_cases ei : i = l
     ·rw [if_pos ei]
      exact b _ (by lia) (by lia)
     ·rw [if_neg ei]
      by_cases ci : l < i /\ i <= k
      ·rw [if_pos ci]; exact u _ _ (by lia) (by lia)
      ·rw [if_neg ci]; exact u _ _ (by lia) (by lia)
    ·rw [if_neg cj, if_neg (show ¬ i = l by lia), if_neg (by lia)]
     exact u _ _ hij (by lia)
  obtain ⟨p', r2, B2, u3⟩ := zle o f _ (k + 1) (B.bub k (k - l)) (by lia) u2
  exact ⟨p', r.bind r2, B2, by rw [show k + (f + 1) = k + 1 + f by lia]; exact u3⟩
theorem zpq (o : Ord lt) (hN : 1 <= N) : ∃ p, Ran lt N (kas_sort N) p /\ PB N p /\ Up lt p N := by
 obtain ⟨m, p, r, B, m1, m2, u⟩ := zmx o (p := (List.range N).toArray) ⟨Array.Perm.refl _⟩ hN
 by_cases c : m < N
 ·obtain ⟨p2, r2, B2, u2⟩ := zle o (N - max m 1) p (max m 1) B (by lia) (by rw [Nat.max_eq_left m1]; exact u)
  refine ⟨p2, r.bind (by rw [if_pos c]; exact r2), B2, ?_⟩
  rw [show max m 1 + (N - max m 1) = N by lia] at u2
  exact u2
 ·obtain rfl : m = N := by lia
  exact ⟨p, r.bind (by rw [if_neg c]; exact .ret _), B, u⟩
end
end L2
namespace L2
open PySem PySem.W PyProof.Rows
section
variable {prog : Program} {w : World} {A : Around} {E : Value -> Shared -> Prop} {s : Shared}
def zDd (prog : Program) (w : World) (s : Shared) (lt : Nat -> Nat -> Bool) (vs : List Value) : Prop :=
 ∀ (A : Around) (h' : Heap), (∀ b u, s.heap.get? b = some u -> h'.get? b = some u) -> 2 <= vs.length -> ∃ κ : SortKind, (∀ (E : Value -> Shared -> Prop) (Q : SortKind -> Shared -> Prop), Q κ { s with heap := h' } -> wpAny (model prog w) A (keyKind' vs.toArray) Q E { s with heap := h' }) /\
  ∀ (i j : Nat) (C : Bool -> Shared -> Prop), i < vs.length -> j < vs.length -> C (lt i j) { s with heap := h' } -> wpAny (model prog w) A (keyLt' κ (vs.getD i Value.none) (vs.getD j Value.none)) C (fun _ _ => False) { s with heap := h' }
def wV (vs : List Value) (p : Array Nat) : List Value := p.toList.map fun i => vs.getD i Value.none
theorem kB {vs : List Value} (h : ¬ vs.length >= 2) : wV vs (List.range vs.length).toArray = vs := by
 unfold wV
 match vs with
 | [] => rfl
 | [v] => rfl
 | _ :: _ :: _ => simp at h
theorem zkh (vs : List Value) : (vs.toArray.zip vs.toArray).map (·.2) = vs.toArray := by
 apply Array.toList_inj.mp
 rw [Array.toList_map, Array.toList_zip]
 exact List.map_snd_zip (Nat.le_refl _)
theorem zmr {a : Addr} {vs : List Value} {n : Nat} {lt : Nat -> Nat -> Bool} {P : PySem.Fin -> Shared -> Prop} (ho : s.heap.get? a = some (seqObj "list" vs.toArray n)) (o : Ord lt) (h64 : vs.length < 64)
  (ask : 2 <= vs.length -> ∀ h', (∀ b u, b ≠ a -> s.heap.get? b = some u -> h'.get? b = some u) -> ∃ κ : SortKind, (∀ (E : Value -> Shared -> Prop) (Q : SortKind -> Shared -> Prop), Q κ { s with heap := h' } -> wpAny (model prog w) A (keyKind' vs.toArray) Q E { s with heap := h' }) /\
   ∀ (i j : Nat) (C : Bool -> Shared -> Prop), i < vs.length -> j < vs.length -> C (lt i j) { s with heap := h' } -> wpAny (model prog w) A (keyLt' κ (vs.getD i Value.none) (vs.getD j Value.none)) C (fun _ _ => False) { s with heap := h' })
  (q : ∀ p, PB vs.length p -> Up lt p vs.length -> P (.done (.ret .none)) { s with heap := sortedHeap s.heap a vs (wV vs p).toArray }) : wpAny (model prog w) A (Builtin.«list.sort» ⟨[.ref a], []⟩) P E s := by
 rw [list_sort_plain]
 have la : a < s.heap.objs.size := Heap.lt_size ho
 have zs : vs.length <= sizeLine := by rw [sizeLine_eq]; lia
 refine wpAny_bind (listItems_at ho rfl (wpAny_bind (listUpdate_at ho rfl ?_ (by rw [List.size_toArray]; exact zs) (Nat.zero_le _))))
 obtain ⟨e1, o1⟩ : ∃ e1, (s.heap.update a (Obj.mapSeq fun _ => (#[] : Array Value))).get? a = some (seqObj "list" #[] e1) := ⟨_, get?_update_seq ho fun _ => #[]⟩
 refine wpAny_bind (seqEpoch_at o1 rfl (wpAny_bind (wpAny_newTuple (wpAny_bind (wpAny_newList (wpAny_holding ?_) (Nat.zero_le _))) (by show vs.length <= _; exact zs))))
 have sb := Heap.SameBut.update s.heap a (Obj.mapSeq fun _ => (#[] : Array Value))
 have keep : ∀ b u, b ≠ a -> s.heap.get? b = some u -> (((s.heap.update a (Obj.mapSeq fun _ => #[])).push (seqObj "tuple" vs.toArray 0)).push (seqObj "list" #[] 0)).get? b = some u := fun b u hb z =>
  Heap.get?_push_of_some _ (Heap.get?_push_of_some _ ((sb.2 b hb).trans z))
 have o6 : (((s.heap.update a (Obj.mapSeq fun _ => #[])).push (seqObj "tuple" vs.toArray 0)).push (seqObj "list" #[] 0)).get? a = some (seqObj "list" #[] e1) := Heap.get?_push_of_some _ (Heap.get?_push_of_some _ o1)
 show wpAny (model prog w) A _ P E { s with heap := ((s.heap.update a (Obj.mapSeq fun _ => (#[] : Array Value))).push (seqObj "tuple" vs.toArray 0)).push (seqObj "list" #[] 0) }
 dsimp only
 have fin : ∀ (st : SortSt) (out : List Value), (arrOf st).map (·.2) = out.toArray -> out.length = vs.length -> failedOf st = none -> P (.done (.ret .none)) { s with heap := sortedHeap s.heap a vs out.toArray } ->
   wpAny (model prog w) A (do
    let touched := (<- seqEpoch a) != e1
    Builtin.List.listUpdate (.ref a) fun _ => (arrOf st).map (·.2)
    if let some e := failedOf st then rule "list.sort.comparison-raised"; throw e
    if touched then rule "list.sort.modified"; raiseError "ValueError" "list modified during sort"
    ret .none) P E { s with heap := ((s.heap.update a (Obj.mapSeq fun _ => (#[] : Array Value))).push (seqObj "tuple" vs.toArray 0)).push (seqObj "list" #[] 0) } := by
  intro st out eo el ef qq
  refine wpAny_bind (seqEpoch_at o6 rfl ?_)
  rw [eo]
  refine wpAny_bind (listUpdate_at o6 rfl ?_ (Nat.zero_le _) (by show out.toArray.size <= _; rw [List.size_toArray, el, sizeLine_eq]; lia))
  rw [ef]
  simp only [bne_self_eq_false, Bool.false_eq_true, if_false]
  exact wpAny_pure qq
 by_cases two : vs.length >= 2
 ·have hn2 : ¬ vs.toArray.size < 2 := by rw [List.size_toArray]; lia
  rw [if_neg hn2, if_neg hn2]
  obtain ⟨κ, kk, cc⟩ := ask two _ keep
  obtain ⟨p, ran, pb, up⟩ := zpq (N := vs.length) o (by lia)
  refine wpAny_bind (kk _ _ ?_)
  refine wpAny_bind (wpAny_mono (kat_run (E := E) (Q := fun st' s' => s' = { s with heap := ((s.heap.update a (Obj.mapSeq fun _ => (#[] : Array Value))).push (seqObj "tuple" vs.toArray 0)).push (seqObj "list" #[] 0) } /\ arrOf st' = p.map (kas_item (vs.toArray.zip vs.toArray)) /\ failedOf st' = none)
   (G := fun p' s' => p' = p /\ s' = { s with heap := ((s.heap.update a (Obj.mapSeq fun _ => (#[] : Array Value))).push (seqObj "tuple" vs.toArray 0)).push (seqObj "list" #[] 0) }) rfl two h64 (fun p' st' s' a1 a2 a3 a4 => ⟨a4.2, by rw [a2, a4.1], a3⟩) (ran.wp (fun i j C hi hj hC => cc i j C hi hj hC) ⟨rfl, rfl⟩)) ?_ fun _ _ x => x)
  rintro ⟨⟨⟩, st'⟩ s' ⟨rfl, ea, ef⟩
  exact fin st' (wV vs p) (kat_snds rfl ea) (by unfold wV; rw [List.length_map, Array.length_toList, pb.size]) ef (q p pb up)
 ·have hn2 : vs.toArray.size < 2 := by rw [List.size_toArray]; lia
  rw [if_pos hn2, if_pos hn2]
  refine wpAny_bind (wpAny_pure ?_)
  rw [StateT.run_pure]
  refine wpAny_bind (wpAny_pure ?_)
  refine fin (SortSt.mk' general' (vs.toArray.zip vs.toArray) #[] 7 none) (wV vs (List.range vs.length).toArray) ?_ (by rw [kB two]) rfl (q _ ⟨Array.Perm.refl _⟩ ?_)
  ·rw [kB two]; exact zkh vs
  ·intro i j hij hj
   have : i = j := by lia
   subst this; exact o.rf _
theorem zik {l : Addr} {vs : List Value} {lt : Nat -> Nat -> Bool} {Q : Value -> Shared -> Prop} (hl : s.heap.IsList l vs.toArray) (o : Ord lt) (h64 : vs.length < 64) (ask : zDd prog w s lt vs)
  (q : ∀ p, PB vs.length p -> Up lt p vs.length -> Q (.ref (s.heap.objs.size + 1)) { s with heap := sortedAll s.heap vs (wV vs p).toArray }) : wpAny (model prog w) A (call (.builtin "sorted") [.ref l]) Q E s := by
 refine Calls.call_function_entry kind_sorted plain_sorted entry_sorted (args_sorted1 _) ?_
 unfold Builtin.«sorted»
 refine wpAny_bind (m := checkCount "sorted" 1 1 _) (wpAny_pure (wpAny_bind (collect_list hl (wpAny_bind (wpAny_newList ?_ (by rw [sizeLine_eq]; lia))) (by rw [sizeLine_eq]; lia))))
 have z1 : ((s.heap.push (seqObj "list" #[] 0)).update s.heap.objs.size (Obj.mapSeq (· ++ vs.toArray))).objs.size = s.heap.objs.size + 1 := by rw [Heap.size_update, size_push']
 have oL : (((s.heap.push (seqObj "list" #[] 0)).update s.heap.objs.size (Obj.mapSeq (· ++ vs.toArray))).push (seqObj "list" vs.toArray 0)).get? (s.heap.objs.size + 1) = some (seqObj "list" vs.toArray 0) := by
  rw [<- z1]; exact Heap.get?_push_size _ rfl
 have keep : ∀ b u, s.heap.get? b = some u -> (((s.heap.push (seqObj "list" #[] 0)).update s.heap.objs.size (Obj.mapSeq (· ++ vs.toArray))).push (seqObj "list" vs.toArray 0)).get? b = some u := fun b u z => by
  have lb : b < s.heap.objs.size := Heap.lt_size z
  exact Heap.get?_push_of_some _ (by rw [Heap.get?_update_ne _ _ _ _ (Nat.ne_of_lt lb)]; exact Heap.get?_push_of_some _ z)
 show wpAny _ _ _ _ _ { s with heap := ((s.heap.push (seqObj "list" #[] 0)).update s.heap.objs.size (Obj.mapSeq (· ++ vs.toArray))).push (seqObj "list" vs.toArray 0) }
 rw [z1]
 refine wpAny_bind (wpAny_holding (wpAny_call_entry slot_list_sort ⟨_, oL, rfl⟩ entry_list_sort (zmr oL o h64 (fun two h' k => ask _ h' (fun b u z => k b u (fun e => ?_) (keep b u z)) two) fun p pb up => ⟨_, rfl, ?_⟩) (args_list_sort _)))
 ·exact absurd (Heap.lt_size z) (by rw [e]; exact Nat.not_lt.mpr (Nat.le_succ _))
 ·exact wpAny_pure ⟨_, rfl, q p pb up⟩
end
end L2
namespace L2
open PySem PySem.W PyProof.Rows
theorem zjx : ∀ (a b : List Int), HT.lexLt a b = true -> HT.lexLt b a = false
 | [], [], h => by cases h
 | [], _ :: _, _ => rfl
 | _ :: _, [], h => by cases h
 | x :: xs, y :: ys, h => by
  rw [HT.lexLt_cons] at h ⊢
  by_cases e : x = y
  ·rw [if_pos e] at h; rw [if_pos e.symm]; exact zjx xs ys h
  ·rw [if_neg e] at h; rw [if_neg (Ne.symm e)]
   have := of_decide_eq_true h
   exact decide_eq_false (by lia)
theorem zjw : ∀ (a b c : List Int), HT.lexLt b a = false -> HT.lexLt c b = false -> HT.lexLt c a = false
 | [], [], c, _, h => h
 | [], _ :: _, [], _, h => by cases h
 | [], _ :: _, _ :: _, _, _ => rfl
 | _ :: _, [], _, h, _ => by cases h
 | x :: xs, y :: ys, [], _, h => by cases h
 | x :: xs, y :: ys, z :: zs, h1, h2 => by
  rw [HT.lexLt_cons] at h1 h2 ⊢
  by_cases e1 : y = x
  ·rw [if_pos e1] at h1
   by_cases e2 : z = y
   ·rw [if_pos e2] at h2
    rw [if_pos (e2.trans e1)]
    exact zjw xs ys zs h1 h2
   ·rw [if_neg e2] at h2
    rw [if_neg (fun q => e2 (q.trans e1.symm))]
    have := of_decide_eq_false h2
    exact decide_eq_false (by lia)
  ·rw [if_neg e1] at h1
   have g1 := of_decide_eq_false h1
   by_cases e2 : z = y
   ·rw [if_neg (fun q => e1 (e2.symm.trans q))]
    exact decide_eq_false (by lia)
   ·rw [if_neg e2] at h2
    have g2 := of_decide_eq_false h2
    rw [if_neg (by lia)]
    exact decide_eq_false (by lia)
theorem zuf (kss : List (List Int)) : Ord fun i j => HT.lexLt (kss.getD i []) (kss.getD j []) := ⟨fun _ _ h => zjx _ _ h, fun _ _ _ h1 h2 => zjw _ _ _ h1 h2⟩
def zos (fin : Bool) : List Int -> List Int -> Bool
 | x :: xs, y :: ys => if x = y then zos fin xs ys else decide (x < y)
 | _, _ => fin
theorem zlm : ∀ (a b : List Int), zos (decide (a.length < b.length)) a b = HT.lexLt a b
 | [], [] => rfl
 | [], _ :: _ => by show decide _ = true; simp
 | _ :: _, [] => by show decide _ = false; simp
 | x :: xs, y :: ys => by
  rw [HT.lexLt_cons]
  show (if x = y then zos _ xs ys else decide (x < y)) = _
  have : decide ((x :: xs).length < (y :: ys).length) = decide (xs.length < ys.length) := by simp
  rw [this, zlm xs ys]
section
variable {prog : Program} {w : World} {A : Around} {E : Value -> Shared -> Prop} {s : Shared}
theorem zhu {fin : Bool} {Q : Bool -> Shared -> Prop} : ∀ {us : List Value} {ks : List Int} {ws : List Value} {ms : List Int} (i : Nat), IntsAre us ks -> IntsAre ws ms -> Q (zos fin ks ms) s -> KatLex prog w A true fin Q (us.zip ws) i s
 | _, _, _, _, _, .nil, _, q => kat_nil q
 | _, _, _, _, _, .cons _ _ _, .nil, q => kat_nil q
 | _, _, _, _, i, .cons (vs := us) (ns := ks) x t h1, .cons (vs := ws) (ns := ms) y u h2, q => by
  refine kat_cons (wpAny_eqBool_int (kat_go (fun e => kat_yes (zhu (i + 1) h1 h2 ?_)) fun e => kat_no ?_))
  ·have : x = y := by simpa using e
   have z : zos fin (x :: ks) (y :: ms) = zos fin ks ms := by show (if x = y then _ else _) = _; rw [if_pos this]
   rw [z] at q; exact q
  ·have : ¬ x = y := by simpa using e
   have z : zos fin (x :: ks) (y :: ms) = decide (x < y) := by show (if x = y then _ else _) = _; rw [if_neg this]
   rw [z] at q
   cases h0 : (true && i == 0) with
   | true => exact oneLt_int q
   | false => exact kat_one _ _ (lt_int q)
def TupI (h : Heap) (v : Value) (ks : List Int) : Prop := ∃ a o xs n, v = .ref a /\ h.get? a = some o /\ o.cls = .type "tuple" /\ o.data = .seq xs n /\ IntsAre xs.toList ks
theorem TupI.kept {h h' : Heap} {v : Value} {ks : List Int} (x : TupI h v ks) (k : ∀ b u, h.get? b = some u -> h'.get? b = some u) : TupI h' v ks := let ⟨a, o, xs, n, e, g, r⟩ := x; ⟨a, o, xs, n, e, k _ _ g, r⟩
theorem zjd {us : List Value} {x : Int} {ks : List Int} (h : IntsAre us (x :: ks)) : ∃ t, us[0]? = some (.int x t) := by
 cases h with
 | cons _ t _ => exact ⟨t, rfl⟩
theorem gM {h : Heap} : ∀ {vs : List Value} {kss : List (List Int)}, Paired (TupI h) vs kss -> (∀ ks ∈ kss, ks ≠ []) -> ∃ fs, KatTups h vs fs /\ fs.length = vs.length /\ ∀ f ∈ fs, ∃ x t, f = .int x t
 | _, _, .nil, _ => ⟨[], .nil, rfl, fun f hf => nomatch hf⟩
 | _, _, .cons (b := ks) r t, hne => by
  obtain ⟨fs, k, l, a⟩ := gM t fun ks hk => hne ks (List.mem_cons_of_mem _ hk)
  obtain ⟨ad, o, xs, n, rfl, g, hc, hd, hi⟩ := r
  cases ks with
  | nil => exact absurd rfl (hne _ (List.mem_cons_self ..))
  | cons x ks =>
   obtain ⟨tk, e⟩ := zjd hi
   refine ⟨.int x tk :: fs, .cons g hc hd (by rw [Array.getElem?_toList] at e; exact e) k, by simp [l], fun f hf => ?_⟩
   rcases List.mem_cons.mp hf with rfl | hf
   ·exact ⟨x, tk, rfl⟩
   ·exact a f hf
theorem zod {vs : List Value} {kss : List (List Int)} (h : Paired (TupI s.heap) vs kss) (hne : ∀ ks ∈ kss, ks ≠ []) : zDd prog w s (fun i j => HT.lexLt (kss.getD i []) (kss.getD j [])) vs := by
 intro A h' keep two
 have h2 : Paired (TupI h') vs kss := Paired.mapP h fun _ _ x => x.kept keep
 refine ⟨tuples' true, fun E Q q => ?_, fun i j C hi hj q => ?_⟩
 ·obtain ⟨fs, k, l, a⟩ := gM h2 hne
  have e : (Value.type "int" != Value.type "tuple") = true := by decide
  refine kat_kind (T := .type "int") k (by lia) (fun f hf => ?_) (by decide) (by rw [e]; exact q)
  obtain ⟨x, t, rfl⟩ := a f hf
  exact .now
 ·have gi : ∀ i, i < vs.length -> ∃ v ks, vs.getD i Value.none = v /\ kss.getD i [] = ks /\ TupI h' v ks := fun i hi => by
   obtain ⟨ks, e, r⟩ := Paired.at h2 (i := i) (a := vs[i]) (by simp [hi])
   exact ⟨vs[i], ks, by simp [hi], by rw [List.getD_eq_getElem?_getD, e]; rfl, r⟩
  obtain ⟨v, ks, ev, ek, a, o, xs, n, rfl, g, _, hd, hI⟩ := gi i hi
  obtain ⟨u, ms, eu, em, b, o2, ys, n2, rfl, g2, _, hd2, hI2⟩ := gi j hj
  rw [ev, eu]
  refine kat_lt (s := { s with heap := h' }) g hd g2 hd2 (zhu 0 hI hI2 ?_)
  have l1 : xs.size = ks.length := by have := hI.length; simpa using this
  have l2 : ys.size = ms.length := by have := hI2.length; simpa using this
  rw [l1, l2, zlm]
  have q' : C (HT.lexLt (kss.getD i []) (kss.getD j [])) { s with heap := h' } := q
  rw [ek, em] at q'
  exact q'
end
def IntsAt (H : Hp) (v : V) (ks : List Int) : Prop := ∃ a, v = .ref a /\ H a = some (.tup (ks.map V.int))
theorem IntsAt.same {H H' : Hp} {v : V} {ks : List Int} (h : IntsAt H v ks) (e : Same H H') : IntsAt H' v ks := let ⟨a, h1, h2⟩ := h; ⟨a, h1, e _ _ h2⟩
def zbu (a b : List Int) : Prop := HT.lexLt b a = false
section
variable {X : Cx}
def zpr (K : PySem.W.Frag) : List V -> Hp -> VK -> Prop := fun xs H Q => ∃ (p : Addr) (rs : List V) (kss : List (List Int)), xs = [.ref p] /\ SqL K H p rs /\ rs.length < 64 /\ Paired (IntsAt H) rs kss /\ (∀ ks ∈ kss, ks ≠ []) /\
 ∀ (l : Addr) (rs' : List V) (kss' : List (List Int)), Paired (IntsAt H) rs' kss' -> kss'.Perm kss -> kss'.Pairwise zbu -> H l = none -> Q (.ref l) (upd H l (.lst rs'))
theorem xT {α β γ : Type} {F : α -> β -> Prop} {f : γ -> α} {g : γ -> β} : ∀ {l : List γ}, (∀ c ∈ l, F (f c) (g c)) -> Paired F (l.map f) (l.map g)
 | [], _ => .nil
 | c :: l, h => .cons (h c (List.mem_cons_self ..)) (xT fun d hd => h d (List.mem_cons_of_mem _ hd))
theorem x5 {α : Type} (l : List α) (d : α) : (List.range l.length).map (fun i => l.getD i d) = l := by
 apply List.ext_getElem
 ·simp
 ·intro i h1 h2
  simp at h1
  simp [h1]
theorem PB.list {N : Nat} {p : Array Nat} (h : PB N p) : p.toList.Perm (List.range N) := by
 have := Array.perm_iff_toList_perm.mp h.perm
 simpa using this
theorem jX : xL X (.builtin "sorted") (zpr X.K) := by
 intro pins s σ H xs us Q I r h
 obtain ⟨p, rs, kss, rfl, hp, hn, hk, hne, q⟩ := h
 obtain ⟨u, rfl, ru⟩ := Vals.one r
 cases (show u = Value.ref p from ru)
 obtain ⟨its, r1, t1, _⟩ := I.list hp
 have hl : its.length = rs.length := r1.length.symm
 have kl : rs.length = kss.length := Paired.length hk
 have tup : ∀ i, i < rs.length -> ∃ a ks, rs.getD i .non = .ref a /\ kss.getD i [] = ks /\ its.getD i Value.none = .ref a /\ H a = some (.tup (ks.map V.int)) := fun i hi => by
  obtain ⟨ks, e, a, ea, ha⟩ := Paired.at hk (i := i) (a := rs[i]) (by simp [hi])
  obtain ⟨v, ev, rv⟩ := r1.get (i := i) (x := rs[i]) (by simp [hi])
  rw [ea] at rv
  refine ⟨a, ks, by simp [hi, ea], by rw [List.getD_eq_getElem?_getD, e]; rfl, ?_, ha⟩
  rw [List.getD_eq_getElem?_getD, ev]
  exact rv
 have tups : Paired (TupI s.heap) its kss := by
  have e1 := x5 its Value.none
  have e2 := x5 kss []
  rw [hl] at e1
  rw [<- kl] at e2
  rw [<- e1, <- e2]
  refine xT fun i hi => ?_
  obtain ⟨a, ks, _, e4, e5, e6⟩ := tup i (List.mem_range.mp hi)
  obtain ⟨_, us, ru, o, g, hc, n, hd⟩ := I.hok a _ e6
  rw [e4, e5]
  exact ⟨a, o, us.toArray, n, rfl, g, hc, hd, by simpa using vK ru⟩
 refine zik t1.isList (zuf kss) (by lia) (zod tups hne) fun pm pb up => ?_
 obtain ⟨e, he⟩ := sortedAll_at s.heap its (wV its pm).toArray
 have fr : s.heap.objs.size <= s.heap.objs.size + 1 := Nat.le_succ _
 have pl : ∀ i ∈ pm.toList, i < rs.length := fun i hi => by
  have := pb.list.mem_iff.mp hi
  rw [List.mem_range, hl] at this
  exact this
 have ls : pm.toList.length = rs.length := by rw [Array.length_toList, pb.size, hl]
 refine ⟨.ref (s.heap.objs.size + 1), upd H (s.heap.objs.size + 1) (.lst (pm.toList.map fun i => rs.getD i .non)), I.laid (t' := s.toks) (fun b o z => sortedAll_old z) fr ?_, rfl,
  q _ _ (pm.toList.map fun i => kss.getD i []) (xT fun i hi => ?_) ?_ ?_ (I.hok.fresh fr)⟩
 ·refine ⟨?_, wV its pm, e, xT fun i hi => ?_, he⟩
  ·rw [List.length_map, ls, sizeLine_eq]; lia
  ·obtain ⟨a, ks, e3, e4, e5, e6⟩ := tup i (pl i hi)
   rw [e3, e5]
   exact rfl
 ·obtain ⟨a, ks, e3, e4, e5, e6⟩ := tup i (pl i hi)
  rw [e3, e4]
  exact ⟨a, rfl, e6⟩
 ·have := pb.list.map fun i => kss.getD i []
  rw [hl, kl, x5] at this
  exact this
 ·rw [List.pairwise_iff_getElem]
  intro i j hi hj hij
  rw [List.length_map] at hi hj
  have := up i j (by lia) (by rw [hl]; lia)
  simp only [List.getElem_map, Array.getElem_toList]
  have gi : pm.getD i 0 = pm[i] := by simp [Array.getD, show i < pm.size by rw [<- Array.length_toList]; exact hi]
  have gj : pm.getD j 0 = pm[j] := by simp [Array.getD, show j < pm.size by rw [<- Array.length_toList]; exact hj]
  rw [gi, gj] at this
  exact this
end
end L2
namespace L2
open PySem PySem.Spec PyProof.Rows
theorem kY {k : Kd} {K : PySem.W.Frag} {a : Addr} {xs : List V} {g : TG} {tb : TS} {D : zeo} {σ : St} {H : Hp} (Pv : Nat -> St -> Hp -> Prop) (h0 : Pv 0 σ H) (hl : ∀ i σ H, i <= xs.length -> Pv i σ H -> SqK k K H a xs)
  (hs : ∀ i x σ H, xs[i]? = some x -> Pv i σ H -> g x σ H fun σ2 H2 => tb { D with nx := Pv (i + 1), ct := Pv (i + 1), bk := D.nx } σ2 H2) (hd : ∀ σ H, Pv xs.length σ H -> D.nx σ H) :
  ∃ W : Nat -> Nat -> St -> Hp -> Prop, (∃ m, W 0 m σ H) /\ ∀ i m σ H, W i m σ H ->
   ((ItK k K a).stop i H /\ D.nx σ H) \/ ((ItK k K a).go i H /\ ∃ N : St -> Hp -> Prop, (∀ σ' H', N σ' H' -> ∃ m', m' < m /\ W (i + 1) m' σ' H') /\ ∀ x H', (ItK k K a).yld i H x H' -> g x σ H' fun σ2 H2 => tb { D with nx := N, ct := N, bk := D.nx } σ2 H2) := by
 cases k with
 | l => exact zqo Pv h0 hl hs hd
 | t => exact zun Pv h0 hl hs hd
section
variable {X : Cx}
theorem ztt : OpR X (binaryOp .Mult) (rI IntMulOk fun i j => .int (i * j)) := opI fun _ _ _ _ _ _ _ hc q => mul_int q hc
end
section
open PySem.SeqAt
open PySem.AutoSeq1 (wpAny_loadPart')
open PySem.MeetsSeq PySem.MeetsSeq2 PySem.MeetsSeq3
end
section
variable {X : Cx}
end
section
variable {prog : Program} {w : World} {A : Around} {E : Value -> Shared -> Prop} {s : Shared} {it l : Addr} {its : Array Value}
end
section
variable {X : Cx}
end
section
variable {prog : Program} {w : World} {A : Around} {E : Value -> Shared -> Prop} {s : Shared} {a : Addr} {led : Bool} {ns : List Int}
end
section
variable {prog : Program} {w : World} {A : Around} {R : Result -> Shared -> Prop} {I : Addr} {fp wr : List Addr} {G : Array GenState -> Array GenState -> Prop} {n : Nat} {P : Nat -> Value -> Prop} {St : Nat -> Shared -> Prop}
end
section
variable {prog : Program} {w : World} {A : Around} {E : Value -> Shared -> Prop} {s : Shared}
set_option maxHeartbeats 8000000 in
end
section
variable {prog : Program} {w : World} {A : Around} {E : Value -> Shared -> Prop} {s : Shared} {it a : Addr} {o : Obj} {es : Array (Int × Value)} {ep i : Nat} {t : SetTable} {slot : Nat}
end
section
variable {prog : Program} {w : World} {A : Around} {E : Value -> Shared -> Prop} {s : Shared} {it a : Addr} {o : Obj} {es : Array (Int × Value)} {ep i : Nat} {t : SetTable} {slot : Nat}
end
section
variable {prog : Program} {w : World} {A : Around} {E : Value -> Shared -> Prop} {s : Shared} {a : Addr} {o : Obj} {es : Array (Int × Value)} {ep : Nat} {t : SetTable}
end
section
variable {prog : Program} {w : World} {A : Around} {E : Value -> Shared -> Prop} {s : Shared} {a : Addr}
end
section
variable {X : Cx}
end
section
variable {prog : Program} {w : World} {A : Around} {E : Value -> Shared -> Prop} {s : Shared}
theorem zgv {l : Addr} {vs : List Value} {Q : List Value -> Shared -> Prop} (hl : IsTup s.heap l vs.toArray) (hsz : vs.length <= sizeLine)
  (h : Q vs { s with heap := (s.heap.push (seqObj "list" #[] 0)).update s.heap.objs.size (Obj.mapSeq (· ++ vs.toArray)) }) : wpAny (model prog w) A (collect (.ref l)) Q E s := by
 obtain ⟨o, ho, hc, n, hd⟩ := id hl
 unfold collect
 refine wpAny_bind (wpAny_runValue (codeAny_builtin entry_proto_collect' ?_))
 show wpAny _ _ (do again (.builtin "list.__iadd__" ⟨[<- newList [], .ref l], []⟩)) _ _ s
 refine wpAny_bind (wpAny_newList (wpAny_pure ⟨Code.quiet_builtin _ (by decide +kernel), codeAny_builtin entry_list_iadd' ?_⟩))
 show wpAny _ _ (Builtin.List.listExtendWith (.ref s.heap.objs.size) (.ref l) (.ref s.heap.objs.size)) _ _ { s with heap := s.heap.push (seqObj "list" #[] 0) }
 have ho' : (s.heap.push (seqObj "list" #[] 0)).get? l = some o := Heap.get?_push_of_some _ ho
 unfold Builtin.List.listExtendWith
 refine wpAny_bind (wpAny_typeOf (T := "tuple") ⟨o, ho', hc⟩ ?_)
 rw [if_pos (by rw [show (Value.type "tuple" == Value.type "tuple") = true from rfl]; simp)]
 refine wpAny_bind (listItems_at ho' hd (wpAny_bind (listItems_at (xs := #[]) (n := 0) (Heap.get?_push_size _ rfl) rfl ?_)))
 rw [if_neg (by simp)]
 refine wpAny_bind (listUpdate_at (xs := #[]) (n := 0) (Heap.get?_push_size _ rfl) rfl (wpAny_pure ?_) (Nat.zero_le _) (by show (#[] ++ vs.toArray).size <= sizeLine + 1; simp only [Array.size_append, List.size_toArray, List.length_nil]; omega))
 show wpAny (model prog w) A (load s.heap.objs.size >>= _) Q E { s with heap := (s.heap.push (seqObj "list" #[] 0)).update s.heap.objs.size (Obj.mapSeq (· ++ vs.toArray)) }
 refine wpAny_bind (wpAny_load (get?_update_seq (Heap.get?_push_size _ rfl) _) ?_)
 show wpAny _ _ (pure ((#[] : Array Value) ++ vs.toArray).toList) Q E _
 rw [show ((#[] : Array Value) ++ vs.toArray).toList = vs by simp]
 exact wpAny_pure h
theorem zij {l : Addr} {vs : List Value} {ns : List Int} {Q : Value -> Shared -> Prop} (hl : IsTup s.heap l vs.toArray) (hI : IntsAre vs ns) (h64 : vs.length < 64)
  (h : ∀ (out : Array Value) (ms : List Int), IntsAre out.toList ms -> ms.Perm ns -> ms.Pairwise (· <= ·) -> Q (.ref (s.heap.objs.size + 1)) { s with heap := sortedAll s.heap vs out }) :
  wpAny (model prog w) A (call (.builtin "sorted") [.ref l]) Q E s := by
 refine Calls.call_function_entry kind_sorted plain_sorted entry_sorted (args_sorted1 _) ?_
 unfold Builtin.«sorted»
 refine wpAny_bind (m := checkCount "sorted" 1 1 _) (wpAny_pure (wpAny_bind (zgv hl (by rw [sizeLine_eq]; omega) (wpAny_bind (wpAny_newList ?_ (by rw [sizeLine_eq]; omega))))))
 have z1 : ((s.heap.push (seqObj "list" #[] 0)).update s.heap.objs.size (Obj.mapSeq (· ++ vs.toArray))).objs.size = s.heap.objs.size + 1 := by rw [Heap.size_update, size_push']
 have oL : (((s.heap.push (seqObj "list" #[] 0)).update s.heap.objs.size (Obj.mapSeq (· ++ vs.toArray))).push (seqObj "list" vs.toArray 0)).get? (s.heap.objs.size + 1) = some (seqObj "list" vs.toArray 0) := by
  rw [<- z1]; exact Heap.get?_push_size _ rfl
 show wpAny _ _ _ _ _ { s with heap := ((s.heap.push (seqObj "list" #[] 0)).update s.heap.objs.size (Obj.mapSeq (· ++ vs.toArray))).push (seqObj "list" vs.toArray 0) }
 rw [z1]
 refine wpAny_bind (wpAny_holding (wpAny_call_entry slot_list_sort ⟨_, oL, rfl⟩ entry_list_sort (list_sort_tree oL hI h64 fun out ms a1 a2 a3 => ⟨_, rfl, ?_⟩) (args_list_sort _)))
 exact wpAny_pure ⟨_, rfl, h out ms a1 a2 a3⟩
end
section
variable {X : Cx}
theorem zdc : xL X (.builtin "sorted") (fun xs H Q => ∃ (p : Addr) (ns : List Int), xs = [.ref p] /\ SqT X.K H p (ns.map V.int) /\ ns.length < 64 /\ ∀ (l : Addr) (ms : List Int), ms.Perm ns -> ms.Pairwise (· <= ·) -> H l = none -> Q (.ref l) (upd H l (.lst (ms.map V.int)))) := by
 intro pins s σ H xs us Q I r h
 obtain ⟨p, ns, rfl, hp, hn, q⟩ := h
 obtain ⟨u, rfl, ru⟩ := Vals.one r
 cases (show u = Value.ref p from ru)
 obtain ⟨its, r1, t1, _⟩ := I.tuple hp
 have hl : its.length = ns.length := by have := r1.length; rw [List.length_map] at this; omega
 refine zij t1 (vK r1) (by omega) fun out ms a1 a2 a3 => ?_
 obtain ⟨e, he⟩ := sortedAll_at s.heap its out
 have fr : s.heap.objs.size <= s.heap.objs.size + 1 := Nat.le_succ _
 refine ⟨.ref (s.heap.objs.size + 1), upd H (s.heap.objs.size + 1) (.lst (ms.map V.int)), I.laid (t' := s.toks) (fun b o z => sortedAll_old z) fr ?_, rfl, q _ ms a2 a3 (I.hok.fresh fr)⟩
 refine ⟨?_, out.toList, e, jU a1, by rw [he]⟩
 rw [List.length_map, a2.length_eq]
 exact Nat.le_trans (Nat.le_of_lt hn) (by decide)
end
end L2
namespace L2
open PySem PySem.W PyProof.Rows
def zfn : Bool -> Keyed -> Array Keyed -> Nat -> Nat -> Nat -> StateT SortSt Sem (Option Nat) := sortPriv% PySem.Builtin.gallop
section
variable {prog : Program} {w : World} {A : Around} {E : Value -> Shared -> Prop} {s : Shared} {κ : SortKind} {it : Array Keyed} {lt : Nat -> Nat -> Bool} {N : Nat}
def Cmp (prog : Program) (w : World) (A : Around) (κ : SortKind) (it : Array Keyed) (lt : Nat -> Nat -> Bool) (N : Nat) (s : Shared) : Prop := ∀ i j C, i < N -> j < N -> C (lt i j) s -> kas_cmp prog w A κ it i j C s
theorem ziy {i j : Nat} {st : SortSt} {Q : Option Bool -> SortSt -> Prop} (c : Cmp prog w A κ it lt N s) (hk : kindOf st = κ) (hi : i < N) (hj : j < N) (h : Q (some (lt i j)) st) : wpS (model prog w) A E s (lt' (kas_item it i) (kas_item it j)) Q st := by
 rw [lt'_eq]
 refine wpS_bind (wpS_get ?_)
 rw [hk]
 refine wpS_bind (wpS_lift (wpAny_attempt (wpAny_mono (c i j (fun b s' => s' = s /\ b = lt i j) hi hj ⟨rfl, rfl⟩) (fun b s' z => ?_) fun _ _ hF => hF.elim)))
 obtain ⟨rfl, rfl⟩ := z
 exact ⟨rfl, wpS_pure h⟩
theorem zfp {q : Array Nat} {i : Nat} {st : SortSt} {Q : Keyed -> SortSt -> Prop} (hi : i < q.size) (h : Q (kas_item it (q.getD i 0)) st) : wpS (model prog w) A E s (elem' (q.map (kas_item it)) i) Q st := by
 rw [elem'_eq]
 have e : (q.map (kas_item it))[i]? = some (kas_item it (q.getD i 0)) := by simp [Array.getD, hi]
 rw [e]
 exact wpS_pure h
def Bey (lt : Nat -> Nat -> Bool) (left : Bool) (k x : Nat) : Bool := if left = true then lt x k else !lt k x
theorem zsj {B : Nat -> Bool} {n lo hi : Nat} {st : SortSt} {α : Type} {Q : α -> SortSt -> Prop} {f : Nat -> (Option (Option Nat) × Nat × Nat) -> StateT SortSt Sem (ForInStep (Option (Option Nat) × Nat × Nat))} {g : (Option (Option Nat) × Nat × Nat) -> StateT SortSt Sem α}
  (mono : ∀ i j, i <= j -> j < n -> B j = true -> B i = true)
  (hd : ∀ x lo hi Q', hi <= lo -> Q' (.done (none, lo, hi)) st -> wpS (model prog w) A E s (f x (none, lo, hi)) Q' st)
  (hf : ∀ x lo hi Q', lo < hi -> hi <= n -> (B (lo + (hi - lo) / 2) = true -> Q' (.yield (none, lo + (hi - lo) / 2 + 1, hi)) st) -> (B (lo + (hi - lo) / 2) = false -> Q' (.yield (none, lo, lo + (hi - lo) / 2)) st) -> wpS (model prog w) A E s (f x (none, lo, hi)) Q' st)
  (l1 : lo <= hi) (l2 : hi <= n) (b1 : ∀ i, i < lo -> B i = true) (b2 : ∀ i, hi <= i -> i < n -> B i = false)
  (hg : ∀ lo r, r <= n -> (∀ i, i < r -> B i = true) -> (∀ i, r <= i -> i < n -> B i = false) -> wpS (model prog w) A E s (g (none, lo, r)) Q st) :
  wpS (model prog w) A E s (forIn [:n] ((none, lo, hi) : Option (Option Nat) × Nat × Nat) f >>= g) Q st := by
 refine wpS_bind (wpS_mono (wpS_forRange (I := fun x c st' => st' = st /\ ∃ lo hi, c = (none, lo, hi) /\ lo <= hi /\ hi <= n /\ hi - lo + x <= n /\ (∀ i, i < lo -> B i = true) /\ (∀ i, hi <= i -> i < n -> B i = false))
  (Q := fun c st' => st' = st /\ ∃ lo r, c = (none, lo, r) /\ r <= n /\ (∀ i, i < r -> B i = true) /\ (∀ i, r <= i -> i < n -> B i = false)) ?_ ?_ ⟨rfl, lo, hi, rfl, l1, l2, by omega, b1, b2⟩) ?_)
 ·rintro x c st' _ hx ⟨rfl, lo, hi, rfl, l1, l2, l3, b1, b2⟩
  by_cases e : lo < hi
  ·refine hf x lo hi _ e l2 (fun z => ⟨rfl, _, _, rfl, by omega, l2, by omega, fun i hi' => mono i _ (by omega) (by omega) z, b2⟩) (fun z => ⟨rfl, _, _, rfl, by omega, by omega, by omega, b1, fun i h1 h2 => ?_⟩)
   cases hB : B i with
   | false => rfl
   | true => rw [mono _ i h1 h2 hB] at z; cases z
  ·refine hd x lo hi _ (by omega) ⟨rfl, _, _, rfl, l2, fun i hi' => b1 i (by omega), b2⟩
 ·rintro c st' ⟨rfl, lo, hi, rfl, l1, l2, l3, b1, b2⟩
  have : max 0 n = n := by omega
  rw [this] at l3
  exact ⟨rfl, lo, hi, rfl, l2, fun i hi' => b1 i (by omega), b2⟩
 ·rintro c st' ⟨rfl, lo, r, rfl, r1, r2, r3⟩
  exact hg lo r r1 r2 r3
theorem zdw {left : Bool} {k : Nat} {q : Array Nat} {base n hint : Nat} {st : SortSt} {Q : Option Nat -> SortSt -> Prop} (c : Cmp prog w A κ it lt N s) (hk : kindOf st = κ) (kN : k < N) (qN : ∀ i, i < q.size -> q.getD i 0 < N) (hb : base + n <= q.size) (hh : hint < n)
  (mono : ∀ i j, i <= j -> j < n -> Bey lt left k (q.getD (base + j) 0) = true -> Bey lt left k (q.getD (base + i) 0) = true)
  (h : ∀ r, r <= n -> (∀ i, i < r -> Bey lt left k (q.getD (base + i) 0) = true) -> (∀ i, r <= i -> i < n -> Bey lt left k (q.getD (base + i) 0) = false) -> Q (some r) st) :
  wpS (model prog w) A E s (zfn left (kas_item it k) (q.map (kas_item it)) base n hint) Q st := by
 generalize hB : (fun i => Bey lt left k (q.getD (base + i) 0)) = B
 have hB' : ∀ i, Bey lt left k (q.getD (base + i) 0) = B i := fun i => by rw [<- hB]
 simp only [hB'] at mono h
 have bey : ∀ (i : Nat) (Q' : Option Bool -> SortSt -> Prop), i < n -> Q' (some (B i)) st -> wpS (model prog w) A E s (elem' (q.map (kas_item it)) (base + i) >>= fun x => if left = true then lt' x (kas_item it k) else lt' (kas_item it k) x >>= fun r => pure (r.map (!·))) Q' st := by
  intro i Q' hi hq
  rw [<- hB'] at hq
  refine wpS_bind (zfp (by omega) ?_)
  unfold Bey at hq
  cases left with
  | true =>
   rw [if_pos rfl] at hq ⊢
   exact ziy c hk (qN _ (by omega)) kN hq
  | false =>
   rw [if_neg (by decide)] at hq ⊢
   exact wpS_bind (ziy c hk kN (qN _ (by omega)) (wpS_pure hq))
 refine wpS_bind (bey hint _ hh ?_)
 cases b0 : B hint with
 | true =>
  dsimp only
  rw [if_pos rfl]
  refine wpS_bind (wpS_mono (wpS_forRange (I := fun x r st' => st' = st /\ ∃ lo of, r = (none, lo, of) /\ lo < of /\ x < of /\ hint + lo < n /\ B (hint + lo) = true)
   (Q := fun r st' => st' = st /\ ∃ lo of, r = (none, lo, of) /\ lo < of /\ hint + lo < n /\ B (hint + lo) = true /\ (n <= hint + of \/ (hint + of < n /\ B (hint + of) = false))) ?_ ?_ ⟨rfl, 0, 1, rfl, by omega, by omega, by omega, b0⟩) ?_)
  ·rintro x r st' _ hx ⟨rfl, lo, of, rfl, l1, l2, l3, l4⟩
   dsimp only
   by_cases e : of >= n - hint
   ·rw [if_pos e]
    exact wpS_pure ⟨rfl, lo, of, rfl, l1, l3, l4, .inl (by omega)⟩
   ·rw [if_neg e]
    refine wpS_bind (bey (hint + of) _ (by omega) ?_)
    cases b1 : B (hint + of) with
    | true => exact wpS_pure ⟨rfl, of, 2 * of + 1, rfl, by omega, by omega, by omega, b1⟩
    | false => exact wpS_pure ⟨rfl, lo, of, rfl, l1, l3, l4, .inr ⟨by omega, b1⟩⟩
  ·rintro r st' ⟨rfl, lo, of, rfl, l1, l2, l3, l4⟩
   exact ⟨rfl, lo, of, rfl, l1, l3, l4, .inl (by omega)⟩
  ·rintro r st' ⟨rfl, lo, of, rfl, l1, l3, l4, l5⟩
   dsimp only
   refine zsj (B := B) mono ?_ ?_ (by omega) (by omega) (fun i hi => mono i _ (by omega) l3 l4) (fun i h1 h2 => ?_) ?_
   ·intro x lo hi Q' e hq
    dsimp only
    rw [if_pos e]
    exact wpS_pure hq
   ·intro x lo hi Q' e e2 hq1 hq2
    dsimp only
    rw [if_neg (by omega)]
    refine wpS_bind (bey _ _ (by omega) ?_)
    cases b2 : B (lo + (hi - lo) / 2) with
    | true => exact wpS_pure (hq1 b2)
    | false => exact wpS_pure (hq2 b2)
   ·rcases l5 with z | ⟨z, z2⟩
    ·omega
    ·cases hBi : B i with
     | false => rfl
     | true => rw [mono (hint + of) i (by omega) h2 hBi] at z2; cases z2
   ·intro lo r r1 r2 r3
    exact wpS_pure (h r r1 r2 r3)
 | false =>
  dsimp only
  rw [if_neg (by decide)]
  refine wpS_bind (wpS_mono (wpS_forRange (I := fun x r st' => st' = st /\ ∃ lo of, r = (none, lo, of) /\ lo < of /\ x < of /\ lo <= hint /\ B (hint - lo) = false)
   (Q := fun r st' => st' = st /\ ∃ lo of, r = (none, lo, of) /\ lo < of /\ lo <= hint /\ B (hint - lo) = false /\ (hint < of \/ (of <= hint /\ B (hint - of) = true))) ?_ ?_ ⟨rfl, 0, 1, rfl, by omega, by omega, by omega, b0⟩) ?_)
  ·rintro x r st' _ hx ⟨rfl, lo, of, rfl, l1, l2, l3, l4⟩
   dsimp only
   by_cases e : of >= hint + 1
   ·rw [if_pos e]
    exact wpS_pure ⟨rfl, lo, of, rfl, l1, l3, l4, .inl (by omega)⟩
   ·rw [if_neg e]
    refine wpS_bind (bey (hint - of) _ (by omega) ?_)
    cases b1 : B (hint - of) with
    | true => exact wpS_pure ⟨rfl, lo, of, rfl, l1, l3, l4, .inr ⟨by omega, b1⟩⟩
    | false => exact wpS_pure ⟨rfl, of, 2 * of + 1, rfl, by omega, by omega, by omega, b1⟩
  ·rintro r st' ⟨rfl, lo, of, rfl, l1, l2, l3, l4⟩
   exact ⟨rfl, lo, of, rfl, l1, l3, l4, .inl (by omega)⟩
  ·rintro r st' ⟨rfl, lo, of, rfl, l1, l3, l4, l5⟩
   dsimp only
   refine zsj (B := B) mono ?_ ?_ (by omega) (by omega) (fun i hi => ?_) (fun i h1 h2 => ?_) ?_
   ·intro x lo hi Q' e hq
    dsimp only
    rw [if_pos e]
    exact wpS_pure hq
   ·intro x lo hi Q' e e2 hq1 hq2
    dsimp only
    rw [if_neg (by omega)]
    refine wpS_bind (bey _ _ (by omega) ?_)
    cases b2 : B (lo + (hi - lo) / 2) with
    | true => exact wpS_pure (hq1 b2)
    | false => exact wpS_pure (hq2 b2)
   ·rcases l5 with z | ⟨z, z2⟩
    ·omega
    ·exact mono i (hint - of) (by omega) (by omega) z2
   ·cases hBi : B i with
    | false => rfl
    | true => rw [mono (hint - lo) i (by omega) h2 hBi] at l4; cases l4
   ·intro lo r r1 r2 r3
    exact wpS_pure (h r r1 r2 r3)
end
end L2
namespace L2
open PySem PySem.W PyProof.Rows
def zqf : Array Keyed -> Array Keyed -> StateT SortSt Sem (Array Keyed) := sortPriv% PySem.Builtin.mergeLo
def zqg : Array Keyed -> Array Keyed -> StateT SortSt Sem (Array Keyed) := sortPriv% PySem.Builtin.mergeHi
def Gs (st st' : SortSt) : Prop := kindOf st' = kindOf st /\ arrOf st' = arrOf st /\ pendingOf st' = pendingOf st /\ failedOf st' = failedOf st
section
variable {lt : Nat -> Nat -> Bool}
abbrev Le (lt : Nat -> Nat -> Bool) (x y : Nat) : Prop := lt y x = false
structure MI (lt : Nat -> Nat -> Bool) (La Lb out : List Nat) (ia ib : Nat) : Prop where
 p : (out ++ (La.drop ia ++ Lb.drop ib)).Perm (La ++ Lb)
 s : out.Pairwise (Le lt)
 c : ∀ x ∈ out, ∀ y ∈ La.drop ia ++ Lb.drop ib, Le lt x y
theorem MI.as {La Lb out : List Nat} {ia ib : Nat} (m : MI lt La Lb out ia ib) (sa : La.Pairwise (Le lt)) (k : Nat) (h : ∀ x ∈ (La.drop ia).take k, ∀ y ∈ Lb.drop ib, Le lt x y) : MI lt La Lb (out ++ (La.drop ia).take k) (ia + k) ib := by
 have e : La.drop (ia + k) = (La.drop ia).drop k := by rw [List.drop_drop]
 have t : (La.drop ia).take k ++ (La.drop ia).drop k = La.drop ia := List.take_append_drop _ _
 have sd : ((La.drop ia).take k ++ (La.drop ia).drop k).Pairwise (Le lt) := by rw [t]; exact sa.sublist (List.drop_sublist _ _)
 obtain ⟨d1, d2, d3⟩ := List.pairwise_append.mp sd
 refine ⟨?_, List.pairwise_append.mpr ⟨m.s, d1, fun x hx y hy => m.c x hx y (List.mem_append_left _ (List.mem_of_mem_take hy))⟩, fun x hx y hy => ?_⟩
 ·have := m.p
  rw [<- t] at this
  rw [e]
  simpa [List.append_assoc] using this
 ·rw [e] at hy
  rcases List.mem_append.mp hx with hx | hx
  ·refine m.c x hx y ?_
   rcases List.mem_append.mp hy with z | z
   ·exact List.mem_append_left _ (List.mem_of_mem_drop z)
   ·exact List.mem_append_right _ z
  ·rcases List.mem_append.mp hy with z | z
   ·exact d3 x hx y z
   ·exact h x hx y z
theorem MI.bs {La Lb out : List Nat} {ia ib : Nat} (m : MI lt La Lb out ia ib) (sb : Lb.Pairwise (Le lt)) (k : Nat) (h : ∀ x ∈ (Lb.drop ib).take k, ∀ y ∈ La.drop ia, Le lt x y) : MI lt La Lb (out ++ (Lb.drop ib).take k) ia (ib + k) := by
 have e : Lb.drop (ib + k) = (Lb.drop ib).drop k := by rw [List.drop_drop]
 have t : (Lb.drop ib).take k ++ (Lb.drop ib).drop k = Lb.drop ib := List.take_append_drop _ _
 have sd : ((Lb.drop ib).take k ++ (Lb.drop ib).drop k).Pairwise (Le lt) := by rw [t]; exact sb.sublist (List.drop_sublist _ _)
 obtain ⟨d1, d2, d3⟩ := List.pairwise_append.mp sd
 refine ⟨?_, List.pairwise_append.mpr ⟨m.s, d1, fun x hx y hy => m.c x hx y (List.mem_append_right _ (List.mem_of_mem_take hy))⟩, fun x hx y hy => ?_⟩
 ·have := m.p
  rw [<- t] at this
  rw [e]
  refine List.Perm.trans ?_ this
  rw [List.append_assoc]
  refine List.Perm.append_left _ ?_
  rw [<- List.append_assoc, <- List.append_assoc]
  exact List.Perm.append_right _ List.perm_append_comm
 ·rw [e] at hy
  rcases List.mem_append.mp hx with hx | hx
  ·refine m.c x hx y ?_
   rcases List.mem_append.mp hy with z | z
   ·exact List.mem_append_left _ z
   ·exact List.mem_append_right _ (List.mem_of_mem_drop z)
  ·rcases List.mem_append.mp hy with z | z
   ·exact h x hx y z
   ·exact d3 x hx y z
def Told (lt : Nat -> Nat -> Bool) (it : Array Keyed) (La Lb : List Nat) (res : Array Keyed) : Prop := ∃ L : List Nat, res.toList = L.map (kas_item it) /\ L.Perm (La ++ Lb) /\ L.Pairwise (Le lt)
theorem MI.fin {La Lb out : List Nat} {ia ib : Nat} {it : Array Keyed} {o : Array Keyed} (m : MI lt La Lb out ia ib) (ho : o.toList = out.map (kas_item it)) (sa : La.Pairwise (Le lt)) (sb : Lb.Pairwise (Le lt)) (h : La.drop ia = [] \/ Lb.drop ib = []) :
  Told lt it La Lb (o ++ (La.map (kas_item it)).toArray.extract ia (La.map (kas_item it)).toArray.size ++ (Lb.map (kas_item it)).toArray.extract ib (Lb.map (kas_item it)).toArray.size) := by
 refine ⟨out ++ (La.drop ia ++ Lb.drop ib), ?_, m.p, List.pairwise_append.mpr ⟨m.s, ?_, m.c⟩⟩
 ·simp [ho, List.take_of_length_le]
 ·rcases h with h | h
  ·rw [h, List.nil_append]; exact sb.sublist (List.drop_sublist _ _)
  ·rw [h, List.append_nil]; exact sa.sublist (List.drop_sublist _ _)
theorem MI.last {La Lb out : List Nat} {ia ib : Nat} {it : Array Keyed} {o : Array Keyed} (m : MI lt La Lb out ia ib) (ho : o.toList = out.map (kas_item it)) (sa : La.Pairwise (Le lt)) (sb : Lb.Pairwise (Le lt)) (h : ∀ x ∈ Lb, ∀ y ∈ La.drop ia, Le lt x y) :
  Told lt it La Lb (o ++ (Lb.map (kas_item it)).toArray.extract ib (Lb.map (kas_item it)).toArray.size ++ (La.map (kas_item it)).toArray.extract ia (La.map (kas_item it)).toArray.size) := by
 refine ⟨out ++ (Lb.drop ib ++ La.drop ia), ?_, ?_, List.pairwise_append.mpr ⟨m.s, List.pairwise_append.mpr ⟨sb.sublist (List.drop_sublist _ _), sa.sublist (List.drop_sublist _ _), fun x hx y hy => h x (List.mem_of_mem_drop hx) y hy⟩, fun x hx y hy => m.c x hx y ?_⟩⟩
 ·simp [ho, List.take_of_length_le]
 ·exact (List.Perm.append_left _ List.perm_append_comm).trans m.p
 ·rcases List.mem_append.mp hy with z | z
  ·exact List.mem_append_right _ z
  ·exact List.mem_append_left _ z
end
section
variable {prog : Program} {w : World} {A : Around} {E : Value -> Shared -> Prop} {s : Shared} {κ : SortKind} {it : Array Keyed} {lt : Nat -> Nat -> Bool} {N : Nat}
theorem Le.tr (o : Ord lt) {x y z : Nat} (h1 : Le lt x y) (h2 : Le lt y z) : Le lt x z := o.tr x y z h1 h2
theorem kW (o : Ord lt) {L : List Nat} {i : Nat} (sL : L.Pairwise (Le lt)) (hi : i < L.length) : ∀ y ∈ L.drop i, Le lt L[i] y := by
 intro y hy
 rw [List.drop_eq_getElem_cons hi] at hy
 rcases List.mem_cons.mp hy with z | z
 ·rw [z]; exact o.rf _
 ·have := sL.sublist (List.drop_sublist i L)
  rw [List.drop_eq_getElem_cons hi, List.pairwise_cons] at this
  exact this.1 y z
theorem v8 {L : List Nat} {i : Nat} (hi : i < L.length) : (L.drop i).take 1 = [L[i]] := by rw [List.drop_eq_getElem_cons hi]; rfl
theorem vS {α : Type} {c : Prop} [Decidable c] {X Y : StateT SortSt Sem α} {st : SortSt} {Q : α -> SortSt -> Prop} (h1 : c -> wpS (model prog w) A E s X Q st) (h2 : ¬ c -> wpS (model prog w) A E s Y Q st) : wpS (model prog w) A E s (if c then X else Y) Q st := by
 by_cases h : c
 ·rw [if_pos h]; exact h1 h
 ·rw [if_neg h]; exact h2 h
theorem yI {α : Type} {c : Prop} [Decidable c] {X Y : StateT SortSt Sem α} {st : SortSt} {Q : α -> SortSt -> Prop} (h : c) (h1 : wpS (model prog w) A E s X Q st) : wpS (model prog w) A E s (if c then X else Y) Q st := by rw [if_pos h]; exact h1
theorem yV {α : Type} {c : Prop} [Decidable c] {X Y : StateT SortSt Sem α} {st : SortSt} {Q : α -> SortSt -> Prop} (h : ¬ c) (h1 : wpS (model prog w) A E s Y Q st) : wpS (model prog w) A E s (if c then X else Y) Q st := by rw [if_neg h]; exact h1
theorem wC {L : List Nat} {b r x : Nat} (h : x ∈ (L.drop b).take r) : ∃ i, i < r /\ b + i < L.length /\ x = L.getD (b + i) 0 := by
 obtain ⟨i, hi, rfl⟩ := List.getElem_of_mem h
 rw [List.length_take, List.length_drop] at hi
 refine ⟨i, by omega, by omega, ?_⟩
 rw [List.getElem_take, List.getElem_drop, List.getD_eq_getElem?_getD, List.getElem?_eq_getElem (by omega)]
 rfl
theorem gH {L : List Nat} {b x : Nat} (h : x ∈ L.drop b) : ∃ i, b + i < L.length /\ x = L.getD (b + i) 0 := by
 obtain ⟨i, hi, rfl⟩ := List.getElem_of_mem h
 rw [List.length_drop] at hi
 refine ⟨i, by omega, ?_⟩
 rw [List.getElem_drop, List.getD_eq_getElem?_getD, List.getElem?_eq_getElem (by omega)]
 rfl
theorem vL {left : Bool} {k : Nat} {L : List Nat} {base n hint : Nat} {st : SortSt} {Q : Option Nat -> SortSt -> Prop} (c : Cmp prog w A κ it lt N s) (o : Ord lt) (hk : kindOf st = κ) (kN : k < N) (qN : ∀ x ∈ L, x < N) (hb : base + n <= L.length) (hh : hint < n) (sL : L.Pairwise (Le lt))
  (h : ∀ r, r <= n -> (∀ i, i < r -> Bey lt left k (L.getD (base + i) 0) = true) -> (∀ i, r <= i -> i < n -> Bey lt left k (L.getD (base + i) 0) = false) -> Q (some r) st) :
  wpS (model prog w) A E s (zfn left (kas_item it k) (L.map (kas_item it)).toArray base n hint) Q st := by
 have e : (L.map (kas_item it)).toArray = L.toArray.map (kas_item it) := by simp
 have g : ∀ i, L.toArray.getD i 0 = L.getD i 0 := fun i => by rw [Array.getD_eq_getD_getElem?, List.getD_eq_getElem?_getD]; simp
 rw [e]
 refine zdw c hk kN (fun i hi => ?_) (by simpa using hb) hh (fun i j hij hj hB => ?_) (fun r r1 r2 r3 => h r r1 (fun i hi => ?_) (fun i h1 h2 => ?_))
 ·rw [g]
  have hi' : i < L.length := by simpa using hi
  rw [List.getD_eq_getElem?_getD, List.getElem?_eq_getElem hi']
  exact qN _ (List.getElem_mem hi')
 ·rw [g] at hB ⊢
  have lij : Le lt (L.getD (base + i) 0) (L.getD (base + j) 0) := by
   have h1 : base + i < L.length := by omega
   have h2 : base + j < L.length := by omega
   rw [List.getD_eq_getElem?_getD, List.getElem?_eq_getElem h1, List.getD_eq_getElem?_getD, List.getElem?_eq_getElem h2]
   by_cases e : i = j
   ·subst e; exact o.rf _
   ·exact List.pairwise_iff_getElem.mp sL _ _ h1 h2 (by omega)
  unfold Bey at hB ⊢
  cases left with
  | true =>
   rw [if_pos rfl] at hB ⊢
   cases z : lt (L.getD (base + i) 0) k with
   | true => rfl
   | false => rw [Le.tr o (x := k) z lij] at hB; cases hB
  | false =>
   rw [if_neg (by decide)] at hB ⊢
   have hB' : Le lt (L.getD (base + j) 0) k := by simpa using hB
   have := Le.tr o lij hB'
   rw [this]
   rfl
 ·have := r2 i hi; rw [g] at this; exact this
 ·have := r3 i h1 h2; rw [g] at this; exact this
theorem x8 {L : List Nat} {i : Nat} {st : SortSt} {Q : Keyed -> SortSt -> Prop} (hi : i < L.length) (h : Q (kas_item it L[i]) st) : wpS (model prog w) A E s (elem' (L.map (kas_item it)).toArray i) Q st := by
 rw [elem'_eq]
 have e : (L.map (kas_item it)).toArray[i]? = some (kas_item it L[i]) := by simp [hi]
 rw [e]
 exact wpS_pure h
def At (lt : Nat -> Nat -> Bool) (it : Array Keyed) (La Lb : List Nat) (out : Array Keyed) (ia ib : Nat) : Prop := ∃ L : List Nat, out.toList = L.map (kas_item it) /\ MI lt La Lb L ia ib
theorem At.b1 (o : Ord lt) {La Lb : List Nat} {out : Array Keyed} {ia ib : Nat} (h : At lt it La Lb out ia ib) (sb : Lb.Pairwise (Le lt)) (hi : ib < Lb.length) (hle : ∀ y ∈ La.drop ia, Le lt Lb[ib] y) : At lt it La Lb (out.push (kas_item it Lb[ib])) ia (ib + 1) := by
 obtain ⟨L, e, m⟩ := h
 have := m.bs sb 1 (by rw [v8 hi]; intro x hx; rw [List.mem_singleton.mp hx]; exact hle)
 rw [v8 hi] at this
 exact ⟨_, by rw [Array.toList_push, e, List.map_append]; rfl, this⟩
theorem At.a1 (o : Ord lt) {La Lb : List Nat} {out : Array Keyed} {ia ib : Nat} (h : At lt it La Lb out ia ib) (sa : La.Pairwise (Le lt)) (hi : ia < La.length) (hle : ∀ y ∈ Lb.drop ib, Le lt La[ia] y) : At lt it La Lb (out.push (kas_item it La[ia])) (ia + 1) ib := by
 obtain ⟨L, e, m⟩ := h
 have := m.as sa 1 (by rw [v8 hi]; intro x hx; rw [List.mem_singleton.mp hx]; exact hle)
 rw [v8 hi] at this
 exact ⟨_, by rw [Array.toList_push, e, List.map_append]; rfl, this⟩
theorem At.an {La Lb : List Nat} {out : Array Keyed} {ia ib : Nat} (h : At lt it La Lb out ia ib) (sa : La.Pairwise (Le lt)) (k : Nat) (hle : ∀ x ∈ (La.drop ia).take k, ∀ y ∈ Lb.drop ib, Le lt x y) : At lt it La Lb (out ++ (La.map (kas_item it)).toArray.extract ia (ia + k)) (ia + k) ib := by
 obtain ⟨L, e, m⟩ := h
 exact ⟨_, by simp [e, List.map_take, List.map_drop], m.as sa k hle⟩
theorem At.bn {La Lb : List Nat} {out : Array Keyed} {ia ib : Nat} (h : At lt it La Lb out ia ib) (sb : Lb.Pairwise (Le lt)) (k : Nat) (hle : ∀ x ∈ (Lb.drop ib).take k, ∀ y ∈ La.drop ia, Le lt x y) : At lt it La Lb (out ++ (Lb.map (kas_item it)).toArray.extract ib (ib + k)) ia (ib + k) := by
 obtain ⟨L, e, m⟩ := h
 exact ⟨_, by simp [e, List.map_take, List.map_drop], m.bs sb k hle⟩
end
end L2
namespace L2
open PySem PySem.W PyProof.Rows
section
variable {prog : Program} {w : World} {A : Around} {E : Value -> Shared -> Prop} {s : Shared} {κ : SortKind} {it : Array Keyed} {lt : Nat -> Nat -> Bool} {N : Nat}
theorem Gs.refl (st : SortSt) : Gs st st := ⟨rfl, rfl, rfl, rfl⟩
theorem Told.fin {La Lb : List Nat} {out : Array Keyed} {ia ib : Nat} (h : At lt it La Lb out ia ib) (sa : La.Pairwise (Le lt)) (sb : Lb.Pairwise (Le lt)) (z : La.length <= ia \/ Lb.length <= ib) :
  Told lt it La Lb (out ++ (La.map (kas_item it)).toArray.extract ia (La.map (kas_item it)).toArray.size ++ (Lb.map (kas_item it)).toArray.extract ib (Lb.map (kas_item it)).toArray.size) := by
 obtain ⟨L, e, m⟩ := h
 exact m.fin e sa sb (z.elim (fun z => .inl (List.drop_eq_nil_of_le z)) fun z => .inr (List.drop_eq_nil_of_le z))
theorem Told.last {La Lb : List Nat} {out : Array Keyed} {ia ib : Nat} (h : At lt it La Lb out ia ib) (sa : La.Pairwise (Le lt)) (sb : Lb.Pairwise (Le lt)) (hl : ∀ x ∈ Lb, ∀ y ∈ La.drop (La.length - 1), Le lt x y) (z : ia + 1 = La.length) :
  Told lt it La Lb (out ++ (Lb.map (kas_item it)).toArray.extract ib (Lb.map (kas_item it)).toArray.size ++ (La.map (kas_item it)).toArray.extract ia (La.map (kas_item it)).toArray.size) := by
 obtain ⟨L, e, m⟩ := h
 have : ia = La.length - 1 := by omega
 subst this
 exact m.last e sa sb hl
theorem zit {La Lb : List Nat} {st : SortSt} {Q : Array Keyed -> SortSt -> Prop} (c : Cmp prog w A κ it lt N s) (o : Ord lt) (hk : kindOf st = κ) (aN : ∀ x ∈ La, x < N) (bN : ∀ x ∈ Lb, x < N) (sa : La.Pairwise (Le lt)) (sb : Lb.Pairwise (Le lt)) (ha : 0 < La.length) (hb : 0 < Lb.length)
  (hf : ∀ y ∈ La, Le lt Lb[0] y) (hl : ∀ x ∈ Lb, ∀ y ∈ La.drop (La.length - 1), Le lt x y) (h : ∀ res st', Gs st st' -> Told lt it La Lb res -> Q res st') : wpS (model prog w) A E s (zqf (La.map (kas_item it)).toArray (Lb.map (kas_item it)).toArray) Q st := by
 refine wpS_bind ?_
 refine wpS_lift (wpAny_rule ⟨rfl, ?_⟩)
 dsimp only
 refine wpS_bind (x8 hb ?_)
 have sz : ∀ L : List Nat, (L.map (kas_item it)).toArray.size = L.length := fun L => by simp
 have at0 : At lt it La Lb #[kas_item it Lb[0]] 0 1 := by
  have m0 : MI lt La Lb [] 0 0 := ⟨by simp, .nil, fun x hx => nomatch hx⟩
  have := At.b1 (it := it) o (out := #[]) ⟨[], rfl, m0⟩ sb hb (by simpa using hf)
  exact this
 by_cases e1 : 1 = Lb.length
 ·rw [if_pos (by simp [e1])]
  exact wpS_pure (h _ _ (Gs.refl _) (Told.fin at0 sa sb (.inr (by omega))))
 rw [if_neg (by simp [e1])]
 by_cases e2 : 0 + 1 = La.length
 ·rw [if_pos (by simp; omega)]
  exact wpS_pure (h _ _ (Gs.refl _) (Told.last at0 sa sb hl e2))
 rw [if_neg (by simp; omega)]
 refine wpS_bind (wpS_get ?_)
 generalize gallopOf st = mg0
 refine wpS_bind (wpS_mono (wpS_forRange
  (I := fun x r st' => Gs st st' /\ ∃ out ia ib mg, r = (none, out, ia, ib, mg) /\ At lt it La Lb out ia ib /\ ia + 1 < La.length /\ ib < Lb.length /\ x + 1 <= ia + ib)
  (Q := fun r st' => Gs st st' /\ ∃ res z, r = (some res, z) /\ Told lt it La Lb res) ?_ ?_ ⟨Gs.refl _, _, 0, 1, _, rfl, at0, by omega, by omega, by omega⟩) ?_)
 rotate_left
 ·rintro r st' ⟨_, out, ia, ib, mg, rfl, a1, a2, a3, a4⟩
  exfalso
  rw [sz, sz] at a4
  omega
 ·rintro r st' ⟨g, res, z, rfl, t⟩
  exact wpS_pure (h _ _ g t)
 rintro x r st1 _ hx ⟨g1, out, ia, ib, mg, rfl, a1, a2, a3, a4⟩
 dsimp only
 refine wpS_bind (wpS_mono (wpS_forRange
  (I := fun y r st' => st' = st1 /\ ∃ out' ia' ib' ac bc, r = (none, out', ia', ib', ac, bc) /\ At lt it La Lb out' ia' ib' /\ ia' + 1 < La.length /\ ib' < Lb.length /\ ia + ib + y <= ia' + ib')
  (Q := fun r st' => st' = st1 /\ ((∃ res z, r = (some res, z) /\ Told lt it La Lb res) \/ ∃ out' ia' ib' ac bc, r = (none, out', ia', ib', ac, bc) /\ At lt it La Lb out' ia' ib' /\ ia' + 1 < La.length /\ ib' < Lb.length /\ ia + ib + 1 <= ia' + ib')) ?_ ?_ ⟨rfl, _, _, _, _, _, rfl, a1, a2, a3, by omega⟩) ?_)
 ·rintro y r st' _ hy ⟨rfl, out, ia', ib', ac, bc, rfl, b1, b2, b3, b4⟩
  dsimp only
  refine wpS_bind (x8 b3 (wpS_bind (x8 (show ia' < La.length by omega) (wpS_bind (ziy c (g1.1.trans hk) (bN _ (List.getElem_mem _)) (aN _ (List.getElem_mem _)) ?_)))))
  cases w1 : lt Lb[ib'] La[ia'] with
  | true =>
   dsimp only
   rw [if_pos rfl]
   refine wpS_bind (x8 b3 ?_)
   have n1 := At.b1 o b1 sb b3 fun z hz => Le.tr o (o.as _ _ w1) (kW o sa (by omega) z hz)
   by_cases f1 : ib' + 1 = Lb.length
   ·rw [if_pos (by simp [f1])]
    exact wpS_pure ⟨rfl, .inl ⟨_, _, rfl, Told.fin n1 sa sb (.inr (by omega))⟩⟩
   ·rw [if_neg (by simp [f1])]
    split
    ·exact wpS_pure ⟨rfl, .inr ⟨_, _, _, _, _, rfl, n1, b2, by omega, by omega⟩⟩
    ·exact wpS_pure ⟨rfl, _, _, _, _, _, rfl, n1, b2, by omega, by omega⟩
  | false =>
   dsimp only
   rw [if_neg (by decide)]
   refine wpS_bind (x8 (show ia' < La.length by omega) ?_)
   have n1 := At.a1 o b1 sa (show ia' < La.length by omega) fun z hz => Le.tr o w1 (kW o sb b3 z hz)
   by_cases f1 : ia' + 1 + 1 = La.length
   ·rw [if_pos (by simp [f1])]
    exact wpS_pure ⟨rfl, .inl ⟨_, _, rfl, Told.last n1 sa sb hl f1⟩⟩
   ·rw [if_neg (by simp [f1])]
    split
    ·exact wpS_pure ⟨rfl, .inr ⟨_, _, _, _, _, rfl, n1, by omega, b3, by omega⟩⟩
    ·exact wpS_pure ⟨rfl, _, _, _, _, _, rfl, n1, by omega, b3, by omega⟩
 ·rintro r st' ⟨_, out, ia', ib', ac, bc, rfl, b1, b2, b3, b4⟩
  exfalso
  rw [sz, sz] at b4
  omega
 rintro r st' ⟨rfl, z⟩
 rcases z with ⟨res, z, rfl, t⟩ | ⟨out2, ia2, ib2, ac, bc, rfl, b1, b2, b3, b4⟩
 ·dsimp only
  exact wpS_pure ⟨g1, _, _, rfl, t⟩
 dsimp only
 refine wpS_bind (wpS_lift (wpAny_rule ⟨rfl, ?_⟩))
 refine wpS_bind (wpS_mono (wpS_forRange
  (I := fun y r st' => Gs st st' /\ ∃ out' ia' ib' mg ac bc, r = (none, out', ia', ib', mg, ac, bc) /\ At lt it La Lb out' ia' ib' /\ ia' + 1 < La.length /\ ib' < Lb.length /\ ia + ib + 1 + y <= ia' + ib')
  (Q := fun r st' => Gs st st' /\ ((∃ res z, r = (some res, z) /\ Told lt it La Lb res) \/ ∃ out' ia' ib' mg ac bc, r = (none, out', ia', ib', mg, ac, bc) /\ At lt it La Lb out' ia' ib' /\ ia' + 1 < La.length /\ ib' < Lb.length /\ ia + ib + 1 <= ia' + ib')) ?_ ?_ ⟨g1, _, _, _, _, _, _, rfl, b1, b2, b3, by omega⟩) ?_)
 rotate_left
 ·rintro r st' ⟨_, out, ia', ib', mg, ac, bc, rfl, b1, b2, b3, b4⟩
  exfalso
  rw [sz, sz] at b4
  omega
 ·rintro r st' ⟨g2, z⟩
  rcases z with ⟨res, z, rfl, t⟩ | ⟨out3, ia3, ib3, mg3, ac3, bc3, rfl, d1, d2, d3, d4⟩
  ·dsimp only
   exact wpS_pure ⟨g2, _, _, rfl, t⟩
  ·dsimp only
   refine wpS_bind (wpS_modify (wpS_pure ⟨⟨g2.1, g2.2.1, g2.2.2.1, g2.2.2.2⟩, _, _, _, _, rfl, d1, d2, d3, by omega⟩))
 clear b1 b2 b3 b4 a1 a2 a3
 rintro y r st2 _ hy ⟨g2, out, ia', ib', mg, ac, bc, rfl, b1, b2, b3, b4⟩
 dsimp only
 refine vS (fun _ => ?_) (fun _ => ?_)
 all_goals
  refine wpS_bind (wpS_modify ?_)
  refine wpS_bind (x8 b3 ?_)
  refine wpS_bind (vL c o (by exact g2.1.trans hk) (bN _ (List.getElem_mem _)) aN (by rw [sz]; omega) (by rw [sz]; omega) sa fun k k1 k2 k3 => ?_)
  rw [sz] at k1 k3
  dsimp only
  have A1 := b1.an sa k fun x hx y hy => by
   obtain ⟨j, j1, j2, rfl⟩ := wC hx
   have := k2 j j1
   unfold Bey at this
   rw [if_neg (by decide)] at this
   exact Le.tr o (show Le lt _ Lb[ib'] by simpa using this) (kW o sb b3 y hy)
  have R1 : ∀ y ∈ La.drop (ia' + k), Le lt Lb[ib'] y := fun y hy => by
   obtain ⟨j, j1, rfl⟩ := gH hy
   have := k3 (k + j) (by omega) (by omega)
   unfold Bey at this
   rw [if_neg (by decide), <- Nat.add_assoc] at this
   exact o.as _ _ (by simpa using this)
  by_cases kp : k > 0
  case' pos =>
   refine yI kp ?_
   by_cases f1 : ia' + k + 1 = La.length
   ·refine yI (by simp [f1]) ?_
    exact wpS_pure ⟨⟨g2.1, g2.2.1, g2.2.2.1, g2.2.2.2⟩, .inl ⟨_, _, rfl, Told.last A1 sa sb hl f1⟩⟩
   refine yV (by simp [f1]) ?_
   by_cases f2 : ia' + k = La.length
   ·refine yI (by simp [f2]) ?_
    exact wpS_pure ⟨⟨g2.1, g2.2.1, g2.2.2.1, g2.2.2.2⟩, .inl ⟨_, _, rfl, Told.fin A1 sa sb (.inl (by omega))⟩⟩
   refine yV (by simp [f2]) ?_
   have i3 : ia' + k + 1 < La.length := by omega
   have i4 : ia' <= ia' + k := by omega
   generalize out ++ (La.map (kas_item it)).toArray.extract ia' (ia' + k) = o2 at A1 ⊢
   generalize ia' + k = i2 at A1 R1 i3 i4 ⊢
  case' neg =>
   refine yV kp ?_
   have k0 : k = 0 := by omega
   rw [k0] at R1
   have i3 : ia' + 1 < La.length := b2
   have i4 : ia' <= ia' := Nat.le_refl _
   clear A1
   have A1 := b1
   generalize hi2 : ia' + 0 = i2 at R1
   rw [Nat.add_zero] at hi2
   rw [hi2] at i3 i4 A1 ⊢
   generalize out = o2 at A1 ⊢
  all_goals
   refine wpS_bind (x8 b3 ?_)
   have A2 := At.b1 o A1 sb b3 R1
   by_cases f3 : ib' + 1 = Lb.length
   ·refine yI (by simp [f3]) ?_
    exact wpS_pure ⟨⟨g2.1, g2.2.1, g2.2.2.1, g2.2.2.2⟩, .inl ⟨_, _, rfl, Told.fin A2 sa sb (.inr (by omega))⟩⟩
   refine yV (by simp [f3]) ?_
   refine wpS_bind (x8 (show i2 < La.length by omega) ?_)
   refine wpS_bind (vL c o (by exact g2.1.trans hk) (aN _ (List.getElem_mem _)) bN (by rw [sz]; omega) (by rw [sz]; omega) sb fun m m1 m2 m3 => ?_)
   rw [sz] at m1 m3
   dsimp only
   have A3 := A2.bn sb m fun x hx y hy => by
    obtain ⟨j, j1, j2, rfl⟩ := wC hx
    have := m2 j j1
    unfold Bey at this
    rw [if_pos rfl] at this
    exact Le.tr o (o.as _ _ this) (kW o sa (by omega) y hy)
   have R3 : ∀ y ∈ Lb.drop (ib' + 1 + m), Le lt La[i2] y := fun y hy => by
    obtain ⟨j, j1, rfl⟩ := gH hy
    have := m3 (m + j) (by omega) (by omega)
    unfold Bey at this
    rw [if_pos rfl, <- Nat.add_assoc] at this
    exact this
   have i5 : ib' + 1 < Lb.length := by omega
   by_cases mp : m > 0
   case' pos =>
    refine yI mp ?_
    by_cases f4 : ib' + 1 + m = Lb.length
    ·refine yI (by simp [f4]) ?_
     exact wpS_pure ⟨⟨g2.1, g2.2.1, g2.2.2.1, g2.2.2.2⟩, .inl ⟨_, _, rfl, Told.fin A3 sa sb (.inr (by omega))⟩⟩
    refine yV (by simp [f4]) ?_
    have j3 : ib' + 1 + m < Lb.length := by omega
    have j4 : ib' + 1 <= ib' + 1 + m := by omega
    generalize o2.push (kas_item it Lb[ib']) ++ (Lb.map (kas_item it)).toArray.extract (ib' + 1) (ib' + 1 + m) = o3 at A3 ⊢
    generalize ib' + 1 + m = j2 at A3 R3 j3 j4 ⊢
   case' neg =>
    refine yV mp ?_
    have m0 : m = 0 := by omega
    rw [m0] at R3
    have j3 : ib' + 1 < Lb.length := i5
    have j4 : ib' + 1 <= ib' + 1 := Nat.le_refl _
    clear A3
    have A3 := A2
    rw [Nat.add_zero] at R3
    generalize hj2 : ib' + 1 = j2 at A3 R3 j3 j4 ⊢
    rw [<- hj2] at j4
    generalize o2.push (kas_item it Lb[ib']) = o3 at A3 ⊢
   all_goals
    refine wpS_bind (x8 (show i2 < La.length by omega) ?_)
    have A4 := At.a1 o A3 sa (show i2 < La.length by omega) R3
    by_cases f5 : i2 + 1 + 1 = La.length
    ·refine yI (by simp [f5]) ?_
     exact wpS_pure ⟨⟨g2.1, g2.2.1, g2.2.2.1, g2.2.2.2⟩, .inl ⟨_, _, rfl, Told.last A4 sa sb hl f5⟩⟩
    refine yV (by simp [f5]) (vS (fun _ => ?_) (fun _ => ?_))
    ·exact wpS_pure ⟨⟨g2.1, g2.2.1, g2.2.2.1, g2.2.2.2⟩, .inr ⟨_, _, _, _, _, _, rfl, A4, by omega, j3, by omega⟩⟩
    ·exact wpS_pure ⟨⟨g2.1, g2.2.1, g2.2.2.1, g2.2.2.2⟩, _, _, _, _, _, _, rfl, A4, by omega, j3, by omega⟩
end
end L2
namespace L2
open PySem PySem.W PyProof.Rows
section
variable {prog : Program} {w : World} {A : Around} {E : Value -> Shared -> Prop} {s : Shared} {κ : SortKind} {it : Array Keyed} {lt : Nat -> Nat -> Bool} {N : Nat}
structure MH (lt : Nat -> Nat -> Bool) (La Lb R : List Nat) (na nb : Nat) : Prop where
 p : ((La.take na ++ Lb.take nb) ++ R).Perm (La ++ Lb)
 s : R.Pairwise (Le lt)
 c : ∀ x ∈ La.take na ++ Lb.take nb, ∀ y ∈ R, Le lt x y
theorem MH.as {La Lb R : List Nat} {na nb : Nat} (m : MH lt La Lb R na nb) (sa : La.Pairwise (Le lt)) (j : Nat) (hj : j <= na) (h : ∀ x ∈ Lb.take nb, ∀ y ∈ (La.take na).drop j, Le lt x y) : MH lt La Lb ((La.take na).drop j ++ R) j nb := by
 have e : La.take j = (La.take na).take j := by rw [List.take_take, Nat.min_eq_left hj]
 have t : (La.take na).take j ++ (La.take na).drop j = La.take na := List.take_append_drop _ _
 have sd : ((La.take na).take j ++ (La.take na).drop j).Pairwise (Le lt) := by rw [t]; exact sa.sublist (List.take_sublist _ _)
 obtain ⟨d1, d2, d3⟩ := List.pairwise_append.mp sd
 refine ⟨?_, List.pairwise_append.mpr ⟨d2, m.s, fun x hx y hy => m.c x (List.mem_append_left _ (List.mem_of_mem_drop hx)) y hy⟩, fun x hx y hy => ?_⟩
 ·refine List.Perm.trans ?_ m.p
  rw [e, <- List.append_assoc]
  refine List.Perm.append_right _ ?_
  conv => rhs; rw [<- t]
  rw [List.append_assoc, List.append_assoc]
  exact List.Perm.append_left _ List.perm_append_comm
 ·rw [e] at hx
  rcases List.mem_append.mp hy with hy | hy
  ·rcases List.mem_append.mp hx with z | z
   ·exact d3 x z y hy
   ·exact h x z y hy
  ·refine m.c x ?_ y hy
   rcases List.mem_append.mp hx with z | z
   ·exact List.mem_append_left _ (List.mem_of_mem_take z)
   ·exact List.mem_append_right _ z
theorem MH.bs {La Lb R : List Nat} {na nb : Nat} (m : MH lt La Lb R na nb) (sb : Lb.Pairwise (Le lt)) (j : Nat) (hj : j <= nb) (h : ∀ x ∈ La.take na, ∀ y ∈ (Lb.take nb).drop j, Le lt x y) : MH lt La Lb ((Lb.take nb).drop j ++ R) na j := by
 have e : Lb.take j = (Lb.take nb).take j := by rw [List.take_take, Nat.min_eq_left hj]
 have t : (Lb.take nb).take j ++ (Lb.take nb).drop j = Lb.take nb := List.take_append_drop _ _
 have sd : ((Lb.take nb).take j ++ (Lb.take nb).drop j).Pairwise (Le lt) := by rw [t]; exact sb.sublist (List.take_sublist _ _)
 obtain ⟨d1, d2, d3⟩ := List.pairwise_append.mp sd
 refine ⟨?_, List.pairwise_append.mpr ⟨d2, m.s, fun x hx y hy => m.c x (List.mem_append_right _ (List.mem_of_mem_drop hx)) y hy⟩, fun x hx y hy => ?_⟩
 ·refine List.Perm.trans ?_ m.p
  rw [e, <- List.append_assoc, List.append_assoc (La.take na), t]
 ·rw [e] at hx
  rcases List.mem_append.mp hy with hy | hy
  ·rcases List.mem_append.mp hx with z | z
   ·exact h x z y hy
   ·exact d3 x z y hy
  ·refine m.c x ?_ y hy
   rcases List.mem_append.mp hx with z | z
   ·exact List.mem_append_left _ z
   ·exact List.mem_append_right _ (List.mem_of_mem_take z)
def Ah (lt : Nat -> Nat -> Bool) (it : Array Keyed) (La Lb : List Nat) (out : Array Keyed) (na nb : Nat) : Prop := ∃ R : List Nat, out.toList = R.reverse.map (kas_item it) /\ MH lt La Lb R na nb
theorem kI {L : List Nat} {n : Nat} (h0 : 0 < n) (hn : n <= L.length) : (L.take n).drop (n - 1) = [L[n - 1]] := by
 rw [List.drop_take, List.drop_eq_getElem_cons (show n - 1 < L.length by omega), show n - (n - 1) = 1 by omega]
 rfl
theorem kU (o : Ord lt) {L : List Nat} {n : Nat} (sL : L.Pairwise (Le lt)) (h0 : 0 < n) (hn : n <= L.length) : ∀ x ∈ L.take n, Le lt x L[n - 1] := by
 intro x hx
 obtain ⟨i, hi, rfl⟩ := List.getElem_of_mem hx
 rw [List.length_take] at hi
 rw [List.getElem_take]
 by_cases e : i = n - 1
 ·subst e; exact o.rf _
 ·exact List.pairwise_iff_getElem.mp sL _ _ (by omega) (by omega) (by omega)
theorem Ah.a1 {La Lb : List Nat} {out : Array Keyed} {na nb : Nat} (h : Ah lt it La Lb out na nb) (sa : La.Pairwise (Le lt)) (h0 : 0 < na) (hn : na <= La.length) (hle : ∀ x ∈ Lb.take nb, Le lt x La[na - 1]) : Ah lt it La Lb (out.push (kas_item it La[na - 1])) (na - 1) nb := by
 obtain ⟨R, e, m⟩ := h
 have := m.as sa (na - 1) (by omega) (by rw [kI h0 hn]; intro x hx y hy; rw [List.mem_singleton.mp hy]; exact hle x hx)
 rw [kI h0 hn] at this
 exact ⟨_, by rw [Array.toList_push, e]; simp, this⟩
theorem Ah.b1 {La Lb : List Nat} {out : Array Keyed} {na nb : Nat} (h : Ah lt it La Lb out na nb) (sb : Lb.Pairwise (Le lt)) (h0 : 0 < nb) (hn : nb <= Lb.length) (hle : ∀ x ∈ La.take na, Le lt x Lb[nb - 1]) : Ah lt it La Lb (out.push (kas_item it Lb[nb - 1])) na (nb - 1) := by
 obtain ⟨R, e, m⟩ := h
 have := m.bs sb (nb - 1) (by omega) (by rw [kI h0 hn]; intro x hx y hy; rw [List.mem_singleton.mp hy]; exact hle x hx)
 rw [kI h0 hn] at this
 exact ⟨_, by rw [Array.toList_push, e]; simp, this⟩
theorem Ah.an {La Lb : List Nat} {out : Array Keyed} {na nb : Nat} (h : Ah lt it La Lb out na nb) (sa : La.Pairwise (Le lt)) (j : Nat) (hj : j <= na) (hle : ∀ x ∈ Lb.take nb, ∀ y ∈ (La.take na).drop j, Le lt x y) : Ah lt it La Lb (out ++ ((La.map (kas_item it)).toArray.extract j na).reverse) j nb := by
 obtain ⟨R, e, m⟩ := h
 exact ⟨_, by simp [e, List.drop_take, List.map_take, List.map_drop], m.as sa j hj hle⟩
theorem Ah.bn {La Lb : List Nat} {out : Array Keyed} {na nb : Nat} (h : Ah lt it La Lb out na nb) (sb : Lb.Pairwise (Le lt)) (j : Nat) (hj : j <= nb) (hle : ∀ x ∈ La.take na, ∀ y ∈ (Lb.take nb).drop j, Le lt x y) : Ah lt it La Lb (out ++ ((Lb.map (kas_item it)).toArray.extract j nb).reverse) na j := by
 obtain ⟨R, e, m⟩ := h
 exact ⟨_, by simp [e, List.drop_take, List.map_take, List.map_drop], m.bs sb j hj hle⟩
theorem Told.hi {La Lb : List Nat} {out : Array Keyed} {na nb : Nat} (h : Ah lt it La Lb out na nb) (sa : La.Pairwise (Le lt)) (sb : Lb.Pairwise (Le lt)) (z : na = 0 \/ nb = 0) :
  Told lt it La Lb ((La.map (kas_item it)).toArray.extract 0 na ++ (Lb.map (kas_item it)).toArray.extract 0 nb ++ out.reverse) := by
 obtain ⟨R, e, m⟩ := h
 refine ⟨(La.take na ++ Lb.take nb) ++ R, by simp [e, List.map_take], m.p, List.pairwise_append.mpr ⟨?_, m.s, m.c⟩⟩
 rcases z with z | z
 ·rw [z, List.take_zero, List.nil_append]; exact sb.sublist (List.take_sublist _ _)
 ·rw [z, List.take_zero, List.append_nil]; exact sa.sublist (List.take_sublist _ _)
theorem Told.first {La Lb : List Nat} {out : Array Keyed} {na nb : Nat} (h : Ah lt it La Lb out na nb) (sa : La.Pairwise (Le lt)) (sb : Lb.Pairwise (Le lt)) (z : ∀ x ∈ Lb.take nb, ∀ y ∈ La, Le lt x y) :
  Told lt it La Lb ((Lb.map (kas_item it)).toArray.extract 0 nb ++ (La.map (kas_item it)).toArray.extract 0 na ++ out.reverse) := by
 obtain ⟨R, e, m⟩ := h
 refine ⟨(Lb.take nb ++ La.take na) ++ R, by simp [e, List.map_take], (List.Perm.append_right _ List.perm_append_comm).trans m.p, List.pairwise_append.mpr ⟨List.pairwise_append.mpr ⟨sb.sublist (List.take_sublist _ _), sa.sublist (List.take_sublist _ _), fun x hx y hy => z x hx y (List.mem_of_mem_take hy)⟩, m.s, fun x hx y hy => m.c x ?_ y hy⟩⟩
 rcases List.mem_append.mp hx with z | z
 ·exact List.mem_append_right _ z
 ·exact List.mem_append_left _ z
theorem ziu {La Lb : List Nat} {st : SortSt} {Q : Array Keyed -> SortSt -> Prop} (c : Cmp prog w A κ it lt N s) (o : Ord lt) (hk : kindOf st = κ) (aN : ∀ x ∈ La, x < N) (bN : ∀ x ∈ Lb, x < N) (sa : La.Pairwise (Le lt)) (sb : Lb.Pairwise (Le lt)) (ha : 0 < La.length) (hb : 0 < Lb.length)
  (hf : ∀ y ∈ La, Le lt Lb[0] y) (hl : ∀ x ∈ Lb, Le lt x La[La.length - 1]) (h : ∀ res st', Gs st st' -> Told lt it La Lb res -> Q res st') : wpS (model prog w) A E s (zqg (La.map (kas_item it)).toArray (Lb.map (kas_item it)).toArray) Q st := by
 refine wpS_bind ?_
 refine wpS_lift (wpAny_rule ⟨rfl, ?_⟩)
 dsimp only
 have sz : ∀ L : List Nat, (L.map (kas_item it)).toArray.size = L.length := fun L => by simp
 simp only [sz]
 refine wpS_bind (x8 (show La.length - 1 < La.length by omega) ?_)
 have hf1 : ∀ x ∈ Lb.take 1, ∀ y ∈ La, Le lt x y := fun x hx y hy => by
  rw [show Lb.take 1 = [Lb[0]] by have := v8 (L := Lb) hb; simpa using this] at hx
  rw [List.mem_singleton.mp hx]
  exact hf y hy
 have at0 : Ah lt it La Lb #[kas_item it La[La.length - 1]] (La.length - 1) Lb.length := by
  have m0 : MH lt La Lb [] La.length Lb.length := ⟨by simp, .nil, fun x _ y hy => nomatch hy⟩
  exact Ah.a1 (it := it) (out := #[]) ⟨[], rfl, m0⟩ sa ha (Nat.le_refl _) fun x hx => hl x (List.mem_of_mem_take hx)
 by_cases e1 : La.length - 1 = 0
 ·refine yI (by simp [e1]) ?_
  exact wpS_pure (h _ _ (Gs.refl _) (Told.hi at0 sa sb (.inl e1)))
 refine yV (by simpa using e1) ?_
 by_cases e2 : Lb.length = 1
 ·refine yI (by simp [e2]) ?_
  exact wpS_pure (h _ _ (Gs.refl _) (Told.first at0 sa sb (by rw [e2]; exact hf1)))
 refine yV (by simpa using e2) ?_
 refine wpS_bind (wpS_get ?_)
 refine wpS_bind (wpS_mono (wpS_forRange
  (I := fun x r st' => Gs st st' /\ ∃ na nb out mg, r = (none, na, nb, out, mg) /\ Ah lt it La Lb out na nb /\ 0 < na /\ na <= La.length /\ 1 < nb /\ nb <= Lb.length /\ na + nb + x + 1 <= La.length + Lb.length)
  (Q := fun r st' => Gs st st' /\ ∃ res z, r = (some res, z) /\ Told lt it La Lb res) ?_ ?_ ⟨Gs.refl _, _, _, _, _, rfl, at0, by omega, by omega, by omega, by omega, by omega⟩) ?_)
 rotate_left
 ·rintro r st' ⟨_, na, nb, out, mg, rfl, a1, a2, a3, a4, a5, a6⟩
  exfalso
  omega
 ·rintro r st' ⟨g, res, z, rfl, t⟩
  exact wpS_pure (h _ _ g t)
 rintro x r st1 _ hx ⟨g1, na, nb, out, mg, rfl, a1, a2, a3, a4, a5, a6⟩
 dsimp only
 refine wpS_bind (wpS_mono (wpS_forRange
  (I := fun y r st' => st' = st1 /\ ∃ na' nb' out' ac bc, r = (none, na', nb', out', ac, bc) /\ Ah lt it La Lb out' na' nb' /\ 0 < na' /\ na' <= La.length /\ 1 < nb' /\ nb' <= Lb.length /\ na' + nb' + y <= na + nb)
  (Q := fun r st' => st' = st1 /\ ((∃ res z, r = (some res, z) /\ Told lt it La Lb res) \/ ∃ na' nb' out' ac bc, r = (none, na', nb', out', ac, bc) /\ Ah lt it La Lb out' na' nb' /\ 0 < na' /\ na' <= La.length /\ 1 < nb' /\ nb' <= Lb.length /\ na' + nb' + 1 <= na + nb)) ?_ ?_ ⟨rfl, _, _, _, _, _, rfl, a1, a2, a3, a4, a5, by omega⟩) ?_)
 ·rintro y r st' _ hy ⟨rfl, na', nb', out, ac, bc, rfl, b1, b2, b3, b4, b5, b6⟩
  dsimp only
  refine wpS_bind (x8 (show nb' - 1 < Lb.length by omega) (wpS_bind (x8 (show na' - 1 < La.length by omega) (wpS_bind (ziy c (g1.1.trans hk) (bN _ (List.getElem_mem _)) (aN _ (List.getElem_mem _)) ?_)))))
  cases w1 : lt Lb[nb' - 1] La[na' - 1] with
  | true =>
   dsimp only
   refine yI rfl ?_
   refine wpS_bind (x8 (show na' - 1 < La.length by omega) ?_)
   have n1 := Ah.a1 b1 sa b2 b3 fun z hz => Le.tr o (kU o sb (by omega) b5 z hz) (o.as _ _ w1)
   by_cases f1 : na' - 1 = 0
   ·refine yI (by simp [f1]) ?_
    exact wpS_pure ⟨rfl, .inl ⟨_, _, rfl, Told.hi n1 sa sb (.inl f1)⟩⟩
   ·refine yV (by simpa using f1) (vS (fun _ => ?_) (fun _ => ?_))
    ·exact wpS_pure ⟨rfl, .inr ⟨_, _, _, _, _, rfl, n1, by omega, by omega, b4, b5, by omega⟩⟩
    ·exact wpS_pure ⟨rfl, _, _, _, _, _, rfl, n1, by omega, by omega, b4, b5, by omega⟩
  | false =>
   dsimp only
   refine yV (by decide) ?_
   refine wpS_bind (x8 (show nb' - 1 < Lb.length by omega) ?_)
   have n1 := Ah.b1 b1 sb (by omega) b5 fun z hz => Le.tr o (kU o sa b2 b3 z hz) w1
   by_cases f1 : nb' - 1 = 1
   ·refine yI (by simp [f1]) ?_
    exact wpS_pure ⟨rfl, .inl ⟨_, _, rfl, Told.first n1 sa sb (by rw [f1]; exact hf1)⟩⟩
   ·refine yV (by simpa using f1) (vS (fun _ => ?_) (fun _ => ?_))
    ·exact wpS_pure ⟨rfl, .inr ⟨_, _, _, _, _, rfl, n1, b2, b3, by omega, by omega, by omega⟩⟩
    ·exact wpS_pure ⟨rfl, _, _, _, _, _, rfl, n1, b2, b3, by omega, by omega, by omega⟩
 ·rintro r st' ⟨_, na', nb', out, ac, bc, rfl, b1, b2, b3, b4, b5, b6⟩
  exfalso
  omega
 rintro r st' ⟨rfl, z⟩
 rcases z with ⟨res, z, rfl, t⟩ | ⟨na2, nb2, out2, ac, bc, rfl, b1, b2, b3, b4, b5, b6⟩
 ·dsimp only
  exact wpS_pure ⟨g1, _, _, rfl, t⟩
 dsimp only
 refine wpS_bind (wpS_lift (wpAny_rule ⟨rfl, ?_⟩))
 refine wpS_bind (wpS_mono (wpS_forRange
  (I := fun y r st' => Gs st st' /\ ∃ na' nb' out' mg ac bc, r = (none, na', nb', out', mg, ac, bc) /\ Ah lt it La Lb out' na' nb' /\ 0 < na' /\ na' <= La.length /\ 1 < nb' /\ nb' <= Lb.length /\ na' + nb' + y + 1 <= na + nb)
  (Q := fun r st' => Gs st st' /\ ((∃ res z, r = (some res, z) /\ Told lt it La Lb res) \/ ∃ na' nb' out' mg ac bc, r = (none, na', nb', out', mg, ac, bc) /\ Ah lt it La Lb out' na' nb' /\ 0 < na' /\ na' <= La.length /\ 1 < nb' /\ nb' <= Lb.length /\ na' + nb' + 1 <= na + nb)) ?_ ?_ ⟨g1, _, _, _, _, _, _, rfl, b1, b2, b3, b4, b5, by omega⟩) ?_)
 rotate_left
 ·rintro r st' ⟨_, na', nb', out, mg, ac, bc, rfl, b1, b2, b3, b4, b5, b6⟩
  exfalso
  omega
 ·rintro r st' ⟨g2, z⟩
  rcases z with ⟨res, z, rfl, t⟩ | ⟨na3, nb3, out3, mg3, ac3, bc3, rfl, d1, d2, d3, d4, d5, d6⟩
  ·dsimp only
   exact wpS_pure ⟨g2, _, _, rfl, t⟩
  ·dsimp only
   refine wpS_bind (wpS_modify (wpS_pure ⟨⟨g2.1, g2.2.1, g2.2.2.1, g2.2.2.2⟩, _, _, _, _, rfl, d1, d2, d3, d4, d5, by omega⟩))
 clear b1 b2 b3 b4 b5 b6 a1
 rintro y r st2 _ hy ⟨g2, na', nb', out, mg, ac, bc, rfl, b1, b2, b3, b4, b5, b6⟩
 dsimp only
 refine vS (fun _ => ?_) (fun _ => ?_)
 all_goals
  refine wpS_bind (wpS_modify ?_)
  refine wpS_bind (x8 (show nb' - 1 < Lb.length by omega) ?_)
  refine wpS_bind (vL c o (by exact g2.1.trans hk) (bN _ (List.getElem_mem _)) aN (by omega) (by omega) sa fun k k1 k2 k3 => ?_)
  dsimp only
  simp only [Nat.zero_add] at k2 k3
  have A1 := b1.an sa k k1 fun x hx y hy => by
   rw [List.drop_take] at hy
   obtain ⟨j, j1, j2, rfl⟩ := wC hy
   have := k3 (k + j) (by omega) (by omega)
   unfold Bey at this
   rw [if_neg (by decide)] at this
   exact Le.tr o (kU o sb (by omega) b5 x hx) (o.as _ _ (by simpa using this))
  have R1 : ∀ x ∈ La.take k, Le lt x Lb[nb' - 1] := fun x hx => by
   obtain ⟨j, j1, j2, rfl⟩ := wC (b := 0) (by simpa using hx)
   have := k2 j j1
   unfold Bey at this
   rw [if_neg (by decide)] at this
   rw [Nat.zero_add]
   simpa using this
  by_cases kp : na' - k > 0
  case' pos =>
   refine yI kp ?_
   by_cases f2 : k = 0
   ·refine yI (by simp [f2]) ?_
    exact wpS_pure ⟨⟨g2.1, g2.2.1, g2.2.2.1, g2.2.2.2⟩, .inl ⟨_, _, rfl, Told.hi A1 sa sb (.inl f2)⟩⟩
   refine yV (by simpa using f2) ?_
   have i3 : 0 < k := by omega
   have i4 : k <= na' := k1
   generalize out ++ ((La.map (kas_item it)).toArray.extract k na').reverse = o2 at A1 ⊢
   generalize na' - k = ck
   clear k2 k3 kp f2
   generalize k = i2 at A1 R1 i3 i4 ⊢
  case' neg =>
   refine yV kp ?_
   have k0 : k = na' := by omega
   rw [k0] at R1
   have i3 : 0 < na' := b2
   have i4 : na' <= na' := Nat.le_refl _
   clear A1
   have A1 := b1
   rw [k0] at *
   clear k1 k2 k3 k0
   generalize out = o2 at A1 ⊢
   generalize na' - na' = ck
   obtain ⟨i2, ei2⟩ : ∃ i2, i2 = na' := ⟨_, rfl⟩
   rw [<- ei2] at A1 R1 i3 ⊢
   have i4 : i2 <= na' := by omega
  all_goals
   refine wpS_bind (x8 (show nb' - 1 < Lb.length by omega) ?_)
   have A2 := Ah.b1 A1 sb (by omega) b5 R1
   by_cases f3 : nb' - 1 = 1
   ·refine yI (by simp [f3]) ?_
    exact wpS_pure ⟨⟨g2.1, g2.2.1, g2.2.2.1, g2.2.2.2⟩, .inl ⟨_, _, rfl, Told.first A2 sa sb (by rw [f3]; exact hf1)⟩⟩
   refine yV (by simpa using f3) ?_
   refine wpS_bind (x8 (show i2 - 1 < La.length by omega) ?_)
   refine wpS_bind (vL c o (by exact g2.1.trans hk) (aN _ (List.getElem_mem _)) bN (by omega) (by omega) sb fun m m1 m2 m3 => ?_)
   dsimp only
   simp only [Nat.zero_add] at m2 m3
   have A3 := A2.bn sb m m1 fun x hx y hy => by
    rw [List.drop_take] at hy
    obtain ⟨j, j1, j2, rfl⟩ := wC hy
    have := m3 (m + j) (by omega) (by omega)
    unfold Bey at this
    rw [if_pos rfl] at this
    exact Le.tr o (kU o sa i3 (by omega) x hx) this
   have R3 : ∀ x ∈ Lb.take m, Le lt x La[i2 - 1] := fun x hx => by
    obtain ⟨j, j1, j2, rfl⟩ := wC (b := 0) (by simpa using hx)
    have := m2 j j1
    unfold Bey at this
    rw [if_pos rfl] at this
    rw [Nat.zero_add]
    exact o.as _ _ this
   by_cases mp : nb' - 1 - m > 0
   case' pos =>
    refine yI mp ?_
    by_cases f4 : m = 1
    ·refine yI (by simp [f4]) ?_
     exact wpS_pure ⟨⟨g2.1, g2.2.1, g2.2.2.1, g2.2.2.2⟩, .inl ⟨_, _, rfl, Told.first A3 sa sb (by rw [f4]; exact hf1)⟩⟩
    refine yV (by simpa using f4) ?_
    by_cases f5 : m = 0
    ·refine yI (by simp [f5]) ?_
     exact wpS_pure ⟨⟨g2.1, g2.2.1, g2.2.2.1, g2.2.2.2⟩, .inl ⟨_, _, rfl, Told.hi A3 sa sb (.inr f5)⟩⟩
    refine yV (by simpa using f5) ?_
    have j3 : 1 < m := by omega
    have j4 : m + 1 <= nb' := by omega
    generalize o2.push (kas_item it Lb[nb' - 1]) ++ ((Lb.map (kas_item it)).toArray.extract m (nb' - 1)).reverse = o3 at A3 ⊢
    generalize nb' - 1 - m = cm
    clear m2 m3 mp f4 f5
    generalize m = j2 at A3 R3 j3 j4 ⊢
   case' neg =>
    refine yV mp ?_
    have m0 : m = nb' - 1 := by omega
    rw [m0] at R3
    clear A3
    have A3 := A2
    generalize nb' - 1 - m = cm
    generalize o2.push (kas_item it Lb[nb' - 1]) = o3 at A3 ⊢
    obtain ⟨j2, ej2⟩ : ∃ j2, j2 = nb' - 1 := ⟨_, rfl⟩
    rw [<- ej2] at A3 R3 ⊢
    have j3 : 1 < j2 := by omega
    have j4 : j2 + 1 <= nb' := by omega
   all_goals
    refine wpS_bind (x8 (show i2 - 1 < La.length by omega) ?_)
    have A4 := Ah.a1 A3 sa i3 (by omega) R3
    by_cases f6 : i2 - 1 = 0
    ·refine yI (by simp [f6]) ?_
     exact wpS_pure ⟨⟨g2.1, g2.2.1, g2.2.2.1, g2.2.2.2⟩, .inl ⟨_, _, rfl, Told.hi A4 sa sb (.inl f6)⟩⟩
    refine yV (by simpa using f6) (vS (fun _ => ?_) (fun _ => ?_))
    ·exact wpS_pure ⟨⟨g2.1, g2.2.1, g2.2.2.1, g2.2.2.2⟩, .inr ⟨_, _, _, _, _, _, rfl, A4, by omega, by omega, j3, by omega, by omega⟩⟩
    ·exact wpS_pure ⟨⟨g2.1, g2.2.1, g2.2.2.1, g2.2.2.2⟩, _, _, _, _, _, _, rfl, A4, by omega, by omega, j3, by omega, by omega⟩
end
end L2
namespace L2
open PySem PySem.W PyProof.Rows
section
variable {prog : Program} {w : World} {A : Around} {E : Value -> Shared -> Prop} {s : Shared} {κ : SortKind} {it : Array Keyed} {lt : Nat -> Nat -> Bool} {N : Nat}
theorem zsv {x st : SortSt} {Q : PUnit -> SortSt -> Prop} (h : Q ⟨⟩ x) : wpS (model prog w) A E s (set x : StateT SortSt Sem PUnit) Q st := by
 unfold wpS
 rw [StateT.run_set]
 exact wpAny_pure ⟨rfl, h⟩
theorem zbo {left : Bool} {k : Nat} {L X : List Nat} {base hint : Nat} {st : SortSt} {Q : Option Nat -> SortSt -> Prop} (c : Cmp prog w A κ it lt N s) (o : Ord lt) (hk : kindOf st = κ) (kN : k < N) (qN : ∀ x ∈ L, x < N) (hb : base + X.length <= L.length) (hs : ∀ j, j < X.length -> L.getD (base + j) 0 = X.getD j 0) (hh : hint < X.length) (sX : X.Pairwise (Le lt))
  (h : ∀ r, r <= X.length -> (∀ x ∈ X.take r, Bey lt left k x = true) -> (∀ x ∈ X.drop r, Bey lt left k x = false) -> Q (some r) st) :
  wpS (model prog w) A E s (zfn left (kas_item it k) (L.map (kas_item it)).toArray base X.length hint) Q st := by
 have e : (L.map (kas_item it)).toArray = L.toArray.map (kas_item it) := by simp
 have g : ∀ i, L.toArray.getD i 0 = L.getD i 0 := fun i => by rw [Array.getD_eq_getD_getElem?, List.getD_eq_getElem?_getD]; simp
 rw [e]
 refine zdw c hk kN (fun i hi => ?_) (by simpa using hb) hh (fun i j hij hj hB => ?_) (fun r r1 r2 r3 => h r r1 (fun x hx => ?_) (fun x hx => ?_))
 ·rw [g]
  have hi' : i < L.length := by simpa using hi
  rw [List.getD_eq_getElem?_getD, List.getElem?_eq_getElem hi']
  exact qN _ (List.getElem_mem hi')
 ·rw [g, hs _ (by omega)] at hB ⊢
  have lij : Le lt (X.getD i 0) (X.getD j 0) := by
   have h1 : i < X.length := by omega
   rw [List.getD_eq_getElem?_getD, List.getElem?_eq_getElem h1, List.getD_eq_getElem?_getD, List.getElem?_eq_getElem hj]
   by_cases e : i = j
   ·subst e; exact o.rf _
   ·exact List.pairwise_iff_getElem.mp sX _ _ h1 hj (by omega)
  unfold Bey at hB ⊢
  cases left with
  | true =>
   rw [if_pos rfl] at hB ⊢
   cases z : lt (X.getD i 0) k with
   | true => rfl
   | false => rw [Le.tr o (x := k) z lij] at hB; cases hB
  | false =>
   rw [if_neg (by decide)] at hB ⊢
   have hB' : Le lt (X.getD j 0) k := by simpa using hB
   have := Le.tr o lij hB'
   rw [this]
   rfl
 ·obtain ⟨i, i1, i2, rfl⟩ := wC (b := 0) (by simpa using hx)
  rw [Nat.zero_add] at i2 ⊢
  have := r2 i i1
  rw [g, hs _ i2] at this
  exact this
 ·obtain ⟨i, i1, rfl⟩ := gH hx
  have := r3 (r + i) (by omega) i1
  rw [g, hs _ i1] at this
  exact this
theorem zsa {α β : Type} (f : α -> β) (P B C : List α) (a b : Nat) (ha : a = P.length) (hb : b = P.length + B.length) : ((P ++ B ++ C).map f).toArray.extract a b = (B.map f).toArray := by
 subst ha hb
 apply Array.toList_inj.mp
 simp
theorem zrp {α : Type} (b : Nat) : ∀ (M P X Z : List α) (k : Nat), P.length = b + k -> X.length = M.length -> ((M.zipIdx k).foldl (fun (a : Array α) (p : α × Nat) => a.setIfInBounds (b + p.2) p.1) (P ++ X ++ Z).toArray) = (P ++ M ++ Z).toArray
 | [], P, X, Z, k, _, h => by
  have : X = [] := List.eq_nil_of_length_eq_zero (by simpa using h)
  subst this
  rfl
 | m :: M, P, X, Z, k, hp, h => by
  cases X with
  | nil => simp at h
  | cons x X =>
   rw [List.zipIdx_cons, List.foldl_cons]
   have e : (P ++ x :: X ++ Z).toArray.setIfInBounds (b + k) m = ((P ++ [m]) ++ X ++ Z).toArray := by
    apply Array.toList_inj.mp
    rw [Array.toList_setIfInBounds]
    show (P ++ x :: X ++ Z).set (b + k) m = P ++ [m] ++ X ++ Z
    rw [<- hp]
    simp
   show (M.zipIdx (k + 1)).foldl _ ((P ++ x :: X ++ Z).toArray.setIfInBounds (b + k) m) = _
   rw [e, zrp b M (P ++ [m]) X Z (k + 1) (by rw [List.length_append]; show P.length + 1 = _; omega) (by simpa using h)]
   simp
structure zAl (κ : SortKind) (it : Array Keyed) (st : SortSt) (L : List Nat) (pd : Array (Nat × Nat × Nat)) : Prop where
 k : kindOf st = κ
 a : arrOf st = (L.map (kas_item it)).toArray
 p : pendingOf st = pd
 f : failedOf st = none
theorem ziv {i : Nat} {P X Y Z : List Nat} {pd : Array (Nat × Nat × Nat)} {pw pw2 : Nat} {st : SortSt} {Q : Bool -> SortSt -> Prop} (c : Cmp prog w A κ it lt N s) (o : Ord lt) (h0 : zAl κ it st (P ++ X ++ Y ++ Z) pd) (lN : ∀ x ∈ P ++ X ++ Y ++ Z, x < N)
  (p1 : pd[i]? = some (P.length, X.length, pw)) (p2 : pd[i + 1]? = some (P.length + X.length, Y.length, pw2)) (hX : 0 < X.length) (hY : 0 < Y.length) (sX : X.Pairwise (Le lt)) (sY : Y.Pairwise (Le lt))
  (h : ∀ st' W, zAl κ it st' (P ++ W ++ Z) ((pd.setIfInBounds i (P.length, X.length + Y.length, pw)).eraseIdxIfInBounds (i + 1)) -> W.Perm (X ++ Y) -> W.Pairwise (Le lt) -> Q true st') : wpS (model prog w) A E s (mergeAt' i) Q st := by
 rcases st with ⟨kd, ar, pn, gl, fl⟩
 have ek : kd = κ := h0.k
 have ea : ar = ((P ++ X ++ Y ++ Z).map (kas_item it)).toArray := h0.a
 have ep : pn = pd := h0.p
 have ef : fl = none := h0.f
 subst ek ea ep ef
 refine wpS_bind (wpS_get ?_)
 have hL : ∀ j, j < Y.length -> (P ++ X ++ Y ++ Z).getD (P.length + X.length + j) 0 = Y.getD j 0 := fun j hj => by
  rw [List.getD_eq_getElem?_getD, List.getD_eq_getElem?_getD, List.append_assoc, List.append_assoc, List.getElem?_append_right (by omega), List.getElem?_append_right (by omega), List.getElem?_append_left (by omega)]
  congr 2
  omega
 have hL2 : ∀ j, j < X.length -> (P ++ X ++ Y ++ Z).getD (P.length + j) 0 = X.getD j 0 := fun j hj => by
  rw [List.getD_eq_getElem?_getD, List.getD_eq_getElem?_getD, List.append_assoc, List.append_assoc, List.getElem?_append_right (by omega), List.getElem?_append_left (by omega)]
  congr 2
  omega
 have ll : (P ++ X ++ Y ++ Z).length = P.length + X.length + Y.length + Z.length := by simp; omega
 have gE : ∀ (L : List Nat) (i : Nat) (h : i < L.length), L[i] = L.getD i 0 := fun L i h => by rw [List.getD_eq_getElem?_getD, List.getElem?_eq_getElem h]; rfl
 have xN : ∀ x ∈ X, x < N := fun x hx => lN x (by simp [hx])
 have yN : ∀ x ∈ Y, x < N := fun x hx => lN x (by simp [hx])
 dsimp only
 rw [p1, p2]
 dsimp only
 refine wpS_bind (zsv ?_)
 refine wpS_bind (x8 (show P.length + X.length < (P ++ X ++ Y ++ Z).length by omega) ?_)
 have y0 : (P ++ X ++ Y ++ Z)[P.length + X.length]'(by omega) = Y[0] := by
  rw [gE, gE, <- hL 0 hY, Nat.add_zero]
 rw [y0]
 refine wpS_bind (zbo c o (by exact h0.k) (yN _ (List.getElem_mem _)) lN (by omega) hL2 hX sX fun k k1 k2 k3 => ?_)
 dsimp only
 have X1 : ∀ x ∈ X.take k, Le lt x Y[0] := fun x hx => by
  have := k2 x hx
  unfold Bey at this
  rw [if_neg (by decide)] at this
  simpa using this
 have X2 : ∀ x ∈ X.drop k, Le lt Y[0] x := fun x hx => by
  have := k3 x hx
  unfold Bey at this
  rw [if_neg (by decide)] at this
  exact o.as _ _ (by simpa using this)
 have Y0 : ∀ y ∈ Y, Le lt Y[0] y := fun y hy => kW o sY hY y (by simpa using hy)
 by_cases f1 : X.length - k = 0
 ·refine yI (by simp [f1]) (wpS_pure (h _ (X ++ Y) ⟨h0.k, ?_, ?_, h0.f⟩ (List.Perm.refl _) ?_))
  ·rw [<- List.append_assoc]
  ·rfl
  ·refine List.pairwise_append.mpr ⟨sX, sY, fun x hx y hy => Le.tr o (X1 x ?_) (Y0 y hy)⟩
   rw [List.take_of_length_le (by omega)]
   exact hx
 refine yV (by simpa using f1) ?_
 have kl : k < X.length := by omega
 refine wpS_bind (x8 (show P.length + k + (X.length - k) - 1 < (P ++ X ++ Y ++ Z).length by omega) ?_)
 have xl : (P ++ X ++ Y ++ Z)[P.length + k + (X.length - k) - 1]'(by omega) = X[X.length - 1] := by
  rw [gE, gE, <- hL2 (X.length - 1) (by omega)]
  congr 1
  omega
 rw [xl]
 refine wpS_bind (zbo c o (by exact h0.k) (xN _ (List.getElem_mem _)) lN (by omega) hL (show Y.length - 1 < Y.length by omega) sY fun m m1 m2 m3 => ?_)
 dsimp only
 have Y1 : ∀ y ∈ Y.take m, Le lt y X[X.length - 1] := fun y hy => by
  have := m2 y hy
  unfold Bey at this
  rw [if_pos rfl] at this
  exact o.as _ _ this
 have Y2 : ∀ y ∈ Y.drop m, Le lt X[X.length - 1] y := fun y hy => by
  have := m3 y hy
  unfold Bey at this
  rw [if_pos rfl] at this
  exact this
 have XL : ∀ x ∈ X, Le lt x X[X.length - 1] := fun x hx => kU o sX hX (Nat.le_refl _) x (by simpa using hx)
 by_cases f2 : m = 0
 ·refine yI (by simp [f2]) (wpS_pure (h _ (X ++ Y) ⟨h0.k, ?_, ?_, h0.f⟩ (List.Perm.refl _) ?_))
  ·rw [<- List.append_assoc]
  ·rfl
  ·refine List.pairwise_append.mpr ⟨sX, sY, fun x hx y hy => Le.tr o (XL x hx) (Y2 y ?_)⟩
   rw [f2]
   exact hy
 refine yV (by simpa using f2) ?_
 have xe : ((P ++ X ++ Y ++ Z).map (kas_item it)).toArray.extract (P.length + k) (P.length + X.length) = ((X.drop k).map (kas_item it)).toArray := by
  have e : P ++ X ++ Y ++ Z = (P ++ X.take k) ++ X.drop k ++ (Y ++ Z) := by
   simp only [List.append_assoc]
   rw [<- List.append_assoc (X.take k), List.take_append_drop]
  rw [e]
  exact zsa _ _ _ _ _ _ (by rw [List.length_append, List.length_take]; omega) (by rw [List.length_append, List.length_take, List.length_drop]; omega)
 have ye : ((P ++ X ++ Y ++ Z).map (kas_item it)).toArray.extract (P.length + X.length) (P.length + X.length + m) = ((Y.take m).map (kas_item it)).toArray := by
  have e : P ++ X ++ Y ++ Z = (P ++ X) ++ Y.take m ++ (Y.drop m ++ Z) := by
   simp only [List.append_assoc]
   rw [<- List.append_assoc (Y.take m), List.take_append_drop]
  rw [e]
  exact zsa _ _ _ _ _ _ (by rw [List.length_append]) (by rw [List.length_append, List.length_take]; omega)
 rw [xe, ye]
 have dl : (X.drop k).length = X.length - k := List.length_drop
 have tl : (Y.take m).length = m := by rw [List.length_take]; omega
 have t0 : (Y.take m)[0]'(by omega) = Y[0] := List.getElem_take
 have d9 : (X.drop k)[(X.drop k).length - 1]'(by omega) = X[X.length - 1] := by
  rw [List.getElem_drop]
  congr 1
  omega
 have fin : ∀ (res : Array Keyed) (st' : SortSt), Gs (SortSt.mk' kd ((P ++ X ++ Y ++ Z).map (kas_item it)).toArray ((pn.setIfInBounds i (P.length, X.length + Y.length, pw)).eraseIdxIfInBounds (i + 1)) gl none) st' -> Told lt it (X.drop k) (Y.take m) res ->
   wpS (model prog w) A E s (modify (fun s => SortSt.mk' (kindOf s) (res.toList.zipIdx.foldl (fun (a : Array Keyed) (x : Keyed × Nat) => match x with | (p, j) => a.setIfInBounds (P.length + k + j) p) (arrOf s)) (pendingOf s) (gallopOf s) (failedOf s)) >>= fun _ => get >>= fun s => pure (failedOf s).isNone) Q st' := by
  intro res st' g ⟨M, eM, pM, sM⟩
  rcases st' with ⟨kd', ar', pn', gl', fl'⟩
  obtain ⟨g1, g2, g3, g4⟩ := g
  have q1 : kd' = kd := g1
  have q2 : ar' = ((P ++ X ++ Y ++ Z).map (kas_item it)).toArray := g2
  have q3 : pn' = (pn.setIfInBounds i (P.length, X.length + Y.length, pw)).eraseIdxIfInBounds (i + 1) := g3
  have q4 : fl' = none := g4
  subst q1 q2 q3 q4
  refine wpS_bind (wpS_modify (wpS_bind (wpS_get (wpS_pure ?_))))
  refine h _ (X.take k ++ M ++ Y.drop m) ⟨rfl, ?_, rfl, rfl⟩ ?_ ?_
  ·show res.toList.zipIdx.foldl _ ((P ++ X ++ Y ++ Z).map (kas_item it)).toArray = _
   have e : (P ++ X ++ Y ++ Z).map (kas_item it) = (P ++ X.take k).map (kas_item it) ++ (X.drop k ++ Y.take m).map (kas_item it) ++ (Y.drop m ++ Z).map (kas_item it) := by
    rw [<- List.map_append, <- List.map_append]
    congr 1
    simp only [List.append_assoc]
    rw [<- List.append_assoc (X.take k), List.take_append_drop, <- List.append_assoc (Y.take m), List.take_append_drop]
   rw [eM, e]
   have := zrp (P.length + k) (M.map (kas_item it)) ((P ++ X.take k).map (kas_item it)) ((X.drop k ++ Y.take m).map (kas_item it)) ((Y.drop m ++ Z).map (kas_item it)) 0 (by rw [List.length_map, List.length_append, List.length_take]; omega) (by rw [List.length_map, List.length_map, pM.length_eq])
   refine Eq.trans this ?_
   congr 1
   rw [<- List.map_append, <- List.map_append]
   congr 1
   simp only [List.append_assoc]
  ·have : (X.take k ++ M ++ Y.drop m).Perm (X.take k ++ (X.drop k ++ Y.take m) ++ Y.drop m) := List.Perm.append_right _ (List.Perm.append_left _ pM)
   refine this.trans ?_
   rw [<- List.append_assoc, List.take_append_drop, List.append_assoc, List.take_append_drop]
  ·have hM : ∀ z ∈ M, z ∈ X.drop k \/ z ∈ Y.take m := fun z hz => List.mem_append.mp (pM.mem_iff.mp hz)
   have sY' : (Y.take m ++ Y.drop m).Pairwise (Le lt) := by rw [List.take_append_drop]; exact sY
   have sX' : (X.take k ++ X.drop k).Pairwise (Le lt) := by rw [List.take_append_drop]; exact sX
   refine List.pairwise_append.mpr ⟨List.pairwise_append.mpr ⟨sX.sublist (List.take_sublist _ _), sM, fun x hx z hz => ?_⟩, sY.sublist (List.drop_sublist _ _), fun z hz y hy => ?_⟩
   ·rcases hM z hz with hz | hz
    ·exact (List.pairwise_append.mp sX').2.2 x hx z hz
    ·exact Le.tr o (X1 x hx) (Y0 z (List.mem_of_mem_take hz))
   ·rcases List.mem_append.mp hz with hz | hz
    ·exact Le.tr o (XL z (List.mem_of_mem_take hz)) (Y2 y hy)
    ·rcases hM z hz with hz | hz
     ·exact Le.tr o (XL z (List.mem_of_mem_drop hz)) (Y2 y hy)
     ·exact (List.pairwise_append.mp sY').2.2 z hz y hy
 refine vS (fun _ => ?_) (fun _ => ?_)
 ·refine wpS_bind (zit c o (by exact h0.k) (fun x hx => xN x (List.mem_of_mem_drop hx)) (fun x hx => yN x (List.mem_of_mem_take hx)) (sX.sublist (List.drop_sublist _ _)) (sY.sublist (List.take_sublist _ _)) (by omega) (by omega) ?_ ?_ fun res st' g tt => ?_)
  ·rw [t0]; exact X2
  ·intro x hx y hy
   have e : (X.drop k).drop ((X.drop k).length - 1) = [X[X.length - 1]] := by
    rw [List.drop_eq_getElem_cons (show (X.drop k).length - 1 < (X.drop k).length by omega), d9]
    congr 1
    exact List.drop_eq_nil_of_le (by omega)
   rw [e] at hy
   rw [List.mem_singleton.mp hy]
   exact Y1 x hx
  ·exact fin res st' g tt
 ·refine wpS_bind (ziu c o (by exact h0.k) (fun x hx => xN x (List.mem_of_mem_drop hx)) (fun x hx => yN x (List.mem_of_mem_take hx)) (sX.sublist (List.drop_sublist _ _)) (sY.sublist (List.take_sublist _ _)) (by omega) (by omega) ?_ ?_ fun res st' g tt => ?_)
  ·rw [t0]; exact X2
  ·rw [d9]; exact Y1
  ·exact fin res st' g tt
end
end L2
namespace L2
open PySem PySem.W PyProof.Rows
section
variable {prog : Program} {w : World} {A : Around} {E : Value -> Shared -> Prop} {s : Shared} {κ : SortKind} {it : Array Keyed} {lt : Nat -> Nat -> Bool} {N : Nat}
structure StP (κ : SortKind) (it : Array Keyed) (st : SortSt) (p : Array Nat) (pd : Array (Nat × Nat × Nat)) : Prop where
 k : kindOf st = κ
 a : arrOf st = p.map (kas_item it)
 p : pendingOf st = pd
 f : failedOf st = none
def UpF (lt : Nat -> Nat -> Bool) (p : Array Nat) (lo n : Nat) : Prop := ∀ i j, lo <= i -> i <= j -> j < lo + n -> lt (p.getD j 0) (p.getD i 0) = false
theorem jF {i j : Nat} {p : Array Nat} {pd : Array (Nat × Nat × Nat)} {st : SortSt} {Q : Option Bool -> SortSt -> Prop} (c : Cmp prog w A κ it lt N s) (B : PB N p) (S : StP κ it st p pd) (hi : i < N) (hj : j < N) (h : Q (some (lt (p.getD i 0) (p.getD j 0))) st) : wpS (model prog w) A E s (ltAt' i j) Q st := by
 rw [ltAt'_eq]
 refine wpS_bind (wpS_get ?_)
 show wpS _ _ _ _ (elem' (arrOf st) i >>= fun x => elem' (arrOf st) j >>= fun y => lt' x y) Q st
 rw [S.a]
 refine wpS_bind (zfp (by rw [B.size]; exact hi) (wpS_bind (zfp (by rw [B.size]; exact hj) ?_)))
 exact ziy c S.k (B.lt hi) (B.lt hj) h
theorem zuc {k l : Nat} {p : Array Nat} {pd : Array (Nat × Nat × Nat)} {st : SortSt} {Q : Unit -> SortSt -> Prop} (S : StP κ it st p pd) (h : ∀ st', StP κ it st' (bubble p k (k - l)) pd -> Q () st') : wpS (model prog w) A E s (moveDown' k l) Q st := by
 rw [moveDown'_eq]
 refine wpS_modify (h _ ⟨S.k, ?_, S.p, S.f⟩)
 show bubble (arrOf st) k (k - l) = _
 rw [S.a]
 exact kas_swaps_map (kas_item it) (fun i => k - i) (fun i => k - i - 1) _ p
theorem zge {i j : Nat} {p : Array Nat} {pd : Array (Nat × Nat × Nat)} {st : SortSt} {Q : Unit -> SortSt -> Prop} (S : StP κ it st p pd) (h : ∀ st', StP κ it st' (kas_rev p i j) pd -> Q () st') : wpS (model prog w) A E s (reverseSlice' i j) Q st := by
 rw [reverseSlice'_eq]
 refine wpS_modify (h _ ⟨S.k, ?_, S.p, S.f⟩)
 show mirror (arrOf st) i j ((j - i) / 2) = _
 rw [S.a]
 exact kas_swaps_map (kas_item it) (fun k => i + k) (fun k => j - 1 - k) _ p
theorem zzg (o : Ord lt) {p : Array Nat} {lo k l : Nat} (B : PB N p) (hk : lo + k < N) (hl : l <= k) (h : UpF lt p lo k) (h1 : ∀ i, i < l -> Le lt (p.getD (lo + i) 0) (p.getD (lo + k) 0)) (h2 : ∀ i, l <= i -> i < k -> Le lt (p.getD (lo + k) 0) (p.getD (lo + i) 0)) :
  UpF lt (bubble p (lo + k) (lo + k - (lo + l))) lo (k + 1) := by
 intro i j hi hij hj
 rw [zdf B hk (by omega), zdf B hk (by omega)]
 by_cases a : j = lo + l
 ·rw [if_pos a]
  by_cases b : i = lo + l
  ·rw [if_pos b]; exact o.rf _
  ·rw [if_neg b, if_neg (by omega)]
   have := h1 (i - lo) (by omega)
   rw [show lo + (i - lo) = i by omega] at this
   exact this
 ·rw [if_neg a]
  by_cases b : lo + l < j /\ j <= lo + k
  ·rw [if_pos b]
   by_cases d : i = lo + l
   ·rw [if_pos d]
    have := h2 (j - 1 - lo) (by omega) (by omega)
    rw [show lo + (j - 1 - lo) = j - 1 by omega] at this
    exact this
   ·rw [if_neg d]
    by_cases e : lo + l < i /\ i <= lo + k
    ·rw [if_pos e]; exact h _ _ (by omega) (by omega) (by omega)
    ·rw [if_neg e]; exact h _ _ (by omega) (by omega) (by omega)
  ·rw [if_neg b]
   rw [if_neg (by omega), if_neg (by omega)]
   exact h _ _ hi hij (by omega)
theorem zoc {lo n ok : Nat} {p : Array Nat} {pd : Array (Nat × Nat × Nat)} {st : SortSt} {Q : Bool -> SortSt -> Prop} (c : Cmp prog w A κ it lt N s) (o : Ord lt) (B : PB N p) (S : StP κ it st p pd) (hn : lo + n <= N) (h1 : 1 <= n) (hok : ok <= n) (u : UpF lt p lo ok)
  (h : ∀ st' p', StP κ it st' p' pd -> PB N p' -> UpF lt p' lo n -> (∀ i, i < lo -> p'.getD i 0 = p.getD i 0) -> Q true st') : wpS (model prog w) A E s (binarySort' lo n ok) Q st := by
 refine wpS_bind (wpS_mono (wpS_forRange
  (I := fun k r st' => r = (none, ()) /\ ∃ p', StP κ it st' p' pd /\ PB N p' /\ UpF lt p' lo k /\ (∀ i, i < lo -> p'.getD i 0 = p.getD i 0))
  (Q := fun r st' => r = (none, ()) /\ ∃ p', StP κ it st' p' pd /\ PB N p' /\ UpF lt p' lo n /\ (∀ i, i < lo -> p'.getD i 0 = p.getD i 0)) ?_ ?_ ⟨rfl, p, S, B, ?_, fun _ _ => rfl⟩) ?_)
 ·rintro k r st' hk1 hk2 ⟨rfl, p', S', B', u', e'⟩
  refine wpS_bind (wpS_mono (wpS_forRange
   (I := fun x r st'' => st'' = st' /\ ∃ l m, r = (none, l, m) /\ l <= m /\ m <= k /\ m - l + x <= k /\ (∀ i, i < l -> Le lt (p'.getD (lo + i) 0) (p'.getD (lo + k) 0)) /\ (∀ i, m <= i -> i < k -> Le lt (p'.getD (lo + k) 0) (p'.getD (lo + i) 0)))
   (Q := fun r st'' => st'' = st' /\ ∃ l m, r = (none, l, m) /\ l <= k /\ (∀ i, i < l -> Le lt (p'.getD (lo + i) 0) (p'.getD (lo + k) 0)) /\ (∀ i, l <= i -> i < k -> Le lt (p'.getD (lo + k) 0) (p'.getD (lo + i) 0))) ?_ ?_ ⟨rfl, 0, k, rfl, by omega, by omega, by omega, fun i hi => absurd hi (by omega), fun i h1 h2 => absurd h1 (by omega)⟩) ?_)
  ·rintro x r st'' _ hx ⟨rfl, l, m, rfl, l1, l2, l3, l4, l5⟩
   dsimp only
   by_cases e : l >= m
   ·refine yI e (wpS_pure ⟨rfl, l, m, rfl, by omega, l4, fun i h1 h2 => l5 i (by omega) h2⟩)
   refine yV e (wpS_bind (jF c B' S' (by omega) (by omega) ?_))
   cases z : lt (p'.getD (lo + k) 0) (p'.getD (lo + (l + m) / 2) 0) with
   | true =>
    dsimp only
    refine yI rfl (wpS_pure ⟨rfl, l, (l + m) / 2, rfl, by omega, by omega, by omega, l4, fun i h1 h2 => Le.tr o (o.as _ _ z) (u' _ _ (by omega) (by omega) (by omega))⟩)
   | false =>
    dsimp only
    refine yV (by decide) (wpS_pure ⟨rfl, (l + m) / 2 + 1, m, rfl, by omega, by omega, by omega, fun i hi => Le.tr o (u' _ _ (by omega) (by omega) (by omega)) z, l5⟩)
  ·rintro r st'' ⟨rfl, l, m, rfl, l1, l2, l3, l4, l5⟩
   exact ⟨rfl, l, m, rfl, by omega, l4, fun i h1 h2 => l5 i (by omega) h2⟩
  ·rintro r st'' ⟨rfl, l, m, rfl, l1, l4, l5⟩
   dsimp only
   refine wpS_bind (zuc S' fun st3 S3 => wpS_pure ⟨rfl, _, S3, B'.bub _ _, zzg o B' (by omega) l1 u' l4 l5, fun i hi => ?_⟩)
   rw [zdf B' (by omega) (by omega), if_neg (by omega), if_neg (by omega)]
   exact e' i hi
 ·rintro r st' ⟨rfl, p', S', B', u', e'⟩
  exact ⟨rfl, p', S', B', by rw [show max (max ok 1) n = n by omega] at u'; exact u', e'⟩
 ·intro i j hi hij hj
  by_cases e : i = j
  ·subst e; exact o.rf _
  ·exact u i j hi hij (by omega)
 ·rintro r st' ⟨rfl, p', S', B', u', e'⟩
  exact wpS_pure (h st' p' S' B' u' e')
end
end L2
namespace L2
open PySem PySem.W PyProof.Rows
section
variable {prog : Program} {w : World} {A : Around} {E : Value -> Shared -> Prop} {s : Shared} {κ : SortKind} {it : Array Keyed} {lt : Nat -> Nat -> Bool} {N : Nat}
def hU (lt : Nat -> Nat -> Bool) (p : Array Nat) (lo n : Nat) : Prop := ∀ i j, lo <= i -> i <= j -> j < lo + n -> lt (p.getD i 0) (p.getD j 0) = false
theorem zha (o : Ord lt) {p : Array Nat} {lo n : Nat} (h : UpF lt p lo n) (n1 : 1 <= n) (c : lt (p.getD (lo + n) 0) (p.getD (lo + n - 1) 0) = false) : UpF lt p lo (n + 1) := by
 intro i j hi hij hj
 by_cases e : j = lo + n
 ·subst e
  by_cases e2 : i = lo + n
  ·subst e2; exact o.rf _
  ·exact o.tr _ _ _ (h i (lo + n - 1) hi (by omega) (by omega)) c
 ·exact h i j hi hij (by omega)
theorem vM (o : Ord lt) {p : Array Nat} {lo n : Nat} (h : hU lt p lo n) (n1 : 1 <= n) (c : lt (p.getD (lo + n - 1) 0) (p.getD (lo + n) 0) = false) : hU lt p lo (n + 1) := by
 intro i j hi hij hj
 by_cases e : j = lo + n
 ·subst e
  by_cases e2 : i = lo + n
  ·subst e2; exact o.rf _
  ·exact o.tr _ _ _ c (h i (lo + n - 1) hi (by omega) (by omega))
 ·exact h i j hi hij (by omega)
theorem zbp {p : Array Nat} (B : PB N p) {lo n q : Nat} (hn : lo + n <= N) (hq : q + 1 <= n) (h : hU lt p lo n) (fl : zoy lt p (lo + n - (q + 1)) (lo + n)) : hU lt (kas_rev p (lo + n - (q + 1)) (lo + n)) lo n := by
 intro i j hi hij hj
 rw [xA B hn, xA B hn]
 by_cases c1 : lo + n - (q + 1) <= i /\ i < lo + n
 ·rw [if_pos c1, if_pos (by omega)]
  exact fl _ _ (by omega) (by omega) (by omega) (by omega)
 ·rw [if_neg c1]
  by_cases c2 : lo + n - (q + 1) <= j /\ j < lo + n
  ·rw [if_pos c2]
   exact h _ _ hi (by omega) (by omega)
  ·rw [if_neg c2]
   exact h _ _ hi hij hj
theorem znw {p : Array Nat} (B : PB N p) {lo n : Nat} (hn : lo + n <= N) (h : hU lt p lo n) : UpF lt (kas_rev p lo (lo + n)) lo n := by
 intro i j hi hij hj
 rw [xA B hn, xA B hn, if_pos (by omega), if_pos (by omega)]
 exact h _ _ (by omega) (by omega) (by omega)
theorem zqw {lo nrem : Nat} {p : Array Nat} {pd : Array (Nat × Nat × Nat)} {st : SortSt} {Q : Option Nat -> SortSt -> Prop} (c : Cmp prog w A κ it lt N s) (o : Ord lt) (B : PB N p) (S : StP κ it st p pd) (hn : lo + nrem <= N) (h1 : 1 <= nrem)
  (h : ∀ st' p' n, StP κ it st' p' pd -> PB N p' -> 1 <= n -> n <= nrem -> UpF lt p' lo n -> (∀ i, i < lo -> p'.getD i 0 = p.getD i 0) -> Q (some n) st') : wpS (model prog w) A E s (countRun' lo nrem) Q st := by
 refine wpS_bind (wpS_mono (wpS_forRange
  (I := fun x r st' => st' = st /\ r = (none, x) /\ UpF lt p lo x)
  (Q := fun r st' => st' = st /\ ∃ n, r = (none, n) /\ 1 <= n /\ n <= nrem /\ UpF lt p lo n /\ (n = nrem \/ lt (p.getD (lo + n) 0) (p.getD (lo + n - 1) 0) = true)) ?_ ?_ ⟨rfl, rfl, ?_⟩) ?_)
 ·rintro x r st' hx1 hx2 ⟨rfl, rfl, u⟩
  refine wpS_bind (jF c B S (by omega) (by omega) ?_)
  cases z : lt (p.getD (lo + x) 0) (p.getD (lo + x - 1) 0) with
  | true =>
   dsimp only
   exact yI rfl (wpS_pure ⟨rfl, x, rfl, hx1, by omega, u, .inr z⟩)
  | false =>
   dsimp only
   exact yV (by decide) (wpS_pure ⟨rfl, rfl, zha o u hx1 z⟩)
 ·rintro r st' ⟨rfl, rfl, u⟩
  rw [show max 1 nrem = nrem by omega] at u ⊢
  exact ⟨rfl, nrem, rfl, h1, Nat.le_refl _, u, .inl rfl⟩
 ·intro i j hi hij hj
  have : i = j := by omega
  subst this; exact o.rf _
 rintro r st' ⟨rfl, n, rfl, n1, n2, u, fin⟩
 dsimp only
 by_cases e1 : n = nrem
 ·exact yI (by simp [e1]) (wpS_pure (h _ p n S B n1 n2 u fun _ _ => rfl))
 refine yV (by simpa using e1) ?_
 have z : lt (p.getD (lo + n) 0) (p.getD (lo + n - 1) 0) = true := fin.resolve_left e1
 have zz := o.as _ _ z
 have K0 : ∀ i, i < lo -> p.getD i 0 = p.getD i 0 := fun _ _ => rfl
 have hl : n < nrem := by omega
 by_cases m : n > 1
 case' pos =>
  refine yI m (wpS_bind (jF c B S (by omega) (by omega) ?_))
  by_cases rz : lt (p.getD lo 0) (p.getD (lo + n - 1) 0) = true
  ·rw [rz]
   dsimp only
   exact yI rfl (wpS_pure (h _ p n S B n1 n2 u fun _ _ => rfl))
  have rz' : lt (p.getD lo 0) (p.getD (lo + n - 1) 0) = false := by simpa using rz
  rw [rz']
  dsimp only
  refine yV (by decide) (wpS_bind (zge S fun st2 S2 => ?_))
  have fl : ∀ i j, lo <= i -> i < lo + n -> lo <= j -> j < lo + n -> lt (p.getD i 0) (p.getD j 0) = false := fun i j i0 i1 j0 j1 =>
   Le.tr o (Le.tr o (u j (lo + n - 1) j0 (by omega) (by omega)) rz') (u lo i (by omega) (by omega) (by omega))
  have B2 := B.rev lo (lo + n)
  have D2 : hU lt (kas_rev p lo (lo + n)) lo (n + 1) := by
   intro i j hi hij hj
   rw [xA B (by omega), xA B (by omega)]
   by_cases e : j = lo + n
   ·subst e
    rw [if_neg (show ¬ (lo <= lo + n /\ lo + n < lo + n) by omega)]
    by_cases e2 : i = lo + n
    ·subst e2
     rw [if_neg (by omega)]
     exact o.rf _
    ·rw [if_pos (by omega)]
     exact Le.tr o zz (fl _ _ (by omega) (by omega) (by omega) (by omega))
   ·rw [if_pos (by omega), if_pos (by omega)]
    exact fl _ _ (by omega) (by omega) (by omega) (by omega)
  have K2 : ∀ i, i < lo -> (kas_rev p lo (lo + n)).getD i 0 = p.getD i 0 := fun i hi => by rw [xA B (by omega), if_neg (by omega)]
  generalize kas_rev p lo (lo + n) = p2 at S2 B2 D2 K2
 case' neg =>
  refine yV m ?_
  have B2 := B
  have S2 := S
  have K2 := K0
  have D2 : hU lt p lo (n + 1) := vM o (fun i j hi hij hj => by
   have : i = j := by omega
   subst this; exact o.rf _) n1 zz
  obtain ⟨st2, est2⟩ : ∃ st2, st2 = st' := ⟨_, rfl⟩
  obtain ⟨p2, ep2⟩ : ∃ p2, p2 = p := ⟨_, rfl⟩
  rw [<- est2] at S2 ⊢
  rw [<- ep2] at S2 B2 D2
  have K2 : ∀ i, i < lo -> p2.getD i 0 = p.getD i 0 := fun i _ => by rw [ep2]
 all_goals
  refine wpS_bind (wpS_lift (wpAny_rule ⟨rfl, ?_⟩))
  refine wpS_bind (wpS_mono (wpS_forRange
   (I := fun x r st3 => ∃ q p3, r = (none, x, q) /\ StP κ it st3 p3 pd /\ PB N p3 /\ hU lt p3 lo x /\ q + 1 <= x /\ zoy lt p3 (lo + x - (q + 1)) (lo + x) /\ (∀ i, i < lo -> p3.getD i 0 = p.getD i 0))
   (Q := fun r st3 => ∃ x q p3, r = (none, x, q) /\ 1 <= x /\ x <= nrem /\ StP κ it st3 p3 pd /\ PB N p3 /\ hU lt p3 lo x /\ q + 1 <= x /\ zoy lt p3 (lo + x - (q + 1)) (lo + x) /\ (∀ i, i < lo -> p3.getD i 0 = p.getD i 0)) ?_ ?_ ⟨0, p2, rfl, S2, B2, D2, by omega, ?_, K2⟩) ?_)
  ·rintro x r st3 hx1 hx2 ⟨q, p3, rfl, S3, B3, D3, q1, F3, K3⟩
   dsimp only
   refine wpS_bind (jF c B3 S3 (by omega) (by omega) ?_)
   by_cases y1 : lt (p3.getD (lo + x) 0) (p3.getD (lo + x - 1) 0) = true
   ·rw [y1]
    dsimp only
    refine yI rfl ?_
    have y2 := o.as _ _ y1
    by_cases q0 : q > 0
    ·refine yI q0 (wpS_bind (zge S3 fun st4 S4 => wpS_pure ⟨0, _, rfl, S4, B3.rev _ _, ?_, by omega, fun i j i1 i2 j1 j2 => ?_, fun i hi => ?_⟩))
     ·have en : (kas_rev p3 (lo + x - (q + 1)) (lo + x)).getD (lo + x) 0 = p3.getD (lo + x) 0 := by rw [xA B3 (by omega), if_neg (by omega)]
      have el : (kas_rev p3 (lo + x - (q + 1)) (lo + x)).getD (lo + x - 1) 0 = p3.getD (lo + x - (q + 1)) 0 := by
       rw [xA B3 (by omega), if_pos (by omega)]
       congr 1
       omega
      refine vM o (zbp B3 (by omega) q1 D3 F3) (by omega) ?_
      rw [en, el]
      exact Le.tr o y2 (F3 _ _ (by omega) (by omega) (by omega) (by omega))
     ·have : i = j := by omega
      subst this; exact o.rf _
     ·rw [xA B3 (by omega), if_neg (by omega)]; exact K3 i hi
    ·refine yV q0 (wpS_pure ⟨0, p3, rfl, S3, B3, vM o D3 (by omega) y2, by omega, fun i j i1 i2 j1 j2 => ?_, K3⟩)
     have : i = j := by omega
     subst this; exact o.rf _
   ·have y1' : lt (p3.getD (lo + x) 0) (p3.getD (lo + x - 1) 0) = false := by simpa using y1
    rw [y1']
    dsimp only
    refine yV (by decide) (wpS_bind (jF c B3 S3 (by omega) (by omega) ?_))
    by_cases y2 : lt (p3.getD (lo + x - 1) 0) (p3.getD (lo + x) 0) = true
    ·rw [y2]
     dsimp only
     exact yI rfl (wpS_pure ⟨x, q, p3, rfl, by omega, by omega, S3, B3, D3, q1, F3, K3⟩)
    ·have y2' : lt (p3.getD (lo + x - 1) 0) (p3.getD (lo + x) 0) = false := by simpa using y2
     rw [y2']
     dsimp only
     refine yV (by decide) (wpS_pure ⟨q + 1, p3, rfl, S3, B3, vM o D3 (by omega) y2', by omega, fun i j i1 i2 j1 j2 => ?_, K3⟩)
     have fi : ∀ k, lo + (x + 1) - (q + 1 + 1) <= k -> k < lo + (x + 1) -> Le lt (p3.getD k 0) (p3.getD (lo + x - 1) 0) /\ Le lt (p3.getD (lo + x - 1) 0) (p3.getD k 0) := fun k k1 k2 => by
      by_cases ek : k = lo + x
      ·rw [ek]; exact ⟨y2', y1'⟩
      ·exact ⟨F3 _ _ (by omega) (by omega) (by omega) (by omega), F3 _ _ (by omega) (by omega) (by omega) (by omega)⟩
     exact Le.tr o (fi j j1 j2).1 (fi i i1 i2).2
  ·rintro r st3 ⟨q, p3, rfl, S3, B3, D3, q1, F3, K3⟩
   rw [show max (n + 1) nrem = nrem by omega] at D3 q1 F3 ⊢
   exact ⟨nrem, q, p3, rfl, h1, Nat.le_refl _, S3, B3, D3, q1, F3, K3⟩
  ·intro i j i1 i2 j1 j2
   have : i = j := by omega
   subst this; exact o.rf _
  rintro r st3 ⟨x, q, p3, rfl, x1, x2, S3, B3, D3, q1, F3, K3⟩
  dsimp only
  by_cases q0 : q > 0
  case' pos =>
   refine yI q0 (wpS_bind (zge S3 fun st4 S4 => ?_))
   have D4 := zbp B3 (by omega) q1 D3 F3
   have B4 := B3.rev (lo + x - (q + 1)) (lo + x)
   have K4 : ∀ i, i < lo -> (kas_rev p3 (lo + x - (q + 1)) (lo + x)).getD i 0 = p.getD i 0 := fun i hi => by rw [xA B3 (by omega), if_neg (by omega)]; exact K3 i hi
   generalize kas_rev p3 (lo + x - (q + 1)) (lo + x) = p4 at S4 D4 B4 K4
  case' neg =>
   refine yV q0 ?_
   have D4 := D3
   have B4 := B3
   have K4 := K3
   have S4 := S3
   generalize p3 = p4 at S4 D4 B4 K4
   generalize st3 = st4 at S4 ⊢
  all_goals
   refine wpS_bind (zge S4 fun st5 S5 => ?_)
   have U5 := znw B4 (by omega) D4
   have B5 := B4.rev lo (lo + x)
   have K5 : ∀ i, i < lo -> (kas_rev p4 lo (lo + x)).getD i 0 = p.getD i 0 := fun i hi => by rw [xA B4 (by omega), if_neg (by omega)]; exact K4 i hi
   generalize kas_rev p4 lo (lo + x) = p5 at S5 U5 B5 K5
   refine wpS_bind (wpS_mono (wpS_forRange
    (I := fun y r st' => st' = st5 /\ r = (none, y) /\ UpF lt p5 lo y)
    (Q := fun r st' => st' = st5 /\ ∃ n, r = (none, n) /\ 1 <= n /\ n <= nrem /\ UpF lt p5 lo n) ?_ ?_ ⟨rfl, rfl, U5⟩) ?_)
   ·rintro y r st' hy1 hy2 ⟨rfl, rfl, u⟩
    refine wpS_bind (jF c B5 S5 (by omega) (by omega) ?_)
    cases z : lt (p5.getD (lo + y) 0) (p5.getD (lo + y - 1) 0) with
    | true =>
     dsimp only
     exact yI rfl (wpS_pure ⟨rfl, y, rfl, by omega, by omega, u⟩)
    | false =>
     dsimp only
     exact yV (by decide) (wpS_pure ⟨rfl, rfl, zha o u (by omega) z⟩)
   ·rintro r st' ⟨rfl, rfl, u⟩
    rw [show max x nrem = nrem by omega] at u ⊢
    exact ⟨rfl, nrem, rfl, h1, Nat.le_refl _, u⟩
   ·rintro r st' ⟨rfl, y, rfl, y1, y2, u⟩
    dsimp only
    exact wpS_pure (h _ p5 y S5 B5 y1 y2 u K5)
end
end L2
namespace L2
open PySem PySem.W PyProof.Rows
section
variable {prog : Program} {w : World} {A : Around} {E : Value -> Shared -> Prop} {s : Shared} {κ : SortKind} {it : Array Keyed} {lt : Nat -> Nat -> Bool} {N : Nat}
inductive Rn (lt : Nat -> Nat -> Bool) (p : Array Nat) : Nat -> List (Nat × Nat × Nat) -> Nat -> Prop
 | nil (a : Nat) : Rn lt p a [] a
 | cons {a n pw b : Nat} {ps : List (Nat × Nat × Nat)} (h0 : 0 < n) (u : UpF lt p a n) (t : Rn lt p (a + n) ps b) : Rn lt p a ((a, n, pw) :: ps) b
theorem Rn.le {p : Array Nat} {a b : Nat} {ps : List (Nat × Nat × Nat)} (h : Rn lt p a ps b) : a + ps.length <= b := by
 induction h with
 | nil => exact Nat.le_refl _
 | cons h0 _ _ ih => simp at ih ⊢; omega
theorem Rn.app {p : Array Nat} {a b c : Nat} {ps qs : List (Nat × Nat × Nat)} (h : Rn lt p a ps b) (h2 : Rn lt p b qs c) : Rn lt p a (ps ++ qs) c := by
 induction h with
 | nil => exact h2
 | cons h0 u _ ih => exact .cons h0 u (ih h2)
theorem Rn.cut {p : Array Nat} {c : Nat} {qs : List (Nat × Nat × Nat)} : ∀ {ps : List (Nat × Nat × Nat)} {a : Nat}, Rn lt p a (ps ++ qs) c -> ∃ b, Rn lt p a ps b /\ Rn lt p b qs c
 | [], a, h => ⟨a, .nil a, h⟩
 | x :: ps, a, h => by
  cases h with
  | cons h0 u t =>
   obtain ⟨b, h1, h2⟩ := Rn.cut t
   exact ⟨b, .cons h0 u h1, h2⟩
theorem UpF.same {p p' : Array Nat} {a n : Nat} (h : UpF lt p a n) (e : ∀ i, a <= i -> i < a + n -> p'.getD i 0 = p.getD i 0) : UpF lt p' a n := fun i j hi hij hj => by
 rw [e i hi (by omega), e j (by omega) hj]; exact h i j hi hij hj
theorem Rn.same {p p' : Array Nat} {a b : Nat} {ps : List (Nat × Nat × Nat)} (h : Rn lt p a ps b) (e : ∀ i, a <= i -> i < b -> p'.getD i 0 = p.getD i 0) : Rn lt p' a ps b := by
 induction h with
 | nil => exact .nil _
 | cons h0 u t ih =>
  have := t.le
  exact .cons h0 (u.same fun i h1 h2 => e i h1 (by omega)) (ih fun i h1 h2 => e i (by omega) h2)
theorem Rn.mod {p : Array Nat} {b : Nat} {f : Nat × Nat × Nat -> Nat × Nat × Nat} (hf : ∀ x, (f x).1 = x.1 /\ (f x).2.1 = x.2.1) : ∀ {ps : List (Nat × Nat × Nat)} {a : Nat} (k : Nat), Rn lt p a ps b -> Rn lt p a (ps.modify k f) b
 | [], a, k, h => by cases k <;> exact h
 | x :: ps, a, 0, h => by
  cases h with
  | cons h0 u t =>
   rename_i n pw
   obtain ⟨e1, e2⟩ := hf (a, n, pw)
   have e : f (a, n, pw) = (a, n, (f (a, n, pw)).2.2) := Prod.ext e1 (Prod.ext e2 rfl)
   show Rn lt p a (f (a, n, pw) :: ps) b
   rw [e]
   exact .cons h0 u t
 | x :: ps, a, k + 1, h => by
  cases h with
  | cons h0 u t => exact .cons h0 u (Rn.mod hf k t)
theorem Rn.at {p : Array Nat} {a b i : Nat} {ps : List (Nat × Nat × Nat)} (h : Rn lt p a ps b) (hi : i + 1 < ps.length) : ∃ ps1 sa na w1 nb w2 ps2, ps = ps1 ++ (sa, na, w1) :: (sa + na, nb, w2) :: ps2 /\ ps1.length = i := by
 have e : ps = ps.take i ++ ps.drop i := (List.take_append_drop _ _).symm
 rw [e] at h
 obtain ⟨c, _, h2⟩ := Rn.cut h
 rw [List.drop_eq_getElem_cons (show i < ps.length by omega), List.drop_eq_getElem_cons hi] at h2 e
 generalize hx : ps[i] = x at h2 e
 generalize hy : ps[i + 1] = y at h2 e
 cases h2 with
 | cons h0 u t =>
  cases t with
  | cons h0' u' t' => exact ⟨ps.take i, _, _, _, _, _, _, e, by rw [List.length_take]; omega⟩
theorem v4 (p : Array Nat) (i : Nat) : p.getD i 0 = p.toList.getD i 0 := by rw [Array.getD_eq_getD_getElem?, List.getD_eq_getElem?_getD, Array.getElem?_toList]
theorem zgz {p : Array Nat} {a n : Nat} (u : UpF lt p a n) (h : a + n <= p.size) : ((p.toList.drop a).take n).Pairwise (Le lt) := by
 rw [List.pairwise_iff_getElem]
 intro i j hi hj hij
 rw [List.length_take, List.length_drop] at hi hj
 rw [List.getElem_take, List.getElem_take, List.getElem_drop, List.getElem_drop]
 have g : ∀ k (hk : k < p.toList.length), p.toList[k] = p.getD k 0 := fun k hk => by rw [v4, List.getD_eq_getElem?_getD, List.getElem?_eq_getElem hk]; rfl
 rw [g, g]
 exact u _ _ (by omega) (by omega) (by omega)
theorem zes {i lo sa na w1 sb nb w2 : Nat} {ps1 ps2 : List (Nat × Nat × Nat)} {p : Array Nat} {pd : Array (Nat × Nat × Nat)} {st : SortSt} {Q : Bool -> SortSt -> Prop} (c : Cmp prog w A κ it lt N s) (o : Ord lt) (B : PB N p) (S : StP κ it st p pd) (hpd : pd.toList = ps1 ++ (sa, na, w1) :: (sb, nb, w2) :: ps2) (hi : ps1.length = i)
  (R : Rn lt p 0 pd.toList lo) (hlo : lo <= N) (h : ∀ st' p' pd', StP κ it st' p' pd' -> PB N p' -> pd'.toList = ps1 ++ (sa, na + nb, w1) :: ps2 -> Rn lt p' 0 pd'.toList lo -> (∀ j, lo <= j -> p'.getD j 0 = p.getD j 0) -> Q true st') : wpS (model prog w) A E s (mergeAt' i) Q st := by
 rw [hpd] at R
 obtain ⟨b, R1, R2⟩ := Rn.cut R
 cases R2 with
 | cons a0 ua t =>
  cases t with
  | cons b0 ub R3 =>
   have l3 := R3.le
   have ps : p.size = N := B.size
   have pl : p.toList.length = N := by rw [Array.length_toList, ps]
   generalize hP : p.toList.take sa = P
   generalize hX : (p.toList.drop sa).take na = X
   generalize hY : (p.toList.drop (sa + na)).take nb = Y
   generalize hZ : p.toList.drop (sa + na + nb) = Z
   have lP : P.length = sa := by rw [<- hP, List.length_take]; omega
   have lX : X.length = na := by rw [<- hX, List.length_take, List.length_drop]; omega
   have lY : Y.length = nb := by rw [<- hY, List.length_take, List.length_drop]; omega
   have eL : p.toList = P ++ X ++ Y ++ Z := by
    rw [<- hP, <- hX, <- hY, <- hZ, List.append_assoc, List.append_assoc]
    conv => lhs; rw [<- List.take_append_drop sa p.toList]
    congr 1
    conv => lhs; rw [<- List.take_append_drop na (p.toList.drop sa)]
    congr 1
    rw [List.drop_drop]
    conv => lhs; rw [<- List.take_append_drop nb (p.toList.drop (sa + na))]
    congr 1
    rw [List.drop_drop]
   have sX : X.Pairwise (Le lt) := by rw [<- hX]; exact zgz ua (by omega)
   have sY : Y.Pairwise (Le lt) := by rw [<- hY]; exact zgz ub (by omega)
   have S' : zAl κ it st (P ++ X ++ Y ++ Z) pd := ⟨S.k, by rw [S.a, <- eL]; apply Array.toList_inj.mp; rw [Array.toList_map], S.p, S.f⟩
   have lN : ∀ x ∈ P ++ X ++ Y ++ Z, x < N := fun x hx => by
    rw [<- eL] at hx
    have := B.perm.mem_iff.mp (by simpa using hx)
    simpa using this
   have p1 : pd[i]? = some (P.length, X.length, w1) := by rw [<- Array.getElem?_toList, hpd, <- hi, lP, lX]; simp
   have p2 : pd[i + 1]? = some (P.length + X.length, Y.length, w2) := by rw [<- Array.getElem?_toList, hpd, <- hi, lP, lX, lY]; simp
   refine ziv c o S' lN p1 p2 (by omega) (by omega) sX sY fun st' W SW pW sW => ?_
   have lW : W.length = na + nb := by rw [pW.length_eq, List.length_append, lX, lY]
   have pW' : (P ++ W ++ Z).Perm p.toList := by
    rw [eL, List.append_assoc (P ++ X) Y Z, List.append_assoc P X, List.append_assoc P W]
    refine List.Perm.append_left _ ?_
    rw [<- List.append_assoc]
    exact List.Perm.append_right _ pW
   have gD : ∀ j, ((P ++ W ++ Z).toArray).getD j 0 = (P ++ W ++ Z).getD j 0 := fun j => by rw [v4]
   have keep : ∀ j, j < sa \/ sa + na + nb <= j -> ((P ++ W ++ Z).toArray).getD j 0 = p.getD j 0 := fun j hj => by
    rw [gD, v4, eL, List.getD_eq_getElem?_getD, List.getD_eq_getElem?_getD]
    congr 1
    rcases hj with hj | hj
    ·rw [List.append_assoc, List.append_assoc, List.append_assoc, List.getElem?_append_left (by omega), List.getElem?_append_left (by omega)]
    ·rw [List.getElem?_append_right (by rw [List.length_append]; omega), List.getElem?_append_right (by rw [List.length_append, List.length_append]; omega)]
     congr 1
     rw [List.length_append, List.length_append, List.length_append]
     omega
   refine h st' (P ++ W ++ Z).toArray _ ⟨SW.k, by rw [SW.a]; simp, SW.p, SW.f⟩ ⟨?_⟩ ?_ ?_ (fun j hj => keep j (.inr (by omega)))
   ·exact Array.Perm.trans (by rw [Array.perm_iff_toList_perm]; exact pW') B.perm
   ·rw [Array.toList_eraseIdxIfInBounds, Array.toList_setIfInBounds, hpd, <- hi, lP, lX, lY]
    simp [List.eraseIdx_append_of_length_le]
   ·rw [Array.toList_eraseIdxIfInBounds, Array.toList_setIfInBounds, hpd, <- hi, lP, lX, lY]
    have e : ((ps1 ++ (sa, na, w1) :: (sa + na, nb, w2) :: ps2).set ps1.length (sa, na + nb, w1)).eraseIdx (ps1.length + 1) = ps1 ++ (sa, na + nb, w1) :: ps2 := by
     simp [List.eraseIdx_append_of_length_le]
    rw [e]
    refine (R1.same fun j _ h2 => keep j (.inl h2)).app (.cons (by omega) ?_ ?_)
    ·intro i j hi' hij hj
     rw [gD, gD]
     have gW : ∀ k, sa <= k -> k < sa + (na + nb) -> (P ++ W ++ Z).getD k 0 = W.getD (k - sa) 0 := fun k k1 k2 => by
      rw [List.getD_eq_getElem?_getD, List.getD_eq_getElem?_getD, List.append_assoc, List.getElem?_append_right (by omega), List.getElem?_append_left (by omega), lP]
     rw [gW i hi' (by omega), gW j (by omega) hj]
     by_cases e : i = j
     ·subst e; exact o.rf _
     ·have gE : ∀ k (hk : k < W.length), W.getD k 0 = W[k] := fun k hk => by rw [List.getD_eq_getElem?_getD, List.getElem?_eq_getElem hk]; rfl
      rw [gE (i - sa) (by omega), gE (j - sa) (by omega)]
      exact List.pairwise_iff_getElem.mp sW _ _ (by omega) (by omega) (by omega)
    ·rw [<- Nat.add_assoc]
     exact R3.same fun j h1 _ => keep j (.inr h1)
end
end L2
namespace L2
open PySem PySem.W PyProof.Rows
section
variable {prog : Program} {w : World} {A : Around} {E : Value -> Shared -> Prop} {s : Shared} {κ : SortKind} {it : Array Keyed} {lt : Nat -> Nat -> Bool} {N : Nat}
theorem gP {i lo : Nat} {p : Array Nat} {pd : Array (Nat × Nat × Nat)} {st : SortSt} {Q : Bool -> SortSt -> Prop} (c : Cmp prog w A κ it lt N s) (o : Ord lt) (B : PB N p) (S : StP κ it st p pd) (R : Rn lt p 0 pd.toList lo) (hlo : lo <= N) (hi : i + 1 < pd.size)
  (h : ∀ st' p' pd', StP κ it st' p' pd' -> PB N p' -> pd'.size = pd.size - 1 -> Rn lt p' 0 pd'.toList lo -> (∀ j, lo <= j -> p'.getD j 0 = p.getD j 0) -> Q true st') : wpS (model prog w) A E s (mergeAt' i) Q st := by
 obtain ⟨ps1, sa, na, w1, nb, w2, ps2, e1, e2⟩ := R.at (i := i) (by rw [Array.length_toList]; exact hi)
 refine zes c o B S e1 e2 R hlo fun st3 p3 pd3 S3 B3 e3 R3 k3 => h st3 p3 pd3 S3 B3 ?_ R3 k3
 have a1 : pd3.toList.length = pd3.size := Array.length_toList
 have a2 : pd.toList.length = pd.size := Array.length_toList
 rw [e3] at a1
 rw [e1] at a2
 simp at a1 a2
 omega
theorem zgs {p : Array Nat} {st : SortSt} {Q : Unit -> SortSt -> Prop} (c : Cmp prog w A κ it lt N s) (o : Ord lt) (B : PB N p) (S : StP κ it st p #[]) (h2 : 2 <= N)
  (h : ∀ st' p' pd, StP κ it st' p' pd -> PB N p' -> UpF lt p' 0 N -> Q () st') : wpS (model prog w) A E s sortRuns' Q st := by
 refine wpS_bind (wpS_get ?_)
 have hs : (arrOf st).size = N := by rw [S.a, Array.size_map, B.size]
 dsimp only
 rw [hs]
 generalize minRun' N N 0 = mr
 refine wpS_bind (wpS_mono (wpS_forRange
  (I := fun x r st' => ∃ lo p' pd, r = (none, lo) /\ StP κ it st' p' pd /\ PB N p' /\ Rn lt p' 0 pd.toList lo /\ lo <= N /\ x <= lo)
  (Q := fun r st' => ∃ p' pd, r = (none, N) /\ StP κ it st' p' pd /\ PB N p' /\ Rn lt p' 0 pd.toList N) ?_ ?_ ⟨0, p, #[], rfl, S, B, .nil 0, by omega, by omega⟩) ?_)
 rotate_left
 ·rintro r st' ⟨lo, p', pd, rfl, S', B', R', l1, l2⟩
  have : lo = N := by omega
  subst this
  exact ⟨p', pd, rfl, S', B', R'⟩
 ·rintro r st' ⟨p', pd, rfl, S', B', R'⟩
  dsimp only
  refine wpS_bind (wpS_mono (wpS_forRange
   (I := fun x r st' => ∃ p' pd, r = (none, ()) /\ StP κ it st' p' pd /\ PB N p' /\ Rn lt p' 0 pd.toList N /\ pd.size + x <= N)
   (Q := fun r st' => ∃ p' pd, r = (none, ()) /\ StP κ it st' p' pd /\ PB N p' /\ Rn lt p' 0 pd.toList N /\ pd.size <= 1) ?_ ?_ ⟨p', pd, rfl, S', B', R', ?_⟩) ?_)
  ·rintro x r st' _ hx ⟨p', pd, rfl, S', B', R', l1⟩
   rcases st' with ⟨kd, ar, pn, gl, fl⟩
   have ep : pn = pd := S'.p
   subst ep
   refine wpS_bind (wpS_get ?_)
   by_cases e : pn.size <= 1
   ·exact yI e (wpS_pure ⟨p', pn, rfl, S', B', R', e⟩)
   refine yV e ?_
   refine wpS_bind (gP c o B' S' R' (Nat.le_refl _) ?_ fun st3 p3 pd3 S3 B3 l3 R3 _ => ?_)
   ·dsimp only
    repeat' split
    all_goals omega
   ·refine yV (by decide) (wpS_pure ⟨p3, pd3, rfl, S3, B3, R3, by omega⟩)
  ·rintro r st' ⟨p', pd, rfl, S', B', R', l1⟩
   exact ⟨p', pd, rfl, S', B', R', by omega⟩
  ·have := R'.le
   rw [Array.length_toList] at this
   omega
  ·rintro r st' ⟨p', pd, rfl, S', B', R', l1⟩
   dsimp only
   refine wpS_pure (h _ p' pd S' B' ?_)
   generalize hl : pd.toList = ps at R'
   cases R' with
   | nil => omega
   | cons h0 u t =>
    cases t with
    | nil => rw [Nat.zero_add]; exact u
    | cons h0' u' t' =>
     have : pd.toList.length <= 1 := by rw [Array.length_toList]; exact l1
     rw [hl] at this
     simp at this
 rintro x r st' _ hx ⟨lo, p', pd, rfl, S', B', R', l1, l2⟩
 dsimp only
 by_cases e : lo >= N
 ·have : lo = N := by omega
  subst this
  exact yI e (wpS_pure ⟨p', pd, rfl, S', B', R'⟩)
 refine yV e (wpS_bind (zqw c o B' S' (by omega) (by omega) fun st2 p2 n S2 B2 n1 n2 U2 K2 => ?_))
 dsimp only
 refine vS (fun hm => ?_) (fun hm => ?_)
 case' refine_1 =>
  refine wpS_bind (wpS_lift (wpAny_rule ⟨rfl, ?_⟩))
  refine wpS_bind (zoc c o B2 S2 (by omega) (by omega) (by omega) U2 fun st3 p3 S3 B3 U3 K3' => ?_)
  refine yV (by decide) ?_
  have K3 : ∀ i, i < lo -> p3.getD i 0 = p'.getD i 0 := fun i hi => (K3' i hi).trans (K2 i hi)
  have n3 : 0 < min (N - lo) (minRun' N N 0) := by
   have : n < minRun' N N 0 := hm
   omega
  have n4 : lo + min (N - lo) (minRun' N N 0) <= N := by omega
 case' refine_2 =>
  have S3 := S2
  have B3 := B2
  have U3 := U2
  have K3 := K2
  generalize p2 = p3 at S3 B3 U3 K3
  generalize st2 = st3 at S3 ⊢
  have n3 : 0 < n := n1
  have n4 : lo + n <= N := by omega
 all_goals
  have R3 := R'.same (p' := p3) fun i _ hi => K3 i hi
  refine wpS_bind (wpS_get ?_)
  rw [show (pendingOf st3).back? = pd.back? by rw [S3.p]]
  have push : ∀ (st4 : SortSt) (p4 : Array Nat) (pd4 : Array (Nat × Nat × Nat)) (k : Nat), 0 < k -> lo + k <= N -> UpF lt p4 lo k -> StP κ it st4 p4 pd4 -> PB N p4 -> Rn lt p4 0 pd4.toList lo ->
    ∃ p' pd, StP κ it (setPending st4 ((pendingOf st4).push (lo, k, 0))) p' pd /\ PB N p' /\ Rn lt p' 0 pd.toList (lo + k) /\ lo + k <= N /\ x + 1 <= lo + k := fun st4 p4 pd4 k k1 k2 u4 S4 B4 R4 =>
   ⟨p4, pd4.push (lo, k, 0), ⟨S4.k, S4.a, by show (pendingOf st4).push _ = _; rw [S4.p], S4.f⟩, B4, by rw [Array.toList_push]; exact R4.app (.cons k1 u4 (.nil _)), k2, by omega⟩
  cases hb : pd.back? with
  | none =>
   dsimp only
   obtain ⟨p9, pd9, q1, q2, q3, q4, q5⟩ := push st3 p3 pd _ n3 n4 U3 S3 B3 R3
   exact wpS_bind (wpS_modify (wpS_pure ⟨_, p9, pd9, rfl, q1, q2, q3, q4, q5⟩))
  | some b =>
   obtain ⟨s1, m1, w1⟩ := b
   dsimp only
   refine wpS_bind (wpS_mono (wpS_forRange
    (I := fun _ r st' => ∃ p4 pd4, r = (none, ()) /\ StP κ it st' p4 pd4 /\ PB N p4 /\ Rn lt p4 0 pd4.toList lo /\ ∀ j, lo <= j -> p4.getD j 0 = p3.getD j 0)
    (Q := fun r st' => ∃ p4 pd4, r = (none, ()) /\ StP κ it st' p4 pd4 /\ PB N p4 /\ Rn lt p4 0 pd4.toList lo /\ ∀ j, lo <= j -> p4.getD j 0 = p3.getD j 0) ?_ (fun _ _ z => z) ⟨p3, pd, rfl, S3, B3, R3, fun _ _ => rfl⟩) ?_)
   ·rintro y r st4 _ hy ⟨p4, pd4, rfl, S4, B4, R4, K4⟩
    rcases st4 with ⟨kd, ar, pn, gl, fl⟩
    have ep : pn = pd4 := S4.p
    subst ep
    refine wpS_bind (wpS_get ?_)
    dsimp only
    by_cases e5 : pn.size > 1
    ·have e6 : pn[pn.size - 2]? = some pn[pn.size - 2] := Array.getElem?_eq_getElem (by omega)
     rw [if_pos e5, e6]
     generalize pn[pn.size - 2] = b6
     obtain ⟨b61, b62, b63⟩ := b6
     dsimp only
     refine vS (fun _ => wpS_pure ⟨p4, pn, rfl, S4, B4, R4, K4⟩) (fun _ => ?_)
     refine wpS_bind (gP c o B4 S4 R4 l1 (by omega) fun st5 p5 pd5 S5 B5 l5 R5 K5 => ?_)
     exact yV (by decide) (wpS_pure ⟨p5, pd5, rfl, S5, B5, R5, fun j hj => (K5 j hj).trans (K4 j hj)⟩)
    ·rw [if_neg e5]
     exact wpS_pure ⟨p4, pn, rfl, S4, B4, R4, K4⟩
   ·rintro r st4 ⟨p4, pd4, rfl, S4, B4, R4, K4⟩
    rcases st4 with ⟨kd, ar, pn, gl, fl⟩
    have ep : pn = pd4 := S4.p
    subst ep
    dsimp only
    refine wpS_bind (wpS_modify (wpS_bind (wpS_modify (wpS_pure ?_))))
    have U4 := U3.same (p' := p4) fun i h1 _ => K4 i h1
    refine ⟨_, p4, _, rfl, ⟨S4.k, S4.a, rfl, S4.f⟩, B4, ?_, n4, by omega⟩
    dsimp only
    rw [Array.toList_push, Array.toList_modify]
    refine Rn.app (Rn.mod ?_ _ R4) (.cons n3 U4 (.nil _))
    intro z
    exact ⟨rfl, rfl⟩
end
end L2
namespace L2
open PySem PySem.W PyProof.Rows
section
variable {prog : Program} {w : World} {A : Around} {E : Value -> Shared -> Prop} {s : Shared}
theorem zil {a : Addr} {vs : List Value} {n : Nat} {lt : Nat -> Nat -> Bool} {P : PySem.Fin -> Shared -> Prop} (ho : s.heap.get? a = some (seqObj "list" vs.toArray n)) (o : Ord lt) (hbig : vs.length <= 1000000)
  (ask : 2 <= vs.length -> ∀ h', (∀ b u, b ≠ a -> s.heap.get? b = some u -> h'.get? b = some u) -> ∃ κ : SortKind, (∀ (E : Value -> Shared -> Prop) (Q : SortKind -> Shared -> Prop), Q κ { s with heap := h' } -> wpAny (model prog w) A (keyKind' vs.toArray) Q E { s with heap := h' }) /\
   ∀ (i j : Nat) (C : Bool -> Shared -> Prop), i < vs.length -> j < vs.length -> C (lt i j) { s with heap := h' } -> wpAny (model prog w) A (keyLt' κ (vs.getD i Value.none) (vs.getD j Value.none)) C (fun _ _ => False) { s with heap := h' })
  (q : ∀ p, PB vs.length p -> Up lt p vs.length -> P (.done (.ret .none)) { s with heap := sortedHeap s.heap a vs (wV vs p).toArray }) : wpAny (model prog w) A (Builtin.«list.sort» ⟨[.ref a], []⟩) P E s := by
 rw [list_sort_plain]
 have la : a < s.heap.objs.size := Heap.lt_size ho
 have zs : vs.length <= sizeLine := by rw [sizeLine_eq]; omega
 refine wpAny_bind (listItems_at ho rfl (wpAny_bind (listUpdate_at ho rfl ?_ (by rw [List.size_toArray]; exact zs) (Nat.zero_le _))))
 obtain ⟨e1, o1⟩ : ∃ e1, (s.heap.update a (Obj.mapSeq fun _ => (#[] : Array Value))).get? a = some (seqObj "list" #[] e1) := ⟨_, get?_update_seq ho fun _ => #[]⟩
 refine wpAny_bind (seqEpoch_at o1 rfl (wpAny_bind (wpAny_newTuple (wpAny_bind (wpAny_newList (wpAny_holding ?_) (Nat.zero_le _))) (by show vs.length <= _; exact zs))))
 have sb := Heap.SameBut.update s.heap a (Obj.mapSeq fun _ => (#[] : Array Value))
 have keep : ∀ b u, b ≠ a -> s.heap.get? b = some u -> (((s.heap.update a (Obj.mapSeq fun _ => #[])).push (seqObj "tuple" vs.toArray 0)).push (seqObj "list" #[] 0)).get? b = some u := fun b u hb z =>
  Heap.get?_push_of_some _ (Heap.get?_push_of_some _ ((sb.2 b hb).trans z))
 have o6 : (((s.heap.update a (Obj.mapSeq fun _ => #[])).push (seqObj "tuple" vs.toArray 0)).push (seqObj "list" #[] 0)).get? a = some (seqObj "list" #[] e1) := Heap.get?_push_of_some _ (Heap.get?_push_of_some _ o1)
 show wpAny (model prog w) A _ P E { s with heap := ((s.heap.update a (Obj.mapSeq fun _ => (#[] : Array Value))).push (seqObj "tuple" vs.toArray 0)).push (seqObj "list" #[] 0) }
 dsimp only
 have fin : ∀ (st : SortSt) (out : List Value), (arrOf st).map (·.2) = out.toArray -> out.length = vs.length -> failedOf st = none -> P (.done (.ret .none)) { s with heap := sortedHeap s.heap a vs out.toArray } ->
   wpAny (model prog w) A (do
    let touched := (<- seqEpoch a) != e1
    Builtin.List.listUpdate (.ref a) fun _ => (arrOf st).map (·.2)
    if let some e := failedOf st then rule "list.sort.comparison-raised"; throw e
    if touched then rule "list.sort.modified"; raiseError "ValueError" "list modified during sort"
    ret .none) P E { s with heap := ((s.heap.update a (Obj.mapSeq fun _ => (#[] : Array Value))).push (seqObj "tuple" vs.toArray 0)).push (seqObj "list" #[] 0) } := by
  intro st out eo el ef qq
  refine wpAny_bind (seqEpoch_at o6 rfl ?_)
  rw [eo]
  refine wpAny_bind (listUpdate_at o6 rfl ?_ (Nat.zero_le _) (by show out.toArray.size <= _; rw [List.size_toArray, el, sizeLine_eq]; omega))
  rw [ef]
  simp only [bne_self_eq_false, Bool.false_eq_true, if_false]
  exact wpAny_pure qq
 by_cases two : vs.length >= 2
 ·have hn2 : ¬ vs.toArray.size < 2 := by rw [List.size_toArray]; omega
  rw [if_neg hn2, if_neg hn2]
  obtain ⟨κ, kk, cc⟩ := ask two _ keep
  have hit : ∀ i, i < vs.length -> (kas_item (vs.toArray.zip vs.toArray) i).1 = vs.getD i Value.none := fun i hi => by simp [kas_item, Array.getD, List.getD, hi]
  refine wpAny_bind (kk _ _ ?_)
  have C : Cmp prog w A κ (vs.toArray.zip vs.toArray) lt vs.length { s with heap := ((s.heap.update a (Obj.mapSeq fun _ => (#[] : Array Value))).push (seqObj "tuple" vs.toArray 0)).push (seqObj "list" #[] 0) } := fun i j C hi hj hC => by
   unfold kas_cmp
   rw [hit i hi, hit j hj]
   exact cc i j C hi hj hC
  have S0 : StP κ (vs.toArray.zip vs.toArray) (SortSt.mk' κ (vs.toArray.zip vs.toArray) #[] 7 none) (List.range vs.length).toArray #[] := by
   refine ⟨rfl, ?_, rfl, rfl⟩
   show vs.toArray.zip vs.toArray = _
   apply Array.ext (by simp)
   intro i h1 h2
   simp at h1
   simp [kas_item, Array.getD, h1]
  refine wpAny_bind (wpAny_mono (zgs (E := E) (Q := fun _ st' => ∃ p, PB vs.length p /\ Up lt p vs.length /\ arrOf st' = p.map (kas_item (vs.toArray.zip vs.toArray)) /\ failedOf st' = none) C o ⟨Array.Perm.refl _⟩ S0 two fun st' p' pd S' B' U' => ⟨p', B', fun i j hij hj => U' i j (Nat.zero_le _) hij (by omega), S'.a, S'.f⟩) ?_ fun _ _ x => x)
  rintro ⟨⟨⟩, st'⟩ s' ⟨rfl, p, pb, up, ea, ef⟩
  exact fin st' (wV vs p) (kat_snds rfl ea) (by unfold wV; rw [List.length_map, Array.length_toList, pb.size]) ef (q p pb up)
 ·have hn2 : vs.toArray.size < 2 := by rw [List.size_toArray]; omega
  rw [if_pos hn2, if_pos hn2]
  refine wpAny_bind (wpAny_pure ?_)
  rw [StateT.run_pure]
  refine wpAny_bind (wpAny_pure ?_)
  refine fin (SortSt.mk' general' (vs.toArray.zip vs.toArray) #[] 7 none) (wV vs (List.range vs.length).toArray) ?_ (by rw [kB two]) rfl (q _ ⟨Array.Perm.refl _⟩ ?_)
  ·rw [kB two]; exact zkh vs
  ·intro i j hij hj
   have : i = j := by omega
   subst this; exact o.rf _
end
end L2
namespace L2
open PySem PySem.W PyProof.Rows
section
variable {X : Cx}
end
end L2
namespace L2
open PySem PySem.Spec PyProof.Rows
theorem sqT {K : PySem.W.Frag} {H H' : Hp} {a : Addr} {xs : List V} (e : Same H H') (h : SqT K H a xs) : SqT K H' a xs := e.seqK (k := .t) h
section
variable {X : Cx}
theorem zia : xL X (.builtin "isinstance") (fun xs H Q => ∃ a ys n b, xs = [.ref a, .ty n] /\ SqT X.K H a ys /\ PySem.W.kitOne X.K (.type "tuple") (.type n) = some b /\ Q (.bl b) H) := by
 intro pins s σ H xs us Q I r h
 obtain ⟨a, ys, n, b, rfl, hq, e, q⟩ := h
 obtain ⟨u1, u2, rfl, r1, r2⟩ := Vals.two r
 cases (show u1 = Value.ref a from r1)
 cases (show u2 = Value.type n from r2)
 obtain ⟨its, _, ⟨o, h1, h2, _⟩, _⟩ := I.tuple hq
 exact PySem.W.kia_one PySem.W.kitx_tuple I.kIn ⟨o, h1, h2⟩ e (fun z => nomatch z) fun tk => ⟨.bl b, H, I.tok tk, rfl, q⟩
def zBf (K : PySem.W.Frag) : R2 := fun x y H Q => ∃ a b xs ys, x = .ref a /\ y = .ref b /\ SqT K H a xs /\ SqT K H b ys /\ xs.length + ys.length <= sizeLine /\ ∀ p H', Same H H' -> SqT K H' p (xs ++ ys) -> Q (.ref p) H'
theorem ztu : OpR X (binaryOp .Add) (zBf X.K) := by
 intro pins s σ H x y v u Q I rx ry h
 obtain ⟨a, b, xs, ys, rfl, rfl, ha, hb, hz, q⟩ := h
 by_cases hx : xs = []
 ·subst hx
  exact zfh pins s σ H _ _ v u Q I rx ry ⟨a, b, ys, rfl, rfl, ha, hb, q b H (Same.refl H) hb⟩
 ·refine zll pins s σ H _ _ v u Q I rx ry ⟨a, b, xs, ys, rfl, rfl, ha, hb, hx, hz, fun hy => ?_, fun hy p hp => q p _ (Same.new hp) (SqT.of zC)⟩
  subst hy
  exact q a H (Same.refl H) (by rw [List.append_nil]; exact ha)
end
end L2
namespace L2
open PySem PySem.W PyProof.Rows
section
variable {X : Cx}
end
section
variable {prog : Program} {w : World} {A : Around}
end
section
variable {X : Cx}
end
end L2
namespace L2
open PySem PySem.Spec PyProof.Rows
section
variable {X : Cx}
end
end L2
namespace L2
open PySem PySem.W PyProof.Rows
section
variable {prog : Program} {w : World} {d : Addr} {es : Array DictEntry} {ep : Nat} {o : Obj}
end
section
variable {X : Cx}
end
end L2
namespace L2
open PySem PySem.Spec PyProof.Rows
section
variable {X : Cx}
def ztm : V -> List V -> Hp -> VK -> Prop := fun x vs H Q => ∃ (l : Addr) (xs : List V) (i : Nat) (y : V), x = .ref l /\ vs = [.int (i : Int), y] /\ H l = some (.lst xs) /\ i <= xs.length /\ xs.length < 1000 /\ Q .non (upd H l (.lst (xs.take i ++ y :: xs.drop i)))
theorem zmj {xs : List V} {us : List Value} (r : Vals xs us) (i : Nat) : Vals (xs.take i) (us.take i) := by
 induction r generalizing i with
 | nil => simp; exact .nil
 | cons a t ih =>
  cases i with
  | zero => exact .nil
  | succ i => exact .cons a (ih i)
theorem zmk {xs : List V} {us : List Value} (r : Vals xs us) (i : Nat) : Vals (xs.drop i) (us.drop i) := by
 induction r generalizing i with
 | nil => simp; exact .nil
 | cons a t ih =>
  cases i with
  | zero => exact .cons a t
  | succ i => exact ih i
theorem gG : MtM X "list.insert" ztm := by
 intro pins s σ H x vs v us Q I rx rv h
 obtain ⟨l, xs, i, y, rfl, rfl, hH, hi, hz, q⟩ := h
 cases rx
 obtain ⟨u1, u2, rfl, r1, r2⟩ := Vals.two rv
 obtain ⟨t, rfl⟩ := r1
 obtain ⟨z, its, n, r, hl, e⟩ := I.lstM hH
 have sl : (1000 : Nat) <= sizeLine := by decide
 have hs : its.toArray.size <= sizeLine := by rw [List.size_toArray, <- hl]; exact z
 have fin : ∀ ii : Int, ii = (i : Int) -> wpAny (model X.prog X.w) X.A (call (.builtin "list.insert") [.ref l, .int ii t, u2]) (EP X pins σ Q) X.xe s := by
  intro ii hii
  have hfit : ¬(!Builtin.List.listFitsIndex ii) = true := by
   unfold Builtin.List.listFitsIndex
   simp
   omega
  refine call_meets F.slot_list_insert ⟨_, e, rfl⟩ F.entry_list_insert (F.args_list_insert_3 _ _ _) (AutoSeq1.list_insert_list_int_val_1 l its.toArray n ii t u2 hfit hs) ⟨e, ?_⟩
  refine ⟨.non, _, I.lset (its' := its.take i ++ u2 :: its.drop i) hH e ?_ ((zmj r i).append (.cons r2 (zmk r i))) ?_, rfl, q⟩
  ·dsimp only
   rw [if_neg (by omega), show ii.toNat = i by omega, List.size_toArray, Nat.min_eq_left (by omega)]
   apply Array.ext'
   simp
   exact List.take_of_length_le (by rw [List.length_drop]; exact Nat.le_refl _)
  ·rw [List.length_append, List.length_cons, List.length_take, List.length_drop]
   omega
 exact fin _ rfl
def isK (k : Int) (v : Value) : Bool := match v with | .int a _ => a == k | _ => false
theorem zfk {ns : List Int} {its : List Value} (r : Vals (ns.map V.int) its) {m : Nat} (hm : m < its.length) : ∃ t a, ns[m]? = some a /\ its[m] = .int a t := by
 have hl := r.length
 rw [List.length_map] at hl
 have e : (ns.map V.int)[m]? = some (V.int ns[m]) := by rw [List.getElem?_map, List.getElem?_eq_getElem (by omega)]; rfl
 obtain ⟨u, hu, t, ru⟩ := r.get e
 rw [List.getElem?_eq_getElem hm] at hu
 exact ⟨t, ns[m], List.getElem?_eq_getElem (by omega), (Option.some.inj hu).trans ru⟩
end
end L2
namespace L2
open PySem PySem.Spec PyProof.Rows PySem.MeetsSeq
theorem gU {M : Model} {A : Around} {E : Value -> Shared -> Prop} {s : Shared} {β : Type} {n : Nat} (f : Nat -> β -> Sem (ForInStep β)) (I : List Nat -> β -> Shared -> Prop) (Q : β -> Shared -> Prop)
  (turn : ∀ x rest b s, I (x :: rest) b s -> wpAny M A (f x b) (fun r s' => match r with | .yield b' => I rest b' s' | .done b' => Q b' s') E s)
  (fin : ∀ b s, I [] b s -> Q b s) (b : β) (h : I (List.range' 0 n) b s) : wpAny M A (forIn ([:n] : Std.Legacy.Range) b f) Q E s := by
 rw [Std.Legacy.Range.forIn_eq_forIn_range']
 have hsz : ([:n] : Std.Legacy.Range).size = n := by simp [Std.Legacy.Range.size]
 show wpAny M A (forIn (List.range' 0 ([:n] : Std.Legacy.Range).size 1) b f) Q E s
 rw [hsz]
 exact wpAny_forIn_list f I Q turn fin _ b h
theorem zgq (l : Addr) (items : Array Value) (n : Nat) (dd : Option Addr) (sl : Array (Option Value)) (x : Value) (e : Value -> Bool) (he : ∀ y, y ∈ items -> EqGives y x (e y)) (j : Nat) (hj : j < items.size) (hit : e items[j] = true) (hno : ∀ m (hm : m < items.size), m < j -> e items[m] = false) :
  Meets (Builtin.«tuple.index» ⟨[.ref l, x], []⟩)
   (fun _ R s => s.heap.get? l = some { cls := .type "tuple", dict := dd, data := .seq items n, slots := sl } /\ R (.ok (.ret (.int j s.toks))) { s with toks := s.toks + 1 }) :=
 .of_wp fun prog w A R s h => by
  obtain ⟨hp, g, d, tk, os⟩ := s; obtain ⟨hl, h⟩ := h
  wp_walk using AutoSeq1.wpAny_loadPart' hl, gU _ (fun rest b s' => b = (none, ()) /\ s' = ⟨hp, g, d, tk, os⟩ /\ ∃ i, i <= j /\ rest = List.range' i (items.size - i)) _
  case turn =>
   rintro m rest b s' ⟨rfl, rfl, i, hi, er⟩
   rw [show items.size - i = (items.size - i - 1) + 1 by omega, List.range'_succ] at er
   injection er with e1 e2
   subst e1
   have hlt : m < items.size := by omega
   rw [Array.getElem?_eq_getElem hlt]
   refine wpAny_bind (he _ (Array.getElem_mem hlt) prog w _ _ _ _ ?_)
   by_cases c : m = j
   ·subst c
    rw [hit]
    wp_walk
    exact ⟨_, rfl, h⟩
   ·rw [hno m hlt (by omega)]
    wp_walk
    exact ⟨rfl, rfl, m + 1, by omega, by rw [e2]; congr 1⟩
  case fin =>
   rintro b s' ⟨rfl, rfl, i, hi, er⟩
   have := congrArg List.length er
   simp at this
   omega
  case h => exact ⟨rfl, rfl, 0, Nat.zero_le _, by rw [Nat.min_self]; rfl⟩
section
variable {X : Cx}
def ztn (K : PySem.W.Frag) : V -> List V -> Hp -> VK -> Prop := fun x vs H Q => ∃ (l : Addr) (ns : List Int) (k : Int) (j : Nat), x = .ref l /\ vs = [.int k] /\ SqT K H l (ns.map V.int) /\ ns[j]? = some k /\ (∀ m, m < j -> ns[m]? ≠ some k) /\ Q (.int (j : Int)) H
theorem znf : MtR X "tuple.index" (ztn X.K) := by
 intro pins s σ H x vs v us Q I rx rv h
 obtain ⟨l, ns, k, j, rfl, rfl, hH, hj, hno, q⟩ := h
 cases rx
 obtain ⟨u, rfl, t, rfl⟩ := rv.one
 obtain ⟨its, r, ⟨o, ho, hc, n, hd⟩, _⟩ := I.tuple hH
 obtain ⟨oc, od, dt, sl⟩ := o
 have e1 : oc = .type "tuple" := hc
 have e2 : dt = .seq its.toArray n := hd
 subst e1 e2
 have hl : ns.length = its.length := by have := r.length; rwa [List.length_map] at this
 have jl : j < ns.length := (List.getElem?_eq_some_iff.mp hj).1
 refine call_meets F.slot_tuple_index ⟨_, ho, rfl⟩ F.entry_tuple_index (F.args_tuple_index_2 _ _) (zgq l its.toArray n od sl (.int k t) (isK k) ?_ j (by rw [List.size_toArray]; omega) ?_ ?_) ⟨ho, ?_⟩
 ·intro y hy
  obtain ⟨m, hm, rfl⟩ := List.mem_iff_getElem.mp (show y ∈ its by simpa using hy)
  obtain ⟨t', a, _, e2⟩ := zfk r hm
  rw [e2]
  exact MeetsSeq.EqGives.int a k t' t
 ·show isK k its[j] = true
  obtain ⟨t', a, e1, e2⟩ := zfk r (show j < its.length by omega)
  rw [e2]
  rw [hj] at e1
  cases e1
  exact beq_self_eq_true k
 ·intro m hm hmj
  show isK k its[m] = false
  obtain ⟨t', a, e1, e2⟩ := zfk r (show m < its.length by omega)
  rw [e2]
  show (a == k) = false
  rw [beq_eq_false_iff_ne]
  intro z
  exact hno m hmj (by rw [e1, z])
 ·exact ⟨.int (j : Int), H, I.tok _, ⟨_, rfl⟩, q⟩
end
structure SrcD (K : PySem.W.Frag) (mg : Str -> Option Value) (x : Str) (st : Stmt) (ps : List Str) : Prop where
 ex : ∃ (f T : Addr) (oc : Value) (od : Option Addr) (kV doc pm : Value) (an : Option Addr) (cdv ct : Value) (osl : Array (Option Value)) (o : Obj) (n : Nat),
  K.lookup f = some ⟨oc, od, .func (PySem.W.fnOf x x (zI st) (zH st) (zB st) (.ref T) kV doc pm an cdv ct), osl⟩ /\ PySem.W.codeIn K cdv x = true /\ PySem.W.keepIn K (.ref f) = true /\ mg x = some (.ref f) /\
  K.lookup T = some o /\ o.data = .seq #[.none] n /\
  (∀ us : List Value, us.length = ps.length -> ∃ k : Option (Array Value) -> Sem (List (Str × Value)), bindArgs (PySem.W.fnOf x x (zI st) (zH st) (zB st) (.ref T) kV doc pm an cdv ct) ⟨us, []⟩ = seqItems? (.ref T) >>= k /\ k (some #[.none]) = pure (ps.zip us)) /\
  (∀ us : List Value, us.length + 1 = ps.length -> ∃ k : Option (Array Value) -> Sem (List (Str × Value)), bindArgs (PySem.W.fnOf x x (zI st) (zH st) (zB st) (.ref T) kV doc pm an cdv ct) ⟨us, []⟩ = seqItems? (.ref T) >>= k /\ k (some #[.none]) = pure (ps.zip (us ++ [.none])))
structure zjm (P : Program) (w : World) (K : PySem.W.Frag) (mg : Str -> Option Value) (base : Heap) (k : Nat) (x : Str) (ps : List Str) (sp : Sp) : Prop where
 ex : ∃ f fd, FnOk P w K mg base (CXr P w) k f fd ps sp /\ Binds K fd ps [] /\ Binds K fd ps [.none] /\ mg x = some (.ref f) /\ PySem.W.keepIn K (.ref f) = true
theorem SrcD.defX {P : Program} {w : World} {K : PySem.W.Frag} {mg : Str -> Option Value} {base : Heap} {k : Nat} {x : Str} {st : Stmt} {N ps : List Str} {sp : Sp} (S : SrcD K mg x st ps) (sc : zJ N ps (zB st)) (len : ∀ vs H Q E, sp vs H Q E -> vs.length = ps.length)
  (hbody : ∀ (f : Addr) (cdv : Value) (A : Around) (outer : List Env) (s : Shared) (H : Hp) (vs : List V) (Q : VK) (E : XK), Room k (A.deeper (envOfC x (zB st) s.heap.objs.size f cdv)) -> sp vs H Q E ->
   ∃ t, PSs (zlx (CXr P w) P w K mg base N x (zB st) f cdv A outer s H E) (zH st) t /\ t { nx := fun _ H' => Q .non H', rt := Q } (j8 N vs) H) : zjm P w K mg base (k + 1) x ps sp := by
 obtain ⟨f, T, oc, od, kV, doc, pm, an, cdv, ct, osl, o, n, lk, hcd, kp, m, hT, hd, b0, b1⟩ := S.ex
 refine ⟨f, _, zws lk hcd sc len (hbody f cdv), fun s us X hl => ?_, fun s us X hl => ?_, m, kp⟩
 ·rw [List.append_nil] at hl ⊢
  obtain ⟨k, e1, e2⟩ := b0 us hl
  exact PySem.W.binds_K X rfl hT hd e1 e2
 ·obtain ⟨k, e1, e2⟩ := b1 us (by rw [List.length_append] at hl; exact hl)
  exact PySem.W.binds_K X rfl hT hd e1 e2
theorem zbh {X : Cx} {k : Nat} {x : Str} {ps : List Str} {sp : Sp} {e : Expr} {es : List Expr} {t : TA} {p pos : Pos} (D : zjm X.prog X.w X.K X.mg X.base k x ps sp) (hr : Room k X.A) (hg : Gl X x) (ha : PA X (e :: es) t)
  (hdb : (x == ("__debug__" : Str)) = false := by decide) (he : starEach (e :: es) X.env = (false, eval e X.env) :: starEach es X.env := by rfl) (hpl : (backTo pos (starEach es X.env)).any (·.1) = false := by rfl) :
  PE X (.Call (.Name x p) (e :: es) [] pos) (zsl sp [] E0 t) := by
 obtain ⟨f, fd, F, b, _, m, kp⟩ := D.ex
 exact zlj F hr hg m kp b .nil zBi ha hdb he hpl
end L2
namespace L2
open PySem PySem.Spec PyProof.Rows PySem.MeetsSeq
def FzT (H : Hp) (a : Addr) (xs : List V) : Prop := ∃ o : Obj, o.cls = .type "tuple" /\ o.dict = none /\ H a = some (.frz o (.tup xs))
theorem FzT.sq {K : PySem.W.Frag} {H : Hp} {a : Addr} {xs : List V} (h : FzT H a xs) : SqT K H a xs := let ⟨o, _, _, e⟩ := h; .inl (.inr ⟨o, e⟩)
theorem FzT.same {H H' : Hp} {a : Addr} {xs : List V} (h : FzT H a xs) (s : Same H H') : FzT H' a xs := let ⟨o, c, d, e⟩ := h; ⟨o, c, d, s _ _ e⟩
theorem FzT.new {H : Hp} {a : Addr} {xs : List V} {o : Obj} (c : o.cls = .type "tuple") (d : o.dict = none) : FzT (upd H a (.frz o (.tup xs))) a xs := ⟨o, c, d, zC⟩
section
variable {X : Cx}
def zDl (r : V -> List V -> Hp -> VK -> Prop) (to : TE) (t : TA) : TE := fun σ H Q => to σ H fun x H1 => (∃ a xs, x = .ref a /\ FzT H1 a xs) /\ t σ H1 fun xs H2 => r x xs H2 Q
variable {o e : Expr} {es : List Expr} {to : TE} {t : TA} {name : Str} {apos cpos : Pos} {id : String} {r : V -> List V -> Hp -> VK -> Prop}
theorem zyo (pa : PlainAttrs "tuple") (slot : Slot "tuple" name id) (hty : typeOf (.builtin id) = pure (.type "method_descriptor")) (hm : MtR X id r) (ho : PE X o to) (ha : PA X (e :: es) t)
  (hbase : attributeBase o name X.env (eval o X.env) = eval o X.env := by rfl)
  (hfew : ((backTo cpos (starEach (e :: es) X.env)).all (fun x => !x.1) && (backToKw cpos (keywordEach [] X.env)).all (fun x => x.1.isSome)
   && decide ((e :: es).length + ([] : List Keyword).length + (if ([] : List Keyword).isEmpty then 0 else 1) < 30)) = true := by rfl)
  (hline : (apos.endLine == cpos.line) = true := by rfl) (hs : starEach (e :: es) X.env = (false, eval e X.env) :: starEach es X.env := by rfl) (hplain : (backTo cpos (starEach es X.env)).any (·.1) = false := by rfl) :
  PE X (.Call (.Attribute o name apos) (e :: es) [] cpos) (zDl r to t) := by
 intro pins s σ H Q I h
 refine wpAny_Call_method_late hbase hfew hline rfl (thn (ho pins s σ H _ I h) fun v s1 ⟨x, H1, I1, r1, ⟨a, xs, ex, ob, oc, od, eH⟩, q1⟩ => ?_)
 subst ex
 have hg : s1.heap.get? a = some ob := (I1.hok a _ eH).1
 cases (show v = Value.ref a from r1)
 refine ⟨"tuple", id, pa, slot, hty, ⟨ob, hg, oc⟩, (fun b eb => by cases eb; exact ⟨ob, hg, od⟩), ?_⟩
 have hA := ha cpos pins s1 σ H1 _ I1 q1
 rw [hs] at hA ⊢
 refine Calls.callWith_builtin (by show (false || (backTo cpos (starEach es X.env)).any (·.1)) = false; rw [hplain] <;> rfl) (Calls.evalArgs_plain ?_)
 exact thn hA fun us s2 ⟨vs, H2, I2, r2, q2⟩ => hm pins s2 σ H2 (.ref a) vs (.ref a) us Q I2 rfl r2 q2
theorem zgw : xL X (.type "tuple") (fun xs H Q => ∃ p ys, xs = [.ref p] /\ ((SqL X.K H p ys /\ ∀ l o, o.cls = .type "tuple" -> o.dict = none -> H l = none -> Q (.ref l) (upd H l (.frz o (.tup ys)))) \/ (SqT X.K H p ys /\ Q (.ref p) H))) := by
 intro pins s σ H xs us Q I r h
 obtain ⟨p, ys, rfl, h⟩ := h
 obtain ⟨u, rfl, rx⟩ := zof r
 cases rx
 rcases h with ⟨hq, q⟩ | ⟨hq, q⟩
 ·obtain ⟨its, r', pl, hz⟩ := I.list hq
  have hlen := r'.length
  refine call_tuple_list pl.isList (fun h' kp => ?_) (by simp only [List.size_toArray] <;> lia)
  have I1 : Inv X pins σ H { s with heap := h' } := I.kept (t' := s.toks) kp
  have I2 : Inv X pins σ (upd H h'.objs.size (.frz { cls := .type "tuple", data := .seq its.toArray } (.tup ys))) { s with heap := h'.push { cls := .type "tuple", data := .seq its.toArray } } :=
   I1.laid (t' := s.toks) (fun b o e => Heap.get?_push_of_some _ e) (Nat.le_refl _) (show ObjOk X.prog X.w _ _ _ (.frz _ (.tup ys)) from ⟨Heap.get?_push_size _ rfl, hz, its, r', IsTup.new _ _⟩)
  exact ⟨.ref h'.objs.size, _, I2, rfl, q _ _ rfl rfl (I1.hok.fresh (Nat.le_refl _))⟩
 ·obtain ⟨its, r', pl, hz⟩ := I.tuple hq
  exact call_tuple_same pl ⟨.ref p, H, I, rfl, q⟩
theorem g9 (hc : X.calm = true) : xL X (.type "tuple") (fun xs H Q => ∃ (p : Addr) (n : Nat), xs = [.ref p] /\ H p = some (.rng 0 n) /\ n <= 1000 /\ ∀ l o, o.cls = .type "tuple" -> o.dict = none -> H l = none -> Q (.ref l) (upd H l (.frz o (.tup (upN n))))) := by
 intro pins s σ H xs us Q I r h
 obtain ⟨p, n, rfl, hp, hn, q⟩ := h
 obtain ⟨u, rfl, ru⟩ := Vals.one r
 cases (show u = Value.ref p from ru)
 obtain ⟨t1, t2, t3, e⟩ := I.hok p _ hp
 refine callType_new F.called_tuple (by decide) (F.typeCall_tuple_1 _) (F.newCall_tuple_1 _) (fun obj => F.args_object_init_2 obj _) F.entry_tuple_new
  (gX p 0 n 1 t1 t2 t3 n (small_one (by decide) (by decide) (by lia) (by lia)) (zvy n) (by lia)) ⟨⟨I.ok.hd hc, e⟩, fun h' tk acc hk hz hacc => ⟨⟨_, Heap.get?_push_size _ rfl, rfl⟩, ?_⟩⟩
 have ge : s.heap.objs.size <= h'.objs.size := Nat.le_of_lt hz
 refine ⟨.ref h'.objs.size, upd H h'.objs.size (.frz { cls := .type "tuple", data := .seq acc } (.tup (upN n))), I.laid (fun b o e => Heap.get?_push_of_some _ (hk b o e)) ge ?_, rfl, q _ _ rfl rfl (I.hok.fresh ge)⟩
 refine ⟨Heap.get?_push_size _ rfl, by unfold upN; rw [List.length_map, List.length_range]; exact Nat.le_trans hn (by decide), acc.toList, zht hacc, _, Heap.get?_push_size _ rfl, rfl, 0, by simp⟩
def zyf (K : PySem.W.Frag) : List V -> Hp -> VK -> Prop := fun xs H Q => ∃ (a p : Addr) (cs ys : List V) (T : String) (b : Bool), xs = [.ref a, .ref p] /\ SqT K H p cs /\ ((H a = some (.lst ys) /\ T = "list") \/ (FzT H a ys /\ T = "tuple")) /\ (∀ us, Vals cs us -> PySem.W.kitAny K (.type T) us = some b) /\ Q (.bl b) H
theorem zjh : xL X (.builtin "isinstance") (zyf X.K) := by
 intro pins s σ H xs us Q I r h
 obtain ⟨a, p, cs, ys, T, b, rfl, hp, ha, e, q⟩ := h
 obtain ⟨v1, v2, rfl, r1, r2⟩ := Vals.two r
 cases (show v1 = Value.ref a from r1)
 cases (show v2 = Value.ref p from r2)
 obtain ⟨its, rv, ⟨o, ho, hc, n, hd⟩, _⟩ := I.tuple hp
 obtain ⟨oc, od, dt, sl⟩ := o
 have e1 : oc = .type "tuple" := hc
 have e2 : dt = .seq its.toArray n := hd
 subst e1 e2
 rcases ha with ⟨ea, rfl⟩ | ⟨⟨ob, c1, _, ea⟩, rfl⟩
 ·obtain ⟨_, _, n, _, h1⟩ := (show ObjOk X.prog X.w H s.heap a (.lst ys) from I.hok a _ ea)
  exact PySem.W.kia_tup PySem.W.kitx_list I.kIn ⟨_, h1, rfl⟩ ho (e its rv) (by intro z; cases z) fun tk => ⟨.bl b, H, I.tok _, rfl, q⟩
 ·exact PySem.W.kia_tup PySem.W.kitx_tuple I.kIn ⟨ob, (I.hok a _ ea).1, c1⟩ ho (e its rv) (by intro z; cases z) fun tk => ⟨.bl b, H, I.tok _, rfl, q⟩
end
end L2
namespace HT
open PySem PySem.Spec PyProof.Rows
section
variable {prog : Program} {w : World} {A : Around} {E : Value -> Shared -> Prop} {s : Shared}
end
end HT
namespace L2
open PySem PySem.Spec PyProof.Rows
section
variable {X : Cx}
end
end L2
namespace L2
open PySem PySem.Spec PyProof.Rows
section
open PySem.SeqAt
open PySem.AutoSeq1 (wpAny_loadPart')
open PySem.MeetsSeq PySem.MeetsSeq2 PySem.MeetsSeq3
end
end L2
namespace L2
open PySem PySem.W PyProof.Rows
section
variable {prog : Program} {w : World} {A : Around} {E : Value -> Shared -> Prop} {s : Shared}
end
section
variable {X : Cx}
end
end L2
namespace L2
open PySem PySem.Spec PyProof.Rows
section
variable {env : Env} {C : Addr} {names : List (Str × NameKind)} {x : Str} {d : Addr}
end
section
variable {X : Cx} {scope : Scope} {N' : List Str} {fr : List (Option Nat)} {pins : List (Addr × Obj)} {σ : St} {H : Hp} {s : Shared} {fp : List Addr}
end
section
variable {X : Cx} {scope : Scope} {N' : List Str} {fr : List (Option Nat)} {pins : List (Addr × Obj)} {σ : St} {H : Hp} {s : Shared} {fp : List Addr} {it : Addr} {tn : Nat -> Heap -> Prop} {J : It}
 {elt tg iter : Expr} {ifs : List Expr} {g : TG} {tt : TT} {te : TE} {pos : Pos} {fin : List V -> Hp -> Prop} {W : Nat -> Nat -> List V -> St -> Hp -> Prop} {RR : Value -> Addr -> Result -> Shared -> Prop} {E : Value -> Shared -> Prop}
end
end L2
namespace L2
open PySem PySem.Spec PyProof.Rows PySem.MeetsSeq PySem.AutoSeq1
end L2
namespace L2
open PySem PySem.Spec PyProof.Rows
section
variable {X : Cx}
end
def zBc (K : PySem.W.Frag) : List V -> Hp -> VK -> Prop := fun xs H Q => ∃ p ys, xs = [.ref p] /\ (SqL K H p ys \/ SqT K H p ys) /\ Q (.int ys.length) H
def zBd (K : PySem.W.Frag) : List V -> Hp -> VK -> Prop := fun xs H Q => ∃ x c t u b, xs = [x, c] /\ RelV c u /\ zbt K H x t /\ PySem.W.kitOne K t u = some b /\ Q (.bl b) H
def ztl (K : PySem.W.Frag) : List V -> Hp -> VK -> Prop := fun xs H Q => ∃ p ys, xs = [.ref p] /\ ((SqL K H p ys /\ ∀ l, H l = none -> Q (.ref l) (upd H l (.tup ys))) \/ (SqT K H p ys /\ Q (.ref p) H))
def zpv (K : PySem.W.Frag) : List V -> Hp -> VK -> Prop := fun xs H Q => ∃ p ys, xs = [.ref p] /\ (SqL K H p ys \/ SqT K H p ys) /\ ∀ l, H l = none -> Q (.ref l) (upd H l (.lst ys))
theorem yJ {A B : TS} {D : zeo} {σ : St} {H : Hp} (h : ∀ M : St -> Hp -> Prop, (∀ σ H, B D σ H -> M σ H) -> A { D with nx := M } σ H) : zCm A B D σ H := h _ fun _ _ z => z
section
variable {X : Cx} (K : PySem.W.Frag)
theorem xO (h : X.K = K := by rfl) : IxR X (zAf K) := h ▸ zug
theorem zQ (h : X.K = K := by rfl) : IxR X (zfc K) := h ▸ zze
theorem zpg (h : X.K = K := by rfl) : SlR X (zCv K) := h ▸ ztb
theorem zey (h : X.K = K := by rfl) : SlR X (zCu K) := h ▸ zxs
theorem yU (h : X.K = K := by rfl) : xL X (.builtin "len") (zBc K) := h ▸ zew
theorem wF (h : X.K = K := by rfl) : xL X (.builtin "isinstance") (zBd K) := h ▸ zgx
theorem yX (h : X.K = K := by rfl) : xL X (.type "tuple") (ztl K) := h ▸ zdb
theorem jJ (h : X.K = K := by rfl) : xL X (.type "list") (zpv K) := h ▸ zev
theorem znc (hu : X.A.units + 66 < cLine) (h : X.K = K := by rfl) : OpR X (compareOp .Eq) (zwa K false) := h ▸ zqa hu
theorem zds (hu : X.A.units + 66 < cLine) (h : X.K = K := by rfl) : OpR X (compareOp .NotEq) (zwa K true) := h ▸ zpz hu
theorem zlk (hu : X.A.units + 66 < cLine) (h : X.K = K := by rfl) : OpR X (compareOp .Eq) (zbe K true) := h ▸ zys hu
theorem kS (hu : X.A.units + 66 < cLine) (h : X.K = K := by rfl) : OpR X (compareOp .NotEq) (zbe K false) := h ▸ zyp hu
theorem zce (h : X.K = K := by rfl) : OpR X (binaryOp .Add) (zwb K) := h ▸ ztw
theorem yT {tg : Expr} (k : Kd) {l : Expr} {tl : TE} (hl : PE X l tl) (h : X.K = K := by rfl) : PI X tg l (zDb k K tl) := h ▸ zyj k hl
theorem xQ (n : Nat) {es : List Expr} {k : Nat} {t : TGs} {pos : Pos} (hc : X.calm = true) (h : PGs X es t)
  (hn : (assignEach es X.env).length = n := by rfl) (hst : (assignEach es X.env).findIdx? (·.1) = none := by rfl) (hK : X.K = K := by rfl) : PG X (.Tuple es k pos) (zls K n t) := hK ▸ zyk hc h hn hst
theorem zhj {elts : List Expr} {x1 : Nat} {tpos : Pos} {l : Expr} {ta : TA} {p pos : Pos} (k : Kd) (hg : Gl X "enumerate") (hm : X.mg "enumerate" = none) (ha : PA X [l] ta) (hs : starEach [l] X.env = [(false, eval l X.env)] := by rfl) (h : X.K = K := by rfl) :
  PI X (.Tuple elts x1 tpos) (.Call (.Name "enumerate" p) [l] [] pos) (zwp k K ta) := h ▸ zts k hg hm ha hs
end
section
variable {X : Cx}
end
structure Mk0 (K : PySem.W.Frag) (C : Addr) : Prop where
 makes : PySem.W.makesIn K C = true
 init : PySem.W.findIn K (.ref C) "__init__" = some (some (.builtin "object.__init__"))
 kp : PySem.W.keepIn K (.ref C) = true
theorem zjj {M : Model} {h : Heap} (self : Value) : PySem.W.Looks M h (bindSpecial (.builtin "object.__init__") self) (.builtin "object.__init__", [self]) := fun A Q E s _ q => by
 have e : typeOf (.builtin "object.__init__") = (pure (.type "wrapper_descriptor") : Sem Value) := by first | rfl | decide
 unfold bindSpecial
 rw [e]
 refine wpAny_bind (wpAny_pure ?_)
 rw [if_pos (by decide)]
 exact wpAny_pure q
def zxj (C : Addr) : TE := fun σ H Q => ∀ x dx, H x = none -> H dx = none -> dx ≠ x -> Q (.ref x) (upd (upd H dx (.own x)) x (.ins C dx []))
section
variable {X : Cx}
theorem zhk {C : Addr} {x : Str} {p pos : Pos} (M : Mk0 X.K C) (hg : Gl X x) (hm : X.mg x = some (.ref C)) (hdb : (x == ("__debug__" : Str)) = false := by decide) : PE X (.Call (.Name x p) [] [] pos) (zxj C) := by
 intro pins s σ H Q I h
 refine wpAny_Call_Name_kw (zbl I hg hm ?_ hdb)
 refine PySem.W.callWith_K0 I.kIn M.kp ?_
 have hq := h (s.heap.objs.size + 1) s.heap.objs.size (I.hok.fresh (Nat.le_succ _)) (I.hok.fresh (Nat.le_refl _)) (Nat.ne_of_lt (Nat.lt_succ_self _))
 have I2 := Inv.made (C := C) I
 refine wpAny_call (znh I.kIn M.makes M.init zjj ?_)
 refine codeAny_call_builtin (by decide +kernel) F.entry_object_init ?_
 have hx : ((s.heap.push PySem.W.emptyDict).push (PySem.W.instObj C s.heap.objs.size)).get? (s.heap.objs.size + 1) = some (PySem.W.instObj C s.heap.objs.size) := by
  have := Heap.get?_push_size (s.heap.push PySem.W.emptyDict) (o := PySem.W.instObj C s.heap.objs.size) rfl
  rw [Heap.size_push] at this
  exact this
 have mk := PySem.W.makes_of (M := model X.prog X.w) I2.kIn M.makes
 have li : PySem.W.Looks (model X.prog X.w) ((s.heap.push PySem.W.emptyDict).push (PySem.W.instObj C s.heap.objs.size)) (isInstance (.ref (s.heap.objs.size + 1)) (.type "object")) true := fun A' Q' E' s' hk q' => by
  have hx' := hk _ _ hx
  have tp := mk.top A' Q' E' s' hk q'
  unfold isInstance
  repeat (first | exact tp | (with_reducible refine wpAny_loadPart_at hx' ?_) | wp_step)
 refine PySem.W.check_slot (i := "object.__init__") (owner := "object") (n := "__init__") (by decide +kernel) (by decide +kernel) li (F.args_object_init_1 _) ?_
 show wpAny _ _ (PySem.ret PySem.Value.none) _ _ _
 refine wpAny_pure ?_
 exact ⟨rfl, .ref (s.heap.objs.size + 1), _, I2, rfl, hq⟩
end
def zxi (X : Cx) (m : Str) (ta : TE) : TE := fun σ H Q => ta σ H fun x H1 => ∃ a C dx fs, x = .ref a /\ H1 a = some (.ins C dx fs) /\ fs.lookup m = none /\
 ∃ (k : Nat) (f : Addr) (fd : FuncData) (ps : List Str) (sp : Sp), Cls X.K C /\ jZ X.K C m f /\ FnOk X.prog X.w X.K X.mg X.base CX0 k f fd ps sp /\ Room k X.A /\ Binds X.K fd ps [] /\ sp [x] H1 Q E0
section
variable {X : Cx} {m : Str} {apos pos : Pos} {o : Expr} {ta : TE}
theorem yQ {pl : Sem Bool} (he : PE X o ta)
  (ht : eval (.Call (.Attribute o m apos) [] [] pos) X.env = (do
   let ov <- eval o X.env
   standAt apos.atName
   let (f, first) <- holding [ov] (getMethod ov m pl)
   callWith pos f first (backTo pos (starEach [] X.env)) (backToKw pos (keywordEach [] X.env))) := by rfl) :
  PE X (.Call (.Attribute o m apos) [] [] pos) (zxi X m ta) := by
 intro pins s σ H Q I h
 refine PySem.W.methodCall_KW (pl := pl) (thn (he pins s σ H _ I h) fun u s1 ⟨x, H1, I1, rx, a, C, dx, fs, ex, ea, l, k, f, fd, ps, sp, c, hm, F, hr, hb, q⟩ => ?_) ht
 subst ex
 obtain rfl : u = Value.ref a := rx
 refine zjf I1 ea c hm l ?_
 exact PySem.W.callWith_K0 (first := [.ref a]) I1.kIn hm.kp (zrs (us := [.ref a]) (vs := [.ref a]) F hr hb .nil zis I1 (.cons rfl .nil) q)
end
section
variable {X : Cx}
def zBb (K : PySem.W.Frag) : V -> Option Int -> Option Int -> Hp -> VK -> Prop := fun x lo hi H Q => ∃ a xs, x = .ref a /\ SqT K H a xs /\
 ¬ (HT.sIx xs.length 0 lo = 0 /\ HT.sIx xs.length xs.length hi = xs.length) /\ ∀ p H', Same H H' -> FzT H' p (gS xs lo hi) -> Q (.ref p) H'
theorem zku : SlR X (zBb X.K) := by
 intro pins s σ H x v vl vu lo hi sl Q I rx hs pl pu h
 obtain ⟨a, xs, rfl, hx, hw, q⟩ := h
 cases rx
 obtain ⟨its, r, ht, hz⟩ := I.tuple hx
 have hlen : its.toArray.size = xs.length := by rw [List.size_toArray]; exact r.length.symm
 refine ⟨"tuple", _, PyProof.Rows.slot_tuple_getitem.lookup, ht.typeIs, ?_⟩
 refine HT.getItem_tuple_cut ht hs pl pu (by rw [hlen]; exact hw) ?_ (by rw [hlen]; exact hz)
 rw [hlen]
 have fr := I.hok.fresh (a := s.heap.objs.size) (Nat.le_refl _)
 refine ⟨.ref s.heap.objs.size, upd H s.heap.objs.size (.frz { cls := .type "tuple", data := .seq ((its.toArray.toList.drop (HT.sIx xs.length 0 lo)).take (HT.sIx xs.length xs.length hi - HT.sIx xs.length 0 lo)).toArray } (.tup (gS xs lo hi))), I.laid (t' := s.toks) (fun b ob q => Heap.get?_push_of_some _ q) (Nat.le_refl _) ?_, rfl, q _ _ (Same.new fr) ⟨_, rfl, rfl, zC⟩⟩
 exact ⟨Heap.get?_push_size _ rfl, Nat.le_trans (v5 xs lo hi) hz, _, (r.drop (HT.sIx xs.length 0 lo)).take (HT.sIx xs.length xs.length hi - HT.sIx xs.length 0 lo), IsTup.new _ _⟩
def zBg (K : PySem.W.Frag) : R2 := fun x y H Q => ∃ a b xs ys, x = .ref a /\ y = .ref b /\ FzT H a xs /\ FzT H b ys /\ xs.length + ys.length <= sizeLine /\ ∀ p H', Same H H' -> FzT H' p (xs ++ ys) -> Q (.ref p) H'
theorem ztv : OpR X (binaryOp .Add) (zBg X.K) := by
 intro pins s σ H x y v u Q I rx ry h
 obtain ⟨a, b, xs, ys, rfl, rfl, ha, hb, hz, q⟩ := h
 by_cases hx : xs = []
 ·subst hx
  exact zfh pins s σ H _ _ v u Q I rx ry ⟨a, b, ys, rfl, rfl, ha.sq, hb.sq, q b H (Same.refl H) hb⟩
 ·cases rx
  cases ry
  obtain ⟨its, r1, p1, _⟩ := I.tuple (FzT.sq (K := X.K) ha)
  obtain ⟨its2, r2, p2, _⟩ := I.tuple (FzT.sq (K := X.K) hb)
  refine HT.cat_tup p1 p2 (fun z => hx (r1.nil_iff.mp z)) (fun z => ⟨.ref a, H, I, rfl, q a H (Same.refl H) (by rw [r2.nil_iff.mp z, List.append_nil]; exact ha)⟩) (fun z => ?_) (by rw [<- r1.length, <- r2.length]; exact hz)
  have fr := I.hok.fresh (a := s.heap.objs.size) (Nat.le_refl _)
  refine ⟨.ref s.heap.objs.size, upd H s.heap.objs.size (.frz { cls := .type "tuple", data := .seq (its ++ its2).toArray } (.tup (xs ++ ys))), I.laid (t' := s.toks) (fun b ob q => Heap.get?_push_of_some _ q) (Nat.le_refl _) ?_, rfl, q _ _ (Same.new fr) ⟨_, rfl, rfl, zC⟩⟩
  exact ⟨Heap.get?_push_size _ rfl, by rw [List.length_append]; exact hz, _, r1.append r2, IsTup.new _ _⟩
end
section
variable {X : Cx}
end
end L2
namespace L2
open PySem PySem.W PyProof.Rows
section
variable {X : Cx}
end
end L2
namespace L2
open PySem PySem.W PyProof.Rows
section
variable {prog : Program} {w : World} {A : Around} {E : Value -> Shared -> Prop} {s : Shared}
end
end L2
namespace L2
open PySem PySem.W PyProof.Rows
section
variable {X : Cx}
theorem zrc {α : Type} [DecidableEq α] (d : α) {l m : List α} {n k : Nat} (hn : n = l.length) (hk : k = m.length) : ((List.range (min n k)).all (fun i => decide (l.getD i d = m.getD i d)) && n == k) = decide (l = m) := by
 subst hn hk
 rw [Bool.eq_iff_iff, Bool.and_eq_true, List.all_eq_true, beq_iff_eq, decide_eq_true_iff]
 constructor
 ·rintro ⟨h, e⟩
  refine List.ext_getElem e fun i h1 h2 => ?_
  have := of_decide_eq_true (h i (List.mem_range.mpr (by lia)))
  simpa [h1, h2] using this
 ·rintro rfl
  exact ⟨fun i _ => decide_eq_true rfl, rfl⟩
theorem zup (i j : Int) : eqV (.int i) (.int j) = decide (i = j) := by
 unfold eqV
 rw [Bool.eq_iff_iff, beq_iff_eq, decide_eq_true_iff]
end
end L2
namespace L2
open PySem PySem.W PyProof.Rows
section
variable {X : Cx} {pos : Pos}
end
end L2
namespace L2
open PySem PySem.SetTable
def nx (m i : Nat) : Nat := (i * 5 + 1) % (m + 1)
end L2
namespace L2
open PySem PySem.SetTable
def lv (m : Nat) (o : Array (Option Nat)) : List (Nat × Nat) := (List.range (m + 1)).filterMap fun j => (o.getD j none).map (j, ·)
end L2
namespace L2
open PySem PySem.SetTable
section
variable {prog : Program} {w : World} {A : Around} {E : Value -> Shared -> Prop} {s : Shared}
end
end L2
namespace L2
open PySem PySem.SetTable
section
variable {prog : Program} {w : World} {A : Around} {E : Value -> Shared -> Prop} {s : Shared} {a b : Addr} {o : Obj} {es : Array (Int × Value)} {ep : Nat} {t : SetTable} {kx : List Int}
end
end L2
namespace L2
open PySem PySem.SetTable PyProof.Rows
section
variable {prog : Program} {w : World} {G : Value -> List Int -> Prop} {A : Around} {E : Value -> Shared -> Prop} {s : Shared} {a b : Addr} {led : Bool} {kss : List (List Int)} {kx : List Int}
end
end L2
namespace L2
open PySem PySem.Spec PyProof.Rows
section
variable {prog : Program} {w : World} {A : Around} {R : Result -> Shared -> Prop} {I : Addr} {fp wr : List Addr} {G : Array GenState -> Array GenState -> Prop} {n : Nat} {P : Nat -> Value -> Prop} {St : Nat -> Shared -> Prop}
end
section
variable {prog : Program} {w : World} {A : Around} {E : Value -> Shared -> Prop} {s : Shared}
set_option maxHeartbeats 8000000 in
end
end L2
namespace L2
open PySem PySem.W PyProof.Rows
section
variable {prog : Program} {w : World} {A : Around} {E : Value -> Shared -> Prop} {s : Shared} {a : Addr} {kss : List (List Int)} {G : Value -> List Int -> Prop}
end
section
variable {X : Cx}
end
end L2
namespace L2
open PySem PySem.W PyProof.Rows
section
variable {X : Cx}
def zEp (K : PySem.W.Frag) : R2 := fun x y H Q => ∃ (a b : Addr) (ks ms : List Int), x = .ref a /\ y = .ref b /\ SqT K H a (ks.map V.int) /\ SqT K H b (ms.map V.int) /\ Q (.bl (decide (ks = ms))) H
theorem zyr (hu : X.A.units + 66 < cLine) : OpR X (compareOp .Eq) (zEp X.K) := by
 intro pins s σ H x y v u Q I rx ry h
 obtain ⟨a, b, ks, ms, rfl, rfl, ha, hb, q⟩ := h
 cases (show v = Value.ref a from rx)
 cases (show u = Value.ref b from ry)
 obtain ⟨its, r1, t1, _⟩ := I.tuple ha
 obtain ⟨its2, r2, t2, _⟩ := I.tuple hb
 have l1 : its.toArray.size = ks.length := by rw [List.size_toArray, <- r1.length, List.length_map]
 have l2 : its2.toArray.size = ms.length := by rw [List.size_toArray, <- r2.length, List.length_map]
 refine SeqAt.eq_tupleAt (e := fun i => decide (ks.getD i 0 = ms.getD i 0)) t1 t2 (by lia) (fun j h1 h2 => ?_) ?_
 ·have i1 : j < ks.length := by lia
  have i2 : j < ms.length := by lia
  obtain ⟨v1, e1, p1⟩ := r1.get (i := j) (x := .int ks[j]) (by simp [i1])
  obtain ⟨v2, e2, p2⟩ := r2.get (i := j) (x := .int ms[j]) (by simp [i2])
  have w1 : its.toArray[j] = v1 := by have := List.getElem?_eq_some_iff.mp e1; simpa using this.2
  have w2 : its2.toArray[j] = v2 := by have := List.getElem?_eq_some_iff.mp e2; simpa using this.2
  rw [w1, w2]
  have := zkd (A := X.A.in1) (s := s) p1 p2 rfl rfl
  rw [zup] at this
  simpa [i1, i2] using this
 ·rw [zrc 0 l1 l2]
  exact ⟨.bl _, H, I, rfl, q⟩
end
end L2
namespace L2
open PySem PySem.W PyProof.Rows
section
variable {X : Cx}
end
end L2
namespace L2
open PySem PySem.Spec PyProof.Rows PySem.W
end L2
namespace L2
open PySem PySem.Spec PyProof.Rows PySem.W
section
variable {P : Program} {w : World} {K : PySem.W.Frag} {mg : Str -> Option Value} {base : Heap} {N : List Str} {qual : Str} {scope : Scope} {f : Addr} {cd : Value} {A : Around} {outer : List Env} {s0 : Shared} {H0 : Hp} {E : XK}
end
section
variable {X : Cx}
end
section
variable {M : Model} {A : Around} {E : Value -> Shared -> Prop} {s : Shared}
end
section
variable {X : Cx}
end
end L2
namespace L2
open PySem PySem.Spec PyProof.Rows PySem.W
section
variable {K : Frag} {prog : Program} {w : World} {A : Around} {E : Value -> Shared -> Prop} {h : Heap} {g : Array GenState} {d : Drawn} {t : Nat} {os : OsState} {a C dx : Addr} {vs : Array Value} {sl : Array (Option Value)} {f : Str} {v : Value} {mA : Str -> Option Value} {cc : Value} {cdd : Option Addr} {cd : ClassData} {csl : Array (Option Value)}
end
section
variable {X : Cx} {e : Expr} {f : Str} {pos : Pos} {ta : TE}
end
end L2
namespace L2
open PySem PySem.Spec PyProof.Rows PySem.W
section
variable {K : Frag} {prog : Program} {w : World} {A : Around} {E : Value -> Shared -> Prop} {h : Heap} {g : Array GenState} {d : Drawn} {t : Nat} {os : OsState} {C fI : Addr} {oI : Obj} {bm : List Value}
end
end L2
namespace L2
open PySem PySem.Spec PyProof.Rows PySem.W PySem.Builtin PySem.Builtin.ObjectAttr
section
variable {K : Frag} {prog : Program} {w : World} {A : Around} {E : Value -> Shared -> Prop} {s : Shared} {a C : Addr} {vs : Array Value} {f : Str} {v : Value}
end
end L2
namespace L2
open PySem PySem.Spec PyProof.Rows PySem.W
section
variable {K : Frag} {prog : Program} {w : World} {A : Around} {E : Value -> Shared -> Prop} {h : Heap} {g : Array GenState} {d : Drawn} {t : Nat} {os : OsState} {e C : Addr} {bm : List Value}
end
section
variable {X : Cx}
end
end L2
namespace L2
open PySem PySem.Spec PyProof.Rows PySem.W
section
variable {P : Program} {w : World} {K : PySem.W.Frag} {mg : Str -> Option Value} {base : Heap} {N : List Str} {qual : Str} {scope : Scope} {f : Addr} {cd : Value} {A : Around} {outer : List Env} {s0 : Shared} {H0 : Hp} {E : XK}
end
section
variable {M : Model} {A : Around} {E : Value -> Shared -> Prop} {env : Env} {K : Frag} {C : Addr} {bm : List Value}
end
end L2
namespace L2
open PySem PySem.Spec PyProof.Rows PySem.W
section
variable {P : Program} {w : World} {K : PySem.W.Frag} {mg : Str -> Option Value} {base : Heap} {N : List Str} {qual : Str} {scope : Scope} {f : Addr} {cd : Value} {A : Around} {outer : List Env} {s0 : Shared} {H0 : Hp} {E : XK}
end
end L2
namespace L2
open PySem PySem.Spec PyProof.Rows
section
variable {prog : Program} {w : World} {A : Around} {R : Result -> Shared -> Prop} {s : Shared}
end
section
variable {X : Cx} {scope : Scope} {N' : List Str} {fr : List (Option Nat)} {pins : List (Addr × Obj)} {σ : St} {H : Hp} {s : Shared} {fp : List Addr} {it : Addr} {tn : Nat -> Heap -> Prop} {J : It}
 {elt tg iter : Expr} {ifs : List Expr} {g : TG} {tt : TT} {te : TE} {pos : Pos} {fin : List V -> Hp -> Prop} {W : Nat -> Nat -> List V -> St -> Hp -> Prop} {RR : Value -> Addr -> Result -> Shared -> Prop} {E : Value -> Shared -> Prop}
end
section
variable {M : Model} {A : Around} {E : Value -> Shared -> Prop} {s : Shared}
end
section
variable {P : Program} {w : World} {K : PySem.W.Frag} {mg : Str -> Option Value} {base : Heap} {N : List Str} {qual : Str} {scope0 : Scope} {f : Addr} {cd : Value} {A : Around} {outer : List Env} {s0 : Shared} {H0 : Hp} {E : XK}
variable {scope : Scope} {N' : List Str} {fr : List (Option Nat)} {elt tg iter : Expr} {ifs : List Expr} {g : TG} {tt : TT} {te : TE} {pos : Pos}
end
end L2
namespace L2
open PySem PySem.Spec PyProof.Rows PySem.Builtin PySem.Builtin.Str
section
variable {X : Cx}
end
end L2
namespace L2
open PySem PySem.Spec PyProof.Rows
section
variable {X : Cx}
end
section
variable {X : Cx} {pins : List (Addr × Obj)} {σ : St} {H : Hp} {s : Shared} {d : Addr} {kvs : qG}
end
section
variable {X : Cx} {o : Expr} {to : TE} {apos cpos : Pos}
end
end L2
namespace L2
open PySem PySem.Spec PyProof.Rows PySem.W
section
variable {P : Program} {w : World} {K : PySem.W.Frag} {mg : Str -> Option Value} {base : Heap} {k : Nat} {x : Str} {ps : List Str} {sp : Sp}
end
section
variable {X : Cx}
end
end L2
namespace L2
open PySem PySem.Spec PyProof.Rows
section
variable {X : Cx}
end
section
variable {P : Program} {w : World} {K : PySem.W.Frag} {mg : Str -> Option Value} {base : Heap} {k : Nat} {x : Str} {ps : List Str} {sp : Sp}
end
end L2
namespace L2
open PySem PySem.Spec PyProof.Rows PySem.W
section
variable {X : Cx}
end
end L2
namespace L2
open PySem PySem.Spec PyProof.Rows
section
variable {prog : Program} {w : World} {A : Around} {E : Value -> Shared -> Prop} {s : Shared} {a : Addr} {led : Bool} {ns : List Int}
end
section
variable {prog : Program} {w : World} {A : Around} {R : Result -> Shared -> Prop} {I : Addr} {fp wr : List Addr} {G : Array GenState -> Array GenState -> Prop} {n : Nat} {P : Nat -> Value -> Prop} {St : Nat -> Shared -> Prop}
end
section
variable {prog : Program} {w : World} {A : Around} {E : Value -> Shared -> Prop} {s : Shared}
end
section
variable {prog : Program} {w : World} {A : Around} {E : Value -> Shared -> Prop} {s : Shared} {a : Addr}
end
section
variable {X : Cx}
end
end L2
namespace L2
open PySem PySem.Spec PyProof.Rows PySem.W
section
variable {P : Program} {w : World} {K : PySem.W.Frag} {mg : Str -> Option Value} {base : Heap} {k : Nat} {x : Str} {ps : List Str} {sp : Sp}
end
end L2
namespace L2
open PySem PySem.Spec PyProof.Rows
abbrev zFh := List (Key × V)
section
variable {X : Cx} {pins : List (Addr × Obj)} {σ : St} {H : Hp} {s : Shared} {d : Addr} {kvs : zFh}
end
section
variable {X : Cx} {o : Expr} {to : TE} {apos cpos : Pos}
end
end L2
namespace L2
open PySem PySem.W PyProof.Rows
theorem zAg : ∀ {a b : List Int}, HT.lexLt b a = false -> HT.lexLt a b = false -> a = b
 | [], [], _, _ => rfl
 | [], _ :: _, _, h => by cases h
 | _ :: _, [], h, _ => by cases h
 | x :: xs, y :: ys, h1, h2 => by
  rw [HT.lexLt_cons] at h1 h2
  by_cases e : x = y
  ·subst e
   rw [if_pos rfl] at h1 h2
   rw [zAg h1 h2]
  ·rw [if_neg (fun z => e z.symm)] at h1
   rw [if_neg e] at h2
   have a1 := of_decide_eq_false h1
   have a2 := of_decide_eq_false h2
   exact absurd (Int.le_antisymm (Int.not_lt.mp a1) (Int.not_lt.mp a2)) e
def nLt : List (List Int) -> List (List Int) -> Bool
 | [], [] => false
 | [], _ :: _ => true
 | _ :: _, [] => false
 | k :: ks, m :: ms => if k = m then nLt ks ms else HT.lexLt k m
theorem kH (k m : List Int) (ks ms : List (List Int)) : nLt (k :: ks) (m :: ms) = if k = m then nLt ks ms else HT.lexLt k m := rfl
theorem zrz : ∀ (a b : List (List Int)), nLt a b = true -> nLt b a = false
 | [], [], _ => rfl
 | [], _ :: _, _ => rfl
 | _ :: _, [], h => by cases h
 | k :: ks, m :: ms, h => by
  rw [kH] at h ⊢
  by_cases e : k = m
  ·rw [if_pos e] at h
   rw [if_pos e.symm]
   exact zrz ks ms h
  ·rw [if_neg e] at h
   rw [if_neg (fun z => e z.symm)]
   exact zjx k m h
theorem zry : ∀ (a b c : List (List Int)), nLt b a = false -> nLt c b = false -> nLt c a = false
 | _, [], [], h1, _ => h1
 | [], _ :: _, [], _, h2 => by cases h2
 | [], _, _ :: _, _, _ => rfl
 | _ :: _, [], _ :: _, h1, _ => by cases h1
 | _ :: _, _ :: _, [], _, h2 => by cases h2
 | p :: ps, m :: ms, k :: ks, h1, h2 => by
  rw [kH] at h1 h2 ⊢
  by_cases e1 : m = p
  ·rw [if_pos e1] at h1
   subst e1
   by_cases e2 : k = m
   ·rw [if_pos e2] at h2 ⊢
    exact zry ps ms ks h1 h2
   ·rw [if_neg e2] at h2 ⊢
    exact h2
  ·rw [if_neg e1] at h1
   by_cases e2 : k = m
   ·rw [if_pos e2] at h2
    subst e2
    rw [if_neg e1]
    exact h1
   ·rw [if_neg e2] at h2
    by_cases e3 : k = p
    ·subst e3
     exact absurd (zAg h1 h2).symm e1
    ·rw [if_neg e3]
     exact zjw p m k h1 h2
theorem zho : ∀ {a b : List (List Int)}, nLt b a = false -> nLt a b = false -> a = b
 | [], [], _, _ => rfl
 | [], _ :: _, _, h => by cases h
 | _ :: _, [], h, _ => by cases h
 | k :: ks, m :: ms, h1, h2 => by
  rw [kH] at h1 h2
  by_cases e : k = m
  ·rw [if_pos e.symm] at h1
   rw [if_pos e] at h2
   rw [e, zho h1 h2]
  ·rw [if_neg (fun z => e z.symm)] at h1
   rw [if_neg e] at h2
   exact absurd (zAg h1 h2) e
theorem zub (L : List (List (List Int))) : Ord fun i j => nLt (L.getD i []) (L.getD j []) := ⟨fun _ _ h => zrz _ _ h, fun _ _ _ h1 h2 => zry _ _ _ h1 h2⟩
def NLe (a b : List (List Int)) : Prop := nLt b a = false
theorem zyw {l m : List (List (List Int))} (p : l.Perm m) (h1 : l.Pairwise NLe) (h2 : m.Pairwise NLe) : l = m := List.Perm.eq_of_pairwise (fun _ _ _ _ z1 z2 => zho z1 z2) h1 h2 p
section
variable {prog : Program} {w : World} {A : Around} {E : Value -> Shared -> Prop} {s : Shared}
theorem jG : ∀ {us : List Value} {ks : List Int}, IntsAre us ks -> ItemsAre (intKind prog w) ks us
 | _, _, .nil => .nil
 | _, _, .cons n t h => .cons (show Value.isInt n (Value.int n t) = true from by show (n == n) = true; exact beq_self_eq_true n) (jG h)
theorem TupI.key {h : Heap} {a : Addr} {ks : List Int} (x : TupI h (.ref a) ks) : IsTupleKey (intKind prog w) h ks a := by
 obtain ⟨b, o, xs, n, e, g, hc, hd, hi⟩ := x
 cases e
 exact ⟨o, xs, n, g, hc, hd, jG hi⟩
def TupN (h : Heap) (v : Value) (kss : List (List Int)) : Prop := ∃ a o xs n, v = .ref a /\ h.get? a = some o /\ o.cls = .type "tuple" /\ o.data = .seq xs n /\ Paired (TupI h) xs.toList kss
theorem TupN.kept {h h' : Heap} {v : Value} {kss : List (List Int)} (x : TupN h v kss) (k : ∀ b u, h.get? b = some u -> h'.get? b = some u) : TupN h' v kss := let ⟨a, o, xs, n, e, g, c, d, r⟩ := x; ⟨a, o, xs, n, e, k _ _ g, c, d, Paired.mapP r fun _ _ z => z.kept k⟩
def zot (fin : Bool) : List (List Int) -> List (List Int) -> Bool
 | k :: ks, m :: ms => if k = m then zot fin ks ms else HT.lexLt k m
 | _, _ => fin
theorem zln : ∀ (a b : List (List Int)), zot (decide (a.length < b.length)) a b = nLt a b
 | [], [] => rfl
 | [], _ :: _ => by show decide (0 < _ + 1) = true; simp
 | _ :: _, [] => by show decide (_ + 1 < 0) = false; simp
 | k :: ks, m :: ms => by
  show (if k = m then zot _ ks ms else _) = _
  rw [kH]
  have : decide ((k :: ks).length < (m :: ms).length) = decide (ks.length < ms.length) := decide_eq_decide.mpr ⟨Nat.lt_of_succ_lt_succ, Nat.succ_lt_succ⟩
  rw [this, zln ks ms]
theorem zhb {fin : Bool} {Q : Bool -> Shared -> Prop} (hu : A.units < cLine) : ∀ {us : List Value} {ks : List (List Int)} {ws : List Value} {ms : List (List Int)} (i : Nat), Paired (TupI s.heap) us ks -> Paired (TupI s.heap) ws ms -> Q (zot fin ks ms) s -> KatLex prog w A false fin Q (us.zip ws) i s
 | _, _, _, _, _, .nil, _, q => kat_nil (by cases ‹List (List Int)› <;> exact q)
 | _, _, _, _, _, .cons _ _, .nil, q => kat_nil q
 | _, _, _, _, i, .cons (b := k) (l₂ := ks) h1 t1, .cons (b := m) (l₂ := ms) h2 t2, q => by
  obtain ⟨a, o, xs, n, rfl, g, hc, hd, hi⟩ := id h1
  obtain ⟨b, o2, ys, n2, rfl, g2, hc2, hd2, hi2⟩ := id h2
  refine kat_cons (wpAny_eqBool_tuple (knd := intKind prog w) hu h1.key h2.key (kat_go (fun e => kat_yes (zhb hu (i + 1) t1 t2 ?_)) fun e => kat_no ?_))
  ·have : k = m := of_decide_eq_true e
   have z : zot fin (k :: ks) (m :: ms) = zot fin ks ms := by show (if k = m then _ else _) = _; rw [if_pos this]
   rw [z] at q; exact q
  ·have : ¬ k = m := of_decide_eq_false e
   have z : zot fin (k :: ks) (m :: ms) = HT.lexLt k m := by show (if k = m then _ else _) = _; rw [if_neg this]
   rw [z] at q
   exact kat_one _ _ (HT.lt_tupInts ⟨o, g, hc, n, hd⟩ ⟨o2, g2, hc2, n2, hd2⟩ hi hi2 hu q)
theorem gN {h : Heap} : ∀ {vs : List Value} {L : List (List (List Int))}, Paired (TupN h) vs L -> (∀ kss ∈ L, kss ≠ []) -> ∃ fs, KatTups h vs fs /\ fs.length = vs.length /\ ∀ f ∈ fs, ∃ a o, f = .ref a /\ h.get? a = some o /\ o.cls = .type "tuple"
 | _, _, .nil, _ => ⟨[], .nil, rfl, fun f hf => nomatch hf⟩
 | _, _, .cons (b := kss) r t, hne => by
  obtain ⟨fs, k, l, a⟩ := gN t fun ks hk => hne ks (List.mem_cons_of_mem _ hk)
  obtain ⟨ad, o, xs, n, rfl, g, hc, hd, hi⟩ := r
  cases kss with
  | nil => exact absurd rfl (hne _ (List.mem_cons_self ..))
  | cons x kss =>
   obtain ⟨y, ey, c, oc, ys, nc, rfl, gc, hcc, hdc, hic⟩ : ∃ y, xs.toList[0]? = some y /\ TupI h y x := by
    generalize xs.toList = L at hi
    cases hi with
    | cons r1 r2 => exact ⟨_, rfl, r1⟩
   refine ⟨.ref c :: fs, .cons g hc hd (by rw [Array.getElem?_toList] at ey; exact ey) k, by simp [l], fun f hf => ?_⟩
   rcases List.mem_cons.mp hf with rfl | hf
   ·exact ⟨c, oc, rfl, gc, hcc⟩
   ·exact a f hf
def zxb (prog : Program) (w : World) (A : Around) (s : Shared) (lt : Nat -> Nat -> Bool) (vs : List Value) : Prop :=
 ∀ (h' : Heap), (∀ b u, s.heap.get? b = some u -> h'.get? b = some u) -> 2 <= vs.length -> ∃ κ : SortKind, (∀ (E : Value -> Shared -> Prop) (Q : SortKind -> Shared -> Prop), Q κ { s with heap := h' } -> wpAny (model prog w) A (keyKind' vs.toArray) Q E { s with heap := h' }) /\
  ∀ (i j : Nat) (C : Bool -> Shared -> Prop), i < vs.length -> j < vs.length -> C (lt i j) { s with heap := h' } -> wpAny (model prog w) A (keyLt' κ (vs.getD i Value.none) (vs.getD j Value.none)) C (fun _ _ => False) { s with heap := h' }
theorem zoe {vs : List Value} {L : List (List (List Int))} (hu : A.units < cLine) (h : Paired (TupN s.heap) vs L) (hne : ∀ kss ∈ L, kss ≠ []) : zxb prog w A s (fun i j => nLt (L.getD i []) (L.getD j [])) vs := by
 intro h' keep two
 have h2 : Paired (TupN h') vs L := Paired.mapP h fun _ _ x => x.kept keep
 refine ⟨tuples' false, fun E Q q => ?_, fun i j C hi hj q => ?_⟩
 ·obtain ⟨fs, k, l, a⟩ := gN h2 hne
  have e : (Value.type "tuple" != Value.type "tuple") = false := by decide
  refine kat_kind (T := .type "tuple") k (by lia) (fun f hf => ?_) (by decide) (by rw [e]; exact q)
  obtain ⟨c, o, rfl, g, hc⟩ := a f hf
  rw [<- hc]
  exact (Looks.ld g).andThen .now
 ·have gi : ∀ i, i < vs.length -> ∃ v kss, vs.getD i Value.none = v /\ L.getD i [] = kss /\ TupN h' v kss := fun i hi => by
   obtain ⟨kss, e, r⟩ := Paired.at h2 (i := i) (a := vs[i]) (by simp [hi])
   exact ⟨vs[i], kss, by simp [hi], by rw [List.getD_eq_getElem?_getD, e]; rfl, r⟩
  obtain ⟨v, ks, ev, ek, a, o, xs, n, rfl, g, _, hd, hI⟩ := gi i hi
  obtain ⟨u, ms, eu, em, b, o2, ys, n2, rfl, g2, _, hd2, hI2⟩ := gi j hj
  rw [ev, eu]
  refine kat_lt (s := { s with heap := h' }) g hd g2 hd2 (zhb (s := { s with heap := h' }) hu 0 hI hI2 ?_)
  have l1 : xs.size = ks.length := by have := Paired.length hI; simpa using this
  have l2 : ys.size = ms.length := by have := Paired.length hI2; simpa using this
  rw [l1, l2, zln]
  have q' : C (nLt (L.getD i []) (L.getD j [])) { s with heap := h' } := q
  rw [ek, em] at q'
  exact q'
theorem zgr {l : Addr} {vs : List Value} {lt : Nat -> Nat -> Bool} {Q : Value -> Shared -> Prop} (hl : s.heap.IsList l vs.toArray) (o : Ord lt) (hbig : vs.length <= 1000000) (ask : ∀ A' : Around, A'.units <= A.units + 4 -> zxb prog w A' s lt vs)
  (q : ∀ p, PB vs.length p -> Up lt p vs.length -> Q (.ref (s.heap.objs.size + 1)) { s with heap := sortedAll s.heap vs (wV vs p).toArray }) : wpAny (model prog w) A (call (.builtin "sorted") [.ref l]) Q E s := by
 refine Calls.call_function_entry kind_sorted plain_sorted entry_sorted (args_sorted1 _) ?_
 unfold Builtin.«sorted»
 refine wpAny_bind (m := checkCount "sorted" 1 1 _) (wpAny_pure (wpAny_bind (collect_list hl (wpAny_bind (wpAny_newList ?_ (by rw [sizeLine_eq]; omega))) (by rw [sizeLine_eq]; omega))))
 have z1 : ((s.heap.push (seqObj "list" #[] 0)).update s.heap.objs.size (Obj.mapSeq (· ++ vs.toArray))).objs.size = s.heap.objs.size + 1 := by rw [Heap.size_update, size_push']
 have oL : (((s.heap.push (seqObj "list" #[] 0)).update s.heap.objs.size (Obj.mapSeq (· ++ vs.toArray))).push (seqObj "list" vs.toArray 0)).get? (s.heap.objs.size + 1) = some (seqObj "list" vs.toArray 0) := by
  rw [<- z1]; exact Heap.get?_push_size _ rfl
 have keep : ∀ b u, s.heap.get? b = some u -> (((s.heap.push (seqObj "list" #[] 0)).update s.heap.objs.size (Obj.mapSeq (· ++ vs.toArray))).push (seqObj "list" vs.toArray 0)).get? b = some u := fun b u z => by
  have lb : b < s.heap.objs.size := Heap.lt_size z
  exact Heap.get?_push_of_some _ (by rw [Heap.get?_update_ne _ _ _ _ (Nat.ne_of_lt lb)]; exact Heap.get?_push_of_some _ z)
 show wpAny _ _ _ _ _ { s with heap := ((s.heap.push (seqObj "list" #[] 0)).update s.heap.objs.size (Obj.mapSeq (· ++ vs.toArray))).push (seqObj "list" vs.toArray 0) }
 rw [z1]
 have u2 : A.in1.in1.units <= A.units + 4 := by
  have a := wP (A := A)
  have b := wP (A := A.in1)
  omega
 refine wpAny_bind (wpAny_holding (wpAny_call_entry slot_list_sort ⟨_, oL, rfl⟩ entry_list_sort (zil oL o hbig (fun two h' k => ask _ u2 h' (fun b u z => k b u (fun e => ?_) (keep b u z)) two) fun p pb up => ⟨_, rfl, ?_⟩) (args_list_sort _)))
 ·exact absurd (Heap.lt_size z) (by rw [e]; exact Nat.not_lt.mpr (Nat.le_succ _))
 ·exact wpAny_pure ⟨_, rfl, q p pb up⟩
end
def NestAt (H : Hp) (v : V) (kss : List (List Int)) : Prop := ∃ a ys, v = .ref a /\ H a = some (.tup ys) /\ Paired (IntsAt H) ys kss
theorem NestAt.same {H H' : Hp} {v : V} {kss : List (List Int)} (h : NestAt H v kss) (e : Same H H') : NestAt H' v kss := let ⟨a, ys, h1, h2, h3⟩ := h; ⟨a, ys, h1, e _ _ h2, Paired.mapP h3 fun _ _ z => z.same e⟩
section
variable {X : Cx}
def zps (K : PySem.W.Frag) : List V -> Hp -> VK -> Prop := fun xs H Q => ∃ (p : Addr) (rs : List V) (L : List (List (List Int))), xs = [.ref p] /\ SqL K H p rs /\ rs.length <= 1000000 /\ Paired (NestAt H) rs L /\ (∀ kss ∈ L, kss ≠ []) /\
 ∀ (l : Addr) (rs' : List V) (L' : List (List (List Int))), Paired (NestAt H) rs' L' -> L'.Perm L -> L'.Pairwise NLe -> H l = none -> Q (.ref l) (upd H l (.lst rs'))
theorem wM (hu : X.A.units + 66 < cLine) : xL X (.builtin "sorted") (zps X.K) := by
 intro pins s σ H xs us Q I r h
 obtain ⟨p, rs, kss, rfl, hp, hn, hk, hne, q⟩ := h
 obtain ⟨u, rfl, ru⟩ := Vals.one r
 cases (show u = Value.ref p from ru)
 obtain ⟨its, r1, t1, _⟩ := I.list hp
 have hl : its.length = rs.length := r1.length.symm
 have kl : rs.length = kss.length := Paired.length hk
 have tup : ∀ i, i < rs.length -> ∃ a ks ys, rs.getD i .non = .ref a /\ kss.getD i [] = ks /\ its.getD i Value.none = .ref a /\ H a = some (.tup ys) /\ Paired (IntsAt H) ys ks := fun i hi => by
  obtain ⟨ks, e, a, ys, ea, ha, hy⟩ := Paired.at hk (i := i) (a := rs[i]) (by simp [hi])
  obtain ⟨v, ev, rv⟩ := r1.get (i := i) (x := rs[i]) (by simp [hi])
  rw [ea] at rv
  refine ⟨a, ks, ys, by simp [hi, ea], by rw [List.getD_eq_getElem?_getD, e]; rfl, ?_, ha, hy⟩
  rw [List.getD_eq_getElem?_getD, ev]
  exact rv
 have inner : ∀ {ys : List V} {ks : List (List Int)} {us : List Value}, Paired (IntsAt H) ys ks -> Vals ys us -> Paired (TupI s.heap) us ks := by
  intro ys ks us hy
  induction hy generalizing us with
  | nil => intro r; cases r; exact .nil
  | cons h t ih =>
   intro r
   cases r with
   | cons rv rt =>
    obtain ⟨c, rfl, hc⟩ := h
    cases (show _ = Value.ref c from rv)
    obtain ⟨_, vs, ru, o, g, hcl, n, hd⟩ := I.hok c _ hc
    exact .cons ⟨c, o, vs.toArray, n, rfl, g, hcl, hd, by simpa using vK ru⟩ (ih rt)
 have tups : Paired (TupN s.heap) its kss := by
  have e1 := x5 its Value.none
  have e2 := x5 kss []
  rw [hl] at e1
  rw [<- kl] at e2
  rw [<- e1, <- e2]
  refine xT fun i hi => ?_
  obtain ⟨a, ks, ys, _, e4, e5, e6, e7⟩ := tup i (List.mem_range.mp hi)
  obtain ⟨_, us, ru, o, g, hc, n, hd⟩ := I.hok a _ e6
  rw [e4, e5]
  exact ⟨a, o, us.toArray, n, rfl, g, hc, hd, by simpa using inner e7 ru⟩
 refine zgr t1.isList (zub kss) (by omega) (fun A' ha => zoe (Nat.lt_of_le_of_lt ha (by omega)) tups hne) fun pm pb up => ?_
 obtain ⟨e, he⟩ := sortedAll_at s.heap its (wV its pm).toArray
 have fr : s.heap.objs.size <= s.heap.objs.size + 1 := Nat.le_succ _
 have pl : ∀ i ∈ pm.toList, i < rs.length := fun i hi => by
  have := pb.list.mem_iff.mp hi
  rw [List.mem_range, hl] at this
  exact this
 have ls : pm.toList.length = rs.length := by rw [Array.length_toList, pb.size, hl]
 refine ⟨.ref (s.heap.objs.size + 1), upd H (s.heap.objs.size + 1) (.lst (pm.toList.map fun i => rs.getD i .non)), I.laid (t' := s.toks) (fun b o z => sortedAll_old z) fr ?_, rfl,
  q _ _ (pm.toList.map fun i => kss.getD i []) (xT fun i hi => ?_) ?_ ?_ (I.hok.fresh fr)⟩
 ·refine ⟨?_, wV its pm, e, xT fun i hi => ?_, he⟩
  ·rw [List.length_map, ls, sizeLine_eq]; omega
  ·obtain ⟨a, ks, ys, e3, e4, e5, e6, e7⟩ := tup i (pl i hi)
   rw [e3, e5]
   exact rfl
 ·obtain ⟨a, ks, ys, e3, e4, e5, e6, e7⟩ := tup i (pl i hi)
  rw [e3, e4]
  exact ⟨a, ys, rfl, e6, e7⟩
 ·have := pb.list.map fun i => kss.getD i []
  rw [hl, kl, x5] at this
  exact this
 ·rw [List.pairwise_iff_getElem]
  intro i j hi hj hij
  rw [List.length_map] at hi hj
  have := up i j (by omega) (by rw [hl]; omega)
  simp only [List.getElem_map, Array.getElem_toList]
  have gi : pm.getD i 0 = pm[i] := by simp [Array.getD, show i < pm.size by rw [<- Array.length_toList]; exact hi]
  have gj : pm.getD j 0 = pm[j] := by simp [Array.getD, show j < pm.size by rw [<- Array.length_toList]; exact hj]
  rw [gi, gj] at this
  exact this
end
end L2
namespace My
open PySem L2
def top (i : Nat) : Stmt := PySem.Challenge.pw_manycounts_k37_whole_leaves.main.body.getD i (.Pass ⟨0, 0, 0, 0⟩)
abbrev vB : Stmt := top 8
abbrev qQ : Stmt := top 9
abbrev zfy : Stmt := top 10
abbrev zfz : Stmt := top 14
abbrev zfx : Stmt := top 15
abbrev qR : Stmt := top 16
abbrev zaf : Stmt := top 17
abbrev zft : Stmt := top 18
abbrev zaa : Stmt := top 19
abbrev zaj : Stmt := top 21
abbrev zfv : Stmt := top 22
abbrev zad : Stmt := top 23
abbrev zgb : Stmt := top 24
abbrev zga : Stmt := top 26
abbrev zak : Stmt := top 27
abbrev zag : Stmt := top 28
abbrev zgc : Stmt := top 31
abbrev zab : Stmt := top 32
abbrev zfw : Stmt := top 33
abbrev zfr : Stmt := top 42
abbrev zac : Stmt := top 43
abbrev zbd : Stmt := top 44
abbrev zrr : Stmt := top 45
abbrev sAt : Stmt := top 47
abbrev zrq : Stmt := top 48
abbrev zfu : Stmt := top 49
abbrev zgd : Stmt := top 50
abbrev zfs : Stmt := top 51
abbrev zae : Stmt := top 52
abbrev zal : Stmt := top 53
abbrev zah : Stmt := top 54
abbrev qS : Stmt := top 55
abbrev qT : Stmt := top 56
abbrev zai : Stmt := top 57
abbrev ziq : Stmt := top 58
abbrev zAi : Stmt := top 38
abbrev zop : Stmt := top 39
abbrev zbs : Stmt := top 40
abbrev zoo : Stmt := top 41
abbrev qX : Stmt := xF zAi 0
abbrev q9 : Stmt := xF zop 0
abbrev qZ : Stmt := xF zop 1
abbrev jC : Stmt := xF zbs 0
abbrev jA : Stmt := xF zbs 1
abbrev qW : Stmt := xF zoo 0
abbrev qU : Stmt := xF zoo 1
abbrev zkx : Stmt := xF zAi 1
abbrev qY : Stmt := xF zAi 2
abbrev zky : Stmt := xF zop 2
abbrev q8 : Stmt := xF zop 3
abbrev zkz : Stmt := xF zbs 2
abbrev jB : Stmt := xF zbs 3
abbrev zkw : Stmt := xF zoo 2
abbrev qV : Stmt := xF zoo 3
def TieAt (H : Hp) (v : V) (p : Int × Int) : Prop := ∃ a, v = .ref a /\ H a = some (.tup [.int p.1, .int p.2])
theorem TieAt.same {H H' : Hp} {v : V} {p : Int × Int} (h : TieAt H v p) (e : Same H H') : TieAt H' v p := let ⟨a, h1, h2⟩ := h; ⟨a, h1, e _ _ h2⟩
theorem yE {H H' : Hp} {xs : List V} {ps : List (Int × Int)} (h : Paired (TieAt H) xs ps) (e : Same H H') : Paired (TieAt H') xs ps := L2.Paired.mapP h fun _ _ q => q.same e
def xJ (p : Int × Int) : Int × Int := if p.1 <= p.2 then (p.1, p.2) else (p.2, p.1)
structure WebAt (H : Hp) (w : V) (n : Int) (ps : List (Int × Int)) : Prop where
 ex : ∃ c d xs, w = .ref c /\ H c = some (.tup [.int n, .ref d]) /\ H d = some (.tup xs) /\ Paired (TieAt H) xs ps
theorem WebAt.same {H H' : Hp} {w : V} {n : Int} {ps : List (Int × Int)} (h : WebAt H w n ps) (e : Same H H') : WebAt H' w n ps := by
 obtain ⟨c, d, xs, h1, h2, h3, h4⟩ := h.ex
 exact ⟨c, d, xs, h1, e _ _ h2, e _ _ h3, yE h4 e⟩
structure Txt (K : W.Frag) (mg : Str -> Option Value) : Prop where
 isi : mg "isinstance" = none
 int : mg "int" = none
 bool : mg "bool" = none
 len : mg "len" = none
 tuple : mg "tuple" = none
 all : mg "all" = none
 list : mg "list" = none
 min : mg "min" = none
 max : mg "max" = none
 range : mg "range" = none
 set : mg "set" = none
 sorted : mg "sorted" = none
theorem xS : bootBuiltins "isinstance" = some (.builtin "isinstance") := by first | rfl | decide +kernel
theorem zeg : bootBuiltins "int" = some (.type "int") := by first | rfl | decide +kernel
theorem jT : bootBuiltins "bool" = some (.type "bool") := by first | rfl | decide +kernel
theorem yL : bootBuiltins "tuple" = some (.type "tuple") := by first | rfl | decide +kernel
theorem xK : bootBuiltins "list" = some (.type "list") := by first | rfl | decide +kernel
theorem zeh : bootBuiltins "all" = some (.builtin "all") := by first | rfl | decide +kernel
theorem zee : bootBuiltins "min" = some (.builtin "min") := by first | rfl | decide +kernel
theorem zef : bootBuiltins "max" = some (.builtin "max") := by first | rfl | decide +kernel
theorem y6 : bootBuiltins "sorted" = some (.builtin "sorted") := by first | rfl | decide +kernel
def InN (n : Int) (p : Int × Int) : Prop := 0 <= p.1 /\ p.1 < n /\ 0 <= p.2 /\ p.2 < n
theorem vD (a n : Int) (h : 0 < n) : 0 <= a % n /\ a % n < n := ⟨Int.emod_nonneg _ (by lia), Int.emod_lt_of_pos _ h⟩
def ups (n : Int) : List Int := (List.range n.toNat).map fun (i : Nat) => (i : Int)
theorem kO (n : Nat) : upN n = (ups n).map V.int := by
 unfold upN ups
 rw [List.map_map, Int.toNat_natCast]
 rfl
def at0 (l : List Int) (i : Int) : Int := l.getD i.toNat 0
def y7 (hs : List Int) (p : Int × Int) : List Int :=
 hs.map fun h => if h = (if at0 hs p.2 > at0 hs p.1 then at0 hs p.2 else at0 hs p.1) then (if at0 hs p.2 < at0 hs p.1 then at0 hs p.2 else at0 hs p.1) else h
def zN (ps : List (Int × Int)) (k : Int) : Int × Int := ps.getD k.toNat (0, 0)
def hdF (ps : List (Int × Int)) (hs : List Int) (ks : List Int) : List Int := ks.foldl (fun hs k => y7 hs (zN ps k)) hs
def w4 (st : List Int × Int) (p : Int × Int) : List Int × Int :=
 if at0 st.1 p.1 = at0 st.1 p.2 then st else (st.1.map fun m => if m = at0 st.1 p.2 then at0 st.1 p.1 else m, st.2 + 1)
def rkF (ps : List (Int × Int)) (st : List Int × Int) (ks : List Int) : List Int × Int := ks.foldl (fun st k => w4 st (zN ps k)) st
def rk (n : Int) (ps : List (Int × Int)) (ks : List Int) : Int := (rkF ps (ups n, 0) ks).2
theorem zea (u v : Int) (huv : u ≠ v) : ∀ l : List Int, dcr (l.map fun x => if x = v then u else x) + (if u ∈ l /\ v ∈ l then 1 else 0) = dcr l
 | [] => by simp [dcr]
 | x :: xs => by
  have ih := zea u v huv xs
  have mem : ∀ z, z ≠ v -> (z ∈ xs.map (fun x => if x = v then u else x) ↔ z ∈ xs \/ (z = u /\ v ∈ xs)) := by
   intro z hz
   rw [List.mem_map]
   constructor
   ·rintro ⟨y, hy, e⟩
    by_cases hyv : y = v
    ·rw [if_pos hyv] at e
     exact .inr ⟨e.symm, hyv ▸ hy⟩
    ·rw [if_neg hyv] at e
     exact .inl (e ▸ hy)
   ·rintro (h | ⟨rfl, h⟩)
    ·exact ⟨z, h, if_neg hz⟩
    ·exact ⟨v, h, if_pos rfl⟩
  rw [List.map_cons]
  show dcr (xs.map fun x => if x = v then u else x) + (if (if x = v then u else x) ∈ xs.map (fun x => if x = v then u else x) then 0 else 1) + _ = dcr xs + if x ∈ xs then 0 else 1
  generalize hd : dcr (xs.map fun x => if x = v then u else x) = d at ih
  generalize hd2 : dcr xs = d2 at ih
  by_cases hxv : x = v
  ·subst hxv
   rw [if_pos rfl]
   have m := mem u huv
   by_cases h1 : u ∈ xs <;> by_cases h2 : x ∈ xs <;> simp [m, h1, h2, huv] at ih ⊢ <;> lia
  ·rw [if_neg hxv]
   have m := mem x hxv
   by_cases hxu : x = u
   ·subst hxu
    by_cases h1 : x ∈ xs <;> by_cases h2 : v ∈ xs <;> simp [m, h1, h2, Ne.symm huv] at ih ⊢ <;> lia
   ·have e1 : ¬ (u = x) := fun z => hxu z.symm
    have e2 : ¬ (v = x) := fun z => hxv z.symm
    by_cases h1 : u ∈ xs <;> by_cases h2 : v ∈ xs <;> by_cases h3 : x ∈ xs <;> simp [m, h1, h2, h3, e1, e2, hxu] at ih ⊢ <;> lia
theorem jW {u v : Int} (huv : u ≠ v) {l : List Int} (h1 : u ∈ l) (h2 : v ∈ l) : xM (l.map fun x => if x = v then u else x) + 1 = xM l := by
 unfold xM
 rw [<- List.map_reverse]
 have := zea u v huv l.reverse
 rw [if_pos ⟨List.mem_reverse.mpr h1, List.mem_reverse.mpr h2⟩] at this
 exact this
def Rel (n : Nat) (hs ms : List Int) : Prop := ∀ i j, i < n -> j < n -> (hs.getD i 0 = hs.getD j 0 ↔ ms.getD i 0 = ms.getD j 0)
theorem qE {l : List Int} {f : Int -> Int} {i : Nat} (h : i < l.length) : (l.map f).getD i 0 = f (l.getD i 0) := by simp [List.getD, h]
theorem zch {l : List Int} {i : Nat} (h : i < l.length) : l.getD i 0 ∈ l := by simp [List.getD, h]
theorem vE {hs : List Int} {p : Int × Int} (h : at0 hs p.1 = at0 hs p.2) : y7 hs p = hs := by
 unfold y7
 rw [h]
 have e : (fun x : Int => if x = (if at0 hs p.2 > at0 hs p.2 then at0 hs p.2 else at0 hs p.2) then (if at0 hs p.2 < at0 hs p.2 then at0 hs p.2 else at0 hs p.2) else x) = id := by
  funext x
  show _ = x
  split <;> simp_all
 rw [e, List.map_id]
theorem zhe {hs : List Int} {p : Int × Int} (h : at0 hs p.1 ≠ at0 hs p.2) : ∃ u v, u ≠ v /\ y7 hs p = hs.map (fun x => if x = v then u else x) /\ ((u = at0 hs p.1 /\ v = at0 hs p.2) \/ (u = at0 hs p.2 /\ v = at0 hs p.1)) := by
 unfold y7
 by_cases hlt : at0 hs p.2 < at0 hs p.1
 ·refine ⟨at0 hs p.2, at0 hs p.1, fun z => h z.symm, ?_, .inr ⟨rfl, rfl⟩⟩
  rw [if_neg (by lia), if_pos hlt]
 ·have : at0 hs p.2 > at0 hs p.1 := by lia
  refine ⟨at0 hs p.1, at0 hs p.2, h, ?_, .inl ⟨rfl, rfl⟩⟩
  rw [if_pos this, if_neg hlt]
theorem vH (p : Int × Int) : (xJ p).1 = p.1 /\ (xJ p).2 = p.2 \/ (xJ p).1 = p.2 /\ (xJ p).2 = p.1 := by
 unfold xJ
 split
 ·exact .inl ⟨rfl, rfl⟩
 ·exact .inr ⟨rfl, rfl⟩
theorem zhr {u v x y : Int} (huv : u ≠ v) : ((if x = v then u else x) = (if y = v then u else y)) ↔ (x = y \/ ((x = u \/ x = v) /\ (y = u \/ y = v))) := by
 split <;> split <;> lia
theorem zpf {n : Nat} {hs ms : List Int} {c : Int} {p : Int × Int} (lh : hs.length = n) (lm : ms.length = n) (R : Rel n hs ms) (hc : c + (xM hs : Int) = n) (hp : InN n p) :
  (y7 hs (xJ p)).length = n /\ (w4 (ms, c) p).1.length = n /\ Rel n (y7 hs (xJ p)) (w4 (ms, c) p).1 /\ (w4 (ms, c) p).2 + (xM (y7 hs (xJ p)) : Int) = n := by
 obtain ⟨p1, p2, p3, p4⟩ := hp
 have a1 : p.1.toNat < n := by lia
 have a2 : p.2.toNat < n := by lia
 have r12 := R p.1.toNat p.2.toNat a1 a2
 have swap : at0 hs (xJ p).1 = at0 hs (xJ p).2 ↔ at0 hs p.1 = at0 hs p.2 := by
  rcases vH p with ⟨e1, e2⟩ | ⟨e1, e2⟩ <;> rw [e1, e2]
  exact eq_comm
 by_cases he : at0 hs p.1 = at0 hs p.2
 ·have em : at0 ms p.1 = at0 ms p.2 := r12.mp he
  have e1 : y7 hs (xJ p) = hs := vE (swap.mpr he)
  have e2 : w4 (ms, c) p = (ms, c) := by unfold w4; exact if_pos em
  rw [e1, e2]
  exact ⟨lh, lm, R, hc⟩
 ·have em : ¬ at0 ms p.1 = at0 ms p.2 := fun z => he (r12.mpr z)
  have e2 : w4 (ms, c) p = (ms.map (fun m => if m = at0 ms p.2 then at0 ms p.1 else m), c + 1) := by unfold w4; exact if_neg em
  obtain ⟨u, v, huv, e1, hu⟩ := zhe (hs := hs) (p := xJ p) (fun z => he (swap.mp z))
  have hu' : (u = at0 hs p.1 /\ v = at0 hs p.2) \/ (u = at0 hs p.2 /\ v = at0 hs p.1) := by
   rcases vH p with ⟨f1, f2⟩ | ⟨f1, f2⟩ <;> rw [f1, f2] at hu
   ·exact hu
   ·exact hu.symm
  have m1 : at0 hs p.1 ∈ hs := zch (by lia)
  have m2 : at0 hs p.2 ∈ hs := zch (by lia)
  have mu : u ∈ hs := by rcases hu' with ⟨z, _⟩ | ⟨z, _⟩ <;> rw [z] <;> assumption
  have mv : v ∈ hs := by rcases hu' with ⟨_, z⟩ | ⟨_, z⟩ <;> rw [z] <;> assumption
  rw [e1, e2]
  refine ⟨by rw [List.length_map]; exact lh, by rw [List.length_map]; exact lm, fun i j hi hj => ?_, ?_⟩
  ·rw [qE (by lia), qE (by lia), qE (by lia), qE (by lia), zhr huv, zhr em]
   have ri := R i p.1.toNat hi a1
   have ri2 := R i p.2.toNat hi a2
   have rj := R j p.1.toNat hj a1
   have rj2 := R j p.2.toNat hj a2
   have rij := R i j hi hj
   have ti : (hs.getD i 0 = u \/ hs.getD i 0 = v) ↔ (ms.getD i 0 = at0 ms p.1 \/ ms.getD i 0 = at0 ms p.2) := by
    rcases hu' with ⟨z1, z2⟩ | ⟨z1, z2⟩
    ·rw [z1, z2]; exact or_congr ri ri2
    ·rw [z1, z2]; exact (or_congr ri2 ri).trans or_comm
   have tj : (hs.getD j 0 = u \/ hs.getD j 0 = v) ↔ (ms.getD j 0 = at0 ms p.1 \/ ms.getD j 0 = at0 ms p.2) := by
    rcases hu' with ⟨z1, z2⟩ | ⟨z1, z2⟩
    ·rw [z1, z2]; exact or_congr rj rj2
    ·rw [z1, z2]; exact (or_congr rj2 rj).trans or_comm
   exact or_congr rij (and_congr ti tj)
  ·have := jW huv mu mv
   show c + 1 + (xM (hs.map fun x => if x = v then u else x) : Int) = n
   lia
theorem wJ {n : Int} {ps : List (Int × Int)} {k : Int} (hb : ∀ p ∈ ps, InN n p) (k0 : 0 <= k) (kl : k < ps.length) : InN n (zN ps k) := by
 have : k.toNat < ps.length := by lia
 unfold zN
 refine hb _ ?_
 simp [List.getD, this]
theorem zdk {ps : List (Int × Int)} {k : Int} (k0 : 0 <= k) (kl : k < ps.length) : zN (ps.map xJ) k = xJ (zN ps k) := by
 have : k.toNat < ps.length := by lia
 unfold zN
 simp [List.getD, this]
theorem zla {n : Nat} {ps : List (Int × Int)} (hb : ∀ p ∈ ps, InN n p) : ∀ (ks : List Int), (∀ k ∈ ks, 0 <= k /\ k < ps.length) -> ∀ (hs ms : List Int) (c : Int), hs.length = n -> ms.length = n -> Rel n hs ms -> c + (xM hs : Int) = n ->
  (rkF ps (ms, c) ks).2 + (xM (hdF (ps.map xJ) hs ks) : Int) = n
 | [], _, hs, ms, c, _, _, _, hc => hc
 | k :: ks, hk, hs, ms, c, lh, lm, R, hc => by
  obtain ⟨k0, kl⟩ := hk k List.mem_cons_self
  obtain ⟨s1, s2, s3, s4⟩ := zpf lh lm R hc (wJ hb k0 kl)
  have := zla hb ks (fun j hj => hk j (List.mem_cons_of_mem _ hj)) _ _ _ s1 s2 s3 s4
  rw [<- zdk k0 kl] at this
  exact this
theorem yW (n : Int) : (ups n).length = n.toNat := by unfold ups; simp
theorem zEr {n : Int} (h1 : 1 <= n) (h9 : n <= 9) : n = 1 \/ n = 2 \/ n = 3 \/ n = 4 \/ n = 5 \/ n = 6 \/ n = 7 \/ n = 8 \/ n = 9 := by lia
theorem zrd {n : Int} (h1 : 1 <= n) (h9 : n <= 9) : (xM (ups n) : Int) = n := by
 rcases zEr h1 h9 with rfl | rfl | rfl | rfl | rfl | rfl | rfl | rfl | rfl <;> decide +kernel
theorem ztk {n : Int} {ps : List (Int × Int)} {ks : List Int} (h1 : 1 <= n) (h9 : n <= 9) (hb : ∀ p ∈ ps, InN n p) (hk : ∀ k ∈ ks, 0 <= k /\ k < ps.length) : n - (xM (hdF (ps.map xJ) (ups n) ks) : Int) = rk n ps ks := by
 have e : ((n.toNat : Nat) : Int) = n := by lia
 have := zla (n := n.toNat) (ps := ps) (by rw [e]; exact hb) ks hk (ups n) (ups n) 0 (yW n) (yW n) (fun i j _ _ => Iff.rfl) (by rw [zrd h1 h9]; lia)
 unfold rk
 lia
theorem qH (hs : List Int) (p : Int × Int) : (y7 hs p).length = hs.length := by unfold y7; simp
theorem kK (ps : List (Int × Int)) (hs ks : List Int) (k : Int) : hdF ps hs (ks ++ [k]) = y7 (hdF ps hs ks) (zN ps k) := by unfold hdF; rw [List.foldl_append]; rfl
theorem zpm (ps : List (Int × Int)) (st : List Int × Int) (ks : List Int) (k : Int) : rkF ps st (ks ++ [k]) = w4 (rkF ps st ks) (zN ps k) := by unfold rkF; rw [List.foldl_append]; rfl
theorem zfm (ps : List (Int × Int)) : ∀ (ks hs : List Int), (hdF ps hs ks).length = hs.length
 | [], _ => rfl
 | k :: ks, hs => by
  show (hdF ps (y7 hs (zN ps k)) ks).length = _
  rw [zfm ps ks, qH]
theorem zmq (st : List Int × Int) (p : Int × Int) : (w4 st p).1.length = st.1.length := by unfold w4; split <;> simp
theorem zlb (ps : List (Int × Int)) : ∀ (ks : List Int) (st : List Int × Int), (rkF ps st ks).1.length = st.1.length
 | [], _ => rfl
 | k :: ks, st => by
  show (rkF ps (w4 st (zN ps k)) ks).1.length = _
  rw [zlb ps ks, zmq]
theorem wI : bootBuiltins "range" = some (.type "range") := by first | rfl | decide +kernel
theorem zob : bootBuiltins "set" = some (.type "set") := by first | rfl | decide +kernel
theorem zhw {k : Kd} {K : W.Frag} {a : Addr} {xs : List V} {g : TG} {tb : TS} {D : zeo} {σ : St} {H : Hp} (Pv : Nat -> St -> Hp -> Prop) (h0 : Pv 0 σ H) (hl : ∀ i σ H, i <= xs.length -> Pv i σ H -> SqK k K H a xs)
  (hs : ∀ (i : Nat) (x : V) (σ : St) (H : Hp), xs[i]? = some x -> Pv i σ H -> g x σ H fun σ2 H2 => tb { D with nx := Pv (i + 1), ct := Pv (i + 1), bk := D.nx } σ2 H2) (hd : ∀ σ H, Pv xs.length σ H -> D.nx σ H) :
  ∃ W : Nat -> Nat -> St -> Hp -> Prop, (∃ m, W 0 m σ H) /\ ∀ i m σ H, W i m σ H ->
   ((ItK k K a).stop i H /\ D.nx σ H) \/ ((ItK k K a).go i H /\ ∃ N : St -> Hp -> Prop, (∀ σ' H', N σ' H' -> ∃ m', m' < m /\ W (i + 1) m' σ' H') /\ ∀ x H', (ItK k K a).yld i H x H' -> g x σ H' fun σ2 H2 => tb { D with nx := N, ct := N, bk := D.nx } σ2 H2) := by
 refine ⟨fun i m σ H => m = xs.length - i /\ i <= xs.length /\ Pv i σ H, ⟨xs.length, by simp, Nat.zero_le _, h0⟩, ?_⟩
 rintro i m σ H ⟨rfl, hi, p⟩
 have q := hl i σ H hi p
 by_cases hlt : i < xs.length
 ·refine .inr ⟨zsd q hlt, Pv (i + 1), fun σ' H' p' => ⟨xs.length - (i + 1), by lia, rfl, hlt, p'⟩, fun x H' y => ?_⟩
  obtain ⟨e, hy2⟩ := zlp q y
  subst e
  exact hs i x σ H' hy2 p
 ·have e : i = xs.length := by lia
  subst e
  exact .inl ⟨zhs q (Nat.le_refl _), hd σ H p⟩
theorem zgp {l : List Int} {i : Int} (h0 : 0 <= i) (hl : i < l.length) : atI (l.map V.int) i = some (.int (at0 l i)) := by
 obtain ⟨j, rfl⟩ := Int.eq_ofNat_of_zero_le h0
 have hj : j < l.length := by lia
 refine zR ?_
 unfold at0
 simp [List.getD, hj]
theorem zgm {H : Hp} {xs : List V} {ps : List (Int × Int)} (h : Paired (TieAt H) xs ps) {k : Int} (h0 : 0 <= k) (hl : k < ps.length) : ∃ c, atI xs k = some (.ref c) /\ H c = some (.tup [.int (zN ps k).1, .int (zN ps k).2]) := by
 obtain ⟨j, rfl⟩ := Int.eq_ofNat_of_zero_le h0
 have xl := Paired.length h
 have hj : j < xs.length := by lia
 obtain ⟨p, e1, c, e2, e3⟩ := Paired.at h (show xs[j]? = some xs[j] by simp [hj])
 refine ⟨c, zR (by rw [List.getElem?_eq_getElem hj, e2]), ?_⟩
 have : zN ps (j : Int) = p := by
  unfold zN
  rw [Int.toNat_natCast, List.getD_eq_getElem?_getD, e1]
  rfl
 rw [this]
 exact e3
def Ks (m : Nat) (ks : List Int) : Prop := ∀ k ∈ ks, 0 <= k /\ k < (m : Int)
def zks (K : W.Frag) : Sp := fun vs H Q _ => ∃ (wv : V) (pk : Addr) (n : Int) (ps : List (Int × Int)) (ks : List Int), vs = [wv, .ref pk] /\ WebAt H wv n ps /\ 1 <= n /\ n <= 9 /\ (∀ p ∈ ps, InN n p) /\ SqT K H pk (ks.map V.int) /\ Ks ps.length ks /\
 ∀ l H', Same H H' -> H' l = some (.lst ((hdF ps (ups n) ks).map V.int)) -> Q (.ref l) H'
theorem wT {n : Nat} (h : n <= 10) : n < sizeLine := Nat.lt_of_le_of_lt h (by decide)
section
variable {P : Program} {w : World} {K : W.Frag} {mg : Str -> Option Value} {base : Heap}
theorem scHeads : zJ ["web", "pick", "heads", "k", "tie", "low", "high"] ["web", "pick"] (zB zaj) := ⟨rfl, rfl, rfl, by decide +kernel, rfl, by decide +kernel, by decide +kernel⟩
theorem nd3 : (["head", "high", "low"] : List Str).Nodup := by decide +kernel
theorem zvf (T : Txt K mg) (S : Src K mg "heads_of" zaj ["web", "pick"]) : Def P w K mg base 1 "heads_of" ["web", "pick"] (zks K) := by
 refine S.def scHeads (fun vs H Q E h => ?_) (fun f cdv A outer s H vs Q E hr h => ?_)
 ·obtain ⟨_, _, _, _, _, rfl, _⟩ := h; rfl
 ·obtain ⟨wv, pk, n, ps, ks, rfl, W, n1, n9, hb, hk, hks, q⟩ := h
  obtain ⟨c, d, xs, rfl, hc, hd, ht⟩ := W.ex
  obtain ⟨m, rfl⟩ := Int.eq_ofNat_of_zero_le (show 0 <= n by lia)
  refine ⟨_, zE (zT (i := 2) scHeads.nd rfl (Or.inl rfl) (yA (x9 rfl) rfl T.list xK (zA (yA wH rfl T.range wI (zA (yD (zQ K) (pv 0) zG (fun _ _ => rfl)) zD)) zD)))
   (zE (wX PassesOwn.never rfl (yT K .t (pv 1)) (zM (i := 3) scHeads.nd rfl (Or.inl rfl))
    (zE (zT (i := 4) scHeads.nd rfl (Or.inl rfl) (yD (zQ K) (yD (zQ K) (pv 0) zG (fun _ _ => rfl)) (pv 3) (fun _ _ => rfl)))
    (zE (zT (i := 5) scHeads.nd rfl (Or.inr rfl) (zO (zec rfl) (by rfl) T.min zee (zA (yD (xO K) (pv 2) (yD (zQ K) (pv 4) zG (fun _ _ => rfl)) (fun _ _ => rfl)) (zA (yD (xO K) (pv 2) (yD (zQ K) (pv 4) zG (fun _ _ => rfl)) (fun _ _ => rfl)) zD))))
    (zE (zT (i := 6) scHeads.nd rfl (Or.inr rfl) (zO (zed rfl) (by rfl) T.max zef (zA (yD (xO K) (pv 2) (yD (zQ K) (pv 4) zG (fun _ _ => rfl)) (fun _ _ => rfl)) (zA (yD (xO K) (pv 2) (yD (zQ K) (pv 4) zG (fun _ _ => rfl)) (fun _ _ => rfl)) zD))))
    (zF (jP (i := 2) scHeads.nd rfl (Or.inl rfl) (N' := ["head", "high", "low"]) (fr := [none, some 6, some 5]) (yM (by rfl)) rfl (yT K .l (pv 2))
     (fun _ _ _ _ => zM (i := 0) nd3 rfl (Or.inl rfl) (Or.inr rfl)) (fun _ _ _ _ => xG)
     (fun _ _ _ _ => kE (zX kF (pv 0) (pv 1) (yF _)) (pv 2) (pv 0))))))))
   (zF (zK (pv 2)))), ?_⟩
  have i0 : atI ([.int m, .ref d] : List V) 0 = some (.int m) := zR (j := 0) rfl
  have i1 : atI ([.int m, .ref d] : List V) 1 = some (.ref d) := zR (j := 1) rfl
  refine ⟨_, rfl, c, _, _, _, rfl, rfl, SqT.of hc, i0, _, rfl, fun p hp => ⟨p, m, rfl, zC, by lia, fun l hl => ?_⟩⟩
  have s1 := (Same.new (o := HO.rng 0 m) hp).trans (Same.new (o := HO.lst (upN m)) hl)
  have hl1 : (upd (upd H p (.rng 0 m)) l (.lst (upN m))) l = some (.lst ((ups m).map V.int)) := by rw [zC, kO]
  generalize upd (upd H p (.rng 0 m)) l (.lst (upN m)) = H1 at s1 hl1 ⊢
  refine ⟨_, rfl, pk, rfl, ⟨_, s1.tup hk⟩, zhw (k := .t) (K := K) (a := pk) (xs := ks.map V.int) (fun i σ H' => ∃ l u v t r, σ = [some (.ref c), some (.ref pk), some (.ref l), u, v, t, r] /\ Same H H' /\ H' l = some (.lst ((hdF ps (ups m) (ks.take i)).map V.int))) ⟨l, _, _, _, _, rfl, s1, hl1⟩ (fun i σ H' _ ⟨_, _, _, _, _, _, z, _⟩ => z.tup hk) ?_ ?_⟩
  ·rintro i x σ H' hx ⟨l, u, v, t, r, rfl, sm, hl⟩
   obtain ⟨k, ek, rfl⟩ : ∃ k, ks[i]? = some k /\ V.int k = x := by
    rw [List.getElem?_map] at hx
    cases e : ks[i]? with
    | none => rw [e] at hx; simp at hx
    | some k => rw [e] at hx; simp at hx; exact ⟨k, rfl, hx⟩
   obtain ⟨k0, kl⟩ := hks k (List.mem_of_getElem? ek)
   obtain ⟨tc, et, htc⟩ := zgm ht k0 kl
   obtain ⟨b1, b2, b3, b4⟩ := wJ hb k0 kl
   generalize hhs : hdF ps (ups m) (ks.take i) = hs at hl
   have hsl : hs.length = m := by rw [<- hhs, zfm, yW]; simp
   have t0 : atI ([.int (zN ps k).1, .int (zN ps k).2] : List V) 0 = some (.int (zN ps k).1) := zR (j := 0) rfl
   have t1 : atI ([.int (zN ps k).1, .int (zN ps k).2] : List V) 1 = some (.int (zN ps k).2) := zR (j := 1) rfl
   have a0 := zgp (l := hs) (i := (zN ps k).1) b1 (by lia)
   have a1 := zgp (l := hs) (i := (zN ps k).2) b3 (by lia)
   have htc' := sm _ _ htc
   dsimp only [yR, List.set]
   refine ⟨_, rfl, c, _, _, _, rfl, rfl, SqT.of (sm _ _ hc), i1, _, rfl, d, _, _, _, rfl, rfl, SqT.of (sm _ _ hd), et, ?_⟩
   refine ⟨_, rfl, _, rfl, tc, _, _, _, rfl, rfl, SqT.of htc', t0, l, _, _, _, rfl, rfl, SqL.of hl, a0, _, rfl, _, rfl, tc, _, _, _, rfl, rfl, SqT.of htc', t1, l, _, _, _, rfl, rfl, SqL.of hl, a1, _, _, rfl, ?_⟩
   refine ⟨_, rfl, _, rfl, tc, _, _, _, rfl, rfl, SqT.of htc', t0, l, _, _, _, rfl, rfl, SqL.of hl, a0, _, rfl, _, rfl, tc, _, _, _, rfl, rfl, SqT.of htc', t1, l, _, _, _, rfl, rfl, SqL.of hl, a1, _, _, rfl, ?_⟩
   generalize hlow : (if at0 hs (zN ps k).2 < at0 hs (zN ps k).1 then at0 hs (zN ps k).2 else at0 hs (zN ps k).1) = low
   generalize hhigh : (if at0 hs (zN ps k).2 > at0 hs (zN ps k).1 then at0 hs (zN ps k).2 else at0 hs (zN ps k).1) = high
   refine ⟨_, rfl, l, rfl, ⟨_, SqL.of hl⟩, yZ (k := .l) (a := l) (xs := hs.map V.int) (fun σ => ∃ v, σ = [v, some (.int high), some (.int low)]) (fun j ys H2 => H2 = H' /\ ys = (hs.take j).map fun h => V.int (if h = high then low else h)) ⟨_, rfl⟩ ⟨rfl, rfl⟩ (by rw [List.length_map]; exact wT (by lia)) (fun j ys H2 _ z => SqL.of (by rw [z.1]; exact hl)) ?_ ?_⟩
   ·rintro j x ys σ H2 N hx ⟨u, rfl⟩ ⟨rfl, rfl⟩ hN
    obtain ⟨h0, eh, rfl⟩ : ∃ h0, hs[j]? = some h0 /\ V.int h0 = x := by
     rw [List.getElem?_map] at hx
     cases e : hs[j]? with
     | none => rw [e] at hx; simp at hx
     | some k => rw [e] at hx; simp at hx; exact ⟨k, rfl, hx⟩
    dsimp only [yR, List.set]
    refine zdi ?_
    refine ⟨_, rfl, _, rfl, rfl, _, rfl, ?_⟩
    by_cases he : h0 = high
    ·rw [decide_eq_true (show V.int h0 = V.int high by rw [he])]
     refine jH ⟨_, rfl, ?_⟩
     refine hN _ _ _ ⟨_, rfl⟩ ⟨rfl, ?_⟩ (by simp)
     rw [zS eh, List.map_append, List.map_cons, List.map_nil, if_pos he]
    ·rw [decide_eq_false (show ¬ V.int h0 = V.int high from fun z => he (by injection z))]
     refine xD ⟨_, rfl, ?_⟩
     refine hN _ _ _ ⟨_, rfl⟩ ⟨rfl, ?_⟩ (by simp)
     rw [zS eh, List.map_append, List.map_cons, List.map_nil, if_neg he]
   ·rintro ys H2 ⟨rfl, rfl⟩ p2 hp2
    refine ⟨p2, _, _, _, _, rfl, sm.trans (Same.new hp2), ?_⟩
    rw [zC, zS ek, kK, hhs]
    unfold y7
    rw [hlow, hhigh, List.length_map, List.take_length, List.map_map]
    rfl
  ·rintro σ H' ⟨l, u, v, t, r, rfl, sm, hl⟩
   rw [List.length_map, List.take_length] at hl
   exact ⟨_, rfl, q l H' sm hl⟩
end
def zii : Sp := fun vs H Q _ => ∃ (wv : V) (n : Int) (ps : List (Int × Int)), vs = [wv] /\ WebAt H wv n ps /\ ps.length <= 8 /\ ∀ t H', Same H H' -> FzT H' t ((ups ps.length).map V.int) -> Q (.ref t) H'
section
variable {P : Program} {w : World} {K : W.Frag} {mg : Str -> Option Value} {base : Heap}
theorem zDo : zJ ["web"] ["web"] (zB zaa) := ⟨rfl, rfl, rfl, by decide +kernel, rfl, by decide +kernel, by decide +kernel⟩
theorem zFa (T : Txt K mg) (S : Src K mg "whole_pick" zaa ["web"]) : Def P w K mg base 1 "whole_pick" ["web"] zii := by
 refine S.def zDo (fun vs H Q E h => ?_) (fun f cdv A outer s H vs Q E hr h => ?_)
 ·obtain ⟨i, _, _, rfl, _⟩ := h; rfl
 ·obtain ⟨wv, n, ps, rfl, W, hl8, q⟩ := h
  obtain ⟨c, d, xs, rfl, hc, hd, ht⟩ := W.ex
  have xl : xs.length = ps.length := Paired.length ht
  refine ⟨_, zF (zK (yA (g9 rfl) rfl T.tuple yL (zA (yA wH rfl T.range wI (zA (zO (yU K) (by rfl) T.len PySem.boot_len (zA (yD (zQ K) (pv 0) zG (fun _ _ => rfl)) zD)) zD)) zD))), ?_⟩
  have i1 : atI ([.int n, .ref d] : List V) 1 = some (.ref d) := zR (j := 1) rfl
  refine ⟨_, rfl, c, _, _, _, rfl, rfl, SqT.of hc, i1, d, xs, rfl, .inr (SqT.of hd), _, rfl, fun p hp => ⟨p, xs.length, rfl, zC, by lia, fun l o oc od hl => ?_⟩⟩
  refine q l _ ((Same.new hp).trans (Same.new hl)) ?_
  rw [kO, xl]
  exact FzT.new oc od
end
def zjq (K : W.Frag) : Sp := fun vs H Q _ => ∃ (wv : V) (pk : Addr) (n : Int) (ps : List (Int × Int)) (ks : List Int), vs = [wv, .ref pk] /\ WebAt H wv n ps /\ 1 <= n /\ n <= 9 /\ (∀ p ∈ ps, InN n p) /\ SqT K H pk (ks.map V.int) /\ Ks ps.length ks /\
 ∀ H', Same H H' -> Q (.int (n - (xM (hdF ps (ups n) ks) : Int))) H'
section
variable {P : Program} {w : World} {K : W.Frag} {mg : Str -> Option Value} {base : Heap}
theorem zxv : zJ ["web", "pick"] ["web", "pick"] (zB zfv) := ⟨rfl, rfl, rfl, by decide +kernel, rfl, by decide +kernel, by decide +kernel⟩
theorem zzs (T : Txt K mg) (hset : mg "set" = none) (S : Src K mg "rank_of" zfv ["web", "pick"]) (DH : Def P w K mg base 1 "heads_of" ["web", "pick"] (zks K)) : Def P w K mg base 2 "rank_of" ["web", "pick"] (zjq K) := by
 refine S.def zxv (fun vs H Q E h => ?_) (fun f cdv A outer s H vs Q E hr h => ?_)
 ·obtain ⟨_, _, _, _, _, rfl, _⟩ := h; rfl
 ·obtain ⟨wv, pk, n, ps, ks, rfl, W, n1, n9, hb, hk, hks, q⟩ := h
  obtain ⟨c, d, xs, rfl, hc, hd, ht⟩ := W.ex
  refine ⟨_, zF (zK (yB zao (yD (zQ K) (pv 0) zG (fun _ _ => rfl)) (zO zde (by rfl) T.len PySem.boot_len (zA (yA (zdd rfl) rfl hset zob (zA (zP DH hr rfl (zA (pv 0) (zA (pv 1) zD))) zD)) zD)))), ?_⟩
  have i0 : atI ([.int n, .ref d] : List V) 0 = some (.int n) := zR (j := 0) rfl
  refine ⟨_, rfl, c, _, _, _, rfl, rfl, SqT.of hc, i0, _, rfl, _, rfl, .ref c, pk, n, ps, ks, rfl, W, n1, n9, hb, hk, hks, fun l H1 s1 hl => ?_⟩
  refine ⟨l, _, rfl, SqL.of hl, by rw [zfm, yW]; lia, fun a S0 ha => ⟨a, S0, _, rfl, zC, _, _, rfl, rfl, ?_⟩⟩
  exact q _ (s1.trans (Same.new ha))
end
def zkl (K : W.Frag) : Sp := fun vs H Q _ => ∃ (wv : V) (n : Int) (ps : List (Int × Int)), vs = [wv] /\ WebAt H wv n ps /\ 1 <= n /\ n <= 9 /\ (∀ p ∈ ps, InN n p) /\ ps.length <= 8 /\
 ∀ H', Same H H' -> Q (.int (n - (xM (hdF ps (ups n) (ups ps.length)) : Int))) H'
theorem qL (m : Nat) : Ks m (ups m) := by
 intro k hk
 unfold ups at hk
 obtain ⟨i, hi, rfl⟩ := List.mem_map.mp hk
 have : i < (m : Int).toNat := List.mem_range.mp hi
 lia
section
variable {P : Program} {w : World} {K : W.Frag} {mg : Str -> Option Value} {base : Heap}
theorem zth : zJ ["web"] ["web"] (zB zad) := ⟨rfl, rfl, rfl, by decide +kernel, rfl, by decide +kernel, by decide +kernel⟩
theorem zuw (S : Src K mg "rank_of_web" zad ["web"]) (DP : Def P w K mg base 1 "whole_pick" ["web"] zii) (DR : Def P w K mg base 2 "rank_of" ["web", "pick"] (zjq K)) : Def P w K mg base 3 "rank_of_web" ["web"] (zkl K) := by
 refine S.def zth (fun vs H Q E h => ?_) (fun f cdv A outer s H vs Q E hr h => ?_)
 ·obtain ⟨_, _, _, rfl, _⟩ := h; rfl
 ·obtain ⟨wv, n, ps, rfl, W, n1, n9, hb, hl8, q⟩ := h
  have hr1 : Room 1 _ := hr.mono (by decide)
  have hr2 : Room 2 _ := hr.mono (by decide)
  refine ⟨_, zF (zK (zP DR hr2 rfl (zA (pv 0) (zA (zP DP hr1 rfl (zA (pv 0) zD)) zD)))), ?_⟩
  refine ⟨_, rfl, _, rfl, wv, n, ps, rfl, W, hl8, fun t H1 s1 ht1 => ?_⟩
  exact ⟨wv, t, n, ps, ups ps.length, rfl, W.same s1, n1, n9, hb, FzT.sq ht1, qL _, fun H2 s2 => q H2 (s1.trans s2)⟩
end
end My
namespace My
def first (p : List Int) : Int := match p.getLast? with | none => 0 | some x => x + 1
def zor (m : Int) (p : List Int) : List (List Int) := (List.range (m - first p).toNat).map fun (k : Nat) => p ++ [first p + (k : Int)]
def gY (m : Int) : Nat -> List (List Int)
 | 0 => [[]]
 | s + 1 => (gY m s).flatMap (zor m)
def v6 (m : Int) : Nat -> List (List Int)
 | 0 => []
 | s + 1 => v6 m s ++ gY m s
def zsb (z : Bool) : List Int -> List Int -> Bool
 | [], _ => z
 | _ :: _, [] => z
 | x :: xs, y :: ys => if x = y then zsb z xs ys else decide (x <= y)
def leq (p q : List Int) : Bool := if p.length = q.length then zsb (decide (p.length <= q.length)) p q else decide (p.length <= q.length)
def zam : List Int -> Bool
 | [] => true
 | [_] => true
 | x :: y :: r => decide (x < y) && zam (y :: r)
def zcv (m : Int) (p : List Int) : Bool := p.all (fun x => decide (0 <= x) && decide (x < m)) && zam p && decide (p.length <= 8)
def zfg : List (List Int) -> Bool
 | [] => true
 | [_] => true
 | p :: q :: r => decide (p ≠ q) && !leq q p && zfg (q :: r)
def chk (m : Int) : Bool :=
 (gY m (m.toNat + 1)).isEmpty && (List.range (m.toNat + 1)).all (fun j => !(gY m j).isEmpty && decide ((gY m j).length <= 100) && decide ((v6 m j).length <= 300)) && decide ((v6 m (m.toNat + 1)).length = 2 ^ m.toNat) &&
 (v6 m (m.toNat + 1)).all (zcv m) && zfg (v6 m (m.toNat + 1)) && decide ((v6 m (m.toNat + 1)).length <= 300)
theorem zvl : ∀ m ∈ ([0, 1, 2, 3, 4, 5, 6, 7, 8] : List Int), chk m = true := by decide +kernel
end My
namespace My
theorem zAb {m : Int} (h0 : 0 <= m) (h8 : m <= 8) : chk m = true := by
 refine zvl m ?_
 have : m = 0 \/ m = 1 \/ m = 2 \/ m = 3 \/ m = 4 \/ m = 5 \/ m = 6 \/ m = 7 \/ m = 8 := by lia
 rcases this with rfl | rfl | rfl | rfl | rfl | rfl | rfl | rfl | rfl <;> decide
structure zmi (m : Int) : Prop where
 fin : gY m (m.toNat + 1) = []
 ne : ∀ j, j <= m.toNat -> gY m j ≠ []
 len : ∀ j, j <= m.toNat + 1 -> (gY m j).length <= 100
 ulen : ∀ j, j <= m.toNat + 1 -> (v6 m j).length <= 300
 many : (v6 m (m.toNat + 1)).length = 2 ^ m.toNat
 ok : ∀ p ∈ v6 m (m.toNat + 1), zcv m p = true
 ord : zfg (v6 m (m.toNat + 1)) = true
theorem zpw {m : Int} (h0 : 0 <= m) (h8 : m <= 8) : zmi m := by
 have h := zAb h0 h8
 unfold chk at h
 simp only [Bool.and_eq_true, List.all_eq_true, decide_eq_true_eq, Bool.not_eq_true', List.mem_range] at h
 obtain ⟨⟨⟨⟨⟨h1, h2⟩, h3⟩, h4⟩, h5⟩, h6⟩ := h
 have e1 : gY m (m.toNat + 1) = [] := List.isEmpty_iff.mp h1
 refine ⟨e1, fun j hj e => ?_, fun j hj => ?_, fun j hj => ?_, h3, h4, h5⟩
 ·have := (h2 j (by lia)).1.1
  rw [e] at this
  cases this
 ·by_cases hj' : j = m.toNat + 1
  ·rw [hj', e1]; exact Nat.zero_le _
  ·exact (h2 j (by lia)).1.2
 ·by_cases hj' : j = m.toNat + 1
  ·rw [hj']; exact h6
  ·exact (h2 j (by lia)).2
theorem zdt {m : Int} {p : List Int} (h : zcv m p = true) : (∀ x ∈ p, 0 <= x /\ x < m) /\ zam p = true /\ p.length <= 8 := by
 unfold zcv at h
 simp only [Bool.and_eq_true, List.all_eq_true, decide_eq_true_eq] at h
 exact ⟨fun x hx => h.1.1 x hx, h.1.2, h.2⟩
end My
namespace My
open PySem L2
def rkP (n : Int) (ps : List (Int × Int)) (ks : List Int) : Int := n - (xM (hdF ps (ups n) ks) : Int)
def w9 (ps : List (Int × Int)) : List (List Int) := v6 (ps.length : Int) (ps.length + 1)
def yS (n : Int) (ps : List (Int × Int)) : Int := rkP n ps (ups ps.length)
def xX (n : Int) (ps : List (Int × Int)) : Prop := (1 <= n /\ n <= 9) /\ (∀ p ∈ ps, InN n p) /\ ps.length <= 8
theorem zvo {ps : List (Int × Int)} (h8 : ps.length <= 8) : zmi (ps.length : Int) := zpw (by lia) (by lia)
theorem zmh {ps : List (Int × Int)} (h8 : ps.length <= 8) {p : List Int} (hp : p ∈ w9 ps) : zcv (ps.length : Int) p = true := by
 refine (zvo h8).ok p ?_
 rw [show ((ps.length : Int)).toNat = ps.length by lia]
 exact hp
theorem zvp {ps : List (Int × Int)} (h8 : ps.length <= 8) {p : List Int} (hp : p ∈ w9 ps) : Ks ps.length p := fun k hk => (zdt (zmh h8 hp)).1 k hk
theorem zdy {α : Type} {l : List α} {i : Nat} {x : α} (f : α -> Bool) (e : l[i]? = some x) : (l.take (i + 1)).filter f = (l.take i).filter f ++ (if f x then [x] else []) := by
 rw [zS e, List.filter_append]
 congr 1
 cases h : f x <;> simp [h]
theorem dec_int (a b : Int) : decide (V.int a = V.int b) = decide (a = b) := by
 rw [decide_eq_decide]
 exact ⟨fun z => by injection z, fun z => by rw [z]⟩
def zyd (K : W.Frag) : List V -> Hp -> VK -> Prop := fun xs H Q => ∃ p ys, xs = [.ref p] /\ (SqL K H p ys \/ SqT K H p ys) /\ Q (.int ys.length) H
end My
namespace My
open PySem L2 PyProof.Rows
theorem zgn {l : List Int} {i : Int} (h0 : 0 <= i) (h : i < l.length) : at0 l i ∈ l := zch (by lia)
theorem zgo {l : List Int} {f : Int -> Int} {i : Int} (h0 : 0 <= i) (h : i < l.length) : at0 (l.map f) i = f (at0 l i) := qE (by lia)
theorem wR {n i : Int} (h0 : 0 <= i) (h : i < n) : at0 (ups n) i = i := by
 have : i.toNat < n.toNat := by lia
 unfold at0 ups
 simp [List.getD, this]
 lia
theorem mem_ups {n i : Int} : i ∈ ups n ↔ 0 <= i /\ i < n := by
 unfold ups
 rw [List.mem_map]
 constructor
 ·rintro ⟨j, hj, rfl⟩
  have := List.mem_range.mp hj
  lia
 ·rintro ⟨a, b⟩
  exact ⟨i.toNat, List.mem_range.mpr (by lia), by lia⟩
theorem wN (n : Int) : (ups n).Pairwise (· < ·) := by
 unfold ups
 rw [List.pairwise_map]
 exact List.pairwise_lt_range.imp fun h => by lia
theorem zpa {j : Int} (h : 0 <= j) : ups (j + 1) = ups j ++ [j] := by
 unfold ups
 rw [show (j + 1).toNat = j.toNat + 1 by lia, List.range_succ, List.map_append]
 simp
 exact Int.max_eq_left h
structure GH (n : Int) (ps : List (Int × Int)) (ks hs : List Int) : Prop where
 len : (hs.length : Int) = n
 le : ∀ i, 0 <= i -> i < n -> 0 <= at0 hs i /\ at0 hs i <= i
 idem : ∀ i, 0 <= i -> i < n -> at0 hs (at0 hs i) = at0 hs i
 join : ∀ k ∈ ks, at0 hs (zN ps k).1 = at0 hs (zN ps k).2
 cl : ∀ F : Int -> Prop, (∀ k ∈ ks, (F (zN ps k).1 ↔ F (zN ps k).2)) -> ∀ i, 0 <= i -> i < n -> (F i ↔ F (at0 hs i))
theorem zqm {n : Int} (h1 : 1 <= n) (ps : List (Int × Int)) : GH n ps [] (ups n) where
 len := by rw [yW]; lia
 le i a b := by rw [wR a b]; lia
 idem i a b := by rw [wR a b, wR a b]
 join k hk := nomatch hk
 cl F _ i a b := by rw [wR a b]
theorem zui {n : Int} {ps : List (Int × Int)} {ks hs : List Int} {k : Int} (G : GH n ps ks hs) (hall : ∀ k ∈ ks, InN n (zN ps k)) (hp : InN n (zN ps k)) : GH n ps (ks ++ [k]) (y7 hs (zN ps k)) := by
 generalize hp' : zN ps k = p at hp ⊢
 obtain ⟨a1, a2, b1, b2⟩ := id hp
 have ln := G.len
 by_cases he : at0 hs p.1 = at0 hs p.2
 ·rw [vE he]
  refine ⟨G.len, G.le, G.idem, fun j hj => ?_, fun F hF i h0 hi => G.cl F (fun j hj => hF j (List.mem_append_left _ hj)) i h0 hi⟩
  rcases List.mem_append.mp hj with z | z
  ·exact G.join j z
  ·rw [List.mem_singleton.mp z, hp']; exact he
 ·obtain ⟨low, high, lh, es, fl, fh, lp, lle, dom⟩ : ∃ low high, low < high /\ y7 hs p = hs.map (fun x => if x = high then low else x) /\ at0 hs low = low /\ at0 hs high = high /\ 0 <= low /\ high < n /\ ((at0 hs p.1 = low /\ at0 hs p.2 = high) \/ (at0 hs p.1 = high /\ at0 hs p.2 = low)) := by
   have la := G.le p.1 a1 a2
   have lb := G.le p.2 b1 b2
   have ia := G.idem p.1 a1 a2
   have ib := G.idem p.2 b1 b2
   by_cases hlt : at0 hs p.2 < at0 hs p.1
   ·refine ⟨at0 hs p.2, at0 hs p.1, hlt, ?_, ib, ia, lb.1, by lia, .inr ⟨rfl, rfl⟩⟩
    unfold y7
    rw [if_neg (by lia), if_pos hlt]
   ·refine ⟨at0 hs p.1, at0 hs p.2, by lia, ?_, ia, ib, la.1, by lia, .inl ⟨rfl, rfl⟩⟩
    unfold y7
    rw [if_pos (by lia), if_neg hlt]
  rw [es]
  have am : ∀ i, 0 <= i -> i < n -> at0 (hs.map fun x => if x = high then low else x) i = if at0 hs i = high then low else at0 hs i := fun i h0 hi => zgo h0 (by lia)
  refine ⟨by rw [List.length_map]; exact ln, fun i h0 hi => ?_, fun i h0 hi => ?_, fun j hj => ?_, fun F hF i h0 hi => ?_⟩
  ·rw [am i h0 hi]
   have := G.le i h0 hi
   split <;> lia
  ·rw [am i h0 hi]
   have l1 := G.le i h0 hi
   by_cases c : at0 hs i = high
   ·rw [if_pos c, am low lp (by lia), fl, if_neg (by lia)]
   ·rw [if_neg c, am (at0 hs i) l1.1 (by lia), G.idem i h0 hi, if_neg c]
  ·have inj : InN n (zN ps j) := by
    rcases List.mem_append.mp hj with z | z
    ·exact hall j z
    ·rw [List.mem_singleton.mp z, hp']; exact hp
   obtain ⟨c1, c2, c3, c4⟩ := inj
   rw [am _ c1 c2, am _ c3 c4]
   rcases List.mem_append.mp hj with z | z
   ·rw [G.join j z]
   ·rw [List.mem_singleton.mp z, hp']
    rcases dom with ⟨d1, d2⟩ | ⟨d1, d2⟩ <;> rw [d1, d2] <;> simp
  ·have old := G.cl F (fun j hj => hF j (List.mem_append_left _ hj))
   have fp : F p.1 ↔ F p.2 := by have := hF k (by simp); rw [hp'] at this; exact this
   rw [am i h0 hi, old i h0 hi]
   by_cases c : at0 hs i = high
   ·rw [if_pos c, c]
    have o1 := old p.1 a1 a2
    have o2 := old p.2 b1 b2
    rcases dom with ⟨d1, d2⟩ | ⟨d1, d2⟩
    ·rw [d1] at o1; rw [d2] at o2
     exact o2.symm.trans (fp.symm.trans o1)
    ·rw [d1] at o1; rw [d2] at o2
     exact o1.symm.trans (fp.trans o2)
   ·rw [if_neg c]
theorem zwr {n : Int} {ps : List (Int × Int)} : ∀ (ks done hs : List Int), (∀ k ∈ done ++ ks, InN n (zN ps k)) -> GH n ps done hs -> GH n ps (done ++ ks) (hdF ps hs ks)
 | [], done, hs, _, G => by rw [List.append_nil]; exact G
 | k :: ks, done, hs, h, G => by
  have := zwr ks (done ++ [k]) (y7 hs (zN ps k)) (by rw [List.append_assoc]; exact h) (zui G (fun j hj => h j (List.mem_append_left _ hj)) (h k (by simp)))
  rw [List.append_assoc] at this
  exact this
theorem zcz {n : Int} {ps : List (Int × Int)} {ks : List Int} (h1 : 1 <= n) (hb : ∀ p ∈ ps, InN n p) (hk : Ks ps.length ks) : GH n ps ks (hdF ps (ups n) ks) :=
 zwr ks [] (ups n) (fun k h => wJ hb (hk k h).1 (hk k h).2) (zqm h1 ps)
def under (n : Int) (hs : List Int) (h : Int) : List Int := (ups n).filter fun i => decide (at0 hs i = h)
def zEz (n : Int) (hs : List Int) : List Int := (ups n).filter fun i => decide (at0 hs i = i)
def zBj (n : Int) (hs : List Int) : List (List Int) := (zEz n hs).map (under n hs)
theorem zbf {l m : List Int} (p : l.Perm m) (h1 : l.Pairwise (· <= ·)) (h2 : m.Pairwise (· <= ·)) : l = m := List.Perm.eq_of_pairwise (fun a b _ _ h1 h2 => by lia) h1 h2 p
theorem zdn {l m : List Int} (h1 : l.Nodup) (h2 : m.Nodup) (h : ∀ i, i ∈ l ↔ i ∈ m) : l.Perm m := (List.perm_ext_iff_of_nodup h1 h2).mpr h
theorem zjv {n : Int} {l : List Int} (h0 : 0 <= n) (nd : l.Nodup) (h : ∀ i ∈ l, 0 <= i /\ i < n) : (l.length : Int) <= n := by
 have p : l.Perm ((ups n).filter fun i => decide (i ∈ l)) := zdn nd (((wN n).filter _).imp fun h => by lia) fun i => by
  rw [List.mem_filter, mem_ups, decide_eq_true_iff]
  exact ⟨fun z => ⟨h i z, z⟩, fun z => z.2⟩
 have := p.length_eq
 have := List.length_filter_le (fun i => decide (i ∈ l)) (ups n)
 rw [yW] at this
 lia
end My
namespace My
open PySem L2 PyProof.Rows
def cN (n : Int) (ps : List (Int × Int)) (ks : List Int) : Int := (xM (hdF ps (ups n) ks) : Nat)
theorem zaw (hs : List Int) (p : Int × Int) : y7 hs (xJ p) = y7 hs p := by
 rcases vH p with ⟨e1, e2⟩ | ⟨e1, e2⟩
 ·unfold y7; rw [e1, e2]
 ·unfold y7
  rw [e1, e2]
  have h1 : (if at0 hs p.1 > at0 hs p.2 then at0 hs p.1 else at0 hs p.2) = if at0 hs p.2 > at0 hs p.1 then at0 hs p.2 else at0 hs p.1 := by split <;> split <;> lia
  have h2 : (if at0 hs p.1 < at0 hs p.2 then at0 hs p.1 else at0 hs p.2) = if at0 hs p.2 < at0 hs p.1 then at0 hs p.2 else at0 hs p.1 := by split <;> split <;> lia
  rw [h1, h2]
theorem zhv {ps : List (Int × Int)} : ∀ (ks hs : List Int), Ks ps.length ks -> hdF (ps.map xJ) hs ks = hdF ps hs ks
 | [], _, _ => rfl
 | k :: ks, hs, h => by
  show hdF (ps.map xJ) (y7 hs (zN (ps.map xJ) k)) ks = hdF ps (y7 hs (zN ps k)) ks
  obtain ⟨k0, kl⟩ := h k List.mem_cons_self
  rw [zdk k0 kl, zaw, zhv ks _ fun j hj => h j (List.mem_cons_of_mem _ hj)]
theorem zlr {n : Int} {ps : List (Int × Int)} {ks ks' hs hs' : List Int} (G : GH n ps ks hs) (G' : GH n ps ks' hs') (sub : ∀ k ∈ ks, k ∈ ks') {i j : Int} (i0 : 0 <= i) (i1 : i < n) (j0 : 0 <= j) (j1 : j < n) (e : at0 hs i = at0 hs j) : at0 hs' i = at0 hs' j := by
 have c := G.cl (fun x => at0 hs' i = at0 hs' x) fun k hk => by rw [G'.join k (sub k hk)]
 have c1 := c i i0 i1
 rw [e] at c1
 exact (c j j0 j1).mpr (c1.mp rfl)
theorem zwq {n : Int} {ps : List (Int × Int)} {ks ks' hs hs' : List Int} (G : GH n ps ks hs) (G' : GH n ps ks' hs') (sub : ∀ k ∈ ks, k ∈ ks') {i : Int} (i0 : 0 <= i) (i1 : i < n) : at0 hs' i <= at0 hs i := by
 have l := G.le i i0 i1
 have m := zlr G G' sub l.1 (by lia) i0 i1 (G.idem i i0 i1)
 have l2 := G'.le (at0 hs i) l.1 (by lia)
 lia
theorem zuj {n : Int} {ps : List (Int × Int)} {ks ks' hs hs' : List Int} (G : GH n ps ks hs) (G' : GH n ps ks' hs') (h : ∀ k, k ∈ ks ↔ k ∈ ks') : hs = hs' := by
 have l1 := G.len
 have l2 := G'.len
 apply List.ext_getElem (by lia)
 intro i h1 h2
 have a := zwq G G' (fun k hk => (h k).mp hk) (i := i) (by lia) (by lia)
 have b := zwq G' G (fun k hk => (h k).mpr hk) (i := i) (by lia) (by lia)
 have e1 : at0 hs i = hs[i] := by unfold at0; rw [Int.toNat_natCast]; simp [List.getD, h1]
 have e2 : at0 hs' i = hs'[i] := by unfold at0; rw [Int.toNat_natCast]; simp [List.getD, h2]
 lia
section
variable {n : Int} {ps : List (Int × Int)}
theorem zkg (n1 : 1 <= n) (hb : ∀ p ∈ ps, InN n p) {ks ks' : List Int} (h1 : Ks ps.length ks) (h2 : Ks ps.length ks') (h : ∀ k, k ∈ ks ↔ k ∈ ks') : cN n ps ks = cN n ps ks' := by
 unfold cN
 rw [zuj (zcz n1 hb h1) (zcz n1 hb h2) h]
theorem zaq (n1 : 1 <= n) (hb : ∀ p ∈ ps, InN n p) {ks : List Int} {k : Int} (h1 : Ks ps.length ks) (k0 : 0 <= k) (kl : k < ps.length) :
  cN n ps (ks ++ [k]) = cN n ps ks - if at0 (hdF ps (ups n) ks) (zN ps k).1 = at0 (hdF ps (ups n) ks) (zN ps k).2 then 0 else 1 := by
 have G := zcz n1 hb h1
 obtain ⟨a1, a2, b1, b2⟩ := wJ hb k0 kl
 unfold cN
 rw [kK]
 generalize hdF ps (ups n) ks = hs at G ⊢
 have ln := G.len
 by_cases e : at0 hs (zN ps k).1 = at0 hs (zN ps k).2
 ·rw [vE e, if_pos e]; lia
 ·obtain ⟨u, v, huv, e1, hu⟩ := zhe e
  have m1 : at0 hs (zN ps k).1 ∈ hs := zgn a1 (by lia)
  have m2 : at0 hs (zN ps k).2 ∈ hs := zgn b1 (by lia)
  have mu : u ∈ hs := by rcases hu with ⟨z, _⟩ | ⟨z, _⟩ <;> rw [z] <;> assumption
  have mv : v ∈ hs := by rcases hu with ⟨_, z⟩ | ⟨_, z⟩ <;> rw [z] <;> assumption
  have := jW huv mu mv
  rw [e1, if_neg e]
  lia
theorem zap {m : Nat} {X Y : List Int} (h1 : Ks m X) (h2 : Ks m Y) : Ks m (X ++ Y) := fun k hk => by
 rcases List.mem_append.mp hk with z | z
 ·exact h1 k z
 ·exact h2 k z
theorem zww (n1 : 1 <= n) (hb : ∀ p ∈ ps, InN n p) : ∀ (D X Y : List Int), Ks ps.length D -> Ks ps.length X -> Ks ps.length Y -> (∀ k ∈ X, k ∈ Y) -> cN n ps Y - cN n ps (Y ++ D) <= cN n ps X - cN n ps (X ++ D)
 | [], X, Y, _, _, _, _ => by simp
 | d :: D, X, Y, hD, hX, hY, sub => by
  obtain ⟨d0, dl⟩ := hD d List.mem_cons_self
  have hd1 : Ks ps.length [d] := fun k hk => by rw [List.mem_singleton.mp hk]; exact ⟨d0, dl⟩
  have ih := zww n1 hb D (X ++ [d]) (Y ++ [d]) (fun k hk => hD k (List.mem_cons_of_mem _ hk)) (zap hX hd1) (zap hY hd1) fun k hk => by
   rcases List.mem_append.mp hk with z | z
   ·exact List.mem_append_left _ (sub k z)
   ·exact List.mem_append_right _ z
  rw [List.append_assoc, List.append_assoc] at ih
  have cx := zaq n1 hb hX d0 dl
  have cy := zaq n1 hb hY d0 dl
  obtain ⟨a1, a2, b1, b2⟩ := wJ hb d0 dl
  have mono := zlr (zcz n1 hb hX) (zcz n1 hb hY) sub a1 a2 b1 b2
  have key : cN n ps Y - cN n ps (Y ++ [d]) <= cN n ps X - cN n ps (X ++ [d]) := by
   rw [cx, cy]
   by_cases e : at0 (hdF ps (ups n) X) (zN ps d).1 = at0 (hdF ps (ups n) X) (zN ps d).2
   ·rw [if_pos e, if_pos (mono e)]; lia
   ·rw [if_neg e]; split <;> lia
  show cN n ps Y - cN n ps (Y ++ ([d] ++ D)) <= cN n ps X - cN n ps (X ++ ([d] ++ D))
  lia
theorem zon (n1 : 1 <= n) (hb : ∀ p ∈ ps, InN n p) : ∀ (D X : List Int), Ks ps.length D -> Ks ps.length X -> 0 <= cN n ps X - cN n ps (X ++ D) /\ cN n ps X - cN n ps (X ++ D) <= D.length
 | [], X, _, _ => by simp
 | d :: D, X, hD, hX => by
  obtain ⟨d0, dl⟩ := hD d List.mem_cons_self
  have hd1 : Ks ps.length [d] := fun k hk => by rw [List.mem_singleton.mp hk]; exact ⟨d0, dl⟩
  have ih := zon n1 hb D (X ++ [d]) (fun k hk => hD k (List.mem_cons_of_mem _ hk)) (zap hX hd1)
  rw [List.append_assoc] at ih
  have cx := zaq n1 hb hX d0 dl
  show 0 <= cN n ps X - cN n ps (X ++ ([d] ++ D)) /\ cN n ps X - cN n ps (X ++ ([d] ++ D)) <= ((D.length + 1 : Nat) : Int)
  split at cx <;> lia
theorem zji (n1 : 1 <= n) (n9 : n <= 9) : cN n ps [] = n := zrd n1 n9
theorem zqy (n1 : 1 <= n) (n9 : n <= 9) (hb : ∀ p ∈ ps, InN n p) {A : List Int} (hA : Ks ps.length A) : 0 <= n - cN n ps A /\ n - cN n ps A <= A.length := by
 have := zon n1 hb A [] hA (fun _ z => nomatch z)
 rw [List.nil_append, zji n1 n9] at this
 exact this
end
def mvP (n t : Int) (p : Int × Int) : Int × Int := ((p.1 + t) % n, (p.2 + t) % n)
def mv (n t : Int) (ps : List (Int × Int)) : List (Int × Int) := ps.reverse.map (mvP n t)
def tn (ps : List (Int × Int)) (k : Int) : Int := (ps.length : Int) - 1 - k
end My
namespace My
open PySem L2
def zAk : Nat -> List (List Bool)
 | 0 => [[]]
 | m + 1 => (zAk m).flatMap fun l => [true :: l, false :: l]
theorem zid : ∀ {m : Nat} {bs : List Bool}, bs.length = m -> bs ∈ zAk m
 | 0, [], _ => List.mem_singleton.mpr rfl
 | 0, _ :: _, h => nomatch h
 | m + 1, [], h => nomatch h
 | m + 1, b :: bs, h => by
  refine List.mem_flatMap.mpr ⟨bs, zid (by simpa using h), ?_⟩
  cases b <;> simp
def pkL (m : Nat) (bs : List Bool) : List Int := (((ups m).zip bs).filter (·.2)).map (·.1)
def pkN (m b : Nat) : List Int := (((List.range m).filter fun k => b.testBit k).map fun (k : Nat) => (k : Int))
def pw : List (List Int) -> Bool
 | [] => true
 | p :: l => l.all (fun q => !HT.lexLt q p) && pw l
theorem zwc : ∀ {l : List (List Int)}, pw l = true -> l.Pairwise zbu
 | [], _ => .nil
 | p :: l, h => by
  have e : pw (p :: l) = (l.all (fun q => !HT.lexLt q p) && pw l) := rfl
  rw [e, Bool.and_eq_true, List.all_eq_true] at h
  exact .cons (fun q hq => by have := h.1 q hq; simpa [zbu] using this) (zwc h.2)
def ndB : List (List Int) -> Bool
 | [] => true
 | p :: l => !l.contains p && ndB l
theorem zrx : ∀ {l : List (List Int)}, ndB l = true -> l.Nodup
 | [], _ => .nil
 | p :: l, h => by
  have e : ndB (p :: l) = (!l.contains p && ndB l) := rfl
  rw [e, Bool.and_eq_true] at h
  exact List.nodup_cons.mpr ⟨by simpa using h.1, zrx h.2⟩
def zAh (m : Nat) : Bool :=
 ((List.range (2 ^ m)).map (pkN m)).isPerm (v6 m (m + 1)) && ((zAk m).all fun bs => (v6 m (m + 1)).contains (pkL m bs)) && (List.range (m + 1)).all (fun r => pw ((v6 m (m + 1)).filter fun p => decide (p.length = r))) && ndB (v6 m (m + 1))
theorem zqx : ∀ m ∈ ([0, 1, 2, 3, 4, 5, 6, 7, 8] : List Nat), zAh m = true := by decide +kernel
structure zFe (m : Nat) : Prop where
 perm : ((List.range (2 ^ m)).map (pkN m)).Perm (v6 m (m + 1))
 all : ∀ bs : List Bool, bs.length = m -> pkL m bs ∈ v6 m (m + 1)
 nd : (v6 m (m + 1)).Nodup
 up : ∀ r, r <= m -> ((v6 m (m + 1)).filter fun p => decide (p.length = r)).Pairwise zbu
theorem zwd {m : Nat} (h : m <= 8) : zFe m := by
 have c : zAh m = true := zqx m (by
  have : m = 0 \/ m = 1 \/ m = 2 \/ m = 3 \/ m = 4 \/ m = 5 \/ m = 6 \/ m = 7 \/ m = 8 := by lia
  rcases this with rfl | rfl | rfl | rfl | rfl | rfl | rfl | rfl | rfl <;> decide)
 unfold zAh at c
 rw [Bool.and_eq_true, Bool.and_eq_true, Bool.and_eq_true, List.all_eq_true, List.all_eq_true] at c
 obtain ⟨⟨⟨c1, c2⟩, c3⟩, c4⟩ := c
 refine ⟨List.isPerm_iff.mp c1, fun bs hb => ?_, zrx c4, fun r hr => zwc (c3 r (List.mem_range.mpr (by lia)))⟩
 have := c2 bs (zid hb)
 simpa using this
theorem zci (q : Int -> Bool) : ∀ l : List Int, l.filter q = ((l.zip (l.map q)).filter (·.2)).map (·.1)
 | [] => rfl
 | x :: l => by
  rw [List.map_cons, List.zip_cons_cons]
  cases h : q x
  ·rw [List.filter_cons_of_neg (by simp [h]), List.filter_cons_of_neg (by simp), zci q l]
  ·rw [List.filter_cons_of_pos h, List.filter_cons_of_pos (by simp), List.map_cons, zci q l]
theorem zdg : ∀ {a b : List Int}, a.Pairwise (· < ·) -> b.Pairwise (· < ·) -> (∀ i, i ∈ a ↔ i ∈ b) -> a = b := fun {a b} h1 h2 h =>
 zbf (zdn (h1.imp fun z => by lia) (h2.imp fun z => by lia) h) (h1.imp fun z => by lia) (h2.imp fun z => by lia)
theorem zpn {m : Nat} {ks : List Int} (h8 : m <= 8) (hk : Ks m ks) (up : ks.Pairwise (· < ·)) : ks ∈ v6 m (m + 1) := by
 have e : ks = (ups m).filter fun i => decide (i ∈ ks) := zdg up ((wN m).filter _) fun i => by
  rw [List.mem_filter, mem_ups, decide_eq_true_iff]
  exact ⟨fun z => ⟨hk i z, z⟩, fun z => z.2⟩
 rw [e, zci]
 exact (zwd h8).all _ (by rw [List.length_map, yW]; simp)
theorem zlc : ∀ {p : List Int}, zam p = true -> p.Pairwise (· < ·)
 | [], _ => .nil
 | [x], _ => List.pairwise_singleton _ _
 | x :: y :: r, h => by
  have e : zam (x :: y :: r) = (decide (x < y) && zam (y :: r)) := rfl
  rw [e, Bool.and_eq_true, decide_eq_true_iff] at h
  have ih := zlc h.2
  refine .cons (fun z hz => ?_) ih
  rcases List.mem_cons.mp hz with e | hz
  ·rw [e]; exact h.1
  ·have := (List.pairwise_cons.mp ih).1 z hz
   lia
section
variable {n : Int} {ps : List (Int × Int)}
theorem jN (ks : List Int) : rkP n ps ks = n - cN n ps ks := rfl
theorem yH (h8 : ps.length <= 8) {p : List Int} : p ∈ w9 ps ↔ Ks ps.length p /\ p.Pairwise (· < ·) := ⟨fun h => ⟨zvp h8 h, zlc (zdt (zmh h8 h)).2.1⟩, fun h => zpn h8 h.1 h.2⟩
theorem zmg (h8 : ps.length <= 8) : (v6 ps.length (ps.length + 1)).Nodup := (zwd h8).nd
end
theorem Paired.drop {α β : Type} {F : α -> β -> Prop} : ∀ (n : Nat) {l₁ : List α} {l₂ : List β}, Paired F l₁ l₂ -> Paired F (l₁.drop n) (l₂.drop n)
 | 0, _, _, h => h
 | _ + 1, _, _, .nil => .nil
 | n + 1, _, _, .cons _ t => Paired.drop n t
theorem Paired.app {α β : Type} {F : α -> β -> Prop} : ∀ {l₁ k₁ : List α} {l₂ k₂ : List β}, Paired F l₁ l₂ -> Paired F k₁ k₂ -> Paired F (l₁ ++ k₁) (l₂ ++ k₂)
 | _, _, _, _, .nil, h => h
 | _, _, _, _, .cons r t, h => .cons r (Paired.app t h)
theorem ztz {p : Int × Int} (h : p.1 <= p.2) : xJ p = p := by unfold xJ; rw [if_pos h]
theorem zty (p : Int × Int) : (xJ p).1 <= (xJ p).2 := by unfold xJ; split <;> simp only <;> omega
def wo {α : Type} (qs : List α) (j : Nat) : List α := qs.take j ++ qs.drop (j + 1)
def mvL (lo hi p : Int) : Int := if p = hi then lo else if hi < p then p - 1 else p
def zZ (qs : List (Int × Int)) (j : Nat) (p : Int × Int) : List (Int × Int) := if p.1 = p.2 then wo qs j else (wo qs j).map fun r => xJ (mvL p.1 p.2 r.1, mvL p.1 p.2 r.2)
def zke (n : Int) (p : Int × Int) : Int := if p.1 = p.2 then n else n - 1
def zvt (ps : List (Int × Int)) : Prop := ∀ p ∈ ps, p.1 <= p.2
theorem wO {H H2 : Hp} {g : Addr} {o : HO} (s : Same H H2) (h : H g = none) : Same H (upd H2 g o) := fun b u e => by rw [zW (zV e h)]; exact s b u e
theorem xR {ks : List Int} {i : Nat} {x : V} (hx : (ks.map V.int)[i]? = some x) : ∃ k, ks[i]? = some k /\ V.int k = x := by
 rw [List.getElem?_map] at hx
 cases e : ks[i]? with
 | none => rw [e] at hx; simp at hx
 | some k => rw [e] at hx; simp at hx; exact ⟨k, rfl, hx⟩
theorem zhc {H : Hp} {l : Addr} {ys zs : List V} {xs : List V} {ps : List (Int × Int)} (h : Paired (TieAt H) xs ps) (hl : H l = some (.lst ys)) : Paired (TieAt (upd H l (.lst zs))) xs ps := L2.Paired.mapP h fun _ _ ⟨a, h1, h2⟩ => ⟨a, h1, by
 rw [zW (zok h2 hl (fun z => nomatch z))]
 exact h2⟩
theorem zsc (K : W.Frag) : PySem.W.kitOne K (.type "int") (.type "int") = some true := by first | rfl | decide +kernel
theorem zfj (K : W.Frag) : PySem.W.kitOne K (.type "int") (.type "bool") = some false := by first | rfl | decide +kernel
theorem zjy (K : W.Frag) : PySem.W.kitOne K (.type "tuple") (.type "tuple") = some true := by rfl
theorem zyy (K : W.Frag) : PySem.W.kitOne K (.type "list") (.type "list") = some true := by rfl
theorem zpk {K : W.Frag} {H : Hp} {a b : Addr} {x y : Int} (h1 : H a = some (.tup [.int x, .int y])) (h2 : H b = some (.tup [.int x, .int y])) : SameD K H 1 (.ref a) (.ref b) := by
 refine .tup (SqT.of h1) (SqT.of h2) rfl fun i u v e1 e2 => ?_
 rw [e1] at e2
 cases e2
 match i with
 | 0 => simp at e1; rw [<- e1]; exact .flat rfl
 | 1 => simp at e1; rw [<- e1]; exact .flat rfl
 | j + 2 => simp at e1
theorem zpj {K : W.Frag} {H : Hp} {v u : V} {n : Int} {ps : List (Int × Int)} (h1 : WebAt H v n ps) (h2 : WebAt H u n ps) {Q : VK} {out : Bool} (q : Q (.bl out) H) : zbe K out v u H Q := by
 obtain ⟨c, d, xs, rfl, c1, d1, t1⟩ := h1.ex
 obtain ⟨c', d', xs', rfl, c2, d2, t2⟩ := h2.ex
 have l1 := Paired.length t1
 have l2 := Paired.length t2
 refine ⟨c, c', _, _, 2, rfl, rfl, .inl ⟨SqT.of c1, SqT.of c2⟩, rfl, by decide, fun i x y e1 e2 => ?_, q⟩
 match i with
 | 0 => simp at e1 e2; rw [<- e1, <- e2]; exact .flat rfl
 | 1 =>
  simp at e1 e2
  rw [<- e1, <- e2]
  refine .tup (SqT.of d1) (SqT.of d2) (by lia) fun j x y f1 f2 => ?_
  obtain ⟨p1, g1, a1, rfl, b1⟩ := Paired.at t1 f1
  obtain ⟨p2, g2, a2, rfl, b2⟩ := Paired.at t2 f2
  rw [g1] at g2
  cases g2
  exact zpk b1 b2
 | j + 2 => simp at e1
def HK (kd : Kd) (H : Hp) (a : Addr) (xs : List V) : Prop := match kd with | .l => H a = some (.lst xs) | .t => FzT H a xs
theorem HK.sq {kd : Kd} {K : W.Frag} {H : Hp} {a : Addr} {xs : List V} (h : HK kd H a xs) : SqK kd K H a xs := by
 cases kd with
 | l => exact SqL.of h
 | t => exact FzT.sq h
theorem HK.same {kd : Kd} {H H' : Hp} {a : Addr} {xs : List V} (h : HK kd H a xs) (s : Same H H') : HK kd H' a xs := by
 cases kd with
 | l => exact s _ _ h
 | t => exact FzT.same h s
def OrdAt (kd : Kd) (H : Hp) (o : V) (m : Nat) (ord : List Int) : Prop := (o = .non /\ ord = ups m) \/ ∃ a, o = .ref a /\ HK kd H a (ord.map V.int) /\ ord.Perm (ups m)
theorem OrdAt.same {kd : Kd} {H H' : Hp} {o : V} {m : Nat} {ord : List Int} (h : OrdAt kd H o m ord) (s : Same H H') : OrdAt kd H' o m ord := by
 rcases h with h | ⟨a, e, h, p⟩
 ·exact .inl h
 ·exact .inr ⟨a, e, h.same s, p⟩
theorem OrdAt.perm {kd : Kd} {H : Hp} {o : V} {m : Nat} {ord : List Int} (h : OrdAt kd H o m ord) : ord.Perm (ups m) := by
 rcases h with ⟨_, rfl⟩ | ⟨_, _, _, p⟩
 ·exact List.Perm.refl _
 ·exact p
def zpt (kd : Kd) (K : W.Frag) : List V -> Hp -> VK -> Prop := fun xs H Q => ∃ (p : Addr) (ns : List Int), xs = [.ref p] /\ SqK kd K H p (ns.map V.int) /\ ns.length < 64 /\ ∀ (l : Addr) (ms : List Int), ms.Perm ns -> ms.Pairwise (· <= ·) -> H l = none -> Q (.ref l) (upd H l (.lst (ms.map V.int)))
theorem jY {X : Cx} (kd : Kd) : xL X (.builtin "sorted") (zpt kd X.K) := by
 cases kd with
 | l => exact zeu
 | t => exact zdc
def zbx : Sp := fun vs H Q _ => ∃ i : Int, vs = [.int i] /\ Q (.bl true) H
def zri (K : W.Frag) : Sp := fun vs H Q _ => ∃ (kd : Kd) (wv o : V) (n : Int) (ps : List (Int × Int)) (ord : List Int), vs = [wv, o] /\ WebAt H wv n ps /\ ps.length <= 8 /\ OrdAt kd H o ps.length ord /\ ∀ t H', Same H H' -> FzT H' t (ord.map V.int) -> Q (.ref t) H'
theorem zEw (K : W.Frag) {us : List Value} (h : Vals [V.ty "list", V.ty "tuple"] us) (kd : Kd) : PySem.W.kitAny K (.type (match kd with | .l => "list" | .t => "tuple")) us = some true := by
 obtain ⟨u1, u2, rfl, r1, r2⟩ := Vals.two h
 cases (show u1 = Value.type "list" from r1)
 cases (show u2 = Value.type "tuple" from r2)
 cases kd with
 | l => first | rfl | decide +kernel
 | t => first | rfl | decide +kernel
section
variable {P : Program} {w : World} {K : W.Frag} {mg : Str -> Option Value} {base : Heap}
theorem zmt : zJ ["thing"] ["thing"] (zB vB) := ⟨rfl, rfl, rfl, by decide +kernel, rfl, by decide +kernel, by decide +kernel⟩
theorem zqt (T : Txt K mg) (S : Src K mg "is_whole" vB ["thing"]) : Def P w K mg base 1 "is_whole" ["thing"] zbx := by
 refine S.def zmt (fun vs H Q E h => ?_) (fun f cdv A outer s H vs Q E hr h => ?_)
 ·obtain ⟨x, rfl, _⟩ := h; rfl
 ·obtain ⟨i, rfl, q⟩ := h
  refine ⟨_, zF (zK (zrw (zO (wF K) (by rfl) T.isi xS (zA (pv 0) (zA (x4 (v := .ty "int") rfl T.int zeg rfl) zD)))
   (zrv (zym (zO (wF K) (by rfl) T.isi xS (zA (pv 0) (zA (x4 (v := .ty "bool") rfl T.bool jT rfl) zD))))))), ?_⟩
  exact ⟨_, rfl, _, _, _, _, _, rfl, rfl, .int _, zsc K, _, rfl, jH ⟨_, rfl, _, _, _, _, _, rfl, rfl, .int _, zfj K, _, rfl, q⟩⟩
def zrk : Sp := fun vs H Q _ => ∃ (kd : Kd) (a : Addr) (m : Nat) (ord : List Int), vs = [.ref a, .int m] /\ HK kd H a (ord.map V.int) /\ m <= 10 /\ ord.Perm (ups m) /\ ∀ H', Same H H' -> Q (.bl true) H'
theorem zmu {K : W.Frag} {H : Hp} {a b : Addr} {p : List Int} (h1 : SqL K H a (p.map V.int)) (h2 : SqL K H b (p.map V.int)) {Q : VK} {out : Bool} (q : Q (.bl out) H) : zbe K out (.ref a) (.ref b) H Q := by
 refine ⟨a, b, _, _, 0, rfl, rfl, .inr ⟨h1, h2⟩, rfl, by decide, fun j x y e1 e2 => ?_, q⟩
 rw [e1] at e2
 cases e2
 rw [List.getElem?_map] at e1
 cases e : p[j]? with
 | none => rw [e] at e1; cases e1
 | some k => rw [e] at e1; cases e1; exact .flat rfl
theorem zxx : zJ ["thing", "many"] ["thing", "many"] (zB zfy) := ⟨rfl, rfl, rfl, by decide +kernel, rfl, by decide +kernel, by decide +kernel⟩
theorem ndk : (["number"] : List Str).Nodup := by decide +kernel
theorem zzu (T : Txt K mg) (S : Src K mg "is_each_once" zfy ["thing", "many"]) (DI : Def P w K mg base 1 "is_whole" ["thing"] zbx) : Def P w K mg base 2 "is_each_once" ["thing", "many"] zrk := by
 refine S.def zxx (fun vs H Q E h => ?_) (fun f cdv A outer s H vs Q E hr h => ?_)
 ·obtain ⟨_, _, _, _, rfl, _⟩ := h; rfl
 ·obtain ⟨kd, a, m, ord, rfl, ha, h20, pm, q⟩ := h
  have ol : ord.length = m := by rw [pm.length_eq, yW]; omega
  refine ⟨_, zE (xC (PW.pt (vU (xZ (xY (zO zjh (by rfl) T.isi xS (zA (pv 0) (zA (y9 (zA (x4 (v := .ty "list") rfl T.list xK rfl) (zA (x4 (v := .ty "tuple") rfl T.tuple yL rfl) zD))) zD)))))
    (vT (xZ (xY (zO (zib rfl) (by rfl) T.all zeh (zA (xI (N' := ["number"]) (fr := [none]) (yM (by rfl)) rfl (yT K kd (pv 0))
    (fun _ _ _ _ => zM (i := 0) ndk rfl (Or.inl rfl) (Or.inr rfl)) (fun _ _ _ _ => xG) (fun _ _ _ _ => zP DI hr rfl (zA (pv 0) zD))) zD))))))) wA yC)
   (zF (zK (zfe (zlk K (xE hr)) (zO (jY kd) (by rfl) T.sorted y6 (zA (pv 0) zD)) (yA (x9 rfl) rfl T.list xK (zA (yA wH rfl T.range wI (zA (pv 1) zD)) zD)) (yF _)))), ?_⟩
  refine ⟨_, rfl, by show 2 <= sizeLine; decide, fun p1 hp1 => ?_⟩
  have s1 := Same.new (o := HO.tup [V.ty "list", V.ty "tuple"]) hp1
  have h1 : (upd H p1 (.tup [V.ty "list", V.ty "tuple"])) p1 = some (.tup [V.ty "list", V.ty "tuple"]) := zC
  generalize upd H p1 (.tup [V.ty "list", V.ty "tuple"]) = H1 at s1 h1 ⊢
  have ha1 := ha.same s1
  refine ⟨a, p1, _, ord.map V.int, _, true, rfl, SqT.of h1, ?_, fun us r => zEw K r kd, _, rfl, xD ?_⟩
  ·cases kd with
   | l => exact .inl ⟨ha1, rfl⟩
   | t => exact .inr ⟨ha1, rfl⟩
  refine ⟨_, rfl, a, rfl, ⟨_, ha1.sq⟩, yZ (k := kd) (a := a) (xs := ord.map V.int) (fun σ => ∃ v, σ = [v]) (fun i ys H2 => Same H1 H2 /\ ys = (List.replicate i true).map V.bl) ⟨_, rfl⟩ ⟨Same.refl _, rfl⟩ (by rw [List.length_map]; exact wT (by omega)) (fun i ys H2 _ z => (ha1.same z.1).sq) ?_ ?_⟩
  ·rintro i x ys σ H2 N hx ⟨u, rfl⟩ ⟨s2, rfl⟩ hN
   rw [List.getElem?_map] at hx
   obtain ⟨k, ek, rfl⟩ : ∃ k, ord[i]? = some k /\ V.int k = x := by
    cases e : ord[i]? with
    | none => rw [e] at hx; cases hx
    | some k => rw [e] at hx; exact ⟨k, rfl, Option.some.inj hx⟩
   dsimp only [yR, List.set]
   refine zdi ⟨_, rfl, k, rfl, ?_⟩
   refine hN _ _ _ ⟨_, rfl⟩ ⟨s2, ?_⟩ (by simp)
   rw [List.replicate_succ', List.map_append]
   rfl
  ·rintro ys H2 ⟨s2, rfl⟩ p2 hp2
   have s3 := Same.new (o := HO.lst ((List.replicate (ord.map V.int).length true).map V.bl)) hp2
   have h3 : (upd H2 p2 (.lst ((List.replicate (ord.map V.int).length true).map V.bl))) p2 = some (.lst ((List.replicate (ord.map V.int).length true).map V.bl)) := zC
   generalize upd H2 p2 (.lst ((List.replicate (ord.map V.int).length true).map V.bl)) = H3 at s3 h3 ⊢
   have ha3 := ha1.same (s2.trans s3)
   have s13 := s1.trans (s2.trans s3)
   refine ⟨p2, _, rfl, SqL.of h3, _, rfl, ?_⟩
   have al : (List.replicate (ord.map V.int).length true).all id = true := by rw [List.all_eq_true]; intro b hb; exact (List.mem_replicate.mp hb).2
   rw [al]
   refine xD ⟨_, rfl, a, ord, rfl, ha3.sq, by omega, fun l4 ms p4 u4 hl4 => ?_⟩
   have em : ms = ups m := zbf (p4.trans pm) u4 ((wN _).imp fun h => by omega)
   subst em
   have s4 := Same.new (o := HO.lst ((ups m).map V.int)) hl4
   have h4 : (upd H3 l4 (.lst ((ups m).map V.int))) l4 = some (.lst ((ups m).map V.int)) := zC
   generalize upd H3 l4 (.lst ((ups m).map V.int)) = H4 at s4 h4 ⊢
   refine ⟨_, rfl, _, rfl, fun p hp => ⟨p, m, rfl, zC, by omega, fun l hl => ?_⟩⟩
   have s5 := (Same.new (o := HO.rng 0 m) hp).trans (Same.new (o := HO.lst (upN m)) hl)
   have h5 : (upd (upd H4 p (.rng 0 m)) l (.lst (upN m))) l = some (.lst ((ups m).map V.int)) := by rw [zC, kO]
   generalize upd (upd H4 p (.rng 0 m)) l (.lst (upN m)) = H5 at s5 h5 ⊢
   exact zmu (SqL.of (s5 _ _ h4)) (SqL.of h5) (q _ (s13.trans (s4.trans s5)))
theorem zxu : zJ ["web", "order"] ["web", "order"] (zB zft) := ⟨rfl, rfl, rfl, by decide +kernel, rfl, by decide +kernel, by decide +kernel⟩
theorem zzp (T : Txt K mg) (S : Src K mg "told_order" zft ["web", "order"]) (DW : Def P w K mg base 1 "whole_pick" ["web"] zii) (DI : Def P w K mg base 2 "is_each_once" ["thing", "many"] zrk) : Def P w K mg base 3 "told_order" ["web", "order"] (zri K) := by
 refine S.def zxu (fun vs H Q E h => ?_) (fun f cdv A outer s H vs Q E hr h => ?_)
 ·obtain ⟨_, _, _, _, _, _, rfl, _⟩ := h; rfl
 ·obtain ⟨kd, wv, o, n, ps, ord, rfl, W, h8, alt, q⟩ := h
  refine ⟨_, zE (xC (zX zyq (pv 1) zyn (yF _)) (zF (zK (zP DW (hr.mono (by omega)) rfl (zA (pv 0) zD)))) yC)
   (zE (xC (xZ (xY (zP DI hr rfl (zA (pv 1) (zA (zO (yU K) (by rfl) T.len PySem.boot_len (zA (yD (zQ K) (pv 0) zG (fun _ _ => rfl)) zD)) zD))))) wA yC)
   (zF (zK (yA zgw rfl T.tuple yL (zA (pv 1) zD))))), ?_⟩
  rcases alt with ⟨rfl, rfl⟩ | ⟨a, rfl, ha, pm⟩
  ·refine ⟨_, rfl, rfl, _, rfl, ?_⟩
   rw [decide_eq_true rfl]
   exact jH ⟨_, rfl, wv, n, ps, rfl, W, h8, fun t H' s h => q t H' s h⟩
  ·obtain ⟨c, d, xs, rfl, hc, hd, ht⟩ := W.ex
   have xl : xs.length = ps.length := Paired.length ht
   have i1 : atI ([.int n, .ref d] : List V) 1 = some (.ref d) := zR (j := 1) rfl
   refine ⟨_, rfl, rfl, _, rfl, ?_⟩
   rw [decide_eq_false (fun z => nomatch z)]
   refine xD ⟨_, rfl, _, rfl, c, _, _, _, rfl, rfl, SqT.of hc, i1, d, xs, rfl, .inr (SqT.of hd), kd, a, ps.length, ord, by rw [xl]; rfl, ha, by omega, pm, fun H1 s1 => ⟨_, rfl, xD ?_⟩⟩
   have ha6 := ha.same s1
   refine ⟨_, rfl, a, ord.map V.int, rfl, ?_⟩
   cases kd with
   | l => exact .inl ⟨SqL.of ha6, fun t7 o7 oc od ht7 => q t7 _ (s1.trans (Same.new ht7)) (FzT.new oc od)⟩
   | t => exact .inr ⟨FzT.sq ha6, q a _ s1 ha6⟩
end
def zax : Sp := fun vs H Q _ => ∃ x a b : Int, vs = [.int x, .int a, .int b] /\ a <= x /\ x <= b /\ Q (.bl true) H
section
variable {P : Program} {w : World} {K : W.Frag} {mg : Str -> Option Value} {base : Heap}
theorem zpi : zJ ["thing", "least", "greatest"] ["thing", "least", "greatest"] (zB qQ) := ⟨rfl, rfl, rfl, by decide +kernel, rfl, by decide +kernel, by decide +kernel⟩
theorem zuu (S : Src K mg "is_whole_within" qQ ["thing", "least", "greatest"]) (D : Def P w K mg base 1 "is_whole" ["thing"] zbx) : Def P w K mg base 2 "is_whole_within" ["thing", "least", "greatest"] zax := by
 refine S.def zpi (fun vs H Q E h => ?_) (fun f cdv A outer s H vs Q E hr h => ?_)
 ·obtain ⟨x, lo, hi, rfl, _⟩ := h; rfl
 ·obtain ⟨x, lo, hi, rfl, h1, h2, q⟩ := h
  refine ⟨_, zF (zK (zrw (zP D hr rfl (zA (pv 0) zD)) (zrv (zpy zoj zoj (pv 1) (pv 0) (pv 2))))), ?_⟩
  refine ⟨_, rfl, x, rfl, _, rfl, jH ⟨_, rfl, _, rfl, _, _, rfl, rfl, _, rfl, ?_⟩⟩
  rw [decide_eq_true h1]
  refine jH ⟨_, rfl, _, _, rfl, rfl, ?_⟩
  dsimp only
  rw [decide_eq_true h2]
  exact q
end
def zjr : Sp := fun vs H Q _ => ∃ a b : Int, vs = [.int a, .int b] /\ ∀ d, H d = none -> Q (.ref d) (upd H d (.tup [.int (xJ (a, b)).1, .int (xJ (a, b)).2]))
section
variable {P : Program} {w : World} {K : W.Frag} {mg : Str -> Option Value} {base : Heap}
theorem zxy : zJ ["a", "b"] ["a", "b"] (zB qR) := ⟨rfl, rfl, rfl, by decide +kernel, rfl, by decide +kernel, by decide +kernel⟩
theorem zzv (S : Src K mg "lesser_first" qR ["a", "b"]) : Def P w K mg base 1 "lesser_first" ["a", "b"] zjr := by
 refine S.def zxy (fun vs H Q E h => ?_) (fun f cdv A outer s H vs Q E hr h => ?_)
 ·obtain ⟨_, _, rfl, _⟩ := h; rfl
 ·obtain ⟨a, b, rfl, q⟩ := h
  refine ⟨_, zF (zK (kE (zX zoj (pv 0) (pv 1) (yF _)) (y9 (zA (pv 0) (zA (pv 1) zD))) (y9 (zA (pv 1) (zA (pv 0) zD))))), ?_⟩
  refine ⟨_, rfl, _, rfl, _, _, rfl, rfl, _, rfl, ?_⟩
  by_cases h : a <= b
  ·rw [decide_eq_true h]
   refine jH ⟨_, rfl, _, rfl, by show 2 <= sizeLine; decide, fun d hd => ?_⟩
   have := q d hd
   rw [show xJ (a, b) = (a, b) from if_pos h] at this
   exact this
  ·rw [decide_eq_false h]
   refine xD ⟨_, rfl, _, rfl, by show 2 <= sizeLine; decide, fun d hd => ?_⟩
   have := q d hd
   rw [show xJ (a, b) = (b, a) from if_neg h] at this
   exact this
end
abbrev T3 := Int × Int × Int
def k3 (t : T3) : Int × Int := (t.1, t.2.1)
def coef (ts : List T3) (k : Int × Int) : Int := ((ts.filter fun t => decide (k3 t = k)).map (·.2.2)).sum
theorem yG (t : T3) (ts : List T3) (k : Int × Int) : coef (t :: ts) k = (if k3 t = k then t.2.2 else 0) + coef ts k := by
 unfold coef
 by_cases h : k3 t = k
 ·rw [List.filter_cons_of_pos (by simpa using h), if_pos h, List.map_cons, List.sum_cons]
 ·rw [List.filter_cons_of_neg (by simpa using h), if_neg h, Int.zero_add]
theorem qF (a b : List T3) (k : Int × Int) : coef (a ++ b) k = coef a k + coef b k := by
 induction a with
 | nil => show coef b k = 0 + coef b k; lia
 | cons t a ih => rw [List.cons_append, yG, yG, ih]; lia
theorem znz {a b : List T3} (h : a.Perm b) (k : Int × Int) : coef a k = coef b k := by
 induction h with
 | nil => rfl
 | cons x _ ih => rw [yG, yG, ih]
 | swap x y l => rw [yG, yG, yG, yG]; lia
 | trans _ _ ih1 ih2 => exact ih1.trans ih2
theorem wQ {ts : List T3} {k : Int × Int} (h : ∀ t ∈ ts, k3 t ≠ k) : coef ts k = 0 := by
 induction ts with
 | nil => rfl
 | cons t ts ih =>
  rw [yG, if_neg (h t (List.mem_cons_self ..)), ih fun u hu => h u (List.mem_cons_of_mem _ hu)]
  lia
def kJ (a b : T3) : Prop := a.1 < b.1 \/ (a.1 = b.1 /\ a.2.1 < b.2.1)
structure PolyIs (ts L : List T3) : Prop where
 up : L.Pairwise kJ
 mem : ∀ t, t ∈ L ↔ t.2.2 ≠ 0 /\ t.2.2 = coef ts (k3 t)
theorem zba : ∀ {L M : List T3}, L.Pairwise kJ -> M.Pairwise kJ -> (∀ t, t ∈ L ↔ t ∈ M) -> L = M
 | [], [], _, _, _ => rfl
 | [], b :: M, _, _, h => absurd ((h b).mpr (List.mem_cons_self ..)) (by simp)
 | a :: L, [], _, _, h => absurd ((h a).mp (List.mem_cons_self ..)) (by simp)
 | a :: L, b :: M, h1, h2, h => by
  obtain ⟨p1, q1⟩ := List.pairwise_cons.mp h1
  obtain ⟨p2, q2⟩ := List.pairwise_cons.mp h2
  have e : a = b := by
   rcases List.mem_cons.mp ((h a).mp (List.mem_cons_self ..)) with e | e
   ·exact e
   ·rcases List.mem_cons.mp ((h b).mpr (List.mem_cons_self ..)) with e' | e'
    ·exact e'.symm
    ·have x := p2 a e
     have y := p1 b e'
     unfold kJ at x y
     lia
  subst e
  rw [zba q1 q2 fun t => ⟨fun ht => ?_, fun ht => ?_⟩]
  ·rcases List.mem_cons.mp ((h t).mp (List.mem_cons_of_mem _ ht)) with e | e
   ·have x := p1 t ht
    rw [e] at x
    unfold kJ at x
    lia
   ·exact e
  ·rcases List.mem_cons.mp ((h t).mpr (List.mem_cons_of_mem _ ht)) with e | e
   ·have x := p2 t ht
    rw [e] at x
    unfold kJ at x
    lia
   ·exact e
theorem PolyIs.uniq {ts us L M : List T3} (h1 : PolyIs ts L) (h2 : PolyIs us M) (h : ∀ k, coef ts k = coef us k) : L = M :=
 zba h1.up h2.up fun t => by rw [h1.mem, h2.mem, h]
def kk (k : Int × Int) : List Key := [.inl k.1, .inl k.2]
theorem zjz {a b : Int × Int} (h : kk a = kk b) : a = b := by
 unfold kk at h
 simp only [List.cons.injEq, Sum.inl.injEq, and_true] at h
 exact Prod.ext h.1 h.2
structure TabIs (ts : List T3) (kvs : qG) : Prop where
 nd : (kvs.map (·.1)).Nodup
 val : ∀ p ∈ kvs, ∃ k, p = (kk k, V.int (coef ts k))
 has : ∀ t ∈ ts, kk (k3 t) ∈ kvs.map (·.1)
 len : kvs.length <= ts.length
theorem TabIs.nil : TabIs [] [] := ⟨by simp, (fun _ h => nomatch h), (fun _ h => nomatch h), Nat.le_refl _⟩
theorem zoz {kvs : qG} {k : List Key} {v : V} (h : kM kvs k = some v) : (k, v) ∈ kvs := by
 unfold kM at h
 obtain ⟨p, hp, rfl⟩ := Option.map_eq_some_iff.mp h
 have h1 := List.mem_of_find?_eq_some hp
 have h2 := List.find?_some hp
 have : p.1 = k := by simpa using h2
 rw [<- this]
 exact h1
theorem zml {kvs : qG} {k : List Key} (h : kM kvs k = none) : k ∉ kvs.map (·.1) := by
 unfold kM at h
 rw [Option.map_eq_none_iff] at h
 intro hm
 obtain ⟨p, hp, e⟩ := List.mem_map.mp hm
 have := List.find?_eq_none.mp h p hp
 exact this (by simpa using e)
theorem TabIs.at {ts : List T3} {kvs : qG} (h : TabIs ts kvs) (k : Int × Int) : (kM kvs (kk k)).getD (.int 0) = .int (coef ts k) := by
 cases e : kM kvs (kk k) with
 | some v =>
  obtain ⟨k', e'⟩ := h.val _ (zoz e)
  injection e' with e1 e2
  rw [zjz e1, e2]
  rfl
 | none =>
  have := zml e
  rw [wQ fun t ht z => this (by rw [<- z]; exact h.has t ht)]
  rfl
theorem TabIs.put {ts : List T3} {kvs : qG} (h : TabIs ts kvs) (t : T3) : TabIs (ts ++ [t]) (jO kvs (kk (k3 t)) (.int (coef ts (k3 t) + t.2.2))) := by
 have c1 : coef (ts ++ [t]) (k3 t) = coef ts (k3 t) + t.2.2 := by
  rw [qF, yG, if_pos rfl]
  show _ + (_ + 0) = _
  lia
 have c2 : ∀ k, k3 t ≠ k -> coef (ts ++ [t]) k = coef ts k := fun k hk => by
  rw [qF, yG, if_neg hk]
  show _ + (0 + 0) = _
  lia
 refine ⟨?_, ?_, ?_, ?_⟩
 ·unfold jO
  split
  ·rw [List.map_map]
   have : ((fun x : List Key × V => x.1) ∘ fun kv : List Key × V => if kv.1 = kk (k3 t) then (kv.1, V.int (coef ts (k3 t) + t.2.2)) else kv) = fun x => x.1 := by
    funext p
    show (if p.1 = kk (k3 t) then (p.1, _) else p).1 = p.1
    split <;> rfl
   rw [this]
   exact h.nd
  ·rename_i hn
   rw [List.map_append, List.nodup_append]
   refine ⟨h.nd, by simp, fun a ha b hb => ?_⟩
   have : b = kk (k3 t) := by simpa using hb
   subst this
   intro e
   subst e
   apply hn
   obtain ⟨p, hp, e⟩ := List.mem_map.mp ha
   exact List.any_eq_true.mpr ⟨p, hp, by simpa using e⟩
 ·intro p hp
  unfold jO at hp
  split at hp
  ·obtain ⟨q, hq, rfl⟩ := List.mem_map.mp hp
   obtain ⟨k, e⟩ := h.val q hq
   by_cases c : q.1 = kk (k3 t)
   ·rw [if_pos c]
    exact ⟨k3 t, by rw [c, c1]⟩
   ·rw [if_neg c]
    refine ⟨k, ?_⟩
    rw [e, c2 k fun z => c (by rw [e, z])]
  ·rename_i hn
   rcases List.mem_append.mp hp with hp | hp
   ·obtain ⟨k, e⟩ := h.val p hp
    refine ⟨k, ?_⟩
    rw [e, c2 k fun z => hn (List.any_eq_true.mpr ⟨p, hp, by rw [e, z]; simp⟩)]
   ·have : p = (kk (k3 t), V.int (coef ts (k3 t) + t.2.2)) := by simpa using hp
    exact ⟨k3 t, by rw [this, c1]⟩
 ·have keep : ∀ x ∈ kvs.map (·.1), x ∈ (jO kvs (kk (k3 t)) (V.int (coef ts (k3 t) + t.2.2))).map (·.1) := by
   intro x hx
   unfold jO
   split
   ·obtain ⟨p, hp, rfl⟩ := List.mem_map.mp hx
    refine List.mem_map.mpr ⟨_, List.mem_map.mpr ⟨p, hp, rfl⟩, ?_⟩
    show (if p.1 = kk (k3 t) then (p.1, _) else p).1 = p.1
    split <;> rfl
   ·rw [List.map_append]
    exact List.mem_append_left _ hx
  intro u hu
  rcases List.mem_append.mp hu with hu | hu
  ·exact keep _ (h.has u hu)
  ·have : u = t := by simpa using hu
   subst this
   unfold jO
   split
   ·rename_i hy
    obtain ⟨p, hp, e⟩ := List.any_eq_true.mp hy
    have e' : p.1 = kk (k3 u) := by simpa using e
    refine List.mem_map.mpr ⟨_, List.mem_map.mpr ⟨p, hp, rfl⟩, ?_⟩
    show (if p.1 = kk (k3 u) then (p.1, _) else p).1 = _
    rw [if_pos e', e']
   ·rw [List.map_append]
    exact List.mem_append_right _ (by simp)
 ·have := v0 kvs (kk (k3 t)) (V.int (coef ts (k3 t) + t.2.2))
  have := h.len
  rw [List.length_append]
  show _ <= _ + 1
  lia
def zAe (p : List Key × V) : Option T3 := match p with
 | ([.inl i, .inl j], .int n) => if n = 0 then none else some (i, j, n)
 | _ => none
def sel (kvs : qG) : List T3 := kvs.filterMap zAe
theorem vN (k : Int × Int) (n : Int) : zAe (kk k, .int n) = if n = 0 then none else some (k.1, k.2, n) := rfl
theorem zkv {ts : List T3} {kvs : qG} (h : TabIs ts kvs) (t : T3) : t ∈ sel kvs ↔ t.2.2 ≠ 0 /\ t.2.2 = coef ts (k3 t) := by
 unfold sel
 rw [List.mem_filterMap]
 constructor
 ·rintro ⟨p, hp, e⟩
  obtain ⟨k, rfl⟩ := h.val p hp
  rw [vN] at e
  by_cases c : coef ts k = 0
  ·rw [if_pos c] at e; cases e
  ·rw [if_neg c] at e
   cases e
   exact ⟨c, rfl⟩
 ·rintro ⟨c, e⟩
  have : ∃ u ∈ ts, k3 u = k3 t := by
   refine Classical.byContradiction fun hn => c ?_
   rw [e]
   exact wQ fun u hu z => hn ⟨u, hu, z⟩
  obtain ⟨u, hu, eu⟩ := this
  obtain ⟨p, hp, e2⟩ := List.mem_map.mp (h.has u hu)
  obtain ⟨k, rfl⟩ := h.val p hp
  have ek : k = k3 t := by rw [<- eu]; exact zjz e2
  refine ⟨_, hp, ?_⟩
  rw [vN, ek, <- e, if_neg c]
  rfl
theorem zhh {ts : List T3} {kvs : qG} (h : TabIs ts kvs) : ((sel kvs).map k3).Nodup := by
 have hv := h.val
 have hn := h.nd
 clear h
 induction kvs with
 | nil => simp [sel]
 | cons p kvs ih =>
  rw [List.map_cons, List.nodup_cons] at hn
  have ih' := ih (fun q hq => hv q (List.mem_cons_of_mem _ hq)) hn.2
  obtain ⟨k, rfl⟩ := hv p (List.mem_cons_self ..)
  unfold sel at ih' ⊢
  by_cases c : coef ts k = 0
  ·rw [List.filterMap_cons_none (by rw [vN, if_pos c])]
   exact ih'
  ·rw [List.filterMap_cons_some (by rw [vN, if_neg c]), List.map_cons, List.nodup_cons]
   refine ⟨fun hm => hn.1 ?_, ih'⟩
   obtain ⟨t, ht, e⟩ := List.mem_map.mp hm
   obtain ⟨q, hq, eq⟩ := List.mem_filterMap.mp ht
   obtain ⟨k', rfl⟩ := hv q (List.mem_cons_of_mem _ hq)
   rw [vN] at eq
   by_cases c' : coef ts k' = 0
   ·rw [if_pos c'] at eq; cases eq
   ·rw [if_neg c'] at eq
    cases eq
    have : k' = k := e
    subst this
    exact List.mem_map.mpr ⟨_, hq, rfl⟩
theorem zez {ts : List T3} {kvs : qG} (h : TabIs ts kvs) : (sel kvs).length <= ts.length := Nat.le_trans (List.length_filterMap_le ..) h.len
def l3 (t : T3) : List Int := [t.1, t.2.1, t.2.2]
def u3 (l : List Int) : T3 := (l.getD 0 0, l.getD 1 0, l.getD 2 0)
theorem zvv (t : T3) : u3 (l3 t) = t := rfl
theorem zyx {a b : T3} (h : zbu (l3 a) (l3 b)) (ne : k3 a ≠ k3 b) : kJ a b := by
 unfold zbu l3 at h
 rw [HT.lexLt_cons] at h
 unfold kJ
 by_cases e : b.1 = a.1
 ·rw [if_pos e, HT.lexLt_cons] at h
  by_cases e2 : b.2.1 = a.2.1
  ·exact absurd (show (a.1, a.2.1) = (b.1, b.2.1) by rw [e, e2]) ne
  ·rw [if_neg e2] at h
   have := of_decide_eq_false h
   exact .inr ⟨e.symm, by lia⟩
 ·rw [if_neg e] at h
  have := of_decide_eq_false h
  exact .inl (by lia)
theorem gO {ts : List T3} {kvs : qG} (h : TabIs ts kvs) {kss : List (List Int)} (hp : kss.Perm ((sel kvs).map l3)) (hs : kss.Pairwise zbu) : ∃ L, kss = L.map l3 /\ PolyIs ts L /\ L.length <= ts.length := by
 have e1 : kss.map u3 |>.map l3 |> (· = kss) := by
  rw [List.map_map]
  have : ∀ x ∈ kss, (l3 ∘ u3) x = x := fun x hx => by
   obtain ⟨t, _, rfl⟩ := List.mem_map.mp (hp.mem_iff.mp hx)
   show l3 (u3 (l3 t)) = l3 t
   rw [zvv]
  exact (List.map_congr_left this).trans (List.map_id _)
 have pm : (kss.map u3).Perm (sel kvs) := by
  have := hp.map u3
  rw [List.map_map] at this
  have e2 : (sel kvs).map (u3 ∘ l3) = sel kvs := (List.map_congr_left fun t _ => zvv t).trans (List.map_id _)
  rw [e2] at this
  exact this
 refine ⟨kss.map u3, e1.symm, ⟨?_, fun t => by rw [pm.mem_iff, zkv h]⟩, by rw [pm.length_eq]; exact zez h⟩
 have nd : ((kss.map u3).map k3).Nodup := (pm.map k3).nodup_iff.mpr (zhh h)
 have nd2 : (kss.map u3).Pairwise fun a b => k3 a ≠ k3 b := List.pairwise_map.mp nd
 have s2 : (kss.map u3).Pairwise fun a b => zbu (l3 a) (l3 b) := by
  rw [<- e1] at hs
  exact List.pairwise_map.mp hs
 exact (s2.and nd2).imp fun ⟨x, y⟩ => zyx x y
def TermAt (H : Hp) (v : V) (t : T3) : Prop := ∃ a, v = .ref a /\ H a = some (.tup [.int t.1, .int t.2.1, .int t.2.2])
theorem TermAt.same {H H' : Hp} {v : V} {t : T3} (h : TermAt H v t) (e : Same H H') : TermAt H' v t := let ⟨a, h1, h2⟩ := h; ⟨a, h1, e _ _ h2⟩
theorem yY {H H' : Hp} {xs : List V} {ts : List T3} (h : Paired (TermAt H) xs ts) (e : Same H H') : Paired (TermAt H') xs ts := L2.Paired.mapP h fun _ _ q => q.same e
theorem Same.put {H H2 : Hp} {p : Addr} {o : HO} (s : Same H H2) (h : H p = none) : Same H (upd H2 p o) := fun b u e => by rw [zW (zV e h)]; exact s b u e
structure PolyAt (H : Hp) (v : V) (L : List T3) : Prop where
 ex : ∃ c rs, v = .ref c /\ H c = some (.tup rs) /\ Paired (TermAt H) rs L
theorem zDa {H : Hp} {b : Addr} {k : Int × Int} (h : H b = some (.tup ((kk k).map kV))) : H b = some (.tup [.int k.1, .int k.2]) := h
structure TxP (mg : Str -> Option Value) : Prop where
 isi : mg "isinstance" = none
 int : mg "int" = none
 bool : mg "bool" = none
 len : mg "len" = none
 tuple : mg "tuple" = none
 list : mg "list" = none
 range : mg "range" = none
 sorted : mg "sorted" = none
theorem Txt.p {K : W.Frag} {mg : Str -> Option Value} (T : Txt K mg) : TxP mg := ⟨T.isi, T.int, T.bool, T.len, T.tuple, T.list, T.range, T.sorted⟩
def TermK (K : W.Frag) (H : Hp) (v : V) (t : T3) : Prop := ∃ a, v = .ref a /\ SqT K H a [.int t.1, .int t.2.1, .int t.2.2]
theorem TermAt.K {K : W.Frag} {H : Hp} {v : V} {t : T3} (h : TermAt H v t) : TermK K H v t := let ⟨a, h1, h2⟩ := h; ⟨a, h1, SqT.of h2⟩
theorem TermK.same {K : W.Frag} {H H' : Hp} {v : V} {t : T3} (h : TermK K H v t) (e : Same H H') : TermK K H' v t := let ⟨a, h1, h2⟩ := h; ⟨a, h1, sqT e h2⟩
theorem zrg {K : W.Frag} {H : Hp} {xs : List V} {ts : List T3} (h : Paired (TermAt H) xs ts) : Paired (TermK K H) xs ts := L2.Paired.mapP h fun _ _ q => q.K
theorem vY {K : W.Frag} {H H' : Hp} {xs : List V} {ts : List T3} (h : Paired (TermK K H) xs ts) (e : Same H H') : Paired (TermK K H') xs ts := L2.Paired.mapP h fun _ _ q => q.same e
structure PolyK (K : W.Frag) (H : Hp) (v : V) (L : List T3) : Prop where
 ex : ∃ c rs, v = .ref c /\ SqT K H c rs /\ Paired (TermK K H) rs L
theorem PolyAt.K {K : W.Frag} {H : Hp} {v : V} {L : List T3} (h : PolyAt H v L) : PolyK K H v L := by
 obtain ⟨c, rs, h1, h2, h3⟩ := h.ex
 exact ⟨c, rs, h1, SqT.of h2, zrg h3⟩
theorem PolyK.same {K : W.Frag} {H H' : Hp} {v : V} {L : List T3} (h : PolyK K H v L) (e : Same H H') : PolyK K H' v L := by
 obtain ⟨c, rs, h1, h2, h3⟩ := h.ex
 exact ⟨c, rs, h1, sqT e h2, vY h3 e⟩
theorem zio {K : W.Frag} {H : Hp} {a b : Addr} {t : T3} (h1 : SqT K H a [.int t.1, .int t.2.1, .int t.2.2]) (h2 : SqT K H b [.int t.1, .int t.2.1, .int t.2.2]) : SameD K H 1 (.ref a) (.ref b) := by
 refine .tup h1 h2 rfl fun i u v e1 e2 => ?_
 rw [e1] at e2
 cases e2
 match i with
 | 0 => simp at e1; rw [<- e1]; exact .flat rfl
 | 1 => simp at e1; rw [<- e1]; exact .flat rfl
 | 2 => simp at e1; rw [<- e1]; exact .flat rfl
 | j + 3 => simp at e1
theorem zbc {K : W.Frag} {H : Hp} {v u : V} {L : List T3} (h1 : PolyK K H v L) (h2 : PolyK K H u L) {Q : VK} {out : Bool} (q : Q (.bl out) H) : zbe K out v u H Q := by
 obtain ⟨c, rs, rfl, c1, t1⟩ := h1.ex
 obtain ⟨c', rs', rfl, c2, t2⟩ := h2.ex
 have l1 := Paired.length t1
 have l2 := Paired.length t2
 refine ⟨c, c', _, _, 1, rfl, rfl, .inl ⟨c1, c2⟩, by lia, by decide, fun j x y f1 f2 => ?_, q⟩
 obtain ⟨p1, g1, a1, rfl, b1⟩ := Paired.at t1 f1
 obtain ⟨p2, g2, a2, rfl, b2⟩ := Paired.at t2 f2
 rw [g1] at g2
 cases g2
 exact zio b1 b2
def Bd (ts : List T3) : Prop := ∀ t ∈ ts, 0 <= t.1 /\ 0 <= t.2.1 /\ t.1 + t.2.1 <= 9
def cd (i j : Int) : Int := if j <= 4 then i * 5 + j else (10 - i) * 5 + (9 - j)
theorem zAc {i j k l : Int} (h1 : 0 <= i /\ 0 <= j /\ i + j <= 9) (h2 : 0 <= k /\ 0 <= l /\ k + l <= 9) (e : cd i j = cd k l) : i = k /\ j = l := by
 unfold cd at e
 split at e <;> split at e <;> lia
theorem zCi {i j : Int} (h1 : 0 <= i /\ 0 <= j /\ i + j <= 9) : 0 <= cd i j /\ cd i j < 55 := by
 unfold cd
 split <;> lia
theorem ztd {ts : List T3} {kvs : qG} (tab : TabIs ts kvs) {t : T3} (ht : t ∈ sel kvs) : ∃ u ∈ ts, u.1 = t.1 /\ u.2.1 = t.2.1 := by
 obtain ⟨h1, h2⟩ := (zkv tab t).mp ht
 by_cases c : ∃ u ∈ ts, k3 u = k3 t
 ·obtain ⟨u, hu, e⟩ := c
  have e1 : (k3 u).1 = (k3 t).1 := by rw [e]
  have e2 : (k3 u).2 = (k3 t).2 := by rw [e]
  exact ⟨u, hu, e1, e2⟩
 ·exact absurd (h2.trans (wQ fun u hu e => c ⟨u, hu, e⟩)) h1
theorem zte {ts : List T3} {kvs : qG} (tab : TabIs ts kvs) (g : T3 -> Int) (hg : ∀ t ∈ sel kvs, 0 <= g t /\ g t < 55) (hi : ∀ t ∈ sel kvs, ∀ u ∈ sel kvs, g t = g u -> k3 t = k3 u) : (sel kvs).length < 64 := by
 have nd : ((sel kvs).map g).Nodup := List.pairwise_map.mpr ((List.pairwise_map.mp (zhh tab)).imp_of_mem fun {x y} hx hy hne e => hne (hi x hx y hy e))
 have l := zjv (n := 55) (by decide) nd fun i h => by
  obtain ⟨t, ht, rfl⟩ := List.mem_map.mp h
  exact hg t ht
 rw [List.length_map] at l
 lia
theorem zdm {ts : List T3} {kvs : qG} (tab : TabIs ts kvs) (b : Bd ts) : (sel kvs).length < 64 := by
 have bd : Bd (sel kvs) := fun t ht => by
  obtain ⟨u, hu, e1, e2⟩ := ztd tab ht
  have := b u hu
  rw [e1, e2] at this
  exact this
 exact zte tab (fun t => cd t.1 t.2.1) (fun t ht => zCi (bd t ht)) fun t ht u hu e => by
  obtain ⟨a, c⟩ := zAc (bd t ht) (bd u hu) e
  exact Prod.ext a c
theorem zfi {n : Nat} (h : n < 100000) : n < sizeLine := Nat.lt_of_lt_of_le h (by decide)
def zjs (K : W.Frag) : Sp := fun vs H Q _ => ∃ (k : Kd) (a : Addr) (rs : List V) (ts : List T3), vs = [.ref a] /\ SqK k K H a rs /\ Paired (TermK K H) rs ts /\ ts.length < 100000 /\ Bd ts /\
 ∀ v L H', Same H H' -> PolyIs ts L -> L.length <= ts.length -> PolyAt H' v L -> Q v H'
theorem zhg {kvs : qG} {i : Nat} {p : List Key × V} (e : kvs[i]? = some p) : sel (kvs.take (i + 1)) = sel (kvs.take i) ++ (zAe p).toList := by
 unfold sel
 rw [zS e, List.filterMap_append]
 congr 1
section
variable {P : Program} {w : World} {K : W.Frag} {mg : Str -> Option Value} {base : Heap}
theorem scGath : zJ ["terms", "times_of", "i", "j", "times"] ["terms"] (zB zgc) := ⟨rfl, rfl, rfl, by decide +kernel, rfl, by decide +kernel, by decide +kernel⟩
theorem ndG : (["key", "times"] : List Str).Nodup := by decide +kernel
theorem zzz (T : TxP mg) (S : Src K mg "gathered" zgc ["terms"]) : Def P w K mg base 1 "gathered" ["terms"] (zjs K) := by
 refine S.def scGath (fun vs H Q E h => ?_) (fun f cdv A outer s H vs Q E hr h => ?_)
 ·obtain ⟨_, _, _, _, rfl, _⟩ := h; rfl
 ·obtain ⟨k, a, rs, ts, rfl, hq, ht, h64, bd, q⟩ := h
  have rl : rs.length = ts.length := Paired.length ht
  refine ⟨_, zE (zT (i := 1) scGath.nd rfl (Or.inl rfl) zhl)
   (zE (wX PassesOwn.never rfl (yT K k (pv 0)) (xQ K 3 rfl (zU (zM (i := 2) scGath.nd rfl (Or.inl rfl)) (zU (zM (i := 3) scGath.nd rfl (Or.inl rfl)) (zU (zM (i := 4) scGath.nd rfl (Or.inl rfl)) xP))))
    (zF (zlf (zom hr) (pv 1) (y9 (zA (pv 2) (zA (pv 3) zD))) (yB xH (zhm (zom hr) (pv 1) (y9 (zA (pv 2) (zA (pv 3) zD))) zG ⟨rfl, rfl, rfl, rfl⟩) (pv 4)) rfl)))
   (zF (zK (yA (yX K) rfl T.tuple yL (zA (zO jX (by rfl) T.sorted y6 (zA (xI (N' := ["key", "times"]) (fr := [none, none]) (yM (by rfl)) rfl (zdr (zgf PySem.F.plainAttrs_dict PySem.F.slot_dict_items PySem.F.type_dict_items zhp (pv 1)))
    (g := zls K 2 (wW (yR 0) (wW (yR 1) zou))) (fun _ _ _ _ => xQ K 2 rfl (zU (zM (i := 0) ndG rfl (Or.inl rfl) (Or.inr rfl)) (zU (zM (i := 1) ndG rfl (Or.inl rfl) (Or.inr rfl)) xP)))
    (fun _ _ _ _ => qB (zX zbj (pv 1) zG (yF _)))
    (fun _ _ _ _ => y9 (zA (yD (r := zfc K) (zQ K) (pv 0) zG (fun _ _ => rfl)) (zA (yD (r := zfc K) (zQ K) (pv 0) zG (fun _ _ => rfl)) (zA (pv 1) zD))))) zD)) zD))))), ?_⟩
  intro d hd
  have s1 := Same.new (o := HO.dT []) hd
  have hd1 : (upd H d (.dT [])) d = some (.dT []) := zC
  generalize upd H d (.dT []) = H1 at s1 hd1 ⊢
  refine ⟨_, rfl, a, rfl, ⟨rs, s1.seqK hq⟩, kY (k := k) (K := K) (a := a) (xs := rs) (fun i σ H' => (∃ u v r, σ = [some (.ref a), some (.ref d), u, v, r]) /\ Same H H' /\ ∃ kvs, H' d = some (.dT kvs) /\ TabIs (ts.take i) kvs)
   ⟨⟨_, _, _, rfl⟩, s1, [], hd1, TabIs.nil⟩ (fun i σ H' _ z => z.2.1.seqK hq) ?_ ?_⟩
  ·rintro i x σ H2 hx ⟨⟨u, v, r, rfl⟩, sm, kvs, hk, tab⟩
   obtain ⟨t, e1, b, rfl, hb⟩ := Paired.at ht hx
   refine ⟨b, _, rfl, sqT sm hb, rfl, _, _, rfl, _, _, rfl, _, _, rfl, rfl, ?_⟩
   have kl : kvs.length < 100000 := by
    have := tab.len
    rw [List.length_take] at this
    lia
   refine ⟨_, rfl, d, rfl, .inr ⟨_, .inl hk⟩, _, rfl, _, rfl, by show 2 <= sizeLine; decide, fun c hc => ?_⟩
   have s3 := Same.new (o := HO.tup [.int t.1, .int t.2.1]) hc
   have hc3 : (upd H2 c (.tup [.int t.1, .int t.2.1])) c = some (.tup ((kk (k3 t)).map kV)) := zC
   have hk3 := s3 _ _ hk
   have sm3 := sm.trans s3
   generalize upd H2 c (.tup [.int t.1, .int t.2.1]) = H3 at s3 hc3 hk3 sm3 ⊢
   refine ⟨_, DGet.t hk3 hc3, ?_⟩
   rw [tab.at]
   refine ⟨_, rfl, _, _, rfl, rfl, _, rfl, _, rfl, _, rfl, by show 2 <= sizeLine; decide, fun c2 hc2 => ?_⟩
   have s4 := Same.new (o := HO.tup [.int t.1, .int t.2.1]) hc2
   have hc4 : (upd H3 c2 (.tup [.int t.1, .int t.2.1])) c2 = some (.tup ((kk (k3 t)).map kV)) := zC
   have hk4 := s4 _ _ hk3
   have sm4 := sm3.trans s4
   generalize upd H3 c2 (.tup [.int t.1, .int t.2.1]) = H4 at s4 hc4 hk4 sm4 ⊢
   refine ⟨d, _, rfl, DPut.t hk4 hc4 (zfi kl), ⟨_, _, _, rfl⟩, Same.put sm4 hd, _, zC, ?_⟩
   rw [zS e1]
   exact tab.put t
  ·rintro σ H2 ⟨⟨u, v, r, rfl⟩, sm, kvs, hk, tab⟩
   rw [rl, List.take_length] at tab
   have kl : kvs.length < 100000 := Nat.lt_of_le_of_lt tab.len h64
   refine ⟨_, rfl, .inr (.inr (.inl ⟨rfl, .inr ⟨_, hk⟩⟩)), d, kvs, rfl, rfl, hk, fun vw hvw => ?_⟩
   have s3 := Same.new (o := jM vw d) hvw
   refine ⟨vw, d, kvs, rfl, zC, s3 _ _ hk, fun o => ?_⟩
   have hf : (upd (upd H2 vw (jM vw d)) d (.frz o (.dT kvs))) d = some (.frz o (.dT kvs)) := zC
   have sm3 : Same H (upd (upd H2 vw (jM vw d)) d (.frz o (.dT kvs))) := Same.put (sm.trans s3) hd
   generalize upd (upd H2 vw (jM vw d)) d (.frz o (.dT kvs)) = H3 at hf sm3 ⊢
   refine zma (fun σ => ∃ u v, σ = [u, v]) (fun i ys H' => Same H3 H' /\ Paired (TermAt H') ys (sel (kvs.take i))) ⟨_, _, rfl⟩ ⟨Same.refl _, .nil⟩ (zfi kl) (fun i ys H' z => z.1 _ _ hf) ?_ ?_
   ·rintro i Tp b key vv ys σ H4 N ek hT hb ⟨u, v, rfl⟩ ⟨sm4, hy⟩ hN
    obtain ⟨k2, e2⟩ := tab.val _ (List.mem_of_getElem? ek)
    injection e2 with e3 e4
    subst e3 e4
    have s5 := Same.new (o := HO.tup [.ref b, .int (coef ts k2)]) hT
    have hT5 : (upd H4 Tp (.tup [.ref b, .int (coef ts k2)])) Tp = some (.tup [.ref b, .int (coef ts k2)]) := zC
    have hb5 := zDa (s5 _ _ hb)
    have sm5 := sm4.trans s5
    have hy5 := yY hy s5
    generalize upd H4 Tp (.tup [.ref b, .int (coef ts k2)]) = H5 at s5 hT5 hb5 sm5 hy5 ⊢
    refine ⟨Tp, _, rfl, SqT.of hT5, rfl, _, _, rfl, _, _, rfl, rfl, ?_⟩
    dsimp only [yR, List.set]
    refine ⟨_, rfl, rfl, _, rfl, ?_⟩
    have e5 := zhg ek
    rw [vN] at e5
    by_cases c : coef ts k2 = 0
    ·rw [decide_eq_true (show V.int (coef ts k2) = V.int 0 by rw [c])]
     rw [if_pos c, Option.toList_none, List.append_nil] at e5
     refine xD (hN _ _ _ ⟨_, _, rfl⟩ ⟨sm5, ?_⟩ (by lia))
     rw [e5]
     exact hy5
    ·rw [decide_eq_false (show ¬ V.int (coef ts k2) = V.int 0 from fun z => c (by injection z))]
     rw [if_neg c, Option.toList_some] at e5
     have j0 : atI ([.int k2.1, .int k2.2] : List V) 0 = some (.int k2.1) := zR (j := 0) rfl
     have j1 : atI ([.int k2.1, .int k2.2] : List V) 1 = some (.int k2.2) := zR (j := 1) rfl
     refine jH ⟨_, rfl, b, _, _, _, rfl, rfl, SqT.of hb5, j0, _, rfl, b, _, _, _, rfl, rfl, SqT.of hb5, j1, _, rfl, by show 3 <= sizeLine; decide, fun c2 hc2 => ?_⟩
     have s6 := Same.new (o := HO.tup [.int k2.1, .int k2.2, .int (coef ts k2)]) hc2
     refine hN _ _ _ ⟨_, _, rfl⟩ ⟨sm5.trans s6, ?_⟩ (by simp)
     rw [e5]
     exact L2.Paired.snoc (yY hy5 s6) ⟨c2, rfl, zC⟩
   ·rintro ys H4 ⟨sm4, hy⟩ l hl
    rw [List.take_length] at hy
    have s5 := Same.new (o := HO.lst ys) hl
    have hl5 : (upd H4 l (.lst ys)) l = some (.lst ys) := zC
    have hy5 := yY hy s5
    have sm5 := sm4.trans s5
    generalize upd H4 l (.lst ys) = H5 at s5 hl5 hy5 sm5 ⊢
    have yl : ys.length = (sel kvs).length := Paired.length hy
    have sl := zez tab
    have ss := zdm tab bd
    have py : Paired (IntsAt H5) ys ((sel kvs).map l3) := by
     have : ∀ {ys : List V} {us : List T3}, Paired (TermAt H5) ys us -> Paired (IntsAt H5) ys (us.map l3) := by
      intro ys us h
      induction h with
      | nil => exact .nil
      | cons r _ ih => exact .cons (let ⟨a, e1, e2⟩ := r; ⟨a, e1, e2⟩) ih
     exact this hy5
    refine ⟨l, ys, _, rfl, SqL.of hl5, by lia, py, fun ks hks => ?_, fun l2 rs' kss' p1 p2 p3 hl2 => ?_⟩
    ·obtain ⟨t, _, rfl⟩ := List.mem_map.mp hks
     intro z
     cases z
    ·obtain ⟨L, rfl, pL, ll⟩ := gO tab p2 p3
     have s6 := Same.new (o := HO.lst rs') hl2
     refine ⟨l2, rs', rfl, .inl ⟨SqL.of zC, fun c hc => ?_⟩⟩
     have s7 := Same.new (o := HO.tup rs') hc
     have pt : Paired (TermAt H5) rs' L := by
      have : ∀ {rs : List V} {us : List T3}, Paired (IntsAt H5) rs (us.map l3) -> Paired (TermAt H5) rs us := by
       intro rs us
       induction us generalizing rs with
       | nil => intro h; cases h; exact .nil
       | cons t us ih =>
        intro h
        rw [List.map_cons] at h
        cases h with
        | cons r t => exact .cons (let ⟨a, e1, e2⟩ := r; ⟨a, e1, e2⟩) (ih t)
      exact this p1
     exact q _ L _ ((sm3.trans sm5).trans (s6.trans s7)) pL ll ⟨c, rs', rfl, zC, yY pt (s6.trans s7)⟩
end
theorem zbk : ∀ {U : List T3}, (U.map k3).Nodup -> ∀ t ∈ U, coef U (k3 t) = t.2.2
 | [], _, t, h => nomatch h
 | a :: U, nd, t, h => by
  rw [List.map_cons, List.nodup_cons] at nd
  rw [yG]
  rcases List.mem_cons.mp h with rfl | h
  ·rw [if_pos rfl, wQ fun u hu e => nd.1 (List.mem_map.mpr ⟨u, hu, e⟩)]
   lia
  ·rw [if_neg (fun e => nd.1 (List.mem_map.mpr ⟨t, h, e.symm⟩)), zbk nd.2 t h]
   lia
theorem zpb {L : List T3} (h : L.Pairwise kJ) : (L.map k3).Nodup := by
 refine List.pairwise_map.mpr (h.imp fun {a b} x e => ?_)
 obtain ⟨e1, e2⟩ := Prod.mk.inj (show (a.1, a.2.1) = (b.1, b.2.1) from e)
 unfold kJ at x
 lia
theorem PolyIs.coef {ts L : List T3} (h : PolyIs ts L) (k : Int × Int) : My.coef L k = My.coef ts k := by
 by_cases c : My.coef ts k = 0
 ·rw [c]
  refine wQ fun t ht e => ?_
  obtain ⟨a, b⟩ := (h.mem t).mp ht
  rw [e, c] at b
  exact a b
 ·have hm : (k.1, k.2, My.coef ts k) ∈ L := (h.mem _).mpr ⟨c, rfl⟩
  exact zbk (zpb h.up) _ hm
def zdu (t u : T3) : T3 := (t.1 + u.1, t.2.1 + u.2.1, t.2.2 * u.2.2)
def vG (ts us : List T3) : List T3 := ts.flatMap fun t => us.map (zdu t)
theorem zdp (ts us : List T3) : (vG ts us).length = ts.length * us.length := by
 unfold vG
 induction ts with
 | nil => simp
 | cons t ts ih => rw [List.flatMap_cons, List.length_append, ih, List.length_map, List.length_cons, Nat.add_mul, Nat.one_mul, Nat.add_comm]
theorem zmp {H : Hp} {l : Addr} {ys zs : List V} {xs : List V} {ts : List T3} (h : Paired (TermAt H) xs ts) (hl : H l = some (.lst ys)) : Paired (TermAt (upd H l (.lst zs))) xs ts := L2.Paired.mapP h fun _ _ ⟨a, h1, h2⟩ => ⟨a, h1, by
 rw [zW (zok h2 hl (fun z => nomatch z))]
 exact h2⟩
theorem zbi {α β : Type} {F : α -> β -> Prop} {l₁ : List α} {l₂ : List β} {m₁ : List α} {m₂ : List β} (h : Paired F l₁ l₂) (h2 : Paired F m₁ m₂) : Paired F (l₁ ++ m₁) (l₂ ++ m₂) := by
 induction h with
 | nil => exact h2
 | cons r _ ih => exact .cons r ih
def zfq (K : W.Frag) : Sp := fun vs H Q _ => ∃ (v u : V) (ts us : List T3), vs = [v, u] /\ PolyK K H v ts /\ PolyK K H u us /\ ts.length * us.length < 100000 /\ us.length < 100000 /\ (∀ t ∈ ts, ∀ r ∈ us, IntMulOk t.2.2 r.2.2) /\ Bd (vG ts us) /\
 ∀ x L H', Same H H' -> PolyIs (vG ts us) L -> L.length <= (vG ts us).length -> PolyAt H' x L -> Q x H'
section
variable {P : Program} {w : World} {K : W.Frag} {mg : Str -> Option Value} {base : Heap}
theorem scProd : zJ ["one", "other", "terms", "i", "j", "times"] ["one", "other"] (zB zfw) := ⟨rfl, rfl, rfl, by decide +kernel, rfl, by decide +kernel, by decide +kernel⟩
theorem zEu : (["term", "i", "j", "times"] : List Str).Nodup := by decide +kernel
theorem zzt (S : Src K mg "product_of" zfw ["one", "other"]) (DG : Def P w K mg base 1 "gathered" ["terms"] (zjs K)) : Def P w K mg base 2 "product_of" ["one", "other"] (zfq K) := by
 refine S.def scProd (fun vs H Q E h => ?_) (fun f cdv A outer s H vs Q E hr h => ?_)
 ·obtain ⟨_, _, _, _, rfl, _⟩ := h; rfl
 ·obtain ⟨v, u, ts, us, rfl, pv', pu', hl, hl2, hm, bd, q⟩ := h
  have hr1 : Room 1 _ := hr.mono (by decide)
  obtain ⟨c, rs, rfl, hc, ht⟩ := pv'.ex
  obtain ⟨d, rs2, rfl, hd, ht2⟩ := pu'.ex
  have l1 := Paired.length ht
  have l2 := Paired.length ht2
  refine ⟨_, zE (zT (i := 2) scProd.nd rfl (Or.inl rfl) (jD zD))
   (zE (wX PassesOwn.never rfl (yT K .t (pv 0)) (xQ K 3 rfl (zU (zM (i := 3) scProd.nd rfl (Or.inr rfl)) (zU (zM (i := 4) scProd.nd rfl (Or.inr rfl)) (zU (zM (i := 5) scProd.nd rfl (Or.inr rfl)) xP))))
    (zF (wZ (zoi PySem.F.plainAttrs_list PySem.F.slot_list_extend PySem.F.type_list_extend zng (pv 2) (zA (xI (N' := ["term", "i", "j", "times"]) (fr := [none, some 3, some 4, some 5]) (yM (by rfl)) rfl (yT K .t (pv 1))
     (fun _ _ _ _ => zM (i := 0) zEu rfl (Or.inl rfl) (Or.inr rfl)) (fun _ _ _ _ => xG)
     (fun _ _ _ _ => y9 (zA (yB xH (pv 1) (yD (r := zfc K) (zQ K) (pv 0) zG (fun _ _ => rfl))) (zA (yB xH (pv 2) (yD (r := zfc K) (zQ K) (pv 0) zG (fun _ _ => rfl))) (zA (yB ztt (pv 3) (yD (r := zfc K) (zQ K) (pv 0) zG (fun _ _ => rfl))) zD))))) zD)))))
   (zF (zK (zP DG hr1 rfl (zA (pv 2) zD))))), ?_⟩
  refine ⟨by show 0 <= sizeLine; decide, fun l hlN => ?_⟩
  have s1 := Same.new (o := HO.lst []) hlN
  refine ⟨_, rfl, c, rfl, ⟨rs, sqT s1 hc⟩, kY (k := .t) (K := K) (a := c) (xs := rs) (fun i σ H' => (∃ a b e, σ = [some (.ref c), some (.ref d), some (.ref l), a, b, e]) /\ Same H H' /\ ∃ zs, H' l = some (.lst zs) /\ Paired (TermAt H') zs (vG (ts.take i) us))
   ⟨⟨_, _, _, rfl⟩, s1, [], zC, .nil⟩ (fun i σ H' _ z => sqT z.2.1 hc) ?_ ?_⟩
  ·rintro i x σ H2 hx ⟨⟨a, b, e, rfl⟩, sm, zs, hz, pz⟩
   obtain ⟨t, et, b1, rfl, hb⟩ := Paired.at ht hx
   have tin := List.mem_of_getElem? et
   refine ⟨b1, _, rfl, sqT sm hb, rfl, _, _, rfl, _, _, rfl, _, _, rfl, rfl, ?_⟩
   dsimp only [List.set]
   refine ⟨_, rfl, .inl ⟨rfl, _, SqL.of hz⟩, _, rfl, d, rfl, ⟨_, sqT sm hd⟩, ?_⟩
   refine yZ (k := .t) (a := d) (xs := rs2) (fun σ => ∃ v, σ = [v, some (.int t.1), some (.int t.2.1), some (.int t.2.2)]) (fun j ys H3 => Same H2 H3 /\ Paired (TermAt H3) ys ((us.take j).map (zdu t))) ⟨_, rfl⟩ ⟨Same.refl _, .nil⟩ (zfi (by lia)) (fun j ys H3 _ z => sqT z.1 (sqT sm hd)) ?_ ?_
   ·rintro j x ys σ H3 N hx3 ⟨u3, rfl⟩ ⟨sm3, py⟩ hN
    obtain ⟨r, er, b3, rfl, hb3⟩ := Paired.at ht2 hx3
    have rin := List.mem_of_getElem? er
    have hb3' := sqT sm3 (sqT sm hb3)
    have i0 : atI ([.int r.1, .int r.2.1, .int r.2.2] : List V) 0 = some (.int r.1) := zR (j := 0) rfl
    have i1 : atI ([.int r.1, .int r.2.1, .int r.2.2] : List V) 1 = some (.int r.2.1) := zR (j := 1) rfl
    have i2 : atI ([.int r.1, .int r.2.1, .int r.2.2] : List V) 2 = some (.int r.2.2) := zR (j := 2) rfl
    dsimp only [yR, List.set]
    refine zdi ?_
    refine ⟨_, rfl, _, rfl, b3, _, _, _, rfl, rfl, hb3', i0, _, _, rfl, rfl, _, rfl, _, rfl, b3, _, _, _, rfl, rfl, hb3', i1, _, _, rfl, rfl, _, rfl, _, rfl, b3, _, _, _, rfl, rfl, hb3', i2, _, _, rfl, rfl, hm t tin r rin, by show 3 <= sizeLine; decide, fun p4 hp4 => ?_⟩
    refine hN _ _ _ ⟨_, rfl⟩ ⟨sm3.trans (Same.new hp4), ?_⟩ (by simp)
    rw [zS er, List.map_append]
    exact L2.Paired.snoc (yY py (Same.new hp4)) ⟨p4, rfl, zC⟩
   ·rintro ys H3 ⟨sm3, py⟩ p4 hp4
    rw [l2, List.take_length] at py
    have s4 := Same.new (o := HO.lst ys) hp4
    have ex : vG (ts.take (i + 1)) us = vG (ts.take i) us ++ us.map (zdu t) := by
     unfold vG
     rw [zS et, List.flatMap_append]
     simp
    have ll : (vG (ts.take (i + 1)) us).length <= ts.length * us.length := by
     rw [zdp]
     exact Nat.mul_le_mul_right _ (by rw [List.length_take]; lia)
    rw [ex, List.length_append] at ll
    have z1 := Paired.length pz
    have z2 := Paired.length py
    have hz4 := s4 _ _ (sm3 _ _ hz)
    refine ⟨l, p4, zs, ys, rfl, rfl, hz4, zC, Nat.le_of_lt (zfi (by lia)), ?_⟩
    refine ⟨⟨_, _, _, rfl⟩, My.Same.put ((sm.trans sm3).trans s4) hlN, zs ++ ys, zC, ?_⟩
    rw [ex]
    exact zmp (zbi (yY pz (sm3.trans s4)) (yY py s4)) hz4
  ·rintro σ H2 ⟨⟨a, b, e, rfl⟩, sm, zs, hz, pz⟩
   rw [l1, List.take_length] at pz
   refine ⟨_, rfl, .l, l, zs, vG ts us, rfl, SqL.of hz, zrg pz, by rw [zdp]; exact hl, bd, fun x L H3 s3 pi pl pa => ?_⟩
   exact q x L H3 (sm.trans s3) pi pl pa
end
def Uk (k j : Int) : Int := if j < k then j else j + 1
def Dk (k j : Int) : Int := if j < k then j else j - 1
def dnP (k : Int) (p : List Int) : List Int := (p.filter fun j => decide (j ≠ k)).map (Dk k)
theorem zoq (k i : Int) : Dk k (Uk k i) = i := by unfold Dk Uk; split <;> (try split) <;> lia
theorem zwz (k i : Int) : Uk k i ≠ k := by unfold Uk; split <;> lia
theorem zxa {k j : Int} (h : j ≠ k) : Uk k (Dk k j) = j := by unfold Dk Uk; split <;> (try split) <;> lia
theorem Uk_inj {k i j : Int} : Uk k i = Uk k j ↔ i = j := ⟨fun h => by rw [<- zoq k i, h, zoq], fun h => by rw [h]⟩
theorem Uk_lt {k i j : Int} : Uk k i < Uk k j ↔ i < j := by unfold Uk; split <;> split <;> lia
theorem zCj {k i j : Int} (hi : i ≠ k) (hj : j ≠ k) (h : i < j) : Dk k i < Dk k j := by unfold Dk; split <;> split <;> lia
theorem mem_dn {k i : Int} {p : List Int} : i ∈ dnP k p ↔ Uk k i ∈ p := by
 unfold dnP
 rw [List.mem_map]
 constructor
 ·rintro ⟨j, hj, rfl⟩
  obtain ⟨h1, h2⟩ := List.mem_filter.mp hj
  rw [zxa (of_decide_eq_true h2)]
  exact h1
 ·intro h
  exact ⟨Uk k i, List.mem_filter.mpr ⟨h, decide_eq_true (zwz k i)⟩, zoq k i⟩
theorem zgl {k : Int} {p : List Int} (up : p.Pairwise (· < ·)) : (dnP k p).Pairwise (· < ·) := by
 unfold dnP
 rw [List.pairwise_map]
 refine (up.filter _).imp_of_mem fun {a b} ha hb h => ?_
 exact zCj (of_decide_eq_true (List.mem_filter.mp ha).2) (of_decide_eq_true (List.mem_filter.mp hb).2) h
theorem zst {m : Nat} {k : Int} {p : List Int} (hk : Ks (m + 1) p) (k0 : 0 <= k) (kl : k < ((m + 1 : Nat) : Int)) : Ks m (dnP k p) := fun i hi => by
 have := hk _ (mem_dn.mp hi)
 unfold Uk at this
 split at this <;> lia
theorem zzl {k : Int} {p q : List Int} (up : p.Pairwise (· < ·)) (uq : q.Pairwise (· < ·)) (hk : k ∈ p ↔ k ∈ q) (e : dnP k p = dnP k q) : p = q := by
 refine zdg up uq fun j => ?_
 by_cases c : j = k
 ·rw [c]; exact hk
 ·rw [<- zxa c, <- mem_dn, <- mem_dn, e]
theorem zut {ps ps' : List (Int × Int)} (h8 : ps.length <= 8) (hl : ps'.length + 1 = ps.length) {k : Int} (k0 : 0 <= k) (kl : k < ps.length) (b : Bool) : (((w9 ps).filter fun p => decide (k ∈ p) == b).map (dnP k)).Perm (w9 ps') := by
 have h8' : ps'.length <= 8 := by lia
 have nd : (w9 ps).Nodup := zmg h8
 refine (List.perm_ext_iff_of_nodup ?_ (zmg h8')).mpr fun q => ?_
 ·unfold List.Nodup
  rw [List.pairwise_map]
  refine (nd.filter _).imp_of_mem fun {x y} hx hy ne => fun e => ne ?_
  obtain ⟨x1, x2⟩ := List.mem_filter.mp hx
  obtain ⟨y1, y2⟩ := List.mem_filter.mp hy
  have e1 := eq_of_beq x2
  have e2 := eq_of_beq y2
  refine zzl ((yH h8).mp x1).2 ((yH h8).mp y1).2 ?_ e
  rw [<- e2] at e1
  exact decide_eq_decide.mp e1
 ·rw [List.mem_map]
  constructor
  ·rintro ⟨p, hp, rfl⟩
   obtain ⟨ks, up⟩ := (yH h8).mp (List.mem_filter.mp hp).1
   rw [<- hl] at ks kl
   exact (yH h8').mpr ⟨zst ks k0 kl, zgl up⟩
  ·intro hq
   obtain ⟨ks, uq⟩ := (yH h8').mp hq
   have upx : ((ups ps.length).filter fun j => if j = k then b else decide (Dk k j ∈ q)).Pairwise (· < ·) := (wN _).filter _
   refine ⟨(ups ps.length).filter fun j => if j = k then b else decide (Dk k j ∈ q), List.mem_filter.mpr ⟨(yH h8).mpr ⟨fun j hj => mem_ups.mp (List.mem_filter.mp hj).1, upx⟩, ?_⟩, ?_⟩
   ·cases b with
    | true =>
     rw [decide_eq_true (List.mem_filter.mpr ⟨mem_ups.mpr ⟨k0, kl⟩, by rw [if_pos rfl]⟩)]
     rfl
    | false =>
     rw [decide_eq_false]
     ·rfl
     ·intro z
      have := (List.mem_filter.mp z).2
      rw [if_pos rfl] at this
      cases this
   ·refine zdg (zgl upx) uq fun i => ?_
    rw [mem_dn, List.mem_filter, if_neg (zwz k i), zoq, decide_eq_true_iff, mem_ups]
    refine ⟨fun h => h.2, fun h => ⟨?_, h⟩⟩
    have := ks i h
    unfold Uk
    split <;> lia
theorem zcf : ∀ {p : List Int} {k : Int}, p.Pairwise (· < ·) -> k ∈ p -> (dnP k p).length + 1 = p.length
 | x :: p, k, up, h => by
  obtain ⟨a, b⟩ := List.pairwise_cons.mp up
  unfold dnP
  by_cases c : x = k
  ·rw [List.filter_cons_of_neg (by rw [c]; simp), List.length_map, List.filter_eq_self.mpr, List.length_cons]
   intro y hy
   have := a y hy
   exact decide_eq_true (by lia)
  ·rw [List.filter_cons_of_pos (by exact decide_eq_true c), List.map_cons, List.length_cons, List.length_cons]
   have := zcf b ((List.mem_cons.mp h).resolve_left fun z => c z.symm)
   unfold dnP at this
   lia
theorem v3 {p : List Int} {k : Int} (h : k ∉ p) : (dnP k p).length = p.length := by
 unfold dnP
 rw [List.length_map, List.filter_eq_self.mpr]
 intro y hy
 exact decide_eq_true fun z => h (z ▸ hy)
theorem zrf {ps : List (Int × Int)} {j : Nat} {i : Int} (hj : j < ps.length) (i0 : 0 <= i) (h : i ≠ (j : Int)) : zN (wo ps j) (Dk j i) = zN ps i := by
 obtain ⟨m, rfl⟩ := Int.eq_ofNat_of_zero_le i0
 unfold zN wo Dk
 rw [List.getD_eq_getElem?_getD, List.getD_eq_getElem?_getD]
 congr 1
 split
 ·rw [Int.toNat_natCast, List.getElem?_append_left (by rw [List.length_take]; lia), List.getElem?_take_of_lt (by lia)]
 ·rw [List.getElem?_append_right (by rw [List.length_take]; lia), List.length_take, List.getElem?_drop]
  congr 1
  lia
theorem zse {ps : List (Int × Int)} {j : Nat} (hj : j < ps.length) : ∀ (p hs : List Int), (∀ i ∈ p, 0 <= i) -> ((j : Int) ∈ p -> (zN ps j).1 = (zN ps j).2) -> hdF (wo ps j) hs (dnP j p) = hdF ps hs p
 | [], _, _, _ => rfl
 | x :: p, hs, nn, curl => by
  have ih := fun hs => zse hj p hs (fun i hi => nn i (List.mem_cons_of_mem _ hi)) fun z => curl (List.mem_cons_of_mem _ z)
  unfold dnP at ih ⊢
  by_cases c : x = (j : Int)
  ·rw [List.filter_cons_of_neg (by rw [c]; simp), ih]
   show hdF ps hs p = hdF ps (y7 hs (zN ps x)) p
   rw [c, vE (by rw [curl (by rw [c]; exact List.mem_cons_self)])]
  ·rw [List.filter_cons_of_pos (by exact decide_eq_true c), List.map_cons]
   show hdF (wo ps j) (y7 hs (zN (wo ps j) (Dk j x))) _ = hdF ps (y7 hs (zN ps x)) p
   rw [zrf hj (nn x List.mem_cons_self) c, ih]
theorem zBz {a b x : Int} (h : a < b) : Uk b (mvL a b x) = if x = b then a else x := by unfold mvL Uk; split <;> (try split) <;> (try split) <;> lia
theorem zgh {a b x n : Int} (h : a < b) (a0 : 0 <= a) (bn : b < n) (x0 : 0 <= x) (xn : x < n) : 0 <= mvL a b x /\ mvL a b x < n - 1 := by unfold mvL; split <;> (try split) <;> lia
structure Sim (n a b : Int) (hs hs' : List Int) : Prop where
 len : (hs.length : Int) = n
 len' : (hs'.length : Int) = n - 1
 at' : ∀ x, 0 <= x -> x < n -> at0 hs x = Uk b (at0 hs' (mvL a b x))
theorem zph {n a b : Int} {hs hs' : List Int} (S : Sim n a b hs hs') (h : a < b) (a0 : 0 <= a) (bn : b < n) {p : Int × Int} (hp : InN n p) : Sim n a b (y7 hs p) (y7 hs' (mvL a b p.1, mvL a b p.2)) := by
 obtain ⟨p1, p2, p3, p4⟩ := hp
 have l1 := S.len
 have l2 := S.len'
 refine ⟨by rw [qH]; exact l1, by rw [qH]; exact l2, fun x x0 xn => ?_⟩
 have mx := zgh h a0 bn x0 xn
 unfold y7
 rw [zgo x0 (by lia), zgo mx.1 (by lia), S.at' x x0 xn, S.at' p.1 p1 p2, S.at' p.2 p3 p4]
 dsimp only
 generalize at0 hs' (mvL a b x) = z
 generalize at0 hs' (mvL a b p.1) = u
 generalize at0 hs' (mvL a b p.2) = v
 rcases Int.lt_trichotomy u v with c | c | c
 ·have c' : Uk b u < Uk b v := Uk_lt.mpr c
  rw [if_pos (show Uk b v > Uk b u from c'), if_neg (show ¬ Uk b v < Uk b u by lia), if_pos (show v > u from c), if_neg (show ¬ v < u by lia)]
  by_cases d : z = v
  ·rw [d, if_pos rfl, if_pos rfl]
  ·rw [if_neg d, if_neg fun e => d (Uk_inj.mp e)]
 ·rw [c]
  simp only [ite_self]
  by_cases d : z = v
  ·rw [d, if_pos rfl, if_pos rfl]
  ·rw [if_neg d, if_neg fun e => d (Uk_inj.mp e)]
 ·have c' : Uk b v < Uk b u := Uk_lt.mpr c
  rw [if_neg (show ¬ Uk b v > Uk b u by lia), if_pos c', if_neg (show ¬ v > u by lia), if_pos c]
  by_cases d : z = u
  ·rw [d, if_pos rfl, if_pos rfl]
  ·rw [if_neg d, if_neg fun e => d (Uk_inj.mp e)]
theorem xW (ps : List (Int × Int)) (j : Nat) (p : Int × Int) : (zZ ps j p).length = (wo ps j).length := by unfold zZ; split <;> simp
theorem xU {α : Type} {qs : List α} {j : Nat} (hj : j < qs.length) : (wo qs j).length + 1 = qs.length := by unfold wo; rw [List.length_append, List.length_take, List.length_drop]; lia
theorem hV {α : Type} {qs : List α} {j : Nat} {q : α} (h : q ∈ wo qs j) : q ∈ qs := by
 rcases List.mem_append.mp h with z | z
 ·exact List.mem_of_mem_take z
 ·exact List.mem_of_mem_drop z
theorem znv {ps : List (Int × Int)} {j : Nat} {p : Int × Int} (ne : p.1 ≠ p.2) {i : Int} (hj : j < ps.length) (i0 : 0 <= i) (il : i < ps.length) (h : i ≠ (j : Int)) : zN (zZ ps j p) (Dk j i) = xJ (mvL p.1 p.2 (zN ps i).1, mvL p.1 p.2 (zN ps i).2) := by
 rw [<- zrf hj i0 h]
 unfold zZ
 rw [if_neg ne]
 unfold zN
 have : (Dk j i).toNat < (wo ps j).length := by
  have := xU hj
  unfold Dk
  split <;> lia
 rw [List.getD_eq_getElem?_getD, List.getD_eq_getElem?_getD, List.getElem?_map, List.getElem?_eq_getElem this]
 rfl
theorem zcj {n : Int} {ps : List (Int × Int)} {j : Nat} {p : Int × Int} (hb : ∀ q ∈ ps, InN n q) (hlt : p.1 < p.2) (hp : InN n p) : ∀ q ∈ zZ ps j p, InN (n - 1) q := by
 obtain ⟨p1, p2, p3, p4⟩ := hp
 unfold zZ
 rw [if_neg (by lia)]
 intro q hq
 obtain ⟨r, hr, rfl⟩ := List.mem_map.mp hq
 obtain ⟨r1, r2, r3, r4⟩ := hb r (hV hr)
 have a := zgh hlt p1 p4 r1 r2
 have b := zgh hlt p1 p4 r3 r4
 unfold xJ
 split
 ·exact ⟨a.1, a.2, b.1, b.2⟩
 ·exact ⟨b.1, b.2, a.1, a.2⟩
theorem zro {n : Int} {ps : List (Int × Int)} {j : Nat} {p : Int × Int} (hb : ∀ q ∈ ps, InN n q) (hj : j < ps.length) (hlt : p.1 < p.2) (hp : InN n p) (ep : zN ps j = p) : ∀ (r done : List Int), Ks ps.length (done ++ r) -> (∀ i ∈ done ++ r, i ≠ (j : Int)) ->
  Sim n p.1 p.2 (hdF ps (ups n) ((j : Int) :: done)) (hdF (zZ ps j p) (ups (n - 1)) (done.map (Dk j))) -> cN n ps ((j : Int) :: done) = cN (n - 1) (zZ ps j p) (done.map (Dk j)) -> cN n ps ((j : Int) :: (done ++ r)) = cN (n - 1) (zZ ps j p) ((done ++ r).map (Dk j))
 | [], done, _, _, _, e => by rw [List.append_nil]; exact e
 | i :: r, done, hk, ne, S, e => by
  obtain ⟨p1, p2, p3, p4⟩ := id hp
  have i1 := hk i (List.mem_append_right _ List.mem_cons_self)
  have i2 := ne i (List.mem_append_right _ List.mem_cons_self)
  have kd : Ks ps.length done := fun x hx => hk x (List.mem_append_left _ hx)
  have kj : Ks ps.length ((j : Int) :: done) := fun x hx => by
   rcases List.mem_cons.mp hx with z | z
   ·lia
   ·exact kd x z
  have dl := xW ps j p
  have wl := xU hj
  have kd' : Ks (zZ ps j p).length (done.map (Dk j)) := fun x hx => by
   obtain ⟨y, hy, rfl⟩ := List.mem_map.mp hx
   have y1 := kd y hy
   have y2 := ne y (List.mem_append_left _ hy)
   unfold Dk
   split <;> lia
  have di : 0 <= Dk j i /\ Dk j i < (zZ ps j p).length := by
   unfold Dk
   split <;> lia
  have hin := wJ hb i1.1 i1.2
  have et := znv (p := p) (by lia) hj i1.1 i1.2 i2
  have e1 := zaq (by lia) hb kj i1.1 i1.2
  have e2 := zaq (n := n - 1) (by lia) (zcj (j := j) hb hlt hp) kd' di.1 di.2
  have key : done ++ i :: r = (done ++ [i]) ++ r := by simp
  have S2 : Sim n p.1 p.2 (hdF ps (ups n) ((j : Int) :: (done ++ [i]))) (hdF (zZ ps j p) (ups (n - 1)) ((done ++ [i]).map (Dk j))) := by
   rw [<- List.cons_append, kK, List.map_append, List.map_cons, List.map_nil, kK, et, zaw]
   exact zph S hlt p1 p4 hin
  rw [key] at hk ne ⊢
  refine zro hb hj hlt hp ep r (done ++ [i]) hk ne S2 ?_
  rw [<- List.cons_append, e1, List.map_append, List.map_cons, List.map_nil, e2, e, et]
  congr 1
  have q : (at0 (hdF ps (ups n) ((j : Int) :: done)) (zN ps i).1 = at0 (hdF ps (ups n) ((j : Int) :: done)) (zN ps i).2) ↔
    (at0 (hdF (zZ ps j p) (ups (n - 1)) (done.map (Dk j))) (xJ (mvL p.1 p.2 (zN ps i).1, mvL p.1 p.2 (zN ps i).2)).1 = at0 (hdF (zZ ps j p) (ups (n - 1)) (done.map (Dk j))) (xJ (mvL p.1 p.2 (zN ps i).1, mvL p.1 p.2 (zN ps i).2)).2) := by
   rw [S.at' _ hin.1 hin.2.1, S.at' _ hin.2.2.1 hin.2.2.2, Uk_inj]
   rcases vH (mvL p.1 p.2 (zN ps i).1, mvL p.1 p.2 (zN ps i).2) with ⟨z1, z2⟩ | ⟨z1, z2⟩
   ·rw [z1, z2]
   ·rw [z1, z2]
    exact ⟨Eq.symm, Eq.symm⟩
  by_cases c : at0 (hdF ps (ups n) ((j : Int) :: done)) (zN ps i).1 = at0 (hdF ps (ups n) ((j : Int) :: done)) (zN ps i).2
  ·rw [if_pos c, if_pos (q.mp c)]
  ·rw [if_neg c, if_neg fun z => c (q.mpr z)]
theorem zsg {n : Int} {ps : List (Int × Int)} {j : Nat} {p : Int × Int} {ks : List Int} (n9 : n <= 9) (hb : ∀ q ∈ ps, InN n q) (hj : j < ps.length) (hlt : p.1 < p.2) (ep : zN ps j = p) (hk : Ks ps.length ks) (jk : (j : Int) ∈ ks) : cN n ps ks = cN (n - 1) (zZ ps j p) (dnP j ks) := by
 have hp : InN n p := by rw [<- ep]; exact wJ hb (by lia) (by lia)
 obtain ⟨p1, p2, p3, p4⟩ := id hp
 have hr : Ks ps.length (ks.filter fun i => decide (i ≠ (j : Int))) := fun i hi => hk i (List.mem_filter.mp hi).1
 have e1 : cN n ps ks = cN n ps ((j : Int) :: ks.filter fun i => decide (i ≠ (j : Int))) := by
  refine zkg (by lia) hb hk (fun i hi => ?_) fun i => ?_
  ·rcases List.mem_cons.mp hi with z | z
   ·lia
   ·exact hr i z
  ·rw [List.mem_cons, List.mem_filter, decide_eq_true_iff]
   by_cases c : i = (j : Int)
   ·rw [c]; exact ⟨fun _ => .inl rfl, fun _ => jk⟩
   ·exact ⟨fun h => .inr ⟨h, c⟩, fun h => (h.resolve_left c).1⟩
 rw [e1]
 have go := zro hb hj hlt hp ep (ks.filter fun i => decide (i ≠ (j : Int))) [] hr (fun i hi => of_decide_eq_true (List.mem_filter.mp hi).2)
 refine go ?_ ?_
 ·show Sim n p.1 p.2 (y7 (ups n) (zN ps j)) (ups (n - 1))
  rw [ep]
  have lu : ((ups n).length : Int) = n := by rw [yW]; lia
  have lu' : ((ups (n - 1)).length : Int) = n - 1 := by rw [yW]; lia
  refine ⟨by rw [qH]; exact lu, lu', fun x x0 xn => ?_⟩
  have mx := zgh hlt p1 p4 x0 xn
  unfold y7
  rw [zgo x0 (by lia), wR x0 xn, wR p1 p2, wR p3 p4, wR mx.1 mx.2, zBz hlt, if_pos (show p.2 > p.1 from hlt), if_neg (show ¬ p.2 < p.1 by lia)]
 ·have e2 := zaq (ks := []) (k := (j : Int)) (by lia) hb (fun _ z => (nomatch z)) (by lia) (by lia)
  rw [ep] at e2
  have e3 : at0 (hdF ps (ups n) []) p.1 = p.1 := wR p1 p2
  have e4 : at0 (hdF ps (ups n) []) p.2 = p.2 := wR p3 p4
  rw [e3, e4, if_neg (by lia), zji (by lia) n9] at e2
  show cN n ps ([] ++ [(j : Int)]) = cN (n - 1) (zZ ps j p) []
  rw [e2, zji (by lia) (by lia)]
def sm {α : Type} (l : List α) (f : α -> Int) : Int := (l.map f).sum
theorem xV {α : Type} (a : α) (l : List α) (f : α -> Int) : sm (a :: l) f = f a + sm l f := rfl
theorem zjt {α : Type} (f g : α -> Int) : ∀ l : List α, sm l (fun a => f a + g a) = sm l f + sm l g
 | [] => rfl
 | a :: l => by
  rw [xV, xV, xV, zjt f g l]
  lia
theorem zcc {α : Type} {f g : α -> Int} {l : List α} (h : ∀ a ∈ l, f a = g a) : sm l f = sm l g := by
 unfold sm
 rw [List.map_congr_left h]
theorem zxr {α β : Type} (l : List α) (u : α -> β) (f : β -> Int) : sm (l.map u) f = sm l fun a => f (u a) := by
 unfold sm
 rw [List.map_map]
 rfl
theorem zta {α : Type} {l k : List α} (h : l.Perm k) (f : α -> Int) : sm l f = sm k f := by
 induction h with
 | nil => rfl
 | cons a _ ih => rw [xV, xV, ih]
 | swap a b l => rw [xV, xV, xV, xV]; lia
 | trans _ _ h1 h2 => rw [h1, h2]
def alf : Nat -> Int -> Int
 | 0, i => if i = 0 then 1 else 0
 | a + 1, i => alf a (i - 1) - alf a i
def tut (n : Int) (ps : List (Int × Int)) (k : Int × Int) : Int := sm (w9 ps) fun A => alf (yS n ps - rkP n ps A).toNat k.1 * alf ((A.length : Int) - rkP n ps A).toNat k.2
theorem zwy (i j : Int) : (∀ p q a b : Nat, alf a (i - p) * alf b (j - q) + alf (a + 1) (i - p) * alf b (j - q) = alf a (i - (p + 1 : Nat)) * alf b (j - q)) /\ ∀ p q a b : Nat, alf a (i - p) * alf b (j - q) + alf a (i - p) * alf (b + 1) (j - q) = alf a (i - p) * alf b (j - (q + 1 : Nat)) := by
 constructor
 ·intro p q a b
  have e : alf (a + 1) (i - p) = alf a (i - p - 1) - alf a (i - p) := rfl
  rw [e, <- Int.add_mul, show i - (p : Int) - 1 = i - (p + 1 : Nat) by lia]
  congr 1
  lia
 ·intro p q a b
  have e : alf (b + 1) (j - q) = alf b (j - q - 1) - alf b (j - q) := rfl
  rw [e, <- Int.mul_add, show j - (q : Int) - 1 = j - (q + 1 : Nat) by lia]
  congr 1
  lia
theorem zcb {ps : List (Int × Int)} (k : Int) (g : List Int -> Int) : sm (w9 ps) g = sm ((w9 ps).filter fun p => decide (k ∈ p) == true) g + sm ((w9 ps).filter fun p => decide (k ∈ p) == false) g := by
 have gen : ∀ l : List (List Int), sm l g = sm (l.filter fun p => decide (k ∈ p) == true) g + sm (l.filter fun p => decide (k ∈ p) == false) g := by
  intro l
  induction l with
  | nil => rfl
  | cons p l ih =>
   rw [xV, ih]
   by_cases c : k ∈ p
   ·rw [List.filter_cons_of_pos (by rw [decide_eq_true c]; rfl), List.filter_cons_of_neg (by rw [decide_eq_true c]; decide), xV]
    lia
   ·rw [List.filter_cons_of_neg (by rw [decide_eq_false c]; decide), List.filter_cons_of_pos (by rw [decide_eq_false c]; rfl), xV]
    lia
 exact gen _
theorem zim {ps ps' : List (Int × Int)} (h8 : ps.length <= 8) (hl : ps'.length + 1 = ps.length) {k : Int} (k0 : 0 <= k) (kl : k < ps.length) (b : Bool) {g g' : List Int -> Int} (h : ∀ p ∈ w9 ps, decide (k ∈ p) = b -> g p = g' (dnP k p)) : sm ((w9 ps).filter fun p => decide (k ∈ p) == b) g = sm (w9 ps') g' := by
 rw [<- zta (zut h8 hl k0 kl b) g', zxr]
 refine zcc fun p hp => ?_
 obtain ⟨h1, h2⟩ := List.mem_filter.mp hp
 exact h p h1 (eq_of_beq h2)
section
variable {n : Int} {ps : List (Int × Int)} {j : Nat}
theorem j5 (h8 : ps.length <= 8) (hj : j < ps.length) {p : List Int} (hp : p ∈ w9 ps) (h : (j : Int) ∈ p -> (zN ps j).1 = (zN ps j).2) : rkP n (wo ps j) (dnP j p) = rkP n ps p := by
 obtain ⟨ks, _⟩ := (yH h8).mp hp
 unfold rkP
 rw [zse hj p _ (fun i hi => (ks i hi).1) h]
theorem zli (ok : xX n ps) {p : List Int} (hp : p ∈ w9 ps) : 0 <= (p.length : Int) - rkP n ps p /\ p.length <= ps.length /\ 0 <= n - rkP n ps p := by
 obtain ⟨⟨n1, n9⟩, hb, h8⟩ := id ok
 obtain ⟨ks, up⟩ := (yH h8).mp hp
 have c := zqy n1 n9 hb ks
 rw [<- jN] at c
 have l := zjv (n := (ps.length : Int)) (by lia) (up.imp fun h => by lia) ks
 have cp : 0 <= cN n ps p := Int.natCast_nonneg _
 have cc := jN (n := n) (ps := ps) p
 refine ⟨by lia, by lia, by lia⟩
theorem zfa (ok : xX n ps) (hj : j < ps.length) {t : Int × Int} (et : zN ps j = t) (hlt : t.1 < t.2) {p : List Int} (hp : p ∈ w9 ps) (hk : (j : Int) ∈ p) : rkP n ps p = rkP (n - 1) (zZ ps j t) (dnP j p) + 1 := by
 obtain ⟨⟨n1, n9⟩, hb, h8⟩ := id ok
 obtain ⟨ks, _⟩ := (yH h8).mp hp
 have c := zsg n9 hb hj hlt et ks hk
 rw [jN, jN, c]
 lia
end
theorem zzj {m : Nat} {k : Int} (k0 : 0 <= k) (kl : k < ((m + 1 : Nat) : Int)) : dnP k (ups ((m + 1 : Nat) : Int)) = ups (m : Int) := by
 refine zdg (zgl (wN _)) (wN _) fun i => ?_
 rw [mem_dn, mem_ups, mem_ups]
 unfold Uk
 split <;> lia
def oth (m k : Int) : List Int := (ups m).filter fun j => !decide (j = k)
theorem zgg (m : Nat) (k : Int) : Ks m (oth m k) := fun j hj => qL m j (List.mem_filter.mp hj).1
theorem mem_oth {m k j : Int} : j ∈ oth m k ↔ (0 <= j /\ j < m) /\ j ≠ k := by
 unfold oth
 rw [List.mem_filter, mem_ups, Bool.not_eq_true', decide_eq_false_iff_not]
theorem zzk (m k : Int) : dnP k (oth m k) = dnP k (ups m) := by
 unfold dnP oth
 rw [List.filter_filter]
 congr 1
 refine List.filter_congr fun j _ => ?_
 by_cases h : j = k <;> simp [h]
theorem zus (k : Int) (p : List Int) : dnP k (p ++ [k]) = dnP k p := by
 unfold dnP
 rw [List.filter_append]
 simp
section
variable {n : Int} {ps : List (Int × Int)} {j : Nat}
theorem zkj (h8 : ps.length <= 8) : ups (ps.length : Int) ∈ w9 ps := (yH h8).mpr ⟨qL _, wN _⟩
theorem zff (h8 : ps.length <= 8) (k : Int) : oth (ps.length : Int) k ∈ w9 ps := (yH h8).mpr ⟨zgg _ _, (wN _).filter _⟩
theorem zAo {α : Type} {qs : List α} (hj : j < qs.length) : (qs.length : Int) = (((wo qs j).length + 1 : Nat) : Int) := by rw [xU hj]
theorem zkf (hj : j < ps.length) : dnP (j : Int) (ups (ps.length : Int)) = ups ((wo ps j).length : Int) := by
 rw [zAo hj]
 exact zzj (by lia) (by rw [xU hj]; lia)
theorem zcm (h8 : ps.length <= 8) (hj : j < ps.length) (curl : (zN ps j).1 = (zN ps j).2) : yS n (wo ps j) = yS n ps := by
 have := j5 (n := n) h8 hj (zkj h8) fun _ => curl
 rw [zkf hj] at this
 exact this
theorem zmf (h8 : ps.length <= 8) (hj : j < ps.length) : yS n (wo ps j) = rkP n ps (oth ps.length j) := by
 have := j5 (n := n) h8 hj (zff h8 (j : Int)) fun z => absurd rfl (mem_oth.mp z).2
 rw [zzk, zkf hj] at this
 exact this
theorem zcl (ok : xX n ps) (hj : j < ps.length) {t : Int × Int} (et : zN ps j = t) (hlt : t.1 < t.2) : yS n ps = yS (n - 1) (zZ ps j t) + 1 := by
 have h := zfa ok hj et hlt (zkj ok.2.2) (mem_ups.mpr ⟨by lia, by lia⟩)
 rw [zkf hj] at h
 unfold yS
 rw [h, xW]
theorem zoh (ok : xX n ps) {p : List Int} (hp : p ∈ w9 ps) : rkP n ps p <= yS n ps := by
 obtain ⟨⟨n1, n9⟩, hb, h8⟩ := id ok
 obtain ⟨ks, up⟩ := (yH h8).mp hp
 have c := (zon n1 hb (ups ps.length) p (qL _) ks).1
 have e := zkg n1 hb (zap ks (qL _)) (qL _) fun k => ⟨fun z => by
  rcases List.mem_append.mp z with z | z
  ·exact mem_ups.mpr (ks k z)
  ·exact z, fun z => List.mem_append_right _ z⟩
 unfold yS
 rw [jN, jN]
 lia
theorem zpc (ok : xX n ps) (hj : j < ps.length) (curl : (zN ps j).1 = (zN ps j).2) (i l : Int) : tut n ps (i, l) = tut n (wo ps j) (i, l - 1) := by
 obtain ⟨⟨n1, n9⟩, hb, h8⟩ := id ok
 have wl := xU (qs := ps) hj
 unfold tut
 rw [zcb (j : Int), zim h8 wl (by lia) (by lia) true (g' := fun B => alf (yS n (wo ps j) - rkP n (wo ps j) B).toNat i * alf (((B.length : Int) - rkP n (wo ps j) B).toNat + 1) l) (fun p hp hk => ?_), zim h8 wl (by lia) (by lia) false (g' := fun B => alf (yS n (wo ps j) - rkP n (wo ps j) B).toNat i * alf ((B.length : Int) - rkP n (wo ps j) B).toNat l) (fun p hp hk => ?_), <- zjt]
 ·refine zcc fun B hB => ?_
  have h := (zwy i l).2 0 0 (yS n (wo ps j) - rkP n (wo ps j) B).toNat ((B.length : Int) - rkP n (wo ps j) B).toNat
  rw [show i - ((0 : Nat) : Int) = i by lia, show l - ((0 : Nat) : Int) = l by lia, show l - ((0 + 1 : Nat) : Int) = l - 1 by lia] at h
  dsimp only
  rw [<- h]
  lia
 ·have mk := of_decide_eq_false hk
  rw [zcm h8 hj curl, j5 h8 hj hp fun z => absurd z mk, v3 mk]
 ·have mk := of_decide_eq_true hk
  obtain ⟨ks, up⟩ := (yH h8).mp hp
  have nn := zli ok hp
  have lw := zcf up mk
  rw [zcm h8 hj curl, j5 h8 hj hp fun _ => curl]
  dsimp only
  congr 2
  have dn : ((dnP (j : Int) p).length : Int) - rkP n ps p >= 0 := by
   have q := zli (n := n) (ps := wo ps j) ⟨⟨n1, n9⟩, fun r hr => hb r (hV hr), by lia⟩ (p := dnP (j : Int) p) ((yH (by lia)).mpr ⟨zst (by rw [wl]; exact ks) (by lia) (by rw [wl]; lia), zgl up⟩)
   rw [j5 h8 hj hp fun _ => curl] at q
   exact q.1
  lia
theorem zlq (ok : xX n ps) (hj : j < ps.length) {t : Int × Int} (et : zN ps j = t) (hlt : t.1 < t.2) (i l : Int) : (sm ((w9 ps).filter fun p => decide ((j : Int) ∈ p) == true) fun A => alf (yS n ps - rkP n ps A).toNat i * alf ((A.length : Int) - rkP n ps A).toNat l) = tut (n - 1) (zZ ps j t) (i, l) := by
 obtain ⟨⟨n1, n9⟩, hb, h8⟩ := id ok
 have wl := xU (qs := ps) hj
 have ad := zcl ok hj et hlt
 unfold tut
 refine zim h8 (by rw [xW]; exact wl) (by lia) (by lia) true fun p hp hk => ?_
 have mk := of_decide_eq_true hk
 obtain ⟨ks, up⟩ := (yH h8).mp hp
 have lw := zcf up mk
 have rd := zfa ok hj et hlt hp mk
 dsimp only
 congr 2 <;> lia
theorem zmm (ok : xX n ps) (hj : j < ps.length) {t : Int × Int} (et : zN ps j = t) (hlt : t.1 < t.2) (pl : ¬ rkP n ps (oth ps.length j) < yS n ps) (i l : Int) : tut n ps (i, l) = tut n (wo ps j) (i, l) + tut (n - 1) (zZ ps j t) (i, l) := by
 obtain ⟨⟨n1, n9⟩, hb, h8⟩ := id ok
 have wl := xU (qs := ps) hj
 have ao := zmf (n := n) h8 hj
 have le := zoh ok (zff h8 (j : Int))
 have e : yS n (wo ps j) = yS n ps := by lia
 rw [show tut n ps (i, l) = sm (w9 ps) fun A => alf (yS n ps - rkP n ps A).toNat i * alf ((A.length : Int) - rkP n ps A).toNat l from rfl, zcb (j : Int), zlq ok hj et hlt, Int.add_comm]
 congr 1
 unfold tut
 refine zim h8 wl (by lia) (by lia) false fun p hp hk => ?_
 have mk := of_decide_eq_false hk
 rw [e, j5 h8 hj hp fun z => absurd z mk, v3 mk]
theorem zmw (ok : xX n ps) (hj : j < ps.length) {t : Int × Int} (et : zN ps j = t) (hlt : t.1 < t.2) (br : rkP n ps (oth ps.length j) < yS n ps) {p : List Int} (hp : p ∈ w9 ps) (nk : ¬ (j : Int) ∈ p) : rkP n ps p = rkP (n - 1) (zZ ps j t) (dnP j p) := by
 obtain ⟨⟨n1, n9⟩, hb, h8⟩ := id ok
 obtain ⟨ks, up⟩ := (yH h8).mp hp
 have jk : Ks ps.length [(j : Int)] := fun i hi => by rw [List.mem_singleton.mp hi]; lia
 have d := zsg n9 hb hj hlt et (zap ks jk) (List.mem_append_right _ List.mem_cons_self)
 rw [zus] at d
 have sub := zww n1 hb [(j : Int)] p (oth ps.length j) jk ks (zgg _ _) fun k hk => mem_oth.mpr ⟨ks k hk, fun z => nk (z ▸ hk)⟩
 have ap := (zon n1 hb [(j : Int)] p jk ks).2
 have e := zkg n1 hb (zap (zgg ps.length j) jk) (qL _) fun k => ⟨fun z => by
  rcases List.mem_append.mp z with z | z
  ·exact mem_ups.mpr (mem_oth.mp z).1
  ·rw [List.mem_singleton.mp z]; exact mem_ups.mpr ⟨by lia, by lia⟩, fun z => by
  by_cases c : k = (j : Int)
  ·rw [c]; exact List.mem_append_right _ List.mem_cons_self
  ·exact List.mem_append_left _ (mem_oth.mpr ⟨mem_ups.mp z, c⟩)⟩
 rw [jN] at br
 unfold yS at br
 rw [jN] at br
 rw [jN, jN]
 have one : (([(j : Int)] : List Int).length : Int) = 1 := rfl
 lia
theorem zif (ok : xX n ps) (hj : j < ps.length) {t : Int × Int} (et : zN ps j = t) (hlt : t.1 < t.2) (br : rkP n ps (oth ps.length j) < yS n ps) (i l : Int) : tut n ps (i, l) = tut (n - 1) (zZ ps j t) (i - 1, l) := by
 obtain ⟨⟨n1, n9⟩, hb, h8⟩ := id ok
 have wl := xU (qs := ps) hj
 have ad := zcl ok hj et hlt
 rw [show tut n ps (i, l) = sm (w9 ps) fun A => alf (yS n ps - rkP n ps A).toNat i * alf ((A.length : Int) - rkP n ps A).toNat l from rfl, zcb (j : Int), zlq ok hj et hlt]
 rw [zim h8 (by rw [xW]; exact wl) (by lia) (by lia) false (ps' := zZ ps j t) (g' := fun B => alf ((yS (n - 1) (zZ ps j t) - rkP (n - 1) (zZ ps j t) B).toNat + 1) i * alf ((B.length : Int) - rkP (n - 1) (zZ ps j t) B).toNat l) fun p hp hk => ?_]
 ·unfold tut
  rw [<- zjt]
  refine zcc fun B hB => ?_
  have h := (zwy i l).1 0 0 (yS (n - 1) (zZ ps j t) - rkP (n - 1) (zZ ps j t) B).toNat ((B.length : Int) - rkP (n - 1) (zZ ps j t) B).toNat
  rw [show i - ((0 : Nat) : Int) = i by lia, show l - ((0 : Nat) : Int) = l by lia, show i - ((0 + 1 : Nat) : Int) = i - 1 by lia] at h
  dsimp only
  exact h
 ·have mk := of_decide_eq_false hk
  have rb := zmw ok hj et hlt br hp mk
  have le := zoh ok hp
  have okd : xX (n - 1) (zZ ps j t) := by
   have ti : InN n t := by rw [<- et]; exact wJ hb (by lia) (by lia)
   obtain ⟨t1, t2, t3, t4⟩ := id ti
   exact ⟨⟨by lia, by lia⟩, zcj hb hlt ti, by rw [xW]; lia⟩
  obtain ⟨ks, up⟩ := (yH h8).mp hp
  have le2 := zoh okd (p := dnP (j : Int) p) ((yH okd.2.2).mpr ⟨by rw [xW]; exact zst (by rw [wl]; exact ks) (by lia) (by rw [wl]; lia), zgl up⟩)
  rw [v3 mk, ad, rb]
  congr 2
  lia
theorem zsx {n : Int} (n1 : 1 <= n) (n9 : n <= 9) (k : Int × Int) : tut n [] k = if k = (0, 0) then 1 else 0 := by
 have e0 : w9 ([] : List (Int × Int)) = [[]] := by decide
 have e : rkP n [] [] = 0 := by
  rw [jN, zji n1 n9]
  lia
 unfold tut yS
 rw [e0]
 show alf (rkP n [] [] - rkP n [] []).toNat k.1 * alf (((0 : Nat) : Int) - rkP n [] []).toNat k.2 + 0 = _
 rw [e]
 show (if k.1 = 0 then 1 else 0) * (if k.2 = 0 then (1 : Int) else 0) + 0 = _
 obtain ⟨a, b⟩ := k
 by_cases h1 : a = 0 <;> by_cases h2 : b = 0 <;> simp [h1, h2]
end
inductive Stp where
 | fin
 | curl (t : Int) (s : Stp)
 | bri (t : Int) (s : Stp)
 | frk (t : Int) (a b : Stp)
namespace Stp
def deep : Stp -> Nat
 | fin => 0
 | curl _ s => s.deep + 1
 | bri _ s => s.deep + 1
 | frk _ a b => max a.deep b.deep + 1
def terms : Stp -> List T3
 | fin => [(0, 0, 1)]
 | curl _ s => s.terms.map (zdu (0, 1, 1))
 | bri _ s => s.terms.map (zdu (1, 0, 1))
 | frk _ a b => a.terms ++ b.terms
theorem terms_in : ∀ (S : Stp), ∀ t ∈ S.terms, 0 <= t.1 /\ 0 <= t.2.1 /\ t.1 + t.2.1 <= S.deep /\ t.2.2 = 1
 | fin, t, h => by rw [List.mem_singleton.mp h]; decide
 | curl _ s, t, h => by
  obtain ⟨u, hu, rfl⟩ := List.mem_map.mp h
  have := terms_in s u hu
  show 0 <= 0 + u.1 /\ 0 <= 1 + u.2.1 /\ 0 + u.1 + (1 + u.2.1) <= ((s.deep + 1 : Nat) : Int) /\ 1 * u.2.2 = 1
  lia
 | bri _ s, t, h => by
  obtain ⟨u, hu, rfl⟩ := List.mem_map.mp h
  have := terms_in s u hu
  show 0 <= 1 + u.1 /\ 0 <= 0 + u.2.1 /\ 1 + u.1 + (0 + u.2.1) <= ((s.deep + 1 : Nat) : Int) /\ 1 * u.2.2 = 1
  lia
 | frk _ a b, t, h => by
  have e : ((frk 0 a b).deep : Int) = ((max a.deep b.deep + 1 : Nat) : Int) := rfl
  show 0 <= t.1 /\ 0 <= t.2.1 /\ t.1 + t.2.1 <= ((max a.deep b.deep + 1 : Nat) : Int) /\ t.2.2 = 1
  rcases List.mem_append.mp h with z | z
  ·have := terms_in a t z
   lia
  ·have := terms_in b t z
   lia
theorem terms_len : ∀ (S : Stp), S.terms.length <= 2 ^ S.deep
 | fin => by decide
 | curl _ s => by
  show (s.terms.map _).length <= 2 ^ (s.deep + 1)
  have := terms_len s
  rw [List.length_map, Nat.pow_succ]
  lia
 | bri _ s => by
  show (s.terms.map _).length <= 2 ^ (s.deep + 1)
  have := terms_len s
  rw [List.length_map, Nat.pow_succ]
  lia
 | frk _ a b => by
  show (a.terms ++ b.terms).length <= 2 ^ (max a.deep b.deep + 1)
  have h1 := terms_len a
  have h2 := terms_len b
  have g1 : 2 ^ a.deep <= 2 ^ (max a.deep b.deep) := Nat.pow_le_pow_right (by decide) (Nat.le_max_left _ _)
  have g2 : 2 ^ b.deep <= 2 ^ (max a.deep b.deep) := Nat.pow_le_pow_right (by decide) (Nat.le_max_right _ _)
  rw [List.length_append, Nat.pow_succ]
  lia
end Stp
theorem wS (a b : Int) (k : Int × Int) : ∀ L : List T3, coef (L.map (zdu (a, b, 1))) k = coef L (k.1 - a, k.2 - b)
 | [] => rfl
 | t :: L => by
  rw [List.map_cons, yG, yG, wS a b k L]
  congr 1
  show (if (a + t.1, b + t.2.1) = k then 1 * t.2.2 else 0) = if (t.1, t.2.1) = (k.1 - a, k.2 - b) then t.2.2 else 0
  rw [Int.one_mul]
  obtain ⟨x, y⟩ := k
  by_cases h : (a + t.1, b + t.2.1) = (x, y)
  ·rw [if_pos h, if_pos]
   rw [Prod.mk.injEq] at h ⊢
   dsimp only
   lia
  ·rw [if_neg h, if_neg]
   intro z
   rw [Prod.mk.injEq] at h z
   dsimp only at z
   exact h (by lia)
def qO : Nat -> Int -> List (Int × Int) -> List Int -> List Int -> Stp
 | 0, _, _, _, _ => .fin
 | d + 1, n, ps, nums, ord =>
  if (zN ps (nums.idxOf (ord.getLastD 0) : Nat)).1 = (zN ps (nums.idxOf (ord.getLastD 0) : Nat)).2 then .curl (ord.getLastD 0) (qO d n (wo ps (nums.idxOf (ord.getLastD 0))) (wo nums (nums.idxOf (ord.getLastD 0))) ord.dropLast)
  else if rkP n ps (oth ps.length (nums.idxOf (ord.getLastD 0) : Nat)) < yS n ps then .bri (ord.getLastD 0) (qO d (n - 1) (zZ ps (nums.idxOf (ord.getLastD 0)) (zN ps (nums.idxOf (ord.getLastD 0) : Nat))) (wo nums (nums.idxOf (ord.getLastD 0))) ord.dropLast)
  else .frk (ord.getLastD 0) (qO d n (wo ps (nums.idxOf (ord.getLastD 0))) (wo nums (nums.idxOf (ord.getLastD 0))) ord.dropLast) (qO d (n - 1) (zZ ps (nums.idxOf (ord.getLastD 0)) (zN ps (nums.idxOf (ord.getLastD 0) : Nat))) (wo nums (nums.idxOf (ord.getLastD 0))) ord.dropLast)
theorem vA : ∀ (d : Nat) (n : Int) (ps : List (Int × Int)) (nums ord : List Int), (qO d n ps nums ord).deep <= d
 | 0, _, _, _, _ => Nat.le_refl _
 | d + 1, n, ps, nums, ord => by
  unfold qO
  split
  ·exact Nat.succ_le_succ (vA d _ _ _ _)
  ·split
   ·exact Nat.succ_le_succ (vA d _ _ _ _)
   ·exact Nat.succ_le_succ (Nat.max_le.mpr ⟨vA d _ _ _ _, vA d _ _ _ _⟩)
structure OkS (d : Nat) (n : Int) (ps : List (Int × Int)) (nums ord : List Int) : Prop where
 ok : xX n ps
 nm : zvt ps
 len : ps.length = d
 nl : nums.length = d
 nd : nums.Nodup
 pm : ord.Perm nums
section
variable {d : Nat} {n : Int} {ps : List (Int × Int)} {nums ord : List Int}
theorem OkS.last (S : OkS (d + 1) n ps nums ord) : ord = ord.dropLast ++ [ord.getLastD 0] /\ ord.getLastD 0 ∈ nums := by
 have ol : ord.length = d + 1 := S.pm.length_eq.trans S.nl
 have ne : ord ≠ [] := fun z => by rw [z] at ol; cases ol
 have e : ord.getLastD 0 = ord.getLast ne := by
  cases ord with
  | nil => exact absurd rfl ne
  | cons a l => rfl
 refine ⟨by rw [e]; exact (List.dropLast_concat_getLast ne).symm, S.pm.subset ?_⟩
 rw [e]
 exact List.getLast_mem ne
theorem OkS.at (S : OkS (d + 1) n ps nums ord) : nums.idxOf (ord.getLastD 0) < ps.length /\ nums[nums.idxOf (ord.getLastD 0)]? = some (ord.getLastD 0) := by
 have h := List.idxOf_lt_length_of_mem S.last.2
 have := S.nl
 have := S.len
 refine ⟨by lia, ?_⟩
 rw [List.getElem?_eq_getElem h, List.getElem_idxOf h]
theorem zki {l : List Int} {j : Nat} {x : Int} (h : l[j]? = some x) : l.Perm (x :: wo l j) := by
 obtain ⟨hj, e⟩ := List.getElem?_eq_some_iff.mp h
 have : l = l.take j ++ x :: l.drop (j + 1) := by rw [<- e, List.getElem_cons_drop, List.take_append_drop]
 rw [this]
 conv => rhs; rw [<- this]
 exact List.perm_middle
theorem zxc {α : Type} {l : List α} {j : Nat} : (wo l j).Sublist l := by
 have h : (l.take j ++ l.drop (j + 1)).Sublist (l.take j ++ l.drop j) := List.Sublist.append (List.Sublist.refl _) (by
  rw [show j + 1 = j + 1 from rfl, <- List.drop_drop]
  exact List.drop_sublist _ _)
 rw [List.take_append_drop] at h
 exact h
theorem OkS.rest (S : OkS (d + 1) n ps nums ord) : (wo nums (nums.idxOf (ord.getLastD 0))).length = d /\ (wo nums (nums.idxOf (ord.getLastD 0))).Nodup /\ ord.dropLast.Perm (wo nums (nums.idxOf (ord.getLastD 0))) := by
 have h := S.at
 have l := xU (qs := nums) (j := nums.idxOf (ord.getLastD 0)) (by rw [S.nl, <- S.len]; exact h.1)
 refine ⟨by have := S.nl; lia, List.Nodup.sublist zxc S.nd, ?_⟩
 have p1 := S.pm.trans (zki h.2)
 have p2 : ord.Perm (ord.getLastD 0 :: ord.dropLast) := by
  conv => lhs; rw [S.last.1]
  exact List.perm_append_comm.trans (List.Perm.refl _)
 exact List.Perm.cons_inv (p2.symm.trans p1)
theorem OkS.left (S : OkS (d + 1) n ps nums ord) : OkS d n (wo ps (nums.idxOf (ord.getLastD 0))) (wo nums (nums.idxOf (ord.getLastD 0))) ord.dropLast := by
 obtain ⟨⟨h19, hb, h8⟩, nm, len, _⟩ := id S
 have l := xU S.at.1
 exact ⟨⟨h19, fun r hr => hb r (hV hr), by lia⟩, fun r hr => nm r (hV hr), by lia, S.rest.1, S.rest.2.1, S.rest.2.2⟩
theorem OkS.lt (S : OkS (d + 1) n ps nums ord) (nc : ¬ (zN ps (nums.idxOf (ord.getLastD 0) : Nat)).1 = (zN ps (nums.idxOf (ord.getLastD 0) : Nat)).2) : (zN ps (nums.idxOf (ord.getLastD 0) : Nat)).1 < (zN ps (nums.idxOf (ord.getLastD 0) : Nat)).2 := by
 have := S.nm (zN ps (nums.idxOf (ord.getLastD 0) : Nat)) (by
  unfold zN
  rw [Int.toNat_natCast, List.getD_eq_getElem?_getD, List.getElem?_eq_getElem S.at.1]
  exact List.getElem_mem _)
 lia
theorem zqs {j : Nat} {t : Int × Int} (nm : zvt ps) : zvt (zZ ps j t) := by
 intro p hp
 unfold zZ at hp
 split at hp
 ·exact nm p (hV hp)
 ·obtain ⟨r, _, rfl⟩ := List.mem_map.mp hp
  exact zty _
theorem OkS.draw (S : OkS (d + 1) n ps nums ord) (nc : ¬ (zN ps (nums.idxOf (ord.getLastD 0) : Nat)).1 = (zN ps (nums.idxOf (ord.getLastD 0) : Nat)).2) : OkS d (n - 1) (zZ ps (nums.idxOf (ord.getLastD 0)) (zN ps (nums.idxOf (ord.getLastD 0) : Nat))) (wo nums (nums.idxOf (ord.getLastD 0))) ord.dropLast := by
 obtain ⟨⟨⟨n1, n9⟩, hb, h8⟩, nm, len, _⟩ := id S
 have l := xU S.at.1
 have lt := S.lt nc
 have ti := wJ hb (k := ((nums.idxOf (ord.getLastD 0) : Nat) : Int)) (by lia) (by have := S.at.1; lia)
 obtain ⟨t1, t2, t3, t4⟩ := id ti
 exact ⟨⟨⟨by lia, by lia⟩, zcj hb lt ti, by rw [xW]; lia⟩, zqs nm, by rw [xW]; lia, S.rest.1, S.rest.2.1, S.rest.2.2⟩
end
theorem qM : ∀ (d : Nat) (n : Int) (ps : List (Int × Int)) (nums ord : List Int), OkS d n ps nums ord -> ∀ k : Int × Int, coef (qO d n ps nums ord).terms k = tut n ps k
 | 0, n, ps, nums, ord, S, k => by
  have e : ps = [] := List.length_eq_zero_iff.mp S.len
  subst e
  rw [zsx S.ok.1.1 S.ok.1.2]
  show coef [(0, 0, 1)] k = _
  rw [yG, show coef [] k = 0 from rfl, Int.add_zero]
  show (if (0, 0) = k then (1 : Int) else 0) = _
  by_cases h : k = (0, 0)
  ·rw [if_pos h.symm, if_pos h]
  ·rw [if_neg (fun z => h z.symm), if_neg h]
 | d + 1, n, ps, nums, ord, S, (i, l) => by
  have hj := S.at.1
  unfold qO
  split
  ·next c =>
   rw [zpc S.ok hj c]
   show coef ((qO d _ _ _ _).terms.map (zdu (0, 1, 1))) (i, l) = _
   rw [wS, qM d _ _ _ _ S.left]
   dsimp only
   rw [Int.sub_zero]
  ·next nc =>
   have lt := S.lt nc
   split
   ·next br =>
    rw [zif S.ok hj rfl lt br]
    show coef ((qO d _ _ _ _).terms.map (zdu (1, 0, 1))) (i, l) = _
    rw [wS, qM d _ _ _ _ (S.draw nc)]
    dsimp only
    rw [Int.sub_zero]
   ·next br =>
    rw [zmm S.ok hj rfl lt br]
    show coef ((qO d _ _ _ _).terms ++ (qO d _ _ _ _).terms) (i, l) = _
    rw [qF, qM d _ _ _ _ S.left, qM d _ _ _ _ (S.draw nc)]
theorem vJ {n : Nat} (h : n <= 8) : n < sizeLine := Nat.lt_of_le_of_lt h (by decide)
theorem zlz (xs : List V) {j : Nat} : gS xs none (some (j : Int)) = xs.take j := by
 unfold gS
 rw [show HT.sIx xs.length 0 none = 0 from rfl, HT.sIx_nat]
 rw [List.drop_zero, Nat.sub_zero]
 by_cases h : j <= xs.length
 ·rw [Nat.min_eq_left h]
 ·rw [Nat.min_eq_right (by lia), List.take_length, List.take_of_length_le (by lia)]
theorem zly (xs : List V) {j : Nat} : gS xs (some ((j : Int) + 1)) none = xs.drop (j + 1) := by
 unfold gS
 rw [show ((j : Int) + 1) = ((j + 1 : Nat) : Int) by lia, HT.sIx_nat, show HT.sIx xs.length xs.length none = xs.length from rfl]
 by_cases h : j + 1 <= xs.length
 ·rw [Nat.min_eq_left h, List.take_of_length_le (by rw [List.length_drop]; exact Nat.le_refl _)]
 ·rw [Nat.min_eq_right (by lia), Nat.sub_self, List.take_zero, List.drop_of_length_le (by lia)]
def zbz : Sp := fun vs H Q _ => ∃ (wv : V) (n : Int) (ps : List (Int × Int)) (k : Int), vs = [wv, .int k] /\ WebAt H wv n ps /\ 0 <= k /\ k < (ps.length : Int) /\ Q .non H
def zkm (K : W.Frag) : Sp := fun vs H Q _ => ∃ (v : V) (n : Int) (p : Int × Int), vs = [v, .int n] /\ TieAt H v p /\ InN n p /\ ∀ H', Same H H' -> Q (.bl true) H'
def zkp (K : W.Frag) : Sp := fun vs H Q _ => ∃ (k : Kd) (a : Addr) (n : Int) (xs : List V) (ps : List (Int × Int)), vs = [.int n, .ref a] /\ SqK k K H a xs /\ Paired (TieAt H) xs ps /\ xX n ps /\ ∀ w' H', Same H H' -> WebAt H' w' n (ps.map xJ) -> Q w' H'
def zay : Sp := fun vs H Q _ => ∃ (wv : V) (n : Int) (qs : List (Int × Int)) (j : Nat), vs = [wv, .int j] /\ WebAt H wv n qs /\ qs.length <= 8 /\ j < qs.length /\ ∀ w' H', Same H H' -> WebAt H' w' n (wo qs j) -> Q w' H'
def zko : Sp := fun vs H Q _ => ∃ p lo hi : Int, vs = [.int p, .int lo, .int hi] /\ Q (.int (mvL lo hi p)) H
def zca : Sp := fun vs H Q _ => ∃ (wv : V) (n : Int) (qs : List (Int × Int)) (j : Nat), vs = [wv, .int j] /\ WebAt H wv n qs /\ qs.length <= 8 /\ j < qs.length /\ ∀ w' H', Same H H' -> WebAt H' w' (zke n (zN qs j)) (zZ qs j (zN qs j)) -> Q w' H'
def zol (n : Int) (ps : List (Int × Int)) (k : Int) : Str :=
 if (zN ps k).1 = (zN ps k).2 then "curl" else if rkP n ps (oth ps.length k) < yS n ps then "bridge" else "plain"
def zex (K : W.Frag) : Sp := fun vs H Q _ => ∃ (wv : V) (n : Int) (ps : List (Int × Int)) (k : Int), vs = [wv, .int k] /\ WebAt H wv n ps /\ xX n ps /\ 0 <= k /\ k < (ps.length : Int) /\ ∀ H', Same H H' -> Q (.str (zol n ps k)) H'
section
variable {P : Program} {w : World} {K : W.Frag} {mg : Str -> Option Value} {base : Heap}
theorem zti : zJ ["web", "k"] ["web", "k"] (zB zaf) := ⟨rfl, rfl, rfl, by decide +kernel, rfl, by decide +kernel, by decide +kernel⟩
theorem zqu (T : Txt K mg) (S : Src K mg "refuse_no_tie_of" zaf ["web", "k"]) (D : Def P w K mg base 2 "is_whole_within" ["thing", "least", "greatest"] zax) : Def P w K mg base 3 "refuse_no_tie_of" ["web", "k"] zbz := by
 refine S.def zti (fun vs H Q E h => ?_) (fun f cdv A outer s H vs Q E hr h => ?_)
 ·obtain ⟨_, _, _, _, rfl, _⟩ := h; rfl
 ·obtain ⟨wv, n, ps, k, rfl, W, k0, kl, q⟩ := h
  obtain ⟨c, d, xs, rfl, hc, hd, ht⟩ := W.ex
  have xl : xs.length = ps.length := Paired.length ht
  refine ⟨_, zF (xC (xZ (xY (zP D hr rfl (zA (pv 1) (zA zG (zA (yB zao (zO (yU K) (by rfl) T.len PySem.boot_len (zA (yD (zQ K) (pv 0) zG (fun _ _ => rfl)) zD)) zG) zD)))))) wA yC), ?_⟩
  have i1 : atI ([.int n, .ref d] : List V) 1 = some (.ref d) := zR (j := 1) rfl
  exact ⟨_, rfl, _, rfl, c, _, _, _, rfl, rfl, SqT.of hc, i1, d, xs, rfl, .inr (SqT.of hd), _, _, rfl, rfl, k, 0, (xs.length : Int) - 1, rfl, k0, by lia, _, rfl, xD q⟩
theorem zxw : zJ ["thing", "points"] ["thing", "points"] (zB zfx) := ⟨rfl, rfl, rfl, by decide +kernel, rfl, by decide +kernel, by decide +kernel⟩
theorem zEs : (["end", "points"] : List Str).Nodup := by decide +kernel
theorem zux (T : Txt K mg) (S : Src K mg "is_pair_of_points" zfx ["thing", "points"]) (D : Def P w K mg base 2 "is_whole_within" ["thing", "least", "greatest"] zax) : Def P w K mg base 3 "is_pair_of_points" ["thing", "points"] (zkm K) := by
 refine S.def zxw (fun vs H Q E h => ?_) (fun f cdv A outer s H vs Q E hr h => ?_)
 ·obtain ⟨_, _, _, rfl, _⟩ := h; rfl
 ·obtain ⟨v, n, p, rfl, ⟨a, rfl, ha⟩, ⟨a1, a2, b1, b2⟩, q⟩ := h
  refine ⟨_, zE (xC (PW.pt (vU (xZ (xY (zO (wF K) (by rfl) T.isi xS (zA (pv 0) (zA (x4 (v := .ty "tuple") rfl T.tuple yL rfl) zD)))))
    (vT (zX zbj (zO (yU K) (by rfl) T.len PySem.boot_len (zA (pv 0) zD)) zG (yF _))))) (zF (zK qJ)) yC)
   (zF (zK (zO (zib rfl) (by rfl) T.all zeh (zA (xI (N' := ["end", "points"]) (fr := [none, some 1]) (yM (by rfl)) rfl (yT K .t (pv 0)) (fun _ _ _ _ => zM (i := 0) zEs rfl (Or.inl rfl) (Or.inr rfl)) (fun _ _ _ _ => xG)
    (fun _ _ _ _ => zP D hr rfl (zA (pv 0) (zA zG (zA (yB zao (pv 1) zG) zD))))) zD)))), ?_⟩
  refine ⟨_, rfl, _, _, _, _, _, rfl, rfl, .tup ha, zjy K, _, rfl, xD ⟨_, rfl, _, _, rfl, .inr (SqT.of ha), rfl, _, rfl, zwn rfl ?_⟩⟩
  refine ⟨_, rfl, a, rfl, ⟨_, SqT.of ha⟩, yZ (k := .t) (a := a) (xs := [p.1, p.2].map V.int) (fun σ => ∃ v, σ = [v, some (.int n)]) (fun i ys H' => H' = H /\ ys = (List.replicate ([p.1, p.2].take i).length true).map V.bl) ⟨_, rfl⟩ ⟨rfl, rfl⟩ (by show 2 < sizeLine; decide) (fun i ys H' _ z => by rw [z.1]; exact SqT.of ha) ?_ ?_⟩
  ·rintro i y ys σ H' N hy ⟨u, rfl⟩ ⟨rfl, rfl⟩ hN
   obtain ⟨x, ex, rfl⟩ := xR hy
   have x0 : 0 <= x /\ x < n := by
    have := List.mem_of_getElem? ex
    rw [List.mem_cons, List.mem_singleton] at this
    rcases this with z | z <;> rw [z] <;> lia
   dsimp only [yR, List.set]
   refine zdi ⟨_, rfl, _, rfl, _, _, rfl, rfl, x, 0, n - 1, rfl, x0.1, by lia, ?_⟩
   refine hN _ _ _ ⟨_, rfl⟩ ⟨rfl, ?_⟩ (by simp)
   rw [zS ex, List.length_append, List.length_singleton, List.replicate_succ', List.map_append]
   rfl
  ·rintro ys H' ⟨rfl, rfl⟩ p2 hp
   exact ⟨p2, [true, true], rfl, SqL.of zC, q _ (Same.new hp)⟩
theorem scMade : zJ ["points", "ties", "at", "tie"] ["points", "ties"] (zB zfz) := ⟨rfl, rfl, rfl, by decide +kernel, rfl, by decide +kernel, by decide +kernel⟩
theorem zBy : (["tie"] : List Str).Nodup := by decide +kernel
theorem zva {t9 t8 : Tok} (T : Txt K mg) (henum : mg "enumerate" = none) (m9 : mg "MOST_POINTS" = some (.int 9 t9)) (m8 : mg "MOST_TIES" = some (.int 8 t8)) (S : Src K mg "made_web" zfz ["points", "ties"]) (DW : Def P w K mg base 2 "is_whole_within" ["thing", "least", "greatest"] zax)
  (DP : Def P w K mg base 3 "is_pair_of_points" ["thing", "points"] (zkm K)) (DL : Def P w K mg base 1 "lesser_first" ["a", "b"] zjr) : Def P w K mg base 4 "made_web" ["points", "ties"] (zkp K) := by
 refine S.def scMade (fun vs H Q E h => ?_) (fun f cdv A outer s H vs Q E hr h => ?_)
 ·obtain ⟨k, a, n, xs, ps, rfl, _⟩ := h; rfl
 ·obtain ⟨k, a, n, xs, ps, rfl, hq, hp, ⟨⟨n1, n2⟩, hb, hl⟩, q⟩ := h
  have hr1 : Room 1 _ := hr.mono (by decide)
  have hr2 : Room 2 _ := hr.mono (by decide)
  have xl : xs.length = ps.length := Paired.length hp
  refine ⟨_, zE (xC (xZ (xY (zP DW hr2 rfl (zA (pv 0) (zA zG (zA (kR (v := .int 9) rfl m9 ⟨_, rfl⟩) zD)))))) wA yC)
   (zE (xC (zX zso (zO (yU K) (by rfl) T.len PySem.boot_len (zA (pv 1) zD)) (kR (v := .int 8) rfl m8 ⟨_, rfl⟩) (yF _)) wA yC)
   (zE (wX PassesOwn.never rfl (zhj K k rfl henum (zA (pv 1) zD)) (xQ K 2 rfl (zU (zM (i := 2) scMade.nd rfl (Or.inl rfl)) (zU (zM (i := 3) scMade.nd rfl (Or.inl rfl)) xP)))
    (zF (xC (xZ (xY (zP DP hr rfl (zA (pv 3) (zA (pv 0) zD))))) wA yC)))
   (zF (zK (y9 (zA (pv 0) (zA (yA (yX K) rfl T.tuple yL (zA (xI (N' := ["tie"]) (fr := [none]) (yM (by rfl)) rfl (yT K k (pv 1))
    (fun _ _ _ _ => zM (i := 0) zBy rfl (Or.inl rfl) (Or.inr rfl)) (fun _ _ _ _ => xG)
    (fun _ _ _ _ => zP DL hr1 rfl (zA (yD (r := zfc K) (zQ K) (pv 0) zG (fun _ _ => rfl)) (zA (yD (r := zfc K) (zQ K) (pv 0) zG (fun _ _ => rfl)) zD)))) zD)) zD))))))), ?_⟩
  refine ⟨_, rfl, n, 1, 9, rfl, n1, n2, _, rfl, xD ?_⟩
  refine ⟨_, rfl, _, _, rfl, hq.or, _, _, rfl, rfl, _, rfl, ?_⟩
  rw [decide_eq_false (show ¬ ((8 : Int) < (xs.length : Int)) by lia)]
  refine xD ?_
  refine ⟨_, rfl, a, xs, rfl, hq, zhx (k := k) (K := K) (a := a) (xs := xs) (fun i σ H' => (∃ u v, σ = [some (.int n), some (.ref a), u, v]) /\ Same H H') ⟨⟨_, _, rfl⟩, Same.refl H⟩ (fun i σ H' _ z => z.2.seqK hq) ?_ ?_⟩
  ·rintro i x p σ H' hx ⟨⟨u, v, rfl⟩, sm⟩ hp'
   obtain ⟨pr, e1, c, rfl, hc⟩ := Paired.at hp hx
   have sm1 : Same H (upd H' p (.tup [.int i, .ref c])) := sm.trans (Same.new hp')
   refine ⟨p, _, rfl, SqT.of zC, rfl, _, _, rfl, _, _, rfl, rfl, ?_⟩
   exact ⟨_, rfl, _, rfl, .ref c, n, pr, rfl, ⟨c, rfl, sm1 _ _ hc⟩, hb pr (List.mem_of_getElem? e1), fun H2 sm2 => ⟨_, rfl, xD ⟨⟨_, _, rfl⟩, sm1.trans sm2⟩⟩⟩
  ·rintro σ H' ⟨⟨u, v, rfl⟩, sm⟩
   refine ⟨_, rfl, _, rfl, a, rfl, ⟨xs, sm.seqK hq⟩, yZ (k := k) (a := a) (xs := xs) (fun σ => ∃ v, σ = [v]) (fun i ys H2 => Same H H2 /\ Paired (TieAt H2) ys ((ps.take i).map xJ)) ⟨_, rfl⟩ ⟨sm, .nil⟩ (vJ (by lia)) (fun i ys H2 _ z => z.1.seqK hq) ?_ ?_⟩
   ·rintro i x ys σ H2 N hx ⟨u, rfl⟩ ⟨sm2, hy⟩ hN
    obtain ⟨pr, e1, c, rfl, hc⟩ := Paired.at hp hx
    dsimp only [yR, List.set]
    refine zdi ?_
    have hc2 := sm2 _ _ hc
    refine ⟨_, rfl, c, _, _, _, rfl, rfl, SqT.of hc2, zR (j := 0) rfl, _, rfl, c, _, _, _, rfl, rfl, SqT.of hc2, zR (j := 1) rfl, _, _, rfl, fun d hd => ?_⟩
    refine hN _ _ _ ⟨_, rfl⟩ ⟨sm2.trans (Same.new hd), ?_⟩ (by simp)
    rw [zS e1, List.map_append]
    exact L2.Paired.snoc (yE hy (Same.new hd)) ⟨d, rfl, zC⟩
   ·rintro ys H2 ⟨sm2, hy⟩ p hp2
    have e2 : ps.take xs.length = ps := by rw [xl]; exact List.take_length
    rw [e2] at hy
    refine ⟨p, ys, rfl, .inl ⟨SqL.of zC, fun l hl2 => ⟨by show 2 <= sizeLine; decide, fun c hc => ?_⟩⟩⟩
    have s1 : Same H2 (upd H2 p (.lst ys)) := Same.new hp2
    have s2 := Same.new (o := HO.tup ys) hl2
    have s3 := Same.new (o := HO.tup [.int n, .ref l]) hc
    refine q _ _ (sm2.trans (s1.trans (s2.trans s3))) ⟨c, l, ys, rfl, zC, s3 _ _ zC, yE hy (s1.trans (s2.trans s3))⟩
theorem zxz : zJ ["web", "k"] ["web", "k"] (zB zga) := ⟨rfl, rfl, rfl, by decide +kernel, rfl, by decide +kernel, by decide +kernel⟩
theorem zvd (S : Src K mg "left_out" zga ["web", "k"]) (DN : Def P w K mg base 3 "refuse_no_tie_of" ["web", "k"] zbz) : Def P w K mg base 4 "left_out" ["web", "k"] zay := by
 refine S.def zxz (fun vs H Q E h => ?_) (fun f cdv A outer s H vs Q E hr h => ?_)
 ·obtain ⟨_, _, _, _, rfl, _⟩ := h; rfl
 ·obtain ⟨wv, n, qs, j, rfl, W, hl8, jl, q⟩ := h
  obtain ⟨c, d, xs, rfl, hc', hd, ht⟩ := id W.ex
  have xl : xs.length = qs.length := Paired.length ht
  refine ⟨_, zE (wZ (zP DN hr rfl (zA (pv 0) (zA (pv 1) zD))))
   (zF (zK (y9 (zA (yD (zQ K) (pv 0) zG (fun _ _ => rfl)) (zA (yB (zce K) (vC (zey K) (yD (zQ K) (pv 0) zG (fun _ _ => rfl)) kQ (vO (pv 1)))
    (vC (zey K) (yD (zQ K) (pv 0) zG (fun _ _ => rfl)) (vO (yB xH (pv 1) zG)) kQ)) zD))))), ?_⟩
  have i1 : atI ([.int n, .ref d] : List V) 1 = some (.ref d) := zR (j := 1) rfl
  have i0 : atI ([.int n, .ref d] : List V) 0 = some (.int n) := zR (j := 0) rfl
  refine ⟨_, rfl, _, rfl, .ref c, n, qs, (j : Int), rfl, W, by lia, by lia, ?_⟩
  refine ⟨_, rfl, c, _, _, _, rfl, rfl, SqT.of hc', i0, _, rfl, c, _, _, _, rfl, rfl, SqT.of hc', i1, _, rfl, _, rfl, d, xs, rfl, SqT.of hd, ?_, fun p1 hp1 => ?_⟩
  ·rintro ⟨_, z⟩
   rw [HT.sIx_nat] at z
   lia
  rw [zlz]
  have s1 := Same.new (o := HO.tup (xs.take j)) hp1
  have h1 : (upd H p1 (.tup (xs.take j))) p1 = some (.tup (xs.take j)) := zC
  generalize upd H p1 (.tup (xs.take j)) = H1 at s1 h1 ⊢
  refine ⟨_, rfl, c, _, _, _, rfl, rfl, SqT.of (s1 _ _ hc'), i1, _, rfl, _, _, rfl, rfl, _, rfl, d, xs, rfl, SqT.of (s1 _ _ hd), ?_, fun p2 hp2 => ?_⟩
  ·rintro ⟨z, _⟩
   rw [show ((j : Int) + 1) = ((j + 1 : Nat) : Int) by lia, HT.sIx_nat] at z
   lia
  rw [zly]
  have s2 := Same.new (o := HO.tup (xs.drop (j + 1))) hp2
  have h2 : (upd H1 p2 (.tup (xs.drop (j + 1)))) p2 = some (.tup (xs.drop (j + 1))) := zC
  have h1' := s2 _ _ h1
  generalize upd H1 p2 (.tup (xs.drop (j + 1))) = H2 at s2 h2 h1' ⊢
  refine ⟨p1, p2, _, _, rfl, rfl, h1', h2, ?_, fun p H3 s3 h3 => ⟨by show 2 <= sizeLine; decide, fun c2 hc2 => ?_⟩⟩
  ·rw [List.length_take, List.length_drop]
   exact Nat.le_trans (show _ <= 16 by lia) (by decide)
  have s4 := Same.new (o := HO.tup [.int n, .ref p]) hc2
  refine q _ _ (((s1.trans s2).trans s3).trans s4) ⟨c2, p, _, rfl, zC, s4 _ _ h3, ?_⟩
  exact yE (Paired.app (L2.Paired.take j ht) (Paired.drop (j + 1) ht)) (((s1.trans s2).trans s3).trans s4)
theorem ztj : zJ ["point", "low", "high"] ["point", "low", "high"] (zB zag) := ⟨rfl, rfl, rfl, by decide +kernel, rfl, by decide +kernel, by decide +kernel⟩
theorem zuz (S : Src K mg "moved" zag ["point", "low", "high"]) : Def P w K mg base 1 "moved" ["point", "low", "high"] zko := by
 refine S.def ztj (fun vs H Q E h => ?_) (fun f cdv A outer s H vs Q E hr h => ?_)
 ·obtain ⟨_, _, _, rfl, _⟩ := h; rfl
 ·obtain ⟨p, lo, hi, rfl, q⟩ := h
  refine ⟨_, zE (xC (zX kF (pv 0) (pv 2) (yF _)) (zF (zK (pv 1))) yC)
   (zF (zK (kE (zX zso (pv 0) (pv 2) (yF _)) (yB zao (pv 0) zG) (pv 0)))), ?_⟩
  unfold mvL at q
  refine ⟨_, rfl, _, rfl, rfl, _, rfl, ?_⟩
  by_cases h1 : p = hi
  ·rw [decide_eq_true (show V.int p = V.int hi by rw [h1])]
   rw [if_pos h1] at q
   exact jH ⟨_, rfl, q⟩
  ·rw [decide_eq_false (show ¬ V.int p = V.int hi from fun z => h1 (by injection z))]
   rw [if_neg h1] at q
   refine xD ⟨_, rfl, _, rfl, _, _, rfl, rfl, _, rfl, ?_⟩
   by_cases h2 : hi < p
   ·rw [decide_eq_true h2]
    rw [if_pos h2] at q
    exact jH ⟨_, rfl, _, _, rfl, rfl, q⟩
   ·rw [decide_eq_false h2]
    rw [if_neg h2] at q
    exact xD ⟨_, rfl, q⟩
theorem scDrawn : zJ ["web", "k", "rest", "low", "high", "ties"] ["web", "k"] (zB zak) := ⟨rfl, rfl, rfl, by decide +kernel, rfl, by decide +kernel, by decide +kernel⟩
theorem ndD : (["a", "b", "high", "low"] : List Str).Nodup := by decide +kernel
theorem zxe {α : Type} (qs : List α) (j : Nat) : (wo qs j).length <= qs.length := by unfold wo; rw [List.length_append, List.length_take, List.length_drop]; lia
theorem zqv (T : Txt K mg) (S : Src K mg "drawn_together" zak ["web", "k"]) (DL : Def P w K mg base 4 "left_out" ["web", "k"] zay) (DM : Def P w K mg base 1 "moved" ["point", "low", "high"] zko)
  (DF : Def P w K mg base 1 "lesser_first" ["a", "b"] zjr) : Def P w K mg base 5 "drawn_together" ["web", "k"] zca := by
 refine S.def scDrawn (fun vs H Q E h => ?_) (fun f cdv A outer s H vs Q E hr h => ?_)
 ·obtain ⟨_, _, _, _, rfl, _⟩ := h; rfl
 ·obtain ⟨wv, n, qs, j, rfl, W, hl8, jl, q⟩ := h
  obtain ⟨c, d, xs, rfl, hc', hd, ht⟩ := id W.ex
  have xl : xs.length = qs.length := Paired.length ht
  have hr1 : Room 1 _ := hr.mono (by decide)
  refine ⟨_, zE (zT (i := 2) scDrawn.nd rfl (Or.inl rfl) (zP DL hr rfl (zA (pv 0) (zA (pv 1) zD))))
   (zE (zT (i := 3) scDrawn.nd rfl (Or.inr rfl) (yD (zQ K) (yD (zQ K) (yD (zQ K) (pv 0) zG (fun _ _ => rfl)) (pv 1) (fun _ _ => rfl)) zG (fun _ _ => rfl)))
   (zE (zT (i := 4) scDrawn.nd rfl (Or.inr rfl) (yD (zQ K) (yD (zQ K) (yD (zQ K) (pv 0) zG (fun _ _ => rfl)) (pv 1) (fun _ _ => rfl)) zG (fun _ _ => rfl)))
   (zE (xC (zX kF (pv 3) (pv 4) (yF _)) (zF (zK (pv 2))) yC)
   (zE (jP (i := 5) scDrawn.nd rfl (Or.inl rfl) (N' := ["a", "b", "high", "low"]) (fr := [none, none, some 4, some 3]) (yM (by rfl)) rfl (yT K .t (yD (zQ K) (pv 2) zG (fun _ _ => rfl)))
    (g := zls K 2 (wW (yR 0) (wW (yR 1) zou))) (fun _ _ _ _ => xQ K 2 rfl (zU (zM (i := 0) ndD rfl (Or.inl rfl) (Or.inr rfl)) (zU (zM (i := 1) ndD rfl (Or.inl rfl) (Or.inr rfl)) xP)))
    (fun _ _ _ _ => xG) (fun _ _ _ _ => zP DF hr1 rfl (zA (zP DM hr1 rfl (zA (pv 0) (zA (pv 3) (zA (pv 2) zD)))) (zA (zP DM hr1 rfl (zA (pv 1) (zA (pv 3) (zA (pv 2) zD)))) zD))))
   (zF (zK (y9 (zA (yB zao (yD (zQ K) (pv 0) zG (fun _ _ => rfl)) zG) (zA (yA (yX K) rfl T.tuple yL (zA (pv 5) zD)) zD))))))))), ?_⟩
  have i1 : atI ([.int n, .ref d] : List V) 1 = some (.ref d) := zR (j := 1) rfl
  have i0 : atI ([.int n, .ref d] : List V) 0 = some (.int n) := zR (j := 0) rfl
  refine ⟨_, rfl, _, rfl, .ref c, n, qs, j, rfl, W, hl8, jl, fun w1 H1 s1 W1 => ?_⟩
  obtain ⟨a, e3, ha⟩ := zgm ht (k := (j : Int)) (by lia) (by lia)
  generalize zN qs (j : Int) = p at ha q
  have t0 : atI ([.int p.1, .int p.2] : List V) 0 = some (.int p.1) := zR (j := 0) rfl
  have t1 : atI ([.int p.1, .int p.2] : List V) 1 = some (.int p.2) := zR (j := 1) rfl
  have hc1 := s1 _ _ hc'
  have hd1 := s1 _ _ hd
  have ha1 := s1 _ _ ha
  refine ⟨_, rfl, c, _, _, _, rfl, rfl, SqT.of hc1, i1, _, rfl, d, _, _, _, rfl, rfl, SqT.of hd1, e3, a, _, _, _, rfl, rfl, SqT.of ha1, t0, ?_⟩
  refine ⟨_, rfl, c, _, _, _, rfl, rfl, SqT.of hc1, i1, _, rfl, d, _, _, _, rfl, rfl, SqT.of hd1, e3, a, _, _, _, rfl, rfl, SqT.of ha1, t1, ?_⟩
  refine ⟨_, rfl, _, rfl, rfl, _, rfl, ?_⟩
  unfold zke zZ at q
  by_cases he : p.1 = p.2
  ·rw [decide_eq_true (show V.int p.1 = V.int p.2 by rw [he])]
   simp only [if_pos he] at q
   exact jH ⟨_, rfl, q w1 H1 s1 W1⟩
  ·rw [decide_eq_false (show ¬ V.int p.1 = V.int p.2 from fun z => he (by injection z))]
   simp only [if_neg he] at q
   refine xD ?_
   obtain ⟨c1, d1, ys, rfl, hcr, hdr, htr⟩ := W1.ex
   have j1 : atI ([.int n, .ref d1] : List V) 1 = some (.ref d1) := zR (j := 1) rfl
   have yl : ys.length = (wo qs j).length := Paired.length htr
   have wl := zxe qs j
   refine ⟨_, rfl, c1, _, _, _, rfl, rfl, SqT.of hcr, j1, d1, rfl, ⟨_, SqT.of hdr⟩, yZ (k := .t) (a := d1) (xs := ys) (fun σ => ∃ u v, σ = [u, v, some (.int p.2), some (.int p.1)]) (fun i zs H2 => Same H1 H2 /\ Paired (TieAt H2) zs (((wo qs j).take i).map fun r => xJ (mvL p.1 p.2 r.1, mvL p.1 p.2 r.2))) ⟨_, _, rfl⟩ ⟨Same.refl _, .nil⟩ (vJ (by lia)) (fun i zs H2 _ z => SqT.of (z.1 _ _ hdr)) ?_ ?_⟩
   ·rintro i x zs σ H2 N hx ⟨u, v, rfl⟩ ⟨sm, hz⟩ hN
    obtain ⟨pr, e1, b, rfl, hb⟩ := Paired.at htr hx
    refine ⟨b, _, rfl, SqT.of (sm _ _ hb), rfl, _, _, rfl, _, _, rfl, rfl, ?_⟩
    dsimp only [yR, List.set]
    refine zdi ?_
    refine ⟨_, rfl, _, rfl, _, rfl, _, _, _, rfl, _, rfl, _, rfl, _, rfl, _, _, _, rfl, _, _, rfl, fun d2 hd2 => ?_⟩
    refine hN _ _ _ ⟨_, _, rfl⟩ ⟨sm.trans (Same.new hd2), ?_⟩ (by simp)
    rw [zS e1, List.map_append]
    exact L2.Paired.snoc (yE hz (Same.new hd2)) ⟨d2, rfl, zC⟩
   ·rintro zs H2 ⟨sm, hz⟩ r hr2
    rw [yl, List.take_length] at hz
    have s3 := Same.new (o := HO.lst zs) hr2
    have h3 : (upd H2 r (.lst zs)) r = some (.lst zs) := zC
    generalize upd H2 r (.lst zs) = H3 at s3 h3 ⊢
    have s13 := sm.trans s3
    refine ⟨_, rfl, c, _, _, _, rfl, rfl, SqT.of (s13 _ _ hc1), i0, _, _, rfl, rfl, _, rfl, r, zs, rfl, .inl ⟨SqL.of h3, fun l hl => ⟨by show 2 <= sizeLine; decide, fun c2 hc2 => ?_⟩⟩⟩
    have s4 := Same.new (o := HO.tup zs) hl
    have s5 := Same.new (o := HO.tup [.int (n - 1), .ref l]) hc2
    refine q _ _ ((s1.trans s13).trans (s4.trans s5)) ⟨c2, l, zs, rfl, zC, s5 _ _ zC, yE hz (s3.trans (s4.trans s5))⟩
theorem scKind : zJ ["web", "k", "tie", "others"] ["web", "k"] (zB zgb) := ⟨rfl, rfl, rfl, by decide +kernel, rfl, by decide +kernel, by decide +kernel⟩
theorem nd5 : (["other", "k"] : List Str).Nodup := by decide +kernel
theorem zve (T : Txt K mg) (S : Src K mg "kind_of" zgb ["web", "k"]) (DN : Def P w K mg base 3 "refuse_no_tie_of" ["web", "k"] zbz) (DP : Def P w K mg base 1 "whole_pick" ["web"] zii)
  (DR : Def P w K mg base 2 "rank_of" ["web", "pick"] (zjq K)) (DRW : Def P w K mg base 3 "rank_of_web" ["web"] (zkl K)) : Def P w K mg base 4 "kind_of" ["web", "k"] (zex K) := by
 refine S.def scKind (fun vs H Q E h => ?_) (fun f cdv A outer s H vs Q E hr h => ?_)
 ·obtain ⟨_, _, _, _, rfl, _⟩ := h; rfl
 ·obtain ⟨wv, n, ps, k, rfl, W, ⟨⟨n1, n9⟩, hb, hl8⟩, k0, kl, q⟩ := h
  obtain ⟨c, d, xs, rfl, hc', hd, ht⟩ := id W.ex
  have hr1 : Room 1 _ := hr.mono (by decide)
  have hr2 : Room 2 _ := hr.mono (by decide)
  have hr3 : Room 3 _ := hr.mono (by decide)
  refine ⟨_, zE (wZ (zP DN hr rfl (zA (pv 0) (zA (pv 1) zD))))
   (zE (zT (i := 2) scKind.nd rfl (Or.inl rfl) (yD (zQ K) (yD (zQ K) (pv 0) zG (fun _ _ => rfl)) (pv 1) (fun _ _ => rfl)))
   (zE (xC (zX kF (yD (zQ K) (pv 2) zG (fun _ _ => rfl)) (yD (zQ K) (pv 2) zG (fun _ _ => rfl)) (yF _)) (zF (zK zcu)) yC)
   (zE (zT (i := 3) scKind.nd rfl (Or.inl rfl) (yA (yX K) rfl T.tuple yL (zA (xI (N' := ["other", "k"]) (fr := [none, some 1]) (yM (by rfl)) rfl (yT K .t (zP DP hr1 rfl (zA (pv 0) zD)))
    (fun _ _ _ _ => zM (i := 0) nd5 rfl (Or.inl rfl) (Or.inr rfl)) (fun _ _ _ _ => qB (zX zbj (pv 0) (pv 1) (yF _))) (fun _ _ _ _ => pv 0)) zD)))
   (zE (xC (zX zwe (zP DR hr2 rfl (zA (pv 0) (zA (pv 3) zD))) (zP DRW hr3 rfl (zA (pv 0) zD)) (yF _)) (zF (zK zcu)) yC)
   (zF (zK zcu)))))), ?_⟩
  have i1 : atI ([.int n, .ref d] : List V) 1 = some (.ref d) := zR (j := 1) rfl
  have i0 : atI ([.int n, .ref d] : List V) 0 = some (.int n) := zR (j := 0) rfl
  refine ⟨_, rfl, _, rfl, .ref c, n, ps, k, rfl, W, k0, kl, ?_⟩
  obtain ⟨tc, et, htc⟩ := zgm ht k0 kl
  refine ⟨_, rfl, c, _, _, _, rfl, rfl, SqT.of hc', i1, _, rfl, d, _, _, _, rfl, rfl, SqT.of hd, et, ?_⟩
  have t0 : atI ([.int (zN ps k).1, .int (zN ps k).2] : List V) 0 = some (.int (zN ps k).1) := zR (j := 0) rfl
  have t1 : atI ([.int (zN ps k).1, .int (zN ps k).2] : List V) 1 = some (.int (zN ps k).2) := zR (j := 1) rfl
  refine ⟨_, rfl, tc, _, _, _, rfl, rfl, SqT.of htc, t0, _, rfl, tc, _, _, _, rfl, rfl, SqT.of htc, t1, rfl, _, rfl, ?_⟩
  by_cases he : (zN ps k).1 = (zN ps k).2
  ·rw [decide_eq_true (show V.int (zN ps k).1 = V.int (zN ps k).2 by rw [he])]
   refine jH ?_
   have q' := q H (Same.refl H)
   unfold zol at q'
   rw [if_pos he] at q'
   exact q'
  ·rw [decide_eq_false (show ¬ V.int (zN ps k).1 = V.int (zN ps k).2 from fun z => he (by injection z))]
   refine xD ?_
   unfold zol at q
   rw [if_neg he] at q
   refine ⟨_, rfl, .ref c, n, ps, rfl, W, hl8, fun t H1 s1 ht1 => ?_⟩
   refine ⟨t, rfl, ⟨_, FzT.sq ht1⟩, yZ (k := .t) (a := t) (xs := (ups ps.length).map V.int) (fun σ => ∃ v, σ = [v, some (.int k)]) (fun j ys H2 => H2 = H1 /\ ys = (((ups ps.length).take j).filter fun j => !decide (j = k)).map V.int) ⟨_, rfl⟩ ⟨rfl, rfl⟩ (by rw [List.length_map, yW]; exact wT (by lia)) (fun j ys H2 _ z => by rw [z.1]; exact FzT.sq ht1) ?_ ?_⟩
   ·rintro j x ys σ H2 N hx ⟨u, rfl⟩ ⟨rfl, rfl⟩ hN
    obtain ⟨h0, eh, rfl⟩ := xR hx
    dsimp only [yR, List.set]
    refine ⟨_, rfl, _, rfl, rfl, _, rfl, ?_⟩
    rw [dec_int]
    refine zwo (fun z => ⟨_, rfl, ?_⟩) (fun z => ?_)
    ·refine hN _ _ _ ⟨_, rfl⟩ ⟨rfl, ?_⟩ (by simp)
     rw [zdy _ eh, if_pos z, List.map_append]
     rfl
    ·refine hN _ _ _ ⟨_, rfl⟩ ⟨rfl, ?_⟩ (by simp)
     rw [zdy _ eh, if_neg z, List.append_nil]
   ·rintro ys H2 ⟨rfl, rfl⟩ p hp
    have el : ((ups (ps.length : Int)).map V.int).length = ps.length := by rw [List.length_map, yW]; lia
    rw [el, List.take_of_length_le (by rw [yW]; lia), show List.filter (fun j => !decide (j = k)) (ups ps.length) = oth ps.length k from rfl]
    have s2 := Same.new (o := HO.lst ((oth ps.length k).map V.int)) hp
    refine ⟨p, (oth ps.length k).map V.int, rfl, .inl ⟨SqL.of zC, fun l hl => ?_⟩⟩
    have s3 := Same.new (o := HO.tup ((oth ps.length k).map V.int)) hl
    have hl3 : (upd (upd H2 p (.lst ((oth ps.length k).map V.int))) l (.tup ((oth ps.length k).map V.int))) l = some (.tup ((oth ps.length k).map V.int)) := zC
    have s13 := (s1.trans s2).trans s3
    generalize upd (upd H2 p (.lst ((oth ps.length k).map V.int))) l (.tup ((oth ps.length k).map V.int)) = H3 at s13 hl3 ⊢
    refine ⟨_, rfl, _, rfl, .ref c, l, n, ps, oth ps.length k, rfl, W.same s13, n1, n9, hb, SqT.of hl3, zgg _ _, fun H4 s4 => ?_⟩
    have s14 := s13.trans s4
    refine ⟨_, rfl, .ref c, n, ps, rfl, W.same s14, n1, n9, hb, hl8, fun H6 s6 => ⟨_, _, rfl, rfl, _, rfl, ?_⟩⟩
    have q' := q H6 (s14.trans s6)
    show if decide (rkP n ps (oth ps.length k) < yS n ps) = true then _ else _
    by_cases hlt : rkP n ps (oth ps.length k) < yS n ps
    ·rw [decide_eq_true hlt]
     rw [if_pos hlt] at q'
     exact jH q'
    ·rw [decide_eq_false hlt]
     rw [if_neg hlt] at q'
     exact xD q'
end
open Builtin.Int (intBits)
def f2 (t r : V) : List (Str × V) := vW "rest" r (vW "tie" t [])
def f3 (t a b : V) : List (Str × V) := vW "within" b (vW "without" a (vW "tie" t []))
theorem zEc : ¬ (("tie" : Str) = "rest") := by decide +kernel
theorem zEe : ¬ (("poly" : Str) = "rest") := by decide +kernel
theorem zCr : ¬ (("poly" : Str) = "tie") := by decide +kernel
theorem zEg : ¬ (("poly" : Str) = "within") := by decide +kernel
theorem zEf : ¬ (("poly" : Str) = "without") := by decide +kernel
theorem zEd : ¬ (("tie" : Str) = "within") := by decide +kernel
theorem zCq : ¬ (("tie" : Str) = "without") := by decide +kernel
theorem zEh : ¬ (("without" : Str) = "within") := by decide +kernel
theorem jI (t r : V) : (f2 t r).lookup ("rest" : Str) = some r := by unfold f2; rw [zL, if_pos rfl]
theorem zlt (t r : V) : (f2 t r).lookup ("poly" : Str) = none := by unfold f2; rw [zL, if_neg zEe, zL, if_neg zCr]; rfl
theorem zsr (t a b : V) : (f3 t a b).lookup ("within" : Str) = some b := by unfold f3; rw [zL, if_pos rfl]
theorem zkb (t a b : V) : (f3 t a b).lookup ("without" : Str) = some a := by unfold f3; rw [zL, if_neg zEh, zL, if_pos rfl]
theorem zuo (t a b : V) : (f3 t a b).lookup ("poly" : Str) = none := by unfold f3; rw [zL, if_neg zEg, zL, if_neg zEf, zL, if_neg zCr]; rfl
def StepAt (CE CC CB CF : Addr) (H : Hp) : Stp -> V -> Prop
 | .fin, v => ∃ a dx, v = .ref a /\ H a = some (.ins CE dx [])
 | .curl t s, v => ∃ a dx r, v = .ref a /\ H a = some (.ins CC dx (f2 (.int t) r)) /\ StepAt CE CC CB CF H s r
 | .bri t s, v => ∃ a dx r, v = .ref a /\ H a = some (.ins CB dx (f2 (.int t) r)) /\ StepAt CE CC CB CF H s r
 | .frk t x y, v => ∃ a dx r u, v = .ref a /\ H a = some (.ins CF dx (f3 (.int t) r u)) /\ StepAt CE CC CB CF H x r /\ StepAt CE CC CB CF H y u
theorem StepAt.same {CE CC CB CF : Addr} {H H' : Hp} (s : Same H H') : ∀ {S : Stp} {v : V}, StepAt CE CC CB CF H S v -> StepAt CE CC CB CF H' S v
 | .fin, _, ⟨a, dx, e, h⟩ => ⟨a, dx, e, s _ _ h⟩
 | .curl _ _, _, ⟨a, dx, r, e, h, z⟩ => ⟨a, dx, r, e, s _ _ h, StepAt.same s z⟩
 | .bri _ _, _, ⟨a, dx, r, e, h, z⟩ => ⟨a, dx, r, e, s _ _ h, StepAt.same s z⟩
 | .frk _ _ _, _, ⟨a, dx, r, u, e, h, z, y⟩ => ⟨a, dx, r, u, e, s _ _ h, StepAt.same s z, StepAt.same s y⟩
def Stp.hd : Stp -> Nat
 | .fin => 0 | .curl _ _ => 1 | .bri _ _ => 2 | .frk _ _ _ => 3
theorem zzd {ts L : List T3} (pi : PolyIs ts L) {u : T3} (hu : u ∈ L) : ∃ v ∈ ts, v.1 = u.1 /\ v.2.1 = u.2.1 := by
 obtain ⟨h1, h2⟩ := (pi.mem u).mp hu
 by_cases c : ∃ v ∈ ts, k3 v = k3 u
 ·obtain ⟨v, hv, e⟩ := c
  have e1 : (k3 v).1 = (k3 u).1 := by rw [e]
  have e2 : (k3 v).2 = (k3 u).2 := by rw [e]
  exact ⟨v, hv, e1, e2⟩
 ·exact absurd (h2.trans (wQ fun v hv e => c ⟨v, hv, e⟩)) h1
theorem zmb : ∀ {ts : List T3}, (∀ t ∈ ts, t.2.2 = 1) -> ∀ k, 0 <= coef ts k /\ coef ts k <= ts.length
 | [], _, k => ⟨Int.le_refl _, Int.le_refl _⟩
 | t :: ts, h, k => by
  have ih := zmb (fun u hu => h u (List.mem_cons_of_mem _ hu)) k
  have h1 := h t List.mem_cons_self
  rw [yG, List.length_cons]
  split <;> lia
theorem qA {S : Stp} {L : List T3} (pi : PolyIs S.terms L) (d8 : S.deep <= 8) : ∀ u ∈ L, 0 <= u.1 /\ 0 <= u.2.1 /\ u.1 + u.2.1 <= S.deep /\ intBits u.2.2 <= 17 := fun u hu => by
 obtain ⟨v, hv, e1, e2⟩ := zzd pi hu
 have i := S.terms_in v hv
 have c := zmb (fun t ht => (S.terms_in t ht).2.2.2) (k3 u)
 have l := S.terms_len
 have p : 2 ^ S.deep <= 2 ^ 8 := Nat.pow_le_pow_right (by decide) d8
 have e := ((pi.mem u).mp hu).2
 have p8 : (2 : Nat) ^ 8 = 256 := rfl
 refine ⟨by lia, by lia, by lia, intBits_le_iff.mpr (show u.2.2.natAbs < 2 ^ 17 from ?_)⟩
 have p17 : (2 : Nat) ^ 17 = 131072 := rfl
 lia
theorem v7 {S : Stp} (d8 : S.deep <= 8) : S.terms.length <= 256 := Nat.le_trans S.terms_len (Nat.pow_le_pow_right (by decide) d8)
theorem zyu : PolyIs Stp.fin.terms [(0, 0, 1)] := ⟨by simp, fun t => by
 obtain ⟨a, b, c⟩ := t
 show (a, b, c) ∈ ([(0, 0, 1)] : List T3) ↔ c ≠ 0 /\ c = coef [(0, 0, 1)] (a, b)
 rw [yG, show coef [] (a, b) = 0 from rfl, List.mem_singleton, Int.add_zero]
 show (a, b, c) = (0, 0, 1) ↔ c ≠ 0 /\ c = if ((0 : Int), (0 : Int)) = (a, b) then 1 else 0
 by_cases h : ((0 : Int), (0 : Int)) = (a, b)
 ·rw [if_pos h]
  rw [Prod.mk.injEq] at h
  obtain ⟨rfl, rfl⟩ := h
  constructor
  ·intro z; rw [Prod.mk.injEq, Prod.mk.injEq] at z; lia
  ·intro z; rw [z.2]
 ·rw [if_neg h]
  constructor
  ·intro z
   rw [Prod.mk.injEq, Prod.mk.injEq] at z
   exact absurd (by rw [z.1, z.2.1]) h
  ·intro z; exact absurd z.2 z.1⟩
theorem PolyIs.of_coef {ts us L : List T3} (h : PolyIs ts L) (e : ∀ k, My.coef ts k = My.coef us k) : PolyIs us L := ⟨h.up, fun t => by rw [h.mem t, e]⟩
theorem v9 (t : T3) (L : List T3) : vG [t] L = L.map (zdu t) := by
 unfold vG
 simp
theorem zhf {S : Stp} {L M : List T3} {a b : Int} (pi : PolyIs S.terms L) (pm : PolyIs (vG [(a, b, 1)] L) M) : PolyIs (S.terms.map (zdu (a, b, 1))) M := pm.of_coef fun k => by
 rw [v9, wS, wS, pi.coef]
theorem zvm {S U : Stp} {L M N : List T3} (pi : PolyIs S.terms L) (pj : PolyIs U.terms M) (pn : PolyIs (L ++ M) N) : PolyIs (S.terms ++ U.terms) N := pn.of_coef fun k => by
 rw [qF, qF, pi.coef, pj.coef]
def zaz (C : Addr) : Sp := fun vs H Q _ => ∃ (p dx : Addr) (t r : V), vs = [.ref p, t, r] /\ H p = some (.ins C dx []) /\ Q .non (upd H p (.ins C dx (f2 t r)))
def zkr (C : Addr) : Sp := fun vs H Q _ => ∃ (p dx : Addr) (t r u : V), vs = [.ref p, t, r, u] /\ H p = some (.ins C dx []) /\ Q .non (upd H p (.ins C dx (f3 t r u)))
def zjp (K : W.Frag) : Sp := fun vs H Q _ => ∃ (v u : V) (ts us : List T3), vs = [v, u] /\ PolyK K H v ts /\ PolyK K H u us /\ ts.length + us.length < 100000 /\ Bd (ts ++ us) /\
 ∀ x L H', Same H H' -> PolyIs (ts ++ us) L -> L.length <= (ts ++ us).length -> PolyAt H' x L -> Q x H'
def wK (K : W.Frag) (CE CC CB CF : Addr) (c d : Nat) : Sp := fun vs H Q _ => ∃ (v : V) (S : Stp), vs = [v] /\ StepAt CE CC CB CF H S v /\ S.hd = c /\ S.deep <= d /\ d <= 8 /\ ∀ pv L H', Same H H' -> PolyIs S.terms L -> L.length <= S.terms.length -> PolyK K H' pv L -> Q pv H'
def zem (K : W.Frag) (C : Addr) (m qn : Str) (st : Stmt) (ps : List Str) : Prop := ∃ f fd, jZ K C m f /\ Fun K m qn st f fd /\ Binds K fd ps []
def MkO (K : W.Frag) (C : Addr) (qn : Str) (st : Stmt) (ps : List Str) : Prop := ∃ f fd, Mk K C f /\ Fun K "__init__" qn st f fd /\ Binds K fd ps []
structure StK (K : W.Frag) (mg : Str -> Option Value) (CE CC CB CF : Addr) : Prop where
 clE : Cls K CE
 clC : Cls K CC
 clB : Cls K CB
 clF : Cls K CF
 c1 : NoAttr K CC "tie"
 c2 : NoAttr K CC "rest"
 b1 : NoAttr K CB "tie"
 b2 : NoAttr K CB "rest"
 x1 : NoAttr K CF "tie"
 x2 : NoAttr K CF "without"
 x3 : NoAttr K CF "within"
 mE : Mk0 K CE
 iC : MkO K CC "Curl.__init__" q9 ["self", "tie", "rest"]
 iB : MkO K CB "Bridge.__init__" jC ["self", "tie", "rest"]
 iF : MkO K CF "Fork.__init__" qW ["self", "tie", "without", "within"]
 gE : mg "End" = some (.ref CE)
 gC : mg "Curl" = some (.ref CC)
 gB : mg "Bridge" = some (.ref CB)
 gF : mg "Fork" = some (.ref CF)
 pE : zem K CE "poly" "End.poly" qX ["self"]
 pC : zem K CC "poly" "Curl.poly" qZ ["self"]
 pB : zem K CB "poly" "Bridge.poly" jA ["self"]
 pF : zem K CF "poly" "Fork.poly" qU ["self"]
structure zjl (K : W.Frag) (mg : Str -> Option Value) (x : Str) (L : List T3) : Prop where
 ex : ∃ oa, mg x = some (.ref oa) /\ ∀ H, PolyK K H (.ref oa) L
section
variable {P : Program} {w : World} {K : W.Frag} {mg : Str -> Option Value} {base : Heap} {CE CC CB CF : Addr}
theorem ztf : zJ ["one", "other"] ["one", "other"] (zB zab) := ⟨rfl, rfl, rfl, by decide +kernel, rfl, by decide +kernel, by decide +kernel⟩
theorem zzr (S : Src K mg "sum_of" zab ["one", "other"]) (DG : Def P w K mg base 1 "gathered" ["terms"] (zjs K)) : Def P w K mg base 2 "sum_of" ["one", "other"] (zjp K) := by
 refine S.def ztf (fun vs H Q E h => ?_) (fun f cdv A outer s H vs Q E hr h => ?_)
 ·obtain ⟨_, _, _, _, rfl, _⟩ := h; rfl
 ·obtain ⟨v, u, ts, us, rfl, pv', pu', hl, bd, q⟩ := h
  obtain ⟨c, rs, rfl, hc, ht⟩ := pv'.ex
  obtain ⟨d, rs2, rfl, hd, ht2⟩ := pu'.ex
  have l1 := Paired.length ht
  have l2 := Paired.length ht2
  refine ⟨_, zF (zK (zP DG hr rfl (zA (yB ztu (pv 0) (pv 1)) zD))), ?_⟩
  refine ⟨_, rfl, _, rfl, c, d, rs, rs2, rfl, rfl, hc, hd, Nat.le_of_lt (zfi (by lia)), fun p H1 s1 hp => ?_⟩
  refine ⟨.t, p, rs ++ rs2, ts ++ us, rfl, hp, zbi (vY ht s1) (vY ht2 s1), by rw [List.length_append]; exact hl, bd, fun x L H2 s2 pi pl pa => ?_⟩
  exact q x L H2 (s1.trans s2) pi pl pa
theorem zDx : zJ ["self", "tie", "rest"] ["self", "tie", "rest"] (zB q9) := ⟨rfl, rfl, rfl, by decide +kernel, rfl, by decide +kernel, by decide +kernel⟩
theorem zBs {f C : Addr} {fd : FuncData} (F : Fun K "__init__" "Curl.__init__" q9 f fd) (cl : Cls K C) (n1 : NoAttr K C "tie") (n2 : NoAttr K C "rest") : FnOk P w K mg base CX0 1 f fd ["self", "tie", "rest"] (zaz C) := by
 refine F.ok zDx (fun vs H Q E h => ?_) (fun cdv A outer s H vs Q E hr h => ?_)
 ·obtain ⟨_, _, _, _, rfl, _⟩ := h; rfl
 ·obtain ⟨p, dx, t, r, rfl, hp, q⟩ := h
  refine ⟨_, zE (j6 (pv 0) (pv 1) rfl) (zF (j6 (pv 0) (pv 2) rfl)), ?_⟩
  refine ⟨_, rfl, _, rfl, p, C, dx, [], rfl, hp, cl, n1, (by show 0 < 1000; decide), _, rfl, _, rfl, p, C, dx, _, rfl, zC, cl, n2, (by show 1 < 1000; decide), ?_⟩
  rw [zav]
  exact q
theorem zEa : zJ ["self", "tie", "rest"] ["self", "tie", "rest"] (zB jC) := ⟨rfl, rfl, rfl, by decide +kernel, rfl, by decide +kernel, by decide +kernel⟩
theorem zBw {f C : Addr} {fd : FuncData} (F : Fun K "__init__" "Bridge.__init__" jC f fd) (cl : Cls K C) (n1 : NoAttr K C "tie") (n2 : NoAttr K C "rest") : FnOk P w K mg base CX0 1 f fd ["self", "tie", "rest"] (zaz C) := by
 refine F.ok zEa (fun vs H Q E h => ?_) (fun cdv A outer s H vs Q E hr h => ?_)
 ·obtain ⟨_, _, _, _, rfl, _⟩ := h; rfl
 ·obtain ⟨p, dx, t, r, rfl, hp, q⟩ := h
  refine ⟨_, zE (j6 (pv 0) (pv 1) rfl) (zF (j6 (pv 0) (pv 2) rfl)), ?_⟩
  refine ⟨_, rfl, _, rfl, p, C, dx, [], rfl, hp, cl, n1, (by show 0 < 1000; decide), _, rfl, _, rfl, p, C, dx, _, rfl, zC, cl, n2, (by show 1 < 1000; decide), ?_⟩
  rw [zav]
  exact q
theorem zDr : zJ ["self", "tie", "without", "within"] ["self", "tie", "without", "within"] (zB qW) := ⟨rfl, rfl, rfl, by decide +kernel, rfl, by decide +kernel, by decide +kernel⟩
theorem zBo {f C : Addr} {fd : FuncData} (F : Fun K "__init__" "Fork.__init__" qW f fd) (cl : Cls K C) (n1 : NoAttr K C "tie") (n2 : NoAttr K C "without") (n3 : NoAttr K C "within") : FnOk P w K mg base CX0 1 f fd ["self", "tie", "without", "within"] (zkr C) := by
 refine F.ok zDr (fun vs H Q E h => ?_) (fun cdv A outer s H vs Q E hr h => ?_)
 ·obtain ⟨_, _, _, _, _, rfl, _⟩ := h; rfl
 ·obtain ⟨p, dx, t, r, u, rfl, hp, q⟩ := h
  refine ⟨_, zE (j6 (pv 0) (pv 1) rfl) (zE (j6 (pv 0) (pv 2) rfl) (zF (j6 (pv 0) (pv 3) rfl))), ?_⟩
  refine ⟨_, rfl, _, rfl, p, C, dx, [], rfl, hp, cl, n1, (by show 0 < 1000; decide), _, rfl, _, rfl, p, C, dx, _, rfl, zC, cl, n2, (by show 1 < 1000; decide), ?_⟩
  rw [zav]
  refine ⟨_, rfl, _, rfl, p, C, dx, _, rfl, zC, cl, n3, ?_, ?_⟩
  ·show (vW "without" r [(("tie" : Str), t)]).length < 1000
   show (if ("tie" : Str) = "without" then _ else _ : List (Str × V)).length < 1000
   rw [if_neg zCq]
   show 2 < 1000
   decide
  rw [zav]
  exact q
structure jK (P : Program) (w : World) (K : W.Frag) (mg : Str -> Option Value) (base : Heap) (CE CC CB CF : Addr) (d : Nat) : Prop where
 e : ∃ f fd, jZ K CE "poly" f /\ Binds K fd ["self"] [] /\ FnOk P w K mg base CX0 (3 + d) f fd ["self"] (wK K CE CC CB CF 0 d)
 c : ∃ f fd, jZ K CC "poly" f /\ Binds K fd ["self"] [] /\ FnOk P w K mg base CX0 (3 + d) f fd ["self"] (wK K CE CC CB CF 1 d)
 b : ∃ f fd, jZ K CB "poly" f /\ Binds K fd ["self"] [] /\ FnOk P w K mg base CX0 (3 + d) f fd ["self"] (wK K CE CC CB CF 2 d)
 f : ∃ f fd, jZ K CF "poly" f /\ Binds K fd ["self"] [] /\ FnOk P w K mg base CX0 (3 + d) f fd ["self"] (wK K CE CC CB CF 3 d)
theorem wB {A : Around} {d : Nat} (T : StK K mg CE CC CB CF) (O : jK P w K mg base CE CC CB CF d) (R : Room (3 + d) A) {H : Hp} {Q : VK} {r : V} {S : Stp} (hs : StepAt CE CC CB CF H S r) (dp : S.deep <= d) (d8 : d <= 8)
  (q : ∀ pv L H', Same H H' -> PolyIs S.terms L -> L.length <= S.terms.length -> PolyK K H' pv L -> Q pv H') :
  ∃ a C dx fs, r = .ref a /\ H a = some (.ins C dx fs) /\ fs.lookup ("poly" : Str) = none /\
   ∃ (k : Nat) (f : Addr) (fd : FuncData) (ps : List Str) (sp : Sp), Cls K C /\ jZ K C "poly" f /\ FnOk P w K mg base CX0 k f fd ps sp /\ Room k A /\ Binds K fd ps [] /\ sp [r] H Q E0 := by
 cases S with
 | fin =>
  obtain ⟨a, dx, e, h⟩ := id hs
  obtain ⟨f, fd, m, b, F⟩ := O.e
  exact ⟨a, CE, dx, _, e, h, rfl, _, f, fd, _, _, T.clE, m, F, R, b, r, _, rfl, hs, rfl, dp, d8, q⟩
 | curl t s =>
  obtain ⟨a, dx, x, e, h, z⟩ := id hs
  obtain ⟨f, fd, m, b, F⟩ := O.c
  exact ⟨a, CC, dx, _, e, h, zlt _ _, _, f, fd, _, _, T.clC, m, F, R, b, r, _, rfl, hs, rfl, dp, d8, q⟩
 | bri t s =>
  obtain ⟨a, dx, x, e, h, z⟩ := id hs
  obtain ⟨f, fd, m, b, F⟩ := O.b
  exact ⟨a, CB, dx, _, e, h, zlt _ _, _, f, fd, _, _, T.clB, m, F, R, b, r, _, rfl, hs, rfl, dp, d8, q⟩
 | frk t s u =>
  obtain ⟨a, dx, x, y, e, h, z⟩ := id hs
  obtain ⟨f, fd, m, b, F⟩ := O.f
  exact ⟨a, CF, dx, _, e, h, zuo _ _ _, _, f, fd, _, _, T.clF, m, F, R, b, r, _, rfl, hs, rfl, dp, d8, q⟩
theorem zDv : zJ ["self"] ["self"] (zB qZ) := ⟨rfl, rfl, rfl, by decide +kernel, rfl, by decide +kernel, by decide +kernel⟩
theorem zBp {f : Addr} {fd : FuncData} {d : Nat} (F : Fun K "poly" "Curl.poly" qZ f fd) (T : StK K mg CE CC CB CF) (G : zjl K mg "Y" [(0, 1, 1)]) (DP : Def P w K mg base 2 "product_of" ["one", "other"] (zfq K)) (O : jK P w K mg base CE CC CB CF d) : FnOk P w K mg base CX0 (3 + (d + 1)) f fd ["self"] (wK K CE CC CB CF 1 (d + 1)) := by
 obtain ⟨oa, ho, hk⟩ := G.ex
 refine FnOk.mono (F.ok (k := 3 + d) zDv (fun vs H Q E h => ?_) (fun cdv A outer s H vs Q E hr h => ?_)) (by lia)
 ·obtain ⟨_, _, rfl, _⟩ := h; rfl
 ·obtain ⟨v, S, rfl, hs, hh, dp, d8, q⟩ := h
  cases S with
  | curl t s =>
   obtain ⟨a, dx, r, rfl, ha, hr0⟩ := hs
   have hr2 : Room 2 _ := hr.mono (by lia)
   have sd : s.deep <= d := Nat.le_of_succ_le_succ dp
   refine ⟨_, zF (zK (zP DP hr2 rfl (zA (kR (v := .ref oa) rfl ho rfl) (zA (yQ (wL (pv 0) rfl)) zD)))), ?_⟩
   refine ⟨_, rfl, a, CC, dx, _, r, rfl, ha, T.clC, T.c2, jI _ _, ?_⟩
   refine wB T O hr hr0 sd (by lia) fun pv L H1 s1 pi pl pk => ?_
   have low := qA pi (by lia)
   have t256 := v7 (S := s) (by lia)
   refine ⟨.ref oa, pv, [(0, 1, 1)], L, rfl, hk _, pk, by show 1 * L.length < 100000; lia, by lia, fun x hx u hu => ?_, fun z hz => ?_, fun x M H2 s2 pm ml pa => ?_⟩
   ·rw [List.mem_singleton.mp hx]
    exact IntMulOk.of_le (a := 1) (show intBits (1 : Int) <= 17 by decide) (low u hu).2.2.2 (by decide)
   ·rw [v9] at hz
    obtain ⟨u, hu, rfl⟩ := List.mem_map.mp hz
    have := low u hu
    show 0 <= 0 + u.1 /\ 0 <= 1 + u.2.1 /\ 0 + u.1 + (1 + u.2.1) <= 9
    lia
   ·refine q x M H2 (s1.trans s2) (zhf pi pm) ?_ pa.K
    rw [v9, List.length_map] at ml
    show M.length <= (s.terms.map _).length
    rw [List.length_map]
    lia
  | _ => cases hh
theorem zDy : zJ ["self"] ["self"] (zB jA) := ⟨rfl, rfl, rfl, by decide +kernel, rfl, by decide +kernel, by decide +kernel⟩
theorem zBt {f : Addr} {fd : FuncData} {d : Nat} (F : Fun K "poly" "Bridge.poly" jA f fd) (T : StK K mg CE CC CB CF) (G : zjl K mg "X" [(1, 0, 1)]) (DP : Def P w K mg base 2 "product_of" ["one", "other"] (zfq K)) (O : jK P w K mg base CE CC CB CF d) : FnOk P w K mg base CX0 (3 + (d + 1)) f fd ["self"] (wK K CE CC CB CF 2 (d + 1)) := by
 obtain ⟨oa, ho, hk⟩ := G.ex
 refine FnOk.mono (F.ok (k := 3 + d) zDy (fun vs H Q E h => ?_) (fun cdv A outer s H vs Q E hr h => ?_)) (by lia)
 ·obtain ⟨_, _, rfl, _⟩ := h; rfl
 ·obtain ⟨v, S, rfl, hs, hh, dp, d8, q⟩ := h
  cases S with
  | bri t s =>
   obtain ⟨a, dx, r, rfl, ha, hr0⟩ := hs
   have hr2 : Room 2 _ := hr.mono (by lia)
   have sd : s.deep <= d := Nat.le_of_succ_le_succ dp
   refine ⟨_, zF (zK (zP DP hr2 rfl (zA (kR (v := .ref oa) rfl ho rfl) (zA (yQ (wL (pv 0) rfl)) zD)))), ?_⟩
   refine ⟨_, rfl, a, CB, dx, _, r, rfl, ha, T.clB, T.b2, jI _ _, ?_⟩
   refine wB T O hr hr0 sd (by lia) fun pv L H1 s1 pi pl pk => ?_
   have low := qA pi (by lia)
   have t256 := v7 (S := s) (by lia)
   refine ⟨.ref oa, pv, [(1, 0, 1)], L, rfl, hk _, pk, by show 1 * L.length < 100000; lia, by lia, fun x hx u hu => ?_, fun z hz => ?_, fun x M H2 s2 pm ml pa => ?_⟩
   ·rw [List.mem_singleton.mp hx]
    exact IntMulOk.of_le (a := 1) (show intBits (1 : Int) <= 17 by decide) (low u hu).2.2.2 (by decide)
   ·rw [v9] at hz
    obtain ⟨u, hu, rfl⟩ := List.mem_map.mp hz
    have := low u hu
    show 0 <= 1 + u.1 /\ 0 <= 0 + u.2.1 /\ 1 + u.1 + (0 + u.2.1) <= 9
    lia
   ·refine q x M H2 (s1.trans s2) (zhf pi pm) ?_ pa.K
    rw [v9, List.length_map] at ml
    show M.length <= (s.terms.map _).length
    rw [List.length_map]
    lia
  | _ => cases hh
theorem zDp : zJ ["self"] ["self"] (zB qU) := ⟨rfl, rfl, rfl, by decide +kernel, rfl, by decide +kernel, by decide +kernel⟩
theorem zBl {f : Addr} {fd : FuncData} {d : Nat} (F : Fun K "poly" "Fork.poly" qU f fd) (T : StK K mg CE CC CB CF) (DS : Def P w K mg base 2 "sum_of" ["one", "other"] (zjp K)) (O : jK P w K mg base CE CC CB CF d) : FnOk P w K mg base CX0 (3 + (d + 1)) f fd ["self"] (wK K CE CC CB CF 3 (d + 1)) := by
 refine FnOk.mono (F.ok (k := 3 + d) zDp (fun vs H Q E h => ?_) (fun cdv A outer s H vs Q E hr h => ?_)) (by lia)
 ·obtain ⟨_, _, rfl, _⟩ := h; rfl
 ·obtain ⟨v, S, rfl, hs, hh, dp, d8, q⟩ := h
  cases S with
  | frk t x y =>
   obtain ⟨a, dx, r, u, rfl, ha, hx0, hy0⟩ := hs
   have hr2 : Room 2 _ := hr.mono (by lia)
   have dm : max x.deep y.deep <= d := Nat.le_of_succ_le_succ dp
   have xd : x.deep <= d := Nat.le_trans (Nat.le_max_left _ _) dm
   have yd : y.deep <= d := Nat.le_trans (Nat.le_max_right _ _) dm
   refine ⟨_, zF (zK (zP DS hr2 rfl (zA (yQ (wL (pv 0) rfl)) (zA (yQ (wL (pv 0) rfl)) zD)))), ?_⟩
   refine ⟨_, rfl, a, CF, dx, _, r, rfl, ha, T.clF, T.x2, zkb _ _ _, ?_⟩
   refine wB T O hr hx0 xd (by lia) fun pv L H1 s1 pi pl pk => ?_
   refine ⟨_, rfl, a, CF, dx, _, u, rfl, s1 _ _ ha, T.clF, T.x3, zsr _ _ _, ?_⟩
   refine wB T O hr (hy0.same s1) yd (by lia) fun pw M H2 s2 pj ql qk => ?_
   have low := qA pi (by lia)
   have lo2 := qA pj (by lia)
   have t1 := v7 (S := x) (by lia)
   have t2 := v7 (S := y) (by lia)
   refine ⟨pv, pw, L, M, rfl, pk.same s2, qk, by lia, fun z hz => ?_, fun b N H3 s3 pn nl pa => ?_⟩
   ·rcases List.mem_append.mp hz with e | e
    ·have := low z e
     lia
    ·have := lo2 z e
     lia
   ·refine q b N H3 (s1.trans (s2.trans s3)) (zvm pi pj pn) ?_ pa.K
    rw [List.length_append] at nl
    show N.length <= (x.terms ++ y.terms).length
    rw [List.length_append]
    lia
  | _ => cases hh
theorem zDs : zJ ["self"] ["self"] (zB qX) := ⟨rfl, rfl, rfl, by decide +kernel, rfl, by decide +kernel, by decide +kernel⟩
theorem zwg {f : Addr} {fd : FuncData} {d : Nat} (F : Fun K "poly" "End.poly" qX f fd) (G : zjl K mg "ONE" [(0, 0, 1)]) : FnOk P w K mg base CX0 (3 + d) f fd ["self"] (wK K CE CC CB CF 0 d) := by
 obtain ⟨oa, ho, hk⟩ := G.ex
 refine FnOk.mono (F.ok (k := 0) zDs (fun vs H Q E h => ?_) (fun cdv A outer s H vs Q E hr h => ?_)) (by lia)
 ·obtain ⟨_, _, rfl, _⟩ := h; rfl
 ·obtain ⟨v, S, rfl, hs, hh, dp, d8, q⟩ := h
  cases S with
  | fin =>
   refine ⟨_, zF (zK (kR (v := .ref oa) rfl ho rfl)), ?_⟩
   exact q (.ref oa) _ H (Same.refl H) zyu (Nat.le_refl _) (hk H)
  | _ => cases hh
theorem zlh (T : StK K mg CE CC CB CF) (GX : zjl K mg "X" [(1, 0, 1)]) (GY : zjl K mg "Y" [(0, 1, 1)]) (G1 : zjl K mg "ONE" [(0, 0, 1)]) (DP : Def P w K mg base 2 "product_of" ["one", "other"] (zfq K)) (DS : Def P w K mg base 2 "sum_of" ["one", "other"] (zjp K)) : ∀ d, jK P w K mg base CE CC CB CF d
 | 0 => by
  obtain ⟨fe, de, me, Fe, be⟩ := T.pE
  obtain ⟨fc, dc, mc, Fc, bc⟩ := T.pC
  obtain ⟨fb, db, mb, Fb, bb⟩ := T.pB
  obtain ⟨ff, df, mf, Ff, bf⟩ := T.pF
  have bad : ∀ {f : Addr} {fd : FuncData} {c : Nat}, c ≠ 0 -> FnOk P w K mg base CX0 (3 + 0) f fd ["self"] (wK K CE CC CB CF c 0) := fun {f fd c} c0 => by
   have no : ∀ vs H Q E, ¬ wK K CE CC CB CF c 0 vs H Q E := fun vs H Q E h => by
    obtain ⟨v, S, _, _, hh, dp, _⟩ := h
    cases S with
    | fin => exact c0 hh.symm
    | curl _ _ => exact absurd dp (Nat.not_succ_le_zero _)
    | bri _ _ => exact absurd dp (Nat.not_succ_le_zero _)
    | frk _ _ _ => exact absurd dp (Nat.not_succ_le_zero _)
   exact ⟨fun vs H Q E h => (no vs H Q E h).elim, fun A outer s H args us vs Q E _ _ _ _ h => (no vs H Q E h).elim⟩
  exact ⟨⟨fe, de, me, be, zwg Fe G1⟩, ⟨fc, dc, mc, bc, bad (by decide)⟩, ⟨fb, db, mb, bb, bad (by decide)⟩, ⟨ff, df, mf, bf, bad (by decide)⟩⟩
 | d + 1 => by
  have O := zlh T GX GY G1 DP DS d
  obtain ⟨fe, de, me, Fe, be⟩ := T.pE
  obtain ⟨fc, dc, mc, Fc, bc⟩ := T.pC
  obtain ⟨fb, db, mb, Fb, bb⟩ := T.pB
  obtain ⟨ff, df, mf, Ff, bf⟩ := T.pF
  exact ⟨⟨fe, de, me, be, zwg Fe G1⟩, ⟨fc, dc, mc, bc, zBp Fc T GY DP O⟩, ⟨fb, db, mb, bb, zBt Fb T GX DP O⟩, ⟨ff, df, mf, bf, zBl Ff T DS O⟩⟩
end
def zcp (K : W.Frag) (CE CC CB CF : Addr) (d : Nat) : Sp := fun vs H Q _ => ∃ (wv : V) (nu od : Addr) (n : Int) (ps : List (Int × Int)) (nums ord : List Int), vs = [wv, .ref nu, .ref od] /\ WebAt H wv n ps /\ FzT H nu (nums.map V.int) /\ SqT K H od (ord.map V.int) /\ OkS d n ps nums ord /\ d <= 8 /\
 ∀ v H', Same H H' -> StepAt CE CC CB CF H' (qO d n ps nums ord) v -> Q v H'
def zby (K : W.Frag) (CE CC CB CF : Addr) : Sp := fun vs H Q _ => ∃ (kd : Kd) (wv o : V) (n : Int) (ps : List (Int × Int)) (ord : List Int), vs = [wv, o] /\ WebAt H wv n ps /\ xX n ps /\ zvt ps /\ OrdAt kd H o ps.length ord /\
 ∀ v H', Same H H' -> StepAt CE CC CB CF H' (qO ps.length n ps (ups ps.length) ord) v -> Q v H'
def zvx (K : W.Frag) : Sp := fun vs H Q _ => ∃ (kd : Kd) (wv o : V) (n : Int) (ps : List (Int × Int)) (ord : List Int), vs = [wv, o] /\ WebAt H wv n ps /\ xX n ps /\ zvt ps /\ OrdAt kd H o ps.length ord /\
 ∀ pv L ts H', Same H H' -> PolyIs ts L -> (∀ k, coef ts k = tut n ps k) -> L.length <= 256 -> (∀ u ∈ L, 0 <= u.1 /\ 0 <= u.2.1 /\ u.1 + u.2.1 <= (ps.length : Int) /\ intBits u.2.2 <= 17) -> PolyK K H' pv L -> Q pv H'
theorem gI {H : Hp} {x dx : Addr} {o1 o2 o3 : HO} (nx : H x = none) (nd : H dx = none) : Same H (upd (upd (upd H dx o1) x o2) x o3) := fun b o e => by
 rw [zW (zV e nx), zW (zV e nx), zW (zV e nd)]
 exact e
theorem zra {xs : List V} {v : V} : atI (xs ++ [v]) (-1) = some v := zrb _ _
theorem zvk (xs : List V) (y : V) : gS (xs ++ [y]) none (some (-1)) = xs := by
 unfold gS
 rw [show HT.sIx (xs ++ [y]).length 0 none = 0 from rfl]
 have e : HT.sIx (xs ++ [y]).length (xs ++ [y]).length (some (-1)) = xs.length := by
  show (if (-1 : Int) < 0 then ((-1 : Int) + ((xs ++ [y]).length : Int)).toNat else min (-1 : Int).toNat (xs ++ [y]).length) = xs.length
  rw [if_pos (by decide), List.length_append, List.length_singleton]
  lia
 rw [e, List.drop_zero, Nat.sub_zero, List.take_left]
theorem zxd (nums : List Int) (j : Nat) : (nums.map V.int).take j ++ (nums.map V.int).drop (j + 1) = (wo nums j).map V.int := by
 unfold wo
 rw [List.map_append, List.map_take, List.map_drop]
theorem zxq : ¬ (("bridge" : Str) = "curl") := by decide +kernel
theorem zxo : ¬ (("plain" : Str) = "curl") := by decide +kernel
theorem zxp : ¬ (("plain" : Str) = "bridge") := by decide +kernel
section
variable {P : Program} {w : World} {K : W.Frag} {mg : Str -> Option Value} {base : Heap} {CE CC CB CF : Addr}
theorem scDown : zJ ["web", "numbers", "order", "tie", "ahead", "k", "others", "kind", "within"] ["web", "numbers", "order"] (zB zbd) := ⟨rfl, rfl, rfl, by decide +kernel, rfl, by decide +kernel, by decide +kernel⟩
theorem zvi (T : StK K mg CE CC CB CF) (S : Src K mg "steps_down" zbd ["web", "numbers", "order"]) : Def P w K mg base (6 + 0) "steps_down" ["web", "numbers", "order"] (zcp K CE CC CB CF 0) := by
 refine S.def (k := 5) scDown (fun vs H Q E h => ?_) (fun f cdv A outer s H vs Q E hr h => ?_)
 ·obtain ⟨_, _, _, _, _, _, _, rfl, _⟩ := h; rfl
 ·obtain ⟨wv, nu, od, n, ps, nums, ord, rfl, W, hnu, hod, ok, d8, q⟩ := h
  refine ⟨_, zE (xC (xZ (zhi (pv 2) (fun _ => rfl))) (zF (zK (zhk T.mE rfl T.gE))) yC) wA, ?_⟩
  have e : ord = [] := List.length_eq_zero_iff.mp (ok.pm.length_eq.trans ok.nl)
  subst e
  refine ⟨_, rfl, false, .inr (.inl ⟨[], hod, rfl⟩), jH ?_⟩
  intro x dx nx ndx nex
  refine q (.ref x) _ (fun b o e => ?_) ⟨x, dx, rfl, zC⟩
  rw [zW (zV e nx), zW (zV e ndx)]
  exact e
theorem zvh {d : Nat} (T : StK K mg CE CC CB CF) (S : Src K mg "steps_down" zbd ["web", "numbers", "order"]) (DK : Def P w K mg base 4 "kind_of" ["web", "k"] (zex K)) (DL : Def P w K mg base 4 "left_out" ["web", "k"] zay) (DW : Def P w K mg base 5 "drawn_together" ["web", "k"] zca) (DD : Def P w K mg base (6 + d) "steps_down" ["web", "numbers", "order"] (zcp K CE CC CB CF d)) : Def P w K mg base (6 + (d + 1)) "steps_down" ["web", "numbers", "order"] (zcp K CE CC CB CF (d + 1)) := by
 obtain ⟨fc, dc, MC, FC, bC⟩ := T.iC
 obtain ⟨fb, db, MB, FB, bB⟩ := T.iB
 obtain ⟨ff, df, MF, FF, bF⟩ := T.iF
 have GC : FnOk P w K mg base CX0 1 fc dc ["self", "tie", "rest"] (zaz CC) := zBs FC T.clC T.c1 T.c2
 have GB : FnOk P w K mg base CX0 1 fb db ["self", "tie", "rest"] (zaz CB) := zBw FB T.clB T.b1 T.b2
 have GF : FnOk P w K mg base CX0 1 ff df ["self", "tie", "without", "within"] (zkr CF) := zBo FF T.clF T.x1 T.x2 T.x3
 refine S.def (k := 6 + d) scDown (fun vs H Q E h => ?_) (fun f cdv A outer s H vs Q E hr h => ?_)
 ·obtain ⟨_, _, _, _, _, _, _, rfl, _⟩ := h; rfl
 ·obtain ⟨wv, nu, od, n, ps, nums, ord, rfl, W, hnu, hod, ok, d8, q⟩ := h
  have hr2 : Room 2 _ := hr.mono (by lia)
  have hr4 : Room 4 _ := hr.mono (by lia)
  have hr5 : Room 5 _ := hr.mono (by lia)
  refine ⟨_, zE (xC (xZ (zhi (pv 2) (fun _ => rfl))) (zF (zK (zhk T.mE rfl T.gE))) yC)
   (zE (zT (i := 3) scDown.nd rfl (Or.inl rfl) (yD (zQ K) (pv 2) (zsn zjo zG) (fun _ _ => rfl)))
   (zE (zT (i := 4) scDown.nd rfl (Or.inl rfl) (vC (zey K) (pv 2) kQ (vO (zsn zjo zG))))
   (zE (zT (i := 5) scDown.nd rfl (Or.inl rfl) (zyo PySem.F.plainAttrs_tuple PySem.F.slot_tuple_index PySem.F.type_tuple_index znf (pv 1) (zA (pv 3) zD)))
   (zE (zT (i := 6) scDown.nd rfl (Or.inl rfl) (yB ztv (vC zku (pv 1) kQ (vO (pv 5))) (vC zku (pv 1) (vO (yB xH (pv 5) zG)) kQ)))
   (zE (zT (i := 7) scDown.nd rfl (Or.inl rfl) (zP DK hr4 rfl (zA (pv 0) (zA (pv 5) zD))))
   (zE (xC (zX kF (pv 7) zcu (yF _)) (zF (zK (zfd MC GC hr2 rfl T.gC bC .nil zis (zA (pv 3) (zA (zP DD hr rfl (zA (zP DL hr4 rfl (zA (pv 0) (zA (pv 5) zD))) (zA (pv 6) (zA (pv 4) zD)))) zD))))) yC)
   (zE (zT (i := 8) scDown.nd rfl (Or.inl rfl) (zP DD hr rfl (zA (zP DW hr5 rfl (zA (pv 0) (zA (pv 5) zD))) (zA (pv 6) (zA (pv 4) zD)))))
   (zE (xC (zX kF (pv 7) zcu (yF _)) (zF (zK (zfd MB GB hr2 rfl T.gB bB .nil zis (zA (pv 3) (zA (pv 8) zD))))) yC)
   (zF (zK (zfd MF GF hr2 rfl T.gF bF .nil zis (zA (pv 3) (zA (zP DD hr rfl (zA (zP DL hr4 rfl (zA (pv 0) (zA (pv 5) zD))) (zA (pv 6) (zA (pv 4) zD)))) (zA (pv 8) zD)))))))))))))), ?_⟩
  obtain ⟨oe, _⟩ := ok.last
  obtain ⟨jl, jat⟩ := ok.at
  have okL := ok.left
  have okD := ok.draw
  have nl := ok.nl
  have pl := ok.len
  have nd := ok.nd
  have W0 := ok.ok
  obtain ⟨⟨n1, n9⟩, hb, h8⟩ := id W0
  unfold qO at q
  generalize ord.dropLast = ah at oe okL okD q
  generalize ord.getLastD 0 = tie at oe jl jat okL okD q
  generalize nums.idxOf tie = j at jl jat okL okD q
  subst oe
  have hod' : SqT K H od (ah.map V.int ++ [.int tie]) := by rw [List.map_append] at hod; exact hod
  refine ⟨_, rfl, true, .inr (.inl ⟨_, hod', by cases ah <;> rfl⟩), xD ?_⟩
  refine ⟨_, rfl, _, rfl, od, _, _, _, rfl, rfl, hod', zra, ?_⟩
  refine ⟨_, rfl, _, rfl, _, rfl, od, _, rfl, hod', ?_, fun p1 hp1 => ?_⟩
  ·rintro ⟨_, z⟩
   have e : HT.sIx (ah.map V.int ++ [V.int tie]).length (ah.map V.int ++ [V.int tie]).length (some (-1)) = ah.length := by
    show (if (-1 : Int) < 0 then ((-1 : Int) + ((ah.map V.int ++ [V.int tie]).length : Int)).toNat else min (-1 : Int).toNat (ah.map V.int ++ [V.int tie]).length) = ah.length
    rw [if_pos (by decide), List.length_append, List.length_singleton, List.length_map]
    lia
   rw [e, List.length_append, List.length_singleton, List.length_map] at z
   lia
  rw [zvk]
  have s1 := Same.new (o := HO.tup (ah.map V.int)) hp1
  have h1 : (upd H p1 (.tup (ah.map V.int))) p1 = some (.tup (ah.map V.int)) := zC
  generalize upd H p1 (.tup (ah.map V.int)) = H1 at s1 h1 ⊢
  have hnu1 := hnu.same s1
  dsimp only [List.set]
  refine ⟨_, rfl, ⟨nu, _, rfl, hnu1⟩, _, rfl, nu, nums, tie, j, rfl, rfl, hnu1.sq, jat, fun m hm z => ?_, ?_⟩
  ·have zm := (List.getElem?_eq_some_iff.mp z)
   have jm := (List.getElem?_eq_some_iff.mp jat)
   have := (List.getElem_inj nd).mp (zm.2.trans jm.2.symm)
   lia
  refine ⟨_, rfl, _, rfl, _, rfl, nu, _, rfl, hnu1.sq, ?_, fun p2 H2 s2 hp2 => ?_⟩
  ·rintro ⟨_, z⟩
   rw [HT.sIx_nat, List.length_map] at z
   lia
  rw [zlz] at hp2
  have hnu2 := hnu1.same s2
  refine ⟨_, rfl, _, rfl, _, _, rfl, rfl, _, rfl, nu, _, rfl, hnu2.sq, ?_, fun p3 H3 s3 hp3 => ?_⟩
  ·rintro ⟨z, _⟩
   rw [show ((j : Int) + 1) = ((j + 1 : Nat) : Int) by lia, HT.sIx_nat, List.length_map] at z
   lia
  rw [zly] at hp3
  refine ⟨p2, p3, _, _, rfl, rfl, hp2.same s3, hp3, ?_, fun p4 H4 s4 hp4 => ?_⟩
  ·rw [List.length_take, List.length_drop, List.length_map]
   exact Nat.le_trans (show _ <= 16 by lia) (by decide)
  rw [zxd] at hp4
  have s04 := s1.trans (s2.trans (s3.trans s4))
  have h4 := (s2.trans (s3.trans s4)) _ _ h1
  clear hp2 hp3 hnu1 hnu2
  dsimp only [List.set]
  refine ⟨_, rfl, _, rfl, wv, n, ps, (j : Int), rfl, W.same s04, W0, by lia, by lia, fun H5 s5 => ?_⟩
  have s05 := s04.trans s5
  have h5 := s5 _ _ h4
  have hp5 := hp4.same s5
  have d8' : d <= 8 := by lia
  unfold zol
  dsimp only [List.set]
  refine ⟨_, rfl, rfl, _, rfl, ?_⟩
  by_cases hc : (zN ps j).1 = (zN ps j).2
  ·rw [if_pos hc] at q ⊢
   rw [decide_eq_true rfl]
   refine jH ?_
   refine ⟨_, rfl, _, rfl, _, rfl, wv, n, ps, j, rfl, W.same s05, h8, jl, fun w6 H6 s6 W6 => ?_⟩
   refine ⟨_, rfl, _, rfl, w6, p4, p1, n, wo ps j, wo nums j, ah, rfl, W6, hp5.same s6, SqT.of (s6 _ _ h5), okL, d8', fun v H7 s7 st => ?_⟩
   intro x dx nx ndx nex
   refine ⟨x, dx, .int tie, v, rfl, zC, rfl, ?_⟩
   have sm := gI (o1 := .own x) (o2 := .ins CC dx []) (o3 := .ins CC dx (f2 (.int tie) v)) nx ndx
   exact q (.ref x) _ (s05.trans (s6.trans (s7.trans sm))) ⟨x, dx, v, rfl, zC, st.same sm⟩
  ·rw [if_neg hc] at q ⊢
   have ok2 := okD hc
   have dN : zke n (zN ps j) = n - 1 := if_neg hc
   by_cases hbr : rkP n ps (oth ps.length j) < yS n ps
   ·rw [if_pos hbr] at q ⊢
    rw [decide_eq_false (show ¬ V.str "bridge" = V.str "curl" from fun z => zxq (by injection z))]
    refine xD ?_
    refine ⟨_, rfl, _, rfl, wv, n, ps, j, rfl, W.same s05, h8, jl, fun w6 H6 s6 W6 => ?_⟩
    rw [dN] at W6
    refine ⟨_, rfl, _, rfl, w6, p4, p1, n - 1, zZ ps j (zN ps j), wo nums j, ah, rfl, W6, hp5.same s6, SqT.of (s6 _ _ h5), ok2, d8', fun v H7 s7 st => ?_⟩
    dsimp only [List.set]
    refine ⟨_, rfl, rfl, _, rfl, ?_⟩
    rw [decide_eq_true rfl]
    refine jH ⟨_, rfl, _, rfl, ?_⟩
    intro x dx nx ndx nex
    refine ⟨x, dx, .int tie, v, rfl, zC, rfl, ?_⟩
    have sm := gI (o1 := .own x) (o2 := .ins CB dx []) (o3 := .ins CB dx (f2 (.int tie) v)) nx ndx
    exact q (.ref x) _ (s05.trans (s6.trans (s7.trans sm))) ⟨x, dx, v, rfl, zC, st.same sm⟩
   ·rw [if_neg hbr] at q ⊢
    rw [decide_eq_false (show ¬ V.str "plain" = V.str "curl" from fun z => zxo (by injection z))]
    refine xD ?_
    refine ⟨_, rfl, _, rfl, wv, n, ps, j, rfl, W.same s05, h8, jl, fun w6 H6 s6 W6 => ?_⟩
    rw [dN] at W6
    refine ⟨_, rfl, _, rfl, w6, p4, p1, n - 1, zZ ps j (zN ps j), wo nums j, ah, rfl, W6, hp5.same s6, SqT.of (s6 _ _ h5), ok2, d8', fun v H7 s7 st => ?_⟩
    have s57 := s6.trans s7
    dsimp only [List.set]
    refine ⟨_, rfl, rfl, _, rfl, ?_⟩
    rw [decide_eq_false (show ¬ V.str "plain" = V.str "bridge" from fun z => zxp (by injection z))]
    refine xD ?_
    refine ⟨_, rfl, _, rfl, _, rfl, wv, n, ps, j, rfl, W.same (s05.trans s57), h8, jl, fun w8 H8 s8 W8 => ?_⟩
    refine ⟨_, rfl, _, rfl, w8, p4, p1, n, wo ps j, wo nums j, ah, rfl, W8, hp5.same (s57.trans s8), SqT.of ((s57.trans s8) _ _ h5), okL, d8', fun u H9 s9 su => ⟨_, rfl, ?_⟩⟩
    have s79 := s8.trans s9
    intro x dx nx ndx nex
    refine ⟨x, dx, .int tie, u, v, rfl, zC, rfl, ?_⟩
    have sm := gI (o1 := .own x) (o2 := .ins CF dx []) (o3 := .ins CF dx (f3 (.int tie) u v)) nx ndx
    exact q (.ref x) _ (s05.trans (s57.trans (s79.trans sm))) ⟨x, dx, u, v, rfl, zC, su.same sm, st.same (s79.trans sm)⟩
theorem zsi (T : StK K mg CE CC CB CF) (S : Src K mg "steps_down" zbd ["web", "numbers", "order"]) (DK : Def P w K mg base 4 "kind_of" ["web", "k"] (zex K)) (DL : Def P w K mg base 4 "left_out" ["web", "k"] zay) (DW : Def P w K mg base 5 "drawn_together" ["web", "k"] zca) : ∀ d, Def P w K mg base (6 + d) "steps_down" ["web", "numbers", "order"] (zcp K CE CC CB CF d)
 | 0 => zvi T S
 | d + 1 => zvh T S DK DL DW (zsi T S DK DL DW d)
theorem ztg : zJ ["web", "order"] ["web", "order"] (zB zac) := ⟨rfl, rfl, rfl, by decide +kernel, rfl, by decide +kernel, by decide +kernel⟩
theorem zuv (S : SrcD K mg "steps_of" zac ["web", "order"]) (DP : Def P w K mg base 1 "whole_pick" ["web"] zii) (DT : Def P w K mg base 3 "told_order" ["web", "order"] (zri K)) (DD : ∀ d, Def P w K mg base (6 + d) "steps_down" ["web", "numbers", "order"] (zcp K CE CC CB CF d)) : zjm P w K mg base 15 "steps_of" ["web", "order"] (zby K CE CC CB CF) := by
 refine SrcD.defX S ztg (fun vs H Q E h => ?_) (fun f cdv A outer s H vs Q E hr h => ?_)
 ·obtain ⟨_, _, _, _, _, _, rfl, _⟩ := h; rfl
 ·obtain ⟨kd, wv, o, n, ps, ord, rfl, W, ok, nm, oa, q⟩ := h
  obtain ⟨⟨n1, n9⟩, hb, h8⟩ := id ok
  have hr1 : Room 1 _ := hr.mono (by decide)
  have hr3 : Room 3 _ := hr.mono (by decide)
  have hrd : Room (6 + ps.length) _ := hr.mono (by lia)
  refine ⟨_, zF (zK (zP (DD ps.length) hrd rfl (zA (pv 0) (zA (zP DP hr1 rfl (zA (pv 0) zD)) (zA (zP DT hr3 rfl (zA (pv 0) (zA (pv 1) zD))) zD))))), ?_⟩
  refine ⟨_, rfl, _, rfl, wv, n, ps, rfl, W, h8, fun t H1 s1 hF => ⟨_, rfl, _, rfl, kd, wv, o, n, ps, ord, rfl, W.same s1, h8, oa.same s1, fun u H2 s2 hG => ?_⟩⟩
  have ul : (ups (ps.length : Int)).length = ps.length := by rw [yW]; lia
  exact ⟨wv, t, u, n, ps, ups ps.length, ord, rfl, W.same (s1.trans s2), hF.same s2, FzT.sq hG, ⟨ok, nm, rfl, ul, (wN _).imp fun h => by lia, oa.perm⟩, h8, fun v H3 s3 st => q v H3 (s1.trans (s2.trans s3)) st⟩
theorem zAz : zJ ["web", "order"] ["web", "order"] (zB zrr) := ⟨rfl, rfl, rfl, by decide +kernel, rfl, by decide +kernel, by decide +kernel⟩
theorem zCh (T : StK K mg CE CC CB CF) (S : SrcD K mg "by_leaving" zrr ["web", "order"]) (DS : zjm P w K mg base 15 "steps_of" ["web", "order"] (zby K CE CC CB CF)) (O : jK P w K mg base CE CC CB CF 8) : zjm P w K mg base 16 "by_leaving" ["web", "order"] (zvx K) := by
 refine SrcD.defX S zAz (fun vs H Q E h => ?_) (fun f cdv A outer s H vs Q E hr h => ?_)
 ·obtain ⟨_, _, _, _, _, _, rfl, _⟩ := h; rfl
 ·obtain ⟨kd, wv, o, n, ps, ord, rfl, W, ok, nm, oa, q⟩ := h
  obtain ⟨⟨n1, n9⟩, hb, h8⟩ := id ok
  have hr11 : Room (3 + 8) _ := hr.mono (by decide)
  refine ⟨_, zF (zK (yQ (zbh DS hr rfl (zA (pv 0) (zA (pv 1) zD))))), ?_⟩
  refine ⟨_, rfl, _, rfl, kd, wv, o, n, ps, ord, rfl, W, ok, nm, oa, fun v H1 s1 st => ?_⟩
  have dp := vA ps.length n ps (ups ps.length) ord
  have ul : (ups (ps.length : Int)).length = ps.length := by rw [yW]; lia
  have cf := qM ps.length n ps (ups ps.length) ord ⟨ok, nm, rfl, ul, (wN _).imp fun h => by lia, oa.perm⟩
  generalize qO ps.length n ps (ups ps.length) ord = U at st dp cf
  refine wB T O hr11 st (by lia) (by decide) fun pv L H2 s2 pi pl pk => ?_
  have t256 := v7 (S := U) (by lia)
  refine q pv L U.terms H2 (s1.trans s2) pi cf (by lia) (fun u hu => ?_) pk
  have := qA pi (by lia) u hu
  exact ⟨this.1, this.2.1, by have := this.2.2.1; lia, this.2.2.2⟩
end
def zAd (K : W.Frag) : Sp := fun vs H Q _ => ∃ (a : Addr) (ns : List Int) (k : Nat), vs = [.ref a, .int k] /\ SqL K H a (ns.map V.int) /\ Q (.int (ns.getD k 0)) H
def zrn (K : W.Frag) : Sp := fun vs H Q _ => ∃ (a : Addr) (ns : List Int) (by_ : Int), vs = [.ref a, .int by_] /\ SqL K H a (ns.map V.int) /\ 0 <= by_ /\ by_ <= 9 /\ ∀ z : Int, 0 <= z -> z < 2147483647 -> Q (.int z) H
def zvw : Sp := fun vs H Q _ => ∃ c : Int, vs = [.int c] /\ ∀ n : Int, 1 <= n -> n <= 9 -> Q (.int n) H
def zrj : Sp := fun vs H Q _ => ∃ c n : Int, vs = [.int c, .int n] /\ 1 <= n /\ n <= 9 /\ ∀ (p : Int × Int) d, InN n p -> p.1 <= p.2 -> H d = none -> Q (.ref d) (upd H d (.tup [.int p.1, .int p.2]))
def zkt (K : W.Frag) : Sp := fun vs H Q _ => ∃ (a : Addr) (ns : List Int), vs = [.ref a] /\ SqL K H a (ns.map V.int) /\ ∀ wv n ps H', Same H H' -> WebAt H' wv n ps -> xX n ps -> (∀ p ∈ ps, p.1 <= p.2) -> ps.length <= 8 -> Q wv H'
theorem zBx {ps : List (Int × Int)} (h : ∀ p ∈ ps, p.1 <= p.2) : ps.map xJ = ps := by
 have : ps.map xJ = ps.map id := List.map_congr_left fun p hp => ztz (h p hp)
 rw [this, List.map_id]
theorem zvj (ns : List Int) (m : Int) (h0 : 0 <= m) (h7 : m <= 8) : ∃ ms : List Int, gS (ns.map V.int) (some 2) (some (2 + m)) = ms.map V.int /\ ms.length <= 8 := by
 obtain ⟨j, rfl⟩ := Int.eq_ofNat_of_zero_le h0
 refine ⟨(ns.drop (HT.sIx (ns.map V.int).length 0 (some ((2 : Nat) : Int)))).take (HT.sIx (ns.map V.int).length (ns.map V.int).length (some ((2 + j : Nat) : Int)) - HT.sIx (ns.map V.int).length 0 (some ((2 : Nat) : Int))), ?_, ?_⟩
 ·rw [show (2 + (j : Int)) = ((2 + j : Nat) : Int) by lia, show (some (2 : Int)) = some ((2 : Nat) : Int) from rfl]
  unfold gS
  rw [List.map_take, List.map_drop]
 ·rw [List.length_take, HT.sIx_nat, HT.sIx_nat]
  lia
theorem zud (z : Int) : ∃ k : Int, 0 <= k /\ k <= 8 /\ atI ([.int 5, .int 4, .int 6, .int 3, .int 5, .int 4, .int 2, .int 8] : List V) (z % 8) = some (.int k) := by
 have := vD z 8 (by decide)
 generalize z % 8 = r at this
 have : r = 0 \/ r = 1 \/ r = 2 \/ r = 3 \/ r = 4 \/ r = 5 \/ r = 6 \/ r = 7 := by lia
 rcases this with rfl | rfl | rfl | rfl | rfl | rfl | rfl | rfl
 ·exact ⟨5, by decide, by decide, zR (j := 0) rfl⟩
 ·exact ⟨4, by decide, by decide, zR (j := 1) rfl⟩
 ·exact ⟨6, by decide, by decide, zR (j := 2) rfl⟩
 ·exact ⟨3, by decide, by decide, zR (j := 3) rfl⟩
 ·exact ⟨5, by decide, by decide, zR (j := 4) rfl⟩
 ·exact ⟨4, by decide, by decide, zR (j := 5) rfl⟩
 ·exact ⟨2, by decide, by decide, zR (j := 6) rfl⟩
 ·exact ⟨8, by decide, by decide, zR (j := 7) rfl⟩
section
variable {P : Program} {w : World} {K : W.Frag} {mg : Str -> Option Value} {base : Heap}
theorem zEb : zJ ["_law_script", "_law_k"] ["_law_script", "_law_k"] (zB sAt) := ⟨rfl, rfl, rfl, by decide +kernel, rfl, by decide +kernel, by decide +kernel⟩
theorem zFb (T : Txt K mg) (S : Src K mg "_law_at" sAt ["_law_script", "_law_k"]) : Def P w K mg base 1 "_law_at" ["_law_script", "_law_k"] (zAd K) := by
 refine S.def zEb (fun vs H Q E h => ?_) (fun f cdv A outer s H vs Q E hr h => ?_)
 ·obtain ⟨_, _, _, rfl, _⟩ := h; rfl
 ·obtain ⟨a, ns, k, rfl, hq, q⟩ := h
  refine ⟨_, zE (xC (zX zwe (pv 1) (zO (yU K) (by rfl) T.len PySem.boot_len (zA (pv 0) zD)) (yF _)) (zF (zK (yD (xO K) (pv 0) (pv 1) (fun _ _ => rfl)))) yC) (zF (zK zG)), ?_⟩
  refine ⟨_, rfl, _, rfl, a, _, rfl, .inl hq, _, _, rfl, rfl, _, rfl, ?_⟩
  rw [List.length_map]
  by_cases h : k < ns.length
  ·rw [decide_eq_true (show (k : Int) < (ns.length : Int) by lia)]
   refine jH ⟨_, rfl, _, rfl, a, _, _, .int (ns.getD k 0), rfl, rfl, hq, zR ?_, q⟩
   rw [List.getElem?_map, List.getD_eq_getElem?_getD]
   simp [h]
  ·rw [decide_eq_false (show ¬ (k : Int) < (ns.length : Int) by lia)]
   refine xD ?_
   rw [List.getD_eq_getElem?_getD, List.getElem?_eq_none (by lia)] at q
   exact q
theorem zAy : zJ ["_law_cell"] ["_law_cell"] (zB zrq) := ⟨rfl, rfl, rfl, by decide +kernel, rfl, by decide +kernel, by decide +kernel⟩
theorem zCg (S : Src K mg "_law_points" zrq ["_law_cell"]) : Def P w K mg base 1 "_law_points" ["_law_cell"] zvw := by
 refine S.def zAy (fun vs H Q E h => ?_) (fun f cdv A outer s H vs Q E hr h => ?_)
 ·obtain ⟨_, rfl, _⟩ := h; rfl
 ·obtain ⟨c, rfl, q⟩ := h
  refine ⟨_, zE (xC (zX kF (yB x6 (pv 0) zG) zG (yF _)) (zF (zK (yB xH zG (yB x6 (yB vP (pv 0) zG) zG)))) yC)
   (zF (zK (yB xH zG (yB x6 (yB vP (pv 0) zG) zG)))), ?_⟩
  refine ⟨_, rfl, _, _, rfl, rfl, (by show (0 : Int) < 8; decide), rfl, _, rfl, ?_⟩
  refine zwo (fun _ => ?_) (fun _ => ?_)
  ·exact ⟨_, rfl, _, _, rfl, rfl, ⟨by decide, by decide⟩, _, _, rfl, rfl, (by show (0 : Int) < 9; decide), _, _, rfl, rfl, q _ (by lia) (by lia)⟩
  ·exact ⟨_, rfl, _, _, rfl, rfl, ⟨by decide, by decide⟩, _, _, rfl, rfl, (by show (0 : Int) < 5; decide), _, _, rfl, rfl, q _ (by lia) (by lia)⟩
theorem scTieD : zJ ["_law_cell", "_law_points_here", "_law_a", "_law_b"] ["_law_cell", "_law_points_here"] (zB zfu) := ⟨rfl, rfl, rfl, by decide +kernel, rfl, by decide +kernel, by decide +kernel⟩
theorem zzq (T : Txt K mg) (S : Src K mg "_law_tie" zfu ["_law_cell", "_law_points_here"]) : Def P w K mg base 1 "_law_tie" ["_law_cell", "_law_points_here"] zrj := by
 refine S.def scTieD (fun vs H Q E h => ?_) (fun f cdv A outer s H vs Q E hr h => ?_)
 ·obtain ⟨_, _, rfl, _⟩ := h; rfl
 ·obtain ⟨c, n, rfl, n1, n9, q⟩ := h
  refine ⟨_, zE (zT (i := 2) scTieD.nd rfl (Or.inl rfl) (yB x6 (pv 0) (pv 1)))
   (zE (zT (i := 3) scTieD.nd rfl (Or.inl rfl) (yB x6 (yB vP (pv 0) (pv 1)) (pv 1)))
   (zF (zK (y9 (zA (zO (zec rfl) (by rfl) T.min zee (zA (pv 2) (zA (pv 3) zD))) (zA (zO (zed rfl) (by rfl) T.max zef (zA (pv 2) (zA (pv 3) zD))) zD)))))), ?_⟩
  refine ⟨_, rfl, _, rfl, _, _, rfl, rfl, (by show 0 < n; lia), ?_⟩
  refine ⟨_, rfl, _, rfl, _, _, rfl, rfl, ⟨by show 0 < n; lia, by show n < 1073741824; lia⟩, _, rfl, _, _, rfl, rfl, (by show 0 < n; lia), ?_⟩
  have m1 := vD c n (by lia)
  have m2 := vD (c / n) n (by lia)
  dsimp only [List.set]
  generalize c % n = A1 at m1 ⊢
  generalize c / n % n = B1 at m2 ⊢
  refine ⟨_, rfl, _, rfl, _, _, rfl, _, rfl, _, rfl, _, _, rfl, by show 2 <= sizeLine; decide, fun d hd => ?_⟩
  refine q (if B1 < A1 then B1 else A1, if B1 > A1 then B1 else A1) d ?_ ?_ hd
  ·unfold InN
   dsimp only
   split <;> split <;> lia
  ·dsimp only
   split <;> split <;> lia
theorem scDrawW : zJ ["_law_script", "_law_points_here", "_law_most"] ["_law_script"] (zB zal) := ⟨rfl, rfl, rfl, by decide +kernel, rfl, by decide +kernel, by decide +kernel⟩
theorem zua : (["_law_cell", "_law_points_here"] : List Str).Nodup := by decide +kernel
theorem zvg (T : Txt K mg) (S : Src K mg "_law_drawn_web" zal ["_law_script"]) (DA : Def P w K mg base 1 "_law_at" ["_law_script", "_law_k"] (zAd K)) (DP : Def P w K mg base 1 "_law_points" ["_law_cell"] zvw) (DT : Def P w K mg base 1 "_law_tie" ["_law_cell", "_law_points_here"] zrj) : Def P w K mg base 2 "_law_drawn_web" ["_law_script"] (zkt K) := by
 refine S.def scDrawW (fun vs H Q E h => ?_) (fun f cdv A outer s H vs Q E hr h => ?_)
 ·obtain ⟨_, _, rfl, _⟩ := h; rfl
 ·obtain ⟨a, ns, rfl, hq, q⟩ := h
  have hr1 : Room 1 _ := hr.mono (by decide)
  refine ⟨_, zE (zT (i := 1) scDrawW.nd rfl (Or.inr rfl) (zP DP hr1 rfl (zA (zP DA hr1 rfl (zA (pv 0) (zA zG zD))) zD)))
   (zE (zT (i := 2) scDrawW.nd rfl (Or.inl rfl) (yD (xO K) (jD (zA zG (zA zG (zA zG (zA zG (zA zG (zA zG (zA zG (zA zG zD))))))))) (yB x6 (zP DA hr1 rfl (zA (pv 0) (zA zG zD))) zG) (fun _ _ => rfl)))
   (zF (zK (y9 (zA (pv 1) (zA (yA (yX K) rfl T.tuple yL (zA (xI (N' := ["_law_cell", "_law_points_here"]) (fr := [none, some 1]) (yM (by rfl)) rfl (yT K .l (vC (zpg K) (pv 0) (vO zG) (vO (yB xH zG (pv 2)))))
    (fun _ _ _ _ => zM (i := 0) zua rfl (Or.inl rfl) (Or.inr rfl)) (fun _ _ _ _ => xG) (fun _ _ _ _ => zP DT hr1 rfl (zA (pv 0) (zA (pv 1) zD)))) zD)) zD)))))), ?_⟩
  refine ⟨_, rfl, a, ns, 0, rfl, hq, _, rfl, fun n n1 n9 => ?_⟩
  refine ⟨by show 8 <= sizeLine; decide, fun g hg => ?_⟩
  have s1 := Same.new (o := HO.lst [.int 5, .int 4, .int 6, .int 3, .int 5, .int 4, .int 2, .int 8]) hg
  have g1 : (upd H g (.lst [.int 5, .int 4, .int 6, .int 3, .int 5, .int 4, .int 2, .int 8])) g = some (.lst [.int 5, .int 4, .int 6, .int 3, .int 5, .int 4, .int 2, .int 8]) := zC
  generalize upd H g (.lst [.int 5, .int 4, .int 6, .int 3, .int 5, .int 4, .int 2, .int 8]) = H1 at s1 g1 ⊢
  obtain ⟨most, m0, m7, em⟩ := zud (ns.getD 1 0)
  refine ⟨_, rfl, a, ns, 1, rfl, s1.seq hq, _, _, rfl, rfl, (by show (0 : Int) < 8; decide), g, _, _, _, rfl, rfl, SqL.of g1, em, ?_⟩
  dsimp only [List.set]
  obtain ⟨ms, ec, ml⟩ := zvj ns most m0 m7
  refine ⟨_, rfl, _, rfl, _, rfl, _, rfl, _, _, rfl, rfl, _, rfl, a, _, rfl, s1.seq hq, fun p1 hp1 => ?_⟩
  rw [ec]
  have s2 := s1.trans (Same.new (o := HO.lst (ms.map V.int)) hp1)
  have h2 : (upd H1 p1 (.lst (ms.map V.int))) p1 = some (.lst (ms.map V.int)) := zC
  generalize upd H1 p1 (.lst (ms.map V.int)) = H2 at s2 h2 ⊢
  refine ⟨p1, rfl, ⟨_, SqL.of h2⟩, yZ (k := .l) (a := p1) (xs := ms.map V.int) (fun σ => ∃ u, σ = [u, some (.int n)]) (fun j ys H3 => Same H2 H3 /\ ∃ ps : List (Int × Int), Paired (TieAt H3) ys ps /\ ps.length = j /\ (∀ p ∈ ps, InN n p) /\ ∀ p ∈ ps, p.1 <= p.2) ⟨_, rfl⟩ ⟨Same.refl _, [], .nil, rfl, fun _ z => (nomatch z), fun _ z => (nomatch z)⟩ (by rw [List.length_map]; exact wT (by lia)) (fun j ys H3 _ z => SqL.of (z.1 _ _ h2)) ?_ ?_⟩
  ·rintro j x ys σ H3 N hx ⟨u, rfl⟩ ⟨s3, ps, hp, pl, hb, hn⟩ hN
   obtain ⟨cell, ec2, rfl⟩ := xR hx
   dsimp only [yR, List.set]
   refine zdi ⟨_, rfl, _, rfl, cell, n, rfl, n1, n9, fun p d ip np hd => ?_⟩
   have s4 := Same.new (o := HO.tup [.int p.1, .int p.2]) hd
   refine hN _ _ _ ⟨_, rfl⟩ ⟨s3.trans s4, ps ++ [p], L2.Paired.snoc (yE hp s4) ⟨d, rfl, zC⟩, by rw [List.length_append, pl]; rfl, fun p' hp' => ?_, fun p' hp' => ?_⟩ (by simp)
   ·rcases List.mem_append.mp hp' with z | z
    ·exact hb p' z
    ·rw [List.mem_singleton.mp z]; exact ip
   ·rcases List.mem_append.mp hp' with z | z
    ·exact hn p' z
    ·rw [List.mem_singleton.mp z]; exact np
  ·rintro ys H3 ⟨s3, ps, hp, pl, hb, hn⟩ p4 hp4
   rw [List.length_map] at pl
   have s4 := Same.new (o := HO.lst ys) hp4
   have h4 : (upd H3 p4 (.lst ys)) p4 = some (.lst ys) := zC
   generalize upd H3 p4 (.lst ys) = H4 at s4 h4 ⊢
   refine ⟨p4, ys, rfl, .inl ⟨SqL.of h4, fun d hd => ⟨by show 2 <= sizeLine; decide, fun c hc => ?_⟩⟩⟩
   have s5 := Same.new (o := HO.tup ys) hd
   have s6 := Same.new (o := HO.tup [.int n, .ref d]) hc
   exact q (.ref c) n ps _ (s2.trans (s3.trans (s4.trans (s5.trans s6)))) ⟨c, d, ys, rfl, zC, s6 _ _ zC, yE hp (s4.trans (s5.trans s6))⟩ ⟨⟨n1, n9⟩, hb, by lia⟩ hn (by lia)
theorem scFold : zJ ["_law_cells", "_law_by", "_law_number", "_law_cell"] ["_law_cells", "_law_by"] (zB zgd) := ⟨rfl, rfl, rfl, by decide +kernel, rfl, by decide +kernel, by decide +kernel⟩
theorem zAa (S : Src K mg "_law_folded" zgd ["_law_cells", "_law_by"]) : Def P w K mg base 1 "_law_folded" ["_law_cells", "_law_by"] (zrn K) := by
 refine S.def scFold (fun vs H Q E h => ?_) (fun f cdv A outer s H vs Q E hr h => ?_)
 ·obtain ⟨_, _, _, rfl, _⟩ := h; rfl
 ·obtain ⟨a, ns, by_, rfl, hq, b0, b9, q⟩ := h
  refine ⟨_, zE (zT (i := 2) scFold.nd rfl (Or.inl rfl) (yB xH zG (pv 1)))
   (zE (wX PassesOwn.never rfl (yT K .l (pv 0)) (zM (i := 3) scFold.nd rfl (Or.inl rfl))
    (zF (zT (i := 2) scFold.nd rfl (Or.inl rfl) (yB x6 (yB xH (yB xH (yB zju (pv 2) zG) (yB x6 (pv 3) zG)) (pv 1)) zG))))
   (zF (zK (pv 2)))), ?_⟩
  refine ⟨_, rfl, _, _, rfl, rfl, ?_⟩
  dsimp only [List.set]
  refine ⟨_, rfl, a, rfl, ⟨_, hq⟩, kY (k := .l) (K := K) (a := a) (xs := ns.map V.int) (fun i σ H' => H' = H /\ ∃ (z : Int) (u : Option V), σ = [some (.ref a), some (.int by_), some (.int z), u] /\ 0 <= z /\ z < 2147483647) ⟨rfl, 7 + by_, _, rfl, by lia, by lia⟩ (fun i σ H' _ z => by rw [z.1]; exact hq) ?_ ?_⟩
  ·rintro i x σ H' hx ⟨rfl, z, u, rfl, z0, z1⟩
   obtain ⟨c, ec, rfl⟩ := xR hx
   dsimp only [yR, List.set]
   refine ⟨_, rfl, _, _, rfl, rfl, .inl ⟨by lia, by lia⟩, _, rfl, _, _, rfl, rfl, (by show (0 : Int) < 2147483647; decide), _, _, rfl, rfl, _, rfl, _, _, rfl, rfl, _, _, rfl, rfl, (by show (0 : Int) < 2147483647; decide), ?_⟩
   exact ⟨rfl, _, _, rfl, (vD _ _ (by decide)).1, (vD _ _ (by decide)).2⟩
  ·rintro σ H' ⟨rfl, z, u, rfl, z0, z1⟩
   exact ⟨_, rfl, q z z0 z1⟩
end
def zrh : Sp := fun vs H Q _ => ∃ (z : Int) (m : Nat), vs = [.int z, .int m] /\ 0 <= z /\ z < 2147483647 /\ m <= 9 /\ ∀ (l : Addr) (ord : List Int) (H' : Hp), Same H H' -> H' l = some (.lst (ord.map V.int)) -> ord.Perm (ups m) -> Q (.ref l) H'
def zkn (K : W.Frag) : Sp := fun vs H Q _ => ∃ (a : Addr) (ns : List Int) (b m : Nat), vs = [.ref a, .int b, .int m] /\ SqL K H a (ns.map V.int) /\ b <= 9 /\ m <= 9 /\ ∀ (l : Addr) (ord : List Int) (H' : Hp), Same H H' -> H' l = some (.lst (ord.map V.int)) -> ord.Perm (ups m) -> Q (.ref l) H'
theorem zcg {ord : List Int} {j : Nat} (pm : ord.Perm (ups j)) (i : Nat) : (ord.take i ++ (j : Int) :: ord.drop i).Perm (ups ((j + 1 : Nat) : Int)) := by
 have e1 : ups ((j + 1 : Nat) : Int) = ups j ++ [(j : Int)] := by rw [show ((j + 1 : Nat) : Int) = (j : Int) + 1 by lia, zpa (by lia)]
 rw [e1]
 refine List.perm_middle.trans ?_
 rw [List.take_append_drop]
 exact (pm.cons _).trans (List.perm_append_singleton _ _).symm
theorem zfl (c : Int) : ∀ ties : List Int, inV (.int c) (ties.map V.int) = decide (c ∈ ties)
 | [] => rfl
 | x :: l => by
  have ih := zfl c l
  unfold inV at ih ⊢
  rw [List.map_cons, List.any_cons, ih]
  show (x == c || decide (c ∈ l)) = decide (c ∈ x :: l)
  rw [Bool.eq_iff_iff]
  simp only [Bool.or_eq_true, beq_iff_eq, decide_eq_true_iff, List.mem_cons]
  exact ⟨fun h => h.imp Eq.symm id, fun h => h.imp Eq.symm id⟩
theorem zic (l : List Int) : (l.map V.int).all jS = true := by
 rw [List.all_eq_true]
 intro x hx
 obtain ⟨_, _, rfl⟩ := List.mem_map.mp hx
 rfl
section
variable {P : Program} {w : World} {K : W.Frag} {mg : Str -> Option Value} {base : Heap}
theorem scTurn : zJ ["_law_number", "_law_many", "_law_found", "_law_k"] ["_law_number", "_law_many"] (zB zfs) := ⟨rfl, rfl, rfl, by decide +kernel, rfl, by decide +kernel, by decide +kernel⟩
theorem zzo (T : Txt K mg) (S : Src K mg "_law_turned" zfs ["_law_number", "_law_many"]) : Def P w K mg base 1 "_law_turned" ["_law_number", "_law_many"] zrh := by
 refine S.def scTurn (fun vs H Q E h => ?_) (fun f cdv A outer s H vs Q E hr h => ?_)
 ·obtain ⟨_, _, rfl, _⟩ := h; rfl
 ·obtain ⟨z, m, rfl, z0, z1, m9, q⟩ := h
  refine ⟨_, zE (zT (i := 2) scTurn.nd rfl (Or.inl rfl) (jD zD))
   (zE (wX PassesOwn.never rfl (zdq rfl T.range (zA (pv 1) zD)) (zM (i := 3) scTurn.nd rfl (Or.inl rfl))
    (zE (zT (i := 0) scTurn.nd rfl (Or.inl rfl) (yB x6 (yB zju (pv 0) zG) zG))
    (zF (wZ (zoi PySem.F.plainAttrs_list PySem.F.slot_list_insert PySem.F.type_list_insert gG (pv 2) (zA (yB x6 (yB vP (pv 0) zG) (yB xH (pv 3) zG)) (zA (pv 3) zD)))))))
   (zF (zK (pv 2)))), ?_⟩
  refine ⟨Nat.zero_le _, fun g hg => ?_⟩
  have s0 := Same.new (o := HO.lst []) hg
  have g0 : (upd H g (.lst [])) g = some (.lst (([] : List Int).map V.int)) := zC
  generalize upd H g (.lst []) = H1 at s0 g0 ⊢
  dsimp only [List.set]
  refine ⟨_, rfl, (m : Int), rfl, by lia, by lia, ?_⟩
  rw [Int.toNat_natCast]
  refine zdx (lo := 0) (n := m) (fun j σ H' => (∃ (z : Int) (u : Option V), σ = [some (.int z), some (.int m), some (.ref g), u] /\ 0 <= z /\ z < 2147483647) /\ Same H H' /\ ∃ ord : List Int, H' g = some (.lst (ord.map V.int)) /\ ord.Perm (ups j)) ⟨⟨z, _, rfl, z0, z1⟩, s0, [], g0, List.Perm.refl _⟩ ?_ ?_
  ·rintro j σ H2 hj ⟨⟨z, u, rfl, z0, z1⟩, sm, ord, ho, pm⟩
   have ol : ord.length = j := by rw [pm.length_eq, yW]; lia
   rw [show (0 : Int) + (j : Int) = (j : Int) by lia]
   dsimp only [yR, List.set]
   refine ⟨_, rfl, _, _, rfl, rfl, .inl ⟨by lia, by lia⟩, _, _, rfl, rfl, (by show (0 : Int) < 2147483647; decide), ?_⟩
   dsimp only [List.set]
   have b := vD (z * 16807) 2147483647 (by decide)
   generalize z * 16807 % 2147483647 = z2 at b ⊢
   refine ⟨_, rfl, .inl ⟨rfl, _, SqL.of ho⟩, _, rfl, _, _, rfl, rfl, ⟨by decide, by decide⟩, _, rfl, _, _, rfl, rfl, _, _, rfl, rfl, (by show (0 : Int) < (j : Int) + 1; lia), _, rfl, ?_⟩
   have hz := vD (z2 / 11) ((j : Int) + 1) (by lia)
   obtain ⟨i, hi⟩ := Int.eq_ofNat_of_zero_le hz.1
   refine ⟨g, ord.map V.int, i, .int j, rfl, ?_, ho, by rw [List.length_map]; lia, by rw [List.length_map]; lia, ?_⟩
   ·show [V.int (z2 / 11 % ((j : Int) + 1)), V.int (j : Int)] = [V.int (i : Int), V.int (j : Int)]
    rw [hi]
   refine ⟨⟨_, _, rfl, b.1, b.2⟩, wO sm hg, ord.take i ++ (j : Int) :: ord.drop i, ?_, zcg pm i⟩
   rw [zC, List.map_append, List.map_cons, List.map_take, List.map_drop]
  ·rintro σ H2 ⟨⟨z, u, rfl, z0, z1⟩, sm, ord, ho, pm⟩
   exact ⟨_, rfl, q g ord H2 sm ho pm⟩
theorem scOrder : zJ ["_law_script", "_law_by", "_law_many", "_law_cell", "_law_number", "_law_found", "_law_k"] ["_law_script", "_law_by", "_law_many"] (zB zae) := ⟨rfl, rfl, rfl, by decide +kernel, rfl, by decide +kernel, by decide +kernel⟩
theorem zuy (T : Txt K mg) (S : Src K mg "_law_order" zae ["_law_script", "_law_by", "_law_many"]) (DA : Def P w K mg base 1 "_law_at" ["_law_script", "_law_k"] (zAd K)) (DF : Def P w K mg base 1 "_law_folded" ["_law_cells", "_law_by"] (zrn K)) (DT : Def P w K mg base 1 "_law_turned" ["_law_number", "_law_many"] zrh) : Def P w K mg base 2 "_law_order" ["_law_script", "_law_by", "_law_many"] (zkn K) := by
 refine S.def scOrder (fun vs H Q E h => ?_) (fun f cdv A outer s H vs Q E hr h => ?_)
 ·obtain ⟨_, _, _, _, rfl, _⟩ := h; rfl
 ·obtain ⟨a, ns, b, m, rfl, hq, b9, m9, q⟩ := h
  refine ⟨_, zE (zT (i := 3) scOrder.nd rfl (Or.inl rfl) (zP DA hr rfl (zA (pv 0) (zA (yB xH zG (pv 1)) zD))))
   (zE (xC (zX kF (yB x6 (pv 3) zG) zG (yF _)) (zF (zK (zP DT hr rfl (zA (zP DF hr rfl (zA (pv 0) (zA (pv 1) zD))) (zA (pv 2) zD))))) yC)
   (zE (zT (i := 3) scOrder.nd rfl (Or.inl rfl) (yB vP (pv 3) zG))
   (zE (zT (i := 4) scOrder.nd rfl (Or.inl rfl) (zP DF hr rfl (zA (pv 0) (zA (pv 1) zD))))
   (zE (zT (i := 5) scOrder.nd rfl (Or.inl rfl) (jD zD))
   (zE (wX PassesOwn.never rfl (zdq rfl T.range (zA (pv 2) zD)) (zM (i := 6) scOrder.nd rfl (Or.inl rfl))
    (zF (xC (zX kF (pv 3) zG (yF _))
     (zE (zT (i := 4) scOrder.nd rfl (Or.inl rfl) (yB x6 (yB zju (pv 4) zG) zG))
     (zF (wZ (zoi PySem.F.plainAttrs_list PySem.F.slot_list_insert PySem.F.type_list_insert gG (pv 5) (zA (yB x6 (yB vP (pv 4) zG) (yB xH (pv 6) zG)) (zA (pv 6) zD))))))
     (zE (wZ (zoi PySem.F.plainAttrs_list PySem.F.slot_list_insert PySem.F.type_list_insert gG (pv 5) (zA (yB x6 (pv 3) (yB xH (pv 6) zG)) (zA (pv 6) zD))))
     (zF (zT (i := 3) scOrder.nd rfl (Or.inl rfl) (yB vP (pv 3) (yB xH (pv 6) zG))))))))
   (zF (zK (pv 5)))))))), ?_⟩
  refine ⟨_, rfl, _, rfl, _, _, rfl, rfl, a, ns, 9 + b, ?_, hq, ?_⟩
  ·show [V.ref a, V.int (9 + (b : Int))] = [V.ref a, V.int ((9 + b : Nat) : Int)]
   rw [show (9 : Int) + (b : Int) = ((9 + b : Nat) : Int) by lia]
  generalize ns.getD (9 + b) 0 = cell
  dsimp only [List.set]
  refine ⟨_, rfl, _, _, rfl, rfl, (by show (0 : Int) < 2; decide), rfl, _, rfl, ?_⟩
  refine zwo (fun _ => ?_) (fun _ => ?_)
  ·refine ⟨_, rfl, _, rfl, a, ns, (b : Int), rfl, hq, by lia, by lia, fun z z0 z1 => ⟨_, rfl, z, m, rfl, z0, z1, m9, fun l ord H' s' hl pm => q l ord H' s' hl pm⟩⟩
  ·refine ⟨_, rfl, _, _, rfl, rfl, ⟨by decide, by decide⟩, ?_⟩
   dsimp only [List.set]
   refine ⟨_, rfl, _, rfl, a, ns, (b : Int), rfl, hq, by lia, by lia, fun z z0 z1 => ?_⟩
   dsimp only [List.set]
   refine ⟨Nat.zero_le _, fun g hg => ?_⟩
   have s0 := Same.new (o := HO.lst []) hg
   have g0 : (upd H g (.lst [])) g = some (.lst (([] : List Int).map V.int)) := zC
   generalize upd H g (.lst []) = H1 at s0 g0 ⊢
   dsimp only [List.set]
   refine ⟨_, rfl, (m : Int), rfl, by lia, by lia, ?_⟩
   rw [Int.toNat_natCast]
   refine zdx (lo := 0) (n := m) (fun j σ H' => (∃ (c z : Int) (u : Option V), σ = [some (.ref a), some (.int b), some (.int m), some (.int c), some (.int z), some (.ref g), u] /\ 0 <= z /\ z < 2147483647) /\ Same H H' /\ ∃ ord : List Int, H' g = some (.lst (ord.map V.int)) /\ ord.Perm (ups j)) ⟨⟨_, z, _, rfl, z0, z1⟩, s0, [], g0, List.Perm.refl _⟩ ?_ ?_
   ·rintro j σ H2 hj ⟨⟨c, z, u, rfl, z0, z1⟩, sm, ord, ho, pm⟩
    have ol : ord.length = j := by rw [pm.length_eq, yW]; lia
    rw [show (0 : Int) + (j : Int) = (j : Int) by lia]
    dsimp only [yR, List.set]
    refine ⟨_, rfl, rfl, _, rfl, ?_⟩
    refine zwo (fun _ => ?_) (fun _ => ?_)
    ·refine ⟨_, rfl, _, _, rfl, rfl, .inl ⟨by lia, by lia⟩, _, _, rfl, rfl, (by show (0 : Int) < 2147483647; decide), ?_⟩
     dsimp only [List.set]
     have bb := vD (z * 16807) 2147483647 (by decide)
     generalize z * 16807 % 2147483647 = z2 at bb ⊢
     refine ⟨_, rfl, .inl ⟨rfl, _, SqL.of ho⟩, _, rfl, _, _, rfl, rfl, ⟨by decide, by decide⟩, _, rfl, _, _, rfl, rfl, _, _, rfl, rfl, (by show (0 : Int) < (j : Int) + 1; lia), _, rfl, ?_⟩
     have hz := vD (z2 / 11) ((j : Int) + 1) (by lia)
     obtain ⟨i, hi⟩ := Int.eq_ofNat_of_zero_le hz.1
     refine ⟨g, ord.map V.int, i, .int j, rfl, ?_, ho, by rw [List.length_map]; lia, by rw [List.length_map]; lia, ?_⟩
     ·show [V.int (z2 / 11 % ((j : Int) + 1)), V.int (j : Int)] = [V.int (i : Int), V.int (j : Int)]
      rw [hi]
     refine ⟨⟨_, _, _, rfl, bb.1, bb.2⟩, wO sm hg, ord.take i ++ (j : Int) :: ord.drop i, ?_, zcg pm i⟩
     rw [zC, List.map_append, List.map_cons, List.map_take, List.map_drop]
    ·refine ⟨_, rfl, .inl ⟨rfl, _, SqL.of ho⟩, _, rfl, _, rfl, _, _, rfl, rfl, _, _, rfl, rfl, (by show (0 : Int) < (j : Int) + 1; lia), _, rfl, ?_⟩
     have hz := vD c ((j : Int) + 1) (by lia)
     obtain ⟨i, hi⟩ := Int.eq_ofNat_of_zero_le hz.1
     refine ⟨g, ord.map V.int, i, .int j, rfl, ?_, ho, by rw [List.length_map]; lia, by rw [List.length_map]; lia, ?_⟩
     ·show [V.int (c % ((j : Int) + 1)), V.int (j : Int)] = [V.int (i : Int), V.int (j : Int)]
      rw [hi]
     refine ⟨_, rfl, _, rfl, _, _, rfl, rfl, _, _, rfl, rfl, ⟨by show (0 : Int) < (j : Int) + 1; lia, by show (j : Int) + 1 < 1073741824; lia⟩, ?_⟩
     refine ⟨⟨_, _, _, rfl, z0, z1⟩, wO sm hg, ord.take i ++ (j : Int) :: ord.drop i, ?_, zcg pm i⟩
     rw [zC, List.map_append, List.map_cons, List.map_take, List.map_drop]
   ·rintro σ H2 ⟨⟨c, z, u, rfl, z0, z1⟩, sm, ord, ho, pm⟩
    exact ⟨_, rfl, q g ord H2 sm ho pm⟩
end
abbrev Lf := List Int × List Int × List Int
def wG (t : Int) : List Int -> List Int
 | [] => [t]
 | x :: l => if t <= x then t :: x :: l else x :: wG t l
theorem wE (t : Int) : ∀ l : List Int, (wG t l).Perm (t :: l)
 | [] => List.Perm.refl _
 | x :: l => by
  unfold wG
  split
  ·exact List.Perm.refl _
  ·exact ((wE t l).cons x).trans (List.Perm.swap t x l)
theorem insI_mem {t y : Int} {l : List Int} : y ∈ wG t l ↔ y = t \/ y ∈ l := by rw [(wE t l).mem_iff, List.mem_cons]
theorem wU (t : Int) (l : List Int) : (wG t l).length = l.length + 1 := (wE t l).length_eq
theorem vR {t : Int} : ∀ {l : List Int}, l.Pairwise (· <= ·) -> (wG t l).Pairwise (· <= ·)
 | [], _ => List.pairwise_singleton _ _
 | x :: l, h => by
  have h := List.pairwise_cons.mp h
  unfold wG
  split
  ·next c => exact List.pairwise_cons.mpr ⟨fun y hy => by
    rcases List.mem_cons.mp hy with rfl | hy
    ·exact c
    ·exact Int.le_trans c (h.1 y hy), List.pairwise_cons.mpr h⟩
  ·next c => exact List.pairwise_cons.mpr ⟨fun y hy => by
    rcases insI_mem.mp hy with rfl | hy
    ·lia
    ·exact h.1 y hy, vR h.2⟩
theorem gK {t : Int} {l : List Int} (h : l.Pairwise (· < ·)) (nt : t ∉ l) : (wG t l).Pairwise (· < ·) := by
 have u := vR (t := t) (h.imp fun h => Int.le_of_lt h)
 have nd : (wG t l).Nodup := (wE t l).nodup_iff.mpr (List.nodup_cons.mpr ⟨nt, h.imp fun h => by lia⟩)
 rw [List.pairwise_iff_getElem] at u ⊢
 intro i j hi hj hij
 have := u i j hi hj hij
 have ne : (wG t l)[i] ≠ (wG t l)[j] := fun z => by
  have := (List.getElem_inj nd).mp z
  lia
 lia
theorem zqk {t : Int} {l m : List Int} (hl : l.Pairwise (· < ·)) (hm : m.Pairwise (· < ·)) (nl : t ∉ l) (nm : t ∉ m) (e : wG t l = wG t m) : l = m := by
 have p : (t :: l).Perm (t :: m) := ((wE t l).symm.trans (by rw [e])).trans (wE t m)
 exact zbf (List.Perm.cons_inv p) (hl.imp fun h => Int.le_of_lt h) (hm.imp fun h => Int.le_of_lt h)
def toN (x : Lf) : List (List Int) := [x.1, x.2.1, x.2.2]
def ofN : List (List Int) -> Lf
 | [a, b, c] => (a, b, c)
 | _ => ([], [], [])
def lC (t : Int) (x : Lf) : Lf := (x.1, x.2.1, wG t x.2.2)
def lB (t : Int) (x : Lf) : Lf := (wG t x.1, wG t x.2.1, x.2.2)
def lF (t : Int) (x : Lf) : Lf := (wG t x.1, x.2.1, x.2.2)
def lvs : Stp -> List Lf
 | .fin => [([], [], [])]
 | .curl t s => (lvs s).map (lC t)
 | .bri t s => (lvs s).map (lB t)
 | .frk t a b => lvs a ++ (lvs b).map (lF t)
def Up3 (x : Lf) : Prop := x.1.Pairwise (· <= ·) /\ x.2.1.Pairwise (· <= ·) /\ x.2.2.Pairwise (· <= ·)
def zFg (d : Nat) (x : Lf) : Prop := x.1.length <= d /\ x.2.1.length <= d /\ x.2.2.length <= d
theorem j7 : ∀ (S : Stp), ∀ x ∈ lvs S, Up3 x /\ zFg S.deep x
 | .fin, x, h => by rw [List.mem_singleton.mp h]; exact ⟨⟨.nil, .nil, .nil⟩, Nat.le_refl _, Nat.le_refl _, Nat.le_refl _⟩
 | .curl t s, x, h => by
  obtain ⟨y, hy, rfl⟩ := List.mem_map.mp h
  obtain ⟨⟨u1, u2, u3⟩, l1, l2, l3⟩ := j7 s y hy
  refine ⟨⟨u1, u2, vR u3⟩, ?_, ?_, ?_⟩
  ·show y.1.length <= s.deep + 1; lia
  ·show y.2.1.length <= s.deep + 1; lia
  ·show (wG t y.2.2).length <= s.deep + 1; rw [wU]; lia
 | .bri t s, x, h => by
  obtain ⟨y, hy, rfl⟩ := List.mem_map.mp h
  obtain ⟨⟨u1, u2, u3⟩, l1, l2, l3⟩ := j7 s y hy
  refine ⟨⟨vR u1, vR u2, u3⟩, ?_, ?_, ?_⟩
  ·show (wG t y.1).length <= s.deep + 1; rw [wU]; lia
  ·show (wG t y.2.1).length <= s.deep + 1; rw [wU]; lia
  ·show y.2.2.length <= s.deep + 1; lia
 | .frk t a b, x, h => by
  have e : (Stp.frk t a b).deep = max a.deep b.deep + 1 := rfl
  rcases List.mem_append.mp h with h | h
  ·obtain ⟨u, l1, l2, l3⟩ := j7 a x h
   exact ⟨u, by lia, by lia, by lia⟩
  ·obtain ⟨y, hy, rfl⟩ := List.mem_map.mp h
   obtain ⟨⟨u1, u2, u3⟩, l1, l2, l3⟩ := j7 b y hy
   refine ⟨⟨vR u1, u2, u3⟩, ?_, ?_, ?_⟩
   ·show (wG t y.1).length <= _; rw [wU]; lia
   ·show y.2.1.length <= _; lia
   ·show y.2.2.length <= _; lia
def jQ (x : Lf) : T3 := ((x.2.1.length : Int), (x.2.2.length : Int), 1)
theorem wD : ∀ S : Stp, (lvs S).map jQ = S.terms
 | .fin => rfl
 | .curl t s => by
  show ((lvs s).map (lC t)).map jQ = s.terms.map (zdu (0, 1, 1))
  rw [<- wD s, List.map_map, List.map_map]
  refine List.map_congr_left fun x _ => ?_
  show ((x.2.1.length : Int), ((wG t x.2.2).length : Int), (1 : Int)) = (0 + (x.2.1.length : Int), 1 + (x.2.2.length : Int), 1 * 1)
  rw [wU]
  refine Prod.ext (by show (_ : Int) = _; lia) (Prod.ext (by show (_ : Int) = _; lia) rfl)
 | .bri t s => by
  show ((lvs s).map (lB t)).map jQ = s.terms.map (zdu (1, 0, 1))
  rw [<- wD s, List.map_map, List.map_map]
  refine List.map_congr_left fun x _ => ?_
  show (((wG t x.2.1).length : Int), (x.2.2.length : Int), (1 : Int)) = (1 + (x.2.1.length : Int), 0 + (x.2.2.length : Int), 1 * 1)
  rw [wU]
  refine Prod.ext (by show (_ : Int) = _; lia) (Prod.ext (by show (_ : Int) = _; lia) rfl)
 | .frk t a b => by
  show (lvs a ++ (lvs b).map (lF t)).map jQ = a.terms ++ b.terms
  rw [List.map_append, wD a, <- wD b, List.map_map]
  rfl
theorem zue (S : Stp) : (lvs S).length <= 2 ^ S.deep := by
 have := S.terms_len
 rw [<- wD, List.length_map] at this
 exact this
def LvIs (S : Stp) (M : List Lf) : Prop := M.Perm (lvs S) /\ (M.map toN).Pairwise NLe
theorem LvIs.uniq {S : Stp} {M M' : List Lf} (h : LvIs S M) (h' : LvIs S M') : M = M' := by
 have e := zyw ((h.1.trans h'.1.symm).map toN) h.2 h'.2
 have := congrArg (List.map ofN) e
 rw [List.map_map, List.map_map] at this
 have i : ofN ∘ toN = id := rfl
 rw [i, List.map_id, List.map_id] at this
 exact this
theorem qI {M : List Lf} {L : List (List (List Int))} (p : L.Perm (M.map toN)) : ∃ M' : List Lf, L = M'.map toN /\ M'.Perm M := by
 refine ⟨L.map ofN, ?_, ?_⟩
 ·rw [List.map_map]
  refine Eq.symm (Eq.trans (List.map_congr_left (g := id) fun x hx => ?_) (List.map_id _))
  obtain ⟨y, _, rfl⟩ := List.mem_map.mp (p.subset hx)
  rfl
 ·have := p.map ofN
  rw [List.map_map] at this
  have i : ofN ∘ toN = id := rfl
  rw [i, List.map_id] at this
  exact this
theorem zEl : ¬ (("leaves" : Str) = "rest") := by decide +kernel
theorem zCt : ¬ (("leaves" : Str) = "tie") := by decide +kernel
theorem zEn : ¬ (("leaves" : Str) = "within") := by decide +kernel
theorem zEm : ¬ (("leaves" : Str) = "without") := by decide +kernel
theorem zEi : ¬ (("many" : Str) = "rest") := by decide +kernel
theorem zCs : ¬ (("many" : Str) = "tie") := by decide +kernel
theorem zEk : ¬ (("many" : Str) = "within") := by decide +kernel
theorem zEj : ¬ (("many" : Str) = "without") := by decide +kernel
theorem zwu (t r : V) : (f2 t r).lookup ("leaves" : Str) = none := by unfold f2; rw [zL, if_neg zEl, zL, if_neg zCt]; rfl
theorem zCd (t a b : V) : (f3 t a b).lookup ("leaves" : Str) = none := by unfold f3; rw [zL, if_neg zEn, zL, if_neg zEm, zL, if_neg zCt]; rfl
theorem zwt (t r : V) : (f2 t r).lookup ("many" : Str) = none := by unfold f2; rw [zL, if_neg zEi, zL, if_neg zCs]; rfl
theorem zCc (t a b : V) : (f3 t a b).lookup ("many" : Str) = none := by unfold f3; rw [zL, if_neg zEk, zL, if_neg zEj, zL, if_neg zCs]; rfl
theorem zkc (t r : V) : (f2 t r).lookup ("tie" : Str) = some t := by unfold f2; rw [zL, if_neg zEc, zL, if_pos rfl]
theorem zzi (t a b : V) : (f3 t a b).lookup ("tie" : Str) = some t := by unfold f3; rw [zL, if_neg zEd, zL, if_neg zCq, zL, if_pos rfl]
theorem zbg {X : Cx} (K : W.Frag) {e : Expr} {ta : TE} {f : Str} {pos : Pos} (he : PE X e ta) (hb : attributeBase e f X.env (eval e X.env) = eval e X.env) (h : X.K = K := by rfl) : PE X (.Attribute e f pos) (zCn K ta f) := h ▸ wL he hb
structure StL (K : W.Frag) (CE CC CB CF : Addr) : Prop where
 lE : zem K CE "leaves" "End.leaves" zkx ["self"]
 lC : zem K CC "leaves" "Curl.leaves" zky ["self"]
 lB : zem K CB "leaves" "Bridge.leaves" zkz ["self"]
 lF : zem K CF "leaves" "Fork.leaves" zkw ["self"]
 mE : zem K CE "many" "End.many" qY ["self"]
 mC : zem K CC "many" "Curl.many" q8 ["self"]
 mB : zem K CB "many" "Bridge.many" jB ["self"]
 mF : zem K CF "many" "Fork.many" qV ["self"]
def LeafAt (H : Hp) (v : V) (x : Lf) : Prop := NestAt H v (toN x)
theorem zY {H H' : Hp} {xs : List V} {M : List Lf} (h : Paired (LeafAt H) xs M) (s : Same H H') : Paired (LeafAt H') xs M := L2.Paired.mapP h fun _ _ q => q.same s
theorem LeafAt.ex {H : Hp} {v : V} {x : Lf} (h : LeafAt H v x) : ∃ a b c d, v = .ref a /\ H a = some (.tup [.ref b, .ref c, .ref d]) /\ H b = some (.tup (x.1.map V.int)) /\ H c = some (.tup (x.2.1.map V.int)) /\ H d = some (.tup (x.2.2.map V.int)) := by
 obtain ⟨a, ys, rfl, ha, hy⟩ := h
 unfold toN at hy
 cases hy with
 | cons h1 t1 =>
  cases t1 with
  | cons h2 t2 =>
   cases t2 with
   | cons h3 t3 =>
    cases t3
    obtain ⟨b, rfl, hb⟩ := h1
    obtain ⟨c, rfl, hc⟩ := h2
    obtain ⟨d, rfl, hd⟩ := h3
    exact ⟨a, b, c, d, rfl, ha, hb, hc, hd⟩
theorem LeafAt.mk {H : Hp} {a b c d : Addr} {x : Lf} (ha : H a = some (.tup [.ref b, .ref c, .ref d])) (hb : H b = some (.tup (x.1.map V.int))) (hc : H c = some (.tup (x.2.1.map V.int))) (hd : H d = some (.tup (x.2.2.map V.int))) : LeafAt H (.ref a) x := ⟨a, _, rfl, ha, .cons ⟨b, rfl, hb⟩ (.cons ⟨c, rfl, hc⟩ (.cons ⟨d, rfl, hd⟩ .nil))⟩
theorem kG {H : Hp} {xs : List V} {M : List Lf} (h : Paired (LeafAt H) xs M) : Paired (NestAt H) xs (M.map toN) := by
 induction h with
 | nil => exact .nil
 | cons r _ ih => exact .cons r ih
theorem qK {H : Hp} {xs : List V} : ∀ {M : List Lf}, Paired (NestAt H) xs (M.map toN) -> Paired (LeafAt H) xs M := by
 intro M h
 induction M generalizing xs with
 | nil => cases h; exact .nil
 | cons x M ih =>
  cases h with
  | cons r t => exact .cons r (ih t)
def zco : Sp := fun vs H Q _ => ∃ (a : Addr) (l : List Int) (t : Int), vs = [.ref a, .int t] /\ H a = some (.tup (l.map V.int)) /\ l.Pairwise (· <= ·) /\ l.length <= 60 /\ ∀ p H', Same H H' -> H' p = some (.tup ((wG t l).map V.int)) -> Q (.ref p) H'
def kA (CE CC CB CF : Addr) (c d : Nat) : Sp := fun vs H Q _ => ∃ (v : V) (S : Stp), vs = [v] /\ StepAt CE CC CB CF H S v /\ S.hd = c /\ S.deep <= d /\ d <= 8 /\ ∀ l xs M H', Same H H' -> H l = none -> H' l = some (.lst xs) -> Paired (LeafAt H') xs M -> LvIs S M -> Q (.ref l) H'
def j9 (CE CC CB CF : Addr) (c d : Nat) : Sp := fun vs H Q _ => ∃ (v : V) (S : Stp), vs = [v] /\ StepAt CE CC CB CF H S v /\ S.hd = c /\ S.deep <= d /\ d <= 8 /\ ∀ H', Same H H' -> Q (.int ((lvs S).length : Int)) H'
theorem zcw {S : Stp} {M : List Lf} (h : LvIs S M) (d8 : S.deep <= 8) : M.length <= 256 := by
 rw [h.1.length_eq]
 exact Nat.le_trans (zue S) (Nat.pow_le_pow_right (by decide) d8)
section
variable {P : Program} {w : World} {K : W.Frag} {mg : Str -> Option Value} {base : Heap} {CE CC CB CF : Addr}
seal PSs PS PE PI PA PT PG
theorem zxt : zJ ["ties", "tie"] ["ties", "tie"] (zB zfr) := ⟨rfl, rfl, rfl, by decide +kernel, rfl, by decide +kernel, by decide +kernel⟩
theorem zzn (T : Txt K mg) (S : Src K mg "with_tie" zfr ["ties", "tie"]) : Def P w K mg base 1 "with_tie" ["ties", "tie"] zco := by
 refine S.def zxt (fun vs H Q E h => ?_) (fun f cdv A outer s H vs Q E hr h => ?_)
 ·obtain ⟨_, _, _, rfl, _⟩ := h; rfl
 ·obtain ⟨a, l, t, rfl, ha, up, l60, q⟩ := h
  refine ⟨_, zF (zK (yA (yX K) rfl T.tuple yL (zA (zO (jY .t) (by rfl) T.sorted y6 (zA (yB (zce K) (pv 0) (y9 (zA (pv 1) zD))) zD)) zD))), ?_⟩
  refine ⟨_, rfl, _, rfl, by show 1 <= sizeLine; decide, fun p1 hp1 => ?_⟩
  have s1 := Same.new (o := HO.tup [.int t]) hp1
  refine ⟨a, p1, _, _, rfl, rfl, s1 _ _ ha, zC, ?_, fun p2 H2 s2 hp2 => ?_⟩
  ·rw [List.length_map]
   exact Nat.le_of_lt (Nat.lt_of_le_of_lt (show l.length + 1 <= 100 by lia) (by decide))
  have e2 : H2 p2 = some (.tup ((l ++ [t]).map V.int)) := by rw [hp2, List.map_append]; rfl
  refine ⟨p2, l ++ [t], rfl, SqT.of e2, by rw [List.length_append, List.length_singleton]; lia, fun g ms pm um hg => ?_⟩
  have em : ms = wG t l := zbf (pm.trans ((List.perm_append_singleton t l).trans (wE t l).symm)) um (vR up)
  refine ⟨g, _, rfl, .inl ⟨SqL.of zC, fun p hp => ?_⟩⟩
  refine q p _ ((s1.trans s2).trans ((Same.new hg).trans (Same.new hp))) ?_
  rw [zC, em]
structure zox (P : Program) (w : World) (K : W.Frag) (mg : Str -> Option Value) (base : Heap) (CE CC CB CF : Addr) (d : Nat) : Prop where
 e : ∃ f fd, jZ K CE "leaves" f /\ Binds K fd ["self"] [] /\ FnOk P w K mg base CX0 (3 + d) f fd ["self"] (kA CE CC CB CF 0 d)
 c : ∃ f fd, jZ K CC "leaves" f /\ Binds K fd ["self"] [] /\ FnOk P w K mg base CX0 (3 + d) f fd ["self"] (kA CE CC CB CF 1 d)
 b : ∃ f fd, jZ K CB "leaves" f /\ Binds K fd ["self"] [] /\ FnOk P w K mg base CX0 (3 + d) f fd ["self"] (kA CE CC CB CF 2 d)
 f : ∃ f fd, jZ K CF "leaves" f /\ Binds K fd ["self"] [] /\ FnOk P w K mg base CX0 (3 + d) f fd ["self"] (kA CE CC CB CF 3 d)
theorem vQ {A : Around} {d : Nat} (T : StK K mg CE CC CB CF) (O : zox P w K mg base CE CC CB CF d) (R : Room (3 + d) A) {H : Hp} {Q : VK} {r : V} {S : Stp} (hs : StepAt CE CC CB CF H S r) (dp : S.deep <= d) (d8 : d <= 8)
  (q : ∀ l xs M H', Same H H' -> H l = none -> H' l = some (.lst xs) -> Paired (LeafAt H') xs M -> LvIs S M -> Q (.ref l) H') :
  ∃ a C dx fs, r = .ref a /\ H a = some (.ins C dx fs) /\ fs.lookup ("leaves" : Str) = none /\
   ∃ (k : Nat) (f : Addr) (fd : FuncData) (ps : List Str) (sp : Sp), Cls K C /\ jZ K C "leaves" f /\ FnOk P w K mg base CX0 k f fd ps sp /\ Room k A /\ Binds K fd ps [] /\ sp [r] H Q E0 := by
 cases S with
 | fin =>
  obtain ⟨a, dx, e, h⟩ := id hs
  obtain ⟨f, fd, m, b, F⟩ := O.e
  exact ⟨a, CE, dx, _, e, h, rfl, _, f, fd, _, _, T.clE, m, F, R, b, r, _, rfl, hs, rfl, dp, d8, q⟩
 | curl t s =>
  obtain ⟨a, dx, x, e, h, z⟩ := id hs
  obtain ⟨f, fd, m, b, F⟩ := O.c
  exact ⟨a, CC, dx, _, e, h, zwu _ _, _, f, fd, _, _, T.clC, m, F, R, b, r, _, rfl, hs, rfl, dp, d8, q⟩
 | bri t s =>
  obtain ⟨a, dx, x, e, h, z⟩ := id hs
  obtain ⟨f, fd, m, b, F⟩ := O.b
  exact ⟨a, CB, dx, _, e, h, zwu _ _, _, f, fd, _, _, T.clB, m, F, R, b, r, _, rfl, hs, rfl, dp, d8, q⟩
 | frk t s u =>
  obtain ⟨a, dx, x, y, e, h, z⟩ := id hs
  obtain ⟨f, fd, m, b, F⟩ := O.f
  exact ⟨a, CF, dx, _, e, h, zCd _ _ _, _, f, fd, _, _, T.clF, m, F, R, b, r, _, rfl, hs, rfl, dp, d8, q⟩
theorem vV : (["tree", "inner", "outer", "self"] : List Str).Nodup := by decide +kernel
theorem zDu : zJ ["self"] ["self"] (zB zkx) := ⟨rfl, rfl, rfl, by decide +kernel, rfl, by decide +kernel, by decide +kernel⟩
theorem zwi {f : Addr} {fd : FuncData} {d : Nat} (F : Fun K "leaves" "End.leaves" zkx f fd) : FnOk P w K mg base CX0 (3 + d) f fd ["self"] (kA CE CC CB CF 0 d) := by
 refine FnOk.mono (F.ok (k := 0) zDu (fun vs H Q E h => ?_) (fun cdv A outer s H vs Q E hr h => ?_)) (by lia)
 ·obtain ⟨_, _, rfl, _⟩ := h; rfl
 ·obtain ⟨v, S, rfl, hs, hh, dp, d8, q⟩ := h
  cases S with
  | fin =>
   refine ⟨_, zF (zK (jD (zA (y9 (zA (y9 zD) (zA (y9 zD) (zA (y9 zD) zD)))) zD))), ?_⟩
   refine ⟨Nat.zero_le _, fun b hb => ⟨Nat.zero_le _, fun c hc => ⟨Nat.zero_le _, fun d hd => ⟨by show 3 <= sizeLine; decide, fun a ha => ⟨by show 1 <= sizeLine; decide, fun l hl => ?_⟩⟩⟩⟩⟩
   have s1 := Same.new (o := HO.tup []) hb
   have s2 := Same.new (o := HO.tup []) hc
   have s3 := Same.new (o := HO.tup []) hd
   have s4 := Same.new (o := HO.tup [.ref b, .ref c, .ref d]) ha
   have s5 := Same.new (o := HO.lst [.ref a]) hl
   refine q l _ [([], [], [])] _ (s1.trans (s2.trans (s3.trans (s4.trans s5)))) ((s1.trans (s2.trans (s3.trans s4))).free hl) zC (.cons (LeafAt.mk (s5 _ _ zC) (s5 _ _ (s4 _ _ (s3 _ _ (s2 _ _ zC)))) (s5 _ _ (s4 _ _ (s3 _ _ zC))) (s5 _ _ (s4 _ _ zC))) .nil) ⟨List.Perm.refl _, List.pairwise_singleton _ _⟩
  | _ => cases hh
theorem scCL : zJ ["self", "below"] ["self"] (zB zky) := ⟨rfl, rfl, rfl, by decide +kernel, rfl, by decide +kernel, by decide +kernel⟩
theorem zBr {f : Addr} {fd : FuncData} {d : Nat} (F : Fun K "leaves" "Curl.leaves" zky f fd) (X : Txt K mg) (T : StK K mg CE CC CB CF) (DW : Def P w K mg base 1 "with_tie" ["ties", "tie"] zco) (O : zox P w K mg base CE CC CB CF d) : FnOk P w K mg base CX0 (3 + (d + 1)) f fd ["self"] (kA CE CC CB CF 1 (d + 1)) := by
 refine FnOk.mono (F.ok (k := 3 + d) scCL (fun vs H Q E h => ?_) (fun cdv A outer s H vs Q E hr h => ?_)) (by lia)
 ·obtain ⟨_, _, rfl, _⟩ := h; rfl
 ·obtain ⟨v, S, rfl, hs, hh, dp, d8, q⟩ := h
  cases S with
  | curl t s =>
   obtain ⟨a, dx, r, rfl, ha, hr0⟩ := hs
   have hr1 : Room 1 _ := hr.mono (by lia)
   have sd : s.deep <= d := Nat.le_of_succ_le_succ dp
   refine ⟨_, zE (zT (i := 1) scCL.nd rfl (Or.inl rfl) (yQ (wL (pv 0) rfl)))
    (zF (zK (zO (wM (xE hr)) (by rfl) X.sorted y6 (zA (xI (N' := ["tree", "inner", "outer", "self"]) (fr := [none, none, none, some 0]) (yM (by rfl)) rfl (yT K .l (pv 1))
     (g := zls K 3 (wW (yR 0) (wW (yR 1) (wW (yR 2) zou)))) (fun _ _ _ _ => xQ K 3 rfl (zU (zM (i := 0) vV rfl (Or.inl rfl) (Or.inr rfl)) (zU (zM (i := 1) vV rfl (Or.inl rfl) (Or.inr rfl)) (zU (zM (i := 2) vV rfl (Or.inl rfl) (Or.inr rfl)) xP)))) (fun _ _ _ _ => xG)
     (fun _ _ _ _ => y9 (zA (pv 0) (zA (pv 1) (zA (zP DW hr1 rfl (zA (pv 2) (zA (zbg K (pv 3) rfl) zD))) zD))))) zD)))), ?_⟩
   refine yJ fun M hM => ?_
   refine ⟨_, rfl, a, CC, dx, _, r, rfl, ha, T.clC, T.c2, jI _ _, ?_⟩
   refine vQ T O hr hr0 sd (by lia) fun l xs N H1 s1 hl0 hl hx lv => hM _ _ ?_
   clear hM M
   try dsimp only [List.set]
   have xl : xs.length = N.length := Paired.length hx
   have n256 := zcw lv (by lia)
   refine ⟨_, rfl, l, rfl, ⟨_, SqL.of hl⟩, yZ (k := .l) (K := K) (a := l) (xs := xs) (fun σ => ∃ u v r, σ = [u, v, r, some (.ref a)]) (fun i ys H' => Same H1 H' /\ Paired (LeafAt H') ys ((N.take i).map (lC t))) ⟨_, _, _, rfl⟩ ⟨Same.refl _, .nil⟩ (zfi (by lia)) (fun i ys H' _ z => SqL.of (z.1 _ _ hl)) ?_ ?_⟩
   ·rintro i x ys σ H2 Z hx2 ⟨u, v, r2, rfl⟩ ⟨sm, P2⟩ hZ
    obtain ⟨y, ey, hy⟩ := Paired.at hx hx2
    obtain ⟨b, c1, c2, c3, rfl, hb, h1, h2, h3⟩ := LeafAt.ex (NestAt.same hy sm)
    obtain ⟨⟨_, _, u3⟩, _, _, l3⟩ := j7 s y (lv.1.subset (List.mem_of_getElem? ey))
    refine ⟨b, _, rfl, SqT.of hb, rfl, _, _, rfl, _, _, rfl, _, _, rfl, rfl, ?_⟩
    dsimp only [yR, List.set]
    refine zdi ⟨_, rfl, _, rfl, _, rfl, _, rfl, a, CC, dx, _, _, rfl, sm _ _ (s1 _ _ ha), T.clC, T.c1, zkc _ _, c3, _, t, rfl, h3, u3, by lia, fun p H3 s3 hp => ?_⟩
    refine ⟨by show 3 <= sizeLine; decide, fun g hg => ?_⟩
    have s4 := Same.new (o := HO.tup [.ref c1, .ref c2, .ref p]) hg
    refine hZ _ _ _ ⟨_, _, _, rfl⟩ ⟨sm.trans (s3.trans s4), ?_⟩ (by simp)
    rw [zS ey, List.map_append]
    exact L2.Paired.snoc (zY P2 (s3.trans s4)) (LeafAt.mk zC (s4 _ _ (s3 _ _ h1)) (s4 _ _ (s3 _ _ h2)) (s4 _ _ hp))
   ·rintro ys H2 ⟨sm, P2⟩ p2 hp2
    rw [xl, List.take_length] at P2
    have s3 := Same.new (o := HO.lst ys) hp2
    have P3 := zY P2 s3
    have yl : ys.length <= 256 := by have := Paired.length P3; rw [List.length_map] at this; lia
    refine ⟨p2, ys, _, rfl, SqL.of zC, by lia, kG P3, fun z hz => ?_, fun g rs L hP pm up hg => ?_⟩
    ·obtain ⟨y, _, rfl⟩ := List.mem_map.mp hz
     exact fun e => nomatch e
    ·obtain ⟨M', rfl, pM⟩ := qI pm
     have s4 := Same.new (o := HO.lst rs) hg
     have sA := s1.trans (sm.trans (s3.trans s4))
     exact q g rs M' _ sA ((s1.trans (sm.trans s3)).free hg) zC (zY (qK hP) s4) ⟨pM.trans (lv.1.map (lC t)), up⟩
  | _ => cases hh
theorem scBL : zJ ["self", "below"] ["self"] (zB zkz) := ⟨rfl, rfl, rfl, by decide +kernel, rfl, by decide +kernel, by decide +kernel⟩
theorem zBv {f : Addr} {fd : FuncData} {d : Nat} (F : Fun K "leaves" "Bridge.leaves" zkz f fd) (X : Txt K mg) (T : StK K mg CE CC CB CF) (DW : Def P w K mg base 1 "with_tie" ["ties", "tie"] zco) (O : zox P w K mg base CE CC CB CF d) : FnOk P w K mg base CX0 (3 + (d + 1)) f fd ["self"] (kA CE CC CB CF 2 (d + 1)) := by
 refine FnOk.mono (F.ok (k := 3 + d) scBL (fun vs H Q E h => ?_) (fun cdv A outer s H vs Q E hr h => ?_)) (by lia)
 ·obtain ⟨_, _, rfl, _⟩ := h; rfl
 ·obtain ⟨v, S, rfl, hs, hh, dp, d8, q⟩ := h
  cases S with
  | bri t s =>
   obtain ⟨a, dx, r, rfl, ha, hr0⟩ := hs
   have hr1 : Room 1 _ := hr.mono (by lia)
   have sd : s.deep <= d := Nat.le_of_succ_le_succ dp
   refine ⟨_, zE (zT (i := 1) scBL.nd rfl (Or.inl rfl) (yQ (wL (pv 0) rfl)))
    (zF (zK (zO (wM (xE hr)) (by rfl) X.sorted y6 (zA (xI (N' := ["tree", "inner", "outer", "self"]) (fr := [none, none, none, some 0]) (yM (by rfl)) rfl (yT K .l (pv 1))
     (g := zls K 3 (wW (yR 0) (wW (yR 1) (wW (yR 2) zou)))) (fun _ _ _ _ => xQ K 3 rfl (zU (zM (i := 0) vV rfl (Or.inl rfl) (Or.inr rfl)) (zU (zM (i := 1) vV rfl (Or.inl rfl) (Or.inr rfl)) (zU (zM (i := 2) vV rfl (Or.inl rfl) (Or.inr rfl)) xP)))) (fun _ _ _ _ => xG)
     (fun _ _ _ _ => y9 (zA (zP DW hr1 rfl (zA (pv 0) (zA (zbg K (pv 3) rfl) zD))) (zA (zP DW hr1 rfl (zA (pv 1) (zA (zbg K (pv 3) rfl) zD))) (zA (pv 2) zD))))) zD)))), ?_⟩
   refine yJ fun M hM => ?_
   refine ⟨_, rfl, a, CB, dx, _, r, rfl, ha, T.clB, T.b2, jI _ _, ?_⟩
   refine vQ T O hr hr0 sd (by lia) fun l xs N H1 s1 hl0 hl hx lv => hM _ _ ?_
   clear hM M
   try dsimp only [List.set]
   have xl : xs.length = N.length := Paired.length hx
   have n256 := zcw lv (by lia)
   refine ⟨_, rfl, l, rfl, ⟨_, SqL.of hl⟩, yZ (k := .l) (K := K) (a := l) (xs := xs) (fun σ => ∃ u v r, σ = [u, v, r, some (.ref a)]) (fun i ys H' => Same H1 H' /\ Paired (LeafAt H') ys ((N.take i).map (lB t))) ⟨_, _, _, rfl⟩ ⟨Same.refl _, .nil⟩ (zfi (by lia)) (fun i ys H' _ z => SqL.of (z.1 _ _ hl)) ?_ ?_⟩
   ·rintro i x ys σ H2 Z hx2 ⟨u, v, r2, rfl⟩ ⟨sm, P2⟩ hZ
    obtain ⟨y, ey, hy⟩ := Paired.at hx hx2
    obtain ⟨b, c1, c2, c3, rfl, hb, h1, h2, h3⟩ := LeafAt.ex (NestAt.same hy sm)
    obtain ⟨⟨u1, u2, _⟩, l1, l2, _⟩ := j7 s y (lv.1.subset (List.mem_of_getElem? ey))
    refine ⟨b, _, rfl, SqT.of hb, rfl, _, _, rfl, _, _, rfl, _, _, rfl, rfl, ?_⟩
    dsimp only [yR, List.set]
    refine zdi ⟨_, rfl, _, rfl, a, CB, dx, _, _, rfl, sm _ _ (s1 _ _ ha), T.clB, T.b1, zkc _ _, c1, _, t, rfl, h1, u1, by lia, fun p H3 s3 hp => ?_⟩
    refine ⟨_, rfl, _, rfl, a, CB, dx, _, _, rfl, s3 _ _ (sm _ _ (s1 _ _ ha)), T.clB, T.b1, zkc _ _, c2, _, t, rfl, s3 _ _ h2, u2, by lia, fun p' H3' s3' hp' => ?_⟩
    refine ⟨_, rfl, by show 3 <= sizeLine; decide, fun g hg => ?_⟩
    have s4 := Same.new (o := HO.tup [.ref p, .ref p', .ref c3]) hg
    have s34 := s3.trans (s3'.trans s4)
    refine hZ _ _ _ ⟨_, _, _, rfl⟩ ⟨sm.trans s34, ?_⟩ (by simp)
    rw [zS ey, List.map_append]
    exact L2.Paired.snoc (zY P2 s34) (LeafAt.mk zC (s4 _ _ (s3' _ _ hp)) (s4 _ _ hp') (s34 _ _ h3))
   ·rintro ys H2 ⟨sm, P2⟩ p2 hp2
    rw [xl, List.take_length] at P2
    have s3 := Same.new (o := HO.lst ys) hp2
    have P3 := zY P2 s3
    have yl : ys.length <= 256 := by have := Paired.length P3; rw [List.length_map] at this; lia
    refine ⟨p2, ys, _, rfl, SqL.of zC, by lia, kG P3, fun z hz => ?_, fun g rs L hP pm up hg => ?_⟩
    ·obtain ⟨y, _, rfl⟩ := List.mem_map.mp hz
     exact fun e => nomatch e
    ·obtain ⟨M', rfl, pM⟩ := qI pm
     have s4 := Same.new (o := HO.lst rs) hg
     have sA := s1.trans (sm.trans (s3.trans s4))
     exact q g rs M' _ sA ((s1.trans (sm.trans s3)).free hg) zC (zY (qK hP) s4) ⟨pM.trans (lv.1.map (lB t)), up⟩
  | _ => cases hh
theorem scFL : zJ ["self", "below", "held"] ["self"] (zB zkw) := ⟨rfl, rfl, rfl, by decide +kernel, rfl, by decide +kernel, by decide +kernel⟩
theorem zBn {f : Addr} {fd : FuncData} {d : Nat} (F : Fun K "leaves" "Fork.leaves" zkw f fd) (X : Txt K mg) (T : StK K mg CE CC CB CF) (DW : Def P w K mg base 1 "with_tie" ["ties", "tie"] zco) (O : zox P w K mg base CE CC CB CF d) : FnOk P w K mg base CX0 (3 + (d + 1)) f fd ["self"] (kA CE CC CB CF 3 (d + 1)) := by
 refine FnOk.mono (F.ok (k := 3 + d) scFL (fun vs H Q E h => ?_) (fun cdv A outer s H vs Q E hr h => ?_)) (by lia)
 ·obtain ⟨_, _, rfl, _⟩ := h; rfl
 ·obtain ⟨v, S, rfl, hs, hh, dp, d8, q⟩ := h
  cases S with
  | frk t x y =>
   obtain ⟨a, dx, r, u, rfl, ha, hx0, hy0⟩ := hs
   have hr1 : Room 1 _ := hr.mono (by lia)
   have dm : max x.deep y.deep <= d := Nat.le_of_succ_le_succ dp
   have xd : x.deep <= d := Nat.le_trans (Nat.le_max_left _ _) dm
   have yd : y.deep <= d := Nat.le_trans (Nat.le_max_right _ _) dm
   refine ⟨_, zE (zT (i := 1) scFL.nd rfl (Or.inl rfl) (yQ (wL (pv 0) rfl)))
    (zE (jP (i := 2) scFL.nd rfl (Or.inl rfl) (N' := ["tree", "inner", "outer", "self"]) (fr := [none, none, none, some 0]) (yM (by rfl)) rfl (yT K .l (pv 1))
     (g := zls K 3 (wW (yR 0) (wW (yR 1) (wW (yR 2) zou)))) (fun _ _ _ _ => xQ K 3 rfl (zU (zM (i := 0) vV rfl (Or.inl rfl) (Or.inr rfl)) (zU (zM (i := 1) vV rfl (Or.inl rfl) (Or.inr rfl)) (zU (zM (i := 2) vV rfl (Or.inl rfl) (Or.inr rfl)) xP)))) (fun _ _ _ _ => xG)
     (fun _ _ _ _ => y9 (zA (zP DW hr1 rfl (zA (pv 0) (zA (zbg K (pv 3) rfl) zD))) (zA (pv 1) (zA (pv 2) zD)))))
    (zF (zK (zO (wM (xE hr)) (by rfl) X.sorted y6 (zA (yB zyt (yQ (wL (pv 0) rfl)) (pv 2)) zD))))), ?_⟩
   refine yJ fun M hM => ?_
   refine ⟨_, rfl, a, CF, dx, _, u, rfl, ha, T.clF, T.x3, zsr _ _ _, ?_⟩
   refine vQ T O hr hy0 yd (by lia) fun l xs N H1 s1 hl0 hl hx lv => hM _ _ ?_
   clear hM M
   try dsimp only [List.set]
   have xl : xs.length = N.length := Paired.length hx
   have n256 := zcw lv (by lia)
   refine yJ fun M hM => ?_
   refine ⟨_, rfl, l, rfl, ⟨_, SqL.of hl⟩, yZ (k := .l) (K := K) (a := l) (xs := xs) (fun σ => ∃ u v r, σ = [u, v, r, some (.ref a)]) (fun i ys H' => Same H1 H' /\ Paired (LeafAt H') ys ((N.take i).map (lF t))) ⟨_, _, _, rfl⟩ ⟨Same.refl _, .nil⟩ (zfi (by lia)) (fun i ys H' _ z => SqL.of (z.1 _ _ hl)) ?_ ?_⟩
   ·rintro i z ys σ H2 Z hx2 ⟨u', v, r2, rfl⟩ ⟨sm, P2⟩ hZ
    obtain ⟨w, ey, hy⟩ := Paired.at hx hx2
    obtain ⟨b, c1, c2, c3, rfl, hb, h1, h2, h3⟩ := LeafAt.ex (NestAt.same hy sm)
    obtain ⟨⟨u1, _, _⟩, l1, _, _⟩ := j7 y w (lv.1.subset (List.mem_of_getElem? ey))
    refine ⟨b, _, rfl, SqT.of hb, rfl, _, _, rfl, _, _, rfl, _, _, rfl, rfl, ?_⟩
    dsimp only [yR, List.set]
    refine zdi ⟨_, rfl, _, rfl, a, CF, dx, _, _, rfl, sm _ _ (s1 _ _ ha), T.clF, T.x1, zzi _ _ _, c1, _, t, rfl, h1, u1, by lia, fun p H3 s3 hp => ?_⟩
    refine ⟨_, rfl, _, rfl, by show 3 <= sizeLine; decide, fun g hg => ?_⟩
    have s4 := Same.new (o := HO.tup [.ref p, .ref c2, .ref c3]) hg
    refine hZ _ _ _ ⟨_, _, _, rfl⟩ ⟨sm.trans (s3.trans s4), ?_⟩ (by simp)
    rw [zS ey, List.map_append]
    exact L2.Paired.snoc (zY P2 (s3.trans s4)) (LeafAt.mk zC (s4 _ _ hp) (s4 _ _ (s3 _ _ h2)) (s4 _ _ (s3 _ _ h3)))
   rintro ys H2 ⟨sm, P2⟩ p2 hp2
   rw [xl, List.take_length] at P2
   have s3 := Same.new (o := HO.lst ys) hp2
   have P3 := zY P2 s3
   have h3 : (upd H2 p2 (.lst ys)) p2 = some (.lst ys) := zC
   have yl : ys.length <= 256 := by have := Paired.length P3; rw [List.length_map] at this; lia
   have sA := s1.trans (sm.trans s3)
   generalize upd H2 p2 (.lst ys) = H3 at s3 P3 h3 sA ⊢
   refine hM _ _ ?_
   clear hM M
   try dsimp only [List.set]
   refine ⟨_, rfl, a, CF, dx, _, r, rfl, sA _ _ ha, T.clF, T.x2, zkb _ _ _, ?_⟩
   refine vQ T O hr (hx0.same sA) xd (by lia) fun l5 xs5 N5 H5 s5 hl50 hl5 hx5 lv5 => ?_
   have n5 := zcw lv5 (by lia)
   have xl5 : xs5.length = N5.length := Paired.length hx5
   refine ⟨_, rfl, l5, p2, _, _, rfl, rfl, hl5, s5 _ _ h3, Nat.le_of_lt (zfi (by lia)), fun p6 hp6 => ?_⟩
   have s6 := Same.new (o := HO.lst (xs5 ++ ys)) hp6
   have P6 : Paired (LeafAt (upd H5 p6 (.lst (xs5 ++ ys)))) (xs5 ++ ys) (N5 ++ N.map (lF t)) := Paired.app (zY hx5 s6) (zY P3 (s5.trans s6))
   refine ⟨p6, _, _, rfl, SqL.of zC, by rw [List.length_append]; lia, kG P6, fun z hz => ?_, fun g rs L hP pm up hg => ?_⟩
   ·obtain ⟨y, _, rfl⟩ := List.mem_map.mp hz
    exact fun e => nomatch e
   ·obtain ⟨M', rfl, pM⟩ := qI pm
    have s7 := Same.new (o := HO.lst rs) hg
    have sB := sA.trans (s5.trans s6)
    exact q g rs M' _ (sB.trans s7) (sB.free hg) zC (zY (qK hP) s7) ⟨pM.trans (lv5.1.append (lv.1.map (lF t))), up⟩
  | _ => cases hh
theorem zwk (X : Txt K mg) (T : StK K mg CE CC CB CF) (TL : StL K CE CC CB CF) (DW : Def P w K mg base 1 "with_tie" ["ties", "tie"] zco) : ∀ d, zox P w K mg base CE CC CB CF d
 | 0 => by
  obtain ⟨fe, de, me, Fe, be⟩ := TL.lE
  obtain ⟨fc, dc, mc, Fc, bc⟩ := TL.lC
  obtain ⟨fb, db, mb, Fb, bb⟩ := TL.lB
  obtain ⟨ff, df, mf, Ff, bf⟩ := TL.lF
  have bad : ∀ {f : Addr} {fd : FuncData} {c : Nat}, c ≠ 0 -> FnOk P w K mg base CX0 (3 + 0) f fd ["self"] (kA CE CC CB CF c 0) := fun {f fd c} c0 => by
   have no : ∀ vs H Q E, ¬ kA CE CC CB CF c 0 vs H Q E := fun vs H Q E h => by
    obtain ⟨v, S, _, _, hh, dp, _⟩ := h
    cases S with
    | fin => exact c0 hh.symm
    | curl _ _ => exact absurd dp (Nat.not_succ_le_zero _)
    | bri _ _ => exact absurd dp (Nat.not_succ_le_zero _)
    | frk _ _ _ => exact absurd dp (Nat.not_succ_le_zero _)
   exact ⟨fun vs H Q E h => (no vs H Q E h).elim, fun A outer s H args us vs Q E _ _ _ _ h => (no vs H Q E h).elim⟩
  exact ⟨⟨fe, de, me, be, zwi Fe⟩, ⟨fc, dc, mc, bc, bad (by decide)⟩, ⟨fb, db, mb, bb, bad (by decide)⟩, ⟨ff, df, mf, bf, bad (by decide)⟩⟩
 | d + 1 => by
  have O := zwk X T TL DW d
  obtain ⟨fe, de, me, Fe, be⟩ := TL.lE
  obtain ⟨fc, dc, mc, Fc, bc⟩ := TL.lC
  obtain ⟨fb, db, mb, Fb, bb⟩ := TL.lB
  obtain ⟨ff, df, mf, Ff, bf⟩ := TL.lF
  exact ⟨⟨fe, de, me, be, zwi Fe⟩, ⟨fc, dc, mc, bc, zBr Fc X T DW O⟩, ⟨fb, db, mb, bb, zBv Fb X T DW O⟩, ⟨ff, df, mf, bf, zBn Ff X T DW O⟩⟩
structure zow (P : Program) (w : World) (K : W.Frag) (mg : Str -> Option Value) (base : Heap) (CE CC CB CF : Addr) (d : Nat) : Prop where
 e : ∃ f fd, jZ K CE "many" f /\ Binds K fd ["self"] [] /\ FnOk P w K mg base CX0 (3 + d) f fd ["self"] (j9 CE CC CB CF 0 d)
 c : ∃ f fd, jZ K CC "many" f /\ Binds K fd ["self"] [] /\ FnOk P w K mg base CX0 (3 + d) f fd ["self"] (j9 CE CC CB CF 1 d)
 b : ∃ f fd, jZ K CB "many" f /\ Binds K fd ["self"] [] /\ FnOk P w K mg base CX0 (3 + d) f fd ["self"] (j9 CE CC CB CF 2 d)
 f : ∃ f fd, jZ K CF "many" f /\ Binds K fd ["self"] [] /\ FnOk P w K mg base CX0 (3 + d) f fd ["self"] (j9 CE CC CB CF 3 d)
theorem kT {A : Around} {d : Nat} (T : StK K mg CE CC CB CF) (O : zow P w K mg base CE CC CB CF d) (R : Room (3 + d) A) {H : Hp} {Q : VK} {r : V} {S : Stp} (hs : StepAt CE CC CB CF H S r) (dp : S.deep <= d) (d8 : d <= 8)
  (q : ∀ H', Same H H' -> Q (.int ((lvs S).length : Int)) H') :
  ∃ a C dx fs, r = .ref a /\ H a = some (.ins C dx fs) /\ fs.lookup ("many" : Str) = none /\
   ∃ (k : Nat) (f : Addr) (fd : FuncData) (ps : List Str) (sp : Sp), Cls K C /\ jZ K C "many" f /\ FnOk P w K mg base CX0 k f fd ps sp /\ Room k A /\ Binds K fd ps [] /\ sp [r] H Q E0 := by
 cases S with
 | fin =>
  obtain ⟨a, dx, e, h⟩ := id hs
  obtain ⟨f, fd, m, b, F⟩ := O.e
  exact ⟨a, CE, dx, _, e, h, rfl, _, f, fd, _, _, T.clE, m, F, R, b, r, _, rfl, hs, rfl, dp, d8, q⟩
 | curl t s =>
  obtain ⟨a, dx, x, e, h, z⟩ := id hs
  obtain ⟨f, fd, m, b, F⟩ := O.c
  exact ⟨a, CC, dx, _, e, h, zwt _ _, _, f, fd, _, _, T.clC, m, F, R, b, r, _, rfl, hs, rfl, dp, d8, q⟩
 | bri t s =>
  obtain ⟨a, dx, x, e, h, z⟩ := id hs
  obtain ⟨f, fd, m, b, F⟩ := O.b
  exact ⟨a, CB, dx, _, e, h, zwt _ _, _, f, fd, _, _, T.clB, m, F, R, b, r, _, rfl, hs, rfl, dp, d8, q⟩
 | frk t s u =>
  obtain ⟨a, dx, x, y, e, h, z⟩ := id hs
  obtain ⟨f, fd, m, b, F⟩ := O.f
  exact ⟨a, CF, dx, _, e, h, zCc _ _ _, _, f, fd, _, _, T.clF, m, F, R, b, r, _, rfl, hs, rfl, dp, d8, q⟩
theorem zDt : zJ ["self"] ["self"] (zB qY) := ⟨rfl, rfl, rfl, by decide +kernel, rfl, by decide +kernel, by decide +kernel⟩
theorem zwh {f : Addr} {fd : FuncData} {d : Nat} (F : Fun K "many" "End.many" qY f fd) : FnOk P w K mg base CX0 (3 + d) f fd ["self"] (j9 CE CC CB CF 0 d) := by
 refine FnOk.mono (F.ok (k := 0) zDt (fun vs H Q E h => ?_) (fun cdv A outer s H vs Q E hr h => ?_)) (by lia)
 ·obtain ⟨_, _, rfl, _⟩ := h; rfl
 ·obtain ⟨v, S, rfl, hs, hh, dp, d8, q⟩ := h
  cases S with
  | fin => exact ⟨_, zF (zK zG), q H (Same.refl _)⟩
  | _ => cases hh
theorem zDw : zJ ["self"] ["self"] (zB q8) := ⟨rfl, rfl, rfl, by decide +kernel, rfl, by decide +kernel, by decide +kernel⟩
theorem zBq {f : Addr} {fd : FuncData} {d : Nat} (F : Fun K "many" "Curl.many" q8 f fd) (T : StK K mg CE CC CB CF) (O : zow P w K mg base CE CC CB CF d) : FnOk P w K mg base CX0 (3 + (d + 1)) f fd ["self"] (j9 CE CC CB CF 1 (d + 1)) := by
 refine FnOk.mono (F.ok (k := 3 + d) zDw (fun vs H Q E h => ?_) (fun cdv A outer s H vs Q E hr h => ?_)) (by lia)
 ·obtain ⟨_, _, rfl, _⟩ := h; rfl
 ·obtain ⟨v, S, rfl, hs, hh, dp, d8, q⟩ := h
  cases S with
  | curl t s =>
   obtain ⟨a, dx, r, rfl, ha, hr0⟩ := hs
   have sd : s.deep <= d := Nat.le_of_succ_le_succ dp
   refine ⟨_, zF (zK (yQ (wL (pv 0) rfl))), ?_⟩
   refine ⟨_, rfl, a, CC, dx, _, r, rfl, ha, T.clC, T.c2, jI _ _, ?_⟩
   refine kT T O hr hr0 sd (by lia) fun H1 s1 => ?_
   have := q H1 s1
   unfold lvs at this
   rw [List.length_map] at this
   exact this
  | _ => cases hh
theorem zDz : zJ ["self"] ["self"] (zB jB) := ⟨rfl, rfl, rfl, by decide +kernel, rfl, by decide +kernel, by decide +kernel⟩
theorem zBu {f : Addr} {fd : FuncData} {d : Nat} (F : Fun K "many" "Bridge.many" jB f fd) (T : StK K mg CE CC CB CF) (O : zow P w K mg base CE CC CB CF d) : FnOk P w K mg base CX0 (3 + (d + 1)) f fd ["self"] (j9 CE CC CB CF 2 (d + 1)) := by
 refine FnOk.mono (F.ok (k := 3 + d) zDz (fun vs H Q E h => ?_) (fun cdv A outer s H vs Q E hr h => ?_)) (by lia)
 ·obtain ⟨_, _, rfl, _⟩ := h; rfl
 ·obtain ⟨v, S, rfl, hs, hh, dp, d8, q⟩ := h
  cases S with
  | bri t s =>
   obtain ⟨a, dx, r, rfl, ha, hr0⟩ := hs
   have sd : s.deep <= d := Nat.le_of_succ_le_succ dp
   refine ⟨_, zF (zK (yQ (wL (pv 0) rfl))), ?_⟩
   refine ⟨_, rfl, a, CB, dx, _, r, rfl, ha, T.clB, T.b2, jI _ _, ?_⟩
   refine kT T O hr hr0 sd (by lia) fun H1 s1 => ?_
   have := q H1 s1
   unfold lvs at this
   rw [List.length_map] at this
   exact this
  | _ => cases hh
theorem zDq : zJ ["self"] ["self"] (zB qV) := ⟨rfl, rfl, rfl, by decide +kernel, rfl, by decide +kernel, by decide +kernel⟩
theorem zBm {f : Addr} {fd : FuncData} {d : Nat} (F : Fun K "many" "Fork.many" qV f fd) (T : StK K mg CE CC CB CF) (O : zow P w K mg base CE CC CB CF d) : FnOk P w K mg base CX0 (3 + (d + 1)) f fd ["self"] (j9 CE CC CB CF 3 (d + 1)) := by
 refine FnOk.mono (F.ok (k := 3 + d) zDq (fun vs H Q E h => ?_) (fun cdv A outer s H vs Q E hr h => ?_)) (by lia)
 ·obtain ⟨_, _, rfl, _⟩ := h; rfl
 ·obtain ⟨v, S, rfl, hs, hh, dp, d8, q⟩ := h
  cases S with
  | frk t x y =>
   obtain ⟨a, dx, r, u, rfl, ha, hx0, hy0⟩ := hs
   have dm : max x.deep y.deep <= d := Nat.le_of_succ_le_succ dp
   have xd : x.deep <= d := Nat.le_trans (Nat.le_max_left _ _) dm
   have yd : y.deep <= d := Nat.le_trans (Nat.le_max_right _ _) dm
   refine ⟨_, zF (zK (yB xH (yQ (wL (pv 0) rfl)) (yQ (wL (pv 0) rfl)))), ?_⟩
   refine ⟨_, rfl, a, CF, dx, _, r, rfl, ha, T.clF, T.x2, zkb _ _ _, ?_⟩
   refine kT T O hr hx0 xd (by lia) fun H1 s1 => ?_
   refine ⟨_, rfl, a, CF, dx, _, u, rfl, s1 _ _ ha, T.clF, T.x3, zsr _ _ _, ?_⟩
   refine kT T O hr (hy0.same s1) yd (by lia) fun H2 s2 => ?_
   refine ⟨_, _, rfl, rfl, ?_⟩
   have := q H2 (s1.trans s2)
   unfold lvs at this
   rw [List.length_append, List.length_map, Int.natCast_add] at this
   exact this
  | _ => cases hh
theorem zwj (T : StK K mg CE CC CB CF) (TL : StL K CE CC CB CF) : ∀ d, zow P w K mg base CE CC CB CF d
 | 0 => by
  obtain ⟨fe, de, me, Fe, be⟩ := TL.mE
  obtain ⟨fc, dc, mc, Fc, bc⟩ := TL.mC
  obtain ⟨fb, db, mb, Fb, bb⟩ := TL.mB
  obtain ⟨ff, df, mf, Ff, bf⟩ := TL.mF
  have bad : ∀ {f : Addr} {fd : FuncData} {c : Nat}, c ≠ 0 -> FnOk P w K mg base CX0 (3 + 0) f fd ["self"] (j9 CE CC CB CF c 0) := fun {f fd c} c0 => by
   have no : ∀ vs H Q E, ¬ j9 CE CC CB CF c 0 vs H Q E := fun vs H Q E h => by
    obtain ⟨v, S, _, _, hh, dp, _⟩ := h
    cases S with
    | fin => exact c0 hh.symm
    | curl _ _ => exact absurd dp (Nat.not_succ_le_zero _)
    | bri _ _ => exact absurd dp (Nat.not_succ_le_zero _)
    | frk _ _ _ => exact absurd dp (Nat.not_succ_le_zero _)
   exact ⟨fun vs H Q E h => (no vs H Q E h).elim, fun A outer s H args us vs Q E _ _ _ _ h => (no vs H Q E h).elim⟩
  exact ⟨⟨fe, de, me, be, zwh Fe⟩, ⟨fc, dc, mc, bc, bad (by decide)⟩, ⟨fb, db, mb, bb, bad (by decide)⟩, ⟨ff, df, mf, bf, bad (by decide)⟩⟩
 | d + 1 => by
  have O := zwj T TL d
  obtain ⟨fe, de, me, Fe, be⟩ := TL.mE
  obtain ⟨fc, dc, mc, Fc, bc⟩ := TL.mC
  obtain ⟨fb, db, mb, Fb, bb⟩ := TL.mB
  obtain ⟨ff, df, mf, Ff, bf⟩ := TL.mF
  exact ⟨⟨fe, de, me, be, zwh Fe⟩, ⟨fc, dc, mc, bc, zBq Fc T O⟩, ⟨fb, db, mb, bb, zBu Fb T O⟩, ⟨ff, df, mf, bf, zBm Ff T O⟩⟩
end
def zcs (nums A : List Int) : List Int := (ups (nums.length : Int)).filter fun i => decide (at0 nums i ∈ A)
theorem mem_pos {nums A : List Int} {i : Int} : i ∈ zcs nums A ↔ (0 <= i /\ i < (nums.length : Int)) /\ at0 nums i ∈ A := by unfold zcs; rw [List.mem_filter, mem_ups, decide_eq_true_iff]
theorem zan (nums A : List Int) : (zcs nums A).Pairwise (· < ·) := (wN _).filter _
theorem zlg {ps : List (Int × Int)} {nums A : List Int} (h8 : ps.length <= 8) (e : nums.length = ps.length) : zcs nums A ∈ w9 ps := (yH h8).mpr ⟨fun k hk => by have := (mem_pos.mp hk).1; rw [e] at this; exact this, zan _ _⟩
theorem zwx {nums : List Int} {j : Nat} (hj : j < nums.length) {i : Int} (i0 : 0 <= i) : at0 (wo nums j) i = at0 nums (Uk j i) := by
 obtain ⟨k, rfl⟩ := Int.eq_ofNat_of_zero_le i0
 unfold at0 wo Uk
 rw [List.getD_eq_getElem?_getD, List.getD_eq_getElem?_getD, Int.toNat_natCast]
 by_cases c : k < j
 ·rw [if_pos (by lia), Int.toNat_natCast, List.getElem?_append_left (by rw [List.length_take]; lia), List.getElem?_take_of_lt c]
 ·rw [if_neg (by lia), show ((k : Int) + 1).toNat = k + 1 by lia, List.getElem?_append_right (by rw [List.length_take]; lia), List.length_take, List.getElem?_drop]
  congr 2
  lia
theorem zru {nums A : List Int} {j : Nat} (hj : j < nums.length) : zcs (wo nums j) A = dnP j (zcs nums A) := by
 refine zdg (zan _ _) (zgl (zan _ _)) fun i => ?_
 rw [mem_dn, mem_pos, mem_pos]
 have l := xU hj
 constructor
 ·rintro ⟨⟨a, b⟩, c⟩
  rw [zwx hj a] at c
  refine ⟨⟨?_, ?_⟩, c⟩ <;> (unfold Uk; split <;> lia)
 ·rintro ⟨⟨a, b⟩, c⟩
  have i0 : 0 <= i := by
   unfold Uk at a
   split at a <;> lia
  refine ⟨⟨i0, ?_⟩, by rw [zwx hj i0]; exact c⟩
  unfold Uk at b
  split at b <;> lia
theorem zna {nums A B : List Int} (h : ∀ k ∈ nums, k ∈ A ↔ k ∈ B) : zcs nums A = zcs nums B := by
 refine zdg (zan _ _) (zan _ _) fun i => ?_
 rw [mem_pos, mem_pos]
 constructor
 ·rintro ⟨a, b⟩
  exact ⟨a, (h _ (zgn a.1 a.2)).mp b⟩
 ·rintro ⟨a, b⟩
  exact ⟨a, (h _ (zgn a.1 a.2)).mpr b⟩
theorem ztq {m : Nat} {A : List Int} (up : A.Pairwise (· < ·)) (hA : ∀ k ∈ A, k ∈ ups (m : Int)) : zcs (ups (m : Int)) A = A := by
 refine zdg (zan _ _) up fun i => ?_
 rw [mem_pos, yW, Int.toNat_natCast]
 constructor
 ·rintro ⟨a, b⟩
  rw [wR a.1 a.2] at b
  exact b
 ·intro h
  have := mem_ups.mp (hA i h)
  exact ⟨this, by rw [wR this.1 this.2]; exact h⟩
structure LfOk (n : Int) (ps : List (Int × Int)) (nums : List Int) (x : Lf) : Prop where
 u1 : x.1.Pairwise (· < ·)
 u2 : x.2.1.Pairwise (· < ·)
 u3 : x.2.2.Pairwise (· < ·)
 m1 : ∀ k ∈ x.1, k ∈ nums
 m2 : ∀ k ∈ x.2.1, k ∈ x.1
 m3 : ∀ k ∈ x.2.2, k ∈ nums /\ k ∉ x.1
 len : (x.1.length : Int) = yS n ps
 rank : rkP n ps (zcs nums x.1) = yS n ps
theorem zau {nums : List Int} {j : Nat} {k : Int} (h : k ∈ wo nums j) : k ∈ nums := hV h
theorem zie {nums : List Int} {j : Nat} {t : Int} (nd : nums.Nodup) (ht : nums[j]? = some t) : t ∉ wo nums j := by
 have := (zki ht).nodup_iff.mp nd
 exact (List.nodup_cons.mp this).1
theorem zsk {nums : List Int} {j : Nat} {t : Int} (ht : nums[j]? = some t) : at0 nums (j : Int) = t := by
 unfold at0
 rw [Int.toNat_natCast, List.getD_eq_getElem?_getD, ht]
 rfl
section
variable {n : Int} {ps : List (Int × Int)} {nums : List Int} {j : Nat} {t : Int}
theorem LfOk.out {y : Lf} (ok : xX n ps) (e : nums.length = ps.length) (nd : nums.Nodup) (hj : j < ps.length) (ht : nums[j]? = some t) (h : LfOk n (wo ps j) (wo nums j) y) (ea : yS n (wo ps j) = yS n ps) : LfOk n ps nums y := by
 have nt := zie nd ht
 have ny : t ∉ y.1 := fun z => nt (h.m1 t z)
 have r := j5 (n := n) ok.2.2 hj (zlg (A := y.1) ok.2.2 e) fun z => absurd ((mem_pos.mp z).2) (by rw [zsk ht]; exact ny)
 rw [<- zru (by lia), h.rank, ea] at r
 exact ⟨h.u1, h.u2, h.u3, fun k hk => zau (h.m1 k hk), h.m2, fun k hk => ⟨zau (h.m3 k hk).1, (h.m3 k hk).2⟩, by rw [h.len, ea], r.symm⟩
theorem LfOk.addC {y : Lf} (ok : xX n ps) (e : nums.length = ps.length) (nd : nums.Nodup) (hj : j < ps.length) (ht : nums[j]? = some t) (h : LfOk n (wo ps j) (wo nums j) y) (ea : yS n (wo ps j) = yS n ps) : LfOk n ps nums (lC t y) := by
 have nt := zie nd ht
 have o := LfOk.out ok e nd hj ht h ea
 refine ⟨o.u1, o.u2, gK h.u3 fun z => nt (h.m3 t z).1, o.m1, o.m2, fun k hk => ?_, o.len, o.rank⟩
 rcases insI_mem.mp hk with rfl | hk
 ·exact ⟨List.mem_of_getElem? ht, fun z => nt (h.m1 k z)⟩
 ·exact o.m3 k hk
theorem LfOk.inn {y : Lf} {p : Int × Int} (ok : xX n ps) (e : nums.length = ps.length) (nd : nums.Nodup) (hj : j < ps.length) (ht : nums[j]? = some t) (hp : zN ps j = p) (lt : p.1 < p.2) (h : LfOk (n - 1) (zZ ps j p) (wo nums j) y) : LfOk n ps nums (lF t y) := by
 have nt := zie nd ht
 have ny : t ∉ y.1 := fun z => nt (h.m1 t z)
 have tn : t ∈ nums := List.mem_of_getElem? ht
 have ea := zcl ok hj hp lt
 have jm : (j : Int) ∈ zcs nums (wG t y.1) := mem_pos.mpr ⟨⟨by lia, by lia⟩, by rw [zsk ht]; exact insI_mem.mpr (.inl rfl)⟩
 have r := zfa ok hj hp lt (zlg (A := wG t y.1) ok.2.2 e) jm
 have pc : zcs (wo nums j) (wG t y.1) = zcs (wo nums j) y.1 := zna fun k hk => by
  rw [insI_mem]
  exact ⟨fun z => z.resolve_left fun y => nt (y ▸ hk), fun z => .inr z⟩
 rw [<- zru (by lia), pc, h.rank, <- ea] at r
 refine ⟨gK h.u1 ny, h.u2, h.u3, fun k hk => ?_, fun k hk => insI_mem.mpr (.inr (h.m2 k hk)), fun k hk => ⟨zau (h.m3 k hk).1, fun z => ?_⟩, ?_, r⟩
 ·rcases insI_mem.mp hk with rfl | hk
  ·exact tn
  ·exact zau (h.m1 k hk)
 ·rcases insI_mem.mp z with rfl | z
  ·exact nt (h.m3 k hk).1
  ·exact (h.m3 k hk).2 z
 ·show ((wG t y.1).length : Int) = _
  have := h.len
  rw [wU]
  lia
theorem LfOk.innB {y : Lf} {p : Int × Int} (ok : xX n ps) (e : nums.length = ps.length) (nd : nums.Nodup) (hj : j < ps.length) (ht : nums[j]? = some t) (hp : zN ps j = p) (lt : p.1 < p.2) (h : LfOk (n - 1) (zZ ps j p) (wo nums j) y) : LfOk n ps nums (lB t y) := by
 have nt := zie nd ht
 have o := LfOk.inn ok e nd hj ht hp lt h
 refine ⟨o.u1, gK h.u2 fun z => nt (h.m1 t (h.m2 t z)), o.u3, o.m1, fun k hk => ?_, o.m3, o.len, o.rank⟩
 rcases insI_mem.mp hk with rfl | hk
 ·exact insI_mem.mpr (.inl rfl)
 ·exact o.m2 k hk
end
theorem jE {t : Int} {M : List Lf} {f : Lf -> Lf} (hf : ∀ x, (f x).1 = wG t x.1) (nd : (M.map fun x => x.1).Nodup) (up : ∀ x ∈ M, x.1.Pairwise (· < ·) /\ t ∉ x.1) : ((M.map f).map fun x => x.1).Nodup := by
 rw [List.map_map]
 induction M with
 | nil => exact .nil
 | cons x M ih =>
  rw [List.map_cons, List.nodup_cons] at nd ⊢
  refine ⟨fun z => ?_, ih nd.2 fun y hy => up y (List.mem_cons_of_mem _ hy)⟩
  obtain ⟨y, hy, e⟩ := List.mem_map.mp z
  have ux := up x List.mem_cons_self
  have uy := up y (List.mem_cons_of_mem _ hy)
  have e : wG t y.1 = wG t x.1 := by rw [<- hf, <- hf]; exact e
  exact nd.1 (by rw [<- zqk uy.1 ux.1 uy.2 ux.2 e]; exact List.mem_map_of_mem hy)
theorem zgi : ∀ (d : Nat) (n : Int) (ps : List (Int × Int)) (nums ord : List Int), OkS d n ps nums ord -> (∀ x ∈ lvs (qO d n ps nums ord), LfOk n ps nums x) /\ ((lvs (qO d n ps nums ord)).map fun x => x.1).Nodup
 | 0, n, ps, nums, ord, S => by
  have e : ps = [] := List.length_eq_zero_iff.mp S.len
  subst e
  obtain ⟨⟨n1, n9⟩, hb, h8⟩ := S.ok
  have z : yS n [] = 0 := by
   show n - cN n [] (ups ((0 : Nat) : Int)) = 0
   have := zji (ps := []) n1 n9
   rw [show ups ((0 : Nat) : Int) = [] from rfl, this]
   lia
  refine ⟨fun x hx => ?_, List.nodup_cons.mpr ⟨fun z => (nomatch z), .nil⟩⟩
  rw [List.mem_singleton.mp hx]
  refine ⟨.nil, .nil, .nil, fun k hk => (nomatch hk), fun k hk => (nomatch hk), fun k hk => (nomatch hk), by rw [z]; rfl, ?_⟩
  have en : nums = [] := List.length_eq_zero_iff.mp S.nl
  subst en
  rfl
 | d + 1, n, ps, nums, ord, S => by
  obtain ⟨jl, jat⟩ := S.at
  have okL := S.left
  have okD := S.draw
  have lt0 := S.lt
  have ok := S.ok
  have nd := S.nd
  have e : nums.length = ps.length := by rw [S.nl, S.len]
  unfold qO
  generalize ord.dropLast = ah at okL okD
  generalize ord.getLastD 0 = tie at jl jat okL okD lt0
  generalize nums.idxOf tie = j at jl jat okL okD lt0
  have nt := zie nd jat
  by_cases hc : (zN ps j).1 = (zN ps j).2
  ·rw [if_pos hc]
   obtain ⟨h1, h2⟩ := zgi d n (wo ps j) (wo nums j) ah okL
   have ea := zcm (n := n) ok.2.2 jl hc
   refine ⟨fun x hx => ?_, ?_⟩
   ·obtain ⟨y, hy, rfl⟩ := List.mem_map.mp hx
    exact LfOk.addC ok e nd jl jat (h1 y hy) ea
   ·show ((List.map (lC tie) _).map fun x => x.1).Nodup
    rw [List.map_map]
    exact h2
  ·rw [if_neg hc]
   have lt := lt0 hc
   obtain ⟨g1, g2⟩ := zgi d (n - 1) (zZ ps j (zN ps j)) (wo nums j) ah (okD hc)
   by_cases hb : rkP n ps (oth ps.length j) < yS n ps
   ·rw [if_pos hb]
    refine ⟨fun x hx => ?_, jE (t := tie) (fun _ => rfl) g2 fun y hy => ⟨(g1 y hy).u1, fun z => nt ((g1 y hy).m1 _ z)⟩⟩
    obtain ⟨y, hy, rfl⟩ := List.mem_map.mp hx
    exact LfOk.innB ok e nd jl jat rfl lt (g1 y hy)
   ·rw [if_neg hb]
    obtain ⟨h1, h2⟩ := zgi d n (wo ps j) (wo nums j) ah okL
    have ea : yS n (wo ps j) = yS n ps := by
     have a := zmf (n := n) ok.2.2 jl
     have b := zoh ok (zff ok.2.2 (j : Int))
     lia
    refine ⟨fun x hx => ?_, ?_⟩
    ·rcases List.mem_append.mp hx with hx | hx
     ·exact LfOk.out ok e nd jl jat (h1 x hx) ea
     ·obtain ⟨y, hy, rfl⟩ := List.mem_map.mp hx
      exact LfOk.inn ok e nd jl jat rfl lt (g1 y hy)
    ·show ((lvs _ ++ (lvs _).map (lF tie)).map fun x => x.1).Nodup
     rw [List.map_append]
     refine List.nodup_append.mpr ⟨h2, jE (t := tie) (fun _ => rfl) g2 fun y hy => ⟨(g1 y hy).u1, fun z => nt ((g1 y hy).m1 _ z)⟩, fun a ha b hb z => ?_⟩
     obtain ⟨x, hx, rfl⟩ := List.mem_map.mp ha
     obtain ⟨y, hy, rfl⟩ := List.mem_map.mp hb
     obtain ⟨w, _, rfl⟩ := List.mem_map.mp hy
     have z : x.1 = wG tie w.1 := z
     have : tie ∈ x.1 := by rw [z]; exact insI_mem.mpr (.inl rfl)
     exact nt ((h1 x hx).m1 tie this)
def swp (p : Int × Int) : Int × Int := (p.2, p.1)
theorem zqc (p : Int × Int) : xJ (swp p) = xJ p := by
 unfold xJ swp
 dsimp only
 by_cases h : p.1 <= p.2
 ·by_cases h2 : p.2 <= p.1
  ·have : p.1 = p.2 := by lia
   rw [if_pos h, if_pos h2, this]
  ·rw [if_pos h, if_neg h2]
 ·rw [if_neg h, if_pos (by lia)]
theorem zne (ps : List (Int × Int)) : (ps.map swp).map xJ = ps.map xJ := by
 rw [List.map_map]
 exact List.map_congr_left fun p _ => zqc p
theorem zpd {ps : List (Int × Int)} {k : Int} (k0 : 0 <= k) (kl : k < ps.length) : zN (ps.map swp) k = swp (zN ps k) := by
 have : k.toNat < ps.length := by lia
 unfold zN
 simp [List.getD, this]
theorem zxn {n : Int} {ps : List (Int × Int)} (hb : ∀ p ∈ ps, InN n p) : ∀ p ∈ ps.map swp, InN n p := fun p hp => by
 obtain ⟨q, hq, rfl⟩ := List.mem_map.mp hp
 obtain ⟨a, b, c, d⟩ := hb q hq
 exact ⟨c, d, a, b⟩
theorem zyc {n : Int} {ps : List (Int × Int)} {ks : List Int} (n1 : 1 <= n) (n9 : n <= 9) (hb : ∀ p ∈ ps, InN n p) (hk : Ks ps.length ks) : rk n (ps.map swp) ks = rkP n ps ks := by
 have l : (ps.map swp).length = ps.length := List.length_map ..
 rw [<- ztk n1 n9 (zxn hb) (by rw [l]; exact hk), zne, zhv ks _ hk]
 rfl
def zsm (K : W.Frag) : Sp := fun vs H Q _ => ∃ (kd : Kd) (l pk : Addr) (n : Int) (xs : List V) (ps : List (Int × Int)) (ks : List Int), vs = [.int n, .ref l, .ref pk] /\ H l = some (.tup xs) /\ Paired (TieAt H) xs ps /\ xX n ps /\ SqK kd K H pk (ks.map V.int) /\ Ks ps.length ks /\ ∀ H', Same H H' -> Q (.int (rkP n ps ks)) H'
section
variable {P : Program} {w : World} {K : W.Frag} {mg : Str -> Option Value} {base : Heap}
theorem scLRank : zJ ["_law_points_here", "_law_ties", "_law_pick", "_law_marks", "_law_rank_here", "_law_k", "_law_a", "_law_b", "_law_gone"] ["_law_points_here", "_law_ties", "_law_pick"] (zB zah) := ⟨rfl, rfl, rfl, by decide +kernel, rfl, by decide +kernel, by decide +kernel⟩
theorem nd4 : (["_law_mark", "_law_b", "_law_gone", "_law_marks"] : List Str).Nodup := by decide +kernel
theorem zvb (T : Txt K mg) (S : Src K mg "_law_rank" zah ["_law_points_here", "_law_ties", "_law_pick"]) : Def P w K mg base 1 "_law_rank" ["_law_points_here", "_law_ties", "_law_pick"] (zsm K) := by
 refine S.def scLRank (fun vs H Q E h => ?_) (fun f cdv A outer s H vs Q E hr h => ?_)
 ·obtain ⟨_, _, _, _, _, _, _, rfl, _⟩ := h; rfl
 ·obtain ⟨kd, lt, pk, n, xs, ps, ks, rfl, hlt, ht, ⟨⟨n1, n9⟩, hb, h8⟩, hk, hks, q⟩ := h
  have rks := fun H' s => by have := q H' s; rw [<- zyc n1 n9 hb hks] at this; exact this
  obtain ⟨m, rfl⟩ := Int.eq_ofNat_of_zero_le (show 0 <= n by lia)
  refine ⟨_, zE (zT (i := 3) scLRank.nd rfl (Or.inr rfl) (yA (x9 rfl) rfl T.list xK (zA (yA wH rfl T.range wI (zA (pv 0) zD)) zD)))
   (zE (zT (i := 4) scLRank.nd rfl (Or.inl rfl) zG)
   (zE (wX PassesOwn.never rfl (yT K kd (pv 2)) (zM (i := 5) scLRank.nd rfl (Or.inl rfl))
    (zE (zrt (yD (zQ K) (pv 1) (pv 5) (fun _ _ => rfl)) (xQ K 2 rfl (zU (zM (i := 6) scLRank.nd rfl (Or.inl rfl)) (zU (zM (i := 7) scLRank.nd rfl (Or.inr rfl)) xP))))
    (zF (xC (zX zbj (yD (xO K) (pv 3) (pv 6) (fun _ _ => rfl)) (yD (xO K) (pv 3) (pv 7) (fun _ _ => rfl)) (yF _))
     (zE (zT (i := 8) scLRank.nd rfl (Or.inr rfl) (yD (xO K) (pv 3) (pv 6) (fun _ _ => rfl)))
     (zE (zT (i := 3) scLRank.nd rfl (Or.inr rfl) (xI (N' := ["_law_mark", "_law_b", "_law_gone", "_law_marks"]) (fr := [none, some 7, some 8, some 3]) (yM (by rfl)) rfl (yT K .l (pv 3))
      (fun _ _ _ _ => zM (i := 0) nd4 rfl (Or.inl rfl) (Or.inr rfl)) (fun _ _ _ _ => xG)
      (fun _ _ _ _ => kE (zX kF (pv 0) (pv 2) (yF _)) (yD (r := zAf K) (xO K) (pv 3) (pv 1) (fun _ _ => rfl)) (pv 0))))
     (zF (zT (i := 4) scLRank.nd rfl (Or.inl rfl) (yB xH (pv 4) zG))))) yC))))
   (zF (zK (pv 4))))), ?_⟩
  refine ⟨_, rfl, _, rfl, fun p hp => ⟨p, m, rfl, zC, by lia, fun l hl => ?_⟩⟩
  have s1 := (Same.new (o := HO.rng 0 m) hp).trans (Same.new (o := HO.lst (upN m)) hl)
  have hl1 : (upd (upd H p (.rng 0 m)) l (.lst (upN m))) l = some (.lst ((ups m).map V.int)) := by rw [zC, kO]
  generalize upd (upd H p (.rng 0 m)) l (.lst (upN m)) = H1 at s1 hl1 ⊢
  refine ⟨_, rfl, pk, rfl, ⟨_, s1.seqK hk⟩, zhw (k := kd) (K := K) (a := pk) (xs := ks.map V.int) (fun i σ H' => ∃ l u v t r, σ = [some (.int m), some (.ref lt), some (.ref pk), some (.ref l), some (.int (rkF (ps.map swp) (ups m, 0) (ks.take i)).2), u, v, t, r] /\ Same H H' /\ H' l = some (.lst ((rkF (ps.map swp) (ups m, 0) (ks.take i)).1.map V.int))) ⟨l, _, _, _, _, rfl, s1, hl1⟩ (fun i σ H' _ ⟨_, _, _, _, _, _, z, _⟩ => z.seqK hk) ?_ ?_⟩
  ·rintro i x σ H' hx ⟨l, u, v, t, r, rfl, sm, hl⟩
   obtain ⟨k, ek, rfl⟩ := xR hx
   obtain ⟨k0, kl⟩ := hks k (List.mem_of_getElem? ek)
   obtain ⟨tc, et, htc⟩ := zgm ht k0 kl
   obtain ⟨b1, b2, b3, b4⟩ := wJ hb k0 kl
   have esn : rkF (ps.map swp) (ups m, 0) (ks.take (i + 1)) = w4 (rkF (ps.map swp) (ups m, 0) (ks.take i)) (swp (zN ps k)) := by rw [zS ek, zpm, zpd k0 kl]
   generalize hst : rkF (ps.map swp) (ups m, 0) (ks.take i) = st at hl esn
   have msl : st.1.length = m := by rw [<- hst, zlb, yW]; simp
   have a0 := zgp (l := st.1) (i := (zN ps k).1) b1 (by lia)
   have a1 := zgp (l := st.1) (i := (zN ps k).2) b3 (by lia)
   have htc' := sm _ _ htc
   have hlt' := sm _ _ hlt
   dsimp only [yR, List.set]
   refine ⟨_, rfl, _, rfl, lt, _, _, _, rfl, rfl, SqT.of hlt', et, tc, _, rfl, SqT.of htc', rfl, _, _, rfl, _, _, rfl, rfl, ?_⟩
   dsimp only [List.set]
   refine ⟨_, rfl, _, rfl, l, _, _, _, rfl, rfl, SqL.of hl, a0, _, rfl, _, rfl, l, _, _, _, rfl, rfl, SqL.of hl, a1, rfl, _, rfl, ?_⟩
   by_cases he : at0 st.1 (zN ps k).1 = at0 st.1 (zN ps k).2
   ·rw [he]
    refine zwn rfl ?_
    have e2 : rkF (ps.map swp) (ups m, 0) (ks.take (i + 1)) = st := by
     rw [esn]
     unfold w4 swp
     exact if_pos he.symm
    refine ⟨l, some (.int k), some (.int (zN ps k).1), some (.int (zN ps k).2), r, ?_, sm, by rw [e2]; exact hl⟩
    rw [e2]
   ·rw [decide_eq_false (show ¬ V.int (at0 st.1 (zN ps k).1) = V.int (at0 st.1 (zN ps k).2) from fun z => he (by injection z))]
    refine jH ?_
    have e2 : rkF (ps.map swp) (ups m, 0) (ks.take (i + 1)) = (st.1.map fun z => if z = at0 st.1 (zN ps k).1 then at0 st.1 (zN ps k).2 else z, st.2 + 1) := by
     rw [esn]
     unfold w4 swp
     exact if_neg fun z => he z.symm
    refine ⟨_, rfl, _, rfl, l, _, _, _, rfl, rfl, SqL.of hl, a0, ?_⟩
    dsimp only [List.set]
    generalize hone : at0 st.1 (zN ps k).1 = one at e2 ⊢
    generalize hoth : at0 st.1 (zN ps k).2 = oth at e2 a1 ⊢
    refine ⟨_, rfl, l, rfl, ⟨_, SqL.of hl⟩, yZ (k := .l) (a := l) (xs := st.1.map V.int) (fun σ => ∃ v, σ = [v, some (.int (zN ps k).2), some (.int one), some (.ref l)]) (fun j ys H2 => H2 = H' /\ ys = (st.1.take j).map fun h => V.int (if h = one then oth else h)) ⟨_, rfl⟩ ⟨rfl, rfl⟩ (by rw [List.length_map]; exact wT (by lia)) (fun j ys H2 _ z => SqL.of (by rw [z.1]; exact hl)) ?_ ?_⟩
    ·rintro j x ys σ H2 N hx ⟨u, rfl⟩ ⟨rfl, rfl⟩ hN
     obtain ⟨h0, eh, rfl⟩ := xR hx
     dsimp only [yR, List.set]
     refine zdi ?_
     refine ⟨_, rfl, _, rfl, rfl, _, rfl, ?_⟩
     by_cases he2 : h0 = one
     ·rw [decide_eq_true (show V.int h0 = V.int one by rw [he2])]
      refine jH ⟨_, rfl, _, rfl, l, _, _, _, rfl, rfl, SqL.of hl, a1, ?_⟩
      refine hN _ _ _ ⟨_, rfl⟩ ⟨rfl, ?_⟩ (by simp)
      rw [zS eh, List.map_append, List.map_cons, List.map_nil, if_pos he2]
     ·rw [decide_eq_false (show ¬ V.int h0 = V.int one from fun z => he2 (by injection z))]
      refine xD ⟨_, rfl, ?_⟩
      refine hN _ _ _ ⟨_, rfl⟩ ⟨rfl, ?_⟩ (by simp)
      rw [zS eh, List.map_append, List.map_cons, List.map_nil, if_neg he2]
    ·rintro ys H2 ⟨rfl, rfl⟩ p2 hp2
     dsimp only [List.set]
     refine ⟨_, rfl, _, _, rfl, rfl, p2, some (.int k), some (.int (zN ps k).1), some (.int (zN ps k).2), some (.int one), ?_, sm.trans (Same.new hp2), ?_⟩
     ·rw [e2]
      rfl
     ·rw [zC, e2, List.length_map, List.take_length, List.map_map]
      rfl
  ·rintro σ H' ⟨l, u, v, t, r, rfl, sm, hl⟩
   have q' := rks H' sm
   unfold rk at q'
   refine ⟨_, rfl, ?_⟩
   rw [List.length_map, List.take_length]
   exact q'
end
def zrl : Sp := fun vs H Q _ => ∃ (a : Addr) (l : List Int) (m : Int), vs = [.ref a, .int m] /\ H a = some (.tup (l.map V.int)) /\ l.Pairwise (· < ·) /\ (∀ k ∈ l, 0 <= k /\ k < m) /\ Q (.bl true) H
def zrm : Sp := fun vs H Q _ => ∃ (v : V) (lt : Addr) (n : Int) (xs : List V) (ps : List (Int × Int)) (x : Lf), vs = [v, .int n, .ref lt, .int (yS n ps)] /\ LeafAt H v x /\ H lt = some (.tup xs) /\ Paired (TieAt H) xs ps /\ xX n ps /\ LfOk n ps (ups ps.length) x /\ ∀ H', Same H H' -> Q (.bl true) H'
theorem zcd {m : Nat} {l : List Int} (up : l.Pairwise (· < ·)) (h : ∀ k ∈ l, k ∈ ups (m : Int)) : l.length <= m := by
 have := zjv (n := (m : Int)) (by lia) (up.imp fun h => by lia) fun i hi => mem_ups.mp (h i hi)
 lia
section
variable {P : Program} {w : World} {K : W.Frag} {mg : Str -> Option Value} {base : Heap}
seal PSs PS PE PI PA PT PG
theorem scIsPk : zJ ["_law_pick", "_law_many", "_law_last", "_law_k"] ["_law_pick", "_law_many"] (zB qS) := ⟨rfl, rfl, rfl, by decide +kernel, rfl, by decide +kernel, by decide +kernel⟩
theorem zzw (T : Txt K mg) (S : Src K mg "_law_is_pick" qS ["_law_pick", "_law_many"]) : Def P w K mg base 1 "_law_is_pick" ["_law_pick", "_law_many"] zrl := by
 refine S.def scIsPk (fun vs H Q E h => ?_) (fun f cdv A outer s H vs Q E hr h => ?_)
 ·obtain ⟨_, _, _, rfl, _⟩ := h; rfl
 ·obtain ⟨a, l, m, rfl, ha, up, hb, q⟩ := h
  refine ⟨_, zE (xC (xZ (xY (zO zia (by rfl) T.isi xS (zA (pv 0) (zA (x4 (v := .ty "tuple") rfl T.tuple yL rfl) zD))))) (zF (zK qJ)) yC)
   (zE (zT (i := 2) scIsPk.nd rfl (Or.inl rfl) (zsn zjo zG))
   (zE (wX PassesOwn.never rfl (yT K .t (pv 0)) (zM (i := 3) scIsPk.nd rfl (Or.inl rfl))
    (zE (xC (PW.pt (vU (xZ (xY (zO (wF K) (by rfl) T.isi xS (zA (pv 3) (zA (x4 (v := .ty "int") rfl T.int zeg rfl) zD))))) (vU (xY (zO (wF K) (by rfl) T.isi xS (zA (pv 3) (zA (x4 (v := .ty "bool") rfl T.bool jT rfl) zD)))) (vU (zX zoj (pv 3) (pv 2) (yF _)) (vT (zX zBk (pv 3) (pv 1) (yF _))))))) (zF (zK qJ)) yC)
    (zF (zT (i := 2) scIsPk.nd rfl (Or.inl rfl) (pv 3)))))
   (zF (zK qJ)))), ?_⟩
  refine ⟨_, rfl, a, _, "tuple", true, rfl, SqT.of ha, zjy K, _, rfl, xD ?_⟩
  refine ⟨_, rfl, ?_⟩
  try dsimp only [List.set]
  refine ⟨_, rfl, a, rfl, ⟨_, SqT.of ha⟩, kY (k := .t) (K := K) (a := a) (xs := l.map V.int) (fun i σ H' => ∃ (la : Int) (u : Option V), σ = [some (.ref a), some (.int m), some (.int la), u] /\ H' = H /\ ∀ k ∈ l.drop i, la < k) ⟨-1, _, rfl, rfl, fun k hk => by have := (hb k hk).1; lia⟩ (fun i σ H' _ ⟨_, _, _, z, _⟩ => by rw [z]; exact SqT.of ha) ?_ ?_⟩
  ·rintro i x σ H' hx ⟨la, u, rfl, rfl, lo⟩
   obtain ⟨k, ek, rfl⟩ := xR hx
   have il := (List.getElem?_eq_some_iff.mp ek)
   have dr : l.drop i = k :: l.drop (i + 1) := by rw [<- il.2, List.getElem_cons_drop]
   have hk := hb k (List.mem_of_getElem? ek)
   have lk := lo k (by rw [dr]; exact List.mem_cons_self)
   dsimp only [yR, List.set]
   refine ⟨_, rfl, _, _, _, _, _, rfl, rfl, .int _, zsc K, _, rfl, xD ⟨_, rfl, _, _, _, _, _, rfl, rfl, .int _, zfj K, _, rfl, xD ?_⟩⟩
   refine ⟨_, rfl, _, rfl, _, _, rfl, rfl, _, rfl, ?_⟩
   rw [decide_eq_false (show ¬ k <= la by lia)]
   refine xD ⟨_, rfl, _, rfl, _, _, rfl, rfl, _, rfl, ?_⟩
   rw [decide_eq_false (show ¬ k >= m by lia)]
   refine xD ⟨_, rfl, k, _, rfl, rfl, fun j hj => ?_⟩
   have := up.sublist (List.drop_sublist i l)
   rw [dr] at this
   exact (List.pairwise_cons.mp this).1 j hj
  ·rintro σ H' ⟨la, u, rfl, rfl, lo⟩
   exact q
theorem zya : zJ ["_law_leaf", "_law_points_here", "_law_ties", "_law_full"] ["_law_leaf", "_law_points_here", "_law_ties", "_law_full"] (zB qT) := ⟨rfl, rfl, rfl, by decide +kernel, rfl, by decide +kernel, by decide +kernel⟩
theorem zEt : (["_law_pick", "_law_ties"] : List Str).Nodup := by decide +kernel
theorem zCy : (["_law_k", "_law_leaf"] : List Str).Nodup := by decide +kernel
theorem zzx (T : Txt K mg) (S : Src K mg "_law_is_leaf" qT ["_law_leaf", "_law_points_here", "_law_ties", "_law_full"]) (DP : Def P w K mg base 1 "_law_is_pick" ["_law_pick", "_law_many"] zrl) (DR : Def P w K mg base 1 "_law_rank" ["_law_points_here", "_law_ties", "_law_pick"] (zsm K)) : Def P w K mg base 2 "_law_is_leaf" ["_law_leaf", "_law_points_here", "_law_ties", "_law_full"] zrm := by
 refine S.def zya (fun vs H Q E h => ?_) (fun f cdv A outer s H vs Q E hr h => ?_)
 ·obtain ⟨_, _, _, _, _, _, rfl, _⟩ := h; rfl
 ·obtain ⟨v, lt, n, xs, ps, x, rfl, lf, hlt, ht, ok, lo, q⟩ := h
  obtain ⟨⟨n1, n9⟩, hb, h8⟩ := id ok
  have xl : xs.length = ps.length := Paired.length ht
  obtain ⟨a, b, c, d, rfl, ha, hb1, hc, hd⟩ := lf.ex
  have x1 := lo.m1
  have x2 : ∀ k ∈ x.2.1, k ∈ ups (ps.length : Int) := fun k hk => lo.m1 k (lo.m2 k hk)
  have x3 : ∀ k ∈ x.2.2, k ∈ ups (ps.length : Int) := fun k hk => (lo.m3 k hk).1
  have l1 := zcd lo.u1 x1
  have l2 := zcd lo.u2 x2
  have l3' := zcd lo.u3 x3
  have rk1 := lo.rank
  rw [ztq lo.u1 x1] at rk1
  refine ⟨_, zE (xC (PW.pt (vU (xZ (xY (zO zia (by rfl) T.isi xS (zA (pv 0) (zA (x4 (v := .ty "tuple") rfl T.tuple yL rfl) zD))))) (vT (zX zbj (zO (yU K) (by rfl) T.len PySem.boot_len (zA (pv 0) zD)) zG (yF _))))) (zF (zK qJ)) yC)
   (zE (xC (zX (zds K (xE hr)) (xI (N' := ["_law_pick", "_law_ties"]) (fr := [none, some 2]) (yM (by rfl)) rfl (yT K .t (pv 0)) (fun _ _ _ _ => zM (i := 0) zEt rfl (Or.inl rfl) (Or.inr rfl))
     (fun _ _ _ _ => qB (xZ (xY (zP DP hr rfl (zA (pv 0) (zA (zO (r := zyd K) (yU K) (by rfl) T.len PySem.boot_len (zA (pv 1) zD)) zD)))))) (fun _ _ _ _ => pv 0)) (jD zD) (yF _)) (zF (zK qJ)) yC)
   (zE (xC (PW.pt (vU (zX zbj (zO (yU K) (by rfl) T.len PySem.boot_len (zA (yD (zQ K) (pv 0) zG (fun _ _ => rfl)) zD)) (pv 3) (yF _)) (vT (zX zbj (zP DR hr rfl (zA (pv 1) (zA (pv 2) (zA (yD (zQ K) (pv 0) zG (fun _ _ => rfl)) zD)))) (pv 3) (yF _))))) (zF (zK qJ)) yC)
   (zE (xC (zX (zds K (xE hr)) (xI (N' := ["_law_k", "_law_leaf"]) (fr := [none, some 0]) (yM (by rfl)) rfl (yT K .t (yD (zQ K) (pv 0) zG (fun _ _ => rfl))) (fun _ _ _ _ => zM (i := 0) zCy rfl (Or.inl rfl) (Or.inr rfl))
     (fun _ _ _ _ => qB (zX (r := rIn K true) zer (pv 0) (yD (r := zfc K) (zQ K) (pv 1) zG (fun _ _ => rfl)) rfl)) (fun _ _ _ _ => pv 0)) (jD zD) (yF _)) (zF (zK qJ)) yC)
   (zF (zK (zfe (znc K (xE hr)) (xI (N' := ["_law_k", "_law_leaf"]) (fr := [none, some 0]) (yM (by rfl)) rfl (yT K .t (yD (zQ K) (pv 0) zG (fun _ _ => rfl))) (fun _ _ _ _ => zM (i := 0) zCy rfl (Or.inl rfl) (Or.inr rfl))
     (fun _ _ _ _ => qB (zX (r := rIn K false) znb (pv 0) (yD (r := zfc K) (zQ K) (pv 1) zG (fun _ _ => rfl)) rfl)) (fun _ _ _ _ => pv 0)) (jD zD) (yF _))))))), ?_⟩
  have a0 : atI ([.ref b, .ref c, .ref d] : List V) 0 = some (.ref b) := zR (j := 0) rfl
  have a1 : atI ([.ref b, .ref c, .ref d] : List V) 1 = some (.ref c) := zR (j := 1) rfl
  have a2 : atI ([.ref b, .ref c, .ref d] : List V) 2 = some (.ref d) := zR (j := 2) rfl
  refine yJ fun M hM => ?_
  refine ⟨_, rfl, a, _, "tuple", true, rfl, SqT.of ha, zjy K, _, rfl, xD ?_⟩
  refine ⟨_, rfl, a, _, rfl, .inr (SqT.of ha), rfl, _, rfl, xD (hM _ _ ?_)⟩
  clear hM M
  refine yJ fun M hM => ?_
  have pk : ∀ (i : Nat) (y : V), ([.ref b, .ref c, .ref d] : List V)[i]? = some y -> ∃ (r : Addr) (l : List Int), y = .ref r /\ H r = some (.tup (l.map V.int)) /\ l.Pairwise (· < ·) /\ ∀ k ∈ l, k ∈ ups (ps.length : Int) := fun i y hy => by
   match i, hy with
   | 0, hy => cases hy; exact ⟨b, x.1, rfl, hb1, lo.u1, x1⟩
   | 1, hy => cases hy; exact ⟨c, x.2.1, rfl, hc, lo.u2, x2⟩
   | 2, hy => cases hy; exact ⟨d, x.2.2, rfl, hd, lo.u3, x3⟩
   | i + 3, hy => exact absurd hy (by simp)
  refine ⟨_, rfl, a, rfl, ⟨_, SqT.of ha⟩, yZ (k := .t) (K := K) (a := a) (xs := [.ref b, .ref c, .ref d]) (fun σ => ∃ u, σ = [u, some (.ref lt)]) (fun i ys H' => H' = H /\ ys = []) ⟨_, rfl⟩ ⟨rfl, rfl⟩ (by show 3 < sizeLine; decide) (fun i ys H' _ z => by rw [z.1]; exact SqT.of ha) ?_ ?_⟩
  ·rintro i y ys σ H' Z hy ⟨u, rfl⟩ ⟨rfl, rfl⟩ hZ
   obtain ⟨r, l, rfl, hr', ul, ml⟩ := pk i y hy
   dsimp only [yR, List.set]
   refine ⟨_, rfl, _, rfl, lt, xs, rfl, .inr (SqT.of hlt), r, l, _, rfl, hr', ul, fun k hk => ?_, _, rfl, xD (hZ _ _ _ ⟨_, rfl⟩ ⟨rfl, rfl⟩ (by simp))⟩
   rw [xl]
   exact mem_ups.mp (ml k hk)
  rintro ys H' ⟨rfl, rfl⟩ p1 hp1
  have s1 := Same.new (o := HO.lst []) hp1
  have h1 : (upd H' p1 (.lst [])) p1 = some (.lst []) := zC
  generalize upd H' p1 (.lst []) = H1 at s1 h1 ⊢
  refine ⟨Nat.zero_le _, fun p2 hp2 => ⟨p1, p2, _, rfl, rfl, SqL.of (Same.new hp2 _ _ h1), SqL.of zC, _, rfl, xD (hM _ _ ?_)⟩⟩
  clear hM M
  have s2 := s1.trans (Same.new (o := HO.lst []) hp2)
  generalize upd H1 p2 (.lst []) = H2 at s2 ⊢
  refine yJ fun M hM => ?_
  refine ⟨_, rfl, a, _, _, _, rfl, rfl, SqT.of (s2 _ _ ha), a0, b, _, rfl, .inr (SqT.of (s2 _ _ hb1)), _, rfl, rfl, _, rfl, ?_⟩
  rw [List.length_map, lo.len, decide_eq_true rfl]
  refine xD ⟨_, rfl, _, rfl, _, rfl, a, _, _, _, rfl, rfl, SqT.of (s2 _ _ ha), a0, .t, lt, b, n, xs, ps, x.1, rfl, s2 _ _ hlt, yE ht s2, ok, SqT.of (s2 _ _ hb1), fun k hk => mem_ups.mp (x1 k hk), fun H3 s3 => ?_⟩
  rw [rk1]
  refine ⟨_, rfl, rfl, _, rfl, ?_⟩
  rw [decide_eq_true rfl]
  refine xD (hM _ _ ?_)
  clear hM M
  have s13 := s2.trans s3
  refine yJ fun M hM => ?_
  refine ⟨_, rfl, a, _, _, _, rfl, rfl, SqT.of (s13 _ _ ha), a1, c, rfl, ⟨_, SqT.of (s13 _ _ hc)⟩, yZ (k := .t) (K := K) (a := c) (xs := x.2.1.map V.int) (fun σ => ∃ u, σ = [u, some (.ref a)]) (fun i ys H' => H' = H3 /\ ys = []) ⟨_, rfl⟩ ⟨rfl, rfl⟩ (by rw [List.length_map]; exact wT (by lia)) (fun i ys H' _ z => by rw [z.1]; exact SqT.of (s13 _ _ hc)) ?_ ?_⟩
  ·rintro i y ys σ H' Z hy ⟨u, rfl⟩ ⟨rfl, rfl⟩ hZ
   obtain ⟨k, ek, rfl⟩ := xR hy
   dsimp only [yR, List.set]
   refine ⟨_, rfl, _, rfl, a, _, _, _, rfl, rfl, SqT.of (s13 _ _ ha), a0, b, x.1.map V.int, rfl, .inr (SqT.of (s13 _ _ hb1)), rfl, zic _, _, rfl, ?_⟩
   rw [if_pos rfl, zfl, decide_eq_true (lo.m2 k (List.mem_of_getElem? ek))]
   exact xD (hZ _ _ _ ⟨_, rfl⟩ ⟨rfl, rfl⟩ (by simp))
  rintro ys H' ⟨rfl, rfl⟩ p4 hp4
  have s4 := Same.new (o := HO.lst []) hp4
  have h4 : (upd H' p4 (.lst [])) p4 = some (.lst []) := zC
  replace s4 := s13.trans s4
  generalize upd H' p4 (.lst []) = H4 at s4 h4 ⊢
  refine ⟨Nat.zero_le _, fun p5 hp5 => ⟨p4, p5, _, rfl, rfl, SqL.of (Same.new hp5 _ _ h4), SqL.of zC, _, rfl, xD (hM _ _ ?_)⟩⟩
  clear hM M
  have s5 := s4.trans (Same.new (o := HO.lst []) hp5)
  generalize upd H4 p5 (.lst []) = H5 at s5 ⊢
  refine ⟨_, rfl, a, _, _, _, rfl, rfl, SqT.of (s5 _ _ ha), a2, d, rfl, ⟨_, SqT.of (s5 _ _ hd)⟩, yZ (k := .t) (K := K) (a := d) (xs := x.2.2.map V.int) (fun σ => ∃ u, σ = [u, some (.ref a)]) (fun i ys H' => H' = H5 /\ ys = []) ⟨_, rfl⟩ ⟨rfl, rfl⟩ (by rw [List.length_map]; exact wT (by lia)) (fun i ys H' _ z => by rw [z.1]; exact SqT.of (s5 _ _ hd)) ?_ ?_⟩
  ·rintro i y ys σ H' Z hy ⟨u, rfl⟩ ⟨rfl, rfl⟩ hZ
   obtain ⟨k, ek, rfl⟩ := xR hy
   dsimp only [yR, List.set]
   refine ⟨_, rfl, _, rfl, a, _, _, _, rfl, rfl, SqT.of (s5 _ _ ha), a0, b, x.1.map V.int, rfl, .inr (SqT.of (s5 _ _ hb1)), rfl, zic _, _, rfl, ?_⟩
   rw [if_neg (by decide), zfl, decide_eq_false (lo.m3 k (List.mem_of_getElem? ek)).2]
   exact xD (hZ _ _ _ ⟨_, rfl⟩ ⟨rfl, rfl⟩ (by simp))
  rintro ys H' ⟨rfl, rfl⟩ p6 hp6
  have s6 := Same.new (o := HO.lst []) hp6
  have h6 : (upd H' p6 (.lst [])) p6 = some (.lst []) := zC
  replace s6 := s5.trans s6
  generalize upd H' p6 (.lst []) = H6 at s6 h6 ⊢
  exact ⟨Nat.zero_le _, fun p7 hp7 => ⟨p6, p7, _, rfl, rfl, SqL.of (Same.new hp7 _ _ h6), SqL.of zC, q _ (s6.trans (Same.new hp7))⟩⟩
end
theorem zmy {kvs : qG} {k : List Key} {v : V} : ∀ p ∈ jO kvs k v, p.1 = k \/ ∃ q ∈ kvs, q.1 = p.1 := fun p hp => by
 unfold jO at hp
 split at hp
 ·obtain ⟨q, hq, rfl⟩ := List.mem_map.mp hp
  by_cases c : q.1 = k
  ·rw [if_pos c]; exact .inl c
  ·rw [if_neg c]; exact .inr ⟨q, hq, rfl⟩
 ·rcases List.mem_append.mp hp with h | h
  ·exact .inr ⟨p, h, rfl⟩
  ·rw [List.mem_singleton.mp h]; exact .inl rfl
theorem zmc : ∀ {ts : List T3}, (∀ t ∈ ts, t.2.2 = 1) -> ∀ k, 0 <= coef ts k
 | [], _, k => Int.le_refl _
 | t :: ts, h, k => by
  have ih := zmc (fun u hu => h u (List.mem_cons_of_mem _ hu)) k
  have h1 := h t List.mem_cons_self
  rw [yG]
  split <;> lia
theorem zhy : ∀ {ts : List T3}, (∀ t ∈ ts, t.2.2 = 1) -> ∀ t ∈ ts, 1 <= coef ts (k3 t)
 | [], _, t, ht => nomatch ht
 | u :: ts, h, t, ht => by
  have h1 := h u List.mem_cons_self
  have h2 := fun u hu => h u (List.mem_cons_of_mem _ hu)
  have g := zmc h2 (k3 t)
  rw [yG]
  rcases List.mem_cons.mp ht with rfl | ht
  ·rw [if_pos rfl]; lia
  ·have := zhy h2 t ht
   split <;> lia
def zkq : Sp := fun vs H Q _ => ∃ (l : Addr) (xs : List V) (M : List Lf), vs = [.ref l] /\ H l = some (.lst xs) /\ Paired (LeafAt H) xs M /\ M.length <= 256 /\ Bd (M.map jQ) /\ ∀ x L H', Same H H' -> PolyIs (M.map jQ) L -> PolyAt H' x L -> Q x H'
section
variable {P : Program} {w : World} {K : W.Frag} {mg : Str -> Option Value} {base : Heap}
seal PSs PS PE PI PA PT PG
theorem scLG : zJ ["_law_leaves", "_law_found", "_law_tree", "_law_inside", "_law_beyond", "_law_powers"] ["_law_leaves"] (zB zai) := ⟨rfl, rfl, rfl, by decide +kernel, rfl, by decide +kernel, by decide +kernel⟩
theorem zCx : (["_law_powers", "_law_times"] : List Str).Nodup := by decide +kernel
theorem zvc (T : Txt K mg) (S : Src K mg "_law_gathered" zai ["_law_leaves"]) : Def P w K mg base 1 "_law_gathered" ["_law_leaves"] zkq := by
 refine S.def scLG (fun vs H Q E h => ?_) (fun f cdv A outer s H vs Q E hr h => ?_)
 ·obtain ⟨_, _, _, rfl, _⟩ := h; rfl
 ·obtain ⟨l, xs, M, rfl, hl, hx, m256, bd, q⟩ := h
  have xl : xs.length = M.length := Paired.length hx
  have ones : ∀ t ∈ M.map jQ, t.2.2 = 1 := fun t ht => by
   obtain ⟨x, _, rfl⟩ := List.mem_map.mp ht
   rfl
  refine ⟨_, zE (zT (i := 1) scLG.nd rfl (Or.inl rfl) zhl)
   (zE (wX PassesOwn.never rfl (yT K .l (pv 0)) (xQ K 3 rfl (zU (zM (i := 2) scLG.nd rfl (Or.inl rfl)) (zU (zM (i := 3) scLG.nd rfl (Or.inl rfl)) (zU (zM (i := 4) scLG.nd rfl (Or.inl rfl)) xP))))
    (zE (zT (i := 5) scLG.nd rfl (Or.inl rfl) (y9 (zA (zO (yU K) (by rfl) T.len PySem.boot_len (zA (pv 3) zD)) (zA (zO (yU K) (by rfl) T.len PySem.boot_len (zA (pv 4) zD)) zD))))
    (zF (zlf (zom hr) (pv 1) (pv 5) (yB xH (zhm (zom hr) (pv 1) (pv 5) zG ⟨rfl, rfl, rfl, rfl⟩) zG) rfl))))
   (zF (zK (yA (yX K) rfl T.tuple yL (zA (zO jX (by rfl) T.sorted y6 (zA (xI (N' := ["_law_powers", "_law_times"]) (fr := [none, none]) (yM (by rfl)) rfl (zdr (zgf PySem.F.plainAttrs_dict PySem.F.slot_dict_items PySem.F.type_dict_items zhp (pv 1)))
    (g := zls K 2 (wW (yR 0) (wW (yR 1) zou))) (fun _ _ _ _ => xQ K 2 rfl (zU (zM (i := 0) zCx rfl (Or.inl rfl) (Or.inr rfl)) (zU (zM (i := 1) zCx rfl (Or.inl rfl) (Or.inr rfl)) xP)))
    (fun _ _ _ _ => xG)
    (fun _ _ _ _ => yB (zce K) (pv 0) (y9 (zA (pv 1) zD)))) zD)) zD))))), ?_⟩
  refine yJ fun M1 hM => ?_
  refine fun d hd => hM _ _ ?_
  clear hM M1
  have s1 := Same.new (o := HO.dT []) hd
  have hd1 : (upd H d (.dT [])) d = some (.dT []) := zC
  generalize upd H d (.dT []) = H1 at s1 hd1 ⊢
  try dsimp only [List.set]
  refine yJ fun M1 hM => ?_
  refine ⟨_, rfl, l, rfl, ⟨_, SqL.of (s1 _ _ hl)⟩, kY (k := .l) (K := K) (a := l) (xs := xs) (fun i σ H' => (∃ u v r t, σ = [some (.ref l), some (.ref d), u, v, r, t]) /\ Same H H' /\ ∃ kvs, H' d = some (.dT kvs) /\ TabIs ((M.map jQ).take i) kvs /\ ∀ p ∈ kvs, ∃ t ∈ (M.map jQ).take i, p.1 = kk (k3 t))
   ⟨⟨_, _, _, _, rfl⟩, s1, [], hd1, TabIs.nil, fun _ z => (nomatch z)⟩ (fun i σ H' _ z => SqL.of (z.2.1 _ _ hl)) ?_ ?_⟩
  ·rintro i x σ H2 hx2 ⟨⟨u, v, r, t, rfl⟩, sm, kvs, hk, tab, kt⟩
   obtain ⟨y, ey, hy⟩ := Paired.at hx hx2
   obtain ⟨b, c1, c2, c3, rfl, hb, h1, h2, h3⟩ := LeafAt.ex (NestAt.same hy sm)
   have et : (M.map jQ)[i]? = some (jQ y) := by rw [List.getElem?_map, ey]; rfl
   refine ⟨b, _, rfl, SqT.of hb, rfl, _, _, rfl, _, _, rfl, _, _, rfl, rfl, ?_⟩
   dsimp only [yR, List.set]
   have kl : kvs.length < 100000 := by
    have := tab.len
    rw [List.length_take, List.length_map] at this
    lia
   refine ⟨_, rfl, c2, _, rfl, .inr (SqT.of h2), _, rfl, c3, _, rfl, .inr (SqT.of h3), by show 2 <= sizeLine; decide, fun c hc => ?_⟩
   rw [List.length_map, List.length_map]
   have s3 := Same.new (o := HO.tup [.int (y.2.1.length : Int), .int (y.2.2.length : Int)]) hc
   have hc3 : (upd H2 c (.tup [.int (y.2.1.length : Int), .int (y.2.2.length : Int)])) c = some (.tup ((kk (k3 (jQ y))).map kV)) := zC
   have hk3 := s3 _ _ hk
   have sm3 := sm.trans s3
   generalize upd H2 c (.tup [.int (y.2.1.length : Int), .int (y.2.2.length : Int)]) = H3 at s3 hc3 hk3 sm3 ⊢
   dsimp only [List.set]
   refine ⟨_, rfl, d, rfl, .inr ⟨_, .inl hk3⟩, _, rfl, _, DGet.t hk3 hc3, ?_⟩
   rw [tab.at]
   refine ⟨_, _, rfl, rfl, _, rfl, _, rfl, d, _, rfl, DPut.t hk3 hc3 (zfi kl), ⟨_, _, _, _, rfl⟩, wO sm3 hd, _, zC, ?_, fun p hp => ?_⟩
   ·rw [zS et]
    exact tab.put (jQ y)
   ·rw [zS et]
    rcases zmy p hp with z | ⟨q', hq', z⟩
    ·exact ⟨jQ y, List.mem_append_right _ List.mem_cons_self, z⟩
    ·obtain ⟨t', ht', e'⟩ := kt q' hq'
     exact ⟨t', List.mem_append_left _ ht', by rw [<- z, e']⟩
  ·rintro σ H2 ⟨⟨u, v, r, t, rfl⟩, sm, kvs, hk, tab, kt⟩
   refine hM _ _ ?_
   clear hM M1
   have ml : xs.length = (M.map jQ).length := by rw [List.length_map]; exact xl
   rw [ml, List.take_length] at tab kt
   generalize M.map jQ = ts at *
   have kl : kvs.length < 100000 := by
    have := tab.len
    lia
   refine ⟨_, rfl, .inr (.inr (.inl ⟨rfl, .inr ⟨_, hk⟩⟩)), d, kvs, rfl, rfl, hk, fun vw hvw => ?_⟩
   have s3 := Same.new (o := jM vw d) hvw
   refine ⟨vw, d, kvs, rfl, zC, s3 _ _ hk, fun o => ?_⟩
   have hf : (upd (upd H2 vw (jM vw d)) d (.frz o (.dT kvs))) d = some (.frz o (.dT kvs)) := zC
   have sm3 : Same H (upd (upd H2 vw (jM vw d)) d (.frz o (.dT kvs))) := wO (sm.trans s3) hd
   generalize upd (upd H2 vw (jM vw d)) d (.frz o (.dT kvs)) = H3 at hf sm3 ⊢
   refine zma (fun σ => ∃ u v, σ = [u, v]) (fun i ys H' => Same H3 H' /\ Paired (TermAt H') ys (sel (kvs.take i))) ⟨_, _, rfl⟩ ⟨Same.refl _, .nil⟩ (zfi kl) (fun i ys H' z => z.1 _ _ hf) ?_ ?_
   ·rintro i Tp b key vv ys σ H4 N ek hT hb ⟨u, v, rfl⟩ ⟨sm4, hy⟩ hN
    obtain ⟨k2, e2⟩ := tab.val _ (List.mem_of_getElem? ek)
    obtain ⟨t', ht', e'⟩ := kt _ (List.mem_of_getElem? ek)
    injection e2 with e3 e4
    subst e3 e4
    have ek2 : k2 = k3 t' := zjz e'
    have c : ¬ coef ts k2 = 0 := fun z => by
     have := zhy ones t' ht'
     rw [<- ek2] at this
     lia
    have s5 := Same.new (o := HO.tup [.ref b, .int (coef ts k2)]) hT
    have hT5 : (upd H4 Tp (.tup [.ref b, .int (coef ts k2)])) Tp = some (.tup [.ref b, .int (coef ts k2)]) := zC
    have hb5 := zDa (s5 _ _ hb)
    have sm5 := sm4.trans s5
    have hy5 := yY hy s5
    generalize upd H4 Tp (.tup [.ref b, .int (coef ts k2)]) = H5 at s5 hT5 hb5 sm5 hy5 ⊢
    refine ⟨Tp, _, rfl, SqT.of hT5, rfl, _, _, rfl, _, _, rfl, rfl, ?_⟩
    dsimp only [yR, List.set]
    have e5 := zhg ek
    rw [vN, if_neg c, Option.toList_some] at e5
    refine zdi ⟨_, rfl, _, rfl, by show 1 <= sizeLine; decide, fun c1 hc1 => ?_⟩
    have s6 := Same.new (o := HO.tup [.int (coef ts k2)]) hc1
    refine ⟨b, c1, _, _, rfl, rfl, s6 _ _ hb5, zC, by show 2 + 1 <= sizeLine; decide, fun c2 H7 s7 hc2 => ?_⟩
    refine hN _ _ _ ⟨_, _, rfl⟩ ⟨sm5.trans (s6.trans s7), ?_⟩ (by simp)
    rw [e5]
    exact L2.Paired.snoc (yY hy5 (s6.trans s7)) ⟨c2, rfl, hc2⟩
   ·rintro ys H4 ⟨sm4, hy⟩ l' hl'
    rw [List.take_length] at hy
    have s5 := Same.new (o := HO.lst ys) hl'
    have hl5 : (upd H4 l' (.lst ys)) l' = some (.lst ys) := zC
    have hy5 := yY hy s5
    have sm5 := sm4.trans s5
    generalize upd H4 l' (.lst ys) = H5 at s5 hl5 hy5 sm5 ⊢
    have yl : ys.length = (sel kvs).length := Paired.length hy
    have sl := zez tab
    have ss := zdm tab bd
    have py : Paired (IntsAt H5) ys ((sel kvs).map l3) := by
     have : ∀ {ys : List V} {us : List T3}, Paired (TermAt H5) ys us -> Paired (IntsAt H5) ys (us.map l3) := by
      intro ys us h
      induction h with
      | nil => exact .nil
      | cons r _ ih => exact .cons (let ⟨a, e1, e2⟩ := r; ⟨a, e1, e2⟩) ih
     exact this hy5
    refine ⟨l', ys, _, rfl, SqL.of hl5, by lia, py, fun ks hks => ?_, fun l2 rs' kss' p1 p2 p3 hl2 => ?_⟩
    ·obtain ⟨t, _, rfl⟩ := List.mem_map.mp hks
     intro z
     cases z
    ·obtain ⟨L, rfl, pL, ll⟩ := gO tab p2 p3
     have s6 := Same.new (o := HO.lst rs') hl2
     refine ⟨l2, rs', rfl, .inl ⟨SqL.of zC, fun c hc => ?_⟩⟩
     have s7 := Same.new (o := HO.tup rs') hc
     have pt : Paired (TermAt H5) rs' L := by
      have : ∀ {rs : List V} {us : List T3}, Paired (IntsAt H5) rs (us.map l3) -> Paired (TermAt H5) rs us := by
       intro rs us
       induction us generalizing rs with
       | nil => intro h; cases h; exact .nil
       | cons t us ih =>
        intro h
        rw [List.map_cons] at h
        cases h with
        | cons r t => exact .cons (let ⟨a, e1, e2⟩ := r; ⟨a, e1, e2⟩) (ih t)
      exact this p1
     exact q _ L _ ((sm3.trans sm5).trans (s6.trans s7)) pL ⟨c, rs', rfl, zC, yY pt (s6.trans s7)⟩
end
theorem jR {H : Hp} {l : Addr} {a b : List V} (hl : H l = some (.lst a)) {c : Addr} {o : HO} (h : H c = some o) (ne : ∀ zs, o ≠ .lst zs) : (upd H l (.lst b)) c = some o := by
 rw [zW (fun z => by rw [z, hl] at h; exact ne a (Option.some.inj h).symm)]
 exact h
theorem StepAt.put {CE CC CB CF : Addr} {H : Hp} {l : Addr} {a b : List V} (hl : H l = some (.lst a)) : ∀ {S : Stp} {v : V}, StepAt CE CC CB CF H S v -> StepAt CE CC CB CF (upd H l (.lst b)) S v
 | .fin, _, ⟨c, dx, e, h⟩ => ⟨c, dx, e, jR hl h (fun _ z => nomatch z)⟩
 | .curl _ _, _, ⟨c, dx, r, e, h, z⟩ => ⟨c, dx, r, e, jR hl h (fun _ z => nomatch z), StepAt.put hl z⟩
 | .bri _ _, _, ⟨c, dx, r, e, h, z⟩ => ⟨c, dx, r, e, jR hl h (fun _ z => nomatch z), StepAt.put hl z⟩
 | .frk _ _ _, _, ⟨c, dx, r, u, e, h, z, y⟩ => ⟨c, dx, r, u, e, jR hl h (fun _ z => nomatch z), StepAt.put hl z, StepAt.put hl y⟩
theorem LeafAt.put {H : Hp} {l : Addr} {a b : List V} (hl : H l = some (.lst a)) {v : V} {x : Lf} (h : LeafAt H v x) : LeafAt (upd H l (.lst b)) v x := by
 obtain ⟨c, p, q, r, rfl, h0, h1, h2, h3⟩ := h.ex
 exact LeafAt.mk (jR hl h0 (fun _ z => nomatch z)) (jR hl h1 (fun _ z => nomatch z)) (jR hl h2 (fun _ z => nomatch z)) (jR hl h3 (fun _ z => nomatch z))
theorem WebAt.put {H : Hp} {l : Addr} {a b : List V} (hl : H l = some (.lst a)) {v : V} {n : Int} {ps : List (Int × Int)} (h : WebAt H v n ps) : WebAt (upd H l (.lst b)) v n ps := by
 obtain ⟨c, d, xs, e, h1, h2, h3⟩ := h.ex
 exact ⟨c, d, xs, e, jR hl h1 (fun _ z => nomatch z), jR hl h2 (fun _ z => nomatch z), zhc h3 hl⟩
theorem zmv {K : W.Frag} {H : Hp} {v u : V} {x : Lf} (h1 : LeafAt H v x) (h2 : LeafAt H u x) : SameD K H 2 v u := by
 have int : ∀ {a b : Addr} {l : List Int}, H a = some (.tup (l.map V.int)) -> H b = some (.tup (l.map V.int)) -> SameD K H 1 (.ref a) (.ref b) := fun {a b l} e1 e2 => .tup (SqT.of e1) (SqT.of e2) rfl fun i y z f1 f2 => by
  rw [f1] at f2
  cases f2
  obtain ⟨k, _, rfl⟩ := xR f1
  exact .flat rfl
 obtain ⟨a, p, q, r, rfl, a0, a1, a2, a3⟩ := h1.ex
 obtain ⟨b, p', q', r', rfl, b0, b1, b2, b3⟩ := h2.ex
 refine .tup (SqT.of a0) (SqT.of b0) rfl fun i y z f1 f2 => ?_
 match i, f1, f2 with
 | 0, f1, f2 => cases f1; cases f2; exact int a1 b1
 | 1, f1, f2 => cases f1; cases f2; exact int a2 b2
 | 2, f1, f2 => cases f1; cases f2; exact int a3 b3
 | i + 3, f1, f2 => exact absurd f1 (by simp)
theorem vZ {K : W.Frag} {H : Hp} {a b : Addr} {xs ys : List V} {M : List Lf} (ha : H a = some (.lst xs)) (hb : H b = some (.lst ys)) (p1 : Paired (LeafAt H) xs M) (p2 : Paired (LeafAt H) ys M) {Q : VK} {out : Bool} (q : Q (.bl out) H) : zbe K out (.ref a) (.ref b) H Q := by
 have l1 := Paired.length p1
 have l2 := Paired.length p2
 refine ⟨a, b, xs, ys, 2, rfl, rfl, .inr ⟨SqL.of ha, SqL.of hb⟩, by lia, by decide, fun j x y f1 f2 => ?_, q⟩
 obtain ⟨q1, g1, h1⟩ := Paired.at p1 f1
 obtain ⟨q2, g2, h2⟩ := Paired.at p2 f2
 rw [g1] at g2
 cases g2
 exact zmv h1 h2
def zog (K : W.Frag) : Sp := fun vs H Q _ => ∃ (a : Addr) (ns : List Int), vs = [.ref a] /\ SqL K H a (ns.map V.int) /\ ns.length <= 63 /\ ∀ H', Q (.bl true) H'
section
variable {P : Program} {w : World} {K : W.Frag} {mg : Str -> Option Value} {base : Heap} {CE CC CB CF : Addr}
seal PSs PS PE PI PA PT PG
theorem scLaw : zJ ["_law_script", "_law_points_here", "_law_ties", "_law_web", "_law_row", "_law_handed", "_law_step", "_law_leaves", "_law_full", "_law_k", "_law_leaf", "_law_many", "_law_kept", "_law_again"] ["_law_script"] (zB ziq) := ⟨rfl, rfl, rfl, by decide +kernel, rfl, by decide +kernel, by decide +kernel⟩
theorem zyv {f : Addr} {fd : FuncData} (F : Fun K "law" "law" ziq f fd) (T : Txt K mg) (henum : mg "enumerate" = none) (T4 : StK K mg CE CC CB CF) (O : jK P w K mg base CE CC CB CF 8) (OL : zox P w K mg base CE CC CB CF 8) (OM : zow P w K mg base CE CC CB CF 8) (DD : Def P w K mg base 2 "_law_drawn_web" ["_law_script"] (zkt K)) (DM : Def P w K mg base 4 "made_web" ["points", "ties"] (zkp K)) (DO : Def P w K mg base 2 "_law_order" ["_law_script", "_law_by", "_law_many"] (zkn K)) (DS : zjm P w K mg base 15 "steps_of" ["web", "order"] (zby K CE CC CB CF)) (DB : zjm P w K mg base 16 "by_leaving" ["web", "order"] (zvx K))
  (DR : Def P w K mg base 1 "_law_rank" ["_law_points_here", "_law_ties", "_law_pick"] (zsm K)) (DL : Def P w K mg base 2 "_law_is_leaf" ["_law_leaf", "_law_points_here", "_law_ties", "_law_full"] zrm) (DG : Def P w K mg base 1 "_law_gathered" ["_law_leaves"] zkq) : FnOk P w K mg base CX0 17 f fd ["_law_script"] (zog K) := by
 refine F.ok scLaw (fun vs H Q E h => ?_) (fun cdv A outer s H vs Q E hr h => ?_)
 ·obtain ⟨a, ns, rfl, _⟩ := h; rfl
 ·obtain ⟨a, ns, rfl, hq, hlen, q⟩ := h
  have hr1 : Room 1 _ := hr.mono (by decide)
  have hr2 : Room 2 _ := hr.mono (by decide)
  have hr4 : Room 4 _ := hr.mono (by decide)
  have hr11 : Room (3 + 8) _ := hr.mono (by decide)
  have hr15 : Room 15 _ := hr.mono (by decide)
  refine ⟨_, zE (zrt (zP DD hr2 rfl (zA (pv 0) zD)) (xQ K 2 rfl (zU (zM (i := 1) scLaw.nd rfl (Or.inl rfl)) (zU (zM (i := 2) scLaw.nd rfl (Or.inl rfl)) xP))))
   (zE (zT (i := 3) scLaw.nd rfl (Or.inl rfl) (zP DM hr4 rfl (zA (pv 1) (zA (pv 2) zD))))
   (zE (zT (i := 4) scLaw.nd rfl (Or.inl rfl) (zP DO hr2 rfl (zA (pv 0) (zA zG (zA (zO (yU K) (by rfl) T.len PySem.boot_len (zA (pv 2) zD)) zD)))))
   (zE (zT (i := 5) scLaw.nd rfl (Or.inl rfl) (yA (jJ K) rfl T.list xK (zA (pv 4) zD)))
   (zE (zT (i := 6) scLaw.nd rfl (Or.inl rfl) (zbh DS hr15 rfl (zA (pv 3) (zA (pv 5) zD))))
   (zE (wZ (zgf PySem.F.plainAttrs_list PySem.F.slot_list_clear PySem.F.type_list_clear zhq (pv 5)))
   (zE (zT (i := 7) scLaw.nd rfl (Or.inl rfl) (yQ (pv 6)))
   (zE (xC (PW.pt (vU (xZ (xY (zO (wF K) (by rfl) T.isi xS (zA (pv 7) (zA (x4 (v := .ty "list") rfl T.list xK rfl) zD))))) (vT (zX (kS K (xE hr)) (pv 7) (zO (wM (xE hr)) (by rfl) T.sorted y6 (zA (pv 7) zD)) (yF _))))) (zF (zK qJ)) yC)
   (zE (zT (i := 8) scLaw.nd rfl (Or.inl rfl) (zP DR hr1 rfl (zA (pv 1) (zA (pv 2) (zA (yA (x9 rfl) rfl T.list xK (zA (yA wH rfl T.range wI (zA (zO (yU K) (by rfl) T.len PySem.boot_len (zA (pv 2) zD)) zD)) zD)) zD)))))
   (zE (wX PassesOwn.never rfl (zhj K .l rfl henum (zA (pv 7) zD)) (xQ K 2 rfl (zU (zM (i := 9) scLaw.nd rfl (Or.inl rfl)) (zU (zM (i := 10) scLaw.nd rfl (Or.inl rfl)) xP)))
    (zF (xC (PW.pt (vU (xZ (xY (zP DL hr2 rfl (zA (pv 10) (zA (pv 1) (zA (pv 2) (zA (pv 8) zD))))))) (vT (PW.pt (zyh (zX zso (pv 9) zG (yF _)) (ztp (zX (zyr (xE hr)) (yD (zQ K) (yD (xO K) (pv 7) (yB zao (pv 9) zG) (fun _ _ => rfl)) zG (fun _ _ => rfl)) (yD (zQ K) (pv 10) zG (fun _ _ => rfl)) (yF _)))))))) (zF (zK qJ)) yC)))
   (zE (zT (i := 11) scLaw.nd rfl (Or.inl rfl) (yQ (pv 6)))
   (zE (xC (PW.pt (vU (xY (zO (wF K) (by rfl) T.isi xS (zA (pv 11) (zA (x4 (v := .ty "bool") rfl T.bool jT rfl) zD)))) (vU (zX zbj (pv 11) (zO (yU K) (by rfl) T.len PySem.boot_len (zA (pv 7) zD)) (yF _)) (vT (zX (kS K (xE hr)) (yQ (pv 6)) (zP DG hr1 rfl (zA (pv 7) zD)) (yF _)))))) (zF (zK qJ)) yC)
   (zE (zT (i := 12) scLaw.nd rfl (Or.inl rfl) (yA (jJ K) rfl T.list xK (zA (pv 7) zD)))
   (zE (wZ (zgf PySem.F.plainAttrs_list PySem.F.slot_list_clear PySem.F.type_list_clear zhq (pv 7)))
   (zE (zT (i := 13) scLaw.nd rfl (Or.inl rfl) (zbh DS hr15 rfl (zA (pv 3) (zA (pv 4) zD))))
   (zE (xC (PW.pt (vU (zX (kS K (xE hr)) (yQ (pv 13)) (pv 12) (yF _)) (vU (zX (kS K (xE hr)) (yQ (pv 6)) (pv 12) (yF _)) (vT (zX (kS K (xE hr)) (zbh DB hr rfl (zA (pv 3) (zA (pv 4) zD))) (yQ (pv 6)) (yF _)))))) (zF (zK qJ)) yC)
   (zF (zK (zfe (zlk K (xE hr)) (pv 3) (y9 (zA (pv 1) (zA (pv 2) zD))) (yF _))))))))))))))))))), ?_⟩
  refine yJ fun M hM => ?_
  refine ⟨_, rfl, a, ns, rfl, hq, fun wv0 n ps H1 s1 W0 ok nm l8 => ?_⟩
  obtain ⟨⟨n1, n9⟩, hb, h8⟩ := id ok
  obtain ⟨c, d, xs, rfl, hc, hd, ht⟩ := id W0.ex
  have xl : xs.length = ps.length := Paired.length ht
  refine ⟨c, _, rfl, SqT.of hc, rfl, _, _, rfl, _, _, rfl, rfl, hM _ _ ?_⟩
  clear hM M
  try dsimp only [yR, List.set]
  refine yJ fun M hM => ?_
  refine ⟨_, rfl, _, rfl, .t, d, _, xs, ps, rfl, SqT.of hd, ht, ok, fun w2 H2 s2 W2 => hM _ _ ?_⟩
  clear hM M
  rw [zBx nm] at W2
  try dsimp only [List.set]
  have hd2 := s2 _ _ hd
  have ht2 := yE ht s2
  have s12 := s1.trans s2
  refine yJ fun M hM => ?_
  refine ⟨_, rfl, _, rfl, d, xs, rfl, .inr (SqT.of hd2), a, ns, 6, xs.length, rfl, s12.seq hq, by decide, by lia, fun l4 ord H3 s3 hl4 pm => hM _ _ ?_⟩
  clear hM M
  rw [xl] at pm
  have hd3 := s3 _ _ hd2
  have ht3 := yE ht2 s3
  have W3 := W2.same s3
  clear hc W0 ht hd hd2 ht2 W2 s12 s1 s2 s3
  try dsimp only [List.set]
  refine yJ fun M hM => ?_
  refine ⟨_, rfl, l4, _, rfl, .inl (SqL.of hl4), fun l5 hl5 => hM _ _ ?_⟩
  clear hM M
  have s4 := Same.new (o := HO.lst (ord.map V.int)) hl5
  have h5 : (upd H3 l5 (.lst (ord.map V.int))) l5 = some (.lst (ord.map V.int)) := zC
  generalize upd H3 l5 (.lst (ord.map V.int)) = H4 at s4 h5 ⊢
  try dsimp only [List.set]
  refine yJ fun M hM => ?_
  have ul : (ups (ps.length : Int)).length = ps.length := by rw [yW]; lia
  have okS : OkS ps.length n ps (ups ps.length) ord := ⟨ok, nm, rfl, ul, (wN _).imp fun h => by lia, pm⟩
  refine ⟨_, rfl, _, rfl, .l, w2, .ref l5, n, ps, ord, rfl, W3.same s4, ok, nm, .inr ⟨l5, rfl, h5, pm⟩, fun v H5 s5 st => hM _ _ ?_⟩
  clear hM M
  have dp := vA ps.length n ps (ups ps.length) ord
  have cf := qM ps.length n ps (ups ps.length) ord okS
  have lk := zgi ps.length n ps (ups ps.length) ord okS
  generalize hS : qO ps.length n ps (ups ps.length) ord = S at st dp cf lk
  have dp8 : S.deep <= 8 := by lia
  try dsimp only [List.set]
  refine yJ fun M hM => ?_
  have h55 := s5 _ _ h5
  refine ⟨_, rfl, .inl ⟨rfl, _, SqL.of h55⟩, l5, _, rfl, rfl, h55, hM _ _ ?_⟩
  clear hM M
  have s6 : Same H3 (upd H5 l5 (.lst [])) := wO (s4.trans s5) hl5
  replace st := StepAt.put (b := []) h55 st
  generalize upd H5 l5 (.lst []) = H6 at s6 st ⊢
  have s6' := s6
  clear h55 s5 s4 h5
  refine yJ fun M hM => ?_
  refine ⟨_, rfl, ?_⟩
  refine vQ T4 OL hr11 st dp8 (by decide) fun l7 xs7 N H7 s7 f7 hl7 hx7 lv => hM _ _ ?_
  clear hM M
  have n256 := zcw lv dp8
  have x7l : xs7.length = N.length := Paired.length hx7
  try dsimp only [List.set]
  refine yJ fun M hM => ?_
  refine ⟨_, rfl, _, _, _, _, _, rfl, rfl, .lst hl7, zyy K, _, rfl, xD ?_⟩
  refine ⟨_, rfl, _, rfl, l7, xs7, _, rfl, SqL.of hl7, by lia, kG hx7, fun z hz => ?_, fun g rs L hP pm2 up hg => ?_⟩
  ·obtain ⟨y, _, rfl⟩ := List.mem_map.mp hz
   exact fun e => nomatch e
  obtain ⟨N', rfl, pN⟩ := qI pm2
  obtain rfl : N' = N := LvIs.uniq ⟨pN.trans lv.1, up⟩ lv
  have s8 := Same.new (o := HO.lst rs) hg
  have g8 : (upd H7 g (.lst rs)) g = some (.lst rs) := zC
  have r8 := zY (qK hP) s8
  replace hl7 := s8 _ _ hl7
  replace hx7 := zY hx7 s8
  replace s8 := s7.trans s8
  generalize upd H7 g (.lst rs) = H8 at s8 g8 r8 hl7 hx7 ⊢
  refine vZ hl7 g8 hx7 r8 ⟨_, rfl, xD (hM _ _ ?_)⟩
  clear hM M g8 r8 hP pm2 up hg s7
  have sA := s6.trans s8
  have hdA := sA _ _ hd3
  have htA := yE ht3 sA
  refine yJ fun M hM => ?_
  refine ⟨_, rfl, _, rfl, _, rfl, d, xs, rfl, .inr (SqT.of hdA), ?_⟩
  rw [xl]
  refine ⟨_, rfl, fun p hp => ⟨p, ps.length, rfl, zC, by lia, fun lr hlr => ?_⟩⟩
  have s9 := (Same.new (o := HO.rng 0 ps.length) hp).trans (Same.new (o := HO.lst (upN ps.length)) hlr)
  have r9 : (upd (upd H8 p (.rng 0 ps.length)) lr (.lst (upN ps.length))) lr = some (.lst ((ups ps.length).map V.int)) := by rw [zC, kO]
  generalize upd (upd H8 p (.rng 0 ps.length)) lr (.lst (upN ps.length)) = H9 at s9 r9 ⊢
  refine ⟨.l, d, lr, n, xs, ps, ups ps.length, rfl, s9 _ _ hdA, yE htA s9, ok, SqL.of r9, qL _, fun H10 s10 => hM _ _ ?_⟩
  clear hM M
  rw [show rkP n ps (ups ps.length) = yS n ps from rfl]
  have sB := s9.trans s10
  replace hl7 := sB _ _ hl7
  replace hx7 := zY hx7 sB
  replace sA := sA.trans sB
  replace st := st.same (s8.trans sB)
  replace hdA := sB _ _ hdA
  replace htA := yE htA sB
  clear s9 s10 sB s8 s6 r9
  have nodup : (N'.map fun x => x.1).Nodup := (lv.1.map fun x => x.1).nodup_iff.mpr lk.2
  try dsimp only [List.set]
  refine yJ fun M hM => ?_
  refine ⟨_, rfl, l7, _, rfl, SqL.of hl7, zhx (k := .l) (K := K) (a := l7) (xs := xs7) (fun i σ H' => (∃ u v', σ = [some (.ref a), some (.int n), some (.ref d), some w2, some (.ref l4), some (.ref l5), some v, some (.ref l7), some (.int (yS n ps)), u, v', none, none, none]) /\ Same H10 H') ⟨⟨_, _, rfl⟩, Same.refl _⟩ (fun i σ H' _ z => SqL.of (z.2 _ _ hl7)) ?_ ?_⟩
  ·rintro i x T6 σ H11 hx ⟨⟨u, v', rfl⟩, sm⟩ hT6
   obtain ⟨y, ey, hy⟩ := Paired.at hx7 hx
   have il := (List.getElem?_eq_some_iff.mp ey)
   have s12 := Same.new (o := HO.tup [.int (i : Int), x]) hT6
   refine ⟨T6, _, rfl, SqT.of zC, rfl, _, _, rfl, _, _, rfl, rfl, ?_⟩
   replace s12 := sm.trans s12
   generalize upd H11 T6 (.tup [.int (i : Int), x]) = H12 at s12 ⊢
   dsimp only [yR, List.set]
   refine ⟨_, rfl, _, rfl, _, rfl, _, rfl, x, d, n, xs, ps, y, rfl, NestAt.same hy s12, s12 _ _ hdA, yE htA s12, ok, lk.1 y (lv.1.subset (List.mem_of_getElem? ey)), fun H13 s13 => ⟨_, rfl, xD ?_⟩⟩
   have sC := s12.trans s13
   refine ⟨_, rfl, _, _, rfl, rfl, _, rfl, ?_⟩
   by_cases ci : 0 < i
   ·rw [decide_eq_true (show (i : Int) > 0 by lia)]
    have i1 : i - 1 < N'.length := by have := il.1; lia
    have i2 : i - 1 < xs7.length := by lia
    obtain ⟨z, ez⟩ : ∃ z, N'[i - 1]? = some z := ⟨N'[i - 1]'i1, List.getElem?_eq_getElem i1⟩
    have exz : xs7[i - 1]? = some (xs7[i - 1]'i2) := List.getElem?_eq_getElem i2
    obtain ⟨z', ez', hz⟩ := Paired.at hx7 exz
    obtain rfl : z' = z := by rw [ez] at ez'; exact (Option.some.inj ez').symm
    obtain ⟨b1, p1, p2, p3, e1, b10, b11, _, _⟩ := LeafAt.ex (NestAt.same hz sC)
    obtain ⟨b2, q1, q2, q3, rfl, b20, b21, _, _⟩ := LeafAt.ex (NestAt.same hy sC)
    have ati : atI xs7 ((i : Int) - 1) = some (.ref b1) := by
     rw [show (i : Int) - 1 = ((i - 1 : Nat) : Int) by lia]
     exact zR (by rw [exz, e1])
    have t0 : ∀ x y z : V, atI ([x, y, z] : List V) 0 = some x := fun x y z => zR (j := 0) rfl
    have ne : z'.1 ≠ y.1 := fun e => by
     have g1 : (N'.map fun x => x.1)[i - 1]? = some z'.1 := by rw [List.getElem?_map, ez]; rfl
     have g2 : (N'.map fun x => x.1)[i]? = some y.1 := by rw [List.getElem?_map, ey]; rfl
     rw [e, <- g2] at g1
     have := (List.getElem?_inj (by rw [List.length_map]; lia) nodup).mp g1
     lia
    refine jH ⟨_, rfl, _, rfl, _, _, rfl, rfl, l7, _, _, _, rfl, rfl, SqL.of (sC _ _ hl7), ati, b1, _, _, _, rfl, rfl, SqT.of b10, t0 _ _ _, _, rfl, b2, _, _, _, rfl, rfl, SqT.of b20, t0 _ _ _, ?_⟩
    refine ⟨p1, q1, z'.1, y.1, rfl, rfl, SqT.of b11, SqT.of b21, _, rfl, ?_⟩
    rw [decide_eq_false ne]
    exact xD ⟨⟨_, _, rfl⟩, sC⟩
   ·rw [decide_eq_false (show ¬ (i : Int) > 0 by lia)]
    exact xD (xD ⟨⟨_, _, rfl⟩, sC⟩)
  rintro σ H11 ⟨⟨u, v', rfl⟩, sm⟩
  refine hM _ _ ?_
  clear hM M
  replace hl7 := sm _ _ hl7
  replace hx7 := zY hx7 sm
  replace sA := sA.trans sm
  replace st := st.same sm
  replace hdA := sm _ _ hdA
  replace htA := yE htA sm
  refine yJ fun M hM => ?_
  refine ⟨_, rfl, ?_⟩
  refine kT T4 OM hr11 st dp8 (by decide) fun H12 s12 => hM _ _ ?_
  clear hM M
  replace hl7 := s12 _ _ hl7
  replace hx7 := zY hx7 s12
  replace sA := sA.trans s12
  replace st := st.same s12
  replace hdA := s12 _ _ hdA
  replace htA := yE htA s12
  try dsimp only [List.set]
  refine yJ fun M hM => ?_
  refine ⟨_, rfl, _, _, _, _, _, rfl, rfl, .int _, zfj K, _, rfl, xD ?_⟩
  refine ⟨_, rfl, _, rfl, l7, _, rfl, .inl (SqL.of hl7), rfl, _, rfl, ?_⟩
  rw [x7l, lv.1.length_eq, decide_eq_true rfl]
  refine xD ⟨_, rfl, ?_⟩
  refine wB T4 O hr11 st dp8 (by decide) fun pv L H13 s13 pi pl pk => ?_
  have bdN : Bd (N'.map jQ) := fun t ht => by
   have pt := lv.1.map jQ
   rw [wD] at pt
   have := S.terms_in t (pt.subset ht)
   exact ⟨this.1, this.2.1, by lia⟩
  refine ⟨_, rfl, l7, xs7, N', rfl, s13 _ _ hl7, zY hx7 s13, by lia, bdN, fun x L' H14 s14 pi' pa' => ?_⟩
  obtain rfl : L' = L := PolyIs.uniq pi' pi fun k => by
   have pt := lv.1.map jQ
   rw [wD] at pt
   exact znz pt k
  refine zbc (pk.same s14) pa'.K ⟨_, rfl, xD (hM _ _ ?_)⟩
  clear hM M pa'
  have sD := s13.trans s14
  replace hl7 := sD _ _ hl7
  replace hx7 := zY hx7 sD
  replace sA := sA.trans sD
  replace st := st.same sD
  replace hdA := sD _ _ hdA
  replace htA := yE htA sD
  clear s13 s14 sD s12 sm pk
  refine yJ fun M hM => ?_
  refine ⟨_, rfl, l7, _, rfl, .inl (SqL.of hl7), fun l15 hl15 => hM _ _ ?_⟩
  clear hM M
  have s15 := Same.new (o := HO.lst xs7) hl15
  have h15 : (upd H14 l15 (.lst xs7)) l15 = some (.lst xs7) := zC
  have n15 : l15 ≠ l7 := fun z => by rw [z, hl7] at hl15; cases hl15
  replace hl7 := s15 _ _ hl7
  replace hx7 := zY hx7 s15
  replace sA := sA.trans s15
  replace st := st.same s15
  replace hdA := s15 _ _ hdA
  replace htA := yE htA s15
  generalize upd H14 l15 (.lst xs7) = H15 at h15 hl7 hx7 sA st hdA htA ⊢
  clear s15
  try dsimp only [List.set]
  refine yJ fun M hM => ?_
  refine ⟨_, rfl, .inl ⟨rfl, _, SqL.of hl7⟩, l7, _, rfl, rfl, hl7, hM _ _ ?_⟩
  clear hM M
  have W15 := W3.same sA
  have r15 := sA _ _ hl4
  have f47 : l4 ≠ l7 := fun z => by
   have e6 := s6' _ _ hl4
   rw [z, f7] at e6
   cases e6
  have h16 : (upd H15 l7 (.lst [])) l15 = some (.lst xs7) := by rw [zW n15]; exact h15
  have x16 : Paired (LeafAt (upd H15 l7 (.lst []))) xs7 N' := L2.Paired.mapP hx7 fun _ _ z => LeafAt.put hl7 z
  have W16 := WebAt.put (b := []) hl7 W15
  have r16 : (upd H15 l7 (.lst [])) l4 = some (.lst (ord.map V.int)) := by rw [zW f47]; exact r15
  have d16 : (upd H15 l7 (.lst [])) d = some (.tup xs) := jR hl7 hdA (fun _ z => nomatch z)
  have t16 := zhc (zs := []) htA hl7
  replace st := StepAt.put (b := []) hl7 st
  generalize upd H15 l7 (.lst []) = H16 at h16 x16 W16 r16 d16 t16 st ⊢
  refine yJ fun M hM => ?_
  refine ⟨_, rfl, _, rfl, .l, w2, .ref l4, n, ps, ord, rfl, W16, ok, nm, .inr ⟨l4, rfl, r16, pm⟩, fun v2 H17 s17 st2 => hM _ _ ?_⟩
  clear hM M
  rw [hS] at st2
  try dsimp only [List.set]
  refine yJ fun M hM => ?_
  refine ⟨_, rfl, ?_⟩
  refine vQ T4 OL hr11 st2 dp8 (by decide) fun l18 xs18 N18 H18 s18 f18 hl18 hx18 lv18 => ?_
  obtain rfl : N18 = N' := lv18.uniq lv
  have s1618 := s17.trans s18
  refine ⟨_, rfl, vZ hl18 (s1618 _ _ h16) hx18 (zY x16 s1618) ⟨_, rfl, xD ?_⟩⟩
  refine ⟨_, rfl, ?_⟩
  refine vQ T4 OL hr11 (st.same s1618) dp8 (by decide) fun l19 xs19 N19 H19 s19 f19 hl19 hx19 lv19 => ?_
  obtain rfl : N19 = N18 := lv19.uniq lv
  have s1619 := s1618.trans s19
  refine ⟨_, rfl, vZ hl19 (s1619 _ _ h16) hx19 (zY x16 s1619) ⟨_, rfl, xD ?_⟩⟩
  refine ⟨_, rfl, _, rfl, .l, w2, .ref l4, n, ps, ord, rfl, W16.same s1619, ok, nm, .inr ⟨l4, rfl, s1619 _ _ r16, pm⟩, fun pv2 L2 ts2 H20 s20 pi2 co2 _ _ pk2 => ?_⟩
  refine ⟨_, rfl, ?_⟩
  refine wB T4 O hr11 (st.same (s1619.trans s20)) dp8 (by decide) fun pv3 L3 H21 s21 pi3 _ pk3 => ?_
  obtain rfl : L3 = L2 := PolyIs.uniq pi3 pi2 fun k => by rw [cf, co2]
  refine zbc (pk2.same s21) pk3 ⟨_, rfl, xD (hM _ _ ?_)⟩
  clear hM M
  have sE := s1619.trans (s20.trans s21)
  refine ⟨_, rfl, _, rfl, _, rfl, by show 2 <= sizeLine; decide, fun p22 hp22 => ?_⟩
  have s22 := Same.new (o := HO.tup [.int n, .ref d]) hp22
  exact zpj ((W16.same sE).same s22) ⟨p22, d, xs, rfl, zC, s22 _ _ (sE _ _ d16), yE t16 (sE.trans s22)⟩ (q _)
end
theorem yO {K : W.Frag} {h : Heap} {mg : Str -> Option Value} {x : Str} {st : Stmt} {f : Addr} {ps : List Str} {oc : Value} {od an : Option Addr} {osl : Array (Option Value)} {kV doc pm cdv ct : Value} (X : K.In h) (G : h.Ns mainGlobals mg)
  (a : PySem.W.nsIn K mainGlobals x = some (some (.ref f))) (l : K.lookup f = some ⟨oc, od, .func (PySem.W.fnOf x x (zI st) (zH st) (zB st) .none kV doc pm an cdv ct), osl⟩) (c : PySem.W.codeIn K cdv x = true) (k : PySem.W.keepIn K (.ref f) = true)
  (hb : ∀ (kV doc pm : Value) (an : Option Addr) (cdv ct : Value) (us : List Value), us.length = ps.length -> bindArgs (PySem.W.fnOf x x (zI st) (zH st) (zB st) .none kV doc pm an cdv ct) ⟨us, []⟩ = pure (ps.zip us)) : Src K mg x st ps :=
 ⟨_, _, yK (st := st) l c k, (yK (st := st) l c k).binds hb, PySem.W.mg_of X G a⟩
theorem zwm {p : List Value -> Prop} {n : Nat} (h : ∀ (a : Value) (us : List Value), us.length = n -> p (a :: us)) : ∀ us : List Value, us.length = n + 1 -> p us := fun us hl => by
 cases us with
 | nil => cases hl
 | cons a us => exact h a us (Nat.succ.inj hl)
theorem zEv {p : List Value -> Prop} (h : p []) : ∀ us : List Value, us.length = 0 -> p us := fun us hl => by
 rw [List.length_eq_zero_iff.mp hl]
 exact h
theorem qD {p : List Value -> Prop} (h : ∀ a, p [a]) : ∀ us : List Value, us.length = 1 -> p us := zwm fun a => zEv (p := fun us => p (a :: us)) (h a)
theorem vX {p : List Value -> Prop} (h : ∀ a b, p [a, b]) : ∀ us : List Value, us.length = 2 -> p us := zwm fun a => qD (p := fun us => p (a :: us)) (h a)
theorem zlo {p : List Value -> Prop} (h : ∀ a b c, p [a, b, c]) : ∀ us : List Value, us.length = 3 -> p us := zwm fun a => vX (p := fun us => p (a :: us)) (h a)
theorem zCz {p : List Value -> Prop} (h : ∀ a b c d, p [a, b, c, d]) : ∀ us : List Value, us.length = 4 -> p us := zwm fun a => zlo (p := fun us => p (a :: us)) (h a)
theorem zwl {p : List Value -> Prop} (h : ∀ a, p [a]) : ∀ us : List Value, us.length + 1 = 2 -> p us := fun us hl => qD h us (Nat.succ.inj hl)
theorem zkk {K : W.Frag} {h : Heap} {mg : Str -> Option Value} {x : Str} {st : Stmt} {f T : Addr} {ps : List Str} {oc tc : Value} {od an td : Option Addr} {osl ts : Array (Option Value)} {kV doc pm cdv ct : Value} {tn : Nat} (X : K.In h) (G : h.Ns mainGlobals mg)
  (a : PySem.W.nsIn K mainGlobals x = some (some (.ref f))) (l : K.lookup f = some ⟨oc, od, .func (PySem.W.fnOf x x (zI st) (zH st) (zB st) (.ref T) kV doc pm an cdv ct), osl⟩) (c : PySem.W.codeIn K cdv x = true) (k : PySem.W.keepIn K (.ref f) = true) (t : K.lookup T = some ⟨tc, td, .seq #[.none] tn, ts⟩)
  (b0 : ∀ us : List Value, us.length = ps.length -> ∃ k : Option (Array Value) -> Sem (List (Str × Value)), bindArgs (PySem.W.fnOf x x (zI st) (zH st) (zB st) (.ref T) kV doc pm an cdv ct) ⟨us, []⟩ = seqItems? (.ref T) >>= k /\ k (some #[.none]) = pure (ps.zip us))
  (b1 : ∀ us : List Value, us.length + 1 = ps.length -> ∃ k : Option (Array Value) -> Sem (List (Str × Value)), bindArgs (PySem.W.fnOf x x (zI st) (zH st) (zB st) (.ref T) kV doc pm an cdv ct) ⟨us, []⟩ = seqItems? (.ref T) >>= k /\ k (some #[.none]) = pure (ps.zip (us ++ [.none]))) : SrcD K mg x st ps :=
 ⟨f, T, oc, od, kV, doc, pm, an, cdv, ct, osl, _, tn, l, c, k, PySem.W.mg_of X G a, t, rfl, b0, b1⟩
theorem all_mk {l : PySem.W.OpenLaw} {w : World} {K : W.Frag} {h : Heap} {mg : Str -> Option Value} {fa : Addr} (X : K.In h) (G : h.Ns mainGlobals mg) (hfa : mg "law" = some (.ref fa))
  {f0 : Addr} {od0 an0 : Option Addr} {sl0 : Array (Option Value)} {oc0 kV0 dc0 pm0 cd0 ct0 : Value}
  (a0 : PySem.W.nsIn K mainGlobals "is_whole" = some (some (.ref f0))) (l0 : K.lookup f0 = some ⟨oc0, od0, .func (PySem.W.fnOf "is_whole" "is_whole" (zI vB) (zH vB) (zB vB) .none kV0 dc0 pm0 an0 cd0 ct0), sl0⟩) (c0 : PySem.W.codeIn K cd0 "is_whole" = true) (k0 : PySem.W.keepIn K (.ref f0) = true)
  {f1 : Addr} {od1 an1 : Option Addr} {sl1 : Array (Option Value)} {oc1 kV1 dc1 pm1 cd1 ct1 : Value}
  (a1 : PySem.W.nsIn K mainGlobals "is_whole_within" = some (some (.ref f1))) (l1 : K.lookup f1 = some ⟨oc1, od1, .func (PySem.W.fnOf "is_whole_within" "is_whole_within" (zI qQ) (zH qQ) (zB qQ) .none kV1 dc1 pm1 an1 cd1 ct1), sl1⟩) (c1 : PySem.W.codeIn K cd1 "is_whole_within" = true) (k1 : PySem.W.keepIn K (.ref f1) = true)
  {f2 : Addr} {od2 an2 : Option Addr} {sl2 : Array (Option Value)} {oc2 kV2 dc2 pm2 cd2 ct2 : Value}
  (a2 : PySem.W.nsIn K mainGlobals "is_each_once" = some (some (.ref f2))) (l2 : K.lookup f2 = some ⟨oc2, od2, .func (PySem.W.fnOf "is_each_once" "is_each_once" (zI zfy) (zH zfy) (zB zfy) .none kV2 dc2 pm2 an2 cd2 ct2), sl2⟩) (c2 : PySem.W.codeIn K cd2 "is_each_once" = true) (k2 : PySem.W.keepIn K (.ref f2) = true)
  {f3 : Addr} {od3 an3 : Option Addr} {sl3 : Array (Option Value)} {oc3 kV3 dc3 pm3 cd3 ct3 : Value}
  (a3 : PySem.W.nsIn K mainGlobals "made_web" = some (some (.ref f3))) (l3 : K.lookup f3 = some ⟨oc3, od3, .func (PySem.W.fnOf "made_web" "made_web" (zI zfz) (zH zfz) (zB zfz) .none kV3 dc3 pm3 an3 cd3 ct3), sl3⟩) (c3 : PySem.W.codeIn K cd3 "made_web" = true) (k3 : PySem.W.keepIn K (.ref f3) = true)
  {f4 : Addr} {od4 an4 : Option Addr} {sl4 : Array (Option Value)} {oc4 kV4 dc4 pm4 cd4 ct4 : Value}
  (a4 : PySem.W.nsIn K mainGlobals "is_pair_of_points" = some (some (.ref f4))) (l4 : K.lookup f4 = some ⟨oc4, od4, .func (PySem.W.fnOf "is_pair_of_points" "is_pair_of_points" (zI zfx) (zH zfx) (zB zfx) .none kV4 dc4 pm4 an4 cd4 ct4), sl4⟩) (c4 : PySem.W.codeIn K cd4 "is_pair_of_points" = true) (k4 : PySem.W.keepIn K (.ref f4) = true)
  {f5 : Addr} {od5 an5 : Option Addr} {sl5 : Array (Option Value)} {oc5 kV5 dc5 pm5 cd5 ct5 : Value}
  (a5 : PySem.W.nsIn K mainGlobals "lesser_first" = some (some (.ref f5))) (l5 : K.lookup f5 = some ⟨oc5, od5, .func (PySem.W.fnOf "lesser_first" "lesser_first" (zI qR) (zH qR) (zB qR) .none kV5 dc5 pm5 an5 cd5 ct5), sl5⟩) (c5 : PySem.W.codeIn K cd5 "lesser_first" = true) (k5 : PySem.W.keepIn K (.ref f5) = true)
  {f6 : Addr} {od6 an6 : Option Addr} {sl6 : Array (Option Value)} {oc6 kV6 dc6 pm6 cd6 ct6 : Value}
  (a6 : PySem.W.nsIn K mainGlobals "refuse_no_tie_of" = some (some (.ref f6))) (l6 : K.lookup f6 = some ⟨oc6, od6, .func (PySem.W.fnOf "refuse_no_tie_of" "refuse_no_tie_of" (zI zaf) (zH zaf) (zB zaf) .none kV6 dc6 pm6 an6 cd6 ct6), sl6⟩) (c6 : PySem.W.codeIn K cd6 "refuse_no_tie_of" = true) (k6 : PySem.W.keepIn K (.ref f6) = true)
  {f7 : Addr} {od7 an7 : Option Addr} {sl7 : Array (Option Value)} {oc7 kV7 dc7 pm7 cd7 ct7 : Value}
  (a7 : PySem.W.nsIn K mainGlobals "told_order" = some (some (.ref f7))) (l7 : K.lookup f7 = some ⟨oc7, od7, .func (PySem.W.fnOf "told_order" "told_order" (zI zft) (zH zft) (zB zft) .none kV7 dc7 pm7 an7 cd7 ct7), sl7⟩) (c7 : PySem.W.codeIn K cd7 "told_order" = true) (k7 : PySem.W.keepIn K (.ref f7) = true)
  {f8 : Addr} {od8 an8 : Option Addr} {sl8 : Array (Option Value)} {oc8 kV8 dc8 pm8 cd8 ct8 : Value}
  (a8 : PySem.W.nsIn K mainGlobals "whole_pick" = some (some (.ref f8))) (l8 : K.lookup f8 = some ⟨oc8, od8, .func (PySem.W.fnOf "whole_pick" "whole_pick" (zI zaa) (zH zaa) (zB zaa) .none kV8 dc8 pm8 an8 cd8 ct8), sl8⟩) (c8 : PySem.W.codeIn K cd8 "whole_pick" = true) (k8 : PySem.W.keepIn K (.ref f8) = true)
  {f9 : Addr} {od9 an9 : Option Addr} {sl9 : Array (Option Value)} {oc9 kV9 dc9 pm9 cd9 ct9 : Value}
  (a9 : PySem.W.nsIn K mainGlobals "heads_of" = some (some (.ref f9))) (l9 : K.lookup f9 = some ⟨oc9, od9, .func (PySem.W.fnOf "heads_of" "heads_of" (zI zaj) (zH zaj) (zB zaj) .none kV9 dc9 pm9 an9 cd9 ct9), sl9⟩) (c9 : PySem.W.codeIn K cd9 "heads_of" = true) (k9 : PySem.W.keepIn K (.ref f9) = true)
  {f10 : Addr} {od10 an10 : Option Addr} {sl10 : Array (Option Value)} {oc10 kV10 dc10 pm10 cd10 ct10 : Value}
  (a10 : PySem.W.nsIn K mainGlobals "rank_of" = some (some (.ref f10))) (l10 : K.lookup f10 = some ⟨oc10, od10, .func (PySem.W.fnOf "rank_of" "rank_of" (zI zfv) (zH zfv) (zB zfv) .none kV10 dc10 pm10 an10 cd10 ct10), sl10⟩) (c10 : PySem.W.codeIn K cd10 "rank_of" = true) (k10 : PySem.W.keepIn K (.ref f10) = true)
  {f11 : Addr} {od11 an11 : Option Addr} {sl11 : Array (Option Value)} {oc11 kV11 dc11 pm11 cd11 ct11 : Value}
  (a11 : PySem.W.nsIn K mainGlobals "rank_of_web" = some (some (.ref f11))) (l11 : K.lookup f11 = some ⟨oc11, od11, .func (PySem.W.fnOf "rank_of_web" "rank_of_web" (zI zad) (zH zad) (zB zad) .none kV11 dc11 pm11 an11 cd11 ct11), sl11⟩) (c11 : PySem.W.codeIn K cd11 "rank_of_web" = true) (k11 : PySem.W.keepIn K (.ref f11) = true)
  {f12 : Addr} {od12 an12 : Option Addr} {sl12 : Array (Option Value)} {oc12 kV12 dc12 pm12 cd12 ct12 : Value}
  (a12 : PySem.W.nsIn K mainGlobals "kind_of" = some (some (.ref f12))) (l12 : K.lookup f12 = some ⟨oc12, od12, .func (PySem.W.fnOf "kind_of" "kind_of" (zI zgb) (zH zgb) (zB zgb) .none kV12 dc12 pm12 an12 cd12 ct12), sl12⟩) (c12 : PySem.W.codeIn K cd12 "kind_of" = true) (k12 : PySem.W.keepIn K (.ref f12) = true)
  {f13 : Addr} {od13 an13 : Option Addr} {sl13 : Array (Option Value)} {oc13 kV13 dc13 pm13 cd13 ct13 : Value}
  (a13 : PySem.W.nsIn K mainGlobals "left_out" = some (some (.ref f13))) (l13 : K.lookup f13 = some ⟨oc13, od13, .func (PySem.W.fnOf "left_out" "left_out" (zI zga) (zH zga) (zB zga) .none kV13 dc13 pm13 an13 cd13 ct13), sl13⟩) (c13 : PySem.W.codeIn K cd13 "left_out" = true) (k13 : PySem.W.keepIn K (.ref f13) = true)
  {f14 : Addr} {od14 an14 : Option Addr} {sl14 : Array (Option Value)} {oc14 kV14 dc14 pm14 cd14 ct14 : Value}
  (a14 : PySem.W.nsIn K mainGlobals "drawn_together" = some (some (.ref f14))) (l14 : K.lookup f14 = some ⟨oc14, od14, .func (PySem.W.fnOf "drawn_together" "drawn_together" (zI zak) (zH zak) (zB zak) .none kV14 dc14 pm14 an14 cd14 ct14), sl14⟩) (c14 : PySem.W.codeIn K cd14 "drawn_together" = true) (k14 : PySem.W.keepIn K (.ref f14) = true)
  {f15 : Addr} {od15 an15 : Option Addr} {sl15 : Array (Option Value)} {oc15 kV15 dc15 pm15 cd15 ct15 : Value}
  (a15 : PySem.W.nsIn K mainGlobals "moved" = some (some (.ref f15))) (l15 : K.lookup f15 = some ⟨oc15, od15, .func (PySem.W.fnOf "moved" "moved" (zI zag) (zH zag) (zB zag) .none kV15 dc15 pm15 an15 cd15 ct15), sl15⟩) (c15 : PySem.W.codeIn K cd15 "moved" = true) (k15 : PySem.W.keepIn K (.ref f15) = true)
  {f16 : Addr} {od16 an16 : Option Addr} {sl16 : Array (Option Value)} {oc16 kV16 dc16 pm16 cd16 ct16 : Value}
  (a16 : PySem.W.nsIn K mainGlobals "gathered" = some (some (.ref f16))) (l16 : K.lookup f16 = some ⟨oc16, od16, .func (PySem.W.fnOf "gathered" "gathered" (zI zgc) (zH zgc) (zB zgc) .none kV16 dc16 pm16 an16 cd16 ct16), sl16⟩) (c16 : PySem.W.codeIn K cd16 "gathered" = true) (k16 : PySem.W.keepIn K (.ref f16) = true)
  {f17 : Addr} {od17 an17 : Option Addr} {sl17 : Array (Option Value)} {oc17 kV17 dc17 pm17 cd17 ct17 : Value}
  (a17 : PySem.W.nsIn K mainGlobals "sum_of" = some (some (.ref f17))) (l17 : K.lookup f17 = some ⟨oc17, od17, .func (PySem.W.fnOf "sum_of" "sum_of" (zI zab) (zH zab) (zB zab) .none kV17 dc17 pm17 an17 cd17 ct17), sl17⟩) (c17 : PySem.W.codeIn K cd17 "sum_of" = true) (k17 : PySem.W.keepIn K (.ref f17) = true)
  {f18 : Addr} {od18 an18 : Option Addr} {sl18 : Array (Option Value)} {oc18 kV18 dc18 pm18 cd18 ct18 : Value}
  (a18 : PySem.W.nsIn K mainGlobals "product_of" = some (some (.ref f18))) (l18 : K.lookup f18 = some ⟨oc18, od18, .func (PySem.W.fnOf "product_of" "product_of" (zI zfw) (zH zfw) (zB zfw) .none kV18 dc18 pm18 an18 cd18 ct18), sl18⟩) (c18 : PySem.W.codeIn K cd18 "product_of" = true) (k18 : PySem.W.keepIn K (.ref f18) = true)
  {f19 : Addr} {od19 an19 : Option Addr} {sl19 : Array (Option Value)} {oc19 kV19 dc19 pm19 cd19 ct19 : Value} {T19 : Addr} {tc19 : Value} {td19 : Option Addr} {ts19 : Array (Option Value)} {tn19 : Nat}
  (a19 : PySem.W.nsIn K mainGlobals "steps_of" = some (some (.ref f19))) (l19 : K.lookup f19 = some ⟨oc19, od19, .func (PySem.W.fnOf "steps_of" "steps_of" (zI zac) (zH zac) (zB zac) (.ref T19) kV19 dc19 pm19 an19 cd19 ct19), sl19⟩) (c19 : PySem.W.codeIn K cd19 "steps_of" = true) (k19 : PySem.W.keepIn K (.ref f19) = true) (t19 : K.lookup T19 = some ⟨tc19, td19, .seq #[.none] tn19, ts19⟩)
  {f20 : Addr} {od20 an20 : Option Addr} {sl20 : Array (Option Value)} {oc20 kV20 dc20 pm20 cd20 ct20 : Value}
  (a20 : PySem.W.nsIn K mainGlobals "steps_down" = some (some (.ref f20))) (l20 : K.lookup f20 = some ⟨oc20, od20, .func (PySem.W.fnOf "steps_down" "steps_down" (zI zbd) (zH zbd) (zB zbd) .none kV20 dc20 pm20 an20 cd20 ct20), sl20⟩) (c20 : PySem.W.codeIn K cd20 "steps_down" = true) (k20 : PySem.W.keepIn K (.ref f20) = true)
  {f21 : Addr} {od21 an21 : Option Addr} {sl21 : Array (Option Value)} {oc21 kV21 dc21 pm21 cd21 ct21 : Value} {T21 : Addr} {tc21 : Value} {td21 : Option Addr} {ts21 : Array (Option Value)} {tn21 : Nat}
  (a21 : PySem.W.nsIn K mainGlobals "by_leaving" = some (some (.ref f21))) (l21 : K.lookup f21 = some ⟨oc21, od21, .func (PySem.W.fnOf "by_leaving" "by_leaving" (zI zrr) (zH zrr) (zB zrr) (.ref T21) kV21 dc21 pm21 an21 cd21 ct21), sl21⟩) (c21 : PySem.W.codeIn K cd21 "by_leaving" = true) (k21 : PySem.W.keepIn K (.ref f21) = true) (t21 : K.lookup T21 = some ⟨tc21, td21, .seq #[.none] tn21, ts21⟩)
  {f22 : Addr} {od22 an22 : Option Addr} {sl22 : Array (Option Value)} {oc22 kV22 dc22 pm22 cd22 ct22 : Value}
  (a22 : PySem.W.nsIn K mainGlobals "with_tie" = some (some (.ref f22))) (l22 : K.lookup f22 = some ⟨oc22, od22, .func (PySem.W.fnOf "with_tie" "with_tie" (zI zfr) (zH zfr) (zB zfr) .none kV22 dc22 pm22 an22 cd22 ct22), sl22⟩) (c22 : PySem.W.codeIn K cd22 "with_tie" = true) (k22 : PySem.W.keepIn K (.ref f22) = true)
  {f23 : Addr} {od23 an23 : Option Addr} {sl23 : Array (Option Value)} {oc23 kV23 dc23 pm23 cd23 ct23 : Value}
  (a23 : PySem.W.nsIn K mainGlobals "_law_at" = some (some (.ref f23))) (l23 : K.lookup f23 = some ⟨oc23, od23, .func (PySem.W.fnOf "_law_at" "_law_at" (zI sAt) (zH sAt) (zB sAt) .none kV23 dc23 pm23 an23 cd23 ct23), sl23⟩) (c23 : PySem.W.codeIn K cd23 "_law_at" = true) (k23 : PySem.W.keepIn K (.ref f23) = true)
  {f24 : Addr} {od24 an24 : Option Addr} {sl24 : Array (Option Value)} {oc24 kV24 dc24 pm24 cd24 ct24 : Value}
  (a24 : PySem.W.nsIn K mainGlobals "_law_points" = some (some (.ref f24))) (l24 : K.lookup f24 = some ⟨oc24, od24, .func (PySem.W.fnOf "_law_points" "_law_points" (zI zrq) (zH zrq) (zB zrq) .none kV24 dc24 pm24 an24 cd24 ct24), sl24⟩) (c24 : PySem.W.codeIn K cd24 "_law_points" = true) (k24 : PySem.W.keepIn K (.ref f24) = true)
  {f25 : Addr} {od25 an25 : Option Addr} {sl25 : Array (Option Value)} {oc25 kV25 dc25 pm25 cd25 ct25 : Value}
  (a25 : PySem.W.nsIn K mainGlobals "_law_tie" = some (some (.ref f25))) (l25 : K.lookup f25 = some ⟨oc25, od25, .func (PySem.W.fnOf "_law_tie" "_law_tie" (zI zfu) (zH zfu) (zB zfu) .none kV25 dc25 pm25 an25 cd25 ct25), sl25⟩) (c25 : PySem.W.codeIn K cd25 "_law_tie" = true) (k25 : PySem.W.keepIn K (.ref f25) = true)
  {f26 : Addr} {od26 an26 : Option Addr} {sl26 : Array (Option Value)} {oc26 kV26 dc26 pm26 cd26 ct26 : Value}
  (a26 : PySem.W.nsIn K mainGlobals "_law_folded" = some (some (.ref f26))) (l26 : K.lookup f26 = some ⟨oc26, od26, .func (PySem.W.fnOf "_law_folded" "_law_folded" (zI zgd) (zH zgd) (zB zgd) .none kV26 dc26 pm26 an26 cd26 ct26), sl26⟩) (c26 : PySem.W.codeIn K cd26 "_law_folded" = true) (k26 : PySem.W.keepIn K (.ref f26) = true)
  {f27 : Addr} {od27 an27 : Option Addr} {sl27 : Array (Option Value)} {oc27 kV27 dc27 pm27 cd27 ct27 : Value}
  (a27 : PySem.W.nsIn K mainGlobals "_law_turned" = some (some (.ref f27))) (l27 : K.lookup f27 = some ⟨oc27, od27, .func (PySem.W.fnOf "_law_turned" "_law_turned" (zI zfs) (zH zfs) (zB zfs) .none kV27 dc27 pm27 an27 cd27 ct27), sl27⟩) (c27 : PySem.W.codeIn K cd27 "_law_turned" = true) (k27 : PySem.W.keepIn K (.ref f27) = true)
  {f28 : Addr} {od28 an28 : Option Addr} {sl28 : Array (Option Value)} {oc28 kV28 dc28 pm28 cd28 ct28 : Value}
  (a28 : PySem.W.nsIn K mainGlobals "_law_order" = some (some (.ref f28))) (l28 : K.lookup f28 = some ⟨oc28, od28, .func (PySem.W.fnOf "_law_order" "_law_order" (zI zae) (zH zae) (zB zae) .none kV28 dc28 pm28 an28 cd28 ct28), sl28⟩) (c28 : PySem.W.codeIn K cd28 "_law_order" = true) (k28 : PySem.W.keepIn K (.ref f28) = true)
  {f29 : Addr} {od29 an29 : Option Addr} {sl29 : Array (Option Value)} {oc29 kV29 dc29 pm29 cd29 ct29 : Value}
  (a29 : PySem.W.nsIn K mainGlobals "_law_drawn_web" = some (some (.ref f29))) (l29 : K.lookup f29 = some ⟨oc29, od29, .func (PySem.W.fnOf "_law_drawn_web" "_law_drawn_web" (zI zal) (zH zal) (zB zal) .none kV29 dc29 pm29 an29 cd29 ct29), sl29⟩) (c29 : PySem.W.codeIn K cd29 "_law_drawn_web" = true) (k29 : PySem.W.keepIn K (.ref f29) = true)
  {f30 : Addr} {od30 an30 : Option Addr} {sl30 : Array (Option Value)} {oc30 kV30 dc30 pm30 cd30 ct30 : Value}
  (a30 : PySem.W.nsIn K mainGlobals "_law_rank" = some (some (.ref f30))) (l30 : K.lookup f30 = some ⟨oc30, od30, .func (PySem.W.fnOf "_law_rank" "_law_rank" (zI zah) (zH zah) (zB zah) .none kV30 dc30 pm30 an30 cd30 ct30), sl30⟩) (c30 : PySem.W.codeIn K cd30 "_law_rank" = true) (k30 : PySem.W.keepIn K (.ref f30) = true)
  {f31 : Addr} {od31 an31 : Option Addr} {sl31 : Array (Option Value)} {oc31 kV31 dc31 pm31 cd31 ct31 : Value}
  (a31 : PySem.W.nsIn K mainGlobals "_law_is_pick" = some (some (.ref f31))) (l31 : K.lookup f31 = some ⟨oc31, od31, .func (PySem.W.fnOf "_law_is_pick" "_law_is_pick" (zI qS) (zH qS) (zB qS) .none kV31 dc31 pm31 an31 cd31 ct31), sl31⟩) (c31 : PySem.W.codeIn K cd31 "_law_is_pick" = true) (k31 : PySem.W.keepIn K (.ref f31) = true)
  {f32 : Addr} {od32 an32 : Option Addr} {sl32 : Array (Option Value)} {oc32 kV32 dc32 pm32 cd32 ct32 : Value}
  (a32 : PySem.W.nsIn K mainGlobals "_law_is_leaf" = some (some (.ref f32))) (l32 : K.lookup f32 = some ⟨oc32, od32, .func (PySem.W.fnOf "_law_is_leaf" "_law_is_leaf" (zI qT) (zH qT) (zB qT) .none kV32 dc32 pm32 an32 cd32 ct32), sl32⟩) (c32 : PySem.W.codeIn K cd32 "_law_is_leaf" = true) (k32 : PySem.W.keepIn K (.ref f32) = true)
  {f33 : Addr} {od33 an33 : Option Addr} {sl33 : Array (Option Value)} {oc33 kV33 dc33 pm33 cd33 ct33 : Value}
  (a33 : PySem.W.nsIn K mainGlobals "_law_gathered" = some (some (.ref f33))) (l33 : K.lookup f33 = some ⟨oc33, od33, .func (PySem.W.fnOf "_law_gathered" "_law_gathered" (zI zai) (zH zai) (zB zai) .none kV33 dc33 pm33 an33 cd33 ct33), sl33⟩) (c33 : PySem.W.codeIn K cd33 "_law_gathered" = true) (k33 : PySem.W.keepIn K (.ref f33) = true)
  {f34 : Addr} {od34 an34 : Option Addr} {sl34 : Array (Option Value)} {oc34 kV34 dc34 pm34 cd34 ct34 : Value}
  (a34 : PySem.W.nsIn K mainGlobals "law" = some (some (.ref f34))) (l34 : K.lookup f34 = some ⟨oc34, od34, .func (PySem.W.fnOf "law" "law" (zI ziq) (zH ziq) (zB ziq) .none kV34 dc34 pm34 an34 cd34 ct34), sl34⟩) (c34 : PySem.W.codeIn K cd34 "law" = true) (k34 : PySem.W.keepIn K (.ref f34) = true)
  (z0 : PySem.W.nsIn K mainGlobals "isinstance" = some none)
  (z1 : PySem.W.nsIn K mainGlobals "int" = some none)
  (z2 : PySem.W.nsIn K mainGlobals "bool" = some none)
  (z3 : PySem.W.nsIn K mainGlobals "len" = some none)
  (z4 : PySem.W.nsIn K mainGlobals "tuple" = some none)
  (z5 : PySem.W.nsIn K mainGlobals "all" = some none)
  (z6 : PySem.W.nsIn K mainGlobals "list" = some none)
  (z7 : PySem.W.nsIn K mainGlobals "min" = some none)
  (z8 : PySem.W.nsIn K mainGlobals "max" = some none)
  (z9 : PySem.W.nsIn K mainGlobals "range" = some none)
  (z10 : PySem.W.nsIn K mainGlobals "set" = some none)
  (z11 : PySem.W.nsIn K mainGlobals "sorted" = some none)
  (z12 : PySem.W.nsIn K mainGlobals "enumerate" = some none)
  {ti0 : Tok} (y0 : PySem.W.nsIn K mainGlobals "MOST_POINTS" = some (some (.int 9 ti0)))
  {ti1 : Tok} (y1 : PySem.W.nsIn K mainGlobals "MOST_TIES" = some (some (.int 8 ti1)))
  {oa ob : Addr} {od oe : Option Addr} {on om : Nat} {os ou : Array (Option Value)} {o0 o1 o2 : Tok} (oo : PySem.W.nsIn K mainGlobals "ONE" = some (some (.ref oa)))
  (ol : K.lookup oa = some ⟨.type "tuple", od, .seq #[.ref ob] on, os⟩)
  (oq : K.lookup ob = some ⟨.type "tuple", oe, .seq #[.int 0 o0, .int 0 o1, .int 1 o2] om, ou⟩)
  {xa xb : Addr} {xd xe : Option Addr} {xn xm : Nat} {xs xu : Array (Option Value)} {x0 x1 x2 : Tok} (xo : PySem.W.nsIn K mainGlobals "X" = some (some (.ref xa)))
  (xl : K.lookup xa = some ⟨.type "tuple", xd, .seq #[.ref xb] xn, xs⟩)
  (xq : K.lookup xb = some ⟨.type "tuple", xe, .seq #[.int 1 x0, .int 0 x1, .int 1 x2] xm, xu⟩)
  {y_a y_b : Addr} {y_d y_e : Option Addr} {y_n y_m : Nat} {y_s y_u : Array (Option Value)} {y_0 y_1 y_2 : Tok} (y_o : PySem.W.nsIn K mainGlobals "Y" = some (some (.ref y_a)))
  (y_l : K.lookup y_a = some ⟨.type "tuple", y_d, .seq #[.ref y_b] y_n, y_s⟩)
  (y_q : K.lookup y_b = some ⟨.type "tuple", y_e, .seq #[.int 0 y_0, .int 1 y_1, .int 1 y_2] y_m, y_u⟩)
  {CE : Addr} (aCE : PySem.W.nsIn K mainGlobals "End" = some (some (.ref CE)))
  (pgE : PySem.W.plainGet K CE Str.empty = true)
  (hdE : PySem.W.hasDictIn K CE = true)
  (poE : PySem.W.plainOver K CE = true)
  (saE : PySem.W.findIn K (.ref CE) "__setattr__" = some (some (.builtin "object.__setattr__")))
  (mkE : PySem.W.makesIn K CE = true)
  (kcE : PySem.W.keepIn K (.ref CE) = true)
  (inE : PySem.W.findIn K (.ref CE) "__init__" = some (some (.builtin "object.__init__")))
  {fEP : Addr} {odEP anEP : Option Addr} {slEP : Array (Option Value)} {ocEP kVEP dcEP pmEP cdEP ctEP : Value} (aEP : PySem.W.findIn K (.ref CE) "poly" = some (some (.ref fEP)))
  (iEP : PySem.W.isFn K (.ref fEP) = true)
  (lEP : K.lookup fEP = some ⟨ocEP, odEP, .func (PySem.W.fnOf "poly" "End.poly" (zI qX) (zH qX) (zB qX) .none kVEP dcEP pmEP anEP cdEP ctEP), slEP⟩)
  (cEP : PySem.W.codeIn K cdEP "End.poly" = true)
  (kEP : PySem.W.keepIn K (.ref fEP) = true)
  {fEL : Addr} {odEL anEL : Option Addr} {slEL : Array (Option Value)} {ocEL kVEL dcEL pmEL cdEL ctEL : Value} (aEL : PySem.W.findIn K (.ref CE) "leaves" = some (some (.ref fEL)))
  (iEL : PySem.W.isFn K (.ref fEL) = true)
  (lEL : K.lookup fEL = some ⟨ocEL, odEL, .func (PySem.W.fnOf "leaves" "End.leaves" (zI zkx) (zH zkx) (zB zkx) .none kVEL dcEL pmEL anEL cdEL ctEL), slEL⟩)
  (cEL : PySem.W.codeIn K cdEL "End.leaves" = true)
  (kEL : PySem.W.keepIn K (.ref fEL) = true)
  {fEM : Addr} {odEM anEM : Option Addr} {slEM : Array (Option Value)} {ocEM kVEM dcEM pmEM cdEM ctEM : Value} (aEM : PySem.W.findIn K (.ref CE) "many" = some (some (.ref fEM)))
  (iEM : PySem.W.isFn K (.ref fEM) = true)
  (lEM : K.lookup fEM = some ⟨ocEM, odEM, .func (PySem.W.fnOf "many" "End.many" (zI qY) (zH qY) (zB qY) .none kVEM dcEM pmEM anEM cdEM ctEM), slEM⟩)
  (cEM : PySem.W.codeIn K cdEM "End.many" = true)
  (kEM : PySem.W.keepIn K (.ref fEM) = true)
  {CC : Addr} (aCC : PySem.W.nsIn K mainGlobals "Curl" = some (some (.ref CC)))
  (pgC : PySem.W.plainGet K CC Str.empty = true)
  (hdC : PySem.W.hasDictIn K CC = true)
  (poC : PySem.W.plainOver K CC = true)
  (saC : PySem.W.findIn K (.ref CC) "__setattr__" = some (some (.builtin "object.__setattr__")))
  (mkC : PySem.W.makesIn K CC = true)
  (kcC : PySem.W.keepIn K (.ref CC) = true)
  {fCI : Addr} {odCI anCI : Option Addr} {slCI : Array (Option Value)} {ocCI kVCI dcCI pmCI cdCI ctCI : Value} (aCI : PySem.W.findIn K (.ref CC) "__init__" = some (some (.ref fCI)))
  (iCI : PySem.W.isFn K (.ref fCI) = true)
  (lCI : K.lookup fCI = some ⟨ocCI, odCI, .func (PySem.W.fnOf "__init__" "Curl.__init__" (zI q9) (zH q9) (zB q9) .none kVCI dcCI pmCI anCI cdCI ctCI), slCI⟩)
  (cCI : PySem.W.codeIn K cdCI "Curl.__init__" = true)
  (kCI : PySem.W.keepIn K (.ref fCI) = true)
  {fCP : Addr} {odCP anCP : Option Addr} {slCP : Array (Option Value)} {ocCP kVCP dcCP pmCP cdCP ctCP : Value} (aCP : PySem.W.findIn K (.ref CC) "poly" = some (some (.ref fCP)))
  (iCP : PySem.W.isFn K (.ref fCP) = true)
  (lCP : K.lookup fCP = some ⟨ocCP, odCP, .func (PySem.W.fnOf "poly" "Curl.poly" (zI qZ) (zH qZ) (zB qZ) .none kVCP dcCP pmCP anCP cdCP ctCP), slCP⟩)
  (cCP : PySem.W.codeIn K cdCP "Curl.poly" = true)
  (kCP : PySem.W.keepIn K (.ref fCP) = true)
  {fCL : Addr} {odCL anCL : Option Addr} {slCL : Array (Option Value)} {ocCL kVCL dcCL pmCL cdCL ctCL : Value} (aCL : PySem.W.findIn K (.ref CC) "leaves" = some (some (.ref fCL)))
  (iCL : PySem.W.isFn K (.ref fCL) = true)
  (lCL : K.lookup fCL = some ⟨ocCL, odCL, .func (PySem.W.fnOf "leaves" "Curl.leaves" (zI zky) (zH zky) (zB zky) .none kVCL dcCL pmCL anCL cdCL ctCL), slCL⟩)
  (cCL : PySem.W.codeIn K cdCL "Curl.leaves" = true)
  (kCL : PySem.W.keepIn K (.ref fCL) = true)
  {fCM : Addr} {odCM anCM : Option Addr} {slCM : Array (Option Value)} {ocCM kVCM dcCM pmCM cdCM ctCM : Value} (aCM : PySem.W.findIn K (.ref CC) "many" = some (some (.ref fCM)))
  (iCM : PySem.W.isFn K (.ref fCM) = true)
  (lCM : K.lookup fCM = some ⟨ocCM, odCM, .func (PySem.W.fnOf "many" "Curl.many" (zI q8) (zH q8) (zB q8) .none kVCM dcCM pmCM anCM cdCM ctCM), slCM⟩)
  (cCM : PySem.W.codeIn K cdCM "Curl.many" = true)
  (kCM : PySem.W.keepIn K (.ref fCM) = true)
  (nCtie : PySem.W.findIn K (.ref CC) "tie" = some none)
  (nCrest : PySem.W.findIn K (.ref CC) "rest" = some none)
  {CB : Addr} (aCB : PySem.W.nsIn K mainGlobals "Bridge" = some (some (.ref CB)))
  (pgB : PySem.W.plainGet K CB Str.empty = true)
  (hdB : PySem.W.hasDictIn K CB = true)
  (poB : PySem.W.plainOver K CB = true)
  (saB : PySem.W.findIn K (.ref CB) "__setattr__" = some (some (.builtin "object.__setattr__")))
  (mkB : PySem.W.makesIn K CB = true)
  (kcB : PySem.W.keepIn K (.ref CB) = true)
  {fBI : Addr} {odBI anBI : Option Addr} {slBI : Array (Option Value)} {ocBI kVBI dcBI pmBI cdBI ctBI : Value} (aBI : PySem.W.findIn K (.ref CB) "__init__" = some (some (.ref fBI)))
  (iBI : PySem.W.isFn K (.ref fBI) = true)
  (lBI : K.lookup fBI = some ⟨ocBI, odBI, .func (PySem.W.fnOf "__init__" "Bridge.__init__" (zI jC) (zH jC) (zB jC) .none kVBI dcBI pmBI anBI cdBI ctBI), slBI⟩)
  (cBI : PySem.W.codeIn K cdBI "Bridge.__init__" = true)
  (kBI : PySem.W.keepIn K (.ref fBI) = true)
  {fBP : Addr} {odBP anBP : Option Addr} {slBP : Array (Option Value)} {ocBP kVBP dcBP pmBP cdBP ctBP : Value} (aBP : PySem.W.findIn K (.ref CB) "poly" = some (some (.ref fBP)))
  (iBP : PySem.W.isFn K (.ref fBP) = true)
  (lBP : K.lookup fBP = some ⟨ocBP, odBP, .func (PySem.W.fnOf "poly" "Bridge.poly" (zI jA) (zH jA) (zB jA) .none kVBP dcBP pmBP anBP cdBP ctBP), slBP⟩)
  (cBP : PySem.W.codeIn K cdBP "Bridge.poly" = true)
  (kBP : PySem.W.keepIn K (.ref fBP) = true)
  {fBL : Addr} {odBL anBL : Option Addr} {slBL : Array (Option Value)} {ocBL kVBL dcBL pmBL cdBL ctBL : Value} (aBL : PySem.W.findIn K (.ref CB) "leaves" = some (some (.ref fBL)))
  (iBL : PySem.W.isFn K (.ref fBL) = true)
  (lBL : K.lookup fBL = some ⟨ocBL, odBL, .func (PySem.W.fnOf "leaves" "Bridge.leaves" (zI zkz) (zH zkz) (zB zkz) .none kVBL dcBL pmBL anBL cdBL ctBL), slBL⟩)
  (cBL : PySem.W.codeIn K cdBL "Bridge.leaves" = true)
  (kBL : PySem.W.keepIn K (.ref fBL) = true)
  {fBM : Addr} {odBM anBM : Option Addr} {slBM : Array (Option Value)} {ocBM kVBM dcBM pmBM cdBM ctBM : Value} (aBM : PySem.W.findIn K (.ref CB) "many" = some (some (.ref fBM)))
  (iBM : PySem.W.isFn K (.ref fBM) = true)
  (lBM : K.lookup fBM = some ⟨ocBM, odBM, .func (PySem.W.fnOf "many" "Bridge.many" (zI jB) (zH jB) (zB jB) .none kVBM dcBM pmBM anBM cdBM ctBM), slBM⟩)
  (cBM : PySem.W.codeIn K cdBM "Bridge.many" = true)
  (kBM : PySem.W.keepIn K (.ref fBM) = true)
  (nBtie : PySem.W.findIn K (.ref CB) "tie" = some none)
  (nBrest : PySem.W.findIn K (.ref CB) "rest" = some none)
  {CF : Addr} (aCF : PySem.W.nsIn K mainGlobals "Fork" = some (some (.ref CF)))
  (pgF : PySem.W.plainGet K CF Str.empty = true)
  (hdF : PySem.W.hasDictIn K CF = true)
  (poF : PySem.W.plainOver K CF = true)
  (saF : PySem.W.findIn K (.ref CF) "__setattr__" = some (some (.builtin "object.__setattr__")))
  (mkF : PySem.W.makesIn K CF = true)
  (kcF : PySem.W.keepIn K (.ref CF) = true)
  {fFI : Addr} {odFI anFI : Option Addr} {slFI : Array (Option Value)} {ocFI kVFI dcFI pmFI cdFI ctFI : Value} (aFI : PySem.W.findIn K (.ref CF) "__init__" = some (some (.ref fFI)))
  (iFI : PySem.W.isFn K (.ref fFI) = true)
  (lFI : K.lookup fFI = some ⟨ocFI, odFI, .func (PySem.W.fnOf "__init__" "Fork.__init__" (zI qW) (zH qW) (zB qW) .none kVFI dcFI pmFI anFI cdFI ctFI), slFI⟩)
  (cFI : PySem.W.codeIn K cdFI "Fork.__init__" = true)
  (kFI : PySem.W.keepIn K (.ref fFI) = true)
  {fFP : Addr} {odFP anFP : Option Addr} {slFP : Array (Option Value)} {ocFP kVFP dcFP pmFP cdFP ctFP : Value} (aFP : PySem.W.findIn K (.ref CF) "poly" = some (some (.ref fFP)))
  (iFP : PySem.W.isFn K (.ref fFP) = true)
  (lFP : K.lookup fFP = some ⟨ocFP, odFP, .func (PySem.W.fnOf "poly" "Fork.poly" (zI qU) (zH qU) (zB qU) .none kVFP dcFP pmFP anFP cdFP ctFP), slFP⟩)
  (cFP : PySem.W.codeIn K cdFP "Fork.poly" = true)
  (kFP : PySem.W.keepIn K (.ref fFP) = true)
  {fFL : Addr} {odFL anFL : Option Addr} {slFL : Array (Option Value)} {ocFL kVFL dcFL pmFL cdFL ctFL : Value} (aFL : PySem.W.findIn K (.ref CF) "leaves" = some (some (.ref fFL)))
  (iFL : PySem.W.isFn K (.ref fFL) = true)
  (lFL : K.lookup fFL = some ⟨ocFL, odFL, .func (PySem.W.fnOf "leaves" "Fork.leaves" (zI zkw) (zH zkw) (zB zkw) .none kVFL dcFL pmFL anFL cdFL ctFL), slFL⟩)
  (cFL : PySem.W.codeIn K cdFL "Fork.leaves" = true)
  (kFL : PySem.W.keepIn K (.ref fFL) = true)
  {fFM : Addr} {odFM anFM : Option Addr} {slFM : Array (Option Value)} {ocFM kVFM dcFM pmFM cdFM ctFM : Value} (aFM : PySem.W.findIn K (.ref CF) "many" = some (some (.ref fFM)))
  (iFM : PySem.W.isFn K (.ref fFM) = true)
  (lFM : K.lookup fFM = some ⟨ocFM, odFM, .func (PySem.W.fnOf "many" "Fork.many" (zI qV) (zH qV) (zB qV) .none kVFM dcFM pmFM anFM cdFM ctFM), slFM⟩)
  (cFM : PySem.W.codeIn K cdFM "Fork.many" = true)
  (kFM : PySem.W.keepIn K (.ref fFM) = true)
  (nFtie : PySem.W.findIn K (.ref CF) "tie" = some none)
  (nFwithout : PySem.W.findIn K (.ref CF) "without" = some none)
  (nFwithin : PySem.W.findIn K (.ref CF) "within" = some none)
  : ∃ fd : FuncData, (∀ (s : Shared) (v : Value), BindsTo s fd ⟨[v], []⟩ [("_law_script", v)]) /\ ∀ base : Heap, K.In base -> base.Ns mainGlobals mg -> FnOk l.prog w K mg base CX0 17 fa fd ["_law_script"] (zog K) := by
 have e := hfa.symm.trans (PySem.W.mg_of X G a34)
 cases e
 have S0 : Src K mg "is_whole" vB ["thing"] := yO X G a0 l0 c0 k0 fun _ _ _ _ _ _ => qD (fun _ => rfl)
 have S1 : Src K mg "is_whole_within" qQ ["thing", "least", "greatest"] := yO X G a1 l1 c1 k1 fun _ _ _ _ _ _ => zlo (fun _ _ _ => rfl)
 have S2 : Src K mg "is_each_once" zfy ["thing", "many"] := yO X G a2 l2 c2 k2 fun _ _ _ _ _ _ => vX (fun _ _ => rfl)
 have S3 : Src K mg "made_web" zfz ["points", "ties"] := yO X G a3 l3 c3 k3 fun _ _ _ _ _ _ => vX (fun _ _ => rfl)
 have S4 : Src K mg "is_pair_of_points" zfx ["thing", "points"] := yO X G a4 l4 c4 k4 fun _ _ _ _ _ _ => vX (fun _ _ => rfl)
 have S5 : Src K mg "lesser_first" qR ["a", "b"] := yO X G a5 l5 c5 k5 fun _ _ _ _ _ _ => vX (fun _ _ => rfl)
 have S6 : Src K mg "refuse_no_tie_of" zaf ["web", "k"] := yO X G a6 l6 c6 k6 fun _ _ _ _ _ _ => vX (fun _ _ => rfl)
 have S7 : Src K mg "told_order" zft ["web", "order"] := yO X G a7 l7 c7 k7 fun _ _ _ _ _ _ => vX (fun _ _ => rfl)
 have S8 : Src K mg "whole_pick" zaa ["web"] := yO X G a8 l8 c8 k8 fun _ _ _ _ _ _ => qD (fun _ => rfl)
 have S9 : Src K mg "heads_of" zaj ["web", "pick"] := yO X G a9 l9 c9 k9 fun _ _ _ _ _ _ => vX (fun _ _ => rfl)
 have S10 : Src K mg "rank_of" zfv ["web", "pick"] := yO X G a10 l10 c10 k10 fun _ _ _ _ _ _ => vX (fun _ _ => rfl)
 have S11 : Src K mg "rank_of_web" zad ["web"] := yO X G a11 l11 c11 k11 fun _ _ _ _ _ _ => qD (fun _ => rfl)
 have S12 : Src K mg "kind_of" zgb ["web", "k"] := yO X G a12 l12 c12 k12 fun _ _ _ _ _ _ => vX (fun _ _ => rfl)
 have S13 : Src K mg "left_out" zga ["web", "k"] := yO X G a13 l13 c13 k13 fun _ _ _ _ _ _ => vX (fun _ _ => rfl)
 have S14 : Src K mg "drawn_together" zak ["web", "k"] := yO X G a14 l14 c14 k14 fun _ _ _ _ _ _ => vX (fun _ _ => rfl)
 have S15 : Src K mg "moved" zag ["point", "low", "high"] := yO X G a15 l15 c15 k15 fun _ _ _ _ _ _ => zlo (fun _ _ _ => rfl)
 have S16 : Src K mg "gathered" zgc ["terms"] := yO X G a16 l16 c16 k16 fun _ _ _ _ _ _ => qD (fun _ => rfl)
 have S17 : Src K mg "sum_of" zab ["one", "other"] := yO X G a17 l17 c17 k17 fun _ _ _ _ _ _ => vX (fun _ _ => rfl)
 have S18 : Src K mg "product_of" zfw ["one", "other"] := yO X G a18 l18 c18 k18 fun _ _ _ _ _ _ => vX (fun _ _ => rfl)
 have S19 : SrcD K mg "steps_of" zac ["web", "order"] := zkk X G a19 l19 c19 k19 t19 (vX fun _ _ => ⟨_, rfl, rfl⟩) (zwl fun _ => ⟨_, rfl, rfl⟩)
 have S20 : Src K mg "steps_down" zbd ["web", "numbers", "order"] := yO X G a20 l20 c20 k20 fun _ _ _ _ _ _ => zlo (fun _ _ _ => rfl)
 have S21 : SrcD K mg "by_leaving" zrr ["web", "order"] := zkk X G a21 l21 c21 k21 t21 (vX fun _ _ => ⟨_, rfl, rfl⟩) (zwl fun _ => ⟨_, rfl, rfl⟩)
 have S22 : Src K mg "with_tie" zfr ["ties", "tie"] := yO X G a22 l22 c22 k22 fun _ _ _ _ _ _ => vX (fun _ _ => rfl)
 have S23 : Src K mg "_law_at" sAt ["_law_script", "_law_k"] := yO X G a23 l23 c23 k23 fun _ _ _ _ _ _ => vX (fun _ _ => rfl)
 have S24 : Src K mg "_law_points" zrq ["_law_cell"] := yO X G a24 l24 c24 k24 fun _ _ _ _ _ _ => qD (fun _ => rfl)
 have S25 : Src K mg "_law_tie" zfu ["_law_cell", "_law_points_here"] := yO X G a25 l25 c25 k25 fun _ _ _ _ _ _ => vX (fun _ _ => rfl)
 have S26 : Src K mg "_law_folded" zgd ["_law_cells", "_law_by"] := yO X G a26 l26 c26 k26 fun _ _ _ _ _ _ => vX (fun _ _ => rfl)
 have S27 : Src K mg "_law_turned" zfs ["_law_number", "_law_many"] := yO X G a27 l27 c27 k27 fun _ _ _ _ _ _ => vX (fun _ _ => rfl)
 have S28 : Src K mg "_law_order" zae ["_law_script", "_law_by", "_law_many"] := yO X G a28 l28 c28 k28 fun _ _ _ _ _ _ => zlo (fun _ _ _ => rfl)
 have S29 : Src K mg "_law_drawn_web" zal ["_law_script"] := yO X G a29 l29 c29 k29 fun _ _ _ _ _ _ => qD (fun _ => rfl)
 have S30 : Src K mg "_law_rank" zah ["_law_points_here", "_law_ties", "_law_pick"] := yO X G a30 l30 c30 k30 fun _ _ _ _ _ _ => zlo (fun _ _ _ => rfl)
 have S31 : Src K mg "_law_is_pick" qS ["_law_pick", "_law_many"] := yO X G a31 l31 c31 k31 fun _ _ _ _ _ _ => vX (fun _ _ => rfl)
 have S32 : Src K mg "_law_is_leaf" qT ["_law_leaf", "_law_points_here", "_law_ties", "_law_full"] := yO X G a32 l32 c32 k32 fun _ _ _ _ _ _ => zCz (fun _ _ _ _ => rfl)
 have S33 : Src K mg "_law_gathered" zai ["_law_leaves"] := yO X G a33 l33 c33 k33 fun _ _ _ _ _ _ => qD (fun _ => rfl)
 have T : Txt K mg := ⟨PySem.W.mg_none_of X G z0, PySem.W.mg_none_of X G z1, PySem.W.mg_none_of X G z2, PySem.W.mg_none_of X G z3, PySem.W.mg_none_of X G z4, PySem.W.mg_none_of X G z5, PySem.W.mg_none_of X G z6, PySem.W.mg_none_of X G z7, PySem.W.mg_none_of X G z8, PySem.W.mg_none_of X G z9, PySem.W.mg_none_of X G z10, PySem.W.mg_none_of X G z11⟩
 have henum : mg "enumerate" = none := PySem.W.mg_none_of X G z12
 have m9 := PySem.W.mg_of X G y0
 have m8 := PySem.W.mg_of X G y1
 have Go : zjl K mg "ONE" [(0, 0, 1)] := ⟨oa, PySem.W.mg_of X G oo, fun H => ⟨oa, [.ref ob], rfl, .inr ⟨_, _, _, ol, rfl, rfl, by show 1 <= sizeLine; decide, .cons rfl .nil⟩, .cons ⟨ob, rfl, .inr ⟨_, _, _, oq, rfl, rfl, by show 3 <= sizeLine; decide, .cons ⟨_, rfl⟩ (.cons ⟨_, rfl⟩ (.cons ⟨_, rfl⟩ .nil))⟩⟩ .nil⟩⟩
 have Gx : zjl K mg "X" [(1, 0, 1)] := ⟨xa, PySem.W.mg_of X G xo, fun H => ⟨xa, [.ref xb], rfl, .inr ⟨_, _, _, xl, rfl, rfl, by show 1 <= sizeLine; decide, .cons rfl .nil⟩, .cons ⟨xb, rfl, .inr ⟨_, _, _, xq, rfl, rfl, by show 3 <= sizeLine; decide, .cons ⟨_, rfl⟩ (.cons ⟨_, rfl⟩ (.cons ⟨_, rfl⟩ .nil))⟩⟩ .nil⟩⟩
 have Gy_ : zjl K mg "Y" [(0, 1, 1)] := ⟨y_a, PySem.W.mg_of X G y_o, fun H => ⟨y_a, [.ref y_b], rfl, .inr ⟨_, _, _, y_l, rfl, rfl, by show 1 <= sizeLine; decide, .cons rfl .nil⟩, .cons ⟨y_b, rfl, .inr ⟨_, _, _, y_q, rfl, rfl, by show 3 <= sizeLine; decide, .cons ⟨_, rfl⟩ (.cons ⟨_, rfl⟩ (.cons ⟨_, rfl⟩ .nil))⟩⟩ .nil⟩⟩
 have T4 : StK K mg CE CC CB CF := ⟨⟨pgE, hdE, poE, saE⟩, ⟨pgC, hdC, poC, saC⟩, ⟨pgB, hdB, poB, saB⟩, ⟨pgF, hdF, poF, saF⟩, nCtie, nCrest, nBtie, nBrest, nFtie, nFwithout, nFwithin, ⟨mkE, inE, kcE⟩, ⟨fCI, _, ⟨mkC, aCI, iCI, kcC⟩, yK (st := q9) lCI cCI kCI, (yK (st := q9) lCI cCI kCI).binds fun _ _ _ _ _ _ => zlo (fun _ _ _ => rfl)⟩, ⟨fBI, _, ⟨mkB, aBI, iBI, kcB⟩, yK (st := jC) lBI cBI kBI, (yK (st := jC) lBI cBI kBI).binds fun _ _ _ _ _ _ => zlo (fun _ _ _ => rfl)⟩, ⟨fFI, _, ⟨mkF, aFI, iFI, kcF⟩, yK (st := qW) lFI cFI kFI, (yK (st := qW) lFI cFI kFI).binds fun _ _ _ _ _ _ => zCz (fun _ _ _ _ => rfl)⟩, PySem.W.mg_of X G aCE, PySem.W.mg_of X G aCC, PySem.W.mg_of X G aCB, PySem.W.mg_of X G aCF, ⟨fEP, _, ⟨aEP, iEP, kEP⟩, yK (st := qX) lEP cEP kEP, (yK (st := qX) lEP cEP kEP).binds fun _ _ _ _ _ _ => qD (fun _ => rfl)⟩, ⟨fCP, _, ⟨aCP, iCP, kCP⟩, yK (st := qZ) lCP cCP kCP, (yK (st := qZ) lCP cCP kCP).binds fun _ _ _ _ _ _ => qD (fun _ => rfl)⟩, ⟨fBP, _, ⟨aBP, iBP, kBP⟩, yK (st := jA) lBP cBP kBP, (yK (st := jA) lBP cBP kBP).binds fun _ _ _ _ _ _ => qD (fun _ => rfl)⟩, ⟨fFP, _, ⟨aFP, iFP, kFP⟩, yK (st := qU) lFP cFP kFP, (yK (st := qU) lFP cFP kFP).binds fun _ _ _ _ _ _ => qD (fun _ => rfl)⟩⟩
 have TL : StL K CE CC CB CF := ⟨⟨fEL, _, ⟨aEL, iEL, kEL⟩, yK (st := zkx) lEL cEL kEL, (yK (st := zkx) lEL cEL kEL).binds fun _ _ _ _ _ _ => qD (fun _ => rfl)⟩, ⟨fCL, _, ⟨aCL, iCL, kCL⟩, yK (st := zky) lCL cCL kCL, (yK (st := zky) lCL cCL kCL).binds fun _ _ _ _ _ _ => qD (fun _ => rfl)⟩, ⟨fBL, _, ⟨aBL, iBL, kBL⟩, yK (st := zkz) lBL cBL kBL, (yK (st := zkz) lBL cBL kBL).binds fun _ _ _ _ _ _ => qD (fun _ => rfl)⟩, ⟨fFL, _, ⟨aFL, iFL, kFL⟩, yK (st := zkw) lFL cFL kFL, (yK (st := zkw) lFL cFL kFL).binds fun _ _ _ _ _ _ => qD (fun _ => rfl)⟩, ⟨fEM, _, ⟨aEM, iEM, kEM⟩, yK (st := qY) lEM cEM kEM, (yK (st := qY) lEM cEM kEM).binds fun _ _ _ _ _ _ => qD (fun _ => rfl)⟩, ⟨fCM, _, ⟨aCM, iCM, kCM⟩, yK (st := q8) lCM cCM kCM, (yK (st := q8) lCM cCM kCM).binds fun _ _ _ _ _ _ => qD (fun _ => rfl)⟩, ⟨fBM, _, ⟨aBM, iBM, kBM⟩, yK (st := jB) lBM cBM kBM, (yK (st := jB) lBM cBM kBM).binds fun _ _ _ _ _ _ => qD (fun _ => rfl)⟩, ⟨fFM, _, ⟨aFM, iFM, kFM⟩, yK (st := qV) lFM cFM kFM, (yK (st := qV) lFM cFM kFM).binds fun _ _ _ _ _ _ => qD (fun _ => rfl)⟩⟩
 refine ⟨PySem.W.fnOf "law" "law" (zI ziq) (zH ziq) (zB ziq) .none kV34 dc34 pm34 an34 cd34 ct34, fun s v => .of_eq rfl, fun base _ _ => ?_⟩
 have D0 : Def l.prog w K mg base 1 _ _ _ := zqt T S0
 have D1 : Def l.prog w K mg base 2 _ _ _ := zuu S1 D0
 have D2 : Def l.prog w K mg base 2 _ _ _ := zzu T S2 D0
 have D4 : Def l.prog w K mg base 3 _ _ _ := zux T S4 D1
 have D5 : Def l.prog w K mg base 1 _ _ _ := zzv S5
 have D3 : Def l.prog w K mg base 4 _ _ _ := zva T henum m9 m8 S3 D1 D4 D5
 have D6 : Def l.prog w K mg base 3 _ _ _ := zqu T S6 D1
 have D8 : Def l.prog w K mg base 1 _ _ _ := zFa T S8
 have D7 : Def l.prog w K mg base 3 _ _ _ := zzp T S7 D8 D2
 have D9 : Def l.prog w K mg base 1 _ _ _ := zvf T S9
 have D10 : Def l.prog w K mg base 2 _ _ _ := zzs T T.set S10 D9
 have D11 : Def l.prog w K mg base 3 _ _ _ := zuw S11 D8 D10
 have D12 : Def l.prog w K mg base 4 _ _ _ := zve T S12 D6 D8 D10 D11
 have D13 : Def l.prog w K mg base 4 _ _ _ := zvd S13 D6
 have D15 : Def l.prog w K mg base 1 _ _ _ := zuz S15
 have D14 : Def l.prog w K mg base 5 _ _ _ := zqv T S14 D13 D15 D5
 have D16 : Def l.prog w K mg base 1 _ _ _ := zzz T.p S16
 have D17 : Def l.prog w K mg base 2 _ _ _ := zzr S17 D16
 have D18 : Def l.prog w K mg base 2 _ _ _ := zzt S18 D16
 have D20 : ∀ d, Def l.prog w K mg base (6 + d) _ _ _ := zsi T4 S20 D12 D13 D14
 have O8 : jK l.prog w K mg base CE CC CB CF 8 := zlh T4 Gx Gy_ Go D18 D17 8
 have D19 : zjm l.prog w K mg base 15 _ _ _ := zuv S19 D8 D7 D20
 have D21 : zjm l.prog w K mg base 16 _ _ _ := zCh T4 S21 D19 O8
 have D22 : Def l.prog w K mg base 1 _ _ _ := zzn T S22
 have D23 : Def l.prog w K mg base 1 _ _ _ := zFb T S23
 have D24 : Def l.prog w K mg base 1 _ _ _ := zCg S24
 have D25 : Def l.prog w K mg base 1 _ _ _ := zzq T S25
 have D26 : Def l.prog w K mg base 1 _ _ _ := zAa S26
 have D29 : Def l.prog w K mg base 2 _ _ _ := zvg T S29 D23 D24 D25
 have D27 : Def l.prog w K mg base 1 _ _ _ := zzo T S27
 have D28 : Def l.prog w K mg base 2 _ _ _ := zuy T S28 D23 D26 D27
 have D30 : Def l.prog w K mg base 1 _ _ _ := zvb T S30
 have D31 : Def l.prog w K mg base 1 _ _ _ := zzw T S31
 have D32 : Def l.prog w K mg base 2 _ _ _ := zzx T S32 D31 D30
 have D33 : Def l.prog w K mg base 1 _ _ _ := zvc T S33
 have OL : zox l.prog w K mg base CE CC CB CF 8 := zwk T T4 TL D22 8
 have OM : zow l.prog w K mg base CE CC CB CF 8 := zwj T4 TL 8
 exact zyv (yK (st := ziq) l34 c34 k34) T henum T4 O8 OL OM D29 D3 D28 D19 D21 D30 D32 D33
theorem walk {l : PySem.W.OpenLaw} {q : Program} {loose : List Str} {XP : (Str -> Option Value) -> Heap -> Prop} {YP : World -> Heap -> Prop} {d : DefRec} {K : Params -> PySem.W.Frag} (hn : l.most = some 63) (hdf : d.params.defaults = [])
  (hY : ∀ (w : World) (h : Heap), YP w h -> (K w.params).In h)
  (F : ∀ (w : World) (mg : Str -> Option Value) (fa : Addr) (h : Heap), (K w.params).In h -> h.Ns mainGlobals mg -> mg d.name = some (.ref fa) ->
   ∃ fd : FuncData, (∀ (s : Shared) (u : Value), BindsTo s fd ⟨[u], []⟩ [("_law_script", u)]) /\ ∀ base : Heap, (K w.params).In base -> base.Ns mainGlobals mg -> FnOk l.prog w (K w.params) mg base CX0 17 fa fd ["_law_script"] (zog (K w.params))) :
  PySem.W.WalkO q loose XP YP l.row.toRowW d [] (fun f vs => PySem.call f vs) :=
 L2.walk_of (n := 63) (k := 17) (x := "_law_script") (CX := fun _ => CX0) (sp := fun w => zog (K w.params)) hn (by decide) hdf ⟨rfl, by decide, by decide⟩ hY F (fun _ _ a ns hl _ hS => ⟨a, ns, rfl, hS, hl, fun _ => rfl⟩) fun _ _ _ _ _ z => z
end My
def PySem.W.Fast.tw10063914971841960129 : Unit := ()
def PySem.W.Fast.tw15462503274492292818 : Unit := ()
def PySem.W.Fast.tw1209663543293538723 : Unit := ()
def PySem.W.Fast.tw4033289051256308301 : Unit := ()
def PySem.W.Fast.tw809765870762993918 : Unit := ()
def PySem.W.Fast.tw12722132323846010399 : Unit := ()
def PySem.W.Fast.tw4573227905276258362 : Unit := ()
def PySem.W.Fast.tw9411522354560942307 : Unit := ()
def PySem.W.Fast.tw5261305469322161942 : Unit := ()
def PySem.W.Fast.tw7981293301460682761 : Unit := ()
def PySem.W.Fast.tw7976127264710136870 : Unit := ()
def PySem.W.Fast.tw7556604074300604441 : Unit := ()
def PySem.W.Fast.tw16808083280678325039 : Unit := ()
def PySem.W.Fast.tw4302030294409737101 : Unit := ()
def PySem.W.Fast.tw1455934396966706537 : Unit := ()
def PySem.W.Fast.tw17422899872153369192 : Unit := ()
def PySem.W.Fast.tw9299360151853616567 : Unit := ()
def PySem.W.Fast.tw1831971897113593828 : Unit := ()
open PySem PySem.W PyProof.Rows
set_option maxRecDepth 100000 in
set_option maxHeartbeats 0 in
theorem PySem.Challenge.cw_manycounts_k37_whole_leaves_holds : PySem.Challenge.rw_manycounts_k37_whole_leaves.Holds := by
 w_on; o_law; k_head; (case hw => w_witness2)
 k_fill
 refine My.walk (l := PySem.Challenge.rw_manycounts_k37_whole_leaves) rfl rfl (fun w h Y => PySem.W.kIn_of Y) ?F
 case F =>
  intro w mg fa h KX G hmg
  refine' My.all_mk KX G hmg ?a0 ?l0 ?c0 ?k0 ?a1 ?l1 ?c1 ?k1 ?a2 ?l2 ?c2 ?k2 ?a3 ?l3 ?c3 ?k3 ?a4 ?l4 ?c4 ?k4 ?a5 ?l5 ?c5 ?k5 ?a6 ?l6 ?c6 ?k6 ?a7 ?l7 ?c7 ?k7 ?a8 ?l8 ?c8 ?k8 ?a9 ?l9 ?c9 ?k9 ?a10 ?l10 ?c10 ?k10 ?a11 ?l11 ?c11 ?k11 ?a12 ?l12 ?c12 ?k12 ?a13 ?l13 ?c13 ?k13 ?a14 ?l14 ?c14 ?k14 ?a15 ?l15 ?c15 ?k15 ?a16 ?l16 ?c16 ?k16 ?a17 ?l17 ?c17 ?k17 ?a18 ?l18 ?c18 ?k18 ?a19 ?l19 ?c19 ?k19 ?t19 ?a20 ?l20 ?c20 ?k20 ?a21 ?l21 ?c21 ?k21 ?t21 ?a22 ?l22 ?c22 ?k22 ?a23 ?l23 ?c23 ?k23 ?a24 ?l24 ?c24 ?k24 ?a25 ?l25 ?c25 ?k25 ?a26 ?l26 ?c26 ?k26 ?a27 ?l27 ?c27 ?k27 ?a28 ?l28 ?c28 ?k28 ?a29 ?l29 ?c29 ?k29 ?a30 ?l30 ?c30 ?k30 ?a31 ?l31 ?c31 ?k31 ?a32 ?l32 ?c32 ?k32 ?a33 ?l33 ?c33 ?k33 ?a34 ?l34 ?c34 ?k34 ?z0 ?z1 ?z2 ?z3 ?z4 ?z5 ?z6 ?z7 ?z8 ?z9 ?z10 ?z11 ?z12 ?y0 ?y1 ?oo ?ol ?oq ?xo ?xl ?xq ?y_o ?y_l ?y_q ?aCE ?pgE ?hdE ?poE ?saE ?mkE ?kcE ?inE ?aEP ?iEP ?lEP ?cEP ?kEP ?aEL ?iEL ?lEL ?cEL ?kEL ?aEM ?iEM ?lEM ?cEM ?kEM ?aCC ?pgC ?hdC ?poC ?saC ?mkC ?kcC ?aCI ?iCI ?lCI ?cCI ?kCI ?aCP ?iCP ?lCP ?cCP ?kCP ?aCL ?iCL ?lCL ?cCL ?kCL ?aCM ?iCM ?lCM ?cCM ?kCM ?nCtie ?nCrest ?aCB ?pgB ?hdB ?poB ?saB ?mkB ?kcB ?aBI ?iBI ?lBI ?cBI ?kBI ?aBP ?iBP ?lBP ?cBP ?kBP ?aBL ?iBL ?lBL ?cBL ?kBL ?aBM ?iBM ?lBM ?cBM ?kBM ?nBtie ?nBrest ?aCF ?pgF ?hdF ?poF ?saF ?mkF ?kcF ?aFI ?iFI ?lFI ?cFI ?kFI ?aFP ?iFP ?lFP ?cFP ?kFP ?aFL ?iFL ?lFL ?cFL ?kFL ?aFM ?iFM ?lFM ?cFM ?kFM ?nFtie ?nFwithout ?nFwithin
  (case a0 => k_is); (case l0 => k_is); (case c0 => k_is); (case k0 => k_is)
  (case a1 => k_is); (case l1 => k_is); (case c1 => k_is); (case k1 => k_is)
  (case a2 => k_is); (case l2 => k_is); (case c2 => k_is); (case k2 => k_is)
  (case a3 => k_is); (case l3 => k_is); (case c3 => k_is); (case k3 => k_is)
  (case a4 => k_is); (case l4 => k_is); (case c4 => k_is); (case k4 => k_is)
  (case a5 => k_is); (case l5 => k_is); (case c5 => k_is); (case k5 => k_is)
  (case a6 => k_is); (case l6 => k_is); (case c6 => k_is); (case k6 => k_is)
  (case a7 => k_is); (case l7 => k_is); (case c7 => k_is); (case k7 => k_is)
  (case a8 => k_is); (case l8 => k_is); (case c8 => k_is); (case k8 => k_is)
  (case a9 => k_is); (case l9 => k_is); (case c9 => k_is); (case k9 => k_is)
  (case a10 => k_is); (case l10 => k_is); (case c10 => k_is); (case k10 => k_is)
  (case a11 => k_is); (case l11 => k_is); (case c11 => k_is); (case k11 => k_is)
  (case a12 => k_is); (case l12 => k_is); (case c12 => k_is); (case k12 => k_is)
  (case a13 => k_is); (case l13 => k_is); (case c13 => k_is); (case k13 => k_is)
  (case a14 => k_is); (case l14 => k_is); (case c14 => k_is); (case k14 => k_is)
  (case a15 => k_is); (case l15 => k_is); (case c15 => k_is); (case k15 => k_is)
  (case a16 => k_is); (case l16 => k_is); (case c16 => k_is); (case k16 => k_is)
  (case a17 => k_is); (case l17 => k_is); (case c17 => k_is); (case k17 => k_is)
  (case a18 => k_is); (case l18 => k_is); (case c18 => k_is); (case k18 => k_is)
  (case a19 => k_is); (case l19 => k_is); (case c19 => k_is); (case k19 => k_is)
  (case t19 => k_is); (case a20 => k_is); (case l20 => k_is); (case c20 => k_is)
  (case k20 => k_is); (case a21 => k_is); (case l21 => k_is); (case c21 => k_is)
  (case k21 => k_is); (case t21 => k_is); (case a22 => k_is); (case l22 => k_is)
  (case c22 => k_is); (case k22 => k_is); (case a23 => k_is); (case l23 => k_is)
  (case c23 => k_is); (case k23 => k_is); (case a24 => k_is); (case l24 => k_is)
  (case c24 => k_is); (case k24 => k_is); (case a25 => k_is); (case l25 => k_is)
  (case c25 => k_is); (case k25 => k_is); (case a26 => k_is); (case l26 => k_is)
  (case c26 => k_is); (case k26 => k_is); (case a27 => k_is); (case l27 => k_is)
  (case c27 => k_is); (case k27 => k_is); (case a28 => k_is); (case l28 => k_is)
  (case c28 => k_is); (case k28 => k_is); (case a29 => k_is); (case l29 => k_is)
  (case c29 => k_is); (case k29 => k_is); (case a30 => k_is); (case l30 => k_is)
  (case c30 => k_is); (case k30 => k_is); (case a31 => k_is); (case l31 => k_is)
  (case c31 => k_is); (case k31 => k_is); (case a32 => k_is); (case l32 => k_is)
  (case c32 => k_is); (case k32 => k_is); (case a33 => k_is); (case l33 => k_is)
  (case c33 => k_is); (case k33 => k_is); (case a34 => k_is); (case l34 => k_is)
  (case c34 => k_is); (case k34 => k_is); (case z0 => k_is); (case z1 => k_is)
  (case z2 => k_is); (case z3 => k_is); (case z4 => k_is); (case z5 => k_is)
  (case z6 => k_is); (case z7 => k_is); (case z8 => k_is); (case z9 => k_is)
  (case z10 => k_is); (case z11 => k_is); (case z12 => k_is); (case y0 => k_is)
  (case y1 => k_is)
  (case oo => k_is)
  (case ol => k_is)
  (case oq => k_is)
  (case xo => k_is)
  (case xl => k_is)
  (case xq => k_is)
  (case y_o => k_is)
  (case y_l => k_is)
  (case y_q => k_is)
  (case aCE => k_is)
  (case pgE => k_is)
  (case hdE => k_is)
  (case poE => k_is)
  (case saE => k_is)
  (case mkE => k_is)
  (case kcE => k_is)
  (case inE => k_is)
  (case aEP => k_is)
  (case iEP => k_is)
  (case lEP => k_is)
  (case cEP => k_is)
  (case kEP => k_is)
  (case aEL => k_is)
  (case iEL => k_is)
  (case lEL => k_is)
  (case cEL => k_is)
  (case kEL => k_is)
  (case aEM => k_is)
  (case iEM => k_is)
  (case lEM => k_is)
  (case cEM => k_is)
  (case kEM => k_is)
  (case aCC => k_is)
  (case pgC => k_is)
  (case hdC => k_is)
  (case poC => k_is)
  (case saC => k_is)
  (case mkC => k_is)
  (case kcC => k_is)
  (case aCI => k_is)
  (case iCI => k_is)
  (case lCI => k_is)
  (case cCI => k_is)
  (case kCI => k_is)
  (case aCP => k_is)
  (case iCP => k_is)
  (case lCP => k_is)
  (case cCP => k_is)
  (case kCP => k_is)
  (case aCL => k_is)
  (case iCL => k_is)
  (case lCL => k_is)
  (case cCL => k_is)
  (case kCL => k_is)
  (case aCM => k_is)
  (case iCM => k_is)
  (case lCM => k_is)
  (case cCM => k_is)
  (case kCM => k_is)
  (case nCtie => k_is)
  (case nCrest => k_is)
  (case aCB => k_is)
  (case pgB => k_is)
  (case hdB => k_is)
  (case poB => k_is)
  (case saB => k_is)
  (case mkB => k_is)
  (case kcB => k_is)
  (case aBI => k_is)
  (case iBI => k_is)
  (case lBI => k_is)
  (case cBI => k_is)
  (case kBI => k_is)
  (case aBP => k_is)
  (case iBP => k_is)
  (case lBP => k_is)
  (case cBP => k_is)
  (case kBP => k_is)
  (case aBL => k_is)
  (case iBL => k_is)
  (case lBL => k_is)
  (case cBL => k_is)
  (case kBL => k_is)
  (case aBM => k_is)
  (case iBM => k_is)
  (case lBM => k_is)
  (case cBM => k_is)
  (case kBM => k_is)
  (case nBtie => k_is)
  (case nBrest => k_is)
  (case aCF => k_is)
  (case pgF => k_is)
  (case hdF => k_is)
  (case poF => k_is)
  (case saF => k_is)
  (case mkF => k_is)
  (case kcF => k_is)
  (case aFI => k_is)
  (case iFI => k_is)
  (case lFI => k_is)
  (case cFI => k_is)
  (case kFI => k_is)
  (case aFP => k_is)
  (case iFP => k_is)
  (case lFP => k_is)
  (case cFP => k_is)
  (case kFP => k_is)
  (case aFL => k_is)
  (case iFL => k_is)
  (case lFL => k_is)
  (case cFL => k_is)
  (case kFL => k_is)
  (case aFM => k_is)
  (case iFM => k_is)
  (case lFM => k_is)
  (case cFM => k_is)
  (case kFM => k_is)
  (case nFtie => k_is)
  (case nFwithout => k_is)
  (case nFwithin => k_is)
