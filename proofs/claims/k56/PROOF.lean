import PyProof.Rows.All
import Wide.All
import OpenK.AllK
import Wide.FinOn
import Lean
import PyProof.EqAt
import PyProof.EqKinds
import PyProof.TupleCall
import KE.KIsAll
import PyProof.DictItems
import KE.KPairComp
import KE.KSortTup
import KE.IntBitsLaws
import KE.KRevIter
import PySem.Challenge.RW_manycounts_k56_corners
set_option Elab.async false
set_option linter.all false
set_option maxRecDepth 100000
set_option maxHeartbeats 4000000
namespace L2
open PySem PySem.Spec PyProof.Rows
abbrev Key := Sum Int Str
def keyIs : Key -> Value -> Bool
  | .inl k, v => Value.isInt k v
  | .inr x, v => Value.isStrOf x v
def keyH (w : World) : Key -> Int
  | .inl k => hashInt k
  | .inr x => hashStr w x
theorem keyIs_shape : ∀ {k : Key} {v : Value}, keyIs k v = true -> (∃ i t, k = Sum.inl i /\ v = Value.int i t) \/ (∃ x t, k = Sum.inr x /\ v = Value.str x t)
  | .inl i, v, h => by
    obtain ⟨t, e⟩ := Value.isInt_shape (k := i) (v := v) h
    exact .inl ⟨i, t, rfl, e⟩
  | .inr x, v, h => by
    obtain ⟨t, e⟩ := Value.isStrOf_shape (x := x) (v := v) h
    exact .inr ⟨x, t, rfl, e⟩
theorem key_ll (a b : Int) : decide ((Sum.inl a : Key) = Sum.inl b) = (a == b) := by
  by_cases e : a = b
  · subst e; simp
  · have h : ¬ (Sum.inl a : Key) = Sum.inl b := fun q => e (Sum.inl.inj q)
    rw [decide_eq_false h]
    exact (beq_eq_false_iff_ne.mpr e).symm
theorem key_rr (a b : Str) : decide ((Sum.inr a : Key) = Sum.inr b) = decide (a = b) := by
  by_cases e : a = b
  · subst e; simp
  · have h : ¬ (Sum.inr a : Key) = Sum.inr b := fun q => e (Sum.inr.inj q)
    rw [decide_eq_false h, decide_eq_false e]
theorem key_lr (a : Int) (b : Str) : decide ((Sum.inl a : Key) = Sum.inr b) = false := decide_eq_false (fun q => nomatch q)
theorem key_rl (a : Str) (b : Int) : decide ((Sum.inr a : Key) = Sum.inl b) = false := decide_eq_false (fun q => nomatch q)
def mixKind (prog : Program) (w : World) : PySem.KeyKind prog w Key where
  is := keyIs
  hash := keyH w
  inj := fun v a b ha hb => by
    rcases keyIs_shape ha with ⟨i, t, rfl, rfl⟩ | ⟨x, t, rfl, rfl⟩
    · rcases keyIs_shape hb with ⟨j, u, rfl, e⟩ | ⟨y, u, rfl, e⟩
      · injection e with e1 _; rw [e1]
      · exact nomatch e
    · rcases keyIs_shape hb with ⟨j, u, rfl, e⟩ | ⟨y, u, rfl, e⟩
      · exact nomatch e
      · injection e with e1 _; rw [e1]
  byValue := fun k v h => by
    rcases keyIs_shape h with ⟨i, t, rfl, rfl⟩ | ⟨x, t, rfl, rfl⟩ <;> rfl
  pyHash := fun hv h => by
    rcases keyIs_shape hv with ⟨i, t, rfl, rfl⟩ | ⟨x, t, rfl, rfl⟩
    · exact wpAny_pyHash_int h
    · exact wpAny_pyHash_str h
  eqBool := fun hu hv h => by
    rcases keyIs_shape hu with ⟨i, t, rfl, rfl⟩ | ⟨x, t, rfl, rfl⟩
    · rcases keyIs_shape hv with ⟨j, u, rfl, rfl⟩ | ⟨y, u, rfl, rfl⟩
      · rw [key_ll] at h; exact wpAny_eqBool_int h
      · rw [key_lr] at h; exact SeqAt.EqAt.int_str i t y u _ _ _ _ h
    · rcases keyIs_shape hv with ⟨j, u, rfl, rfl⟩ | ⟨y, u, rfl, rfl⟩
      · rw [key_rl] at h; exact SeqAt.EqAt.str_int x t j u _ _ _ _ h
      · rw [key_rr] at h; exact wpAny_eqBool_str h
  «strs» := fun k x t v h => by
    rcases keyIs_shape h with ⟨i, u, rfl, e⟩ | ⟨y, u, rfl, e⟩
    · exact nomatch e
    · injection e with e1 _
      subst e1
      cases v <;> rfl
inductive V where
  | non | bl (b : Bool) | int (i : Int) | str (x : Str) | byt (b : Array UInt8) | flt (b : UInt64) | ref (a : Addr) | ty (n : String)
  deriving DecidableEq
def RelV : V -> Value -> Prop
  | .non, u => u = Value.none
  | .bl b, u => u = Value.bool b
  | .int i, u => ∃ t, u = Value.int i t
  | .str x, u => ∃ t, u = Value.str x t
  | .byt b, u => ∃ t, u = Value.bytes b t
  | .flt b, u => ∃ t, u = Value.float b t
  | .ref a, u => u = Value.ref a
  | .ty n, u => u = Value.type n
abbrev Vals : List V -> List Value -> Prop := Paired RelV
theorem Vals.length {xs : List V} {us : List Value} (r : Vals xs us) : xs.length = us.length := Paired.length r
theorem Vals.get : ∀ {xs : List V} {us : List Value} {i : Nat} {x : V}, Vals xs us -> xs[i]? = some x -> ∃ u, us[i]? = some u /\ RelV x u
  | _, _, _, _, .nil, e => by simp at e
  | _, _, 0, _, .cons r _, e => by simp at e; subst e; exact ⟨_, rfl, r⟩
  | _, _, i + 1, x, .cons _ t, e => by
    obtain ⟨u, h1, h2⟩ := Vals.get (i := i) (x := x) t (by simpa using e)
    exact ⟨u, by simpa using h1, h2⟩
theorem Vals.set {x : V} {u : Value} (r : RelV x u) : ∀ {xs : List V} {us : List Value} (i : Nat), Vals xs us -> Vals (xs.set i x) (us.set i u)
  | _, _, _, .nil => .nil
  | _, _, 0, .cons _ t => .cons r t
  | _, _, i + 1, .cons q t => .cons q (Vals.set r i t)
theorem Vals.append : ∀ {xs ys : List V} {us ws : List Value}, Vals xs us -> Vals ys ws -> Vals (xs ++ ys) (us ++ ws)
  | _, _, _, _, .nil, s => s
  | _, _, _, _, .cons r t, s => .cons r (Vals.append t s)
theorem Vals.take : ∀ {xs : List V} {us : List Value} (n : Nat), Vals xs us -> Vals (xs.take n) (us.take n)
  | _, _, 0, _ => .nil
  | _, _, _ + 1, .nil => .nil
  | _, _, n + 1, .cons r t => .cons r (Vals.take n t)
theorem Vals.drop : ∀ {xs : List V} {us : List Value} (n : Nat), Vals xs us -> Vals (xs.drop n) (us.drop n)
  | _, _, 0, r => r
  | _, _, _ + 1, .nil => .nil
  | _, _, n + 1, .cons _ t => Vals.drop n t
def RelO : Option V -> Option Value -> Prop
  | some v, some u => RelV v u
  | none, none => True
  | _, _ => False
def KV {κ : Type} : List (κ × V) -> List (κ × Value) -> Prop := Paired fun (p : κ × V) (q : κ × Value) => p.1 = q.1 /\ RelV p.2 q.2
def kV : Key -> V
  | .inl i => .int i
  | .inr x => .str x
inductive HO where
    | lst (xs : List V)
    | tup (xs : List V)
    | dK (kvs : List (Key × V)) | dT (kvs : List (List Key × V))
    | set (S : Int -> Bool) (n : Nat)
    | ins (C dx : Addr) (fs : List (Str × V))
    | own (x : Addr)
    | xd (fs : List (Str × V))
    | met (f x : Addr)
    | rng (lo hi : Int)
    | frz (o : Obj) (u : HO)
    | tbl (ps : Array Value)
    | ext (φ : Heap -> Prop)
abbrev Hp := Addr -> Option HO
def upd (H : Hp) (a : Addr) (o : HO) : Hp := fun b => if b = a then some o else H b
theorem upd_same {H : Hp} {a : Addr} {o : HO} : upd H a o a = some o := by unfold upd; rw [if_pos rfl]
theorem upd_ne {H : Hp} {a b : Addr} {o : HO} (h : b ≠ a) : upd H a o b = H b := by unfold upd; rw [if_neg h]
theorem ne_of {H : Hp} {a b : Addr} {o u : HO} (h : H a = some o) (h' : H b = some u) (d : o ≠ u) : a ≠ b := by
  intro e; subst e; rw [h] at h'; exact d (Option.some.inj h')
theorem ne_of_none {H : Hp} {a b : Addr} {o : HO} (h : H a = some o) (h' : H b = none) : a ≠ b := by
  intro e; subst e; rw [h] at h'; cases h'
section
variable (P : Program) (w : World)
def ObjOk (H : Hp) (h : Heap) (a : Addr) : HO -> Prop
  | .lst xs => xs.length <= sizeLine /\ ∃ (its : List Value) (n : Nat), Vals xs its /\ h.get? a = some { cls := .type "list", data := .seq its.toArray n }
  | .tup xs => xs.length <= sizeLine /\ ∃ its : List Value, Vals xs its /\ IsTup h a its.toArray
  | .dK kvs => kvs.length <= sizeLine /\ (a == sysModules) = false /\ ∃ vs, KV kvs vs /\ h.DictOf (mixKind P w) a vs
  | .dT kvs => kvs.length <= sizeLine /\ (a == sysModules) = false /\ ∃ xs : List (List Key × Addr × Value),
      Paired (fun (p : List Key × V) (q : List Key × Addr × Value) => p.1 = q.1 /\ H q.2.1 = some (.tup (p.1.map kV)) /\ RelV p.2 q.2.2) kvs xs /\
      ∃ o es ep, h.get? a = some o /\ o.ExactDict /\ o.data = .dict es ep /\ es.toList = xs.map (entryOfKey (tupleKind (mixKind P w))) /\ (xs.map (·.1)).Nodup
  | .set S n => h.SetOf (intKind P w) a S n
  | .ins C dx fs => H dx = some (.own a) /\ fs.length <= 1000 /\ dx ≠ a /\ h.get? a = some (PySem.W.instObj C dx) /\
      ∃ mA, h.Ns1 dx mA /\ (∀ f, RelO (fs.lookup f) (mA f)) /\ PySem.Within mA (fs.map (·.1))
  | .own _ => ∃ o, h.get? a = some o
  | .xd fs => ∃ mA, h.Ns1 a mA /\ ∀ f, RelO (fs.lookup f) (mA f)
  | .rng lo hi => ∃ t u v, h.get? a = some { cls := .type "range", data := .fields #[.int lo t, .int hi u, .int 1 v] }
  | .frz o u => h.get? a = some o /\ ObjOk H h a u
  | .tbl ps => h.get? a = some { cls := .none, data := .fields ps }
  | .met f x => h.get? a = some (PySem.W.methodObj (.ref f) (.ref x))
  | .ext φ => φ h /\ (∃ o, h.get? a = some o) /\ ∀ h1 h2 : Heap, φ h1 -> (∀ o, h1.get? a = some o -> h2.get? a = some o) -> φ h2
def HOk (H : Hp) (h : Heap) : Prop := ∀ a o, H a = some o -> ObjOk P w H h a o
end
section
variable {P : Program} {w : World} {H H' : Hp} {h h' : Heap} {a : Addr} {o : HO}
theorem ObjOk.lt (x : ObjOk P w H h a o) : a < h.objs.size := by
  cases o with
  | lst xs => obtain ⟨_, _, _, _, e⟩ := x; exact Heap.lt_size e
  | tup xs => obtain ⟨_, _, _, p⟩ := x; exact p.lt
  | dK kvs => obtain ⟨_, _, _, _, o, _, _, e, _⟩ := x; exact Heap.lt_size e
  | dT kvs => obtain ⟨_, _, _, _, o, _, _, e, _⟩ := x; exact Heap.lt_size e
  | set S n => obtain ⟨o, _, _, _, e, _⟩ := x; exact Heap.lt_size e
  | ins C dx fs => obtain ⟨_, _, _, e, _⟩ := x; exact Heap.lt_size e
  | own y => obtain ⟨_, e⟩ := x; exact Heap.lt_size e
  | xd fs => obtain ⟨_, ⟨_, _, _, e, _⟩, _⟩ := x; exact Heap.lt_size e
  | rng lo hi => obtain ⟨_, _, _, e⟩ := x; exact Heap.lt_size e
  | frz ob u => obtain ⟨e, _⟩ := x; exact Heap.lt_size e
  | tbl ps => exact Heap.lt_size (show h.get? a = some _ from x)
  | met f y => exact Heap.lt_size (show h.get? a = some _ from x)
  | ext φ => obtain ⟨_, ⟨_, e⟩, _⟩ := x; exact Heap.lt_size e
theorem Paired.mapP {α β : Type} {F G : α -> β -> Prop} : ∀ {l₁ : List α} {l₂ : List β}, Paired F l₁ l₂ -> (∀ a b, F a b -> G a b) -> Paired G l₁ l₂
  | _, _, .nil, _ => .nil
  | _, _, .cons r t, f => .cons (f _ _ r) (Paired.mapP t f)
theorem ObjOk.stay (x : ObjOk P w H h a o) (k : ∀ b u, (b = a \/ H b = some (.own a)) -> h.get? b = some u -> h'.get? b = some u)
    (ho : ∀ b, H b = some (.own a) -> H' b = some (.own a)) (ht : ∀ b xs, H b = some (.tup xs) -> H' b = some (.tup xs)) : ObjOk P w H' h' a o := by
  induction o with
  | lst xs => obtain ⟨z, its, n, r, e⟩ := x; exact ⟨z, its, n, r, k _ _ (.inl rfl) e⟩
  | tup xs => obtain ⟨z, its, r, ob, e, c⟩ := x; exact ⟨z, its, r, ob, k _ _ (.inl rfl) e, c⟩
  | dK kvs => obtain ⟨z, y, vs, r, ob, es, ep, e, c⟩ := x; exact ⟨z, y, vs, r, ob, es, ep, k _ _ (.inl rfl) e, c⟩
  | dT kvs =>
    obtain ⟨z, y, xs, r, ob, es, ep, e, c⟩ := x
    exact ⟨z, y, xs, Paired.mapP r fun p q z => ⟨z.1, ht _ _ z.2.1, z.2.2⟩, ob, es, ep, k _ _ (.inl rfl) e, c⟩
  | set S n => obtain ⟨ob, es, ep, t, e, c⟩ := x; exact ⟨ob, es, ep, t, k _ _ (.inl rfl) e, c⟩
  | ins C dx fs =>
    obtain ⟨d, z, ne, e, mA, ⟨od, es, ep, e2, c⟩, r⟩ := x
    exact ⟨ho _ d, z, ne, k _ _ (.inl rfl) e, mA, ⟨od, es, ep, k _ _ (.inr d) e2, c⟩, r⟩
  | own y => obtain ⟨ob, e⟩ := x; exact ⟨ob, k _ _ (.inl rfl) e⟩
  | xd fs => obtain ⟨mA, ⟨od, es, ep, e, c⟩, r⟩ := x; exact ⟨mA, ⟨od, es, ep, k _ _ (.inl rfl) e, c⟩, r⟩
  | rng lo hi => obtain ⟨t, u, v, e⟩ := x; exact ⟨t, u, v, k _ _ (.inl rfl) e⟩
  | frz ob u ih => obtain ⟨e, q⟩ := x; exact ⟨k _ _ (.inl rfl) e, ih q⟩
  | tbl ps =>
    have e : h.get? a = some { cls := .none, data := .fields ps } := x
    show h'.get? a = some { cls := .none, data := .fields ps }
    exact k a _ (.inl rfl) e
  | met f y =>
    have e : h.get? a = some (PySem.W.methodObj (.ref f) (.ref y)) := x
    show h'.get? a = some (PySem.W.methodObj (.ref f) (.ref y))
    exact k a _ (.inl rfl) e
  | ext φ => obtain ⟨p, ⟨o, e⟩, st⟩ := x; exact ⟨st _ _ p fun o q => k _ _ (.inl rfl) q, ⟨o, k _ _ (.inl rfl) e⟩, st⟩
theorem HOk.lt (x : HOk P w H h) (e : H a = some o) : a < h.objs.size := (x a o e).lt
theorem HOk.fresh (x : HOk P w H h) (e : h.objs.size <= a) : H a = none := by
  cases q : H a with
  | none => rfl
  | some u => exact absurd (Nat.lt_of_lt_of_le (x.lt q) e) (Nat.lt_irrefl _)
theorem HOk.kept (x : HOk P w H h) (k : ∀ b u, h.get? b = some u -> h'.get? b = some u) : HOk P w H h' := fun a o e =>
  (x a o e).stay (fun b u _ q => k b u q) (fun _ q => q) fun _ _ q => q
theorem HOk.laid (x : HOk P w H h) (k : ∀ b u, h.get? b = some u -> h'.get? b = some u) (hp : h.objs.size <= a) (new : ObjOk P w (upd H a o) h' a o) : HOk P w (upd H a o) h' := fun b u e => by
  have hn := x.fresh hp
  by_cases hb : b = a
  · subst hb; rw [upd_same] at e; cases e; exact new
  · rw [upd_ne hb] at e
    exact (x b u e).stay (fun c v _ q => k c v q) (fun c q => by rw [upd_ne (ne_of_none q hn)]; exact q) fun c xs q => by rw [upd_ne (ne_of_none q hn)]; exact q
end
def Rd (H : Hp) (a : Addr) (u : HO) : Prop := H a = some u \/ ∃ o, H a = some (.frz o u)
theorem Rd.ok {P : Program} {w : World} {H : Hp} {h : Heap} {a : Addr} {u : HO} (r : Rd H a u) (x : HOk P w H h) : ObjOk P w H h a u := by
  rcases r with r | ⟨o, r⟩
  · exact x a u r
  · obtain ⟨_, q⟩ := x a _ r
    exact q
def Mut : Option HO -> Prop
  | some (.lst _) => True
  | some (.dK _) => True
  | some (.dT _) => True
  | some (.set _ _) => True
  | some (.ins _ _ _) => True
  | some (.ext _) => True
  | _ => False
section
variable {P : Program} {w : World} {H : Hp} {h h' : Heap} {x e : Addr} {o' : HO}
theorem HOk.write (ok : HOk P w H h) (mu : Mut (H x)) (he : e = x \/ H e = some (.own x)) (k : ∀ b u, b ≠ e -> h.get? b = some u -> h'.get? b = some u) (heo : ∃ u, h'.get? e = some u)
    (new : ObjOk P w (upd H x o') h' x o') : HOk P w (upd H x o') h' := fun b u q => by
  have nown : ∀ c y, H c = some (.own y) -> c ≠ x := fun c y r z => by subst z; rw [r] at mu; exact mu
  have ntup : ∀ c xs, H c = some (.tup xs) -> c ≠ x := fun c xs r z => by subst z; rw [r] at mu; exact mu
  by_cases hb : b = x
  · subst hb; rw [upd_same] at q; cases q; exact new
  · rw [upd_ne hb] at q
    by_cases hbe : b = e
    · have q' : H b = some (.own x) := by
        rcases he with z | z
        · exact absurd (hbe.trans z) hb
        · rw [hbe]; exact z
      rw [q] at q'; cases q'
      obtain ⟨v, hv⟩ := heo
      exact ⟨v, by rw [hbe]; exact hv⟩
    · refine (ok b u q).stay (fun c v hc r => k c v ?_ r) (fun c r => by rw [upd_ne (nown c b r)]; exact r) fun c xs r => by rw [upd_ne (ntup c xs r)]; exact r
      rcases hc with rfl | hc
      · exact hbe
      · rintro rfl
        rcases he with z | z
        · exact nown c b hc z
        · rw [hc] at z; cases z; exact hb rfl
end
structure Un (fs ex : List Addr) (H H' : Hp) (h h' : Heap) : Prop where
  keep : ∀ b o, h.get? b = some o -> H b = none -> b ∉ fs -> b ∉ ex -> h'.get? b = some o
  slot : ∀ b o, h.get? b = some o -> H b = none -> b ∈ fs -> b ∉ ex -> ∃ sl, h'.get? b = some { o with slots := sl }
  free : ∀ b o, h.get? b = some o -> H b = none -> b ∉ ex -> H' b = none
  there : ∀ b o, h.get? b = some o -> b ∉ ex -> ∃ o', h'.get? b = some o'
  tups : ∀ b xs, H b = some (.tup xs) -> H' b = some (.tup xs)
  frzs : ∀ b o u, H b = some (.frz o u) -> H' b = some (.frz o u)
  tbls : ∀ b ps, H b = some (.tbl ps) -> ∃ more, H' b = some (.tbl (ps ++ more))
section
variable {fs fs' ex ex' : List Addr} {H H1 H2 : Hp} {h h1 h2 h' : Heap} {a x e : Addr} {o : HO}
theorem Un.any (u : Un fs ex H H1 h h1) {b : Addr} {ob : Obj} (q : h.get? b = some ob) (n : H b = none) (hx : b ∉ ex) : ∃ sl, h1.get? b = some { ob with slots := sl } := by
  by_cases hb : b ∈ fs
  · exact u.slot b ob q n hb hx
  · exact ⟨ob.slots, u.keep b ob q n hb hx⟩
theorem Un.kept (k : ∀ b u, h.get? b = some u -> h'.get? b = some u) : Un fs ex H H h h' :=
  ⟨fun b ob q _ _ _ => k b ob q, fun b ob q _ _ _ => ⟨ob.slots, k b ob q⟩, fun _ _ _ n _ => n, fun b ob q _ => ⟨ob, k b ob q⟩, fun _ _ q => q, fun _ _ _ q => q, fun _ ps q => ⟨#[], by rw [q]; simp⟩⟩
theorem Un.refl : Un fs ex H H h h := Un.kept fun _ _ q => q
theorem Un.laid (k : ∀ b u, h.get? b = some u -> h'.get? b = some u) (hp : h.objs.size <= a) (hn : H a = none) : Un fs ex H (upd H a o) h h' where
  keep := fun b u q _ _ _ => k b u q
  slot := fun b u q _ _ _ => ⟨u.slots, k b u q⟩
  free := fun b u q n _ => by rw [upd_ne (Nat.ne_of_lt (Nat.lt_of_lt_of_le (Heap.lt_size q) hp))]; exact n
  there := fun b u q _ => ⟨u, k b u q⟩
  tups := fun b xs q => by rw [upd_ne (ne_of_none q hn)]; exact q
  frzs := fun b u xs q => by rw [upd_ne (ne_of_none q hn)]; exact q
  tbls := fun b ps q => ⟨#[], by rw [upd_ne (ne_of_none q hn), q]; simp⟩
theorem Un.write (mu : Mut (H x)) (he : e = x \/ H e = some (.own x)) (k : ∀ b u, b ≠ e -> h.get? b = some u -> h'.get? b = some u) (heo : ∃ u, h'.get? e = some u) : Un fs ex H (upd H x o) h h' := by
  have hx : ∀ b, H b = none -> b ≠ x := fun b n z => by subst z; rw [n] at mu; exact mu
  have hb : ∀ b, H b = none -> b ≠ e := fun b n z => by
    subst z
    rcases he with r | r
    · exact hx b n r
    · rw [n] at r; cases r
  have hm : ∀ b u, H b = some u -> ¬ Mut (some u) -> b ≠ x := fun b u q nm z => by subst z; rw [q] at mu; exact nm mu
  refine ⟨fun b u q n _ _ => k b u (hb b n) q, fun b u q n _ _ => ⟨u.slots, k b u (hb b n) q⟩, fun b u q n _ => by rw [upd_ne (hx b n)]; exact n, fun b u q _ => ?_,
    fun b xs q => by rw [upd_ne (hm b _ q fun z => z)]; exact q, fun b u xs q => by rw [upd_ne (hm b _ q fun z => z)]; exact q, fun b ps q => ⟨#[], by rw [upd_ne (hm b _ q fun z => z), q]; simp⟩⟩
  by_cases hbe : b = e
  · subst hbe; exact heo
  · exact ⟨u, k b u hbe q⟩
end
def trk (h : Heap) (H : Hp) : List Addr := (List.range h.objs.size).filter fun a => (H a).isSome
def hidT (h : Heap) (H : Hp) : Heap := PySem.W.hideAll h (trk h H)
theorem hidT_size (h : Heap) (H : Hp) : (hidT h H).objs.size = h.objs.size := PySem.W.hideAll_size _ _
theorem hidT_get {h : Heap} {H : Hp} {b : Addr} {o : Obj} (e : h.get? b = some o) (n : H b = none) : (hidT h H).get? b = some o :=
  PySem.W.hideAll_get _ e fun hm => by
    have q : (H b).isSome = true := (List.mem_filter.mp hm).2
    rw [n] at q; simp at q
theorem of_hidT {h : Heap} {H : Hp} {b : Addr} {o : Obj} (e : (hidT h H).get? b = some o) : h.get? b = some o /\ H b = none := by
  have e' : h.get? b = some o := PySem.W.of_hideAll (trk h H) e
  refine ⟨e', ?_⟩
  cases q : H b with
  | none => rfl
  | some x =>
    have hm : b ∈ trk h H := List.mem_filter.mpr ⟨List.mem_range.mpr (Heap.lt_size e'), by simp [q]⟩
    have z : (hidT h H).get? b = none := PySem.W.hideAll_none (trk h H) hm
    rw [z] at e; cases e
def allNews (g h : Heap) (L : Addr) : List (Addr × Obj) := (List.range h.objs.size).filterMap fun a => if a = L \/ (g.get? a).isSome = true then none else (h.get? a).map fun o => (a, o)
def rest (g h : Heap) (L d : Addr) : List (Addr × Obj) := (allNews g h L).filter fun p => decide (p.1 ≠ d)
structure Mod (K : PySem.W.Frag) (mg : Str -> Option Value) (base : Heap) : Prop where
  kin : K.In base
  glob : base.Ns mainGlobals mg
  blt : ∃ mb, base.Ns builtinsNs mb /\ ∀ x : Str, x ≠ "__name__" -> mb x = bootBuiltins x
  nolimit : base.NoLimit
structure Cx where
  prog : Program
  w : World
  K : PySem.W.Frag
  mg : Str -> Option Value
  base : Heap
  A : Around
  N : List Str
  s₀ : Shared
  H₀ : Hp
  env : Env
  outer : List Env
  stack : List Env
  ex : List Addr
  fn : Str -> Bool
  calm : Bool
  pn : List (Addr × Obj)
  xe : Value -> Shared -> Prop
def frs (l : List Env) : List Addr := l.filterMap (·.frame)
abbrev Cx.fs (X : Cx) : List Addr := frs X.outer
def Vis (sc : Scope) (x : Str) : Prop := sc.names.lookup x = some .local \/ sc.names.lookup x = some .cell \/ sc.names.lookup x = some .free
def Loc (sc : Scope) (x : Str) : Prop := sc.names.lookup x = some .local \/ sc.names.lookup x = some .cell
def Look (env : Env) (h : Heap) (m : Str -> Option Value) (x : Str) (u : Value) : Prop :=
  (env.kindOf x = some .local /\ m x = some u) \/ ((env.kindOf x = some .cell \/ env.kindOf x = some .free) /\ ∃ c, env.cells.lookup x = some c /\ h.IsCell c (some u))
structure Cx.Ok (X : Cx) : Prop where
  mod : Mod X.K X.mg X.base
  kind : X.env.scope.kind = .function
  glob : X.env.globals = mainGlobals
  blt : X.env.builtins = builtinsNs
  above : X.s₀.heap.objs.size <= X.env.locals
  inj : ∀ x y c, X.env.cells.lookup x = some c -> X.env.cells.lookup y = some c -> x = y
  has : ∀ x, (X.env.kindOf x = some .cell \/ X.env.kindOf x = some .free) -> ∃ c, X.env.cells.lookup x = some c
  cab : ∀ x c, X.fn x = true -> X.env.cells.lookup x = some c -> X.s₀.heap.objs.size <= c
  hd : X.calm = true -> X.A.handled = none
  frames : X.A.frames = some X.stack
  stk : X.stack = X.outer \/ (X.stack = X.env :: X.outer /\ X.env.frame = some X.env.locals)
  exf : ∀ b ∈ X.ex, b ≠ X.env.locals /\ ∀ x c, X.env.cells.lookup x = some c -> c ≠ b
  bs : ∀ b o, X.base.get? b = some o -> X.s₀.heap.get? b = some o /\ X.H₀ b = none
  bsz : X.base.objs.size <= X.s₀.heap.objs.size
  noex : ∀ b o, X.base.get? b = some o -> b ∉ X.ex
  exfs : ∀ b ∈ X.ex, b ∉ X.fs
  funs : X.s₀.heap.FunFrames X.base X.outer
  frf : ∀ b ∈ X.fs, X.H₀ b = none
structure Inv (X : Cx) (pins : List (Addr × Obj)) (σ : List (Option V)) (H : Hp) (s : Shared) : Prop where
  ok : X.Ok
  os : s.os = X.s₀.os
  bare : AllBare s.gens
  base : Un X.fs X.ex X.H₀ H X.s₀.heap s.heap
  loc : ∃ m, s.heap.Ns X.env.locals m /\ ∀ (i : Nat) (x : Str) (v : V), X.N[i]? = some x -> σ[i]? = some (some v) -> Vis X.env.scope x -> ∃ u, RelV v u /\ Look X.env s.heap m x u
  cell : ∀ x c, X.env.cells.lookup x = some c -> ∃ v, s.heap.IsCell c v
  free : H X.env.locals = none
  freeC : ∀ x c, X.env.cells.lookup x = some c -> H c = none
  pin : ∀ p ∈ X.pn ++ pins, s.heap.get? p.1 = some p.2 /\ H p.1 = none /\ p.1 ≠ X.env.locals /\ p.1 ∉ X.fs /\ ∀ v, p.2.data ≠ .cell v
  hok : HOk X.prog X.w H s.heap
  len : σ.length = X.N.length
section
variable {X : Cx} {pins : List (Addr × Obj)} {σ : List (Option V)} {H H' : Hp} {s : Shared} {h' : Heap}
theorem Cx.Ok.nofr (ok : X.Ok) {b : Addr} {o : Obj} (e : X.base.get? b = some o) : b ∉ X.fs := fun hb => by
  have := (ok.funs.mem hb).1
  rw [e] at this; cases this
theorem Inv.bs (I : Inv X pins σ H s) : ∀ b o, X.base.get? b = some o -> s.heap.get? b = some o /\ H b = none := fun b o e =>
  ⟨I.base.keep b o (I.ok.bs b o e).1 (I.ok.bs b o e).2 (I.ok.nofr e) (I.ok.noex b o e), I.base.free b o (I.ok.bs b o e).1 (I.ok.bs b o e).2 (I.ok.noex b o e)⟩
theorem Inv.bk (I : Inv X pins σ H s) : ∀ b o, X.base.get? b = some o -> s.heap.get? b = some o := fun b o e => (I.bs b o e).1
theorem Inv.mod (I : Inv X pins σ H s) : Mod X.K X.mg X.base := I.ok.mod
theorem Inv.kIn (I : Inv X pins σ H s) : X.K.In s.heap := I.ok.mod.kin.keeps I.bk
theorem Inv.lt (I : Inv X pins σ H s) : X.env.locals < s.heap.objs.size := let ⟨_, hn, _⟩ := I.loc; hn.lt
theorem Inv.sz (I : Inv X pins σ H s) : X.s₀.heap.objs.size <= s.heap.objs.size := Nat.le_trans I.ok.above (Nat.le_of_lt I.lt)
theorem Inv.nofs (I : Inv X pins σ H s) {a : Addr} (h : s.heap.objs.size <= a) : a ∉ X.fs := fun hb => by
  obtain ⟨_, o, ho, _⟩ := I.ok.funs.mem hb
  exact absurd (Nat.lt_of_lt_of_le (Heap.lt_size ho) (Nat.le_trans I.sz h)) (Nat.lt_irrefl _)
theorem Inv.cne (I : Inv X pins σ H s) : ∀ x c, X.env.cells.lookup x = some c -> c ≠ X.env.locals := fun x c e z => by
  obtain ⟨v, o, ho, hd⟩ := I.cell x c e
  obtain ⟨m, ⟨o', es, ep, ho', hd', _⟩, _⟩ := I.loc
  rw [z, ho'] at ho; cases ho; rw [hd'] at hd; cases hd
theorem Inv.funs (I : Inv X pins σ H s) : s.heap.FunFrames X.base X.outer := by
  have all : ∀ (l : List Env), (∀ b ∈ frs l, b ∈ X.fs) -> X.s₀.heap.FunFrames X.base l -> s.heap.FunFrames X.base l := by
    intro l
    induction l with
    | nil => intro _ _; trivial
    | cons env r ih =>
      intro hs hl
      obtain ⟨hk, ⟨L, o, hf, hn, ho, hd⟩, hr⟩ := hl
      have hL : L ∈ X.fs := hs L (by unfold frs; rw [List.filterMap_cons, hf]; exact List.mem_cons_self)
      obtain ⟨sl, e⟩ := I.base.slot L o ho (I.ok.frf L hL) hL fun z => I.ok.exfs L z hL
      exact ⟨hk, ⟨L, _, hf, hn, e, hd⟩, ih (fun b hb => hs b (by unfold frs; rw [List.filterMap_cons, hf]; exact List.mem_cons_of_mem _ hb)) hr⟩
  exact all X.outer (fun _ hb => hb) I.ok.funs
theorem Inv.stack (I : Inv X pins σ H s) : s.heap.FunFrames X.base X.stack := by
  rcases I.ok.stk with e | ⟨e, hf⟩
  · rw [e]; exact I.funs
  · rw [e]
    obtain ⟨m, hn, _⟩ := I.loc
    refine .cons (by rw [I.ok.kind]; decide) hf hn ?_ I.funs
    exact Heap.get?_none_of_le (Nat.le_trans I.ok.bsz I.ok.above)
theorem Inv.stkSub (I : Inv X pins σ H s) : ∀ b ∈ frs X.stack, b ∈ X.env.locals :: X.fs := fun b hb => by
  rcases I.ok.stk with e | ⟨e, hf⟩
  · rw [e] at hb; exact List.mem_cons_of_mem _ hb
  · rw [e] at hb
    unfold frs at hb
    rw [List.filterMap_cons, hf] at hb
    exact hb
theorem Inv.stkFree (I : Inv X pins σ H s) : ∀ b ∈ frs X.stack, H b = none := fun b hb => by
  rcases List.mem_cons.mp (I.stkSub b hb) with e | hb
  · rw [e]; exact I.free
  · obtain ⟨_, o, ho, _⟩ := I.ok.funs.mem hb
    exact I.base.free b o ho (I.ok.frf b hb) fun z => I.ok.exfs b z hb
theorem Inv.step {g' : Array GenState} {t' : Nat} {d' : Drawn} {ch : List Addr} (I : Inv X pins σ H s)
    (hch : ∀ b ∈ ch, (b ∈ X.ex \/ X.s₀.heap.objs.size <= b) /\ b ≠ X.env.locals /\ (∀ x c, X.env.cells.lookup x = some c -> c ≠ b) /\ ∀ p ∈ X.pn ++ pins, p.1 ≠ b)
    (keep : ∀ b o, b ≠ X.env.locals -> b ∉ X.fs -> b ∉ ch -> s.heap.get? b = some o -> H b = none -> h'.get? b = some o)
    (slot : ∀ b o, b ≠ X.env.locals -> b ∈ X.fs -> b ∉ ch -> s.heap.get? b = some o -> H b = none -> ∃ sl, h'.get? b = some { o with slots := sl }) (free : ∀ b o, b ∉ ch -> s.heap.get? b = some o -> H b = none -> H' b = none)
    (there : ∀ b o, b ∉ ch -> s.heap.get? b = some o -> ∃ o', h'.get? b = some o')
    (tups : ∀ b xs, H b = some (.tup xs) -> H' b = some (.tup xs)) (frzs : ∀ b o u, H b = some (.frz o u) -> H' b = some (.frz o u)) (tbls : ∀ b ps, H b = some (.tbl ps) -> ∃ more, H' b = some (.tbl (ps ++ more)))
    (ns : ∀ m, s.heap.Ns X.env.locals m -> h'.Ns X.env.locals m) (hok : HOk X.prog X.w H' h') (hg : AllBare g') :
    Inv X pins σ H' { s with heap := h', gens := g', drawn := d', toks := t' } := by
  have neL : ∀ b o, X.s₀.heap.get? b = some o -> b ≠ X.env.locals := fun b o e => Nat.ne_of_lt (Nat.lt_of_lt_of_le (Heap.lt_size e) I.ok.above)
  have neC : ∀ b o, X.s₀.heap.get? b = some o -> b ∉ X.ex -> b ∉ ch := fun b o e hx hb => by
    rcases (hch b hb).1 with z | z
    · exact hx z
    · exact absurd (Nat.lt_of_lt_of_le (Heap.lt_size e) z) (Nat.lt_irrefl _)
  have cellK : ∀ x c, X.env.cells.lookup x = some c -> ∀ v, s.heap.IsCell c v -> h'.IsCell c v := fun x c e v ⟨o, ho, hd⟩ => by
    have nch : c ∉ ch := fun z => (hch c z).2.2.1 x c e rfl
    by_cases hc : c ∈ X.fs
    · obtain ⟨sl, q⟩ := slot c o (I.cne x c e) hc nch ho (I.freeC x c e)
      exact ⟨_, q, hd⟩
    · exact ⟨o, keep c o (I.cne x c e) hc nch ho (I.freeC x c e), hd⟩
  refine ⟨I.ok, I.os, hg, ⟨fun b o e n hb hx => ?_, fun b o e n hb hx => ?_, fun b o e n hx => ?_, fun b o e hx => ?_, fun b xs e => tups b xs (I.base.tups b xs e), fun b o xs e => frzs b o xs (I.base.frzs b o xs e), fun b ps e => ?_⟩, ?_, fun x c e => ?_, ?_, fun x c e => ?_, fun p hp => ?_, hok, I.len⟩
  · exact keep b o (neL b o e) hb (neC b o e hx) (I.base.keep b o e n hb hx) (I.base.free b o e n hx)
  · obtain ⟨sl, e1⟩ := I.base.slot b o e n hb hx
    obtain ⟨sl', e2⟩ := slot b _ (neL b o e) hb (neC b o e hx) e1 (I.base.free b o e n hx)
    exact ⟨sl', e2⟩
  · obtain ⟨o', e1⟩ := I.base.there b o e hx
    exact free b o' (neC b o e hx) e1 (I.base.free b o e n hx)
  · obtain ⟨o', e1⟩ := I.base.there b o e hx
    exact there b o' (neC b o e hx) e1
  · obtain ⟨m1, e1⟩ := I.base.tbls b ps e
    obtain ⟨m2, e2⟩ := tbls b _ e1
    exact ⟨m1 ++ m2, by rw [e2, Array.append_assoc]⟩
  · obtain ⟨m, hn, hl⟩ := I.loc
    refine ⟨m, ns m hn, fun i x v e1 e2 e3 => ?_⟩
    obtain ⟨u, r, l⟩ := hl i x v e1 e2 e3
    refine ⟨u, r, ?_⟩
    rcases l with l | ⟨k, c, e, z⟩
    · exact .inl l
    · exact .inr ⟨k, c, e, cellK x c e _ z⟩
  · obtain ⟨v, z⟩ := I.cell x c e
    exact ⟨v, cellK x c e v z⟩
  · obtain ⟨m, ⟨o, _, _, ho, _⟩, _⟩ := I.loc
    exact free _ o (fun z => (hch _ z).2.1 rfl) ho I.free
  · obtain ⟨v, o, ho, hd⟩ := I.cell x c e
    exact free c o (fun z => (hch c z).2.2.1 x c e rfl) ho (I.freeC x c e)
  · obtain ⟨e, n, ne, nf, d⟩ := I.pin p hp
    have nch : p.1 ∉ ch := fun z => (hch p.1 z).2.2.2 p hp rfl
    exact ⟨keep p.1 p.2 ne nf nch e n, free p.1 p.2 nch e n, ne, nf, d⟩
theorem Inv.un {t' : Nat} (I : Inv X pins σ H s) (u : Un X.fs [] H H' s.heap h') (hok : HOk X.prog X.w H' h') : Inv X pins σ H' { s with heap := h', toks := t' } := by
  obtain ⟨m, ⟨o, es, ep, ho, r⟩, _⟩ := id I.loc
  obtain ⟨sl, hL⟩ := u.any ho I.free (by simp)
  exact I.step (g' := s.gens) (d' := s.drawn) (ch := []) (fun _ z => nomatch z) (fun b o _ hb _ e n => u.keep b o e n hb (by simp)) (fun b o _ hb _ e n => u.slot b o e n hb (by simp)) (fun b o _ e n => u.free b o e n (by simp)) (fun b o _ e => u.there b o e (by simp)) u.tups u.frzs u.tbls (fun m' hm => by
    obtain ⟨o', es', ep', ho', r'⟩ := hm
    rw [ho] at ho'; cases ho'
    exact ⟨_, es', ep', hL, r'⟩) hok I.bare
theorem Inv.call {g' : Array GenState} {t' : Nat} {d' : Drawn} {ch : List Addr} (I : Inv X pins σ H s) (u : Un (frs X.stack) ch H H' s.heap h') (hok : HOk X.prog X.w H' h') (hg : AllBare g')
    (hch : ∀ b ∈ ch, (b ∈ X.ex \/ X.s₀.heap.objs.size <= b) /\ b ≠ X.env.locals /\ (∀ x c, X.env.cells.lookup x = some c -> c ≠ b) /\ ∀ p ∈ X.pn ++ pins, p.1 ≠ b) :
    Inv X pins σ H' { s with heap := h', gens := g', drawn := d', toks := t' } := by
  obtain ⟨m, ⟨o, es, ep, ho, r⟩, _⟩ := id I.loc
  obtain ⟨sl, hL⟩ := u.any ho I.free fun z => (hch _ z).2.1 rfl
  exact I.step (ch := ch) hch (fun b o hL hb hc e n => u.keep b o e n (fun z => (List.mem_cons.mp (I.stkSub b z)).elim hL hb) hc) (fun b o _ _ hc e n => u.any e n hc) (fun b o hc e n => u.free b o e n hc) (fun b o hc e => u.there b o e hc) u.tups u.frzs u.tbls (fun m' hm => by
    obtain ⟨o', es', ep', ho', r'⟩ := hm
    rw [ho] at ho'; cases ho'
    exact ⟨_, es', ep', hL, r'⟩) hok hg
theorem Inv.turned {t' : Nat} {it : Addr} (I : Inv X pins σ H s) (k : ∀ b o, b ≠ it -> s.heap.get? b = some o -> h'.get? b = some o) (hn : H it = none) (hL : it ≠ X.env.locals)
    (h1 : it ∈ X.ex \/ X.s₀.heap.objs.size <= it) (h2 : ∀ x c, X.env.cells.lookup x = some c -> c ≠ it) (h3 : ∀ p ∈ X.pn ++ pins, p.1 ≠ it) : Inv X pins σ H { s with heap := h', toks := t' } := by
  have nit : ∀ b u, H b = some u -> b ≠ it := fun b u e z => by rw [z, hn] at e; cases e
  refine I.step (g' := s.gens) (d' := s.drawn) (ch := [it]) (fun b hb => ?_) (fun b o _ _ hc e _ => k b o (fun z => hc (by simp [z])) e) (fun b o _ _ hc e _ => ⟨o.slots, k b o (fun z => hc (by simp [z])) e⟩) (fun _ _ _ _ n => n)
    (fun b o hc e => ⟨o, k b o (fun z => hc (by simp [z])) e⟩) (fun _ _ e => e) (fun _ _ _ e => e) (fun b ps e => ⟨#[], by rw [e]; simp⟩) (fun m hm => ?_) (fun b u e => ?_) I.bare
  · have e : b = it := by simpa using hb
    subst e
    exact ⟨h1, hL, h2, h3⟩
  · obtain ⟨o, es, ep, ho, r⟩ := hm
    exact ⟨o, es, ep, k _ o (Ne.symm hL) ho, r⟩
  · refine (I.hok b u e).stay (fun c v hc q => k c v ?_ q) (fun _ q => q) fun _ _ q => q
    rcases hc with z | z
    · rw [z]; exact nit b u e
    · exact nit c _ z
theorem Inv.tok (I : Inv X pins σ H s) (t : Nat) : Inv X pins σ H { s with toks := t } := I.un (h' := s.heap) (t' := t) Un.refl I.hok
theorem Inv.kept {t' : Nat} (I : Inv X pins σ H s) (k : ∀ b u, s.heap.get? b = some u -> h'.get? b = some u) : Inv X pins σ H { s with heap := h', toks := t' } := I.un (Un.kept k) (I.hok.kept k)
theorem Inv.laid {a : Addr} {o : HO} {t' : Nat} (I : Inv X pins σ H s) (k : ∀ b u, s.heap.get? b = some u -> h'.get? b = some u) (hp : s.heap.objs.size <= a) (new : ObjOk X.prog X.w (upd H a o) h' a o) :
    Inv X pins σ (upd H a o) { s with heap := h', toks := t' } := I.un (Un.laid k hp (I.hok.fresh hp)) (I.hok.laid k hp new)
theorem Inv.write {x e : Addr} {o : HO} {t' : Nat} (I : Inv X pins σ H s) (mu : Mut (H x)) (he : e = x \/ H e = some (.own x)) (k : ∀ b u, b ≠ e -> s.heap.get? b = some u -> h'.get? b = some u) (heo : ∃ u, h'.get? e = some u)
    (new : ObjOk X.prog X.w (upd H x o) h' x o) : Inv X pins σ (upd H x o) { s with heap := h', toks := t' } := I.un (Un.write mu he k heo) (I.hok.write mu he k heo new)
theorem Inv.pins_of {pins' : List (Addr × Obj)} (I : Inv X pins σ H s) (h : ∀ p ∈ pins', s.heap.get? p.1 = some p.2 /\ H p.1 = none /\ p.1 ≠ X.env.locals /\ p.1 ∉ X.fs /\ ∀ v, p.2.data ≠ .cell v) : Inv X pins' σ H s :=
  ⟨I.ok, I.os, I.bare, I.base, I.loc, I.cell, I.free, I.freeC, fun p hp => (List.mem_append.mp hp).elim (fun z => I.pin p (List.mem_append_left _ z)) (h p), I.hok, I.len⟩
theorem nodup_ix {N : List Str} (hN : N.Nodup) {i j : Nat} {x : Str} (a : N[i]? = some x) (b : N[j]? = some x) : i = j := by
  obtain ⟨h1, e1⟩ := List.getElem?_eq_some_iff.mp a
  obtain ⟨h2, e2⟩ := List.getElem?_eq_some_iff.mp b
  exact (List.getElem_inj hN).mp (e1.trans e2.symm)
theorem store_ok2 {M : Model} {A : Around} {E : Value -> Shared -> Prop} {i : Nat} {x : Str} {v : V} {u : Value} {Q : Unit -> Shared -> Prop} (I : Inv X pins σ H s) (hN : X.N.Nodup) (hi : X.N[i]? = some x) (hx : Loc X.env.scope x) (r : RelV v u)
    (h : ∀ s', Inv X pins (σ.set i (some v)) H s' -> (∃ a, Heap.SameBut a s.heap s'.heap /\ (a = X.env.locals \/ X.env.cells.lookup x = some a)) -> Q () s') (hf : X.fn x = true \/ X.env.scope.names.lookup x = some .local := by first | exact .inl rfl | exact .inr rfl | assumption) : wpAny M A (storeName X.env x u) Q E s := by
  obtain ⟨m, hn, hl⟩ := id I.loc
  have hcls : (X.env.scope.kind == .class || (X.env.scope.kind == .module && X.env.locals != X.env.globals)) = false := by rw [I.ok.kind]; rfl
  have hiσ : i < σ.length := by rw [I.len]; exact (List.getElem?_eq_some_iff.mp hi).1
  have cne := I.cne
  have tracked : ∀ {a : Addr} {h' : Heap}, (∃ o, s.heap.get? a = some o /\ H a = none) -> Heap.SameBut a s.heap h' -> HOk X.prog X.w H h' := fun {a h'} ha hs b ob e => by
    obtain ⟨_, _, hfree⟩ := ha
    refine (I.hok b ob e).stay (fun c w' hc q => (hs.2 c ?_).trans q) (fun _ q => q) fun _ _ q => q
    rintro rfl
    rcases hc with rfl | hc
    · rw [hfree] at e; cases e
    · rw [hfree] at hc; cases hc
  rcases hx with hk | hk
  · refine wpAny_storeName_local hk hn (fun h' hn' hs => ?_) hcls
    obtain ⟨oL, _, _, hoL, _⟩ := id hn
    refine h _ ⟨I.ok, I.os, I.bare, ⟨fun b o e n hb hx => ?_, fun b o e n hb hx => ?_, I.base.free, fun b o e hx => ?_, I.base.tups, I.base.frzs, I.base.tbls⟩, ⟨_, hn', fun j y v' e1 e2 e3 => ?_⟩, fun y c e => ?_, I.free, I.freeC, fun p hp => ?_, tracked ⟨oL, hoL, I.free⟩ hs, by simpa using I.len⟩ ⟨_, hs, .inl rfl⟩
    · exact (hs.2 b (Nat.ne_of_lt (Nat.lt_of_lt_of_le (Heap.lt_size e) I.ok.above))).trans (I.base.keep b o e n hb hx)
    · obtain ⟨sl, e1⟩ := I.base.slot b o e n hb hx
      exact ⟨sl, (hs.2 b (Nat.ne_of_lt (Nat.lt_of_lt_of_le (Heap.lt_size e) I.ok.above))).trans e1⟩
    · obtain ⟨o', e1⟩ := I.base.there b o e hx
      exact ⟨o', (hs.2 b (Nat.ne_of_lt (Nat.lt_of_lt_of_le (Heap.lt_size e) I.ok.above))).trans e1⟩
    · by_cases hj : j = i
      · subst hj
        rw [hi] at e1; cases e1
        rw [List.getElem?_set_self hiσ] at e2
        cases e2
        exact ⟨u, r, .inl ⟨hk, by simp⟩⟩
      · rw [List.getElem?_set_ne (Ne.symm hj)] at e2
        obtain ⟨u', r', q⟩ := hl j y v' e1 e2 e3
        refine ⟨u', r', ?_⟩
        rcases q with ⟨k, e⟩ | ⟨k, c, e, z⟩
        · refine .inl ⟨k, ?_⟩
          have : y ≠ x := fun e => hj (nodup_ix hN e1 (e ▸ hi))
          simp [this, e]
        · exact .inr ⟨k, c, e, z.sameBut hs (cne y c e)⟩
    · obtain ⟨w', z⟩ := I.cell y c e
      exact ⟨w', z.sameBut hs (cne y c e)⟩
    · obtain ⟨e, n, ne, nf, d⟩ := I.pin p hp
      exact ⟨(hs.2 p.1 ne).trans e, n, ne, nf, d⟩
  · have hfn : X.fn x = true := by
      rcases hf with z | z
      · exact z
      · rw [z] at hk; cases hk
    obtain ⟨c, hc⟩ := I.ok.has x (.inl hk)
    obtain ⟨w', z⟩ := I.cell x c hc
    refine wpAny_storeName_cell I.ok.kind hk hc z (fun h' hc' hs => ?_)
    obtain ⟨oc, hoc, hocd⟩ := id z
    refine h { s with heap := h' } ⟨I.ok, I.os, I.bare, ⟨fun b o e n hb hx => ?_, fun b o e n hb hx => ?_, I.base.free, fun b o e hx => ?_, I.base.tups, I.base.frzs, I.base.tbls⟩, ⟨m, hn.sameBut hs (Ne.symm (cne x c hc)), fun j y v' e1 e2 e3 => ?_⟩, fun y c' e => ?_, I.free, I.freeC, fun p hp => ?_, tracked ⟨oc, hoc, I.freeC x c hc⟩ hs, by simpa using I.len⟩ ⟨c, hs, .inr hc⟩
    · exact (hs.2 b (Nat.ne_of_lt (Nat.lt_of_lt_of_le (Heap.lt_size e) (I.ok.cab x c hfn hc)))).trans (I.base.keep b o e n hb hx)
    · obtain ⟨sl, e1⟩ := I.base.slot b o e n hb hx
      exact ⟨sl, (hs.2 b (Nat.ne_of_lt (Nat.lt_of_lt_of_le (Heap.lt_size e) (I.ok.cab x c hfn hc)))).trans e1⟩
    · obtain ⟨o', e1⟩ := I.base.there b o e hx
      exact ⟨o', (hs.2 b (Nat.ne_of_lt (Nat.lt_of_lt_of_le (Heap.lt_size e) (I.ok.cab x c hfn hc)))).trans e1⟩
    · by_cases hj : j = i
      · subst hj
        rw [hi] at e1; cases e1
        rw [List.getElem?_set_self hiσ] at e2
        cases e2
        exact ⟨u, r, .inr ⟨.inl hk, c, hc, hc'⟩⟩
      · rw [List.getElem?_set_ne (Ne.symm hj)] at e2
        obtain ⟨u', r', q⟩ := hl j y v' e1 e2 e3
        refine ⟨u', r', ?_⟩
        rcases q with q | ⟨k, c', e, z'⟩
        · exact .inl q
        · refine .inr ⟨k, c', e, z'.sameBut hs ?_⟩
          rintro rfl
          exact hj (nodup_ix hN e1 (I.ok.inj _ _ _ e hc ▸ hi))
    · by_cases hcc : c' = c
      · subst hcc; exact ⟨_, hc'⟩
      · obtain ⟨w2, z2⟩ := I.cell y c' e
        exact ⟨w2, z2.sameBut hs hcc⟩
    · obtain ⟨e, n, ne, nf, d⟩ := I.pin p hp
      refine ⟨(hs.2 p.1 ?_).trans e, n, ne, nf, d⟩
      intro q
      rw [q, hoc] at e
      have q' : oc = p.2 := Option.some.inj e
      exact d w' (by rw [<- q']; exact hocd)
theorem store_ok {M : Model} {A : Around} {E : Value -> Shared -> Prop} {i : Nat} {x : Str} {v : V} {u : Value} {Q : Unit -> Shared -> Prop} (I : Inv X pins σ H s) (hN : X.N.Nodup) (hi : X.N[i]? = some x) (hx : Loc X.env.scope x) (r : RelV v u)
    (h : ∀ s', Inv X pins (σ.set i (some v)) H s' -> Q () s') (hf : X.fn x = true \/ X.env.scope.names.lookup x = some .local := by first | exact .inl rfl | exact .inr rfl | assumption) : wpAny M A (storeName X.env x u) Q E s :=
  store_ok2 I hN hi hx r (fun s' I' _ => h s' I') hf
theorem Inv.call' {s' : Shared} {ch : List Addr} (I : Inv X pins σ H s) (ho : s'.os = s.os) (u : Un (frs X.stack) ch H H' s.heap s'.heap) (hok : HOk X.prog X.w H' s'.heap) (hg : AllBare s'.gens)
    (hch : ∀ b ∈ ch, (b ∈ X.ex \/ X.s₀.heap.objs.size <= b) /\ b ≠ X.env.locals /\ (∀ x c, X.env.cells.lookup x = some c -> c ≠ b) /\ ∀ p ∈ X.pn ++ pins, p.1 ≠ b) : Inv X pins σ H' s' := by
  obtain ⟨h', g', d', t', o'⟩ := s'
  have e : o' = s.os := ho
  subst e
  exact I.call (g' := g') (t' := t') (d' := d') u hok hg hch
end
abbrev XK := Value -> Option Addr -> Hp -> Prop
abbrev St := List (Option V)
abbrev VK := V -> Hp -> Prop
abbrev TE := St -> Hp -> VK -> Prop
abbrev TT := St -> Hp -> (Bool -> Hp -> Prop) -> Prop
abbrev TA := St -> Hp -> (List V -> Hp -> Prop) -> Prop
structure Ends where
  nx : St -> Hp -> Prop
  rt : VK
  bk : St -> Hp -> Prop := fun _ _ => False
  ct : St -> Hp -> Prop := fun _ _ => False
abbrev TS := Ends -> St -> Hp -> Prop
def EP (X : Cx) (pins : List (Addr × Obj)) (σ : St) (Q : VK) (u : Value) (s' : Shared) : Prop := ∃ v H', Inv X pins σ H' s' /\ RelV v u /\ Q v H'
def TP (X : Cx) (pins : List (Addr × Obj)) (σ : St) (Q : Bool -> Hp -> Prop) (b : Bool) (s' : Shared) : Prop := ∃ H', Inv X pins σ H' s' /\ Q b H'
def AP (X : Cx) (pins : List (Addr × Obj)) (σ : St) (Q : List V -> Hp -> Prop) (us : List Value) (s' : Shared) : Prop := ∃ vs H', Inv X pins σ H' s' /\ Vals vs us /\ Q vs H'
def SP (X : Cx) (pins : List (Addr × Obj)) (D : Ends) (f : Flow) (s' : Shared) : Prop :=
  match f with
  | .next => ∃ σ' H', Inv X pins σ' H' s' /\ D.nx σ' H'
  | .brk => ∃ σ' H', Inv X pins σ' H' s' /\ D.bk σ' H'
  | .cont => ∃ σ' H', Inv X pins σ' H' s' /\ D.ct σ' H'
  | .ret u => ∃ v σ' H', Inv X pins σ' H' s' /\ RelV v u /\ D.rt v H'
def PE (X : Cx) (e : Expr) (t : TE) : Prop :=
  ∀ (pins : List (Addr × Obj)) (s : Shared) (σ : St) (H : Hp) (Q : VK), Inv X pins σ H s -> t σ H Q -> wpAny (model X.prog X.w) X.A (eval e X.env) (EP X pins σ Q) X.xe s
def PT (X : Cx) (e : Expr) (t : TT) : Prop :=
  ∀ (pins : List (Addr × Obj)) (s : Shared) (σ : St) (H : Hp) (Q : Bool -> Hp -> Prop), Inv X pins σ H s -> t σ H Q -> wpAny (model X.prog X.w) X.A (isTrue e X.env (eval e X.env)) (TP X pins σ Q) X.xe s
def PW (X : Cx) (e : Expr) (t : TT) : Prop :=
  ∀ (whole : Sem Value) (pins : List (Addr × Obj)) (s : Shared) (σ : St) (H : Hp) (Q : Bool -> Hp -> Prop), Inv X pins σ H s -> t σ H Q -> wpAny (model X.prog X.w) X.A (isTrue e X.env whole) (TP X pins σ Q) X.xe s
theorem PW.pt {X : Cx} {e : Expr} {t : TT} (h : PW X e t) : PT X e t := h _
def PA (X : Cx) (es : List Expr) (t : TA) : Prop :=
  ∀ (pos : Pos) (pins : List (Addr × Obj)) (s : Shared) (σ : St) (H : Hp) (Q : List V -> Hp -> Prop), Inv X pins σ H s -> t σ H Q -> wpAny (model X.prog X.w) X.A (spliced (backTo pos (starEach es X.env))) (AP X pins σ Q) X.xe s
def PS (X : Cx) (st : Stmt) (t : TS) : Prop :=
  ∀ (pins : List (Addr × Obj)) (s : Shared) (σ : St) (H : Hp) (D : Ends), Inv X pins σ H s -> t D σ H -> wpAny (model X.prog X.w) X.A (exec st X.env) (SP X pins D) X.xe s
def PSs (X : Cx) (st : List Stmt) (t : TS) : Prop :=
  ∀ (pins : List (Addr × Obj)) (s : Shared) (σ : St) (H : Hp) (D : Ends), Inv X pins σ H s -> t D σ H -> wpAny (model X.prog X.w) X.A (execs st X.env) (SP X pins D) X.xe s
theorem thn {α : Type} {t : Sem α} {Q Q' : α -> Shared -> Prop} {M : Model} {A : Around} {E : Value -> Shared -> Prop} {s : Shared} (h : wpAny M A t Q E s) (hQ : ∀ a s, Q a s -> Q' a s) : wpAny M A t Q' E s := wpAny_mono h hQ fun _ _ x => x
section
variable {X : Cx}
def tVar (i : Nat) : TE := fun σ H Q => ∃ v, σ[i]? = some (some v) /\ Q v H
def tC (v : V) : TE := fun _ H Q => Q v H
theorem pe_var {i : Nat} {x : Str} {pos : Pos} (hN : X.N[i]? = some x) (hv : Vis X.env.scope x) (hd : (x == ("__debug__" : Str)) = false := by decide) (hcd : (x == ("__classdict__" : Str)) = false := by decide) : PE X (.Name x pos) (tVar i) := by
  intro pins s σ H Q I h
  obtain ⟨v, e, h⟩ := h
  obtain ⟨m, hn, hl⟩ := I.loc
  obtain ⟨u, r, l⟩ := hl i x v hN e hv
  have fin : EP X pins σ Q u s := ⟨v, H, I, r, h⟩
  rcases l with ⟨hk, hm⟩ | ⟨hk, c, hc, hcell⟩
  · exact wpAny_Name (wpAny_loadName_local I.ok.kind hk hn hm fin) hd
  · rcases hk with hk | hk
    · exact wpAny_Name (wpAny_loadName_cell I.ok.kind hk hc hcell fin) hd
    · exact wpAny_Name (wpAny_loadName_free I.ok.kind hk hc hcell fin hcd) hd
theorem pe_int {i j pos} : PE X (.Constant (.int i) j pos) (tC (.int i)) := fun _ _ _ H _ I h => wpAny_Constant_int ⟨.int i, H, I.tok _, ⟨_, rfl⟩, h⟩
theorem pe_bl {b j pos} : PE X (.Constant (.bool b) j pos) (tC (.bl b)) := fun _ _ _ H _ I h => Constant_bool ⟨.bl b, H, I, rfl, h⟩
theorem pe_non {j pos} : PE X (.Constant .none j pos) (tC .non) := fun _ _ _ H _ I h => Constant_none ⟨.non, H, I, rfl, h⟩
theorem pe_str {x j pos} : PE X (.Constant (.str x) j pos) (tC (.str x)) := fun _ _ _ H _ I h => Calls.Constant_str ⟨.str x, H, I.tok _, ⟨_, rfl⟩, h⟩
def Gl (X : Cx) (x : Str) : Prop := X.env.kindOf x = some .globalImplicit
theorem ld_glob {E : Value -> Shared -> Prop} {pins : List (Addr × Obj)} {s : Shared} {σ : St} {H : Hp} {x : Str} {u : Value} {pos : Pos} {Q : Value -> Shared -> Prop} (I : Inv X pins σ H s) (hg : Gl X x) (hm : X.mg x = some u) (h : Q u s)
    (hd : (x == ("__debug__" : Str)) = false := by decide) : wpAny (model X.prog X.w) X.A (eval (.Name x pos) X.env) Q E s :=
  Calls.Name_function_global I.ok.kind hg (Calls.loadGlobal_global (by rw [I.ok.glob]; exact I.mod.glob.keeps I.bk) hm h) hd
theorem ld_blt {E : Value -> Shared -> Prop} {pins : List (Addr × Obj)} {s : Shared} {σ : St} {H : Hp} {x : Str} {u : Value} {pos : Pos} {Q : Value -> Shared -> Prop} (I : Inv X pins σ H s) (hg : Gl X x) (hm : X.mg x = none) (hv : bootBuiltins x = some u) (h : Q u s)
    (hn : x ≠ "__name__" := by decide) (hd : (x == ("__debug__" : Str)) = false := by decide) : wpAny (model X.prog X.w) X.A (eval (.Name x pos) X.env) Q E s := by
  obtain ⟨mb, h1, h2⟩ := I.mod.blt
  exact Calls.Name_function_global I.ok.kind hg (Calls.loadGlobal_builtin (by rw [I.ok.glob]; exact I.mod.glob.keeps I.bk) hm (by rw [I.ok.blt]; exact h1.keeps I.bk) ((h2 x hn).trans hv) h) hd
theorem pe_glob {x : Str} {v : V} {u : Value} {pos : Pos} (hg : Gl X x) (hm : X.mg x = some u) (r : RelV v u) (hd : (x == ("__debug__" : Str)) = false := by decide) : PE X (.Name x pos) (tC v) :=
  fun _ _ _ H _ I h => ld_glob I hg hm ⟨v, H, I, r, h⟩ hd
theorem pe_bltn {x : Str} {v : V} {u : Value} {pos : Pos} (hg : Gl X x) (hm : X.mg x = none) (hv : bootBuiltins x = some u) (r : RelV v u) (hn : x ≠ "__name__" := by decide) (hd : (x == ("__debug__" : Str)) = false := by decide) : PE X (.Name x pos) (tC v) :=
  fun _ _ _ H _ I h => ld_blt I hg hm hv ⟨v, H, I, r, h⟩ hn hd
variable {a b : Expr} {ta tb : TE} {pos : Pos}
def tB (t : TE) : TT := fun σ H Q => t σ H fun x H1 => ∃ c, x = .bl c /\ Q c H1
theorem pt_val {e : Expr} {t : TE} (h : PE X e t) (he : ∀ whole, isTrue e X.env whole = (do let v <- whole; standAt e.pos; holding [v] (truthy v)) := by intro _; rfl) : PT X e (tB t) := by
  intro pins s σ H Q I hw
  refine isTrue_plain (thn (h pins s σ H _ I hw) fun v s1 ⟨x, H1, I1, r1, q1⟩ => ?_) (he _)
  obtain ⟨d, rfl, q⟩ := q1
  cases r1
  exact wpAny_truthy_bool ⟨H1, I1, q⟩
variable {tA tB' : TT} {rest : List Expr}
def tAnd (t u : TT) : TT := fun σ H Q => t σ H fun c H1 => if c = true then u σ H1 Q else Q false H1
def tOr (t u : TT) : TT := fun σ H Q => t σ H fun c H1 => if c = true then Q true H1 else u σ H1 Q
def tNot (t : TT) : TT := fun σ H Q => t σ H fun c H1 => Q (!c) H1
theorem pw_and1 (ha : PT X a tA) : PW X (.BoolOp .And [a] pos) tA := by
  intro wh pins s σ H Q I h
  refine isTrue_and (thn (ha pins s σ H Q I h) fun c s1 e => ?_)
  cases c with
  | true => exact isTrue_and_nil e
  | false => exact e
theorem pw_or1 (ha : PT X a tA) : PW X (.BoolOp .Or [a] pos) tA := by
  intro wh pins s σ H Q I h
  refine isTrue_or (thn (ha pins s σ H Q I h) fun c s1 e => ?_)
  cases c with
  | false => exact isTrue_or_nil e
  | true => exact e
theorem pw_and (ha : PT X a tA) (hb : PW X (.BoolOp .And (b :: rest) pos) tB') : PW X (.BoolOp .And (a :: b :: rest) pos) (tAnd tA tB') := by
  intro wh pins s σ H Q I h
  refine isTrue_and (thn (ha pins s σ H _ I h) fun c s1 ⟨H1, I1, q1⟩ => ?_)
  cases c with
  | true => exact hb wh pins s1 σ H1 Q I1 q1
  | false => exact ⟨H1, I1, q1⟩
theorem pw_or (ha : PT X a tA) (hb : PW X (.BoolOp .Or (b :: rest) pos) tB') : PW X (.BoolOp .Or (a :: b :: rest) pos) (tOr tA tB') := by
  intro wh pins s σ H Q I h
  refine isTrue_or (thn (ha pins s σ H _ I h) fun c s1 ⟨H1, I1, q1⟩ => ?_)
  cases c with
  | true => exact ⟨H1, I1, q1⟩
  | false => exact hb wh pins s1 σ H1 Q I1 q1
theorem pt_not (ha : PT X a tA) : PT X (.UnaryOp .Not a pos) (tNot tA) := by
  intro pins s σ H Q I h
  exact isTrue_not (ha pins s σ H (fun c H1 => Q (!c) H1) I h)
def tAndV (ta tb : TE) : TE := fun σ H Q => ta σ H fun x H1 => ∃ c, x = .bl c /\ if c = true then tb σ H1 Q else Q (.bl false) H1
def tNotV (ta : TE) : TE := fun σ H Q => ta σ H fun x H1 => ∃ c, x = .bl c /\ Q (.bl (!c)) H1
theorem pe_one {op} {t : TE} (h : PE X a t) : PE X (.BoolOp op [a] pos) t := fun pins s σ H Q I hw => BoolOp_one (h pins s σ H Q I hw)
theorem pe_and (ha : PE X a ta) (hb : PE X (.BoolOp .And (b :: rest) pos) tb) : PE X (.BoolOp .And (a :: b :: rest) pos) (tAndV ta tb) := by
  intro pins s σ H Q I h
  refine BoolOp_and (thn (ha pins s σ H _ I h) fun v s1 ⟨x, H1, I1, r1, q1⟩ => ?_)
  obtain ⟨c, rfl, q1⟩ := q1
  cases r1
  refine wpAny_truthy_bool ?_
  cases c with
  | true => exact hb pins s1 σ H1 Q I1 q1
  | false => exact ⟨.bl false, H1, I1, rfl, q1⟩
theorem pe_not (ha : PE X a ta) : PE X (.UnaryOp .Not a pos) (tNotV ta) := by
  intro pins s σ H Q I h
  refine UnaryOp_ (thn (ha pins s σ H _ I h) fun v s1 ⟨x, H1, I1, r1, q1⟩ => ?_)
  obtain ⟨c, rfl, q1⟩ := q1
  cases r1
  exact not_of (wpAny_truthy_bool ⟨.bl (!c), H1, I1, rfl, q1⟩)
end
def SqL (K : PySem.W.Frag) (H : Hp) (a : Addr) (xs : List V) : Prop :=
  Rd H a (.lst xs) \/
    ∃ (o : Obj) (its : Array Value) (n : Nat), K.lookup a = some o /\ o.cls = .type "list" /\ o.dict = none /\ o.data = .seq its n /\ its.size <= sizeLine /\ Vals xs its.toList
def SqT (K : PySem.W.Frag) (H : Hp) (a : Addr) (xs : List V) : Prop :=
  Rd H a (.tup xs) \/
    ∃ (o : Obj) (its : Array Value) (n : Nat), K.lookup a = some o /\ o.cls = .type "tuple" /\ o.data = .seq its n /\ its.size <= sizeLine /\ Vals xs its.toList
def absV : Value -> Option V
  | .none => some .non
  | .bool b => some (.bl b)
  | .int i _ => some (.int i)
  | .str x _ => some (.str x)
  | .bytes b _ => some (.byt b)
  | .float b _ => some (.flt b)
  | .ref a => some (.ref a)
  | .type n => some (.ty n)
  | _ => none
theorem RelV.abs {x : V} {u : Value} (r : RelV x u) : absV u = some x := by
  cases x with
  | non => cases r; rfl
  | bl _ => cases r; rfl
  | int _ => obtain ⟨t, rfl⟩ := r; rfl
  | str _ => obtain ⟨t, rfl⟩ := r; rfl
  | byt _ => obtain ⟨t, rfl⟩ := r; rfl
  | flt _ => obtain ⟨t, rfl⟩ := r; rfl
  | ref _ => cases r; rfl
  | ty _ => cases r; rfl
theorem RelV.inj {x y : V} {u : Value} (r : RelV x u) (q : RelV y u) : x = y := Option.some.inj (r.abs.symm.trans q.abs)
theorem Vals.inj : ∀ {xs ys : List V} {us : List Value}, Vals xs us -> Vals ys us -> xs = ys
  | _, _, _, .nil, .nil => rfl
  | _, _, _, .cons r t, .cons r' t' => by rw [r.inj r', Vals.inj t t']
section
variable {X : Cx} {pins : List (Addr × Obj)} {σ : St} {H : Hp} {s : Shared} {a : Addr} {xs ys : List V}
theorem SqL.of {K : PySem.W.Frag} (h : H a = some (.lst xs)) : SqL K H a xs := .inl (.inl h)
theorem SqT.of {K : PySem.W.Frag} (h : H a = some (.tup xs)) : SqT K H a xs := .inl (.inl h)
theorem Inv.list (I : Inv X pins σ H s) (h : SqL X.K H a xs) : ∃ its : List Value, Vals xs its /\ PlainL s.heap a its.toArray /\ xs.length <= sizeLine := by
  rcases h with h | ⟨o, its, n, hk, hc, hd, hs, hz, r⟩
  · obtain ⟨z, its, n, r, e⟩ := h.ok I.hok
    exact ⟨its, r, ⟨_, n, e, rfl, rfl, rfl⟩, z⟩
  · refine ⟨its.toList, r, ⟨o, n, I.kIn a o hk, hc, hd, by simpa using hs⟩, ?_⟩
    have e := r.length
    simp only [Array.length_toList] at e
    lia
theorem Inv.tuple (I : Inv X pins σ H s) (h : SqT X.K H a xs) : ∃ its : List Value, Vals xs its /\ IsTup s.heap a its.toArray /\ xs.length <= sizeLine := by
  rcases h with h | ⟨o, its, n, hk, hc, hs, hz, r⟩
  · obtain ⟨z, its, r, p⟩ := h.ok I.hok
    exact ⟨its, r, p, z⟩
  · refine ⟨its.toList, r, ⟨o, I.kIn a o hk, hc, n, by simpa using hs⟩, ?_⟩
    have e := r.length
    simp only [Array.length_toList] at e
    lia
theorem Inv.list_inj (I : Inv X pins σ H s) (h : SqL X.K H a xs) (h' : SqL X.K H a ys) : xs = ys := by
  obtain ⟨its, r, ⟨o, n, e, _, _, d⟩, _⟩ := I.list h
  obtain ⟨its', r', ⟨o', n', e', _, _, d'⟩, _⟩ := I.list h'
  rw [e] at e'; cases e'
  rw [d] at d'
  injection d' with d1 _
  have : its = its' := by simpa using congrArg Array.toList d1
  subst this
  exact r.inj r'
theorem Inv.tuple_inj (I : Inv X pins σ H s) (h : SqT X.K H a xs) (h' : SqT X.K H a ys) : xs = ys := by
  obtain ⟨its, r, ⟨o, e, _, n, d⟩, _⟩ := I.tuple h
  obtain ⟨its', r', ⟨o', e', _, n', d'⟩, _⟩ := I.tuple h'
  rw [e] at e'; cases e'
  rw [d] at d'
  injection d' with d1 _
  have : its = its' := by simpa using congrArg Array.toList d1
  subst this
  exact r.inj r'
end
abbrev Cx.wish (X : Cx) (E : Value -> Shared -> Prop) : Cx := { X with xe := E }
abbrev Cx.nox (X : Cx) : Cx := X.wish fun _ _ => False
theorem Cx.Ok.wish {X : Cx} (ok : X.Ok) (E : Value -> Shared -> Prop) : (X.wish E).Ok :=
  ⟨ok.mod, ok.kind, ok.glob, ok.blt, ok.above, ok.inj, ok.has, ok.cab, ok.hd, ok.frames, ok.stk, ok.exf, ok.bs, ok.bsz, ok.noex, ok.exfs, ok.funs, ok.frf⟩
theorem Cx.Ok.unwish {X : Cx} {E : Value -> Shared -> Prop} (ok : (X.wish E).Ok) : X.Ok :=
  ⟨ok.mod, ok.kind, ok.glob, ok.blt, ok.above, ok.inj, ok.has, ok.cab, ok.hd, ok.frames, ok.stk, ok.exf, ok.bs, ok.bsz, ok.noex, ok.exfs, ok.funs, ok.frf⟩
section
variable {X : Cx} {pins : List (Addr × Obj)} {σ : St} {H : Hp} {s : Shared} {E : Value -> Shared -> Prop}
theorem Inv.wish (I : Inv X pins σ H s) (E : Value -> Shared -> Prop) : Inv (X.wish E) pins σ H s := ⟨I.ok.wish E, I.os, I.bare, I.base, I.loc, I.cell, I.free, I.freeC, I.pin, I.hok, I.len⟩
theorem Inv.unwish (I : Inv (X.wish E) pins σ H s) : Inv X pins σ H s := ⟨I.ok.unwish, I.os, I.bare, I.base, I.loc, I.cell, I.free, I.freeC, I.pin, I.hok, I.len⟩
theorem SP.unwish {D : Ends} {f : Flow} {s' : Shared} (h : SP (X.wish E) pins D f s') : SP X pins D f s' := by
  cases f with
  | next => obtain ⟨σ', H', I, q⟩ := h; exact ⟨σ', H', I.unwish, q⟩
  | brk => obtain ⟨σ', H', I, q⟩ := h; exact ⟨σ', H', I.unwish, q⟩
  | cont => obtain ⟨σ', H', I, q⟩ := h; exact ⟨σ', H', I.unwish, q⟩
  | ret u => obtain ⟨v, σ', H', I, r, q⟩ := h; exact ⟨v, σ', H', I.unwish, r, q⟩
theorem PSs.nox {st : List Stmt} {t : TS} (h : PSs X.nox st t) : PSs X st t := fun pins s σ H D I hw =>
  wpAny_mono (h pins s σ H D (I.wish _) hw) (fun _ _ q => q.unwish) fun _ _ z => False.elim z
end
section
variable {X : Cx} {st : Stmt} {rest : List Stmt} {t u : TS} {e : Expr} {te : TE} {pos : Pos}
def tNext : TS := fun D σ H => D.nx σ H
def tSeq (t u : TS) : TS := fun D σ H => t { D with nx := u D } σ H
theorem pss_nil : PSs X [] tNext := fun _ _ σ H _ I h => wpAny_execs_nil ⟨σ, H, I, h⟩
theorem pss_cons (h1 : PS X st t) (h2 : PSs X rest u) : PSs X (st :: rest) (tSeq t u) := by
  intro pins s σ H D I h
  refine wpAny_execs_cons (thn (h1 pins s σ H { D with nx := u D } I h) fun f s1 q => ?_)
  cases f with
  | next =>
    obtain ⟨σ', H', I', q⟩ := q
    exact h2 pins s1 σ' H' D I' q
  | ret v => exact q
  | brk => exact q
  | cont => exact q
theorem pss_one (h1 : PS X st t) : PSs X [st] t := by
  intro pins s σ H D I h
  refine wpAny_execs_cons (thn (h1 pins s σ H D I h) fun f s1 q => ?_)
  cases f with
  | next => exact wpAny_execs_nil q
  | ret v => exact q
  | brk => exact q
  | cont => exact q
theorem Inv.quiet {pins : List (Addr × Obj)} {σ : St} {H : Hp} {s : Shared} (I : Inv X pins σ H s) : interactive X.env = false := by simp [interactive, I.ok.kind]
def tDrop (te : TE) : TS := fun D σ H => te σ H fun _ H1 => D.nx σ H1
theorem ps_expr (he : PE X e te) (hs : swapsWith e none pos.line X.env = pure false := by rfl) : PS X (.Expr e pos) (tDrop te) := by
  intro pins s σ H D I h
  exact wpAny_Expr_any (thn (he pins s σ H _ I h) fun v s1 ⟨x, H1, I1, r1, q1⟩ => ⟨σ, H1, I1, q1⟩) I.quiet hs
def tRet (te : TE) : TS := fun D σ H => te σ H D.rt
theorem ps_ret (he : PE X e te) : PS X (.Return (some e) pos) (tRet te) := by
  intro pins s σ H D I h
  exact wpAny_Return_some (thn (he pins s σ H _ I h) fun v s1 ⟨x, H1, I1, r1, q1⟩ => ⟨x, σ, H1, I1, r1, q1⟩)
def tIfS (c : TT) (t u : TS) : TS := fun D σ H => c σ H fun b H1 => if b = true then t D σ H1 else u D σ H1
theorem ps_if {c : Expr} {a b : List Stmt} {tc : TT} (hc : PT X c tc) (ha : PSs X a t) (hb : PSs X b u) : PS X (.If c a b pos) (tIfS tc t u) := by
  intro pins s σ H D I h
  refine wpAny_If (thn (hc pins s σ H _ I h) fun d s1 ⟨H1, I1, q1⟩ => ?_)
  cases d with
  | true => exact ha pins s1 σ H1 D I1 q1
  | false => exact hb pins s1 σ H1 D I1 q1
def tNever : TS := fun _ _ _ => False
theorem pss_never {sts : List Stmt} : PSs X sts tNever := fun _ _ _ _ _ _ h => h.elim
end
abbrev TG := V -> St -> Hp -> (St -> Hp -> Prop) -> Prop
abbrev TGs := List V -> St -> Hp -> (St -> Hp -> Prop) -> Prop
def PG (X : Cx) (target : Expr) (t : TG) : Prop :=
  ∀ (pins : List (Addr × Obj)) (s : Shared) (σ : St) (H : Hp) (v : V) (u : Value) (Q : St -> Hp -> Prop), Inv X pins σ H s -> RelV v u -> t v σ H Q ->
    wpAny (model X.prog X.w) X.A (assign target X.env u) (fun _ s' => ∃ σ' H', Inv X pins σ' H' s' /\ Q σ' H') X.xe s
def PGs (X : Cx) (ts : List Expr) (t : TGs) : Prop :=
  ∀ (pins : List (Addr × Obj)) (s : Shared) (σ : St) (H : Hp) (vs : List V) (us : List Value) (Q : St -> Hp -> Prop), Inv X pins σ H s -> Vals vs us -> t vs σ H Q ->
    wpAny (model X.prog X.w) X.A (assignInOrder ((assignEach ts X.env).map (·.2)) us) (fun _ s' => ∃ σ' H', Inv X pins σ' H' s' /\ Q σ' H') X.xe s
abbrev TSet := V -> V -> V -> Hp -> (Hp -> Prop) -> Prop
def PSet (X : Cx) (t : TSet) : Prop :=
  ∀ (pins : List (Addr × Obj)) (s : Shared) (σ : St) (H : Hp) (o i v : V) (ov iv u : Value) (Q : Hp -> Prop), Inv X pins σ H s -> RelV o ov -> RelV i iv -> RelV v u -> t o i v H Q ->
    wpAny (model X.prog X.w) X.A (setItem ov iv u) (fun _ s' => ∃ H', Inv X pins σ H' s' /\ Q H') X.xe s
section
variable {X : Cx} {pos : Pos}
def gName (i : Nat) : TG := fun v σ H Q => Q (σ.set i (some v)) H
theorem pg_name {i : Nat} {x : Str} (hN : X.N.Nodup) (hi : X.N[i]? = some x) (hx : Loc X.env.scope x) (hf : X.fn x = true \/ X.env.scope.names.lookup x = some .local := by first | exact .inl rfl | exact .inr rfl | assumption) : PG X (.Name x pos) (gName i) := by
  intro pins s σ H v u Q I r h
  exact wpAny_assign_Name (store_ok I hN hi hx r (fun s' I' => ⟨_, H, I', h⟩) hf)
def gNil : TGs := fun vs σ H Q => vs = [] /\ Q σ H
def gCons (t : TG) (u : TGs) : TGs := fun vs σ H Q => ∃ v r, vs = v :: r /\ t v σ H fun σ' H' => u r σ' H' Q
theorem pgs_nil : PGs X [] gNil := by
  intro pins s σ H vs us Q I r h
  obtain ⟨e, h⟩ := h
  subst e
  cases r
  exact assignInOrder_nil ⟨σ, H, I, h⟩
theorem pgs_cons {e : Expr} {es : List Expr} {t : TG} {u : TGs} (h1 : PG X e t) (h2 : PGs X es u)
    (hs : (assignEach (e :: es) X.env).map (·.2) = assign e X.env :: (assignEach es X.env).map (·.2) := by rfl) : PGs X (e :: es) (gCons t u) := by
  intro pins s σ H vs us Q I r h
  obtain ⟨v, vr, e1, h⟩ := h
  subst e1
  cases r with
  | cons r rr =>
    rw [hs]
    refine assignInOrder_cons (thn (h1 pins s σ H _ _ _ I r h) fun _ s1 ⟨σ1, H1, I1, q1⟩ => ?_)
    exact h2 pins s1 σ1 H1 _ _ Q I1 rr q1
def gTup (K : PySem.W.Frag) (n : Nat) (t : TGs) : TG := fun v σ H Q => ∃ a xs, v = .ref a /\ SqT K H a xs /\ xs.length = n /\ t xs σ H Q
theorem pg_tup {es : List Expr} {k : Nat} {t : TGs} {n : Nat} (hc : X.calm = true) (h : PGs X es t)
    (hn : (assignEach es X.env).length = n := by rfl) (hst : (assignEach es X.env).findIdx? (·.1) = none := by rfl) : PG X (.Tuple es k pos) (gTup X.K n t) := by
  intro pins s σ H v u Q I r hw
  obtain ⟨a, xs, e1, hq, hl, hw⟩ := hw
  subst e1
  cases r
  obtain ⟨its, rv, ht, hz⟩ := I.tuple hq
  refine assign_Tuple_tuple (I.ok.hd hc) ht (by simp [hn, <- hl, rv.length]) hst fun h' hx => ?_
  have I1 : Inv X pins σ H { s with heap := h' } := I.kept (t' := s.toks) fun b o e => hx b o (Nat.ne_of_lt (Heap.lt_size e)) e
  exact h pins _ σ H xs _ Q I1 (by simpa using rv) hw
def gSub (to ti : TE) (t : TSet) : TG := fun v σ H Q => to σ H fun o H1 => ti σ H1 fun i H2 => t o i v H2 fun H3 => Q σ H3
theorem pg_sub {o i : Expr} {to ti : TE} {t : TSet} (ho : PE X o to) (hi : PE X i ti) (hs : PSet X t)
    (ha : ∀ v, assign (.Subscript o i pos) X.env v = (do
      let ov <- holding [v] (eval o X.env)
      let iv <- holding [v, ov] (eval i X.env)
      standAt pos
      holding [v, ov, iv] (setItem ov iv v)
      release [v, ov, iv] []) := by intro _; rfl) : PG X (.Subscript o i pos) (gSub to ti t) := by
  intro pins s σ H v u Q I r h
  rw [ha]
  refine wpAny_bind (wpAny_holding (thn (ho pins s σ H _ I h) fun ov s1 ⟨x, H1, I1, r1, q1⟩ => ?_))
  refine wpAny_bind (wpAny_holding (thn (hi pins s1 σ H1 _ I1 q1) fun iv s2 ⟨y, H2, I2, r2, q2⟩ => ?_))
  refine wpAny_bind (wpAny_standAt (wpAny_bind (wpAny_holding (thn (hs pins s2 σ H2 x y v ov iv u _ I2 r1 r2 r q2) fun _ s3 ⟨H3, I3, q3⟩ => ?_))))
  exact wpAny_release ⟨σ, H3, I3, q3⟩
def tAsg (te : TE) (g : TG) : TS := fun D σ H => te σ H fun x H1 => g x σ H1 D.nx
theorem ps_asg {tg e : Expr} {te : TE} {g : TG} (he : PE X e te) (hg : PG X tg g) (hs : swapsWithSole [tg] e pos.line X.env = pure false := by rfl) (hw : swappedStores [tg] e X.env = pure none := by rfl)
    (h1 : (assignEach [tg] X.env).map (·.2) = [assign tg X.env] := by rfl) : PS X (.Assign [tg] e pos) (tAsg te g) := by
  intro pins s σ H D I h
  refine wpAny_Assign_stores (thn (he pins s σ H _ I h) fun v s1 ⟨x, H1, I1, r1, q1⟩ => ?_) hs hw
  rw [h1]
  exact thn (hg pins s1 σ H1 x v _ I1 r1 q1) fun _ s2 q => q
theorem ps_set {i : Nat} {x : Str} {e : Expr} {te : TE} {pos' : Pos} (hN : X.N.Nodup) (hi : X.N[i]? = some x) (hx : Loc X.env.scope x) (he : PE X e te) (hs : swapsWith e (some (.Name x pos')) pos.line X.env = pure false := by rfl) (hf : X.fn x = true \/ X.env.scope.names.lookup x = some .local := by first | exact .inl rfl | exact .inr rfl | assumption) :
    PS X (.Assign [.Name x pos'] e pos) (tAsg te (gName i)) := by
  intro pins s σ H D I h
  refine wpAny_Assign_Name (thn (he pins s σ H _ I h) fun v s1 ⟨y, H1, I1, r1, q1⟩ => ?_) hs
  exact store_ok I1 hN hi hx r1 (fun s2 I2 => ⟨_, H1, I2, q1⟩) hf
end
structure It where
  go : Nat -> Hp -> Prop
  yld : Nat -> Hp -> V -> Hp -> Prop
  stop : Nat -> Hp -> Prop
def FpOk (X : Cx) (pins : List (Addr × Obj)) (H : Hp) (b : Addr) : Prop :=
  H b = none /\ b ≠ X.env.locals /\ b ∉ X.fs /\ (b ∈ X.ex \/ X.s₀.heap.objs.size <= b) /\ (∀ x c, X.env.cells.lookup x = some c -> c ≠ b) /\ ∀ p ∈ X.pn ++ pins, p.1 ≠ b
theorem Inv.fpOk {X : Cx} {pins : List (Addr × Obj)} {σ : St} {H H' : Hp} {s : Shared} {b : Addr} (I : Inv X pins σ H s) (hb : s.heap.objs.size <= b) (hn : H' b = none) : FpOk X pins H' b := by
  refine ⟨hn, Nat.ne_of_gt (Nat.lt_of_lt_of_le I.lt hb), I.nofs hb, .inr (Nat.le_trans I.sz hb), fun x c e z => ?_, fun p hp z => ?_⟩
  · obtain ⟨v, q⟩ := I.cell x c e
    exact absurd (Nat.lt_of_lt_of_le q.lt (by rw [z]; exact hb)) (Nat.lt_irrefl _)
  · exact absurd (Nat.lt_of_lt_of_le (Heap.lt_size (I.pin p hp).1) (by rw [z]; exact hb)) (Nat.lt_irrefl _)
structure Turn (P : Program) (w : World) (K : PySem.W.Frag) (tg : Expr) (J : It) (fp : List Addr) (it : Addr) (tn : Nat -> Heap -> Prop) : Prop where
  mem : it ∈ fp
  obj : ∀ i h, tn i h -> ∀ b ∈ fp, ∃ o, h.get? b = some o /\ ∀ v, o.data ≠ .cell v
  keep : ∀ i h h', tn i h -> (∀ b ∈ fp, ∀ o, h.get? b = some o -> h'.get? b = some o) -> tn i h'
  item : ∀ (X : Cx), X.prog = P -> X.w = w -> X.K = K -> X.calm = true -> ∀ (i : Nat) (pins : List (Addr × Obj)) (s : Shared) (σ : St) (H : Hp) (E : Value -> Shared -> Prop), Inv X pins σ H s -> (∀ b ∈ fp, FpOk X pins H b) -> tn i s.heap -> J.go i H ->
    wpAny (model P w) X.A (pyNext (.ref it)) (fun r s1 => ∃ u, r = some u /\
      wpAny (model P w) X.A (letOwnedTupleGo tg (.ref it) u) (fun _ s2 => ∃ x H', Inv X pins σ H' s2 /\ RelV x u /\ J.yld i H x H' /\ tn (i + 1) s2.heap /\ ∀ b ∈ fp, H' b = none) E s1) E s
  done : ∀ (X : Cx), X.prog = P -> X.w = w -> X.K = K -> X.calm = true -> ∀ (i : Nat) (pins : List (Addr × Obj)) (s : Shared) (σ : St) (H : Hp) (E : Value -> Shared -> Prop), Inv X pins σ H s -> (∀ b ∈ fp, FpOk X pins H b) -> tn i s.heap -> J.stop i H ->
    wpAny (model P w) X.A (pyNext (.ref it)) (fun r s1 => r = none /\ Inv X pins σ H s1) E s
  self : ∀ (A : Around) (i : Nat) (s : Shared) (Q : Value -> Shared -> Prop) (E : Value -> Shared -> Prop), tn i s.heap -> Q (.ref it) s -> wpAny (model P w) A (pyIter (.ref it)) Q E s
abbrev TI := St -> Hp -> (It -> Hp -> Prop) -> Prop
def PIE (X : Cx) (pins : List (Addr × Obj)) (σ : St) (tg : Expr) (R : It -> Hp -> Prop) (itv : Value) (s2 : Shared) : Prop :=
  ∃ (it : Addr) (fp : List Addr) (tn : Nat -> Heap -> Prop) (J : It) (H' : Hp), itv = .ref it /\ Inv X pins σ H' s2 /\ Turn X.prog X.w X.K tg J fp it tn /\ tn 0 s2.heap /\ (∀ b ∈ fp, FpOk X pins H' b) /\ R J H'
def PI (X : Cx) (tg iter : Expr) (wi : TI) : Prop :=
  ∀ (pins : List (Addr × Obj)) (s : Shared) (σ : St) (H : Hp) (R : It -> Hp -> Prop), Inv X pins σ H s -> wi σ H R ->
    wpAny (model X.prog X.w) X.A (eval iter X.env) (fun v s1 => wpAny (model X.prog X.w) X.A (pyIter v) (PIE X pins σ tg R) X.xe s1) X.xe s
theorem go_of {M : Model} {A : Around} {E : Value -> Shared -> Prop} {s : Shared} {tg : Expr} {it : Addr} {u : Value} {o : Obj} {n : String} {vs : Array Value} {Q : Unit -> Shared -> Prop} (ho : s.heap.get? it = some o) (hc : o.cls = .type n) (hd : o.data = .fields vs)
    (hn : ["enumerate", "zip", "dict_itemiterator", "dict_reverseitemiterator", "odict_iterator", "itertools.zip_longest", "itertools.pairwise"].contains n = false) (hQ : Q () s) : wpAny M A (letOwnedTupleGo tg (.ref it) u) Q E s := by
  unfold letOwnedTupleGo
  cases tg <;> first
    | exact wpAny_pure hQ
    | (cases u <;> first
        | exact wpAny_pure hQ
        | (refine wpAny_bind (wpAny_load ho ?_)
           rw [hc, hd]
           show wpAny M A (if (["enumerate", "zip", "dict_itemiterator", "dict_reverseitemiterator", "odict_iterator", "itertools.zip_longest", "itertools.pairwise"].contains n && vs[0]? == some (rawInt _)) = true then _ else _) Q E s
           rw [if_neg (by intro h; rw [hn, Bool.false_and] at h; cases h)]
           exact wpAny_pure hQ))
def Itl (K : PySem.W.Frag) (a : Addr) : It :=
  ⟨fun i H => ∃ xs x, SqL K H a xs /\ xs[i]? = some x, fun i H x H' => H' = H /\ ∀ xs, SqL K H a xs -> xs[i]? = some x, fun i H => ∃ xs, SqL K H a xs /\ xs.length <= i⟩
def Itt (K : PySem.W.Frag) (a : Addr) : It :=
  ⟨fun i H => ∃ xs x, SqT K H a xs /\ xs[i]? = some x, fun i H x H' => H' = H /\ ∀ xs, SqT K H a xs -> xs[i]? = some x, fun i H => ∃ xs, SqT K H a xs /\ xs.length <= i⟩
def Itr (lo : Int) (n : Nat) : It := ⟨fun i _ => i < n, fun i H x H' => H' = H /\ x = .int (lo + i), fun i _ => n <= i⟩
theorem turn_list {P : Program} {w : World} {K : PySem.W.Frag} {tg : Expr} (a it : Addr) : Turn P w K tg (Itl K a) [it] it (fun i h => h.IsListIter it a i) where
  mem := by simp
  obj := fun i h st b hb => by
    have e : b = it := by simpa using hb
    subst e
    obtain ⟨o, e, c, d⟩ := st
    exact ⟨o, e, fun v z => by rw [d] at z; cases z⟩
  keep := fun i h h' st k => st.at fun o e => k it (by simp) o e
  item := by
    intro X hP hw hK hc i pins s σ H E I hf st hg
    subst hP hw hK
    obtain ⟨xs, x, hq, hx⟩ := hg
    obtain ⟨its, rv, p, hz⟩ := I.list hq
    obtain ⟨u, hu, ru⟩ := rv.get hx
    obtain ⟨f0, f1, f2, f3, f4, f5⟩ := hf it (by simp)
    refine wpAny_pyNext_list_item st p.isList (x := u) (by simpa using hu) fun h' st' sb => ?_
    have I1 : Inv X pins σ H { s with heap := h' } := I.turned (t' := s.toks) (fun b o hb e => (sb.2 b hb).trans e) f0 f1 f3 f4 f5
    obtain ⟨o, e, c, d⟩ := id st'
    exact ⟨u, rfl, go_of (s := { s with heap := h' }) e c d (by decide) ⟨x, H, I1, ru, ⟨rfl, fun ys hy => by rw [I.list_inj hy hq]; exact hx⟩, st', fun b hb => (hf b hb).1⟩⟩
  done := by
    intro X hP hw hK hc i pins s σ H E I hf st hg
    subst hP hw hK
    obtain ⟨xs, hq, hx⟩ := hg
    obtain ⟨its, rv, p, hz⟩ := I.list hq
    obtain ⟨f0, f1, f2, f3, f4, f5⟩ := hf it (by simp)
    have hl := rv.length
    exact wpAny_pyNext_list_end (I.ok.hd hc) st p.isList (by simp; lia) fun h' eb => ⟨rfl, I.turned (t' := s.toks) (fun b o hb e => eb b o hb e) f0 f1 f3 f4 f5⟩
  self := fun _ _ _ _ _ st h => wpAny_pyIter_listiter st h
theorem turn_tuple {P : Program} {w : World} {K : PySem.W.Frag} {tg : Expr} (a it : Addr) : Turn P w K tg (Itt K a) [it] it (fun i h => h.IsTupleIter it a i) where
  mem := by simp
  obj := fun i h st b hb => by
    have e : b = it := by simpa using hb
    subst e
    obtain ⟨o, e, c, d⟩ := st
    exact ⟨o, e, fun v z => by rw [d] at z; cases z⟩
  keep := fun i h h' st k => st.at fun o e => k it (by simp) o e
  item := by
    intro X hP hw hK hc i pins s σ H E I hf st hg
    subst hP hw hK
    obtain ⟨xs, x, hq, hx⟩ := hg
    obtain ⟨its, rv, p, hz⟩ := I.tuple hq
    obtain ⟨u, hu, ru⟩ := rv.get hx
    obtain ⟨f0, f1, f2, f3, f4, f5⟩ := hf it (by simp)
    refine wpAny_pyNext_tuple_item st (show s.heap.IsTuple a its.toArray from p) (x := u) (by simpa using hu) fun h' st' sb => ?_
    have I1 : Inv X pins σ H { s with heap := h' } := I.turned (t' := s.toks) (fun b o hb e => (sb.2 b hb).trans e) f0 f1 f3 f4 f5
    obtain ⟨o, e, c, d⟩ := id st'
    exact ⟨u, rfl, go_of (s := { s with heap := h' }) e c d (by decide) ⟨x, H, I1, ru, ⟨rfl, fun ys hy => by rw [I.tuple_inj hy hq]; exact hx⟩, st', fun b hb => (hf b hb).1⟩⟩
  done := by
    intro X hP hw hK hc i pins s σ H E I hf st hg
    subst hP hw hK
    obtain ⟨xs, hq, hx⟩ := hg
    obtain ⟨its, rv, p, hz⟩ := I.tuple hq
    obtain ⟨f0, f1, f2, f3, f4, f5⟩ := hf it (by simp)
    have hl := rv.length
    exact wpAny_pyNext_tuple_end (I.ok.hd hc) st (show s.heap.IsTuple a its.toArray from p) (by simp; lia) fun h' eb => ⟨rfl, I.turned (t' := s.toks) (fun b o hb e => eb b o hb e) f0 f1 f3 f4 f5⟩
  self := fun _ _ _ _ _ st h => wpAny_pyIter_tupleiter st h
theorem turn_range {P : Program} {w : World} {K : PySem.W.Frag} {tg : Expr} (it : Addr) (lo : Int) (n : Nat) : Turn P w K tg (Itr lo n) [it] it (fun i h => IsRangeIter h it (lo + (i : Nat) * 1) ((n : Int) - (i : Nat)) 1) where
  mem := by simp
  obj := fun i h st b hb => by
    have e : b = it := by simpa using hb
    subst e
    exact ⟨_, st, fun v z => by
      have z' : Data.fields _ = Data.cell v := z
      cases z'⟩
  keep := fun i h h' st k => k it (by simp) _ st
  item := by
    intro X hP hw hK hc i pins s σ H E I hf st hg
    subst hP hw hK
    obtain ⟨f0, f1, f2, f3, f4, f5⟩ := hf it (by simp)
    have W := Walks.range (prog := X.prog) (w := X.w) (I.ok.hd hc) it lo 1 n
    refine W.item i s _ _ hg st fun v h' tk hv st' kk => ?_
    obtain ⟨t, rfl⟩ := hv
    have I1 : Inv X pins σ H { s with heap := h', toks := tk } := I.turned (fun b o hb e => kk b o (by simpa using hb) e) f0 f1 f3 f4 f5
    refine ⟨_, rfl, go_of (s := { s with heap := h', toks := tk }) (n := "range_iterator") st' rfl rfl (by decide) ⟨.int (lo + i), H, I1, ⟨t, ?_⟩, ⟨rfl, rfl⟩, st', fun b hb => (hf b hb).1⟩⟩
    rw [Int.mul_one]
  done := by
    intro X hP hw hK hc i pins s σ H E I hf st hg
    subst hP hw hK
    obtain ⟨f0, f1, f2, f3, f4, f5⟩ := hf it (by simp)
    exact wpAny_pyNext_range_end (I.ok.hd hc) st (by have : n <= i := hg; lia) fun h' eb => ⟨rfl, I.turned (t' := s.toks) (fun b o hb e => eb b o hb e) f0 f1 f3 f4 f5⟩
  self := fun _ _ _ _ _ st h => wpAny_pyIter_rangeiter st h
section
variable {X : Cx} {tg : Expr}
def iList (K : PySem.W.Frag) (tl : TE) : TI := fun σ H R => tl σ H fun x H1 => ∃ a, x = .ref a /\ (∃ xs, SqL K H1 a xs) /\ R (Itl K a) H1
def iTup (K : PySem.W.Frag) (tl : TE) : TI := fun σ H R => tl σ H fun x H1 => ∃ a, x = .ref a /\ (∃ xs, SqT K H1 a xs) /\ R (Itt K a) H1
theorem pi_list {l : Expr} {tl : TE} (hl : PE X l tl) : PI X tg l (iList X.K tl) := by
  intro pins s σ H R I h
  refine thn (hl pins s σ H _ I h) fun v s1 ⟨x, H1, I1, r1, q1⟩ => ?_
  obtain ⟨a, e, ⟨xs, hq⟩, q⟩ := q1
  subst e
  cases r1
  obtain ⟨its, rv, p, hz⟩ := I1.list hq
  refine wpAny_pyIter_list p.isList ?_
  refine ⟨s1.heap.objs.size, [s1.heap.objs.size], _, _, H1, rfl, I1.kept (t' := s1.toks) fun b o e => Heap.get?_push_of_some _ e, turn_list a _, ⟨_, Heap.get?_push_size _ rfl, rfl, rfl⟩, fun b hb => ?_, q⟩
  have e : b = s1.heap.objs.size := by simpa using hb
  subst e
  exact I1.fpOk (Nat.le_refl _) (I1.hok.fresh (Nat.le_refl _))
theorem pi_tup {l : Expr} {tl : TE} (hl : PE X l tl) : PI X tg l (iTup X.K tl) := by
  intro pins s σ H R I h
  refine thn (hl pins s σ H _ I h) fun v s1 ⟨x, H1, I1, r1, q1⟩ => ?_
  obtain ⟨a, e, ⟨xs, hq⟩, q⟩ := q1
  subst e
  cases r1
  obtain ⟨its, rv, p, hz⟩ := I1.tuple hq
  refine wpAny_pyIter_tuple (show s1.heap.IsTuple a its.toArray from p) ?_
  refine ⟨s1.heap.objs.size, [s1.heap.objs.size], _, _, H1, rfl, I1.kept (t' := s1.toks) fun b o e => Heap.get?_push_of_some _ e, turn_tuple a _, ⟨_, Heap.get?_push_size _ rfl, rfl, rfl⟩, fun b hb => ?_, q⟩
  have e : b = s1.heap.objs.size := by simpa using hb
  subst e
  exact I1.fpOk (Nat.le_refl _) (I1.hok.fresh (Nat.le_refl _))
theorem range_it {pins : List (Addr × Obj)} {σ : St} {H : Hp} {s : Shared} {R : It -> Hp -> Prop} {E : Value -> Shared -> Prop} {lo hi : Int} {t u v : Tok} {tk : Nat} (I : Inv X pins σ H s) (h1 : -(2 ^ 62) <= lo) (h2 : lo < 2 ^ 62) (h3 : -(2 ^ 62) <= hi) (h4 : hi < 2 ^ 62)
    (q : R (Itr lo (hi - lo).toNat) H) : wpAny (model X.prog X.w) X.A (pyIter (.ref s.heap.objs.size)) (PIE X pins σ tg R) E { s with heap := s.heap.push { cls := .type "range", data := .fields #[.int lo t, .int hi u, .int 1 v] }, toks := tk } := by
  refine wpAny_pyIter_range (IsRange.new ..) (small_one h1 h2 h3 h4) ?_
  have I1 : Inv X pins σ H { s with heap := s.heap.push { cls := .type "range", data := .fields #[.int lo t, .int hi u, .int 1 v] }, toks := tk } := I.kept fun b o e => Heap.get?_push_of_some _ e
  refine ⟨(s.heap.push { cls := .type "range", data := .fields #[.int lo t, .int hi u, .int 1 v] }).objs.size, [(s.heap.push { cls := .type "range", data := .fields #[.int lo t, .int hi u, .int 1 v] }).objs.size], _, _, H, rfl,
    I1.kept (t' := tk) fun b o e => Heap.get?_push_of_some _ e, turn_range _ lo (hi - lo).toNat, ?_, fun b hb => ?_, q⟩
  · have e1 : lo + ((0 : Nat) : Int) * 1 = lo := by simp
    have e2 : (((hi - lo).toNat : Nat) : Int) - ((0 : Nat) : Int) = Builtin.Range.rangeSize lo hi 1 := by rw [rangeSize_one]; split <;> lia
    show IsRangeIter _ _ (lo + ((0 : Nat) : Int) * 1) ((((hi - lo).toNat : Nat) : Int) - ((0 : Nat) : Int)) 1
    rw [e1, e2]
    exact Heap.get?_push_size _ rfl
  · have e : b = (s.heap.push { cls := .type "range", data := .fields #[.int lo t, .int hi u, .int 1 v] }).objs.size := by simpa using hb
    subst e
    exact I1.fpOk (Nat.le_refl _) (I1.hok.fresh (Nat.le_refl _))
def iRng1 (ta : TA) : TI := fun σ H R => ta σ H fun vs H1 => ∃ j : Int, vs = [.int j] /\ -(2 ^ 62) <= j /\ j < 2 ^ 62 /\ R (Itr 0 j.toNat) H1
theorem pi_range1 {a : Expr} {ta : TA} {p pos : Pos} (hg : Gl X "range") (hm : X.mg "range" = none) (ha : PA X [a] ta) (hs : starEach [a] X.env = [(false, eval a X.env)] := by rfl) : PI X tg (.Call (.Name "range" p) [a] [] pos) (iRng1 ta) := by
  intro pins s σ H R I h
  refine Call_ (ld_blt I hg hm boot_range (PyProof.Rows.callWith_type1 (thn (ha pos pins s σ H _ I h) fun us s1 ⟨vs, H1, I1, r1, q1⟩ => ?_) hs rfl))
  obtain ⟨j, e, q1, q2, q⟩ := q1
  subst e
  cases r1 with
  | cons r rr =>
    cases rr
    obtain ⟨t, rfl⟩ := r
    exact call_range_1 (range_it I1 (by lia) (by lia) q1 q2 (by simpa using q))
def tFor (wi : TI) (g : TG) (tb : TS) : TS := fun D σ H => wi σ H fun J H1 => ∃ W : Nat -> Nat -> St -> Hp -> Prop, (∃ m, W 0 m σ H1) /\ ∀ i m σ H, W i m σ H ->
  (J.stop i H /\ D.nx σ H) \/ (J.go i H /\ ∃ N : St -> Hp -> Prop, (∀ σ' H', N σ' H' -> ∃ m', m' < m /\ W (i + 1) m' σ' H') /\ ∀ x H', J.yld i H x H' -> g x σ H' fun σ2 H2 => tb { D with nx := N, ct := N, bk := D.nx } σ2 H2)
def pinsAt (fp : List Addr) (h : Heap) : List (Addr × Obj) := fp.filterMap fun b => (h.get? b).map fun o => (b, o)
theorem mem_pinsAt {fp : List Addr} {h : Heap} {b : Addr} {o : Obj} (hb : b ∈ fp) (e : h.get? b = some o) : (b, o) ∈ pinsAt fp h := List.mem_filterMap.mpr ⟨b, hb, by rw [e]; rfl⟩
theorem of_pinsAt {fp : List Addr} {h : Heap} {p : Addr × Obj} (hp : p ∈ pinsAt fp h) : p.1 ∈ fp /\ h.get? p.1 = some p.2 := by
  obtain ⟨b, hb, e⟩ := List.mem_filterMap.mp hp
  cases q : h.get? b with
  | none => rw [q] at e; cases e
  | some o =>
    rw [q] at e
    have e' : (b, o) = p := Option.some.inj e
    subst e'
    exact ⟨hb, q⟩
theorem Inv.pinned {pins : List (Addr × Obj)} {σ : St} {H : Hp} {s : Shared} {fp : List Addr} (I : Inv X pins σ H s) (hf : ∀ b ∈ fp, FpOk X pins H b) (ho : ∀ b ∈ fp, ∃ o, s.heap.get? b = some o /\ ∀ v, o.data ≠ .cell v) : Inv X (pins ++ pinsAt fp s.heap) σ H s :=
  I.pins_of fun p hp => (List.mem_append.mp hp).elim (fun z => I.pin p (List.mem_append_right _ z)) fun z => by
    obtain ⟨hb, e⟩ := of_pinsAt z
    obtain ⟨f0, f1, f2, _⟩ := hf p.1 hb
    obtain ⟨o, e', d⟩ := ho p.1 hb
    rw [e] at e'; cases e'
    exact ⟨e, f0, f1, f2, d⟩
theorem Inv.unpinned {pins pl : List (Addr × Obj)} {σ : St} {H : Hp} {s : Shared} (I : Inv X (pins ++ pl) σ H s) : Inv X pins σ H s := I.pins_of fun p hp => I.pin p (List.mem_append_right _ (List.mem_append_left _ hp))
theorem ps_for {iter : Expr} {body : List Stmt} {wi : TI} {g : TG} {tb : TS} {pos : Pos} (hp : PassesOwn (model X.prog X.w) X.A X.env X.xe) (hc : X.calm = true) (hi : PI X tg iter wi) (hg : PG X tg g) (hb : PSs X body tb)
    (hs : ∀ x, foldedSetIterable iter X.env x = pure x := by intro _; rfl) : PS X (.For tg iter body [] pos) (tFor wi g tb) := by
  intro pins s σ H D I h
  refine wpAny_For (thn (hi pins s σ H _ I h) fun v s1 h1 => thn h1 fun itv s2 h2 => ?_) hs
  obtain ⟨it, fp, tn, J, H2, e, I2, T, st2, f2, W, ⟨m0, w0⟩, turn⟩ := h2
  subst e
  have stat : ∀ {H' : Hp}, (∀ b ∈ fp, H' b = none) -> ∀ b ∈ fp, FpOk X pins H' b := fun hn b hb => ⟨hn b hb, (f2 b hb).2⟩
  refine codeAny_forLoop_any (fun n s' => ∃ i σ' H', Inv X pins σ' H' s' /\ tn i s'.heap /\ (∀ b ∈ fp, H' b = none) /\ W i n σ' H') ?_ m0 ⟨0, σ, H2, I2, st2, fun b hb => (f2 b hb).1, w0⟩
  rintro n s3 ⟨i, σ3, H3, I3, st3, fr3, w3⟩
  rcases turn i n σ3 H3 w3 with ⟨stop, qn⟩ | ⟨go, N, hN, step⟩
  · refine wpAny_passesOwn hp (thn (T.done X rfl rfl rfl hc i pins s3 σ3 H3 X.xe I3 (stat fr3) st3 stop) fun r s4 ⟨hr, I4⟩ => ?_)
    subst hr
    exact wpAny_execs_nil ⟨σ3, H3, I4, qn⟩
  · refine wpAny_passesOwn hp (thn (T.item X rfl rfl rfl hc i pins s3 σ3 H3 X.xe I3 (stat fr3) st3 go) fun r s4 ⟨u, hr, h4⟩ => ?_)
    subst hr
    refine wpAny_passesOwn hp (thn h4 fun _ s5 ⟨x, H5, I5, r5, y5, st5, fr5⟩ => ?_)
    have I5' := I5.pinned (stat fr5) (T.obj _ _ st5)
    refine wpAny_passesOwn hp (thn (hg _ s5 σ3 H5 x u _ I5' r5 (step x H5 y5)) fun _ s6 ⟨σ6, H6, I6, q6⟩ => ?_)
    refine wpAny_passesOwn hp (thn (hb _ s6 σ6 H6 _ I6 q6) fun f s7 q7 => ?_)
    have again : ∀ {σ7 : St} {H7 : Hp}, Inv X (pins ++ pinsAt fp s5.heap) σ7 H7 s7 -> N σ7 H7 -> ∃ m, m < n /\ ∃ i σ' H', Inv X pins σ' H' s7 /\ tn i s7.heap /\ (∀ b ∈ fp, H' b = none) /\ W i m σ' H' := fun {σ7 H7} I7 n7 => by
      obtain ⟨m', hm, w7⟩ := hN σ7 H7 n7
      refine ⟨m', hm, i + 1, σ7, H7, I7.unpinned, T.keep _ _ _ st5 fun b hb o e => (I7.pin (b, o) (List.mem_append_right _ (List.mem_append_right _ (mem_pinsAt hb e)))).1, fun b hb => ?_, w7⟩
      obtain ⟨o, e, d⟩ := T.obj _ _ st5 b hb
      exact (I7.pin (b, o) (List.mem_append_right _ (List.mem_append_right _ (mem_pinsAt hb e)))).2.1
    cases f with
    | next => obtain ⟨σ7, H7, I7, n7⟩ := q7; exact again I7 n7
    | cont => obtain ⟨σ7, H7, I7, n7⟩ := q7; exact again I7 n7
    | brk => obtain ⟨σ7, H7, I7, q7⟩ := q7; exact ⟨σ7, H7, I7.unpinned, q7⟩
    | ret v => obtain ⟨x7, σ7, H7, I7, r7, q7⟩ := q7; exact ⟨x7, σ7, H7, I7.unpinned, r7, q7⟩
end
theorem for_list {K : PySem.W.Frag} {a : Addr} {xs : List V} {g : TG} {tb : TS} {D : Ends} {σ : St} {H : Hp} (Pv : Nat -> St -> Hp -> Prop) (h0 : Pv 0 σ H) (hl : ∀ i σ H, i <= xs.length -> Pv i σ H -> SqL K H a xs)
    (hs : ∀ i x σ H, xs[i]? = some x -> Pv i σ H -> g x σ H fun σ2 H2 => tb { D with nx := Pv (i + 1), ct := Pv (i + 1), bk := D.nx } σ2 H2) (hd : ∀ σ H, Pv xs.length σ H -> D.nx σ H) :
    ∃ W : Nat -> Nat -> St -> Hp -> Prop, (∃ m, W 0 m σ H) /\ ∀ i m σ H, W i m σ H ->
      ((Itl K a).stop i H /\ D.nx σ H) \/ ((Itl K a).go i H /\ ∃ N : St -> Hp -> Prop, (∀ σ' H', N σ' H' -> ∃ m', m' < m /\ W (i + 1) m' σ' H') /\ ∀ x H', (Itl K a).yld i H x H' -> g x σ H' fun σ2 H2 => tb { D with nx := N, ct := N, bk := D.nx } σ2 H2) := by
  refine ⟨fun i m σ H => m = xs.length - i /\ i <= xs.length /\ Pv i σ H, ⟨xs.length, by simp, Nat.zero_le _, h0⟩, ?_⟩
  rintro i m σ H ⟨rfl, hi, p⟩
  have q := hl i σ H hi p
  by_cases hlt : i < xs.length
  · refine .inr ⟨⟨xs, xs[i], q, by simp [hlt]⟩, Pv (i + 1), fun σ' H' p' => ⟨xs.length - (i + 1), by lia, rfl, hlt, p'⟩, fun x H' y => ?_⟩
    obtain ⟨e, y⟩ := y
    subst e
    exact hs i x σ _ (y xs q) p
  · have e : i = xs.length := by lia
    subst e
    exact .inl ⟨⟨xs, q, Nat.le_refl _⟩, hd σ H p⟩
theorem for_tup {K : PySem.W.Frag} {a : Addr} {xs : List V} {g : TG} {tb : TS} {D : Ends} {σ : St} {H : Hp} (Pv : Nat -> St -> Hp -> Prop) (h0 : Pv 0 σ H) (hl : ∀ i σ H, i <= xs.length -> Pv i σ H -> SqT K H a xs)
    (hs : ∀ i x σ H, xs[i]? = some x -> Pv i σ H -> g x σ H fun σ2 H2 => tb { D with nx := Pv (i + 1), ct := Pv (i + 1), bk := D.nx } σ2 H2) (hd : ∀ σ H, Pv xs.length σ H -> D.nx σ H) :
    ∃ W : Nat -> Nat -> St -> Hp -> Prop, (∃ m, W 0 m σ H) /\ ∀ i m σ H, W i m σ H ->
      ((Itt K a).stop i H /\ D.nx σ H) \/ ((Itt K a).go i H /\ ∃ N : St -> Hp -> Prop, (∀ σ' H', N σ' H' -> ∃ m', m' < m /\ W (i + 1) m' σ' H') /\ ∀ x H', (Itt K a).yld i H x H' -> g x σ H' fun σ2 H2 => tb { D with nx := N, ct := N, bk := D.nx } σ2 H2) := by
  refine ⟨fun i m σ H => m = xs.length - i /\ i <= xs.length /\ Pv i σ H, ⟨xs.length, by simp, Nat.zero_le _, h0⟩, ?_⟩
  rintro i m σ H ⟨rfl, hi, p⟩
  have q := hl i σ H hi p
  by_cases hlt : i < xs.length
  · refine .inr ⟨⟨xs, xs[i], q, by simp [hlt]⟩, Pv (i + 1), fun σ' H' p' => ⟨xs.length - (i + 1), by lia, rfl, hlt, p'⟩, fun x H' y => ?_⟩
    obtain ⟨e, y⟩ := y
    subst e
    exact hs i x σ _ (y xs q) p
  · have e : i = xs.length := by lia
    subst e
    exact .inl ⟨⟨xs, q, Nat.le_refl _⟩, hd σ H p⟩
theorem for_range {lo : Int} {n : Nat} {g : TG} {tb : TS} {D : Ends} {σ : St} {H : Hp} (Pv : Nat -> St -> Hp -> Prop) (h0 : Pv 0 σ H)
    (hs : ∀ i σ H, i < n -> Pv i σ H -> g (.int (lo + i)) σ H fun σ2 H2 => tb { D with nx := Pv (i + 1), ct := Pv (i + 1), bk := D.nx } σ2 H2) (hd : ∀ σ H, Pv n σ H -> D.nx σ H) :
    ∃ W : Nat -> Nat -> St -> Hp -> Prop, (∃ m, W 0 m σ H) /\ ∀ i m σ H, W i m σ H ->
      ((Itr lo n).stop i H /\ D.nx σ H) \/ ((Itr lo n).go i H /\ ∃ N : St -> Hp -> Prop, (∀ σ' H', N σ' H' -> ∃ m', m' < m /\ W (i + 1) m' σ' H') /\ ∀ x H', (Itr lo n).yld i H x H' -> g x σ H' fun σ2 H2 => tb { D with nx := N, ct := N, bk := D.nx } σ2 H2) := by
  refine ⟨fun i m σ H => m = n - i /\ i <= n /\ Pv i σ H, ⟨n, by simp, Nat.zero_le _, h0⟩, ?_⟩
  rintro i m σ H ⟨rfl, hi, p⟩
  by_cases hlt : i < n
  · refine .inr ⟨hlt, Pv (i + 1), fun σ' H' p' => ⟨n - (i + 1), by lia, rfl, hlt, p'⟩, fun x H' y => ?_⟩
    obtain ⟨e, y⟩ := y
    subst e y
    exact hs i σ _ hlt p
  · have e : i = n := by lia
    subst e
    exact .inl ⟨Nat.le_refl _, hd σ H p⟩
abbrev R2 := V -> V -> Hp -> VK -> Prop
def OpR (X : Cx) (f : Value -> Value -> Sem Value) (r : R2) : Prop :=
  ∀ (pins : List (Addr × Obj)) (s : Shared) (σ : St) (H : Hp) (x y : V) (v u : Value) (Q : VK), Inv X pins σ H s -> RelV x v -> RelV y u -> r x y H Q ->
    wpAny (model X.prog X.w) X.A (f v u) (EP X pins σ Q) X.xe s
def UnR (X : Cx) (f : Value -> Sem Value) (r : V -> Hp -> VK -> Prop) : Prop :=
  ∀ (pins : List (Addr × Obj)) (s : Shared) (σ : St) (H : Hp) (x : V) (v : Value) (Q : VK), Inv X pins σ H s -> RelV x v -> r x H Q ->
    wpAny (model X.prog X.w) X.A (f v) (EP X pins σ Q) X.xe s
def CallR (X : Cx) (f : Value) (r : List V -> Hp -> VK -> Prop) : Prop :=
  ∀ (pins : List (Addr × Obj)) (s : Shared) (σ : St) (H : Hp) (xs : List V) (us : List Value) (Q : VK), Inv X pins σ H s -> Vals xs us -> r xs H Q ->
    wpAny (model X.prog X.w) X.A (call f us) (EP X pins σ Q) X.xe s
def TruR (X : Cx) (r : V -> Hp -> (Bool -> Hp -> Prop) -> Prop) : Prop :=
  ∀ (pins : List (Addr × Obj)) (s : Shared) (σ : St) (H : Hp) (x : V) (v : Value) (Q : Bool -> Hp -> Prop), Inv X pins σ H s -> RelV x v -> r x H Q ->
    wpAny (model X.prog X.w) X.A (truthy v) (TP X pins σ Q) X.xe s
def tOp (r : R2) (ta tb : TE) : TE := fun σ H Q => ta σ H fun x H1 => tb σ H1 fun y H2 => r x y H2 Q
def tUn (r : V -> Hp -> VK -> Prop) (ta : TE) : TE := fun σ H Q => ta σ H fun x H1 => r x H1 Q
def rI (C : Int -> Int -> Prop) (g : Int -> Int -> V) : R2 := fun x y H Q => ∃ i j, x = .int i /\ y = .int j /\ C i j /\ Q (g i j) H
def rI0 (g : Int -> Int -> V) : R2 := fun x y H Q => ∃ i j, x = .int i /\ y = .int j /\ Q (g i j) H
def rU (g : Int -> V) : V -> Hp -> VK -> Prop := fun x H Q => ∃ i, x = .int i /\ Q (g i) H
section
variable {X : Cx} {a b c : Expr} {ta tb tc : TE} {pos : Pos}
theorem binT (ha : PE X a ta) (hb : PE X b tb) {pins : List (Addr × Obj)} {s : Shared} {σ : St} {H : Hp} {R : V -> V -> Hp -> Prop} (I : Inv X pins σ H s)
    (h : ta σ H fun x H1 => tb σ H1 fun y H2 => R x y H2) {Q : Value -> Shared -> Prop} {f : Value -> Value -> Sem Value}
    (hf : ∀ v u s2 x y H2, Inv X pins σ H2 s2 -> RelV x v -> RelV y u -> R x y H2 -> wpAny (model X.prog X.w) X.A (f v u) Q X.xe s2) :
    wpAny (model X.prog X.w) X.A (eval a X.env) (fun v s₁ => wpAny (model X.prog X.w) X.A (eval b X.env) (fun u s₂ => wpAny (model X.prog X.w) X.A (f v u) Q X.xe s₂) X.xe s₁) X.xe s := by
  refine thn (ha pins s σ H _ I h) fun v s1 ⟨x, H1, I1, r1, q1⟩ => ?_
  refine thn (hb pins s1 σ H1 _ I1 q1) fun u s2 ⟨y, H2, I2, r2, q2⟩ => ?_
  exact hf v u s2 x y H2 I2 r1 r2 q2
theorem pe_op {op : Operator} {r : R2} (ho : OpR X (binaryOp op) r) (ha : PE X a ta) (hb : PE X b tb) : PE X (.BinOp a op b pos) (tOp r ta tb) := by
  intro pins s σ H Q I h
  exact wpAny_BinOp (binT ha hb I h fun v u s2 x y H2 I2 rx ry q => ho pins s2 σ H2 x y v u Q I2 rx ry q)
theorem pe_un {op : UnaryOp} {r : V -> Hp -> VK -> Prop} (ho : UnR X (unaryOp op) r) (ha : PE X a ta) : PE X (.UnaryOp op a pos) (tUn r ta) := by
  intro pins s σ H Q I h
  exact UnaryOp_ (thn (ha pins s σ H _ I h) fun v s1 ⟨x, H1, I1, r1, q1⟩ => ho pins s1 σ H1 x v Q I1 r1 q1)
theorem opI {f : Value -> Value -> Sem Value} {C : Int -> Int -> Prop} {g : Int -> Int -> Int}
    (rule : ∀ (i j : Int) (t u : Tok) (s : Shared) (Q : Value -> Shared -> Prop) (E : Value -> Shared -> Prop), C i j -> Q (.int (g i j) s.toks) { s with toks := s.toks + 1 } -> wpAny (model X.prog X.w) X.A (f (.int i t) (.int j u)) Q E s) :
    OpR X f (rI C fun i j => .int (g i j)) := by
  intro pins s σ H x y v u Q I rx ry h
  obtain ⟨i, j, rfl, rfl, hc, q⟩ := h
  obtain ⟨t, rfl⟩ := rx
  obtain ⟨t', rfl⟩ := ry
  exact rule i j t t' s _ _ hc ⟨.int (g i j), H, I.tok _, ⟨_, rfl⟩, q⟩
theorem opI0 {f : Value -> Value -> Sem Value} {g : Int -> Int -> Int}
    (rule : ∀ (i j : Int) (t u : Tok) (s : Shared) (Q : Value -> Shared -> Prop) (E : Value -> Shared -> Prop), Q (.int (g i j) s.toks) { s with toks := s.toks + 1 } -> wpAny (model X.prog X.w) X.A (f (.int i t) (.int j u)) Q E s) :
    OpR X f (rI0 fun i j => .int (g i j)) := by
  intro pins s σ H x y v u Q I rx ry h
  obtain ⟨i, j, rfl, rfl, q⟩ := h
  obtain ⟨t, rfl⟩ := rx
  obtain ⟨t', rfl⟩ := ry
  exact rule i j t t' s _ _ ⟨.int (g i j), H, I.tok _, ⟨_, rfl⟩, q⟩
theorem opB0 {f : Value -> Value -> Sem Value} {g : Int -> Int -> Bool}
    (rule : ∀ (i j : Int) (t u : Tok) (s : Shared) (Q : Value -> Shared -> Prop) (E : Value -> Shared -> Prop), Q (.bool (g i j)) s -> wpAny (model X.prog X.w) X.A (f (.int i t) (.int j u)) Q E s) :
    OpR X f (rI0 fun i j => .bl (g i j)) := by
  intro pins s σ H x y v u Q I rx ry h
  obtain ⟨i, j, rfl, rfl, q⟩ := h
  obtain ⟨t, rfl⟩ := rx
  obtain ⟨t', rfl⟩ := ry
  exact rule i j t t' s _ _ ⟨.bl (g i j), H, I, rfl, q⟩
def CDiv (i j : Int) : Prop := 0 < j /\ j < 1073741824
def CPow (i j : Int) : Prop := 0 <= j /\ j <= 1000000 /\ i.natAbs < 2 ^ 64
def CMul (i j : Int) : Prop := (-(2 ^ 64) < i /\ i < 2 ^ 64) \/ (-(2 ^ 64) < j /\ j < 2 ^ 64)
theorem CMul.ok {i j : Int} (h : CMul i j) : IntMulOk i j := by
  rcases h with ⟨h1, h2⟩ | ⟨h1, h2⟩
  · exact .of_left (intBits_le_64 h1 h2)
  · exact .of_right (intBits_le_64 h1 h2)
theorem two_pow_nn (k : Nat) : (0 : Int) <= 2 ^ k := by
  rw [two_pow_cast]
  exact Int.natCast_nonneg _
theorem op_add : OpR X (binaryOp .Add) (rI0 fun i j => .int (i + j)) := opI0 fun _ _ _ _ _ _ _ q => add_int q
theorem op_sub : OpR X (binaryOp .Sub) (rI0 fun i j => .int (i - j)) := opI0 fun _ _ _ _ _ _ _ q => sub_int q
theorem op_mul : OpR X (binaryOp .Mult) (rI CMul fun i j => .int (i * j)) := opI fun _ _ _ _ _ _ _ hc q => mul_int q hc.ok
theorem op_fdiv : OpR X (binaryOp .FloorDiv) (rI CDiv fun i j => .int (i / j)) := opI fun i j _ _ _ _ _ hc q => by
  have h1 : (0 : Int) < j := hc.1
  have h2 : j < 1073741824 := hc.2
  exact floordiv_int (by lia) (by rw [Int.fdiv_eq_ediv_of_nonneg i (by lia)]; exact q) (.inl (PyProof.noPylong_small (by lia)))
theorem op_mod : OpR X (binaryOp .Mod) (rI (fun _ j => 0 < j) fun i j => .int (i % j)) := opI fun i j _ _ _ _ _ hc q => by
  have h1 : (0 : Int) < j := hc
  exact mod_int' (by lia) (by rw [Int.fmod_eq_emod_of_nonneg i (by lia)]; exact q)
theorem op_pow : OpR X (binaryOp .Pow) (rI CPow fun i j => .int (i ^ j.toNat)) := opI fun _ _ _ _ _ _ _ hc q => pow_int_small hc.1 hc.2.1 hc.2.2 q
theorem op_shl : OpR X (binaryOp .LShift) (rI CPow fun i j => .int (i * 2 ^ j.toNat)) := opI fun _ _ _ _ _ _ _ hc q => lshift_int_small hc.1 hc.2.1 hc.2.2 q
theorem op_shr : OpR X (binaryOp .RShift) (rI (fun _ j => 0 <= j) fun i j => .int (i / 2 ^ j.toNat)) := opI fun i j _ _ _ _ _ hc q =>
  rshift_int hc (by rw [Int.fdiv_eq_ediv_of_nonneg i (two_pow_nn _)]; exact q)
theorem op_and : OpR X (binaryOp .BitAnd) (rI0 fun i j => .int (Builtin.bitAnd i j)) := opI0 fun _ _ _ _ _ _ _ q => and_int q
theorem unI {f : Value -> Sem Value} {g : Int -> Int}
    (rule : ∀ (i : Int) (t : Tok) (s : Shared) (Q : Value -> Shared -> Prop) (E : Value -> Shared -> Prop), Q (.int (g i) s.toks) { s with toks := s.toks + 1 } -> wpAny (model X.prog X.w) X.A (f (.int i t)) Q E s) :
    UnR X f (rU fun i => .int (g i)) := by
  intro pins s σ H x v Q I rx h
  obtain ⟨i, rfl, q⟩ := h
  obtain ⟨t, rfl⟩ := rx
  exact rule i t s _ _ ⟨.int (g i), H, I.tok _, ⟨_, rfl⟩, q⟩
theorem un_neg : UnR X (unaryOp .USub) (rU fun i => .int (-i)) := unI fun _ _ _ _ _ q => neg_int q
end
def scal : V -> V -> Bool
  | .non, .non => true | .non, .int _ => true | .int _, .non => true | .non, .bl _ => true | .bl _, .non => true | .non, .str _ => true | .str _, .non => true
  | .int _, .int _ => true | .bl _, .bl _ => true | .str _, .str _ => true | .byt _, .byt _ => true
  | .int _, .str _ => true | .str _, .int _ => true | .bl _, .str _ => true | .str _, .bl _ => true
  | _, _ => false
def rEq : R2 := fun x y H Q => scal x y = true /\ Q (.bl (decide (x = y))) H
def rNe : R2 := fun x y H Q => scal x y = true /\ Q (.bl (!decide (x = y))) H
theorem dec_int {i j : Int} : decide (V.int i = V.int j) = (i == j) := by
  rw [Bool.eq_iff_iff]
  simp
theorem dec_bl {i j : Bool} : decide (V.bl i = V.bl j) = (i == j) := by
  rw [Bool.eq_iff_iff]
  simp
theorem dec_str {i j : Str} : decide (V.str i = V.str j) = (i == j) := by
  rw [Bool.eq_iff_iff]
  simp
theorem dec_byt {i j : Array UInt8} : decide (V.byt i = V.byt j) = (i.toList == j.toList) := by
  rw [Bool.eq_iff_iff]
  cases i
  cases j
  simp
section
variable {X : Cx} {a b c : Expr} {ta tb tc : TE} {pos : Pos}
theorem fin_bl {pins : List (Addr × Obj)} {σ : St} {H : Hp} {s : Shared} {Q : VK} {k k' : Bool} (I : Inv X pins σ H s) (q : Q (.bl k) H) (e : k = k') : EP X pins σ Q (.bool k') s := by
  subst e
  exact ⟨.bl k, H, I, rfl, q⟩
theorem op_eq : OpR X (compareOp .Eq) rEq := by
  intro pins s σ H x y v u Q I rx ry h
  obtain ⟨hs, q⟩ := h
  cases x with
  | non =>
    cases rx
    cases y with
    | non => cases ry; exact PySem.EqNone.eq_none_none (fin_bl I q (by simp))
    | bl j => cases ry; exact PySem.EqNone.eq_none_bool (fin_bl I q (by simp))
    | int j => obtain ⟨t', rfl⟩ := ry; exact PySem.EqNone.eq_none_int (fin_bl I q (by simp))
    | str j => obtain ⟨t', rfl⟩ := ry; exact PySem.EqNone.eq_none_str (fin_bl I q (by simp))
    | _ => exact absurd (show false = true from hs) Bool.false_ne_true
  | bl i =>
    cases rx
    cases y with
    | non => cases ry; exact PySem.EqNone.eq_bool_none (fin_bl I q (by simp))
    | bl j => cases ry; exact eq_bool (fin_bl I q dec_bl)
    | str j => obtain ⟨t', rfl⟩ := ry; exact PySem.EqMixed.eq_bool_str (fin_bl I q (by simp))
    | _ => exact absurd (show false = true from hs) Bool.false_ne_true
  | int i =>
    obtain ⟨t, rfl⟩ := rx
    cases y with
    | non => cases ry; exact PySem.EqNone.eq_int_none (fin_bl I q (by simp))
    | int j => obtain ⟨t', rfl⟩ := ry; exact eq_int (fin_bl I q dec_int)
    | str j => obtain ⟨t', rfl⟩ := ry; exact PySem.EqMixed.eq_int_str (fin_bl I q (by simp))
    | _ => exact absurd (show false = true from hs) Bool.false_ne_true
  | str i =>
    obtain ⟨t, rfl⟩ := rx
    cases y with
    | non => cases ry; exact PySem.EqNone.eq_str_none (fin_bl I q (by simp))
    | bl j => cases ry; exact PySem.EqMixed.eq_str_bool (fin_bl I q (by simp))
    | int j => obtain ⟨t', rfl⟩ := ry; exact PySem.EqMixed.eq_str_int (fin_bl I q (by simp))
    | str j => obtain ⟨t', rfl⟩ := ry; exact eq_str (fin_bl I q dec_str)
    | _ => exact absurd (show false = true from hs) Bool.false_ne_true
  | byt i =>
    obtain ⟨t, rfl⟩ := rx
    cases y with
    | byt j => obtain ⟨t', rfl⟩ := ry; exact PySem.W.eq_bytes (fin_bl I q dec_byt)
    | _ => exact absurd (show false = true from hs) Bool.false_ne_true
  | _ => cases y <;> exact absurd (show false = true from hs) Bool.false_ne_true
theorem op_ne : OpR X (compareOp .NotEq) rNe := by
  intro pins s σ H x y v u Q I rx ry h
  obtain ⟨hs, q⟩ := h
  cases x with
  | non =>
    cases rx
    cases y with
    | non => cases ry; exact PySem.EqNone.ne_none_none (fin_bl I q (by simp))
    | bl j => cases ry; exact PySem.EqNone.ne_none_bool (fin_bl I q (by simp))
    | int j => obtain ⟨t', rfl⟩ := ry; exact PySem.EqNone.ne_none_int (fin_bl I q (by simp))
    | str j => obtain ⟨t', rfl⟩ := ry; exact PySem.EqNone.ne_none_str (fin_bl I q (by simp))
    | _ => exact absurd (show false = true from hs) Bool.false_ne_true
  | bl i =>
    cases rx
    cases y with
    | non => cases ry; exact PySem.EqNone.ne_bool_none (fin_bl I q (by simp))
    | bl j => cases ry; exact ne_bool (fin_bl I q (congrArg not dec_bl))
    | str j => obtain ⟨t', rfl⟩ := ry; exact PySem.EqMixed.ne_bool_str (fin_bl I q (by simp))
    | _ => exact absurd (show false = true from hs) Bool.false_ne_true
  | int i =>
    obtain ⟨t, rfl⟩ := rx
    cases y with
    | non => cases ry; exact PySem.EqNone.ne_int_none (fin_bl I q (by simp))
    | int j => obtain ⟨t', rfl⟩ := ry; exact ne_int (fin_bl I q (congrArg not dec_int))
    | str j => obtain ⟨t', rfl⟩ := ry; exact PySem.EqMixed.ne_int_str (fin_bl I q (by simp))
    | _ => exact absurd (show false = true from hs) Bool.false_ne_true
  | str i =>
    obtain ⟨t, rfl⟩ := rx
    cases y with
    | non => cases ry; exact PySem.EqNone.ne_str_none (fin_bl I q (by simp))
    | bl j => cases ry; exact PySem.EqMixed.ne_str_bool (fin_bl I q (by simp))
    | int j => obtain ⟨t', rfl⟩ := ry; exact PySem.EqMixed.ne_str_int (fin_bl I q (by simp))
    | str j => obtain ⟨t', rfl⟩ := ry; exact ne_str (fin_bl I q (congrArg not dec_str))
    | _ => exact absurd (show false = true from hs) Bool.false_ne_true
  | byt i =>
    obtain ⟨t, rfl⟩ := rx
    cases y with
    | byt j => obtain ⟨t', rfl⟩ := ry; exact PySem.W.ne_bytes (fin_bl I q (congrArg not dec_byt))
    | _ => exact absurd (show false = true from hs) Bool.false_ne_true
  | _ => cases y <;> exact absurd (show false = true from hs) Bool.false_ne_true
theorem op_lt : OpR X (compareOp .Lt) (rI0 fun i j => .bl (decide (i < j))) := opB0 fun _ _ _ _ _ _ _ q => lt_int q
theorem op_le : OpR X (compareOp .LtE) (rI0 fun i j => .bl (decide (i <= j))) := opB0 fun _ _ _ _ _ _ _ q => le_int q
theorem nomark (b : Expr) {op : CmpOp} (h : op ≠ .In := by decide) (h2 : op ≠ .NotIn := by decide) : behindInMarks op b = false := by
  have e1 : (op == CmpOp.In) = false := by cases op <;> first | rfl | exact absurd rfl h
  have e2 : (op == CmpOp.NotIn) = false := by cases op <;> first | rfl | exact absurd rfl h2
  cases b <;> simp [behindInMarks, e1, e2]
theorem pe_cmpR {op : CmpOp} {r : R2} (ho : OpR X (compareOp op) r) (ha : PE X a ta) (hb : PE X b tb) (hm : behindInMarks op b = false) : PE X (.Compare a [op] [b] pos) (tOp r ta tb) := by
  intro pins s σ H Q I h
  exact wpAny_Compare1 (binT ha hb I h fun v u s2 x y H2 I2 rx ry q => ho pins s2 σ H2 x y v u Q I2 rx ry q) hm
def tTest (t : TE) : TT := fun σ H Q => t σ H fun x H' => ∃ k, x = .bl k /\ Q k H'
theorem pt_cmpR {op : CmpOp} {r : R2} (ho : OpR X (compareOp op) r) (ha : PE X a ta) (hb : PE X b tb) (hm : behindInMarks op b = false) : PT X (.Compare a [op] [b] pos) (tTest (tOp r ta tb)) := by
  intro pins s σ H Q I h
  refine wpAny_isTrue_Compare1 (thn (ha pins s σ H _ I h) fun v s1 ⟨x, H1, I1, r1, q1⟩ => thn (hb pins s1 σ H1 _ I1 q1) fun u s2 ⟨y, H2, I2, r2, q2⟩ =>
    thn (ho pins s2 σ H2 x y v u _ I2 r1 r2 q2) fun c s3 ⟨z, H3, I3, r3, k, e, q3⟩ => ?_) hm
  subst e
  cases r3
  exact wpAny_truthy_bool ⟨H3, I3, q3⟩
def tChain (r r' : R2) (ta tb tc : TE) : TE := fun σ H Q => ta σ H fun x H1 => tb σ H1 fun y H2 => r x y H2 fun z H3 => ∃ k, z = .bl k /\
  (if k = true then tc σ H3 fun w' H4 => r' y w' H4 Q else Q (.bl false) H3)
theorem pe_chain {op op' : CmpOp} {r r' : R2} (ho : OpR X (compareOp op) r) (ho' : OpR X (compareOp op') r') (ha : PE X a ta) (hb : PE X b tb) (hc : PE X c tc)
    (hm : lastMarks [op, op'] [b, c] = false := by with_unfolding_all rfl) : PE X (.Compare a [op, op'] [b, c] pos) (tChain r r' ta tb tc) := by
  intro pins s σ H Q I h
  refine Compare_chain (thn (ha pins s σ H _ I h) fun v s1 ⟨x, H1, I1, r1, q1⟩ => chain_link (thn (hb pins s1 σ H1 _ I1 q1) fun u s2 ⟨y, H2, I2, r2, q2⟩ =>
    thn (ho pins s2 σ H2 x y v u _ I2 r1 r2 q2) fun d s3 ⟨z, H3, I3, r3, k, e, q3⟩ => ?_)) hm
  subst e
  cases r3
  refine wpAny_truthy_bool ?_
  cases k with
  | false => exact ite_ff ⟨.bl false, H3, I3, rfl, q3⟩
  | true => exact ite_tt (chain_last (thn (hc pins s3 σ H3 _ I3 q3) fun w' s4 ⟨z', H4, I4, r4, q4⟩ => ho' pins s4 σ H4 y z' u w' Q I4 r2 r4 q4))
def TruV (K : PySem.W.Frag) (x : V) (H : Hp) (k : Bool) : Prop :=
  match x with
  | .non => k = false
  | .bl b => k = b
  | .int i => k = (i != 0)
  | .str y => y.length <= sizeLine /\ k = ((y.length : Int) != 0)
  | .byt y => y.size <= sizeLine /\ k = ((y.size : Int) != 0)
  | .ref p => (∃ xs, SqL K H p xs /\ k = !xs.isEmpty) \/ (∃ xs, SqT K H p xs /\ k = !xs.isEmpty) \/ ∃ kvs, H p = some (.dK kvs) /\ k = !kvs.isEmpty
  | _ => False
theorem isEmpty_kv {κ : Type} {kvs : List (κ × V)} {vs : List (κ × Value)} (r : KV kvs vs) : (!vs.isEmpty) = !kvs.isEmpty := by
  cases r <;> rfl
theorem isEmpty_of {xs : List V} {its : List Value} (r : Vals xs its) : (!its.toArray.isEmpty) = !xs.isEmpty := by
  cases r <;> simp
theorem line63 : (sizeLine : Nat) < 2 ^ 63 := by rw [sizeLine_eq]; decide
theorem tru_ok : TruR X (fun x H Q => ∃ k, TruV X.K x H k /\ Q k H) := by
  intro pins s σ H x v Q I rx h
  obtain ⟨k, e, q⟩ := h
  have hl := line63
  have hs : sizeLine = 16777216 := sizeLine_eq
  cases x with
  | non =>
    cases rx
    have e' : k = false := e
    subst e'
    exact truthy_none ⟨H, I, q⟩
  | bl b =>
    cases rx
    have e' : k = b := e
    subst e'
    exact wpAny_truthy_bool ⟨H, I, q⟩
  | int i =>
    obtain ⟨t, rfl⟩ := rx
    have e' : k = (i != 0) := e
    subst e'
    exact PySem.P.truthy_int ⟨H, I, q⟩
  | str y =>
    obtain ⟨t, rfl⟩ := rx
    obtain ⟨hy, e'⟩ : y.length <= sizeLine /\ k = ((y.length : Int) != 0) := e
    subst e'
    exact PySem.P.truthy_str (by lia) ⟨H, I.tok _, q⟩
  | byt y =>
    obtain ⟨t, rfl⟩ := rx
    obtain ⟨hy, e'⟩ : y.size <= sizeLine /\ k = ((y.size : Int) != 0) := e
    subst e'
    exact PySem.W.truthy_bytes (by lia) ⟨H, I.tok _, q⟩
  | ref p =>
    cases rx
    have e' : (∃ xs, SqL X.K H p xs /\ k = !xs.isEmpty) \/ (∃ xs, SqT X.K H p xs /\ k = !xs.isEmpty) \/ ∃ kvs, H p = some (.dK kvs) /\ k = !kvs.isEmpty := e
    rcases e' with ⟨xs, hx, e'⟩ | ⟨xs, hx, e'⟩ | ⟨kvs, hx, e'⟩
    · subst e'
      obtain ⟨its, r, pl, hz⟩ := I.list hx
      have hlen := r.length
      exact wpAny_truthy_list pl.isList (by simp only [List.size_toArray]; lia) ⟨H, I.tok _, by rw [isEmpty_of r]; exact q⟩
    · subst e'
      obtain ⟨its, r, pl, hz⟩ := I.tuple hx
      have hlen := r.length
      exact truthy_tuple pl (by simp only [List.size_toArray]; lia) ⟨H, I.tok _, by rw [isEmpty_of r]; exact q⟩
    · subst e'
      obtain ⟨hz, hS, vs, r, m⟩ : kvs.length <= sizeLine /\ (p == sysModules) = false /\ ∃ vs, KV kvs vs /\ s.heap.DictOf (mixKind X.prog X.w) p vs := I.hok p _ hx
      have hlen : kvs.length = vs.length := Paired.length r
      exact wpAny_truthy_dict hS m (by lia) ⟨H, I.tok _, by rw [isEmpty_kv r]; exact q⟩
  | _ => exact (show False from e).elim
theorem pt_truth (ha : PE X a ta) (he : ∀ whole, isTrue a X.env whole = (do let v <- whole; standAt a.pos; holding [v] (truthy v))) :
    PT X a (fun σ H Q => ta σ H fun x H' => ∃ k, TruV X.K x H' k /\ Q k H') := by
  intro pins s σ H Q I h
  exact isTrue_plain (thn (ha pins s σ H _ I h) fun v s1 ⟨x, H1, I1, r1, q1⟩ => tru_ok pins s1 σ H1 x v Q I1 r1 q1) (he _)
theorem vals1 {x : V} {us : List Value} (r : Vals [x] us) : ∃ u, us = [u] /\ RelV x u := by
  cases r with
  | cons r1 r2 => cases r2; exact ⟨_, rfl, r1⟩
theorem vals2 {x y : V} {us : List Value} (r : Vals [x, y] us) : ∃ u w', us = [u, w'] /\ RelV x u /\ RelV y w' := by
  cases r with
  | cons r1 r2 =>
    cases r2 with
    | cons r3 r4 => cases r4; exact ⟨_, _, rfl, r1, r3⟩
theorem call_max2 (hc : X.calm = true) : CallR X (.builtin "max") (fun xs H Q => ∃ i j, xs = [.int i, .int j] /\ Q (.int (if j > i then j else i)) H) := by
  intro pins s σ H xs us Q I r h
  obtain ⟨i, j, rfl, q⟩ := h
  obtain ⟨u, w', rfl, ⟨t, rfl⟩, ⟨t', rfl⟩⟩ := vals2 r
  refine max_two_ints (I.ok.hd hc) fun h' tk k => ⟨_, H, I.kept k, ?_, q⟩
  by_cases hj : j > i
  · rw [if_pos hj, if_pos hj]; exact ⟨_, rfl⟩
  · rw [if_neg hj, if_neg hj]; exact ⟨_, rfl⟩
theorem call_min2 (hc : X.calm = true) : CallR X (.builtin "min") (fun xs H Q => ∃ i j, xs = [.int i, .int j] /\ Q (.int (if j < i then j else i)) H) := by
  intro pins s σ H xs us Q I r h
  obtain ⟨i, j, rfl, q⟩ := h
  obtain ⟨u, w', rfl, ⟨t, rfl⟩, ⟨t', rfl⟩⟩ := vals2 r
  refine min_two_ints (I.ok.hd hc) fun h' tk k => ⟨_, H, I.kept k, ?_, q⟩
  by_cases hj : j < i
  · rw [if_pos hj, if_pos hj]; exact ⟨_, rfl⟩
  · rw [if_neg hj, if_neg hj]; exact ⟨_, rfl⟩
theorem call_int1 : CallR X (.type "int") (fun xs H Q => (∃ i, xs = [.int i] /\ Q (.int i) H) \/ ∃ k, xs = [.bl k] /\ Q (.int (if k then 1 else 0)) H) := by
  intro pins s σ H xs us Q I r h
  rcases h with ⟨i, rfl, q⟩ | ⟨k, rfl, q⟩
  · obtain ⟨u, rfl, t, rfl⟩ := vals1 r
    exact call_int_int ⟨.int i, H, I, ⟨_, rfl⟩, q⟩
  · obtain ⟨u, rfl, r1⟩ := vals1 r
    cases r1
    exact call_int_bool ⟨.int (if k then 1 else 0), H, I.tok _, ⟨_, rfl⟩, q⟩
end
structure ObjM (h : Heap) (x dx C : Addr) (mA : Str -> Option Value) : Prop where
  obj : h.get? x = some (PySem.W.instObj C dx)
  ns : h.Ns1 dx mA
  ne : dx ≠ x
theorem lookIn_ns {h : Heap} {dx : Addr} {mA : Str -> Option Value} (n : h.Ns1 dx mA) : ∃ od, h.get? dx = some od /\ ∀ name, PySem.W.lookIn name od = some (mA name) := by
  obtain ⟨o, es, ep, ho, hd, hk, _, hm⟩ := n
  refine ⟨o, ho, fun name => ?_⟩
  have e := hm name
  unfold nsFind findBy at e
  rw [<- Array.find?_toList] at e
  unfold PySem.W.lookIn
  rw [hd]
  dsimp only
  split
  · rename_i y q
    rw [q] at e
    exact congrArg some e
  · rename_i q
    rw [q] at e
    have a : es.toList.any (·.refKey) = false := by
      rw [List.any_eq_false]
      intro y hy
      obtain ⟨z, t, hkey⟩ := hk y (Array.mem_toList_iff.mp hy)
      simp [DictEntry.refKey, hkey]
    have a' : ¬ es.toList.any (·.refKey) = true := by rw [a]; exact Bool.false_ne_true
    rw [if_neg a']
    exact congrArg some e
theorem ObjM.look {h : Heap} {x dx C : Addr} {mA : Str -> Option Value} (I : ObjM h x dx C mA) : ∃ od, PySem.W.InstAt h x (PySem.W.instObj C dx) C (some od) /\ ∀ name, PySem.W.lookIn name od = some (mA name) :=
  let ⟨od, ho, hl⟩ := lookIn_ns I.ns
  ⟨od, ⟨I.obj, rfl, rfl, ho⟩, hl⟩
section
variable {prog : Program} {w : World} {A : Around} {E : Value -> Shared -> Prop} {s : Shared} {K : PySem.W.Frag} {x dx C f : Addr} {mA : Str -> Option Value} {name : Str} {v : Value}
end
section
variable {P : Program} {w : World} {H H' : Hp} {h h' : Heap} {a C dx : Addr} {fs fs' : List (Str × V)}
theorem ins_get (hok : HOk P w H h) (e : H a = some (.ins C dx fs)) : ∃ mA, ObjM h a dx C mA /\ (∀ f, RelO (fs.lookup f) (mA f)) /\ PySem.Within mA (fs.map (·.1)) /\ fs.length <= 1000 /\ H dx = some (.own a) := by
  obtain ⟨d, z, ne, ob, mA, n, r, q⟩ := (show ObjOk P w H h a (.ins C dx fs) from hok a _ e)
  exact ⟨mA, ⟨ob, n, ne⟩, r, q, z, d⟩
end
structure Cls (K : PySem.W.Frag) (C : Addr) : Prop where
  pg : PySem.W.plainGet K C Str.empty = true
  hd : PySem.W.hasDictIn K C = true
  po : PySem.W.plainOver K C = true
  sa : PySem.W.findIn K (.ref C) "__setattr__" = some (some (.builtin "object.__setattr__"))
theorem Cls.get {K : PySem.W.Frag} {C : Addr} (c : Cls K C) (f : Str) : PySem.W.plainGet K C f = true := c.pg
section
variable {X : Cx} {pins : List (Addr × Obj)} {σ : St} {H : Hp} {s : Shared} {a C dx : Addr} {fs : List (Str × V)} {f : Str} {v : V} {A : Around} {E : Value -> Shared -> Prop}
end
section
variable {X : Cx} {o e value : Expr} {f : Str} {pos pos' tpos : Pos} {ta tv : TE}
end
section
variable {X : Cx} {pins : List (Addr × Obj)} {σ : St} {H : Hp} {s : Shared} {A : Around} {E : Value -> Shared -> Prop} {Q : Value -> Shared -> Prop} {c : Value} {b : Bool}
inductive TyOf (K : PySem.W.Frag) (H : Hp) : V -> Value -> Prop where
  | non : TyOf K H .non (.type "NoneType")
  | bl (x : Bool) : TyOf K H (.bl x) (.type "bool")
  | int (i : Int) : TyOf K H (.int i) (.type "int")
  | str (x : Str) : TyOf K H (.str x) (.type "str")
  | flt (x : UInt64) : TyOf K H (.flt x) (.type "float")
  | lst {a : Addr} {xs : List V} (e : H a = some (.lst xs)) : TyOf K H (.ref a) (.type "list")
  | frz {a : Addr} {o : Obj} {xs : List V} (e : H a = some (.frz o (.lst xs))) : TyOf K H (.ref a) (.type "list")
  | tup {a : Addr} {xs : List V} (e : H a = some (.tup xs)) : TyOf K H (.ref a) (.type "tuple")
  | dK {a : Addr} {kvs : List (Key × V)} (e : H a = some (.dK kvs)) : TyOf K H (.ref a) (.type "dict")
  | dT {a : Addr} {kvs : List (List Key × V)} (e : H a = some (.dT kvs)) : TyOf K H (.ref a) (.type "dict")
  | ins {a C dx : Addr} {fs : List (Str × V)} (e : H a = some (.ins C dx fs)) (cl : Cls K C) (ha : PySem.W.findIn K (.ref C) "__class__" = some (some (.builtin "object.__class__")))
      (hn : PySem.W.specialIn K (.builtin "object.__class__") "__get__" = some (some (.builtin "getset_descriptor.__get__"))) (htk : PySem.W.takesIn K (.builtin "object.__class__") = some true)
      (hm : PySem.W.mroIn K C (.type "object") = some true) : TyOf K H (.ref a) (.ref C)
theorem isinst_ok {x : V} {u t : Value} (I : Inv X pins σ H s) (rx : RelV x u) (ty : TyOf X.K H x t) (e : PySem.W.kitOne X.K t c = some b) (h : ∀ tk, Q (.bool b) { s with toks := tk }) :
    wpAny (model X.prog X.w) A (call (.builtin "isinstance") [u, c]) Q E s := by
  cases ty with
  | non => cases (show u = Value.none from rx); exact PySem.W.kia_one PySem.W.kitx_none I.kIn True.intro e (fun z => nomatch z) h
  | bl y => cases (show u = Value.bool y from rx); exact PySem.W.kia_one PySem.W.kitx_bool I.kIn True.intro e (fun z => nomatch z) h
  | int i => obtain ⟨t, q⟩ := (show ∃ t, u = Value.int i t from rx); cases q; exact PySem.W.kia_one PySem.W.kitx_int I.kIn True.intro e (fun z => nomatch z) h
  | str y => obtain ⟨t, q⟩ := (show ∃ t, u = Value.str y t from rx); cases q; exact PySem.W.kia_one PySem.W.kitx_str I.kIn True.intro e (fun z => nomatch z) h
  | flt y => obtain ⟨t, q⟩ := (show ∃ t, u = Value.float y t from rx); cases q; exact PySem.W.kia_one PySem.W.kitx_float I.kIn True.intro e (fun z => nomatch z) h
  | @lst a xs ea =>
    cases (show u = Value.ref a from rx)
    obtain ⟨_, _, n, _, h1⟩ := (show ObjOk X.prog X.w H s.heap a (.lst xs) from I.hok a _ ea)
    exact PySem.W.kia_one PySem.W.kitx_list I.kIn ⟨_, h1, rfl⟩ e (fun z => nomatch z) h
  | @frz a ob xs ea =>
    cases (show u = Value.ref a from rx)
    obtain ⟨_, _, _, n, _, h1⟩ := (show ObjOk X.prog X.w H s.heap a (.frz ob (.lst xs)) from I.hok a _ ea)
    exact PySem.W.kia_one PySem.W.kitx_list I.kIn ⟨_, h1, rfl⟩ e (fun z => nomatch z) h
  | @tup a xs ea =>
    cases (show u = Value.ref a from rx)
    obtain ⟨_, _, _, p⟩ := (show ObjOk X.prog X.w H s.heap a (.tup xs) from I.hok a _ ea)
    obtain ⟨o, h1, h2, _⟩ := p
    exact PySem.W.kia_one PySem.W.kitx_tuple I.kIn ⟨o, h1, h2⟩ e (fun z => nomatch z) h
  | @dK a kvs ea =>
    cases (show u = Value.ref a from rx)
    obtain ⟨_, _, vs, _, p⟩ := (show ObjOk X.prog X.w H s.heap a (.dK kvs) from I.hok a _ ea)
    obtain ⟨o, es, ep, h1, h2, _⟩ := p
    exact PySem.W.kia_one PySem.W.kitx_dict I.kIn ⟨o, h1, h2.1⟩ e (fun z => nomatch z) h
  | @dT a kvs ea =>
    cases (show u = Value.ref a from rx)
    obtain ⟨_, _, xs, _, o, es, ep, h1, h2, _⟩ := (show ObjOk X.prog X.w H s.heap a (.dT kvs) from I.hok a _ ea)
    exact PySem.W.kia_one PySem.W.kitx_dict I.kIn ⟨o, h1, h2.1⟩ e (fun z => nomatch z) h
  | @ins a C dx fs ea cl ha hn htk hm =>
    cases (show u = Value.ref a from rx)
    obtain ⟨mA, O, _⟩ := ins_get I.hok ea
    obtain ⟨od, J, _⟩ := O.look
    exact PySem.W.kia_one (PySem.W.kitx_own (cl.get _) cl.hd ha hn htk hm) I.kIn J e (fun z => nomatch z) h
end
structure Room (k : Nat) (A : Around) : Prop where
  hd : A.handled = none
  dp : A.depth + 3 * k + 5 < recursionLimit
  un : A.units + 16 * k + 200 < cLine
theorem Room.mono {j k : Nat} {A : Around} (r : Room k A) (h : j <= k) : Room j A := ⟨r.hd, by have := r.dp; lia, by have := r.un; lia⟩
theorem Room.deeper {k : Nat} {A : Around} (r : Room (k + 1) A) (env : Env) : Room k (A.deeper env) :=
  ⟨r.hd, by have := r.dp; show A.depth + 1 + 3 * k + 5 < _; lia, by have := r.un; show A.units + 3 + 16 * k + 200 < _; lia⟩
theorem Room.depth {k : Nat} {A : Around} (r : Room k A) : A.depth < recursionLimit := by have := r.dp; lia
def tNil : TA := fun _ H Q => Q [] H
def tCons (ta : TE) (tr : TA) : TA := fun σ H Q => ta σ H fun x H1 => tr σ H1 fun xs H2 => Q (x :: xs) H2
section
variable {X : Cx} {e : Expr} {es : List Expr} {te : TE} {t : TA} {pos : Pos}
theorem pa_nil : PA X [] tNil := fun _ _ _ _ H Q I h => Calls.spliced_nil ⟨[], H, I, .nil, h⟩
theorem pa_cons (ha : PE X e te) (hr : PA X es t) (hs : starEach (e :: es) X.env = (false, eval e X.env) :: starEach es X.env := by rfl) : PA X (e :: es) (tCons te t) := by
  intro pos pins s σ H Q I h
  rw [hs]
  show wpAny _ _ (spliced ((false, eval e X.env) :: backTo pos (starEach es X.env))) _ _ s
  refine Calls.spliced_cons (thn (ha pins s σ H _ I h) fun u s1 ⟨x, H1, I1, r1, q1⟩ => ?_)
  exact thn (hr pos pins s1 σ H1 _ I1 q1) fun us s2 ⟨xs, H2, I2, r2, q2⟩ => ⟨x :: xs, H2, I2, .cons r1 r2, q2⟩
def tTup (t : TA) : TE := fun σ H Q => t σ H fun xs H1 => xs.length <= sizeLine /\ ∀ p, H1 p = none -> Q (.ref p) (upd H1 p (.tup xs))
def tLst (t : TA) : TE := fun σ H Q => t σ H fun xs H1 => xs.length <= sizeLine /\ ∀ p, H1 p = none -> Q (.ref p) (upd H1 p (.lst xs))
theorem pe_tup {x1} (h : PA X es t) : PE X (.Tuple es x1 pos) (tTup t) := by
  intro pins s σ H Q I hq
  refine wpAny_Tuple_spliced (thn (h pos pins s σ H _ I hq) fun us s1 ⟨xs, H1, I1, r, z, q⟩ => ⟨by rw [<- r.length]; exact z, ?_⟩)
  have hf : H1 s1.heap.objs.size = none := I1.hok.fresh (Nat.le_refl _)
  refine ⟨.ref s1.heap.objs.size, upd H1 s1.heap.objs.size (.tup xs), I1.laid (t' := s1.toks) (fun b u e => Heap.get?_push_of_some _ e) (Nat.le_refl _) ?_, rfl, q _ hf⟩
  exact ⟨z, us, r, ⟨_, Heap.get?_push_size _ rfl, rfl, _, rfl⟩⟩
theorem pe_lst (h : PA X es t) : PE X (.List es pos) (tLst t) := by
  intro pins s σ H Q I hq
  refine wpAny_List_spliced (thn (h pos pins s σ H _ I hq) fun us s1 ⟨xs, H1, I1, r, z, q⟩ => ⟨by rw [<- r.length]; exact z, ?_⟩)
  have hf : H1 s1.heap.objs.size = none := I1.hok.fresh (Nat.le_refl _)
  refine ⟨.ref s1.heap.objs.size, upd H1 s1.heap.objs.size (.lst xs), I1.laid (t' := s1.toks) (fun b u e => Heap.get?_push_of_some _ e) (Nat.le_refl _) ?_, rfl, q _ hf⟩
  exact ⟨z, us, 0, r, Heap.get?_push_size _ rfl⟩
end
abbrev Sp := List V -> Hp -> VK -> XK -> Prop
abbrev CXT := List Env -> Hp -> Shared -> XK -> Value -> Shared -> Prop
structure Env0 (P : Program) (w : World) (K : PySem.W.Frag) (mg : Str -> Option Value) (base : Heap) (A : Around) (outer : List Env) (s : Shared) (H : Hp) : Prop where
  frames : A.frames = some outer
  mod : Mod K mg base
  bs : ∀ b o, base.get? b = some o -> s.heap.get? b = some o /\ H b = none
  bsz : base.objs.size <= s.heap.objs.size
  funs : s.heap.FunFrames base outer
  frf : ∀ b ∈ frs outer, H b = none
  hok : HOk P w H s.heap
  bare : AllBare s.gens
def CE (outer : List Env) (P : Program) (w : World) (H : Hp) (s : Shared) (Q : VK) (u : Value) (s' : Shared) : Prop :=
  ∃ v H', s'.os = s.os /\ AllBare s'.gens /\ Un (frs outer) [] H H' s.heap s'.heap /\ HOk P w H' s'.heap /\ RelV v u /\ Q v H'
def CR (CX : CXT) (outer : List Env) (P : Program) (w : World) (H : Hp) (s : Shared) (Q : VK) (E : XK) (r : Result) (s' : Shared) : Prop :=
  match r with
  | .ok (.ret u) => CE outer P w H s Q u s'
  | .ok _ => False
  | .error e => CX outer H s E e s'
structure FnOk (P : Program) (w : World) (K : PySem.W.Frag) (mg : Str -> Option Value) (base : Heap) (CX : CXT) (k : Nat) (f : Addr) (fd : FuncData) (ps : List Str) (sp : Sp) : Prop where
  len : ∀ vs H Q E, sp vs H Q E -> vs.length = ps.length
  run : ∀ (A : Around) (outer : List Env) (s : Shared) (H : Hp) (args : Args) (us : List Value) (vs : List V) (Q : VK) (E : XK), Room k A -> Env0 P w K mg base A outer s H -> BindsTo s fd args (ps.zip us) -> Vals vs us -> sp vs H Q E ->
    codeAny (model P w) A (.call (.ref f) args) (CR CX outer P w H s Q E) s
section
variable {X : Cx} {pins : List (Addr × Obj)} {σ : St} {H : Hp} {s s' : Shared}
theorem Inv.env0 (I : Inv X pins σ H s) : Env0 X.prog X.w X.K X.mg X.base X.A X.stack s H :=
  ⟨I.ok.frames, I.ok.mod, I.bs, Nat.le_trans I.ok.bsz I.sz, I.stack, I.stkFree, I.hok, I.bare⟩
theorem Inv.after {Q : VK} {u : Value} (I : Inv X pins σ H s) (h : CE X.stack X.prog X.w H s Q u s') : EP X pins σ Q u s' := by
  obtain ⟨v, H', os, bare, un, hok, r, q⟩ := h
  obtain ⟨hh, g, d, t, os'⟩ := s'
  obtain rfl : os' = s.os := os
  exact ⟨v, H', I.call (h' := hh) (g' := g) (d' := d) (t' := t) (ch := []) un hok bare (fun b z => absurd z (by simp)), r, q⟩
end
def tCall (sp : Sp) (dvs : List V) (E : XK) (t : TA) : TE := fun σ H Q => t σ H fun vs H1 => sp (vs ++ dvs) H1 Q E
def Binds (K : PySem.W.Frag) (fd : FuncData) (ps : List Str) (ds : List Value) : Prop :=
  ∀ (s : Shared) (us : List Value), K.In s.heap -> (us ++ ds).length = ps.length -> BindsTo s fd ⟨us, []⟩ (ps.zip (us ++ ds))
theorem Binds.all {K : PySem.W.Frag} {fd : FuncData} {ps : List Str} (h : ∀ us : List Value, us.length = ps.length -> bindArgs fd ⟨us, []⟩ = pure (ps.zip us)) : Binds K fd ps [] := fun s us _ hl => by
  rw [List.append_nil] at hl ⊢
  exact .of_eq (h us hl)
def Passes (CX : CXT) (X : Cx) (E : XK) : Prop := ∀ (pins : List (Addr × Obj)) (σ : St) (H : Hp) (s : Shared) (e : Value) (s' : Shared), Inv X pins σ H s -> CX X.stack H s E e s' -> X.xe e s'
section
variable {X : Cx} {CX : CXT} {k : Nat} {f C : Addr} {fd : FuncData} {ps : List Str} {sp : Sp} {dvs : List V} {ds : List Value} {E : XK} {x m : Str} {p pos apos : Pos} {e o : Expr} {es : List Expr} {ta : TE} {t : TA}
theorem run_fn {pins : List (Addr × Obj)} {σ : St} {H : Hp} {s : Shared} {Q : VK} {us : List Value} {vs : List V} (F : FnOk X.prog X.w X.K X.mg X.base CX k f fd ps sp) (hr : Room k X.A) (hb : Binds X.K fd ps ds) (hd : Vals dvs ds) (hx : Passes CX X E)
    (I : Inv X pins σ H s) (r : Vals vs us) (h : sp (vs ++ dvs) H Q E) : wpAny (model X.prog X.w) X.A (call (.ref f) us) (EP X pins σ Q) X.xe s := by
  have r2 : Vals (vs ++ dvs) (us ++ ds) := r.append hd
  have hl : (us ++ ds).length = ps.length := by rw [<- r2.length]; exact F.len _ _ _ _ h
  refine wpAny_call (codeAny_mono (F.run X.A X.stack s H ⟨us, []⟩ (us ++ ds) (vs ++ dvs) Q E hr I.env0 (hb s us I.kIn hl) r2 h) fun r s' hq => ?_)
  cases r with
  | error e => exact hx pins σ H s e s' I hq
  | ok fl =>
    cases fl with
    | ret u => exact I.after hq
    | next => exact False.elim hq
    | brk => exact False.elim hq
    | cont => exact False.elim hq
theorem pe_call (F : FnOk X.prog X.w X.K X.mg X.base CX k f fd ps sp) (hr : Room k X.A) (hg : Gl X x) (hm : X.mg x = some (.ref f)) (hk : PySem.W.keepIn X.K (.ref f) = true) (hb : Binds X.K fd ps ds) (hd : Vals dvs ds) (hx : Passes CX X E)
    (ha : PA X (e :: es) t) (hdb : (x == ("__debug__" : Str)) = false := by decide) (he : starEach (e :: es) X.env = (false, eval e X.env) :: starEach es X.env := by rfl) (hpl : (backTo pos (starEach es X.env)).any (·.1) = false := by rfl) :
    PE X (.Call (.Name x p) (e :: es) [] pos) (tCall sp dvs E t) := by
  intro pins s σ H Q I h
  refine wpAny_Call_Name_kw (ld_glob I hg hm ?_ hdb)
  refine PySem.W.callWith_K (h₀ := X.base) I.ok.mod.kin hk (thn (ha pos pins s σ H _ I h) fun us s1 ⟨vs, H1, I1, r, q⟩ => ⟨I1.kIn, ?_⟩) he hpl
  exact run_fn F hr hb hd hx I1 r q
end
def PK (X : Cx) (kws : List Keyword) (t : TA) : Prop :=
  ∀ (pos : Pos) (pins : List (Addr × Obj)) (s : Shared) (σ : St) (H : Hp) (Q : List V -> Hp -> Prop), Inv X pins σ H s -> t σ H Q -> wpAny (model X.prog X.w) X.A (evalAll ((backToKw pos (keywordEach kws X.env)).map (·.2))) (AP X pins σ Q) X.xe s
section
variable {X : Cx} {CX : CXT} {k : Nat} {f C : Addr} {fd : FuncData} {ps ks : List Str} {sp : Sp} {E : XK} {x m : Str} {p pos apos kpos : Pos} {e o : Expr} {es : List Expr} {kws : List Keyword} {te ta : TE} {t tk : TA} {nm : Option Str}
variable {g : List Value -> List Value -> List Value} {gV : List V -> List V -> List V}
end
structure FnScope (N P : List Str) (sc : Scope) : Prop where
  kind : sc.kind = .function
  co : sc.isCoroutine = false
  gen : sc.isGenerator = false
  nd : N.Nodup
  pre : N.take P.length = P
  par : ∀ x ∈ P, sc.names.lookup x = some .local \/ sc.names.lookup x = some .cell
  nofree : ∀ y ∈ sc.names, y.2 ≠ .free
theorem bindL_out {kindOf : Str -> Option NameKind} {x : Str} : ∀ {binds : List (Str × Value)} {m : Str -> Option Value}, (∀ v, (x, v) ∉ binds) -> bindL kindOf binds m x = m x
  | [], _, _ => rfl
  | (n, v) :: r, m, h => by
    unfold bindL
    rw [bindL_out fun w hw => h w (List.mem_cons_of_mem _ hw)]
    split
    · have : x ≠ n := by rintro rfl; exact h v List.mem_cons_self
      simp [this]
    · rfl
theorem bindC_out {kindOf : Str -> Option NameKind} {x : Str} : ∀ {binds : List (Str × Value)} {m : Str -> Option Value}, (∀ v, (x, v) ∉ binds) -> bindC kindOf binds m x = m x
  | [], _, _ => rfl
  | (n, v) :: r, m, h => by
    unfold bindC
    rw [bindC_out fun w hw => h w (List.mem_cons_of_mem _ hw)]
    split
    · rfl
    · have : x ≠ n := by rintro rfl; exact h v List.mem_cons_self
      simp [this]
theorem bindL_get {kindOf : Str -> Option NameKind} {x : Str} {v : Value} : ∀ {P : List Str} {vs : List Value} {i : Nat} {m : Str -> Option Value}, P.Nodup -> P[i]? = some x -> vs[i]? = some v -> kindOf x = some .local ->
    bindL kindOf (P.zip vs) m x = some v
  | [], _, _, _, _, h, _, _ => by simp at h
  | _ :: _, [], _, _, _, _, h, _ => by simp at h
  | p :: P, w :: vs, 0, m, nd, h1, h2, hk => by
    simp at h1 h2; subst h1; subst h2
    show bindL kindOf ((p, w) :: P.zip vs) m p = _
    unfold bindL
    rw [bindL_out fun v hv => (List.nodup_cons.mp nd).1 (List.of_mem_zip hv).1, if_pos hk]
    simp
  | p :: P, w :: vs, i + 1, m, nd, h1, h2, hk => by
    show bindL kindOf ((p, w) :: P.zip vs) m x = _
    unfold bindL
    exact bindL_get (i := i) (List.nodup_cons.mp nd).2 (by simpa using h1) (by simpa using h2) hk
theorem bindC_get {kindOf : Str -> Option NameKind} {x : Str} {v : Value} : ∀ {P : List Str} {vs : List Value} {i : Nat} {m : Str -> Option Value}, P.Nodup -> P[i]? = some x -> vs[i]? = some v -> kindOf x ≠ some .local ->
    bindC kindOf (P.zip vs) m x = some v
  | [], _, _, _, _, h, _, _ => by simp at h
  | _ :: _, [], _, _, _, _, h, _ => by simp at h
  | p :: P, w :: vs, 0, m, nd, h1, h2, hk => by
    simp at h1 h2; subst h1; subst h2
    show bindC kindOf ((p, w) :: P.zip vs) m p = _
    unfold bindC
    rw [bindC_out fun v hv => (List.nodup_cons.mp nd).1 (List.of_mem_zip hv).1, if_neg hk]
    simp
  | p :: P, w :: vs, i + 1, m, nd, h1, h2, hk => by
    show bindC kindOf ((p, w) :: P.zip vs) m x = _
    unfold bindC
    exact bindC_get (i := i) (List.nodup_cons.mp nd).2 (by simpa using h1) (by simpa using h2) hk
def start (N : List Str) (vs : List V) : St := vs.map some ++ List.replicate (N.length - vs.length) none
def cxOf (CX : CXT) (P : Program) (w : World) (K : PySem.W.Frag) (mg : Str -> Option Value) (base : Heap) (N : List Str) (qual : Str) (scope : Scope) (f : Addr) (cd : Value) (A : Around) (outer : List Env) (s : Shared) (H : Hp) (E : XK) : Cx where
  prog := P
  w := w
  K := K
  mg := mg
  base := base
  A := A.deeper (envOfC qual scope s.heap.objs.size f cd)
  N := N
  s₀ := s
  H₀ := H
  env := envOfC qual scope s.heap.objs.size f cd
  outer := outer
  stack := envOfC qual scope s.heap.objs.size f cd :: outer
  ex := []
  calm := true
  fn := fun _ => true
  pn := []
  xe := fun e s' => wpAny (model P w) (A.deeper (envOfC qual scope s.heap.objs.size f cd)) (leaving (envOfC qual scope s.heap.objs.size f cd) e) (fun _ s'' => CX outer H s E e s'') (fun e' s'' => CX outer H s E e' s'') s'
theorem cell_has {sc : Scope} {n : Nat} {x : Str} (h : sc.names.lookup x = some .cell) : ∃ c, (cellsFrom n sc.names []).lookup x = some c := by
  have q := PySem.W.cellsFrom_some sc.names n [] (.inl h)
  exact Option.isSome_iff_exists.mp q
theorem inv_start {CX : CXT} {P : Program} {w : World} {K : PySem.W.Frag} {mg : Str -> Option Value} {base : Heap} {N ps : List Str} {qual : Str} {scope : Scope} {f : Addr} {cd : Value} {A : Around} {outer : List Env} {s s1 : Shared} {H : Hp} {E : XK} {us : List Value} {vs : List V}
    (S : FnScope N ps scope) (hd : A.handled = none) (e0 : Env0 P w K mg base A outer s H) (hl : vs.length = ps.length) (r : Vals vs us)
    (x : InCallC s s.heap.objs.size (bindL (envOfC qual scope s.heap.objs.size f cd).kindOf (ps.zip us) fun _ => none) (cellsFrom (s.heap.objs.size + 1) scope.names []) (bindC (envOfC qual scope s.heap.objs.size f cd).kindOf (ps.zip us) fun _ => none) s1) :
    Inv (cxOf CX P w K mg base N qual scope f cd A outer s H E) [] (start N vs) H s1 := by
  have hpl : ps.length <= N.length := by have := congrArg List.length S.pre; rw [List.length_take] at this; lia
  obtain ⟨h1, tk, rfl, hk⟩ := x.done
  have noA : ∀ b : Addr, b ∉ (cxOf CX P w K mg base N qual scope f cd A outer s H E).ex := fun b z => absurd (show b ∈ ([] : List Addr) from z) (by simp)
  refine ⟨⟨e0.mod, S.kind, rfl, rfl, Nat.le_refl _, fun y z c h1 h2 => ?_, fun y hy => ?_, fun y c _ h => ?_, fun _ => hd, Around.frames_deeper e0.frames, .inr ⟨rfl, rfl⟩, fun b z => absurd z (noA b), e0.bs, e0.bsz, fun b _ _ => noA b, fun b z => absurd z (noA b), e0.funs, e0.frf⟩,
    rfl, e0.bare, Un.kept hk, ⟨_, x.toInCall.ns, fun i y v h1 h2 h3 => ?_⟩, fun y c h => ⟨_, x.cell y c h⟩, e0.hok.fresh (Nat.le_refl _), fun y c h => ?_, fun p hp => absurd (show p ∈ ([] : List (Addr × Obj)) from hp) (by simp), e0.hok.kept hk, ?_⟩
  · exact name_of_addr x.apart (PySem.mem_of_lookup h1) (PySem.mem_of_lookup h2)
  · have hy : scope.names.lookup y = some .cell \/ scope.names.lookup y = some .free := hy
    rcases hy with hy | hy
    · exact cell_has hy
    · exact absurd rfl (S.nofree _ (PySem.mem_of_lookup hy))
  · exact Nat.le_of_lt (x.above y c (PySem.mem_of_lookup h))
  · have hi : i < vs.length := by
      unfold start at h2
      by_cases hi : i < vs.length
      · exact hi
      · rw [List.getElem?_append_right (by simpa using hi)] at h2
        rw [List.getElem?_replicate] at h2
        split at h2 <;> cases h2
    have ha : vs[i]? = some v := by
      unfold start at h2
      rw [List.getElem?_append_left (by simpa using hi), List.getElem?_map] at h2
      cases e : vs[i]? with
      | none => rw [e] at h2; cases h2
      | some a => rw [e] at h2; cases h2; rfl
    obtain ⟨u, hu, rv⟩ := r.get ha
    have hp : ps[i]? = some y := by
      rw [<- S.pre, List.getElem?_take_of_lt (by lia)]; exact h1
    have ndP : ps.Nodup := by rw [<- S.pre]; exact S.nd.sublist (List.take_sublist _ _)
    refine ⟨u, rv, ?_⟩
    rcases S.par y (List.mem_of_getElem? hp) with k | k
    · exact .inl ⟨k, bindL_get ndP hp hu k⟩
    · obtain ⟨c, e⟩ := cell_has (n := s.heap.objs.size + 1) k
      refine .inr ⟨.inl k, c, e, ?_⟩
      have q := x.cell y c e
      rw [bindC_get ndP hp hu (by show scope.names.lookup y ≠ _; rw [k]; decide)] at q
      exact q
  · exact e0.hok.fresh (Nat.le_of_lt (x.above y c (PySem.mem_of_lookup h)))
  · unfold start
    show _ = N.length
    rw [List.length_append, List.length_map, List.length_replicate]
    lia
theorem fn_of {CX : CXT} {P : Program} {w : World} {K : PySem.W.Frag} {mg : Str -> Option Value} {base : Heap} {k : Nat} {f : Addr} {name qual : Str} {params : Arguments} {body : List Stmt} {scope : Scope} {dV kV doc pm cdv ct oc : Value} {an od : Option Addr}
    {osl : Array (Option Value)} {N ps : List Str} {sp : Sp} (lk : K.lookup f = some ⟨oc, od, .func (PySem.W.fnOf name qual params body scope dV kV doc pm an cdv ct), osl⟩) (hcd : PySem.W.codeIn K cdv qual = true) (S : FnScope N ps scope)
    (len : ∀ vs H Q E, sp vs H Q E -> vs.length = ps.length)
    (hbody : ∀ (A : Around) (outer : List Env) (s : Shared) (H : Hp) (vs : List V) (Q : VK) (E : XK), Room k (A.deeper (envOfC qual scope s.heap.objs.size f cdv)) -> sp vs H Q E ->
      ∃ t, PSs (cxOf CX P w K mg base N qual scope f cdv A outer s H E) body t /\ t { nx := fun _ H' => Q .non H', rt := Q } (start N vs) H) :
    FnOk P w K mg base CX (k + 1) f (PySem.W.fnOf name qual params body scope dV kV doc pm an cdv ct) ps sp := by
  refine ⟨len, fun A outer s H args us vs Q E hr e0 hb r hsp => ?_⟩
  have hl := len _ _ _ _ hsp
  have KX : K.In s.heap := e0.mod.kin.keeps fun b o e => (e0.bs b o e).1
  have lim : s.heap.NoLimit := e0.mod.nolimit.keeps fun b o e => (e0.bs b o e).1
  have hkind : ∀ y ∈ ps.zip us, scope.names.lookup y.1 = some .local \/ (scope.names.lookup y.1 = some .cell /\ ((cellsFrom (s.heap.objs.size + 1) scope.names []).lookup y.1).isSome = true) := fun ⟨n, v⟩ hy => by
    rcases S.par n (List.of_mem_zip hy).1 with q | q
    · exact .inl q
    · exact .inr ⟨q, PySem.W.cellsFrom_some _ _ _ (.inl q)⟩
  refine codeAny_call_function hr.depth (KX _ _ lk) rfl S.co S.gen rfl (PySem.W.codeRec_of KX hcd) (hb _ _ _ _ ?_)
  refine wpAny_newFunctionEnv_cells S.kind hkind fun env he s1 x => ?_
  subst he
  refine ⟨lim.keeps x.toInCall.keep, codeAny_func ?_⟩
  obtain ⟨t, ht, hq⟩ := hbody A outer s H vs Q E (hr.deeper _) hsp
  have I : Inv (cxOf CX P w K mg base N qual scope f cdv A outer s H E) [] (start N vs) H s1 := inv_start S hr.hd e0 hl r x
  refine wpAny_mono (ht [] s1 (start N vs) H _ I hq) (fun fl s' hs => ?_) fun e s' hs => hs
  have fin : ∀ {σ' : St} {H' : Hp} {v : V} {u : Value}, Inv (cxOf CX P w K mg base N qual scope f cdv A outer s H E) [] σ' H' s' -> RelV v u -> Q v H' -> CE outer P w H s Q u s' :=
    fun {σ' H' v u} J rv q => ⟨v, H', J.os, J.bare, J.base, J.hok, rv, q⟩
  cases fl with
  | ret u =>
    obtain ⟨v, σ', H', J, rv, q⟩ := hs
    exact fin J rv q
  | next =>
    obtain ⟨σ', H', J, q⟩ := hs
    exact fin (v := V.non) (u := Value.none) J rfl q
  | brk =>
    obtain ⟨_, _, _, q⟩ := hs
    exact False.elim q
  | cont =>
    obtain ⟨_, _, _, q⟩ := hs
    exact False.elim q
section
variable {X : Cx} {x : Str} {p pos : Pos} {e : Expr} {es : List Expr} {t : TA} {id T : String} {r : List V -> Hp -> VK -> Prop}
def tCB (r : List V -> Hp -> VK -> Prop) (t : TA) : TE := fun σ H Q => t σ H fun vs H1 => r vs H1 Q
theorem pe_callB (hc : CallR X (.builtin id) r) (hg : Gl X x) (hm : X.mg x = none) (hv : bootBuiltins x = some (.builtin id)) (ha : PA X (e :: es) t) (hn : x ≠ "__name__" := by decide) (hdb : (x == ("__debug__" : Str)) = false := by decide)
    (he : starEach (e :: es) X.env = (false, eval e X.env) :: starEach es X.env := by rfl) (hpl : (backTo pos (starEach es X.env)).any (·.1) = false := by rfl) : PE X (.Call (.Name x p) (e :: es) [] pos) (tCB r t) := by
  intro pins s σ H Q I h
  refine wpAny_Call_Name_kw (ld_blt I hg hm hv ?_ hn hdb)
  exact PyProof.Rows.callWith_builtin1 (thn (ha pos pins s σ H _ I h) fun us s1 ⟨vs, H1, I1, r1, q1⟩ => hc pins s1 σ H1 vs us Q I1 r1 q1) he hpl
theorem pe_callTy (hc : CallR X (.type T) r) (hg : Gl X x) (hm : X.mg x = none) (hv : bootBuiltins x = some (.type T)) (ha : PA X (e :: es) t) (hn : x ≠ "__name__" := by decide) (hdb : (x == ("__debug__" : Str)) = false := by decide)
    (he : starEach (e :: es) X.env = (false, eval e X.env) :: starEach es X.env := by rfl) (hpl : (backTo pos (starEach es X.env)).any (·.1) = false := by rfl) : PE X (.Call (.Name x p) (e :: es) [] pos) (tCB r t) := by
  intro pins s σ H Q I h
  refine wpAny_Call_Name_kw (ld_blt I hg hm hv ?_ hn hdb)
  exact PyProof.Rows.callWith_type1 (thn (ha pos pins s σ H _ I h) fun us s1 ⟨vs, H1, I1, r1, q1⟩ => hc pins s1 σ H1 vs us Q I1 r1 q1) he hpl
end
end L2
namespace HT
open PySem PyProof.Rows
section
open PySem.SeqAt
open PySem.AutoSeq1 (wpAny_loadPart')
open PySem.MeetsSeq PySem.MeetsSeq2 PySem.MeetsSeq3
end
section
variable {prog : Program} {w : World} {A : Around} {E : Value -> Shared -> Prop} {s : Shared}
def sIx (n d : Nat) : Option Int -> Nat
  | none => d
  | some v => if v < 0 then (v + (n : Int)).toNat else min v.toNat n
theorem sIx_nat (n d k : Nat) : sIx n d (some (k : Int)) = min k n := by
  show (if (k : Int) < 0 then ((k : Int) + (n : Int)).toNat else min (k : Int).toNat n) = min k n
  rw [if_neg (by lia), Int.toNat_natCast]
end
end HT
namespace L2
open PySem PySem.Spec PyProof.Rows
abbrev TO := St -> Hp -> (Option Int -> Hp -> Prop) -> Prop
def PO (X : Cx) (e : Option Expr) (t : TO) : Prop :=
  ∀ (pins : List (Addr × Obj)) (s : Shared) (σ : St) (H : Hp) (Q : Option Int -> Hp -> Prop), Inv X pins σ H s -> t σ H Q ->
    wpAny (model X.prog X.w) X.A (evalPart e X.env) (fun u s' => ∃ o H', Inv X pins σ H' s' /\ IsPart u o /\ Q o H') X.xe s
def tNoPart : TO := fun _ H Q => Q none H
def tPart (t : TE) : TO := fun σ H Q => t σ H fun x H1 => ∃ i, x = .int i /\ Q (some i) H1
section
variable {X : Cx} {e : Expr} {te : TE} {lo hi : Option Expr} {tl th : TO} {pos p2 : Pos}
theorem po_none : PO X none tNoPart := by
  intro pins s σ H Q I h
  rw [evalPart_none]
  exact wpAny_pure ⟨none, H, I, .none, h⟩
theorem po_some (h : PE X e te) : PO X (some e) (tPart te) := by
  intro pins s σ H Q I hw
  rw [evalPart_some]
  refine thn (h pins s σ H _ I hw) fun u s1 ⟨x, H1, I1, r1, q1⟩ => ?_
  obtain ⟨i, rfl, q⟩ := q1
  obtain ⟨t, rfl⟩ := r1
  exact ⟨some i, H1, I1, .int i t, q⟩
def SlR (X : Cx) (r : V -> Option Int -> Option Int -> Hp -> VK -> Prop) : Prop :=
  ∀ (pins : List (Addr × Obj)) (s : Shared) (σ : St) (H : Hp) (x : V) (v vl vu : Value) (lo hi : Option Int) (sl : Addr) (Q : VK), Inv X pins σ H s -> RelV x v -> s.heap.IsSliceOf sl vl vu .none -> IsPart vl lo -> IsPart vu hi -> r x lo hi H Q ->
    ∃ T id, typeLookup (.type T) "__getitem__" = pure (some (.builtin id)) /\ s.TypeIs v T /\ wpAny (model X.prog X.w) X.A (getItem v (.ref sl)) (EP X pins σ Q) X.xe s
def tSl (r : V -> Option Int -> Option Int -> Hp -> VK -> Prop) (te : TE) (tl th : TO) : TE := fun σ H Q => te σ H fun x H1 => tl σ H1 fun l H2 => th σ H2 fun u H3 => r x l u H3 Q
theorem pe_slice {r : V -> Option Int -> Option Int -> Hp -> VK -> Prop} (hr : SlR X r) (he : PE X e te) (hl : PO X lo tl) (hu : PO X hi th) : PE X (.Subscript e (.Slice lo hi none p2) pos) (tSl r te tl th) := by
  intro pins s σ H Q I h
  refine Subscript_ (thn (he pins s σ H _ I h) fun v s1 ⟨x, H1, I1, r1, q1⟩ => ?_)
  refine wpAny_Slice (thn (hl pins s1 σ H1 _ I1 q1) fun vl s2 ⟨l, H2, I2, pl, q2⟩ => thn (hu pins s2 σ H2 _ I2 q2) fun vu s3 ⟨u, H3, I3, pu, q3⟩ => ?_)
  rw [evalPart_none]
  refine wpAny_pure ?_
  have I4 : Inv X pins σ H3 { s3 with heap := s3.heap.push { cls := .type "slice", data := .fields #[vl, vu, .none] } } := I3.kept (t' := s3.toks) fun b ob q => Heap.get?_push_of_some _ q
  obtain ⟨T, id, hT, ht, hg⟩ := hr pins { s3 with heap := s3.heap.push { cls := .type "slice", data := .fields #[vl, vu, .none] } } σ H3 x v vl vu l u s3.heap.objs.size Q I4 r1 (Heap.IsSliceOf.new ..) pl pu q3
  show wpAny (model X.prog X.w) X.A (subscriptTail e (.Slice lo hi none p2) v (.ref s3.heap.objs.size)) (EP X pins σ Q) X.xe { s3 with heap := s3.heap.push { cls := .type "slice", data := .fields #[vl, vu, .none] } }
  exact tail_any (ops := [.ref s3.heap.objs.size, v]) ht hT hg (by with_unfolding_all rfl)
def cutV (xs : List V) (lo hi : Option Int) : List V := (xs.drop (HT.sIx xs.length 0 lo)).take (HT.sIx xs.length xs.length hi - HT.sIx xs.length 0 lo)
theorem cutV_length (xs : List V) (lo hi : Option Int) : (cutV xs lo hi).length <= xs.length := by
  unfold cutV
  rw [List.length_take, List.length_drop]
  lia
end
def ixN (n : Nat) (i : Int) : Option Nat := if 0 <= i then (if i < n then some i.toNat else none) else if -(n : Int) <= i then some (i + n).toNat else none
def atI {α : Type} (xs : List α) (i : Int) : Option α := (ixN xs.length i).bind fun j => xs[j]?
theorem ixN_seq {n : Nat} {i : Int} {j : Nat} (h : ixN n i = some j) : seqIndex? i n = some j /\ j < n /\ -(n : Int) <= i /\ i < n := by
  unfold ixN at h
  by_cases h0 : 0 <= i
  · rw [if_pos h0] at h
    by_cases h1 : i < n
    · rw [if_pos h1] at h
      have e : i.toNat = j := Option.some.inj h
      exact ⟨by rw [seqIndex_of h0 h1, e], by lia, by lia, h1⟩
    · rw [if_neg h1] at h; cases h
  · rw [if_neg h0] at h
    by_cases h1 : -(n : Int) <= i
    · rw [if_pos h1] at h
      have e : (i + n).toNat = j := Option.some.inj h
      exact ⟨by rw [seqIndex_neg (by lia) h1, e], by lia, h1, by lia⟩
    · rw [if_neg h1] at h; cases h
theorem atI_get {α : Type} {xs : List α} {i : Int} {v : α} (h : atI xs i = some v) : ∃ j, seqIndex? i xs.length = some j /\ xs[j]? = some v /\ j < xs.length /\ -(xs.length : Int) <= i /\ i < xs.length := by
  unfold atI at h
  cases e : ixN xs.length i with
  | none => rw [e] at h; cases h
  | some j =>
    rw [e] at h
    obtain ⟨h1, h2, h3, h4⟩ := ixN_seq e
    exact ⟨j, h1, h, h2, h3, h4⟩
theorem atI_nat {α : Type} {xs : List α} {j : Nat} {v : α} (h : xs[j]? = some v) : atI xs (j : Int) = some v := by
  have hj : j < xs.length := (List.getElem?_eq_some_iff.mp h).1
  have e : ixN xs.length (j : Int) = some j := by
    unfold ixN
    rw [if_pos (by lia), if_pos (by lia)]; simp
  unfold atI; rw [e]; exact h
theorem atI_last {α : Type} (xs : List α) (v : α) : atI (xs ++ [v]) (-1) = some v := by
  have hl : (xs ++ [v]).length = xs.length + 1 := by simp
  have e : ixN (xs ++ [v]).length (-1) = some xs.length := by
    unfold ixN
    rw [hl, if_neg (by decide), if_pos (by lia)]
    congr 1
    lia
  unfold atI
  rw [e]
  show (xs ++ [v])[xs.length]? = some v
  simp
def PlainIx (b : Expr) : Prop := ∀ o i, subscripted b false o i = operate [o, i] (getItem o i)
def IxR (X : Cx) (r : R2) : Prop :=
  ∀ (value slice : Expr) (pins : List (Addr × Obj)) (s : Shared) (σ : St) (H : Hp) (x y : V) (v u : Value) (Q : VK), Inv X pins σ H s -> RelV x v -> RelV y u -> r x y H Q ->
    subscripted slice false v u = operate [v, u] (getItem v u) -> wpAny (model X.prog X.w) X.A (subscriptTail value slice v u) (EP X pins σ Q) X.xe s
def MtR (X : Cx) (id : String) (r : V -> List V -> Hp -> VK -> Prop) : Prop :=
  ∀ (pins : List (Addr × Obj)) (s : Shared) (σ : St) (H : Hp) (x : V) (xs : List V) (v : Value) (us : List Value) (Q : VK), Inv X pins σ H s -> RelV x v -> Vals xs us -> r x xs H Q ->
    wpAny (model X.prog X.w) X.A (call (.builtin id) (v :: us)) (EP X pins σ Q) X.xe s
section
variable {X : Cx} {a b : Expr} {ta tb : TE} {pos : Pos}
theorem pe_ix {r : R2} (hr : IxR X r) (ha : PE X a ta) (hb : PE X b tb) (hs : PlainIx b) : PE X (.Subscript a b pos) (tOp r ta tb) := by
  intro pins s σ H Q I h
  exact Subscript_ (binT ha hb I h fun v u s2 x y H2 I2 rx ry q => hr a b pins s2 σ H2 x y v u Q I2 rx ry q (hs _ _))
def rIxL (K : PySem.W.Frag) : R2 := fun x y H Q => ∃ p xs i v, x = .ref p /\ y = .int i /\ SqL K H p xs /\ atI xs i = some v /\ Q v H
def rIxT (K : PySem.W.Frag) : R2 := fun x y H Q => ∃ p xs i v, x = .ref p /\ y = .int i /\ SqT K H p xs /\ atI xs i = some v /\ Q v H
theorem ix_list : IxR X (rIxL X.K) := by
  intro value slice pins s σ H x y v u Q I rx ry h hs
  obtain ⟨p, xs, i, z, rfl, rfl, hq, he, q⟩ := h
  cases rx
  obtain ⟨t, rfl⟩ := ry
  obtain ⟨its, r, pl, hz⟩ := I.list hq
  obtain ⟨j, h1, h2, h3, h4, h5⟩ := atI_get he
  obtain ⟨w, ew, rw'⟩ := r.get h2
  have hl := r.length
  have hn := line63
  have fin : EP X pins σ Q w s := ⟨z, H, I, rw', q⟩
  by_cases h0 : 0 <= i
  · have hj : i.toNat = j := by
      rw [seqIndex_of h0 h5] at h1
      exact Option.some.inj h1
    exact item_listR pl.isList h0 (by lia) (by rw [hj]; simpa using ew) fin hs
  · have hj : (i + (its.toArray.size : Int)).toNat = j := by
      rw [seqIndex_neg (by lia) h4] at h1
      rw [List.size_toArray, <- hl]
      exact Option.some.inj h1
    exact subscriptTail_builtinR (x := w) pl.isList.typeIs slot_list_getitem.lookup
      (wpAny_getItem_list_neg (Q := fun r s' => r = w /\ EP X pins σ Q r s') pl.isList (by lia) (by rw [List.size_toArray] <;> lia) (by lia) (by rw [hj]; simpa using ew) ⟨rfl, fin⟩) hs
theorem ix_tup : IxR X (rIxT X.K) := by
  intro value slice pins s σ H x y v u Q I rx ry h hs
  obtain ⟨p, xs, i, z, rfl, rfl, hq, he, q⟩ := h
  cases rx
  obtain ⟨t, rfl⟩ := ry
  obtain ⟨its, r, pl, hz⟩ := I.tuple hq
  obtain ⟨j, h1, h2, h3, h4, h5⟩ := atI_get he
  obtain ⟨w, ew, rw'⟩ := r.get h2
  have hl := r.length
  have hn := line63
  have fin : EP X pins σ Q w s := ⟨z, H, I, rw', q⟩
  exact subscriptTail_builtinR (x := w) pl.typeIs slot_tuple_getitem.lookup
    (getItem_tuple (j := j) (Q := fun r s' => r = w /\ EP X pins σ Q r s') pl (by lia) (by lia) (by rw [List.size_toArray, <- hl]; exact h1) (by simpa using ew) ⟨rfl, fin⟩) hs
theorem mapSeq_set (its : List Value) (n j : Nat) (u : Value) : Obj.mapSeq (·.setIfInBounds j u) { cls := .type "list", data := .seq its.toArray n } = { cls := .type "list", data := .seq (its.set j u).toArray n } := by
  simp [Obj.mapSeq]
theorem Inv.lst {pins : List (Addr × Obj)} {σ : St} {H : Hp} {s : Shared} {p : Addr} {xs : List V} (I : Inv X pins σ H s) (h : H p = some (.lst xs)) :
    ∃ (its : List Value) (n : Nat), Vals xs its /\ s.heap.get? p = some { cls := .type "list", data := .seq its.toArray n } /\ xs.length <= sizeLine := by
  obtain ⟨z, its, n, r, e⟩ := I.hok p _ h
  exact ⟨its, n, r, e, z⟩
theorem Inv.lstUpd {pins : List (Addr × Obj)} {σ : St} {H : Hp} {s : Shared} {p : Addr} {xs ys : List V} {its its' : List Value} {n n' : Nat} {f : Obj -> Obj} (I : Inv X pins σ H s) (h : H p = some (.lst xs))
    (ho : s.heap.get? p = some { cls := .type "list", data := .seq its.toArray n }) (hf : f { cls := .type "list", data := .seq its.toArray n } = { cls := .type "list", data := .seq its'.toArray n' }) (r : Vals ys its') (hz : ys.length <= sizeLine) (t : Nat) :
    Inv X pins σ (upd H p (.lst ys)) { s with heap := s.heap.update p f, toks := t } := by
  have e : (s.heap.update p f).get? p = some { cls := .type "list", data := .seq its'.toArray n' } := by
    rw [Heap.get?_update_self f ho (by rw [hf] <;> rfl), hf]
  refine I.write (x := p) (e := p) (by rw [h]; trivial) (.inl rfl) (fun b u hb q => (Heap.get?_update_other _ _ (Ne.symm hb)).trans q) ⟨_, e⟩ ?_
  exact ⟨hz, its', n', r, e⟩
def rSetL : V -> V -> V -> Hp -> (Hp -> Prop) -> Prop := fun o i v H Q => ∃ p xs k j, o = .ref p /\ i = .int k /\ H p = some (.lst xs) /\ ixN xs.length k = some j /\ Q (upd H p (.lst (xs.set j v)))
theorem set_list : PSet X rSetL := by
  intro pins s σ H o i v ov iv u Q I ro ri rv h
  obtain ⟨p, xs, k, j, rfl, rfl, hp, hj, q⟩ := h
  cases ro
  obtain ⟨t, rfl⟩ := ri
  obtain ⟨its, n, r, ho, hz⟩ := I.lst hp
  obtain ⟨h1, h2, h3, h4⟩ := ixN_seq hj
  have hl := r.length
  have hn := line63
  have I' : Inv X pins σ (upd H p (.lst (xs.set j v))) { s with heap := s.heap.update p (Obj.mapSeq (·.setIfInBounds j u)) } :=
    I.lstUpd hp ho (mapSeq_set its n j u) (r.set rv j) (by rw [List.length_set]; exact hz) s.toks
  by_cases h0 : 0 <= k
  · have hk : k.toNat = j := by
      rw [seqIndex_of h0 h4] at h1
      exact Option.some.inj h1
    exact PySem.W.ki_setAt ho h0 (by lia) (by rw [List.size_toArray, <- hl]; exact h4) (by rw [hk]; exact ⟨_, I', q⟩)
  · have hk : (k + (its.toArray.size : Int)).toNat = j := by
      rw [seqIndex_neg (by lia) h3] at h1
      rw [List.size_toArray, <- hl]
      exact Option.some.inj h1
    exact PySem.W.ki_setBack ho (by lia) (by rw [List.size_toArray, <- hl]; exact h3) (by lia) (by rw [hk]; exact ⟨_, I', q⟩)
theorem slice_bounds (lo hi : Option Int) (n : Nat) : (sliceBounds lo hi none n).1 = ((HT.sIx n 0 lo : Nat) : Int) /\ (sliceBounds lo hi none n).2.1 = ((HT.sIx n n hi : Nat) : Int) /\ (sliceBounds lo hi none n).2.2 = 1 := by
  refine ⟨?_, ?_, rfl⟩
  · cases lo with
    | none => simp [sliceBounds, HT.sIx]
    | some i =>
      simp only [sliceBounds, HT.sIx, Option.getD_none, show (1 : Int) > 0 by decide, if_true]
      by_cases h : i < 0
      · simp only [h, if_true] <;> lia
      · simp only [h, if_false] <;> lia
  · cases hi with
    | none => simp [sliceBounds, HT.sIx]
    | some i =>
      simp only [sliceBounds, HT.sIx, Option.getD_none, show (1 : Int) > 0 by decide, if_true]
      by_cases h : i < 0
      · simp only [h, if_true] <;> lia
      · simp only [h, if_false] <;> lia
theorem slicePick_cut (its : List Value) (lo hi : Option Int) : slicePick its.toArray lo hi none = ((its.drop (HT.sIx its.length 0 lo)).take (HT.sIx its.length its.length hi - HT.sIx its.length 0 lo)).toArray := by
  obtain ⟨h1, h2, h3⟩ := slice_bounds lo hi its.toArray.size
  unfold slicePick
  rw [h1, h2, h3]
  simp only [sliceRange_one, pick_run, List.size_toArray] <;> rfl
def rSlL (K : PySem.W.Frag) : V -> Option Int -> Option Int -> Hp -> VK -> Prop := fun x lo hi H Q => ∃ a xs, x = .ref a /\ SqL K H a xs /\ ∀ p, H p = none -> Q (.ref p) (upd H p (.lst (cutV xs lo hi)))
theorem sl_list : SlR X (rSlL X.K) := by
  intro pins s σ H x v vl vu lo hi sl Q I rx hs pl pu h
  obtain ⟨a, xs, rfl, hx, q⟩ := h
  cases rx
  obtain ⟨its, r, ht, hz⟩ := I.list hx
  have hlen := r.length
  refine ⟨"list", _, slot_list_getitem.lookup, ht.isList.typeIs, ?_⟩
  refine wpAny_getItem_list_slice ht.isList hs pl pu .none (by simp) ?_ (by rw [List.size_toArray] <;> lia)
  rw [slicePick_cut, <- hlen]
  refine ⟨.ref s.heap.objs.size, _, I.laid (t' := s.toks) (o := .lst (cutV xs lo hi)) (fun b ob q => Heap.get?_push_of_some _ q) (Nat.le_refl _) ?_, rfl, q _ (I.hok.fresh (Nat.le_refl _))⟩
  exact ⟨Nat.le_trans (cutV_length xs lo hi) hz, _, 0, (r.drop (HT.sIx xs.length 0 lo)).take (HT.sIx xs.length xs.length hi - HT.sIx xs.length 0 lo), Heap.get?_push_size _ rfl⟩
theorem call_len_seq : CallR X (.builtin "len") (fun xs H Q => ∃ p ys, xs = [.ref p] /\ (SqL X.K H p ys \/ SqT X.K H p ys) /\ Q (.int ys.length) H) := by
  intro pins s σ H xs us Q I r h
  obtain ⟨p, ys, rfl, hq, q⟩ := h
  obtain ⟨u, rfl, rx⟩ := vals1 r
  cases rx
  have hn := line63
  rcases hq with hq | hq
  · obtain ⟨its, r', pl, hz⟩ := I.list hq
    have hlen := r'.length
    exact Calls.call_len_list pl.isList (by simp only [List.size_toArray] <;> lia) ⟨.int ys.length, H, I.tok _, ⟨s.toks + 1, by rw [List.size_toArray, hlen]⟩, q⟩
  · obtain ⟨its, r', pl, hz⟩ := I.tuple hq
    have hlen := r'.length
    exact len_tuple pl (by simp only [List.size_toArray] <;> lia) ⟨.int ys.length, H, I.tok _, ⟨s.toks + 1, by rw [List.size_toArray, hlen]⟩, q⟩
theorem call_tuple_of : CallR X (.type "tuple") (fun xs H Q => ∃ p ys, xs = [.ref p] /\ ((SqL X.K H p ys /\ ∀ l, H l = none -> Q (.ref l) (upd H l (.tup ys))) \/ (SqT X.K H p ys /\ Q (.ref p) H))) := by
  intro pins s σ H xs us Q I r h
  obtain ⟨p, ys, rfl, h⟩ := h
  obtain ⟨u, rfl, rx⟩ := vals1 r
  cases rx
  rcases h with ⟨hq, q⟩ | ⟨hq, q⟩
  · obtain ⟨its, r', pl, hz⟩ := I.list hq
    have hlen := r'.length
    refine call_tuple_list pl.isList (fun h' kp => ?_) (by simp only [List.size_toArray] <;> lia)
    have I1 : Inv X pins σ H { s with heap := h' } := I.kept (t' := s.toks) kp
    have I2 : Inv X pins σ (upd H h'.objs.size (.tup ys)) { s with heap := h'.push { cls := .type "tuple", data := .seq its.toArray } } :=
      I1.laid (t' := s.toks) (fun b o e => Heap.get?_push_of_some _ e) (Nat.le_refl _) (show ObjOk X.prog X.w _ _ _ (.tup ys) from ⟨hz, its, r', IsTup.new _ _⟩)
    exact ⟨.ref h'.objs.size, _, I2, rfl, q _ (I1.hok.fresh (Nat.le_refl _))⟩
  · obtain ⟨its, r', pl, hz⟩ := I.tuple hq
    exact call_tuple_same pl ⟨.ref p, H, I, rfl, q⟩
def tyV (K : PySem.W.Frag) (T : String) (x : V) (H : Hp) : Prop := match x with
  | .str _ => T = "str"
  | .int _ => T = "int"
  | .ref p => (T = "list" /\ ∃ xs, SqL K H p xs) \/ (T = "tuple" /\ ∃ o, K.lookup p = some o /\ o.cls = .type "tuple" /\ o.dict = none) \/
      (T = "dict" /\ ((∃ kvs, H p = some (.dK kvs)) \/ ∃ kvs, H p = some (.dT kvs))) \/ (T = "set" /\ ∃ S n, H p = some (.set S n))
  | _ => False
theorem tyV_is {pins : List (Addr × Obj)} {σ : St} {H : Hp} {s : Shared} {T : String} {x : V} {v : Value} (I : Inv X pins σ H s) (r : RelV x v) (ty : tyV X.K T x H) :
    s.TypeIs v T /\ ∀ a, v = .ref a -> ∃ ob, s.heap.get? a = some ob /\ ob.dict = none := by
  cases x with
  | str z =>
    obtain ⟨t, rfl⟩ := r
    cases (show T = "str" from ty)
    exact ⟨typeIs_str s z t, fun _ e => nomatch e⟩
  | int i =>
    obtain ⟨t, rfl⟩ := r
    cases (show T = "int" from ty)
    exact ⟨typeIs_int s i t, fun _ e => nomatch e⟩
  | ref p =>
    cases r
    rcases ty with ⟨rfl, xs, hq⟩ | ⟨rfl, o, hk, hc, hd⟩ | ⟨rfl, hk⟩ | ⟨rfl, S, n, hk⟩
    · obtain ⟨its, _, pl, _⟩ := I.list hq
      refine ⟨pl.isList.typeIs, fun a e => ?_⟩
      cases e
      obtain ⟨o, n, e, c, hd, _⟩ := pl
      exact ⟨o, e, hd⟩
    · refine ⟨⟨o, I.kIn p o hk, hc⟩, fun a e => ?_⟩
      cases e
      exact ⟨o, I.kIn _ o hk, hd⟩
    · have z : ∃ o, s.heap.get? p = some o /\ o.ExactDict := by
        rcases hk with ⟨kvs, hk⟩ | ⟨kvs, hk⟩
        · obtain ⟨_, _, _, _, o, _, _, e, ex, _⟩ := I.hok p _ hk
          exact ⟨o, e, ex⟩
        · obtain ⟨_, _, _, _, o, _, _, e, ex, _⟩ := I.hok p _ hk
          exact ⟨o, e, ex⟩
      obtain ⟨o, e, ex⟩ := z
      refine ⟨⟨o, e, ex.1⟩, fun a e2 => ?_⟩
      cases e2
      exact ⟨o, e, ex.2.1⟩
    · obtain ⟨o, _, _, _, e, ex, _⟩ := I.hok p _ hk
      refine ⟨⟨o, e, ex.1⟩, fun a e2 => ?_⟩
      cases e2
      exact ⟨o, e, ex.2.1⟩
  | _ => exact False.elim ty
def tBM (K : PySem.W.Frag) (T : String) (r : V -> List V -> Hp -> VK -> Prop) (to : TE) (t : TA) : TE := fun σ H Q => to σ H fun x H1 => tyV K T x H1 /\ t σ H1 fun xs H2 => r x xs H2 Q
variable {o e : Expr} {es : List Expr} {to : TE} {t : TA} {name : Str} {apos cpos : Pos} {T id : String} {r : V -> List V -> Hp -> VK -> Prop}
theorem pe_bm (pa : PlainAttrs T) (slot : Slot T name id) (hty : typeOf (.builtin id) = pure (.type "method_descriptor")) (hm : MtR X id r) (ho : PE X o to) (ha : PA X (e :: es) t)
    (hbase : attributeBase o name X.env (eval o X.env) = eval o X.env := by rfl)
    (hfew : ((backTo cpos (starEach (e :: es) X.env)).all (fun x => !x.1) && (backToKw cpos (keywordEach [] X.env)).all (fun x => x.1.isSome)
      && decide ((e :: es).length + ([] : List Keyword).length + (if ([] : List Keyword).isEmpty then 0 else 1) < 30)) = true := by rfl)
    (hline : (apos.endLine == cpos.line) = true := by rfl) (hs : starEach (e :: es) X.env = (false, eval e X.env) :: starEach es X.env := by rfl) (hplain : (backTo cpos (starEach es X.env)).any (·.1) = false := by rfl) :
    PE X (.Call (.Attribute o name apos) (e :: es) [] cpos) (tBM X.K T r to t) := by
  intro pins s σ H Q I h
  refine wpAny_Call_method_late hbase hfew hline rfl (thn (ho pins s σ H _ I h) fun v s1 ⟨x, H1, I1, r1, ty, q1⟩ => ?_)
  obtain ⟨h1, h2⟩ := tyV_is I1 r1 ty
  refine ⟨T, id, pa, slot, hty, h1, h2, ?_⟩
  have hA := ha cpos pins s1 σ H1 _ I1 q1
  rw [hs] at hA ⊢
  refine Calls.callWith_builtin (by show (false || (backTo cpos (starEach es X.env)).any (·.1)) = false; rw [hplain] <;> rfl) (Calls.evalArgs_plain ?_)
  exact thn hA fun us s2 ⟨vs, H2, I2, r2, q2⟩ => hm pins s2 σ H2 x vs v us Q I2 r1 r2 q2
/- xs.append(e), list.index on a module's tuple .. are MtR facts of 06m -/
end
def MtM (X : Cx) (id : String) (r : V -> List V -> Hp -> VK -> Prop) : Prop :=
  ∀ (pins : List (Addr × Obj)) (s : Shared) (σ : St) (H : Hp) (x : V) (xs : List V) (v : Value) (us : List Value) (Q : VK), Inv X pins σ H s -> RelV x v -> Vals xs us -> r x xs H Q ->
    wpAny (model X.prog X.w) X.A (call (.builtin id) (v :: us)) (EP X pins σ Q) X.xe s
theorem Vals.one : ∀ {x : V} {us : List Value}, Vals [x] us -> ∃ u, us = [u] /\ RelV x u
  | _, _, .cons r .nil => ⟨_, rfl, r⟩
theorem Vals.two : ∀ {x y : V} {us : List Value}, Vals [x, y] us -> ∃ u v, us = [u, v] /\ RelV x u /\ RelV y v := by
  intro x y us h
  cases h with
  | cons r h => cases h with
    | cons q h => cases h; exact ⟨_, _, rfl, r, q⟩
theorem Vals.zero : ∀ {us : List Value}, Vals [] us -> us = []
  | _, .nil => rfl
theorem Vals.rep {xs : List V} {us : List Value} (h : Vals xs us) : ∀ k : Nat, Vals (List.replicate k xs).flatten (List.replicate k us).flatten
  | 0 => .nil
  | k + 1 => by
    rw [List.replicate_succ, List.replicate_succ, List.flatten_cons, List.flatten_cons]
    exact Vals.append h (Vals.rep h k)
theorem foldl_rep (its : List Value) : ∀ (k : Nat) (acc : List Value),
    List.foldl (fun x1 x2 => x1 ++ x2) acc.toArray (List.replicate k its.toArray) = (acc ++ (List.replicate k its).flatten).toArray
  | 0, acc => by simp
  | k + 1, acc => by
    have e : acc.toArray ++ its.toArray = (acc ++ its).toArray := by simp
    have e2 : (acc ++ its) ++ (List.replicate k its).flatten = acc ++ (List.replicate (k + 1) its).flatten := by
      rw [List.replicate_succ, List.flatten_cons, List.append_assoc]
    rw [<- e2, <- foldl_rep its k (acc ++ its), <- e, List.replicate_succ, List.foldl_cons]
section
variable {X : Cx} {pins : List (Addr × Obj)} {σ : St} {H : Hp} {s : Shared} {l b : Addr} {xs ys zs : List V}
theorem Inv.lset {its its' : List Value} {n : Nat} {f : Array Value -> Array Value} {t' : Nat} (I : Inv X pins σ H s) (hH : H l = some (.lst xs))
    (e : s.heap.get? l = some { cls := .type "list", data := .seq its.toArray n }) (hf : f its.toArray = its'.toArray) (hv : Vals ys its') (hz : ys.length <= sizeLine) :
    Inv X pins σ (upd H l (.lst ys)) { s with heap := s.heap.update l (Obj.mapSeq f), toks := t' } := by
  have q := PySem.IsL.update e f
  rw [hf] at q
  refine I.write (x := l) (e := l) (by rw [hH]; exact trivial) (.inl rfl) (fun b' u hb hu => (Heap.get?_update_other s.heap (Obj.mapSeq f) (Ne.symm hb)).trans hu) ⟨_, q⟩ ?_
  exact ⟨hz, its', _, hv, q⟩
theorem Inv.lnew {its : List Value} {t' : Nat} (I : Inv X pins σ H s) (hv : Vals ys its) (hz : ys.length <= sizeLine) :
    Inv X pins σ (upd H s.heap.objs.size (.lst ys)) { s with heap := s.heap.push { cls := .type "list", data := .seq its.toArray }, toks := t' } :=
  I.laid (fun _ _ q => Heap.get?_push_of_some _ q) (Nat.le_refl _) ⟨hz, its, 0, hv, Heap.get?_push_size _ rfl⟩
theorem Inv.fresh (I : Inv X pins σ H s) : H s.heap.objs.size = none := I.hok.fresh (Nat.le_refl _)
theorem Inv.lstM (I : Inv X pins σ H s) (hH : H l = some (.lst xs)) : xs.length <= sizeLine /\ ∃ (its : List Value) (n : Nat), Vals xs its /\ xs.length = its.length /\ s.heap.get? l = some { cls := .type "list", data := .seq its.toArray n } := by
  obtain ⟨z, its, n, r, e⟩ := I.hok l _ hH
  exact ⟨z, its, n, r, r.length, e⟩
theorem notLongL {n : Nat} (h : n <= sizeLine) : Builtin.List.listTooLong n = false := by
  unfold Builtin.List.listTooLong
  exact decide_eq_false (by lia)
end
section
variable {X : Cx}
def rAppend : V -> List V -> Hp -> VK -> Prop := fun x vs H Q => ∃ l xs y, x = .ref l /\ vs = [y] /\ H l = some (.lst xs) /\ xs.length < sizeLine /\ Q .non (upd H l (.lst (xs ++ [y])))
theorem mt_append : MtM X "list.append" rAppend := by
  intro pins s σ H x vs v us Q I rx rv h
  obtain ⟨l, xs, y, rfl, rfl, hH, hz, q⟩ := h
  cases rx
  obtain ⟨u, rfl, ru⟩ := rv.one
  obtain ⟨z, its, n, r, hl, e⟩ := I.lstM hH
  refine call_meets F.slot_list_append ⟨_, e, rfl⟩ F.entry_list_append (F.args_list_append_2 _ _) (PySem.list_append l its.toArray n u (by rw [List.size_toArray]; lia)) ⟨e, ?_⟩
  refine ⟨.non, _, I.lset (its' := its ++ [u]) hH e (by simp) (r.append (.cons ru .nil)) ?_, rfl, q⟩
  rw [List.length_append, List.length_singleton]
  lia
def rCat : R2 := fun x y H Q => ∃ l b xs zs, x = .ref l /\ y = .ref b /\ H l = some (.lst xs) /\ H b = some (.lst zs) /\ xs.length + zs.length <= sizeLine /\ ∀ p, H p = none -> Q (.ref p) (upd H p (.lst (xs ++ zs)))
theorem op_cat : OpR X (binaryOp .Add) rCat := by
  intro pins s σ H x y v u Q I rx ry h
  obtain ⟨l, b, xs, zs, rfl, rfl, hH, hB, hz, q⟩ := h
  cases rx
  cases ry
  obtain ⟨z, its, n, r, hl, e⟩ := I.lstM hH
  obtain ⟨z2, its2, n2, r2, hl2, e2⟩ := I.lstM hB
  refine PySem.P.add_list e e2 ?_ (by rw [List.size_toArray, List.size_toArray]; lia)
  have ea : its.toArray ++ its2.toArray = (its ++ its2).toArray := by simp
  rw [ea]
  exact ⟨.ref _, _, I.lnew (t' := s.toks) (r.append r2) (by rw [List.length_append]; lia), rfl, q _ I.fresh⟩
def rRep : R2 := fun x y H Q => ∃ l k xs, x = .ref l /\ y = .int k /\ H l = some (.lst xs) /\ -(2 ^ 63) <= k /\ k < 2 ^ 63 /\ xs.length * k.toNat <= sizeLine /\
  ∀ p, H p = none -> Q (.ref p) (upd H p (.lst (List.replicate k.toNat xs).flatten))
theorem len_rep {α : Type} (xs : List α) (k : Nat) : (List.replicate k xs).flatten.length = k * xs.length := by
  induction k with
  | zero => simp
  | succ k ih => rw [List.replicate_succ, List.flatten_cons, List.length_append, ih, Nat.succ_mul, Nat.add_comm]
theorem op_rep : OpR X (binaryOp .Mult) rRep := by
  intro pins s σ H x y v u Q I rx ry h
  obtain ⟨l, k, xs, rfl, rfl, hH, h1, h2, hz, q⟩ := h
  cases rx
  obtain ⟨t, rfl⟩ := ry
  obtain ⟨z, its, n, r, hl, e⟩ := I.lstM hH
  have hlen : its.toArray.size * k.toNat <= sizeLine := by rw [List.size_toArray, <- hl]; exact hz
  have hcap : ¬ its.toArray.size * k.toNat > (2 ^ 63 - 1) / 8 := by
    have : (sizeLine : Nat) <= (2 ^ 63 - 1) / 8 := by decide
    lia
  have hfit : ¬ (!Builtin.List.listFitsIndex k) = true := by
    rw [fitsIndex_both h1 h2]
    exact Bool.false_ne_true
  have hlong : ¬ Builtin.List.listTooLong (its.toArray.size * k.toNat) = true := by
    rw [notLongL hlen]
    exact Bool.false_ne_true
  have hnew : List.foldl (fun x1 x2 => x1 ++ x2) #[] (List.replicate (if its.toArray.isEmpty = true then 0 else k.toNat) its.toArray) = (List.replicate k.toNat its).flatten.toArray := by
    have f0 : ∀ m : Nat, List.foldl (fun x1 x2 => x1 ++ x2) #[] (List.replicate m its.toArray) = (List.replicate m its).flatten.toArray := fun m => by
      have := foldl_rep its m []
      rw [List.nil_append] at this
      exact this
    rw [f0]
    cases its with
    | nil => simp
    | cons a r' => rw [if_neg (by simp)]
  refine wpAny_binaryOp_repeat_ref (T := "list") (U := "int") (by decide) ⟨_, e, rfl⟩ (fun s' => typeIs_int s' k t) noFill_list_mul F.fills_int_mul F.slot_int_rmul repeat_list F.slot_int_index.lookup
    (call_meets F.slot_int_rmul (typeIs_int s k t) F.entry_int_rmul (F.args_int_rmul_2 _ _) (int___rmul___int_list k t l its.toArray n)
      ⟨e, rfl, ⟨_, e, rfl⟩, call_meets F.slot_list_mul ⟨_, e, rfl⟩ F.entry_list_mul (F.args_list_mul_2 _ _) (AutoListH.list___mul___list_int_3 l its.toArray n k t hfit hcap hlong) ⟨e, ?_⟩⟩)
  rw [hnew]
  exact ⟨.ref _, _, I.lnew (t' := s.toks) (r.rep k.toNat) (by rw [len_rep, Nat.mul_comm]; exact hz), rfl, q _ I.fresh⟩
end
section
variable {prog : Program} {w : World} {A : Around} {E : Value -> Shared -> Prop} {s : Shared}
set_option maxRecDepth 100000 in
end
section
variable {X : Cx}
end
end L2
namespace Att
open PySem PySem.W PySem.Calls PyProof.Rows
theorem ints_of_wellAll {P : Params} {h : Heap} : ∀ (ns : List Int) (vs : List Value), WellAll P h vs (ns.map WData.int) -> IntsAre vs ns := by
  intro ns
  induction ns with
  | nil =>
    intro vs w
    rw [List.map_nil] at w
    cases w
    exact .nil
  | cons n ns ih =>
    intro vs w
    rw [List.map_cons] at w
    cases w with
    | cons a b =>
      cases a
      exact .cons _ _ (ih _ b)
theorem script_of {l : OpenLaw} {n : Nat} (hn : l.most = some n) {P : Params} {h : Heap} {args : List WData} {vals : List Value}
    (hpre : l.row.toRowW.claim.pre args = true) (hwl : WellAll P h vals args) :
    ∃ a vs ns, vals = [Value.ref a] /\ args = [WData.list (ns.map WData.int)] /\ h.get? a = some { cls := .type "list", data := .seq vs.toArray } /\ IntsAre vs ns /\ ns.length <= n := by
  have hsh : WShape.hasAll [] args [.list .int] = true := (pre_splitW hpre).1
  have hc : l.pre.holds [] { args := args } = true := (pre_splitW hpre).2
  obtain ⟨d, r, rfl, h1, h2⟩ := hasAllW_cons hsh
  obtain rfl := hasAllW_nil h2
  obtain ⟨xs, rfl, h3⟩ := hasW_list h1
  obtain ⟨ns, rfl⟩ := items_int h3
  have hlen : ns.length <= n := by
    unfold OpenLaw.pre at hc
    have h4 : (WTm.not (.lt (.lit (.int (n : Int))) (.len (.arg 0)))).holds [] { args := [.list (ns.map .int)] } = true := by
      have h4 := (holds_andW hc).1
      rw [hn] at h4
      exact h4
    have h5 := condW_of h4 (w_not (w_lt w_lit (w_len_list (w_arg rfl))))
    rw [List.length_map] at h5
    refine Nat.le_of_not_lt fun q => ?_
    have q' : (n : Int) < ((ns.length : Nat) : Int) := by lia
    first
      | (rw [decide_eq_true q'] at h5; exact absurd h5 (by decide))
      | (simp at h5; lia)
  cases hwl with
  | cons w1 w2 =>
    cases w2
    cases w1 with
    | list ho hall => exact ⟨_, _, ns, rfl, rfl, ho, ints_of_wellAll ns _ hall, hlen⟩
theorem post_true (l : OpenLaw) (args : List WData) : l.row.toRowW.claim.post args (.bool true) args = true :=
  postW_of (r := l.row.toRowW) (X := (true == true))
    (show WShape.has [] (.bool true) .bool = true by first | rfl | decide | simp [WShape.has, WShape.arms, WShape.armsAll])
    (show (WTm.eq .res (.lit (.bool true))).value [] { args := args, res := some (.bool true), after := args } = some (.bool (true == true)) from w_eq_bool (w_res rfl) w_lit) rfl
theorem attach_call {l : OpenLaw} {n : Nat} {q : Program} {loose : List Str} {XP : (Str -> Option Value) -> Heap -> Prop} {YP : World -> Heap -> Prop} {d : DefRec}
    (hn : l.most = some n) (hdf : d.params.defaults = [])
    (call : ∀ (w : World) (s₀ s₁ : Shared) (mg mb : Str -> Option Value) (fa : Addr) (o : Obj) (pm cd doc : Value) (a : Addr) (vs : List Value) (ns : List Int),
      Ground q loose [] XP w s₀ mg mb s₁.heap -> YP w s₁.heap ->
      s₁.heap.get? fa = some o -> o.data = .func (docDef d.name d.params d.body d.scope pm cd doc) -> s₁.heap.CodeRec cd d.name -> mg d.name = some (.ref fa) ->
      s₁.heap.get? a = some { cls := .type "list", data := .seq vs.toArray } -> IntsAre vs ns -> ns.length <= n -> s₁.gens = #[] ->
      codeAny (model l.prog w) callerA (.call (.ref fa) ⟨[.ref a], []⟩) (fun r s' => r = .ok (.ret (.bool true)) /\ OldK s₁.heap s'.heap /\ s'.os = s₁.os /\ AllBare s'.gens) s₁) :
    WalkO q loose XP YP l.row.toRowW d [] (fun f vs => PySem.call f vs) := by
  intro w s₀ s₁ mg mb G Y fa o pm cd doc dV kV ho hd hcd hD hmg hg args vals as hpre hlay hrd hwl hlo
  obtain rfl : dV = .none := Dflts.none hD hdf
  obtain rfl : kV = .none := Dflts.noKw hD
  obtain ⟨a, vs, ns, rfl, rfl, hobj, hints, hlen⟩ := script_of hn hpre hwl
  refine enter_call (codeAny_mono (call w s₀ s₁ mg mb fa o pm cd doc a vs ns G Y ho (fd_plain hd) hcd hmg hobj hints hlen hg) fun r s' hq => ?_)
  obtain ⟨rfl, h2, h3, h4⟩ := hq
  exact ⟨.inl ⟨.bool true, .bool true, [], rfl, fun _ => rfl, .bool true, post_true l _, fun _ => ⟨List.Pairwise.nil, fun _ hm => (nomatch hm)⟩⟩, h2, h3, h4⟩
section
variable {prog : Program} {w : World} {A : Around} {E : Value -> Shared -> Prop} {s : Shared} {K : Frag}
end
end Att
namespace L2
open PySem PySem.Spec PyProof.Rows
theorem vals_ints : ∀ {vs : List Value} {ns : List Int}, IntsAre vs ns -> Vals (ns.map V.int) vs
  | _, _, .nil => .nil
  | _, _, .cons n t h => .cons ⟨t, rfl⟩ (vals_ints h)
def Only (H : Hp) : Prop := ∀ b, H b = none \/ ∃ o xs, H b = some (.frz o (.lst xs))
theorem law_call {P : Program} {w : World} {K : PySem.W.Frag} {mg mb : Str -> Option Value} {CX : CXT} {k : Nat} {fa a : Addr} {fd : FuncData} {x : Str} {sp : Sp} {s₁ : Shared} {vs : List Value} {ns : List Int}
    (KX : K.In s₁.heap) (hns : s₁.heap.Ns mainGlobals mg) (hb : s₁.heap.Ns builtinsNs mb) (hbb : ∀ x : Str, x ≠ "__name__" -> mb x = bootBuiltins x) (hlim : s₁.heap.NoLimit) (hg : s₁.gens = #[])
    (ha : s₁.heap.get? a = some { cls := .type "list", data := .seq vs.toArray }) (hi : IntsAre vs ns) (hl : ns.length <= sizeLine) (hr : Room k callerA)
    (F : ∀ base : Heap, K.In base -> base.Ns mainGlobals mg -> FnOk P w K mg base CX k fa fd [x] sp) (hbind : ∀ (s : Shared) (u : Value), BindsTo s fd ⟨[u], []⟩ [(x, u)])
    (hsp : ∀ H : Hp, Only H -> SqL K H a (ns.map V.int) -> sp [.ref a] H (fun v _ => v = .bl true) fun _ _ _ => False)
    (hCX : ∀ H e s', CX [] H s₁ (fun _ _ _ => False) e s' -> False) :
    codeAny (model P w) callerA (.call (.ref fa) ⟨[.ref a], []⟩) (fun r s' => r = .ok (.ret (.bool true)) /\ OldK s₁.heap s'.heap /\ s'.os = s₁.os /\ AllBare s'.gens) s₁ := by
  have rv := vals_ints hi
  have lenV := hi.length
  have core : ∀ H : Hp, Only H -> SqL K H a (ns.map V.int) -> HOk P w H s₁.heap -> (∀ b, H b ≠ none -> b = a) -> (H a ≠ none -> K.lookup a = none) ->
      codeAny (model P w) callerA (.call (.ref fa) ⟨[.ref a], []⟩) (fun r s' => r = .ok (.ret (.bool true)) /\ OldK s₁.heap s'.heap /\ s'.os = s₁.os /\ AllBare s'.gens) s₁ := by
    intro H hO hS hok hA hK
    have base_of : ∀ {b : Addr} {o : Obj}, s₁.heap.get? b = some o -> H b = none -> (hidT s₁.heap H).get? b = some o := fun e n => hidT_get e n
    have noA : ∀ {b : Addr} {o : Obj} {es : Array DictEntry} {ep : Nat}, s₁.heap.get? b = some o -> o.data = .dict es ep -> H b = none := fun {b o es ep} e d => by
      cases q : H b with
      | none => rfl
      | some u =>
        have e' : b = a := hA b (by rw [q]; simp)
        subst e'
        rw [ha] at e; cases e
        have d' : Data.seq vs.toArray _ = Data.dict es ep := d
        cases d'
    have nsK : ∀ {b : Addr} {m : Str -> Option Value}, s₁.heap.Ns b m -> (hidT s₁.heap H).Ns b m := fun {b m} ⟨o, es, ep, e, d, r⟩ => ⟨o, es, ep, base_of e (noA e d), d, r⟩
    have hKb : K.In (hidT s₁.heap H) := fun b o e => base_of (KX b o e) (by
      cases q : H b with
      | none => rfl
      | some u =>
        have e' : b = a := hA b (by rw [q]; simp)
        subst e'
        rw [hK (by rw [q]; simp)] at e; cases e)
    have hM : Mod K mg (hidT s₁.heap H) := ⟨hKb, nsK hns, ⟨mb, nsK hb, hbb⟩, let ⟨mc, h1, h2⟩ := hlim; ⟨mc, nsK h1, h2⟩⟩
    have e0 : Env0 P w K mg (hidT s₁.heap H) callerA [] s₁ H := ⟨rfl, hM, fun b o e => of_hidT e, Nat.le_of_eq (hidT_size _ _), trivial, fun b hb => absurd (show b ∈ ([] : List Addr) from hb) (by simp), hok, .of_eq hg⟩
    refine codeAny_mono ((F _ hKb (nsK hns)).run callerA [] s₁ H ⟨[.ref a], []⟩ [.ref a] [.ref a] _ _ hr e0 (hbind s₁ (.ref a)) (.cons rfl .nil) (hsp H hO hS)) fun r s' h => ?_
    cases r with
    | error e => exact (hCX H e s' h).elim
    | ok fl =>
      cases fl with
      | next => exact False.elim h
      | brk => exact False.elim h
      | cont => exact False.elim h
      | ret u =>
        obtain ⟨v, H', os, bare, un, hok', r', q⟩ := h
        have q' : v = .bl true := q
        subst q'
        obtain rfl : u = Value.bool true := r'
        refine ⟨rfl, OldK.of_keep fun b o e => ?_, os, bare⟩
        cases q : H b with
        | none => exact un.keep b o e q (by intro z; exact absurd (show b ∈ ([] : List Addr) from z) (by simp)) (by simp)
        | some u =>
          rcases hO b with z | ⟨ob, xs, z⟩
          · rw [q] at z; cases z
          · have z2 := un.frzs b ob _ z
            obtain ⟨e1, _⟩ := hok b _ z
            obtain ⟨e2, _⟩ := hok' b _ z2
            rw [e] at e1; cases e1
            exact e2
  cases hk : K.lookup a with
  | some o =>
    have e := KX a o hk
    rw [ha] at e
    cases e
    refine core (fun _ => none) (fun _ => .inl rfl) (.inr ⟨_, vs.toArray, _, hk, rfl, rfl, rfl, by rw [List.size_toArray, lenV]; exact hl, by simpa using rv⟩) (fun b u z => by have z' : (none : Option HO) = some u := z; cases z') (fun b z => absurd rfl z) fun z => absurd rfl z
  | none =>
    refine core (fun b => if b = a then some (.frz { cls := .type "list", data := .seq vs.toArray } (.lst (ns.map V.int))) else none) (fun b => ?_) (.inl (.inr ⟨{ cls := .type "list", data := .seq vs.toArray }, if_pos rfl⟩)) (fun b u z => ?_) (fun b z => ?_) fun _ => hk
    · by_cases hb : b = a
      · exact .inr ⟨_, _, if_pos hb⟩
      · exact .inl (if_neg hb)
    · by_cases hb : b = a
      · have z' := (if_pos hb).symm.trans z
        cases z'
        subst hb
        exact ⟨ha, by rw [List.length_map]; exact hl, vs, _, rv, ha⟩
      · have z' := (if_neg hb).symm.trans z
        cases z'
    · by_cases hb : b = a
      · exact hb
      · exact absurd (if_neg hb) z
abbrev KOf {K : PySem.W.Frag} {h : Heap} (_ : K.In h) : PySem.W.Frag := K
theorem walk_of {l : PySem.W.OpenLaw} {n k : Nat} {q : Program} {loose : List Str} {XP : (Str -> Option Value) -> Heap -> Prop} {YP : World -> Heap -> Prop} {d : DefRec} {K : Params -> PySem.W.Frag} {CX : World -> CXT} {sp : World -> Sp} {x : Str}
    (hn : l.most = some n) (hn2 : n <= sizeLine) (hdf : d.params.defaults = []) (hr : Room k callerA)
    (hY : ∀ (w : World) (h : Heap), YP w h -> (K w.params).In h)
    (F : ∀ (w : World) (mg : Str -> Option Value) (fa : Addr) (h : Heap), (K w.params).In h -> h.Ns mainGlobals mg -> mg d.name = some (.ref fa) ->
      ∃ fd : FuncData, (∀ (s : Shared) (u : Value), BindsTo s fd ⟨[u], []⟩ [(x, u)]) /\
        ∀ base : Heap, (K w.params).In base -> base.Ns mainGlobals mg -> FnOk l.prog w (K w.params) mg base (CX w) k fa fd [x] (sp w))
    (hsp : ∀ (w : World) (H : Hp) (a : Addr) (ns : List Int), ns.length <= n -> Only H -> SqL (K w.params) H a (ns.map V.int) -> sp w [.ref a] H (fun v _ => v = .bl true) fun _ _ _ => False)
    (hCX : ∀ (w : World) (H : Hp) (s : Shared) (e : Value) (s' : Shared), CX w [] H s (fun _ _ _ => False) e s' -> False) :
    PySem.W.WalkO q loose XP YP l.row.toRowW d [] (fun f vs => PySem.call f vs) := by
  refine Att.attach_call hn hdf fun w s₀ s₁ mg mb fa o pm cd doc a vs ns G Y ho hd hcd hmg hobj hints hlen hg => ?_
  have KX := hY w _ Y
  obtain ⟨fd, hb, hF⟩ := F w mg fa _ KX G.T.g hmg
  exact law_call KX G.T.g G.T.b G.T.builtins G.T.nolimit hg hobj hints (Nat.le_trans hlen hn2) hr hF hb (fun H hO hS => hsp w H a ns hlen hO hS) fun H e s' => hCX w H s₁ e s'
end L2
/- THE LAST THEOREM (shape; LID, My.* are yours):
   My.Adr: a structure of the addresses that your layer names (classes, functions); My.Txt K t: a structure (Prop) of the equations over K;
   My.txt_mk : {K} {implicit addresses ..} (e1 : nsIn K mainGlobals "law" = some (some (.ref f))) (e2 : K.lookup f = some ⟨oc, od, .func (fnOf "law" "law" params body scope dV kV doc pm an cdv ct), sl⟩) (e3 : codeIn K cdv "law" = true) .. : ∃ t, My.Txt K t
set_option maxRecDepth 100000 in
set_option maxHeartbeats 0 in
theorem PySem.Challenge.cw_LID_holds : PySem.Challenge.rw_LID.Holds := by
  w_on; o_law; k_head; (case hw => w_witness2)
  k_fill
  refine L2.walk_of (l := PySem.Challenge.rw_LID) (n := 63) (k := 40) (x := "script") (CX := fun w => ..) (sp := fun _ => My.sp_law) rfl (by decide) rfl ⟨rfl, by decide, by decide⟩ (fun w h Y => PySem.W.kIn_of Y) ?F ?S ?C
  case F =>
    intro w mg fa h KX G hmg
    have T : ∃ t, My.Txt (L2.KOf KX) t := by
      dsimp only [L2.KOf]                          -- K must stand as «<heap const> w.params» for k_is
      refine' My.txt_mk ?e1 ?e2 ?e3 ..
      (case e1 => PySem.W.k_is)                    -- in the order: a name -> its address -> its object -> its parts
      (case e2 => PySem.W.k_is)
      ..
    obtain ⟨t, T⟩ := T
    have e0 := hmg.symm.trans (PySem.W.mg_of KX G T.law)
    cases e0                                       -- fa is the law's own address
    exact ⟨_, fun s u => .of_eq rfl, fun base kb nb => My.law_fn T kb nb⟩     -- if «.of_eq rfl» comes too early: refine' ⟨_, ?b, fun base kb nb => My.law_fn T kb nb⟩; exact fun s u => .of_eq rfl
  case S => exact fun w H a ns hl hO hS => ..
  case C => exact ..
(the tactic k_is has no namespace: write k_is) -/
namespace L2
open PySem PySem.Spec PyProof.Rows
def defArgs (s : Stmt) : Arguments := match s with
  | .FunctionDef _ a _ _ _ _ _ _ _ _ => a
  | _ => { posonlyargs := [], args := [], vararg := none, kwonlyargs := [], kw_defaults := [], kwarg := none, defaults := [] }
def defBody (s : Stmt) : List Stmt := match s with
  | .FunctionDef _ _ b _ _ _ _ _ _ _ => b
  | _ => []
def defScope (s : Stmt) : Scope := match s with
  | .FunctionDef _ _ _ _ _ _ sc _ _ _ => sc
  | _ => { kind := .function, names := [], isGenerator := false, isCoroutine := false }
abbrev CX0 : CXT := fun _ _ _ _ _ _ => False
abbrev E0 : XK := fun _ _ _ => False
theorem pass0 {X : Cx} : Passes CX0 X E0 := fun _ _ _ _ _ _ _ h => h.elim
structure Fun (K : PySem.W.Frag) (x qual : Str) (st : Stmt) (f : Addr) (fd : FuncData) : Prop where
  ex : ∃ (oc : Value) (od : Option Addr) (kV doc pm : Value) (an : Option Addr) (cdv ct : Value) (osl : Array (Option Value)),
    fd = PySem.W.fnOf x qual (defArgs st) (defBody st) (defScope st) .none kV doc pm an cdv ct /\ K.lookup f = some ⟨oc, od, .func fd, osl⟩ /\ PySem.W.codeIn K cdv qual = true
  kp : PySem.W.keepIn K (.ref f) = true
section
variable {P : Program} {w : World} {K : PySem.W.Frag} {mg : Str -> Option Value} {base : Heap}
theorem Fun.ok {x qual : Str} {st : Stmt} {f : Addr} {fd : FuncData} {N ps : List Str} {k : Nat} {sp : Sp} (F : Fun K x qual st f fd) (S : FnScope N ps (defScope st)) (len : ∀ vs H Q E, sp vs H Q E -> vs.length = ps.length)
    (hbody : ∀ (cdv : Value) (A : Around) (outer : List Env) (s : Shared) (H : Hp) (vs : List V) (Q : VK) (E : XK), Room k (A.deeper (envOfC qual (defScope st) s.heap.objs.size f cdv)) -> sp vs H Q E ->
      ∃ t, PSs (cxOf CX0 P w K mg base N qual (defScope st) f cdv A outer s H E).nox (defBody st) t /\ t { nx := fun _ H' => Q .non H', rt := Q } (start N vs) H) : FnOk P w K mg base CX0 (k + 1) f fd ps sp := by
  obtain ⟨oc, od, kV, doc, pm, an, cdv, ct, osl, rfl, lk, hcd⟩ := F.ex
  refine fn_of lk hcd S len fun A outer s H vs Q E hr hsp => ?_
  obtain ⟨t, h, q⟩ := hbody cdv A outer s H vs Q E hr hsp
  exact ⟨t, h.nox, q⟩
theorem Fun.binds {x qual : Str} {st : Stmt} {f : Addr} {fd : FuncData} {ps : List Str} (F : Fun K x qual st f fd)
    (h : ∀ (kV doc pm : Value) (an : Option Addr) (cdv ct : Value) (us : List Value), us.length = ps.length -> bindArgs (PySem.W.fnOf x qual (defArgs st) (defBody st) (defScope st) .none kV doc pm an cdv ct) ⟨us, []⟩ = pure (ps.zip us)) : Binds K fd ps [] := by
  obtain ⟨oc, od, kV, doc, pm, an, cdv, ct, osl, rfl, lk, hcd⟩ := F.ex
  exact .all (h kV doc pm an cdv ct)
theorem fun_mk {x qual : Str} {st : Stmt} {f : Addr} {oc : Value} {od an : Option Addr} {osl : Array (Option Value)} {kV doc pm cdv ct : Value} (l : K.lookup f = some ⟨oc, od, .func (PySem.W.fnOf x qual (defArgs st) (defBody st) (defScope st) .none kV doc pm an cdv ct), osl⟩)
    (c : PySem.W.codeIn K cdv qual = true) (k : PySem.W.keepIn K (.ref f) = true) : Fun K x qual st f (PySem.W.fnOf x qual (defArgs st) (defBody st) (defScope st) .none kV doc pm an cdv ct) := ⟨⟨oc, od, kV, doc, pm, an, cdv, ct, osl, rfl, l, c⟩, k⟩
end
section
variable {X : Cx}
theorem pv (i : Nat) {x : Str} {pos : Pos} (hN : X.N[i]? = some x := by rfl) (hv : Vis X.env.scope x := by first | exact Or.inl rfl | exact Or.inr (Or.inl rfl) | exact Or.inr (Or.inr rfl)) (hd : (x == ("__debug__" : Str)) = false := by decide)
    (hcd : (x == ("__classdict__" : Str)) = false := by decide) : PE X (.Name x pos) (tVar i) := pe_var hN hv hd hcd
end
theorem iteF {A B : Prop} (h : B) : if false = true then A else B := by
  rw [if_neg Bool.false_ne_true]
  exact h
theorem iteT {A B : Prop} (h : A) : if true = true then A else B := by
  rw [if_pos rfl]
  exact h
theorem ite2 {c A B : Prop} [Decidable c] (h1 : c -> A) (h2 : ¬ c -> B) : if c then A else B := by
  by_cases h : c
  · rw [if_pos h]
    exact h1 h
  · rw [if_neg h]
    exact h2 h
theorem iteNS {c A B : Prop} [Decidable c] (hc : c) (h : B) : if (!decide c) = true then A else B := by
  rw [decide_eq_true hc]
  exact iteF h
def Same (H H' : Hp) : Prop := ∀ b o, H b = some o -> H' b = some o
theorem Same.refl (H : Hp) : Same H H := fun _ _ h => h
theorem Same.trans {H H1 H2 : Hp} (a : Same H H1) (b : Same H1 H2) : Same H H2 := fun c o h => b c o (a c o h)
theorem Same.free {H H' : Hp} (e : Same H H') {l : Addr} (h : H' l = Option.none) : H l = Option.none := by
  cases q : H l with
  | none => rfl
  | some o =>
    rw [e l o q] at h
    cases h
theorem Same.seq {K : PySem.W.Frag} {H H' : Hp} {a : Addr} {xs : List V} (e : Same H H') (h : SqL K H a xs) : SqL K H' a xs := by
  rcases h with (h | ⟨o, h⟩) | h
  · exact .inl (.inl (e _ _ h))
  · exact .inl (.inr ⟨o, e _ _ h⟩)
  · exact .inr h
def PIfs (X : Cx) (ifs : List Expr) (t : TT) : Prop :=
  ∀ (pins : List (Addr × Obj)) (s : Shared) (σ : St) (H : Hp) (Q : Bool -> Hp -> Prop), Inv X pins σ H s -> t σ H Q ->
    wpAny (model X.prog X.w) X.A (forIn ifs true fun c r => if r = true then do
      let ok <- isTrue c X.env (eval c X.env)
      pure (ForInStep.yield ok) else pure (ForInStep.yield r)) (TP X pins σ Q) X.xe s
def tYes : TT := fun _ H Q => Q true H
theorem pifs_nil {X : Cx} : PIfs X [] tYes := fun _ _ _ H _ I h => wpAny_tests_nil ⟨H, I, h⟩
theorem pifs_one {X : Cx} {c : Expr} {t : TT} (h : PT X c t) : PIfs X [c] t := fun pins s σ H Q I hw => wpAny_tests_one (h pins s σ H Q I hw)
def clOf (env : Env) : List (Str × NameKind) -> List (Str × Addr) -> List (Str × Addr)
  | [], cs => cs
  | (n, k) :: r, cs => clOf env r (if (k == NameKind.free) = true then (n, (env.cells.lookup n).getD 0) :: cs else cs)
theorem clOf_loop {env : Env} : ∀ (names : List (Str × NameKind)) (cs : List (Str × Addr)), (∀ x ∈ names, x.2 = .free -> ∃ c, env.cells.lookup x.1 = some c) ->
    (forIn names cs fun (x : Str × NameKind) (r : List (Str × Addr)) => (if (x.2 == NameKind.free) = true then do
      let a <- cellOf env x.1
      pure (ForInStep.yield ((x.1, a) :: r)) else pure (ForInStep.yield r) : Sem (ForInStep (List (Str × Addr))))) = pure (clOf env names cs)
  | [], cs, _ => rfl
  | (n, k) :: r, cs, h => by
    rw [List.forIn_cons]
    by_cases hk : (k == NameKind.free) = true
    · obtain ⟨c, hc⟩ := h (n, k) List.mem_cons_self (by simpa using hk)
      have hc' : env.cells.lookup n = some c := hc
      have e1 : cellOf env n = pure c := by unfold cellOf; rw [hc']
      simp only [hk, if_true, e1, pure_bind]
      rw [clOf_loop r _ fun x hx => h x (List.mem_cons_of_mem _ hx)]
      simp [clOf, hk, hc']
    · simp only [hk, pure_bind]
      rw [if_neg (by simp), pure_bind]
      dsimp only
      rw [clOf_loop r _ fun x hx => h x (List.mem_cons_of_mem _ hx)]
      simp [clOf, hk]
theorem closure_is {scope : Scope} {env : Env} (h : ∀ x ∈ scope.names, x.2 = .free -> ∃ c, env.cells.lookup x.1 = some c) : closureFor scope env = pure (clOf env scope.names []) := by
  have e := clOf_loop scope.names [] h
  simp only [closureFor]
  first
    | (rw [e]; rfl)
    | (refine Eq.trans (congrArg (fun t => t >>= _) e) ?_; rfl)
    | (simp only [e]; rfl)
theorem clOf_get {env : Env} {x : Str} {c : Addr} : ∀ (names : List (Str × NameKind)) (cs : List (Str × Addr)), (∀ y ∈ names, y.2 = .free -> ∃ d, env.cells.lookup y.1 = some d) ->
    (clOf env names cs).lookup x = some c -> cs.lookup x = some c \/ env.cells.lookup x = some c
  | [], cs, _, e => .inl e
  | (n, k) :: r, cs, h, e => by
    have e' : (clOf env r (if (k == NameKind.free) = true then (n, (env.cells.lookup n).getD 0) :: cs else cs)).lookup x = some c := e
    rcases clOf_get r _ (fun y hy => h y (List.mem_cons_of_mem _ hy)) e' with q | q
    · by_cases hk : (k == NameKind.free) = true
      · rw [if_pos hk] at q
        obtain ⟨d, hd⟩ := h (n, k) List.mem_cons_self (by simpa using hk)
        have hd' : env.cells.lookup n = some d := hd
        rw [List.lookup_cons] at q
        by_cases hx : (x == n) = true
        · rw [hx] at q
          have ex : x = n := by simpa using hx
          subst ex
          rw [hd'] at q
          simp at q
          exact .inr (by rw [hd', q])
        · simp only [hx] at q
          exact .inl q
      · rw [if_neg hk] at q
        exact .inl q
    · exact .inr q
theorem clOf_keep {env : Env} {x : Str} : ∀ (names : List (Str × NameKind)) (cs : List (Str × Addr)), (∃ c, cs.lookup x = some c) -> ∃ c, (clOf env names cs).lookup x = some c
  | [], cs, h => h
  | (n, k) :: r, cs, h => by
    refine clOf_keep r _ ?_
    by_cases hk : (k == NameKind.free) = true
    · rw [if_pos hk, List.lookup_cons]
      cases hx : x == n with
      | true => exact ⟨_, rfl⟩
      | false => exact h
    · rw [if_neg hk]; exact h
theorem clOf_has {env : Env} {x : Str} : ∀ (names : List (Str × NameKind)) (cs : List (Str × Addr)), (x, NameKind.free) ∈ names -> ∃ c, (clOf env names cs).lookup x = some c
  | (n, k) :: r, cs, h => by
    show ∃ c, (clOf env r (if (k == NameKind.free) = true then (n, (env.cells.lookup n).getD 0) :: cs else cs)).lookup x = some c
    rcases List.mem_cons.mp h with e | e
    · cases e
      refine clOf_keep r _ ⟨(env.cells.lookup x).getD 0, ?_⟩
      rw [if_pos (by rfl), List.lookup_cons]
      simp
    · exact clOf_has r _ e
def relN (env : Env) (names : List (Str × NameKind)) : List (Str × NameKind) :=
  names.map fun (n, k) => if (k == NameKind.free && env.scope.kind == .function && env.kindOf n == some .cell) then (n, NameKind.cell) else (n, k)
theorem relN_get {env : Env} {x : Str} {k' : NameKind} : ∀ (names : List (Str × NameKind)), (relN env names).lookup x = some k' -> ∃ k, names.lookup x = some k /\ (k' = k \/ (k = .free /\ k' = .cell))
  | [], h => by simp [relN] at h
  | (n, k) :: r, h => by
    have ih := relN_get (env := env) (x := x) (k' := k') r
    have h' : ((if (k == NameKind.free && env.scope.kind == .function && env.kindOf n == some .cell) = true then (n, NameKind.cell) else (n, k)) :: relN env r).lookup x = some k' := h
    by_cases hc : (k == NameKind.free && env.scope.kind == .function && env.kindOf n == some .cell) = true
    · rw [if_pos hc, List.lookup_cons] at h'
      rw [List.lookup_cons]
      cases hx : x == n with
      | true =>
        rw [hx] at h'
        have h2 : NameKind.cell = k' := Option.some.inj h'
        have hk : k = .free := by
          cases k <;> first | rfl | (simp at hc)
        exact ⟨k, rfl, .inr ⟨hk, h2.symm⟩⟩
      | false =>
        rw [hx] at h'
        exact ih h'
    · rw [if_neg hc, List.lookup_cons] at h'
      rw [List.lookup_cons]
      cases hx : x == n with
      | true =>
        rw [hx] at h'
        exact ⟨k, rfl, .inl (Option.some.inj h').symm⟩
      | false =>
        rw [hx] at h'
        exact ih h'
def cxComp (X : Cx) (scope : Scope) (N' : List Str) (fp : List Addr) (C : Addr) (s : Shared) (H : Hp) : Cx where
  prog := X.prog
  w := X.w
  K := X.K
  mg := X.mg
  base := X.base
  A := X.A
  N := N'
  s₀ := s
  H₀ := H
  env := compEnvC scope (clOf X.env scope.names []) C X.env
  outer := X.stack
  stack := X.stack
  ex := fp
  fn := fun _ => false
  calm := true
  pn := X.pn
  xe := fun _ _ => False
def stComp (fr : List (Option Nat)) (σ : St) : St := fr.map fun o => o.bind fun j => (σ[j]?).join
def frOk (N : List Str) (kinds names : List (Str × NameKind)) (N' : List Str) (fr : List (Option Nat)) : Bool :=
  (N'.length == fr.length) && (N'.zip fr).all fun p => match p.2 with
    | none => true
    | some j => N[j]? == some p.1 && names.lookup p.1 == some NameKind.free && (kinds.lookup p.1 == some NameKind.cell || kinds.lookup p.1 == some NameKind.free)
theorem frOk_at {N : List Str} {kinds names : List (Str × NameKind)} {N' : List Str} {fr : List (Option Nat)} (h : frOk N kinds names N' fr = true) {i j : Nat} {x : Str} (h1 : N'[i]? = some x) (h2 : fr[i]? = some (some j)) :
    N[j]? = some x /\ names.lookup x = some NameKind.free /\ (kinds.lookup x = some NameKind.cell \/ kinds.lookup x = some NameKind.free) := by
  unfold frOk at h
  rw [Bool.and_eq_true, List.all_eq_true] at h
  have hm : (x, some j) ∈ N'.zip fr := by
    refine List.mem_of_getElem? (i := i) ?_
    rw [List.getElem?_zip_eq_some]
    exact ⟨h1, h2⟩
  have q := h.2 _ hm
  simp only [Bool.and_eq_true, Bool.or_eq_true, beq_iff_eq] at q
  exact ⟨q.1.1, q.1.2, q.2⟩
structure CompOk (X : Cx) (scope : Scope) (N' : List Str) (fr : List (Option Nat)) : Prop where
  kind : scope.kind = .function
  cells : ∀ y ∈ scope.names, y.2 ≠ .cell
  names : ∀ y ∈ scope.names, y.2 = .local -> scope.names.lookup y.1 = some .local
  frees : ∀ y ∈ scope.names, y.2 = .free -> X.env.kindOf y.1 = some .cell \/ X.env.kindOf y.1 = some .free
  fr : frOk X.N X.env.scope.names scope.names N' fr = true
section
variable {X : Cx} {scope : Scope} {N' : List Str} {fr : List (Option Nat)} {pins : List (Addr × Obj)} {σ : St} {H : Hp} {s : Shared} {fp : List Addr}
theorem CompOk.has (c : CompOk X scope N' fr) (ok : X.Ok) : ∀ y ∈ scope.names, y.2 = .free -> ∃ d, X.env.cells.lookup y.1 = some d := fun y hy h => ok.has _ (c.frees y hy h)
theorem inv_comp {C : Addr} {h' : Heap} {tk : Nat} {m : Str -> Option Value} (c : CompOk X scope N' fr) (hc : X.calm = true) (I : Inv X pins σ H s) (hf : ∀ b ∈ fp, FpOk X pins H b) (hlt : ∀ b ∈ fp, b < s.heap.objs.size)
    (old : ∀ b o, s.heap.get? b = some o -> h'.get? b = some o) (hC : s.heap.objs.size <= C) (hn : h'.Ns C m) :
    Inv (cxComp X scope N' fp C s H) pins (stComp fr σ) H { s with heap := h', toks := tk } := by
  have get : ∀ x d, (clOf X.env scope.names []).lookup x = some d -> X.env.cells.lookup x = some d := fun x d e => by
    rcases clOf_get scope.names [] (c.has I.ok) e with q | q
    · simp at q
    · exact q
  have old2 : ∀ b, b < s.heap.objs.size -> b ≠ C := fun b hb => Nat.ne_of_lt (Nat.lt_of_lt_of_le hb hC)
  have hl : (stComp fr σ).length = N'.length := by
    have q := c.fr
    unfold frOk at q
    rw [Bool.and_eq_true] at q
    have q1 : N'.length = fr.length := by simpa using q.1
    rw [stComp, List.length_map, q1]
  refine ⟨⟨I.ok.mod, c.kind, I.ok.glob, I.ok.blt, hC, ?_, ?_, (fun _ _ z => nomatch z), fun _ => I.ok.hd hc, I.ok.frames, .inl rfl, ?_, I.bs, Nat.le_trans I.ok.bsz I.sz, ?_, ?_, I.stack, I.stkFree⟩, rfl, I.bare, Un.kept old, ⟨m, hn, ?_⟩, ?_, I.hok.fresh hC, ?_, ?_, I.hok.kept old, hl⟩
  · exact fun x y d e1 e2 => I.ok.inj x y d (get x d e1) (get y d e2)
  · intro x hx
    have hx' : (relN X.env scope.names).lookup x = some .cell \/ (relN X.env scope.names).lookup x = some .free := hx
    have fin : scope.names.lookup x = some .free -> ∃ d, (clOf X.env scope.names []).lookup x = some d := fun e => clOf_has scope.names [] (PySem.mem_of_lookup e)
    rcases hx' with q | q
    · obtain ⟨k, e, z⟩ := relN_get scope.names q
      rcases z with z | ⟨z, _⟩
      · subst z
        exact absurd rfl (c.cells _ (PySem.mem_of_lookup e))
      · subst z
        exact fin e
    · obtain ⟨k, e, z⟩ := relN_get scope.names q
      rcases z with z | ⟨_, z⟩
      · subst z
        exact fin e
      · cases z
  · exact fun b hb => ⟨old2 b (hlt b hb), fun x d e => (hf b hb).2.2.2.2.1 x d (get x d e)⟩
  · intro b o e hb
    rcases (hf b hb).2.2.2.1 with z | z
    · exact I.ok.noex b o e z
    · exact absurd (Nat.lt_of_lt_of_le (Heap.lt_size e) (Nat.le_trans I.ok.bsz z)) (Nat.lt_irrefl _)
  · intro b hb hs
    rcases List.mem_cons.mp (I.stkSub b hs) with z | z
    · exact (hf b hb).2.1 z
    · exact (hf b hb).2.2.1 z
  · intro i x v e1 e2 e3
    have e2' : (fr.map fun o => o.bind fun j => (σ[j]?).join)[i]? = some (some v) := e2
    rw [List.getElem?_map] at e2'
    cases q : fr[i]? with
    | none => rw [q] at e2'; cases e2'
    | some o =>
      rw [q] at e2'
      have e3' : (o.bind fun j => (σ[j]?).join) = some v := Option.some.inj e2'
      cases o with
      | none => cases e3'
      | some j =>
        have e4 : (σ[j]?).join = some v := e3'
        have e5 : σ[j]? = some (some v) := by
          cases z : σ[j]? with
          | none => rw [z] at e4; cases e4
          | some w => rw [z] at e4; exact congrArg some e4
        obtain ⟨f1, f2, f3⟩ := frOk_at c.fr e1 q
        obtain ⟨m0, hn0, hl0⟩ := I.loc
        have vis : Vis X.env.scope x := f3.elim (fun z => .inr (.inl z)) fun z => .inr (.inr z)
        obtain ⟨u, r, look⟩ := hl0 j x v f1 e5 vis
        refine ⟨u, r, ?_⟩
        rcases look with ⟨k, _⟩ | ⟨k, d, hd, hcell⟩
        · have k' : X.env.scope.names.lookup x = some .local := k
          rcases f3 with z | z <;> (rw [k'] at z; cases z)
        · refine .inr ⟨?_, d, ?_, ?_⟩
          · have e3'' : (relN X.env scope.names).lookup x = some .local \/ (relN X.env scope.names).lookup x = some .cell \/ (relN X.env scope.names).lookup x = some .free := e3
            rcases e3'' with z | z | z
            · obtain ⟨k2, e, z2⟩ := relN_get scope.names z
              rw [f2] at e
              cases e
              rcases z2 with z2 | ⟨_, z2⟩ <;> cases z2
            · exact .inl z
            · exact .inr z
          · obtain ⟨d', e⟩ := clOf_has (env := X.env) scope.names [] (PySem.mem_of_lookup f2)
            have := get x d' e
            rw [hd] at this
            cases this
            exact e
          · obtain ⟨ob, h1, h2⟩ := hcell
            exact ⟨ob, old _ _ h1, h2⟩
  · intro x d e
    obtain ⟨v, ob, h1, h2⟩ := I.cell x d (get x d e)
    exact ⟨v, ob, old _ _ h1, h2⟩
  · exact fun x d e => I.freeC x d (get x d e)
  · intro p hp
    obtain ⟨e, n, ne, nf, dd⟩ := I.pin p hp
    refine ⟨old _ _ e, n, old2 _ (Heap.lt_size e), fun hs => ?_, dd⟩
    rcases List.mem_cons.mp (I.stkSub p.1 hs) with z | z
    · exact ne z
    · exact nf z
end
section
variable {prog : Program} {w : World} {A : Around} {R : Result -> Shared -> Prop} {s : Shared}
theorem comp_loop {elt tg iter : Expr} {ifs : List Expr} {scope : Scope} {pos : Pos} {it acc : Value} {env : Env} (J : Nat -> Shared -> Prop)
    (turn : ∀ n s, J n s -> wpAny (model prog w) A (pyNext it) (fun r s1 => match r with
      | none => R (.ok .next) s1
      | some v => wpAny (model prog w) A (letOwnedTupleGo tg it v) (fun _ s2 => wpAny (model prog w) A (assign tg env v) (fun _ s3 =>
          wpAny (model prog w) A (forIn ifs true fun c r => if r = true then do
            let ok <- isTrue c env (eval c env)
            pure (ForInStep.yield ok) else pure (ForInStep.yield r)) (fun ok s4 =>
              if ok = true then wpAny (model prog w) A (eval elt env) (fun x s5 =>
                wpAny (model prog w) A (call (.builtin "list.append") [acc, x]) (fun _ s6 => ∃ m, m < n /\ J m s6) (fun _ _ => False) s5) (fun _ _ => False) s4
              else ∃ m, m < n /\ J m s4) (fun _ _ => False) s3) (fun _ _ => False) s2) (fun _ _ => False) s1) (fun _ _ => False) s)
    (n : Nat) (h : J n s) : codeAny (model prog w) A (.compLoop (.ListComp elt [⟨tg, iter, ifs, 0⟩] scope pos) 0 it acc env) R s := by
  refine codeAny_loop rfl J (fun k s1 hJ => ?_) n h
  show wpAny _ A ((compTurn (.ListComp elt [⟨tg, iter, ifs, 0⟩] scope pos) 0 it acc env).onRaise (fun y => do noteFrame y env; theTreesLotGoes y)) _ _ s1
  refine wpAny_noted (wpAny_mono (E := fun _ _ => False) ?_ (fun _ _ q => q) fun _ _ z => z.elim)
  rw [compTurn_list]
  refine wpAny_bind (wpAny_standAt (wpAny_bind (thn (turn k s1 hJ) fun r s2 h2 => ?_)))
  cases r with
  | none => exact wpAny_pure h2
  | some v =>
    refine wpAny_bind (thn h2 fun _ s3 h3 => wpAny_bind (thn h3 fun _ s4 h4 => wpAny_bind (thn h4 fun ok s5 h5 => ?_)))
    cases ok with
    | false => exact wpAny_pure ⟨rfl, h5⟩
    | true =>
      refine wpAny_bind (wpAny_bind (thn h5 fun x s6 h6 => wpAny_bind (thn h6 fun _ s7 h7 => ?_)))
      exact wpAny_pure (wpAny_pure ⟨rfl, h7⟩)
end
theorem HOk.track {P : Program} {w : World} {H : Hp} {h : Heap} {a : Addr} {o : HO} (ok : HOk P w H h) (hn : H a = none) (new : ObjOk P w (upd H a o) h a o) : HOk P w (upd H a o) h := fun b u q => by
  by_cases hb : b = a
  · subst hb
    rw [upd_same] at q
    cases q
    exact new
  · rw [upd_ne hb] at q
    exact (ok b u q).stay (fun _ _ _ r => r) (fun c r => by rw [upd_ne (ne_of_none r hn)]; exact r) fun c xs r => by rw [upd_ne (ne_of_none r hn)]; exact r
def CompW (J : It) (g : TG) (tt : TT) (te : TE) (fin : List V -> Hp -> Prop) (W : Nat -> Nat -> List V -> St -> Hp -> Prop) : Prop :=
  ∀ i m ys σ H, W i m ys σ H -> (J.stop i H /\ ys.length <= sizeLine /\ fin ys H) \/ (J.go i H /\ ys.length < sizeLine /\ ∀ x H', J.yld i H x H' -> g x σ H' fun σ2 H2 => tt σ2 H2 fun b H3 =>
    if b = true then te σ2 H3 fun y H4 => ∃ m', m' < m /\ W (i + 1) m' (ys ++ [y]) σ2 H4 else ∃ m', m' < m /\ W (i + 1) m' ys σ2 H3)
section
variable {X : Cx} {scope : Scope} {N' : List Str} {fr : List (Option Nat)} {pins : List (Addr × Obj)} {σ : St} {H : Hp} {s : Shared} {fp : List Addr} {it : Addr} {tn : Nat -> Heap -> Prop} {J : It}
  {elt tg iter : Expr} {ifs : List Expr} {g : TG} {tt : TT} {te : TE} {pos : Pos} {fin : List V -> Hp -> Prop} {W : Nat -> Nat -> List V -> St -> Hp -> Prop} {RR : Value -> Addr -> Result -> Shared -> Prop} {E : Value -> Shared -> Prop}
theorem comp_block (c : CompOk X scope N' fr) (hc : X.calm = true) (I : Inv X pins σ H s) (T : Turn X.prog X.w X.K tg J fp it tn) (st : tn 0 s.heap) (hf : ∀ b ∈ fp, FpOk X pins H b)
    (hg : ∀ fp C s H, PG (cxComp X scope N' fp C s H) tg g) (ht : ∀ fp C s H, PIfs (cxComp X scope N' fp C s H) ifs tt) (he : ∀ fp C s H, PE (cxComp X scope N' fp C s H) elt te)
    (hW : CompW J g tt te fin W) (h0 : ∃ m, W 0 m [] (stComp fr σ) H)
    (hRR : ∀ D C ys H' s', Inv X pins σ (upd H' D (.lst ys)) s' -> (∃ m, s'.heap.Ns C m) -> FpOk X pins (upd H' D (.lst ys)) C -> H' D = none -> fin ys H' -> RR (.ref D) C (.ok .next) s') :
    wpAny (model X.prog X.w) X.A (newList []) (fun acc s3 => wpAny (model X.prog X.w) X.A (newFunctionEnv scope X.env.globals (clOf X.env scope.names []) [] X.env.qual none .none (some X.env)) (fun cenv s4 =>
      codeAny (model X.prog X.w) X.A (.compStart (.ListComp elt [⟨tg, iter, ifs, 0⟩] scope pos) 0 (.ref it) acc { cenv with scope := relabel scope X.env }) (RR acc cenv.locals) s4) E s3) E s := by
  refine wpAny_newObj_type (wpAny_newFunctionEnv c.cells (by intro y hy; simp at hy) (fun h1 hns hsb => ?_) c.kind)
  dsimp only at hns hsb ⊢
  generalize hH2 : s.heap.push { cls := .type "list", dict := none, data := .seq ([] : List Value).toArray } = H2 at hns hsb ⊢
  have hD0 : s.heap.objs.size < H2.objs.size := by rw [<- hH2, Heap.size_push]; exact Nat.lt_succ_self _
  generalize hDD : s.heap.objs.size = D at hD0 ⊢
  generalize hCC : H2.objs.size = C at hns hsb hD0 ⊢
  have up : ∀ b o, s.heap.get? b = some o -> h1.get? b = some o := fun b o e => hsb.extBut b o (by
    have := Heap.lt_size e
    rw [hDD] at this
    exact Nat.ne_of_lt (Nat.lt_trans this hD0)) (Heap.get?_push_of_some _ (by rw [<- hH2]; exact Heap.get?_push_of_some _ e))
  have accD : h1.get? D = some { cls := .type "list", dict := none, data := .seq ([] : List Value).toArray } := hsb.extBut _ _ (Nat.ne_of_lt hD0) (Heap.get?_push_of_some _ (by rw [<- hH2, <- hDD]; exact Heap.get?_push_size _ rfl))
  have hlt : ∀ b ∈ fp, b < s.heap.objs.size := fun b hb => by
    obtain ⟨o, e, _⟩ := T.obj 0 _ st b hb
    exact Heap.lt_size e
  have hle : s.heap.objs.size <= C := by rw [hDD]; exact Nat.le_of_lt hD0
  generalize hX' : cxComp X scope N' fp C s H = X'
  have I1 : Inv X' pins (stComp fr σ) H { s with heap := h1, toks := s.toks + ([] : List (Str × Value)).length } := by
    subst hX'
    exact inv_comp c hc I hf hlt up hle hns
  have st1 : tn 0 h1 := T.keep _ _ _ st fun b hb o e => up b o e
  have pm : X'.prog = X.prog := by subst hX'; rfl
  have wm : X'.w = X.w := by subst hX'; rfl
  have km : X'.K = X.K := by subst hX'; rfl
  have cm : X'.calm = true := by subst hX'; rfl
  have am : X'.A = X.A := by subst hX'; rfl
  have xm : X'.xe = fun _ _ => False := by subst hX'; rfl
  have lm : X'.env.locals = C := by subst hX'; rfl
  have szm : X'.s₀.heap.objs.size = s.heap.objs.size := by subst hX'; rfl
  have nm : X'.pn = X.pn := by subst hX'; rfl
  have hg' := hg fp C s H
  have ht' := ht fp C s H
  have he' := he fp C s H
  have em : X'.env = compEnvC scope (clOf X.env scope.names []) C X.env := by subst hX'; rfl
  have fsm : X'.fs = frs X.stack := by subst hX'; rfl
  have exm : X'.ex = fp := by subst hX'; rfl
  rw [hX'] at hg' ht' he'
  have ageP : ∀ p ∈ X.pn ++ pins, p.1 < D := fun p hp => by rw [<- hDD]; exact Heap.lt_size (I.pin p hp).1
  have ageC : ∀ x d, X'.env.cells.lookup x = some d -> d < D := fun x d e => by
    rw [em] at e
    rcases clOf_get scope.names [] (c.has I.ok) e with q | q
    · simp at q
    · obtain ⟨v, z⟩ := I.cell x d q
      rw [<- hDD]
      exact z.lt
  have cellF : ∀ x d, X'.env.cells.lookup x = some d -> X.env.cells.lookup x = some d := fun x d e => by
    rw [em] at e
    rcases clOf_get scope.names [] (c.has I.ok) e with q | q
    · simp at q
    · exact q
  have fps : ∀ {H' : Hp} {oD : Obj}, (∀ b ∈ fp, H' b = none) -> ∀ b ∈ fp, FpOk X' (pins ++ [(D, oD)]) H' b := fun {H' oD} hn b hb => by
    obtain ⟨_, f1, f2, f3, f4, f5⟩ := hf b hb
    have hbD : b < D := by rw [<- hDD]; exact hlt b hb
    refine ⟨hn b hb, ?_, ?_, .inl (by rw [exm]; exact hb), fun x d e => f4 x d (cellF x d e), fun p hp => ?_⟩
    · rw [lm]; exact Nat.ne_of_lt (Nat.lt_trans hbD hD0)
    · rw [fsm]
      intro hs
      rcases List.mem_cons.mp (I.stkSub b hs) with z | z
      · exact f1 z
      · exact f2 z
    · rw [nm, <- List.append_assoc] at hp
      rcases List.mem_append.mp hp with z | z
      · exact f5 p z
      · rw [List.mem_singleton.mp z]
        exact Nat.ne_of_gt hbD
  have pinD : ∀ {σ' : St} {H' : Hp} {s' : Shared} {its : List Value} {k : Nat}, Inv X' pins σ' H' s' -> s'.heap.get? D = some { cls := .type "list", data := .seq its.toArray k } -> H' D = none ->
      Inv X' (pins ++ [(D, { cls := .type "list", data := .seq its.toArray k })]) σ' H' s' := fun {σ' H' s' its k} J0 e n => J0.pins_of fun p hp => by
    rcases List.mem_append.mp hp with z | z
    · exact J0.pin p (List.mem_append_right _ z)
    · rw [List.mem_singleton.mp z]
      refine ⟨e, n, ?_, ?_, fun v q => by cases q⟩
      · show D ≠ X'.env.locals
        rw [lm]
        exact Nat.ne_of_lt hD0
      · rw [fsm]
        intro hs
        have hb := I.stkSub D hs
        rcases List.mem_cons.mp hb with z | z
        · have := I.lt
          rw [<- z, hDD] at this
          exact Nat.lt_irrefl _ this
        · exact I.nofs (Nat.le_of_eq hDD) z
  have loop : ∀ s0 : Shared, s0 = { s with heap := h1, toks := s.toks + ([] : List (Str × Value)).length } ->
      codeAny (model X.prog X.w) X.A (.compLoop (.ListComp elt [⟨tg, iter, ifs, 0⟩] scope pos) 0 (.ref it) (.ref D) X'.env) (RR (.ref D) C) s0 := by
    rintro s0 rfl
    obtain ⟨m0, w0⟩ := h0
    refine comp_loop (fun n s' => ∃ i ys σ' H' its k, Inv X' pins σ' H' s' /\ tn i s'.heap /\ (∀ b ∈ fp, H' b = none) /\ s'.heap.get? D = some { cls := .type "list", data := .seq (its : List Value).toArray k } /\ H' D = none /\ Vals ys its /\ W i n ys σ' H')
      ?_ m0 ⟨0, [], stComp fr σ, H, [], 0, I1, st1, fun b hb => (hf b hb).1, accD, I.hok.fresh (by rw [hDD]; exact Nat.le_refl _), .nil, w0⟩
    rintro n s1 ⟨i, ys, σ1, H1, its, k, J1, t1, n1, d1, nD1, v1, w1⟩
    have J1' := pinD J1 d1 nD1
    rcases hW i n ys σ1 H1 w1 with ⟨stop, hlen, fi⟩ | ⟨go, hlen, step⟩
    · have a1 := T.done X' pm wm km cm i _ s1 σ1 H1 (fun _ _ => False) J1' (fps n1) t1 stop
      rw [am] at a1
      refine thn a1 fun r s2 ⟨hr, J2⟩ => ?_
      subst hr
      obtain ⟨d2, nD2, _⟩ := J2.pin (D, _) (List.mem_append_right _ (List.mem_append_right _ List.mem_cons_self))
      have u2 : Un (frs X.stack) fp H H1 s.heap s2.heap := by
        have := J2.base
        subst hX'
        exact this
      have hok2 : HOk X.prog X.w (upd H1 D (.lst ys)) s2.heap := by
        have h2 := J2.hok
        rw [pm, wm] at h2
        exact h2.track nD1 ⟨hlen, its, k, v1, d2⟩
      have J3 : Inv X pins σ (upd H1 D (.lst ys)) s2 := by
        refine I.call' (ch := fp) (by have := J2.os; subst hX'; exact this) ⟨fun b o e n hb hx => u2.keep b o e n hb hx, fun b o e n hb hx => u2.slot b o e n hb hx, fun b o e n hx => ?_, fun b o e hx => u2.there b o e hx, fun b xs e => ?_, fun b o u e => ?_, fun b ps e => ?_⟩ hok2 J2.bare fun b hb => ?_
        · have ne : b ≠ D := Nat.ne_of_lt (by rw [<- hDD]; exact Heap.lt_size e)
          rw [upd_ne ne]
          exact u2.free b o e n hx
        · have q := u2.tups b xs e
          rw [upd_ne (ne_of_none q nD1)]
          exact q
        · have q := u2.frzs b o u e
          rw [upd_ne (ne_of_none q nD1)]
          exact q
        · obtain ⟨more, q⟩ := u2.tbls b ps e
          exact ⟨more, by rw [upd_ne (ne_of_none q nD1)]; exact q⟩
        · obtain ⟨_, f1, f2, f3, f4, f5⟩ := hf b hb
          exact ⟨f3, f1, f4, f5⟩
      have nC : (upd H1 D (.lst ys)) C = none := by
        rw [upd_ne (Nat.ne_of_gt hD0)]
        have := J2.free
        rw [lm] at this
        exact this
      refine hRR D C ys H1 s2 J3 ?_ (I.fpOk hle nC) nD1 fi
      obtain ⟨m, hm, _⟩ := J2.loc
      rw [lm] at hm
      exact ⟨m, hm⟩
    · have a1 := T.item X' pm wm km cm i _ s1 σ1 H1 (fun _ _ => False) J1' (fps n1) t1 go
      rw [am] at a1
      refine thn a1 fun r s2 ⟨u, hr, h2⟩ => ?_
      subst hr
      refine thn h2 fun _ s3 ⟨x, H3, J3, r3, y3, t3, n3⟩ => ?_
      have J3' := J3.pinned (fps n3) (T.obj _ _ t3)
      have a3 := hg' _ s3 σ1 H3 x u _ J3' r3 (step x H3 y3)
      rw [pm, wm, am, xm] at a3
      refine thn a3 fun _ s4 ⟨σ4, H4, J4, q4⟩ => ?_
      have a4 := ht' _ s4 σ4 H4 _ J4 q4
      rw [pm, wm, am, xm] at a4
      refine thn a4 fun ok s5 ⟨H5, J5, q5⟩ => ?_
      have keepT : ∀ {σ' : St} {H' : Hp} {s' : Shared}, Inv X' (pins ++ [(D, { cls := .type "list", data := .seq its.toArray k })] ++ pinsAt fp s3.heap) σ' H' s' -> tn (i + 1) s'.heap /\ (∀ b ∈ fp, H' b = none) /\ s'.heap.get? D = some { cls := .type "list", data := .seq its.toArray k } /\ H' D = none /\ Inv X' pins σ' H' s' := fun {σ' H' s'} J0 => by
        refine ⟨T.keep _ _ _ t3 fun b hb o e => (J0.pin (b, o) (List.mem_append_right _ (List.mem_append_right _ (mem_pinsAt hb e)))).1, fun b hb => ?_, ?_, ?_, J0.unpinned.unpinned⟩
        · obtain ⟨o, e, _⟩ := T.obj _ _ t3 b hb
          exact (J0.pin (b, o) (List.mem_append_right _ (List.mem_append_right _ (mem_pinsAt hb e)))).2.1
        · exact (J0.pin (D, _) (List.mem_append_right _ (List.mem_append_left _ (List.mem_append_right _ List.mem_cons_self)))).1
        · exact (J0.pin (D, { cls := .type "list", data := .seq its.toArray k }) (List.mem_append_right _ (List.mem_append_left _ (List.mem_append_right _ List.mem_cons_self)))).2.1
      cases ok with
      | false =>
        obtain ⟨m', hm, w'⟩ := q5
        obtain ⟨e1, e2, e3, e4, e5⟩ := keepT J5
        rw [if_neg Bool.false_ne_true]
        exact ⟨m', hm, i + 1, ys, σ4, H5, its, k, e5, e1, e2, e3, e4, v1, w'⟩
      | true =>
        rw [if_pos rfl]
        have a5 := he' _ s5 σ4 H5 _ J5 q5
        rw [pm, wm, am, xm] at a5
        refine thn a5 fun u6 s6 ⟨y, H6, J6, r6, m', hm, w6⟩ => ?_
        obtain ⟨e1, e2, e3, e4, e5⟩ := keepT J6
        refine append_at (hsz := by show its.toArray.size <= sizeLine; rw [List.size_toArray, <- v1.length]; exact Nat.le_of_lt hlen) e3 fun h7 sb7 d7 => ?_
        have J7 : Inv X' pins σ4 H6 { s6 with heap := h7 } := e5.turned (t' := s6.toks) (it := D) (fun b o hb e => sb7.extBut b o hb e) e4 (by rw [lm]; exact Nat.ne_of_lt hD0) (.inr (by rw [szm, hDD]; exact Nat.le_refl _)) (fun x d e => Nat.ne_of_lt (ageC x d e)) fun p hp => by
          rw [nm] at hp
          exact Nat.ne_of_lt (ageP p hp)
        refine ⟨m', hm, i + 1, ys ++ [y], σ4, H6, its ++ [u6], k + 1, J7, T.keep _ _ _ e1 fun b hb o e => sb7.extBut b o (Nat.ne_of_lt (by rw [<- hDD]; exact hlt b hb)) e, e2, ?_, e4, v1.append (.cons r6 .nil), w6⟩
        rw [d7, List.push_toArray]
  have env1 : ({ newEnv scope C X.env.globals (clOf X.env scope.names []) X.env.qual none .none (some X.env) 0 with scope := relabel scope X.env } : Env) = X'.env := by rw [em]; rfl
  have lp := loop _ rfl
  rw [em] at lp
  exact codeAny_compStart_list lp (T.self _ 0 _ _ _ st1 lp)
def tComp (wi : TI) (fr : List (Option Nat)) (g : TG) (tt : TT) (te : TE) : TE := fun σ H Q => wi σ H fun J H1 =>
  ∃ W, CompW J g tt te (fun ys H' => ∀ p, H' p = none -> Q (.ref p) (upd H' p (.lst ys))) W /\ ∃ m, W 0 m [] (stComp fr σ) H1
theorem pe_comp {wi : TI} (c : CompOk X scope N' fr) (hc : X.calm = true) (hi : PI X tg iter wi) (hg : ∀ fp C s H, PG (cxComp X scope N' fp C s H) tg g) (ht : ∀ fp C s H, PIfs (cxComp X scope N' fp C s H) ifs tt)
    (he : ∀ fp C s H, PE (cxComp X scope N' fp C s H) elt te) (hs : ∀ x, foldedSetIterable iter X.env x = pure x := by intro _; rfl) : PE X (.ListComp elt [⟨tg, iter, ifs, 0⟩] scope pos) (tComp wi fr g tt te) := by
  intro pins s σ H Q I h
  rw [eval_ListComp]
  refine wpAny_comprehension_free (use := none) rfl hs (closure_is (c.has I.ok)) c.kind c.names (thn (hi pins s σ H _ I h) fun v s1 h1 => thn h1 fun itv s2 h2 => ?_)
  obtain ⟨it, fp, tn, J, H2, e, I2, T, st2, f2, W, hW, h0⟩ := h2
  subst e
  refine comp_block c hc I2 T st2 f2 hg ht he hW h0 ?_
  rintro D C ys H' s' J3 ⟨m, hm⟩ ⟨f0, f1, _, f3, f4, f5⟩ nD fi
  exact ⟨m, hm, fun h'' sb => ⟨.ref D, _, J3.turned (t' := s'.toks) (it := C) (fun b o hb e => sb.extBut b o hb e) f0 f1 f3 f4 f5, rfl, fi D nD⟩⟩
def tSetComp (i : Nat) (wi : TI) (fr : List (Option Nat)) (g : TG) (tt : TT) (te : TE) : TS := fun D σ H => wi σ H fun J H1 =>
  ∃ W, CompW J g tt te (fun ys H' => ∀ p, H' p = none -> D.nx (σ.set i (some (.ref p))) (upd H' p (.lst ys))) W /\ ∃ m, W 0 m [] (stComp fr σ) H1
theorem ps_setComp {wi : TI} {i : Nat} {y : Str} {py spos : Pos} (hN : X.N.Nodup) (hi' : X.N[i]? = some y) (hy : Loc X.env.scope y) (c : CompOk X scope N' fr) (hc : X.calm = true) (hi : PI X tg iter wi) (hg : ∀ fp C s H, PG (cxComp X scope N' fp C s H) tg g) (ht : ∀ fp C s H, PIfs (cxComp X scope N' fp C s H) ifs tt)
    (he : ∀ fp C s H, PE (cxComp X scope N' fp C s H) elt te) (hs : ∀ x, foldedSetIterable iter X.env x = pure x := by intro _; rfl)
    (hsw : swapsWith (.ListComp elt [⟨tg, iter, ifs, 0⟩] scope pos) (some (.Name y py)) spos.line X.env = pure true := by rfl) (hf : X.fn y = true \/ X.env.scope.names.lookup y = some .local := by first | exact .inl rfl | exact .inr rfl | assumption) :
    PS X (.Assign [.Name y py] (.ListComp elt [⟨tg, iter, ifs, 0⟩] scope pos) spos) (tSetComp i wi fr g tt te) := by
  intro pins s σ H D I h
  rw [exec_Assign_Name_used _ _ _ _ hsw]
  refine wpAny_bind (wpAny_standAt (wpAny_bind ?_))
  show wpAny _ X.A (do let _ <- comprehension (.ListComp elt [⟨tg, iter, ifs, 0⟩] scope pos) scope X.env _ (newList []) false (eval iter X.env) (some (assign (.Name y py) X.env))) _ _ s
  refine wpAny_bind (thn (wpAny_comprehension_free (use := some (assign (.Name y py) X.env)) (Q := fun _ s' => SP X pins D .next s') rfl hs (closure_is (c.has I.ok)) c.kind c.names
    (thn (hi pins s σ H _ I h) fun v s1 h1 => thn h1 fun itv s2 h2 => ?_)) fun _ s' hq => wpAny_pure (wpAny_pure hq))
  obtain ⟨it, fp, tn, J, H2, e, I2, T, st2, f2, W, hW, h0⟩ := h2
  subst e
  refine comp_block c hc I2 T st2 f2 hg ht he hW h0 ?_
  rintro B C ys H' s' J3 ⟨m, hm⟩ ⟨f0, f1, _, f3, f4, f5⟩ nD fi
  show wpAny _ X.A (assign (.Name y py) X.env (.ref B)) _ _ s'
  refine wpAny_assign_Name (store_ok2 J3 hN hi' hy (show RelV (.ref B) (.ref B) from rfl) (fun s4 J4 ⟨a, sb, ha⟩ => ?_) hf)
  have nCa : C ≠ a := by
    rcases ha with z | z
    · rw [z]; exact f1
    · exact fun q => f4 y a z q.symm
  exact ⟨m, hm.sameBut sb nCa, fun h'' sb2 => ⟨_, _, J4.turned (t' := s4.toks) (it := C) (fun b o hb e => sb2.extBut b o hb e) f0 f1 f3 f4 f5, fi B nD⟩⟩
end
section
variable {X : Cx}
theorem call_isinst : CallR X (.builtin "isinstance") (fun xs H Q => ∃ x c t u b, xs = [x, c] /\ RelV c u /\ TyOf X.K H x t /\ PySem.W.kitOne X.K t u = some b /\ Q (.bl b) H) := by
  intro pins s σ H xs us Q I r h
  obtain ⟨x, c, t, u, b, rfl, rc, ty, e, q⟩ := h
  obtain ⟨u1, u2, rfl, r1, r2⟩ := Vals.two r
  have hu : u2 = u := by
    cases c <;> first
      | exact (show u2 = _ from r2).trans (show u = _ from rc).symm
      | skip
    all_goals (exfalso; obtain ⟨_, rfl⟩ := rc; unfold PySem.W.kitOne PySem.W.kitCls at e; split at e <;> first | (cases ty <;> simp_all) | (simp at e))
  subst hu
  exact isinst_ok I r1 ty e fun tk => ⟨.bl b, H, I.tok tk, rfl, q⟩
def rNil (K : PySem.W.Frag) (neg : Bool) : R2 := fun x y H Q => ∃ a b xs, x = .ref a /\ y = .ref b /\ SqL K H a xs /\ SqL K H b [] /\ Q (.bl (neg ^^ decide (xs = []))) H
theorem op_neNil (hu : X.A.units + 66 < cLine) : OpR X (compareOp .NotEq) (rNil X.K true) := by
  intro pins s σ H x y v u Q I rx ry h
  obtain ⟨a, b, xs, rfl, rfl, ha, hb, q⟩ := h
  cases (show v = Value.ref a from rx)
  cases (show u = Value.ref b from ry)
  obtain ⟨its, r1, t1, _⟩ := I.list ha
  obtain ⟨its2, r2, t2, _⟩ := I.list hb
  have z2 : its2 = [] := Vals.zero r2
  subst z2
  cases xs with
  | nil =>
    have z1 : its = [] := Vals.zero r1
    subst z1
    exact EqBoolInt.of_rcne (SeqAt.RcNeAt.lists (e := fun _ => true) t1.isList t2.isList rfl (by lia) (fun j h1 _ => absurd h1 (by simp))) ⟨.bl false, H, I, by simp [RelV], by simpa using q⟩
  | cons x xs =>
    have hl := r1.length
    exact EqBoolInt.of_rcne (SeqAt.RcNeAt.lists_lengths t1.isList t2.isList (by simp [<- hl]) (by lia)) ⟨.bl true, H, I, rfl, by simpa using q⟩
end
section
variable {X : Cx} {pins : List (Addr × Obj)} {σ : St} {H : Hp} {s : Shared}
theorem Inv.turnM {ch : List Addr} {t' : Nat} {h' : Heap} (I : Inv X pins σ H s) (hf : ∀ b ∈ ch, FpOk X pins H b) (k : ∀ b u, b ∉ ch -> s.heap.get? b = some u -> h'.get? b = some u) : Inv X pins σ H { s with heap := h', toks := t' } := by
  have nch : ∀ b u, H b = some u -> b ∉ ch := fun b u e z => by have := (hf b z).1; rw [this] at e; cases e
  refine I.step (g' := s.gens) (d' := s.drawn) (ch := ch) (fun b hb => ⟨(hf b hb).2.2.2.1, (hf b hb).2.1, (hf b hb).2.2.2.2.1, (hf b hb).2.2.2.2.2⟩) (fun b o _ _ hc e _ => k b o hc e) (fun b o _ _ hc e _ => ⟨o.slots, k b o hc e⟩) (fun _ _ _ _ n => n)
    (fun b o hc e => ⟨o, k b o hc e⟩) (fun _ _ e => e) (fun _ _ _ e => e) (fun b ps e => ⟨#[], by rw [e]; simp⟩) (fun m hm => ?_) (fun b u e => ?_) I.bare
  · obtain ⟨o, es, ep, ho, r⟩ := hm
    exact ⟨o, es, ep, k _ o (fun z => (hf _ z).2.1 rfl) ho, r⟩
  · refine (I.hok b u e).stay (fun c v hc q => k c v ?_ q) (fun _ q => q) fun _ _ q => q
    rcases hc with z | z
    · rw [z]; exact nch b u e
    · exact nch c _ z
theorem Inv.turnNew {ch : List Addr} {T : Addr} {o : HO} {t' : Nat} {h' : Heap} (I : Inv X pins σ H s) (hf : ∀ b ∈ ch, FpOk X pins H b) (k : ∀ b u, b ∉ ch -> s.heap.get? b = some u -> h'.get? b = some u) (hT : s.heap.objs.size <= T)
    (new : ObjOk X.prog X.w (upd H T o) h' T o) : Inv X pins σ (upd H T o) { s with heap := h', toks := t' } := by
  have nch : ∀ b u, H b = some u -> b ∉ ch := fun b u e z => by have := (hf b z).1; rw [this] at e; cases e
  have nT : H T = none := I.hok.fresh hT
  have neT : ∀ b u, s.heap.get? b = some u -> b ≠ T := fun b u e => Nat.ne_of_lt (Nat.lt_of_lt_of_le (Heap.lt_size e) hT)
  refine I.step (g' := s.gens) (d' := s.drawn) (ch := ch) (fun b hb => ⟨(hf b hb).2.2.2.1, (hf b hb).2.1, (hf b hb).2.2.2.2.1, (hf b hb).2.2.2.2.2⟩) (fun b o _ _ hc e _ => k b o hc e) (fun b o _ _ hc e _ => ⟨o.slots, k b o hc e⟩) (fun b u _ e n => by rw [upd_ne (neT b u e)]; exact n)
    (fun b o hc e => ⟨o, k b o hc e⟩) (fun b xs e => by rw [upd_ne (ne_of_none e nT)]; exact e) (fun b o u e => by rw [upd_ne (ne_of_none e nT)]; exact e) (fun b ps e => ⟨#[], by rw [upd_ne (ne_of_none e nT), e]; simp⟩) (fun m hm => ?_) (fun b u e => ?_) I.bare
  · obtain ⟨o, es, ep, ho, r⟩ := hm
    exact ⟨o, es, ep, k _ o (fun z => (hf _ z).2.1 rfl) ho, r⟩
  · by_cases hb : b = T
    · subst hb
      rw [upd_same] at e
      cases e
      exact new
    · rw [upd_ne hb] at e
      refine (I.hok b u e).stay (fun c v hc q => k c v ?_ q) (fun c r => by rw [upd_ne (ne_of_none r nT)]; exact r) fun c xs r => by rw [upd_ne (ne_of_none r nT)]; exact r
      rcases hc with z | z
      · rw [z]; exact nch b u e
      · exact nch c _ z
end
inductive Kd | l | t
def ItAt (k : Kd) (h : Heap) (it a : Addr) (i : Nat) : Prop := match k with | .l => h.IsListIter it a i | .t => h.IsTupleIter it a i
def SqK (k : Kd) (K : PySem.W.Frag) (H : Hp) (a : Addr) (xs : List V) : Prop := match k with | .l => SqL K H a xs | .t => SqT K H a xs
def SeqIs (k : Kd) (h : Heap) (a : Addr) (its : List Value) : Prop := match k with | .l => h.IsList a its.toArray | .t => h.IsTuple a its.toArray
theorem Inv.seq {X : Cx} {pins : List (Addr × Obj)} {σ : St} {H : Hp} {s : Shared} (I : Inv X pins σ H s) {k : Kd} {a : Addr} {xs : List V} (h : SqK k X.K H a xs) : ∃ its : List Value, Vals xs its /\ SeqIs k s.heap a its /\ xs.length <= sizeLine := by
  cases k with
  | l => obtain ⟨its, r, t, z⟩ := I.list h; exact ⟨its, r, t.isList, z⟩
  | t => obtain ⟨its, r, t, z⟩ := I.tuple h; exact ⟨its, r, t, z⟩
theorem ItAt.kept {k : Kd} {h h' : Heap} {it a : Addr} {i : Nat} (q : ItAt k h it a i) (e : ∀ o, h.get? it = some o -> h'.get? it = some o) : ItAt k h' it a i := by
  cases k with
  | l => obtain ⟨o, ho, r⟩ := (show h.IsListIter it a i from q); exact ⟨o, e _ ho, r⟩
  | t => obtain ⟨o, ho, r⟩ := (show h.IsTupleIter it a i from q); exact ⟨o, e _ ho, r⟩
theorem ItAt.obj {k : Kd} {h : Heap} {it a : Addr} {i : Nat} (q : ItAt k h it a i) : ∃ o, h.get? it = some o /\ ∀ v, o.data ≠ .cell v := by
  cases k with
  | l => obtain ⟨o, ho, _, d⟩ := (show h.IsListIter it a i from q); exact ⟨o, ho, fun v z => by rw [d] at z; cases z⟩
  | t => obtain ⟨o, ho, _, d⟩ := (show h.IsTupleIter it a i from q); exact ⟨o, ho, fun v z => by rw [d] at z; cases z⟩
section
variable {prog : Program} {w : World} {A : Around} {E : Value -> Shared -> Prop} {s : Shared}
theorem next_tup {it t : Addr} {i : Nat} {its : List Value} {x : Value} {Q : Value -> Shared -> Prop} (hi : s.heap.IsTupleIter it t i) (ht : s.heap.IsTuple t its.toArray) (hx : its[i]? = some x)
    (q : ∀ h', h'.IsTupleIter it t (i + 1) -> Heap.SameBut it s.heap h' -> Q x { s with heap := h' }) : wpAny (model prog w) A (Builtin.SmallTypes.nextOf (.ref it)) Q E s := by
  obtain ⟨oi, gi, ci, di⟩ := id hi
  obtain ⟨ot, gt, _, nt, dt⟩ := ht
  have hx' : its.toArray[i]? = some x := by simpa using hx
  unfold Builtin.SmallTypes.nextOf
  refine wpAny_bind (wpAny_callSpecial?_slot (name := Str.ofString "__next__") hi.typeIs F.slot_tuple_iterator_next (wpAny_call_entry F.slot_tuple_iterator_next hi.typeIs F.entry_tuple_iterator_next ?_ (F.args_tuple_iterator_next_1 _)))
  show wpAny _ _ (field (Value.ref it) 0 >>= _) _ _ s
  refine wpAny_bind (wpAny_field gi di (x := Value.ref t) rfl ?_)
  rw [if_neg (show ¬ ((Value.ref t == Value.none) = true) by intro z; cases z)]
  refine wpAny_bind (wpAny_field gi di (x := Value.int i 0) rfl ?_)
  refine wpAny_bind (wpAny_seqItems gt dt ?_)
  simp only [Int.toNat_natCast, hx']
  refine wpAny_bind (wpAny_setField gi di (by simp) (wpAny_pure ⟨x, rfl, wpAny_pure (q _ ?_ (Heap.SameBut.update ..))⟩))
  refine ⟨_, Heap.get?_update_self _ gi (Obj.isFreed_of_fields (Obj.data_mapFields di _)), (Obj.cls_mapFields ..).trans ci, ?_⟩
  rw [Obj.data_mapFields di]
  simp [rawInt]
theorem end_tup {it t : Addr} {i : Nat} {its : List Value} {Q : Value -> Shared -> Prop} (hh : A.handled = none) (hi : s.heap.IsTupleIter it t i) (ht : s.heap.IsTuple t its.toArray) (hx : its.length <= i)
    (q : ∀ h' e, Heap.ExtBut it s.heap h' -> (∃ o, h'.get? e = some o /\ o.cls = .type "StopIteration") -> E (.ref e) { s with heap := h' }) : wpAny (model prog w) A (Builtin.SmallTypes.nextOf (.ref it)) Q E s := by
  obtain ⟨oi, gi, ci, di⟩ := id hi
  obtain ⟨ot, gt, _, nt, dt⟩ := ht
  have hx' : its.toArray[i]? = none := by simpa using hx
  unfold Builtin.SmallTypes.nextOf
  refine wpAny_bind (wpAny_callSpecial?_slot (name := Str.ofString "__next__") hi.typeIs F.slot_tuple_iterator_next (wpAny_call_entry F.slot_tuple_iterator_next hi.typeIs F.entry_tuple_iterator_next ?_ (F.args_tuple_iterator_next_1 _)))
  show wpAny _ _ (field (Value.ref it) 0 >>= _) _ _ s
  refine wpAny_bind (wpAny_field gi di (x := Value.ref t) rfl ?_)
  rw [if_neg (show ¬ ((Value.ref t == Value.none) = true) by intro z; cases z)]
  refine wpAny_bind (wpAny_field gi di (x := Value.int i 0) rfl ?_)
  refine wpAny_bind (wpAny_seqItems gt dt ?_)
  simp only [Int.toNat_natCast, hx']
  refine wpAny_bind (wpAny_rule (wpAny_bind (wpAny_setField gi di (by simp) (wpAny_bind ?_))))
  simp only [newExc, newTuple]
  refine wpAny_bind (wpAny_newObj_type (wpAny_bind (m := firstArgMember _ _) (wpAny_of_eq (a := Value.none) ?_ (wpAny_newObj_type ?_ (by size_fits)))) (by size_fits))
  · first | rfl | (simp only [firstArgMember]; rfl)
  simp only [raiseNew]
  refine wpAny_bind (wpAny_handled ?_)
  first | rw [show A.in1.handled = none from hh] | rw [hh]
  exact wpAny_bind (wpAny_pure (wpAny_throw (q _ _ (((Heap.SameBut.update ..).extBut.push _).push _) ⟨_, Heap.get?_push_size _ rfl, rfl⟩)))
theorem next_seq {k : Kd} {it a : Addr} {i : Nat} {its : List Value} {x : Value} {Q : Value -> Shared -> Prop} (hi : ItAt k s.heap it a i) (hs : SeqIs k s.heap a its) (hx : its[i]? = some x)
    (q : ∀ h', ItAt k h' it a (i + 1) -> Heap.SameBut it s.heap h' -> Q x { s with heap := h' }) : wpAny (model prog w) A (Builtin.SmallTypes.nextOf (.ref it)) Q E s := by
  cases k with
  | l => exact wpAny_nextOf_list_item hi hs (by simpa using hx) q
  | t => exact next_tup hi hs hx q
theorem end_seq {k : Kd} {it a : Addr} {i : Nat} {its : List Value} {Q : Value -> Shared -> Prop} (hh : A.handled = none) (hi : ItAt k s.heap it a i) (hs : SeqIs k s.heap a its) (hx : its.length <= i)
    (q : ∀ h' e, Heap.ExtBut it s.heap h' -> (∃ o, h'.get? e = some o /\ o.cls = .type "StopIteration") -> E (.ref e) { s with heap := h' }) : wpAny (model prog w) A (Builtin.SmallTypes.nextOf (.ref it)) Q E s := by
  cases k with
  | l => exact wpAny_nextOf_list_end hh hi hs (by simpa using hx) q
  | t => exact end_tup hh hi hs hx q
end
open AutoSeq1 (wpAny_loadPart')
section
variable {prog : Program} {w : World} {A : Around} {E : Value -> Shared -> Prop} {s : Shared}
theorem enum_step {k : Kd} {e it a : Addr} {i : Nat} {its : List Value} {x old : Value} {Q : Value -> Shared -> Prop} (he : IsEnum s.heap e it i old) (hi : ItAt k s.heap it a i) (hs : SeqIs k s.heap a its) (hx : its[i]? = some x) (ne : e ≠ it)
    (q : ∀ h', IsEnumOut h' e it ((i : Int) + 1) x s.heap.objs.size -> ItAt k h' it a (i + 1) -> h'.get? s.heap.objs.size = some { cls := .type "tuple", data := .seq #[.int i s.toks, x] } ->
      (∀ b o, b ≠ e -> b ≠ it -> s.heap.get? b = some o -> h'.get? b = some o) -> Q (.ref s.heap.objs.size) { s with heap := h', toks := s.toks + 1 }) :
    wpAny (model prog w) A (Builtin.«enumerate.__next__» ⟨[.ref e], []⟩) (fun fin s' => ∃ v, fin = .done (.ret v) /\ Q v s') E s := by
  obtain ⟨hp, g, d, tk, os⟩ := s
  show wpAny _ _ (field (Value.ref e) 2 >>= _) _ _ _
  refine wpAny_bind (wpAny_field he rfl (x := Value.ref it) rfl (wpAny_bind (next_seq hi hs hx fun g1 i1 b1 => ?_)))
  replace b1 : Heap.SameBut it hp g1 := b1
  have e1 : IsEnum g1 e it i old := (b1.2 e ne).trans he
  refine wpAny_bind (wpAny_field (s := ⟨g1, g, d, tk, os⟩) e1 rfl (x := rawInt i) rfl (wpAny_bind (wpAny_field (s := ⟨g1, g, d, tk, os⟩) e1 rfl (x := Value.none) rfl ?_)))
  refine wpAny_bind (wpAny_mkInt (wpAny_bind (wpAny_setField_rec (s := ⟨g1, g, d, tk + 1, os⟩) e1 (by simp) fun g2 e2 b2 => ?_)))
  replace b2 : Heap.SameBut e g1 g2 := b2
  replace e2 : IsEnum g2 e it ((i : Int) + 1) old := e2
  refine wpAny_bind (wpAny_setField_rec (s := ⟨g2, g, d, tk + 1, os⟩) e2 (by simp) fun g3 e3 b3 => ?_)
  replace b3 : Heap.SameBut e g2 g3 := b3
  replace e3 : IsEnum g3 e it ((i : Int) + 1) old := e3
  refine wpAny_bind (wpAny_newTuple ?_)
  have hz : g3.objs.size = hp.objs.size := by rw [b3.1, b2.1, b1.1]
  have el : e < hp.objs.size := Heap.lt_size he
  obtain ⟨oi, gi, _⟩ := hi.obj
  have il : it < hp.objs.size := Heap.lt_size gi
  have e4 : IsEnum (g3.push { cls := .type "tuple", data := .seq #[.int i tk, x] }) e it ((i : Int) + 1) old := Heap.get?_push_of_some _ e3
  have t4 : (g3.push { cls := .type "tuple", data := .seq #[.int i tk, x] }).get? hp.objs.size = some { cls := .type "tuple", data := .seq #[.int i tk, x] } := by rw [<- hz]; exact Heap.get?_push_size _ rfl
  have k4 : ∀ b o, b ≠ e -> b ≠ it -> hp.get? b = some o -> (g3.push { cls := .type "tuple", data := .seq #[.int i tk, x] }).get? b = some o := fun b o h1 h2 h3 =>
    Heap.get?_push_of_some _ (b3.extBut b o h1 (b2.extBut b o h1 (b1.extBut b o h2 h3)))
  have i4 : ItAt k (g3.push { cls := .type "tuple", data := .seq #[.int i tk, x] }) it a (i + 1) := i1.kept fun o h => Heap.get?_push_of_some _ (b3.extBut it o ne.symm (b2.extBut it o ne.symm h))
  show wpAny _ _ (Builtin.SmallTypes.ownedTupleIsFree (Value.ref e) >>= _) _ _ ⟨g3.push { cls := .type "tuple", data := .seq #[.int i tk, x] }, g, d, tk + 1, os⟩
  rw [hz]
  generalize g3.push { cls := .type "tuple", data := .seq #[.int i tk, x] } = g4 at e4 t4 k4 i4
  refine wpAny_bind ?_
  unfold Builtin.SmallTypes.ownedTupleIsFree
  refine wpAny_bind (wpAny_field e4 rfl (x := Value.none) rfl (wpAny_pure ?_))
  simp only [if_true]
  refine wpAny_bind (wpAny_rule (wpAny_bind (wpAny_field e4 rfl (x := old) rfl (wpAny_bind (wpAny_setField_rec e4 (by simp) fun g5 e5 b5 => ?_)))))
  replace b5 : Heap.SameBut e g4 g5 := b5
  replace e5 : IsEnum g5 e it ((i : Int) + 1) x := e5
  refine wpAny_bind ?_
  unfold Builtin.SmallTypes.ownedTupleHandOut
  refine wpAny_bind (wpAny_setField_rec e5 (by simp) fun g6 e6 b6 => ?_)
  replace b6 : Heap.SameBut e g5 g6 := b6
  replace e6 : IsEnumOut g6 e it ((i : Int) + 1) x hp.objs.size := e6
  refine wpAny_setField_rec e6 (by simp) fun g7 e7 b7 => ?_
  replace b7 : Heap.SameBut e g6 g7 := b7
  replace e7 : IsEnumOut g7 e it ((i : Int) + 1) x hp.objs.size := e7
  have up : ∀ b o, b ≠ e -> g4.get? b = some o -> g7.get? b = some o := fun b o h1 h2 => b7.extBut b o h1 (b6.extBut b o h1 (b5.extBut b o h1 h2))
  exact wpAny_bind (wpAny_letGo (wpAny_pure ⟨_, rfl, q g7 e7 (i4.kept fun o h => up it o ne.symm h) (up _ _ (Nat.ne_of_gt el) t4) fun b o h1 h2 h3 => up b o h1 (k4 b o h1 h2 h3)⟩))
theorem enum_item {k : Kd} {e it a : Addr} {i : Nat} {its : List Value} {x old : Value} {Q : Option Value -> Shared -> Prop} (he : IsEnum s.heap e it i old) (hi : ItAt k s.heap it a i) (hs : SeqIs k s.heap a its) (hx : its[i]? = some x) (ne : e ≠ it)
    (q : ∀ h', IsEnumOut h' e it ((i : Int) + 1) x s.heap.objs.size -> ItAt k h' it a (i + 1) -> h'.get? s.heap.objs.size = some { cls := .type "tuple", data := .seq #[.int i s.toks, x] } ->
      (∀ b o, b ≠ e -> b ≠ it -> s.heap.get? b = some o -> h'.get? b = some o) -> Q (some (.ref s.heap.objs.size)) { s with heap := h', toks := s.toks + 1 }) :
    wpAny (model prog w) A (pyNext (.ref e)) Q E s := by
  have ty : s.TypeIs (.ref e) "enumerate" := ⟨_, he, rfl⟩
  unfold pyNext
  exact wpAny_bind (wpAny_attempt (wpAny_callSpecial?_slot (name := Str.ofString "__next__") ty F.slot_enumerate_next (wpAny_call_entry F.slot_enumerate_next ty F.entry_enumerate_next
      (enum_step he hi hs hx ne fun h' a b c d => wpAny_pure (q h' a b c d)) (F.args_enumerate_next_1 _))))
theorem enum_done {k : Kd} {e it a : Addr} {i : Nat} {its : List Value} {old : Value} {Q : Option Value -> Shared -> Prop} (hh : A.handled = none) (he : IsEnum s.heap e it i old) (hi : ItAt k s.heap it a i) (hs : SeqIs k s.heap a its) (hx : its.length <= i)
    (q : ∀ h', Heap.ExtBut it s.heap h' -> Q none { s with heap := h' }) : wpAny (model prog w) A (pyNext (.ref e)) Q E s := by
  have ty : s.TypeIs (.ref e) "enumerate" := ⟨_, he, rfl⟩
  unfold pyNext
  refine wpAny_bind (wpAny_attempt (wpAny_callSpecial?_slot (name := Str.ofString "__next__") ty F.slot_enumerate_next (wpAny_call_entry F.slot_enumerate_next ty F.entry_enumerate_next ?_ (F.args_enumerate_next_1 _))))
  show wpAny _ _ (field (Value.ref e) 2 >>= _) _ _ _
  refine wpAny_bind (wpAny_field he rfl (x := Value.ref it) rfl (wpAny_bind (end_seq hh hi hs hx fun h' z k1 k2 => ?_)))
  obtain ⟨o, ho, hc⟩ := k2
  exact wpAny_bind (wpAny_isInstance (T := "StopIteration") (b := true) ⟨o, ho, hc⟩ isSubtype_stop (wpAny_pure (q _ k1)))
theorem enum_new_tup (t : Addr) (items : Array Value) (n : Nat) (dct : Option Addr) (sl : Array (Option Value)) :
    Meets (Builtin.«enumerate.__new__» ⟨[.type "enumerate", .ref t], []⟩) (fun _ R s => s.heap.get? t = some { cls := .type "tuple", dict := dct, data := .seq items n, slots := sl } /\
      R (.ok (.ret (.ref (s.heap.push { cls := .type "tuple_iterator", data := .fields #[.ref t, .int 0 0] }).objs.size)))
        { s with heap := (s.heap.push { cls := .type "tuple_iterator", data := .fields #[.ref t, .int 0 0] }).push { cls := .type "enumerate", data := .fields #[.none, .bool false, .ref s.heap.objs.size, rawInt 0, .none, .none] } }) :=
  .of_wp fun prog w A R s h => by
    obtain ⟨hp, g, d, tk, os⟩ := s
    obtain ⟨ht, h⟩ := h
    have hsub := sub_enumerate
    have hT : Heap.IsTuple (Shared.heap ⟨hp, g, d, tk, os⟩) t items := ⟨_, ht, rfl, n, rfl⟩
    wp_walk using wpAny_loadPart' ht
    refine wpAny_stack_any fun st => wpAny_pure ?_
    split
    · rename_i c _ _ _ _ _
      cases (c == Value.type "enumerate") <;>
      · wp_walk using wpAny_loadPart' ht, wpAny_pyIter_tuple hT
        exact ⟨_, rfl, h⟩
    · wp_walk using wpAny_loadPart' ht, wpAny_pyIter_tuple hT
      exact ⟨_, rfl, h⟩
theorem call_enum {k : Kd} {a : Addr} {its : List Value} {Q : Value -> Shared -> Prop} (hs : SeqIs k s.heap a its)
    (q : ∀ h', IsEnum h' (s.heap.objs.size + 1) s.heap.objs.size 0 .none -> ItAt k h' s.heap.objs.size a 0 -> (∀ b o, s.heap.get? b = some o -> h'.get? b = some o) -> Q (.ref (s.heap.objs.size + 1)) { s with heap := h' }) :
    wpAny (model prog w) A (call (.type "enumerate") [.ref a]) Q E s := by
  cases k with
  | l => exact call_enumerate_list hs fun h' a b _ d => q h' a b d
  | t =>
    obtain ⟨⟨c, dct, dt, sl⟩, ht, hc, n, hd⟩ := (show s.heap.IsTuple a its.toArray from hs)
    replace hc : c = .type "tuple" := hc
    replace hd : dt = .seq its.toArray n := hd
    subst hc hd
    refine callType_new F.called_enumerate (by decide) (F.typeCall_enumerate_1 _) (F.newCall_enumerate_1 _) (fun obj => F.args_object_init_2 obj _) F.entry_enumerate_new (enum_new_tup a its.toArray n dct sl) ⟨ht, ?_⟩
    have z : (s.heap.push { cls := .type "tuple_iterator", data := .fields #[.ref a, .int 0 0] }).objs.size = s.heap.objs.size + 1 := Heap.size_push ..
    show _ /\ _
    have e1 := Heap.get?_push_size (s.heap.push { cls := .type "tuple_iterator", data := .fields #[.ref a, .int 0 0] }) (o := { cls := .type "enumerate", data := .fields #[.none, .bool false, .ref s.heap.objs.size, rawInt 0, .none, .none] }) rfl
    rw [z] at e1 ⊢
    exact ⟨⟨_, e1, rfl⟩, q _ e1 ⟨_, Heap.get?_push_of_some _ (Heap.get?_push_size _ rfl), rfl, rfl⟩ fun b o x => Heap.get?_push_of_some _ (Heap.get?_push_of_some _ x)⟩
end
def ItE (k : Kd) (K : PySem.W.Frag) (a : Addr) : It :=
  ⟨fun i H => ∃ xs x, SqK k K H a xs /\ xs[i]? = some x, fun i H x H' => ∃ p y, H p = none /\ x = .ref p /\ (∀ xs, SqK k K H a xs -> xs[i]? = some y) /\ H' = upd H p (.tup [.int i, y]), fun i H => ∃ xs, SqK k K H a xs /\ xs.length <= i⟩
theorem Inv.seq_inj {X : Cx} {pins : List (Addr × Obj)} {σ : St} {H : Hp} {s : Shared} (I : Inv X pins σ H s) {k : Kd} {a : Addr} {xs ys : List V} (h : SqK k X.K H a xs) (h' : SqK k X.K H a ys) : xs = ys := by
  cases k with
  | l => exact I.list_inj h h'
  | t => exact I.tuple_inj h h'
theorem turn_enum {P : Program} {w : World} {K : PySem.W.Frag} {elts : List Expr} {x1 : Nat} {tpos : Pos} (k : Kd) (a e it : Addr) (ne : e ≠ it) : Turn P w K (.Tuple elts x1 tpos) (ItE k K a) [e, it] e (fun i h => (∃ old, IsEnum h e it i old) /\ ItAt k h it a i) where
  mem := by simp
  obj := fun i h st b hb => by
    obtain ⟨⟨old, q⟩, r⟩ := st
    rcases List.mem_cons.mp hb with rfl | hb
    · exact ⟨_, q, fun v z => by cases z⟩
    · rw [List.mem_singleton.mp hb]; exact r.obj
  keep := fun i h h' st kk => ⟨let ⟨old, q⟩ := st.1; ⟨old, kk e (by simp) _ q⟩, st.2.kept fun o x => kk it (by simp) o x⟩
  item := by
    intro X hP hw hK hc i pins s σ H E I hf st hg
    subst hP hw hK
    obtain ⟨⟨old, he⟩, hi⟩ := st
    obtain ⟨xs, x, hq, hx⟩ := hg
    obtain ⟨its, r, hs, hz⟩ := I.seq hq
    obtain ⟨u, e1, ru⟩ := r.get hx
    refine enum_item he hi hs e1 ne fun h' a1 a2 a3 a4 => ⟨_, rfl, ?_⟩
    refine wpAny_letOwnedTupleGo_enum (s := { s with heap := h', toks := s.toks + 1 }) a1 fun h2 b1 b2 => ?_
    replace b2 : Heap.SameBut e h' h2 := b2
    have el : e < s.heap.objs.size := Heap.lt_size he
    have kk : ∀ b o, b ∉ [e, it] -> s.heap.get? b = some o -> h2.get? b = some o := fun b o hb q => by
      simp at hb
      exact b2.extBut b o hb.1 (a4 b o hb.1 hb.2 q)
    have tt : h2.get? s.heap.objs.size = some { cls := .type "tuple", data := .seq #[.int i s.toks, u] } := b2.extBut _ _ (Nat.ne_of_gt el) a3
    have fr : H s.heap.objs.size = none := I.hok.fresh (Nat.le_refl _)
    refine ⟨.ref s.heap.objs.size, upd H s.heap.objs.size (.tup [.int i, x]), I.turnNew hf kk (Nat.le_refl _) ?_, rfl, ⟨_, x, fr, rfl, fun ys hy => ?_, rfl⟩, ⟨⟨u, ?_⟩, a2.kept fun o q => b2.extBut it o ne.symm q⟩, fun b hb => ?_⟩
    · exact ⟨by show 2 <= sizeLine; decide, [.int i s.toks, u], .cons ⟨_, rfl⟩ (.cons ru .nil), ⟨_, tt, rfl, 0, rfl⟩⟩
    · rw [I.seq_inj hy hq]; exact hx
    · have : ((i + 1 : Nat) : Int) = (i : Int) + 1 := by push_cast; rfl
      rw [this]; exact b1
    · rw [upd_ne]
      · exact (hf b hb).1
      · rcases List.mem_cons.mp hb with rfl | hb
        · exact Nat.ne_of_lt el
        · rw [List.mem_singleton.mp hb]
          obtain ⟨o, q, _⟩ := hi.obj
          exact Nat.ne_of_lt (Heap.lt_size q)
  done := by
    intro X hP hw hK hc i pins s σ H E I hf st hg
    subst hP hw hK
    obtain ⟨⟨old, he⟩, hi⟩ := st
    obtain ⟨xs, hq, hx⟩ := hg
    obtain ⟨its, r, hs, hz⟩ := I.seq hq
    refine enum_done (I.ok.hd hc) he hi hs (by rw [<- r.length]; exact hx) fun h' q => ⟨rfl, I.turnM (t' := s.toks) hf fun b o hb z => q b o (fun y => hb (by simp [y])) z⟩
  self := fun _ _ _ _ _ st h => let ⟨⟨_, he⟩, _⟩ := st; wpAny_pyIter_enum he h
def iEnum (k : Kd) (K : PySem.W.Frag) (ta : TA) : TI := fun σ H R => ta σ H fun vs H1 => ∃ a xs, vs = [.ref a] /\ SqK k K H1 a xs /\ R (ItE k K a) H1
theorem boot_enumerate' : bootBuiltins "enumerate" = some (.type "enumerate") := by first | rfl | decide +kernel
theorem pi_enum {X : Cx} {elts : List Expr} {x1 : Nat} {tpos : Pos} {l : Expr} {ta : TA} {p pos : Pos} (k : Kd) (hg : Gl X "enumerate") (hm : X.mg "enumerate" = none) (ha : PA X [l] ta) (hs : starEach [l] X.env = [(false, eval l X.env)] := by rfl) :
    PI X (.Tuple elts x1 tpos) (.Call (.Name "enumerate" p) [l] [] pos) (iEnum k X.K ta) := by
  intro pins s σ H R I h
  refine Call_ (ld_blt I hg hm boot_enumerate' (PyProof.Rows.callWith_type1 (thn (ha pos pins s σ H _ I h) fun us s1 ⟨vs, H1, I1, r1, q1⟩ => ?_) hs rfl))
  obtain ⟨a, xs, rfl, hq, q⟩ := q1
  obtain ⟨u, rfl, ru⟩ := Vals.one r1
  cases (show u = Value.ref a from ru)
  obtain ⟨its, r, hsq, hz⟩ := I1.seq hq
  refine call_enum hsq fun h' a1 a2 a3 => wpAny_pyIter_enum (s := { s1 with heap := h' }) a1 ?_
  refine ⟨s1.heap.objs.size + 1, [s1.heap.objs.size + 1, s1.heap.objs.size], _, _, H1, rfl, I1.kept (t' := s1.toks) a3, turn_enum k a _ _ (Nat.succ_ne_self _), ⟨⟨_, a1⟩, a2⟩, fun b hb => ?_, q⟩
  rcases List.mem_cons.mp hb with rfl | hb
  · exact I1.fpOk (Nat.le_succ _) (I1.hok.fresh (Nat.le_succ _))
  · rw [List.mem_singleton.mp hb]; exact I1.fpOk (Nat.le_refl _) (I1.hok.fresh (Nat.le_refl _))
open AutoSeq1 (wpAny_loadPart')
section
variable {prog : Program} {w : World} {A : Around} {E : Value -> Shared -> Prop} {s : Shared}
end
structure Src (K : PySem.W.Frag) (mg : Str -> Option Value) (x : Str) (st : Stmt) (ps : List Str) : Prop where
  ex : ∃ f fd, Fun K x x st f fd /\ Binds K fd ps [] /\ mg x = some (.ref f)
structure Def (P : Program) (w : World) (K : PySem.W.Frag) (mg : Str -> Option Value) (base : Heap) (k : Nat) (x : Str) (ps : List Str) (sp : Sp) : Prop where
  ex : ∃ f fd, FnOk P w K mg base CX0 k f fd ps sp /\ Binds K fd ps [] /\ mg x = some (.ref f) /\ PySem.W.keepIn K (.ref f) = true
theorem Src.def {P : Program} {w : World} {K : PySem.W.Frag} {mg : Str -> Option Value} {base : Heap} {k : Nat} {x : Str} {st : Stmt} {N ps : List Str} {sp : Sp} (S : Src K mg x st ps) (sc : FnScope N ps (defScope st)) (len : ∀ vs H Q E, sp vs H Q E -> vs.length = ps.length)
    (hbody : ∀ (f : Addr) (cdv : Value) (A : Around) (outer : List Env) (s : Shared) (H : Hp) (vs : List V) (Q : VK) (E : XK), Room k (A.deeper (envOfC x (defScope st) s.heap.objs.size f cdv)) -> sp vs H Q E ->
      ∃ t, PSs (cxOf CX0 P w K mg base N x (defScope st) f cdv A outer s H E).nox (defBody st) t /\ t { nx := fun _ H' => Q .non H', rt := Q } (start N vs) H) : Def P w K mg base (k + 1) x ps sp := by
  obtain ⟨f, fd, F, b, m⟩ := S.ex
  exact ⟨f, fd, F.ok sc len (hbody f), b, m, F.kp⟩
theorem pe_def {X : Cx} {k : Nat} {x : Str} {ps : List Str} {sp : Sp} {e : Expr} {es : List Expr} {t : TA} {p pos : Pos} (D : Def X.prog X.w X.K X.mg X.base k x ps sp) (hr : Room k X.A) (hg : Gl X x) (ha : PA X (e :: es) t)
    (hdb : (x == ("__debug__" : Str)) = false := by decide) (he : starEach (e :: es) X.env = (false, eval e X.env) :: starEach es X.env := by rfl) (hpl : (backTo pos (starEach es X.env)).any (·.1) = false := by rfl) :
    PE X (.Call (.Name x p) (e :: es) [] pos) (tCall sp [] E0 t) := by
  obtain ⟨f, fd, F, b, m, kp⟩ := D.ex
  exact pe_call F hr hg m kp b .nil pass0 ha hdb he hpl
theorem Same.tup {K : PySem.W.Frag} {H H' : Hp} {a : Addr} {xs : List V} (e : Same H H') (h : SqT K H a xs) : SqT K H' a xs := by
  rcases h with (h | ⟨o, h⟩) | h
  · exact .inl (.inl (e _ _ h))
  · exact .inl (.inr ⟨o, e _ _ h⟩)
  · exact .inr h
theorem Same.seqK {K : PySem.W.Frag} {H H' : Hp} {k : Kd} {a : Addr} {xs : List V} (e : Same H H') (h : SqK k K H a xs) : SqK k K H' a xs := by
  cases k with
  | l => exact e.seq h
  | t => exact e.tup h
theorem Same.new {H : Hp} {p : Addr} {o : HO} (h : H p = none) : Same H (upd H p o) := fun b u e => by rw [upd_ne (ne_of_none e h)]; exact e
theorem Paired.at {α β : Type} {F : α -> β -> Prop} : ∀ {l₁ : List α} {l₂ : List β}, Paired F l₁ l₂ -> ∀ {i : Nat} {a : α}, l₁[i]? = some a -> ∃ b, l₂[i]? = some b /\ F a b
  | _, _, .nil, i, a, e => by simp at e
  | _, _, .cons r t, 0, a, e => by simp at e; subst e; exact ⟨_, rfl, r⟩
  | _, _, .cons r t, i + 1, a, e => by
    obtain ⟨b, h1, h2⟩ := Paired.at t (i := i) (by simpa using e)
    exact ⟨b, by simpa using h1, h2⟩
theorem Paired.snoc {α β : Type} {F : α -> β -> Prop} : ∀ {l₁ : List α} {l₂ : List β}, Paired F l₁ l₂ -> ∀ {a : α} {b : β}, F a b -> Paired F (l₁ ++ [a]) (l₂ ++ [b])
  | _, _, .nil, _, _, h => .cons h .nil
  | _, _, .cons r t, _, _, h => .cons r (Paired.snoc t h)
theorem take_succ_of {α : Type} {l : List α} {i : Nat} {a : α} (h : l[i]? = some a) : l.take (i + 1) = l.take i ++ [a] := by
  rw [List.take_add_one, h]; rfl
def ItK (k : Kd) (K : PySem.W.Frag) (a : Addr) : It := match k with | .l => Itl K a | .t => Itt K a
def iSeq (k : Kd) (K : PySem.W.Frag) (tl : TE) : TI := fun σ H R => tl σ H fun x H1 => ∃ a, x = .ref a /\ (∃ xs, SqK k K H1 a xs) /\ R (ItK k K a) H1
theorem pi_seq {X : Cx} {tg : Expr} (k : Kd) {l : Expr} {tl : TE} (hl : PE X l tl) : PI X tg l (iSeq k X.K tl) := by
  cases k with
  | l => exact pi_list hl
  | t => exact pi_tup hl
theorem itk_go {k : Kd} {K : PySem.W.Frag} {H : Hp} {a : Addr} {xs : List V} {i : Nat} (h : SqK k K H a xs) (hi : i < xs.length) : (ItK k K a).go i H := by
  cases k with
  | l => exact ⟨xs, xs[i], h, by simp [hi]⟩
  | t => exact ⟨xs, xs[i], h, by simp [hi]⟩
theorem itk_stop {k : Kd} {K : PySem.W.Frag} {H : Hp} {a : Addr} {xs : List V} {i : Nat} (h : SqK k K H a xs) (hi : xs.length <= i) : (ItK k K a).stop i H := by
  cases k with
  | l => exact ⟨xs, h, hi⟩
  | t => exact ⟨xs, h, hi⟩
theorem itk_yld {k : Kd} {K : PySem.W.Frag} {H H' : Hp} {a : Addr} {xs : List V} {i : Nat} {x : V} (h : SqK k K H a xs) (y : (ItK k K a).yld i H x H') : H' = H /\ xs[i]? = some x := by
  cases k with
  | l => exact ⟨y.1, y.2 xs h⟩
  | t => exact ⟨y.1, y.2 xs h⟩
theorem comp_seq {k : Kd} {K : PySem.W.Frag} {a : Addr} {xs : List V} {g : TG} {tt : TT} {te : TE} {fin : List V -> Hp -> Prop} {σ : St} {H : Hp} (S : St -> Prop) (Pv : Nat -> List V -> Hp -> Prop) (hσ : S σ) (h0 : Pv 0 [] H) (hz : xs.length < sizeLine)
    (hl : ∀ i ys H, i <= xs.length -> Pv i ys H -> SqK k K H a xs)
    (hs : ∀ (i : Nat) (x : V) (ys : List V) (σ : St) (H : Hp) (N : List V -> St -> Hp -> Prop), xs[i]? = some x -> S σ -> Pv i ys H -> (∀ ys' σ' H', S σ' -> Pv (i + 1) ys' H' -> ys'.length <= ys.length + 1 -> N ys' σ' H') ->
      g x σ H fun σ2 H2 => tt σ2 H2 fun b H3 => if b = true then te σ2 H3 fun y H4 => N (ys ++ [y]) σ2 H4 else N ys σ2 H3)
    (hd : ∀ ys H, Pv xs.length ys H -> fin ys H) : ∃ W, CompW (ItK k K a) g tt te fin W /\ ∃ m, W 0 m [] σ H := by
  refine ⟨fun i m ys σ H => m = xs.length - i /\ i <= xs.length /\ ys.length <= i /\ S σ /\ Pv i ys H, ?_, xs.length, by simp, Nat.zero_le _, Nat.le_refl _, hσ, h0⟩
  rintro i m ys σ H ⟨rfl, hi, hy, hS, p⟩
  have q := hl i ys H hi p
  by_cases hlt : i < xs.length
  · refine .inr ⟨itk_go q hlt, by lia, fun x H' y => ?_⟩
    obtain ⟨e, hy2⟩ := itk_yld q y
    subst e
    have := hs i x ys σ H' (fun ys' σ' H'' => ∃ m', m' < xs.length - i /\ m' = xs.length - (i + 1) /\ i + 1 <= xs.length /\ ys'.length <= i + 1 /\ S σ' /\ Pv (i + 1) ys' H'') hy2 hS p (fun ys' σ' H'' a b c => ⟨_, by lia, rfl, hlt, by lia, a, b⟩)
    exact this
  · have e : i = xs.length := by lia
    subst e
    exact .inl ⟨itk_stop q (Nat.le_refl _), by lia, hd ys H p⟩
theorem for_enum {k : Kd} {K : PySem.W.Frag} {a : Addr} {xs : List V} {g : TG} {tb : TS} {D : Ends} {σ : St} {H : Hp} (Pv : Nat -> St -> Hp -> Prop) (h0 : Pv 0 σ H) (hl : ∀ i σ H, i <= xs.length -> Pv i σ H -> SqK k K H a xs)
    (hs : ∀ (i : Nat) x p σ H, xs[i]? = some x -> Pv i σ H -> H p = none -> g (.ref p) σ (upd H p (.tup [.int i, x])) fun σ2 H2 => tb { D with nx := Pv (i + 1), ct := Pv (i + 1), bk := D.nx } σ2 H2) (hd : ∀ σ H, Pv xs.length σ H -> D.nx σ H) :
    ∃ W : Nat -> Nat -> St -> Hp -> Prop, (∃ m, W 0 m σ H) /\ ∀ i m σ H, W i m σ H ->
      ((ItE k K a).stop i H /\ D.nx σ H) \/ ((ItE k K a).go i H /\ ∃ N : St -> Hp -> Prop, (∀ σ' H', N σ' H' -> ∃ m', m' < m /\ W (i + 1) m' σ' H') /\ ∀ x H', (ItE k K a).yld i H x H' -> g x σ H' fun σ2 H2 => tb { D with nx := N, ct := N, bk := D.nx } σ2 H2) := by
  refine ⟨fun i m σ H => m = xs.length - i /\ i <= xs.length /\ Pv i σ H, ⟨xs.length, by simp, Nat.zero_le _, h0⟩, ?_⟩
  rintro i m σ H ⟨rfl, hi, p⟩
  have q := hl i σ H hi p
  by_cases hlt : i < xs.length
  · refine .inr ⟨⟨xs, xs[i], q, by simp [hlt]⟩, Pv (i + 1), fun σ' H' p' => ⟨xs.length - (i + 1), by lia, rfl, hlt, p'⟩, fun x H' y => ?_⟩
    obtain ⟨r, y, hn, rfl, hy, rfl⟩ := y
    exact hs i y r σ H (hy xs q) p hn
  · have e : i = xs.length := by lia
    subst e
    exact .inl ⟨⟨xs, q, Nat.le_refl _⟩, hd σ H p⟩
theorem units66 {A : Around} {k : Nat} (hr : Room k A) : A.units + 66 < cLine := by have := hr.un; lia
def compB (kinds : List (Str × NameKind)) (N : List Str) (scope : Scope) (N' : List Str) (fr : List (Option Nat)) : Bool :=
  (scope.kind == .function) && (scope.names.all fun y => y.2 != .cell) && (scope.names.all fun y => y.2 != .local || scope.names.lookup y.1 == some .local) &&
  (scope.names.all fun y => y.2 != .free || (kinds.lookup y.1 == some .cell || kinds.lookup y.1 == some .free)) && frOk N kinds scope.names N' fr
theorem compOk_of {X : Cx} {scope : Scope} {N' : List Str} {fr : List (Option Nat)} (h : compB X.env.scope.names X.N scope N' fr = true) : CompOk X scope N' fr := by
  unfold compB at h
  simp only [Bool.and_eq_true, List.all_eq_true] at h
  obtain ⟨⟨⟨⟨h1, h2⟩, h3⟩, h4⟩, h5⟩ := h
  refine ⟨by simpa using h1, fun y hy => by simpa using h2 y hy, fun y hy e => ?_, fun y hy e => ?_, h5⟩
  · have := h3 y hy
    rw [e] at this
    simpa using this
  · have := h4 y hy
    rw [e] at this
    simpa [Env.kindOf] using this
theorem yesT {σ : St} {H : Hp} {A B : Hp -> Prop} (h : A H) : tYes σ H fun b H3 => if b = true then A H3 else B H3 := by
  show if true = true then A H else B H
  exact iteT h
section
open PySem.SeqAt
open PySem.AutoSeq1 (wpAny_loadPart')
open PySem.MeetsSeq PySem.MeetsSeq2 PySem.MeetsSeq3
end
section
variable {X : Cx}
end
theorem comp_range {lo : Int} {n : Nat} {g : TG} {tt : TT} {te : TE} {fin : List V -> Hp -> Prop} {σ : St} {H : Hp} (S : St -> Prop) (Pv : Nat -> List V -> Hp -> Prop) (hσ : S σ) (h0 : Pv 0 [] H) (hz : n < sizeLine)
    (hs : ∀ (i : Nat) (ys : List V) (σ : St) (H : Hp) (N : List V -> St -> Hp -> Prop), i < n -> S σ -> Pv i ys H -> (∀ ys' σ' H', S σ' -> Pv (i + 1) ys' H' -> ys'.length <= ys.length + 1 -> N ys' σ' H') ->
      g (.int (lo + i)) σ H fun σ2 H2 => tt σ2 H2 fun b H3 => if b = true then te σ2 H3 fun y H4 => N (ys ++ [y]) σ2 H4 else N ys σ2 H3)
    (hd : ∀ ys H, Pv n ys H -> fin ys H) : ∃ W, CompW (Itr lo n) g tt te fin W /\ ∃ m, W 0 m [] σ H := by
  refine ⟨fun i m ys σ H => m = n - i /\ i <= n /\ ys.length <= i /\ S σ /\ Pv i ys H, ?_, n, by simp, Nat.zero_le _, Nat.le_refl _, hσ, h0⟩
  rintro i m ys σ H ⟨rfl, hi, hy, hS, p⟩
  by_cases hlt : i < n
  · refine .inr ⟨hlt, by omega, fun x H' y => ?_⟩
    obtain ⟨e, y⟩ := y
    subst e y
    exact hs i ys σ _ (fun ys' σ' H'' => ∃ m', m' < n - i /\ m' = n - (i + 1) /\ i + 1 <= n /\ ys'.length <= i + 1 /\ S σ' /\ Pv (i + 1) ys' H'') hlt hS p (fun ys' σ' H'' a b c => ⟨_, by omega, rfl, hlt, by omega, a, b⟩)
  · have e : i = n := by omega
    subst e
    exact .inl ⟨Nat.le_refl _, by omega, hd ys H p⟩
section
variable {X : Cx}
end
theorem ObjOk.there {P : Program} {w : World} {H : Hp} {h : Heap} {a : Addr} {o : HO} (x : ObjOk P w H h a o) : ∃ u, h.get? a = some u := by
  cases o with
  | lst xs => obtain ⟨_, _, _, _, e⟩ := x; exact ⟨_, e⟩
  | tup xs => obtain ⟨_, _, _, _, e, _⟩ := x; exact ⟨_, e⟩
  | dK kvs => obtain ⟨_, _, _, _, o, _, _, e, _⟩ := x; exact ⟨_, e⟩
  | dT kvs => obtain ⟨_, _, _, _, o, _, _, e, _⟩ := x; exact ⟨_, e⟩
  | set S n => obtain ⟨o, _, _, _, e, _⟩ := x; exact ⟨_, e⟩
  | ins C dx fs => obtain ⟨_, _, _, e, _⟩ := x; exact ⟨_, e⟩
  | own y => exact x
  | xd fs => obtain ⟨_, ⟨_, _, _, e, _⟩, _⟩ := x; exact ⟨_, e⟩
  | rng lo hi => obtain ⟨_, _, _, e⟩ := x; exact ⟨_, e⟩
  | frz ob u => exact ⟨_, x.1⟩
  | tbl ps => exact ⟨_, show h.get? a = some { cls := .none, data := .fields ps } from x⟩
  | met f y => exact ⟨_, show h.get? a = some (PySem.W.methodObj (.ref f) (.ref y)) from x⟩
  | ext φ => exact x.2.1
theorem HOk.stays {P : Program} {w : World} {H : Hp} {h h' : Heap} (x : HOk P w H h) (k : ∀ b u v, H b = some v -> h.get? b = some u -> h'.get? b = some u) : HOk P w H h' := fun a o e => by
  refine (x a o e).stay (fun b u hb q => ?_) (fun _ q => q) fun _ _ q => q
  rcases hb with rfl | hb
  · exact k _ u _ e q
  · exact k b u _ hb q
def CXr (P : Program) (w : World) : CXT := fun outer H s E e s' => ∃ (ea C : Addr) (a0 : Value) (B : Heap) (H' : Hp), e = .ref ea /\ s'.os = s.os /\ AllBare s'.gens /\ Un (frs outer) [] H H' s.heap s'.heap /\ HOk P w H' s'.heap /\
  Heap.FlyingW B outer ea (.ref C) a0 s'.heap /\ (∀ b o, s'.heap.get? b = some o -> ((∃ q, s.heap.get? b = some q) \/ ∃ q, H' b = some q) -> b ∉ frs outer -> B.get? b = some o) /\ E (.ref C) none H'
section
variable {P : Program} {w : World} {K : PySem.W.Frag} {mg : Str -> Option Value} {base : Heap} {N : List Str} {qual : Str} {scope : Scope} {f : Addr} {cd : Value} {A : Around} {outer : List Env} {s0 : Shared} {H0 : Hp} {E : XK}
theorem frames_nf {h : Heap} {B : Heap} {l : List Env} (F : h.FunFrames B l) {b : Addr} {o : Obj} (hb : b ∈ frs l) (e : h.get? b = some o) : ∀ vs, o.data ≠ .fields vs := by
  obtain ⟨_, o', h1, h2⟩ := F.mem hb
  rw [e] at h1
  cases h1
  exact h2
theorem leave_raise {pins : List (Addr × Obj)} {σ : St} {H : Hp} {s2 : Shared} {h' : Heap} {e C : Addr} {vs : List Value} {E2 : Value -> Shared -> Prop} (I : Inv (cxOf (CXr P w) P w K mg base N qual scope f cd A outer s0 H0 E) pins σ H s2)
    (hx : Heap.MadeExcOf s2.heap h' e (.ref C) vs) (q : E (.ref C) none H) :
    wpAny (model P w) (A.deeper (envOfC qual scope s0.heap.objs.size f cd)) (leaving (envOfC qual scope s0.heap.objs.size f cd) (.ref e)) (fun _ s'' => CXr P w outer H0 s0 E (.ref e) s'') E2 { s2 with heap := h' } := by
  have hin : ∀ env ∈ (envOfC qual scope s0.heap.objs.size f cd :: outer), ∀ b, env.frame = some b -> b ∈ frs (envOfC qual scope s0.heap.objs.size f cd :: outer) := fun env he b hb => List.mem_filterMap.mpr ⟨env, he, hb⟩
  have St : s2.heap.FunFrames base (envOfC qual scope s0.heap.objs.size f cd :: outer) := I.stack
  have hfr : (A.deeper (envOfC qual scope s0.heap.objs.size f cd)).frames = some (envOfC qual scope s0.heap.objs.size f cd :: outer) := I.ok.frames
  refine wpAny_leaves_madeW (s := { s2 with heap := h' }) (base := PySem.W.hideAll s2.heap (frs (envOfC qual scope s0.heap.objs.size f cd :: outer))) hfr rfl (fun b o z => PySem.W.of_hideAll _ z) (PySem.W.funFrames_hide St hin) hx fun h'' t x1 _ _ x4 => ?_
  have up : s2.heap.UpToSlots h'' := (Heap.UpToSlots.of_keeps hx.keeps).trans x4
  have fsub : ∀ b, b ∈ frs (envOfC qual scope s0.heap.objs.size f cd :: outer) -> b = s0.heap.objs.size \/ b ∈ frs outer := fun b hb => by
    have e : frs (envOfC qual scope s0.heap.objs.size f cd :: outer) = s0.heap.objs.size :: frs outer := rfl
    rw [e] at hb
    exact List.mem_cons.mp hb
  have kept : ∀ b o, b ≠ s0.heap.objs.size -> b ∉ frs outer -> s2.heap.get? b = some o -> (PySem.W.hideAll s2.heap (frs (envOfC qual scope s0.heap.objs.size f cd :: outer))).get? b = some o := fun b o n1 n2 z =>
    PySem.W.hideAll_get _ z fun hm => (fsub b hm).elim n1 n2
  have slot : ∀ b o, b ∈ frs outer -> s2.heap.get? b = some o -> ∃ sl, h''.get? b = some { o with slots := sl } := fun b o hb z => up b o z (frames_nf I.funs hb z)
  have B : Un (frs outer) [] H0 H s0.heap s2.heap := I.base
  have ne0 : ∀ b o, s0.heap.get? b = some o -> b ≠ s0.heap.objs.size := fun b o z => Nat.ne_of_lt (Heap.lt_size z)
  have freeL : H s0.heap.objs.size = none := I.free
  have trk : ∀ b u v, H b = some v -> s2.heap.get? b = some u -> (PySem.W.hideAll s2.heap (frs (envOfC qual scope s0.heap.objs.size f cd :: outer))).get? b = some u := fun b u v hv z => by
    refine PySem.W.hideAll_get _ z fun hm => ?_
    have := I.stkFree b hm
    rw [hv] at this
    cases this
  refine ⟨e, C, _, _, H, rfl, I.os, I.bare, ⟨fun b o z n hb hx' => ?_, fun b o z n hb hx' => ?_, B.free, fun b o z hx' => ?_, B.tups, B.frzs, B.tbls⟩, ?_, x1, fun b o z hh hb => ?_, q⟩
  · exact x1.1 b o (kept b o (ne0 b o z) hb (B.keep b o z n hb hx'))
  · obtain ⟨sl, z2⟩ := B.slot b o z n hb hx'
    obtain ⟨sl', z3⟩ := slot b _ hb z2
    exact ⟨sl', z3⟩
  · obtain ⟨o', z2⟩ := B.there b o z hx'
    by_cases hb : b ∈ frs outer
    · obtain ⟨sl', z3⟩ := slot b _ hb z2
      exact ⟨_, z3⟩
    · exact ⟨_, x1.1 b o' (kept b o' (ne0 b o z) hb z2)⟩
  · exact I.hok.stays fun b u v hv z => x1.1 b u (trk b u v hv z)
  · have : ∃ u, (PySem.W.hideAll s2.heap (frs (envOfC qual scope s0.heap.objs.size f cd :: outer))).get? b = some u := by
      rcases hh with ⟨q1, z1⟩ | ⟨q1, z1⟩
      · obtain ⟨o', z2⟩ := B.there b q1 z1 (by simp)
        exact ⟨o', kept b o' (ne0 b q1 z1) hb z2⟩
      · obtain ⟨u, z2⟩ := (I.hok b q1 z1).there
        exact ⟨u, trk b u _ z1 z2⟩
    obtain ⟨u, hu⟩ := this
    have := x1.1 b u hu
    rw [z] at this
    cases this
    exact hu
end
abbrev bmVE : List Value := [.type "ValueError", .type "Exception", .type "BaseException", .type "object"]
structure ExcAt (h : Heap) (C : Addr) (bm : List Value) : Prop where
  ex : ∃ (N : Addr) (nm qn : Str) (bs : List Value) (hd : Bool) (sn : List Str) (sub : List Value) (ab : Bool) (col : Option Bool) (dd : Option Addr) (k0 k1 k2 k3 k5 : Option Value) (mN : Str -> Option Value),
    h.get? C = some (excClassObj nm qn C N bs bm hd sn sub ab col dd k0 k1 k2 k3 k5 "ValueError.__new__") /\ h.Ns N mN /\ mN "__init__" = none /\ OwnTail h bmVE bm
def excB (K : PySem.W.Frag) (C : Addr) (bm : List Value) : Bool := PySem.W.excIn K C bmVE "ValueError.__new__" && (match K.lookup C with | some o => (match o.data with | .cls cd => cd.mro == .ref C :: bm | _ => false) | _ => false)
theorem excAt_of {K : PySem.W.Frag} {h : Heap} {C : Addr} {bm : List Value} (X : K.In h) (z : excB K C bm = true) : ExcAt h C bm := by
  unfold excB at z
  rw [Bool.and_eq_true] at z
  obtain ⟨z1, z2⟩ := z
  unfold PySem.W.excIn at z1
  split at z1
  next dd cd sl lk =>
    rw [lk] at z2
    split at z1
    next C2 bm2 k0 k1 k2 k3 n k5 hm hs =>
      simp only [Bool.and_eq_true, beq_iff_eq, Bool.not_eq_true'] at z1
      obtain ⟨⟨⟨⟨⟨y1, y2⟩, y3⟩, y4⟩, y5⟩, y6⟩ := z1
      subst y1 y2
      have z3 : (cd.mro == .ref C2 :: bm) = true := z2
      rw [beq_iff_eq, hm] at z3
      cases z3
      cases cd with
      | mk nm bs mro ns qn hd sn sub ab col del =>
        have e1 : mro = .ref C2 :: bm := hm
        have e2 : del = false := y3
        subst e1 e2
        have e3 : sl = #[k0, k1, k2, k3, some (.builtin "ValueError.__new__"), k5] := by
          cases sl with
          | mk l => exact congrArg Array.mk hs
        subst e3
        exact ⟨ns, nm, qn, bs, hd, sn, sub, ab, col, dd, k0, k1, k2, k3, k5, _, X _ _ lk, .of_isNs (PySem.W.isNs_of_in X y5), PySem.W.nsMap_none_of_in X y5 y6, PySem.W.tail_of_in X y4⟩
    next => cases z1
  next => cases z1
section
variable {P : Program} {w : World} {K : PySem.W.Frag} {mg : Str -> Option Value} {base : Heap} {N : List Str} {qual : Str} {scope : Scope} {f : Addr} {cd : Value} {A : Around} {outer : List Env} {s0 : Shared} {H0 : Hp} {E : XK}
theorem bmVE_base : bmVE.contains (.type "BaseException") = true := by decide +kernel
theorem bmVE_value : bmVE.contains (.type "ValueError") = true := by decide +kernel
def tRaise (C : Addr) (E : XK) (ta : TA) : TS := fun _ σ H => ta σ H fun vs H1 => vs.length <= 100 /\ E (.ref C) none H1
end
end L2
namespace L2
open PySem PySem.Spec PyProof.Rows PySem.W
def excKB (K : Frag) (C : Addr) : Bool :=
  findIn K (.ref C) "__getattribute__" == some (some (.builtin "BaseException.__getattribute__")) && findIn K (.ref C) "__getattr__" == some none && findIn K (.ref C) "__class__" == some (some (.builtin "object.__class__"))
    && subIn K (.ref C) (.type "BaseException") == some true && subIn K (.ref C) (.type "object") == some true && (clsIn K C).isSome
structure ExcK (K : Frag) (C : Addr) : Prop where
  g1 : findIn K (.ref C) "__getattribute__" = some (some (.builtin "BaseException.__getattribute__"))
  g2 : findIn K (.ref C) "__getattr__" = some none
  g3 : findIn K (.ref C) "__class__" = some (some (.builtin "object.__class__"))
  g4 : subIn K (.ref C) (.type "BaseException") = some true
  g5 : subIn K (.ref C) (.type "object") = some true
  g6 : (clsIn K C).isSome = true
theorem excK_of {K : Frag} {C : Addr} (h : excKB K C = true) : ExcK K C := by
  unfold excKB at h
  simp only [Bool.and_eq_true, beq_iff_eq] at h
  obtain ⟨⟨⟨⟨⟨h1, h2⟩, h3⟩, h4⟩, h5⟩, h6⟩ := h
  exact ⟨h1, h2, h3, h4, h5, h6⟩
section
variable {K : Frag} {prog : Program} {w : World} {A : Around} {E : Value -> Shared -> Prop} {h : Heap} {g : Array GenState} {d : Drawn} {t : Nat} {os : OsState} {a C : Addr} {o : Obj}
theorem xc_get {R : Result -> Shared -> Prop} (Z : ExcK K C) (X : K.In h) (hx : h.get? a = some o) (hc : o.cls = .ref C) (hq : R (.ok (.ret (.ref C))) ⟨h, g, d, t, os⟩) :
    codeAny (model prog w) A (.call (.builtin "getset_descriptor.__get__") ⟨[.builtin "object.__class__", .ref a, .ref C], []⟩) R ⟨h, g, d, t, os⟩ := by
  have hT5 : (⟨h, g, d, t, os⟩ : Shared).TypeIs (.builtin "object.__class__") "getset_descriptor" := F.typeOf_object_class
  have hs : Looks (model prog w) h (isSubtype (.ref C) (.type (".".intercalate ("object.__class__".cutAt '.').dropLast))) true := by rw [F.owner_object_class]; exact looks_subIn X Z.g5
  refine codeAny_call_builtin F.slot_gs_get.plain F.entry_gs_get (F.slot_gs_get.check _ _ _ _ _ _ _ _ hT5 (F.args_gs_get _ _ _) ?_)
  repeat (any_goals (first | assumption | (with_reducible refine wpAny_loadPart_at hx ?_; rw [hc]) | with_reducible refine Looks.at hs ?_ | wp_step))
  refine ⟨Code.quiet_builtin _ (by decide +kernel), codeAny_builtin F.entry_object_class ?_⟩
  repeat (any_goals (first | assumption | (with_reducible refine wpAny_loadPart_at hx ?_; rw [hc]) | wp_step))
theorem xc_entry {tk : Tok} {Q : Fin -> Shared -> Prop} (Z : ExcK K C) (X : K.In h) (hx : h.get? a = some o) (hc : o.cls = .ref C) (hq : Q (.done (.ret (.ref C))) ⟨h, g, d, t, os⟩) :
    wpAny (model prog w) A (Builtin.«object.__getattribute__» ⟨[.ref a, .str "__class__" tk], []⟩) Q E ⟨h, g, d, t, os⟩ := by
  have hT5 : (⟨h, g, d, t, os⟩ : Shared).TypeIs (.builtin "object.__class__") "getset_descriptor" := F.typeOf_object_class
  have f5 := F.typeOf_object_class
  have f6 := F.slot_gs_get.lookup
  have f7 := F.slot_gs_set.lookup
  have l3 : Looks (model prog w) h (typeLookup (.ref C) "__class__") _ := looks_findIn X Z.g3
  repeat (any_goals (first | assumption | (with_reducible refine wpAny_loadPart_at hx ?_; rw [hc]) | with_reducible refine Looks.at l3 ?_ | wp_step))
  refine xc_get Z X hx hc ?_
  repeat (any_goals (first | assumption | wp_step))
theorem xc_check {M : Model} {nameV : Value} {Q : Unit -> Shared -> Prop} (Z : ExcK K C) (X : K.In h) (hx : h.get? a = some o) (hc : o.cls = .ref C) (hq : Q () ⟨h, g, d, t, os⟩) : wpAny M A (checkBuiltinCall "BaseException.__getattribute__" ⟨[.ref a, nameV], []⟩) Q E ⟨h, g, d, t, os⟩ := by
  have hk : builtinKind "BaseException.__getattribute__" = some .slot := by decide +kernel
  have hsplit : splitId "BaseException.__getattribute__" = some ("BaseException", "__getattribute__") := by decide +kernel
  have ha := F.args_bexc_ga (.ref a) nameV
  have hs : Looks M h (isSubtype (.ref C) (.type "BaseException")) true := looks_subIn X Z.g4
  simp only [checkBuiltinCall, hk, hsplit]
  refine wpAny_bind ?_
  unfold isInstance
  repeat (first | (with_reducible refine wpAny_loadPart_at hx ?_; rw [hc]) | with_reducible refine Looks.at hs ?_ | wp_step)
  exact hq
theorem xc_call {tk : Tok} {R : Result -> Shared -> Prop} (Z : ExcK K C) (X : K.In h) (hx : h.get? a = some o) (hc : o.cls = .ref C) (hq : R (.ok (.ret (.ref C))) ⟨h, g, d, t, os⟩) :
    codeAny (model prog w) A (.call (.builtin "BaseException.__getattribute__") ⟨[.ref a, .str "__class__" tk], []⟩) R ⟨h, g, d, t, os⟩ :=
  codeAny_call_builtin F.attrBase_ValueError.ga.plain F.entry_bexc_ga (xc_check Z X hx hc (xc_entry Z X hx hc hq))
theorem xc_by {tk : Tok} {Q : Value -> Shared -> Prop} (Z : ExcK K C) (X : K.In h) (hx : h.get? a = some o) (hc : o.cls = .ref C) (hq : Q (.ref C) ⟨h, g, d, t, os⟩) :
    wpAny (model prog w) A (getAttrBy (.ref a) (.str "__class__" tk) false) Q E ⟨h, g, d, t, os⟩ := by
  have f3 := F.attrBase_ValueError.ga.bind (.ref a)
  have y0 : (false && onTheHeap (Value.builtin "BaseException.__getattribute__")) = false := rfl
  have y2 : (Value.builtin "BaseException.__getattribute__" == Value.builtin "object.__getattribute__") = false := by decide +kernel
  have y1 : (onTheHeap (Value.ref C) && Value.builtin "BaseException.__getattribute__" == Value.builtin "object.__getattribute__") = false := by rw [y2]; rfl
  have l1 : Looks (model prog w) h (typeLookup (.ref C) "__getattribute__") _ := looks_findIn X Z.g1
  have l2 : Looks (model prog w) h (typeLookup (.ref C) "__getattr__") _ := looks_findIn X Z.g2
  repeat (any_goals (first | assumption | (with_reducible refine wpAny_loadPart_at hx ?_; rw [hc]) | with_reducible refine Looks.at l1 ?_ | with_reducible refine Looks.at l2 ?_ | wp_step))
  refine xc_call Z X hx hc ?_
  repeat (any_goals (first | assumption | wp_step))
theorem xc_attr {Q : Option Value -> Shared -> Prop} (Z : ExcK K C) (X : K.In h) (hx : h.get? a = some o) (hc : o.cls = .ref C) (hq : Q (some (.ref C)) ⟨h, g, d, t + 1, os⟩) :
    wpAny (model prog w) A (getAttr? (.ref a) "__class__") Q E ⟨h, g, d, t, os⟩ := by
  unfold getAttr? getAttrBy?
  repeat (any_goals (first | assumption | with_reducible apply xc_by Z X hx hc | wp_step))
end
def ExcObj (a C : Addr) (h : Heap) : Prop := ∃ o, h.get? a = some o /\ o.cls = .ref C
theorem kitx_exc {K : Frag} {a C : Addr} (Z : ExcK K C) : KitX K (.ref a) (.ref C) (ExcObj a C) where
  ty := fun M h _ p => by
    obtain ⟨o, h1, h2⟩ := p
    exact h2 ▸ (Looks.ld h1).andThen .now
  it := fun M h X _ => by
    have z0 := Z.g6
    unfold clsIn at z0
    split at z0
    · rename_i ho
      intro A' Q' E' s' k q
      unfold isType loadHead
      exact wpAny_bind (wpAny_loadPart (k _ _ (X _ _ ho)) (wpAny_pure q))
    · cases z0
  ne := fun h tp dd its n sl X htp => by
    refine Bool.eq_false_iff.mpr fun q => ?_
    have e : Value.ref C = .ref tp := beq_iff_eq.mp q
    cases e
    have z0 := Z.g6
    unfold clsIn at z0
    split at z0
    · rename_i ho
      rw [X _ _ ho] at htp
      cases htp
    · cases z0
  ca := fun {prog w A E Q s} X p k => by
    obtain ⟨h, g, d, t, os⟩ := s
    obtain ⟨o, h1, h2⟩ := p
    exact xc_attr Z X h1 h2 k
section
variable {X : Cx}
end
end L2
namespace L2
open PySem PySem.Spec PyProof.Rows PySem.W
section
variable {X : Cx} {pins : List (Addr × Obj)} {σ : St} {H H' : Hp} {s s' : Shared}
theorem Inv.track {a : Addr} {o : HO} (I : Inv X pins σ H s) (hn : H a = none) (new : ObjOk X.prog X.w (upd H a o) s.heap a o) (hL : a ≠ X.env.locals) (hC : ∀ x c, X.env.cells.lookup x = some c -> c ≠ a) (hp : ∀ p ∈ X.pn ++ pins, p.1 ≠ a)
    (h0 : ∀ b u, X.s₀.heap.get? b = some u -> b ∉ X.ex -> b ≠ a) : Inv X pins σ (upd H a o) s := by
  have up : ∀ b v, H b = some v -> upd H a o b = some v := fun b v e => by rw [upd_ne (ne_of_none e hn)]; exact e
  refine ⟨I.ok, I.os, I.bare, ⟨I.base.keep, I.base.slot, fun b u e n hx => ?_, I.base.there, fun b xs e => up _ _ (I.base.tups b xs e), fun b u xs e => up _ _ (I.base.frzs b u xs e), fun b ps e => ?_⟩, I.loc, I.cell, ?_, fun x c e => ?_, fun p q => ?_, HOk.track I.hok hn new, I.len⟩
  · rw [upd_ne (h0 b u e hx)]
    exact I.base.free b u e n hx
  · obtain ⟨m, e'⟩ := I.base.tbls b ps e
    exact ⟨m, up _ _ e'⟩
  · rw [upd_ne (Ne.symm hL)]
    exact I.free
  · rw [upd_ne (hC x c e)]
    exact I.freeC x c e
  · obtain ⟨e, n, r⟩ := I.pin p q
    exact ⟨e, by rw [upd_ne (hp p q)]; exact n, r⟩
theorem unbind_ok {M : Model} {A : Around} {E : Value -> Shared -> Prop} {i : Nat} {x : Str} {pos : Pos} {Q : Unit -> Shared -> Prop} (I : Inv X pins σ H s) (hN : X.N.Nodup) (hi : X.N[i]? = some x) (hx : X.env.scope.names.lookup x = some .local)
    (h : ∀ s', Inv X pins (σ.set i none) H s' -> Q () s') : wpAny M A (do bindName X.env x .none; unbindBehindTheSuite X.env x pos) Q E s := by
  obtain ⟨m, hn, hl⟩ := id I.loc
  have kd : (X.env.scope.kind == .class || (X.env.scope.kind == .module && X.env.locals != X.env.globals)) = false := by rw [I.ok.kind]; rfl
  have hiσ : i < σ.length := by rw [I.len]; exact (List.getElem?_eq_some_iff.mp hi).1
  refine wpAny_nameGoes_keeps (env := X.env) hx hn kd fun h' v hn' hs => ?_
  obtain ⟨oL, _, _, hoL, _⟩ := id hn
  have away : ∀ b o, X.s₀.heap.get? b = some o -> b ≠ X.env.locals := fun b o e => Nat.ne_of_lt (Nat.lt_of_lt_of_le (Heap.lt_size e) I.ok.above)
  refine h _ ⟨I.ok, I.os, I.bare, ⟨fun b o e n hb hx => (hs.2 b (away b o e)).trans (I.base.keep b o e n hb hx), fun b o e n hb hx => ?_, I.base.free, fun b o e hx => ?_, I.base.tups, I.base.frzs, I.base.tbls⟩, ⟨_, hn', fun j y v' e1 e2 e3 => ?_⟩, fun y c e => ?_, I.free, I.freeC, fun p hp => ?_, I.hok.stays fun b u v hv z => (hs.2 b fun q => ?_).trans z, by simpa using I.len⟩
  · obtain ⟨sl, e1⟩ := I.base.slot b o e n hb hx
    exact ⟨sl, (hs.2 b (away b o e)).trans e1⟩
  · obtain ⟨o', e1⟩ := I.base.there b o e hx
    exact ⟨o', (hs.2 b (away b o e)).trans e1⟩
  · by_cases hj : j = i
    · subst hj
      rw [List.getElem?_set_self hiσ] at e2
      cases e2
    · rw [List.getElem?_set_ne (Ne.symm hj)] at e2
      obtain ⟨u', r', q⟩ := hl j y v' e1 e2 e3
      refine ⟨u', r', ?_⟩
      rcases q with ⟨k, e⟩ | ⟨k, c, e, z⟩
      · refine .inl ⟨k, ?_⟩
        have : y ≠ x := fun e => hj (nodup_ix hN e1 (e ▸ hi))
        simp [this, e]
      · exact .inr ⟨k, c, e, z.sameBut hs (I.cne y c e)⟩
  · obtain ⟨w', z⟩ := I.cell y c e
    exact ⟨w', z.sameBut hs (I.cne y c e)⟩
  · obtain ⟨e, n, ne, nf, d⟩ := I.pin p hp
    exact ⟨(hs.2 p.1 ne).trans e, n, ne, nf, d⟩
  · rw [q, I.free] at hv
    cases hv
theorem caught_inv {B h' : Heap} (I : Inv X pins σ H s) (os : s'.os = s.os) (bare : AllBare s'.gens) (un : Un (frs X.stack) [] H H' s.heap s'.heap) (hok : HOk X.prog X.w H' s'.heap) (fr : s'.heap.FunFrames B X.stack)
    (kB : ∀ b o, s'.heap.get? b = some o -> ((∃ q, s.heap.get? b = some q) \/ ∃ q, H' b = some q) -> b ∉ frs X.stack -> B.get? b = some o) (st : B.StaysIn h') (up : s'.heap.UpToSlots h') : Inv X pins σ H' { s' with heap := h' } := by
  have sl : ∀ b o, b ∈ frs X.stack -> s'.heap.get? b = some o -> ∃ sl, h'.get? b = some { o with slots := sl } := fun b o hb z => up b o z (frames_nf fr hb z)
  refine I.call' (ch := []) (s' := { s' with heap := h' }) os ⟨fun b o z n hb hx => ?_, fun b o z n hb hx => ?_, un.free, fun b o z hx => ?_, un.tups, un.frzs, un.tbls⟩ (hok.stays fun b u v hv z => ?_) bare (fun b z => absurd z (by simp))
  · exact st b o (kB b o (un.keep b o z n hb hx) (.inl ⟨o, z⟩) hb)
  · obtain ⟨s1, z2⟩ := un.slot b o z n hb hx
    obtain ⟨s2, z3⟩ := sl b _ hb z2
    exact ⟨s2, z3⟩
  · obtain ⟨o', z2⟩ := un.there b o z hx
    by_cases hb : b ∈ frs X.stack
    · obtain ⟨s2, z3⟩ := sl b _ hb z2
      exact ⟨_, z3⟩
    · exact ⟨_, st b o' (kB b o' z2 (.inl ⟨o, z⟩) hb)⟩
  · refine st b u (kB b u z (.inr ⟨v, hv⟩) fun hb => ?_)
    obtain ⟨_, o, z1, _⟩ := I.stack.mem hb
    have := un.free b o z1 (I.stkFree b hb) (by simp)
    rw [hv] at this
    cases this
end
def Cx.marked (X : Cx) (v : Value) : Cx := { X with A := X.A.mark (some v), calm := false, xe := fun _ _ => False }
section
variable {X : Cx} {pins : List (Addr × Obj)} {σ : St} {H H' : Hp} {s s' : Shared} {v : Value}
theorem Inv.mark (I : Inv X pins σ H s) : Inv (X.marked v) pins σ H s :=
  ⟨⟨I.ok.mod, I.ok.kind, I.ok.glob, I.ok.blt, I.ok.above, I.ok.inj, I.ok.has, I.ok.cab, fun z => (by cases z), I.ok.frames, I.ok.stk, I.ok.exf, I.ok.bs, I.ok.bsz, I.ok.noex, I.ok.exfs, I.ok.funs, I.ok.frf⟩, I.os, I.bare, I.base, I.loc, I.cell, I.free, I.freeC, I.pin, I.hok, I.len⟩
theorem Inv.unmark (I : Inv (X.marked v) pins σ H s) (hd : X.calm = true -> X.A.handled = none) : Inv X pins σ H s :=
  ⟨⟨I.ok.mod, I.ok.kind, I.ok.glob, I.ok.blt, I.ok.above, I.ok.inj, I.ok.has, I.ok.cab, hd, I.ok.frames, I.ok.stk, I.ok.exf, I.ok.bs, I.ok.bsz, I.ok.noex, I.ok.exfs, I.ok.funs, I.ok.frf⟩, I.os, I.bare, I.base, I.loc, I.cell, I.free, I.freeC, I.pin, I.hok, I.len⟩
end
theorem xc_matches {K : Frag} {M : Model} {A : Around} {E : Value -> Shared -> Prop} {h : Heap} {g : Array GenState} {d : Drawn} {t : Nat} {os : OsState} {e C W : Addr} {oe : Obj} {bmW : List Value} {Q : Bool -> Shared -> Prop} (X : K.In h) (hW : excB K W bmW = true) (sb : subIn K (.ref C) (.ref W) = some true)
    (he : h.get? e = some oe) (hcls : oe.cls = .ref C) (hq : Q true ⟨h, g, d, t, os⟩) : wpAny M A (excMatches (.ref e) (.ref W)) Q E ⟨h, g, d, t, os⟩ := by
  obtain ⟨N, nm, qn, bs, hd, sn, sub, ab, col, dd, k0, k1, k2, k3, k5, mN, hC, e2, e3, e4⟩ := (excAt_of X hW).ex
  have c1 : (Value.ref W :: bmW).contains (.type "BaseException") = true := by rw [List.contains_cons, e4.hasType bmVE_base, Bool.or_true]
  have l1 : Looks M h (isSubtype (.ref C) (.ref W)) true := looks_subIn X sb
  have f := tc_notTuple
  unfold excMatches
  repeat (first | (with_reducible refine wpAny_loadPart_at he ?_; rw [hcls]) | with_reducible refine wpAny_loadPart_at hC ?_ | with_reducible refine Looks.at l1 ?_ | (with_reducible refine wpAny_isSubtype_exc hC ?_; rw [c1]) | wp_step)
  exact hq
end L2
namespace L2
open PySem PySem.Spec PyProof.Rows
open PySem.AutoSeq1 (wpAny_loadPart')
section
variable {prog : Program} {w : World} {A : Around} {E : Value -> Shared -> Prop} {s : Shared}
end
def upN (n : Nat) : List V := (List.range n).map fun (i : Nat) => V.int i
theorem items_up {acc : Array Value} {n : Nat} (h : ItemsOf (fun i v => ∃ t, v = .int (0 + (i : Int) * 1) t) acc n) : Vals (upN n) acc.toList := by
  obtain ⟨hz, hi⟩ := h
  have key : ∀ (l : List Value) (k : Nat), (∀ (j : Nat) (v : Value), l[j]? = some v -> ∃ t, v = Value.int ((k + j : Nat) : Int) t) -> Vals ((List.range' k l.length).map fun (i : Nat) => V.int i) l := by
    intro l
    induction l with
    | nil => intro k _; exact .nil
    | cons a r ih =>
      intro k hk
      obtain ⟨t, e⟩ := hk 0 a rfl
      refine .cons ⟨t, by simpa using e⟩ (ih (k + 1) fun j v e => ?_)
      obtain ⟨t', e'⟩ := hk (j + 1) v (by simpa using e)
      exact ⟨t', by rw [e']; congr 2; omega⟩
  have := key acc.toList 0 fun j v e => by
    obtain ⟨t, e'⟩ := hi j v (by simpa using e)
    exact ⟨t, by rw [e']; congr 1; simp⟩
  have el : acc.toList.length = n := by simpa using hz
  rw [el] at this
  unfold upN
  rw [List.range_eq_range']
  exact this
section
variable {X : Cx}
theorem call_range1 : CallR X (.type "range") (fun xs H Q => ∃ j : Int, xs = [.int j] /\ ∀ p, H p = none -> Q (.ref p) (upd H p (.rng 0 j))) := by
  intro pins s σ H xs us Q I r h
  obtain ⟨j, rfl, q⟩ := h
  obtain ⟨u, rfl, ru⟩ := Vals.one r
  obtain ⟨t, rfl⟩ := ru
  refine call_range_1 ⟨.ref s.heap.objs.size, upd H s.heap.objs.size (.rng 0 j), I.laid (fun b o e => Heap.get?_push_of_some _ e) (Nat.le_refl _) ?_, rfl, q _ (I.hok.fresh (Nat.le_refl _))⟩
  exact ⟨_, _, _, Heap.get?_push_size _ rfl⟩
theorem size1 (n : Nat) : Builtin.Range.rangeSize 0 (n : Int) 1 = (n : Int) := by rw [rangeSize_one]; split <;> omega
theorem call_list_rng (hc : X.calm = true) : CallR X (.type "list") (fun xs H Q => ∃ (p : Addr) (n : Nat), xs = [.ref p] /\ H p = some (.rng 0 n) /\ n <= 1000 /\ ∀ l, H l = none -> Q (.ref l) (upd H l (.lst (upN n)))) := by
  intro pins s σ H xs us Q I r h
  obtain ⟨p, n, rfl, hp, hn, q⟩ := h
  obtain ⟨u, rfl, ru⟩ := Vals.one r
  cases (show u = Value.ref p from ru)
  obtain ⟨t1, t2, t3, e⟩ := I.hok p _ hp
  refine call_list_range (t := t1) (u := t2) (v := t3) (I.ok.hd hc) e (small_one (by decide) (by decide) (by omega) (by omega)) (size1 n) (by omega) fun h' tk acc c' hk hS hacc => ?_
  refine ⟨.ref s.heap.objs.size, upd H s.heap.objs.size (.lst (upN n)), I.laid hk (Nat.le_refl _) ?_, rfl, q _ (I.hok.fresh (Nat.le_refl _))⟩
  exact ⟨by unfold upN; rw [List.length_map, List.length_range]; exact Nat.le_trans hn (by decide), acc.toList, c', items_up hacc, by rw [hS]⟩
def dcr : List Int -> Nat
  | [] => 0
  | x :: xs => dcr xs + if x ∈ xs then 0 else 1
def dcount (l : List Int) : Nat := dcr l.reverse
theorem firstMet_dc (ns : List Int) : ∀ i, i <= ns.length -> (firstMet (fun i => ns.getD i 0) i).length = dcount (ns.take i)
  | 0, _ => rfl
  | i + 1, h => by
    have hi : i < ns.length := by omega
    have ih := firstMet_dc ns i (by omega)
    have e1 : ns.take (i + 1) = ns.take i ++ [ns.getD i 0] := by
      rw [List.take_add_one]
      congr 1
      simp [List.getD, hi]
    have e2 : ((List.range i).map fun i => ns.getD i 0) = ns.take i := by
      apply List.ext_getElem?
      intro j
      by_cases hj : j < i
      · rw [List.getElem?_take_of_lt hj, List.getElem?_map, List.getElem?_range hj]
        have : j < ns.length := by omega
        simp [List.getD, this]
      · rw [List.getElem?_take_eq_none (by omega)]
        rw [List.getElem?_eq_none (by simp; omega)]
    have ea := firstMet_any (fun i => ns.getD i 0) i (ns.getD i 0)
    rw [e2] at ea
    rw [firstMet_succ, step_length, ea, ih, e1]
    unfold dcount
    rw [List.reverse_append]
    show _ = dcr (ns.getD i 0 :: (ns.take i).reverse)
    show _ = dcr (ns.take i).reverse + if ns.getD i 0 ∈ (ns.take i).reverse then 0 else 1
    by_cases hm : ns.getD i 0 ∈ ns.take i
    · have h1 : (ns.take i).any (· == ns.getD i 0) = true := List.any_eq_true.mpr ⟨_, hm, by simp⟩
      rw [h1, if_pos (List.mem_reverse.mpr hm)]
      simp
    · have h1 : (ns.take i).any (· == ns.getD i 0) = false := by
        rw [List.any_eq_false]
        intro x hx e
        have : x = ns.getD i 0 := by simpa using e
        exact hm (this ▸ hx)
      rw [h1, if_neg (fun z => hm (List.mem_reverse.mp z))]
      simp
theorem not_modules {pins : List (Addr × Obj)} {σ : St} {H : Hp} {s : Shared} (I : Inv X pins σ H s) : (s.heap.objs.size == sysModules) = false := by
  have h1 : mainGlobals < s.heap.objs.size := by
    obtain ⟨o, _, _, e, _⟩ := I.mod.glob
    exact Heap.lt_size (I.bk _ _ e)
  refine beq_eq_false_iff_ne.mpr fun z => ?_
  have h2 : sysModules <= mainGlobals := by decide
  rw [z] at h1
  exact absurd (Nat.lt_of_le_of_lt h2 h1) (Nat.lt_irrefl _)
theorem pe_dict0 {pos : Pos} : PE X (.Dict [] [] pos) (fun _ H Q => ∀ p, H p = none -> Q (.ref p) (upd H p (.dK []))) := by
  intro pins s σ H Q I h
  refine wpAny_Dict_empty ⟨.ref s.heap.objs.size, upd H s.heap.objs.size (.dK []), I.laid (t' := s.toks) (fun b o e => Heap.get?_push_of_some _ e) (Nat.le_refl _) ?_, rfl, h _ (I.hok.fresh (Nat.le_refl _))⟩
  exact ⟨Nat.zero_le _, not_modules I, [], .nil, Heap.DictOf.new s.heap⟩
end
theorem pass_on {P : Program} {w : World} {K : PySem.W.Frag} {mg : Str -> Option Value} {base : Heap} {N : List Str} {qual : Str} {scope : Scope} {f : Addr} {cd : Value} {A : Around} {outer : List Env} {s0 : Shared} {H0 : Hp} {E : XK} :
    Passes (CXr P w) (cxOf (CXr P w) P w K mg base N qual scope f cd A outer s0 H0 E) E := by
  intro pins σ H s e s' I hx
  obtain ⟨ea, C, a0, B, H', rfl, os, bare, un, hok, fly, kB, q⟩ := hx
  have hfr : (A.deeper (envOfC qual scope s0.heap.objs.size f cd)).frames = some (envOfC qual scope s0.heap.objs.size f cd :: outer) := I.ok.frames
  show wpAny (model P w) (A.deeper (envOfC qual scope s0.heap.objs.size f cd)) (leaving (envOfC qual scope s0.heap.objs.size f cd) (.ref ea)) (fun _ s'' => CXr P w outer H0 s0 E (.ref ea) s'') _ s'
  have fly0 : Heap.FlyingW B (envOfC qual scope s0.heap.objs.size f cd :: outer) ea (.ref C) a0 s'.heap := fly
  refine wpAny_leaves_onW hfr rfl fly0 fun h' fly' up => ?_
  have eS : frs (envOfC qual scope s0.heap.objs.size f cd :: outer) = s0.heap.objs.size :: frs outer := rfl
  have fsub : ∀ b, b ∉ frs outer -> b ≠ s0.heap.objs.size -> b ∉ frs (envOfC qual scope s0.heap.objs.size f cd :: outer) := fun b h1 h2 hb => by
    rw [eS] at hb
    exact (List.mem_cons.mp hb).elim h2 h1
  have fin : ∀ b, b ∈ frs outer -> b ∈ frs (envOfC qual scope s0.heap.objs.size f cd :: outer) := fun b hb => by rw [eS]; exact List.mem_cons_of_mem _ hb
  have ne0 : ∀ b o, s0.heap.get? b = some o -> b ≠ s0.heap.objs.size := fun b o z => Nat.ne_of_lt (Heap.lt_size z)
  have BS : Un (frs outer) [] H0 H s0.heap s.heap := I.base
  have un' : Un (frs (envOfC qual scope s0.heap.objs.size f cd :: outer)) [] H H' s.heap s'.heap := un
  have sl : ∀ b o, b ∈ frs outer -> s'.heap.get? b = some o -> ∃ sl, h'.get? b = some { o with slots := sl } := fun b o hb z => up b o z (frames_nf fly0.2.2.1 (fin b hb) z)
  have kB' : ∀ b o, s'.heap.get? b = some o -> ((∃ q, s.heap.get? b = some q) \/ ∃ q, H' b = some q) -> b ∉ frs (envOfC qual scope s0.heap.objs.size f cd :: outer) -> B.get? b = some o := kB
  have trf : ∀ b, b ∈ frs (envOfC qual scope s0.heap.objs.size f cd :: outer) -> H' b = none := fun b hb => by
    obtain ⟨_, o, z1, _⟩ := (show s.heap.FunFrames base (envOfC qual scope s0.heap.objs.size f cd :: outer) from I.stack).mem hb
    exact un'.free b o z1 (I.stkFree b hb) (by simp)
  refine ⟨ea, C, a0, B, H', rfl, os.trans I.os, bare, ⟨fun b o z n hb hx => ?_, fun b o z n hb hx => ?_, fun b o z n hx => ?_, fun b o z hx => ?_, fun b xs z => un'.tups b xs (BS.tups b xs z), fun b o u z => un'.frzs b o u (BS.frzs b o u z), fun b ps z => ?_⟩, ?_, fly', fun b o z hh hb => ?_, q⟩
  · have z1 := BS.keep b o z n hb hx
    have z2 := un'.keep b o z1 (BS.free b o z n hx) (fsub b hb (ne0 b o z)) (by simp)
    exact fly'.1 b o (kB' b o z2 (.inl ⟨o, z1⟩) (fsub b hb (ne0 b o z)))
  · obtain ⟨s1, z1⟩ := BS.slot b o z n hb hx
    obtain ⟨s2, z2⟩ := un'.slot b _ z1 (BS.free b o z n hx) (fin b hb) (by simp)
    obtain ⟨s3, z3⟩ := sl b _ hb z2
    exact ⟨s3, z3⟩
  · obtain ⟨o', z1⟩ := BS.there b o z hx
    exact un'.free b o' z1 (BS.free b o z n hx) (by simp)
  · obtain ⟨o1, z1⟩ := BS.there b o z hx
    obtain ⟨o2, z2⟩ := un'.there b o1 z1 (by simp)
    by_cases hb : b ∈ frs outer
    · obtain ⟨s3, z3⟩ := sl b _ hb z2
      exact ⟨_, z3⟩
    · exact ⟨_, fly'.1 b o2 (kB' b o2 z2 (.inl ⟨o1, z1⟩) (fsub b hb (ne0 b o z)))⟩
  · obtain ⟨m1, z1⟩ := BS.tbls b ps z
    obtain ⟨m2, z2⟩ := un'.tbls b _ z1
    exact ⟨m1 ++ m2, by rw [z2, Array.append_assoc]⟩
  · refine hok.stays fun b u v hv z => fly'.1 b u (kB' b u z (.inr ⟨v, hv⟩) fun hb => ?_)
    have := trf b hb
    rw [hv] at this
    cases this
  · have ex : ∃ u, s'.heap.get? b = some u /\ B.get? b = some u := by
      rcases hh with ⟨q1, z1⟩ | ⟨q1, z1⟩
      · obtain ⟨o1, z2⟩ := BS.there b q1 z1 (by simp)
        obtain ⟨o2, z3⟩ := un'.there b o1 z2 (by simp)
        exact ⟨o2, z3, kB' b o2 z3 (.inl ⟨o1, z2⟩) (fsub b hb (ne0 b q1 z1))⟩
      · obtain ⟨u, z2⟩ := (hok b q1 z1).there
        refine ⟨u, z2, kB' b u z2 (.inr ⟨q1, z1⟩) fun hm => ?_⟩
        have := trf b hm
        rw [z1] at this
        cases this
    obtain ⟨u, _, hu⟩ := ex
    have := fly'.1 b u hu
    rw [z] at this
    cases this
    exact hu
section
variable {X : Cx}
end
section
variable {X : Cx}
end
end L2
namespace L2
open PySem PySem.Spec PyProof.Rows PySem.W
abbrev TSX := Ends -> (St -> XK) -> St -> Hp -> Prop
def XP (X : Cx) (pins : List (Addr × Obj)) (DX : St -> XK) (e : Value) (s' : Shared) : Prop := ∃ σ H s, Inv X pins σ H s /\ CXr X.prog X.w X.stack H s (DX σ) e s'
section
variable {X : Cx}
def xCall (sp : Sp) (ta : TA) : TSX := fun D DX σ H => ta σ H fun vs H1 => sp (vs ++ []) H1 (fun _ H2 => D.nx σ H2) (DX σ)
end
end L2
namespace L2
open PySem PySem.Spec PyProof.Rows
section
variable {X : Cx}
end
section
variable {κ : Type} [DecidableEq κ]
end
section
variable {P : Program} {w : World} {H : Hp} {h : Heap} {a : Addr}
end
section
variable {X : Cx} {pins : List (Addr × Obj)} {σ : St} {H : Hp} {s : Shared} {a : Addr} {y v : V} {u r : Value} {o : Option V} {A : Around} {E : Value -> Shared -> Prop}
end
section
variable {X : Cx} {pins : List (Addr × Obj)} {σ : St} {H : Hp} {s : Shared} {a : Addr} {kvs : List (Key × V)} {k : Key} {u : Value} {A : Around} {E : Value -> Shared -> Prop}
end
section
variable {X : Cx} {o i e value : Expr} {pos pos' tpos : Pos} {td ty tv : TE}
end
section
variable {X : Cx} {pos : Pos}
end
structure M2 (X : Cx) (o : Expr) (m : Str) (apos : Pos) (e f : Expr) (cpos : Pos) : Prop where
  base : attributeBase o m X.env (eval o X.env) = eval o X.env
  few : ((backTo cpos (starEach [e, f] X.env)).all (fun x => !x.1) && (backToKw cpos (keywordEach [] X.env)).all (fun x => x.1.isSome)
    && decide (([e, f] : List Expr).length + ([] : List Keyword).length + (if ([] : List Keyword).isEmpty then 0 else 1) < 30)) = true
  line : (apos.endLine == cpos.line) = true
  trees : backTo cpos (starEach [e, f] X.env) = [(false, eval e X.env), (false, eval f X.env)]
section
variable {X : Cx} {pins : List (Addr × Obj)} {σ : St} {H : Hp} {s : Shared} {a : Addr} {y d : V} {u r : Value} {o : Option V} {A : Around} {E : Value -> Shared -> Prop}
end
section
variable {X : Cx} {o e f : Expr} {apos cpos : Pos} {td ty tx : TE}
end
section
variable {X : Cx} {pins : List (Addr × Obj)} {σ : St} {H : Hp} {s : Shared} {a : Addr} {kvs : List (Key × V)} {A : Around} {E : Value -> Shared -> Prop}
end
section
variable {X : Cx} {pins : List (Addr × Obj)} {σ : St} {H : Hp} {s : Shared} {a : Addr} {y : V} {u : Value} {A : Around} {E : Value -> Shared -> Prop}
end
section
variable {prog : Program} {w : World} {A : Around} {E : Value -> Shared -> Prop} {s : Shared} {it d v : Addr} {i ep : Nat} {es : Array DictEntry} {o : Obj}
end
abbrev TTab := List (List Key × V)
section
variable {X : Cx} {pins : List (Addr × Obj)} {σ : St} {H : Hp} {s : Shared} {d : Addr} {kvs : TTab}
end
section
variable {X : Cx}
end
end L2
namespace L2
open PySem PySem.W PyProof.Rows
section
variable {lt : Nat -> Nat -> Bool} {N : Nat}
end
end L2
namespace L2
open PySem PySem.W PyProof.Rows
section
variable {prog : Program} {w : World} {A : Around} {E : Value -> Shared -> Prop} {s : Shared}
end
end L2
namespace L2
open PySem PySem.W PyProof.Rows
section
variable {prog : Program} {w : World} {A : Around} {E : Value -> Shared -> Prop} {s : Shared}
end
section
variable {X : Cx}
end
end L2
namespace L2
open PySem PySem.Spec PyProof.Rows
theorem for_seq {k : Kd} {K : PySem.W.Frag} {a : Addr} {xs : List V} {g : TG} {tb : TS} {D : Ends} {σ : St} {H : Hp} (Pv : Nat -> St -> Hp -> Prop) (h0 : Pv 0 σ H) (hl : ∀ i σ H, i <= xs.length -> Pv i σ H -> SqK k K H a xs)
    (hs : ∀ i x σ H, xs[i]? = some x -> Pv i σ H -> g x σ H fun σ2 H2 => tb { D with nx := Pv (i + 1), ct := Pv (i + 1), bk := D.nx } σ2 H2) (hd : ∀ σ H, Pv xs.length σ H -> D.nx σ H) :
    ∃ W : Nat -> Nat -> St -> Hp -> Prop, (∃ m, W 0 m σ H) /\ ∀ i m σ H, W i m σ H ->
      ((ItK k K a).stop i H /\ D.nx σ H) \/ ((ItK k K a).go i H /\ ∃ N : St -> Hp -> Prop, (∀ σ' H', N σ' H' -> ∃ m', m' < m /\ W (i + 1) m' σ' H') /\ ∀ x H', (ItK k K a).yld i H x H' -> g x σ H' fun σ2 H2 => tb { D with nx := N, ct := N, bk := D.nx } σ2 H2) := by
  cases k with
  | l => exact for_list Pv h0 hl hs hd
  | t => exact for_tup Pv h0 hl hs hd
section
variable {X : Cx}
end
section
open PySem.SeqAt
open PySem.AutoSeq1 (wpAny_loadPart')
open PySem.MeetsSeq PySem.MeetsSeq2 PySem.MeetsSeq3
end
section
variable {X : Cx}
end
section
variable {prog : Program} {w : World} {A : Around} {E : Value -> Shared -> Prop} {s : Shared} {it l : Addr} {its : Array Value}
end
section
variable {X : Cx}
end
def cE (e : Int × Value) : Int × Value := (e.1, .int e.1 0)
def addT (st : Array (Int × Value) × SetTable) (n : Int) : Array (Int × Value) × SetTable :=
  let L := layNew st.2 st.1 n (.int n 0)
  if (!L.2.2.1 && L.2.1.tooFull) = true then ((relayAll L.2.1 L.1 (SetTable.grown L.1.size)).1, (relayAll L.2.1 L.1 (SetTable.grown L.1.size)).2.1) else (L.1, L.2.1)
def tabOf (led : Bool) (ns : List Int) : Array (Int × Value) × SetTable := ns.foldl addT (#[], SetTable.fresh 0 0 led)
def TabS (h : Heap) (a : Addr) (led : Bool) (ns : List Int) : Prop :=
  ∃ o es ep t, h.get? a = some o /\ o.ExactSet /\ o.data = .set es ep t /\ es.map cE = (tabOf led ns).1 /\ t = (tabOf led ns).2 /\ (∀ e ∈ es.toList, (∃ tk, e.2 = .int e.1 tk) /\ 0 <= e.1 /\ e.1 <= 8) /\ (es.toList.map (·.1)).Perm ns /\ t.fits es.size = true /\ es.size < 100
section
variable {prog : Program} {w : World} {A : Around} {E : Value -> Shared -> Prop} {s : Shared} {a : Addr} {led : Bool} {ns : List Int}
end
section
variable {prog : Program} {w : World} {A : Around} {R : Result -> Shared -> Prop} {I : Addr} {fp wr : List Addr} {G : Array GenState -> Array GenState -> Prop} {n : Nat} {P : Nat -> Value -> Prop} {St : Nat -> Shared -> Prop}
end
section
variable {prog : Program} {w : World} {A : Around} {E : Value -> Shared -> Prop} {s : Shared}
set_option maxHeartbeats 8000000 in
end
section
variable {prog : Program} {w : World} {A : Around} {E : Value -> Shared -> Prop} {s : Shared} {it a : Addr} {o : Obj} {es : Array (Int × Value)} {ep i : Nat} {t : SetTable} {slot : Nat}
end
section
variable {prog : Program} {w : World} {A : Around} {E : Value -> Shared -> Prop} {s : Shared} {it a : Addr} {o : Obj} {es : Array (Int × Value)} {ep i : Nat} {t : SetTable} {slot : Nat}
end
section
variable {prog : Program} {w : World} {A : Around} {E : Value -> Shared -> Prop} {s : Shared} {a : Addr} {o : Obj} {es : Array (Int × Value)} {ep : Nat} {t : SetTable}
end
section
variable {prog : Program} {w : World} {A : Around} {E : Value -> Shared -> Prop} {s : Shared} {a : Addr}
end
section
variable {X : Cx}
end
section
variable {prog : Program} {w : World} {A : Around} {E : Value -> Shared -> Prop} {s : Shared}
end
section
variable {X : Cx}
end
end L2
namespace L2
open PySem PySem.W PyProof.Rows
section
variable {prog : Program} {w : World} {A : Around} {E : Value -> Shared -> Prop} {s : Shared} {κ : SortKind} {it : Array Keyed} {lt : Nat -> Nat -> Bool} {N : Nat}
end
end L2
namespace L2
open PySem PySem.W PyProof.Rows
section
variable {lt : Nat -> Nat -> Bool}
end
section
variable {prog : Program} {w : World} {A : Around} {E : Value -> Shared -> Prop} {s : Shared} {κ : SortKind} {it : Array Keyed} {lt : Nat -> Nat -> Bool} {N : Nat}
end
end L2
namespace L2
open PySem PySem.W PyProof.Rows
section
variable {prog : Program} {w : World} {A : Around} {E : Value -> Shared -> Prop} {s : Shared} {κ : SortKind} {it : Array Keyed} {lt : Nat -> Nat -> Bool} {N : Nat}
end
end L2
namespace L2
open PySem PySem.W PyProof.Rows
section
variable {prog : Program} {w : World} {A : Around} {E : Value -> Shared -> Prop} {s : Shared} {κ : SortKind} {it : Array Keyed} {lt : Nat -> Nat -> Bool} {N : Nat}
end
end L2
namespace L2
open PySem PySem.W PyProof.Rows
section
variable {prog : Program} {w : World} {A : Around} {E : Value -> Shared -> Prop} {s : Shared} {κ : SortKind} {it : Array Keyed} {lt : Nat -> Nat -> Bool} {N : Nat}
end
end L2
namespace L2
open PySem PySem.W PyProof.Rows
section
variable {prog : Program} {w : World} {A : Around} {E : Value -> Shared -> Prop} {s : Shared} {κ : SortKind} {it : Array Keyed} {lt : Nat -> Nat -> Bool} {N : Nat}
end
end L2
namespace L2
open PySem PySem.W PyProof.Rows
section
variable {prog : Program} {w : World} {A : Around} {E : Value -> Shared -> Prop} {s : Shared} {κ : SortKind} {it : Array Keyed} {lt : Nat -> Nat -> Bool} {N : Nat}
end
end L2
namespace L2
open PySem PySem.W PyProof.Rows
section
variable {prog : Program} {w : World} {A : Around} {E : Value -> Shared -> Prop} {s : Shared} {κ : SortKind} {it : Array Keyed} {lt : Nat -> Nat -> Bool} {N : Nat}
end
end L2
namespace L2
open PySem PySem.W PyProof.Rows
section
variable {prog : Program} {w : World} {A : Around} {E : Value -> Shared -> Prop} {s : Shared} {κ : SortKind} {it : Array Keyed} {lt : Nat -> Nat -> Bool} {N : Nat}
end
end L2
namespace L2
open PySem PySem.W PyProof.Rows
section
variable {prog : Program} {w : World} {A : Around} {E : Value -> Shared -> Prop} {s : Shared}
end
end L2
namespace L2
open PySem PySem.W PyProof.Rows
section
variable {X : Cx}
end
end L2
namespace L2
open PySem PySem.Spec PyProof.Rows
section
variable {X : Cx}
end
end L2
namespace L2
open PySem PySem.W PyProof.Rows
section
variable {X : Cx}
end
section
variable {prog : Program} {w : World} {A : Around}
end
section
variable {X : Cx}
end
end L2
namespace L2
open PySem PySem.Spec PyProof.Rows
section
variable {X : Cx}
end
end L2
namespace L2
open PySem PySem.W PyProof.Rows
section
variable {prog : Program} {w : World} {d : Addr} {es : Array DictEntry} {ep : Nat} {o : Obj}
end
section
variable {X : Cx}
end
end L2
namespace L2
open PySem PySem.Spec PyProof.Rows
section
variable {X : Cx}
end
end L2
namespace L2
open PySem PySem.Spec PyProof.Rows PySem.MeetsSeq
section
variable {X : Cx}
end
end L2
namespace L2
open PySem PySem.Spec PyProof.Rows PySem.MeetsSeq
section
variable {X : Cx}
variable {o e : Expr} {es : List Expr} {to : TE} {t : TA} {name : Str} {apos cpos : Pos} {id : String} {r : V -> List V -> Hp -> VK -> Prop}
end
end L2
namespace HT
open PySem PySem.Spec PyProof.Rows
section
variable {prog : Program} {w : World} {A : Around} {E : Value -> Shared -> Prop} {s : Shared}
end
end HT
namespace L2
open PySem PySem.Spec PyProof.Rows
section
variable {X : Cx}
end
end L2
namespace L2
open PySem PySem.Spec PyProof.Rows
section
open PySem.SeqAt
open PySem.AutoSeq1 (wpAny_loadPart')
open PySem.MeetsSeq PySem.MeetsSeq2 PySem.MeetsSeq3
end
end L2
namespace L2
open PySem PySem.W PyProof.Rows
section
variable {prog : Program} {w : World} {A : Around} {E : Value -> Shared -> Prop} {s : Shared}
end
section
variable {X : Cx}
end
end L2
namespace L2
open PySem PySem.Spec PyProof.Rows
section
variable {env : Env} {C : Addr} {names : List (Str × NameKind)} {x : Str} {d : Addr}
end
section
variable {X : Cx} {scope : Scope} {N' : List Str} {fr : List (Option Nat)} {pins : List (Addr × Obj)} {σ : St} {H : Hp} {s : Shared} {fp : List Addr}
end
section
variable {X : Cx} {scope : Scope} {N' : List Str} {fr : List (Option Nat)} {pins : List (Addr × Obj)} {σ : St} {H : Hp} {s : Shared} {fp : List Addr} {it : Addr} {tn : Nat -> Heap -> Prop} {J : It}
  {elt tg iter : Expr} {ifs : List Expr} {g : TG} {tt : TT} {te : TE} {pos : Pos} {fin : List V -> Hp -> Prop} {W : Nat -> Nat -> List V -> St -> Hp -> Prop} {RR : Value -> Addr -> Result -> Shared -> Prop} {E : Value -> Shared -> Prop}
end
end L2
namespace L2
open PySem PySem.Spec PyProof.Rows PySem.MeetsSeq PySem.AutoSeq1
end L2
namespace L2
open PySem PySem.Spec PyProof.Rows
section
variable {X : Cx}
end
def rLenK (K : PySem.W.Frag) : List V -> Hp -> VK -> Prop := fun xs H Q => ∃ p ys, xs = [.ref p] /\ (SqL K H p ys \/ SqT K H p ys) /\ Q (.int ys.length) H
def rIsiK (K : PySem.W.Frag) : List V -> Hp -> VK -> Prop := fun xs H Q => ∃ x c t u b, xs = [x, c] /\ RelV c u /\ TyOf K H x t /\ PySem.W.kitOne K t u = some b /\ Q (.bl b) H
def rTupOfK (K : PySem.W.Frag) : List V -> Hp -> VK -> Prop := fun xs H Q => ∃ p ys, xs = [.ref p] /\ ((SqL K H p ys /\ ∀ l, H l = none -> Q (.ref l) (upd H l (.tup ys))) \/ (SqT K H p ys /\ Q (.ref p) H))
theorem seq_abs {A B : TS} {D : Ends} {σ : St} {H : Hp} (h : ∀ M : St -> Hp -> Prop, (∀ σ H, B D σ H -> M σ H) -> A { D with nx := M } σ H) : tSeq A B D σ H := h _ fun _ _ z => z
section
variable {X : Cx} (K : PySem.W.Frag)
theorem ix_listK (h : X.K = K := by rfl) : IxR X (rIxL K) := h ▸ ix_list
theorem ix_tupK (h : X.K = K := by rfl) : IxR X (rIxT K) := h ▸ ix_tup
theorem sl_listK (h : X.K = K := by rfl) : SlR X (rSlL K) := h ▸ sl_list
theorem call_lenK (h : X.K = K := by rfl) : CallR X (.builtin "len") (rLenK K) := h ▸ call_len_seq
theorem call_isiK (h : X.K = K := by rfl) : CallR X (.builtin "isinstance") (rIsiK K) := h ▸ call_isinst
theorem call_tuple_ofK (h : X.K = K := by rfl) : CallR X (.type "tuple") (rTupOfK K) := h ▸ call_tuple_of
theorem op_neNilK (hu : X.A.units + 66 < cLine) (h : X.K = K := by rfl) : OpR X (compareOp .NotEq) (rNil K true) := h ▸ op_neNil hu
theorem pi_seqK {tg : Expr} (k : Kd) {l : Expr} {tl : TE} (hl : PE X l tl) (h : X.K = K := by rfl) : PI X tg l (iSeq k K tl) := h ▸ pi_seq k hl
theorem pg_tupK (n : Nat) {es : List Expr} {k : Nat} {t : TGs} {pos : Pos} (hc : X.calm = true) (h : PGs X es t)
    (hn : (assignEach es X.env).length = n := by rfl) (hst : (assignEach es X.env).findIdx? (·.1) = none := by rfl) (hK : X.K = K := by rfl) : PG X (.Tuple es k pos) (gTup K n t) := hK ▸ pg_tup hc h hn hst
theorem pi_enumK {elts : List Expr} {x1 : Nat} {tpos : Pos} {l : Expr} {ta : TA} {p pos : Pos} (k : Kd) (hg : Gl X "enumerate") (hm : X.mg "enumerate" = none) (ha : PA X [l] ta) (hs : starEach [l] X.env = [(false, eval l X.env)] := by rfl) (h : X.K = K := by rfl) :
    PI X (.Tuple elts x1 tpos) (.Call (.Name "enumerate" p) [l] [] pos) (iEnum k K ta) := h ▸ pi_enum k hg hm ha hs
end
section
variable {X : Cx}
end
section
variable {X : Cx}
end
section
variable {X : Cx} {m : Str} {apos pos : Pos} {o : Expr} {ta : TE}
end
section
variable {X : Cx}
end
section
variable {X : Cx}
end
end L2
namespace L2
open PySem PySem.W PyProof.Rows
section
variable {X : Cx}
end
end L2
namespace L2
open PySem PySem.W PyProof.Rows
section
variable {prog : Program} {w : World} {A : Around} {E : Value -> Shared -> Prop} {s : Shared}
end
end L2
namespace L2
open PySem PySem.W PyProof.Rows
section
variable {X : Cx}
end
end L2
namespace L2
open PySem PySem.W PyProof.Rows
section
variable {X : Cx} {pos : Pos}
end
end L2
namespace L2
open PySem PySem.SetTable
def nx (m i : Nat) : Nat := (i * 5 + 1) % (m + 1)
end L2
namespace L2
open PySem PySem.SetTable
end L2
namespace L2
open PySem PySem.SetTable
section
variable {prog : Program} {w : World} {A : Around} {E : Value -> Shared -> Prop} {s : Shared}
end
end L2
namespace L2
open PySem PySem.SetTable
section
variable {prog : Program} {w : World} {A : Around} {E : Value -> Shared -> Prop} {s : Shared} {a b : Addr} {o : Obj} {es : Array (Int × Value)} {ep : Nat} {t : SetTable} {kx : List Int}
end
end L2
namespace L2
open PySem PySem.SetTable PyProof.Rows
section
variable {prog : Program} {w : World} {G : Value -> List Int -> Prop} {A : Around} {E : Value -> Shared -> Prop} {s : Shared} {a b : Addr} {led : Bool} {kss : List (List Int)} {kx : List Int}
end
end L2
namespace L2
open PySem PySem.Spec PyProof.Rows
section
variable {prog : Program} {w : World} {A : Around} {R : Result -> Shared -> Prop} {I : Addr} {fp wr : List Addr} {G : Array GenState -> Array GenState -> Prop} {n : Nat} {P : Nat -> Value -> Prop} {St : Nat -> Shared -> Prop}
end
section
variable {prog : Program} {w : World} {A : Around} {E : Value -> Shared -> Prop} {s : Shared}
set_option maxHeartbeats 8000000 in
end
end L2
namespace L2
open PySem PySem.W PyProof.Rows
section
variable {prog : Program} {w : World} {A : Around} {E : Value -> Shared -> Prop} {s : Shared} {a : Addr} {kss : List (List Int)} {G : Value -> List Int -> Prop}
end
section
variable {X : Cx}
end
end L2
namespace L2
open PySem PySem.W PyProof.Rows
section
variable {X : Cx}
end
end L2
namespace L2
open PySem PySem.W PyProof.Rows
section
variable {X : Cx}
end
end L2
namespace L2
open PySem PySem.Spec PyProof.Rows PySem.W
def DKeeps {α : Type} : Sem α -> Prop
  | .pure _ => True
  | .unsupported _ => True
  | .finish _ => True
  | .rule _ k => DKeeps (k ())
  | .at _ k => DKeeps (k ())
  | .load _ _ k => ∀ o, DKeeps (k o)
  | .update _ _ f k => (∀ o, (f o).dict = o.dict) /\ DKeeps (k ())
  | .loadIfAlive _ k => ∀ o, DKeeps (k o)
  | .point _ k => DKeeps (k ())
  | .alloc _ k => ∀ a, DKeeps (k a)
  | .fresh k => ∀ a, DKeeps (k a)
  | .ask k => ∀ a, DKeeps (k a)
  | .handled _ k => ∀ a, DKeeps (k a)
  | .stack k => ∀ a, DKeeps (k a)
  | .thread k => ∀ a, DKeeps (k a)
  | _ => False
def DSame (h h' : Heap) : Prop := ∀ (b : Nat) (o : Obj), h.objs[b]? = some o -> ∃ o', h'.objs[b]? = some o' /\ o'.dict = o.dict
theorem DSame.refl (h : Heap) : DSame h h := fun _ o e => ⟨o, e, rfl⟩
theorem DSame.trans {h1 h2 h3 : Heap} (x : DSame h1 h2) (y : DSame h2 h3) : DSame h1 h3 := fun b o e => by
  obtain ⟨o1, e1, d1⟩ := x b o e
  obtain ⟨o2, e2, d2⟩ := y b o1 e1
  exact ⟨o2, e2, d2.trans d1⟩
theorem DSame.push {h : Heap} {o : Obj} : DSame h (h.push o) := fun b u e => by
  obtain ⟨objs, l⟩ := h
  refine ⟨u, ?_, rfl⟩
  show (objs.push o)[b]? = some u
  have : b < objs.size := (Array.getElem?_eq_some_iff.mp e).1
  rw [Array.getElem?_push, if_neg (Nat.ne_of_lt this)]
  exact e
theorem DSame.update {h : Heap} {a : Addr} {f : Obj -> Obj} (hf : ∀ o, (f o).dict = o.dict) : DSame h (h.update a f) := fun b u e => by
  obtain ⟨objs, l⟩ := h
  show ∃ o', (objs.modify a f)[b]? = some o' /\ _
  have e' : objs[b]? = some u := e
  rw [Array.getElem?_modify]
  by_cases hb : a = b
  · rw [if_pos hb, e']
    exact ⟨f u, rfl, hf u⟩
  · rw [if_neg hb, e']
    exact ⟨u, rfl, rfl⟩
theorem get_objs {h : Heap} {a : Addr} {o : Obj} (e : h.get? a = some o) : h.objs[a]? = some o := by
  unfold Heap.get? at e
  split at e
  · cases e
  · exact e
theorem DSame.at {h h' : Heap} (x : DSame h h') {a : Addr} {o o' : Obj} (e : h.get? a = some o) (e' : h'.get? a = some o') : o'.dict = o.dict := by
  obtain ⟨u, e1, d⟩ := x a o (get_objs e)
  rw [get_objs e'] at e1
  cases e1
  exact d
theorem dkeeps_wp {α : Type} {M : Model} {Γ : PySem.Ctx} {E E' : Value -> Pos -> Shared -> Prop} : ∀ (t : Sem α) (Q : α -> Pos -> Shared -> Prop) (p : Pos) (s : Shared), DKeeps t -> Sem.wp M Γ t Q E p s -> Sem.wp M Γ t (fun a p' s' => Q a p' s' /\ DSame s.heap s'.heap) E' p s := by
  intro t
  have up : ∀ {h1 h2 h3 : Heap}, DSame h1 h2 -> DSame h2 h3 -> DSame h1 h3 := fun a b => a.trans b
  induction t with
  | pure a => intro Q p s _ h; rw [Sem.wp] at h ⊢; exact ⟨h, .refl _⟩
  | raise e => intro Q p s d h; exact d.elim
  | unsupported _ => intro Q p s _ h; rw [Sem.wp] at h; exact h.elim
  | finish _ => intro Q p s _ h; rw [Sem.wp] at h; exact h.elim
  | rule t k ih => intro Q p s d h; rw [Sem.wp] at h ⊢; exact ih () Q p s d h
  | «at» p' k ih => intro Q p s d h; rw [Sem.wp] at h ⊢; exact ih () Q p' s d h
  | load a x k ih => intro Q p s d h; rw [Sem.wp] at h ⊢; obtain ⟨o, e, h⟩ := h; exact ⟨o, e, ih o Q p s (d o) h⟩
  | update a x f k ih =>
    intro Q p s d h
    rw [Sem.wp] at h ⊢
    have := ih () Q p _ d.2 h.2
    refine ⟨h.1, ?_⟩
    have z := ih () (fun a p' s' => Q a p' s') p _ d.2 h.2
    exact Sem.wp_mono M Γ _ (fun a p1 s1 q => ⟨q.1, (DSame.update d.1).trans q.2⟩) (fun _ _ _ q => q) _ _ z
  | alloc o k ih =>
    intro Q p s d h
    rw [Sem.wp] at h ⊢
    exact Sem.wp_mono M Γ _ (fun a p1 s1 q => ⟨q.1, DSame.push.trans q.2⟩) (fun _ _ _ q => q) _ _ (ih _ Q p _ (d _) h)
  | loadIfAlive a k ih => intro Q p s d h; rw [Sem.wp] at h ⊢; exact ih _ Q p s (d _) h
  | point l k ih => intro Q p s d h; rw [Sem.wp] at h ⊢; exact ih () Q p s d h
  | register a k ih => intro Q p s d h; exact d.elim
  | fresh k ih => intro Q p s d h; rw [Sem.wp] at h ⊢; exact ih _ Q p _ (d _) h
  | ask k ih => intro Q p s d h; rw [Sem.wp] at h ⊢; exact ih _ Q p s (d _) h
  | choose a n k ih => intro Q p s d h; exact d.elim
  | os a l k ih => intro Q p s d h; exact d.elim
  | call c h g l k ih => intro Q p s d h; exact d.elim
  | handled o k ih => intro Q p s d h; rw [Sem.wp] at h ⊢; exact ih _ Q p s (d _) h
  | newGen c k ih => intro Q p s d h; exact d.elim
  | genState g k ih => intro Q p s d h; exact d.elim
  | resume g r l k ih => intro Q p s d h; exact d.elim
  | yield v g l k ih => intro Q p s d h; exact d.elim
  | stack k ih => intro Q p s d h; rw [Sem.wp] at h ⊢; exact ih _ Q p s (d _) h
  | fork c k ih => intro Q p s d h; exact d.elim
  | thread k ih => intro Q p s d h; rw [Sem.wp] at h ⊢; exact ih _ Q p s (d _) h
  | await a f d l k ih => intro Q p s d h; exact d.elim
theorem dkeeps_bind {α β : Type} : ∀ (t : Sem α) (f : α -> Sem β), DKeeps t -> (∀ a, DKeeps (f a)) -> DKeeps (t.bind f) := by
  intro t f
  induction t with
  | pure a => intro _ h; exact h a
  | raise e => intro d _; exact d.elim
  | unsupported _ => intro _ _; trivial
  | finish _ => intro _ _; trivial
  | rule t k ih => intro d h; exact ih () d h
  | «at» p' k ih => intro d h; exact ih () d h
  | load a x k ih => intro d h; exact fun o => ih o (d o) h
  | update a x f k ih => intro d h; exact ⟨d.1, ih () d.2 h⟩
  | alloc o k ih => intro d h; exact fun o => ih o (d o) h
  | loadIfAlive a k ih => intro d h; exact fun o => ih o (d o) h
  | point l k ih => intro d h; exact ih () d h
  | fresh k ih => intro d h; exact fun o => ih o (d o) h
  | ask k ih => intro d h; exact fun o => ih o (d o) h
  | handled o k ih => intro d h; exact fun o => ih o (d o) h
  | stack k ih => intro d h; exact fun o => ih o (d o) h
  | thread k ih => intro d h; exact fun o => ih o (d o) h
  | _ => intro d h; exact d.elim
theorem dk_bind {α β : Type} {t : Sem α} {f : α -> Sem β} (h1 : DKeeps t) (h2 : ∀ a, DKeeps (f a)) : DKeeps (t >>= f) := dkeeps_bind t f h1 h2
theorem dk_pure {α : Type} {a : α} : DKeeps (pure a : Sem α) := trivial
theorem wpAny_samed {α : Type} {M : Model} {A : Around} {t : Sem α} {Q : α -> Shared -> Prop} {E E' : Value -> Shared -> Prop} {s : Shared} (d : DKeeps t) (h : wpAny M A t Q E s) : wpAny M A t (fun a s' => Q a s' /\ DSame s.heap s'.heap) E' s :=
  fun Γ p g => dkeeps_wp t _ p s d (h Γ p g)
theorem dk_uns {α : Type} {w : String} : DKeeps (unsupported w : Sem α) := trivial
theorem dk_load {a : Addr} : DKeeps (load a) := fun _ => trivial
theorem dk_alloc {o : Obj} : DKeeps (alloc o) := fun _ => trivial
theorem dk_stack : DKeeps stack := fun _ => trivial
theorem mapFields_dict {f : Array Value -> Array Value} (o : Obj) : (Obj.mapFields f o).dict = o.dict := by
  unfold Obj.mapFields
  split <;> rfl
theorem dk_update {a : Addr} {f : Obj -> Obj} (h : ∀ o, (f o).dict = o.dict) : DKeeps (update a f) := ⟨h, trivial⟩
theorem dk_fieldsOf {v : Value} : DKeeps (fieldsOf v) := by
  unfold fieldsOf
  repeat (any_goals first | exact dk_pure | exact dk_uns | exact dk_load | exact dk_loadPart | exact dk_alive | exact dk_alloc | exact dk_stack | exact dk_rule | exact dk_point | exact dk_standAt | exact dk_update mapFields_dict | exact dk_updatePart mapFields_dict | exact dk_update (fun _ => rfl) | refine dk_bind ?_ (fun _ => ?_) | split)
theorem dk_field {v : Value} {i : Nat} : DKeeps (field v i) := by
  unfold field
  refine dk_bind dk_fieldsOf fun _ => ?_
  repeat (any_goals first | exact dk_pure | exact dk_uns | exact dk_load | exact dk_loadPart | exact dk_alive | exact dk_alloc | exact dk_stack | exact dk_rule | exact dk_point | exact dk_standAt | exact dk_update mapFields_dict | exact dk_updatePart mapFields_dict | exact dk_update (fun _ => rfl) | refine dk_bind ?_ (fun _ => ?_) | split)
theorem dk_setField {v x : Value} {i : Nat} : DKeeps (setField v i x) := by
  unfold setField
  repeat (any_goals first | exact dk_pure | exact dk_uns | exact dk_load | exact dk_loadPart | exact dk_alive | exact dk_alloc | exact dk_stack | exact dk_rule | exact dk_point | exact dk_standAt | exact dk_update mapFields_dict | exact dk_updatePart mapFields_dict | exact dk_update (fun _ => rfl) | refine dk_bind ?_ (fun _ => ?_) | split)
theorem dk_setFlight {v : Value} {f : Option Addr} : DKeeps (setFlight v f) := by
  unfold setFlight
  refine dk_bind dk_field fun tb => ?_
  split
  · exact dk_setField
  · exact dk_pure
theorem dk_newFields {t : String} {vs : List Value} : DKeeps (newFields t vs) := by
  unfold newFields newObj
  repeat (any_goals first | exact dk_pure | exact dk_uns | exact dk_load | exact dk_loadPart | exact dk_alive | exact dk_alloc | exact dk_stack | exact dk_rule | exact dk_point | exact dk_standAt | exact dk_update mapFields_dict | exact dk_updatePart mapFields_dict | exact dk_update (fun _ => rfl) | refine dk_bind ?_ (fun _ => ?_) | split)
theorem dk_behind {env : Env} {l : List Env} : DKeeps (behindIsImport env l) := by
  unfold behindIsImport
  repeat (any_goals first | exact dk_pure | exact dk_field | refine dk_bind ?_ (fun _ => ?_) | split)
theorem dk_under : DKeeps underTheClaimsCaller := by
  unfold underTheClaimsCaller
  repeat (any_goals first | exact dk_pure | exact dk_uns | exact dk_load | exact dk_loadPart | exact dk_alive | exact dk_alloc | exact dk_stack | exact dk_rule | exact dk_point | exact dk_standAt | exact dk_update mapFields_dict | exact dk_updatePart mapFields_dict | exact dk_update (fun _ => rfl) | refine dk_bind ?_ (fun _ => ?_) | split)
theorem dk_keptBack {env : Env} {b : Bool} {l : List Env} : DKeeps (keptBack env b l) := by
  cases l with
  | nil =>
    unfold keptBack
    repeat (any_goals first | exact dk_pure | exact dk_under | refine dk_bind ?_ (fun _ => ?_) | split)
  | cons c r => exact dk_pure
theorem dk_ready : ∀ l : List Env, DKeeps (readyFrames l)
  | [] => dk_pure
  | env :: outer => by
    unfold readyFrames
    repeat (any_goals first | exact dk_pure | exact dk_uns | exact dk_load | exact dk_behind | exact dk_keptBack | exact dk_ready outer | exact dk_update (fun _ => rfl) | refine dk_bind ?_ (fun _ => ?_) | split)
theorem dk_frameObject : ∀ l : List Env, DKeeps (frameObject l)
  | [] => dk_pure
  | env :: outer => dk_bind (dk_ready _) fun _ => dk_pure
theorem dk_frameOf {env : Env} : DKeeps (PySem.frameOf env) := by
  unfold PySem.frameOf frameEnvs
  repeat (any_goals first | exact dk_pure | exact dk_uns | exact dk_stack | exact dk_frameObject _ | refine dk_bind ?_ (fun _ => ?_) | split)
theorem dk_place {f : Addr} {b : Bool} : DKeeps (entryPlaceOf f b) := by
  unfold entryPlaceOf
  repeat (any_goals first | exact dk_pure | exact dk_uns | exact dk_load | exact dk_loadPart | exact dk_alive | exact dk_alloc | exact dk_stack | exact dk_rule | exact dk_point | exact dk_standAt | exact dk_update mapFields_dict | exact dk_updatePart mapFields_dict | exact dk_update (fun _ => rfl) | refine dk_bind ?_ (fun _ => ?_) | split)
theorem dk_noteFrame {e : Value} {env : Env} : DKeeps (noteFrame e env) := by
  unfold noteFrame EntryCells.newEntry
  repeat (any_goals first | exact dk_pure | exact dk_uns | exact dk_field | exact dk_setField | exact dk_newFields | exact dk_frameOf | exact dk_place | refine dk_bind ?_ (fun _ => ?_) | split)
theorem dk_leaving {e : Value} {env : Env} : DKeeps (leaving env e) := dk_bind dk_noteFrame fun _ => dk_setFlight
end L2
namespace L2
open PySem PySem.Spec PyProof.Rows PySem.W
def DictIs (h : Heap) (ea : Addr) (od : Option Addr) : Prop := ∀ dx, od = some dx -> ∃ o, h.get? ea = some o /\ o.dict = some dx
def CXq (P : Program) (w : World) : CXT := fun outer H s E e s' => ∃ (ea C : Addr) (a0 : Value) (B : Heap) (H' : Hp) (od : Option Addr), e = .ref ea /\ s'.os = s.os /\ AllBare s'.gens /\ Un (frs outer) [] H H' s.heap s'.heap /\ HOk P w H' s'.heap /\
  Heap.FlyingW B outer ea (.ref C) a0 s'.heap /\ (∀ b o, s'.heap.get? b = some o -> ((∃ q, s.heap.get? b = some q) \/ ∃ q, H' b = some q) -> b ∉ frs outer -> B.get? b = some o) /\ DictIs s'.heap ea od /\ E (.ref C) od H'
theorem CXr.q {P : Program} {w : World} {outer : List Env} {H : Hp} {s : Shared} {E : XK} {e : Value} {s' : Shared} (h : CXr P w outer H s E e s') : CXq P w outer H s E e s' := by
  obtain ⟨ea, C, a0, B, H', e1, e2, e3, e4, e5, e6, e7, e8⟩ := h
  exact ⟨ea, C, a0, B, H', none, e1, e2, e3, e4, e5, e6, e7, (fun _ z => by cases z), e8⟩
section
variable {P : Program} {w : World} {K : PySem.W.Frag} {mg : Str -> Option Value} {base : Heap} {N : List Str} {qual : Str} {scope : Scope} {f : Addr} {cd : Value} {A : Around} {outer : List Env} {s0 : Shared} {H0 : Hp} {E : XK}
theorem inv_cx {CX CX' : CXT} {E' : XK} {pins : List (Addr × Obj)} {σ : St} {H : Hp} {s : Shared} (I : Inv (cxOf CX P w K mg base N qual scope f cd A outer s0 H0 E) pins σ H s) : Inv (cxOf CX' P w K mg base N qual scope f cd A outer s0 H0 E') pins σ H s :=
  ⟨⟨I.ok.mod, I.ok.kind, I.ok.glob, I.ok.blt, I.ok.above, I.ok.inj, I.ok.has, I.ok.cab, I.ok.hd, I.ok.frames, I.ok.stk, I.ok.exf, I.ok.bs, I.ok.bsz, I.ok.noex, I.ok.exfs, I.ok.funs, I.ok.frf⟩, I.os, I.bare, I.base, I.loc, I.cell, I.free, I.freeC, I.pin, I.hok, I.len⟩
theorem leave_raiseQ {pins : List (Addr × Obj)} {σ : St} {H : Hp} {s2 : Shared} {h' : Heap} {e C : Addr} {vs : List Value} {E2 : Value -> Shared -> Prop} (I : Inv (cxOf (CXq P w) P w K mg base N qual scope f cd A outer s0 H0 E) pins σ H s2)
    (hx : Heap.MadeExcOf s2.heap h' e (.ref C) vs) (q : E (.ref C) none H) :
    wpAny (model P w) (A.deeper (envOfC qual scope s0.heap.objs.size f cd)) (leaving (envOfC qual scope s0.heap.objs.size f cd) (.ref e)) (fun _ s'' => CXq P w outer H0 s0 E (.ref e) s'') E2 { s2 with heap := h' } :=
  wpAny_mono (leave_raise (inv_cx I) hx q) (fun _ _ z => z.q) fun _ _ z => z
theorem ps_raiseQ {x : Str} {C : Addr} {bm : List Value} {np cpos pos : Pos} {e : Expr} {ta : TA} (hg : Gl (cxOf (CXq P w) P w K mg base N qual scope f cd A outer s0 H0 E) x) (hm : mg x = some (.ref C)) (hc : excB K C bm = true)
    (ha : PA (cxOf (CXq P w) P w K mg base N qual scope f cd A outer s0 H0 E) [e] ta) (hd : (x == ("__debug__" : Str)) = false := by decide)
    (hs : starEach [e] (envOfC qual scope s0.heap.objs.size f cd) = [(false, eval e (envOfC qual scope s0.heap.objs.size f cd))] := by rfl) :
    PS (cxOf (CXq P w) P w K mg base N qual scope f cd A outer s0 H0 E) (.Raise (some (.Call (.Name x np) [e] [] cpos)) none pos) (tRaise C E ta) := by
  intro pins s σ H D I h
  have XA := excAt_of I.mod.kin hc
  obtain ⟨Na, nm, qn, bs, hd', sn, sub, ab, col, dd, k0, k1, k2, k3, k5, mN, e1, e2, e3, e4⟩ := XA.ex
  refine wpAny_Raise_call_subU (mN := mN) (nm := nm) (q := qn) (N := Na) (bs := bs) (bm := bm) (hdct := hd') (sn := sn) (sub := sub) (ab := ab) (col := col) (dd := dd) (k0 := k0) (k1 := k1) (k2 := k2) (k3 := k3) (k5 := k5) F.excBase_ValueError bmVE_value F.excBase_ValueError (e4.hasType bmVE_base) (I.ok.hd rfl) (by show (backTo cpos (starEach [e] (envOfC qual scope s0.heap.objs.size f cd))).any (·.1) = false; rw [hs]; rfl) e3 (ld_glob I hg hm ⟨rfl, ?_⟩ hd)
  have hA := ha cpos pins s σ H _ I h
  show wpAny _ _ (evalArgs (.ref C) true (backTo cpos (starEach [e] (envOfC qual scope s0.heap.objs.size f cd))) []) _ _ _
  have hA' : wpAny (model P w) (A.deeper (envOfC qual scope s0.heap.objs.size f cd)) (spliced (backTo cpos (starEach [e] (envOfC qual scope s0.heap.objs.size f cd)))) _ _ s := hA
  rw [hs] at hA' ⊢
  refine Calls.evalArgs_plain (thn hA' fun us s2 ⟨vs, H2, I2, r2, q2⟩ => ?_)
  refine ⟨rfl, ?_, I2.bk _ _ e1, e2.keeps I2.bk, e4.keeps I2.bk, fun h' ea hx => ?_⟩
  · show us.length <= sizeLine
    rw [<- r2.length]
    exact Nat.le_trans q2.1 (by decide)
  · exact leave_raiseQ I2 hx q2.2
theorem pass_onQ : Passes (CXq P w) (cxOf (CXq P w) P w K mg base N qual scope f cd A outer s0 H0 E) E := by
  intro pins σ H s e s' I hx
  obtain ⟨ea, C, a0, B, H', od, rfl, os, bare, un, hok, fly, kB, di, q⟩ := hx
  have z : wpAny (model P w) (A.deeper (envOfC qual scope s0.heap.objs.size f cd)) (leaving (envOfC qual scope s0.heap.objs.size f cd) (.ref ea)) (fun _ s'' => CXr P w outer H0 s0 (fun c _ H => c = .ref C /\ E c od H) (.ref ea) s'') _ s' :=
    pass_on (E := fun c _ H => c = .ref C /\ E c od H) pins σ H s (.ref ea) s' (inv_cx I) ⟨ea, C, a0, B, H', rfl, os, bare, un, hok, fly, kB, rfl, q⟩
  refine wpAny_mono (wpAny_samed (E' := fun _ _ => False) dk_leaving z) (fun _ s'' ⟨c, ds⟩ => ?_) fun e' s'' c => c.elim
  · obtain ⟨ea', C', a0', B', H'', e1, os', bare', un', hok', fly', kB', e2, q'⟩ := c
    cases e1
    cases e2
    refine ⟨ea, C, a0', B', H'', od, rfl, os', bare', un', hok', fly', kB', fun dx e => ?_, q'⟩
    obtain ⟨o, h1, h2⟩ := di dx e
    obtain ⟨o', h3, _⟩ := fly'.there
    exact ⟨o', h3, (ds.at h1 h3).trans h2⟩
end
structure DefQ (P : Program) (w : World) (K : PySem.W.Frag) (mg : Str -> Option Value) (base : Heap) (k : Nat) (x : Str) (ps : List Str) (sp : Sp) : Prop where
  ex : ∃ f fd, FnOk P w K mg base (CXq P w) k f fd ps sp /\ Binds K fd ps [] /\ mg x = some (.ref f) /\ PySem.W.keepIn K (.ref f) = true
theorem Src.defQ {P : Program} {w : World} {K : PySem.W.Frag} {mg : Str -> Option Value} {base : Heap} {k : Nat} {x : Str} {st : Stmt} {N ps : List Str} {sp : Sp} (S : Src K mg x st ps) (sc : FnScope N ps (defScope st)) (len : ∀ vs H Q E, sp vs H Q E -> vs.length = ps.length)
    (hbody : ∀ (f : Addr) (cdv : Value) (A : Around) (outer : List Env) (s : Shared) (H : Hp) (vs : List V) (Q : VK) (E : XK), Room k (A.deeper (envOfC x (defScope st) s.heap.objs.size f cdv)) -> sp vs H Q E ->
      ∃ t, PSs (cxOf (CXq P w) P w K mg base N x (defScope st) f cdv A outer s H E) (defBody st) t /\ t { nx := fun _ H' => Q .non H', rt := Q } (start N vs) H) : DefQ P w K mg base (k + 1) x ps sp := by
  obtain ⟨f, fd, F, b, m⟩ := S.ex
  obtain ⟨oc, od, kV, doc, pm, an, cdv, ct, osl, e, lk, hcd⟩ := F.ex
  subst e
  exact ⟨f, _, fn_of lk hcd sc len (hbody f cdv), b, m, F.kp⟩
theorem pe_defPQ {P : Program} {w : World} {K : PySem.W.Frag} {mg : Str -> Option Value} {base : Heap} {N : List Str} {qual : Str} {scope : Scope} {f : Addr} {cd : Value} {A : Around} {outer : List Env} {s0 : Shared} {H0 : Hp} {E : XK} {k : Nat} {x : Str} {ps : List Str} {sp : Sp} {e : Expr} {es : List Expr} {t : TA} {p pos : Pos}
    (D : DefQ P w K mg base k x ps sp) (hr : Room k (A.deeper (envOfC qual scope s0.heap.objs.size f cd))) (hg : Gl (cxOf (CXq P w) P w K mg base N qual scope f cd A outer s0 H0 E) x) (ha : PA (cxOf (CXq P w) P w K mg base N qual scope f cd A outer s0 H0 E) (e :: es) t)
    (hdb : (x == ("__debug__" : Str)) = false := by decide) (he : starEach (e :: es) (envOfC qual scope s0.heap.objs.size f cd) = (false, eval e (envOfC qual scope s0.heap.objs.size f cd)) :: starEach es (envOfC qual scope s0.heap.objs.size f cd) := by rfl)
    (hpl : (backTo pos (starEach es (envOfC qual scope s0.heap.objs.size f cd))).any (·.1) = false := by rfl) :
    PE (cxOf (CXq P w) P w K mg base N qual scope f cd A outer s0 H0 E) (.Call (.Name x p) (e :: es) [] pos) (tCall sp [] E t) := by
  obtain ⟨g, fd, F, b, m, kp⟩ := D.ex
  exact pe_call F hr hg m kp b .nil pass_onQ ha hdb he hpl
def ExcObjP (a C : Addr) (od : Option Addr) (h : Heap) : Prop := ∃ (o : Obj) (vs : Array Value), h.get? a = some o /\ o.cls = .ref C /\ o.data = .fields vs /\ ∀ dx, od = some dx -> o.dict = some dx
def excP (a C : Addr) (od : Option Addr) : HO := .ext (ExcObjP a C od)
theorem excP_ok {P : Program} {w : World} {H : Hp} {h : Heap} {a C : Addr} {od : Option Addr} (x : ExcObjP a C od h) : ObjOk P w H h a (excP a C od) := by
  obtain ⟨o, vs, h1, h2, h3, h4⟩ := id x
  exact ⟨x, ⟨o, h1⟩, fun a1 a2 ⟨o', v', e1, e2, e3, e4⟩ k => ⟨o', v', k o' e1, e2, e3, e4⟩⟩
section
variable {X : Cx}
def rIsP (K : PySem.W.Frag) : List V -> Hp -> VK -> Prop := fun xs H Q => ∃ (a C : Addr) (od : Option Addr) (c : V) (u : Value) (b : Bool), xs = [.ref a, c] /\ RelV c u /\ H a = some (excP a C od) /\ ExcK K C /\ kitOne K (.ref C) u = some b /\ Q (.bl b) H
theorem call_isP : CallR X (.builtin "isinstance") (rIsP X.K) := by
  intro pins s σ H xs us Q I r h
  obtain ⟨a, C, od, c, u, b, rfl, rc, ha, Z, e, q⟩ := h
  obtain ⟨v1, v2, rfl, r1, r2⟩ := Vals.two r
  cases r1
  obtain ⟨⟨o, _, hx1, hx2, _⟩, _⟩ := I.hok a _ ha
  have e2 : v2 = u := by
    cases c <;> first
      | exact (show v2 = _ from r2).trans (show u = _ from rc).symm
      | skip
    all_goals (exfalso; obtain ⟨_, rfl⟩ := rc; unfold kitOne kitCls at e; split at e <;> simp_all)
  subst e2
  exact kia_one (kitx_exc Z) I.kIn ⟨o, hx1, hx2⟩ e (by intro z; cases z) fun tk => ⟨.bl b, H, I.tok _, rfl, q⟩
end
section
variable {M : Model} {A : Around} {E : Value -> Shared -> Prop} {s : Shared}
theorem looks_onD {base : Heap} {env : Env} {outer : List Env} {L e : Addr} {cls a0 : Value} {Q : Unit -> Shared -> Prop} (hfr : A.frames = some (env :: outer)) (hf : env.frame = some L) (hfl : Heap.FlyingW base (env :: outer) e cls a0 s.heap)
    (hQ : ∀ h', Heap.HeldW base (env :: outer) e cls a0 L h' -> s.heap.UpToSlots h' -> DSame s.heap h' -> Q () { s with heap := h' }) : wpAny M A (noteFrame (.ref e) env) Q E s :=
  wpAny_mono (wpAny_samed (E := fun _ _ => False) (E' := E) dk_noteFrame (wpAny_looks_onW (Q := fun _ s' => ∃ h', s' = { s with heap := h' } /\ Heap.HeldW base (env :: outer) e cls a0 L h' /\ s.heap.UpToSlots h') hfr hf hfl fun h' a b => ⟨h', rfl, a, b⟩))
    (fun _ s' ⟨⟨h', e, a, b⟩, d⟩ => by subst e; exact hQ h' a b d) fun _ _ x => x
theorem landsD {base : Heap} {l : List Env} {e L : Addr} {cls a0 : Value} {Q : Unit -> Shared -> Prop} (hh : Heap.HeldW base l e cls a0 L s.heap)
    (hQ : ∀ h', Heap.FlyingW base l e cls a0 h' -> s.heap.UpToSlots h' -> DSame s.heap h' -> Q () { s with heap := h' }) : wpAny M A (setFlight (.ref e) none) Q E s :=
  wpAny_mono (wpAny_samed (E := fun _ _ => False) (E' := E) dk_setFlight (wpAny_landsW (Q := fun _ s' => ∃ h', s' = { s with heap := h' } /\ Heap.FlyingW base l e cls a0 h' /\ s.heap.UpToSlots h') hh fun h' a b => ⟨h', rfl, a, b⟩))
    (fun _ s' ⟨⟨h', e, a, b⟩, d⟩ => by subst e; exact hQ h' a b d) fun _ _ x => x
theorem lands_againD {base : Heap} {l : List Env} {e : Addr} {cls a0 : Value} {Q : Unit -> Shared -> Prop} (hh : Heap.FlyingW base l e cls a0 s.heap)
    (hQ : ∀ h', Heap.FlyingW base l e cls a0 h' -> s.heap.UpToSlots h' -> DSame s.heap h' -> Q () { s with heap := h' }) : wpAny M A (setFlight (.ref e) none) Q E s :=
  wpAny_mono (wpAny_samed (E := fun _ _ => False) (E' := E) dk_setFlight (lands_againW (Q := fun _ s' => ∃ h', s' = { s with heap := h' } /\ Heap.FlyingW base l e cls a0 h' /\ s.heap.UpToSlots h') hh fun h' a b => ⟨h', rfl, a, b⟩))
    (fun _ s' ⟨⟨h', e, a, b⟩, d⟩ => by subst e; exact hQ h' a b d) fun _ _ x => x
end
def XPQ (X : Cx) (pins : List (Addr × Obj)) (DX : St -> XK) (e : Value) (s' : Shared) : Prop := ∃ σ H s, Inv X pins σ H s /\ CXq X.prog X.w X.stack H s (DX σ) e s'
def PXQ (X : Cx) (st : Stmt) (t : TSX) : Prop := ∀ (pins : List (Addr × Obj)) (s : Shared) (σ : St) (H : Hp) (D : Ends) (DX : St -> XK), Inv X pins σ H s -> t D DX σ H -> wpAny (model X.prog X.w) X.A (exec st X.env) (SP X pins D) (XPQ X pins DX) s
def PXQs (X : Cx) (st : List Stmt) (t : TSX) : Prop := ∀ (pins : List (Addr × Obj)) (s : Shared) (σ : St) (H : Hp) (D : Ends) (DX : St -> XK), Inv X pins σ H s -> t D DX σ H -> wpAny (model X.prog X.w) X.A (execs st X.env) (SP X pins D) (XPQ X pins DX) s
section
variable {X : Cx}
theorem pxqs_one {st : Stmt} {t : TSX} (h : PXQ X st t) : PXQs X [st] t := by
  intro pins s σ H D DX I ht
  refine wpAny_execs_cons (thn (h pins s σ H D DX I ht) fun f s1 q => ?_)
  cases f with
  | next => exact wpAny_execs_nil q
  | ret v => exact q
  | brk => exact q
  | cont => exact q
theorem run_xq {k : Nat} {x : Str} {ps : List Str} {sp : Sp} {e : Expr} {es : List Expr} {ta : TA} {p pos : Pos} {pins : List (Addr × Obj)} {s : Shared} {σ : St} {H : Hp} {Q : VK} {DX : St -> XK} (D : DefQ X.prog X.w X.K X.mg X.base k x ps sp) (hr : Room k X.A) (hg : Gl X x) (ha : PA X (e :: es) ta) (hxe : ∀ e s, X.xe e s -> False)
    (hdb : (x == ("__debug__" : Str)) = false) (he : starEach (e :: es) X.env = (false, eval e X.env) :: starEach es X.env) (hpl : (backTo pos (starEach es X.env)).any (·.1) = false)
    (I : Inv X pins σ H s) (h : ta σ H fun vs H1 => sp (vs ++ []) H1 Q (DX σ)) : wpAny (model X.prog X.w) X.A (eval (.Call (.Name x p) (e :: es) [] pos) X.env) (EP X pins σ Q) (XPQ X pins DX) s := by
  obtain ⟨f, fd, F, bd, m, kp⟩ := D.ex
  refine wpAny_Call_Name_kw (ld_glob I hg m ?_ hdb)
  refine PySem.W.callWith_K (h₀ := X.base) I.ok.mod.kin kp (wpAny_mono (ha pos pins s σ H _ I h) (fun us s1 ⟨vs, H1, I1, r, q⟩ => ⟨I1.kIn, ?_⟩) fun _ _ z => (hxe _ _ z).elim) he hpl
  have r2 : Vals (vs ++ []) (us ++ []) := r.append .nil
  have hl : (us ++ []).length = ps.length := by rw [<- r2.length]; exact F.len _ _ _ _ q
  refine wpAny_call (codeAny_mono (F.run X.A X.stack s1 H1 ⟨us, []⟩ (us ++ []) (vs ++ []) _ _ hr I1.env0 (bd s1 us I1.kIn hl) r2 q) fun r s' hq => ?_)
  cases r with
  | ok fl =>
    cases fl with
    | ret u => exact I1.after hq
    | next => exact False.elim hq
    | brk => exact False.elim hq
    | cont => exact False.elim hq
  | error ev => exact ⟨σ, H1, s1, I1, hq⟩
theorem pxq_call {k : Nat} {x : Str} {ps : List Str} {sp : Sp} {e : Expr} {es : List Expr} {ta : TA} {p pos epos : Pos} (D : DefQ X.prog X.w X.K X.mg X.base k x ps sp) (hr : Room k X.A) (hg : Gl X x) (ha : PA X (e :: es) ta) (hxe : ∀ e s, X.xe e s -> False)
    (hdb : (x == ("__debug__" : Str)) = false := by decide) (he : starEach (e :: es) X.env = (false, eval e X.env) :: starEach es X.env := by rfl) (hpl : (backTo pos (starEach es X.env)).any (·.1) = false := by rfl)
    (hs : swapsWith (.Call (.Name x p) (e :: es) [] pos) none epos.line X.env = pure false := by rfl) : PXQ X (.Expr (.Call (.Name x p) (e :: es) [] pos) epos) (xCall sp ta) := by
  intro pins s σ H D0 DX I h
  exact wpAny_Expr_any (thn (run_xq D hr hg ha hxe hdb he hpl I h) fun v s1 ⟨x, H1, I1, r1, q1⟩ => ⟨σ, H1, I1, q1⟩) I.quiet hs
def tTryQ (K : Frag) (tbody : TSX) (i : Nat) (W : Addr) (tb : TS) : TS := fun D σ H => tbody D (fun σ1 c od H2 => ∃ C, c = .ref C /\ subIn K (.ref C) (.ref W) = some true /\
  ∀ ea, H2 ea = none -> tb { D with nx := fun σ' H' => D.nx (σ'.set i none) H', bk := fun _ _ => False, ct := fun _ _ => False } (σ1.set i (some (.ref ea))) (upd H2 ea (excP ea C od))) σ H
theorem ps_tryQ {i : Nat} {cx n : Str} {tbody : TSX} {body : List Stmt} {tb : TS} {b0 : Stmt} {suite : List Stmt} {W : Addr} {bmW : List Value} {np hpos tpos : Pos} (hgc : Gl X cx) (hmc : X.mg cx = some (.ref W)) (hW : excB X.K W bmW = true) (hN : X.N.Nodup) (hi : X.N[i]? = some n) (hlo : X.env.scope.names.lookup n = some .local)
    (hbody : PXQs X body tbody) (hb : ∀ v, PSs (X.marked v) (b0 :: suite) tb) (hst : X.stack = X.env :: X.outer) (hfr : X.env.frame = some X.env.locals) (hdc : (cx == ("__debug__" : Str)) = false := by decide) :
    PS X (.Try body [.ExceptHandler (some (.Name cx np)) (some n) (b0 :: suite) hpos] [] [] tpos) (tTryQ X.K tbody i W tb) := by
  intro pins s σ H D0 I0 h
  refine wpAny_Try_except (wpAny_mono (hbody pins s σ H D0 _ I0 h) (fun fl s1 q => ?_) fun ev s' hx => ?_)
  · cases fl with
    | next => exact wpAny_execs_nil q
    | ret v => exact q
    | brk => exact q
    | cont => exact q
  · obtain ⟨σ1, H1, s1, I1, ea, C, a0, B, H', od, rfl, os, bare, un, hok, fly, kB, di, C', eC, sb, tq⟩ := hx
    cases eC
    have inv : ∀ h', B.StaysIn h' -> s'.heap.UpToSlots h' -> Inv X pins σ1 H' { s' with heap := h' } := fun h' a b => caught_inv I1 os bare un hok fly.2.2.1 kB a b
    obtain ⟨oe, ve, _, _, _, heo, ⟨_, _⟩, hdo, _⟩ := fly.2.2.2
    have nfr : ea ∉ frs X.stack := fun hm => frames_nf fly.2.2.1 hm heo ve hdo
    have fresh1 : s1.heap.get? ea = none := by
      cases z : s1.heap.get? ea with
      | none => rfl
      | some q1 =>
        have := kB ea oe heo (.inl ⟨q1, z⟩) nfr
        rw [fly.2.1] at this
        cases this
    have freshH : H' ea = none := by
      cases z : H' ea with
      | none => rfl
      | some q1 =>
        have := kB ea oe heo (.inr ⟨q1, z⟩) nfr
        rw [fly.2.1] at this
        cases this
    have hA : X.A.frames = some (X.env :: X.outer) := by rw [<- hst]; exact I1.ok.frames
    have fly' := fly
    rw [hst] at fly'
    refine looks_onD hA hfr fly' fun h4 held4 up4 ds4 => ?_
    refine landsD held4 fun h5 fly5 up5 ds5 => ?_
    have up45 := up4.trans up5
    have J5 := inv h5 fly5.1 up45
    refine wpAny_handleBy_cons (codeAny_handlers_test ?_) (by intro z; cases z)
    refine ld_glob (X := X.marked (.ref ea)) (Inv.mark J5) hgc hmc ?_ hdc
    obtain ⟨oe5, he5, hc5⟩ := fly5.there
    refine xc_matches J5.kIn hW sb he5 hc5 ?_
    refine codeAny_handlers_suite_as ?_
    refine lands_againD fly5 fun h6 fly6 up6 ds6 => ?_
    have J6 := inv h6 fly6.1 (up45.trans up6)
    obtain ⟨oe6, he6, hc6⟩ := fly6.there
    obtain ⟨oe6', ve6, _, _, _, he6', _, hd6, _⟩ := fly6.2.2.2
    rw [he6] at he6'
    cases he6'
    have gone : ∀ b o, s1.heap.get? b = some o -> b ≠ ea := fun b o z q => by rw [q, fresh1] at z; cases z
    have J7 : Inv X pins σ1 (upd H' ea (excP ea C od)) { s' with heap := h6 } := by
      refine J6.track freshH (excP_ok ⟨oe6, ve6, he6, hc6, hd6, fun dx e => (by obtain ⟨o, h1, h2⟩ := di dx e; exact (((ds4.trans ds5).trans ds6).at h1 he6).trans h2)⟩) ?_ ?_ ?_ ?_
      · obtain ⟨_, ⟨o, _, _, z, _⟩, _⟩ := I1.loc
        exact Ne.symm (gone _ o z)
      · intro y c z
        obtain ⟨_, o, z2, _⟩ := I1.cell y c z
        exact gone _ o z2
      · intro p0 hp0
        exact gone _ _ (I1.pin p0 hp0).1
      · intro b u z hx
        obtain ⟨o', z2⟩ := I1.base.there b u z hx
        exact gone _ o' z2
    refine store_ok J7 hN hi (.inl hlo) (show RelV (.ref ea) (.ref ea) from rfl) (fun s8 J8 => ?_) (.inr hlo)
    refine wpAny_mono (hb (.ref ea) pins s8 _ _ _ (Inv.mark J8) (tq ea freshH)) (fun fl s9 q9 => ?_) fun _ _ z => z.elim
    cases fl with
    | next =>
      obtain ⟨σ9, H9, J9, q⟩ := q9
      exact unbind_ok (X := X) (Inv.unmark J9 I1.ok.hd) hN hi hlo fun s10 J10 => ⟨_, H9, J10, q⟩
    | ret u =>
      obtain ⟨v, σ9, H9, J9, r9, q⟩ := q9
      exact unbind_ok (X := X) (Inv.unmark J9 I1.ok.hd) hN hi hlo fun s10 J10 => ⟨v, _, H9, J10, r9, q⟩
    | brk =>
      obtain ⟨_, _, _, q⟩ := q9
      exact False.elim q
    | cont =>
      obtain ⟨_, _, _, q⟩ := q9
      exact False.elim q
end
end L2
namespace L2
open PySem PySem.Spec PyProof.Rows PySem.W
section
variable {K : Frag} {prog : Program} {w : World} {A : Around} {E : Value -> Shared -> Prop} {h : Heap} {g : Array GenState} {d : Drawn} {t : Nat} {os : OsState} {a C dx : Addr} {vs : Array Value} {sl : Array (Option Value)} {f : Str} {v : Value} {mA : Str -> Option Value} {cc : Value} {cdd : Option Addr} {cd : ClassData} {csl : Array (Option Value)}
end
section
variable {X : Cx} {e : Expr} {f : Str} {pos : Pos} {ta : TE}
end
end L2
namespace L2
open PySem PySem.Spec PyProof.Rows PySem.W
section
variable {K : Frag} {prog : Program} {w : World} {A : Around} {E : Value -> Shared -> Prop} {h : Heap} {g : Array GenState} {d : Drawn} {t : Nat} {os : OsState} {C fI : Addr} {oI : Obj} {bm : List Value}
end
end L2
namespace L2
open PySem PySem.Spec PyProof.Rows PySem.W PySem.Builtin PySem.Builtin.ObjectAttr
section
variable {K : Frag} {prog : Program} {w : World} {A : Around} {E : Value -> Shared -> Prop} {s : Shared} {a C : Addr} {vs : Array Value} {f : Str} {v : Value}
end
end L2
namespace L2
open PySem PySem.Spec PyProof.Rows PySem.W
section
variable {K : Frag} {prog : Program} {w : World} {A : Around} {E : Value -> Shared -> Prop} {h : Heap} {g : Array GenState} {d : Drawn} {t : Nat} {os : OsState} {e C : Addr} {bm : List Value}
end
section
variable {X : Cx}
end
end L2
namespace L2
open PySem PySem.Spec PyProof.Rows PySem.W
section
variable {P : Program} {w : World} {K : PySem.W.Frag} {mg : Str -> Option Value} {base : Heap} {N : List Str} {qual : Str} {scope : Scope} {f : Addr} {cd : Value} {A : Around} {outer : List Env} {s0 : Shared} {H0 : Hp} {E : XK}
end
section
variable {M : Model} {A : Around} {E : Value -> Shared -> Prop} {env : Env} {K : Frag} {C : Addr} {bm : List Value}
end
end L2
namespace L2
open PySem PySem.Spec PyProof.Rows PySem.W
section
variable {P : Program} {w : World} {K : PySem.W.Frag} {mg : Str -> Option Value} {base : Heap} {N : List Str} {qual : Str} {scope : Scope} {f : Addr} {cd : Value} {A : Around} {outer : List Env} {s0 : Shared} {H0 : Hp} {E : XK}
end
end L2
namespace L2
open PySem PySem.Spec PyProof.Rows
section
variable {prog : Program} {w : World} {A : Around} {R : Result -> Shared -> Prop} {s : Shared}
end
section
variable {X : Cx} {scope : Scope} {N' : List Str} {fr : List (Option Nat)} {pins : List (Addr × Obj)} {σ : St} {H : Hp} {s : Shared} {fp : List Addr} {it : Addr} {tn : Nat -> Heap -> Prop} {J : It}
  {elt tg iter : Expr} {ifs : List Expr} {g : TG} {tt : TT} {te : TE} {pos : Pos} {fin : List V -> Hp -> Prop} {W : Nat -> Nat -> List V -> St -> Hp -> Prop} {RR : Value -> Addr -> Result -> Shared -> Prop} {E : Value -> Shared -> Prop}
end
section
variable {M : Model} {A : Around} {E : Value -> Shared -> Prop} {s : Shared}
end
section
variable {P : Program} {w : World} {K : PySem.W.Frag} {mg : Str -> Option Value} {base : Heap} {N : List Str} {qual : Str} {scope0 : Scope} {f : Addr} {cd : Value} {A : Around} {outer : List Env} {s0 : Shared} {H0 : Hp} {E : XK}
variable {scope : Scope} {N' : List Str} {fr : List (Option Nat)} {elt tg iter : Expr} {ifs : List Expr} {g : TG} {tt : TT} {te : TE} {pos : Pos}
end
end L2
namespace L2
open PySem PySem.Spec PyProof.Rows PySem.Builtin PySem.Builtin.Str
section
variable {X : Cx}
end
end L2
namespace L2
open PySem PySem.Spec PyProof.Rows
section
variable {X : Cx}
end
section
variable {X : Cx} {pins : List (Addr × Obj)} {σ : St} {H : Hp} {s : Shared} {d : Addr} {kvs : TTab}
end
section
variable {X : Cx} {o : Expr} {to : TE} {apos cpos : Pos}
end
end L2
namespace L2
open PySem PySem.Spec PyProof.Rows PySem.W
section
variable {P : Program} {w : World} {K : PySem.W.Frag} {mg : Str -> Option Value} {base : Heap} {k : Nat} {x : Str} {ps : List Str} {sp : Sp}
end
section
variable {X : Cx}
def rIsPs (K : PySem.W.Frag) : List V -> Hp -> VK -> Prop := fun xs H Q => ∃ (a C p : Addr) (od : Option Addr) (cs : List V) (b : Bool), xs = [.ref a, .ref p] /\ SqT K H p cs /\ H a = some (excP a C od) /\ ExcK K C /\ (∀ us, Vals cs us -> PySem.W.kitAny K (.ref C) us = some b) /\ Q (.bl b) H
theorem call_isPs : CallR X (.builtin "isinstance") (rIsPs X.K) := by
  intro pins s σ H xs us Q I r h
  obtain ⟨a, C, p, od, cs, b, rfl, hp, ha, Z, e, q⟩ := h
  obtain ⟨v1, v2, rfl, r1, r2⟩ := Vals.two r
  cases (show v1 = Value.ref a from r1)
  cases (show v2 = Value.ref p from r2)
  obtain ⟨⟨ob, _, hx1, hx2, _⟩, _⟩ := I.hok a _ ha
  obtain ⟨its, rv, ⟨o, ho, hc, n, hd⟩, _⟩ := I.tuple hp
  obtain ⟨oc, od', dt, sl⟩ := o
  have e1 : oc = .type "tuple" := hc
  have e2 : dt = .seq its.toArray n := hd
  subst e1 e2
  exact PySem.W.kia_tup (kitx_exc Z) I.kIn ⟨ob, hx1, hx2⟩ ho (e its rv) (by intro z; cases z) fun tk => ⟨.bl b, H, I.tok _, rfl, q⟩
end
end L2
namespace L2
open PySem PySem.Spec PyProof.Rows
section
variable {X : Cx}
end
section
variable {P : Program} {w : World} {K : PySem.W.Frag} {mg : Str -> Option Value} {base : Heap} {k : Nat} {x : Str} {ps : List Str} {sp : Sp}
end
end L2
namespace L2
open PySem PySem.Spec PyProof.Rows PySem.W
section
variable {X : Cx}
end
end L2
namespace L2
open PySem PySem.Spec PyProof.Rows
section
variable {prog : Program} {w : World} {A : Around} {E : Value -> Shared -> Prop} {s : Shared} {a : Addr} {led : Bool} {ns : List Int}
end
--T3
section
variable {prog : Program} {w : World} {A : Around} {R : Result -> Shared -> Prop} {I : Addr} {fp wr : List Addr} {G : Array GenState -> Array GenState -> Prop} {n : Nat} {P : Nat -> Value -> Prop} {St : Nat -> Shared -> Prop}
end
section
variable {prog : Program} {w : World} {A : Around} {E : Value -> Shared -> Prop} {s : Shared}
end
section
variable {prog : Program} {w : World} {A : Around} {E : Value -> Shared -> Prop} {s : Shared} {a : Addr}
end
section
variable {X : Cx}
end
end L2
namespace L2
open PySem PySem.Spec PyProof.Rows PySem.W
section
variable {P : Program} {w : World} {K : PySem.W.Frag} {mg : Str -> Option Value} {base : Heap} {k : Nat} {x : Str} {ps : List Str} {sp : Sp}
end
end L2
namespace My
open PySem L2
def top (i : Nat) : Stmt := PySem.Challenge.pw_manycounts_k56_corners.main.body.getD i (.Pass ⟨0, 0, 0, 0⟩)
abbrev sIsWhole : Stmt := top 18
abbrev sWithin : Stmt := top 19
abbrev sNoPt : Stmt := top 21
abbrev sCorner : Stmt := top 23
abbrev sTable : Stmt := top 24
abbrev sWoP : Stmt := top 25
abbrev sDet : Stmt := top 26
abbrev sAt : Stmt := top 28
abbrev sWeb : Stmt := top 29
abbrev sLRank : Stmt := top 30
abbrev sPick : Stmt := top 31
abbrev sCount : Stmt := top 32
abbrev sThing : Stmt := top 33
abbrev sRefused : Stmt := top 34
abbrev sCorners : Stmt := top 35
abbrev sLaw : Stmt := top 36
def TieAt (H : Hp) (v : V) (p : Int × Int) : Prop := ∃ a, v = .ref a /\ H a = some (.tup [.int p.1, .int p.2])
theorem TieAt.same {H H' : Hp} {v : V} {p : Int × Int} (h : TieAt H v p) (e : Same H H') : TieAt H' v p := let ⟨a, h1, h2⟩ := h; ⟨a, h1, e _ _ h2⟩
theorem ties_same {H H' : Hp} {xs : List V} {ps : List (Int × Int)} (h : Paired (TieAt H) xs ps) (e : Same H H') : Paired (TieAt H') xs ps := L2.Paired.mapP h fun _ _ q => q.same e
def norm (p : Int × Int) : Int × Int := if p.1 <= p.2 then (p.1, p.2) else (p.2, p.1)
structure WebAt (H : Hp) (w : V) (n : Int) (ps : List (Int × Int)) : Prop where
  ex : ∃ c d xs, w = .ref c /\ H c = some (.tup [.int n, .ref d]) /\ H d = some (.tup xs) /\ Paired (TieAt H) xs ps
theorem WebAt.same {H H' : Hp} {w : V} {n : Int} {ps : List (Int × Int)} (h : WebAt H w n ps) (e : Same H H') : WebAt H' w n ps := by
  obtain ⟨c, d, xs, h1, h2, h3, h4⟩ := h.ex
  exact ⟨c, d, xs, h1, e _ _ h2, e _ _ h3, ties_same h4 e⟩
structure Txt (K : W.Frag) (mg : Str -> Option Value) : Prop where
  isi : mg "isinstance" = none
  int : mg "int" = none
  bool : mg "bool" = none
  len : mg "len" = none
  tuple : mg "tuple" = none
  all : mg "all" = none
  list : mg "list" = none
  min : mg "min" = none
  max : mg "max" = none
  range : mg "range" = none
  set : mg "set" = none
  sorted : mg "sorted" = none
theorem boot_isi : bootBuiltins "isinstance" = some (.builtin "isinstance") := by first | rfl | decide +kernel
theorem boot_int' : bootBuiltins "int" = some (.type "int") := by first | rfl | decide +kernel
theorem boot_bool' : bootBuiltins "bool" = some (.type "bool") := by first | rfl | decide +kernel
theorem boot_tuple' : bootBuiltins "tuple" = some (.type "tuple") := by first | rfl | decide +kernel
theorem boot_list' : bootBuiltins "list" = some (.type "list") := by first | rfl | decide +kernel
theorem boot_min' : bootBuiltins "min" = some (.builtin "min") := by first | rfl | decide +kernel
theorem boot_max' : bootBuiltins "max" = some (.builtin "max") := by first | rfl | decide +kernel
def InN (n : Int) (p : Int × Int) : Prop := 0 <= p.1 /\ p.1 < n /\ 0 <= p.2 /\ p.2 < n
theorem mod_in (a n : Int) (h : 0 < n) : 0 <= a % n /\ a % n < n := ⟨Int.emod_nonneg _ (by lia), Int.emod_lt_of_pos _ h⟩
def ups (n : Int) : List Int := (List.range n.toNat).map fun (i : Nat) => (i : Int)
theorem upN_ups (n : Nat) : upN n = (ups n).map V.int := by
  unfold upN ups
  rw [List.map_map, Int.toNat_natCast]
  rfl
def at0 (l : List Int) (i : Int) : Int := l.getD i.toNat 0
def stepH (hs : List Int) (p : Int × Int) : List Int :=
  hs.map fun h => if h = (if at0 hs p.2 > at0 hs p.1 then at0 hs p.2 else at0 hs p.1) then (if at0 hs p.2 < at0 hs p.1 then at0 hs p.2 else at0 hs p.1) else h
def tieN (ps : List (Int × Int)) (k : Int) : Int × Int := ps.getD k.toNat (0, 0)
def hdF (ps : List (Int × Int)) (hs : List Int) (ks : List Int) : List Int := ks.foldl (fun hs k => stepH hs (tieN ps k)) hs
def stepM (st : List Int × Int) (p : Int × Int) : List Int × Int :=
  if at0 st.1 p.1 = at0 st.1 p.2 then st else (st.1.map fun m => if m = at0 st.1 p.2 then at0 st.1 p.1 else m, st.2 + 1)
def rkF (ps : List (Int × Int)) (st : List Int × Int) (ks : List Int) : List Int × Int := ks.foldl (fun st k => stepM st (tieN ps k)) st
def rk (n : Int) (ps : List (Int × Int)) (ks : List Int) : Int := (rkF ps (ups n, 0) ks).2
theorem dcr_merge (u v : Int) (huv : u ≠ v) : ∀ l : List Int, dcr (l.map fun x => if x = v then u else x) + (if u ∈ l /\ v ∈ l then 1 else 0) = dcr l
  | [] => by simp [dcr]
  | x :: xs => by
    have ih := dcr_merge u v huv xs
    have mem : ∀ z, z ≠ v -> (z ∈ xs.map (fun x => if x = v then u else x) ↔ z ∈ xs \/ (z = u /\ v ∈ xs)) := by
      intro z hz
      rw [List.mem_map]
      constructor
      · rintro ⟨y, hy, e⟩
        by_cases hyv : y = v
        · rw [if_pos hyv] at e
          exact .inr ⟨e.symm, hyv ▸ hy⟩
        · rw [if_neg hyv] at e
          exact .inl (e ▸ hy)
      · rintro (h | ⟨rfl, h⟩)
        · exact ⟨z, h, if_neg hz⟩
        · exact ⟨v, h, if_pos rfl⟩
    rw [List.map_cons]
    show dcr (xs.map fun x => if x = v then u else x) + (if (if x = v then u else x) ∈ xs.map (fun x => if x = v then u else x) then 0 else 1) + _ = dcr xs + if x ∈ xs then 0 else 1
    generalize hd : dcr (xs.map fun x => if x = v then u else x) = d at ih
    generalize hd2 : dcr xs = d2 at ih
    by_cases hxv : x = v
    · subst hxv
      rw [if_pos rfl]
      have m := mem u huv
      by_cases h1 : u ∈ xs <;> by_cases h2 : x ∈ xs <;> simp [m, h1, h2, huv] at ih ⊢ <;> lia
    · rw [if_neg hxv]
      have m := mem x hxv
      by_cases hxu : x = u
      · subst hxu
        by_cases h1 : x ∈ xs <;> by_cases h2 : v ∈ xs <;> simp [m, h1, h2, Ne.symm huv] at ih ⊢ <;> lia
      · have e1 : ¬ (u = x) := fun z => hxu z.symm
        have e2 : ¬ (v = x) := fun z => hxv z.symm
        by_cases h1 : u ∈ xs <;> by_cases h2 : v ∈ xs <;> by_cases h3 : x ∈ xs <;> simp [m, h1, h2, h3, e1, e2, hxu] at ih ⊢ <;> lia
theorem dcount_merge {u v : Int} (huv : u ≠ v) {l : List Int} (h1 : u ∈ l) (h2 : v ∈ l) : dcount (l.map fun x => if x = v then u else x) + 1 = dcount l := by
  unfold dcount
  rw [<- List.map_reverse]
  have := dcr_merge u v huv l.reverse
  rw [if_pos ⟨List.mem_reverse.mpr h1, List.mem_reverse.mpr h2⟩] at this
  exact this
def Rel (n : Nat) (hs ms : List Int) : Prop := ∀ i j, i < n -> j < n -> (hs.getD i 0 = hs.getD j 0 ↔ ms.getD i 0 = ms.getD j 0)
theorem getD_map {l : List Int} {f : Int -> Int} {i : Nat} (h : i < l.length) : (l.map f).getD i 0 = f (l.getD i 0) := by simp [List.getD, h]
theorem getD_mem {l : List Int} {i : Nat} (h : i < l.length) : l.getD i 0 ∈ l := by simp [List.getD, h]
theorem stepH_same {hs : List Int} {p : Int × Int} (h : at0 hs p.1 = at0 hs p.2) : stepH hs p = hs := by
  unfold stepH
  rw [h]
  have e : (fun x : Int => if x = (if at0 hs p.2 > at0 hs p.2 then at0 hs p.2 else at0 hs p.2) then (if at0 hs p.2 < at0 hs p.2 then at0 hs p.2 else at0 hs p.2) else x) = id := by
    funext x
    show _ = x
    split <;> simp_all
  rw [e, List.map_id]
theorem stepH_ne {hs : List Int} {p : Int × Int} (h : at0 hs p.1 ≠ at0 hs p.2) : ∃ u v, u ≠ v /\ stepH hs p = hs.map (fun x => if x = v then u else x) /\ ((u = at0 hs p.1 /\ v = at0 hs p.2) \/ (u = at0 hs p.2 /\ v = at0 hs p.1)) := by
  unfold stepH
  by_cases hlt : at0 hs p.2 < at0 hs p.1
  · refine ⟨at0 hs p.2, at0 hs p.1, fun z => h z.symm, ?_, .inr ⟨rfl, rfl⟩⟩
    rw [if_neg (by lia), if_pos hlt]
  · have : at0 hs p.2 > at0 hs p.1 := by lia
    refine ⟨at0 hs p.1, at0 hs p.2, h, ?_, .inl ⟨rfl, rfl⟩⟩
    rw [if_pos this, if_neg hlt]
theorem norm_cases (p : Int × Int) : (norm p).1 = p.1 /\ (norm p).2 = p.2 \/ (norm p).1 = p.2 /\ (norm p).2 = p.1 := by
  unfold norm
  split
  · exact .inl ⟨rfl, rfl⟩
  · exact .inr ⟨rfl, rfl⟩
theorem merge_eq {u v x y : Int} (huv : u ≠ v) : ((if x = v then u else x) = (if y = v then u else y)) ↔ (x = y \/ ((x = u \/ x = v) /\ (y = u \/ y = v))) := by
  split <;> split <;> lia
theorem step_inv {n : Nat} {hs ms : List Int} {c : Int} {p : Int × Int} (lh : hs.length = n) (lm : ms.length = n) (R : Rel n hs ms) (hc : c + (dcount hs : Int) = n) (hp : InN n p) :
    (stepH hs (norm p)).length = n /\ (stepM (ms, c) p).1.length = n /\ Rel n (stepH hs (norm p)) (stepM (ms, c) p).1 /\ (stepM (ms, c) p).2 + (dcount (stepH hs (norm p)) : Int) = n := by
  obtain ⟨p1, p2, p3, p4⟩ := hp
  have a1 : p.1.toNat < n := by lia
  have a2 : p.2.toNat < n := by lia
  have r12 := R p.1.toNat p.2.toNat a1 a2
  have swap : at0 hs (norm p).1 = at0 hs (norm p).2 ↔ at0 hs p.1 = at0 hs p.2 := by
    rcases norm_cases p with ⟨e1, e2⟩ | ⟨e1, e2⟩ <;> rw [e1, e2]
    exact eq_comm
  by_cases he : at0 hs p.1 = at0 hs p.2
  · have em : at0 ms p.1 = at0 ms p.2 := r12.mp he
    have e1 : stepH hs (norm p) = hs := stepH_same (swap.mpr he)
    have e2 : stepM (ms, c) p = (ms, c) := by unfold stepM; exact if_pos em
    rw [e1, e2]
    exact ⟨lh, lm, R, hc⟩
  · have em : ¬ at0 ms p.1 = at0 ms p.2 := fun z => he (r12.mpr z)
    have e2 : stepM (ms, c) p = (ms.map (fun m => if m = at0 ms p.2 then at0 ms p.1 else m), c + 1) := by unfold stepM; exact if_neg em
    obtain ⟨u, v, huv, e1, hu⟩ := stepH_ne (hs := hs) (p := norm p) (fun z => he (swap.mp z))
    have hu' : (u = at0 hs p.1 /\ v = at0 hs p.2) \/ (u = at0 hs p.2 /\ v = at0 hs p.1) := by
      rcases norm_cases p with ⟨f1, f2⟩ | ⟨f1, f2⟩ <;> rw [f1, f2] at hu
      · exact hu
      · exact hu.symm
    have m1 : at0 hs p.1 ∈ hs := getD_mem (by lia)
    have m2 : at0 hs p.2 ∈ hs := getD_mem (by lia)
    have mu : u ∈ hs := by rcases hu' with ⟨z, _⟩ | ⟨z, _⟩ <;> rw [z] <;> assumption
    have mv : v ∈ hs := by rcases hu' with ⟨_, z⟩ | ⟨_, z⟩ <;> rw [z] <;> assumption
    rw [e1, e2]
    refine ⟨by rw [List.length_map]; exact lh, by rw [List.length_map]; exact lm, fun i j hi hj => ?_, ?_⟩
    · rw [getD_map (by lia), getD_map (by lia), getD_map (by lia), getD_map (by lia), merge_eq huv, merge_eq em]
      have ri := R i p.1.toNat hi a1
      have ri2 := R i p.2.toNat hi a2
      have rj := R j p.1.toNat hj a1
      have rj2 := R j p.2.toNat hj a2
      have rij := R i j hi hj
      have ti : (hs.getD i 0 = u \/ hs.getD i 0 = v) ↔ (ms.getD i 0 = at0 ms p.1 \/ ms.getD i 0 = at0 ms p.2) := by
        rcases hu' with ⟨z1, z2⟩ | ⟨z1, z2⟩
        · rw [z1, z2]; exact or_congr ri ri2
        · rw [z1, z2]; exact (or_congr ri2 ri).trans or_comm
      have tj : (hs.getD j 0 = u \/ hs.getD j 0 = v) ↔ (ms.getD j 0 = at0 ms p.1 \/ ms.getD j 0 = at0 ms p.2) := by
        rcases hu' with ⟨z1, z2⟩ | ⟨z1, z2⟩
        · rw [z1, z2]; exact or_congr rj rj2
        · rw [z1, z2]; exact (or_congr rj2 rj).trans or_comm
      exact or_congr rij (and_congr ti tj)
    · have := dcount_merge huv mu mv
      show c + 1 + (dcount (hs.map fun x => if x = v then u else x) : Int) = n
      lia
theorem tieN_in {n : Int} {ps : List (Int × Int)} {k : Int} (hb : ∀ p ∈ ps, InN n p) (k0 : 0 <= k) (kl : k < ps.length) : InN n (tieN ps k) := by
  have : k.toNat < ps.length := by lia
  unfold tieN
  refine hb _ ?_
  simp [List.getD, this]
theorem tieN_norm {ps : List (Int × Int)} {k : Int} (k0 : 0 <= k) (kl : k < ps.length) : tieN (ps.map norm) k = norm (tieN ps k) := by
  have : k.toNat < ps.length := by lia
  unfold tieN
  simp [List.getD, this]
theorem run_inv {n : Nat} {ps : List (Int × Int)} (hb : ∀ p ∈ ps, InN n p) : ∀ (ks : List Int), (∀ k ∈ ks, 0 <= k /\ k < ps.length) -> ∀ (hs ms : List Int) (c : Int), hs.length = n -> ms.length = n -> Rel n hs ms -> c + (dcount hs : Int) = n ->
    (rkF ps (ms, c) ks).2 + (dcount (hdF (ps.map norm) hs ks) : Int) = n
  | [], _, hs, ms, c, _, _, _, hc => hc
  | k :: ks, hk, hs, ms, c, lh, lm, R, hc => by
    obtain ⟨k0, kl⟩ := hk k List.mem_cons_self
    obtain ⟨s1, s2, s3, s4⟩ := step_inv lh lm R hc (tieN_in hb k0 kl)
    have := run_inv hb ks (fun j hj => hk j (List.mem_cons_of_mem _ hj)) _ _ _ s1 s2 s3 s4
    rw [<- tieN_norm k0 kl] at this
    exact this
theorem ups_len (n : Int) : (ups n).length = n.toNat := by unfold ups; simp
theorem nine {n : Int} (h1 : 1 <= n) (h9 : n <= 9) : n = 1 \/ n = 2 \/ n = 3 \/ n = 4 \/ n = 5 \/ n = 6 \/ n = 7 \/ n = 8 \/ n = 9 := by lia
theorem ups_dc {n : Int} (h1 : 1 <= n) (h9 : n <= 9) : (dcount (ups n) : Int) = n := by
  rcases nine h1 h9 with rfl | rfl | rfl | rfl | rfl | rfl | rfl | rfl | rfl <;> decide +kernel
theorem rank_eq {n : Int} {ps : List (Int × Int)} {ks : List Int} (h1 : 1 <= n) (h9 : n <= 9) (hb : ∀ p ∈ ps, InN n p) (hk : ∀ k ∈ ks, 0 <= k /\ k < ps.length) : n - (dcount (hdF (ps.map norm) (ups n) ks) : Int) = rk n ps ks := by
  have e : ((n.toNat : Nat) : Int) = n := by lia
  have := run_inv (n := n.toNat) (ps := ps) (by rw [e]; exact hb) ks hk (ups n) (ups n) 0 (ups_len n) (ups_len n) (fun i j _ _ => Iff.rfl) (by rw [ups_dc h1 h9]; lia)
  unfold rk
  lia
theorem stepH_len (hs : List Int) (p : Int × Int) : (stepH hs p).length = hs.length := by unfold stepH; simp
theorem rkF_snoc (ps : List (Int × Int)) (st : List Int × Int) (ks : List Int) (k : Int) : rkF ps st (ks ++ [k]) = stepM (rkF ps st ks) (tieN ps k) := by unfold rkF; rw [List.foldl_append]; rfl
theorem hdF_len (ps : List (Int × Int)) : ∀ (ks hs : List Int), (hdF ps hs ks).length = hs.length
  | [], _ => rfl
  | k :: ks, hs => by
    show (hdF ps (stepH hs (tieN ps k)) ks).length = _
    rw [hdF_len ps ks, stepH_len]
theorem stepM_len (st : List Int × Int) (p : Int × Int) : (stepM st p).1.length = st.1.length := by unfold stepM; split <;> simp
theorem rkF_len (ps : List (Int × Int)) : ∀ (ks : List Int) (st : List Int × Int), (rkF ps st ks).1.length = st.1.length
  | [], _ => rfl
  | k :: ks, st => by
    show (rkF ps (stepM st (tieN ps k)) ks).1.length = _
    rw [rkF_len ps ks, stepM_len]
def Ks (m : Nat) (ks : List Int) : Prop := ∀ k ∈ ks, 0 <= k /\ k < (m : Int)
theorem at_mem {l : List Int} {i : Int} (h0 : 0 <= i) (h : i < l.length) : at0 l i ∈ l := getD_mem (by lia)
theorem at_map {l : List Int} {f : Int -> Int} {i : Int} (h0 : 0 <= i) (h : i < l.length) : at0 (l.map f) i = f (at0 l i) := getD_map (by lia)
theorem at_ups {n i : Int} (h0 : 0 <= i) (h : i < n) : at0 (ups n) i = i := by
  have : i.toNat < n.toNat := by lia
  unfold at0 ups
  simp [List.getD, this]
  lia
theorem mem_ups {n i : Int} : i ∈ ups n ↔ 0 <= i /\ i < n := by
  unfold ups
  rw [List.mem_map]
  constructor
  · rintro ⟨j, hj, rfl⟩
    have := List.mem_range.mp hj
    lia
  · rintro ⟨a, b⟩
    exact ⟨i.toNat, List.mem_range.mpr (by lia), by lia⟩
theorem ups_up (n : Int) : (ups n).Pairwise (· < ·) := by
  unfold ups
  rw [List.pairwise_map]
  exact List.pairwise_lt_range.imp fun h => by lia
theorem ups_snoc {j : Int} (h : 0 <= j) : ups (j + 1) = ups j ++ [j] := by
  unfold ups
  rw [show (j + 1).toNat = j.toNat + 1 by lia, List.range_succ, List.map_append]
  simp
  exact Int.max_eq_left h
def sm {α : Type} (l : List α) (f : α -> Int) : Int := (l.map f).sum
theorem sm_nil {α : Type} (f : α -> Int) : sm [] f = 0 := rfl
theorem sm_cons {α : Type} (a : α) (l : List α) (f : α -> Int) : sm (a :: l) f = f a + sm l f := rfl
theorem sm_app {α : Type} (l k : List α) (f : α -> Int) : sm (l ++ k) f = sm l f + sm k f := by
  unfold sm
  rw [List.map_append, List.sum_append]
theorem sm_add {α : Type} (f g : α -> Int) : ∀ l : List α, sm l (fun a => f a + g a) = sm l f + sm l g
  | [] => rfl
  | a :: l => by
    rw [sm_cons, sm_cons, sm_cons, sm_add f g l]
    lia
theorem sm_congr {α : Type} {f g : α -> Int} {l : List α} (h : ∀ a ∈ l, f a = g a) : sm l f = sm l g := by
  unfold sm
  rw [List.map_congr_left h]
theorem sm_map {α β : Type} (l : List α) (u : α -> β) (f : β -> Int) : sm (l.map u) f = sm l fun a => f (u a) := by
  unfold sm
  rw [List.map_map]
  rfl
theorem sm_perm {α : Type} {l k : List α} (h : l.Perm k) (f : α -> Int) : sm l f = sm k f := by
  induction h with
  | nil => rfl
  | cons a _ ih => rw [sm_cons, sm_cons, ih]
  | swap a b l => rw [sm_cons, sm_cons, sm_cons, sm_cons]; lia
  | trans _ _ h1 h2 => rw [h1, h2]
theorem sm_flat {α β : Type} (F : α -> List β) (g : β -> Int) : ∀ l : List α, sm (l.flatMap F) g = sm l fun a => sm (F a) g
  | [] => rfl
  | a :: l => by rw [List.flatMap_cons, sm_app, sm_flat F g l, sm_cons]
theorem sm_const {α : Type} (c : Int) : ∀ l : List α, (sm l fun _ => c) = (l.length : Int) * c
  | [] => by show (0 : Int) = 0 * c; lia
  | a :: l => by
    rw [sm_cons, sm_const c l, List.length_cons, Int.natCast_add, Int.add_mul]
    lia
def mgP (x y : Int) (z : Int) : Int := if z = y then x else z
def mgQ (x y : Int) (q : Int × Int) : Int × Int := (mgP x y q.1, mgP x y q.2)
theorem mg_x {x y : Int} : mgP x y x = x := by unfold mgP; split <;> rfl
def suc1 (A : List Int) : List Int := A.map (· + 1)
def allQ : List (Int × Int) -> List (List Int)
  | [] => [[]]
  | _ :: ps => (allQ ps).flatMap fun A => [suc1 A, 0 :: suc1 A]
theorem allQ_cons {e : Int × Int} {ps : List (Int × Int)} (_ : (e :: ps).length <= 8) : (allQ (e :: ps)).Perm ((allQ ps).flatMap fun A => [suc1 A, 0 :: suc1 A]) := List.Perm.refl _
theorem allQ_ks : ∀ {ps : List (Int × Int)} (_ : ps.length <= 8) {p : List Int}, p ∈ allQ ps -> Ks ps.length p
  | [], _, p, h => by rw [List.mem_singleton.mp h]; exact fun k hk => nomatch hk
  | e :: ps, h8, p, h => by
    obtain ⟨B, hB, h⟩ := List.mem_flatMap.mp h
    have ih := allQ_ks (ps := ps) (by rw [List.length_cons] at h8; lia) hB
    have up : ∀ k ∈ suc1 B, 0 <= k /\ k < ((e :: ps).length : Int) := fun k hk => by
      unfold suc1 at hk
      obtain ⟨j, hj, rfl⟩ := List.mem_map.mp hk
      have := ih j hj
      rw [List.length_cons]
      exact ⟨by lia, by lia⟩
    simp only [List.mem_cons, List.not_mem_nil, or_false] at h
    rcases h with rfl | rfl
    · exact up
    · intro k hk
      rcases List.mem_cons.mp hk with rfl | hk
      · rw [List.length_cons]; exact ⟨by lia, by lia⟩
      · exact up k hk
theorem hdF_suc {e : Int × Int} {ps : List (Int × Int)} : ∀ (A hs : List Int), (∀ k ∈ A, 0 <= k) -> hdF (e :: ps) hs (suc1 A) = hdF ps hs A
  | [], hs, _ => rfl
  | k :: A, hs, h => by
    have k0 := h k List.mem_cons_self
    have et : tieN (e :: ps) (k + 1) = tieN ps k := by
      unfold tieN
      rw [show (k + 1).toNat = k.toNat + 1 by lia, List.getD_cons_succ]
    show hdF (e :: ps) (stepH hs (tieN (e :: ps) (k + 1))) (suc1 A) = hdF ps (stepH hs (tieN ps k)) A
    rw [et]
    exact hdF_suc A _ fun j hj => h j (List.mem_cons_of_mem _ hj)
theorem hdF_zero {e : Int × Int} {ps : List (Int × Int)} (hs A : List Int) : hdF (e :: ps) hs (0 :: A) = hdF (e :: ps) (stepH hs e) A := rfl
theorem suc1_len (A : List Int) : (suc1 A).length = A.length := by unfold suc1; rw [List.length_map]
def labQ (hs : List Int) (q : Int × Int) : Int × Int := (at0 hs q.1, at0 hs q.2)
theorem lab_step {hs : List Int} {e : Int × Int} (ne : at0 hs e.1 ≠ at0 hs e.2) : ∃ x y, x ≠ y /\ ((at0 hs e.1 = x /\ at0 hs e.2 = y) \/ (at0 hs e.1 = y /\ at0 hs e.2 = x)) /\ stepH hs e = hs.map (mgP x y) := by
  by_cases c : at0 hs e.2 < at0 hs e.1
  · refine ⟨at0 hs e.2, at0 hs e.1, fun z => ne z.symm, .inr ⟨rfl, rfl⟩, ?_⟩
    unfold stepH
    rw [if_neg (by lia), if_pos c]
    rfl
  · refine ⟨at0 hs e.1, at0 hs e.2, ne, .inl ⟨rfl, rfl⟩, ?_⟩
    unfold stepH
    rw [if_pos (by lia), if_neg c]
    rfl
def InL (m : Nat) (ps : List (Int × Int)) : Prop := ∀ p ∈ ps, InN (m : Int) p
theorem lab_map {hs : List Int} {x y : Int} {ps : List (Int × Int)} (hb : InL hs.length ps) : ps.map (labQ (hs.map (mgP x y))) = (ps.map (labQ hs)).map (mgQ x y) := by
  rw [List.map_map]
  refine List.map_congr_left fun p hp => ?_
  have b := hb p hp
  show (at0 (hs.map (mgP x y)) p.1, at0 (hs.map (mgP x y)) p.2) = (mgP x y (at0 hs p.1), mgP x y (at0 hs p.2))
  rw [at_map b.1 b.2.1, at_map b.2.2.1 b.2.2.2]
theorem dc_step {hs : List Int} {x y : Int} (xy : x ≠ y) (hx : x ∈ hs) (hy : y ∈ hs) : dcount (hs.map (mgP x y)) + 1 = dcount hs := dcount_merge xy hx hy
def phi (a b h : Int) : Int := if h = (if b > a then b else a) then (if b < a then b else a) else h
theorem stepH_phi (hs : List Int) (p : Int × Int) : stepH hs p = hs.map (phi (at0 hs p.1) (at0 hs p.2)) := rfl
theorem phi_comm (a b c d h : Int) : phi (phi a b c) (phi a b d) (phi a b h) = phi (phi c d a) (phi c d b) (phi c d h) := by
  have mx : ∀ a b h : Int, phi a b h = if h = max a b then min a b else h := fun a b h => by
    unfold phi
    by_cases c : b > a
    · rw [if_pos c, if_neg (show ¬ b < a by lia), Int.max_eq_right (by lia), Int.min_eq_left (by lia)]
    · by_cases c2 : b < a
      · rw [if_neg c, if_pos c2, Int.max_eq_left (by lia), Int.min_eq_right (by lia)]
      · rw [if_neg c, if_neg c2, Int.max_eq_left (by lia), Int.min_eq_left (by lia)]
  simp only [mx]
  grind
theorem step_comm {hs : List Int} {e f : Int × Int} (he : InN (hs.length : Int) e) (hf : InN (hs.length : Int) f) : stepH (stepH hs e) f = stepH (stepH hs f) e := by
  have l1 : ((stepH hs e).length : Int) = hs.length := by rw [stepH_len]
  rw [stepH_phi (stepH hs e), stepH_phi (stepH hs f), stepH_phi hs e, stepH_phi hs f, at_map hf.1 hf.2.1, at_map hf.2.2.1 hf.2.2.2, at_map he.1 he.2.1, at_map he.2.2.1 he.2.2.2, List.map_map, List.map_map]
  exact List.map_congr_left fun h _ => phi_comm _ _ _ _ h
end My
namespace My
def sumN : Nat -> (Nat -> Int) -> Int
  | 0, _ => 0
  | n + 1, f => sumN n f + f n
theorem sumN_congr {f g : Nat -> Int} : ∀ {n : Nat}, (∀ i, i < n -> f i = g i) -> sumN n f = sumN n g
  | 0, _ => rfl
  | n + 1, h => by
    show sumN n f + f n = sumN n g + g n
    rw [sumN_congr fun i hi => h i (by lia), h n (by lia)]
theorem sumN_add (f g : Nat -> Int) : ∀ n, sumN n (fun i => f i + g i) = sumN n f + sumN n g
  | 0 => rfl
  | n + 1 => by
    show sumN n _ + (f n + g n) = sumN n f + f n + (sumN n g + g n)
    rw [sumN_add f g n]
    lia
theorem sumN_mul (c : Int) (f : Nat -> Int) : ∀ n, sumN n (fun i => c * f i) = c * sumN n f
  | 0 => by show 0 = c * 0; lia
  | n + 1 => by
    show sumN n _ + c * f n = c * (sumN n f + f n)
    rw [sumN_mul c f n, Int.mul_add]
theorem sumN_zero {f : Nat -> Int} : ∀ {n : Nat}, (∀ i, i < n -> f i = 0) -> sumN n f = 0
  | 0, _ => rfl
  | n + 1, h => by
    show sumN n f + f n = 0
    rw [sumN_zero fun i hi => h i (by lia), h n (by lia)]
    rfl
def sk (c j : Nat) : Nat := if j < c then j else j + 1
def sg : Nat -> Int
  | 0 => 1
  | n + 1 => - sg n
def detN : Nat -> (Nat -> Nat -> Int) -> Int
  | 0, _ => 1
  | n + 1, M => sumN (n + 1) fun c => sg c * M 0 c * detN n fun i j => M (i + 1) (sk c j)
theorem detN_s (n : Nat) (M : Nat -> Nat -> Int) : detN (n + 1) M = sumN (n + 1) fun c => sg c * M 0 c * detN n fun i j => M (i + 1) (sk c j) := rfl
theorem sk_lt {c j n : Nat} (hj : j < n) : sk c j < n + 1 := by unfold sk; split <;> lia
theorem det_congr : ∀ {n : Nat} {M N : Nat -> Nat -> Int}, (∀ i j, i < n -> j < n -> M i j = N i j) -> detN n M = detN n N
  | 0, _, _, _ => rfl
  | n + 1, M, N, h => by
    rw [detN_s, detN_s]
    refine sumN_congr fun c hc => ?_
    rw [h 0 c (by lia) hc, det_congr (M := fun i j => M (i + 1) (sk c j)) (N := fun i j => N (i + 1) (sk c j)) fun i j hi hj => h _ _ (by lia) (sk_lt hj)]
def dn (c k : Nat) : Nat := if k < c then k else k - 1
theorem sk_dn {c k j : Nat} (ck : c ≠ k) : sk c j = k ↔ j = dn c k := by
  unfold sk dn
  split <;> split <;> lia
theorem det_col : ∀ {n : Nat} {M A B : Nat -> Nat -> Int} {k : Nat} {a b : Int}, k < n -> (∀ i j, i < n -> j < n -> j ≠ k -> M i j = A i j /\ M i j = B i j) -> (∀ i, i < n -> M i k = a * A i k + b * B i k) -> detN n M = a * detN n A + b * detN n B
  | 0, _, _, _, _, _, _, hk, _, _ => absurd hk (Nat.not_lt_zero _)
  | n + 1, M, A, B, k, a, b, hk, h1, h2 => by
    rw [detN_s, detN_s, detN_s, <- sumN_mul, <- sumN_mul, <- sumN_add]
    refine sumN_congr fun c hc => ?_
    by_cases ck : c = k
    · subst ck
      have ea : detN n (fun i j => M (i + 1) (sk c j)) = detN n (fun i j => A (i + 1) (sk c j)) := det_congr fun i j hi hj => (h1 (i + 1) (sk c j) (by lia) (sk_lt hj) (by unfold sk; split <;> lia)).1
      have eb : detN n (fun i j => M (i + 1) (sk c j)) = detN n (fun i j => B (i + 1) (sk c j)) := det_congr fun i j hi hj => (h1 (i + 1) (sk c j) (by lia) (sk_lt hj) (by unfold sk; split <;> lia)).2
      rw [<- ea, <- eb, h2 0 (by lia)]
      generalize detN n (fun i j => M (i + 1) (sk c j)) = d
      generalize sg c = s
      grind
    · have ih := det_col (n := n) (M := fun i j => M (i + 1) (sk c j)) (A := fun i j => A (i + 1) (sk c j)) (B := fun i j => B (i + 1) (sk c j)) (k := dn c k) (a := a) (b := b) (by unfold dn; split <;> lia) (fun i j hi hj jk => h1 (i + 1) (sk c j) (by lia) (sk_lt hj) fun z => jk ((sk_dn ck).mp z)) (fun i hi => by
        have e : sk c (dn c k) = k := (sk_dn ck).mpr rfl
        simp only [e]
        exact h2 (i + 1) (by lia))
      rw [ih]
      obtain ⟨e1, e2⟩ := h1 0 c (by lia) hc ck
      have e3 : A 0 c = M 0 c := e1.symm
      have e4 : B 0 c = M 0 c := e2.symm
      rw [e3, e4]
      generalize detN n (fun i j => A (i + 1) (sk c j)) = d1
      generalize detN n (fun i j => B (i + 1) (sk c j)) = d2
      generalize sg c = s
      generalize M 0 c = m
      grind
def swc (k j : Nat) : Nat := if j = k then k + 1 else if j = k + 1 then k else j
theorem sumN_two {f : Nat -> Int} {k : Nat} : ∀ {n : Nat}, k + 1 < n -> sumN n f = sumN n (fun i => if i = k \/ i = k + 1 then 0 else f i) + (f k + f (k + 1))
  | 0, h => absurd h (Nat.not_lt_zero _)
  | n + 1, h => by
    show sumN n f + f n = sumN n _ + (if n = k \/ n = k + 1 then 0 else f n) + _
    by_cases c : k + 1 < n
    · rw [sumN_two c, if_neg (by lia)]
      lia
    · have e : n = k + 1 := by lia
      subst e
      rw [if_pos (.inr rfl)]
      show sumN k f + f k + f (k + 1) = sumN k _ + (if k = k \/ k = k + 1 then 0 else f k) + 0 + _
      rw [if_pos (.inl rfl), sumN_congr (n := k) (f := f) (g := fun i => if i = k \/ i = k + 1 then 0 else f i) fun i hi => by rw [if_neg (by lia)]]
      lia
theorem det_swc : ∀ {n : Nat} {M : Nat -> Nat -> Int} {k : Nat}, k + 1 < n -> detN n (fun i j => M i (swc k j)) = - detN n M
  | 0, _, _, h => absurd h (Nat.not_lt_zero _)
  | n + 1, M, k, h => by
    rw [detN_s, detN_s, sumN_two (k := k) h, sumN_two (f := fun c => sg c * M 0 c * detN n fun i j => M (i + 1) (sk c j)) (k := k) h]
    have rest : sumN (n + 1) (fun i => if i = k \/ i = k + 1 then 0 else sg i * M 0 (swc k i) * detN n fun i' j => M (i' + 1) (swc k (sk i j))) = - sumN (n + 1) (fun i => if i = k \/ i = k + 1 then 0 else sg i * M 0 i * detN n fun i' j => M (i' + 1) (sk i j)) := by
      have : ∀ s : Int, - s = -1 * s := fun s => by lia
      rw [this, <- sumN_mul]
      refine sumN_congr fun c hc => ?_
      by_cases ck : c = k \/ c = k + 1
      · rw [if_pos ck, if_pos ck]; rfl
      · rw [if_neg ck, if_neg ck]
        have e1 : swc k c = c := by unfold swc; rw [if_neg (by lia), if_neg (by lia)]
        have hk' : dn c k + 1 < n := by unfold dn; split <;> lia
        have ih := det_swc (n := n) (M := fun i j => M (i + 1) (sk c j)) (k := dn c k) hk'
        have e2 : (fun i' j => M (i' + 1) (swc k (sk c j))) = fun i' j => M (i' + 1) (sk c (swc (dn c k) j)) := by
          funext i' j
          congr 1
          unfold swc sk dn
          grind
        rw [e1, e2, ih]
        generalize sg c = s
        generalize M 0 c = m
        generalize detN n (fun i j => M (i + 1) (sk c j)) = d
        grind
    rw [rest]
    have e1 : swc k k = k + 1 := by unfold swc; rw [if_pos rfl]
    have e2 : swc k (k + 1) = k := by unfold swc; rw [if_neg (by lia), if_pos rfl]
    have e3 : detN n (fun i j => M (i + 1) (swc k (sk k j))) = detN n (fun i j => M (i + 1) (sk (k + 1) j)) := det_congr fun i j _ _ => by
      congr 1
      unfold swc sk
      grind
    have e4 : detN n (fun i j => M (i + 1) (swc k (sk (k + 1) j))) = detN n (fun i j => M (i + 1) (sk k j)) := det_congr fun i j _ _ => by
      congr 1
      unfold swc sk
      grind
    simp only [e1, e2, e3, e4]
    have es : sg (k + 1) = - sg k := rfl
    rw [es]
    generalize sg k = s
    generalize detN n (fun i j => M (i + 1) (sk (k + 1) j)) = d1
    generalize detN n (fun i j => M (i + 1) (sk k j)) = d2
    generalize M 0 (k + 1) = m1
    generalize M 0 k = m2
    grind
end My
namespace My
theorem det_eqc {n : Nat} {M : Nat -> Nat -> Int} {k : Nat} (h : k + 1 < n) (e : ∀ i, i < n -> M i k = M i (k + 1)) : detN n M = 0 := by
  have a := det_swc (M := M) h
  have b : detN n (fun i j => M i (swc k j)) = detN n M := det_congr fun i j hi hj => by
    unfold swc
    by_cases c : j = k
    · rw [if_pos c, c, e i hi]
    · rw [if_neg c]
      by_cases c2 : j = k + 1
      · rw [if_pos c2, c2, e i hi]
      · rw [if_neg c2]
  lia
theorem det_eq2 : ∀ (d : Nat) {n : Nat} {M : Nat -> Nat -> Int} {j : Nat}, j + d + 1 < n -> (∀ i, i < n -> M i j = M i (j + d + 1)) -> detN n M = 0
  | 0, n, M, j, h, e => det_eqc (k := j) (by lia) e
  | d + 1, n, M, j, h, e => by
    have a := det_swc (M := M) (k := j + d + 1) (n := n) (by lia)
    have b : detN n (fun i c => M i (swc (j + d + 1) c)) = 0 := det_eq2 d (j := j) (by lia) fun i hi => by
      have e1 : swc (j + d + 1) j = j := by unfold swc; rw [if_neg (by lia), if_neg (by lia)]
      have e2 : swc (j + d + 1) (j + d + 1) = j + d + 1 + 1 := by unfold swc; rw [if_pos rfl]
      simp only [e1, e2]
      exact e i hi
    lia
def colp (M : Nat -> Nat -> Int) (v : Nat -> Int) (i j : Nat) : Int := if j = 0 then v i else M i j
theorem det_sum0 {n : Nat} {M : Nat -> Nat -> Int} : ∀ m, m + 1 <= n -> detN n (colp M fun i => sumN m fun j => M i (j + 1)) = 0
  | 0, h => by
    have := det_col (n := n) (M := colp M fun i => sumN 0 fun j => M i (j + 1)) (A := M) (B := M) (k := 0) (a := 0) (b := 0) (by lia) (fun i j _ _ jk => by unfold colp; rw [if_neg jk]; exact ⟨rfl, rfl⟩) fun i _ => by
      unfold colp
      rw [if_pos rfl, Int.zero_mul]
      rfl
    rw [this, Int.zero_mul]
    rfl
  | m + 1, h => by
    have ih := det_sum0 (n := n) (M := M) m (by lia)
    have z : detN n (colp M fun i => M i (m + 1)) = 0 := det_eq2 m (j := 0) (by lia) fun i _ => by
      unfold colp
      rw [if_pos rfl, if_neg (by lia), Nat.zero_add]
    have := det_col (n := n) (M := colp M fun i => sumN (m + 1) fun j => M i (j + 1)) (A := colp M fun i => sumN m fun j => M i (j + 1)) (B := colp M fun i => M i (m + 1)) (k := 0) (a := 1) (b := 1) (by lia) (fun i j _ _ jk => by unfold colp; rw [if_neg jk, if_neg jk, if_neg jk]; exact ⟨rfl, rfl⟩) fun i _ => by
      unfold colp
      rw [if_pos rfl, if_pos rfl, if_pos rfl, Int.one_mul, Int.one_mul]
      rfl
    rw [this, ih, z]
    rfl
theorem sumN_first (f : Nat -> Int) : ∀ n, sumN (n + 1) f = f 0 + sumN n fun i => f (i + 1)
  | 0 => by show 0 + f 0 = f 0 + 0; lia
  | n + 1 => by
    show sumN (n + 1) f + f (n + 1) = f 0 + (sumN n (fun i => f (i + 1)) + f (n + 1))
    rw [sumN_first f n]
    lia
theorem det_rows0 {n : Nat} {M : Nat -> Nat -> Int} (h : ∀ i, i < n + 1 -> sumN (n + 1) (M i) = 0) : detN (n + 1) M = 0 := by
  have a := det_sum0 (n := n + 1) (M := M) n (Nat.le_refl _)
  have := det_col (n := n + 1) (M := M) (A := colp M fun i => sumN n fun j => M i (j + 1)) (B := M) (k := 0) (a := -1) (b := 0) (by lia) (fun i j _ _ jk => by unfold colp; rw [if_neg jk]; exact ⟨rfl, rfl⟩) fun i hi => by
    have e := h i hi
    rw [sumN_first] at e
    unfold colp
    rw [if_pos rfl, Int.zero_mul]
    lia
  rw [this, a, Int.zero_mul]
  rfl
theorem det_row : ∀ {n : Nat} {M A B : Nat -> Nat -> Int} {r : Nat} {a b : Int}, r < n -> (∀ i j, i < n -> j < n -> i ≠ r -> M i j = A i j /\ M i j = B i j) -> (∀ j, j < n -> M r j = a * A r j + b * B r j) -> detN n M = a * detN n A + b * detN n B
  | 0, _, _, _, _, _, _, hr, _, _ => absurd hr (Nat.not_lt_zero _)
  | n + 1, M, A, B, r, a, b, hr, h1, h2 => by
    rw [detN_s, detN_s, detN_s, <- sumN_mul, <- sumN_mul, <- sumN_add]
    refine sumN_congr fun c hc => ?_
    cases r with
    | zero =>
      have ea : detN n (fun i j => M (i + 1) (sk c j)) = detN n (fun i j => A (i + 1) (sk c j)) := det_congr fun i j hi hj => (h1 (i + 1) (sk c j) (by lia) (sk_lt hj) (by lia)).1
      have eb : detN n (fun i j => M (i + 1) (sk c j)) = detN n (fun i j => B (i + 1) (sk c j)) := det_congr fun i j hi hj => (h1 (i + 1) (sk c j) (by lia) (sk_lt hj) (by lia)).2
      rw [<- ea, <- eb, h2 c hc]
      generalize detN n (fun i j => M (i + 1) (sk c j)) = d
      generalize sg c = s
      grind
    | succ r =>
      have ih := det_row (n := n) (M := fun i j => M (i + 1) (sk c j)) (A := fun i j => A (i + 1) (sk c j)) (B := fun i j => B (i + 1) (sk c j)) (r := r) (a := a) (b := b) (by lia) (fun i j hi hj ir => h1 (i + 1) (sk c j) (by lia) (sk_lt hj) (by lia)) (fun j hj => h2 (sk c j) (sk_lt hj))
      rw [ih]
      obtain ⟨e1, e2⟩ := h1 0 c (by lia) hc (by lia)
      have e3 : A 0 c = M 0 c := e1.symm
      have e4 : B 0 c = M 0 c := e2.symm
      rw [e3, e4]
      generalize detN n (fun i j => A (i + 1) (sk c j)) = d1
      generalize detN n (fun i j => B (i + 1) (sk c j)) = d2
      generalize sg c = s
      generalize M 0 c = m
      grind
theorem det_row0 {n : Nat} {M : Nat -> Nat -> Int} {r : Nat} (hr : r < n) (h : ∀ j, j < n -> M r j = 0) : detN n M = 0 := by
  have := det_row (n := n) (M := M) (A := M) (B := M) (r := r) (a := 0) (b := 0) hr (fun i j _ _ _ => ⟨rfl, rfl⟩) fun j hj => by rw [h j hj]; rfl
  rw [this, Int.zero_mul]
  rfl
theorem sumN_skip {f : Nat -> Int} {c0 : Nat} : ∀ {n : Nat}, c0 <= n -> sumN (n + 1) f = f c0 + sumN n fun c => f (sk c0 c)
  | 0, h => by
    have e : c0 = 0 := by lia
    subst e
    show 0 + f 0 = f 0 + 0
    lia
  | n + 1, h => by
    show sumN (n + 1) f + f (n + 1) = f c0 + (sumN n (fun c => f (sk c0 c)) + f (sk c0 n))
    by_cases c : c0 <= n
    · have e : sk c0 n = n + 1 := by unfold sk; rw [if_neg (by lia)]
      rw [sumN_skip c, e]
      lia
    · have e : c0 = n + 1 := by lia
      subst e
      have e2 : sk (n + 1) n = n := by unfold sk; rw [if_pos (by lia)]
      have e3 : sumN n (fun c => f (sk (n + 1) c)) = sumN n f := sumN_congr fun i hi => by
        have : sk (n + 1) i = i := by unfold sk; rw [if_pos (by lia)]
        rw [this]
      rw [e2, e3]
      show sumN n f + f n + f (n + 1) = _
      lia
theorem sg_add (a b : Nat) : sg (a + b) = sg a * sg b := by
  induction b with
  | zero => show sg a = sg a * 1; lia
  | succ b ih => show - sg (a + b) = sg a * (- sg b); rw [ih]; grind
theorem sg_sq (a : Nat) : sg a * sg a = 1 := by
  induction a with
  | zero => rfl
  | succ a ih => show (- sg a) * (- sg a) = 1; grind
theorem det_unit : ∀ {n : Nat} {M : Nat -> Nat -> Int} {r c0 : Nat}, r <= n -> c0 <= n -> (∀ j, j <= n -> M r j = if j = c0 then 1 else 0) -> detN (n + 1) M = sg (r + c0) * detN n (fun i j => M (sk r i) (sk c0 j))
  | n, M, 0, c0, _, hc, h => by
    rw [detN_s, sumN_skip hc, h c0 hc, if_pos rfl]
    have z : sumN n (fun c => sg (sk c0 c) * M 0 (sk c0 c) * detN n fun i j => M (i + 1) (sk (sk c0 c) j)) = 0 := sumN_zero fun c hcn => by
      have e : sk c0 c ≠ c0 := by unfold sk; split <;> lia
      rw [h (sk c0 c) (by have := sk_lt (c := c0) hcn; lia), if_neg e]
      lia
    rw [z, Nat.zero_add]
    have e : (fun i j => M (sk 0 i) (sk c0 j)) = fun i j => M (i + 1) (sk c0 j) := by
      funext i j
      have : sk 0 i = i + 1 := by unfold sk; rw [if_neg (by lia)]
      rw [this]
    rw [e]
    lia
  | 0, M, r + 1, c0, hr, _, _ => absurd hr (by lia)
  | n + 1, M, r + 1, c0, hr, hc, h => by
    rw [detN_s, sumN_skip hc]
    have z0 : detN (n + 1) (fun i j => M (i + 1) (sk c0 j)) = 0 := det_row0 (r := r) (by lia) fun j hj => by
      show M (r + 1) (sk c0 j) = 0
      have e : sk c0 j ≠ c0 := by unfold sk; split <;> lia
      rw [h (sk c0 j) (by have := sk_lt (c := c0) hj; lia), if_neg e]
    rw [z0, detN_s, Int.mul_zero, Int.zero_add, <- sumN_mul]
    refine sumN_congr fun c hcn => ?_
    have cne : sk c0 c ≠ c0 := by unfold sk; split <;> lia
    have cl : sk c0 c < n + 2 := sk_lt hcn
    have ih := det_unit (n := n) (M := fun i j => M (i + 1) (sk (sk c0 c) j)) (r := r) (c0 := dn (sk c0 c) c0) (by lia) (by unfold dn; split <;> lia) fun j hj => by
      show M (r + 1) (sk (sk c0 c) j) = _
      rw [h (sk (sk c0 c) j) (by have := sk_lt (c := sk c0 c) (show j < n + 1 by lia); lia)]
      by_cases e : sk (sk c0 c) j = c0
      · rw [if_pos e, if_pos ((sk_dn cne).mp e)]
      · rw [if_neg e, if_neg fun z => e ((sk_dn cne).mpr z)]
    rw [ih]
    have s0 : sk (r + 1) 0 = 0 := by unfold sk; rw [if_pos (by lia)]
    have em : (fun i j => M (sk r i + 1) (sk (sk c0 c) (sk (dn (sk c0 c) c0) j))) = fun i j => M (sk (r + 1) (i + 1)) (sk c0 (sk c j)) := by
      funext i j
      have e1 : sk r i + 1 = sk (r + 1) (i + 1) := by unfold sk; split <;> split <;> lia
      have e2 : sk (sk c0 c) (sk (dn (sk c0 c) c0) j) = sk c0 (sk c j) := by unfold sk dn; grind
      rw [e1, e2]
    rw [em, s0]
    have es : sg (sk c0 c) * sg (r + dn (sk c0 c) c0) = sg (r + 1 + c0) * sg c := by
      rw [<- sg_add, <- sg_add]
      by_cases k : c < c0
      · have k1 : sk c0 c = c := by unfold sk; rw [if_pos k]
        have k2 : dn c c0 = c0 - 1 := by unfold dn; rw [if_neg (by lia)]
        rw [k1, k2, show r + 1 + c0 + c = c + (r + (c0 - 1)) + 1 + 1 by lia]
        show _ = - - sg _
        lia
      · have k1 : sk c0 c = c + 1 := by unfold sk; rw [if_neg k]
        have k2 : dn (c + 1) c0 = c0 := by unfold dn; rw [if_pos (by lia)]
        rw [k1, k2, show r + 1 + c0 + c = c + 1 + (r + c0) by lia]
    generalize detN n (fun i j => M (sk (r + 1) (i + 1)) (sk c0 (sk c j))) = d at *
    generalize M 0 (sk c0 c) = m at *
    have : sg (sk c0 c) * m * (sg (r + dn (sk c0 c) c0) * d) = (sg (sk c0 c) * sg (r + dn (sk c0 c) c0)) * (m * d) := by grind
    rw [this, es]
    grind
end My
namespace My
open PySem L2
def b2 (p : Prop) [Decidable p] : Int := if p then 1 else 0
def tieM (t : Int × Int) (x y : Int) : Int := if t.1 = t.2 then 0 else if x = y then b2 (t.1 = x) + b2 (t.2 = x) else - (b2 (t.1 = x /\ t.2 = y) + b2 (t.1 = y /\ t.2 = x))
def mt (qs : List (Int × Int)) (x y : Int) : Int := sm qs fun t => tieM t x y
def gR (R : List Int) (i : Nat) : Int := R.getD i 0
def dT (qs : List (Int × Int)) (R : List Int) : Int := detN R.length fun i j => mt qs (gR R i) (gR R j)
theorem mt_cons (t : Int × Int) (qs : List (Int × Int)) (x y : Int) : mt (t :: qs) x y = tieM t x y + mt qs x y := sm_cons _ _ _
theorem dT_perm {qs qs' : List (Int × Int)} (h : qs.Perm qs') (R : List Int) : dT qs R = dT qs' R := det_congr fun i j _ _ => sm_perm h _
theorem dT_nil (qs : List (Int × Int)) : dT qs [] = 1 := rfl
theorem gR_mem {R : List Int} {i : Nat} (h : i < R.length) : gR R i ∈ R := by
  unfold gR
  rw [List.getD_eq_getElem?_getD, List.getElem?_eq_getElem h]
  exact List.getElem_mem h
theorem gR_inj {R : List Int} (nd : R.Nodup) {i j : Nat} (hi : i < R.length) (hj : j < R.length) (e : gR R i = gR R j) : i = j := by
  unfold gR at e
  rw [List.getD_eq_getElem?_getD, List.getElem?_eq_getElem hi, List.getD_eq_getElem?_getD, List.getElem?_eq_getElem hj] at e
  have e : R[i] = R[j] := e
  have pw := List.pairwise_iff_getElem.mp (List.nodup_iff_pairwise_ne.mp nd)
  refine Classical.byContradiction fun z => ?_
  by_cases c : i < j
  · exact pw i j hi hj c e
  · exact pw j i hj hi (by lia) e.symm
theorem gR_at {R : List Int} {x : Int} (h : x ∈ R) : ∃ i, i < R.length /\ gR R i = x := by
  obtain ⟨i, hi, e⟩ := List.mem_iff_getElem.mp h
  exact ⟨i, hi, by unfold gR; rw [List.getD_eq_getElem?_getD, List.getElem?_eq_getElem hi]; exact e⟩
theorem gR_erase {R : List Int} {k j : Nat} : gR (R.eraseIdx k) j = gR R (sk k j) := by
  unfold gR sk
  rw [List.getD_eq_getElem?_getD, List.getD_eq_getElem?_getD, List.getElem?_eraseIdx]
  by_cases c : j < k
  · rw [if_pos c, if_pos c]
  · rw [if_neg c, if_neg c]
theorem tieM_root {t : Int × Int} {r x : Int} (rx : r ≠ x) (h : (t.1 = r /\ t.2 = x) \/ (t.1 = x /\ t.2 = r)) {y z : Int} (hy : y ≠ r) (hz : z ≠ r) : tieM t y z = if y = x /\ z = x then 1 else 0 := by
  unfold tieM b2
  obtain ⟨a, b⟩ := t
  simp only at h ⊢
  rcases h with ⟨rfl, rfl⟩ | ⟨rfl, rfl⟩ <;> grind
theorem dT_root {t : Int × Int} {qs : List (Int × Int)} {R : List Int} {r : Int} {k : Nat} (hk : k < R.length) (nd : R.Nodup) (hr : r ∉ R) (h : (t.1 = r /\ t.2 = gR R k) \/ (t.1 = gR R k /\ t.2 = r)) : dT (t :: qs) R = dT qs R + dT qs (R.eraseIdx k) := by
  have rx : r ≠ gR R k := fun z => hr (by rw [z]; exact gR_mem hk)
  have nr : ∀ i, i < R.length -> gR R i ≠ r := fun i hi z => hr (by rw [<- z]; exact gR_mem hi)
  obtain ⟨n, hn⟩ : ∃ n, R.length = n + 1 := ⟨R.length - 1, by lia⟩
  have el : (R.eraseIdx k).length = n := by rw [List.length_eraseIdx_of_lt hk]; lia
  unfold dT
  rw [el, hn]
  have lin := det_row (n := n + 1) (M := fun i j => mt (t :: qs) (gR R i) (gR R j)) (A := fun i j => mt qs (gR R i) (gR R j)) (B := fun i j => if i = k then (if j = k then 1 else 0) else mt qs (gR R i) (gR R j)) (r := k) (a := 1) (b := 1) (by lia)
    (fun i j hi hj ik => by
      have e : tieM t (gR R i) (gR R j) = 0 := by
        rw [tieM_root rx h (nr i (by lia)) (nr j (by lia)), if_neg fun z => ik (gR_inj nd (by lia) hk z.1)]
      simp only [mt_cons, e, if_neg ik]
      exact ⟨by lia, by lia⟩)
    (fun j hj => by
      simp only [mt_cons, if_pos rfl]
      rw [tieM_root rx h (nr k hk) (nr j (by lia))]
      by_cases c : j = k
      · subst c; rw [if_pos ⟨rfl, rfl⟩, if_pos rfl]; lia
      · rw [if_neg fun z => c (gR_inj nd (by lia) hk z.2), if_neg c]; lia)
  have du := det_unit (n := n) (M := fun i j => if i = k then (if j = k then (1 : Int) else 0) else mt qs (gR R i) (gR R j)) (r := k) (c0 := k) (by lia) (by lia) (fun j _ => by
    show (if k = k then (if j = k then (1 : Int) else 0) else _) = _
    rw [if_pos rfl])
  rw [lin, du]
  have sq : sg (k + k) = 1 := by rw [sg_add, sg_sq]
  have em : detN n (fun i j => if sk k i = k then (if sk k j = k then (1 : Int) else 0) else mt qs (gR R (sk k i)) (gR R (sk k j))) = detN n (fun i j => mt qs (gR (R.eraseIdx k) i) (gR (R.eraseIdx k) j)) := det_congr fun i j _ _ => by
    have : sk k i ≠ k := by unfold sk; split <;> lia
    rw [if_neg this, gR_erase, gR_erase]
  rw [em, sq]
  lia
theorem sumN_gR (f : Int -> Int) : ∀ (R : List Int), sumN R.length (fun i => f (gR R i)) = sm R f
  | [] => rfl
  | x :: R => by
    rw [List.length_cons, sumN_first, sm_cons, <- sumN_gR f R]
    rfl
theorem sm_b2 {R : List Int} (nd : R.Nodup) (x : Int) (c : Int -> Int) : (sm R fun y => if y = x then c y else 0) = if x ∈ R then c x else 0 := by
  induction R with
  | nil => rfl
  | cons a R ih =>
    obtain ⟨n1, n2⟩ := List.nodup_cons.mp nd
    rw [sm_cons, ih n2]
    by_cases e : a = x
    · subst e
      rw [if_pos rfl, if_neg n1, if_pos List.mem_cons_self]
      lia
    · rw [if_neg e]
      by_cases m : x ∈ R
      · rw [if_pos m, if_pos (List.mem_cons_of_mem _ m)]; lia
      · rw [if_neg m, if_neg fun z => (List.mem_cons.mp z).elim (fun z => e z.symm) m]; rfl
theorem tie_sum {R : List Int} (nd : R.Nodup) {t : Int × Int} (h : t.1 ∈ R ↔ t.2 ∈ R) {x : Int} (hx : x ∈ R) : (sm R fun y => tieM t x y) = 0 := by
  obtain ⟨a, b⟩ := t
  simp only at h
  by_cases ab : a = b
  · have : (sm R fun y => tieM (a, b) x y) = sm R fun _ => (0 : Int) := sm_congr fun y _ => by unfold tieM; rw [if_pos ab]
    rw [this, sm_const, Int.mul_zero]
  · have e : (sm R fun y => tieM (a, b) x y) = sm R fun y => (if y = x then b2 (a = x) + b2 (b = x) else 0) + ((if y = b then - b2 (a = x) else 0) + (if y = a then - b2 (b = x) else 0)) := sm_congr fun y _ => by
      unfold tieM b2
      simp only
      grind
    rw [e, sm_add, sm_add, sm_b2 nd x (fun _ => b2 (a = x) + b2 (b = x)), sm_b2 nd b (fun _ => - b2 (a = x)), sm_b2 nd a (fun _ => - b2 (b = x)), if_pos hx]
    unfold b2
    grind
theorem dT_zero {qs : List (Int × Int)} {R : List Int} (nd : R.Nodup) (ne : R ≠ []) (h : ∀ t ∈ qs, (t.1 ∈ R ↔ t.2 ∈ R)) : dT qs R = 0 := by
  obtain ⟨n, hn⟩ : ∃ n, R.length = n + 1 := ⟨R.length - 1, by have := List.length_pos_iff.mpr ne; lia⟩
  unfold dT
  rw [hn]
  refine det_rows0 fun i hi => ?_
  rw [<- hn]
  show sumN R.length (fun j => mt qs (gR R i) (gR R j)) = 0
  rw [sumN_gR (fun y => mt qs (gR R i) y)]
  have hx := gR_mem (R := R) (i := i) (by lia)
  generalize gR R i = x at hx
  unfold mt
  induction qs with
  | nil =>
    have : (sm R fun y => sm [] fun t => tieM t x y) = sm R fun _ => (0 : Int) := rfl
    rw [this, sm_const, Int.mul_zero]
  | cons t qs ih =>
    have e : (sm R fun y => sm (t :: qs) fun t => tieM t x y) = sm R fun y => tieM t x y + sm qs fun t => tieM t x y := rfl
    rw [e, sm_add, tie_sum nd (h t List.mem_cons_self) hx, ih fun t ht => h t (List.mem_cons_of_mem _ ht)]
    rfl
open PyProof.Rows (firstMet firstMet_any firstMet_succ step_dedup)
def tC (hs : List Int) (ps : List (Int × Int)) : Int := sm (allQ ps) fun A => if A.length + 1 = dcount hs /\ dcount (hdF ps hs A) = 1 then 1 else 0
theorem dstep {hs : List Int} {e : Int × Int} (eb : InN (hs.length : Int) e) : dcount (stepH hs e) + (if at0 hs e.1 = at0 hs e.2 then 0 else 1) = dcount hs := by
  by_cases c : at0 hs e.1 = at0 hs e.2
  · rw [if_pos c, stepH_same c]; rfl
  · rw [if_neg c]
    obtain ⟨x, y, xy, h, es⟩ := lab_step c
    have m1 := at_mem (l := hs) eb.1 eb.2.1
    have m2 := at_mem (l := hs) eb.2.2.1 eb.2.2.2
    have mem : x ∈ hs /\ y ∈ hs := by
      rcases h with ⟨a, b⟩ | ⟨a, b⟩
      · rw [<- a, <- b]; exact ⟨m1, m2⟩
      · rw [<- a, <- b]; exact ⟨m2, m1⟩
    rw [es]
    exact dc_step xy mem.1 mem.2
theorem dle' : ∀ (ks : List Int) (hs : List Int) (ps : List (Int × Int)), InL hs.length ps -> (∀ k ∈ ks, 0 <= k /\ k < (ps.length : Int)) -> dcount hs <= ks.length + dcount (hdF ps hs ks)
  | [], hs, ps, _, _ => by
    show dcount hs <= 0 + dcount hs
    lia
  | k :: ks, hs, ps, hb, hk => by
    have k0 := hk k List.mem_cons_self
    have eb := tieN_in (n := (hs.length : Int)) hb k0.1 k0.2
    have ih := dle' ks (stepH hs (tieN ps k)) ps (by rw [stepH_len]; exact hb) fun j hj => hk j (List.mem_cons_of_mem _ hj)
    have ds := dstep eb
    show dcount hs <= (k :: ks).length + dcount (hdF ps (stepH hs (tieN ps k)) ks)
    rw [List.length_cons]
    split at ds <;> lia
theorem tC_step {hs : List Int} {e : Int × Int} {ps : List (Int × Int)} (h8 : (e :: ps).length <= 8) (hb : InL hs.length (e :: ps)) : tC hs (e :: ps) = tC hs ps + if at0 hs e.1 = at0 hs e.2 then 0 else tC (stepH hs e) ps := by
  have h8' : ps.length <= 8 := by rw [List.length_cons] at h8; lia
  have hb' : InL hs.length ps := fun p hp => hb p (List.mem_cons_of_mem _ hp)
  have eb := hb e List.mem_cons_self
  have step : tC hs (e :: ps) = tC hs ps + sm (allQ ps) fun A => if A.length + 1 + 1 = dcount hs /\ dcount (hdF ps (stepH hs e) A) = 1 then (1 : Int) else 0 := by
    unfold tC
    rw [sm_perm (allQ_cons h8), sm_flat, <- sm_add]
    refine sm_congr fun A hA => ?_
    have k0 : ∀ k ∈ A, 0 <= k := fun k hk => (allQ_ks h8' hA k hk).1
    rw [sm_cons, sm_cons, sm_nil, hdF_suc A hs k0, hdF_zero, hdF_suc A _ k0, List.length_cons, suc1_len]
    lia
  rw [step]
  congr 1
  have ds := dstep eb
  by_cases c : at0 hs e.1 = at0 hs e.2
  · rw [if_pos c, stepH_same c]
    have z : (sm (allQ ps) fun A => if A.length + 1 + 1 = dcount hs /\ dcount (hdF ps hs A) = 1 then (1 : Int) else 0) = sm (allQ ps) fun _ => (0 : Int) := sm_congr fun A hA => by
      have := dle' A hs ps hb' (allQ_ks h8' hA)
      rw [if_neg (by lia)]
    rw [z, sm_const, Int.mul_zero]
  · rw [if_neg c] at ds
    rw [if_neg c]
    unfold tC
    refine sm_congr fun A _ => ?_
    by_cases k : A.length + 1 = dcount (stepH hs e) /\ dcount (hdF ps (stepH hs e) A) = 1
    · rw [if_pos k, if_pos ⟨by lia, k.2⟩]
    · rw [if_neg k, if_neg fun z => k ⟨by lia, z.2⟩]
theorem tC_perm {ps ps' : List (Int × Int)} (h : ps.Perm ps') : ∀ hs : List Int, ps.length <= 8 -> InL hs.length ps -> tC hs ps = tC hs ps' := by
  induction h with
  | nil => intro hs _ _; rfl
  | @cons e l l' p ih =>
    intro hs h8 hb
    have pl := p.length_eq
    have hb' : InL hs.length l := fun t ht => hb t (List.mem_cons_of_mem _ ht)
    have hb2 : InL hs.length (e :: l') := fun t ht => hb t ((List.Perm.cons e p).mem_iff.mpr ht)
    rw [List.length_cons] at h8
    rw [tC_step (by rw [List.length_cons]; lia) hb, tC_step (by rw [List.length_cons]; lia) hb2, ih hs (by lia) hb', ih (stepH hs e) (by lia) (by rw [stepH_len]; exact hb')]
  | swap e f l =>
    intro hs h8 hb
    have he : InN (hs.length : Int) e := hb e (List.mem_cons_of_mem _ List.mem_cons_self)
    have hf : InN (hs.length : Int) f := hb f List.mem_cons_self
    have hl : InL hs.length l := fun t ht => hb t (List.mem_cons_of_mem _ (List.mem_cons_of_mem _ ht))
    have h8e : (e :: l).length <= 8 := by rw [List.length_cons, List.length_cons] at h8; rw [List.length_cons]; lia
    have h8f : (f :: l).length <= 8 := by rw [List.length_cons] at h8e ⊢; exact h8e
    have cons : ∀ {m : Nat} {t : Int × Int}, InN (m : Int) t -> InL m l -> InL m (t :: l) := fun ht hl s hs => by
      rcases List.mem_cons.mp hs with rfl | hs
      · exact ht
      · exact hl s hs
    have hb2 : InL hs.length (e :: f :: l) := fun t ht => hb t ((List.Perm.swap f e l).mem_iff.mp ht)
    rw [tC_step h8 hb, tC_step (by rw [List.length_cons, List.length_cons] at h8 ⊢; exact h8) hb2]
    have l1 : InL (stepH hs f).length (e :: l) := by rw [stepH_len]; exact cons he hl
    have l2 : InL (stepH hs e).length (f :: l) := by rw [stepH_len]; exact cons hf hl
    rw [tC_step h8e (cons he hl), tC_step h8f (cons hf hl), tC_step h8e l1, tC_step h8f l2, step_comm hf he]
    have d1 := dstep he
    have d2 := dstep hf
    have d3 := dstep (hs := stepH hs e) (e := f) (by rw [stepH_len]; exact hf)
    have d4 := dstep (hs := stepH hs f) (e := e) (by rw [stepH_len]; exact he)
    rw [step_comm hf he] at d4
    by_cases c1 : at0 hs e.1 = at0 hs e.2 <;> by_cases c2 : at0 hs f.1 = at0 hs f.2 <;> by_cases c3 : at0 (stepH hs e) f.1 = at0 (stepH hs e) f.2 <;> by_cases c4 : at0 (stepH hs f) e.1 = at0 (stepH hs f) e.2 <;> simp only [c1, c2, c3, c4, if_true, if_false, ite_true, ite_false] at d1 d2 d3 d4 ⊢ <;> lia
  | @trans a b c p q ih1 ih2 =>
    intro hs h8 hb
    rw [ih1 hs h8 hb, ih2 hs (by rw [<- p.length_eq]; exact h8) fun t ht => hb t (p.mem_iff.mpr ht)]
open PyProof.Rows (firstMet firstMet_any firstMet_succ step_dedup)
theorem met_mem' {val : Nat -> Int} {i : Nat} {k : Int} : k ∈ firstMet val i ↔ ∃ j, j < i /\ val j = k := by
  have a := firstMet_any val i k
  rw [Bool.eq_iff_iff, List.any_eq_true, List.any_eq_true] at a
  constructor
  · intro h
    obtain ⟨x, hx, e⟩ := a.mp ⟨k, h, beq_self_eq_true k⟩
    obtain ⟨j, hj, rfl⟩ := List.mem_map.mp hx
    exact ⟨j, List.mem_range.mp hj, eq_of_beq e⟩
  · rintro ⟨j, hj, rfl⟩
    obtain ⟨x, hx, e⟩ := a.mpr ⟨val j, List.mem_map.mpr ⟨j, List.mem_range.mpr hj, rfl⟩, beq_self_eq_true _⟩
    rw [<- eq_of_beq e]
    exact hx
theorem met_nd' (val : Nat -> Int) : ∀ i, (firstMet val i).Nodup
  | 0 => .nil
  | i + 1 => by
    rw [firstMet_succ]
    have ih := met_nd' val i
    unfold step_dedup
    by_cases c : (firstMet val i).any (· == val i) = true
    · rw [if_pos c]; exact ih
    · rw [if_neg c]
      refine List.nodup_append.mpr ⟨ih, by simp, fun x hx y hy e => c ?_⟩
      rw [List.mem_singleton.mp hy] at e
      exact List.any_eq_true.mpr ⟨x, hx, by rw [e]; exact beq_self_eq_true _⟩
theorem dcount_len {hs l : List Int} (nd : l.Nodup) (h : ∀ x, x ∈ hs ↔ x ∈ l) : dcount hs = l.length := by
  have a := firstMet_dc hs hs.length (Nat.le_refl _)
  rw [List.take_length] at a
  rw [<- a]
  refine List.Perm.length_eq ((List.perm_ext_iff_of_nodup (met_nd' _ _) nd).mpr fun x => ?_)
  rw [met_mem', <- h x]
  constructor
  · rintro ⟨j, hj, rfl⟩
    rw [List.getD_eq_getElem?_getD, List.getElem?_eq_getElem hj]
    exact List.getElem_mem hj
  · intro hx
    obtain ⟨j, hj, e⟩ := List.mem_iff_getElem.mp hx
    exact ⟨j, hj, by rw [List.getD_eq_getElem?_getD, List.getElem?_eq_getElem hj]; exact e⟩
theorem tC_one {r : Int} : ∀ (ps : List (Int × Int)) (hs : List Int), ps.length <= 8 -> InL hs.length ps -> (∀ x, x ∈ hs ↔ x ∈ [r]) -> tC hs ps = 1
  | [], hs, _, _, h => by
    have d : dcount hs = 1 := dcount_len (l := [r]) (by simp) h
    have e : allQ [] = [[]] := by decide
    unfold tC
    rw [e]
    show (if 0 + 1 = dcount hs /\ dcount hs = 1 then (1 : Int) else 0) + 0 = 1
    rw [d]
    rfl
  | e :: ps, hs, h8, hb, h => by
    have eb := hb e List.mem_cons_self
    have m1 := (h _).mp (at_mem (l := hs) eb.1 eb.2.1)
    have m2 := (h _).mp (at_mem (l := hs) eb.2.2.1 eb.2.2.2)
    rw [tC_step h8 hb, if_pos (by rw [List.mem_singleton.mp m1, List.mem_singleton.mp m2]), tC_one ps hs (by rw [List.length_cons] at h8; lia) (fun t ht => hb t (List.mem_cons_of_mem _ ht)) h]
    rfl
theorem tC_iso {r : Int} : ∀ (ps : List (Int × Int)) (hs : List Int), ps.length <= 8 -> InL hs.length ps -> r ∈ hs -> (∃ x ∈ hs, x ≠ r) -> (∀ t ∈ ps, (at0 hs t.1 = r ↔ at0 hs t.2 = r)) -> tC hs ps = 0
  | [], hs, _, _, hr, ⟨x, hx, xr⟩, _ => by
    have d : dcount hs ≠ 1 := fun z => by
      have a := firstMet_dc hs hs.length (Nat.le_refl _)
      rw [List.take_length, z] at a
      obtain ⟨y, ey⟩ := List.length_eq_one_iff.mp a
      have mem : ∀ u, u ∈ hs -> u = y := fun u hu => by
        obtain ⟨j, hj, e⟩ := List.mem_iff_getElem.mp hu
        have : u ∈ firstMet (fun i => hs.getD i 0) hs.length := met_mem'.mpr ⟨j, hj, by rw [List.getD_eq_getElem?_getD, List.getElem?_eq_getElem hj]; exact e⟩
        rw [ey] at this
        exact List.mem_singleton.mp this
      exact xr ((mem x hx).trans (mem r hr).symm)
    have e : allQ [] = [[]] := by decide
    unfold tC
    rw [e]
    show (if 0 + 1 = dcount hs /\ dcount hs = 1 then (1 : Int) else 0) + 0 = 0
    rw [if_neg fun z => d z.2]
    rfl
  | e :: ps, hs, h8, hb, hr, hx, h => by
    have h8' : ps.length <= 8 := by rw [List.length_cons] at h8; lia
    have hb' : InL hs.length ps := fun t ht => hb t (List.mem_cons_of_mem _ ht)
    have eb := hb e List.mem_cons_self
    rw [tC_step h8 hb, tC_iso ps hs h8' hb' hr hx fun t ht => h t (List.mem_cons_of_mem _ ht)]
    by_cases c : at0 hs e.1 = at0 hs e.2
    · rw [if_pos c]; rfl
    · rw [if_neg c]
      obtain ⟨x, y, xy, hl, es⟩ := lab_step c
      have he := h e List.mem_cons_self
      have n1 : at0 hs e.1 ≠ r := fun z => c (z.trans (he.mp z).symm)
      have n2 : at0 hs e.2 ≠ r := fun z => c ((he.mpr z).trans z.symm)
      have xr : x ≠ r /\ y ≠ r := by
        rcases hl with ⟨a, b⟩ | ⟨a, b⟩
        · rw [<- a, <- b]; exact ⟨n1, n2⟩
        · rw [<- a, <- b]; exact ⟨n2, n1⟩
      have keep : ∀ z, mgP x y z = r ↔ z = r := fun z => by
        unfold mgP
        by_cases k : z = y
        · rw [if_pos k]; exact ⟨fun q => absurd q xr.1, fun q => absurd (k.symm.trans q) xr.2⟩
        · rw [if_neg k]
      have xm : x ∈ hs := by
        have m1 := at_mem (l := hs) eb.1 eb.2.1
        have m2 := at_mem (l := hs) eb.2.2.1 eb.2.2.2
        rcases hl with ⟨a, b⟩ | ⟨a, b⟩
        · rw [<- a]; exact m1
        · rw [<- b]; exact m2
      rw [es, tC_iso ps (hs.map (mgP x y)) h8' (by rw [List.length_map]; exact hb') (List.mem_map.mpr ⟨r, hr, (keep r).mpr rfl⟩) ⟨x, List.mem_map.mpr ⟨x, xm, mg_x⟩, xr.1⟩ fun t ht => by
        have b := hb' t ht
        rw [at_map b.1 b.2.1, at_map b.2.2.1 b.2.2.2, keep, keep]
        exact h t (List.mem_cons_of_mem _ ht)]
      rfl
theorem tieM_mg {x y u v : Int} (t : Int × Int) (xy : x ≠ y) (hu : u ≠ x /\ u ≠ y) (hv : v ≠ x /\ v ≠ y) : tieM (mgQ x y t) u v = tieM t u v := by
  obtain ⟨a, b⟩ := t
  unfold tieM mgQ mgP b2
  simp only
  grind
theorem matrix_tree : ∀ (k : Nat) (ps : List (Int × Int)) (hs : List Int) (r : Int) (R : List Int), R.length + ps.length <= k -> ps.length <= 8 -> InL hs.length ps -> R.Nodup -> r ∉ R -> (∀ x, x ∈ hs ↔ x ∈ r :: R) -> dT (ps.map (labQ hs)) R = tC hs ps := by
  intro k
  induction k with
  | zero =>
    intro ps hs r R hk h8 hb nd hr hm
    have eR : R = [] := List.length_eq_zero_iff.mp (by lia)
    subst eR
    rw [dT_nil, tC_one ps hs h8 hb hm]
  | succ k ih =>
    intro ps hs r R hk h8 hb nd hr hm
    by_cases eR : R = []
    · subst eR
      rw [dT_nil, tC_one ps hs h8 hb hm]
    by_cases ex : ∃ t ∈ ps, ¬ (at0 hs t.1 = r ↔ at0 hs t.2 = r)
    · obtain ⟨t, ht, nt⟩ := ex
      have tb := hb t ht
      have pm : ps.Perm (t :: ps.erase t) := List.perm_cons_erase ht
      have pl := pm.length_eq
      rw [List.length_cons] at pl
      have hb' : InL hs.length (ps.erase t) := fun s hs' => hb s (List.mem_of_mem_erase hs')
      have m1 := (hm _).mp (at_mem (l := hs) tb.1 tb.2.1)
      have m2 := (hm _).mp (at_mem (l := hs) tb.2.2.1 tb.2.2.2)
      obtain ⟨z, hz, hl⟩ : ∃ z ∈ R, (at0 hs t.1 = r /\ at0 hs t.2 = z) \/ (at0 hs t.1 = z /\ at0 hs t.2 = r) := by
        rcases List.mem_cons.mp m1 with a | a <;> rcases List.mem_cons.mp m2 with b | b
        · exact absurd ⟨fun _ => b, fun _ => a⟩ nt
        · exact ⟨_, b, .inl ⟨a, rfl⟩⟩
        · exact ⟨_, a, .inr ⟨rfl, b⟩⟩
        · exact absurd ⟨fun e => absurd (by rw [<- e]; exact a) hr, fun e => absurd (by rw [<- e]; exact b) hr⟩ nt
      obtain ⟨i, hi, ei⟩ := gR_at hz
      have zr : z ≠ r := fun e => hr (by rw [<- e]; exact hz)
      have c : at0 hs t.1 ≠ at0 hs t.2 := fun e => by
        rcases hl with ⟨a, b⟩ | ⟨a, b⟩ <;> rw [a, b] at e
        · exact zr e.symm
        · exact zr e
      rw [dT_perm (pm.map (labQ hs)), List.map_cons, dT_root (t := labQ hs t) hi nd hr (by rw [ei]; exact hl), ih (ps.erase t) hs r R (by lia) (by lia) hb' nd hr hm]
      have ht8 : (t :: ps.erase t).length <= 8 := by rw [List.length_cons]; lia
      rw [tC_perm pm hs h8 hb, tC_step ht8 (fun s hs' => hb s (pm.mem_iff.mpr hs')), if_neg c]
      congr 1
      obtain ⟨x, y, xy, hxy, es⟩ := lab_step c
      have two : ∀ u, (u = x \/ u = y) ↔ (u = r \/ u = z) := fun u => by
        rcases hl with ⟨a, b⟩ | ⟨a, b⟩ <;> rcases hxy with ⟨a', b'⟩ | ⟨a', b'⟩ <;> rw [a] at a' <;> rw [b] at b' <;> subst a' <;> subst b' <;> grind
      have el : (R.eraseIdx i).length + 1 = R.length := by rw [List.length_eraseIdx_of_lt hi]; lia
      have me : ∀ u, u ∈ R.eraseIdx i ↔ u ∈ R /\ u ≠ z := fun u => by
        have pe : R.Perm (z :: R.eraseIdx i) := by
          have e1 : R = R.take i ++ z :: R.drop (i + 1) := by
            have e2 : R[i] = z := by
              have := ei
              unfold gR at this
              rw [List.getD_eq_getElem?_getD, List.getElem?_eq_getElem hi] at this
              exact this
            rw [<- e2, List.getElem_cons_drop, List.take_append_drop]
          have e3 : R.eraseIdx i = R.take i ++ R.drop (i + 1) := List.eraseIdx_eq_take_drop_succ _ _
          rw [e3]
          have e4 : (R.take i ++ z :: R.drop (i + 1)).Perm (z :: (R.take i ++ R.drop (i + 1))) := List.perm_middle
          rw [<- e1] at e4
          exact e4
        have nd2 := List.nodup_cons.mp (pe.nodup_iff.mp nd)
        rw [pe.mem_iff, List.mem_cons]
        exact ⟨fun h => ⟨.inr h, fun e => nd2.1 (by rw [<- e]; exact h)⟩, fun ⟨h1, h2⟩ => h1.resolve_left h2⟩
      have nd' : (R.eraseIdx i).Nodup := nd.sublist (List.eraseIdx_sublist _ _)
      have off : ∀ u, u ∈ R.eraseIdx i -> u ≠ x /\ u ≠ y := fun u hu => by
        obtain ⟨h1, h2⟩ := (me u).mp hu
        have nr : u ≠ r := fun e => hr (by rw [<- e]; exact h1)
        exact ⟨fun e => ((two u).mp (.inl e)).elim nr h2, fun e => ((two u).mp (.inr e)).elim nr h2⟩
      rw [es, <- ih (ps.erase t) (hs.map (mgP x y)) x (R.eraseIdx i) (by lia) (by lia) (by rw [List.length_map]; exact hb') nd' (fun e => (off x e).1 rfl) fun u => ?_, lab_map hb']
      · exact det_congr fun a b ha hb2 => by
          unfold mt
          rw [sm_map ((ps.erase t).map (labQ hs)) (mgQ x y)]
          exact sm_congr fun s _ => (tieM_mg s xy (off _ (gR_mem ha)) (off _ (gR_mem hb2))).symm
      · rw [List.mem_map, List.mem_cons]
        constructor
        · rintro ⟨v, hv, rfl⟩
          unfold mgP
          by_cases q : v = y
          · rw [if_pos q]; exact .inl rfl
          · rw [if_neg q]
            by_cases q2 : v = x
            · exact .inl q2
            · right
              have nrz : ¬ (v = r \/ v = z) := fun w => ((two v).mpr w).elim q2 q
              exact (me v).mpr ⟨(List.mem_cons.mp ((hm v).mp hv)).resolve_left fun w => nrz (.inl w), fun w => nrz (.inr w)⟩
        · have rin : r ∈ hs := (hm r).mpr List.mem_cons_self
          have zin : z ∈ hs := (hm z).mpr (List.mem_cons_of_mem _ hz)
          rintro (e | hu)
          · have xin : x ∈ hs := by
              rcases (two x).mp (.inl rfl) with w | w
              · rw [w]; exact rin
              · rw [w]; exact zin
            exact ⟨x, xin, by rw [mg_x]; exact e.symm⟩
          · exact ⟨u, (hm u).mpr (List.mem_cons_of_mem _ ((me u).mp hu).1), by unfold mgP; rw [if_neg (off u hu).2]⟩
    · have nx : ∀ t ∈ ps, (at0 hs t.1 = r ↔ at0 hs t.2 = r) := fun t ht => Classical.byContradiction fun z => ex ⟨t, ht, z⟩
      obtain ⟨x, hx⟩ := List.exists_mem_of_ne_nil R eR
      rw [tC_iso ps hs h8 hb ((hm r).mpr List.mem_cons_self) ⟨x, (hm x).mpr (List.mem_cons_of_mem _ hx), fun e => hr (by rw [<- e]; exact hx)⟩ nx]
      refine dT_zero nd eR fun s hs' => ?_
      obtain ⟨t, ht, rfl⟩ := List.mem_map.mp hs'
      have tb := hb t ht
      have m1 := (hm _).mp (at_mem (l := hs) tb.1 tb.2.1)
      have m2 := (hm _).mp (at_mem (l := hs) tb.2.2.1 tb.2.2.2)
      have n := nx t ht
      show at0 hs t.1 ∈ R ↔ at0 hs t.2 ∈ R
      constructor
      · intro w
        exact (List.mem_cons.mp m2).resolve_left fun e => hr (by rw [<- n.mpr e]; exact w)
      · intro w
        exact (List.mem_cons.mp m1).resolve_left fun e => hr (by rw [<- n.mp e]; exact w)
def detL : Nat -> List (List Int) -> Int
  | 0, _ => 1
  | n + 1, rows => sumN (n + 1) fun c => sg c * (rows.getD 0 []).getD c 0 * detL n (rows.tail.map fun r => r.eraseIdx c)
theorem getD_erase {r : List Int} {c j : Nat} : (r.eraseIdx c).getD j 0 = r.getD (sk c j) 0 := by
  unfold sk
  rw [List.getD_eq_getElem?_getD, List.getD_eq_getElem?_getD, List.getElem?_eraseIdx]
  by_cases k : j < c
  · rw [if_pos k, if_pos k]
  · rw [if_neg k, if_neg k]
theorem detL_is : ∀ {n : Nat} {rows : List (List Int)}, rows.length = n -> detL n rows = detN n fun i j => (rows.getD i []).getD j 0
  | 0, _, _ => rfl
  | n + 1, rows, h => by
    cases rows with
    | nil => cases h
    | cons r rows =>
      have hl : rows.length = n := Nat.succ.inj h
      show (sumN (n + 1) fun c => sg c * r.getD c 0 * detL n (rows.map fun r => r.eraseIdx c)) = _
      rw [detN_s]
      refine sumN_congr fun c _ => ?_
      rw [detL_is (rows := rows.map fun r => r.eraseIdx c) (by rw [List.length_map]; exact hl)]
      congr 1
      refine det_congr fun i j hi _ => ?_
      show ((rows.map fun r => r.eraseIdx c).getD i []).getD j 0 = (rows.getD i []).getD (sk c j) 0
      have hi' : i < rows.length := by lia
      rw [List.getD_eq_getElem?_getD (l := rows.map _), List.getElem?_map, List.getElem?_eq_getElem hi', List.getD_eq_getElem?_getD (l := rows), List.getElem?_eq_getElem hi']
      exact getD_erase
def tabL (n : Nat) (ps : List (Int × Int)) : List (List Int) := (ups (n : Int)).map fun x => (ups (n : Int)).map fun y => mt ps x y
def cutL (rows : List (List Int)) (k : Nat) : List (List Int) := (rows.eraseIdx k).map fun r => r.eraseIdx k
theorem ups_gR {n : Nat} {i : Nat} (h : i < n) : gR (ups (n : Int)) i = (i : Int) := by
  unfold gR ups
  rw [Int.toNat_natCast, List.getD_eq_getElem?_getD]
  simp [h]
theorem corner_is {n : Nat} {ps : List (Int × Int)} {k : Nat} (hk : k < n) : detL (n - 1) (cutL (tabL n ps) k) = dT ps ((ups (n : Int)).eraseIdx k) := by
  have ul : (ups (n : Int)).length = n := by rw [ups_len, Int.toNat_natCast]
  have el : ((ups (n : Int)).eraseIdx k).length = n - 1 := by rw [List.length_eraseIdx_of_lt (by lia)]; lia
  have cl : (cutL (tabL n ps) k).length = n - 1 := by
    unfold cutL tabL
    rw [List.length_map, List.length_eraseIdx_of_lt (by rw [List.length_map]; lia), List.length_map]
    lia
  rw [detL_is cl]
  unfold dT
  rw [el]
  refine det_congr fun i j hi hj => ?_
  have si : sk k i < n := by have := sk_lt (c := k) hi; lia
  have sj : sk k j < n := by have := sk_lt (c := k) hj; lia
  rw [gR_erase, gR_erase, ups_gR si, ups_gR sj]
  unfold cutL tabL
  have e1 : (((ups (n : Int)).map fun x => (ups (n : Int)).map fun y => mt ps x y).eraseIdx k)[i]? = some ((ups (n : Int)).map fun y => mt ps ((sk k i : Nat) : Int) y) := by
    rw [List.getElem?_eraseIdx]
    have e : ∀ a, a < n -> ((ups (n : Int)).map fun x => (ups (n : Int)).map fun y => mt ps x y)[a]? = some ((ups (n : Int)).map fun y => mt ps (a : Int) y) := fun a ha => by
      rw [List.getElem?_map]
      have : (ups (n : Int))[a]? = some (a : Int) := by
        unfold ups
        rw [Int.toNat_natCast]
        simp [ha]
      rw [this]
      rfl
    unfold sk at si ⊢
    by_cases c : i < k
    · rw [if_pos c, if_pos c]; exact e i (by lia)
    · rw [if_neg c, if_neg c]; exact e (i + 1) (by lia)
  rw [List.getD_eq_getElem?_getD (l := List.map _ _), List.getElem?_map, e1]
  show (((ups (n : Int)).map fun y => mt ps ((sk k i : Nat) : Int) y).eraseIdx k).getD j 0 = _
  rw [getD_erase, List.getD_eq_getElem?_getD, List.getElem?_map]
  have : (ups (n : Int))[sk k j]? = some ((sk k j : Nat) : Int) := by
    unfold ups
    rw [Int.toNat_natCast]
    simp [sj]
  rw [this]
  rfl
theorem corner_tC {n : Nat} {ps : List (Int × Int)} {k : Nat} (hk : k < n) (hb : ∀ p ∈ ps, InN (n : Int) p) (h8 : ps.length <= 8) : detL (n - 1) (cutL (tabL n ps) k) = tC (ups (n : Int)) ps := by
  have lab : ps.map (labQ (ups (n : Int))) = ps := by
    refine Eq.trans (List.map_congr_left (g := id) fun p hp => ?_) (List.map_id _)
    have b := hb p hp
    show (at0 (ups (n : Int)) p.1, at0 (ups (n : Int)) p.2) = p
    rw [at_ups b.1 b.2.1, at_ups b.2.2.1 b.2.2.2]
  have ul : (ups (n : Int)).length = n := by rw [ups_len, Int.toNat_natCast]
  have nd : (ups (n : Int)).Nodup := List.nodup_iff_pairwise_ne.mpr ((ups_up (n : Int)).imp fun h => by lia)
  have gk : (ups (n : Int))[k]'(by lia) = (k : Int) := by
    unfold ups
    simp
  have pe : (ups (n : Int)).Perm ((k : Int) :: (ups (n : Int)).eraseIdx k) := by
    have e1 : ups (n : Int) = (ups (n : Int)).take k ++ (k : Int) :: (ups (n : Int)).drop (k + 1) := by
      rw [<- gk, List.getElem_cons_drop, List.take_append_drop]
    have e3 : (ups (n : Int)).eraseIdx k = (ups (n : Int)).take k ++ (ups (n : Int)).drop (k + 1) := List.eraseIdx_eq_take_drop_succ _ _
    rw [e3]
    have e4 : ((ups (n : Int)).take k ++ (k : Int) :: (ups (n : Int)).drop (k + 1)).Perm ((k : Int) :: ((ups (n : Int)).take k ++ (ups (n : Int)).drop (k + 1))) := List.perm_middle
    rw [<- e1] at e4
    exact e4
  have nd2 := List.nodup_cons.mp (pe.nodup_iff.mp nd)
  have mt := matrix_tree _ ps (ups (n : Int)) (k : Int) ((ups (n : Int)).eraseIdx k) (Nat.le_refl _) h8 (fun p hp => by rw [ul]; exact hb p hp) nd2.2 nd2.1 fun x => pe.mem_iff
  rw [lab] at mt
  rw [corner_is hk, mt]
def isWhole : V -> Bool
  | .int _ => true
  | _ => false
def isWithin (lo hi : Int) : V -> Bool
  | .int i => decide (lo <= i) && decide (i <= hi)
  | _ => false
def Plain (K : W.Frag) (H : Hp) (x : V) : Prop := ∃ t, TyOf K H x t /\ ∀ C, t ≠ .ref C
theorem plain_int (K : W.Frag) (H : Hp) (i : Int) : Plain K H (.int i) := ⟨_, .int i, fun _ z => nomatch z⟩
theorem kit_whole {K : W.Frag} {H : Hp} {x : V} {t : Value} (h : TyOf K H x t) (hn : ∀ C, t ≠ .ref C) :
    (PySem.W.kitOne K t (.type "int") = some false /\ isWhole x = false) \/ (PySem.W.kitOne K t (.type "int") = some true /\ ∃ b, PySem.W.kitOne K t (.type "bool") = some b /\ isWhole x = !b) := by
  cases h with
  | non => exact .inl ⟨by first | rfl | decide +kernel, rfl⟩
  | bl b => exact .inr ⟨by first | rfl | decide +kernel, true, by rfl, rfl⟩
  | int i => exact .inr ⟨by rfl, false, by first | rfl | decide +kernel, rfl⟩
  | str x => exact .inl ⟨by first | rfl | decide +kernel, rfl⟩
  | flt x => exact .inl ⟨by first | rfl | decide +kernel, rfl⟩
  | lst e => exact .inl ⟨by first | rfl | decide +kernel, rfl⟩
  | frz e => exact .inl ⟨by first | rfl | decide +kernel, rfl⟩
  | tup e => exact .inl ⟨by first | rfl | decide +kernel, rfl⟩
  | dK e => exact .inl ⟨by first | rfl | decide +kernel, rfl⟩
  | dT e => exact .inl ⟨by first | rfl | decide +kernel, rfl⟩
  | ins => exact absurd rfl (hn _)
def spWhole (K : W.Frag) : Sp := fun vs H Q _ => ∃ x, vs = [x] /\ Plain K H x /\ Q (.bl (isWhole x)) H
def spWithin (K : W.Frag) : Sp := fun vs H Q _ => ∃ x lo hi, vs = [x, .int lo, .int hi] /\ Plain K H x /\ Q (.bl (isWithin lo hi x)) H
section
variable {P : Program} {w : World} {K : W.Frag} {mg : Str -> Option Value} {base : Heap}
theorem scWholeP : FnScope ["thing"] ["thing"] (defScope sIsWhole) := ⟨rfl, rfl, rfl, by decide +kernel, rfl, by decide +kernel, by decide +kernel⟩
theorem d_wholeP (T : Txt K mg) (S : Src K mg "is_whole" sIsWhole ["thing"]) : Def P w K mg base 1 "is_whole" ["thing"] (spWhole K) := by
  refine S.def scWholeP (fun vs H Q E h => ?_) (fun f cdv A outer s H vs Q E hr h => ?_)
  · obtain ⟨x, rfl, _⟩ := h; rfl
  · obtain ⟨x, rfl, ⟨t, ty, hn⟩, q⟩ := h
    refine ⟨_, pss_one (ps_ret (pe_and (pe_callB (call_isiK K) (by rfl) T.isi boot_isi (pa_cons (pv 0) (pa_cons (pe_bltn (v := .ty "int") rfl T.int boot_int' rfl) pa_nil)))
      (pe_one (pe_not (pe_callB (call_isiK K) (by rfl) T.isi boot_isi (pa_cons (pv 0) (pa_cons (pe_bltn (v := .ty "bool") rfl T.bool boot_bool' rfl) pa_nil))))))), ?_⟩
    rcases kit_whole ty hn with ⟨e1, e2⟩ | ⟨e1, b, e2, e3⟩
    · rw [e2] at q
      exact ⟨_, rfl, _, _, _, _, _, rfl, rfl, ty, e1, _, rfl, iteF q⟩
    · rw [e3] at q
      exact ⟨_, rfl, _, _, _, _, _, rfl, rfl, ty, e1, _, rfl, iteT ⟨_, rfl, _, _, _, _, _, rfl, rfl, ty, e2, _, rfl, q⟩⟩
theorem scWithinP : FnScope ["thing", "least", "greatest"] ["thing", "least", "greatest"] (defScope sWithin) := ⟨rfl, rfl, rfl, by decide +kernel, rfl, by decide +kernel, by decide +kernel⟩
theorem d_withinP (T : Txt K mg) (S : Src K mg "is_whole_within" sWithin ["thing", "least", "greatest"]) (D : Def P w K mg base 1 "is_whole" ["thing"] (spWhole K)) : Def P w K mg base 2 "is_whole_within" ["thing", "least", "greatest"] (spWithin K) := by
  refine S.def scWithinP (fun vs H Q E h => ?_) (fun f cdv A outer s H vs Q E hr h => ?_)
  · obtain ⟨x, lo, hi, rfl, _⟩ := h; rfl
  · obtain ⟨x, lo, hi, rfl, hp, q⟩ := h
    refine ⟨_, pss_one (ps_ret (pe_and (pe_def D hr rfl (pa_cons (pv 0) pa_nil)) (pe_one (pe_chain op_le op_le (pv 1) (pv 0) (pv 2))))), ?_⟩
    refine ⟨_, rfl, _, rfl, hp, _, rfl, ?_⟩
    cases hw : isWhole x with
    | false =>
      have e : isWithin lo hi x = false := by cases x <;> first | rfl | (simp [isWhole] at hw)
      rw [e] at q
      exact iteF q
    | true =>
      obtain ⟨i, rfl⟩ : ∃ i, x = .int i := by cases x <;> first | exact ⟨_, rfl⟩ | (simp [isWhole] at hw)
      refine iteT ⟨_, rfl, _, rfl, _, _, rfl, rfl, _, rfl, ?_⟩
      have e : isWithin lo hi (.int i) = (decide (lo <= i) && decide (i <= hi)) := rfl
      rw [e] at q
      cases h1 : decide (lo <= i) with
      | false => rw [h1] at q; exact iteF q
      | true => rw [h1] at q; exact iteT ⟨_, rfl, _, _, rfl, rfl, q⟩
end
theorem cut_preN (xs : List V) {j : Nat} : cutV xs none (some (j : Int)) = xs.take j := by
  unfold cutV
  rw [HT.sIx_nat]
  show (xs.drop 0).take (min j xs.length - 0) = _
  rw [List.drop_zero, Nat.sub_zero]
  by_cases c : j <= xs.length
  · rw [Nat.min_eq_left c]
  · rw [Nat.min_eq_right (by lia), List.take_length, List.take_of_length_le (by lia)]
theorem cut_suf56 (xs : List V) {j : Nat} : cutV xs (some ((j : Int) + 1)) none = xs.drop (j + 1) := by
  unfold cutV
  rw [show ((j : Int) + 1) = ((j + 1 : Nat) : Int) by lia, HT.sIx_nat, show HT.sIx xs.length xs.length none = xs.length from rfl]
  by_cases h : j + 1 <= xs.length
  · rw [Nat.min_eq_left h, List.take_of_length_le (by rw [List.length_drop]; exact Nat.le_refl _)]
  · rw [Nat.min_eq_right (by lia), Nat.sub_self, List.take_zero, List.drop_of_length_le (by lia)]
def spWoP : Sp := fun vs H Q _ => ∃ (l : Addr) (xs : List V) (k : Nat), vs = [.ref l, .int k] /\ H l = some (.lst xs) /\ k < xs.length /\ xs.length <= 9 /\ ∀ g H', Same H H' -> H' g = some (.lst (xs.eraseIdx k)) -> Q (.ref g) H'
section
variable {P : Program} {w : World} {K : W.Frag} {mg : Str -> Option Value} {base : Heap}
theorem scWoP : FnScope ["things", "place"] ["things", "place"] (defScope sWoP) := ⟨rfl, rfl, rfl, by decide +kernel, rfl, by decide +kernel, by decide +kernel⟩
theorem d_wop (S : Src K mg "without_place" sWoP ["things", "place"]) : Def P w K mg base 1 "without_place" ["things", "place"] spWoP := by
  refine S.def scWoP (fun vs H Q E h => ?_) (fun f cdv A outer s H vs Q E hr h => ?_)
  · obtain ⟨_, _, _, rfl, _⟩ := h; rfl
  · obtain ⟨l, xs, k, rfl, hl, hk, h9, q⟩ := h
    refine ⟨_, pss_one (ps_ret (pe_op op_cat (pe_slice (sl_listK K) (pv 0) po_none (po_some (pv 1))) (pe_slice (sl_listK K) (pv 0) (po_some (pe_op op_add (pv 1) pe_int)) po_none))), ?_⟩
    refine ⟨_, rfl, _, rfl, _, rfl, l, xs, rfl, SqL.of hl, fun p1 h1 => ?_⟩
    have s1 := Same.new (o := HO.lst (cutV xs none (some (k : Int)))) h1
    refine ⟨_, rfl, _, rfl, _, _, rfl, rfl, _, rfl, l, xs, rfl, SqL.of (s1 _ _ hl), fun p2 h2 => ?_⟩
    rw [cut_preN] at s1 h2 ⊢
    rw [cut_suf56]
    have s2 := Same.new (o := HO.lst (xs.drop (k + 1))) h2
    refine ⟨p1, p2, _, _, rfl, rfl, s2 _ _ upd_same, upd_same, ?_, fun g hg => ?_⟩
    · rw [List.length_take, List.length_drop]
      exact Nat.le_trans (show min k xs.length + (xs.length - (k + 1)) <= 300 by lia) (by decide)
    refine q g _ (s1.trans (s2.trans (Same.new hg))) ?_
    rw [upd_same, List.eraseIdx_eq_take_drop_succ]
end
def RowAt (H : Hp) (v : V) (r : List Int) : Prop := ∃ a, v = .ref a /\ H a = some (.lst (r.map V.int))
theorem RowAt.same {H H' : Hp} {v : V} {r : List Int} (h : RowAt H v r) (e : Same H H') : RowAt H' v r := let ⟨a, h1, h2⟩ := h; ⟨a, h1, e _ _ h2⟩
theorem rows_same {H H' : Hp} {xs : List V} {rs : List (List Int)} (h : Paired (RowAt H) xs rs) (e : Same H H') : Paired (RowAt H') xs rs := L2.Paired.mapP h fun _ _ q => q.same e
theorem get_int' {ks : List Int} {i : Nat} {x : V} (hx : (ks.map V.int)[i]? = some x) : ∃ k, ks[i]? = some k /\ V.int k = x := by
  rw [List.getElem?_map] at hx
  cases e : ks[i]? with
  | none => rw [e] at hx; simp at hx
  | some k => rw [e] at hx; simp at hx; exact ⟨k, rfl, hx⟩
theorem er_map (r : List Int) (k : Nat) : (r.map V.int).eraseIdx k = (r.eraseIdx k).map V.int := by
  rw [List.eraseIdx_eq_take_drop_succ, List.eraseIdx_eq_take_drop_succ, List.map_append, List.map_take, List.map_drop]
theorem ten_line {n : Nat} (h : n <= 10) : n < sizeLine := Nat.lt_of_le_of_lt h (by decide)
structure Sqr (d : Nat) (rows : List (List Int)) : Prop where
  len : rows.length = d
  cols : ∀ r ∈ rows, r.length = d
  few : ∀ r ∈ rows, ∀ x ∈ r, -8 <= x /\ x <= 8
theorem mem_erase {α : Type} {r : List α} {k : Nat} {x : α} (h : x ∈ r.eraseIdx k) : x ∈ r := List.mem_of_mem_eraseIdx h
theorem Sqr.down {d : Nat} {r : List Int} {rows : List (List Int)} (s : Sqr (d + 1) (r :: rows)) {c : Nat} (hc : c < d + 1) : Sqr d (rows.map fun r => r.eraseIdx c) := by
  refine ⟨?_, fun u hu => ?_, fun u hu x hx => ?_⟩
  · rw [List.length_map]; exact Nat.succ.inj s.len
  · obtain ⟨v, hv, rfl⟩ := List.mem_map.mp hu
    have e := s.cols v (List.mem_cons_of_mem _ hv)
    rw [List.length_eraseIdx_of_lt (by lia), e]
    rfl
  · obtain ⟨v, hv, rfl⟩ := List.mem_map.mp hu
    exact s.few v (List.mem_cons_of_mem _ hv) x (mem_erase hx)
theorem sg_pm : ∀ c, sg c = 1 \/ sg c = -1
  | 0 => .inl rfl
  | c + 1 => by
    show -sg c = 1 \/ -sg c = -1
    rcases sg_pm c with h | h <;> rw [h]
    · exact .inr rfl
    · exact .inl rfl
def dTerm (d : Nat) (r : List Int) (rows : List (List Int)) (c : Nat) : Int := sg c * r.getD c 0 * detL d (rows.map fun r => r.eraseIdx c)
def spDet (d : Nat) : Sp := fun vs H Q _ => ∃ (l : Addr) (xs : List V) (rows : List (List Int)), vs = [.ref l] /\ H l = some (.lst xs) /\ Paired (RowAt H) xs rows /\ Sqr d rows /\ d <= 8 /\ ∀ H', Same H H' -> Q (.int (detL d rows)) H'
section
variable {P : Program} {w : World} {K : W.Frag} {mg : Str -> Option Value} {base : Heap}
theorem scDet : FnScope ["rows", "total", "sign", "column", "number"] ["rows"] (defScope sDet) := ⟨rfl, rfl, rfl, by decide +kernel, rfl, by decide +kernel, by decide +kernel⟩
theorem d_det0 (S : Src K mg "determinant" sDet ["rows"]) : Def P w K mg base (2 + 0) "determinant" ["rows"] (spDet 0) := by
  refine S.def (k := 1) scDet (fun vs H Q E h => ?_) (fun f cdv A outer s H vs Q E hr h => ?_)
  · obtain ⟨_, _, _, rfl, _⟩ := h; rfl
  · obtain ⟨l, xs, rows, rfl, hl, pr, sq, d8, q⟩ := h
    have e : rows = [] := List.length_eq_zero_iff.mp sq.len
    subst e
    cases pr
    refine ⟨_, pss_cons (ps_if (pt_not (pt_truth (pv 0) (fun _ => rfl))) (pss_one (ps_ret pe_int)) pss_nil) pss_never, ?_⟩
    refine ⟨_, rfl, false, .inl ⟨[], SqL.of hl, rfl⟩, iteT ?_⟩
    exact q H (Same.refl _)
theorem nd_rc : (["row", "column"] : List Str).Nodup := by decide +kernel
theorem d_det1 {d : Nat} (henum : mg "enumerate" = none) (S : Src K mg "determinant" sDet ["rows"]) (DW : Def P w K mg base 1 "without_place" ["things", "place"] spWoP) (DD : Def P w K mg base (2 + d) "determinant" ["rows"] (spDet d)) : Def P w K mg base (2 + (d + 1)) "determinant" ["rows"] (spDet (d + 1)) := by
  refine S.def (k := 2 + d) scDet (fun vs H Q E h => ?_) (fun f cdv A outer s H vs Q E hr h => ?_)
  · obtain ⟨_, _, _, rfl, _⟩ := h; rfl
  · obtain ⟨l, xs, rows, rfl, hl, pr, sq, d8, q⟩ := h
    have hr1 : Room 1 _ := hr.mono (by lia)
    refine ⟨_, pss_cons (ps_if (pt_not (pt_truth (pv 0) (fun _ => rfl))) (pss_one (ps_ret pe_int)) pss_nil)
      (pss_cons (ps_set (i := 1) scDet.nd rfl (Or.inl rfl) pe_int)
      (pss_cons (ps_set (i := 2) scDet.nd rfl (Or.inl rfl) pe_int)
      (pss_cons (ps_for PassesOwn.never rfl (pi_enumK K .l rfl henum (pa_cons (pe_ix (ix_listK K) (pv 0) pe_int (fun _ _ => rfl)) pa_nil)) (pg_tupK K 2 rfl (pgs_cons (pg_name (i := 3) scDet.nd rfl (Or.inr rfl)) (pgs_cons (pg_name (i := 4) scDet.nd rfl (Or.inl rfl)) pgs_nil)))
        (pss_cons (ps_if (pt_cmpR op_ne (pv 4) pe_int (nomark _)) (pss_one (ps_set (i := 1) scDet.nd rfl (Or.inl rfl) (pe_op op_add (pv 1) (pe_op op_mul (pe_op op_mul (pv 2) (pv 4)) (pe_def DD hr rfl (pa_cons (pe_comp (N' := ["row", "column"]) (fr := [none, some 3]) (compOk_of (by rfl)) rfl (pi_seqK K .l (pe_slice (sl_listK K) (pv 0) (po_some pe_int) po_none)) (fun _ _ _ _ => pg_name (i := 0) nd_rc rfl (Or.inl rfl) (Or.inr rfl)) (fun _ _ _ _ => pifs_nil)
          (fun _ _ _ _ => pe_def DW hr1 rfl (pa_cons (pv 0) (pa_cons (pv 1) pa_nil)))) pa_nil)))))) pss_nil)
        (pss_one (ps_set (i := 2) scDet.nd rfl (Or.inl rfl) (pe_un un_neg (pv 2))))))
      (pss_one (ps_ret (pv 1)))))), ?_⟩
    cases rows with
    | nil => exact absurd sq.len (by simp)
    | cons r rows =>
    cases pr with
    | cons h1 h2 =>
    rename_i x xs
    obtain ⟨ra, rfl, hra⟩ := h1
    have rl := sq.cols r (List.mem_cons_self ..)
    have xl : xs.length = d := (Paired.length h2).trans (Nat.succ.inj sq.len)
    refine ⟨_, rfl, true, .inl ⟨_, SqL.of hl, rfl⟩, iteF ?_⟩
    dsimp only [List.set]
    refine ⟨_, rfl, l, _, _, _, rfl, rfl, SqL.of hl, atI_nat (j := 0) rfl, ra, _, rfl, SqL.of hra, for_enum (k := .l) (K := K) (a := ra) (xs := r.map V.int) (fun i σ H' => (∃ u v, σ = [some (.ref l), some (.int (sumN i (dTerm d r rows))), some (.int (sg i)), u, v]) /\ Same H H') ⟨⟨_, _, rfl⟩, Same.refl _⟩ (fun i σ H' _ z => SqL.of (z.2 _ _ hra)) ?_ ?_⟩
    · rintro i x p σ H1 hx ⟨⟨u, v, rfl⟩, sm⟩ hp
      obtain ⟨t, et, rfl⟩ := get_int' hx
      have il := (List.getElem?_eq_some_iff.mp et).1
      have tb := sq.few r (List.mem_cons_self ..) t (List.mem_of_getElem? et)
      have gt : r.getD i 0 = t := by rw [List.getD_eq_getElem?_getD, et]; rfl
      have s2 := sm.trans (Same.new (o := HO.tup [.int i, .int t]) hp)
      refine ⟨p, _, rfl, SqT.of upd_same, rfl, _, _, rfl, _, _, rfl, rfl, ?_⟩
      generalize upd H1 p (.tup [.int (i : Int), .int t]) = H2 at s2 ⊢
      dsimp only [List.set]
      have ev : sumN (i + 1) (dTerm d r rows) = sumN i (dTerm d r rows) + sg i * t * detL d (rows.map fun r => r.eraseIdx i) := by
        show _ + dTerm d r rows i = _
        unfold dTerm
        rw [gt]
      refine ⟨_, rfl, rfl, _, rfl, ?_⟩
      by_cases z : t = 0
      · rw [decide_eq_true (show V.int t = V.int 0 by rw [z])]
        refine iteF ⟨_, rfl, _, rfl, ⟨⟨some (.int (i : Int)), some (.int t), ?_⟩, s2⟩⟩
        rw [ev, z, Int.mul_zero, Int.zero_mul, Int.add_zero]
        rfl
      · rw [decide_eq_false (show ¬ V.int t = V.int 0 from fun y => z (by injection y))]
        refine iteT ⟨_, rfl, _, rfl, _, rfl, _, _, rfl, rfl, ?_, _, rfl, _, rfl, l, _, rfl, SqL.of (s2 _ _ hl), fun p3 hp3 => ⟨p3, rfl, ⟨_, SqL.of upd_same⟩, ?_⟩⟩
        · rcases sg_pm i with e | e <;> rw [e]
          · exact .inl ⟨by decide, by decide⟩
          · exact .inl ⟨by decide, by decide⟩
        have ec : cutV (V.ref ra :: xs) (some ((0 : Nat) + 1 : Int)) none = xs := cut_suf56 _
        have ec' : cutV (V.ref ra :: xs) (some 1) none = xs := ec
        rw [ec']
        have s3 := s2.trans (Same.new (o := HO.lst xs) hp3)
        have hp3' : (upd H2 p3 (.lst xs)) p3 = some (.lst xs) := upd_same
        generalize upd H2 p3 (.lst xs) = H3 at s3 hp3' ⊢
        refine comp_seq (k := .l) (K := K) (a := p3) (xs := xs) (fun σ => ∃ u, σ = [u, some (.int (i : Int))]) (fun j ys H' => Same H3 H' /\ Paired (RowAt H') ys ((rows.take j).map fun r => r.eraseIdx i)) ⟨_, rfl⟩ ⟨Same.refl _, .nil⟩ (ten_line (by lia)) (fun j ys H' _ z => SqL.of (z.1 _ _ hp3')) ?_ ?_
        · rintro j y ys σ H4 N hy ⟨u, rfl⟩ ⟨sm4, pr4⟩ hN
          obtain ⟨ro, ero, a, rfl, ha⟩ := Paired.at h2 hy
          have rol := sq.cols ro (List.mem_cons_of_mem _ (List.mem_of_getElem? ero))
          dsimp only [gName, List.set]
          refine yesT ⟨_, rfl, _, rfl, a, ro.map V.int, i, rfl, sm4 _ _ (s3 _ _ ha), by rw [List.length_map]; lia, by rw [List.length_map]; lia, fun g H5 s5 hg => ?_⟩
          refine hN _ _ _ ⟨_, rfl⟩ ⟨sm4.trans s5, ?_⟩ (by simp)
          rw [take_succ_of ero, List.map_append]
          exact L2.Paired.snoc (rows_same pr4 s5) ⟨g, rfl, by rw [hg, er_map]⟩
        · rintro ys H4 ⟨sm4, pr4⟩ p5 hp5
          rw [xl, List.take_of_length_le (by rw [Nat.succ.inj sq.len]; exact Nat.le_refl _)] at pr4
          have s5 := Same.new (o := HO.lst ys) hp5
          refine ⟨p5, ys, _, rfl, upd_same, rows_same pr4 s5, sq.down (by lia), by lia, fun H6 s6 => ?_⟩
          refine ⟨_, _, rfl, rfl, ?_, _, _, rfl, rfl, ?_⟩
          · have : -8 <= sg i * t /\ sg i * t <= 8 := by rcases sg_pm i with e | e <;> rw [e] <;> lia
            exact .inl ⟨Int.lt_of_lt_of_le (by decide) this.1, Int.lt_of_le_of_lt this.2 (by decide)⟩
          dsimp only [List.set]
          refine ⟨_, rfl, _, rfl, ⟨⟨some (.int (i : Int)), some (.int t), ?_⟩, s3.trans (sm4.trans (s5.trans s6))⟩⟩
          rw [ev]
          rfl
    · rintro σ H1 ⟨⟨u, v, rfl⟩, sm⟩
      rw [List.length_map, rl]
      exact ⟨_, rfl, q H1 sm⟩
theorem d_det (henum : mg "enumerate" = none) (S : Src K mg "determinant" sDet ["rows"]) (DW : Def P w K mg base 1 "without_place" ["things", "place"] spWoP) : ∀ d, Def P w K mg base (2 + d) "determinant" ["rows"] (spDet d)
  | 0 => d_det0 S
  | d + 1 => d_det1 henum S DW (d_det henum S DW d)
end
def WebOk (n : Int) (ps : List (Int × Int)) : Prop := (1 <= n /\ n <= 9) /\ (∀ p ∈ ps, InN n p) /\ ps.length <= 8
theorem put_fresh {H H2 : Hp} {g : Addr} {o : HO} (s : Same H H2) (h : H g = none) : Same H (upd H2 g o) := fun b u e => by rw [upd_ne (ne_of_none e h)]; exact s b u e
def rowM (n : Nat) (g : Int -> Int) : List Int := (ups (n : Int)).map g
theorem rowM_len (n : Nat) (g : Int -> Int) : (rowM n g).length = n := by unfold rowM; rw [List.length_map, ups_len, Int.toNat_natCast]
theorem rowM_at {n : Nat} (g : Int -> Int) {y : Int} (h0 : 0 <= y) (h1 : y < n) : atI ((rowM n g).map V.int) y = some (.int (g y)) := by
  obtain ⟨j, rfl⟩ := Int.eq_ofNat_of_zero_le h0
  have e : (ups (n : Int))[j]? = some (j : Int) := by
    unfold ups
    rw [Int.toNat_natCast]
    have hj : j < n := by lia
    simp [hj]
  refine atI_nat ?_
  unfold rowM
  rw [List.getElem?_map, List.getElem?_map, e]
  rfl
theorem rowM_set {n : Nat} (g : Int -> Int) {y v : Int} (h0 : 0 <= y) (h1 : y < n) : ((rowM n g).map V.int).set y.toNat (.int v) = (rowM n fun u => if u = y then v else g u).map V.int := by
  obtain ⟨j, rfl⟩ := Int.eq_ofNat_of_zero_le h0
  rw [<- List.map_set]
  congr 1
  refine List.ext_getElem (by rw [List.length_set, rowM_len, rowM_len]) fun i h2 h3 => ?_
  rw [List.getElem_set]
  unfold rowM ups
  simp
  by_cases c : j = i
  · subst c; simp
  · rw [if_neg c, if_neg (by lia)]
structure TabS (H0 H : Hp) (l : Addr) (as : List Addr) (n : Nat) (M : Int -> Int -> Int) : Prop where
  sm : Same H0 H
  hl : H l = some (.lst (as.map V.ref))
  len : as.length = n
  nd : as.Nodup
  fr : ∀ a ∈ as, H0 a = none
  ln : l ∉ as
  row : ∀ (i : Nat) (a : Addr), as[i]? = some a -> H a = some (.lst ((rowM n (M i)).map V.int))
def bump (M : Int -> Int -> Int) (x y d : Int) : Int -> Int -> Int := fun u v => if u = x /\ v = y then M u v + d else M u v
theorem TabS.put {H0 H : Hp} {l : Addr} {as : List Addr} {n : Nat} {M : Int -> Int -> Int} {x y : Int} (t : TabS H0 H l as n M) (x0 : 0 <= x) (x1 : x < n) (y0 : 0 <= y) (y1 : y < n) (d : Int) : ∃ a, atI (as.map V.ref) x = some (.ref a) /\ H a = some (.lst ((rowM n (M x)).map V.int)) /\ TabS H0 (upd H a (.lst (((rowM n (M x)).map V.int).set y.toNat (.int (M x y + d))))) l as n (bump M x y d) := by
  obtain ⟨j, rfl⟩ := Int.eq_ofNat_of_zero_le x0
  have jl : j < as.length := by rw [t.len]; lia
  have ej : as[j]? = some as[j] := List.getElem?_eq_getElem jl
  refine ⟨as[j], atI_nat (by rw [List.getElem?_map, ej]; rfl), t.row j _ ej, ?_⟩
  refine ⟨put_fresh t.sm (t.fr _ (List.getElem_mem jl)), ?_, t.len, t.nd, t.fr, t.ln, fun i a ea => ?_⟩
  · rw [upd_ne fun z => t.ln (by rw [z]; exact List.getElem_mem jl)]
    exact t.hl
  · rw [rowM_set _ y0 y1]
    have il := (List.getElem?_eq_some_iff.mp ea)
    by_cases c : i = j
    · subst c
      rw [ej] at ea
      cases ea
      rw [upd_same]
      refine congrArg (fun g => some (HO.lst ((rowM n g).map V.int))) (funext fun v => ?_)
      unfold bump
      by_cases e : v = y
      · rw [if_pos e, if_pos ⟨rfl, e⟩, e]
      · rw [if_neg e, if_neg fun z => e z.2]
    · have ne : a ≠ as[j] := fun z => by
        have := (List.getElem_inj t.nd).mp (il.2.trans z)
        exact c this
      rw [upd_ne ne, t.row i a ea]
      refine congrArg (fun g => some (HO.lst ((rowM n g).map V.int))) (funext fun v => ?_)
      unfold bump
      rw [if_neg fun z => c (by have := z.1; lia)]
theorem step_tab {K : W.Frag} {o i j : Nat} {σ : St} {H0 H : Hp} {l : Addr} {as : List Addr} {n : Nat} {M : Int -> Int -> Int} {x y d : Int} {op : Int -> Int -> Int} {D : Ends} (ho : σ[o]? = some (some (.ref l))) (hi : σ[i]? = some (some (.int x))) (hj : σ[j]? = some (some (.int y))) (t : TabS H0 H l as n M) (x0 : 0 <= x) (x1 : x < n) (y0 : 0 <= y) (y1 : y < n) (e1 : ∀ u, op u 1 = u + d)
    (q : ∀ H', TabS H0 H' l as n (bump M x y d) -> D.nx σ H') :
    tAsg (tOp (rI0 fun i j => .int (op i j)) (tOp (rIxL K) (tOp (rIxL K) (tVar o) (tVar i)) (tVar j)) (L2.tC (.int 1))) (gSub (tOp (rIxL K) (tVar o) (tVar i)) (tVar j) rSetL) D σ H := by
  obtain ⟨a, h1, h2, t'⟩ := t.put x0 x1 y0 y1 d
  refine ⟨_, ho, _, hi, l, _, _, _, rfl, rfl, SqL.of t.hl, h1, _, hj, a, _, _, _, rfl, rfl, SqL.of h2, rowM_at (M x) y0 y1, _, _, rfl, rfl, _, ho, _, hi, l, _, _, _, rfl, rfl, SqL.of t.hl, h1, _, hj, a, _, y, y.toNat, rfl, rfl, h2, ?_, ?_⟩
  · unfold ixN
    rw [if_pos y0, List.length_map, rowM_len, if_pos y1]
  · dsimp only
    rw [e1]
    exact q _ t'
theorem bump4 {M : Int -> Int -> Int} {t : Int × Int} (h : t.1 ≠ t.2) (u v : Int) : bump (bump (bump (bump M t.1 t.1 1) t.2 t.2 1) t.1 t.2 (-1)) t.2 t.1 (-1) u v = M u v + tieM t u v := by
  obtain ⟨a, b⟩ := t
  have h : a ≠ b := h
  unfold bump tieM b2
  grind
theorem mt_take {ps : List (Int × Int)} {i : Nat} {t : Int × Int} (e : ps[i]? = some t) (x y : Int) : mt (ps.take (i + 1)) x y = mt (ps.take i) x y + tieM t x y := by
  unfold mt
  rw [take_succ_of e, sm_app, sm_cons, sm_nil, Int.add_zero]
def spTable : Sp := fun vs H Q _ => ∃ (wv : V) (n : Nat) (ps : List (Int × Int)), vs = [wv] /\ WebAt H wv n ps /\ WebOk n ps /\ ∀ l xs H', Same H H' -> H' l = some (.lst xs) -> Paired (RowAt H') xs (tabL n ps) -> Q (.ref l) H'
theorem TabS.rows {H0 H : Hp} {l : Addr} {as : List Addr} {n : Nat} {M : Int -> Int -> Int} (t : TabS H0 H l as n M) : Paired (RowAt H) (as.map V.ref) ((ups (n : Int)).map fun x => (ups (n : Int)).map (M x)) := by
  have go : ∀ j, j <= n -> Paired (RowAt H) ((as.take j).map V.ref) ((ups (j : Int)).map fun x => (ups (n : Int)).map (M x)) := by
    intro j
    induction j with
    | zero => intro _; exact .nil
    | succ j ih =>
      intro h
      have jl : j < as.length := by rw [t.len]; exact h
      have ej : as[j]? = some as[j] := List.getElem?_eq_getElem jl
      rw [take_succ_of ej, show ((j + 1 : Nat) : Int) = (j : Int) + 1 by lia, ups_snoc (by lia), List.map_append, List.map_append]
      exact L2.Paired.snoc (ih (by lia)) ⟨_, rfl, t.row j _ ej⟩
  have g := go n (Nat.le_refl _)
  rw [List.take_of_length_le (by rw [t.len]; exact Nat.le_refl _)] at g
  exact g
theorem rep_row (n : Nat) : (List.replicate n [V.int 0]).flatten = (rowM n fun _ => 0).map V.int := by
  unfold rowM ups
  rw [Int.toNat_natCast]
  induction n with
  | zero => rfl
  | succ n ih =>
    rw [List.replicate_succ', List.flatten_append, ih, List.range_succ, List.map_append, List.map_append, List.map_append]
    rfl
section
variable {P : Program} {w : World} {K : W.Frag} {mg : Str -> Option Value} {base : Heap}
theorem scTable : FnScope ["web", "rows", "a", "b"] ["web"] (defScope sTable) := ⟨rfl, rfl, rfl, by decide +kernel, rfl, by decide +kernel, by decide +kernel⟩
theorem nd_pw : (["point", "web"] : List Str).Nodup := by decide +kernel
theorem d_table (T : Txt K mg) (S : Src K mg "table_of_points" sTable ["web"]) : Def P w K mg base 1 "table_of_points" ["web"] spTable := by
  refine S.def scTable (fun vs H Q E h => ?_) (fun f cdv A outer s H vs Q E hr h => ?_)
  · obtain ⟨_, _, _, rfl, _⟩ := h; rfl
  · obtain ⟨wv, n, ps, rfl, W, ok, q⟩ := h
    obtain ⟨⟨n1, n9⟩, hb, h8⟩ := id ok
    obtain ⟨c, d, xs, rfl, hc, hd, ht⟩ := W.ex
    have xl : xs.length = ps.length := Paired.length ht
    refine ⟨_, pss_cons (ps_setComp (i := 1) scTable.nd rfl (Or.inl rfl) (N' := ["point", "web"]) (fr := [none, some 0]) (compOk_of (by rfl)) rfl (pi_range1 rfl T.range (pa_cons (pe_ix (ix_tupK K) (pv 0) pe_int (fun _ _ => rfl)) pa_nil)) (fun _ _ _ _ => pg_name (i := 0) nd_pw rfl (Or.inl rfl) (Or.inr rfl)) (fun _ _ _ _ => pifs_nil)
        (fun _ _ _ _ => pe_op op_rep (pe_lst (pa_cons pe_int pa_nil)) (pe_ix (ix_tupK K) (pv 1) pe_int (fun _ _ => rfl))))
      (pss_cons (ps_for PassesOwn.never rfl (pi_seqK K .t (pe_ix (ix_tupK K) (pv 0) pe_int (fun _ _ => rfl))) (pg_tupK K 2 rfl (pgs_cons (pg_name (i := 2) scTable.nd rfl (Or.inl rfl)) (pgs_cons (pg_name (i := 3) scTable.nd rfl (Or.inl rfl)) pgs_nil)))
        (pss_one (ps_if (pt_cmpR op_ne (pv 2) (pv 3) (nomark _))
          (pss_cons (ps_asg (pe_op op_add (pe_ix (ix_listK K) (pe_ix (ix_listK K) (pv 1) (pv 2) (fun _ _ => rfl)) (pv 2) (fun _ _ => rfl)) pe_int) (pg_sub (pe_ix (ix_listK K) (pv 1) (pv 2) (fun _ _ => rfl)) (pv 2) set_list))
          (pss_cons (ps_asg (pe_op op_add (pe_ix (ix_listK K) (pe_ix (ix_listK K) (pv 1) (pv 3) (fun _ _ => rfl)) (pv 3) (fun _ _ => rfl)) pe_int) (pg_sub (pe_ix (ix_listK K) (pv 1) (pv 3) (fun _ _ => rfl)) (pv 3) set_list))
          (pss_cons (ps_asg (pe_op op_sub (pe_ix (ix_listK K) (pe_ix (ix_listK K) (pv 1) (pv 2) (fun _ _ => rfl)) (pv 3) (fun _ _ => rfl)) pe_int) (pg_sub (pe_ix (ix_listK K) (pv 1) (pv 2) (fun _ _ => rfl)) (pv 3) set_list))
          (pss_one (ps_asg (pe_op op_sub (pe_ix (ix_listK K) (pe_ix (ix_listK K) (pv 1) (pv 3) (fun _ _ => rfl)) (pv 2) (fun _ _ => rfl)) pe_int) (pg_sub (pe_ix (ix_listK K) (pv 1) (pv 3) (fun _ _ => rfl)) (pv 2) set_list)))))) pss_nil)))
      (pss_one (ps_ret (pv 1)))), ?_⟩
    have i0 : atI ([.int (n : Int), .ref d] : List V) 0 = some (.int (n : Int)) := atI_nat (j := 0) rfl
    have i1 : atI ([.int (n : Int), .ref d] : List V) 1 = some (.ref d) := atI_nat (j := 1) rfl
    refine ⟨_, rfl, c, _, _, _, rfl, rfl, SqT.of hc, i0, (n : Int), rfl, by lia, by lia, ?_⟩
    rw [Int.toNat_natCast]
    refine comp_range (lo := 0) (n := n) (fun σ => ∃ v, σ = [v, some (.ref c)]) (fun j ys H' => ∃ as : List Addr, ys = as.map V.ref /\ Same H H' /\ as.length = j /\ as.Nodup /\ (∀ a ∈ as, H a = none) /\ ∀ a ∈ as, H' a = some (.lst ((rowM n fun _ => 0).map V.int))) ⟨_, rfl⟩ ⟨[], rfl, Same.refl _, rfl, .nil, (fun _ z => nomatch z), (fun _ z => nomatch z)⟩ (ten_line (by lia)) ?_ ?_
    · rintro j ys σ H1 N hj ⟨v, rfl⟩ ⟨as, rfl, sm, al, nd, fr, rw1⟩ hN
      dsimp only [gName, List.set]
      refine yesT ⟨by show 1 <= sizeLine; decide, fun z hz => ?_⟩
      have s2 := Same.new (o := HO.lst [.int 0]) hz
      have hz2 : (upd H1 z (.lst [.int 0])) z = some (.lst [.int 0]) := upd_same
      generalize upd H1 z (.lst [.int 0]) = H2 at s2 hz2 ⊢
      refine ⟨_, rfl, c, _, _, _, rfl, rfl, SqT.of (s2 _ _ (sm _ _ hc)), i0, z, (n : Int), [.int 0], rfl, rfl, hz2, by lia, by lia, ?_, fun p hp => ?_⟩
      · show 1 * ((n : Nat) : Int).toNat <= sizeLine
        exact Nat.le_of_lt (ten_line (by lia))
      rw [Int.toNat_natCast, rep_row]
      have s3 := Same.new (o := HO.lst ((rowM n fun _ => 0).map V.int)) hp
      have s13 := sm.trans (s2.trans s3)
      have pf : H p = none := (sm.trans s2).free hp
      have pn : p ∉ as := fun z => by
        have := s2 _ _ (rw1 p z)
        rw [hp] at this
        cases this
      refine hN _ _ _ ⟨_, rfl⟩ ⟨as ++ [p], by rw [List.map_append]; rfl, s13, by rw [List.length_append, al]; rfl, ?_, fun a ha => ?_, fun a ha => ?_⟩ (by simp)
      · refine List.nodup_append.mpr ⟨nd, List.nodup_cons.mpr ⟨fun z => (nomatch z), .nil⟩, fun a ha b hb => ?_⟩
        rw [List.mem_singleton.mp hb]
        exact fun z => pn (z ▸ ha)
      · rcases List.mem_append.mp ha with h | h
        · exact fr a h
        · rw [List.mem_singleton.mp h]; exact pf
      · rcases List.mem_append.mp ha with h | h
        · exact s3 _ _ (s2 _ _ (rw1 a h))
        · rw [List.mem_singleton.mp h]; exact upd_same
    · rintro ys H1 ⟨as, rfl, sm, al, nd, fr, rw1⟩ l hl
      have s2 := Same.new (o := HO.lst (as.map V.ref)) hl
      have t0 : TabS H (upd H1 l (.lst (as.map V.ref))) l as n (fun x y => mt (ps.take 0) x y) := ⟨sm.trans s2, upd_same, al, nd, fr, (fun z => by
        have := rw1 l z
        rw [hl] at this
        cases this), fun i a ea => s2 _ _ (rw1 a (List.mem_of_getElem? ea))⟩
      generalize upd H1 l (.lst (as.map V.ref)) = H2 at t0 ⊢
      dsimp only [List.set]
      refine ⟨_, rfl, c, _, _, _, rfl, rfl, SqT.of (t0.sm _ _ hc), i1, d, rfl, ⟨_, SqT.of (t0.sm _ _ hd)⟩, ?_⟩
      refine for_seq (k := .t) (K := K) (a := d) (xs := xs) (fun i σ H' => (∃ u v, σ = [some (.ref c), some (.ref l), u, v]) /\ TabS H H' l as n (fun x y => mt (ps.take i) x y)) ⟨⟨_, _, rfl⟩, t0⟩ (fun i σ H' _ z => SqT.of (z.2.sm _ _ hd)) ?_ ?_
      · rintro i x σ H3 hx ⟨⟨u, v, rfl⟩, t3⟩
        obtain ⟨t, et, b, rfl, hbt⟩ := Paired.at ht hx
        obtain ⟨b1, b2, b3, b4⟩ := hb t (List.mem_of_getElem? et)
        refine ⟨b, _, rfl, SqT.of (t3.sm _ _ hbt), rfl, _, _, rfl, _, _, rfl, rfl, ?_⟩
        dsimp only [List.set]
        refine ⟨_, rfl, _, rfl, rfl, _, rfl, ?_⟩
        by_cases e : t.1 = t.2
        · rw [decide_eq_true (show V.int t.1 = V.int t.2 by rw [e])]
          refine iteF ⟨⟨_, _, rfl⟩, ?_⟩
          have em : (fun x y => mt (ps.take (i + 1)) x y) = fun x y => mt (ps.take i) x y := funext fun x => funext fun y => by
            rw [mt_take et]
            unfold tieM
            rw [if_pos e, Int.add_zero]
          rw [em]
          exact t3
        · rw [decide_eq_false (show ¬ V.int t.1 = V.int t.2 from fun z => e (by injection z))]
          refine iteT ?_
          refine step_tab (o := 1) (i := 2) (j := 2) (d := 1) rfl rfl rfl t3 b1 b2 b1 b2 (fun _ => rfl) fun H4 t4 => ?_
          refine step_tab (o := 1) (i := 3) (j := 3) (d := 1) rfl rfl rfl t4 b3 b4 b3 b4 (fun _ => rfl) fun H5 t5 => ?_
          refine step_tab (o := 1) (i := 2) (j := 3) (d := -1) rfl rfl rfl t5 b1 b2 b3 b4 (fun _ => rfl) fun H6 t6 => ?_
          refine step_tab (o := 1) (i := 3) (j := 2) (d := -1) rfl rfl rfl t6 b3 b4 b1 b2 (fun _ => rfl) fun H7 t7 => ⟨⟨_, _, rfl⟩, ?_⟩
          have em : (fun x y => mt (ps.take (i + 1)) x y) = bump (bump (bump (bump (fun x y => mt (ps.take i) x y) t.1 t.1 1) t.2 t.2 1) t.1 t.2 (-1)) t.2 t.1 (-1) := funext fun x => funext fun y => by
            rw [bump4 e, mt_take et]
          rw [em]
          exact t7
      · rintro σ H3 ⟨⟨u, v, rfl⟩, t3⟩
        rw [xl, List.take_length] at t3
        exact ⟨_, rfl, q l _ _ t3.sm t3.hl t3.rows⟩
end
def spNoPt : Sp := fun vs H Q _ => ∃ (wv : V) (n : Int) (ps : List (Int × Int)) (p : Int), vs = [wv, .int p] /\ WebAt H wv n ps /\ 0 <= p /\ p < n /\ Q .non H
def BadPt (K : W.Frag) (H : Hp) (n : Int) (x : V) : Prop := Plain K H x /\ isWithin 0 (n - 1) x = false
def spNoPtB (K : W.Frag) (C : Addr) : Sp := fun vs H _ E => ∃ (wv x : V) (n : Int) (ps : List (Int × Int)), vs = [wv, x] /\ WebAt H wv n ps /\ BadPt K H n x /\ E (.ref C) none H
theorem within_ok {p n : Int} (h0 : 0 <= p) (h1 : p < n) : isWithin 0 (n - 1) (.int p) = true := by
  show (decide (0 <= p) && decide (p <= n - 1)) = true
  rw [decide_eq_true h0, decide_eq_true (show p <= n - 1 by lia)]
  rfl
section
variable {P : Program} {w : World} {K : W.Frag} {mg : Str -> Option Value} {base : Heap}
theorem scNoPt : FnScope ["web", "point"] ["web", "point"] (defScope sNoPt) := ⟨rfl, rfl, rfl, by decide +kernel, rfl, by decide +kernel, by decide +kernel⟩
theorem d_nopt (S : Src K mg "refuse_no_point_of" sNoPt ["web", "point"]) (D : Def P w K mg base 2 "is_whole_within" ["thing", "least", "greatest"] (spWithin K)) : Def P w K mg base 3 "refuse_no_point_of" ["web", "point"] spNoPt := by
  refine S.def scNoPt (fun vs H Q E h => ?_) (fun f cdv A outer s H vs Q E hr h => ?_)
  · obtain ⟨_, _, _, _, rfl, _⟩ := h; rfl
  · obtain ⟨wv, n, ps, p, rfl, W, p0, pn, q⟩ := h
    obtain ⟨c, d, xs, rfl, hc, hd, ht⟩ := W.ex
    refine ⟨_, pss_one (ps_if (pt_not (pt_val (pe_def D hr rfl (pa_cons (pv 1) (pa_cons pe_int (pa_cons (pe_op op_sub (pe_ix (ix_tupK K) (pv 0) pe_int (fun _ _ => rfl)) pe_int) pa_nil)))))) pss_never pss_nil), ?_⟩
    have i0 : atI ([.int n, .ref d] : List V) 0 = some (.int n) := atI_nat (j := 0) rfl
    refine ⟨_, rfl, _, rfl, c, _, _, _, rfl, rfl, SqT.of hc, i0, _, _, rfl, rfl, .int p, 0, n - 1, rfl, plain_int K H p, ?_⟩
    rw [within_ok p0 pn]
    exact ⟨_, rfl, iteF q⟩
theorem d_noptB {C : Addr} {bm : List Value} (S : Src K mg "refuse_no_point_of" sNoPt ["web", "point"]) (gC : mg "NoPoint" = some (.ref C)) (xC : excB K C bm = true) (D : Def P w K mg base 2 "is_whole_within" ["thing", "least", "greatest"] (spWithin K)) : DefQ P w K mg base 3 "refuse_no_point_of" ["web", "point"] (spNoPtB K C) := by
  refine Src.defQ S scNoPt (fun vs H Q E h => ?_) (fun f cdv A outer s H vs Q E hr h => ?_)
  · obtain ⟨_, _, _, _, rfl, _⟩ := h; rfl
  · obtain ⟨wv, x, n, ps, rfl, W, ⟨px, bx⟩, q⟩ := h
    obtain ⟨c, d, xs, rfl, hc, hd, ht⟩ := W.ex
    refine ⟨_, pss_one (ps_if (pt_not (pt_val (pe_def D hr rfl (pa_cons (pv 1) (pa_cons pe_int (pa_cons (pe_op op_sub (pe_ix (ix_tupK K) (pv 0) pe_int (fun _ _ => rfl)) pe_int) pa_nil)))))) (pss_one (ps_raiseQ rfl gC xC (pa_cons pe_str pa_nil))) pss_nil), ?_⟩
    have i0 : atI ([.int n, .ref d] : List V) 0 = some (.int n) := atI_nat (j := 0) rfl
    refine ⟨_, rfl, _, rfl, c, _, _, _, rfl, rfl, SqT.of hc, i0, _, _, rfl, rfl, x, 0, n - 1, rfl, px, ?_⟩
    rw [bx]
    exact ⟨_, rfl, iteT ⟨by decide, q⟩⟩
end
theorem tieM_few (t : Int × Int) (x y : Int) : -1 <= tieM t x y /\ tieM t x y <= 1 := by
  unfold tieM b2
  grind
theorem mt_few (x y : Int) : ∀ ps : List (Int × Int), -(ps.length : Int) <= mt ps x y /\ mt ps x y <= ps.length
  | [] => ⟨by show (_ : Int) <= 0; simp, by show (0 : Int) <= _; simp⟩
  | t :: ps => by
    have := mt_few x y ps
    have := tieM_few t x y
    rw [mt_cons, List.length_cons]
    lia
theorem cut_sqr {n k : Nat} {ps : List (Int × Int)} (hk : k < n) (h8 : ps.length <= 8) : Sqr (n - 1) (cutL (tabL n ps) k) := by
  have ul : (ups (n : Int)).length = n := by rw [ups_len, Int.toNat_natCast]
  refine ⟨?_, fun r hr => ?_, fun r hr x hx => ?_⟩
  · unfold cutL tabL
    rw [List.length_map, List.length_eraseIdx_of_lt (by rw [List.length_map]; lia), List.length_map, ul]
  · obtain ⟨u, hu, rfl⟩ := List.mem_map.mp hr
    obtain ⟨v, hv, rfl⟩ := List.mem_map.mp (List.mem_of_mem_eraseIdx hu)
    rw [List.length_eraseIdx_of_lt (by rw [List.length_map]; lia), List.length_map, ul]
  · obtain ⟨u, hu, rfl⟩ := List.mem_map.mp hr
    obtain ⟨v, hv, rfl⟩ := List.mem_map.mp (List.mem_of_mem_eraseIdx hu)
    obtain ⟨y, hy, rfl⟩ := List.mem_map.mp (List.mem_of_mem_eraseIdx hx)
    have := mt_few v y ps
    exact ⟨by lia, by lia⟩
theorem Paired.erase {α β : Type} {F : α -> β -> Prop} : ∀ {l₁ : List α} {l₂ : List β}, Paired F l₁ l₂ -> ∀ k, Paired F (l₁.eraseIdx k) (l₂.eraseIdx k)
  | _, _, .nil, _ => .nil
  | _, _, .cons _ t, 0 => t
  | _, _, .cons h t, k + 1 => .cons h (Paired.erase t k)
def spCorner : Sp := fun vs H Q _ => ∃ (wv : V) (n k : Nat) (ps : List (Int × Int)), vs = [wv, .int k] /\ WebAt H wv n ps /\ WebOk n ps /\ k < n /\ ∀ H', Same H H' -> Q (.int (tC (ups n) ps)) H'
def spCornB (K : W.Frag) (C : Addr) : Sp := fun vs H _ E => ∃ (wv x : V) (n : Int) (ps : List (Int × Int)), vs = [wv, x] /\ WebAt H wv n ps /\ BadPt K H n x /\ E (.ref C) none H
section
variable {P : Program} {w : World} {K : W.Frag} {mg : Str -> Option Value} {base : Heap}
theorem scCorner : FnScope ["web", "point", "rows"] ["web", "point"] (defScope sCorner) := ⟨rfl, rfl, rfl, by decide +kernel, rfl, by decide +kernel, by decide +kernel⟩
theorem nd_rp : (["row", "point"] : List Str).Nodup := by decide +kernel
theorem d_corner (S : Src K mg "corner_at" sCorner ["web", "point"]) (DN : Def P w K mg base 3 "refuse_no_point_of" ["web", "point"] spNoPt) (DT : Def P w K mg base 1 "table_of_points" ["web"] spTable) (DW : Def P w K mg base 1 "without_place" ["things", "place"] spWoP) (DD : ∀ d, Def P w K mg base (2 + d) "determinant" ["rows"] (spDet d)) : Def P w K mg base 11 "corner_at" ["web", "point"] spCorner := by
  refine S.def scCorner (fun vs H Q E h => ?_) (fun f cdv A outer s H vs Q E hr h => ?_)
  · obtain ⟨_, _, _, _, rfl, _⟩ := h; rfl
  · obtain ⟨wv, n, k, ps, rfl, W, ok, hk, q⟩ := h
    obtain ⟨⟨n1, n9⟩, hb, h8⟩ := id ok
    have hr1 : Room 1 _ := hr.mono (by decide)
    have hr3 : Room 3 _ := hr.mono (by decide)
    have hrD : Room (2 + (n - 1)) _ := hr.mono (by lia)
    refine ⟨_, pss_cons (ps_expr (pe_def DN hr3 rfl (pa_cons (pv 0) (pa_cons (pv 1) pa_nil))))
      (pss_cons (ps_set (i := 2) scCorner.nd rfl (Or.inl rfl) (pe_def DT hr1 rfl (pa_cons (pv 0) pa_nil)))
      (pss_one (ps_ret (pe_def (DD (n - 1)) hrD rfl (pa_cons (pe_comp (N' := ["row", "point"]) (fr := [none, some 1]) (compOk_of (by rfl)) rfl (pi_seqK K .l (pe_def DW hr1 rfl (pa_cons (pv 2) (pa_cons (pv 1) pa_nil)))) (fun _ _ _ _ => pg_name (i := 0) nd_rp rfl (Or.inl rfl) (Or.inr rfl)) (fun _ _ _ _ => pifs_nil)
        (fun _ _ _ _ => pe_def DW hr1 rfl (pa_cons (pv 0) (pa_cons (pv 1) pa_nil)))) pa_nil))))), ?_⟩
    refine ⟨_, rfl, _, rfl, wv, n, ps, (k : Int), rfl, W, by lia, by lia, ?_⟩
    refine ⟨_, rfl, wv, n, ps, rfl, W, ok, fun l xs H1 s1 hl pr => ?_⟩
    have tl : (tabL n ps).length = n := by unfold tabL; rw [List.length_map, ups_len, Int.toNat_natCast]
    have xl : xs.length = n := (Paired.length pr).trans tl
    dsimp only [List.set]
    refine ⟨_, rfl, _, rfl, l, xs, k, rfl, hl, by lia, by lia, fun g H2 s2 hg => ?_⟩
    have pr2 := Paired.erase (rows_same pr s2) k
    have gl : (xs.eraseIdx k).length <= 9 := by rw [List.length_eraseIdx_of_lt (by lia)]; lia
    refine ⟨g, rfl, ⟨_, SqL.of hg⟩, comp_seq (k := .l) (K := K) (a := g) (xs := xs.eraseIdx k) (fun σ => ∃ u, σ = [u, some (.int (k : Int))]) (fun j ys H' => Same H2 H' /\ Paired (RowAt H') ys ((((tabL n ps).eraseIdx k).take j).map fun r => r.eraseIdx k)) ⟨_, rfl⟩ ⟨Same.refl _, .nil⟩ (ten_line (by lia)) (fun j ys H' _ z => SqL.of (z.1 _ _ hg)) ?_ ?_⟩
    · rintro j y ys σ H4 N hy ⟨u, rfl⟩ ⟨sm4, pr4⟩ hN
      obtain ⟨ro, ero, a, rfl, ha⟩ := Paired.at pr2 hy
      have rol : ro.length = n := by
        obtain ⟨v, hv, rfl⟩ := List.mem_map.mp (List.mem_of_mem_eraseIdx (List.mem_of_getElem? ero))
        rw [List.length_map, ups_len, Int.toNat_natCast]
      dsimp only [gName, List.set]
      refine yesT ⟨_, rfl, _, rfl, a, ro.map V.int, k, rfl, sm4 _ _ ha, by rw [List.length_map]; lia, by rw [List.length_map]; lia, fun g' H5 s5 hg' => ?_⟩
      refine hN _ _ _ ⟨_, rfl⟩ ⟨sm4.trans s5, ?_⟩ (by simp)
      rw [take_succ_of ero, List.map_append]
      exact L2.Paired.snoc (rows_same pr4 s5) ⟨g', rfl, by rw [hg', er_map]⟩
    · rintro ys H4 ⟨sm4, pr4⟩ p5 hp5
      have el : (xs.eraseIdx k).length = ((tabL n ps).eraseIdx k).length := Paired.length pr2
      rw [el, List.take_length] at pr4
      have s5 := Same.new (o := HO.lst ys) hp5
      have pr5 : Paired (RowAt (upd H4 p5 (.lst ys))) ys (cutL (tabL n ps) k) := rows_same pr4 s5
      refine ⟨p5, ys, _, rfl, upd_same, pr5, cut_sqr hk h8, by lia, fun H6 s6 => ?_⟩
      rw [corner_tC hk hb h8]
      exact q H6 (s1.trans (s2.trans (sm4.trans (s5.trans s6))))
theorem d_cornB {C : Addr} (S : Src K mg "corner_at" sCorner ["web", "point"]) (DN : DefQ P w K mg base 3 "refuse_no_point_of" ["web", "point"] (spNoPtB K C)) (DT : Def P w K mg base 1 "table_of_points" ["web"] spTable) (DW : Def P w K mg base 1 "without_place" ["things", "place"] spWoP) (DD : ∀ d, Def P w K mg base (2 + d) "determinant" ["rows"] (spDet d)) : DefQ P w K mg base 11 "corner_at" ["web", "point"] (spCornB K C) := by
  refine Src.defQ S scCorner (fun vs H Q E h => ?_) (fun f cdv A outer s H vs Q E hr h => ?_)
  · obtain ⟨_, _, _, _, rfl, _⟩ := h; rfl
  · obtain ⟨wv, x, n, ps, rfl, W, bx, q⟩ := h
    have hr3 : Room 3 _ := hr.mono (by decide)
    have hr1 : Room 1 _ := hr.mono (by decide)
    have hrD : Room (2 + 0) _ := hr.mono (by lia)
    refine ⟨_, pss_cons (ps_expr (pe_defPQ DN hr3 rfl (pa_cons (pv 0) (pa_cons (pv 1) pa_nil))))
      (pss_cons (ps_set (i := 2) scCorner.nd rfl (Or.inl rfl) (pe_def DT hr1 rfl (pa_cons (pv 0) pa_nil)))
      (pss_one (ps_ret (pe_def (DD 0) hrD rfl (pa_cons (pe_comp (N' := ["row", "point"]) (fr := [none, some 1]) (compOk_of (by rfl)) rfl (pi_seqK K .l (pe_def DW hr1 rfl (pa_cons (pv 2) (pa_cons (pv 1) pa_nil)))) (fun _ _ _ _ => pg_name (i := 0) nd_rp rfl (Or.inl rfl) (Or.inr rfl)) (fun _ _ _ _ => pifs_nil)
        (fun _ _ _ _ => pe_def DW hr1 rfl (pa_cons (pv 0) (pa_cons (pv 1) pa_nil)))) pa_nil))))), ?_⟩
    exact ⟨_, rfl, _, rfl, wv, x, n, ps, rfl, W, bx, q⟩
end
theorem dcr_pos : ∀ {l : List Int}, l ≠ [] -> 1 <= dcr l
  | [], h => absurd rfl h
  | x :: xs, _ => by
    show 1 <= dcr xs + if x ∈ xs then 0 else 1
    by_cases c : x ∈ xs
    · have := dcr_pos (l := xs) (List.ne_nil_of_mem c)
      rw [if_pos c]
      lia
    · rw [if_neg c]
      lia
theorem dcr_one : ∀ {l : List Int}, dcr l = 1 -> ∀ x ∈ l, ∀ y ∈ l, x = y
  | [], _, _, hx, _, _ => nomatch hx
  | z :: zs, h, x, hx, y, hy => by
    have h : (dcr zs + if z ∈ zs then 0 else 1) = 1 := h
    by_cases c : z ∈ zs
    · rw [if_pos c] at h
      have ih := dcr_one (l := zs) h
      have mem : ∀ u ∈ z :: zs, u ∈ zs := fun u hu => by
        rcases List.mem_cons.mp hu with rfl | hu
        · exact c
        · exact hu
      exact ih x (mem x hx) y (mem y hy)
    · rw [if_neg c] at h
      have e : zs = [] := Classical.byContradiction fun z' => by
        have := dcr_pos z'
        lia
      subst e
      rw [List.mem_singleton.mp hx, List.mem_singleton.mp hy]
theorem one_dcr : ∀ {l : List Int}, l ≠ [] -> (∀ x ∈ l, ∀ y ∈ l, x = y) -> dcr l = 1
  | [], h, _ => absurd rfl h
  | z :: zs, _, h => by
    show (dcr zs + if z ∈ zs then 0 else 1) = 1
    by_cases c : z ∈ zs
    · rw [if_pos c, one_dcr (l := zs) (List.ne_nil_of_mem c) fun x hx y hy => h x (List.mem_cons_of_mem _ hx) y (List.mem_cons_of_mem _ hy)]
    · have e : zs = [] := by
        cases zs with
        | nil => rfl
        | cons y ys => exact absurd (by rw [h z List.mem_cons_self y (List.mem_cons_of_mem _ List.mem_cons_self)]; exact List.mem_cons_self) c
      subst e
      rw [if_neg c]
      rfl
theorem dc_one {l : List Int} (h : dcount l = 1) : ∀ x ∈ l, ∀ y ∈ l, x = y := fun x hx y hy => dcr_one h x (List.mem_reverse.mpr hx) y (List.mem_reverse.mpr hy)
theorem one_dc {l : List Int} (ne : l ≠ []) (h : ∀ x ∈ l, ∀ y ∈ l, x = y) : dcount l = 1 := one_dcr (fun z => ne (List.reverse_eq_nil_iff.mp z)) fun x hx y hy => h x (List.mem_reverse.mp hx) y (List.mem_reverse.mp hy)
theorem dc_pos {l : List Int} (ne : l ≠ []) : 1 <= dcount l := dcr_pos fun z => ne (List.reverse_eq_nil_iff.mp z)
theorem stepH_norm (hs : List Int) (p : Int × Int) : stepH hs (norm p) = stepH hs p := by
  unfold norm
  split
  · rfl
  · unfold stepH
    dsimp only
    refine List.map_congr_left fun h _ => ?_
    grind
theorem tieN_nrm (ps : List (Int × Int)) (k : Int) : tieN (ps.map norm) k = norm (tieN ps k) := by
  unfold tieN
  rw [List.getD_eq_getElem?_getD, List.getD_eq_getElem?_getD, List.getElem?_map]
  cases ps[k.toNat]? <;> rfl
theorem hdF_norm (ps : List (Int × Int)) : ∀ (ks hs : List Int), hdF (ps.map norm) hs ks = hdF ps hs ks
  | [], _ => rfl
  | k :: ks, hs => by
    show hdF (ps.map norm) (stepH hs (tieN (ps.map norm) k)) ks = hdF ps (stepH hs (tieN ps k)) ks
    rw [tieN_nrm, stepH_norm, hdF_norm ps ks]
theorem at_step {hs : List Int} {p : Int × Int} {i : Int} (h0 : 0 <= i) (h1 : i < hs.length) : at0 (stepH hs p) i = if at0 hs i = (if at0 hs p.2 > at0 hs p.1 then at0 hs p.2 else at0 hs p.1) then (if at0 hs p.2 < at0 hs p.1 then at0 hs p.2 else at0 hs p.1) else at0 hs i := by
  unfold stepH
  rw [at_map h0 h1]
theorem keep_eq (ps : List (Int × Int)) : ∀ (ks hs : List Int) {i j : Int}, 0 <= i -> i < hs.length -> 0 <= j -> j < hs.length -> at0 hs i = at0 hs j -> at0 (hdF ps hs ks) i = at0 (hdF ps hs ks) j
  | [], _, _, _, _, _, _, _, e => e
  | k :: ks, hs, i, j, i0, i1, j0, j1, e => by
    refine keep_eq ps ks (stepH hs (tieN ps k)) i0 (by rw [stepH_len]; exact i1) j0 (by rw [stepH_len]; exact j1) ?_
    rw [at_step i0 i1, at_step j0 j1, e]
theorem join_eq (ps : List (Int × Int)) : ∀ (ks hs : List Int) {k : Int}, k ∈ ks -> InN (hs.length : Int) (tieN ps k) -> at0 (hdF ps hs ks) (tieN ps k).1 = at0 (hdF ps hs ks) (tieN ps k).2
  | [], _, _, h, _ => nomatch h
  | c :: ks, hs, k, h, b => by
    rcases List.mem_cons.mp h with rfl | h
    · refine keep_eq ps ks (stepH hs (tieN ps k)) b.1 (by rw [stepH_len]; exact b.2.1) b.2.2.1 (by rw [stepH_len]; exact b.2.2.2) ?_
      rw [at_step b.1 b.2.1, at_step b.2.2.1 b.2.2.2]
      grind
    · exact join_eq ps ks (stepH hs (tieN ps c)) h (by rw [stepH_len]; exact b)
theorem lab_le (ps : List (Int × Int)) (g : Int -> Int) : ∀ (ks hs : List Int), (∀ k ∈ ks, InN (hs.length : Int) (tieN ps k) /\ g (tieN ps k).1 = g (tieN ps k).2) -> (∀ i j : Int, 0 <= i -> i < hs.length -> 0 <= j -> j < hs.length -> at0 hs i = at0 hs j -> g i = g j) -> ∀ i j : Int, 0 <= i -> i < hs.length -> 0 <= j -> j < hs.length -> at0 (hdF ps hs ks) i = at0 (hdF ps hs ks) j -> g i = g j
  | [], _, _, h => h
  | k :: ks, hs, hk, h => by
    have ih := lab_le ps g ks (stepH hs (tieN ps k)) (fun c hc => by rw [stepH_len]; exact hk c (List.mem_cons_of_mem _ hc)) (by
      rw [stepH_len]
      intro i j i0 i1 j0 j1 e
      rw [at_step i0 i1, at_step j0 j1] at e
      obtain ⟨⟨a0, a1, b0, b1⟩, gg⟩ := hk k List.mem_cons_self
      have hi1 := h i (tieN ps k).1 i0 i1 a0 a1
      have hi2 := h i (tieN ps k).2 i0 i1 b0 b1
      have hj1 := h j (tieN ps k).1 j0 j1 a0 a1
      have hj2 := h j (tieN ps k).2 j0 j1 b0 b1
      have hij := h i j i0 i1 j0 j1
      grind)
    rw [stepH_len] at ih
    exact ih
theorem mem_at {l : List Int} {x : Int} (h : x ∈ l) : ∃ i : Int, 0 <= i /\ i < l.length /\ at0 l i = x := by
  obtain ⟨i, hi, rfl⟩ := List.getElem_of_mem h
  refine ⟨i, by lia, by lia, ?_⟩
  unfold at0
  rw [Int.toNat_natCast]
  simp [List.getD, hi]
theorem ups_ks (m : Nat) : Ks m (ups m) := fun k hk => mem_ups.mp hk
theorem one_all {n : Nat} {ps : List (Int × Int)} {A : List Int} (hb : ∀ p ∈ ps, InN (n : Int) p) (hA : Ks ps.length A) (n1 : 1 <= n) (h : dcount (hdF ps (ups (n : Int)) A) = 1) : dcount (hdF ps (ups (n : Int)) (ups ps.length)) = 1 := by
  have ul : (ups (n : Int)).length = n := by rw [ups_len, Int.toNat_natCast]
  have lA := hdF_len ps A (ups (n : Int))
  have lB := hdF_len ps (ups ps.length) (ups (n : Int))
  rw [ul] at lA lB
  refine one_dc (fun z => by rw [z] at lB; simp at lB; lia) fun x hx y hy => ?_
  obtain ⟨i, i0, i1, rfl⟩ := mem_at hx
  obtain ⟨j, j0, j1, rfl⟩ := mem_at hy
  rw [lB] at i1 j1
  have le := lab_le ps (at0 (hdF ps (ups (n : Int)) (ups ps.length))) A (ups (n : Int)) (fun k hk => by
    have kk := hA k hk
    have b := tieN_in (n := (n : Int)) hb kk.1 kk.2
    exact ⟨by rw [ul]; exact b, join_eq ps (ups ps.length) (ups (n : Int)) (mem_ups.mpr kk) (by rw [ul]; exact b)⟩) (by
    rw [ul]
    intro u v u0 u1 v0 v1 e
    rw [at_ups u0 u1, at_ups v0 v1] at e
    rw [e])
  rw [ul] at le
  refine le i j i0 i1 j0 j1 (dc_one h _ (at_mem i0 (by rw [lA]; exact i1)) _ (at_mem j0 (by rw [lA]; exact j1)))
theorem tC_is {n : Nat} {ps : List (Int × Int)} (n1 : 1 <= n) (n9 : n <= 9) (hb : ∀ p ∈ ps, InN (n : Int) p) (h8 : ps.length <= 8) : tC (ups (n : Int)) ps = if rk (n : Int) ps (ups ps.length) < (n : Int) - 1 then 0 else sm (allQ ps) fun A => if (A.length : Int) = rk (n : Int) ps (ups ps.length) /\ rk (n : Int) ps A = rk (n : Int) ps (ups ps.length) then 1 else 0 := by
  have d0 := ups_dc (n := (n : Int)) (by lia) (by lia)
  have dA : ∀ A, Ks ps.length A -> (dcount (hdF ps (ups (n : Int)) A) : Int) = (n : Int) - rk (n : Int) ps A := fun A hA => by
    have := rank_eq (n := (n : Int)) (ks := A) (by lia) (by lia) hb hA
    rw [hdF_norm] at this
    lia
  have lB := hdF_len ps (ups ps.length) (ups (n : Int))
  rw [ups_len, Int.toNat_natCast] at lB
  have pos := dc_pos (l := hdF ps (ups (n : Int)) (ups ps.length)) fun z => by rw [z] at lB; simp at lB; lia
  have dW := dA _ (ups_ks _)
  unfold tC
  by_cases c : rk (n : Int) ps (ups ps.length) < (n : Int) - 1
  · rw [if_pos c]
    have z : (sm (allQ ps) fun A => if A.length + 1 = dcount (ups (n : Int)) /\ dcount (hdF ps (ups (n : Int)) A) = 1 then (1 : Int) else 0) = sm (allQ ps) fun _ => (0 : Int) := sm_congr fun A hA => by
      rw [if_neg fun y => ?_]
      have := one_all hb (allQ_ks h8 hA) n1 y.2
      lia
    rw [z, sm_const, Int.mul_zero]
  · rw [if_neg c]
    refine sm_congr fun A hA => ?_
    have d := dA A (allQ_ks h8 hA)
    by_cases k : (A.length : Int) = rk (n : Int) ps (ups ps.length) /\ rk (n : Int) ps A = rk (n : Int) ps (ups ps.length)
    · rw [if_pos k, if_pos ⟨by lia, by lia⟩]
    · rw [if_neg k, if_neg fun z => k ⟨by lia, by lia⟩]
def bitI (b k : Int) : Bool := decide (Builtin.bitAnd (b / 2 ^ k.toNat) 1 = 1)
def pkB (b : Int) (m : Nat) : List Int := (ups m).filter (bitI b)
theorem bitI_test {b k : Int} (h : 0 <= b) : bitI b k = b.toNat.testBit k.toNat := by
  obtain ⟨x, rfl⟩ := Int.eq_ofNat_of_zero_le h
  unfold bitI
  have e : ((x : Int) / 2 ^ k.toNat) = ((x / 2 ^ k.toNat : Nat) : Int) := by rw [Int.natCast_ediv, Int.natCast_pow]; rfl
  rw [e, PyProof.Rows.bitAnd_pp (Int.natCast_nonneg _) (by decide), Int.toNat_natCast, Int.toNat_natCast, Nat.testBit_eq_decide_div_mod_eq]
  show decide (((x / 2 ^ k.toNat &&& 1 : Nat) : Int) = 1) = _
  rw [Nat.and_one_is_mod, decide_eq_decide]
  lia
theorem mem_pkB {b k : Int} {m : Nat} : k ∈ pkB b m ↔ (0 <= k /\ k < m) /\ bitI b k = true := by unfold pkB; rw [List.mem_filter, mem_ups]
theorem pkB_ks (b : Int) (m : Nat) : Ks m (pkB b m) := fun k h => (mem_pkB.mp h).1
theorem ups_cons (m : Nat) : ups ((m + 1 : Nat) : Int) = 0 :: suc1 (ups (m : Int)) := by
  unfold ups suc1
  rw [Int.toNat_natCast, Int.toNat_natCast, List.range_succ_eq_map, List.map_cons, List.map_map, List.map_map]
  rfl
theorem pkB_cons (b m : Nat) : pkB (b : Int) (m + 1) = (if b % 2 = 1 then [0] else []) ++ suc1 (pkB ((b / 2 : Nat) : Int) m) := by
  unfold pkB
  rw [ups_cons, List.filter_cons]
  have e1 : (suc1 (ups (m : Int))).filter (bitI (b : Int)) = suc1 ((ups (m : Int)).filter (bitI ((b / 2 : Nat) : Int))) := by
    unfold suc1
    rw [List.filter_map]
    congr 1
    refine List.filter_congr fun k hk => ?_
    have k0 := (mem_ups.mp hk).1
    show bitI (b : Int) (k + 1) = _
    rw [bitI_test (by lia), bitI_test (by lia), Int.toNat_natCast, Int.toNat_natCast, show (k + 1).toNat = k.toNat + 1 by lia, Nat.testBit_succ]
  have e0 : bitI (b : Int) 0 = decide (b % 2 = 1) := by
    rw [bitI_test (by lia), Int.toNat_natCast]
    show b.testBit 0 = _
    rw [Nat.testBit_zero]
  rw [e0, e1]
  by_cases c : b % 2 = 1
  · rw [if_pos c, decide_eq_true c]
    rfl
  · rw [if_neg c, decide_eq_false c]
    rfl
theorem range_two : ∀ n : Nat, List.range (n * 2) = (List.range n).flatMap fun a => [2 * a, 2 * a + 1]
  | 0 => rfl
  | n + 1 => by
    rw [show (n + 1) * 2 = n * 2 + 1 + 1 by lia, List.range_succ, List.range_succ, range_two n, List.range_succ, List.flatMap_append, List.append_assoc]
    congr 1
    show [n * 2] ++ [n * 2 + 1] = [2 * n, 2 * n + 1] ++ []
    rw [Nat.mul_comm]
    rfl
theorem allQ_bits : ∀ ps : List (Int × Int), allQ ps = (List.range (2 ^ ps.length)).map fun b : Nat => pkB (b : Int) ps.length
  | [] => rfl
  | e :: ps => by
    show (allQ ps).flatMap (fun A => [suc1 A, 0 :: suc1 A]) = _
    rw [allQ_bits ps, List.length_cons, Nat.pow_succ, range_two, List.map_flatMap, List.flatMap_map]
    congr 1
    funext a
    show [suc1 (pkB (a : Int) ps.length), 0 :: suc1 (pkB (a : Int) ps.length)] = [pkB ((2 * a : Nat) : Int) (ps.length + 1), pkB ((2 * a + 1 : Nat) : Int) (ps.length + 1)]
    rw [pkB_cons, pkB_cons, if_neg (by lia), if_pos (by lia), show 2 * a / 2 = a by lia, show (2 * a + 1) / 2 = a by lia]
    rfl
theorem boot_range' : bootBuiltins "range" = some (.type "range") := by first | rfl | decide +kernel
theorem at_tie {H : Hp} {xs : List V} {ps : List (Int × Int)} (h : Paired (TieAt H) xs ps) {k : Int} (h0 : 0 <= k) (hl : k < ps.length) : ∃ c, atI xs k = some (.ref c) /\ H c = some (.tup [.int (tieN ps k).1, .int (tieN ps k).2]) := by
  obtain ⟨j, rfl⟩ := Int.eq_ofNat_of_zero_le h0
  have xl := Paired.length h
  have hj : j < xs.length := by lia
  obtain ⟨p, e1, c, e2, e3⟩ := Paired.at h (show xs[j]? = some xs[j] by simp [hj])
  refine ⟨c, atI_nat (by rw [List.getElem?_eq_getElem hj, e2]), ?_⟩
  have : tieN ps (j : Int) = p := by
    unfold tieN
    rw [Int.toNat_natCast, List.getD_eq_getElem?_getD, e1]
    rfl
  rw [this]
  exact e3
theorem at_int {l : List Int} {i : Int} (h0 : 0 <= i) (hl : i < l.length) : atI (l.map V.int) i = some (.int (at0 l i)) := by
  obtain ⟨j, rfl⟩ := Int.eq_ofNat_of_zero_le h0
  have hj : j < l.length := by lia
  refine atI_nat ?_
  unfold at0
  simp [List.getD, hj]
theorem for_seqK {k : Kd} {K : W.Frag} {a : Addr} {xs : List V} {g : TG} {tb : TS} {D : Ends} {σ : St} {H : Hp} (Pv : Nat -> St -> Hp -> Prop) (h0 : Pv 0 σ H) (hl : ∀ i σ H, i <= xs.length -> Pv i σ H -> SqK k K H a xs)
    (hs : ∀ (i : Nat) (x : V) (σ : St) (H : Hp), xs[i]? = some x -> Pv i σ H -> g x σ H fun σ2 H2 => tb { D with nx := Pv (i + 1), ct := Pv (i + 1), bk := D.nx } σ2 H2) (hd : ∀ σ H, Pv xs.length σ H -> D.nx σ H) :
    ∃ W : Nat -> Nat -> St -> Hp -> Prop, (∃ m, W 0 m σ H) /\ ∀ i m σ H, W i m σ H ->
      ((ItK k K a).stop i H /\ D.nx σ H) \/ ((ItK k K a).go i H /\ ∃ N : St -> Hp -> Prop, (∀ σ' H', N σ' H' -> ∃ m', m' < m /\ W (i + 1) m' σ' H') /\ ∀ x H', (ItK k K a).yld i H x H' -> g x σ H' fun σ2 H2 => tb { D with nx := N, ct := N, bk := D.nx } σ2 H2) := by
  refine ⟨fun i m σ H => m = xs.length - i /\ i <= xs.length /\ Pv i σ H, ⟨xs.length, by simp, Nat.zero_le _, h0⟩, ?_⟩
  rintro i m σ H ⟨rfl, hi, p⟩
  have q := hl i σ H hi p
  by_cases hlt : i < xs.length
  · refine .inr ⟨itk_go q hlt, Pv (i + 1), fun σ' H' p' => ⟨xs.length - (i + 1), by lia, rfl, hlt, p'⟩, fun x H' y => ?_⟩
    obtain ⟨e, hy2⟩ := itk_yld q y
    subst e
    exact hs i x σ H' hy2 p
  · have e : i = xs.length := by lia
    subst e
    exact .inl ⟨itk_stop q (Nat.le_refl _), hd σ H p⟩
theorem dec_int (a b : Int) : decide (V.int a = V.int b) = decide (a = b) := by
  rw [decide_eq_decide]
  exact ⟨fun z => by injection z, fun z => by rw [z]⟩
def spAt (K : W.Frag) : Sp := fun vs H Q _ => ∃ (a : Addr) (ns : List Int) (k : Nat), vs = [.ref a, .int k] /\ SqL K H a (ns.map V.int) /\ Q (.int (ns.getD k 0)) H
theorem ties_put {H : Hp} {l : Addr} {ys zs : List V} {xs : List V} {ps : List (Int × Int)} (h : Paired (TieAt H) xs ps) (hl : H l = some (.lst ys)) : Paired (TieAt (upd H l (.lst zs))) xs ps := L2.Paired.mapP h fun _ _ ⟨a, h1, h2⟩ => ⟨a, h1, by
  rw [upd_ne (ne_of h2 hl (fun z => nomatch z))]
  exact h2⟩
theorem same_put {H H2 : Hp} {p : Addr} {o : HO} (s : Same H H2) (h : H p = none) : Same H (upd H2 p o) := fun b u e => by rw [upd_ne (ne_of_none e h)]; exact s b u e
theorem last_tie {H : Hp} {xs : List V} {ps : List (Int × Int)} (h : Paired (TieAt H) xs ps) (ne : xs ≠ []) : ∃ c p, atI xs (-1) = some (.ref c) /\ H c = some (.tup [.int p.1, .int p.2]) /\ p ∈ ps := by
  obtain ⟨ini, z, ez⟩ : ∃ ini z, xs = ini ++ [z] := ⟨xs.dropLast, xs.getLast ne, (List.dropLast_concat_getLast ne).symm⟩
  have g : xs[ini.length]? = some z := by rw [ez]; simp
  obtain ⟨p, ep, c, rfl, hc⟩ := Paired.at h g
  refine ⟨c, p, ?_, hc, List.mem_of_getElem? ep⟩
  rw [ez]
  exact atI_last _ _
def spLRank5 (K : W.Frag) : Sp := fun vs H Q _ => ∃ (kd : Kd) (wv : V) (pk : Addr) (n : Int) (ps : List (Int × Int)) (ks : List Int), vs = [wv, .ref pk] /\ WebAt H wv n ps /\ WebOk n ps /\ SqK kd K H pk (ks.map V.int) /\ Ks ps.length ks /\ ∀ H', Same H H' -> Q (.int (rk n ps ks)) H'
def spPick : Sp := fun vs H Q _ => ∃ (b : Int) (m : Nat), vs = [.int b, .int m] /\ m <= 8 /\ ∀ t H', Same H H' -> H' t = some (.tup ((pkB b m).map V.int)) -> Q (.ref t) H'
section
variable {P : Program} {w : World} {K : W.Frag} {mg : Str -> Option Value} {base : Heap}
theorem scAt : FnScope ["_law_script", "_law_k"] ["_law_script", "_law_k"] (defScope sAt) := ⟨rfl, rfl, rfl, by decide +kernel, rfl, by decide +kernel, by decide +kernel⟩
theorem d_at (T : Txt K mg) (S : Src K mg "_law_at" sAt ["_law_script", "_law_k"]) : Def P w K mg base 1 "_law_at" ["_law_script", "_law_k"] (spAt K) := by
  refine S.def scAt (fun vs H Q E h => ?_) (fun f cdv A outer s H vs Q E hr h => ?_)
  · obtain ⟨_, _, _, rfl, _⟩ := h; rfl
  · obtain ⟨a, ns, k, rfl, hq, q⟩ := h
    refine ⟨_, pss_cons (ps_if (pt_cmpR op_lt (pv 1) (pe_callB (call_lenK K) (by rfl) T.len PySem.boot_len (pa_cons (pv 0) pa_nil)) (nomark _)) (pss_one (ps_ret (pe_ix (ix_listK K) (pv 0) (pv 1) (fun _ _ => rfl)))) pss_nil) (pss_one (ps_ret pe_int)), ?_⟩
    refine ⟨_, rfl, _, rfl, a, _, rfl, .inl hq, _, _, rfl, rfl, _, rfl, ?_⟩
    rw [List.length_map]
    by_cases h : k < ns.length
    · rw [decide_eq_true (show (k : Int) < (ns.length : Int) by lia)]
      refine iteT ⟨_, rfl, _, rfl, a, _, _, .int (ns.getD k 0), rfl, rfl, hq, atI_nat ?_, q⟩
      rw [List.getElem?_map, List.getD_eq_getElem?_getD]
      simp [h]
    · rw [decide_eq_false (show ¬ (k : Int) < (ns.length : Int) by lia)]
      refine iteF ?_
      rw [List.getD_eq_getElem?_getD, List.getElem?_eq_none (by lia)] at q
      exact q
theorem scLRank : FnScope ["_law_web_here", "_law_pick_here", "_law_marks", "_law_found", "_law_k", "_law_one", "_law_two"] ["_law_web_here", "_law_pick_here"] (defScope sLRank) := ⟨rfl, rfl, rfl, by decide +kernel, rfl, by decide +kernel, by decide +kernel⟩
theorem nd4 : (["_law_mark", "_law_one", "_law_two"] : List Str).Nodup := by decide +kernel
theorem d_lrank (T : Txt K mg) (S : Src K mg "_law_rank" sLRank ["_law_web_here", "_law_pick_here"]) : Def P w K mg base 1 "_law_rank" ["_law_web_here", "_law_pick_here"] (spLRank5 K) := by
  refine S.def scLRank (fun vs H Q E h => ?_) (fun f cdv A outer s H vs Q E hr h => ?_)
  · obtain ⟨_, _, _, _, _, _, rfl, _⟩ := h; rfl
  · obtain ⟨kd, wv, pk, n, ps, ks, rfl, W, ⟨⟨n1, n9⟩, hb, h8⟩, hk, hks, q⟩ := h
    obtain ⟨c, d, xs, rfl, hc, hd, ht⟩ := W.ex
    obtain ⟨m, rfl⟩ := Int.eq_ofNat_of_zero_le (show 0 <= n by lia)
    refine ⟨_, pss_cons (ps_set (i := 2) scLRank.nd rfl (Or.inl rfl) (pe_callTy (call_list_rng rfl) rfl T.list boot_list' (pa_cons (pe_callTy call_range1 rfl T.range boot_range' (pa_cons (pe_ix (ix_tupK K) (pv 0) pe_int (fun _ _ => rfl)) pa_nil)) pa_nil)))
      (pss_cons (ps_set (i := 3) scLRank.nd rfl (Or.inl rfl) pe_int)
      (pss_cons (ps_for PassesOwn.never rfl (pi_seqK K kd (pv 1)) (pg_name (i := 4) scLRank.nd rfl (Or.inl rfl))
        (pss_cons (ps_set (i := 5) scLRank.nd rfl (Or.inr rfl) (pe_ix (ix_listK K) (pv 2) (pe_ix (ix_tupK K) (pe_ix (ix_tupK K) (pe_ix (ix_tupK K) (pv 0) pe_int (fun _ _ => rfl)) (pv 4) (fun _ _ => rfl)) pe_int (fun _ _ => rfl)) (fun _ _ => rfl)))
        (pss_cons (ps_set (i := 6) scLRank.nd rfl (Or.inr rfl) (pe_ix (ix_listK K) (pv 2) (pe_ix (ix_tupK K) (pe_ix (ix_tupK K) (pe_ix (ix_tupK K) (pv 0) pe_int (fun _ _ => rfl)) (pv 4) (fun _ _ => rfl)) pe_int (fun _ _ => rfl)) (fun _ _ => rfl)))
        (pss_one (ps_if (pt_cmpR op_ne (pv 5) (pv 6) (nomark _))
          (pss_cons (ps_setComp (i := 2) scLRank.nd rfl (Or.inl rfl) (N' := ["_law_mark", "_law_one", "_law_two"]) (fr := [none, some 5, some 6]) (compOk_of (by rfl)) rfl (pi_seqK K .l (pv 2))
            (fun _ _ _ _ => pg_name (i := 0) nd4 rfl (Or.inl rfl) (Or.inr rfl)) (fun _ _ _ _ => pifs_nil)
            (fun _ _ _ _ => pe_ix (r := rIxL K) (ix_listK K) (pe_lst (pa_cons (pv 0) (pa_cons (pv 1) pa_nil))) (pe_callTy call_int1 rfl T.int boot_int' (pa_cons (pe_cmpR op_eq (pv 0) (pv 2) (nomark _)) pa_nil)) (fun _ _ => rfl)))
          (pss_one (ps_set (i := 3) scLRank.nd rfl (Or.inl rfl) (pe_op op_add (pv 3) pe_int)))) pss_nil)))))
      (pss_one (ps_ret (pv 3))))), ?_⟩
    have i0 : atI ([.int m, .ref d] : List V) 0 = some (.int m) := atI_nat (j := 0) rfl
    have i1 : atI ([.int m, .ref d] : List V) 1 = some (.ref d) := atI_nat (j := 1) rfl
    refine ⟨_, rfl, c, _, _, _, rfl, rfl, SqT.of hc, i0, _, rfl, fun p hp => ⟨p, m, rfl, upd_same, by lia, fun l hl => ?_⟩⟩
    have s1 := (Same.new (o := HO.rng 0 m) hp).trans (Same.new (o := HO.lst (upN m)) hl)
    have hl1 : (upd (upd H p (.rng 0 m)) l (.lst (upN m))) l = some (.lst ((ups m).map V.int)) := by rw [upd_same, upN_ups]
    generalize upd (upd H p (.rng 0 m)) l (.lst (upN m)) = H1 at s1 hl1 ⊢
    refine ⟨_, rfl, pk, rfl, ⟨_, s1.seqK hk⟩, for_seqK (k := kd) (K := K) (a := pk) (xs := ks.map V.int) (fun i σ H' => ∃ l u v t, σ = [some (.ref c), some (.ref pk), some (.ref l), some (.int (rkF ps (ups m, 0) (ks.take i)).2), u, v, t] /\ Same H H' /\ H' l = some (.lst ((rkF ps (ups m, 0) (ks.take i)).1.map V.int))) ⟨l, _, _, _, rfl, s1, hl1⟩ (fun i σ H' _ ⟨_, _, _, _, _, z, _⟩ => z.seqK hk) ?_ ?_⟩
    · rintro i x σ H' hx ⟨l, u, v, t, rfl, sm, hl⟩
      obtain ⟨k, ek, rfl⟩ := get_int' hx
      obtain ⟨k0, kl⟩ := hks k (List.mem_of_getElem? ek)
      obtain ⟨tc, et, htc⟩ := at_tie ht k0 kl
      obtain ⟨b1, b2, b3, b4⟩ := tieN_in hb k0 kl
      generalize hst : rkF ps (ups m, 0) (ks.take i) = st at hl
      have msl : st.1.length = m := by rw [<- hst, rkF_len, ups_len]; simp
      have t0 : atI ([.int (tieN ps k).1, .int (tieN ps k).2] : List V) 0 = some (.int (tieN ps k).1) := atI_nat (j := 0) rfl
      have t1 : atI ([.int (tieN ps k).1, .int (tieN ps k).2] : List V) 1 = some (.int (tieN ps k).2) := atI_nat (j := 1) rfl
      have a0 := at_int (l := st.1) (i := (tieN ps k).1) b1 (by lia)
      have a1 := at_int (l := st.1) (i := (tieN ps k).2) b3 (by lia)
      have htc' := sm _ _ htc
      have hc' := sm _ _ hc
      have hd' := sm _ _ hd
      dsimp only [gName, List.set]
      refine ⟨_, rfl, _, rfl, c, _, _, _, rfl, rfl, SqT.of hc', i1, _, rfl, d, _, _, _, rfl, rfl, SqT.of hd', et, tc, _, _, _, rfl, rfl, SqT.of htc', t0, l, _, _, _, rfl, rfl, SqL.of hl, a0, ?_⟩
      refine ⟨_, rfl, _, rfl, c, _, _, _, rfl, rfl, SqT.of hc', i1, _, rfl, d, _, _, _, rfl, rfl, SqT.of hd', et, tc, _, _, _, rfl, rfl, SqT.of htc', t1, l, _, _, _, rfl, rfl, SqL.of hl, a1, ?_⟩
      refine ⟨_, rfl, _, rfl, rfl, _, rfl, ?_⟩
      by_cases he : at0 st.1 (tieN ps k).1 = at0 st.1 (tieN ps k).2
      · rw [he]
        refine iteNS rfl ?_
        have e2 : rkF ps (ups m, 0) (ks.take (i + 1)) = st := by
          rw [take_succ_of ek, rkF_snoc, hst]
          unfold stepM
          exact if_pos he
        refine ⟨l, some (.int k), some (.int (at0 st.1 (tieN ps k).2)), some (.int (at0 st.1 (tieN ps k).2)), ?_, sm, by rw [e2]; exact hl⟩
        rw [e2]
        rfl
      · rw [decide_eq_false (show ¬ V.int (at0 st.1 (tieN ps k).1) = V.int (at0 st.1 (tieN ps k).2) from fun z => he (by injection z))]
        refine iteT ?_
        have e2 : rkF ps (ups m, 0) (ks.take (i + 1)) = (st.1.map fun z => if z = at0 st.1 (tieN ps k).2 then at0 st.1 (tieN ps k).1 else z, st.2 + 1) := by
          rw [take_succ_of ek, rkF_snoc, hst]
          unfold stepM
          exact if_neg he
        generalize at0 st.1 (tieN ps k).1 = one at e2 ⊢
        generalize at0 st.1 (tieN ps k).2 = oth at e2 ⊢
        refine ⟨_, rfl, l, rfl, ⟨_, SqL.of hl⟩, comp_seq (k := .l) (a := l) (xs := st.1.map V.int) (fun σ => ∃ v, σ = [v, some (.int one), some (.int oth)]) (fun j ys H2 => Same H' H2 /\ ys = (st.1.take j).map fun h => V.int (if h = oth then one else h)) ⟨_, rfl⟩ ⟨Same.refl _, rfl⟩ (by rw [List.length_map]; exact ten_line (by lia)) (fun j ys H2 _ z => SqL.of (z.1 _ _ hl)) ?_ ?_⟩
        · rintro j x ys σ H2 N hx ⟨u, rfl⟩ ⟨sm2, rfl⟩ hN
          obtain ⟨h0, eh, rfl⟩ := get_int' hx
          dsimp only [gName, List.set]
          refine yesT ?_
          refine ⟨_, rfl, _, rfl, by show 2 <= sizeLine; decide, fun g hg => ?_⟩
          have s3 := Same.new (o := HO.lst [V.int h0, .int one]) hg
          have hg3 : (upd H2 g (.lst [V.int h0, .int one])) g = some (.lst [V.int h0, .int one]) := upd_same
          generalize upd H2 g (.lst [V.int h0, .int one]) = H3 at s3 hg3 ⊢
          by_cases he2 : h0 = oth
          · refine ⟨_, rfl, _, rfl, rfl, .inr ⟨true, by rw [decide_eq_true (show V.int h0 = V.int oth by rw [he2])], g, _, _, _, rfl, rfl, SqL.of hg3, atI_nat (j := 1) rfl, ?_⟩⟩
            refine hN _ _ _ ⟨_, rfl⟩ ⟨sm2.trans s3, ?_⟩ (by simp)
            rw [take_succ_of eh, List.map_append, List.map_cons, List.map_nil, if_pos he2]
          · refine ⟨_, rfl, _, rfl, rfl, .inr ⟨false, by rw [decide_eq_false (show ¬ V.int h0 = V.int oth from fun z => he2 (by injection z))], g, _, _, _, rfl, rfl, SqL.of hg3, atI_nat (j := 0) rfl, ?_⟩⟩
            refine hN _ _ _ ⟨_, rfl⟩ ⟨sm2.trans s3, ?_⟩ (by simp)
            rw [take_succ_of eh, List.map_append, List.map_cons, List.map_nil, if_neg he2]
        · rintro ys H2 ⟨sm2, rfl⟩ p2 hp2
          dsimp only [List.set]
          refine ⟨_, rfl, _, _, rfl, rfl, p2, some (.int k), some (.int one), some (.int oth), ?_, (sm.trans sm2).trans (Same.new hp2), ?_⟩
          · rw [e2]
            rfl
          · rw [upd_same, e2, List.length_map, List.take_length, List.map_map]
            rfl
    · rintro σ H' ⟨l, u, v, t, rfl, sm, hl⟩
      have q' := q H' sm
      unfold rk at q'
      refine ⟨_, rfl, ?_⟩
      rw [List.length_map, List.take_length]
      exact q'
theorem scPick : FnScope ["_law_mask", "_law_many"] ["_law_mask", "_law_many"] (defScope sPick) := ⟨rfl, rfl, rfl, by decide +kernel, rfl, by decide +kernel, by decide +kernel⟩
theorem nd2p : (["_law_k", "_law_mask"] : List Str).Nodup := by decide +kernel
theorem d_pick (T : Txt K mg) (S : Src K mg "_law_pick" sPick ["_law_mask", "_law_many"]) : Def P w K mg base 1 "_law_pick" ["_law_mask", "_law_many"] spPick := by
  refine S.def scPick (fun vs H Q E h => ?_) (fun f cdv A outer s H vs Q E hr h => ?_)
  · obtain ⟨_, _, rfl, _⟩ := h; rfl
  · obtain ⟨b, m, rfl, m8, q⟩ := h
    refine ⟨_, pss_one (ps_ret (pe_callTy (call_tuple_ofK K) rfl T.tuple boot_tuple' (pa_cons (pe_comp (N' := ["_law_k", "_law_mask"]) (fr := [none, some 0]) (compOk_of (by rfl)) rfl (pi_range1 rfl T.range (pa_cons (pv 1) pa_nil))
      (fun _ _ _ _ => pg_name (i := 0) nd2p rfl (Or.inl rfl) (Or.inr rfl)) (fun _ _ _ _ => pifs_one (pt_cmpR op_eq (pe_op op_and (pe_op op_shr (pv 1) (pv 0)) pe_int) pe_int (nomark _))) (fun _ _ _ _ => pv 0)) pa_nil))), ?_⟩
    refine ⟨_, rfl, (m : Int), rfl, by lia, by lia, ?_⟩
    rw [Int.toNat_natCast]
    refine comp_range (lo := 0) (n := m) (fun σ => ∃ v, σ = [v, some (.int b)]) (fun j ys H5 => H5 = H /\ ys = ((ups j).filter (bitI b)).map V.int) ⟨_, rfl⟩ ⟨rfl, rfl⟩ (ten_line (by lia)) ?_ ?_
    · rintro j ys σ H5 N hj ⟨u, rfl⟩ ⟨rfl, rfl⟩ hN
      rw [show (0 : Int) + (j : Int) = (j : Int) by lia]
      dsimp only [gName, List.set]
      have eb : decide (V.int (Builtin.bitAnd (b / 2 ^ (j : Int).toNat) 1) = V.int 1) = bitI b j := by
        unfold bitI
        rw [decide_eq_decide]
        exact ⟨fun z => by injection z, fun z => by rw [z]⟩
      refine ⟨_, rfl, _, rfl, _, _, rfl, rfl, (by show (0 : Int) <= (j : Int); lia), _, _, rfl, rfl, rfl, _, rfl, ?_⟩
      rw [eb]
      have e1 : ups ((j + 1 : Nat) : Int) = ups j ++ [(j : Int)] := by rw [show ((j + 1 : Nat) : Int) = (j : Int) + 1 by lia, ups_snoc (by lia)]
      refine ite2 (fun z => ⟨_, rfl, ?_⟩) (fun z => ?_)
      · refine hN _ _ _ ⟨_, rfl⟩ ⟨rfl, ?_⟩ (by simp)
        rw [e1, List.filter_append, List.map_append]
        simp [z]
      · refine hN _ _ _ ⟨_, rfl⟩ ⟨rfl, ?_⟩ (by simp)
        rw [e1, List.filter_append]
        simp [z]
    · rintro ys H5 ⟨rfl, rfl⟩ p hp
      refine ⟨p, _, rfl, .inl ⟨SqL.of upd_same, fun t ht => ?_⟩⟩
      refine q t _ ((Same.new hp).trans (Same.new ht)) ?_
      rw [upd_same]
      rfl
end
theorem cut_len (ns : List Int) (i j : Nat) : ∃ ms : List Int, cutV (ns.map V.int) (some (i : Int)) (some (j : Int)) = ms.map V.int /\ ms.length <= j - i := by
  refine ⟨(ns.drop (HT.sIx (ns.map V.int).length 0 (some (i : Int)))).take (HT.sIx (ns.map V.int).length (ns.map V.int).length (some (j : Int)) - HT.sIx (ns.map V.int).length 0 (some (i : Int))), ?_, ?_⟩
  · unfold cutV
    rw [List.map_take, List.map_drop]
  · rw [List.length_take, HT.sIx_nat, HT.sIx_nat]
    lia
def spWeb56 (K : W.Frag) : Sp := fun vs H Q _ => ∃ (a : Addr) (ns : List Int), vs = [.ref a] /\ SqL K H a (ns.map V.int) /\ ∀ wv n ps H', Same H H' -> WebAt H' wv n ps -> WebOk n ps -> Q wv H'
section
variable {P : Program} {w : World} {K : W.Frag} {mg : Str -> Option Value} {base : Heap}
seal PSs PS PE PI PA PT PG
theorem scWeb : FnScope ["_law_script", "_law_head", "_law_points", "_law_ties", "_law_k", "_law_cell", "_law_a", "_law_b"] ["_law_script"] (defScope sWeb) := ⟨rfl, rfl, rfl, by decide +kernel, rfl, by decide +kernel, by decide +kernel⟩
theorem d_web (T : Txt K mg) (henum : mg "enumerate" = none) (S : Src K mg "_law_web" sWeb ["_law_script"]) (DA : Def P w K mg base 1 "_law_at" ["_law_script", "_law_k"] (spAt K)) : Def P w K mg base 2 "_law_web" ["_law_script"] (spWeb56 K) := by
  refine S.def scWeb (fun vs H Q E h => ?_) (fun f cdv A outer s H vs Q E hr h => ?_)
  · obtain ⟨_, _, rfl, _⟩ := h; rfl
  · obtain ⟨a, ns, rfl, hq, q⟩ := h
    have hr1 : Room 1 _ := hr.mono (by decide)
    refine ⟨_, pss_cons (ps_set (i := 1) scWeb.nd rfl (Or.inl rfl) (pe_def DA hr1 rfl (pa_cons (pv 0) (pa_cons pe_int pa_nil))))
      (pss_cons (ps_set (i := 2) scWeb.nd rfl (Or.inl rfl) (pe_op op_add pe_int (pe_op op_mod (pv 1) pe_int)))
      (pss_cons (ps_if (pt_cmpR op_eq (pe_op op_mod (pe_op op_fdiv (pv 1) pe_int) pe_int) pe_int (nomark _)) (pss_one (ps_set (i := 2) scWeb.nd rfl (Or.inl rfl) (pe_op op_add pe_int (pe_op op_mod (pe_op op_fdiv (pv 1) pe_int) pe_int)))) pss_nil)
      (pss_cons (ps_set (i := 3) scWeb.nd rfl (Or.inl rfl) (pe_lst pa_nil))
      (pss_cons (ps_for PassesOwn.never rfl (pi_enumK K .l rfl henum (pa_cons (pe_slice (sl_listK K) (pv 0) (po_some pe_int) (po_some pe_int)) pa_nil)) (pg_tupK K 2 rfl (pgs_cons (pg_name (i := 4) scWeb.nd rfl (Or.inl rfl)) (pgs_cons (pg_name (i := 5) scWeb.nd rfl (Or.inl rfl)) pgs_nil)))
        (pss_cons (ps_set (i := 6) scWeb.nd rfl (Or.inl rfl) (pe_op op_mod (pv 5) (pv 2)))
        (pss_cons (ps_set (i := 7) scWeb.nd rfl (Or.inl rfl) (pe_op op_mod (pe_op op_fdiv (pv 5) (pv 2)) (pv 2)))
        (pss_cons (ps_if (PW.pt (pw_and (pt_cmpR op_eq (pe_op op_mod (pe_op op_fdiv (pv 5) pe_int) pe_int) pe_int (nomark _)) (pw_and1 (pt_cmpR (op_neNilK K (units66 hr)) (pv 3) (pe_lst pa_nil) (nomark _)))))
          (pss_one (ps_asg (pe_ix (ix_listK K) (pv 3) (pe_un un_neg pe_int) (fun _ _ => rfl)) (pg_tupK K 2 rfl (pgs_cons (pg_name (i := 6) scWeb.nd rfl (Or.inl rfl)) (pgs_cons (pg_name (i := 7) scWeb.nd rfl (Or.inl rfl)) pgs_nil))))) pss_nil)
        (pss_cons (ps_if (PW.pt (pw_and (pt_cmpR op_eq (pe_op op_mod (pe_op op_fdiv (pv 1) pe_int) pe_int) pe_int (nomark _)) (pw_and1 (pt_cmpR op_lt (pe_op op_add (pv 4) pe_int) (pv 2) (nomark _)))))
          (pss_cons (ps_set (i := 6) scWeb.nd rfl (Or.inl rfl) (pe_op op_add (pv 4) pe_int))
          (pss_one (ps_set (i := 7) scWeb.nd rfl (Or.inl rfl) (pe_op op_mod (pv 5) (pe_op op_add (pv 4) pe_int))))) pss_nil)
        (pss_one (ps_expr (pe_bm PySem.F.plainAttrs_list PySem.F.slot_list_append PySem.F.type_list_append mt_append (pv 3) (pa_cons (pe_tup (pa_cons (pe_callB (call_min2 rfl) (by rfl) T.min boot_min' (pa_cons (pv 6) (pa_cons (pv 7) pa_nil))) (pa_cons (pe_callB (call_max2 rfl) (by rfl) T.max boot_max' (pa_cons (pv 6) (pa_cons (pv 7) pa_nil))) pa_nil))) pa_nil)))))))))
      (pss_one (ps_ret (pe_tup (pa_cons (pv 2) (pa_cons (pe_callTy (call_tuple_ofK K) rfl T.tuple boot_tuple' (pa_cons (pv 3) pa_nil)) pa_nil))))))))), ?_⟩
    refine seq_abs fun M hM => ?_
    refine ⟨_, rfl, a, ns, 0, rfl, hq, hM _ _ ?_⟩
    clear hM M
    try dsimp only [List.set]
    generalize ns.getD 0 0 = head
    refine seq_abs fun M hM => ?_
    refine ⟨_, rfl, _, _, rfl, rfl, (by show (0 : Int) < 5; decide), _, _, rfl, rfl, hM _ _ ?_⟩
    clear hM M
    try dsimp only [List.set]
    refine seq_abs fun M hM => ?_
    have go : ∀ n : Int, 1 <= n -> n <= 9 -> M [some (.ref a), some (.int head), some (.int n), none, none, none, none, none] H := fun n n1 n9 => hM _ _ (by
      clear hM M
      try dsimp only [List.set]
      refine seq_abs fun M hM => ?_
      refine ⟨Nat.zero_le _, fun l hl => hM _ _ ?_⟩
      clear hM M
      have s1 := Same.new (o := HO.lst []) hl
      have g1 : (upd H l (.lst [])) l = some (.lst []) := upd_same
      generalize upd H l (.lst []) = H1 at s1 g1 ⊢
      try dsimp only [List.set]
      refine seq_abs fun M hM => ?_
      refine ⟨_, rfl, _, rfl, _, rfl, a, _, rfl, s1.seq hq, fun p1 hp1 => ?_⟩
      obtain ⟨ms, em, ml⟩ := cut_len ns 1 9
      have em' : cutV (ns.map V.int) (some 1) (some 9) = ms.map V.int := em
      rw [em']
      have s2 := Same.new (o := HO.lst (ms.map V.int)) hp1
      have hp1' : (upd H1 p1 (.lst (ms.map V.int))) p1 = some (.lst (ms.map V.int)) := upd_same
      have g2 := s2 _ _ g1
      have nlp : p1 ≠ l := fun z => by rw [z] at hp1; rw [g1] at hp1; cases hp1
      have s12 := s1.trans s2
      generalize upd H1 p1 (.lst (ms.map V.int)) = H2 at s2 hp1' g2 s12 ⊢
      refine ⟨p1, _, rfl, SqL.of hp1', for_enum (k := .l) (K := K) (a := p1) (xs := ms.map V.int) (fun i σ H' => ∃ u v r t, σ = [some (.ref a), some (.int head), some (.int n), some (.ref l), u, v, r, t] /\ Same H H' /\ H' p1 = some (.lst (ms.map V.int)) /\ ∃ xs ps, H' l = some (.lst xs) /\ Paired (TieAt H') xs ps /\ ps.length = i /\ ∀ p ∈ ps, InN n p)
          ⟨_, _, _, _, rfl, s12, hp1', [], [], g2, .nil, rfl, fun _ z => nomatch z⟩ (fun i σ H' _ ⟨_, _, _, _, _, _, z, _⟩ => SqL.of z) ?_ ?_⟩
      · rintro i x pe σ H3 hx ⟨u, v, r, t, rfl, sm, hp3, xs, ps, hl3, ht, pl, hb⟩ hpe
        obtain ⟨cell, ec, rfl⟩ := get_int' hx
        have il : i < 8 := by
          have := (List.getElem?_eq_some_iff.mp ec).1
          lia
        have se := Same.new (o := HO.tup [.int (i : Int), .int cell]) hpe
        have lnp : l ≠ pe := fun z => by rw [<- z, hl3] at hpe; cases hpe
        refine ⟨pe, _, rfl, SqT.of upd_same, rfl, _, _, rfl, _, _, rfl, rfl, ?_⟩
        replace sm := sm.trans se
        replace hp3 := se _ _ hp3
        replace hl3 := se _ _ hl3
        replace ht := ties_same ht se
        generalize upd H3 pe (.tup [.int (i : Int), .int cell]) = H3 at sm hp3 hl3 ht ⊢
        clear se lnp hpe
        dsimp only [List.set]
        refine seq_abs fun M2 hM2 => ?_
        refine ⟨_, rfl, _, rfl, _, _, rfl, rfl, (by show 0 < n; lia), hM2 _ _ ?_⟩
        clear hM2 M2
        try dsimp only [List.set]
        refine seq_abs fun M2 hM2 => ?_
        refine ⟨_, rfl, _, rfl, _, _, rfl, rfl, ⟨by show 0 < n; lia, by show n < 1073741824; lia⟩, _, rfl, _, _, rfl, rfl, (by show 0 < n; lia), hM2 _ _ ?_⟩
        clear hM2 M2
        try dsimp only [List.set]
        have m1 := mod_in cell n (by lia)
        have m2 := mod_in (cell / n) n (by lia)
        generalize cell % n = A1 at m1 ⊢
        generalize cell / n % n = B1 at m2 ⊢
        refine seq_abs fun M2 hM2 => ?_
        have go2 : ∀ (A1 B1 : Int) (H4 : Hp), 0 <= A1 /\ A1 < n -> 0 <= B1 /\ B1 < n -> Same H3 H4 -> M2 [some (.ref a), some (.int head), some (.int n), some (.ref l), some (.int (i : Int)), some (.int cell), some (.int A1), some (.int B1)] H4 := fun A1 B1 H4 m1 m2 s4 => hM2 _ _ (by
          clear hM2 M2
          replace sm := sm.trans s4
          replace hp3 := s4 _ _ hp3
          replace hl3 := s4 _ _ hl3
          replace ht := ties_same ht s4
          try dsimp only [List.set]
          refine seq_abs fun M2 hM2 => ?_
          have go3 : ∀ (A1 B1 : Int), 0 <= A1 /\ A1 < n -> 0 <= B1 /\ B1 < n -> M2 [some (.ref a), some (.int head), some (.int n), some (.ref l), some (.int (i : Int)), some (.int cell), some (.int A1), some (.int B1)] H4 := fun A1 B1 m1 m2 => hM2 _ _ (by
            clear hM2 M2
            try dsimp only [List.set]
            refine ⟨_, rfl, .inl ⟨rfl, _, SqL.of hl3⟩, _, rfl, _, rfl, _, _, rfl, _, rfl, _, rfl, _, _, rfl, by show 2 <= sizeLine; decide, fun c hc => ?_⟩
            have s5 := Same.new (o := HO.tup [.int (if B1 < A1 then B1 else A1), .int (if B1 > A1 then B1 else A1)]) hc
            have hl5 := s5 _ _ hl3
            have hp5 := s5 _ _ hp3
            have ht5 := ties_same ht s5
            have hc5 : (upd H4 c (.tup [.int (if B1 < A1 then B1 else A1), .int (if B1 > A1 then B1 else A1)])) c = some (.tup [.int (if B1 < A1 then B1 else A1), .int (if B1 > A1 then B1 else A1)]) := upd_same
            have sm5 := sm.trans s5
            generalize upd H4 c (.tup [.int (if B1 < A1 then B1 else A1), .int (if B1 > A1 then B1 else A1)]) = H5 at hl5 hp5 ht5 hc5 sm5 ⊢
            have xl : xs.length = ps.length := Paired.length ht5
            refine ⟨l, xs, .ref c, rfl, rfl, hl5, Nat.lt_of_le_of_lt (show xs.length <= 8 by lia) (by decide), ?_⟩
            have tc : Paired (TieAt H5) (xs ++ [.ref c]) (ps ++ [(if B1 < A1 then B1 else A1, if B1 > A1 then B1 else A1)]) := L2.Paired.snoc ht5 ⟨c, rfl, hc5⟩
            refine ⟨_, _, _, _, rfl, same_put sm5 hl, by rw [upd_ne nlp]; exact hp5, xs ++ [.ref c], _, upd_same, ties_put tc hl5, by rw [List.length_append, pl, List.length_singleton], fun p hp => ?_⟩
            rcases List.mem_append.mp hp with hp | hp
            · exact hb p hp
            · rw [List.mem_singleton.mp hp]
              unfold InN
              dsimp only
              split <;> split <;> lia)
          refine ⟨_, rfl, _, _, rfl, rfl, ⟨by decide, by decide⟩, _, _, rfl, rfl, (by show (0 : Int) < 2; decide), rfl, _, rfl, ?_⟩
          refine ite2 (fun _ => ?_) (fun _ => iteF (go3 _ _ m1 m2))
          refine ⟨_, rfl, _, _, rfl, rfl, _, rfl, _, _, rfl, rfl, _, rfl, ?_⟩
          refine ite2 (fun z => ?_) (fun _ => go3 _ _ m1 m2)
          have z : (i : Int) + 1 < n := of_decide_eq_true z
          refine ⟨_, rfl, _, _, rfl, rfl, ?_⟩
          try dsimp only [List.set]
          refine ⟨_, rfl, _, rfl, _, _, rfl, rfl, _, _, rfl, rfl, (by show (0 : Int) < (i : Int) + 1; lia), ?_⟩
          try dsimp only [List.set]
          have m3 := mod_in cell ((i : Int) + 1) (by lia)
          exact go3 _ _ ⟨by lia, z⟩ ⟨m3.1, by lia⟩)
        refine ⟨_, rfl, _, _, rfl, rfl, ⟨by decide, by decide⟩, _, _, rfl, rfl, (by show (0 : Int) < 4; decide), rfl, _, rfl, ?_⟩
        refine ite2 (fun _ => ?_) (fun _ => iteF (go2 _ _ _ m1 m2 (Same.refl _)))
        refine ⟨_, rfl, Nat.zero_le _, fun e he => ⟨l, e, xs, rfl, rfl, SqL.of (Same.new he _ _ hl3), SqL.of upd_same, _, rfl, ?_⟩⟩
        have s4 := Same.new (o := HO.lst []) he
        have ht4 := ties_same ht s4
        have hl4 := s4 _ _ hl3
        generalize upd H3 e (.lst []) = H4 at s4 ht4 hl4 ⊢
        by_cases x0 : xs = []
        · rw [decide_eq_true x0]
          exact iteF (go2 _ _ _ m1 m2 s4)
        · rw [decide_eq_false x0]
          obtain ⟨c, p, e1, e2, e3⟩ := last_tie ht4 x0
          have ip := hb p e3
          refine iteT ⟨_, rfl, _, rfl, l, _, _, _, rfl, rfl, SqL.of hl4, e1, c, _, rfl, SqT.of e2, rfl, _, _, rfl, _, _, rfl, rfl, ?_⟩
          try dsimp only [List.set]
          exact go2 _ _ _ ⟨ip.1, ip.2.1⟩ ⟨ip.2.2.1, ip.2.2.2⟩ s4
      · rintro σ H3 ⟨u, v, r, t, rfl, sm, hp3, xs, ps, hl3, ht, pl, hb⟩
        refine hM _ _ ?_
        rw [List.length_map] at pl
        refine ⟨_, rfl, _, rfl, l, xs, rfl, .inl ⟨SqL.of hl3, fun d hd => ⟨by show 2 <= sizeLine; decide, fun c hc => ?_⟩⟩⟩
        have s4 := Same.new (o := HO.tup xs) hd
        have s5 := Same.new (o := HO.tup [.int n, .ref d]) hc
        exact q (.ref c) n ps _ (sm.trans (s4.trans s5)) ⟨c, d, xs, rfl, upd_same, s5 _ _ upd_same, ties_same ht (s4.trans s5)⟩ ⟨⟨n1, n9⟩, hb, by lia⟩)
    clear hM
    have b1 := mod_in head 5 (by decide)
    have b2 := mod_in (head / 40) 9 (by decide)
    refine ⟨_, rfl, _, _, rfl, rfl, ⟨by decide, by decide⟩, _, _, rfl, rfl, (by show (0 : Int) < 8; decide), rfl, _, rfl, ?_⟩
    refine ite2 (fun _ => ?_) (fun _ => go _ (by lia) (by lia))
    refine ⟨_, rfl, _, _, rfl, rfl, ⟨by decide, by decide⟩, _, _, rfl, rfl, (by show (0 : Int) < 9; decide), _, _, rfl, rfl, ?_⟩
    try dsimp only [List.set]
    exact go _ (by lia) (by lia)
end
def spLCount : Sp := fun vs H Q _ => ∃ (wv : V) (n : Nat) (ps : List (Int × Int)), vs = [wv] /\ WebAt H wv n ps /\ WebOk n ps /\ ∀ H', Same H H' -> Q (.int (tC (ups n) ps)) H'
def cntP (n : Int) (ps : List (Int × Int)) (wh : Int) (j : Nat) : Int := sm ((List.range j).map fun b : Nat => pkB (b : Int) ps.length) fun A => if (A.length : Int) = wh /\ rk n ps A = wh then 1 else 0
theorem cnt_succ (n : Int) (ps : List (Int × Int)) (wh : Int) (j : Nat) : cntP n ps wh (j + 1) = cntP n ps wh j + if ((pkB (j : Int) ps.length).length : Int) = wh /\ rk n ps (pkB (j : Int) ps.length) = wh then 1 else 0 := by
  unfold cntP
  rw [List.range_succ, List.map_append, sm_app]
  show _ + sm [pkB (j : Int) ps.length] _ = _
  rw [sm_cons, sm_nil, Int.add_zero]
section
variable {P : Program} {w : World} {K : W.Frag} {mg : Str -> Option Value} {base : Heap}
seal PSs PS PE PI PA PT PG
theorem scCount : FnScope ["_law_web_here", "_law_many", "_law_whole", "_law_found", "_law_mask", "_law_pick_here"] ["_law_web_here"] (defScope sCount) := ⟨rfl, rfl, rfl, by decide +kernel, rfl, by decide +kernel, by decide +kernel⟩
theorem d_count (T : Txt K mg) (S : Src K mg "_law_count" sCount ["_law_web_here"]) (DR : Def P w K mg base 1 "_law_rank" ["_law_web_here", "_law_pick_here"] (spLRank5 K)) (DP : Def P w K mg base 1 "_law_pick" ["_law_mask", "_law_many"] spPick) : Def P w K mg base 2 "_law_count" ["_law_web_here"] spLCount := by
  refine S.def scCount (fun vs H Q E h => ?_) (fun f cdv A outer s H vs Q E hr h => ?_)
  · obtain ⟨_, _, _, rfl, _⟩ := h; rfl
  · obtain ⟨wv, n, ps, rfl, W, ok, q⟩ := h
    obtain ⟨⟨n1, n9⟩, hb, h8⟩ := id ok
    obtain ⟨c, d, xs, rfl, hc, hd, ht⟩ := W.ex
    have xl : xs.length = ps.length := Paired.length ht
    have hr1 : Room 1 _ := hr.mono (by decide)
    rw [tC_is (by lia) (by lia) hb h8] at q
    refine ⟨_, pss_cons (ps_set (i := 1) scCount.nd rfl (Or.inl rfl) (pe_callB (call_lenK K) (by rfl) T.len PySem.boot_len (pa_cons (pe_ix (ix_tupK K) (pv 0) pe_int (fun _ _ => rfl)) pa_nil)))
      (pss_cons (ps_set (i := 2) scCount.nd rfl (Or.inl rfl) (pe_def DR hr1 rfl (pa_cons (pv 0) (pa_cons (pe_callTy (call_list_rng rfl) rfl T.list boot_list' (pa_cons (pe_callTy call_range1 rfl T.range boot_range' (pa_cons (pv 1) pa_nil)) pa_nil)) pa_nil))))
      (pss_cons (ps_if (pt_cmpR op_lt (pv 2) (pe_op op_sub (pe_ix (ix_tupK K) (pv 0) pe_int (fun _ _ => rfl)) pe_int) (nomark _)) (pss_one (ps_ret pe_int)) pss_nil)
      (pss_cons (ps_set (i := 3) scCount.nd rfl (Or.inl rfl) pe_int)
      (pss_cons (ps_for PassesOwn.never rfl (pi_range1 rfl T.range (pa_cons (pe_op op_shl pe_int (pv 1)) pa_nil)) (pg_name (i := 4) scCount.nd rfl (Or.inl rfl))
        (pss_cons (ps_set (i := 5) scCount.nd rfl (Or.inl rfl) (pe_def DP hr1 rfl (pa_cons (pv 4) (pa_cons (pv 1) pa_nil))))
        (pss_one (ps_if (PW.pt (pw_and (pt_cmpR op_eq (pe_callB (call_lenK K) (by rfl) T.len PySem.boot_len (pa_cons (pv 5) pa_nil)) (pv 2) (nomark _)) (pw_and1 (pt_cmpR op_eq (pe_def DR hr1 rfl (pa_cons (pv 0) (pa_cons (pv 5) pa_nil))) (pv 2) (nomark _)))))
          (pss_one (ps_set (i := 3) scCount.nd rfl (Or.inl rfl) (pe_op op_add (pv 3) pe_int))) pss_nil))))
      (pss_one (ps_ret (pv 3))))))), ?_⟩
    have i0 : atI ([.int (n : Int), .ref d] : List V) 0 = some (.int (n : Int)) := atI_nat (j := 0) rfl
    have i1 : atI ([.int (n : Int), .ref d] : List V) 1 = some (.ref d) := atI_nat (j := 1) rfl
    refine ⟨_, rfl, c, _, _, _, rfl, rfl, SqT.of hc, i1, d, xs, rfl, .inr (SqT.of hd), ?_⟩
    rw [xl]
    refine ⟨_, rfl, _, rfl, _, rfl, fun p hp => ⟨p, ps.length, rfl, upd_same, by lia, fun l hl => ?_⟩⟩
    have s1 := (Same.new (o := HO.rng 0 ps.length) hp).trans (Same.new (o := HO.lst (upN ps.length)) hl)
    have hl1 : (upd (upd H p (.rng 0 ps.length)) l (.lst (upN ps.length))) l = some (.lst ((ups ps.length).map V.int)) := by rw [upd_same, upN_ups]
    generalize upd (upd H p (.rng 0 ps.length)) l (.lst (upN ps.length)) = H1 at s1 hl1 ⊢
    refine ⟨.l, .ref c, l, n, ps, ups ps.length, rfl, W.same s1, ok, SqL.of hl1, ups_ks _, fun H2 s2 => ?_⟩
    have s12 := s1.trans s2
    generalize rk n ps (ups ps.length) = wh at q ⊢
    dsimp only [List.set]
    refine ⟨_, rfl, _, rfl, c, _, _, _, rfl, rfl, SqT.of (s12 _ _ hc), i0, _, _, rfl, rfl, _, _, rfl, rfl, _, rfl, ?_⟩
    by_cases cw : wh < (n : Int) - 1
    · rw [decide_eq_true cw]
      rw [if_pos cw] at q
      exact iteT (q _ s12)
    rw [decide_eq_false cw]
    rw [if_neg cw] at q
    refine iteF ?_
    dsimp only [List.set]
    have e2 : (1 : Int) * 2 ^ ((ps.length : Nat) : Int).toNat = ((2 ^ ps.length : Nat) : Int) := by rw [Int.one_mul, Int.toNat_natCast, Int.natCast_pow]; rfl
    have p256 : 2 ^ ps.length <= 256 := Nat.pow_le_pow_right (by decide) h8
    refine ⟨_, rfl, _, _, rfl, rfl, ⟨by lia, by lia, by decide⟩, _, rfl, ?_⟩
    rw [e2]
    have i256 : ((2 ^ ps.length : Nat) : Int) <= 256 := Int.ofNat_le.mpr p256
    have i0' : 0 <= ((2 ^ ps.length : Nat) : Int) := Int.natCast_nonneg _
    refine ⟨by revert i0' i256; generalize ((2 ^ ps.length : Nat) : Int) = z; lia, by revert i0' i256; generalize ((2 ^ ps.length : Nat) : Int) = z; lia, ?_⟩
    refine for_range (lo := 0) (n := ((2 ^ ps.length : Nat) : Int).toNat) (fun j σ H' => (∃ u v, σ = [some (.ref c), some (.int (ps.length : Int)), some (.int wh), some (.int (cntP n ps wh j)), u, v]) /\ Same H H') ⟨⟨_, _, rfl⟩, s12⟩ ?_ ?_
    · rintro j σ H4 hj ⟨⟨u, v, rfl⟩, sm⟩
      dsimp only [gName, List.set]
      rw [show (0 : Int) + (j : Int) = (j : Int) by lia]
      refine ⟨_, rfl, _, rfl, (j : Int), ps.length, rfl, h8, fun t H5 s5 ht5 => ?_⟩
      have sm5 := sm.trans s5
      have kpk := pkB_ks (j : Int) ps.length
      have ec := cnt_succ n ps wh j
      generalize pkB (j : Int) ps.length = pk at ht5 kpk ec
      dsimp only [List.set]
      refine ⟨_, rfl, t, _, rfl, .inr (SqT.of ht5), _, rfl, rfl, _, rfl, ?_⟩
      rw [List.length_map, dec_int]
      refine ite2 (fun z1 => ?_) (fun z1 => iteF ?_)
      · refine ⟨_, rfl, _, rfl, .t, .ref c, t, n, ps, pk, rfl, W.same sm5, ok, SqT.of ht5, kpk, fun H6 s6 => ⟨_, rfl, rfl, _, rfl, ?_⟩⟩
        rw [dec_int]
        refine ite2 (fun z2 => ?_) (fun z2 => ?_)
        · refine ⟨_, rfl, _, _, rfl, rfl, ⟨⟨some (.int (j : Int)), some (.ref t), ?_⟩, sm5.trans s6⟩⟩
          rw [ec, if_pos ⟨of_decide_eq_true z1, of_decide_eq_true z2⟩]
          rfl
        · refine ⟨⟨some (.int (j : Int)), some (.ref t), ?_⟩, sm5.trans s6⟩
          rw [ec, if_neg (fun z => z2 (decide_eq_true z.2)), Int.add_zero]
          rfl
      · refine ⟨⟨some (.int (j : Int)), some (.ref t), ?_⟩, sm5⟩
        rw [ec, if_neg (fun z => z1 (decide_eq_true z.1)), Int.add_zero]
        rfl
    · rintro σ H4 ⟨⟨u, v, rfl⟩, sm⟩
      refine ⟨_, rfl, ?_⟩
      rw [Int.toNat_natCast]
      rw [allQ_bits] at q
      exact q H4 sm
end
open PySem.W (subIn kitOne kitAny)
structure ExcR (K : W.Frag) (mg : Str -> Option Value) (C : Addr) (n : Fin 8 -> Addr) (o : Fin 6 -> Addr) (Wc : Addr) (bW : List Value) : Prop where
  s0 : mg "NoPoint" = some (.ref C)
  n0 : mg "NoDrawing" = some (.ref (n 0))
  n1 : mg "NoNumber" = some (.ref (n 1))
  n2 : mg "NoOrder" = some (.ref (n 2))
  n3 : mg "NoPlaces" = some (.ref (n 3))
  n4 : mg "NoSuch" = some (.ref (n 4))
  n5 : mg "NoText" = some (.ref (n 5))
  n6 : mg "NoTie" = some (.ref (n 6))
  n7 : mg "NotApart" = some (.ref (n 7))
  o0 : mg "NoName" = some (.ref (o 0))
  o1 : mg "NoRow" = some (.ref (o 1))
  o2 : mg "NotJoined" = some (.ref (o 2))
  o3 : mg "NotPlane" = some (.ref (o 3))
  o4 : mg "TooMany" = some (.ref (o 4))
  o5 : mg "NoWeb" = some (.ref (o 5))
  hw : mg "WebError" = some (.ref Wc)
  ve : mg "ValueError" = none
  xw : excB K Wc bW = true
  kx : excKB K C = true
  sb : subIn K (.ref C) (.ref Wc) = some true
  yv : kitOne K (.ref C) (.type "ValueError") = some true
  yo : kitOne K (.ref C) (.ref C) = some true
  a8 : kitAny K (.ref C) [.ref (n 0), .ref (n 1), .ref (n 2), .ref (n 3), .ref (n 4), .ref (n 5), .ref (n 6), .ref (n 7)] = some false
  a6 : kitAny K (.ref C) [.ref (o 0), .ref (o 1), .ref (o 2), .ref (o 3), .ref (o 4), .ref (o 5)] = some false
theorem boot_ve : bootBuiltins "ValueError" = some (.type "ValueError") := by first | rfl | decide +kernel
theorem vals_refs {l : List Addr} : ∀ {us : List Value}, Vals (l.map V.ref) us -> us = l.map Value.ref := by
  induction l with
  | nil => intro us h; exact Vals.zero h
  | cons a l ih =>
    intro us h
    cases h with
    | cons r t => rw [ih t, show _ = Value.ref a from r]; rfl
def spThing (K : W.Frag) : Sp := fun vs H Q _ => ∃ (wv : V) (n c : Int) (ps : List (Int × Int)), vs = [wv, .int c] /\ WebAt H wv n ps /\ 1 <= n /\ ∀ x H', Same H H' -> BadPt K H' n x -> Q x H'
def spRefused (K : W.Frag) : Sp := fun vs H Q _ => ∃ (wv x : V) (n : Int) (ps : List (Int × Int)), vs = [wv, x] /\ WebAt H wv n ps /\ BadPt K H n x /\ ∀ H', Same H H' -> Q (.bl true) H'
theorem pos58 : (0 : Int) < 10 ^ (58 : Int).toNat := by decide +kernel
theorem bad_neg (K : W.Frag) (H : Hp) {n i : Int} (h : i < 0) : BadPt K H n (.int i) := ⟨plain_int _ _ _, by show (decide (0 <= i) && decide (i <= n - 1)) = false; rw [decide_eq_false (by lia)]; rfl⟩
theorem bad_big (K : W.Frag) (H : Hp) {n i : Int} (h : n <= i) : BadPt K H n (.int i) := ⟨plain_int _ _ _, by show (decide (0 <= i) && decide (i <= n - 1)) = false; rw [decide_eq_false (show ¬ i <= n - 1 by lia), Bool.and_false]⟩
theorem tw_cases {i : Int} (h0 : 0 <= i) (h1 : i < 12) {p : Int -> Prop} (a0 : p 0) (a1 : p 1) (a2 : p 2) (a3 : p 3) (a4 : p 4) (a5 : p 5) (a6 : p 6) (a7 : p 7) (a8 : p 8) (a9 : p 9) (a10 : p 10) (a11 : p 11) : p i := by
  have : i = 0 \/ i = 1 \/ i = 2 \/ i = 3 \/ i = 4 \/ i = 5 \/ i = 6 \/ i = 7 \/ i = 8 \/ i = 9 \/ i = 10 \/ i = 11 := by lia
  rcases this with rfl | rfl | rfl | rfl | rfl | rfl | rfl | rfl | rfl | rfl | rfl | rfl <;> assumption
section
variable {P : Program} {w : World} {K : W.Frag} {mg : Str -> Option Value} {base : Heap} {C : Addr} {n : Fin 8 -> Addr} {o : Fin 6 -> Addr} {Wc : Addr} {bW : List Value}
seal PSs PS PE PI PA PT PG
theorem scThing : FnScope ["_law_web_here", "_law_cell", "_law_some"] ["_law_web_here", "_law_cell"] (defScope sThing) := ⟨rfl, rfl, rfl, by decide +kernel, rfl, by decide +kernel, by decide +kernel⟩
theorem d_thing (S : Src K mg "_law_thing" sThing ["_law_web_here", "_law_cell"]) : Def P w K mg base 1 "_law_thing" ["_law_web_here", "_law_cell"] (spThing K) := by
  refine S.def scThing (fun vs H Q E h => ?_) (fun f cdv A outer s H vs Q E hr h => ?_)
  · obtain ⟨_, _, _, _, rfl, _⟩ := h; rfl
  · obtain ⟨wv, nn, c, ps, rfl, W, n1, q⟩ := h
    obtain ⟨cw, d, xs, rfl, hc, hd, ht⟩ := W.ex
    refine ⟨_, pss_cons (ps_set (i := 2) scThing.nd rfl (Or.inl rfl) (pe_lst (pa_cons (pe_un un_neg pe_int) (pa_cons (pe_ix (ix_tupK K) (pv 0) pe_int (fun _ _ => rfl)) (pa_cons pe_non (pa_cons pe_str (pa_cons (pe_tup (pa_cons pe_int pa_nil)) (pa_cons (pe_lst pa_nil) (pa_cons pe_bl (pa_cons pe_bl (pa_cons (pe_op op_add (pe_ix (ix_tupK K) (pv 0) pe_int (fun _ _ => rfl)) (pe_op op_mod (pe_op op_fdiv (pv 1) pe_int) (pe_op op_pow pe_int pe_int))) (pa_cons (pe_op op_sub (pe_un un_neg pe_int) (pe_op op_mod (pe_op op_fdiv (pv 1) pe_int) (pe_op op_pow pe_int pe_int))) pa_nil))))))))))))
      (pss_one (ps_ret (pe_ix (ix_listK K) (pe_op op_cat (pv 2) (pe_lst (pa_cons pe_dict0 (pa_cons pe_str pa_nil)))) (pe_op op_mod (pv 1) pe_int) (fun _ _ => rfl)))), ?_⟩
    have i0 : atI ([.int nn, .ref d] : List V) 0 = some (.int nn) := atI_nat (j := 0) rfl
    have ff := (mod_in (c / 12) (10 ^ (58 : Int).toNat) pos58).1
    refine seq_abs fun M hM => ?_
    refine ⟨_, rfl, _, rfl, cw, _, _, _, rfl, rfl, SqT.of hc, i0, by show 1 <= sizeLine; decide, fun l1 hl1 => ?_⟩
    have s1 := Same.new (o := HO.tup [.int 0]) hl1
    have e1 : (upd H l1 (HO.tup [.int 0])) l1 = some (.tup [.int 0]) := upd_same
    generalize upd H l1 (HO.tup [.int 0]) = H1 at s1 e1 ⊢
    refine ⟨by show 0 <= sizeLine; decide, fun l2 hl2 => ?_⟩
    have s2 := Same.new (o := HO.lst []) hl2
    have e2 : (upd H1 l2 (HO.lst [])) l2 = some (.lst []) := upd_same
    replace e1 := s2 _ _ e1
    replace s2 := s1.trans s2
    generalize upd H1 l2 (HO.lst []) = H2 at s2 e1 e2 ⊢
    refine ⟨_, rfl, cw, _, _, _, rfl, rfl, SqT.of (s2 _ _ hc), i0, _, rfl, _, _, rfl, rfl, ⟨by decide, by decide⟩, _, _, rfl, rfl, ⟨by decide, by decide, by decide⟩, _, _, rfl, rfl, pos58, _, _, rfl, rfl, ?_⟩
    refine ⟨_, rfl, _, rfl, _, _, rfl, rfl, ⟨by decide, by decide⟩, _, _, rfl, rfl, ⟨by decide, by decide, by decide⟩, _, _, rfl, rfl, pos58, _, _, rfl, rfl, ?_⟩
    generalize c / 12 % 10 ^ (58 : Int).toNat = far at ff ⊢
    refine ⟨by show 10 <= sizeLine; decide, fun l3 hl3 => hM _ _ ?_⟩
    clear hM M
    have s3 := Same.new (o := HO.lst [.int (-1), .int nn, .non, .str "0", .ref l1, .ref l2, .bl true, .bl false, .int (nn + far), .int (-1 - far)]) hl3
    have e3 : (upd H2 l3 (HO.lst [.int (-1), .int nn, .non, .str "0", .ref l1, .ref l2, .bl true, .bl false, .int (nn + far), .int (-1 - far)])) l3 = some (.lst [.int (-1), .int nn, .non, .str "0", .ref l1, .ref l2, .bl true, .bl false, .int (nn + far), .int (-1 - far)]) := upd_same
    replace e1 := s3 _ _ e1
    replace e2 := s3 _ _ e2
    replace s3 := s2.trans s3
    generalize upd H2 l3 (HO.lst [.int (-1), .int nn, .non, .str "0", .ref l1, .ref l2, .bl true, .bl false, .int (nn + far), .int (-1 - far)]) = H3 at s3 e1 e2 e3 ⊢
    try dsimp only [List.set]
    refine ⟨_, rfl, fun l4 hl4 => ?_⟩
    have s4 := Same.new (o := HO.dK []) hl4
    have e4 : (upd H3 l4 (HO.dK [])) l4 = some (.dK []) := upd_same
    replace e1 := s4 _ _ e1
    replace e2 := s4 _ _ e2
    replace e3 := s4 _ _ e3
    replace s4 := s3.trans s4
    generalize upd H3 l4 (HO.dK []) = H4 at s4 e1 e2 e3 e4 ⊢
    refine ⟨by show 2 <= sizeLine; decide, fun l5 hl5 => ?_⟩
    have s5 := Same.new (o := HO.lst [.ref l4, .str ""]) hl5
    have e5 : (upd H4 l5 (HO.lst [.ref l4, .str ""])) l5 = some (.lst [.ref l4, .str ""]) := upd_same
    replace e1 := s5 _ _ e1
    replace e2 := s5 _ _ e2
    replace e3 := s5 _ _ e3
    replace e4 := s5 _ _ e4
    replace s5 := s4.trans s5
    generalize upd H4 l5 (HO.lst [.ref l4, .str ""]) = H5 at s5 e1 e2 e3 e4 e5 ⊢
    refine ⟨l3, l5, _, _, rfl, rfl, e3, e5, by show 12 <= sizeLine; decide, fun l6 hl6 => ?_⟩
    have s6 := Same.new (o := HO.lst [.int (-1), .int nn, .non, .str "0", .ref l1, .ref l2, .bl true, .bl false, .int (nn + far), .int (-1 - far), .ref l4, .str ""]) hl6
    have e6 : (upd H5 l6 (HO.lst [.int (-1), .int nn, .non, .str "0", .ref l1, .ref l2, .bl true, .bl false, .int (nn + far), .int (-1 - far), .ref l4, .str ""])) l6 = some (.lst [.int (-1), .int nn, .non, .str "0", .ref l1, .ref l2, .bl true, .bl false, .int (nn + far), .int (-1 - far), .ref l4, .str ""]) := upd_same
    replace e1 := s6 _ _ e1
    replace e2 := s6 _ _ e2
    replace e4 := s6 _ _ e4
    replace s6 := s5.trans s6
    have cc := mod_in c 12 (by decide)
    have fin : ∃ x, atI ([.int (-1), .int nn, .non, .str "0", .ref l1, .ref l2, .bl true, .bl false, .int (nn + far), .int (-1 - far), .ref l4, .str ""] : List V) (c % 12) = some x /\ BadPt K (upd H5 l6 (HO.lst [.int (-1), .int nn, .non, .str "0", .ref l1, .ref l2, .bl true, .bl false, .int (nn + far), .int (-1 - far), .ref l4, .str ""])) nn x :=
      tw_cases cc.1 cc.2 (p := fun i => ∃ x, atI ([.int (-1), .int nn, .non, .str "0", .ref l1, .ref l2, .bl true, .bl false, .int (nn + far), .int (-1 - far), .ref l4, .str ""] : List V) i = some x /\ BadPt K (upd H5 l6 (HO.lst [.int (-1), .int nn, .non, .str "0", .ref l1, .ref l2, .bl true, .bl false, .int (nn + far), .int (-1 - far), .ref l4, .str ""])) nn x)
        ⟨_, atI_nat (j := 0) rfl, bad_neg _ _ (by decide)⟩
        ⟨_, atI_nat (j := 1) rfl, bad_big _ _ (by lia)⟩
        ⟨_, atI_nat (j := 2) rfl, ⟨_, .non, (fun _ z => nomatch z)⟩, rfl⟩
        ⟨_, atI_nat (j := 3) rfl, ⟨_, .str _, (fun _ z => nomatch z)⟩, rfl⟩
        ⟨_, atI_nat (j := 4) rfl, ⟨_, .tup e1, (fun _ z => nomatch z)⟩, rfl⟩
        ⟨_, atI_nat (j := 5) rfl, ⟨_, .lst e2, (fun _ z => nomatch z)⟩, rfl⟩
        ⟨_, atI_nat (j := 6) rfl, ⟨_, .bl _, (fun _ z => nomatch z)⟩, rfl⟩
        ⟨_, atI_nat (j := 7) rfl, ⟨_, .bl _, (fun _ z => nomatch z)⟩, rfl⟩
        ⟨_, atI_nat (j := 8) rfl, bad_big _ _ (by lia)⟩
        ⟨_, atI_nat (j := 9) rfl, bad_neg _ _ (by lia)⟩
        ⟨_, atI_nat (j := 10) rfl, ⟨_, .dK e4, (fun _ z => nomatch z)⟩, rfl⟩
        ⟨_, atI_nat (j := 11) rfl, ⟨_, .str _, (fun _ z => nomatch z)⟩, rfl⟩
    obtain ⟨x, ax, bx⟩ := fin
    exact ⟨_, rfl, _, _, rfl, rfl, (by show (0 : Int) < 12; decide), l6, _, _, x, rfl, rfl, SqL.of e6, ax, q x _ s6 bx⟩
theorem scRefd : FnScope ["_law_web_here", "_law_thing_here", "e", "_law_some", "_law_more"] ["_law_web_here", "_law_thing_here"] (defScope sRefused) := ⟨rfl, rfl, rfl, by decide +kernel, rfl, by decide +kernel, by decide +kernel⟩
theorem d_refused (T : Txt K mg) (X : ExcR K mg C n o Wc bW) (S : Src K mg "_law_refused" sRefused ["_law_web_here", "_law_thing_here"]) (DA : DefQ P w K mg base 11 "corner_at" ["web", "point"] (spCornB K C)) : Def P w K mg base 12 "_law_refused" ["_law_web_here", "_law_thing_here"] (spRefused K) := by
  refine S.def scRefd (fun vs H Q E h => ?_) (fun f cdv A outer s H vs Q E hr h => ?_)
  · obtain ⟨_, _, _, _, rfl, _⟩ := h; rfl
  · obtain ⟨wv, x, nn, ps, rfl, W, bo, q⟩ := h
    refine ⟨_, pss_cons (ps_tryQ (i := 2) rfl X.hw X.xw scRefd.nd rfl rfl (pxqs_one (pxq_call DA hr rfl (pa_cons (pv 0) (pa_cons (pv 1) pa_nil)) (fun _ _ z => z)))
        (fun v => pss_cons (ps_set (i := 3) scRefd.nd rfl (Or.inl rfl) (pe_callB (r := rIsPs K) call_isPs (by rfl) T.isi boot_isi (pa_cons (pv 2) (pa_cons (pe_tup (pa_cons (pe_glob (v := .ref (n 0)) rfl X.n0 rfl) (pa_cons (pe_glob (v := .ref (n 1)) rfl X.n1 rfl) (pa_cons (pe_glob (v := .ref (n 2)) rfl X.n2 rfl) (pa_cons (pe_glob (v := .ref (n 3)) rfl X.n3 rfl) (pa_cons (pe_glob (v := .ref (n 4)) rfl X.n4 rfl) (pa_cons (pe_glob (v := .ref (n 5)) rfl X.n5 rfl) (pa_cons (pe_glob (v := .ref (n 6)) rfl X.n6 rfl) (pa_cons (pe_glob (v := .ref (n 7)) rfl X.n7 rfl) pa_nil))))))))) pa_nil))))
          (pss_cons (ps_set (i := 4) scRefd.nd rfl (Or.inl rfl) (pe_callB (r := rIsPs K) call_isPs (by rfl) T.isi boot_isi (pa_cons (pv 2) (pa_cons (pe_tup (pa_cons (pe_glob (v := .ref (o 0)) rfl X.o0 rfl) (pa_cons (pe_glob (v := .ref (o 1)) rfl X.o1 rfl) (pa_cons (pe_glob (v := .ref (o 2)) rfl X.o2 rfl) (pa_cons (pe_glob (v := .ref (o 3)) rfl X.o3 rfl) (pa_cons (pe_glob (v := .ref (o 4)) rfl X.o4 rfl) (pa_cons (pe_glob (v := .ref (o 5)) rfl X.o5 rfl) pa_nil))))))) pa_nil))))
          (pss_one (ps_ret (pe_and (pe_callB (r := rIsP K) call_isP (by rfl) T.isi boot_isi (pa_cons (pv 2) (pa_cons (pe_glob (v := .ref C) rfl X.s0 rfl) pa_nil))) (pe_and (pe_callB (r := rIsP K) call_isP (by rfl) T.isi boot_isi (pa_cons (pv 2) (pa_cons (pe_bltn (v := .ty "ValueError") rfl X.ve boot_ve rfl) pa_nil))) (pe_and (pe_not (pv 3)) (pe_one (pe_not (pv 4)))))))))) rfl rfl)
      (pss_one (ps_ret pe_bl)), ?_⟩
    have Z := L2.excK_of X.kx
    refine ⟨_, rfl, _, rfl, wv, x, nn, ps, rfl, W, bo, ⟨C, rfl, X.sb, fun ea hea => ?_⟩⟩
    have he : (upd H ea (excP ea C none)) ea = some (excP ea C none) := upd_same
    have s1 := Same.new (o := excP ea C none) hea
    generalize upd H ea (excP ea C none) = H1 at he s1 ⊢
    refine ⟨_, rfl, by show 8 <= sizeLine; decide, fun p1 hp1 => ?_⟩
    have s2 := Same.new (o := HO.tup [.ref (n 0), .ref (n 1), .ref (n 2), .ref (n 3), .ref (n 4), .ref (n 5), .ref (n 6), .ref (n 7)]) hp1
    refine ⟨ea, C, p1, none, [.ref (n 0), .ref (n 1), .ref (n 2), .ref (n 3), .ref (n 4), .ref (n 5), .ref (n 6), .ref (n 7)], false, rfl, SqT.of upd_same, s2 _ _ he, Z, fun us r => by rw [vals_refs (l := [n 0, n 1, n 2, n 3, n 4, n 5, n 6, n 7]) r]; exact X.a8, ?_⟩
    replace he := s2 _ _ he
    replace s2 := s1.trans s2
    generalize upd H1 p1 (HO.tup [.ref (n 0), .ref (n 1), .ref (n 2), .ref (n 3), .ref (n 4), .ref (n 5), .ref (n 6), .ref (n 7)]) = H2 at s2 he ⊢
    refine ⟨_, rfl, by show 6 <= sizeLine; decide, fun p2 hp2 => ?_⟩
    have s3 := Same.new (o := HO.tup [.ref (o 0), .ref (o 1), .ref (o 2), .ref (o 3), .ref (o 4), .ref (o 5)]) hp2
    refine ⟨ea, C, p2, none, [.ref (o 0), .ref (o 1), .ref (o 2), .ref (o 3), .ref (o 4), .ref (o 5)], false, rfl, SqT.of upd_same, s3 _ _ he, Z, fun us r => by rw [vals_refs (l := [o 0, o 1, o 2, o 3, o 4, o 5]) r]; exact X.a6, ?_⟩
    replace he := s3 _ _ he
    replace s3 := s2.trans s3
    generalize upd H2 p2 (HO.tup [.ref (o 0), .ref (o 1), .ref (o 2), .ref (o 3), .ref (o 4), .ref (o 5)]) = H3 at s3 he ⊢
    exact ⟨_, rfl, ea, C, none, _, _, _, rfl, rfl, he, Z, X.yo, _, rfl, iteT ⟨_, rfl, ea, C, none, _, _, _, rfl, rfl, he, Z, X.yv, _, rfl, iteT ⟨_, rfl, _, rfl, _, rfl, iteT ⟨_, rfl, _, rfl, q _ s3⟩⟩⟩⟩
end
theorem kp_int (K : W.Frag) : PySem.W.kitOne K (.type "int") (.type "int") = some true := by first | rfl | decide +kernel
theorem kp_intb (K : W.Frag) : PySem.W.kitOne K (.type "int") (.type "bool") = some false := by first | rfl | decide +kernel
def spCorners : Sp := fun vs H Q _ => ∃ (wv : V) (n : Nat) (ps : List (Int × Int)), vs = [wv, .int (tC (ups n) ps)] /\ WebAt H wv n ps /\ WebOk n ps /\ ∀ H', Same H H' -> Q (.bl true) H'
def spLaw (K : W.Frag) : Sp := fun vs H Q _ => ∃ (a : Addr) (ns : List Int), vs = [.ref a] /\ SqL K H a (ns.map V.int) /\ ns.length <= 63 /\ ∀ H', Q (.bl true) H'
section
variable {P : Program} {w : World} {K : W.Frag} {mg : Str -> Option Value} {base : Heap}
seal PSs PS PE PI PA PT PG
theorem scCorners : FnScope ["_law_web_here", "_law_due", "_law_point", "_law_found"] ["_law_web_here", "_law_due"] (defScope sCorners) := ⟨rfl, rfl, rfl, by decide +kernel, rfl, by decide +kernel, by decide +kernel⟩
theorem d_corners (T : Txt K mg) (S : Src K mg "_law_corners" sCorners ["_law_web_here", "_law_due"]) (DC : Def P w K mg base 11 "corner_at" ["web", "point"] spCorner) : Def P w K mg base 12 "_law_corners" ["_law_web_here", "_law_due"] spCorners := by
  refine S.def scCorners (fun vs H Q E h => ?_) (fun f cdv A outer s H vs Q E hr h => ?_)
  · obtain ⟨_, _, _, rfl, _⟩ := h; rfl
  · obtain ⟨wv, n, ps, rfl, W, ok, q⟩ := h
    obtain ⟨⟨n1, n9⟩, hb, h8⟩ := id ok
    obtain ⟨c, d, xs, rfl, hc, hd, ht⟩ := W.ex
    refine ⟨_, pss_cons (ps_for PassesOwn.never rfl (pi_range1 rfl T.range (pa_cons (pe_ix (ix_tupK K) (pv 0) pe_int (fun _ _ => rfl)) pa_nil)) (pg_name (i := 2) scCorners.nd rfl (Or.inl rfl))
        (pss_cons (ps_set (i := 3) scCorners.nd rfl (Or.inl rfl) (pe_def DC hr rfl (pa_cons (pv 0) (pa_cons (pv 2) pa_nil))))
        (pss_one (ps_if (PW.pt (pw_or (pt_not (pt_val (pe_callB (call_isiK K) (by rfl) T.isi boot_isi (pa_cons (pv 3) (pa_cons (pe_bltn (v := .ty "int") rfl T.int boot_int' rfl) pa_nil))))) (pw_or (pt_val (pe_callB (call_isiK K) (by rfl) T.isi boot_isi (pa_cons (pv 3) (pa_cons (pe_bltn (v := .ty "bool") rfl T.bool boot_bool' rfl) pa_nil)))) (pw_or1 (pt_cmpR op_ne (pv 3) (pv 1) (nomark _)))))) (pss_one (ps_ret pe_bl)) pss_nil))))
      (pss_one (ps_ret pe_bl)), ?_⟩
    have i0 : atI ([.int (n : Int), .ref d] : List V) 0 = some (.int (n : Int)) := atI_nat (j := 0) rfl
    refine ⟨_, rfl, c, _, _, _, rfl, rfl, SqT.of hc, i0, (n : Int), rfl, by lia, by lia, ?_⟩
    rw [Int.toNat_natCast]
    refine for_range (lo := 0) (n := n) (fun j σ H' => (∃ u v, σ = [some (.ref c), some (.int (tC (ups n) ps)), u, v]) /\ Same H H') ⟨⟨_, _, rfl⟩, Same.refl _⟩ ?_ ?_
    · rintro j σ H1 hj ⟨⟨u, v, rfl⟩, sm⟩
      rw [show (0 : Int) + (j : Int) = (j : Int) by lia]
      dsimp only [gName, List.set]
      refine ⟨_, rfl, _, rfl, .ref c, n, j, ps, rfl, W.same sm, ok, hj, fun H2 s2 => ?_⟩
      dsimp only [List.set]
      refine ⟨_, rfl, _, _, _, _, _, rfl, rfl, .int _, kp_int K, _, rfl, iteF ⟨_, rfl, _, _, _, _, _, rfl, rfl, .int _, kp_intb K, _, rfl, iteF ⟨_, rfl, _, rfl, rfl, _, rfl, ?_⟩⟩⟩
      rw [decide_eq_true rfl]
      exact iteF ⟨⟨_, _, rfl⟩, sm.trans s2⟩
    · rintro σ H1 ⟨⟨u, v, rfl⟩, sm⟩
      exact q H1 sm
theorem scLaw : FnScope ["_law_script", "_law_web_here", "_law_due", "_law_cell"] ["_law_script"] (defScope sLaw) := ⟨rfl, rfl, rfl, by decide +kernel, rfl, by decide +kernel, by decide +kernel⟩
theorem ok_law {f : Addr} {fd : FuncData} (F : Fun K "law" "law" sLaw f fd) (DB : Def P w K mg base 2 "_law_web" ["_law_script"] (spWeb56 K)) (DN : Def P w K mg base 2 "_law_count" ["_law_web_here"] spLCount) (DC : Def P w K mg base 12 "_law_corners" ["_law_web_here", "_law_due"] spCorners) (DT : Def P w K mg base 1 "_law_thing" ["_law_web_here", "_law_cell"] (spThing K)) (DF : Def P w K mg base 12 "_law_refused" ["_law_web_here", "_law_thing_here"] (spRefused K)) : FnOk P w K mg base CX0 13 f fd ["_law_script"] (spLaw K) := by
  refine F.ok scLaw (fun vs H Q E h => ?_) (fun cdv A outer s H vs Q E hr h => ?_)
  · obtain ⟨a, ns, rfl, _⟩ := h; rfl
  · obtain ⟨a, ns, rfl, hq, hlen, q⟩ := h
    have hr1 : Room 1 _ := hr.mono (by decide)
    have hr2 : Room 2 _ := hr.mono (by decide)
    refine ⟨_, pss_cons (ps_set (i := 1) scLaw.nd rfl (Or.inl rfl) (pe_def DB hr2 rfl (pa_cons (pv 0) pa_nil)))
      (pss_cons (ps_set (i := 2) scLaw.nd rfl (Or.inl rfl) (pe_def DN hr2 rfl (pa_cons (pv 1) pa_nil)))
      (pss_cons (ps_if (pt_not (pt_val (pe_def DC hr rfl (pa_cons (pv 1) (pa_cons (pv 2) pa_nil))))) (pss_one (ps_ret pe_bl)) pss_nil)
      (pss_cons (ps_for PassesOwn.never rfl (pi_seqK K .l (pe_slice (sl_listK K) (pv 0) (po_some pe_int) (po_some pe_int))) (pg_name (i := 3) scLaw.nd rfl (Or.inl rfl))
        (pss_one (ps_if (pt_not (pt_val (pe_def DF hr rfl (pa_cons (pv 1) (pa_cons (pe_def DT hr1 rfl (pa_cons (pv 1) (pa_cons (pv 3) pa_nil))) pa_nil))))) (pss_one (ps_ret pe_bl)) pss_nil)))
      (pss_one (ps_ret (pe_and (pe_def DF hr rfl (pa_cons (pv 1) (pa_cons (pe_ix (ix_tupK K) (pv 1) pe_int (fun _ _ => rfl)) pa_nil))) (pe_and (pe_def DF hr rfl (pa_cons (pv 1) (pa_cons (pe_un un_neg pe_int) pa_nil))) (pe_one (pe_def DC hr rfl (pa_cons (pv 1) (pa_cons (pv 2) pa_nil))))))))))), ?_⟩
    refine seq_abs fun M hM => ?_
    refine ⟨_, rfl, a, ns, rfl, hq, fun wv n0 ps H1 s1 W ok => hM _ _ ?_⟩
    clear hM M
    obtain ⟨⟨n1, n9⟩, hb, h8⟩ := id ok
    obtain ⟨n, rfl⟩ := Int.eq_ofNat_of_zero_le (show 0 <= n0 by lia)
    try dsimp only [List.set]
    refine seq_abs fun M hM => ?_
    refine ⟨_, rfl, wv, n, ps, rfl, W, ok, fun H2 s2 => hM _ _ ?_⟩
    clear hM M
    replace W := W.same s2
    replace s2 := s1.trans s2
    try dsimp only [List.set]
    refine seq_abs fun M hM => ?_
    refine ⟨_, rfl, _, rfl, wv, n, ps, rfl, W, ok, fun H3 s3 => ⟨_, rfl, iteF (hM _ _ ?_)⟩⟩
    clear hM M
    replace W := W.same s3
    replace s3 := s2.trans s3
    clear s1 s2
    refine seq_abs fun M hM => ?_
    refine ⟨_, rfl, _, rfl, _, rfl, a, _, rfl, s3.seq hq, fun p1 hp1 => ⟨p1, rfl, ⟨_, SqL.of upd_same⟩, ?_⟩⟩
    obtain ⟨ms, em, ml⟩ := cut_len ns 9 21
    have em' : cutV (ns.map V.int) (some 9) (some 21) = ms.map V.int := em
    rw [em']
    have s4 := Same.new (o := HO.lst (ms.map V.int)) hp1
    have h4 : (upd H3 p1 (.lst (ms.map V.int))) p1 = some (.lst (ms.map V.int)) := upd_same
    replace W := W.same s4
    generalize upd H3 p1 (.lst (ms.map V.int)) = H4 at s4 h4 W ⊢
    refine for_seq (k := .l) (K := K) (a := p1) (xs := ms.map V.int) (fun i σ H' => (∃ u, σ = [some (.ref a), some wv, some (.int (tC (ups n) ps)), u]) /\ Same H4 H') ⟨⟨_, rfl⟩, Same.refl _⟩ (fun i σ H' _ z => SqL.of (z.2 _ _ h4)) ?_ ?_
    · rintro i x σ H5 hx ⟨⟨u, rfl⟩, sm⟩
      obtain ⟨cell, ec, rfl⟩ := get_int' hx
      dsimp only [gName, List.set]
      refine ⟨_, rfl, _, rfl, _, rfl, wv, n, cell, ps, rfl, W.same sm, n1, fun x H6 s6 bx => ?_⟩
      refine ⟨wv, x, n, ps, rfl, W.same (sm.trans s6), bx, fun H7 s7 => ⟨_, rfl, iteF ⟨⟨_, rfl⟩, sm.trans (s6.trans s7)⟩⟩⟩
    · rintro σ H5 ⟨⟨u, rfl⟩, sm⟩
      refine hM _ _ ?_
      clear hM M
      replace W := W.same sm
      obtain ⟨c, d, xs, rfl, hc, hd, ht⟩ := id W.ex
      have i0 : atI ([.int (n : Int), .ref d] : List V) 0 = some (.int (n : Int)) := atI_nat (j := 0) rfl
      refine ⟨_, rfl, _, rfl, c, _, _, _, rfl, rfl, SqT.of hc, i0, .ref c, .int n, n, ps, rfl, W, bad_big _ _ (by lia), fun H6 s6 => ⟨_, rfl, iteT ?_⟩⟩
      refine ⟨_, rfl, _, rfl, .ref c, .int (-1), n, ps, rfl, W.same s6, bad_neg _ _ (by decide), fun H7 s7 => ⟨_, rfl, iteT ?_⟩⟩
      exact ⟨_, rfl, _, rfl, .ref c, n, ps, rfl, W.same (s6.trans s7), ok, fun H8 s8 => q _⟩
end
def mroT (K : W.Frag) (C : Addr) : List Value := match K.lookup C with | some o => (match o.data with | .cls cd => cd.mro.tail | _ => []) | none => []
def n56 (a b c d e f g h : Addr) : Fin 8 -> Addr := fun k => match k with | 0 => a | 1 => b | 2 => c | 3 => d | 4 => e | 5 => f | 6 => g | 7 => h
def o56 (a b c d e f : Addr) : Fin 6 -> Addr := fun i => match i with | 0 => a | 1 => b | 2 => c | 3 => d | 4 => e | 5 => f
def chk56b (K : W.Frag) (C0 CW : Addr) : Bool := excB K C0 (mroT K C0) && excB K CW (mroT K CW)
theorem chk56b_of {K : W.Frag} {C0 CW : Addr} (h : chk56b K C0 CW = true) : excB K C0 (mroT K C0) = true /\ excB K CW (mroT K CW) = true := by
  unfold chk56b at h
  simp only [Bool.and_eq_true] at h
  exact h
def chk56 (K : W.Frag) (c : Addr) (n : Fin 8 -> Addr) (o : Fin 6 -> Addr) (Wc : Addr) : Bool := decide (excKB K c = true /\ PySem.W.subIn K (.ref c) (.ref Wc) = some true /\ PySem.W.kitOne K (.ref c) (.type "ValueError") = some true /\ PySem.W.kitOne K (.ref c) (.ref c) = some true /\ PySem.W.kitAny K (.ref c) [.ref (n 0), .ref (n 1), .ref (n 2), .ref (n 3), .ref (n 4), .ref (n 5), .ref (n 6), .ref (n 7)] = some false /\ PySem.W.kitAny K (.ref c) [.ref (o 0), .ref (o 1), .ref (o 2), .ref (o 3), .ref (o 4), .ref (o 5)] = some false)
theorem src_mk {K : W.Frag} {h : Heap} {mg : Str -> Option Value} {x : Str} {st : Stmt} {f : Addr} {ps : List Str} {oc : Value} {od an : Option Addr} {osl : Array (Option Value)} {kV doc pm cdv ct : Value} (X : K.In h) (G : h.Ns mainGlobals mg)
    (a : PySem.W.nsIn K mainGlobals x = some (some (.ref f))) (l : K.lookup f = some ⟨oc, od, .func (PySem.W.fnOf x x (defArgs st) (defBody st) (defScope st) .none kV doc pm an cdv ct), osl⟩) (c : PySem.W.codeIn K cdv x = true) (k : PySem.W.keepIn K (.ref f) = true)
    (hb : ∀ (kV doc pm : Value) (an : Option Addr) (cdv ct : Value) (us : List Value), us.length = ps.length -> bindArgs (PySem.W.fnOf x x (defArgs st) (defBody st) (defScope st) .none kV doc pm an cdv ct) ⟨us, []⟩ = pure (ps.zip us)) : Src K mg x st ps :=
  ⟨_, _, fun_mk (st := st) l c k, (fun_mk (st := st) l c k).binds hb, PySem.W.mg_of X G a⟩
theorem lenC {p : List Value -> Prop} {n : Nat} (h : ∀ (a : Value) (us : List Value), us.length = n -> p (a :: us)) : ∀ us : List Value, us.length = n + 1 -> p us := fun us hl => by
  cases us with
  | nil => cases hl
  | cons a us => exact h a us (Nat.succ.inj hl)
theorem len0 {p : List Value -> Prop} (h : p []) : ∀ us : List Value, us.length = 0 -> p us := fun us hl => by
  rw [List.length_eq_zero_iff.mp hl]
  exact h
theorem len1 {p : List Value -> Prop} (h : ∀ a, p [a]) : ∀ us : List Value, us.length = 1 -> p us := lenC fun a => len0 (p := fun us => p (a :: us)) (h a)
theorem len2 {p : List Value -> Prop} (h : ∀ a b, p [a, b]) : ∀ us : List Value, us.length = 2 -> p us := lenC fun a => len1 (p := fun us => p (a :: us)) (h a)
theorem len3 {p : List Value -> Prop} (h : ∀ a b c, p [a, b, c]) : ∀ us : List Value, us.length = 3 -> p us := lenC fun a => len2 (p := fun us => p (a :: us)) (h a)
theorem all_mk {l : PySem.W.OpenLaw} {w : World} {K : W.Frag} {h : Heap} {mg : Str -> Option Value} {fa : Addr} (X : K.In h) (G : h.Ns mainGlobals mg) (hfa : mg "law" = some (.ref fa))
    {f0 : Addr} {od0 an0 : Option Addr} {sl0 : Array (Option Value)} {oc0 kV0 dc0 pm0 cd0 ct0 : Value}
    (a0 : PySem.W.nsIn K mainGlobals "is_whole" = some (some (.ref f0))) (l0 : K.lookup f0 = some ⟨oc0, od0, .func (PySem.W.fnOf "is_whole" "is_whole" (defArgs sIsWhole) (defBody sIsWhole) (defScope sIsWhole) .none kV0 dc0 pm0 an0 cd0 ct0), sl0⟩) (c0 : PySem.W.codeIn K cd0 "is_whole" = true) (k0 : PySem.W.keepIn K (.ref f0) = true)
    {f1 : Addr} {od1 an1 : Option Addr} {sl1 : Array (Option Value)} {oc1 kV1 dc1 pm1 cd1 ct1 : Value}
    (a1 : PySem.W.nsIn K mainGlobals "is_whole_within" = some (some (.ref f1))) (l1 : K.lookup f1 = some ⟨oc1, od1, .func (PySem.W.fnOf "is_whole_within" "is_whole_within" (defArgs sWithin) (defBody sWithin) (defScope sWithin) .none kV1 dc1 pm1 an1 cd1 ct1), sl1⟩) (c1 : PySem.W.codeIn K cd1 "is_whole_within" = true) (k1 : PySem.W.keepIn K (.ref f1) = true)
    {f2 : Addr} {od2 an2 : Option Addr} {sl2 : Array (Option Value)} {oc2 kV2 dc2 pm2 cd2 ct2 : Value}
    (a2 : PySem.W.nsIn K mainGlobals "refuse_no_point_of" = some (some (.ref f2))) (l2 : K.lookup f2 = some ⟨oc2, od2, .func (PySem.W.fnOf "refuse_no_point_of" "refuse_no_point_of" (defArgs sNoPt) (defBody sNoPt) (defScope sNoPt) .none kV2 dc2 pm2 an2 cd2 ct2), sl2⟩) (c2 : PySem.W.codeIn K cd2 "refuse_no_point_of" = true) (k2 : PySem.W.keepIn K (.ref f2) = true)
    {f3 : Addr} {od3 an3 : Option Addr} {sl3 : Array (Option Value)} {oc3 kV3 dc3 pm3 cd3 ct3 : Value}
    (a3 : PySem.W.nsIn K mainGlobals "corner_at" = some (some (.ref f3))) (l3 : K.lookup f3 = some ⟨oc3, od3, .func (PySem.W.fnOf "corner_at" "corner_at" (defArgs sCorner) (defBody sCorner) (defScope sCorner) .none kV3 dc3 pm3 an3 cd3 ct3), sl3⟩) (c3 : PySem.W.codeIn K cd3 "corner_at" = true) (k3 : PySem.W.keepIn K (.ref f3) = true)
    {f4 : Addr} {od4 an4 : Option Addr} {sl4 : Array (Option Value)} {oc4 kV4 dc4 pm4 cd4 ct4 : Value}
    (a4 : PySem.W.nsIn K mainGlobals "table_of_points" = some (some (.ref f4))) (l4 : K.lookup f4 = some ⟨oc4, od4, .func (PySem.W.fnOf "table_of_points" "table_of_points" (defArgs sTable) (defBody sTable) (defScope sTable) .none kV4 dc4 pm4 an4 cd4 ct4), sl4⟩) (c4 : PySem.W.codeIn K cd4 "table_of_points" = true) (k4 : PySem.W.keepIn K (.ref f4) = true)
    {f5 : Addr} {od5 an5 : Option Addr} {sl5 : Array (Option Value)} {oc5 kV5 dc5 pm5 cd5 ct5 : Value}
    (a5 : PySem.W.nsIn K mainGlobals "without_place" = some (some (.ref f5))) (l5 : K.lookup f5 = some ⟨oc5, od5, .func (PySem.W.fnOf "without_place" "without_place" (defArgs sWoP) (defBody sWoP) (defScope sWoP) .none kV5 dc5 pm5 an5 cd5 ct5), sl5⟩) (c5 : PySem.W.codeIn K cd5 "without_place" = true) (k5 : PySem.W.keepIn K (.ref f5) = true)
    {f6 : Addr} {od6 an6 : Option Addr} {sl6 : Array (Option Value)} {oc6 kV6 dc6 pm6 cd6 ct6 : Value}
    (a6 : PySem.W.nsIn K mainGlobals "determinant" = some (some (.ref f6))) (l6 : K.lookup f6 = some ⟨oc6, od6, .func (PySem.W.fnOf "determinant" "determinant" (defArgs sDet) (defBody sDet) (defScope sDet) .none kV6 dc6 pm6 an6 cd6 ct6), sl6⟩) (c6 : PySem.W.codeIn K cd6 "determinant" = true) (k6 : PySem.W.keepIn K (.ref f6) = true)
    {f7 : Addr} {od7 an7 : Option Addr} {sl7 : Array (Option Value)} {oc7 kV7 dc7 pm7 cd7 ct7 : Value}
    (a7 : PySem.W.nsIn K mainGlobals "_law_at" = some (some (.ref f7))) (l7 : K.lookup f7 = some ⟨oc7, od7, .func (PySem.W.fnOf "_law_at" "_law_at" (defArgs sAt) (defBody sAt) (defScope sAt) .none kV7 dc7 pm7 an7 cd7 ct7), sl7⟩) (c7 : PySem.W.codeIn K cd7 "_law_at" = true) (k7 : PySem.W.keepIn K (.ref f7) = true)
    {f8 : Addr} {od8 an8 : Option Addr} {sl8 : Array (Option Value)} {oc8 kV8 dc8 pm8 cd8 ct8 : Value}
    (a8 : PySem.W.nsIn K mainGlobals "_law_web" = some (some (.ref f8))) (l8 : K.lookup f8 = some ⟨oc8, od8, .func (PySem.W.fnOf "_law_web" "_law_web" (defArgs sWeb) (defBody sWeb) (defScope sWeb) .none kV8 dc8 pm8 an8 cd8 ct8), sl8⟩) (c8 : PySem.W.codeIn K cd8 "_law_web" = true) (k8 : PySem.W.keepIn K (.ref f8) = true)
    {f9 : Addr} {od9 an9 : Option Addr} {sl9 : Array (Option Value)} {oc9 kV9 dc9 pm9 cd9 ct9 : Value}
    (a9 : PySem.W.nsIn K mainGlobals "_law_rank" = some (some (.ref f9))) (l9 : K.lookup f9 = some ⟨oc9, od9, .func (PySem.W.fnOf "_law_rank" "_law_rank" (defArgs sLRank) (defBody sLRank) (defScope sLRank) .none kV9 dc9 pm9 an9 cd9 ct9), sl9⟩) (c9 : PySem.W.codeIn K cd9 "_law_rank" = true) (k9 : PySem.W.keepIn K (.ref f9) = true)
    {f10 : Addr} {od10 an10 : Option Addr} {sl10 : Array (Option Value)} {oc10 kV10 dc10 pm10 cd10 ct10 : Value}
    (a10 : PySem.W.nsIn K mainGlobals "_law_pick" = some (some (.ref f10))) (l10 : K.lookup f10 = some ⟨oc10, od10, .func (PySem.W.fnOf "_law_pick" "_law_pick" (defArgs sPick) (defBody sPick) (defScope sPick) .none kV10 dc10 pm10 an10 cd10 ct10), sl10⟩) (c10 : PySem.W.codeIn K cd10 "_law_pick" = true) (k10 : PySem.W.keepIn K (.ref f10) = true)
    {f11 : Addr} {od11 an11 : Option Addr} {sl11 : Array (Option Value)} {oc11 kV11 dc11 pm11 cd11 ct11 : Value}
    (a11 : PySem.W.nsIn K mainGlobals "_law_count" = some (some (.ref f11))) (l11 : K.lookup f11 = some ⟨oc11, od11, .func (PySem.W.fnOf "_law_count" "_law_count" (defArgs sCount) (defBody sCount) (defScope sCount) .none kV11 dc11 pm11 an11 cd11 ct11), sl11⟩) (c11 : PySem.W.codeIn K cd11 "_law_count" = true) (k11 : PySem.W.keepIn K (.ref f11) = true)
    {f12 : Addr} {od12 an12 : Option Addr} {sl12 : Array (Option Value)} {oc12 kV12 dc12 pm12 cd12 ct12 : Value}
    (a12 : PySem.W.nsIn K mainGlobals "_law_thing" = some (some (.ref f12))) (l12 : K.lookup f12 = some ⟨oc12, od12, .func (PySem.W.fnOf "_law_thing" "_law_thing" (defArgs sThing) (defBody sThing) (defScope sThing) .none kV12 dc12 pm12 an12 cd12 ct12), sl12⟩) (c12 : PySem.W.codeIn K cd12 "_law_thing" = true) (k12 : PySem.W.keepIn K (.ref f12) = true)
    {f13 : Addr} {od13 an13 : Option Addr} {sl13 : Array (Option Value)} {oc13 kV13 dc13 pm13 cd13 ct13 : Value}
    (a13 : PySem.W.nsIn K mainGlobals "_law_refused" = some (some (.ref f13))) (l13 : K.lookup f13 = some ⟨oc13, od13, .func (PySem.W.fnOf "_law_refused" "_law_refused" (defArgs sRefused) (defBody sRefused) (defScope sRefused) .none kV13 dc13 pm13 an13 cd13 ct13), sl13⟩) (c13 : PySem.W.codeIn K cd13 "_law_refused" = true) (k13 : PySem.W.keepIn K (.ref f13) = true)
    {f14 : Addr} {od14 an14 : Option Addr} {sl14 : Array (Option Value)} {oc14 kV14 dc14 pm14 cd14 ct14 : Value}
    (a14 : PySem.W.nsIn K mainGlobals "_law_corners" = some (some (.ref f14))) (l14 : K.lookup f14 = some ⟨oc14, od14, .func (PySem.W.fnOf "_law_corners" "_law_corners" (defArgs sCorners) (defBody sCorners) (defScope sCorners) .none kV14 dc14 pm14 an14 cd14 ct14), sl14⟩) (c14 : PySem.W.codeIn K cd14 "_law_corners" = true) (k14 : PySem.W.keepIn K (.ref f14) = true)
    {f15 : Addr} {od15 an15 : Option Addr} {sl15 : Array (Option Value)} {oc15 kV15 dc15 pm15 cd15 ct15 : Value}
    (a15 : PySem.W.nsIn K mainGlobals "law" = some (some (.ref f15))) (l15 : K.lookup f15 = some ⟨oc15, od15, .func (PySem.W.fnOf "law" "law" (defArgs sLaw) (defBody sLaw) (defScope sLaw) .none kV15 dc15 pm15 an15 cd15 ct15), sl15⟩) (c15 : PySem.W.codeIn K cd15 "law" = true) (k15 : PySem.W.keepIn K (.ref f15) = true)
    (z0 : PySem.W.nsIn K mainGlobals "isinstance" = some none)
    (z1 : PySem.W.nsIn K mainGlobals "int" = some none)
    (z2 : PySem.W.nsIn K mainGlobals "bool" = some none)
    (z3 : PySem.W.nsIn K mainGlobals "len" = some none)
    (z4 : PySem.W.nsIn K mainGlobals "tuple" = some none)
    (z5 : PySem.W.nsIn K mainGlobals "all" = some none)
    (z6 : PySem.W.nsIn K mainGlobals "list" = some none)
    (z7 : PySem.W.nsIn K mainGlobals "min" = some none)
    (z8 : PySem.W.nsIn K mainGlobals "max" = some none)
    (z9 : PySem.W.nsIn K mainGlobals "range" = some none)
    (z10 : PySem.W.nsIn K mainGlobals "set" = some none)
    (z11 : PySem.W.nsIn K mainGlobals "sorted" = some none)
    (z12 : PySem.W.nsIn K mainGlobals "enumerate" = some none)
    (z13 : PySem.W.nsIn K mainGlobals "ValueError" = some none)
    {E0 : Addr} (qE0 : PySem.W.nsIn K mainGlobals "NoPoint" = some (some (.ref E0)))
    {N0 : Addr} (qN0 : PySem.W.nsIn K mainGlobals "NoDrawing" = some (some (.ref N0)))
    {N1 : Addr} (qN1 : PySem.W.nsIn K mainGlobals "NoNumber" = some (some (.ref N1)))
    {N2 : Addr} (qN2 : PySem.W.nsIn K mainGlobals "NoOrder" = some (some (.ref N2)))
    {N3 : Addr} (qN3 : PySem.W.nsIn K mainGlobals "NoPlaces" = some (some (.ref N3)))
    {N4 : Addr} (qN4 : PySem.W.nsIn K mainGlobals "NoSuch" = some (some (.ref N4)))
    {N5 : Addr} (qN5 : PySem.W.nsIn K mainGlobals "NoText" = some (some (.ref N5)))
    {N6 : Addr} (qN6 : PySem.W.nsIn K mainGlobals "NoTie" = some (some (.ref N6)))
    {N7 : Addr} (qN7 : PySem.W.nsIn K mainGlobals "NotApart" = some (some (.ref N7)))
    {O0 : Addr} (qO0 : PySem.W.nsIn K mainGlobals "NoName" = some (some (.ref O0)))
    {O1 : Addr} (qO1 : PySem.W.nsIn K mainGlobals "NoRow" = some (some (.ref O1)))
    {O2 : Addr} (qO2 : PySem.W.nsIn K mainGlobals "NotJoined" = some (some (.ref O2)))
    {O3 : Addr} (qO3 : PySem.W.nsIn K mainGlobals "NotPlane" = some (some (.ref O3)))
    {O4 : Addr} (qO4 : PySem.W.nsIn K mainGlobals "TooMany" = some (some (.ref O4)))
    {O5 : Addr} (qO5 : PySem.W.nsIn K mainGlobals "NoWeb" = some (some (.ref O5)))
    {CW : Addr} (qw : PySem.W.nsIn K mainGlobals "WebError" = some (some (.ref CW)))
    (x1 : chk56b K E0 CW = true)
    (x2 : chk56 K E0 (n56 N0 N1 N2 N3 N4 N5 N6 N7) (o56 O0 O1 O2 O3 O4 O5) CW = true)
    : ∃ fd : FuncData, (∀ (s : Shared) (v : Value), BindsTo s fd ⟨[v], []⟩ [("_law_script", v)]) /\ ∀ base : Heap, K.In base -> base.Ns mainGlobals mg -> FnOk l.prog w K mg base CX0 13 fa fd ["_law_script"] (spLaw K) := by
  have e := hfa.symm.trans (PySem.W.mg_of X G a15)
  cases e
  have S0 : Src K mg "is_whole" sIsWhole ["thing"] := src_mk X G a0 l0 c0 k0 fun _ _ _ _ _ _ => len1 (fun _ => rfl)
  have S1 : Src K mg "is_whole_within" sWithin ["thing", "least", "greatest"] := src_mk X G a1 l1 c1 k1 fun _ _ _ _ _ _ => len3 (fun _ _ _ => rfl)
  have S2 : Src K mg "refuse_no_point_of" sNoPt ["web", "point"] := src_mk X G a2 l2 c2 k2 fun _ _ _ _ _ _ => len2 (fun _ _ => rfl)
  have S3 : Src K mg "corner_at" sCorner ["web", "point"] := src_mk X G a3 l3 c3 k3 fun _ _ _ _ _ _ => len2 (fun _ _ => rfl)
  have S4 : Src K mg "table_of_points" sTable ["web"] := src_mk X G a4 l4 c4 k4 fun _ _ _ _ _ _ => len1 (fun _ => rfl)
  have S5 : Src K mg "without_place" sWoP ["things", "place"] := src_mk X G a5 l5 c5 k5 fun _ _ _ _ _ _ => len2 (fun _ _ => rfl)
  have S6 : Src K mg "determinant" sDet ["rows"] := src_mk X G a6 l6 c6 k6 fun _ _ _ _ _ _ => len1 (fun _ => rfl)
  have S7 : Src K mg "_law_at" sAt ["_law_script", "_law_k"] := src_mk X G a7 l7 c7 k7 fun _ _ _ _ _ _ => len2 (fun _ _ => rfl)
  have S8 : Src K mg "_law_web" sWeb ["_law_script"] := src_mk X G a8 l8 c8 k8 fun _ _ _ _ _ _ => len1 (fun _ => rfl)
  have S9 : Src K mg "_law_rank" sLRank ["_law_web_here", "_law_pick_here"] := src_mk X G a9 l9 c9 k9 fun _ _ _ _ _ _ => len2 (fun _ _ => rfl)
  have S10 : Src K mg "_law_pick" sPick ["_law_mask", "_law_many"] := src_mk X G a10 l10 c10 k10 fun _ _ _ _ _ _ => len2 (fun _ _ => rfl)
  have S11 : Src K mg "_law_count" sCount ["_law_web_here"] := src_mk X G a11 l11 c11 k11 fun _ _ _ _ _ _ => len1 (fun _ => rfl)
  have S12 : Src K mg "_law_thing" sThing ["_law_web_here", "_law_cell"] := src_mk X G a12 l12 c12 k12 fun _ _ _ _ _ _ => len2 (fun _ _ => rfl)
  have S13 : Src K mg "_law_refused" sRefused ["_law_web_here", "_law_thing_here"] := src_mk X G a13 l13 c13 k13 fun _ _ _ _ _ _ => len2 (fun _ _ => rfl)
  have S14 : Src K mg "_law_corners" sCorners ["_law_web_here", "_law_due"] := src_mk X G a14 l14 c14 k14 fun _ _ _ _ _ _ => len2 (fun _ _ => rfl)
  have T : Txt K mg := ⟨PySem.W.mg_none_of X G z0, PySem.W.mg_none_of X G z1, PySem.W.mg_none_of X G z2, PySem.W.mg_none_of X G z3, PySem.W.mg_none_of X G z4, PySem.W.mg_none_of X G z5, PySem.W.mg_none_of X G z6, PySem.W.mg_none_of X G z7, PySem.W.mg_none_of X G z8, PySem.W.mg_none_of X G z9, PySem.W.mg_none_of X G z10, PySem.W.mg_none_of X G z11⟩
  have hen : mg "enumerate" = none := PySem.W.mg_none_of X G z12
  obtain ⟨xa, xc⟩ := chk56b_of x1
  have x3 := of_decide_eq_true x2
  have XR : ExcR K mg E0 (n56 N0 N1 N2 N3 N4 N5 N6 N7) (o56 O0 O1 O2 O3 O4 O5) CW (mroT K CW) := ⟨PySem.W.mg_of X G qE0, PySem.W.mg_of X G qN0, PySem.W.mg_of X G qN1, PySem.W.mg_of X G qN2, PySem.W.mg_of X G qN3, PySem.W.mg_of X G qN4, PySem.W.mg_of X G qN5, PySem.W.mg_of X G qN6, PySem.W.mg_of X G qN7, PySem.W.mg_of X G qO0, PySem.W.mg_of X G qO1, PySem.W.mg_of X G qO2, PySem.W.mg_of X G qO3, PySem.W.mg_of X G qO4, PySem.W.mg_of X G qO5, PySem.W.mg_of X G qw, PySem.W.mg_none_of X G z13, xc, x3.1, x3.2.1, x3.2.2.1, x3.2.2.2.1, x3.2.2.2.2.1, x3.2.2.2.2.2⟩
  refine ⟨PySem.W.fnOf "law" "law" (defArgs sLaw) (defBody sLaw) (defScope sLaw) .none kV15 dc15 pm15 an15 cd15 ct15, fun s v => .of_eq rfl, fun base _ _ => ?_⟩
  have W1 : Def l.prog w K mg base 1 _ _ _ := d_wholeP T S0
  have WI : Def l.prog w K mg base 2 _ _ _ := d_withinP T S1 W1
  have NP : Def l.prog w K mg base 3 _ _ _ := d_nopt S2 WI
  have NB : DefQ l.prog w K mg base 3 _ _ _ := d_noptB S2 XR.s0 xa WI
  have WO : Def l.prog w K mg base 1 _ _ _ := d_wop S5
  have TA : Def l.prog w K mg base 1 _ _ _ := d_table T S4
  have DD := d_det (P := l.prog) (w := w) (base := base) hen S6 WO
  have CO : Def l.prog w K mg base 11 _ _ _ := d_corner S3 NP TA WO DD
  have CB : DefQ l.prog w K mg base 11 _ _ _ := d_cornB S3 NB TA WO DD
  have AT : Def l.prog w K mg base 1 _ _ _ := d_at T S7
  have WB : Def l.prog w K mg base 2 _ _ _ := d_web T hen S8 AT
  have RK : Def l.prog w K mg base 1 _ _ _ := d_lrank T S9
  have PK : Def l.prog w K mg base 1 _ _ _ := d_pick T S10
  have CN : Def l.prog w K mg base 2 _ _ _ := d_count T S11 RK PK
  have TH : Def l.prog w K mg base 1 _ _ _ := d_thing S12
  have RF : Def l.prog w K mg base 12 _ _ _ := d_refused T XR S13 CB
  have CS : Def l.prog w K mg base 12 _ _ _ := d_corners T S14 CO
  exact ok_law (fun_mk (st := sLaw) l15 c15 k15) WB CN CS TH RF
theorem walk {l : PySem.W.OpenLaw} {q : Program} {loose : List Str} {XP : (Str -> Option Value) -> Heap -> Prop} {YP : World -> Heap -> Prop} {d : DefRec} {K : Params -> PySem.W.Frag} (hn : l.most = some 63) (hdf : d.params.defaults = [])
    (hY : ∀ (w : World) (h : Heap), YP w h -> (K w.params).In h)
    (F : ∀ (w : World) (mg : Str -> Option Value) (fa : Addr) (h : Heap), (K w.params).In h -> h.Ns mainGlobals mg -> mg d.name = some (.ref fa) ->
      ∃ fd : FuncData, (∀ (s : Shared) (u : Value), BindsTo s fd ⟨[u], []⟩ [("_law_script", u)]) /\ ∀ base : Heap, (K w.params).In base -> base.Ns mainGlobals mg -> FnOk l.prog w (K w.params) mg base CX0 13 fa fd ["_law_script"] (spLaw (K w.params))) :
    PySem.W.WalkO q loose XP YP l.row.toRowW d [] (fun f vs => PySem.call f vs) :=
  L2.walk_of (n := 63) (k := 13) (x := "_law_script") (CX := fun _ => CX0) (sp := fun w => spLaw (K w.params)) hn (by decide) hdf ⟨rfl, by decide, by decide⟩ hY F (fun _ _ a ns hl _ hS => ⟨a, ns, rfl, hS, hl, fun _ => rfl⟩) fun _ _ _ _ _ z => z
end My
def PySem.W.Fast.tw684748980813620111 : Unit := ()
def PySem.W.Fast.tw5713950449677141435 : Unit := ()
def PySem.W.Fast.tw8489062114916854248 : Unit := ()
def PySem.W.Fast.tw2532365560745506677 : Unit := ()
def PySem.W.Fast.tw11454297324273529747 : Unit := ()
def PySem.W.Fast.tw14047004300005107686 : Unit := ()
def PySem.W.Fast.tw9407348171666007276 : Unit := ()
def PySem.W.Fast.tw3974144024669734040 : Unit := ()
def PySem.W.Fast.tw18365502196376140730 : Unit := ()
def PySem.W.Fast.tw11479837260702092920 : Unit := ()
def PySem.W.Fast.tw13271844697454028048 : Unit := ()
def PySem.W.Fast.tw17297225444827245687 : Unit := ()
def PySem.W.Fast.tw4866041565492775483 : Unit := ()
def PySem.W.Fast.tw8493010978055826339 : Unit := ()
def PySem.W.Fast.tw10275885344798694306 : Unit := ()
def PySem.W.Fast.tw1458597047599778085 : Unit := ()
def PySem.W.Fast.tw6713433992484265878 : Unit := ()
def PySem.W.Fast.tw16958279007114457453 : Unit := ()
def PySem.W.Fast.tw8071548268890777547 : Unit := ()
open PySem PySem.W PyProof.Rows
set_option maxRecDepth 100000 in
set_option maxHeartbeats 0 in
theorem PySem.Challenge.cw_manycounts_k56_corners_holds : PySem.Challenge.rw_manycounts_k56_corners.Holds := by
  w_on; o_law; k_head; (case hw => w_witness2)
  k_fill
  refine My.walk (l := PySem.Challenge.rw_manycounts_k56_corners) rfl rfl (fun w h Y => PySem.W.kIn_of Y) ?F
  case F =>
    intro w mg fa h KX G hmg
    refine' My.all_mk KX G hmg ?a0 ?l0 ?c0 ?k0 ?a1 ?l1 ?c1 ?k1 ?a2 ?l2 ?c2 ?k2 ?a3 ?l3 ?c3 ?k3 ?a4 ?l4 ?c4 ?k4 ?a5 ?l5 ?c5 ?k5 ?a6 ?l6 ?c6 ?k6 ?a7 ?l7 ?c7 ?k7 ?a8 ?l8 ?c8 ?k8 ?a9 ?l9 ?c9 ?k9 ?a10 ?l10 ?c10 ?k10 ?a11 ?l11 ?c11 ?k11 ?a12 ?l12 ?c12 ?k12 ?a13 ?l13 ?c13 ?k13 ?a14 ?l14 ?c14 ?k14 ?a15 ?l15 ?c15 ?k15 ?z0 ?z1 ?z2 ?z3 ?z4 ?z5 ?z6 ?z7 ?z8 ?z9 ?z10 ?z11 ?z12 ?z13 ?qE0 ?qN0 ?qN1 ?qN2 ?qN3 ?qN4 ?qN5 ?qN6 ?qN7 ?qO0 ?qO1 ?qO2 ?qO3 ?qO4 ?qO5 ?qw ?x1 ?x2
    (case a0 => k_is); (case l0 => k_is); (case c0 => k_is); (case k0 => k_is)
    (case a1 => k_is); (case l1 => k_is); (case c1 => k_is); (case k1 => k_is)
    (case a2 => k_is); (case l2 => k_is); (case c2 => k_is); (case k2 => k_is)
    (case a3 => k_is); (case l3 => k_is); (case c3 => k_is); (case k3 => k_is)
    (case a4 => k_is); (case l4 => k_is); (case c4 => k_is); (case k4 => k_is)
    (case a5 => k_is); (case l5 => k_is); (case c5 => k_is); (case k5 => k_is)
    (case a6 => k_is); (case l6 => k_is); (case c6 => k_is); (case k6 => k_is)
    (case a7 => k_is); (case l7 => k_is); (case c7 => k_is); (case k7 => k_is)
    (case a8 => k_is); (case l8 => k_is); (case c8 => k_is); (case k8 => k_is)
    (case a9 => k_is); (case l9 => k_is); (case c9 => k_is); (case k9 => k_is)
    (case a10 => k_is); (case l10 => k_is); (case c10 => k_is); (case k10 => k_is)
    (case a11 => k_is); (case l11 => k_is); (case c11 => k_is); (case k11 => k_is)
    (case a12 => k_is); (case l12 => k_is); (case c12 => k_is); (case k12 => k_is)
    (case a13 => k_is); (case l13 => k_is); (case c13 => k_is); (case k13 => k_is)
    (case a14 => k_is); (case l14 => k_is); (case c14 => k_is); (case k14 => k_is)
    (case a15 => k_is); (case l15 => k_is); (case c15 => k_is); (case k15 => k_is)
    (case z0 => k_is); (case z1 => k_is); (case z2 => k_is); (case z3 => k_is)
    (case z4 => k_is); (case z5 => k_is); (case z6 => k_is); (case z7 => k_is)
    (case z8 => k_is); (case z9 => k_is); (case z10 => k_is); (case z11 => k_is)
    (case z12 => k_is); (case z13 => k_is)
    (case qE0 => k_is)
    (case qN0 => k_is)
    (case qN1 => k_is)
    (case qN2 => k_is)
    (case qN3 => k_is)
    (case qN4 => k_is)
    (case qN5 => k_is)
    (case qN6 => k_is)
    (case qN7 => k_is)
    (case qO0 => k_is)
    (case qO1 => k_is)
    (case qO2 => k_is)
    (case qO3 => k_is)
    (case qO4 => k_is)
    (case qO5 => k_is)
    (case qw => k_is)
    (case x1 => kernel_rfl)
    (case x2 => kernel_rfl)
